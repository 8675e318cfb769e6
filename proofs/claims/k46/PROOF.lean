import PyProof.Rows.All
import Wide.All
import OpenK.AllK
import Wide.FinOn
import Lean
import PyProof.EqAt
import PyProof.EqKinds
import PyProof.TupleCall
import PySem.Challenge.RW_ringbeat_k46_whole_growth
set_option Elab.async false
set_option linter.all false
set_option maxRecDepth 100000
open Array renaming length_toList→dF
open Bool renaming false_ne_true→aU,and_eq_true→bK,false_eq_true→df,or_eq_false_iff→pH,or_false→wG
open Int renaming mul_le_mul_of_nonneg_right→bm,mul_le_mul_of_nonneg_left→cr,le_of_lt→cN,le_refl→dr,mul_pos→dw,mul_le_mul→dQ,gcd→eR,le_of_mul_le_mul_right→eZ,mul_comm→e9,eq_of_mul_eq_mul_right→gZ,fdiv_eq_ediv_of_nonneg→hE,mul_nonneg→hG,mul_one→jM,mul_nonneg_of_nonpos_of_nonpos→kA,gcd_dvd_right→kW,toNat_natCast→kX,add_mul→lZ,nonneg_of_mul_nonneg_left→ma,one_mul→mh,emod_nonneg→mP,fmod_eq_emod_of_nonneg→nk,pos_of_mul_pos_right→n9,fdiv_eq_ediv_of_dvd→oE,fmod_nonneg_of_pos→o9,le_trans→pd,mul_ediv_cancel'→p9,mul_ediv_cancel→qR,toNat_of_nonneg→qS,emod_lt_of_pos→rP,fmod_lt_of_pos→rQ,gcd_dvd_left→tR,natAbs_mul→wH
open List renaming mem_cons_self→aa,mem_cons_of_mem→ah,mem_append_right→aw,mem_singleton→ax,length_map→ay,replicate→aA,mem_cons→aC,range→aE,size_toArray→aK,getElem?_eq_some_iff→aL,map_cons→aM,getElem?_map→aQ,length_cons→aV,length_append→aW,length_range→aY,mem_append→aZ,mem_filter→bc,mem_append_left→bg,nodup_append→bj,lookup_cons→bo,mem_range→bv,nodup_cons→bw,mem_map→bz,nodup_nil→bA,getElem?_eq_getElem→bG,sum_cons→bL,Nodup→bM,mem_iff_getElem?→bW,append_nil→cn,getElem?_append_left→cu,map_map→cv,replicate_succ→cJ,length_singleton→cL,getElem?_set_ne→cO,find?_cons→cY,map_append→cZ,length_replicate→de,not_mem_nil→dg,mem_iff_getElem→dm,length_reverse→dH,all_cons→dL,flatten_cons→d6,getElem?_range→el,map_congr_left→eo,length_zip→eK,any_cons→eM,append_assoc→eP,ext_getElem→e6,Pairwise→fw,foldl_cons→fD,getElem_range→fH,pairwise_cons→fI,zip_cons_cons→fJ,getElem?_replicate→fL,take_of_length_le→fR,length_filter_le→gh,countP_cons→gk,nodup_range→gq,range_eq_range'→gz,eq_nil_of_length_eq_zero→gA,lookup→gB,take_append_of_le_length→gC,of_mem_zip→gG,countP_append→gW,getElem?_append_right→gX,range'→iw,all_eq_true→iE,getElem_map→iF,length_drop→iG,length_take→iH,getElem?_set_self→iT,map_const'→iY,sum_append→iZ,length→jH,mem_of_mem_take→jI,filterMap_cons→jP,findIdx?_cons→ke,map_singleton→kh,ext_getElem?→kF,foldl_append→kG,map_nil→kI,reverse_cons→kJ,getElem_inj→lH,getElem_set→lI,map_reverse→lJ,forIn_cons→mj,mem_zipIdx_iff_getElem?→ml,perm_ext_iff_of_nodup→mZ,drop_eq_getElem_cons→nq,sublist_append_right→nr,idxOf_lt_length_iff→nL,map_drop→nM,append_cancel_left→og,filter_cons_of_neg→oh,filter_cons_of_pos→oj,length_eq_zero_iff→oo,drop_eq_nil_of_le→oF,drop_of_length_le→oG,countP_singleton→pf,getElem?_eq_none→pj,getElem?_reverse→pq,pairwise_reverse→pv,getElem_toArray→pI,mem_of_mem_drop→pJ,perm_cons_erase→pK,length_pos_iff→qA,contains_cons→qT,find?_eq_none→qU,foldl→qV,getElem_idxOf→qW,length_zipIdx→qX,mem_filterMap→qY,drop_sublist→rR,getElem?_set→rS,getElem_take→rT,idxOf_append→rV,filter_cons→sy,mem_reverse→sA,take_left'→tS,find?_some→tT,length_set→tU,zip_append→tV,forIn_nil→uF,contains→wI
open Nat renaming le_refl→aF,lt_of_lt_of_le→bn,ne_of_lt→br,le_trans→cx,zero_le→cK,pow_le_pow_right→dz,lt_irrefl→eh,lt_succ_of_lt→eS,min_self→gS,le_succ→iz,lt_succ_self→iO,lt_of_le_of_lt→kB,le_of_lt→kY,le_of_succ_le→kZ,pow_succ→la,log2_lt→mm,min_eq_left→mQ,mod_lt→nt,sub_zero→pw,le_add_right→tW,min_eq_right→tX,strongRecOn→uG,mul_le_mul→wJ
open Option renaming bind_some→cB,map_eq_some_iff→cU,isSome_map→ki,isSome_iff_exists→m5,getD_none→qZ,map_some→rW
open PyProof.Rows renaming callWith_type1→bO
open PySem renaming Value→af,Addr→ai,Shared→ak,starEach→ao,mainGlobals→aq,FuncData→aH,wpAny_bind→aO,Str→aR,Heap→aX,model→ba,wpAny→bi,NameKind→bq,Program→bx,eval→bF,Stmt→bR,bootBuiltins→bS,Around→bT,wpAny_pure→bU,PassesOwn→bV,World→bY,backTo→cy,compareOp→cD,sizeLine_eq→cH,strIterType→cM,assignEach→cQ,wpAny_Call_Name_kw→cS,Pos→cW,keywordEach→dh,behindInMarks→dC,foldedSetIterable→dJ,wpAny_mono→dM,Obj→dO,swapsWith→dW,binaryOp→d5,holding→d7,PyData→ej,attributeBase→er,sysModules→eQ,backToKw→eU,wpAny_passesOwn→eW,wpAny_truthy_bool→e7,Builtin→fE,Keyword→fS,tupleKind_room_in1→fV,Scope→fW,cLine→fX,codeAny→gx,assign→gI,getMethod→gJ,standAt→gN,swappedStores→gO,swapsWithSole→gP,sliceBounds→gU,letOwnedTupleGo→hJ,Operator→jD,callWith→jE,wpAny_execs_nil→jQ,Data→jY,newFunctionEnv→kC,wpAny_pyIter_revIter→kD,tupleKind→kK,CmpOp→lK,wpAny_holding→lL,wpAny_standAt→lM,call_meets→lT,callerA→mR,codeAny_mono→mS,getItem→mT,seqIndex_neg→mU,setItem→mV,valueAt→mW,wpAny_newObj_type→mX,revObj→nu,seqIndex_of→nN,subscripted→nO,wpAny_specialOf→oq,BindsTo→oH,Sem→oI,atKey→pz,closureFor→pA,compEnvC→pB,compPost→pC,typeLookup→pD,Code→qB,bindC→rf,bindL→rh,concat_meets→rX,isTrue→rY,release→rZ,builtinsNs→wK,typeIs_int→wL,wpAny_Name→wM
open PySem.Heap renaming get?_push_of_some→aD,lt_size→aP,get?_push_size→bB,size_push→fQ,SameBut→gM,get?_update_other→iS,get?_update_self→o8
open PySem.W renaming Frag→ae,keepIn→am,nsIn→ar,codeIn→av,mg_of→az,findIn→aB,mg_none_of→bJ,kitOne→bP,kia_one→cE,emptyDict→cT,plainGet→dc,hasDictIn→dq,isFn→dG,instObj→dS,makesIn→dU,plainOver→dX,specialIn→dY,mroIn→fk,methodCall_KW→fT,fnOf→gF,callWith_K→gK,cellsFrom_some→iC,findCls→iI,readsIn→iJ,lookIn→i6,plainGet_of→jF,kitx_list→jZ,methodObj→ka,OpenLaw→lf,takerIn→lh,takesIn→li,kitx_dict→pL,handedIn→qC,WalkO→sC
namespace L2
open PySem PySem.Spec PyProof.Rows
abbrev eX:=Sum Int aR
def nE:eX->af->Bool
 |.inl k,v=>af.isInt k v
 |.inr x,v=>af.isStrOf x v
def Mi (w:bY):eX->Int
 |.inl k=>hashInt k
 |.inr x=>hashStr w x
theorem vd:∀{k:eX} {v:af},nE k v=true->(∃i t,k=Sum.inl i/\v=af.int i t)\/(∃x t,k=Sum.inr x/\v=af.str x t)
 |.inl i,v,h=>by
  obtain⟨t,e⟩:=af.isInt_shape (k:=i) (v:=v) h
  exact .inl ⟨i,t,rfl,e⟩
 |.inr x,v,h=>by
  obtain⟨t,e⟩:=af.isStrOf_shape (x:=x) (v:=v) h
  exact .inr ⟨x,t,rfl,e⟩
theorem zkq (i:Int)(t:Tok):nE (.inl i) (.int i t)=true:=by simp[nE,af.isInt]
theorem zkr (x:aR)(t:Tok):nE (.inr x) (.str x t)=true:=by simp[nE,af.isStrOf]
theorem zta (a b:Int):decide ((Sum.inl a:eX)=Sum.inl b)=(a==b):=by
 by_cases e:a=b
 ·subst e;simp
 ·have h:¬(Sum.inl a:eX)=Sum.inl b:=λq=>e (Sum.inl.inj q)
  rw[decide_eq_false h]
  exact(beq_eq_false_iff_ne.mpr e).symm
theorem ztb (a b:aR):decide ((Sum.inr a:eX)=Sum.inr b)=decide (a=b):=by
 by_cases e:a=b
 ·subst e;simp
 ·have h:¬(Sum.inr a:eX)=Sum.inr b:=λq=>e (Sum.inr.inj q)
  rw[decide_eq_false h,decide_eq_false e]
theorem ztc (a:Int)(b:aR):decide ((Sum.inl a:eX)=Sum.inr b)=false:=decide_eq_false (λq=>nomatch q)
theorem ztd (a:aR)(b:Int):decide ((Sum.inr a:eX)=Sum.inl b)=false:=decide_eq_false (λq=>nomatch q)
def eD (prog:bx)(w:bY):PySem.KeyKind prog w eX where
 is:=nE
 hash:=Mi w
 inj:=λv a b ha hb=>by
  rcases vd ha with⟨i,t,rfl,rfl⟩|⟨x,t,rfl,rfl⟩
  ·rcases vd hb with⟨j,u,rfl,e⟩|⟨y,u,rfl,e⟩
   ·injection e with e1 _;rw[e1]
   ·exact nomatch e
  ·rcases vd hb with⟨j,u,rfl,e⟩|⟨y,u,rfl,e⟩
   ·exact nomatch e
   ·injection e with e1 _;rw[e1]
 byValue:=λk v h=>by
  rcases vd h with⟨i,t,rfl,rfl⟩|⟨x,t,rfl,rfl⟩<;>rfl
 pyHash:=λhv h=>by
  rcases vd hv with⟨i,t,rfl,rfl⟩|⟨x,t,rfl,rfl⟩
  ·exact wpAny_pyHash_int h
  ·exact wpAny_pyHash_str h
 eqBool:=λhu hv h=>by
  rcases vd hu with⟨i,t,rfl,rfl⟩|⟨x,t,rfl,rfl⟩
  ·rcases vd hv with⟨j,u,rfl,rfl⟩|⟨y,u,rfl,rfl⟩
   ·rw[zta]at h;exact wpAny_eqBool_int h
   ·rw[ztc]at h;exact SeqAt.EqAt.int_str i t y u _ _ _ _ h
  ·rcases vd hv with⟨j,u,rfl,rfl⟩|⟨y,u,rfl,rfl⟩
   ·rw[ztd]at h;exact SeqAt.EqAt.str_int x t j u _ _ _ _ h
   ·rw[ztb]at h;exact wpAny_eqBool_str h
 «strs»:=λk x t v h=>by
  rcases vd h with⟨i,u,rfl,e⟩|⟨y,u,rfl,e⟩
  ·exact nomatch e
  ·injection e with e1 _
   subst e1
   cases v<;>rfl
theorem ZG (prog:bx)(w:bY)(i:Int)(t:Tok):(eD prog w).is (.inl i) (.int i t)=true:=zkq i t
theorem ZH (prog:bx)(w:bY)(x:aR)(t:Tok):(eD prog w).is (.inr x) (.str x t)=true:=zkr x t
end L2
namespace L2
open PySem PySem.Spec PyProof.Rows
inductive V where
 |non|bl (b:Bool)|int (i:Int)|str (x:aR)|byt (b:Array UInt8)|flt (b:UInt64)|ref (a:ai)|ty (n:String)
 deriving DecidableEq
def RelV:V->af->Prop
 |.non,u=>u=af.none
 |.bl b,u=>u=af.bool b
 |.int i,u=>∃t,u=af.int i t
 |.str x,u=>∃t,u=af.str x t
 |.byt b,u=>∃t,u=af.bytes b t
 |.flt b,u=>∃t,u=af.float b t
 |.ref a,u=>u=af.ref a
 |.ty n,u=>u=af.type n
abbrev bX:List V->List af->Prop:=Paired RelV
theorem bX.length {xs:List V}{us:List af}(r:bX xs us):xs.length=us.length:=Paired.length r
theorem bX.get:∀{xs:List V} {us:List af} {i:Nat} {x:V},bX xs us->xs[i]?=some x->∃u,us[i]?=some u/\RelV x u
 |_,_,_,_,.nil,e=>by simp at e
 |_,_,0,_,.cons r _,e=>by simp at e;subst e;exact⟨_,rfl,r⟩
 |_,_,i+1,x,.cons _ t,e=>by
  obtain⟨u,h1,h2⟩:=bX.get (i:=i) (x:=x) t (by simpa using e)
  exact⟨u,by simpa using h1,h2⟩
theorem bX.set {x:V}{u:af}(r:RelV x u):∀{xs:List V} {us:List af} (i:Nat),bX xs us->bX (xs.set i x) (us.set i u)
 |_,_,_,.nil=>.nil
 |_,_,0,.cons _ t=>.cons r t
 |_,_,i+1,.cons q t=>.cons q (bX.set r i t)
theorem bX.append:∀{xs ys:List V} {us ws:List af},bX xs us->bX ys ws->bX (xs++ys) (us++ws)
 |_,_,_,_,.nil,s=>s
 |_,_,_,_,.cons r t,s=>.cons r (bX.append t s)
theorem bX.take:∀{xs:List V} {us:List af} (n:Nat),bX xs us->bX (xs.take n) (us.take n)
 |_,_,0,_=>.nil
 |_,_,_+1,.nil=>.nil
 |_,_,n+1,.cons r t=>.cons r (bX.take n t)
theorem bX.drop:∀{xs:List V} {us:List af} (n:Nat),bX xs us->bX (xs.drop n) (us.drop n)
 |_,_,0,r=>r
 |_,_,_+1,.nil=>.nil
 |_,_,n+1,.cons _ t=>bX.drop n t
def iV:Option V->Option af->Prop
 |some v,some u=>RelV v u
 |none,none=>True
 |_,_=>False
def KV {κ:Type}:List (κ×V)->List (κ×af)->Prop:=Paired λ(p:κ×V) (q:κ×af)=>p.1=q.1/\RelV p.2 q.2
def kV:eX->V
 |.inl i=>.int i
 |.inr x=>.str x
inductive HO where
 |lst (xs:List V)
 |tup (xs:List V)
 |dK (cC:List (eX×V))|dT (cC:List (List eX×V))
 |set (S:Int->Bool) (n:Nat)
 |ins (C dx:ai) (fs:List (aR×V))
 |own (x:ai)
 |xd (fs:List (aR×V))
 |met (f x:ai)
 |rng (lo hi:Int)
 |frz (o:dO) (u:HO)
 |tbl (ps:Array af)
 |ext (φ:aX->Prop)
abbrev Hp:=ai->Option HO
def upd (H:Hp)(a:ai)(o:HO):Hp:=λb=>if b=a then some o else H b
theorem yx {H:Hp}{a:ai}{o:HO}:upd H a o a=some o:=by unfold upd;rw[if_pos rfl]
theorem yo {H:Hp}{a b:ai}{o:HO}(h:b≠a):upd H a o b=H b:=by unfold upd;rw[if_neg h]
theorem zvr {H:Hp}{a b:ai}{o u:HO}(h:H a=some o)(h':H b=some u)(d:o≠u):a≠b:=by
 intro e;subst e;rw[h]at h';exact d (Option.some.inj h')
theorem xr {H:Hp}{a b:ai}{o:HO}(h:H a=some o)(h':H b=none):a≠b:=by
 intro e;subst e;rw[h]at h';cases h'
section
variable (P:bx)(w:bY)
def dR (H:Hp)(h:aX)(a:ai):HO->Prop
  |.lst xs=>xs.length<=sizeLine/\∃(ce:List af) (n:Nat),bX xs ce/\h.get? a=some { cls:=.type "list",data:=.seq ce.toArray n }
  |.tup xs=>xs.length<=sizeLine/\∃ce:List af,bX xs ce/\IsTup h a ce.toArray
  |.dK cC=>cC.length<=sizeLine/\(a==eQ)=false/\∃vs,KV cC vs/\h.DictOf (eD P w) a vs
  |.dT cC=>cC.length<=sizeLine/\(a==eQ)=false/\∃xs:List (List eX×ai×af),
      Paired (λ(p:List eX×V) (q:List eX×ai×af)=>p.1=q.1/\H q.2.1=some (.tup (p.1.map kV))/\RelV p.2 q.2.2) cC xs /\
      ∃o es ep,h.get? a=some o/\o.ExactDict/\o.data=.dict es ep/\es.toList=xs.map (entryOfKey (kK (eD P w)))/\(xs.map (·.1)).Nodup
  |.set S n=>h.SetOf (intKind P w) a S n
  |.ins C dx fs=>H dx=some (.own a)/\fs.length<=1000/\dx≠a/\h.get? a=some (dS C dx) /\
      ∃mA,h.Ns1 dx mA/\(∀f,iV (fs.lookup f) (mA f))/\PySem.Within mA (fs.map (·.1))
  |.own _=>∃o,h.get? a=some o
  |.xd fs=>∃mA,h.Ns1 a mA/\∀f,iV (fs.lookup f) (mA f)
  |.rng lo hi=>∃t u v,h.get? a=some { cls:=.type "range",data:=.fields #[.int lo t,.int hi u,.int 1 v] }
  |.frz o u=>h.get? a=some o/\dR H h a u
  |.tbl ps=>h.get? a=some { cls:=.none,data:=.fields ps }
  |.met f x=>h.get? a=some (ka (.ref f) (.ref x))
  |.ext φ=>φ h/\(∃o,h.get? a=some o)/\∀h1 h2:aX,φ h1->(∀o,h1.get? a=some o->h2.get? a=some o)->φ h2
def kb (H:Hp)(h:aX):Prop:=∀a o,H a=some o->dR P w H h a o
end
section
variable {P:bx}{w:bY}{H H':Hp}{h h':aX}{a:ai}{o:HO}
theorem dR.lt (x:dR P w H h a o):a<h.objs.size:=by
 cases o with
 |lst xs=>obtain⟨_,_,_,_,e⟩:=x;exact aP e
 |tup xs=>obtain⟨_,_,_,p⟩:=x;exact p.lt
 |dK cC=>obtain⟨_,_,_,_,o,_,_,e,_⟩:=x;exact aP e
 |dT cC=>obtain⟨_,_,_,_,o,_,_,e,_⟩:=x;exact aP e
 |set S n=>obtain⟨o,_,_,_,e,_⟩:=x;exact aP e
 |ins C dx fs=>obtain⟨_,_,_,e,_⟩:=x;exact aP e
 |own y=>obtain⟨_,e⟩:=x;exact aP e
 |xd fs=>obtain⟨_,⟨_,_,_,e,_⟩,_⟩:=x;exact aP e
 |rng lo hi=>obtain⟨_,_,_,e⟩:=x;exact aP e
 |frz ob u=>obtain⟨e,_⟩:=x;exact aP e
 |tbl ps=>exact aP (show h.get? a=some _ from x)
 |met f y=>exact aP (show h.get? a=some _ from x)
 |ext φ=>obtain⟨_,⟨_,e⟩,_⟩:=x;exact aP e
theorem Paired.mapP {α β:Type}{F G:α->β->Prop}:∀{l₁:List α} {l₂:List β},Paired F l₁ l₂->(∀a b,F a b->G a b)->Paired G l₁ l₂
 |_,_,.nil,_=>.nil
 |_,_,.cons r t,f=>.cons (f _ _ r) (Paired.mapP t f)
theorem dR.stay (x:dR P w H h a o)(k:∀b u,(b=a\/H b=some (.own a))->h.get? b=some u->h'.get? b=some u)
    (ho:∀b,H b=some (.own a)->H' b=some (.own a)) (ht:∀b xs,H b=some (.tup xs)->H' b=some (.tup xs)):dR P w H' h' a o:=by
  induction o with
  |lst xs=>obtain⟨z,ce,n,r,e⟩:=x;exact⟨z,ce,n,r,k _ _ (.inl rfl) e⟩
  |tup xs=>obtain⟨z,ce,r,ob,e,c⟩:=x;exact⟨z,ce,r,ob,k _ _ (.inl rfl) e,c⟩
  |dK cC=>obtain⟨z,y,vs,r,ob,es,ep,e,c⟩:=x;exact⟨z,y,vs,r,ob,es,ep,k _ _ (.inl rfl) e,c⟩
  |dT cC=>
    obtain⟨z,y,xs,r,ob,es,ep,e,c⟩:=x
    exact⟨z,y,xs,Paired.mapP r λp q z=>⟨z.1,ht _ _ z.2.1,z.2.2⟩,ob,es,ep,k _ _ (.inl rfl) e,c⟩
  |set S n=>obtain⟨ob,es,ep,t,e,c⟩:=x;exact⟨ob,es,ep,t,k _ _ (.inl rfl) e,c⟩
  |ins C dx fs=>
    obtain⟨d,z,ne,e,mA,⟨od,es,ep,e2,c⟩,r⟩:=x
    exact⟨ho _ d,z,ne,k _ _ (.inl rfl) e,mA,⟨od,es,ep,k _ _ (.inr d) e2,c⟩,r⟩
  |own y=>obtain⟨ob,e⟩:=x;exact⟨ob,k _ _ (.inl rfl) e⟩
  |xd fs=>obtain⟨mA,⟨od,es,ep,e,c⟩,r⟩:=x;exact⟨mA,⟨od,es,ep,k _ _ (.inl rfl) e,c⟩,r⟩
  |rng lo hi=>obtain⟨t,u,v,e⟩:=x;exact⟨t,u,v,k _ _ (.inl rfl) e⟩
  |frz ob u ih=>obtain⟨e,q⟩:=x;exact⟨k _ _ (.inl rfl) e,ih q⟩
  |tbl ps=>
    have e:h.get? a=some { cls:=.none,data:=.fields ps }:=x
    show h'.get? a=some { cls:=.none,data:=.fields ps }
    exact k a _ (.inl rfl) e
  |met f y=>
    have e:h.get? a=some (ka (.ref f) (.ref y)):=x
    show h'.get? a=some (ka (.ref f) (.ref y))
    exact k a _ (.inl rfl) e
  |ext φ=>obtain⟨p,⟨o,e⟩,st⟩:=x;exact⟨st _ _ p λo q=>k _ _ (.inl rfl) q,⟨o,k _ _ (.inl rfl) e⟩,st⟩
theorem kb.lt (x:kb P w H h)(e:H a=some o):a<h.objs.size:=(x a o e).lt
theorem kb.fresh (x:kb P w H h)(e:h.objs.size<=a):H a=none:=by
 cases q:H a with
 |none=>rfl
 |some u=>exact absurd (bn (x.lt q) e) (eh _)
theorem kb.kept (x:kb P w H h)(k:∀b u,h.get? b=some u->h'.get? b=some u):kb P w H h':=λa o e=>
 (x a o e).stay (λb u _ q=>k b u q) (λ_ q=>q) λ_ _ q=>q
theorem kb.laid (x:kb P w H h)(k:∀b u,h.get? b=some u->h'.get? b=some u)(hp:h.objs.size<=a)(new:dR P w (upd H a o) h' a o):kb P w (upd H a o) h':=λb u e=>by
 have hn:=x.fresh hp
 by_cases hb:b=a
 ·subst hb;rw[yx]at e;cases e;exact new
 ·rw[yo hb]at e
  exact(x b u e).stay (λc v _ q=>k c v q) (λc q=>by rw[yo (xr q hn)];exact q) λc xs q=>by rw[yo (xr q hn)];exact q
end
def Rd (H:Hp)(a:ai)(u:HO):Prop:=H a=some u\/∃o,H a=some (.frz o u)
theorem Rd.ok {P:bx}{w:bY}{H:Hp}{h:aX}{a:ai}{u:HO}(r:Rd H a u)(x:kb P w H h):dR P w H h a u:=by
 rcases r with r|⟨o,r⟩
 ·exact x a u r
 ·obtain⟨_,q⟩:=x a _ r
  exact q
def B8:Option HO->Prop
 |some (.lst _)=>True
 |some (.dK _)=>True
 |some (.dT _)=>True
 |some (.set _ _)=>True
 |some (.ins _ _ _)=>True
 |some (.ext _)=>True
 |_=>False
section
variable {P:bx}{w:bY}{H:Hp}{h h':aX}{x e:ai}{o':HO}
theorem kb.write (ok:kb P w H h)(mu:B8 (H x))(he:e=x\/H e=some (.own x))(k:∀b u,b≠e->h.get? b=some u->h'.get? b=some u)(Bn:∃u,h'.get? e=some u)
  (new:dR P w (upd H x o') h' x o'):kb P w (upd H x o') h':=λb u q=>by
 have Gd:∀c y,H c=some (.own y)->c≠x:=λc y r z=>by subst z;rw[r]at mu;exact mu
 have Mq:∀c xs,H c=some (.tup xs)->c≠x:=λc xs r z=>by subst z;rw[r]at mu;exact mu
 by_cases hb:b=x
 ·subst hb;rw[yx]at q;cases q;exact new
 ·rw[yo hb]at q
  by_cases wW:b=e
  ·have q':H b=some (.own x):=by
    rcases he with z|z
    ·exact absurd (wW.trans z) hb
    ·rw[wW];exact z
   rw[q]at q';cases q'
   obtain⟨v,hv⟩:=Bn
   exact⟨v,by rw[wW];exact hv⟩
  ·refine(ok b u q).stay (λc v hc r=>k c v ?_ r) (λc r=>by rw[yo (Gd c b r)];exact r) λc xs r=>by rw[yo (Mq c xs r)];exact r
   rcases hc with rfl|hc
   ·exact wW
   ·rintro rfl
    rcases he with z|z
    ·exact Gd c b hc z
    ·rw[hc]at z;cases z;exact hb rfl
end
structure Un (fs ex:List ai)(H H':Hp)(h h':aX):Prop where
 keep:∀b o,h.get? b=some o->H b=none->b∉fs->b∉ex->h'.get? b=some o
 slot:∀b o,h.get? b=some o->H b=none->b∈fs->b∉ex->∃sl,h'.get? b=some { o with slots:=sl }
 free:∀b o,h.get? b=some o->H b=none->b∉ex->H' b=none
 there:∀b o,h.get? b=some o->b∉ex->∃o',h'.get? b=some o'
 tups:∀b xs,H b=some (.tup xs)->H' b=some (.tup xs)
 frzs:∀b o u,H b=some (.frz o u)->H' b=some (.frz o u)
 tbls:∀b ps,H b=some (.tbl ps)->∃more,H' b=some (.tbl (ps++more))
section
variable {fs U9 ex ex':List ai}{H H1 H2:Hp}{h h1 h2 h':aX}{a x e:ai}{o:HO}
theorem Un.any (u:Un fs ex H H1 h h1){b:ai}{ob:dO}(q:h.get? b=some ob)(n:H b=none)(hx:b∉ex):∃sl,h1.get? b=some { ob with slots:=sl }:=by
 by_cases hb:b∈fs
 ·exact u.slot b ob q n hb hx
 ·exact⟨ob.slots,u.keep b ob q n hb hx⟩
theorem Un.kept (k:∀b u,h.get? b=some u->h'.get? b=some u):Un fs ex H H h h' :=
 ⟨λb ob q _ _ _=>k b ob q,λb ob q _ _ _=>⟨ob.slots,k b ob q⟩,λ_ _ _ n _=>n,λb ob q _=>⟨ob,k b ob q⟩,λ_ _ q=>q,λ_ _ _ q=>q,λ_ ps q=>⟨#[],by rw[q];simp⟩⟩
theorem Un.refl:Un fs ex H H h h:=Un.kept λ_ _ q=>q
theorem Un.laid (k:∀b u,h.get? b=some u->h'.get? b=some u)(hp:h.objs.size<=a)(hn:H a=none):Un fs ex H (upd H a o) h h' where
 keep:=λb u q _ _ _=>k b u q
 slot:=λb u q _ _ _=>⟨u.slots,k b u q⟩
 free:=λb u q n _=>by rw[yo (br (bn (aP q) hp))];exact n
 there:=λb u q _=>⟨u,k b u q⟩
 tups:=λb xs q=>by rw[yo (xr q hn)];exact q
 frzs:=λb u xs q=>by rw[yo (xr q hn)];exact q
 tbls:=λb ps q=>⟨#[],by rw[yo (xr q hn),q];simp⟩
theorem Un.write (mu:B8 (H x))(he:e=x\/H e=some (.own x))(k:∀b u,b≠e->h.get? b=some u->h'.get? b=some u)(Bn:∃u,h'.get? e=some u):Un fs ex H (upd H x o) h h':=by
 have hx:∀b,H b=none->b≠x:=λb n z=>by subst z;rw[n]at mu;exact mu
 have hb:∀b,H b=none->b≠e:=λb n z=>by
  subst z
  rcases he with r|r
  ·exact hx b n r
  ·rw[n]at r;cases r
 have hm:∀b u,H b=some u->¬B8 (some u)->b≠x:=λb u q nm z=>by subst z;rw[q]at mu;exact nm mu
 refine⟨λb u q n _ _=>k b u (hb b n) q,λb u q n _ _=>⟨u.slots,k b u (hb b n) q⟩,λb u q n _=>by rw[yo (hx b n)];exact n,λb u q _=>?_,
  λb xs q=>by rw[yo (hm b _ q λz=>z)];exact q,λb u xs q=>by rw[yo (hm b _ q λz=>z)];exact q,λb ps q=>⟨#[],by rw[yo (hm b _ q λz=>z),q];simp⟩⟩
 by_cases wW:b=e
 ·subst wW;exact Bn
 ·exact⟨u,k b u wW q⟩
end
def IT (h:aX)(H:Hp):List ai:=(aE h.objs.size).filter λa=>(H a).isSome
def nV (h:aX)(H:Hp):aX:=PySem.W.hideAll h (IT h H)
theorem zks (h:aX)(H:Hp):(nV h H).objs.size=h.objs.size:=PySem.W.hideAll_size _ _
theorem znl {h:aX}{H:Hp}{b:ai}{o:dO}(e:h.get? b=some o)(n:H b=none):(nV h H).get? b=some o :=
 PySem.W.hideAll_get _ e λhm=>by
  have q:(H b).isSome=true:=(bc.mp hm).2
  rw[n]at q;simp at q
theorem zqk {h:aX}{H:Hp}{b:ai}{o:dO}(e:(nV h H).get? b=some o):h.get? b=some o/\H b=none:=by
 have e':h.get? b=some o:=PySem.W.of_hideAll (IT h H) e
 refine⟨e',?_⟩
 cases q:H b with
 |none=>rfl
 |some x=>
  have hm:b∈IT h H:=bc.mpr ⟨bv.mpr (aP e'),by simp[q]⟩
  have z:(nV h H).get? b=none:=PySem.W.hideAll_none (IT h H) hm
  rw[z]at e;cases e
def uP (g h:aX)(L:ai):List (ai×dO):=(aE h.objs.size).filterMap λa=>if a=L\/(g.get? a).isSome=true then none else(h.get? a).map λo=>(a,o)
def rest (g h:aX)(L d:ai):List (ai×dO):=(uP g h L).filter λp=>decide (p.1≠d)
end L2
namespace L2
open PySem PySem.Spec PyProof.Rows
structure Mod (K:ae)(mg:aR->Option af)(base:aX):Prop where
 kin:K.In base
 glob:base.Ns aq mg
 blt:∃mb,base.Ns wK mb/\∀x:aR,x≠"__name__"->mb x=bS x
 nolimit:base.NoLimit
structure Cx where
 prog:bx
 w:bY
 K:ae
 mg:aR->Option af
 base:aX
 A:bT
 N:List aR
 s₀:ak
 H₀:Hp
 env:Env
 outer:List Env
 stack:List Env
 ex:List ai
 fn:aR->Bool
 calm:Bool
 pn:List (ai×dO)
 xe:af->ak->Prop
def sN (l:List Env):List ai:=l.filterMap (·.frame)
abbrev Cx.fs (X:Cx):List ai:=sN X.outer
def ou (sc:fW)(x:aR):Prop:=sc.names.lookup x=some .local\/sc.names.lookup x=some .cell\/sc.names.lookup x=some .free
def Loc (sc:fW)(x:aR):Prop:=sc.names.lookup x=some .local\/sc.names.lookup x=some .cell
def Look (env:Env)(h:aX)(m:aR->Option af)(x:aR)(u:af):Prop :=
 (env.kindOf x=some .local/\m x=some u)\/((env.kindOf x=some .cell\/env.kindOf x=some .free)/\∃c,env.cells.lookup x=some c/\h.IsCell c (some u))
structure Cx.Ok (X:Cx):Prop where
 mod:Mod X.K X.mg X.base
 kind:X.env.scope.kind=.function
 glob:X.env.globals=aq
 blt:X.env.builtins=wK
 above:X.s₀.heap.objs.size<=X.env.locals
 inj:∀x y c,X.env.cells.lookup x=some c->X.env.cells.lookup y=some c->x=y
 has:∀x,(X.env.kindOf x=some .cell\/X.env.kindOf x=some .free)->∃c,X.env.cells.lookup x=some c
 cab:∀x c,X.fn x=true->X.env.cells.lookup x=some c->X.s₀.heap.objs.size<=c
 hd:X.calm=true->X.A.handled=none
 frames:X.A.frames=some X.stack
 stk:X.stack=X.outer\/(X.stack=X.env::X.outer/\X.env.frame=some X.env.locals)
 exf:∀b∈X.ex,b≠X.env.locals/\∀x c,X.env.cells.lookup x=some c->c≠b
 bs:∀b o,X.base.get? b=some o->X.s₀.heap.get? b=some o/\X.H₀ b=none
 bsz:X.base.objs.size<=X.s₀.heap.objs.size
 noex:∀b o,X.base.get? b=some o->b∉X.ex
 exfs:∀b∈X.ex,b∉X.fs
 funs:X.s₀.heap.FunFrames X.base X.outer
 frf:∀b∈X.fs,X.H₀ b=none
structure Inv (X:Cx)(aj:List (ai×dO))(σ:List (Option V))(H:Hp)(s:ak):Prop where
 ok:X.Ok
 os:s.os=X.s₀.os
 bare:AllBare s.gens
 base:Un X.fs X.ex X.H₀ H X.s₀.heap s.heap
 loc:∃m,s.heap.Ns X.env.locals m/\∀(i:Nat) (x:aR) (v:V),X.N[i]?=some x->σ[i]?=some (some v)->ou X.env.scope x->∃u,RelV v u/\Look X.env s.heap m x u
 cell:∀x c,X.env.cells.lookup x=some c->∃v,s.heap.IsCell c v
 free:H X.env.locals=none
 freeC:∀x c,X.env.cells.lookup x=some c->H c=none
 pin:∀p∈X.pn++aj,s.heap.get? p.1=some p.2/\H p.1=none/\p.1≠X.env.locals/\p.1∉X.fs/\∀v,p.2.data≠.cell v
 hok:kb X.prog X.w H s.heap
 len:σ.length=X.N.length
section
variable {X:Cx}{aj:List (ai×dO)}{σ:List (Option V)}{H H':Hp}{s:ak}{h':aX}
theorem Cx.Ok.nofr (ok:X.Ok){b:ai}{o:dO}(e:X.base.get? b=some o):b∉X.fs:=λhb=>by
 have:=(ok.funs.mem hb).1
 rw[e]at this;cases this
theorem Inv.bs (I:Inv X aj σ H s):∀b o,X.base.get? b=some o->s.heap.get? b=some o/\H b=none:=λb o e=>
 ⟨I.base.keep b o (I.ok.bs b o e).1 (I.ok.bs b o e).2 (I.ok.nofr e) (I.ok.noex b o e),I.base.free b o (I.ok.bs b o e).1 (I.ok.bs b o e).2 (I.ok.noex b o e)⟩
theorem Inv.bk (I:Inv X aj σ H s):∀b o,X.base.get? b=some o->s.heap.get? b=some o:=λb o e=>(I.bs b o e).1
theorem Inv.mod (I:Inv X aj σ H s):Mod X.K X.mg X.base:=I.ok.mod
theorem Inv.kIn (I:Inv X aj σ H s):X.K.In s.heap:=I.ok.mod.kin.keeps I.bk
theorem Inv.fr (I:Inv X aj σ H s):∃m,Fr X.base X.env.locals s.heap m :=
 let⟨m,hn,_⟩:=I.loc
 ⟨m,hn,I.bk,cx I.ok.bsz I.ok.above⟩
theorem Inv.lt (I:Inv X aj σ H s):X.env.locals<s.heap.objs.size:=let⟨_,hn,_⟩:=I.loc;hn.lt
theorem Inv.sz (I:Inv X aj σ H s):X.s₀.heap.objs.size<=s.heap.objs.size:=cx I.ok.above (kY I.lt)
theorem Inv.nofs (I:Inv X aj σ H s){a:ai}(h:s.heap.objs.size<=a):a∉X.fs:=λhb=>by
 obtain⟨_,o,ho,_⟩:=I.ok.funs.mem hb
 exact absurd (bn (aP ho) (cx I.sz h)) (eh _)
theorem Inv.cne (I:Inv X aj σ H s):∀x c,X.env.cells.lookup x=some c->c≠X.env.locals:=λx c e z=>by
 obtain⟨v,o,ho,hd⟩:=I.cell x c e
 obtain⟨m,⟨o',es,ep,Aq,wY,_⟩,_⟩:=I.loc
 rw[z,Aq]at ho;cases ho;rw[wY]at hd;cases hd
theorem Inv.funs (I:Inv X aj σ H s):s.heap.FunFrames X.base X.outer:=by
 have all:∀(l:List Env),(∀b∈sN l,b∈X.fs)->X.s₀.heap.FunFrames X.base l->s.heap.FunFrames X.base l:=by
  intro l
  induction l with
  |nil=>intro _ _;trivial
  |cons env r ih=>
   intro hs hl
   obtain⟨hk,⟨L,o,hf,hn,ho,hd⟩,hr⟩:=hl
   have hL:L∈X.fs:=hs L (by unfold sN;rw[jP,hf];exact aa)
   obtain⟨sl,e⟩:=I.base.slot L o ho (I.ok.frf L hL) hL λz=>I.ok.exfs L z hL
   exact⟨hk,⟨L,_,hf,hn,e,hd⟩,ih (λb hb=>hs b (by unfold sN;rw[jP,hf];exact ah _ hb)) hr⟩
 exact all X.outer (λ_ hb=>hb) I.ok.funs
theorem Inv.stack (I:Inv X aj σ H s):s.heap.FunFrames X.base X.stack:=by
 rcases I.ok.stk with e|⟨e,hf⟩
 ·rw[e];exact I.funs
 ·rw[e]
  obtain⟨m,hn,_⟩:=I.loc
  refine .cons (by rw[I.ok.kind];decide) hf hn ?_ I.funs
  exact aX.get?_none_of_le (cx I.ok.bsz I.ok.above)
theorem Inv.stkSub (I:Inv X aj σ H s):∀b∈sN X.stack,b∈X.env.locals::X.fs:=λb hb=>by
 rcases I.ok.stk with e|⟨e,hf⟩
 ·rw[e]at hb;exact ah _ hb
 ·rw[e]at hb
  unfold sN at hb
  rw[jP,hf]at hb
  exact hb
theorem Inv.stkFree (I:Inv X aj σ H s):∀b∈sN X.stack,H b=none:=λb hb=>by
 rcases aC.mp (I.stkSub b hb)with e|hb
 ·rw[e];exact I.free
 ·obtain⟨_,o,ho,_⟩:=I.ok.funs.mem hb
  exact I.base.free b o ho (I.ok.frf b hb) λz=>I.ok.exfs b z hb
theorem Inv.step {g':Array GenState}{t':Nat}{d':Drawn}{ch:List ai}(I:Inv X aj σ H s)
  (ko:∀b∈ch,(b∈X.ex\/X.s₀.heap.objs.size<=b)/\b≠X.env.locals/\(∀x c,X.env.cells.lookup x=some c->c≠b)/\∀p∈X.pn++aj,p.1≠b)
  (keep:∀b o,b≠X.env.locals->b∉X.fs->b∉ch->s.heap.get? b=some o->H b=none->h'.get? b=some o)
  (slot:∀b o,b≠X.env.locals->b∈X.fs->b∉ch->s.heap.get? b=some o->H b=none->∃sl,h'.get? b=some { o with slots:=sl }) (free:∀b o,b∉ch->s.heap.get? b=some o->H b=none->H' b=none)
  (there:∀b o,b∉ch->s.heap.get? b=some o->∃o',h'.get? b=some o')
  (tups:∀b xs,H b=some (.tup xs)->H' b=some (.tup xs)) (frzs:∀b o u,H b=some (.frz o u)->H' b=some (.frz o u)) (tbls:∀b ps,H b=some (.tbl ps)->∃more,H' b=some (.tbl (ps++more)))
  (ns:∀m,s.heap.Ns X.env.locals m->h'.Ns X.env.locals m) (hok:kb X.prog X.w H' h') (hg:AllBare g') :
  Inv X aj σ H' { s with heap:=h',gens:=g',drawn:=d',toks:=t' }:=by
 have PY:∀b o,X.s₀.heap.get? b=some o->b≠X.env.locals:=λb o e=>br (bn (aP e) I.ok.above)
 have IK:∀b o,X.s₀.heap.get? b=some o->b∉X.ex->b∉ch:=λb o e hx hb=>by
  rcases(ko b hb).1 with z|z
  ·exact hx z
  ·exact absurd (bn (aP e) z) (eh _)
 have cellK:∀x c,X.env.cells.lookup x=some c->∀v,s.heap.IsCell c v->h'.IsCell c v:=λx c e v ⟨o,ho,hd⟩=>by
  have FZ:c∉ch:=λz=>(ko c z).2.2.1 x c e rfl
  by_cases hc:c∈X.fs
  ·obtain⟨sl,q⟩:=slot c o (I.cne x c e) hc FZ ho (I.freeC x c e)
   exact⟨_,q,hd⟩
  ·exact⟨o,keep c o (I.cne x c e) hc FZ ho (I.freeC x c e),hd⟩
 refine⟨I.ok,I.os,hg,⟨λb o e n hb hx=>?_,λb o e n hb hx=>?_,λb o e n hx=>?_,λb o e hx=>?_,λb xs e=>tups b xs (I.base.tups b xs e),λb o xs e=>frzs b o xs (I.base.frzs b o xs e),λb ps e=>?_⟩,?_,λx c e=>?_,?_,λx c e=>?_,λp hp=>?_,hok,I.len⟩
 ·exact keep b o (PY b o e) hb (IK b o e hx) (I.base.keep b o e n hb hx) (I.base.free b o e n hx)
 ·obtain⟨sl,e1⟩:=I.base.slot b o e n hb hx
  obtain⟨Yc,e2⟩:=slot b _ (PY b o e) hb (IK b o e hx) e1 (I.base.free b o e n hx)
  exact⟨Yc,e2⟩
 ·obtain⟨o',e1⟩:=I.base.there b o e hx
  exact free b o' (IK b o e hx) e1 (I.base.free b o e n hx)
 ·obtain⟨o',e1⟩:=I.base.there b o e hx
  exact there b o' (IK b o e hx) e1
 ·obtain⟨m1,e1⟩:=I.base.tbls b ps e
  obtain⟨m2,e2⟩:=tbls b _ e1
  exact⟨m1++m2,by rw[e2,Array.append_assoc]⟩
 ·obtain⟨m,hn,hl⟩:=I.loc
  refine⟨m,ns m hn,λi x v e1 e2 e3=>?_⟩
  obtain⟨u,r,l⟩:=hl i x v e1 e2 e3
  refine⟨u,r,?_⟩
  rcases l with l|⟨k,c,e,z⟩
  ·exact .inl l
  ·exact .inr ⟨k,c,e,cellK x c e _ z⟩
 ·obtain⟨v,z⟩:=I.cell x c e
  exact⟨v,cellK x c e v z⟩
 ·obtain⟨m,⟨o,_,_,ho,_⟩,_⟩:=I.loc
  exact free _ o (λz=>(ko _ z).2.1 rfl) ho I.free
 ·obtain⟨v,o,ho,hd⟩:=I.cell x c e
  exact free c o (λz=>(ko c z).2.2.1 x c e rfl) ho (I.freeC x c e)
 ·obtain⟨e,n,ne,nf,d⟩:=I.pin p hp
  have FZ:p.1∉ch:=λz=>(ko p.1 z).2.2.2 p hp rfl
  exact⟨keep p.1 p.2 ne nf FZ e n,free p.1 p.2 FZ e n,ne,nf,d⟩
theorem Inv.un {t':Nat}(I:Inv X aj σ H s)(u:Un X.fs [] H H' s.heap h')(hok:kb X.prog X.w H' h'):Inv X aj σ H' { s with heap:=h',toks:=t' }:=by
 obtain⟨m,⟨o,es,ep,ho,r⟩,_⟩:=id I.loc
 obtain⟨sl,hL⟩:=u.any ho I.free (by simp)
 exact I.step (g':=s.gens) (d':=s.drawn) (ch:=[]) (λ_ z=>nomatch z) (λb o _ hb _ e n=>u.keep b o e n hb (by simp)) (λb o _ hb _ e n=>u.slot b o e n hb (by simp)) (λb o _ e n=>u.free b o e n (by simp)) (λb o _ e=>u.there b o e (by simp)) u.tups u.frzs u.tbls (λm' hm=>by
  obtain⟨o',Kw,Kv,Aq,r'⟩:=hm
  rw[ho]at Aq;cases Aq
  exact⟨_,Kw,Kv,hL,r'⟩) hok I.bare
theorem Inv.call {g':Array GenState}{t':Nat}{d':Drawn}{ch:List ai}(I:Inv X aj σ H s)(u:Un (sN X.stack) ch H H' s.heap h')(hok:kb X.prog X.w H' h')(hg:AllBare g')
  (ko:∀b∈ch,(b∈X.ex\/X.s₀.heap.objs.size<=b)/\b≠X.env.locals/\(∀x c,X.env.cells.lookup x=some c->c≠b)/\∀p∈X.pn++aj,p.1≠b) :
  Inv X aj σ H' { s with heap:=h',gens:=g',drawn:=d',toks:=t' }:=by
 obtain⟨m,⟨o,es,ep,ho,r⟩,_⟩:=id I.loc
 obtain⟨sl,hL⟩:=u.any ho I.free λz=>(ko _ z).2.1 rfl
 exact I.step (ch:=ch) ko (λb o hL hb hc e n=>u.keep b o e n (λz=>(aC.mp (I.stkSub b z)).elim hL hb) hc) (λb o _ _ hc e n=>u.any e n hc) (λb o hc e n=>u.free b o e n hc) (λb o hc e=>u.there b o e hc) u.tups u.frzs u.tbls (λm' hm=>by
  obtain⟨o',Kw,Kv,Aq,r'⟩:=hm
  rw[ho]at Aq;cases Aq
  exact⟨_,Kw,Kv,hL,r'⟩) hok hg
theorem Inv.turned {t':Nat}{it:ai}(I:Inv X aj σ H s)(k:∀b o,b≠it->s.heap.get? b=some o->h'.get? b=some o)(hn:H it=none)(hL:it≠X.env.locals)
  (h1:it∈X.ex\/X.s₀.heap.objs.size<=it) (h2:∀x c,X.env.cells.lookup x=some c->c≠it) (h3:∀p∈X.pn++aj,p.1≠it):Inv X aj σ H { s with heap:=h',toks:=t' }:=by
 have PZ:∀b u,H b=some u->b≠it:=λb u e z=>by rw[z,hn]at e;cases e
 refine I.step (g':=s.gens) (d':=s.drawn) (ch:=[it]) (λb hb=>?_) (λb o _ _ hc e _=>k b o (λz=>hc (by simp[z])) e) (λb o _ _ hc e _=>⟨o.slots,k b o (λz=>hc (by simp[z])) e⟩) (λ_ _ _ _ n=>n)
  (λb o hc e=>⟨o,k b o (λz=>hc (by simp[z])) e⟩) (λ_ _ e=>e) (λ_ _ _ e=>e) (λb ps e=>⟨#[],by rw[e];simp⟩) (λm hm=>?_) (λb u e=>?_) I.bare
 ·have e:b=it:=by simpa using hb
  subst e
  exact⟨h1,hL,h2,h3⟩
 ·obtain⟨o,es,ep,ho,r⟩:=hm
  exact⟨o,es,ep,k _ o (Ne.symm hL) ho,r⟩
 ·refine(I.hok b u e).stay (λc v hc q=>k c v ?_ q) (λ_ q=>q) λ_ _ q=>q
  rcases hc with z|z
  ·rw[z];exact PZ b u e
  ·exact PZ c _ z
theorem Inv.tok (I:Inv X aj σ H s)(t:Nat):Inv X aj σ H { s with toks:=t }:=I.un (h':=s.heap) (t':=t) Un.refl I.hok
theorem Inv.kept {t':Nat}(I:Inv X aj σ H s)(k:∀b u,s.heap.get? b=some u->h'.get? b=some u):Inv X aj σ H { s with heap:=h',toks:=t' }:=I.un (Un.kept k) (I.hok.kept k)
theorem Inv.laid {a:ai}{o:HO}{t':Nat}(I:Inv X aj σ H s)(k:∀b u,s.heap.get? b=some u->h'.get? b=some u)(hp:s.heap.objs.size<=a)(new:dR X.prog X.w (upd H a o) h' a o) :
  Inv X aj σ (upd H a o) { s with heap:=h',toks:=t' }:=I.un (Un.laid k hp (I.hok.fresh hp)) (I.hok.laid k hp new)
theorem Inv.write {x e:ai}{o:HO}{t':Nat}(I:Inv X aj σ H s)(mu:B8 (H x))(he:e=x\/H e=some (.own x))(k:∀b u,b≠e->s.heap.get? b=some u->h'.get? b=some u)(Bn:∃u,h'.get? e=some u)
  (new:dR X.prog X.w (upd H x o) h' x o):Inv X aj σ (upd H x o) { s with heap:=h',toks:=t' }:=I.un (Un.write mu he k Bn) (I.hok.write mu he k Bn new)
theorem Inv.weak {σ':List (Option V)}(I:Inv X aj σ H s)(hl:σ'.length = σ.length)(w:∀(i:Nat) v,σ'[i]?=some (some v)->σ[i]?=some (some v)):Inv X aj σ' H s :=
 ⟨I.ok,I.os,I.bare,I.base,let⟨m,hn,EA⟩:=I.loc;⟨m,hn,λi x v e1 e2 e3=>EA i x v e1 (w i v e2) e3⟩,I.cell,I.free,I.freeC,I.pin,I.hok,hl.trans I.len⟩
theorem Inv.pins_of {xK:List (ai×dO)}(I:Inv X aj σ H s)(h:∀p∈xK,s.heap.get? p.1=some p.2/\H p.1=none/\p.1≠X.env.locals/\p.1∉X.fs/\∀v,p.2.data≠.cell v):Inv X xK σ H s :=
 ⟨I.ok,I.os,I.bare,I.base,I.loc,I.cell,I.free,I.freeC,λp hp=>(aZ.mp hp).elim (λz=>I.pin p (bg _ z)) (h p),I.hok,I.len⟩
theorem RF {N:List aR}(hN:N.Nodup){i j:Nat}{x:aR}(a:N[i]?=some x)(b:N[j]?=some x):i=j:=by
 obtain⟨h1,e1⟩:=aL.mp a
 obtain⟨h2,e2⟩:=aL.mp b
 exact(lH hN).mp (e1.trans e2.symm)
theorem Rb {M:Model}{A:bT}{E:af->ak->Prop}{i:Nat}{x:aR}{v:V}{u:af}{Q:Unit->ak->Prop}(I:Inv X aj σ H s)(hN:X.N.Nodup)(hi:X.N[i]?=some x)(hx:Loc X.env.scope x)(r:RelV v u)
  (h:∀s',Inv X aj (σ.set i (some v)) H s'->(∃a,gM a s.heap s'.heap/\(a=X.env.locals\/X.env.cells.lookup x=some a))->Q () s') (hf:X.fn x=true\/X.env.scope.names.lookup x=some .local:=by first|exact .inl rfl|exact .inr rfl|assumption):bi M A (storeName X.env x u) Q E s:=by
 obtain⟨m,hn,hl⟩:=id I.loc
 have LA:(X.env.scope.kind==.class || (X.env.scope.kind==.module&&X.env.locals != X.env.globals))=false:=by rw[I.ok.kind];rfl
 have Pk:i < σ.length:=by rw[I.len];exact(aL.mp hi).1
 have cne:=I.cne
 have tracked:∀{a:ai} {h':aX},(∃o,s.heap.get? a=some o/\H a=none)->gM a s.heap h'->kb X.prog X.w H h':=λ{a h'} ha hs b ob e=>by
  obtain⟨_,_,wZ⟩:=ha
  refine(I.hok b ob e).stay (λc w' hc q=>(hs.2 c ?_).trans q) (λ_ q=>q) λ_ _ q=>q
  rintro rfl
  rcases hc with rfl|hc
  ·rw[wZ]at e;cases e
  ·rw[wZ]at hc;cases hc
 rcases hx with hk|hk
 ·refine wpAny_storeName_local hk hn (λh' EK hs=>?_) LA
  obtain⟨oL,_,_,VV,_⟩:=id hn
  refine h _ ⟨I.ok,I.os,I.bare,⟨λb o e n hb hx=>?_,λb o e n hb hx=>?_,I.base.free,λb o e hx=>?_,I.base.tups,I.base.frzs,I.base.tbls⟩,⟨_,EK,λj y v' e1 e2 e3=>?_⟩,λy c e=>?_,I.free,I.freeC,λp hp=>?_,tracked ⟨oL,VV,I.free⟩ hs,by simpa using I.len⟩ ⟨_,hs,.inl rfl⟩
  ·exact(hs.2 b (br (bn (aP e) I.ok.above))).trans (I.base.keep b o e n hb hx)
  ·obtain⟨sl,e1⟩:=I.base.slot b o e n hb hx
   exact⟨sl,(hs.2 b (br (bn (aP e) I.ok.above))).trans e1⟩
  ·obtain⟨o',e1⟩:=I.base.there b o e hx
   exact⟨o',(hs.2 b (br (bn (aP e) I.ok.above))).trans e1⟩
  ·by_cases hj:j=i
   ·subst hj
    rw[hi]at e1;cases e1
    rw[iT Pk]at e2
    cases e2
    exact⟨u,r,.inl ⟨hk,by simp⟩⟩
   ·rw[cO (Ne.symm hj)]at e2
    obtain⟨u',r',q⟩:=hl j y v' e1 e2 e3
    refine⟨u',r',?_⟩
    rcases q with⟨k,e⟩|⟨k,c,e,z⟩
    ·refine .inl ⟨k,?_⟩
     have:y≠x:=λe=>hj (RF hN e1 (e▸hi))
     simp[this,e]
    ·exact .inr ⟨k,c,e,z.sameBut hs (cne y c e)⟩
  ·obtain⟨w',z⟩:=I.cell y c e
   exact⟨w',z.sameBut hs (cne y c e)⟩
  ·obtain⟨e,n,ne,nf,d⟩:=I.pin p hp
   exact⟨(hs.2 p.1 ne).trans e,n,ne,nf,d⟩
 ·have Bo:X.fn x=true:=by
   rcases hf with z|z
   ·exact z
   ·rw[z]at hk;cases hk
  obtain⟨c,hc⟩:=I.ok.has x (.inl hk)
  obtain⟨w',z⟩:=I.cell x c hc
  refine wpAny_storeName_cell I.ok.kind hk hc z (λh' wX hs=>?_)
  obtain⟨oc,Pn,LY⟩:=id z
  refine h { s with heap:=h' } ⟨I.ok,I.os,I.bare,⟨λb o e n hb hx=>?_,λb o e n hb hx=>?_,I.base.free,λb o e hx=>?_,I.base.tups,I.base.frzs,I.base.tbls⟩,⟨m,hn.sameBut hs (Ne.symm (cne x c hc)),λj y v' e1 e2 e3=>?_⟩,λy c' e=>?_,I.free,I.freeC,λp hp=>?_,tracked ⟨oc,Pn,I.freeC x c hc⟩ hs,by simpa using I.len⟩ ⟨c,hs,.inr hc⟩
  ·exact(hs.2 b (br (bn (aP e) (I.ok.cab x c Bo hc)))).trans (I.base.keep b o e n hb hx)
  ·obtain⟨sl,e1⟩:=I.base.slot b o e n hb hx
   exact⟨sl,(hs.2 b (br (bn (aP e) (I.ok.cab x c Bo hc)))).trans e1⟩
  ·obtain⟨o',e1⟩:=I.base.there b o e hx
   exact⟨o',(hs.2 b (br (bn (aP e) (I.ok.cab x c Bo hc)))).trans e1⟩
  ·by_cases hj:j=i
   ·subst hj
    rw[hi]at e1;cases e1
    rw[iT Pk]at e2
    cases e2
    exact⟨u,r,.inr ⟨.inl hk,c,hc,wX⟩⟩
   ·rw[cO (Ne.symm hj)]at e2
    obtain⟨u',r',q⟩:=hl j y v' e1 e2 e3
    refine⟨u',r',?_⟩
    rcases q with q|⟨k,c',e,z'⟩
    ·exact .inl q
    ·refine .inr ⟨k,c',e,z'.sameBut hs ?_⟩
     rintro rfl
     exact hj (RF hN e1 (I.ok.inj _ _ _ e hc▸hi))
  ·by_cases Pc:c'=c
   ·subst Pc;exact⟨_,wX⟩
   ·obtain⟨w2,z2⟩:=I.cell y c' e
    exact⟨w2,z2.sameBut hs Pc⟩
  ·obtain⟨e,n,ne,nf,d⟩:=I.pin p hp
   refine⟨(hs.2 p.1 ?_).trans e,n,ne,nf,d⟩
   intro q
   rw[q,Pn]at e
   have q':oc=p.2:=Option.some.inj e
   exact d w' (by rw[←q'];exact LY)
theorem HB {M:Model}{A:bT}{E:af->ak->Prop}{i:Nat}{x:aR}{v:V}{u:af}{Q:Unit->ak->Prop}(I:Inv X aj σ H s)(hN:X.N.Nodup)(hi:X.N[i]?=some x)(hx:Loc X.env.scope x)(r:RelV v u)
  (h:∀s',Inv X aj (σ.set i (some v)) H s'->Q () s') (hf:X.fn x=true\/X.env.scope.names.lookup x=some .local:=by first|exact .inl rfl|exact .inr rfl|assumption):bi M A (storeName X.env x u) Q E s :=
 Rb I hN hi hx r (λs' I' _=>h s' I') hf
theorem Inv.call' {s':ak}{ch:List ai}(I:Inv X aj σ H s)(ho:s'.os=s.os)(u:Un (sN X.stack) ch H H' s.heap s'.heap)(hok:kb X.prog X.w H' s'.heap)(hg:AllBare s'.gens)
  (ko:∀b∈ch,(b∈X.ex\/X.s₀.heap.objs.size<=b)/\b≠X.env.locals/\(∀x c,X.env.cells.lookup x=some c->c≠b)/\∀p∈X.pn++aj,p.1≠b):Inv X aj σ H' s':=by
 obtain⟨h',g',d',t',o'⟩:=s'
 have e:o'=s.os:=ho
 subst e
 exact I.call (g':=g') (t':=t') (d':=d') u hok hg ko
end
abbrev XK:=af->Option ai->Hp->Prop
abbrev St:=List (Option V)
abbrev VK:=V->Hp->Prop
abbrev TE:=St->Hp->VK->Prop
abbrev TT:=St->Hp->(Bool->Hp->Prop)->Prop
abbrev TA:=St->Hp->(List V->Hp->Prop)->Prop
structure kL where
 nx:St->Hp->Prop
 rt:VK
 bk:St->Hp->Prop:=λ_ _=>False
 ct:St->Hp->Prop:=λ_ _=>False
abbrev TS:=kL->St->Hp->Prop
def EP (X:Cx)(aj:List (ai×dO))(σ:St)(Q:VK)(u:af)(s':ak):Prop:=∃v H',Inv X aj σ H' s'/\RelV v u/\Q v H'
def TP (X:Cx)(aj:List (ai×dO))(σ:St)(Q:Bool->Hp->Prop)(b:Bool)(s':ak):Prop:=∃H',Inv X aj σ H' s'/\Q b H'
def AP (X:Cx)(aj:List (ai×dO))(σ:St)(Q:List V->Hp->Prop)(us:List af)(s':ak):Prop:=∃vs H',Inv X aj σ H' s'/\bX vs us/\Q vs H'
def SP (X:Cx)(aj:List (ai×dO))(D:kL)(f:Flow)(s':ak):Prop :=
 match f with
 |.next=>∃σ' H',Inv X aj σ' H' s'/\D.nx σ' H'
 |.brk=>∃σ' H',Inv X aj σ' H' s'/\D.bk σ' H'
 |.cont=>∃σ' H',Inv X aj σ' H' s'/\D.ct σ' H'
 |.ret u=>∃v σ' H',Inv X aj σ' H' s'/\RelV v u/\D.rt v H'
def PE (X:Cx)(e:Expr)(t:TE):Prop :=
 ∀(aj:List (ai×dO)) (s:ak) (σ:St) (H:Hp) (Q:VK),Inv X aj σ H s->t σ H Q->bi (ba X.prog X.w) X.A (bF e X.env) (EP X aj σ Q) X.xe s
def PT (X:Cx)(e:Expr)(t:TT):Prop :=
 ∀(aj:List (ai×dO)) (s:ak) (σ:St) (H:Hp) (Q:Bool->Hp->Prop),Inv X aj σ H s->t σ H Q->bi (ba X.prog X.w) X.A (rY e X.env (bF e X.env)) (TP X aj σ Q) X.xe s
def PW (X:Cx)(e:Expr)(t:TT):Prop :=
 ∀(whole:oI af) (aj:List (ai×dO)) (s:ak) (σ:St) (H:Hp) (Q:Bool->Hp->Prop),Inv X aj σ H s->t σ H Q->bi (ba X.prog X.w) X.A (rY e X.env whole) (TP X aj σ Q) X.xe s
theorem PW.pt {X:Cx}{e:Expr}{t:TT}(h:PW X e t):PT X e t:=h _
def PA (X:Cx)(es:List Expr)(t:TA):Prop :=
 ∀(pos:cW) (aj:List (ai×dO)) (s:ak) (σ:St) (H:Hp) (Q:List V->Hp->Prop),Inv X aj σ H s->t σ H Q->bi (ba X.prog X.w) X.A (spliced (cy pos (ao es X.env))) (AP X aj σ Q) X.xe s
def PS (X:Cx)(st:bR)(t:TS):Prop :=
 ∀(aj:List (ai×dO)) (s:ak) (σ:St) (H:Hp) (D:kL),Inv X aj σ H s->t D σ H->bi (ba X.prog X.w) X.A (exec st X.env) (SP X aj D) X.xe s
def pT (X:Cx)(st:List bR)(t:TS):Prop :=
 ∀(aj:List (ai×dO)) (s:ak) (σ:St) (H:Hp) (D:kL),Inv X aj σ H s->t D σ H->bi (ba X.prog X.w) X.A (execs st X.env) (SP X aj D) X.xe s
theorem di {α:Type}{t:oI α}{Q Q':α->ak->Prop}{M:Model}{A:bT}{E:af->ak->Prop}{s:ak}(h:bi M A t Q E s)(hQ:∀a s,Q a s->Q' a s):bi M A t Q' E s:=dM h hQ λ_ _ x=>x
end L2
namespace L2
open PySem PySem.Spec PyProof.Rows
section
variable {X:Cx}
theorem bin {a b:Expr}{ta tb:TE}(ha:PE X a ta)(hb:PE X b tb){aj:List (ai×dO)}{s:ak}{σ:St}{H:Hp}{R:V->V->Hp->Prop}(I:Inv X aj σ H s)(h:ta σ H λx H1=>tb σ H1 λy H2=>R x y H2)
  {α:Type} {Q:α->ak->Prop} {f:af->af->oI α}
  (hf:∀v u s2 x y H2,Inv X aj σ H2 s2->RelV x v->RelV y u->R x y H2->bi (ba X.prog X.w) X.A (f v u) Q X.xe s2) :
  bi (ba X.prog X.w) X.A (bF a X.env) (λv s₁=>bi (ba X.prog X.w) X.A (bF b X.env) (λu s₂=>bi (ba X.prog X.w) X.A (f v u) Q X.xe s₂) X.xe s₁) X.xe s:=by
 refine di (ha aj s σ H _ I h) λv s1 ⟨x,H1,I1,r1,q1⟩=>?_
 refine di (hb aj s1 σ H1 _ I1 q1) λu s2 ⟨y,H2,I2,r2,q2⟩=>?_
 exact hf v u s2 x y H2 I2 r1 r2 q2
def MQ (i:Nat):TE:=λσ H Q=>∃v,σ[i]?=some (some v)/\Q v H
def tC (v:V):TE:=λ_ H Q=>Q v H
theorem jo {i:Nat}{x:aR}{pos:cW}(hN:X.N[i]?=some x)(hv:ou X.env.scope x)(hd:(x==("__debug__":aR))=false:=by decide)(iL:(x==("__classdict__":aR))=false:=by decide):PE X (.Name x pos) (MQ i):=by
 intro aj s σ H Q I h
 obtain⟨v,e,h⟩:=h
 obtain⟨m,hn,hl⟩:=I.loc
 obtain⟨u,r,l⟩:=hl i x v hN e hv
 have fin:EP X aj σ Q u s:=⟨v,H,I,r,h⟩
 rcases l with⟨hk,hm⟩|⟨hk,c,hc,nB⟩
 ·exact wM (wpAny_loadName_local I.ok.kind hk hn hm fin) hd
 ·rcases hk with hk|hk
  ·exact wM (wpAny_loadName_cell I.ok.kind hk hc nB fin) hd
  ·exact wM (wpAny_loadName_free I.ok.kind hk hc nB fin iL) hd
theorem zte {i j pos}:PE X (.Constant (.int i) j pos) (tC (.int i)):=λ_ _ _ H _ I h=>wpAny_Constant_int ⟨.int i,H,I.tok _,⟨_,rfl⟩,h⟩
theorem zvs {b j pos}:PE X (.Constant (.bool b) j pos) (tC (.bl b)):=λ_ _ _ H _ I h=>Constant_bool ⟨.bl b,H,I,rfl,h⟩
theorem ztf {j pos}:PE X (.Constant .none j pos) (tC .non):=λ_ _ _ H _ I h=>Constant_none ⟨.non,H,I,rfl,h⟩
theorem ztg {x j pos}:PE X (.Constant (.str x) j pos) (tC (.str x)):=λ_ _ _ H _ I h=>Calls.Constant_str ⟨.str x,H,I.tok _,⟨_,rfl⟩,h⟩
def Gl (X:Cx)(x:aR):Prop:=X.env.kindOf x=some .globalImplicit
theorem Js {E:af->ak->Prop}{aj:List (ai×dO)}{s:ak}{σ:St}{H:Hp}{x:aR}{u:af}{pos:cW}{Q:af->ak->Prop}(I:Inv X aj σ H s)(hg:Gl X x)(hm:X.mg x=some u)(h:Q u s)
  (hd:(x==("__debug__":aR))=false:=by decide):bi (ba X.prog X.w) X.A (bF (.Name x pos) X.env) Q E s :=
 Calls.Name_function_global I.ok.kind hg (Calls.loadGlobal_global (by rw[I.ok.glob];exact I.mod.glob.keeps I.bk) hm h) hd
theorem tO {E:af->ak->Prop}{aj:List (ai×dO)}{s:ak}{σ:St}{H:Hp}{x:aR}{u:af}{pos:cW}{Q:af->ak->Prop}(I:Inv X aj σ H s)(hg:Gl X x)(hm:X.mg x=none)(hv:bS x=some u)(h:Q u s)
  (hn:x≠"__name__":=by decide) (hd:(x==("__debug__":aR))=false:=by decide):bi (ba X.prog X.w) X.A (bF (.Name x pos) X.env) Q E s:=by
 obtain⟨mb,h1,h2⟩:=I.mod.blt
 exact Calls.Name_function_global I.ok.kind hg (Calls.loadGlobal_builtin (by rw[I.ok.glob];exact I.mod.glob.keeps I.bk) hm (by rw[I.ok.blt];exact h1.keeps I.bk) ((h2 x hn).trans hv) h) hd
theorem Sa {x:aR}{v:V}{u:af}{pos:cW}(hg:Gl X x)(hm:X.mg x=some u)(r:RelV v u)(hd:(x==("__debug__":aR))=false:=by decide):PE X (.Name x pos) (tC v) :=
 λ_ _ _ H _ I h=>Js I hg hm ⟨v,H,I,r,h⟩ hd
theorem zql {x:aR}{v:V}{u:af}{pos:cW}(hg:Gl X x)(hm:X.mg x=none)(hv:bS x=some u)(r:RelV v u)(hn:x≠"__name__":=by decide)(hd:(x==("__debug__":aR))=false:=by decide):PE X (.Name x pos) (tC v) :=
 λ_ _ _ H _ I h=>tO I hg hm hv ⟨v,H,I,r,h⟩ hn hd
variable {a b:Expr}{ta tb:TE}{pos:cW}
def PC (X:Cx)(op:lK)(a b:Expr)(t:TE):Prop :=
 ∀(aj:List (ai×dO)) (s:ak) (σ:St) (H:Hp) (Q:VK),Inv X aj σ H s->t σ H Q ->
  bi (ba X.prog X.w) X.A (bF a X.env) (λv s₁=>bi (ba X.prog X.w) X.A (bF b X.env) (λu s₂=>bi (ba X.prog X.w) X.A (cD op v u) (EP X aj σ Q) X.xe s₂) X.xe s₁) X.xe s
theorem tE (b:Expr){op:lK}(h:op≠.In)(h2:op≠.NotIn):dC op b=false:=by
 have e1:(op==lK.In)=false:=by cases op<;>first|rfl|exact absurd rfl h
 have e2:(op==lK.NotIn)=false:=by cases op<;>first|rfl|exact absurd rfl h2
 cases b<;>simp[dC,e1,e2]
def tB (t:TE):TT:=λσ H Q=>t σ H λx H1=>∃c,x=.bl c/\Q c H1
theorem S9 {op:lK}{t:TE}(h:PC X op a b t)(h1:dC op b=false:=by first|exact tE _ (by decide) (by decide)|rfl):PT X (.Compare a [op] [b] pos) (tB t):=by
 intro aj s σ H Q I hw
 refine wpAny_isTrue_Compare1 (di (h aj s σ H _ I hw) λv s1 h1=>di h1 λu s2 h2=>di h2 λc s3 ⟨x,H1,I1,r1,q1⟩=>?_) h1
 obtain⟨d,rfl,q⟩:=q1
 cases r1
 exact e7 ⟨H1,I1,q⟩
theorem zth {e:Expr}{t:TE}(h:PE X e t)(he:∀whole,rY e X.env whole=(do let v ← whole;gN e.pos;d7 [v] (truthy v)):=by intro _;rfl):PT X e (tB t):=by
 intro aj s σ H Q I hw
 refine isTrue_plain (di (h aj s σ H _ I hw) λv s1 ⟨x,H1,I1,r1,q1⟩=>?_) (he _)
 obtain⟨d,rfl,q⟩:=q1
 cases r1
 exact e7 ⟨H1,I1,q⟩
variable {tA IP:TT}{rest:List Expr}
def MC (t u:TT):TT:=λσ H Q=>t σ H λc H1=>if c=true then u σ H1 Q else Q false H1
def YU (t u:TT):TT:=λσ H Q=>t σ H λc H1=>if c=true then Q true H1 else u σ H1 Q
def MK (t:TT):TT:=λσ H Q=>t σ H λc H1=>Q (!c) H1
theorem zqm (ha:PT X a tA):PW X (.BoolOp .And [a] pos) tA:=by
 intro wh aj s σ H Q I h
 refine isTrue_and (di (ha aj s σ H Q I h) λc s1 e=>?_)
 cases c with
 |true=>exact isTrue_and_nil e
 |false=>exact e
theorem zti (ha:PT X a tA):PW X (.BoolOp .Or [a] pos) tA:=by
 intro wh aj s σ H Q I h
 refine isTrue_or (di (ha aj s σ H Q I h) λc s1 e=>?_)
 cases c with
 |false=>exact isTrue_or_nil e
 |true=>exact e
theorem ztj (ha:PT X a tA)(hb:PW X (.BoolOp .And (b::rest) pos) IP):PW X (.BoolOp .And (a::b::rest) pos) (MC tA IP):=by
 intro wh aj s σ H Q I h
 refine isTrue_and (di (ha aj s σ H _ I h) λc s1 ⟨H1,I1,q1⟩=>?_)
 cases c with
 |true=>exact hb wh aj s1 σ H1 Q I1 q1
 |false=>exact⟨H1,I1,q1⟩
theorem zvt (ha:PT X a tA)(hb:PW X (.BoolOp .Or (b::rest) pos) IP):PW X (.BoolOp .Or (a::b::rest) pos) (YU tA IP):=by
 intro wh aj s σ H Q I h
 refine isTrue_or (di (ha aj s σ H _ I h) λc s1 ⟨H1,I1,q1⟩=>?_)
 cases c with
 |true=>exact⟨H1,I1,q1⟩
 |false=>exact hb wh aj s1 σ H1 Q I1 q1
theorem ztk (ha:PT X a tA):PT X (.UnaryOp .Not a pos) (MK tA):=by
 intro aj s σ H Q I h
 exact isTrue_not (ha aj s σ H (λc H1=>Q (!c) H1) I h)
def Hc (ta tb:TE):TE:=λσ H Q=>ta σ H λx H1=>∃c,x=.bl c/\if c=true then tb σ H1 Q else Q (.bl false) H1
def ML (ta tb:TE):TE:=λσ H Q=>ta σ H λx H1=>∃c,x=.bl c/\if c=true then Q (.bl true) H1 else tb σ H1 Q
theorem ztl {op}{t:TE}(h:PE X a t):PE X (.BoolOp op [a] pos) t:=λaj s σ H Q I hw=>BoolOp_one (h aj s σ H Q I hw)
theorem ztm (ha:PE X a ta)(hb:PE X (.BoolOp .And (b::rest) pos) tb):PE X (.BoolOp .And (a::b::rest) pos) (Hc ta tb):=by
 intro aj s σ H Q I h
 refine BoolOp_and (di (ha aj s σ H _ I h) λv s1 ⟨x,H1,I1,r1,q1⟩=>?_)
 obtain⟨c,rfl,q1⟩:=q1
 cases r1
 refine e7 ?_
 cases c with
 |true=>exact hb aj s1 σ H1 Q I1 q1
 |false=>exact⟨.bl false,H1,I1,rfl,q1⟩
theorem zvu (ha:PE X a ta)(hb:PE X (.BoolOp .Or (b::rest) pos) tb):PE X (.BoolOp .Or (a::b::rest) pos) (ML ta tb):=by
 intro aj s σ H Q I h
 refine BoolOp_or (di (ha aj s σ H _ I h) λv s1 ⟨x,H1,I1,r1,q1⟩=>?_)
 obtain⟨c,rfl,q1⟩:=q1
 cases r1
 refine e7 ?_
 cases c with
 |false=>exact hb aj s1 σ H1 Q I1 q1
 |true=>exact⟨.bl true,H1,I1,rfl,q1⟩
def YT (t:TT)(ta tb:TE):TE:=λσ H Q=>t σ H λc H1=>if c=true then ta σ H1 Q else tb σ H1 Q
theorem znm {c:Expr}(hc:PT X c tA)(ha:PE X a ta)(hb:PE X b tb):PE X (.IfExp c a b pos) (YT tA ta tb):=by
 intro aj s σ H Q I h
 refine wpAny_IfExp (di (hc aj s σ H _ I h) λd s1 ⟨H1,I1,q1⟩=>?_)
 cases d with
 |true=>exact ha aj s1 σ H1 Q I1 q1
 |false=>exact hb aj s1 σ H1 Q I1 q1
end
end L2
namespace L2
open PySem PySem.Spec PyProof.Rows
def fm (K:ae)(H:Hp)(a:ai)(xs:List V):Prop :=
 Rd H a (.lst xs) \/
  ∃(o:dO) (ce:Array af) (n:Nat),K.lookup a=some o/\o.cls=.type "list"/\o.dict=none/\o.data=.seq ce n/\ce.size<=sizeLine/\bX xs ce.toList
def kn (K:ae)(H:Hp)(a:ai)(xs:List V):Prop :=
 Rd H a (.tup xs) \/
  ∃(o:dO) (ce:Array af) (n:Nat),K.lookup a=some o/\o.cls=.type "tuple"/\o.data=.seq ce n/\ce.size<=sizeLine/\bX xs ce.toList
def J8:af->Option V
 |.none=>some .non
 |.bool b=>some (.bl b)
 |.int i _=>some (.int i)
 |.str x _=>some (.str x)
 |.bytes b _=>some (.byt b)
 |.float b _=>some (.flt b)
 |.ref a=>some (.ref a)
 |.type n=>some (.ty n)
 |_=>none
theorem RelV.abs {x:V}{u:af}(r:RelV x u):J8 u=some x:=by
 cases x with
 |non=>cases r;rfl
 |bl _=>cases r;rfl
 |int _=>obtain⟨t,rfl⟩:=r;rfl
 |str _=>obtain⟨t,rfl⟩:=r;rfl
 |byt _=>obtain⟨t,rfl⟩:=r;rfl
 |flt _=>obtain⟨t,rfl⟩:=r;rfl
 |ref _=>cases r;rfl
 |ty _=>cases r;rfl
theorem RelV.inj {x y:V}{u:af}(r:RelV x u)(q:RelV y u):x=y:=Option.some.inj (r.abs.symm.trans q.abs)
theorem bX.inj:∀{xs ys:List V} {us:List af},bX xs us->bX ys us->xs=ys
 |_,_,_,.nil,.nil=>rfl
 |_,_,_,.cons r t,.cons r' t'=>by rw[r.inj r',bX.inj t t']
section
variable {X:Cx}{aj:List (ai×dO)}{σ:St}{H:Hp}{s:ak}{a:ai}{xs ys:List V}
theorem fm.of {K:ae}(h:H a=some (.lst xs)):fm K H a xs:=.inl (.inl h)
theorem kn.of {K:ae}(h:H a=some (.tup xs)):kn K H a xs:=.inl (.inl h)
theorem Inv.list (I:Inv X aj σ H s)(h:fm X.K H a xs):∃ce:List af,bX xs ce/\PlainL s.heap a ce.toArray/\xs.length<=sizeLine:=by
 rcases h with h|⟨o,ce,n,hk,hc,hd,hs,hz,r⟩
 ·obtain⟨z,ce,n,r,e⟩:=h.ok I.hok
  exact⟨ce,r,⟨_,n,e,rfl,rfl,rfl⟩,z⟩
 ·refine⟨ce.toList,r,⟨o,n,I.kIn a o hk,hc,hd,by simpa using hs⟩,?_⟩
  have e:=r.length
  simp only[dF]at e
  omega
theorem Inv.tuple (I:Inv X aj σ H s)(h:kn X.K H a xs):∃ce:List af,bX xs ce/\IsTup s.heap a ce.toArray/\xs.length<=sizeLine:=by
 rcases h with h|⟨o,ce,n,hk,hc,hs,hz,r⟩
 ·obtain⟨z,ce,r,p⟩:=h.ok I.hok
  exact⟨ce,r,p,z⟩
 ·refine⟨ce.toList,r,⟨o,I.kIn a o hk,hc,n,by simpa using hs⟩,?_⟩
  have e:=r.length
  simp only[dF]at e
  omega
theorem Inv.list_inj (I:Inv X aj σ H s)(h:fm X.K H a xs)(h':fm X.K H a ys):xs=ys:=by
 obtain⟨ce,r,⟨o,n,e,_,_,d⟩,_⟩:=I.list h
 obtain⟨its',r',⟨o',n',e',_,_,d'⟩,_⟩:=I.list h'
 rw[e]at e';cases e'
 rw[d]at d'
 injection d' with d1 _
 have:ce=its':=by simpa using congrArg Array.toList d1
 subst this
 exact r.inj r'
end
abbrev Cx.wish (X:Cx)(E:af->ak->Prop):Cx:={ X with xe:=E }
abbrev Cx.nox (X:Cx):Cx:=X.wish λ_ _=>False
theorem Cx.Ok.wish {X:Cx}(ok:X.Ok)(E:af->ak->Prop):(X.wish E).Ok :=
 ⟨ok.mod,ok.kind,ok.glob,ok.blt,ok.above,ok.inj,ok.has,ok.cab,ok.hd,ok.frames,ok.stk,ok.exf,ok.bs,ok.bsz,ok.noex,ok.exfs,ok.funs,ok.frf⟩
theorem Cx.Ok.unwish {X:Cx}{E:af->ak->Prop}(ok:(X.wish E).Ok):X.Ok :=
 ⟨ok.mod,ok.kind,ok.glob,ok.blt,ok.above,ok.inj,ok.has,ok.cab,ok.hd,ok.frames,ok.stk,ok.exf,ok.bs,ok.bsz,ok.noex,ok.exfs,ok.funs,ok.frf⟩
section
variable {X:Cx}{aj:List (ai×dO)}{σ:St}{H:Hp}{s:ak}{E:af->ak->Prop}
theorem Inv.wish (I:Inv X aj σ H s)(E:af->ak->Prop):Inv (X.wish E) aj σ H s:=⟨I.ok.wish E,I.os,I.bare,I.base,I.loc,I.cell,I.free,I.freeC,I.pin,I.hok,I.len⟩
theorem Inv.unwish (I:Inv (X.wish E) aj σ H s):Inv X aj σ H s:=⟨I.ok.unwish,I.os,I.bare,I.base,I.loc,I.cell,I.free,I.freeC,I.pin,I.hok,I.len⟩
theorem SP.unwish {D:kL}{f:Flow}{s':ak}(h:SP (X.wish E) aj D f s'):SP X aj D f s':=by
 cases f with
 |next=>obtain⟨σ',H',I,q⟩:=h;exact⟨σ',H',I.unwish,q⟩
 |brk=>obtain⟨σ',H',I,q⟩:=h;exact⟨σ',H',I.unwish,q⟩
 |cont=>obtain⟨σ',H',I,q⟩:=h;exact⟨σ',H',I.unwish,q⟩
 |ret u=>obtain⟨v,σ',H',I,r,q⟩:=h;exact⟨v,σ',H',I.unwish,r,q⟩
theorem pT.nox {st:List bR}{t:TS}(h:pT X.nox st t):pT X st t:=λaj s σ H D I hw=>
 dM (h aj s σ H D (I.wish _) hw) (λ_ _ q=>q.unwish) λ_ _ z=>False.elim z
end
section
variable {X:Cx}{st:bR}{rest:List bR}{t u:TS}{e:Expr}{te:TE}{pos:cW}
def Hj:TS:=λD σ H=>D.nx σ H
def MO (t u:TS):TS:=λD σ H=>t { D with nx:=u D } σ H
theorem zqn:pT X [] Hj:=λ_ _ σ H _ I h=>jQ ⟨σ,H,I,h⟩
theorem Rz (h1:PS X st t)(h2:pT X rest u):pT X (st::rest) (MO t u):=by
 intro aj s σ H D I h
 refine wpAny_execs_cons (di (h1 aj s σ H { D with nx:=u D } I h) λf s1 q=>?_)
 cases f with
 |next=>
  obtain⟨σ',H',I',q⟩:=q
  exact h2 aj s1 σ' H' D I' q
 |ret v=>exact q
 |brk=>exact q
 |cont=>exact q
theorem Sb (h1:PS X st t):pT X [st] t:=by
 intro aj s σ H D I h
 refine wpAny_execs_cons (di (h1 aj s σ H D I h) λf s1 q=>?_)
 cases f with
 |next=>exact jQ q
 |ret v=>exact q
 |brk=>exact q
 |cont=>exact q
theorem Inv.quiet {aj:List (ai×dO)}{σ:St}{H:Hp}{s:ak}(I:Inv X aj σ H s):interactive X.env=false:=by simp[interactive,I.ok.kind]
def Hg (te:TE):TS:=λD σ H=>te σ H λ_ H1=>D.nx σ H1
theorem NK (he:PE X e te)(hs:dW e none pos.line X.env=pure false:=by rfl):PS X (.Expr e pos) (Hg te):=by
 intro aj s σ H D I h
 exact wpAny_Expr_any (di (he aj s σ H _ I h) λv s1 ⟨x,H1,I1,r1,q1⟩=>⟨σ,H1,I1,q1⟩) I.quiet hs
def MN (te:TE):TS:=λD σ H=>te σ H D.rt
theorem JK (he:PE X e te):PS X (.Return (some e) pos) (MN te):=by
 intro aj s σ H D I h
 exact wpAny_Return_some (di (he aj s σ H _ I h) λv s1 ⟨x,H1,I1,r1,q1⟩=>⟨x,σ,H1,I1,r1,q1⟩)
def MI (c:TT)(t u:TS):TS:=λD σ H=>c σ H λb H1=>if b=true then t D σ H1 else u D σ H1
theorem zvv {c:Expr}{a b:List bR}{tc:TT}(hc:PT X c tc)(ha:pT X a t)(hb:pT X b u):PS X (.If c a b pos) (MI tc t u):=by
 intro aj s σ H D I h
 refine wpAny_If (di (hc aj s σ H _ I h) λd s1 ⟨H1,I1,q1⟩=>?_)
 cases d with
 |true=>exact ha aj s1 σ H1 D I1 q1
 |false=>exact hb aj s1 σ H1 D I1 q1
def AY:TS:=λ_ _ _=>False
theorem znn:PS X st AY:=λ_ _ _ _ _ _ h=>h.elim
end
abbrev TG:=V->St->Hp->(St->Hp->Prop)->Prop
abbrev wO:=List V->St->Hp->(St->Hp->Prop)->Prop
def PG (X:Cx)(target:Expr)(t:TG):Prop :=
 ∀(aj:List (ai×dO)) (s:ak) (σ:St) (H:Hp) (v:V) (u:af) (Q:St->Hp->Prop),Inv X aj σ H s->RelV v u->t v σ H Q ->
  bi (ba X.prog X.w) X.A (gI target X.env u) (λ_ s'=>∃σ' H',Inv X aj σ' H' s'/\Q σ' H') X.xe s
def Be (X:Cx)(ts:List Expr)(t:wO):Prop :=
 ∀(aj:List (ai×dO)) (s:ak) (σ:St) (H:Hp) (vs:List V) (us:List af) (Q:St->Hp->Prop),Inv X aj σ H s->bX vs us->t vs σ H Q ->
  bi (ba X.prog X.w) X.A (assignInOrder ((cQ ts X.env).map (·.2)) us) (λ_ s'=>∃σ' H',Inv X aj σ' H' s'/\Q σ' H') X.xe s
abbrev sK:=V->V->V->Hp->(Hp->Prop)->Prop
def yF (X:Cx)(t:sK):Prop :=
 ∀(aj:List (ai×dO)) (s:ak) (σ:St) (H:Hp) (o i v:V) (ov iv u:af) (Q:Hp->Prop),Inv X aj σ H s->RelV o ov->RelV i iv->RelV v u->t o i v H Q ->
  bi (ba X.prog X.w) X.A (mV ov iv u) (λ_ s'=>∃H',Inv X aj σ H' s'/\Q H') X.xe s
abbrev Bi:=V->V->Hp->VK->Prop
def Bf (X:Cx)(op:jD)(t:Bi):Prop :=
 ∀(aj:List (ai×dO)) (s:ak) (σ:St) (H:Hp) (x y:V) (v u:af) (Q:VK),Inv X aj σ H s->RelV x v->RelV y u->t x y H Q ->
  bi (ba X.prog X.w) X.A (inplaceOp op v u) (EP X aj σ Q) X.xe s
section
variable {X:Cx}{pos:cW}
def qG (i:Nat):TG:=λv σ H Q=>Q (σ.set i (some v)) H
theorem Sd {i:Nat}{x:aR}(hN:X.N.Nodup)(hi:X.N[i]?=some x)(hx:Loc X.env.scope x)(hf:X.fn x=true\/X.env.scope.names.lookup x=some .local:=by first|exact .inl rfl|exact .inr rfl|assumption):PG X (.Name x pos) (qG i):=by
 intro aj s σ H v u Q I r h
 exact wpAny_assign_Name (HB I hN hi hx r (λs' I'=>⟨_,H,I',h⟩) hf)
def Li:wO:=λvs σ H Q=>vs=[]/\Q σ H
def Em (t:TG)(u:wO):wO:=λvs σ H Q=>∃v r,vs=v::r/\t v σ H λσ' H'=>u r σ' H' Q
theorem Se:Be X [] Li:=by
 intro aj s σ H vs us Q I r h
 obtain⟨e,h⟩:=h
 subst e
 cases r
 exact assignInOrder_nil ⟨σ,H,I,h⟩
theorem RA {e:Expr}{es:List Expr}{t:TG}{u:wO}(h1:PG X e t)(h2:Be X es u)
  (hs:(cQ (e::es) X.env).map (·.2)=gI e X.env::(cQ es X.env).map (·.2):=by rfl):Be X (e::es) (Em t u):=by
 intro aj s σ H vs us Q I r h
 obtain⟨v,vr,e1,h⟩:=h
 subst e1
 cases r with
 |cons r rr=>
  rw[hs]
  refine assignInOrder_cons (di (h1 aj s σ H _ _ _ I r h) λ_ s1 ⟨σ1,H1,I1,q1⟩=>?_)
  exact h2 aj s1 σ1 H1 _ _ Q I1 rr q1
def Lk (K:ae)(n:Nat)(t:wO):TG:=λv σ H Q=>∃a xs,v=.ref a/\kn K H a xs/\xs.length=n/\t xs σ H Q
theorem Ta {es:List Expr}{k:Nat}{t:wO}{n:Nat}(hc:X.calm=true)(h:Be X es t)
  (hn:(cQ es X.env).length=n:=by rfl) (mH:(cQ es X.env).findIdx? (·.1)=none:=by rfl):PG X (.Tuple es k pos) (Lk X.K n t):=by
 intro aj s σ H v u Q I r hw
 obtain⟨a,xs,e1,hq,hl,hw⟩:=hw
 subst e1
 cases r
 obtain⟨ce,rv,ht,hz⟩:=I.tuple hq
 refine assign_Tuple_tuple (I.ok.hd hc) ht (by simp[hn,←hl,rv.length]) mH λh' hx=>?_
 have I1:Inv X aj σ H { s with heap:=h' }:=I.kept (t':=s.toks) λb o e=>hx b o (br (aP e)) e
 exact h aj _ σ H xs _ Q I1 (by simpa using rv) hw
def Lj (to ti:TE)(t:sK):TG:=λv σ H Q=>to σ H λo H1=>ti σ H1 λi H2=>t o i v H2 λH3=>Q σ H3
theorem Tb {o i:Expr}{to ti:TE}{t:sK}(ho:PE X o to)(hi:PE X i ti)(hs:yF X t)
  (ha:∀v,gI (.Subscript o i pos) X.env v=(do
   let ov ← d7 [v] (bF o X.env)
   let iv ← d7 [v,ov] (bF i X.env)
   gN pos
   d7 [v,ov,iv] (mV ov iv v)
   rZ [v,ov,iv] []):=by intro _;rfl):PG X (.Subscript o i pos) (Lj to ti t):=by
 intro aj s σ H v u Q I r h
 rw[ha]
 refine aO (lL (di (ho aj s σ H _ I h) λov s1 ⟨x,H1,I1,r1,q1⟩=>?_))
 refine aO (lL (di (hi aj s1 σ H1 _ I1 q1) λiv s2 ⟨y,H2,I2,r2,q2⟩=>?_))
 refine aO (lM (aO (lL (di (hs aj s2 σ H2 x y v ov iv u _ I2 r1 r2 r q2) λ_ s3 ⟨H3,I3,q3⟩=>?_))))
 exact wpAny_release ⟨σ,H3,I3,q3⟩
def AU (te:TE)(g:TG):TS:=λD σ H=>te σ H λx H1=>g x σ H1 D.nx
theorem N3 {tg e:Expr}{te:TE}{g:TG}(he:PE X e te)(hg:PG X tg g)(hs:gP [tg] e pos.line X.env=pure false:=by rfl)(hw:gO [tg] e X.env=pure none:=by rfl)
  (h1:(cQ [tg] X.env).map (·.2)=[gI tg X.env]:=by rfl):PS X (.Assign [tg] e pos) (AU te g):=by
 intro aj s σ H D I h
 refine wpAny_Assign_stores (di (he aj s σ H _ I h) λv s1 ⟨x,H1,I1,r1,q1⟩=>?_) hs hw
 rw[h1]
 exact di (hg aj s1 σ H1 x v _ I1 r1 q1) λ_ s2 q=>q
theorem Tc {i:Nat}{x:aR}{e:Expr}{te:TE}{pos':cW}(hN:X.N.Nodup)(hi:X.N[i]?=some x)(hx:Loc X.env.scope x)(he:PE X e te)(hs:dW e (some (.Name x pos')) pos.line X.env=pure false:=by rfl)(hf:X.fn x=true\/X.env.scope.names.lookup x=some .local:=by first|exact .inl rfl|exact .inr rfl|assumption) :
  PS X (.Assign [.Name x pos'] e pos) (AU te (qG i)):=by
 intro aj s σ H D I h
 refine wpAny_Assign_Name (di (he aj s σ H _ I h) λv s1 ⟨y,H1,I1,r1,q1⟩=>?_) hs
 exact HB I1 hN hi hx r1 (λs2 I2=>⟨_,H1,I2,q1⟩) hf
def MM (i j:Nat)(ta:TA):TS:=λD σ H=>ta σ H λvs H1=>∃v w,vs=[v,w]/\D.nx ((σ.set i (some v)).set j (some w)) H1
theorem ztn {i j:Nat}{x y:aR}{a b:Expr}{ta:TA}{px py pt:cW}{kt k2 lR}(hc:X.calm=true)(hN:X.N.Nodup)(hi:X.N[i]?=some x)(hj:X.N[j]?=some y)(si:i≠j)
    (hx:X.env.scope.names.lookup x=some .local) (hy:X.env.scope.names.lookup y=some .local) (ha:PA X [a,b] ta)
    (hw:gO [.Tuple [.Name x px,.Name y py] kt pt] (.Tuple [a,b] k2 lR) X.env=pure (some [x,y]))
    (hs:gP [.Tuple [.Name x px,.Name y py] kt pt] (.Tuple [a,b] k2 lR) pos.line X.env=pure false:=by rfl) :
    PS X (.Assign [.Tuple [.Name x px,.Name y py] kt pt] (.Tuple [a,b] k2 lR) pos) (MM i j ta):=by
  intro aj s σ H D I h
  rw[exec_Assign_arm]
  refine aO (lM ?_)
  rw[hs]
  refine aO (bU ?_)
  rw[if_neg (by decide)]
  refine aO (Tuple_ (di (ha _ aj s σ H _ I h) λus s1 ⟨vs,H1,I1,r1,q1⟩=>?_))
  obtain⟨v,w,e1,q1⟩:=q1
  subst e1
  obtain⟨u1,u2,rfl,rv,mL⟩:∃u1 u2,us=[u1,u2]/\RelV v u1/\RelV w u2:=by
    cases r1 with
    |cons p q=>
      cases q with
      |cons p' q'=>
        cases q'
        exact⟨_,_,rfl,p,p'⟩
  refine mX ?_ (by show 2<=sizeLine;decide)
  have I2:Inv X aj σ H1 { s1 with heap:=s1.heap.push { cls:=.type "tuple",data:=.seq [u1,u2].toArray } }:=I1.kept (t':=s1.toks) λb o e=>aD _ e
  rw[hw]
  refine aO (bU ?_)
  show bi (ba X.prog X.w) X.A (do rule "assign.swapped-stores";let items ← unpackItems (.ref s1.heap.objs.size) 2 none;assignInOrder [λv=>bindName X.env y v,λv=>bindName X.env x v] items.reverse;pure Flow.next) _ _ _
  refine aO (wpAny_rule (aO (unpackItems_tuple (items:=#[u1,u2]) (I.ok.hd hc) (IsTup.new s1.heap _) λh' Bu=>?_)))
  have I3:=I2.kept (h':=h') (t':=s1.toks) λb o e=>Bu b o (br (aP e)) e
  show bi _ _ (assignInOrder [λv=>bindName X.env y v,λv=>bindName X.env x v] [u2,u1] >>= λ_=>pure Flow.next) _ _ _
  refine aO (assignInOrder_cons (wpAny_bindName (HB I3 hN hj (.inl hy) mL (λs2 I4=>?_) (.inr hy))))
  refine assignInOrder_cons (wpAny_bindName (HB I4 hN hi (.inl hx) rv (λs3 I5=>assignInOrder_nil (bU ?_)) (.inr hx)))
  rw[List.set_comm _ _ (Ne.symm si)]at I5
  exact⟨_,H1,I5,q1⟩
def MD (i:Nat)(te:TE)(ti:Bi):TS:=λD σ H=>∃x,σ[i]?=some (some x)/\te σ H λy H1=>ti x y H1 λz H2=>D.nx (σ.set i (some z)) H2
theorem zto {i:Nat}{x:aR}{e:Expr}{te:TE}{op:jD}{ti:Bi}{pos':cW}(hN:X.N.Nodup)(hi:X.N[i]?=some x)(hx:Loc X.env.scope x)(he:PE X e te)(ho:Bf X op ti)(hf:X.fn x=true\/X.env.scope.names.lookup x=some .local:=by first|exact .inl rfl|exact .inr rfl|assumption) :
  PS X (.AugAssign (.Name x pos') op e pos) (MD i te ti):=by
 intro aj s σ H D I h
 obtain⟨v,e1,h⟩:=h
 obtain⟨m,hn,hl⟩:=I.loc
 have Y5:ou X.env.scope x:=by rcases hx with k|k;exact .inl k;exact .inr (.inl k)
 obtain⟨u,r,l⟩:=hl i x v hi e1 Y5
 refine wpAny_AugAssign_Name ?_
 have go:bi (ba X.prog X.w) X.A (bF e X.env) (λw s₂=>bi (ba X.prog X.w) X.A (inplaceOp op u w) (λr s₃=>bi (ba X.prog X.w) X.A (storeName X.env x r) (λ_=>SP X aj D .next) X.xe s₃) X.xe s₂) X.xe s:=by
  refine di (he aj s σ H _ I h) λw s1 ⟨y,H1,I1,r1,q1⟩=>?_
  refine di (ho aj s1 σ H1 v y u w _ I1 r r1 q1) λz s2 ⟨zv,H2,I2,r2,q2⟩=>?_
  exact HB I2 hN hi hx r2 (λs3 I3=>⟨_,H2,I3,q2⟩) hf
 rcases l with⟨hk,hm⟩|⟨hk,c,hc,nB⟩
 ·exact wpAny_loadName_local I.ok.kind hk hn hm go
 ·rcases hk with hk|hk
  ·exact wpAny_loadName_cell I.ok.kind hk hc nB go
  ·rcases hx with k|k
   ·have:X.env.scope.names.lookup x=some .free:=hk
    rw[k]at this;cases this
   ·have:X.env.scope.names.lookup x=some .free:=hk
    rw[k]at this;cases this
def Hd (to ti te:TE)(vS:V->V->Hp->VK->Prop)(IR:Bi)(vT:sK):TS:=λD σ H=>to σ H λo H1=>ti σ H1 λi H2=>vS o i H2 λx H3=>te σ H3 λy H4=>IR x y H4 λz H5=>vT o i z H5 λH6=>D.nx σ H6
def Ca (X:Cx)(t:V->V->Hp->VK->Prop):Prop :=
 ∀(aj:List (ai×dO)) (s:ak) (σ:St) (H:Hp) (o i:V) (ov iv:af) (Q:VK),Inv X aj σ H s->RelV o ov->RelV i iv->t o i H Q ->
  bi (ba X.prog X.w) X.A (mT ov iv) (EP X aj σ Q) X.xe s
theorem zqo {o i e:Expr}{to ti te:TE}{vS:V->V->Hp->VK->Prop}{IR:Bi}{vT:sK}{op:jD}{gc:cW}(ho:PE X o to)(hi:PE X i ti)(hg:Ca X vS)(he:PE X e te)(hp:Bf X op IR)(hs:yF X vT)
  (ha:∀ov iv new,augStore i ov iv new=(do d7 [new,ov,iv] (mV ov iv new);rZ [new,ov,iv] [];pure .next):=by intros;rfl):PS X (.AugAssign (.Subscript o i gc) op e pos) (Hd to ti te vS IR vT):=by
 intro aj s σ H D I h
 refine wpAny_AugAssign_SubscriptAny (di (ho aj s σ H _ I h) λov s1 ⟨x1,H1,I1,r1,q1⟩=>?_) ha
 refine di (hi aj s1 σ H1 _ I1 q1) λiv s2 ⟨x2,H2,I2,r2,q2⟩=>?_
 refine di (hg aj s2 σ H2 x1 x2 ov iv _ I2 r1 r2 q2) λold s3 ⟨x3,H3,I3,r3,q3⟩=>?_
 refine di (he aj s3 σ H3 _ I3 q3) λv s4 ⟨x4,H4,I4,r4,q4⟩=>?_
 refine di (hp aj s4 σ H4 x3 x4 old v _ I4 r3 r4 q4) λnew s5 ⟨x5,H5,I5,r5,q5⟩=>?_
 exact di (hs aj s5 σ H5 x1 x2 x5 ov iv new _ I5 r1 r2 r5 q5) λ_ s6 ⟨H6,I6,q6⟩=>⟨σ,H6,I6,q6⟩
def II (f:Int->Int->Int):Bi:=λx y H Q=>∃i j,x=.int i/\y=.int j/\Q (.int (f i j)) H
theorem N4:Bf X .Add (II λi j=>i+j):=by
 intro aj s σ H x y v u Q I r1 r2 h
 obtain⟨i,j,e1,e2,q⟩:=h
 subst e1;subst e2
 obtain⟨t,rfl⟩:=r1
 obtain⟨t',rfl⟩:=r2
 exact iadd_int ⟨.int _,H,I.tok _,⟨_,rfl⟩,q⟩
theorem ztp:Bf X .Sub (II λi j=>i-j):=by
 intro aj s σ H x y v u Q I r1 r2 h
 obtain⟨i,j,e1,e2,q⟩:=h
 subst e1;subst e2
 obtain⟨t,rfl⟩:=r1
 obtain⟨t',rfl⟩:=r2
 exact isub_int ⟨.int _,H,I.tok _,⟨_,rfl⟩,q⟩
end
section
variable {X:Cx}{pos:cW}
def AZ (c:TT)(tb:TS):TS:=λD σ H=>∃W:Nat->St->Hp->Prop,(∃m,W m σ H)/\∀m σ H,W m σ H ->
 c σ H λb H1=>if b=true then∃N:St->Hp->Prop,(∀σ' H',N σ' H'->∃m',m'<m/\W m' σ' H')/\tb { D with nx:=N,ct:=N,bk:=D.nx } σ H1 else D.nx σ H1
theorem zno {c:Expr}{body:List bR}{tc:TT}{tb:TS}(hp:bV (ba X.prog X.w) X.A X.env X.xe)(hc:PT X c tc)(hb:pT X body tb):PS X (.While c body [] pos) (AZ tc tb):=by
 intro aj s σ H D I h
 obtain⟨W,⟨m0,w0⟩,cj⟩:=h
 refine wpAny_While (codeAny_whileLoop (λn s'=>∃σ' H',Inv X aj σ' H' s'/\W n σ' H') ?_ m0 ⟨σ,H,I,w0⟩)
 rintro n s1 ⟨σ1,H1,I1,w1⟩
 refine eW hp (di (hc aj s1 σ1 H1 _ I1 (cj n σ1 H1 w1)) λb s2 ⟨H2,I2,q2⟩=>?_)
 cases b with
 |true=>
  obtain⟨N,hN,q2⟩:=q2
  rw[if_pos rfl]
  refine eW hp (di (hb aj s2 σ1 H2 _ I2 q2) λf s3 q3=>?_)
  cases f with
  |next=>
   obtain⟨σ3,H3,I3,n3⟩:=q3
   obtain⟨m',hm,w3⟩:=hN σ3 H3 n3
   exact⟨m',hm,σ3,H3,I3,w3⟩
  |cont=>
   obtain⟨σ3,H3,I3,n3⟩:=q3
   obtain⟨m',hm,w3⟩:=hN σ3 H3 n3
   exact⟨m',hm,σ3,H3,I3,w3⟩
  |brk=>exact q3
  |ret v=>exact q3
 |false=>
  rw[if_neg aU]
  exact jQ ⟨σ1,H2,I2,q2⟩
end
structure It where
 go:Nat->Hp->Prop
 yld:Nat->Hp->V->Hp->Prop
 stop:Nat->Hp->Prop
def kl (X:Cx)(aj:List (ai×dO))(H:Hp)(b:ai):Prop :=
 H b=none/\b≠X.env.locals/\b∉X.fs/\(b∈X.ex\/X.s₀.heap.objs.size<=b)/\(∀x c,X.env.cells.lookup x=some c->c≠b)/\∀p∈X.pn++aj,p.1≠b
theorem Inv.fpOk {X:Cx}{aj:List (ai×dO)}{σ:St}{H H':Hp}{s:ak}{b:ai}(I:Inv X aj σ H s)(hb:s.heap.objs.size<=b)(hn:H' b=none):kl X aj H' b:=by
 refine⟨hn,Nat.ne_of_gt (bn I.lt hb),I.nofs hb,.inr (cx I.sz hb),λx c e z=>?_,λp hp z=>?_⟩
 ·obtain⟨v,q⟩:=I.cell x c e
  exact absurd (bn q.lt (by rw[z];exact hb)) (eh _)
 ·exact absurd (bn (aP (I.pin p hp).1) (by rw[z];exact hb)) (eh _)
structure Turn (P:bx)(w:bY)(K:ae)(tg:Expr)(J:It)(fp:List ai)(it:ai)(tn:Nat->aX->Prop):Prop where
 mem:it∈fp
 obj:∀i h,tn i h->∀b∈fp,∃o,h.get? b=some o/\∀v,o.data≠.cell v
 keep:∀i h h',tn i h->(∀b∈fp,∀o,h.get? b=some o->h'.get? b=some o)->tn i h'
 item:∀(X:Cx),X.prog=P->X.w=w->X.K=K->X.calm=true->∀(i:Nat) (aj:List (ai×dO)) (s:ak) (σ:St) (H:Hp) (E:af->ak->Prop),Inv X aj σ H s->(∀b∈fp,kl X aj H b)->tn i s.heap->J.go i H ->
  bi (ba P w) X.A (pyNext (.ref it)) (λr s1=>∃u,r=some u /\
   bi (ba P w) X.A (hJ tg (.ref it) u) (λ_ s2=>∃x H',Inv X aj σ H' s2/\RelV x u/\J.yld i H x H'/\tn (i+1) s2.heap/\∀b∈fp,H' b=none) E s1) E s
 done:∀(X:Cx),X.prog=P->X.w=w->X.K=K->X.calm=true->∀(i:Nat) (aj:List (ai×dO)) (s:ak) (σ:St) (H:Hp) (E:af->ak->Prop),Inv X aj σ H s->(∀b∈fp,kl X aj H b)->tn i s.heap->J.stop i H ->
  bi (ba P w) X.A (pyNext (.ref it)) (λr s1=>r=none/\Inv X aj σ H s1) E s
 self:∀(A:bT) (i:Nat) (s:ak) (Q:af->ak->Prop) (E:af->ak->Prop),tn i s.heap->Q (.ref it) s->bi (ba P w) A (pyIter (.ref it)) Q E s
abbrev TI:=St->Hp->(It->Hp->Prop)->Prop
def Oo (X:Cx)(aj:List (ai×dO))(σ:St)(tg:Expr)(R:It->Hp->Prop)(IJ:af)(s2:ak):Prop :=
 ∃(it:ai) (fp:List ai) (tn:Nat->aX->Prop) (J:It) (H':Hp),IJ=.ref it/\Inv X aj σ H' s2/\Turn X.prog X.w X.K tg J fp it tn/\tn 0 s2.heap/\(∀b∈fp,kl X aj H' b)/\R J H'
def PI (X:Cx)(tg iter:Expr)(wi:TI):Prop :=
 ∀(aj:List (ai×dO)) (s:ak) (σ:St) (H:Hp) (R:It->Hp->Prop),Inv X aj σ H s->wi σ H R ->
  bi (ba X.prog X.w) X.A (bF iter X.env) (λv s1=>bi (ba X.prog X.w) X.A (pyIter v) (Oo X aj σ tg R) X.xe s1) X.xe s
theorem JY {M:Model}{A:bT}{E:af->ak->Prop}{s:ak}{tg:Expr}{it:ai}{u:af}{o:dO}{n:String}{vs:Array af}{Q:Unit->ak->Prop}(ho:s.heap.get? it=some o)(hc:o.cls=.type n)(hd:o.data=.fields vs)
    (hn:["enumerate","zip","dict_itemiterator","dict_reverseitemiterator","odict_iterator","itertools.zip_longest","itertools.pairwise"].contains n=false) (hQ:Q () s):bi M A (hJ tg (.ref it) u) Q E s:=by
  unfold hJ
  cases tg<;>first
    |exact bU hQ
    |(cases u<;>first
        |exact bU hQ
        |(refine aO (wpAny_load ho ?_)
          rw[hc,hd]
          show bi M A (if(["enumerate","zip","dict_itemiterator","dict_reverseitemiterator","odict_iterator","itertools.zip_longest","itertools.pairwise"].contains n&&vs[0]?==some (rawInt _))=true then _ else _) Q E s
          rw[if_neg (by intro h;rw[hn,Bool.false_and]at h;cases h)]
          exact bU hQ))
def J6 (K:ae)(a:ai):It :=
 ⟨λi H=>∃xs x,fm K H a xs/\xs[i]?=some x,λi H x H'=>H'=H/\∀xs,fm K H a xs->xs[i]?=some x,λi H=>∃xs,fm K H a xs/\xs.length<=i⟩
def B7 (lo:Int)(n:Nat):It:=⟨λi _=>i<n,λi H x H'=>H'=H/\x=.int (lo+i),λi _=>n<=i⟩
theorem zkz {P:bx}{w:bY}{K:ae}{tg:Expr}(a it:ai):Turn P w K tg (J6 K a) [it] it (λi h=>h.IsListIter it a i) where
 mem:=by simp
 obj:=λi h st b hb=>by
  have e:b=it:=by simpa using hb
  subst e
  obtain⟨o,e,c,d⟩:=st
  exact⟨o,e,λv z=>by rw[d]at z;cases z⟩
 keep:=λi h h' st k=>st.at λo e=>k it (by simp) o e
 item:=by
  intro X hP hw hK hc i aj s σ H E I hf st hg
  subst hP hw hK
  obtain⟨xs,x,hq,hx⟩:=hg
  obtain⟨ce,rv,p,hz⟩:=I.list hq
  obtain⟨u,hu,ru⟩:=rv.get hx
  obtain⟨f0,f1,f2,f3,f4,f5⟩:=hf it (by simp)
  refine wpAny_pyNext_list_item st p.isList (x:=u) (by simpa using hu) λh' pG sb=>?_
  have I1:Inv X aj σ H { s with heap:=h' }:=I.turned (t':=s.toks) (λb o hb e=>(sb.2 b hb).trans e) f0 f1 f3 f4 f5
  obtain⟨o,e,c,d⟩:=id pG
  exact⟨u,rfl,JY (s:={ s with heap:=h' }) e c d (by decide) ⟨x,H,I1,ru,⟨rfl,λys hy=>by rw[I.list_inj hy hq];exact hx⟩,pG,λb hb=>(hf b hb).1⟩⟩
 done:=by
  intro X hP hw hK hc i aj s σ H E I hf st hg
  subst hP hw hK
  obtain⟨xs,hq,hx⟩:=hg
  obtain⟨ce,rv,p,hz⟩:=I.list hq
  obtain⟨f0,f1,f2,f3,f4,f5⟩:=hf it (by simp)
  have hl:=rv.length
  exact wpAny_pyNext_list_end (I.ok.hd hc) st p.isList (by simp;omega) λh' eb=>⟨rfl,I.turned (t':=s.toks) (λb o hb e=>eb b o hb e) f0 f1 f3 f4 f5⟩
 self:=λ_ _ _ _ _ st h=>wpAny_pyIter_listiter st h
theorem Z6 {P:bx}{w:bY}{K:ae}{tg:Expr}(it:ai)(lo:Int)(n:Nat):Turn P w K tg (B7 lo n) [it] it (λi h=>IsRangeIter h it (lo+(i:Nat)*1) ((n:Int)-(i:Nat)) 1) where
 mem:=by simp
 obj:=λi h st b hb=>by
  have e:b=it:=by simpa using hb
  subst e
  exact⟨_,st,λv z=>by
   have z':jY.fields _=jY.cell v:=z
   cases z'⟩
 keep:=λi h h' st k=>k it (by simp) _ st
 item:=by
  intro X hP hw hK hc i aj s σ H E I hf st hg
  subst hP hw hK
  obtain⟨f0,f1,f2,f3,f4,f5⟩:=hf it (by simp)
  have W:=Walks.range (prog:=X.prog) (w:=X.w) (I.ok.hd hc) it lo 1 n
  refine W.item i s _ _ hg st λv h' tk hv pG kk=>?_
  obtain⟨t,rfl⟩:=hv
  have I1:Inv X aj σ H { s with heap:=h',toks:=tk }:=I.turned (λb o hb e=>kk b o (by simpa using hb) e) f0 f1 f3 f4 f5
  refine⟨_,rfl,JY (s:={ s with heap:=h',toks:=tk }) (n:="range_iterator") pG rfl rfl (by decide) ⟨.int (lo+i),H,I1,⟨t,?_⟩,⟨rfl,rfl⟩,pG,λb hb=>(hf b hb).1⟩⟩
  rw[jM]
 done:=by
  intro X hP hw hK hc i aj s σ H E I hf st hg
  subst hP hw hK
  obtain⟨f0,f1,f2,f3,f4,f5⟩:=hf it (by simp)
  exact wpAny_pyNext_range_end (I.ok.hd hc) st (by have:n<=i:=hg;omega) λh' eb=>⟨rfl,I.turned (t':=s.toks) (λb o hb e=>eb b o hb e) f0 f1 f3 f4 f5⟩
 self:=λ_ _ _ _ _ st h=>wpAny_pyIter_rangeiter st h
end L2
namespace L2
open PySem PySem.Spec PyProof.Rows
section
variable {X:Cx}{tg:Expr}
def E6 (K:ae)(tl:TE):TI:=λσ H R=>tl σ H λx H1=>∃a,x=.ref a/\(∃xs,fm K H1 a xs)/\R (J6 K a) H1
theorem R8 {l:Expr}{tl:TE}(hl:PE X l tl):PI X tg l (E6 X.K tl):=by
 intro aj s σ H R I h
 refine di (hl aj s σ H _ I h) λv s1 ⟨x,H1,I1,r1,q1⟩=>?_
 obtain⟨a,e,⟨xs,hq⟩,q⟩:=q1
 subst e
 cases r1
 obtain⟨ce,rv,p,hz⟩:=I1.list hq
 refine wpAny_pyIter_list p.isList ?_
 refine⟨s1.heap.objs.size,[s1.heap.objs.size],_,_,H1,rfl,I1.kept (t':=s1.toks) λb o e=>aD _ e,zkz a _,⟨_,bB _ rfl,rfl,rfl⟩,λb hb=>?_,q⟩
 have e:b=s1.heap.objs.size:=by simpa using hb
 subst e
 exact I1.fpOk (aF _) (I1.hok.fresh (aF _))
theorem RB {aj:List (ai×dO)}{σ:St}{H:Hp}{s:ak}{R:It->Hp->Prop}{E:af->ak->Prop}{lo hi:Int}{t u v:Tok}{tk:Nat}(I:Inv X aj σ H s)(h1:-(2 ^ 62)<=lo)(h2:lo<2 ^ 62)(h3:-(2 ^ 62)<=hi)(h4:hi<2 ^ 62)
    (q:R (B7 lo (hi-lo).toNat) H):bi (ba X.prog X.w) X.A (pyIter (.ref s.heap.objs.size)) (Oo X aj σ tg R) E { s with heap:=s.heap.push { cls:=.type "range",data:=.fields #[.int lo t,.int hi u,.int 1 v] },toks:=tk }:=by
  refine wpAny_pyIter_range (IsRange.new ..) (small_one h1 h2 h3 h4) ?_
  have I1:Inv X aj σ H { s with heap:=s.heap.push { cls:=.type "range",data:=.fields #[.int lo t,.int hi u,.int 1 v] },toks:=tk }:=I.kept λb o e=>aD _ e
  refine⟨(s.heap.push { cls:=.type "range",data:=.fields #[.int lo t,.int hi u,.int 1 v] }).objs.size,[(s.heap.push { cls:=.type "range",data:=.fields #[.int lo t,.int hi u,.int 1 v] }).objs.size],_,_,H,rfl,
    I1.kept (t':=tk) λb o e=>aD _ e,Z6 _ lo (hi-lo).toNat,?_,λb hb=>?_,q⟩
  · have e1:lo+((0:Nat):Int)*1=lo:=by simp
    have e2:(((hi-lo).toNat:Nat):Int)-((0:Nat):Int)=fE.Range.rangeSize lo hi 1:=by rw[rangeSize_one];split<;>omega
    show IsRangeIter _ _ (lo+((0:Nat):Int)*1) ((((hi-lo).toNat:Nat):Int)-((0:Nat):Int)) 1
    rw[e1,e2]
    exact bB _ rfl
  · have e:b=(s.heap.push { cls:=.type "range",data:=.fields #[.int lo t,.int hi u,.int 1 v] }).objs.size:=by simpa using hb
    subst e
    exact I1.fpOk (aF _) (I1.hok.fresh (aF _))
def E7 (ta:TA):TI:=λσ H R=>ta σ H λvs H1=>∃j:Int,vs=[.int j]/\-(2 ^ 62)<=j/\j<2 ^ 62/\R (B7 0 j.toNat) H1
def E8 (ta:TA):TI:=λσ H R=>ta σ H λvs H1=>∃i j:Int,vs=[.int i,.int j]/\(-(2 ^ 62)<=i/\i<2 ^ 62/\-(2 ^ 62)<=j/\j<2 ^ 62)/\R (B7 i (j-i).toNat) H1
theorem Z9 {a:Expr}{ta:TA}{p pos:cW}(hg:Gl X "range")(hm:X.mg "range"=none)(ha:PA X [a] ta)(hs:ao [a] X.env=[(false,bF a X.env)]:=by rfl):PI X tg (.Call (.Name "range" p) [a] [] pos) (E7 ta):=by
 intro aj s σ H R I h
 refine Call_ (tO I hg hm boot_range (bO (di (ha pos aj s σ H _ I h) λus s1 ⟨vs,H1,I1,r1,q1⟩=>?_) hs rfl))
 obtain⟨j,e,q1,q2,q⟩:=q1
 subst e
 cases r1 with
 |cons r rr=>
  cases rr
  obtain⟨t,rfl⟩:=r
  exact call_range_1 (RB I1 (by omega) (by omega) q1 q2 (by simpa using q))
theorem zk2 {a b:Expr}{ta:TA}{p pos:cW}(hg:Gl X "range")(hm:X.mg "range"=none)(ha:PA X [a,b] ta)(hs:ao [a,b] X.env=[(false,bF a X.env),(false,bF b X.env)]:=by rfl)(ni:ao [b] X.env=[(false,bF b X.env)]:=by rfl) :
  PI X tg (.Call (.Name "range" p) [a,b] [] pos) (E8 ta):=by
 intro aj s σ H R I h
 refine Call_ (tO I hg hm boot_range (bO (di (ha pos aj s σ H _ I h) λus s1 ⟨vs,H1,I1,r1,q1⟩=>?_) (by rw[hs,ni]) (by rw[ni];rfl)))
 obtain⟨i,j,e,⟨q1,q2,q3,q4⟩,q⟩:=q1
 subst e
 cases r1 with
 |cons r rr=>
  cases rr with
  |cons r' rr=>
   cases rr
   obtain⟨t,rfl⟩:=r
   obtain⟨t',rfl⟩:=r'
   exact call_range_2 (RB I1 q1 q2 q3 q4 q)
def MH (wi:TI)(g:TG)(tb:TS):TS:=λD σ H=>wi σ H λJ H1=>∃W:Nat->Nat->St->Hp->Prop,(∃m,W 0 m σ H1)/\∀i m σ H,W i m σ H ->
 (J.stop i H/\D.nx σ H)\/(J.go i H/\∃N:St->Hp->Prop,(∀σ' H',N σ' H'->∃m',m'<m/\W (i+1) m' σ' H')/\∀x H',J.yld i H x H'->g x σ H' λσ2 H2=>tb { D with nx:=N,ct:=N,bk:=D.nx } σ2 H2)
def kR (fp:List ai)(h:aX):List (ai×dO):=fp.filterMap λb=>(h.get? b).map λo=>(b,o)
theorem jk {fp:List ai}{h:aX}{b:ai}{o:dO}(hb:b∈fp)(e:h.get? b=some o):(b,o)∈kR fp h:=qY.mpr ⟨b,hb,by rw[e];rfl⟩
theorem zk3 {fp:List ai}{h:aX}{p:ai×dO}(hp:p∈kR fp h):p.1∈fp/\h.get? p.1=some p.2:=by
 obtain⟨b,hb,e⟩:=qY.mp hp
 cases q:h.get? b with
 |none=>rw[q]at e;cases e
 |some o=>
  rw[q]at e
  have e':(b,o)=p:=Option.some.inj e
  subst e'
  exact⟨hb,q⟩
theorem Inv.pinned {aj:List (ai×dO)}{σ:St}{H:Hp}{s:ak}{fp:List ai}(I:Inv X aj σ H s)(hf:∀b∈fp,kl X aj H b)(ho:∀b∈fp,∃o,s.heap.get? b=some o/\∀v,o.data≠.cell v):Inv X (aj++kR fp s.heap) σ H s :=
 I.pins_of λp hp=>(aZ.mp hp).elim (λz=>I.pin p (aw _ z)) λz=>by
  obtain⟨hb,e⟩:=zk3 z
  obtain⟨f0,f1,f2,_⟩:=hf p.1 hb
  obtain⟨o,e',d⟩:=ho p.1 hb
  rw[e]at e';cases e'
  exact⟨e,f0,f1,f2,d⟩
theorem Inv.unpinned {aj pl:List (ai×dO)}{σ:St}{H:Hp}{s:ak}(I:Inv X (aj++pl) σ H s):Inv X aj σ H s:=I.pins_of λp hp=>I.pin p (aw _ (bg _ hp))
theorem ztq {iter:Expr}{body:List bR}{wi:TI}{g:TG}{tb:TS}{pos:cW}(hp:bV (ba X.prog X.w) X.A X.env X.xe)(hc:X.calm=true)(hi:PI X tg iter wi)(hg:PG X tg g)(hb:pT X body tb)
  (hs:∀x,dJ iter X.env x=pure x:=by intro _;rfl):PS X (.For tg iter body [] pos) (MH wi g tb):=by
 intro aj s σ H D I h
 refine wpAny_For (di (hi aj s σ H _ I h) λv s1 h1=>di h1 λIJ s2 h2=>?_) hs
 obtain⟨it,fp,tn,J,H2,e,I2,T,uA,f2,W,⟨m0,w0⟩,cj⟩:=h2
 subst e
 have mN:∀{H':Hp},(∀b∈fp,H' b=none)->∀b∈fp,kl X aj H' b:=λhn b hb=>⟨hn b hb,(f2 b hb).2⟩
 refine codeAny_forLoop_any (λn s'=>∃i σ' H',Inv X aj σ' H' s'/\tn i s'.heap/\(∀b∈fp,H' b=none)/\W i n σ' H') ?_ m0 ⟨0,σ,H2,I2,uA,λb hb=>(f2 b hb).1,w0⟩
 rintro n s3 ⟨i,σ3,H3,I3,Qg,Im,w3⟩
 rcases cj i n σ3 H3 w3 with⟨stop,qn⟩|⟨go,N,hN,step⟩
 ·refine eW hp (di (T.done X rfl rfl rfl hc i aj s3 σ3 H3 X.xe I3 (mN Im) Qg stop) λr s4 ⟨hr,I4⟩=>?_)
  subst hr
  exact jQ ⟨σ3,H3,I4,qn⟩
 ·refine eW hp (di (T.item X rfl rfl rfl hc i aj s3 σ3 H3 X.xe I3 (mN Im) Qg go) λr s4 ⟨u,hr,h4⟩=>?_)
  subst hr
  refine eW hp (di h4 λ_ s5 ⟨x,H5,I5,r5,y5,vO,Ac⟩=>?_)
  have Up:=I5.pinned (mN Ac) (T.obj _ _ vO)
  refine eW hp (di (hg _ s5 σ3 H5 x u _ Up r5 (step x H5 y5)) λ_ s6 ⟨σ6,H6,I6,q6⟩=>?_)
  refine eW hp (di (hb _ s6 σ6 H6 _ I6 q6) λf s7 q7=>?_)
  have again:∀{σ7:St} {H7:Hp},Inv X (aj++kR fp s5.heap) σ7 H7 s7->N σ7 H7->∃m,m<n/\∃i σ' H',Inv X aj σ' H' s7/\tn i s7.heap/\(∀b∈fp,H' b=none)/\W i m σ' H':=λ{σ7 H7} I7 n7=>by
   obtain⟨m',hm,w7⟩:=hN σ7 H7 n7
   refine⟨m',hm,i+1,σ7,H7,I7.unpinned,T.keep _ _ _ vO λb hb o e=>(I7.pin (b,o) (aw _ (aw _ (jk hb e)))).1,λb hb=>?_,w7⟩
   obtain⟨o,e,d⟩:=T.obj _ _ vO b hb
   exact(I7.pin (b,o) (aw _ (aw _ (jk hb e)))).2.1
  cases f with
  |next=>obtain⟨σ7,H7,I7,n7⟩:=q7;exact again I7 n7
  |cont=>obtain⟨σ7,H7,I7,n7⟩:=q7;exact again I7 n7
  |brk=>obtain⟨σ7,H7,I7,q7⟩:=q7;exact⟨σ7,H7,I7.unpinned,q7⟩
  |ret v=>obtain⟨x7,σ7,H7,I7,r7,q7⟩:=q7;exact⟨x7,σ7,H7,I7.unpinned,r7,q7⟩
end
end L2
namespace L2
open PySem PySem.Spec PyProof.Rows
abbrev R2:=V->V->Hp->VK->Prop
def gw (X:Cx)(f:af->af->oI af)(r:R2):Prop :=
 ∀(aj:List (ai×dO)) (s:ak) (σ:St) (H:Hp) (x y:V) (v u:af) (Q:VK),Inv X aj σ H s->RelV x v->RelV y u->r x y H Q ->
  bi (ba X.prog X.w) X.A (f v u) (EP X aj σ Q) X.xe s
def HW (X:Cx)(f:af->oI af)(r:V->Hp->VK->Prop):Prop :=
 ∀(aj:List (ai×dO)) (s:ak) (σ:St) (H:Hp) (x:V) (v:af) (Q:VK),Inv X aj σ H s->RelV x v->r x H Q ->
  bi (ba X.prog X.w) X.A (f v) (EP X aj σ Q) X.xe s
def eF (X:Cx)(f:af)(r:List V->Hp->VK->Prop):Prop :=
 ∀(aj:List (ai×dO)) (s:ak) (σ:St) (H:Hp) (xs:List V) (us:List af) (Q:VK),Inv X aj σ H s->bX xs us->r xs H Q ->
  bi (ba X.prog X.w) X.A (call f us) (EP X aj σ Q) X.xe s
def IQ (r:R2)(ta tb:TE):TE:=λσ H Q=>ta σ H λx H1=>tb σ H1 λy H2=>r x y H2 Q
def YW (r:V->Hp->VK->Prop)(ta:TE):TE:=λσ H Q=>ta σ H λx H1=>r x H1 Q
def rI (C:Int->Int->Prop)(g:Int->Int->V):R2:=λx y H Q=>∃i j,x=.int i/\y=.int j/\C i j/\Q (g i j) H
def pF (g:Int->Int->V):R2:=λx y H Q=>∃i j,x=.int i/\y=.int j/\Q (g i j) H
def rU (g:Int->V):V->Hp->VK->Prop:=λx H Q=>∃i,x=.int i/\Q (g i) H
section
variable {X:Cx}{a b c:Expr}{ta tb tc:TE}{pos:cW}
theorem yJ (ha:PE X a ta)(hb:PE X b tb){aj:List (ai×dO)}{s:ak}{σ:St}{H:Hp}{R:V->V->Hp->Prop}(I:Inv X aj σ H s)
  (h:ta σ H λx H1=>tb σ H1 λy H2=>R x y H2) {Q:af->ak->Prop} {f:af->af->oI af}
  (hf:∀v u s2 x y H2,Inv X aj σ H2 s2->RelV x v->RelV y u->R x y H2->bi (ba X.prog X.w) X.A (f v u) Q X.xe s2) :
  bi (ba X.prog X.w) X.A (bF a X.env) (λv s₁=>bi (ba X.prog X.w) X.A (bF b X.env) (λu s₂=>bi (ba X.prog X.w) X.A (f v u) Q X.xe s₂) X.xe s₁) X.xe s:=by
 refine di (ha aj s σ H _ I h) λv s1 ⟨x,H1,I1,r1,q1⟩=>?_
 refine di (hb aj s1 σ H1 _ I1 q1) λu s2 ⟨y,H2,I2,r2,q2⟩=>?_
 exact hf v u s2 x y H2 I2 r1 r2 q2
theorem Oe {op:jD}{r:R2}(ho:gw X (d5 op) r)(ha:PE X a ta)(hb:PE X b tb):PE X (.BinOp a op b pos) (IQ r ta tb):=by
 intro aj s σ H Q I h
 exact wpAny_BinOp (yJ ha hb I h λv u s2 x y H2 I2 rx ry q=>ho aj s2 σ H2 x y v u Q I2 rx ry q)
theorem zvw {op:UnaryOp}{r:V->Hp->VK->Prop}(ho:HW X (unaryOp op) r)(ha:PE X a ta):PE X (.UnaryOp op a pos) (YW r ta):=by
 intro aj s σ H Q I h
 exact UnaryOp_ (di (ha aj s σ H _ I h) λv s1 ⟨x,H1,I1,r1,q1⟩=>ho aj s1 σ H1 x v Q I1 r1 q1)
theorem Bx {f:af->af->oI af}{C:Int->Int->Prop}{g:Int->Int->Int}
  (rule:∀(i j:Int) (t u:Tok) (s:ak) (Q:af->ak->Prop) (E:af->ak->Prop),C i j->Q (.int (g i j) s.toks) { s with toks:=s.toks+1 }->bi (ba X.prog X.w) X.A (f (.int i t) (.int j u)) Q E s) :
  gw X f (rI C λi j=>.int (g i j)):=by
 intro aj s σ H x y v u Q I rx ry h
 obtain⟨i,j,rfl,rfl,hc,q⟩:=h
 obtain⟨t,rfl⟩:=rx
 obtain⟨t',rfl⟩:=ry
 exact rule i j t t' s _ _ hc ⟨.int (g i j),H,I.tok _,⟨_,rfl⟩,q⟩
theorem Gf {f:af->af->oI af}{g:Int->Int->Int}
  (rule:∀(i j:Int) (t u:Tok) (s:ak) (Q:af->ak->Prop) (E:af->ak->Prop),Q (.int (g i j) s.toks) { s with toks:=s.toks+1 }->bi (ba X.prog X.w) X.A (f (.int i t) (.int j u)) Q E s) :
  gw X f (pF λi j=>.int (g i j)):=by
 intro aj s σ H x y v u Q I rx ry h
 obtain⟨i,j,rfl,rfl,q⟩:=h
 obtain⟨t,rfl⟩:=rx
 obtain⟨t',rfl⟩:=ry
 exact rule i j t t' s _ _ ⟨.int (g i j),H,I.tok _,⟨_,rfl⟩,q⟩
theorem vG {f:af->af->oI af}{g:Int->Int->Bool}
  (rule:∀(i j:Int) (t u:Tok) (s:ak) (Q:af->ak->Prop) (E:af->ak->Prop),Q (.bool (g i j)) s->bi (ba X.prog X.w) X.A (f (.int i t) (.int j u)) Q E s) :
  gw X f (pF λi j=>.bl (g i j)):=by
 intro aj s σ H x y v u Q I rx ry h
 obtain⟨i,j,rfl,rfl,q⟩:=h
 obtain⟨t,rfl⟩:=rx
 obtain⟨t',rfl⟩:=ry
 exact rule i j t t' s _ _ ⟨.bl (g i j),H,I,rfl,q⟩
def uH (i j:Int):Prop:=0<=j/\j<=1000000/\i.natAbs<2 ^ 64
def yA (i j:Int):Prop:=(-(2 ^ 64)<i/\i<2 ^ 64)\/(-(2 ^ 64)<j/\j<2 ^ 64)
theorem yA.ok {i j:Int}(h:yA i j):IntMulOk i j:=by
 rcases h with⟨h1,h2⟩|⟨h1,h2⟩
 ·exact .of_left (intBits_le_64 h1 h2)
 ·exact .of_right (intBits_le_64 h1 h2)
theorem Z7 (k:Nat):(0:Int)<=2 ^ k:=by
 rw[two_pow_cast]
 exact Int.natCast_nonneg _
theorem ztr:gw X (d5 .Add) (pF λi j=>.int (i+j)):=Gf λ_ _ _ _ _ _ _ q=>add_int q
theorem BU:gw X (d5 .Sub) (pF λi j=>.int (i-j)):=Gf λ_ _ _ _ _ _ _ q=>sub_int q
theorem xu:gw X (d5 .Mod) (rI (λ_ j=>j≠0) λi j=>.int (i.fmod j)):=Bx λ_ _ _ _ _ _ _ hc q=>mod_int' hc q
theorem N2:gw X (d5 .Pow) (rI uH λi j=>.int (i ^ j.toNat)):=Bx λ_ _ _ _ _ _ _ hc q=>pow_int_small hc.1 hc.2.1 hc.2.2 q
theorem zts:gw X (d5 .LShift) (rI uH λi j=>.int (i*2 ^ j.toNat)):=Bx λ_ _ _ _ _ _ _ hc q=>lshift_int_small hc.1 hc.2.1 hc.2.2 q
theorem Td:gw X (d5 .RShift) (rI (λ_ j=>0<=j) λi j=>.int (i/2 ^ j.toNat)):=Bx λi j _ _ _ _ _ hc q=>
 rshift_int hc (by rw[hE i (Z7 _)];exact q)
theorem Y4 {f:af->oI af}{g:Int->Int}
  (rule:∀(i:Int) (t:Tok) (s:ak) (Q:af->ak->Prop) (E:af->ak->Prop),Q (.int (g i) s.toks) { s with toks:=s.toks+1 }->bi (ba X.prog X.w) X.A (f (.int i t)) Q E s) :
  HW X f (rU λi=>.int (g i)):=by
 intro aj s σ H x v Q I rx h
 obtain⟨i,rfl,q⟩:=h
 obtain⟨t,rfl⟩:=rx
 exact rule i t s _ _ ⟨.int (g i),H,I.tok _,⟨_,rfl⟩,q⟩
theorem ztt:HW X (unaryOp .USub) (rU λi=>.int (-i)):=Y4 λ_ _ _ _ _ q=>neg_int q
end
section
variable {X:Cx}{a b c:Expr}{ta tb tc:TE}{pos:cW}
theorem JL {aj:List (ai×dO)}{σ:St}{H:Hp}{s:ak}{Q:VK}{k k':Bool}(I:Inv X aj σ H s)(q:Q (.bl k) H)(e:k=k'):EP X aj σ Q (.bool k') s:=by
 subst e
 exact⟨.bl k,H,I,rfl,q⟩
theorem wC:gw X (cD .Lt) (pF λi j=>.bl (decide (i<j))):=vG λ_ _ _ _ _ _ _ q=>lt_int q
theorem zvx:gw X (cD .LtE) (pF λi j=>.bl (decide (i<=j))):=vG λ_ _ _ _ _ _ _ q=>le_int q
theorem xX:gw X (cD .Gt) (pF λi j=>.bl (decide (j<i))):=vG λ_ _ _ _ _ _ _ q=>gt_int q
theorem Of:gw X (cD .GtE) (pF λi j=>.bl (decide (j<=i))):=vG λ_ _ _ _ _ _ _ q=>ge_int q
theorem ztu:gw X (cD .Is) (λx y H Q=>y=.non/\Q (.bl (decide (x=.non))) H):=by
 intro aj s σ H x y v u Q I rx ry h
 obtain⟨rfl,q⟩:=h
 cases ry
 refine is_none_gen (JL I q ?_)
 cases x<;>first
  |(cases rx;rfl)
  |(obtain⟨t,rfl⟩:=rx;rfl)
theorem zqr:gw X (cD .IsNot) (λx y H Q=>y=.non/\Q (.bl (!decide (x=.non))) H):=by
 intro aj s σ H x y v u Q I rx ry h
 obtain⟨rfl,q⟩:=h
 cases ry
 refine isnot_none_gen (JL I q ?_)
 cases x<;>first
  |(cases rx;rfl)
  |(obtain⟨t,rfl⟩:=rx;rfl)
theorem gw.or {f:af->af->oI af}{r r':R2}(h:gw X f r)(h':gw X f r'):gw X f (λx y H Q=>r x y H Q\/r' x y H Q):=by
 intro aj s σ H x y v u Q I rx ry q
 rcases q with q|q
 ·exact h aj s σ H x y v u Q I rx ry q
 ·exact h' aj s σ H x y v u Q I rx ry q
theorem bE (b:Expr){op:lK}(h:op≠.In:=by decide)(h2:op≠.NotIn:=by decide):dC op b=false:=by
 have e1:(op==lK.In)=false:=by cases op<;>first|rfl|exact absurd rfl h
 have e2:(op==lK.NotIn)=false:=by cases op<;>first|rfl|exact absurd rfl h2
 cases b<;>simp[dC,e1,e2]
theorem zqs {op:lK}{r:R2}(ho:gw X (cD op) r)(ha:PE X a ta)(hb:PE X b tb)(hm:dC op b=false):PE X (.Compare a [op] [b] pos) (IQ r ta tb):=by
 intro aj s σ H Q I h
 exact wpAny_Compare1 (yJ ha hb I h λv u s2 x y H2 I2 rx ry q=>ho aj s2 σ H2 x y v u Q I2 rx ry q) hm
def Hm (t:TE):TT:=λσ H Q=>t σ H λx H'=>∃k,x=.bl k/\Q k H'
theorem zqt {op:lK}{r:R2}(ho:gw X (cD op) r)(ha:PE X a ta)(hb:PE X b tb)(hm:dC op b=false):PT X (.Compare a [op] [b] pos) (Hm (IQ r ta tb)):=by
 intro aj s σ H Q I h
 refine wpAny_isTrue_Compare1 (di (ha aj s σ H _ I h) λv s1 ⟨x,H1,I1,r1,q1⟩=>di (hb aj s1 σ H1 _ I1 q1) λu s2 ⟨y,H2,I2,r2,q2⟩=>
  di (ho aj s2 σ H2 x y v u _ I2 r1 r2 q2) λc s3 ⟨z,H3,I3,r3,k,e,q3⟩=>?_) hm
 subst e
 cases r3
 exact e7 ⟨H3,I3,q3⟩
theorem jX:(sizeLine:Nat)<2 ^ 63:=by rw[cH];decide
theorem Z8:gw X (d5 .Add) (λx y H Q=>∃i j,x=.str i/\y=.str j/\i.length+j.length<=sizeLine/\Q (.str (i++j)) H):=by
 intro aj s σ H x y v u Q I rx ry h
 obtain⟨i,j,rfl,rfl,hz,q⟩:=h
 obtain⟨t,rfl⟩:=rx
 obtain⟨t',rfl⟩:=ry
 exact add_str (λt' tk=>⟨.str (i++j),H,I.tok _,⟨_,rfl⟩,q⟩) hz
theorem mO {x:V}{us:List af}(r:bX [x] us):∃u,us=[u]/\RelV x u:=by
 cases r with
 |cons r1 r2=>cases r2;exact⟨_,rfl,r1⟩
theorem vals2 {x y:V}{us:List af}(r:bX [x,y] us):∃u w',us=[u,w']/\RelV x u/\RelV y w':=by
 cases r with
 |cons r1 r2=>
  cases r2 with
  |cons r3 r4=>cases r4;exact⟨_,_,rfl,r1,r3⟩
theorem znq:eF X (.builtin "abs") (λxs H Q=>∃i,xs=[.int i]/\Q (.int (if i<0 then -i else i)) H):=by
 intro aj s σ H xs us Q I r h
 obtain⟨i,rfl,q⟩:=h
 obtain⟨u,rfl,t,rfl⟩:=mO r
 exact call_abs_int λu tk=>⟨.int (if i<0 then -i else i),H,I.tok _,⟨_,rfl⟩,q⟩
theorem zk5 (hc:X.calm=true):eF X (.builtin "max") (λxs H Q=>∃i j,xs=[.int i,.int j]/\Q (.int (if j > i then j else i)) H):=by
 intro aj s σ H xs us Q I r h
 obtain⟨i,j,rfl,q⟩:=h
 obtain⟨u,w',rfl,⟨t,rfl⟩,⟨t',rfl⟩⟩:=vals2 r
 refine max_two_ints (I.ok.hd hc) λh' tk k=>⟨_,H,I.kept k,?_,q⟩
 by_cases hj:j > i
 ·rw[if_pos hj,if_pos hj];exact⟨_,rfl⟩
 ·rw[if_neg hj,if_neg hj];exact⟨_,rfl⟩
theorem ZA:eF X (.type "str") (λxs H Q=>∃i,xs=[.int i]/\i.natAbs.log2<1920/\Q (.str (toString i)) H):=by
 intro aj s σ H xs us Q I r h
 obtain⟨i,rfl,hz,q⟩:=h
 obtain⟨u,rfl,t,rfl⟩:=mO r
 exact PySem.P.str_of_int hz ⟨.str _,H,I.tok _,⟨_,rfl⟩,q⟩
end
end L2
namespace L2
open PySem PySem.Spec PyProof.Rows
structure pS (h:aX)(x dx C:ai)(mA:aR->Option af):Prop where
 obj:h.get? x=some (dS C dx)
 ns:h.Ns1 dx mA
 ne:dx≠x
theorem zk6 {h:aX}{dx:ai}{mA:aR->Option af}(n:h.Ns1 dx mA):∃od,h.get? dx=some od/\∀name,i6 name od=some (mA name):=by
 obtain⟨o,es,ep,ho,hd,hk,_,hm⟩:=n
 refine⟨o,ho,λname=>?_⟩
 have e:=hm name
 unfold nsFind findBy at e
 rw[←Array.find?_toList]at e
 unfold i6
 rw[hd]
 dsimp only
 split
 ·rename_i y q
  rw[q]at e
  exact congrArg some e
 ·rename_i q
  rw[q]at e
  have a:es.toList.any (·.refKey)=false:=by
   rw[List.any_eq_false]
   intro y hy
   obtain⟨z,t,LU⟩:=hk y (Array.mem_toList_iff.mp hy)
   simp[DictEntry.refKey,LU]
  have a':¬es.toList.any (·.refKey)=true:=by rw[a];exact aU
  rw[if_neg a']
  exact congrArg some e
theorem pS.look {h:aX}{x dx C:ai}{mA:aR->Option af}(I:pS h x dx C mA):∃od,PySem.W.InstAt h x (dS C dx) C (some od)/\∀name,i6 name od=some (mA name) :=
 let⟨od,ho,hl⟩:=zk6 I.ns
 ⟨od,⟨I.obj,rfl,rfl,ho⟩,hl⟩
section
variable {prog:bx}{w:bY}{A:bT}{E:af->ak->Prop}{s:ak}{K:ae}{x dx C f:ai}{mA:aR->Option af}{name:aR}{v:af}
theorem zqu {expr:Bool}{Q:af->ak->Prop}(X:K.In s.heap)(I:pS s.heap x dx C mA)(hg:dc K C name=true)(hh:dq K C=true)
  (ha:aB K (.ref C) name=some none) (hv:mA name=some v) (E1:qC v=true) (h:Q v { s with toks:=s.toks+1 }) :
  bi (ba prog w) A (getAttr (.ref x) name expr) Q E s:=by
 obtain⟨od,J,hl⟩:=I.look
 exact PySem.W.get_value X J (jF hg).1 (PySem.W.findObj_own hh ha rfl (by rw[hl,hv])) E1 h
theorem znr {pl:oI Bool}{Q:af×List af->ak->Prop}(X:K.In s.heap)(I:pS s.heap x dx C mA)(hg:dc K C name=true)
  (hf:aB K (.ref C) name=some (some (.ref f))) (ht:dG K (.ref f)=true) (hv:mA name=none) (h:Q (.ref f,[.ref x]) s) :
  bi (ba prog w) A (gJ (.ref x) name pl) Q E s:=by
 obtain⟨od,J,hl⟩:=I.look
 exact PySem.W.method_fn X J (jF hg).1 (jF hg).2 hf (beq_iff_eq.mp ht) (by show(i6 name od).map (·.isSome)=some false;rw[hl,hv];rfl) h
theorem zqv {ns:List aR}{Q:Unit->ak->Prop}(X:K.In s.heap)(I:pS s.heap x dx C mA)
  (hs:aB K (.ref C) "__setattr__"=some (some (.builtin "object.__setattr__"))) (hp:dX K C=true) (ht:lh K C name=some none) (hh:dq K C=true)
  (hw:PySem.Within mA ns) (hsz:ns.length<=sizeLine)
  (h:∀h',pS h' x dx C (λy=>if y=name then some v else mA y)->gM dx s.heap h'->Q () { s with heap:=h',toks:=s.toks+2 }) :
  bi (ba prog w) A (setAttr (.ref x) name v) Q E s:=by
 obtain⟨od,J,hl⟩:=I.look
 refine PySem.W.set_plain X J hs (PySem.W.osa_open (s:={ s with toks:=s.toks+1 }) (r:=none) X J hp ht λb=>?_)
 obtain⟨cd,hc,wY⟩:=PySem.W.any_some hh
 have hx:s.heap.get? x=some ⟨.ref C,some dx,.plain,#[]⟩:=I.obj
 refine aO (bU (aO (aO (wpAny_loadPart hx (aO (PySem.W.Looks.here (s:={ s with toks:=s.toks+1 }) (PySem.W.looks_clsIn X hc) ?_))))))
 rw[wY]
 refine bU (a:=some dx) (aO (bU (aO ?_)))
 refine wpAny_nsSet1 (s:={ s with toks:=s.toks+1 }) I.ns λh' xB ni=>?_
 obtain⟨oD,esD,epD,VU,Vz,Vy⟩:=xB.count (PySem.Within.cons name v hw)
 refine aO (wpAny_lookBehind VU (by rw[Vz];exact pastItsLine_dict (cx Vy (by rw[aV];omega))) ?_)
 exact bU (h _ ⟨(ni.2 _ (Ne.symm I.ne)).trans I.obj,xB,I.ne⟩ ni)
theorem zns {R:Result->ak->Prop}{vs:List af}{kw:List (aR×af)}(X:K.In s.heap)(hm:dU K C=true)
  (hi:aB K (.ref C) "__init__"=some (some (.ref f))) (hf:PySem.W.typeIn K (.ref f)=some (.type "function"))
  (h:gx (ba prog w) (A.under (.builtin "type.__call__" ⟨.ref C::vs,kw⟩)) (.call (.ref f) ⟨.ref (s.heap.objs.size+1)::vs,kw⟩) (PySem.W.InitBack (s.heap.objs.size+1) R)
   { s with heap:=(s.heap.push cT).push (dS C s.heap.objs.size) }) :
  gx (ba prog w) A (.call (.ref C) ⟨vs,kw⟩) R s:=by
 obtain⟨hh,g,d,t,os⟩:=s
 exact PySem.W.make_core (PySem.W.makes_of X hm) (PySem.W.looks_findIn X hi) (λself=>PySem.W.bind_fn X self hf) (.inl rfl) h
end
def iX (f:aR)(v:V):List (aR×V)->List (aR×V)
 |[]=>[(f,v)]
 |(g,x)::r=>if g=f then(g,v)::r else(g,x)::iX f v r
theorem QN (f g:aR)(v:V):∀fs:List (aR×V),(iX f v fs).lookup g=if g=f then some v else fs.lookup g
 |[]=>by
  show gB g [(f,v)]=_
  by_cases h:g=f
  ·have hb:(g==f)=true:=beq_iff_eq.mpr h
   simp only[gB,hb,if_pos h]
  ·have hb:(g==f)=false:=beq_eq_false_iff_ne.mpr h
   simp only[gB,hb,if_neg h]
 |(k,x)::r=>by
  have ih:=QN f g v r
  rw[show iX f v ((k,x)::r)=(if k=f then(k,v)::r else(k,x)::iX f v r)from rfl]
  by_cases hk:k=f
  ·rw[if_pos hk]
   by_cases h:g=k
   ·have hb:(g==k)=true:=beq_iff_eq.mpr h
    simp only[gB,hb,if_pos (h.trans hk)]
   ·have hb:(g==k)=false:=beq_eq_false_iff_ne.mpr h
    simp only[gB,hb,if_neg (λe:g=f=>h (e.trans hk.symm))]
  ·rw[if_neg hk]
   by_cases h:g=k
   ·have hb:(g==k)=true:=beq_iff_eq.mpr h
    simp only[gB,hb,if_neg (λe:g=f=>hk (h.symm.trans e))]
   ·have hb:(g==k)=false:=beq_eq_false_iff_ne.mpr h
    simp only[gB,hb]
    exact ih
theorem Nj (f:aR)(v:V):∀fs:List (aR×V),f∈(iX f v fs).map (·.1)/\∀g,g∈fs.map (·.1)->g∈(iX f v fs).map (·.1)
 |[]=>⟨by simp[iX],λg h=>by simp at h⟩
 |(k,x)::r=>by
  obtain⟨i1,i2⟩:=Nj f v r
  rw[show iX f v ((k,x)::r)=(if k=f then(k,v)::r else(k,x)::iX f v r)from rfl]
  by_cases hk:k=f
  ·rw[if_pos hk]
   subst hk
   exact⟨by simp,λg h=>by simpa using h⟩
  ·rw[if_neg hk]
   refine⟨?_,λg h=>?_⟩
   ·rw[aM]
    exact ah _ i1
   ·rw[aM]at h ⊢
    rcases aC.mp h with e|e
    ·exact aC.mpr (.inl e)
    ·exact ah _ (i2 g e)
theorem QO (f:aR)(v:V):∀fs:List (aR×V),(iX f v fs).length<=fs.length+1
 |[]=>by simp[iX]
 |(k,x)::r=>by
  have ih:=QO f v r
  rw[show iX f v ((k,x)::r)=(if k=f then(k,v)::r else(k,x)::iX f v r)from rfl]
  by_cases hk:k=f
  ·rw[if_pos hk,aV,aV];omega
  ·rw[if_neg hk,aV,aV];omega
theorem iV.some_of {v:V}{o:Option af}(r:iV (some v) o):∃u,o=some u/\RelV v u:=by
 cases o with
 |none=>exact(show False from r).elim
 |some u=>exact⟨u,rfl,r⟩
theorem iV.none_of {o:Option af}(r:iV none o):o=none:=by
 cases o with
 |none=>rfl
 |some u=>exact(show False from r).elim
theorem zk7 {v:V}{u:af}(r:RelV v u):qC u=true:=by
 cases v with
 |non=>cases(show u=af.none from r);rfl
 |bl b=>cases(show u=af.bool b from r);rfl
 |int i=>obtain⟨t,e⟩:=(show∃t,u=af.int i t from r);cases e;rfl
 |str x=>obtain⟨t,e⟩:=(show∃t,u=af.str x t from r);cases e;rfl
 |byt b=>obtain⟨t,e⟩:=(show∃t,u=af.bytes b t from r);cases e;rfl
 |flt b=>obtain⟨t,e⟩:=(show∃t,u=af.float b t from r);cases e;rfl
 |ref a=>cases(show u=af.ref a from r);rfl
 |ty n=>cases(show u=af.type n from r);rfl
section
variable {P:bx}{w:bY}{H H':Hp}{h h':aX}{a C dx:ai}{fs U9:List (aR×V)}
theorem Jt (hok:kb P w H h)(e:H a=some (.ins C dx fs)):∃mA,pS h a dx C mA/\(∀f,iV (fs.lookup f) (mA f))/\PySem.Within mA (fs.map (·.1))/\fs.length<=1000/\H dx=some (.own a):=by
 obtain⟨d,z,ne,ob,mA,n,r,q⟩:=(show dR P w H h a (.ins C dx fs)from hok a _ e)
 exact⟨mA,⟨ob,n,ne⟩,r,q,z,d⟩
end
structure kE (K:ae)(C:ai):Prop where
 pg:dc K C aR.empty=true
 hd:dq K C=true
 po:dX K C=true
 sa:aB K (.ref C) "__setattr__"=some (some (.builtin "object.__setattr__"))
theorem kE.get {K:ae}{C:ai}(c:kE K C)(f:aR):dc K C f=true:=c.pg
def fO (K:ae)(C:ai)(f:aR):Prop:=aB K (.ref C) f=some none
theorem fO.taker {K:ae}{C:ai}{f:aR}(n:fO K C f):lh K C f=some none:=by
 unfold lh
 rw[show aB K (.ref C) f=some none from n]
 rfl
structure pR (K:ae)(C:ai)(m:aR)(f:ai):Prop where
 at_:aB K (.ref C) m=some (some (.ref f))
 fn:dG K (.ref f)=true
 kp:am K (.ref f)=true
section
variable {X:Cx}{aj:List (ai×dO)}{σ:St}{H:Hp}{s:ak}{a C dx:ai}{fs:List (aR×V)}{f:aR}{v:V}{A:bT}{E:af->ak->Prop}
theorem zka {b:Bool}{Q:af->ak->Prop}(I:Inv X aj σ H s)(e:H a=some (.ins C dx fs))(c:kE X.K C)(n:fO X.K C f)(l:fs.lookup f=some v)
  (h:∀u s',Inv X aj σ H s'->RelV v u->Q u s'):bi (ba X.prog X.w) A (getAttr (.ref a) f b) Q E s:=by
 obtain⟨mA,O,r,_,_,_⟩:=Jt I.hok e
 obtain⟨u,hu,ru⟩:=iV.some_of (v:=v) (o:=mA f) (by rw[←l];exact r f)
 exact zqu I.kIn O (c.get f) c.hd n hu (zk7 ru) (h u _ (I.tok _) ru)
theorem Na {m:aR}{g:ai}{pl:oI Bool}{Q:af×List af->ak->Prop}(I:Inv X aj σ H s)(e:H a=some (.ins C dx fs))(c:kE X.K C)(k:pR X.K C m g)(l:fs.lookup m=none)
  (h:Q (.ref g,[.ref a]) s):bi (ba X.prog X.w) A (gJ (.ref a) m pl) Q E s:=by
 obtain⟨mA,O,r,_,_,_⟩:=Jt I.hok e
 have hn:mA m=none:=iV.none_of (by rw[←l];exact r m)
 exact znr I.kIn O (c.get m) k.at_ k.fn hn h
theorem zkb {y:V}{u:af}{Q:Unit->ak->Prop}(I:Inv X aj σ H s)(e:H a=some (.ins C dx fs))(c:kE X.K C)(n:fO X.K C f)(hl:fs.length<1000)(ry:RelV y u)
  (h:∀s',Inv X aj σ (upd H a (.ins C dx (iX f y fs))) s'->Q () s'):bi (ba X.prog X.w) A (setAttr (.ref a) f u) Q E s:=by
 obtain⟨mA,O,r,wi,_,ho⟩:=Jt I.hok e
 have hz:(fs.map (·.1)).length<=sizeLine:=by rw[ay,cH];omega
 refine zqv I.kIn O c.sa c.po n.taker c.hd wi hz λh' O' sb=>h _ ?_
 have hd:∃o,h'.get? dx=some o:=let⟨o,_,_,e',_⟩:=O'.ns;⟨o,e'⟩
 refine I.write (x:=a) (e:=dx) (by rw[e];exact True.intro) (.inr ho) (λb q hb z=>(sb.2 b hb).trans z) hd ?_
 refine⟨by rw[yo O.ne];exact ho,?_,O.ne,O'.obj,_,O'.ns,λg=>?_,λg hg=>?_⟩
 ·have:=QO f y fs;omega
 ·show iV ((iX f y fs).lookup g) (if g=f then some u else mA g)
  rw[QN]
  by_cases q:g=f
  ·rw[if_pos q,if_pos q];exact ry
  ·rw[if_neg q,if_neg q];exact r g
 ·by_cases q:g=f
  ·rw[q];exact(Nj f y fs).1
  ·refine(Nj f y fs).2 g (wi g λz=>hg ?_)
   show(if g=f then some u else mA g)=none
   rw[if_neg q];exact z
theorem Inv.made (I:Inv X aj σ H s):Inv X aj σ (upd (upd H s.heap.objs.size (.own (s.heap.objs.size+1))) (s.heap.objs.size+1) (.ins C s.heap.objs.size []))
  { s with heap:=(s.heap.push cT).push (dS C s.heap.objs.size) }:=by
 have e1:(s.heap.push cT).get? s.heap.objs.size=some cT:=bB s.heap rfl
 have e2:((s.heap.push cT).push (dS C s.heap.objs.size)).get? (s.heap.objs.size+1)=some (dS C s.heap.objs.size):=by
  have:=bB (s.heap.push cT) (o:=dS C s.heap.objs.size) rfl
  rwa[fQ]at this
 have e3:(s.heap.push cT).Ns s.heap.objs.size (λ_=>none):=⟨cT,#[],_,e1,rfl,(λe he=>absurd he (by simp)),λ_=>rfl⟩
 have I1:=I.laid (a:=s.heap.objs.size) (o:=.own (s.heap.objs.size+1)) (h':=s.heap.push cT) (t':=s.toks) (λb u q=>aD _ q) (aF _) ⟨_,e1⟩
 refine I1.laid (a:=s.heap.objs.size+1) (o:=.ins C s.heap.objs.size []) (t':=s.toks) (λb u q=>aD _ q) (Nat.le_of_eq (fQ _ _)) ?_
 have ne:s.heap.objs.size≠s.heap.objs.size+1:=br (iO _)
 refine⟨by rw[yo ne,yx],cK _,ne,e2,λ_=>none,(aX.Ns1.of_empty e3).at λo q=>aD _ q,λ_=>True.intro,λy hy=>absurd rfl hy⟩
theorem zqw {prog:bx}{w:bY}{env:Env}{e:Expr}{f:aR}{pos:cW}{s:ak}{Q:af->ak->Prop}(hb:er e f env (bF e env)=bF e env)
  (h:bi (ba prog w) A (bF e env) (λo s₁=>bi (ba prog w) A (getAttr o f true) Q E s₁) E s):bi (ba prog w) A (bF (.Attribute e f pos) env) Q E s :=
 Attribute_any_ h (by rw[arm_eval_Attribute,hb])
end
def MG (K:ae)(ta:TE)(f:aR):TE:=λσ H Q=>ta σ H λx H1=>∃a C dx fs v,x=.ref a/\H1 a=some (.ins C dx fs)/\kE K C/\fO K C f/\fs.lookup f=some v/\Q v H1
def MB (K:ae)(ta tv:TE)(f:aR):TS:=λD σ H=>tv σ H λy H1=>ta σ H1 λx H2=>∃a C dx fs,x=.ref a/\H2 a=some (.ins C dx fs)/\kE K C/\fO K C f/\fs.length<1000 /\
 D.nx σ (upd H2 a (.ins C dx (iX f y fs)))
section
variable {X:Cx}{o e value:Expr}{f:aR}{pos pos' gc:cW}{ta tv:TE}
theorem ztv (he:PE X e ta)(hb:er e f X.env (bF e X.env)=bF e X.env):PE X (.Attribute e f pos) (MG X.K ta f):=by
 intro aj s σ H Q I h
 refine zqw hb (di (he aj s σ H _ I h) λu s1 ⟨x,H1,I1,rx,a,C,dx,fs,v,ex,ea,c,n,l,q⟩=>?_)
 subst ex
 obtain rfl:u=af.ref a:=rx
 exact zka I1 ea c n l λu' s2 I2 ru=>⟨v,H1,I2,ru,q⟩
theorem ztw (ha:PE X o ta)(hv:PE X value tv)(hs:dW value (some (.Attribute o f pos')) pos.line X.env=pure false):PS X (.Assign [.Attribute o f pos'] value pos) (MB X.K ta tv f):=by
 intro aj s σ H D I h
 refine plainObj_wpAny_Assign_Attribute (di (hv aj s σ H _ I h) λu s1 ⟨y,H1,I1,ry,q⟩=>di (ha aj s1 σ H1 _ I1 q) λov s2 ⟨x,H2,I2,rx,a,C,dx,fs,ex,ea,c,n,l,q2⟩=>?_) hs
 subst ex
 obtain rfl:ov=af.ref a:=rx
 exact zkb I2 ea c n l ry λs3 I3=>⟨σ,_,I3,q2⟩
def AM:V->V->Hp->VK->Prop:=λx y H Q=>∃i j,x=.int i/\y=.int j/\Q (.int (i+j)) H
theorem zqx {pl:oI Bool}{m:aR}{dB:cW}{args:List Expr}{aj:List (ai×dO)}{s:ak}{σ:St}{H:Hp}{Q:af->ak->Prop}{te:TE}(he:PE X e te)(I:Inv X aj σ H s)
  (h:te σ H λx H1=>∃a C dx fs g,x=.ref a/\H1 a=some (.ins C dx fs)/\kE X.K C/\pR X.K C m g/\fs.lookup m=none /\
   ∀s1,Inv X aj σ H1 s1->bi (ba X.prog X.w) X.A (jE pos (.ref g) [.ref a] (cy pos (ao args X.env)) (eU pos (dh [] X.env))) Q X.xe s1)
  (ht:bF (.Call (.Attribute e m dB) args [] pos) X.env=(do
   let ov ← bF e X.env
   gN dB.atName
   let(f,first) ← d7 [ov] (gJ ov m pl)
   jE pos f first (cy pos (ao args X.env)) (eU pos (dh [] X.env)))) :
  bi (ba X.prog X.w) X.A (bF (.Call (.Attribute e m dB) args [] pos) X.env) Q X.xe s:=by
 refine fT (pl:=pl) (di (he aj s σ H _ I h) λu s1 ⟨x,H1,I1,rx,a,C,dx,fs,g,ex,ea,c,k,l,q⟩=>?_) ht
 subst ex
 obtain rfl:u=af.ref a:=rx
 exact Na I1 ea c k l (q s1 I1)
end
section
variable {X:Cx}{aj:List (ai×dO)}{σ:St}{H:Hp}{s:ak}{A:bT}{E:af->ak->Prop}{Q:af->ak->Prop}{c:af}{b:Bool}
inductive jV (K:ae)(H:Hp):V->af->Prop where
 |non:jV K H .non (.type "NoneType")
 |bl (x:Bool):jV K H (.bl x) (.type "bool")
 |int (i:Int):jV K H (.int i) (.type "int")
 |str (x:aR):jV K H (.str x) (.type "str")
 |flt (x:UInt64):jV K H (.flt x) (.type "float")
 |lst {a:ai} {xs:List V} (e:H a=some (.lst xs)):jV K H (.ref a) (.type "list")
 |frz {a:ai} {o:dO} {xs:List V} (e:H a=some (.frz o (.lst xs))):jV K H (.ref a) (.type "list")
 |tup {a:ai} {xs:List V} (e:H a=some (.tup xs)):jV K H (.ref a) (.type "tuple")
 |dK {a:ai} {cC:List (eX×V)} (e:H a=some (.dK cC)):jV K H (.ref a) (.type "dict")
 |dT {a:ai} {cC:List (List eX×V)} (e:H a=some (.dT cC)):jV K H (.ref a) (.type "dict")
 |ins {a C dx:ai} {fs:List (aR×V)} (e:H a=some (.ins C dx fs)) (cl:kE K C) (ha:aB K (.ref C) "__class__"=some (some (.builtin "object.__class__")))
   (hn:dY K (.builtin "object.__class__") "__get__"=some (some (.builtin "getset_descriptor.__get__"))) (Ps:li K (.builtin "object.__class__")=some true)
   (hm:fk K C (.type "object")=some true):jV K H (.ref a) (.ref C)
theorem Rc {x:V}{u t:af}(I:Inv X aj σ H s)(rx:RelV x u)(ty:jV X.K H x t)(e:bP X.K t c=some b)(h:∀tk,Q (.bool b) { s with toks:=tk }) :
  bi (ba X.prog X.w) A (call (.builtin "isinstance") [u,c]) Q E s:=by
 cases ty with
 |non=>cases(show u=af.none from rx);exact cE PySem.W.kitx_none I.kIn True.intro e (λz=>nomatch z) h
 |bl y=>cases(show u=af.bool y from rx);exact cE PySem.W.kitx_bool I.kIn True.intro e (λz=>nomatch z) h
 |int i=>obtain⟨t,q⟩:=(show∃t,u=af.int i t from rx);cases q;exact cE PySem.W.kitx_int I.kIn True.intro e (λz=>nomatch z) h
 |str y=>obtain⟨t,q⟩:=(show∃t,u=af.str y t from rx);cases q;exact cE PySem.W.kitx_str I.kIn True.intro e (λz=>nomatch z) h
 |flt y=>obtain⟨t,q⟩:=(show∃t,u=af.float y t from rx);cases q;exact cE PySem.W.kitx_float I.kIn True.intro e (λz=>nomatch z) h
 |@lst a xs ea=>
  cases(show u=af.ref a from rx)
  obtain⟨_,_,n,_,h1⟩:=(show dR X.prog X.w H s.heap a (.lst xs)from I.hok a _ ea)
  exact cE jZ I.kIn ⟨_,h1,rfl⟩ e (λz=>nomatch z) h
 |@frz a ob xs ea=>
  cases(show u=af.ref a from rx)
  obtain⟨_,_,_,n,_,h1⟩:=(show dR X.prog X.w H s.heap a (.frz ob (.lst xs))from I.hok a _ ea)
  exact cE jZ I.kIn ⟨_,h1,rfl⟩ e (λz=>nomatch z) h
 |@tup a xs ea=>
  cases(show u=af.ref a from rx)
  obtain⟨_,_,_,p⟩:=(show dR X.prog X.w H s.heap a (.tup xs)from I.hok a _ ea)
  obtain⟨o,h1,h2,_⟩:=p
  exact cE PySem.W.kitx_tuple I.kIn ⟨o,h1,h2⟩ e (λz=>nomatch z) h
 |@dK a cC ea=>
  cases(show u=af.ref a from rx)
  obtain⟨_,_,vs,_,p⟩:=(show dR X.prog X.w H s.heap a (.dK cC)from I.hok a _ ea)
  obtain⟨o,es,ep,h1,h2,_⟩:=p
  exact cE pL I.kIn ⟨o,h1,h2.1⟩ e (λz=>nomatch z) h
 |@dT a cC ea=>
  cases(show u=af.ref a from rx)
  obtain⟨_,_,xs,_,o,es,ep,h1,h2,_⟩:=(show dR X.prog X.w H s.heap a (.dT cC)from I.hok a _ ea)
  exact cE pL I.kIn ⟨o,h1,h2.1⟩ e (λz=>nomatch z) h
 |@ins a C dx fs ea cl ha hn Ps hm=>
  cases(show u=af.ref a from rx)
  obtain⟨mA,O,_⟩:=Jt I.hok ea
  obtain⟨od,J,_⟩:=O.look
  exact cE (PySem.W.kitx_own (cl.get _) cl.hd ha hn Ps hm) I.kIn J e (λz=>nomatch z) h
end
end L2
namespace L2
open PySem PySem.Spec PyProof.Rows
structure eA (k:Nat)(A:bT):Prop where
 hd:A.handled=none
 dp:A.depth+3*k+5<recursionLimit
 un:A.units+16*k+200<fX
theorem eA.mono {j k:Nat}{A:bT}(r:eA k A)(h:j<=k):eA j A:=⟨r.hd,by have:=r.dp;omega,by have:=r.un;omega⟩
theorem eA.deeper {k:Nat}{A:bT}(r:eA (k+1) A)(env:Env):eA k (A.deeper env) :=
 ⟨r.hd,by have:=r.dp;show A.depth+1+3*k+5<_;omega,by have:=r.un;show A.units+3+16*k+200<_;omega⟩
theorem zkc {A:bT}{C:ai}{us:List af}{kw:List (aR×af)}:(A.under (.builtin "type.__call__" ⟨.ref C::us,kw⟩)).depth=A.depth+1:=by
 first|rfl|simp[bT.under,qB.weight,qB.isCreation,qB.isGuard,qB.isCaller,qB.frames,qB.isFrame,guardIds]
theorem zkd {A:bT}{C:ai}{us:List af}{kw:List (aR×af)}:(A.under (.builtin "type.__call__" ⟨.ref C::us,kw⟩)).units=A.units+1:=by
 first|rfl|simp[bT.under,qB.cUnits,qB.frames,qB.isFrame]
theorem eA.make {k:Nat}{A:bT}(r:eA (k+1) A)(C:ai)(us:List af)(kw:List (aR×af)):eA k (A.under (.builtin "type.__call__" ⟨.ref C::us,kw⟩)) :=
 ⟨r.hd,by have:=r.dp;rw[zkc];omega,by have:=r.un;rw[zkd];omega⟩
theorem eA.depth {k:Nat}{A:bT}(r:eA k A):A.depth<recursionLimit:=by have:=r.dp;omega
theorem eA.units {k:Nat}{A:bT}(r:eA k A):A.units+64<fX:=by have:=r.un;omega
def Hk:TA:=λ_ H Q=>Q [] H
def He (ta:TE)(tr:TA):TA:=λσ H Q=>ta σ H λx H1=>tr σ H1 λxs H2=>Q (x::xs) H2
section
variable {X:Cx}{e:Expr}{es:List Expr}{te:TE}{t:TA}{pos:cW}
theorem tP:PA X [] Hk:=λ_ _ _ _ H Q I h=>Calls.spliced_nil ⟨[],H,I,.nil,h⟩
theorem v4 (ha:PE X e te)(hr:PA X es t)(hs:ao (e::es) X.env=(false,bF e X.env)::ao es X.env:=by rfl):PA X (e::es) (He te t):=by
 intro pos aj s σ H Q I h
 rw[hs]
 show bi _ _ (spliced ((false,bF e X.env)::cy pos (ao es X.env))) _ _ s
 refine Calls.spliced_cons (di (ha aj s σ H _ I h) λu s1 ⟨x,H1,I1,r1,q1⟩=>?_)
 exact di (hr pos aj s1 σ H1 _ I1 q1) λus s2 ⟨xs,H2,I2,r2,q2⟩=>⟨x::xs,H2,I2,.cons r1 r2,q2⟩
def MP (t:TA):TE:=λσ H Q=>t σ H λxs H1=>xs.length<=sizeLine/\∀p,H1 p=none->Q (.ref p) (upd H1 p (.tup xs))
def MJ (t:TA):TE:=λσ H Q=>t σ H λxs H1=>xs.length<=sizeLine/\∀p,H1 p=none->Q (.ref p) (upd H1 p (.lst xs))
theorem ztx {x1}(h:PA X es t):PE X (.Tuple es x1 pos) (MP t):=by
 intro aj s σ H Q I hq
 refine wpAny_Tuple_spliced (di (h pos aj s σ H _ I hq) λus s1 ⟨xs,H1,I1,r,z,q⟩=>⟨by rw[←r.length];exact z,?_⟩)
 have hf:H1 s1.heap.objs.size=none:=I1.hok.fresh (aF _)
 refine⟨.ref s1.heap.objs.size,upd H1 s1.heap.objs.size (.tup xs),I1.laid (t':=s1.toks) (λb u e=>aD _ e) (aF _) ?_,rfl,q _ hf⟩
 exact⟨z,us,r,⟨_,bB _ rfl,rfl,_,rfl⟩⟩
theorem zty (h:PA X es t):PE X (.List es pos) (MJ t):=by
 intro aj s σ H Q I hq
 refine wpAny_List_spliced (di (h pos aj s σ H _ I hq) λus s1 ⟨xs,H1,I1,r,z,q⟩=>⟨by rw[←r.length];exact z,?_⟩)
 have hf:H1 s1.heap.objs.size=none:=I1.hok.fresh (aF _)
 refine⟨.ref s1.heap.objs.size,upd H1 s1.heap.objs.size (.lst xs),I1.laid (t':=s1.toks) (λb u e=>aD _ e) (aF _) ?_,rfl,q _ hf⟩
 exact⟨z,us,0,r,bB _ rfl⟩
end
abbrev Sp:=List V->Hp->VK->XK->Prop
abbrev sf:=List Env->Hp->ak->XK->af->ak->Prop
structure pM (P:bx)(w:bY)(K:ae)(mg:aR->Option af)(base:aX)(A:bT)(outer:List Env)(s:ak)(H:Hp):Prop where
 frames:A.frames=some outer
 mod:Mod K mg base
 bs:∀b o,base.get? b=some o->s.heap.get? b=some o/\H b=none
 bsz:base.objs.size<=s.heap.objs.size
 funs:s.heap.FunFrames base outer
 frf:∀b∈sN outer,H b=none
 hok:kb P w H s.heap
 bare:AllBare s.gens
def CE (outer:List Env)(P:bx)(w:bY)(H:Hp)(s:ak)(Q:VK)(u:af)(s':ak):Prop :=
 ∃v H',s'.os=s.os/\AllBare s'.gens/\Un (sN outer) [] H H' s.heap s'.heap/\kb P w H' s'.heap/\RelV v u/\Q v H'
def CR (CX:sf)(outer:List Env)(P:bx)(w:bY)(H:Hp)(s:ak)(Q:VK)(E:XK)(r:Result)(s':ak):Prop :=
 match r with
 |.ok (.ret u)=>CE outer P w H s Q u s'
 |.ok _=>False
 |.error e=>CX outer H s E e s'
structure cz (P:bx)(w:bY)(K:ae)(mg:aR->Option af)(base:aX)(CX:sf)(k:Nat)(f:ai)(fd:aH)(ps:List aR)(sp:Sp):Prop where
 len:∀vs H Q E,sp vs H Q E->vs.length=ps.length
 run:∀(A:bT) (outer:List Env) (s:ak) (H:Hp) (args:Args) (us:List af) (vs:List V) (Q:VK) (E:XK),eA k A->pM P w K mg base A outer s H->oH s fd args (ps.zip us)->bX vs us->sp vs H Q E ->
  gx (ba P w) A (.call (.ref f) args) (CR CX outer P w H s Q E) s
theorem pM.make {P:bx}{w:bY}{K:ae}{mg:aR->Option af}{base:aX}{A:bT}{outer:List Env}{s:ak}{H:Hp}(e:pM P w K mg base A outer s H)(C:ai)(us:List af)(kw:List (aR×af)) :
  pM P w K mg base (A.under (.builtin "type.__call__" ⟨.ref C::us,kw⟩)) outer s H:=⟨by first|exact e.frames|(simpa[bT.under,qB.envs,qB.isFrame,pushEnvs]using e.frames),e.mod,e.bs,e.bsz,e.funs,e.frf,e.hok,e.bare⟩
section
variable {X:Cx}{aj:List (ai×dO)}{σ:St}{H:Hp}{s s':ak}
theorem Inv.env0 (I:Inv X aj σ H s):pM X.prog X.w X.K X.mg X.base X.A X.stack s H :=
 ⟨I.ok.frames,I.ok.mod,I.bs,cx I.ok.bsz I.sz,I.stack,I.stkFree,I.hok,I.bare⟩
theorem Inv.after {Q:VK}{u:af}(I:Inv X aj σ H s)(h:CE X.stack X.prog X.w H s Q u s'):EP X aj σ Q u s':=by
 obtain⟨v,H',os,bare,un,hok,r,q⟩:=h
 obtain⟨hh,g,d,t,XX⟩:=s'
 obtain rfl:XX=s.os:=os
 exact⟨v,H',I.call (h':=hh) (g':=g) (d':=d) (t':=t) (ch:=[]) un hok bare (λb z=>absurd z (by simp)),r,q⟩
end
def xP (sp:Sp)(iW:List V)(E:XK)(t:TA):TE:=λσ H Q=>t σ H λvs H1=>sp (vs++iW) H1 Q E
def xQ (C:ai)(m:aR)(sp:Sp)(iW:List V)(E:XK)(ta:TE)(t:TA):TE:=λσ H Q=>ta σ H λx H1=>∃a dx fs,x=.ref a/\H1 a=some (.ins C dx fs)/\fs.lookup m=none /\
 t σ H1 λvs H2=>sp (x::(vs++iW)) H2 Q E
def Hi (C:ai)(sp:Sp)(iW:List V)(E:XK)(t:TA):TE:=λσ H Q=>t σ H λvs H1=>∀x dx,H1 x=none->H1 dx=none->dx≠x ->
 sp (.ref x::(vs++iW)) (upd (upd H1 dx (.own x)) x (.ins C dx [])) (λv H2=>v=.non/\Q (.ref x) H2) E
def bC (K:ae)(fd:aH)(ps:List aR)(ds:List af):Prop :=
 ∀(s:ak) (us:List af),K.In s.heap->(us++ds).length=ps.length->oH s fd ⟨us,[]⟩ (ps.zip (us++ds))
theorem bC.all {K:ae}{fd:aH}{ps:List aR}(h:∀us:List af,us.length=ps.length->bindArgs fd ⟨us,[]⟩=pure (ps.zip us)):bC K fd ps []:=λs us _ hl=>by
 rw[cn]at hl ⊢
 exact .of_eq (h us hl)
def i8 (CX:sf)(X:Cx)(E:XK):Prop:=∀(aj:List (ai×dO)) (σ:St) (H:Hp) (s:ak) (e:af) (s':ak),Inv X aj σ H s->CX X.stack H s E e s'->X.xe e s'
section
variable {X:Cx}{CX:sf}{k:Nat}{f C:ai}{fd:aH}{ps:List aR}{sp:Sp}{iW:List V}{ds:List af}{E:XK}{x m:aR}{p pos dB:cW}{e o:Expr}{es:List Expr}{ta:TE}{t:TA}
theorem JM {aj:List (ai×dO)}{σ:St}{H:Hp}{s:ak}{Q:VK}{us:List af}{vs:List V}(F:cz X.prog X.w X.K X.mg X.base CX k f fd ps sp)(hr:eA k X.A)(hb:bC X.K fd ps ds)(hd:bX iW ds)(hx:i8 CX X E)
  (I:Inv X aj σ H s) (r:bX vs us) (h:sp (vs++iW) H Q E):bi (ba X.prog X.w) X.A (call (.ref f) us) (EP X aj σ Q) X.xe s:=by
 have r2:bX (vs++iW) (us++ds):=r.append hd
 have hl:(us++ds).length=ps.length:=by rw[←r2.length];exact F.len _ _ _ _ h
 refine wpAny_call (mS (F.run X.A X.stack s H ⟨us,[]⟩ (us++ds) (vs++iW) Q E hr I.env0 (hb s us I.kIn hl) r2 h) λr s' hq=>?_)
 cases r with
 |error e=>exact hx aj σ H s e s' I hq
 |ok fl=>
  cases fl with
  |ret u=>exact I.after hq
  |next=>exact False.elim hq
  |brk=>exact False.elim hq
  |cont=>exact False.elim hq
theorem R9 (F:cz X.prog X.w X.K X.mg X.base CX k f fd ps sp)(hr:eA k X.A)(hg:Gl X x)(hm:X.mg x=some (.ref f))(hk:am X.K (.ref f)=true)(hb:bC X.K fd ps ds)(hd:bX iW ds)(hx:i8 CX X E)
  (ha:PA X (e::es) t) (kP:(x==("__debug__":aR))=false:=by decide) (he:ao (e::es) X.env=(false,bF e X.env)::ao es X.env:=by rfl) (iy:(cy pos (ao es X.env)).any (·.1)=false:=by rfl) :
  PE X (.Call (.Name x p) (e::es) [] pos) (xP sp iW E t):=by
 intro aj s σ H Q I h
 refine cS (Js I hg hm ?_ kP)
 refine gK (h₀:=X.base) I.ok.mod.kin hk (di (ha pos aj s σ H _ I h) λus s1 ⟨vs,H1,I1,r,q⟩=>⟨I1.kIn,?_⟩) he iy
 exact JM F hr hb hd hx I1 r q
theorem zqy {pl:oI Bool}(he:PE X o ta)(c:kE X.K C)(hm:pR X.K C m f)(F:cz X.prog X.w X.K X.mg X.base CX k f fd ps sp)(hr:eA k X.A)(hb:bC X.K fd ps ds)(hd:bX iW ds)(hx:i8 CX X E)(ha:PA X (e::es) t)
  (mH:ao (e::es) X.env=(false,bF e X.env)::ao es X.env:=by rfl) (iy:(cy pos (ao es X.env)).any (·.1)=false:=by rfl)
  (ht:bF (.Call (.Attribute o m dB) (e::es) [] pos) X.env=(do
   let ov ← bF o X.env
   gN dB.atName
   let(f,first) ← d7 [ov] (gJ ov m pl)
   jE pos f first (cy pos (ao (e::es) X.env)) (eU pos (dh [] X.env))):=by rfl) :
  PE X (.Call (.Attribute o m dB) (e::es) [] pos) (xQ C m sp iW E ta t):=by
 intro aj s σ H Q I h
 refine fT (pl:=pl) (di (he aj s σ H _ I h) λu s1 ⟨x,H1,I1,rx,a,dx,fs,ex,ea,l,q⟩=>?_) ht
 subst ex
 obtain rfl:u=af.ref a:=rx
 refine Na I1 ea c hm l ?_
 refine gK (first:=[.ref a]) (h₀:=X.base) I.ok.mod.kin hm.kp (di (ha pos aj s1 σ H1 _ I1 q) λus s2 ⟨vs,H2,I2,r,q2⟩=>⟨I2.kIn,?_⟩) mH iy
 exact JM (us:=.ref a::us) (vs:=.ref a::vs) F hr hb hd hx I2 (.cons rfl r) q2
theorem znt {pl:oI Bool}(he:PE X o ta)(c:kE X.K C)(hm:pR X.K C m f)(F:cz X.prog X.w X.K X.mg X.base CX k f fd ps sp)(hr:eA k X.A)(hb:bC X.K fd ps ds)(hd:bX iW ds)(hx:i8 CX X E)
  (ht:bF (.Call (.Attribute o m dB) [] [] pos) X.env=(do
   let ov ← bF o X.env
   gN dB.atName
   let(f,first) ← d7 [ov] (gJ ov m pl)
   jE pos f first (cy pos (ao [] X.env)) (eU pos (dh [] X.env))):=by rfl) :
  PE X (.Call (.Attribute o m dB) [] [] pos) (xQ C m sp iW E ta Hk):=by
 intro aj s σ H Q I h
 refine fT (pl:=pl) (di (he aj s σ H _ I h) λu s1 ⟨x,H1,I1,rx,a,dx,fs,ex,ea,l,q⟩=>?_) ht
 subst ex
 obtain rfl:u=af.ref a:=rx
 refine Na I1 ea c hm l ?_
 exact PySem.W.callWith_K0 (first:=[.ref a]) I1.kIn hm.kp (JM (us:=[.ref a]) (vs:=[.ref a]) F hr hb hd hx I1 (.cons rfl .nil) q)
structure Mk (K:ae)(C f:ai):Prop where
 makes:dU K C=true
 init:aB K (.ref C) "__init__"=some (some (.ref f))
 fn:dG K (.ref f)=true
 kp:am K (.ref C)=true
theorem znu {aj:List (ai×dO)}{σ:St}{H:Hp}{s:ak}{Q:VK}{us:List af}{vs:List V}(M:Mk X.K C f)(F:cz X.prog X.w X.K X.mg X.base CX k f fd ps sp)(hr:eA (k+1) X.A)(hb:bC X.K fd ps ds)(hd:bX iW ds)
  (hx:i8 CX X E) (I:Inv X aj σ H s) (r:bX vs us)
  (h:∀x dx,H x=none->H dx=none->dx≠x->sp (.ref x::(vs++iW)) (upd (upd H dx (.own x)) x (.ins C dx [])) (λv H2=>v=.non/\Q (.ref x) H2) E) :
  bi (ba X.prog X.w) X.A (call (.ref C) us) (EP X aj σ Q) X.xe s:=by
 have hq:=h (s.heap.objs.size+1) s.heap.objs.size (I.hok.fresh (iz _)) (I.hok.fresh (aF _)) (br (iO _))
 have I2:=Inv.made (C:=C) I
 have r2:bX (V.ref (s.heap.objs.size+1)::(vs++iW)) (af.ref (s.heap.objs.size+1)::(us++ds)):=.cons rfl (r.append hd)
 have hl:(af.ref (s.heap.objs.size+1)::us++ds).length=ps.length:=by
  have e:=r2.length
  rw[F.len _ _ _ _ hq]at e
  exact e.symm
 refine wpAny_call (zns (f:=f) I.kIn M.makes M.init (beq_iff_eq.mp M.fn) (mS (F.run _ X.stack _ _ ⟨af.ref (s.heap.objs.size+1)::us,[]⟩ (af.ref (s.heap.objs.size+1)::(us++ds)) _ _ E (hr.make C us [])
  (I2.env0.make C us []) (hb _ (af.ref (s.heap.objs.size+1)::us) I2.kIn hl) r2 hq) λr s' Av=>?_))
 cases r with
 |error e=>exact hx aj σ _ _ e s' I2 Av
 |ok fl=>
  cases fl with
  |ret u=>
   obtain⟨v,H',I3,rv,ev,q3⟩:=I2.after Av
   subst ev
   exact⟨rv,⟨V.ref (s.heap.objs.size+1),H',I3,rfl,q3⟩⟩
  |next=>exact False.elim Av
  |brk=>exact False.elim Av
  |cont=>exact False.elim Av
theorem zqz (M:Mk X.K C f)(F:cz X.prog X.w X.K X.mg X.base CX k f fd ps sp)(hr:eA (k+1) X.A)(hg:Gl X x)(hm:X.mg x=some (.ref C))(hb:bC X.K fd ps ds)(hd:bX iW ds)(hx:i8 CX X E)
  (ha:PA X (e::es) t) (kP:(x==("__debug__":aR))=false:=by decide) (he:ao (e::es) X.env=(false,bF e X.env)::ao es X.env:=by rfl) (iy:(cy pos (ao es X.env)).any (·.1)=false:=by rfl) :
  PE X (.Call (.Name x p) (e::es) [] pos) (Hi C sp iW E t):=by
 intro aj s σ H Q I h
 refine cS (Js I hg hm ?_ kP)
 refine gK (h₀:=X.base) I.ok.mod.kin M.kp (di (ha pos aj s σ H _ I h) λus s1 ⟨vs,H1,I1,r,q⟩=>⟨I1.kIn,?_⟩) he iy
 exact znu M F hr hb hd hx I1 r q
end
section
variable {X:Cx}{CX:sf}{k:Nat}{f C:ai}{fd:aH}{ps ks:List aR}{sp:Sp}{E:XK}{x m:aR}{p pos dB AG:cW}{e o:Expr}{es:List Expr}{kws:List fS}{te ta:TE}{t tk:TA}{nm:Option aR}
variable {g:List af->List af->List af}{gV:List V->List V->List V}
end
structure bp (N P:List aR)(sc:fW):Prop where
 kind:sc.kind=.function
 co:sc.isCoroutine=false
 gen:sc.isGenerator=false
 nd:N.Nodup
 pre:N.take P.length=P
 par:∀x∈P,sc.names.lookup x=some .local\/sc.names.lookup x=some .cell
 nofree:∀y∈sc.names,y.2≠.free
theorem Re {kindOf:aR->Option bq}{x:aR}:∀{binds:List (aR×af)} {m:aR->Option af},(∀v,(x,v)∉binds)->rh kindOf binds m x=m x
 |[],_,_=>rfl
 |(n,v)::r,m,h=>by
  unfold rh
  rw[Re λw hw=>h w (ah _ hw)]
  split
  ·have:x≠n:=by rintro rfl;exact h v aa
   simp[this]
  ·rfl
theorem Rf {kindOf:aR->Option bq}{x:aR}:∀{binds:List (aR×af)} {m:aR->Option af},(∀v,(x,v)∉binds)->rf kindOf binds m x=m x
 |[],_,_=>rfl
 |(n,v)::r,m,h=>by
  unfold rf
  rw[Rf λw hw=>h w (ah _ hw)]
  split
  ·rfl
  ·have:x≠n:=by rintro rfl;exact h v aa
   simp[this]
theorem Rg {kindOf:aR->Option bq}{x:aR}{v:af}:∀{P:List aR} {vs:List af} {i:Nat} {m:aR->Option af},P.Nodup->P[i]?=some x->vs[i]?=some v->kindOf x=some .local ->
  rh kindOf (P.zip vs) m x=some v
 |[],_,_,_,_,h,_,_=>by simp at h
 |_::_,[],_,_,_,_,h,_=>by simp at h
 |p::P,w::vs,0,m,nd,h1,h2,hk=>by
  simp at h1 h2;subst h1;subst h2
  show rh kindOf ((p,w)::P.zip vs) m p=_
  unfold rh
  rw[Re λv hv=>(bw.mp nd).1 (gG hv).1,if_pos hk]
  simp
 |p::P,w::vs,i+1,m,nd,h1,h2,hk=>by
  show rh kindOf ((p,w)::P.zip vs) m x=_
  unfold rh
  exact Rg (i:=i) (bw.mp nd).2 (by simpa using h1) (by simpa using h2) hk
theorem Rh {kindOf:aR->Option bq}{x:aR}{v:af}:∀{P:List aR} {vs:List af} {i:Nat} {m:aR->Option af},P.Nodup->P[i]?=some x->vs[i]?=some v->kindOf x≠some .local ->
  rf kindOf (P.zip vs) m x=some v
 |[],_,_,_,_,h,_,_=>by simp at h
 |_::_,[],_,_,_,_,h,_=>by simp at h
 |p::P,w::vs,0,m,nd,h1,h2,hk=>by
  simp at h1 h2;subst h1;subst h2
  show rf kindOf ((p,w)::P.zip vs) m p=_
  unfold rf
  rw[Rf λv hv=>(bw.mp nd).1 (gG hv).1,if_neg hk]
  simp
 |p::P,w::vs,i+1,m,nd,h1,h2,hk=>by
  show rf kindOf ((p,w)::P.zip vs) m x=_
  unfold rf
  exact Rh (i:=i) (bw.mp nd).2 (by simpa using h1) (by simpa using h2) hk
def start (N:List aR)(vs:List V):St:=vs.map some++aA (N.length-vs.length) none
def ng (CX:sf)(P:bx)(w:bY)(K:ae)(mg:aR->Option af)(base:aX)(N:List aR)(qual:aR)(scope:fW)(f:ai)(cd:af)(A:bT)(outer:List Env)(s:ak)(H:Hp)(E:XK):Cx where
 prog:=P
 w:=w
 K:=K
 mg:=mg
 base:=base
 A:=A.deeper (envOfC qual scope s.heap.objs.size f cd)
 N:=N
 s₀:=s
 H₀:=H
 env:=envOfC qual scope s.heap.objs.size f cd
 outer:=outer
 stack:=envOfC qual scope s.heap.objs.size f cd::outer
 ex:=[]
 calm:=true
 fn:=λ_=>true
 pn:=[]
 xe:=λe s'=>bi (ba P w) (A.deeper (envOfC qual scope s.heap.objs.size f cd)) (leaving (envOfC qual scope s.heap.objs.size f cd) e) (λ_ s''=>CX outer H s E e s'') (λe' s''=>CX outer H s E e' s'') s'
theorem RC {sc:fW}{n:Nat}{x:aR}(h:sc.names.lookup x=some .cell):∃c,(cellsFrom n sc.names []).lookup x=some c:=by
 have q:=iC sc.names n [] (.inl h)
 exact m5.mp q
theorem zk9 {CX:sf}{P:bx}{w:bY}{K:ae}{mg:aR->Option af}{base:aX}{N ps:List aR}{qual:aR}{scope:fW}{f:ai}{cd:af}{A:bT}{outer:List Env}{s s1:ak}{H:Hp}{E:XK}{us:List af}{vs:List V}
  (S:bp N ps scope) (hd:A.handled=none) (e0:pM P w K mg base A outer s H) (hl:vs.length=ps.length) (r:bX vs us)
  (x:InCallC s s.heap.objs.size (rh (envOfC qual scope s.heap.objs.size f cd).kindOf (ps.zip us) λ_=>none) (cellsFrom (s.heap.objs.size+1) scope.names []) (rf (envOfC qual scope s.heap.objs.size f cd).kindOf (ps.zip us) λ_=>none) s1) :
  Inv (ng CX P w K mg base N qual scope f cd A outer s H E) [] (start N vs) H s1:=by
 have iy:ps.length<=N.length:=by have:=congrArg jH S.pre;rw[iH]at this;omega
 obtain⟨h1,tk,rfl,hk⟩:=x.done
 have Gc:∀b:ai,b∉(ng CX P w K mg base N qual scope f cd A outer s H E).ex:=λb z=>absurd (show b∈([]:List ai)from z) (by simp)
 refine⟨⟨e0.mod,S.kind,rfl,rfl,aF _,λy z c h1 h2=>?_,λy hy=>?_,λy c _ h=>?_,λ_=>hd,bT.frames_deeper e0.frames,.inr ⟨rfl,rfl⟩,λb z=>absurd z (Gc b),e0.bs,e0.bsz,λb _ _=>Gc b,λb z=>absurd z (Gc b),e0.funs,e0.frf⟩,
  rfl,e0.bare,Un.kept hk,⟨_,x.toInCall.ns,λi y v h1 h2 h3=>?_⟩,λy c h=>⟨_,x.cell y c h⟩,e0.hok.fresh (aF _),λy c h=>?_,λp hp=>absurd (show p∈([]:List (ai×dO))from hp) (by simp),e0.hok.kept hk,?_⟩
 ·exact name_of_addr x.apart (PySem.mem_of_lookup h1) (PySem.mem_of_lookup h2)
 ·have hy:scope.names.lookup y=some .cell\/scope.names.lookup y=some .free:=hy
  rcases hy with hy|hy
  ·exact RC hy
  ·exact absurd rfl (S.nofree _ (PySem.mem_of_lookup hy))
 ·exact kY (x.above y c (PySem.mem_of_lookup h))
 ·have hi:i<vs.length:=by
   unfold start at h2
   by_cases hi:i<vs.length
   ·exact hi
   ·rw[gX (by simpa using hi)]at h2
    rw[fL]at h2
    split at h2<;>cases h2
  have ha:vs[i]?=some v:=by
   unfold start at h2
   rw[cu (by simpa using hi),aQ]at h2
   cases e:vs[i]? with
   |none=>rw[e]at h2;cases h2
   |some a=>rw[e]at h2;cases h2;rfl
  obtain⟨u,hu,rv⟩:=r.get ha
  have hp:ps[i]?=some y:=by
   rw[←S.pre,List.getElem?_take_of_lt (by omega)];exact h1
  have PX:ps.Nodup:=by rw[←S.pre];exact S.nd.sublist (List.take_sublist _ _)
  refine⟨u,rv,?_⟩
  rcases S.par y (List.mem_of_getElem? hp)with k|k
  ·exact .inl ⟨k,Rg PX hp hu k⟩
  ·obtain⟨c,e⟩:=RC (n:=s.heap.objs.size+1) k
   refine .inr ⟨.inl k,c,e,?_⟩
   have q:=x.cell y c e
   rw[Rh PX hp hu (by show scope.names.lookup y≠_;rw[k];decide)]at q
   exact q
 ·exact e0.hok.fresh (kY (x.above y c (PySem.mem_of_lookup h)))
 ·unfold start
  show _=N.length
  rw[aW,ay,de]
  omega
theorem zvy {CX:sf}{P:bx}{w:bY}{K:ae}{mg:aR->Option af}{base:aX}{k:Nat}{f:ai}{name qual:aR}{params:Arguments}{body:List bR}{scope:fW}{dV kV doc pm hU ct oc:af}{an od:Option ai}
    {AK:Array (Option af)} {N ps:List aR} {sp:Sp} (lk:K.lookup f=some ⟨oc,od,.func (gF name qual params body scope dV kV doc pm an hU ct),AK⟩) (iL:av K hU qual=true) (S:bp N ps scope)
    (len:∀vs H Q E,sp vs H Q E->vs.length=ps.length)
    (sQ:∀(A:bT) (outer:List Env) (s:ak) (H:Hp) (vs:List V) (Q:VK) (E:XK),eA k (A.deeper (envOfC qual scope s.heap.objs.size f hU))->sp vs H Q E ->
      ∃t,pT (ng CX P w K mg base N qual scope f hU A outer s H E) body t/\t { nx:=λ_ H'=>Q .non H',rt:=Q } (start N vs) H) :
    cz P w K mg base CX (k+1) f (gF name qual params body scope dV kV doc pm an hU ct) ps sp:=by
  refine⟨len,λA outer s H args us vs Q E hr e0 hb r xF=>?_⟩
  have hl:=len _ _ _ _ xF
  have KX:K.In s.heap:=e0.mod.kin.keeps λb o e=>(e0.bs b o e).1
  have lim:s.heap.NoLimit:=e0.mod.nolimit.keeps λb o e=>(e0.bs b o e).1
  have Ez:∀y∈ps.zip us,scope.names.lookup y.1=some .local\/(scope.names.lookup y.1=some .cell/\((cellsFrom (s.heap.objs.size+1) scope.names []).lookup y.1).isSome=true):=λ⟨n,v⟩ hy=>by
    rcases S.par n (gG hy).1 with q|q
    · exact .inl q
    · exact .inr ⟨q,iC _ _ _ (.inl q)⟩
  refine codeAny_call_function hr.depth (KX _ _ lk) rfl S.co S.gen rfl (PySem.W.codeRec_of KX iL) (hb _ _ _ _ ?_)
  refine wpAny_newFunctionEnv_cells S.kind Ez λenv he s1 x=>?_
  subst he
  refine⟨lim.keeps x.toInCall.keep,codeAny_func ?_⟩
  obtain⟨t,ht,hq⟩:=sQ A outer s H vs Q E (hr.deeper _) xF
  have I:Inv (ng CX P w K mg base N qual scope f hU A outer s H E) [] (start N vs) H s1:=zk9 S hr.hd e0 hl r x
  refine dM (ht [] s1 (start N vs) H _ I hq) (λfl s' hs=>?_) λe s' hs=>hs
  have fin:∀{σ':St} {H':Hp} {v:V} {u:af},Inv (ng CX P w K mg base N qual scope f hU A outer s H E) [] σ' H' s'->RelV v u->Q v H'->CE outer P w H s Q u s' :=
    λ{σ' H' v u} J rv q=>⟨v,H',J.os,J.bare,J.base,J.hok,rv,q⟩
  cases fl with
  |ret u=>
    obtain⟨v,σ',H',J,rv,q⟩:=hs
    exact fin J rv q
  |next=>
    obtain⟨σ',H',J,q⟩:=hs
    exact fin (v:=V.non) (u:=af.none) J rfl q
  |brk=>
    obtain⟨_,_,_,q⟩:=hs
    exact False.elim q
  |cont=>
    obtain⟨_,_,_,q⟩:=hs
    exact False.elim q
end L2
namespace L2
open PySem PySem.Spec PyProof.Rows
section
variable {X:Cx}{x:aR}{p pos:cW}{e:Expr}{es:List Expr}{t:TA}{id T:String}{r:List V->Hp->VK->Prop}
def ME (r:List V->Hp->VK->Prop)(t:TA):TE:=λσ H Q=>t σ H λvs H1=>r vs H1 Q
theorem Jg (hc:eF X (.builtin id) r)(hg:Gl X x)(hm:X.mg x=none)(hv:bS x=some (.builtin id))(ha:PA X (e::es) t)(hn:x≠"__name__":=by decide)(kP:(x==("__debug__":aR))=false:=by decide)
  (he:ao (e::es) X.env=(false,bF e X.env)::ao es X.env:=by rfl) (iy:(cy pos (ao es X.env)).any (·.1)=false:=by rfl):PE X (.Call (.Name x p) (e::es) [] pos) (ME r t):=by
 intro aj s σ H Q I h
 refine cS (tO I hg hm hv ?_ hn kP)
 exact PyProof.Rows.callWith_builtin1 (di (ha pos aj s σ H _ I h) λus s1 ⟨vs,H1,I1,r1,q1⟩=>hc aj s1 σ H1 vs us Q I1 r1 q1) he iy
theorem Ri (hc:eF X (.type T) r)(hg:Gl X x)(hm:X.mg x=none)(hv:bS x=some (.type T))(ha:PA X (e::es) t)(hn:x≠"__name__":=by decide)(kP:(x==("__debug__":aR))=false:=by decide)
  (he:ao (e::es) X.env=(false,bF e X.env)::ao es X.env:=by rfl) (iy:(cy pos (ao es X.env)).any (·.1)=false:=by rfl):PE X (.Call (.Name x p) (e::es) [] pos) (ME r t):=by
 intro aj s σ H Q I h
 refine cS (tO I hg hm hv ?_ hn kP)
 exact bO (di (ha pos aj s σ H _ I h) λus s1 ⟨vs,H1,I1,r1,q1⟩=>hc aj s1 σ H1 vs us Q I1 r1 q1) he iy
end
end L2
namespace HT
open PySem PyProof.Rows
section
open PySem.SeqAt
open PySem.AutoSeq1 (wpAny_loadPart')
open PySem.MeetsSeq PySem.MeetsSeq2 PySem.MeetsSeq3
end
section
variable {prog:bx}{w:bY}{A:bT}{E:af->ak->Prop}{s:ak}
theorem cat_tup {t b:ai}{vs ws:List af}{Q:af->ak->Prop}(ht:IsTup s.heap t vs.toArray)(hb:IsTup s.heap b ws.toArray)(hv:vs≠[])
    (h1:ws=[]->Q (.ref t) s) (h2:ws≠[]->Q (.ref s.heap.objs.size) { s with heap:=s.heap.push { cls:=.type "tuple",data:=.seq (vs++ws).toArray } })
    (hsz:vs.length+ws.length<=sizeLine):bi (ba prog w) A (d5 .Add (.ref t) (.ref b)) Q E s:=by
  obtain⟨⟨cls,dd,data,sl⟩,ho,hc,n,hd⟩:=id ht
  obtain⟨⟨Km,Ih,data2,Hb⟩,IE,Es,n2,hd2⟩:=id hb
  simp only at hc hd Es hd2
  subst hc hd Es hd2
  have e:vs.toArray++ws.toArray=(vs++ws).toArray:=by simp
  by_cases hw:ws=[]
  · exact rX ⟨_,ho,rfl⟩ ⟨_,IE,rfl⟩ noFill_tuple_add seq_tuple_add PySem.F.slot_tuple_add PySem.F.entry_tuple_add (PySem.F.args_tuple_add_2 _ _)
      (tuple_addW1 t b vs.toArray ws.toArray n n2 dd Ih sl Hb (by simpa using hv) (by simp[hw])) ⟨ho,IE,h1 hw⟩
  · refine rX ⟨_,ho,rfl⟩ ⟨_,IE,rfl⟩ noFill_tuple_add seq_tuple_add PySem.F.slot_tuple_add PySem.F.entry_tuple_add (PySem.F.args_tuple_add_2 _ _)
      (tuple_addW2 t b vs.toArray ws.toArray n n2 dd Ih sl Hb (by simpa using hv) (by simpa using hw) (by rw[aK,aK];exact hsz)) ⟨ho,IE,?_⟩
    rw[e]
    exact h2 hw
def sIx (n d:Nat):Option Int->Nat
 |none=>d
 |some v=>if v<0 then(v+(n:Int)).toNat else min v.toNat n
theorem sIx_none (n d:Nat):sIx n d none=d:=rfl
theorem sIx_nat (n d k:Nat):sIx n d (some (k:Int))=min k n:=by
 show(if(k:Int)<0 then((k:Int)+(n:Int)).toNat else min (k:Int).toNat n)=min k n
 rw[if_neg (by omega),kX]
end
end HT
namespace L2
open PySem PySem.Spec PyProof.Rows
abbrev TO:=St->Hp->(Option Int->Hp->Prop)->Prop
def PO (X:Cx)(e:Option Expr)(t:TO):Prop :=
 ∀(aj:List (ai×dO)) (s:ak) (σ:St) (H:Hp) (Q:Option Int->Hp->Prop),Inv X aj σ H s->t σ H Q ->
  bi (ba X.prog X.w) X.A (evalPart e X.env) (λu s'=>∃o H',Inv X aj σ H' s'/\IsPart u o/\Q o H') X.xe s
def vQ:TO:=λ_ H Q=>Q none H
def Hl (t:TE):TO:=λσ H Q=>t σ H λx H1=>∃i,x=.int i/\Q (some i) H1
theorem zke {ns:List Int}:∀{us:List af},bX (ns.map V.int) us->IntsAre us ns:=by
 induction ns with
 |nil=>intro us r;rw[kI]at r;cases r;exact .nil
 |cons n ns ih=>
  intro us r
  rw[aM]at r
  cases r with
  |cons r1 r2=>
   obtain⟨t,e⟩:=r1
   subst e
   exact .cons n t (ih r2)
section
variable {X:Cx}{e:Expr}{te:TE}{lo hi:Option Expr}{tl th:TO}{pos p2:cW}
theorem zq0:PO X none vQ:=by
 intro aj s σ H Q I h
 rw[evalPart_none]
 exact bU ⟨none,H,I,.none,h⟩
theorem zq1 (h:PE X e te):PO X (some e) (Hl te):=by
 intro aj s σ H Q I hw
 rw[evalPart_some]
 refine di (h aj s σ H _ I hw) λu s1 ⟨x,H1,I1,r1,q1⟩=>?_
 obtain⟨i,rfl,q⟩:=q1
 obtain⟨t,rfl⟩:=r1
 exact⟨some i,H1,I1,.int i t,q⟩
def Oq (X:Cx)(r:V->Option Int->Option Int->Hp->VK->Prop):Prop :=
 ∀(aj:List (ai×dO)) (s:ak) (σ:St) (H:Hp) (x:V) (v vl vu:af) (lo hi:Option Int) (sl:ai) (Q:VK),Inv X aj σ H s->RelV x v->s.heap.IsSliceOf sl vl vu .none->IsPart vl lo->IsPart vu hi->r x lo hi H Q ->
  ∃T id,pD (.type T) "__getitem__"=pure (some (.builtin id))/\s.TypeIs v T/\bi (ba X.prog X.w) X.A (mT v (.ref sl)) (EP X aj σ Q) X.xe s
def YV (r:V->Option Int->Option Int->Hp->VK->Prop)(te:TE)(tl th:TO):TE:=λσ H Q=>te σ H λx H1=>tl σ H1 λl H2=>th σ H2 λu H3=>r x l u H3 Q
theorem RD {r:V->Option Int->Option Int->Hp->VK->Prop}(hr:Oq X r)(he:PE X e te)(hl:PO X lo tl)(hu:PO X hi th):PE X (.Subscript e (.Slice lo hi none p2) pos) (YV r te tl th):=by
  intro aj s σ H Q I h
  refine Subscript_ (di (he aj s σ H _ I h) λv s1 ⟨x,H1,I1,r1,q1⟩=>?_)
  refine wpAny_Slice (di (hl aj s1 σ H1 _ I1 q1) λvl s2 ⟨l,H2,I2,pl,q2⟩=>di (hu aj s2 σ H2 _ I2 q2) λvu s3 ⟨u,H3,I3,pu,q3⟩=>?_)
  rw[evalPart_none]
  refine bU ?_
  have I4:Inv X aj σ H3 { s3 with heap:=s3.heap.push { cls:=.type "slice",data:=.fields #[vl,vu,.none] } }:=I3.kept (t':=s3.toks) λb ob q=>aD _ q
  obtain⟨T,id,hT,ht,hg⟩:=hr aj { s3 with heap:=s3.heap.push { cls:=.type "slice",data:=.fields #[vl,vu,.none] } } σ H3 x v vl vu l u s3.heap.objs.size Q I4 r1 (aX.IsSliceOf.new ..) pl pu q3
  show bi (ba X.prog X.w) X.A (subscriptTail e (.Slice lo hi none p2) v (.ref s3.heap.objs.size)) (EP X aj σ Q) X.xe { s3 with heap:=s3.heap.push { cls:=.type "slice",data:=.fields #[vl,vu,.none] } }
  exact tail_any (ops:=[.ref s3.heap.objs.size,v]) ht hT hg (by with_unfolding_all rfl)
def oT (xs:List V)(lo hi:Option Int):List V:=(xs.drop (HT.sIx xs.length 0 lo)).take (HT.sIx xs.length xs.length hi-HT.sIx xs.length 0 lo)
theorem ZI (xs:List V)(lo hi:Option Int):(oT xs lo hi).length<=xs.length:=by
 unfold oT
 rw[iH,iG]
 omega
def xM (K:ae):R2:=λx y H Q=>∃a b xs ys,x=.ref a/\y=.ref b/\kn K H a xs/\kn K H b ys/\xs≠[]/\xs.length+ys.length<=sizeLine /\
 (ys=[]->Q (.ref a) H)/\(ys≠[]->∀p,H p=none->Q (.ref p) (upd H p (.tup (xs++ys))))
theorem bX.nil_iff {xs:List V}{us:List af}(r:bX xs us):us=[]↔xs=[]:=by
 cases r with
 |nil=>simp
 |cons _ _=>simp
theorem zq2:gw X (d5 .Add) (xM X.K):=by
 intro aj s σ H x y v u Q I rx ry h
 obtain⟨a,b,xs,ys,rfl,rfl,ha,hb,hx,hz,q1,q2⟩:=h
 cases rx
 cases ry
 obtain⟨ce,r1,p1,_⟩:=I.tuple ha
 obtain⟨vB,r2,p2,_⟩:=I.tuple hb
 refine HT.cat_tup p1 p2 (λz=>hx (r1.nil_iff.mp z)) (λz=>⟨.ref a,H,I,rfl,q1 (r2.nil_iff.mp z)⟩) (λz=>?_) (by rw[←r1.length,←r2.length];exact hz)
 refine⟨.ref s.heap.objs.size,_,I.laid (t':=s.toks) (o:=.tup (xs++ys)) (λb ob q=>aD _ q) (aF _) ?_,rfl,q2 (λw=>z (r2.nil_iff.mpr w)) _ (I.hok.fresh (aF _))⟩
 exact⟨by rw[aW];exact hz,_,r1.append r2,IsTup.new _ _⟩
end
end L2
namespace L2
open PySem PySem.Spec PyProof.Rows
def ixN (n:Nat)(i:Int):Option Nat:=if 0<=i then(if i<n then some i.toNat else none)else if -(n:Int)<=i then some (i+n).toNat else none
def atI {α:Type}(xs:List α)(i:Int):Option α:=(ixN xs.length i).bind λj=>xs[j]?
theorem NL {n:Nat}{i:Int}{j:Nat}(h:ixN n i=some j):seqIndex? i n=some j/\j<n/\-(n:Int)<=i/\i<n:=by
 unfold ixN at h
 by_cases h0:0<=i
 ·rw[if_pos h0]at h
  by_cases h1:i<n
  ·rw[if_pos h1]at h
   have e:i.toNat=j:=Option.some.inj h
   exact⟨by rw[nN h0 h1,e],by omega,by omega,h1⟩
  ·rw[if_neg h1]at h;cases h
 ·rw[if_neg h0]at h
  by_cases h1:-(n:Int)<=i
  ·rw[if_pos h1]at h
   have e:(i+n).toNat=j:=Option.some.inj h
   exact⟨by rw[mU (by omega) h1,e],by omega,h1,by omega⟩
  ·rw[if_neg h1]at h;cases h
theorem Ju {α:Type}{xs:List α}{i:Int}{v:α}(h:atI xs i=some v):∃j,seqIndex? i xs.length=some j/\xs[j]?=some v/\j<xs.length/\-(xs.length:Int)<=i/\i<xs.length:=by
 unfold atI at h
 cases e:ixN xs.length i with
 |none=>rw[e]at h;cases h
 |some j=>
  rw[e]at h
  obtain⟨h1,h2,h3,h4⟩:=NL e
  exact⟨j,h1,h,h2,h3,h4⟩
theorem ue {α:Type}{xs:List α}{j:Nat}{v:α}(h:xs[j]?=some v):atI xs (j:Int)=some v:=by
 have hj:j<xs.length:=(aL.mp h).1
 have e:ixN xs.length (j:Int)=some j:=by
  unfold ixN
  rw[if_pos (by omega),if_pos (by omega)];simp
 unfold atI;rw[e];exact h
def lU (b:Expr):Prop:=∀o i,nO b false o i=operate [o,i] (mT o i)
def tZ (X:Cx)(r:R2):Prop :=
 ∀(value slice:Expr) (aj:List (ai×dO)) (s:ak) (σ:St) (H:Hp) (x y:V) (v u:af) (Q:VK),Inv X aj σ H s->RelV x v->RelV y u->r x y H Q ->
  nO slice false v u=operate [v,u] (mT v u)->bi (ba X.prog X.w) X.A (subscriptTail value slice v u) (EP X aj σ Q) X.xe s
def On (X:Cx)(id:String)(r:V->List V->Hp->VK->Prop):Prop :=
 ∀(aj:List (ai×dO)) (s:ak) (σ:St) (H:Hp) (x:V) (xs:List V) (v:af) (us:List af) (Q:VK),Inv X aj σ H s->RelV x v->bX xs us->r x xs H Q ->
  bi (ba X.prog X.w) X.A (call (.builtin id) (v::us)) (EP X aj σ Q) X.xe s
section
variable {X:Cx}{a b:Expr}{ta tb:TE}{pos:cW}
theorem tZ.or {r r':R2}(h:tZ X r)(h':tZ X r'):tZ X (λx y H Q=>r x y H Q\/r' x y H Q):=by
 intro value slice aj s σ H x y v u Q I rx ry q hs
 rcases q with q|q
 ·exact h value slice aj s σ H x y v u Q I rx ry q hs
 ·exact h' value slice aj s σ H x y v u Q I rx ry q hs
theorem Ts {r:R2}(hr:tZ X r)(ha:PE X a ta)(hb:PE X b tb)(hs:lU b):PE X (.Subscript a b pos) (IQ r ta tb):=by
 intro aj s σ H Q I h
 exact Subscript_ (yJ ha hb I h λv u s2 x y H2 I2 rx ry q=>hr a b aj s2 σ H2 x y v u Q I2 rx ry q (hs _ _))
def G3 (K:ae):R2:=λx y H Q=>∃p xs i v,x=.ref p/\y=.int i/\fm K H p xs/\atI xs i=some v/\Q v H
def G5 (K:ae):R2:=λx y H Q=>∃p xs i v,x=.ref p/\y=.int i/\kn K H p xs/\atI xs i=some v/\Q v H
def G4:R2:=λx y H Q=>∃z i c,x=.str z/\y=.int i/\z.length<=sizeLine/\atI z.cps.toList i=some c/\Q (.str ⟨#[c]⟩) H
theorem Sg:tZ X (G3 X.K):=by
 intro value slice aj s σ H x y v u Q I rx ry h hs
 obtain⟨p,xs,i,z,rfl,rfl,hq,he,q⟩:=h
 cases rx
 obtain⟨t,rfl⟩:=ry
 obtain⟨ce,r,pl,hz⟩:=I.list hq
 obtain⟨j,h1,h2,h3,h4,h5⟩:=Ju he
 obtain⟨w,ew,mL⟩:=r.get h2
 have hl:=r.length
 have hn:=jX
 have fin:EP X aj σ Q w s:=⟨z,H,I,mL,q⟩
 by_cases h0:0<=i
 ·have hj:i.toNat=j:=by
   rw[nN h0 h5]at h1
   exact Option.some.inj h1
  exact item_listR pl.isList h0 (by omega) (by rw[hj];simpa using ew) fin hs
 ·have hj:(i+(ce.toArray.size:Int)).toNat=j:=by
   rw[mU (by omega) h4]at h1
   rw[aK,←hl]
   exact Option.some.inj h1
  exact subscriptTail_builtinR (x:=w) pl.isList.typeIs slot_list_getitem.lookup
   (wpAny_getItem_list_neg (Q:=λr s'=>r=w/\EP X aj σ Q r s') pl.isList (by omega) (by rw[aK]<;>omega) (by omega) (by rw[hj];simpa using ew) ⟨rfl,fin⟩) hs
theorem zt0:tZ X (G5 X.K):=by
 intro value slice aj s σ H x y v u Q I rx ry h hs
 obtain⟨p,xs,i,z,rfl,rfl,hq,he,q⟩:=h
 cases rx
 obtain⟨t,rfl⟩:=ry
 obtain⟨ce,r,pl,hz⟩:=I.tuple hq
 obtain⟨j,h1,h2,h3,h4,h5⟩:=Ju he
 obtain⟨w,ew,mL⟩:=r.get h2
 have hl:=r.length
 have hn:=jX
 have fin:EP X aj σ Q w s:=⟨z,H,I,mL,q⟩
 exact subscriptTail_builtinR (x:=w) pl.typeIs slot_tuple_getitem.lookup
  (getItem_tuple (j:=j) (Q:=λr s'=>r=w/\EP X aj σ Q r s') pl (by omega) (by omega) (by rw[aK,←hl];exact h1) (by simpa using ew) ⟨rfl,fin⟩) hs
theorem zt1:tZ X G4:=by
 intro value slice aj s σ H x y v u Q I rx ry h hs
 obtain⟨z,i,c,rfl,rfl,hz,he,q⟩:=h
 obtain⟨t,rfl⟩:=rx
 obtain⟨t',rfl⟩:=ry
 obtain⟨j,h1,h2,h3,h4,h5⟩:=Ju he
 have hl:z.cps.toList.length=z.length:=by simp[aR.length]
 rw[hl]at h1 h4 h5
 have hn:=jX
 exact tail_any (typeIs_str s z t) slot_str_getitem.lookup (getItem_str (c:=c) (by
  have e1:decide (i < -(2 ^ 63:Int))=false:=decide_eq_false (by omega)
  have e2:decide (i >= 2 ^ 63)=false:=decide_eq_false (by omega)
  rw[e1,e2,wG]) (by rw[h1];simpa using h2) ⟨.str ⟨#[c]⟩,H,I.tok _,⟨_,rfl⟩,q⟩) hs
def Qd (K:ae):R2:=λx y H Q=>G3 K x y H Q\/G5 K x y H Q\/G4 x y H Q
theorem vZ:tZ X (Qd X.K):=Sg.or (zt0.or zt1)
theorem zkf (ce:List af)(n j:Nat)(u:af):dO.mapSeq (·.setIfInBounds j u) { cls:=.type "list",data:=.seq ce.toArray n } = { cls:=.type "list",data:=.seq (ce.set j u).toArray n }:=by
  simp[dO.mapSeq]
theorem Inv.lst {aj:List (ai×dO)}{σ:St}{H:Hp}{s:ak}{p:ai}{xs:List V}(I:Inv X aj σ H s)(h:H p=some (.lst xs)) :
    ∃(ce:List af) (n:Nat),bX xs ce/\s.heap.get? p=some { cls:=.type "list",data:=.seq ce.toArray n }/\xs.length<=sizeLine:=by
  obtain⟨z,ce,n,r,e⟩:=I.hok p _ h
  exact⟨ce,n,r,e,z⟩
theorem Inv.lstUpd {aj:List (ai×dO)}{σ:St}{H:Hp}{s:ak}{p:ai}{xs ys:List V}{ce its':List af}{n n':Nat}{f:dO->dO}(I:Inv X aj σ H s)(h:H p=some (.lst xs))
    (ho:s.heap.get? p=some { cls:=.type "list",data:=.seq ce.toArray n }) (hf:f { cls:=.type "list",data:=.seq ce.toArray n } = { cls:=.type "list",data:=.seq its'.toArray n' }) (r:bX ys its') (hz:ys.length<=sizeLine) (t:Nat) :
    Inv X aj σ (upd H p (.lst ys)) { s with heap:=s.heap.update p f,toks:=t }:=by
  have e:(s.heap.update p f).get? p=some { cls:=.type "list",data:=.seq its'.toArray n' }:=by
    rw[o8 f ho (by rw[hf]<;>rfl),hf]
  refine I.write (x:=p) (e:=p) (by rw[h];trivial) (.inl rfl) (λb u hb q=>(iS _ _ (Ne.symm hb)).trans q) ⟨_,e⟩ ?_
  exact⟨hz,its',n',r,e⟩
def G8:V->V->V->Hp->(Hp->Prop)->Prop:=λo i v H Q=>∃p xs k j,o=.ref p/\i=.int k/\H p=some (.lst xs)/\ixN xs.length k=some j/\Q (upd H p (.lst (xs.set j v)))
theorem Nn:yF X G8:=by
 intro aj s σ H o i v ov iv u Q I ro ri rv h
 obtain⟨p,xs,k,j,rfl,rfl,hp,hj,q⟩:=h
 cases ro
 obtain⟨t,rfl⟩:=ri
 obtain⟨ce,n,r,ho,hz⟩:=I.lst hp
 obtain⟨h1,h2,h3,h4⟩:=NL hj
 have hl:=r.length
 have hn:=jX
 have I':Inv X aj σ (upd H p (.lst (xs.set j v))) { s with heap:=s.heap.update p (dO.mapSeq (·.setIfInBounds j u)) } :=
  I.lstUpd hp ho (zkf ce n j u) (r.set rv j) (by rw[tU];exact hz) s.toks
 by_cases h0:0<=k
 ·have hk:k.toNat=j:=by
   rw[nN h0 h4]at h1
   exact Option.some.inj h1
  exact PySem.W.ki_setAt ho h0 (by omega) (by rw[aK,←hl];exact h4) (by rw[hk];exact⟨_,I',q⟩)
 ·have hk:(k+(ce.toArray.size:Int)).toNat=j:=by
   rw[mU (by omega) h3]at h1
   rw[aK,←hl]
   exact Option.some.inj h1
  exact PySem.W.ki_setBack ho (by omega) (by rw[aK,←hl];exact h3) (by omega) (by rw[hk];exact⟨_,I',q⟩)
theorem ZC (lo hi:Option Int)(n:Nat):(gU lo hi none n).1=((HT.sIx n 0 lo:Nat):Int)/\(gU lo hi none n).2.1=((HT.sIx n n hi:Nat):Int)/\(gU lo hi none n).2.2=1:=by
 refine⟨?_,?_,rfl⟩
 ·cases lo with
  |none=>simp[gU,HT.sIx]
  |some i=>
   simp only[gU,HT.sIx,qZ,show(1:Int) > 0 by decide,if_true]
   by_cases h:i<0
   ·simp only[h,if_true]<;>omega
   ·simp only[h,if_false]<;>omega
 ·cases hi with
  |none=>simp[gU,HT.sIx]
  |some i=>
   simp only[gU,HT.sIx,qZ,show(1:Int) > 0 by decide,if_true]
   by_cases h:i<0
   ·simp only[h,if_true]<;>omega
   ·simp only[h,if_false]<;>omega
theorem Zh (ce:List af)(lo hi:Option Int):slicePick ce.toArray lo hi none=((ce.drop (HT.sIx ce.length 0 lo)).take (HT.sIx ce.length ce.length hi-HT.sIx ce.length 0 lo)).toArray:=by
 obtain⟨h1,h2,h3⟩:=ZC lo hi ce.toArray.size
 unfold slicePick
 rw[h1,h2,h3]
 simp only[sliceRange_one,pick_run,aK]<;>rfl
def Mw (K:ae):V->Option Int->Option Int->Hp->VK->Prop:=λx lo hi H Q=>∃a xs,x=.ref a/\fm K H a xs/\∀p,H p=none->Q (.ref p) (upd H p (.lst (oT xs lo hi)))
theorem Sh:Oq X (Mw X.K):=by
 intro aj s σ H x v vl vu lo hi sl Q I rx hs pl pu h
 obtain⟨a,xs,rfl,hx,q⟩:=h
 cases rx
 obtain⟨ce,r,ht,hz⟩:=I.list hx
 have d9:=r.length
 refine⟨"list",_,slot_list_getitem.lookup,ht.isList.typeIs,?_⟩
 refine wpAny_getItem_list_slice ht.isList hs pl pu .none (by simp) ?_ (by rw[aK]<;>omega)
 rw[Zh,←d9]
 refine⟨.ref s.heap.objs.size,_,I.laid (t':=s.toks) (o:=.lst (oT xs lo hi)) (λb ob q=>aD _ q) (aF _) ?_,rfl,q _ (I.hok.fresh (aF _))⟩
 exact⟨cx (ZI xs lo hi) hz,_,0,(r.drop (HT.sIx xs.length 0 lo)).take (HT.sIx xs.length xs.length hi-HT.sIx xs.length 0 lo),bB _ rfl⟩
def iA:V->Bool
 |.non=>true
 |.bl _=>true
 |.int _=>true
 |.str _=>true
 |_=>false
def rz:V->V->Bool
 |.non,.non=>true
 |.bl a,.bl b=>a==b
 |.bl a,.int b=>(if a then 1 else 0)==b
 |.int a,.bl b=>a==(if b then 1 else 0)
 |.int a,.int b=>a==b
 |.str a,.str b=>a==b
 |_,_=>false
theorem zt2 {A:bT}{s:ak}{y x:V}{u v:af}(ry:RelV y u)(rx:RelV x v)(fy:iA y=true)(fx:iA x=true):SeqAt.EqAt A s u v (rz y x):=by
 cases y with
 |non=>
  cases ry
  cases x with
  |non=>cases rx;exact SeqAt.EqAt.same _
  |bl b=>cases rx;exact SeqAt.EqAt.none_bool b
  |int b=>obtain⟨t,rfl⟩:=rx;exact SeqAt.EqAt.none_int b t
  |str b=>obtain⟨t,rfl⟩:=rx;exact SeqAt.EqAt.none_str b t
  |_=>exact absurd (show false=true from fx) aU
 |bl a=>
  cases ry
  cases x with
  |non=>cases rx;exact SeqAt.EqAt.bool_none a
  |bl b=>cases rx;exact SeqAt.EqAt.bool_bool a b
  |int b=>obtain⟨t,rfl⟩:=rx;exact SeqAt.EqAt.bool_int a b t
  |str b=>obtain⟨t,rfl⟩:=rx;exact SeqAt.EqAt.bool_str a b t
  |_=>exact absurd (show false=true from fx) aU
 |int a=>
  obtain⟨t',rfl⟩:=ry
  cases x with
  |non=>cases rx;exact SeqAt.EqAt.int_none a t'
  |bl b=>cases rx;exact SeqAt.EqAt.int_bool a t' b
  |int b=>obtain⟨t,rfl⟩:=rx;exact SeqAt.EqAt.int_int a t' b t
  |str b=>obtain⟨t,rfl⟩:=rx;exact SeqAt.EqAt.int_str a t' b t
  |_=>exact absurd (show false=true from fx) aU
 |str a=>
  obtain⟨t',rfl⟩:=ry
  cases x with
  |non=>cases rx;exact SeqAt.EqAt.str_none a t'
  |bl b=>cases rx;exact SeqAt.EqAt.str_bool a t' b
  |int b=>obtain⟨t,rfl⟩:=rx;exact SeqAt.EqAt.str_int a t' b t
  |str b=>obtain⟨t,rfl⟩:=rx;exact SeqAt.EqAt.str_str a t' b t
  |_=>exact absurd (show false=true from fx) aU
 |_=>exact absurd (show false=true from fy) aU
def ox (x:V)(u:af):Bool:=match u with
 |.none=>rz .non x
 |.bool b=>rz (.bl b) x
 |.int i _=>rz (.int i) x
 |.str z _=>rz (.str z) x
 |_=>false
theorem N5 {x y:V}{u:af}(r:RelV y u)(f:iA y=true):ox x u=rz y x:=by
 cases y with
 |non=>cases r;rfl
 |bl b=>cases r;rfl
 |int i=>obtain⟨t,rfl⟩:=r;rfl
 |str z=>obtain⟨t,rfl⟩:=r;rfl
 |_=>exact absurd (show false=true from f) aU
theorem HE {x:V}:∀{xs:List V} {us:List af},bX xs us->xs.all iA=true->us.any (ox x)=xs.any λy=>rz y x
 |_,_,.nil,_=>rfl
 |y::xs,u::us,.cons r t,f=>by
  rw[dL,bK]at f
  rw[eM,eM,N5 r f.1,HE t f.2]
theorem BB {A:bT}{s:ak}{x:V}{v:af}(rx:RelV x v)(fx:iA x=true):∀{xs:List V} {us:List af},bX xs us->xs.all iA=true->∀u∈us,SeqAt.EqAt A s u v (ox x u)
 |_,_,.nil,_=>λu hu=>by cases hu
 |y::xs,u::us,.cons r t,f=>λu' hu=>by
  rw[dL,bK]at f
  rcases aC.mp hu with rfl|hu
  ·rw[N5 r f.1];exact zt2 r rx f.1 fx
  ·exact BB rx fx t f.2 u' hu
def IH (x:V)(xs:List V):Bool:=xs.any λy=>rz y x
def Mv (K:ae)(neg:Bool):R2:=λx y H Q=>∃p xs,y=.ref p/\(fm K H p xs\/kn K H p xs)/\iA x=true/\xs.all iA=true/\Q (.bl (if neg then !IH x xs else IH x xs)) H
theorem Rj:gw X (cD .In) (Mv X.K false):=by
 intro aj s σ H x y v u Q I rx ry h
 obtain⟨p,xs,rfl,hq,fx,fs,q⟩:=h
 cases ry
 rcases hq with hq|hq
 ·obtain⟨ce,r,pl,hz⟩:=I.list hq
  refine SeqAt.in_listAt (ox x) pl.isList (λw hw=>BB rx fx r fs w (by simpa using hw)) ⟨.bl _,H,I,rfl,?_⟩
  rw[show ce.toArray.any (ox x)=ce.any (ox x)by simp,HE r fs]
  exact q
 ·obtain⟨ce,r,pl,hz⟩:=I.tuple hq
  refine SeqAt.in_tupleAt (ox x) pl (λw hw=>BB rx fx r fs w (by simpa using hw)) ⟨.bl _,H,I,rfl,?_⟩
  rw[show ce.toArray.any (ox x)=ce.any (ox x)by simp,HE r fs]
  exact q
theorem ZD:gw X (cD .NotIn) (Mv X.K true):=by
 intro aj s σ H x y v u Q I rx ry h
 obtain⟨p,xs,rfl,hq,fx,fs,q⟩:=h
 cases ry
 rcases hq with hq|hq
 ·obtain⟨ce,r,pl,hz⟩:=I.list hq
  refine SeqAt.notIn_listAt (ox x) pl.isList (λw hw=>BB rx fx r fs w (by simpa using hw)) ⟨.bl _,H,I,rfl,?_⟩
  rw[show ce.toArray.any (ox x)=ce.any (ox x)by simp,HE r fs]
  exact q
 ·obtain⟨ce,r,pl,hz⟩:=I.tuple hq
  refine SeqAt.notIn_tupleAt (ox x) pl (λw hw=>BB rx fx r fs w (by simpa using hw)) ⟨.bl _,H,I,rfl,?_⟩
  rw[show ce.toArray.any (ox x)=ce.any (ox x)by simp,HE r fs]
  exact q
theorem ZE:eF X (.builtin "len") (λxs H Q=>∃p ys,xs=[.ref p]/\(fm X.K H p ys\/kn X.K H p ys)/\Q (.int ys.length) H):=by
 intro aj s σ H xs us Q I r h
 obtain⟨p,ys,rfl,hq,q⟩:=h
 obtain⟨u,rfl,rx⟩:=mO r
 cases rx
 have hn:=jX
 rcases hq with hq|hq
 ·obtain⟨ce,r',pl,hz⟩:=I.list hq
  have d9:=r'.length
  exact Calls.call_len_list pl.isList (by simp only[aK]<;>omega) ⟨.int ys.length,H,I.tok _,⟨s.toks+1,by rw[aK,d9]⟩,q⟩
 ·obtain⟨ce,r',pl,hz⟩:=I.tuple hq
  have d9:=r'.length
  exact len_tuple pl (by simp only[aK]<;>omega) ⟨.int ys.length,H,I.tok _,⟨s.toks+1,by rw[aK,d9]⟩,q⟩
theorem ZF:eF X (.builtin "len") (λxs H Q=>∃z,xs=[.str z]/\z.length<=sizeLine/\Q (.int z.length) H):=by
 intro aj s σ H xs us Q I r h
 obtain⟨z,rfl,hz,q⟩:=h
 obtain⟨u,rfl,t,rfl⟩:=mO r
 have hn:=jX
 exact len_str (by omega) ⟨.int z.length,H,I.tok _,⟨_,rfl⟩,q⟩
theorem eF.or {f:af}{r r':List V->Hp->VK->Prop}(h:eF X f r)(h':eF X f r'):eF X f (λxs H Q=>r xs H Q\/r' xs H Q):=by
 intro aj s σ H xs us Q I rs q
 rcases q with q|q
 ·exact h aj s σ H xs us Q I rs q
 ·exact h' aj s σ H xs us Q I rs q
theorem M0:eF X (.type "list") (λxs H Q=>∃p ys,xs=[.ref p]/\(fm X.K H p ys\/kn X.K H p ys)/\∀l,H l=none->Q (.ref l) (upd H l (.lst ys))):=by
  intro aj s σ H xs us Q I r h
  obtain⟨p,ys,rfl,hq,q⟩:=h
  obtain⟨u,rfl,rx⟩:=mO r
  cases rx
  have fin:∀(ce:List af),bX ys ce->ys.length<=sizeLine->∀(h':aX) (c':Nat),(∀b o',s.heap.get? b=some o'->h'.get? b=some o') ->
      h'.get? s.heap.objs.size=some { cls:=.type "list",dict:=none,data:=.seq ce.toArray c',slots:=#[] }->EP X aj σ Q (.ref s.heap.objs.size) { s with heap:=h' }:=λce r' hz h' c' kp e=>
    ⟨.ref s.heap.objs.size,_,I.laid (t':=s.toks) kp (aF _) (show dR X.prog X.w _ h' _ (.lst ys)from⟨hz,ce,c',r',e⟩),rfl,q _ (I.hok.fresh (aF _))⟩
  rcases hq with hq|hq
  · obtain⟨ce,r',pl,hz⟩:=I.list hq
    have d9:=r'.length
    obtain⟨o,ho,hc,n,hd⟩:=pl.isList
    exact call_list_seq p (.inl rfl) ho hc hd (λh' c' kp e=>fin ce r' hz h' c' kp e) (by simp only[aK]<;>omega)
  · obtain⟨ce,r',pl,hz⟩:=I.tuple hq
    have d9:=r'.length
    obtain⟨o,ho,hc,n,hd⟩:=pl
    exact call_list_seq p (.inr rfl) ho hc hd (λh' c' kp e=>fin ce r' hz h' c' kp e) (by simp only[aK]<;>omega)
def Qn (K:ae)(T:String)(x:V)(H:Hp):Prop:=match x with
 |.str _=>T = "str"
 |.int _=>T = "int"
 |.ref p=>(T = "list"/\∃xs,fm K H p xs)\/(T = "tuple"/\∃o,K.lookup p=some o/\o.cls=.type "tuple"/\o.dict=none) \/
   (T = "dict"/\((∃cC,H p=some (.dK cC))\/∃cC,H p=some (.dT cC)))\/(T = "set"/\∃S n,H p=some (.set S n))
 |_=>False
theorem zt3 {aj:List (ai×dO)}{σ:St}{H:Hp}{s:ak}{T:String}{x:V}{v:af}(I:Inv X aj σ H s)(r:RelV x v)(ty:Qn X.K T x H) :
  s.TypeIs v T/\∀a,v=.ref a->∃ob,s.heap.get? a=some ob/\ob.dict=none:=by
 cases x with
 |str z=>
  obtain⟨t,rfl⟩:=r
  cases(show T = "str" from ty)
  exact⟨typeIs_str s z t,λ_ e=>nomatch e⟩
 |int i=>
  obtain⟨t,rfl⟩:=r
  cases(show T = "int" from ty)
  exact⟨wL s i t,λ_ e=>nomatch e⟩
 |ref p=>
  cases r
  rcases ty with⟨rfl,xs,hq⟩|⟨rfl,o,hk,hc,hd⟩|⟨rfl,hk⟩|⟨rfl,S,n,hk⟩
  ·obtain⟨ce,_,pl,_⟩:=I.list hq
   refine⟨pl.isList.typeIs,λa e=>?_⟩
   cases e
   obtain⟨o,n,e,c,hd,_⟩:=pl
   exact⟨o,e,hd⟩
  ·refine⟨⟨o,I.kIn p o hk,hc⟩,λa e=>?_⟩
   cases e
   exact⟨o,I.kIn _ o hk,hd⟩
  ·have z:∃o,s.heap.get? p=some o/\o.ExactDict:=by
    rcases hk with⟨cC,hk⟩|⟨cC,hk⟩
    ·obtain⟨_,_,_,_,o,_,_,e,ex,_⟩:=I.hok p _ hk
     exact⟨o,e,ex⟩
    ·obtain⟨_,_,_,_,o,_,_,e,ex,_⟩:=I.hok p _ hk
     exact⟨o,e,ex⟩
   obtain⟨o,e,ex⟩:=z
   refine⟨⟨o,e,ex.1⟩,λa e2=>?_⟩
   cases e2
   exact⟨o,e,ex.2.1⟩
  ·obtain⟨o,_,_,_,e,ex,_⟩:=I.hok p _ hk
   refine⟨⟨o,e,ex.1⟩,λa e2=>?_⟩
   cases e2
   exact⟨o,e,ex.2.1⟩
 |_=>exact False.elim ty
def YS (K:ae)(T:String)(r:V->List V->Hp->VK->Prop)(to:TE)(t:TA):TE:=λσ H Q=>to σ H λx H1=>Qn K T x H1/\t σ H1 λxs H2=>r x xs H2 Q
variable {o e:Expr}{es:List Expr}{to:TE}{t:TA}{name:aR}{dB dP:cW}{T id:String}{r:V->List V->Hp->VK->Prop}
theorem JZ (pa:PlainAttrs T)(slot:Slot T name id)(V4:typeOf (.builtin id)=pure (.type "method_descriptor"))(hm:On X id r)(ho:PE X o to)(ha:PA X (e::es) t)
  (mD:er o name X.env (bF o X.env)=bF o X.env:=by rfl)
  (pV:((cy dP (ao (e::es) X.env)).all (λx=>!x.1)&&(eU dP (dh [] X.env)).all (λx=>x.1.isSome)
   && decide ((e::es).length+([]:List fS).length+(if([]:List fS).isEmpty then 0 else 1)<30))=true:=by rfl)
  (mF:(dB.endLine==dP.line)=true:=by rfl) (hs:ao (e::es) X.env=(false,bF e X.env)::ao es X.env:=by rfl) (jW:(cy dP (ao es X.env)).any (·.1)=false:=by rfl) :
  PE X (.Call (.Attribute o name dB) (e::es) [] dP) (YS X.K T r to t):=by
 intro aj s σ H Q I h
 refine wpAny_Call_method_late mD pV mF rfl (di (ho aj s σ H _ I h) λv s1 ⟨x,H1,I1,r1,ty,q1⟩=>?_)
 obtain⟨h1,h2⟩:=zt3 I1 r1 ty
 refine⟨T,id,pa,slot,V4,h1,h2,?_⟩
 have hA:=ha dP aj s1 σ H1 _ I1 q1
 rw[hs]at hA ⊢
 refine Calls.callWith_builtin (by show(false || (cy dP (ao es X.env)).any (·.1))=false;rw[jW]<;>rfl) (Calls.evalArgs_plain ?_)
 exact di hA λus s2 ⟨vs,H2,I2,r2,q2⟩=>hm aj s2 σ H2 x vs v us Q I2 r1 r2 q2
end
end L2
namespace L2
open PySem PySem.Spec PyProof.Rows
def Om (X:Cx)(id:String)(r:V->List V->Hp->VK->Prop):Prop :=
 ∀(aj:List (ai×dO)) (s:ak) (σ:St) (H:Hp) (x:V) (xs:List V) (v:af) (us:List af) (Q:VK),Inv X aj σ H s->RelV x v->bX xs us->r x xs H Q ->
  bi (ba X.prog X.w) X.A (call (.builtin id) (v::us)) (EP X aj σ Q) X.xe s
theorem bX.one:∀{x:V} {us:List af},bX [x] us->∃u,us=[u]/\RelV x u
 |_,_,.cons r .nil=>⟨_,rfl,r⟩
theorem bX.eraseIdx:∀{xs:List V} {us:List af} (i:Nat),bX xs us->bX (xs.eraseIdx i) (us.eraseIdx i)
 |_,_,_,.nil=>.nil
 |_,_,0,.cons _ t=>t
 |_,_,i+1,.cons r t=>.cons r (bX.eraseIdx i t)
theorem bX.rep {xs:List V}{us:List af}(h:bX xs us):∀k:Nat,bX (aA k xs).flatten (aA k us).flatten
 |0=>.nil
 |k+1=>by
  rw[cJ,cJ,d6,d6]
  exact bX.append h (bX.rep h k)
theorem Rk {α:Type}:∀(l:List α) (i:Nat),(l.eraseIdx i).length<=l.length
 |[],_=>aF _
 |_::_,0=>iz _
 |_::r,i+1=>Nat.succ_le_succ (Rk r i)
theorem Rl (ce:List af):∀(k:Nat) (gY:List af),
  qV (λx1 x2=>x1++x2) gY.toArray (aA k ce.toArray)=(gY++(aA k ce).flatten).toArray
 |0,gY=>by simp
 |k+1,gY=>by
  have e:gY.toArray++ce.toArray=(gY++ce).toArray:=by simp
  have e2:(gY++ce)++(aA k ce).flatten=gY++(aA (k+1) ce).flatten:=by
   rw[cJ,d6,eP]
  rw[←e2,←Rl ce k (gY++ce),←e,cJ,fD]
section
variable {X:Cx}{aj:List (ai×dO)}{σ:St}{H:Hp}{s:ak}{l b:ai}{xs ys zs:List V}
theorem Inv.lset {ce its':List af}{n:Nat}{f:Array af->Array af}{t':Nat}(I:Inv X aj σ H s)(hH:H l=some (.lst xs))
    (e:s.heap.get? l=some { cls:=.type "list",data:=.seq ce.toArray n }) (hf:f ce.toArray=its'.toArray) (hv:bX ys its') (hz:ys.length<=sizeLine) :
    Inv X aj σ (upd H l (.lst ys)) { s with heap:=s.heap.update l (dO.mapSeq f),toks:=t' }:=by
  have q:=PySem.IsL.update e f
  rw[hf]at q
  refine I.write (x:=l) (e:=l) (by rw[hH];exact trivial) (.inl rfl) (λb' u hb hu=>(iS s.heap (dO.mapSeq f) (Ne.symm hb)).trans hu) ⟨_,q⟩ ?_
  exact⟨hz,its',_,hv,q⟩
theorem Inv.lnew {ce:List af}{t':Nat}(I:Inv X aj σ H s)(hv:bX ys ce)(hz:ys.length<=sizeLine) :
    Inv X aj σ (upd H s.heap.objs.size (.lst ys)) { s with heap:=s.heap.push { cls:=.type "list",data:=.seq ce.toArray },toks:=t' } :=
  I.laid (λ_ _ q=>aD _ q) (aF _) ⟨hz,ce,0,hv,bB _ rfl⟩
theorem Inv.fresh (I:Inv X aj σ H s):H s.heap.objs.size=none:=I.hok.fresh (aF _)
theorem Inv.lstM (I:Inv X aj σ H s)(hH:H l=some (.lst xs)):xs.length<=sizeLine/\∃(ce:List af) (n:Nat),bX xs ce/\xs.length=ce.length/\s.heap.get? l=some { cls:=.type "list",data:=.seq ce.toArray n }:=by
  obtain⟨z,ce,n,r,e⟩:=I.hok l _ hH
  exact⟨z,ce,n,r,r.length,e⟩
theorem tF {n:Nat}(h:n<=sizeLine):fE.List.listTooLong n=false:=by
 unfold fE.List.listTooLong
 exact decide_eq_false (by omega)
end
section
variable {X:Cx}
def vM:V->List V->Hp->VK->Prop:=λx vs H Q=>∃l xs y,x=.ref l/\vs=[y]/\H l=some (.lst xs)/\xs.length<sizeLine/\Q .non (upd H l (.lst (xs++[y])))
theorem Jc:Om X "list.append" vM:=by
 intro aj s σ H x vs v us Q I rx rv h
 obtain⟨l,xs,y,rfl,rfl,hH,hz,q⟩:=h
 cases rx
 obtain⟨u,rfl,ru⟩:=rv.one
 obtain⟨z,ce,n,r,hl,e⟩:=I.lstM hH
 refine lT F.slot_list_append ⟨_,e,rfl⟩ F.entry_list_append (F.args_list_append_2 _ _) (PySem.list_append l ce.toArray n u (by rw[aK];omega)) ⟨e,?_⟩
 refine⟨.non,_,I.lset (its':=ce++[u]) hH e (by simp) (r.append (.cons ru .nil)) ?_,rfl,q⟩
 rw[aW,cL]
 omega
def AR:V->List V->Hp->VK->Prop:=λx vs H Q=>∃l xs i k y,x=.ref l/\vs=[.int i]/\H l=some (.lst xs)/\-(2 ^ 63)<=i/\i<2 ^ 63/\seqIndex? i xs.length=some k/\xs[k]?=some y/\Q y (upd H l (.lst (xs.eraseIdx k)))
theorem znw:Om X "list.pop" AR:=by
 intro aj s σ H x vs v us Q I rx rv h
 obtain⟨l,xs,i,k,y,rfl,rfl,hH,h1,h2,hk,hy,q⟩:=h
 cases rx
 obtain⟨u,rfl,ru⟩:=rv.one
 obtain⟨t,rfl⟩:=ru
 obtain⟨z,ce,n,r,hl,e⟩:=I.lstM hH
 obtain⟨w,hw,mL⟩:=r.get hy
 refine lT F.slot_list_pop ⟨_,e,rfl⟩ F.entry_list_pop (F.args_list_pop_2 _ _)
  (MeetsSeq.list_pop_at l ce.toArray n i t k w (fitsIndex_both h1 h2) (by rw[aK,←hl];exact hk) (by rw[←Array.getElem?_toList];exact hw) (by rw[aK];omega)) ⟨e,?_⟩
 refine⟨y,_,I.lset (its':=ce.eraseIdx k) hH e ?_ (r.eraseIdx k) ?_,mL,q⟩
 ·show ce.toArray.eraseIdxIfInBounds k=(ce.eraseIdx k).toArray
  rw[List.eraseIdxIfInBounds_toArray]
 ·have:=Rk xs k
  omega
theorem zq3 {α:Type}(xs:List α)(k:Nat):(aA k xs).flatten.length=k*xs.length:=by
 induction k with
 |zero=>simp
 |succ k ih=>rw[cJ,d6,aW,ih,Nat.succ_mul,Nat.add_comm]
end
section
variable {prog:bx}{w:bY}{A:bT}{E:af->ak->Prop}{s:ak}
end
section
variable {X:Cx}
end
end L2
namespace Att
open PySem PySem.W PySem.Calls PyProof.Rows
theorem Zg {P:Params}{h:aX}:∀(ns:List Int) (vs:List af),WellAll P h vs (ns.map WData.int)->IntsAre vs ns:=by
 intro ns
 induction ns with
 |nil=>
  intro vs w
  rw[kI]at w
  cases w
  exact .nil
 |cons n ns ih=>
  intro vs w
  rw[aM]at w
  cases w with
  |cons a b=>
   cases a
   exact .cons _ _ (ih _ b)
theorem zld {l:OpenLaw}{n:Nat}(hn:l.most=some n){P:Params}{h:aX}{args:List WData}{vals:List af}
    (rG:l.row.toRowW.claim.pre args=true) (E2:WellAll P h vals args) :
    ∃a vs ns,vals=[af.ref a]/\args=[WData.list (ns.map WData.int)]/\h.get? a=some { cls:=.type "list",data:=.seq vs.toArray }/\IntsAre vs ns/\ns.length<=n:=by
  have V1:WShape.hasAll [] args [.list .int]=true:=(pre_splitW rG).1
  have hc:l.pre.holds [] { args:=args }=true:=(pre_splitW rG).2
  obtain⟨d,r,rfl,h1,h2⟩:=hasAllW_cons V1
  obtain rfl:=hasAllW_nil h2
  obtain⟨xs,rfl,h3⟩:=hasW_list h1
  obtain⟨ns,rfl⟩:=items_int h3
  have d9:ns.length<=n:=by
    unfold OpenLaw.pre at hc
    have h4:(WTm.not (.lt (.lit (.int (n:Int))) (.len (.arg 0)))).holds [] { args:=[.list (ns.map .int)] }=true:=by
      have h4:=(holds_andW hc).1
      rw[hn]at h4
      exact h4
    have h5:=condW_of h4 (w_not (w_lt w_lit (w_len_list (w_arg rfl))))
    rw[ay]at h5
    refine Nat.le_of_not_lt λq=>?_
    have q':(n:Int)<((ns.length:Nat):Int):=by omega
    first
      |(rw[decide_eq_true q']at h5;exact absurd h5 (by decide))
      |(simp at h5;omega)
  cases E2 with
  |cons w1 w2=>
    cases w2
    cases w1 with
    |list ho oV=>exact⟨_,_,ns,rfl,rfl,ho,Zg ns _ oV,d9⟩
theorem zle (l:OpenLaw)(args:List WData):l.row.toRowW.claim.post args (.bool true) args=true :=
  postW_of (r:=l.row.toRowW) (X:=(true==true))
    (show WShape.has [] (.bool true) .bool=true by first|rfl|decide|simp[WShape.has,WShape.arms,WShape.armsAll])
    (show(WTm.eq .res (.lit (.bool true))).value [] { args:=args,res:=some (.bool true),after:=args }=some (.bool (true==true))from w_eq_bool (w_res rfl) w_lit) rfl
theorem attach_call {l:OpenLaw}{n:Nat}{q:bx}{loose:List aR}{XP:(aR->Option af)->aX->Prop}{YP:bY->aX->Prop}{d:DefRec}
    (hn:l.most=some n) (Eu:d.params.defaults=[])
    (call:∀(w:bY) (s₀ s₁:ak) (mg mb:aR->Option af) (fa:ai) (o:dO) (pm cd doc:af) (a:ai) (vs:List af) (ns:List Int),
      Ground q loose [] XP w s₀ mg mb s₁.heap->YP w s₁.heap ->
      s₁.heap.get? fa=some o->o.data=.func (docDef d.name d.params d.body d.scope pm cd doc)->s₁.heap.CodeRec cd d.name->mg d.name=some (.ref fa) ->
      s₁.heap.get? a=some { cls:=.type "list",data:=.seq vs.toArray }->IntsAre vs ns->ns.length<=n->s₁.gens = #[] ->
      gx (ba l.prog w) mR (.call (.ref fa) ⟨[.ref a],[]⟩) (λr s'=>r=.ok (.ret (.bool true))/\OldK s₁.heap s'.heap/\s'.os=s₁.os/\AllBare s'.gens) s₁) :
    WalkO q loose XP YP l.row.toRowW d [] (λf vs=>PySem.call f vs):=by
  intro w s₀ s₁ mg mb G Y fa o pm cd doc dV kV ho hd iL hD hmg hg args vals as rG VP hrd E2 hlo
  obtain rfl:dV=.none:=Dflts.none hD Eu
  obtain rfl:kV=.none:=Dflts.noKw hD
  obtain⟨a,vs,ns,rfl,rfl,Ar,sU,d9⟩:=zld hn rG E2
  refine enter_call (mS (call w s₀ s₁ mg mb fa o pm cd doc a vs ns G Y ho (fd_plain hd) iL hmg Ar sU d9 hg) λr s' hq=>?_)
  obtain⟨rfl,h2,h3,h4⟩:=hq
  exact⟨.inl ⟨.bool true,.bool true,[],rfl,λ_=>rfl,.bool true,zle l _,λ_=>⟨fw.nil,λ_ hm=>(nomatch hm)⟩⟩,h2,h3,h4⟩
section
variable {prog:bx}{w:bY}{A:bT}{E:af->ak->Prop}{s:ak}{K:Frag}
end
end Att
namespace L2
open PySem PySem.Spec PyProof.Rows
theorem Nk:∀{vs:List af} {ns:List Int},IntsAre vs ns->bX (ns.map V.int) vs
 |_,_,.nil=>.nil
 |_,_,.cons n t h=>.cons ⟨t,rfl⟩ (Nk h)
def yE (H:Hp):Prop:=∀b,H b=none\/∃o xs,H b=some (.frz o (.lst xs))
theorem znx {P:bx}{w:bY}{K:ae}{mg mb:aR->Option af}{CX:sf}{k:Nat}{fa a:ai}{fd:aH}{x:aR}{sp:Sp}{s₁:ak}{vs:List af}{ns:List Int}
    (KX:K.In s₁.heap) (i7:s₁.heap.Ns aq mg) (hb:s₁.heap.Ns wK mb) (Vw:∀x:aR,x≠"__name__"->mb x=bS x) (LW:s₁.heap.NoLimit) (hg:s₁.gens = #[])
    (ha:s₁.heap.get? a=some { cls:=.type "list",data:=.seq vs.toArray }) (hi:IntsAre vs ns) (hl:ns.length<=sizeLine) (hr:eA k mR)
    (F:∀base:aX,K.In base->base.Ns aq mg->cz P w K mg base CX k fa fd [x] sp) (Er:∀(s:ak) (u:af),oH s fd ⟨[u],[]⟩ [(x,u)])
    (xF:∀H:Hp,yE H->fm K H a (ns.map V.int)->sp [.ref a] H (λv _=>v=.bl true) λ_ _ _=>False)
    (Ls:∀H e s',CX [] H s₁ (λ_ _ _=>False) e s'->False) :
    gx (ba P w) mR (.call (.ref fa) ⟨[.ref a],[]⟩) (λr s'=>r=.ok (.ret (.bool true))/\OldK s₁.heap s'.heap/\s'.os=s₁.os/\AllBare s'.gens) s₁:=by
  have rv:=Nk hi
  have Mj:=hi.length
  have core:∀H:Hp,yE H->fm K H a (ns.map V.int)->kb P w H s₁.heap->(∀b,H b≠none->b=a)->(H a≠none->K.lookup a=none) ->
      gx (ba P w) mR (.call (.ref fa) ⟨[.ref a],[]⟩) (λr s'=>r=.ok (.ret (.bool true))/\OldK s₁.heap s'.heap/\s'.os=s₁.os/\AllBare s'.gens) s₁:=by
    intro H hO hS hok hA hK
    have qE:∀{b:ai} {o:dO},s₁.heap.get? b=some o->H b=none->(nV s₁.heap H).get? b=some o:=λe n=>znl e n
    have Gc:∀{b:ai} {o:dO} {es:Array DictEntry} {ep:Nat},s₁.heap.get? b=some o->o.data=.dict es ep->H b=none:=λ{b o es ep} e d=>by
      cases q:H b with
      |none=>rfl
      |some u=>
        have e':b=a:=hA b (by rw[q];simp)
        subst e'
        rw[ha]at e;cases e
        have d':jY.seq vs.toArray _=jY.dict es ep:=d
        cases d'
    have IL:∀{b:ai} {m:aR->Option af},s₁.heap.Ns b m->(nV s₁.heap H).Ns b m:=λ{b m} ⟨o,es,ep,e,d,r⟩=>⟨o,es,ep,qE e (Gc e d),d,r⟩
    have O7:K.In (nV s₁.heap H):=λb o e=>qE (KX b o e) (by
      cases q:H b with
      |none=>rfl
      |some u=>
        have e':b=a:=hA b (by rw[q];simp)
        subst e'
        rw[hK (by rw[q];simp)]at e;cases e)
    have hM:Mod K mg (nV s₁.heap H):=⟨O7,IL i7,⟨mb,IL hb,Vw⟩,let⟨mc,h1,h2⟩:=LW;⟨mc,IL h1,h2⟩⟩
    have e0:pM P w K mg (nV s₁.heap H) mR [] s₁ H:=⟨rfl,hM,λb o e=>zqk e,Nat.le_of_eq (zks _ _),trivial,λb hb=>absurd (show b∈([]:List ai)from hb) (by simp),hok,.of_eq hg⟩
    refine mS ((F _ O7 (IL i7)).run mR [] s₁ H ⟨[.ref a],[]⟩ [.ref a] [.ref a] _ _ hr e0 (Er s₁ (.ref a)) (.cons rfl .nil) (xF H hO hS)) λr s' h=>?_
    cases r with
    |error e=>exact(Ls H e s' h).elim
    |ok fl=>
      cases fl with
      |next=>exact False.elim h
      |brk=>exact False.elim h
      |cont=>exact False.elim h
      |ret u=>
        obtain⟨v,H',os,bare,un,LZ,r',q⟩:=h
        have q':v=.bl true:=q
        subst q'
        obtain rfl:u=af.bool true:=r'
        refine⟨rfl,OldK.of_keep λb o e=>?_,os,bare⟩
        cases q:H b with
        |none=>exact un.keep b o e q (by intro z;exact absurd (show b∈([]:List ai)from z) (by simp)) (by simp)
        |some u=>
          rcases hO b with z|⟨ob,xs,z⟩
          · rw[q]at z;cases z
          · have z2:=un.frzs b ob _ z
            obtain⟨e1,_⟩:=hok b _ z
            obtain⟨e2,_⟩:=LZ b _ z2
            rw[e]at e1;cases e1
            exact e2
  cases hk:K.lookup a with
  |some o=>
    have e:=KX a o hk
    rw[ha]at e
    cases e
    refine core (λ_=>none) (λ_=>.inl rfl) (.inr ⟨_,vs.toArray,_,hk,rfl,rfl,rfl,by rw[aK,Mj];exact hl,by simpa using rv⟩) (λb u z=>by have z':(none:Option HO)=some u:=z;cases z') (λb z=>absurd rfl z) λz=>absurd rfl z
  |none=>
    refine core (λb=>if b=a then some (.frz { cls:=.type "list",data:=.seq vs.toArray } (.lst (ns.map V.int)))else none) (λb=>?_) (.inl (.inr ⟨{ cls:=.type "list",data:=.seq vs.toArray },if_pos rfl⟩)) (λb u z=>?_) (λb z=>?_) λ_=>hk
    · by_cases hb:b=a
      · exact .inr ⟨_,_,if_pos hb⟩
      · exact .inl (if_neg hb)
    · by_cases hb:b=a
      · have z':=(if_pos hb).symm.trans z
        cases z'
        subst hb
        exact⟨ha,by rw[ay];exact hl,vs,_,rv,ha⟩
      · have z':=(if_neg hb).symm.trans z
        cases z'
    · by_cases hb:b=a
      · exact hb
      · exact absurd (if_neg hb) z
end L2
namespace L2
open PySem PySem.Spec PyProof.Rows
theorem walk_of {l:lf}{n k:Nat}{q:bx}{loose:List aR}{XP:(aR->Option af)->aX->Prop}{YP:bY->aX->Prop}{d:DefRec}{K:Params->ae}{CX:bY->sf}{sp:bY->Sp}{x:aR}
  (hn:l.most=some n) (xB:n<=sizeLine) (Eu:d.params.defaults=[]) (hr:eA k mR)
  (hY:∀(w:bY) (h:aX),YP w h->(K w.params).In h)
  (F:∀(w:bY) (mg:aR->Option af) (fa:ai) (h:aX),(K w.params).In h->h.Ns aq mg->mg d.name=some (.ref fa) ->
   ∃fd:aH,(∀(s:ak) (u:af),oH s fd ⟨[u],[]⟩ [(x,u)]) /\
    ∀base:aX,(K w.params).In base->base.Ns aq mg->cz l.prog w (K w.params) mg base (CX w) k fa fd [x] (sp w))
  (xF:∀(w:bY) (H:Hp) (a:ai) (ns:List Int),ns.length<=n->yE H->fm (K w.params) H a (ns.map V.int)->sp w [.ref a] H (λv _=>v=.bl true) λ_ _ _=>False)
  (Ls:∀(w:bY) (H:Hp) (s:ak) (e:af) (s':ak),CX w [] H s (λ_ _ _=>False) e s'->False) :
  sC q loose XP YP l.row.toRowW d [] (λf vs=>PySem.call f vs):=by
 refine Att.attach_call hn Eu λw s₀ s₁ mg mb fa o pm cd doc a vs ns G Y ho hd iL hmg Ar sU d9 hg=>?_
 have KX:=hY w _ Y
 obtain⟨fd,hb,hF⟩:=F w mg fa _ KX G.T.g hmg
 exact znx KX G.T.g G.T.b G.T.builtins G.T.nolimit hg Ar sU (cx d9 xB) hr hF hb (λH hO hS=>xF w H a ns d9 hO hS) λH e s'=>Ls w H s₁ e s'
end L2
namespace L2
open PySem PySem.Spec PyProof.Rows
def inClass (s:bR)(j:Nat):bR:=match s with
 |.ClassDef _ _ _ body _ _ _ _ _ _ _=>body.getD j (.Pass ⟨0,0,0,0⟩)
 |_=>.Pass ⟨0,0,0,0⟩
def lV (s:bR):Arguments:=match s with
  |.FunctionDef _ a _ _ _ _ _ _ _ _=>a
  |_=>{ posonlyargs:=[],args:=[],vararg:=none,kwonlyargs:=[],kw_defaults:=[],kwarg:=none,defaults:=[] }
def gH (s:bR):List bR:=match s with
 |.FunctionDef _ _ b _ _ _ _ _ _ _=>b
 |_=>[]
def aJ (s:bR):fW:=match s with
  |.FunctionDef _ _ _ _ _ _ sc _ _ _=>sc
  |_=>{ kind:=.function,names:=[],isGenerator:=false,isCoroutine:=false }
abbrev eJ:sf:=λ_ _ _ _ _ _=>False
abbrev E0:XK:=λ_ _ _=>False
theorem nH {X:Cx}:i8 eJ X E0:=λ_ _ _ _ _ _ _ h=>h.elim
section
variable {P:bx}{w:bY}{K:ae}{mg:aR->Option af}{base:aX}
end
theorem qQ {A:bT}{k:Nat}(hr:eA k A):A.units+1<fX:=kB (Nat.add_le_add_left (by decide:1<=64) _) hr.units
theorem rN {n:Nat}(h:n<=1000):n<sizeLine:=kB h (by decide)
section
variable {X:Cx}
end
def bQ (H H':Hp):Prop:=∀b o,H b=some o->H' b=some o
theorem bQ.refl (H:Hp):bQ H H:=λ_ _ h=>h
theorem bQ.trans {H H1 H2:Hp}(a:bQ H H1)(b:bQ H1 H2):bQ H H2:=λc o h=>b c o (a c o h)
theorem bQ.free {H H':Hp}(e:bQ H H'){l:ai}(h:H' l=Option.none):H l=Option.none:=by
 cases q:H l with
 |none=>rfl
 |some o=>
  rw[e l o q]at h
  cases h
theorem bQ.seq {K:ae}{H H':Hp}{a:ai}{xs:List V}(e:bQ H H')(h:fm K H a xs):fm K H' a xs:=by
 rcases h with(h|⟨o,h⟩)|h
 ·exact .inl (.inl (e _ _ h))
 ·exact .inl (.inr ⟨o,e _ _ h⟩)
 ·exact .inr h
end L2
namespace L2
open PySem PySem.Spec PyProof.Rows
section
variable {κ:Type}[DecidableEq κ]
def iB (cC:List (κ×V))(k:κ):Option V:=(cC.find? λkv=>decide (kv.1=k)).map (·.2)
def putK (cC:List (κ×V))(k:κ)(v:V):List (κ×V) :=
 if(cC.any λkv=>decide (kv.1=k))=true then cC.map (λkv=>if kv.1=k then(kv.1,v)else kv)else cC++[(k,v)]
theorem Np {p:κ×V}{r:List (κ×V)}{k:κ}(e:p.1=k):iB (p::r) k=some p.2:=by simp[iB,cY,e]
theorem Nx {p:κ×V}{r:List (κ×V)}{k:κ}(e:¬p.1=k):iB (p::r) k=iB r k:=by simp[iB,cY,e]
theorem RE (k:κ):∀cC:List (κ×V),(cC.any λkv=>decide (kv.1=k))=(iB cC k).isSome
 |[]=>rfl
 |p::r=>by
  rw[eM]
  by_cases e:p.1=k
  ·simp only[Np e,decide_eq_true e,Bool.true_or,Option.isSome_some]
  ·rw[Nx e,decide_eq_false e,Bool.false_or];exact RE k r
theorem QP (cC:List (κ×V))(k:κ)(v:V):(putK cC k v).length<=cC.length+1:=by
 unfold putK
 split
 ·rw[ay];omega
 ·rw[aW,aV,List.length_nil];omega
theorem iV.isSome_eq {o:Option V}{u:Option af}(r:iV o u):o.isSome=u.isSome:=by
 cases o with
 |none=>cases u with
  |none=>rfl
  |some _=>exact(show False from r).elim
 |some _=>cases u with
  |none=>exact(show False from r).elim
  |some _=>rfl
theorem iV.getD {o:Option V}{u:Option af}{d:V}{d':af}(r:iV o u)(rd:RelV d d'):RelV (o.getD d) (u.getD d'):=by
 cases o with
 |none=>cases u with
  |none=>exact rd
  |some _=>exact(show False from r).elim
 |some _=>cases u with
  |none=>exact(show False from r).elim
  |some _=>exact r
theorem KV.val {cC:List (κ×V)}{vs:List (κ×af)}(r:KV cC vs)(k:κ):iV (iB cC k) (mW vs k):=by
 unfold KV at r
 induction r with
 |nil=>exact True.intro
 |@cons p q ps qs h t ih=>
  obtain⟨h1,h2⟩:=h
  by_cases e:p.1=k
  ·have e':q.1=k:=h1.symm.trans e
   have b:mW (q::qs) k=some q.2:=by simp[mW,cY,e']
   rw[Np e,b];exact h2
  ·have e':¬q.1=k:=λz=>e (h1.trans z)
   have b:mW (q::qs) k=mW qs k:=by simp[mW,cY,e']
   rw[Nx e,b];exact ih
theorem KV.any {cC:List (κ×V)}{vs:List (κ×af)}(r:KV cC vs)(k:κ):(cC.any λkv=>decide (kv.1=k))=vs.any λkv=>decide (kv.1=k):=by
 unfold KV at r
 induction r with
 |nil=>rfl
 |cons h t ih=>rw[eM,eM,ih,h.1]
theorem KV.repl {cC:List (κ×V)}{vs:List (κ×af)}(r:KV cC vs)(k:κ){y:V}{u:af}(ry:RelV y u) :
  KV (cC.map λkv=>if kv.1=k then(kv.1,y)else kv) (vs.map λkv=>if kv.1=k then(kv.1,u)else kv):=by
 unfold KV at r ⊢
 induction r with
 |nil=>exact .nil
 |@cons p q ps qs h t ih=>
  rw[aM,aM]
  refine .cons ?_ ih
  obtain⟨h1,h2⟩:=h
  by_cases e:p.1=k
  ·rw[if_pos e,if_pos (h1.symm.trans e)];exact⟨h1,ry⟩
  ·rw[if_neg e,if_neg (λz=>e (h1.trans z))];exact⟨h1,h2⟩
theorem KV.put {cC:List (κ×V)}{vs:List (κ×af)}(r:KV cC vs)(k:κ){y:V}{u:af}(ry:RelV y u):KV (putK cC k y) (stored vs k u):=by
 unfold putK stored
 rw[r.any k]
 by_cases e:(vs.any λkv=>decide (kv.1=k))=true
 ·rw[if_pos e,if_pos e];exact r.repl k ry
 ·rw[if_neg e,if_neg e];exact Paired.snoc r ⟨rfl,ry⟩
theorem KV.length {cC:List (κ×V)}{vs:List (κ×af)}(r:KV cC vs):cC.length=vs.length:=Paired.length r
end
theorem BY {P:bx}{w:bY}{k:eX}{u:af}(r:RelV (kV k) u):(eD P w).is k u=true:=by
 cases k with
 |inl i=>obtain⟨t,e⟩:=(show∃t,u=af.int i t from r);subst e;exact ZG P w i t
 |inr x=>obtain⟨t,e⟩:=(show∃t,u=af.str x t from r);subst e;exact ZH P w x t
theorem Rm {P:bx}{w:bY}:∀{ks:List eX} {us:List af},bX (ks.map kV) us->ItemsAre (eD P w) ks us
 |[],_,r=>by rw[kI]at r;cases r;exact .nil
 |k::ks,_,r=>by
  rw[aM]at r
  cases r with
  |cons h t=>exact .cons (BY h) (Rm t)
abbrev KT (H:Hp):List (List eX×V)->List (List eX×ai×af)->Prop:=Paired λp q=>p.1=q.1/\H q.2.1=some (.tup (p.1.map kV))/\RelV p.2 q.2.2
theorem KT.val {H:Hp}{cC:List (List eX×V)}{xs:List (List eX×ai×af)}(r:KT H cC xs)(k:List eX):iV (iB cC k) ((pz xs k).map (·.2)):=by
 induction r with
 |nil=>exact True.intro
 |@cons p q ps qs h t ih=>
  obtain⟨h1,_,h2⟩:=h
  by_cases e:p.1=k
  ·have e':q.1=k:=h1.symm.trans e
   have b:pz (q::qs) k=some q.2:=by simp[pz,cY,e']
   rw[Np e,b];exact h2
  ·have e':¬q.1=k:=λz=>e (h1.trans z)
   have b:pz (q::qs) k=pz qs k:=by simp[pz,cY,e']
   rw[Nx e,b];exact ih
theorem KT.repl {H:Hp}{cC:List (List eX×V)}{xs:List (List eX×ai×af)}(r:KT H cC xs)(k:List eX){y:V}{u:af}(ry:RelV y u) :
  KT H (cC.map λkv=>if kv.1=k then(kv.1,y)else kv) (xs.map (putAt k u)):=by
 induction r with
 |nil=>exact .nil
 |@cons p q ps qs h t ih=>
  rw[aM,aM]
  refine .cons ?_ ih
  obtain⟨h1,h2,h3⟩:=h
  unfold putAt
  by_cases e:p.1=k
  ·rw[if_pos e,if_pos (h1.symm.trans e)];exact⟨h1,h2,ry⟩
  ·rw[if_neg e,if_neg (λz=>e (h1.trans z))];exact⟨h1,h2,h3⟩
theorem KT.put {H:Hp}{cC:List (List eX×V)}{xs:List (List eX×ai×af)}(r:KT H cC xs)(k:List eX){b:ai}{y:V}{u:af}(hb:H b=some (.tup (k.map kV)))(ry:RelV y u) :
  KT H (putK cC k y) (storedH xs k b u):=by
 have e:(cC.any λkv=>decide (kv.1=k))=(pz xs k).isSome:=by
  rw[RE,(r.val k).isSome_eq,ki]
 unfold putK storedH
 rw[e]
 by_cases q:(pz xs k).isSome=true
 ·rw[if_pos q,if_pos q];exact r.repl k ry
 ·rw[if_neg q,if_neg q];exact Paired.snoc r ⟨rfl,hb,ry⟩
theorem KT.keeps {H H':Hp}{cC:List (List eX×V)}{xs:List (List eX×ai×af)}(r:KT H cC xs)(ht:∀b ys,H b=some (.tup ys)->H' b=some (.tup ys)):KT H' cC xs :=
 Paired.mapP r λ_ _ z=>⟨z.1,ht _ _ z.2.1,z.2.2⟩
section
variable {P:bx}{w:bY}{H:Hp}{h:aX}{a:ai}
theorem Tr {u:HO}(ok:kb P w H h)(e:Rd H a u):dR P w H h a u:=e.ok ok
theorem xY {cC:List (eX×V)}(ok:kb P w H h)(e:Rd H a (.dK cC)):cC.length<=sizeLine/\(a==eQ)=false/\∃vs,KV cC vs/\h.DictOf (eD P w) a vs :=
 show dR P w H h a (.dK cC)from Tr ok e
theorem zvz {cC:List (eX×V)}(ok:kb P w H h)(e:H a=some (.dK cC)):cC.length<=sizeLine/\(a==eQ)=false/\∃vs,KV cC vs/\h.DictOf (eD P w) a vs:=xY ok (.inl e)
theorem BV {ks:List eX}(ok:kb P w H h)(e:H a=some (.tup (ks.map kV))):(kK (eD P w)).is h ks a:=by
 obtain⟨_,ce,r,o,h1,h2,n,h3⟩:=(show dR P w H h a (.tup (ks.map kV))from ok a _ e)
 exact⟨o,ce.toArray,n,h1,h2,h3,by simpa using Rm r⟩
theorem A9 {cC:List (List eX×V)}(ok:kb P w H h)(e:Rd H a (.dT cC)):cC.length<=sizeLine/\(a==eQ)=false /\
  ∃xs,KT H cC xs/\h.DictOfH (kK (eD P w)) a xs:=by
 obtain⟨z,y,xs,r,o,es,ep,h1,h2,h3,h4,h5⟩:=(show dR P w H h a (.dT cC)from Tr ok e)
 refine⟨z,y,xs,r,o,es,ep,h1,h2,h3,h4,λx hx=>?_,h5⟩
 have all:∀{l:List (List eX×V)} {m:List (List eX×ai×af)},KT H l m->∀x∈m,(kK (eD P w)).is h x.1 x.2.1:=by
  intro l m q
  induction q with
  |nil=>intro x hx;exact nomatch hx
  |@cons p q ps qs hq t ih=>
   intro x hx
   rcases aC.mp hx with e|hx
   ·subst e
    exact BV ok (by rw[←hq.1];exact hq.2.1)
   ·exact ih x hx
 exact all r x hx
theorem zv0 {cC:List (List eX×V)}(ok:kb P w H h)(e:H a=some (.dT cC)):cC.length<=sizeLine/\(a==eQ)=false /\
  ∃xs,KT H cC xs/\h.DictOfH (kK (eD P w)) a xs:=A9 ok (.inl e)
end
def jJ (H:Hp)(a:ai)(y:V)(r:Option V):Prop :=
 (∃cC k,Rd H a (.dK cC)/\y=kV k/\r=iB cC k)\/∃cC k b,Rd H a (.dT cC)/\y=.ref b/\H b=some (.tup (k.map kV))/\r=iB cC k
def m6 (H:Hp)(a:ai)(y v:V)(H':Hp):Prop :=
 (∃cC k,H a=some (.dK cC)/\y=kV k/\cC.length<sizeLine/\H'=upd H a (.dK (putK cC k v))) \/
 ∃cC k b,H a=some (.dT cC)/\y=.ref b/\H b=some (.tup (k.map kV))/\cC.length<sizeLine/\H'=upd H a (.dT (putK cC k v))
theorem jJ.k {H:Hp}{a:ai}{cC:List (eX×V)}{k:eX}(e:H a=some (.dK cC)):jJ H a (kV k) (iB cC k):=.inl ⟨cC,k,.inl e,rfl,rfl⟩
theorem jJ.t {H:Hp}{a b:ai}{cC:List (List eX×V)}{k:List eX}(e:H a=some (.dT cC))(eb:H b=some (.tup (k.map kV))):jJ H a (.ref b) (iB cC k):=.inr ⟨cC,k,b,.inl e,rfl,eb,rfl⟩
theorem m6.k {H:Hp}{a:ai}{cC:List (eX×V)}{k:eX}{v:V}(e:H a=some (.dK cC))(hl:cC.length<sizeLine):m6 H a (kV k) v (upd H a (.dK (putK cC k v))):=.inl ⟨cC,k,e,rfl,hl,rfl⟩
theorem m6.t {H:Hp}{a b:ai}{cC:List (List eX×V)}{k:List eX}{v:V}(e:H a=some (.dT cC))(eb:H b=some (.tup (k.map kV)))(hl:cC.length<sizeLine) :
  m6 H a (.ref b) v (upd H a (.dT (putK cC k v))):=.inr ⟨cC,k,b,e,rfl,eb,hl,rfl⟩
section
variable {X:Cx}{aj:List (ai×dO)}{σ:St}{H:Hp}{s:ak}{a:ai}{y v:V}{u r:af}{o:Option V}{A:bT}{E:af->ak->Prop}
theorem Inv.big (I:Inv X aj σ H s):eQ<s.heap.objs.size:=by
 have h:aq<s.heap.objs.size:=(I.mod.glob.keeps I.bk).lt
 exact Nat.lt_trans (by decide) h
theorem zlf {Q:af->ak->Prop}(hu:A.units+1<fX)(I:Inv X aj σ H s)(g:jJ H a y (some v))(ry:RelV y u)(h:∀w' s',Inv X aj σ H s'->RelV v w'->Q w' s') :
  bi (ba X.prog X.w) A (mT (.ref a) u) Q E s:=by
 rcases g with⟨cC,k,e,ey,l⟩|⟨cC,k,b,e,ey,eb,l⟩
 ·subst ey
  obtain⟨z,hd,vs,rel,dd⟩:=xY I.hok e
  obtain⟨w',hw,mL⟩:=iV.some_of (v:=v) (o:=mW vs k) (by rw[l];exact rel.val k)
  exact wpAny_getItem_of (BY ry) dd.mapOf hw (h w' _ (I.tok _) mL)
 ·subst ey
  cases(show u=af.ref b from ry)
  obtain⟨z,hd,xs,rel,dd⟩:=A9 I.hok e
  obtain⟨w',hw,mL⟩:=iV.some_of (v:=v) (o:=(pz xs k).map (·.2)) (by rw[l];exact rel.val k)
  obtain⟨p,hp,As⟩:=cU.mp hw
  refine wpAny_getItem_heap (fV hu) (BV I.hok eb) dd hp ?_
  rw[As]
  exact h w' _ (I.tok _) mL
theorem Kq {Q:af->ak->Prop}(hu:A.units+1<fX)(I:Inv X aj σ H s)(g:jJ H a y o)(ry:RelV y u)(h:∀s',Inv X aj σ H s'->Q (.bool o.isSome) s') :
  bi (ba X.prog X.w) A (cD .In u (.ref a)) Q E s:=by
 rcases g with⟨cC,k,e,ey,l⟩|⟨cC,k,b,e,ey,eb,l⟩
 ·subst ey
  obtain⟨z,hd,vs,rel,dd⟩:=xY I.hok e
  refine wpAny_in_of (BY ry) hd dd.mapOf ?_
  rw[←(rel.val k).isSome_eq,←l]
  exact h _ (I.tok _)
 ·subst ey
  cases(show u=af.ref b from ry)
  obtain⟨z,hd,xs,rel,dd⟩:=A9 I.hok e
  refine wpAny_in_heap (fV hu) (BV I.hok eb) hd dd ?_
  have q:=(rel.val k).isSome_eq
  rw[ki]at q
  rw[←q,←l]
  exact h _ (I.tok _)
theorem zq4 {Q:af->ak->Prop}(hu:A.units+1<fX)(I:Inv X aj σ H s)(g:jJ H a y o)(ry:RelV y u)(h:∀s',Inv X aj σ H s'->Q (.bool (!o.isSome)) s') :
  bi (ba X.prog X.w) A (cD .NotIn u (.ref a)) Q E s:=by
 rcases g with⟨cC,k,e,ey,l⟩|⟨cC,k,b,e,ey,eb,l⟩
 ·subst ey
  obtain⟨z,hd,vs,rel,dd⟩:=xY I.hok e
  refine wpAny_notIn_of (BY ry) hd dd.mapOf ?_
  rw[←(rel.val k).isSome_eq,←l]
  exact h _ (I.tok _)
 ·subst ey
  cases(show u=af.ref b from ry)
  obtain⟨z,hd,xs,rel,dd⟩:=A9 I.hok e
  refine wpAny_notIn_heap (fV hu) (BV I.hok eb) hd dd ?_
  have q:=(rel.val k).isSome_eq
  rw[ki]at q
  rw[←q,←l]
  exact h _ (I.tok _)
theorem Si {h':aX}{t':Nat}{ob:HO}(I:Inv X aj σ H s)(mu:B8 (H a))(hs:gM a s.heap h')(he:∃q,h'.get? a=some q)(new:dR X.prog X.w (upd H a ob) h' a ob) :
  Inv X aj σ (upd H a ob) { s with heap:=h',toks:=t' } :=
 I.write (x:=a) (e:=a) mu (.inl rfl) (λb q hb z=>(hs.2 b hb).trans z) he new
theorem zt5 {P:bx}{w:bY}{H':Hp}{h':aX}{cC:List (eX×V)}{vs:List (eX×af)}(z:cC.length<=sizeLine)(hd:(a==eQ)=false)(rel:KV cC vs)(dd:h'.DictOf (eD P w) a vs) :
  dR P w H' h' a (.dK cC):=⟨z,hd,vs,rel,dd⟩
theorem zlh {H':Hp}{Q:Unit->ak->Prop}(hu:A.units+1<fX)(I:Inv X aj σ H s)(g:m6 H a y v H')(ry:RelV y u)(rv:RelV v r)(h:∀s',Inv X aj σ H' s'->Q () s') :
  bi (ba X.prog X.w) A (mV (.ref a) u r) Q E s:=by
 rcases g with⟨cC,k,e,ey,l,eH⟩|⟨cC,k,b,e,ey,eb,l,eH⟩
 ·subst ey eH
  obtain⟨z,hd,vs,rel,dd⟩:=zvz I.hok e
  have hz:vs.length<=sizeLine:=by rw[←rel.length];exact z
  have hl:(putK cC k v).length<=sizeLine:=by have:=QP cC k v;omega
  refine wpAny_setItem_pairs (hsz:=hz) (BY ry) dd λh' Ig hs=>h _ ?_
  have he:∃q,h'.get? a=some q:=let⟨q,_,_,hq,_⟩:=Ig;⟨q,hq⟩
  exact Si I (by rw[e];exact True.intro) hs he (zt5 hl hd (rel.put k rv) Ig)
 ·subst ey eH
  cases(show u=af.ref b from ry)
  obtain⟨z,hd,xs,rel,dd⟩:=zv0 I.hok e
  have hz:xs.length<=sizeLine:=by rw[←Paired.length rel];exact z
  have hl:(putK cC k v).length<=sizeLine:=by have:=QP cC k v;omega
  refine wpAny_setItem_heap (hsz:=hz) (fV hu) (BV I.hok eb) dd λh' Ig hs=>h _ ?_
  obtain⟨q,es,ep,hq,h2,h3,h4,_,h5⟩:=Ig
  refine Si I (by rw[e];exact True.intro) hs ⟨q,hq⟩ ⟨hl,hd,_,(rel.put k eb rv).keeps λc ys ec=>?_,q,es,ep,hq,h2,h3,h4,h5⟩
  rw[yo (zvr ec e (λz=>nomatch z))]
  exact ec
end
section
variable {X:Cx}{aj:List (ai×dO)}{σ:St}{H:Hp}{s:ak}{a:ai}{cC:List (eX×V)}{k:eX}{u:af}{A:bT}{E:af->ak->Prop}
theorem zv1 {Q:af->ak->Prop}(I:Inv X aj σ H s)(e:Rd H a (.dK cC))(h:∀t s',Inv X aj σ H s'->Q (.int cC.length t) s'):bi (ba X.prog X.w) A (call (.builtin "len") [.ref a]) Q E s:=by
 obtain⟨z,hd,vs,rel,dd⟩:=xY I.hok e
 refine call_len_dict hd dd (by rw[←rel.length];rw[cH]at z;omega) ?_
 rw[←rel.length]
 exact h _ _ (I.tok _)
end
def yD (i:Expr):Prop:=∀ov iv,nO i false ov iv=operate [ov,iv] (mT ov iv)
theorem zq5 {prog:bx}{w:bY}{A:bT}{E:af->ak->Prop}{s:ak}{env:Env}{value slice:Expr}{pos:cW}{T id:String}{Q:af->ak->Prop}
  (hl:pD (.type T) "__getitem__"=pure (some (.builtin id))) (hs:yD slice)
  (h:bi (ba prog w) A (bF value env) (λo s₁=>bi (ba prog w) A (bF slice env) (λi s₂=>s₂.TypeIs o T/\bi (ba prog w) A (mT o i) Q E s₂) E s₁) E s) :
  bi (ba prog w) A (bF (.Subscript value slice pos) env) Q E s:=by
 refine Subscript_ (dM h (λo s₁ h₁=>dM h₁ (λi s₂ h₂=>?_) λ_ _ x=>x) λ_ _ x=>x)
 obtain⟨hT,h₂⟩:=h₂
 unfold subscriptTail
 refine aO ?_
 rw[getitemInPython_of_ne hT.not_modules]
 refine aO (oq hT hl ?_)
 have fin:bi (ba prog w) A (nO slice false o i) (λr s₃=>bi (ba prog w) A (letTemporaryGo value o r >>= λ_=>pure r) Q E s₃) E s₂:=by
  rw[hs o i]
  exact wpAny_operating (dM h₂ (λr s₃ h₃=>aO (wpAny_letTemporaryGo (bU h₃))) λ_ _ x=>x)
 first
  |exact bU (aO fin)
  |exact aO (bU (aO fin))
  |exact aO fin
theorem ZJ {X:Cx}{aj:List (ai×dO)}{σ:St}{H:Hp}{s:ak}{a:ai}{y:V}{o:Option V}(I:Inv X aj σ H s)(g:jJ H a y o):s.TypeIs (.ref a) "dict":=by
 rcases g with⟨cC,k,e,_,_⟩|⟨cC,k,b,e,_,_,_⟩
 ·obtain⟨_,_,vs,_,dd⟩:=xY I.hok e
  exact dd.typeIs
 ·obtain⟨_,_,xs,_,dd⟩:=A9 I.hok e
  exact dd.typeIs
def Hf (td ty:TE):TE:=λσ H Q=>td σ H λx H1=>ty σ H1 λy H2=>∃a v,x=.ref a/\jJ H2 a y (some v)/\Q v H2
def MF (ty td:TE):TE:=λσ H Q=>ty σ H λy H1=>td σ H1 λx H2=>∃a o,x=.ref a/\jJ H2 a y o/\Q (.bl o.isSome) H2
def vP (ty td:TE):TE:=λσ H Q=>ty σ H λy H1=>td σ H1 λx H2=>∃a o,x=.ref a/\jJ H2 a y o/\Q (.bl (!o.isSome)) H2
def G9 (td ty tv:TE):TS:=λD σ H=>tv σ H λv H1=>td σ H1 λx H2=>ty σ H2 λy H3=>∃a H4,x=.ref a/\m6 H3 a y v H4/\D.nx σ H4
section
variable {X:Cx}{o i e value:Expr}{pos pos' gc:cW}{td ty tv:TE}
theorem zq6 (hu:X.A.units+1<fX)(ho:PE X o td)(hi:PE X i ty)(hs:yD i):PE X (.Subscript o i pos) (Hf td ty):=by
 intro aj s σ H Q I h
 refine zq5 PySem.F.slot_dict_getitem.lookup hs (di (ho aj s σ H _ I h) λu s1 ⟨x,H1,I1,rx,q1⟩=>di (hi aj s1 σ H1 _ I1 q1) λiv s2 ⟨y,H2,I2,ry,a,v,ex,g,q2⟩=>?_)
 subst ex
 obtain rfl:u=af.ref a:=rx
 exact⟨ZJ I2 g,zlf hu I2 g ry λw' s3 I3 mL=>⟨v,H2,I3,mL,q2⟩⟩
theorem zt6 (hu:X.A.units+1<fX)(hi:PE X i ty)(ho:PE X o td):PC X .In i o (MF ty td):=by
 intro aj s σ H Q I h
 refine di (hi aj s σ H _ I h) λiv s1 ⟨y,H1,I1,ry,q1⟩=>di (ho aj s1 σ H1 _ I1 q1) λu s2 ⟨x,H2,I2,rx,a,ov,ex,g,q2⟩=>?_
 subst ex
 obtain rfl:u=af.ref a:=rx
 exact Kq hu I2 g ry λs3 I3=>⟨.bl ov.isSome,H2,I3,rfl,q2⟩
theorem zli (hu:X.A.units+1<fX)(hi:PE X i ty)(ho:PE X o td):PC X .NotIn i o (vP ty td):=by
 intro aj s σ H Q I h
 refine di (hi aj s σ H _ I h) λiv s1 ⟨y,H1,I1,ry,q1⟩=>di (ho aj s1 σ H1 _ I1 q1) λu s2 ⟨x,H2,I2,rx,a,ov,ex,g,q2⟩=>?_
 subst ex
 obtain rfl:u=af.ref a:=rx
 exact zq4 hu I2 g ry λs3 I3=>⟨.bl (!ov.isSome),H2,I3,rfl,q2⟩
theorem Sj (hu:X.A.units+1<fX)(ho:PE X o td)(hi:PE X i ty)(hv:PE X value tv)(hs:dW value (some (.Subscript o i pos')) pos.line X.env=pure false) :
  PS X (.Assign [.Subscript o i pos'] value pos) (G9 td ty tv):=by
 intro aj s σ H D I h
 refine wpAny_Assign_Subscript (di (hv aj s σ H _ I h) λr s1 ⟨v,H1,I1,rv,q1⟩=>di (ho aj s1 σ H1 _ I1 q1) λu s2 ⟨x,H2,I2,rx,q2⟩=>di (hi aj s2 σ H2 _ I2 q2) λiv s3 ⟨y,H3,I3,ry,a,H4,ex,g,q3⟩=>?_) hs
 subst ex
 obtain rfl:u=af.ref a:=rx
 exact zlh hu I3 g ry rv λs4 I4=>⟨σ,H4,I4,q3⟩
end
theorem zny {P:bx}{w:bY}{H:Hp}(h:aX)(hb:eQ<h.objs.size):dR P w H (h.push { cls:=.type "dict",data:=.dict #[] }) h.objs.size (.dK []) :=
  ⟨cK _,beq_eq_false_iff_ne.mpr (Ne.symm (br hb)),[],.nil,aX.DictOf.new h⟩
theorem znz {P:bx}{w:bY}{H:Hp}(h:aX)(hb:eQ<h.objs.size):dR P w H (h.push { cls:=.type "dict",data:=.dict #[] }) h.objs.size (.dT []) :=
  ⟨cK _,beq_eq_false_iff_ne.mpr (Ne.symm (br hb)),[],.nil,_,#[],0,bB _ rfl,⟨rfl,rfl,rfl⟩,rfl,rfl,bA⟩
def AW:TE:=λ_ H Q=>∀p,H p=none->Q (.ref p) (upd H p (.dK []))
def AX:TE:=λ_ H Q=>∀p,H p=none->Q (.ref p) (upd H p (.dT []))
section
variable {X:Cx}{pos:cW}
theorem zn0:PE X (.Dict [] [] pos) AW:=λaj s σ H Q I h=>
 wpAny_Dict_empty ⟨.ref s.heap.objs.size,_,I.laid (a:=s.heap.objs.size) (o:=.dK []) (t':=s.toks) (λ_ _ q=>aD _ q) (aF _) (zny s.heap I.big),rfl,h _ (I.hok.fresh (aF _))⟩
theorem zn1:PE X (.Dict [] [] pos) AX:=λaj s σ H Q I h=>
 wpAny_Dict_empty ⟨.ref s.heap.objs.size,_,I.laid (a:=s.heap.objs.size) (o:=.dT []) (t':=s.toks) (λ_ _ q=>aD _ q) (aF _) (znz s.heap I.big),rfl,h _ (I.hok.fresh (aF _))⟩
end
structure M1 (X:Cx)(o:Expr)(m:aR)(dB:cW)(e:Expr)(dP:cW):Prop where
 base:er o m X.env (bF o X.env)=bF o X.env
 few:((cy dP (ao [e] X.env)).all (λx=>!x.1)&&(eU dP (dh [] X.env)).all (λx=>x.1.isSome)
  && decide (([e]:List Expr).length+([]:List fS).length+(if([]:List fS).isEmpty then 0 else 1)<30))=true
 line:(dB.endLine==dP.line)=true
 trees:cy dP (ao [e] X.env)=[(false,bF e X.env)]
def HU (H:Hp)(a:ai):Prop:=(∃cC,Rd H a (.dK cC))\/∃cC,Rd H a (.dT cC)
theorem zt7 {X:Cx}{aj:List (ai×dO)}{σ:St}{H:Hp}{s:ak}{a:ai}(I:Inv X aj σ H s)(d:HU H a) :
  s.TypeIs (.ref a) "dict"/\(∀b,af.ref a=.ref b->∃ob,s.heap.get? b=some ob/\ob.dict=none)/\(a==eQ)=false:=by
 rcases d with⟨cC,e⟩|⟨cC,e⟩
 ·obtain⟨_,hd,vs,_,dd⟩:=xY I.hok e
  refine⟨dd.typeIs,λb q=>?_,hd⟩
  cases q
  obtain⟨ob,_,_,h1,h2,_⟩:=dd
  exact⟨ob,h1,h2.2.1⟩
 ·obtain⟨_,hd,xs,_,dd⟩:=A9 I.hok e
  refine⟨dd.typeIs,λb q=>?_,hd⟩
  cases q
  obtain⟨ob,_,_,h1,h2,_⟩:=dd
  exact⟨ob,h1,h2.2.1⟩
section
variable {X:Cx}{aj:List (ai×dO)}{σ:St}{H:Hp}{s:ak}{a:ai}{y d:V}{u r:af}{o:Option V}{A:bT}{E:af->ak->Prop}
theorem zt8 {Q:af->ak->Prop}(hu:A.units+1<fX)(I:Inv X aj σ H s)(g:jJ H a y o)(ry:RelV y u)(h:∀w' s',Inv X aj σ H s'->RelV (o.getD .non) w'->Q w' s') :
  bi (ba X.prog X.w) A (call (.builtin "dict.get") [.ref a,u]) Q E s:=by
 rcases g with⟨cC,k,e,ey,l⟩|⟨cC,k,b,e,ey,eb,l⟩
 ·subst ey
  obtain⟨z,hd,vs,rel,dd⟩:=xY I.hok e
  refine call_meetsIn PySem.F.slot_dict_get dd.typeIs PySem.F.entry_dict_get (PySem.F.args_dict_get_2 _ _) (meets_dict_get (eD X.prog X.w) a (BY ry) hd) ⟨_,dd.mapOf,h _ _ (I.tok _) ?_⟩
  rw[l]
  exact(rel.val k).getD rfl
 ·subst ey
  cases(show u=af.ref b from ry)
  obtain⟨z,hd,xs,rel,dd⟩:=A9 I.hok e
  refine call_meetsIn PySem.F.slot_dict_get dd.typeIs PySem.F.entry_dict_get (PySem.F.args_dict_get_2 _ _) (meetsH_dict_get (kK (eD X.prog X.w)) a b hd) ⟨fV hu,k,xs,BV I.hok eb,dd,h _ _ (I.tok _) ?_⟩
  rw[l]
  exact(rel.val k).getD rfl
end
def AV (td ty:TE):TE:=λσ H Q=>td σ H λx H1=>∃a,x=.ref a/\HU H1 a/\ty σ H1 λy H2=>∃o,jJ H2 a y o/\Q (o.getD .non) H2
section
variable {X:Cx}{o e f:Expr}{dB dP:cW}{td ty tx:TE}
theorem zn2 (hu:X.A.units+1<fX)(ho:PE X o td)(he:PE X e ty)(m:M1 X o "get" dB e dP):PE X (.Call (.Attribute o "get" dB) [e] [] dP) (AV td ty):=by
 intro aj s σ H Q I h
 refine wpAny_Call_method m.base m.few m.line PySem.F.plainAttrs_dict PySem.F.slot_dict_get PySem.F.type_dict_get (di (ho aj s σ H _ I h) λu s1 ⟨x,H1,I1,rx,a,ex,d,q1⟩=>?_)
 subst ex
 obtain rfl:u=af.ref a:=rx
 obtain⟨t1,t2,_⟩:=zt7 I1 d
 refine⟨t1,t2,?_⟩
 rw[m.trees]
 refine Calls.callWith_builtin rfl (Calls.evalArgs_plain (Calls.spliced_cons (di (he aj s1 σ H1 _ I1 q1) λiv s2 ⟨y,H2,I2,ry,ov,g,q2⟩=>Calls.spliced_nil ?_)))
 exact zt8 hu I2 g ry λw' s3 I3 mL=>⟨_,H2,I3,mL,q2⟩
end
section
variable {X:Cx}{aj:List (ai×dO)}{σ:St}{H:Hp}{s:ak}{a:ai}{cC:List (eX×V)}{A:bT}{E:af->ak->Prop}
end
section
variable {X:Cx}{aj:List (ai×dO)}{σ:St}{H:Hp}{s:ak}{a:ai}{y:V}{u:af}{A:bT}{E:af->ak->Prop}
end
end L2
namespace L2
open PySem PySem.Spec PyProof.Rows
section
variable {X:Cx}
theorem zlk:eF X (.builtin "len") (λxs H Q=>∃a cC,xs=[V.ref a]/\H a=some (.dK cC)/\Q (.int cC.length) H):=by
 intro aj s σ H xs us Q I r h
 obtain⟨a,cC,rfl,ha,q⟩:=h
 obtain⟨u,rfl,ru⟩:=mO r
 cases ru
 exact zv1 I (.inl ha) λt s' I'=>⟨.int cC.length,H,I',⟨t,rfl⟩,q⟩
end
end L2
namespace L2
open PySem
section
variable {κ:Type}[DecidableEq κ]
end
end L2
namespace L2
open PySem PySem.Spec PyProof.Rows
def Sz (n:Nat)(i:Int):Prop:=i.natAbs<2 ^ n
theorem Sz.bits {n:Nat}{i:Int}(h:Sz n i):fE.Int.intBits i<=n:=by
 unfold fE.Int.intBits
 by_cases h0:(i==0)=true
 ·rw[if_pos h0];exact cK _
 ·rw[if_neg h0]
  have hi:i.natAbs≠0:=by
   have:i≠0:=by simpa using h0
   omega
  exact Nat.succ_le_of_lt ((mm hi).mpr h)
theorem Sz.log {n:Nat}{i:Int}(h:Sz n i)(hn:0<n):i.natAbs.log2<n:=by
 by_cases hi:i.natAbs=0
 ·rw[hi];exact hn
 ·exact(mm hi).mpr h
theorem Sz.mono {n m:Nat}{i:Int}(h:Sz n i)(hm:n<=m):Sz m i:=bn h (dz (by decide) hm)
theorem Sz.le {n:Nat}{i j:Int}(h:Sz n i)(hj:j.natAbs<=i.natAbs):Sz n j:=kB hj h
theorem Sz.mul {n m:Nat}{i j:Int}(h:Sz n i)(h':Sz m j):Sz (n+m) (i*j):=by
 unfold Sz at *
 rw[wH,Nat.pow_add]
 exact Nat.mul_lt_mul'' h h'
theorem Sz.add {n:Nat}{i j:Int}(h:Sz n i)(h':Sz n j):Sz (n+1) (i+j):=by
 unfold Sz at *
 rw[la]
 omega
def nv (i j:Int):Prop:=yA i j\/(Sz 100000 i/\Sz 100000 j)
theorem nv.ok {i j:Int}(h:nv i j):IntMulOk i j:=by
 rcases h with h|h
 ·exact h.ok
 ·exact IntMulOk.of_bits (cx h.1.bits (by decide)) (cx h.2.bits (by decide))
section
variable {X:Cx}
theorem xv:gw X (d5 .Mult) (rI nv λi j=>.int (i*j)):=Bx λ_ _ _ _ _ _ _ hc q=>mul_int q hc.ok
theorem ve:gw X (d5 .FloorDiv) (rI (λ_ j=>j≠0/\Sz 9000 j) λi j=>.int (i.fdiv j)) :=
 Bx λ_ _ _ _ _ _ _ hc q=>floordiv_int hc.1 q (.inl (PyProof.noPylong_of_log2 (hc.2.log (by decide))))
theorem RelV.bool_iff {x:V}{v:af}{b:Bool}(r:RelV x v):(v==af.bool b)=decide (x=.bl b):=by
 cases x with
 |bl c=>
  cases(show v=af.bool c from r)
  by_cases h:c=b
  ·subst h;simp
  ·have h1:¬V.bl c=V.bl b:=λz=>h (V.bl.inj z)
   rw[decide_eq_false h1]
   exact beq_eq_false_iff_ne.mpr λz=>h (by injection z)
 |non=>cases(show v=af.none from r);rw[decide_eq_false (λz=>nomatch z)];exact beq_eq_false_iff_ne.mpr λz=>nomatch z
 |int i=>obtain⟨t,rfl⟩:=(show∃t,v=af.int i t from r);rw[decide_eq_false (λz=>nomatch z)];exact beq_eq_false_iff_ne.mpr λz=>nomatch z
 |str i=>obtain⟨t,rfl⟩:=(show∃t,v=af.str i t from r);rw[decide_eq_false (λz=>nomatch z)];exact beq_eq_false_iff_ne.mpr λz=>nomatch z
 |byt i=>obtain⟨t,rfl⟩:=(show∃t,v=af.bytes i t from r);rw[decide_eq_false (λz=>nomatch z)];exact beq_eq_false_iff_ne.mpr λz=>nomatch z
 |flt i=>obtain⟨t,rfl⟩:=(show∃t,v=af.float i t from r);rw[decide_eq_false (λz=>nomatch z)];exact beq_eq_false_iff_ne.mpr λz=>nomatch z
 |ref i=>cases(show v=af.ref i from r);rw[decide_eq_false (λz=>nomatch z)];exact beq_eq_false_iff_ne.mpr λz=>nomatch z
 |ty i=>cases(show v=af.type i from r);rw[decide_eq_false (λz=>nomatch z)];exact beq_eq_false_iff_ne.mpr λz=>nomatch z
theorem QG {x:V}{v:af}{b:Bool}(r:RelV x v):plainIs v (.bool b)=true:=by
 cases x with
 |bl c=>cases(show v=af.bool c from r);rfl
 |non=>cases(show v=af.none from r);rfl
 |int i=>obtain⟨t,rfl⟩:=(show∃t,v=af.int i t from r);rfl
 |str i=>obtain⟨t,rfl⟩:=(show∃t,v=af.str i t from r);rfl
 |byt i=>obtain⟨t,rfl⟩:=(show∃t,v=af.bytes i t from r);rfl
 |flt i=>obtain⟨t,rfl⟩:=(show∃t,v=af.float i t from r);rfl
 |ref i=>cases(show v=af.ref i from r);rfl
 |ty i=>cases(show v=af.type i from r);rfl
theorem zt9:gw X (cD .Is) (λx y H Q=>∃b,y=.bl b/\Q (.bl (decide (x=.bl b))) H):=by
 intro aj s σ H x y v u Q I rx ry h
 obtain⟨b,rfl,q⟩:=h
 cases ry
 exact wpAny_is_plain (QG rx) (JL I q (RelV.bool_iff rx).symm)
theorem zll:gw X (cD .IsNot) (λx y H Q=>∃b,y=.bl b/\Q (.bl (!decide (x=.bl b))) H):=by
 intro aj s σ H x y v u Q I rx ry h
 obtain⟨b,rfl,q⟩:=h
 cases ry
 exact wpAny_isNot_plain (QG rx) (JL I q (by rw[RelV.bool_iff rx]))
theorem zn3:eF X (.builtin "isinstance") (λxs H Q=>∃x c t b,xs=[x,.ty c]/\jV X.K H x t/\bP X.K t (.type c)=some b/\Q (.bl b) H):=by
 intro aj s σ H xs us Q I r h
 obtain⟨x,c,t,b,rfl,ty,e,q⟩:=h
 obtain⟨u,w',rfl,ru,mL⟩:=vals2 r
 cases(show w'=af.type c from mL)
 exact Rc I ru ty e λtk=>⟨.bl b,H,I.tok tk,rfl,q⟩
theorem zlm:eF X (.builtin "isinstance") (λxs H Q=>∃x C t b,xs=[x,.ref C]/\jV X.K H x t/\bP X.K t (.ref C)=some b/\Q (.bl b) H):=by
 intro aj s σ H xs us Q I r h
 obtain⟨x,c,t,b,rfl,ty,e,q⟩:=h
 obtain⟨u,w',rfl,ru,mL⟩:=vals2 r
 cases(show w'=af.ref c from mL)
 exact Rc I ru ty e λtk=>⟨.bl b,H,I.tok tk,rfl,q⟩
end
mutual
inductive Dt (K:ae)(H:Hp):V->ej->Prop
 |non:Dt K H .non .none
 |bl (b:Bool):Dt K H (.bl b) (.bool b)
 |int (i:Int):Dt K H (.int i) (.int i)
 |str (x:aR):Dt K H (.str x) (.str x)
 |lst {a:ai} {xs:List V} {ds:List ej}:fm K H a xs->Dts K H xs ds->Dt K H (.ref a) (.list ds)
 |tup {a:ai} {xs:List V} {ds:List ej}:kn K H a xs->Dts K H xs ds->Dt K H (.ref a) (.tuple ds)
inductive Dts (K:ae)(H:Hp):List V->List ej->Prop
 |nil:Dts K H [] []
 |cons {v:V} {d:ej} {vs:List V} {ds:List ej}:Dt K H v d->Dts K H vs ds->Dts K H (v::vs) (d::ds)
end
section
variable {X:Cx}{aj:List (ai×dO)}{σ:St}{H:Hp}{s:ak}
mutual
theorem Dt.reads (I:Inv X aj σ H s):∀{v:V} {d:ej} {u:af},Dt X.K H v d->RelV v u->∃as,Reads s.heap u d as
 |_,_,_,.non,r=>by cases r;exact⟨_,.none⟩
 |_,_,_,.bl b,r=>by cases r;exact⟨_,.bool b⟩
 |_,_,_,.int i,r=>by obtain⟨t,rfl⟩:=r;exact⟨_,.int i t⟩
 |_,_,_,.str x,r=>by obtain⟨t,rfl⟩:=r;exact⟨_,.str x t⟩
 |_,_,_,.lst hq ds,r=>by
  obtain⟨ce,rv,⟨o,n,e,c,_,dd⟩,_⟩:=I.list hq
  obtain⟨as,ra⟩:=Dts.reads I ds rv
  cases r
  exact⟨_,.list e c dd (by simpa using ra)⟩
 |_,_,_,.tup hq ds,r=>by
  obtain⟨ce,rv,⟨o,e,c,n,dd⟩,_⟩:=I.tuple hq
  obtain⟨as,ra⟩:=Dts.reads I ds rv
  cases r
  exact⟨_,.tuple e c dd (by simpa using ra)⟩
theorem Dts.reads (I:Inv X aj σ H s):∀{vs:List V} {ds:List ej} {us:List af},Dts X.K H vs ds->bX vs us->∃as,ReadsAll s.heap us ds as
 |_,_,_,.nil,r=>by cases r;exact⟨_,.nil⟩
 |_,_,_,.cons h t,r=>by
  cases r with
  |cons p q=>
   obtain⟨as,ra⟩:=Dt.reads I h p
   obtain⟨bs,rb⟩:=Dts.reads I t q
   exact⟨_,.cons ra rb⟩
end
end
section
variable {X:Cx}
def AN (K:ae)(neg:Bool):R2:=λx y H Q=>∃d e,Dt K H x d/\Dt K H y e/\d.canLay0=true/\e.canLay0=true/\min d.depth e.depth<=60/\Q (.bl (if neg then !ej.eqv d e else ej.eqv d e)) H
theorem j5 (hu:X.A.units+64<fX):gw X (cD .Eq) (AN X.K false):=by
 intro aj s σ H x y v u Q I rx ry h
 obtain⟨d,e,hd,he,c1,c2,dp,q⟩:=h
 obtain⟨as,ra⟩:=hd.reads I rx
 obtain⟨bs,rb⟩:=he.reads I ry
 exact SeqAt.compareEq_reads ra rb c1 c2 (by omega) ⟨.bl _,H,I,rfl,q⟩
theorem Te (hu:X.A.units+64<fX):gw X (cD .NotEq) (AN X.K true):=by
 intro aj s σ H x y v u Q I rx ry h
 obtain⟨d,e,hd,he,c1,c2,dp,q⟩:=h
 obtain⟨as,ra⟩:=hd.reads I rx
 obtain⟨bs,rb⟩:=he.reads I ry
 exact SeqAt.compareNe_reads ra rb c1 c2 (by omega) ⟨.bl _,H,I,rfl,q⟩
theorem Dts.ints (K:ae)(H:Hp):∀ns:List Int,Dts K H (ns.map V.int) (ns.map ej.int)
 |[]=>.nil
 |n::r=>.cons (.int n) (Dts.ints K H r)
end
theorem HC {H:Hp}{p:ai}(h:H p=none)(o:HO):bQ H (upd H p o):=λb u q=>by rw[yo (xr q h)];exact q
theorem eA.u64 {k:Nat}{A:bT}(r:eA k A):A.units+64<fX:=r.units
theorem small {n:Nat}(h:n<=1000):n<=sizeLine:=kY (rN h)
end L2
namespace L2
open PySem PySem.Spec PyProof.Rows
end L2
namespace L2
open PySem PySem.Spec PyProof.Rows
end L2
namespace L2
open PySem
theorem zua:bS "int"=some (.type "int"):=by decide +kernel
theorem SY:bS "str"=some (.type "str"):=by decide +kernel
theorem zq7:bS "bool"=some (.type "bool"):=by decide +kernel
theorem BL:bS "list"=some (.type "list"):=by decide +kernel
theorem zub:bS "len"=some (.builtin "len"):=by decide +kernel
theorem zuc:bS "abs"=some (.builtin "abs"):=by decide +kernel
theorem SZ:bS "max"=some (.builtin "max"):=by decide +kernel
theorem HK:bS "sum"=some (.builtin "sum"):=by decide +kernel
theorem Qz:bS "isinstance"=some (.builtin "isinstance"):=by decide +kernel
theorem zln:bS "sorted"=some (.builtin "sorted"):=by decide +kernel
theorem zud:bS "all"=some (.builtin "all"):=by decide +kernel
end L2
namespace L2
open PySem PySem.Spec PyProof.Rows
section
variable {prog:bx}{w:bY}{A:bT}{R:Result->ak->Prop}{s:ak}
theorem QH {jG target iter:Expr}{ifs:List Expr}{scope:fW}{pos:cW}{it gY:af}{env:Env}(I:Nat->ak->Prop)
  (cj:∀n s,I n s->bi (ba prog w) A (pyNext it) (λr s₁=>match r with
   |none=>R (.ok .next) s₁
   |some v=>bi (ba prog w) A (hJ target it v) (λ_ Qi=>bi (ba prog w) A (gI target env v) (λ_ s₂=>
     bi (ba prog w) A (forIn ifs true λc r=>if r=true then do let ok ← rY c env (bF c env);pure (ForInStep.yield ok)else pure (ForInStep.yield r)) (λok s₃=>
      if ok=true then bi (ba prog w) A (bF jG env) (λx s₄=>
       bi (ba prog w) A (call (.builtin "list.append") [gY,x]) (λ_ s₅=>∃m,m<n/\I m s₅) (λ_ _=>False) s₄) (λ_ _=>False) s₃
      else∃m,m<n/\I m s₃) (λ_ _=>False) s₂) (λ_ _=>False) Qi) (λ_ _=>False) s₁) (λ_ _=>False) s)
  (n:Nat) (h:I n s) :
  gx (ba prog w) A (.compLoop (.ListComp jG [⟨target,iter,ifs,0⟩] scope pos) 0 it gY env) R s:=by
 have up:∀{α:Type} {m:oI α} {Q:α->ak->Prop} {E:af->ak->Prop} {s:ak},bi (ba prog w) A m Q (λ_ _=>False) s->bi (ba prog w) A m Q E s:=λh=>dM h (λ_ _ q=>q) λ_ _ f=>f.elim
 refine codeAny_loop rfl I (λn s hI=>?_) n h
 show bi _ A ((compTurn (.ListComp jG [⟨target,iter,ifs,0⟩] scope pos) 0 it gY env).onRaise (λx=>do noteFrame x env;theTreesLotGoes x)) _ _ s
 refine wpAny_noted ?_
 rw[compTurn_list]
 refine aO (lM (aO (dM (up (cj n s hI)) (λr s₁ h₁=>?_) λ_ _ h'=>h')))
 cases r with
 |none=>exact bU h₁
 |some v=>
  refine aO (dM (up h₁) (λ_ Qi Wb=>?_) λ_ _ h'=>h')
  refine aO (dM (up Wb) (λ_ s₂ h₂=>aO (dM (up h₂) (λok s₃ h₃=>?_) λ_ _ h'=>h')) λ_ _ h'=>h')
  cases ok with
  |false=>exact bU ⟨rfl,h₃⟩
  |true=>
   exact aO (aO (dM (up h₃) (λx s₄ h₄=>aO (dM (up h₄) (λ_ s₅ h₅=>bU (bU ⟨rfl,h₅⟩)) λ_ _ h'=>h')) λ_ _ h'=>h'))
end
theorem IX {env:Env}:∀(names:List (aR×bq)) (gY:List (aR×ai)),(∀x∈names,x.2=.free->∃c,env.cells.lookup x.1=some c)->(∀y c,gY.lookup y=some c->env.cells.lookup y=some c) ->
  ∃cl,(forIn names gY λ(x:aR×bq) (cs:List (aR×ai))=>if(x.2==bq.free)=true then do let a ← cellOf env x.1;pure (ForInStep.yield ((x.1,a)::cs))else pure (ForInStep.yield cs):oI (List (aR×ai)))=pure cl /\
   (∀y c,cl.lookup y=some c->env.cells.lookup y=some c)/\(∀x∈names,x.2=.free->∃c,cl.lookup x.1=some c)/\∀y c,gY.lookup y=some c->∃c',cl.lookup y=some c'
 |[],gY,_,ha=>⟨gY,rfl,ha,λ_ h=>(nomatch h),λy c h=>⟨c,h⟩⟩
 |(n,k)::r,gY,hn,ha=>by
  by_cases hk:k=.free
  ·subst hk
   obtain⟨c,hc⟩:=hn (n,.free) aa rfl
   have e1:cellOf env n=pure c:=by unfold cellOf;rw[hc]
   have Iq:∀y d,((n,c)::gY).lookup y=some d->env.cells.lookup y=some d:=λy d h=>by
    rw[bo]at h
    cases hy:y==n with
    |true=>
     rw[hy]at h
     have:y=n:=eq_of_beq hy
     subst this
     cases h
     exact hc
    |false=>rw[hy]at h;exact ha y d h
   obtain⟨cl,h1,h2,h3,h4⟩:=IX r ((n,c)::gY) (λx hx=>hn x (ah _ hx)) Iq
   refine⟨cl,?_,h2,?_,?_⟩
   ·rw[mj]
    simp only[beq_self_eq_true,if_true,e1,pure_bind]
    exact h1
   ·intro x hx hf
    rcases aC.mp hx with rfl|hx
    ·exact h4 n c (by rw[bo,beq_self_eq_true])
    ·exact h3 x hx hf
   ·intro y d hy
    cases hb:y==n with
    |true=>exact h4 y c (by rw[bo,hb])
    |false=>exact h4 y d (by rw[bo,hb];exact hy)
  ·have hb:(k==bq.free)=false:=by simpa using hk
   obtain⟨cl,h1,h2,h3,h4⟩:=IX r gY (λx hx=>hn x (ah _ hx)) ha
   refine⟨cl,?_,h2,?_,h4⟩
   ·rw[mj]
    simp only[hb,df,if_false,pure_bind]
    exact h1
   ·intro x hx hf
    rcases aC.mp hx with rfl|hx
    ·exact absurd hf hk
    ·exact h3 x hx hf
theorem Jx (n:Nat)(a:aR)(r:List (aR×bq))(gY:List (aR×ai)):cellsFrom n ((a,.cell)::r) gY=cellsFrom (n+1) r ((a,n)::gY):=rfl
theorem JN {k:bq}(hk:k≠.cell)(n:Nat)(a:aR)(r:List (aR×bq))(gY:List (aR×ai)):cellsFrom n ((a,k)::r) gY=cellsFrom n r gY:=by
 cases k<;>first|rfl|exact absurd rfl hk
def jA (names:List (aR×bq)):Nat:=(names.filter λy=>y.2==bq.cell).length
theorem NM (a:aR)(r:List (aR×bq)):jA ((a,.cell)::r)=jA r+1:=by unfold jA;rw[oj (by rfl),aV]
theorem S1 {k:bq}(hk:k≠.cell)(a:aR)(r:List (aR×bq)):jA ((a,k)::r)=jA r:=by unfold jA;rw[oh (by simpa using hk)]
theorem BZ:∀(names:List (aR×bq)) (n:Nat) (gY:List (aR×ai)) {x:aR} {c:Nat},(cellsFrom n names gY).lookup x=some c->(n<=c/\c<n+jA names/\(x,bq.cell)∈names)\/(gY.lookup x=some c/\(x,bq.cell)∉names)
 |[],_,_,_,_,h=>.inr ⟨h,by simp⟩
 |(a,k)::r,n,gY,x,c,h=>by
  by_cases hk:k=.cell
  ·subst hk
   rw[Jx]at h
   rcases BZ r (n+1) _ h with⟨h1,h2,h3⟩|⟨h1,h2⟩
   ·refine .inl ⟨by omega,?_,ah _ h3⟩
    rw[NM];omega
   ·rw[bo]at h1
    cases hx:x==a with
    |true=>
     rw[hx]at h1
     cases h1
     refine .inl ⟨aF _,?_,by rw[eq_of_beq hx];exact aa⟩
     rw[NM];omega
    |false=>
     rw[hx]at h1
     refine .inr ⟨h1,λz=>?_⟩
     rcases aC.mp z with z|z
     ·cases z;simp at hx
     ·exact h2 z
  ·rw[JN hk]at h
   have hf:=S1 hk a r
   rw[hf]
   rcases BZ r n _ h with⟨h1,h2,h3⟩|⟨h1,h2⟩
   ·exact .inl ⟨h1,h2,ah _ h3⟩
   ·refine .inr ⟨h1,λz=>?_⟩
    rcases aC.mp z with z|z
    ·cases z;exact hk rfl
    ·exact h2 z
theorem N6:∀(names:List (aR×bq)) (n:Nat) (gY:List (aR×ai)) {x:aR},(x,bq.cell)∉names->(cellsFrom n names gY).lookup x=gY.lookup x
 |[],_,_,_,_=>rfl
 |(a,k)::r,n,gY,x,h=>by
  have hr:(x,bq.cell)∉r:=λz=>h (ah _ z)
  by_cases hk:k=.cell
  ·subst hk
   rw[Jx,N6 r _ _ hr,bo]
   cases hx:x==a with
   |true=>exact absurd (by rw[eq_of_beq hx];exact aa) h
   |false=>rfl
  ·rw[JN hk,N6 r _ _ hr]
theorem N7:∀(names:List (aR×bq)) (n:Nat) (gY:List (aR×ai)),(∀x y c,gY.lookup x=some c->gY.lookup y=some c->x=y)->(∀x c,gY.lookup x=some c->c<n)->∀x y c,(cellsFrom n names gY).lookup x=some c->(cellsFrom n names gY).lookup y=some c->x=y
 |[],_,_,h,_=>h
 |(a,k)::r,n,gY,h,hb=>by
  by_cases hk:k=.cell
  ·subst hk
   rw[Jx]
   refine N7 r (n+1) _ (λx y c e e'=>?_) λx c e=>?_
   ·rw[bo]at e e'
    cases hx:x==a with
    |true=>
     rw[hx]at e
     cases e
     cases hy:y==a with
     |true=>rw[eq_of_beq hx,eq_of_beq hy]
     |false=>rw[hy]at e';exact absurd (hb _ _ e') (eh _)
    |false=>
     rw[hx]at e
     cases hy:y==a with
     |true=>rw[hy]at e';cases e';exact absurd (hb _ _ e) (eh _)
     |false=>rw[hy]at e';exact h x y c e e'
   ·rw[bo]at e
    cases hx:x==a with
    |true=>rw[hx]at e;cases e;exact iO _
    |false=>rw[hx]at e;exact eS (hb _ _ e)
  ·rw[JN hk]
   exact N7 r n gY h hb
theorem Nb {M:Model}{A:bT}{E:af->ak->Prop}:∀(names:List (aR×bq)) (cells:List (aR×ai)) (s:ak) (Q:List (aR×ai)->ak->Prop),
    (∀h':aX,(∀b o,s.heap.get? b=some o->h'.get? b=some o)->(∀c,s.heap.objs.size<=c->c<s.heap.objs.size+jA names->h'.IsCell c none)->Q (cellsFrom s.heap.objs.size names cells) { s with heap:=h' }) ->
    bi M A (forIn names cells λ(x:aR×bq) (cells:List (aR×ai))=>if(x.2==bq.cell)=true then do let a ← alloc { cls:=af.type "cell",data:=jY.cell none };pure (ForInStep.yield ((x.1,a)::cells))else pure (ForInStep.yield cells)) Q E s
  |[],cells,s,Q,h=>by
    have:=h s.heap (λ_ _ e=>e) (λc h1 h2=>by rw[show jA []=0 from rfl]at h2;omega)
    rw[uF]
    exact bU this
  |(a,k)::r,cells,s,Q,h=>by
    rw[mj]
    by_cases hk:k=.cell
    · subst hk
      simp only[beq_self_eq_true,if_true,bind_assoc,pure_bind]
      refine aO (wpAny_alloc ?_)
      have ih:=Nb (M:=M) (A:=A) (E:=E) r ((a,s.heap.objs.size)::cells) { s with heap:=s.heap.push { cls:=af.type "cell",data:=jY.cell none } } Q (λh' k1 k2=>by
        have hz:(s.heap.push { cls:=af.type "cell",data:=jY.cell none }).objs.size=s.heap.objs.size+1:=fQ _ _
        have:=h h' (λb o e=>k1 b o (aD _ e)) (λc h1 h2=>by
          rw[NM]at h2
          by_cases hc:c=s.heap.objs.size
          · subst hc
            exact⟨_,k1 _ _ (bB _ rfl),rfl⟩
          · exact k2 c (by show(s.heap.push _).objs.size<=c;rw[hz];omega) (by show c<(s.heap.push _).objs.size+_;rw[hz];omega))
        rw[Jx]at this
        have e:(({ s with heap:=s.heap.push { cls:=af.type "cell",data:=jY.cell none } }:ak)).heap.objs.size=s.heap.objs.size+1:=hz
        rw[e]
        exact this)
      exact ih
    · have hb:(k==bq.cell)=false:=by simpa using hk
      simp only[hb,df,if_false,pure_bind]
      refine Nb r cells s Q λh' k1 k2=>?_
      have hf:=S1 hk a r
      have:=h h' k1 (by rw[hf];exact k2)
      rw[JN hk]at this
      exact this
theorem QI {M:Model}{A:bT}{E:af->ak->Prop}{s:ak}{scope:fW}{globals:ai}{closure:List (aR×ai)}{qual:aR}{code:af}{out:Env}{builtins:ai}{Q:Env->ak->Prop}
    (h:∀h':aX,(∀b o,s.heap.get? b=some o->h'.get? b=some o)->h'.Ns s.heap.objs.size (λ_=>none)->(∀c,s.heap.objs.size+1<=c->c<s.heap.objs.size+1+jA scope.names->h'.IsCell c none) ->
      Q (newEnv scope s.heap.objs.size globals (cellsFrom (s.heap.objs.size+1) scope.names closure) qual none code (some out) builtins) { s with heap:=h' }) :
    bi M A (kC scope globals closure [] qual none code (some out) builtins) Q E s:=by
  unfold kC
  refine aO (wpAny_alloc ?_)
  have hz:(s.heap.push { cls:=af.type "dict",data:=jY.dict #[] }).objs.size=s.heap.objs.size+1:=fQ _ _
  refine aO (Nb scope.names closure { s with heap:=s.heap.push { cls:=af.type "dict",data:=jY.dict #[] } } _ λh' k1 k2=>?_)
  have Pw:(({ s with heap:=s.heap.push { cls:=af.type "dict",data:=jY.dict #[] } }:ak)).heap.objs.size=s.heap.objs.size+1:=hz
  rw[Pw]at k2 ⊢
  dsimp only
  rw[uF]
  refine aO (bU (bU ?_))
  exact h h' (λb o e=>k1 b o (aD _ e)) ((aX.Ns.new s.heap _).keeps k1) k2
def iD (X:Cx)(scope:fW)(cl:List (aR×ai))(N:List aR)(C:ai)(fp:List ai)(s₀:ak)(H₀:Hp):Cx :=
 { X with N:=N,s₀:=s₀,H₀:=H₀,env:=pB scope cl C X.env,outer:=X.stack,stack:=X.stack,ex:=fp,fn:=λx=>scope.names.lookup x==some .cell,pn:=[],xe:=λ_ _=>False }
structure kj (X:Cx)(scope:fW)(N:List aR)(own:Nat)(cap:List Nat):Prop where
 kind:scope.kind=.function
 cells:∀x∈scope.names,x.2=.cell->scope.names.lookup x.1=some .cell
 locs:∀x∈scope.names,x.2=.local->scope.names.lookup x.1=some .local
 free:∀x∈scope.names,x.2=.free->X.env.kindOf x.1=some .cell\/X.env.kindOf x.1=some .free
 len:N.length=own+cap.length
 caps:∀(j:Nat) (x:aR),N[own+j]?=some x->∃i,cap[j]?=some i/\X.N[i]?=some x/\(scope.names.lookup x=some .free)
theorem IY {α β:Type}[BEq α][LawfulBEq α]{x:α}{y:β}:∀{l:List (α×β)},l.lookup x=some y->(x,y)∈l
 |[],h=>by simp at h
 |(a,b)::r,h=>by
  rw[bo]at h
  cases hb:x==a with
  |true=>rw[hb]at h;cases h;rw[eq_of_beq hb];exact aa
  |false=>rw[hb]at h;exact ah _ (IY h)
theorem QB {env:Env}{x:aR}:∀{names:List (aR×bq)},names.lookup x=some .free ->
  (names.map λ(n,k)=>if(k==bq.free&&env.scope.kind==.function&&env.kindOf n==some .cell)then(n,bq.cell)else(n,k)).lookup x=some .cell \/
  (names.map λ(n,k)=>if(k==bq.free&&env.scope.kind==.function&&env.kindOf n==some .cell)then(n,bq.cell)else(n,k)).lookup x=some .free
 |[],h=>by simp at h
 |(n,k)::r,h=>by
  rw[bo]at h
  rw[aM]
  cases hx:x==n with
  |true=>
   rw[hx]at h
   cases h
   by_cases hc:(bq.free==bq.free&&env.scope.kind==.function&&env.kindOf n==some .cell)=true
   ·left
    simp only[hc,if_true,bo,hx]
   ·right
    simp only[hc,if_false,bo,hx,df]
  |false=>
   rw[hx]at h
   rcases QB (env:=env) h with q|q
   ·left
    by_cases hc:(k==bq.free&&env.scope.kind==.function&&env.kindOf n==some .cell)=true
    ·simp only[hc,if_true,bo,hx];exact q
    ·simp only[hc,if_false,bo,hx,df];exact q
   ·right
    by_cases hc:(k==bq.free&&env.scope.kind==.function&&env.kindOf n==some .cell)=true
    ·simp only[hc,if_true,bo,hx];exact q
    ·simp only[hc,if_false,bo,hx,df];exact q
theorem QA {env:Env}{x:aR}:∀{names:List (aR×bq)},((names.map λ(n,k)=>if(k==bq.free&&env.scope.kind==.function&&env.kindOf n==some .cell)then(n,bq.cell)else(n,k)).lookup x=some .cell \/
  (names.map λ(n,k)=>if(k==bq.free&&env.scope.kind==.function&&env.kindOf n==some .cell)then(n,bq.cell)else(n,k)).lookup x=some .free)->(x,bq.free)∈names\/(x,bq.cell)∈names
 |[],h=>by simp at h
 |(n,k)::r,h=>by
  rw[aM]at h
  cases hx:x==n with
  |true=>
   have e:x=n:=eq_of_beq hx
   by_cases hc:(k==bq.free&&env.scope.kind==.function&&env.kindOf n==some .cell)=true
   ·have:k=.free:=by
     rw[bK,bK]at hc
     exact eq_of_beq hc.1.1
    left
    rw[e,this];exact aa
   ·simp only[hc,if_false,bo,hx,df]at h
    rcases h with h|h
    ·cases h;right;rw[e];exact aa
    ·cases h;left;rw[e];exact aa
  |false=>
   refine(QA (env:=env) (names:=r) ?_).imp (ah _) (ah _)
   by_cases hc:(k==bq.free&&env.scope.kind==.function&&env.kindOf n==some .cell)=true
   ·simpa only[hc,if_true,bo,hx]using h
   ·simpa only[hc,if_false,bo,hx,df]using h
def fZ (σ:St)(cap:List Nat):St:=cap.map λi=>(σ[i]?).join
theorem zki {σ:St}{cap:List Nat}{j i:Nat}{v:V}(hj:cap[j]?=some i)(h:(fZ σ cap)[j]?=some (some v)):σ[i]?=some (some v):=by
 unfold fZ at h
 rw[aQ,hj]at h
 cases e:σ[i]? with
 |none=>rw[rW,e]at h;cases h
 |some o=>
  rw[rW,e]at h
  cases o with
  |none=>cases h
  |some u=>exact h
section
variable {X:Cx}{aj:List (ai×dO)}{σ:St}{H:Hp}{s:ak}
theorem Rn {scope:fW}{cl:List (aR×ai)}{N:List aR}{own:Nat}{cap:List Nat}{fp:List ai}{h₁:aX}{t':Nat}{m₀:aR->Option af}(B:kj X scope N own cap)(I:Inv X aj σ H s)
    (c1:∀y c,cl.lookup y=some c->X.env.cells.lookup y=some c) (c2:∀x∈scope.names,x.2=.free->∃c,cl.lookup x.1=some c)
    (hf:∀b∈fp,kl X aj H b) (Ph:∀b∈fp,b<s.heap.objs.size) (i7:h₁.Ns s.heap.objs.size m₀) (k:∀b o,s.heap.get? b=some o->h₁.get? b=some o)
    (Ak:∀c,s.heap.objs.size+1<=c->c<s.heap.objs.size+1+jA scope.names->h₁.IsCell c none) :
    Inv (iD X scope (cellsFrom (s.heap.objs.size+1) scope.names cl) N s.heap.objs.size fp s H) [] (aA own none++fZ σ cap) H { s with heap:=h₁,toks:=t' } :=
  have low:∀x c,cl.lookup x=some c->c<s.heap.objs.size:=λx c e=>by
    obtain⟨v,o,q,_⟩:=I.cell x c (c1 x c e)
    exact aP q
  { ok:={
      mod:=I.mod
      kind:=B.kind
      glob:=I.ok.glob
      blt:=I.ok.blt
      above:=aF _
      inj:=N7 _ _ _ (λx y c e e'=>I.ok.inj x y c (c1 x c e) (c1 y c e')) λx c e=>eS (low x c e)
      has:=λx hx=>by
        refine m5.mp (iC scope.names _ _ ?_)
        rcases QA hx with q|q
        · right
          obtain⟨c,e⟩:=c2 _ q rfl
          rw[e];rfl
        · exact .inl (B.cells _ q rfl)
      cab:=λx c e e'=>by
        have hx:scope.names.lookup x=some .cell:=eq_of_beq e
        rcases BZ _ _ _ e' with⟨h1,_⟩|⟨_,h2⟩
        · exact kZ h1
        · exact absurd (IY hx) h2
      hd:=I.ok.hd
      frames:=I.ok.frames
      stk:=.inl rfl
      exf:=λb hb=>⟨br (Ph b hb),λx c e=>by
        rcases BZ _ _ _ e with⟨h1,_⟩|⟨h1,_⟩
        · exactλz=>absurd (Ph b hb) (by rw[←z];exact Nat.not_lt.mpr (kZ h1))
        · exact(hf b hb).2.2.2.2.1 x c (c1 x c h1)⟩
      bs:=I.bs
      bsz:=cx I.ok.bsz I.sz
      noex:=λb o e hb=>by
        rcases(hf b hb).2.2.2.1 with q|q
        · exact I.ok.noex b o e q
        · exact absurd (bn (aP e) I.ok.bsz) (Nat.not_lt.mpr q)
      exfs:=λb hb hz=>by
        rcases aC.mp (I.stkSub b hz)with q|q
        · exact(hf b hb).2.1 q
        · exact(hf b hb).2.2.1 q
      funs:=I.stack
      frf:=I.stkFree }
    os:=rfl
    bare:=I.bare
    base:=Un.kept k
    loc:=by
      refine⟨m₀,i7,λi x v hN hσ hv=>?_⟩
      by_cases hi:i<own
      · rw[cu (by rw[de];exact hi),fL,if_pos hi]at hσ
        cases hσ
      · obtain⟨j,rfl⟩:∃j,i=own+j:=⟨i-own,by omega⟩
        obtain⟨i',e1,e2,e3⟩:=B.caps j x hN
        rw[gX (by rw[de];omega),de,Nat.add_sub_cancel_left]at hσ
        have AC:=zki e1 hσ
        have hk:=B.free (x,.free) (IY e3) rfl
        obtain⟨m,hm,hl⟩:=I.loc
        obtain⟨u,ru,hu⟩:=hl i' x v e2 AC (.inr hk)
        refine⟨u,ru,?_⟩
        rcases hu with⟨q,_⟩|⟨_,c,hc,ic⟩
        · rcases hk with hk|hk
          · rw[hk]at q;cases q
          · rw[hk]at q;cases q
        · obtain⟨c',wX⟩:=c2 (x,.free) (IY e3) rfl
          have ec:=c1 x c' wX
          rw[hc]at ec
          cases ec
          have hn:(x,bq.cell)∉scope.names:=λz=>by
            have:=B.cells _ z rfl
            rw[e3]at this
            cases this
          exact .inr ⟨QB e3,c,by show(cellsFrom _ _ _).lookup x=_;rw[N6 _ _ _ hn];exact wX,ic.keeps k⟩
    cell:=λx c e=>by
      rcases BZ _ _ _ e with⟨h1,h2,_⟩|⟨h1,_⟩
      · exact⟨none,Ak c h1 h2⟩
      · obtain⟨v,q⟩:=I.cell x c (c1 x c h1)
        exact⟨v,q.keeps k⟩
    free:=I.hok.fresh (aF _)
    freeC:=λx c e=>by
      rcases BZ _ _ _ e with⟨h1,_⟩|⟨h1,_⟩
      · exact I.hok.fresh (kZ h1)
      · exact I.freeC x c (c1 x c h1)
    pin:=λp hp=>(nomatch hp)
    hok:=I.hok.kept k
    len:=by
      show(aA own none++fZ σ cap).length=N.length
      rw[aW,de,B.len]
      unfold fZ
      rw[ay] }
end
def vR:TT:=λ_ H Q=>Q true H
def wN (X:Cx)(ifs:List Expr)(t:TT):Prop :=
 ∀(aj:List (ai×dO)) (s:ak) (σ:St) (H:Hp) (Q:Bool->Hp->Prop),Inv X aj σ H s->t σ H Q ->
  bi (ba X.prog X.w) X.A (forIn ifs true λc r=>if r=true then do let ok ← rY c X.env (bF c X.env);pure (ForInStep.yield ok)else pure (ForInStep.yield r)) (TP X aj σ Q) X.xe s
theorem zq8 {X:Cx}:wN X [] vR:=λ_ _ _ H _ I h=>wpAny_tests_nil ⟨H,I,h⟩
theorem zq9 {X:Cx}{c:Expr}{t:TT}(h:PT X c t):wN X [c] t:=λaj s σ H Q I q=>wpAny_tests_one (h aj s σ H Q I q)
def qO (wi:TI)(own:Nat)(cap:List Nat)(g:TG)(tt:TT)(te:TE):TE:=λσ H Q=>wi σ H λJ H1=>∀D,H1 D=none->∃W:Nat->Nat->List V->Hp->Prop,(∃m,W 0 m [] (upd H1 D (.lst []))) /\
 ∀i m ys H2,W i m ys H2->H2 D=some (.lst ys)/\((J.stop i H2/\Q (.ref D) H2)\/(J.go i H2/\ys.length<sizeLine/\∀x H3,J.yld i H2 x H3->g x (aA own none++fZ σ cap) H3 λσ2 H4=>tt σ2 H4 λb H5=>
  if b=true then te σ2 H5 λy H6=>H6 D=some (.lst ys)/\∃m',m'<m/\W (i+1) m' (ys++[y]) (upd H6 D (.lst (ys++[y])))else∃m',m'<m/\W (i+1) m' ys H5))
def ga (own:Nat)(g:TG):Prop:=∀v σ H Q,g v σ H Q->g v σ H λσ' H'=>Q σ' H'/\σ'.length = σ.length/\∀i,own<=i->σ'[i]? = σ[i]?
theorem zkj (i own:Nat)(h:i<own):ga own (qG i):=λv σ H Q q=>⟨q,by rw[tU],λj hj=>by rw[cO (by omega)]⟩
theorem zra {X:Cx}{jG iter tg:Expr}{ifs:List Expr}{scope:fW}{pos:cW}{N:List aR}{own:Nat}{cap:List Nat}{wi:TI}{g:TG}{tt:TT}{te:TE}(B:kj X scope N own cap)(hc:X.calm=true)(hi:PI X tg iter wi)
    (kg:ga own g)
    (hg:∀cl C fp s₀ H₀,PG (iD X scope cl N C fp s₀ H₀) tg g) (ht:∀cl C fp s₀ H₀,wN (iD X scope cl N C fp s₀ H₀) ifs tt) (he:∀cl C fp s₀ H₀,PE (iD X scope cl N C fp s₀ H₀) jG te)
    (hs:∀x,dJ iter X.env x=pure x:=by intro _;rfl):PE X (.ListComp jG [⟨tg,iter,ifs,0⟩] scope pos) (qO wi own cap g tt te):=by
  intro aj s σ H Q I h
  obtain⟨cl,Aj,c1,c2,_⟩:=IX (env:=X.env) scope.names [] (λx hx hf=>I.ok.has x.1 (B.free x hx hf)) (λy c e=>by simp at e)
  have sR:pA scope X.env=pure cl:=by
    have e:pA scope X.env=(forIn scope.names ([]:List (aR×ai)) (λ(x:aR×bq) (cs:List (aR×ai))=>if(x.2==bq.free)=true then do let a ← cellOf X.env x.1;pure (ForInStep.yield ((x.1,a)::cs))else pure (ForInStep.yield cs)) >>= pure:oI (List (aR×ai))):=rfl
    rw[e,Aj]
    rfl
  rw[eval_ListComp]
  refine wpAny_comprehension_free (use:=none) rfl hs sR B.kind B.locs (di (hi aj s σ H _ I h) λv s1 h1=>di h1 λIJ s2 h2=>?_)
  obtain⟨it,fp,tn,J,H2,e,I2,T,uA,f2,W0⟩:=h2
  subst e
  obtain⟨W,⟨m0,w0⟩,cj⟩:=W0 s2.heap.objs.size (I2.hok.fresh (aF _))
  refine mX ?_
  have I3:Inv X aj σ (upd H2 s2.heap.objs.size (.lst [])) { s2 with heap:=s2.heap.push { cls:=.type "list",data:=.seq ([]:List af).toArray } }:=I2.lnew .nil (cK _)
  generalize EV:({ s2 with heap:=s2.heap.push { cls:=.type "list",data:=.seq ([]:List af).toArray } }:ak)=s3 at I3
  have k3:∀b o,s2.heap.get? b=some o->s3.heap.get? b=some o:=λb o e=>by rw[←EV];exact aD _ e
  have z3:s3.heap.objs.size=s2.heap.objs.size+1:=by rw[←EV];exact fQ _ _
  have pW:∀b∈fp,b<s2.heap.objs.size:=λb hb=>by
    obtain⟨o,e,_⟩:=T.obj _ _ uA b hb
    exact aP e
  have kr:∀b∈fp,b≠s2.heap.objs.size:=λb hb=>br (pW b hb)
  have f3:∀b∈fp,kl X aj (upd H2 s2.heap.objs.size (.lst [])) b:=λb hb=>⟨by rw[yo (kr b hb)];exact(f2 b hb).1,(f2 b hb).2⟩
  have IS:tn 0 s3.heap:=T.keep _ _ _ uA λb _ o e=>k3 b o e
  show bi _ _ (kC scope X.env.globals cl [] X.env.qual none .none (some X.env)) _ _ _
  refine QI λh₁ kk Ap Am=>?_
  have IB:=Rn (t':=s3.toks) B I3 c1 c2 f3 (λb hb=>by rw[z3];exact eS (pW b hb)) Ap kk Am
  generalize cellsFrom (s3.heap.objs.size+1) scope.names cl=cl at IB ⊢
  generalize L6:({ s3 with heap:=h₁,toks:=s3.toks }:ak)=s4 at IB
  have Hq:tn 0 s4.heap:=T.keep _ _ _ IS λb _ o e=>by rw[←L6];exact kk b o e
  show gx (ba X.prog X.w) X.A (.compStart (.ListComp jG [⟨tg,iter,ifs,0⟩] scope pos) 0 (.ref it) (.ref s2.heap.objs.size) (pB scope cl s3.heap.objs.size X.env))
      (pC (ba X.prog X.w) X.A X.xe none (EP X aj σ Q) (.ref s2.heap.objs.size) s3.heap.objs.size) s4
  have mN:∀{H':Hp},(∀b∈fp,H' b=none)->∀b∈fp,kl (iD X scope cl N s3.heap.objs.size fp s3 (upd H2 s2.heap.objs.size (.lst []))) [] H' b:=λhn b hb=>
    ⟨hn b hb,br (by show b<s3.heap.objs.size;rw[z3];exact eS (pW b hb)),IB.ok.exfs b hb,.inl hb,λx c e=>(IB.ok.exf b hb).2 x c e,λp hp=>(nomatch hp)⟩
  have loop:gx (ba X.prog X.w) X.A (.compLoop (.ListComp jG [⟨tg,iter,ifs,0⟩] scope pos) 0 (.ref it) (.ref s2.heap.objs.size) (pB scope cl s3.heap.objs.size X.env))
      (pC (ba X.prog X.w) X.A X.xe none (EP X aj σ Q) (.ref s2.heap.objs.size) s3.heap.objs.size) s4:=by
    refine QH (λn s'=>∃i ys H',Inv (iD X scope cl N s3.heap.objs.size fp s3 (upd H2 s2.heap.objs.size (.lst []))) [] (aA own none++fZ σ cap) H' s'/\tn i s'.heap/\(∀b∈fp,H' b=none)/\W i n ys H') ?_ m0
      ⟨0,[],_,IB,Hq,λb hb=>(f3 b hb).1,w0⟩
    rintro n s5 ⟨i,ys,H5,I5,vO,Ac,w5⟩
    obtain⟨hD,Bp⟩:=cj i n ys H5 w5
    rcases Bp with⟨stop,qn⟩|⟨go,ie,step⟩
    · refine di (T.done (iD X scope cl N s3.heap.objs.size fp s3 (upd H2 s2.heap.objs.size (.lst []))) rfl rfl rfl hc i [] s5 _ H5 (λ_ _=>False) I5 (mN Ac) vO stop) λr s6 ⟨hr,I6⟩=>?_
      subst hr
      obtain⟨m,hm,_⟩:=id I6.loc
      refine⟨m,hm,λh' sb=>⟨.ref s2.heap.objs.size,H5,?_,rfl,qn⟩⟩
      have U:=I6.base
      have nC:∀b o,s3.heap.get? b=some o->b≠s3.heap.objs.size:=λb o e=>br (aP e)
      have nT:∀b o,H5 b=some o->b≠s3.heap.objs.size:=λb o e z=>by
        have q:H5 s3.heap.objs.size=none:=I6.free
        rw[z,q]at e
        cases e
      refine I3.call' (ch:=fp) I6.os ?_ (λa o e=>(I6.hok a o e).stay (λb u hb q=>sb.extBut b u ?_ q) (λ_ q=>q) λ_ _ q=>q) I6.bare (λb hb=>⟨(f3 b hb).2.2.2.1,(f3 b hb).2.1,(f3 b hb).2.2.2.2.1,(f3 b hb).2.2.2.2.2⟩)
      · exact{
          keep:=λb o e z hb he=>sb.extBut b o (nC b o e) (U.keep b o e z hb he)
          slot:=λb o e z hb he=>by
            obtain⟨sl,q⟩:=U.slot b o e z hb he
            exact⟨sl,sb.extBut b _ (nC b o e) q⟩
          free:=U.free
          there:=λb o e he=>by
            obtain⟨o',q⟩:=U.there b o e he
            exact⟨o',sb.extBut b o' (nC b o e) q⟩
          tups:=U.tups
          frzs:=U.frzs
          tbls:=U.tbls }
      · rcases hb with rfl|hb
        · exact nT _ _ e
        · exact nT _ _ hb
    · refine di (T.item (iD X scope cl N s3.heap.objs.size fp s3 (upd H2 s2.heap.objs.size (.lst []))) rfl rfl rfl hc i [] s5 _ H5 (λ_ _=>False) I5 (mN Ac) vO go) λr s6 ⟨u,hr,h6⟩=>?_
      subst hr
      refine di h6 λ_ s7 ⟨x,H7,I7,r7,y7,AT,Lh⟩=>?_
      have J4:=I7.pinned (mN Lh) (T.obj _ _ AT)
      refine di (hg cl s3.heap.objs.size fp s3 _ _ s7 _ H7 x u _ J4 r7 (kg _ _ _ _ (step x H7 y7))) λ_ s8 ⟨σ8,H8,I8,q8,l8,p8⟩=>?_
      have back:∀{H9:Hp} {s9:ak},Inv (iD X scope cl N s3.heap.objs.size fp s3 (upd H2 s2.heap.objs.size (.lst []))) ([]++kR fp s7.heap) σ8 H9 s9 ->
          Inv (iD X scope cl N s3.heap.objs.size fp s3 (upd H2 s2.heap.objs.size (.lst []))) [] (aA own none++fZ σ cap) H9 s9/\tn (i+1) s9.heap/\∀b∈fp,H9 b=none:=λ{H9 s9} I9=>by
        refine⟨(I9.unpinned).weak l8.symm (λj v e=>?_),T.keep _ _ _ AT λb hb o e=>(I9.pin (b,o) (aw _ (aw _ (jk hb e)))).1,λb hb=>?_⟩
        · by_cases hj:j<own
          · rw[cu (by rw[de];exact hj),fL,if_pos hj]at e
            cases e
          · rw[p8 j (by omega)];exact e
        · obtain⟨o,e,d⟩:=T.obj _ _ AT b hb
          exact(I9.pin (b,o) (aw _ (aw _ (jk hb e)))).2.1
      refine di (ht cl s3.heap.objs.size fp s3 _ _ s8 σ8 H8 _ I8 q8) λok s9 ⟨H9,I9,q9⟩=>?_
      cases ok with
      |false=>
        rw[if_neg aU]
        rw[if_neg aU]at q9
        obtain⟨m',Ao,w'⟩:=q9
        obtain⟨b1,b2,b3⟩:=back I9
        exact⟨m',Ao,i+1,ys,H9,b1,b2,b3,w'⟩
      |true=>
        rw[if_pos rfl]
        rw[if_pos rfl]at q9
        refine di (he cl s3.heap.objs.size fp s3 _ _ s9 σ8 H9 _ I9 q9) λuy MA ⟨y,B4,J2,r10,Ae,m',Ao,w'⟩=>?_
        refine di (Jc _ MA σ8 B4 (.ref s2.heap.objs.size) [y] (.ref s2.heap.objs.size) [uy] (λ_ B5=>B5=upd B4 s2.heap.objs.size (.lst (ys++[y]))) J2 rfl (.cons r10 .nil) ⟨_,ys,y,rfl,rfl,Ae,ie,rfl⟩) λ_ X7 ⟨_,B5,J3,_,Ku⟩=>?_
        subst Ku
        obtain⟨b1,b2,b3⟩:=back J3
        exact⟨m',Ao,i+1,ys++[y],_,b1,b2,b3,w'⟩
  exact codeAny_compStart_list loop (T.self X.A 0 s4 _ _ Hq loop)
end L2
namespace L2
open PySem PySem.Spec PyProof.Rows
section
variable {X:Cx}{aj:List (ai×dO)}{σ:St}{H:Hp}{s:ak}{h':aX}
theorem Inv.turnLay {ch:List ai}{a:ai}{o:HO}{t':Nat}(I:Inv X aj σ H s)(ko:∀b∈ch,kl X aj H b)(k:∀b o,b∉ch->s.heap.get? b=some o->h'.get? b=some o)(hp:s.heap.objs.size<=a)
  (new:dR X.prog X.w (upd H a o) h' a o):Inv X aj σ (upd H a o) { s with heap:=h',toks:=t' }:=by
 have hn:H a=none:=I.hok.fresh hp
 have Gb:∀b u,H b=some u->b∉ch:=λb u e z=>by rw[(ko b z).1]at e;cases e
 refine I.step (g':=s.gens) (d':=s.drawn) (ch:=ch) (λb hb=>⟨(ko b hb).2.2.2.1,(ko b hb).2.1,(ko b hb).2.2.2.2.1,(ko b hb).2.2.2.2.2⟩) (λb o _ _ hc e _=>k b o hc e) (λb o _ _ hc e _=>⟨o.slots,k b o hc e⟩)
  (λb o _ e n=>by rw[yo (br (bn (aP e) hp))];exact n) (λb o hc e=>⟨o,k b o hc e⟩) (λb xs q=>by rw[yo (xr q hn)];exact q) (λb u xs q=>by rw[yo (xr q hn)];exact q)
  (λb ps q=>⟨#[],by rw[yo (xr q hn),q];simp⟩) (λm hm=>?_) (λb u e=>?_) I.bare
 ·obtain⟨o',es,ep,ho,r⟩:=hm
  exact⟨o',es,ep,k _ o' (λz=>(ko _ z).2.1 rfl) ho,r⟩
 ·by_cases hb:b=a
  ·subst hb
   rw[yx]at e
   cases e
   exact new
  ·rw[yo hb]at e
   refine(I.hok b u e).stay (λc v hc q=>k c v ?_ q) (λc q=>by rw[yo (xr q hn)];exact q) λc xs q=>by rw[yo (xr q hn)];exact q
   rcases hc with z|z
   ·rw[z];exact Gb b u e
   ·exact Gb c _ z
theorem Inv.turnedL {ch:List ai}{t':Nat}(I:Inv X aj σ H s)(ko:∀b∈ch,kl X aj H b)(k:∀b o,b∉ch->s.heap.get? b=some o->h'.get? b=some o):Inv X aj σ H { s with heap:=h',toks:=t' }:=by
 have Gb:∀b u,H b=some u->b∉ch:=λb u e z=>by rw[(ko b z).1]at e;cases e
 refine I.step (g':=s.gens) (d':=s.drawn) (ch:=ch) (λb hb=>⟨(ko b hb).2.2.2.1,(ko b hb).2.1,(ko b hb).2.2.2.2.1,(ko b hb).2.2.2.2.2⟩) (λb o _ _ hc e _=>k b o hc e) (λb o _ _ hc e _=>⟨o.slots,k b o hc e⟩)
  (λ_ _ _ _ n=>n) (λb o hc e=>⟨o,k b o hc e⟩) (λ_ _ e=>e) (λ_ _ _ e=>e) (λb ps e=>⟨#[],by rw[e];simp⟩) (λm hm=>?_) (λb u e=>?_) I.bare
 ·obtain⟨o',es,ep,ho,r⟩:=hm
  exact⟨o',es,ep,k _ o' (λz=>(ko _ z).2.1 rfl) ho,r⟩
 ·refine(I.hok b u e).stay (λc v hc q=>k c v ?_ q) (λ_ q=>q) λ_ _ q=>q
  rcases hc with z|z
  ·rw[z];exact Gb b u e
  ·exact Gb c _ z
end
def J5 (K:ae)(a:ai):It :=
 ⟨λi H=>∃xs x,fm K H a xs/\xs[i]?=some x,λi H x H'=>∃p y,H p=none/\x=.ref p/\H'=upd H p (.tup [.int i,y])/\∀xs,fm K H a xs->xs[i]?=some y,λi H=>∃xs,fm K H a xs/\xs.length<=i⟩
theorem zlq {P:bx}{w:bY}{K:ae}{oU:List Expr}{kt:Nat}{pt:cW}(a e it:ai)(Pf:e≠it) :
    Turn P w K (.Tuple oU kt pt) (J5 K a) [e,it] e (λi h=>(∃old,IsEnum h e it i old)/\h.IsListIter it a i) where
  mem:=by simp
  obj:=λi h st b hb=>by
    obtain⟨⟨old,he⟩,o,e1,c,d⟩:=st
    rcases aC.mp hb with rfl|hb
    · exact⟨_,he,λv z=>by cases z⟩
    · have e2:b=it:=by simpa using hb
      subst e2
      exact⟨o,e1,λv z=>by rw[d]at z;cases z⟩
  keep:=λi h h' st k=>by
    obtain⟨⟨old,he⟩,hit⟩:=st
    exact⟨⟨old,k e (by simp) _ he⟩,hit.at λo x=>k it (by simp) o x⟩
  item:=by
    intro X hP hw hK hc i aj s σ H E I hf st hg
    subst hP hw hK
    obtain⟨xs,x,hq,hx⟩:=hg
    obtain⟨ce,rv,p,hz⟩:=I.list hq
    obtain⟨u,hu,ru⟩:=rv.get hx
    obtain⟨⟨old,he⟩,hit⟩:=st
    refine wpAny_pyNext_enum_item he hit p.isList (x:=u) (by simpa using hu) Pf λh1 ho LQ hT hsz hk=>?_
    refine⟨_,rfl,wpAny_letOwnedTupleGo_enum (s:={ s with heap:=h1,toks:=s.toks+1 }) ho λh2 VC Ha=>?_⟩
    have jG:e<s.heap.objs.size:=aP he
    have We:it<s.heap.objs.size:=by obtain⟨_,q,_⟩:=hit;exact aP q
    have Vt:h2.get? s.heap.objs.size=some { cls:=.type "tuple",data:=.seq #[.int i s.toks,u] }:=(Ha.2 _ (Nat.ne_of_gt jG)).trans hT
    have VG:H s.heap.objs.size=none:=I.hok.fresh (aF _)
    have I1:Inv X aj σ (upd H s.heap.objs.size (.tup [.int i,x])) { s with heap:=h2,toks:=s.toks+1 }:=by
      refine I.turnLay (ch:=[e,it]) hf (λb o hb q=>?_) (aF _) ⟨by show 2<=sizeLine;decide,[.int i s.toks,u],.cons ⟨_,rfl⟩ (.cons ru .nil),_,Vt,rfl,_,rfl⟩
      have O1:b≠e:=λz=>hb (by simp[z])
      have Vk:b≠it:=λz=>hb (by simp[z])
      exact(Ha.2 b O1).trans (hk b o O1 Vk q)
    refine⟨.ref s.heap.objs.size,_,I1,rfl,⟨_,x,VG,rfl,rfl,λys hy=>by rw[I.list_inj hy hq];exact hx⟩,⟨⟨u,by simpa using VC⟩,LQ.at λo q=>(Ha.2 it Pf.symm).trans q⟩,λb hb=>?_⟩
    rw[yo ?_]
    · exact(hf b hb).1
    · rcases aC.mp hb with rfl|hb
      · exact br jG
      · have e2:b=it:=by simpa using hb
        rw[e2];exact br We
  done:=by
    intro X hP hw hK hc i aj s σ H E I hf st hg
    subst hP hw hK
    obtain⟨xs,hq,hx⟩:=hg
    obtain⟨ce,rv,p,hz⟩:=I.list hq
    obtain⟨⟨old,he⟩,hit⟩:=st
    have hl:=rv.length
    exact wpAny_pyNext_enum_end (I.ok.hd hc) he hit p.isList (by simp;omega) λh' eb=>⟨rfl,I.turnedL (ch:=[e,it]) (t':=s.toks) hf λb o hb q=>eb b o (λz=>hb (by simp[z])) q⟩
  self:=λ_ _ _ _ _ st h=>wpAny_pyIter_enum st.1.choose_spec h
section
variable {X:Cx}{oU:List Expr}{kt:Nat}{pt:cW}
def E5 (K:ae)(ta:TA):TI:=λσ H R=>ta σ H λvs H1=>∃a,vs=[.ref a]/\(∃xs,fm K H1 a xs)/\R (J5 K a) H1
theorem Sk {l:Expr}{ta:TA}{p pos:cW}(hg:Gl X "enumerate")(hm:X.mg "enumerate"=none)(ha:PA X [l] ta)(hs:ao [l] X.env=[(false,bF l X.env)]:=by rfl) :
  PI X (.Tuple oU kt pt) (.Call (.Name "enumerate" p) [l] [] pos) (E5 X.K ta):=by
 intro aj s σ H R I h
 refine Call_ (tO I hg hm PyProof.Rows.boot_enumerate (bO (di (ha pos aj s σ H _ I h) λus s1 ⟨vs,H1,I1,r1,q1⟩=>?_) hs rfl))
 obtain⟨a,e,⟨xs,hq⟩,q⟩:=q1
 subst e
 cases r1 with
 |cons r rr=>
  cases rr
  cases r
  obtain⟨ce,rv,pl,hz⟩:=I1.list hq
  refine call_enumerate_list pl.isList λh' he hit hsz hk=>?_
  refine wpAny_pyIter_enum (s:={ s1 with heap:=h' }) he ?_
  refine⟨s1.heap.objs.size+1,[s1.heap.objs.size+1,s1.heap.objs.size],_,_,H1,rfl,I1.kept (t':=s1.toks) hk,zlq a _ _ (Nat.succ_ne_self _),⟨⟨_,he⟩,hit⟩,λb hb=>?_,q⟩
  rcases aC.mp hb with rfl|hb
  ·exact I1.fpOk (iz _) (I1.hok.fresh (iz _))
  ·have e:b=s1.heap.objs.size:=by simpa using hb
   subst e
   exact I1.fpOk (aF _) (I1.hok.fresh (aF _))
end
end L2
namespace L3
open PySem PySem.Spec L2
open PyProof.Rows hiding St
inductive D where
 |non|bl (b:Bool)|int (i:Int)|str (x:aR)
 |lst (xs:List D)|tup (xs:List D)|dK (ks:List eX) (ds:List D)|dT (ks:List (List eX)) (ds:List D)
 |obj (c:Nat) (ns:List aR) (ds:List D)
 deriving Inhabited
inductive Pr (R:D->V->Prop):List D->List V->Prop
 |nil:Pr R [] []
 |cons {d:D} {v:V} {ds:List D} {vs:List V}:R d v->Pr R ds vs->Pr R (d::ds) (v::vs)
theorem Pr.mono {R R':D->V->Prop}(f:∀d v,R d v->R' d v):∀{ds:List D} {vs:List V},Pr R ds vs->Pr R' ds vs
 |_,_,.nil=>.nil
 |_,_,.cons h t=>.cons (f _ _ h) (Pr.mono f t)
theorem Pr.length {R:D->V->Prop}:∀{ds:List D} {vs:List V},Pr R ds vs->ds.length=vs.length
 |_,_,.nil=>rfl
 |_,_,.cons _ t=>by simp[Pr.length t]
theorem Pr.get' {R:D->V->Prop}:∀{ds:List D} {vs:List V} {i:Nat} {d:D},Pr R ds vs->ds[i]?=some d->∃v,vs[i]?=some v/\R d v
 |_,_,_,_,.nil,e=>by simp at e
 |_,_,0,_,.cons h _,e=>by simp at e;subst e;exact⟨_,rfl,h⟩
 |_,_,i+1,v,.cons _ t,e=>by
  obtain⟨d,h1,h2⟩:=Pr.get' (i:=i) (d:=v) t (by simpa using e)
  exact⟨d,by simpa using h1,h2⟩
theorem Pr.append {R:D->V->Prop}:∀{ds es:List D} {vs us:List V},Pr R ds vs->Pr R es us->Pr R (ds++es) (vs++us)
 |_,_,_,_,.nil,s=>s
 |_,_,_,_,.cons h t,s=>.cons h (Pr.append t s)
theorem Pr.take {R:D->V->Prop}:∀{ds:List D} {vs:List V} (n:Nat),Pr R ds vs->Pr R (ds.take n) (vs.take n)
 |_,_,0,_=>.nil
 |_,_,_+1,.nil=>.nil
 |_,_,n+1,.cons h t=>.cons h (Pr.take n t)
theorem Pr.drop {R:D->V->Prop}:∀{ds:List D} {vs:List V} (n:Nat),Pr R ds vs->Pr R (ds.drop n) (vs.drop n)
 |_,_,0,r=>r
 |_,_,_+1,.nil=>.nil
 |_,_,n+1,.cons _ t=>Pr.drop n t
theorem Pr.reverse {R:D->V->Prop}{ds:List D}{vs:List V}(h:Pr R ds vs):Pr R ds.reverse vs.reverse:=by
 induction h with
 |nil=>exact .nil
 |cons h t ih=>rw[kJ,kJ];exact ih.append (.cons h .nil)
theorem Pr.rep {R:D->V->Prop}{ds:List D}{vs:List V}(h:Pr R ds vs):∀k:Nat,Pr R (aA k ds).flatten (aA k vs).flatten
 |0=>.nil
 |k+1=>by rw[cJ,d6,cJ,d6];exact h.append (Pr.rep h k)
mutual
inductive Dt (K:ae)(ct:Nat->ai)(F:Hp):D->V->Prop
 |non:Dt K ct F .non .non
 |bl (b:Bool):Dt K ct F (.bl b) (.bl b)
 |int (i:Int):Dt K ct F (.int i) (.int i)
 |str (x:aR):Dt K ct F (.str x) (.str x)
 |lst {a:ai} {vs:List V} {ds:List D}:fm K F a vs->Dts K ct F ds vs->Dt K ct F (.lst ds) (.ref a)
 |tup {a:ai} {vs:List V} {ds:List D}:F a=some (.tup vs)->Dts K ct F ds vs->Dt K ct F (.tup ds) (.ref a)
 |dK {a:ai} {ks:List eX} {vs:List V} {ds:List D}:F a=some (.dK (ks.zip vs))->ks.length=vs.length->Dts K ct F ds vs->Dt K ct F (.dK ks ds) (.ref a)
 |dT {a:ai} {ks:List (List eX)} {vs:List V} {ds:List D}:F a=some (.dT (ks.zip vs))->ks.length=vs.length->Dts K ct F ds vs->Dt K ct F (.dT ks ds) (.ref a)
 |obj {a dx:ai} {c:Nat} {ns:List aR} {vs:List V} {ds:List D}:F a=some (.ins (ct c) dx (ns.zip vs))->ns.length=vs.length->Dts K ct F ds vs->Dt K ct F (.obj c ns ds) (.ref a)
inductive Dts (K:ae)(ct:Nat->ai)(F:Hp):List D->List V->Prop
 |nil:Dts K ct F [] []
 |cons {d:D} {v:V} {ds:List D} {vs:List V}:Dt K ct F d v->Dts K ct F ds vs->Dts K ct F (d::ds) (v::vs)
end
section
variable {K:ae}{ct:Nat->ai}{F F' G G' H H' B B':Hp}
theorem Dts.pr:∀{ds:List D} {vs:List V},Dts K ct F ds vs->Pr (Dt K ct F) ds vs
 |_,_,.nil=>.nil
 |_,_,.cons h t=>.cons h (Dts.pr t)
theorem Dts.of:∀{ds:List D} {vs:List V},Pr (Dt K ct F) ds vs->Dts K ct F ds vs
 |_,_,.nil=>.nil
 |_,_,.cons h t=>.cons h (Dts.of t)
mutual
theorem Dt.mono (s:bQ F F'):∀{d:D} {v:V},Dt K ct F d v->Dt K ct F' d v
 |_,_,.non=>.non
 |_,_,.bl b=>.bl b
 |_,_,.int i=>.int i
 |_,_,.str x=>.str x
 |_,_,.lst h t=>.lst (s.seq h) (Dts.mono s t)
 |_,_,.tup h t=>.tup (s _ _ h) (Dts.mono s t)
 |_,_,.dK h l t=>.dK (s _ _ h) l (Dts.mono s t)
 |_,_,.dT h l t=>.dT (s _ _ h) l (Dts.mono s t)
 |_,_,.obj h l t=>.obj (s _ _ h) l (Dts.mono s t)
theorem Dts.mono (s:bQ F F'):∀{ds:List D} {vs:List V},Dts K ct F ds vs->Dts K ct F' ds vs
 |_,_,.nil=>.nil
 |_,_,.cons h t=>.cons (Dt.mono s h) (Dts.mono s t)
end
end
def D.sc:D->Bool
 |.non=>true|.bl _=>true|.int _=>true|.str _=>true|_=>false
inductive Bc (K:ae)(ct:Nat->ai)(F G:Hp)(R:D->V->Prop):D->V->Prop
 |lst {a:ai} {vs:List V} {ds:List D}:G a=some (.lst vs)->Pr R ds vs->Bc K ct F G R (.lst ds) (.ref a)
 |tup {a:ai} {vs:List V} {ds:List D}:F a=some (.tup vs)->Pr R ds vs->Bc K ct F G R (.tup ds) (.ref a)
 |dK {a:ai} {ks:List eX} {vs:List V} {ds:List D}:G a=some (.dK (ks.zip vs))->ks.length=vs.length->Pr R ds vs->Bc K ct F G R (.dK ks ds) (.ref a)
 |dT {a:ai} {ks:List (List eX)} {vs:List V} {ds:List D}:G a=some (.dT (ks.zip vs))->ks.length=vs.length->Pr R ds vs->Bc K ct F G R (.dT ks ds) (.ref a)
 |obj {a dx:ai} {c:Nat} {ns:List aR} {vs:List V} {ds:List D}:G a=some (.ins (ct c) dx (ns.zip vs))->ns.length=vs.length->Pr R ds vs->Bc K ct F G R (.obj c ns ds) (.ref a)
def Al (K:ae)(ct:Nat->ai)(F G:Hp):Nat->D->V->Prop
 |0,d,v=>Dt K ct F d v
 |n+1,d,v=>Dt K ct F d v\/Bc K ct F G (Al K ct F G n) d v
inductive OwL (R:D->V->List ai->Prop):List D->List V->List ai->Prop
 |nil:OwL R [] [] []
 |cons {d:D} {v:V} {ds:List D} {vs:List V} {f g:List ai}:R d v f->OwL R ds vs g->OwL R (d::ds) (v::vs) (f++g)
inductive t5 (K:ae)(ct:Nat->ai)(F H:Hp)(R:D->V->List ai->Prop):D->V->List ai->Prop
 |lst {a:ai} {vs:List V} {ds:List D} {fp:List ai}:F a=none->H a=some (.lst vs)->OwL R ds vs fp->t5 K ct F H R (.lst ds) (.ref a) (a::fp)
 |tup {a:ai} {vs:List V} {ds:List D} {fp:List ai}:F a=some (.tup vs)->OwL R ds vs fp->t5 K ct F H R (.tup ds) (.ref a) fp
 |dK {a:ai} {ks:List eX} {vs:List V} {ds:List D} {fp:List ai}:F a=none->H a=some (.dK (ks.zip vs))->ks.length=vs.length->OwL R ds vs fp->t5 K ct F H R (.dK ks ds) (.ref a) (a::fp)
 |dT {a:ai} {ks:List (List eX)} {vs:List V} {ds:List D} {fp:List ai}:F a=none->H a=some (.dT (ks.zip vs))->ks.length=vs.length->OwL R ds vs fp->t5 K ct F H R (.dT ks ds) (.ref a) (a::fp)
 |obj {a dx:ai} {c:Nat} {ns:List aR} {vs:List V} {ds:List D} {fp:List ai}:F a=none->H a=some (.ins (ct c) dx (ns.zip vs))->ns.length=vs.length->OwL R ds vs fp->t5 K ct F H R (.obj c ns ds) (.ref a) (a::fp)
def Ow (K:ae)(ct:Nat->ai)(F H:Hp):Nat->D->V->List ai->Prop
 |0,d,v,fp=>Dt K ct F d v/\fp=[]
 |n+1,d,v,fp=>(d.sc=true/\Dt K ct F d v/\fp=[])\/t5 K ct F H (Ow K ct F H n) d v fp
structure gu (F H F' H':Hp):Prop where
 ff:bQ F F'
 hh:bQ H H'
 fh:bQ F' H'
 nf:∀a o,H a=some o->F a=none->F' a=none
theorem gu.refl {F H:Hp}(h:bQ F H):gu F H F H:=⟨.refl _,.refl _,h,λ_ _ _ h=>h⟩
theorem gu.trans {F H F1 H1 F2 H2:Hp}(a:gu F H F1 H1)(b:gu F1 H1 F2 H2):gu F H F2 H2 :=
 ⟨a.ff.trans b.ff,a.hh.trans b.hh,b.fh,λc o h n=>b.nf c o (a.hh _ _ h) (a.nf c o h n)⟩
theorem gu.newO {F H:Hp}{p:ai}(s:bQ F H)(h:H p=none)(o:HO):gu F H F (upd H p o) :=
 ⟨.refl _,HC h o,s.trans (HC h o),λ_ _ _ h=>h⟩
theorem gu.newS {F H:Hp}{p:ai}(s:bQ F H)(h:H p=none)(o:HO):gu F H (upd F p o) (upd H p o) :=
  ⟨HC (s.free h) o,HC h o,λb u q=>by
    by_cases e:b=p
    · subst e;rw[yx]at q ⊢;exact q
    · rw[yo e]at q ⊢;exact s _ _ q,
   λb u q n=>by rw[yo (xr q h)];exact n⟩
section
variable {K:ae}{ct:Nat->ai}{F F' G G' H H' B B':Hp}
theorem Al.mono (sF:bQ F F')(sG:bQ G G'):∀{n:Nat} {d:D} {v:V},Al K ct F G n d v->Al K ct F' G' n d v
 |0,_,_,h=>Dt.mono sF h
 |n+1,_,_,.inl h=>.inl (Dt.mono sF h)
 |n+1,_,_,.inr (.lst h p)=>.inr (.lst (sG _ _ h) (p.mono λ_ _ q=>Al.mono sF sG q))
 |n+1,_,_,.inr (.tup h p)=>.inr (.tup (sF _ _ h) (p.mono λ_ _ q=>Al.mono sF sG q))
 |n+1,_,_,.inr (.dK h l p)=>.inr (.dK (sG _ _ h) l (p.mono λ_ _ q=>Al.mono sF sG q))
 |n+1,_,_,.inr (.dT h l p)=>.inr (.dT (sG _ _ h) l (p.mono λ_ _ q=>Al.mono sF sG q))
 |n+1,_,_,.inr (.obj h l p)=>.inr (.obj (sG _ _ h) l (p.mono λ_ _ q=>Al.mono sF sG q))
theorem Al.of:∀{n:Nat} {d:D} {v:V},Dt K ct F d v->Al K ct F G n d v
 |0,_,_,h=>h
 |_+1,_,_,h=>.inl h
theorem Dt.scal {d:D}{v:V}(h:Dt K ct F d v)(hs:d.sc=true):Dt K ct F' d v:=by
 cases h with
 |non=>exact .non
 |bl b=>exact .bl b
 |int i=>exact .int i
 |str x=>exact .str x
 |lst _ _=>cases hs
 |tup _ _=>cases hs
 |dK _ _ _=>cases hs
 |dT _ _ _=>cases hs
 |obj _ _ _=>cases hs
theorem Al.scal {n:Nat}{d:D}{v:V}(h:Al K ct F G n d v)(hs:d.sc=true):Dt K ct F' d v:=by
 cases n with
 |zero=>exact Dt.scal h hs
 |succ n=>
  rcases h with h|h
  ·exact h.scal hs
  ·cases h<;>cases hs
theorem Al.int {n:Nat}{i:Int}{v:V}(h:Al K ct F G n (.int i) v):v=.int i:=by
 have q:=Al.scal (F':=F) h rfl
 cases q;rfl
theorem Al.bl {n:Nat}{b:Bool}{v:V}(h:Al K ct F G n (.bl b) v):v=.bl b:=by
 have q:=Al.scal (F':=F) h rfl
 cases q;rfl
theorem Al.str {n:Nat}{x:aR}{v:V}(h:Al K ct F G n (.str x) v):v=.str x:=by
 have q:=Al.scal (F':=F) h rfl
 cases q;rfl
theorem Al.non {n:Nat}{v:V}(h:Al K ct F G n .non v):v=.non:=by
 have q:=Al.scal (F':=F) h rfl
 cases q;rfl
theorem Al.lst {n:Nat}{ds:List D}{v:V}(h:Al K ct F G n (.lst ds) v)(s:bQ F G):∃a vs,v=.ref a/\fm K G a vs/\Pr (Al K ct F G (n-1)) ds vs:=by
 cases n with
 |zero=>
  have h:Dt K ct F (.lst ds) v:=h
  cases h with
  |lst q t=>exact⟨_,_,rfl,s.seq q,t.pr⟩
 |succ n=>
  rcases h with h|h
  ·cases h with
   |lst q t=>exact⟨_,_,rfl,s.seq q,t.pr.mono λ_ _=>Al.of⟩
  ·cases h with
   |lst q t=>exact⟨_,_,rfl,fm.of q,t⟩
theorem Al.tup {n:Nat}{ds:List D}{v:V}(h:Al K ct F G n (.tup ds) v)(s:bQ F G):∃a vs,v=.ref a/\G a=some (.tup vs)/\Pr (Al K ct F G (n-1)) ds vs:=by
 cases n with
 |zero=>
  have h:Dt K ct F (.tup ds) v:=h
  cases h with
  |tup q t=>exact⟨_,_,rfl,s _ _ q,t.pr⟩
 |succ n=>
  rcases h with h|h
  ·cases h with
   |tup q t=>exact⟨_,_,rfl,s _ _ q,t.pr.mono λ_ _=>Al.of⟩
  ·cases h with
   |tup q t=>exact⟨_,_,rfl,s _ _ q,t⟩
theorem Al.dK {n:Nat}{ks:List eX}{ds:List D}{v:V}(h:Al K ct F G n (.dK ks ds) v)(s:bQ F G):∃a vs,v=.ref a/\G a=some (.dK (ks.zip vs))/\ks.length=vs.length/\Pr (Al K ct F G (n-1)) ds vs:=by
 cases n with
 |zero=>
  have h:Dt K ct F (.dK ks ds) v:=h
  cases h with
  |dK q l t=>exact⟨_,_,rfl,s _ _ q,l,t.pr⟩
 |succ n=>
  rcases h with h|h
  ·cases h with
   |dK q l t=>exact⟨_,_,rfl,s _ _ q,l,t.pr.mono λ_ _=>Al.of⟩
  ·cases h with
   |dK q l t=>exact⟨_,_,rfl,q,l,t⟩
theorem Al.dT {n:Nat}{ks:List (List eX)}{ds:List D}{v:V}(h:Al K ct F G n (.dT ks ds) v)(s:bQ F G):∃a vs,v=.ref a/\G a=some (.dT (ks.zip vs))/\ks.length=vs.length/\Pr (Al K ct F G (n-1)) ds vs:=by
 cases n with
 |zero=>
  have h:Dt K ct F (.dT ks ds) v:=h
  cases h with
  |dT q l t=>exact⟨_,_,rfl,s _ _ q,l,t.pr⟩
 |succ n=>
  rcases h with h|h
  ·cases h with
   |dT q l t=>exact⟨_,_,rfl,s _ _ q,l,t.pr.mono λ_ _=>Al.of⟩
  ·cases h with
   |dT q l t=>exact⟨_,_,rfl,q,l,t⟩
theorem Al.obj {n:Nat}{c:Nat}{ns:List aR}{ds:List D}{v:V}(h:Al K ct F G n (.obj c ns ds) v)(s:bQ F G):∃a dx vs,v=.ref a/\G a=some (.ins (ct c) dx (ns.zip vs))/\ns.length=vs.length/\Pr (Al K ct F G (n-1)) ds vs:=by
 cases n with
 |zero=>
  have h:Dt K ct F (.obj c ns ds) v:=h
  cases h with
  |obj q l t=>exact⟨_,_,_,rfl,s _ _ q,l,t.pr⟩
 |succ n=>
  rcases h with h|h
  ·cases h with
   |obj q l t=>exact⟨_,_,_,rfl,s _ _ q,l,t.pr.mono λ_ _=>Al.of⟩
  ·cases h with
   |obj q l t=>exact⟨_,_,_,rfl,q,l,t⟩
theorem OwL.mono {R R':D->V->List ai->Prop}:∀{ds:List D} {vs:List V} {fp:List ai},OwL R ds vs fp->(∀d v f,(∀a∈f,a∈fp)->R d v f->R' d v f)->OwL R' ds vs fp
 |_,_,_,.nil,_=>.nil
 |_,_,_,.cons h t,q=>.cons (q _ _ _ (λa z=>bg _ z) h) (OwL.mono t λd v f i r=>q d v f (λa z=>aw _ (i a z)) r)
theorem OwL.pr {R:D->V->List ai->Prop}{R':D->V->Prop}:∀{ds:List D} {vs:List V} {fp:List ai},OwL R ds vs fp->(∀d v f,(∀a∈f,a∈fp)->R d v f->R' d v)->Pr R' ds vs
 |_,_,_,.nil,_=>.nil
 |_,_,_,.cons h t,q=>.cons (q _ _ _ (λa z=>bg _ z) h) (OwL.pr t λd v f i r=>q d v f (λa z=>aw _ (i a z)) r)
theorem OwL.ofPr {R:D->V->List ai->Prop}:∀{ds:List D} {vs:List V},Pr (λd v=>R d v []) ds vs->OwL R ds vs []
 |_,_,.nil=>.nil
 |_,_,.cons h t=>OwL.cons (f:=[]) (g:=[]) h (OwL.ofPr t)
theorem OwL.append {R:D->V->List ai->Prop}:∀{ds es:List D} {vs us:List V} {f g:List ai},OwL R ds vs f->OwL R es us g->OwL R (ds++es) (vs++us) (f++g)
 |_,_,_,_,_,_,.nil,s=>s
 |_,_,_,_,_,_,.cons h t,s=>by rw[eP];exact .cons h (OwL.append t s)
theorem OwL.length {R:D->V->List ai->Prop}:∀{ds:List D} {vs:List V} {fp:List ai},OwL R ds vs fp->ds.length=vs.length
 |_,_,_,.nil=>rfl
 |_,_,_,.cons _ t=>by simp[OwL.length t]
theorem Ow.frame (sF:bQ F F'):∀{n:Nat} {d:D} {v:V} {fp:List ai},Ow K ct F H n d v fp->(∀a∈fp,H' a=H a/\F' a=none)->Ow K ct F' H' n d v fp
 |0,_,_,_,⟨h,e⟩,_=>⟨h.mono sF,e⟩
 |n+1,_,_,_,.inl ⟨c,h,e⟩,_=>.inl ⟨c,h.mono sF,e⟩
 |n+1,_,_,_,.inr (.lst hn h p),k=>.inr (.lst (k _ aa).2 ((k _ aa).1.trans h) (p.mono λ_ _ _ i q=>Ow.frame sF q λa z=>k a (ah _ (i a z))))
 |n+1,_,_,_,.inr (.tup h p),k=>.inr (.tup (sF _ _ h) (p.mono λ_ _ _ i q=>Ow.frame sF q λa z=>k a (i a z)))
 |n+1,_,_,_,.inr (.dK hn h l p),k=>.inr (.dK (k _ aa).2 ((k _ aa).1.trans h) l (p.mono λ_ _ _ i q=>Ow.frame sF q λa z=>k a (ah _ (i a z))))
 |n+1,_,_,_,.inr (.obj hn h l p),k=>.inr (.obj (k _ aa).2 ((k _ aa).1.trans h) l (p.mono λ_ _ _ i q=>Ow.frame sF q λa z=>k a (ah _ (i a z))))
 |n+1,_,_,_,.inr (.dT hn h l p),k=>.inr (.dT (k _ aa).2 ((k _ aa).1.trans h) l (p.mono λ_ _ _ i q=>Ow.frame sF q λa z=>k a (ah _ (i a z))))
theorem Ow.cells:∀{n:Nat} {d:D} {v:V} {fp:List ai},Ow K ct F H n d v fp->∀a∈fp,F a=none/\∃o,H a=some o
 |0,_,_,_,⟨_,e⟩,a,z=>by subst e;cases z
 |n+1,_,_,_,.inl ⟨_,_,e⟩,a,z=>by subst e;cases z
 |n+1,_,_,_,.inr (.lst hn h p),a,z=>by
  rcases aC.mp z with rfl|z
  ·exact⟨hn,_,h⟩
  ·exact OwL.cells (λd v f q=>Ow.cells q) p a z
 |n+1,_,_,_,.inr (.tup h p),a,z=>OwL.cells (λd v f q=>Ow.cells q) p a z
 |n+1,_,_,_,.inr (.dK hn h l p),a,z=>by
  rcases aC.mp z with rfl|z
  ·exact⟨hn,_,h⟩
  ·exact OwL.cells (λd v f q=>Ow.cells q) p a z
 |n+1,_,_,_,.inr (.obj hn h l p),a,z=>by
  rcases aC.mp z with rfl|z
  ·exact⟨hn,_,h⟩
  ·exact OwL.cells (λd v f q=>Ow.cells q) p a z
 |n+1,_,_,_,.inr (.dT hn h l p),a,z=>by
  rcases aC.mp z with rfl|z
  ·exact⟨hn,_,h⟩
  ·exact OwL.cells (λd v f q=>Ow.cells q) p a z
where
 OwL.cells {R:D->V->List ai->Prop} (k:∀d v f,R d v f->∀a∈f,F a=none/\∃o,H a=some o):∀{ds:List D} {vs:List V} {fp:List ai},OwL R ds vs fp->∀a∈fp,F a=none/\∃o,H a=some o
 |_,_,_,.nil,a,z=>by cases z
 |_,_,_,.cons h t,a,z=>(aZ.mp z).elim (λz=>k _ _ _ h a z) λz=>OwL.cells k t a z
theorem Ow.ext {n:Nat}{d:D}{v:V}{fp:List ai}(h:Ow K ct F H n d v fp)(e:gu F H F' H'):Ow K ct F' H' n d v fp :=
 h.frame e.ff λa z=>by
  obtain⟨hn,o,ho⟩:=h.cells a z
  exact⟨(e.hh _ _ ho).trans ho.symm,e.nf a o ho hn⟩
theorem Ow.al (s:bQ F H):∀{n:Nat} {d:D} {v:V} {fp:List ai},Ow K ct F H n d v fp->Al K ct F H n d v
 |0,_,_,_,⟨h,_⟩=>h
 |n+1,_,_,_,.inl ⟨_,h,_⟩=>.inl h
 |n+1,_,_,_,.inr (.lst hn h p)=>.inr (.lst h (p.pr λ_ _ _ _ q=>Ow.al s q))
 |n+1,_,_,_,.inr (.tup h p)=>.inr (.tup h (p.pr λ_ _ _ _ q=>Ow.al s q))
 |n+1,_,_,_,.inr (.dK hn h l p)=>.inr (.dK h l (p.pr λ_ _ _ _ q=>Ow.al s q))
 |n+1,_,_,_,.inr (.obj hn h l p)=>.inr (.obj h l (p.pr λ_ _ _ _ q=>Ow.al s q))
 |n+1,_,_,_,.inr (.dT hn h l p)=>.inr (.dT h l (p.pr λ_ _ _ _ q=>Ow.al s q))
theorem Ow.dt (sF:bQ F F'):∀{n:Nat} {d:D} {v:V} {fp:List ai},Ow K ct F H n d v fp->(∀a∈fp,F' a=H a)->Dt K ct F' d v
 |0,_,_,_,⟨h,_⟩,_=>h.mono sF
 |n+1,_,_,_,.inl ⟨_,h,_⟩,_=>h.mono sF
 |n+1,_,_,_,.inr (.lst hn h p),k=>.lst (fm.of ((k _ aa).trans h)) (.of (p.pr λ_ _ _ i q=>Ow.dt sF q λa z=>k a (ah _ (i a z))))
 |n+1,_,_,_,.inr (.tup h p),k=>.tup (sF _ _ h) (.of (p.pr λ_ _ _ i q=>Ow.dt sF q λa z=>k a (i a z)))
 |n+1,_,_,_,.inr (.dK hn h l p),k=>.dK ((k _ aa).trans h) l (.of (p.pr λ_ _ _ i q=>Ow.dt sF q λa z=>k a (ah _ (i a z))))
 |n+1,_,_,_,.inr (.obj hn h l p),k=>.obj ((k _ aa).trans h) l (.of (p.pr λ_ _ _ i q=>Ow.dt sF q λa z=>k a (ah _ (i a z))))
 |n+1,_,_,_,.inr (.dT hn h l p),k=>.dT ((k _ aa).trans h) l (.of (p.pr λ_ _ _ i q=>Ow.dt sF q λa z=>k a (ah _ (i a z))))
def ik (F H:Hp)(fp:List ai):Hp:=λa=>if a∈fp then H a else F a
theorem u9 {fp:List ai}(s:bQ F H)(hf:∀a∈fp,F a=none):bQ F (ik F H fp)/\bQ (ik F H fp) H/\∀a∈fp,ik F H fp a=H a:=by
 refine⟨λa o h=>?_,λa o h=>?_,λa z=>if_pos z⟩
 ·have:¬a∈fp:=λz=>by rw[hf a z]at h;cases h
  unfold ik;rw[if_neg this];exact h
 ·unfold ik at h
  by_cases z:a∈fp
  ·rw[if_pos z]at h;exact h
  ·rw[if_neg z]at h;exact s _ _ h
theorem Ow.freeze {n:Nat}{d:D}{v:V}{fp:List ai}{F0 H0:Hp}(h:Ow K ct F H n d v fp)(e:gu F0 H0 F H)(hf:∀a∈fp,H0 a=none):∃F',gu F0 H0 F' H/\Dt K ct F' d v:=by
 obtain⟨w1,w2,w3⟩:=u9 (fp:=fp) e.fh (λa z=>(h.cells a z).1)
 refine⟨ik F H fp,⟨e.ff.trans w1,e.hh,w2,λa o ho hn=>?_⟩,h.dt w1 w3⟩
 have:¬a∈fp:=λz=>by rw[hf a z]at ho;cases ho
 unfold ik;rw[if_neg this];exact e.nf a o ho hn
theorem Ow.zero {d:D}{v:V}(h:Dt K ct F d v):Ow K ct F H 0 d v []:=⟨h,rfl⟩
theorem Ow.scal {n:Nat}{d:D}{v:V}(h:Dt K ct F d v)(hs:d.sc=true):Ow K ct F H n d v []:=by
 cases n with
 |zero=>exact⟨h,rfl⟩
 |succ n=>exact .inl ⟨hs,h,rfl⟩
end
end L3
namespace L3
open PySem PySem.Spec L2
open PyProof.Rows hiding St
abbrev Env:=List (Option D)
inductive Mo where
 |al (n:Nat)|ow (n:Nat)|px (v:V)|so (x:ai)
def Mo.lv:Mo->Nat
 |.al n=>n
 |.ow n=>n
 |.px _=>1
 |.so _=>1
section
variable (K:ae)(ct:Nat->ai)
inductive SL (F B H:Hp):List Mo->Env->St->List ai->Prop
 |nil:SL F B H [] [] [] []
 |no {m:Mo} {o:Option V} {ms:List Mo} {ρ:Env} {σ:St} {fp:List ai}:SL F B H ms ρ σ fp->SL F B H (m::ms) (none::ρ) (o::σ) fp
 |al {n:Nat} {d:D} {v:V} {ms:List Mo} {ρ:Env} {σ:St} {fp:List ai}:Al K ct F B n d v->SL F B H ms ρ σ fp->SL F B H (.al n::ms) (some d::ρ) (some v::σ) fp
 |px {d:D} {v:V} {ms:List Mo} {ρ:Env} {σ:St} {fp:List ai}:Al K ct F B 1 d v->SL F B H ms ρ σ fp->SL F B H (.px v::ms) (some d::ρ) (some v::σ) fp
 |so {d:D} {x:ai} {ms:List Mo} {ρ:Env} {σ:St} {fp:List ai}:Ow K ct F H 1 d (.ref x) [x]->SL F B H ms ρ σ fp->SL F B H (.so x::ms) (some d::ρ) (some (.ref x)::σ) (x::fp)
 |ow {n:Nat} {d:D} {v:V} {ms:List Mo} {ρ:Env} {σ:St} {f fp:List ai}:Ow K ct F H n d v f->SL F B H ms ρ σ fp->SL F B H (.ow n::ms) (some d::ρ) (some v::σ) (f++fp)
structure RS (F0 B:Hp)(ms:List Mo)(F H:Hp)(ρ:Env)(σ:St):Prop where
 f0:bQ F0 F
 bh:bQ B H
 fh:bQ F H
 nf:∀a o,B a=some o->F0 a=none->F a=none
 sl:∃fp,SL K ct F B H ms ρ σ fp/\fp.Nodup/\∀a∈fp,B a=none
end
section
variable {K:ae}{ct:Nat->ai}{F F' G G' H H' B B' F0:Hp}{ms:List Mo}{ρ:Env}{σ:St}
theorem SL.cells {ms:List Mo}{ρ:Env}{σ:St}{fp:List ai}(h:SL K ct F B H ms ρ σ fp):∀a∈fp,F a=none/\∃o,H a=some o:=by
 induction h with
 |nil=>intro a z;cases z
 |no t ih=>exact ih
 |al _ t ih=>exact ih
 |px _ t ih=>exact ih
 |so h t ih=>exactλa z=>(aC.mp z).elim (λz=>h.cells a (by rw[z];exact aa)) (ih a)
 |ow h t ih=>exactλa z=>(aZ.mp z).elim (h.cells a) (ih a)
theorem SL.frame (sF:bQ F F'){ms:List Mo}{ρ:Env}{σ:St}{fp:List ai}(h:SL K ct F B H ms ρ σ fp):(∀a∈fp,H' a=H a/\F' a=none)->SL K ct F' B H' ms ρ σ fp:=by
 induction h with
 |nil=>exactλ_=>.nil
 |no t ih=>exactλk=>.no (ih k)
 |al h t ih=>exactλk=>.al (h.mono sF (.refl _)) (ih k)
 |px h t ih=>exactλk=>.px (h.mono sF (.refl _)) (ih k)
 |so h t ih=>exactλk=>.so (h.frame sF λa z=>k a (by rw[ax]at z;rw[z];exact aa)) (ih λa z=>k a (ah _ z))
 |ow h t ih=>exactλk=>.ow (h.frame sF λa z=>k a (bg _ z)) (ih λa z=>k a (aw _ z))
theorem RS.ext (r:RS K ct F0 B ms F H ρ σ)(e:gu F H F' H'):RS K ct F0 B ms F' H' ρ σ:=by
 obtain⟨fp,s,nd,hb⟩:=r.sl
 refine⟨r.f0.trans e.ff,r.bh.trans e.hh,e.fh,λa o h n=>e.nf a o (r.bh _ _ h) (r.nf a o h n),fp,s.frame e.ff λa z=>?_,nd,hb⟩
 obtain⟨hn,o,ho⟩:=s.cells a z
 exact⟨(e.hh _ _ ho).trans ho.symm,e.nf a o ho hn⟩
theorem SL.get {ms:List Mo}{ρ:Env}{σ:St}{fp:List ai}{i:Nat}{m:Mo}{d:D}(h:SL K ct F B H ms ρ σ fp)(s:bQ F H)(s':bQ B H):ms[i]?=some m->ρ[i]?=some (some d)->∃v,σ[i]?=some (some v)/\Al K ct F H m.lv d v:=by
 induction h generalizing i with
 |nil=>intro e;simp at e
 |no t ih=>
  intro e e'
  cases i with
  |zero=>simp at e'
  |succ i=>simpa using ih (by simpa using e) (by simpa using e')
 |al h t ih=>
  intro e e'
  cases i with
  |zero=>
   simp at e e';subst e;subst e'
   exact⟨_,rfl,h.mono (.refl _) s'⟩
  |succ i=>simpa using ih (by simpa using e) (by simpa using e')
 |px h t ih=>
  intro e e'
  cases i with
  |zero=>
   simp at e e';subst e;subst e'
   exact⟨_,rfl,h.mono (.refl _) s'⟩
  |succ i=>simpa using ih (by simpa using e) (by simpa using e')
 |so h t ih=>
  intro e e'
  cases i with
  |zero=>
   simp at e e';subst e;subst e'
   exact⟨_,rfl,h.al s⟩
  |succ i=>simpa using ih (by simpa using e) (by simpa using e')
 |ow h t ih=>
  intro e e'
  cases i with
  |zero=>
   simp at e e';subst e;subst e'
   exact⟨_,rfl,h.al s⟩
  |succ i=>simpa using ih (by simpa using e) (by simpa using e')
theorem RS.get (r:RS K ct F0 B ms F H ρ σ){i:Nat}{m:Mo}{d:D}(hm:ms[i]?=some m)(e:ρ[i]?=some (some d)):∃v,σ[i]?=some (some v)/\Al K ct F H m.lv d v:=by
 obtain⟨fp,s,_,_⟩:=r.sl
 exact s.get r.fh r.bh hm e
theorem SL.put {ms:List Mo}{ρ:Env}{σ:St}{fp:List ai}{i k:Nat}(h0:SL K ct F B H ms ρ σ fp):ms[i]?=some (.ow k) ->
  ∃f1 fr:List ai,(∀a∈f1,a∈fp)/\(∀a∈fr,a∈fp)/\(fp.Nodup->f1.Nodup/\fr.Nodup/\∀a∈f1,a∉fr)/\(∀d,ρ[i]?=some (some d)->∃v,σ[i]?=some (some v)/\Ow K ct F H k d v f1) /\
   ∀(F' H':Hp) (d':D) (v':V) (f':List ai),bQ F F'->(∀a∈fr,H' a=H a/\F' a=none)->Ow K ct F' H' k d' v' f' ->
    ∃hX,SL K ct F' B H' ms (ρ.set i (some d')) (σ.set i (some v')) hX/\(∀a∈hX,a∈f'\/a∈fr)/\(f'.Nodup->fr.Nodup->(∀a∈f',a∉fr)->hX.Nodup):=by
 induction h0 generalizing i with
 |nil=>
  intro e
  simp at e
 |@no m0 o0 ms ρ σ fp t ih=>
  intro e
  cases i with
  |zero=>
   simp at e;subst e
   refine⟨[],fp,λa z=>(by cases z),λa z=>z,λn=>⟨bA,n,λa z=>(by cases z)⟩,λd q=>(by simp at q),λF' H' d' v' f' s kf h=>⟨f'++fp,.ow h (t.frame s kf),λa z=>aZ.mp z,λn1 n2 dj=>?_⟩⟩
   exact bj.mpr ⟨n1,n2,λa z b zb e=>dj a z (e▸zb)⟩
  |succ i=>
   obtain⟨f1,fr,h1,h2,h3,h4,h5⟩:=ih (i:=i) (by simpa using e)
   refine⟨f1,fr,h1,h2,h3,λd q=>by simpa using h4 d (by simpa using q),λF' H' d' v' f' s kf h=>?_⟩
   obtain⟨hX,q1,q2,q3⟩:=h5 F' H' d' v' f' s kf h
   exact⟨hX,.no q1,q2,q3⟩
 |@al n0 d0 v0 ms ρ σ fp h t ih=>
  intro e
  cases i with
  |zero=>
   simp at e
  |succ i=>
   obtain⟨f1,fr,h1,h2,h3,h4,h5⟩:=ih (i:=i) (by simpa using e)
   refine⟨f1,fr,h1,h2,h3,λd q=>by simpa using h4 d (by simpa using q),λF' H' d' v' f' s kf h'=>?_⟩
   obtain⟨hX,q1,q2,q3⟩:=h5 F' H' d' v' f' s kf h'
   exact⟨hX,.al (h.mono s (.refl _)) q1,q2,q3⟩
 |@px d0 v0 ms ρ σ fp h t ih=>
  intro e
  cases i with
  |zero=>
   simp at e
  |succ i=>
   obtain⟨f1,fr,h1,h2,h3,h4,h5⟩:=ih (i:=i) (by simpa using e)
   refine⟨f1,fr,h1,h2,h3,λd q=>by simpa using h4 d (by simpa using q),λF' H' d' v' f' s kf h'=>?_⟩
   obtain⟨hX,q1,q2,q3⟩:=h5 F' H' d' v' f' s kf h'
   exact⟨hX,.px (h.mono s (.refl _)) q1,q2,q3⟩
 |@so d0 x ms ρ σ fp h t ih=>
  intro e
  cases i with
  |zero=>
   simp at e
  |succ i=>
   obtain⟨f1,fr,h1,h2,h3,h4,h5⟩:=ih (i:=i) (by simpa using e)
   refine⟨f1,x::fr,λa z=>ah _ (h1 a z),λa z=>(aC.mp z).elim (λz=>by rw[z];exact aa) λz=>ah _ (h2 a z),λn=>?_,λd q=>by simpa using h4 d (by simpa using q),λF' H' d' v' f' s kf h'=>?_⟩
   ·obtain⟨n1,n2⟩:=bw.mp n
    obtain⟨m1,m2,m3⟩:=h3 n2
    refine⟨m1,bw.mpr ⟨λz=>n1 (h2 x z),m2⟩,λa z zb=>?_⟩
    rcases aC.mp zb with zb|zb
    ·rw[zb]at z;exact n1 (h1 x z)
    ·exact m3 a z zb
   ·obtain⟨hX,q1,q2,q3⟩:=h5 F' H' d' v' f' s (λa z=>kf a (ah _ z)) h'
    refine⟨x::hX,.so (h.frame s λa z=>kf a (by rw[ax]at z;rw[z];exact aa)) q1,λa z=>?_,λn1 n2 dj=>?_⟩
    ·rcases aC.mp z with z|z
     ·exact .inr (by rw[z];exact aa)
     ·exact(q2 a z).imp id λz=>ah _ z
    ·obtain⟨m1,m2⟩:=bw.mp n2
     refine bw.mpr ⟨λz=>?_,q3 n1 m2 λa z zb=>dj a z (ah _ zb)⟩
     rcases q2 x z with z|z
     ·exact dj x z aa
     ·exact m1 z
 |@ow n0 d0 v0 ms ρ σ f fp h t ih=>
  intro e
  cases i with
  |zero=>
   simp at e;subst e
   refine⟨f,fp,λa z=>bg _ z,λa z=>aw _ z,λn=>?_,λd q=>?_,λF' H' d' v' f' s kf h=>⟨f'++fp,.ow h (t.frame s kf),λa z=>aZ.mp z,λn1 n2 dj=>?_⟩⟩
   ·obtain⟨n1,n2,n3⟩:=bj.mp n
    exact⟨n1,n2,λa z zb=>n3 a z a zb rfl⟩
   ·simp at q;subst q;exact⟨_,rfl,h⟩
   ·exact bj.mpr ⟨n1,n2,λa z b zb e=>dj a z (e▸zb)⟩
  |succ i=>
   obtain⟨f1,fr,h1,h2,h3,h4,h5⟩:=ih (i:=i) (by simpa using e)
   refine⟨f1,f++fr,λa z=>aw _ (h1 a z),λa z=>(aZ.mp z).elim (λz=>bg _ z) λz=>aw _ (h2 a z),λn=>?_,λd q=>by simpa using h4 d (by simpa using q),λF' H' d' v' f' s kf h'=>?_⟩
   ·obtain⟨n1,n2,n3⟩:=bj.mp n
    obtain⟨m1,m2,m3⟩:=h3 n2
    refine⟨m1,bj.mpr ⟨n1,m2,λa z b zb=>n3 a z b (h2 b zb)⟩,λa z zb=>?_⟩
    rcases aZ.mp zb with zb|zb
    ·exact n3 a zb a (h1 a z) rfl
    ·exact m3 a z zb
   ·obtain⟨hX,q1,q2,q3⟩:=h5 F' H' d' v' f' s (λa z=>kf a (aw _ z)) h'
    refine⟨f++hX,.ow (h.frame s λa z=>kf a (bg _ z)) q1,λa z=>?_,λn1 n2 dj=>?_⟩
    ·rcases aZ.mp z with z|z
     ·exact .inr (bg _ z)
     ·exact(q2 a z).imp id λz=>aw _ z
    ·obtain⟨m1,m2,m3⟩:=bj.mp n2
     refine bj.mpr ⟨m1,q3 n1 m2 λa z zb=>dj a z (aw _ zb),λa z b zb e=>?_⟩
     subst e
     rcases q2 a zb with zb|zb
     ·exact dj a zb (bg _ z)
     ·exact m3 a z a zb rfl
end
abbrev EF:=Env->Option D
inductive iU (K:ae)(ct:Nat->ai)(F G:Hp):List Nat->List D->List V->Prop
 |nil:iU K ct F G [] [] []
 |cons {n:Nat} {d:D} {v:V} {ns:List Nat} {ds:List D} {vs:List V}:Al K ct F G n d v->iU K ct F G ns ds vs->iU K ct F G (n::ns) (d::ds) (v::vs)
theorem iU.mono {K:ae}{ct:Nat->ai}{F F' G G':Hp}(sF:bQ F F')(sG:bQ G G'):∀{ns:List Nat} {ds:List D} {vs:List V},iU K ct F G ns ds vs->iU K ct F' G' ns ds vs
 |_,_,_,.nil=>.nil
 |_,_,_,.cons h t=>.cons (h.mono sF sG) (iU.mono sF sG t)
theorem iU.length {K:ae}{ct:Nat->ai}{F G:Hp}:∀{ns:List Nat} {ds:List D} {vs:List V},iU K ct F G ns ds vs->vs.length=ns.length
 |_,_,_,.nil=>rfl
 |_,_,_,.cons _ t=>by simp[iU.length t]
theorem iU.length' {K:ae}{ct:Nat->ai}{F G:Hp}:∀{ns:List Nat} {ds:List D} {vs:List V},iU K ct F G ns ds vs->ds.length=vs.length
 |_,_,_,.nil=>rfl
 |_,_,_,.cons _ t=>by simp[iU.length' t]
theorem iU.append {K:ae}{ct:Nat->ai}{F G:Hp}{oB:List Nat}{nS:List D}{IW:List V}(q:iU K ct F G oB nS IW):∀{ns:List Nat} {ds:List D} {vs:List V},iU K ct F G ns ds vs->iU K ct F G (ns++oB) (ds++nS) (vs++IW)
 |_,_,_,.nil=>q
 |_,_,_,.cons h t=>.cons h (iU.append q t)
section
variable (X:Cx)(ct:Nat->ai)(ms:List Mo)
def XE (n:Nat)(e:Expr)(f:EF):Prop:=∃t,PE X e t/\∀(F0 B F H:Hp) (ρ:Env) (σ:St) (d:D) (Q:VK),RS X.K ct F0 B ms F H ρ σ->f ρ=some d ->
 (∀v F' H',gu F H F' H'->Al X.K ct F' H' n d v->Q v H')->t σ H Q
def XO (k:Nat)(e:Expr)(f:EF):Prop:=∃t,PE X e t/\∀(F0 B F H:Hp) (ρ:Env) (σ:St) (d:D) (Q:VK),RS X.K ct F0 B ms F H ρ σ->f ρ=some d ->
 (∀v F' H' fp,gu F H F' H'->Ow X.K ct F' H' k d v fp->fp.Nodup->(∀a∈fp,H a=none)->Q v H')->t σ H Q
def XT (e:Expr)(f:Env->Option Bool):Prop:=∃t,PT X e t/\∀(F0 B F H:Hp) (ρ:Env) (σ:St) (b:Bool) (Q:Bool->Hp->Prop),RS X.K ct F0 B ms F H ρ σ->f ρ=some b ->
 (∀F' H',gu F H F' H'->Q b H')->t σ H Q
def XW (e:Expr)(f:Env->Option Bool):Prop:=∃t,PW X e t/\∀(F0 B F H:Hp) (ρ:Env) (σ:St) (b:Bool) (Q:Bool->Hp->Prop),RS X.K ct F0 B ms F H ρ σ->f ρ=some b ->
 (∀F' H',gu F H F' H'->Q b H')->t σ H Q
def XA (es:List Expr)(ns:List Nat)(f:Env->Option (List D)):Prop:=∃t,PA X es t/\(∀ρ ds,f ρ=some ds->ds.length=es.length)/\∀(F0 B F H:Hp) (ρ:Env) (σ:St) (ds:List D) (Q:List V->Hp->Prop),RS X.K ct F0 B ms F H ρ σ->f ρ=some ds ->
 (∀vs F' H',gu F H F' H'->iU X.K ct F' H' ns ds vs->Q vs H')->t σ H Q
end
def e2 (op:D->D->Option D)(f g:EF):EF:=λρ=>(f ρ).bind λx=>(g ρ).bind λy=>op x y
def e1 (op:D->Option D)(f:EF):EF:=λρ=>(f ρ).bind op
def eN (op:List D->Option D)(f:Env->Option (List D)):EF:=λρ=>(f ρ).bind op
def eC (d:D):EF:=λ_=>some d
def eV (i:Nat):EF:=λρ=>(ρ[i]?).join
def aNil:Env->Option (List D):=λ_=>some []
def aCons (f:EF)(g:Env->Option (List D)):Env->Option (List D):=λρ=>(f ρ).bind λx=>(g ρ).bind λxs=>some (x::xs)
theorem dD {α β γ:Type}{o:Option α}{p:Option β}{op:α->β->Option γ}{r:γ}(h:(o.bind λx=>p.bind λy=>op x y)=some r):∃x y,o=some x/\p=some y/\op x y=some r:=by
 cases o with
 |none=>cases h
 |some x=>
  cases p with
  |none=>cases h
  |some y=>exact⟨x,y,rfl,rfl,h⟩
theorem aT {α β:Type}{o:Option α}{op:α->Option β}{r:β}(h:o.bind op=some r):∃x,o=some x/\op x=some r:=by
 cases o with
 |none=>cases h
 |some x=>exact⟨x,rfl,h⟩
theorem yf {α:Type}{o:Option (Option α)}{x:α}(h:o.join=some x):o=some (some x):=by
 cases o with
 |none=>cases h
 |some y=>exact congrArg some h
def mr (K:ae)(ct:Nat->ai)(n m k:Nat)(r:R2)(op:D->D->Option D):Prop :=
 ∀(F H:Hp) (x y:V) (d1 d2 d:D) (Q:VK),bQ F H->Al K ct F H n d1 x->Al K ct F H m d2 y->op d1 d2=some d->(∀v F' H',gu F H F' H'->Al K ct F' H' k d v->Q v H')->r x y H Q
def B9 (K:ae)(ct:Nat->ai)(n m k:Nat)(r:R2)(op:D->D->Option D):Prop :=
 ∀(F H:Hp) (x y:V) (d1 d2 d:D) (Q:VK),bQ F H->Al K ct F H n d1 x->Al K ct F H m d2 y->op d1 d2=some d ->
  (∀v F' H' fp,gu F H F' H'->Ow K ct F' H' k d v fp->fp.Nodup->(∀a∈fp,H a=none)->Q v H')->r x y H Q
def t4 (K:ae)(ct:Nat->ai)(ns:List Nat)(k:Nat)(r:List V->Hp->VK->Prop)(op:List D->Option D):Prop :=
 ∀(F H:Hp) (vs:List V) (ds:List D) (d:D) (Q:VK),bQ F H->iU K ct F H ns ds vs->op ds=some d->(∀v F' H',gu F H F' H'->Al K ct F' H' k d v->Q v H')->r vs H Q
def sJ (K:ae)(ct:Nat->ai)(ns:List Nat)(k:Nat)(r:List V->Hp->VK->Prop)(op:List D->Option D):Prop :=
 ∀(F H:Hp) (vs:List V) (ds:List D) (d:D) (Q:VK),bQ F H->iU K ct F H ns ds vs->op ds=some d ->
  (∀v F' H' fp,gu F H F' H'->Ow K ct F' H' k d v fp->fp.Nodup->(∀a∈fp,H a=none)->Q v H')->r vs H Q
section
variable {X:Cx}{ct:Nat->ai}{ms:List Mo}{n m k:Nat}{a b c e:Expr}{f g h:EF}{pos:cW}
theorem XO.sh (he:XO X ct ms k e f):XE X ct ms n e f:=by
 obtain⟨t,p,q⟩:=he
 refine⟨t,p,λF0 B F H ρ σ d Q r e w=>q F0 B F H ρ σ d Q r e λv F' H' fp x o nd hf=>?_⟩
 obtain⟨F2,x2,h2⟩:=o.freeze x hf
 exact w v F2 H' x2 (Al.of h2)
theorem XE.ow (he:XE X ct ms 0 e f):XO X ct ms 0 e f:=by
 obtain⟨t,p,q⟩:=he
 exact⟨t,p,λF0 B F H ρ σ d Q r e w=>q F0 B F H ρ σ d Q r e λv F' H' x l=>w v F' H' [] x ⟨l,rfl⟩ bA λa z=>(by cases z)⟩
theorem za (i n:Nat){x:aR}{m:Mo}(hm:ms[i]?=some m:=by rfl)(hl:m.lv=n:=by rfl)(hN:X.N[i]?=some x:=by rfl)(hv:ou X.env.scope x:=by first|exact Or.inl rfl|exact Or.inr (Or.inl rfl)|exact Or.inr (Or.inr rfl))(hd:(x==("__debug__":aR))=false:=by decide)
  (iL:(x==("__classdict__":aR))=false:=by decide):XE X ct ms n (.Name x pos) (eV i):=by
 subst hl
 refine⟨_,jo hN hv hd iL,λF0 B F H ρ σ d Q r e w=>?_⟩
 obtain⟨v,hv,l⟩:=r.get hm (yf e)
 exact⟨v,hv,w v F H (.refl r.fh) l⟩
theorem zue {i:Int}{j}:XE X ct ms n (.Constant (.int i) j pos) (eC (.int i)):=⟨_,zte,λF0 B F H ρ σ d Q r e w=>by cases e;exact w _ F H (.refl r.fh) (Al.of (.int i))⟩
theorem su {i:Bool}{j}:XE X ct ms n (.Constant (.bool i) j pos) (eC (.bl i)):=⟨_,zvs,λF0 B F H ρ σ d Q r e w=>by cases e;exact w _ F H (.refl r.fh) (Al.of (.bl i))⟩
theorem xU {i:aR}{j}:XE X ct ms n (.Constant (.str i) j pos) (eC (.str i)):=⟨_,ztg,λF0 B F H ρ σ d Q r e w=>by cases e;exact w _ F H (.refl r.fh) (Al.of (.str i))⟩
theorem zuf {j}:XE X ct ms n (.Constant .none j pos) (eC .non):=⟨_,ztf,λF0 B F H ρ σ d Q r e w=>by cases e;exact w _ F H (.refl r.fh) (Al.of .non)⟩
theorem XE.bin (ha:XE X ct ms n a f)(hb:XE X ct ms m b g):∃ta tb,PE X a ta/\PE X b tb/\∀(F0 B F H:Hp) (ρ:Env) (σ:St) (d1 d2:D) (R:V->V->Hp->Prop),RS X.K ct F0 B ms F H ρ σ->f ρ=some d1->g ρ=some d2 ->
  (∀x y F' H',gu F H F' H'->Al X.K ct F' H' n d1 x->Al X.K ct F' H' m d2 y->R x y H')->ta σ H λx H1=>tb σ H1 λy H2=>R x y H2:=by
 obtain⟨ta,pa,qa⟩:=ha
 obtain⟨tb,pb,qb⟩:=hb
 refine⟨ta,tb,pa,pb,λF0 B F H ρ σ d1 d2 R r e1 e2 w=>qa F0 B F H ρ σ d1 _ r e1 λx F1 H1 x1 l1=>?_⟩
 exact qb F0 B F1 H1 ρ σ d2 _ (r.ext x1) e2 λy F2 H2 x2 l2=>w x y F2 H2 (x1.trans x2) (l1.mono x2.ff x2.hh) l2
theorem yg {op:jD}{r:R2}{o:D->D->Option D}(ho:gw X (d5 op) r)(hs:mr X.K ct n m k r o)(ha:XE X ct ms n a f)(hb:XE X ct ms m b g):XE X ct ms k (.BinOp a op b pos) (e2 o f g):=by
 obtain⟨ta,tb,pa,pb,q⟩:=ha.bin hb
 refine⟨_,Oe ho pa pb,λF0 B F H ρ σ d Q rs e w=>?_⟩
 obtain⟨d1,d2,h1,h2,h3⟩:=dD e
 exact q F0 B F H ρ σ d1 d2 _ rs h1 h2 λx y F' H' x1 l1 l2=>hs F' H' x y d1 d2 d Q x1.fh l1 l2 h3 λv F2 H2 x2 l=>w v F2 H2 (x1.trans x2) l
theorem zv2 {op:jD}{r:R2}{o:D->D->Option D}(ho:gw X (d5 op) r)(hs:B9 X.K ct n m k r o)(ha:XE X ct ms n a f)(hb:XE X ct ms m b g):XO X ct ms k (.BinOp a op b pos) (e2 o f g):=by
 obtain⟨ta,tb,pa,pb,q⟩:=ha.bin hb
 refine⟨_,Oe ho pa pb,λF0 B F H ρ σ d Q rs e w=>?_⟩
 obtain⟨d1,d2,h1,h2,h3⟩:=dD e
 exact q F0 B F H ρ σ d1 d2 _ rs h1 h2 λx y F' H' x1 l1 l2=>hs F' H' x y d1 d2 d Q x1.fh l1 l2 h3 λv F2 H2 fp x2 l nd hf=>w v F2 H2 fp (x1.trans x2) l nd λz hz=>x1.hh.free (hf z hz)
theorem vW {op:lK}{r:R2}{o:D->D->Option D}(ho:gw X (cD op) r)(hs:mr X.K ct n m k r o)(ha:XE X ct ms n a f)(hb:XE X ct ms m b g)(hm:dC op b=false):XE X ct ms k (.Compare a [op] [b] pos) (e2 o f g):=by
 obtain⟨ta,tb,pa,pb,q⟩:=ha.bin hb
 refine⟨_,zqs ho pa pb hm,λF0 B F H ρ σ d Q rs e w=>?_⟩
 obtain⟨d1,d2,h1,h2,h3⟩:=dD e
 exact q F0 B F H ρ σ d1 d2 _ rs h1 h2 λx y F' H' x1 l1 l2=>hs F' H' x y d1 d2 d Q x1.fh l1 l2 h3 λv F2 H2 x2 l=>w v F2 H2 (x1.trans x2) l
theorem wD {r:R2}{o:D->D->Option D}(hr:tZ X r)(hs:mr X.K ct n m k r o)(ha:XE X ct ms n a f)(hb:XE X ct ms m b g)(hp:lU b):XE X ct ms k (.Subscript a b pos) (e2 o f g):=by
 obtain⟨ta,tb,pa,pb,q⟩:=ha.bin hb
 refine⟨_,Ts hr pa pb hp,λF0 B F H ρ σ d Q rs e w=>?_⟩
 obtain⟨d1,d2,h1,h2,h3⟩:=dD e
 exact q F0 B F H ρ σ d1 d2 _ rs h1 h2 λx y F' H' x1 l1 l2=>hs F' H' x y d1 d2 d Q x1.fh l1 l2 h3 λv F2 H2 x2 l=>w v F2 H2 (x1.trans x2) l
theorem zv3 {op:UnaryOp}{r:V->Hp->VK->Prop}{o:D->Option D}(ho:HW X (unaryOp op) r)
  (hs:∀(F H:Hp) (x:V) (d1 d:D) (Q:VK),bQ F H->Al X.K ct F H n d1 x->o d1=some d->(∀v F' H',gu F H F' H'->Al X.K ct F' H' k d v->Q v H')->r x H Q) (ha:XE X ct ms n a f):XE X ct ms k (.UnaryOp op a pos) (e1 o f):=by
 obtain⟨ta,pa,qa⟩:=ha
 refine⟨_,zvw ho pa,λF0 B F H ρ σ d Q rs e w=>?_⟩
 obtain⟨d1,h1,h2⟩:=aT e
 exact qa F0 B F H ρ σ d1 _ rs h1 λx F' H' x1 l1=>hs F' H' x d1 d Q x1.fh l1 h2 λv F2 H2 x2 l=>w v F2 H2 (x1.trans x2) l
theorem zj:XA X ct ms [] [] aNil:=⟨_,tP,λρ ds e=>(by cases e;rfl),λF0 B F H ρ σ ds Q r e w=>by cases e;exact w [] F H (.refl r.fh) .nil⟩
theorem ze {es:List Expr}{ns:List Nat}{fs:Env->Option (List D)}(ha:XE X ct ms n a f)(hr:XA X ct ms es ns fs)(hs:ao (a::es) X.env=(false,bF a X.env)::ao es X.env:=by rfl):XA X ct ms (a::es) (n::ns) (aCons f fs):=by
 obtain⟨ta,pa,qa⟩:=ha
 obtain⟨tb,pb,lb,qb⟩:=hr
 refine⟨_,v4 pa pb hs,λρ ds e=>(by obtain⟨x,xs,h1,h2,h3⟩:=dD e;cases h3;rw[aV,aV,lb _ _ h2]),λF0 B F H ρ σ ds Q r e w=>?_⟩
 obtain⟨x,xs,h1,h2,h3⟩:=dD e
 cases h3
 refine qa F0 B F H ρ σ x _ r h1 λv F1 H1 x1 l1=>?_
 exact qb F0 B F1 H1 ρ σ xs _ (r.ext x1) h2 λvs F2 H2 x2 l2=>w (v::vs) F2 H2 (x1.trans x2) (.cons (l1.mono x2.ff x2.hh) l2)
def Cb (X:Cx)(ct:Nat->ai)(ms:List Mo)(k:Nat)(es:List Expr)(f:Env->Option (List D)):Prop:=∃t,PA X es t/\(∀ρ ds,f ρ=some ds->ds.length=es.length)/\∀(F0 B F H:Hp) (ρ:Env) (σ:St) (ds:List D) (Q:List V->Hp->Prop),RS X.K ct F0 B ms F H ρ σ->f ρ=some ds ->
 (∀vs F' H' fp,gu F H F' H'->OwL (Ow X.K ct F' H' k) ds vs fp->fp.Nodup->(∀a∈fp,H a=none)->Q vs H')->t σ H Q
theorem wy:Cb X ct ms k [] aNil:=⟨_,tP,λρ ds e=>(by cases e;rfl),λF0 B F H ρ σ ds Q r e w=>by cases e;exact w [] F H [] (.refl r.fh) .nil bA λa z=>(by cases z)⟩
theorem zy {es:List Expr}{fs:Env->Option (List D)}(ha:XO X ct ms k a f)(hr:Cb X ct ms k es fs)(hs:ao (a::es) X.env=(false,bF a X.env)::ao es X.env:=by rfl):Cb X ct ms k (a::es) (aCons f fs):=by
 obtain⟨ta,pa,qa⟩:=ha
 obtain⟨tb,pb,lb,qb⟩:=hr
 refine⟨_,v4 pa pb hs,λρ ds e=>(by obtain⟨x,xs,h1,h2,h3⟩:=dD e;cases h3;rw[aV,aV,lb _ _ h2]),λF0 B F H ρ σ ds Q r e w=>?_⟩
 obtain⟨x,xs,h1,h2,h3⟩:=dD e
 cases h3
 refine qa F0 B F H ρ σ x _ r h1 λv F1 H1 f1 x1 l1 n1 a1=>?_
 refine qb F0 B F1 H1 ρ σ xs _ (r.ext x1) h2 λvs F2 H2 f2 x2 l2 n2 a2=>w (v::vs) F2 H2 (f1++f2) (x1.trans x2) (.cons (l1.ext x2) l2) (bj.mpr ⟨n1,n2,λz hz y hy e=>?_⟩) λz hz=>?_
 ·subst e
  obtain⟨_,o,ho⟩:=l1.cells z hz
  rw[a2 z hy]at ho
  cases ho
 ·rcases aZ.mp hz with hz|hz
  ·exact a1 z hz
  ·exact x1.hh.free (a2 z hz)
end
end L3
namespace L3
open PySem PySem.Spec L2
open PyProof.Rows hiding St
def HZ:D->Option Bool
 |.bl b=>some b
 |_=>none
theorem Hy {d:D}{b:Bool}(h:HZ d=some b):d=.bl b:=by cases d<;>simp[HZ]at h;subst h;rfl
abbrev BF:=Env->Option Bool
def tb (f:EF):BF:=λρ=>(f ρ).bind HZ
def bNot (f:BF):BF:=λρ=>(f ρ).bind λb=>some (!b)
def bAnd (f g:BF):BF:=λρ=>(f ρ).bind λb=>if b=true then g ρ else some false
def bOr (f g:BF):BF:=λρ=>(f ρ).bind λb=>if b=true then some true else g ρ
def eB (f:BF):EF:=λρ=>(f ρ).bind λb=>some (.bl b)
def eIf (c:BF)(f g:EF):EF:=λρ=>(c ρ).bind λb=>if b=true then f ρ else g ρ
section
variable {X:Cx}{ct:Nat->ai}{ms:List Mo}{n m k:Nat}{a b c e:Expr}{f g h:EF}{p q:BF}{pos:cW}
theorem jp (he:XE X ct ms n e f)(hi:∀whole,rY e X.env whole=(do let v ← whole;gN e.pos;d7 [v] (truthy v)):=by intro _;rfl):XT X ct ms e (tb f):=by
 obtain⟨t,pt,qt⟩:=he
 refine⟨_,zth pt hi,λF0 B F H ρ σ b Q r e w=>?_⟩
 obtain⟨d,h1,h2⟩:=aT e
 rw[Hy h2]at h1
 exact qt F0 B F H ρ σ _ _ r h1 λv F' H' x l=>⟨b,l.bl,w F' H' x⟩
theorem yp {op:lK}{r:R2}{o:D->D->Option D}(ho:gw X (cD op) r)(hs:mr X.K ct n m k r o)(ha:XE X ct ms n a f)(hb:XE X ct ms m b g)(hm:dC op b=false):XT X ct ms (.Compare a [op] [b] pos) (tb (e2 o f g)):=by
 obtain⟨ta,tb,pa,pb,q⟩:=ha.bin hb
 refine⟨_,zqt ho pa pb hm,λF0 B F H ρ σ b Q rs e w=>?_⟩
 obtain⟨d,h0,h4⟩:=aT e
 rw[Hy h4]at h0
 obtain⟨d1,d2,h1,h2,h3⟩:=dD h0
 exact q F0 B F H ρ σ d1 d2 _ rs h1 h2 λx y F' H' x1 l1 l2=>hs F' H' x y d1 d2 _ _ x1.fh l1 l2 h3 λv F2 H2 x2 l=>⟨b,l.bl,w F2 H2 (x1.trans x2)⟩
theorem XW.t (h:XW X ct ms e p):XT X ct ms e p:=by
 obtain⟨t,pt,qt⟩:=h
 exact⟨t,pt.pt,qt⟩
theorem Jy (ha:XT X ct ms a p):XW X ct ms (.BoolOp .And [a] pos) p:=by
 obtain⟨t,pt,qt⟩:=ha
 exact⟨t,zqm pt,qt⟩
theorem A7 (ha:XT X ct ms a p):XW X ct ms (.BoolOp .Or [a] pos) p:=by
 obtain⟨t,pt,qt⟩:=ha
 exact⟨t,zti pt,qt⟩
theorem JO {rest:List Expr}(ha:XT X ct ms a p)(hb:XW X ct ms (.BoolOp .And (b::rest) pos) q):XW X ct ms (.BoolOp .And (a::b::rest) pos) (bAnd p q):=by
 obtain⟨t,pt,qt⟩:=ha
 obtain⟨u,pu,qu⟩:=hb
 refine⟨_,ztj pt pu,λF0 B F H ρ σ r Q rs e w=>?_⟩
 obtain⟨x,h1,h2⟩:=aT e
 refine qt F0 B F H ρ σ x _ rs h1 λF1 H1 x1=>?_
 cases x with
 |true=>rw[if_pos rfl];exact qu F0 B F1 H1 ρ σ r _ (rs.ext x1) h2 λF2 H2 x2=>w F2 H2 (x1.trans x2)
 |false=>cases h2;rw[if_neg aU];exact w F1 H1 x1
theorem wF {rest:List Expr}(ha:XT X ct ms a p)(hb:XW X ct ms (.BoolOp .Or (b::rest) pos) q):XW X ct ms (.BoolOp .Or (a::b::rest) pos) (bOr p q):=by
 obtain⟨t,pt,qt⟩:=ha
 obtain⟨u,pu,qu⟩:=hb
 refine⟨_,zvt pt pu,λF0 B F H ρ σ r Q rs e w=>?_⟩
 obtain⟨x,h1,h2⟩:=aT e
 refine qt F0 B F H ρ σ x _ rs h1 λF1 H1 x1=>?_
 cases x with
 |true=>cases h2;rw[if_pos rfl];exact w F1 H1 x1
 |false=>rw[if_neg aU];exact qu F0 B F1 H1 ρ σ r _ (rs.ext x1) h2 λF2 H2 x2=>w F2 H2 (x1.trans x2)
theorem uB (ha:XT X ct ms a p):XT X ct ms (.UnaryOp .Not a pos) (bNot p):=by
 obtain⟨t,pt,qt⟩:=ha
 refine⟨_,ztk pt,λF0 B F H ρ σ r Q rs e w=>?_⟩
 obtain⟨x,h1,h2⟩:=aT e
 cases h2
 exact qt F0 B F H ρ σ x _ rs h1 λF1 H1 x1=>w F1 H1 x1
theorem xV {op}(ha:XE X ct ms n a f):XE X ct ms k (.BoolOp op [a] pos) (eB (tb f)):=by
 obtain⟨t,pt,qt⟩:=ha
 refine⟨_,ztl pt,λF0 B F H ρ σ r Q rs e w=>?_⟩
 obtain⟨y,h3,h4⟩:=aT e
 obtain⟨z,h5,h6⟩:=aT h3
 cases h4
 rw[Hy h6]at h5
 exact qt F0 B F H ρ σ _ _ rs h5 λv F1 H1 x1 l=>w _ F1 H1 x1 (by rw[l.bl];exact Al.of (.bl _))
theorem A8 {rest:List Expr}(ha:XE X ct ms n a f)(hb:XE X ct ms k (.BoolOp .And (b::rest) pos) (eB q)):XE X ct ms k (.BoolOp .And (a::b::rest) pos) (eB (bAnd (tb f) q)):=by
 obtain⟨t,pt,qt⟩:=ha
 obtain⟨u,pu,qu⟩:=hb
 refine⟨_,ztm pt pu,λF0 B F H ρ σ r Q rs e w=>?_⟩
 obtain⟨y,h3,h4⟩:=aT e
 obtain⟨x,h1,h2⟩:=aT h3
 obtain⟨z,h5,h6⟩:=aT h1
 cases h4
 rw[Hy h6]at h5
 refine qt F0 B F H ρ σ _ _ rs h5 λv F1 H1 x1 l=>⟨x,l.bl,?_⟩
 cases x with
 |true=>rw[if_pos rfl];exact qu F0 B F1 H1 ρ σ _ _ (rs.ext x1) (show(q ρ).bind _=_ by rw[if_pos rfl]at h2;rw[h2];rfl) λv F2 H2 x2 l=>w v F2 H2 (x1.trans x2) l
 |false=>rw[if_neg aU]at h2 ⊢;cases h2;exact w _ F1 H1 x1 (Al.of (.bl _))
theorem zv4 {rest:List Expr}(ha:XE X ct ms n a f)(hb:XE X ct ms k (.BoolOp .Or (b::rest) pos) (eB q)):XE X ct ms k (.BoolOp .Or (a::b::rest) pos) (eB (bOr (tb f) q)):=by
 obtain⟨t,pt,qt⟩:=ha
 obtain⟨u,pu,qu⟩:=hb
 refine⟨_,zvu pt pu,λF0 B F H ρ σ r Q rs e w=>?_⟩
 obtain⟨y,h3,h4⟩:=aT e
 obtain⟨x,h1,h2⟩:=aT h3
 obtain⟨z,h5,h6⟩:=aT h1
 cases h4
 rw[Hy h6]at h5
 refine qt F0 B F H ρ σ _ _ rs h5 λv F1 H1 x1 l=>⟨x,l.bl,?_⟩
 cases x with
 |true=>rw[if_pos rfl]at h2 ⊢;cases h2;exact w _ F1 H1 x1 (Al.of (.bl _))
 |false=>rw[if_neg aU];exact qu F0 B F1 H1 ρ σ _ _ (rs.ext x1) (show(q ρ).bind _=_ by rw[if_neg aU]at h2;rw[h2];rfl) λv F2 H2 x2 l=>w v F2 H2 (x1.trans x2) l
theorem HQ (hc:XT X ct ms c p)(ha:XE X ct ms k a f)(hb:XE X ct ms k b g):XE X ct ms k (.IfExp c a b pos) (eIf p f g):=by
 obtain⟨s,ps,qs⟩:=hc
 obtain⟨t,pt,qt⟩:=ha
 obtain⟨u,pu,qu⟩:=hb
 refine⟨_,znm ps pt pu,λF0 B F H ρ σ r Q rs e w=>?_⟩
 obtain⟨x,h1,h2⟩:=aT e
 refine qs F0 B F H ρ σ x _ rs h1 λF1 H1 x1=>?_
 cases x with
 |true=>rw[if_pos rfl]at h2 ⊢;exact qt F0 B F1 H1 ρ σ _ _ (rs.ext x1) h2 λv F2 H2 x2 l=>w v F2 H2 (x1.trans x2) l
 |false=>rw[if_neg aU]at h2 ⊢;exact qu F0 B F1 H1 ρ σ _ _ (rs.ext x1) h2 λv F2 H2 x2 l=>w v F2 H2 (x1.trans x2) l
theorem tQ {es:List Expr}{fs:Env->Option (List D)}{x1}(h:Cb X ct ms k es fs)(hl:es.length<=1000:=by decide):XO X ct ms (k+1) (.Tuple es x1 pos) (λρ=>(fs ρ).bind λds=>some (.tup ds)):=by
 obtain⟨t,pt,lt,qt⟩:=h
 refine⟨_,ztx pt,λF0 B F H ρ σ r Q rs e w=>?_⟩
 obtain⟨ds,h1,h2⟩:=aT e
 cases h2
 refine qt F0 B F H ρ σ ds _ rs h1 λvs F1 H1 fp x1 l nd hf=>⟨?_,λp hp=>?_⟩
 ·rw[←l.length,lt _ _ h1];exact small hl
 ·have x2:=gu.newS x1.fh hp (.tup vs)
  exact w _ _ _ fp (x1.trans x2) (.inr (.tup yx (l.mono λ_ _ _ _ o=>o.ext x2))) nd hf
theorem OwL.cellsOf {K:ae}{F H:Hp}{ds:List D}{vs:List V}{fp:List ai}(l:OwL (Ow K ct F H k) ds vs fp):∀a∈fp,F a=none/\∃o,H a=some o:=Ow.cells.OwL.cells (λd v f q=>Ow.cells q) l
theorem NN {K:ae}{F H:Hp}{ds:List D}{vs:List V}{fp:List ai}{p:ai}(s:bQ F H)(l:OwL (Ow K ct F H k) ds vs fp)(hp:H p=none):Ow K ct F (upd H p (.lst vs)) (k+1) (.lst ds) (.ref p) (p::fp)/\(fp.Nodup->(p::fp).Nodup) :=
 ⟨.inr (.lst (s.free hp) yx (l.mono λ_ _ _ _ o=>o.ext (gu.newO s hp _))),λnd=>bw.mpr ⟨λz=>(by
  obtain⟨_,o,ho⟩:=OwL.cellsOf l p z
  rw[hp]at ho
  cases ho),nd⟩⟩
theorem uC {es:List Expr}{fs:Env->Option (List D)}(h:Cb X ct ms k es fs)(hl:es.length<=1000:=by decide):XO X ct ms (k+1) (.List es pos) (λρ=>(fs ρ).bind λds=>some (.lst ds)):=by
 obtain⟨t,pt,lt,qt⟩:=h
 refine⟨_,zty pt,λF0 B F H ρ σ r Q rs e w=>?_⟩
 obtain⟨ds,h1,h2⟩:=aT e
 cases h2
 refine qt F0 B F H ρ σ ds _ rs h1 λvs F1 H1 fp x1 l nd hf=>⟨?_,λp hp=>?_⟩
 ·rw[←l.length,lt _ _ h1];exact small hl
 ·obtain⟨o,n2⟩:=NN x1.fh l hp
  refine w _ _ _ (p::fp) (x1.trans (gu.newO x1.fh hp _)) o (n2 nd) λz hz=>?_
  rcases aC.mp hz with rfl|hz
  ·exact x1.hh.free hp
  ·exact hf z hz
theorem Jh:XO X ct ms (k+1) (.Dict [] [] pos) (eC (.dK [] [])):=by
 refine⟨_,zn0,λF0 B F H ρ σ r Q rs e w p hp=>?_⟩
 cases e
 refine w _ F _ [p] (gu.newO rs.fh hp _) (.inr (t5.dK (vs:=[]) (rs.fh.free hp) yx rfl .nil)) (by simp) λz hz=>?_
 rw[ax]at hz;subst hz;exact hp
theorem zn4:XO X ct ms (k+1) (.Dict [] [] pos) (eC (.dT [] [])):=by
 refine⟨_,zn1,λF0 B F H ρ σ r Q rs e w p hp=>?_⟩
 cases e
 refine w _ F _ [p] (gu.newO rs.fh hp _) (.inr (t5.dT (vs:=[]) (rs.fh.free hp) yx rfl .nil)) (by simp) λz hz=>?_
 rw[ax]at hz;subst hz;exact hp
def fY (K:ae)(ct:Nat->ai)(pm:List Nat)(rk:Nat)(m:List D->Option D):Sp:=λvs H Q _=>∃(F:Hp) (ds:List D) (d:D),bQ F H/\iU K ct F H pm ds vs/\m ds=some d /\
 ∀v F' H' fp,gu F H F' H'->Ow K ct F' H' rk d v fp->fp.Nodup->(∀a∈fp,H a=none)->Q v H'
theorem fY.len {K:ae}{ct:Nat->ai}{pm:List Nat}{rk:Nat}{m:List D->Option D}{ps:List aR}(h:pm.length=ps.length):∀vs H Q E,fY K ct pm rk m vs H Q E->vs.length=ps.length:=by
 rintro vs H Q E ⟨F,ds,d,_,l,_⟩
 rw[l.length,h]
variable {kk:Nat}{fa:ai}{fd:aH}{ps:List aR}{pm:List Nat}{rk:Nat}{mf:List D->Option D}{x:aR}{pp:cW}
theorem Sl {es:List Expr}{ns nd:List Nat}{fs:Env->Option (List D)}{iW:List V}{lB:List D}{lC:List af}(Fn:cz X.prog X.w X.K X.mg X.base eJ kk fa fd ps (fY X.K ct (ns++nd) rk mf))(hr:eA kk X.A)(hg:Gl X x)(hm:X.mg x=some (.ref fa))(hk:am X.K (.ref fa)=true)
  (hb:bC X.K fd ps lC) (hd:bX iW lC) (uW:∀F G,iU X.K ct F G nd lB iW) (ha:XA X ct ms (e::es) ns fs)
  (kP:(x==("__debug__":aR))=false:=by decide) (he:ao (e::es) X.env=(false,bF e X.env)::ao es X.env:=by rfl) (iy:(cy pos (ao es X.env)).any (·.1)=false:=by rfl) :
  XO X ct ms rk (.Call (.Name x pp) (e::es) [] pos) (λρ=>(fs ρ).bind λds=>mf (ds++lB)):=by
 obtain⟨t,pt,_,qt⟩:=ha
 refine⟨_,R9 Fn hr hg hm hk hb hd nH pt kP he iy,λF0 B F H ρ σ r Q rs e w=>?_⟩
 obtain⟨ds,h1,h2⟩:=aT e
 refine qt F0 B F H ρ σ ds _ rs h1 λvs F1 H1 x1 l=>⟨F1,ds++lB,r,x1.fh,iU.append (uW F1 H1) l,h2,λv F2 H2 fp x2 o nd hf=>?_⟩
 exact w v F2 H2 fp (x1.trans x2) o nd λz hz=>x1.hh.free (hf z hz)
theorem u7 {es:List Expr}{ns:List Nat}{fs:Env->Option (List D)}{id:String}{r:List V->Hp->VK->Prop}{op:List D->Option D}(hc:eF X (.builtin id) r)(hs:t4 X.K ct ns k r op)(hg:Gl X x)(hm:X.mg x=none)(hv:bS x=some (.builtin id))(ha:XA X ct ms (e::es) ns fs)
  (hn:x≠"__name__":=by decide) (kP:(x==("__debug__":aR))=false:=by decide) (he:ao (e::es) X.env=(false,bF e X.env)::ao es X.env:=by rfl) (iy:(cy pos (ao es X.env)).any (·.1)=false:=by rfl) :
  XE X ct ms k (.Call (.Name x pp) (e::es) [] pos) (eN op fs):=by
 obtain⟨t,pt,_,qt⟩:=ha
 refine⟨_,Jg hc hg hm hv pt hn kP he iy,λF0 B F H ρ σ r Q rs e w=>?_⟩
 obtain⟨ds,h1,h2⟩:=aT e
 exact qt F0 B F H ρ σ ds _ rs h1 λvs F1 H1 x1 l=>hs F1 H1 vs ds r Q x1.fh l h2 λv F2 H2 x2 l2=>w v F2 H2 (x1.trans x2) l2
theorem zn5 {es:List Expr}{ns:List Nat}{fs:Env->Option (List D)}{id:String}{r:List V->Hp->VK->Prop}{op:List D->Option D}(hc:eF X (.builtin id) r)(hs:sJ X.K ct ns k r op)(hg:Gl X x)(hm:X.mg x=none)(hv:bS x=some (.builtin id))(ha:XA X ct ms (e::es) ns fs)
  (hn:x≠"__name__":=by decide) (kP:(x==("__debug__":aR))=false:=by decide) (he:ao (e::es) X.env=(false,bF e X.env)::ao es X.env:=by rfl) (iy:(cy pos (ao es X.env)).any (·.1)=false:=by rfl) :
  XO X ct ms k (.Call (.Name x pp) (e::es) [] pos) (eN op fs):=by
 obtain⟨t,pt,_,qt⟩:=ha
 refine⟨_,Jg hc hg hm hv pt hn kP he iy,λF0 B F H ρ σ r Q rs e w=>?_⟩
 obtain⟨ds,h1,h2⟩:=aT e
 exact qt F0 B F H ρ σ ds _ rs h1 λvs F1 H1 x1 l=>hs F1 H1 vs ds r Q x1.fh l h2 λv F2 H2 fp x2 l2 nd hf=>w v F2 H2 fp (x1.trans x2) l2 nd λz hz=>x1.hh.free (hf z hz)
theorem zlu {es:List Expr}{ns:List Nat}{fs:Env->Option (List D)}{id:String}{r:List V->Hp->VK->Prop}{op:List D->Option D}(hc:eF X (.type id) r)(hs:t4 X.K ct ns k r op)(hg:Gl X x)(hm:X.mg x=none)(hv:bS x=some (.type id))(ha:XA X ct ms (e::es) ns fs)
  (hn:x≠"__name__":=by decide) (kP:(x==("__debug__":aR))=false:=by decide) (he:ao (e::es) X.env=(false,bF e X.env)::ao es X.env:=by rfl) (iy:(cy pos (ao es X.env)).any (·.1)=false:=by rfl) :
  XE X ct ms k (.Call (.Name x pp) (e::es) [] pos) (eN op fs):=by
 obtain⟨t,pt,_,qt⟩:=ha
 refine⟨_,Ri hc hg hm hv pt hn kP he iy,λF0 B F H ρ σ r Q rs e w=>?_⟩
 obtain⟨ds,h1,h2⟩:=aT e
 exact qt F0 B F H ρ σ ds _ rs h1 λvs F1 H1 x1 l=>hs F1 H1 vs ds r Q x1.fh l h2 λv F2 H2 x2 l2=>w v F2 H2 (x1.trans x2) l2
theorem Nl {es:List Expr}{ns:List Nat}{fs:Env->Option (List D)}{id:String}{r:List V->Hp->VK->Prop}{op:List D->Option D}(hc:eF X (.type id) r)(hs:sJ X.K ct ns k r op)(hg:Gl X x)(hm:X.mg x=none)(hv:bS x=some (.type id))(ha:XA X ct ms (e::es) ns fs)
  (hn:x≠"__name__":=by decide) (kP:(x==("__debug__":aR))=false:=by decide) (he:ao (e::es) X.env=(false,bF e X.env)::ao es X.env:=by rfl) (iy:(cy pos (ao es X.env)).any (·.1)=false:=by rfl) :
  XO X ct ms k (.Call (.Name x pp) (e::es) [] pos) (eN op fs):=by
 obtain⟨t,pt,_,qt⟩:=ha
 refine⟨_,Ri hc hg hm hv pt hn kP he iy,λF0 B F H ρ σ r Q rs e w=>?_⟩
 obtain⟨ds,h1,h2⟩:=aT e
 exact qt F0 B F H ρ σ ds _ rs h1 λvs F1 H1 x1 l=>hs F1 H1 vs ds r Q x1.fh l h2 λv F2 H2 fp x2 l2 nd hf=>w v F2 H2 fp (x1.trans x2) l2 nd λz hz=>x1.hh.free (hf z hz)
def cw (cs:List Nat)(x:aR):D->Option D
 |.obj c ns ds=>if cs.contains c=true then(ns.zip ds).lookup x else none
 |_=>none
theorem QZ {R:D->V->Prop}{x:aR}{d:D}:∀{ns:List aR} {ds:List D} {vs:List V},Pr R ds vs->(ns.zip ds).lookup x=some d->∃v,(ns.zip vs).lookup x=some v/\R d v
 |[],_,_,_,e=>by simp at e
 |_::_,_,_,.nil,e=>by simp at e
 |y::ns,_,_,.cons h t,e=>by
  rw[fJ,bo]at e
  rw[fJ,bo]
  cases q:x==y with
  |true=>rw[q]at e;cases e;exact⟨_,rfl,h⟩
  |false=>rw[q]at e;exact QZ t e
theorem Ny {vs:List V}{x:aR}:∀{ns:List aR} {vs:List V},ns.contains x=false->(ns.zip vs).lookup x=none
 |[],_,_=>by simp
 |_::_,[],_=>by simp
 |y::ns,_::vs,h=>by
  rw[qT,pH]at h
  rw[fJ,bo,h.1]
  exact Ny (vs:=vs) h.2
theorem yr {x:aR}{cs:List Nat}(he:XE X ct ms n e f)(hc:∀c∈cs,kE X.K (ct c)/\fO X.K (ct c) x)(hb:er e x X.env (bF e X.env)=bF e X.env):XE X ct ms (n-1) (.Attribute e x pos) (e1 (cw cs x) f):=by
 obtain⟨t,pt,qt⟩:=he
 refine⟨_,ztv pt hb,λF0 B F H ρ σ r Q rs e w=>?_⟩
 obtain⟨o,h1,h2⟩:=aT e
 refine qt F0 B F H ρ σ o _ rs h1 λv F1 H1 x1 l=>?_
 cases o with
 |obj c ns ds=>
  obtain⟨a,dx,vs,rfl,ha,hl,LG⟩:=l.obj x1.fh
  unfold cw at h2
  dsimp only at h2
  by_cases Ak:cs.contains c=true
  ·rw[if_pos Ak]at h2
   obtain⟨u,hu,du⟩:=QZ LG h2
   have hh:=hc c (by simpa using Ak)
   exact⟨a,_,dx,_,u,rfl,ha,hh.1,hh.2,hu,w u F1 H1 x1 du⟩
  ·rw[if_neg Ak]at h2;cases h2
 |_=>cases h2
def iq (c0:Nat)(m:aR)(mf:List D->Option D)(o:D)(ds:List D):Option D:=match o with
 |.obj c ns _=>if c=c0/\ns.contains m=false then mf (o::ds)else none
 |_=>none
theorem Sm {o:Expr}{x:aR}{dB:cW}{pl:oI Bool}{es:List Expr}{ns nd:List Nat}{fs:Env->Option (List D)}{iW:List V}{lB:List D}{lC:List af}{c0:Nat}(ho:XE X ct ms n o f)(c:kE X.K (ct c0))(hm:pR X.K (ct c0) x fa)(Fn:cz X.prog X.w X.K X.mg X.base eJ kk fa fd ps (fY X.K ct (n::(ns++nd)) rk mf))(hr:eA kk X.A)
  (hb:bC X.K fd ps lC) (hd:bX iW lC) (uW:∀F G,iU X.K ct F G nd lB iW) (ha:XA X ct ms (e::es) ns fs)
  (mH:ao (e::es) X.env=(false,bF e X.env)::ao es X.env:=by rfl) (iy:(cy pos (ao es X.env)).any (·.1)=false:=by rfl)
  (ht:bF (.Call (.Attribute o x dB) (e::es) [] pos) X.env=(do
   let ov ← bF o X.env
   gN dB.atName
   let(f,first) ← d7 [ov] (gJ ov x pl)
   jE pos f first (cy pos (ao (e::es) X.env)) (eU pos (dh [] X.env))):=by rfl) :
  XO X ct ms rk (.Call (.Attribute o x dB) (e::es) [] pos) (λρ=>(f ρ).bind λo=>(fs ρ).bind λds=>iq c0 x mf o (ds++lB)):=by
 obtain⟨u,pu,qu⟩:=ho
 obtain⟨t,pt,_,qt⟩:=ha
 refine⟨_,zqy pu c hm Fn hr hb hd nH pt mH iy ht,λF0 B F H ρ σ r Q rs e w=>?_⟩
 obtain⟨o,ds,h1,h2,h3⟩:=dD e
 refine qu F0 B F H ρ σ o _ rs h1 λv F1 H1 x1 l=>?_
 cases o with
 |obj c1 oB nS=>
  unfold iq at h3
  dsimp only at h3
  split at h3
  ·rename_i hc
   obtain⟨rfl,i7⟩:=hc
   obtain⟨a,dx,vs,rfl,ha,hl,LG⟩:=l.obj x1.fh
   refine⟨a,dx,_,rfl,ha,Ny (vs:=vs) i7,?_⟩
   refine qt F0 B F1 H1 ρ σ ds _ (rs.ext x1) h2 λus F2 H2 x2 l2=>⟨F2,_,r,x2.fh,.cons (l.mono x2.ff x2.hh) (iU.append (uW F2 H2) l2),h3,λv F3 H3 fp x3 o nd hf=>?_⟩
   exact w v F3 H3 fp ((x1.trans x2).trans x3) o nd λz hz=>(x1.trans x2).hh.free (hf z hz)
  ·cases h3
 |_=>cases h3
theorem Hz {o:Expr}{x:aR}{dB:cW}{pl:oI Bool}{nd:List Nat}{iW:List V}{lB:List D}{lC:List af}{c0:Nat}(ho:XE X ct ms n o f)(c:kE X.K (ct c0))(hm:pR X.K (ct c0) x fa)(Fn:cz X.prog X.w X.K X.mg X.base eJ kk fa fd ps (fY X.K ct (n::nd) rk mf))(hr:eA kk X.A)
  (hb:bC X.K fd ps lC) (hd:bX iW lC) (uW:∀F G,iU X.K ct F G nd lB iW)
  (ht:bF (.Call (.Attribute o x dB) [] [] pos) X.env=(do
   let ov ← bF o X.env
   gN dB.atName
   let(f,first) ← d7 [ov] (gJ ov x pl)
   jE pos f first (cy pos (ao [] X.env)) (eU pos (dh [] X.env))):=by rfl) :
  XO X ct ms rk (.Call (.Attribute o x dB) [] [] pos) (λρ=>(f ρ).bind λo=>iq c0 x mf o lB):=by
 obtain⟨u,pu,qu⟩:=ho
 refine⟨_,znt pu c hm Fn hr hb hd nH ht,λF0 B F H ρ σ r Q rs e w=>?_⟩
 obtain⟨o,h1,h3⟩:=aT e
 refine qu F0 B F H ρ σ o _ rs h1 λv F1 H1 x1 l=>?_
 cases o with
 |obj c1 oB nS=>
  unfold iq at h3
  dsimp only at h3
  split at h3
  ·rename_i hc
   obtain⟨rfl,i7⟩:=hc
   obtain⟨a,dx,vs,rfl,ha,hl,LG⟩:=l.obj x1.fh
   refine⟨a,dx,_,rfl,ha,Ny (vs:=vs) i7,F1,_,r,x1.fh,.cons l (uW F1 H1),h3,λv F3 H3 fp x3 o nd hf=>?_⟩
   exact w v F3 H3 fp (x1.trans x3) o nd λz hz=>x1.hh.free (hf z hz)
  ·cases h3
 |_=>cases h3
end
end L3
namespace L3
open PySem PySem.Spec L2
open PyProof.Rows hiding St
inductive Out where
 |nx (ρ:Env)|rt (d:D)|bk (ρ:Env)|ct (ρ:Env)
abbrev SF:=Env->Option Out
def lA (K:ae)(cl:Nat->ai)(F0 B:Hp)(ms:List Mo)(rk:Nat)(E:kL):Out->Prop
 |.nx ρ=>∀σ F H,RS K cl F0 B ms F H ρ σ->E.nx σ H
 |.bk ρ=>∀σ F H,RS K cl F0 B ms F H ρ σ->E.bk σ H
 |.ct ρ=>∀σ F H,RS K cl F0 B ms F H ρ σ->E.ct σ H
 |.rt d=>∀v F H fp,bQ F0 F->bQ B H->bQ F H->(∀a o,B a=some o->F0 a=none->F a=none)->Ow K cl F H rk d v fp->fp.Nodup->(∀a∈fp,B a=none)->E.rt v H
section
variable (X:Cx)(ct:Nat->ai)(ms:List Mo)(rk:Nat)
def XS (st:bR)(f:SF):Prop:=∃t,PS X st t/\∀(F0 B F H:Hp) (ρ:Env) (σ:St) (o:Out) (E:kL),RS X.K ct F0 B ms F H ρ σ->f ρ=some o->lA X.K ct F0 B ms rk E o->t E σ H
def rq (st:List bR)(f:SF):Prop:=∃t,pT X st t/\∀(F0 B F H:Hp) (ρ:Env) (σ:St) (o:Out) (E:kL),RS X.K ct F0 B ms F H ρ σ->f ρ=some o->lA X.K ct F0 B ms rk E o->t E σ H
end
def sSkip:SF:=λρ=>some (.nx ρ)
def sSeq (f g:SF):SF:=λρ=>(f ρ).bind λo=>match o with
 |.nx ρ'=>g ρ'
 |o=>some o
def sIf (c:BF)(f g:SF):SF:=λρ=>(c ρ).bind λb=>if b=true then f ρ else g ρ
def sSet (i:Nat)(f:EF):SF:=λρ=>(f ρ).bind λd=>some (.nx (ρ.set i (some d)))
def sRet (f:EF):SF:=λρ=>(f ρ).bind λd=>some (.rt d)
def sRetN:SF:=λ_=>some (.rt .non)
def sDrop (f:EF):SF:=λρ=>(f ρ).bind λ_=>some (.nx ρ)
def n4:SF:=λ_=>none
def lN:Nat:=2 ^ 9000
def iu (c:BF)(b:SF):Nat->SF
 |0,_=>none
 |n+1,ρ=>(c ρ).bind λt=>if t=true then(b ρ).bind λo=>match o with
   |.nx ρ'=>iu c b n ρ'
   |.ct ρ'=>iu c b n ρ'
   |.bk ρ'=>some (.nx ρ')
   |.rt d=>some (.rt d)
  else some (.nx ρ)
def gb (c:BF)(b:SF):SF:=iu c b lN
def fP (g:D->Env->Option Env)(b:SF):List D->SF
 |[],ρ=>some (.nx ρ)
 |d::ds,ρ=>(g d ρ).bind λρ1=>(b ρ1).bind λo=>match o with
   |.nx ρ'=>fP g b ds ρ'
   |.ct ρ'=>fP g b ds ρ'
   |.bk ρ'=>some (.nx ρ')
   |.rt d=>some (.rt d)
def sFor (f:Env->Option (List D))(g:D->Env->Option Env)(b:SF):SF:=λρ=>(f ρ).bind λds=>fP g b ds ρ
section
variable {X:Cx}{ct:Nat->ai}{ms:List Mo}{rk n m k:Nat}{st:bR}{rest:List bR}{a b c e:Expr}{f g h:EF}{p q:BF}{u w:SF}{pos:cW}
theorem yq:rq X ct ms rk [] sSkip:=⟨_,zqn,λF0 B F H ρ σ o E rs e w=>by cases e;exact w σ F H rs⟩
theorem zf (h1:XS X ct ms rk st u)(h2:rq X ct ms rk rest w):rq X ct ms rk (st::rest) (sSeq u w):=by
 obtain⟨t,pt,qt⟩:=h1
 obtain⟨t2,lR,oZ⟩:=h2
 refine⟨_,Rz pt lR,λF0 B F H ρ σ o E rs e z=>?_⟩
 obtain⟨o1,e1,e2⟩:=aT e
 refine qt F0 B F H ρ σ o1 _ rs e1 ?_
 cases o1 with
 |nx ρ'=>exactλσ' F' H' Mz=>oZ F0 B F' H' ρ' σ' o E Mz e2 z
 |rt d=>cases e2;exact z
 |bk ρ'=>cases e2;exact z
 |ct ρ'=>cases e2;exact z
theorem zh (h1:XS X ct ms rk st u):rq X ct ms rk [st] u:=by
 obtain⟨t,pt,qt⟩:=h1
 exact⟨_,Sb pt,qt⟩
theorem Nz:XS X ct ms rk st n4:=⟨_,znn,λF0 B F H ρ σ o E rs e w=>by cases e⟩
theorem zw (he:XO X ct ms rk e f):XS X ct ms rk (.Return (some e) pos) (sRet f):=by
 obtain⟨t,pt,qt⟩:=he
 refine⟨_,JK pt,λF0 B F H ρ σ o E rs e w=>?_⟩
 obtain⟨d,h1,h2⟩:=aT e
 cases h2
 refine qt F0 B F H ρ σ d _ rs h1 λv F' H' fp x l nd hf=>?_
 have r:=rs.ext x
 exact w v F' H' fp r.f0 r.bh r.fh r.nf l nd λz hz=>rs.bh.free (hf z hz)
theorem zrb {i:Nat}{x:aR}{pos':cW}(hm:ms[i]?=some (.ow rk))(hN:X.N[i]?=some x:=by rfl)(hv:ou X.env.scope x:=by first|exact Or.inl rfl|exact Or.inr (Or.inl rfl)|exact Or.inr (Or.inr rfl))(hd:(x==("__debug__":aR))=false:=by decide)
  (iL:(x==("__classdict__":aR))=false:=by decide):XS X ct ms rk (.Return (some (.Name x pos')) pos) (sRet (eV i)):=by
 refine⟨_,JK (jo hN hv hd iL),λF0 B F H ρ σ o E rs e w=>?_⟩
 obtain⟨d,h1,h2⟩:=aT e
 cases h2
 obtain⟨fp,sl,nd,hb⟩:=rs.sl
 obtain⟨f1,fr,i1,i2,i3,i4,i5⟩:=sl.put hm
 obtain⟨v,E1,l⟩:=i4 d (yf h1)
 exact⟨v,E1,w v F H f1 rs.f0 rs.bh rs.fh rs.nf l (i3 nd).1 λz hz=>hb z (i1 z hz)⟩
theorem vn {Qf uA:List bR}(hc:XT X ct ms c p)(h1:rq X ct ms rk Qf u)(h2:rq X ct ms rk uA w):XS X ct ms rk (.If c Qf uA pos) (sIf p u w):=by
 obtain⟨t,pt,qt⟩:=hc
 obtain⟨t1,vI,vK⟩:=h1
 obtain⟨t2,lR,oZ⟩:=h2
 refine⟨_,zvv pt vI lR,λF0 B F H ρ σ o E rs e z=>?_⟩
 obtain⟨x,h1,h2⟩:=aT e
 refine qt F0 B F H ρ σ x _ rs h1 λF1 H1 x1=>?_
 cases x with
 |true=>rw[if_pos rfl]at h2 ⊢;exact vK F0 B F1 H1 ρ σ o E (rs.ext x1) h2 z
 |false=>rw[if_neg aU]at h2 ⊢;exact oZ F0 B F1 H1 ρ σ o E (rs.ext x1) h2 z
theorem RS.put {K:ae}{F0 B F H F' H':Hp}{ρ:Env}{σ:St}{i:Nat}(rs:RS K ct F0 B ms F H ρ σ)(hm:ms[i]?=some (.ow k)) :
  ∃f1 fr:List ai,f1.Nodup/\(∀a∈f1,B a=none)/\(∀a∈f1,a∉fr)/\(∀d,ρ[i]?=some (some d)->∃v,σ[i]?=some (some v)/\Ow K ct F H k d v f1)/\(∀a∈fr,F a=none/\∃o,H a=some o) /\
   ∀(F' H':Hp) (d':D) (v':V) (f':List ai),bQ F F'->bQ B H'->bQ F' H'->(∀a o,B a=some o->F0 a=none->F' a=none)->(∀a∈fr,H' a=H a/\F' a=none)->Ow K ct F' H' k d' v' f'->f'.Nodup->(∀a∈f',a∉fr)->(∀a∈f',B a=none) ->
    RS K ct F0 B ms F' H' (ρ.set i (some d')) (σ.set i (some v')):=by
 obtain⟨fp,sl,nd,hb⟩:=rs.sl
 obtain⟨f1,fr,i1,i2,i3,i4,i5⟩:=sl.put hm
 obtain⟨n1,n2,n3⟩:=i3 nd
 refine⟨f1,fr,n1,λa z=>hb a (i1 a z),n3,i4,λa z=>sl.cells a (i2 a z),λF' H' d' v' f' s1 s2 s3 s4 kf o Wp dj Vx=>?_⟩
 obtain⟨hX,q1,q2,q3⟩:=i5 F' H' d' v' f' s1 kf o
 exact⟨rs.f0.trans s1,s2,s3,s4,hX,q1,q3 Wp n2 dj,λa z=>(q2 a z).elim (Vx a) λz=>hb a (i2 a z)⟩
theorem RS.set {K:ae}{F0 B F H F' H':Hp}{ρ:Env}{σ:St}{i:Nat}{d:D}{v:V}{fp:List ai}(rs:RS K ct F0 B ms F H ρ σ)(hm:ms[i]?=some (.ow k))(x:gu F H F' H')(o:Ow K ct F' H' k d v fp)(nd:fp.Nodup)(hf:∀a∈fp,H a=none) :
  RS K ct F0 B ms F' H' (ρ.set i (some d)) (σ.set i (some v)):=by
 have r:=rs.ext x
 obtain⟨f1,fr,n1,b1,n3,i4,cf,put⟩:=rs.put (F':=F') (H':=H') hm
 refine put F' H' d v fp x.ff r.bh x.fh r.nf (λa z=>?_) o nd (λa z zb=>?_) λa z=>rs.bh.free (hf a z)
 ·obtain⟨hn,o,ho⟩:=cf a z
  exact⟨(x.hh _ _ ho).trans ho.symm,x.nf a o ho hn⟩
 ·obtain⟨hn,o,ho⟩:=cf a zb
  rw[hf a z]at ho
  cases ho
theorem zug {i:Nat}{x:aR}{pos':cW}(hm:ms[i]?=some (.ow k))(hN:X.N.Nodup)(hi:X.N[i]?=some x)(hx:Loc X.env.scope x)(he:XO X ct ms k e f)(hs:dW e (some (.Name x pos')) pos.line X.env=pure false:=by rfl)
  (hf:X.fn x=true\/X.env.scope.names.lookup x=some .local:=by first|exact .inl rfl|exact .inr rfl|assumption):XS X ct ms rk (.Assign [.Name x pos'] e pos) (sSet i f):=by
 obtain⟨t,pt,qt⟩:=he
 refine⟨_,Tc hN hi hx pt hs hf,λF0 B F H ρ σ o E rs e w=>?_⟩
 obtain⟨d,h1,h2⟩:=aT e
 cases h2
 exact qt F0 B F H ρ σ d _ rs h1 λv F' H' fp x l nd hf=>w _ F' H' (rs.set hm x l nd hf)
theorem BC (hc:XT X ct ms c p)(hb:rq X ct ms rk rest u)(hp:bV (ba X.prog X.w) X.A X.env X.xe):XS X ct ms rk (.While c rest [] pos) (gb p u):=by
 obtain⟨t,pt,qt⟩:=hc
 obtain⟨t1,vI,vK⟩:=hb
 refine⟨_,zno hp pt vI,λF0 B F H ρ σ o E rs e z=>?_⟩
 refine⟨λm σ H=>∃F ρ,RS X.K ct F0 B ms F H ρ σ/\iu p u m ρ=some o,⟨lN,F,ρ,rs,e⟩,?_⟩
 rintro m σ H ⟨F,ρ,rs,e⟩
 cases m with
 |zero=>cases e
 |succ m=>
  obtain⟨x,h1,h2⟩:=aT e
  refine qt F0 B F H ρ σ x _ rs h1 λF1 H1 x1=>?_
  cases x with
  |true=>
   rw[if_pos rfl]at h2 ⊢
   obtain⟨o1,h3,h4⟩:=aT h2
   refine⟨λσ H=>∃F ρ,RS X.K ct F0 B ms F H ρ σ/\iu p u m ρ=some o,λσ' H' h=>⟨m,iO m,h⟩,?_⟩
   refine vK F0 B F1 H1 ρ σ o1 _ (rs.ext x1) h3 ?_
   cases o1 with
   |nx ρ'=>exactλσ' F' H' r=>⟨F',ρ',r,h4⟩
   |ct ρ'=>exactλσ' F' H' r=>⟨F',ρ',r,h4⟩
   |bk ρ'=>cases h4;exact z
   |rt d=>cases h4;exact z
  |false=>
   rw[if_neg aU]at h2 ⊢
   cases h2
   exact z σ F1 H1 (rs.ext x1)
theorem RS.re {K:ae}{F0 B F H:Hp}{ρ:Env}{σ:St}(r:RS K ct F0 B ms F H ρ σ):RS K ct F B ms F H ρ σ:=⟨.refl _,r.bh,r.fh,λ_ _ _ h=>h,r.sl⟩
theorem RS.back {K:ae}{F0 B F H F' H':Hp}{ρ ρ':Env}{σ σ':St}(r:RS K ct F0 B ms F H ρ σ)(q:RS K ct F B ms F' H' ρ' σ'):RS K ct F0 B ms F' H' ρ' σ' :=
 ⟨r.f0.trans q.f0,q.bh,q.fh,λa o h n=>q.nf a o h (r.nf a o h n),q.sl⟩
theorem lA.re {K:ae}{F0 B F H:Hp}{ρ:Env}{σ:St}{E:kL}{o:Out}(r:RS K ct F0 B ms F H ρ σ)(z:lA K ct F0 B ms rk E o):lA K ct F B ms rk E o:=by
 cases o with
 |nx ρ=>exactλσ' F' H' q=>z σ' F' H' (r.back q)
 |bk ρ=>exactλσ' F' H' q=>z σ' F' H' (r.back q)
 |ct ρ=>exactλσ' F' H' q=>z σ' F' H' (r.back q)
 |rt d=>exactλv F' H' fp s1 s2 s3 s4=>z v F' H' fp (r.f0.trans s1) s2 s3 λa o h n=>s4 a o h (r.nf a o h n)
def rn (K:ae)(ct:Nat->ai)(F B:Hp)(n:Nat)(J:It)(ds:List D):Prop :=
 ∀(i:Nat) (F' H':Hp),bQ F F'->bQ B H'->bQ F' H'->(∀d,ds[i]?=some d->J.go i H'/\∀x H2,J.yld i H' x H2->∃F2,gu F' H' F2 H2/\Al K ct F2 B n d x)/\(ds.length<=i->J.stop i H')
def XI (X:Cx)(ct:Nat->ai)(ms:List Mo)(n:Nat)(tg iter:Expr)(f:Env->Option (List D)):Prop:=∃wi,PI X tg iter wi/\∀(F0 B F H:Hp) (ρ:Env) (σ:St) (ds:List D) (R:It->Hp->Prop),RS X.K ct F0 B ms F H ρ σ->f ρ=some ds ->
 (∀J F' H',gu F H F' H'->rn X.K ct F' B n J ds->R J H')->wi σ H R
def wQ (X:Cx)(ct:Nat->ai)(ms:List Mo)(n:Nat)(tg iter:Expr)(f:Env->Option (List D)):Prop:=∃wi,PI X tg iter wi/\∀(F0 B F H:Hp) (ρ:Env) (σ:St) (ds:List D) (R:It->Hp->Prop),RS X.K ct F0 B ms F H ρ σ->f ρ=some ds ->
 (∀J F' H',gu F H F' H'->rn X.K ct F' H' n J ds->R J H')->wi σ H R
def XG (X:Cx)(ct:Nat->ai)(ms:List Mo)(n:Nat)(tg:Expr)(g:D->Env->Option Env):Prop:=∃t,PG X tg t/\∀(F0 B F H:Hp) (ρ ρ':Env) (σ:St) (d:D) (v:V) (Q:St->Hp->Prop),RS X.K ct F0 B ms F H ρ σ->Al X.K ct F B n d v->g d ρ=some ρ' ->
 (∀σ',RS X.K ct F0 B ms F H ρ' σ'->Q σ' H)->t v σ H Q
theorem ug {tg iter:Expr}{fi:Env->Option (List D)}{gg:D->Env->Option Env}(hi:XI X ct ms n tg iter fi)(hg:XG X ct ms n tg gg)(hb:rq X ct ms rk rest u)(hp:bV (ba X.prog X.w) X.A X.env X.xe)(hc:X.calm=true)
  (hs:∀x,dJ iter X.env x=pure x:=by intro _;rfl):XS X ct ms rk (.For tg iter rest [] pos) (sFor fi gg u):=by
 obtain⟨wi,pi,qi⟩:=hi
 obtain⟨Qk,pg,qg⟩:=hg
 obtain⟨t1,vI,vK⟩:=hb
 refine⟨_,ztq hp hc pi pg vI hs,λF0 B F H ρ σ o E rs e z=>?_⟩
 obtain⟨ds,h1,h2⟩:=aT e
 refine qi F0 B F H ρ σ ds _ rs h1 λJ F1 H1 x1 ok=>?_
 refine⟨λi m σ H=>m=ds.length-i/\i<=ds.length/\∃F ρ,bQ F1 F/\RS X.K ct F0 B ms F H ρ σ/\fP gg u (ds.drop i) ρ=some o,⟨ds.length,rfl,cK _,F1,ρ,.refl _,rs.ext x1,h2⟩,?_⟩
 rintro i m σ H ⟨rfl,Bq,F,ρ,s1,rs,e⟩
 obtain⟨k1,k2⟩:=ok i F H s1 rs.bh rs.fh
 by_cases ie:i<ds.length
 ·right
  have hd:ds[i]?=some ds[i]:=by simp[ie]
  obtain⟨go,yl⟩:=k1 _ hd
  rw[nq ie]at e
  obtain⟨ρ1,h3,h4⟩:=aT e
  obtain⟨o1,h5,h6⟩:=aT h4
  refine⟨go,λσ H=>i+1<=ds.length/\∃F ρ,bQ F1 F/\RS X.K ct F0 B ms F H ρ σ/\fP gg u (ds.drop (i+1)) ρ=some o,λσ' H' h=>⟨ds.length-(i+1),by omega,rfl,h⟩,λx H2 y=>?_⟩
  obtain⟨F2,x2,l⟩:=yl x H2 y
  refine qg F0 B F2 H2 ρ ρ1 σ _ x _ (rs.ext x2) l h3 λσ' r=>?_
  have s2:=s1.trans x2.ff
  refine vK F2 B F2 H2 ρ1 σ' o1 _ r.re h5 ?_
  cases o1 with
  |nx ρ'=>exactλσ' F' H' q=>⟨ie,F',ρ',s2.trans q.f0,r.back q,h6⟩
  |ct ρ'=>exactλσ' F' H' q=>⟨ie,F',ρ',s2.trans q.f0,r.back q,h6⟩
  |bk ρ'=>cases h6;exactλσ' F' H' q=>z σ' F' H' (r.back q)
  |rt d=>cases h6;exact lA.re (o:=.rt d) r z
 ·left
  refine⟨k2 (by omega),?_⟩
  have:ds.drop i=[]:=oF (by omega)
  rw[this]at e
  cases e
  exact z σ F H rs
def gV (i:Nat):D->Env->Option Env:=λd ρ=>some (ρ.set i (some d))
theorem zrc {i:Nat}{x:aR}(hm:ms[i]?=some (.ow 0))(hN:X.N.Nodup)(hi:X.N[i]?=some x)(hx:Loc X.env.scope x)
  (hf:X.fn x=true\/X.env.scope.names.lookup x=some .local:=by first|exact .inl rfl|exact .inr rfl|assumption):XG X ct ms 0 (.Name x pos) (gV i):=by
 refine⟨_,Sd hN hi hx hf,λF0 B F H ρ ρ' σ d v Q rs l e w=>?_⟩
 cases e
 exact w _ (rs.set hm (.refl rs.fh) (Ow.zero l) bA λa z=>(by cases z))
def HY (X:Cx)(ct:Nat->ai)(ms:List Mo)(n:Nat)(kz:List Expr)(g:List D->Env->Option Env):Prop:=∃t,Be X kz t/\(∀ds ρ ρ',g ds ρ=some ρ'->ds.length=kz.length)/\∀(F0 B F H:Hp) (ρ ρ':Env) (σ:St) (ds:List D) (vs:List V) (Q:St->Hp->Prop),RS X.K ct F0 B ms F H ρ σ->Pr (Al X.K ct F B n) ds vs->g ds ρ=some ρ' ->
 (∀σ',RS X.K ct F0 B ms F H ρ' σ'->Q σ' H)->t vs σ H Q
def gsNil:List D->Env->Option Env:=λds ρ=>match ds with
 |[]=>some ρ
 |_=>none
def gsCons (g:D->Env->Option Env)(gs:List D->Env->Option Env):List D->Env->Option Env:=λds ρ=>match ds with
 |d::ds=>(g d ρ).bind λρ'=>gs ds ρ'
 |[]=>none
theorem Jz:HY X ct ms n [] gsNil:=by
 refine⟨_,Se,λds ρ ρ' e=>?_,λF0 B F H ρ ρ' σ ds vs Q rs l e w=>?_⟩
 ·cases ds with
  |nil=>rfl
  |cons d ds=>cases e
 ·cases l with
  |nil=>cases e;exact⟨rfl,w σ rs⟩
  |cons _ _=>cases e
theorem v7 {tg:Expr}{kz:List Expr}{gg:D->Env->Option Env}{gs:List D->Env->Option Env}(h1:XG X ct ms n tg gg)(h2:HY X ct ms n kz gs)
  (hs:(cQ (tg::kz) X.env).map (·.2)=gI tg X.env::(cQ kz X.env).map (·.2):=by rfl):HY X ct ms n (tg::kz) (gsCons gg gs):=by
 obtain⟨t,pt,qt⟩:=h1
 obtain⟨t2,lR,Mm,oZ⟩:=h2
 refine⟨_,RA pt lR hs,λds ρ ρ' e=>?_,λF0 B F H ρ ρ' σ ds vs Q rs l e w=>?_⟩
 ·cases ds with
  |nil=>cases e
  |cons d ds=>
   obtain⟨ρ1,h3,h4⟩:=aT e
   rw[aV,aV,Mm _ _ _ h4]
 ·cases l with
  |nil=>cases e
  |cons h t=>
   obtain⟨ρ1,h3,h4⟩:=aT e
   exact⟨_,_,rfl,qt F0 B F H ρ ρ1 σ _ _ _ rs h h3 λσ1 r1=>oZ F0 B F H ρ1 ρ' σ1 _ _ _ r1 t h4 w⟩
def gT (gs:List D->Env->Option Env):D->Env->Option Env:=λd ρ=>match d with
 |.tup ds=>gs ds ρ
 |_=>none
theorem JP {kz:List Expr}{j:Nat}{gs:List D->Env->Option Env}(hc:X.calm=true)(h:HY X ct ms (n-1) kz gs)(hl:(cQ kz X.env).length=kz.length:=by rfl)(mH:(cQ kz X.env).findIdx? (·.1)=none:=by rfl):XG X ct ms n (.Tuple kz j pos) (gT gs):=by
 obtain⟨t,pt,lt,qt⟩:=h
 refine⟨_,Ta (n:=kz.length) hc pt hl mH,λF0 B F H ρ ρ' σ d v Q rs l e w=>?_⟩
 cases d with
 |tup ds=>
  have l':Al X.K ct F H n (.tup ds) v:=l.mono (.refl _) rs.bh
  have:∃a vs,v=.ref a/\kn X.K H a vs/\Pr (Al X.K ct F B (n-1)) ds vs:=by
   cases n with
   |zero=>
    have l:Dt X.K ct F (.tup ds) v:=l
    cases l with
    |tup q t=>exact⟨_,_,rfl,kn.of (rs.fh _ _ q),t.pr⟩
   |succ n=>
    rcases l with l|l
    ·cases l with
     |tup q t=>exact⟨_,_,rfl,kn.of (rs.fh _ _ q),t.pr.mono λ_ _=>Al.of⟩
    ·cases l with
     |tup q t=>exact⟨_,_,rfl,kn.of (rs.fh _ _ q),t⟩
  obtain⟨a,vs,rfl,ha,hp⟩:=this
  exact⟨a,vs,rfl,ha,hp.length.symm.trans (lt _ _ _ e),qt F0 B F H ρ ρ' σ ds vs Q rs hp e w⟩
 |_=>cases e
def startD (N:List aR)(ds:List D):Env:=ds.map some++aA (N.length-ds.length) none
def mOf (N:List aR)(b:SF)(ds:List D):Option D:=(b (startD N ds)).bind λo=>match o with
 |.rt d=>some d
 |.nx _=>some .non
 |_=>none
theorem SL.start {K:ae}{F B H:Hp}:∀{pm:List Nat} {ds:List D} {vs:List V} {ms:List Mo} (j:Nat),iU K ct F B pm ds vs->(∀(i n:Nat),pm[i]?=some n->ms[i]?=some (Mo.al n)\/(n=0/\ms[i]?=some (Mo.ow 0)))->ms.length=pm.length+j ->
  SL K ct F B H ms (ds.map some++aA j none) (vs.map some++aA j none) []
 |_,_,_,ms,j,.nil,_,hl=>by
  have:∀(j:Nat) (ms:List Mo),ms.length=j->SL K ct F B H ms (aA j none) (aA j none) []:=by
   intro j
   induction j with
   |zero=>intro ms h;cases ms with
    |nil=>exact .nil
    |cons _ _=>simp at h
   |succ j ih=>intro ms h;cases ms with
    |nil=>simp at h
    |cons m ms=>exact .no (ih ms (by simpa using h))
  simpa using this j ms (by simpa using hl)
 |_,_,_,[],j,.cons h t,_,hl=>by simp at hl;omega
 |_,_,_,m::ms,j,.cons (n:=n) h t,hm,hl=>by
  have ih:=SL.start (ms:=ms) (H:=H) j t (λi n e=>by simpa using hm (i+1) n (by simpa using e)) (by simp at hl;omega)
  rcases hm 0 n rfl with e|⟨rfl,e⟩
  ·simp at e;subst e;exact .al h ih
  ·simp at e;subst e;exact SL.ow (f:=[]) (Ow.zero h) ih
structure Fun2 (K:ae)(x qual:aR)(st:bR)(f:ai)(fd:aH):Prop where
 ex:∃(oc:af) (od:Option ai) (dV kV doc pm:af) (an:Option ai) (hU ct:af) (AK:Array (Option af)),
  fd=gF x qual (lV st) (gH st) (aJ st) dV kV doc pm an hU ct/\K.lookup f=some ⟨oc,od,.func fd,AK⟩/\av K hU qual=true
 kp:am K (.ref f)=true
theorem Fun2.ok {P:bx}{w:bY}{K:ae}{mg:aR->Option af}{base:aX}{x qual:aR}{st:bR}{f:ai}{fd:aH}{N ps:List aR}{k:Nat}{sp:Sp}(F:Fun2 K x qual st f fd)(S:bp N ps (aJ st))(len:∀vs H Q E,sp vs H Q E->vs.length=ps.length)
    (sQ:∀(hU:af) (A:bT) (outer:List PySem.Env) (s:ak) (H:Hp) (vs:List V) (Q:VK) (E:XK),eA k (A.deeper (envOfC qual (aJ st) s.heap.objs.size f hU))->sp vs H Q E ->
      ∃t,pT (ng eJ P w K mg base N qual (aJ st) f hU A outer s H E).nox (gH st) t/\t { nx:=λ_ H'=>Q .non H',rt:=Q } (L2.start N vs) H):cz P w K mg base eJ (k+1) f fd ps sp:=by
  obtain⟨oc,od,dV,kV,doc,pm,an,hU,ct,AK,rfl,lk,iL⟩:=F.ex
  refine zvy lk iL S len λA outer s H vs Q E hr xF=>?_
  obtain⟨t,h,q⟩:=sQ hU A outer s H vs Q E hr xF
  exact⟨t,h.nox,q⟩
theorem lift {P:bx}{w:bY}{K:ae}{mg:aR->Option af}{base:aX}{x qual:aR}{st:bR}{fa:ai}{fd:aH}{N ps:List aR}{kk:Nat}{pm:List Nat}{bf:SF}(Fn:Fun2 K x qual st fa fd)(S:bp N ps (aJ st))(Au:pm.length=ps.length)(Iy:ms.length=N.length)(mE:ps.length<=N.length)
  (EI:∀(i n:Nat),pm[i]?=some n->ms[i]?=some (Mo.al n)\/(n=0/\ms[i]?=some (Mo.ow 0)))
  (body:∀(hU:af) (A:bT) (outer:List PySem.Env) (s:ak) (H:Hp) (E:XK),eA kk (A.deeper (envOfC qual (aJ st) s.heap.objs.size fa hU))->rq (ng eJ P w K mg base N qual (aJ st) fa hU A outer s H E).nox ct ms rk (gH st) bf) :
  cz P w K mg base eJ (kk+1) fa fd ps (fY K ct pm rk (mOf N bf)):=by
 refine Fn.ok S (fY.len Au) λhU A outer s H vs Q E hr h=>?_
 obtain⟨F,ds,d,sF,l,hm,q⟩:=h
 obtain⟨t,pt,qt⟩:=body hU A outer s H E hr
 refine⟨t,pt,?_⟩
 obtain⟨o,h1,h2⟩:=aT hm
 have hvl:vs.length=pm.length:=l.length
 have rB:ds.length=vs.length:=l.length'
 refine qt F H F H (startD N ds) (L2.start N vs) o _ ⟨.refl _,.refl _,sF,λ_ _ _ h=>h,[],?_,bA,λa z=>(by cases z)⟩ h1 ?_
 ·unfold startD L2.start
  rw[rB]
  exact SL.start _ l EI (by omega)
 ·cases o with
  |nx ρ=>
   cases h2
   exactλσ F' H' r=>q .non F' H' [] ⟨r.f0,r.bh,r.fh,r.nf⟩ (Ow.scal .non rfl) bA λa z=>(by cases z)
  |rt d'=>
   cases h2
   exactλv F' H' fp s1 s2 s3 s4 o nd hf=>q v F' H' fp ⟨s1,s2,s3,s4⟩ o nd hf
  |bk ρ=>cases h2
  |ct ρ=>cases h2
end
end L3
namespace L3
open PySem PySem.Spec L2
open PyProof.Rows hiding St
theorem gw.or {X:Cx}{f:af->af->oI af}{r r':R2}(h:gw X f r)(h':gw X f r'):gw X f (λx y H Q=>r x y H Q\/r' x y H Q) :=
 λaj s σ H x y v u Q I rx ry q=>q.elim (h aj s σ H x y v u Q I rx ry) (h' aj s σ H x y v u Q I rx ry)
section
variable {K:ae}{ct:Nat->ai}{n m k:Nat}
def i2 (g:Int->Int->D):D->D->Option D
 |.int i,.int j=>some (g i j)
 |_,_=>none
def sk (C:Int->Int->Prop)[∀i j,Decidable (C i j)](g:Int->Int->D):D->D->Option D
 |.int i,.int j=>if C i j then some (g i j)else none
 |_,_=>none
theorem JX {g:Int->Int->D}{gv:Int->Int->V}(hg:∀i j F,Dt K ct F (g i j) (gv i j)):mr K ct n m k (pF gv) (i2 g):=by
 intro F H x y d1 d2 d Q s l1 l2 e w
 cases d1 with
 |int i=>
  cases d2 with
  |int j=>cases e;exact⟨i,j,l1.int,l2.int,w _ F H (.refl s) (Al.of (hg i j F))⟩
  |_=>cases e
 |_=>cases e
theorem JQ {C C':Int->Int->Prop}[∀i j,Decidable (C i j)]{g:Int->Int->D}{gv:Int->Int->V}(hC:∀i j,C i j->C' i j)(hg:∀i j F,Dt K ct F (g i j) (gv i j)):mr K ct n m k (rI C' gv) (sk C g):=by
 intro F H x y d1 d2 d Q s l1 l2 e w
 cases d1 with
 |int i=>
  cases d2 with
  |int j=>
   unfold sk at e
   dsimp only at e
   by_cases h:C i j
   ·rw[if_pos h]at e;cases e;exact⟨i,j,l1.int,l2.int,hC i j h,w _ F H (.refl s) (Al.of (hg i j F))⟩
   ·rw[if_neg h]at e;cases e
  |_=>cases e
 |_=>cases e
def J1:Nat:=2 ^ 9000
def B6:Nat:=2 ^ 100000
def n6:D->D->Option D:=i2 λi j=>.int (i-j)
theorem BM:mr K ct n m k (pF λi j=>.int (i-j)) n6:=JX λ_ _ _=>.int _
def ku (i j:Int):Prop:=(-18446744073709551616<i/\i<18446744073709551616)\/(-18446744073709551616<j/\j<18446744073709551616)\/(i.natAbs<B6/\j.natAbs<B6)
instance (i j:Int):Decidable (ku i j):=by unfold ku;infer_instance
def dk:D->D->Option D:=sk ku λi j=>.int (i*j)
theorem ku.ok {i j:Int}(h:ku i j):nv i j:=by
 rcases h with h|h|h
 ·exact .inl (.inl ⟨by have:=h.1;omega,by have:=h.2;omega⟩)
 ·exact .inl (.inr ⟨by have:=h.1;omega,by have:=h.2;omega⟩)
 ·exact .inr h
theorem zrd:mr K ct n m k (rI nv λi j=>.int (i*j)) dk:=JQ (λ_ _=>ku.ok) λ_ _ _=>.int _
def D.v:D->V
 |.bl b=>.bl b
 |.int i=>.int i
 |.str x=>.str x
 |_=>.non
theorem Dt.v {F:Hp}{d:D}{v:V}(h:Dt K ct F d v)(hs:d.sc=true):v=d.v:=by
 cases h<;>first|rfl|cases hs
theorem Al.v {F G:Hp}{d:D}{v:V}(h:Al K ct F G n d v)(hs:d.sc=true):v=d.v:=Dt.v (Al.scal (F':=F) h hs) hs
theorem D.flat {d:D}(hs:d.sc=true):iA d.v=true:=by cases d<;>first|rfl|cases hs
theorem Pr.vs {F G:Hp}:∀{ds:List D} {vs:List V},Pr (Al K ct F G n) ds vs->ds.all D.sc=true->vs=ds.map D.v
 |_,_,.nil,_=>rfl
 |d::ds,v::vs,.cons h t,e=>by
  rw[dL,bK]at e
  rw[aM,Al.v h e.1,Pr.vs t e.2]
def ez:D->D->Option D
 |.int i,.int j=>if 0<j/\j<4611686018427387904 then some (.int (i/j))else if j≠0/\j.natAbs<J1 then some (.int (i.fdiv j))else none
 |_,_=>none
theorem vf:mr K ct n m k (rI (λ_ j=>j≠0/\Sz 9000 j) λi j=>.int (i.fdiv j)) ez:=by
 intro F H x y d1 d2 d Q s l1 l2 e w
 cases d1 with
 |int i=>
  cases d2 with
  |int j=>
   unfold ez at e
   dsimp only at e
   by_cases h:0<j/\j<4611686018427387904
   ·rw[if_pos h]at e
    cases e
    refine⟨i,j,l1.int,l2.int,⟨by omega,?_⟩,?_⟩
    ·have:Sz 62 j:=by unfold Sz;omega
     exact this.mono (by decide)
    ·show Q (.int (i.fdiv j)) H
     rw[hE i (by omega)]
     exact w _ F H (.refl s) (Al.of (.int _))
   ·rw[if_neg h]at e
    by_cases h:j≠0/\j.natAbs<J1
    ·rw[if_pos h]at e
     cases e
     exact⟨i,j,l1.int,l2.int,h,w _ F H (.refl s) (Al.of (.int _))⟩
    ·rw[if_neg h]at e;cases e
  |_=>cases e
 |_=>cases e
def eE:D->D->Option D
 |.int i,.int j=>if 0<j then some (.int (i%j))else if j≠0 then some (.int (i.fmod j))else none
 |_,_=>none
theorem xw:mr K ct n m k (rI (λ_ j=>j≠0) λi j=>.int (i.fmod j)) eE:=by
 intro F H x y d1 d2 d Q s l1 l2 e w
 cases d1 with
 |int i=>
  cases d2 with
  |int j=>
   unfold eE at e
   dsimp only at e
   by_cases h:0<j
   ·rw[if_pos h]at e
    cases e
    refine⟨i,j,l1.int,l2.int,by omega,?_⟩
    show Q (.int (i.fmod j)) H
    rw[nk i (by omega)]
    exact w _ F H (.refl s) (Al.of (.int _))
   ·rw[if_neg h]at e
    by_cases h:j≠0
    ·rw[if_pos h]at e
     cases e
     exact⟨i,j,l1.int,l2.int,h,w _ F H (.refl s) (Al.of (.int _))⟩
    ·rw[if_neg h]at e;cases e
  |_=>cases e
 |_=>cases e
def nI (i j:Int):Prop:=0<=j/\j<=1000000/\i.natAbs<18446744073709551616
instance (i j:Int):Decidable (nI i j):=by unfold nI;infer_instance
def rK:D->D->Option D:=sk nI λi j=>.int (i ^ j.toNat)
theorem NO:mr K ct n m k (rI uH λi j=>.int (i ^ j.toNat)) rK:=JQ (λ_ _ h=>⟨h.1,h.2.1,by have:=h.2.2;omega⟩) λ_ _ _=>.int _
def vN:D->D->Option D:=sk nI λi j=>.int (i*2 ^ j.toNat)
theorem zre:mr K ct n m k (rI uH λi j=>.int (i*2 ^ j.toNat)) vN:=JQ (λ_ _ h=>⟨h.1,h.2.1,by have:=h.2.2;omega⟩) λ_ _ _=>.int _
def rM:D->D->Option D:=sk (λ_ j=>0<=j) λi j=>.int (i/2 ^ j.toNat)
theorem Sn:mr K ct n m k (rI (λ_ j=>0<=j) λi j=>.int (i/2 ^ j.toNat)) rM:=JQ (λ_ _ h=>h) λ_ _ _=>.int _
def pY:D->D->Option D:=i2 λi j=>.bl (decide (i<j))
def sg:D->D->Option D:=i2 λi j=>.bl (decide (j<i))
def Ad:D->D->Option D:=i2 λi j=>.bl (decide (j<=i))
theorem vX:mr K ct n m k (pF λi j=>.bl (decide (i<j))) pY:=JX λ_ _ _=>.bl _
theorem xW:mr K ct n m k (pF λi j=>.bl (decide (j<i))) sg:=JX λ_ _ _=>.bl _
theorem N8:mr K ct n m k (pF λi j=>.bl (decide (j<=i))) Ad:=JX λ_ _ _=>.bl _
def AQ:R2:=λx y H Q=>∃i j,x=.str i/\y=.str j/\Q (.bl (!(decide (j.cps.toList<i.cps.toList)))) H
theorem zuh {X:Cx}:gw X (cD .LtE) AQ:=by
 intro aj s σ H x y v u Q I rx ry h
 obtain⟨i,j,rfl,rfl,q⟩:=h
 obtain⟨t,rfl⟩:=rx
 obtain⟨t',rfl⟩:=ry
 exact PySem.P.le_str ⟨.bl _,H,I,rfl,q⟩
def xI:D->D->Option D
 |.int i,.int j=>some (.bl (decide (i<=j)))
 |.str i,.str j=>some (.bl (!(decide (j.cps.toList<i.cps.toList))))
 |_,_=>none
theorem BN:mr K ct n m k (λx y H Q=>pF (λi j=>.bl (decide (i<=j))) x y H Q\/AQ x y H Q) xI:=by
 intro F H x y d1 d2 d Q s l1 l2 e w
 cases d1 with
 |int i=>
  cases d2 with
  |int j=>cases e;exact .inl ⟨i,j,l1.int,l2.int,w _ F H (.refl s) (Al.of (.bl _))⟩
  |_=>cases e
 |str i=>
  cases d2 with
  |str j=>cases e;exact .inr ⟨i,j,l1.str,l2.str,w _ F H (.refl s) (Al.of (.bl _))⟩
  |_=>cases e
 |_=>cases e
theorem BW {X:Cx}:gw X (cD .LtE) (λx y H Q=>pF (λi j=>.bl (decide (i<=j))) x y H Q\/AQ x y H Q):=gw.or zvx zuh
def D.isN:D->Bool
 |.non=>true
 |_=>false
def D.isB (b:Bool):D->Bool
 |.bl c=>c==b
 |_=>false
def mI (neg:Bool):D->D->Option D
 |d,.non=>some (.bl (if neg then !d.isN else d.isN))
 |d,.bl b=>some (.bl (if neg then !d.isB b else d.isB b))
 |_,_=>none
theorem Al.ref {F G:Hp}{d:D}{v:V}(h:Al K ct F G n d v)(hs:d.sc=false):∃a,v=.ref a:=by
 cases n with
 |zero=>cases(show Dt K ct F d v from h)<;>first|cases hs;done|exact⟨_,rfl⟩
 |succ n=>rcases h with h|h<;>cases h<;>first|cases hs;done|exact⟨_,rfl⟩
theorem Al.isn {F G:Hp}{d:D}{v:V}(h:Al K ct F G n d v):decide (v=.non)=d.isN:=by
 cases hs:d.sc with
 |true=>
  have:=Al.v h hs
  subst this
  cases d<;>first|rfl|cases hs
 |false=>
  obtain⟨a,rfl⟩:=h.ref hs
  cases d<;>first|rfl|cases hs
theorem Al.isb {F G:Hp}{d:D}{v:V}{b:Bool}(h:Al K ct F G n d v):decide (v=.bl b)=d.isB b:=by
 cases hs:d.sc with
 |true=>
  have:=Al.v h hs
  subst this
  cases d<;>first|rfl|(cases hs;done)|(rename_i c;cases b<;>cases c<;>rfl)
 |false=>
  obtain⟨a,rfl⟩:=h.ref hs
  cases d<;>first|rfl|cases hs
def Qc:R2:=λx y H Q=>(y=.non/\Q (.bl (decide (x=.non))) H)\/∃b,y=.bl b/\Q (.bl (decide (x=.bl b))) H
def tJ:R2:=λx y H Q=>(y=.non/\Q (.bl (!decide (x=.non))) H)\/∃b,y=.bl b/\Q (.bl (!decide (x=.bl b))) H
theorem sv {X:Cx}:gw X (cD .Is) Qc:=gw.or ztu zt9
theorem RP {X:Cx}:gw X (cD .IsNot) tJ:=gw.or zqr zll
theorem sr:mr K ct n m k Qc (mI false):=by
 intro F H x y d1 d2 d Q s l1 l2 e w
 cases d2 with
 |non=>
  cases e
  refine .inl ⟨l2.non,?_⟩
  rw[l1.isn]
  exact w _ F H (.refl s) (Al.of (.bl _))
 |bl b=>
  cases e
  refine .inr ⟨b,l2.bl,?_⟩
  rw[l1.isb]
  exact w _ F H (.refl s) (Al.of (.bl _))
 |_=>cases e
theorem Q4:mr K ct n m k tJ (mI true):=by
 intro F H x y d1 d2 d Q s l1 l2 e w
 cases d2 with
 |non=>
  cases e
  refine .inl ⟨l2.non,?_⟩
  rw[l1.isn]
  exact w _ F H (.refl s) (Al.of (.bl _))
 |bl b=>
  cases e
  refine .inr ⟨b,l2.bl,?_⟩
  rw[l1.isb]
  exact w _ F H (.refl s) (Al.of (.bl _))
 |_=>cases e
mutual
def D.py:D->Option ej
 |.non=>some .none
 |.bl b=>some (.bool b)
 |.int i=>some (.int i)
 |.str x=>some (.str x)
 |.lst xs=>(D.pys xs).bind λys=>some (.list ys)
 |.tup xs=>(D.pys xs).bind λys=>some (.tuple ys)
 |_=>none
def D.pys:List D->Option (List ej)
 |[]=>some []
 |d::ds=>(D.py d).bind λx=>(D.pys ds).bind λxs=>some (x::xs)
end
mutual
theorem Dt.toPy {F H:Hp}(s:bQ F H):∀{d:D} {v:V} {e:ej},Dt K ct F d v->d.py=some e->L2.Dt K H v e
 |_,_,_,.non,h=>by simp only[D.py]at h;cases h;exact .non
 |_,_,_,.bl b,h=>by simp only[D.py]at h;cases h;exact .bl b
 |_,_,_,.int b,h=>by simp only[D.py]at h;cases h;exact .int b
 |_,_,_,.str b,h=>by simp only[D.py]at h;cases h;exact .str b
 |_,_,_,.lst q t,h=>by
  simp only[D.py]at h
  obtain⟨ys,h1,h2⟩:=aT h
  cases h2
  exact .lst (s.seq q) (Dts.toPy s t h1)
 |_,_,_,.tup q t,h=>by
  simp only[D.py]at h
  obtain⟨ys,h1,h2⟩:=aT h
  cases h2
  exact .tup (kn.of (s _ _ q)) (Dts.toPy s t h1)
 |_,_,_,.dK _ _ _,h=>by simp only[D.py]at h;cases h
 |_,_,_,.dT _ _ _,h=>by simp only[D.py]at h;cases h
 |_,_,_,.obj _ _ _,h=>by simp only[D.py]at h;cases h
theorem Dts.toPy {F H:Hp}(s:bQ F H):∀{ds:List D} {vs:List V} {es:List ej},Dts K ct F ds vs->D.pys ds=some es->L2.Dts K H vs es
 |_,_,_,.nil,h=>by simp only[D.pys]at h;cases h;exact .nil
 |_,_,_,.cons h t,e=>by
  simp only[D.pys]at e
  obtain⟨y,ys,h1,h2,h3⟩:=dD e
  cases h3
  exact .cons (Dt.toPy s h h1) (Dts.toPy s t h2)
end
theorem Pr.toPy {H:Hp}{R:D->V->Prop}(f:∀d v e,R d v->d.py=some e->L2.Dt K H v e):∀{ds:List D} {vs:List V} {es:List ej},Pr R ds vs->D.pys ds=some es->L2.Dts K H vs es
 |_,_,_,.nil,h=>by simp only[D.pys]at h;cases h;exact .nil
 |_,_,_,.cons h t,e=>by
  simp only[D.pys]at e
  obtain⟨y,ys,h1,h2,h3⟩:=dD e
  cases h3
  exact .cons (f _ _ _ h h1) (Pr.toPy f t h2)
theorem Al.toPy {F H:Hp}(s:bQ F H):∀{n:Nat} {d:D} {v:V} {e:ej},Al K ct F H n d v->d.py=some e->L2.Dt K H v e
 |0,_,_,_,h,q=>Dt.toPy s h q
 |n+1,_,_,_,.inl h,q=>Dt.toPy s h q
 |n+1,_,_,_,.inr (.lst h t),q=>by
  simp only[D.py]at q
  obtain⟨ys,h1,h2⟩:=aT q
  cases h2
  exact .lst (fm.of h) (Pr.toPy (λ_ _ _=>Al.toPy s) t h1)
 |n+1,_,_,_,.inr (.tup h t),q=>by
  simp only[D.py]at q
  obtain⟨ys,h1,h2⟩:=aT q
  cases h2
  exact .tup (kn.of (s _ _ h)) (Pr.toPy (λ_ _ _=>Al.toPy s) t h1)
 |n+1,_,_,_,.inr (.dK _ _ _),q=>by simp only[D.py]at q;cases q
 |n+1,_,_,_,.inr (.dT _ _ _),q=>by simp only[D.py]at q;cases q
 |n+1,_,_,_,.inr (.obj _ _ _),q=>by simp only[D.py]at q;cases q
def nX (a:ej):Bool:=a.canLay0&&decide (a.depth<=60)
def lD (neg:Bool)(x y:D):Option D:=x.py.bind λa=>y.py.bind λb=>if nX a=true/\nX b=true then some (.bl (if neg then !ej.eqv a b else ej.eqv a b))else none
theorem jq {neg:Bool}:mr K ct n m k (AN K neg) (lD neg):=by
 intro F H x y d1 d2 d Q s l1 l2 e w
 obtain⟨a,b,h1,h2,h3⟩:=dD e
 by_cases h:nX a=true/\nX b=true
 ·rw[if_pos h]at h3
  cases h3
  have o1:=h.1
  have o2:=h.2
  unfold nX at o1 o2
  rw[bK,decide_eq_true_iff]at o1 o2
  exact⟨a,b,Al.toPy s l1 h1,Al.toPy s l2 h2,o1.1,o2.1,cx (Nat.min_le_left _ _) o1.2,w _ F H (.refl s) (Al.of (.bl _))⟩
 ·rw[if_neg h]at h3;cases h3
end
end L3
namespace L3
open PySem PySem.Spec L2
open PyProof.Rows hiding St
section
variable {K:ae}{ct:Nat->ai}{n m k:Nat}{X:Cx}
theorem Pr.atI {R:D->V->Prop}{ds:List D}{vs:List V}{i:Int}{d:D}(h:Pr R ds vs)(e:atI ds i=some d):∃v,atI vs i=some v/\R d v:=by
 unfold L2.atI at e ⊢
 rw[←h.length]
 obtain⟨j,h1,h2⟩:=aT e
 obtain⟨v,h3,h4⟩:=h.get' h2
 exact⟨v,by rw[h1];exact h3,h4⟩
def vD:D->Option eX
 |.int i=>some (.inl i)
 |.str x=>some (.inr x)
 |_=>none
def nF:List D->Option (List eX)
 |[]=>some []
 |d::ds=>(vD d).bind λk=>(nF ds).bind λks=>some (k::ks)
def iK {κ:Type}[DecidableEq κ](ks:List κ)(ds:List D)(k:κ):Option D:=((ks.zip ds).find? λp=>decide (p.1=k)).map (·.2)
def RO (R:D->V->Prop):Option D->Option V->Prop
 |some d,some u=>R d u
 |none,none=>True
 |_,_=>False
theorem RO.some_of {R:D->V->Prop}{d:D}{q:Option V}(h:RO R (some d) q):∃u,q=some u/\R d u:=by
 cases q with
 |none=>exact h.elim
 |some u=>exact⟨u,rfl,h⟩
theorem RO.none_of {R:D->V->Prop}{q:Option V}(h:RO R none q):q=none:=by
 cases q with
 |none=>rfl
 |some u=>exact h.elim
theorem NA {κ:Type}[DecidableEq κ]{R:D->V->Prop}{k:κ}:∀{ks:List κ} {ds:List D} {vs:List V},Pr R ds vs->RO R (iK ks ds k) (iB (ks.zip vs) k)
 |[],_,_,_=>by simp[iK,iB,RO]
 |_::_,_,_,.nil=>by simp[iK,iB,RO]
 |y::ks,d::ds,v::vs,.cons h t=>by
  by_cases e:y=k
  ·have h1:iK (y::ks) (d::ds) k=some d:=by simp[iK,cY,e]
   have h2:iB ((y::ks).zip (v::vs)) k=some v:=by simp[iB,cY,e]
   rw[h1,h2]
   exact h
  ·have h1:iK (y::ks) (d::ds) k=iK ks ds k:=by simp[iK,cY,e]
   have h2:iB ((y::ks).zip (v::vs)) k=iB (ks.zip vs) k:=by simp[iB,cY,e]
   rw[h1,h2]
   exact NA t
theorem JR {F G:Hp}{d:D}{v:V}{k:eX}(e:vD d=some k)(h:Al K ct F G n d v):v=kV k:=by
 cases d with
 |int i=>cases e;exact h.int
 |str i=>cases e;exact h.str
 |_=>cases e
theorem JA {F G:Hp}:∀{ds:List D} {vs:List V} {ks:List eX},nF ds=some ks->Pr (Al K ct F G n) ds vs->vs=ks.map kV
 |[],_,_,e,.nil=>by cases e;rfl
 |d::ds,_,_,e,.cons h t=>by
  unfold nF at e
  obtain⟨k,ks,h1,h2,h3⟩:=dD e
  cases h3
  rw[JR h1 h,JA h2 t];rfl
def fq (o y:D):Option (Option D):=match o with
 |.dK ks ds=>(vD y).bind λk=>some (iK ks ds k)
 |.dT ks ds=>(match y with|.tup ys=>(nF ys).bind λk=>some (iK ks ds k)|_=>none)
 |_=>none
theorem JB {F G:Hp}{o y:D}{x v:V}(s:bQ F G)(l1:Al K ct F G n o x)(l2:Al K ct F G m y v){r:Option D}(e:fq o y=some r) :
  ∃a q,x=.ref a/\jJ G a v q/\HU G a/\RO (Al K ct F G (n-1)) r q:=by
 cases o with
 |dK ks ds=>
  obtain⟨a,vs,rfl,ha,hl,hp⟩:=l1.dK s
  obtain⟨k,h1,h2⟩:=aT e
  cases h2
  have hv:=JR h1 l2
  subst hv
  exact⟨a,_,rfl,jJ.k ha,.inl ⟨_,.inl ha⟩,NA hp⟩
 |dT ks ds=>
  obtain⟨a,vs,rfl,ha,hl,hp⟩:=l1.dT s
  cases y with
  |tup ys=>
   obtain⟨k,h1,h2⟩:=aT e
   cases h2
   obtain⟨b,us,rfl,hb,EO⟩:=l2.tup s
   have hv:=JA h1 EO
   subst hv
   exact⟨a,_,rfl,jJ.t ha hb,.inr ⟨_,.inl ha⟩,NA hp⟩
  |_=>cases e
 |_=>cases e
def cP:D->D->Option D
 |.lst ds,.int i=>atI ds i
 |.tup ds,.int i=>atI ds i
 |.str x,.int i=>if x.length<=16777216 then(atI x.cps.toList i).bind λc=>some (.str ⟨#[c]⟩)else none
 |_,_=>none
theorem vY:mr K ct n m (n-1) (Qd K) cP:=by
 intro F H x y d1 d2 d Q s l1 l2 e w
 cases d1 with
 |lst ds=>
  cases d2 with
  |int i=>
   obtain⟨a,vs,rfl,ha,hp⟩:=l1.lst s
   obtain⟨v,h1,h2⟩:=hp.atI e
   exact .inl ⟨a,vs,i,v,rfl,l2.int,ha,h1,w v F H (.refl s) h2⟩
  |_=>cases e
 |tup ds=>
  cases d2 with
  |int i=>
   obtain⟨a,vs,rfl,ha,hp⟩:=l1.tup s
   obtain⟨v,h1,h2⟩:=hp.atI e
   exact .inr (.inl ⟨a,vs,i,v,rfl,l2.int,kn.of ha,h1,w v F H (.refl s) h2⟩)
  |_=>cases e
 |str z=>
  cases d2 with
  |int i=>
   unfold cP at e
   dsimp only at e
   by_cases h:z.length<=16777216
   ·rw[if_pos h]at e
    obtain⟨c,h1,h2⟩:=aT e
    cases h2
    exact .inr (.inr ⟨z,i,c,l1.str,l2.int,by rw[cH];exact h,h1,w _ F H (.refl s) (Al.of (.str _))⟩)
   ·rw[if_neg h]at e;cases e
  |_=>cases e
 |_=>cases e
theorem HI {ms:List Mo}{a b:Expr}{f g:EF}{pos:cW}(hu:X.A.units+1<fX)(ha:XE X ct ms n a f)(hb:XE X ct ms m b g)(hs:yD b):XE X ct ms (n-1) (.Subscript a b pos) (λρ=>(f ρ).bind λx=>(g ρ).bind λy=>(fq x y).join):=by
 obtain⟨ta,tb,pa,pb,q⟩:=ha.bin hb
 refine⟨_,zq6 hu pa pb hs,λF0 B F H ρ σ d Q rs e w=>?_⟩
 obtain⟨d1,d2,h1,h2,h3⟩:=dD e
 refine q F0 B F H ρ σ d1 d2 _ rs h1 h2 λx y F' H' x1 l1 l2=>?_
 obtain⟨a,o,rfl,g,_,h⟩:=JB (r:=some d) x1.fh l1 l2 (yf h3)
 obtain⟨u,rfl,Ax⟩:=h.some_of
 exact⟨a,u,rfl,g,w u F' H' x1 Ax⟩
theorem So {ms:List Mo}{o e:Expr}{f g:EF}{dB dP:cW}(hu:X.A.units+1<fX)(ho:XE X ct ms n o f)(he:XE X ct ms m e g)(h1:M1 X o "get" dB e dP):XE X ct ms (n-1) (.Call (.Attribute o "get" dB) [e] [] dP) (λρ=>(f ρ).bind λx=>(g ρ).bind λy=>(fq x y).bind λr=>some (r.getD .non)):=by
 obtain⟨ta,pa,qa⟩:=ho
 obtain⟨tb,pb,qb⟩:=he
 refine⟨_,zn2 hu pa pb h1,λF0 B F H ρ σ d Q rs e w=>?_⟩
 obtain⟨d1,d2,e1,e2,e3⟩:=dD e
 obtain⟨r,e4,e5⟩:=aT e3
 cases e5
 refine qa F0 B F H ρ σ d1 _ rs e1 λx F1 H1 x1 l1=>?_
 have:∃a,x=.ref a/\HU H1 a:=by
  cases d1 with
  |dK ks ds=>obtain⟨a,vs,rfl,ha,_⟩:=l1.dK x1.fh;exact⟨a,rfl,.inl ⟨_,.inl ha⟩⟩
  |dT ks ds=>obtain⟨a,vs,rfl,ha,_⟩:=l1.dT x1.fh;exact⟨a,rfl,.inr ⟨_,.inl ha⟩⟩
  |_=>cases e4
 obtain⟨a,rfl,Wg⟩:=this
 refine⟨a,rfl,Wg,qb F0 B F1 H1 ρ σ d2 _ (rs.ext x1) e2 λy F2 H2 x2 l2=>?_⟩
 obtain⟨a',o,ea,gg,_,h⟩:=JB (r:=r) x2.fh (l1.mono x2.ff x2.hh) l2 e4
 cases ea
 refine⟨o,gg,?_⟩
 cases r with
 |none=>rw[h.none_of];exact w _ F2 H2 (x1.trans x2) (Al.of .non)
 |some d=>obtain⟨u,rfl,Ax⟩:=h.some_of;exact w _ F2 H2 (x1.trans x2) Ax
def t7:D->D->Bool
 |.non,.non=>true
 |.bl a,.bl b=>a==b
 |.bl a,.int b=>(if a then 1 else 0)==b
 |.int a,.bl b=>a==(if b then 1 else 0)
 |.int a,.int b=>a==b
 |.str a,.str b=>a==b
 |_,_=>false
theorem Tt {x y:D}(hx:x.sc=true)(hy:y.sc=true):rz x.v y.v=t7 x y:=by
 cases x<;>first|cases hx;done|(cases y<;>first|cases hy;done|rfl)
def xG (x:D)(ds:List D):Bool:=ds.any λy=>t7 y x
theorem Og {x:D}(hx:x.sc=true):∀{ds:List D},ds.all D.sc=true->IH x.v (ds.map D.v)=xG x ds
 |[],_=>rfl
 |d::ds,h=>by
  rw[dL,bK]at h
  have ih:=Og hx h.2
  unfold IH xG at ih ⊢
  rw[aM,eM,eM,ih,Tt h.1 hx]
theorem Ji:∀{ds:List D},ds.all D.sc=true->(ds.map D.v).all iA=true
 |[],_=>rfl
 |d::ds,h=>by
  rw[dL,bK]at h
  rw[aM,dL,D.flat h.1,Ji h.2];rfl
def inD (neg:Bool)(x y:D):Option D:=match y with
 |.lst ds=>if x.sc=true/\ds.all D.sc=true then some (.bl (if neg then !xG x ds else xG x ds))else none
 |.tup ds=>if x.sc=true/\ds.all D.sc=true then some (.bl (if neg then !xG x ds else xG x ds))else none
 |_=>none
theorem N9 {neg:Bool}:mr K ct n m k (Mv K neg) (inD neg):=by
 intro F H x y d1 d2 d Q s l1 l2 e w
 cases d2 with
 |lst ds=>
  unfold inD at e
  dsimp only at e
  by_cases h:d1.sc=true/\ds.all D.sc=true
  ·rw[if_pos h]at e
   cases e
   obtain⟨a,vs,rfl,ha,hp⟩:=l2.lst s
   have hv:=hp.vs h.2
   subst hv
   have hx:=Al.v l1 h.1
   subst hx
   refine⟨a,_,rfl,.inl ha,D.flat h.1,Ji h.2,?_⟩
   rw[Og h.1 h.2]
   exact w _ F H (.refl s) (Al.of (.bl _))
  ·rw[if_neg h]at e;cases e
 |tup ds=>
  unfold inD at e
  dsimp only at e
  by_cases h:d1.sc=true/\ds.all D.sc=true
  ·rw[if_pos h]at e
   cases e
   obtain⟨a,vs,rfl,ha,hp⟩:=l2.tup s
   have hv:=hp.vs h.2
   subst hv
   have hx:=Al.v l1 h.1
   subst hx
   refine⟨a,_,rfl,.inr (kn.of ha),D.flat h.1,Ji h.2,?_⟩
   rw[Og h.1 h.2]
   exact w _ F H (.refl s) (Al.of (.bl _))
  ·rw[if_neg h]at e;cases e
 |_=>cases e
def dZ:List D->Option D
 |[.lst ds]=>some (.int ds.length)
 |[.tup ds]=>some (.int ds.length)
 |[.dK ks _]=>some (.int ks.length)
 |[.str x]=>if x.length<=16777216 then some (.int x.length)else none
 |_=>none
def G6 (K:ae):List V->Hp->VK->Prop:=λxs H Q=>(∃p ys,xs=[.ref p]/\(fm K H p ys\/kn K H p ys)/\Q (.int ys.length) H)\/(∃z,xs=[.str z]/\z.length<=sizeLine/\Q (.int z.length) H)\/∃a cC,xs=[V.ref a]/\H a=some (.dK cC)/\Q (.int cC.length) H
theorem zl0:eF X (.builtin "len") (G6 X.K):=ZE.or (ZF.or zlk)
theorem zrg:t4 K ct [n] k (G6 K) dZ:=by
 intro F H vs ds d Q s l e w
 cases l with
 |cons h t=>
  cases t
  rename_i d1 v
  cases d1 with
  |lst xs=>
   cases e
   obtain⟨a,us,rfl,ha,hp⟩:=h.lst s
   refine .inl ⟨a,us,rfl,.inl ha,?_⟩
   rw[←hp.length]
   exact w _ F H (.refl s) (Al.of (.int _))
  |tup xs=>
   cases e
   obtain⟨a,us,rfl,ha,hp⟩:=h.tup s
   refine .inl ⟨a,us,rfl,.inr (kn.of ha),?_⟩
   rw[←hp.length]
   exact w _ F H (.refl s) (Al.of (.int _))
  |str x=>
   unfold dZ at e
   dsimp only at e
   by_cases hz:x.length<=16777216
   ·rw[if_pos hz]at e
    cases e
    exact .inr (.inl ⟨x,by rw[h.str],by rw[cH];exact hz,w _ F H (.refl s) (Al.of (.int _))⟩)
   ·rw[if_neg hz]at e;cases e
  |dK ks xs=>
   cases e
   obtain⟨a,us,rfl,ha,hl,hp⟩:=h.dK s
   refine .inr (.inr ⟨a,_,rfl,ha,?_⟩)
   rw[eK,←hl,gS]
   exact w _ F H (.refl s) (Al.of (.int _))
  |_=>cases e
end
end L3
namespace L3
open PySem PySem.Spec L2
open PyProof.Rows hiding St
section
variable {ct:Nat->ai}{K:ae}
theorem zv5 {ι:Type}{Xs:ι->Cx}{ms:List Mo}{n:Nat}{e:Expr}{f:EF}(hK:∀i,(Xs i).K=K)(h:∀i,XO (Xs i) ct ms n e f):∃t,(∀i,PE (Xs i) e t)/\∀(F0 B F H:Hp) (ρ:Env) (σ:St) (d:D) (Q:VK),RS K ct F0 B ms F H ρ σ->f ρ=some d ->
  (∀v F' H' fp,gu F H F' H'->Ow K ct F' H' n d v fp->fp.Nodup->(∀a∈fp,H a=none)->Q v H')->t σ H Q:=by
 refine⟨λσ H Q=>∀i,(h i).choose σ H Q,λi aj s σ H Q I q=>(h i).choose_spec.1 aj s σ H Q I (q i),λF0 B F H ρ σ d Q rs e w i=>?_⟩
 exact(h i).choose_spec.2 F0 B F H ρ σ d Q (by rw[hK i];exact rs) e λv F' H' fp x l=>w v F' H' fp x (by rw[←hK i];exact l)
def yG (X:Cx)(ct:Nat->ai)(ms:List Mo)(ifs:List Expr)(f:BF):Prop:=∃t,wN X ifs t/\∀(F0 B F H:Hp) (ρ:Env) (σ:St) (b:Bool) (Q:Bool->Hp->Prop),RS X.K ct F0 B ms F H ρ σ->f ρ=some b->(∀F' H',gu F H F' H'->Q b H')->t σ H Q
def eI:BF:=λ_=>some true
theorem vg {X:Cx}{ms:List Mo}:yG X ct ms [] eI:=⟨_,zq8,λF0 B F H ρ σ b Q rs e w=>by cases e;exact w F H (.refl rs.fh)⟩
theorem HF {X:Cx}{ms:List Mo}{c:Expr}{p:BF}(h:XT X ct ms c p):yG X ct ms [c] p:=by
 obtain⟨t,pt,qt⟩:=h
 exact⟨t,zq9 pt,qt⟩
theorem zv6 {ι:Type}{Xs:ι->Cx}{ms:List Mo}{ifs:List Expr}{f:BF}(hK:∀i,(Xs i).K=K)(h:∀i,yG (Xs i) ct ms ifs f):∃t,(∀i,wN (Xs i) ifs t)/\∀(F0 B F H:Hp) (ρ:Env) (σ:St) (b:Bool) (Q:Bool->Hp->Prop),RS K ct F0 B ms F H ρ σ->f ρ=some b ->
  (∀F' H',gu F H F' H'->Q b H')->t σ H Q:=by
 refine⟨λσ H Q=>∀i,(h i).choose σ H Q,λi aj s σ H Q I q=>(h i).choose_spec.1 aj s σ H Q I (q i),λF0 B F H ρ σ d Q rs e w i=>?_⟩
 exact(h i).choose_spec.2 F0 B F H ρ σ d Q (by rw[hK i];exact rs) e w
def xJ {α:Type}(g:α->St->Hp->(St->Hp->Prop)->Prop):Prop:=∀v σ H Q Q',(∀σ' H',Q σ' H'->Q' σ' H')->g v σ H Q->g v σ H Q'
def uM (X:Cx)(ct:Nat->ai)(ms:List Mo)(own n:Nat)(tg:Expr)(g:D->Env->Option Env):Prop:=∃t,PG X tg t/\ga own t/\xJ t/\∀(F0 B F H:Hp) (ρ ρ':Env) (σ:St) (d:D) (v:V) (Q:St->Hp->Prop),RS X.K ct F0 B ms F H ρ σ->Al X.K ct F B n d v->g d ρ=some ρ' ->
 (∀σ',RS X.K ct F0 B ms F H ρ' σ'->Q σ' H)->t v σ H Q
theorem zv7 {ι:Type}{Xs:ι->Cx}{ms:List Mo}{own n:Nat}{tg:Expr}{g:D->Env->Option Env}(hK:∀i,(Xs i).K=K)(h:∀i,uM (Xs i) ct ms own n tg g):∃t,(∀i,PG (Xs i) tg t)/\ga own t/\∀(F0 B F H:Hp) (ρ ρ':Env) (σ:St) (d:D) (v:V) (Q:St->Hp->Prop),RS K ct F0 B ms F H ρ σ->Al K ct F B n d v->g d ρ=some ρ' ->
  (∀σ',RS K ct F0 B ms F H ρ' σ'->Q σ' H)->t v σ H Q:=by
 refine⟨λv σ H Q=>∀i,(h i).choose v σ H Q,λi aj s σ H v u Q I r q=>(h i).choose_spec.1 aj s σ H v u Q I r (q i),λv σ H Q q i=>(h i).choose_spec.2.1 v σ H Q (q i),λF0 B F H ρ ρ' σ d v Q rs l e w i=>?_⟩
 exact(h i).choose_spec.2.2.2 F0 B F H ρ ρ' σ d v Q (by rw[hK i];exact rs) (by rw[hK i];exact l) e λσ' r=>w σ' (by rw[←hK i];exact r)
theorem zn7 {X:Cx}{ms:List Mo}{own i:Nat}{x:aR}{pos:cW}(ho:i<own)(hm:ms[i]?=some (.ow 0))(hN:X.N.Nodup)(hi:X.N[i]?=some x)(hx:Loc X.env.scope x)
  (hf:X.fn x=true\/X.env.scope.names.lookup x=some .local:=by first|exact .inl rfl|exact .inr rfl|assumption):uM X ct ms own 0 (.Name x pos) (gV i):=by
 refine⟨_,Sd hN hi hx hf,zkj i own ho,λv σ H Q Q' m q=>m _ _ q,λF0 B F H ρ ρ' σ d v Q rs l e w=>?_⟩
 cases e
 exact w _ (rs.set hm (.refl rs.fh) (Ow.zero l) bA λa z=>(by cases z))
def AF (own:Nat)(g:wO):Prop:=∀v σ H Q,g v σ H Q->g v σ H λσ' H'=>Q σ' H'/\σ'.length = σ.length/\∀i,own<=i->σ'[i]? = σ[i]?
def uN (X:Cx)(ct:Nat->ai)(ms:List Mo)(own n:Nat)(kz:List Expr)(g:List D->Env->Option Env):Prop:=∃t,Be X kz t/\AF own t/\xJ t/\(∀ds ρ ρ',g ds ρ=some ρ'->ds.length=kz.length)/\∀(F0 B F H:Hp) (ρ ρ':Env) (σ:St) (ds:List D) (vs:List V) (Q:St->Hp->Prop),RS X.K ct F0 B ms F H ρ σ->Pr (Al X.K ct F B n) ds vs->g ds ρ=some ρ' ->
 (∀σ',RS X.K ct F0 B ms F H ρ' σ'->Q σ' H)->t vs σ H Q
theorem NB {X:Cx}{ms:List Mo}{own n:Nat}:uN X ct ms own n [] gsNil:=by
 refine⟨_,Se,λv σ H Q q=>⟨q.1,q.2,rfl,λ_ _=>rfl⟩,λv σ H Q Q' m q=>⟨q.1,m _ _ q.2⟩,λds ρ ρ' e=>?_,λF0 B F H ρ ρ' σ ds vs Q rs l e w=>?_⟩
 ·cases ds with
  |nil=>rfl
  |cons d ds=>cases e
 ·cases l with
  |nil=>cases e;exact⟨rfl,w σ rs⟩
  |cons _ _=>cases e
theorem j6 {X:Cx}{ms:List Mo}{own n:Nat}{tg:Expr}{kz:List Expr}{gg:D->Env->Option Env}{gs:List D->Env->Option Env}(h1:uM X ct ms own n tg gg)(h2:uN X ct ms own n kz gs)
  (hs:(cQ (tg::kz) X.env).map (·.2)=gI tg X.env::(cQ kz X.env).map (·.2):=by rfl):uN X ct ms own n (tg::kz) (gsCons gg gs):=by
 obtain⟨t,pt,kt,mt,qt⟩:=h1
 obtain⟨t2,lR,Wj,PV,Mm,oZ⟩:=h2
 refine⟨_,RA pt lR hs,λvs σ H Q q=>?_,λvs σ H Q Q' m q=>?_,λds ρ ρ' e=>?_,λF0 B F H ρ ρ' σ ds vs Q rs l e w=>?_⟩
 ·obtain⟨v,r,e,q⟩:=q
  refine⟨v,r,e,mt _ _ _ _ _ (λσ' H' z=>?_) (kt v σ H _ q)⟩
  obtain⟨z1,z2,z3⟩:=z
  refine PV _ _ _ _ _ (λσ2 H2 y=>?_) (Wj r σ' H' Q z1)
  exact⟨y.1,y.2.1.trans z2,λi hi=>(y.2.2 i hi).trans (z3 i hi)⟩
 ·obtain⟨v,r,e,q⟩:=q
  exact⟨v,r,e,mt _ _ _ _ _ (λσ' H' z=>PV _ _ _ _ _ m z) q⟩
 ·cases ds with
  |nil=>cases e
  |cons d ds=>
   obtain⟨ρ1,h3,h4⟩:=aT e
   rw[aV,aV,Mm _ _ _ h4]
 ·cases l with
  |nil=>cases e
  |cons h t'=>
   obtain⟨ρ1,h3,h4⟩:=aT e
   exact⟨_,_,rfl,qt F0 B F H ρ ρ1 σ _ _ _ rs h h3 λσ1 r1=>oZ F0 B F H ρ1 ρ' σ1 _ _ _ r1 t' h4 w⟩
theorem NP {X:Cx}{ms:List Mo}{own n:Nat}{kz:List Expr}{j:Nat}{pos:cW}{gs:List D->Env->Option Env}(hc:X.calm=true)(h:uN X ct ms own (n-1) kz gs)(hl:(cQ kz X.env).length=kz.length:=by rfl)(mH:(cQ kz X.env).findIdx? (·.1)=none:=by rfl):uM X ct ms own n (.Tuple kz j pos) (gT gs):=by
 obtain⟨t,pt,kt,mt,lt,qt⟩:=h
 refine⟨_,Ta (n:=kz.length) hc pt hl mH,λv σ H Q q=>?_,λv σ H Q Q' m q=>?_,λF0 B F H ρ ρ' σ d v Q rs l e w=>?_⟩
 ·obtain⟨a,xs,e,h1,h2,q⟩:=q
  exact⟨a,xs,e,h1,h2,kt _ _ _ _ q⟩
 ·obtain⟨a,xs,e,h1,h2,q⟩:=q
  exact⟨a,xs,e,h1,h2,mt _ _ _ _ _ m q⟩
 cases d with
 |tup ds=>
  have:∃a vs,v=.ref a/\kn X.K H a vs/\Pr (Al X.K ct F B (n-1)) ds vs:=by
   cases n with
   |zero=>
    have l:Dt X.K ct F (.tup ds) v:=l
    cases l with
    |tup q t=>exact⟨_,_,rfl,kn.of (rs.fh _ _ q),t.pr⟩
   |succ n=>
    rcases l with l|l
    ·cases l with
     |tup q t=>exact⟨_,_,rfl,kn.of (rs.fh _ _ q),t.pr.mono λ_ _=>Al.of⟩
    ·cases l with
     |tup q t=>exact⟨_,_,rfl,kn.of (rs.fh _ _ q),t⟩
  obtain⟨a,vs,rfl,ha,hp⟩:=this
  exact⟨a,vs,rfl,ha,hp.length.symm.trans (lt _ _ _ e),qt F0 B F H ρ ρ' σ ds vs Q rs hp e w⟩
 |_=>cases e
def dE (ρ:Env)(cap:List Nat):Env:=cap.map λi=>(ρ[i]?).join
def gQ (ms:List Mo)(cap:List Nat):List Mo:=cap.map λi=>.al (((ms[i]?).map Mo.lv).getD 0)
def ny (g:D->Env->Option Env)(p:BF)(f:EF)(ρ0:Env):List D->Option (List D)
 |[]=>some []
 |d::ds=>(g d ρ0).bind λρ1=>(p ρ1).bind λb=>if b=true then(f ρ1).bind λy=>(ny g p f ρ0 ds).bind λys=>some (y::ys)else ny g p f ρ0 ds
def dA (fi:Env->Option (List D))(own:Nat)(cap:List Nat)(g:D->Env->Option Env)(p:BF)(f:EF):EF:=λρ=>(fi ρ).bind λds=>if ds.length<=16777216 then(ny g p f (aA own none++dE ρ cap) ds).bind λys=>some (.lst ys)else none
theorem SL.caps {F B H:Hp}{ms:List Mo}{ρ:Env}{σ:St}(rs:RS K ct F0 B ms F H ρ σ):∀{cap:List Nat},(∀i∈cap,i<ms.length)->SL K ct F H H (gQ ms cap) (dE ρ cap) (fZ σ cap) []
 |[],_=>.nil
 |i::cap,h=>by
  have ih:=SL.caps rs (cap:=cap) λj hj=>h j (ah _ hj)
  have hi:i<ms.length:=h i aa
  have hm:ms[i]?=some ms[i]:=by simp[hi]
  show SL K ct F H H (.al (((ms[i]?).map Mo.lv).getD 0)::gQ ms cap) ((ρ[i]?).join::dE ρ cap) ((σ[i]?).join::fZ σ cap) []
  cases e:(ρ[i]?).join with
  |none=>exact .no ih
  |some d=>
   obtain⟨v,hv,l⟩:=rs.get hm (yf e)
   rw[hv,hm]
   exact .al l ih
theorem SL.nones {F B H:Hp}{ms Mn:List Mo}{ρ:Env}{σ:St}{fp:List ai}(t:SL K ct F B H ms ρ σ fp):∀{om:List Mo},SL K ct F B H (om++ms) (aA om.length none ++ ρ) (aA om.length none ++ σ) fp
 |[]=>t
 |m::om=>.no (SL.nones (Mn:=Mn) t)
theorem RQ {X:Cx}{ms om:List Mo}{n k:Nat}{jG iter tg:Expr}{ifs:List Expr}{scope:fW}{pos:cW}{N:List aR}{own:Nat}{cap:List Nat}{fi:Env->Option (List D)}{gg:D->Env->Option Env}{p:BF}{f:EF}
  (B:kj X scope N own cap) (hc:X.calm=true) (ho:om.length=own) (fK:∀i∈cap,i<ms.length) (hi:wQ X ct ms n tg iter fi)
  (hg:∀cl C fp s₀ H₀,uM (iD X scope cl N C fp s₀ H₀) ct (om++gQ ms cap) own n tg gg) (ht:∀cl C fp s₀ H₀,yG (iD X scope cl N C fp s₀ H₀) ct (om++gQ ms cap) ifs p) (he:∀cl C fp s₀ H₀,XO (iD X scope cl N C fp s₀ H₀) ct (om++gQ ms cap) k jG f)
  :
  ∃wi g tt te,PI X tg iter wi/\ga own g/\(∀cl C fp s₀ H₀,PG (iD X scope cl N C fp s₀ H₀) tg g)/\(∀cl C fp s₀ H₀,wN (iD X scope cl N C fp s₀ H₀) ifs tt)/\(∀cl C fp s₀ H₀,PE (iD X scope cl N C fp s₀ H₀) jG te) /\
   ∀(F0 B F H:Hp) (ρ:Env) (σ:St) (d:D) (Q:VK),RS X.K ct F0 B ms F H ρ σ->dA fi own cap gg p f ρ=some d->(∀v F' H' fp,gu F H F' H'->Ow X.K ct F' H' (k+1) d v fp->fp.Nodup->(∀a∈fp,H a=none)->Q v H')->qO wi own cap g tt te σ H Q:=by
 obtain⟨wi,pi,qi⟩:=hi
 obtain⟨Qk,pg,kg,qg⟩:=zv7 (K:=X.K) (Xs:=λz:List (aR×ai)×ai×List ai×ak×Hp=>iD X scope z.1 N z.2.1 z.2.2.1 z.2.2.2.1 z.2.2.2.2) (λ_=>rfl) (λz=>hg z.1 z.2.1 z.2.2.1 z.2.2.2.1 z.2.2.2.2)
 obtain⟨tt,pt,qt⟩:=zv6 (K:=X.K) (Xs:=λz:List (aR×ai)×ai×List ai×ak×Hp=>iD X scope z.1 N z.2.1 z.2.2.1 z.2.2.2.1 z.2.2.2.2) (λ_=>rfl) (λz=>ht z.1 z.2.1 z.2.2.1 z.2.2.2.1 z.2.2.2.2)
 obtain⟨te,pe,qe⟩:=zv5 (K:=X.K) (Xs:=λz:List (aR×ai)×ai×List ai×ak×Hp=>iD X scope z.1 N z.2.1 z.2.2.1 z.2.2.2.1 z.2.2.2.2) (λ_=>rfl) (λz=>he z.1 z.2.1 z.2.2.1 z.2.2.2.1 z.2.2.2.2)
 refine⟨wi,Qk,tt,te,pi,kg,(λcl C fp s₀ H₀=>pg (cl,C,fp,s₀,H₀)),(λcl C fp s₀ H₀=>pt (cl,C,fp,s₀,H₀)),(λcl C fp s₀ H₀=>pe (cl,C,fp,s₀,H₀)),λF0 B F H ρ σ r Q rs e w=>?_⟩
 obtain⟨ds,h1,h2⟩:=aT e
 by_cases hz:ds.length<=16777216
 case neg=>rw[if_neg hz]at h2;cases h2
 rw[if_pos hz]at h2
 obtain⟨ys,h3,h4⟩:=aT h2
 cases h4
 refine qi F0 B F H ρ σ ds _ rs h1 λJ F1 H1 x1 ok A hA=>?_
 have jL:=rs.ext x1
 refine⟨λi m us H2=>m=ds.length-i/\i<=ds.length/\us.length<=i/\H2 A=some (.lst us)/\∃F2 yd zd fp,gu F1 H1 F2 H2/\F2 A=none/\OwL (Ow X.K ct F2 H2 k) yd us fp/\fp.Nodup/\(∀a∈fp,H1 a=none/\a≠A)/\ny gg p f (aA own none++dE ρ cap) (ds.drop i)=some zd/\yd++zd=ys,
  ⟨ds.length,rfl,cK _,aF _,yx,F1,[],ys,[],gu.newO x1.fh hA _,x1.fh.free hA,.nil,bA,λa z=>(by cases z),h3,rfl⟩,?_⟩
 rintro i m us H2 ⟨rfl,Bq,Pt,Io,F2,yd,zd,fp,x2,fA,ol,nd,hf,iL,IG⟩
 refine⟨Io,?_⟩
 have X4:=jL.ext x2
 obtain⟨k1,k2⟩:=ok i F2 H2 x2.ff x2.hh x2.fh
 by_cases ie:i<ds.length
 ·right
  have hd:ds[i]?=some ds[i]:=by simp[ie]
  obtain⟨go,yl⟩:=k1 _ hd
  rw[nq ie]at iL
  obtain⟨ρ1,h5,h6⟩:=aT iL
  obtain⟨b,h7,h8⟩:=aT h6
  refine⟨go,by rw[cH];omega,λx H3 y=>?_⟩
  obtain⟨F3,x3,l⟩:=yl x H3 y
  have X5:=X4.ext x3
  have sl:=SL.nones (Mn:=[]) (SL.caps X5 fK) (om:=om)
  rw[ho]at sl
  have X6:RS X.K ct F3 H3 (om++gQ ms cap) F3 H3 (aA own none++dE ρ cap) (aA own none++fZ σ cap):=⟨.refl _,.refl _,x3.fh,λ_ _ _ h=>h,[],sl,bA,λa z=>(by cases z)⟩
  have A3:H3 A=some (.lst us):=x3.hh _ _ Io
  have OX:F3 A=none:=x3.nf A _ Io fA
  refine qg F3 H3 F3 H3 _ ρ1 _ _ x _ X6 (l.mono (.refl _) (x2.trans x3).hh) h5 λσ1 r1=>?_
  refine qt F3 H3 F3 H3 ρ1 σ1 b _ r1 h7 λF4 H4 x4=>?_
  cases b with
  |false=>
   rw[if_neg aU]at h8 ⊢
   have Qr:=x3.trans x4
   refine⟨ds.length-(i+1),by omega,rfl,ie,by omega,x4.hh _ _ A3,F4,yd,zd,fp,x2.trans Qr,x4.nf A _ A3 OX,ol.mono λ_ _ _ _ o=>o.ext Qr,nd,hf,h8,IG⟩
  |true=>
   rw[if_pos rfl]at h8 ⊢
   obtain⟨yv,h9,Vh⟩:=aT h8
   obtain⟨zs,Vi,Vj⟩:=aT Vh
   cases Vj
   refine qe F3 H3 F4 H4 ρ1 σ1 yv _ (r1.ext x4) h9 λv F5 H5 f5 x5 o5 n5 LI=>?_
   have MT:=(x3.trans x4).trans x5
   have Qs:=x4.trans x5
   have A5:H5 A=some (.lst us):=Qs.hh _ _ A3
   have OY:F5 A=none:=Qs.nf A _ A3 OX
   have A4:H4 A=some (.lst us):=x4.hh _ _ A3
   have O2:∀a∈f5,a≠A:=λa z e=>by rw[e]at z;rw[LI A z]at A4;cases A4
   refine⟨A5,ds.length-(i+1),by omega,rfl,ie,by rw[aW,cL];omega,yx,F5,yd++[yv],zs,fp++(f5++[]),?_,OY,?_,?_,?_,Vi,by rw[eP];exact IG⟩
   ·have vU:=x2.trans MT
    refine⟨vU.ff,λa o h=>?_,λa o h=>?_,vU.nf⟩
    ·rw[yo (xr h hA)];exact vU.hh _ _ h
    ·rw[yo (λz=>by rw[z]at h;rw[OY]at h;cases h)];exact vU.fh _ _ h
   ·refine(ol.mono λ_ _ f VF o=>?_).append (.cons ?_ .nil)
    ·refine(o.ext MT).frame (.refl _) λa z=>⟨yo (hf a (VF a z)).2,((o.ext MT).cells a z).1⟩
    ·exact o5.frame (.refl _) λa z=>⟨yo (O2 a z),(o5.cells a z).1⟩
   ·rw[cn]
    refine bj.mpr ⟨nd,n5,λa z c hc e=>?_⟩
    subst e
    have:∃o,H2 a=some o:=(OwL.cellsOf ol a z).2
    obtain⟨o,ho⟩:=this
    have:=x4.hh _ _ (x3.hh _ _ ho)
    rw[LI a hc]at this
    cases this
   ·intro a z
    rw[cn]at z
    rcases aZ.mp z with z|z
    ·exact hf a z
    ·refine⟨?_,O2 a z⟩
     have Hs:=x2.trans (x3.trans x4)
     exact Hs.hh.free (LI a z)
 ·left
  refine⟨k2 (by omega),?_⟩
  have:ds.drop i=[]:=oF (by omega)
  rw[this]at iL
  cases iL
  rw[cn]at IG
  subst IG
  refine w _ F2 H2 (A::fp) (x1.trans x2) (.inr (.lst fA Io ol)) (bw.mpr ⟨λz=>(hf A z).2 rfl,nd⟩) λa z=>?_
  rcases aC.mp z with rfl|z
  ·exact x1.hh.free hA
  ·exact x1.hh.free (hf a z).1
theorem zrh {X:Cx}{ms om:List Mo}{n k:Nat}{jG iter tg:Expr}{ifs:List Expr}{scope:fW}{pos:cW}{N:List aR}{own:Nat}{cap:List Nat}{fi:Env->Option (List D)}{gg:D->Env->Option Env}{p:BF}{f:EF}
  (B:kj X scope N own cap) (hc:X.calm=true) (ho:om.length=own) (fK:∀i∈cap,i<ms.length) (hi:wQ X ct ms n tg iter fi)
  (hg:∀cl C fp s₀ H₀,uM (iD X scope cl N C fp s₀ H₀) ct (om++gQ ms cap) own n tg gg) (ht:∀cl C fp s₀ H₀,yG (iD X scope cl N C fp s₀ H₀) ct (om++gQ ms cap) ifs p) (he:∀cl C fp s₀ H₀,XO (iD X scope cl N C fp s₀ H₀) ct (om++gQ ms cap) k jG f)
  (hs:∀x,dJ iter X.env x=pure x:=by intro _;rfl):XO X ct ms (k+1) (.ListComp jG [⟨tg,iter,ifs,0⟩] scope pos) (dA fi own cap gg p f):=by
 obtain⟨wi,g,tt,te,pi,kg,pg,pt,pe,q⟩:=RQ (k:=k) (pos:=pos) B hc ho fK hi hg ht he
 exact⟨_,zra B hc pi kg pg pt pe hs,q⟩
end
end L3
namespace L3
open PySem PySem.Spec L2
open PyProof.Rows hiding St
section
variable {X:Cx}{ct:Nat->ai}{ms:List Mo}{rk n m k:Nat}{st:bR}{rest:List bR}{a b c e tg:Expr}{f g h:EF}{p q:BF}{u w:SF}{pos:cW}
def Ia:D->Option (List D)
 |.lst ds=>some ds
 |_=>none
theorem NC {d:D}{ds:List D}(h:Ia d=some ds):d=.lst ds:=by cases d<;>simp[Ia]at h;subst h;rfl
def lsD (f:EF):Env->Option (List D):=λρ=>(f ρ).bind Ia
theorem S2 {K:ae}{F B G:Hp}{a:ai}{vs:List V}{ds:List D}(hp:Pr (Al K ct F B n) ds vs)(keep:∀F' H',bQ F F'->bQ B H'->bQ F' H'->fm K H' a vs):rn K ct F B n (J6 K a) ds:=by
 intro i F' H' s1 s2 s3
 have hs:fm K H' a vs:=keep F' H' s1 s2 s3
 refine⟨λd hd=>?_,λhl=>⟨vs,hs,by rw[←hp.length];exact hl⟩⟩
 obtain⟨v,hv,l⟩:=hp.get' hd
 refine⟨⟨vs,v,hs,hv⟩,λx H2 y=>?_⟩
 obtain⟨e,y⟩:=y
 subst e
 have:=y vs hs
 rw[hv]at this
 cases this
 exact⟨F',.refl s3,l.mono s1 (.refl _)⟩
theorem Dt.lst_inv {K:ae}{F:Hp}{ds:List D}{v:V}(h:Dt K ct F (.lst ds) v):∃a vs,v=.ref a/\fm K F a vs/\Dts K ct F ds vs:=by
 cases h with
 |lst q t=>exact⟨_,_,rfl,q,t⟩
theorem uw (he:XE X ct ms 0 e f):XI X ct ms 0 tg e (lsD f):=by
 obtain⟨t,pt,qt⟩:=he
 refine⟨_,R8 pt,λF0 B F H ρ σ ds R rs e w=>?_⟩
 obtain⟨d,h1,h2⟩:=aT e
 rw[NC h2]at h1
 refine qt F0 B F H ρ σ _ _ rs h1 λv F' H' x l=>?_
 obtain⟨a,vs,rfl,ha,hp⟩:=Dt.lst_inv l
 exact⟨a,rfl,⟨vs,x.fh.seq ha⟩,w _ F' H' x (S2 (G:=H') (n:=0) (hp.pr) λF2 H2 s1 s2 s3=>s3.seq (s1.seq ha))⟩
theorem jh (he:XE X ct ms n e f):wQ X ct ms (n-1) tg e (lsD f):=by
 obtain⟨t,pt,qt⟩:=he
 refine⟨_,R8 pt,λF0 B F H ρ σ ds R rs e w=>?_⟩
 obtain⟨d,h1,h2⟩:=aT e
 rw[NC h2]at h1
 refine qt F0 B F H ρ σ _ _ rs h1 λv F' H' x l=>?_
 obtain⟨a,vs,rfl,ha,hp⟩:=l.lst x.fh
 exact⟨a,rfl,⟨vs,ha⟩,w _ F' H' x (S2 (G:=H') hp λF2 H2 s1 s2 s3=>s2.seq ha)⟩
theorem XI.cc {fi:Env->Option (List D)}(h:XI X ct ms n tg e fi):wQ X ct ms n tg e fi:=by
 obtain⟨t,pt,qt⟩:=h
 refine⟨t,pt,λF0 B F H ρ σ ds R rs e w=>qt F0 B F H ρ σ ds R rs e λJ F' H' x ok=>w J F' H' x λi F2 H2 s1 s2 s3=>?_⟩
 obtain⟨k1,k2⟩:=ok i F2 H2 s1 ((rs.ext x).bh.trans s2) s3
 refine⟨λd hd=>?_,k2⟩
 obtain⟨go,yl⟩:=k1 d hd
 refine⟨go,λv H3 y=>?_⟩
 obtain⟨F3,x3,l⟩:=yl v H3 y
 exact⟨F3,x3,l.mono (.refl _) (rs.ext x).bh⟩
def eY (lo:Int)(j:Nat):List D:=(aE j).map λ(t:Nat)=>.int (lo+(t:Int))
def gE:List D->Option (List D)
 |[.int j]=>if -4611686018427387904<=j/\j<4611686018427387904 then some (eY 0 j.toNat)else none
 |_=>none
def rL:List D->Option (List D)
 |[.int i,.int j]=>if -4611686018427387904<=i/\i<4611686018427387904/\-4611686018427387904<=j/\j<4611686018427387904 then some (eY i (j-i).toNat)else none
 |_=>none
theorem S3 {K:ae}{F B:Hp}{lo:Int}{j:Nat}:rn K ct F B n (B7 lo j) (eY lo j):=by
 intro i F' H' s1 s2 s3
 unfold eY
 refine⟨λd hd=>?_,λhl=>(show j<=i by simpa using hl)⟩
 rw[aQ]at hd
 by_cases h:i<j
 ·rw[el h]at hd
  cases hd
  refine⟨h,λx H2 y=>?_⟩
  obtain⟨e,y⟩:=y
  subst e
  subst y
  exact⟨F',.refl s3,Al.of (.int _)⟩
 ·rw[pj (by simpa using h)]at hd
  cases hd
theorem wn {fs:Env->Option (List D)}{pp:cW}(hm:X.mg "range"=none)(ha:XA X ct ms [a] [m] fs)(hg:Gl X "range":=by rfl)(hs:ao [a] X.env=[(false,bF a X.env)]:=by rfl):XI X ct ms n tg (.Call (.Name "range" pp) [a] [] pos) (λρ=>(fs ρ).bind gE):=by
 obtain⟨t,pt,_,qt⟩:=ha
 refine⟨_,Z9 hg hm pt hs,λF0 B F H ρ σ ds R rs e w=>?_⟩
 obtain⟨nS,h1,h2⟩:=aT e
 refine qt F0 B F H ρ σ _ _ rs h1 λvs F' H' x l=>?_
 cases l with
 |cons h t=>
  cases t
  rename_i d v
  cases d with
  |int j=>
   unfold gE at h2
   dsimp only at h2
   by_cases hj:-4611686018427387904<=j/\j<4611686018427387904
   ·rw[if_pos hj]at h2
    cases h2
    exact⟨j,by rw[h.int],by omega,by omega,w _ F' H' x S3⟩
   ·rw[if_neg hj]at h2;cases h2
  |_=>cases h2
theorem zl1 {fs:Env->Option (List D)}{pp:cW}{m':Nat}(hm:X.mg "range"=none)(ha:XA X ct ms [a,b] [m,m'] fs)(hg:Gl X "range":=by rfl)(hs:ao [a,b] X.env=[(false,bF a X.env),(false,bF b X.env)]:=by rfl)(ni:ao [b] X.env=[(false,bF b X.env)]:=by rfl):XI X ct ms n tg (.Call (.Name "range" pp) [a,b] [] pos) (λρ=>(fs ρ).bind rL):=by
 obtain⟨t,pt,_,qt⟩:=ha
 refine⟨_,zk2 hg hm pt hs ni,λF0 B F H ρ σ ds R rs e w=>?_⟩
 obtain⟨nS,h1,h2⟩:=aT e
 refine qt F0 B F H ρ σ _ _ rs h1 λvs F' H' x l=>?_
 cases l with
 |cons h t=>
  cases t with
  |cons h' t=>
   cases t
   rename_i d v d' v'
   cases d with
   |int i=>
    cases d' with
    |int j=>
     unfold rL at h2
     dsimp only at h2
     by_cases hj:-4611686018427387904<=i/\i<4611686018427387904/\-4611686018427387904<=j/\j<4611686018427387904
     ·rw[if_pos hj]at h2
      cases h2
      exact⟨i,j,by rw[h.int,h'.int],⟨by omega,by omega,by omega,by omega⟩,w _ F' H' x S3⟩
     ·rw[if_neg hj]at h2;cases h2
    |_=>cases h2
   |_=>cases h2
def eu (i:Nat):List D->List D
 |[]=>[]
 |d::ds=>.tup [.int i,d]::eu (i+1) ds
theorem Nm:∀{ds:List D} {j i:Nat} {d:D},(eu j ds)[i]?=some d->∃x,ds[i]?=some x/\d=.tup [.int (j+i:Nat),x]
 |[],_,_,_,h=>by simp[eu]at h
 |x::ds,j,0,d,h=>by simp[eu]at h;subst h;exact⟨x,rfl,rfl⟩
 |x::ds,j,i+1,d,h=>by
  obtain⟨y,h1,h2⟩:=Nm (ds:=ds) (j:=j+1) (i:=i) (d:=d) (by simpa[eu]using h)
  exact⟨y,by simpa using h1,by rw[h2,Nat.add_assoc,Nat.add_comm 1 i]⟩
theorem Q5:∀{ds:List D} {j:Nat},(eu j ds).length=ds.length
 |[],_=>rfl
 |_::ds,j=>by simp[eu,Q5 (ds:=ds)]
theorem S4 {K:ae}{F B:Hp}{a:ai}{vs:List V}{ds:List D}(hp:Pr (Al K ct F B n) ds vs)(keep:∀F' H',bQ F F'->bQ B H'->bQ F' H'->fm K H' a vs):rn K ct F B (n+1) (J5 K a) (eu 0 ds):=by
 intro i F' H' s1 s2 s3
 have hs:fm K H' a vs:=keep F' H' s1 s2 s3
 refine⟨λd hd=>?_,λhl=>⟨vs,hs,by rw[←hp.length];rw[Q5]at hl;exact hl⟩⟩
 obtain⟨x,hx,rfl⟩:=Nm hd
 obtain⟨v,hv,l⟩:=hp.get' hx
 refine⟨⟨vs,v,hs,hv⟩,λz H2 y=>?_⟩
 obtain⟨r,y',hr,rfl,rfl,y⟩:=y
 have:=y vs hs
 rw[hv]at this
 cases this
 refine⟨_,gu.newS s3 hr _,.inr (.tup yx (.cons (Al.of ?_) (.cons (l.mono (s1.trans (HC (s3.free hr) _)) (.refl _)) .nil)))⟩
 rw[Nat.zero_add]
 exact .int _
theorem zri {fs:Env->Option (List D)}{oU:List Expr}{kt:Nat}{pt pp:cW}(hm:X.mg "enumerate"=none)(ha:XA X ct ms [a] [0] fs)(hg:Gl X "enumerate":=by rfl)(hs:ao [a] X.env=[(false,bF a X.env)]:=by rfl) :
  XI X ct ms 1 (.Tuple oU kt pt) (.Call (.Name "enumerate" pp) [a] [] pos) (λρ=>(fs ρ).bind λds=>match ds with|[.lst xs]=>some (eu 0 xs)|_=>none):=by
 obtain⟨t,pt,_,qt⟩:=ha
 refine⟨_,Sk hg hm pt hs,λF0 B F H ρ σ ds R rs e w=>?_⟩
 obtain⟨nS,h1,h2⟩:=aT e
 refine qt F0 B F H ρ σ _ _ rs h1 λvs F' H' x l=>?_
 cases l with
 |cons h t=>
  cases t
  rename_i d v
  cases d with
  |lst xs=>
   cases h2
   obtain⟨a,vs,rfl,ha,hp⟩:=Dt.lst_inv h
   exact⟨a,rfl,⟨vs,x.fh.seq ha⟩,w _ F' H' x (S4 (n:=0) hp.pr λF2 H2 s1 s2 s3=>s3.seq (s1.seq ha))⟩
  |_=>cases h2
theorem ND {fs:Env->Option (List D)}{oU:List Expr}{kt:Nat}{pt pp:cW}(hm:X.mg "enumerate"=none)(ha:XA X ct ms [a] [n] fs)(hg:Gl X "enumerate":=by rfl)(hs:ao [a] X.env=[(false,bF a X.env)]:=by rfl) :
  wQ X ct ms (n-1+1) (.Tuple oU kt pt) (.Call (.Name "enumerate" pp) [a] [] pos) (λρ=>(fs ρ).bind λds=>match ds with|[.lst xs]=>some (eu 0 xs)|_=>none):=by
 obtain⟨t,pt,_,qt⟩:=ha
 refine⟨_,Sk hg hm pt hs,λF0 B F H ρ σ ds R rs e w=>?_⟩
 obtain⟨nS,h1,h2⟩:=aT e
 refine qt F0 B F H ρ σ _ _ rs h1 λvs F' H' x l=>?_
 cases l with
 |cons h t=>
  cases t
  rename_i d v
  cases d with
  |lst xs=>
   cases h2
   obtain⟨a,vs,rfl,ha,hp⟩:=h.lst x.fh
   exact⟨a,rfl,⟨vs,ha⟩,w _ F' H' x (S4 hp λF2 H2 s1 s2 s3=>s2.seq ha)⟩
  |_=>cases h2
end
end L3
namespace L3
open PySem PySem.Spec L2
open PyProof.Rows hiding St
section
variable {X:Cx}{ct:Nat->ai}{ms:List Mo}{rk n m k:Nat}{st:bR}{rest:List bR}{a b c e tg:Expr}{f g h:EF}{p q:BF}{u w:SF}{pos:cW}
theorem Ow.lst_inv {K:ae}{F H:Hp}{ds:List D}{v:V}{fp:List ai}(h:Ow K ct F H (k+1) (.lst ds) v fp):∃a vs fr,v=.ref a/\fp=a::fr/\F a=none/\H a=some (.lst vs)/\OwL (Ow K ct F H k) ds vs fr:=by
 rcases h with⟨h,_⟩|h
 ·cases h
 ·cases h with
  |lst h1 h2 h3=>exact⟨_,_,_,rfl,rfl,h1,h2,h3⟩
theorem Ow.dK_inv {K:ae}{F H:Hp}{ks:List eX}{ds:List D}{v:V}{fp:List ai}(h:Ow K ct F H (k+1) (.dK ks ds) v fp):∃a vs fr,v=.ref a/\fp=a::fr/\F a=none/\H a=some (.dK (ks.zip vs))/\ks.length=vs.length/\OwL (Ow K ct F H k) ds vs fr:=by
 rcases h with⟨h,_⟩|h
 ·cases h
 ·cases h with
  |dK h1 h2 h3 h4=>exact⟨_,_,_,rfl,rfl,h1,h2,h3,h4⟩
theorem Ow.dT_inv {K:ae}{F H:Hp}{ks:List (List eX)}{ds:List D}{v:V}{fp:List ai}(h:Ow K ct F H (k+1) (.dT ks ds) v fp):∃a vs fr,v=.ref a/\fp=a::fr/\F a=none/\H a=some (.dT (ks.zip vs))/\ks.length=vs.length/\OwL (Ow K ct F H k) ds vs fr:=by
 rcases h with⟨h,_⟩|h
 ·cases h
 ·cases h with
  |dT h1 h2 h3 h4=>exact⟨_,_,_,rfl,rfl,h1,h2,h3,h4⟩
theorem RS.change {K:ae}{F0 B F H F' H':Hp}{ρ:Env}{σ:St}{i:Nat}{d':D}{v:V}{f1 fr fn:List ai}{ad:ai}{o:HO}(rs:RS K ct F0 B ms F H ρ σ)(hm:ms[i]?=some (.ow k))(x:gu F H F' H')
  (hσ:σ[i]?=some (some v)) (b1:∀a∈f1,B a=none) (dj:∀a∈f1,a∉fr) (cf:∀a∈fr,F a=none/\∃o,H a=some o)
  (put:∀(F' H':Hp) (d':D) (v':V) (f':List ai),bQ F F'->bQ B H'->bQ F' H'->(∀a o,B a=some o->F0 a=none->F' a=none)->(∀a∈fr,H' a=H a/\F' a=none)->Ow K ct F' H' k d' v' f'->f'.Nodup->(∀a∈f',a∉fr)->(∀a∈f',B a=none) ->
    RS K ct F0 B ms F' H' (ρ.set i (some d')) (σ.set i (some v')))
  (nz:ad∈f1) (Lb:F' ad=none) (o':Ow K ct F' (upd H' ad o) k d' v fn) (nd:fn.Nodup) (Bo:∀a∈fn,a∈f1\/H a=none):RS K ct F0 B ms F' (upd H' ad o) (ρ.set i (some d')) σ:=by
 have r:=rs.ext x
 have hB:B ad=none:=b1 ad nz
 have res:=put F' (upd H' ad o) d' v fn x.ff (λz u h=>by rw[yo (λe=>by rw[e,hB]at h;cases h)];exact r.bh _ _ h) (λz u h=>by rw[yo (λe=>by rw[e,Lb]at h;cases h)];exact x.fh _ _ h) r.nf
  (λz hz=>by
   obtain⟨hn,o,ho⟩:=cf z hz
   refine⟨?_,x.nf z o ho hn⟩
   have ne:z≠ad:=λe=>dj ad nz (by rw[←e];exact hz)
   rw[yo ne]
   exact(x.hh _ _ ho).trans ho.symm) o' nd
  (λz hz zr=>by
   rcases Bo z hz with h|h
   ·exact dj z h zr
   ·obtain⟨_,o,ho⟩:=cf z zr
    rw[h]at ho
    cases ho)
  (λz hz=>(Bo z hz).elim (b1 z) λh=>rs.bh.free h)
 have e:σ.set i (some v) = σ:=by
  apply kF
  intro j
  by_cases hj:i=j
  ·subst hj
   rw[iT (by
    have:=aL.mp hσ
    exact this.1),hσ]
  ·rw[cO hj]
 rw[e]at res
 exact res
def sApp (i:Nat)(f:EF):SF:=λρ=>(eV i ρ).bind λo=>(f ρ).bind λd=>match o with
 |.lst ds=>if ds.length<16777216 then some (.nx (ρ.set i (some (.lst (ds++[d])))))else none
 |_=>none
theorem Ja (i:Nat){x:aR}{p1 dB dP:cW}(hm:ms[i]?=some (.ow (k+1)))(he:XO X ct ms k e f)(hN:X.N[i]?=some x:=by rfl)(hv:ou X.env.scope x:=by first|exact Or.inl rfl|exact Or.inr (Or.inl rfl)|exact Or.inr (Or.inr rfl))(hd:(x==("__debug__":aR))=false:=by decide)
  (iL:(x==("__classdict__":aR))=false:=by decide) (mH:ao [e] X.env=(false,bF e X.env)::ao [] X.env:=by rfl)
  (mD:er (.Name x p1) "append" X.env (bF (.Name x p1) X.env)=bF (.Name x p1) X.env:=by rfl)
  (pV:((cy dP (ao [e] X.env)).all (λx=>!x.1)&&(eU dP (dh [] X.env)).all (λx=>x.1.isSome)
   && decide ([e].length+([]:List fS).length+(if([]:List fS).isEmpty then 0 else 1)<30))=true:=by rfl)
  (mF:(dB.endLine==dP.line)=true:=by rfl) (jW:(cy dP (ao [] X.env)).any (·.1)=false:=by rfl)
  (vA:dW (.Call (.Attribute (.Name x p1) "append" dB) [e] [] dP) none pos.line X.env=pure false:=by rfl) :
  XS X ct ms rk (.Expr (.Call (.Attribute (.Name x p1) "append" dB) [e] [] dP) pos) (sApp i f):=by
 obtain⟨t,pt,qt⟩:=he
 refine⟨_,NK (JZ PySem.F.plainAttrs_list PySem.F.slot_list_append PySem.F.type_list_append Jc (jo hN hv hd iL) (v4 pt tP mH) mD pV mF mH jW) vA,λF0 B F H ρ σ o E rs e z=>?_⟩
 obtain⟨d1,d2,h1,h2,h3⟩:=dD e
 obtain⟨f1,fr,n1,b1,dj,i4,cf,put⟩:=rs.put (F':=F) (H':=H) hm
 obtain⟨v,hσ,ow⟩:=i4 d1 (yf h1)
 refine⟨v,hσ,?_⟩
 cases d1 with
 |lst ds=>
  dsimp only at h3
  by_cases hz:ds.length<16777216
  ·rw[if_pos hz]at h3
   cases h3
   obtain⟨ad,vs,mY,rfl,rfl,hF,hH,ol⟩:=ow.lst_inv
   refine⟨.inl ⟨rfl,_,fm.of hH⟩,qt F0 B F H ρ σ d2 _ rs h2 λv2 F' H' fp x1 o2 Ga LH=>?_⟩
   have hA:H' ad=some (.lst vs):=x1.hh _ _ hH
   have fA:F' ad=none:=x1.nf ad _ hH hF
   have nA:∀a∈fp,a≠ad:=λa hz e=>by rw[e]at hz;rw[LH ad hz]at hH;cases hH
   have Bw:=bw.mp n1
   refine⟨ad,vs,v2,rfl,rfl,hA,by rw[←ol.length,cH];exact hz,?_⟩
   refine z σ F' _ (rs.change hm x1 hσ b1 dj cf put aa fA (.inr (.lst fA yx ((ol.mono λ_ _ f' hi o'=>?_).append (.cons (f:=fp) ?_ .nil)))) (fn:=ad::(mY++(fp++[]))) ?_ ?_)
   ·refine(o'.ext x1).frame (.refl _) λa ha=>⟨yo λe=>Bw.1 (e▸hi a ha),((o'.ext x1).cells a ha).1⟩
   ·exact o2.frame (.refl _) λa ha=>⟨yo (nA a ha),(o2.cells a ha).1⟩
   ·rw[cn]
    refine bw.mpr ⟨λhz=>?_,bj.mpr ⟨Bw.2,Ga,λa ha b hb e=>?_⟩⟩
    ·rcases aZ.mp hz with hz|hz
     ·exact Bw.1 hz
     ·exact nA ad hz rfl
    ·subst e
     obtain⟨_,o,ho⟩:=OwL.cellsOf ol a ha
     rw[LH a hb]at ho
     cases ho
   ·intro a ha
    rw[cn]at ha
    rcases aC.mp ha with rfl|ha
    ·exact .inl aa
    ·rcases aZ.mp ha with ha|ha
     ·exact .inl (ah _ ha)
     ·exact .inr (LH a ha)
  ·rw[if_neg hz]at h3;cases h3
 |_=>cases h3
def ky (ds:List D)(i:Int)(d:D):Option (List D):=(ixN ds.length i).bind λj=>some (ds.set j d)
def fu {κ:Type}[DecidableEq κ](ks:List κ)(ds:List D)(k:κ)(d:D):List κ×List D:=if ks.contains k=true then(ks,(ks.zip ds).map λp=>if p.1=k then d else p.2)else(ks++[k],ds++[d])
def o6 (i:Nat)(fj f:EF):SF:=λρ=>(f ρ).bind λd=>(eV i ρ).bind λo=>(fj ρ).bind λj=>match o,j with
 |.lst ds,.int z=>(ky ds z d).bind λnS=>some (.nx (ρ.set i (some (.lst nS))))
 |_,_=>none
theorem OwL.set0 {R:D->V->List ai->Prop}{d:D}{v:V}(r:R d v [])(z:∀d v f,R d v f->f=[]):∀{ds:List D} {vs:List V} {fp:List ai} (i:Nat),OwL R ds vs fp->OwL R (ds.set i d) (vs.set i v) []
 |_,_,_,_,.nil=>.nil
 |_,_,_,0,.cons h t=>by
  have:=OwL.cons (f:=[]) (g:=[]) r (OwL.ofPr (t.pr λd v f _ q=>by have:=z _ _ _ q;subst this;exact q))
  exact this
 |_,_,_,i+1,.cons h t=>by
  have e:=z _ _ _ h
  subst e
  exact OwL.cons (f:=[]) (g:=[]) h (OwL.set0 r z i t)
theorem Ow.nil0 {K:ae}{F H:Hp}{d:D}{v:V}{fp:List ai}(h:Ow K ct F H 0 d v fp):fp=[]:=h.2
theorem OwL.nil0 {K:ae}{F H:Hp}:∀{ds:List D} {vs:List V} {fp:List ai},OwL (Ow K ct F H 0) ds vs fp->fp=[]
 |_,_,_,.nil=>rfl
 |_,_,_,.cons h t=>by rw[h.nil0,OwL.nil0 t];rfl
end
end L3
namespace L3
open PySem PySem.Spec L2
open PyProof.Rows hiding St
section
variable {X:Cx}{ct:Nat->ai}{ms:List Mo}{rk n m k:Nat}{st:bR}{rest:List bR}{a b c e tg:Expr}{f g h:EF}{p q:BF}{u w:SF}{pos:cW}{K:ae}
theorem Ml {aj:List (ai×dO)}{σ:St}{H:Hp}{s:ak}{l:ai}{xs:List V}(I:Inv X aj σ H s)(hH:Rd H l (.lst xs)):xs.length<=sizeLine/\∃(ce:List af) (n:Nat),bX xs ce/\xs.length=ce.length/\s.heap.get? l=some { cls:=.type "list",data:=.seq ce.toArray n }:=by
  obtain⟨z,ce,n,r,e⟩:=hH.ok I.hok
  exact⟨z,ce,n,r,r.length,e⟩
def xL (K:ae):R2:=λx y H Q=>∃l b xs zs,x=.ref l/\y=.ref b/\fm K H l xs/\fm K H b zs/\xs.length+zs.length<=sizeLine/\∀p,H p=none->Q (.ref p) (upd H p (.lst (xs++zs)))
theorem zrj:gw X (d5 .Add) (xL X.K):=by
 intro aj s σ H x y v u Q I rx ry h
 obtain⟨l,b,xs,zs,rfl,rfl,hH,hB,hz,q⟩:=h
 cases rx
 cases ry
 obtain⟨ce,r,⟨⟨cls,dd,data,sl⟩,n,e,c1,c2,c3⟩,z⟩:=I.list hH
 obtain⟨vB,r2,⟨⟨Km,Ih,data2,Hb⟩,n2,e2,c4,c5,c6⟩,z2⟩:=I.list hB
 simp only at c1 c3 c4 c6
 subst c1 c3 c4 c6
 have hl:=r.length
 have qI:=r2.length
 refine rX ⟨_,e,rfl⟩ ⟨_,e2,rfl⟩ noFill_list_add seq_list_add PySem.F.slot_list_add PySem.F.entry_list_add (PySem.F.args_list_add_2 _ _) (list_addW l b ce.toArray vB.toArray n n2 dd Ih sl Hb (by rw[aK,aK];omega)) ⟨e,e2,?_⟩
 have ea:ce.toArray++vB.toArray=(ce++vB).toArray:=by simp
 rw[ea]
 exact⟨.ref _,_,I.lnew (t':=s.toks) (r.append r2) (by rw[aW];omega),rfl,q _ I.fresh⟩
def G1:R2:=λx y H Q=>∃i j,x=.str i/\y=.str j/\i.length+j.length<=sizeLine/\Q (.str (i++j)) H
def AM (K:ae):R2:=λx y H Q=>pF (λi j=>.int (i+j)) x y H Q\/G1 x y H Q\/xL K x y H Q\/xM K x y H Q
theorem zrk:gw X (d5 .Add) (AM X.K):=gw.or ztr (gw.or Z8 (gw.or zrj zq2))
def eG:D->D->Option D
 |.int i,.int j=>some (.int (i+j))
 |.str x,.str y=>if x.length+y.length<=16777216 then some (.str (x++y))else none
 |.lst xs,.lst ys=>if xs.length+ys.length<=16777216 then some (.lst (xs++ys))else none
 |.tup xs,.tup ys=>if xs.isEmpty=false/\ys.isEmpty=false/\xs.length+ys.length<=1000000 then some (.tup (xs++ys))else none
 |_,_=>none
theorem Pr.ow0 {F G H:Hp}{ds:List D}{vs:List V}(h:Pr (Al K ct F G 0) ds vs):OwL (Ow K ct F H 0) ds vs []:=OwL.ofPr (h.mono λ_ _ q=>⟨q,rfl⟩)
theorem Al.lst1 {F G:Hp}{ds:List D}{v:V}(hn:n<=1)(h:Al K ct F G n (.lst ds) v)(s:bQ F G):∃a vs,v=.ref a/\fm K G a vs/\Pr (Al K ct F G 0) ds vs:=by
 obtain⟨a,vs,e,h1,h2⟩:=h.lst s
 have:n-1=0:=by omega
 rw[this]at h2
 exact⟨a,vs,e,h1,h2⟩
theorem Al.tup1 {F G:Hp}{ds:List D}{v:V}(hn:n<=1)(h:Al K ct F G n (.tup ds) v)(s:bQ F G):∃a vs,v=.ref a/\G a=some (.tup vs)/\Pr (Al K ct F G 0) ds vs:=by
 obtain⟨a,vs,e,h1,h2⟩:=h.tup s
 have:n-1=0:=by omega
 rw[this]at h2
 exact⟨a,vs,e,h1,h2⟩
theorem xT {F H:Hp}{ds:List D}{vs:List V}{Q:VK}(s:bQ F H)(hp:Pr (Al K ct F H 0) ds vs)(w:∀v F' H' fp,gu F H F' H'->Ow K ct F' H' 1 (.lst ds) v fp->fp.Nodup->(∀a∈fp,H a=none)->Q v H'):∀p,H p=none->Q (.ref p) (upd H p (.lst vs)):=λp h0=>by
 obtain⟨o,nd⟩:=NN s (hp.ow0 (H:=H)) h0
 exact w _ F _ [p] (gu.newO s h0 _) o (nd bA) λa z=>by rw[ax]at z;subst z;exact h0
theorem zrl (hn:n<=1)(hm:m<=1):B9 K ct n m 1 (AM K) eG:=by
 intro F H x y d1 d2 d Q s l1 l2 e w
 have ws:∀d v,d.sc=true->Dt K ct F d v->(∀v F' H' fp,gu F H F' H'->Ow K ct F' H' 1 d v fp->fp.Nodup->(∀a∈fp,H a=none)->Q v H')->Q v H:=λd v hs hd w=>w v F H [] (.refl s) (Ow.scal hd hs) bA λa z=>(by cases z)
 cases d1 with
 |int i=>
  cases d2 with
  |int j=>cases e;exact .inl ⟨i,j,l1.int,l2.int,ws _ _ rfl (.int _) w⟩
  |_=>cases e
 |str i=>
  cases d2 with
  |str j=>
   unfold eG at e
   dsimp only at e
   by_cases hz:i.length+j.length<=16777216
   ·rw[if_pos hz]at e
    cases e
    exact .inr (.inl ⟨i,j,l1.str,l2.str,by rw[cH];exact hz,ws _ _ rfl (.str _) w⟩)
   ·rw[if_neg hz]at e;cases e
  |_=>cases e
 |lst xs=>
  cases d2 with
  |lst ys=>
   unfold eG at e
   dsimp only at e
   by_cases hz:xs.length+ys.length<=16777216
   ·rw[if_pos hz]at e
    cases e
    obtain⟨a,vs,rfl,ha,hp⟩:=Al.lst1 hn l1 s
    obtain⟨b,us,rfl,hb,hq⟩:=Al.lst1 hm l2 s
    exact .inr (.inr (.inl ⟨a,b,vs,us,rfl,rfl,ha,hb,by rw[←hp.length,←hq.length,cH];exact hz,xT s (hp.append hq) w⟩))
   ·rw[if_neg hz]at e;cases e
  |_=>cases e
 |tup xs=>
  cases d2 with
  |tup ys=>
   unfold eG at e
   dsimp only at e
   by_cases hz:xs.isEmpty=false/\ys.isEmpty=false/\xs.length+ys.length<=1000000
   ·rw[if_pos hz]at e
    cases e
    obtain⟨a,vs,rfl,ha,hp⟩:=Al.tup1 hn l1 s
    obtain⟨b,us,rfl,hb,hq⟩:=Al.tup1 hm l2 s
    have hl:=hp.length
    have qI:=hq.length
    have e1:vs≠[]:=λz=>by
     rw[z]at hl
     have:=oo.mp hl
     rw[this]at hz
     exact absurd hz.1 (by decide)
    have e2:us≠[]:=λz=>by
     rw[z]at qI
     have:=oo.mp qI
     rw[this]at hz
     exact absurd hz.2.1 (by decide)
    refine .inr (.inr (.inr ⟨a,b,vs,us,rfl,rfl,kn.of ha,kn.of hb,e1,by rw[←hl,←qI,cH];omega,λz=>absurd z e2,λ_ p h0=>?_⟩))
    have x2:=gu.newS s h0 (.tup (vs++us))
    exact w _ _ _ [] x2 (.inr (.tup yx (OwL.ofPr ((hp.append hq).mono λ_ _ q=>⟨Dt.mono x2.ff q,rfl⟩)))) bA λa z=>(by cases z)
   ·rw[if_neg hz]at e;cases e
  |_=>cases e
 |_=>cases e
def G7:R2:=λx y H Q=>∃l k xs,x=.ref l/\y=.int k/\Rd H l (.lst xs)/\-(2 ^ 63)<=k/\k<2 ^ 63/\xs.length*k.toNat<=sizeLine /\
 ∀p,H p=none->Q (.ref p) (upd H p (.lst (aA k.toNat xs).flatten))
theorem zrm:gw X (d5 .Mult) G7:=by
 intro aj s σ H x y v u Q I rx ry h
 obtain⟨l,k,xs,rfl,rfl,hH,h1,h2,hz,q⟩:=h
 cases rx
 obtain⟨t,rfl⟩:=ry
 obtain⟨z,ce,n,r,hl,e⟩:=Ml I hH
 have d9:ce.toArray.size*k.toNat<=sizeLine:=by rw[aK,←hl];exact hz
 have fK:¬ce.toArray.size*k.toNat > (2 ^ 63-1)/8:=by
  have:(sizeLine:Nat)<=(2 ^ 63-1)/8:=by decide
  omega
 have LJ:¬(!fE.List.listFitsIndex k)=true:=by
  rw[fitsIndex_both h1 h2]
  exact aU
 have EC:¬fE.List.listTooLong (ce.toArray.size*k.toNat)=true:=by
  rw[tF d9]
  exact aU
 have LX:qV (λx1 x2=>x1++x2) #[] (aA (if ce.toArray.isEmpty=true then 0 else k.toNat) ce.toArray)=(aA k.toNat ce).flatten.toArray:=by
  have f0:∀m:Nat,qV (λx1 x2=>x1++x2) #[] (aA m ce.toArray)=(aA m ce).flatten.toArray:=λm=>by
   have:=Rl ce m []
   rw[List.nil_append]at this
   exact this
  rw[f0]
  cases ce with
  |nil=>simp
  |cons a r'=>rw[if_neg (by simp)]
 refine wpAny_binaryOp_repeat_ref (T:="list") (U:="int") (by decide) ⟨_,e,rfl⟩ (λs'=>wL s' k t) noFill_list_mul F.fills_int_mul F.slot_int_rmul repeat_list F.slot_int_index.lookup
  (lT F.slot_int_rmul (wL s k t) F.entry_int_rmul (F.args_int_rmul_2 _ _) (int___rmul___int_list k t l ce.toArray n)
   ⟨e,rfl,⟨_,e,rfl⟩,lT F.slot_list_mul ⟨_,e,rfl⟩ F.entry_list_mul (F.args_list_mul_2 _ _) (AutoListH.list___mul___list_int_3 l ce.toArray n k t LJ fK EC) ⟨e,?_⟩⟩)
 rw[LX]
 exact⟨.ref _,_,I.lnew (t':=s.toks) (r.rep k.toNat) (by rw[zq3,Nat.mul_comm];exact hz),rfl,q _ I.fresh⟩
theorem yy:mr K ct n m k (rI nv λi j=>.int (i*j)) dk:=zrd
def kS:D->D->Option D
 |.lst xs,.int j=>if -1000000<j/\j<1000000/\xs.length<=16 then some (.lst (aA j.toNat xs).flatten)else none
 |_,_=>none
theorem JS (ha:XO X ct ms 1 a f)(hb:XE X ct ms m b g):XO X ct ms 1 (.BinOp a .Mult b pos) (e2 kS f g):=by
 obtain⟨ta,pa,qa⟩:=ha
 obtain⟨tb,pb,qb⟩:=hb
 refine⟨_,Oe zrm pa pb,λF0 B F H ρ σ d Q rs e w=>?_⟩
 obtain⟨d1,d2,h1,h2,h3⟩:=dD e
 refine qa F0 B F H ρ σ d1 _ rs h1 λv F1 H1 fp x1 o nd hf=>?_
 refine qb F0 B F1 H1 ρ σ d2 _ (rs.ext x1) h2 λv2 F2 H2 x2 l2=>?_
 cases d1 with
 |lst xs=>
  cases d2 with
  |int j=>
   unfold kS at h3
   dsimp only at h3
   by_cases hz:-1000000<j/\j<1000000/\xs.length<=16
   ·rw[if_pos hz]at h3
    cases h3
    obtain⟨ad,vs,fr,rfl,rfl,hF,hH,ol⟩:=(o.ext x2).lst_inv
    have hp:Pr (Al X.K ct F2 H2 0) xs vs:=ol.pr λ_ _ _ _ q=>q.1
    have Qq:=x1.trans x2
    refine⟨ad,j,vs,rfl,l2.int,.inl hH,by omega,by omega,?_,xT x2.fh (hp.rep _) λv F' H' fp x o nd hf=>w v F' H' fp (Qq.trans x) o nd λz hz=>Qq.hh.free (hf z hz)⟩
    rw[←hp.length,cH]
    have h1:j.toNat<=1000000:=by omega
    have h2:xs.length*j.toNat<=16*1000000:=wJ hz.2.2 h1
    omega
   ·rw[if_neg hz]at h3;cases h3
  |_=>cases h3
 |_=>cases h3
def p4:D->Option D
 |.int i=>some (.int (-i))
 |_=>none
theorem HJ (ha:XE X ct ms n a f):XE X ct ms k (.UnaryOp .USub a pos) (e1 p4 f):=by
 refine zv3 ztt (λF H x d1 d Q s l e w=>?_) ha
 cases d1 with
 |int i=>cases e;exact⟨i,l.int,w _ F H (.refl s) (Al.of (.int _))⟩
 |_=>cases e
theorem HG {x:aR}{d:D}{u:af}(hg:Gl X x)(hm:X.mg x=some u)(hs:d.sc=true)(r:RelV d.v u)(hd:(x==("__debug__":aR))=false:=by decide):XE X ct ms n (.Name x pos) (eC d):=by
 refine⟨_,Sa hg hm r hd,λF0 B F H ρ σ d' Q rs e w=>?_⟩
 cases e
 refine w _ F H (.refl rs.fh) (Al.of ?_)
 cases d with
 |non=>exact .non
 |bl b=>exact .bl b
 |int b=>exact .int b
 |str b=>exact .str b
 |_=>cases hs
def mK:List D->Option D
 |[.lst ds]=>some (.lst ds)
 |[.tup ds]=>some (.lst ds)
 |_=>none
theorem NE (hn:n<=1):sJ K ct [n] 1 (λxs H Q=>∃p ys,xs=[.ref p]/\(fm K H p ys\/kn K H p ys)/\∀l,H l=none->Q (.ref l) (upd H l (.lst ys))) mK:=by
 intro F H vs ds d Q s l e w
 cases l with
 |cons h t=>
  cases t
  rename_i d1 v
  cases d1 with
  |lst xs=>
   cases e
   obtain⟨a,us,rfl,ha,hp⟩:=Al.lst1 hn h s
   exact⟨a,us,rfl,.inl ha,xT s hp w⟩
  |tup xs=>
   cases e
   obtain⟨a,us,rfl,ha,hp⟩:=Al.tup1 hn h s
   exact⟨a,us,rfl,.inr (kn.of ha),xT s hp w⟩
  |_=>cases e
abbrev PF:=Env->Option (Option Int)
def pNo:PF:=λ_=>some none
def pInt (f:EF):PF:=λρ=>(f ρ).bind λd=>match d with
 |.int i=>some (some i)
 |_=>none
def XP (X:Cx)(ct:Nat->ai)(ms:List Mo)(e:Option Expr)(f:PF):Prop:=∃t,PO X e t/\∀(F0 B F H:Hp) (ρ:Env) (σ:St) (o:Option Int) (Q:Option Int->Hp->Prop),RS X.K ct F0 B ms F H ρ σ->f ρ=some o->(∀F' H',gu F H F' H'->Q o H')->t σ H Q
theorem Oh:XP X ct ms none pNo:=⟨_,zq0,λF0 B F H ρ σ o Q rs e w=>by cases e;exact w F H (.refl rs.fh)⟩
theorem NQ (h:XE X ct ms n e f):XP X ct ms (some e) (pInt f):=by
 obtain⟨t,pt,qt⟩:=h
 refine⟨_,zq1 pt,λF0 B F H ρ σ o Q rs e w=>?_⟩
 obtain⟨d,h1,h2⟩:=aT e
 refine qt F0 B F H ρ σ d _ rs h1 λv F' H' x l=>?_
 cases d with
 |int i=>cases h2;exact⟨i,l.int,w F' H' x⟩
 |_=>cases h2
def cutD (xs:List D)(lo hi:Option Int):List D:=(xs.drop (HT.sIx xs.length 0 lo)).take (HT.sIx xs.length xs.length hi-HT.sIx xs.length 0 lo)
theorem zro {R:D->V->Prop}{ds:List D}{vs:List V}{lo hi:Option Int}(h:Pr R ds vs):Pr R (cutD ds lo hi) (oT vs lo hi):=by
 unfold cutD oT
 rw[h.length]
 exact(h.drop _).take _
def iN (d:D)(lo hi:Option Int):Option D:=match d with
 |.lst xs=>some (.lst (cutD xs lo hi))
 |_=>none
theorem RR {lo hi:Option Expr}{pl ph:PF}{p1}(hn:n<=1)(he:XE X ct ms n e f)(hl:XP X ct ms lo pl)(hh:XP X ct ms hi ph):XO X ct ms 1 (.Subscript e (.Slice lo hi none p1) pos) (λρ=>(f ρ).bind λd=>(pl ρ).bind λl=>(ph ρ).bind λh=>iN d l h):=by
 obtain⟨t,pt,qt⟩:=he
 obtain⟨t1,vI,vK⟩:=hl
 obtain⟨t2,lR,oZ⟩:=hh
 refine⟨_,RD Sh pt vI lR,λF0 B F H ρ σ r Q rs e w=>?_⟩
 obtain⟨d,l,h1,h2,h3⟩:=dD e
 obtain⟨hh,h4,h5⟩:=aT h3
 refine qt F0 B F H ρ σ d _ rs h1 λv F1 H1 x1 l1=>?_
 refine vK F0 B F1 H1 ρ σ l _ (rs.ext x1) h2 λF2 H2 x2=>?_
 refine oZ F0 B F2 H2 ρ σ hh _ ((rs.ext x1).ext x2) h4 λF3 H3 x3=>?_
 cases d with
 |lst xs=>
  cases h5
  have lG:=x2.trans x3
  obtain⟨a,vs,rfl,ha,hp⟩:=Al.lst1 hn (l1.mono lG.ff lG.hh) lG.fh
  exact⟨a,vs,rfl,ha,xT lG.fh (zro hp) λv F' H' fp x o nd hf=>w v F' H' fp ((x1.trans lG).trans x) o nd λz hz=>(x1.trans lG).hh.free (hf z hz)⟩
 |_=>cases h5
def yH:List D->Option D
 |[.int i]=>some (.int (if i<0 then -i else i))
 |_=>none
theorem zrp:t4 K ct [n] k (λxs H Q=>∃i,xs=[.int i]/\Q (.int (if i<0 then -i else i)) H) yH:=by
 intro F H vs ds d Q s l e w
 cases l with
 |cons h t=>
  cases t
  rename_i d1 v
  cases d1 with
  |int i=>cases e;exact⟨i,by rw[h.int],w _ F H (.refl s) (Al.of (.int _))⟩
  |_=>cases e
def ii (g:Int->Int->D):List D->Option D
 |[.int i,.int j]=>some (g i j)
 |_=>none
theorem zuj {g:Int->Int->D}{gv:Int->Int->V}(hg:∀i j F,Dt K ct F (g i j) (gv i j)):t4 K ct [n,m] k (λxs H Q=>∃i j,xs=[.int i,.int j]/\Q (gv i j) H) (ii g):=by
 intro F H vs ds d Q s l e w
 cases l with
 |cons h t=>
  cases t with
  |cons h' t=>
   cases t
   rename_i d1 v d2 v2
   cases d1 with
   |int i=>
    cases d2 with
    |int j=>cases e;exact⟨i,j,by rw[h.int,h'.int],w _ F H (.refl s) (Al.of (hg i j F))⟩
    |_=>cases e
   |_=>cases e
def tw:List D->Option D:=ii λi j=>.int (if j > i then j else i)
def FY:List D->Option D:=ii λi j=>.int (if j<i then j else i)
theorem zn8:t4 K ct [n,m] k (λxs H Q=>∃i j,xs=[.int i,.int j]/\Q (.int (if j > i then j else i)) H) tw:=zuj λ_ _ _=>.int _
def tK (i:Nat)(o:D->D->Option D)(f:EF):SF:=λρ=>(eV i ρ).bind λx=>(f ρ).bind λy=>(o x y).bind λd=>some (.nx (ρ.set i (some d)))
theorem S5 {op:jD}{i:Nat}{x:aR}{pos':cW}{gi:Int->Int->Int}(ho:Bf X op (II gi))(hm:ms[i]?=some (.ow k))(hN:X.N.Nodup)(hi:X.N[i]?=some x)(hx:Loc X.env.scope x)(he:XE X ct ms n e f)(hf:X.fn x=true\/X.env.scope.names.lookup x=some .local:=by first|exact .inl rfl|exact .inr rfl|assumption) :
  XS X ct ms rk (.AugAssign (.Name x pos') op e pos) (tK i (i2 λi j=>.int (gi i j)) f):=by
 obtain⟨t,pt,qt⟩:=he
 refine⟨_,zto hN hi hx pt ho hf,λF0 B F H ρ σ o E rs e z=>?_⟩
 obtain⟨d1,d2,h1,h2,h3⟩:=dD e
 obtain⟨d,h4,h5⟩:=aT h3
 cases h5
 obtain⟨v,hv,l⟩:=rs.get hm (yf h1)
 refine⟨v,hv,qt F0 B F H ρ σ d2 _ rs h2 λy F' H' x1 l2=>?_⟩
 cases d1 with
 |int i'=>
  cases d2 with
  |int j'=>
   cases h4
   exact⟨i',j',l.int,l2.int,z _ F' H' (rs.set hm x1 (Ow.scal (.int _) rfl) bA λa z=>(by cases z))⟩
  |_=>cases h4
 |_=>cases h4
def sPar (i j:Nat)(fs:Env->Option (List D)):SF:=λρ=>(fs ρ).bind λds=>match ds with
 |[x,y]=>some (.nx ((ρ.set i (some x)).set j (some y)))
 |_=>none
theorem zuk {i j:Nat}{x y:aR}{fs:Env->Option (List D)}{px py pt:cW}{kt k2 lR}(Bt:ms[i]?=some (.ow 0))(xA:ms[j]?=some (.ow 0))(hc:X.calm=true)(hN:X.N.Nodup)(hi:X.N[i]?=some x)(hj:X.N[j]?=some y)(si:i≠j)
  (hx:X.env.scope.names.lookup x=some .local) (hy:X.env.scope.names.lookup y=some .local) (ha:XA X ct ms [a,b] [0,0] fs)
  (hw:gO [.Tuple [.Name x px,.Name y py] kt pt] (.Tuple [a,b] k2 lR) X.env=pure (some [x,y]))
  (hs:gP [.Tuple [.Name x px,.Name y py] kt pt] (.Tuple [a,b] k2 lR) pos.line X.env=pure false:=by rfl) :
  XS X ct ms rk (.Assign [.Tuple [.Name x px,.Name y py] kt pt] (.Tuple [a,b] k2 lR) pos) (sPar i j fs):=by
 obtain⟨t,pt,_,qt⟩:=ha
 refine⟨_,ztn hc hN hi hj si hx hy pt hw hs,λF0 B F H ρ σ o E rs e z=>?_⟩
 obtain⟨ds,h1,h2⟩:=aT e
 refine qt F0 B F H ρ σ ds _ rs h1 λvs F' H' x1 l=>?_
 cases l with
 |cons l1 l=>
  cases l with
  |cons l2 l=>
   cases l
   cases h2
   have r1:=rs.set Bt x1 (Ow.zero l1) bA λa z=>(by cases z)
   exact⟨_,_,rfl,z _ F' H' (r1.set xA (.refl x1.fh) (Ow.zero l2) bA λa z=>(by cases z))⟩
def sAsg (g:D->Env->Option Env)(f:EF):SF:=λρ=>(f ρ).bind λd=>(g d ρ).bind λρ'=>some (.nx ρ')
theorem S6 {gg:D->Env->Option Env}(he:XE X ct ms 0 e f)(hg:XG X ct ms 0 tg gg)(hs:gP [tg] e pos.line X.env=pure false:=by rfl)(hw:gO [tg] e X.env=pure none:=by rfl)
  (h1:(cQ [tg] X.env).map (·.2)=[gI tg X.env]:=by rfl):XS X ct ms rk (.Assign [tg] e pos) (sAsg gg f):=by
 obtain⟨t,pt,qt⟩:=he
 obtain⟨t2,lR,oZ⟩:=hg
 refine⟨_,N3 pt lR hs hw h1,λF0 B F H ρ σ o E rs e z=>?_⟩
 obtain⟨d,h1,h2⟩:=aT e
 obtain⟨ρ',h3,h4⟩:=aT h2
 cases h4
 exact qt F0 B F H ρ σ d _ rs h1 λv F' H' x l=>oZ F0 B F' H' ρ ρ' σ d v _ (rs.ext x) l h3 λσ' r=>z σ' F' H' r
end
end L3
namespace L3
open PySem PySem.Spec L2
open PyProof.Rows hiding St
def ij:List Nat->List Mo->Bool
 |[],_=>true
 |n::ns,.al m::ms=>decide (n=m)&&ij ns ms
 |n::ns,.ow m::ms=>decide (n=0)&&decide (m=0)&&ij ns ms
 |_,_=>false
theorem jx:∀{pm:List Nat} {ms:List Mo},ij pm ms=true->∀(i n:Nat),pm[i]?=some n->ms[i]?=some (Mo.al n)\/(n=0/\ms[i]?=some (Mo.ow 0))
 |[],_,_,i,n,e=>by simp at e
 |x::ns,.al m::ms,h,i,n,e=>by
  simp only[ij,bK,decide_eq_true_eq]at h
  cases i with
  |zero=>simp at e;subst e;rw[h.1];exact .inl rfl
  |succ i=>simpa using jx h.2 i n (by simpa using e)
 |x::ns,.ow m::ms,h,i,n,e=>by
  simp only[ij,bK,decide_eq_true_eq]at h
  cases i with
  |zero=>simp at e;subst e;rw[h.1.1,h.1.2];exact .inr ⟨rfl,rfl⟩
  |succ i=>simpa using jx h.2 i n (by simpa using e)
 |_::_,[],h,_,_,_=>by simp[ij]at h
 |_::_,.px _::_,h,_,_,_=>by simp[ij]at h
 |_::_,.so _::_,h,_,_,_=>by simp[ij]at h
def wR (X:Cx)(scope:fW)(N:List aR)(own:Nat)(cap:List Nat):Bool :=
 decide (scope.kind=.function)&&scope.names.all (λx=>(decide (x.2≠.cell) || decide (scope.names.lookup x.1=some .cell))&&(decide (x.2≠.local) || decide (scope.names.lookup x.1=some .local))&&(decide (x.2≠.free) || (decide (X.env.kindOf x.1=some .cell) || decide (X.env.kindOf x.1=some .free)))) &&
 decide (N.length=own+cap.length)&&(aE cap.length).all λj=>match N[own+j]?,cap[j]? with
  |some x,some i=>decide (X.N[i]?=some x)&&decide (scope.names.lookup x=some .free)
  |_,_=>false
theorem A6 {X:Cx}{scope:fW}{N:List aR}{own:Nat}{cap:List Nat}(h:wR X scope N own cap=true):kj X scope N own cap:=by
 unfold wR at h
 simp only[bK,decide_eq_true_eq,iE,Bool.or_eq_true]at h
 obtain⟨⟨⟨h1,h2⟩,h3⟩,h4⟩:=h
 refine⟨h1,λx hx hl=>((h2 x hx).1.1).elim (λz=>absurd hl z) id,λx hx hl=>((h2 x hx).1.2).elim (λz=>absurd hl z) id,λx hx hf=>((h2 x hx).2).elim (λz=>absurd hf z) id,h3,λj x hj=>?_⟩
 have rD:j<cap.length:=by
  have:=(aL.mp hj).1
  omega
 have q:=h4 j (bv.mpr rD)
 rw[hj]at q
 have hc:cap[j]?=some cap[j]:=by simp[rD]
 rw[hc]at q
 simp only[bK,decide_eq_true_eq]at q
 exact⟨_,hc,q.1,q.2⟩
def IV:D->Option String
 |.non=>some "NoneType"
 |.bl _=>some "bool"
 |.int _=>some "int"
 |.str _=>some "str"
 |.lst _=>some "list"
 |.tup _=>some "tuple"
 |.dK _ _=>some "dict"
 |_=>none
def Qm (K:ae)(H:Hp)(v:V)(t:String):Prop:=jV K H v (.type t)\/(t = "list"/\∃a xs,v=.ref a/\fm K H a xs)
theorem Al.ty {K:ae}{ct:Nat->ai}{F H:Hp}{n:Nat}{d:D}{v:V}{t:String}(s:bQ F H)(h:Al K ct F H n d v)(e:IV d=some t):Qm K H v t:=by
 cases d with
 |non=>cases e;rw[h.non];exact .inl .non
 |bl b=>cases e;rw[h.bl];exact .inl (.bl b)
 |int b=>cases e;rw[h.int];exact .inl (.int b)
 |str b=>cases e;rw[h.str];exact .inl (.str b)
 |lst xs=>
  cases e
  obtain⟨a,vs,rfl,ha,_⟩:=h.lst s
  exact .inr ⟨rfl,a,vs,rfl,ha⟩
 |tup xs=>
  cases e
  obtain⟨a,vs,rfl,ha,_⟩:=h.tup s
  exact .inl (.tup ha)
 |dK ks xs=>
  cases e
  obtain⟨a,vs,rfl,ha,_⟩:=h.dK s
  exact .inl (.dK ha)
 |_=>cases e
theorem zl2 {X:Cx}:eF X (.builtin "isinstance") (λxs H Q=>∃x c t b,xs=[x,.ty c]/\Qm X.K H x t/\bP X.K (.type t) (.type c)=some b/\Q (.bl b) H):=by
 intro aj s σ H xs us Q I r h
 obtain⟨x,c,t,b,rfl,ty,e,q⟩:=h
 rcases ty with ty|⟨rfl,a,ys,rfl,hq⟩
 ·exact zn3 aj s σ H _ us Q I r ⟨x,c,_,b,rfl,ty,e,q⟩
 ·obtain⟨u,w',rfl,ru,mL⟩:=vals2 r
  cases(show w'=af.type c from mL)
  cases(show u=af.ref a from ru)
  obtain⟨ce,rv,⟨o,n,h1,h2,_⟩,_⟩:=I.list hq
  exact cE jZ I.kIn ⟨o,h1,h2⟩ e (λz=>nomatch z) λtk=>⟨.bl b,H,I.tok tk,rfl,q⟩
def Fb (t c:String):Bool:=t==c || (t == "bool" && c == "int")
theorem zrq {K:ae}:∀t∈(["NoneType","bool","int","str","list","tuple","dict"]:List String),∀c∈(["bool","int","str","list","tuple","dict"]:List String),bP K (.type t) (.type c)=some (Fb t c):=by
 intro t ht c hc
 simp only[aC,dg,or_false]at ht hc
 rcases ht with rfl|rfl|rfl|rfl|rfl|rfl|rfl<;>rcases hc with rfl|rfl|rfl|rfl|rfl|rfl<;>rfl
theorem zrr {d:D}{t:String}(e:IV d=some t):t∈(["NoneType","bool","int","str","list","tuple","dict"]:List String):=by
 cases d<;>simp[IV]at e<;>subst e<;>decide
section
variable {X:Cx}{ct:Nat->ai}{ms:List Mo}{rk n m k:Nat}{a b c e tg:Expr}{f g h:EF}{pos:cW}
def pX (c:String)(d:D):Option D:=(IV d).bind λt=>some (.bl (Fb t c))
theorem JT {c:String}{pp p2:cW}(hc:c∈(["bool","int","str","list","tuple","dict"]:List String))(hm:X.mg "isinstance"=none)(oW:X.mg c=none)(hb:bS c=some (.type c))(he:XE X ct ms n e f)(hg:Gl X "isinstance":=by rfl)(oz:Gl X c:=by rfl)(xB:aR.ofString c≠"__name__":=by decide)(hd2:(aR.ofString c==("__debug__":aR))=false:=by decide)
  (EU:ao [e,.Name c p2] X.env=(false,bF e X.env)::ao [.Name c p2] X.env:=by rfl) (ni:ao [.Name c p2] X.env=(false,bF (.Name c p2) X.env)::ao [] X.env:=by rfl) (iy:(cy pos (ao [.Name c p2] X.env)).any (·.1)=false:=by rfl) :
  XE X ct ms k (.Call (.Name "isinstance" pp) [e,.Name c p2] [] pos) (e1 (pX c) f):=by
 obtain⟨t,pt,qt⟩:=he
 refine⟨_,Jg zl2 hg hm Qz (v4 pt (v4 (zql (v:=.ty c) oz oW hb rfl xB hd2) tP ni) EU) (by decide) (by decide) EU iy,λF0 B F H ρ σ d Q rs e w=>?_⟩
 obtain⟨d1,h1,h2⟩:=aT e
 obtain⟨ty,h3,h4⟩:=aT h2
 cases h4
 exact qt F0 B F H ρ σ d1 _ rs h1 λv F' H' x l=>⟨v,c,ty,_,rfl,l.ty x.fh h3,zrq _ (zrr h3) _ hc,w _ F' H' x (Al.of (.bl _))⟩
end
end L3
namespace L3
open PySem PySem.Spec L2
open PyProof.Rows hiding St
def nK (K:ae):Sp:=λvs H Q _=>∃(a:ai) (ns:List Int),vs=[.ref a]/\fm K H a (ns.map V.int)/\ns.length<=63/\∀H',Q (.bl true) H'
theorem Dts.ints {K:ae}{ct:Nat->ai}{F:Hp}:∀ns:List Int,Dts K ct F (ns.map D.int) (ns.map V.int)
 |[]=>.nil
 |n::ns=>.cons (.int n) (Dts.ints ns)
theorem zul {P:bx}{w:bY}{K:ae}{mg:aR->Option af}{base:aX}{k:Nat}{f:ai}{fd:aH}{ps:List aR}{ct:Nat->ai}{m:List D->Option D}(Fn:cz P w K mg base eJ k f fd ps (fY K ct [0] 0 m))
  (h:∀ns:List Int,ns.length<=63->m [.lst (ns.map .int)]=some (.bl true)):cz P w K mg base eJ k f fd ps (nK K):=by
 have to:∀vs H Q E,nK K vs H Q E->fY K ct [0] 0 m vs H Q E:=by
  rintro vs H Q E ⟨a,ns,rfl,hS,hl,q⟩
  refine⟨H,[.lst (ns.map .int)],.bl true,.refl _,.cons (Dt.lst hS (Dts.ints ns)) .nil,h ns hl,λv F' H' fp x o nd hf=>?_⟩
  have hv:v=.bl true:=by
   have o:Dt K ct F' (.bl true) v/\fp=[]:=o
   cases o.1
   rfl
  subst hv
  exact q H'
 exact⟨λvs H Q E z=>Fn.len vs H Q E (to vs H Q E z),λA outer s H args us vs Q E hr e0 hb hv z=>Fn.run A outer s H args us vs Q E hr e0 hb hv (to vs H Q E z)⟩
theorem Q6 {g:D->Env->Option Env}{b:SF}(I:List D->Env->Prop)(all:List D)(st:∀pre d post ρ,all=pre++d::post->I pre ρ->∃ρ1 ρ2,g d ρ=some ρ1/\(b ρ1=some (.nx ρ2)\/b ρ1=some (.ct ρ2))/\I (pre++[d]) ρ2):∀(ds pre:List D) (ρ:Env),all=pre++ds->I pre ρ ->
  ∃ρ',fP g b ds ρ=some (.nx ρ')/\I all ρ'
 |[],pre,ρ,e,h=>⟨ρ,rfl,by rw[e,cn];exact h⟩
 |d::ds,pre,ρ,e,h=>by
  obtain⟨ρ1,ρ2,h1,h2,h3⟩:=st pre d ds ρ e h
  obtain⟨ρ',h4,h5⟩:=Q6 I all st ds (pre++[d]) ρ2 (by rw[e];simp) h3
  refine⟨ρ',?_,h5⟩
  show(g d ρ).bind _=_
  rw[h1]
  show(b ρ1).bind _=_
  rcases h2 with h2|h2<;>(rw[h2];exact h4)
theorem Jj {g:D->Env->Option Env}{b:SF}(I:List D->Env->Prop){ds:List D}{ρ:Env}(h:I [] ρ)(st:∀pre d post ρ,ds=pre++d::post->I pre ρ->∃ρ1 ρ2,g d ρ=some ρ1/\(b ρ1=some (.nx ρ2)\/b ρ1=some (.ct ρ2))/\I (pre++[d]) ρ2) :
  ∃ρ',fP g b ds ρ=some (.nx ρ')/\I ds ρ':=Q6 I ds st ds [] ρ rfl h
theorem S7 {α:Type}{all pre post:List α}{d:α}(h:all=pre++d::post):all[pre.length]?=some d:=by subst h;simp
theorem Ng {α S:Type}{g:D->Env->Option Env}{b:SF}(enc:α->D)(st:S->Env)(f:S->α->S)(P:S->Prop):∀(xs:List α) (s:S),P s ->
  (∀s x,x∈xs->P s->∃ρ1,g (enc x) (st s)=some ρ1/\(b ρ1=some (.nx (st (f s x)))\/b ρ1=some (.ct (st (f s x))))/\P (f s x))->fP g b (xs.map enc) (st s)=some (.nx (st (xs.foldl f s)))/\P (xs.foldl f s)
 |[],s,hp,_=>⟨rfl,hp⟩
 |x::xs,s,hp,h=>by
  obtain⟨ρ1,h1,h2,h3⟩:=h s x aa hp
  have ih:=Ng enc st f P xs (f s x) h3 λs y hy=>h s y (ah _ hy)
  refine⟨?_,ih.2⟩
  show(g (enc x) (st s)).bind _=_
  rw[h1]
  show(b ρ1).bind _=_
  rcases h2 with h2|h2<;>(rw[h2];exact ih.1)
theorem Q7 {g:D->Env->Option Env}{b:SF}(I:Nat->Env->Prop)(lo:Int):∀(n k:Nat) (ρ:Env),I k ρ ->
  (∀j ρ,k<=j->j<k+n->I j ρ->∃ρ1 ρ2,g (.int (lo+(j:Int))) ρ=some ρ1/\(b ρ1=some (.nx ρ2)\/b ρ1=some (.ct ρ2))/\I (j+1) ρ2) ->
  ∃ρ',fP g b ((iw k n).map λ(t:Nat)=>D.int (lo+(t:Int))) ρ=some (.nx ρ')/\I (k+n) ρ'
 |0,k,ρ,h,_=>⟨ρ,rfl,h⟩
 |n+1,k,ρ,h,st=>by
  obtain⟨ρ1,ρ2,h1,h2,h3⟩:=st k ρ (aF _) (by omega) h
  obtain⟨ρ',h4,h5⟩:=Q7 I lo n (k+1) ρ2 h3 λj ρ hj hl hI=>st j ρ (by omega) (by omega) hI
  refine⟨ρ',?_,by rw[show k+(n+1)=k+1+n by omega];exact h5⟩
  rw[List.range'_succ,aM]
  show(g _ ρ).bind _=_
  rw[h1]
  show(b ρ1).bind _=_
  rcases h2 with h2|h2<;>(rw[h2];exact h4)
theorem zev {g:D->Env->Option Env}{b:SF}(I:Nat->Env->Prop){lo:Int}{n:Nat}{ρ:Env}(h:I 0 ρ)
  (st:∀j ρ,j<n->I j ρ->∃ρ1 ρ2,g (.int (lo+(j:Int))) ρ=some ρ1/\(b ρ1=some (.nx ρ2)\/b ρ1=some (.ct ρ2))/\I (j+1) ρ2):∃ρ',fP g b (eY lo n) ρ=some (.nx ρ')/\I n ρ':=by
 obtain⟨ρ',h1,h2⟩:=Q7 (g:=g) (b:=b) I lo n 0 ρ h λj ρ _ hj hI=>st j ρ (by omega) hI
 rw[Nat.zero_add]at h2
 exact⟨ρ',by unfold eY;rw[gz];exact h1,h2⟩
theorem M7 {S:Type}{c:BF}{b:SF}(st:S->Env)(t:S->Bool)(f:S->S)(μ:S->Nat)(P:S->Prop)(hc:∀s,P s->c (st s)=some (t s))(hb:∀s,P s->t s=true->(b (st s)=some (.nx (st (f s)))\/b (st s)=some (.ct (st (f s))))/\P (f s)/\μ (f s) < μ s) :
  ∀(n:Nat) (s:S),P s->μ s<n->∃s',iu c b n (st s)=some (.nx (st s'))/\P s'/\t s'=false/\∃j,s'=Nat.repeat f j s
 |0,s,_,h=>absurd h (by omega)
 |n+1,s,hp,h=>by
  cases ht:t s with
  |false=>
   refine⟨s,?_,hp,ht,0,rfl⟩
   show(c (st s)).bind _=_
   rw[hc s hp,ht]
   rfl
  |true=>
   obtain⟨h1,h2,h3⟩:=hb s hp ht
   obtain⟨s',h4,h5,h6,j,h7⟩:=M7 st t f μ P hc hb n (f s) h2 (by omega)
   refine⟨s',?_,h5,h6,j+1,?_⟩
   ·show(c (st s)).bind _=_
    rw[hc s hp,ht]
    show(b (st s)).bind _=_
    rcases h1 with h1|h1<;>(rw[h1];exact h4)
   ·rw[h7]
    clear h4 h5 h6 h7
    induction j with
    |zero=>rfl
    |succ j ih=>show f (Nat.repeat f j (f s))=f (Nat.repeat f (j+1) s);rw[ih]
theorem Nc {c:BF}{b:SF}(I:Env->Prop)(μ:Env->Nat)(st:∀ρ,I ρ->∃t,c ρ=some t/\(t=true->∃ρ',(b ρ=some (.nx ρ')\/b ρ=some (.ct ρ'))/\I ρ'/\μ ρ' < μ ρ)) :
  ∀(n:Nat) (ρ:Env),I ρ->μ ρ<n->∃ρ',iu c b n ρ=some (.nx ρ')/\I ρ'/\c ρ'=some false
 |0,_,_,h=>absurd h (by omega)
 |n+1,ρ,hI,h=>by
  obtain⟨t,h1,h2⟩:=st ρ hI
  cases t with
  |false=>exact⟨ρ,by show(c ρ).bind _=_;rw[h1];rfl,hI,h1⟩
  |true=>
   obtain⟨ρ',h3,h4,h5⟩:=h2 rfl
   obtain⟨ρ2,h6,h7,h8⟩:=Nc I μ st n ρ' h4 (by omega)
   refine⟨ρ2,?_,h7,h8⟩
   show(c ρ).bind _=_
   rw[h1]
   show(b ρ).bind _=_
   rcases h3 with h3|h3<;>(rw[h3];exact h6)
theorem NR {n k:Nat}(h:n<2 ^ k)(hk:k<=9000):n<lN:=bn h (dz (by decide) hk)
theorem JC {n:Nat}(h:n<1048576):n<lN:=NR (k:=20) h (by decide)
theorem Sf {i j:Int}(h:j≠0):eE (.int i) (.int j)=some (.int (i.fmod j)):=by
 unfold eE
 by_cases h0:0<j
 ·simp[h0,nk i (by omega:0<=j)]
 ·simp[h0,h]
theorem RT {i j:Int}(h:j≠0)(hz:Sz 9000 j):ez (.int i) (.int j)=some (.int (i.fdiv j)):=by
 unfold ez
 by_cases h0:0<j/\j<4611686018427387904
 ·simp[h0,hE i (by omega:0<=j)]
 ·have hz:j.natAbs<J1:=hz
  simp[h0,h,hz]
theorem j7 {i j:Int}(h1:0<j)(h2:j<4611686018427387904):ez (.int i) (.int j)=some (.int (i/j)):=by unfold ez;simp[h1,h2]
theorem qh {i j:Int}(h:0<j):eE (.int i) (.int j)=some (.int (i%j)):=by unfold eE;simp[h]
theorem zas {i j:Int}(h1:-18446744073709551616<j)(h2:j<18446744073709551616):dk (.int i) (.int j)=some (.int (i*j)):=by simp[dk,sk,ku,h1,h2]
theorem zbg {i j:Int}(h1:-18446744073709551616<i)(h2:i<18446744073709551616):dk (.int i) (.int j)=some (.int (i*j)):=by simp[dk,sk,ku,h1,h2]
theorem zn9 {i j:Int}(h1:0<=j)(h2:j<=1000000)(h3:i.natAbs<18446744073709551616):rK (.int i) (.int j)=some (.int (i ^ j.toNat)):=by simp[rK,sk,nI,h1,h2,h3]
theorem zoa {i j:Int}(h1:0<=j)(h2:j<=1000000)(h3:i.natAbs<18446744073709551616):vN (.int i) (.int j)=some (.int (i*2 ^ j.toNat)):=by simp[vN,sk,nI,h1,h2,h3]
theorem zjk {i j:Int}(h1:0<=j):rM (.int i) (.int j)=some (.int (i/2 ^ j.toNat)):=by simp[rM,sk,h1]
theorem zob (i j:Int):eG (.int i) (.int j)=some (.int (i+j)):=rfl
theorem RU {xs ys:List D}(h:xs.length+ys.length<=16777216):eG (.lst xs) (.lst ys)=some (.lst (xs++ys)):=by simp[eG,h]
theorem zoc {x y:aR}(h:x.length+y.length<=16777216):eG (.str x) (.str y)=some (.str (x++y)):=by simp[eG,h]
theorem zod (i j:Int):n6 (.int i) (.int j)=some (.int (i-j)):=rfl
theorem zrs (i j:Int):pY (.int i) (.int j)=some (.bl (decide (i<j))):=rfl
theorem zrt (i j:Int):xI (.int i) (.int j)=some (.bl (decide (i<=j))):=rfl
theorem zig (i j:Int):sg (.int i) (.int j)=some (.bl (decide (j<i))):=rfl
theorem zru (i j:Int):Ad (.int i) (.int j)=some (.bl (decide (j<=i))):=rfl
theorem zoe (i:Int):p4 (.int i)=some (.int (-i)):=rfl
theorem qj (ds:List D):dZ [.lst ds]=some (.int ds.length):=rfl
theorem zof (ds:List D):dZ [.tup ds]=some (.int ds.length):=rfl
theorem zog (i:Int):yH [.int i]=some (.int (if i<0 then -i else i)):=rfl
theorem zl4 (i j:Int):tw [.int i,.int j]=some (.int (if j > i then j else i)):=rfl
theorem zl5 (i j:Int):FY [.int i,.int j]=some (.int (if j<i then j else i)):=rfl
theorem zrv (neg:Bool)(d:D):mI neg d .non=some (.bl (if neg then !d.isN else d.isN)):=by cases d<;>rfl
theorem zum (neg b:Bool)(d:D):mI neg d (.bl b)=some (.bl (if neg then !d.isB b else d.isB b)):=by cases d<;>rfl
theorem zun (b:Bool):HZ (.bl b)=some b:=rfl
theorem zrw (ds:List D):Ia (.lst ds)=some ds:=rfl
theorem za7 (ds:List D)(l h:Option Int):iN (.lst ds) l h=some (.lst (cutD ds l h)):=rfl
theorem BD {j:Int}(h1:-4611686018427387904<=j)(h2:j<4611686018427387904):gE [.int j]=some (eY 0 j.toNat):=by simp[gE,h1,h2]
theorem zoh {i j:Int}(h1:-4611686018427387904<=i)(h2:i<4611686018427387904)(h3:-4611686018427387904<=j)(h4:j<4611686018427387904):rL [.int i,.int j]=some (eY i (j-i).toNat):=by simp[rL,h1,h2,h3,h4]
theorem zrx {α:Type}(enc:α->D){xs:List α}{i:Int}{j:Nat}{x:α}(hi:i=(j:Int)\/i=(j:Int)-xs.length)(h:xs[j]?=some x):atI (xs.map enc) i=some (enc x):=by
 have hj:=(aL.mp h).1
 unfold L2.atI L2.ixN
 rw[ay]
 rcases hi with rfl|rfl
 ·rw[if_pos (by omega),if_pos (by omega)]
  simp[h]
 ·rw[if_neg (by omega),if_pos (by omega)]
  have:((j:Int)-(xs.length:Int)+(xs.length:Int)).toNat=j:=by omega
  simp[this,h]
theorem zl6 (xs:List D)(k:Nat):cutD xs none (some (k:Int))=xs.take k:=by
 unfold cutD
 rw[HT.sIx_none,HT.sIx_nat,pw,List.drop_zero]
 rcases Nat.le_total k xs.length with h|h
 ·rw[mQ h]
 ·rw[tX h,fR (aF _),fR h]
theorem Q8 (xs:List D)(k:Nat):cutD xs (some (k:Int)) none=xs.drop k:=by
 unfold cutD
 rw[HT.sIx_none,HT.sIx_nat]
 rcases Nat.le_total k xs.length with h|h
 ·rw[mQ h,fR (by rw[iG];omega)]
 ·rw[tX h,oG (aF _),oG h]
  simp
theorem zoi {i j:Int}{n m:Nat}(h:Sz n i)(h':Sz m j)(hn:n<=100000)(hm:m<=100000):ku i j:=.inr (.inr ⟨h.mono hn,h'.mono hm⟩)
theorem BO {i j:Int}{n m:Nat}(h:Sz n i)(h':Sz m j)(hn:n<=100000)(hm:m<=100000):dk (.int i) (.int j)=some (.int (i*j)):=by
 have:=zoi h h' hn hm
 simp[dk,sk,this]
theorem Q9 {α:Type}{g:D->Env->Option Env}{p:BF}{f:EF}{ρ0:Env}(enc:α->D)(q:α->Bool)(h:α->D):∀(xs:List α),(∀x∈xs,∃ρ1,g (enc x) ρ0=some ρ1/\p ρ1=some (q x)/\(q x=true->f ρ1=some (h x)))->ny g p f ρ0 (xs.map enc)=some ((xs.filter q).map h)
 |[],_=>rfl
 |x::xs,H=>by
  obtain⟨ρ1,h1,h2,h3⟩:=H x aa
  have ih:=Q9 enc q h xs λy hy=>H y (ah _ hy)
  show(g (enc x) ρ0).bind _=_
  rw[h1]
  show(p ρ1).bind _=_
  rw[h2]
  cases hq:q x with
  |false=>
   rw[cB,if_neg aU,oh (by rw[hq];exact aU)]
   exact ih
  |true=>
   rw[cB,if_pos rfl,h3 hq,oj hq]
   show(ny g p f ρ0 (xs.map enc)).bind _=_
   rw[ih]
   rfl
end L3
namespace L3
open PySem PySem.Spec L2
structure uI (α:Type)[DecidableEq α] where
 enc:α->D
 py:α->ej
 dep:Nat
 is:∀x,(enc x).py=some (py x)
 lay:∀x,(py x).canLay0=true
 dp:∀x,(py x).depth<=dep
 eqv:∀x y,ej.eqv (py x) (py y)=decide (x=y)
section
variable {α β γ δ ε:Type}[DecidableEq α][DecidableEq β][DecidableEq γ][DecidableEq δ][DecidableEq ε]
theorem uI.eq (E:uI α)(h:E.dep<=60){neg:Bool}(x y:α):lD neg (E.enc x) (E.enc y)=some (.bl (if neg then !decide (x=y)else decide (x=y))):=by
 have h1:nX (E.py x)=true:=by unfold nX;rw[E.lay x,decide_eq_true (cx (E.dp x) h)];rfl
 have h2:nX (E.py y)=true:=by unfold nX;rw[E.lay y,decide_eq_true (cx (E.dp y) h)];rfl
 unfold lD
 rw[E.is x,E.is y]
 simp only[cB]
 rw[if_pos ⟨h1,h2⟩,E.eqv]
def Ei:uI Int:=⟨.int,.int,0,λ_=>by simp[D.py],λ_=>rfl,λ_=>by simp[ej.depth],λx y=>by show(x==y)=_;by_cases h:x=y<;>simp[h]⟩
def Eb:uI Bool:=⟨.bl,.bool,0,λ_=>by simp[D.py],λ_=>rfl,λ_=>by simp[ej.depth],λx y=>by cases x<;>cases y<;>rfl⟩
def fC:Option Int->D
 |none=>.non
 |some i=>.int i
end
theorem zry {neg:Bool}(a b:Int):lD neg (.int a) (.int b)=some (.bl (if neg then !decide (a=b)else decide (a=b))):=Ei.eq (by decide) a b
theorem zuo {neg:Bool}(a b:Bool):lD neg (.bl a) (.bl b)=some (.bl (if neg then !decide (a=b)else decide (a=b))):=Eb.eq (by decide) a b
end L3
namespace L3
open PySem PySem.Spec L2
open PyProof.Rows hiding St
section
variable {X:Cx}{ct:Nat->ai}{K:ae}{n m k:Nat}
theorem IntsAre.of {ns:List Int}{us:List af}(h:bX (ns.map V.int) us):IntsAre us ns:=zke h
theorem Hw (hc:X.calm=true):eF X (.builtin "sum") (λxs H Q=>∃(a:ai) (ns:List Int),xs=[.ref a]/\fm X.K H a (ns.map V.int)/\Q (.int ns.sum) H):=by
 intro aj s σ H xs us Q I r h
 obtain⟨a,ns,rfl,hq,q⟩:=h
 obtain⟨u,rfl,ru⟩:=r.one
 cases(show u=af.ref a from ru)
 obtain⟨ce,rv,pl,hz⟩:=I.list hq
 have hi:=IntsAre.of rv
 obtain⟨ys,hx⟩:=hi.allInts.items
 have EA:s.heap.IsList a (intItems ys):=hx▸pl.isList
 refine sum_intListG (I.ok.hd hc) EA λh' tk t' hk=>?_
 have e1:ns=ys.toList.map (·.1):=by
  rw[←nums_intItems,←hx]
  exact(show numsOf ce.toArray.toList=ns from hi.numsOf).symm
 have e2:preSum (numAt ys) ys.size=ns.sum:=by
  rw[preSum_eq,fR (by simp),e1]
 rw[e2]
 exact⟨.int ns.sum,H,I.kept (t':=tk) hk,⟨_,rfl⟩,q⟩
theorem zl7 (hc:X.calm=true):eF X (.builtin "max") (λxs H Q=>∃(a:ai) (ns:List Int),xs=[.ref a]/\fm X.K H a (ns.map V.int)/\ns≠[]/\∀M,M∈ns->(∀z∈ns,z<=M)->Q (.int M) H):=by
 intro aj s σ H xs us Q I r h
 obtain⟨a,ns,rfl,hq,kr,q⟩:=h
 obtain⟨u,rfl,ru⟩:=r.one
 cases(show u=af.ref a from ru)
 obtain⟨ce,rv,pl,hz⟩:=I.list hq
 have hi:=IntsAre.of rv
 obtain⟨ys,e⟩:=hi.allInts.items
 have i7:ns=ys.toList.map (·.1):=by rw[←hi.numsOf,←nums_intItems,←e]
 have hsz:0<ys.size:=by
  have h3:0<ns.length:=qA.mpr kr
  rw[i7,ay,dF]at h3;exact h3
 have EA:s.heap.IsList a (intItems ys):=e▸pl.isList
 refine max_intList (I.ok.hd hc) EA hsz λv h' tk hv hk=>?_
 obtain⟨t,rfl⟩:=intItems_at hv
 obtain⟨h1,h2⟩:=argBest_gt (numAt ys) (ys.size-1)
 refine⟨.int (numAt ys (argBest (λi j=>decide (numAt ys i > numAt ys j)) (ys.size-1))),H,I.kept (t':=tk) hk,⟨_,rfl⟩,q _ ?_ λz hz=>?_⟩
 ·rw[i7,numAt_eq];exact getD_mem (by rw[ay,dF];omega)
 ·rw[i7]at hz
  obtain⟨j,hj,rfl⟩:=mem_getD hz
  rw[ay,dF]at hj
  rw[←numAt_eq];exact h2 j (by omega)
theorem Ra:∀{bs:List Bool} {us:List af},bX (bs.map V.bl) us->us=bs.map af.bool
 |[],_,.nil=>rfl
 |b::bs,_,.cons r t=>by rw[Ra t];cases(show _=af.bool b from r);rfl
theorem zl8 (hc:X.calm=true):eF X (.builtin "all") (λxs H Q=>∃(a:ai) (bs:List Bool),xs=[.ref a]/\fm X.K H a (bs.map V.bl)/\Q (.bl (bs.all id)) H):=by
 intro aj s σ H xs us Q I r h
 obtain⟨a,bs,rfl,hq,q⟩:=h
 obtain⟨u,rfl,ru⟩:=r.one
 cases(show u=af.ref a from ru)
 obtain⟨ce,rv,pl,hz⟩:=I.list hq
 have hb:=Ra rv
 subst hb
 have hl:=pl.isList
 have ie:a<s.heap.objs.size:=by obtain⟨_,e,_⟩:=hl;exact aP e
 refine PySem.call_all_walk (wpAny_pyIter_list hl ?_)
 refine⟨s.heap.objs.size,[s.heap.objs.size,a],[s.heap.objs.size],(bs.map af.bool).toArray.size,_,_,λi=>(bs[i]?).getD true,rfl,Walks.list (A:=X.A.in1) (I.ok.hd hc) _ a (br ie) (bs.map af.bool).toArray,
  ⟨⟨_,bB _ rfl,rfl,rfl⟩,hl.push _⟩,λi v s' Q' E' hP hQ=>?_,λh' tk hk=>?_⟩
 ·have hP:(bs.map af.bool)[i]?=some v:=by simpa using hP
  rw[aQ]at hP
  obtain⟨b,hb,rfl⟩:=cU.mp hP
  simp only[hb,Option.getD_some]at hQ
  exact e7 hQ
 ·have e:((aE (bs.map af.bool).toArray.size).all λi=>(bs[i]?).getD true)=bs.all id:=by
   rw[aK,ay];exact PyProof.Rows.LSm.range_all bs
  rw[e]
  refine⟨.bl (bs.all id),H,I.kept (t':=tk) λb o Ly=>hk b o (λhm=>?_) (aD _ Ly),rfl,q⟩
  rw[ax.mp hm]at Ly
  exact eh _ (aP Ly)
theorem Zz:eF X (.builtin "sorted") (λxs H Q=>∃(a:ai) (ns:List Int),xs=[.ref a]/\fm X.K H a (ns.map V.int)/\ns.length<64/\∀oB:List Int,oB.Perm ns->oB.Pairwise (·<=·)->∀p,H p=none->Q (.ref p) (upd H p (.lst (oB.map V.int)))):=by
 intro aj s σ H xs us Q I r h
 obtain⟨a,ns,rfl,hq,h64,q⟩:=h
 obtain⟨u,rfl,ru⟩:=r.one
 cases(show u=af.ref a from ru)
 obtain⟨ce,rv,pl,hz⟩:=I.list hq
 have hi:=IntsAre.of rv
 have d9:ce.length=ns.length:=by rw[←rv.length,ay]
 refine sorted_ints pl.isList hi (by omega) λout oB a1 a2 a3=>?_
 obtain⟨e,he⟩:=sortedAll_at s.heap ce out
 have qI:oB.length<=sizeLine:=by
  rw[a2.length_eq,←ay (f:=V.int)];exact hz
 refine⟨.ref _,_,I.laid (a:=s.heap.objs.size+1) (o:=.lst (oB.map V.int)) (t':=s.toks) (λb u=>sortedAll_old) (iz _) ?_,rfl,q oB a2 a3 _ (I.hok.fresh (iz _))⟩
 exact⟨by rw[ay];exact qI,out.toList,e,Nk a1,by simpa[seqObj]using he⟩
def eO:List D->Option (List Int)
 |[]=>some []
 |.int i::ds=>(eO ds).bind λns=>some (i::ns)
 |_=>none
theorem Q1:∀{ds:List D} {ns:List Int},eO ds=some ns->ds=ns.map .int
 |[],_,e=>by cases e;rfl
 |d::ds,ns,e=>by
  cases d with
  |int i=>
   obtain⟨ms,h1,h2⟩:=aT (show(eO ds).bind _=_ from e)
   cases h2
   rw[Q1 h1];rfl
  |_=>cases e
theorem Nh:∀ns:List Int,eO (ns.map .int)=some ns
 |[]=>rfl
 |n::ns=>by show(eO (ns.map .int)).bind _=_;rw[Nh ns];rfl
theorem Pr.intV {F G:Hp}:∀{ns:List Int} {vs:List V},Pr (Al K ct F G n) (ns.map .int) vs->vs=ns.map V.int
 |[],_,.nil=>rfl
 |i::ns,_,.cons h t=>by rw[Pr.intV t,h.int];rfl
def mz:List D->Option (List Bool)
 |[]=>some []
 |.bl i::ds=>(mz ds).bind λns=>some (i::ns)
 |_=>none
theorem QJ:∀{ds:List D} {ns:List Bool},mz ds=some ns->ds=ns.map .bl
 |[],_,e=>by cases e;rfl
 |d::ds,ns,e=>by
  cases d with
  |bl i=>
   obtain⟨ms,h1,h2⟩:=aT (show(mz ds).bind _=_ from e)
   cases h2
   rw[QJ h1];rfl
  |_=>cases e
theorem Pr.blV {F G:Hp}:∀{ns:List Bool} {vs:List V},Pr (Al K ct F G n) (ns.map .bl) vs->vs=ns.map V.bl
 |[],_,.nil=>rfl
 |i::ns,_,.cons h t=>by rw[Pr.blV t,h.bl];rfl
def FX:List Int->Option Int
 |[]=>none
 |x::xs=>some (xs.foldl max x)
theorem Rr:∀(xs:List Int) (x:Int),(xs.foldl max x=x\/xs.foldl max x∈xs)/\x<=xs.foldl max x/\∀z∈xs,z<=xs.foldl max x
 |[],x=>⟨.inl rfl,dr _,λz h=>by cases h⟩
 |y::xs,x=>by
  obtain⟨h1,h2,h3⟩:=Rr xs (max x y)
  refine⟨?_,by show x<=xs.foldl max (max x y);omega,λz hz=>?_⟩
  ·rcases h1 with h1|h1
   ·show xs.foldl max (max x y)=x\/xs.foldl max (max x y)∈y::xs
    rw[h1]
    rcases Int.le_total x y with h|h
    ·rw[Int.max_eq_right h];exact .inr aa
    ·rw[Int.max_eq_left h];exact .inl rfl
   ·exact .inr (ah _ h1)
  ·rcases aC.mp hz with rfl|hz
   ·show z<=xs.foldl max (max x z);omega
   ·exact h3 z hz
theorem RV {ns:List Int}{M:Int}(h:FX ns=some M):M∈ns/\∀z∈ns,z<=M:=by
 cases ns with
 |nil=>cases h
 |cons x xs=>
  cases h
  obtain⟨h1,h2,h3⟩:=Rr xs x
  refine⟨?_,λz hz=>?_⟩
  ·rcases h1 with h1|h1
   ·rw[h1];exact aa
   ·exact ah _ h1
  ·rcases aC.mp hz with rfl|hz
   ·exact h2
   ·exact h3 z hz
def n8:List D->Option D
 |[.lst ds]=>(eO ds).bind λns=>some (.int ns.sum)
 |_=>none
def tD:List D->Option D
 |[.lst ds]=>(eO ds).bind λns=>(FX ns).bind λM=>some (.int M)
 |_=>none
def Cc:List D->Option D
 |[.lst ds]=>(mz ds).bind λbs=>some (.bl (bs.all id))
 |_=>none
def insI (x:Int):List Int->List Int
 |[]=>[x]
 |y::ys=>if x<=y then x::y::ys else y::insI x ys
def lF:List Int->List Int
 |[]=>[]
 |x::xs=>insI x (lF xs)
theorem Ni (x:Int):∀ys,(insI x ys).Perm (x::ys)
 |[]=>.refl _
 |y::ys=>by
  unfold insI
  by_cases h:x<=y
  ·rw[if_pos h]
  ·rw[if_neg h]
   exact((Ni x ys).cons y).trans (.swap x y ys)
theorem j8:∀xs,(lF xs).Perm xs
 |[]=>.refl _
 |x::xs=>(Ni x _).trans ((j8 xs).cons x)
theorem QK (x:Int):∀{ys:List Int},ys.Pairwise (·<=·)->(insI x ys).Pairwise (·<=·)
 |[],_=>List.pairwise_singleton _ _
 |y::ys,h=>by
  obtain⟨h1,h2⟩:=fI.mp h
  unfold insI
  by_cases hx:x<=y
  ·rw[if_pos hx]
   exact fI.mpr ⟨λz hz=>by
    rcases aC.mp hz with rfl|hz
    ·exact hx
    ·exact pd hx (h1 z hz),h⟩
  ·rw[if_neg hx]
   refine fI.mpr ⟨λz hz=>?_,QK x h2⟩
   have:=(Ni x ys).mem_iff.mp hz
   rcases aC.mp this with rfl|hz
   ·omega
   ·exact h1 z hz
theorem ja:∀xs,(lF xs).Pairwise (·<=·)
 |[]=>fw.nil
 |x::xs=>QK x (ja xs)
theorem qk:∀{xs ys:List Int},xs.Perm ys->xs.Pairwise (·<=·)->ys.Pairwise (·<=·)->xs=ys
 |[],ys,p,_,_=>(p.nil_eq).symm▸rfl
 |x::xs,[],p,_,_=>absurd p.symm.nil_eq (by simp)
 |x::xs,y::ys,p,hx,hy=>by
  obtain⟨h1,h2⟩:=fI.mp hx
  obtain⟨h3,h4⟩:=fI.mp hy
  have e:x=y:=by
   have a:=p.mem_iff.mp (aa:x∈x::xs)
   have b:=p.mem_iff.mpr (aa:y∈y::ys)
   have a':y<=x:=by
    rcases aC.mp a with rfl|a
    ·exact dr _
    ·exact h3 x a
   have b':x<=y:=by
    rcases aC.mp b with rfl|b
    ·exact dr _
    ·exact h1 y b
   omega
  subst e
  rw[qk ((List.perm_cons x).mp p) h2 h4]
def mM:List D->Option D
 |[.lst ds]=>(eO ds).bind λns=>if ns.length<64 then some (.lst ((lF ns).map .int))else none
 |_=>none
theorem NF {F H:Hp}{vs:List V}{ds:List D}{ns:List Int}(s:bQ F H)(l:iU K ct F H [n] [.lst ds] vs)(e:eO ds=some ns):∃a,vs=[.ref a]/\fm K H a (ns.map V.int):=by
 cases l with
 |cons h t=>
  cases t
  obtain⟨a,us,rfl,ha,hp⟩:=h.lst s
  have:=Q1 e
  subst this
  have:=hp.intV
  subst this
  exact⟨a,rfl,ha⟩
theorem HD:t4 K ct [n] k (λxs H Q=>∃(a:ai) (ns:List Int),xs=[.ref a]/\fm K H a (ns.map V.int)/\Q (.int ns.sum) H) n8:=by
 intro F H vs ds d Q s l e w
 match ds,l,e with
 |[.lst xs],l,e=>
  obtain⟨ns,h1,h2⟩:=aT (show(eO xs).bind _=_ from e)
  cases h2
  obtain⟨a,rfl,ha⟩:=NF s l h1
  exact⟨a,ns,rfl,ha,w _ F H (.refl s) (Al.of (.int _))⟩
theorem zrz:t4 K ct [n] k (λxs H Q=>∃(a:ai) (ns:List Int),xs=[.ref a]/\fm K H a (ns.map V.int)/\ns≠[]/\∀M,M∈ns->(∀z∈ns,z<=M)->Q (.int M) H) tD:=by
 intro F H vs ds d Q s l e w
 match ds,l,e with
 |[.lst xs],l,e=>
  obtain⟨ns,h1,h2⟩:=aT (show(eO xs).bind _=_ from e)
  obtain⟨M,h3,h4⟩:=aT h2
  cases h4
  obtain⟨a,rfl,ha⟩:=NF s l h1
  obtain⟨m1,m2⟩:=RV h3
  refine⟨a,ns,rfl,ha,(λz=>by rw[z]at m1;cases m1),λM' h5 h6=>?_⟩
  have:M'=M:=Int.le_antisymm (m2 M' h5) (h6 M m1)
  subst this
  exact w _ F H (.refl s) (Al.of (.int _))
theorem zr0:t4 K ct [n] k (λxs H Q=>∃(a:ai) (bs:List Bool),xs=[.ref a]/\fm K H a (bs.map V.bl)/\Q (.bl (bs.all id)) H) Cc:=by
 intro F H vs ds d Q s l e w
 match ds,l,e with
 |[.lst xs],l,e=>
  obtain⟨bs,h1,h2⟩:=aT (show(mz xs).bind _=_ from e)
  cases h2
  cases l with
  |cons h t=>
   cases t
   obtain⟨a,us,rfl,ha,hp⟩:=h.lst s
   have:=QJ h1
   subst this
   have:=hp.blV
   subst this
   exact⟨a,bs,rfl,ha,w _ F H (.refl s) (Al.of (.bl _))⟩
theorem Pr.ofInts {F H:Hp}:∀ns:List Int,Pr (Al K ct F H 0) (ns.map .int) (ns.map V.int)
 |[]=>.nil
 |n::ns=>.cons (show Dt K ct F (.int n) (.int n)from .int n) (Pr.ofInts ns)
theorem zoj:sJ K ct [n] 1 (λxs H Q=>∃(a:ai) (ns:List Int),xs=[.ref a]/\fm K H a (ns.map V.int)/\ns.length<64/\∀oB:List Int,oB.Perm ns->oB.Pairwise (·<=·)->∀p,H p=none->Q (.ref p) (upd H p (.lst (oB.map V.int)))) mM:=by
 intro F H vs ds d Q s l e w
 match ds,l,e with
 |[.lst xs],l,e=>
  obtain⟨ns,h1,h2⟩:=aT (show(eO xs).bind _=_ from e)
  by_cases hz:ns.length<64
  ·rw[if_pos hz]at h2
   cases h2
   obtain⟨a,rfl,ha⟩:=NF s l h1
   refine⟨a,ns,rfl,ha,hz,λoB p1 p2=>?_⟩
   have:oB=lF ns:=qk (p1.trans (j8 ns).symm) p2 (ja ns)
   subst this
   exact xT s (Pr.ofInts _) w
  ·rw[if_neg hz]at h2;cases h2
end
end L3
namespace L3
open PySem PySem.Spec L2
open PyProof.Rows hiding St
def lE (H:Hp)(x:ai):Hp:=λb=>if b=x then none else H b
theorem Jk (H:Hp)(x:ai):bQ (lE H x) H:=λb o h=>by
 unfold lE at h
 by_cases e:b=x
 ·rw[if_pos e]at h;cases h
 ·rw[if_neg e]at h;exact h
theorem JU (H:Hp)(x:ai):lE H x x=none:=if_pos rfl
theorem jr {H:Hp}{x b:ai}(h:b≠x):lE H x b=H b:=if_neg h
def sI (K:ae)(ct:Nat->ai)(cs:List Nat)(pm:List Nat)(mi:Nat->List D->Option D):Sp:=λvs H Q _=>∃(F:Hp) (c:Nat) (ds:List D) (d:D) (x dx:ai) (us:List V),c∈cs/\vs=.ref x::us/\H x=some (.ins (ct c) dx [])/\F x=none/\bQ F H/\iU K ct F (lE H x) pm ds us/\mi c ds=some d /\
 ∀F' H',bQ F F'->bQ (lE H x) H'->bQ F' H'->(∀a o,lE H x a=some o->F a=none->F' a=none)->F' x=none->Ow K ct F' H' 1 d (.ref x) [x]->Q .non H'
theorem sI.len {K:ae}{ct:Nat->ai}{cs pm:List Nat}{mi:Nat->List D->Option D}{ps:List aR}(h:pm.length+1=ps.length):∀vs H Q E,sI K ct cs pm mi vs H Q E->vs.length=ps.length:=by
 rintro vs H Q E ⟨F,c,ds,d,x,dx,us,_,rfl,_,_,_,l,_⟩
 rw[aV,l.length,h]
def AD (N:List aR)(b:SF)(c:Nat)(ds:List D):Option D:=(b (some (.obj c [] [])::startD N.tail ds)).bind λo=>match o with
 |.nx ρ=>(ρ[0]?).join
 |_=>none
section
variable {X:Cx}{ct:Nat->ai}{ms:List Mo}{rk n m k:Nat}{a b c e tg:Expr}{f g h:EF}{u w:SF}{pos:cW}
theorem Hx {P:bx}{w:bY}{K:ae}{mg:aR->Option af}{base:aX}{x qual:aR}{st:bR}{fa:ai}{fd:aH}{N0:aR}{N ps:List aR}{kk:Nat}{cs pm:List Nat}{bf:SF}(Fn:Fun2 K x qual st fa fd)(S:bp (N0::N) ps (aJ st))(Au:pm.length+1=ps.length)(Iy:ms.length=N.length)(mE:pm.length<=N.length)
  (EI:∀(i n:Nat),pm[i]?=some n->ms[i]?=some (Mo.al n)\/(n=0/\ms[i]?=some (Mo.ow 0)))
  (body:∀(x:ai) (hU:af) (A:bT) (outer:List PySem.Env) (s:ak) (H:Hp) (E:XK),eA kk (A.deeper (envOfC qual (aJ st) s.heap.objs.size fa hU))->rq (ng eJ P w K mg base (N0::N) qual (aJ st) fa hU A outer s H E).nox ct (.so x::ms) rk (gH st) bf) :
  cz P w K mg base eJ (kk+1) fa fd ps (sI K ct cs pm (AD (N0::N) bf)):=by
 refine Fn.ok S (sI.len Au) λhU A outer s H vs Q E hr h=>?_
 obtain⟨F,c,ds,d,x,dx,us,hc,rfl,hx,hF,sF,l,hm,q⟩:=h
 obtain⟨t,pt,qt⟩:=body x hU A outer s H E hr
 refine⟨t,pt,?_⟩
 obtain⟨o,h1,h2⟩:=aT hm
 have rB:ds.length=us.length:=l.length'
 have Pt:us.length=pm.length:=l.length
 have ow:Ow K ct F H 1 (.obj c [] []) (.ref x) [x]:=.inr (t5.obj (vs:=[]) hF hx rfl .nil)
 have X8:bQ F (lE H x):=λb o hb=>by
  rw[jr (λe=>by rw[e,hF]at hb;cases hb)]
  exact sF _ _ hb
 refine qt F (lE H x) F H (some (.obj c [] [])::startD N ds) (L2.start (N0::N) (.ref x::us)) o _ ⟨.refl _,Jk H x,sF,λ_ _ _ h=>h,[x],?_,by simp,λa z=>by rw[ax]at z;subst z;exact JU H _⟩ h1 ?_
 ·have e:L2.start (N0::N) (.ref x::us)=some (.ref x)::(us.map some++aA (N.length-us.length) none):=by
   unfold L2.start
   simp
  rw[e]
  unfold startD
  rw[rB]
  exact SL.so (fp:=[]) ow (SL.start _ l EI (by omega))
 ·cases o with
  |nx ρ=>
   intro σ F' H' r
   obtain⟨fp,sl,nd,hb⟩:=r.sl
   cases sl with
   |no _=>cases h2
   |so IM _=>
    cases h2
    exact q F' H' r.f0 r.bh r.fh r.nf (IM.cells x aa).1 IM
  |rt d'=>cases h2
  |bk ρ=>cases h2
  |ct ρ=>cases h2
end
end L3
namespace L3
open PySem PySem.Spec L2
open PyProof.Rows hiding St
theorem RW {f:aR}{y:V}:∀{ns:List aR} {vs:List V},ns.length=vs.length->ns.contains f=false->iX f y (ns.zip vs)=(ns++[f]).zip (vs++[y])
 |[],[],_,_=>rfl
 |[],_::_,h,_=>by simp at h
 |_::_,[],h,_=>by simp at h
 |n::ns,v::vs,h,hc=>by
  rw[qT,pH]at hc
  have hn:¬n=f:=λe=>by rw[e]at hc;simp at hc
  have ih:=RW (f:=f) (y:=y) (ns:=ns) (vs:=vs) (by simpa using h) hc.2
  show iX f y ((n,v)::ns.zip vs)=(n,v)::(ns++[f]).zip (vs++[y])
  rw[←ih]
  show(if n=f then _ else _)=_
  rw[if_neg hn]
theorem Ow.obj_inv {ct:Nat->ai}{K:ae}{F H:Hp}{c k:Nat}{ns:List aR}{ds:List D}{v:V}{fp:List ai}(h:Ow K ct F H (k+1) (.obj c ns ds) v fp):∃a dx vs fr,v=.ref a/\fp=a::fr/\F a=none/\H a=some (.ins (ct c) dx (ns.zip vs))/\ns.length=vs.length/\OwL (Ow K ct F H k) ds vs fr:=by
 rcases h with⟨h,_⟩|h
 ·cases h
 ·cases h with
  |obj h1 h2 h3 h4=>exact⟨_,_,_,_,rfl,rfl,h1,h2,h3,h4⟩
section
variable {X:Cx}{ct:Nat->ai}{ms:List Mo}{rk n m k:Nat}{a b c e tg:Expr}{f g h:EF}{u w:SF}{pos:cW}{x0:ai}
def kx (cs:List Nat)(x:aR)(f:EF):SF:=λρ=>(f ρ).bind λd=>(eV 0 ρ).bind λo=>match o with
 |.obj c ns ds=>if cs.contains c=true/\ns.contains x=false/\ns.length<900 then some (.nx (ρ.set 0 (some (.obj c (ns++[x]) (ds++[d])))))else none
 |_=>none
theorem RS.self {K:ae}{F0 B F H F' H':Hp}{ρ:Env}{σ:St}{d:D}(rs:RS K ct F0 B (.so x0::ms) F H ρ σ)(hd:ρ[0]?=some (some d)):σ[0]?=some (some (.ref x0))/\Ow K ct F H 1 d (.ref x0) [x0]/\B x0=none /\
  ∀(F' H':Hp) (d':D),bQ F F'->bQ B H'->bQ F' H'->(∀a o,B a=some o->F0 a=none->F' a=none)->(∀a o,H a=some o->a≠x0->H' a=some o)->(∀a o,H a=some o->a≠x0->F a=none->F' a=none)->Ow K ct F' H' 1 d' (.ref x0) [x0]->RS K ct F0 B (.so x0::ms) F' H' (ρ.set 0 (some d')) σ:=by
 obtain⟨fp,sl,nd,hb⟩:=rs.sl
 cases sl with
 |no _=>simp at hd
 |so ow t=>
  simp at hd
  subst hd
  refine⟨rfl,ow,hb _ aa,λF' H' d' s1 s2 s3 s4 k1 k2 o'=>⟨rs.f0.trans s1,s2,s3,s4,_,.so o' (t.frame s1 λa z=>?_),nd,hb⟩⟩
  obtain⟨hn,o,ho⟩:=t.cells a z
  have ne:a≠x0:=λe=>(bw.mp nd).1 (by rw[←e];exact z)
  exact⟨(k1 a o ho ne).trans ho.symm,k2 a o ho ne hn⟩
theorem BX {x s:aR}{cs:List Nat}{p1 pos':cW}(hc:∀c∈cs,kE X.K (ct c)/\fO X.K (ct c) x)(he:XE X ct (.so x0::ms) 0 e f)(hN:X.N[0]?=some s:=by rfl)(hv:ou X.env.scope s:=by first|exact Or.inl rfl|exact Or.inr (Or.inl rfl)|exact Or.inr (Or.inr rfl))(hd:(s==("__debug__":aR))=false:=by decide)
  (iL:(s==("__classdict__":aR))=false:=by decide) (hs:dW e (some (.Attribute (.Name s p1) x pos')) pos.line X.env=pure false:=by rfl):XS X ct (.so x0::ms) rk (.Assign [.Attribute (.Name s p1) x pos'] e pos) (kx cs x f):=by
 obtain⟨t,pt,qt⟩:=he
 refine⟨_,ztw (jo hN hv hd iL) pt hs,λF0 B F H ρ σ o E rs e z=>?_⟩
 obtain⟨d,h1,h2⟩:=aT e
 obtain⟨ob,h3,h4⟩:=aT h2
 refine qt F0 B F H ρ σ d _ rs h1 λy F1 H1 x1 l=>?_
 have jL:=rs.ext x1
 obtain⟨hσ,ow,hB,put⟩:=jL.self (F':=F) (H':=H) (yf h3)
 refine⟨_,hσ,?_⟩
 cases ob with
 |obj c ns ds=>
  dsimp only at h4
  by_cases hz:cs.contains c=true/\ns.contains x=false/\ns.length<900
  ·rw[if_pos hz]at h4
   cases h4
   obtain⟨a,dx,vs,fr,e1,e2,hF,hH,hl,ol⟩:=ow.obj_inv
   cases e1
   cases e2
   have hh:=hc c (by simpa using hz.1)
   refine⟨x0,_,dx,_,rfl,hH,hh.1,hh.2,by rw[eK,←hl,gS];omega,?_⟩
   rw[RW hl hz.2.1]
   refine z σ F1 _ (put F1 _ _ (.refl _) (λb o h=>?_) (λb o h=>?_) jL.nf (λb o h ne=>by rw[yo ne];exact h) (λb o h ne hn=>hn) (.inr (t5.obj (vs:=vs++[y]) hF yx (by simp[hl]) ?_)))
   ·rw[yo (λe=>by rw[e,hB]at h;cases h)];exact jL.bh _ _ h
   ·rw[yo (λe=>by rw[e,hF]at h;cases h)];exact jL.fh _ _ h
   ·have o1:OwL (Ow X.K ct F1 (upd H1 x0 (.ins (ct c) dx ((ns++[x]).zip (vs++[y])))) 0) ds vs []:=ol.mono λ_ _ _ _ q=>⟨q.1,q.2⟩
    have:=o1.append (OwL.cons (f:=[]) (g:=[]) (R:=Ow X.K ct F1 (upd H1 x0 (.ins (ct c) dx ((ns++[x]).zip (vs++[y])))) 0) ⟨l,rfl⟩ .nil)
    exact this
  ·rw[if_neg hz]at h4;cases h4
 |_=>cases h4
variable {kk:Nat}{fa:ai}{fd:aH}{ps:List aR}{pm cs:List Nat}{mi:Nat->List D->Option D}{x:aR}{pp:cW}
theorem JD {c0:Nat}{es:List Expr}{ns nd:List Nat}{fs:Env->Option (List D)}{iW:List V}{lB:List D}{lC:List af}(M:Mk X.K (ct c0) fa)(Ak:c0∈cs)(Fn:cz X.prog X.w X.K X.mg X.base eJ kk fa fd ps (sI X.K ct cs (ns++nd) mi))(hr:eA (kk+1) X.A)(hg:Gl X x)(hm:X.mg x=some (.ref (ct c0)))
  (hb:bC X.K fd ps lC) (hd:bX iW lC) (uW:∀F G,iU X.K ct F G nd lB iW) (ha:XA X ct ms (e::es) ns fs)
  (kP:(x==("__debug__":aR))=false:=by decide) (he:ao (e::es) X.env=(false,bF e X.env)::ao es X.env:=by rfl) (iy:(cy pos (ao es X.env)).any (·.1)=false:=by rfl) :
  XO X ct ms 1 (.Call (.Name x pp) (e::es) [] pos) (λρ=>(fs ρ).bind λds=>mi c0 (ds++lB)):=by
 obtain⟨t,pt,_,qt⟩:=ha
 refine⟨_,zqz M Fn hr hg hm hb hd nH pt kP he iy,λF0 B F H ρ σ r Q rs e w=>?_⟩
 obtain⟨ds,h1,h2⟩:=aT e
 refine qt F0 B F H ρ σ ds _ rs h1 λvs F1 H1 x1 l y dy hy VA kr=>?_
 have sH:bQ H1 (lE (upd (upd H1 dy (.own y)) y (.ins (ct c0) dy [])) y):=λb o h=>by
  have n1:b≠y:=xr h hy
  rw[jr n1,yo n1,yo (xr h VA)]
  exact h
 have X9:bQ H1 (upd (upd H1 dy (.own y)) y (.ins (ct c0) dy [])):=sH.trans (Jk _ _)
 refine⟨F1,c0,ds++lB,r,y,dy,vs++iW,Ak,rfl,yx,x1.fh.free hy,x1.fh.trans X9,iU.mono (.refl _) sH (iU.append (uW F1 H1) l),h2,λF' H' s1 s2 s3 s4 hn ow=>⟨rfl,?_⟩⟩
 refine w _ F' H' [y] ⟨x1.ff.trans s1,(x1.hh.trans sH).trans s2,s3,λb o h n=>s4 b o (sH _ _ (x1.hh _ _ h)) (x1.nf b o h n)⟩ ow (by simp) λb z=>?_
 rw[ax]at z
 subst z
 exact x1.hh.free hy
theorem zok {C:ai}{sp:Sp}{iW:List V}{ds:List af}{E:XK}{m:aR}{p dB:cW}{es:List Expr}{t:TA}{pl:oI Bool}{mc:af}(Fn:cz X.prog X.w X.K X.mg X.base eJ kk fa fd ps sp)(hr:eA kk X.A)(hg:Gl X x)(hm:X.mg x=some (.ref C))
  (h1:dY X.K (.ref C) "__getattribute__"=some (some (.builtin "type.__getattribute__"))) (h2:iJ X.K C mc=true) (h3:iI X.K (.ref C) mc m=some (.val (.ref fa))) (hk:am X.K (.ref fa)=true) (hb:bC X.K fd ps ds) (hd:bX iW ds) (hx:i8 eJ X E) (ha:PA X (e::es) t)
  (kP:(x==("__debug__":aR))=false:=by decide) (mH:ao (e::es) X.env=(false,bF e X.env)::ao es X.env:=by rfl) (iy:(cy pos (ao es X.env)).any (·.1)=false:=by rfl)
  (ht:bF (.Call (.Attribute (.Name x p) m dB) (e::es) [] pos) X.env=(do
   let ov ← bF (.Name x p) X.env
   gN dB.atName
   let(f,first) ← d7 [ov] (gJ ov m pl)
   jE pos f first (cy pos (ao (e::es) X.env)) (eU pos (dh [] X.env))):=by rfl) :
  PE X (.Call (.Attribute (.Name x p) m dB) (e::es) [] pos) (xP sp iW E t):=by
 intro aj s σ H Q I h
 refine fT (pl:=pl) (Js I hg hm ?_ kP) ht
 refine PySem.W.method_cls I.kIn h1 (PySem.W.cls_value I.kIn h2 h3 rfl ?_)
 have I1:Inv X aj σ H { s with toks:=s.toks+1 }:=I.tok _
 refine gK (first:=[]) (h₀:=X.base) I.ok.mod.kin hk (di (ha pos aj _ σ H _ I1 h) λus s2 ⟨vs,H2,I2,r,q2⟩=>⟨I2.kIn,?_⟩) mH iy
 exact JM (us:=us) (vs:=vs) Fn hr hb hd hx I2 r q2
theorem iU.flat {K:ae}{F G G':Hp}:∀{ns:List Nat} {ds:List D} {vs:List V},iU K ct F G ns ds vs->ns.all (· == 0)=true->iU K ct F G' ns ds vs
 |_,_,_,.nil,_=>.nil
 |n::_,_,_,.cons h t,e=>by
  rw[dL,bK]at e
  have:n=0:=by simpa using e.1
  subst this
  exact .cons h (iU.flat t e.2)
def nZ (cs:List Nat)(fs:Env->Option (List D))(mi:Nat->List D->Option D):SF:=λρ=>(eV 0 ρ).bind λo=>(fs ρ).bind λds=>match o with
 |.obj c [] []=>if cs.contains c=true then(mi c ds).bind λd=>some (.nx (ρ.set 0 (some d)))else none
 |_=>none
theorem NS {C:ai}{s m:aR}{p p1 dP dB:cW}{es:List Expr}{ns:List Nat}{fs:Env->Option (List D)}{pl:oI Bool}{mc:af}(Fn:cz X.prog X.w X.K X.mg X.base eJ kk fa fd ps (sI X.K ct cs ns mi))(hr:eA kk X.A)(hm:X.mg x=some (.ref C))
  (h1:dY X.K (.ref C) "__getattribute__"=some (some (.builtin "type.__getattribute__"))) (h2:iJ X.K C mc=true) (h3:iI X.K (.ref C) mc m=some (.val (.ref fa))) (hk:am X.K (.ref fa)=true) (hb:bC X.K fd ps []) (hz:ns.all (· == 0)=true) (ha:XA X ct (.so x0::ms) es ns fs)
  (hg:Gl X x:=by rfl) (hN:X.N[0]?=some s:=by rfl) (hv:ou X.env.scope s:=by first|exact Or.inl rfl|exact Or.inr (Or.inl rfl)|exact Or.inr (Or.inr rfl)) (hd:(s==("__debug__":aR))=false:=by decide)
  (iL:(s==("__classdict__":aR))=false:=by decide) (kP:(x==("__debug__":aR))=false:=by decide) (mH:ao (.Name s p1::es) X.env=(false,bF (.Name s p1) X.env)::ao es X.env:=by rfl) (iy:(cy dP (ao es X.env)).any (·.1)=false:=by rfl)
  (ht:bF (.Call (.Attribute (.Name x p) m dB) (.Name s p1::es) [] dP) X.env=(do
   let ov ← bF (.Name x p) X.env
   gN dB.atName
   let(f,first) ← d7 [ov] (gJ ov m pl)
   jE dP f first (cy dP (ao (.Name s p1::es) X.env)) (eU dP (dh [] X.env))):=by rfl)
  (vA:dW (.Call (.Attribute (.Name x p) m dB) (.Name s p1::es) [] dP) none pos.line X.env=pure false:=by rfl) :
  XS X ct (.so x0::ms) rk (.Expr (.Call (.Attribute (.Name x p) m dB) (.Name s p1::es) [] dP) pos) (nZ cs fs mi):=by
 obtain⟨t,pt,_,qt⟩:=ha
 refine⟨_,NK (zok (E:=E0) Fn hr hg hm h1 h2 h3 hk hb .nil nH (v4 (jo hN hv hd iL) pt mH) kP mH iy ht) vA,λF0 B F H ρ σ o E rs e z=>?_⟩
 obtain⟨ob,ds,g1,g2,g3⟩:=dD e
 obtain⟨hσ,ow,hB,put⟩:=rs.self (F':=F) (H':=H) (yf g1)
 refine⟨_,hσ,qt F0 B F H ρ σ ds _ rs g2 λvs F1 H1 x1 l=>?_⟩
 have jL:=rs.ext x1
 obtain⟨hσ,ow,hB,put⟩:=jL.self (F':=F) (H':=H) (yf g1)
 match ob,g3,ow with
 |.obj c [] [],g3,ow=>
  dsimp only at g3
  by_cases hc:cs.contains c=true
  ·rw[if_pos hc]at g3
   obtain⟨d,g4,g5⟩:=aT g3
   cases g5
   obtain⟨a,dx,us,fr,e1,e2,hF,hH,hl,ol⟩:=ow.obj_inv
   cases e1
   cases e2
   refine⟨F1,c,ds,d,x0,dx,vs++[],by simpa using hc,rfl,hH,hF,x1.fh,?_,g4,λF' H' s1 s2 s3 s4 hn o'=>?_⟩
   ·rw[cn];exact l.flat hz
   ·have sB:bQ B (lE H1 x0):=λb o h=>by
     rw[jr (λe=>by rw[e,hB]at h;cases h)]
     exact jL.bh _ _ h
    exact z σ F' H' (put F' H' d s1 (sB.trans s2) s3 (λb o h n=>s4 b o (sB _ _ h) (jL.nf b o h n)) (λb o h ne=>s2 _ _ (by rw[jr ne];exact h)) (λb o h ne EK=>s4 b o (by rw[jr ne];exact h) EK) o')
  ·rw[if_neg hc]at g3;cases g3
end
end L3
namespace L3
open PySem PySem.Spec L2
open PyProof.Rows hiding St
structure ip (K:ae)(mg:aR->Option af)(x:aR)(st:bR)(ps:List aR)(f:ai)(fd:aH):Prop where
 fn:Fun2 K x x st f fd
 mgx:mg x=some (.ref f)
 bd:bC K fd ps []
structure Dm (K:ae)(C:ai)(m qual:aR)(st:bR)(ps:List aR)(f:ai)(fd:aH):Prop where
 fn:Fun2 K m qual st f fd
 me:pR K C m f
 bd:bC K fd ps []
structure Dc (K:ae)(mg:aR->Option af)(x:aR)(C:ai):Prop where
 cl:kE K C
 mgx:mg x=some (.ref C)
 mks:dU K C=true
 kp:am K (.ref C)=true
structure Dq (K:ae)(C:ai)(m:aR)(f:ai):Prop where
 sp:dY K (.ref C) "__getattribute__"=some (some (.builtin "type.__getattribute__"))
 rd:iJ K C (.type "type")=true
 fc:iI K (.ref C) (.type "type") m=some (.val (.ref f))
theorem zo {K:ae}{x qual:aR}{st:bR}{f:ai}{oc:af}{od an:Option ai}{AK:Array (Option af)}{dV kV doc pm hU ct:af}(l:K.lookup f=some ⟨oc,od,.func (gF x qual (lV st) (gH st) (aJ st) dV kV doc pm an hU ct),AK⟩)
  (c:av K hU qual=true) (k:am K (.ref f)=true):Fun2 K x qual st f (gF x qual (lV st) (gH st) (aJ st) dV kV doc pm an hU ct):=⟨⟨oc,od,dV,kV,doc,pm,an,hU,ct,AK,rfl,l,c⟩,k⟩
theorem A1 {K:ae}{fd:aH}{ps:List aR}{ds:List af}{T:ai}{o:dO}{items:Array af}{n:Nat}(hd:fd.defaults=.ref T)(ho:K.lookup T=some o)(hs:o.data=.seq items n)
  (h:∀us:List af,(us++ds).length=ps.length->∃k,bindArgs fd ⟨us,[]⟩=seqItems? fd.defaults >>= k/\k (some items)=pure (ps.zip (us++ds))):bC K fd ps ds:=λs us X hl=>by
 obtain⟨k,h1,h2⟩:=h us hl
 exact PySem.W.binds_K X hd ho hs h1 h2
end L3
namespace L3
open PySem PySem.Spec L2
open PyProof.Rows hiding St
def J7 (x:aR):It:=⟨λi _=>∃c,x.cps[i]?=some c,λi H v H'=>H'=H/\∃c,x.cps[i]?=some c/\v=.str ⟨#[c]⟩,λi _=>x.cps[i]?=none⟩
theorem zol {P:bx}{w:bY}{K:ae}{tg:Expr}(x:aR)(t:Tok)(it:ai):Turn P w K tg (J7 x) [it] it (λi h=>h.IsStrIter it (cM x) x t i) where
 mem:=by simp
 obj:=λi h st b hb=>by
  have e:b=it:=by simpa using hb
  subst e
  obtain⟨o,e,c,d⟩:=st
  exact⟨o,e,λv z=>by rw[d]at z;cases z⟩
 keep:=λi h h' st k=>by
  obtain⟨o,e,c,d⟩:=st
  exact⟨o,k it (by simp) o e,c,d⟩
 item:=by
  intro X hP hw hK hc i aj s σ H E I hf st hg
  subst hP hw hK
  obtain⟨c,hx⟩:=hg
  obtain⟨f0,f1,f2,f3,f4,f5⟩:=hf it (by simp)
  have fin:∀h':aX,h'.IsStrIter it (cM x) x t (i+1)->gM it s.heap h'->bi (ba X.prog X.w) X.A (hJ tg (.ref it) (.str ⟨#[c]⟩ s.toks)) (λ_ s2=>∃v H',Inv X aj σ H' s2/\RelV v (.str ⟨#[c]⟩ s.toks)/\(J7 x).yld i H v H'/\s2.heap.IsStrIter it (cM x) x t (i+1)/\∀b∈[it],H' b=none) E { s with heap:=h',toks:=s.toks+1 }:=λh' pG sb=>by
   have I1:Inv X aj σ H { s with heap:=h',toks:=s.toks+1 }:=I.turned (t':=s.toks+1) (λb o hb e=>(sb.2 b hb).trans e) f0 f1 f3 f4 f5
   obtain⟨o,e,cc,d⟩:=id pG
   refine JY (s:={ s with heap:=h',toks:=s.toks+1 }) e cc d ?_ ⟨.str ⟨#[c]⟩,H,I1,⟨_,rfl⟩,⟨rfl,c,hx,rfl⟩,pG,λb hb=>(hf b hb).1⟩
   unfold cM
   split<;>decide
  cases ha:x.cps.all (·<128)with
  |true=>
   have e:cM x = "str_ascii_iterator":=by unfold cM;rw[ha];rfl
   rw[e]at st fin
   exact wpAny_pyNext_ascii_item st hx λh' pG sb=>⟨_,rfl,by rw[e];exact fin h' pG sb⟩
  |false=>
   have e:cM x = "str_iterator":=by unfold cM;rw[ha];rfl
   rw[e]at st fin
   exact wpAny_pyNext_wide_item st hx λh' pG sb=>⟨_,rfl,by rw[e];exact fin h' pG sb⟩
 done:=by
  intro X hP hw hK hc i aj s σ H E I hf st hg
  subst hP hw hK
  obtain⟨f0,f1,f2,f3,f4,f5⟩:=hf it (by simp)
  cases ha:x.cps.all (·<128)with
  |true=>
   have e:cM x = "str_ascii_iterator":=by unfold cM;rw[ha];rfl
   rw[e]at st
   exact wpAny_pyNext_ascii_end (I.ok.hd hc) st hg λh' eb=>⟨rfl,I.turned (t':=s.toks) (λb o hb e=>eb b o hb e) f0 f1 f3 f4 f5⟩
  |false=>
   have e:cM x = "str_iterator":=by unfold cM;rw[ha];rfl
   rw[e]at st
   exact wpAny_pyNext_wide_end (I.ok.hd hc) st hg λh' eb=>⟨rfl,I.turned (t':=s.toks) (λb o hb e=>eb b o hb e) f0 f1 f3 f4 f5⟩
 self:=λA i s Q E st h=>by
  cases ha:x.cps.all (·<128)with
  |true=>
   have e:cM x = "str_ascii_iterator":=by unfold cM;rw[ha];rfl
   rw[e]at st
   exact wpAny_pyIter_striter_ascii st h
  |false=>
   have e:cM x = "str_iterator":=by unfold cM;rw[ha];rfl
   rw[e]at st
   exact wpAny_pyIter_striter_wide st h
def Me (tl:TE):TI:=λσ H R=>tl σ H λx H1=>∃z,x=.str z/\R (J7 z) H1
section
variable {X:Cx}{ct:Nat->ai}{ms:List Mo}{rk n m k:Nat}{st:bR}{rest:List bR}{a b c e tg:Expr}{f g h:EF}{p q:BF}{u w:SF}{pos:cW}
theorem zup {l:Expr}{tl:TE}(hl:PE X l tl):PI X tg l (Me tl):=by
 intro aj s σ H R I h
 refine di (hl aj s σ H _ I h) λv s1 ⟨x,H1,I1,r,z,e,q⟩=>?_
 subst e
 obtain⟨t,rfl⟩:=r
 refine wpAny_pyIter_strU ?_
 refine⟨s1.heap.objs.size,[s1.heap.objs.size],_,_,H1,rfl,I1.kept (t':=s1.toks) λb o e=>aD _ e,zol z t _,⟨_,bB _ rfl,rfl,rfl⟩,λb hb=>?_,q⟩
 have e:b=s1.heap.objs.size:=by simpa using hb
 subst e
 exact I1.fpOk (aF _) (I1.hok.fresh (aF _))
def p6 (x:aR):List D:=x.cps.toList.map λc=>.str ⟨#[c]⟩
def OD:D->Option (List D)
 |.str x=>some (p6 x)
 |_=>none
theorem zuq (he:XE X ct ms m e f):XI X ct ms n tg e (λρ=>(f ρ).bind OD):=by
 obtain⟨t,pt,qt⟩:=he
 refine⟨_,zup pt,λF0 B F H ρ σ ds R rs e w=>?_⟩
 obtain⟨d,h1,h2⟩:=aT e
 refine qt F0 B F H ρ σ _ _ rs h1 λv F' H' x l=>?_
 cases d with
 |str z=>
  cases h2
  refine⟨z,l.str,w _ F' H' x λi F2 H2 s1 s2 s3=>⟨λd hd=>?_,λhl=>?_⟩⟩
  ·unfold p6 at hd
   rw[aQ]at hd
   obtain⟨c,hc,rfl⟩:=cU.mp hd
   have wX:z.cps[i]?=some c:=by simpa using hc
   refine⟨⟨c,wX⟩,λy H3 hy=>?_⟩
   obtain⟨rfl,c2,h3,rfl⟩:=hy
   rw[wX]at h3
   cases h3
   exact⟨F2,.refl s3,Al.of (.str _)⟩
  ·unfold p6 at hl
   rw[ay,dF]at hl
   exact Array.getElem?_eq_none hl
 |_=>cases h2
theorem zom {κ:Type}[DecidableEq κ](k:κ)(v:V):∀{ks:List κ} {vs:List V},ks.length=vs.length->putK (ks.zip vs) k v=(if ks.contains k=true then ks.zip ((ks.zip vs).map λp=>if p.1=k then v else p.2)else(ks++[k]).zip (vs++[v])):=by
 intro ks vs hl
 unfold putK
 have e:((ks.zip vs).any λkv=>decide (kv.1=k))=ks.contains k:=by
  rw[Bool.eq_iff_iff,List.any_eq_true,List.contains_iff_mem]
  constructor
  ·rintro⟨p,hp,he⟩
   have:=decide_eq_true_iff.mp he
   rw[←this]
   exact(gG hp).1
  ·intro hk
   obtain⟨i,hi,rfl⟩:=List.getElem_of_mem hk
   exact⟨(ks[i],vs[i]'(by omega)),dm.mpr ⟨i,by simp;omega,by simp⟩,by simp⟩
 rw[e]
 by_cases h:ks.contains k=true
 ·rw[if_pos h,if_pos h]
  clear e h
  induction ks generalizing vs with
  |nil=>simp
  |cons y ks ih=>
   cases vs with
   |nil=>simp at hl
   |cons u vs=>
    simp only[fJ,aM,ih (by simpa using hl)]
    by_cases hy:y=k<;>simp[hy]
 ·rw[if_neg h,if_neg h,tV hl]
  rfl
end
end L3
namespace L3
open PySem PySem.Spec L2
open PyProof.Rows hiding St
section
variable {X:Cx}{ct:Nat->ai}{ms:List Mo}{rk n m k:Nat}{st:bR}{rest:List bR}{a b c e tg:Expr}{f g h:EF}{p q:BF}{u w:SF}{pos:cW}
def iR (i:Nat)(fj f:EF):SF:=λρ=>(f ρ).bind λd=>(eV i ρ).bind λo=>(fj ρ).bind λj=>match o with
 |.dK ks ds=>(vD j).bind λk=>if ks.length<16777216 then some (.nx (ρ.set i (some (.dK (fu ks ds k d).1 (fu ks ds k d).2))))else none
 |.dT ks ds=>(match j with
  |.tup js=>(nF js).bind λk=>if ks.length<16777216 then some (.nx (ρ.set i (some (.dT (fu ks ds k d).1 (fu ks ds k d).2))))else none
  |_=>none)
 |_=>none
theorem Jl {κ:Type}[DecidableEq κ]{R:D->V->Prop}{d:D}{v:V}(r:R d v)(k:κ){ks:List κ}{ds:List D}{vs:List V}(hl:ks.length=vs.length)(hp:Pr R ds vs) :
  ∃us,putK (ks.zip vs) k v=(fu ks ds k d).1.zip us/\(fu ks ds k d).1.length=us.length/\Pr R (fu ks ds k d).2 us:=by
 rw[zom k v hl]
 unfold fu
 by_cases h:ks.contains k=true
 ·rw[if_pos h,if_pos h]
  refine⟨_,rfl,by simp[hl],?_⟩
  clear h
  induction ks generalizing ds vs with
  |nil=>simp;exact .nil
  |cons y ks ih=>
   cases hp with
   |nil=>simp at hl
   |cons h t=>
    simp only[fJ,aM]
    refine .cons ?_ (ih (by simpa using hl) t)
    by_cases hy:y=k
    ·rw[if_pos hy,if_pos hy];exact r
    ·rw[if_neg hy,if_neg hy];exact h
 ·rw[if_neg h,if_neg h]
  exact⟨_,rfl,by simp[hl],hp.append (.cons r .nil)⟩
theorem JE (i:Nat){x:aR}{j:Expr}{p1 gc:cW}{fj:EF}(hm:ms[i]?=some (.ow 1))(hu:X.A.units+1<fX)(hj:XE X ct ms 0 j fj)(he:XE X ct ms 0 e f)(hN:X.N[i]?=some x:=by rfl)(hv:ou X.env.scope x:=by first|exact Or.inl rfl|exact Or.inr (Or.inl rfl)|exact Or.inr (Or.inr rfl))(hd:(x==("__debug__":aR))=false:=by decide)
  (iL:(x==("__classdict__":aR))=false:=by decide) (hs:dW e (some (.Subscript (.Name x p1) j gc)) pos.line X.env=pure false:=by rfl) :
  XS X ct ms rk (.Assign [.Subscript (.Name x p1) j gc] e pos) (iR i fj f):=by
 obtain⟨t,pt,qt⟩:=he
 obtain⟨tj,vJ,vL⟩:=hj
 refine⟨_,Sj hu (jo hN hv hd iL) vJ pt hs,λF0 B F H ρ σ o E rs e z=>?_⟩
 obtain⟨d,g1,g2⟩:=aT e
 obtain⟨d1,qF,g3,g4,g5⟩:=dD g2
 refine qt F0 B F H ρ σ d _ rs g1 λv0 F1 H1 x1 l0=>?_
 have jL:=rs.ext x1
 obtain⟨f1,fr,n1,b1,dj,i4,cf,put⟩:=jL.put (F':=F) (H':=H) hm
 obtain⟨v,hσ,ow⟩:=i4 d1 (yf g3)
 refine⟨v,hσ,vL F0 B F1 H1 ρ σ qF _ jL g4 λvj F2 H2 x2 lj=>?_⟩
 have FV:Dt X.K ct F2 d v0:=Dt.mono x2.ff l0
 cases d1 with
 |dK ks ds=>
  dsimp only at g5
  obtain⟨key,g6,g7⟩:=aT g5
  by_cases hz:ks.length<16777216
  ·rw[if_pos hz]at g7
   cases g7
   obtain⟨ad,vs,mY,rfl,rfl,hF,hH,hl,ol⟩:=ow.dK_inv
   have hA:=x2.hh _ _ hH
   have fA:F2 ad=none:=x2.nf ad _ hH hF
   have e0:=ol.nil0
   subst e0
   have hp:Pr (Dt X.K ct F2) ds vs:=ol.pr λ_ _ _ _ q=>q.1.mono x2.ff
   obtain⟨us,Ay,Az,AA⟩:=Jl FV key hl hp
   have hk:=JR g6 lj
   subst hk
   refine⟨ad,_,rfl,m6.k hA (by rw[eK,←hl,gS,cH];exact hz),?_⟩
   rw[Ay]
   refine z σ F2 _ (jL.change hm x2 hσ b1 dj cf put aa fA (.inr (.dK fA yx Az (OwL.ofPr (AA.mono λ_ _ q=>⟨q,rfl⟩)))) (fn:=[ad]) (by simp) ?_)
   intro a ha
   rw[ax]at ha
   subst ha
   exact .inl aa
  ·rw[if_neg hz]at g7;cases g7
 |dT ks ds=>
  cases qF with
  |tup js=>
   dsimp only at g5
   obtain⟨key,g6,g7⟩:=aT g5
   by_cases hz:ks.length<16777216
   ·rw[if_pos hz]at g7
    cases g7
    obtain⟨ad,vs,mY,rfl,rfl,hF,hH,hl,ol⟩:=ow.dT_inv
    have hA:=x2.hh _ _ hH
    have fA:F2 ad=none:=x2.nf ad _ hH hF
    have e0:=ol.nil0
    subst e0
    have hp:Pr (Dt X.K ct F2) ds vs:=ol.pr λ_ _ _ _ q=>q.1.mono x2.ff
    obtain⟨us,Ay,Az,AA⟩:=Jl FV key hl hp
    obtain⟨bd,ws,rfl,hb,EO⟩:=lj.tup x2.fh
    have hk:=JA g6 EO
    subst hk
    refine⟨ad,_,rfl,m6.t hA hb (by rw[eK,←hl,gS,cH];exact hz),?_⟩
    rw[Ay]
    refine z σ F2 _ (jL.change hm x2 hσ b1 dj cf put aa fA (.inr (.dT fA yx Az (OwL.ofPr (AA.mono λ_ _ q=>⟨q,rfl⟩)))) (fn:=[ad]) (by simp) ?_)
    intro a ha
    rw[ax]at ha
    subst ha
    exact .inl aa
   ·rw[if_neg hz]at g7;cases g7
  |_=>cases g5
 |_=>cases g5
def G2 (K:ae):V->V->Hp->VK->Prop:=λo i H Q=>∃p xs k v,o=.ref p/\i=.int k/\fm K H p xs/\atI xs k=some v/\Q v H
theorem zl9:Ca X (G2 X.K):=by
 intro aj s σ H o i ov iv Q I ro ri h
 obtain⟨p,xs,k,z,rfl,rfl,hq,he,q⟩:=h
 cases ro
 obtain⟨t,rfl⟩:=ri
 obtain⟨ce,r,pl,hz⟩:=I.list hq
 obtain⟨j,h1,h2,h3,h4,h5⟩:=Ju he
 obtain⟨w,ew,mL⟩:=r.get h2
 have hl:=r.length
 have hn:=jX
 have fin:EP X aj σ Q w s:=⟨z,H,I,mL,q⟩
 by_cases h0:0<=k
 ·have hj:k.toNat=j:=by
   rw[nN h0 h5]at h1
   exact Option.some.inj h1
  exact wpAny_getItem_list pl.isList h0 (by omega) (by rw[hj];simpa using ew) fin
 ·have hj:(k+(ce.toArray.size:Int)).toNat=j:=by
   rw[mU (by omega) h4]at h1
   rw[aK,←hl]
   exact Option.some.inj h1
  exact wpAny_getItem_list_neg pl.isList (by omega) (by rw[aK]<;>omega) (by omega) (by rw[hj];simpa using ew) fin
def o4 (i:Nat)(fj:EF)(gi:Int->Int->Int)(f:EF):SF:=λρ=>(eV i ρ).bind λo=>(fj ρ).bind λj=>(f ρ).bind λy=>match o,j with
 |.lst ds,.int z=>(atI ds z).bind λx=>(match x,y with
  |.int a,.int b=>(ky ds z (.int (gi a b))).bind λnS=>some (.nx (ρ.set i (some (.lst nS))))
  |_,_=>none)
 |_,_=>none
theorem Sv (i:Nat){x:aR}{op:jD}{j:Expr}{p1 gc:cW}{fj:EF}{gi:Int->Int->Int}(ho:Bf X op (II gi))(hm:ms[i]?=some (.ow 1))(hj:XE X ct ms n j fj)(he:XE X ct ms m e f)(hN:X.N[i]?=some x:=by rfl)(hv:ou X.env.scope x:=by first|exact Or.inl rfl|exact Or.inr (Or.inl rfl)|exact Or.inr (Or.inr rfl))(hd:(x==("__debug__":aR))=false:=by decide)
  (iL:(x==("__classdict__":aR))=false:=by decide) (ha:∀ov iv new,augStore j ov iv new=(do d7 [new,ov,iv] (mV ov iv new);rZ [new,ov,iv] [];pure .next):=by intros;rfl) :
  XS X ct ms rk (.AugAssign (.Subscript (.Name x p1) j gc) op e pos) (o4 i fj gi f):=by
 obtain⟨t,pt,qt⟩:=he
 obtain⟨tj,vJ,vL⟩:=hj
 refine⟨_,zqo (jo hN hv hd iL) vJ zl9 pt ho Nn ha,λF0 B F H ρ σ o E rs e z=>?_⟩
 obtain⟨d1,qF,g3,g4,g5⟩:=dD e
 obtain⟨d2,g6,g7⟩:=aT g5
 obtain⟨f1,fr,n1,b1,dj,i4,cf,put⟩:=rs.put (F':=F) (H':=H) hm
 obtain⟨v,hσ,ow⟩:=i4 d1 (yf g3)
 refine⟨v,hσ,vL F0 B F H ρ σ qF _ rs g4 λvj F2 H2 x2 lj=>?_⟩
 match d1,qF,g7,ow,lj with
 |.lst ds,.int zi,g7,ow,lj=>
  dsimp only at g7
  obtain⟨da,g8,g9⟩:=aT g7
  obtain⟨ad,vs,mY,rfl,rfl,hF,hH,ol⟩:=ow.lst_inv
  have hA:H2 ad=some (.lst vs):=x2.hh _ _ hH
  have hp:Pr (Al X.K ct F2 H2 0) ds vs:=ol.pr λ_ _ _ _ q=>q.1.mono x2.ff
  obtain⟨va,Vu,Lx⟩:=hp.atI g8
  refine⟨ad,vs,zi,va,rfl,lj.int,fm.of hA,Vu,qt F0 B F2 H2 ρ σ d2 _ (rs.ext x2) g6 λvy F3 H3 x3 ly=>?_⟩
  have lG:=x2.trans x3
  match da,d2,g9,Lx,ly with
  |.int ia,.int ib,g9,Lx,ly=>
   dsimp only at g9
   obtain⟨nS,Va,Vb⟩:=aT g9
   cases Vb
   obtain⟨jn,Vc,Vd⟩:=aT Va
   cases Vd
   have Vl:H3 ad=some (.lst vs):=x3.hh _ _ hA
   have fA:F3 ad=none:=lG.nf ad _ hH hF
   have e0:=ol.nil0
   subst e0
   refine⟨ia,ib,Lx.int,ly.int,ad,vs,zi,jn,rfl,lj.int,Vl,by rw[←ol.length];exact Vc,?_⟩
   refine z σ F3 _ (rs.change hm lG hσ b1 dj cf put aa fA (.inr (.lst fA yx (OwL.set0 ⟨.int _,rfl⟩ (λ_ _ _ q=>q.2) jn (ol.mono λ_ _ _ _ q=>⟨q.1.mono lG.ff,q.2⟩)))) (fn:=[ad]) (by simp) ?_)
   intro a ha
   rw[ax]at ha
   subst ha
   exact .inl aa
structure Ic (K:ae)(C:ai):Prop where
 cl:kE K C
 ha:aB K (.ref C) "__class__"=some (some (.builtin "object.__class__"))
 hn:dY K (.builtin "object.__class__") "__get__"=some (some (.builtin "getset_descriptor.__get__"))
 ht:li K (.builtin "object.__class__")=some true
 hm:fk K C (.type "object")=some true
def sZ (all sub:List Nat):D->Option D
 |.obj c _ _=>if all.contains c=true then some (.bl (sub.contains c))else none
 |_=>none
theorem Sw {C:ai}{x:aR}{all sub:List Nat}{pp p2:cW}(hI:∀c∈all,Ic X.K (ct c)/\bP X.K (.ref (ct c)) (.ref C)=some (sub.contains c))(hm:X.mg "isinstance"=none)(oW:X.mg x=some (.ref C))(he:XE X ct ms n e f)(hg:Gl X "isinstance":=by rfl)(oz:Gl X x:=by rfl)(hd2:(x==("__debug__":aR))=false:=by decide)
  (EU:ao [e,.Name x p2] X.env=(false,bF e X.env)::ao [.Name x p2] X.env:=by rfl) (ni:ao [.Name x p2] X.env=(false,bF (.Name x p2) X.env)::ao [] X.env:=by rfl) (iy:(cy pos (ao [.Name x p2] X.env)).any (·.1)=false:=by rfl) :
  XE X ct ms k (.Call (.Name "isinstance" pp) [e,.Name x p2] [] pos) (e1 (sZ all sub) f):=by
 obtain⟨t,pt,qt⟩:=he
 refine⟨_,Jg zlm hg hm Qz (v4 pt (v4 (Sa (v:=.ref C) oz oW rfl hd2) tP ni) EU) (by decide) (by decide) EU iy,λF0 B F H ρ σ d Q rs e w=>?_⟩
 obtain⟨d1,h1,h2⟩:=aT e
 refine qt F0 B F H ρ σ d1 _ rs h1 λv F' H' x l=>?_
 cases d1 with
 |obj c ns ds=>
  unfold sZ at h2
  dsimp only at h2
  by_cases hc:all.contains c=true
  ·rw[if_pos hc]at h2
   cases h2
   obtain⟨a,dx,vs,rfl,ha,_⟩:=l.obj x.fh
   obtain⟨ic,Wi⟩:=hI c (by simpa using hc)
   exact⟨_,C,_,_,rfl,.ins ha ic.cl ic.ha ic.hn ic.ht ic.hm,Wi,w _ F' H' x (Al.of (.bl _))⟩
  ·rw[if_neg hc]at h2;cases h2
 |_=>cases h2
end
end L3
namespace L3
open PySem PySem.Spec L2
section
variable {K:ae}{ct:Nat->ai}{n m k:Nat}
def xH (i:Int):aR:=((toString i:String):aR)
def rO:List D->Option D
 |[.int i]=>if i.natAbs.log2<1920 then some (.str (xH i))else none
 |_=>none
theorem zr1:t4 K ct [n] k (λxs H Q=>∃i,xs=[.int i]/\i.natAbs.log2<1920/\Q (.str (toString i)) H) rO:=by
 intro F H vs ds d Q s l e w
 cases l with
 |cons h t=>
  cases t
  rename_i d1 v
  cases d1 with
  |int i=>
   unfold rO at e
   dsimp only at e
   by_cases hz:i.natAbs.log2<1920
   ·rw[if_pos hz]at e
    cases e
    exact⟨i,by rw[h.int],hz,w _ F H (.refl s) (Al.of (.str _))⟩
   ·rw[if_neg hz]at e;cases e
  |_=>cases e
end
theorem zon {i:Int}(h:Sz 1900 i):rO [.int i]=some (.str (xH i)):=by
 unfold rO
 dsimp only
 rw[if_pos]
 by_cases h0:i.natAbs=0
 ·rw[h0];decide
 ·rw[mm h0]
  exact bn h (dz (by decide) (by decide))
theorem zr2 {i:Int}(h:Sz 1900 i):(xH i).length<=1921:=by
 refine PyProof.Rows.int_text_len_1921 ?_
 by_cases h0:i.natAbs=0
 ·rw[h0];decide
 ·rw[mm h0]
  exact bn h (dz (by decide) (by decide))
end L3
namespace PySem
section
variable {prog:bx}{w:bY}{A:bT}{R:Result->ak->Prop}{I:ai}{fp wr:List ai}{n:Nat}{P:Nat->af->Prop}{St:Nat->aX->Prop}{kw:List (aR×af)}
end
section
variable {prog:bx}{w:bY}{A:bT}{E:af->ak->Prop}{s:ak}
end
end PySem
namespace L3
open PySem PySem.Spec L2
section
variable {X:Cx}{ct:Nat->ai}{ms:List Mo}{e b:Expr}{f g:EF}{n m k:Nat}
end
end L3
namespace L3
open PySem PySem.Spec L2
open PyProof.Rows hiding St
section
variable {X:Cx}{ct:Nat->ai}{ms:List Mo}{rk n m k:Nat}{a b c e o:Expr}{f g h:EF}{pos:cW}
def AO (K:ae):V->List V->Hp->VK->Prop:=λx vs H Q=>∃p ys y j,x=.ref p/\vs=[y]/\fm K H p ys/\iA y=true/\ys.all iA=true/\ys.findIdx? (λz=>rz z y)=some j/\Q (.int (j:Nat)) H
theorem Sx:∀{xs:List V} {us:List af} {x:V},bX xs us->xs.all iA=true->us.map (ox x)=xs.map λy=>rz y x
 |_,_,_,.nil,_=>rfl
 |y::xs,u::us,x,.cons r t,f=>by
  rw[dL,bK]at f
  rw[aM,aM,N5 r f.1,Sx t f.2]
theorem zoo:On X "list.index" (AO X.K):=by
 intro aj s σ H x vs v us Q I rx rv h
 obtain⟨p,ys,y,j,rfl,rfl,hq,fy,fs,hj,q⟩:=h
 cases rx
 obtain⟨u,rfl,ru⟩:=rv.one
 obtain⟨ce,r,pl,hz⟩:=I.list hq
 obtain⟨⟨cls,dd,data,sl⟩,ho,hc,n,hd⟩:=pl.isList
 simp only at hc hd
 subst hc hd
 have hm:=Sx (x:=y) r fs
 have d9:=r.length
 obtain⟨j1,j2,j3⟩:=List.findIdx?_eq_some_iff_getElem.mp hj
 have O9:∀i (hi:i<ce.length),ox y ce[i]=rz (ys[i]'(by omega)) y:=λi hi=>by
  have:=congrArg (λl=>l[i]?) hm
  simp only[aQ]at this
  rw[bG hi,bG (by omega)]at this
  simpa using this
 have hzl:ys.length<=16777216:=hz
 refine lT PySem.F.slot_list_index ⟨_,ho,rfl⟩ PySem.F.entry_list_index (PySem.F.args_list_index_2 _ _)
  (SeqAt.list_indexAt p ce.toArray n dd sl u (ox y) j (by simp;omega) (by omega) ?_ ?_) ⟨ho,λw hw=>BB ru fy r fs w (by simpa using hw),.int (j:Nat),H,I.tok _,⟨_,rfl⟩,q⟩
 ·simp only[pI];rw[O9 j (by omega)];exact j2
 ·intro i hi ie
  simp only[pI]
  rw[O9 i (by simpa using hi)]
  simpa using j3 i ie
def sY:D->D->Option D
 |.lst ds,x=>if x.sc=true/\ds.all D.sc=true then(ds.findIdx? λy=>t7 y x).bind λj=>some (.int (j:Nat))else none
 |_,_=>none
theorem S8 {x:D}(hx:x.sc=true):∀{ds:List D},ds.all D.sc=true->(ds.map D.v).findIdx? (λz=>rz z x.v)=ds.findIdx? λy=>t7 y x
 |[],_=>rfl
 |d::ds,h=>by
  rw[dL,bK]at h
  rw[aM,ke,ke,Tt h.1 hx,S8 hx h.2]
theorem zop {dB dP:cW}(ho:XE X ct ms n o f)(he:XE X ct ms m e g)(mH:ao [e] X.env=(false,bF e X.env)::ao [] X.env:=by rfl)
  (mD:er o "index" X.env (bF o X.env)=bF o X.env:=by rfl)
  (pV:((cy dP (ao [e] X.env)).all (λx=>!x.1)&&(eU dP (dh [] X.env)).all (λx=>x.1.isSome)
   && decide ([e].length+([]:List fS).length+(if([]:List fS).isEmpty then 0 else 1)<30))=true:=by rfl)
  (mF:(dB.endLine==dP.line)=true:=by rfl) (jW:(cy dP (ao [] X.env)).any (·.1)=false:=by rfl) :
  XE X ct ms k (.Call (.Attribute o "index" dB) [e] [] dP) (e2 sY f g):=by
 obtain⟨ta,pa,qa⟩:=ho
 obtain⟨tb,pb,qb⟩:=he
 refine⟨_,JZ PySem.F.plainAttrs_list PySem.F.slot_list_index PySem.F.type_list_index zoo pa (v4 pb tP mH) mD pV mF mH jW,λF0 B F H ρ σ d Q rs e w=>?_⟩
 obtain⟨d1,d2,h1,h2,h3⟩:=dD e
 refine qa F0 B F H ρ σ d1 _ rs h1 λv1 F1 H1 x1 l1=>?_
 cases d1 with
 |lst ds=>
  unfold sY at h3
  dsimp only at h3
  by_cases hz:d2.sc=true/\ds.all D.sc=true
  ·rw[if_pos hz]at h3
   obtain⟨j,hj,h4⟩:=aT h3
   cases h4
   obtain⟨p,vs,rfl,hp,V7⟩:=l1.lst x1.fh
   refine⟨.inl ⟨rfl,_,hp⟩,qb F0 B F1 H1 ρ σ d2 _ (rs.ext x1) h2 λv2 F2 H2 x2 l2=>?_⟩
   have hv:=V7.vs hz.2
   subst hv
   have hx:=Al.v l2 hz.1
   subst hx
   exact⟨p,_,_,j,rfl,rfl,x2.hh.seq hp,D.flat hz.1,Ji hz.2,by rw[S8 hz.1 hz.2];exact hj,w _ F2 H2 (x1.trans x2) (Al.of (.int _))⟩
  ·rw[if_neg hz]at h3;cases h3
 |_=>cases h3
theorem NT:∀{xs:List V} {us:List af},xs.length=us.length->(∀(i:Nat) (x:V) (u:af),xs[i]?=some x->us[i]?=some u->L2.RelV x u)->bX xs us
 |[],[],_,_=>.nil
 |[],_::_,h,_=>by cases h
 |_::_,[],h,_=>by cases h
 |x::xs,u::us,h,r=>.cons (r 0 x u rfl rfl) (NT (by simpa using h) λi y w hy hw=>r (i+1) y w (by simpa using hy) (by simpa using hw))
def xO:List V->Hp->VK->Prop:=λvs H Q=>∃j:Int,vs=[.int j]/\0<=j/\j<=16777216/\∀l,H l=none->Q (.ref l) (upd H l (.lst ((eY 0 j.toNat).map D.v)))
def nG:List D->Option D
 |[.int j]=>if 0<=j/\j<=16777216 then some (.lst (eY 0 j.toNat))else none
 |_=>none
theorem zoq {lo:Int}{n i:Nat}{d:D}(h:(eY lo n)[i]?=some d):d=.int (lo+(i:Int)):=by
 unfold eY at h
 rw[aQ]at h
 obtain⟨t,ht,rfl⟩:=cU.mp h
 have:=aL.mp ht
 obtain⟨h1,h2⟩:=this
 rw[fH]at h2
 rw[h2]
theorem zr3 {ta:TA}{p1 p2 ir:cW}(hc:X.calm=true)(hg:Gl X "list")(hm:X.mg "list"=none)(oz:Gl X "range")(oW:X.mg "range"=none)(ha:PA X [a] ta)(hs:ao [a] X.env=[(false,bF a X.env)]:=by rfl)
    (ni:ao [.Call (.Name "range" p2) [a] [] ir] X.env=[(false,bF (.Call (.Name "range" p2) [a] [] ir) X.env)]:=by rfl) :
    PE X (.Call (.Name "list" p1) [.Call (.Name "range" p2) [a] [] ir] [] pos) (ME xO ta):=by
  intro aj s σ H Q I h
  refine cS (tO I hg hm BL ?_ (by decide) (by decide))
  refine bO ?_ ni rfl
  rw[ni]
  show bi _ _ (spliced ((false,bF (.Call (.Name "range" p2) [a] [] ir) X.env)::[])) _ _ s
  refine Calls.spliced_cons ?_
  refine cS (tO I oz oW boot_range ?_ (by decide) (by decide))
  refine bO (di (ha ir aj s σ H _ I h) λus s1 ⟨vs,H1,I1,r1,q1⟩=>?_) hs rfl
  obtain⟨j,rfl,h1,h2,q⟩:=q1
  obtain⟨u,rfl,t,rfl⟩:=mO r1
  refine call_range_1 (Calls.spliced_nil ?_)
  have I2:L2.Inv X aj σ H1 { s1 with heap:=s1.heap.push { cls:=.type "range",data:=.fields #[.int 0 s1.toks,.int j t,.int 1 (s1.toks+1)] },toks:=s1.toks+1+1 }:=I1.kept λb o e=>aD _ e
  have hsz:fE.Range.rangeSize 0 j 1=(j.toNat:Int):=by rw[rangeSize_one];split<;>omega
  refine call_list_range (n:=j.toNat) (I2.ok.hd hc) (IsRange.new ..) (small_one (by omega) (by omega) (by omega) (by omega)) hsz (by omega) λh' tk jK c' kp hS pU=>?_
  have hv:bX ((eY 0 j.toNat).map D.v) jK.toList:=by
    obtain⟨e1,e2⟩:=pU
    refine NT (by simp[eY,e1]) λi x u hx hu=>?_
    obtain⟨t,rfl⟩:=e2 i u (by simpa using hu)
    rw[aQ]at hx
    obtain⟨d,hd,rfl⟩:=cU.mp hx
    have hd:=zoq hd
    subst hd
    exact⟨t,by rw[jM]⟩
  have hl:((eY 0 j.toNat).map D.v).length<=sizeLine:=by rw[cH];simp[eY];omega
  exact⟨.ref _,_,I2.laid (t':=tk) kp (aF _) (show dR X.prog X.w _ h' _ (.lst _)from⟨hl,jK.toList,c',hv,hS⟩),rfl,q _ (I2.hok.fresh (aF _))⟩
theorem zr4 (lo:Int)(n:Nat):(eY lo n).all D.sc=true:=by
 rw[iE]
 intro d hd
 unfold eY at hd
 obtain⟨t,_,rfl⟩:=bz.mp hd
 rfl
theorem G0 {K:ae}{F G:Hp}:∀{ds:List D},ds.all D.sc=true->Pr (Al K ct F G 0) ds (ds.map D.v)
 |[],_=>.nil
 |d::ds,h=>by
  rw[dL,bK]at h
  refine .cons ?_ (G0 h.2)
  cases d with
  |non=>exact Al.of .non
  |bl b=>exact Al.of (.bl b)
  |int b=>exact Al.of (.int b)
  |str b=>exact Al.of (.str b)
  |_=>cases h.1
theorem zor {K:ae}:sJ K ct [n] 1 xO nG:=by
 intro F H vs ds d Q s l e w
 cases l with
 |cons h t=>
  cases t
  rename_i d1 v
  cases d1 with
  |int j=>
   unfold nG at e
   dsimp only at e
   by_cases hz:0<=j/\j<=16777216
   ·rw[if_pos hz]at e
    cases e
    exact⟨j,by rw[h.int],hz.1,hz.2,xT s (G0 (zr4 0 j.toNat)) w⟩
   ·rw[if_neg hz]at e;cases e
  |_=>cases e
theorem zr5 {fs:Env->Option (List D)}{p1 p2 ir:cW}(hc:X.calm=true)(hg:Gl X "list")(hm:X.mg "list"=none)(oz:Gl X "range")(oW:X.mg "range"=none)(ha:XA X ct ms [a] [n] fs)(hs:ao [a] X.env=[(false,bF a X.env)]:=by rfl)
  (ni:ao [.Call (.Name "range" p2) [a] [] ir] X.env=[(false,bF (.Call (.Name "range" p2) [a] [] ir) X.env)]:=by rfl) :
  XO X ct ms 1 (.Call (.Name "list" p1) [.Call (.Name "range" p2) [a] [] ir] [] pos) (eN nG fs):=by
 obtain⟨t,pt,_,qt⟩:=ha
 refine⟨_,zr3 hc hg hm oz oW pt hs ni,λF0 B F H ρ σ r Q rs e w=>?_⟩
 obtain⟨ds,h1,h2⟩:=aT e
 exact qt F0 B F H ρ σ ds _ rs h1 λvs F1 H1 x1 l=>zor F1 H1 vs ds r Q x1.fh l h2 λv F2 H2 fp x2 l2 nd hf=>w v F2 H2 fp (x1.trans x2) l2 nd λz hz=>x1.hh.free (hf z hz)
def nY (i j:Nat)(f:EF):SF:=λρ=>(eV i ρ).bind λo=>(eV j ρ).bind λq=>(f ρ).bind λz=>match o,q,z with
 |.lst ds,.lst es,.int y=>if ds.length<16777216/\es.length<=16777216 then(ixN es.length y).bind λt=>es[t]?.bind λd=>some (.nx ((ρ.set j (some (.lst (es.eraseIdx t)))).set i (some (.lst (ds++[d])))))else none
 |_,_,_=>none
theorem Pr.erase {R:D->V->Prop}:∀{ds:List D} {vs:List V} (i:Nat),Pr R ds vs->Pr R (ds.eraseIdx i) (vs.eraseIdx i)
 |_,_,_,.nil=>.nil
 |_,_,0,.cons h t=>t
 |_,_,i+1,.cons h t=>.cons h (t.erase i)
theorem zmd (i j:Nat){x y:aR}{p1 p2 dB dP my jN:cW}(hm:ms[i]?=some (.ow 1))(oW:ms[j]?=some (.ow 1))(si:i≠j)(he:XE X ct ms n e f)
  (hN:X.N[i]?=some x:=by rfl) (hv:ou X.env.scope x:=by first|exact Or.inl rfl|exact Or.inr (Or.inl rfl)|exact Or.inr (Or.inr rfl)) (hd:(x==("__debug__":aR))=false:=by decide) (iL:(x==("__classdict__":aR))=false:=by decide)
  (wU:X.N[j]?=some y:=by rfl) (L8:ou X.env.scope y:=by first|exact Or.inl rfl|exact Or.inr (Or.inl rfl)|exact Or.inr (Or.inr rfl)) (hd2:(y==("__debug__":aR))=false:=by decide) (Ai:(y==("__classdict__":aR))=false:=by decide)
  (mH:ao [e] X.env=(false,bF e X.env)::ao [] X.env:=by rfl)
  (Ah:er (.Name y p2) "pop" X.env (bF (.Name y p2) X.env)=bF (.Name y p2) X.env:=by rfl)
  (Ex:((cy jN (ao [e] X.env)).all (λx=>!x.1)&&(eU jN (dh [] X.env)).all (λx=>x.1.isSome)
   && decide ([e].length+([]:List fS).length+(if([]:List fS).isEmpty then 0 else 1)<30))=true:=by rfl)
  (An:(my.endLine==jN.line)=true:=by rfl) (uY:(cy jN (ao [] X.env)).any (·.1)=false:=by rfl)
  (EX:ao [.Call (.Attribute (.Name y p2) "pop" my) [e] [] jN] X.env=(false,bF (.Call (.Attribute (.Name y p2) "pop" my) [e] [] jN) X.env)::ao [] X.env:=by rfl)
  (mD:er (.Name x p1) "append" X.env (bF (.Name x p1) X.env)=bF (.Name x p1) X.env:=by rfl)
  (pV:((cy dP (ao [.Call (.Attribute (.Name y p2) "pop" my) [e] [] jN] X.env)).all (λx=>!x.1)&&(eU dP (dh [] X.env)).all (λx=>x.1.isSome)
   && decide ([Expr.Call (.Attribute (.Name y p2) "pop" my) [e] [] jN].length+([]:List fS).length+(if([]:List fS).isEmpty then 0 else 1)<30))=true:=by rfl)
  (mF:(dB.endLine==dP.line)=true:=by rfl) (jW:(cy dP (ao [] X.env)).any (·.1)=false:=by rfl)
  (vA:dW (.Call (.Attribute (.Name x p1) "append" dB) [.Call (.Attribute (.Name y p2) "pop" my) [e] [] jN] [] dP) none pos.line X.env=pure false:=by rfl) :
  XS X ct ms rk (.Expr (.Call (.Attribute (.Name x p1) "append" dB) [.Call (.Attribute (.Name y p2) "pop" my) [e] [] jN] [] dP) pos) (nY i j f):=by
 obtain⟨t,pt,qt⟩:=he
 refine⟨_,NK (JZ PySem.F.plainAttrs_list PySem.F.slot_list_append PySem.F.type_list_append Jc (jo hN hv hd iL)
  (v4 (JZ PySem.F.plainAttrs_list PySem.F.slot_list_pop PySem.F.type_list_pop znw (jo wU L8 hd2 Ai) (v4 pt tP mH) Ah Ex An mH uY) tP EX) mD pV mF EX jW) vA,λF0 B F H ρ σ o E rs e z=>?_⟩
 obtain⟨d1,d2,h1,h2,h3⟩:=dD e
 obtain⟨d3,h4,h5⟩:=aT h3
 cases d1 with
 |lst ds=>
  cases d2 with
  |lst es=>
   cases d3 with
   |int w=>
    dsimp only at h5
    by_cases hz:ds.length<16777216/\es.length<=16777216
    ·rw[if_pos hz]at h5
     obtain⟨t2,h6,h7⟩:=aT h5
     obtain⟨d,h8,h9⟩:=aT h7
     cases h9
     obtain⟨g1,gr,gn1,gb1,gdj,Ve,gcf,Vg⟩:=rs.put (F':=F) (H':=H) hm
     obtain⟨v,hσ,ow⟩:=Ve _ (yf h1)
     obtain⟨ad,vs,mY,rfl,rfl,hF,hH,ol⟩:=ow.lst_inv
     obtain⟨f1,fr,n1,b1,dj,i4,cf,put⟩:=rs.put (F':=F) (H':=H) oW
     obtain⟨v2,t9,Gg⟩:=i4 _ (yf h2)
     obtain⟨bd,us,O0,rfl,rfl,Lu,Ag,AJ⟩:=Gg.lst_inv
     have z2:=OwL.nil0 AJ
     subst z2
     refine⟨_,hσ,.inl ⟨rfl,_,fm.of hH⟩,_,t9,.inl ⟨rfl,_,fm.of Ag⟩,qt F0 B F H ρ σ _ _ rs h4 λv3 F' H' x1 l3=>?_⟩
     have V6:=l3.int
     subst V6
     obtain⟨s1,s2,s3,s4⟩:=NL h6
     have Lq:H' bd=some (.lst us):=x1.hh _ _ Ag
     have fB:F' bd=none:=x1.nf bd _ Ag Lu
     have lu:=AJ.length
     have Qa:Pr (λd v=>Dt X.K ct F' d v) es us:=AJ.pr λd v f _ q=>q.1.mono x1.ff
     obtain⟨u,hu,ru⟩:=Qa.get' h8
     refine⟨bd,us,w,t2,u,rfl,rfl,Lq,by omega,by omega,by rw[←lu];exact s1,hu,?_⟩
     have jL:=rs.change oW x1 t9 b1 dj cf put aa fB (d':=.lst (es.eraseIdx t2)) (o:=.lst (us.eraseIdx t2)) (.inr (.lst fB yx (OwL.ofPr ((Qa.erase t2).mono λ_ _ q=>Ow.zero q)))) (fn:=[bd]) (by simp) (λa ha=>by
      rw[ax]at ha;subst ha;exact .inl aa)
     obtain⟨g1',gr',Vf,Ll,Ln,Lo,Lm,En⟩:=jL.put (F':=F') (H':=upd H' bd (.lst (us.eraseIdx t2))) hm
     have kr:(ρ.set j (some (D.lst (es.eraseIdx t2))))[i]? = ρ[i]?:=cO (λe=>si e.symm)
     obtain⟨v',AC,IM⟩:=Lo (.lst ds) (by rw[kr];exact yf h1)
     rw[hσ]at AC
     cases AC
     obtain⟨ad',IW,U7,e1,rfl,O4,Vo,Ge⟩:=IM.lst_inv
     cases e1
     have zn:=OwL.nil0 Ge
     subst zn
     refine⟨ad,IW,u,rfl,rfl,Vo,by rw[←Ge.length,cH];exact hz.1,?_⟩
     refine z σ F' _ (jL.change hm (.refl jL.fh) hσ Ll Ln Lm En aa O4 (.inr (.lst O4 yx ((Ge.mono λ_ _ f' hi o'=>?_).append (.cons (f:=[]) (Ow.zero ru) .nil)))) (fn:=[ad]) (by simp) λa ha=>by
      rw[ax]at ha;subst ha;exact .inl aa)
     exact o'
    ·rw[if_neg hz]at h5;cases h5
   |_=>cases h5
  |_=>cases h5
 |_=>cases h5
end
end L3
namespace L2
open PySem PyProof.Rows
theorem zos {X:Cx}{aj:List (ai×dO)}{σ:St}{H:Hp}{s:ak}{QV:VK}{use:Option (af->oI Unit)}{Q0:af->ak->Prop}{jG iter tg:Expr}{ifs:List Expr}{scope:fW}{pos ir:cW}{N:List aR}{own:Nat}{cap:List Nat}{wi:TI}{g:TG}{tt:TT}{te:TE}(B:kj X scope N own cap)(hc:X.calm=true)(hi:PI X tg iter wi)
    (kg:ga own g)
    (hg:∀cl C fp s₀ H₀,PG (iD X scope cl N C fp s₀ H₀) tg g) (ht:∀cl C fp s₀ H₀,wN (iD X scope cl N C fp s₀ H₀) ifs tt) (he:∀cl C fp s₀ H₀,PE (iD X scope cl N C fp s₀ H₀) jG te)
    (hs:∀x,dJ iter X.env x=pure x) (I:Inv X aj σ H s) (h:qO wi own cap g tt te σ H QV)
    (fin:∀(D C:ai) (H5:Hp) (s6:ak) (r:Flow),QV (.ref D) H5->Inv X aj σ H5 s6->kl X aj H5 C->(∃m,s6.heap.Ns C m)->pC (ba X.prog X.w) X.A X.xe use Q0 (.ref D) C (.ok r) s6) :
    bi (ba X.prog X.w) X.A (comprehension (.ListComp jG [⟨tg,iter,ifs,0⟩] scope pos) scope X.env ir (newList []) false (bF iter X.env) use) Q0 X.xe s:=by
  obtain⟨cl,Aj,c1,c2,_⟩:=IX (env:=X.env) scope.names [] (λx hx hf=>I.ok.has x.1 (B.free x hx hf)) (λy c e=>by simp at e)
  have sR:pA scope X.env=pure cl:=by
    have e:pA scope X.env=(forIn scope.names ([]:List (aR×ai)) (λ(x:aR×bq) (cs:List (aR×ai))=>if(x.2==bq.free)=true then do let a ← cellOf X.env x.1;pure (ForInStep.yield ((x.1,a)::cs))else pure (ForInStep.yield cs)) >>= pure:oI (List (aR×ai))):=rfl
    rw[e,Aj]
    rfl
  refine wpAny_comprehension_free (use:=use) rfl hs sR B.kind B.locs (di (hi aj s σ H _ I h) λv s1 h1=>di h1 λIJ s2 h2=>?_)
  obtain⟨it,fp,tn,J,H2,e,I2,T,uA,f2,W0⟩:=h2
  subst e
  obtain⟨W,⟨m0,w0⟩,cj⟩:=W0 s2.heap.objs.size (I2.hok.fresh (aF _))
  refine mX ?_
  have I3:Inv X aj σ (upd H2 s2.heap.objs.size (.lst [])) { s2 with heap:=s2.heap.push { cls:=.type "list",data:=.seq ([]:List af).toArray } }:=I2.lnew .nil (cK _)
  generalize EV:({ s2 with heap:=s2.heap.push { cls:=.type "list",data:=.seq ([]:List af).toArray } }:ak)=s3 at I3
  have k3:∀b o,s2.heap.get? b=some o->s3.heap.get? b=some o:=λb o e=>by rw[←EV];exact aD _ e
  have z3:s3.heap.objs.size=s2.heap.objs.size+1:=by rw[←EV];exact fQ _ _
  have pW:∀b∈fp,b<s2.heap.objs.size:=λb hb=>by
    obtain⟨o,e,_⟩:=T.obj _ _ uA b hb
    exact aP e
  have kr:∀b∈fp,b≠s2.heap.objs.size:=λb hb=>br (pW b hb)
  have f3:∀b∈fp,kl X aj (upd H2 s2.heap.objs.size (.lst [])) b:=λb hb=>⟨by rw[yo (kr b hb)];exact(f2 b hb).1,(f2 b hb).2⟩
  have IS:tn 0 s3.heap:=T.keep _ _ _ uA λb _ o e=>k3 b o e
  show bi _ _ (kC scope X.env.globals cl [] X.env.qual none .none (some X.env)) _ _ _
  refine QI λh₁ kk Ap Am=>?_
  have IB:=Rn (t':=s3.toks) B I3 c1 c2 f3 (λb hb=>by rw[z3];exact eS (pW b hb)) Ap kk Am
  generalize cellsFrom (s3.heap.objs.size+1) scope.names cl=cl at IB ⊢
  generalize L6:({ s3 with heap:=h₁,toks:=s3.toks }:ak)=s4 at IB
  have Hq:tn 0 s4.heap:=T.keep _ _ _ IS λb _ o e=>by rw[←L6];exact kk b o e
  show gx (ba X.prog X.w) X.A (.compStart (.ListComp jG [⟨tg,iter,ifs,0⟩] scope pos) 0 (.ref it) (.ref s2.heap.objs.size) (pB scope cl s3.heap.objs.size X.env))
      (pC (ba X.prog X.w) X.A X.xe use Q0 (.ref s2.heap.objs.size) s3.heap.objs.size) s4
  have mN:∀{H':Hp},(∀b∈fp,H' b=none)->∀b∈fp,kl (iD X scope cl N s3.heap.objs.size fp s3 (upd H2 s2.heap.objs.size (.lst []))) [] H' b:=λhn b hb=>
    ⟨hn b hb,br (by show b<s3.heap.objs.size;rw[z3];exact eS (pW b hb)),IB.ok.exfs b hb,.inl hb,λx c e=>(IB.ok.exf b hb).2 x c e,λp hp=>(nomatch hp)⟩
  have loop:gx (ba X.prog X.w) X.A (.compLoop (.ListComp jG [⟨tg,iter,ifs,0⟩] scope pos) 0 (.ref it) (.ref s2.heap.objs.size) (pB scope cl s3.heap.objs.size X.env))
      (pC (ba X.prog X.w) X.A X.xe use Q0 (.ref s2.heap.objs.size) s3.heap.objs.size) s4:=by
    refine QH (λn s'=>∃i ys H',Inv (iD X scope cl N s3.heap.objs.size fp s3 (upd H2 s2.heap.objs.size (.lst []))) [] (aA own none++fZ σ cap) H' s'/\tn i s'.heap/\(∀b∈fp,H' b=none)/\W i n ys H') ?_ m0
      ⟨0,[],_,IB,Hq,λb hb=>(f3 b hb).1,w0⟩
    rintro n s5 ⟨i,ys,H5,I5,vO,Ac,w5⟩
    obtain⟨hD,Bp⟩:=cj i n ys H5 w5
    rcases Bp with⟨stop,qn⟩|⟨go,ie,step⟩
    · refine di (T.done (iD X scope cl N s3.heap.objs.size fp s3 (upd H2 s2.heap.objs.size (.lst []))) rfl rfl rfl hc i [] s5 _ H5 (λ_ _=>False) I5 (mN Ac) vO stop) λr s6 ⟨hr,I6⟩=>?_
      subst hr
      obtain⟨m,hm,_⟩:=id I6.loc
      refine fin s2.heap.objs.size s3.heap.objs.size H5 s6 _ qn ?_ (I3.fpOk (aF _) I6.free) ⟨m,hm⟩
      have sb:gM s3.heap.objs.size s6.heap s6.heap:=⟨rfl,λ_ _=>rfl⟩
      have U:=I6.base
      have nC:∀b o,s3.heap.get? b=some o->b≠s3.heap.objs.size:=λb o e=>br (aP e)
      have nT:∀b o,H5 b=some o->b≠s3.heap.objs.size:=λb o e z=>by
        have q:H5 s3.heap.objs.size=none:=I6.free
        rw[z,q]at e
        cases e
      refine I3.call' (ch:=fp) I6.os ?_ (λa o e=>(I6.hok a o e).stay (λb u hb q=>sb.extBut b u ?_ q) (λ_ q=>q) λ_ _ q=>q) I6.bare (λb hb=>⟨(f3 b hb).2.2.2.1,(f3 b hb).2.1,(f3 b hb).2.2.2.2.1,(f3 b hb).2.2.2.2.2⟩)
      · exact{
          keep:=λb o e z hb he=>sb.extBut b o (nC b o e) (U.keep b o e z hb he)
          slot:=λb o e z hb he=>by
            obtain⟨sl,q⟩:=U.slot b o e z hb he
            exact⟨sl,sb.extBut b _ (nC b o e) q⟩
          free:=U.free
          there:=λb o e he=>by
            obtain⟨o',q⟩:=U.there b o e he
            exact⟨o',sb.extBut b o' (nC b o e) q⟩
          tups:=U.tups
          frzs:=U.frzs
          tbls:=U.tbls }
      · rcases hb with rfl|hb
        · exact nT _ _ e
        · exact nT _ _ hb
    · refine di (T.item (iD X scope cl N s3.heap.objs.size fp s3 (upd H2 s2.heap.objs.size (.lst []))) rfl rfl rfl hc i [] s5 _ H5 (λ_ _=>False) I5 (mN Ac) vO go) λr s6 ⟨u,hr,h6⟩=>?_
      subst hr
      refine di h6 λ_ s7 ⟨x,H7,I7,r7,y7,AT,Lh⟩=>?_
      have J4:=I7.pinned (mN Lh) (T.obj _ _ AT)
      refine di (hg cl s3.heap.objs.size fp s3 _ _ s7 _ H7 x u _ J4 r7 (kg _ _ _ _ (step x H7 y7))) λ_ s8 ⟨σ8,H8,I8,q8,l8,p8⟩=>?_
      have back:∀{H9:Hp} {s9:ak},Inv (iD X scope cl N s3.heap.objs.size fp s3 (upd H2 s2.heap.objs.size (.lst []))) ([]++kR fp s7.heap) σ8 H9 s9 ->
          Inv (iD X scope cl N s3.heap.objs.size fp s3 (upd H2 s2.heap.objs.size (.lst []))) [] (aA own none++fZ σ cap) H9 s9/\tn (i+1) s9.heap/\∀b∈fp,H9 b=none:=λ{H9 s9} I9=>by
        refine⟨(I9.unpinned).weak l8.symm (λj v e=>?_),T.keep _ _ _ AT λb hb o e=>(I9.pin (b,o) (aw _ (aw _ (jk hb e)))).1,λb hb=>?_⟩
        · by_cases hj:j<own
          · rw[cu (by rw[de];exact hj),fL,if_pos hj]at e
            cases e
          · rw[p8 j (by omega)];exact e
        · obtain⟨o,e,d⟩:=T.obj _ _ AT b hb
          exact(I9.pin (b,o) (aw _ (aw _ (jk hb e)))).2.1
      refine di (ht cl s3.heap.objs.size fp s3 _ _ s8 σ8 H8 _ I8 q8) λok s9 ⟨H9,I9,q9⟩=>?_
      cases ok with
      |false=>
        rw[if_neg aU]
        rw[if_neg aU]at q9
        obtain⟨m',Ao,w'⟩:=q9
        obtain⟨b1,b2,b3⟩:=back I9
        exact⟨m',Ao,i+1,ys,H9,b1,b2,b3,w'⟩
      |true=>
        rw[if_pos rfl]
        rw[if_pos rfl]at q9
        refine di (he cl s3.heap.objs.size fp s3 _ _ s9 σ8 H9 _ I9 q9) λuy MA ⟨y,B4,J2,r10,Ae,m',Ao,w'⟩=>?_
        refine di (Jc _ MA σ8 B4 (.ref s2.heap.objs.size) [y] (.ref s2.heap.objs.size) [uy] (λ_ B5=>B5=upd B4 s2.heap.objs.size (.lst (ys++[y]))) J2 rfl (.cons r10 .nil) ⟨_,ys,y,rfl,rfl,Ae,ie,rfl⟩) λ_ X7 ⟨_,B5,J3,_,Ku⟩=>?_
        subst Ku
        obtain⟨b1,b2,b3⟩:=back J3
        exact⟨m',Ao,i+1,ys++[y],_,b1,b2,b3,w'⟩
  exact codeAny_compStart_list loop (T.self X.A 0 s4 _ _ Hq loop)
theorem zkk {X:Cx}{i:Nat}{x:aR}{pos' tL:cW}{jG iter tg:Expr}{ifs:List Expr}{scope:fW}{pos:cW}{N:List aR}{own:Nat}{cap:List Nat}{wi:TI}{g:TG}{tt:TT}{te:TE}(B:kj X scope N own cap)(hc:X.calm=true)(hi:PI X tg iter wi)
  (kg:ga own g)
  (hg:∀cl C fp s₀ H₀,PG (iD X scope cl N C fp s₀ H₀) tg g) (ht:∀cl C fp s₀ H₀,wN (iD X scope cl N C fp s₀ H₀) ifs tt) (he:∀cl C fp s₀ H₀,PE (iD X scope cl N C fp s₀ H₀) jG te)
  (hN:X.N.Nodup) (uX:X.N[i]?=some x) (hx:Loc X.env.scope x) (vA:dW (.ListComp jG [⟨tg,iter,ifs,0⟩] scope pos) (some (.Name x pos')) tL.line X.env=pure true)
  (hs:∀x,dJ iter X.env x=pure x:=by intro _;rfl) (hf:X.fn x=true\/X.env.scope.names.lookup x=some .local:=by first|exact .inl rfl|exact .inr rfl|assumption) :
  PS X (.Assign [.Name x pos'] (.ListComp jG [⟨tg,iter,ifs,0⟩] scope pos) tL) (AU (qO wi own cap g tt te) (qG i)):=by
 intro aj s σ H D I h
 rw[exec_Assign_Name_used _ _ _ _ vA]
 refine aO (lM (aO ?_))
 show bi _ X.A (do let _ ← comprehension (.ListComp jG [⟨tg,iter,ifs,0⟩] scope pos) scope X.env _ (newList []) false (bF iter X.env) (some (gI (.Name x pos') X.env))) _ _ s
 refine aO (dM (zos (use:=some (gI (.Name x pos') X.env)) (Q0:=λ_ s'=>∃σ' H',Inv X aj σ' H' s'/\D.nx σ' H') B hc hi kg hg ht he hs I h λDa C H5 s6 r q I6 fo hm=>?_) (λ_ s' hq=>bU (bU hq)) λ_ _ e=>e)
 show bi _ X.A (gI (.Name x pos') X.env (.ref Da)) _ _ _
 refine wpAny_assign_Name (Rb (v:=.ref Da) I6 hN uX hx rfl (λs7 I7 VZ=>?_) hf)
 obtain⟨m,hm⟩:=hm
 obtain⟨a,sb,ha⟩:=VZ
 obtain⟨f0,f1,f2,f3,f4,f5⟩:=fo
 have kr:C≠a:=by
  rcases ha with rfl|ha
  ·exact f1
  ·exactλz=>f4 x a ha z.symm
 refine⟨m,hm.sameBut sb kr,λh' Ya=>⟨_,H5,I7.turned (t':=s7.toks) (it:=C) (λb o hb e=>Ya.extBut b o hb e) f0 f1 f3 f4 f5,q⟩⟩
end L2
namespace L3
open PySem PySem.Spec L2
open PyProof.Rows hiding St
section
variable {X:Cx}{ct:Nat->ai}{ms:List Mo}{rk n m k:Nat}{a b c e o:Expr}{f g h:EF}{pos:cW}
theorem jl {om:List Mo}{jG iter tg:Expr}{ifs:List Expr}{scope:fW}{N:List aR}{own:Nat}{cap:List Nat}{fi:Env->Option (List D)}{gg:D->Env->Option Env}{p:BF}{i:Nat}{x:aR}{pos' tL:cW}
  (hm:ms[i]?=some (.ow k)) (hN:X.N.Nodup) (uX:X.N[i]?=some x) (hx:Loc X.env.scope x)
  (B:kj X scope N own cap) (hc:X.calm=true) (ho:om.length=own) (fK:∀i∈cap,i<ms.length) (hi:wQ X ct ms n tg iter fi)
  (hg:∀cl C fp s₀ H₀,uM (iD X scope cl N C fp s₀ H₀) ct (om++gQ ms cap) own n tg gg) (ht:∀cl C fp s₀ H₀,yG (iD X scope cl N C fp s₀ H₀) ct (om++gQ ms cap) ifs p) (he:∀cl C fp s₀ H₀,XO (iD X scope cl N C fp s₀ H₀) ct (om++gQ ms cap) (k-1) jG f)
  (vA:dW (.ListComp jG [⟨tg,iter,ifs,0⟩] scope pos) (some (.Name x pos')) tL.line X.env=pure true:=by rfl)
  (hs:∀x,dJ iter X.env x=pure x:=by intro _;rfl) (hf:X.fn x=true\/X.env.scope.names.lookup x=some .local:=by first|exact .inl rfl|exact .inr rfl|assumption) :
  XS X ct ms rk (.Assign [.Name x pos'] (.ListComp jG [⟨tg,iter,ifs,0⟩] scope pos) tL) (sSet i (dA fi own cap gg p f)):=by
 obtain⟨wi,g,tt,te,pi,kg,pg,pt,pe,q⟩:=RQ (k:=k-1) (pos:=pos) B hc ho fK hi hg ht he
 refine⟨_,zkk B hc pi kg pg pt pe hN uX hx vA hs hf,λF0 B F H ρ σ o E rs e w=>?_⟩
 obtain⟨d,h1,h2⟩:=aT e
 cases h2
 cases k with
 |succ k=>exact q F0 B F H ρ σ d _ rs h1 λv F' H' fp x l nd hf=>w _ F' H' (rs.set hm x l nd hf)
 |zero=>
  refine q F0 B F H ρ σ d _ rs h1 λv F' H' fp x l nd hf=>?_
  obtain⟨F2,x2,l2⟩:=l.freeze x hf
  exact w _ F2 H' (rs.set hm x2 (Ow.zero l2) bA λa z=>by cases z)
theorem Sy {i:Nat}{x:aR}{pos':cW}(hm:ms[i]?=some (.ow k))(hN:X.N[i]?=some x:=by rfl)(hv:ou X.env.scope x:=by first|exact Or.inl rfl|exact Or.inr (Or.inl rfl)|exact Or.inr (Or.inr rfl))(hd:(x==("__debug__":aR))=false:=by decide)
  (iL:(x==("__classdict__":aR))=false:=by decide):XS X ct ms 0 (.Return (some (.Name x pos')) pos) (sRet (eV i)):=by
 refine⟨_,JK (jo hN hv hd iL),λF0 B F H ρ σ o E rs e w=>?_⟩
 obtain⟨d,h1,h2⟩:=aT e
 cases h2
 obtain⟨fp,sl,nd,hb⟩:=rs.sl
 obtain⟨f1,fr,i1,i2,i3,i4,i5⟩:=sl.put hm
 obtain⟨v,E1,l⟩:=i4 d (yf h1)
 obtain⟨F',x,l2⟩:=l.freeze (⟨rs.f0,rs.bh,rs.fh,rs.nf⟩:gu F0 B F H) (λz hz=>hb z (i1 z hz))
 exact⟨v,E1,w v F' H [] x.ff x.hh x.fh x.nf (Ow.zero l2) bA λz hz=>by cases hz⟩
theorem zur (hu:X.A.units+1<fX)(ha:XE X ct ms n a f)(hb:XE X ct ms m b g)(hm:dC .In b=false):XT X ct ms (.Compare a [.In] [b] pos) (tb λρ=>(f ρ).bind λx=>(g ρ).bind λy=>(fq y x).bind λr=>some (.bl r.isSome)):=by
 obtain⟨ta,YX,pa,pb,q⟩:=ha.bin hb
 refine⟨_,S9 (zt6 hu pa pb) hm,λF0 B F H ρ σ t Q rs e w=>?_⟩
 obtain⟨d0,h0,h9⟩:=aT e
 obtain⟨d1,d2,h1,h2,h3⟩:=dD h0
 obtain⟨r,h4,h5⟩:=aT h3
 cases h5
 cases h9
 refine q F0 B F H ρ σ d1 d2 _ rs h1 h2 λx y F' H' x1 l1 l2=>?_
 obtain⟨a,o,rfl,g,_,h⟩:=JB (r:=r) x1.fh l2 l1 h4
 refine⟨a,o,rfl,g,?_⟩
 cases r with
 |none=>rw[h.none_of];exact⟨_,rfl,w F' H' x1⟩
 |some d=>obtain⟨u,rfl,Ax⟩:=h.some_of;exact⟨_,rfl,w F' H' x1⟩
theorem zmf (hu:X.A.units+1<fX)(ha:XE X ct ms n a f)(hb:XE X ct ms m b g)(hm:dC .NotIn b=false):XT X ct ms (.Compare a [.NotIn] [b] pos) (tb λρ=>(f ρ).bind λx=>(g ρ).bind λy=>(fq y x).bind λr=>some (.bl (!r.isSome))):=by
 obtain⟨ta,YX,pa,pb,q⟩:=ha.bin hb
 refine⟨_,S9 (zli hu pa pb) hm,λF0 B F H ρ σ t Q rs e w=>?_⟩
 obtain⟨d0,h0,h9⟩:=aT e
 obtain⟨d1,d2,h1,h2,h3⟩:=dD h0
 obtain⟨r,h4,h5⟩:=aT h3
 cases h5
 cases h9
 refine q F0 B F H ρ σ d1 d2 _ rs h1 h2 λx y F' H' x1 l1 l2=>?_
 obtain⟨a,o,rfl,g,_,h⟩:=JB (r:=r) x1.fh l2 l1 h4
 refine⟨a,o,rfl,g,?_⟩
 cases r with
 |none=>rw[h.none_of];exact⟨_,rfl,w F' H' x1⟩
 |some d=>obtain⟨u,rfl,Ax⟩:=h.some_of;exact⟨_,rfl,w F' H' x1⟩
end
end L3
namespace L2
open PySem PyProof.Rows
def HV (K:ae)(a:ai)(n:Nat):It :=
 ⟨λi H=>i<n/\∃xs,fm K H a xs/\xs.length=n,λi H x H'=>H'=H/\∀xs,fm K H a xs->xs[n-1-i]?=some x,λi _=>n<=i⟩
theorem zot {P:bx}{w:bY}{K:ae}{tg:Expr}(a it:ai)(n:Nat):Turn P w K tg (HV K a n) [it] it (λi h=>i<=n/\h.IsRevIter it a ((n:Int)-1-(i:Int))) where
 mem:=by simp
 obj:=λi h st b hb=>by
  have e:b=it:=by simpa using hb
  subst e
  obtain⟨_,o,e,c,d⟩:=st
  exact⟨o,e,λv z=>by rw[d]at z;cases z⟩
 keep:=λi h h' st k=>⟨st.1,st.2.at λo e=>k it (by simp) o e⟩
 item:=by
  intro X hP hw hK hc i aj s σ H E I hf st hg
  subst hP hw hK
  obtain⟨hi,xs,hq,hx⟩:=hg
  obtain⟨ce,rv,p,hz⟩:=I.list hq
  have hl:=rv.length
  have Pv:xs[n-1-i]?=some (xs[n-1-i]'(by omega)):=by simp[show n-1-i<xs.length by omega]
  obtain⟨u,hu,ru⟩:=rv.get Pv
  obtain⟨f0,f1,f2,f3,f4,f5⟩:=hf it (by simp)
  have e:(n:Int)-1-(i:Int)=((n-1-i:Nat):Int):=by omega
  have st:=st.2
  rw[e]at st
  refine wpAny_pyNext_rev_item st p.isList (x:=u) (by simpa using hu) λh' pG sb=>?_
  have I1:Inv X aj σ H { s with heap:=h' }:=I.turned (t':=s.toks) (λb o hb e=>(sb.2 b hb).trans e) f0 f1 f3 f4 f5
  obtain⟨o,e',c,d⟩:=id pG
  have e2:((n-1-i:Nat):Int)-1=(n:Int)-1-((i+1:Nat):Int):=by omega
  rw[e2]at pG
  exact⟨u,rfl,JY (s:={ s with heap:=h' }) e' c d (by decide) ⟨_,H,I1,ru,⟨rfl,λys hy=>by rw[I.list_inj hy hq];exact Pv⟩,⟨hi,pG⟩,λb hb=>(hf b hb).1⟩⟩
 done:=by
  intro X hP hw hK hc i aj s σ H E I hf st hg
  subst hP hw hK
  obtain⟨f0,f1,f2,f3,f4,f5⟩:=hf it (by simp)
  have e:(n:Int)-1-(i:Int) = -1:=by have:=st.1;have h2:n<=i:=hg;omega
  have st:=st.2
  rw[e]at st
  exact wpAny_pyNext_rev_end (I.ok.hd hc) st λh' eb=>⟨rfl,I.turned (t':=s.toks) (λb o hb e=>eb b o hb e) f0 f1 f3 f4 f5⟩
 self:=λ_ _ _ _ _ st h=>kD st.2 h
def Md (K:ae)(ta:TE):TI:=λσ H R=>ta σ H λv H1=>∃a xs,v=.ref a/\fm K H1 a xs/\R (HV K a xs.length) H1
theorem zus {X:Cx}{tg e:Expr}{te:TE}{p pos:cW}(hg:Gl X "reversed")(hm:X.mg "reversed"=none)(he:PE X e te)(hs:ao [e] X.env=[(false,bF e X.env)]:=by rfl):PI X tg (.Call (.Name "reversed" p) [e] [] pos) (Md X.K te):=by
 intro aj s σ H R I h
 refine cS (tO (u:=.type "reversed") I hg hm (by rfl) ?_ (by decide) (by decide))
 refine bO (di ((v4 he tP hs) pos aj s σ H (λvs H1=>match vs with|[x]=>∃a xs,x=.ref a/\fm X.K H1 a xs/\R (HV X.K a xs.length) H1|_=>False) I h) λus s1 ⟨vs,H1,I1,r,q⟩=>?_) hs rfl
 match vs,q with
 |[x],q=>
  obtain⟨a,xs,rfl,hq,q⟩:=q
  obtain⟨u,rfl,ru⟩:=r.one
  cases ru
  obtain⟨ce,rv,pl,hz⟩:=I1.list hq
  have hl:=rv.length
  refine call_reversed_list pl.isList ?_
  have I2:Inv X aj σ H1 { s1 with heap:=s1.heap.push (nu a ((ce.toArray.size:Int)-1)) }:=I1.kept (t':=s1.toks) λb o e=>aD _ e
  have st:(s1.heap.push (nu a ((ce.toArray.size:Int)-1))).IsRevIter s1.heap.objs.size a ((xs.length:Int)-1-((0:Nat):Int)):=⟨_,bB _ rfl,rfl,by simp[nu,hl]⟩
  refine kD st ⟨s1.heap.objs.size,[s1.heap.objs.size],_,_,H1,rfl,I2,zot a _ xs.length,⟨cK _,st⟩,λb hb=>?_,q⟩
  have e:b=s1.heap.objs.size:=by simpa using hb
  subst e
  exact I1.fpOk (aF _) (I1.hok.fresh (aF _))
end L2
namespace L3
open PySem PySem.Spec L2
open PyProof.Rows hiding St
section
variable {X:Cx}{ct:Nat->ai}{ms:List Mo}{rk n m k:Nat}{st:bR}{rest:List bR}{a b c e tg:Expr}{f g h:EF}{p q:BF}{u w:SF}{pos:cW}
theorem zut {K:ae}{F B:Hp}{a:ai}{vs:List V}{ds:List D}(hp:Pr (Al K ct F B n) ds vs)(keep:∀F' H',bQ F F'->bQ B H'->bQ F' H'->fm K H' a vs):rn K ct F B n (HV K a vs.length) ds.reverse:=by
 intro i F' H' s1 s2 s3
 have hs:fm K H' a vs:=keep F' H' s1 s2 s3
 have hl:=hp.length
 refine⟨λd hd=>?_,λqI=>by show vs.length<=i;rw[dH]at qI;omega⟩
 have hi:i<ds.length:=by
  have:=(aL.mp hd).1
  rwa[dH]at this
 rw[pq hi]at hd
 obtain⟨v,hv,l⟩:=hp.get' hd
 refine⟨⟨by omega,vs,hs,rfl⟩,λx H2 y=>?_⟩
 obtain⟨e,y⟩:=y
 subst e
 have:=y vs hs
 rw[←hl,hv]at this
 cases this
 exact⟨F',.refl s3,l.mono s1 (.refl _)⟩
theorem zr6 {pp:cW}(hm:X.mg "reversed"=none)(he:XE X ct ms n e f)(hg:Gl X "reversed":=by rfl)(hs:ao [e] X.env=[(false,bF e X.env)]:=by rfl):wQ X ct ms (n-1) tg (.Call (.Name "reversed" pp) [e] [] pos) (λρ=>(lsD f ρ).bind λds=>some ds.reverse):=by
 obtain⟨t,pt,qt⟩:=he
 refine⟨_,zus hg hm pt hs,λF0 B F H ρ σ ds R rs e w=>?_⟩
 obtain⟨ds0,h0,h9⟩:=aT e
 cases h9
 obtain⟨d,h1,h2⟩:=aT h0
 rw[NC h2]at h1
 refine qt F0 B F H ρ σ _ _ rs h1 λv F' H' x l=>?_
 obtain⟨a,vs,rfl,ha,hp⟩:=l.lst x.fh
 exact⟨a,vs,rfl,ha,w _ F' H' x (zut hp λF2 H2 s1 s2 s3=>s2.seq ha)⟩
end
end L3
namespace L3
open PySem PySem.Spec L2
open PyProof.Rows hiding St
theorem OwL.upd {R R':D->V->List ai->Prop}{d:D}:∀{ds:List D} {vs:List V} {fp:List ai} {i:Nat},OwL R ds vs fp->ds[i]?=some d->∃v f,vs[i]?=some v/\R d v f/\(∀a∈f,a∈fp) /\
  ∀d',R' d' v f->fp.Nodup->(∀d v f',(∀a∈f',a∈fp)->(∀a∈f',a∉f)->R d v f'->R' d v f')->OwL R' (ds.set i d') vs fp
 |_,_,_,_,.nil,h=>by simp at h
 |_,_,_,0,.cons (f:=f) (g:=g) h t,e=>by
  cases(show some _=some d from e)
  refine⟨_,f,rfl,h,λa ha=>bg _ ha,λd' hd nd ot=>?_⟩
  rw[bj]at nd
  exact .cons hd (t.mono λd v f' hi r=>ot d v f' (λa ha=>aw _ (hi a ha)) (λa ha hf=>nd.2.2 a hf a (hi a ha) rfl) r)
 |_,_,_,i+1,.cons (f:=f) (g:=g) h t,e=>by
  obtain⟨v,f2,h1,h2,h3,h4⟩:=OwL.upd (R':=R') (i:=i) t (by simpa using e)
  refine⟨v,f2,by simpa using h1,h2,λa ha=>aw _ (h3 a ha),λd' hd nd ot=>?_⟩
  rw[bj]at nd
  exact .cons (ot _ _ f (λa ha=>bg _ ha) (λa ha hf=>nd.2.2 a ha a (h3 a hf) rfl) h) (h4 d' hd nd.2.1 λd v f' hi hn r=>ot d v f' (λa ha=>aw _ (hi a ha)) hn r)
section
variable {X:Cx}{ct:Nat->ai}{ms:List Mo}{rk n m k:Nat}{st:bR}{rest:List bR}{a b c e tg:Expr}{f g h:EF}{p q:BF}{u w:SF}{pos:cW}
def p5 (i:Nat)(fj fl f:EF):SF:=λρ=>(f ρ).bind λd=>(eV i ρ).bind λo=>(fj ρ).bind λj=>(fl ρ).bind λl=>match o,j,l with
 |.lst rs,.int y,.int z=>(ixN rs.length y).bind λy'=>(rs[y']?).bind λr=>(match r with
  |.lst ds=>(ky ds z d).bind λnS=>some (.nx (ρ.set i (some (.lst (rs.set y' (.lst nS))))))
  |_=>none)
 |_,_,_=>none
theorem zou (i:Nat){x:aR}{j l:Expr}{p1 p2 gc:cW}{fj fl:EF}(hm:ms[i]?=some (.ow 2))(hj:XE X ct ms n j fj)(hl:XE X ct ms m l fl)(hp:lU j)(he:XE X ct ms 0 e f)(hN:X.N[i]?=some x:=by rfl)(hv:ou X.env.scope x:=by first|exact Or.inl rfl|exact Or.inr (Or.inl rfl)|exact Or.inr (Or.inr rfl))(hd:(x==("__debug__":aR))=false:=by decide)
  (iL:(x==("__classdict__":aR))=false:=by decide)
  (ha:∀v,gI (.Subscript (.Subscript (.Name x p1) j p2) l gc) X.env v=(do
   let ov ← d7 [v] (bF (.Subscript (.Name x p1) j p2) X.env)
   let iv ← d7 [v,ov] (bF l X.env)
   gN gc
   d7 [v,ov,iv] (mV ov iv v)
   rZ [v,ov,iv] []):=by intro _;rfl)
  (hs:gP [.Subscript (.Subscript (.Name x p1) j p2) l gc] e pos.line X.env=pure false:=by rfl) (hw:gO [.Subscript (.Subscript (.Name x p1) j p2) l gc] e X.env=pure none:=by rfl)
  (h1:(cQ [.Subscript (.Subscript (.Name x p1) j p2) l gc] X.env).map (·.2)=[gI (.Subscript (.Subscript (.Name x p1) j p2) l gc) X.env]:=by rfl) :
  XS X ct ms rk (.Assign [.Subscript (.Subscript (.Name x p1) j p2) l gc] e pos) (p5 i fj fl f):=by
 obtain⟨t,pt,qt⟩:=he
 obtain⟨tj,vJ,vL⟩:=hj
 obtain⟨tl,XZ,X2⟩:=hl
 refine⟨_,N3 pt (Tb (Ts Sg (jo hN hv hd iL) vJ hp) XZ Nn ha) hs hw h1,λF0 B F H ρ σ o E rs e z=>?_⟩
 obtain⟨d,g1,g2⟩:=aT e
 obtain⟨d1,qF,g3,g4,g5⟩:=dD g2
 obtain⟨U5,g6,g7⟩:=aT g5
 refine qt F0 B F H ρ σ d _ rs g1 λv0 F1 H1 x1 l0=>?_
 have jL:=rs.ext x1
 obtain⟨f1,fr,n1,b1,dj,i4,cf,put⟩:=jL.put (F':=F) (H':=H) hm
 obtain⟨v,hσ,ow⟩:=i4 d1 (yf g3)
 refine⟨v,hσ,vL F0 B F1 H1 ρ σ qF _ jL g4 λvj F2 H2 x2 lj=>?_⟩
 cases d1 with
 |lst rws=>
  cases qF with
  |int yi=>
   cases U5 with
   |int zi=>
    obtain⟨y',k1,k2⟩:=aT g7
    obtain⟨r,k3,k4⟩:=aT k2
    cases r with
    |lst ds=>
     obtain⟨nS,k5,k6⟩:=aT k4
     cases k6
     obtain⟨jn,k8,k9⟩:=aT k5
     cases k9
     obtain⟨ad,vs,mY,rfl,rfl,hF,hH,ol⟩:=ow.lst_inv
     obtain⟨vr,f2,q1,q2,q3,q4⟩:=OwL.upd (R':=Ow X.K ct F2 (upd H2 0 (.lst [])) 1) ol k3
     obtain⟨bd,us,O0,rfl,rfl,Lu,Ag,AJ⟩:=q2.lst_inv
     clear q4
     have hA:H2 ad=some (.lst vs):=x2.hh _ _ hH
     refine⟨ad,vs,yi,.ref bd,rfl,lj.int,fm.of hA,?_,?_⟩
     ·unfold atI
      rw[←ol.length,k1]
      exact q1
     ·refine X2 F0 B F2 H2 ρ σ _ _ (jL.ext x2) g6 λvl F3 H3 x3 ll=>?_
      have lG:=x2.trans x3
      have hB:H3 bd=some (.lst us):=lG.hh _ _ Ag
      have fB:F3 bd=none:=lG.nf bd _ Ag Lu
      have e0:=AJ.nil0
      subst e0
      have Bw:=bw.mp n1
      have Pb:bd∈mY:=q3 bd aa
      have kr:ad≠bd:=λz=>Bw.1 (z▸Pb)
      refine⟨bd,us,zi,jn,rfl,ll.int,hB,by rw[←AJ.length];exact k8,?_⟩
      obtain⟨vr',f2',Qb,X0,q3',X1⟩:=OwL.upd (R':=Ow X.K ct F3 (upd H3 bd (.lst (us.set jn v0))) 1) ol k3
      rw[q1]at Qb
      cases Qb
      obtain⟨bd',us',U8,eb,rfl,_,O6,Mr⟩:=X0.lst_inv
      cases eb
      have e1:=Mr.nil0
      subst e1
      rw[Ag]at O6
      cases O6
      refine z σ F3 _ (jL.change hm lG hσ b1 dj cf put (ah _ Pb) fB (.inr (.lst (lG.nf ad _ hH hF) (by rw[yo kr];exact lG.hh _ _ hH) (X1 (.lst (ds.set jn d)) (.inr (.lst fB yx (OwL.set0 ⟨Dt.mono lG.ff l0,rfl⟩ (λ_ _ _ q=>q.2) jn (AJ.mono λ_ _ _ _ q=>⟨q.1.mono lG.ff,q.2⟩)))) Bw.2 ?_))) (fn:=ad::mY) n1 λa ha=>.inl ha)
      intro d0 v1 f' sX LC o'
      refine(o'.ext lG).frame (.refl _) λa' Iq=>⟨yo λe=>LC a' Iq (by rw[e];exact aa),((o'.ext lG).cells a' Iq).1⟩
    |_=>cases k4
   |_=>cases g7
  |_=>cases g7
 |_=>cases g7
end
end L3
namespace L3
open PySem PySem.Spec L2
open PyProof.Rows hiding St
section
variable {K:ae}{ct:Nat->ai}{F F' H B F0:Hp}
theorem SL.fz {ms:List Mo}{ρ:Env}{σ:St}{fp:List ai}{i k:Nat}(h0:SL K ct F B H ms ρ σ fp)(s:bQ F H):fp.Nodup->ms[i]?=some (.ow k)->∃f1:List ai,(∀a∈f1,a∈fp) /\
  ∃hX,SL K ct (ik F H f1) B H (ms.set i (.ow 0)) ρ σ hX/\hX.Nodup/\∀a∈hX,a∈fp/\a∉f1:=by
 induction h0 generalizing i with
 |nil=>
  intro _ e
  simp at e
 |@no m0 o0 ms ρ σ fp t ih=>
  intro nd e
  cases i with
  |zero=>
   obtain⟨w1,w2,w3⟩:=u9 (F:=F) (H:=H) (fp:=[]) s (λa z=>by cases z)
   exact⟨[],λa z=>(by cases z),fp,.no (t.frame w1 λa z=>⟨rfl,by unfold ik;rw[if_neg (by simp)];exact(t.cells a z).1⟩),nd,λa z=>⟨z,by simp⟩⟩
  |succ i=>
   obtain⟨f1,h1,hX,q1,q2,q3⟩:=ih (i:=i) nd (by simpa using e)
   exact⟨f1,h1,hX,.no q1,q2,q3⟩
 |@al n0 d0 v0 ms ρ σ fp h t ih=>
  intro nd e
  cases i with
  |zero=>
   simp at e
  |succ i=>
   obtain⟨f1,h1,hX,q1,q2,q3⟩:=ih (i:=i) nd (by simpa using e)
   obtain⟨w1,w2,w3⟩:=u9 (F:=F) (H:=H) (fp:=f1) s (λa z=>(t.cells a (h1 a z)).1)
   exact⟨f1,h1,hX,.al (h.mono w1 (.refl _)) q1,q2,q3⟩
 |@px d0 v0 ms ρ σ fp h t ih=>
  intro nd e
  cases i with
  |zero=>
   simp at e
  |succ i=>
   obtain⟨f1,h1,hX,q1,q2,q3⟩:=ih (i:=i) nd (by simpa using e)
   obtain⟨w1,w2,w3⟩:=u9 (F:=F) (H:=H) (fp:=f1) s (λa z=>(t.cells a (h1 a z)).1)
   exact⟨f1,h1,hX,.px (h.mono w1 (.refl _)) q1,q2,q3⟩
 |@so d0 x ms ρ σ fp h t ih=>
  intro nd e
  cases i with
  |zero=>
   simp at e
  |succ i=>
   obtain⟨n1,n2⟩:=bw.mp nd
   obtain⟨f1,h1,hX,q1,q2,q3⟩:=ih (i:=i) n2 (by simpa using e)
   obtain⟨w1,w2,w3⟩:=u9 (F:=F) (H:=H) (fp:=f1) s (λa z=>(t.cells a (h1 a z)).1)
   refine⟨f1,λa z=>ah _ (h1 a z),x::hX,.so (h.frame w1 λa z=>⟨rfl,?_⟩) q1,bw.mpr ⟨λz=>n1 (q3 x z).1,q2⟩,λa z=>?_⟩
   ·rw[ax]at z
    unfold ik
    rw[if_neg λq=>n1 (z▸h1 a q)]
    exact(h.cells a (by rw[z];exact aa)).1
   ·rcases aC.mp z with z|z
    ·exact⟨z▸aa,λq=>n1 (z▸h1 a q)⟩
    ·exact⟨ah _ (q3 a z).1,(q3 a z).2⟩
 |@ow n0 d0 v0 ms ρ σ f fp h t ih=>
  intro nd e
  cases i with
  |zero=>
   obtain⟨w1,w2,w3⟩:=u9 (F:=F) (H:=H) (fp:=f) s (λa z=>(h.cells a z).1)
   obtain⟨n1,n2,n3⟩:=bj.mp nd
   refine⟨f,λa z=>bg _ z,[]++fp,.ow ⟨h.dt w1 w3,rfl⟩ (t.frame w1 λa z=>⟨rfl,?_⟩),n2,λa z=>⟨aw _ z,λq=>n3 a q a z rfl⟩⟩
   unfold ik
   rw[if_neg λq=>n3 a q a z rfl]
   exact(t.cells a z).1
  |succ i=>
   obtain⟨n1,n2,n3⟩:=bj.mp nd
   obtain⟨f1,h1,hX,q1,q2,q3⟩:=ih (i:=i) n2 (by simpa using e)
   obtain⟨w1,w2,w3⟩:=u9 (F:=F) (H:=H) (fp:=f1) s (λa z=>(t.cells a (h1 a z)).1)
   refine⟨f1,λa z=>aw _ (h1 a z),f++hX,.ow (h.frame w1 λa z=>⟨rfl,?_⟩) q1,bj.mpr ⟨n1,q2,λa z b zb=>n3 a z b (q3 b zb).1⟩,λa z=>?_⟩
   ·unfold ik
    rw[if_neg λq=>n3 a z a (h1 a q) rfl]
    exact(h.cells a z).1
   ·rcases aZ.mp z with z|z
    ·exact⟨bg _ z,λq=>n3 a z a (h1 a q) rfl⟩
    ·exact⟨aw _ (q3 a z).1,(q3 a z).2⟩
theorem SL.forget (m':Mo){ms:List Mo}{ρ:Env}{σ:St}{fp:List ai}(i:Nat)(h0:SL K ct F B H ms ρ σ fp):∃hX,SL K ct F B H (ms.set i m') (ρ.set i none) σ hX/\hX.Sublist fp:=by
 induction h0 generalizing i with
 |nil=>
  exact⟨[],.nil,.refl _⟩
 |@no m0 o0 ms ρ σ fp t ih=>
  cases i with
  |zero=>
   exact⟨fp,.no t,.refl _⟩
  |succ i=>
   obtain⟨hX,q1,q2⟩:=ih i
   exact⟨hX,.no q1,q2⟩
 |@al n0 d0 v0 ms ρ σ fp h t ih=>
  cases i with
  |zero=>
   exact⟨fp,.no t,.refl _⟩
  |succ i=>
   obtain⟨hX,q1,q2⟩:=ih i
   exact⟨hX,.al h q1,q2⟩
 |@px d0 v0 ms ρ σ fp h t ih=>
  cases i with
  |zero=>
   exact⟨fp,.no t,.refl _⟩
  |succ i=>
   obtain⟨hX,q1,q2⟩:=ih i
   exact⟨hX,.px h q1,q2⟩
 |@so d0 x ms ρ σ fp h t ih=>
  cases i with
  |zero=>
   exact⟨fp,.no t,List.sublist_cons_self _ _⟩
  |succ i=>
   obtain⟨hX,q1,q2⟩:=ih i
   exact⟨_,.so h q1,q2.cons₂ _⟩
 |@ow n0 d0 v0 ms ρ σ f fp h t ih=>
  cases i with
  |zero=>
   exact⟨fp,.no t,nr _ _⟩
  |succ i=>
   obtain⟨hX,q1,q2⟩:=ih i
   exact⟨_,.ow h q1,(List.Sublist.refl _).append q2⟩
theorem RS.fz {ms:List Mo}{ρ:Env}{σ:St}{i k:Nat}(rs:RS K ct F0 B ms F H ρ σ)(hm:ms[i]?=some (.ow k)):∃F',RS K ct F0 B (ms.set i (.ow 0)) F' H ρ σ:=by
 obtain⟨fp,sl,nd,hb⟩:=rs.sl
 obtain⟨f1,h1,hX,q1,q2,q3⟩:=sl.fz rs.fh nd hm
 obtain⟨w1,w2,w3⟩:=u9 (F:=F) (H:=H) (fp:=f1) rs.fh (λa z=>(sl.cells a (h1 a z)).1)
 refine⟨ik F H f1,rs.f0.trans w1,rs.bh,w2,λa o ho hn=>?_,hX,q1,q2,λa z=>hb a (q3 a z).1⟩
 have:¬a∈f1:=λz=>by rw[hb a (h1 a z)]at ho;cases ho
 unfold ik;rw[if_neg this];exact rs.nf a o ho hn
theorem RS.forget {ms:List Mo}{ρ:Env}{σ:St}(m':Mo)(i:Nat)(rs:RS K ct F0 B ms F H ρ σ):RS K ct F0 B (ms.set i m') F H (ρ.set i none) σ:=by
 obtain⟨fp,sl,nd,hb⟩:=rs.sl
 obtain⟨hX,q1,q2⟩:=sl.forget m' i
 exact⟨rs.f0,rs.bh,rs.fh,rs.nf,hX,q1,q2.nodup nd,λa z=>hb a (q2.subset z)⟩
end
def tG (i:Nat):Out->Out
 |.nx ρ=>.nx (ρ.set i none)
 |.rt d=>.rt d
 |.bk ρ=>.bk (ρ.set i none)
 |.ct ρ=>.ct (ρ.set i none)
def sFz (i:Nat)(u:SF):SF:=λρ=>(u ρ).bind λo=>some (tG i o)
section
variable {X:Cx}{ct:Nat->ai}{ms:List Mo}{rk k:Nat}
theorem zkl {ms:List Mo}{i k:Nat}(hm:ms[i]?=some (.ow k)):(ms.set i (.ow 0)).set i (.ow k)=ms:=by
 rw[List.set_set]
 apply kF
 intro j
 rw[rS]
 split
 ·next h=>
  subst h
  rw[hm]
  have:=(aL.mp hm).1
  rw[if_pos this]
 ·rfl
theorem zv8 {i:Nat}{t:kL->St->Hp->Prop}{w:SF}(hm:ms[i]?=some (.ow k))
  (q:∀(F0 B F H:Hp) (ρ:Env) (σ:St) (o:Out) (E:kL),RS X.K ct F0 B (ms.set i (.ow 0)) F H ρ σ->w ρ=some o->lA X.K ct F0 B (ms.set i (.ow 0)) rk E o->t E σ H)
  (F0 B F H:Hp) (ρ:Env) (σ:St) (o:Out) (E:kL) (rs:RS X.K ct F0 B ms F H ρ σ) (e:sFz i w ρ=some o) (z:lA X.K ct F0 B ms rk E o):t E σ H:=by
 obtain⟨F',r2⟩:=rs.fz hm
 obtain⟨o1,e1,e2⟩:=aT e
 refine q F0 B F' H ρ σ o1 E r2 e1 ?_
 have back:∀{ρ':Env} {σ':St} {F2 H2:Hp},RS X.K ct F0 B (ms.set i (.ow 0)) F2 H2 ρ' σ'->RS X.K ct F0 B ms F2 H2 (ρ'.set i none) σ':=λr=>by
  have:=r.forget (.ow k) i
  rw[zkl hm]at this
  exact this
 cases o1 with
 |nx ρ'=>cases e2;exactλσ' F2 H2 r=>z σ' F2 H2 (back r)
 |rt d=>cases e2;exact z
 |bk ρ'=>cases e2;exactλσ' F2 H2 r=>z σ' F2 H2 (back r)
 |ct ρ'=>cases e2;exactλσ' F2 H2 r=>z σ' F2 H2 (back r)
theorem Tf {Qh:List bR}{w:SF}{i:Nat}(hm:ms[i]?=some (.ow k))(h:rq X ct (ms.set i (.ow 0)) rk Qh w):rq X ct ms rk Qh (sFz i w):=by
 obtain⟨t,pt,qt⟩:=h
 exact⟨t,pt,zv8 hm qt⟩
theorem zov {i:Nat}{d:D}:tG i (.rt d)=.rt d:=rfl
theorem zow {i:Nat}{ρ:Env}:tG i (.nx ρ)=.nx (ρ.set i none):=rfl
end
end L3
namespace L3
open PySem PySem.Spec L2
open PyProof.Rows hiding St
section
variable {X:Cx}{ct:Nat->ai}{ms:List Mo}{rk n m k:Nat}{a b c tg:Expr}{pos:cW}
end
end L3
namespace L2
open PySem PySem.Spec PyProof.Rows
section
variable {X:Cx}{oU:List Expr}{kt:Nat}{pt:cW}
end
end L2
namespace L3
open PySem PySem.Spec L2
open PyProof.Rows hiding St
section
variable {X:Cx}{ct:Nat->ai}{ms:List Mo}{n:Nat}{a b:Expr}{pos:cW}
end
end L3
namespace L3
open PySem PySem.Spec L2
open PyProof.Rows hiding St
section
variable {K:ae}{ct:Nat->ai}{n m k:Nat}
end
end L3
namespace L2
open PySem PySem.Spec PyProof.Rows
section
variable {X:Cx}{e sp:Expr}{te:TE}{tp:TO}{pos p2:cW}
end
end L2
namespace L3
open PySem PySem.Spec L2
open PyProof.Rows hiding St
section
variable {X:Cx}{ct:Nat->ai}{ms:List Mo}{n m:Nat}{e sp:Expr}{f g:EF}{pos p1:cW}
end
end L3
namespace L3
open PySem PySem.Spec L2
open PyProof.Rows hiding St
def kg {α:Type}(p q:Nat)(rv:Bool)(us ws:List α):List α:=if us.length=p/\ws.length=q then us++(if rv then ws.reverse else ws)else[]
section
variable {X:Cx}{ct:Nat->ai}{ms:List Mo}{rk n m k kk:Nat}{e a:Expr}{f:EF}{x:aR}{pp pos AG:cW}{fa:ai}{fd:aH}{ps ks:List aR}{mf:List D->Option D}
end
end L3
namespace L3
open PySem PySem.Spec L2
open PyProof.Rows hiding St
theorem OwL.dropS {R:D->V->List ai->Prop}:∀{ds:List D} {vs:List V} {fp:List ai} (n:Nat),OwL R ds vs fp->∃f',OwL R (ds.drop n) (vs.drop n) f'/\f'.Sublist fp
 |_,_,_,0,l=>⟨_,l,.refl _⟩
 |_,_,_,_+1,.nil=>⟨[],.nil,.refl _⟩
 |_,_,_,n+1,.cons (f:=f) (g:=g) h t=>by
  obtain⟨f',l,s⟩:=OwL.dropS n t
  exact⟨f',l,s.trans (nr f g)⟩
theorem OwL.takeS {R:D->V->List ai->Prop}:∀{ds:List D} {vs:List V} {fp:List ai} (n:Nat),OwL R ds vs fp->∃f',OwL R (ds.take n) (vs.take n) f'/\f'.Sublist fp
 |_,_,_,0,_=>⟨[],.nil,List.nil_sublist _⟩
 |_,_,_,_+1,.nil=>⟨[],.nil,.refl _⟩
 |_,_,_,n+1,.cons (f:=f) (g:=g) h t=>by
  obtain⟨f',l,s⟩:=OwL.takeS n t
  exact⟨f++f',.cons h l,List.Sublist.append (.refl f) s⟩
theorem OwL.cutS {R:D->V->List ai->Prop}{ds:List D}{vs:List V}{fp:List ai}(lo hi:Option Int)(l:OwL R ds vs fp):∃f',OwL R (cutD ds lo hi) (oT vs lo hi) f'/\f'.Sublist fp:=by
 unfold cutD oT
 rw[l.length]
 obtain⟨f1,l1,s1⟩:=l.dropS (HT.sIx vs.length 0 lo)
 obtain⟨f2,l2,s2⟩:=l1.takeS (HT.sIx vs.length vs.length hi-HT.sIx vs.length 0 lo)
 exact⟨f2,l2,s2.trans s1⟩
section
variable {X:Cx}{ct:Nat->ai}{ms:List Mo}{rk n m k:Nat}{st:bR}{rest:List bR}{a b c e tg:Expr}{f g h:EF}{p q:BF}{u w:SF}{pos:cW}
theorem zmg {lo hi:Option Expr}{pl ph:PF}{p1}(he:XO X ct ms (k+1) e f)(hl:XP X ct ms lo pl)(hh:XP X ct ms hi ph):XO X ct ms (k+1) (.Subscript e (.Slice lo hi none p1) pos) (λρ=>(f ρ).bind λd=>(pl ρ).bind λl=>(ph ρ).bind λh=>iN d l h):=by
 obtain⟨t,pt,qt⟩:=he
 obtain⟨t1,vI,vK⟩:=hl
 obtain⟨t2,lR,oZ⟩:=hh
 refine⟨_,RD Sh pt vI lR,λF0 B F H ρ σ r Q rs e w=>?_⟩
 obtain⟨d,l,h1,h2,h3⟩:=dD e
 obtain⟨hh,h4,h5⟩:=aT h3
 refine qt F0 B F H ρ σ d _ rs h1 λv F1 H1 fp x1 o1 Wo VD=>?_
 refine vK F0 B F1 H1 ρ σ l _ (rs.ext x1) h2 λF2 H2 x2=>?_
 refine oZ F0 B F2 H2 ρ σ hh _ ((rs.ext x1).ext x2) h4 λF3 H3 x3=>?_
 cases d with
 |lst xs=>
  cases h5
  have lG:=x2.trans x3
  obtain⟨ad,vs,fr,rfl,rfl,hF,hH,ol⟩:=(o1.ext lG).lst_inv
  obtain⟨f',Ge,sb⟩:=ol.cutS l hh
  refine⟨ad,vs,rfl,fm.of hH,λp hp=>?_⟩
  obtain⟨o,nd⟩:=NN lG.fh Ge hp
  refine w _ F3 _ (p::f') ((x1.trans lG).trans (gu.newO lG.fh hp _)) o (nd ((bw.mp Wo).2.sublist sb)) λz hz=>?_
  rcases aC.mp hz with rfl|hz
  ·exact(x1.trans lG).hh.free hp
  ·exact VD z (ah _ (sb.subset hz))
 |_=>cases h5
end
end L3
namespace L3
open PySem PySem.Spec L2
open PyProof.Rows hiding St
theorem zr7:pD (af.type "list_reverseiterator") (aR.ofString "__len__")=pure none:=by with_unfolding_all rfl
theorem zox:pD (af.type "list_reverseiterator") (aR.ofString "__length_hint__")=pure (some (af.builtin "list_reverseiterator.__length_hint__")):=by with_unfolding_all rfl
theorem zmh:splitId "list_reverseiterator.__length_hint__"=some ("list_reverseiterator","__length_hint__"):=by with_unfolding_all rfl
theorem zr8:isSubtype (af.type "list_reverseiterator") (af.type "list_reverseiterator")=pure true:=by with_unfolding_all rfl
theorem zoy {prog:bx}{w:bY}{A:bT}{E:af->ak->Prop}{s:ak}{it l:ai}{i:Int}{Q:Bool->ak->Prop}(st:s.heap.IsRevIter it l i)(h:Q false s):bi (ba prog w) A (fE.List.listLengthHint (af.ref it)) Q E s:=by
 unfold fE.List.listLengthHint
 refine aO (oq st.typeIs zr7 ?_)
 simp only[]
 refine aO (oq st.typeIs zox ?_)
 simp only[zmh]
 refine aO (wpAny_isInstance st.typeIs zr8 ?_)
 rw[if_neg (by decide)]
 rw[if_pos (by with_unfolding_all decide),if_neg (by decide)]
 exact bU h
theorem zkm {prog:bx}{w:bY}{A:bT}{s:ak}{R:Result->ak->Prop}{it l:ai}{items:Array af}(hh:A.handled=none)(st:s.heap.IsRevIter it l ((items.size:Int)-1))(hl:s.heap.IsList l items)(kr:l≠it)(hsz:items.size<=sizeLine)(S:ai)(res:af)(c₀:Nat)(hS:s.heap.get? S=some { cls:=af.type "list",data:=jY.seq #[] c₀ })(Vr:S≠l)
    (hR:∀(h':aX) (tk:Nat) (jK:Array af) (c':Nat),(∀(b:ai) (o:dO),b≠S->b≠it->s.heap.get? b=some o->h'.get? b=some o)->h'.get? S=some { cls:=af.type "list",data:=jY.seq jK c' }->ItemsOf (λi v=>items[items.size-1-i]?=some v) jK items.size->R (Except.ok (Flow.ret res)) { s with heap:=h',toks:=tk }) :
    bi (ba prog w) A.in1 (fE.List.listExtendWith (af.ref S) (af.ref it) res) (λfin s'=>match fin with|Fin.done f=>R (Except.ok f) s'|Fin.again c'=>c'.quiet=true/\gx (ba prog w) A c' R s') (λe s'=>R (Except.error e) s') s:=by
  have Ep:S≠it:=λe=>by
    obtain⟨o,h1,h2,h3⟩:=st
    rw[←e,hS]at h1
    cases h1
    simp at h2
  have W:=(Walks.listRev (prog:=prog) (w:=w) (A:=A.in1) hh it l kr items).toS
  have key:gx (ba prog w) A (qB.builtin "list.extend.loop" { pos:=[af.ref S,af.ref it,res] }) R s:=by
    refine codeAny_extend_loopS W hsz S (by simp[Ep,Vr]) res items.size 0 s #[] c₀ rfl (cK _) ⟨cK _,by simpa using st,hl⟩ hS (ItemsOf.nil _) λs' jK c' hm Lw pU=>?_
    rw[Moved.eq_with hm]
    exact hR s'.heap s'.toks jK c' (λb o hb hi e=>hm.heap b o (by simp[hb,hi]) e) Lw pU
  unfold fE.List.listExtendWith
  refine aO (wpAny_typeOf st.typeIs ?_)
  have h1:fE.List.listSameRef (af.ref S) (af.ref it)=false:=by simp[fE.List.listSameRef,Ep]
  have h2:(af.type "list_reverseiterator" == af.type "list")=false:=by decide
  have h3:(af.type "list_reverseiterator" == af.type "tuple")=false:=by decide
  simp only[h1,h2,h3,wG,df,if_false]
  refine aO (kD st ?_)
  refine aO (lL (zoy st ?_))
  rw[if_neg (by with_unfolding_all decide)]
  exact bU ⟨plainId_quiet F.plain_extend_loop _,key⟩
theorem Zv {prog:bx}{w:bY}{A:bT}{E:af->ak->Prop}{s:ak}{Q:af->ak->Prop}{it l:ai}{items:Array af}(hh:A.handled=none)(st:s.heap.IsRevIter it l ((items.size:Int)-1))(hl:s.heap.IsList l items)(kr:l≠it)(hsz:items.size<=sizeLine)
    (hQ:∀(h':aX) (tk:Nat) (jK:Array af) (c':Nat),(∀(b:ai) (o:dO),b≠it->s.heap.get? b=some o->h'.get? b=some o)->h'.get? s.heap.objs.size=some { cls:=af.type "list",data:=jY.seq jK c' }->ItemsOf (λi v=>items[items.size-1-i]?=some v) jK items.size->Q (af.ref s.heap.objs.size) { s with heap:=h',toks:=tk }) :
    bi (ba prog w) A (call (af.type "list") [af.ref it]) Q E s:=by
  refine callType_codes (Q₁:=λobj s₁=>obj=af.ref s.heap.objs.size/\s₁ = { s with heap:=s.heap.push { cls:=af.type "list",data:=jY.seq #[] } }) F.called_list (F.typeCall_list_1 (af.ref it)) F.entry_list_init (code_list_new (af.ref it) ⟨rfl,rfl⟩) λobj s₁ h₁=>?_
  obtain⟨rfl,rfl⟩:=h₁
  have hS:=bB s.heap (o:={ cls:=af.type "list",data:=jY.seq #[] }) rfl
  refine⟨⟨_,hS,rfl⟩,F.args_list_init_2 (af.ref s.heap.objs.size) (af.ref it),?_⟩
  have FW:∀b o,s.heap.get? b=some o->b≠s.heap.objs.size:=λb o e=>br (aP e)
  have VO:s.heap.objs.size≠l:=λe=>by
    obtain⟨o,h1,_⟩:=hl
    exact FW l o h1 e.symm
  have V9:(#[]:Array af).size<=sizeLine:=cK _
  have Wa:(#[]:Array af).size<=sizeLine+1:=cK _
  show bi _ _ (fE.List.listItems (af.ref s.heap.objs.size) >>= _) _ _ _
  refine aO ?_
  show bi _ _ (seqItems? (af.ref s.heap.objs.size) >>= _) _ _ _
  refine aO (wpAny_seqItems hS rfl ?_)
  refine bU ?_
  show bi _ _ (updateSeq s.heap.objs.size (λ_=>#[]) >>= _) _ _ _
  refine aO (wpAny_updateSeq hS rfl ?_ V9 Wa)
  have Vs:((s.heap.push { cls:=af.type "list",data:=jY.seq #[] }).update s.heap.objs.size (dO.mapSeq λ_=>#[])).get? s.heap.objs.size=some { cls:=af.type "list",data:=jY.seq #[] 0 }:=o8 (dO.mapSeq λ_=>#[]) hS rfl
  have Ms:∀(b:ai) (o:dO),b≠s.heap.objs.size->s.heap.get? b=some o->((s.heap.push { cls:=af.type "list",data:=jY.seq #[] }).update s.heap.objs.size (dO.mapSeq λ_=>#[])).get? b=some o:=λb o hb e=>(iS _ _ (Ne.symm hb)).trans (aD _ e)
  refine aO (wpAny_letGo ?_)
  obtain⟨oi,i1,i2,i3⟩:=st
  obtain⟨ol,l1,l2,l3⟩:=hl
  refine zkm (A:=A.in1) (R:=wants (λr s₂=>r=af.none/\Q (af.ref s.heap.objs.size) s₂) E) (s:={ s with heap:=(s.heap.push { cls:=af.type "list",data:=jY.seq #[] }).update s.heap.objs.size (dO.mapSeq λ_=>#[]) }) (l:=l) (items:=items) hh ⟨oi,Ms it oi (FW it oi i1) i1,i2,i3⟩ ⟨ol,Ms l ol (FW l ol l1) l1,l2,l3⟩ kr hsz s.heap.objs.size af.none _ Vs VO λh' tk jK c' hk Lw pU=>⟨rfl,hQ h' tk jK c' (λb o hb e=>hk b o (FW b o e) hb (Ms b o (FW b o e) e)) Lw pU⟩
section
variable {X:Cx}{ct:Nat->ai}{ms:List Mo}{rk n m k:Nat}{a e:Expr}{f:EF}{pos:cW}
def xN (K:ae):V->Hp->VK->Prop:=λx H Q=>∃a xs,x=.ref a/\fm K H a xs/\∀p,H p=none->Q (.ref p) (upd H p (.lst xs.reverse))
def Hh (K:ae)(te:TE):TE:=λσ H Q=>te σ H λx H1=>xN K x H1 Q
theorem zr9 {te:TE}{p1 p2 ir:cW}(hc:X.calm=true)(hg:Gl X "list")(hm:X.mg "list"=none)(oz:Gl X "reversed")(oW:X.mg "reversed"=none)(he:PE X e te)(hs:ao [e] X.env=[(false,bF e X.env)]:=by rfl)
  (ni:ao [.Call (.Name "reversed" p2) [e] [] ir] X.env=[(false,bF (.Call (.Name "reversed" p2) [e] [] ir) X.env)]:=by rfl) :
  PE X (.Call (.Name "list" p1) [.Call (.Name "reversed" p2) [e] [] ir] [] pos) (Hh X.K te):=by
 intro aj s σ H Q I h
 refine cS (tO I hg hm BL ?_ (by decide) (by decide))
 refine bO ?_ ni rfl
 rw[ni]
 show bi _ _ (spliced ((false,bF (.Call (.Name "reversed" p2) [e] [] ir) X.env)::[])) _ _ s
 refine Calls.spliced_cons ?_
 refine cS (tO (u:=.type "reversed") I oz oW (by rfl) ?_ (by decide) (by decide))
 refine bO (di ((v4 he tP hs) ir aj s σ H (λvs H1=>match vs with|[x]=>xN X.K x H1 Q|_=>False) I h) λus s1 ⟨vs,H1,I1,r,q⟩=>?_) hs rfl
 match vs,q with
 |[x],q=>
  obtain⟨a,xs,rfl,hq,q⟩:=q
  obtain⟨u,rfl,ru⟩:=r.one
  cases ru
  obtain⟨ce,rv,pl,hz⟩:=I1.list hq
  have hl:=rv.length
  refine call_reversed_list pl.isList (Calls.spliced_nil ?_)
  have I2:L2.Inv X aj σ H1 { s1 with heap:=s1.heap.push (nu a ((ce.toArray.size:Int)-1)) }:=I1.kept (t':=s1.toks) λb o e=>aD _ e
  have st:(s1.heap.push (nu a ((ce.toArray.size:Int)-1))).IsRevIter s1.heap.objs.size a ((ce.toArray.size:Int)-1):=⟨_,bB _ rfl,rfl,by simp[nu]⟩
  have XY:(s1.heap.push (nu a ((ce.toArray.size:Int)-1))).IsList a ce.toArray:=by
   obtain⟨o,h1,h2⟩:=pl.isList
   exact⟨o,aD _ h1,h2⟩
  have Uq:a≠s1.heap.objs.size:=by
   obtain⟨o,h1,h2⟩:=pl.isList
   exact br (aP h1)
  refine Zv (I2.ok.hd hc) st XY Uq (by rw[aK,←hl];exact hz) λh' tk jK c' kp hS pU=>?_
  have xE:(s1.heap.push (nu a ((ce.toArray.size:Int)-1))).objs.size=s1.heap.objs.size+1:=by simp[aX.push]
  have hv:bX xs.reverse jK.toList:=by
   obtain⟨e1,e2⟩:=pU
   have e3:jK.size=ce.length:=by rw[e1,aK]
   refine NT ((dH).trans (hl.trans (e3.symm.trans dF.symm))) λi x u hx hu=>?_
   have hi:i<xs.length:=by
    have:=(aL.mp hx).1
    rwa[dH]at this
   rw[pq hi]at hx
   obtain⟨u',Ax,ru⟩:=rv.get hx
   have:=e2 i u (by simpa using hu)
   rw[aK,←hl]at this
   have h3:ce[xs.length-1-i]?=some u:=by simpa using this
   rw[Ax]at h3
   cases h3
   exact ru
  have d9:xs.reverse.length<=sizeLine:=by rw[dH];exact hz
  refine⟨.ref _,_,I1.laid (t':=tk) (λb o e=>kp b o (br (aP e)) (aD _ e)) (by rw[xE];omega) (show dR X.prog X.w _ h' _ (.lst _)from⟨d9,jK.toList,c',hv,hS⟩),rfl,q _ (I1.hok.fresh (by rw[xE];omega))⟩
def tu:D->Option D
 |.lst ds=>some (.lst ds.reverse)
 |_=>none
theorem zsa {p1 p2 ir:cW}(hn:n<=1)(hc:X.calm=true)(hg:Gl X "list")(hm:X.mg "list"=none)(oz:Gl X "reversed")(oW:X.mg "reversed"=none)(he:XE X ct ms n e f)(hs:ao [e] X.env=[(false,bF e X.env)]:=by rfl)
  (ni:ao [.Call (.Name "reversed" p2) [e] [] ir] X.env=[(false,bF (.Call (.Name "reversed" p2) [e] [] ir) X.env)]:=by rfl) :
  XO X ct ms 1 (.Call (.Name "list" p1) [.Call (.Name "reversed" p2) [e] [] ir] [] pos) (e1 tu f):=by
 obtain⟨t,pt,qt⟩:=he
 refine⟨_,zr9 hc hg hm oz oW pt hs ni,λF0 B F H ρ σ r Q rs e w=>?_⟩
 obtain⟨d,h1,h2⟩:=aT e
 refine qt F0 B F H ρ σ d _ rs h1 λv F1 H1 x1 l=>?_
 cases d with
 |lst ds=>
  cases h2
  obtain⟨a,vs,rfl,ha,hp⟩:=Al.lst1 hn l x1.fh
  exact⟨a,vs,rfl,ha,xT x1.fh (Pr.reverse hp) λv F2 H2 fp x2 l2 nd hf=>w v F2 H2 fp (x1.trans x2) l2 nd λz hz=>x1.hh.free (hf z hz)⟩
 |_=>cases h2
end
end L3
namespace L3
open PySem PySem.Spec L2
open PyProof.Rows hiding St
section
variable {X:Cx}{ct:Nat->ai}{ms:List Mo}{n m l k:Nat}{a b c:Expr}{f g h:EF}{pos:cW}
end
end L3
namespace L3
open PySem PySem.Spec L2
open PyProof.Rows hiding St
def Bk (f:EF):EF:=λρ=>(f ρ).bind λd=>if d.sc=true then some d else none
section
variable {X:Cx}{ct:Nat->ai}{ms:List Mo}{rk n m k:Nat}{a b c e tg:Expr}{f g h:EF}{pos:cW}
theorem Tu (he:XE X ct ms n e f):XO X ct ms k e (Bk f):=by
 obtain⟨t,p,q⟩:=he
 refine⟨t,p,λF0 B F H ρ σ d Q r e w=>?_⟩
 obtain⟨d0,h1,h2⟩:=aT e
 by_cases hs:d0.sc=true
 ·rw[if_pos hs]at h2
  cases h2
  exact q F0 B F H ρ σ d Q r h1 λv F' H' x l=>w v F' H' [] x (Ow.scal (Al.scal l hs) hs) bA λa z=>(by cases z)
 ·rw[if_neg hs]at h2;cases h2
end
end L3
namespace L3
open PySem PySem.Spec L2
open PyProof.Rows hiding St
section
variable {X:Cx}{ct:Nat->ai}{ms:List Mo}{n:Nat}{e tg:Expr}{f:EF}{pos:cW}
end
end L3
namespace L3
open PySem PySem.Spec L2
open PyProof.Rows hiding St
section
variable {X:Cx}{K:ae}{ct:Nat->ai}{ms:List Mo}{n k:Nat}
end
end L3
namespace L3
open PySem PySem.Spec L2
open PyProof.Rows hiding St
section
variable {X:Cx}{ct:Nat->ai}{ms:List Mo}{rk n m k:Nat}{a b c e:Expr}{f g h:EF}{pos:cW}
end
end L3
namespace L3
open PySem PySem.Spec L2
open PyProof.Rows hiding St
def iM:D->Bool
 |.lst _=>true
 |.dK _ _=>true
 |.dT _ _=>true
 |_=>false
theorem Ow.cell {K:ae}{ct:Nat->ai}{F H:Hp}{d:D}{v:V}{fp:List ai}(h:Ow K ct F H 1 d v fp)(hc:iM d=true):∃a,v=.ref a/\fp=[a]:=by
 cases d with
 |lst ds=>obtain⟨a,vs,fr,rfl,rfl,_,_,ol⟩:=h.lst_inv;have e0:=ol.nil0;subst e0;exact⟨_,rfl,rfl⟩
 |dK ks ds=>obtain⟨a,vs,fr,rfl,rfl,_,_,_,ol⟩:=h.dK_inv;have e0:=ol.nil0;subst e0;exact⟨_,rfl,rfl⟩
 |dT ks ds=>obtain⟨a,vs,fr,rfl,rfl,_,_,_,ol⟩:=h.dT_inv;have e0:=ol.nil0;subst e0;exact⟨_,rfl,rfl⟩
 |_=>cases hc
section
variable {K:ae}{ct:Nat->ai}{F F' H H' B F0:Hp}
theorem SL.putS {x:ai}{d:D}{ms:List Mo}{ρ:Env}{σ:St}{fp:List ai}{i:Nat}(h0:SL K ct F B H ms ρ σ fp):fp.Nodup->ms[i]?=some (.so x)->ρ[i]?=some (some d) ->
  σ[i]?=some (some (.ref x))/\Ow K ct F H 1 d (.ref x) [x]/\x∈fp/\∀(F' H':Hp) (d':D),bQ F F'->(∀a∈fp,a≠x->H' a=H a/\F' a=none)->Ow K ct F' H' 1 d' (.ref x) [x]->SL K ct F' B H' ms (ρ.set i (some d')) σ fp:=by
 induction h0 generalizing i with
 |nil=>
  intro _ e _
  simp at e
 |@no m0 o0 ms ρ σ fp t ih=>
  intro nd e e'
  cases i with
  |zero=>
   have e:=e'
   simp at e
  |succ i=>
   obtain⟨h1,h2,h3,h4⟩:=ih (i:=i) nd (by simpa using e) (by simpa using e')
   exact⟨by simpa using h1,h2,h3,λF' H' d' s k o=>.no (h4 F' H' d' s k o)⟩
 |@al n0 d0 v0 ms ρ σ fp h t ih=>
  intro nd e e'
  cases i with
  |zero=>
   simp at e
  |succ i=>
   obtain⟨h1,h2,h3,h4⟩:=ih (i:=i) nd (by simpa using e) (by simpa using e')
   exact⟨by simpa using h1,h2,h3,λF' H' d' s k o=>.al (h.mono s (.refl _)) (h4 F' H' d' s k o)⟩
 |@px d0 v0 ms ρ σ fp h t ih=>
  intro nd e e'
  cases i with
  |zero=>
   simp at e
  |succ i=>
   obtain⟨h1,h2,h3,h4⟩:=ih (i:=i) nd (by simpa using e) (by simpa using e')
   exact⟨by simpa using h1,h2,h3,λF' H' d' s k o=>.px (h.mono s (.refl _)) (h4 F' H' d' s k o)⟩
 |@so d0 y ms ρ σ Lg h t ih=>
  intro nd e e'
  cases i with
  |zero=>
   simp at e e'
   subst e
   subst e'
   obtain⟨n1,n2⟩:=bw.mp nd
   exact⟨rfl,h,aa,λF' H' d' s k o=>.so o (t.frame s λa z=>k a (ah _ z) λe=>n1 (e▸z))⟩
  |succ i=>
   obtain⟨n1,n2⟩:=bw.mp nd
   obtain⟨h1,h2,h3,h4⟩:=ih (i:=i) n2 (by simpa using e) (by simpa using e')
   refine⟨by simpa using h1,h2,ah _ h3,λF' H' d' s k o=>.so (h.frame s λa z=>?_) (h4 F' H' d' s (λa z=>k a (ah _ z)) o)⟩
   rw[ax]at z
   subst z
   exact k a aa λe=>n1 (e▸h3)
 |@ow n0 d0 v0 ms ρ σ f Lg h t ih=>
  intro nd e e'
  cases i with
  |zero=>
   simp at e
  |succ i=>
   obtain⟨n1,n2,n3⟩:=bj.mp nd
   obtain⟨h1,h2,h3,h4⟩:=ih (i:=i) n2 (by simpa using e) (by simpa using e')
   refine⟨by simpa using h1,h2,aw _ h3,λF' H' d' s k o=>.ow (h.frame s λa z=>?_) (h4 F' H' d' s (λa z=>k a (aw _ z)) o)⟩
   exact k a (bg _ z) λe=>n3 a z x h3 e
theorem RS.changeS {ms:List Mo}{ρ:Env}{σ:St}{i:Nat}{d d':D}{ad:ai}{o:HO}(rs:RS K ct F0 B ms F H ρ σ)(hm:ms[i]?=some (.so ad))(hρ:ρ[i]?=some (some d))(x:gu F H F' H')(Lb:F' ad=none)(o':Ow K ct F' (upd H' ad o) 1 d' (.ref ad) [ad]) :
  RS K ct F0 B ms F' (upd H' ad o) (ρ.set i (some d')) σ:=by
 have r:=rs.ext x
 obtain⟨fp,sl,nd,hb⟩:=rs.sl
 obtain⟨h1,h2,h3,h4⟩:=sl.putS nd hm hρ
 have hB:B ad=none:=hb ad h3
 refine⟨r.f0,λz u h=>?_,λz u h=>?_,r.nf,fp,h4 F' _ d' x.ff (λa z ne=>?_) o',nd,hb⟩
 ·rw[yo (λe=>by rw[e,hB]at h;cases h)];exact r.bh _ _ h
 ·rw[yo (λe=>by rw[e,Lb]at h;cases h)];exact x.fh _ _ h
 ·obtain⟨hn,o,ho⟩:=sl.cells a z
  rw[yo ne]
  exact⟨(x.hh _ _ ho).trans ho.symm,x.nf a o ho hn⟩
theorem RS.so_at {ms:List Mo}{ρ:Env}{σ:St}{i:Nat}{d:D}{ad:ai}(rs:RS K ct F0 B ms F H ρ σ)(hm:ms[i]?=some (.so ad))(hρ:ρ[i]?=some (some d)):σ[i]?=some (some (.ref ad))/\Ow K ct F H 1 d (.ref ad) [ad]/\B ad=none:=by
 obtain⟨fp,sl,nd,hb⟩:=rs.sl
 obtain⟨h1,h2,h3,h4⟩:=sl.putS nd hm hρ
 exact⟨h1,h2,hb _ h3⟩
end
section
variable {X:Cx}{ct:Nat->ai}{ms:List Mo}{rk n m k:Nat}{st:bR}{rest:List bR}{a b c e tg:Expr}{f g h:EF}{p q:BF}{u w:SF}{pos:cW}
theorem zoz (i:Nat){xa:ai}{x:aR}{j:Expr}{p1 gc:cW}{fj:EF}(hm:ms[i]?=some (.so xa))(hj:XE X ct ms n j fj)(he:XE X ct ms 0 e f)(hN:X.N[i]?=some x:=by rfl)(hv:ou X.env.scope x:=by first|exact Or.inl rfl|exact Or.inr (Or.inl rfl)|exact Or.inr (Or.inr rfl))(hd:(x==("__debug__":aR))=false:=by decide)
  (iL:(x==("__classdict__":aR))=false:=by decide)
  (ha:∀v,gI (.Subscript (.Name x p1) j gc) X.env v=(do
   let ov ← d7 [v] (bF (.Name x p1) X.env)
   let iv ← d7 [v,ov] (bF j X.env)
   gN gc
   d7 [v,ov,iv] (mV ov iv v)
   rZ [v,ov,iv] []):=by intro _;rfl)
  (hs:gP [.Subscript (.Name x p1) j gc] e pos.line X.env=pure false:=by rfl) (hw:gO [.Subscript (.Name x p1) j gc] e X.env=pure none:=by rfl)
  (h1:(cQ [.Subscript (.Name x p1) j gc] X.env).map (·.2)=[gI (.Subscript (.Name x p1) j gc) X.env]:=by rfl) :
  XS X ct ms rk (.Assign [.Subscript (.Name x p1) j gc] e pos) (o6 i fj f):=by
 obtain⟨t,pt,qt⟩:=he
 obtain⟨tj,vJ,vL⟩:=hj
 refine⟨_,N3 pt (Tb (jo hN hv hd iL) vJ Nn ha) hs hw h1,λF0 B F H ρ σ o E rs e z=>?_⟩
 obtain⟨d,g1,g2⟩:=aT e
 obtain⟨d1,qF,g3,g4,g5⟩:=dD g2
 refine qt F0 B F H ρ σ d _ rs g1 λv0 F1 H1 x1 l0=>?_
 have jL:=rs.ext x1
 obtain⟨hσ,ow,hB⟩:=jL.so_at hm (yf g3)
 refine⟨_,hσ,vL F0 B F1 H1 ρ σ qF _ jL g4 λvj F2 H2 x2 lj=>?_⟩
 cases d1 with
 |lst ds=>
  cases qF with
  |int zi=>
   obtain⟨nS,g6,g7⟩:=aT g5
   cases g7
   obtain⟨jn,g8,g9⟩:=aT g6
   cases g9
   obtain⟨ad,vs,mY,ea,ef,hF,hH,ol⟩:=ow.lst_inv
   cases ea
   cases ef
   have hA:H2 xa=some (.lst vs):=x2.hh _ _ hH
   have fA:F2 xa=none:=x2.nf xa _ hH hF
   refine⟨xa,vs,zi,jn,rfl,lj.int,hA,by rw[←ol.length];exact g8,?_⟩
   exact z σ F2 _ (jL.changeS hm (yf g3) x2 fA (.inr (.lst fA yx (OwL.set0 ⟨Dt.mono x2.ff l0,rfl⟩ (λ_ _ _ q=>q.2) jn (ol.mono λ_ _ _ _ q=>⟨q.1.mono x2.ff,q.2⟩)))))
  |_=>cases g5
 |_=>cases g5
theorem zo0 (i:Nat){xa:ai}{x:aR}{j:Expr}{p1 gc:cW}{fj:EF}(hm:ms[i]?=some (.so xa))(hu:X.A.units+1<fX)(hj:XE X ct ms 0 j fj)(he:XE X ct ms 0 e f)(hN:X.N[i]?=some x:=by rfl)(hv:ou X.env.scope x:=by first|exact Or.inl rfl|exact Or.inr (Or.inl rfl)|exact Or.inr (Or.inr rfl))(hd:(x==("__debug__":aR))=false:=by decide)
  (iL:(x==("__classdict__":aR))=false:=by decide) (hs:dW e (some (.Subscript (.Name x p1) j gc)) pos.line X.env=pure false:=by rfl) :
  XS X ct ms rk (.Assign [.Subscript (.Name x p1) j gc] e pos) (iR i fj f):=by
 obtain⟨t,pt,qt⟩:=he
 obtain⟨tj,vJ,vL⟩:=hj
 refine⟨_,Sj hu (jo hN hv hd iL) vJ pt hs,λF0 B F H ρ σ o E rs e z=>?_⟩
 obtain⟨d,g1,g2⟩:=aT e
 obtain⟨d1,qF,g3,g4,g5⟩:=dD g2
 refine qt F0 B F H ρ σ d _ rs g1 λv0 F1 H1 x1 l0=>?_
 have jL:=rs.ext x1
 obtain⟨hσ,ow,hB⟩:=jL.so_at hm (yf g3)
 refine⟨_,hσ,vL F0 B F1 H1 ρ σ qF _ jL g4 λvj F2 H2 x2 lj=>?_⟩
 have FV:Dt X.K ct F2 d v0:=Dt.mono x2.ff l0
 cases d1 with
 |dK ks ds=>
  dsimp only at g5
  obtain⟨key,g6,g7⟩:=aT g5
  by_cases hz:ks.length<16777216
  ·rw[if_pos hz]at g7
   cases g7
   obtain⟨ad,vs,mY,ea,ef,hF,hH,hl,ol⟩:=ow.dK_inv
   cases ea
   cases ef
   have hA:=x2.hh _ _ hH
   have fA:F2 xa=none:=x2.nf xa _ hH hF
   have hp:Pr (Dt X.K ct F2) ds vs:=ol.pr λ_ _ _ _ q=>q.1.mono x2.ff
   obtain⟨us,Ay,Az,AA⟩:=Jl FV key hl hp
   have hk:=JR g6 lj
   subst hk
   refine⟨xa,_,rfl,m6.k hA (by rw[eK,←hl,gS,cH];exact hz),?_⟩
   rw[Ay]
   exact z σ F2 _ (jL.changeS hm (yf g3) x2 fA (.inr (.dK fA yx Az (OwL.ofPr (AA.mono λ_ _ q=>⟨q,rfl⟩)))))
  ·rw[if_neg hz]at g7;cases g7
 |dT ks ds=>
  cases qF with
  |tup js=>
   dsimp only at g5
   obtain⟨key,g6,g7⟩:=aT g5
   by_cases hz:ks.length<16777216
   ·rw[if_pos hz]at g7
    cases g7
    obtain⟨ad,vs,mY,ea,ef,hF,hH,hl,ol⟩:=ow.dT_inv
    cases ea
    cases ef
    have hA:=x2.hh _ _ hH
    have fA:F2 xa=none:=x2.nf xa _ hH hF
    have hp:Pr (Dt X.K ct F2) ds vs:=ol.pr λ_ _ _ _ q=>q.1.mono x2.ff
    obtain⟨us,Ay,Az,AA⟩:=Jl FV key hl hp
    obtain⟨bd,ws,rfl,hb,EO⟩:=lj.tup x2.fh
    have hk:=JA g6 EO
    subst hk
    refine⟨xa,_,rfl,m6.t hA hb (by rw[eK,←hl,gS,cH];exact hz),?_⟩
    rw[Ay]
    exact z σ F2 _ (jL.changeS hm (yf g3) x2 fA (.inr (.dT fA yx Az (OwL.ofPr (AA.mono λ_ _ q=>⟨q,rfl⟩)))))
   ·rw[if_neg hz]at g7;cases g7
  |_=>cases g5
 |_=>cases g5
abbrev EM:=Env->Option (D×Env)
def uO (X:Cx)(ct:Nat->ai)(ms:List Mo)(st:List bR)(f:EM):Prop:=∃t,pT X st t/\∀(F0 B F H:Hp) (ρ ρ':Env) (σ:St) (d:D) (E:kL),RS X.K ct F0 B ms F H ρ σ->f ρ=some (d,ρ')->(∀v σ' F' H',RS X.K ct F0 B ms F' H' ρ' σ'->Dt X.K ct F' d v->E.rt v H')->t E σ H
def vF (f:SF)(g:EM):EM:=λρ=>(f ρ).bind λo=>match o with
 |.nx ρ'=>g ρ'
 |_=>none
def AI (f:EF):EM:=λρ=>(f ρ).bind λd=>some (d,ρ)
theorem zuv (he:XE X ct ms 0 e f):uO X ct ms [.Return (some e) pos] (AI f):=by
 obtain⟨t,pt,qt⟩:=he
 refine⟨_,Sb (JK pt),λF0 B F H ρ ρ' σ d E rs e z=>?_⟩
 obtain⟨d',h1,h2⟩:=aT e
 cases h2
 exact qt F0 B F H ρ σ _ _ rs h1 λv F' H' x l=>z v σ F' H' (rs.ext x) l
theorem SC {gm:EM}(h1:XS X ct ms 0 st u)(h2:uO X ct ms rest gm):uO X ct ms (st::rest) (vF u gm):=by
 obtain⟨t,pt,qt⟩:=h1
 obtain⟨t2,lR,oZ⟩:=h2
 refine⟨_,Rz pt lR,λF0 B F H ρ ρ' σ d E rs e z=>?_⟩
 obtain⟨o1,e1,e2⟩:=aT e
 refine qt F0 B F H ρ σ o1 _ rs e1 ?_
 cases o1 with
 |nx ρ1=>exactλσ' F' H' Mz=>oZ F0 B F' H' ρ1 ρ' σ' d E Mz e2 z
 |rt d=>cases e2
 |bk ρ'=>cases e2
 |ct ρ'=>cases e2
end
theorem SL.app {K:ae}{ct:Nat->ai}{F B H:Hp}{PU:List Mo}{ρ2:Env}{σ2:St}{OZ:List ai}(h2:SL K ct F B H PU ρ2 σ2 OZ){ms:List Mo}{ρ:Env}{σ:St}{fp:List ai}(h0:SL K ct F B H ms ρ σ fp):SL K ct F B H (ms++PU) (ρ ++ ρ2) (σ ++ σ2) (fp++OZ):=by
 induction h0 with
 |nil=>
  exact h2
 |@no m0 o0 ms ρ σ fp t ih=>
  exact .no ih
 |@al n0 d0 v0 ms ρ σ fp h t ih=>
  exact .al h ih
 |@px d0 v0 ms ρ σ fp h t ih=>
  exact .px h ih
 |@so d0 x0 ms ρ σ Lg h t ih=>
  exact .so h ih
 |@ow n0 d0 v0 ms ρ σ f0 Lg h t ih=>
  rw[eP]
  exact .ow h ih
theorem SL.none {K:ae}{ct:Nat->ai}{F B H:Hp}:∀(ms:List Mo),SL K ct F B H ms (aA ms.length none) (aA ms.length none) []
 |[]=>.nil
 |m::ms=>.no (SL.none ms)
theorem SL.start0 {K:ae}{ct:Nat->ai}{F B H:Hp}:∀{ds:List D} {us:List V},Pr (Dt K ct F) ds us->SL K ct F B H (aA ds.length (Mo.ow 0)) (ds.map some) (us.map some) []
 |_,_,.nil=>.nil
 |_,_,.cons h t=>SL.ow (f:=[]) (Ow.zero h) (SL.start0 t)
def Bd (K:ae)(ct:Nat->ai)(n:Nat)(mf:List D->Option D):Sp:=λvs H Q _=>∃(F:Hp) (ds:List D) (us:List V) (d p q p' q':D) (a b:ai),vs=us++[.ref a,.ref b]/\ds.length=n/\bQ F H/\Pr (Dt K ct F) ds us/\a≠b/\Ow K ct F H 1 p (.ref a) [a]/\Ow K ct F H 1 q (.ref b) [b]/\mf (ds++[p,q])=some (.tup [d,p',q']) /\
 ∀v F' H',bQ F F'->(∀x o,H x=some o->x≠a->x≠b->H' x=some o)->bQ F' H'->(∀x o,H x=some o->F x=none->F' x=none)->Ow K ct F' H' 1 p' (.ref a) [a]->Ow K ct F' H' 1 q' (.ref b) [b]->Dt K ct F' d v->Q v H'
theorem Bd.len {K:ae}{ct:Nat->ai}{n:Nat}{mf:List D->Option D}{ps:List aR}(h:n+2=ps.length):∀vs H Q E,Bd K ct n mf vs H Q E->vs.length=ps.length:=by
 rintro vs H Q E ⟨F,ds,us,d,p,q,p',q',a,b,rfl,hn,_,l,_⟩
 rw[←h,←hn,l.length,aW]
 rfl
def AH (n:Nat)(N:List aR)(bf:EM)(ds:List D):Option D:=(bf (startD N ds)).bind λr=>(r.2[n]?).join.bind λp=>(r.2[n+1]?).join.bind λq=>some (.tup [r.1,p,q])
theorem zo1 {ct:Nat->ai}{P:bx}{w:bY}{K:ae}{mg:aR->Option af}{base:aX}{x qual:aR}{st:bR}{fa:ai}{fd:aH}{N ps:List aR}{kk n:Nat}{ms:List Mo}{bf:EM}(Fn:Fun2 K x qual st fa fd)(S:bp N ps (aJ st))(Au:n+2=ps.length)(Iy:n+2+ms.length=N.length)
  (body:∀(a b:ai) (hU:af) (A:bT) (outer:List PySem.Env) (s:ak) (H:Hp) (E:XK),eA kk (A.deeper (envOfC qual (aJ st) s.heap.objs.size fa hU))->uO (ng eJ P w K mg base N qual (aJ st) fa hU A outer s H E).nox ct (aA n (Mo.ow 0) ++ .so a::.so b::ms) (gH st) bf) :
  cz P w K mg base eJ (kk+1) fa fd ps (Bd K ct n (AH n N bf)):=by
 refine Fn.ok S (Bd.len Au) λhU A outer s H vs Q E hr h=>?_
 obtain⟨F,ds,us,d,p,q,p',q',a,b,rfl,hn,sF,l,rA,oa,ob,hm,z⟩:=h
 subst hn
 obtain⟨t,pt,qt⟩:=body a b hU A outer s H E hr
 refine⟨t,pt,?_⟩
 obtain⟨⟨d1,ρ'⟩,h1,h2⟩:=aT hm
 obtain⟨p1,h3,h4⟩:=aT h2
 obtain⟨q1,h5,h6⟩:=aT h4
 cases h6
 have Pt:us.length=ds.length:=l.length.symm
 have La:=(oa.cells a aa).1
 have Lc:=(ob.cells b aa).1
 have X8:bQ F (lE (lE H a) b):=λy o hy=>by
  rw[jr (λe=>by rw[e,Lc]at hy;cases hy),jr (λe=>by rw[e,La]at hy;cases hy)]
  exact sF _ _ hy
 have hB:bQ (lE (lE H a) b) H:=(Jk _ _).trans (Jk _ _)
 refine qt F (lE (lE H a) b) F H (startD N (ds++[p,q])) ρ' (L2.start N (us++[.ref a,.ref b])) d1 _ ⟨.refl _,hB,sF,λ_ _ _ h=>h,[a,b],?_,by simp[rA],λy hy=>?_⟩ h1 ?_
 ·have e1:startD N (ds++[p,q])=ds.map some++(some p::some q::aA ms.length none):=by
   unfold startD
   rw[show N.length-(ds++[p,q]).length=ms.length by rw[aW];simp;omega]
   simp
  have e2:L2.start N (us++[.ref a,.ref b])=us.map some++(some (.ref a)::some (.ref b)::aA ms.length none):=by
   unfold L2.start
   rw[show N.length-(us++[V.ref a,V.ref b]).length=ms.length by rw[aW];simp;omega]
   simp
  rw[e1,e2]
  have:=SL.app (.so oa (.so ob (SL.none (K:=K) (ct:=ct) (F:=F) (B:=lE (lE H a) b) (H:=H) ms))) (SL.start0 (B:=lE (lE H a) b) (H:=H) l)
  have h7:SL K ct F (lE (lE H a) b) H (aA ds.length (Mo.ow 0)++Mo.so a::Mo.so b::ms) (ds.map some++(some p::some q::aA ms.length none)) (us.map some++(some (.ref a)::some (.ref b)::aA ms.length none)) [a,b]:=by simpa using this
  exact h7
 ·simp at hy
  rcases hy with rfl|rfl
  ·rw[jr rA];exact JU _ _
  ·exact JU _ _
 ·intro v σ' F' H' r dt
  obtain⟨_,o1,_⟩:=r.so_at (i:=ds.length) (ad:=a) (by simp) (yf h3)
  obtain⟨_,o2,_⟩:=r.so_at (i:=ds.length+1) (ad:=b) (by simp) (yf h5)
  refine z v F' H' r.f0 (λy o hy n1 n2=>r.bh _ _ (by rw[jr n2,jr n1];exact hy)) r.fh (λy o hy hn=>?_) o1 o2 dt
  by_cases ea:y=a
  ·subst ea;exact(o1.cells _ aa).1
  by_cases eb:y=b
  ·subst eb;exact(o2.cells _ aa).1
  exact r.nf y o (by rw[jr eb,jr ea];exact hy) hn
section
variable {X:Cx}{ct:Nat->ai}{ms:List Mo}{rk n m k:Nat}{st:bR}{rest:List bR}{a b c e tg:Expr}{f g h:EF}{p q:BF}{u w:SF}{pos:cW}{i j:Nat}
def HX (X:Cx)(ct:Nat->ai)(ms:List Mo)(i j:Nat)(es:List Expr)(f:Env->Option (List D)):Prop:=∃t,PA X es t/\∀(F0 B F H:Hp) (ρ:Env) (σ:St) (ds:List D) (a b:ai) (Q:List V->Hp->Prop),RS X.K ct F0 B ms F H ρ σ->f ρ=some ds->σ[i]?=some (some (.ref a))->σ[j]?=some (some (.ref b)) ->
 (∀us F' H',gu F H F' H'->Pr (Dt X.K ct F') ds us->Q (us++[.ref a,.ref b]) H')->t σ H Q
theorem zsb {x y:aR}{p1 p2:cW}(hN:X.N[i]?=some x:=by rfl)(hv:ou X.env.scope x:=by first|exact Or.inl rfl|exact Or.inr (Or.inl rfl)|exact Or.inr (Or.inr rfl))(hd:(x==("__debug__":aR))=false:=by decide)(iL:(x==("__classdict__":aR))=false:=by decide)
  (wU:X.N[j]?=some y:=by rfl) (L8:ou X.env.scope y:=by first|exact Or.inl rfl|exact Or.inr (Or.inl rfl)|exact Or.inr (Or.inr rfl)) (hd2:(y==("__debug__":aR))=false:=by decide) (Ai:(y==("__classdict__":aR))=false:=by decide) :
  HX X ct ms i j [.Name x p1,.Name y p2] aNil:=by
 refine⟨_,v4 (jo hN hv hd iL) (v4 (jo wU L8 hd2 Ai) tP),λF0 B F H ρ σ ds a b Q rs e ha hb z=>?_⟩
 cases e
 exact⟨_,ha,_,hb,z [] F H (.refl rs.fh) .nil⟩
theorem NG {es:List Expr}{fs:Env->Option (List D)}(h1:XE X ct ms 0 a f)(h2:HX X ct ms i j es fs)(hs:ao (a::es) X.env=(false,bF a X.env)::ao es X.env:=by rfl):HX X ct ms i j (a::es) (aCons f fs):=by
 obtain⟨t,pt,qt⟩:=h1
 obtain⟨t2,lR,oZ⟩:=h2
 refine⟨_,v4 pt lR hs,λF0 B F H ρ σ ds xa xb Q rs e ha hb z=>?_⟩
 obtain⟨d,nS,g1,g2,g3⟩:=dD e
 cases g3
 refine qt F0 B F H ρ σ d _ rs g1 λv F1 H1 x1 l=>?_
 exact oZ F0 B F1 H1 ρ σ nS xa xb _ (rs.ext x1) g2 ha hb λus F2 H2 x2 l2=>z (v::us) F2 H2 (x1.trans x2) (.cons (Dt.mono x2.ff l) l2)
def XM (X:Cx)(ct:Nat->ai)(ms:List Mo)(e:Expr)(g:EM):Prop:=∃t,PE X e t/\∀(F0 B F H:Hp) (ρ ρ':Env) (σ:St) (d:D) (Q:VK),RS X.K ct F0 B ms F H ρ σ->g ρ=some (d,ρ')->(∀v F' H',RS X.K ct F0 B ms F' H' ρ' σ->Dt X.K ct F' d v->Q v H')->t σ H Q
def mB (i j:Nat)(fs:Env->Option (List D))(mf:List D->Option D):EM:=λρ=>(fs ρ).bind λds=>(eV i ρ).bind λp=>(eV j ρ).bind λq=>if iM p=true/\iM q=true then(mf (ds++[p,q])).bind λr=>match r with
 |.tup [d,p',q']=>some (d,(ρ.set i (some p')).set j (some q'))
 |_=>none else none
theorem RX {σ:St}{i:Nat}{v:V}(h:σ[i]?=some (some v)):σ.set i (some v) = σ:=by
 apply kF
 intro k
 rw[rS]
 by_cases e:i=k
 ·subst e
  rw[if_pos rfl]
  by_cases hl:i < σ.length
  ·rw[if_pos hl,h]
  ·rw[if_neg hl,pj (by omega)]
 ·rw[if_neg e]
theorem RS.two {K:ae}{F0 B F H:Hp}{ρ:Env}{σ:St}{p q:D}(rs:RS K ct F0 B ms F H ρ σ)(si:i≠j)(Bt:ms[i]?=some (.ow 1))(xA:ms[j]?=some (.ow 1))(hp:ρ[i]?=some (some p))(hq:ρ[j]?=some (some q))(cp:iM p=true)(cq:iM q=true) :
  ∃a b,σ[i]?=some (some (.ref a))/\σ[j]?=some (some (.ref b))/\a≠b/\Ow K ct F H 1 p (.ref a) [a]/\Ow K ct F H 1 q (.ref b) [b]/\B a=none/\B b=none /\
   ∀(F' H':Hp) (p' q':D),bQ F F'->(∀x o,H x=some o->x≠a->x≠b->H' x=some o)->bQ F' H'->(∀x o,H x=some o->F x=none->F' x=none)->Ow K ct F' H' 1 p' (.ref a) [a]->Ow K ct F' H' 1 q' (.ref b) [b]->RS K ct F0 B ms F' H' ((ρ.set i (some p')).set j (some q')) σ:=by
 obtain⟨f1,fr,n1,b1,dj,i4,cf,put⟩:=rs.put (F':=F) (H':=H) Bt
 obtain⟨v,hσ,ow⟩:=i4 p hp
 obtain⟨a,rfl,rfl⟩:=ow.cell cp
 obtain⟨f2,O0,n2,b2,dj2,Wc,cf2,put2⟩:=rs.put (F':=F) (H':=H) xA
 obtain⟨v2,t9,Gg⟩:=Wc q hq
 obtain⟨b,rfl,rfl⟩:=Gg.cell cq
 have ca:=ow.cells a aa
 have cb:=Gg.cells b aa
 have rA:a≠b:=by
  intro e
  subst e
  have r1:=put F (lE H a) (.non) .non [] (.refl _) (λy o hy=>by rw[jr (λe=>by rw[e,b1 a aa]at hy;cases hy)];exact rs.bh _ _ hy) (λy o hy=>by rw[jr (λe=>by rw[e,ca.1]at hy;cases hy)];exact rs.fh _ _ hy) rs.nf
   (λy hy=>⟨jr (λe=>dj a aa (e▸hy)),(cf y hy).1⟩) (Ow.scal .non rfl) bA (λy hy=>by cases hy) (λy hy=>by cases hy)
  obtain⟨f3,Im,n3,b3,Kt,Mc,OE,put3⟩:=r1.put (F':=F) (H':=H) xA
  obtain⟨v3,E4,IN⟩:=Mc q (by rw[cO si];exact hq)
  obtain⟨a3,rfl,rfl⟩:=IN.cell cq
  rw[cO si,t9]at E4
  cases E4
  obtain⟨o,ho⟩:=(IN.cells a aa).2
  rw[JU]at ho
  cases ho
 refine⟨a,b,hσ,t9,rA,ow,Gg,b1 a aa,b2 b aa,λF' H' p' q' s1 kH s3 nf o1 o2=>?_⟩
 have Ba:=b1 a aa
 have Bb:=b2 b aa
 have La:=(o1.cells a aa).1
 have Lc:=(o2.cells b aa).1
 obtain⟨ob,VW⟩:=cb.2
 have hm:∀y,y≠b->upd H' b ob y=H' y:=λy ne=>yo ne
 have r1:=put F' (upd H' b ob) p' (.ref a) [a] s1 (λy o hy=>by
   have na:y≠a:=λe=>by rw[e,Ba]at hy;cases hy
   have nb:y≠b:=λe=>by rw[e,Bb]at hy;cases hy
   rw[hm y nb]
   exact kH y o (rs.bh _ _ hy) na nb) (λy o hy=>by
   rw[hm y (λe=>by rw[e,Lc]at hy;cases hy)]
   exact s3 _ _ hy) (λy o hy hn=>nf y o (rs.bh _ _ hy) (rs.nf y o hy hn)) (λy hy=>by
   obtain⟨hn,o,ho⟩:=cf y hy
   refine⟨?_,nf y o ho hn⟩
   have na:y≠a:=λe=>dj a aa (e▸hy)
   by_cases nb:y=b
   ·subst nb;rw[yx,VW]
   ·rw[hm y nb,kH y o ho na nb,ho]) (o1.frame (.refl _) λy hy=>by
   rw[ax]at hy
   subst hy
   exact⟨hm _ rA,La⟩) (by simp) (λy hy=>by
   rw[ax]at hy
   subst hy
   exact dj _ aa) (λy hy=>by
   rw[ax]at hy
   subst hy
   exact Ba)
 rw[RX hσ]at r1
 obtain⟨f3,Im,n3,b3,Kt,Mc,OE,put3⟩:=r1.put (F':=F) (H':=H) xA
 obtain⟨v3,E4,IN⟩:=Mc q (by rw[cO si];exact hq)
 obtain⟨a3,rfl,rfl⟩:=IN.cell cq
 rw[t9]at E4
 cases E4
 have r2:=put3 F' H' q' (.ref b) [b] (.refl _) (λy o hy=>by
   have na:y≠a:=λe=>by rw[e,Ba]at hy;cases hy
   have nb:y≠b:=λe=>by rw[e,Bb]at hy;cases hy
   exact kH y o (rs.bh _ _ hy) na nb) s3 r1.nf (λy hy=>by
   have nb:y≠b:=λe=>Kt b aa (e▸hy)
   exact⟨(hm y nb).symm,(OE y hy).1⟩) o2 (by simp) (λy hy=>by
   rw[ax]at hy
   subst hy
   exact Kt _ aa) (λy hy=>by
   rw[ax]at hy
   subst hy
   exact Bb)
 rw[RX t9]at r2
 exact r2
variable {kk:Nat}{fa:ai}{fd:aH}{ps:List aR}{mf:List D->Option D}{x:aR}{pp:cW}
theorem zsc {es:List Expr}{fs:Env->Option (List D)}{lC:List af}(si:i≠j)(Bt:ms[i]?=some (.ow 1))(xA:ms[j]?=some (.ow 1))(Fn:cz X.prog X.w X.K X.mg X.base eJ kk fa fd ps (Bd X.K ct n mf))(hr:eA kk X.A)(hg:Gl X x)(hm:X.mg x=some (.ref fa))(hk:am X.K (.ref fa)=true)
  (hb:bC X.K fd ps lC) (hd:bX [] lC) (hn:∀ρ ds,fs ρ=some ds->ds.length=n) (ha:HX X ct ms i j (e::es) fs)
  (kP:(x==("__debug__":aR))=false:=by decide) (he:ao (e::es) X.env=(false,bF e X.env)::ao es X.env:=by rfl) (iy:(cy pos (ao es X.env)).any (·.1)=false:=by rfl) :
  XM X ct ms (.Call (.Name x pp) (e::es) [] pos) (mB i j fs mf):=by
 obtain⟨t,pt,qt⟩:=ha
 refine⟨_,R9 Fn hr hg hm hk hb hd nH pt kP he iy,λF0 B F H ρ ρ' σ d Q rs e z=>?_⟩
 obtain⟨ds,h1,h2⟩:=aT e
 obtain⟨p,h3,h4⟩:=aT h2
 obtain⟨q,h5,h6⟩:=aT h4
 by_cases hc:iM p=true/\iM q=true
 ·rw[if_pos hc]at h6
  obtain⟨r,h7,h8⟩:=aT h6
  have:∃p' q',r=.tup [d,p',q']/\ρ'=(ρ.set i (some p')).set j (some q'):=by
   split at h8
   ·cases h8;exact⟨_,_,rfl,rfl⟩
   ·cases h8
  obtain⟨p',q',rfl,rfl⟩:=this
  obtain⟨a0,b0,hσ,t9,_⟩:=rs.two si Bt xA (yf h3) (yf h5) hc.1 hc.2
  refine qt F0 B F H ρ σ ds a0 b0 _ rs h1 hσ t9 λus F1 H1 x1 l=>?_
  obtain⟨a,b,AC,E3,rA,oa,ob,Ba,Bb,put⟩:=(rs.ext x1).two si Bt xA (yf h3) (yf h5) hc.1 hc.2
  rw[hσ]at AC
  rw[t9]at E3
  cases AC
  cases E3
  refine⟨F1,ds,us,d,p,q,p',q',a0,b0,by simp,hn _ _ h1,x1.fh,l,rA,oa,ob,h7,λv F' H' s1 kH s3 nf o1 o2 dt=>?_⟩
  exact z v F' H' (put F' H' p' q' s1 kH s3 nf o1 o2) dt
 ·rw[if_neg hc]at h6;cases h6
theorem zuw:∀(ρ:Env) (ds:List D),aNil ρ=some ds->ds.length=0:=λρ ds e=>by cases e;rfl
theorem NU {fs:Env->Option (List D)}(h:∀(ρ:Env) (ds:List D),fs ρ=some ds->ds.length=n):∀(ρ:Env) (ds:List D),aCons f fs ρ=some ds->ds.length=n+1:=λρ ds e=>by
 obtain⟨x,xs,h1,h2,h3⟩:=dD e
 cases h3
 rw[aV,h ρ xs h2]
def nJ (i:Nat)(g:EM):SF:=λρ=>(g ρ).bind λr=>some (.nx (r.2.set i (some r.1)))
theorem zsd {i:Nat}{x:aR}{pos':cW}{gm:EM}(hm:ms[i]?=some (.ow 0))(hN:X.N.Nodup)(hi:X.N[i]?=some x)(hx:Loc X.env.scope x)(he:XM X ct ms e gm)(hs:dW e (some (.Name x pos')) pos.line X.env=pure false:=by rfl)
  (hf:X.fn x=true\/X.env.scope.names.lookup x=some .local:=by first|exact .inl rfl|exact .inr rfl|assumption):XS X ct ms rk (.Assign [.Name x pos'] e pos) (nJ i gm):=by
 obtain⟨t,pt,qt⟩:=he
 refine⟨_,Tc hN hi hx pt hs hf,λF0 B F H ρ σ o E rs e w=>?_⟩
 obtain⟨⟨d,ρ'⟩,h1,h2⟩:=aT e
 cases h2
 exact qt F0 B F H ρ ρ' σ d _ rs h1 λv F' H' r l=>w _ F' H' (r.set hm (.refl r.fh) (Ow.zero l) bA λa z=>(by cases z))
end
end L3
namespace L2
open PySem PySem.Spec
open PyProof.Rows hiding St
section
variable {X:Cx}{pos:cW}
end
end L2
namespace L3
open PySem PySem.Spec L2
open PyProof.Rows hiding St
section
variable {X:Cx}{ct:Nat->ai}{ms:List Mo}{n:Nat}{pos:cW}
def gL (gs:List D->Env->Option Env):D->Env->Option Env:=λd ρ=>match d with
 |.lst ds=>gs ds ρ
 |_=>none
end
end L3
namespace L3
open PySem PySem.Spec L2
open PyProof.Rows hiding St
section
variable {X:Cx}{ct:Nat->ai}{ms:List Mo}{rk n m k i:Nat}{a b c e:Expr}{f g h:EF}{pos:cW}
end
end L3
namespace L3
open PySem PySem.Spec L2
open PyProof.Rows hiding St
section
variable {X:Cx}{ct:Nat->ai}{ms:List Mo}{rk n m k:Nat}{a b c e o:Expr}{f g h:EF}{pos:cW}
end
end L3
namespace L2
open PySem PySem.Spec
open PyProof.Rows hiding St
section
variable {X:Cx}{CX:sf}{k:Nat}{f C:ai}{fd:aH}{ps ks:List aR}{sp:Sp}{E:XK}{x m:aR}{p pos dB AG:cW}{e o:Expr}{es:List Expr}{kws:List fS}{te ta:TE}{t tk:TA}{nm:Option aR}
variable {g:List af->List af->List af}{gV:List V->List V->List V}
end
end L2
namespace L3
open PySem PySem.Spec L2
open PyProof.Rows hiding St
section
variable {X:Cx}{ct:Nat->ai}{ms:List Mo}{rk n m k kk:Nat}{e a:Expr}{f:EF}{x:aR}{pp pos AG:cW}{fa:ai}{fd:aH}{ps ks:List aR}{pm cs:List Nat}{mi:Nat->List D->Option D}
end
end L3
namespace L3
open PySem PySem.Spec L2
open PyProof.Rows hiding St
section
variable {X:Cx}{ct:Nat->ai}{ms:List Mo}{rk n m k i j:Nat}{a b c e:Expr}{f g h:EF}{pos:cW}
variable {kk:Nat}{fa:ai}{fd:aH}{ps:List aR}{mf:List D->Option D}{x y:aR}{pp:cW}
end
end L3
namespace L3
open PySem PySem.Spec L2
open PyProof.Rows hiding St
open Classical in
open Classical in
section
variable {X:Cx}
end
section
variable {K:ae}{ct:Nat->ai}{n m k:Nat}
end
section
variable {α:Type}[DecidableEq α]
end
end L3
namespace L3
open PySem PySem.Spec L2
open PyProof.Rows hiding St
section
variable {X:Cx}{ct:Nat->ai}{ms:List Mo}{rk n m k:Nat}{st:bR}{rest:List bR}{a b c e tg:Expr}{f g h:EF}{p q:BF}{u w:SF}{pos:cW}{K:ae}
end
end L3
namespace L3
open PySem PySem.Spec L2
open PyProof.Rows hiding St
section
variable {X:Cx}{ct:Nat->ai}{ms:List Mo}{rk n m k kk kq:Nat}{st:bR}{rest:List bR}{a b c e tg:Expr}{f g h:EF}{p q:BF}{u w:SF}{pos pp:cW}{K:ae}{x:aR}{fa:ai}{fd:aH}{ps:List aR}{mf:List D->Option D}
theorem lW (h:XO X ct ms k e f):XO X ct ms 0 e f:=XE.ow (XO.sh (n:=0) h)
theorem kU {own i:Nat}(hN:X.N.Nodup)(ho:i<own:=by decide)(hm:ms[i]?=some (.ow 0):=by rfl)(hi:X.N[i]?=some x:=by rfl)(hx:Loc X.env.scope x:=by first|exact Or.inl rfl|exact Or.inr rfl)
  (hf:X.fn x=true\/X.env.scope.names.lookup x=some .local:=by first|exact .inl rfl|exact .inr rfl|assumption):uM X ct ms own 0 (.Name x pos) (gV i):=zn7 ho hm hN hi hx hf
theorem d4 {i:Nat}{pos':cW}(hN:X.N.Nodup)(he:XO X ct ms k e f)(hm:ms[i]?=some (.ow k):=by rfl)(hi:X.N[i]?=some x:=by rfl)(hx:Loc X.env.scope x:=by first|exact Or.inl rfl|exact Or.inr rfl)
  (hs:dW e (some (.Name x pos')) pos.line X.env=pure false:=by rfl)
  (hf:X.fn x=true\/X.env.scope.names.lookup x=some .local:=by first|exact .inl rfl|exact .inr rfl|assumption):XS X ct ms rk (.Assign [.Name x pos'] e pos) (sSet i f):=zug hm hN hi hx he hs hf
theorem kd {i:Nat}(hN:X.N.Nodup)(hm:ms[i]?=some (.ow 0):=by rfl)(hi:X.N[i]?=some x:=by rfl)(hx:Loc X.env.scope x:=by first|exact Or.inl rfl|exact Or.inr rfl)
  (hf:X.fn x=true\/X.env.scope.names.lookup x=some .local:=by first|exact .inl rfl|exact .inr rfl|assumption):XG X ct ms 0 (.Name x pos) (gV i):=zrc hm hN hi hx hf
theorem cI {es:List Expr}{ns:List Nat}{fs:Env->Option (List D)}(d:ip X.K X.mg x st ps fa fd)(Fn:cz X.prog X.w X.K X.mg X.base eJ kk fa fd ps (fY X.K ct ns rk mf))(hr:eA kq X.A)(ha:XA X ct ms (e::es) ns fs)(mE:kk<=kq:=by decide)(hg:Gl X x:=by rfl)
  (kP:(x==("__debug__":aR))=false:=by decide) (he:ao (e::es) X.env=(false,bF e X.env)::ao es X.env:=by rfl) (iy:(cy pos (ao es X.env)).any (·.1)=false:=by rfl) :
  XO X ct ms rk (.Call (.Name x pp) (e::es) [] pos) (λρ=>(fs ρ).bind λds=>mf (ds++[])) :=
 Sl (ns:=ns) (nd:=[]) (lB:=[]) (by rw[cn];exact Fn) (hr.mono mE) hg d.mgx d.fn.kp d.bd .nil (λ_ _=>.nil) ha kP he iy
theorem oC {om:List Mo}{jG iter:Expr}{ifs:List Expr}{scope:fW}{N:List aR}{own:Nat}{cap:List Nat}{fi:Env->Option (List D)}{gg:D->Env->Option Env}(hi:wQ X ct ms n tg iter fi)
  (hg:∀cl C fp s₀ H₀,uM (iD X scope cl N C fp s₀ H₀) ct (om++gQ ms cap) own n tg gg) (ht:∀cl C fp s₀ H₀,yG (iD X scope cl N C fp s₀ H₀) ct (om++gQ ms cap) ifs p) (he:∀cl C fp s₀ H₀,XO (iD X scope cl N C fp s₀ H₀) ct (om++gQ ms cap) k jG f)
  (B:kj X scope N own cap:=by exact A6 (by rfl)) (hc:X.calm=true:=by rfl) (ho:om.length=own:=by rfl) (fK:∀i∈cap,i<ms.length:=by decide)
  (hs:∀x,dJ iter X.env x=pure x:=by intro _;rfl):XO X ct ms (k+1) (.ListComp jG [⟨tg,iter,ifs,0⟩] scope pos) (dA fi own cap gg p f):=zrh B hc ho fK hi hg ht he hs
theorem ig {P:bx}{w:bY}{mg:aR->Option af}{base:aX}{qual:aR}{N:List aR}{pm:List Nat}{bf:SF}(Fn:Fun2 K x qual st fa fd)(S:bp N ps (aJ st))
  (body:∀(hU:af) (A:bT) (outer:List PySem.Env) (s:ak) (H:Hp) (E:XK),eA kk (A.deeper (envOfC qual (aJ st) s.heap.objs.size fa hU))->rq (ng eJ P w K mg base N qual (aJ st) fa hU A outer s H E).nox ct ms rk (gH st) bf)
  (Au:pm.length=ps.length:=by rfl) (Iy:ms.length=N.length:=by rfl) (mE:ps.length<=N.length:=by decide) (EI:∀(i n:Nat),pm[i]?=some n->ms[i]?=some (Mo.al n)\/(n=0/\ms[i]?=some (Mo.ow 0)):=by exact jx (by decide)) :
  cz P w K mg base eJ (kk+1) fa fd ps (fY K ct pm rk (mOf N bf)):=lift Fn S Au Iy mE EI body
theorem cF {i:Int}{j}:XE X ct ms 0 (.Constant (.int i) j pos) (eC (.int i)):=zue
theorem lY {j}:XE X ct ms 0 (.Constant .none j pos) (eC .non):=zuf
theorem lS (ha:XE X ct ms 0 a f)(hb:XE X ct ms 0 b g):XO X ct ms 1 (.BinOp a .Add b pos) (e2 eG f g):=zv2 zrk (zrl (by decide) (by decide)) ha hb
theorem fG (ha:XE X ct ms 0 a f)(hb:XE X ct ms 0 b g)(hp:lU b:=by exactλ_ _=>rfl):XE X ct ms 0 (.Subscript a b pos) (e2 cP f g):=wD (n:=0) vZ vY ha hb hp
theorem lX {fs:Env->Option (List D)}(hm:X.mg "len"=none)(ha:XA X ct ms [e] [n] fs)(hg:Gl X "len":=by rfl)(he:ao [e] X.env=(false,bF e X.env)::ao [] X.env:=by rfl)(iy:(cy pos (ao [] X.env)).any (·.1)=false:=by rfl):XE X ct ms 0 (.Call (.Name "len" pp) [e] [] pos) (eN dZ fs):=u7 (k:=0) zl0 zrg hg hm zub ha (by decide) (by decide) he iy
theorem Wl {P:List af->Prop}(h:P [])(us:List af)(e:us.length=0):P us:=by
 cases us with
 |nil=>exact h
 |cons a t=>cases e
theorem tq {P:List af->Prop}(h:∀a1,P [a1])(us:List af)(e:us.length=1):P us:=by
 cases us with
 |nil=>cases e
 |cons a t=>exact Wl (P:=λt=>P (a::t)) (h a) t (Nat.succ.inj e)
theorem mJ {P:List af->Prop}(h:∀a1 a2,P [a1,a2])(us:List af)(e:us.length=2):P us:=by
 cases us with
 |nil=>cases e
 |cons a t=>exact tq (P:=λt=>P (a::t)) (h a) t (Nat.succ.inj e)
theorem vE {P:List af->Prop}(h:∀a1 a2 a3,P [a1,a2,a3])(us:List af)(e:us.length=3):P us:=by
 cases us with
 |nil=>cases e
 |cons a t=>exact mJ (P:=λt=>P (a::t)) (h a) t (Nat.succ.inj e)
theorem Bv {P:List af->Prop}(h:∀a1 a2 a3 a4,P [a1,a2,a3,a4])(us:List af)(e:us.length=4):P us:=by
 cases us with
 |nil=>cases e
 |cons a t=>exact vE (P:=λt=>P (a::t)) (h a) t (Nat.succ.inj e)
theorem PQ {P:List af->Prop}(h:∀a1 a2 a3 a4 a5,P [a1,a2,a3,a4,a5])(us:List af)(e:us.length=5):P us:=by
 cases us with
 |nil=>cases e
 |cons a t=>exact Bv (P:=λt=>P (a::t)) (h a) t (Nat.succ.inj e)
end
end L3
namespace L3
open PySem PySem.Spec L2
open PyProof.Rows hiding St
section
variable {K:ae}{ct:Nat->ai}{F B H:Hp}
end
section
variable {X:Cx}{ct:Nat->ai}{ms:List Mo}{rk n m k i j:Nat}{a b c e:Expr}{f g h:EF}{p q:BF}{pos:cW}{K:ae}
end
end L3
namespace Fq
theorem gcd_step (a b:Int):eR b (a.fmod b)=eR a b:=by
 rw[Int.fmod_def,Int.gcd_sub_mul_left_right,Int.gcd_comm]
theorem fmod_less (a:Int){b:Int}(hb:b≠0):(a.fmod b).natAbs<b.natAbs:=by
 rcases Int.lt_or_gt_of_ne hb with h|h
 ·have h1:=rQ (-a) (b:=-b) (by omega)
  have h2:=o9 (-a) (b:=-b) (by omega)
  have e:(-a).fmod (-b) = -(a.fmod b):=Int.neg_fmod_neg ..
  omega
 ·have h1:=rQ a h
  have h2:=o9 a h
  omega
theorem gcd_end (a:Int):(if a<0 then -a else a)=((eR a 0:Nat):Int):=by
 rw[Int.gcd_zero_right]
 split<;>omega
def dv (t b:Int):Int:=if b<0 then -((eR t b:Nat):Int)else((eR t b:Nat):Int)
def mk (t b:Int):Int×Int:=(t.fdiv (dv t b),b.fdiv (dv t b))
structure Low (q:Int×Int):Prop where
 pos:1<=q.2
 cop:eR q.1 q.2=1
theorem gcd_pos {t b:Int}(hb:b≠0):0<eR t b:=Int.gcd_pos_of_ne_zero_right t hb
theorem Oi {t b:Int}(hb:b≠0):dv t b≠0:=by
 have:=gcd_pos (t:=t) hb
 unfold dv;split<;>omega
theorem Tg (t b:Int):(dv t b).natAbs=eR t b:=by
 unfold dv;split<;>omega
theorem dv_le {t b:Int}(hb:b≠0):(dv t b).natAbs<=b.natAbs:=by
 rw[Tg]
 exact Nat.le_of_dvd (by omega) (Int.natAbs_dvd_natAbs.mpr (kW t b)|> λh=>by simpa using h)
theorem QL (t b:Int):dv t b ∣ t:=by
 unfold dv;split
 ·exact Int.neg_dvd.mpr (tR t b)
 ·exact tR t b
theorem QC (t b:Int):dv t b ∣ b:=by
 unfold dv;split
 ·exact Int.neg_dvd.mpr (kW t b)
 ·exact kW t b
theorem mk_one (t b:Int):t=dv t b*(mk t b).1:=by
 show t=dv t b*t.fdiv (dv t b)
 rw[oE (QL t b),p9 (QL t b)]
theorem mk_two (t b:Int):b=dv t b*(mk t b).2:=by
 show b=dv t b*b.fdiv (dv t b)
 rw[oE (QC t b),p9 (QC t b)]
theorem mk_low {t b:Int}(hb:b≠0):Low (mk t b):=by
 have e1:=mk_one t b
 have e2:=mk_two t b
 have hd:=Oi (t:=t) hb
 have hg:=gcd_pos (t:=t) hb
 constructor
 ·have hs:(b<0/\dv t b<0)\/(0<b/\0<dv t b):=by
   unfold dv;split<;>omega
  rcases hs with⟨h1,h2⟩|⟨h1,h2⟩
  ·rcases Int.lt_or_le (mk t b).2 1 with h|h
   ·have:0<=dv t b*(mk t b).2:=kA (by omega) (by omega)
    omega
   ·exact h
  ·rcases Int.lt_or_le (mk t b).2 1 with h|h
   ·have:dv t b*(mk t b).2<=0:=Int.mul_nonpos_of_nonneg_of_nonpos (by omega) (by omega)
    omega
   ·exact h
 ·have h:eR (dv t b*(mk t b).1) (dv t b*(mk t b).2)=eR t b:=by rw[←e1,←e2]
  rw[Int.gcd_mul_left,Tg]at h
  exact Nat.eq_of_mul_eq_mul_left hg (by rw[h,Nat.mul_one])
theorem mk_cross (t b:Int):(mk t b).1*b=t*(mk t b).2:=by
 have e1:=mk_one t b
 have e2:=mk_two t b
 generalize (mk t b).1=x,(mk t b).2=y,dv t b=d at *
 subst e1
 rw[e2]
 grind
theorem Q2 {d x:Int}(hd:d≠0):x.natAbs<=(d*x).natAbs:=by
 rw[wH]
 exact Nat.le_mul_of_pos_left _ (by omega)
theorem mk_le_one {t b:Int}(hb:b≠0):(mk t b).1.natAbs<=t.natAbs:=by
 have h:=Q2 (x:=(mk t b).1) (Oi (t:=t) hb)
 rwa[←mk_one]at h
theorem mk_le_two {t b:Int}(hb:b≠0):(mk t b).2.natAbs<=b.natAbs:=by
 have h:=Q2 (x:=(mk t b).2) (Oi (t:=t) hb)
 rwa[←mk_two]at h
def plus (p q:Int×Int):Int×Int:=mk (p.1*q.2+q.1*p.2) (p.2*q.2)
def scaled (p:Int×Int)(n:Int):Int×Int:=mk (p.1*n) p.2
def minus (p q:Int×Int):Int×Int:=plus p (scaled q (-1))
def under (p q:Int×Int):Bool:=decide (p.1*q.2<q.1*p.2)
theorem Low.ne {q:Int×Int}(h:Low q):q.2≠0:=by have:=h.pos;omega
theorem Low.mul_ne {p q:Int×Int}(h:Low p)(h':Low q):p.2*q.2≠0:=Int.mul_ne_zero h.ne h'.ne
theorem plus_low {p q:Int×Int}(h:Low p)(h':Low q):Low (plus p q):=mk_low (h.mul_ne h')
theorem scaled_low {p:Int×Int}(h:Low p)(n:Int):Low (scaled p n):=mk_low h.ne
theorem minus_low {p q:Int×Int}(h:Low p)(h':Low q):Low (minus p q):=plus_low h (scaled_low h' _)
theorem plus_v (p q:Int×Int):(plus p q).1*(p.2*q.2)=(p.1*q.2+q.1*p.2)*(plus p q).2:=mk_cross _ _
theorem zo2 (p:Int×Int)(n:Int):(scaled p n).1*p.2=(p.1*n)*(scaled p n).2:=mk_cross _ _
theorem minus_v {p q:Int×Int}(h':Low q):(minus p q).1*(p.2*q.2)=(p.1*q.2-q.1*p.2)*(minus p q).2:=by
 have e1:=plus_v p (scaled q (-1))
 have e2:=zo2 q (-1)
 have hs:=(scaled_low h' (-1)).ne
 show(plus p (scaled q (-1))).1*(p.2*q.2)=(p.1*q.2-q.1*p.2)*(plus p (scaled q (-1))).2
 have k:(scaled q (-1)).2*((plus p (scaled q (-1))).1*(p.2*q.2))=(scaled q (-1)).2*((p.1*q.2-q.1*p.2)*(plus p (scaled q (-1))).2):=by grind
 exact Int.eq_of_mul_eq_mul_left hs k
theorem lt_congr {n d m e n' d' m' e':Int}(hd:0<d)(he:0<e)(wY:0<d')(VB:0<e')(h:n*e=m*d)(h':n' * e'=m' * d'):(n*d'<n' * d↔m*e'<m' * e):=by
 have p1:0<e*e':=dw he VB
 have p2:0<d*d':=dw hd wY
 have k:(e*e')*(n' * d-n*d')=(d*d')*(m' * e-m*e'):=by grind
 constructor
 ·intro q
  have:0<(d*d')*(m' * e-m*e'):=by rw[←k];exact dw p1 (by omega)
  have:=n9 this (by omega)
  omega
 ·intro q
  have:0<(e*e')*(n' * d-n*d'):=by rw[k];exact dw p2 (by omega)
  have:=n9 this (by omega)
  omega
theorem Low.gt {q:Int×Int}(h:Low q):0<q.2:=by have:=h.pos;omega
end Fq
set_option maxHeartbeats 4000000
namespace My
open PySem L2 L3
def top (i:Nat):bR:=PySem.Challenge.pw_ringbeat_k46_whole_growth.main.body.getD i (.Pass ⟨0,0,0,0⟩)
abbrev yt:bR:=inClass (top 2) 0
abbrev xc:bR:=inClass (top 3) 0
abbrev yh:bR:=inClass (top 4) 0
abbrev yj:bR:=inClass (top 5) 0
abbrev xz:bR:=top 16
abbrev x6:bR:=top 17
abbrev vh:bR:=top 18
abbrev x8:bR:=top 19
abbrev xf:bR:=top 20
abbrev wq:bR:=top 21
abbrev yk:bR:=top 22
abbrev yb:bR:=top 23
abbrev xm:bR:=inClass (top 25) 0
abbrev zx:bR:=inClass (top 25) 1
abbrev wt:bR:=inClass (top 25) 2
abbrev wa:bR:=inClass (top 25) 3
abbrev wu:bR:=top 26
abbrev yc:bR:=top 28
abbrev jd:bR:=top 29
abbrev v8:bR:=top 32
abbrev BE:bR:=top 30
abbrev je:bR:=top 31
abbrev jf:bR:=top 33
abbrev jg:bR:=top 34
abbrev v9:bR:=top 35
abbrev BG:bR:=top 37
abbrev wb:bR:=top 38
abbrev zl:bR:=top 39
abbrev xn:bR:=top 41
abbrev ua:bR:=top 42
abbrev wc:bR:=top 43
abbrev ym:bR:=top 44
abbrev xg:bR:=top 45
abbrev BH:bR:=top 46
abbrev yn:bR:=top 48
abbrev xo:bR:=top 49
abbrev zt:bR:=top 50
abbrev ye:bR:=top 51
abbrev xS:bR:=top 52
abbrev xh:bR:=top 54
abbrev xp:bR:=top 55
abbrev we:bR:=top 56
abbrev wv:bR:=top 57
abbrev wf:bR:=top 58
abbrev ww:bR:=top 59
abbrev vi:bR:=top 60
abbrev zu:bR:=top 61
abbrev wg:bR:=top 62
abbrev wj:bR:=top 63
abbrev A2:bR:=top 64
theorem Zf:bp ["self","start","goal","time","behind"] ["self","start","goal","time","behind"] (aJ yt):=⟨rfl,rfl,rfl,by decide +kernel,rfl,by decide +kernel,by decide +kernel⟩
theorem Zi:bp ["self","start","goal","time"] ["self","start","goal","time"] (aJ xc):=⟨rfl,rfl,rfl,by decide +kernel,rfl,by decide +kernel,by decide +kernel⟩
theorem Zj:bp ["self","start","goal","time","behind"] ["self","start","goal","time","behind"] (aJ yh):=⟨rfl,rfl,rfl,by decide +kernel,rfl,by decide +kernel,by decide +kernel⟩
theorem Zk:bp ["self","start","goal","time","behind"] ["self","start","goal","time","behind"] (aJ yj):=⟨rfl,rfl,rfl,by decide +kernel,rfl,by decide +kernel,by decide +kernel⟩
theorem ZK:bp ["sign"] ["sign"] (aJ xz):=⟨rfl,rfl,rfl,by decide +kernel,rfl,by decide +kernel,by decide +kernel⟩
theorem ZL:bp ["sign"] ["sign"] (aJ x6):=⟨rfl,rfl,rfl,by decide +kernel,rfl,by decide +kernel,by decide +kernel⟩
theorem zkn:bp ["word"] ["word"] (aJ vh):=⟨rfl,rfl,rfl,by decide +kernel,rfl,by decide +kernel,by decide +kernel⟩
theorem M2:bp ["names","seen","name"] ["names"] (aJ x8):=⟨rfl,rfl,rfl,by decide +kernel,rfl,by decide +kernel,by decide +kernel⟩
theorem Zl:bp ["number","least","most"] ["number","least","most"] (aJ xf):=⟨rfl,rfl,rfl,by decide +kernel,rfl,by decide +kernel,by decide +kernel⟩
theorem M8:bp ["arrow","many","least","most"] ["arrow","many"] (aJ wq):=⟨rfl,rfl,rfl,by decide +kernel,rfl,by decide +kernel,by decide +kernel⟩
theorem xi:bp ["many","arrows","within","waited","arrow","placed","done","here"] ["many","arrows"] (aJ yk):=⟨rfl,rfl,rfl,by decide +kernel,rfl,by decide +kernel,by decide +kernel⟩
theorem w8:bp ["arrows","chosen","going","here","seen","way"] ["arrows","chosen","going"] (aJ yb):=⟨rfl,rfl,rfl,by decide +kernel,rfl,by decide +kernel,by decide +kernel⟩
theorem ji:bp ["self","names","arrows","number","arrow","placed"] ["self","names","arrows"] (aJ xm):=⟨rfl,rfl,rfl,by decide +kernel,rfl,by decide +kernel,by decide +kernel⟩
theorem Y7:bp ["self"] ["self"] (aJ zx):=⟨rfl,rfl,rfl,by decide +kernel,rfl,by decide +kernel,by decide +kernel⟩
theorem ZY:bp ["self","going"] ["self","going"] (aJ wt):=⟨rfl,rfl,rfl,by decide +kernel,rfl,by decide +kernel,by decide +kernel⟩
theorem ZM:bp ["self"] ["self"] (aJ wa):=⟨rfl,rfl,rfl,by decide +kernel,rfl,by decide +kernel,by decide +kernel⟩
theorem ux:bp ["net","going","found","done","here","number"] ["net","going"] (aJ wu):=⟨rfl,rfl,rfl,by decide +kernel,rfl,by decide +kernel,by decide +kernel⟩
theorem vx:bp ["one","other","rest"] ["one","other"] (aJ yc):=⟨rfl,rfl,rfl,by decide +kernel,rfl,by decide +kernel,by decide +kernel⟩
theorem NH:bp ["top","bottom","divisor"] ["top","bottom"] (aJ jd):=⟨rfl,rfl,rfl,by decide +kernel,rfl,by decide +kernel,by decide +kernel⟩
theorem zmk:bp ["one","whole"] ["one","whole"] (aJ v8):=⟨rfl,rfl,rfl,by decide +kernel,rfl,by decide +kernel,by decide +kernel⟩
theorem zsf:bp ["one","other"] ["one","other"] (aJ BE):=⟨rfl,rfl,rfl,by decide +kernel,rfl,by decide +kernel,by decide +kernel⟩
theorem zo3:bp ["one","other"] ["one","other"] (aJ je):=⟨rfl,rfl,rfl,by decide +kernel,rfl,by decide +kernel,by decide +kernel⟩
theorem zo4:bp ["one","other"] ["one","other"] (aJ jf):=⟨rfl,rfl,rfl,by decide +kernel,rfl,by decide +kernel,by decide +kernel⟩
theorem zo5:bp ["when","more"] ["when","more"] (aJ jg):=⟨rfl,rfl,rfl,by decide +kernel,rfl,by decide +kernel,by decide +kernel⟩
theorem zml:bp ["one","other"] ["one","other"] (aJ v9):=⟨rfl,rfl,rfl,by decide +kernel,rfl,by decide +kernel,by decide +kernel⟩
theorem NV:bp ["net","ring","times","behinds"] ["net","ring"] (aJ BG):=⟨rfl,rfl,rfl,by decide +kernel,rfl,by decide +kernel,by decide +kernel⟩
theorem uh:bp ["net","pace","numbers","times","chosen","pushed","number","arrow","earliest"] ["net","pace","numbers","times","chosen"] (aJ wb):=⟨rfl,rfl,rfl,by decide +kernel,rfl,by decide +kernel,by decide +kernel⟩
theorem yz:bp ["net","pace","numbers","times","chosen","pushed","count"] ["net","pace","numbers"] (aJ zl):=⟨rfl,rfl,rfl,by decide +kernel,rfl,by decide +kernel,by decide +kernel⟩
theorem Qu:bp ["net","pace","numbers","found"] ["net","pace","numbers"] (aJ xn):=⟨rfl,rfl,rfl,by decide +kernel,rfl,by decide +kernel,by decide +kernel⟩
theorem Rt:bp ["one","other","total"] ["one","other"] (aJ ua):=⟨rfl,rfl,rfl,by decide +kernel,rfl,by decide +kernel,by decide +kernel⟩
theorem QD:bp ["net","most"] ["net"] (aJ wc):=⟨rfl,rfl,rfl,by decide +kernel,rfl,by decide +kernel,by decide +kernel⟩
theorem xq:bp ["net","numbers","ring","ceiling","gap","middle","better"] ["net","numbers"] (aJ ym):=⟨rfl,rfl,rfl,by decide +kernel,rfl,by decide +kernel,by decide +kernel⟩
theorem j0:bp ["net","numbers","ring","pace"] ["net","numbers"] (aJ xg):=⟨rfl,rfl,rfl,by decide +kernel,rfl,by decide +kernel,by decide +kernel⟩
theorem JF:bp ["net","going","leading","paper","times"] ["net","going"] (aJ BH):=⟨rfl,rfl,rfl,by decide +kernel,rfl,by decide +kernel,by decide +kernel⟩
theorem vm:bp ["told","greatest","going","number","amount"] ["told"] (aJ yn):=⟨rfl,rfl,rfl,by decide +kernel,rfl,by decide +kernel,by decide +kernel⟩
theorem Qv:bp ["net","was","depth"] ["net","was"] (aJ xo):=⟨rfl,rfl,rfl,by decide +kernel,rfl,by decide +kernel,by decide +kernel⟩
theorem wo:bp ["net","rows","numbers","floor","when","number","arrow"] ["net","rows","numbers","floor"] (aJ zt):=⟨rfl,rfl,rfl,by decide +kernel,rfl,by decide +kernel,by decide +kernel⟩
theorem xk:bp ["net","rounds","was","floors","rows","greatest","numbers","order","number","going","floor"] ["net","rounds","was","floors"] (aJ ye):=⟨rfl,rfl,rfl,by decide +kernel,rfl,by decide +kernel,by decide +kernel⟩
theorem zux:bp ["net","rounds","was","floors"] ["net","rounds","was","floors"] (aJ xS):=⟨rfl,rfl,rfl,by decide +kernel,rfl,by decide +kernel,by decide +kernel⟩
theorem Zm:bp ["_law_script","_law_k"] ["_law_script","_law_k"] (aJ xh):=⟨rfl,rfl,rfl,by decide +kernel,rfl,by decide +kernel,by decide +kernel⟩
theorem Zw:bp ["_law_cell"] ["_law_cell"] (aJ xp):=⟨rfl,rfl,rfl,by decide +kernel,rfl,by decide +kernel,by decide +kernel⟩
theorem M3:bp ["_law_cell","_law_k","_law_number"] ["_law_cell","_law_k"] (aJ we):=⟨rfl,rfl,rfl,by decide +kernel,rfl,by decide +kernel,by decide +kernel⟩
theorem ql:bp ["_law_turn","_law_many","_law_going","_law_order","_law_left","_law_k"] ["_law_turn","_law_many","_law_going"] (aJ wv):=⟨rfl,rfl,rfl,by decide +kernel,rfl,by decide +kernel,by decide +kernel⟩
theorem wm:bp ["_law_cell","_law_many","_law_turn","_law_k","_law_number","_law_start","_law_goal","_law_behind","_law_time"] ["_law_cell","_law_many","_law_turn","_law_k"] (aJ wf):=⟨rfl,rfl,rfl,by decide +kernel,rfl,by decide +kernel,by decide +kernel⟩
theorem jt:bp ["_law_arrow_here","_law_kind","_law_start","_law_goal","_law_time","_law_behind"] ["_law_arrow_here","_law_kind"] (aJ ww):=⟨rfl,rfl,rfl,by decide +kernel,rfl,by decide +kernel,by decide +kernel⟩
theorem Nd:bp ["_law_script","_law_many","_law_back","_law_cell","_law_most"] ["_law_script","_law_many","_law_back"] (aJ vi):=⟨rfl,rfl,rfl,by decide +kernel,rfl,by decide +kernel,by decide +kernel⟩
theorem xj:bp ["_law_times","_law_beat","_law_whole","_law_time","_law_one","_law_other"] ["_law_times","_law_beat"] (aJ zu):=⟨rfl,rfl,rfl,by decide +kernel,rfl,by decide +kernel,by decide +kernel⟩
theorem ya:bp ["_law_rows","_law_was_here","_law_paper","_law_goings","_law_beat","_law_ring","_law_times","_law_whole","_law_step","_law_tops","_law_going","_law_above","_law_k","_law_more","_law_when","_law_most","_law_time"] ["_law_rows","_law_was_here","_law_paper","_law_goings"] (aJ wg):=⟨rfl,rfl,rfl,by decide +kernel,rfl,by decide +kernel,by decide +kernel⟩
theorem ui:bp ["_law_rows","_law_arrows","_law_ring","_law_times","_law_behinds","_law_k","_law_going","_law_when"] ["_law_rows","_law_arrows","_law_ring"] (aJ wj):=⟨rfl,rfl,rfl,by decide +kernel,rfl,by decide +kernel,by decide +kernel⟩
theorem uD:bp ["_law_script","_law_many","_law_total","_law_turn","_law_arrows","_law_net","_law_was_here","_law_rows","_law_paper","_law_goings"] ["_law_script"] (aJ A2):=⟨rfl,rfl,rfl,by decide +kernel,rfl,by decide +kernel,by decide +kernel⟩
set_option genInjectivity false
set_option genSizeOf false
structure B1 where
 c_Arrow:ai
 c_Ride:ai
 c_Wait:ai
 c_Back:ai
 c_Net:ai
 f_Arrow___init:ai
 d_Arrow___init:aH
 f_Ride___init:ai
 d_Ride___init:aH
 f_Wait___init:ai
 d_Wait___init:aH
 f_Back___init:ai
 d_Back___init:aH
 f_is_letter:ai
 d_is_letter:aH
 f_is_figure:ai
 d_is_figure:aH
 f_is_name:ai
 d_is_name:aH
 f_are_names:ai
 d_are_names:aH
 f_lies_within:ai
 d_lies_within:aH
 f_is_right:ai
 d_is_right:aH
 f_placed_goings:ai
 d_placed_goings:aH
 f_ring_back_from:ai
 d_ring_back_from:aH
 f_Net___init:ai
 d_Net___init:aH
 f_Net_most_behind:ai
 d_Net_most_behind:aH
 f_Net_into:ai
 d_Net_into:aH
 f_Net_order:ai
 d_Net_order:aH
 f_leads_to:ai
 d_leads_to:aH
 f_common_divisor:ai
 d_common_divisor:aH
 f_ratio:ai
 d_ratio:aH
 f_scaled:ai
 d_scaled:aH
 f_plus:ai
 d_plus:aH
 f_minus:ai
 d_minus:aH
 f_under:ai
 d_under:aH
 f_later:ai
 d_later:aH
 f_latest:ai
 d_latest:aH
 f_mean:ai
 d_mean:aH
 f_push_once:ai
 d_push_once:aH
 f_times_or_ring_along:ai
 d_times_or_ring_along:aH
 f_ring_above:ai
 d_ring_above:aH
 f_midway:ai
 d_midway:aH
 f_least_gap:ai
 d_least_gap:aH
 f_greatest_ring:ai
 d_greatest_ring:aH
 f_paper_along:ai
 d_paper_along:aH
 f_rate:ai
 d_rate:aH
 f_greatest_told:ai
 d_greatest_told:aH
 f_rows_ahead:ai
 d_rows_ahead:aH
 f_time_in_last_row:ai
 d_time_in_last_row:aH
 f_rows_with_past:ai
 d_rows_with_past:aH
 f_run:ai
 d_run:aH
 f_law_cell_at:ai
 d_law_cell_at:aH
 f_law_is_row:ai
 d_law_is_row:aH
 f_law_mixed:ai
 d_law_mixed:aH
 f_law_rank:ai
 d_law_rank:aH
 f_law_arrow:ai
 d_law_arrow:aH
 f_law_made:ai
 d_law_made:aH
 f_law_was:ai
 d_law_was:aH
 f_law_whole_bottom:ai
 d_law_whole_bottom:aH
 f_law_below:ai
 d_law_below:aH
 f_law_grows:ai
 d_law_grows:aH
 f_law:ai
 d_law:aH
set_option genSizeOf true
set_option genInjectivity true
def B1.ct (a:B1):Nat->ai
 |0=>a.c_Arrow
 |1=>a.c_Ride
 |2=>a.c_Wait
 |3=>a.c_Back
 |4=>a.c_Net
 |_=>0
structure Txt (K:ae)(mg:aR->Option af)(a:B1):Prop where
 Arrow:Dc K mg "Arrow" a.c_Arrow
 Ride:Dc K mg "Ride" a.c_Ride
 Wait:Dc K mg "Wait" a.c_Wait
 Back:Dc K mg "Back" a.c_Back
 Net:Dc K mg "Net" a.c_Net
 Arrow___init:Dm K a.c_Arrow "__init__" "Arrow.__init__" yt ["self","start","goal","time","behind"] a.f_Arrow___init a.d_Arrow___init
 Ride___init:Dm K a.c_Ride "__init__" "Ride.__init__" xc ["self","start","goal","time"] a.f_Ride___init a.d_Ride___init
 Wait___init:Dm K a.c_Wait "__init__" "Wait.__init__" yh ["self","start","goal","time","behind"] a.f_Wait___init a.d_Wait___init
 Wait___init_d1:∃lC,True/\bX [(V.int 0)] lC/\bC K a.d_Wait___init ["self","start","goal","time","behind"] lC
 Back___init:Dm K a.c_Back "__init__" "Back.__init__" yj ["self","start","goal","time","behind"] a.f_Back___init a.d_Back___init
 Back___init_d1:∃lC,True/\bX [(V.int 1)] lC/\bC K a.d_Back___init ["self","start","goal","time","behind"] lC
 is_letter:ip K mg "is_letter" xz ["sign"] a.f_is_letter a.d_is_letter
 is_figure:ip K mg "is_figure" x6 ["sign"] a.f_is_figure a.d_is_figure
 is_name:ip K mg "is_name" vh ["word"] a.f_is_name a.d_is_name
 are_names:ip K mg "are_names" x8 ["names"] a.f_are_names a.d_are_names
 lies_within:ip K mg "lies_within" xf ["number","least","most"] a.f_lies_within a.d_lies_within
 is_right:ip K mg "is_right" wq ["arrow","many"] a.f_is_right a.d_is_right
 placed_goings:ip K mg "placed_goings" yk ["many","arrows"] a.f_placed_goings a.d_placed_goings
 ring_back_from:ip K mg "ring_back_from" yb ["arrows","chosen","going"] a.f_ring_back_from a.d_ring_back_from
 Net___init:Dm K a.c_Net "__init__" "Net.__init__" xm ["self","names","arrows"] a.f_Net___init a.d_Net___init
 Net_most_behind:Dm K a.c_Net "most_behind" "Net.most_behind" zx ["self"] a.f_Net_most_behind a.d_Net_most_behind
 Net_into:Dm K a.c_Net "into" "Net.into" wt ["self","going"] a.f_Net_into a.d_Net_into
 Net_order:Dm K a.c_Net "order" "Net.order" wa ["self"] a.f_Net_order a.d_Net_order
 leads_to:ip K mg "leads_to" wu ["net","going"] a.f_leads_to a.d_leads_to
 common_divisor:ip K mg "common_divisor" yc ["one","other"] a.f_common_divisor a.d_common_divisor
 ratio:ip K mg "ratio" jd ["top","bottom"] a.f_ratio a.d_ratio
 scaled:ip K mg "scaled" v8 ["one","whole"] a.f_scaled a.d_scaled
 plus:ip K mg "plus" BE ["one","other"] a.f_plus a.d_plus
 minus:ip K mg "minus" je ["one","other"] a.f_minus a.d_minus
 under:ip K mg "under" jf ["one","other"] a.f_under a.d_under
 later:ip K mg "later" jg ["when","more"] a.f_later a.d_later
 latest:ip K mg "latest" v9 ["one","other"] a.f_latest a.d_latest
 mean:ip K mg "mean" BG ["net","ring"] a.f_mean a.d_mean
 push_once:ip K mg "push_once" wb ["net","pace","numbers","times","chosen"] a.f_push_once a.d_push_once
 times_or_ring_along:ip K mg "times_or_ring_along" zl ["net","pace","numbers"] a.f_times_or_ring_along a.d_times_or_ring_along
 ring_above:ip K mg "ring_above" xn ["net","pace","numbers"] a.f_ring_above a.d_ring_above
 midway:ip K mg "midway" ua ["one","other"] a.f_midway a.d_midway
 least_gap:ip K mg "least_gap" wc ["net"] a.f_least_gap a.d_least_gap
 greatest_ring:ip K mg "greatest_ring" ym ["net","numbers"] a.f_greatest_ring a.d_greatest_ring
 paper_along:ip K mg "paper_along" xg ["net","numbers"] a.f_paper_along a.d_paper_along
 rate:ip K mg "rate" BH ["net","going"] a.f_rate a.d_rate
 greatest_told:ip K mg "greatest_told" yn ["told"] a.f_greatest_told a.d_greatest_told
 rows_ahead:ip K mg "rows_ahead" xo ["net","was"] a.f_rows_ahead a.d_rows_ahead
 time_in_last_row:ip K mg "time_in_last_row" zt ["net","rows","numbers","floor"] a.f_time_in_last_row a.d_time_in_last_row
 rows_with_past:ip K mg "rows_with_past" ye ["net","rounds","was","floors"] a.f_rows_with_past a.d_rows_with_past
 run:ip K mg "run" xS ["net","rounds","was","floors"] a.f_run a.d_run
 run_d1:∃lC,True/\bX [V.non] lC/\bC K a.d_run ["net","rounds","was","floors"] lC
 run_d2:∃lC,True/\bX [V.non,V.non] lC/\bC K a.d_run ["net","rounds","was","floors"] lC
 law_cell_at:ip K mg "_law_cell_at" xh ["_law_script","_law_k"] a.f_law_cell_at a.d_law_cell_at
 law_is_row:ip K mg "_law_is_row" xp ["_law_cell"] a.f_law_is_row a.d_law_is_row
 law_mixed:ip K mg "_law_mixed" we ["_law_cell","_law_k"] a.f_law_mixed a.d_law_mixed
 law_rank:ip K mg "_law_rank" wv ["_law_turn","_law_many","_law_going"] a.f_law_rank a.d_law_rank
 law_arrow:ip K mg "_law_arrow" wf ["_law_cell","_law_many","_law_turn","_law_k"] a.f_law_arrow a.d_law_arrow
 law_made:ip K mg "_law_made" ww ["_law_arrow_here","_law_kind"] a.f_law_made a.d_law_made
 law_was:ip K mg "_law_was" vi ["_law_script","_law_many","_law_back"] a.f_law_was a.d_law_was
 law_whole_bottom:ip K mg "_law_whole_bottom" zu ["_law_times","_law_beat"] a.f_law_whole_bottom a.d_law_whole_bottom
 law_below:ip K mg "_law_below" wg ["_law_rows","_law_was_here","_law_paper","_law_goings"] a.f_law_below a.d_law_below
 law_grows:ip K mg "_law_grows" wj ["_law_rows","_law_arrows","_law_ring"] a.f_law_grows a.d_law_grows
 law:ip K mg "law" A2 ["_law_script"] a.f_law a.d_law
 q_Arrow:Dq K a.c_Arrow "__init__" a.f_Arrow___init
 fld_arrows:∀c∈([4]:List Nat),kE K (a.ct c)/\fO K (a.ct c) "arrows"
 fld_behind:∀c∈([0,1,2,3]:List Nat),kE K (a.ct c)/\fO K (a.ct c) "behind"
 fld_goal:∀c∈([0,1,2,3]:List Nat),kE K (a.ct c)/\fO K (a.ct c) "goal"
 fld_names:∀c∈([4]:List Nat),kE K (a.ct c)/\fO K (a.ct c) "names"
 fld_start:∀c∈([0,1,2,3]:List Nat),kE K (a.ct c)/\fO K (a.ct c) "start"
 fld_time:∀c∈([0,1,2,3]:List Nat),kE K (a.ct c)/\fO K (a.ct c) "time"
 isi_Back:∀c∈([0,1,2,3,4]:List Nat),Ic K (a.ct c)/\bP K (.ref (a.ct c)) (.ref a.c_Back)=some (wI [3] c)
 isi_Ride:∀c∈([0,1,2,3,4]:List Nat),Ic K (a.ct c)/\bP K (.ref (a.ct c)) (.ref a.c_Ride)=some (wI [1] c)
 b_abs:mg "abs"=none
 b_all:mg "all"=none
 b_bool:mg "bool"=none
 b_enumerate:mg "enumerate"=none
 b_int:mg "int"=none
 b_isinstance:mg "isinstance"=none
 b_len:mg "len"=none
 b_list:mg "list"=none
 b_max:mg "max"=none
 b_range:mg "range"=none
 b_reversed:mg "reversed"=none
 b_sorted:mg "sorted"=none
 b_str:mg "str"=none
 b_sum:mg "sum"=none
 g_MOST_ARROWS:∃t,mg "MOST_ARROWS"=some (.int 120 t)
 g_MOST_BEHIND:∃t,mg "MOST_BEHIND"=some (.int 4 t)
 g_MOST_NAMES:∃t,mg "MOST_NAMES"=some (.int 40 t)
 g_MOST_SIGNS:∃t,mg "MOST_SIGNS"=some (.int 8 t)
 g_MOST_TIME:∃t,mg "MOST_TIME"=some (.int 1000000000 t)
section
variable {P:bx}{w:bY}{K:ae}{mg:aR->Option af}{base:aX}{a:B1}{ct:Nat->ai}
def u8:Nat->List D->Option D:=AD ["self","start","goal","time","behind"]
  (sSeq (kx [0,1,2,3] "start" (eV 1))
  (sSeq (kx [0,1,2,3] "goal" (eV 2))
  (sSeq (kx [0,1,2,3] "time" (eV 3))
  (kx [0,1,2,3] "behind" (eV 4)))))
theorem ju (T:Txt K mg a):cz P w K mg base eJ 1 a.f_Arrow___init a.d_Arrow___init ["self","start","goal","time","behind"] (sI K a.ct [0,1,2,3] [0,0,0,0] u8):=by
 refine Hx (ms:=[.ow 0,.ow 0,.ow 0,.ow 0]) (rk:=0) T.Arrow___init.fn Zf rfl rfl (by decide) (jx (by decide)) λx0 hU A outer s H E hr=>?_
 exact(zf (BX T.fld_start (za 1 0))
  (zf (BX T.fld_goal (za 2 0))
  (zf (BX T.fld_time (za 3 0))
  (zh (BX T.fld_behind (za 4 0))))))
def qm:Nat->List D->Option D:=AD ["self","start","goal","time"]
  (nZ [0,1,2,3] (aCons (eV 1) (aCons (eV 2) (aCons (eV 3) (aCons (eC (.int 0)) aNil)))) u8)
theorem Zn (T:Txt K mg a):cz P w K mg base eJ 2 a.f_Ride___init a.d_Ride___init ["self","start","goal","time"] (sI K a.ct [1] [0,0,0] qm):=by
 have eT:=ju (P:=P) (w:=w) (base:=base) T
 refine Hx (ms:=[.ow 0,.ow 0,.ow 0]) (rk:=0) T.Ride___init.fn Zi rfl rfl (by decide) (jx (by decide)) λx0 hU A outer s H E hr=>?_
 exact(zh (NS (ns:=[0,0,0,0]) eT (hr.mono (by decide)) T.Arrow.mgx T.q_Arrow.sp T.q_Arrow.rd T.q_Arrow.fc T.Arrow___init.fn.kp T.Arrow___init.bd (by decide) (ze (za 1 0) (ze (za 2 0) (ze (za 3 0) (ze cF zj))))))
def qo:Nat->List D->Option D:=AD ["self","start","goal","time","behind"]
  (nZ [0,1,2,3] (aCons (eV 1) (aCons (eV 2) (aCons (eV 3) (aCons (eV 4) aNil)))) u8)
theorem Zo (T:Txt K mg a):cz P w K mg base eJ 2 a.f_Wait___init a.d_Wait___init ["self","start","goal","time","behind"] (sI K a.ct [2] [0,0,0,0] qo):=by
 have eT:=ju (P:=P) (w:=w) (base:=base) T
 refine Hx (ms:=[.ow 0,.ow 0,.ow 0,.ow 0]) (rk:=0) T.Wait___init.fn Zj rfl rfl (by decide) (jx (by decide)) λx0 hU A outer s H E hr=>?_
 exact(zh (NS (ns:=[0,0,0,0]) eT (hr.mono (by decide)) T.Arrow.mgx T.q_Arrow.sp T.q_Arrow.rd T.q_Arrow.fc T.Arrow___init.fn.kp T.Arrow___init.bd (by decide) (ze (za 1 0) (ze (za 2 0) (ze (za 3 0) (ze (za 4 0) zj))))))
def qp:Nat->List D->Option D:=AD ["self","start","goal","time","behind"]
  (nZ [0,1,2,3] (aCons (eV 1) (aCons (eV 2) (aCons (eV 3) (aCons (eV 4) aNil)))) u8)
theorem Zp (T:Txt K mg a):cz P w K mg base eJ 2 a.f_Back___init a.d_Back___init ["self","start","goal","time","behind"] (sI K a.ct [3] [0,0,0,0] qp):=by
 have eT:=ju (P:=P) (w:=w) (base:=base) T
 refine Hx (ms:=[.ow 0,.ow 0,.ow 0,.ow 0]) (rk:=0) T.Back___init.fn Zk rfl rfl (by decide) (jx (by decide)) λx0 hU A outer s H E hr=>?_
 exact(zh (NS (ns:=[0,0,0,0]) eT (hr.mono (by decide)) T.Arrow.mgx T.q_Arrow.sp T.q_Arrow.rd T.q_Arrow.fc T.Arrow___init.fn.kp T.Arrow___init.bd (by decide) (ze (za 1 0) (ze (za 2 0) (ze (za 3 0) (ze (za 4 0) zj))))))
def M9:List D->Option D:=mOf ["sign"]
  (sRet (eB (bAnd (tb (e2 xI (eC (.str "a")) (eV 0))) (tb (e2 xI (eV 0) (eC (.str "z")))))))
theorem ZN (T:Txt K mg a):cz P w K mg base eJ 1 a.f_is_letter a.d_is_letter ["sign"] (fY K a.ct [0] 0 M9):=by
 refine ig (ms:=[.ow 0]) T.is_letter.fn ZK λ_ _ _ _ _ _ hr=>?_
 exact(zh (zw (XE.ow (A8 (vW (k:=0) BW BN (xU (n:=0)) (za 0 0) (bE _)) (xV (k:=0) (vW (k:=0) BW BN (za 0 0) (xU (n:=0)) (bE _)))))))
def QM:List D->Option D:=mOf ["sign"]
  (sRet (eB (bAnd (tb (e2 xI (eC (.str "0")) (eV 0))) (tb (e2 xI (eV 0) (eC (.str "9")))))))
theorem ZO (T:Txt K mg a):cz P w K mg base eJ 1 a.f_is_figure a.d_is_figure ["sign"] (fY K a.ct [0] 0 QM):=by
 refine ig (ms:=[.ow 0]) T.is_figure.fn ZL λ_ _ _ _ _ _ hr=>?_
 exact(zh (zw (XE.ow (A8 (vW (k:=0) BW BN (xU (n:=0)) (za 0 0) (bE _)) (xV (k:=0) (vW (k:=0) BW BN (za 0 0) (xU (n:=0)) (bE _)))))))
def ZZ:EF:=(dA (λρ=>((eV 0) ρ).bind OD) 1 [] (gV 0) eI (eB (bOr (tb (λρ=>((aCons (eV 0) aNil) ρ).bind λds=>M9 (ds++[]))) (tb (λρ=>((aCons (eV 0) aNil) ρ).bind λds=>QM (ds++[]))))))
def Ru:List D->Option D:=mOf ["word"]
  (sSeq (sIf (bOr (bNot (tb (e1 (pX "str") (eV 0)))) (bOr (tb (e2 pY (eN dZ (aCons (eV 0) aNil)) (eC (.int 1)))) (tb (e2 sg (eN dZ (aCons (eV 0) aNil)) (eC (.int 8)))))) (sRet (eC (.bl false))) sSkip)
  (sRet (eB (bAnd (tb (λρ=>((aCons (e2 cP (eV 0) (eC (.int 0))) aNil) ρ).bind λds=>M9 (ds++[]))) (tb (eN Cc (aCons ZZ aNil)))))))
theorem zko (T:Txt K mg a):cz P w K mg base eJ 2 a.f_is_name a.d_is_name ["word"] (fY K a.ct [0] 0 Ru):=by
 have lz:=ZN (P:=P) (w:=w) (base:=base) T
 have oM:=ZO (P:=P) (w:=w) (base:=base) T
 refine ig (ms:=[.ow 0]) T.is_name.fn zkn λ_ _ _ _ _ _ hr=>?_
 exact(zf (vn (XW.t (wF (uB (jp (JT (k:=0) (by decide) T.b_isinstance T.b_str SY (za 0 0)))) (wF (yp (k:=0) wC vX (lX T.b_len (ze (za 0 0) zj)) cF (bE _)) (A7 (yp (k:=0) xX xW (lX T.b_len (ze (za 0 0) zj)) (HG (n:=0) (d:=(.int 8)) rfl T.g_MOST_SIGNS.choose_spec rfl ⟨_,rfl⟩) (bE _)))))) (zh (zw (XE.ow (su (n:=0))))) yq)
  (zh (zw (XE.ow (A8 (XO.sh (n:=0) (cI T.is_letter lz hr (ze (fG (za 0 0) cF) zj))) (xV (k:=0) (u7 (k:=0) (zl8 rfl) zr0 rfl T.b_all zud (ze (XO.sh (n:=0) (oC (N:=["sign"]) (om:=[.ow 0]) (cap:=[]) (own:=1) (XI.cc (zuq (n:=0) (za 0 0))) (λ_ _ _ _ _=>(kU (show bM (["sign"]:List aR)from by decide +kernel))) (λ_ _ _ _ _=>vg) (λ_ _ _ _ _=>(XE.ow (zv4 (XO.sh (n:=0) (cI T.is_letter lz hr (ze (za 0 0) zj))) (xV (k:=0) (XO.sh (n:=0) (cI T.is_figure oM hr (ze (za 0 0) zj))))))))) zj))))))))
def Zx:SF:=(sSeq (sIf (bOr (bNot (tb (λρ=>((aCons (eV 2) aNil) ρ).bind λds=>Ru (ds++[])))) (tb (λρ=>((eV 2) ρ).bind λx=>((eV 1) ρ).bind λy=>(fq y x).bind λr=>some (.bl r.isSome)))) (sRet (eC (.bl false))) sSkip)
  (iR 1 (eV 2) (eC (.bl true))))
def qr:List D->Option D:=mOf ["names","seen","name"]
  (sSeq (sIf (bOr (bNot (tb (e1 (pX "list") (eV 0)))) (bOr (tb (e2 pY (eN dZ (aCons (eV 0) aNil)) (eC (.int 1)))) (tb (e2 sg (eN dZ (aCons (eV 0) aNil)) (eC (.int 40)))))) (sRet (eC (.bl false))) sSkip)
  (sSeq (sSet 1 (eC (.dK [] [])))
  (sSeq (sFor (lsD (eV 0)) (gV 2) Zx)
  (sRet (eC (.bl true))))))
theorem ZP (T:Txt K mg a):cz P w K mg base eJ 3 a.f_are_names a.d_are_names ["names"] (fY K a.ct [0] 0 qr):=by
 have rj:=zko (P:=P) (w:=w) (base:=base) T
 refine ig (ms:=[.ow 0,.ow 1,.ow 0]) T.are_names.fn M2 λ_ _ _ _ _ _ hr=>?_
 exact(zf (vn (XW.t (wF (uB (jp (JT (k:=0) (by decide) T.b_isinstance T.b_list BL (za 0 0)))) (wF (yp (k:=0) wC vX (lX T.b_len (ze (za 0 0) zj)) cF (bE _)) (A7 (yp (k:=0) xX xW (lX T.b_len (ze (za 0 0) zj)) (HG (n:=0) (d:=(.int 40)) rfl T.g_MOST_NAMES.choose_spec rfl ⟨_,rfl⟩) (bE _)))))) (zh (zw (XE.ow (su (n:=0))))) yq)
  (zf (d4 M2.nd Jh)
  (zf (ug (uw (za 0 0)) (kd M2.nd) (zf (vn (XW.t (wF (uB (jp (XO.sh (n:=0) (cI T.is_name rj hr (ze (za 2 0) zj))))) (A7 (zur (qQ hr) (za 2 0) (za 1 1) (by with_unfolding_all rfl))))) (zh (zw (XE.ow (su (n:=0))))) yq)
  (zh (JE 1 rfl (qQ hr) (za 2 0) (su (n:=0))))) bV.never rfl)
  (zh (zw (XE.ow (su (n:=0))))))))
def yu:List D->Option D:=mOf ["number","least","most"]
  (sSeq (sIf (bOr (bNot (tb (e1 (pX "int") (eV 0)))) (tb (e1 (pX "bool") (eV 0)))) (sRet (eC (.bl false))) sSkip)
  (sRet (eB (bAnd (tb (e2 xI (eV 1) (eV 0))) (tb (e2 xI (eV 0) (eV 2)))))))
theorem Zq (T:Txt K mg a):cz P w K mg base eJ 1 a.f_lies_within a.d_lies_within ["number","least","most"] (fY K a.ct [0,0,0] 0 yu):=by
 refine ig (ms:=[.ow 0,.ow 0,.ow 0]) T.lies_within.fn Zl λ_ _ _ _ _ _ hr=>?_
 exact(zf (vn (XW.t (wF (uB (jp (JT (k:=0) (by decide) T.b_isinstance T.b_int zua (za 0 0)))) (A7 (jp (JT (k:=0) (by decide) T.b_isinstance T.b_bool zq7 (za 0 0)))))) (zh (zw (XE.ow (su (n:=0))))) yq)
  (zh (zw (XE.ow (A8 (vW (k:=0) BW BN (za 1 0) (za 0 0) (bE _)) (xV (k:=0) (vW (k:=0) BW BN (za 0 0) (za 2 0) (bE _))))))))
def IZ:List D->Option D:=mOf ["arrow","many","least","most"]
  (sSeq (sSet 2 (eIf (tb (e1 (sZ [0,1,2,3,4] [3]) (eV 0))) (eC (.int 1)) (eC (.int 0))))
  (sSeq (sSet 3 (eIf (tb (e1 (sZ [0,1,2,3,4] [1]) (eV 0))) (eC (.int 0)) (eC (.int 4))))
  (sSeq (sIf (bOr (bNot (tb (λρ=>((aCons (e1 (cw [0,1,2,3] "start") (eV 0)) (aCons (eC (.int 0)) (aCons (e2 n6 (eV 1) (eC (.int 1))) aNil))) ρ).bind λds=>yu (ds++[])))) (bNot (tb (λρ=>((aCons (e1 (cw [0,1,2,3] "goal") (eV 0)) (aCons (eC (.int 0)) (aCons (e2 n6 (eV 1) (eC (.int 1))) aNil))) ρ).bind λds=>yu (ds++[]))))) (sRet (eC (.bl false))) sSkip)
  (sRet (eB (bAnd (tb (λρ=>((aCons (e1 (cw [0,1,2,3] "time") (eV 0)) (aCons (eC (.int 0)) (aCons (eC (.int 1000000000)) aNil))) ρ).bind λds=>yu (ds++[]))) (tb (λρ=>((aCons (e1 (cw [0,1,2,3] "behind") (eV 0)) (aCons (eV 2) (aCons (eV 3) aNil))) ρ).bind λds=>yu (ds++[])))))))))
theorem Z0 (T:Txt K mg a):cz P w K mg base eJ 2 a.f_is_right a.d_is_right ["arrow","many"] (fY K a.ct [0,0] 0 IZ):=by
 have gj:=Zq (P:=P) (w:=w) (base:=base) T
 refine ig (ms:=[.ow 0,.ow 0,.ow 0,.ow 0]) T.is_right.fn M8 λ_ _ _ _ _ _ hr=>?_
 exact(zf (d4 M8.nd (XE.ow (HQ (jp (Sw (k:=0) T.isi_Back T.b_isinstance T.Back.mgx (za 0 0))) cF cF)))
  (zf (d4 M8.nd (XE.ow (HQ (jp (Sw (k:=0) T.isi_Ride T.b_isinstance T.Ride.mgx (za 0 0))) cF (HG (n:=0) (d:=(.int 4)) rfl T.g_MOST_BEHIND.choose_spec rfl ⟨_,rfl⟩))))
  (zf (vn (XW.t (wF (uB (jp (XO.sh (n:=0) (cI T.lies_within gj hr (ze (yr (n:=0) (za 0 0) T.fld_start rfl) (ze cF (ze (yg (k:=0) BU BM (za 1 0) cF) zj))))))) (A7 (uB (jp (XO.sh (n:=0) (cI T.lies_within gj hr (ze (yr (n:=0) (za 0 0) T.fld_goal rfl) (ze cF (ze (yg (k:=0) BU BM (za 1 0) cF) zj)))))))))) (zh (zw (XE.ow (su (n:=0))))) yq)
  (zh (zw (XE.ow (A8 (XO.sh (n:=0) (cI T.lies_within gj hr (ze (yr (n:=0) (za 0 0) T.fld_time rfl) (ze cF (ze (HG (n:=0) (d:=(.int 1000000000)) rfl T.g_MOST_TIME.choose_spec rfl ⟨_,rfl⟩) zj))))) (xV (k:=0) (XO.sh (n:=0) (cI T.lies_within gj hr (ze (yr (n:=0) (za 0 0) T.fld_behind rfl) (ze (za 2 0) (ze (za 3 0) zj)))))))))))))
def w9:SF:=(sIf (tb (e2 (lD false) (e1 (cw [0,1,2,3] "start") (eV 4)) (eV 7))) (sSeq (o4 3 (e1 (cw [0,1,2,3] "goal") (eV 4)) (λi j=>i-j) (eC (.int 1)))
  (sIf (tb (e2 (lD false) (e2 cP (eV 3) (e1 (cw [0,1,2,3] "goal") (eV 4))) (eC (.int 0)))) (sApp 5 (e1 (cw [0,1,2,3] "goal") (eV 4))) sSkip)) sSkip)
def uz:SF:=(sSeq (sSet 7 (e2 cP (eV 5) (eV 6)))
  (sSeq (sFor (lsD (eV 2)) (gV 4) w9)
  (tK 6 (i2 λi j=>.int (i+j)) (eC (.int 1)))))
def j9:EF:=(dA (λρ=>((aCons (eV 0) aNil) ρ).bind gE) 1 [3] (gV 0) (tb (e2 (lD false) (e2 cP (eV 1) (eV 0)) (eC (.int 0)))) (eV 0))
def u0:SF:=(o4 3 (e1 (cw [0,1,2,3] "goal") (eV 4)) (λi j=>i+j) (eC (.int 1)))
def qc:EF:=(dA (lsD (eV 1)) 1 [] (gV 0) (tb (e2 (lD false) (e1 (cw [0,1,2,3] "behind") (eV 0)) (eC (.int 0)))) (eV 0))
def vb:List D->Option D:=mOf ["many","arrows","within","waited","arrow","placed","done","here"]
  (sSeq (sSet 2 qc)
  (sSeq (sSet 3 (e2 kS (λρ=>((aCons (eC (.int 0)) aNil) ρ).bind λds=>some (.lst ds)) (eV 0)))
  (sSeq (sFor (lsD (eV 2)) (gV 4) u0)
  (sSeq (sSet 5 j9)
  (sSeq (sSet 6 (eC (.int 0)))
  (sSeq (gb (tb (e2 pY (eV 6) (eN dZ (aCons (eV 5) aNil)))) uz)
  (sRet (eV 5))))))))
theorem Qt (T:Txt K mg a):cz P w K mg base eJ 1 a.f_placed_goings a.d_placed_goings ["many","arrows"] (fY K a.ct [0,0] 0 vb):=by
 refine ig (ms:=[.ow 0,.ow 0,.ow 0,.ow 1,.ow 0,.ow 1,.ow 0,.ow 0]) T.placed_goings.fn xi λ_ _ _ _ _ _ hr=>?_
 exact(zf (jl (k:=0) (N:=["arrow"]) (om:=[.ow 0]) (cap:=[]) (own:=1) rfl xi.nd rfl (Or.inl rfl) (A6 (by rfl)) rfl rfl (by decide) (jh (n:=0) (za 1 0)) (λ_ _ _ _ _=>(kU (show bM (["arrow"]:List aR)from by decide +kernel))) (λ_ _ _ _ _=>(HF (yp (k:=0) (j5 hr.u64) jq (yr (n:=0) (za 0 0) T.fld_behind rfl) cF (bE _)))) (λ_ _ _ _ _=>(XE.ow (za 0 0))))
  (zf (d4 xi.nd (JS (uC (k:=0) (zy (XE.ow cF) wy)) (za 0 0)))
  (zf (ug (uw (za 2 0)) (kd xi.nd) (zh (Sv 3 N4 rfl (yr (n:=0) (za 4 0) T.fld_goal rfl) cF)) bV.never rfl)
  (zf (jl (k:=1) (N:=["going","waited"]) (om:=[.ow 0]) (cap:=[3]) (own:=1) rfl xi.nd rfl (Or.inl rfl) (A6 (by rfl)) rfl rfl (by decide) (XI.cc (wn (n:=0) T.b_range (ze (za 0 0) zj))) (λ_ _ _ _ _=>(kU (show bM (["going","waited"]:List aR)from by decide +kernel))) (λ_ _ _ _ _=>(HF (yp (k:=0) (j5 hr.u64) jq (wD (n:=1) vZ vY (za 1 1) (za 0 0) (λ_ _=>rfl)) cF (bE _)))) (λ_ _ _ _ _=>(XE.ow (za 0 0))))
  (zf (d4 xi.nd (XE.ow cF))
  (zf (BC (yp (k:=0) wC vX (za 6 0) (lX T.b_len (ze (za 5 1) zj)) (bE _)) (zf (d4 xi.nd (XE.ow (wD (n:=1) vZ vY (za 5 1) (za 6 0) (λ_ _=>rfl))))
  (zf (ug (uw (za 2 0)) (kd xi.nd) (zh (vn (yp (k:=0) (j5 hr.u64) jq (yr (n:=0) (za 4 0) T.fld_start rfl) (za 7 0) (bE _)) (zf (Sv 3 ztp rfl (yr (n:=0) (za 4 0) T.fld_goal rfl) cF)
  (zh (vn (yp (k:=0) (j5 hr.u64) jq (wD (n:=1) vZ vY (za 3 1) (yr (n:=0) (za 4 0) T.fld_goal rfl) (λ_ _=>rfl)) cF (bE _)) (zh (Ja 5 rfl (XE.ow (yr (n:=0) (za 4 0) T.fld_goal rfl)))) yq))) yq)) bV.never rfl)
  (zh (S5 N4 rfl xi.nd rfl (Or.inl rfl) cF)))) bV.never)
  (zh (Sy (i:=5) rfl))))))))
def um:SF:=(sSeq (iR 4 (eV 3) (eN dZ (aCons (eV 5) aNil)))
  (sSeq (sApp 5 (λρ=>((eV 1) ρ).bind λx=>((eV 3) ρ).bind λy=>(fq x y).join))
  (sSet 3 (e1 (cw [0,1,2,3] "start") (e2 cP (eV 0) (λρ=>((eV 1) ρ).bind λx=>((eV 3) ρ).bind λy=>(fq x y).join))))))
def ub:List D->Option D:=mOf ["arrows","chosen","going","here","seen","way"]
  (sSeq (sSet 3 (eV 2))
  (sSeq (sSet 4 (eC (.dK [] [])))
  (sSeq (sSet 5 (λρ=>(aNil ρ).bind λds=>some (.lst ds)))
  (sSeq (gb (tb (λρ=>((eV 3) ρ).bind λx=>((eV 4) ρ).bind λy=>(fq y x).bind λr=>some (.bl (!r.isSome)))) um)
  (sRet (e1 tu (λρ=>((eV 5) ρ).bind λd=>((pInt (λρ=>((eV 4) ρ).bind λx=>((eV 3) ρ).bind λy=>(fq x y).join)) ρ).bind λl=>(pNo ρ).bind λh=>iN d l h)))))))
theorem Zc (T:Txt K mg a):cz P w K mg base eJ 1 a.f_ring_back_from a.d_ring_back_from ["arrows","chosen","going"] (fY K a.ct [0,0,0] 1 ub):=by
 refine ig (ms:=[.ow 0,.ow 0,.ow 0,.ow 0,.ow 1,.ow 1]) T.ring_back_from.fn w8 λ_ _ _ _ _ _ hr=>?_
 exact(zf (d4 w8.nd (XE.ow (za 2 0)))
  (zf (d4 w8.nd Jh)
  (zf (d4 w8.nd (uC (k:=0) wy))
  (zf (BC (zmf (qQ hr) (za 3 0) (za 4 1) (by with_unfolding_all rfl)) (zf (JE 4 rfl (qQ hr) (za 3 0) (lX T.b_len (ze (za 5 1) zj)))
  (zf (Ja 5 rfl (XE.ow (HI (qQ hr) (za 1 0) (za 3 0) (λ_ _=>rfl))))
  (zh (d4 w8.nd (XE.ow (yr (n:=0) (fG (za 0 0) (HI (qQ hr) (za 1 0) (za 3 0) (λ_ _=>rfl))) T.fld_start rfl)))))) bV.never)
  (zh (zw (zsa (n:=0) (by decide) rfl rfl T.b_list rfl T.b_reversed (XO.sh (n:=0) (RR (n:=1) (by decide) (za 5 1) (NQ (HI (qQ hr) (za 4 1) (za 3 0) (λ_ _=>rfl))) Oh)))))))))
def j4:SF:=(sIf (bNot (tb (λρ=>((aCons (eV 4) (aCons (eN dZ (aCons (eV 1) aNil)) aNil)) ρ).bind λds=>IZ (ds++[])))) n4 sSkip)
def jy:Nat->List D->Option D:=AD ["self","names","arrows","number","arrow","placed"]
  (sSeq (sIf (bOr (bNot (tb (λρ=>((aCons (eV 1) aNil) ρ).bind λds=>qr (ds++[])))) (tb (e2 sg (eN dZ (aCons (eV 2) aNil)) (eC (.int 120))))) n4 sSkip)
  (sSeq (sFor (λρ=>((aCons (eV 2) aNil) ρ).bind λds=>match ds with|[.lst xs]=>some (eu 0 xs)|_=>none) (gT (gsCons (gV 3) (gsCons (gV 4) gsNil))) j4)
  (sSeq (sSet 5 (λρ=>((aCons (eN dZ (aCons (eV 1) aNil)) (aCons (eV 2) aNil)) ρ).bind λds=>vb (ds++[])))
  (sSeq (sIf (tb (e2 pY (eN dZ (aCons (eV 5) aNil)) (eN dZ (aCons (eV 1) aNil)))) n4 sSkip)
  (sSeq (kx [4] "names" (eN mK (aCons (eV 1) aNil)))
  (kx [4] "arrows" (eN mK (aCons (eV 2) aNil))))))))
theorem Zy (T:Txt K mg a):cz P w K mg base eJ 4 a.f_Net___init a.d_Net___init ["self","names","arrows"] (sI K a.ct [4] [0,0] jy):=by
 have oK:=ZP (P:=P) (w:=w) (base:=base) T
 have pN:=Z0 (P:=P) (w:=w) (base:=base) T
 have gD:=Qt (P:=P) (w:=w) (base:=base) T
 refine Hx (ms:=[.ow 0,.ow 0,.ow 0,.ow 0,.ow 0]) (rk:=0) T.Net___init.fn ji rfl rfl (by decide) (jx (by decide)) λx0 hU A outer s H E hr=>?_
 exact(zf (vn (XW.t (wF (uB (jp (XO.sh (n:=0) (cI T.are_names oK hr (ze (za 1 0) zj))))) (A7 (yp (k:=0) xX xW (lX T.b_len (ze (za 2 0) zj)) (HG (n:=0) (d:=(.int 120)) rfl T.g_MOST_ARROWS.choose_spec rfl ⟨_,rfl⟩) (bE _))))) (zh Nz) yq)
  (zf (ug (zri T.b_enumerate (ze (za 2 0) zj)) (JP (n:=1) rfl (v7 (kd ji.nd) (v7 (kd ji.nd) Jz))) (zh (vn (uB (jp (XO.sh (n:=0) (cI T.is_right pN hr (ze (za 4 0) (ze (lX T.b_len (ze (za 1 0) zj)) zj)))))) (zh Nz) yq)) bV.never rfl)
  (zf (d4 ji.nd (cI T.placed_goings gD hr (ze (lX T.b_len (ze (za 1 0) zj)) (ze (za 2 0) zj))))
  (zf (vn (yp (k:=0) wC vX (lX T.b_len (ze (za 5 0) zj)) (lX T.b_len (ze (za 1 0) zj)) (bE _)) (zh Nz) yq)
  (zf (BX T.fld_names (XO.sh (n:=0) (Nl M0 (NE (n:=0) (by decide)) rfl T.b_list BL (ze (za 1 0) zj))))
  (zh (BX T.fld_arrows (XO.sh (n:=0) (Nl M0 (NE (n:=0) (by decide)) rfl T.b_list BL (ze (za 2 0) zj))))))))))
def uf:EF:=(dA (lsD (e1 (cw [4] "arrows") (eV 0))) 1 [] (gV 0) eI (e1 (cw [0,1,2,3] "behind") (eV 0)))
def zk:List D->Option D:=mOf ["self"]
  (sRet (eN tD (aCons (e2 eG (λρ=>((aCons (eC (.int 1)) aNil) ρ).bind λds=>some (.lst ds)) uf) aNil)))
theorem vo (T:Txt K mg a):cz P w K mg base eJ 1 a.f_Net_most_behind a.d_Net_most_behind ["self"] (fY K a.ct [0] 0 zk):=by
 refine ig (ms:=[.ow 0]) T.Net_most_behind.fn Y7 λ_ _ _ _ _ _ hr=>?_
 exact(zh (zw (XE.ow (u7 (k:=0) (zl7 rfl) zrz rfl T.b_max SZ (ze (XO.sh (n:=0) (lS (XO.sh (n:=0) (uC (k:=0) (zy (XE.ow cF) wy))) (XO.sh (n:=0) (oC (N:=["arrow"]) (om:=[.ow 0]) (cap:=[]) (own:=1) (jh (n:=0) (yr (n:=0) (za 0 0) T.fld_arrows rfl)) (λ_ _ _ _ _=>(kU (show bM (["arrow"]:List aR)from by decide +kernel))) (λ_ _ _ _ _=>vg) (λ_ _ _ _ _=>(XE.ow (yr (n:=0) (za 0 0) T.fld_behind rfl))))))) zj)))))
def M4:EF:=(dA (λρ=>((aCons (e1 (cw [4] "arrows") (eV 0)) aNil) ρ).bind λds=>match ds with|[.lst xs]=>some (eu 0 xs)|_=>none) 2 [1] (gT (gsCons (gV 0) (gsCons (gV 1) gsNil))) (tb (e2 (lD false) (e1 (cw [0,1,2,3] "goal") (eV 1)) (eV 2))) (eV 0))
def u4:List D->Option D:=mOf ["self","going"]
  (sRet M4)
theorem QT (T:Txt K mg a):cz P w K mg base eJ 1 a.f_Net_into a.d_Net_into ["self","going"] (fY K a.ct [0,0] 0 u4):=by
 refine ig (ms:=[.ow 0,.ow 0]) T.Net_into.fn ZY λ_ _ _ _ _ _ hr=>?_
 exact(zh (zw (lW (oC (N:=["number","arrow","going"]) (om:=[.ow 0,.ow 0]) (cap:=[1]) (own:=2) (ND (n:=0) T.b_enumerate (ze (yr (n:=0) (za 0 0) T.fld_arrows rfl) zj)) (λ_ _ _ _ _=>(NP (n:=1) rfl (j6 (kU (show bM (["number","arrow","going"]:List aR)from by decide +kernel)) (j6 (kU (show bM (["number","arrow","going"]:List aR)from by decide +kernel)) NB)))) (λ_ _ _ _ _=>(HF (yp (k:=0) (j5 hr.u64) jq (yr (n:=0) (za 1 0) T.fld_goal rfl) (za 2 0) (bE _)))) (λ_ _ _ _ _=>(XE.ow (za 0 0)))))))
def qv:List D->Option D:=mOf ["self"]
  (sRet (λρ=>((aCons (eN dZ (aCons (e1 (cw [4] "names") (eV 0)) aNil)) (aCons (e1 (cw [4] "arrows") (eV 0)) aNil)) ρ).bind λds=>vb (ds++[])))
theorem ZQ (T:Txt K mg a):cz P w K mg base eJ 2 a.f_Net_order a.d_Net_order ["self"] (fY K a.ct [0] 0 qv):=by
 have gD:=Qt (P:=P) (w:=w) (base:=base) T
 refine ig (ms:=[.ow 0]) T.Net_order.fn ZM λ_ _ _ _ _ _ hr=>?_
 exact(zh (zw (cI T.placed_goings gD hr (ze (lX T.b_len (ze (yr (n:=0) (za 0 0) T.fld_names rfl) zj)) (ze (yr (n:=0) (za 0 0) T.fld_arrows rfl) zj)))))
def uj:SF:=(sIf (tb (e2 (inD true) (e1 (cw [0,1,2,3] "start") (e2 cP (e1 (cw [4] "arrows") (eV 0)) (eV 5))) (eV 2))) (sApp 2 (e1 (cw [0,1,2,3] "start") (e2 cP (e1 (cw [4] "arrows") (eV 0)) (eV 5)))) sSkip)
def M5:SF:=(sSeq (sSet 4 (e2 cP (eV 2) (eV 3)))
  (sSeq (sFor (lsD (λρ=>((eV 0) ρ).bind λo=>((aCons (eV 4) aNil) ρ).bind λds=>iq 4 "into" u4 o (ds++[]))) (gV 5) uj)
  (tK 3 (i2 λi j=>.int (i+j)) (eC (.int 1)))))
def jm:List D->Option D:=mOf ["net","going","found","done","here","number"]
  (sSeq (sSet 2 (λρ=>((aCons (eV 1) aNil) ρ).bind λds=>some (.lst ds)))
  (sSeq (sSet 3 (eC (.int 0)))
  (sSeq (gb (tb (e2 pY (eV 3) (eN dZ (aCons (eV 2) aNil)))) M5)
  (sRet (eN mM (aCons (eV 2) aNil))))))
theorem Z1 (T:Txt K mg a):cz P w K mg base eJ 2 a.f_leads_to a.d_leads_to ["net","going"] (fY K a.ct [0,0] 1 jm):=by
 have jS:=QT (P:=P) (w:=w) (base:=base) T
 refine ig (ms:=[.ow 0,.ow 0,.ow 1,.ow 0,.ow 0,.ow 0]) T.leads_to.fn ux λ_ _ _ _ _ _ hr=>?_
 exact(zf (d4 ux.nd (uC (k:=0) (zy (XE.ow (za 1 0)) wy)))
  (zf (d4 ux.nd (XE.ow cF))
  (zf (BC (yp (k:=0) wC vX (za 3 0) (lX T.b_len (ze (za 2 1) zj)) (bE _)) (zf (d4 ux.nd (XE.ow (wD (n:=1) vZ vY (za 2 1) (za 3 0) (λ_ _=>rfl))))
  (zf (ug (uw (XO.sh (n:=0) (Sm (n:=0) (c0:=4) (ns:=[0]) (nd:=[]) (lB:=[]) (za 0 0) T.Net.cl T.Net_into.me jS (hr.mono (by decide)) T.Net_into.bd .nil (λ_ _=>.nil) (ze (za 4 0) zj)))) (kd ux.nd) (zh (vn (yp (k:=0) ZD N9 (yr (n:=0) (fG (yr (n:=0) (za 0 0) T.fld_arrows rfl) (za 5 0)) T.fld_start rfl) (za 2 1) (by with_unfolding_all rfl)) (zh (Ja 2 rfl (XE.ow (yr (n:=0) (fG (yr (n:=0) (za 0 0) T.fld_arrows rfl) (za 5 0)) T.fld_start rfl)))) yq)) bV.never rfl)
  (zh (S5 N4 rfl ux.nd rfl (Or.inl rfl) cF)))) bV.never)
  (zh (zw (zn5 Zz zoj rfl T.b_sorted zln (ze (za 2 1) zj)))))))
def uo:SF:=(sSeq (sSet 2 (e2 eE (eV 0) (eV 1)))
  (sSeq (sSet 0 (eV 1))
  (sSet 1 (eV 2))))
def uc:List D->Option D:=mOf ["one","other","rest"]
  (sSeq (gb (tb (e2 (lD true) (eV 1) (eC (.int 0)))) uo)
  (sRet (eN yH (aCons (eV 0) aNil))))
theorem Zd (T:Txt K mg a):cz P w K mg base eJ 1 a.f_common_divisor a.d_common_divisor ["one","other"] (fY K a.ct [0,0] 0 uc):=by
 refine ig (ms:=[.ow 0,.ow 0,.ow 0]) T.common_divisor.fn vx λ_ _ _ _ _ _ hr=>?_
 exact(zf (BC (yp (k:=0) (Te hr.u64) jq (za 1 0) cF (bE _)) (zf (d4 vx.nd (XE.ow (yg (k:=0) xu xw (za 0 0) (za 1 0))))
  (zf (d4 vx.nd (XE.ow (za 1 0)))
  (zh (d4 vx.nd (XE.ow (za 2 0)))))) bV.never)
  (zh (zw (XE.ow (u7 (k:=0) znq zrp rfl T.b_abs zuc (ze (za 0 0) zj))))))
def qw:List D->Option D:=mOf ["top","bottom","divisor"]
  (sSeq (sSet 2 (λρ=>((aCons (eV 0) (aCons (eV 1) aNil)) ρ).bind λds=>uc (ds++[])))
  (sSeq (sIf (tb (e2 pY (eV 1) (eC (.int 0)))) (sSet 2 (e1 p4 (eV 2))) sSkip)
  (sRet (λρ=>((aCons (e2 ez (eV 0) (eV 2)) (aCons (e2 ez (eV 1) (eV 2)) aNil)) ρ).bind λds=>some (.tup ds)))))
theorem BI (T:Txt K mg a):cz P w K mg base eJ 2 a.f_ratio a.d_ratio ["top","bottom"] (fY K a.ct [0,0] 0 qw):=by
 have kM:=Zd (P:=P) (w:=w) (base:=base) T
 refine ig (ms:=[.ow 0,.ow 0,.ow 0]) T.ratio.fn NH λ_ _ _ _ _ _ hr=>?_
 exact(zf (d4 NH.nd (cI T.common_divisor kM hr (ze (za 0 0) (ze (za 1 0) zj))))
  (zf (vn (yp (k:=0) wC vX (za 1 0) cF (bE _)) (zh (d4 NH.nd (XE.ow (HJ (k:=0) (za 2 0))))) yq)
  (zh (zw (lW (tQ (zy (XE.ow (yg (k:=0) ve vf (za 0 0) (za 2 0))) (zy (XE.ow (yg (k:=0) ve vf (za 1 0) (za 2 0))) wy))))))))
def Jm:List D->Option D:=mOf ["one","whole"]
  (sRet (λρ=>((aCons (e2 dk (e2 cP (eV 0) (eC (.int 0))) (eV 1)) (aCons (e2 cP (eV 0) (eC (.int 1))) aNil)) ρ).bind λds=>qw (ds++[])))
theorem zmm (T:Txt K mg a):cz P w K mg base eJ 3 a.f_scaled a.d_scaled ["one","whole"] (fY K a.ct [0,0] 0 Jm):=by
 have fN:=BI (P:=P) (w:=w) (base:=base) T
 refine ig (ms:=[.ow 0,.ow 0]) T.scaled.fn zmk λ_ _ _ _ _ _ hr=>?_
 exact(zh (zw (cI T.ratio fN hr (ze (yg (k:=0) xv yy (fG (za 0 0) cF) (za 1 0)) (ze (fG (za 0 0) cF) zj)))))
def HL:List D->Option D:=mOf ["one","other"]
  (sRet (λρ=>((aCons (e2 eG (e2 dk (e2 cP (eV 0) (eC (.int 0))) (e2 cP (eV 1) (eC (.int 1)))) (e2 dk (e2 cP (eV 1) (eC (.int 0))) (e2 cP (eV 0) (eC (.int 1))))) (aCons (e2 dk (e2 cP (eV 0) (eC (.int 1))) (e2 cP (eV 1) (eC (.int 1)))) aNil)) ρ).bind λds=>qw (ds++[])))
theorem SD (T:Txt K mg a):cz P w K mg base eJ 3 a.f_plus a.d_plus ["one","other"] (fY K a.ct [0,0] 0 HL):=by
 have fN:=BI (P:=P) (w:=w) (base:=base) T
 refine ig (ms:=[.ow 0,.ow 0]) T.plus.fn zsf λ_ _ _ _ _ _ hr=>?_
 exact(zh (zw (cI T.ratio fN hr (ze (XO.sh (n:=0) (lS (yg (k:=0) xv yy (fG (za 0 0) cF) (fG (za 1 0) cF)) (yg (k:=0) xv yy (fG (za 1 0) cF) (fG (za 0 0) cF)))) (ze (yg (k:=0) xv yy (fG (za 0 0) cF) (fG (za 1 0) cF)) zj)))))
def BP:List D->Option D:=mOf ["one","other"]
  (sRet (λρ=>((aCons (eV 0) (aCons (λρ=>((aCons (eV 1) (aCons (e1 p4 (eC (.int 1))) aNil)) ρ).bind λds=>Jm (ds++[])) aNil)) ρ).bind λds=>HL (ds++[])))
theorem zo6 (T:Txt K mg a):cz P w K mg base eJ 4 a.f_minus a.d_minus ["one","other"] (fY K a.ct [0,0] 0 BP):=by
 have pQ:=SD (P:=P) (w:=w) (base:=base) T
 have sE:=zmm (P:=P) (w:=w) (base:=base) T
 refine ig (ms:=[.ow 0,.ow 0]) T.minus.fn zo3 λ_ _ _ _ _ _ hr=>?_
 exact(zh (zw (cI T.plus pQ hr (ze (za 0 0) (ze (XO.sh (n:=0) (cI T.scaled sE hr (ze (za 1 0) (ze (HJ (k:=0) cF) zj)))) zj)))))
def BQ:List D->Option D:=mOf ["one","other"]
  (sRet (e2 pY (e2 dk (e2 cP (eV 0) (eC (.int 0))) (e2 cP (eV 1) (eC (.int 1)))) (e2 dk (e2 cP (eV 1) (eC (.int 0))) (e2 cP (eV 0) (eC (.int 1))))))
theorem zo7 (T:Txt K mg a):cz P w K mg base eJ 1 a.f_under a.d_under ["one","other"] (fY K a.ct [0,0] 0 BQ):=by
 refine ig (ms:=[.ow 0,.ow 0]) T.under.fn zo4 λ_ _ _ _ _ _ hr=>?_
 exact(zh (zw (XE.ow (vW (k:=0) wC vX (yg (k:=0) xv yy (fG (za 0 0) cF) (fG (za 1 0) cF)) (yg (k:=0) xv yy (fG (za 1 0) cF) (fG (za 0 0) cF)) (bE _)))))
def Jv:List D->Option D:=mOf ["when","more"]
  (sSeq (sIf (tb (e2 (mI false) (eV 0) (eC .non))) (sRet (eC .non)) sSkip)
  (sRet (e2 eG (eV 0) (eV 1))))
theorem zo8 (T:Txt K mg a):cz P w K mg base eJ 1 a.f_later a.d_later ["when","more"] (fY K a.ct [0,0] 0 Jv):=by
 refine ig (ms:=[.ow 0,.ow 0]) T.later.fn zo5 λ_ _ _ _ _ _ hr=>?_
 exact(zf (vn (yp (k:=0) sv sr (za 0 0) lY (bE _)) (zh (zw (XE.ow lY))) yq)
  (zh (zw (lW (lS (za 0 0) (za 1 0))))))
def HA:List D->Option D:=mOf ["one","other"]
  (sSeq (sIf (tb (e2 (mI false) (eV 0) (eC .non))) (sRet (eV 1)) sSkip)
  (sSeq (sIf (tb (e2 (mI false) (eV 1) (eC .non))) (sRet (eV 0)) sSkip)
  (sRet (eN tw (aCons (eV 0) (aCons (eV 1) aNil))))))
theorem Rv (T:Txt K mg a):cz P w K mg base eJ 1 a.f_latest a.d_latest ["one","other"] (fY K a.ct [0,0] 0 HA):=by
 refine ig (ms:=[.ow 0,.ow 0]) T.latest.fn zml λ_ _ _ _ _ _ hr=>?_
 exact(zf (vn (yp (k:=0) sv sr (za 0 0) lY (bE _)) (zh (zw (XE.ow (za 1 0)))) yq)
  (zf (vn (yp (k:=0) sv sr (za 1 0) lY (bE _)) (zh (zw (XE.ow (za 0 0)))) yq)
  (zh (zw (XE.ow (u7 (k:=0) (zk5 rfl) zn8 rfl T.b_max SZ (ze (za 0 0) (ze (za 1 0) zj))))))))
def Nr:EF:=(dA (lsD (eV 1)) 1 [0] (gV 0) eI (e1 (cw [0,1,2,3] "behind") (e2 cP (e1 (cw [4] "arrows") (eV 1)) (eV 0))))
def Nt:EF:=(dA (lsD (eV 1)) 1 [0] (gV 0) eI (e1 (cw [0,1,2,3] "time") (e2 cP (e1 (cw [4] "arrows") (eV 1)) (eV 0))))
def wA:List D->Option D:=mOf ["net","ring","times","behinds"]
  (sSeq (sSet 2 (eN n8 (aCons Nt aNil)))
  (sSeq (sSet 3 (eN n8 (aCons Nr aNil)))
  (sRet (λρ=>((aCons (eV 2) (aCons (eV 3) aNil)) ρ).bind λds=>qw (ds++[])))))
theorem SE (T:Txt K mg a):cz P w K mg base eJ 3 a.f_mean a.d_mean ["net","ring"] (fY K a.ct [0,0] 0 wA):=by
 have fN:=BI (P:=P) (w:=w) (base:=base) T
 refine ig (ms:=[.ow 0,.ow 0,.ow 0,.ow 0]) T.mean.fn NV λ_ _ _ _ _ _ hr=>?_
 exact(zf (d4 NV.nd (XE.ow (u7 (k:=0) (Hw rfl) HD rfl T.b_sum HK (ze (XO.sh (n:=0) (oC (N:=["number","net"]) (om:=[.ow 0]) (cap:=[0]) (own:=1) (jh (n:=0) (za 1 0)) (λ_ _ _ _ _=>(kU (show bM (["number","net"]:List aR)from by decide +kernel))) (λ_ _ _ _ _=>vg) (λ_ _ _ _ _=>(XE.ow (yr (n:=0) (fG (yr (n:=0) (za 1 0) T.fld_arrows rfl) (za 0 0)) T.fld_time rfl))))) zj))))
  (zf (d4 NV.nd (XE.ow (u7 (k:=0) (Hw rfl) HD rfl T.b_sum HK (ze (XO.sh (n:=0) (oC (N:=["number","net"]) (om:=[.ow 0]) (cap:=[0]) (own:=1) (jh (n:=0) (za 1 0)) (λ_ _ _ _ _=>(kU (show bM (["number","net"]:List aR)from by decide +kernel))) (λ_ _ _ _ _=>vg) (λ_ _ _ _ _=>(XE.ow (yr (n:=0) (fG (yr (n:=0) (za 1 0) T.fld_arrows rfl) (za 0 0)) T.fld_behind rfl))))) zj))))
  (zh (zw (cI T.ratio fN hr (ze (za 2 0) (ze (za 3 0) zj)))))))
def xt:SF:=(sSeq (sSet 7 (e2 cP (e1 (cw [4] "arrows") (eV 0)) (eV 6)))
  (sSeq (sSet 8 (e2 n6 (e2 eG (e2 cP (eV 3) (e1 (cw [0,1,2,3] "start") (eV 7))) (e2 dk (e1 (cw [0,1,2,3] "time") (eV 7)) (e2 cP (eV 1) (eC (.int 1))))) (e2 dk (e1 (cw [0,1,2,3] "behind") (eV 7)) (e2 cP (eV 1) (eC (.int 0))))))
  (sIf (tb (e2 sg (eV 8) (e2 cP (eV 3) (e1 (cw [0,1,2,3] "goal") (eV 7))))) (sSeq (o6 3 (e1 (cw [0,1,2,3] "goal") (eV 7)) (eV 8))
  (sSeq (iR 4 (e1 (cw [0,1,2,3] "goal") (eV 7)) (eV 6))
  (sSet 5 (e1 (cw [0,1,2,3] "goal") (eV 7))))) sSkip)))
def vt:List D->Option D:=AH 3 ["net","pace","numbers","times","chosen","pushed","number","arrow","earliest"]
  (vF (sSet 5 (eC .non))
  (vF (sFor (lsD (eV 2)) (gV 6) xt)
  (AI (eV 5))))
theorem ZR (T:Txt K mg a):cz P w K mg base eJ 1 a.f_push_once a.d_push_once ["net","pace","numbers","times","chosen"] (Bd K a.ct 3 vt):=by
 refine zo1 (n:=3) (ms:=[.ow 0,.ow 0,.ow 0,.ow 0]) T.push_once.fn uh rfl rfl λxa xb hU A outer s H E hr=>?_
 exact(SC (d4 uh.nd (XE.ow lY))
  (SC (ug (uw (za 2 0)) (kd uh.nd) (zf (d4 uh.nd (XE.ow (fG (yr (n:=0) (za 0 0) T.fld_arrows rfl) (za 6 0))))
  (zf (d4 uh.nd (XE.ow (yg (k:=0) BU BM (XO.sh (n:=0) (lS (wD (n:=1) vZ vY (za 3 1) (yr (n:=0) (za 7 0) T.fld_start rfl) (λ_ _=>rfl)) (yg (k:=0) xv yy (yr (n:=0) (za 7 0) T.fld_time rfl) (fG (za 1 0) cF)))) (yg (k:=0) xv yy (yr (n:=0) (za 7 0) T.fld_behind rfl) (fG (za 1 0) cF)))))
  (zh (vn (yp (k:=0) xX xW (za 8 0) (wD (n:=1) vZ vY (za 3 1) (yr (n:=0) (za 7 0) T.fld_goal rfl) (λ_ _=>rfl)) (bE _)) (zf (zoz 3 rfl (yr (n:=0) (za 7 0) T.fld_goal rfl) (za 8 0))
  (zf (zo0 4 rfl (qQ hr) (yr (n:=0) (za 7 0) T.fld_goal rfl) (za 6 0))
  (zh (d4 uh.nd (XE.ow (yr (n:=0) (za 7 0) T.fld_goal rfl)))))) yq)))) bV.never rfl)
  (zuv (za 5 0))))
def uq:EF:=(dA (lsD (eV 3)) 1 [1] (gV 0) eI (λρ=>((aCons (eV 0) (aCons (e2 cP (eV 1) (eC (.int 1))) aNil)) ρ).bind λds=>qw (ds++[])))
def wk:SF:=(sSeq (nJ 5 (mB 3 4 (aCons (eV 0) (aCons (eV 1) (aCons (eV 2) aNil))) vt))
  (sIf (tb (e2 (mI false) (eV 5) (eC .non))) (sFz 3 (sRet (λρ=>((aCons (Bk (eC (.str "times"))) (aCons uq aNil)) ρ).bind λds=>some (.tup ds)))) sSkip))
def xl:List D->Option D:=mOf ["net","pace","numbers","times","chosen","pushed","count"]
  (sSeq (sSet 3 (e2 kS (λρ=>((aCons (eC (.int 0)) aNil) ρ).bind λds=>some (.lst ds)) (eN dZ (aCons (e1 (cw [4] "names") (eV 0)) aNil))))
  (sSeq (sSet 4 (eC (.dK [] [])))
  (sSeq (sSet 5 (eC .non))
  (sSeq (sFor (λρ=>((aCons (eN dZ (aCons (e1 (cw [4] "names") (eV 0)) aNil)) aNil) ρ).bind gE) (gV 6) wk)
  (sFz 4 (sRet (λρ=>((aCons (Bk (eC (.str "ring"))) (aCons (λρ=>((aCons (e1 (cw [4] "arrows") (eV 0)) (aCons (eV 4) (aCons (eV 5) aNil))) ρ).bind λds=>ub (ds++[])) aNil)) ρ).bind λds=>some (.tup ds))))))))
theorem uv (T:Txt K mg a):cz P w K mg base eJ 3 a.f_times_or_ring_along a.d_times_or_ring_along ["net","pace","numbers"] (fY K a.ct [0,0,0] 2 xl):=by
 have oR:=ZR (P:=P) (w:=w) (base:=base) T
 have fN:=BI (P:=P) (w:=w) (base:=base) T
 have kN:=Zc (P:=P) (w:=w) (base:=base) T
 refine ig (ms:=[.ow 0,.ow 0,.ow 0,.ow 1,.ow 1,.ow 0,.ow 0]) T.times_or_ring_along.fn yz λ_ _ _ _ _ _ hr=>?_
 exact(zf (d4 yz.nd (JS (uC (k:=0) (zy (XE.ow cF) wy)) (lX T.b_len (ze (yr (n:=0) (za 0 0) T.fld_names rfl) zj))))
  (zf (d4 yz.nd Jh)
  (zf (d4 yz.nd (XE.ow lY))
  (zf (ug (wn (n:=0) T.b_range (ze (lX T.b_len (ze (yr (n:=0) (za 0 0) T.fld_names rfl) zj)) zj)) (kd yz.nd) (zf (zsd rfl yz.nd rfl (Or.inl rfl) (zsc (i:=3) (j:=4) (by decide) rfl rfl oR (hr.mono (by decide)) rfl T.push_once.mgx T.push_once.fn.kp T.push_once.bd .nil (NU (NU (NU zuw))) (NG (za 0 0) (NG (za 1 0) (NG (za 2 0) (zsb (i:=3) (j:=4)))))))
  (zh (vn (yp (k:=0) sv sr (za 5 0) lY (bE _)) (Tf (i:=3) rfl (zh (zw (tQ (zy (Tu (xU (n:=0))) (zy (oC (N:=["time","pace"]) (om:=[.ow 0]) (cap:=[1]) (own:=1) (jh (n:=0) (za 3 0)) (λ_ _ _ _ _=>(kU (show bM (["time","pace"]:List aR)from by decide +kernel))) (λ_ _ _ _ _=>vg) (λ_ _ _ _ _=>(cI T.ratio fN hr (ze (za 0 0) (ze (fG (za 1 0) cF) zj))))) wy)))))) yq))) bV.never rfl)
  (Tf (i:=4) rfl (zh (zw (tQ (zy (Tu (xU (n:=0))) (zy (cI T.ring_back_from kN hr (ze (yr (n:=0) (za 0 0) T.fld_arrows rfl) (ze (za 4 0) (ze (za 5 0) zj)))) wy))))))))))
def vv:List D->Option D:=mOf ["net","pace","numbers","found"]
  (sSeq (sSet 3 (λρ=>((aCons (eV 0) (aCons (eV 1) (aCons (eV 2) aNil))) ρ).bind λds=>xl (ds++[])))
  (sRet (eIf (tb (e2 (lD false) (e2 cP (eV 3) (eC (.int 0))) (eC (.str "ring")))) (e2 cP (eV 3) (eC (.int 1))) (eC .non))))
theorem Zs (T:Txt K mg a):cz P w K mg base eJ 4 a.f_ring_above a.d_ring_above ["net","pace","numbers"] (fY K a.ct [0,0,0] 0 vv):=by
 have eL:=uv (P:=P) (w:=w) (base:=base) T
 refine ig (ms:=[.ow 0,.ow 0,.ow 0,.ow 0]) T.ring_above.fn Qu λ_ _ _ _ _ _ hr=>?_
 exact(zf (d4 Qu.nd (lW (cI T.times_or_ring_along eL hr (ze (za 0 0) (ze (za 1 0) (ze (za 2 0) zj))))))
  (zh (zw (XE.ow (HQ (yp (k:=0) (j5 hr.u64) jq (fG (za 3 0) cF) (xU (n:=0)) (bE _)) (fG (za 3 0) cF) lY)))))
def Jn:List D->Option D:=mOf ["one","other","total"]
  (sSeq (sSet 2 (λρ=>((aCons (eV 0) (aCons (eV 1) aNil)) ρ).bind λds=>HL (ds++[])))
  (sRet (λρ=>((aCons (e2 cP (eV 2) (eC (.int 0))) (aCons (e2 dk (e2 cP (eV 2) (eC (.int 1))) (eC (.int 2))) aNil)) ρ).bind λds=>qw (ds++[]))))
theorem zmp (T:Txt K mg a):cz P w K mg base eJ 4 a.f_midway a.d_midway ["one","other"] (fY K a.ct [0,0] 0 Jn):=by
 have pQ:=SD (P:=P) (w:=w) (base:=base) T
 have fN:=BI (P:=P) (w:=w) (base:=base) T
 refine ig (ms:=[.ow 0,.ow 0,.ow 0]) T.midway.fn Rt λ_ _ _ _ _ _ hr=>?_
 exact(zf (d4 Rt.nd (cI T.plus pQ hr (ze (za 0 0) (ze (za 1 0) zj))))
  (zh (zw (cI T.ratio fN hr (ze (fG (za 2 0) cF) (ze (yg (k:=0) xv yy (fG (za 2 0) cF) cF) zj))))))
def qx:List D->Option D:=mOf ["net","most"]
  (sSeq (sSet 1 (e2 dk (eN dZ (aCons (e1 (cw [4] "names") (eV 0)) aNil)) (λρ=>((eV 0) ρ).bind λo=>iq 4 "most_behind" zk o [])))
  (sRet (λρ=>((aCons (eC (.int 1)) (aCons (e2 dk (eV 1) (eV 1)) aNil)) ρ).bind λds=>qw (ds++[]))))
theorem ZS (T:Txt K mg a):cz P w K mg base eJ 3 a.f_least_gap a.d_least_gap ["net"] (fY K a.ct [0] 0 qx):=by
 have cV:=vo (P:=P) (w:=w) (base:=base) T
 have fN:=BI (P:=P) (w:=w) (base:=base) T
 refine ig (ms:=[.ow 0,.ow 0]) T.least_gap.fn QD λ_ _ _ _ _ _ hr=>?_
 exact(zf (d4 QD.nd (XE.ow (yg (k:=0) xv yy (lX T.b_len (ze (yr (n:=0) (za 0 0) T.fld_names rfl) zj)) (XO.sh (n:=0) (Hz (n:=0) (c0:=4) (nd:=[]) (lB:=[]) (za 0 0) T.Net.cl T.Net_most_behind.me cV (hr.mono (by decide)) T.Net_most_behind.bd .nil (λ_ _=>.nil))))))
  (zh (zw (cI T.ratio fN hr (ze cF (ze (yg (k:=0) xv yy (za 1 0) (za 1 0)) zj))))))
def vz:SF:=(sSeq (sSet 5 (λρ=>((aCons (λρ=>((aCons (eV 0) (aCons (eV 2) aNil)) ρ).bind λds=>wA (ds++[])) (aCons (eV 3) aNil)) ρ).bind λds=>Jn (ds++[])))
  (sSeq (sSet 6 (λρ=>((aCons (eV 0) (aCons (eV 5) (aCons (eV 1) aNil))) ρ).bind λds=>vv (ds++[])))
  (sIf (tb (e2 (mI false) (eV 6) (eC .non))) (sSet 3 (eV 5)) (sSet 2 (eV 6)))))
def qd:EF:=(dA (lsD (eV 1)) 1 [0] (gV 0) eI (e1 (cw [0,1,2,3] "time") (e2 cP (e1 (cw [4] "arrows") (eV 1)) (eV 0))))
def vw:List D->Option D:=mOf ["net","numbers","ring","ceiling","gap","middle","better"]
  (sSeq (sSet 2 (λρ=>((aCons (eV 0) (aCons (λρ=>((aCons (e1 p4 (eC (.int 1))) (aCons (eC (.int 1)) aNil)) ρ).bind λds=>some (.tup ds)) (aCons (eV 1) aNil))) ρ).bind λds=>vv (ds++[])))
  (sSeq (sIf (tb (e2 (mI false) (eV 2) (eC .non))) (sRet (eC .non)) sSkip)
  (sSeq (sSet 3 (λρ=>((aCons (eN n8 (aCons qd aNil)) (aCons (eC (.int 1)) aNil)) ρ).bind λds=>some (.tup ds)))
  (sSeq (sSet 4 (λρ=>((aCons (eV 0) aNil) ρ).bind λds=>qx (ds++[])))
  (sSeq (gb (bNot (tb (λρ=>((aCons (λρ=>((aCons (eV 3) (aCons (λρ=>((aCons (eV 0) (aCons (eV 2) aNil)) ρ).bind λds=>wA (ds++[])) aNil)) ρ).bind λds=>BP (ds++[])) (aCons (eV 4) aNil)) ρ).bind λds=>BQ (ds++[])))) vz)
  (sRet (eV 2)))))))
theorem Za (T:Txt K mg a):cz P w K mg base eJ 5 a.f_greatest_ring a.d_greatest_ring ["net","numbers"] (fY K a.ct [0,0] 0 vw):=by
 have km:=Zs (P:=P) (w:=w) (base:=base) T
 have oQ:=ZS (P:=P) (w:=w) (base:=base) T
 have uL:=zo7 (P:=P) (w:=w) (base:=base) T
 have uK:=zo6 (P:=P) (w:=w) (base:=base) T
 have nQ:=SE (P:=P) (w:=w) (base:=base) T
 have sD:=zmp (P:=P) (w:=w) (base:=base) T
 refine ig (ms:=[.ow 0,.ow 0,.ow 0,.ow 0,.ow 0,.ow 0,.ow 0]) T.greatest_ring.fn xq λ_ _ _ _ _ _ hr=>?_
 exact(zf (d4 xq.nd (cI T.ring_above km hr (ze (za 0 0) (ze (XO.sh (n:=0) (tQ (zy (XE.ow (HJ (k:=0) cF)) (zy (XE.ow cF) wy)))) (ze (za 1 0) zj)))))
  (zf (vn (yp (k:=0) sv sr (za 2 0) lY (bE _)) (zh (zw (XE.ow lY))) yq)
  (zf (d4 xq.nd (lW (tQ (zy (XE.ow (u7 (k:=0) (Hw rfl) HD rfl T.b_sum HK (ze (XO.sh (n:=0) (oC (N:=["number","net"]) (om:=[.ow 0]) (cap:=[0]) (own:=1) (jh (n:=0) (za 1 0)) (λ_ _ _ _ _=>(kU (show bM (["number","net"]:List aR)from by decide +kernel))) (λ_ _ _ _ _=>vg) (λ_ _ _ _ _=>(XE.ow (yr (n:=0) (fG (yr (n:=0) (za 1 0) T.fld_arrows rfl) (za 0 0)) T.fld_time rfl))))) zj))) (zy (XE.ow cF) wy)))))
  (zf (d4 xq.nd (cI T.least_gap oQ hr (ze (za 0 0) zj)))
  (zf (BC (uB (jp (XO.sh (n:=0) (cI T.under uL hr (ze (XO.sh (n:=0) (cI T.minus uK hr (ze (za 3 0) (ze (XO.sh (n:=0) (cI T.mean nQ hr (ze (za 0 0) (ze (za 2 0) zj)))) zj)))) (ze (za 4 0) zj)))))) (zf (d4 xq.nd (cI T.midway sD hr (ze (XO.sh (n:=0) (cI T.mean nQ hr (ze (za 0 0) (ze (za 2 0) zj)))) (ze (za 3 0) zj))))
  (zf (d4 xq.nd (cI T.ring_above km hr (ze (za 0 0) (ze (za 5 0) (ze (za 1 0) zj)))))
  (zh (vn (yp (k:=0) sv sr (za 6 0) lY (bE _)) (zh (d4 xq.nd (XE.ow (za 5 0)))) (zh (d4 xq.nd (XE.ow (za 6 0)))))))) bV.never)
  (zh (zw (XE.ow (za 2 0)))))))))
def ur:List D->Option D:=mOf ["net","numbers","ring","pace"]
  (sSeq (sSet 2 (λρ=>((aCons (eV 0) (aCons (eV 1) aNil)) ρ).bind λds=>vw (ds++[])))
  (sSeq (sIf (tb (e2 (mI false) (eV 2) (eC .non))) (sRet (eC .non)) sSkip)
  (sSeq (sSet 3 (λρ=>((aCons (eV 0) (aCons (eV 2) aNil)) ρ).bind λds=>wA (ds++[])))
  (sRet (λρ=>((aCons (eV 3) (aCons (eV 2) (aCons (e2 cP (λρ=>((aCons (eV 0) (aCons (eV 3) (aCons (eV 1) aNil))) ρ).bind λds=>xl (ds++[])) (eC (.int 1))) aNil))) ρ).bind λds=>some (.tup ds))))))
theorem Zr (T:Txt K mg a):cz P w K mg base eJ 6 a.f_paper_along a.d_paper_along ["net","numbers"] (fY K a.ct [0,0] 0 ur):=by
 have lO:=Za (P:=P) (w:=w) (base:=base) T
 have nQ:=SE (P:=P) (w:=w) (base:=base) T
 have eL:=uv (P:=P) (w:=w) (base:=base) T
 refine ig (ms:=[.ow 0,.ow 0,.ow 0,.ow 0]) T.paper_along.fn j0 λ_ _ _ _ _ _ hr=>?_
 exact(zf (d4 j0.nd (cI T.greatest_ring lO hr (ze (za 0 0) (ze (za 1 0) zj))))
  (zf (vn (yp (k:=0) sv sr (za 2 0) lY (bE _)) (zh (zw (XE.ow lY))) yq)
  (zf (d4 j0.nd (cI T.mean nQ hr (ze (za 0 0) (ze (za 2 0) zj))))
  (zh (zw (lW (tQ (zy (XE.ow (za 3 0)) (zy (XE.ow (za 2 0)) (zy (XE.ow (fG (XO.sh (n:=0) (cI T.times_or_ring_along eL hr (ze (za 0 0) (ze (za 3 0) (ze (za 1 0) zj))))) cF)) wy))))))))))
def Nu:EF:=(dA (λρ=>((aCons (e2 cP (eV 3) (eC (.int 2))) aNil) ρ).bind λds=>match ds with|[.lst xs]=>some (eu 0 xs)|_=>none) 2 [2] (gT (gsCons (gV 0) (gsCons (gV 1) gsNil))) eI (eIf (tb (e2 (inD false) (eV 0) (eV 2))) (eV 1) (eC .non)))
def Nv:EF:=(dA (λρ=>((aCons (e1 (cw [4] "arrows") (eV 0)) aNil) ρ).bind λds=>match ds with|[.lst xs]=>some (eu 0 xs)|_=>none) 2 [2] (gT (gsCons (gV 0) (gsCons (gV 1) gsNil))) (tb (e2 (inD false) (e1 (cw [0,1,2,3] "goal") (eV 1)) (eV 2))) (eV 0))
def HM:List D->Option D:=mOf ["net","going","leading","paper","times"]
  (sSeq (sSet 2 (λρ=>((aCons (eV 0) (aCons (eV 1) aNil)) ρ).bind λds=>jm (ds++[])))
  (sSeq (sSet 3 (λρ=>((aCons (eV 0) (aCons Nv aNil)) ρ).bind λds=>ur (ds++[])))
  (sSeq (sIf (tb (e2 (mI false) (eV 3) (eC .non))) (sRet (eC .non)) sSkip)
  (sSeq (sSet 4 Nu)
  (sRet (λρ=>((aCons (e2 cP (eV 3) (eC (.int 0))) (aCons (e2 cP (eV 3) (eC (.int 1))) (aCons (eV 4) aNil))) ρ).bind λds=>some (.tup ds)))))))
theorem zsg (T:Txt K mg a):cz P w K mg base eJ 7 a.f_rate a.d_rate ["net","going"] (fY K a.ct [0,0] 0 HM):=by
 have pP:=Z1 (P:=P) (w:=w) (base:=base) T
 have nc:=Zr (P:=P) (w:=w) (base:=base) T
 refine ig (ms:=[.ow 0,.ow 0,.ow 0,.ow 0,.ow 0]) T.rate.fn JF λ_ _ _ _ _ _ hr=>?_
 exact(zf (d4 JF.nd (lW (cI T.leads_to pP hr (ze (za 0 0) (ze (za 1 0) zj)))))
  (zf (d4 JF.nd (cI T.paper_along nc hr (ze (za 0 0) (ze (XO.sh (n:=0) (oC (N:=["number","arrow","leading"]) (om:=[.ow 0,.ow 0]) (cap:=[2]) (own:=2) (ND (n:=0) T.b_enumerate (ze (yr (n:=0) (za 0 0) T.fld_arrows rfl) zj)) (λ_ _ _ _ _=>(NP (n:=1) rfl (j6 (kU (show bM (["number","arrow","leading"]:List aR)from by decide +kernel)) (j6 (kU (show bM (["number","arrow","leading"]:List aR)from by decide +kernel)) NB)))) (λ_ _ _ _ _=>(HF (yp (k:=0) Rj N9 (yr (n:=0) (za 1 0) T.fld_goal rfl) (za 2 0) (by with_unfolding_all rfl)))) (λ_ _ _ _ _=>(XE.ow (za 0 0))))) zj))))
  (zf (vn (yp (k:=0) sv sr (za 3 0) lY (bE _)) (zh (zw (XE.ow lY))) yq)
  (zf (jl (k:=0) (N:=["place","time","leading"]) (om:=[.ow 0,.ow 0]) (cap:=[2]) (own:=2) rfl JF.nd rfl (Or.inl rfl) (A6 (by rfl)) rfl rfl (by decide) (ND (n:=0) T.b_enumerate (ze (fG (za 3 0) cF) zj)) (λ_ _ _ _ _=>(NP (n:=1) rfl (j6 (kU (show bM (["place","time","leading"]:List aR)from by decide +kernel)) (j6 (kU (show bM (["place","time","leading"]:List aR)from by decide +kernel)) NB)))) (λ_ _ _ _ _=>vg) (λ_ _ _ _ _=>(XE.ow (HQ (yp (k:=0) Rj N9 (za 0 0) (za 2 0) (by with_unfolding_all rfl)) (za 1 0) lY))))
  (zh (zw (lW (tQ (zy (XE.ow (fG (za 3 0) cF)) (zy (XE.ow (fG (za 3 0) cF)) (zy (XE.ow (za 4 0)) wy)))))))))))
def u5:SF:=(iR 1 (λρ=>((aCons (eV 2) (aCons (eV 3) aNil)) ρ).bind λds=>some (.tup ds)) (λρ=>((aCons (λρ=>((eV 1) ρ).bind λx=>((λρ=>((aCons (eV 2) (aCons (eV 3) aNil)) ρ).bind λds=>some (.tup ds)) ρ).bind λy=>(fq x y).bind λr=>some (r.getD .non)) (aCons (eV 4) aNil)) ρ).bind λds=>HA (ds++[])))
def xx:List D->Option D:=mOf ["told","greatest","going","number","amount"]
  (sSeq (sSet 1 (eC (.dT [] [])))
  (sSeq (sFor (lsD (eV 0)) (gT (gsCons (gV 2) (gsCons (gV 3) (gsCons (gV 4) gsNil)))) u5)
  (sRet (eV 1))))
theorem Zb (T:Txt K mg a):cz P w K mg base eJ 2 a.f_greatest_told a.d_greatest_told ["told"] (fY K a.ct [0] 0 xx):=by
 have mn:=Rv (P:=P) (w:=w) (base:=base) T
 refine ig (ms:=[.ow 0,.ow 1,.ow 0,.ow 0,.ow 0]) T.greatest_told.fn vm λ_ _ _ _ _ _ hr=>?_
 exact(zf (d4 vm.nd zn4)
  (zf (ug (uw (za 0 0)) (JP (n:=0) rfl (v7 (kd vm.nd) (v7 (kd vm.nd) (v7 (kd vm.nd) Jz)))) (zh (JE 1 rfl (qQ hr) (XO.sh (n:=0) (tQ (zy (XE.ow (za 2 0)) (zy (XE.ow (za 3 0)) wy)))) (XO.sh (n:=0) (cI T.latest mn hr (ze (So (n:=1) (qQ hr) (za 1 1) (XO.sh (n:=0) (tQ (zy (XE.ow (za 2 0)) (zy (XE.ow (za 3 0)) wy)))) ⟨rfl,rfl,rfl,rfl⟩) (ze (za 4 0) zj)))))) bV.never rfl)
  (zh (Sy (i:=1) rfl))))
def Qw:EF:=(dA (λρ=>((lsD (λρ=>((eV 1) ρ).bind λd=>(pNo ρ).bind λl=>((pInt (eV 2)) ρ).bind λh=>iN d l h)) ρ).bind λds=>some ds.reverse) 1 [] (gV 0) eI (eN mK (aCons (eV 0) aNil)))
def Qx:EF:=(dA (λρ=>((aCons (eV 2) aNil) ρ).bind gE) 1 [0] (gV 0) eI (e2 kS (λρ=>((aCons (eC (.int 0)) aNil) ρ).bind λds=>some (.lst ds)) (eN dZ (aCons (e1 (cw [4] "names") (eV 1)) aNil))))
def vc:List D->Option D:=mOf ["net","was","depth"]
  (sSeq (sSet 2 (λρ=>((eV 0) ρ).bind λo=>iq 4 "most_behind" zk o []))
  (sSeq (sIf (tb (e2 (mI false) (eV 1) (eC .non))) (sRet Qx) sSkip)
  (sRet Qw)))
theorem Zt (T:Txt K mg a):cz P w K mg base eJ 2 a.f_rows_ahead a.d_rows_ahead ["net","was"] (fY K a.ct [0,0] 2 vc):=by
 have cV:=vo (P:=P) (w:=w) (base:=base) T
 refine ig (ms:=[.ow 0,.ow 0,.ow 0]) T.rows_ahead.fn Qv λ_ _ _ _ _ _ hr=>?_
 exact(zf (d4 Qv.nd (Hz (n:=0) (c0:=4) (nd:=[]) (lB:=[]) (za 0 0) T.Net.cl T.Net_most_behind.me cV (hr.mono (by decide)) T.Net_most_behind.bd .nil (λ_ _=>.nil)))
  (zf (vn (yp (k:=0) sv sr (za 1 0) lY (bE _)) (zh (zw (oC (N:=["number","net"]) (om:=[.ow 0]) (cap:=[0]) (own:=1) (XI.cc (wn (n:=0) T.b_range (ze (za 2 0) zj))) (λ_ _ _ _ _=>(kU (show bM (["number","net"]:List aR)from by decide +kernel))) (λ_ _ _ _ _=>vg) (λ_ _ _ _ _=>(JS (uC (k:=0) (zy (XE.ow cF) wy)) (lX T.b_len (ze (yr (n:=0) (za 1 0) T.fld_names rfl) zj))))))) yq)
  (zh (zw (oC (N:=["row"]) (om:=[.ow 0]) (cap:=[]) (own:=1) (zr6 (n:=0) T.b_reversed (XO.sh (n:=0) (RR (n:=0) (by decide) (za 1 0) Oh (NQ (za 2 0))))) (λ_ _ _ _ _=>(kU (show bM (["row"]:List aR)from by decide +kernel))) (λ_ _ _ _ _=>vg) (λ_ _ _ _ _=>(Nl M0 (NE (n:=0) (by decide)) rfl T.b_list BL (ze (za 0 0) zj))))))))
def v5:SF:=(sSeq (sSet 6 (e2 cP (e1 (cw [4] "arrows") (eV 0)) (eV 5)))
  (sSet 4 (λρ=>((aCons (eV 4) (aCons (λρ=>((aCons (e2 cP (e2 cP (eV 1) (e2 n6 (e1 p4 (eC (.int 1))) (e1 (cw [0,1,2,3] "behind") (eV 6)))) (e1 (cw [0,1,2,3] "start") (eV 6))) (aCons (e1 (cw [0,1,2,3] "time") (eV 6)) aNil)) ρ).bind λds=>Jv (ds++[])) aNil)) ρ).bind λds=>HA (ds++[]))))
def vp:List D->Option D:=mOf ["net","rows","numbers","floor","when","number","arrow"]
  (sSeq (sSet 4 (eV 3))
  (sSeq (sFor (lsD (eV 2)) (gV 5) v5)
  (sRet (eV 4))))
theorem Y8 (T:Txt K mg a):cz P w K mg base eJ 2 a.f_time_in_last_row a.d_time_in_last_row ["net","rows","numbers","floor"] (fY K a.ct [0,2,0,0] 0 vp):=by
 have mn:=Rv (P:=P) (w:=w) (base:=base) T
 have uJ:=zo8 (P:=P) (w:=w) (base:=base) T
 refine ig (ms:=[.ow 0,.al 2,.ow 0,.ow 0,.ow 0,.ow 0,.ow 0]) T.time_in_last_row.fn wo λ_ _ _ _ _ _ hr=>?_
 exact(zf (d4 wo.nd (XE.ow (za 3 0)))
  (zf (ug (uw (za 2 0)) (kd wo.nd) (zf (d4 wo.nd (XE.ow (fG (yr (n:=0) (za 0 0) T.fld_arrows rfl) (za 5 0))))
  (zh (d4 wo.nd (cI T.latest mn hr (ze (za 4 0) (ze (XO.sh (n:=0) (cI T.later uJ hr (ze (wD (n:=1) vZ vY (wD (n:=2) vZ vY (za 1 2) (yg (k:=0) BU BM (HJ (k:=0) cF) (yr (n:=0) (za 6 0) T.fld_behind rfl)) (λ_ _=>rfl)) (yr (n:=0) (za 6 0) T.fld_start rfl) (λ_ _=>rfl)) (ze (yr (n:=0) (za 6 0) T.fld_time rfl) zj)))) zj)))))) bV.never rfl)
  (zh (zw (XE.ow (za 4 0))))))
def vq:SF:=(sSeq (sSet 10 (λρ=>((eV 5) ρ).bind λx=>((λρ=>((aCons (eV 9) (aCons (eV 8) aNil)) ρ).bind λds=>some (.tup ds)) ρ).bind λy=>(fq x y).bind λr=>some (r.getD .non)))
  (p5 4 (e1 p4 (eC (.int 1))) (eV 9) (λρ=>((aCons (eV 0) (aCons (eV 4) (aCons (e2 cP (eV 6) (eV 9)) (aCons (eV 10) aNil)))) ρ).bind λds=>vp (ds++[]))))
def ut:SF:=(sSeq (sApp 4 (e2 kS (λρ=>((aCons (eC .non) aNil) ρ).bind λds=>some (.lst ds)) (eN dZ (aCons (e1 (cw [4] "names") (eV 0)) aNil))))
  (sFor (lsD (eV 7)) (gV 9) vq))
def jz:EF:=(dA (λρ=>((aCons (eN dZ (aCons (e1 (cw [4] "names") (eV 0)) aNil)) aNil) ρ).bind gE) 1 [0] (gV 0) eI (λρ=>((eV 1) ρ).bind λo=>((aCons (eV 0) aNil) ρ).bind λds=>iq 4 "into" u4 o (ds++[])))
def ud:List D->Option D:=mOf ["net","rounds","was","floors","rows","greatest","numbers","order","number","going","floor"]
  (sSeq (sSet 4 (λρ=>((aCons (eV 0) (aCons (eV 2) aNil)) ρ).bind λds=>vc (ds++[])))
  (sSeq (sSet 5 (λρ=>((aCons (eIf (tb (e2 (mI false) (eV 3) (eC .non))) (λρ=>(aNil ρ).bind λds=>some (.lst ds)) (eV 3)) aNil) ρ).bind λds=>xx (ds++[])))
  (sSeq (sSet 6 jz)
  (sSeq (sSet 7 (λρ=>((eV 0) ρ).bind λo=>iq 4 "order" qv o []))
  (sSeq (sFor (λρ=>((aCons (eV 1) aNil) ρ).bind gE) (gV 8) ut)
  (sRet (eV 4)))))))
theorem Ze (T:Txt K mg a):cz P w K mg base eJ 3 a.f_rows_with_past a.d_rows_with_past ["net","rounds","was","floors"] (fY K a.ct [0,0,0,0] 2 ud):=by
 have nR:=Zt (P:=P) (w:=w) (base:=base) T
 have lP:=Zb (P:=P) (w:=w) (base:=base) T
 have jS:=QT (P:=P) (w:=w) (base:=base) T
 have oJ:=ZQ (P:=P) (w:=w) (base:=base) T
 have jU:=Y8 (P:=P) (w:=w) (base:=base) T
 refine ig (ms:=[.ow 0,.ow 0,.ow 0,.ow 0,.ow 2,.ow 0,.ow 0,.ow 0,.ow 0,.ow 0,.ow 0]) T.rows_with_past.fn xk λ_ _ _ _ _ _ hr=>?_
 exact(zf (d4 xk.nd (cI T.rows_ahead nR hr (ze (za 0 0) (ze (za 2 0) zj))))
  (zf (d4 xk.nd (cI T.greatest_told lP hr (ze (HQ (yp (k:=0) sv sr (za 3 0) lY (bE _)) (XO.sh (n:=0) (uC (k:=0) wy)) (za 3 0)) zj)))
  (zf (jl (k:=0) (N:=["going","net"]) (om:=[.ow 0]) (cap:=[0]) (own:=1) rfl xk.nd rfl (Or.inl rfl) (A6 (by rfl)) rfl rfl (by decide) (XI.cc (wn (n:=0) T.b_range (ze (lX T.b_len (ze (yr (n:=0) (za 0 0) T.fld_names rfl) zj)) zj))) (λ_ _ _ _ _=>(kU (show bM (["going","net"]:List aR)from by decide +kernel))) (λ_ _ _ _ _=>vg) (λ_ _ _ _ _=>(Sm (n:=0) (c0:=4) (ns:=[0]) (nd:=[]) (lB:=[]) (za 1 0) T.Net.cl T.Net_into.me jS (hr.mono (by decide)) T.Net_into.bd .nil (λ_ _=>.nil) (ze (za 0 0) zj))))
  (zf (d4 xk.nd (Hz (n:=0) (c0:=4) (nd:=[]) (lB:=[]) (za 0 0) T.Net.cl T.Net_order.me oJ (hr.mono (by decide)) T.Net_order.bd .nil (λ_ _=>.nil)))
  (zf (ug (wn (n:=0) T.b_range (ze (za 1 0) zj)) (kd xk.nd) (zf (Ja 4 rfl (JS (uC (k:=0) (zy (XE.ow lY) wy)) (lX T.b_len (ze (yr (n:=0) (za 0 0) T.fld_names rfl) zj))))
  (zh (ug (uw (za 7 0)) (kd xk.nd) (zf (d4 xk.nd (XE.ow (So (n:=0) (qQ hr) (za 5 0) (XO.sh (n:=0) (tQ (zy (XE.ow (za 9 0)) (zy (XE.ow (za 8 0)) wy)))) ⟨rfl,rfl,rfl,rfl⟩)))
  (zh (zou 4 rfl (HJ (k:=0) cF) (za 9 0) (λ_ _=>rfl) (XO.sh (n:=0) (cI T.time_in_last_row jU hr (ze (za 0 0) (ze (za 4 2) (ze (fG (za 6 0) (za 9 0)) (ze (za 10 0) zj))))))))) bV.never rfl))) bV.never rfl)
  (zh (zrb (i:=4) rfl)))))))
def HR:List D->Option D:=mOf ["net","rounds","was","floors"]
  (sRet (λρ=>((λρ=>((aCons (eV 0) (aCons (eV 1) (aCons (eV 2) (aCons (eV 3) aNil)))) ρ).bind λds=>ud (ds++[])) ρ).bind λd=>((pInt (λρ=>((eV 0) ρ).bind λo=>iq 4 "most_behind" zk o [])) ρ).bind λl=>(pNo ρ).bind λh=>iN d l h))
theorem zuy (T:Txt K mg a):cz P w K mg base eJ 4 a.f_run a.d_run ["net","rounds","was","floors"] (fY K a.ct [0,0,0,0] 2 HR):=by
 have kO:=Ze (P:=P) (w:=w) (base:=base) T
 have cV:=vo (P:=P) (w:=w) (base:=base) T
 refine ig (ms:=[.ow 0,.ow 0,.ow 0,.ow 0]) T.run.fn zux λ_ _ _ _ _ _ hr=>?_
 exact(zh (zw (zmg (k:=1) (cI T.rows_with_past kO hr (ze (za 0 0) (ze (za 1 0) (ze (za 2 0) (ze (za 3 0) zj))))) (NQ (XO.sh (n:=0) (Hz (n:=0) (c0:=4) (nd:=[]) (lB:=[]) (za 0 0) T.Net.cl T.Net_most_behind.me cV (hr.mono (by decide)) T.Net_most_behind.bd .nil (λ_ _=>.nil)))) Oh)))
def yw:List D->Option D:=mOf ["_law_script","_law_k"]
  (sSeq (sIf (tb (e2 pY (eV 1) (eN dZ (aCons (eV 0) aNil)))) (sRet (e2 cP (eV 0) (eV 1))) sSkip)
  (sRet (eC (.int 0))))
theorem Qy (T:Txt K mg a):cz P w K mg base eJ 1 a.f_law_cell_at a.d_law_cell_at ["_law_script","_law_k"] (fY K a.ct [0,0] 0 yw):=by
 refine ig (ms:=[.ow 0,.ow 0]) T.law_cell_at.fn Zm λ_ _ _ _ _ _ hr=>?_
 exact(zf (vn (yp (k:=0) wC vX (za 1 0) (lX T.b_len (ze (za 0 0) zj)) (bE _)) (zh (zw (XE.ow (fG (za 0 0) (za 1 0))))) yq)
  (zh (zw (XE.ow cF))))
def uk:List D->Option D:=mOf ["_law_cell"]
  (sRet (eB (bAnd (tb (e2 Ad (eV 0) (e2 vN (eC (.int 1)) (eC (.int 90))))) (tb (e2 (lD false) (e2 eE (eV 0) (eC (.int 2))) (eC (.int 1)))))))
theorem qy (T:Txt K mg a):cz P w K mg base eJ 1 a.f_law_is_row a.d_law_is_row ["_law_cell"] (fY K a.ct [0] 0 uk):=by
 refine ig (ms:=[.ow 0]) T.law_is_row.fn Zw λ_ _ _ _ _ _ hr=>?_
 exact(zh (zw (XE.ow (A8 (vW (k:=0) Of N8 (za 0 0) (yg (k:=0) zts zre cF cF) (bE _)) (xV (k:=0) (vW (k:=0) (j5 hr.u64) jq (yg (k:=0) xu xw (za 0 0) cF) cF (bE _)))))))
def wp:List D->Option D:=mOf ["_law_cell","_law_k","_law_number"]
  (sSeq (sIf (bAnd (tb (λρ=>((aCons (eV 0) aNil) ρ).bind λds=>uk (ds++[]))) (tb (e2 sg (e2 rM (eV 0) (e2 eG (eC (.int 1)) (e2 dk (eC (.int 31)) (eV 1)))) (eC (.int 0))))) (sRet (e2 eE (e2 rM (eV 0) (e2 eG (eC (.int 1)) (e2 dk (eC (.int 31)) (eV 1)))) (eC (.int 2147483648)))) sSkip)
  (sSeq (sSet 2 (e2 eE (e2 dk (e2 eG (e2 eG (eV 0) (e2 dk (eC (.int 7919)) (eV 1))) (eC (.int 1))) (eC (.int 48271))) (eC (.int 2147483647))))
  (sSeq (sSet 2 (e2 eE (e2 dk (eV 2) (e2 eG (e2 ez (eV 2) (eC (.int 1009))) (eC (.int 69621)))) (eC (.int 2147483647))))
  (sRet (e2 eE (e2 dk (eV 2) (e2 eG (e2 eG (e2 ez (eV 2) (eC (.int 2003))) (eC (.int 39373))) (eV 1))) (eC (.int 2147483629)))))))
theorem M6 (T:Txt K mg a):cz P w K mg base eJ 2 a.f_law_mixed a.d_law_mixed ["_law_cell","_law_k"] (fY K a.ct [0,0] 0 wp):=by
 have fM:=qy (P:=P) (w:=w) (base:=base) T
 refine ig (ms:=[.ow 0,.ow 0,.ow 0]) T.law_mixed.fn M3 λ_ _ _ _ _ _ hr=>?_
 exact(zf (vn (XW.t (JO (jp (XO.sh (n:=0) (cI T.law_is_row fM hr (ze (za 0 0) zj)))) (Jy (yp (k:=0) xX xW (yg (k:=0) Td Sn (za 0 0) (XO.sh (n:=0) (lS cF (yg (k:=0) xv yy cF (za 1 0))))) cF (bE _))))) (zh (zw (XE.ow (yg (k:=0) xu xw (yg (k:=0) Td Sn (za 0 0) (XO.sh (n:=0) (lS cF (yg (k:=0) xv yy cF (za 1 0))))) cF)))) yq)
  (zf (d4 M3.nd (XE.ow (yg (k:=0) xu xw (yg (k:=0) xv yy (XO.sh (n:=0) (lS (XO.sh (n:=0) (lS (za 0 0) (yg (k:=0) xv yy cF (za 1 0)))) cF)) cF) cF)))
  (zf (d4 M3.nd (XE.ow (yg (k:=0) xu xw (yg (k:=0) xv yy (za 2 0) (XO.sh (n:=0) (lS (yg (k:=0) ve vf (za 2 0) cF) cF))) cF)))
  (zh (zw (XE.ow (yg (k:=0) xu xw (yg (k:=0) xv yy (za 2 0) (XO.sh (n:=0) (lS (XO.sh (n:=0) (lS (yg (k:=0) ve vf (za 2 0) cF) cF)) (za 1 0)))) cF)))))))
def jc:SF:=(nY 3 4 (e2 eE (λρ=>((aCons (eV 0) (aCons (eV 5) aNil)) ρ).bind λds=>wp (ds++[])) (eN dZ (aCons (eV 4) aNil))))
def u6:List D->Option D:=mOf ["_law_turn","_law_many","_law_going","_law_order","_law_left","_law_k"]
  (sSeq (sIf (bNot (tb (λρ=>((aCons (eV 0) aNil) ρ).bind λds=>uk (ds++[])))) (sRet (e2 eE (e2 eG (eV 2) (eV 0)) (eV 1))) sSkip)
  (sSeq (sSet 3 (λρ=>(aNil ρ).bind λds=>some (.lst ds)))
  (sSeq (sSet 4 (eN nG (aCons (eV 1) aNil)))
  (sSeq (sFor (λρ=>((aCons (eV 1) aNil) ρ).bind gE) (gV 5) jc)
  (sRet (e2 sY (eV 3) (eV 2)))))))
theorem Z2 (T:Txt K mg a):cz P w K mg base eJ 3 a.f_law_rank a.d_law_rank ["_law_turn","_law_many","_law_going"] (fY K a.ct [0,0,0] 0 u6):=by
 have fM:=qy (P:=P) (w:=w) (base:=base) T
 have fF:=M6 (P:=P) (w:=w) (base:=base) T
 refine ig (ms:=[.ow 0,.ow 0,.ow 0,.ow 1,.ow 1,.ow 0]) T.law_rank.fn ql λ_ _ _ _ _ _ hr=>?_
 exact(zf (vn (uB (jp (XO.sh (n:=0) (cI T.law_is_row fM hr (ze (za 0 0) zj))))) (zh (zw (XE.ow (yg (k:=0) xu xw (XO.sh (n:=0) (lS (za 2 0) (za 0 0))) (za 1 0))))) yq)
  (zf (d4 ql.nd (uC (k:=0) wy))
  (zf (d4 ql.nd (zr5 rfl rfl T.b_list rfl T.b_range (ze (za 1 0) zj)))
  (zf (ug (wn (n:=0) T.b_range (ze (za 1 0) zj)) (kd ql.nd) (zh (zmd 3 4 rfl rfl (by decide) (yg (k:=0) xu xw (XO.sh (n:=0) (cI T.law_mixed fF hr (ze (za 0 0) (ze (za 5 0) zj)))) (lX T.b_len (ze (za 4 1) zj))))) bV.never rfl)
  (zh (zw (XE.ow (zop (k:=0) (za 3 1) (za 2 0)))))))))
def uu:SF:=(sSeq (sSet 8 (e2 eE (e2 ez (eV 4) (eC (.int 1000))) (eC (.int 10))))
  (sSeq (sIf (tb (e2 (lD false) (e2 eE (eV 0) (eC (.int 2))) (eC (.int 1)))) (sSet 8 (e2 eE (e2 ez (eV 0) (eC (.int 2))) (e2 eG (e2 rK (eC (.int 10)) (eC (.int 9))) (eC (.int 1))))) sSkip)
  (sSeq (sIf (tb (λρ=>((aCons (eV 0) aNil) ρ).bind λds=>uk (ds++[]))) (sSet 8 (e2 eE (λρ=>((aCons (eV 0) (aCons (eC (.int 30)) aNil)) ρ).bind λds=>wp (ds++[])) (e2 eG (e2 rK (eC (.int 10)) (eC (.int 9))) (eC (.int 1))))) sSkip)
  (sRet (λρ=>((aCons (eV 5) (aCons (eV 6) (aCons (eV 8) (aCons (eV 7) aNil)))) ρ).bind λds=>some (.tup ds))))))
def wz:List D->Option D:=mOf ["_law_cell","_law_many","_law_turn","_law_k","_law_number","_law_start","_law_goal","_law_behind","_law_time"]
  (sSeq (sSet 4 (λρ=>((aCons (eV 0) (aCons (eV 3) aNil)) ρ).bind λds=>wp (ds++[])))
  (sSeq (sSet 5 (e2 eE (eV 4) (eV 1)))
  (sSeq (sSet 6 (eV 3))
  (sSeq (sIf (tb (e2 Ad (eV 3) (eV 1))) (sSet 6 (e2 eE (e2 ez (eV 4) (eC (.int 8))) (eV 1))) sSkip)
  (sSeq (sSet 7 (e2 eE (e2 ez (eV 4) (eC (.int 64))) (eC (.int 5))))
  (sSeq (sIf (bAnd (tb (e2 (lD false) (eV 7) (eC (.int 0)))) (tb (e2 Ad (λρ=>((aCons (eV 2) (aCons (eV 1) (aCons (eV 5) aNil))) ρ).bind λds=>u6 (ds++[])) (λρ=>((aCons (eV 2) (aCons (eV 1) (aCons (eV 6) aNil))) ρ).bind λds=>u6 (ds++[]))))) (sSet 7 (e2 eG (eC (.int 1)) (e2 eE (e2 ez (eV 4) (eC (.int 320))) (eC (.int 2))))) sSkip)
  uu))))))
theorem ZT (T:Txt K mg a):cz P w K mg base eJ 4 a.f_law_arrow a.d_law_arrow ["_law_cell","_law_many","_law_turn","_law_k"] (fY K a.ct [0,0,0,0] 0 wz):=by
 have fF:=M6 (P:=P) (w:=w) (base:=base) T
 have mq:=Z2 (P:=P) (w:=w) (base:=base) T
 have fM:=qy (P:=P) (w:=w) (base:=base) T
 refine ig (ms:=[.ow 0,.ow 0,.ow 0,.ow 0,.ow 0,.ow 0,.ow 0,.ow 0,.ow 0]) T.law_arrow.fn wm λ_ _ _ _ _ _ hr=>?_
 exact(zf (d4 wm.nd (cI T.law_mixed fF hr (ze (za 0 0) (ze (za 3 0) zj))))
  (zf (d4 wm.nd (XE.ow (yg (k:=0) xu xw (za 4 0) (za 1 0))))
  (zf (d4 wm.nd (XE.ow (za 3 0)))
  (zf (vn (yp (k:=0) Of N8 (za 3 0) (za 1 0) (bE _)) (zh (d4 wm.nd (XE.ow (yg (k:=0) xu xw (yg (k:=0) ve vf (za 4 0) cF) (za 1 0))))) yq)
  (zf (d4 wm.nd (XE.ow (yg (k:=0) xu xw (yg (k:=0) ve vf (za 4 0) cF) cF)))
  (zf (vn (XW.t (JO (yp (k:=0) (j5 hr.u64) jq (za 7 0) cF (bE _)) (Jy (yp (k:=0) Of N8 (XO.sh (n:=0) (cI T.law_rank mq hr (ze (za 2 0) (ze (za 1 0) (ze (za 5 0) zj))))) (XO.sh (n:=0) (cI T.law_rank mq hr (ze (za 2 0) (ze (za 1 0) (ze (za 6 0) zj))))) (bE _))))) (zh (d4 wm.nd (lW (lS cF (yg (k:=0) xu xw (yg (k:=0) ve vf (za 4 0) cF) cF))))) yq)
  (zf (d4 wm.nd (XE.ow (yg (k:=0) xu xw (yg (k:=0) ve vf (za 4 0) cF) cF)))
  (zf (vn (yp (k:=0) (j5 hr.u64) jq (yg (k:=0) xu xw (za 0 0) cF) cF (bE _)) (zh (d4 wm.nd (XE.ow (yg (k:=0) xu xw (yg (k:=0) ve vf (za 0 0) cF) (XO.sh (n:=0) (lS (yg (k:=0) N2 NO cF cF) cF)))))) yq)
  (zf (vn (jp (XO.sh (n:=0) (cI T.law_is_row fM hr (ze (za 0 0) zj)))) (zh (d4 wm.nd (XE.ow (yg (k:=0) xu xw (XO.sh (n:=0) (cI T.law_mixed fF hr (ze (za 0 0) (ze cF zj)))) (XO.sh (n:=0) (lS (yg (k:=0) N2 NO cF cF) cF)))))) yq)
  (zh (zw (lW (tQ (zy (XE.ow (za 5 0)) (zy (XE.ow (za 6 0)) (zy (XE.ow (za 8 0)) (zy (XE.ow (za 7 0)) wy)))))))))))))))))
def Jb:List D->Option D:=mOf ["_law_arrow_here","_law_kind","_law_start","_law_goal","_law_time","_law_behind"]
  (sSeq (sAsg (gT (gsCons (gV 2) (gsCons (gV 3) (gsCons (gV 4) (gsCons (gV 5) gsNil))))) (eV 0))
  (sSeq (sIf (bAnd (tb (e2 (lD false) (eV 5) (eC (.int 0)))) (tb (e2 (lD false) (e2 eE (eV 1) (eC (.int 2))) (eC (.int 0))))) (sRet (λρ=>((aCons (eV 2) (aCons (eV 3) (aCons (eV 4) aNil))) ρ).bind λds=>qm 1 (ds++[]))) sSkip)
  (sSeq (sIf (bAnd (tb (e2 sg (eV 5) (eC (.int 0)))) (tb (e2 (lD false) (e2 eE (eV 1) (eC (.int 2))) (eC (.int 0))))) (sRet (λρ=>((aCons (eV 2) (aCons (eV 3) (aCons (eV 4) (aCons (eV 5) aNil)))) ρ).bind λds=>qp 3 (ds++[]))) sSkip)
  (sRet (λρ=>((aCons (eV 2) (aCons (eV 3) (aCons (eV 4) (aCons (eV 5) aNil)))) ρ).bind λds=>qo 2 (ds++[]))))))
theorem Z3 (T:Txt K mg a):cz P w K mg base eJ 4 a.f_law_made a.d_law_made ["_law_arrow_here","_law_kind"] (fY K a.ct [0,0] 0 Jb):=by
 have m8:=Zn (P:=P) (w:=w) (base:=base) T
 have m7:=Zp (P:=P) (w:=w) (base:=base) T
 have sd:=T.Back___init_d1.choose_spec
 have m9:=Zo (P:=P) (w:=w) (base:=base) T
 have se:=T.Wait___init_d1.choose_spec
 refine ig (ms:=[.ow 0,.ow 0,.ow 0,.ow 0,.ow 0,.ow 0]) T.law_made.fn jt λ_ _ _ _ _ _ hr=>?_
 exact(zf (S6 (za 0 0) (JP (n:=0) rfl (v7 (kd jt.nd) (v7 (kd jt.nd) (v7 (kd jt.nd) (v7 (kd jt.nd) Jz))))))
  (zf (vn (XW.t (JO (yp (k:=0) (j5 hr.u64) jq (za 5 0) cF (bE _)) (Jy (yp (k:=0) (j5 hr.u64) jq (yg (k:=0) xu xw (za 1 0) cF) cF (bE _))))) (zh (zw (lW (JD (c0:=1) (lB:=[]) (ns:=[0,0,0]) (nd:=[]) ⟨T.Ride.mks,T.Ride___init.me.at_,T.Ride___init.me.fn,T.Ride.kp⟩ (by decide) m8 (hr.mono (by decide)) rfl T.Ride.mgx T.Ride___init.bd .nil (λ_ _=>.nil) (ze (za 2 0) (ze (za 3 0) (ze (za 4 0) zj))))))) yq)
  (zf (vn (XW.t (JO (yp (k:=0) xX xW (za 5 0) cF (bE _)) (Jy (yp (k:=0) (j5 hr.u64) jq (yg (k:=0) xu xw (za 1 0) cF) cF (bE _))))) (zh (zw (lW (JD (c0:=3) (lB:=[]) (ns:=[0,0,0,0]) (nd:=[]) ⟨T.Back.mks,T.Back___init.me.at_,T.Back___init.me.fn,T.Back.kp⟩ (by decide) m7 (hr.mono (by decide)) rfl T.Back.mgx T.Back___init.bd .nil (λ_ _=>.nil) (ze (za 2 0) (ze (za 3 0) (ze (za 4 0) (ze (za 5 0) zj)))))))) yq)
  (zh (zw (lW (JD (c0:=2) (lB:=[]) (ns:=[0,0,0,0]) (nd:=[]) ⟨T.Wait.mks,T.Wait___init.me.at_,T.Wait___init.me.fn,T.Wait.kp⟩ (by decide) m9 (hr.mono (by decide)) rfl T.Wait.mgx T.Wait___init.bd .nil (λ_ _=>.nil) (ze (za 2 0) (ze (za 3 0) (ze (za 4 0) (ze (za 5 0) zj)))))))))))
def QU:EF:=(dA (λρ=>((aCons (eV 1) aNil) ρ).bind gE) 1 [2,0,3] (gV 0) eI (e2 eE (e2 dk (λρ=>((aCons (eV 1) (aCons (e2 eG (e2 dk (eC (.int 20)) (eV 2)) (eV 0)) aNil)) ρ).bind λds=>wp (ds++[])) (eC (.int 7919))) (eV 3)))
def QW:EF:=(dA (λρ=>((aCons (eV 2) aNil) ρ).bind gE) 1 [1,3,4] (gV 0) eI QU)
def QX:EF:=(dA (λρ=>((aCons (eV 1) aNil) ρ).bind gE) 1 [] (gV 0) eI (eC (.int 0)))
def QY:EF:=(dA (λρ=>((aCons (eV 2) aNil) ρ).bind gE) 1 [1] (gV 0) eI QX)
def Ht:List D->Option D:=mOf ["_law_script","_law_many","_law_back","_law_cell","_law_most"]
  (sSeq (sSet 3 (λρ=>((aCons (eV 0) (aCons (eC (.int 2)) aNil)) ρ).bind λds=>yw (ds++[])))
  (sSeq (sIf (tb (e2 (lD false) (e2 eE (eV 3) (eC (.int 4))) (eC (.int 0)))) (sRet QY) sSkip)
  (sSeq (sSet 4 (e2 cP (λρ=>((aCons (eC (.int 41)) (aCons (eC (.int 41)) (aCons (e2 rK (eC (.int 10)) (eC (.int 12))) aNil))) ρ).bind λds=>some (.lst ds)) (e2 eE (e2 ez (eV 3) (eC (.int 4))) (eC (.int 3)))))
  (sRet QW))))
theorem zkp (T:Txt K mg a):cz P w K mg base eJ 3 a.f_law_was a.d_law_was ["_law_script","_law_many","_law_back"] (fY K a.ct [0,0,0] 0 Ht):=by
 have dI:=Qy (P:=P) (w:=w) (base:=base) T
 have fF:=M6 (P:=P) (w:=w) (base:=base) T
 refine ig (ms:=[.ow 0,.ow 0,.ow 0,.ow 0,.ow 0]) T.law_was.fn Nd λ_ _ _ _ _ _ hr=>?_
 exact(zf (d4 Nd.nd (cI T.law_cell_at dI hr (ze (za 0 0) (ze cF zj))))
  (zf (vn (yp (k:=0) (j5 hr.u64) jq (yg (k:=0) xu xw (za 3 0) cF) cF (bE _)) (zh (zw (lW (oC (N:=["_law_k","_law_many"]) (om:=[.ow 0]) (cap:=[1]) (own:=1) (XI.cc (wn (n:=0) T.b_range (ze (za 2 0) zj))) (λ_ _ _ _ _=>(kU (show bM (["_law_k","_law_many"]:List aR)from by decide +kernel))) (λ_ _ _ _ _=>vg) (λ_ _ _ _ _=>(lW (oC (N:=["_law_going"]) (om:=[.ow 0]) (cap:=[]) (own:=1) (XI.cc (wn (n:=0) T.b_range (ze (za 1 0) zj))) (λ_ _ _ _ _=>(kU (show bM (["_law_going"]:List aR)from by decide +kernel))) (λ_ _ _ _ _=>vg) (λ_ _ _ _ _=>(XE.ow cF))))))))) yq)
  (zf (d4 Nd.nd (XE.ow (fG (XO.sh (n:=0) (uC (k:=0) (zy (XE.ow cF) (zy (XE.ow cF) (zy (XE.ow (yg (k:=0) N2 NO cF cF)) wy))))) (yg (k:=0) xu xw (yg (k:=0) ve vf (za 3 0) cF) cF))))
  (zh (zw (lW (oC (N:=["_law_k","_law_many","_law_cell","_law_most"]) (om:=[.ow 0]) (cap:=[1,3,4]) (own:=1) (XI.cc (wn (n:=0) T.b_range (ze (za 2 0) zj))) (λ_ _ _ _ _=>(kU (show bM (["_law_k","_law_many","_law_cell","_law_most"]:List aR)from by decide +kernel))) (λ_ _ _ _ _=>vg) (λ_ _ _ _ _=>(lW (oC (N:=["_law_going","_law_cell","_law_k","_law_most"]) (om:=[.ow 0]) (cap:=[2,0,3]) (own:=1) (XI.cc (wn (n:=0) T.b_range (ze (za 1 0) zj))) (λ_ _ _ _ _=>(kU (show bM (["_law_going","_law_cell","_law_k","_law_most"]:List aR)from by decide +kernel))) (λ_ _ _ _ _=>vg) (λ_ _ _ _ _=>(XE.ow (yg (k:=0) xu xw (yg (k:=0) xv yy (XO.sh (n:=0) (cI T.law_mixed fF hr (ze (za 1 0) (ze (XO.sh (n:=0) (lS (yg (k:=0) xv yy cF (za 2 0)) (za 0 0))) zj)))) cF) (za 3 0))))))))))))))
def v6:SF:=(sPar 4 5 (aCons (eV 5) (aCons (e2 eE (eV 4) (eV 5)) aNil)))
def w6:SF:=(sIf (tb (e2 (mI true) (eV 3) (eC .non))) (sSeq (sSet 4 (eV 2))
  (sSeq (sSet 5 (e2 cP (eV 3) (eC (.int 1))))
  (sSeq (gb (tb (e2 (lD true) (eV 5) (eC (.int 0)))) v6)
  (sSet 2 (e2 dk (e2 ez (eV 2) (eV 4)) (e2 cP (eV 3) (eC (.int 1)))))))) sSkip)
def xy:List D->Option D:=mOf ["_law_times","_law_beat","_law_whole","_law_time","_law_one","_law_other"]
  (sSeq (sSet 2 (e2 cP (eV 1) (eC (.int 1))))
  (sSeq (sFor (lsD (eV 0)) (gV 3) w6)
  (sRet (eV 2))))
theorem Y9 (T:Txt K mg a):cz P w K mg base eJ 1 a.f_law_whole_bottom a.d_law_whole_bottom ["_law_times","_law_beat"] (fY K a.ct [0,0] 0 xy):=by
 refine ig (ms:=[.ow 0,.ow 0,.ow 0,.ow 0,.ow 0,.ow 0]) T.law_whole_bottom.fn xj λ_ _ _ _ _ _ hr=>?_
 exact(zf (d4 xj.nd (XE.ow (fG (za 1 0) cF)))
  (zf (ug (uw (za 0 0)) (kd xj.nd) (zh (vn (yp (k:=0) RP Q4 (za 3 0) lY (bE _)) (zf (d4 xj.nd (XE.ow (za 2 0)))
  (zf (d4 xj.nd (XE.ow (fG (za 3 0) cF)))
  (zf (BC (yp (k:=0) (Te hr.u64) jq (za 5 0) cF (bE _)) (zh (zuk rfl rfl rfl xj.nd rfl rfl (by decide) rfl rfl (ze (za 5 0) (ze (yg (k:=0) xu xw (za 4 0) (za 5 0)) zj)) rfl)) bV.never)
  (zh (d4 xj.nd (XE.ow (yg (k:=0) xv yy (yg (k:=0) ve vf (za 2 0) (za 4 0)) (fG (za 3 0) cF)))))))) yq)) bV.never rfl)
  (zh (zw (XE.ow (za 2 0))))))
def qz:SF:=(sSeq (sSet 16 (e2 dk (e2 cP (e2 cP (eV 0) (eV 14)) (eV 10)) (eV 7)))
  (sIf (tb (e2 sg (eV 16) (e2 eG (λρ=>((eV 9) ρ).bind λx=>((eV 10) ρ).bind λy=>(fq x y).join) (eV 15)))) (sRet (eC (.bl false))) sSkip))
def q0:SF:=(sSeq (sSet 15 (e2 eG (e2 dk (eV 8) (eV 14)) (eV 11)))
  (sFor (lsD (eV 3)) (gV 10) qz))
def MV:SF:=(sSeq (sSet 13 (e2 n6 (e2 dk (e2 cP (e2 cP (eV 1) (eV 12)) (eV 10)) (eV 7)) (λρ=>((eV 9) ρ).bind λx=>((eV 10) ρ).bind λy=>(fq x y).join)))
  (sSeq (sSet 13 (e2 eG (eV 13) (e2 dk (eV 8) (e2 eG (eV 12) (eC (.int 1))))))
  (sIf (bOr (tb (e2 (mI false) (eV 11) (eC .non))) (tb (e2 sg (eV 13) (eV 11)))) (sSet 11 (eV 13)) sSkip)))
def QE:SF:=(sFor (lsD (eV 3)) (gV 10) MV)
def QF:SF:=(iR 9 (eV 10) (e2 dk (e2 cP (e2 cP (eV 6) (eV 10)) (eC (.int 0))) (e2 ez (eV 7) (e2 cP (e2 cP (eV 6) (eV 10)) (eC (.int 1))))))
def jv:List D->Option D:=mOf ["_law_rows","_law_was_here","_law_paper","_law_goings","_law_beat","_law_ring","_law_times","_law_whole","_law_step","_law_tops","_law_going","_law_above","_law_k","_law_more","_law_when","_law_most","_law_time"]
  (sSeq (sAsg (gT (gsCons (gV 4) (gsCons (gV 5) (gsCons (gV 6) gsNil)))) (eV 2))
  (sSeq (sSet 7 (λρ=>((aCons (eV 6) (aCons (eV 4) aNil)) ρ).bind λds=>xy (ds++[])))
  (sSeq (sSet 8 (e2 dk (e2 cP (eV 4) (eC (.int 0))) (e2 ez (eV 7) (e2 cP (eV 4) (eC (.int 1))))))
  (sSeq (sSet 9 (eC (.dK [] [])))
  (sSeq (sFor (lsD (eV 3)) (gV 10) QF)
  (sSeq (sSet 11 (eC .non))
  (sSeq (sFor (λρ=>((aCons (eN dZ (aCons (eV 1) aNil)) aNil) ρ).bind gE) (gV 12) QE)
  (sSeq (sFor (λρ=>((aCons (eN dZ (aCons (eV 0) aNil)) aNil) ρ).bind gE) (gV 14) q0)
  (sRet (eC (.bl true)))))))))))
theorem ZU (T:Txt K mg a):cz P w K mg base eJ 2 a.f_law_below a.d_law_below ["_law_rows","_law_was_here","_law_paper","_law_goings"] (fY K a.ct [0,0,0,0] 0 jv):=by
 have jT:=Y9 (P:=P) (w:=w) (base:=base) T
 refine ig (ms:=[.ow 0,.ow 0,.ow 0,.ow 0,.ow 0,.ow 0,.ow 0,.ow 0,.ow 0,.ow 1,.ow 0,.ow 0,.ow 0,.ow 0,.ow 0,.ow 0,.ow 0]) T.law_below.fn ya λ_ _ _ _ _ _ hr=>?_
 exact(zf (S6 (za 2 0) (JP (n:=0) rfl (v7 (kd ya.nd) (v7 (kd ya.nd) (v7 (kd ya.nd) Jz)))))
  (zf (d4 ya.nd (cI T.law_whole_bottom jT hr (ze (za 6 0) (ze (za 4 0) zj))))
  (zf (d4 ya.nd (XE.ow (yg (k:=0) xv yy (fG (za 4 0) cF) (yg (k:=0) ve vf (za 7 0) (fG (za 4 0) cF)))))
  (zf (d4 ya.nd Jh)
  (zf (ug (uw (za 3 0)) (kd ya.nd) (zh (JE 9 rfl (qQ hr) (za 10 0) (yg (k:=0) xv yy (fG (fG (za 6 0) (za 10 0)) cF) (yg (k:=0) ve vf (za 7 0) (fG (fG (za 6 0) (za 10 0)) cF))))) bV.never rfl)
  (zf (d4 ya.nd (XE.ow lY))
  (zf (ug (wn (n:=0) T.b_range (ze (lX T.b_len (ze (za 1 0) zj)) zj)) (kd ya.nd) (zh (ug (uw (za 3 0)) (kd ya.nd) (zf (d4 ya.nd (XE.ow (yg (k:=0) BU BM (yg (k:=0) xv yy (fG (fG (za 1 0) (za 12 0)) (za 10 0)) (za 7 0)) (HI (qQ hr) (za 9 1) (za 10 0) (λ_ _=>rfl)))))
  (zf (d4 ya.nd (lW (lS (za 13 0) (yg (k:=0) xv yy (za 8 0) (XO.sh (n:=0) (lS (za 12 0) cF))))))
  (zh (vn (XW.t (wF (yp (k:=0) sv sr (za 11 0) lY (bE _)) (A7 (yp (k:=0) xX xW (za 13 0) (za 11 0) (bE _))))) (zh (d4 ya.nd (XE.ow (za 13 0)))) yq)))) bV.never rfl)) bV.never rfl)
  (zf (ug (wn (n:=0) T.b_range (ze (lX T.b_len (ze (za 0 0) zj)) zj)) (kd ya.nd) (zf (d4 ya.nd (lW (lS (yg (k:=0) xv yy (za 8 0) (za 14 0)) (za 11 0))))
  (zh (ug (uw (za 3 0)) (kd ya.nd) (zf (d4 ya.nd (XE.ow (yg (k:=0) xv yy (fG (fG (za 0 0) (za 14 0)) (za 10 0)) (za 7 0))))
  (zh (vn (yp (k:=0) xX xW (za 16 0) (XO.sh (n:=0) (lS (HI (qQ hr) (za 9 1) (za 10 0) (λ_ _=>rfl)) (za 15 0))) (bE _)) (zh (zw (XE.ow (su (n:=0))))) yq))) bV.never rfl))) bV.never rfl)
  (zh (zw (XE.ow (su (n:=0)))))))))))))
def MW:SF:=(sIf (tb (e2 pY (e2 cP (e2 cP (eV 0) (eV 7)) (eV 6)) (e2 eG (e2 cP (e2 cP (eV 0) (e2 n6 (eV 7) (eV 4))) (eV 6)) (eV 3)))) (sRet (eC (.bl false))) sSkip)
def MX:SF:=(sSeq (sSet 6 (e2 cP (e2 cP (eV 1) (eV 5)) (eC (.int 0))))
  (sFor (λρ=>((aCons (eV 4) (aCons (eN dZ (aCons (eV 0) aNil)) aNil)) ρ).bind rL) (gV 7) MW))
def MY:EF:=(dA (lsD (eV 2)) 1 [1] (gV 0) eI (e2 cP (e2 cP (eV 1) (eV 0)) (eC (.int 3))))
def MZ:EF:=(dA (lsD (eV 2)) 1 [1] (gV 0) eI (e2 cP (e2 cP (eV 1) (eV 0)) (eC (.int 2))))
def I0:List D->Option D:=mOf ["_law_rows","_law_arrows","_law_ring","_law_times","_law_behinds","_law_k","_law_going","_law_when"]
  (sSeq (sSet 3 (eN n8 (aCons MZ aNil)))
  (sSeq (sSet 4 (eN n8 (aCons MY aNil)))
  (sSeq (sFor (lsD (eV 2)) (gV 5) MX)
  (sRet (eC (.bl true))))))
theorem ZV (T:Txt K mg a):cz P w K mg base eJ 1 a.f_law_grows a.d_law_grows ["_law_rows","_law_arrows","_law_ring"] (fY K a.ct [0,0,0] 0 I0):=by
 refine ig (ms:=[.ow 0,.ow 0,.ow 0,.ow 0,.ow 0,.ow 0,.ow 0,.ow 0]) T.law_grows.fn ui λ_ _ _ _ _ _ hr=>?_
 exact(zf (d4 ui.nd (XE.ow (u7 (k:=0) (Hw rfl) HD rfl T.b_sum HK (ze (XO.sh (n:=0) (oC (N:=["_law_k","_law_arrows"]) (om:=[.ow 0]) (cap:=[1]) (own:=1) (jh (n:=0) (za 2 0)) (λ_ _ _ _ _=>(kU (show bM (["_law_k","_law_arrows"]:List aR)from by decide +kernel))) (λ_ _ _ _ _=>vg) (λ_ _ _ _ _=>(XE.ow (fG (fG (za 1 0) (za 0 0)) cF))))) zj))))
  (zf (d4 ui.nd (XE.ow (u7 (k:=0) (Hw rfl) HD rfl T.b_sum HK (ze (XO.sh (n:=0) (oC (N:=["_law_k","_law_arrows"]) (om:=[.ow 0]) (cap:=[1]) (own:=1) (jh (n:=0) (za 2 0)) (λ_ _ _ _ _=>(kU (show bM (["_law_k","_law_arrows"]:List aR)from by decide +kernel))) (λ_ _ _ _ _=>vg) (λ_ _ _ _ _=>(XE.ow (fG (fG (za 1 0) (za 0 0)) cF))))) zj))))
  (zf (ug (uw (za 2 0)) (kd ui.nd) (zf (d4 ui.nd (XE.ow (fG (fG (za 1 0) (za 5 0)) cF)))
  (zh (ug (zl1 (n:=0) T.b_range (ze (za 4 0) (ze (lX T.b_len (ze (za 0 0) zj)) zj))) (kd ui.nd) (zh (vn (yp (k:=0) wC vX (fG (fG (za 0 0) (za 7 0)) (za 6 0)) (XO.sh (n:=0) (lS (fG (fG (za 0 0) (yg (k:=0) BU BM (za 7 0) (za 4 0))) (za 6 0)) (za 3 0))) (bE _)) (zh (zw (XE.ow (su (n:=0))))) yq)) bV.never rfl))) bV.never rfl)
  (zh (zw (XE.ow (su (n:=0))))))))
def SG:EF:=(dA (λρ=>((aCons (eV 1) aNil) ρ).bind gE) 1 [8] (gV 0) (tb (e2 (mI true) (e2 cP (e2 cP (eV 1) (eC (.int 2))) (eV 0)) (eC .non))) (eV 0))
def SH:EF:=(dA (lsD (eV 4)) 1 [] (gV 0) eI (λρ=>((aCons (eV 0) (aCons (e2 cP (eV 0) (eC (.int 0))) aNil)) ρ).bind λds=>Jb (ds++[])))
def SI:EF:=(dA (λρ=>((aCons (eV 1) aNil) ρ).bind gE) 1 [] (gV 0) eI (e2 eG (eC (.str "a")) (eN rO (aCons (eV 0) aNil))))
def SJ:EF:=(dA (λρ=>((aCons (eV 2) aNil) ρ).bind gE) 1 [0,1,3] (gV 0) eI (λρ=>((aCons (λρ=>((aCons (eV 1) (aCons (e2 eG (eC (.int 4)) (eV 0)) aNil)) ρ).bind λds=>yw (ds++[])) (aCons (eV 2) (aCons (eV 3) (aCons (eV 0) aNil)))) ρ).bind λds=>wz (ds++[])))
def Oj:List D->Option D:=mOf ["_law_script","_law_many","_law_total","_law_turn","_law_arrows","_law_net","_law_was_here","_law_rows","_law_paper","_law_goings"]
  (sSeq (sSet 1 (e2 eG (eC (.int 1)) (e2 eE (λρ=>((aCons (eV 0) (aCons (eC (.int 0)) aNil)) ρ).bind λds=>yw (ds++[])) (eC (.int 6)))))
  (sSeq (sSet 2 (e2 eG (eV 1) (e2 eE (e2 ez (λρ=>((aCons (eV 0) (aCons (eC (.int 0)) aNil)) ρ).bind λds=>yw (ds++[])) (eC (.int 6))) (eC (.int 11)))))
  (sSeq (sSet 3 (e2 ez (λρ=>((aCons (eV 0) (aCons (eC (.int 0)) aNil)) ρ).bind λds=>yw (ds++[])) (eC (.int 66))))
  (sSeq (sSet 4 SJ)
  (sSeq (sSet 5 (λρ=>((aCons SI (aCons SH aNil)) ρ).bind λds=>jy 4 (ds++[])))
  (sSeq (sSet 6 (λρ=>((aCons (eV 0) (aCons (eV 1) (aCons (λρ=>((eV 5) ρ).bind λo=>iq 4 "most_behind" zk o []) aNil))) ρ).bind λds=>Ht (ds++[])))
  (sSeq (sSet 7 (λρ=>((aCons (eV 5) (aCons (e2 eE (λρ=>((aCons (eV 0) (aCons (eC (.int 1)) aNil)) ρ).bind λds=>yw (ds++[])) (eC (.int 151))) (aCons (eV 6) aNil))) ρ).bind λds=>HR (ds++[.non])))
  (sSeq (sSet 8 (λρ=>((aCons (eV 5) (aCons (e2 eE (λρ=>((aCons (eV 0) (aCons (eC (.int 3)) aNil)) ρ).bind λds=>yw (ds++[])) (eV 1)) aNil)) ρ).bind λds=>HM (ds++[])))
  (sSeq (sIf (tb (e2 (mI false) (eV 8) (eC .non))) (sRet (eC (.bl false))) sSkip)
  (sSeq (sSet 9 SG)
  (sRet (eB (bAnd (tb (λρ=>((aCons (eV 7) (aCons (eV 4) (aCons (e2 cP (eV 8) (eC (.int 1))) aNil))) ρ).bind λds=>I0 (ds++[]))) (tb (λρ=>((aCons (eV 7) (aCons (eV 6) (aCons (eV 8) (aCons (eV 9) aNil)))) ρ).bind λds=>jv (ds++[]))))))))))))))))
theorem zuz (T:Txt K mg a):cz P w K mg base eJ 8 a.f_law a.d_law ["_law_script"] (fY K a.ct [0] 0 Oj):=by
 have dI:=Qy (P:=P) (w:=w) (base:=base) T
 have oN:=ZT (P:=P) (w:=w) (base:=base) T
 have nP:=Zy (P:=P) (w:=w) (base:=base) T
 have pO:=Z3 (P:=P) (w:=w) (base:=base) T
 have rm:=zkp (P:=P) (w:=w) (base:=base) T
 have cV:=vo (P:=P) (w:=w) (base:=base) T
 have B3:=zuy (P:=P) (w:=w) (base:=base) T
 have qD:=T.run_d1.choose_spec
 have HS:=T.run_d2.choose_spec
 have yC:=zsg (P:=P) (w:=w) (base:=base) T
 have oP:=ZV (P:=P) (w:=w) (base:=base) T
 have oO:=ZU (P:=P) (w:=w) (base:=base) T
 refine ig (ms:=[.ow 0,.ow 0,.ow 0,.ow 0,.ow 0,.ow 0,.ow 0,.ow 0,.ow 0,.ow 0]) T.law.fn uD λ_ _ _ _ _ _ hr=>?_
 exact(zf (d4 uD.nd (lW (lS cF (yg (k:=0) xu xw (XO.sh (n:=0) (cI T.law_cell_at dI hr (ze (za 0 0) (ze cF zj)))) cF))))
  (zf (d4 uD.nd (lW (lS (za 1 0) (yg (k:=0) xu xw (yg (k:=0) ve vf (XO.sh (n:=0) (cI T.law_cell_at dI hr (ze (za 0 0) (ze cF zj)))) cF) cF))))
  (zf (d4 uD.nd (XE.ow (yg (k:=0) ve vf (XO.sh (n:=0) (cI T.law_cell_at dI hr (ze (za 0 0) (ze cF zj)))) cF)))
  (zf (jl (k:=0) (N:=["_law_k","_law_script","_law_many","_law_turn"]) (om:=[.ow 0]) (cap:=[0,1,3]) (own:=1) rfl uD.nd rfl (Or.inl rfl) (A6 (by rfl)) rfl rfl (by decide) (XI.cc (wn (n:=0) T.b_range (ze (za 2 0) zj))) (λ_ _ _ _ _=>(kU (show bM (["_law_k","_law_script","_law_many","_law_turn"]:List aR)from by decide +kernel))) (λ_ _ _ _ _=>vg) (λ_ _ _ _ _=>(cI T.law_arrow oN hr (ze (XO.sh (n:=0) (cI T.law_cell_at dI hr (ze (za 1 0) (ze (XO.sh (n:=0) (lS cF (za 0 0))) zj)))) (ze (za 2 0) (ze (za 3 0) (ze (za 0 0) zj)))))))
  (zf (d4 uD.nd (lW (JD (c0:=4) (lB:=[]) (ns:=[0,0]) (nd:=[]) ⟨T.Net.mks,T.Net___init.me.at_,T.Net___init.me.fn,T.Net.kp⟩ (by decide) nP (hr.mono (by decide)) rfl T.Net.mgx T.Net___init.bd .nil (λ_ _=>.nil) (ze (XO.sh (n:=0) (oC (N:=["_law_k"]) (om:=[.ow 0]) (cap:=[]) (own:=1) (XI.cc (wn (n:=0) T.b_range (ze (za 1 0) zj))) (λ_ _ _ _ _=>(kU (show bM (["_law_k"]:List aR)from by decide +kernel))) (λ_ _ _ _ _=>vg) (λ_ _ _ _ _=>(lW (lS (xU (n:=0)) (zlu (k:=0) ZA zr1 rfl T.b_str SY (ze (za 0 0) zj))))))) (ze (XO.sh (n:=0) (oC (N:=["_law_arrow_here"]) (om:=[.ow 0]) (cap:=[]) (own:=1) (jh (n:=0) (za 4 0)) (λ_ _ _ _ _=>(kU (show bM (["_law_arrow_here"]:List aR)from by decide +kernel))) (λ_ _ _ _ _=>vg) (λ_ _ _ _ _=>(cI T.law_made pO hr (ze (za 0 0) (ze (fG (za 0 0) cF) zj)))))) zj)))))
  (zf (d4 uD.nd (cI T.law_was rm hr (ze (za 0 0) (ze (za 1 0) (ze (XO.sh (n:=0) (Hz (n:=0) (c0:=4) (nd:=[]) (lB:=[]) (za 5 0) T.Net.cl T.Net_most_behind.me cV (hr.mono (by decide)) T.Net_most_behind.bd .nil (λ_ _=>.nil))) zj)))))
  (zf (d4 uD.nd (lW (Sl (lB:=[.non]) (ns:=[0,0,0]) (nd:=[0]) B3 (hr.mono (by decide)) rfl T.run.mgx T.run.fn.kp (qD).2.2 (qD).2.1 (λ_ _=>(.cons (Al.of .non) .nil)) (ze (za 5 0) (ze (yg (k:=0) xu xw (XO.sh (n:=0) (cI T.law_cell_at dI hr (ze (za 0 0) (ze cF zj)))) cF) (ze (za 6 0) zj))))))
  (zf (d4 uD.nd (cI T.rate yC hr (ze (za 5 0) (ze (yg (k:=0) xu xw (XO.sh (n:=0) (cI T.law_cell_at dI hr (ze (za 0 0) (ze cF zj)))) (za 1 0)) zj))))
  (zf (vn (yp (k:=0) sv sr (za 8 0) lY (bE _)) (zh (zw (XE.ow (su (n:=0))))) yq)
  (zf (jl (k:=0) (N:=["_law_going","_law_paper"]) (om:=[.ow 0]) (cap:=[8]) (own:=1) rfl uD.nd rfl (Or.inl rfl) (A6 (by rfl)) rfl rfl (by decide) (XI.cc (wn (n:=0) T.b_range (ze (za 1 0) zj))) (λ_ _ _ _ _=>(kU (show bM (["_law_going","_law_paper"]:List aR)from by decide +kernel))) (λ_ _ _ _ _=>(HF (yp (k:=0) RP Q4 (fG (fG (za 1 0) cF) (za 0 0)) lY (bE _)))) (λ_ _ _ _ _=>(XE.ow (za 0 0))))
  (zh (zw (XE.ow (A8 (XO.sh (n:=0) (cI T.law_grows oP hr (ze (za 7 0) (ze (za 4 0) (ze (fG (za 8 0) cF) zj))))) (xV (k:=0) (XO.sh (n:=0) (cI T.law_below oO hr (ze (za 7 0) (ze (za 6 0) (ze (za 8 0) (ze (za 9 0) zj)))))))))))))))))))))
end
local macro_rules| `(tactic|walk_at "mir")=>`(tactic|simp -implicitDefEqProofs [mOf,startD,sSeq,sIf,sSet,sRet,sRetN,sDrop,sPar,sAsg,sApp,sFor,lsD,zrw,sSkip,eV,eC,e1,e2,eN,aNil,aCons,pNo,pInt,za7,tb,zun,bNot,bAnd,bOr,eB,eIf,gV,gT,gsCons,gsNil,zob,zod,zrs,zrt,zig,zru,qj,zof,zoe,zog,zrv,zum,D.isN,D.isB,zry,zuo,j7,qh,zbg,zas,zn9,zoa,zjk,za7,zl4,zl5,sFz,zov,zow, *])
def ed (n:Nat)(f:Nat->Int):List D:=(aE n).map λg=>D.int (f g)
theorem zsi (n:Nat)(f:Nat->Int):(ed n f).length=n:=by simp[ed]
theorem wB {n:Nat}(f:Nat->Int){g:Nat}(h:g<n):atI (ed n f) (g:Int)=some (.int (f g)):=by
 refine ue ?_
 simp[ed,h]
theorem SK {n:Nat}(f:Nat->Int){g:Nat}(h:g<n)(v:Int):ky (ed n f) (g:Int) (.int v)=some (ed n λx=>if x=g then v else f x):=by
 unfold ky
 have hx:ixN (ed n f).length (g:Int)=some g:=by
  unfold ixN
  rw[zsi]
  rw[if_pos (by omega),if_pos (by omega)]
  simp
 rw[hx]
 simp only[cB,Option.some.injEq]
 apply e6
 ·simp[ed]
 ·intro i h1 h2
  simp[ed,lI]
  by_cases hi:g=i
  ·subst hi;simp
  ·rw[if_neg hi,if_neg (λz=>hi z.symm)]
theorem SN {i:Nat}{fj f:EF}{gi:Int->Int->Int}{ρ:L3.Env}{n g:Nat}{w:Nat->Int}{y:Int}(h1:(ρ[i]?).join=some (.lst (ed n w)))(h2:fj ρ=some (.int (g:Int)))(h3:f ρ=some (.int y))(hg:g<n) :
  o4 i fj gi f ρ=some (.nx (ρ.set i (some (.lst (ed n λx=>if x=g then gi (w g) y else w x))))):=by
 unfold o4
 have:eV i ρ=some (.lst (ed n w)):=h1
 rw[this,h2,h3]
 simp only[cB,wB w hg,SK w hg]
def ap (p:List Nat):List D:=p.map λ(x:Nat)=>D.int (x:Int)
theorem uE {f:EF}{r:L3.Env}{n:Nat}(h:f r=some (.int (n:Int)))(hn:n<=1000000):((aCons f aNil) r).bind gE=some ((aE n).map λ(t:Nat)=>D.int (t:Int)):=by
 have e:(aCons f aNil) r=some [.int (n:Int)]:=by unfold aCons;rw[h];rfl
 rw[e,cB,BD (by omega) (by omega)]
 unfold eY
 simp
theorem BR {α:Type}{fi:L3.Env->Option (List D)}{own:Nat}{cap:List Nat}{g:D->L3.Env->Option L3.Env}{p:BF}{f:EF}{r:L3.Env}(enc:α->D)(q:α->Bool)(h:α->D)(xs:List α)(hi:fi r=some (xs.map enc))(hl:xs.length<=16777216)
  (st:∀x∈xs,∃ρ1,g (enc x) (aA own none++dE r cap)=some ρ1/\p ρ1=some (q x)/\(q x=true->f ρ1=some (h x))):dA fi own cap g p f r=some (.lst ((xs.filter q).map h)):=by
 unfold dA
 rw[hi]
 simp only[cB,ay]
 rw[if_pos hl,Q9 enc q h xs st]
 rfl
theorem SO {n i:Nat}(h:i<n):ixN n (i:Int)=some i:=by
 unfold ixN
 rw[if_pos (by omega),if_pos (by omega)]
 simp
theorem wx {α:Type}{fi:L3.Env->Option (List D)}{own:Nat}{cap:List Nat}{g:D->L3.Env->Option L3.Env}{f:EF}{r:L3.Env}(enc:α->D)(h:α->D)(xs:List α)(hi:fi r=some (xs.map enc))(hl:xs.length<=16777216)
  (st:∀x∈xs,∃ρ1,g (enc x) (aA own none++dE r cap)=some ρ1/\f ρ1=some (h x)):dA fi own cap g eI f r=some (.lst (xs.map h)):=by
 have:=BR (p:=eI) enc (λ_=>true) h xs hi hl λx hx=>by
  obtain⟨ρ1,h1,h2⟩:=st x hx
  exact⟨ρ1,h1,rfl,λ_=>h2⟩
 rw[this,List.filter_eq_self.mpr λ_ _=>rfl]
theorem Jo {α:Type}(enc:α->D):∀(as:List α) (k:Nat),eu k (as.map enc)=(as.zipIdx k).map λ(p:α×Nat)=>D.tup [.int (p.2:Int),enc p.1]
 |[],_=>rfl
 |a::as,k=>by
  show _::eu (k+1) (as.map enc)=_::_
  rw[Jo enc as (k+1)]
theorem Ob {α:Type}{as:List α}{p:α×Nat}(h:p∈as.zipIdx):as[p.2]?=some p.1:=ml.mp h
theorem Nf {α:Type}(q:α->Bool):∀(as:List α) (k:Nat),((as.zipIdx k).filter λp=>q p.1).map (·.1)=as.filter q
 |[],_=>rfl
 |a::as,k=>by
  rw[List.zipIdx_cons,sy,sy]
  cases h:q a<;>simp[h,Nf q as (k+1)]
inductive Kd where
 |ride|wait|back
deriving DecidableEq
structure ck where
 c:Kd
 s:Nat
 g:Nat
 t:Int
 b:Nat
deriving DecidableEq
namespace Kahn
def cnt (W:List ck)(P:List Nat)(g:Nat):Nat:=W.countP λa=>decide (a.g=g/\a.s∉P)
structure Ok (W:List ck)(many:Nat)(p:List Nat):Prop where
 nd:p.Nodup
 lt:∀x∈p,x<many
 ord:∀(i x:Nat),p[i]?=some x->∀a∈W,a.g=x->a.s∈p.take i
theorem Ok.snoc {W:List ck}{many:Nat}{p:List Nat}{x:Nat}(h:Ok W many p)(hx:x∉p)(hl:x<many)(ho:∀a∈W,a.g=x->a.s∈p):Ok W many (p++[x]) where
 nd:=by
  rw[bj]
  exact⟨h.nd,by simp,λa ha b hb e=>by simp at hb;subst hb;subst e;exact hx ha⟩
 lt:=λy hy=>by
  rcases aZ.mp hy with hy|hy
  ·exact h.lt y hy
  ·simp at hy;subst hy;exact hl
 ord:=λi y hy a ha e=>by
  by_cases hi:i<p.length
  ·rw[cu hi]at hy
   rw[gC (by omega)]
   exact h.ord i y hy a ha e
  ·rw[gX (by omega)]at hy
   have LP:i-p.length=0:=by
    cases hq:i-p.length with
    |zero=>rfl
    |succ k=>rw[hq]at hy;simp at hy
   rw[LP]at hy
   simp at hy
   subst hy
   have:i=p.length:=by omega
   rw[this,tS]
   ·exact ho a ha e
   ·rfl
def stp (here:Nat)(S:(Nat->Int)×List Nat)(a:ck):(Nat->Int)×List Nat :=
 if a.s=here then
  let f':Nat->Int:=λx=>if x=a.g then S.1 a.g-1 else S.1 x
  (f',if f' a.g=0 then S.2++[a.g]else S.2)
 else S
structure In (W:List ck)(many:Nat)(P:List Nat)(here:Nat)(pre:List ck)(S:(Nat->Int)×List Nat):Prop where
 ok:Ok W many S.2
 f:∀g,S.1 g=(cnt W P g:Int)-(pre.countP λa=>decide (a.g=g/\a.s=here):Nat)
 z:∀g,g<many->(g∈S.2↔S.1 g=0)
 sub:∀x,(x∈P\/x=here)->x∈S.2
theorem zu0 {W pre post:List ck}{P:List Nat}{here:Nat}{a:ck}(e:W=pre++a::post)(hP:here∉P)(ha:a.s=here):(pre.countP λx=>decide (x.g=a.g/\x.s=here))+1<=cnt W P a.g:=by
 unfold cnt
 rw[e,gW,gk]
 have h1:(pre.countP λx=>decide (x.g=a.g/\x.s=here))<=pre.countP λx=>decide (x.g=a.g/\x.s∉P):=by
  apply List.countP_mono_left
  intro x _ hx
  simp at hx ⊢
  exact⟨hx.1,by rw[hx.2];exact hP⟩
 have h2:(decide (a.g=a.g/\a.s∉P))=true:=by simp[ha,hP]
 rw[h2]
 simp only[if_true]
 omega
theorem In.step {W pre post:List ck}{many:Nat}{P:List Nat}{here:Nat}{a:ck}{S:(Nat->Int)×List Nat}(h:In W many P here pre S)(e:W=pre++a::post)(hP:here∉P)(hl:a.g<many):In W many P here (pre++[a]) (stp here S a):=by
 by_cases ha:a.s=here
 ·have VH:=zu0 e hP ha
  have hf:∀g,(if g=a.g then S.1 a.g-1 else S.1 g)=(cnt W P g:Int)-((pre++[a]).countP λx=>decide (x.g=g/\x.s=here):Nat):=λg=>by
   rw[gW,pf]
   by_cases hg:g=a.g
   ·subst hg
    rw[if_pos rfl,h.f]
    have:decide (a.g=a.g/\a.s=here)=true:=by simp[ha]
    rw[this]
    simp only[if_true]
    omega
   ·rw[if_neg hg,h.f]
    have:decide (a.g=g/\a.s=here)=false:=by simp;intro z;exact absurd z.symm hg
    rw[this]
    simp
  have kr:S.1 a.g≠0:=by rw[h.f];omega
  have rE:a.g∉S.2:=λz=>kr ((h.z a.g hl).mp z)
  by_cases h0:S.1 a.g-1=0
  ·have es:stp here S a=(λx=>if x=a.g then S.1 a.g-1 else S.1 x,S.2++[a.g]):=by unfold stp;simp[ha,h0]
   rw[es]
   refine⟨h.ok.snoc rE hl λb hb eb=>?_,hf,λg hg=>?_,λx hx=>bg _ (h.sub x hx)⟩
   ·
    refine h.sub _ (Classical.byContradiction λhc=>?_)
    have Lz:b.s∉P:=λz=>hc (.inl z)
    have Es:b.s≠here:=λz=>hc (.inr z)
    have h1:cnt W P a.g=(pre.countP λx=>decide (x.g=a.g/\x.s=here))+1:=by
     have:=h.f a.g
     omega
    have h2:(W.countP λx=>decide (x.g=a.g/\x.s=here))+(W.countP λx=>decide (x.g=a.g/\x.s∉P/\x.s≠here))<=cnt W P a.g:=by
     have:cnt W P a.g=(W.countP λx=>decide (x.g=a.g/\x.s=here))+(W.countP λx=>decide (x.g=a.g/\x.s∉P/\x.s≠here)):=by
      unfold cnt
      clear h1 hc Lz Es eb hb h0 hf VH e h
      induction W with
      |nil=>rfl
      |cons x W ih=>
       simp only[gk]
       rw[ih]
       by_cases q1:x.g=a.g<;>by_cases q2:x.s=here<;>by_cases q3:x.s∈P<;>simp_all<;>omega
     omega
    have h3:(pre.countP λx=>decide (x.g=a.g/\x.s=here))+1<=W.countP λx=>decide (x.g=a.g/\x.s=here):=by
     rw[e,gW,gk]
     have:decide (a.g=a.g/\a.s=here)=true:=by simp[ha]
     rw[this]
     simp only[if_true]
     omega
    have h4:0<W.countP λx=>decide (x.g=a.g/\x.s∉P/\x.s≠here):=by
     rw[List.countP_pos_iff]
     exact⟨b,hb,by simp[eb,Lz,Es]⟩
    omega
   ·rw[aZ,ax]
    by_cases oz:g=a.g
    ·subst oz;simp[h0]
    ·dsimp only;rw[if_neg oz,h.z g hg];simp[oz]
  ·have es:stp here S a=(λx=>if x=a.g then S.1 a.g-1 else S.1 x,S.2):=by unfold stp;simp[ha,h0]
   rw[es]
   refine⟨h.ok,hf,λg hg=>?_,h.sub⟩
   by_cases oz:g=a.g
   ·subst oz
    dsimp only
    rw[if_pos rfl]
    exact⟨λz=>absurd z rE,λz=>absurd z h0⟩
   ·dsimp only;rw[if_neg oz];exact h.z g hg
 ·have:stp here S a=S:=by unfold stp;rw[if_neg ha]
  rw[this]
  refine⟨h.ok,λg=>?_,h.z,h.sub⟩
  rw[gW,pf]
  have:decide (a.g=g/\a.s=here)=false:=by simp[ha]
  rw[this,h.f]
  simp
theorem In.fold {W:List ck}{many:Nat}{P:List Nat}{here:Nat}(hP:here∉P)(hl:∀a∈W,a.g<many):∀(post pre:List ck) (S:(Nat->Int)×List Nat),W=pre++post->In W many P here pre S->In W many P here W (post.foldl (stp here) S)
 |[],pre,S,e,h=>by rw[e] ;simpa using(by rw[cn]at e;subst e;exact h)
 |a::post,pre,S,e,h=>by
  have:=In.fold hP hl post (pre++[a]) (stp here S a) (by rw[e];simp) (h.step e hP (hl a (by rw[e];simp)))
  exact this
theorem zo9 {W:List ck}{P:List Nat}{here g:Nat}(hP:here∉P):(cnt W P g:Int)-(W.countP λa=>decide (a.g=g/\a.s=here):Nat)=cnt W (P++[here]) g:=by
 have:cnt W P g=(W.countP λa=>decide (a.g=g/\a.s=here))+cnt W (P++[here]) g:=by
  unfold cnt
  induction W with
  |nil=>rfl
  |cons x W ih=>
   simp only[gk]
   rw[ih]
   by_cases q1:x.g=g<;>by_cases q2:x.s=here<;>by_cases q3:x.s∈P<;>simp_all<;>omega
 omega
structure Wh (W:List ck)(many:Nat)(f:Nat->Int)(p:List Nat)(d:Nat):Prop where
 ok:Ok W many p
 dl:d<=p.length
 fe:∀g,f g=cnt W (p.take d) g
 z:∀g,g<many->(g∈p↔f g=0)
theorem Wh.step {W:List ck}{many:Nat}{f:Nat->Int}{p:List Nat}{d here:Nat}(h:Wh W many f p d)(hl:∀a∈W,a.g<many)(hh:p[d]?=some here) :
  Wh W many (W.foldl (stp here) (f,p)).1 (W.foldl (stp here) (f,p)).2 (d+1)/\∃q,(W.foldl (stp here) (f,p)).2=p++q:=by
 have hd:d<p.length:=(aL.mp hh).1
 have hP:here∉p.take d:=λz=>by
  obtain⟨i,hi,e⟩:=dm.mp z
  have LP:i<d:=by rw[iH]at hi;omega
  rw[rT]at e
  have e2:p[d]=here:=by have:=aL.mp hh;exact this.2
  have:=(lH (xs:=p) (h₀:=by omega) (h₁:=hd) h.ok.nd).mp (e.trans e2.symm)
  omega
 have rC:∀(l:List ck) (S:(Nat->Int)×List Nat),∃q,(l.foldl (stp here) S).2=S.2++q:=by
  intro l
  induction l with
  |nil=>exactλS=>⟨[],by simp⟩
  |cons a l ih=>
   intro S
   obtain⟨q,hq⟩:=ih (stp here S a)
   have:∃r,(stp here S a).2=S.2++r:=by
    by_cases ha:a.s=here
    ·by_cases h0:S.1 a.g-1=0
     ·exact⟨[a.g],by unfold stp;simp[ha,h0]⟩
     ·exact⟨[],by unfold stp;simp[ha,h0]⟩
    ·exact⟨[],by unfold stp;simp[ha]⟩
   obtain⟨r,hr⟩:=this
   exact⟨r++q,by rw[fD,hq,hr,eP]⟩
 obtain⟨q,hq⟩:=rC W (f,p)
 have I:=In.fold hP hl W [] (f,p) rfl ⟨h.ok,λg=>by show f g=_;rw[h.fe];simp,h.z,λx hx=>by
  rcases hx with hx|rfl
  ·exact jI hx
  ·exact bW.mpr ⟨d,hh⟩⟩
 have EY:(W.foldl (stp here) (f,p)).2.take (d+1)=p.take d++[here]:=by
  rw[hq]
  show(p++q).take (d+1)=_
  rw[gC (by omega),List.take_succ,hh]
  rfl
 refine⟨⟨I.ok,?_,λg=>?_,I.z⟩,q,hq⟩
 ·rw[hq]
  show d+1<=(p++q).length
  rw[aW];omega
 ·rw[I.f,EY]
  exact zo9 hP
theorem cnt_zero {W:List ck}{P:List Nat}{g:Nat}:cnt W P g=0↔∀a∈W,a.g=g->a.s∈P:=by
 unfold cnt
 rw[List.countP_eq_zero]
 constructor
 ·intro h a ha e
  have:=h a ha
  simp at this
  exact Classical.byContradiction λz=>z (this e)
 ·intro h a ha
  simp
  exact h a ha
theorem Wh.all {W:List ck}{many:Nat}{f:Nat->Int}{p:List Nat}(h:Wh W many f p p.length)(rank:Nat->Nat)(hr:∀a∈W,rank a.s<rank a.g)(hs:∀a∈W,a.s<many):∀g,g<many->g∈p:=by
 have:∀n g,rank g<n->g<many->g∈p:=by
  intro n
  induction n with
  |zero=>intro g h;omega
  |succ n ih=>
   intro g hg hl
   rw[h.z g hl,h.fe,List.take_length]
   have:cnt W p g=0:=cnt_zero.mpr λa ha e=>ih a.s (by have:=hr a ha;rw[e]at this;omega) (hs a ha)
   rw[this];rfl
 exactλg hl=>this (rank g+1) g (by omega) hl
theorem len_of {many:Nat}{p:List Nat}(nd:p.Nodup)(lt:∀x∈p,x<many)(all:∀g,g<many->g∈p):p.length=many:=by
 have h1:p.Perm (aE many):=by
  rw[mZ nd gq]
  intro a
  rw[bv]
  exact⟨lt a,all a⟩
 simpa using h1.length_eq
theorem len_le {many:Nat}{p:List Nat}(nd:p.Nodup)(lt:∀x∈p,x<many):p.length<=many:=by
 have h1:(p++(aE many).filter λx=>decide (x∉p)).Perm (aE many):=by
  rw[mZ (by
   rw[bj]
   refine⟨nd,gq.filter _,λa ha b hb e=>?_⟩
   subst e
   simp at hb
   exact hb.2 ha) gq]
  intro a
  rw[aZ,bc,bv]
  constructor
  ·rintro(h|h)
   ·exact lt a h
   ·exact h.1
  ·intro h
   by_cases ha:a∈p
   ·exact .inl ha
   ·exact .inr ⟨h,by simpa using ha⟩
 have:=h1.length_eq
 rw[aW,aY]at this
 omega
end Kahn
def Kd.n:Kd->Nat
 |.ride=>1|.wait=>2|.back=>3
def bH (a:ck):D:=.obj a.c.n ["start","goal","time","behind"] [.int a.s,.int a.g,.int a.t,.int a.b]
theorem fs (a:ck):cw [0,1,2,3] "start" (bH a)=some (.int a.s):=by obtain⟨c,_,_,_,_⟩:=a;cases c<;>rfl
theorem fg (a:ck):cw [0,1,2,3] "goal" (bH a)=some (.int a.g):=by obtain⟨c,_,_,_,_⟩:=a;cases c<;>rfl
theorem ft (a:ck):cw [0,1,2,3] "time" (bH a)=some (.int a.t):=by obtain⟨c,_,_,_,_⟩:=a;cases c<;>rfl
theorem fb (a:ck):cw [0,1,2,3] "behind" (bH a)=some (.int a.b):=by obtain⟨c,_,_,_,_⟩:=a;cases c<;>rfl
structure Right (many:Nat)(a:ck):Prop where
 s:a.s<many
 g:a.g<many
 t0:0<=a.t
 t1:a.t<=1000000000
 b:a.b<=4
 r:a.c=.ride->a.b=0
 k:a.c=.back->1<=a.b
theorem BJ {n l m:Int}(h1:l<=n)(h2:n<=m):yu [.int n,.int l,.int m]=some (.bl true):=by
 unfold yu
 have q1 (i:Int):pX "int" (.int i)=some (.bl true):=rfl
 have q2 (i:Int):pX "bool" (.int i)=some (.bl false):=rfl
 walk_at "mir"
theorem isA (all sub:List Nat)(a:ck):sZ all sub (bH a)=if all.contains a.c.n=true then some (.bl (sub.contains a.c.n))else none:=rfl
theorem zsj {many:Nat}{a:ck}(h:Right many a):IZ [bH a,.int (many:Int)]=some (.bl true):=by
 have w1:yu [.int (a.s:Int),.int 0,.int ((many:Int)-1)]=some (.bl true):=BJ (by omega) (by have:=h.s;omega)
 have w2:yu [.int (a.g:Int),.int 0,.int ((many:Int)-1)]=some (.bl true):=BJ (by omega) (by have:=h.g;omega)
 have w3:yu [.int a.t,.int 0,.int 1000000000]=some (.bl true):=BJ h.t0 h.t1
 have f1:=fs a
 have f2:=fg a
 have f3:=ft a
 have f4:=fb a
 have hi:=λall sub=>isA all sub a
 have hb:=h.b
 have hr:=h.r
 have hk:=h.k
 clear h
 unfold IZ
 cases hc:a.c with
 |ride=>
  have w4:yu [.int (a.b:Int),.int 0,.int 0]=some (.bl true):=BJ (by omega) (by have:=hr hc;omega)
  rw[hc]at hi
  clear hr hk hb
  have hn:Kd.ride.n=1:=rfl
  walk_at "mir"
 |wait=>
  have w4:yu [.int (a.b:Int),.int 0,.int 4]=some (.bl true):=BJ (by omega) (by omega)
  rw[hc]at hi
  clear hr hk hb
  have hn:Kd.wait.n=2:=rfl
  walk_at "mir"
 |back=>
  have w4:yu [.int (a.b:Int),.int 1,.int 4]=some (.bl true):=BJ (by have:=hk hc;omega) (by omega)
  rw[hc]at hi
  clear hr hk hb
  have hn:Kd.back.n=3:=rfl
  walk_at "mir"
def W0 (as:List ck):List ck:=as.filter λa=>decide (a.b=0)
theorem Zu (as:List ck)(l:as.length<=16777216)(r:L3.Env)(h:r[1]?.join=some (.lst (as.map bH))) :
  qc r=some (.lst ((W0 as).map bH)):=by
 have e:lsD (eV 1) r=some (as.map bH):=by unfold lsD;have:eV 1 r=some (.lst (as.map bH)):=h;rw[this];rfl
 refine BR bH (λa=>decide (a.b=0)) bH as e l λa _=>⟨_,rfl,?_,λ_=>rfl⟩
 have:=fb a
 walk_at "mir"
def CY (s:(Nat->Int)×Option D)(a:ck):(Nat->Int)×Option D:=(λx=>if x=a.g then s.1 a.g+1 else s.1 x,some (bH a))
theorem RY:∀(W:List ck) (s:(Nat->Int)×Option D) (g:Nat),(W.foldl CY s).1 g=s.1 g+(W.countP λa=>decide (a.g=g):Nat)
 |[],s,g=>by simp
 |a::W,s,g=>by
  rw[fD,RY W,gk]
  by_cases hg:g=a.g
  ·subst hg;simp[CY];omega
  ·have:decide (a.g=g)=false:=by simp;exactλz=>hg z.symm
   simp[CY,hg,this]
theorem Nw (p:List Nat)(x:Nat):ap p++[D.int (x:Int)]=ap (p++[x]):=by simp[ap]
theorem zsk {many:Nat}{as:List ck}{f:Nat->Int}{p:List Nat}{here d:Nat}{x4:Option D}(hm:many<=1000)(hW:∀a∈W0 as,a.s<many/\a.g<many)(h:Kahn.Wh (W0 as) many f p d)(hh:p[d]?=some here) :
  ∃x,fP (gV 4) w9 ((W0 as).map bH) [some (.int (many:Int)),some (.lst (as.map bH)),some (.lst ((W0 as).map bH)),some (.lst (ed many f)),x4,some (.lst (ap p)),some (.int (d:Int)),some (.int (here:Int))] =
   some (.nx [some (.int (many:Int)),some (.lst (as.map bH)),some (.lst ((W0 as).map bH)),some (.lst (ed many ((W0 as).foldl (Kahn.stp here) (f,p)).1)),x,some (.lst (ap ((W0 as).foldl (Kahn.stp here) (f,p)).2)),some (.int (d:Int)),some (.int (here:Int))]):=by
 have hd:d<p.length:=(aL.mp hh).1
 have hP:here∉p.take d:=λz=>by
  obtain⟨i,hi,e⟩:=dm.mp z
  have LP:i<d:=by rw[iH]at hi;omega
  rw[rT]at e
  have e2:p[d]=here:=(aL.mp hh).2
  have:=(lH (xs:=p) (h₀:=by omega) (h₁:=hd) h.ok.nd).mp (e.trans e2.symm)
  omega
 obtain⟨ρ',h1,x,pre,e1,e2⟩:=Jj (g:=gV 4) (b:=w9) (ds:=(W0 as).map bH) (ρ:=[some (.int (many:Int)),some (.lst (as.map bH)),some (.lst ((W0 as).map bH)),some (.lst (ed many f)),x4,some (.lst (ap p)),some (.int (d:Int)),some (.int (here:Int))])
  (λds ρ=>∃x pre,ds=pre.map bH/\(∃post,W0 as=pre++post)/\Kahn.In (W0 as) many (p.take d) here pre (pre.foldl (Kahn.stp here) (f,p))/\ρ=[some (.int (many:Int)),some (.lst (as.map bH)),some (.lst ((W0 as).map bH)),some (.lst (ed many (pre.foldl (Kahn.stp here) (f,p)).1)),x,some (.lst (ap (pre.foldl (Kahn.stp here) (f,p)).2)),some (.int (d:Int)),some (.int (here:Int))])
  ⟨x4,[],rfl,⟨_,rfl⟩,⟨h.ok,λg=>by show f g=_;rw[h.fe];simp,h.z,λx hx=>by
   rcases hx with hx|rfl
   ·exact jI hx
   ·exact bW.mpr ⟨d,hh⟩⟩,rfl⟩ (by
  rintro ds dd post ρ e ⟨x,pre,rfl,⟨jB,e'⟩,I,rfl⟩
  rw[e',cZ]at e
  have e3:=og e
  cases jB with
  |nil=>cases e3
  |cons a jB=>
   rw[aM]at e3
   cases e3
   have ha:a∈W0 as:=by rw[e'];simp
   have hl:=Kahn.len_le I.ok.nd I.ok.lt
   have I2:=I.step e' hP (hW a ha).2
   refine⟨_,_,rfl,.inl ?_,some (bH a),pre++[a],by simp,⟨jB,by rw[e'];simp⟩,by rw[kG];exact I2,rfl⟩
   rw[kG]
   generalize pre.foldl (Kahn.stp here) (f,p)=S at hl
   show w9 _=some (.nx [_,_,_,some (.lst (ed many (Kahn.stp here S a).1)),_,some (.lst (ap (Kahn.stp here S a).2)),_,_])
   have f1:=fs a
   have f2:=fg a
   have d9:(ap S.2).length<16777216:=by simp[ap];omega
   unfold w9
   by_cases hs:a.s=here
   ·have L5:((a.s:Nat):Int)=(here:Int):=by rw[hs]
    have au:=SN (i:=3) (fj:=e1 (cw [0,1,2,3] "goal") (eV 4)) (f:=eC (.int 1)) (gi:=λi j=>i-j) (ρ:=[some (.int (many:Int)),some (.lst (as.map bH)),some (.lst ((W0 as).map bH)),some (.lst (ed many S.1)),some (bH a),some (.lst (ap S.2)),some (.int (d:Int)),some (.int (here:Int))]) (n:=many) (g:=a.g) (w:=S.1) (y:=1) rfl (by walk_at "mir") rfl (hW a ha).2
    have va:cP (.lst (ed many λx=>if x=a.g then S.1 a.g-1 else S.1 x)) (.int (a.g:Int))=some (.int (S.1 a.g-1)):=by
     have:=wB (λx=>if x=a.g then S.1 a.g-1 else S.1 x) (hW a ha).2
     rw[if_pos rfl]at this
     exact this
    by_cases h0:S.1 a.g-1=0
    ·have es:Kahn.stp here S a=(λx=>if x=a.g then S.1 a.g-1 else S.1 x,S.2++[a.g]):=by unfold Kahn.stp;simp[hs,h0]
     rw[es,←Nw]
     rw[h0]at va
     clear I I2 e' es
     walk_at "mir"
    ·have es:Kahn.stp here S a=(λx=>if x=a.g then S.1 a.g-1 else S.1 x,S.2):=by unfold Kahn.stp;simp[hs,h0]
     rw[es]
     clear I I2 e' es
     walk_at "mir"
   ·have es:Kahn.stp here S a=S:=by unfold Kahn.stp;rw[if_neg hs]
    rw[es]
    have L5:¬((a.s:Nat):Int)=(here:Int):=by omega
    clear I I2 e' es
    walk_at "mir")
 obtain⟨⟨post,e2⟩,I,rfl⟩:=e2
 have:pre=W0 as:=by
  have:=congrArg jH e1
  rw[ay,ay]at this
  rw[e2,aW]at this
  have hp:post=[]:=gA (by omega)
  rw[e2,hp,cn]
 rw[this]at h1
 exact⟨x,h1⟩
theorem zpa {many:Nat}(as:List ck)(l:as.length<=1000)(hm:many<=1000)(hs:∀a∈as,a.s<many/\a.g<many) :
  ∃(f:Nat->Int) (p:List Nat),vb [.int (many:Int),.lst (as.map bH)]=some (.lst (ap p))/\Kahn.Wh (W0 as) many f p p.length:=by
 have hW:∀a∈W0 as,a.s<many/\a.g<many:=λa ha=>hs a (bc.mp ha).1
 obtain⟨c1,_⟩:=Ng (g:=gV 4) (b:=u0) bH (λs:(Nat->Int)×Option D=>[some (.int (many:Int)),some (.lst (as.map bH)),some (.lst ((W0 as).map bH)),some (.lst (ed many s.1)),s.2,none,none,none])
  CY (λ_=>True) (W0 as) (λ_=>0,none) trivial (λs a ha _=>by
   refine⟨_,rfl,.inl ?_,trivial⟩
   unfold u0
   have f2:=fg a
   rw[SN (n:=many) (g:=a.g) (w:=s.1) (y:=1) rfl (by walk_at "mir") rfl (hW a ha).2]
   rfl)
 have c2:=RY (W0 as) (λ_=>0,none)
 generalize Vq:(W0 as).foldl CY (λ_=>0,none)=S0 at c1 c2
 obtain⟨f0,y4⟩:=S0
 dsimp only at c1 c2
 have VX:∀r:L3.Env,r[0]?.join=some (.int (many:Int))->r[3]?.join=some (.lst (ed many f0))->j9 r=some (.lst (ap ((aE many).filter λg=>decide (f0 g=0)))):=by
  intro r h0 h3
  refine BR (λ(t:Nat)=>D.int (t:Int)) (λg=>decide (f0 g=0)) (λ(t:Nat)=>D.int (t:Int)) (aE many) (uE h0 (by omega)) (by rw[aY];omega) ?_
  ·intro g hg
   refine⟨_,rfl,?_,λ_=>rfl⟩
   have hg:g<many:=bv.mp hg
   have hv:cP (.lst (ed many f0)) (.int (g:Int))=some (.int (f0 g)):=wB f0 hg
   have hc:dE r [3]=[some (.lst (ed many f0))]:=by unfold dE;simp[h3]
   rw[hc]
   walk_at "mir"
 generalize hq:((aE many).filter λg=>decide (f0 g=0))=p0 at VX
 have w0:Kahn.Wh (W0 as) many f0 p0 0:=by
  have hf:∀g,f0 g=Kahn.cnt (W0 as) [] g:=λg=>by
   rw[c2 g]
   unfold Kahn.cnt
   simp
  refine⟨⟨by rw[←hq];exact gq.filter _,λx hx=>by rw[←hq,bc,bv]at hx;exact hx.1,λi x hx a ha e=>?_⟩,by omega,hf,λg hg=>by rw[←hq,bc,bv];simp[hg]⟩
  have Bu:x∈p0:=bW.mpr ⟨i,hx⟩
  rw[←hq,bc]at Bu
  have h0:f0 x=0:=by simpa using Bu.2
  rw[hf]at h0
  have:=Kahn.cnt_zero.mp (by exact_mod_cast h0) a ha e
  cases this
 obtain⟨ρ',h1,⟨f,p,d,x4,x7,rfl,wh⟩,h3⟩:=Nc (c:=tb (e2 pY (eV 6) (eN dZ (aCons (eV 5) aNil)))) (b:=uz)
  (λρ=>∃f p d x4 x7,ρ=[some (.int (many:Int)),some (.lst (as.map bH)),some (.lst ((W0 as).map bH)),some (.lst (ed many f)),x4,some (.lst (ap p)),some (.int ((d:Nat):Int)),x7]/\Kahn.Wh (W0 as) many f p d)
  (λρ:L3.Env=>match ρ[6]? with|some (some (D.int i))=>(1001-i).toNat|_=>0) (by
   rintro ρ ⟨f,p,d,x4,x7,rfl,wh⟩
   have hl:(ap p).length=p.length:=by simp[ap]
   refine⟨decide ((d:Int)<(p.length:Int)),by walk_at "mir",λht=>?_⟩
   have hd:d<p.length:=by simpa using ht
   have hh:p[d]?=some p[d]:=by simp[hd]
   obtain⟨x,qH⟩:=zsk (x4:=x4) hm hW wh hh
   obtain⟨Hr,q,_⟩:=wh.step (λa ha=>(hW a ha).2) hh
   have mE:=Kahn.len_le Hr.ok.nd Hr.ok.lt
   have rB:=Hr.dl
   refine⟨_,.inl ?_,⟨_,_,d+1,x,some (.int (p[d]:Int)),rfl,Hr⟩,?_⟩
   ·have VJ:cP (.lst (ap p)) (.int (d:Int))=some (.int (p[d]:Int)):=ue (by simp[ap,hd])
    have hau:i2 (λi j=>D.int (i+j)) (.int (d:Int)) (.int 1)=some (.int ((d+1:Nat):Int)):=by simp[i2]
    unfold uz tK
    clear wh Hr mE rB
    walk_at "mir"
   ·show(1001-((d+1:Nat):Int)).toNat<(1001-(d:Int)).toNat
    omega) lN [some (.int (many:Int)),some (.lst (as.map bH)),some (.lst ((W0 as).map bH)),some (.lst (ed many f0)),y4,some (.lst (ap p0)),some (.int ((0:Nat):Int)),none] ⟨f0,p0,0,y4,none,rfl,w0⟩ (by
   show(1001-((0:Nat):Int)).toNat<lN
   have:(1001:Nat)<lN:=JC (by decide)
   omega)
 have hd:d=p.length:=by
  have hl:(ap p).length=p.length:=by simp[ap]
  have h4:(tb (e2 pY (eV 6) (eN dZ (aCons (eV 5) aNil)))) [some (.int (many:Int)),some (.lst (as.map bH)),some (.lst ((W0 as).map bH)),some (.lst (ed many f)),x4,some (.lst (ap p)),some (.int (d:Int)),x7]=some (decide ((d:Int)<(p.length:Int))):=by walk_at "mir"
  rw[h4]at h3
  have:=wh.dl
  simp at h3
  omega
 subst hd
 refine⟨f,p,?_,wh⟩
 have r1:=Zu as (by omega)
 have rp:kS (.lst [.int 0]) (.int (many:Int))=some (.lst (ed many λ_=>0)):=by
  unfold kS
  dsimp only
  rw[if_pos ⟨by omega,by omega,by simp⟩]
  congr 2
  unfold ed
  rw[iY,aY]
  simp
 rw[show(((0:Nat):Int))=0 from rfl]at h1
 unfold vb gb
 clear hs hW c2 Vq hq w0 wh h3 l hm
 walk_at "mir"
def bu (ns:List D)(as:List ck):D:=.obj 4 ["names","arrows"] [.lst ns,.lst (as.map bH)]
structure iP (many:Nat)(as:List ck):Prop where
 pos:1<=many
 le:many<=40
 len:as.length<=120
 right:∀a∈as,Right many a
 rank:∃rank:Nat->Nat,∀a∈as,a.b=0->rank a.s<rank a.g
theorem iP.placed {many:Nat}{as:List ck}(h:iP many as):∃p:List Nat,vb [.int (many:Int),.lst (as.map bH)]=some (.lst (ap p))/\Kahn.Ok (W0 as) many p/\p.length=many/\∀g,g<many->g∈p:=by
 obtain⟨f,p,h1,h2⟩:=zpa (many:=many) as (by have:=h.len;omega) (by have:=h.le;omega) (λa ha=>⟨(h.right a ha).s,(h.right a ha).g⟩)
 obtain⟨rank,hr⟩:=h.rank
 have all:=h2.all rank (λa ha=>by
  have:=bc.mp ha
  exact hr a this.1 (by simpa using this.2)) (λa ha=>(h.right a (bc.mp ha).1).s)
 exact⟨p,h1,h2.ok,Kahn.len_of h2.ok.nd h2.ok.lt all,all⟩
theorem zv9 {many:Nat}{as:List ck}{ns:List D}(h:iP many as)(hn:ns.length=many)(EN:qr [.lst ns]=some (.bl true)):jy 4 [.lst ns,.lst (as.map bH)]=some (bu ns as):=by
 obtain⟨p,hp,_,hl,_⟩:=h.placed
 have d9:=h.len
 obtain⟨ρ',h1,x3,x4,rfl⟩:=Jj (g:=gT (gsCons (gV 3) (gsCons (gV 4) gsNil))) (b:=j4) (ds:=eu 0 (as.map bH)) (ρ:=[some (.obj 4 [] []),some (.lst ns),some (.lst (as.map bH)),none,none,none])
  (λ_ ρ=>∃x3 x4,ρ=[some (.obj 4 [] []),some (.lst ns),some (.lst (as.map bH)),x3,x4,none]) ⟨none,none,rfl⟩ (by
   rintro pre d post ρ e ⟨x3,x4,rfl⟩
   obtain⟨x,hx,rfl⟩:=Nm (S7 e)
   rw[aQ]at hx
   obtain⟨a,ha,rfl⟩:=cU.mp hx
   have hr:=zsj (h.right a (bW.mpr ⟨_,ha⟩))
   refine⟨_,_,rfl,.inl ?_,some (.int (0+pre.length:Nat)),some (bH a),rfl⟩
   unfold j4
   rw[←hn]at hr
   clear hp hl hn d9 h
   walk_at "mir")
 have hz:(ap p).length=many:=by simp[ap,hl]
 have LN:¬((as.length:Int) > 120):=by omega
 rw[←hn]at hp hz
 have l1:∀ds:List D,mK [.lst ds]=some (.lst ds):=λ_=>rfl
 have s1:kx [4] "names" (eN mK (aCons (eV 1) aNil)) [some (D.obj 4 [] []),some (.lst ns),some (.lst (as.map bH)),x3,x4,some (.lst (ap p))]=some (.nx [some (D.obj 4 ["names"] [.lst ns]),some (.lst ns),some (.lst (as.map bH)),x3,x4,some (.lst (ap p))]):=rfl
 have s2:kx [4] "arrows" (eN mK (aCons (eV 2) aNil)) [some (D.obj 4 ["names"] [.lst ns]),some (.lst ns),some (.lst (as.map bH)),x3,x4,some (.lst (ap p))]=some (.nx [some (bu ns as),some (.lst ns),some (.lst (as.map bH)),x3,x4,some (.lst (ap p))]):=rfl
 clear h d9 hl hn
 unfold jy AD
 walk_at "mir"
theorem HN (ns:List Int)(i:Int)(hi:0<=i):∃c,yw [.lst (ns.map .int),.int i]=some (.int c):=by
 obtain⟨k,rfl⟩:∃k:Nat,i=k:=⟨i.toNat,by omega⟩
 unfold yw
 by_cases h:k<ns.length
 ·refine⟨ns[k],?_⟩
  have:cP (.lst (ns.map .int)) (.int (k:Int))=some (.int ns[k]):=zrx D.int (.inl rfl) (by simp[h])
  walk_at "mir"
 ·refine⟨0,?_⟩
  walk_at "mir"
def oX (c:Int):Bool:=decide (1237940039285380274899124224<=c)&&decide (c%2=1)
theorem NW (c:Int):uk [.int c]=some (.bl (oX c)):=by
 unfold uk oX
 by_cases h1:(1237940039285380274899124224:Int)<=c<;>by_cases h2:c%2=1<;>walk_at "mir"
theorem zsl (c:Int){k:Int}(h0:0<=k)(h1:k<=1000000):∃r:Nat,wp [.int c,.int k]=some (.int (r:Int))/\r<2147483648:=by
 have m0:dk (.int 31) (.int k)=some (.int (31*k)):=zbg (by decide) (by decide)
 have s0:rM (.int c) (.int (1+31*k))=some (.int (c/2 ^ (1+31*k).toNat)):=zjk (by omega)
 have r0:=NW c
 have fin:∀z:Int,∀m:Int,0<m->m<=2147483648->∃r:Nat,(some (D.int (z%m)):Option D)=some (.int (r:Int))/\r<2147483648:=λz m hm oW=>by
  have a1:=mP z (by omega:m≠0)
  have a2:=rP z hm
  exact⟨(z%m).toNat,by rw[qS a1],by omega⟩
 generalize hn:(c+7919*k+1)*48271%2147483647=n1
 have b1:0<=n1/\n1<2147483647:=by omega
 have m1:dk (.int 7919) (.int k)=some (.int (7919*k)):=zbg (by decide) (by decide)
 have m2:dk (.int (c+7919*k+1)) (.int 48271)=some (.int ((c+7919*k+1)*48271)):=zas (by decide) (by decide)
 have m3:dk (.int n1) (.int (n1/1009+69621))=some (.int (n1*(n1/1009+69621))):=zbg (by omega) (by omega)
 generalize xB:n1*(n1/1009+69621)%2147483647=n2
 have b2:0<=n2/\n2<2147483647:=by omega
 have m4:dk (.int n2) (.int (n2/2003+39373+k))=some (.int (n2*(n2/2003+39373+k))):=zbg (by omega) (by omega)
 unfold wp
 by_cases hr:oX c=true
 ·by_cases hs:c/2 ^ (1+31*k).toNat > 0
  ·obtain⟨r,e1,e2⟩:=fin (c/2 ^ (1+31*k).toNat) 2147483648 (by decide) (by decide)
   refine⟨r,?_,e2⟩
   rw[←e1]
   generalize c/2 ^ (1+31*k).toNat=q at s0 hs
   clear e1 e2 fin hn xB b1 b2 h0 h1
   walk_at "mir"
  ·obtain⟨r,e1,e2⟩:=fin (n2*(n2/2003+39373+k)) 2147483629 (by decide) (by decide)
   refine⟨r,?_,e2⟩
   rw[←e1]
   generalize c/2 ^ (1+31*k).toNat=q at s0 hs
   clear e1 e2 fin b1 b2 h0 h1
   walk_at "mir"
 ·obtain⟨r,e1,e2⟩:=fin (n2*(n2/2003+39373+k)) 2147483629 (by decide) (by decide)
  refine⟨r,?_,e2⟩
  rw[←e1]
  clear e1 e2 fin b1 b2 h0 h1 s0
  walk_at "mir"
theorem RZ (g:Nat):∀O:List Nat,g∈O->∃j:Nat,(ap O).findIdx? (λy=>t7 y (.int (g:Int)))=some j
 |[],h=>by cases h
 |x::O,h=>by
  have hc:ap (x::O)=.int (x:Int)::ap O:=rfl
  rw[hc,ke]
  by_cases hx:x=g
  ·refine⟨0,?_⟩
   have:t7 (.int (x:Int)) (.int (g:Int))=true:=by simp[t7,hx]
   rw[this];rfl
  ·have:t7 (.int (x:Int)) (.int (g:Int))=false:=by simp[t7];omega
   rw[this]
   obtain⟨j,hj⟩:=RZ g O (by
    rcases aC.mp h with e|e
    ·exact absurd e.symm hx
    ·exact e)
   exact⟨j+1,by rw[hj];rfl⟩
theorem zsm (O:List Nat):(ap O).all D.sc=true:=by
 rw[iE]
 intro d hd
 obtain⟨t,_,rfl⟩:=bz.mp hd
 rfl
def Mf (O:List Nat)(g:Nat):Nat:=((ap O).findIdx? (λy=>t7 y (.int (g:Int)))).getD 0
theorem zpb {g:Nat}{O:List Nat}(h:g∈O):sY (.lst (ap O)) (.int (g:Int))=some (.int (Mf O g:Int)):=by
 obtain⟨j,hj⟩:=RZ g O h
 unfold sY Mf
 dsimp only
 rw[if_pos ⟨rfl,zsm O⟩,hj]
 rfl
def i9 (c k:Int):Nat:=match wp [.int c,.int k]with
 |some (.int r)=>r.toNat
 |_=>0
theorem Jw (c:Int){k:Int}(h0:0<=k)(h1:k<=1000000):wp [.int c,.int k]=some (.int (i9 c k:Int))/\i9 c k<2147483648:=by
 obtain⟨r,h,hr⟩:=zsl c h0 h1
 unfold i9
 rw[h]
 simpa using hr
def mC (cj:Int)(many:Nat):Nat->List Nat×List Nat
 |0=>([],aE many)
 |k+1=>
  let S:=mC cj many k
  let i:=i9 cj (k:Int)%S.2.length
  (S.1++[S.2.getD i 0],S.2.eraseIdx i)
theorem Q3 {α:Type}:∀(l:List α) (i:Nat) (h:i<l.length),(l[i]::l.eraseIdx i).Perm l
 |[],_,h=>by simp at h
 |x::l,0,_=>by simp
 |x::l,i+1,h=>by
  have ih:=Q3 l i (by simpa using h)
  simp only[List.getElem_cons_succ,List.eraseIdx_cons_succ]
  exact(List.Perm.swap x _ _).trans (ih.cons x)
theorem Oc (cj:Int)(many:Nat):∀k,k<=many->(mC cj many k).2.length=many-k/\((mC cj many k).1++(mC cj many k).2).Perm (aE many)
 |0,_=>by simp[mC]
 |k+1,h=>by
  obtain⟨h1,h2⟩:=Oc cj many k (by omega)
  unfold mC
  dsimp only
  generalize mC cj many k=S at h1 h2
  have hi:i9 cj (k:Int)%S.2.length<S.2.length:=nt _ (by omega)
  generalize i9 cj (k:Int)%S.2.length=i at hi
  refine⟨by rw[List.length_eraseIdx_of_lt hi];omega,?_⟩
  have e:=Q3 S.2 i hi
  have hg:S.2.getD i 0=S.2[i]:=by simp[hi]
  rw[hg,eP]
  exact(List.Perm.append_left S.1 e).trans h2
theorem QQ:∀(L:List Nat) (i:Nat),(ap L).eraseIdx i=ap (L.eraseIdx i)
 |[],_=>rfl
 |_::_,0=>rfl
 |x::L,i+1=>by
  have ih:=QQ L i
  show D.int (x:Int)::(ap L).eraseIdx i=D.int (x:Int)::ap (L.eraseIdx i)
  rw[ih]
theorem zpc (cj:Int){many:Nat}(h2:many<=1000)(g:Nat):∃x5:Option D,fP (gV 5) jc (eY 0 many) [some (.int cj),some (.int (many:Int)),some (.int (g:Int)),some (.lst []),some (.lst (eY 0 many)),none] =
  some (.nx [some (.int cj),some (.int (many:Int)),some (.int (g:Int)),some (.lst (ap (mC cj many many).1)),some (.lst (ap (mC cj many many).2)),x5]):=by
 have hu:eY 0 many=ap (aE many):=by simp[eY,ap]
 obtain⟨ρ',h1,x5,rfl⟩:=zev (g:=gV 5) (b:=jc) (lo:=0) (n:=many) (ρ:=[some (.int cj),some (.int (many:Int)),some (.int (g:Int)),some (.lst []),some (.lst (eY 0 many)),none])
  (λk ρ=>∃x5,ρ=[some (.int cj),some (.int (many:Int)),some (.int (g:Int)),some (.lst (ap (mC cj many k).1)),some (.lst (ap (mC cj many k).2)),x5]) ⟨none,by rw[hu];rfl⟩ (by
   rintro k ρ hk ⟨x5,rfl⟩
   obtain⟨o1,o2⟩:=Oc cj many k (by omega)
   have o3:=o2.length_eq
   rw[aW,aY]at o3
   obtain⟨mx,mb⟩:=Jw cj (k:=0+(k:Int)) (by omega) (by omega)
   refine⟨_,_,rfl,.inl ?_,some (.int (0+(k:Int))),rfl⟩
   have e0:(0:Int)+(k:Int)=(k:Int):=by omega
   rw[e0]at mx ⊢
   show jc [some (.int cj),some (.int (many:Int)),some (.int (g:Int)),some (.lst (ap (mC cj many k).1)),some (.lst (ap (mC cj many k).2)),some (.int (k:Int))]=some (.nx [some (.int cj),some (.int (many:Int)),some (.int (g:Int)),some (.lst (ap ((mC cj many k).1++[(mC cj many k).2.getD (i9 cj (k:Int)%(mC cj many k).2.length) 0]))),some (.lst (ap ((mC cj many k).2.eraseIdx (i9 cj (k:Int)%(mC cj many k).2.length)))),some (.int (k:Int))])
   generalize mC cj many k=S at o1 o3
   have hi:i9 cj (k:Int)%S.2.length<S.2.length:=nt _ (by omega)
   have md:eE (.int (i9 cj (k:Int):Int)) (.int ((ap S.2).length:Int))=some (.int ((i9 cj (k:Int)%S.2.length:Nat):Int)):=by
    rw[qh (by simp[ap];omega)]
    simp[ap]
   generalize i9 cj (k:Int)%S.2.length=i at hi md
   have hg:S.2.getD i 0=S.2[i]:=by simp[hi]
   have l1:(ap S.1).length<16777216:=by simp[ap];omega
   have l2:(ap S.2).length<=16777216:=by simp[ap];omega
   have ix:ixN (ap S.2).length (i:Int)=some i:=SO (by simp[ap];exact hi)
   have gt:(ap S.2)[i]?=some (.int (S.2[i]:Int)):=by simp[ap,hi]
   have ev:eN dZ (aCons (eV 4) aNil) [some (.int cj),some (.int (many:Int)),some (.int (g:Int)),some (.lst (ap S.1)),some (.lst (ap S.2)),some (.int (k:Int))]=some (.int ((ap S.2).length:Int)):=rfl
   have em:(aCons (eV 0) (aCons (eV 5) aNil) [some (.int cj),some (.int (many:Int)),some (.int (g:Int)),some (.lst (ap S.1)),some (.lst (ap S.2)),some (.int (k:Int))]).bind (λds=>wp (ds++[]))=some (.int (i9 cj (k:Int):Int)):=mx
   have ee:e2 eE (λρ=>((aCons (eV 0) (aCons (eV 5) aNil)) ρ).bind λds=>wp (ds++[])) (eN dZ (aCons (eV 4) aNil)) [some (.int cj),some (.int (many:Int)),some (.int (g:Int)),some (.lst (ap S.1)),some (.lst (ap S.2)),some (.int (k:Int))]=some (.int (i:Int)):=by
    unfold e2
    dsimp only
    rw[em,ev]
    exact md
   unfold jc nY
   rw[ee]
   show(if(ap S.1).length<16777216/\(ap S.2).length<=16777216 then _ else _)=_
   rw[if_pos ⟨l1,l2⟩,ix]
   show((ap S.2)[i]?).bind _=_
   rw[gt,hg,←Nw,←QQ]
   rfl)
 exact⟨x5,h1⟩
theorem zu1 (cj:Int){many:Nat}(h1:1<=many)(h2:many<=1000):∃rk:Nat->Nat,∀g,g<many->u6 [.int cj,.int (many:Int),.int (g:Int)]=some (.int (rk g:Int)):=by
 have hr:=NW cj
 cases L4:oX cj with
 |false=>
  refine⟨λg=>(((g:Int)+cj)%(many:Int)).toNat,λg hg=>?_⟩
  have a1:=mP ((g:Int)+cj) (by omega:(many:Int)≠0)
  have a2:eE (.int ((g:Int)+cj)) (.int (many:Int))=some (.int (((g:Int)+cj)%(many:Int))):=qh (by omega)
  rw[qS a1]
  unfold u6
  clear a1
  walk_at "mir"
 |true=>
  obtain⟨o1,o2⟩:=Oc cj many many (aF _)
  rw[Nat.sub_self]at o1
  have o3:(mC cj many many).2=[]:=gA o1
  rw[o3,cn]at o2
  refine⟨Mf (mC cj many many).1,λg hg=>?_⟩
  obtain⟨x5,lp⟩:=zpc cj h2 g
  have ix:=zpb (g:=g) (O:=(mC cj many many).1) (o2.mem_iff.mpr (bv.mpr hg))
  have lr:nG [.int (many:Int)]=some (.lst (eY 0 many)):=by
   unfold nG
   dsimp only
   rw[if_pos ⟨by omega,by omega⟩]
   simp
  have r1:gE [.int (many:Int)]=some (eY 0 many):=by
   rw[BD (by omega) (by omega)]
   simp
  unfold u6
  generalize mC cj many many=S at lp ix
  clear o1 o2 o3
  walk_at "mir"
def d8 (a:ck):D:=.tup [.int a.s,.int a.g,.int a.t,.int a.b]
theorem ZW (c many cj k n s g b:Int):∃t:Int,0<=t/\t<=1000000000/\uu [some (.int c),some (.int many),some (.int cj),some (.int k),some (.int n),some (.int s),some (.int g),some (.int b),none]=some (.rt (.tup [.int s,.int g,.int t,.int b])):=by
 obtain⟨m2,_⟩:=Jw c (k:=30) (by decide) (by decide)
 generalize i9 c 30=u at m2
 have row:=NW c
 unfold uu
 by_cases hr:oX c=true
 ·refine⟨(u:Int)%1000000001,by omega,by omega,?_⟩
  by_cases h3:c%2=1<;>walk_at "mir"
 ·by_cases h3:c%2=1
  ·refine⟨c/2%1000000001,by omega,by omega,?_⟩
   walk_at "mir"
  ·refine⟨n/1000%10,by omega,by omega,?_⟩
   walk_at "mir"
theorem zsn (c cj:Int)(k:Nat)(hk:k<=1000){many:Nat}(h1:1<=many)(h2:many<=1000)(rk:Nat->Nat)(uZ:∀g,g<many->u6 [.int cj,.int (many:Int),.int (g:Int)]=some (.int (rk g:Int))) :
  ∃a:ck,wz [.int c,.int (many:Int),.int cj,.int (k:Int)]=some (d8 a)/\a.s<many/\a.g<many/\0<=a.t/\a.t<=1000000000/\a.b<=4/\(a.b=0->rk a.s<rk a.g)/\(k<many->a.g=k):=by
 obtain⟨m1,_⟩:=Jw c (k:=(k:Int)) (by omega) (by omega)
 generalize i9 c (k:Int)=n at m1
 have hs:n%many<many:=nt _ (by omega)
 have e1:eE (.int (n:Int)) (.int (many:Int))=some (.int ((n%many:Nat):Int)):=by rw[qh (by omega)];simp
 have e2:eE (.int ((n:Int)/8)) (.int (many:Int))=some (.int ((n/8%many:Nat):Int)):=by rw[qh (by omega)];simp
 obtain⟨g0,hg,Iv,LM⟩:∃g0:Nat,g0<many/\(k<many->g0=k)/\(¬k<many->g0=n/8%many):=by
  by_cases h:k<many
  ·exact⟨k,h,λ_=>rfl,λz=>absurd h z⟩
  ·exact⟨n/8%many,nt _ (by omega),λz=>absurd z h,λ_=>rfl⟩
 have k1:=uZ _ hs
 have k2:=uZ _ hg
 generalize n%many=s0 at *
 have fin:∀b:Nat,b<=4->(b=0->rk s0<rk g0)->(∀t:Int,uu [some (.int c),some (.int (many:Int)),some (.int cj),some (.int (k:Int)),some (.int (n:Int)),some (.int (s0:Int)),some (.int (g0:Int)),some (.int (b:Int)),none]=some (.rt (.tup [.int s0,.int g0,.int t,.int b]))->wz [.int c,.int (many:Int),.int cj,.int (k:Int)]=some (.tup [.int s0,.int g0,.int t,.int b])) ->
   ∃a:ck,wz [.int c,.int (many:Int),.int cj,.int (k:Int)]=some (d8 a)/\a.s<many/\a.g<many/\0<=a.t/\a.t<=1000000000/\a.b<=4/\(a.b=0->rk a.s<rk a.g)/\(k<many->a.g=k):=by
  intro b hb sP h
  obtain⟨t,t0,t1,ht⟩:=ZW c many cj k n s0 g0 b
  exact⟨⟨.wait,s0,g0,t,b⟩,h t ht,hs,hg,t0,t1,hb,sP,Iv⟩
 have eb:((n:Int)/64)%5=((n/64%5:Nat):Int):=by omega
 have OV:(1:Int)+(n:Int)/320%2=((1+n/320%2:Nat):Int):=by omega
 have gl:(Ad (.int (k:Int)) (.int (many:Int))=some (.bl true)/\g0=n/8%many)\/(Ad (.int (k:Int)) (.int (many:Int))=some (.bl false)/\g0=k):=by
  by_cases h:k<many
  ·refine .inr ⟨?_,Iv h⟩
   show some (D.bl (decide ((k:Int) >= (many:Int))))=_
   rw[decide_eq_false (by omega)]
  ·refine .inl ⟨?_,LM h⟩
   show some (D.bl (decide ((k:Int) >= (many:Int))))=_
   rw[decide_eq_true (by omega)]
 have go:∀(b t:Int),(∃q:Int,(n:Int)/64%5=q/\((q=0/\((rk s0:Int) >= (rk g0:Int)/\b=1+(n:Int)/320%2\/¬(rk s0:Int) >= (rk g0:Int)/\b=0))\/(¬q=0/\b=q)))->uu [some (.int c),some (.int (many:Int)),some (.int cj),some (.int (k:Int)),some (.int (n:Int)),some (.int (s0:Int)),some (.int (g0:Int)),some (.int b),none]=some (.rt (.tup [.int s0,.int g0,.int t,.int b]))->wz [.int c,.int (many:Int),.int cj,.int (k:Int)]=some (.tup [.int s0,.int g0,.int t,.int b]):=by
  rintro b t ⟨q,hq,hc⟩ ht
  unfold wz
  rcases gl with⟨gt,gg⟩|⟨gt,gg⟩
  ·rw[←gg]at e2
   clear Iv LM gg hg hs uZ fin eb OV
   rcases hc with⟨h0,⟨h1,h2⟩|⟨h1,h2⟩⟩|⟨h0,h1⟩
   ·subst h0;subst h2;walk_at "mir"
   ·subst h0;subst h2;walk_at "mir"
   ·subst h1;walk_at "mir"
  ·subst gg
   clear Iv LM hg hs uZ fin eb OV e2
   rcases hc with⟨h0,⟨h1,h2⟩|⟨h1,h2⟩⟩|⟨h0,h1⟩
   ·subst h0;subst h2;walk_at "mir"
   ·subst h0;subst h2;walk_at "mir"
   ·subst h1;walk_at "mir"
 by_cases q:n/64%5=0
 ·by_cases q2:rk g0<=rk s0
  ·refine fin (1+n/320%2) (by omega) (by omega) λt ht=>go _ t ⟨0,by omega,.inl ⟨rfl,.inl ⟨by omega,by omega⟩⟩⟩ ht
  ·refine fin 0 (by omega) (by omega) λt ht=>go _ t ⟨0,by omega,.inl ⟨rfl,.inr ⟨by omega,rfl⟩⟩⟩ ht
 ·refine fin (n/64%5) (by omega) (by omega) λt ht=>go _ t ⟨_,rfl,.inr ⟨by omega,by omega⟩⟩ ht
def kQ (b:Nat)(kind:Int):Kd:=if b=0/\kind%2=0 then .ride else if 0<b/\kind%2=0 then .back else .wait
def oY (a:ck)(kind:Int):ck:={ a with c:=kQ a.b kind }
theorem zu2 (s g t:Int):qm 1 [.int s,.int g,.int t]=some (.obj 1 ["start","goal","time","behind"] [.int s,.int g,.int t,.int 0]):=rfl
theorem zu3 (s g t b:Int):qo 2 [.int s,.int g,.int t,.int b]=some (.obj 2 ["start","goal","time","behind"] [.int s,.int g,.int t,.int b]):=rfl
theorem zu4 (s g t b:Int):qp 3 [.int s,.int g,.int t,.int b]=some (.obj 3 ["start","goal","time","behind"] [.int s,.int g,.int t,.int b]):=rfl
theorem zu5 (a:ck)(kind:Int):Jb [d8 a,.int kind]=some (bH (oY a kind)):=by
 obtain⟨c,s,g,t,b⟩:=a
 have r1:=zu2
 have r2:=zu3
 have r3:=zu4
 unfold Jb d8 oY bH
 dsimp only
 by_cases hb:b=0
 ·by_cases hk:kind%2=0
  ·subst hb
   have:kQ 0 kind=.ride:=by unfold kQ;rw[if_pos ⟨rfl,hk⟩]
   rw[this]
   have e:(((0:Nat)):Int)=0:=rfl
   have hn:Kd.ride.n=1:=rfl
   walk_at "mir"
  ·have:kQ b kind=.wait:=by unfold kQ;rw[if_neg (λz=>hk z.2),if_neg (λz=>hk z.2)]
   rw[this]
   have hn:Kd.wait.n=2:=rfl
   have Ir:(b:Int)=0:=by omega
   walk_at "mir"
 ·have Ir:¬(b:Int)=0:=by omega
  have Vv:0<b:=by omega
  by_cases hk:kind%2=0
  ·have:kQ b kind=.back:=by unfold kQ;rw[if_neg (λz=>hb z.1),if_pos ⟨by omega,hk⟩]
   rw[this]
   have hn:Kd.back.n=3:=rfl
   clear Ir
   walk_at "mir"
  ·have:kQ b kind=.wait:=by unfold kQ;rw[if_neg (λz=>hk z.2),if_neg (λz=>hk z.2)]
   rw[this]
   have hn:Kd.wait.n=2:=rfl
   clear Ir
   walk_at "mir"
def nm (n:Nat):List D:=(aE n).map λ(k:Nat)=>D.str ("a"++xH (k:Int))
def Px:Option D->Bool
 |some (.bl true)=>true
 |_=>false
theorem zu6 {x:Option D}(h:Px x=true):x=some (.bl true):=by
 unfold Px at h
 split at h
 ·rfl
 ·cases h
theorem zso {n:Nat}(h1:1<=n)(h2:n<=8):qr [.lst (nm n)]=some (.bl true):=by
 have:n=1\/n=2\/n=3\/n=4\/n=5\/n=6\/n=7\/n=8:=by omega
 rcases this with rfl|rfl|rfl|rfl|rfl|rfl|rfl|rfl<;>exact zu6 (by decide +kernel)
structure Drawn (many:Nat)(rk:Nat->Nat)(a:ck):Prop where
 s:a.s<many
 g:a.g<many
 t0:0<=a.t
 t1:a.t<=1000000000
 b:a.b<=4
 r:a.b=0->rk a.s<rk a.g
theorem Drawn.right {many:Nat}{rk:Nat->Nat}{a:ck}(h:Drawn many rk a)(kind:Int):Right many (oY a kind):=by
 refine⟨h.s,h.g,h.t0,h.t1,h.b,λz=>?_,λz=>?_⟩
 ·change kQ a.b kind=.ride at z
  unfold kQ at z
  split at z
  ·next q=>exact q.1
  ·split at z<;>cases z
 ·change kQ a.b kind=.back at z
  unfold kQ at z
  split at z
  ·cases z
  ·split at z
   ·next q=>exact q.1
   ·cases z
theorem zu7 {many:Nat}{rk:Nat->Nat}{as:List ck}(k:ck->Int)(h1:1<=many)(h2:many<=8)(h3:as.length<=120)(h:∀a∈as,Drawn many rk a):iP many (as.map λa=>oY a (k a)):=by
 refine⟨h1,by omega,by rw[ay];exact h3,λb hb=>?_,rk,λb hb sP=>?_⟩
 ·obtain⟨a,ha,rfl⟩:=bz.mp hb
  exact(h a ha).right _
 ·obtain⟨a,ha,rfl⟩:=bz.mp hb
  exact(h a ha).r sP
abbrev T:=Option Int
def lt (m:Int):T->T
 |none=>none
 |some i=>some (i+m)
def mx:T->T->T
 |none,b=>b
 |a,none=>a
 |some i,some j=>some (if j > i then j else i)
theorem zsp (o:T)(m:Int):Jv [fC o,.int m]=some (fC (lt m o)):=by
 unfold Jv
 cases o<;>simp only[fC,lt]<;>walk_at "mir"
theorem R1 (a b:T):HA [fC a,fC b]=some (fC (mx a b)):=by
 unfold HA
 cases a<;>cases b<;>simp only[fC,mx]<;>walk_at "mir"
theorem zsq (a b:T):mx a b=mx b a:=by cases a<;>cases b<;>simp only[mx];congr 1;omega
theorem Rw {κ:Type}(h:κ×D->D):∀(ks:List κ) (ds:List D),ks.zip ((ks.zip ds).map h)=(ks.zip ds).map λp=>(p.1,h p)
 |[],_=>rfl
 |_::_,[]=>rfl
 |k::ks,d::ds=>by
  show(k,h (k,d))::ks.zip ((ks.zip ds).map h)=(k,h (k,d))::(ks.zip ds).map _
  rw[Rw h ks ds]
theorem R3 {κ:Type}[DecidableEq κ]{ks:List κ}{ds:List D}(hl:ks.length=ds.length)(k k':κ)(d:D):iK (fu ks ds k d).1 (fu ks ds k d).2 k'=if k'=k then some d else iK ks ds k':=by
 unfold fu
 by_cases hc:ks.contains k=true
 ·rw[if_pos hc]
  unfold iK
  dsimp only
  rw[Rw,List.find?_map]
  by_cases hk:k'=k
  ·subst hk
   rw[if_pos rfl]
   have hm:k'∈ks:=by simpa using hc
   have:∃p∈ks.zip ds,p.1=k':=by
    obtain⟨i,hi,e⟩:=dm.mp hm
    refine⟨(ks[i],ds[i]),?_,e⟩
    rw[dm]
    exact⟨i,by rw[eK];omega,by simp⟩
   obtain⟨p,hp,he⟩:=this
   cases hf:(ks.zip ds).find? ((λp:κ×D=>decide (p.1=k')) ∘ λp:κ×D=>(p.1,if p.1=k' then d else p.2))with
   |none=>
    rw[qU]at hf
    have:=hf p hp
    simp[he]at this
   |some q=>
    have hq:=tT hf
    simp at hq
    simp[hq]
  ·rw[if_neg hk]
   have:((λp:κ×D=>decide (p.1=k')) ∘ λp:κ×D=>(p.1,if p.1=k then d else p.2))=λp:κ×D=>decide (p.1=k'):=rfl
   rw[this]
   cases hf:(ks.zip ds).find? λp=>decide (p.1=k')with
   |none=>rfl
   |some q=>
    have hq:=tT hf
    simp at hq
    have kr:¬q.1=k:=λz=>hk (hq▸z)
    simp[kr]
 ·rw[if_neg hc]
  unfold iK
  dsimp only
  have hz:(ks++[k]).zip (ds++[d])=ks.zip ds++[(k,d)]:=by
   rw[tV hl];rfl
  rw[hz,List.find?_append]
  by_cases hk:k'=k
  ·subst hk
   rw[if_pos rfl]
   have hn:(ks.zip ds).find? (λp=>decide (p.1=k'))=none:=by
    rw[qU]
    intro p hp
    have hm:=(gG (a:=p.1) (b:=p.2) hp).1
    have oW:¬k'∈ks:=by simpa using hc
    simp
    intro z
    exact oW (z▸hm)
   rw[hn]
   simp
  ·rw[if_neg hk]
   have:¬k=k':=λz=>hk z.symm
   cases hf:(ks.zip ds).find? (λp=>decide (p.1=k'))<;>simp[this]
theorem NX {κ:Type}[DecidableEq κ]{ks:List κ}{ds:List D}(hl:ks.length=ds.length)(k:κ)(d:D):(fu ks ds k d).1.length=(fu ks ds k d).2.length/\(fu ks ds k d).1.length<=ks.length+1:=by
 unfold fu
 by_cases hc:ks.contains k=true
 ·rw[if_pos hc];simp;omega
 ·rw[if_neg hc];simp[hl]
abbrev Fl:=Nat×Nat×Int
def jO (q:Fl):D:=.tup [.int (q.1:Int),.int (q.2.1:Int),.int q.2.2]
def fl (fs:List Fl)(g r:Nat):T:=(fs.filter λq=>decide (q.1=g/\q.2.1=r)).foldl (λw q=>mx w (some q.2.2)) none
structure jR (d:D)(n:Nat)(f:Nat->Nat->T):Prop where
 is:∃ks ds,d=.dT ks ds/\ks.length=ds.length/\ks.length<=n/\∀g r:Nat,iK ks ds [.inl (g:Int),.inl (r:Int)]=(f g r).map D.int
theorem jR.get {d:D}{n:Nat}{f:Nat->Nat->T}(h:jR d n f)(g r:Nat):((fq d (.tup [.int (g:Int),.int (r:Int)])).bind λr=>some (r.getD .non))=some (fC (f g r)):=by
 obtain⟨ks,ds,rfl,h1,h2,h3⟩:=h.is
 show some ((iK ks ds [.inl (g:Int),.inl (r:Int)]).getD .non)=_
 rw[h3]
 cases f g r<;>rfl
theorem zu8 (a:T)(t:Int):some (fC (mx a (some t)))=(mx a (some t)).map D.int:=by cases a<;>rfl
theorem Th (fs:List Fl)(hl:fs.length<=1000):∃d,xx [.lst (fs.map jO)]=some d/\jR d 1000 (fl fs):=by
 obtain⟨ρ',h1,d,x2,x3,x4,pre,e1,rfl,hd⟩:=Jj (g:=gT (gsCons (gV 2) (gsCons (gV 3) (gsCons (gV 4) gsNil)))) (b:=u5) (ds:=fs.map jO) (ρ:=[some (.lst (fs.map jO)),some (.dT [] []),none,none,none])
  (λds ρ=>∃d x2 x3 x4,∃pre:List Fl,ds=pre.map jO/\ρ=[some (.lst (fs.map jO)),some d,x2,x3,x4]/\jR d pre.length (fl pre))
  ⟨_,none,none,none,[],rfl,rfl,⟨[],[],rfl,rfl,by simp,λ_ _=>rfl⟩⟩ (by
   rintro ds dd post ρ e ⟨d,x2,x3,x4,pre,rfl,rfl,hd⟩
   obtain⟨q,hq,rfl⟩:∃q,fs[pre.length]?=some q/\jO q=dd:=by
    have:=S7 e
    rw[aQ,ay]at this
    exact cU.mp this
   have d9:pre.length<fs.length:=(aL.mp hq).1
   obtain⟨g,r,t⟩:=q
   have hg:=hd.get g r
   obtain⟨ks,ds,rfl,k1,k2,k3⟩:=hd.is
   have hm:=R1 (fl pre g r) (some t)
   have ie:ks.length<16777216:=by omega
   refine⟨_,_,rfl,.inl ?_,.dT (fu ks ds [.inl (g:Int),.inl (r:Int)] (fC (mx (fl pre g r) (some t)))).1 (fu ks ds [.inl (g:Int),.inl (r:Int)] (fC (mx (fl pre g r) (some t)))).2,some (.int (g:Int)),some (.int (r:Int)),some (.int t),pre++[(g,r,t)],by simp,rfl,?_⟩
   ·have hk:nF [.int (g:Int),.int (r:Int)]=some [.inl (g:Int),.inl (r:Int)]:=rfl
    have he:fC (some t)=.int t:=rfl
    rw[he]at hm
    unfold u5 iR
    generalize fC (fl pre g r)=z at hg hm
    clear k1 k2 k3 e hq hd
    walk_at "mir"
   ·obtain⟨p1,p2⟩:=NX k1 [.inl (g:Int),.inl (r:Int)] (fC (mx (fl pre g r) (some t)))
    refine⟨_,_,rfl,p1,by rw[aW,cL];omega,λg' r'=>?_⟩
    rw[R3 k1]
    have hf:fl (pre++[(g,r,t)]) g' r'=if g=g'/\r=r' then mx (fl pre g' r') (some t)else fl pre g' r':=by
     unfold fl
     rw[List.filter_append,kG]
     by_cases hc:g=g'/\r=r'
     ·rw[if_pos hc];simp[hc]
     ·rw[if_neg hc]
      have:([(g,r,t)]:List Fl).filter (λq=>decide (q.1=g'/\q.2.1=r'))=[]:=by
       rw[List.filter_eq_nil_iff]
       intro q hq
       rw[ax]at hq
       subst hq
       simpa using hc
      rw[this];rfl
    rw[hf]
    by_cases hc:g=g'/\r=r'
    ·obtain⟨rfl,rfl⟩:=hc
     rw[if_pos rfl,if_pos ⟨rfl,rfl⟩,zu8]
    ·rw[if_neg hc,if_neg ?_]
     ·exact k3 g' r'
     ·intro z
      simp at z
      exact hc ⟨by omega,by omega⟩)
 have:pre=fs:=by
  have hi:∀(a b:List Fl),a.map jO=b.map jO->a=b:=by
   intro a
   induction a with
   |nil=>intro b h;cases b with|nil=>rfl|cons _ _=>cases h
   |cons x a ih=>
    intro b h
    cases b with
    |nil=>cases h
    |cons y b=>
     simp only[aM,List.cons.injEq]at h
     obtain⟨h1,h2⟩:=h
     rw[ih b h2]
     obtain⟨x1,x2,x3⟩:=x
     obtain⟨y1,y2,y3⟩:=y
     simp[jO]at h1
     obtain⟨e1,e2,e3⟩:=h1
     have e1:x1=y1:=by omega
     have e2:x2=y2:=by omega
     rw[e1,e2,e3]
  exact(hi _ _ e1).symm
 subst this
 refine⟨d,?_,?_⟩
 ·unfold xx
  walk_at "mir"
 ·obtain⟨ks,ds,a,b,c,f⟩:=hd.is
  exact⟨ks,ds,a,b,by omega,f⟩
def gd (n:Nat)(f:Nat->T):List D:=(aE n).map λg=>fC (f g)
def bZ (n m:Nat)(Y:Nat->Nat->T):List D:=(aE m).map λi=>D.lst (gd n (Y i))
theorem zpd (n:Nat)(f:Nat->T):(gd n f).length=n:=by simp[gd]
theorem Jd (n m:Nat)(Y:Nat->Nat->T):(bZ n m Y).length=m:=by simp[bZ]
theorem zsr {n:Nat}(f:Nat->T){g:Nat}(h:g<n):atI (gd n f) (g:Int)=some (fC (f g)):=ue (by simp[gd,h])
theorem qf {n:Nat}{f f':Nat->T}(h:∀g,g<n->f g=f' g):gd n f=gd n f':=by
 unfold gd
 apply eo
 intro g hg
 rw[h g (bv.mp hg)]
theorem Z4 {n m:Nat}{Y Y':Nat->Nat->T}(h:∀i,i<m->∀g,g<n->Y i g=Y' i g):bZ n m Y=bZ n m Y':=by
 unfold bZ
 apply eo
 intro i hi
 rw[qf (h i (bv.mp hi))]
theorem zpe {n:Nat}(f:Nat->T){g:Nat}(h:g<n)(v:T):ky (gd n f) (g:Int) (fC v)=some (gd n λx=>if x=g then v else f x):=by
 unfold ky
 have hx:ixN (gd n f).length (g:Int)=some g:=by rw[zpd];exact SO h
 rw[hx]
 simp only[cB,Option.some.injEq]
 apply e6
 ·simp[gd]
 ·intro i h1 h2
  simp[gd,lI]
  by_cases hi:g=i
  ·subst hi;simp
  ·rw[if_neg hi,if_neg (λz=>hi z.symm)]
def dep (as:List ck):Nat:=as.foldl (λm a=>max m a.b) 1
theorem Jp:∀(as:List ck) (m:Nat),m<=as.foldl (λm a=>max m a.b) m/\(∀a∈as,a.b<=as.foldl (λm a=>max m a.b) m)/\((∀a∈as,a.b<=4)->m<=4->as.foldl (λm a=>max m a.b) m<=4)
 |[],m=>⟨aF _,λa h=>(by cases h),λ_ h=>h⟩
 |x::as,m=>by
  obtain⟨h1,h2,h3⟩:=Jp as (max m x.b)
  refine⟨by show m<=as.foldl _ (max m x.b);omega,λa ha=>?_,λh4 hm=>h3 (λa ha=>h4 a (ah _ ha)) (by have:=h4 x aa;omega)⟩
  show a.b<=as.foldl _ (max m x.b)
  rcases aC.mp ha with rfl|ha
  ·omega
  ·exact h2 a ha
theorem zss (as:List ck):1<=dep as:=(Jp as 1).1
theorem JV {as:List ck}{a:ck}(h:a∈as):a.b<=dep as:=(Jp as 1).2.1 a h
theorem JW {as:List ck}(h:∀a∈as,a.b<=4):dep as<=4:=(Jp as 1).2.2 h (by decide)
theorem R4 {α:Type}(f:α->Int):∀xs:List α,eO (xs.map λx=>D.int (f x))=some (xs.map f)
 |[]=>rfl
 |x::xs=>by
  show(eO (xs.map λx=>D.int (f x))).bind _=_
  rw[R4 f xs];rfl
theorem Sq:∀(as:List ck) (m:Nat),(as.map λa=>(a.b:Int)).foldl max (m:Int)=((as.foldl (λm a=>max m a.b) m:Nat):Int)
 |[],m=>rfl
 |x::as,m=>by
  show(as.map λa=>(a.b:Int)).foldl max (max (m:Int) (x.b:Int))=_
  rw[show max (m:Int) (x.b:Int)=((max m x.b:Nat):Int)by omega,Sq as]
  rfl
theorem BK (ns:List D)(as:List ck):cw [4] "names" (bu ns as)=some (.lst ns):=rfl
theorem Hu (ns:List D)(as:List ck):cw [4] "arrows" (bu ns as)=some (.lst (as.map bH)):=rfl
theorem zu9 {ns:List D}{as:List ck}(hl:as.length<=1000):zk [bu ns as]=some (.int (dep as:Int)):=by
 have q:∀r:L3.Env,r[0]?.join=some (bu ns as)->uf r=some (.lst (as.map λa=>D.int (a.b:Int))):=λr hr=>by
  have e:lsD (e1 (cw [4] "arrows") (eV 0)) r=some (as.map bH):=by
   have:eV 0 r=some (bu ns as):=hr
   unfold lsD e1
   rw[this];rfl
  exact wx bH (λa=>D.int (a.b:Int)) as e (by omega) λa _=>⟨_,rfl,by have:=fb a;walk_at "mir"⟩
 have m1:tD [.lst ([.int 1]++as.map λa=>D.int (a.b:Int))]=some (.int (dep as:Int)):=by
  unfold tD
  dsimp only
  have:eO ([.int 1]++as.map λa=>D.int (a.b:Int))=some (1::as.map λa=>(a.b:Int)):=by
   show(eO (as.map λa=>D.int (a.b:Int))).bind _=_
   rw[R4];rfl
  rw[this]
  show some (D.int ((as.map λa=>(a.b:Int)).foldl max ((1:Nat):Int)))=_
  rw[Sq];rfl
 have m2:eG (.lst [.int 1]) (.lst (as.map λa=>D.int (a.b:Int)))=some (.lst ([.int 1]++as.map λa=>D.int (a.b:Int))):=RU (by simp;omega)
 generalize [D.int 1]++as.map (λa=>D.int (a.b:Int))=zs at m1 m2
 unfold zk
 clear hl
 walk_at "mir"
theorem JG {m:aR}{f:List D->Option D}{ns:List D}{as:List ck}{ds:List D}(h:(["names","arrows"]:List aR).contains m=false):iq 4 m f (bu ns as) ds=f (bu ns as::ds):=by
 show(if 4=4/\(["names","arrows"]:List aR).contains m=false then f (bu ns as::ds)else none)=_
 rw[if_pos ⟨rfl,h⟩]
theorem Jq {ns:List D}{as:List ck}(hl:as.length<=1000):iq 4 "most_behind" zk (bu ns as) []=some (.int (dep as:Int)):=by
 rw[JG (by decide +kernel)]
 exact zu9 hl
def into (as:List ck)(g:Nat):List Nat:=(as.zipIdx.filter λp=>decide (p.1.g=g)).map (·.2)
theorem Ti {ns:List D}{as:List ck}(hl:as.length<=1000)(g:Nat):u4 [bu ns as,.int (g:Int)]=some (.lst (ap (into as g))):=by
 have q:∀r:L3.Env,r[0]?.join=some (bu ns as)->r[1]?.join=some (.int (g:Int))->M4 r=some (.lst (ap (into as g))):=λr hr VY=>by
  have e:(λρ=>((aCons (e1 (cw [4] "arrows") (eV 0)) aNil) ρ).bind λds=>match ds with|[.lst xs]=>some (eu 0 xs)|_=>none) r=some (as.zipIdx.map λp=>D.tup [.int (p.2:Int),bH p.1]):=by
   have:eV 0 r=some (bu ns as):=hr
   have e2:e1 (cw [4] "arrows") (eV 0) r=some (.lst (as.map bH)):=by unfold e1;rw[this];rfl
   show((aCons (e1 (cw [4] "arrows") (eV 0)) aNil) r).bind _=_
   unfold aCons
   rw[e2]
   show some (eu 0 (as.map bH))=_
   rw[Jo bH]
  have hc:dE r [1]=[some (.int (g:Int))]:=by unfold dE;simp[VY]
  have:=BR (own:=2) (cap:=[1]) (fi:=λρ=>((aCons (e1 (cw [4] "arrows") (eV 0)) aNil) ρ).bind λds=>match ds with|[.lst xs]=>some (eu 0 xs)|_=>none) (g:=gT (gsCons (gV 0) (gsCons (gV 1) gsNil))) (p:=tb (e2 (lD false) (e1 (cw [0,1,2,3] "goal") (eV 1)) (eV 2))) (f:=eV 0) (λp:ck×Nat=>D.tup [.int (p.2:Int),bH p.1]) (λp=>decide (p.1.g=g)) (λp=>D.int (p.2:Int)) as.zipIdx e (by simp;omega) (λp _=>by
    refine⟨_,rfl,?_,λ_=>rfl⟩
    rw[hc]
    have:=fg p.1
    have hd:decide ((p.1.g:Int)=(g:Int))=decide (p.1.g=g):=by
     by_cases h:p.1.g=g
     ·simp[h]
     ·have:¬(p.1.g:Int)=(g:Int):=by omega
      simp[h,this]
    rw[←hd]
    walk_at "mir")
  rw[show M4 r=_ from this]
  unfold into ap
  rw[cv]
  rfl
 unfold u4
 clear hl
 walk_at "mir"
def tm (as:List ck)(Y:Nat->Nat->T)(L g:Nat)(w:T):T:=(as.filter λa=>decide (a.g=g)).foldl (λw a=>mx w (lt a.t (Y (L-a.b) a.s))) w
theorem zpf {xs:List D}{n b:Nat}(hn:xs.length=n+1)(hb:b<=n):atI xs (-1-(b:Int))=xs[n-b]?:=by
 unfold atI
 have:ixN xs.length (-1-(b:Int))=some (n-b):=by
  unfold ixN
  rw[if_neg (by omega),if_pos (by omega)]
  congr 1
  omega
 rw[this];rfl
def IU (Y:Nat->Nat->T)(L:Nat)(s:T×Option D×Option D)(p:ck×Nat):T×Option D×Option D:=(mx s.1 (lt p.1.t (Y (L-p.1.b) p.1.s)),some (D.int (p.2:Int)),some (bH p.1))
theorem zva {ns:List D}{as:List ck}{many L:Nat}{Y:Nat->Nat->T}(hb:∀a∈as,a.b<=L/\a.s<many)(g:Nat)(w:T) :
  vp [bu ns as,.lst (bZ many (L+1) Y),.lst (ap (into as g)),fC w]=some (fC (tm as Y L g w)):=by
 have xC:∀p∈as.zipIdx.filter (λp=>decide (p.1.g=g)),p∈as.zipIdx:=λp hp=>(bc.mp hp).1
 have hz:=Nf (λa:ck=>decide (a.g=g)) as 0
 have hn:ap (into as g)=(as.zipIdx.filter (λp=>decide (p.1.g=g))).map λp=>D.int (p.2:Int):=by unfold into ap;rw[cv];rfl
 generalize hq:as.zipIdx.filter (λp=>decide (p.1.g=g))=ps at xC hn hz
 obtain⟨e1,_⟩:=Ng (g:=gV 5) (b:=v5) (λp:ck×Nat=>D.int (p.2:Int)) (λs:T×Option D×Option D=>[some (bu ns as),some (.lst (bZ many (L+1) Y)),some (.lst (ap (into as g))),some (fC w),some (fC s.1),s.2.1,s.2.2])
  (IU Y L) (λ_=>True) ps (w,none,none) trivial (λs p hp _=>by
   refine⟨_,rfl,.inl ?_,trivial⟩
   unfold IU
   have hp:=Ob (xC p hp)
   have hm:p.1∈as:=bW.mpr ⟨_,hp⟩
   have f1:=fs p.1
   have f2:=ft p.1
   have f3:=fb p.1
   have f4:=Hu ns as
   have i1:cP (.lst (as.map bH)) (.int (p.2:Int))=some (bH p.1):=ue (by rw[aQ,hp];rfl)
   have i2:cP (.lst (bZ many (L+1) Y)) (.int (-1-(p.1.b:Int)))=some (.lst (gd many (Y (L-p.1.b)))):=by
    show atI _ _=_
    rw[zpf (n:=L) (by rw[Jd]) (hb p.1 hm).1]
    unfold bZ
    rw[aQ,el (by omega)]
    rfl
   have i3:cP (.lst (gd many (Y (L-p.1.b)))) (.int (p.1.s:Int))=some (fC (Y (L-p.1.b) p.1.s)):=zsr _ (hb p.1 hm).2
   have l1:=zsp (Y (L-p.1.b) p.1.s) p.1.t
   have l2:=R1 s.1 (lt p.1.t (Y (L-p.1.b) p.1.s))
   unfold v5
   clear hp hm hb hn hz xC hq
   walk_at "mir")
 have e2:∀(ps:List (ck×Nat)) (s:T×Option D×Option D),(ps.foldl (IU Y L) s).1=(ps.map (·.1)).foldl (λw a=>mx w (lt a.t (Y (L-a.b) a.s))) s.1:=by
  intro ps
  induction ps with
  |nil=>exactλs=>rfl
  |cons p ps ih=>intro s;rw[fD,ih];rfl
 have e3:=e2 ps (w,none,none)
 rw[hz]at e3
 generalize ps.foldl (IU Y L) (w,none,none)=S at e1 e3
 have e4:S.1=tm as Y L g w:=e3
 rw[e4,←hn]at e1
 unfold vp
 clear hn hz xC hq e2 e3 e4 hb
 walk_at "mir"
def wr (Y:Nat->Nat->T)(L:Nat)(Z:Nat->T):Nat->Nat->T:=λi g=>if i=L then Z g else Y i g
theorem R5 {as:List ck}{Y Y':Nat->Nat->T}{L g:Nat}(w:T)(h:∀a∈as,a.g=g->Y (L-a.b) a.s=Y' (L-a.b) a.s):tm as Y L g w=tm as Y' L g w:=by
 unfold tm
 have h2:∀a∈as.filter (λa=>decide (a.g=g)),Y (L-a.b) a.s=Y' (L-a.b) a.s:=λa ha=>by
  have:=bc.mp ha
  exact h a this.1 (by simpa using this.2)
 generalize as.filter (λa=>decide (a.g=g))=bs at h2
 induction bs generalizing w with
 |nil=>rfl
 |cons b bs ih=>
  rw[fD,fD,h2 b aa]
  exact ih _ λa ha=>h2 a (ah _ ha)
theorem zpg {many L x:Nat}{Y:Nat->Nat->T}(hx:x<many)(v:T):(bZ many (L+1) Y).set L (.lst (gd many λy=>if y=x then v else Y L y))=bZ many (L+1) (wr Y L λy=>if y=x then v else Y L y):=by
 apply e6
 ·simp[bZ]
 ·intro i h1 h2
  have hi:i<L+1:=by simpa[bZ]using h2
  rw[lI]
  by_cases hL:L=i
  ·subst hL
   rw[if_pos rfl]
   simp only[bZ,iF,fH]
   congr 1
   exact qf λg _=>by simp[wr]
  ·rw[if_neg hL]
   have:¬i=L:=λz=>hL z.symm
   simp only[bZ,iF,fH]
   congr 1
   exact qf λg _=>by simp[wr,this]
theorem zwa {ns:List D}{as:List ck}{many L r depth rounds:Nat}{Y:Nat->Nat->T}{f:Nat->Nat->T}{d:D}{n:Nat}{jC oy x9 x10:Option D}{p:List Nat}(hd:jR d n f)(hb:∀a∈as,a.b<=L/\a.s<many)(ok:Kahn.Ok (W0 as) many p)(hn:ns.length=many)(hm:many<=1000)
  (aI:D) (mG:∀g,g<many->cP aI (.int (g:Int))=some (.lst (ap (into as g)))) :
  ∃(Z:Nat->T) (y9 nj:Option D),fP (gV 9) vq (ap p) [some (bu ns as),some (.int (rounds:Int)),jC,oy,some (.lst (bZ many (L+1) Y)),some d,some aI,some (.lst (ap p)),some (.int (r:Int)),x9,x10] =
   some (.nx [some (bu ns as),some (.int (rounds:Int)),jC,oy,some (.lst (bZ many (L+1) (wr Y L Z))),some d,some aI,some (.lst (ap p)),some (.int (r:Int)),y9,nj])/\∀g∈p,Z g=tm as (wr Y L Z) L g (f g r):=by
 obtain⟨ρ',h1,pre,Z,y9,nj,e1,⟨post,e2⟩,hZ,rfl⟩:=Jj (g:=gV 9) (b:=vq) (ds:=ap p) (ρ:=[some (bu ns as),some (.int (rounds:Int)),jC,oy,some (.lst (bZ many (L+1) Y)),some d,some aI,some (.lst (ap p)),some (.int (r:Int)),x9,x10])
  (λds ρ=>∃(pre:List Nat) (Z:Nat->T) (y9 nj:Option D),ds=ap pre/\(∃post,p=pre++post)/\(∀g∈pre,Z g=tm as (wr Y L Z) L g (f g r))/\ρ=[some (bu ns as),some (.int (rounds:Int)),jC,oy,some (.lst (bZ many (L+1) (wr Y L Z))),some d,some aI,some (.lst (ap p)),some (.int (r:Int)),y9,nj])
  ⟨[],Y L,x9,x10,rfl,⟨p,rfl⟩,λg hg=>(by cases hg),by
   have:wr Y L (Y L)=Y:=by
    funext i g
    unfold wr
    by_cases h:i=L
    ·rw[if_pos h,h]
    ·rw[if_neg h]
   rw[this]⟩ (by
  rintro ds dd post ρ e ⟨pre,Z,y9,nj,rfl,⟨jB,e'⟩,hZ,rfl⟩
  have e3:ap jB=dd::post:=by
   have:ap p=ap pre++ap jB:=by rw[e'];simp[ap]
   rw[this]at e
   exact og e
  cases jB with
  |nil=>cases e3
  |cons x jB=>
   have uW:dd=.int (x:Int):=by
    have:ap (x::jB)=.int (x:Int)::ap jB:=rfl
    rw[this]at e3
    cases e3
    rfl
   subst uW
   have hx:x∈p:=by rw[e'];simp
   have Ma:=ok.lt x hx
   have rF:p[pre.length]?=some x:=by rw[e'];simp
   have sW:∀a∈as,a.b=0->a.g=x->a.s∈pre:=λa ha h0 hg=>by
    have:=ok.ord pre.length x rF a (bc.mpr ⟨ha,by simpa using h0⟩) hg
    rw[e',tS]at this
    ·exact this
    ·rfl
   have IC:x∉pre:=λz=>by
    have:=ok.nd
    rw[e',bj]at this
    exact this.2.2 x z x aa rfl
   have sS:∀g∈pre,∀a∈as,a.b=0->a.g=g->a.s≠x:=λg hg a ha h0 iQ z=>by
    obtain⟨i,hi,ei⟩:=dm.mp hg
    have As:p[i]?=some g:=by rw[e',cu hi];simp[hi,ei]
    have:=ok.ord i g As a (bc.mpr ⟨ha,by simpa using h0⟩) iQ
    rw[e',gC (by omega)]at this
    exact IC (z▸jI this)
   have VI:=hd.get x r
   have VT:=mG x Ma
   have EZ:=zva (ns:=ns) (Y:=wr Y L Z) hb x (f x r)
   have key:∀g,(∀a∈as,a.g=g->a.b=0->a.s≠x)->∀(v w:T),tm as (wr Y L λy=>if y=x then v else Z y) L g w=tm as (wr Y L Z) L g w:=λg hg v w=>by
    refine R5 w λa ha iQ=>?_
    unfold wr
    by_cases hL:L-a.b=L
    ·rw[if_pos hL,if_pos hL]
     dsimp only
     rw[if_neg ?_]
     by_cases h0:a.b=0
     ·exact hg a ha iQ h0
     ·have:=(hb a ha).1
      omega
    ·rw[if_neg hL,if_neg hL]
   generalize hv:tm as (wr Y L Z) L x (f x r)=v at EZ
   refine⟨_,_,rfl,.inl ?_,pre++[x],λy=>if y=x then v else Z y,some (.int (x:Int)),some (fC (f x r)),(Nw pre x).symm▸rfl,⟨jB,by rw[e'];simp⟩,?_,rfl⟩
   ·have xD:=zpg (many:=many) (L:=L) (x:=x) (Y:=wr Y L Z) Ma v
    have hY:(wr (wr Y L Z) L λy=>if y=x then v else wr Y L Z L y)=wr Y L λy=>if y=x then v else Z y:=by
     funext i g
     unfold wr
     by_cases h:i=L<;>simp[h]
    have V0:ky (gd many (wr Y L Z L)) (x:Int) (fC v)=some (gd many λy=>if y=x then v else wr Y L Z L y):=zpe _ Ma v
    rw[hY]at xD
    have VJ:ixN (bZ many (L+1) (wr Y L Z)).length (-1)=some L:=by
     rw[Jd]
     unfold ixN
     rw[if_neg (by omega),if_pos (by omega)]
     congr 1
     omega
    have L4:(bZ many (L+1) (wr Y L Z))[L]?=some (.lst (gd many (wr Y L Z L))):=by
     unfold bZ
     rw[aQ,el (by omega)]
     rfl
    unfold vq p5
    clear key sS sW IC rF hx hv e e' e3 hZ ok hb hd mG
    walk_at "mir"
   ·intro g hg
    rcases aZ.mp hg with hg|hg
    ·have kr:g≠x:=λz=>IC (z▸hg)
     dsimp only
     rw[if_neg kr,key g (λa ha iQ h0=>sS g hg a ha h0 iQ)]
     exact hZ g hg
    ·rw[ax]at hg
     subst hg
     dsimp only
     rw[if_pos rfl,key g (λa ha iQ h0 z=>IC (z▸sW a ha h0 iQ)),hv])
 have rG:pre=p:=by
  have hl:=congrArg jH e1
  simp[ap]at hl
  rw[e2,aW]at hl
  have:post=[]:=gA (by omega)
  rw[e2,this,cn]
 subst rG
 exact⟨Z,y9,nj,h1,hZ⟩
structure Run (as:List ck)(many depth rounds:Nat)(past:Nat->Nat->T)(f:Nat->Nat->T)(Y:Nat->Nat->T):Prop where
 past:∀i,i<depth->∀g,g<many->Y i g=past i g
 rc:∀r,r<rounds->∀g,g<many->Y (depth+r) g=tm as Y (depth+r) g (f g r)
theorem zm1 {many m:Nat}(Y:Nat->Nat->T)(Z:Nat->T):bZ many m Y++[D.lst (gd many Z)]=bZ many (m+1) (wr Y m Z):=by
 unfold bZ
 rw[List.range_succ,cZ]
 congr 1
 ·apply eo
  intro i hi
  have:i≠m:=by have:=bv.mp hi;omega
  congr 1
  exact qf λg _=>by simp[wr,this]
 ·simp only[aM,kI]
  congr 2
  exact qf λg _=>by simp[wr]
theorem zm2 {ns:List D}{as:List ck}{many:Nat}(h:iP many as)(hn:ns.length=many):∃p:List Nat,iq 4 "order" qv (bu ns as) []=some (.lst (ap p))/\Kahn.Ok (W0 as) many p/\p.length=many/\∀g,g<many->g∈p:=by
 obtain⟨p,h1,h2⟩:=h.placed
 refine⟨p,?_,h2⟩
 rw[JG (by decide +kernel)]
 have f1:=BK ns as
 have f2:=Hu ns as
 rw[←hn]at h1
 unfold qv
 clear hn h h2
 walk_at "mir"
theorem zm3 {ns:List D}{as:List ck}{many:Nat}(hl:as.length<=1000)(hn:ns.length=many)(hm:many<=1000)(r:L3.Env)(hr:r[0]?.join=some (bu ns as)):jz r=some (.lst ((aE many).map λg=>D.lst (ap (into as g)))):=by
 have e:eN dZ (aCons (e1 (cw [4] "names") (eV 0)) aNil) r=some (.int (many:Int)):=by
  have:eV 0 r=some (bu ns as):=hr
  have f1:=BK ns as
  subst hn
  have e2:e1 (cw [4] "names") (eV 0) r=some (.lst ns):=by unfold e1;rw[this];exact f1
  unfold eN aCons
  rw[e2];rfl
 refine wx (λ(t:Nat)=>D.int (t:Int)) (λg=>D.lst (ap (into as g))) (aE many) (uE e (by omega)) (by rw[aY];omega) λg _=>⟨_,rfl,?_⟩
 have hc:dE r [0]=[some (bu ns as)]:=by unfold dE;simp[hr]
 rw[hc]
 have h1:=Ti (ns:=ns) hl g
 have h2:iq 4 "into" u4 (bu ns as) [.int (g:Int)]=some (.lst (ap (into as g))):=by rw[JG (by decide +kernel)];exact h1
 clear hn hl hm e
 walk_at "mir"
theorem zvb {ns:List D}{as:List ck}{many rounds:Nat}{d0 jC oy d:D}{past:Nat->Nat->T}{f:Nat->Nat->T}{n:Nat}(h:iP many as)(hn:ns.length=many)(hr:rounds<=1000)(ha:vc [bu ns as,jC]=some (.lst (bZ many (dep as) past)))
  (hf:(oy=.non/\xx [.lst []]=some d)\/∃ds,oy=.lst ds/\xx [.lst ds]=some d) (hd:jR d n f) :
  ∃Y,ud [bu ns as,.int (rounds:Int),jC,oy]=some (.lst (bZ many (dep as+rounds) Y))/\Run as many (dep as) rounds past f Y:=by
 obtain⟨p,hp,ok,iy,oV⟩:=zm2 h hn
 have d9:=h.len
 have mE:=h.le
 have nh:=JW λa ha=>(h.right a ha).b
 have aI:=zm3 (ns:=ns) (as:=as) (many:=many) (by omega) hn (by omega)
 have mG:∀g,g<many->cP (.lst ((aE many).map λg=>D.lst (ap (into as g)))) (.int (g:Int))=some (.lst (ap (into as g))):=λg hg=>ue (by simp[hg])
 generalize (D.lst ((aE many).map λg=>D.lst (ap (into as g))))=N at aI mG
 obtain⟨ρ',h1,Y,y8,y9,nj,rfl,run⟩:=zev (g:=gV 8) (b:=ut) (lo:=0) (n:=rounds) (ρ:=[some (bu ns as),some (.int (rounds:Int)),some jC,some oy,some (.lst (bZ many (dep as) past)),some d,some N,some (.lst (ap p)),none,none,none])
  (λr ρ=>∃Y y8 y9 nj,ρ=[some (bu ns as),some (.int (rounds:Int)),some jC,some oy,some (.lst (bZ many (dep as+r) Y)),some d,some N,some (.lst (ap p)),y8,y9,nj]/\Run as many (dep as) r past f Y)
  ⟨past,none,none,none,rfl,λ_ _ _ _=>rfl,λr hr=>by omega⟩ (by
   rintro r ρ IF ⟨Y,y8,y9,nj,rfl,run⟩
   obtain⟨Z,z9,z10,hz,hZ⟩:=zwa (ns:=ns) (as:=as) (many:=many) (L:=dep as+r) (r:=r) (depth:=0) (rounds:=rounds) (Y:=wr Y (dep as+r) λ_=>none) (jC:=some jC) (oy:=some oy) (x9:=y9) (x10:=nj) (p:=p) hd (λa ha=>⟨by have:=JV ha;omega,(h.right a ha).s⟩) ok hn (by omega) N mG
   have hw:wr (wr Y (dep as+r) λ_=>none) (dep as+r) Z=wr Y (dep as+r) Z:=by
    funext i g
    unfold wr
    by_cases hi:i=dep as+r<;>simp[hi]
   rw[hw]at hz hZ
   refine⟨_,_,rfl,.inl ?_,wr Y (dep as+r) Z,some (.int (r:Int)),z9,z10,rfl,?_,?_⟩
   ·have e0:(0:Int)+(r:Int)=(r:Int):=by omega
    have rp:kS (.lst [.non]) (.int (ns.length:Int))=some (.lst (gd many λ_=>none)):=by
     unfold kS
     dsimp only
     rw[if_pos ⟨by omega,by omega,by simp⟩]
     congr 2
     unfold gd
     rw[iY,aY]
     simp[hn,fC]
    have qI:(bZ many (dep as+r) Y).length<16777216:=by rw[Jd];omega
    have EW:=zm1 (many:=many) (m:=dep as+r) Y λ_=>none
    have f1:=BK ns as
    rw[e0]
    unfold ut
    clear hZ hw mG aI run oV ok hp h hn ha hf hd d9 mE nh hr IF
    walk_at "mir"
    rfl
   ·intro i hi g hg
    unfold wr
    rw[if_neg (by omega)]
    exact run.past i hi g hg
   ·intro r2 Aw g hg
    by_cases he:r2=r
    ·subst he
     have:wr Y (dep as+r2) Z (dep as+r2) g=Z g:=by simp[wr]
     rw[this]
     exact hZ g (oV g hg)
    ·have h3:wr Y (dep as+r) Z (dep as+r2) g=Y (dep as+r2) g:=by unfold wr;rw[if_neg (by omega)]
     rw[h3,run.rc r2 (by omega) g hg]
     refine R5 _ λa _ _=>?_
     unfold wr
     rw[if_neg (by omega)])
 refine⟨Y,?_,run⟩
 have r1:gE [.int (rounds:Int)]=some (eY 0 rounds):=by
  rw[BD (by omega) (by omega)]
  simp
 have P1:=aI [some (bu ns as),some (.int (rounds:Int)),some jC,some oy,some (.lst (bZ many (dep as) past)),some d,none,none,none,none,none] rfl
 unfold ud
 clear hd aI mG run oV ok h hn d9 mE nh hr iy
 rcases hf with⟨rfl,hf⟩|⟨ds,rfl,hf⟩
 ·walk_at "mir"
 ·walk_at "mir"
theorem zm4 {many k n:Nat}(Y:Nat->Nat->T)(h:n<=k):(bZ many k Y).take n=bZ many n Y:=by
 unfold bZ
 rw[←List.map_take,List.take_range,mQ h]
theorem zm5 {many k n:Nat}(Y:Nat->Nat->T):(bZ many (n+k) Y).drop n=bZ many k λr g=>Y (n+r) g:=by
 apply e6
 ·simp[bZ]
 ·intro i h1 h2
  simp only[bZ,List.getElem_drop,iF,fH]
theorem zph {many n:Nat}(Y:Nat->Nat->T):(bZ many n Y).reverse=bZ many n λi g=>Y (n-1-i) g:=by
 apply e6
 ·simp[bZ]
 ·intro i h1 h2
  simp only[bZ,List.getElem_reverse,iF,fH,ay,aY]
theorem ZX {ns:List D}{as:List ck}{many:Nat}(h:iP many as)(hn:ns.length=many):vc [bu ns as,.non]=some (.lst (bZ many (dep as) λ_ _=>some 0)):=by
 have d9:=h.len
 have mE:=h.le
 have nh:=JW λa ha=>(h.right a ha).b
 have mo:=Jq (ns:=ns) (as:=as) (by omega)
 have q:∀r:L3.Env,r[0]?.join=some (bu ns as)->r[2]?.join=some (.int (dep as:Int))->Qx r=some (.lst (bZ many (dep as) λ_ _=>some 0)):=λr h0 h2=>by
  refine wx (λ(t:Nat)=>D.int (t:Int)) (λ_=>D.lst (gd many λ_=>some 0)) (aE (dep as)) (uE h2 (by omega)) (by rw[aY];omega) λg _=>⟨_,rfl,?_⟩
  have hc:dE r [0]=[some (bu ns as)]:=by unfold dE;simp[h0]
  rw[hc]
  have rp:kS (.lst [.int 0]) (.int (ns.length:Int))=some (.lst (gd many λ_=>some 0)):=by
   unfold kS
   dsimp only
   rw[if_pos ⟨by omega,by omega,by simp⟩]
   congr 2
   unfold gd
   rw[iY,aY]
   simp[hn,fC]
  have f1:=BK ns as
  clear hn h d9 mE nh mo
  walk_at "mir"
 unfold vc
 clear h hn d9 mE nh
 walk_at "mir"
theorem Z5 {ns:List D}{as:List ck}{many k:Nat}{w:Nat->Nat->T}(h:iP many as)(hk:dep as<=k):vc [bu ns as,.lst (bZ many k w)]=some (.lst (bZ many (dep as) λi g=>w (dep as-1-i) g)):=by
 have d9:=h.len
 have nh:=JW λa ha=>(h.right a ha).b
 have mo:=Jq (ns:=ns) (as:=as) (by omega)
 have q:∀r:L3.Env,r[1]?.join=some (.lst (bZ many k w))->r[2]?.join=some (.int (dep as:Int))->Qw r=some (.lst (bZ many (dep as) λi g=>w (dep as-1-i) g)):=λr h1 h2=>by
  refine wx (λ(i:Nat)=>D.lst (gd many λg=>w (dep as-1-i) g)) (λ(i:Nat)=>D.lst (gd many λg=>w (dep as-1-i) g)) (aE (dep as)) ?_ (by rw[aY];omega) λg _=>⟨_,rfl,rfl⟩
  have e1:eV 1 r=some (.lst (bZ many k w)):=h1
  have e2:pInt (eV 2) r=some (some (dep as:Int)):=by unfold pInt;have:eV 2 r=some (.int (dep as:Int)):=h2;rw[this];rfl
  have e3:iN (.lst (bZ many k w)) none (some (dep as:Int))=some (.lst (bZ many (dep as) w)):=by
   rw[za7,zl6 _ (dep as),zm4 w hk]
  have e4:(λρ=>((eV 1) ρ).bind λd=>(pNo ρ).bind λl=>((pInt (eV 2)) ρ).bind λh=>iN d l h) r=some (.lst (bZ many (dep as) w)):=by
   show((eV 1) r).bind _=_
   rw[e1]
   show((pInt (eV 2)) r).bind _=_
   rw[e2]
   exact e3
  show((lsD _) r).bind _=_
  unfold lsD
  rw[e4]
  show some (bZ many (dep as) w).reverse=_
  rw[zph]
  rfl
 unfold vc
 clear h d9 nh hk
 walk_at "mir"
inductive sL (as:List ck)(many:Nat):D->(Nat->Nat->T)->Prop
 |no:sL as many .non λ_ _=>some 0
 |some (k:Nat) (w:Nat->Nat->T) (hk:dep as<=k):sL as many (.lst (bZ many k w)) λi g=>w (dep as-1-i) g
inductive yB:D->(Nat->Nat->T)->Prop
 |no:yB .non λ_ _=>none
 |some (fs:List Fl) (h:fs.length<=1000):yB (.lst (fs.map jO)) (fl fs)
theorem zwb {ns:List D}{as:List ck}{many rounds:Nat}{jC oy:D}{past:Nat->Nat->T}{f:Nat->Nat->T}(h:iP many as)(hn:ns.length=many)(hr:rounds<=1000)(hw:sL as many jC past)(hf:yB oy f) :
  ∃Y,HR [bu ns as,.int (rounds:Int),jC,oy]=some (.lst (bZ many rounds λr g=>Y (dep as+r) g))/\Run as many (dep as) rounds past f Y:=by
 have ha:vc [bu ns as,jC]=some (.lst (bZ many (dep as) past)):=by
  cases hw with
  |no=>exact ZX h hn
  |some k w hk=>exact Z5 h hk
 obtain⟨d,Et,hd2⟩:∃d,((oy=.non/\xx [.lst []]=some d)\/∃ds,oy=.lst ds/\xx [.lst ds]=some d)/\jR d 1000 f:=by
  cases hf with
  |no=>
   obtain⟨d,h1,h2⟩:=Th [] (by simp)
   exact⟨d,.inl ⟨rfl,h1⟩,h2⟩
  |some fs hl=>
   obtain⟨d,h1,h2⟩:=Th fs hl
   exact⟨d,.inr ⟨_,rfl,h1⟩,h2⟩
 obtain⟨Y,h1,h2⟩:=zvb (d0:=.non) h hn hr ha Et hd2
 refine⟨Y,?_,h2⟩
 have mo:=Jq (ns:=ns) (as:=as) (by have:=h.len;omega)
 have e3:iN (.lst (bZ many (dep as+rounds) Y)) (some (dep as:Int)) none=some (.lst (bZ many rounds λr g=>Y (dep as+r) g)):=by
  rw[za7,Q8 _ (dep as),zm5]
 unfold HR
 clear h hn hr hw hf ha Et hd2 h2
 walk_at "mir"
def ge (x:T)(v:Int):Prop:=∃y,x=some y/\v<=y
theorem Tj {a:T}(b:T){v:Int}(h:ge a v):ge (mx a b) v:=by
 obtain⟨y,rfl,hy⟩:=h
 cases b with
 |none=>exact⟨y,rfl,hy⟩
 |some j=>exact⟨_,rfl,by split<;>omega⟩
theorem zvc (a:T){b:T}{v:Int}(h:ge b v):ge (mx a b) v:=by rw[zsq];exact Tj a h
theorem Sr {α:Type}(F:α->T){v:Int}:∀(xs:List α) (w:T),(ge w v\/∃a∈xs,ge (F a) v)->ge (xs.foldl (λw a=>mx w (F a)) w) v
 |[],w,h=>by
  rcases h with h|⟨a,ha,_⟩
  ·exact h
  ·cases ha
 |x::xs,w,h=>by
  refine Sr F xs _ ?_
  rcases h with h|⟨a,ha,h⟩
  ·exact .inl (Tj _ h)
  ·rcases aC.mp ha with rfl|ha
   ·exact .inl (zvc _ h)
   ·exact .inr ⟨a,ha,h⟩
theorem HH {g:D->L3.Env->Option L3.Env}{b:SF}(I:L3.Env->Prop)(R:D->Prop):∀(ds:List D) (ρ:L3.Env),I ρ->(∀d∈ds,∀ρ,I ρ->∃ρ1,g d ρ=some ρ1/\((∃ρ2,(b ρ1=some (.nx ρ2)\/b ρ1=some (.ct ρ2))/\I ρ2)\/∃r,b ρ1=some (.rt r)/\R r)) ->
  (∃ρ',fP g b ds ρ=some (.nx ρ')/\I ρ')\/∃r,fP g b ds ρ=some (.rt r)/\R r
 |[],ρ,h,_=>.inl ⟨ρ,rfl,h⟩
 |d::ds,ρ,h,st=>by
  obtain⟨ρ1,h1,h2⟩:=st d aa ρ h
  rcases h2 with⟨ρ2,h2,h3⟩|⟨r,h2,h3⟩
  ·rcases HH I R ds ρ2 h3 λd hd=>st d (ah _ hd)with⟨ρ',h4,h5⟩|⟨r,h4,h5⟩
   ·refine .inl ⟨ρ',?_,h5⟩
    show(g d ρ).bind _=_
    rw[h1]
    show(b ρ1).bind _=_
    rcases h2 with h2|h2<;>(rw[h2];exact h4)
   ·refine .inr ⟨r,?_,h5⟩
    show(g d ρ).bind _=_
    rw[h1]
    show(b ρ1).bind _=_
    rcases h2 with h2|h2<;>(rw[h2];exact h4)
  ·refine .inr ⟨r,?_,h3⟩
   show(g d ρ).bind _=_
   rw[h1]
   show(b ρ1).bind _=_
   rw[h2];rfl
theorem zst (g:Nat)(hg:g<=1000000):rO [.int (g:Int)]=some (.str (xH (g:Int)))/\eG (.str "a") (.str (xH (g:Int)))=some (.str ("a"++xH (g:Int))):=by
 have h:Sz 1900 (g:Int):=by
  show(g:Int).natAbs<2 ^ 1900
  have:(2:Nat) ^ 20<=2 ^ 1900:=dz (by decide) (by decide)
  omega
 have h2:=zr2 h
 have h3:("a":aR).length=1:=by decide
 exact⟨zon h,zoc (by omega)⟩
def fr (q:Int×Int):D:=.tup [.int q.1,.int q.2]
theorem Ab (q:Int×Int):cP (fr q) (.int 0)=some (.int q.1):=rfl
theorem mY (q:Int×Int):cP (fr q) (.int 1)=some (.int q.2):=rfl
def Fz (n:Nat)(q:Int×Int):Prop:=Sz n q.1/\Sz n q.2
theorem Fz.mono {n m:Nat}{q:Int×Int}(h:Fz n q)(hm:n<=m):Fz m q:=⟨h.1.mono hm,h.2.mono hm⟩
theorem sx {n:Nat}{i w:Int}(h1:-w<=i)(h2:i<=w)(hw:w<2 ^ n):Sz n i:=by
 unfold Sz
 have:(i.natAbs:Int)<2 ^ n:=by omega
 exact_mod_cast this
theorem MR {x y:Int}(hy:Sz 8000 y):uc [.int x,.int y]=some (.int ((eR x y:Nat):Int)):=by
 obtain⟨s',h1,h2,h3,r,h5⟩:=M7 (c:=tb (e2 (lD true) (eV 1) (eC (D.int 0)))) (b:=uo) (λs:Int×Int×Option D=>[some (.int s.1),some (.int s.2.1),s.2.2]) (λs=>!decide (s.2.1=0)) (λs=>(s.2.1,s.1.fmod s.2.1,some (.int (s.1.fmod s.2.1)))) (λs=>s.2.1.natAbs) (λs=>eR s.1 s.2.1=eR x y)
  (λs hp=>by walk_at "mir") (λs hp ht=>by
   have hs:s.2.1≠0:=by simpa using ht
   refine⟨.inl ?_,(Fq.gcd_step s.1 s.2.1).trans hp,Fq.fmod_less s.1 hs⟩
   unfold uo
   have:=Sf (i:=s.1) hs
   walk_at "mir") lN (x,y,none) rfl (NR hy (by decide))
 have h3:s'.2.1=0:=by simpa using h3
 have h4:=Fq.gcd_end s'.1
 rw[h3]at h2
 rw[h2]at h4
 clear h5
 unfold uc gb
 walk_at "mir"
theorem BS {t b:Int}(hb:b≠0)(hz:Sz 8000 b):qw [.int t,.int b]=some (fr (Fq.mk t b)):=by
 have e:=MR (x:=t) hz
 have hg:=Fq.gcd_pos (t:=t) (b:=b) hb
 have hd:Fq.dv t b≠0:=by unfold Fq.dv;split<;>omega
 have sj:Sz 9000 (Fq.dv t b):=(hz.le (Fq.dv_le hb)).mono (by decide)
 have e1:=RT (i:=t) hd sj
 have e2:=RT (i:=b) hd sj
 unfold qw fr Fq.mk
 by_cases hn:b<0
 ·have hd:Fq.dv t b = -((eR t b:Nat):Int):=by unfold Fq.dv;rw[if_pos hn]
  rw[hd]at e1 e2 ⊢
  walk_at "mir"
 ·have hd:Fq.dv t b=((eR t b:Nat):Int):=by unfold Fq.dv;rw[if_neg hn]
  rw[hd]at e1 e2 ⊢
  walk_at "mir"
theorem J0 {n:Nat}{t b:Int}(hb:b≠0)(ht:Sz n t)(hz:Sz n b):Fz n (Fq.mk t b):=⟨ht.le (Fq.mk_le_one hb),hz.le (Fq.mk_le_two hb)⟩
def mw (S G:Nat->Nat):Nat->List Nat->Nat->Prop
 |a,[],b=>a=b
 |a,n::l,b=>S n=a/\mw S G (G n) l b
theorem mw.app {S G:Nat->Nat}{b c:Nat}{m:List Nat}(h2:mw S G b m c):∀{a:Nat} {l:List Nat},mw S G a l b->mw S G a (l++m) c
 |a,[],h=>by
  have h:a=b:=h
  rw[h];exact h2
 |a,n::l,h=>⟨h.1,mw.app h2 h.2⟩
theorem mw.one (S G:Nat->Nat)(n:Nat):mw S G (S n) [n] (G n):=⟨rfl,rfl⟩
structure Ol (ts:List Nat)(S G:Nat->Nat)(going:Nat)(re:List Nat)(ch:Nat->Option Nat)(done:Nat):Prop where
 nd:re.Nodup
 hd:going∈re
 le:done<=re.length
 way:∀x∈re,x≠going->∃n,ch x=some n/\n∈ts/\G n=x/\∃j,re[j]?=some x/\S n∈re.take j
 cl:∀i,i<done->∀x,re[i]?=some x->∀n∈ts,S n=x->G n≠going/\G n∈re
section
variable {ts:List Nat}{S G:Nat->Nat}{going:Nat}{re:List Nat}{ch:Nat->Option Nat}{done:Nat}
theorem Ol.start:Ol ts S G going [going] (λ_=>none) 0 :=
 ⟨by simp,by simp,cK _,λx hx h=>absurd (ax.mp hx) h,λi hi=>absurd hi (by omega)⟩
end
theorem Je {g:D->L3.Env->Option L3.Env}{b:SF}{n:Nat}(I:Nat->L3.Env->Prop)(R:D->Prop)(st:∀i ρ,i<n->I i ρ->∃ρ1,g (.int (i:Int)) ρ=some ρ1/\((∃ρ2,b ρ1=some (.nx ρ2)/\I (i+1) ρ2)\/∃w,b ρ1=some (.rt w)/\R w)) :
  ∀(m k:Nat) (ρ:L3.Env),k+m=n->I k ρ->(∃ρ',fP g b ((iw k m).map λ(i:Nat)=>D.int (i:Int)) ρ=some (.nx ρ')/\I n ρ')\/∃w,fP g b ((iw k m).map λ(i:Nat)=>D.int (i:Int)) ρ=some (.rt w)/\R w
 |0,k,ρ,hk,hI=>by
  have:k=n:=by omega
  subst this
  exact .inl ⟨ρ,rfl,hI⟩
 |m+1,k,ρ,hk,hI=>by
  obtain⟨ρ1,h1,h2⟩:=st k ρ (by omega) hI
  have BA:fP g b ((iw k (m+1)).map λ(i:Nat)=>D.int (i:Int)) ρ=(g (.int (k:Int)) ρ).bind λρ1=>(b ρ1).bind λo=>match o with
    |.nx ρ'=>fP g b ((iw (k+1) m).map λ(i:Nat)=>D.int (i:Int)) ρ'
    |.ct ρ'=>fP g b ((iw (k+1) m).map λ(i:Nat)=>D.int (i:Int)) ρ'
    |.bk ρ'=>some (.nx ρ')
    |.rt d=>some (.rt d):=rfl
  rw[BA,h1,cB]
  rcases h2 with⟨ρ2,h2,h3⟩|⟨w,h2,h3⟩
  ·rw[h2]
   exact Je I R st m (k+1) ρ2 (by omega) h3
  ·rw[h2]
   exact .inr ⟨w,rfl,h3⟩
def aN (as:List ck)(n:Nat):ck:=(as[n]?).getD ⟨.wait,0,0,0,0⟩
theorem xZ {as:List ck}{n:Nat}(h:n<as.length):as[n]?=some (aN as n):=by
 unfold aN
 rw[bG h]
 rfl
theorem zvd {as:List ck}{i:Int}(h0:0<=i)(h1:i<(as.length:Int)):cP (.lst (as.map bH)) (.int i)=some (bH (aN as i.toNat)):=by
 obtain⟨n,rfl⟩:∃n:Nat,i=(n:Int):=⟨i.toNat,by omega⟩
 rw[kX]
 exact ue (by rw[aQ,xZ (by omega)];rfl)
theorem Oa {ns:List D}{as:List ck}{is:List Int}{fld:aR}{f:ck->Int}{q:EF}(hq:q=dA (lsD (eV 1)) 1 [0] (gV 0) eI (e1 (cw [0,1,2,3] fld) (e2 cP (e1 (cw [4] "arrows") (eV 1)) (eV 0))))(hf:∀a,cw [0,1,2,3] fld (bH a)=some (.int (f a)))(hl:is.length<=1000)(hr:∀i∈is,0<=i/\i<(as.length:Int))(r:L3.Env)(h0:r[0]?.join=some (bu ns as))(h1:r[1]?.join=some (.lst (is.map .int))) :
  q r=some (.lst ((is.map λi=>f (aN as i.toNat)).map .int)):=by
 rw[hq,cv]
 refine wx D.int (λi=>D.int (f (aN as i.toNat))) is (by unfold lsD;have:eV 1 r=_:=h1;rw[this];rfl) (by omega) λi hi=>⟨_,rfl,?_⟩
 have fK:dE r [0]=[some (bu ns as)]:=by unfold dE;simp[h0]
 rw[fK]
 have i1:=zvd (hr i hi).1 (hr i hi).2
 have f1:=hf (aN as i.toNat)
 have f4:=Hu ns as
 generalize f (aN as i.toNat)=v,bH (aN as i.toNat)=ea,as.map bH=al,bu ns as=net at *
 clear fK h0 h1 hr hi hl hf hq
 walk_at "mir"
theorem HP (xs:List Int):n8 [.lst (xs.map .int)]=some (.int xs.sum):=by
 show(eO (xs.map .int)).bind _=_
 rw[Nh]
 rfl
theorem Ss {g:D->L3.Env->Option L3.Env}{b:SF}{d:D}{ds:List D}{ρ ρ1 ρ2:L3.Env}(h1:g d ρ=some ρ1)(h2:b ρ1=some (.nx ρ2)):fP g b (d::ds) ρ=fP g b ds ρ2:=by
 show(g d ρ).bind _=_
 rw[h1]
 show(b ρ1).bind _=_
 rw[h2]
 rfl
def tI (as:List ck)(i:Int):Int:=(aN as i.toNat).t
def bI (as:List ck)(i:Int):Int:=((aN as i.toNat).b:Int)
theorem Tl {f:Int->Int}{m:Int}(hm:0<=m):∀is:List Int,(∀i∈is,0<=f i/\f i<=m)->0<=(is.map f).sum/\(is.map f).sum<=m*(is.length:Int)
 |[],_=>by simp
 |i::is,h=>by
  obtain⟨h1,h2⟩:=Tl hm is λj hj=>h j (ah _ hj)
  obtain⟨h3,h4⟩:=h i aa
  rw[aM,bL,aV]
  refine⟨by omega,?_⟩
  rw[show((is.length+1:Nat):Int)=(is.length:Int)+1 by omega,Int.mul_add,jM]
  omega
theorem zve {ns:List D}{as:List ck}{is:List Int}(hl:is.length<=1000)(hb:∀a∈as,a.b<=4)(hr:∀i∈is,0<=i/\i<(as.length:Int))(h0:(is.map (bI as)).sum≠0):wA [bu ns as,.lst (is.map .int)]=some (fr (Fq.mk (is.map (tI as)).sum (is.map (bI as)).sum)):=by
 have k1:=Oa (ns:=ns) (as:=as) (is:=is) (fld:="time") (f:=λa=>a.t) (q:=Nt) rfl ft hl hr [some (bu ns as),some (.lst (is.map .int)),none,none] rfl rfl
 have k2:=Oa (ns:=ns) (as:=as) (is:=is) (fld:="behind") (f:=λa=>(a.b:Int)) (q:=Nr) rfl fb hl hr [some (bu ns as),some (.lst (is.map .int)),some (.int (is.map (tI as)).sum),none] rfl rfl
 have s1:=HP (is.map (tI as))
 have s2:=HP (is.map (bI as))
 have bd:=Tl (f:=bI as) (m:=4) (by decide) is λi hi=>by
  have:=hb (aN as i.toNat) (bW.mpr ⟨i.toNat,xZ (by have:=hr i hi;omega)⟩)
  unfold bI
  omega
 have ra:=BS (t:=(is.map (tI as)).sum) h0 (sx (w:=4000) (by omega) (by omega) (by decide))
 replace k1:Nt _=some (.lst ((is.map (tI as)).map .int)):=k1
 replace k2:Nr _=some (.lst ((is.map (bI as)).map .int)):=k2
 generalize fr (Fq.mk (is.map (tI as)).sum (is.map (bI as)).sum)=F,(is.map (tI as)).map D.int=tl,(is.map (bI as)).map D.int=bl at *
 generalize (is.map (tI as)).sum=T,(is.map (bI as)).sum=Bh,bu ns as=net,is.map D.int=il at *
 unfold wA
 clear bd hl hb hr h0
 walk_at "mir"
structure ek (d:D)(ch:Nat->Option Nat)(m:Nat):Prop where
 is:∃ks ds,d=.dK ks ds/\ks.length=ds.length/\ks.length<=m/\∀x:Nat,iK ks ds (.inl (x:Int))=(ch x).map λ(n:Nat)=>D.int (n:Int)
theorem ek.get {d:D}{ch:Nat->Option Nat}{m:Nat}(h:ek d ch m){x n:Nat}(e:ch x=some n):(fq d (.int (x:Int))).join=some (.int (n:Int)):=by
 obtain⟨ks,ds,rfl,_,_,h3⟩:=h.is
 show iK ks ds (.inl (x:Int))=_
 rw[h3,e]
 rfl
theorem ek.put {d:D}{ch:Nat->Option Nat}{m:Nat}(h:ek d ch m)(hm:m<16777216)(x n:Nat):∃d',(∀(ρ:L3.Env) (i:Nat) (fj f:EF),f ρ=some (.int (n:Int))->eV i ρ=some d->fj ρ=some (.int (x:Int))->iR i fj f ρ=some (.nx (ρ.set i (some d'))))/\ek d' (λy=>if y=x then some n else ch y) (m+1):=by
 obtain⟨ks,ds,rfl,h1,h2,h3⟩:=h.is
 refine⟨.dK (fu ks ds (.inl (x:Int)) (.int (n:Int))).1 (fu ks ds (.inl (x:Int)) (.int (n:Int))).2,λρ i fj f e1 e2 e3=>?_,⟨_,_,rfl,(NX h1 _ _).1,by have:=(NX h1 (.inl (x:Int)) (.int (n:Int))).2;omega,λy=>?_⟩⟩
 ·unfold iR
  rw[e1]
  show(eV i ρ).bind _=_
  rw[e2]
  show(fj ρ).bind _=_
  rw[e3]
  show(if ks.length<16777216 then some (Out.nx (ρ.set i (some (.dK (fu ks ds (.inl (x:Int)) (.int (n:Int))).1 (fu ks ds (.inl (x:Int)) (.int (n:Int))).2))))else none)=_
  rw[if_pos (by omega)]
 ·rw[R3 h1]
  by_cases e:y=x
  ·subst e
   rw[if_pos rfl,if_pos rfl]
   rfl
  ·rw[if_neg (λz=>e (by have:=Sum.inl.inj z;omega)),if_neg e]
   exact h3 y
theorem Rx {c:BF}{b:SF}(I:L3.Env->Prop)(μ:L3.Env->Nat)(R:D->Prop)(st:∀ρ,I ρ->∃t,c ρ=some t/\(t=true->(∃ρ',b ρ=some (.nx ρ')/\I ρ'/\μ ρ' < μ ρ)\/∃d,b ρ=some (.rt d)/\R d)) :
  ∀(n:Nat) (ρ:L3.Env),I ρ->μ ρ<n->(∃ρ',iu c b n ρ=some (.nx ρ')/\I ρ'/\c ρ'=some false)\/∃d,iu c b n ρ=some (.rt d)/\R d
 |0,_,_,h=>absurd h (by omega)
 |n+1,ρ,hI,h=>by
  obtain⟨t,h1,h2⟩:=st ρ hI
  cases t with
  |false=>exact .inl ⟨ρ,by show(c ρ).bind _=_;rw[h1];rfl,hI,h1⟩
  |true=>
   rcases h2 rfl with⟨ρ',h3,h4,h5⟩|⟨d,h3,h4⟩
   ·rcases Rx I μ R st n ρ' h4 (by omega)with⟨ρ2,h6,h7,h8⟩|⟨d,h6,h7⟩
    ·refine .inl ⟨ρ2,?_,h7,h8⟩
     show(c ρ).bind _=_
     rw[h1]
     show(b ρ).bind _=_
     rw[h3];exact h6
    ·refine .inr ⟨d,?_,h7⟩
     show(c ρ).bind _=_
     rw[h1]
     show(b ρ).bind _=_
     rw[h3];exact h6
   ·refine .inr ⟨d,?_,h4⟩
    show(c ρ).bind _=_
    rw[h1]
    show(b ρ).bind _=_
    rw[h3];rfl
theorem zsu {p q:Int×Int}(h1:Fz 9000 p)(h2:Fz 9000 q):BQ [fr p,fr q]=some (.bl (Fq.under p q)):=by
 have e1:=BO h1.1 h2.2 (by decide) (by decide)
 have e2:=BO h2.1 h1.2 (by decide) (by decide)
 unfold BQ
 have f0:=Ab
 have f1:=mY
 walk_at "mir"
 rfl
theorem Su {n:Nat}{x y:Int×Int}(lx:Fq.Low x)(ly:Fq.Low y)(hx:Fz n x)(hy:Fz n y):Fz (n+n+1) (Fq.plus x y) :=
 J0 (lx.mul_ne ly) (Sz.add (hx.1.mul hy.2) (hy.1.mul hx.2)) ((hx.2.mul hy.2).mono (by omega))
theorem Ry {n m:Nat}{x:Int×Int}{k:Int}(lx:Fq.Low x)(hx:Fz n x)(hk:Sz m k):Fz (n+m) (Fq.scaled x k):=J0 lx.ne (hx.1.mul hk) (hx.2.mono (tW _ _))
theorem Tn {n:Nat}{p q:Int×Int}(hn:n<=2000)(lp:Fq.Low p)(lq:Fq.Low q)(h1:Fz n p)(h2:Fz n q):HL [fr p,fr q]=some (fr (Fq.plus p q)):=by
 have e1:=BO h1.1 h2.2 (by omega) (by omega)
 have e2:=BO h2.1 h1.2 (by omega) (by omega)
 have e3:=BO h1.2 h2.2 (by omega) (by omega)
 have r:=BS (t:=p.1*q.2+q.1*p.2) (lp.mul_ne lq) ((h1.2.mul h2.2).mono (by omega))
 have f0:=Ab
 have f1:=mY
 unfold HL Fq.plus
 clear h1 h2 lp lq hn
 generalize fr (Fq.mk (p.1*q.2+q.1*p.2) (p.2*q.2))=rr at *
 walk_at "mir"
theorem zpj {n m:Nat}{p:Int×Int}{k:Int}(hn:n<=2000)(hm:m<=2000)(lp:Fq.Low p)(h1:Fz n p)(hk:Sz m k):Jm [fr p,.int k]=some (fr (Fq.scaled p k)):=by
 have e1:=BO h1.1 hk (by omega) (by omega)
 have r:=BS (t:=p.1*k) lp.ne (h1.2.mono (by omega))
 have f0:=Ab
 have f1:=mY
 unfold Jm Fq.scaled
 clear h1 hk lp hn hm
 generalize fr (Fq.mk (p.1*k) p.2)=rr at *
 walk_at "mir"
theorem Od:Sz 1 (-1):=by unfold Sz;decide
theorem zsv {n:Nat}{p q:Int×Int}(hn:n<=1000)(lp:Fq.Low p)(lq:Fq.Low q)(h1:Fz n p)(h2:Fz n q):BP [fr p,fr q]=some (fr (Fq.minus p q)):=by
 have e1:=zpj (by omega) (by decide) lq h2 Od
 have e2:=Tn (n:=n+1) (by omega) lp (Fq.scaled_low lq (-1)) (h1.mono (by omega)) (Ry lq h2 Od)
 unfold BP Fq.minus
 clear h1 h2 lp lq hn
 generalize fr (Fq.plus p (Fq.scaled q (-1)))=rr,fr (Fq.scaled q (-1))=sq at *
 walk_at "mir"
theorem zpk {n:Nat}{x y:Int×Int}(lx:Fq.Low x)(ly:Fq.Low y)(hx:Fz n x)(hy:Fz n y):Fz (n+1+(n+1)+1) (Fq.minus x y) :=
 Su lx (Fq.scaled_low ly (-1)) (hx.mono (by omega)) (Ry ly hy Od)
theorem zsw (t:Int):Fq.Low (t,1):=⟨dr 1,by show eR t 1=1;simp⟩
theorem ek.has {d:D}{ch:Nat->Option Nat}{m:Nat}(h:ek d ch m)(x:Nat):fq d (.int (x:Int))=some ((ch x).map λ(n:Nat)=>D.int (n:Int)):=by
 obtain⟨ks,ds,rfl,_,_,h3⟩:=h.is
 show some (iK ks ds (.inl (x:Int)))=_
 rw[h3]
def dN (as:List ck)(p:Int×Int)(n:Nat):Int:=(aN as n).t*p.2-((aN as n).b:Int)*p.1
def aS (as:List ck)(n:Nat):Nat:=(aN as n).s
def aG (as:List ck)(n:Nat):Nat:=(aN as n).g
structure B0 (many:Nat)(a:ck):Prop where
 s:a.s<many
 g:a.g<many
 t0:0<=a.t
 t1:a.t<=1000000000
 b:a.b<=4
theorem jw {as:List ck}{n:Nat}(hn:n<as.length):aN as n∈as:=bW.mpr ⟨n,xZ hn⟩
def kc (T:Nat->Int)(x:Nat)(v:Int):Nat->Int:=λy=>if y=x then v else T y
def MS (T:Nat->Option Nat)(x v:Nat):Nat->Option Nat:=λy=>if y=x then some v else T y
def kT (T:Nat->Nat)(x v:Nat):Nat->Nat:=λy=>if y=x then v else T y
structure nw (aI:List Nat)(S G:Nat->Nat)(c:Nat->Int)(r:Nat)(dn:List Nat)(T:Nat->Int)(ch:Nat->Option Nat)(lr ts:Nat->Nat)(k:Nat):Prop where
 le:∀x,lr x<=r
 st:∀x,ts x<k
 ch:∀x,0<lr x->∃n,ch x=some n/\n∈aI/\G n=x/\lr x<=lr (S n)+1/\T x<=T (S n)+c n/\(T x<T (S n)+c n\/ts (S n)<ts x)
 old:∀n∈aI,lr (S n)+1<r->T (S n)+c n<=T (G n)
 dn:∀n∈dn,lr (S n)<r->T (S n)+c n<=T (G n)
 pos:∀x,0<=T x
section
variable {aI:List Nat}{S G:Nat->Nat}{c:Nat->Int}{r:Nat}{dn:List Nat}{T:Nat->Int}{ch:Nat->Option Nat}{lr ts:Nat->Nat}{k:Nat}
theorem nw.start:nw aI S G c 1 [] (λ_=>0) (λ_=>none) (λ_=>0) (λ_=>0) 1 where
 le:=λ_=>cK _
 st:=λ_=>Nat.zero_lt_one
 ch:=λ_ h=>absurd h (eh 0)
 old:=λ_ _ h=>absurd h (by omega)
 dn:=λ_ h=>by cases h
 pos:=λ_=>dr 0
theorem nw.next (h:nw aI S G c r aI T ch lr ts k):nw aI S G c (r+1) [] T ch lr ts k where
 le:=λx=>Nat.le_succ_of_le (h.le x)
 st:=h.st
 ch:=h.ch
 old:=λn hn h1=>h.dn n hn (by omega)
 dn:=λ_ h=>by cases h
 pos:=h.pos
theorem nw.stay (h:nw aI S G c r dn T ch lr ts k){n:Nat}(hn:T (S n)+c n<=T (G n)):nw aI S G c r (dn++[n]) T ch lr ts k where
 le:=h.le
 st:=h.st
 ch:=h.ch
 old:=h.old
 dn:=λm hm h1=>by
  rcases aZ.mp hm with hm|hm
  ·exact h.dn m hm h1
  ·rw[ax.mp hm];exact hn
 pos:=h.pos
theorem nw.push (h:nw aI S G c r dn T ch lr ts k){n:Nat}(hn:n∈aI)(hp:T (G n)<T (S n)+c n) :
  nw aI S G c r (dn++[n]) (kc T (G n) (T (S n)+c n)) (MS ch (G n) n) (kT lr (G n) r) (kT ts (G n) k) (k+1) where
 le:=λx=>by
  unfold kT
  split
  ·exact aF _
  ·exact h.le x
 st:=λx=>by
  unfold kT
  have:=h.st x
  split<;>omega
 ch:=λx hx=>by
  have up:∀y,T y<=kc T (G n) (T (S n)+c n) y:=λy=>by
   unfold kc
   split
   ·rename_i e;rw[e];omega
   ·exact dr _
  have ul:∀y,lr y<=kT lr (G n) r y:=λy=>by
   unfold kT
   split
   ·exact h.le y
   ·exact aF _
  by_cases e:x=G n
  ·subst e
   refine⟨n,by simp[MS],hn,rfl,?_,?_,?_⟩
   ·have h1:¬lr (S n)+1<r:=λz=>by have:=h.old n hn z;omega
    have h2:=ul (S n)
    have h3:kT lr (G n) r (G n)=r:=by simp[kT]
    omega
   ·have h2:=up (S n)
    have h3:kc T (G n) (T (S n)+c n) (G n)=T (S n)+c n:=by simp[kc]
    omega
   ·have h3:kc T (G n) (T (S n)+c n) (G n)=T (S n)+c n:=by simp[kc]
    by_cases e2:S n=G n
    ·left
     rw[e2]at hp h3 ⊢
     omega
    ·right
     have h4:kT ts (G n) k (G n)=k:=by simp[kT]
     have h5:kT ts (G n) k (S n)=ts (S n):=by simp[kT,e2]
     have:=h.st (S n)
     omega
  ·have Bu:kT lr (G n) r x=lr x:=by simp[kT,e]
   have ht:kc T (G n) (T (S n)+c n) x=T x:=by simp[kc,e]
   rw[Bu]at hx
   obtain⟨m,h1,h2,h3,h4,h5,h6⟩:=h.ch x hx
   refine⟨m,by simp[MS,e,h1],h2,h3,?_,?_,?_⟩
   ·have:=ul (S m);omega
   ·have:=up (S m);omega
   ·by_cases e2:S m=G n
    ·left
     have h7:kc T (G n) (T (S n)+c n) (S m)=T (S n)+c n:=by simp[kc,e2]
     rw[e2]at h5
     omega
    ·have h7:kc T (G n) (T (S n)+c n) (S m)=T (S m):=by simp[kc,e2]
     have h8:kT ts (G n) k (S m)=ts (S m):=by simp[kT,e2]
     have h9:kT ts (G n) k x=ts x:=by simp[kT,e]
     rw[h7,h8,h9,ht]
     exact h6
 old:=λm hm h1=>by
  have e2:S m≠G n:=λe=>by
   have:kT lr (G n) r (S m)=r:=by simp[kT,e]
   omega
  have h7:kc T (G n) (T (S n)+c n) (S m)=T (S m):=by simp[kc,e2]
  have h8:kT lr (G n) r (S m)=lr (S m):=by simp[kT,e2]
  rw[h8]at h1
  have h9:=h.old m hm h1
  have:T (G m)<=kc T (G n) (T (S n)+c n) (G m):=by
   unfold kc
   split
   ·rename_i e;rw[e];omega
   ·exact dr _
  omega
 dn:=λm hm h1=>by
  have e2:S m≠G n:=λe=>by
   have:kT lr (G n) r (S m)=r:=by simp[kT,e]
   omega
  have h7:kc T (G n) (T (S n)+c n) (S m)=T (S m):=by simp[kc,e2]
  have h8:kT lr (G n) r (S m)=lr (S m):=by simp[kT,e2]
  rw[h8]at h1
  rcases aZ.mp hm with hm|hm
  ·have h9:=h.dn m hm h1
   have:T (G m)<=kc T (G n) (T (S n)+c n) (G m):=by
    unfold kc
    split
    ·rename_i e;rw[e];omega
    ·exact dr _
   omega
  ·have hm:=ax.mp hm
   subst hm
   have h3:kc T (G m) (T (S m)+c m) (G m)=T (S m)+c m:=by simp[kc]
   omega
 pos:=λx=>by
  unfold kc
  split
  ·have:=h.pos (G n);omega
  ·exact h.pos x
theorem nw.cost {Q:Nat->Prop}(h:∀n,Q n->T (G n)<=T (S n)+c n/\(T (G n)<T (S n)+c n\/ts (S n)<ts (G n))):∀{w:List Nat} {a b:Nat},mw S G a w b->(∀n∈w,Q n)->T b<=T a+(w.map c).sum/\(w=[]\/T b<T a+(w.map c).sum\/ts a<ts b)
 |[],a,b,hw,_=>by
  have hw:a=b:=hw
  subst hw
  simp
 |n::w,a,b,hw,hq=>by
  obtain⟨h1,h2⟩:=hw
  obtain⟨i1,i2⟩:=nw.cost h h2 λm hm=>hq m (ah _ hm)
  obtain⟨j1,j2⟩:=h n (hq n aa)
  rw[aM,bL]
  rw[←h1]
  refine⟨by omega,.inr ?_⟩
  rcases i2 with i2|i2|i2
  ·subst i2
   have h2:G n=b:=h2
   subst h2
   simp at i1 ⊢
   rcases j2 with j2|j2
   ·left;omega
   ·right;exact j2
  ·left;omega
  ·rcases j2 with j2|j2
   ·left;omega
   ·right;omega
end
def pE (S G:Nat->Nat):Nat->List Nat->Nat->Prop
 |a,[],b=>a=b
 |a,n::l,b=>G n=a/\pE S G (S n) l b
theorem pE.snoc {S G:Nat->Nat}{n:Nat}:∀{w:List Nat} {a b:Nat},pE S G a w b->G n=b->pE S G a (w++[n]) (S n)
 |[],a,b,h,e=>by
  have h:a=b:=h
  exact⟨by rw[e,h],rfl⟩
 |m::w,a,b,h,e=>⟨h.1,pE.snoc h.2 e⟩
theorem pE.wlk {S G:Nat->Nat}:∀{w:List Nat} {a b:Nat},pE S G a w b->mw S G b w.reverse a
 |[],a,b,h=>by
  have h:a=b:=h
  exact h.symm
 |n::w,a,b,h=>by
  rw[kJ]
  exact mw.app (h.1▸mw.one S G n) (pE.wlk h.2)
theorem pE.drop {S G:Nat->Nat}:∀{w:List Nat} {a b:Nat} {j n:Nat},pE S G a w b->w[j]?=some n->pE S G (G n) (w.drop j) b
 |[],a,b,j,n,h,e=>by simp at e
 |m::w,a,b,0,n,h,e=>by
  have e:m=n:=by simpa using e
  subst e
  exact⟨rfl,h.2⟩
 |m::w,a,b,j+1,n,h,e=>by
  rw[List.drop_succ_cons]
  exact pE.drop h.2 (by simpa using e)
structure Wk (ch:Nat->Option Nat)(S G:Nat->Nat)(lr:Nat->Nat)(v here:Nat)(ws:List Nat):Prop where
 ch:∀n∈ws,ch (G n)=some n/\0<lr (G n)
 way:pE S G v ws here
 nd:(ws.map G).Nodup
 lr:lr v<=lr here+ws.length
def Pu (many:Nat)(lr:Nat->Nat)(r:Nat)(pu:D):Prop:=(pu=.non/\∀x,lr x<r)\/∃v:Nat,pu=.int (v:Int)/\v<many/\lr v=r
theorem NY {many:Nat}{as:List ck}{ns:List D}{p:Int×Int}{aI:List Nat}{r:Nat}{M:Int}(lQ:∀a∈as,B0 many a)(hM:∀n,n<as.length->dN as p n<=M)(nU:0<=M)(hr:0<r)(hn:∀n∈aI,n<as.length){e2:Option D} :
  ∀(post pre:List Nat) (T:Nat->Int) (d:D) (ch:Nat->Option Nat) (lr ts:Nat->Nat) (k m:Nat) (C:Int) (pu:D) (y6 y7 y8:Option D),aI=pre++post->nw aI (aS as) (aG as) (dN as p) r pre T ch lr ts k->ek d ch m->m+post.length<=1000000->(∀x,T x<=C)->Pu many lr r pu ->
  ∃(T':Nat->Int) (d':D) (oS:Nat->Option Nat) (rJ tM:Nat->Nat) (k':Nat) (qN:D) (z6 z7 z8:Option D),fP (gV 6) xt (ap post) [some (bu ns as),some (fr p),e2,some (.lst (ed many T)),some d,some pu,y6,y7,y8]=some (.nx [some (bu ns as),some (fr p),e2,some (.lst (ed many T')),some d',some qN,z6,z7,z8]) /\
   nw aI (aS as) (aG as) (dN as p) r aI T' oS rJ tM k'/\ek d' oS (m+post.length)/\(∀x,T' x<=C+(post.length:Int)*M)/\Pu many rJ r qN
 |[],pre,T,d,ch,lr,ts,k,m,C,pu,y6,y7,y8,e,hP,hD,_,hC,hu=>by
  rw[cn]at e
  subst e
  exact⟨T,d,ch,lr,ts,k,pu,y6,y7,y8,rfl,hP,hD,λx=>by have:=hC x;simp;omega,hu⟩
 |n::post,pre,T,d,ch,lr,ts,k,m,C,pu,y6,y7,y8,e,hP,hD,hm,hC,hu=>by
  rw[aV]at hm
  have Iz:n∈aI:=by rw[e];simp
  have EL:=hn n Iz
  have ok:=lQ _ (jw EL)
  have f4:=Hu ns as
  have i1:cP (.lst (as.map bH)) (.int (n:Int))=some (bH (aN as n)):=ue (by rw[aQ,xZ EL];rfl)
  have f1:=fs (aN as n)
  have f2:=fg (aN as n)
  have f3:=ft (aN as n)
  have f5:=fb (aN as n)
  have v1:cP (.lst (ed many T)) (.int ((aN as n).s:Int))=some (.int (T (aN as n).s)):=wB T ok.s
  have v2:cP (.lst (ed many T)) (.int ((aN as n).g:Int))=some (.int (T (aN as n).g)):=wB T ok.g
  have m1:dk (.int (aN as n).t) (.int p.2)=some (.int ((aN as n).t*p.2)):=zbg (by have:=ok.t0;omega) (by have:=ok.t1;omega)
  have m2:dk (.int ((aN as n).b:Int)) (.int p.1)=some (.int (((aN as n).b:Int)*p.1)):=zbg (by omega) (by have:=ok.b;omega)
  have e8:T (aN as n).s+(aN as n).t*p.2-((aN as n).b:Int)*p.1=T (aS as n)+dN as p n:=by unfold dN aS;omega
  have eg:(aN as n).g=aG as n:=rfl
  have p0:=Ab p
  have p1:=mY p
  have BA:fP (gV 6) xt (ap (n::post)) [some (bu ns as),some (fr p),e2,some (.lst (ed many T)),some d,some pu,y6,y7,y8]=(xt [some (bu ns as),some (fr p),e2,some (.lst (ed many T)),some d,some pu,some (.int (n:Int)),y7,y8]).bind λo=>match o with
    |.nx ρ'=>fP (gV 6) xt (ap post) ρ'
    |.ct ρ'=>fP (gV 6) xt (ap post) ρ'
    |.bk ρ'=>some (.nx ρ')
    |.rt d=>some (.rt d):=rfl
  have pe:aI=(pre++[n])++post:=by rw[e];simp
  by_cases hg:T (aG as n)<T (aS as n)+dN as p n
  ·obtain⟨d2,put,hd2⟩:=hD.put (by omega) (aG as n) n
   have gt:sg (.int (T (aS as n)+dN as p n)) (.int (T (aN as n).g))=some (.bl true):=(zig _ _).trans (by rw[decide_eq_true (by rw[eg];omega)])
   have ps:ky (ed many T) ((aN as n).g:Int) (.int (T (aS as n)+dN as p n))=some (ed many (kc T (aG as n) (T (aS as n)+dN as p n))):=SK T ok.g _
   have st:xt [some (bu ns as),some (fr p),e2,some (.lst (ed many T)),some d,some pu,some (.int (n:Int)),y7,y8]=some (.nx [some (bu ns as),some (fr p),e2,some (.lst (ed many (kc T (aG as n) (T (aS as n)+dN as p n)))),some d2,some (.int ((aG as n:Nat):Int)),some (.int (n:Int)),some (bH (aN as n)),some (.int (T (aS as n)+dN as p n))]):=by
    have put:=put [some (bu ns as),some (fr p),e2,some (.lst (ed many (kc T (aG as n) (T (aS as n)+dN as p n)))),some d,some pu,some (.int (n:Int)),some (bH (aN as n)),some (.int (T (aS as n)+dN as p n))] 4 (e1 (cw [0,1,2,3] "goal") (eV 7)) (eV 6) rfl rfl f2
    have pl:o6 3 (e1 (cw [0,1,2,3] "goal") (eV 7)) (eV 8) [some (bu ns as),some (fr p),e2,some (.lst (ed many T)),some d,some pu,some (.int (n:Int)),some (bH (aN as n)),some (.int (T (aS as n)+dN as p n))]=some (.nx [some (bu ns as),some (fr p),e2,some (.lst (ed many (kc T (aG as n) (T (aS as n)+dN as p n)))),some d,some pu,some (.int (n:Int)),some (bH (aN as n)),some (.int (T (aS as n)+dN as p n))]):=by
     unfold o6 e1 eV
     generalize bH (aN as n)=ea at *
     simp[f2,ps]
    have ie:T (aN as n).g<T (aS as n)+dN as p n:=hg
    generalize T (aS as n)+dN as p n=w at *
    generalize ed many (kc T (aG as n) w)=v',T (aN as n).g=tg at *
    rw[←eg]
    generalize ed many T=v0,fr p=F,as.map bH=al,bu ns as=net,bH (aN as n)=ea at *
    unfold xt
    generalize o6 3 (e1 (cw [0,1,2,3] "goal") (eV 7)) (eV 8)=PL,iR 4 (e1 (cw [0,1,2,3] "goal") (eV 7)) (eV 6)=PD at *
    clear BA pe hP hD hm hC hu e Iz EL ok hg hd2 eg lQ hM nU hn ps
    walk_at "mir"
   obtain⟨T',d',oS,rJ,tM,k',qN,z6,z7,z8,h1,h2,h3,h4,h5⟩:=NY (ns:=ns) lQ hM nU hr hn (e2:=e2) post (pre++[n]) _ d2 _ _ _ _ (m+1) (C+M) (.int ((aG as n:Nat):Int)) (some (.int (n:Int))) (some (bH (aN as n))) (some (.int (T (aS as n)+dN as p n))) pe (hP.push Iz hg) hd2 (by omega) (λx=>by
     unfold kc
     have h1:=hC x
     have h2:=hC (aS as n)
     have h3:=hM n EL
     split<;>omega) (.inr ⟨aG as n,rfl,ok.g,by simp[kT]⟩)
   refine⟨T',d',oS,rJ,tM,k',qN,z6,z7,z8,?_,h2,?_,λx=>?_,h5⟩
   ·rw[BA,st]
    exact h1
   ·rw[aV,show m+(post.length+1)=m+1+post.length by omega];exact h3
   ·have:=h4 x
    rw[aV,show((post.length+1:Nat):Int)=(post.length:Int)+1 by omega,lZ,mh]
    omega
  ·have gt:sg (.int (T (aS as n)+dN as p n)) (.int (T (aN as n).g))=some (.bl false):=(zig _ _).trans (by rw[decide_eq_false (by rw[eg];omega)])
   have st:xt [some (bu ns as),some (fr p),e2,some (.lst (ed many T)),some d,some pu,some (.int (n:Int)),y7,y8]=some (.nx [some (bu ns as),some (fr p),e2,some (.lst (ed many T)),some d,some pu,some (.int (n:Int)),some (bH (aN as n)),some (.int (T (aS as n)+dN as p n))]):=by
    have ie:¬T (aN as n).g<T (aS as n)+dN as p n:=hg
    generalize T (aS as n)+dN as p n=w,T (aN as n).g=tg,ed many T=v0,fr p=F,as.map bH=al,bu ns as=net,bH (aN as n)=ea at *
    unfold xt
    clear BA pe hP hD hm hC hu e Iz EL ok hg eg lQ hM nU hn
    walk_at "mir"
   obtain⟨T',d',oS,rJ,tM,k',qN,z6,z7,z8,h1,h2,h3,h4,h5⟩:=NY (ns:=ns) lQ hM nU hr hn (e2:=e2) post (pre++[n]) T d ch lr ts k m C pu (some (.int (n:Int))) (some (bH (aN as n))) (some (.int (T (aS as n)+dN as p n))) pe (hP.stay (by omega)) hD (by omega) hC hu
   refine⟨T',d',oS,rJ,tM,k',qN,z6,z7,z8,?_,h2,?_,λx=>?_,h5⟩
   ·rw[BA,st]
    exact h1
   ·obtain⟨ks,ds,q1,q2,q3,q4⟩:=h3.is
    exact⟨ks,ds,q1,q2,by rw[aV];omega,q4⟩
   ·have:=h4 x
    rw[aV,show((post.length+1:Nat):Int)=(post.length:Int)+1 by omega,lZ,mh]
    omega
theorem zvf {many:Nat}{as:List ck}{ns:List D}{p:Int×Int}{aI:List Nat}{r:Nat}{M:Int}(lQ:∀a∈as,B0 many a)(hM:∀n,n<as.length->dN as p n<=M)(nU:0<=M)(hr:0<r)(hn:∀n∈aI,n<as.length){T:Nat->Int}{d:D}{ch:Nat->Option Nat}{lr ts:Nat->Nat}{k m:Nat}{C:Int}(hP:nw aI (aS as) (aG as) (dN as p) r [] T ch lr ts k)(hD:ek d ch m)(hm:m+aI.length<=1000000)(hC:∀x,T x<=C)(hl:∀x,lr x<r) :
  ∃(T':Nat->Int) (d':D) (oS:Nat->Option Nat) (rJ tM:Nat->Nat) (k':Nat) (qN:D),vt [bu ns as,fr p,.lst (ap aI),.lst (ed many T),d]=some (.tup [qN,.lst (ed many T'),d']) /\
   nw aI (aS as) (aG as) (dN as p) r aI T' oS rJ tM k'/\ek d' oS (m+aI.length)/\(∀x,T' x<=C+(aI.length:Int)*M)/\Pu many rJ r qN:=by
 obtain⟨T',d',oS,rJ,tM,k',qN,z6,z7,z8,h1,h2,h3,h4,h5⟩:=NY (ns:=ns) lQ hM nU hr hn (e2:=some (.lst (ap aI))) aI [] T d ch lr ts k m C .non none none none rfl hP hD hm hC (.inl ⟨rfl,hl⟩)
 refine⟨T',d',oS,rJ,tM,k',qN,?_,h2,h3,h4,h5⟩
 unfold vt AH vF AI
 generalize ed many T=v0 at *
 generalize ed many T'=v1,fr p=F,bu ns as=net,ap aI=nl at *
 clear hP hD hm hC hl lQ hM nU hn h2 h3 h4 h5
 walk_at "mir"
theorem ek.congr {d:D}{ch oS:Nat->Option Nat}{m:Nat}(h:ek d ch m)(e:∀x,ch x=oS x):ek d oS m:=by
 have:ch=oS:=funext e
 rw[←this];exact h
theorem ek.mono {d:D}{ch:Nat->Option Nat}{m m':Nat}(h:ek d ch m)(e:m<=m'):ek d ch m':=by
 obtain⟨ks,ds,q1,q2,q3,q4⟩:=h.is
 exact⟨ks,ds,q1,q2,by omega,q4⟩
theorem ek.nil:ek (.dK [] []) (λ_=>none) 0:=⟨[],[],rfl,rfl,by simp,λ_=>rfl⟩
def tf (us:List Nat)(y:Nat):Option Nat:=if y∈us then some (us.idxOf y)else none
theorem zsx (us:List Nat){x:Nat}(h:x∉us)(y:Nat):(if y=x then some us.length else tf us y)=tf (us++[x]) y:=by
 unfold tf
 by_cases e:y=x
 ·subst e
  rw[if_pos rfl,if_pos (by simp),rV,if_neg h]
  simp
 ·rw[if_neg e]
  by_cases hy:y∈us
  ·rw[if_pos hy,if_pos (by simp[hy]),rV,if_pos hy]
  ·rw[if_neg hy,if_neg (by simp[hy,e])]
def Wm (ρ:L3.Env):Nat:=match ρ[5]?.join with
 |some (D.lst ds)=>1000-ds.length
 |_=>0
def cR:BF:=tb (λρ=>((eV 3) ρ).bind λx=>((eV 4) ρ).bind λy=>(fq y x).bind λr=>some (.bl (!r.isSome)))
theorem zwc {as:List ck}{many m v:Nat}{d:D}{ch:Nat->Option Nat}{lr:Nat->Nat}(hD:ek d ch m)(ko:∀x,0<lr x->∃n,ch x=some n/\n<as.length/\aG as n=x/\lr x<=lr (aS as n)+1)(lQ:∀a∈as,B0 many a)(hv:v<many)(Pl:many<=lr v)(hm:many<=900) :
  ∃(R:List Nat) (x:Nat),ub [.lst (as.map bH),d,.int (v:Int)]=some (.lst (ap R))/\R≠[]/\mw (aS as) (aG as) x R x/\(R.map (aG as)).Nodup/\∀n∈R,ch (aG as n)=some n/\0<lr (aG as n):=by
 have t6:∀(here:Nat) (us:List Nat) (d2:D) (k:Nat) (y0 y1 y2 y5:Option D),ek d2 (tf us) k->cR [y0,y1,y2,some (.int (here:Int)),some d2,y5]=some (!decide (here∈us)):=by
  intro here us d2 k y0 y1 y2 y5 h
  have g1:=h.has here
  have Aa:((tf us here).map λ(n:Nat)=>D.int (n:Int)).isSome=decide (here∈us):=by
   unfold tf
   by_cases hh:here∈us
   ·rw[if_pos hh,decide_eq_true hh];rfl
   ·rw[if_neg hh,decide_eq_false hh];rfl
  rw[←Aa]
  generalize (tf us here).map (λ(n:Nat)=>D.int (n:Int))=o at *
  unfold cR
  clear h Aa ko lQ hD
  walk_at "mir"
 have lp:=Rx (c:=cR) (b:=um)
  (λρ=>∃(ws:List Nat) (here:Nat) (d2:D),ρ=[some (.lst (as.map bH)),some d,some (.int (v:Int)),some (.int (here:Int)),some d2,some (.lst (ap ws))]/\Wk ch (aS as) (aG as) lr v here ws/\here<many/\(∀n∈ws,n<as.length)/\ek d2 (tf (ws.map (aG as))) ws.length) Wm
  (λ_=>False) (by
   rintro ρ ⟨ws,here,d2,rfl,hw,hh,hn,h2⟩
   have E2:ws.length<=many:=by
    rw[←ay (f:=aG as)]
    refine Kahn.len_le hw.nd λx hx=>?_
    obtain⟨n,h1,rfl⟩:=bz.mp hx
    exact(lQ _ (jw (hn n h1))).g
   refine⟨_,t6 here _ d2 _ _ _ _ _ h2,λht=>.inl ?_⟩
   have rE:here∉ws.map (aG as):=by simpa using ht
   have Ga:(ws.map (aG as)++[here]).Nodup:=bj.mpr ⟨hw.nd,by simp,λa ha b hb e=>rE (by rw[←ax.mp hb,←e];exact ha)⟩
   have qI:=Kahn.len_le (many:=many) Ga λx hx=>by
    rcases aZ.mp hx with hx|hx
    ·obtain⟨n,h1,rfl⟩:=bz.mp hx
     exact(lQ _ (jw (hn n h1))).g
    ·rw[ax.mp hx];exact hh
   rw[aW,ay,cL]at qI
   have hl:=hw.lr
   obtain⟨n,c1,c2,c3,c4⟩:=ko here (by omega)
   obtain⟨d3,put,Pd⟩:=h2.put (by omega) here ws.length
   have put:=put [some (.lst (as.map bH)),some d,some (.int (v:Int)),some (.int (here:Int)),some d2,some (.lst (ap ws))] 4 (eV 3) (eN dZ (aCons (eV 5) aNil)) (by
    show dZ [.lst (ap ws)]=_
    rw[qj];unfold ap;rw[ay]) rfl rfl
   have g1:=hD.get c1
   have f1:=fs (aN as n)
   have i1:cP (.lst (as.map bH)) (.int (n:Int))=some (bH (aN as n)):=ue (by rw[aQ,xZ c2];rfl)
   refine⟨[some (.lst (as.map bH)),some d,some (.int (v:Int)),some (.int ((aN as n).s:Int)),some d3,some (.lst (ap (ws++[n])))],?_,⟨ws++[n],(aN as n).s,d3,rfl,⟨λk hk=>?_,hw.way.snoc c3,?_,?_⟩,(lQ _ (jw c2)).s,λk hk=>?_,?_⟩,?_⟩
   ·have e3:ap (ws++[n])=ap ws++[.int (n:Int)]:=by unfold ap;rw[cZ];rfl
    have hz:(ap ws).length<16777216:=by unfold ap;rw[ay];omega
    rw[e3]
    generalize as.map bH=al,ap ws=wl,bH (aN as n)=ea at *
    unfold um
    generalize iR 4 (eV 3) (eN dZ (aCons (eV 5) aNil))=PP at *
    clear e3 Pd c1 c2 c3 c4 hl qI Ga rE ht E2 h2 hn hh hw t6 hD ko lQ hv Pl hm
    walk_at "mir"
   ·rcases aZ.mp hk with hk|hk
    ·exact hw.ch k hk
    ·rw[ax.mp hk,c3];exact⟨c1,by omega⟩
   ·rw[cZ,kh,c3];exact Ga
   ·rw[aW,cL]
    have:(aN as n).s=aS as n:=rfl
    rw[this]
    omega
   ·rcases aZ.mp hk with hk|hk
    ·exact hn k hk
    ·rw[ax.mp hk];exact c2
   ·rw[aW,cL,cZ,kh,c3]
    refine Pd.congr λy=>?_
    have:=zsx (ws.map (aG as)) rE y
    rw[ay]at this
    exact this
   ·show 1000-(ap (ws++[n])).length<1000-(ap ws).length
    unfold ap
    rw[ay,ay,aW,cL]
    omega) lN [some (.lst (as.map bH)),some d,some (.int (v:Int)),some (.int (v:Int)),some (.dK [] []),some (.lst (ap []))]
  ⟨[],v,.dK [] [],rfl,⟨λn hn=>(by cases hn),rfl,by simp,by simp⟩,hv,λn hn=>(by cases hn),ek.nil.congr λ_=>by simp[tf]⟩ (JC (by show 1000-(ap []).length<1048576;omega))
 have n0:ap []=[]:=rfl
 rw[n0]at lp
 rcases lp with⟨ρ',l1,⟨ws,here,d2,rfl,hw,hh,hn,h2⟩,hc⟩|⟨_,_,f⟩
 ·rw[t6 here _ d2 _ _ _ _ _ h2]at hc
  have qH:here∈ws.map (aG as):=by simpa using hc
  have hj:tf (ws.map (aG as)) here=some ((ws.map (aG as)).idxOf here):=by unfold tf;rw[if_pos qH]
  have rD:=nL.mpr qH
  have t8:(ws.map (aG as))[(ws.map (aG as)).idxOf here]?=some here:=by
   rw[bG rD,qW]
  generalize (ws.map (aG as)).idxOf here=j at *
  rw[ay]at rD
  rw[aQ,bG rD]at t8
  replace t8:aG as ws[j]=here:=by simpa using t8
  have wlk:pE (aS as) (aG as) here (ws.drop j) here:=by
   have:=hw.way.drop (j:=j) (n:=ws[j]) (bG rD)
   rw[t8]at this
   exact this
  refine⟨(ws.drop j).reverse,here,?_,?_,wlk.wlk,?_,λn EK=>?_⟩
  ·have gv:=h2.get hj
   have ct:cutD (ap ws) (some (j:Int)) none=ap (ws.drop j):=by
    rw[Q8]
    unfold ap
    rw[nM]
   have lv:tu (.lst (ap (ws.drop j)))=some (.lst (ap (ws.drop j).reverse)):=by
    show some (D.lst (ap (ws.drop j)).reverse)=_
    unfold ap
    rw[←lJ]
   unfold cR at l1
   generalize ap (ws.drop j).reverse=wr at *
   generalize ap (ws.drop j)=wd,as.map bH=al,ap ws=wl at *
   unfold ub gb
   generalize (tb (λρ=>((eV 3) ρ).bind λx=>((eV 4) ρ).bind λy=>(fq y x).bind λr=>some (.bl (!r.isSome))))=cc at *
   clear wlk t8 rD hj qH hc h2 hn hh hw t6 hD ko lQ hv Pl hm
   walk_at "mir"
  ·intro e
   have:=congrArg jH e
   rw[dH,iG]at this
   simp at this
   omega
  ·rw[lJ,nM]
   exact pv.mpr ((fw.sublist (rR _ _) hw.nd).imp λh e=>h e.symm)
  ·exact hw.ch n (pJ (sA.mp EK))
 ·exact f.elim
def qP (many:Nat)(p:Int×Int)(T:Nat->Int):D:=.lst ((aE many).map λg=>fr (Fq.mk (T g) p.2))
def Ot (many:Nat)(as:List ck)(p:Int×Int)(aI:List Nat)(B:Int)(d:D):Prop :=
 (∃T:Nat->Int,d=.tup [.str "times",qP many p T]/\(∀n∈aI,T (aS as n)+dN as p n<=T (aG as n))/\∀x,0<=T x/\T x<=B) \/
 ∃(R:List Nat) (x:Nat),d=.tup [.str "ring",.lst (ap R)]/\R≠[]/\mw (aS as) (aG as) x R x/\(R.map (aG as)).Nodup/\(∀n∈R,n∈aI)/\0<(R.map (dN as p)).sum
theorem zsy (many:Nat):(aA many [D.int 0]).flatten=ed many λ_=>0:=by
 unfold ed
 rw[iY,aY]
 induction many with
 |zero=>rfl
 |succ n ih=>rw[cJ,d6,ih,cJ];rfl
theorem zpl {many:Nat}{p:Int×Int}{T:Nat->Int}(hm:many<=1000)(hp:p.2≠0)(sj:Sz 8000 p.2)(r:L3.Env)(h1:r[1]?.join=some (fr p))(h3:r[3]?.join=some (.lst (ed many T))):uq r=some (qP many p T):=by
 unfold qP
 refine wx (λ(g:Nat)=>D.int (T g)) (λg=>fr (Fq.mk (T g) p.2)) (aE many) (by unfold lsD;have:eV 3 r=_:=h3;rw[this];rfl) (by rw[aY];omega) λg _=>⟨_,rfl,?_⟩
 have fK:dE r [1]=[some (fr p)]:=by unfold dE;simp[h1]
 rw[fK]
 have p1:=mY p
 have ra:=BS (t:=T g) hp sj
 generalize fr (Fq.mk (T g) p.2)=F,fr p=fp at *
 clear fK h1 h3 hm sj
 walk_at "mir"
theorem R6 {many:Nat}{as:List ck}{ns:List D}{p:Int×Int}{aI:List Nat}{M:Int}(i7:ns.length=many)(Br:1<=many)(hm:many<=900)(VS:aI.length<=1000)(lQ:∀a∈as,B0 many a)(hp:p.2≠0)(sj:Sz 8000 p.2)(hM:∀n,n<as.length->dN as p n<=M)(nU:0<=M)(hn:∀n∈aI,n<as.length) :
  ∃d,xl [bu ns as,fr p,.lst (ap aI)]=some d/\Ot many as p aI ((many:Int)*((aI.length:Int)*M)) d:=by
 have ln:dZ [.lst ns]=some (.int (many:Int)):=(qj _).trans (by rw[i7])
 have Lf:=BK ns as
 have Le:=Hu ns as
 have Bl:0<=(aI.length:Int)*M:=hG (by omega) nU
 have lp:=Je (g:=gV 6) (b:=wk) (n:=many)
  (λi ρ=>∃(T:Nat->Int) (d:D) (ch:Nat->Option Nat) (lr ts:Nat->Nat) (k:Nat) (pu:D) (y6:Option D),ρ=[some (bu ns as),some (fr p),some (.lst (ap aI)),some (.lst (ed many T)),some d,some pu,y6]/\nw aI (aS as) (aG as) (dN as p) (i+1) [] T ch lr ts k/\ek d ch (i*aI.length)/\(∀x,T x<=(i:Int)*((aI.length:Int)*M))/\(∀x,lr x<=i)/\(i=0\/∃v:Nat,pu=.int (v:Int)/\v<many/\lr v=i))
  (Ot many as p aI ((many:Int)*((aI.length:Int)*M))) (by
   rintro i ρ hi ⟨T,d,ch,lr,ts,k,pu,y6,rfl,hP,hD,hC,hl,_⟩
   have Bq:i*aI.length+aI.length<=1000000:=by
    have:i*aI.length<=900*1000:=wJ (by omega) VS
    omega
   obtain⟨T',d',oS,rJ,tM,k',qN,h1,h2,h3,h4,h5⟩:=zvf (ns:=ns) (aI:=aI) lQ hM nU (Nat.succ_pos i) hn hP hD Bq hC (λx=>by have:=hl x;omega)
   have Aj:iM d=true/\iM (.lst (ed many T))=true:=by
    obtain⟨ks,ds,rfl,_⟩:=hD.is
    exact⟨rfl,rfl⟩
   have hB:∀x,T' x<=((i+1:Nat):Int)*((aI.length:Int)*M):=λx=>by
    have:=h4 x
    rw[show((i+1:Nat):Int)=(i:Int)+1 by omega,lZ,mh]
    omega
   have LB:mB 3 4 (aCons (eV 0) (aCons (eV 1) (aCons (eV 2) aNil))) vt [some (bu ns as),some (fr p),some (.lst (ap aI)),some (.lst (ed many T)),some d,some pu,some (.int (i:Int))]=some (qN,[some (bu ns as),some (fr p),some (.lst (ap aI)),some (.lst (ed many T')),some d',some pu,some (.int (i:Int))]):=by
    obtain⟨c1,c2⟩:=Aj
    generalize ed many T=v0 at *
    generalize ed many T'=v1,fr p=F,bu ns as=net,ap aI=nl at *
    unfold mB
    clear hP hD hC hl Bq h2 h3 h4 h5 hB lQ sj hM nU hn Bl ln Lf Le
    walk_at "mir"
   have ss:nJ 5 (mB 3 4 (aCons (eV 0) (aCons (eV 1) (aCons (eV 2) aNil))) vt) [some (bu ns as),some (fr p),some (.lst (ap aI)),some (.lst (ed many T)),some d,some pu,some (.int (i:Int))]=some (.nx [some (bu ns as),some (fr p),some (.lst (ap aI)),some (.lst (ed many T')),some d',some qN,some (.int (i:Int))]):=by
    unfold nJ
    rw[LB]
    rfl
   refine⟨[some (bu ns as),some (fr p),some (.lst (ap aI)),some (.lst (ed many T)),some d,some pu,some (.int (i:Int))],rfl,?_⟩
   rcases h5 with⟨rfl,IA⟩|⟨v,rfl,hv,Iw⟩
   ·refine .inr ⟨.tup [.str "times",qP many p T'],?_,.inl ⟨T',rfl,λn hn=>h2.dn n hn (IA _),λx=>⟨h2.pos x,?_⟩⟩⟩
    ·have q:=zpl (T:=T') (p:=p) (many:=many) (by omega) hp sj [some (bu ns as),some (fr p),some (.lst (ap aI)),some (.lst (ed many T')),some d',some .non,some (.int (i:Int))] rfl rfl
     have sc:(D.str "times").sc=true:=rfl
     generalize ed many T=v0 at *
     generalize ed many T'=v1,fr p=F,bu ns as=net,ap aI=nl,qP many p T'=TM at *
     unfold wk Bk
     generalize nJ 5 (mB 3 4 (aCons (eV 0) (aCons (eV 1) (aCons (eV 2) aNil))) vt)=SM at *
     clear hP hD hC hl Bq h1 h2 h3 h4 IA hB lQ sj hM nU hn Bl ln Lf Le Aj LB
     walk_at "mir"
    ·have h6:=hB x
     have h7:((i+1:Nat):Int)*((aI.length:Int)*M)<=(many:Int)*((aI.length:Int)*M):=bm (by omega) Bl
     omega
   ·refine .inl ⟨[some (bu ns as),some (fr p),some (.lst (ap aI)),some (.lst (ed many T')),some d',some (.int (v:Int)),some (.int (i:Int))],?_,⟨T',d',oS,rJ,tM,k',_,_,rfl,h2.next,?_,hB,h2.le,.inr ⟨v,rfl,hv,Iw⟩⟩⟩
    ·generalize ed many T=v0 at *
     generalize ed many T'=v1,fr p=F,bu ns as=net,ap aI=nl at *
     unfold wk
     generalize nJ 5 (mB 3 4 (aCons (eV 0) (aCons (eV 1) (aCons (eV 2) aNil))) vt)=SM at *
     clear hP hD hC hl Bq h1 h2 h3 h4 Iw hB lQ sj hM nU hn Bl ln Lf Le Aj LB hv
     walk_at "mir"
    ·rw[Nat.add_mul,Nat.one_mul];exact h3)
  many 0 [some (bu ns as),some (fr p),some (.lst (ap aI)),some (.lst (ed many λ_=>0)),some (.dK [] []),some .non,none] (by omega)
  ⟨λ_=>0,.dK [] [],λ_=>none,λ_=>0,λ_=>0,1,.non,none,rfl,nw.start,ek.nil.mono (by omega),λx=>by simp,λx=>aF 0,.inl rfl⟩
 have hrg:gE [.int (many:Int)]=some ((aE many).map λ(t:Nat)=>D.int (t:Int)):=by
  rw[BD (by omega) (by omega)]
  unfold eY
  simp
 have rp:kS (.lst [.int 0]) (.int (many:Int))=some (.lst (ed many λ_=>0)):=by
  show(if -1000000<(many:Int)/\(many:Int)<1000000/\[D.int 0].length<=16 then some (D.lst (aA (many:Int).toNat [D.int 0]).flatten)else none)=_
  rw[if_pos ⟨by omega,by omega,by simp⟩,kX,zsy many]
 rw[←gz]at lp
 rcases lp with⟨ρ',l1,⟨T,d,ch,lr,ts,k,pu,y6,rfl,hP,hD,hC,hl,hv⟩⟩|⟨w,l1,hw⟩
 ·rcases hv with hv|⟨v,rfl,hv,Iw⟩
  ·omega
  obtain⟨R,x,r1,r2,r3,r4,r5⟩:=zwc (as:=as) (many:=many) (v:=v) hD (λx hx=>by
   obtain⟨n,c1,c2,c3,c4,_⟩:=hP.ch x hx
   exact⟨n,c1,hn n c2,c3,c4⟩) lQ hv (by omega) hm
  have key:∀n∈R,n∈aI/\T (aG as n)<=T (aS as n)+dN as p n/\(T (aG as n)<T (aS as n)+dN as p n\/ts (aS as n)<ts (aG as n)):=λn VQ=>by
   obtain⟨q1,q2⟩:=r5 n VQ
   obtain⟨n',c1,c2,c3,c4,c5,c6⟩:=hP.ch _ q2
   rw[q1]at c1
   have:=Option.some.inj c1
   subst this
   exact⟨c2,c5,c6⟩
  obtain⟨_,k2⟩:=nw.cost (T:=T) (ts:=ts) (S:=aS as) (G:=aG as) (c:=dN as p) (Q:=λn=>n∈R) (λn h=>(key n h).2) r3 (λn h=>h)
  refine⟨.tup [.str "ring",.lst (ap R)],?_,.inr ⟨R,x,rfl,r2,r3,r4,λn h=>(key n h).1,?_⟩⟩
  ·have sc:(D.str "ring").sc=true:=rfl
   clear hP hD hC hl Iw hv key k2 r2 r3 r4 r5 lQ sj hM nU hn Bl
   generalize ed many T=v0,(ed many λ_=>0)=v1,fr p=F,as.map bH=al,bu ns as=net,ap aI=nl,ap R=rl,(aE many).map (λ(t:Nat)=>D.int (t:Int))=X3 at *
   unfold xl Bk
   walk_at "mir"
  ·rcases k2 with k2|k2|k2
   ·exact absurd k2 r2
   ·omega
   ·omega
 ·refine⟨w,?_,hw⟩
  clear hw lQ sj hM nU hn Bl
  generalize (ed many λ_=>0)=v1,fr p=F,as.map bH=al,bu ns as=net,ap aI=nl,(aE many).map (λ(t:Nat)=>D.int (t:Int))=X3 at *
  unfold xl Bk
  walk_at "mir"
theorem Tv {as:List ck}{n:Nat}(h1:n<as.length):cP (.lst (as.map d8)) (.int (n:Int))=some (.tup [.int ((aN as n).s:Int),.int ((aN as n).g:Int),.int (aN as n).t,.int ((aN as n).b:Int)]):=ue (by rw[aQ,xZ h1];rfl)
def tN (as:List ck)(n:Nat):Int:=(aN as n).t
def bN (as:List ck)(n:Nat):Int:=((aN as n).b:Int)
theorem JH {as:List ck}{p:Int×Int}:∀w:List Nat,(w.map (dN as p)).sum=(w.map (tN as)).sum*p.2-(w.map (bN as)).sum*p.1
 |[]=>by simp
 |n::w=>by
  rw[aM,aM,aM,bL,bL,bL,JH w]
  unfold dN tN bN
  grind
theorem JI {f:Nat->Int}{m:Int}(hm:0<=m):∀is:List Nat,(∀i∈is,0<=f i/\f i<=m)->0<=(is.map f).sum/\(is.map f).sum<=m*(is.length:Int)
 |[],_=>by simp
 |i::is,h=>by
  obtain⟨h1,h2⟩:=JI hm is λj hj=>h j (ah _ hj)
  obtain⟨h3,h4⟩:=h i aa
  rw[aM,bL,aV]
  refine⟨by omega,?_⟩
  rw[show((is.length+1:Nat):Int)=(is.length:Int)+1 by omega,Int.mul_add,jM]
  omega
theorem R7 {as:List ck}{rank:Nat->Nat}(uZ:∀a∈as,a.b=0->rank a.s<rank a.g):∀{w:List Nat} {a b:Nat},mw (aS as) (aG as) a w b->(∀n∈w,n<as.length)->0<=(w.map (bN as)).sum/\((w.map (bN as)).sum=0->rank a+w.length<=rank b)
 |[],a,b,h,_=>by
  have h:a=b:=h
  subst h
  simp
 |n::w,a,b,h,hn=>by
  obtain⟨i1,i2⟩:=R7 uZ h.2 λm hm=>hn m (ah _ hm)
  rw[aM,bL,aV]
  have h0:0<=bN as n:=by unfold bN;omega
  refine⟨by omega,λe=>?_⟩
  have h1:bN as n=0:=by omega
  have h2:=uZ _ (jw (hn n aa)) (by unfold bN at h1;omega)
  have h3:=i2 (by omega)
  have e1:a=(aN as n).s:=h.1.symm
  have e2:aG as n=(aN as n).g:=rfl
  rw[e2]at h3
  rw[e1]
  omega
theorem zwm {as:List ck}{w:List Nat}{j:Int}{f:ck->Int}{q:EF}{fi:L3.Env->Option (List D)}(hq:q=dA fi 1 [0] (gV 0) eI (e2 cP (e2 cP (eV 1) (eV 0)) (eC (.int j))))(hf:∀a:ck,cP (.tup [.int (a.s:Int),.int (a.g:Int),.int a.t,.int (a.b:Int)]) (.int j)=some (.int (f a)))(hl:w.length<=1000)(hr:∀n∈w,n<as.length)(r:L3.Env)(h0:r[0]?.join=some (.lst (as.map d8)))(hi:fi r=some (ap w)) :
  q r=some (.lst ((w.map λn=>f (aN as n)).map .int)):=by
 rw[hq,cv]
 refine wx (λ(n:Nat)=>D.int (n:Int)) (λn=>D.int (f (aN as n))) w hi (by omega) λn hn=>⟨_,rfl,?_⟩
 have fK:dE r [0]=[some (.lst (as.map d8))]:=by unfold dE;simp[h0]
 rw[fK]
 have i1:=Tv (as:=as) (hr n hn)
 have f1:=hf (aN as n)
 generalize f (aN as n)=v,as.map d8=al,(D.tup [.int ((aN as n).s:Int),.int ((aN as n).g:Int),.int (aN as n).t,.int ((aN as n).b:Int)])=tp at *
 clear fK h0 hr hn hl hf hq hi
 walk_at "mir"
theorem zsz {T B c1 c2 m1 m2 S P:Int}(hc:0<c2)(hm:0<m2)(v:m1*(2*B*c2)=(T*c2+c1*B)*m2)(h:(c1*B-T*c2)*P<=S*c2*B):(m1*B-T*m2)*(2*P)<=S*m2*B:=by
 have e:(m1*B-T*m2)*(2*P)*c2=(c1*B-T*c2)*P*m2:=by
  have:(m1*B-T*m2)*(2*P)*c2=(m1*(2*B*c2)-2*T*c2*m2)*P:=by grind
  rw[this,v];grind
 have h1:=bm h (cN hm)
 rw[←e]at h1
 have e2:S*c2*B*m2=S*m2*B*c2:=by grind
 rw[e2]at h1
 exact eZ h1 hc
theorem zwd {T B T2 B2 c1 c2 m1 m2 S P:Int}(hc:0<c2)(hm:0<m2)(hB:0<B)(Vm:0<B2)(hP:0<P)(v:m1*(2*B*c2)=(T*c2+c1*B)*m2)(ha:m1*B2<T2*m2)(h:(c1*B-T*c2)*P<=S*c2*B):(c1*B2-T2*c2)*(2*P)<=S*c2*B2:=by
 have k1:(c1*B2-T2*c2)*m2<=B2*(c1*m2-m1*c2):=by
  have:=bm (cN ha) (cN hc)
  grind
 have k2:(c1*m2-m1*c2)*(2*B)=m2*(c1*B-T*c2):=by grind
 have k3:(c1*B2-T2*c2)*m2*(2*B)<=B2*(m2*(c1*B-T*c2)):=by
  have:=bm k1 (show(0:Int)<=2*B by omega)
  rw[Int.mul_assoc B2,k2]at this
  exact this
 have k4:=bm k3 (cN hP)
 have k5:=cr h (cN (dw Vm hm))
 have k6:(c1*B2-T2*c2)*(2*P)*(m2*B)<=S*c2*B2*(m2*B):=by
  have e1:(c1*B2-T2*c2)*(2*P)*(m2*B)=(c1*B2-T2*c2)*m2*(2*B)*P:=by grind
  have e2:B2*(m2*(c1*B-T*c2))*P=B2*m2*((c1*B-T*c2)*P):=by grind
  have e3:B2*m2*(S*c2*B)=S*c2*B2*(m2*B):=by grind
  rw[e1]
  rw[e2]at k4
  rw[e3]at k5
  exact pd k4 k5
 exact eZ k6 (dw hm hB)
theorem zvh {T B T' B' c1 c2 D:Int}(hc:0<c2)(hB:0<B)(Vn:B<=D)(Lq:0<B')(Lr:B'<=D)(h:(c1*B-T*c2)*(D*D)<c2*B)(hu:T' * c2<=c1*B'):T' * B<=T*B':=by
 apply Int.not_lt.mp
 intro hn
 have k1:c2<=B' * (c1*B-T*c2):=by
  have a1:c2<=(T' * B-T*B')*c2:=by
   have:1*c2<=(T' * B-T*B')*c2:=bm (by omega) (cN hc)
   omega
  have a2:=cr hu (cN hB)
  grind
 have hx:0<=c1*B-T*c2:=by
  apply Int.not_lt.mp
  intro z
  have:=Int.mul_lt_mul_of_pos_left z Lq
  omega
 generalize c1*B-T*c2=x at *
 have k2:=bm k1 (cN hB)
 have k3:B' * x*B<=x*(D*D):=by
  have b1:B' * B<=D*D:=dQ Lr Vn (cN hB) (by omega)
  have b2:=cr b1 hx
  have e:B' * x*B=x*(B' * B):=by grind
  rw[e];exact b2
 omega
theorem zs0 {T B c1 c2 S P D:Int}(hx:c2*B<=(c1*B-T*c2)*(D*D))(hc:0<c2)(hB:0<B)(hS:0<=S)(hP:0<P)(h:(c1*B-T*c2)*P<=S*c2*B):P<=S*(D*D):=by
 have pos:0<c2*B:=dw hc hB
 have V8:0<c1*B-T*c2:=by
  apply Int.not_le.mp
  intro z
  have hD:0<=D*D:=by
   rcases Int.le_total 0 D with h|h
   ·exact hG h h
   ·exact kA h h
  have:(c1*B-T*c2)*(D*D)<=0:=Int.mul_nonpos_of_nonpos_of_nonneg z hD
  omega
 generalize c1*B-T*c2=x at *
 have k1:=cr hx hS
 have e1:S*(c2*B)=S*c2*B:=by grind
 rw[e1]at k1
 have k2:x*P<=x*(S*(D*D)):=by
  have e2:S*(x*(D*D))=x*(S*(D*D)):=by grind
  rw[e2]at k1
  exact pd h k1
 exact Int.le_of_mul_le_mul_left k2 V8
theorem zvi {T B c1 c2 m1 m2 S:Int}(hc:0<c2)(hB:0<B)(hm:0<m2)(hT:T<=S*B)(h:c1<=S*c2)(v:m1*(2*B*c2)=(T*c2+c1*B)*m2):m1<=S*m2:=by
 have k1:=bm hT (cN hc)
 have k2:=bm h (cN hB)
 have k3:T*c2+c1*B<=S*(2*B*c2):=by grind
 have k4:=bm k3 (cN hm)
 rw[←v]at k4
 have e:S*(2*B*c2)*m2=S*m2*(2*B*c2):=by grind
 rw[e]at k4
 have pos:0<2*B*c2:=dw (by omega) hc
 exact eZ k4 pos
theorem zvj {T B T' B' q1 q2:Int}(hB:0<B)(hq:0<q2)(e:q1*B=T*q2)(h:T' * B<=T*B'):T' * q2<=q1*B':=by
 have k:=bm h (cN hq)
 have e1:T' * B*q2=T' * q2*B:=by grind
 have e2:T*B' * q2=q1*B' * B:=by
  have:T*B' * q2=T*q2*B':=by grind
  rw[this,←e];grind
 rw[e1,e2]at k
 exact eZ k hB
def sT (as:List ck)(R:List Nat):Int:=(R.map (tN as)).sum
def sB (as:List ck)(R:List Nat):Int:=(R.map (bN as)).sum
structure RG (as:List ck)(aI:List Nat)(R:List Nat):Prop where
 ne:R≠[]
 w:∃x,mw (aS as) (aG as) x R x
 nd:(R.map (aG as)).Nodup
 m:∀n∈R,n∈aI
structure GN (many:Nat)(as:List ck)(aI:List Nat)(rk:Nat->Nat)(mb:Nat):Prop where
 m1:1<=many
 m:many<=40
 al:as.length<=120
 ok:∀a∈as,B0 many a
 n:∀n∈aI,n<as.length
 nl:aI.length<=120
 r:∀a∈as,a.b=0->rk a.s<rk a.g
 b1:1<=mb
 b4:mb<=4
 b:∀a∈as,a.b<=mb
theorem To {f:Nat->Int}:∀aI:List Nat,(∀n∈aI,0<=f n)->0<=(aI.map f).sum
 |[],_=>by simp
 |n::aI,h0=>by
  rw[aM,bL]
  have:=To aI λm hm=>h0 m (ah _ hm)
  have:=h0 n aa
  omega
theorem zpm {l1 l2:List Int}(p:l1.Perm l2):l1.sum=l2.sum:=by
 induction p with
 |nil=>rfl
 |cons x _ ih=>rw[bL,bL,ih]
 |swap x y l=>rw[bL,bL,bL,bL];omega
 |trans _ _ E9 Fa=>exact E9.trans Fa
theorem RH {f:Nat->Int}:∀(R aI:List Nat),(∀n∈aI,0<=f n)->R.Nodup->(∀n∈R,n∈aI)->(R.map f).sum<=(aI.map f).sum
 |[],aI,h0,_,_=>by
  have:=To aI h0
  simpa using this
 |n::R,aI,h0,nd,hs=>by
  have hn:=hs n aa
  have p:=pK hn
  have e:(aI.map f).sum=f n+((aI.erase n).map f).sum:=by
   have p2:=p.map f
   rw[aM]at p2
   rw[zpm p2,bL]
  obtain⟨n1,n2⟩:=bw.mp nd
  have ih:=RH R (aI.erase n) (λm hm=>h0 m (List.mem_of_mem_erase hm)) n2 λm hm=>(List.mem_erase_of_ne (λ(z:m=n)=>n1 (by rw[←z];exact hm))).mpr (hs m (ah _ hm))
  rw[aM,bL,e]
  omega
section
variable {many:Nat}{as:List ck}{aI:List Nat}{rk:Nat->Nat}{mb:Nat}
theorem RG.lt (h:RG as aI R)(g:GN many as aI rk mb):∀n∈R,n<as.length:=λn hn=>g.n n (h.m n hn)
theorem RG.len {R:List Nat}(h:RG as aI R)(g:GN many as aI rk mb):R.length<=many:=by
 rw[←ay (f:=aG as)]
 refine Kahn.len_le h.nd λy hy=>?_
 obtain⟨n,q1,rfl⟩:=bz.mp hy
 exact(g.ok _ (jw (h.lt g n q1))).g
theorem RG.bds {R:List Nat}(h:RG as aI R)(g:GN many as aI rk mb):(0<=sT as R/\sT as R<=sT as aI)/\1<=sB as R/\sB as R<=(many:Int)*(mb:Int):=by
 have hn:=h.lt g
 have hl:=h.len g
 obtain⟨x,hx⟩:=h.w
 obtain⟨r1,r2⟩:=R7 (rank:=rk) g.r hx hn
 have hwp:=qA.mpr h.ne
 have bt:=JI (f:=tN as) (m:=1000000000) (by decide) R λn h=>⟨(g.ok _ (jw (hn n h))).t0,(g.ok _ (jw (hn n h))).t1⟩
 have bb:=JI (f:=bN as) (m:=(mb:Int)) (by omega) R λn h=>by
  have:=g.b _ (jw (hn n h))
  unfold bN
  omega
 have sP:1<=(R.map (bN as)).sum:=by
  by_cases e:(R.map (bN as)).sum=0
  ·have:=r2 e;omega
  ·omega
 have nd:R.Nodup:=fw.of_map (S:=(·≠·)) (aG as) (λa b h e=>h (by rw[e])) h.nd
 refine⟨⟨bt.1,?_⟩,sP,?_⟩
 ·exact RH R aI (λn hn=>(g.ok _ (jw (g.n n hn))).t0) nd h.m
 ·have:(mb:Int)*(R.length:Int)<=(mb:Int)*(many:Int):=cr (by omega) (by omega)
  have e:(mb:Int)*(many:Int)=(many:Int)*(mb:Int):=e9 _ _
  have:=bb.2
  unfold sB
  omega
theorem GN.st (g:GN many as aI rk mb):0<=sT as aI/\sT as aI<=120000000000:=by
 have bt:=JI (f:=tN as) (m:=1000000000) (by decide) aI λn h=>⟨(g.ok _ (jw (g.n n h))).t0,(g.ok _ (jw (g.n n h))).t1⟩
 have:=g.nl
 exact⟨bt.1,by have:=bt.2;unfold sT;omega⟩
theorem GN.D (g:GN many as aI rk mb):1<=(many:Int)*(mb:Int)/\(many:Int)*(mb:Int)<=160:=by
 have h1:=g.m1
 have h2:=g.b1
 have a:(1:Int)*1<=(many:Int)*(mb:Int):=dQ (by omega) (by omega) (by decide) (by omega)
 have b:(many:Int)*(mb:Int)<=40*4:=dQ (by have:=g.m;omega) (by have:=g.b4;omega) (by omega) (by decide)
 omega
theorem Ro {p:Int×Int}{T:Nat->Int}(hk:∀n∈aI,T (aS as n)+dN as p n<=T (aG as n)):∀{w:List Nat} {a b:Nat},mw (aS as) (aG as) a w b->(∀n∈w,n∈aI)->T a+(w.map (dN as p)).sum<=T b
 |[],a,b,h,_=>by
  have h:a=b:=h
  subst h
  simp
 |n::w,a,b,h,hn=>by
  have i1:=Ro hk h.2 λm hm=>hn m (ah _ hm)
  have i2:=hk n (hn n aa)
  rw[h.1]at i2
  rw[aM,bL]
  omega
def Kp (as:List ck)(aI:List Nat)(p:Int×Int):Prop:=∃T:Nat->Int,∀n∈aI,T (aS as n)+dN as p n<=T (aG as n)
theorem Kp.le {p:Int×Int}(h:Kp as aI p){R:List Nat}(hR:RG as aI R):sT as R*p.2<=p.1*sB as R:=by
 obtain⟨T,hT⟩:=h
 obtain⟨x,hx⟩:=hR.w
 have:=Ro hT hx hR.m
 rw[JH]at this
 unfold sT sB
 rw[e9 p.1]
 omega
theorem SQ (as:List ck)(p:Int×Int):∀k:Nat,∃M:Int,0<=M/\∀n,n<k->dN as p n<=M
 |0=>⟨0,dr 0,λn h=>absurd h (by omega)⟩
 |k+1=>by
  obtain⟨M,h1,h2⟩:=SQ as p k
  refine⟨max M (dN as p k),by omega,λn hn=>?_⟩
  by_cases e:n=k
  ·rw[e];omega
  ·have:=h2 n (by omega);omega
theorem SR {ns:List D}{p:Int×Int}(g:GN many as aI rk mb)(i7:ns.length=many)(hp:0<p.2)(hz:Sz 8000 p.2) :
  ∃d,vv [bu ns as,fr p,.lst (ap aI)]=some d/\((d=.non/\Kp as aI p)\/∃R,d=.lst (ap R)/\RG as aI R/\p.1*sB as R<sT as R*p.2):=by
 obtain⟨M,nU,hM⟩:=SQ as p as.length
 obtain⟨d,h1,h2⟩:=R6 (ns:=ns) (aI:=aI) (p:=p) i7 g.m1 (by have:=g.m;omega) (by have:=g.nl;omega) g.ok (by omega) hz hM nU g.n
 have i0:∀(a b:D),cP (.tup [a,b]) (.int 0)=some a:=λ_ _=>rfl
 have i1:∀(a b:D),cP (.tup [a,b]) (.int 1)=some b:=λ_ _=>rfl
 rcases h2 with⟨T,rfl,h3,_⟩|⟨R,x,rfl,r1,r2,r3,r4,r5⟩
 ·refine⟨.non,?_,.inl ⟨rfl,T,h3⟩⟩
  have e1:lD false (.str "times") (.str "ring")=some (.bl false):=by with_unfolding_all rfl
  generalize qP many p T=TM at *
  clear h3 hM nU hz hp g
  generalize fr p=F,bu ns as=net,ap aI=nl at *
  unfold vv
  walk_at "mir"
 ·refine⟨.lst (ap R),?_,.inr ⟨R,rfl,⟨r1,⟨x,r2⟩,r3,r4⟩,?_⟩⟩
  ·have e1:lD false (.str "ring") (.str "ring")=some (.bl true):=by with_unfolding_all rfl
   generalize ap R=rl at *
   clear r1 r2 r3 r4 r5 hM nU hz hp g
   generalize fr p=F,bu ns as=net,ap aI=nl at *
   unfold vv
   walk_at "mir"
  ·rw[JH]at r5
   unfold sT sB
   rw[e9 p.1]
   omega
theorem NZ {ns:List D}{R:List Nat}(g:GN many as aI rk mb)(h:RG as aI R):wA [bu ns as,.lst (ap R)]=some (fr (Fq.mk (sT as R) (sB as R))):=by
 have hb:=h.bds g
 have e1:((R.map λ(n:Nat)=>(n:Int)).map (tI as))=R.map (tN as):=by rw[cv];exact eo λn _=>by simp[tI,tN]
 have e2:((R.map λ(n:Nat)=>(n:Int)).map (bI as))=R.map (bN as):=by rw[cv];exact eo λn _=>by simp[bI,bN]
 have en:(R.map λ(n:Nat)=>(n:Int)).map D.int=ap R:=by rw[cv];rfl
 have m:=zve (ns:=ns) (as:=as) (is:=R.map λ(n:Nat)=>(n:Int)) (by rw[ay];have:=h.len g;have:=g.m;omega) (λa ha=>(g.ok a ha).b) (λi hi=>by
  obtain⟨n,h1,rfl⟩:=bz.mp hi
  have:=h.lt g n h1
  omega) (by rw[e2];have:=hb.2.1;unfold sB at this;omega)
 rw[e1,e2,en]at m
 exact m
theorem zs1 {ns:List D}(hl:as.length<=120):∃mb:Nat,iq 4 "most_behind" zk (bu ns as) []=some (.int (mb:Int))/\1<=mb/\(∀a∈as,a.b<=mb)/\∀k:Nat,1<=k->(∀a∈as,a.b<=k)->mb<=k:=by
 have q:uf [some (bu ns as)]=some (.lst ((as.map λa=>(a.b:Int)).map .int)):=by
  rw[cv]
  refine wx (own:=1) (cap:=[]) (g:=gV 0) bH (λa=>D.int (a.b:Int)) as (by rfl) (by omega) λa _=>⟨_,rfl,?_⟩
  exact fb a
 have ad:eG (.lst [.int 1]) (.lst ((as.map λa=>(a.b:Int)).map .int))=some (.lst ((1::as.map λa=>(a.b:Int)).map .int)):=by rw[RU (by simp;omega)];rfl
 have mx:∃v:Int,tD [.lst ((1::as.map λa=>(a.b:Int)).map .int)]=some (.int v)/\v∈(1::as.map λa=>(a.b:Int))/\∀z∈(1::as.map λa=>(a.b:Int)),z<=v:=by
  refine⟨_,?_,RV (ns:=1::as.map λa=>(a.b:Int)) rfl⟩
  show(eO ((1::as.map λa=>(a.b:Int)).map .int)).bind _=_
  rw[Nh]
  rfl
 obtain⟨v,v1,v2,v3⟩:=mx
 have V5:=v3 1 aa
 refine⟨v.toNat,?_,by omega,λa ha=>?_,λk hk LS=>?_⟩
 ·have e:((v.toNat:Nat):Int)=v:=by omega
  rw[e]
  show zk [bu ns as]=_
  generalize (1::as.map λa=>(a.b:Int)).map D.int=l1 at *
  generalize (as.map λa=>(a.b:Int)).map D.int=l2,bu ns as=net at *
  clear hl v2 v3 V5 e
  unfold zk
  walk_at "mir"
 ·have:=v3 (a.b:Int) (ah _ (bz.mpr ⟨a,ha,rfl⟩))
  omega
 ·rcases aC.mp v2 with h|h
  ·omega
  ·obtain⟨a,ha,e⟩:=bz.mp h
   have:=LS a ha
   omega
theorem zwe {ns:List D}(i7:ns.length=many){mb:Nat}(oA:iq 4 "most_behind" zk (bu ns as) []=some (.int (mb:Int)))(h1:1<=(many:Int)*(mb:Int))(h2:(many:Int)*(mb:Int)<=160)(h3:mb<=4):qx [bu ns as]=some (fr (Fq.mk 1 ((many:Int)*(mb:Int)*((many:Int)*(mb:Int))))):=by
 have ln:dZ [.lst ns]=some (.int (many:Int)):=(qj _).trans (by rw[i7])
 have f5:=BK ns as
 have m1:dk (.int (many:Int)) (.int (mb:Int))=some (.int ((many:Int)*(mb:Int))):=zas (by omega) (by omega)
 have hD:0<(many:Int)*(mb:Int)*((many:Int)*(mb:Int))/\(many:Int)*(mb:Int)*((many:Int)*(mb:Int))<=160*160:=⟨dw (by omega) (by omega),dQ h2 h2 (by omega) (by decide)⟩
 generalize (many:Int)*(mb:Int)=D0 at *
 have m2:dk (.int D0) (.int D0)=some (.int (D0*D0)):=zas (by omega) (by omega)
 have ra:=BS (t:=1) (b:=D0*D0) (by omega) (sx (w:=25600) (by omega) (by omega) (by decide))
 generalize fr (Fq.mk 1 (D0*D0))=F,bu ns as=net at *
 clear hD h1 h2 h3
 unfold qx
 walk_at "mir"
theorem zvk {p q:Int×Int}{a b c d:Int}(lp:Fq.Low p)(lq:Fq.Low q)(h1:p.1*b=a*p.2)(h2:q.1*d=c*q.2):(Fq.plus p q).1*(b*d)=(a*d+c*b)*(Fq.plus p q).2:=by
 have v:=Fq.plus_v p q
 generalize Fq.plus p q=s at *
 have kr:p.2*q.2≠0:=lp.mul_ne lq
 obtain⟨p1,p2⟩:=p
 obtain⟨q1,q2⟩:=q
 obtain⟨s1,s2⟩:=s
 dsimp only at *
 apply gZ kr
 have e:(a*d+c*b)*s2*(p2*q2)=(a*p2*(d*q2)+c*q2*(b*p2))*s2:=by grind
 rw[e,←h1,←h2]
 have e2:(p1*b*(d*q2)+q1*d*(b*p2))*s2=(p1*q2+q1*p2)*s2*(b*d):=by grind
 rw[e2,←v]
 grind
def nW (p q:Int×Int):Int×Int:=Fq.mk (Fq.plus p q).1 ((Fq.plus p q).2*2)
theorem zpn {p q:Int×Int}{n:Nat}(hn:n<=2000)(lp:Fq.Low p)(lq:Fq.Low q)(zp:Fz n p)(zq:Fz n q):Jn [fr p,fr q]=some (fr (nW p q)):=by
 have pl:=Tn hn lp lq zp zq
 have zz:=Su lp lq zp zq
 have ll:=Fq.plus_low lp lq
 unfold nW
 generalize Fq.plus p q=s at *
 have f0:=Ab s
 have f1:=mY s
 have m1:dk (.int s.2) (.int 2)=some (.int (s.2*2)):=zas (by decide) (by decide)
 have two:Sz 2 (2:Int):=sx (w:=2) (by decide) (by decide) (by decide)
 have ra:=BS (t:=s.1) (b:=s.2*2) (by have:=ll.gt;omega) ((zz.2.mul two).mono (by omega))
 generalize fr (Fq.mk s.1 (s.2*2))=F,fr s=S,fr p=Fp,fr q=Fq' at *
 clear zz ll lp lq zp zq two hn
 unfold Jn
 walk_at "mir"
theorem zvl {p q:Int×Int}{a b c d:Int}(lp:Fq.Low p)(lq:Fq.Low q)(h1:p.1*b=a*p.2)(h2:q.1*d=c*q.2):(nW p q).1*(2*b*d)=(a*d+c*b)*(nW p q).2:=by
 have v:=zvk lp lq h1 h2
 have m:=Fq.mk_cross (Fq.plus p q).1 ((Fq.plus p q).2*2)
 have g:=(Fq.plus_low lp lq).gt
 unfold nW
 generalize Fq.mk (Fq.plus p q).1 ((Fq.plus p q).2*2)=m' at *
 generalize Fq.plus p q=s at *
 obtain⟨m1,m2⟩:=m'
 obtain⟨s1,s2⟩:=s
 dsimp only at *
 apply gZ (show s2≠0 by omega)
 have e1:m1*(2*b*d)*s2=m1*(s2*2)*(b*d):=by grind
 have e2:(a*d+c*b)*m2*s2=(a*d+c*b)*s2*m2:=by grind
 rw[e1,e2,←v,m]
 grind
theorem RI {p q:Int×Int}(lp:Fq.Low p)(lq:Fq.Low q):Fq.Low (nW p q):=Fq.mk_low (by have:=(Fq.plus_low lp lq).gt;omega)
theorem zs2 {p q:Int×Int}(lp:Fq.Low p)(lq:Fq.Low q):(nW p q).2<=p.2*q.2*2:=by
 have h1:=Fq.mk_le_two (t:=(Fq.plus p q).1) (b:=(Fq.plus p q).2*2) (by have:=(Fq.plus_low lp lq).gt;omega)
 have h2:=Fq.mk_le_two (t:=p.1*q.2+q.1*p.2) (b:=p.2*q.2) (lp.mul_ne lq)
 have g1:=(Fq.plus_low lp lq).gt
 have g2:=(RI lp lq).gt
 have g3:=dw lp.gt lq.gt
 have e:(Fq.mk (p.1*q.2+q.1*p.2) (p.2*q.2))=Fq.plus p q:=rfl
 rw[e]at h2
 have e2:Fq.mk (Fq.plus p q).1 ((Fq.plus p q).2*2)=nW p q:=rfl
 rw[e2]at h1
 omega
end
theorem QR {c:BF}{b:SF}(N:Nat)(I:Nat->L3.Env->Prop)(st:∀i ρ,I i ρ->∃t,c ρ=some t/\(t=true->i<N/\∃ρ',b ρ=some (.nx ρ')/\I (i+1) ρ')) :
  ∀(k i:Nat) (ρ:L3.Env),I i ρ->i<=N->N<i+k->∃i' ρ',iu c b k ρ=some (.nx ρ')/\I i' ρ'/\c ρ'=some false
 |0,i,ρ,_,h1,h2=>absurd h2 (by omega)
 |k+1,i,ρ,hI,hi,h=>by
  obtain⟨t,h1,h2⟩:=st i ρ hI
  cases t with
  |false=>exact⟨i,ρ,by show(c ρ).bind _=_;rw[h1];rfl,hI,h1⟩
  |true=>
   obtain⟨uX,ρ',h3,h4⟩:=h2 rfl
   obtain⟨i',ρ2,h6,h7,h8⟩:=QR N I st k (i+1) ρ' h4 (by omega) (by omega)
   refine⟨i',ρ2,?_,h7,h8⟩
   show(c ρ).bind _=_
   rw[h1]
   show(b ρ).bind _=_
   rw[h3]
   exact h6
def cG:BF:=bNot (tb (λρ=>((aCons (λρ=>((aCons (eV 3) (aCons (λρ=>((aCons (eV 0) (aCons (eV 2) aNil)) ρ).bind λds=>wA (ds++[])) aNil)) ρ).bind λds=>BP (ds++[])) (aCons (eV 4) aNil)) ρ).bind λds=>BQ (ds++[])))
section
variable {many:Nat}{as:List ck}{aI:List Nat}{rk:Nat->Nat}{mb:Nat}
structure GI (as:List ck)(aI:List Nat)(i:Nat)(R:List Nat)(c:Int×Int):Prop where
 r:RG as aI R
 low:Fq.Low c
 up:∀R',RG as aI R'->sT as R' * c.2<=c.1*sB as R'
 le:c.1<=sT as aI*c.2
 sz:c.2<=((320 ^ i:Nat):Int)
 d:(c.1*sB as R-sT as R*c.2)*((2 ^ i:Nat):Int)<=sT as aI*c.2*sB as R
theorem GI.pos {i:Nat}{R:List Nat}{c:Int×Int}(h:GI as aI i R c)(g:GN many as aI rk mb):0<=c.1:=by
 have hb:=h.r.bds g
 have h1:=h.up R h.r
 have h2:0<=sT as R*c.2:=hG hb.1.1 (by have:=h.low.gt;omega)
 exact ma (b:=sB as R) (by omega) (by omega)
theorem tH {i:Nat}(h:i<=60):((320 ^ i:Nat):Int)<=((320 ^ 60:Nat):Int):=by
 have:=dz (n:=320) (by decide) h
 exact Int.ofNat_le.mpr this
theorem qM:120000000000*((320 ^ 60:Nat):Int)<2 ^ 700:=by decide +kernel
theorem GI.fz {i:Nat}{R:List Nat}{c:Int×Int}(h:GI as aI i R c)(g:GN many as aI rk mb)(hi:i<=60):Fz 700 c:=by
 have h0:=h.pos g
 have h1:=h.low.gt
 have h2:=h.sz
 have h3:=tH hi
 have h4:=qM
 have h5:=h.le
 have h6:sT as aI*c.2<=120000000000*((320 ^ 60:Nat):Int):=dQ g.st.2 (by omega) (by omega) (by decide)
 generalize ((320 ^ 60:Nat):Int)=K at *
 exact⟨sx (w:=120000000000*K) (by omega) (by omega) h4,sx (w:=120000000000*K) (by omega) (by omega) h4⟩
theorem JJ {R:List Nat}(h:RG as aI R)(g:GN many as aI rk mb):Fq.Low (Fq.mk (sT as R) (sB as R))/\Fz 700 (Fq.mk (sT as R) (sB as R))/\(Fq.mk (sT as R) (sB as R)).2<=160/\(0<=(Fq.mk (sT as R) (sB as R)).1/\(Fq.mk (sT as R) (sB as R)).1<=120000000000):=by
 obtain⟨⟨t1,t2⟩,b1,b2⟩:=h.bds g
 have hD:=g.D
 have hS:=g.st
 have l:=Fq.mk_low (t:=sT as R) (b:=sB as R) (by omega)
 have k1:=Fq.mk_le_one (t:=sT as R) (b:=sB as R) (by omega)
 have k2:=Fq.mk_le_two (t:=sT as R) (b:=sB as R) (by omega)
 have c:=Fq.mk_cross (sT as R) (sB as R)
 have gg:=l.gt
 have n0:0<=(Fq.mk (sT as R) (sB as R)).1:=by
  refine ma (b:=sB as R) ?_ (by omega)
  rw[c]
  exact hG t1 (by omega)
 exact⟨l,J0 (by omega) (sx (w:=120000000000) (by omega) (by omega) (by decide)) (sx (w:=160) (by omega) (by omega) (by decide)),by omega,n0,by omega⟩
theorem zvm {T B D0:Int}{c:Int×Int}(lc:Fq.Low c)(hB:0<B)(hD:0<D0):Fq.under (Fq.minus c (Fq.mk T B)) (Fq.mk 1 (D0*D0))=decide ((c.1*B-T*c.2)*(D0*D0)<c.2*B):=by
 have lm:=Fq.mk_low (t:=T) (b:=B) (by omega)
 have Af:0<D0*D0:=dw hD hD
 have lg:=Fq.mk_low (t:=1) (b:=D0*D0) (by omega)
 have cm:=Fq.mk_cross T B
 have cg:=Fq.mk_cross 1 (D0*D0)
 have v:=Fq.minus_v (p:=c) (q:=Fq.mk T B) lm
 have ll:=Fq.minus_low lc lm
 generalize Fq.mk T B=m,Fq.mk 1 (D0*D0)=gp at *
 generalize Fq.minus c m=d at *
 have hm:=lm.gt
 have hc:=lc.gt
 have v2:d.1*(c.2*B)=(c.1*B-T*c.2)*d.2:=by
  obtain⟨d1,d2⟩:=d
  obtain⟨m1,m2⟩:=m
  obtain⟨c1,c2⟩:=c
  dsimp only at *
  apply gZ (show m2≠0 by omega)
  have e1:d1*(c2*B)*m2=d1*(c2*m2)*B:=by grind
  have e2:(c1*B-T*c2)*d2*m2=(c1*m2*B-T*m2*c2)*d2:=by grind
  rw[e1,v,e2,←cm]
  grind
 have e:=Fq.lt_congr (n:=d.1) (d:=d.2) (m:=c.1*B-T*c.2) (e:=c.2*B) (n':=gp.1) (d':=gp.2) (m':=1) (e':=D0*D0) ll.gt (dw hc hB) lg.gt Af v2 cg
 unfold Fq.under
 refine decide_eq_decide.mpr (e.trans ?_)
 rw[mh]
theorem zs3 {ns:List D}(g:GN many as aI rk mb)(i7:ns.length=many)(oA:iq 4 "most_behind" zk (bu ns as) []=some (.int (mb:Int))) :
  ∃d,vw [bu ns as,.lst (ap aI)]=some d/\((d=.non/\∀R,¬RG as aI R)\/∃R,d=.lst (ap R)/\RG as aI R/\∀R',RG as aI R'->sT as R' * sB as R<=sT as R*sB as R'):=by
 obtain⟨d0,a1,a2⟩:=SR (ns:=ns) (p:=(-1,1)) g i7 (by decide) (sx (w:=1) (by decide) (by decide) (by decide))
 replace a1:vv [bu ns as,.tup [.int (-1),.int 1],.lst (ap aI)]=some d0:=a1
 have hD:=g.D
 have hS:=g.st
 rcases a2 with⟨rfl,hK⟩|⟨R0,rfl,Bm,_⟩
 ·refine⟨.non,?_,.inl ⟨rfl,λR hR=>?_⟩⟩
  ·generalize bu ns as=net at *
   generalize ap aI=nl at *
   clear g hK hD hS i7 oA
   unfold vw
   walk_at "mir"
  ·have h1:=hK.le hR
   have h2:=hR.bds g
   dsimp only at h1
   omega
 ·have gp:=zwe (as:=as) i7 oA hD.1 hD.2 g.b4
  obtain⟨D0,Eo⟩:∃D0:Int,D0=(many:Int)*(mb:Int):=⟨_,rfl⟩
  rw[←Eo]at gp hD
  have Af:0<D0*D0/\D0*D0<=160*160:=⟨dw (by omega) (by omega),dQ hD.2 hD.2 (by omega) (by decide)⟩
  have zg:Fz 700 (Fq.mk 1 (D0*D0)):=J0 (by omega) (sx (w:=1) (by decide) (by decide) (by decide)) (sx (w:=25600) (by omega) (by omega) (by decide))
  have t6:∀(i:Nat) (R:List Nat) (c:Int×Int) (y1 y5 y6:Option D),GI as aI i R c->i<=60->cG [some (bu ns as),y1,some (.lst (ap R)),some (fr c),some (fr (Fq.mk 1 (D0*D0))),y5,y6]=some (!decide ((c.1*sB as R-sT as R*c.2)*(D0*D0)<c.2*sB as R)):=by
   intro i R c y1 y5 y6 h hi
   have hb:=h.r.bds g
   obtain⟨lm,zm,_⟩:=JJ h.r g
   have me:=NZ (ns:=ns) g h.r
   have zc:=h.fz g hi
   have mi:=zsv (n:=700) (by decide) h.low lm zc zm
   have SA:=zpk h.low lm zc zm
   have un:=zsu (p:=Fq.minus c (Fq.mk (sT as R) (sB as R))) (q:=Fq.mk 1 (D0*D0)) (SA.mono (by decide)) (zg.mono (by decide))
   rw[zvm h.low (by omega) (by omega)]at un
   generalize decide ((c.1*sB as R-sT as R*c.2)*(D0*D0)<c.2*sB as R)=bb,fr (Fq.minus c (Fq.mk (sT as R) (sB as R)))=F1,fr (Fq.mk (sT as R) (sB as R))=F2,fr (Fq.mk 1 (D0*D0))=F3,fr c=F4,ap R=rl,bu ns as=net at *
   clear SA zc zm lm hb h hi gp zg Af hD Eo Bm a1 hS g oA i7
   unfold cG
   walk_at "mir"
  have lp:=QR (c:=cG) (b:=vz) 55
   (λi ρ=>i<=55/\∃(R:List Nat) (c:Int×Int) (y5 y6:Option D),ρ=[some (bu ns as),some (.lst (ap aI)),some (.lst (ap R)),some (fr c),some (fr (Fq.mk 1 (D0*D0))),y5,y6]/\GI as aI i R c) (by
    rintro i ρ ⟨hi,R,c,y5,y6,rfl,h⟩
    refine⟨_,t6 i R c _ y5 y6 h (by omega),λht=>?_⟩
    obtain⟨⟨t1,t2⟩,b1,b2⟩:=h.r.bds g
    have hc:=h.low.gt
    have P0:¬(c.1*sB as R-sT as R*c.2)*(D0*D0)<c.2*sB as R:=by simpa using ht
    have stop:=zs0 (D:=D0) (P:=((2 ^ i:Nat):Int)) (by omega) hc (by omega) hS.1 (by have:=Nat.pow_pos (n:=i) (show 0<2 by decide);omega) h.d
    have uX:i<55:=by
     apply Nat.not_le.mp
     intro z
     have h1:=dz (n:=2) (by decide) z
     have h2:sT as aI*(D0*D0)<=120000000000*(160*160):=dQ hS.2 Af.2 (by omega) (by decide)
     have h3:(2:Nat) ^ 55=36028797018963968:=by decide
     omega
    refine⟨uX,?_⟩
    obtain⟨lm,zm,pZ,_⟩:=JJ h.r g
    have me:=NZ (ns:=ns) g h.r
    have zc:=h.fz g (by omega)
    have md:=zpn (n:=700) (by decide) lm h.low zm zc
    have cm:=Fq.mk_cross (sT as R) (sB as R)
    have v:=zvl (a:=sT as R) (b:=sB as R) (c:=c.1) (d:=c.2) lm h.low cm rfl
    have lw:=RI lm h.low
    have Qp:=zs2 lm h.low
    have PR:=lm.gt
    generalize Fq.mk (sT as R) (sB as R)=m at *
    generalize nW m c=w at *
    have hw:=lw.gt
    have A0:w.2<=((320 ^ (i+1):Nat):Int):=by
     have e1:m.2*c.2*2<=160*c.2*2:=by
      have:=bm pZ (cN hc)
      omega
     have e2:=h.sz
     rw[la]
     omega
    have yK:c.2<=((320 ^ (i+1):Nat):Int):=by
     have e2:=h.sz
     rw[la]
     omega
    have p2:((2 ^ (i+1):Nat):Int)=2*((2 ^ i:Nat):Int):=by rw[la];omega
    have L9:Sz 8000 w.2:=by
     have h3:=tH (i:=i+1) (by omega)
     have h4:=qM
     generalize ((320 ^ 60:Nat):Int)=K at *
     exact(sx (n:=700) (w:=120000000000*K) (by omega) (by omega) h4).mono (by decide)
    obtain⟨d,ab,rA⟩:=SR (ns:=ns) (p:=w) g i7 hw L9
    rcases rA with⟨rfl,hK⟩|⟨R2,rfl,Lv,sO⟩
    ·refine⟨[some (bu ns as),some (.lst (ap aI)),some (.lst (ap R)),some (fr w),some (fr (Fq.mk 1 (D0*D0))),some (fr w),some .non],?_,by omega,R,w,_,_,rfl,⟨h.r,lw,λR' wV=>hK.le wV,?_,A0,?_⟩⟩
     ·generalize fr (Fq.mk 1 (D0*D0))=F3 at *
      generalize fr c=F4,fr w=F5,fr m=F6,ap R=rl,ap aI=nl,bu ns as=net at *
      clear L9 p2 yK A0 hw Qp lw v cm PR zc pZ zm lm uX stop P0 hc t1 t2 b1 b2 ht h hi t6 zg Af Eo gp Bm a1 hS g oA i7 hD hK
      unfold vz
      walk_at "mir"
     ·refine zvi (T:=sT as R) (B:=sB as R) hc (by omega) hw ?_ h.le v
      have:sT as aI*1<=sT as aI*sB as R:=cr (by omega) hS.1
      omega
     ·rw[p2]
      exact zsz hc hw v h.d
    ·refine⟨[some (bu ns as),some (.lst (ap aI)),some (.lst (ap R2)),some (fr c),some (fr (Fq.mk 1 (D0*D0))),some (fr w),some (.lst (ap R2))],?_,by omega,R2,c,_,_,rfl,⟨Lv,h.low,h.up,h.le,yK,?_⟩⟩
     ·generalize fr (Fq.mk 1 (D0*D0))=F3 at *
      generalize fr c=F4,fr w=F5,fr m=F6,ap R=rl at *
      generalize ap R2=rl2,ap aI=nl,bu ns as=net at *
      clear L9 p2 yK A0 hw Qp lw v cm PR zc pZ zm lm uX stop P0 hc t1 t2 b1 b2 ht h hi t6 zg Af Eo gp Bm a1 hS g oA i7 hD sO Lv
      unfold vz
      walk_at "mir"
     ·rw[p2]
      have Vv:=Lv.bds g
      exact zwd hc hw (by omega) (by omega) (by have:=Nat.pow_pos (n:=i) (show 0<2 by decide);omega) v sO h.d) lN 0 [some (bu ns as),some (.lst (ap aI)),some (.lst (ap R0)),some (fr (sT as aI,1)),some (fr (Fq.mk 1 (D0*D0))),none,none]
   ⟨by omega,R0,(sT as aI,1),none,none,rfl,⟨Bm,zsw _,λR' wV=>by
    have hb:=wV.bds g
    have:sT as aI*1<=sT as aI*sB as R':=cr (by omega) hS.1
    dsimp only
    omega,by dsimp only;omega,by simp,by
    have hb:=Bm.bds g
    dsimp only
    simp
    omega⟩⟩ (by omega) (by have:=JC (n:=60) (by omega);omega)
  obtain⟨i,ρ',l1,⟨hi,R,c,y5,y6,rfl,h⟩,hc⟩:=lp
  rw[t6 i R c _ y5 y6 h (by omega)]at hc
  have lt:(c.1*sB as R-sT as R*c.2)*(D0*D0)<c.2*sB as R:=by simpa using hc
  have hb:=h.r.bds g
  refine⟨.lst (ap R),?_,.inr ⟨R,rfl,h.r,λR' wV=>?_⟩⟩
  ·have sm:=HP (aI.map (tN as))
   have en:(aI.map λ(n:Nat)=>(n:Int)).map D.int=ap aI:=by rw[cv];rfl
   have e1:((aI.map λ(n:Nat)=>(n:Int)).map λi=>(aN as i.toNat).t)=aI.map (tN as):=by rw[cv];exact eo λn _=>by simp[tN]
   have q1:=Oa (ns:=ns) (as:=as) (is:=aI.map λ(n:Nat)=>(n:Int)) (fld:="time") (f:=λa=>a.t) (q:=qd) rfl ft (by rw[ay];have:=g.nl;omega) (λi hi=>by
    obtain⟨n,h1,rfl⟩:=bz.mp hi
    have:=g.n n h1
    omega) [some (bu ns as),some (.lst (ap aI)),some (.lst (ap R0)),none,none,none,none] rfl (by rw[en];rfl)
   rw[e1]at q1
   have es:(aI.map (tN as)).sum=sT as aI:=rfl
   rw[es]at sm
   have ef:fr (sT as aI,1)=.tup [.int (sT as aI),.int 1]:=rfl
   rw[ef]at l1
   unfold cG at l1
   clear e1 en es ef hb lt hc h hi t6 zg Af Eo Bm hS g oA i7 hD
   generalize fr (Fq.mk 1 (D0*D0))=F3,fr c=F4,sT as aI=S,(aI.map (tN as)).map D.int=tl,ap R=rl at *
   generalize ap R0=rl0,ap aI=nl,bu ns as=net at *
   unfold vw gb
   generalize (bNot (tb (λρ=>((aCons (λρ=>((aCons (eV 3) (aCons (λρ=>((aCons (eV 0) (aCons (eV 2) aNil)) ρ).bind λds=>wA (ds++[])) aNil)) ρ).bind λds=>BP (ds++[])) (aCons (eV 4) aNil)) ρ).bind λds=>BQ (ds++[]))))=cc at *
   walk_at "mir"
  ·have Ir:=wV.bds g
   exact zvh (D:=D0) h.low.gt (by omega) (by omega) (by omega) (by omega) lt (h.up R' wV)
theorem zs4 {ns:List D}(g:GN many as aI rk mb)(i7:ns.length=many)(oA:iq 4 "most_behind" zk (bu ns as) []=some (.int (mb:Int))) :
  ∃d,ur [bu ns as,.lst (ap aI)]=some d/\((d=.non/\∀R,¬RG as aI R)\/∃(R:List Nat) (q:Int×Int) (T:Nat->Int),d=.tup [fr q,.lst (ap R),qP many q T]/\RG as aI R/\q=Fq.mk (sT as R) (sB as R)/\(∀R',RG as aI R'->sT as R' * q.2<=q.1*sB as R')/\(∀n∈aI,T (aS as n)+dN as q n<=T (aG as n))/\∀x,0<=T x/\T x<=1000000000000000):=by
 obtain⟨d0,a1,a2⟩:=zs3 g i7 oA
 rcases a2 with⟨rfl,hN⟩|⟨R,rfl,hR,EG⟩
 ·refine⟨.non,?_,.inl ⟨rfl,hN⟩⟩
  generalize bu ns as=net,ap aI=nl at *
  clear g hN i7 oA
  unfold ur
  walk_at "mir"
 ·have me:=NZ (ns:=ns) g hR
  obtain⟨lm,zm,pZ,n0,n1⟩:=JJ hR g
  have cm:=Fq.mk_cross (sT as R) (sB as R)
  have hb:=hR.bds g
  obtain⟨q,hq⟩:∃q,q=Fq.mk (sT as R) (sB as R):=⟨_,rfl⟩
  rw[←hq]at me lm zm pZ n0 n1 cm
  have lg:=lm.gt
  have hM:∀n,n<as.length->dN as q n<=160000000000:=λn hn=>by
   have o:=g.ok _ (jw hn)
   unfold dN
   have g1:(aN as n).t*q.2<=1000000000*160:=dQ o.t1 pZ (by omega) (by decide)
   have g2:0<=((aN as n).b:Int)*q.1:=hG (by omega) n0
   omega
  obtain⟨d,t1,t2⟩:=R6 (ns:=ns) (aI:=aI) (p:=q) i7 g.m1 (by have:=g.m;omega) (by have:=g.nl;omega) g.ok (by omega) (zm.2.mono (by decide)) hM (by decide) g.n
  have mE:∀R',RG as aI R'->sT as R' * q.2<=q.1*sB as R':=λR' wV=>zvj (by omega) lg cm (EG R' wV)
  rcases t2 with⟨T,rfl,k1,k2⟩|⟨R2,x,rfl,r1,r2,r3,r4,r5⟩
  ·refine⟨.tup [fr q,.lst (ap R),qP many q T],?_,.inr ⟨R,q,T,rfl,hR,hq,mE,k1,λx=>⟨(k2 x).1,?_⟩⟩⟩
   ·have i1:∀(a b:D),cP (.tup [a,b]) (.int 1)=some b:=λ_ _=>rfl
    generalize qP many q T=TM,fr q=F,ap R=rl,ap aI=nl,bu ns as=net at *
    clear k1 k2 mE hM lg hb cm n0 n1 pZ zm lm EG hR hq g oA i7
    unfold ur
    walk_at "mir"
   ·have:=(k2 x).2
    have b1:(aI.length:Int)*160000000000<=120*160000000000:=by have:=g.nl;omega
    have b2:(many:Int)*((aI.length:Int)*160000000000)<=40*(120*160000000000):=dQ (by have:=g.m;omega) b1 (by omega) (by decide)
    omega
  ·exfalso
   rw[JH]at r5
   have:=mE R2 ⟨r1,⟨x,r2⟩,r3,r4⟩
   unfold sT sB at this
   rw[e9 q.1]at this
   omega
end
theorem SS {α:Type}[DecidableEq α]:∀{F L:List α},F.Nodup->L.Nodup->(∀x,x∈F↔x∈L)->F.Perm L
 |[],L,_,_,h=>by
  cases L with
  |nil=>exact .refl _
  |cons y L=>exact absurd ((h y).mpr aa) (by simp)
 |x::F,L,n1,n2,h=>by
  obtain⟨m1,m2⟩:=bw.mp n1
  have hx:=(h x).mp aa
  refine .trans (.cons x (SS m2 (n2.erase x) λy=>?_)) (pK hx).symm
  rw[n2.mem_erase_iff]
  constructor
  ·exactλhy=>⟨λz=>m1 (z▸hy),(h y).mp (ah _ hy)⟩
  ·rintro⟨h1,h2⟩
   rcases aC.mp ((h y).mpr h2)with z|z
   ·exact absurd z h1
   ·exact z
inductive Bg (as:List ck)(g:Nat):Nat->Prop
 |self:Bg as g g
 |step {a:ck}:a∈as->Bg as g a.g->Bg as g a.s
structure tY (as:List ck)(g:Nat)(F:List Nat):Prop where
 nd:F.Nodup
 st:g∈F
 ok:∀x∈F,Bg as g x
def kE (as:List ck)(F:List Nat):Prop:=∀a∈as,a.g∈F->a.s∈F
theorem tY.all {as:List ck}{g:Nat}{F:List Nat}(h:tY as g F)(hc:kE as F)(x:Nat):x∈F↔Bg as g x:=by
 refine⟨h.ok x,λr=>?_⟩
 induction r with
 |self=>exact h.st
 |step ha _ ih=>exact hc _ ha ih
theorem Jf (F:List Nat):eO (ap F)=some (F.map λ(x:Nat)=>(x:Int)):=by
 unfold ap
 induction F with
 |nil=>rfl
 |cons x F ih=>show(eO _).bind _=_;rw[ih];rfl
theorem zne {F L:List Nat}(h:F.Perm L)(hl:L.length<64):mM [.lst (ap F)]=mM [.lst (ap L)]:=by
 show(eO (ap F)).bind _=(eO (ap L)).bind _
 rw[Jf,Jf]
 simp only[cB,ay]
 rw[h.length_eq]
 have e:lF (F.map λ(x:Nat)=>(x:Int))=lF (L.map λ(x:Nat)=>(x:Int)):=qk ((j8 _).trans ((h.map _).trans (j8 _).symm)) (ja _) (ja _)
 rw[e]
def fU (F:List Nat)(a:ck):List Nat:=if a.g∈F/\a.s∉F then F++[a.s]else F
theorem SU {as:List ck}{g:Nat}{F:List Nat}{a:ck}(h:tY as g F)(ha:a∈as):tY as g (fU F a):=by
 unfold fU
 split
 ·next hc=>
  refine⟨bj.mpr ⟨h.nd,by simp,λx hx y hy=>?_⟩,bg _ h.st,λx hx=>?_⟩
  ·rw[ax.mp hy]
   exactλz=>hc.2 (z▸hx)
  ·rcases aZ.mp hx with hx|hx
   ·exact h.ok x hx
   ·rw[ax.mp hx];exact .step ha (h.ok _ hc.1)
 ·exact h
theorem NI {F:List Nat}{a:ck}:∀x∈F,x∈fU F a:=λx hx=>by
 unfold fU
 split
 ·exact bg _ hx
 ·exact hx
def pass (as:List ck)(F:List Nat):List Nat:=as.foldl fU F
theorem N1 {Bj:List ck}{g:Nat}:∀(as:List ck) (F:List Nat),(∀a∈as,a∈Bj)->tY Bj g F->tY Bj g (pass as F)/\(∀x∈F,x∈pass as F)/\(∀x∈pass as F,x∈F\/∃a∈as,a.s=x)
 |[],F,_,h=>⟨h,λ_ hx=>hx,λ_ hx=>.inl hx⟩
 |a::as,F,hs,h=>by
  obtain⟨i1,i2,i3⟩:=N1 as (fU F a) (λb hb=>hs b (ah _ hb)) (SU h (hs a aa))
  refine⟨i1,λx hx=>i2 x (NI x hx),λx hx=>?_⟩
  rcases i3 x hx with h1|⟨b,hb,h1⟩
  ·unfold fU at h1
   split at h1
   ·rcases aZ.mp h1 with h1|h1
    ·exact .inl h1
    ·exact .inr ⟨a,aa,(ax.mp h1).symm⟩
   ·exact .inl h1
  ·exact .inr ⟨b,ah _ hb,h1⟩
theorem zpo (F:List Nat)(a:ck):F.length<=(fU F a).length/\((fU F a).length=F.length->fU F a=F/\(a.g∈F->a.s∈F)):=by
 unfold fU
 split
 ·rw[aW];exact⟨tW _ _,λh=>absurd h (by simp)⟩
 ·next hc=>exact⟨aF _,λ_=>⟨rfl,λh=>Classical.byContradiction λz=>hc ⟨h,z⟩⟩⟩
theorem zpp:∀(as:List ck) (F:List Nat),F.length<=(pass as F).length/\((pass as F).length=F.length->pass as F=F/\kE as F)
 |[],F=>⟨aF _,λ_=>⟨rfl,λa ha=>(by cases ha)⟩⟩
 |a::as,F=>by
  obtain⟨l1,l2⟩:=zpo F a
  obtain⟨i1,i2⟩:=zpp as (fU F a)
  refine⟨cx l1 i1,λh=>?_⟩
  have h:(pass as (fU F a)).length=F.length:=h
  obtain⟨e1,e2⟩:=l2 (by omega)
  rw[e1]at i2 h
  obtain⟨e3,e4⟩:=i2 h
  refine⟨by show pass as (fU F a)=F;rw[e1,e3],λb hb=>?_⟩
  rcases aC.mp hb with rfl|hb
  ·exact e2
  ·exact e4 b hb
theorem RJ {g:Nat}{Bj:List ck}:∀(bs:List ck) (F:List Nat),(∀a∈bs,a∈Bj)->tY Bj g F->∀a∈bs,a.g∈F->a.s∈pass bs F
 |b::bs,F,hs,h,a,ha,hg=>by
  have h1:=SU h (hs b aa)
  obtain⟨_,p2,_⟩:=N1 bs (fU F b) (λc hc=>hs c (ah _ hc)) h1
  rcases aC.mp ha with rfl|ha
  ·refine p2 _ ?_
   unfold fU
   by_cases hc:a.s∈F
   ·rw[if_neg (λz=>z.2 hc)];exact hc
   ·rw[if_pos ⟨hg,hc⟩];exact aw _ (ax.mpr rfl)
  ·exact RJ bs (fU F b) (λc hc=>hs c (ah _ hc)) h1 a ha (NI _ hg)
theorem RK:∀(bs:List ck) (F:List Nat),∃e,pass bs F=F++e
 |[],F=>⟨[],by simp[pass]⟩
 |b::bs,F=>by
  obtain⟨e,he⟩:=RK bs (fU F b)
  show∃e,pass bs (fU F b)=F++e
  rw[he]
  unfold fU
  split
  ·exact⟨[b.s]++e,by simp⟩
  ·exact⟨e,rfl⟩
theorem NJ (neg:Bool)(n:Nat)(out:List Nat):inD neg (.int (n:Int)) (.lst (ap out))=some (.bl (if neg then !decide (n∈out)else decide (n∈out))):=by
 have hs:(ap out).all D.sc=true:=by
  unfold ap
  rw[List.all_map]
  exact iE.mpr λx _=>rfl
 have hi:xG (.int (n:Int)) (ap out)=decide (n∈out):=by
  unfold xG ap
  rw[List.any_map]
  clear hs
  induction out with
  |nil=>rfl
  |cons x out ih=>
   rw[eM,ih]
   show(((x:Int)==(n:Int)) || decide (n∈out))=_
   by_cases h:x=n
   ·subst h;simp
   ·have h':¬(x:Int)=(n:Int):=by omega
    have h2:¬n=x:=λz=>h z.symm
    simp[h',h2]
 show(if _ then _ else _)=_
 rw[if_pos ⟨rfl,hs⟩,hi]
theorem Tp {ns:List D}{as:List ck}{g d here:Nat}:∀(qs:List (ck×Nat)) (F:List Nat) (x5:Option D),here∈F->(∀p∈qs,as[p.2]?=some p.1/\p.1.g=here)->F.length+qs.length<=10000 ->
  ∃y5,fP (gV 5) uj (qs.map λp=>D.int (p.2:Int)) [some (bu ns as),some (.int (g:Int)),some (.lst (ap F)),some (.int (d:Int)),some (.int (here:Int)),x5]=some (.nx [some (bu ns as),some (.int (g:Int)),some (.lst (ap (pass (qs.map (·.1)) F))),some (.int (d:Int)),some (.int (here:Int)),y5])
 |[],F,x5,_,_,_=>⟨x5,rfl⟩
 |p::qs,F,x5,hh,hq,hl=>by
  obtain⟨L0,As⟩:=hq p aa
  have d9:(fU F p.1).length<=F.length+1:=by unfold fU;split<;>simp
  obtain⟨y5,hy⟩:=Tp (ns:=ns) (g:=g) (d:=d) qs (fU F p.1) (some (.int (p.2:Int))) (NI _ hh) (λq Av=>hq q (ah _ Av)) (by rw[aV]at hl;omega)
  refine⟨y5,?_⟩
  have step:uj [some (bu ns as),some (.int (g:Int)),some (.lst (ap F)),some (.int (d:Int)),some (.int (here:Int)),some (.int (p.2:Int))]=some (.nx [some (bu ns as),some (.int (g:Int)),some (.lst (ap (fU F p.1))),some (.int (d:Int)),some (.int (here:Int)),some (.int (p.2:Int))]):=by
   have n1:=NJ true p.1.s F
   have f4:cw [4] "arrows" (bu ns as)=some (.lst (as.map bH)):=rfl
   have i1:cP (.lst (as.map bH)) (.int (p.2:Int))=some (bH p.1):=ue (by rw[aQ,L0];rfl)
   have g1:=fs p.1
   have hz:(ap F).length<16777216:=by unfold ap;rw[ay];rw[aV]at hl;omega
   by_cases hs:p.1.s∈F
   ·have e:fU F p.1=F:=by unfold fU;rw[if_neg λz=>z.2 hs]
    rw[e]
    rw[decide_eq_true hs]at n1
    generalize bu ns as=net,ap F=fs at *
    unfold uj
    clear hy hq hl L0 As d9 hs hh e
    walk_at "mir"
   ·have e:ap (fU F p.1)=ap F++[.int (p.1.s:Int)]:=by
     unfold fU
     rw[if_pos ⟨by rw[As];exact hh,hs⟩]
     simp[ap]
    rw[e]
    rw[decide_eq_false hs]at n1
    generalize bu ns as=net,ap F=fs at *
    unfold uj
    clear hy hq hl L0 As d9 hs hh e
    walk_at "mir"
  show(uj [some (bu ns as),some (.int (g:Int)),some (.lst (ap F)),some (.int (d:Int)),some (.int (here:Int)),some (.int (p.2:Int))]).bind _=_
  rw[step]
  exact hy
def Mp (ρ:L3.Env):Nat:=match ρ with
 |[_,_,_,some (.int d),_,_]=>(1000-d).toNat
 |_=>0
theorem zs5 {ns:List D}{as:List ck}{many g:Nat}(hm:many<=40)(hl:as.length<=120)(hs:∀a∈as,a.s<many)(hg:g<many):∃F:List Nat,tY as g F/\kE as F/\(∀x∈F,x<many)/\jm [bu ns as,.int (g:Int)]=mM [.lst (ap F)]:=by
 obtain⟨ρ',h1,hI,hc⟩:=Nc (c:=tb (e2 pY (eV 3) (eN dZ (aCons (eV 2) aNil)))) (b:=M5)
  (λρ=>∃(F:List Nat) (d:Nat) (x4 x5:Option D),ρ=[some (bu ns as),some (.int (g:Int)),some (.lst (ap F)),some (.int (d:Int)),x4,x5]/\tY as g F/\(∀x∈F,x<many)/\d<=F.length/\∀i,i<d->∀a∈as,F[i]?=some a.g->a.s∈F) Mp (by
   rintro ρ ⟨F,d,x4,x5,rfl,hF,ie,hd,nD⟩
   have O5:=Kahn.len_le hF.nd ie
   have d9:(ap F).length=F.length:=by simp[ap]
   refine⟨decide (d<F.length),?_,λEE=>?_⟩
   ·have e:decide ((d:Int)<((ap F).length:Int))=decide (d<F.length):=by rw[d9];by_cases h:d<F.length<;>simp[h]<;>omega
    rw[←e]
    generalize bu ns as=net,ap F=fs at *
    clear hF ie hd nD O5 d9 e
    walk_at "mir"
   ·have rB:d<F.length:=by simpa using EE
    obtain⟨here,hh⟩:∃here,F[d]?=some here:=⟨_,bG rB⟩
    have LO:here∈F:=bW.mpr ⟨_,hh⟩
    have in1:=Ti (ns:=ns) (as:=as) (by omega) here
    have Wf:=JG (m:="into") (f:=u4) (ns:=ns) (as:=as) (ds:=[.int (here:Int)]) (by decide +kernel)
    rw[in1]at Wf
    have xC:∀p∈as.zipIdx.filter (λp=>decide (p.1.g=here)),as[p.2]?=some p.1/\p.1.g=here:=λp hp=>⟨Ob (bc.mp hp).1,by simpa using(bc.mp hp).2⟩
    have iy:(as.zipIdx.filter (λp=>decide (p.1.g=here))).length<=120:=cx (gh _ _) (by rw[qX];exact hl)
    have hn:ap (into as here)=(as.zipIdx.filter (λp=>decide (p.1.g=here))).map λp=>D.int (p.2:Int):=by unfold into ap;rw[cv];rfl
    have sX:∀a∈(as.zipIdx.filter (λp=>decide (p.1.g=here))).map (·.1),a∈as:=λa ha=>by
     obtain⟨p,hp,rfl⟩:=bz.mp ha
     exact bW.mpr ⟨_,(xC p hp).1⟩
    have oV:∀a∈as,a.g=here->a∈(as.zipIdx.filter (λp=>decide (p.1.g=here))).map (·.1):=λa ha iQ=>by
     have:=Nf (λa:ck=>decide (a.g=here)) as 0
     rw[this]
     exact bc.mpr ⟨ha,by simpa using iQ⟩
    obtain⟨y5,hy⟩:=Tp (ns:=ns) (as:=as) (g:=g) (d:=d) (here:=here) _ F x5 LO xC (by omega)
    generalize (as.zipIdx.filter (λp=>decide (p.1.g=here))).map (·.1)=bs at *
    obtain⟨p1,p2,p3⟩:=N1 bs F sX hF
    obtain⟨ext,rC⟩:=RK bs F
    rw[←hn]at hy
    refine⟨[some (bu ns as),some (.int (g:Int)),some (.lst (ap (pass bs F))),some (.int ((d+1:Nat):Int)),some (.int (here:Int)),y5],.inl ?_,⟨pass bs F,d+1,_,_,rfl,p1,λx hx=>?_,?_,λi hi a ha iQ=>?_⟩,?_⟩
    ·have i1:cP (.lst (ap F)) (.int (d:Int))=some (.int (here:Int)):=ue (by unfold ap;rw[aQ,hh];rfl)
     have e1:((d+1:Nat):Int)=(d:Int)+1:=by omega
     rw[e1]
     generalize ap (pass bs F)=f2,ap F=f1,ap (into as here)=ms,bu ns as=net at *
     unfold M5 tK i2
     clear hF ie hd nD O5 d9 EE rB hh LO in1 xC iy hn sX oV p1 p2 p3 rC e1
     walk_at "mir"
    ·rcases p3 x hx with h|⟨a,ha,rfl⟩
     ·exact ie x h
     ·exact hs a (sX a ha)
    ·rw[rC,aW];omega
    ·by_cases lE:i<d
     ·refine p2 _ (nD i lE a ha ?_)
      rw[rC,cu (by omega)]at iQ
      exact iQ
     ·obtain rfl:i=d:=by omega
      rw[rC,cu rB,hh]at iQ
      have iQ:here=a.g:=by simpa using iQ
      exact RJ bs F sX hF a (oV a ha iQ.symm) (by rw[←iQ];exact LO)
    ·show(1000-((d+1:Nat):Int)).toNat<(1000-(d:Int)).toNat
     omega) lN [some (bu ns as),some (.int (g:Int)),some (.lst (ap [g])),some (.int ((0:Nat):Int)),none,none]
  ⟨[g],0,_,_,rfl,⟨by simp,by simp,λx hx=>by rw[ax.mp hx];exact .self⟩,λx hx=>by rw[ax.mp hx];exact hg,cK _,λi hi=>by omega⟩ (JC (by show(1000-((0:Nat):Int)).toNat<1048576;omega))
 obtain⟨F,d,x4,x5,rfl,hF,ie,hd,nD⟩:=hI
 have d9:(ap F).length=F.length:=by simp[ap]
 have rB:d=F.length:=by
  have e:tb (e2 pY (eV 3) (eN dZ (aCons (eV 2) aNil))) [some (bu ns as),some (.int (g:Int)),some (.lst (ap F)),some (.int (d:Int)),x4,x5]=some (decide ((d:Int)<((ap F).length:Int))):=rfl
  rw[e,d9]at hc
  have:¬(d:Int)<(F.length:Int):=by simpa using hc
  omega
 refine⟨F,hF,λa ha iQ=>?_,ie,?_⟩
 ·obtain⟨i,hi,ei⟩:=dm.mp iQ
  exact nD i (by omega) a ha (by rw[bG hi,ei])
 ·obtain⟨v,hv⟩:∃v,mM [.lst (ap F)]=some v:=by
   show∃v,(eO (ap F)).bind _=some v
   rw[Jf]
   have:=Kahn.len_le hF.nd ie
   simp only[cB,ay]
   rw[if_pos (by omega)]
   exact⟨_,rfl⟩
  rw[hv]
  have e0:((0:Nat):Int)=0:=rfl
  have e1:ap [g]=[.int (g:Int)]:=rfl
  rw[e0,e1]at h1
  generalize bu ns as=net,ap F=fs at *
  unfold jm gb
  clear hc hF ie hd nD d9 rB hg hs hl hm
  walk_at "mir"
structure Ld (many:Nat)(as:List ck)(g:Nat)(L:List Nat):Prop where
 srt:L=(aE many).filter λx=>decide (x∈L)
 mem:∀x,x∈L↔Bg as g x
theorem Ld.lt {many:Nat}{as:List ck}{g:Nat}{L:List Nat}(h:Ld many as g L):∀x∈L,x<many:=λx hx=>by
 rw[h.srt]at hx
 exact bv.mp (bc.mp hx).1
theorem Ld.len {many:Nat}{as:List ck}{g:Nat}{L:List Nat}(h:Ld many as g L):L.length<=many:=by
 rw[h.srt]
 have:=gh (λx=>decide (x∈L)) (aE many)
 rw[aY]at this
 exact this
theorem Ld.cls {many:Nat}{as:List ck}{g:Nat}{L:List Nat}(h:Ld many as g L){a:ck}(ha:a∈as)(hg:a.g∈L):a.s∈L:=(h.mem _).mpr (.step ha ((h.mem _).mp hg))
theorem zng {many:Nat}{F:List Nat}(nd:F.Nodup)(lt:∀x∈F,x<many)(hm:many<64):mM [.lst (ap F)]=some (.lst (ap ((aE many).filter λx=>decide (x∈F)))):=by
 have Wn:((aE many).filter λx=>decide (x∈F)).Nodup:=fw.filter _ gq
 have hl:((aE many).filter λx=>decide (x∈F)).length<64:=by
  have:=gh (λx=>decide (x∈F)) (aE many)
  rw[aY]at this
  omega
 have srt:((aE many).filter λx=>decide (x∈F)).Pairwise (· < ·):=fw.filter _ List.pairwise_lt_range
 have p:=SS (F:=F) (L:=(aE many).filter λx=>decide (x∈F)) nd Wn λx=>by
  rw[bc,decide_eq_true_iff,bv]
  exact⟨λh=>⟨lt x h,h⟩,λh=>h.2⟩
 rw[zne p hl]
 generalize (aE many).filter (λx=>decide (x∈F))=L at *
 show(eO (ap L)).bind _=_
 rw[Jf]
 simp only[cB,ay]
 rw[if_pos hl]
 have e:lF (L.map λ(x:Nat)=>(x:Int))=L.map λ(x:Nat)=>(x:Int):=qk (j8 _) (ja _) (List.pairwise_map.mpr (srt.imp λh=>by omega))
 rw[e,cv]
 rfl
theorem zwf {many:Nat}{as:List ck}{g:Nat}{F:List Nat}(h:tY as g F)(hc:kE as F)(lt:∀x∈F,x<many):Ld many as g ((aE many).filter λx=>decide (x∈F)):=by
 have m:∀x,x∈(aE many).filter (λx=>decide (x∈F))↔x∈F:=λx=>by
  rw[bc,decide_eq_true_iff,bv]
  exact⟨λh=>h.2,λh=>⟨lt x h,h⟩⟩
 refine⟨?_,λx=>(m x).trans (h.all hc x)⟩
 exact List.filter_congr λx _=>decide_eq_decide.mpr (m x).symm
theorem zs6 {ns:List D}{as:List ck}{many g:Nat}(hm:many<=40)(hl:as.length<=120)(hs:∀a∈as,a.s<many)(hg:g<many):∃L:List Nat,jm [bu ns as,.int (g:Int)]=some (.lst (ap L))/\Ld many as g L:=by
 obtain⟨F,h1,h2,h3,h4⟩:=zs5 (ns:=ns) hm hl hs hg
 exact⟨_,h4.trans (zng h1.nd h3 (by omega)),zwf h1 h2 h3⟩
def cX:Option (Int×Int)->D
 |none=>.non
 |some q=>fr q
def qL (L:List (Option (Int×Int))):D:=.lst (L.map cX)
def fv (many:Nat)(P:List Nat)(tp:Nat->Int)(W:Int):List (Option (Int×Int)):=(aE many).map λg=>if g∈P then some (Fq.mk (tp g) W)else none
def gR (as:List ck)(L:List Nat):List Nat:=(as.zipIdx.filter λp=>decide (p.1.g∈L)).map (·.2)
theorem Hv {as:List ck}{L:List Nat}{n:Nat}:n∈gR as L↔n<as.length/\aG as n∈L:=by
 unfold gR
 rw[bz]
 constructor
 ·rintro⟨p,hp,rfl⟩
  obtain⟨h1,h2⟩:=bc.mp hp
  have h3:=Ob h1
  have h4:=(aL.mp h3).1
  refine⟨h4,?_⟩
  have e:aN as p.2=p.1:=by unfold aN;rw[h3];rfl
  unfold aG
  rw[e]
  exact of_decide_eq_true h2
 ·rintro⟨h1,h2⟩
  refine⟨(aN as n,n),bc.mpr ⟨ml.mpr (xZ h1),decide_eq_true h2⟩,rfl⟩
theorem Rp (as:List ck)(L:List Nat):(gR as L).length<=as.length:=by
 unfold gR
 rw[ay]
 have:=gh (λp:ck×Nat=>decide (p.1.g∈L)) as.zipIdx
 rw[qX]at this
 exact this
theorem GN.along {many:Nat}{as:List ck}{aI qK:List Nat}{rk:Nat->Nat}{mb:Nat}(g:GN many as aI rk mb)(h1:∀n∈qK,n<as.length)(h2:qK.length<=120):GN many as qK rk mb:=⟨g.m1,g.m,g.al,g.ok,h1,h2,g.r,g.b1,g.b4,g.b⟩
theorem zvn {ns:List D}{as:List ck}{L:List Nat}(hl:as.length<=1000)(r:L3.Env)(hr:r[0]?.join=some (bu ns as))(Aw:r[2]?.join=some (.lst (ap L))):Nv r=some (.lst (ap (gR as L))):=by
 have e:(λρ=>((aCons (e1 (cw [4] "arrows") (eV 0)) aNil) ρ).bind λds=>match ds with|[.lst xs]=>some (eu 0 xs)|_=>none) r=some (as.zipIdx.map λp=>D.tup [.int (p.2:Int),bH p.1]):=by
  have:eV 0 r=some (bu ns as):=hr
  have e2:e1 (cw [4] "arrows") (eV 0) r=some (.lst (as.map bH)):=by unfold e1;rw[this];rfl
  show((aCons (e1 (cw [4] "arrows") (eV 0)) aNil) r).bind _=_
  unfold aCons
  rw[e2]
  show some (eu 0 (as.map bH))=_
  rw[Jo bH]
 have hc:dE r [2]=[some (.lst (ap L))]:=by unfold dE;simp[Aw]
 have:=BR (own:=2) (cap:=[2]) (fi:=λρ=>((aCons (e1 (cw [4] "arrows") (eV 0)) aNil) ρ).bind λds=>match ds with|[.lst xs]=>some (eu 0 xs)|_=>none) (g:=gT (gsCons (gV 0) (gsCons (gV 1) gsNil))) (p:=tb (e2 (inD false) (e1 (cw [0,1,2,3] "goal") (eV 1)) (eV 2))) (f:=eV 0) (λp:ck×Nat=>D.tup [.int (p.2:Int),bH p.1]) (λp=>decide (p.1.g∈L)) (λp=>D.int (p.2:Int)) as.zipIdx e (by simp;omega) (λp _=>by
   refine⟨_,rfl,?_,λ_=>rfl⟩
   rw[hc]
   have f1:=fg p.1
   have q:=NJ false p.1.g L
   rw[if_neg (by decide)]at q
   generalize decide (p.1.g∈L)=bb,bH p.1=ea,ap L=nl at *
   clear hc e hr Aw hl
   walk_at "mir")
 rw[show Nv r=_ from this]
 unfold gR ap
 rw[cv]
 rfl
theorem zs7 {many:Nat}{L:List Nat}{q:Int×Int}{T:Nat->Int}{x y:D}(hm:many<=1000)(r:L3.Env)(Aw:r[2]?.join=some (.lst (ap L)))(L1:r[3]?.join=some (.tup [x,y,qP many q T])):Nu r=some (qL (fv many L T q.2)):=by
 have e:(λρ=>((aCons (e2 cP (eV 3) (eC (.int 2))) aNil) ρ).bind λds=>match ds with|[.lst xs]=>some (eu 0 xs)|_=>none) r=some ((aE many).zipIdx.map λp=>D.tup [.int (p.2:Int),fr (Fq.mk (T p.1) q.2)]):=by
  have:eV 3 r=some (.tup [x,y,qP many q T]):=L1
  have Aa:e2 cP (eV 3) (eC (.int 2)) r=some (qP many q T):=by unfold e2;rw[this];rfl
  show((aCons (e2 cP (eV 3) (eC (.int 2))) aNil) r).bind _=_
  unfold aCons
  rw[Aa]
  show some (eu 0 ((aE many).map λg=>fr (Fq.mk (T g) q.2)))=_
  rw[Jo (λg=>fr (Fq.mk (T g) q.2))]
 have hc:dE r [2]=[some (.lst (ap L))]:=by unfold dE;simp[Aw]
 have:=wx (own:=2) (cap:=[2]) (fi:=λρ=>((aCons (e2 cP (eV 3) (eC (.int 2))) aNil) ρ).bind λds=>match ds with|[.lst xs]=>some (eu 0 xs)|_=>none) (g:=gT (gsCons (gV 0) (gsCons (gV 1) gsNil))) (f:=eIf (tb (e2 (inD false) (eV 0) (eV 2))) (eV 1) (eC .non)) (λp:Nat×Nat=>D.tup [.int (p.2:Int),fr (Fq.mk (T p.1) q.2)]) (λp=>cX (if p.2∈L then some (Fq.mk (T p.1) q.2)else none)) (aE many).zipIdx e (by simp;omega) (λp _=>by
   refine⟨_,rfl,?_⟩
   rw[hc]
   have qq:=NJ false p.2 L
   rw[if_neg (by decide)]at qq
   by_cases h:p.2∈L
   ·rw[if_pos h]
    rw[decide_eq_true h]at qq
    show _=some (fr (Fq.mk (T p.1) q.2))
    generalize fr (Fq.mk (T p.1) q.2)=F,ap L=nl at *
    clear hc e Aw L1 hm h
    walk_at "mir"
   ·rw[if_neg h]
    rw[decide_eq_false h]at qq
    show _=some D.non
    generalize fr (Fq.mk (T p.1) q.2)=F,ap L=nl at *
    clear hc e Aw L1 hm h
    walk_at "mir")
 rw[show Nu r=_ from this]
 unfold qL fv
 congr 2
 apply e6
 ·simp
 ·intro i h1 h2
  simp
theorem zvo {ns:List D}{many:Nat}{as:List ck}{rk:Nat->Nat}{mb g:Nat}{L:List Nat}(gn:GN many as (aE as.length) rk mb)(i7:ns.length=many)(oA:iq 4 "most_behind" zk (bu ns as) []=some (.int (mb:Int)))(sV:jm [bu ns as,.int (g:Int)]=some (.lst (ap L))) :
  ∃d,HM [bu ns as,.int (g:Int)]=some d/\((d=.non/\∀R,¬RG as (gR as L) R)\/∃(R:List Nat) (q:Int×Int) (T:Nat->Int),d=.tup [fr q,.lst (ap R),qL (fv many L T q.2)]/\RG as (gR as L) R/\q=Fq.mk (sT as R) (sB as R)/\(∀R',RG as (gR as L) R'->sT as R' * q.2<=q.1*sB as R')/\(∀n∈gR as L,T (aS as n)+dN as q n<=T (aG as n))/\∀x,0<=T x/\T x<=1000000000000000):=by
 have g2:=gn.along (qK:=gR as L) (λn hn=>(Hv.mp hn).1) (by have:=Rp as L;have:=gn.al;omega)
 obtain⟨d,h1,h2⟩:=zs4 g2 i7 oA
 have qn:=zvn (ns:=ns) (as:=as) (L:=L) (by have:=gn.al;omega) [some (bu ns as),some (.int (g:Int)),some (.lst (ap L)),none,none] rfl rfl
 rcases h2 with⟨rfl,hN⟩|⟨R,q,T,rfl,hR⟩
 ·refine⟨.non,?_,.inl ⟨rfl,hN⟩⟩
  generalize ap (gR as L)=nn,ap L=nl,bu ns as=net at *
  clear hN g2 gn oA i7
  unfold HM
  walk_at "mir"
 ·refine⟨.tup [fr q,.lst (ap R),qL (fv many L T q.2)],?_,.inr ⟨R,q,T,rfl,hR⟩⟩
  have qt:=zs7 (many:=many) (L:=L) (q:=q) (T:=T) (x:=fr q) (y:=.lst (ap R)) (by have:=gn.m;omega) [some (bu ns as),some (.int (g:Int)),some (.lst (ap L)),some (.tup [fr q,.lst (ap R),qP many q T]),none] rfl rfl
  have i0:∀a b c:D,cP (.tup [a,b,c]) (.int 0)=some a:=λ_ _ _=>rfl
  have i1:∀a b c:D,cP (.tup [a,b,c]) (.int 1)=some b:=λ_ _ _=>rfl
  generalize ap (gR as L)=nn,ap L=nl,ap R=rl,bu ns as=net,qL (fv many L T q.2)=ol,qP many q T=tm,fr q=F at *
  clear hR g2 gn oA i7
  unfold HM
  walk_at "mir"
theorem SV {as:List ck}{many:Nat}{left:List Nat}(ie:∀x∈left,x<many)(qH:∀x∈left,∃n,n<as.length/\aG as n=x/\aS as n∈left)(v:Nat):∀(f:Nat) (ws:List Nat) (here:Nat),many<ws.length+f->pE (aS as) (aG as) v ws here->(ws.map (aG as)).Nodup->(∀n∈ws,n<as.length/\aG as n∈left)->here∈left->∃(R:List Nat) (x:Nat),R≠[]/\mw (aS as) (aG as) x R x/\(R.map (aG as)).Nodup/\∀n∈R,n<as.length/\aG as n∈left
 |0,ws,here,hf,_,nd,hw,_=>by
  have:=Kahn.len_le (many:=many) nd λx hx=>by
   obtain⟨n,h1,rfl⟩:=bz.mp hx
   exact ie _ (hw n h1).2
  rw[ay]at this
  omega
 |f+1,ws,here,hf,hc,nd,hw,hh=>by
  by_cases hm:here∈ws.map (aG as)
  ·have rD:=nL.mpr hm
   have t8:(ws.map (aG as))[(ws.map (aG as)).idxOf here]?=some here:=by rw[bG rD,qW]
   generalize (ws.map (aG as)).idxOf here=j at *
   rw[ay]at rD
   rw[aQ,bG rD]at t8
   replace t8:aG as ws[j]=here:=by simpa using t8
   have wlk:pE (aS as) (aG as) here (ws.drop j) here:=by
    have:=hc.drop (j:=j) (n:=ws[j]) (bG rD)
    rw[t8]at this
    exact this
   refine⟨(ws.drop j).reverse,here,?_,wlk.wlk,?_,λn hn=>hw n (pJ (sA.mp hn))⟩
   ·intro e
    have:=congrArg jH e
    rw[dH,iG]at this
    simp at this
    omega
   ·rw[lJ,nM]
    exact pv.mpr ((fw.sublist (rR _ _) nd).imp λh e=>h e.symm)
  ·obtain⟨n,n1,n2,n3⟩:=qH here hh
   refine SV ie qH v f (ws++[n]) (aS as n) (by rw[aW,cL];omega) (hc.snoc n2) ?_ (λk hk=>?_) n3
   ·rw[cZ,kh,n2]
    exact bj.mpr ⟨nd,by simp,λa ha b hb e=>hm (by rw[←ax.mp hb,←e];exact ha)⟩
   ·rcases aZ.mp hk with hk|hk
    ·exact hw k hk
    ·rw[ax.mp hk,n2];exact⟨n1,hh⟩
theorem zs8 {many:Nat}{L:List Nat}{T:Nat->Int}{W:Int}{q:Int×Int}(h:some q∈fv many L T W):∃g,q=Fq.mk (T g) W:=by
 obtain⟨g,_,e⟩:=bz.mp h
 by_cases hg:g∈L
 ·rw[if_pos hg]at e;exact⟨g,(Option.some.inj e).symm⟩
 ·rw[if_neg hg]at e;cases e
theorem zwg {many:Nat}{rk:Nat->Nat}{as:List ck}{ns:List D}(h1:1<=many)(h2:many<=40)(h3:as.length<=120)(nz:∀a∈as,Drawn many rk a):∃mb:Nat,iq 4 "most_behind" zk (bu ns (as.map λa=>oY a (a.s:Int))) []=some (.int (mb:Int))/\(∀aI:List Nat,(∀n∈aI,n<as.length)->aI.length<=120->GN many (as.map λa=>oY a (a.s:Int)) aI rk mb)/\∀aI:List Nat,(∀n∈aI,n<as.length)->aI.length<=120->GN many as aI rk mb:=by
 obtain⟨mb,m1,m2,m3,m4⟩:=zs1 (ns:=ns) (as:=as.map λa=>oY a (a.s:Int)) (by rw[ay];exact h3)
 have Pa:mb<=4:=m4 4 (by decide) λa ha=>by
  obtain⟨a',h,rfl⟩:=bz.mp ha
  exact(nz a' h).b
 refine⟨mb,m1,λaI hn hl=>⟨h1,h2,by rw[ay];exact h3,λa ha=>?_,λn hx=>by rw[ay];exact hn n hx,hl,λa ha=>?_,m2,Pa,m3⟩,λaI hn hl=>⟨h1,h2,h3,λa ha=>⟨(nz a ha).s,(nz a ha).g,(nz a ha).t0,(nz a ha).t1,(nz a ha).b⟩,hn,hl,λa ha=>(nz a ha).r,m2,Pa,λa ha=>m3 (oY a (a.s:Int)) (bz.mpr ⟨a,ha,rfl⟩)⟩⟩
 ·obtain⟨a',h,rfl⟩:=bz.mp ha
  exact⟨(nz a' h).s,(nz a' h).g,(nz a' h).t0,(nz a' h).t1,(nz a' h).b⟩
 ·obtain⟨a',h,rfl⟩:=bz.mp ha
  exact(nz a' h).r
def bD (n m:Nat)(X:Nat->Nat->Int):List D:=bZ n m λi g=>some (X i g)
theorem Jr {n m i:Nat}{X:Nat->Nat->Int}(hi:i<m):cP (.lst (bD n m X)) (.int (i:Int))=some (.lst (ed n (X i))):=ue (by unfold bD bZ;rw[aQ,el hi];rfl)
theorem Nq (n m:Nat)(X:Nat->Nat->Int):(bD n m X).length=m:=Jd _ _ _
theorem RL {as:List ck}{many:Nat}(ok:iP many as){P:Nat->Nat->Prop}(st:∀i g,(∀j,j<i->∀x,P j x)->(∀a∈as,a.g=g->a.b=0->P i a.s)->P i g):∀i g,P i g:=by
 obtain⟨rank,hr⟩:=ok.rank
 intro i
 induction i using uG with
 |ind i ih=>
  have inner:∀k g,rank g=k->P i g:=by
   intro k
   induction k using uG with
   |ind k Wd=>
    intro g hg
    refine st i g (λj hj x=>ih j hj x) λa ha iQ hb=>?_
    have:=hr a ha hb
    exact Wd (rank a.s) (by rw[←hg,←iQ];exact this) a.s rfl
  exactλg=>inner _ g rfl
theorem QS {α β:Type}{f f':β->α->β}:∀(xs:List α) (w:β),(∀a∈xs,∀w,f w a=f' w a)->xs.foldl f w=xs.foldl f' w
 |[],_,_=>rfl
 |x::xs,w,h=>by
  show xs.foldl f (f w x)=xs.foldl f' (f' w x)
  rw[h x aa,QS xs _ λa ha=>h a (ah _ ha)]
theorem RM {α:Type}(F:α->Int):∀(xs:List α) (w:T),(∃y,xs.foldl (λw a=>mx w (some (F a))) w=some y/\(∀a∈xs,F a<=y)/\(∀z,w=some z->z<=y)/\((∃a∈xs,F a=y)\/w=some y))\/(xs=[]/\w=none)
 |[],none=>.inr ⟨rfl,rfl⟩
 |[],some z=>.inl ⟨z,rfl,λ_ h=>(by cases h),λ_ h=>(by cases h;exact dr _),.inr rfl⟩
 |x::xs,w=>by
  rcases RM F xs (mx w (some (F x)))with⟨y,h1,h2,h3,h4⟩|⟨_,h⟩
  ·refine .inl ⟨y,h1,?_,?_,?_⟩
   ·intro a ha
    rcases aC.mp ha with rfl|ha
    ·cases w with
     |none=>exact h3 _ rfl
     |some z=>
      have:=h3 (if F a > z then F a else z) rfl
      split at this<;>omega
    ·exact h2 a ha
   ·intro z hz
    subst hz
    have:=h3 (if F x > z then F x else z) rfl
    split at this<;>omega
   ·rcases h4 with⟨a,ha,h4⟩|h4
    ·exact .inl ⟨a,ah _ ha,h4⟩
    ·cases w with
     |none=>exact .inl ⟨x,aa,by simpa[mx]using h4⟩
     |some z=>
      have h5:(if F x > z then F x else z)=y:=by simpa[mx]using h4
      split at h5
      ·exact .inl ⟨x,aa,h5⟩
      ·exact .inr (by rw[h5])
  ·cases w<;>simp[mx]at h
structure Mx (as:List ck)(many lo hi:Nat)(V:Nat->Nat->Int):Prop where
 ge:∀i,lo<=i->i<hi->∀a∈as,V (i-a.b) a.s+a.t<=V i a.g
 at_:∀i,lo<=i->i<hi->∀g,g<many->∃a∈as,a.g=g/\V (i-a.b) a.s+a.t=V i g
theorem Run.mx {as:List ck}{many rounds:Nat}{past Y:Nat->Nat->T}(ok:iP many as)(h:Run as many (dep as) rounds past (λ_ _=>none) Y)(hp:∀i,i<dep as->∀g,g<many->∃v,past i g=some v)(qH:∀g,g<many->∃a∈as,a.g=g) :
  ∃V:Nat->Nat->Int,(∀i,i<dep as+rounds->∀g,g<many->Y i g=some (V i g))/\Mx as many (dep as) (dep as+rounds) V:=by
 have hs:∀i g,i<dep as+rounds->g<many->∃v,Y i g=some v:=by
  refine RL ok λi g E9 Fa hi hg=>?_
  by_cases hd:i<dep as
  ·rw[h.past i hd g hg];exact hp i hd g hg
  ·have:=h.rc (i-dep as) (by omega) g hg
   rw[show dep as+(i-dep as)=i by omega]at this
   rw[this]
   obtain⟨a,ha,iQ⟩:=qH g hg
   have hb:=JV ha
   have:∃v,Y (i-a.b) a.s=some v:=by
    by_cases sP:a.b=0
    ·have:=Fa a ha iQ sP hi (ok.right a ha).s
     rwa[sP,pw]
    ·exact E9 (i-a.b) (by omega) a.s (by omega) (ok.right a ha).s
   obtain⟨v,hv⟩:=this
   obtain⟨y,hy,_⟩:=Sr (λa:ck=>lt a.t (Y (i-a.b) a.s)) (v:=v+a.t) (as.filter λa=>decide (a.g=g)) none (.inr ⟨a,bc.mpr ⟨ha,decide_eq_true iQ⟩,v+a.t,by show lt a.t (Y (i-a.b) a.s)=_;rw[hv];rfl,dr _⟩)
   exact⟨y,hy⟩
 refine⟨λi g=>(Y i g).getD 0,λi hi g hg=>?_,?_⟩
 ·obtain⟨v,hv⟩:=hs i g hi hg
  show _=some ((Y i g).getD 0)
  rw[hv];rfl
 ·have key:∀i,dep as<=i->i<dep as+rounds->∀g,g<many->(∀a∈as,a.g=g->(Y (i-a.b) a.s).getD 0+a.t<=(Y i g).getD 0)/\∃a∈as,a.g=g/\(Y (i-a.b) a.s).getD 0+a.t=(Y i g).getD 0:=by
   intro i hi1 uX g hg
   have rc:=h.rc (i-dep as) (by omega) g hg
   rw[show dep as+(i-dep as)=i by omega]at rc
   have e:tm as Y i g none=(as.filter λa=>decide (a.g=g)).foldl (λw a=>My.mx w (some ((Y (i-a.b) a.s).getD 0+a.t))) none:=by
    unfold tm
    refine QS _ _ λa ha w=>?_
    have ha:=(bc.mp ha).1
    have hb:=JV ha
    obtain⟨v,hv⟩:=hs (i-a.b) a.s (by omega) (ok.right a ha).s
    rw[hv];rfl
   rw[e]at rc
   rcases RM (λa:ck=>(Y (i-a.b) a.s).getD 0+a.t) (as.filter λa=>decide (a.g=g)) none with⟨y,h1,h2,_,h4⟩|⟨h1,_⟩
   ·rw[h1]at rc
    rw[rc]
    refine⟨λa ha iQ=>h2 a (bc.mpr ⟨ha,decide_eq_true iQ⟩),?_⟩
    rcases h4 with⟨a,ha,h4⟩|h4
    ·obtain⟨ha,iQ⟩:=bc.mp ha
     exact⟨a,ha,of_decide_eq_true iQ,h4⟩
    ·cases h4
   ·obtain⟨a,ha,iQ⟩:=qH g hg
    have:a∈as.filter λa=>decide (a.g=g):=bc.mpr ⟨ha,decide_eq_true iQ⟩
    rw[h1]at this
    cases this
  exact⟨λi h1 h2 a ha=>(key i h1 h2 a.g (ok.right a ha).g).1 a ha rfl,λi h1 h2 g hg=>(key i h1 h2 g hg).2⟩
def p7 (cell most:Int)(k g:Nat):Int:=(i9 cell (20*(k:Int)+(g:Int)):Int)*7919%most
theorem zwh {ns:List Int}{many dp:Nat}(hm:many<=8)(hd:dp<=4):∃W:Nat->Nat->Int,Ht [.lst (ns.map .int),.int (many:Int),.int (dp:Int)]=some (.lst (bD many dp W)):=by
 obtain⟨cell,nB⟩:=HN ns 2 (by decide)
 by_cases h4:cell%4=0
 ·refine⟨λ_ _=>0,?_⟩
  have q1:∀(r:L3.Env),r[1]?.join=some (.int (many:Int))->QX r=some (.lst (ed many λ_=>0)):=λr h1=>by
   exact wx (λ(g:Nat)=>D.int (g:Int)) (λ_=>D.int 0) (aE many) (uE h1 (by omega)) (by rw[aY];omega) λg hg=>⟨_,rfl,rfl⟩
  have q2:QY [some (.lst (ns.map .int)),some (.int (many:Int)),some (.int (dp:Int)),some (.int cell),none]=some (.lst (bD many dp λ_ _=>0)):=by
   refine wx (λ(k:Nat)=>D.int (k:Int)) (λ_=>D.lst (ed many λ_=>0)) (aE dp) (uE rfl (by omega)) (by rw[aY];omega) λk hk=>⟨_,rfl,?_⟩
   exact q1 _ rfl
  generalize bD many dp (λ_ _=>0)=rs at *
  unfold Ht
  clear q1 hm hd
  walk_at "mir"
 ·obtain⟨most,EJ,rF⟩:∃most:Int,cP (.lst [.int 41,.int 41,.int 1000000000000]) (.int (cell/4%3))=some (.int most)/\0<most:=by
   have:cell/4%3=0\/cell/4%3=1\/cell/4%3=2:=by omega
   rcases this with h|h|h<;>rw[h]
   ·exact⟨41,rfl,by decide⟩
   ·exact⟨41,rfl,by decide⟩
   ·exact⟨1000000000000,rfl,by decide⟩
  have q1:∀(r:L3.Env) (k:Nat),k<=1000->r[0]?.join=some (.int (k:Int))->r[1]?.join=some (.int (many:Int))->r[2]?.join=some (.int cell)->r[3]?.join=some (.int most)->QU r=some (.lst (ed many (p7 cell most k))):=λr k hk h0 h1 h2 h3=>by
   refine wx (λ(g:Nat)=>D.int (g:Int)) (λg=>D.int (p7 cell most k g)) (aE many) (uE h1 (by omega)) (by rw[aY];omega) λg hg=>⟨_,rfl,?_⟩
   have hg:=bv.mp hg
   have fK:dE r [2,0,3]=[some (.int cell),some (.int (k:Int)),some (.int most)]:=by unfold dE;simp[h0,h2,h3]
   rw[fK]
   obtain⟨m1,m2⟩:=Jw cell (k:=20*(k:Int)+(g:Int)) (by omega) (by omega)
   have a1:dk (.int 20) (.int (k:Int))=some (.int (20*(k:Int))):=zbg (by decide) (by decide)
   unfold p7
   generalize i9 cell (20*(k:Int)+(g:Int))=z at *
   have a2:dk (.int (z:Int)) (.int 7919)=some (.int ((z:Int)*7919)):=zas (by decide) (by decide)
   have a3:eE (.int ((z:Int)*7919)) (.int most)=some (.int ((z:Int)*7919%most)):=qh rF
   clear fK h0 h1 h2 h3 hk hg m2 rF hm hd EJ nB h4
   walk_at "mir"
  refine⟨p7 cell most,?_⟩
  have q2:QW [some (.lst (ns.map .int)),some (.int (many:Int)),some (.int (dp:Int)),some (.int cell),some (.int most)]=some (.lst (bD many dp (p7 cell most))):=by
   refine wx (λ(k:Nat)=>D.int (k:Int)) (λk=>D.lst (ed many (p7 cell most k))) (aE dp) (uE rfl (by omega)) (by rw[aY];omega) λk hk=>⟨_,rfl,?_⟩
   have hk:=bv.mp hk
   exact q1 _ k (by omega) rfl rfl rfl rfl
  generalize bD many dp (p7 cell most)=rs at *
  unfold Ht
  clear q1 rF hm hd
  walk_at "mir"
theorem zwi {as:List ck}(hl:as.length<=1000)(r:L3.Env)(h4:r[4]?.join=some (.lst (as.map d8))):SH r=some (.lst ((as.map λa=>oY a a.s).map bH)):=by
 rw[cv]
 refine wx d8 (λa=>bH (oY a a.s)) as (by unfold lsD;have:eV 4 r=_:=h4;rw[this];rfl) (by omega) λa _=>⟨_,rfl,?_⟩
 have i0:cP (d8 a) (.int 0)=some (.int (a.s:Int)):=rfl
 have:=zu5 a a.s
 clear hl h4
 walk_at "mir"
theorem zwj {many:Nat}(hm:many<=8)(r:L3.Env)(h1:r[1]?.join=some (.int (many:Int))):SI r=some (.lst (nm many)):=by
 refine wx (λ(t:Nat)=>D.int (t:Int)) (λ(k:Nat)=>D.str ("a"++xH (k:Int))) (aE many) (uE h1 (by omega)) (by rw[aY];omega) λg hg=>⟨_,rfl,?_⟩
 have hg:=bv.mp hg
 obtain⟨s1,s2⟩:=zst g (by omega)
 clear hg h1 hm
 walk_at "mir"
theorem zwk {ns:List Int}{many total:Nat}{cj:Int}{mk:Nat->ck}(ht:total<=100)(EH:∀k,k<total->∃c:Int,yw [.lst (ns.map .int),.int (4+(k:Int))]=some (.int c)/\wz [.int c,.int (many:Int),.int cj,.int (k:Int)]=some (d8 (mk k)))(r:L3.Env)(h0:r[0]?.join=some (.lst (ns.map .int)))(h1:r[1]?.join=some (.int (many:Int)))(h2:r[2]?.join=some (.int (total:Int)))(h3:r[3]?.join=some (.int cj)):SJ r=some (.lst (((aE total).map mk).map d8)):=by
 rw[cv]
 refine wx (λ(t:Nat)=>D.int (t:Int)) (λk=>d8 (mk k)) (aE total) (uE h2 (by omega)) (by rw[aY];omega) λk hk=>⟨_,rfl,?_⟩
 obtain⟨c,e1,e2⟩:=EH k (bv.mp hk)
 have fK:dE r [0,1,3]=[some (.lst (ns.map .int)),some (.int (many:Int)),some (.int cj)]:=by unfold dE;simp[h0,h1,h3]
 rw[fK]
 clear fK EH h0 h1 h2 h3 hk ht
 walk_at "mir"
theorem uU (ns:List Int)(cj:Int){many total:Nat}(h1:1<=many)(h2:many<=8)(ht:total<=100):∃(mk:Nat->ck) (rk:Nat->Nat),(∀k,k<total->∃c:Int,yw [.lst (ns.map .int),.int (4+(k:Int))]=some (.int c)/\wz [.int c,.int (many:Int),.int cj,.int (k:Int)]=some (d8 (mk k)))/\(∀k,k<total->Drawn many rk (mk k))/\∀k,k<many->k<total->(mk k).g=k:=by
 obtain⟨rk,uZ⟩:=zu1 cj h1 (by omega)
 have key:∀k,∃a:ck,k<total->(∃c:Int,yw [.lst (ns.map .int),.int (4+(k:Int))]=some (.int c)/\wz [.int c,.int (many:Int),.int cj,.int (k:Int)]=some (d8 a))/\Drawn many rk a/\(k<many->a.g=k):=by
  intro k
  by_cases hk:k<total
  ·obtain⟨c,hc⟩:=HN ns (4+(k:Int)) (by omega)
   obtain⟨a,a1,a2,a3,a4,a5,a6,a7,a8⟩:=zsn c cj k (by omega) h1 (by omega) rk uZ
   exact⟨a,λ_=>⟨⟨c,hc,a1⟩,⟨a2,a3,a4,a5,a6,a7⟩,a8⟩⟩
  ·exact⟨⟨.wait,0,0,0,0⟩,λz=>absurd z hk⟩
 refine⟨λk=>Classical.choose (key k),rk,λk hk=>(Classical.choose_spec (key k) hk).1,λk hk=>(Classical.choose_spec (key k) hk).2.1,λk VM LS=>(Classical.choose_spec (key k) LS).2.2 VM⟩
theorem Qe (as:List ck):∀w:List Nat,0<=sB as w
 |[]=>by unfold sB;simp
 |n::w=>by
  have:=Qe as w
  have e:sB as (n::w)=((aN as n).b:Int)+sB as w:=by unfold sB;rw[aM,bL];rfl
  omega
theorem Tq {as:List ck}{many lo hi:Nat}{V:Nat->Nat->Int}(h:Mx as many lo hi V):∀(w:List Nat) (a b i j:Nat),mw (aS as) (aG as) a w b->(∀n∈w,n<as.length)->lo<=i->j<hi->(j:Int)=(i:Int)+sB as w->V i a+sT as w<=V j b
 |[],a,b,i,j,hw,_,_,_,e=>by
  have hw:a=b:=hw
  subst hw
  have e:j=i:=by unfold sB at e;simp at e;omega
  subst e
  unfold sT
  simp
 |n::w,a,b,i,j,hw,hn,hi,hj,e=>by
  have hb:=Qe as w
  have en:sB as (n::w)=((aN as n).b:Int)+sB as w:=by unfold sB;rw[aM,bL];rfl
  have et:sT as (n::w)=(aN as n).t+sT as w:=by unfold sT;rw[aM,bL];rfl
  have hm:=h.ge (i+(aN as n).b) (by omega) (by omega) (aN as n) (jw (hn n aa))
  rw[Nat.add_sub_cancel]at hm
  have ih:=Tq h w (aG as n) b (i+(aN as n).b) j hw.2 (λm hm=>hn m (ah _ hm)) (by omega) hj (by omega)
  have hs:aS as n=a:=hw.1
  unfold aS at hs
  unfold aG at ih
  rw[hs]at hm
  omega
theorem Rq {S G:Nat->Nat}{t:List Nat}{b:Nat}:∀{s:List Nat} {a:Nat},mw S G a (s++t) b->∃y,mw S G a s y/\mw S G y t b
 |[],a,h=>⟨a,rfl,h⟩
 |n::s,a,h=>by
  obtain⟨y,h1,h2⟩:=Rq (s:=s) h.2
  exact⟨y,⟨h.1,h1⟩,h2⟩
theorem zs9 {as:List ck}{aI R:List Nat}(h:RG as aI R){n:Nat}(hn:n∈R):∃R',mw (aS as) (aG as) (aS as n) R' (aS as n)/\(∀m∈R',m∈R)/\sT as R'=sT as R/\sB as R'=sB as R:=by
 obtain⟨x,hx⟩:=h.w
 obtain⟨s,t,rfl⟩:=List.append_of_mem hn
 obtain⟨y,h1,h2⟩:=Rq hx
 have hy:aS as n=y:=h2.1
 subst hy
 refine⟨(n::t)++s,h1.app h2,λm hm=>?_,?_,?_⟩
 ·rcases aZ.mp hm with h|h
  ·exact aw _ h
  ·exact bg _ h
 ·unfold sT
  rw[cZ,iZ,cZ,iZ,Int.add_comm]
 ·unfold sB
  rw[cZ,iZ,cZ,iZ,Int.add_comm]
theorem zni {as:List ck}{many rounds:Nat}{V:Nat->Nat->Int}{L:List Nat}{q:Int×Int}{T:Nat->Int}{above:Int}(ok:iP many as)(h:Mx as many (dep as) (dep as+rounds) V)(hL:∀x∈L,x<many)(hc:∀a∈as,a.g∈L->a.s∈L)(hk:∀n∈gR as L,T (aS as n)+dN as q n<=T (aG as n))(rA:∀i,i<dep as->∀g∈L,V i g*q.2-T g+q.1*((dep as:Int)-(i:Int))<=above):∀i g,i<dep as+rounds->g∈L->V i g*q.2<=T g+q.1*((i:Int)-(dep as:Int))+above:=by
 refine RL ok λi g E9 Fa hi hg=>?_
 by_cases hd:i<dep as
 ·have:=rA i hd g hg
  have e:q.1*((dep as:Int)-(i:Int)) =-(q.1*((i:Int)-(dep as:Int))):=by rw[←Int.mul_neg];congr 1;omega
  omega
 ·obtain⟨a,ha,iQ,hv⟩:=h.at_ i (by omega) hi g (hL g hg)
  have hs:=hc a ha (by rw[iQ];exact hg)
  have hb:=JV ha
  have ih:V (i-a.b) a.s*q.2<=T a.s+q.1*(((i-a.b:Nat):Int)-(dep as:Int))+above:=by
   by_cases sP:a.b=0
   ·have:=Fa a ha iQ sP hi hs
    rw[sP,pw]
    exact this
   ·exact E9 (i-a.b) (by omega) a.s (by omega) hs
  obtain⟨n,hn⟩:=bW.mp ha
  have ea:aN as n=a:=by unfold aN;rw[hn];rfl
  have Ey:=hk n (Hv.mpr ⟨(aL.mp hn).1,by unfold aG;rw[ea,iQ];exact hg⟩)
  unfold aS aG dN at Ey
  rw[ea,iQ]at Ey
  rw[←hv,lZ]
  have e:((i-a.b:Nat):Int)=(i:Int)-(a.b:Int):=by omega
  rw[e]at ih
  have e2:q.1*((i:Int)-(a.b:Int)-(dep as:Int))=q.1*((i:Int)-(dep as:Int))-(a.b:Int)*q.1:=by
   rw[e9 (a.b:Int) q.1,←Int.mul_sub]
   congr 1
   omega
  rw[e2]at ih
  omega
theorem zpq {O:List (Option (Int×Int))}{q:Int×Int}(hq:0<q.2)(rH:q.2<=160)(hO:∀r,some r∈O->0<r.2/\∃c,q.2=c*r.2):xy [qL O,fr q]=some (.int q.2):=by
 have lp:=HH (g:=gV 3) (b:=w6) (λρ=>∃y3 y4 y5,ρ=[some (.lst (O.map cX)),some (fr q),some (.int q.2),y3,y4,y5]) (λ_=>False) (O.map cX) [some (.lst (O.map cX)),some (fr q),some (.int q.2),none,none,none] ⟨_,_,_,rfl⟩ (by
  rintro d hd ρ ⟨y3,y4,y5,rfl⟩
  obtain⟨o,ho,rfl⟩:=bz.mp hd
  refine⟨[some (.lst (O.map cX)),some (fr q),some (.int q.2),some (cX o),y4,y5],rfl,.inl ?_⟩
  cases o with
  |none=>
   refine⟨[some (.lst (O.map cX)),some (fr q),some (.int q.2),some .non,y4,y5],.inl ?_,_,_,_,rfl⟩
   have e:mI true .non .non=some (.bl false):=rfl
   generalize O.map cX=oe,fr q=F at *
   clear hd hO ho
   unfold w6
   show(sIf _ _ _) [some (.lst oe),some F,some (.int q.2),some .non,y4,y5]=_
   walk_at "mir"
  |some r=>
   obtain⟨r1,c,hc⟩:=hO r ho
   have mE:r.2<=q.2:=Int.le_of_dvd hq ⟨c,by rw[hc,e9]⟩
   have Iu:q.2.fmod r.2=0:=by
    rw[hc,e9]
    exact Int.mul_fmod_right r.2 c
   obtain⟨s',h1,h2,h3,_⟩:=M7 (c:=tb (e2 (lD true) (eV 5) (eC (D.int 0)))) (b:=v6) (λs:Int×Int=>[some (.lst (O.map cX)),some (fr q),some (.int q.2),some (fr r),some (.int s.1),some (.int s.2)]) (λs=>!decide (s.2=0)) (λs=>(s.2,s.1.fmod s.2)) (λs=>s.2.natAbs) (λs=>s=(q.2,r.2)\/s=(r.2,0))
    (λs hp=>by
     generalize O.map cX=oe
     generalize fr q=F
     generalize fr r=Fr
     clear Iu mE hc r1 ho hd hO
     walk_at "mir") (λs hp ht=>by
     have hs:s.2≠0:=by simpa using ht
     refine⟨.inl ?_,?_,Fq.fmod_less s.1 hs⟩
     ·unfold v6
      have:=Sf (i:=s.1) hs
      generalize O.map cX=oe
      generalize fr q=F
      generalize fr r=Fr
      clear Iu mE hc r1 ho hd hO hp ht
      walk_at "mir"
     ·rcases hp with rfl|rfl
      ·exact .inr (by show(r.2,q.2.fmod r.2)=_;rw[Iu])
      ·exact absurd rfl hs) lN (q.2,r.2) (.inl rfl) (NR (sx (n:=8000) (w:=160) (by omega) (by omega) (by decide)) (by decide))
   have h3:s'.2=0:=by simpa using h3
   have L5:s'=(r.2,0):=by
    rcases h2 with rfl|rfl
    ·exact absurd h3 (by show¬r.2=0;omega)
    ·rfl
   subst L5
   dsimp only at h1
   have e:mI true (fr r) .non=some (.bl true):=rfl
   have i1:=mY r
   have d1:ez (.int q.2) (.int r.2)=some (.int c):=by
    rw[j7 r1 (by omega)]
    congr 2
    rw[hc]
    exact qR c (by omega)
   have m1:dk (.int c) (.int r.2)=some (.int q.2):=(zas (by omega) (by omega)).trans (by rw[←hc])
   refine⟨[some (.lst (O.map cX)),some (fr q),some (.int q.2),some (fr r),some (.int r.2),some (.int 0)],.inl ?_,_,_,_,rfl⟩
   unfold w6 gb
   show(sIf _ _ _) [some (.lst (O.map cX)),some (fr q),some (.int q.2),some (fr r),y4,y5]=_
   generalize O.map cX=oe at *
   unfold fr at *
   generalize (tb (e2 (lD true) (eV 5) (eC (D.int 0))))=cc at *
   clear Iu mE hc r1 ho hd hO h2 h3 hq rH
   walk_at "mir")
 have i1:=mY q
 rcases lp with⟨ρ',l1,y3,y4,y5,rfl⟩|⟨r,_,f⟩
 ·show xy [.lst (O.map cX),fr q]=_
  generalize O.map cX=oe,fr q=F at *
  clear hO hq rH
  unfold xy
  walk_at "mir"
 ·exact f.elim
theorem SW {as:List ck}{w:List Nat}{j:Int}{f:ck->Int}{q:EF}{fi:L3.Env->Option (List D)}(hq:q=dA fi 1 [1] (gV 0) eI (e2 cP (e2 cP (eV 1) (eV 0)) (eC (.int j))))(hf:∀a:ck,cP (.tup [.int (a.s:Int),.int (a.g:Int),.int a.t,.int (a.b:Int)]) (.int j)=some (.int (f a)))(hl:w.length<=1000)(hr:∀n∈w,n<as.length)(r:L3.Env)(h0:r[1]?.join=some (.lst (as.map d8)))(hi:fi r=some (ap w)) :
  q r=some (.lst ((w.map λn=>f (aN as n)).map .int)):=by
 rw[hq,cv]
 refine wx (λ(n:Nat)=>D.int (n:Int)) (λn=>D.int (f (aN as n))) w hi (by omega) λn hn=>⟨_,rfl,?_⟩
 have fK:dE r [1]=[some (.lst (as.map d8))]:=by unfold dE;simp[h0]
 rw[fK]
 have i1:=Tv (as:=as) (hr n hn)
 have f1:=hf (aN as n)
 generalize f (aN as n)=v,as.map d8=al,(D.tup [.int ((aN as n).s:Int),.int ((aN as n).g:Int),.int (aN as n).t,.int ((aN as n).b:Int)])=tp at *
 clear fK h0 hr hn hl hf hq hi
 walk_at "mir"
theorem zpr {as:List ck}{many rounds:Nat}{R aI:List Nat}{X:Nat->Nat->Int}(hR:RG as aI R)(ie:∀n∈R,n<as.length)(hRl:R.length<=1000)(hr:rounds<=1000)(hs:∀a∈as,a.s<many)(O3:0<=sB as R)(hB:sB as R<=1000000)
  (h:∀n∈R,∀i j:Nat,j<rounds->(j:Int)=(i:Int)+sB as R->X i (aS as n)+sT as R<=X j (aS as n)):I0 [.lst (bD many rounds X),.lst (as.map d8),.lst (ap R)]=some (.bl true):=by
 have k2:=SW (as:=as) (w:=R) (j:=2) (f:=λa=>a.t) (q:=MZ) (fi:=lsD (eV 2)) rfl (λ_=>rfl) (by omega) ie [some (.lst (bD many rounds X)),some (.lst (as.map d8)),some (.lst (ap R)),none,none,none,none,none] rfl rfl
 have k3:=SW (as:=as) (w:=R) (j:=3) (f:=λa=>(a.b:Int)) (q:=MY) (fi:=lsD (eV 2)) rfl (λ_=>rfl) (by omega) ie [some (.lst (bD many rounds X)),some (.lst (as.map d8)),some (.lst (ap R)),some (.int (sT as R)),none,none,none,none] rfl rfl
 replace k2:MZ _=some (.lst ((R.map (tN as)).map .int)):=k2
 replace k3:MY _=some (.lst ((R.map (bN as)).map .int)):=k3
 have u2:n8 [.lst ((R.map (tN as)).map .int)]=some (.int (sT as R)):=HP (R.map (tN as))
 have u3:n8 [.lst ((R.map (bN as)).map .int)]=some (.int (sB as R)):=HP (R.map (bN as))
 obtain⟨B,Ip⟩:∃B:Nat,sB as R=(B:Int):=⟨(sB as R).toNat,by omega⟩
 have lr:dZ [.lst (bD many rounds X)]=some (.int (rounds:Int)):=(qj _).trans (by rw[Nq])
 have lp:=HH (g:=gV 5) (b:=MX) (λρ=>∃y5 y6 y7,ρ=[some (.lst (bD many rounds X)),some (.lst (as.map d8)),some (.lst (ap R)),some (.int (sT as R)),some (.int (sB as R)),y5,y6,y7]) (λ_=>False) (ap R) [some (.lst (bD many rounds X)),some (.lst (as.map d8)),some (.lst (ap R)),some (.int (sT as R)),some (.int (sB as R)),none,none,none] ⟨_,_,_,rfl⟩ (by
  rintro d hd ρ ⟨y5,y6,y7,rfl⟩
  obtain⟨n,hn,rfl⟩:=bz.mp hd
  refine⟨[some (.lst (bD many rounds X)),some (.lst (as.map d8)),some (.lst (ap R)),some (.int (sT as R)),some (.int (sB as R)),some (.int (n:Int)),y6,y7],rfl,.inl ?_⟩
  have EW:aS as n<many:=hs _ (jw (ie n hn))
  have ia:cP (.lst (as.map d8)) (.int (n:Int))=some (d8 (aN as n)):=ue (by rw[aQ,xZ (ie n hn)];rfl)
  have i0:cP (d8 (aN as n)) (.int 0)=some (.int (aS as n:Int)):=rfl
  have inner:=HH (g:=gV 7) (b:=MW) (λρ=>∃z7,ρ=[some (.lst (bD many rounds X)),some (.lst (as.map d8)),some (.lst (ap R)),some (.int (sT as R)),some (.int (sB as R)),some (.int (n:Int)),some (.int (aS as n:Int)),z7]) (λ_=>False) (eY (sB as R) ((rounds:Int)-sB as R).toNat) [some (.lst (bD many rounds X)),some (.lst (as.map d8)),some (.lst (ap R)),some (.int (sT as R)),some (.int (sB as R)),some (.int (n:Int)),some (.int (aS as n:Int)),y7] ⟨_,rfl⟩ (by
   rintro d hd ρ ⟨z7,rfl⟩
   obtain⟨j,LR,VL,rfl⟩:∃j:Nat,j<rounds/\B<=j/\d=.int (j:Int):=by
    unfold eY at hd
    obtain⟨k,hk,rfl⟩:=bz.mp hd
    have hk:=bv.mp hk
    exact⟨B+k,by omega,by omega,by rw[Ip];congr 1⟩
   refine⟨[some (.lst (bD many rounds X)),some (.lst (as.map d8)),some (.lst (ap R)),some (.int (sT as R)),some (.int (sB as R)),some (.int (n:Int)),some (.int (aS as n:Int)),some (.int (j:Int))],rfl,.inl ⟨[some (.lst (bD many rounds X)),some (.lst (as.map d8)),some (.lst (ap R)),some (.int (sT as R)),some (.int (sB as R)),some (.int (n:Int)),some (.int (aS as n:Int)),some (.int (j:Int))],.inl ?_,_,rfl⟩⟩
   have hx:=h n hn (j-B) j LR (by omega)
   have a1:=Jr (n:=many) (m:=rounds) (i:=j) (X:=X) LR
   have a2:cP (.lst (ed many (X j))) (.int (aS as n:Int))=some (.int (X j (aS as n))):=wB (X j) EW
   have a3:=Jr (n:=many) (m:=rounds) (i:=j-B) (X:=X) (by omega)
   have a4:cP (.lst (ed many (X (j-B)))) (.int (aS as n:Int))=some (.int (X (j-B) (aS as n))):=wB (X (j-B)) EW
   have e1:n6 (.int (j:Int)) (.int (sB as R))=some (.int ((j-B:Nat):Int)):=by
    show some (D.int ((j:Int)-sB as R))=_
    congr 2
    omega
   generalize X (j-B) (aS as n)=x1,X j (aS as n)=x2,ed many (X (j-B))=v1,ed many (X j)=v2,((j-B:Nat):Int)=jb,(j:Int)=jj,bD many rounds X=rs,as.map d8=al,ap R=rl,sT as R=st,sB as R=sb,(aS as n:Int)=sn at *
   have lt:¬x2<x1+st:=by omega
   unfold MW
   clear hx hd LR VL Ip ia i0 hn h EW k2 k3 u2 u3 lr hR ie
   walk_at "mir")
  have rg:rL [.int (sB as R),.int (rounds:Int)]=some (eY (sB as R) ((rounds:Int)-sB as R).toNat):=zoh (by omega) (by omega) (by omega) (by omega)
  rcases inner with⟨ρ',l1,z7,rfl⟩|⟨_,_,f⟩
  ·refine⟨[some (.lst (bD many rounds X)),some (.lst (as.map d8)),some (.lst (ap R)),some (.int (sT as R)),some (.int (sB as R)),some (.int (n:Int)),some (.int (aS as n:Int)),z7],.inl ?_,_,_,_,rfl⟩
   generalize eY (sB as R) ((rounds:Int)-sB as R).toNat=up,d8 (aN as n)=ea,bD many rounds X=rs,as.map d8=al,ap R=rl,sT as R=st at *
   generalize sB as R=sb,(aS as n:Int)=sn at *
   clear h hd hn EW k2 k3 u2 u3 hR ie Ip hB O3
   unfold MX
   walk_at "mir"
  ·exact f.elim)
 rcases lp with⟨ρ',l1,y5,y6,y7,rfl⟩|⟨_,_,f⟩
 ·generalize (R.map (tN as)).map D.int=tl at *
  generalize (R.map (bN as)).map D.int=bl,bD many rounds X=rs,as.map d8=al,ap R=rl,sT as R=st,sB as R=sb at *
  clear h hR ie Ip hB O3 lr hs
  unfold I0
  walk_at "mir"
 ·exact f.elim
theorem zvp {many:Nat}{L:List Nat}{T:Nat->Int}{W:Int}{g:Nat}(hg:g<many)(h:g∈L):cP (.lst ((fv many L T W).map cX)) (.int (g:Int))=some (fr (Fq.mk (T g) W)):=ue (by
 unfold fv
 rw[aQ,aQ,el hg]
 show some (cX (if g∈L then some (Fq.mk (T g) W)else none))=_
 rw[if_pos h]
 rfl)
theorem SX {many:Nat}{L:List Nat}{q:Int×Int}{T:Nat->Int}(hq:0<q.2)(rH:q.2<=160)(hL:∀x∈L,x<many)(hT:∀x,0<=T x)(a0 a1 a2 a3 a4 a5 a8 a11 a12 a13 a14 a15 a16:Option D):∀(ys:List Nat) (d:D) (ch:Nat->Option Nat) (m:Nat) (uV:Option D),ek d ch m->m+ys.length<=1000->(∀y∈ys,y∈L) ->
  ∃d' nj,fP (gV 10) QF (ap ys) [a0,a1,a2,a3,a4,a5,some (.lst ((fv many L T q.2).map cX)),some (.int q.2),a8,some d,uV,a11,a12,a13,a14,a15,a16]=some (.nx [a0,a1,a2,a3,a4,a5,some (.lst ((fv many L T q.2).map cX)),some (.int q.2),a8,some d',nj,a11,a12,a13,a14,a15,a16])/\ek d' (λx=>if x∈ys then some (T x).toNat else ch x) (m+ys.length)
 |[],d,ch,m,uV,hd,_,_=>⟨d,uV,rfl,by simpa using hd⟩
 |y::ys,d,ch,m,uV,hd,hm,hy=>by
  have AB:=hy y aa
  have ix:=zvp (T:=T) (W:=q.2) (hL y AB) AB
  obtain⟨d1,EQ,Et⟩:=hd.put (by simp at hm;omega) y (T y).toNat
  obtain⟨d',nj,h1,h2⟩:=SX hq rH hL hT a0 a1 a2 a3 a4 a5 a8 a11 a12 a13 a14 a15 a16 ys d1 _ (m+1) (some (.int (y:Int))) Et (by simp at hm;omega) (λx hx=>hy x (ah _ hx))
  refine⟨d',nj,?_,?_⟩
  ·refine(Ss (ρ1:=[a0,a1,a2,a3,a4,a5,some (.lst ((fv many L T q.2).map cX)),some (.int q.2),a8,some d,some (.int (y:Int)),a11,a12,a13,a14,a15,a16]) rfl ?_).trans h1
   refine EQ _ 9 _ _ ?_ rfl rfl
   have ED:Fq.Low (Fq.mk (T y) q.2):=Fq.mk_low (by omega)
   have LN:=ED.gt
   have e1:=Fq.mk_one (T y) q.2
   have Aa:=Fq.mk_two (T y) q.2
   have rB:=Fq.dv_le (t:=T y) (b:=q.2) (by omega)
   have mE:=Fq.mk_le_two (t:=T y) (b:=q.2) (by omega)
   generalize Fq.mk (T y) q.2=r,Fq.dv (T y) q.2=c at *
   have d1':ez (.int q.2) (.int r.2)=some (.int c):=by
    rw[j7 LN (by omega)]
    congr 2
    rw[Aa]
    exact qR c (by omega)
   have m1:dk (.int r.1) (.int c)=some (.int ((T y).toNat:Int)):=(zas (by omega) (by omega)).trans (by
    congr 2
    rw[e9,←e1]
    have:=hT y
    omega)
   have i0:=Ab r
   have i1:=mY r
   generalize ((T y).toNat:Int)=ty,fr r=F,(fv many L T q.2).map cX=ol at *
   clear ED LN e1 Aa rB mE h1 h2 EQ Et hd hy AB hT hL hq rH hm
   walk_at "mir"
  ·have e:(λx=>if x∈y::ys then some (T x).toNat else ch x)=λx=>if x∈ys then some (T x).toNat else if x=y then some (T y).toNat else ch x:=by
    funext x
    by_cases hx:x∈ys
    ·rw[if_pos hx,if_pos (ah _ hx)]
    ·rw[if_neg hx]
     by_cases Mb:x=y
     ·subst Mb;rw[if_pos rfl,if_pos aa]
     ·rw[if_neg Mb,if_neg (by simp[hx,Mb])]
   rw[e,aV]
   have:m+1+ys.length=m+(ys.length+1):=by omega
   rw[this]at h2
   exact h2
def xR (q:Int×Int)(T:Nat->Int)(W:Nat->Nat->Int)(k g:Nat):Int:=W k g*q.2-T g+q.1*((k:Int)+1)
theorem RN {many dp k:Nat}{L:List Nat}{q:Int×Int}{T:Nat->Int}{W:Nat->Nat->Int}{d:D}(hq:0<q.2)(rH:q.2<=160)(ER:0<=q.1)(ES:q.1<=120000000000)(hL:∀x∈L,x<many)(hk:k<dp)(hd:∀x∈L,(fq d (.int (x:Int))).join=some (.int (T x)))(a0 a2 a3 a4 a5 a6 a14 a15 a16:Option D):∀(ys:List Nat) (o:My.T) (uV zZ:Option D),(∀y∈ys,y∈L) ->
  ∃(o':My.T) (nj MU:Option D),fP (gV 10) MV (ap ys) [a0,some (.lst (bD many dp W)),a2,a3,a4,a5,a6,some (.int q.2),some (.int q.1),some d,uV,some (fC o),some (.int (k:Int)),zZ,a14,a15,a16]=some (.nx [a0,some (.lst (bD many dp W)),a2,a3,a4,a5,a6,some (.int q.2),some (.int q.1),some d,nj,some (fC o'),some (.int (k:Int)),MU,a14,a15,a16])/\(∀z,o=some z->∃z',o'=some z'/\z<=z')/\∀g∈ys,∃z',o'=some z'/\xR q T W k g<=z'
 |[],o,uV,zZ,_=>⟨o,uV,zZ,rfl,λz hz=>⟨z,hz,dr _⟩,λg hg=>(by cases hg)⟩
 |y::ys,o,uV,zZ,hy=>by
  have AB:=hy y aa
  obtain⟨o1,ID,LV,EB⟩:∃v:Int,mx o (some (xR q T W k y))=some v/\xR q T W k y<=v/\∀z,o=some z->z<=v:=by
   cases o with
   |none=>exact⟨_,rfl,dr _,λz hz=>(by cases hz)⟩
   |some z=>exact⟨_,rfl,by split<;>omega,λz' hz=>by cases hz;split<;>omega⟩
  obtain⟨o',nj,MU,h1,h2,h3⟩:=RN hq rH ER ES hL hk hd a0 a2 a3 a4 a5 a6 a14 a15 a16 ys (some o1) (some (.int (y:Int))) (some (.int (xR q T W k y))) (λx hx=>hy x (ah _ hx))
  refine⟨o',nj,MU,?_,?_,?_⟩
  ·refine(Ss (ρ1:=[a0,some (.lst (bD many dp W)),a2,a3,a4,a5,a6,some (.int q.2),some (.int q.1),some d,some (.int (y:Int)),some (fC o),some (.int (k:Int)),zZ,a14,a15,a16]) rfl ?_).trans h1
   have b1:=Jr (n:=many) (m:=dp) (i:=k) (X:=W) hk
   have b2:cP (.lst (ed many (W k))) (.int (y:Int))=some (.int (W k y)):=wB (W k) (hL y AB)
   have b3:=hd y AB
   have m1:dk (.int (W k y)) (.int q.2)=some (.int (W k y*q.2)):=zas (by omega) (by omega)
   have m2:dk (.int q.1) (.int ((k:Int)+1))=some (.int (q.1*((k:Int)+1))):=zbg (by omega) (by omega)
   unfold xR at *
   clear h1 h2 h3 hd hy AB hL hk hq rH ER ES LV EB
   generalize W k y*q.2=w1,q.1*((k:Int)+1)=w2 at *
   generalize W k y=w3,ed many (W k)=vk,bD many dp W=rs,T y=ty at *
   unfold MV
   cases o with
   |none=>
    have e:w1-ty+w2=o1:=by simpa[mx]using ID
    have e0:mI false .non .non=some (.bl true):=rfl
    show(sSeq _ _) [a0,some (.lst rs),a2,a3,a4,a5,a6,some (.int q.2),some (.int q.1),some d,some (.int (y:Int)),some .non,some (.int (k:Int)),zZ,a14,a15,a16]=some (.nx [a0,some (.lst rs),a2,a3,a4,a5,a6,some (.int q.2),some (.int q.1),some d,some (.int (y:Int)),some (.int o1),some (.int (k:Int)),some (.int (w1-ty+w2)),a14,a15,a16])
    subst e
    clear ID
    walk_at "mir"
   |some z=>
    have e:(if w1-ty+w2 > z then w1-ty+w2 else z)=o1:=by simpa[mx]using ID
    have e0:mI false (.int z) .non=some (.bl false):=rfl
    show(sSeq _ _) [a0,some (.lst rs),a2,a3,a4,a5,a6,some (.int q.2),some (.int q.1),some d,some (.int (y:Int)),some (.int z),some (.int (k:Int)),zZ,a14,a15,a16]=some (.nx [a0,some (.lst rs),a2,a3,a4,a5,a6,some (.int q.2),some (.int q.1),some d,some (.int (y:Int)),some (.int o1),some (.int (k:Int)),some (.int (w1-ty+w2)),a14,a15,a16])
    clear ID
    by_cases hz:w1-ty+w2 > z
    ·rw[if_pos hz]at e
     subst e
     walk_at "mir"
    ·rw[if_neg hz]at e
     subst e
     walk_at "mir"
  ·intro z hz
   obtain⟨z',h4,h5⟩:=h2 o1 rfl
   exact⟨z',h4,by have:=EB z hz;omega⟩
  ·intro g hg
   rcases aC.mp hg with rfl|hg
   ·obtain⟨z',h4,h5⟩:=h2 o1 rfl
    exact⟨z',h4,by omega⟩
   ·exact h3 g hg
theorem zps {many rounds dp:Nat}{L R:List Nat}{q:Int×Int}{T:Nat->Int}{W X:Nat->Nat->Int}(hq:0<q.2)(rH:q.2<=160)(ER:0<=q.1)(ES:q.1<=120000000000)(hL:∀x∈L,x<many)(Vp:L.length<=1000)(kr:L≠[])(LD:1<=dp)(LF:dp<=1000)(hr:rounds<=1000)(hT:∀x,0<=T x/\T x<=1000000000000000)
  (qJ:∀above,(∀k,k<dp->∀g∈L,xR q T W k g<=above)->∀r,r<rounds->∀g∈L,X r g*q.2<=T g+(q.1*(r:Int)+above)) :
  jv [.lst (bD many rounds X),.lst (bD many dp W),.tup [fr q,.lst (ap R),qL (fv many L T q.2)],.lst (ap L)]=some (.bl true):=by
 have bt:=zpq (O:=fv many L T q.2) hq rH (λr hr=>by
  obtain⟨g,rfl⟩:=zs8 hr
  exact⟨(Fq.mk_low (by omega)).gt,_,Fq.mk_two (T g) q.2⟩)
 replace bt:xy [.lst ((fv many L T q.2).map cX),fr q]=some (.int q.2):=bt
 obtain⟨d,nj,tl,hd⟩:=SX hq rH hL (λx=>(hT x).1) (some (.lst (bD many rounds X))) (some (.lst (bD many dp W))) (some (.tup [fr q,.lst (ap R),.lst ((fv many L T q.2).map cX)])) (some (.lst (ap L))) (some (fr q)) (some (.lst (ap R))) (some (.int q.1)) none none none none none none L (.dK [] []) (λ_=>none) 0 none ⟨_,_,rfl,rfl,by simp,λx=>rfl⟩ (by omega) (λy hy=>hy)
 have Ew:∀x∈L,(fq d (.int (x:Int))).join=some (.int (T x)):=λx hx=>by
  have:=hd.get (x:=x) (n:=(T x).toNat) (by show(if x∈L then _ else _)=_;rw[if_pos hx])
  rw[this]
  have:=(hT x).1
  congr 2
  omega
 have lp:=Je (g:=gV 12) (b:=QE) (n:=dp)
  (λk ρ=>∃(o:My.T) (z10 z12 z13:Option D),ρ=[some (.lst (bD many rounds X)),some (.lst (bD many dp W)),some (.tup [fr q,.lst (ap R),.lst ((fv many L T q.2).map cX)]),some (.lst (ap L)),some (fr q),some (.lst (ap R)),some (.lst ((fv many L T q.2).map cX)),some (.int q.2),some (.int q.1),some d,z10,some (fC o),z12,z13,none,none,none]/\∀k',k'<k->∀g∈L,∃z,o=some z/\xR q T W k' g<=z) (λ_=>False) (by
  rintro k ρ hk ⟨o,z10,z12,z13,rfl,ho⟩
  obtain⟨o',Qo,w13,h1,h2,h3⟩:=RN hq rH ER ES hL hk Ew (some (.lst (bD many rounds X))) (some (.tup [fr q,.lst (ap R),.lst ((fv many L T q.2).map cX)])) (some (.lst (ap L))) (some (fr q)) (some (.lst (ap R))) (some (.lst ((fv many L T q.2).map cX))) none none none L o z10 z13 (λy hy=>hy)
  refine⟨_,rfl,.inl ⟨_,h1,o',_,_,_,rfl,λk' Ey g hg=>?_⟩⟩
  by_cases VN:k'=k
  ·subst VN
   exact h3 g hg
  ·obtain⟨z,e,hz⟩:=ho k' (by omega) g hg
   obtain⟨z',e',Pw⟩:=h2 z e
   exact⟨z',e',by omega⟩) dp 0 [some (.lst (bD many rounds X)),some (.lst (bD many dp W)),some (.tup [fr q,.lst (ap R),.lst ((fv many L T q.2).map cX)]),some (.lst (ap L)),some (fr q),some (.lst (ap R)),some (.lst ((fv many L T q.2).map cX)),some (.int q.2),some (.int q.1),some d,nj,some .non,none,none,none,none,none] (by omega) ⟨none,_,_,_,rfl,λk' Ey=>absurd Ey (by omega)⟩
 rw[←gz]at lp
 rcases lp with⟨ρ',l1,o,z10,z12,z13,rfl,ho⟩|⟨_,_,f⟩
 ·obtain⟨g0,LK⟩:=List.exists_mem_of_ne_nil _ kr
  obtain⟨above,rfl,_⟩:=ho 0 (by omega) g0 LK
  rw[show fC (some above)=D.int above from rfl]at l1
  have hm:=qJ above (λk hk g hg=>by
   obtain⟨z,e,hz⟩:=ho k hk g hg
   cases e
   exact hz)
  have lq:=Je (g:=gV 14) (b:=q0) (n:=rounds)
   (λk ρ=>∃(x10 Hs vU vV:Option D),ρ=[some (.lst (bD many rounds X)),some (.lst (bD many dp W)),some (.tup [fr q,.lst (ap R),.lst ((fv many L T q.2).map cX)]),some (.lst (ap L)),some (fr q),some (.lst (ap R)),some (.lst ((fv many L T q.2).map cX)),some (.int q.2),some (.int q.1),some d,x10,some (.int above),z12,z13,Hs,vU,vV]) (λ_=>False) (by
   rintro r ρ IF ⟨x10,Hs,vU,vV,rfl⟩
   have inner:=HH (g:=gV 10) (b:=qz) (λρ=>∃x10 vV,ρ=[some (.lst (bD many rounds X)),some (.lst (bD many dp W)),some (.tup [fr q,.lst (ap R),.lst ((fv many L T q.2).map cX)]),some (.lst (ap L)),some (fr q),some (.lst (ap R)),some (.lst ((fv many L T q.2).map cX)),some (.int q.2),some (.int q.1),some d,x10,some (.int above),z12,z13,some (.int (r:Int)),some (.int (q.1*(r:Int)+above)),vV]) (λ_=>False) (ap L) [some (.lst (bD many rounds X)),some (.lst (bD many dp W)),some (.tup [fr q,.lst (ap R),.lst ((fv many L T q.2).map cX)]),some (.lst (ap L)),some (fr q),some (.lst (ap R)),some (.lst ((fv many L T q.2).map cX)),some (.int q.2),some (.int q.1),some d,x10,some (.int above),z12,z13,some (.int (r:Int)),some (.int (q.1*(r:Int)+above)),vV] ⟨_,_,rfl⟩ (by
    rintro d' wY ρ ⟨x10,vV,rfl⟩
    obtain⟨g,hg,rfl⟩:=bz.mp wY
    have hx:=hm r IF g hg
    have b1:=Jr (n:=many) (m:=rounds) (i:=r) (X:=X) IF
    have b2:cP (.lst (ed many (X r))) (.int (g:Int))=some (.int (X r g)):=wB (X r) (hL g hg)
    have b3:=Ew g hg
    have m1:dk (.int (X r g)) (.int q.2)=some (.int (X r g*q.2)):=zas (by omega) (by omega)
    refine⟨[some (.lst (bD many rounds X)),some (.lst (bD many dp W)),some (.tup [fr q,.lst (ap R),.lst ((fv many L T q.2).map cX)]),some (.lst (ap L)),some (fr q),some (.lst (ap R)),some (.lst ((fv many L T q.2).map cX)),some (.int q.2),some (.int q.1),some d,some (.int (g:Int)),some (.int above),z12,z13,some (.int (r:Int)),some (.int (q.1*(r:Int)+above)),vV],rfl,.inl ⟨[some (.lst (bD many rounds X)),some (.lst (bD many dp W)),some (.tup [fr q,.lst (ap R),.lst ((fv many L T q.2).map cX)]),some (.lst (ap L)),some (fr q),some (.lst (ap R)),some (.lst ((fv many L T q.2).map cX)),some (.int q.2),some (.int q.1),some d,some (.int (g:Int)),some (.int above),z12,z13,some (.int (r:Int)),some (.int (q.1*(r:Int)+above)),some (.int (X r g*q.2))],.inl ?_,_,_,rfl⟩⟩
    generalize q.1*(r:Int)+above=mo,X r g*q.2=w1 at *
    generalize X r g=w2,ed many (X r)=vr,bD many rounds X=rs,bD many dp W=ws,T g=tg at *
    have gt:¬w1 > tg+mo:=by omega
    generalize (D.tup [fr q,.lst (ap R),.lst ((fv many L T q.2).map cX)])=PD at *
    generalize (fv many L T q.2).map cX=ol,ap L=nl,ap R=rl,fr q=F at *
    clear hx wY hg hm qJ ho Ew hd bt tl l1 hT hL kr
    unfold qz
    walk_at "mir")
   rcases inner with⟨ρ',i1,Qo,Y6,rfl⟩|⟨_,_,f⟩
   ·refine⟨[some (.lst (bD many rounds X)),some (.lst (bD many dp W)),some (.tup [fr q,.lst (ap R),.lst ((fv many L T q.2).map cX)]),some (.lst (ap L)),some (fr q),some (.lst (ap R)),some (.lst ((fv many L T q.2).map cX)),some (.int q.2),some (.int q.1),some d,x10,some (.int above),z12,z13,some (.int (r:Int)),vU,vV],rfl,.inl ⟨[some (.lst (bD many rounds X)),some (.lst (bD many dp W)),some (.tup [fr q,.lst (ap R),.lst ((fv many L T q.2).map cX)]),some (.lst (ap L)),some (fr q),some (.lst (ap R)),some (.lst ((fv many L T q.2).map cX)),some (.int q.2),some (.int q.1),some d,Qo,some (.int above),z12,z13,some (.int (r:Int)),some (.int (q.1*(r:Int)+above)),Y6],?_,_,_,_,_,rfl⟩⟩
    have m2:dk (.int q.1) (.int (r:Int))=some (.int (q.1*(r:Int))):=zbg (by omega) (by omega)
    generalize q.1*(r:Int)=w1,bD many rounds X=rs,bD many dp W=ws,(D.tup [fr q,.lst (ap R),.lst ((fv many L T q.2).map cX)])=PD at *
    generalize (fv many L T q.2).map cX=ol,ap L=nl,ap R=rl,fr q=F at *
    clear hm qJ ho Ew hd bt tl l1 hT hL kr LK
    unfold q0
    walk_at "mir"
   ·exact f.elim) rounds 0 [some (.lst (bD many rounds X)),some (.lst (bD many dp W)),some (.tup [fr q,.lst (ap R),.lst ((fv many L T q.2).map cX)]),some (.lst (ap L)),some (fr q),some (.lst (ap R)),some (.lst ((fv many L T q.2).map cX)),some (.int q.2),some (.int q.1),some d,z10,some (.int above),z12,z13,none,none,none] (by omega) ⟨_,_,_,_,rfl⟩
  rw[←gz]at lq
  rcases lq with⟨ρ',l2,x10,Hs,vU,vV,rfl⟩|⟨_,_,f⟩
  ·have rg1:gE [.int (dp:Int)]=some ((aE dp).map λ(t:Nat)=>D.int (t:Int)):=by
    rw[BD (by omega) (by omega)]
    unfold eY
    simp
   have rg2:gE [.int (rounds:Int)]=some ((aE rounds).map λ(t:Nat)=>D.int (t:Int)):=by
    rw[BD (by omega) (by omega)]
    unfold eY
    simp
   have le1:dZ [.lst (bD many dp W)]=some (.int (dp:Int)):=(qj _).trans (by rw[Nq])
   have le2:dZ [.lst (bD many rounds X)]=some (.int (rounds:Int)):=(qj _).trans (by rw[Nq])
   have fd:ez (.int q.2) (.int q.2)=some (.int 1):=by
    rw[j7 hq (by omega),Int.ediv_self (by omega)]
   have mu:dk (.int q.1) (.int 1)=some (.int q.1):=(zas (by decide) (by decide)).trans (by rw[jM])
   have p0:=Ab q
   have p1:=mY q
   show jv [.lst (bD many rounds X),.lst (bD many dp W),.tup [fr q,.lst (ap R),.lst ((fv many L T q.2).map cX)],.lst (ap L)]=_
   have asg:∀a7:Option D,sAsg (gT (gsCons (gV 4) (gsCons (gV 5) (gsCons (gV 6) gsNil)))) (eV 2) [some (.lst (bD many rounds X)),some (.lst (bD many dp W)),some (.tup [fr q,.lst (ap R),.lst ((fv many L T q.2).map cX)]),some (.lst (ap L)),none,none,none,a7,none,none,none,none,none,none,none,none,none]=some (.nx [some (.lst (bD many rounds X)),some (.lst (bD many dp W)),some (.tup [fr q,.lst (ap R),.lst ((fv many L T q.2).map cX)]),some (.lst (ap L)),some (fr q),some (.lst (ap R)),some (.lst ((fv many L T q.2).map cX)),a7,none,none,none,none,none,none,none,none,none]):=λ_=>rfl
   generalize (aE dp).map (λ(t:Nat)=>D.int (t:Int))=r1,(aE rounds).map (λ(t:Nat)=>D.int (t:Int))=r2,bD many rounds X=rs,bD many dp W=ws,(D.tup [fr q,.lst (ap R),.lst ((fv many L T q.2).map cX)])=PD at *
   generalize (fv many L T q.2).map cX=ol,ap L=nl,ap R=rl,fr q=F at *
   clear hm qJ ho Ew hd hT hL kr LK hq rH ER ES Vp LD LF hr
   unfold jv
   generalize sAsg (gT (gsCons (gV 4) (gsCons (gV 5) (gsCons (gV 6) gsNil)))) (eV 2)=AS at *
   walk_at "mir"
  ·exact f.elim
 ·exact f.elim
theorem zwl {many:Nat}{L:List Nat}{T:Nat->Int}{q:Int×Int}{x y:D}(hm:many<=1000)(hs:L=(aE many).filter λx=>decide (x∈L))(r:L3.Env)(h1:r[1]?.join=some (.int (many:Int)))(h8:r[8]?.join=some (.tup [x,y,qL (fv many L T q.2)])):SG r=some (.lst (ap L)):=by
 have e:ap L=((aE many).filter λx=>decide (x∈L)).map λ(n:Nat)=>D.int (n:Int):=congrArg ap hs
 rw[e]
 refine BR (own:=1) (cap:=[8]) (g:=gV 0) (λ(n:Nat)=>D.int (n:Int)) (λx=>decide (x∈L)) (λ(n:Nat)=>D.int (n:Int)) (aE many) (uE h1 (by omega)) (by rw[aY];omega) λg hg=>⟨_,rfl,?_,λ_=>rfl⟩
 have hg:=bv.mp hg
 have fK:dE r [8]=[some (.tup [x,y,qL (fv many L T q.2)])]:=by unfold dE;simp[h8]
 rw[fK]
 have i2:cP (.tup [x,y,qL (fv many L T q.2)]) (.int 2)=some (qL (fv many L T q.2)):=rfl
 have ix:cP (qL (fv many L T q.2)) (.int (g:Int))=some (cX (if g∈L then some (Fq.mk (T g) q.2)else none)):=ue (by
  unfold fv
  rw[aQ,aQ,el hg]
  rfl)
 clear fK h1 h8 hs e hm
 by_cases h:g∈L
 ·rw[if_pos h]at ix
  rw[decide_eq_true h]
  replace ix:cP (qL (fv many L T q.2)) (.int (g:Int))=some (.tup [.int (Fq.mk (T g) q.2).1,.int (Fq.mk (T g) q.2).2]):=ix
  generalize (D.tup [x,y,qL (fv many L T q.2)])=PD at *
  generalize qL (fv many L T q.2)=ol,(Fq.mk (T g) q.2).1=z1,(Fq.mk (T g) q.2).2=z2 at *
  clear h hg
  walk_at "mir"
 ·rw[if_neg h]at ix
  rw[decide_eq_false h]
  replace ix:cP (qL (fv many L T q.2)) (.int (g:Int))=some .non:=ix
  generalize (D.tup [x,y,qL (fv many L T q.2)])=PD at *
  generalize qL (fv many L T q.2)=ol at *
  clear h hg
  walk_at "mir"
theorem zpt (ns:List Int)(hl:ns.length<=63):Oj [.lst (ns.map .int)]=some (.bl true):=by
 obtain⟨c0,hc0⟩:=HN ns 0 (by decide)
 obtain⟨c1,Lz⟩:=HN ns 1 (by decide)
 obtain⟨c3,hc3⟩:=HN ns 3 (by decide)
 obtain⟨many,Pm,Br,Bs⟩:∃m:Nat,1+c0%6=(m:Int)/\1<=m/\m<=8:=⟨(1+c0%6).toNat,by omega,by omega,by omega⟩
 obtain⟨total,L7,V2,V3⟩:∃t:Nat,(many:Int)+c0/6%11=(t:Int)/\many<=t/\t<=18:=⟨((many:Int)+c0/6%11).toNat,by omega,by omega,by omega⟩
 obtain⟨N,hN,wU⟩:∃N:Nat,c1%151=(N:Int)/\N<=1000:=⟨(c1%151).toNat,by omega,by omega⟩
 obtain⟨gg,hgg,Pj⟩:∃g:Nat,eE (.int c3) (.int (many:Int))=some (.int (g:Int))/\g<many:=by
  have h1:=mP c3 (b:=(many:Int)) (by omega)
  have h2:=rP c3 (b:=(many:Int)) (by omega)
  refine⟨(c3%(many:Int)).toNat,?_,by omega⟩
  rw[qh (by omega)]
  congr 2
  omega
 obtain⟨mk,rk,EH,Pe,Bp⟩:=uU ns (c0/66) Br Bs (total:=total) (by omega)
 generalize has:(aE total).map mk=as
 have lQ:as.length<=18:=by rw[←has,ay,aY];omega
 have nz:∀a∈as,Drawn many rk a:=λa ha=>by
  rw[←has]at ha
  obtain⟨k,hk,rfl⟩:=bz.mp ha
  exact Pe k (bv.mp hk)
 have qH:∀g,g<many->∃a∈(as.map λa=>oY a a.s),a.g=g:=λg hg=>by
  refine⟨oY (mk g) (mk g).s,bz.mpr ⟨mk g,?_,rfl⟩,Bp g hg (by omega)⟩
  rw[←has]
  exact bz.mpr ⟨g,bv.mpr (by omega),rfl⟩
 have ok:=zu7 (rk:=rk) (λa=>(a.s:Int)) Br Bs (as:=as) (by omega) nz
 have EN:(nm many).length=many:=by unfold nm;rw[ay,aY]
 have VR:=zv9 ok EN (zso Br Bs)
 have k4:=zwk (many:=many) (total:=total) (by omega) EH [some (.lst (ns.map .int)),some (.int (many:Int)),some (.int (total:Int)),some (.int (c0/66)),none,none,none,none,none,none] rfl rfl rfl rfl
 rw[has]at k4
 have k3:=zwj Bs [some (.lst (ns.map .int)),some (.int (many:Int)),some (.int (total:Int)),some (.int (c0/66)),some (.lst (as.map d8)),none,none,none,none,none] rfl
 have k2:=zwi (as:=as) (by omega) [some (.lst (ns.map .int)),some (.int (many:Int)),some (.int (total:Int)),some (.int (c0/66)),some (.lst (as.map d8)),none,none,none,none,none] rfl
 have Pg:as.map d8=(as.map λa=>oY a a.s).map d8:=by rw[cv];rfl
 have qI:(as.map λa=>oY a a.s).length<=18:=by rw[ay];omega
 obtain⟨mb,oA,gn,_⟩:=zwg (ns:=nm many) Br (by omega) (by omega) nz
 have Lp:∀aI:List Nat,(∀n∈aI,n<(as.map λa=>oY a (a.s:Int)).length)->aI.length<=120->GN many (as.map λa=>oY a (a.s:Int)) aI rk mb:=λaI h=>gn aI (by rw[ay]at h;exact h)
 rw[Pg]at k4 k3 k2
 generalize (as.map λa=>oY a (a.s:Int))=bs at *
 have nh:dep bs<=4:=JW λa ha=>(ok.right a ha).b
 have LD:=zss bs
 have mo:=Jq (ns:=nm many) (as:=bs) (by omega)
 obtain⟨W,hw⟩:=zwh (ns:=ns) (many:=many) (dp:=dep bs) Bs nh
 obtain⟨Y,ET,hY⟩:=zwb (jC:=.lst (bD many (dep bs) W)) (rounds:=N) ok EN wU (.some (dep bs) _ (aF _)) .no
 obtain⟨V,hV,hM⟩:=hY.mx ok (λi hi g hg=>⟨_,rfl⟩) qH
 have xD:HR [bu (nm many) bs,.int (N:Int),.lst (bD many (dep bs) W),.non]=some (.lst (bD many N λr g=>V (dep bs+r) g)):=by
  rw[ET]
  unfold bD
  rw[Z4 λr hr g hg=>hV (dep bs+r) (by omega) g hg]
 have O8:∀i,i<dep bs->∀g,g<many->V i g=W (dep bs-1-i) g:=λi hi g hg=>by
  have h1:=hV i (by omega) g hg
  rw[hY.past i hi g hg]at h1
  exact(Option.some.inj h1).symm
 obtain⟨L,sV,hL⟩:=zs6 (ns:=nm many) (as:=bs) (many:=many) (g:=gg) (by omega) (by omega) (λa ha=>(ok.right a ha).s) Pj
 have g0:=Lp (aE bs.length) (λn hn=>bv.mp hn) (by rw[aY];omega)
 have gL:=Lp (gR bs L) (λn hn=>(Hv.mp hn).1) (by have:=Rp bs L;omega)
 obtain⟨d,Pq,hd⟩:=zvo (g:=gg) g0 EN oA sV
 have LL:gg∈L:=(hL.mem gg).mpr .self
 rcases hd with⟨_,IA⟩|⟨R,q,T,rfl,hR,Po,_,hk,hT⟩
 ·exfalso
  obtain⟨R,x,r1,r2,r3,r4⟩:=SV (as:=bs) (many:=many) (left:=L) hL.lt (λx hx=>by
   obtain⟨a,ha,iQ⟩:=qH x (hL.lt x hx)
   obtain⟨n,hn⟩:=bW.mp ha
   have ea:aN bs n=a:=by unfold aN;rw[hn];rfl
   refine⟨n,(aL.mp hn).1,by unfold aG;rw[ea,iQ],?_⟩
   unfold aS
   rw[ea]
   exact hL.cls ha (by rw[iQ];exact hx)) gg (many+1) [] gg (by simp) rfl (by simp) (λn hn=>by cases hn) LL
  exact IA R ⟨r1,⟨x,r2⟩,r3,λn hn=>Hv.mpr (r4 n hn)⟩
 ·obtain⟨lq,_,z2,n0,n1⟩:=JJ hR gL
  rw[←Po]at lq z2 n0 n1
  have Pp:=lq.gt
  obtain⟨_,Yb,Ha⟩:=hR.bds gL
  have hD:=gL.D
  have ie:∀n∈R,n<bs.length:=λn hn=>(Hv.mp (hR.m n hn)).1
  have hgr:=zpr (many:=many) (rounds:=N) (X:=λr g=>V (dep bs+r) g) hR ie (by have:=hR.len gL;omega) wU (λa ha=>(ok.right a ha).s) (by omega) (by omega) (λn hn i j hj e=>by
   obtain⟨R',w1,w2,w3,w4⟩:=zs9 hR hn
   have:=Tq hM R' _ _ (dep bs+i) (dep bs+j) w1 (λm hm=>ie m (w2 m hm)) (by omega) (by omega) (by rw[w4];omega)
   rw[w3]at this
   exact this)
  have wW:=zps (many:=many) (rounds:=N) (dp:=dep bs) (L:=L) (R:=R) (q:=q) (T:=T) (W:=W) (X:=λr g=>V (dep bs+r) g) Pp z2 n0 n1 hL.lt (by have:=hL.len;omega) (List.ne_nil_of_mem LL) (by omega) (by omega) wU hT (λabove rA r hr g hg=>by
   have:=zni (L:=L) (q:=q) (T:=T) (above:=above) ok hM hL.lt (λa ha h=>hL.cls ha h) hk (λi hi g hg=>by
    have h1:=rA (dep bs-1-i) (by omega) g hg
    unfold xR at h1
    rw[←O8 i hi g (hL.lt g hg)]at h1
    have e:((dep bs-1-i:Nat):Int)+1=(dep bs:Int)-(i:Int):=by omega
    rw[e]at h1
    exact h1) (dep bs+r) g (by omega) hg
   have e:((dep bs+r:Nat):Int)-(dep bs:Int)=(r:Int):=by omega
   rw[e]at this
   omega)
  have k1:=zwl (many:=many) (L:=L) (T:=T) (q:=q) (x:=fr q) (y:=.lst (ap R)) (by omega) hL.srt [some (.lst (ns.map .int)),some (.int (many:Int)),some (.int (total:Int)),some (.int (c0/66)),some (.lst (bs.map d8)),some (bu (nm many) bs),some (.lst (bD many (dep bs) W)),some (.lst (bD many N λr g=>V (dep bs+r) g)),some (.tup [fr q,.lst (ap R),qL (fv many L T q.2)]),none] rfl rfl
  have j1:cP (.tup [fr q,.lst (ap R),qL (fv many L T q.2)]) (.int 1)=some (.lst (ap R)):=rfl
  have isn:mI false (.tup [fr q,.lst (ap R),qL (fv many L T q.2)]) .non=some (.bl false):=rfl
  have fd6:∀z:Int,ez (.int z) (.int 6)=some (.int (z/6)):=λz=>j7 (by decide) (by decide)
  have U6:∀z:Int,ez (.int z) (.int 66)=some (.int (z/66)):=λz=>j7 (by decide) (by decide)
  clear hl EH Pe Bp has lQ nz qH ok EN qI nh hM Br Bs V2 V3 wU hY hV O8 hL gL g0 gn Lp hR Po hk hT lq z2 n0 n1 Pp Yb Ha hD ie LL LD Pj ET sV oA Pg
  generalize qL (fv many L T q.2)=ol,fr q=F,(bD many N λr g=>V (dep bs+r) g)=rs,bD many (dep bs) W=ws,(dep bs:Int)=dd,bu (nm many) bs=net,bs.map bH=mks,bs.map d8=ps at *
  generalize nm many=nml,ap R=rl,ap L=nl at *
  unfold Oj
  walk_at "mir"
section
variable {P:bx}{w:bY}{K:ae}{mg:aR->Option af}{base:aX}{a:B1}
theorem zvq (T:Txt K mg a):cz P w K mg base eJ 8 a.f_law a.d_law ["_law_script"] (nK K):=zul (zuz T) zpt
end
abbrev cA (x q:aR)(s:bR):=gF x q (lV s) (gH s) (aJ s)
theorem all_mk {l:lf}{w:bY}{K:ae}{h:aX}{mg:aR->Option af}(X:K.In h)(G:h.Ns aq mg)(VE:mg "law"=some (.ref fa))
  
  (aC_Arrow:ar K aq "Arrow"=some (some (.ref c_Arrow))) (pg_Arrow:dc K c_Arrow aR.empty=true) (hd_Arrow:dq K c_Arrow=true) (po_Arrow:dX K c_Arrow=true) (sa_Arrow:aB K (.ref c_Arrow) "__setattr__"=some (some (.builtin "object.__setattr__"))) (mk_Arrow:dU K c_Arrow=true) (kc_Arrow:am K (.ref c_Arrow)=true)
  (aC_Ride:ar K aq "Ride"=some (some (.ref c_Ride))) (pg_Ride:dc K c_Ride aR.empty=true) (hd_Ride:dq K c_Ride=true) (po_Ride:dX K c_Ride=true) (sa_Ride:aB K (.ref c_Ride) "__setattr__"=some (some (.builtin "object.__setattr__"))) (mk_Ride:dU K c_Ride=true) (kc_Ride:am K (.ref c_Ride)=true)
  (aC_Wait:ar K aq "Wait"=some (some (.ref c_Wait))) (pg_Wait:dc K c_Wait aR.empty=true) (hd_Wait:dq K c_Wait=true) (po_Wait:dX K c_Wait=true) (sa_Wait:aB K (.ref c_Wait) "__setattr__"=some (some (.builtin "object.__setattr__"))) (mk_Wait:dU K c_Wait=true) (kc_Wait:am K (.ref c_Wait)=true)
  (aC_Back:ar K aq "Back"=some (some (.ref c_Back))) (pg_Back:dc K c_Back aR.empty=true) (hd_Back:dq K c_Back=true) (po_Back:dX K c_Back=true) (sa_Back:aB K (.ref c_Back) "__setattr__"=some (some (.builtin "object.__setattr__"))) (mk_Back:dU K c_Back=true) (kc_Back:am K (.ref c_Back)=true)
  (aC_Net:ar K aq "Net"=some (some (.ref c_Net))) (pg_Net:dc K c_Net aR.empty=true) (hd_Net:dq K c_Net=true) (po_Net:dX K c_Net=true) (sa_Net:aB K (.ref c_Net) "__setattr__"=some (some (.builtin "object.__setattr__"))) (mk_Net:dU K c_Net=true) (kc_Net:am K (.ref c_Net)=true)
  (a0:aB K (.ref c_Arrow) "__init__"=some (some (.ref f0))) (i0:dG K (.ref f0)=true)
  (l0:K.lookup f0=some ⟨oc0,od0,.func (cA "__init__" "Arrow.__init__" yt .none Py ON P2 Ou Ke OF),sl0⟩) (c0:av K Ke "Arrow.__init__"=true) (k0:am K (.ref f0)=true)
  (a1:aB K (.ref c_Ride) "__init__"=some (some (.ref f1))) (i1:dG K (.ref f1)=true)
  (l1:K.lookup f1=some ⟨oc1,od1,.func (cA "__init__" "Ride.__init__" xc .none Pz OO P3 Ov Kf OG),sl1⟩) (c1:av K Kf "Ride.__init__"=true) (k1:am K (.ref f1)=true)
  (a2:aB K (.ref c_Wait) "__init__"=some (some (.ref f2))) (i2:dG K (.ref f2)=true)
  (l2:K.lookup f2=some ⟨oc2,od2,.func (cA "__init__" "Wait.__init__" yh (.ref By) Mg Kr Mt J9 Ib Kn),Hb⟩) (c2:av K Ib "Wait.__init__"=true) (k2:am K (.ref f2)=true)
  (t2:K.lookup By=some ⟨tc2,YZ,.seq #[.int 0 Hn] tn2,Y2⟩)
  (a3:aB K (.ref c_Back) "__init__"=some (some (.ref f3))) (i3:dG K (.ref f3)=true)
  (l3:K.lookup f3=some ⟨oc3,od3,.func (cA "__init__" "Back.__init__" yj (.ref Bz) Mh Ks Mu Ka Ie Ko),sl3⟩) (c3:av K Ie "Back.__init__"=true) (k3:am K (.ref f3)=true)
  (t3:K.lookup Bz=some ⟨tc3,Y0,.seq #[.int 1 Ho] IS,Y3⟩)
  (a4:ar K aq "is_letter"=some (some (.ref f4)))
  (l4:K.lookup f4=some ⟨oc4,od4,.func (cA "is_letter" "is_letter" xz .none PB OP P4 Ox Kg OH),sl4⟩) (c4:av K Kg "is_letter"=true) (k4:am K (.ref f4)=true)
  (a5:ar K aq "is_figure"=some (some (.ref f5)))
  (l5:K.lookup f5=some ⟨oc5,od5,.func (cA "is_figure" "is_figure" x6 .none PH OQ P5 Oy Kh OI),sl5⟩) (c5:av K Kh "is_figure"=true) (k5:am K (.ref f5)=true)
  (a6:ar K aq "is_name"=some (some (.ref f6)))
  (l6:K.lookup f6=some ⟨oc6,od6,.func (cA "is_name" "is_name" vh .none PJ OR P6 Oz Ki OJ),sl6⟩) (c6:av K Ki "is_name"=true) (k6:am K (.ref f6)=true)
  (a7:ar K aq "are_names"=some (some (.ref f7)))
  (l7:K.lookup f7=some ⟨oc7,od7,.func (cA "are_names" "are_names" x8 .none PK OS P7 OA Kj OK),sl7⟩) (c7:av K Kj "are_names"=true) (k7:am K (.ref f7)=true)
  (a8:ar K aq "lies_within"=some (some (.ref f8)))
  (l8:K.lookup f8=some ⟨oc8,od8,.func (cA "lies_within" "lies_within" xf .none PM OT P8 OB Kk OL),sl8⟩) (c8:av K Kk "lies_within"=true) (k8:am K (.ref f8)=true)
  (a9:ar K aq "is_right"=some (some (.ref f9)))
  (l9:K.lookup f9=some ⟨oc9,od9,.func (cA "is_right" "is_right" wq .none PN OU P9 OC Kl OM),sl9⟩) (c9:av K Kl "is_right"=true) (k9:am K (.ref f9)=true)
  (a10:ar K aq "placed_goings"=some (some (.ref Kx)))
  (l10:K.lookup Kx=some ⟨Wq,W5,.func (cA "placed_goings" "placed_goings" yk .none Fc DH Gh Cd yL CZ),Yd⟩) (c10:av K yL "placed_goings"=true) (k10:am K (.ref Kx)=true)
  (a11:ar K aq "ring_back_from"=some (some (.ref Ky)))
  (l11:K.lookup Ky=some ⟨Wr,W6,.func (cA "ring_back_from" "ring_back_from" yb .none Fd DI Gi Ce yM C0),Ye⟩) (c11:av K yM "ring_back_from"=true) (k11:am K (.ref Ky)=true)
  (a12:aB K (.ref c_Net) "__init__"=some (some (.ref Ii))) (i12:dG K (.ref Ii)=true)
  (l12:K.lookup Ii=some ⟨Ws,W7,.func (cA "__init__" "Net.__init__" xm .none Fe DJ Gj Cf yN C1),Yf⟩) (c12:av K yN "Net.__init__"=true) (k12:am K (.ref Ii)=true)
  (a13:aB K (.ref c_Net) "most_behind"=some (some (.ref Ij))) (i13:dG K (.ref Ij)=true)
  (l13:K.lookup Ij=some ⟨Wt,W8,.func (cA "most_behind" "Net.most_behind" zx .none Ff DK Gk Cg yO C2),Yg⟩) (c13:av K yO "Net.most_behind"=true) (k13:am K (.ref Ij)=true)
  (a14:aB K (.ref c_Net) "into"=some (some (.ref Ik))) (i14:dG K (.ref Ik)=true)
  (l14:K.lookup Ik=some ⟨Wu,W9,.func (cA "into" "Net.into" wt .none Fg DL Gm Ci yP C3),Yh⟩) (c14:av K yP "Net.into"=true) (k14:am K (.ref Ik)=true)
  (a15:aB K (.ref c_Net) "order"=some (some (.ref Il))) (i15:dG K (.ref Il)=true)
  (l15:K.lookup Il=some ⟨Wv,Xa,.func (cA "order" "Net.order" wa .none Fh DM Gn Cj yQ C4),Yi⟩) (c15:av K yQ "Net.order"=true) (k15:am K (.ref Il)=true)
  (a16:ar K aq "leads_to"=some (some (.ref Kz)))
  (l16:K.lookup Kz=some ⟨Ww,Xb,.func (cA "leads_to" "leads_to" wu .none Fi DN Gp Ck yR C5),Yj⟩) (c16:av K yR "leads_to"=true) (k16:am K (.ref Kz)=true)
  (a17:ar K aq "common_divisor"=some (some (.ref KA)))
  (l17:K.lookup KA=some ⟨Wx,Xc,.func (cA "common_divisor" "common_divisor" yc .none Fj DO Gq Cm yS C6),Yk⟩) (c17:av K yS "common_divisor"=true) (k17:am K (.ref KA)=true)
  (a18:ar K aq "ratio"=some (some (.ref KB)))
  (l18:K.lookup KB=some ⟨Wy,Xd,.func (cA "ratio" "ratio" jd .none Fk DP Gr Co yT C7),Yl⟩) (c18:av K yT "ratio"=true) (k18:am K (.ref KB)=true)
  (a19:ar K aq "scaled"=some (some (.ref KC)))
  (l19:K.lookup KC=some ⟨Wz,Xe,.func (cA "scaled" "scaled" v8 .none Fm DQ Gs Cp yU C8),Ym⟩) (c19:av K yU "scaled"=true) (k19:am K (.ref KC)=true)
  (a20:ar K aq "plus"=some (some (.ref KD)))
  (l20:K.lookup KD=some ⟨WA,Xf,.func (cA "plus" "plus" BE .none Fo DR Gu Cq yV C9),Yn⟩) (c20:av K yV "plus"=true) (k20:am K (.ref KD)=true)
  (a21:ar K aq "minus"=some (some (.ref KE)))
  (l21:K.lookup KE=some ⟨WB,Xg,.func (cA "minus" "minus" je .none Fs DS Gv Cr yW Dd),Yo⟩) (c21:av K yW "minus"=true) (k21:am K (.ref KE)=true)
  (a22:ar K aq "under"=some (some (.ref KF)))
  (l22:K.lookup KF=some ⟨WC,Xh,.func (cA "under" "under" jf .none Ft DT Gw Cs yX De),Yp⟩) (c22:av K yX "under"=true) (k22:am K (.ref KF)=true)
  (a23:ar K aq "later"=some (some (.ref KG)))
  (l23:K.lookup KG=some ⟨WD,Xi,.func (cA "later" "later" jg .none Fu DU Gx Ct yY Df),Yq⟩) (c23:av K yY "later"=true) (k23:am K (.ref KG)=true)
  (a24:ar K aq "latest"=some (some (.ref KH)))
  (l24:K.lookup KH=some ⟨WE,Xj,.func (cA "latest" "latest" v9 .none Fv DV Gy Cu yZ Dg),Yr⟩) (c24:av K yZ "latest"=true) (k24:am K (.ref KH)=true)
  (a25:ar K aq "mean"=some (some (.ref KI)))
  (l25:K.lookup KI=some ⟨WF,Xk,.func (cA "mean" "mean" BG .none Fw DW Gz Cv zA Dh),Ys⟩) (c25:av K zA "mean"=true) (k25:am K (.ref KI)=true)
  (a26:ar K aq "push_once"=some (some (.ref KJ)))
  (l26:K.lookup KJ=some ⟨WG,Xl,.func (cA "push_once" "push_once" wb .none Fx DX GA Cw zB Di),Yt⟩) (c26:av K zB "push_once"=true) (k26:am K (.ref KJ)=true)
  (a27:ar K aq "times_or_ring_along"=some (some (.ref KL)))
  (l27:K.lookup KL=some ⟨WH,Xm,.func (cA "times_or_ring_along" "times_or_ring_along" zl .none Fy DY GB Cy zC Dj),Yu⟩) (c27:av K zC "times_or_ring_along"=true) (k27:am K (.ref KL)=true)
  (a28:ar K aq "ring_above"=some (some (.ref KM)))
  (l28:K.lookup KM=some ⟨WI,Xn,.func (cA "ring_above" "ring_above" xn .none FA DZ GC Cz zD Dk),Yv⟩) (c28:av K zD "ring_above"=true) (k28:am K (.ref KM)=true)
  (a29:ar K aq "midway"=some (some (.ref KN)))
  (l29:K.lookup KN=some ⟨WJ,Xo,.func (cA "midway" "midway" ua .none FB D1 GD CA zE Dl),Yw⟩) (c29:av K zE "midway"=true) (k29:am K (.ref KN)=true)
  (a30:ar K aq "least_gap"=some (some (.ref KO)))
  (l30:K.lookup KO=some ⟨WK,Xp,.func (cA "least_gap" "least_gap" wc .none FC D2 GF CB zF Dn),Yx⟩) (c30:av K zF "least_gap"=true) (k30:am K (.ref KO)=true)
  (a31:ar K aq "greatest_ring"=some (some (.ref KP)))
  (l31:K.lookup KP=some ⟨WL,Xq,.func (cA "greatest_ring" "greatest_ring" ym .none FD D3 GG CC zG Do),Yy⟩) (c31:av K zG "greatest_ring"=true) (k31:am K (.ref KP)=true)
  (a32:ar K aq "paper_along"=some (some (.ref KQ)))
  (l32:K.lookup KQ=some ⟨WM,Xr,.func (cA "paper_along" "paper_along" xg .none FE D4 GH CD zH Dp),Yz⟩) (c32:av K zH "paper_along"=true) (k32:am K (.ref KQ)=true)
  (a33:ar K aq "rate"=some (some (.ref KR)))
  (l33:K.lookup KR=some ⟨WN,Xt,.func (cA "rate" "rate" BH .none FF D5 GJ CF zI Dr),YA⟩) (c33:av K zI "rate"=true) (k33:am K (.ref KR)=true)
  (a34:ar K aq "greatest_told"=some (some (.ref KS)))
  (l34:K.lookup KS=some ⟨WO,Xu,.func (cA "greatest_told" "greatest_told" yn .none FG D6 GK CG zJ Ds),YB⟩) (c34:av K zJ "greatest_told"=true) (k34:am K (.ref KS)=true)
  (a35:ar K aq "rows_ahead"=some (some (.ref KU)))
  (l35:K.lookup KU=some ⟨WP,Xv,.func (cA "rows_ahead" "rows_ahead" xo .none FH D7 GL CH zK Du),YC⟩) (c35:av K zK "rows_ahead"=true) (k35:am K (.ref KU)=true)
  (a36:ar K aq "time_in_last_row"=some (some (.ref KW)))
  (l36:K.lookup KW=some ⟨WQ,Xw,.func (cA "time_in_last_row" "time_in_last_row" zt .none FI D8 GM CI zL Dv),YD⟩) (c36:av K zL "time_in_last_row"=true) (k36:am K (.ref KW)=true)
  (a37:ar K aq "rows_with_past"=some (some (.ref KY)))
  (l37:K.lookup KY=some ⟨WR,Xx,.func (cA "rows_with_past" "rows_with_past" ye .none FJ D9 GO CJ zM Dw),YE⟩) (c37:av K zM "rows_with_past"=true) (k37:am K (.ref KY)=true)
  (a38:ar K aq "run"=some (some (.ref KZ)))
  (l38:K.lookup KZ=some ⟨WS,Xy,.func (cA "run" "run" xS (.ref o7) vC uT vH uQ sM uS),YF⟩) (c38:av K sM "run"=true) (k38:am K (.ref KZ)=true)
  (t38:K.lookup o7=some ⟨YY,Qj,.seq #[.none,.none] Y1,Ql⟩)
  (a39:ar K aq "_law_cell_at"=some (some (.ref K0)))
  (l39:K.lookup K0=some ⟨WT,Xz,.func (cA "_law_cell_at" "_law_cell_at" xh .none FK Ea GP CK zN Dx),YG⟩) (c39:av K zN "_law_cell_at"=true) (k39:am K (.ref K0)=true)
  (a40:ar K aq "_law_is_row"=some (some (.ref K1)))
  (l40:K.lookup K1=some ⟨WU,XB,.func (cA "_law_is_row" "_law_is_row" xp .none FL Ec GQ CL zO Dy),YH⟩) (c40:av K zO "_law_is_row"=true) (k40:am K (.ref K1)=true)
  (a41:ar K aq "_law_mixed"=some (some (.ref K2)))
  (l41:K.lookup K2=some ⟨WV,XC,.func (cA "_law_mixed" "_law_mixed" we .none FM Ed GR CM zP Dz),YI⟩) (c41:av K zP "_law_mixed"=true) (k41:am K (.ref K2)=true)
  (a42:ar K aq "_law_rank"=some (some (.ref K3)))
  (l42:K.lookup K3=some ⟨WW,XD,.func (cA "_law_rank" "_law_rank" wv .none FN Ee GS CN zQ DA),YJ⟩) (c42:av K zQ "_law_rank"=true) (k42:am K (.ref K3)=true)
  (a43:ar K aq "_law_arrow"=some (some (.ref K4)))
  (l43:K.lookup K4=some ⟨WX,XF,.func (cA "_law_arrow" "_law_arrow" wf .none FO Ef GU CO zR DB),YK⟩) (c43:av K zR "_law_arrow"=true) (k43:am K (.ref K4)=true)
  (a44:ar K aq "_law_made"=some (some (.ref K5)))
  (l44:K.lookup K5=some ⟨WY,XH,.func (cA "_law_made" "_law_made" ww .none FP Eg GV CP zS DC),YL⟩) (c44:av K zS "_law_made"=true) (k44:am K (.ref K5)=true)
  (a45:ar K aq "_law_was"=some (some (.ref K6)))
  (l45:K.lookup K6=some ⟨WZ,XJ,.func (cA "_law_was" "_law_was" vi .none FQ Eh GW CQ zT DD),YM⟩) (c45:av K zT "_law_was"=true) (k45:am K (.ref K6)=true)
  (a46:ar K aq "_law_whole_bottom"=some (some (.ref K7)))
  (l46:K.lookup K7=some ⟨W1,XN,.func (cA "_law_whole_bottom" "_law_whole_bottom" zu .none FR Ej GX CS zU DE),YN⟩) (c46:av K zU "_law_whole_bottom"=true) (k46:am K (.ref K7)=true)
  (a47:ar K aq "_law_below"=some (some (.ref K8)))
  (l47:K.lookup K8=some ⟨W2,XQ,.func (cA "_law_below" "_law_below" wg .none FT Ek GY CT zV DF),YO⟩) (c47:av K zV "_law_below"=true) (k47:am K (.ref K8)=true)
  (a48:ar K aq "_law_grows"=some (some (.ref K9)))
  (l48:K.lookup K9=some ⟨W3,XR,.func (cA "_law_grows" "_law_grows" wj .none FU El GZ CU zW DG),YQ⟩) (c48:av K zW "_law_grows"=true) (k48:am K (.ref K9)=true)
  (a49:ar K aq "law"=some (some (.ref OW)))
  (l49:K.lookup OW=some ⟨W4,XU,.func (cA "law" "law" A2 .none AE zY AL yI uR zX),YR⟩) (c49:av K uR "law"=true) (k49:am K (.ref OW)=true)
  (qs_Arrow:dY K (.ref c_Arrow) "__getattribute__"=some (some (.builtin "type.__getattribute__"))) (qr_Arrow:iJ K c_Arrow (.type "type")=true) (qf_Arrow:iI K (.ref c_Arrow) (.type "type") "__init__"=some (.val (.ref f0)))
  (n_Net_arrows:aB K (.ref c_Net) "arrows"=some none)
  (n_Arrow_behind:aB K (.ref c_Arrow) "behind"=some none)
  (n_Ride_behind:aB K (.ref c_Ride) "behind"=some none)
  (n_Wait_behind:aB K (.ref c_Wait) "behind"=some none)
  (n_Back_behind:aB K (.ref c_Back) "behind"=some none)
  (n_Arrow_goal:aB K (.ref c_Arrow) "goal"=some none)
  (n_Ride_goal:aB K (.ref c_Ride) "goal"=some none)
  (n_Wait_goal:aB K (.ref c_Wait) "goal"=some none)
  (n_Back_goal:aB K (.ref c_Back) "goal"=some none)
  (n_Net_names:aB K (.ref c_Net) "names"=some none)
  (n_Arrow_start:aB K (.ref c_Arrow) "start"=some none)
  (n_Ride_start:aB K (.ref c_Ride) "start"=some none)
  (n_Wait_start:aB K (.ref c_Wait) "start"=some none)
  (n_Back_start:aB K (.ref c_Back) "start"=some none)
  (n_Arrow_time:aB K (.ref c_Arrow) "time"=some none)
  (n_Ride_time:aB K (.ref c_Ride) "time"=some none)
  (n_Wait_time:aB K (.ref c_Wait) "time"=some none)
  (n_Back_time:aB K (.ref c_Back) "time"=some none)
  (ign:dY K (.builtin "object.__class__") "__get__"=some (some (.builtin "getset_descriptor.__get__"))) (igt:li K (.builtin "object.__class__")=some true)
  (iga_Arrow:aB K (.ref c_Arrow) "__class__"=some (some (.builtin "object.__class__"))) (igm_Arrow:fk K c_Arrow (.type "object")=some true)
  (kit_Arrow_Back:bP K (.ref c_Arrow) (.ref c_Back)=some false)
  (kit_Arrow_Ride:bP K (.ref c_Arrow) (.ref c_Ride)=some false)
  (iga_Ride:aB K (.ref c_Ride) "__class__"=some (some (.builtin "object.__class__"))) (igm_Ride:fk K c_Ride (.type "object")=some true)
  (kit_Ride_Back:bP K (.ref c_Ride) (.ref c_Back)=some false)
  (kit_Ride_Ride:bP K (.ref c_Ride) (.ref c_Ride)=some true)
  (iga_Wait:aB K (.ref c_Wait) "__class__"=some (some (.builtin "object.__class__"))) (igm_Wait:fk K c_Wait (.type "object")=some true)
  (kit_Wait_Back:bP K (.ref c_Wait) (.ref c_Back)=some false)
  (kit_Wait_Ride:bP K (.ref c_Wait) (.ref c_Ride)=some false)
  (iga_Back:aB K (.ref c_Back) "__class__"=some (some (.builtin "object.__class__"))) (igm_Back:fk K c_Back (.type "object")=some true)
  (kit_Back_Back:bP K (.ref c_Back) (.ref c_Back)=some true)
  (kit_Back_Ride:bP K (.ref c_Back) (.ref c_Ride)=some false)
  (iga_Net:aB K (.ref c_Net) "__class__"=some (some (.builtin "object.__class__"))) (igm_Net:fk K c_Net (.type "object")=some true)
  (kit_Net_Back:bP K (.ref c_Net) (.ref c_Back)=some false)
  (kit_Net_Ride:bP K (.ref c_Net) (.ref c_Ride)=some false)
  (z0:ar K aq "abs"=some none)
  (z1:ar K aq "all"=some none)
  (z2:ar K aq "bool"=some none)
  (z3:ar K aq "enumerate"=some none)
  (z4:ar K aq "int"=some none)
  (z5:ar K aq "isinstance"=some none)
  (z6:ar K aq "len"=some none)
  (z7:ar K aq "list"=some none)
  (z8:ar K aq "max"=some none)
  (z9:ar K aq "range"=some none)
  (z10:ar K aq "reversed"=some none)
  (z11:ar K aq "sorted"=some none)
  (z12:ar K aq "str"=some none)
  (z13:ar K aq "sum"=some none)
  (gc0:ar K aq "MOST_ARROWS"=some (some (.int 120 gt0)))
  (gc1:ar K aq "MOST_BEHIND"=some (some (.int 4 gt1)))
  (gc2:ar K aq "MOST_NAMES"=some (some (.int 40 gt2)))
  (gc3:ar K aq "MOST_SIGNS"=some (some (.int 8 gt3)))
  (gc4:ar K aq "MOST_TIME"=some (some (.int 1000000000 gt4))) :
  ∃fd:aH,(∀(s:ak) (v:af),oH s fd ⟨[v],[]⟩ [("_law_script",v)])/\∀base:aX,K.In base->base.Ns aq mg->cz l.prog w K mg base eJ 8 fa fd ["_law_script"] (nK K):=by
 have e:=VE.symm.trans (az X G a49)
 cases e
 have F0:=zo (st:=yt) l0 c0 k0
 have b0:bC K (cA "__init__" "Arrow.__init__" yt .none Py ON P2 Ou Ke OF) ["self","start","goal","time","behind"] []:=.all (PQ λ_ _ _ _ _=>rfl)
 have F1:=zo (st:=xc) l1 c1 k1
 have b1:bC K (cA "__init__" "Ride.__init__" xc .none Pz OO P3 Ov Kf OG) ["self","start","goal","time"] []:=.all (Bv λ_ _ _ _=>rfl)
 have F2:=zo (st:=yh) l2 c2 k2
 have b2:bC K (cA "__init__" "Wait.__init__" yh (.ref By) Mg Kr Mt J9 Ib Kn) ["self","start","goal","time","behind"] []:=A1 (T:=By) rfl t2 rfl λus hl=>by
  have hl:us.length=5:=by simpa using hl
  exact match us,hl with|[_,_,_,_,_],_=>⟨_,rfl,rfl⟩
 have Kb:bC K (cA "__init__" "Wait.__init__" yh (.ref By) Mg Kr Mt J9 Ib Kn) ["self","start","goal","time","behind"] [.int 0 Hn]:=A1 (T:=By) rfl t2 rfl λus hl=>by
  have hl:us.length=4:=by simpa using hl
  exact match us,hl with|[_,_,_,_],_=>⟨_,rfl,rfl⟩
 have F3:=zo (st:=yj) l3 c3 k3
 have b3:bC K (cA "__init__" "Back.__init__" yj (.ref Bz) Mh Ks Mu Ka Ie Ko) ["self","start","goal","time","behind"] []:=A1 (T:=Bz) rfl t3 rfl λus hl=>by
  have hl:us.length=5:=by simpa using hl
  exact match us,hl with|[_,_,_,_,_],_=>⟨_,rfl,rfl⟩
 have Kc:bC K (cA "__init__" "Back.__init__" yj (.ref Bz) Mh Ks Mu Ka Ie Ko) ["self","start","goal","time","behind"] [.int 1 Ho]:=A1 (T:=Bz) rfl t3 rfl λus hl=>by
  have hl:us.length=4:=by simpa using hl
  exact match us,hl with|[_,_,_,_],_=>⟨_,rfl,rfl⟩
 have F4:=zo (st:=xz) l4 c4 k4
 have b4:bC K (cA "is_letter" "is_letter" xz .none PB OP P4 Ox Kg OH) ["sign"] []:=.all (tq λ_=>rfl)
 have F5:=zo (st:=x6) l5 c5 k5
 have b5:bC K (cA "is_figure" "is_figure" x6 .none PH OQ P5 Oy Kh OI) ["sign"] []:=.all (tq λ_=>rfl)
 have F6:=zo (st:=vh) l6 c6 k6
 have b6:bC K (cA "is_name" "is_name" vh .none PJ OR P6 Oz Ki OJ) ["word"] []:=.all (tq λ_=>rfl)
 have F7:=zo (st:=x8) l7 c7 k7
 have b7:bC K (cA "are_names" "are_names" x8 .none PK OS P7 OA Kj OK) ["names"] []:=.all (tq λ_=>rfl)
 have F8:=zo (st:=xf) l8 c8 k8
 have b8:bC K (cA "lies_within" "lies_within" xf .none PM OT P8 OB Kk OL) ["number","least","most"] []:=.all (vE λ_ _ _=>rfl)
 have F9:=zo (st:=wq) l9 c9 k9
 have b9:bC K (cA "is_right" "is_right" wq .none PN OU P9 OC Kl OM) ["arrow","many"] []:=.all (mJ λ_ _=>rfl)
 have Tw:=zo (st:=yk) l10 c10 k10
 have Ur:bC K (cA "placed_goings" "placed_goings" yk .none Fc DH Gh Cd yL CZ) ["many","arrows"] []:=.all (mJ λ_ _=>rfl)
 have Tx:=zo (st:=yb) l11 c11 k11
 have Us:bC K (cA "ring_back_from" "ring_back_from" yb .none Fd DI Gi Ce yM C0) ["arrows","chosen","going"] []:=.all (vE λ_ _ _=>rfl)
 have Tz:=zo (st:=xm) l12 c12 k12
 have Ut:bC K (cA "__init__" "Net.__init__" xm .none Fe DJ Gj Cf yN C1) ["self","names","arrows"] []:=.all (vE λ_ _ _=>rfl)
 have TB:=zo (st:=zx) l13 c13 k13
 have Uu:bC K (cA "most_behind" "Net.most_behind" zx .none Ff DK Gk Cg yO C2) ["self"] []:=.all (tq λ_=>rfl)
 have TC:=zo (st:=wt) l14 c14 k14
 have Uv:bC K (cA "into" "Net.into" wt .none Fg DL Gm Ci yP C3) ["self","going"] []:=.all (mJ λ_ _=>rfl)
 have TD:=zo (st:=wa) l15 c15 k15
 have Uw:bC K (cA "order" "Net.order" wa .none Fh DM Gn Cj yQ C4) ["self"] []:=.all (tq λ_=>rfl)
 have TF:=zo (st:=wu) l16 c16 k16
 have Ux:bC K (cA "leads_to" "leads_to" wu .none Fi DN Gp Ck yR C5) ["net","going"] []:=.all (mJ λ_ _=>rfl)
 have TH:=zo (st:=yc) l17 c17 k17
 have Uy:bC K (cA "common_divisor" "common_divisor" yc .none Fj DO Gq Cm yS C6) ["one","other"] []:=.all (mJ λ_ _=>rfl)
 have TJ:=zo (st:=jd) l18 c18 k18
 have Uz:bC K (cA "ratio" "ratio" jd .none Fk DP Gr Co yT C7) ["top","bottom"] []:=.all (mJ λ_ _=>rfl)
 have TK:=zo (st:=v8) l19 c19 k19
 have UA:bC K (cA "scaled" "scaled" v8 .none Fm DQ Gs Cp yU C8) ["one","whole"] []:=.all (mJ λ_ _=>rfl)
 have TL:=zo (st:=BE) l20 c20 k20
 have UB:bC K (cA "plus" "plus" BE .none Fo DR Gu Cq yV C9) ["one","other"] []:=.all (mJ λ_ _=>rfl)
 have TN:=zo (st:=je) l21 c21 k21
 have UC:bC K (cA "minus" "minus" je .none Fs DS Gv Cr yW Dd) ["one","other"] []:=.all (mJ λ_ _=>rfl)
 have TQ:=zo (st:=jf) l22 c22 k22
 have UD:bC K (cA "under" "under" jf .none Ft DT Gw Cs yX De) ["one","other"] []:=.all (mJ λ_ _=>rfl)
 have TR:=zo (st:=jg) l23 c23 k23
 have UE:bC K (cA "later" "later" jg .none Fu DU Gx Ct yY Df) ["when","more"] []:=.all (mJ λ_ _=>rfl)
 have TU:=zo (st:=v9) l24 c24 k24
 have UF:bC K (cA "latest" "latest" v9 .none Fv DV Gy Cu yZ Dg) ["one","other"] []:=.all (mJ λ_ _=>rfl)
 have TV:=zo (st:=BG) l25 c25 k25
 have UG:bC K (cA "mean" "mean" BG .none Fw DW Gz Cv zA Dh) ["net","ring"] []:=.all (mJ λ_ _=>rfl)
 have TX:=zo (st:=wb) l26 c26 k26
 have UH:bC K (cA "push_once" "push_once" wb .none Fx DX GA Cw zB Di) ["net","pace","numbers","times","chosen"] []:=.all (PQ λ_ _ _ _ _=>rfl)
 have TY:=zo (st:=zl) l27 c27 k27
 have UI:bC K (cA "times_or_ring_along" "times_or_ring_along" zl .none Fy DY GB Cy zC Dj) ["net","pace","numbers"] []:=.all (vE λ_ _ _=>rfl)
 have TZ:=zo (st:=xn) l28 c28 k28
 have UJ:bC K (cA "ring_above" "ring_above" xn .none FA DZ GC Cz zD Dk) ["net","pace","numbers"] []:=.all (vE λ_ _ _=>rfl)
 have T1:=zo (st:=ua) l29 c29 k29
 have UK:bC K (cA "midway" "midway" ua .none FB D1 GD CA zE Dl) ["one","other"] []:=.all (mJ λ_ _=>rfl)
 have T3:=zo (st:=wc) l30 c30 k30
 have UL:bC K (cA "least_gap" "least_gap" wc .none FC D2 GF CB zF Dn) ["net"] []:=.all (tq λ_=>rfl)
 have T4:=zo (st:=ym) l31 c31 k31
 have UM:bC K (cA "greatest_ring" "greatest_ring" ym .none FD D3 GG CC zG Do) ["net","numbers"] []:=.all (mJ λ_ _=>rfl)
 have T5:=zo (st:=xg) l32 c32 k32
 have UN:bC K (cA "paper_along" "paper_along" xg .none FE D4 GH CD zH Dp) ["net","numbers"] []:=.all (mJ λ_ _=>rfl)
 have T6:=zo (st:=BH) l33 c33 k33
 have UO:bC K (cA "rate" "rate" BH .none FF D5 GJ CF zI Dr) ["net","going"] []:=.all (mJ λ_ _=>rfl)
 have T7:=zo (st:=yn) l34 c34 k34
 have UP:bC K (cA "greatest_told" "greatest_told" yn .none FG D6 GK CG zJ Ds) ["told"] []:=.all (tq λ_=>rfl)
 have T8:=zo (st:=xo) l35 c35 k35
 have UQ:bC K (cA "rows_ahead" "rows_ahead" xo .none FH D7 GL CH zK Du) ["net","was"] []:=.all (mJ λ_ _=>rfl)
 have T9:=zo (st:=zt) l36 c36 k36
 have UR:bC K (cA "time_in_last_row" "time_in_last_row" zt .none FI D8 GM CI zL Dv) ["net","rows","numbers","floor"] []:=.all (Bv λ_ _ _ _=>rfl)
 have Ua:=zo (st:=ye) l37 c37 k37
 have US:bC K (cA "rows_with_past" "rows_with_past" ye .none FJ D9 GO CJ zM Dw) ["net","rounds","was","floors"] []:=.all (Bv λ_ _ _ _=>rfl)
 have Ub:=zo (st:=xS) l38 c38 k38
 have UT:bC K (cA "run" "run" xS (.ref o7) vC uT vH uQ sM uS) ["net","rounds","was","floors"] []:=A1 (T:=o7) rfl t38 rfl λus hl=>by
  have hl:us.length=4:=by simpa using hl
  exact match us,hl with|[_,_,_,_],_=>⟨_,rfl,rfl⟩
 have CV:bC K (cA "run" "run" xS (.ref o7) vC uT vH uQ sM uS) ["net","rounds","was","floors"] [.none]:=A1 (T:=o7) rfl t38 rfl λus hl=>by
  have hl:us.length=3:=by simpa using hl
  exact match us,hl with|[_,_,_],_=>⟨_,rfl,rfl⟩
 have CW:bC K (cA "run" "run" xS (.ref o7) vC uT vH uQ sM uS) ["net","rounds","was","floors"] [.none,.none]:=A1 (T:=o7) rfl t38 rfl λus hl=>by
  have hl:us.length=2:=by simpa using hl
  exact match us,hl with|[_,_],_=>⟨_,rfl,rfl⟩
 have Uc:=zo (st:=xh) l39 c39 k39
 have UU:bC K (cA "_law_cell_at" "_law_cell_at" xh .none FK Ea GP CK zN Dx) ["_law_script","_law_k"] []:=.all (mJ λ_ _=>rfl)
 have Ud:=zo (st:=xp) l40 c40 k40
 have UV:bC K (cA "_law_is_row" "_law_is_row" xp .none FL Ec GQ CL zO Dy) ["_law_cell"] []:=.all (tq λ_=>rfl)
 have Ue:=zo (st:=we) l41 c41 k41
 have UW:bC K (cA "_law_mixed" "_law_mixed" we .none FM Ed GR CM zP Dz) ["_law_cell","_law_k"] []:=.all (mJ λ_ _=>rfl)
 have Ug:=zo (st:=wv) l42 c42 k42
 have UX:bC K (cA "_law_rank" "_law_rank" wv .none FN Ee GS CN zQ DA) ["_law_turn","_law_many","_law_going"] []:=.all (vE λ_ _ _=>rfl)
 have Uh:=zo (st:=wf) l43 c43 k43
 have UY:bC K (cA "_law_arrow" "_law_arrow" wf .none FO Ef GU CO zR DB) ["_law_cell","_law_many","_law_turn","_law_k"] []:=.all (Bv λ_ _ _ _=>rfl)
 have Ui:=zo (st:=ww) l44 c44 k44
 have UZ:bC K (cA "_law_made" "_law_made" ww .none FP Eg GV CP zS DC) ["_law_arrow_here","_law_kind"] []:=.all (mJ λ_ _=>rfl)
 have Uj:=zo (st:=vi) l45 c45 k45
 have U0:bC K (cA "_law_was" "_law_was" vi .none FQ Eh GW CQ zT DD) ["_law_script","_law_many","_law_back"] []:=.all (vE λ_ _ _=>rfl)
 have Uk:=zo (st:=zu) l46 c46 k46
 have U1:bC K (cA "_law_whole_bottom" "_law_whole_bottom" zu .none FR Ej GX CS zU DE) ["_law_times","_law_beat"] []:=.all (mJ λ_ _=>rfl)
 have Ul:=zo (st:=wg) l47 c47 k47
 have U2:bC K (cA "_law_below" "_law_below" wg .none FT Ek GY CT zV DF) ["_law_rows","_law_was_here","_law_paper","_law_goings"] []:=.all (Bv λ_ _ _ _=>rfl)
 have Um:=zo (st:=wj) l48 c48 k48
 have U3:bC K (cA "_law_grows" "_law_grows" wj .none FU El GZ CU zW DG) ["_law_rows","_law_arrows","_law_ring"] []:=.all (vE λ_ _ _=>rfl)
 have Uo:=zo (st:=A2) l49 c49 k49
 have U4:bC K (cA "law" "law" A2 .none AE zY AL yI uR zX) ["_law_script"] []:=.all (tq λ_=>rfl)
 have T:Txt K mg ⟨c_Arrow,c_Ride,c_Wait,c_Back,c_Net,f0,cA "__init__" "Arrow.__init__" yt .none Py ON P2 Ou Ke OF,f1,cA "__init__" "Ride.__init__" xc .none Pz OO P3 Ov Kf OG,f2,cA "__init__" "Wait.__init__" yh (.ref By) Mg Kr Mt J9 Ib Kn,f3,cA "__init__" "Back.__init__" yj (.ref Bz) Mh Ks Mu Ka Ie Ko,f4,cA "is_letter" "is_letter" xz .none PB OP P4 Ox Kg OH,f5,cA "is_figure" "is_figure" x6 .none PH OQ P5 Oy Kh OI,f6,cA "is_name" "is_name" vh .none PJ OR P6 Oz Ki OJ,f7,cA "are_names" "are_names" x8 .none PK OS P7 OA Kj OK,f8,cA "lies_within" "lies_within" xf .none PM OT P8 OB Kk OL,f9,cA "is_right" "is_right" wq .none PN OU P9 OC Kl OM,Kx,cA "placed_goings" "placed_goings" yk .none Fc DH Gh Cd yL CZ,Ky,cA "ring_back_from" "ring_back_from" yb .none Fd DI Gi Ce yM C0,Ii,cA "__init__" "Net.__init__" xm .none Fe DJ Gj Cf yN C1,Ij,cA "most_behind" "Net.most_behind" zx .none Ff DK Gk Cg yO C2,Ik,cA "into" "Net.into" wt .none Fg DL Gm Ci yP C3,Il,cA "order" "Net.order" wa .none Fh DM Gn Cj yQ C4,Kz,cA "leads_to" "leads_to" wu .none Fi DN Gp Ck yR C5,KA,cA "common_divisor" "common_divisor" yc .none Fj DO Gq Cm yS C6,KB,cA "ratio" "ratio" jd .none Fk DP Gr Co yT C7,KC,cA "scaled" "scaled" v8 .none Fm DQ Gs Cp yU C8,KD,cA "plus" "plus" BE .none Fo DR Gu Cq yV C9,KE,cA "minus" "minus" je .none Fs DS Gv Cr yW Dd,KF,cA "under" "under" jf .none Ft DT Gw Cs yX De,KG,cA "later" "later" jg .none Fu DU Gx Ct yY Df,KH,cA "latest" "latest" v9 .none Fv DV Gy Cu yZ Dg,KI,cA "mean" "mean" BG .none Fw DW Gz Cv zA Dh,KJ,cA "push_once" "push_once" wb .none Fx DX GA Cw zB Di,KL,cA "times_or_ring_along" "times_or_ring_along" zl .none Fy DY GB Cy zC Dj,KM,cA "ring_above" "ring_above" xn .none FA DZ GC Cz zD Dk,KN,cA "midway" "midway" ua .none FB D1 GD CA zE Dl,KO,cA "least_gap" "least_gap" wc .none FC D2 GF CB zF Dn,KP,cA "greatest_ring" "greatest_ring" ym .none FD D3 GG CC zG Do,KQ,cA "paper_along" "paper_along" xg .none FE D4 GH CD zH Dp,KR,cA "rate" "rate" BH .none FF D5 GJ CF zI Dr,KS,cA "greatest_told" "greatest_told" yn .none FG D6 GK CG zJ Ds,KU,cA "rows_ahead" "rows_ahead" xo .none FH D7 GL CH zK Du,KW,cA "time_in_last_row" "time_in_last_row" zt .none FI D8 GM CI zL Dv,KY,cA "rows_with_past" "rows_with_past" ye .none FJ D9 GO CJ zM Dw,KZ,cA "run" "run" xS (.ref o7) vC uT vH uQ sM uS,K0,cA "_law_cell_at" "_law_cell_at" xh .none FK Ea GP CK zN Dx,K1,cA "_law_is_row" "_law_is_row" xp .none FL Ec GQ CL zO Dy,K2,cA "_law_mixed" "_law_mixed" we .none FM Ed GR CM zP Dz,K3,cA "_law_rank" "_law_rank" wv .none FN Ee GS CN zQ DA,K4,cA "_law_arrow" "_law_arrow" wf .none FO Ef GU CO zR DB,K5,cA "_law_made" "_law_made" ww .none FP Eg GV CP zS DC,K6,cA "_law_was" "_law_was" vi .none FQ Eh GW CQ zT DD,K7,cA "_law_whole_bottom" "_law_whole_bottom" zu .none FR Ej GX CS zU DE,K8,cA "_law_below" "_law_below" wg .none FT Ek GY CT zV DF,K9,cA "_law_grows" "_law_grows" wj .none FU El GZ CU zW DG,fa,cA "law" "law" A2 .none AE zY AL yI uR zX⟩:=by
  constructor
  ·exact⟨⟨pg_Arrow,hd_Arrow,po_Arrow,sa_Arrow⟩,az X G aC_Arrow,mk_Arrow,kc_Arrow⟩
  ·exact⟨⟨pg_Ride,hd_Ride,po_Ride,sa_Ride⟩,az X G aC_Ride,mk_Ride,kc_Ride⟩
  ·exact⟨⟨pg_Wait,hd_Wait,po_Wait,sa_Wait⟩,az X G aC_Wait,mk_Wait,kc_Wait⟩
  ·exact⟨⟨pg_Back,hd_Back,po_Back,sa_Back⟩,az X G aC_Back,mk_Back,kc_Back⟩
  ·exact⟨⟨pg_Net,hd_Net,po_Net,sa_Net⟩,az X G aC_Net,mk_Net,kc_Net⟩
  ·exact⟨F0,⟨a0,i0,k0⟩,b0⟩
  ·exact⟨F1,⟨a1,i1,k1⟩,b1⟩
  ·exact⟨F2,⟨a2,i2,k2⟩,b2⟩
  ·exact⟨_,trivial,(.cons ⟨_,rfl⟩ .nil),Kb⟩
  ·exact⟨F3,⟨a3,i3,k3⟩,b3⟩
  ·exact⟨_,trivial,(.cons ⟨_,rfl⟩ .nil),Kc⟩
  ·exact⟨F4,az X G a4,b4⟩
  ·exact⟨F5,az X G a5,b5⟩
  ·exact⟨F6,az X G a6,b6⟩
  ·exact⟨F7,az X G a7,b7⟩
  ·exact⟨F8,az X G a8,b8⟩
  ·exact⟨F9,az X G a9,b9⟩
  ·exact⟨Tw,az X G a10,Ur⟩
  ·exact⟨Tx,az X G a11,Us⟩
  ·exact⟨Tz,⟨a12,i12,k12⟩,Ut⟩
  ·exact⟨TB,⟨a13,i13,k13⟩,Uu⟩
  ·exact⟨TC,⟨a14,i14,k14⟩,Uv⟩
  ·exact⟨TD,⟨a15,i15,k15⟩,Uw⟩
  ·exact⟨TF,az X G a16,Ux⟩
  ·exact⟨TH,az X G a17,Uy⟩
  ·exact⟨TJ,az X G a18,Uz⟩
  ·exact⟨TK,az X G a19,UA⟩
  ·exact⟨TL,az X G a20,UB⟩
  ·exact⟨TN,az X G a21,UC⟩
  ·exact⟨TQ,az X G a22,UD⟩
  ·exact⟨TR,az X G a23,UE⟩
  ·exact⟨TU,az X G a24,UF⟩
  ·exact⟨TV,az X G a25,UG⟩
  ·exact⟨TX,az X G a26,UH⟩
  ·exact⟨TY,az X G a27,UI⟩
  ·exact⟨TZ,az X G a28,UJ⟩
  ·exact⟨T1,az X G a29,UK⟩
  ·exact⟨T3,az X G a30,UL⟩
  ·exact⟨T4,az X G a31,UM⟩
  ·exact⟨T5,az X G a32,UN⟩
  ·exact⟨T6,az X G a33,UO⟩
  ·exact⟨T7,az X G a34,UP⟩
  ·exact⟨T8,az X G a35,UQ⟩
  ·exact⟨T9,az X G a36,UR⟩
  ·exact⟨Ua,az X G a37,US⟩
  ·exact⟨Ub,az X G a38,UT⟩
  ·exact⟨_,trivial,(.cons rfl .nil),CV⟩
  ·exact⟨_,trivial,(.cons rfl (.cons rfl .nil)),CW⟩
  ·exact⟨Uc,az X G a39,UU⟩
  ·exact⟨Ud,az X G a40,UV⟩
  ·exact⟨Ue,az X G a41,UW⟩
  ·exact⟨Ug,az X G a42,UX⟩
  ·exact⟨Uh,az X G a43,UY⟩
  ·exact⟨Ui,az X G a44,UZ⟩
  ·exact⟨Uj,az X G a45,U0⟩
  ·exact⟨Uk,az X G a46,U1⟩
  ·exact⟨Ul,az X G a47,U2⟩
  ·exact⟨Um,az X G a48,U3⟩
  ·exact⟨Uo,az X G a49,U4⟩
  ·exact⟨qs_Arrow,qr_Arrow,qf_Arrow⟩
  ·exactλc hc=>by
    simp only[aC,dg,or_false]at hc
    rcases hc with rfl
    all_goals first|exact⟨⟨pg_Net,hd_Net,po_Net,sa_Net⟩,n_Net_arrows⟩
  ·exactλc hc=>by
    simp only[aC,dg,or_false]at hc
    rcases hc with rfl|rfl|rfl|rfl
    all_goals first|exact⟨⟨pg_Arrow,hd_Arrow,po_Arrow,sa_Arrow⟩,n_Arrow_behind⟩|exact⟨⟨pg_Ride,hd_Ride,po_Ride,sa_Ride⟩,n_Ride_behind⟩|exact⟨⟨pg_Wait,hd_Wait,po_Wait,sa_Wait⟩,n_Wait_behind⟩|exact⟨⟨pg_Back,hd_Back,po_Back,sa_Back⟩,n_Back_behind⟩
  ·exactλc hc=>by
    simp only[aC,dg,or_false]at hc
    rcases hc with rfl|rfl|rfl|rfl
    all_goals first|exact⟨⟨pg_Arrow,hd_Arrow,po_Arrow,sa_Arrow⟩,n_Arrow_goal⟩|exact⟨⟨pg_Ride,hd_Ride,po_Ride,sa_Ride⟩,n_Ride_goal⟩|exact⟨⟨pg_Wait,hd_Wait,po_Wait,sa_Wait⟩,n_Wait_goal⟩|exact⟨⟨pg_Back,hd_Back,po_Back,sa_Back⟩,n_Back_goal⟩
  ·exactλc hc=>by
    simp only[aC,dg,or_false]at hc
    rcases hc with rfl
    all_goals first|exact⟨⟨pg_Net,hd_Net,po_Net,sa_Net⟩,n_Net_names⟩
  ·exactλc hc=>by
    simp only[aC,dg,or_false]at hc
    rcases hc with rfl|rfl|rfl|rfl
    all_goals first|exact⟨⟨pg_Arrow,hd_Arrow,po_Arrow,sa_Arrow⟩,n_Arrow_start⟩|exact⟨⟨pg_Ride,hd_Ride,po_Ride,sa_Ride⟩,n_Ride_start⟩|exact⟨⟨pg_Wait,hd_Wait,po_Wait,sa_Wait⟩,n_Wait_start⟩|exact⟨⟨pg_Back,hd_Back,po_Back,sa_Back⟩,n_Back_start⟩
  ·exactλc hc=>by
    simp only[aC,dg,or_false]at hc
    rcases hc with rfl|rfl|rfl|rfl
    all_goals first|exact⟨⟨pg_Arrow,hd_Arrow,po_Arrow,sa_Arrow⟩,n_Arrow_time⟩|exact⟨⟨pg_Ride,hd_Ride,po_Ride,sa_Ride⟩,n_Ride_time⟩|exact⟨⟨pg_Wait,hd_Wait,po_Wait,sa_Wait⟩,n_Wait_time⟩|exact⟨⟨pg_Back,hd_Back,po_Back,sa_Back⟩,n_Back_time⟩
  ·exactλc hc=>by
    simp only[aC,dg,or_false]at hc
    rcases hc with rfl|rfl|rfl|rfl|rfl
    all_goals first|exact⟨⟨⟨pg_Arrow,hd_Arrow,po_Arrow,sa_Arrow⟩,iga_Arrow,ign,igt,igm_Arrow⟩,kit_Arrow_Back⟩|exact⟨⟨⟨pg_Ride,hd_Ride,po_Ride,sa_Ride⟩,iga_Ride,ign,igt,igm_Ride⟩,kit_Ride_Back⟩|exact⟨⟨⟨pg_Wait,hd_Wait,po_Wait,sa_Wait⟩,iga_Wait,ign,igt,igm_Wait⟩,kit_Wait_Back⟩|exact⟨⟨⟨pg_Back,hd_Back,po_Back,sa_Back⟩,iga_Back,ign,igt,igm_Back⟩,kit_Back_Back⟩|exact⟨⟨⟨pg_Net,hd_Net,po_Net,sa_Net⟩,iga_Net,ign,igt,igm_Net⟩,kit_Net_Back⟩
  ·exactλc hc=>by
    simp only[aC,dg,or_false]at hc
    rcases hc with rfl|rfl|rfl|rfl|rfl
    all_goals first|exact⟨⟨⟨pg_Arrow,hd_Arrow,po_Arrow,sa_Arrow⟩,iga_Arrow,ign,igt,igm_Arrow⟩,kit_Arrow_Ride⟩|exact⟨⟨⟨pg_Ride,hd_Ride,po_Ride,sa_Ride⟩,iga_Ride,ign,igt,igm_Ride⟩,kit_Ride_Ride⟩|exact⟨⟨⟨pg_Wait,hd_Wait,po_Wait,sa_Wait⟩,iga_Wait,ign,igt,igm_Wait⟩,kit_Wait_Ride⟩|exact⟨⟨⟨pg_Back,hd_Back,po_Back,sa_Back⟩,iga_Back,ign,igt,igm_Back⟩,kit_Back_Ride⟩|exact⟨⟨⟨pg_Net,hd_Net,po_Net,sa_Net⟩,iga_Net,ign,igt,igm_Net⟩,kit_Net_Ride⟩
  ·exact bJ X G z0
  ·exact bJ X G z1
  ·exact bJ X G z2
  ·exact bJ X G z3
  ·exact bJ X G z4
  ·exact bJ X G z5
  ·exact bJ X G z6
  ·exact bJ X G z7
  ·exact bJ X G z8
  ·exact bJ X G z9
  ·exact bJ X G z10
  ·exact bJ X G z11
  ·exact bJ X G z12
  ·exact bJ X G z13
  ·exact⟨_,az X G gc0⟩
  ·exact⟨_,az X G gc1⟩
  ·exact⟨_,az X G gc2⟩
  ·exact⟨_,az X G gc3⟩
  ·exact⟨_,az X G gc4⟩
 exact⟨cA "law" "law" A2 .none AE zY AL yI uR zX,λs v=>.of_eq rfl,λbase _ _=>zvq T⟩
theorem walk {l:lf}{q:bx}{loose:List aR}{XP:(aR->Option af)->aX->Prop}{YP:bY->aX->Prop}{d:DefRec}{K:Params->ae}(hn:l.most=some 63)(Eu:d.params.defaults=[])
  (hY:∀(w:bY) (h:aX),YP w h->(K w.params).In h)
  (F:∀(w:bY) (mg:aR->Option af) (fa:ai) (h:aX),(K w.params).In h->h.Ns aq mg->mg d.name=some (.ref fa) ->
   ∃fd:aH,(∀(s:ak) (u:af),oH s fd ⟨[u],[]⟩ [("_law_script",u)])/\∀base:aX,(K w.params).In base->base.Ns aq mg->cz l.prog w (K w.params) mg base eJ 8 fa fd ["_law_script"] (nK (K w.params))) :
  sC q loose XP YP l.row.toRowW d [] (λf vs=>PySem.call f vs) :=
 L2.walk_of (n:=63) (k:=8) (x:="_law_script") (CX:=λ_=>eJ) (sp:=λw=>nK (K w.params)) hn (by decide) Eu ⟨rfl,by decide,by decide⟩ hY F (λ_ _ a ns hl _ hS=>⟨a,ns,rfl,hS,hl,λ_=>rfl⟩) λ_ _ _ _ _ z=>z
end My
-- KEEP
namespace PySem.W.Fast
def tw15041715183969353031:=0
def tw184520112241476710:=0
def tw16465167695474485323:=0
def tw17979490206504961342:=0
def tw955122812896783854:=0
def tw8842139066419602849:=0
def tw609015225549142202:=0
def tw972003387646826639:=0
def tw5170808280036929014:=0
def tw12955474083582502453:=0
def tw6428468340688243858:=0
def tw6350548276691881150:=0
def tw8330968492370987876:=0
def tw5141959773148399325:=0
def tw6595570137220834403:=0
def tw8179643509841525012:=0
def tw6162897974137728480:=0
def tw14765530685160678022:=0
def tw5235833780700306832:=0
def tw14715404662682563334:=0
def tw11312452475508200330:=0
def tw9876940079468361706:=0
def tw7147307331190160321:=0
def tw7682245036913968142:=0
def tw15387560955933554989:=0
def tw8994562901158162902:=0
def tw2759752717232226067:=0
def tw7419004467581208630:=0
def tw8016477951416371494:=0
def tw6965470745529846703:=0
def tw17080483779526581467:=0
def tw321268811165386883:=0
def tw12761093926478867848:=0
def tw16536619751470692669:=0
def tw8507471064935353861:=0
def tw2809516004244178683:=0
def tw6411216255012191026:=0
def tw796335345252143704:=0
def tw3975694954369541096:=0
def tw15294520170823491448:=0
def tw8698038730138428443:=0
def tw13936929734510863895:=0
def tw1360700571841255856:=0
def tw16419549508404420580:=0
def tw6872159526208994295:=0
def tw5538103825075470318:=0
def tw17951570666207014709:=0
def tw413415728596379577:=0
def tw15125059496207546710:=0
def tw11583954283466786338:=0
def tw14592275802571816729:=0
def tw2079660692235703195:=0
def tw13472408412791147628:=0
def tw17740209532620127744:=0
def tw8555415653584162522:=0
def tw13884655052710454111:=0
def tw10791933984599274835:=0
def tw9813183974237892030:=0
def tw12936345070726709765:=0
def tw16782451374619693234:=0
def tw1401142827976327612:=0
def tw14391965534912809465:=0
def tw11222114424306307530:=0
def tw15297690846929646611:=0
def tw13228897671550171253:=0
def tw15306301787812274286:=0
def tw3854871163750872722:=0
def tw13459746196644485941:=0
def tw13524447423074097784:=0
def tw17740119279719202532:=0
def tw7208530538601987677:=0
def tw4789625971375623048:=0
def tw236094750514211267:=0
def tw7107652100883685022:=0
def tw3801700026167846628:=0
def tw14106946337625361218:=0
def tw11747248930094885635:=0
def tw6026038854990454923:=0
def tw11943764113987027001:=0
def tw13731163571812929628:=0
def tw10180098586669499193:=0
def tw129194826892313577:=0
def tw13829849001100986722:=0
def tw16658896107317799402:=0
def tw5853859193327613564:=0
def tw4261121103367794108:=0
def tw15943880331686997264:=0
def tw9479991465516583325:=0
def tw1025961957878877739:=0
def tw11627296668482589028:=0
def tw10545349992627472097:=0
def tw14885572984028215228:=0
def tw8404710007997161346:=0
def tw12721479989449077179:=0
def tw7449129999164717126:=0
def tw8114575495029401298:=0
def tw10663568745964141376:=0
def tw12364936138317658166:=0
def tw12662547882641215131:=0
def tw7515747581190965772:=0
def tw7691851023745716401:=0
def tw17337923861175367666:=0
def tw7747132790565605587:=0
def tw16269576032591183880:=0
def tw10839250726652611487:=0
def tw15080083612774073646:=0
def tw5712932676552901799:=0
def tw14420937975307167212:=0
def tw5027785616719414840:=0
def tw11110070561126351123:=0
def tw4025717646870541307:=0
def tw14291788604810720819:=0
def tw15184025624673697753:=0
def tw7703398182336250100:=0
def tw6635166886526568593:=0
def tw9947716830251986120:=0
def tw1198214522195613934:=0
def tw16152658348878022807:=0
def tw5699096634190358508:=0
def tw3284896959315639843:=0
def tw8120497805319168314:=0
def tw880467866520501147:=0
def tw1334406886736932848:=0
def tw16071319694228361177:=0
def tw12242709731808856045:=0
def tw813216087210640005:=0
def tw11655531973868687099:=0
def tw4266011036234018435:=0
def tw4338379468279435236:=0
def tw3943408700432339558:=0
def tw16879718486003574557:=0
def tw7963113400569536123:=0
def tw9826844277952958389:=0
def tw5592054119628458779:=0
def tw130636312180894615:=0
def tw6742689218763664446:=0
def tw2216830893259550078:=0
def tw4922168598494174926:=0
def tw12880610521648762643:=0
def tw5861141200798274260:=0
def tw17077842424613524230:=0
def tw16023994761718392774:=0
def tw9734089800199880104:=0
def tw11128451876834556892:=0
def tw5340307224224229204:=0
def tw7471984357985274055:=0
def tw2874629047245500653:=0
def tw11580936688581810418:=0
def tw11431647950198672889:=0
def tw14958807961068541510:=0
def tw230330593609692722:=0
def tw16595050273158834146:=0
def tw109187802496323945:=0
def tw3226485617842098890:=0
def tw13320489031629818682:=0
def tw5535002409618851383:=0
def tw5756973334465864877:=0
def tw8867463534320767715:=0
def tw15365531288115775075:=0
def tw10990724848978195783:=0
def tw12206521297122092198:=0
def tw13756343085640125381:=0
def tw2395117420364491361:=0
def tw17558012036442683080:=0
def tw2007148307620111997:=0
def tw7450399398204800810:=0
def tw6624793791379147579:=0
def tw3086560912966945960:=0
def tw16094573557251129745:=0
def tw10649220712793889432:=0
def tw4411191923055439737:=0
def tw61386681692792132:=0
def tw2827852307386756205:=0
def tw110306090423778395:=0
def tw2587328776706739969:=0
def tw13280802652930998946:=0
def tw776150902898906181:=0
def tw18207901946817723579:=0
def tw15451150208660033958:=0
def tw17724963273366332579:=0
def tw11978768055634354371:=0
def tw16187576144826967895:=0
def tw5858627386016578:=0
def tw13024839120184177317:=0
def tw6559677299015882798:=0
def tw620421333907344076:=0
def tw14789415424463683371:=0
def tw7177775439295748683:=0
def tw4485510552984009388:=0
def tw15433463890301992786:=0
def tw11584531770636570456:=0
def tw7442385656737260262:=0
def tw3509610903163546404:=0
def tw16290865189092763029:=0
def tw16031963175018387897:=0
def tw4295221346963586967:=0
def tw1155009264770203986:=0
def tw17640596282464177159:=0
def tw12175790797200806107:=0
def tw2396872058995002140:=0
def tw8867238167563161387:=0
def tw9649928025352728337:=0
def tw16098471310013924141:=0
def tw6862953117842272151:=0
def tw1963203604275109928:=0
def tw10244714203929109153:=0
def tw12840264418030107198:=0
def tw7892122630249698133:=0
def tw4999937596936789842:=0
def tw1812545124239183981:=0
def tw4460112292653320530:=0
def tw483571221663854059:=0
def tw4688538005134824051:=0
def tw13209110771653420502:=0
def tw9310457845009748707:=0
def tw18011648867743351248:=0
def tw10985010199467328310:=0
def tw16559097854603043121:=0
def tw9372917229251945392:=0
def tw4554864334008170225:=0
def tw8779289783189520130:=0
def tw3473131373771859485:=0
def tw7104165654830052202:=0
def tw1907786147454513732:=0
def tw11976566436668704906:=0
def tw4415629994074537711:=0
def tw4985898830811850139:=0
def tw13120196145237963142:=0
def tw7766387729912094966:=0
def tw5624341751485946705:=0
def tw17671179240879692940:=0
def tw2933515751309661930:=0
def tw3435138119266282172:=0
def tw2571823755830883091:=0
def tw1005047182859186219:=0
def tw2208922319540773670:=0
def tw6298646319521991741:=0
def tw5606439879979658291:=0
def tw6503801436435911710:=0
def tw17668756429604172346:=0
def tw6194528850897162375:=0
def tw11502266557872945075:=0
def tw11556713287418127091:=0
def tw10633742027792972127:=0
def tw11346554372816971943:=0
def tw4272825246945367874:=0
def tw8401926002840603266:=0
def tw16964103006805532371:=0
def tw7387514710331312877:=0
def tw8598802943377733412:=0
def tw14457160518197445580:=0
def tw35187138790044873:=0
def tw13350476474105220937:=0
def tw8230239553205955659:=0
def tw5312729894349550891:=0
def tw12219741948013782659:=0
def tw1099905362942449047:=0
def tw1817438149488858678:=0
def tw4055539074090767328:=0
def tw16140687073388145294:=0
def tw17476064192742844400:=0
def tw327843383705394860:=0
def tw7282429997487670534:=0
def tw18142485072403511226:=0
def tw3212688072679378402:=0
def tw8848008139894910027:=0
def tw1314182212445748866:=0
def tw10983719723446530646:=0
def tw3213203983210033834:=0
def tw554509847636625818:=0
def tw8049112638255719724:=0
def tw13188206251569786094:=0
def tw12626458328003625627:=0
def tw12521723203909621141:=0
def tw6754576256084925199:=0
def tw2722166281855564372:=0
def tw6985551546831237065:=0
def tw8265143105146657082:=0
def tw6236475127355220788:=0
def tw13627812045026860827:=0
def tw5323971105460321474:=0
def tw12261776642599420378:=0
def tw2114152113839999315:=0
def tw8005525029573596550:=0
def tw11953918883205821732:=0
def tw15067077796117027963:=0
def tw15190581247538285497:=0
def tw3422376221800762043:=0
def tw1543312528166131590:=0
def tw10307467422918244117:=0
def tw11647459864882016186:=0
def tw237194705659924044:=0
def tw11947567961119213309:=0
def tw10992010135329290912:=0
def tw10563469239818797007:=0
def tw14283617289296123509:=0
def tw14435839132941255778:=0
def tw13723366348603586279:=0
def tw9743488327676087365:=0
def tw4399208448777173586:=0
def tw16443731912722801056:=0
def tw4101384962993488835:=0
def tw17921235290875604726:=0
def tw12997306805333398544:=0
def tw1772703831842894798:=0
def tw1936679119438397717:=0
def tw680389438078144625:=0
def tw344691275573676664:=0
def tw11039996619509861778:=0
def tw15592540351216065036:=0
def tw10780642102933427195:=0
def tw760749571854192363:=0
def tw1141163464511266699:=0
def tw13129045883086495956:=0
def tw2498872879907689869:=0
def tw17427025977451106991:=0
def tw8523286170603627924:=0
def tw7344456770373733151:=0
def tw4398848632545750402:=0
def tw71261705603607761:=0
def tw1372571624748374574:=0
def tw9145099240227900882:=0
def tw4422616773553027156:=0
end PySem.W.Fast
open PySem PySem.W PyProof.Rows
set_option maxRecDepth 100000 in
set_option maxHeartbeats 0 in
theorem PySem.Challenge.cw_ringbeat_k46_whole_growth_holds : PySem.Challenge.rw_ringbeat_k46_whole_growth.Holds := by
  w_on; o_law; k_head; (case hw => w_witness2)
  k_fill
  refine My.walk (l := PySem.Challenge.rw_ringbeat_k46_whole_growth) rfl rfl (fun w h Y => PySem.W.kIn_of Y) ?F
  case F =>
    intro w mg fa h KX G hmg
    refine' My.all_mk KX G hmg ?aC_Arrow ?pg_Arrow ?hd_Arrow ?po_Arrow ?sa_Arrow ?mk_Arrow ?kc_Arrow ?aC_Ride ?pg_Ride ?hd_Ride ?po_Ride ?sa_Ride ?mk_Ride ?kc_Ride ?aC_Wait ?pg_Wait ?hd_Wait ?po_Wait ?sa_Wait ?mk_Wait ?kc_Wait ?aC_Back ?pg_Back ?hd_Back ?po_Back ?sa_Back ?mk_Back ?kc_Back ?aC_Net ?pg_Net ?hd_Net ?po_Net ?sa_Net ?mk_Net ?kc_Net ?a0 ?i0 ?l0 ?c0 ?k0 ?a1 ?i1 ?l1 ?c1 ?k1 ?a2 ?i2 ?l2 ?c2 ?k2 ?t2 ?a3 ?i3 ?l3 ?c3 ?k3 ?t3 ?a4 ?l4 ?c4 ?k4 ?a5 ?l5 ?c5 ?k5 ?a6 ?l6 ?c6 ?k6 ?a7 ?l7 ?c7 ?k7 ?a8 ?l8 ?c8 ?k8 ?a9 ?l9 ?c9 ?k9 ?a10 ?l10 ?c10 ?k10 ?a11 ?l11 ?c11 ?k11 ?a12 ?i12 ?l12 ?c12 ?k12 ?a13 ?i13 ?l13 ?c13 ?k13 ?a14 ?i14 ?l14 ?c14 ?k14 ?a15 ?i15 ?l15 ?c15 ?k15 ?a16 ?l16 ?c16 ?k16 ?a17 ?l17 ?c17 ?k17 ?a18 ?l18 ?c18 ?k18 ?a19 ?l19 ?c19 ?k19 ?a20 ?l20 ?c20 ?k20 ?a21 ?l21 ?c21 ?k21 ?a22 ?l22 ?c22 ?k22 ?a23 ?l23 ?c23 ?k23 ?a24 ?l24 ?c24 ?k24 ?a25 ?l25 ?c25 ?k25 ?a26 ?l26 ?c26 ?k26 ?a27 ?l27 ?c27 ?k27 ?a28 ?l28 ?c28 ?k28 ?a29 ?l29 ?c29 ?k29 ?a30 ?l30 ?c30 ?k30 ?a31 ?l31 ?c31 ?k31 ?a32 ?l32 ?c32 ?k32 ?a33 ?l33 ?c33 ?k33 ?a34 ?l34 ?c34 ?k34 ?a35 ?l35 ?c35 ?k35 ?a36 ?l36 ?c36 ?k36 ?a37 ?l37 ?c37 ?k37 ?a38 ?l38 ?c38 ?k38 ?t38 ?a39 ?l39 ?c39 ?k39 ?a40 ?l40 ?c40 ?k40 ?a41 ?l41 ?c41 ?k41 ?a42 ?l42 ?c42 ?k42 ?a43 ?l43 ?c43 ?k43 ?a44 ?l44 ?c44 ?k44 ?a45 ?l45 ?c45 ?k45 ?a46 ?l46 ?c46 ?k46 ?a47 ?l47 ?c47 ?k47 ?a48 ?l48 ?c48 ?k48 ?a49 ?l49 ?c49 ?k49 ?qs_Arrow ?qr_Arrow ?qf_Arrow ?n_Net_arrows ?n_Arrow_behind ?n_Ride_behind ?n_Wait_behind ?n_Back_behind ?n_Arrow_goal ?n_Ride_goal ?n_Wait_goal ?n_Back_goal ?n_Net_names ?n_Arrow_start ?n_Ride_start ?n_Wait_start ?n_Back_start ?n_Arrow_time ?n_Ride_time ?n_Wait_time ?n_Back_time ?ign ?igt ?iga_Arrow ?igm_Arrow ?kit_Arrow_Back ?kit_Arrow_Ride ?iga_Ride ?igm_Ride ?kit_Ride_Back ?kit_Ride_Ride ?iga_Wait ?igm_Wait ?kit_Wait_Back ?kit_Wait_Ride ?iga_Back ?igm_Back ?kit_Back_Back ?kit_Back_Ride ?iga_Net ?igm_Net ?kit_Net_Back ?kit_Net_Ride ?z0 ?z1 ?z2 ?z3 ?z4 ?z5 ?z6 ?z7 ?z8 ?z9 ?z10 ?z11 ?z12 ?z13 ?gc0 ?gc1 ?gc2 ?gc3 ?gc4
    (case aC_Arrow => k_is)
    (case pg_Arrow => k_is)
    (case hd_Arrow => k_is)
    (case po_Arrow => k_is)
    (case sa_Arrow => k_is)
    (case mk_Arrow => k_is)
    (case kc_Arrow => k_is)
    (case aC_Ride => k_is)
    (case pg_Ride => k_is)
    (case hd_Ride => k_is)
    (case po_Ride => k_is)
    (case sa_Ride => k_is)
    (case mk_Ride => k_is)
    (case kc_Ride => k_is)
    (case aC_Wait => k_is)
    (case pg_Wait => k_is)
    (case hd_Wait => k_is)
    (case po_Wait => k_is)
    (case sa_Wait => k_is)
    (case mk_Wait => k_is)
    (case kc_Wait => k_is)
    (case aC_Back => k_is)
    (case pg_Back => k_is)
    (case hd_Back => k_is)
    (case po_Back => k_is)
    (case sa_Back => k_is)
    (case mk_Back => k_is)
    (case kc_Back => k_is)
    (case aC_Net => k_is)
    (case pg_Net => k_is)
    (case hd_Net => k_is)
    (case po_Net => k_is)
    (case sa_Net => k_is)
    (case mk_Net => k_is)
    (case kc_Net => k_is)
    (case a0 => k_is)
    (case i0 => k_is)
    (case l0 => k_is)
    (case c0 => k_is)
    (case k0 => k_is)
    (case a1 => k_is)
    (case i1 => k_is)
    (case l1 => k_is)
    (case c1 => k_is)
    (case k1 => k_is)
    (case a2 => k_is)
    (case i2 => k_is)
    (case l2 => k_is)
    (case c2 => k_is)
    (case k2 => k_is)
    (case t2 => k_is)
    (case a3 => k_is)
    (case i3 => k_is)
    (case l3 => k_is)
    (case c3 => k_is)
    (case k3 => k_is)
    (case t3 => k_is)
    (case a4 => k_is)
    (case l4 => k_is)
    (case c4 => k_is)
    (case k4 => k_is)
    (case a5 => k_is)
    (case l5 => k_is)
    (case c5 => k_is)
    (case k5 => k_is)
    (case a6 => k_is)
    (case l6 => k_is)
    (case c6 => k_is)
    (case k6 => k_is)
    (case a7 => k_is)
    (case l7 => k_is)
    (case c7 => k_is)
    (case k7 => k_is)
    (case a8 => k_is)
    (case l8 => k_is)
    (case c8 => k_is)
    (case k8 => k_is)
    (case a9 => k_is)
    (case l9 => k_is)
    (case c9 => k_is)
    (case k9 => k_is)
    (case a10 => k_is)
    (case l10 => k_is)
    (case c10 => k_is)
    (case k10 => k_is)
    (case a11 => k_is)
    (case l11 => k_is)
    (case c11 => k_is)
    (case k11 => k_is)
    (case a12 => k_is)
    (case i12 => k_is)
    (case l12 => k_is)
    (case c12 => k_is)
    (case k12 => k_is)
    (case a13 => k_is)
    (case i13 => k_is)
    (case l13 => k_is)
    (case c13 => k_is)
    (case k13 => k_is)
    (case a14 => k_is)
    (case i14 => k_is)
    (case l14 => k_is)
    (case c14 => k_is)
    (case k14 => k_is)
    (case a15 => k_is)
    (case i15 => k_is)
    (case l15 => k_is)
    (case c15 => k_is)
    (case k15 => k_is)
    (case a16 => k_is)
    (case l16 => k_is)
    (case c16 => k_is)
    (case k16 => k_is)
    (case a17 => k_is)
    (case l17 => k_is)
    (case c17 => k_is)
    (case k17 => k_is)
    (case a18 => k_is)
    (case l18 => k_is)
    (case c18 => k_is)
    (case k18 => k_is)
    (case a19 => k_is)
    (case l19 => k_is)
    (case c19 => k_is)
    (case k19 => k_is)
    (case a20 => k_is)
    (case l20 => k_is)
    (case c20 => k_is)
    (case k20 => k_is)
    (case a21 => k_is)
    (case l21 => k_is)
    (case c21 => k_is)
    (case k21 => k_is)
    (case a22 => k_is)
    (case l22 => k_is)
    (case c22 => k_is)
    (case k22 => k_is)
    (case a23 => k_is)
    (case l23 => k_is)
    (case c23 => k_is)
    (case k23 => k_is)
    (case a24 => k_is)
    (case l24 => k_is)
    (case c24 => k_is)
    (case k24 => k_is)
    (case a25 => k_is)
    (case l25 => k_is)
    (case c25 => k_is)
    (case k25 => k_is)
    (case a26 => k_is)
    (case l26 => k_is)
    (case c26 => k_is)
    (case k26 => k_is)
    (case a27 => k_is)
    (case l27 => k_is)
    (case c27 => k_is)
    (case k27 => k_is)
    (case a28 => k_is)
    (case l28 => k_is)
    (case c28 => k_is)
    (case k28 => k_is)
    (case a29 => k_is)
    (case l29 => k_is)
    (case c29 => k_is)
    (case k29 => k_is)
    (case a30 => k_is)
    (case l30 => k_is)
    (case c30 => k_is)
    (case k30 => k_is)
    (case a31 => k_is)
    (case l31 => k_is)
    (case c31 => k_is)
    (case k31 => k_is)
    (case a32 => k_is)
    (case l32 => k_is)
    (case c32 => k_is)
    (case k32 => k_is)
    (case a33 => k_is)
    (case l33 => k_is)
    (case c33 => k_is)
    (case k33 => k_is)
    (case a34 => k_is)
    (case l34 => k_is)
    (case c34 => k_is)
    (case k34 => k_is)
    (case a35 => k_is)
    (case l35 => k_is)
    (case c35 => k_is)
    (case k35 => k_is)
    (case a36 => k_is)
    (case l36 => k_is)
    (case c36 => k_is)
    (case k36 => k_is)
    (case a37 => k_is)
    (case l37 => k_is)
    (case c37 => k_is)
    (case k37 => k_is)
    (case a38 => k_is)
    (case l38 => k_is)
    (case c38 => k_is)
    (case k38 => k_is)
    (case t38 => k_is)
    (case a39 => k_is)
    (case l39 => k_is)
    (case c39 => k_is)
    (case k39 => k_is)
    (case a40 => k_is)
    (case l40 => k_is)
    (case c40 => k_is)
    (case k40 => k_is)
    (case a41 => k_is)
    (case l41 => k_is)
    (case c41 => k_is)
    (case k41 => k_is)
    (case a42 => k_is)
    (case l42 => k_is)
    (case c42 => k_is)
    (case k42 => k_is)
    (case a43 => k_is)
    (case l43 => k_is)
    (case c43 => k_is)
    (case k43 => k_is)
    (case a44 => k_is)
    (case l44 => k_is)
    (case c44 => k_is)
    (case k44 => k_is)
    (case a45 => k_is)
    (case l45 => k_is)
    (case c45 => k_is)
    (case k45 => k_is)
    (case a46 => k_is)
    (case l46 => k_is)
    (case c46 => k_is)
    (case k46 => k_is)
    (case a47 => k_is)
    (case l47 => k_is)
    (case c47 => k_is)
    (case k47 => k_is)
    (case a48 => k_is)
    (case l48 => k_is)
    (case c48 => k_is)
    (case k48 => k_is)
    (case a49 => k_is)
    (case l49 => k_is)
    (case c49 => k_is)
    (case k49 => k_is)
    (case qs_Arrow => k_is)
    (case qr_Arrow => k_is)
    (case qf_Arrow => k_is)
    (case n_Net_arrows => k_is)
    (case n_Arrow_behind => k_is)
    (case n_Ride_behind => k_is)
    (case n_Wait_behind => k_is)
    (case n_Back_behind => k_is)
    (case n_Arrow_goal => k_is)
    (case n_Ride_goal => k_is)
    (case n_Wait_goal => k_is)
    (case n_Back_goal => k_is)
    (case n_Net_names => k_is)
    (case n_Arrow_start => k_is)
    (case n_Ride_start => k_is)
    (case n_Wait_start => k_is)
    (case n_Back_start => k_is)
    (case n_Arrow_time => k_is)
    (case n_Ride_time => k_is)
    (case n_Wait_time => k_is)
    (case n_Back_time => k_is)
    (case ign => k_is)
    (case igt => k_is)
    (case iga_Arrow => k_is)
    (case igm_Arrow => k_is)
    (case kit_Arrow_Back => kit_is)
    (case kit_Arrow_Ride => kit_is)
    (case iga_Ride => k_is)
    (case igm_Ride => k_is)
    (case kit_Ride_Back => kit_is)
    (case kit_Ride_Ride => kit_is)
    (case iga_Wait => k_is)
    (case igm_Wait => k_is)
    (case kit_Wait_Back => kit_is)
    (case kit_Wait_Ride => kit_is)
    (case iga_Back => k_is)
    (case igm_Back => k_is)
    (case kit_Back_Back => kit_is)
    (case kit_Back_Ride => kit_is)
    (case iga_Net => k_is)
    (case igm_Net => k_is)
    (case kit_Net_Back => kit_is)
    (case kit_Net_Ride => kit_is)
    (case z0 => k_is)
    (case z1 => k_is)
    (case z2 => k_is)
    (case z3 => k_is)
    (case z4 => k_is)
    (case z5 => k_is)
    (case z6 => k_is)
    (case z7 => k_is)
    (case z8 => k_is)
    (case z9 => k_is)
    (case z10 => k_is)
    (case z11 => k_is)
    (case z12 => k_is)
    (case z13 => k_is)
    (case gc0 => k_is)
    (case gc1 => k_is)
    (case gc2 => k_is)
    (case gc3 => k_is)
    (case gc4 => k_is)
