import PyProof.Rows.All
import Wide.All
import OpenK.AllK
import Wide.FinOn
import Lean
import PyProof.EqAt
import PyProof.EqKinds
import PyProof.TupleCall
import PySem.Challenge.RW_ringbeat_k44_whole_lengths_are_rates
set_option Elab.async false
set_option linter.all false
set_option compiler.extract_closed false
set_option genSizeOf false
set_option maxRecDepth 100000
open Array renaming length_toList→dM
open Bool renaming false_ne_true→aW,and_eq_true→bS,false_eq_true→dr,or_eq_false_iff→qA,or_false→xS
open Int renaming mul_le_mul_of_nonneg_right→bg,mul_le_mul_of_nonneg_left→bQ,le_of_lt→cV,le_refl→cZ,mul_pos→dD,mul_le_mul→dZ,gcd→eZ,le_of_mul_le_mul_right→fC,mul_comm→fG,add_mul→fW,toNat_natCast→gq,eq_of_mul_eq_mul_right→iz,fdiv_eq_ediv_of_nonneg→iA,mul_nonneg→iB,one_mul→iM,mul_assoc→iR,mul_nonneg_of_nonpos_of_nonpos→kX,gcd_dvd_right→lR,mul_add→mO,mul_one→mP,nonneg_of_mul_nonneg_left→mQ,fmod_eq_emod_of_nonneg→nS,le_of_mul_le_mul_left→oy,pos_of_mul_pos_right→oS,fdiv_eq_ediv_of_dvd→pf,fmod_nonneg_of_pos→pP,le_trans→pQ,mul_ediv_cancel'→rq,toNat_of_nonneg→rR,fmod_lt_of_pos→sK,gcd_dvd_left→uW,emod_nonneg→vN,natAbs_mul→xT
open List renaming mem_cons_self→aa,mem_cons_of_mem→ai,range→ao,mem_append_right→ay,mem_singleton→az,mem_cons→aA,length_map→aB,replicate→aC,mem_filter→aJ,mem_range→aK,length_cons→aO,size_toArray→aQ,map_cons→aR,getElem?_eq_some_iff→aT,length_append→aX,mem_append→bc,length_range→bi,mem_append_left→bm,getElem?_map→bp,nodup_append→bq,lookup_cons→bw,nodup_cons→bC,getElem?_eq_getElem→bD,mem_map→bE,Nodup→bM,nodup_nil→bP,mem_iff_getElem?→bT,sum_cons→bU,getElem?_append_left→ck,append_nil→cu,map_map→cA,all_eq_true→cH,not_mem_nil→cI,replicate_succ→cP,length_singleton→cT,getElem?_set_ne→cX,mem_iff_getElem→cY,find?_cons→di,map_append→dk,length_replicate→dq,all_cons→dB,length_reverse→dO,flatten_cons→ej,any_cons→eu,getElem?_range→eD,map_congr_left→eE,length_zip→eS,length_filter_le→eW,append_assoc→eX,getElem?_append_right→fv,ext_getElem→fD,Pairwise→fJ,foldl_cons→fM,getElem_range→fQ,pairwise_cons→fR,zip_cons_cons→fT,getElem?_replicate→fV,take_of_length_le→gd,countP_cons→gI,nodup_range→gJ,eq_nil_of_length_eq_zero→gQ,length→gR,lookup→gS,take_append_of_le_length→gU,mem_zipIdx_iff_getElem?→gZ,of_mem_zip→hE,countP_append→iw,range'→iJ,getElem_map→iV,length_drop→iW,length_take→iX,getElem?_set_self→jC,map_const'→jH,sum_append→jI,range_eq_range'→jY,mem_of_mem_take→jZ,filterMap_cons→kl,findIdx?_cons→kF,length_zipIdx→kG,map_singleton→kI,ext_getElem?→li,foldl_append→lz,map_nil→lA,reverse_cons→lB,any_eq_true→mn,getElem_inj→mq,getElem_set→mr,map_reverse→mw,mem_flatMap→my,forIn_cons→mR,perm_ext_iff_of_nodup→nD,drop_eq_getElem_cons→nU,idxOf_lt_length_iff→oz,map_drop→oA,append_cancel_left→oT,filter_cons_of_neg→oU,filter_cons_of_pos→oV,length_eq_zero_iff→oW,drop_eq_nil_of_le→pj,drop_of_length_le→pq,countP_singleton→pR,getElem?_eq_none→pS,getElem?_reverse→pT,pairwise_reverse→pU,getElem_toArray→qB,mem_of_mem_drop→qC,perm_cons_erase→qD,length_pos_iff→rz,contains_cons→rS,find?_eq_none→rT,foldl→rV,getElem_idxOf→rW,mem_filterMap→rX,drop_sublist→sL,getElem?_set→sM,getElem_take→sN,idxOf_append→sO,filter_cons→tJ,mem_reverse→tK,take_left'→uX,find?_some→uY,length_set→uZ,zip_append→vA,forIn_nil→vO,contains→xU
open Nat renaming le_refl→aF,ne_of_lt→br,lt_of_lt_of_le→bu,le_trans→cD,zero_le→cQ,pow_le_pow_right→dE,lt_irrefl→ez,lt_succ_of_lt→e7,min_self→ir,le_succ→iN,lt_succ_self→i9,lt_of_le_of_lt→kY,le_of_lt→lS,le_of_succ_le→lT,pow_succ→lU,sub_zero→lV,log2_lt→mS,min_eq_left→nq,strongRecOn→nr,mod_lt→nV,ne_of_gt→pV,le_add_right→vB,min_eq_right→vC,mul_le_mul→xV
open Option renaming bind_some→bL,map_eq_some_iff→dg,isSome_map→kJ,isSome_iff_exists→nE,getD_none→rY,map_some→sP
open PyProof.Rows renaming callWith_type1→bH
open PySem renaming Value→af,Addr→ah,Shared→am,mainGlobals→aq,starEach→ar,FuncData→aI,Str→aU,Heap→aZ,wpAny_bind→ba,model→bj,wpAny→bo,NameKind→bx,Program→bz,eval→bG,Stmt→bO,bootBuiltins→bW,Around→bX,World→ce,PassesOwn→cn,wpAny_pure→cx,backTo→cE,PyData→cN,sizeLine_eq→cO,strIterType→cU,compareOp→cW,assignEach→dc,wpAny_Call_Name_kw→de,Pos→dh,keywordEach→dw,behindInMarks→dG,foldedSetIterable→dQ,swapsWith→dR,wpAny_mono→dW,Obj→dX,binaryOp→eh,holding→ek,attributeBase→eJ,sysModules→eY,backToKw→fq,wpAny_passesOwn→fu,wpAny_truthy_bool→fE,Builtin→fN,Keyword→gh,tupleKind_room_in1→gu,Scope→gx,cLine→gz,codeAny→gP,assign→ie,getMethod→ig,standAt→ip,sliceBounds→iu,letOwnedTupleGo→iC,Operator→jU,callWith→jV,wpAny_execs_nil→km,Data→kz,newFunctionEnv→kZ,wpAny_pyIter_revIter→la,tupleKind→lC,CmpOp→mz,swappedStores→mB,swapsWithSole→mC,wpAny_holding→mD,call_meets→mJ,callerA→nt,codeAny_mono→nu,getItem→nv,seqIndex_neg→nw,setItem→ny,valueAt→nz,revObj→nW,seqIndex_of→oB,subscripted→oC,wpAny_specialOf→oX,BindsTo→pv,Sem→pw,atKey→pW,closureFor→pX,compEnvC→pY,compPost→pZ,typeLookup→p4,Code→rA,wpAny_standAt→rB,bindC→rZ,bindL→sd,concat_meets→sQ,isTrue→sR,release→sS,builtinsNs→xW,typeIs_int→xX,wpAny_Name→xY
open PySem.Heap renaming get?_push_of_some→aH,lt_size→aM,get?_push_size→bF,size_push→gc,SameBut→ik,get?_update_other→jB,get?_update_self→pO
open PySem.W renaming Frag→ae,keepIn→ak,nsIn→av,codeIn→aw,mg_of→ax,findIn→aE,mg_none_of→bJ,kitOne→bV,kia_one→cL,emptyDict→df,plainGet→dm,hasDictIn→dC,isFn→dN,instObj→d7,makesIn→d8,plainOver→d9,specialIn→ed,mroIn→fH,methodCall_KW→gj,fnOf→gX,callWith_K→ij,cellsFrom_some→iS,findCls→iY,readsIn→iZ,lookIn→jJ,plainGet_of→jW,kitx_list→kA,methodObj→kB,OpenLaw→lW,takerIn→lX,takesIn→lY,kitx_dict→qE,handedIn→rC,WalkO→tL
namespace L2
open PySem PySem.Spec PyProof.Rows
abbrev fw:=Sum Int aU
def oe:fw->af->Bool
 |.inl k,v=>af.isInt k v
 |.inr x,v=>af.isStrOf x v
def NA (w:ce):fw->Int
 |.inl k=>hashInt k
 |.inr x=>hashStr w x
theorem vo:∀{k:fw} {v:af},oe k v=true->(∃i t,k=Sum.inl i/\v=af.int i t)\/(∃x t,k=Sum.inr x/\v=af.str x t)
 |.inl i,v,h=>by
  obtain⟨t,e⟩:=af.isInt_shape (k:=i) (v:=v) h
  exact .inl ⟨i,t,rfl,e⟩
 |.inr x,v,h=>by
  obtain⟨t,e⟩:=af.isStrOf_shape (x:=x) (v:=v) h
  exact .inr ⟨x,t,rfl,e⟩
theorem zlp (i:Int)(t:Tok):oe (.inl i) (.int i t)=true:=by simp[oe,af.isInt]
theorem zlq (x:aU)(t:Tok):oe (.inr x) (.str x t)=true:=by simp[oe,af.isStrOf]
theorem zuf (a b:Int):decide ((Sum.inl a:fw)=Sum.inl b)=(a==b):=by
 by_cases e:a=b
 ·subst e;simp
 ·have h:¬(Sum.inl a:fw)=Sum.inl b:=λq=>e (Sum.inl.inj q)
  rw[decide_eq_false h]
  exact(beq_eq_false_iff_ne.mpr e).symm
theorem zug (a b:aU):decide ((Sum.inr a:fw)=Sum.inr b)=decide (a=b):=by
 by_cases e:a=b
 ·subst e;simp
 ·have h:¬(Sum.inr a:fw)=Sum.inr b:=λq=>e (Sum.inr.inj q)
  rw[decide_eq_false h,decide_eq_false e]
theorem zuh (a:Int)(b:aU):decide ((Sum.inl a:fw)=Sum.inr b)=false:=decide_eq_false (λq=>nomatch q)
theorem zui (a:aU)(b:Int):decide ((Sum.inr a:fw)=Sum.inl b)=false:=decide_eq_false (λq=>nomatch q)
def eO (prog:bz)(w:ce):PySem.KeyKind prog w fw where
 is:=oe
 hash:=NA w
 inj:=λv a b ha hb=>by
  rcases vo ha with⟨i,t,rfl,rfl⟩|⟨x,t,rfl,rfl⟩
  ·rcases vo hb with⟨j,u,rfl,e⟩|⟨y,u,rfl,e⟩
   ·injection e with e1 _;rw[e1]
   ·exact nomatch e
  ·rcases vo hb with⟨j,u,rfl,e⟩|⟨y,u,rfl,e⟩
   ·exact nomatch e
   ·injection e with e1 _;rw[e1]
 byValue:=λk v h=>by
  rcases vo h with⟨i,t,rfl,rfl⟩|⟨x,t,rfl,rfl⟩<;>rfl
 pyHash:=λhv h=>by
  rcases vo hv with⟨i,t,rfl,rfl⟩|⟨x,t,rfl,rfl⟩
  ·exact wpAny_pyHash_int h
  ·exact wpAny_pyHash_str h
 eqBool:=λhu hv h=>by
  rcases vo hu with⟨i,t,rfl,rfl⟩|⟨x,t,rfl,rfl⟩
  ·rcases vo hv with⟨j,u,rfl,rfl⟩|⟨y,u,rfl,rfl⟩
   ·rw[zuf]at h;exact wpAny_eqBool_int h
   ·rw[zuh]at h;exact SeqAt.EqAt.int_str i t y u _ _ _ _ h
  ·rcases vo hv with⟨j,u,rfl,rfl⟩|⟨y,u,rfl,rfl⟩
   ·rw[zui]at h;exact SeqAt.EqAt.str_int x t j u _ _ _ _ h
   ·rw[zug]at h;exact wpAny_eqBool_str h
 «strs»:=λk x t v h=>by
  rcases vo h with⟨i,u,rfl,e⟩|⟨y,u,rfl,e⟩
  ·exact nomatch e
  ·injection e with e1 _
   subst e1
   cases v<;>rfl
theorem ziv (prog:bz)(w:ce)(i:Int)(t:Tok):(eO prog w).is (.inl i) (.int i t)=true:=zlp i t
theorem ziw (prog:bz)(w:ce)(x:aU)(t:Tok):(eO prog w).is (.inr x) (.str x t)=true:=zlq x t
end L2
namespace L2
open PySem PySem.Spec PyProof.Rows
inductive V where
 |non|bl (b:Bool)|int (i:Int)|str (x:aU)|byt (b:Array UInt8)|flt (b:UInt64)|ref (a:ah)|ty (n:String)
 deriving DecidableEq
def RelV:V->af->Prop
 |.non,u=>u=af.none
 |.bl b,u=>u=af.bool b
 |.int i,u=>∃t,u=af.int i t
 |.str x,u=>∃t,u=af.str x t
 |.byt b,u=>∃t,u=af.bytes b t
 |.flt b,u=>∃t,u=af.float b t
 |.ref a,u=>u=af.ref a
 |.ty n,u=>u=af.type n
abbrev bZ:List V->List af->Prop:=Paired RelV
theorem bZ.length {xs:List V}{us:List af}(r:bZ xs us):xs.length=us.length:=Paired.length r
theorem bZ.get:∀{xs:List V} {us:List af} {i:Nat} {x:V},bZ xs us->xs[i]?=some x->∃u,us[i]?=some u/\RelV x u
 |_,_,_,_,.nil,e=>by simp at e
 |_,_,0,_,.cons r _,e=>by simp at e;subst e;exact⟨_,rfl,r⟩
 |_,_,i+1,x,.cons _ t,e=>by
  obtain⟨u,h1,h2⟩:=bZ.get (i:=i) (x:=x) t (by simpa using e)
  exact⟨u,by simpa using h1,h2⟩
theorem bZ.set {x:V}{u:af}(r:RelV x u):∀{xs:List V} {us:List af} (i:Nat),bZ xs us->bZ (xs.set i x) (us.set i u)
 |_,_,_,.nil=>.nil
 |_,_,0,.cons _ t=>.cons r t
 |_,_,i+1,.cons q t=>.cons q (bZ.set r i t)
theorem bZ.append:∀{xs ys:List V} {us ws:List af},bZ xs us->bZ ys ws->bZ (xs++ys) (us++ws)
 |_,_,_,_,.nil,s=>s
 |_,_,_,_,.cons r t,s=>.cons r (bZ.append t s)
theorem bZ.take:∀{xs:List V} {us:List af} (n:Nat),bZ xs us->bZ (xs.take n) (us.take n)
 |_,_,0,_=>.nil
 |_,_,_+1,.nil=>.nil
 |_,_,n+1,.cons r t=>.cons r (bZ.take n t)
theorem bZ.drop:∀{xs:List V} {us:List af} (n:Nat),bZ xs us->bZ (xs.drop n) (us.drop n)
 |_,_,0,r=>r
 |_,_,_+1,.nil=>.nil
 |_,_,n+1,.cons _ t=>bZ.drop n t
def jD:Option V->Option af->Prop
 |some v,some u=>RelV v u
 |none,none=>True
 |_,_=>False
def KV {κ:Type}:List (κ×V)->List (κ×af)->Prop:=Paired λ(p:κ×V) (q:κ×af)=>p.1=q.1/\RelV p.2 q.2
def kV:fw->V
 |.inl i=>.int i
 |.inr x=>.str x
inductive HO where
 |lst (xs:List V)
 |tup (xs:List V)
 |dK (cF:List (fw×V))|dT (cF:List (List fw×V))
 |set (S:Int->Bool) (n:Nat)
 |ins (C dx:ah) (fs:List (aU×V))
 |own (x:ah)
 |xd (fs:List (aU×V))
 |met (f x:ah)
 |rng (lo hi:Int)
 |frz (o:dX) (u:HO)
 |tbl (ps:Array af)
 |ext (φ:aZ->Prop)
abbrev Hp:=ah->Option HO
def upd (H:Hp)(a:ah)(o:HO):Hp:=λb=>if b=a then some o else H b
theorem yx {H:Hp}{a:ah}{o:HO}:upd H a o a=some o:=by unfold upd;rw[if_pos rfl]
theorem yo {H:Hp}{a b:ah}{o:HO}(h:b≠a):upd H a o b=H b:=by unfold upd;rw[if_neg h]
theorem zw0 {H:Hp}{a b:ah}{o u:HO}(h:H a=some o)(h':H b=some u)(d:o≠u):a≠b:=by
 intro e;subst e;rw[h]at h';exact d (Option.some.inj h')
theorem xu {H:Hp}{a b:ah}{o:HO}(h:H a=some o)(h':H b=none):a≠b:=by
 intro e;subst e;rw[h]at h';cases h'
section
variable (P:bz)(w:ce)
def d6 (H:Hp)(h:aZ)(a:ah):HO->Prop
  |.lst xs=>xs.length<=sizeLine/\∃(cw:List af) (n:Nat),bZ xs cw/\h.get? a=some { cls:=.type "list",data:=.seq cw.toArray n }
  |.tup xs=>xs.length<=sizeLine/\∃cw:List af,bZ xs cw/\IsTup h a cw.toArray
  |.dK cF=>cF.length<=sizeLine/\(a==eY)=false/\∃vs,KV cF vs/\h.DictOf (eO P w) a vs
  |.dT cF=>cF.length<=sizeLine/\(a==eY)=false/\∃xs:List (List fw×ah×af),
      Paired (λ(p:List fw×V) (q:List fw×ah×af)=>p.1=q.1/\H q.2.1=some (.tup (p.1.map kV))/\RelV p.2 q.2.2) cF xs /\
      ∃o es ep,h.get? a=some o/\o.ExactDict/\o.data=.dict es ep/\es.toList=xs.map (entryOfKey (lC (eO P w)))/\(xs.map (·.1)).Nodup
  |.set S n=>h.SetOf (intKind P w) a S n
  |.ins C dx fs=>H dx=some (.own a)/\fs.length<=1000/\dx≠a/\h.get? a=some (d7 C dx) /\
      ∃mA,h.Ns1 dx mA/\(∀f,jD (fs.lookup f) (mA f))/\PySem.Within mA (fs.map (·.1))
  |.own _=>∃o,h.get? a=some o
  |.xd fs=>∃mA,h.Ns1 a mA/\∀f,jD (fs.lookup f) (mA f)
  |.rng lo hi=>∃t u v,h.get? a=some { cls:=.type "range",data:=.fields #[.int lo t,.int hi u,.int 1 v] }
  |.frz o u=>h.get? a=some o/\d6 H h a u
  |.tbl ps=>h.get? a=some { cls:=.none,data:=.fields ps }
  |.met f x=>h.get? a=some (kB (.ref f) (.ref x))
  |.ext φ=>φ h/\(∃o,h.get? a=some o)/\∀h1 h2:aZ,φ h1->(∀o,h1.get? a=some o->h2.get? a=some o)->φ h2
def kC (H:Hp)(h:aZ):Prop:=∀a o,H a=some o->d6 P w H h a o
end
section
variable {P:bz}{w:ce}{H H':Hp}{h h':aZ}{a:ah}{o:HO}
theorem d6.lt (x:d6 P w H h a o):a<h.objs.size:=by
 cases o with
 |lst xs=>obtain⟨_,_,_,_,e⟩:=x;exact aM e
 |tup xs=>obtain⟨_,_,_,p⟩:=x;exact p.lt
 |dK cF=>obtain⟨_,_,_,_,o,_,_,e,_⟩:=x;exact aM e
 |dT cF=>obtain⟨_,_,_,_,o,_,_,e,_⟩:=x;exact aM e
 |set S n=>obtain⟨o,_,_,_,e,_⟩:=x;exact aM e
 |ins C dx fs=>obtain⟨_,_,_,e,_⟩:=x;exact aM e
 |own y=>obtain⟨_,e⟩:=x;exact aM e
 |xd fs=>obtain⟨_,⟨_,_,_,e,_⟩,_⟩:=x;exact aM e
 |rng lo hi=>obtain⟨_,_,_,e⟩:=x;exact aM e
 |frz ob u=>obtain⟨e,_⟩:=x;exact aM e
 |tbl ps=>exact aM (show h.get? a=some _ from x)
 |met f y=>exact aM (show h.get? a=some _ from x)
 |ext φ=>obtain⟨_,⟨_,e⟩,_⟩:=x;exact aM e
theorem Paired.mapP {α β:Type}{F G:α->β->Prop}:∀{l₁:List α} {l₂:List β},Paired F l₁ l₂->(∀a b,F a b->G a b)->Paired G l₁ l₂
 |_,_,.nil,_=>.nil
 |_,_,.cons r t,f=>.cons (f _ _ r) (Paired.mapP t f)
theorem d6.stay (x:d6 P w H h a o)(k:∀b u,(b=a\/H b=some (.own a))->h.get? b=some u->h'.get? b=some u)
    (ho:∀b,H b=some (.own a)->H' b=some (.own a)) (ht:∀b xs,H b=some (.tup xs)->H' b=some (.tup xs)):d6 P w H' h' a o:=by
  induction o with
  |lst xs=>obtain⟨z,cw,n,r,e⟩:=x;exact⟨z,cw,n,r,k _ _ (.inl rfl) e⟩
  |tup xs=>obtain⟨z,cw,r,ob,e,c⟩:=x;exact⟨z,cw,r,ob,k _ _ (.inl rfl) e,c⟩
  |dK cF=>obtain⟨z,y,vs,r,ob,es,ep,e,c⟩:=x;exact⟨z,y,vs,r,ob,es,ep,k _ _ (.inl rfl) e,c⟩
  |dT cF=>
    obtain⟨z,y,xs,r,ob,es,ep,e,c⟩:=x
    exact⟨z,y,xs,Paired.mapP r λp q z=>⟨z.1,ht _ _ z.2.1,z.2.2⟩,ob,es,ep,k _ _ (.inl rfl) e,c⟩
  |set S n=>obtain⟨ob,es,ep,t,e,c⟩:=x;exact⟨ob,es,ep,t,k _ _ (.inl rfl) e,c⟩
  |ins C dx fs=>
    obtain⟨d,z,ne,e,mA,⟨od,es,ep,e2,c⟩,r⟩:=x
    exact⟨ho _ d,z,ne,k _ _ (.inl rfl) e,mA,⟨od,es,ep,k _ _ (.inr d) e2,c⟩,r⟩
  |own y=>obtain⟨ob,e⟩:=x;exact⟨ob,k _ _ (.inl rfl) e⟩
  |xd fs=>obtain⟨mA,⟨od,es,ep,e,c⟩,r⟩:=x;exact⟨mA,⟨od,es,ep,k _ _ (.inl rfl) e,c⟩,r⟩
  |rng lo hi=>obtain⟨t,u,v,e⟩:=x;exact⟨t,u,v,k _ _ (.inl rfl) e⟩
  |frz ob u ih=>obtain⟨e,q⟩:=x;exact⟨k _ _ (.inl rfl) e,ih q⟩
  |tbl ps=>
    have e:h.get? a=some { cls:=.none,data:=.fields ps }:=x
    show h'.get? a=some { cls:=.none,data:=.fields ps }
    exact k a _ (.inl rfl) e
  |met f y=>
    have e:h.get? a=some (kB (.ref f) (.ref y)):=x
    show h'.get? a=some (kB (.ref f) (.ref y))
    exact k a _ (.inl rfl) e
  |ext φ=>obtain⟨p,⟨o,e⟩,st⟩:=x;exact⟨st _ _ p λo q=>k _ _ (.inl rfl) q,⟨o,k _ _ (.inl rfl) e⟩,st⟩
theorem kC.lt (x:kC P w H h)(e:H a=some o):a<h.objs.size:=(x a o e).lt
theorem kC.fresh (x:kC P w H h)(e:h.objs.size<=a):H a=none:=by
 cases q:H a with
 |none=>rfl
 |some u=>exact absurd (bu (x.lt q) e) (ez _)
theorem kC.kept (x:kC P w H h)(k:∀b u,h.get? b=some u->h'.get? b=some u):kC P w H h':=λa o e=>
 (x a o e).stay (λb u _ q=>k b u q) (λ_ q=>q) λ_ _ q=>q
theorem kC.laid (x:kC P w H h)(k:∀b u,h.get? b=some u->h'.get? b=some u)(hp:h.objs.size<=a)(new:d6 P w (upd H a o) h' a o):kC P w (upd H a o) h':=λb u e=>by
 have hn:=x.fresh hp
 by_cases hb:b=a
 ·subst hb;rw[yx]at e;cases e;exact new
 ·rw[yo hb]at e
  exact(x b u e).stay (λc v _ q=>k c v q) (λc q=>by rw[yo (xu q hn)];exact q) λc xs q=>by rw[yo (xu q hn)];exact q
end
def Rd (H:Hp)(a:ah)(u:HO):Prop:=H a=some u\/∃o,H a=some (.frz o u)
theorem Rd.ok {P:bz}{w:ce}{H:Hp}{h:aZ}{a:ah}{u:HO}(r:Rd H a u)(x:kC P w H h):d6 P w H h a u:=by
 rcases r with r|⟨o,r⟩
 ·exact x a u r
 ·obtain⟨_,q⟩:=x a _ r
  exact q
def CU:Option HO->Prop
 |some (.lst _)=>True
 |some (.dK _)=>True
 |some (.dT _)=>True
 |some (.set _ _)=>True
 |some (.ins _ _ _)=>True
 |some (.ext _)=>True
 |_=>False
section
variable {P:bz}{w:ce}{H:Hp}{h h':aZ}{x e:ah}{o':HO}
theorem kC.write (ok:kC P w H h)(mu:CU (H x))(he:e=x\/H e=some (.own x))(k:∀b u,b≠e->h.get? b=some u->h'.get? b=some u)(Cb:∃u,h'.get? e=some u)
  (new:d6 P w (upd H x o') h' x o'):kC P w (upd H x o') h':=λb u q=>by
 have He:∀c y,H c=some (.own y)->c≠x:=λc y r z=>by subst z;rw[r]at mu;exact mu
 have NF:∀c xs,H c=some (.tup xs)->c≠x:=λc xs r z=>by subst z;rw[r]at mu;exact mu
 by_cases hb:b=x
 ·subst hb;rw[yx]at q;cases q;exact new
 ·rw[yo hb]at q
  by_cases AT:b=e
  ·have q':H b=some (.own x):=by
    rcases he with z|z
    ·exact absurd (AT.trans z) hb
    ·rw[AT];exact z
   rw[q]at q';cases q'
   obtain⟨v,hv⟩:=Cb
   exact⟨v,by rw[AT];exact hv⟩
  ·refine(ok b u q).stay (λc v hc r=>k c v ?_ r) (λc r=>by rw[yo (He c b r)];exact r) λc xs r=>by rw[yo (NF c xs r)];exact r
   rcases hc with rfl|hc
   ·exact AT
   ·rintro rfl
    rcases he with z|z
    ·exact He c b hc z
    ·rw[hc]at z;cases z;exact hb rfl
end
structure Un (fs ex:List ah)(H H':Hp)(h h':aZ):Prop where
 keep:∀b o,h.get? b=some o->H b=none->b∉fs->b∉ex->h'.get? b=some o
 slot:∀b o,h.get? b=some o->H b=none->b∈fs->b∉ex->∃sl,h'.get? b=some { o with slots:=sl }
 free:∀b o,h.get? b=some o->H b=none->b∉ex->H' b=none
 there:∀b o,h.get? b=some o->b∉ex->∃o',h'.get? b=some o'
 tups:∀b xs,H b=some (.tup xs)->H' b=some (.tup xs)
 frzs:∀b o u,H b=some (.frz o u)->H' b=some (.frz o u)
 tbls:∀b ps,H b=some (.tbl ps)->∃more,H' b=some (.tbl (ps++more))
section
variable {fs Xa ex ex':List ah}{H H1 H2:Hp}{h h1 h2 h':aZ}{a x e:ah}{o:HO}
theorem Un.any (u:Un fs ex H H1 h h1){b:ah}{ob:dX}(q:h.get? b=some ob)(n:H b=none)(hx:b∉ex):∃sl,h1.get? b=some { ob with slots:=sl }:=by
 by_cases hb:b∈fs
 ·exact u.slot b ob q n hb hx
 ·exact⟨ob.slots,u.keep b ob q n hb hx⟩
theorem Un.kept (k:∀b u,h.get? b=some u->h'.get? b=some u):Un fs ex H H h h' :=
 ⟨λb ob q _ _ _=>k b ob q,λb ob q _ _ _=>⟨ob.slots,k b ob q⟩,λ_ _ _ n _=>n,λb ob q _=>⟨ob,k b ob q⟩,λ_ _ q=>q,λ_ _ _ q=>q,λ_ ps q=>⟨#[],by rw[q];simp⟩⟩
theorem Un.refl:Un fs ex H H h h:=Un.kept λ_ _ q=>q
theorem Un.laid (k:∀b u,h.get? b=some u->h'.get? b=some u)(hp:h.objs.size<=a)(hn:H a=none):Un fs ex H (upd H a o) h h' where
 keep:=λb u q _ _ _=>k b u q
 slot:=λb u q _ _ _=>⟨u.slots,k b u q⟩
 free:=λb u q n _=>by rw[yo (br (bu (aM q) hp))];exact n
 there:=λb u q _=>⟨u,k b u q⟩
 tups:=λb xs q=>by rw[yo (xu q hn)];exact q
 frzs:=λb u xs q=>by rw[yo (xu q hn)];exact q
 tbls:=λb ps q=>⟨#[],by rw[yo (xu q hn),q];simp⟩
theorem Un.write (mu:CU (H x))(he:e=x\/H e=some (.own x))(k:∀b u,b≠e->h.get? b=some u->h'.get? b=some u)(Cb:∃u,h'.get? e=some u):Un fs ex H (upd H x o) h h':=by
 have hx:∀b,H b=none->b≠x:=λb n z=>by subst z;rw[n]at mu;exact mu
 have hb:∀b,H b=none->b≠e:=λb n z=>by
  subst z
  rcases he with r|r
  ·exact hx b n r
  ·rw[n]at r;cases r
 have hm:∀b u,H b=some u->¬CU (some u)->b≠x:=λb u q nm z=>by subst z;rw[q]at mu;exact nm mu
 refine⟨λb u q n _ _=>k b u (hb b n) q,λb u q n _ _=>⟨u.slots,k b u (hb b n) q⟩,λb u q n _=>by rw[yo (hx b n)];exact n,λb u q _=>?_,
  λb xs q=>by rw[yo (hm b _ q λz=>z)];exact q,λb u xs q=>by rw[yo (hm b _ q λz=>z)];exact q,λb ps q=>⟨#[],by rw[yo (hm b _ q λz=>z),q];simp⟩⟩
 by_cases AT:b=e
 ·subst AT;exact Cb
 ·exact⟨u,k b u AT q⟩
end
def JV (h:aZ)(H:Hp):List ah:=(ao h.objs.size).filter λa=>(H a).isSome
def oK (h:aZ)(H:Hp):aZ:=PySem.W.hideAll h (JV h H)
theorem zlr (h:aZ)(H:Hp):(oK h H).objs.size=h.objs.size:=PySem.W.hideAll_size _ _
theorem zor {h:aZ}{H:Hp}{b:ah}{o:dX}(e:h.get? b=some o)(n:H b=none):(oK h H).get? b=some o :=
 PySem.W.hideAll_get _ e λhm=>by
  have q:(H b).isSome=true:=(aJ.mp hm).2
  rw[n]at q;simp at q
theorem zrp {h:aZ}{H:Hp}{b:ah}{o:dX}(e:(oK h H).get? b=some o):h.get? b=some o/\H b=none:=by
 have e':h.get? b=some o:=PySem.W.of_hideAll (JV h H) e
 refine⟨e',?_⟩
 cases q:H b with
 |none=>rfl
 |some x=>
  have hm:b∈JV h H:=aJ.mpr ⟨aK.mpr (aM e'),by simp[q]⟩
  have z:(oK h H).get? b=none:=PySem.W.hideAll_none (JV h H) hm
  rw[z]at e;cases e
def vY (g h:aZ)(L:ah):List (ah×dX):=(ao h.objs.size).filterMap λa=>if a=L\/(g.get? a).isSome=true then none else(h.get? a).map λo=>(a,o)
def rest (g h:aZ)(L d:ah):List (ah×dX):=(vY g h L).filter λp=>decide (p.1≠d)
end L2
namespace L2
open PySem PySem.Spec PyProof.Rows
structure Mod (K:ae)(mg:aU->Option af)(base:aZ):Prop where
 kin:K.In base
 glob:base.Ns aq mg
 blt:∃mb,base.Ns xW mb/\∀x:aU,x≠"__name__"->mb x=bW x
 nolimit:base.NoLimit
structure Cx where
 prog:bz
 w:ce
 K:ae
 mg:aU->Option af
 base:aZ
 A:bX
 N:List aU
 s₀:am
 H₀:Hp
 env:Env
 outer:List Env
 stack:List Env
 ex:List ah
 fn:aU->Bool
 calm:Bool
 pn:List (ah×dX)
 xe:af->am->Prop
def tV (l:List Env):List ah:=l.filterMap (·.frame)
abbrev Cx.fs (X:Cx):List ah:=tV X.outer
def pF (sc:gx)(x:aU):Prop:=sc.names.lookup x=some .local\/sc.names.lookup x=some .cell\/sc.names.lookup x=some .free
def Loc (sc:gx)(x:aU):Prop:=sc.names.lookup x=some .local\/sc.names.lookup x=some .cell
def Look (env:Env)(h:aZ)(m:aU->Option af)(x:aU)(u:af):Prop :=
 (env.kindOf x=some .local/\m x=some u)\/((env.kindOf x=some .cell\/env.kindOf x=some .free)/\∃c,env.cells.lookup x=some c/\h.IsCell c (some u))
structure Cx.Ok (X:Cx):Prop where
 mod:Mod X.K X.mg X.base
 kind:X.env.scope.kind=.function
 glob:X.env.globals=aq
 blt:X.env.builtins=xW
 above:X.s₀.heap.objs.size<=X.env.locals
 inj:∀x y c,X.env.cells.lookup x=some c->X.env.cells.lookup y=some c->x=y
 has:∀x,(X.env.kindOf x=some .cell\/X.env.kindOf x=some .free)->∃c,X.env.cells.lookup x=some c
 cab:∀x c,X.fn x=true->X.env.cells.lookup x=some c->X.s₀.heap.objs.size<=c
 hd:X.calm=true->X.A.handled=none
 frames:X.A.frames=some X.stack
 stk:X.stack=X.outer\/(X.stack=X.env::X.outer/\X.env.frame=some X.env.locals)
 exf:∀b∈X.ex,b≠X.env.locals/\∀x c,X.env.cells.lookup x=some c->c≠b
 bs:∀b o,X.base.get? b=some o->X.s₀.heap.get? b=some o/\X.H₀ b=none
 bsz:X.base.objs.size<=X.s₀.heap.objs.size
 noex:∀b o,X.base.get? b=some o->b∉X.ex
 exfs:∀b∈X.ex,b∉X.fs
 funs:X.s₀.heap.FunFrames X.base X.outer
 frf:∀b∈X.fs,X.H₀ b=none
structure Inv (X:Cx)(aj:List (ah×dX))(σ:List (Option V))(H:Hp)(s:am):Prop where
 ok:X.Ok
 os:s.os=X.s₀.os
 bare:AllBare s.gens
 base:Un X.fs X.ex X.H₀ H X.s₀.heap s.heap
 loc:∃m,s.heap.Ns X.env.locals m/\∀(i:Nat) (x:aU) (v:V),X.N[i]?=some x->σ[i]?=some (some v)->pF X.env.scope x->∃u,RelV v u/\Look X.env s.heap m x u
 cell:∀x c,X.env.cells.lookup x=some c->∃v,s.heap.IsCell c v
 free:H X.env.locals=none
 freeC:∀x c,X.env.cells.lookup x=some c->H c=none
 pin:∀p∈X.pn++aj,s.heap.get? p.1=some p.2/\H p.1=none/\p.1≠X.env.locals/\p.1∉X.fs/\∀v,p.2.data≠.cell v
 hok:kC X.prog X.w H s.heap
 len:σ.length=X.N.length
section
variable {X:Cx}{aj:List (ah×dX)}{σ:List (Option V)}{H H':Hp}{s:am}{h':aZ}
theorem Cx.Ok.nofr (ok:X.Ok){b:ah}{o:dX}(e:X.base.get? b=some o):b∉X.fs:=λhb=>by
 have:=(ok.funs.mem hb).1
 rw[e]at this;cases this
theorem Inv.bs (I:Inv X aj σ H s):∀b o,X.base.get? b=some o->s.heap.get? b=some o/\H b=none:=λb o e=>
 ⟨I.base.keep b o (I.ok.bs b o e).1 (I.ok.bs b o e).2 (I.ok.nofr e) (I.ok.noex b o e),I.base.free b o (I.ok.bs b o e).1 (I.ok.bs b o e).2 (I.ok.noex b o e)⟩
theorem Inv.bk (I:Inv X aj σ H s):∀b o,X.base.get? b=some o->s.heap.get? b=some o:=λb o e=>(I.bs b o e).1
theorem Inv.mod (I:Inv X aj σ H s):Mod X.K X.mg X.base:=I.ok.mod
theorem Inv.kIn (I:Inv X aj σ H s):X.K.In s.heap:=I.ok.mod.kin.keeps I.bk
theorem Inv.fr (I:Inv X aj σ H s):∃m,Fr X.base X.env.locals s.heap m :=
 let⟨m,hn,_⟩:=I.loc
 ⟨m,hn,I.bk,cD I.ok.bsz I.ok.above⟩
theorem Inv.lt (I:Inv X aj σ H s):X.env.locals<s.heap.objs.size:=let⟨_,hn,_⟩:=I.loc;hn.lt
theorem Inv.sz (I:Inv X aj σ H s):X.s₀.heap.objs.size<=s.heap.objs.size:=cD I.ok.above (lS I.lt)
theorem Inv.nofs (I:Inv X aj σ H s){a:ah}(h:s.heap.objs.size<=a):a∉X.fs:=λhb=>by
 obtain⟨_,o,ho,_⟩:=I.ok.funs.mem hb
 exact absurd (bu (aM ho) (cD I.sz h)) (ez _)
theorem Inv.cne (I:Inv X aj σ H s):∀x c,X.env.cells.lookup x=some c->c≠X.env.locals:=λx c e z=>by
 obtain⟨v,o,ho,hd⟩:=I.cell x c e
 obtain⟨m,⟨o',es,ep,A8,FD,_⟩,_⟩:=I.loc
 rw[z,A8]at ho;cases ho;rw[FD]at hd;cases hd
theorem Inv.funs (I:Inv X aj σ H s):s.heap.FunFrames X.base X.outer:=by
 have all:∀(l:List Env),(∀b∈tV l,b∈X.fs)->X.s₀.heap.FunFrames X.base l->s.heap.FunFrames X.base l:=by
  intro l
  induction l with
  |nil=>intro _ _;trivial
  |cons env r ih=>
   intro hs hl
   obtain⟨hk,⟨L,o,hf,hn,ho,hd⟩,hr⟩:=hl
   have hL:L∈X.fs:=hs L (by unfold tV;rw[kl,hf];exact aa)
   obtain⟨sl,e⟩:=I.base.slot L o ho (I.ok.frf L hL) hL λz=>I.ok.exfs L z hL
   exact⟨hk,⟨L,_,hf,hn,e,hd⟩,ih (λb hb=>hs b (by unfold tV;rw[kl,hf];exact ai _ hb)) hr⟩
 exact all X.outer (λ_ hb=>hb) I.ok.funs
theorem Inv.stack (I:Inv X aj σ H s):s.heap.FunFrames X.base X.stack:=by
 rcases I.ok.stk with e|⟨e,hf⟩
 ·rw[e];exact I.funs
 ·rw[e]
  obtain⟨m,hn,_⟩:=I.loc
  refine .cons (by rw[I.ok.kind];decide) hf hn ?_ I.funs
  exact aZ.get?_none_of_le (cD I.ok.bsz I.ok.above)
theorem Inv.stkSub (I:Inv X aj σ H s):∀b∈tV X.stack,b∈X.env.locals::X.fs:=λb hb=>by
 rcases I.ok.stk with e|⟨e,hf⟩
 ·rw[e]at hb;exact ai _ hb
 ·rw[e]at hb
  unfold tV at hb
  rw[kl,hf]at hb
  exact hb
theorem Inv.stkFree (I:Inv X aj σ H s):∀b∈tV X.stack,H b=none:=λb hb=>by
 rcases aA.mp (I.stkSub b hb)with e|hb
 ·rw[e];exact I.free
 ·obtain⟨_,o,ho,_⟩:=I.ok.funs.mem hb
  exact I.base.free b o ho (I.ok.frf b hb) λz=>I.ok.exfs b z hb
theorem Inv.step {g':Array GenState}{t':Nat}{d':Drawn}{ch:List ah}(I:Inv X aj σ H s)
  (kQ:∀b∈ch,(b∈X.ex\/X.s₀.heap.objs.size<=b)/\b≠X.env.locals/\(∀x c,X.env.cells.lookup x=some c->c≠b)/\∀p∈X.pn++aj,p.1≠b)
  (keep:∀b o,b≠X.env.locals->b∉X.fs->b∉ch->s.heap.get? b=some o->H b=none->h'.get? b=some o)
  (slot:∀b o,b≠X.env.locals->b∈X.fs->b∉ch->s.heap.get? b=some o->H b=none->∃sl,h'.get? b=some { o with slots:=sl }) (free:∀b o,b∉ch->s.heap.get? b=some o->H b=none->H' b=none)
  (there:∀b o,b∉ch->s.heap.get? b=some o->∃o',h'.get? b=some o')
  (tups:∀b xs,H b=some (.tup xs)->H' b=some (.tup xs)) (frzs:∀b o u,H b=some (.frz o u)->H' b=some (.frz o u)) (tbls:∀b ps,H b=some (.tbl ps)->∃more,H' b=some (.tbl (ps++more)))
  (ns:∀m,s.heap.Ns X.env.locals m->h'.Ns X.env.locals m) (hok:kC X.prog X.w H' h') (hg:AllBare g') :
  Inv X aj σ H' { s with heap:=h',gens:=g',drawn:=d',toks:=t' }:=by
 have Rw:∀b o,X.s₀.heap.get? b=some o->b≠X.env.locals:=λb o e=>br (bu (aM e) I.ok.above)
 have JK:∀b o,X.s₀.heap.get? b=some o->b∉X.ex->b∉ch:=λb o e hx hb=>by
  rcases(kQ b hb).1 with z|z
  ·exact hx z
  ·exact absurd (bu (aM e) z) (ez _)
 have cellK:∀x c,X.env.cells.lookup x=some c->∀v,s.heap.IsCell c v->h'.IsCell c v:=λx c e v ⟨o,ho,hd⟩=>by
  have Ha:c∉ch:=λz=>(kQ c z).2.2.1 x c e rfl
  by_cases hc:c∈X.fs
  ·obtain⟨sl,q⟩:=slot c o (I.cne x c e) hc Ha ho (I.freeC x c e)
   exact⟨_,q,hd⟩
  ·exact⟨o,keep c o (I.cne x c e) hc Ha ho (I.freeC x c e),hd⟩
 refine⟨I.ok,I.os,hg,⟨λb o e n hb hx=>?_,λb o e n hb hx=>?_,λb o e n hx=>?_,λb o e hx=>?_,λb xs e=>tups b xs (I.base.tups b xs e),λb o xs e=>frzs b o xs (I.base.frzs b o xs e),λb ps e=>?_⟩,?_,λx c e=>?_,?_,λx c e=>?_,λp hp=>?_,hok,I.len⟩
 ·exact keep b o (Rw b o e) hb (JK b o e hx) (I.base.keep b o e n hb hx) (I.base.free b o e n hx)
 ·obtain⟨sl,e1⟩:=I.base.slot b o e n hb hx
  obtain⟨sl',e2⟩:=slot b _ (Rw b o e) hb (JK b o e hx) e1 (I.base.free b o e n hx)
  exact⟨sl',e2⟩
 ·obtain⟨o',e1⟩:=I.base.there b o e hx
  exact free b o' (JK b o e hx) e1 (I.base.free b o e n hx)
 ·obtain⟨o',e1⟩:=I.base.there b o e hx
  exact there b o' (JK b o e hx) e1
 ·obtain⟨m1,e1⟩:=I.base.tbls b ps e
  obtain⟨m2,e2⟩:=tbls b _ e1
  exact⟨m1++m2,by rw[e2,Array.append_assoc]⟩
 ·obtain⟨m,hn,hl⟩:=I.loc
  refine⟨m,ns m hn,λi x v e1 e2 e3=>?_⟩
  obtain⟨u,r,l⟩:=hl i x v e1 e2 e3
  refine⟨u,r,?_⟩
  rcases l with l|⟨k,c,e,z⟩
  ·exact .inl l
  ·exact .inr ⟨k,c,e,cellK x c e _ z⟩
 ·obtain⟨v,z⟩:=I.cell x c e
  exact⟨v,cellK x c e v z⟩
 ·obtain⟨m,⟨o,_,_,ho,_⟩,_⟩:=I.loc
  exact free _ o (λz=>(kQ _ z).2.1 rfl) ho I.free
 ·obtain⟨v,o,ho,hd⟩:=I.cell x c e
  exact free c o (λz=>(kQ c z).2.2.1 x c e rfl) ho (I.freeC x c e)
 ·obtain⟨e,n,ne,nf,d⟩:=I.pin p hp
  have Ha:p.1∉ch:=λz=>(kQ p.1 z).2.2.2 p hp rfl
  exact⟨keep p.1 p.2 ne nf Ha e n,free p.1 p.2 Ha e n,ne,nf,d⟩
theorem Inv.un {t':Nat}(I:Inv X aj σ H s)(u:Un X.fs [] H H' s.heap h')(hok:kC X.prog X.w H' h'):Inv X aj σ H' { s with heap:=h',toks:=t' }:=by
 obtain⟨m,⟨o,es,ep,ho,r⟩,_⟩:=id I.loc
 obtain⟨sl,hL⟩:=u.any ho I.free (by simp)
 exact I.step (g':=s.gens) (d':=s.drawn) (ch:=[]) (λ_ z=>nomatch z) (λb o _ hb _ e n=>u.keep b o e n hb (by simp)) (λb o _ hb _ e n=>u.slot b o e n hb (by simp)) (λb o _ e n=>u.free b o e n (by simp)) (λb o _ e=>u.there b o e (by simp)) u.tups u.frzs u.tbls (λm' hm=>by
  obtain⟨o',LG,LF,A8,r'⟩:=hm
  rw[ho]at A8;cases A8
  exact⟨_,LG,LF,hL,r'⟩) hok I.bare
theorem Inv.call {g':Array GenState}{t':Nat}{d':Drawn}{ch:List ah}(I:Inv X aj σ H s)(u:Un (tV X.stack) ch H H' s.heap h')(hok:kC X.prog X.w H' h')(hg:AllBare g')
  (kQ:∀b∈ch,(b∈X.ex\/X.s₀.heap.objs.size<=b)/\b≠X.env.locals/\(∀x c,X.env.cells.lookup x=some c->c≠b)/\∀p∈X.pn++aj,p.1≠b) :
  Inv X aj σ H' { s with heap:=h',gens:=g',drawn:=d',toks:=t' }:=by
 obtain⟨m,⟨o,es,ep,ho,r⟩,_⟩:=id I.loc
 obtain⟨sl,hL⟩:=u.any ho I.free λz=>(kQ _ z).2.1 rfl
 exact I.step (ch:=ch) kQ (λb o hL hb hc e n=>u.keep b o e n (λz=>(aA.mp (I.stkSub b z)).elim hL hb) hc) (λb o _ _ hc e n=>u.any e n hc) (λb o hc e n=>u.free b o e n hc) (λb o hc e=>u.there b o e hc) u.tups u.frzs u.tbls (λm' hm=>by
  obtain⟨o',LG,LF,A8,r'⟩:=hm
  rw[ho]at A8;cases A8
  exact⟨_,LG,LF,hL,r'⟩) hok hg
theorem Inv.turned {t':Nat}{it:ah}(I:Inv X aj σ H s)(k:∀b o,b≠it->s.heap.get? b=some o->h'.get? b=some o)(hn:H it=none)(hL:it≠X.env.locals)
  (h1:it∈X.ex\/X.s₀.heap.objs.size<=it) (h2:∀x c,X.env.cells.lookup x=some c->c≠it) (h3:∀p∈X.pn++aj,p.1≠it):Inv X aj σ H { s with heap:=h',toks:=t' }:=by
 have Rx:∀b u,H b=some u->b≠it:=λb u e z=>by rw[z,hn]at e;cases e
 refine I.step (g':=s.gens) (d':=s.drawn) (ch:=[it]) (λb hb=>?_) (λb o _ _ hc e _=>k b o (λz=>hc (by simp[z])) e) (λb o _ _ hc e _=>⟨o.slots,k b o (λz=>hc (by simp[z])) e⟩) (λ_ _ _ _ n=>n)
  (λb o hc e=>⟨o,k b o (λz=>hc (by simp[z])) e⟩) (λ_ _ e=>e) (λ_ _ _ e=>e) (λb ps e=>⟨#[],by rw[e];simp⟩) (λm hm=>?_) (λb u e=>?_) I.bare
 ·have e:b=it:=by simpa using hb
  subst e
  exact⟨h1,hL,h2,h3⟩
 ·obtain⟨o,es,ep,ho,r⟩:=hm
  exact⟨o,es,ep,k _ o (Ne.symm hL) ho,r⟩
 ·refine(I.hok b u e).stay (λc v hc q=>k c v ?_ q) (λ_ q=>q) λ_ _ q=>q
  rcases hc with z|z
  ·rw[z];exact Rx b u e
  ·exact Rx c _ z
theorem Inv.tok (I:Inv X aj σ H s)(t:Nat):Inv X aj σ H { s with toks:=t }:=I.un (h':=s.heap) (t':=t) Un.refl I.hok
theorem Inv.kept {t':Nat}(I:Inv X aj σ H s)(k:∀b u,s.heap.get? b=some u->h'.get? b=some u):Inv X aj σ H { s with heap:=h',toks:=t' }:=I.un (Un.kept k) (I.hok.kept k)
theorem Inv.laid {a:ah}{o:HO}{t':Nat}(I:Inv X aj σ H s)(k:∀b u,s.heap.get? b=some u->h'.get? b=some u)(hp:s.heap.objs.size<=a)(new:d6 X.prog X.w (upd H a o) h' a o) :
  Inv X aj σ (upd H a o) { s with heap:=h',toks:=t' }:=I.un (Un.laid k hp (I.hok.fresh hp)) (I.hok.laid k hp new)
theorem Inv.write {x e:ah}{o:HO}{t':Nat}(I:Inv X aj σ H s)(mu:CU (H x))(he:e=x\/H e=some (.own x))(k:∀b u,b≠e->s.heap.get? b=some u->h'.get? b=some u)(Cb:∃u,h'.get? e=some u)
  (new:d6 X.prog X.w (upd H x o) h' x o):Inv X aj σ (upd H x o) { s with heap:=h',toks:=t' }:=I.un (Un.write mu he k Cb) (I.hok.write mu he k Cb new)
theorem Inv.weak {σ':List (Option V)}(I:Inv X aj σ H s)(hl:σ'.length = σ.length)(w:∀(i:Nat) v,σ'[i]?=some (some v)->σ[i]?=some (some v)):Inv X aj σ' H s :=
 ⟨I.ok,I.os,I.bare,I.base,let⟨m,hn,Ce⟩:=I.loc;⟨m,hn,λi x v e1 e2 e3=>Ce i x v e1 (w i v e2) e3⟩,I.cell,I.free,I.freeC,I.pin,I.hok,hl.trans I.len⟩
theorem Inv.pins_of {yO:List (ah×dX)}(I:Inv X aj σ H s)(h:∀p∈yO,s.heap.get? p.1=some p.2/\H p.1=none/\p.1≠X.env.locals/\p.1∉X.fs/\∀v,p.2.data≠.cell v):Inv X yO σ H s :=
 ⟨I.ok,I.os,I.bare,I.base,I.loc,I.cell,I.free,I.freeC,λp hp=>(bc.mp hp).elim (λz=>I.pin p (bm _ z)) (h p),I.hok,I.len⟩
theorem TL {N:List aU}(hN:N.Nodup){i j:Nat}{x:aU}(a:N[i]?=some x)(b:N[j]?=some x):i=j:=by
 obtain⟨h1,e1⟩:=aT.mp a
 obtain⟨h2,e2⟩:=aT.mp b
 exact(mq hN).mp (e1.trans e2.symm)
theorem Ta {M:Model}{A:bX}{E:af->am->Prop}{i:Nat}{x:aU}{v:V}{u:af}{Q:Unit->am->Prop}(I:Inv X aj σ H s)(hN:X.N.Nodup)(hi:X.N[i]?=some x)(hx:Loc X.env.scope x)(r:RelV v u)
  (h:∀s',Inv X aj (σ.set i (some v)) H s'->(∃a,ik a s.heap s'.heap/\(a=X.env.locals\/X.env.cells.lookup x=some a))->Q () s') (hf:X.fn x=true\/X.env.scope.names.lookup x=some .local:=by first|exact .inl rfl|exact .inr rfl|assumption):bo M A (storeName X.env x u) Q E s:=by
 obtain⟨m,hn,hl⟩:=id I.loc
 have MS:(X.env.scope.kind==.class || (X.env.scope.kind==.module&&X.env.locals != X.env.globals))=false:=by rw[I.ok.kind];rfl
 have Q3:i < σ.length:=by rw[I.len];exact(aT.mp hi).1
 have cne:=I.cne
 have tracked:∀{a:ah} {h':aZ},(∃o,s.heap.get? a=some o/\H a=none)->ik a s.heap h'->kC X.prog X.w H h':=λ{a h'} ha hs b ob e=>by
  obtain⟨_,_,yF⟩:=ha
  refine(I.hok b ob e).stay (λc w' hc q=>(hs.2 c ?_).trans q) (λ_ q=>q) λ_ _ q=>q
  rintro rfl
  rcases hc with rfl|hc
  ·rw[yF]at e;cases e
  ·rw[yF]at hc;cases hc
 rcases hx with hk|hk
 ·refine wpAny_storeName_local hk hn (λh' FK hs=>?_) MS
  obtain⟨oL,_,_,X5,_⟩:=id hn
  refine h _ ⟨I.ok,I.os,I.bare,⟨λb o e n hb hx=>?_,λb o e n hb hx=>?_,I.base.free,λb o e hx=>?_,I.base.tups,I.base.frzs,I.base.tbls⟩,⟨_,FK,λj y v' e1 e2 e3=>?_⟩,λy c e=>?_,I.free,I.freeC,λp hp=>?_,tracked ⟨oL,X5,I.free⟩ hs,by simpa using I.len⟩ ⟨_,hs,.inl rfl⟩
  ·exact(hs.2 b (br (bu (aM e) I.ok.above))).trans (I.base.keep b o e n hb hx)
  ·obtain⟨sl,e1⟩:=I.base.slot b o e n hb hx
   exact⟨sl,(hs.2 b (br (bu (aM e) I.ok.above))).trans e1⟩
  ·obtain⟨o',e1⟩:=I.base.there b o e hx
   exact⟨o',(hs.2 b (br (bu (aM e) I.ok.above))).trans e1⟩
  ·by_cases hj:j=i
   ·subst hj
    rw[hi]at e1;cases e1
    rw[jC Q3]at e2
    cases e2
    exact⟨u,r,.inl ⟨hk,by simp⟩⟩
   ·rw[cX (Ne.symm hj)]at e2
    obtain⟨u',r',q⟩:=hl j y v' e1 e2 e3
    refine⟨u',r',?_⟩
    rcases q with⟨k,e⟩|⟨k,c,e,z⟩
    ·refine .inl ⟨k,?_⟩
     have:y≠x:=λe=>hj (TL hN e1 (e▸hi))
     simp[this,e]
    ·exact .inr ⟨k,c,e,z.sameBut hs (cne y c e)⟩
  ·obtain⟨w',z⟩:=I.cell y c e
   exact⟨w',z.sameBut hs (cne y c e)⟩
  ·obtain⟨e,n,ne,nf,d⟩:=I.pin p hp
   exact⟨(hs.2 p.1 ne).trans e,n,ne,nf,d⟩
 ·have Cc:X.fn x=true:=by
   rcases hf with z|z
   ·exact z
   ·rw[z]at hk;cases hk
  obtain⟨c,hc⟩:=I.ok.has x (.inl hk)
  obtain⟨w',z⟩:=I.cell x c hc
  refine wpAny_storeName_cell I.ok.kind hk hc z (λh' yE hs=>?_)
  obtain⟨oc,Q8,Nc⟩:=id z
  refine h { s with heap:=h' } ⟨I.ok,I.os,I.bare,⟨λb o e n hb hx=>?_,λb o e n hb hx=>?_,I.base.free,λb o e hx=>?_,I.base.tups,I.base.frzs,I.base.tbls⟩,⟨m,hn.sameBut hs (Ne.symm (cne x c hc)),λj y v' e1 e2 e3=>?_⟩,λy c' e=>?_,I.free,I.freeC,λp hp=>?_,tracked ⟨oc,Q8,I.freeC x c hc⟩ hs,by simpa using I.len⟩ ⟨c,hs,.inr hc⟩
  ·exact(hs.2 b (br (bu (aM e) (I.ok.cab x c Cc hc)))).trans (I.base.keep b o e n hb hx)
  ·obtain⟨sl,e1⟩:=I.base.slot b o e n hb hx
   exact⟨sl,(hs.2 b (br (bu (aM e) (I.ok.cab x c Cc hc)))).trans e1⟩
  ·obtain⟨o',e1⟩:=I.base.there b o e hx
   exact⟨o',(hs.2 b (br (bu (aM e) (I.ok.cab x c Cc hc)))).trans e1⟩
  ·by_cases hj:j=i
   ·subst hj
    rw[hi]at e1;cases e1
    rw[jC Q3]at e2
    cases e2
    exact⟨u,r,.inr ⟨.inl hk,c,hc,yE⟩⟩
   ·rw[cX (Ne.symm hj)]at e2
    obtain⟨u',r',q⟩:=hl j y v' e1 e2 e3
    refine⟨u',r',?_⟩
    rcases q with q|⟨k,c',e,z'⟩
    ·exact .inl q
    ·refine .inr ⟨k,c',e,z'.sameBut hs ?_⟩
     rintro rfl
     exact hj (TL hN e1 (I.ok.inj _ _ _ e hc▸hi))
  ·by_cases QR:c'=c
   ·subst QR;exact⟨_,yE⟩
   ·obtain⟨w2,z2⟩:=I.cell y c' e
    exact⟨w2,z2.sameBut hs QR⟩
  ·obtain⟨e,n,ne,nf,d⟩:=I.pin p hp
   refine⟨(hs.2 p.1 ?_).trans e,n,ne,nf,d⟩
   intro q
   rw[q,Q8]at e
   have q':oc=p.2:=Option.some.inj e
   exact d w' (by rw[←q'];exact Nc)
theorem OJ {M:Model}{A:bX}{E:af->am->Prop}{i:Nat}{x:aU}{v:V}{u:af}{Q:Unit->am->Prop}(I:Inv X aj σ H s)(hN:X.N.Nodup)(hi:X.N[i]?=some x)(hx:Loc X.env.scope x)(r:RelV v u)
  (h:∀s',Inv X aj (σ.set i (some v)) H s'->Q () s') (hf:X.fn x=true\/X.env.scope.names.lookup x=some .local:=by first|exact .inl rfl|exact .inr rfl|assumption):bo M A (storeName X.env x u) Q E s :=
 Ta I hN hi hx r (λs' I' _=>h s' I') hf
theorem Inv.call' {s':am}{ch:List ah}(I:Inv X aj σ H s)(ho:s'.os=s.os)(u:Un (tV X.stack) ch H H' s.heap s'.heap)(hok:kC X.prog X.w H' s'.heap)(hg:AllBare s'.gens)
  (kQ:∀b∈ch,(b∈X.ex\/X.s₀.heap.objs.size<=b)/\b≠X.env.locals/\(∀x c,X.env.cells.lookup x=some c->c≠b)/\∀p∈X.pn++aj,p.1≠b):Inv X aj σ H' s':=by
 obtain⟨h',g',d',t',o'⟩:=s'
 have e:o'=s.os:=ho
 subst e
 exact I.call (g':=g') (t':=t') (d':=d') u hok hg kQ
end
abbrev XK:=af->Option ah->Hp->Prop
abbrev St:=List (Option V)
abbrev VK:=V->Hp->Prop
abbrev TE:=St->Hp->VK->Prop
abbrev TT:=St->Hp->(Bool->Hp->Prop)->Prop
abbrev TA:=St->Hp->(List V->Hp->Prop)->Prop
structure lD where
 nx:St->Hp->Prop
 rt:VK
 bk:St->Hp->Prop:=λ_ _=>False
 ct:St->Hp->Prop:=λ_ _=>False
abbrev TS:=lD->St->Hp->Prop
def EP (X:Cx)(aj:List (ah×dX))(σ:St)(Q:VK)(u:af)(s':am):Prop:=∃v H',Inv X aj σ H' s'/\RelV v u/\Q v H'
def TP (X:Cx)(aj:List (ah×dX))(σ:St)(Q:Bool->Hp->Prop)(b:Bool)(s':am):Prop:=∃H',Inv X aj σ H' s'/\Q b H'
def AP (X:Cx)(aj:List (ah×dX))(σ:St)(Q:List V->Hp->Prop)(us:List af)(s':am):Prop:=∃vs H',Inv X aj σ H' s'/\bZ vs us/\Q vs H'
def SP (X:Cx)(aj:List (ah×dX))(D:lD)(f:Flow)(s':am):Prop :=
 match f with
 |.next=>∃σ' H',Inv X aj σ' H' s'/\D.nx σ' H'
 |.brk=>∃σ' H',Inv X aj σ' H' s'/\D.bk σ' H'
 |.cont=>∃σ' H',Inv X aj σ' H' s'/\D.ct σ' H'
 |.ret u=>∃v σ' H',Inv X aj σ' H' s'/\RelV v u/\D.rt v H'
def PE (X:Cx)(e:Expr)(t:TE):Prop :=
 ∀(aj:List (ah×dX)) (s:am) (σ:St) (H:Hp) (Q:VK),Inv X aj σ H s->t σ H Q->bo (bj X.prog X.w) X.A (bG e X.env) (EP X aj σ Q) X.xe s
def PT (X:Cx)(e:Expr)(t:TT):Prop :=
 ∀(aj:List (ah×dX)) (s:am) (σ:St) (H:Hp) (Q:Bool->Hp->Prop),Inv X aj σ H s->t σ H Q->bo (bj X.prog X.w) X.A (sR e X.env (bG e X.env)) (TP X aj σ Q) X.xe s
def PW (X:Cx)(e:Expr)(t:TT):Prop :=
 ∀(whole:pw af) (aj:List (ah×dX)) (s:am) (σ:St) (H:Hp) (Q:Bool->Hp->Prop),Inv X aj σ H s->t σ H Q->bo (bj X.prog X.w) X.A (sR e X.env whole) (TP X aj σ Q) X.xe s
theorem PW.pt {X:Cx}{e:Expr}{t:TT}(h:PW X e t):PT X e t:=h _
def PA (X:Cx)(es:List Expr)(t:TA):Prop :=
 ∀(pos:dh) (aj:List (ah×dX)) (s:am) (σ:St) (H:Hp) (Q:List V->Hp->Prop),Inv X aj σ H s->t σ H Q->bo (bj X.prog X.w) X.A (spliced (cE pos (ar es X.env))) (AP X aj σ Q) X.xe s
def PS (X:Cx)(st:bO)(t:TS):Prop :=
 ∀(aj:List (ah×dX)) (s:am) (σ:St) (H:Hp) (D:lD),Inv X aj σ H s->t D σ H->bo (bj X.prog X.w) X.A (exec st X.env) (SP X aj D) X.xe s
def qP (X:Cx)(st:List bO)(t:TS):Prop :=
 ∀(aj:List (ah×dX)) (s:am) (σ:St) (H:Hp) (D:lD),Inv X aj σ H s->t D σ H->bo (bj X.prog X.w) X.A (execs st X.env) (SP X aj D) X.xe s
theorem dA {α:Type}{t:pw α}{Q Q':α->am->Prop}{M:Model}{A:bX}{E:af->am->Prop}{s:am}(h:bo M A t Q E s)(hQ:∀a s,Q a s->Q' a s):bo M A t Q' E s:=dW h hQ λ_ _ x=>x
end L2
namespace L2
open PySem PySem.Spec PyProof.Rows
section
variable {X:Cx}
theorem bin {a b:Expr}{ta tb:TE}(ha:PE X a ta)(hb:PE X b tb){aj:List (ah×dX)}{s:am}{σ:St}{H:Hp}{R:V->V->Hp->Prop}(I:Inv X aj σ H s)(h:ta σ H λx H1=>tb σ H1 λy H2=>R x y H2)
  {α:Type} {Q:α->am->Prop} {f:af->af->pw α}
  (hf:∀v u s2 x y H2,Inv X aj σ H2 s2->RelV x v->RelV y u->R x y H2->bo (bj X.prog X.w) X.A (f v u) Q X.xe s2) :
  bo (bj X.prog X.w) X.A (bG a X.env) (λv s₁=>bo (bj X.prog X.w) X.A (bG b X.env) (λu s₂=>bo (bj X.prog X.w) X.A (f v u) Q X.xe s₂) X.xe s₁) X.xe s:=by
 refine dA (ha aj s σ H _ I h) λv s1 dJ=>?_
 obtain⟨x,H1,I1,r1,q1⟩:=dJ
 refine dA (hb aj s1 σ H1 _ I1 q1) λu s2 dJ=>?_
 obtain⟨y,H2,I2,r2,q2⟩:=dJ
 exact hf v u s2 x y H2 I2 r1 r2 q2
def N4 (i:Nat):TE:=λσ H Q=>∃v,σ[i]?=some (some v)/\Q v H
def tC (v:V):TE:=λ_ H Q=>Q v H
theorem qj {i:Nat}{x:aU}{pos:dh}(hN:X.N[i]?=some x)(hv:pF X.env.scope x)(hd:(x==("__debug__":aU))=false:=by decide)(jF:(x==("__classdict__":aU))=false:=by decide):PE X (.Name x pos) (N4 i):=by
 intro aj s σ H Q I h
 obtain⟨v,e,h⟩:=h
 obtain⟨m,hn,hl⟩:=I.loc
 obtain⟨u,r,l⟩:=hl i x v hN e hv
 have fin:EP X aj σ Q u s:=⟨v,H,I,r,h⟩
 rcases l with⟨hk,hm⟩|⟨hk,c,hc,n6⟩
 ·exact xY (wpAny_loadName_local I.ok.kind hk hn hm fin) hd
 ·rcases hk with hk|hk
  ·exact xY (wpAny_loadName_cell I.ok.kind hk hc n6 fin) hd
  ·exact xY (wpAny_loadName_free I.ok.kind hk hc n6 fin jF) hd
theorem zuj {i j pos}:PE X (.Constant (.int i) j pos) (tC (.int i)):=λ_ _ _ H _ I h=>wpAny_Constant_int ⟨.int i,H,I.tok _,⟨_,rfl⟩,h⟩
theorem zw1 {b j pos}:PE X (.Constant (.bool b) j pos) (tC (.bl b)):=λ_ _ _ H _ I h=>Constant_bool ⟨.bl b,H,I,rfl,h⟩
theorem zuk {j pos}:PE X (.Constant .none j pos) (tC .non):=λ_ _ _ H _ I h=>Constant_none ⟨.non,H,I,rfl,h⟩
theorem zul {x j pos}:PE X (.Constant (.str x) j pos) (tC (.str x)):=λ_ _ _ H _ I h=>Calls.Constant_str ⟨.str x,H,I.tok _,⟨_,rfl⟩,h⟩
def Gl (X:Cx)(x:aU):Prop:=X.env.kindOf x=some .globalImplicit
theorem KC {E:af->am->Prop}{aj:List (ah×dX)}{s:am}{σ:St}{H:Hp}{x:aU}{u:af}{pos:dh}{Q:af->am->Prop}(I:Inv X aj σ H s)(hg:Gl X x)(hm:X.mg x=some u)(h:Q u s)
  (hd:(x==("__debug__":aU))=false:=by decide):bo (bj X.prog X.w) X.A (bG (.Name x pos) X.env) Q E s :=
 Calls.Name_function_global I.ok.kind hg (Calls.loadGlobal_global (by rw[I.ok.glob];exact I.mod.glob.keeps I.bk) hm h) hd
theorem tE {E:af->am->Prop}{aj:List (ah×dX)}{s:am}{σ:St}{H:Hp}{x:aU}{u:af}{pos:dh}{Q:af->am->Prop}(I:Inv X aj σ H s)(hg:Gl X x)(hm:X.mg x=none)(hv:bW x=some u)(h:Q u s)
  (hn:x≠"__name__":=by decide) (hd:(x==("__debug__":aU))=false:=by decide):bo (bj X.prog X.w) X.A (bG (.Name x pos) X.env) Q E s:=by
 obtain⟨mb,h1,h2⟩:=I.mod.blt
 exact Calls.Name_function_global I.ok.kind hg (Calls.loadGlobal_builtin (by rw[I.ok.glob];exact I.mod.glob.keeps I.bk) hm (by rw[I.ok.blt];exact h1.keeps I.bk) ((h2 x hn).trans hv) h) hd
theorem Uj {x:aU}{v:V}{u:af}{pos:dh}(hg:Gl X x)(hm:X.mg x=some u)(r:RelV v u)(hd:(x==("__debug__":aU))=false:=by decide):PE X (.Name x pos) (tC v) :=
 λ_ _ _ H _ I h=>KC I hg hm ⟨v,H,I,r,h⟩ hd
theorem zrq {x:aU}{v:V}{u:af}{pos:dh}(hg:Gl X x)(hm:X.mg x=none)(hv:bW x=some u)(r:RelV v u)(hn:x≠"__name__":=by decide)(hd:(x==("__debug__":aU))=false:=by decide):PE X (.Name x pos) (tC v) :=
 λ_ _ _ H _ I h=>tE I hg hm hv ⟨v,H,I,r,h⟩ hn hd
variable {a b:Expr}{ta tb:TE}{pos:dh}
def PC (X:Cx)(op:mz)(a b:Expr)(t:TE):Prop :=
 ∀(aj:List (ah×dX)) (s:am) (σ:St) (H:Hp) (Q:VK),Inv X aj σ H s->t σ H Q ->
  bo (bj X.prog X.w) X.A (bG a X.env) (λv s₁=>bo (bj X.prog X.w) X.A (bG b X.env) (λu s₂=>bo (bj X.prog X.w) X.A (cW op v u) (EP X aj σ Q) X.xe s₂) X.xe s₁) X.xe s
theorem uF (b:Expr){op:mz}(h:op≠.In)(h2:op≠.NotIn):dG op b=false:=by
 have e1:(op==mz.In)=false:=by cases op<;>first|rfl|exact absurd rfl h
 have e2:(op==mz.NotIn)=false:=by cases op<;>first|rfl|exact absurd rfl h2
 cases b<;>simp[dG,e1,e2]
def tB (t:TE):TT:=λσ H Q=>t σ H λx H1=>∃c,x=.bl c/\Q c H1
theorem U9 {op:mz}{t:TE}(h:PC X op a b t)(h1:dG op b=false:=by first|exact uF _ (by decide) (by decide)|rfl):PT X (.Compare a [op] [b] pos) (tB t):=by
 intro aj s σ H Q I hw
 refine wpAny_isTrue_Compare1 (dA (h aj s σ H _ I hw) λv s1 h1=>dA h1 λu s2 h2=>dA h2 λc s3 ⟨x,H1,I1,r1,q1⟩=>?_) h1
 obtain⟨d,rfl,q⟩:=q1
 cases r1
 exact fE ⟨H1,I1,q⟩
theorem zum {e:Expr}{t:TE}(h:PE X e t)(he:∀whole,sR e X.env whole=(do let v ← whole;ip e.pos;ek [v] (truthy v)):=by intro _;rfl):PT X e (tB t):=by
 intro aj s σ H Q I hw
 refine isTrue_plain (dA (h aj s σ H _ I hw) λv s1 ⟨x,H1,I1,r1,q1⟩=>?_) (he _)
 obtain⟨d,rfl,q⟩:=q1
 cases r1
 exact fE ⟨H1,I1,q⟩
variable {tA JP:TT}{rest:List Expr}
def NQ (t u:TT):TT:=λσ H Q=>t σ H λc H1=>if c=true then u σ H1 Q else Q false H1
def tOr (t u:TT):TT:=λσ H Q=>t σ H λc H1=>if c=true then Q true H1 else u σ H1 Q
def NY (t:TT):TT:=λσ H Q=>t σ H λc H1=>Q (!c) H1
theorem zrr (ha:PT X a tA):PW X (.BoolOp .And [a] pos) tA:=by
 intro wh aj s σ H Q I h
 refine isTrue_and (dA (ha aj s σ H Q I h) λc s1 e=>?_)
 cases c with
 |true=>exact isTrue_and_nil e
 |false=>exact e
theorem zun (ha:PT X a tA):PW X (.BoolOp .Or [a] pos) tA:=by
 intro wh aj s σ H Q I h
 refine isTrue_or (dA (ha aj s σ H Q I h) λc s1 e=>?_)
 cases c with
 |false=>exact isTrue_or_nil e
 |true=>exact e
theorem zuo (ha:PT X a tA)(hb:PW X (.BoolOp .And (b::rest) pos) JP):PW X (.BoolOp .And (a::b::rest) pos) (NQ tA JP):=by
 intro wh aj s σ H Q I h
 refine isTrue_and (dA (ha aj s σ H _ I h) λc s1 dJ=>?_)
 obtain⟨H1,I1,q1⟩:=dJ
 cases c with
 |true=>exact hb wh aj s1 σ H1 Q I1 q1
 |false=>exact⟨H1,I1,q1⟩
theorem zw2 (ha:PT X a tA)(hb:PW X (.BoolOp .Or (b::rest) pos) JP):PW X (.BoolOp .Or (a::b::rest) pos) (tOr tA JP):=by
 intro wh aj s σ H Q I h
 refine isTrue_or (dA (ha aj s σ H _ I h) λc s1 dJ=>?_)
 obtain⟨H1,I1,q1⟩:=dJ
 cases c with
 |true=>exact⟨H1,I1,q1⟩
 |false=>exact hb wh aj s1 σ H1 Q I1 q1
theorem zup (ha:PT X a tA):PT X (.UnaryOp .Not a pos) (NY tA):=by
 intro aj s σ H Q I h
 exact isTrue_not (ha aj s σ H (λc H1=>Q (!c) H1) I h)
def Iq (ta tb:TE):TE:=λσ H Q=>ta σ H λx H1=>∃c,x=.bl c/\if c=true then tb σ H1 Q else Q (.bl false) H1
def NZ (ta tb:TE):TE:=λσ H Q=>ta σ H λx H1=>∃c,x=.bl c/\if c=true then Q (.bl true) H1 else tb σ H1 Q
theorem zuq {op}{t:TE}(h:PE X a t):PE X (.BoolOp op [a] pos) t:=λaj s σ H Q I hw=>BoolOp_one (h aj s σ H Q I hw)
theorem zur (ha:PE X a ta)(hb:PE X (.BoolOp .And (b::rest) pos) tb):PE X (.BoolOp .And (a::b::rest) pos) (Iq ta tb):=by
 intro aj s σ H Q I h
 refine BoolOp_and (dA (ha aj s σ H _ I h) λv s1 dJ=>?_)
 obtain⟨x,H1,I1,r1,q1⟩:=dJ
 obtain⟨c,rfl,q1⟩:=q1
 cases r1
 refine fE ?_
 cases c with
 |true=>exact hb aj s1 σ H1 Q I1 q1
 |false=>exact⟨.bl false,H1,I1,rfl,q1⟩
theorem zw3 (ha:PE X a ta)(hb:PE X (.BoolOp .Or (b::rest) pos) tb):PE X (.BoolOp .Or (a::b::rest) pos) (NZ ta tb):=by
 intro aj s σ H Q I h
 refine BoolOp_or (dA (ha aj s σ H _ I h) λv s1 dJ=>?_)
 obtain⟨x,H1,I1,r1,q1⟩:=dJ
 obtain⟨c,rfl,q1⟩:=q1
 cases r1
 refine fE ?_
 cases c with
 |false=>exact hb aj s1 σ H1 Q I1 q1
 |true=>exact⟨.bl true,H1,I1,rfl,q1⟩
def tIf (t:TT)(ta tb:TE):TE:=λσ H Q=>t σ H λc H1=>if c=true then ta σ H1 Q else tb σ H1 Q
theorem zos {c:Expr}(hc:PT X c tA)(ha:PE X a ta)(hb:PE X b tb):PE X (.IfExp c a b pos) (tIf tA ta tb):=by
 intro aj s σ H Q I h
 refine wpAny_IfExp (dA (hc aj s σ H _ I h) λd s1 dJ=>?_)
 obtain⟨H1,I1,q1⟩:=dJ
 cases d with
 |true=>exact ha aj s1 σ H1 Q I1 q1
 |false=>exact hb aj s1 σ H1 Q I1 q1
end
end L2
namespace L2
open PySem PySem.Spec PyProof.Rows
def eR (K:ae)(H:Hp)(a:ah)(xs:List V):Prop :=
 Rd H a (.lst xs) \/
  ∃(o:dX) (cw:Array af) (n:Nat),K.lookup a=some o/\o.cls=.type "list"/\o.dict=none/\o.data=.seq cw n/\cw.size<=sizeLine/\bZ xs cw.toList
def kN (K:ae)(H:Hp)(a:ah)(xs:List V):Prop :=
 Rd H a (.tup xs) \/
  ∃(o:dX) (cw:Array af) (n:Nat),K.lookup a=some o/\o.cls=.type "tuple"/\o.data=.seq cw n/\cw.size<=sizeLine/\bZ xs cw.toList
def Lh:af->Option V
 |.none=>some .non
 |.bool b=>some (.bl b)
 |.int i _=>some (.int i)
 |.str x _=>some (.str x)
 |.bytes b _=>some (.byt b)
 |.float b _=>some (.flt b)
 |.ref a=>some (.ref a)
 |.type n=>some (.ty n)
 |_=>none
theorem RelV.abs {x:V}{u:af}(r:RelV x u):Lh u=some x:=by
 cases x with
 |non=>cases r;rfl
 |bl _=>cases r;rfl
 |int _=>obtain⟨t,rfl⟩:=r;rfl
 |str _=>obtain⟨t,rfl⟩:=r;rfl
 |byt _=>obtain⟨t,rfl⟩:=r;rfl
 |flt _=>obtain⟨t,rfl⟩:=r;rfl
 |ref _=>cases r;rfl
 |ty _=>cases r;rfl
theorem RelV.inj {x y:V}{u:af}(r:RelV x u)(q:RelV y u):x=y:=Option.some.inj (r.abs.symm.trans q.abs)
theorem bZ.inj:∀{xs ys:List V} {us:List af},bZ xs us->bZ ys us->xs=ys
 |_,_,_,.nil,.nil=>rfl
 |_,_,_,.cons r t,.cons r' t'=>by rw[r.inj r',bZ.inj t t']
section
variable {X:Cx}{aj:List (ah×dX)}{σ:St}{H:Hp}{s:am}{a:ah}{xs ys:List V}
theorem eR.of {K:ae}(h:H a=some (.lst xs)):eR K H a xs:=.inl (.inl h)
theorem kN.of {K:ae}(h:H a=some (.tup xs)):kN K H a xs:=.inl (.inl h)
theorem Inv.list (I:Inv X aj σ H s)(h:eR X.K H a xs):∃cw:List af,bZ xs cw/\PlainL s.heap a cw.toArray/\xs.length<=sizeLine:=by
 rcases h with h|⟨o,cw,n,hk,hc,hd,hs,hz,r⟩
 ·obtain⟨z,cw,n,r,e⟩:=h.ok I.hok
  exact⟨cw,r,⟨_,n,e,rfl,rfl,rfl⟩,z⟩
 ·refine⟨cw.toList,r,⟨o,n,I.kIn a o hk,hc,hd,by simpa using hs⟩,?_⟩
  have e:=r.length
  simp only[dM]at e
  omega
theorem Inv.tuple (I:Inv X aj σ H s)(h:kN X.K H a xs):∃cw:List af,bZ xs cw/\IsTup s.heap a cw.toArray/\xs.length<=sizeLine:=by
 rcases h with h|⟨o,cw,n,hk,hc,hs,hz,r⟩
 ·obtain⟨z,cw,r,p⟩:=h.ok I.hok
  exact⟨cw,r,p,z⟩
 ·refine⟨cw.toList,r,⟨o,I.kIn a o hk,hc,n,by simpa using hs⟩,?_⟩
  have e:=r.length
  simp only[dM]at e
  omega
theorem Inv.list_inj (I:Inv X aj σ H s)(h:eR X.K H a xs)(h':eR X.K H a ys):xs=ys:=by
 obtain⟨cw,r,⟨o,n,e,_,_,d⟩,_⟩:=I.list h
 obtain⟨its',r',⟨o',n',e',_,_,d'⟩,_⟩:=I.list h'
 rw[e]at e';cases e'
 rw[d]at d'
 injection d' with d1 _
 have:cw=its':=by simpa using congrArg Array.toList d1
 subst this
 exact r.inj r'
end
abbrev Cx.wish (X:Cx)(E:af->am->Prop):Cx:={ X with xe:=E }
abbrev Cx.nox (X:Cx):Cx:=X.wish λ_ _=>False
theorem Cx.Ok.wish {X:Cx}(ok:X.Ok)(E:af->am->Prop):(X.wish E).Ok :=
 ⟨ok.mod,ok.kind,ok.glob,ok.blt,ok.above,ok.inj,ok.has,ok.cab,ok.hd,ok.frames,ok.stk,ok.exf,ok.bs,ok.bsz,ok.noex,ok.exfs,ok.funs,ok.frf⟩
theorem Cx.Ok.unwish {X:Cx}{E:af->am->Prop}(ok:(X.wish E).Ok):X.Ok :=
 ⟨ok.mod,ok.kind,ok.glob,ok.blt,ok.above,ok.inj,ok.has,ok.cab,ok.hd,ok.frames,ok.stk,ok.exf,ok.bs,ok.bsz,ok.noex,ok.exfs,ok.funs,ok.frf⟩
section
variable {X:Cx}{aj:List (ah×dX)}{σ:St}{H:Hp}{s:am}{E:af->am->Prop}
theorem Inv.wish (I:Inv X aj σ H s)(E:af->am->Prop):Inv (X.wish E) aj σ H s:=⟨I.ok.wish E,I.os,I.bare,I.base,I.loc,I.cell,I.free,I.freeC,I.pin,I.hok,I.len⟩
theorem Inv.unwish (I:Inv (X.wish E) aj σ H s):Inv X aj σ H s:=⟨I.ok.unwish,I.os,I.bare,I.base,I.loc,I.cell,I.free,I.freeC,I.pin,I.hok,I.len⟩
theorem SP.unwish {D:lD}{f:Flow}{s':am}(h:SP (X.wish E) aj D f s'):SP X aj D f s':=by
 cases f with
 |next=>obtain⟨σ',H',I,q⟩:=h;exact⟨σ',H',I.unwish,q⟩
 |brk=>obtain⟨σ',H',I,q⟩:=h;exact⟨σ',H',I.unwish,q⟩
 |cont=>obtain⟨σ',H',I,q⟩:=h;exact⟨σ',H',I.unwish,q⟩
 |ret u=>obtain⟨v,σ',H',I,r,q⟩:=h;exact⟨v,σ',H',I.unwish,r,q⟩
theorem qP.nox {st:List bO}{t:TS}(h:qP X.nox st t):qP X st t:=λaj s σ H D I hw=>
 dW (h aj s σ H D (I.wish _) hw) (λ_ _ q=>q.unwish) λ_ _ z=>False.elim z
end
section
variable {X:Cx}{st:bO}{rest:List bO}{t u:TS}{e:Expr}{te:TE}{pos:dh}
def IA:TS:=λD σ H=>D.nx σ H
def N2 (t u:TS):TS:=λD σ H=>t { D with nx:=u D } σ H
theorem zrs:qP X [] IA:=λ_ _ σ H _ I h=>km ⟨σ,H,I,h⟩
theorem TN (h1:PS X st t)(h2:qP X rest u):qP X (st::rest) (N2 t u):=by
 intro aj s σ H D I h
 refine wpAny_execs_cons (dA (h1 aj s σ H { D with nx:=u D } I h) λf s1 q=>?_)
 cases f with
 |next=>
  obtain⟨σ',H',I',q⟩:=q
  exact h2 aj s1 σ' H' D I' q
 |ret v=>exact q
 |brk=>exact q
 |cont=>exact q
theorem Ul (h1:PS X st t):qP X [st] t:=by
 intro aj s σ H D I h
 refine wpAny_execs_cons (dA (h1 aj s σ H D I h) λf s1 q=>?_)
 cases f with
 |next=>exact km q
 |ret v=>exact q
 |brk=>exact q
 |cont=>exact q
theorem Inv.quiet {aj:List (ah×dX)}{σ:St}{H:Hp}{s:am}(I:Inv X aj σ H s):interactive X.env=false:=by simp[interactive,I.ok.kind]
def Iw (te:TE):TS:=λD σ H=>te σ H λ_ H1=>D.nx σ H1
theorem KD (he:PE X e te)(hs:dR e none pos.line X.env=pure false:=by rfl):PS X (.Expr e pos) (Iw te):=by
 intro aj s σ H D I h
 exact wpAny_Expr_any (dA (he aj s σ H _ I h) λv s1 ⟨x,H1,I1,r1,q1⟩=>⟨σ,H1,I1,q1⟩) I.quiet hs
def N1 (te:TE):TS:=λD σ H=>te σ H D.rt
theorem Pp (he:PE X e te):PS X (.Return (some e) pos) (N1 te):=by
 intro aj s σ H D I h
 exact wpAny_Return_some (dA (he aj s σ H _ I h) λv s1 ⟨x,H1,I1,r1,q1⟩=>⟨x,σ,H1,I1,r1,q1⟩)
def NW (c:TT)(t u:TS):TS:=λD σ H=>c σ H λb H1=>if b=true then t D σ H1 else u D σ H1
theorem zw4 {c:Expr}{a b:List bO}{tc:TT}(hc:PT X c tc)(ha:qP X a t)(hb:qP X b u):PS X (.If c a b pos) (NW tc t u):=by
 intro aj s σ H D I h
 refine wpAny_If (dA (hc aj s σ H _ I h) λd s1 dJ=>?_)
 obtain⟨H1,I1,q1⟩:=dJ
 cases d with
 |true=>exact ha aj s1 σ H1 D I1 q1
 |false=>exact hb aj s1 σ H1 D I1 q1
def BI:TS:=λ_ _ _=>False
theorem zot:PS X st BI:=λ_ _ _ _ _ _ h=>h.elim
end
abbrev TG:=V->St->Hp->(St->Hp->Prop)->Prop
abbrev yB:=List V->St->Hp->(St->Hp->Prop)->Prop
def PG (X:Cx)(target:Expr)(t:TG):Prop :=
 ∀(aj:List (ah×dX)) (s:am) (σ:St) (H:Hp) (v:V) (u:af) (Q:St->Hp->Prop),Inv X aj σ H s->RelV v u->t v σ H Q ->
  bo (bj X.prog X.w) X.A (ie target X.env u) (λ_ s'=>∃σ' H',Inv X aj σ' H' s'/\Q σ' H') X.xe s
def B0 (X:Cx)(ts:List Expr)(t:yB):Prop :=
 ∀(aj:List (ah×dX)) (s:am) (σ:St) (H:Hp) (vs:List V) (us:List af) (Q:St->Hp->Prop),Inv X aj σ H s->bZ vs us->t vs σ H Q ->
  bo (bj X.prog X.w) X.A (assignInOrder ((dc ts X.env).map (·.2)) us) (λ_ s'=>∃σ' H',Inv X aj σ' H' s'/\Q σ' H') X.xe s
abbrev tR:=V->V->V->Hp->(Hp->Prop)->Prop
def zG (X:Cx)(t:tR):Prop :=
 ∀(aj:List (ah×dX)) (s:am) (σ:St) (H:Hp) (o i v:V) (ov iv u:af) (Q:Hp->Prop),Inv X aj σ H s->RelV o ov->RelV i iv->RelV v u->t o i v H Q ->
  bo (bj X.prog X.w) X.A (ny ov iv u) (λ_ s'=>∃H',Inv X aj σ H' s'/\Q H') X.xe s
abbrev B3:=V->V->Hp->VK->Prop
def B1 (X:Cx)(op:jU)(t:B3):Prop :=
 ∀(aj:List (ah×dX)) (s:am) (σ:St) (H:Hp) (x y:V) (v u:af) (Q:VK),Inv X aj σ H s->RelV x v->RelV y u->t x y H Q ->
  bo (bj X.prog X.w) X.A (inplaceOp op v u) (EP X aj σ Q) X.xe s
section
variable {X:Cx}{pos:dh}
def rH (i:Nat):TG:=λv σ H Q=>Q (σ.set i (some v)) H
theorem Um {i:Nat}{x:aU}(hN:X.N.Nodup)(hi:X.N[i]?=some x)(hx:Loc X.env.scope x)(hf:X.fn x=true\/X.env.scope.names.lookup x=some .local:=by first|exact .inl rfl|exact .inr rfl|assumption):PG X (.Name x pos) (rH i):=by
 intro aj s σ H v u Q I r h
 exact wpAny_assign_Name (OJ I hN hi hx r (λs' I'=>⟨_,H,I',h⟩) hf)
def MA:yB:=λvs σ H Q=>vs=[]/\Q σ H
def Fu (t:TG)(u:yB):yB:=λvs σ H Q=>∃v r,vs=v::r/\t v σ H λσ' H'=>u r σ' H' Q
theorem Uo:B0 X [] MA:=by
 intro aj s σ H vs us Q I r h
 obtain⟨e,h⟩:=h
 subst e
 cases r
 exact assignInOrder_nil ⟨σ,H,I,h⟩
theorem TD {e:Expr}{es:List Expr}{t:TG}{u:yB}(h1:PG X e t)(h2:B0 X es u)
  (hs:(dc (e::es) X.env).map (·.2)=ie e X.env::(dc es X.env).map (·.2):=by rfl):B0 X (e::es) (Fu t u):=by
 intro aj s σ H vs us Q I r h
 obtain⟨v,vr,e1,h⟩:=h
 subst e1
 cases r with
 |cons r rr=>
  rw[hs]
  refine assignInOrder_cons (dA (h1 aj s σ H _ _ _ I r h) λ_ s1 dJ=>?_)
  obtain⟨σ1,H1,I1,q1⟩:=dJ
  exact h2 aj s1 σ1 H1 _ _ Q I1 rr q1
def MC (K:ae)(n:Nat)(t:yB):TG:=λv σ H Q=>∃a xs,v=.ref a/\kN K H a xs/\xs.length=n/\t xs σ H Q
theorem UZ {es:List Expr}{k:Nat}{t:yB}{n:Nat}(hc:X.calm=true)(h:B0 X es t)
  (hn:(dc es X.env).length=n:=by rfl) (m9:(dc es X.env).findIdx? (·.1)=none:=by rfl):PG X (.Tuple es k pos) (MC X.K n t):=by
 intro aj s σ H v u Q I r hw
 obtain⟨a,xs,e1,hq,hl,hw⟩:=hw
 subst e1
 cases r
 obtain⟨cw,rv,ht,hz⟩:=I.tuple hq
 refine assign_Tuple_tuple (I.ok.hd hc) ht (by simp[hn,←hl,rv.length]) m9 λh' hx=>?_
 have I1:Inv X aj σ H { s with heap:=h' }:=I.kept (t':=s.toks) λb o e=>hx b o (br (aM e)) e
 exact h aj _ σ H xs _ Q I1 (by simpa using rv) hw
def MB (to ti:TE)(t:tR):TG:=λv σ H Q=>to σ H λo H1=>ti σ H1 λi H2=>t o i v H2 λH3=>Q σ H3
theorem U0 {o i:Expr}{to ti:TE}{t:tR}(ho:PE X o to)(hi:PE X i ti)(hs:zG X t)
  (ha:∀v,ie (.Subscript o i pos) X.env v=(do
   let ov ← ek [v] (bG o X.env)
   let iv ← ek [v,ov] (bG i X.env)
   ip pos
   ek [v,ov,iv] (ny ov iv v)
   sS [v,ov,iv] []):=by intro _;rfl):PG X (.Subscript o i pos) (MB to ti t):=by
 intro aj s σ H v u Q I r h
 rw[ha]
 refine ba (mD (dA (ho aj s σ H _ I h) λov s1 dJ=>?_))
 obtain⟨x,H1,I1,r1,q1⟩:=dJ
 refine ba (mD (dA (hi aj s1 σ H1 _ I1 q1) λiv s2 dJ=>?_))
 obtain⟨y,H2,I2,r2,q2⟩:=dJ
 refine ba (rB (ba (mD (dA (hs aj s2 σ H2 x y v ov iv u _ I2 r1 r2 r q2) λ_ s3 dJ=>?_))))
 obtain⟨H3,I3,q3⟩:=dJ
 exact wpAny_release ⟨σ,H3,I3,q3⟩
def BD (te:TE)(g:TG):TS:=λD σ H=>te σ H λx H1=>g x σ H1 D.nx
theorem Pq {tg e:Expr}{te:TE}{g:TG}(he:PE X e te)(hg:PG X tg g)(hs:mC [tg] e pos.line X.env=pure false:=by rfl)(hw:mB [tg] e X.env=pure none:=by rfl)
  (h1:(dc [tg] X.env).map (·.2)=[ie tg X.env]:=by rfl):PS X (.Assign [tg] e pos) (BD te g):=by
 intro aj s σ H D I h
 refine wpAny_Assign_stores (dA (he aj s σ H _ I h) λv s1 ⟨x,H1,I1,r1,q1⟩=>?_) hs hw
 rw[h1]
 exact dA (hg aj s1 σ H1 x v _ I1 r1 q1) λ_ s2 q=>q
theorem U1 {i:Nat}{x:aU}{e:Expr}{te:TE}{pos':dh}(hN:X.N.Nodup)(hi:X.N[i]?=some x)(hx:Loc X.env.scope x)(he:PE X e te)(hs:dR e (some (.Name x pos')) pos.line X.env=pure false:=by rfl)(hf:X.fn x=true\/X.env.scope.names.lookup x=some .local:=by first|exact .inl rfl|exact .inr rfl|assumption) :
  PS X (.Assign [.Name x pos'] e pos) (BD te (rH i)):=by
 intro aj s σ H D I h
 refine wpAny_Assign_Name (dA (he aj s σ H _ I h) λv s1 ⟨y,H1,I1,r1,q1⟩=>?_) hs
 exact OJ I1 hN hi hx r1 (λs2 I2=>⟨_,H1,I2,q1⟩) hf
def NR (i:Nat)(te:TE)(ti:B3):TS:=λD σ H=>∃x,σ[i]?=some (some x)/\te σ H λy H1=>ti x y H1 λz H2=>D.nx (σ.set i (some z)) H2
theorem zus {i:Nat}{x:aU}{e:Expr}{te:TE}{op:jU}{ti:B3}{pos':dh}(hN:X.N.Nodup)(hi:X.N[i]?=some x)(hx:Loc X.env.scope x)(he:PE X e te)(ho:B1 X op ti)(hf:X.fn x=true\/X.env.scope.names.lookup x=some .local:=by first|exact .inl rfl|exact .inr rfl|assumption) :
  PS X (.AugAssign (.Name x pos') op e pos) (NR i te ti):=by
 intro aj s σ H D I h
 obtain⟨v,e1,h⟩:=h
 obtain⟨m,hn,hl⟩:=I.loc
 have vis:pF X.env.scope x:=by rcases hx with k|k;exact .inl k;exact .inr (.inl k)
 obtain⟨u,r,l⟩:=hl i x v hi e1 vis
 refine wpAny_AugAssign_Name ?_
 have go:bo (bj X.prog X.w) X.A (bG e X.env) (λw s₂=>bo (bj X.prog X.w) X.A (inplaceOp op u w) (λr s₃=>bo (bj X.prog X.w) X.A (storeName X.env x r) (λ_=>SP X aj D .next) X.xe s₃) X.xe s₂) X.xe s:=by
  refine dA (he aj s σ H _ I h) λw s1 dJ=>?_
  obtain⟨y,H1,I1,r1,q1⟩:=dJ
  refine dA (ho aj s1 σ H1 v y u w _ I1 r r1 q1) λz s2 dJ=>?_
  obtain⟨zv,H2,I2,r2,q2⟩:=dJ
  exact OJ I2 hN hi hx r2 (λs3 I3=>⟨_,H2,I3,q2⟩) hf
 rcases l with⟨hk,hm⟩|⟨hk,c,hc,n6⟩
 ·exact wpAny_loadName_local I.ok.kind hk hn hm go
 ·rcases hk with hk|hk
  ·exact wpAny_loadName_cell I.ok.kind hk hc n6 go
  ·rcases hx with k|k
   ·have:X.env.scope.names.lookup x=some .free:=hk
    rw[k]at this;cases this
   ·have:X.env.scope.names.lookup x=some .free:=hk
    rw[k]at this;cases this
def Ir (to ti te:TE)(xI:V->V->Hp->VK->Prop)(JT:B3)(xJ:tR):TS:=λD σ H=>to σ H λo H1=>ti σ H1 λi H2=>xI o i H2 λx H3=>te σ H3 λy H4=>JT x y H4 λz H5=>xJ o i z H5 λH6=>D.nx σ H6
def CW (X:Cx)(t:V->V->Hp->VK->Prop):Prop :=
 ∀(aj:List (ah×dX)) (s:am) (σ:St) (H:Hp) (o i:V) (ov iv:af) (Q:VK),Inv X aj σ H s->RelV o ov->RelV i iv->t o i H Q ->
  bo (bj X.prog X.w) X.A (nv ov iv) (EP X aj σ Q) X.xe s
theorem zrt {o i e:Expr}{to ti te:TE}{xI:V->V->Hp->VK->Prop}{JT:B3}{xJ:tR}{op:jU}{gE:dh}(ho:PE X o to)(hi:PE X i ti)(hg:CW X xI)(he:PE X e te)(hp:B1 X op JT)(hs:zG X xJ)
  (ha:∀ov iv new,augStore i ov iv new=(do ek [new,ov,iv] (ny ov iv new);sS [new,ov,iv] [];pure .next):=by intros;rfl):PS X (.AugAssign (.Subscript o i gE) op e pos) (Ir to ti te xI JT xJ):=by
 intro aj s σ H D I h
 refine wpAny_AugAssign_SubscriptAny (dA (ho aj s σ H _ I h) λov s1 ⟨x1,H1,I1,r1,q1⟩=>?_) ha
 refine dA (hi aj s1 σ H1 _ I1 q1) λiv s2 dJ=>?_
 obtain⟨x2,H2,I2,r2,q2⟩:=dJ
 refine dA (hg aj s2 σ H2 x1 x2 ov iv _ I2 r1 r2 q2) λold s3 dJ=>?_
 obtain⟨x3,H3,I3,r3,q3⟩:=dJ
 refine dA (he aj s3 σ H3 _ I3 q3) λv s4 dJ=>?_
 obtain⟨x4,H4,I4,r4,q4⟩:=dJ
 refine dA (hp aj s4 σ H4 x3 x4 old v _ I4 r3 r4 q4) λnew s5 dJ=>?_
 obtain⟨x5,H5,I5,r5,q5⟩:=dJ
 exact dA (hs aj s5 σ H5 x1 x2 x5 ov iv new _ I5 r1 r2 r5 q5) λ_ s6 ⟨H6,I6,q6⟩=>⟨σ,H6,I6,q6⟩
def JI (f:Int->Int->Int):B3:=λx y H Q=>∃i j,x=.int i/\y=.int j/\Q (.int (f i j)) H
theorem Ps:B1 X .Add (JI λi j=>i+j):=by
 intro aj s σ H x y v u Q I r1 r2 h
 obtain⟨i,j,e1,e2,q⟩:=h
 subst e1;subst e2
 obtain⟨t,rfl⟩:=r1
 obtain⟨t',rfl⟩:=r2
 exact iadd_int ⟨.int _,H,I.tok _,⟨_,rfl⟩,q⟩
theorem U2:B1 X .Sub (JI λi j=>i-j):=by
 intro aj s σ H x y v u Q I r1 r2 h
 obtain⟨i,j,e1,e2,q⟩:=h
 subst e1;subst e2
 obtain⟨t,rfl⟩:=r1
 obtain⟨t',rfl⟩:=r2
 exact isub_int ⟨.int _,H,I.tok _,⟨_,rfl⟩,q⟩
end
section
variable {X:Cx}{pos:dh}
def BJ (c:TT)(tb:TS):TS:=λD σ H=>∃W:Nat->St->Hp->Prop,(∃m,W m σ H)/\∀m σ H,W m σ H ->
 c σ H λb H1=>if b=true then∃N:St->Hp->Prop,(∀σ' H',N σ' H'->∃m',m'<m/\W m' σ' H')/\tb { D with nx:=N,ct:=N,bk:=D.nx } σ H1 else D.nx σ H1
theorem zou {c:Expr}{body:List bO}{tc:TT}{tb:TS}(hp:cn (bj X.prog X.w) X.A X.env X.xe)(hc:PT X c tc)(hb:qP X body tb):PS X (.While c body [] pos) (BJ tc tb):=by
 intro aj s σ H D I h
 obtain⟨W,⟨m0,w0⟩,cz⟩:=h
 refine wpAny_While (codeAny_whileLoop (λn s'=>∃σ' H',Inv X aj σ' H' s'/\W n σ' H') ?_ m0 ⟨σ,H,I,w0⟩)
 rintro n s1 ⟨σ1,H1,I1,w1⟩
 refine fu hp (dA (hc aj s1 σ1 H1 _ I1 (cz n σ1 H1 w1)) λb s2 dJ=>?_)
 obtain⟨H2,I2,q2⟩:=dJ
 cases b with
 |true=>
  obtain⟨N,hN,q2⟩:=q2
  rw[if_pos rfl]
  refine fu hp (dA (hb aj s2 σ1 H2 _ I2 q2) λf s3 q3=>?_)
  cases f with
  |next=>
   obtain⟨σ3,H3,I3,n3⟩:=q3
   obtain⟨m',hm,w3⟩:=hN σ3 H3 n3
   exact⟨m',hm,σ3,H3,I3,w3⟩
  |cont=>
   obtain⟨σ3,H3,I3,n3⟩:=q3
   obtain⟨m',hm,w3⟩:=hN σ3 H3 n3
   exact⟨m',hm,σ3,H3,I3,w3⟩
  |brk=>exact q3
  |ret v=>exact q3
 |false=>
  rw[if_neg aW]
  exact km ⟨σ1,H2,I2,q2⟩
end
structure It where
 go:Nat->Hp->Prop
 yld:Nat->Hp->V->Hp->Prop
 stop:Nat->Hp->Prop
def kL (X:Cx)(aj:List (ah×dX))(H:Hp)(b:ah):Prop :=
 H b=none/\b≠X.env.locals/\b∉X.fs/\(b∈X.ex\/X.s₀.heap.objs.size<=b)/\(∀x c,X.env.cells.lookup x=some c->c≠b)/\∀p∈X.pn++aj,p.1≠b
theorem Inv.fpOk {X:Cx}{aj:List (ah×dX)}{σ:St}{H H':Hp}{s:am}{b:ah}(I:Inv X aj σ H s)(hb:s.heap.objs.size<=b)(hn:H' b=none):kL X aj H' b:=by
 refine⟨hn,pV (bu I.lt hb),I.nofs hb,.inr (cD I.sz hb),λx c e z=>?_,λp hp z=>?_⟩
 ·obtain⟨v,q⟩:=I.cell x c e
  exact absurd (bu q.lt (by rw[z];exact hb)) (ez _)
 ·exact absurd (bu (aM (I.pin p hp).1) (by rw[z];exact hb)) (ez _)
structure Turn (P:bz)(w:ce)(K:ae)(tg:Expr)(J:It)(fp:List ah)(it:ah)(tn:Nat->aZ->Prop):Prop where
 mem:it∈fp
 obj:∀i h,tn i h->∀b∈fp,∃o,h.get? b=some o/\∀v,o.data≠.cell v
 keep:∀i h h',tn i h->(∀b∈fp,∀o,h.get? b=some o->h'.get? b=some o)->tn i h'
 item:∀(X:Cx),X.prog=P->X.w=w->X.K=K->X.calm=true->∀(i:Nat) (aj:List (ah×dX)) (s:am) (σ:St) (H:Hp) (E:af->am->Prop),Inv X aj σ H s->(∀b∈fp,kL X aj H b)->tn i s.heap->J.go i H ->
  bo (bj P w) X.A (pyNext (.ref it)) (λr s1=>∃u,r=some u /\
   bo (bj P w) X.A (iC tg (.ref it) u) (λ_ s2=>∃x H',Inv X aj σ H' s2/\RelV x u/\J.yld i H x H'/\tn (i+1) s2.heap/\∀b∈fp,H' b=none) E s1) E s
 done:∀(X:Cx),X.prog=P->X.w=w->X.K=K->X.calm=true->∀(i:Nat) (aj:List (ah×dX)) (s:am) (σ:St) (H:Hp) (E:af->am->Prop),Inv X aj σ H s->(∀b∈fp,kL X aj H b)->tn i s.heap->J.stop i H ->
  bo (bj P w) X.A (pyNext (.ref it)) (λr s1=>r=none/\Inv X aj σ H s1) E s
 self:∀(A:bX) (i:Nat) (s:am) (Q:af->am->Prop) (E:af->am->Prop),tn i s.heap->Q (.ref it) s->bo (bj P w) A (pyIter (.ref it)) Q E s
abbrev TI:=St->Hp->(It->Hp->Prop)->Prop
def P7 (X:Cx)(aj:List (ah×dX))(σ:St)(tg:Expr)(R:It->Hp->Prop)(JJ:af)(s2:am):Prop :=
 ∃(it:ah) (fp:List ah) (tn:Nat->aZ->Prop) (J:It) (H':Hp),JJ=.ref it/\Inv X aj σ H' s2/\Turn X.prog X.w X.K tg J fp it tn/\tn 0 s2.heap/\(∀b∈fp,kL X aj H' b)/\R J H'
def PI (X:Cx)(tg iter:Expr)(wi:TI):Prop :=
 ∀(aj:List (ah×dX)) (s:am) (σ:St) (H:Hp) (R:It->Hp->Prop),Inv X aj σ H s->wi σ H R ->
  bo (bj X.prog X.w) X.A (bG iter X.env) (λv s1=>bo (bj X.prog X.w) X.A (pyIter v) (P7 X aj σ tg R) X.xe s1) X.xe s
theorem K4 {M:Model}{A:bX}{E:af->am->Prop}{s:am}{tg:Expr}{it:ah}{u:af}{o:dX}{n:String}{vs:Array af}{Q:Unit->am->Prop}(ho:s.heap.get? it=some o)(hc:o.cls=.type n)(hd:o.data=.fields vs)
    (hn:["enumerate","zip","dict_itemiterator","dict_reverseitemiterator","odict_iterator","itertools.zip_longest","itertools.pairwise"].contains n=false) (hQ:Q () s):bo M A (iC tg (.ref it) u) Q E s:=by
  unfold iC
  cases tg<;>first
    |exact cx hQ
    |(cases u<;>first
        |exact cx hQ
        |(refine ba (wpAny_load ho ?_)
          rw[hc,hd]
          show bo M A (if(["enumerate","zip","dict_itemiterator","dict_reverseitemiterator","odict_iterator","itertools.zip_longest","itertools.pairwise"].contains n&&vs[0]?==some (rawInt _))=true then _ else _) Q E s
          rw[if_neg (by intro h;rw[hn,Bool.false_and]at h;cases h)]
          exact cx hQ))
def Le (K:ae)(a:ah):It :=
 ⟨λi H=>∃xs x,eR K H a xs/\xs[i]?=some x,λi H x H'=>H'=H/\∀xs,eR K H a xs->xs[i]?=some x,λi H=>∃xs,eR K H a xs/\xs.length<=i⟩
def CT (lo:Int)(n:Nat):It:=⟨λi _=>i<n,λi H x H'=>H'=H/\x=.int (lo+i),λi _=>n<=i⟩
theorem zl0 {P:bz}{w:ce}{K:ae}{tg:Expr}(a it:ah):Turn P w K tg (Le K a) [it] it (λi h=>h.IsListIter it a i) where
 mem:=by simp
 obj:=λi h st b hb=>by
  have e:b=it:=by simpa using hb
  subst e
  obtain⟨o,e,c,d⟩:=st
  exact⟨o,e,λv z=>by rw[d]at z;cases z⟩
 keep:=λi h h' st k=>st.at λo e=>k it (by simp) o e
 item:=by
  intro X hP hw hK hc i aj s σ H E I hf st hg
  subst hP hw hK
  obtain⟨xs,x,hq,hx⟩:=hg
  obtain⟨cw,rv,p,hz⟩:=I.list hq
  obtain⟨u,hu,ru⟩:=rv.get hx
  obtain⟨f0,f1,f2,f3,f4,f5⟩:=hf it (by simp)
  refine wpAny_pyNext_list_item st p.isList (x:=u) (by simpa using hu) λh' p9 sb=>?_
  have I1:Inv X aj σ H { s with heap:=h' }:=I.turned (t':=s.toks) (λb o hb e=>(sb.2 b hb).trans e) f0 f1 f3 f4 f5
  obtain⟨o,e,c,d⟩:=id p9
  exact⟨u,rfl,K4 (s:={ s with heap:=h' }) e c d (by decide) ⟨x,H,I1,ru,⟨rfl,λys hy=>by rw[I.list_inj hy hq];exact hx⟩,p9,λb hb=>(hf b hb).1⟩⟩
 done:=by
  intro X hP hw hK hc i aj s σ H E I hf st hg
  subst hP hw hK
  obtain⟨xs,hq,hx⟩:=hg
  obtain⟨cw,rv,p,hz⟩:=I.list hq
  obtain⟨f0,f1,f2,f3,f4,f5⟩:=hf it (by simp)
  have hl:=rv.length
  exact wpAny_pyNext_list_end (I.ok.hd hc) st p.isList (by simp;omega) λh' eb=>⟨rfl,I.turned (t':=s.toks) (λb o hb e=>eb b o hb e) f0 f1 f3 f4 f5⟩
 self:=λ_ _ _ _ _ st h=>wpAny_pyIter_listiter st h
theorem zk1 {P:bz}{w:ce}{K:ae}{tg:Expr}(it:ah)(lo:Int)(n:Nat):Turn P w K tg (CT lo n) [it] it (λi h=>IsRangeIter h it (lo+(i:Nat)*1) ((n:Int)-(i:Nat)) 1) where
 mem:=by simp
 obj:=λi h st b hb=>by
  have e:b=it:=by simpa using hb
  subst e
  exact⟨_,st,λv z=>by
   have z':kz.fields _=kz.cell v:=z
   cases z'⟩
 keep:=λi h h' st k=>k it (by simp) _ st
 item:=by
  intro X hP hw hK hc i aj s σ H E I hf st hg
  subst hP hw hK
  obtain⟨f0,f1,f2,f3,f4,f5⟩:=hf it (by simp)
  have W:=Walks.range (prog:=X.prog) (w:=X.w) (I.ok.hd hc) it lo 1 n
  refine W.item i s _ _ hg st λv h' tk hv p9 kk=>?_
  obtain⟨t,rfl⟩:=hv
  have I1:Inv X aj σ H { s with heap:=h',toks:=tk }:=I.turned (λb o hb e=>kk b o (by simpa using hb) e) f0 f1 f3 f4 f5
  refine⟨_,rfl,K4 (s:={ s with heap:=h',toks:=tk }) (n:="range_iterator") p9 rfl rfl (by decide) ⟨.int (lo+i),H,I1,⟨t,?_⟩,⟨rfl,rfl⟩,p9,λb hb=>(hf b hb).1⟩⟩
  rw[mP]
 done:=by
  intro X hP hw hK hc i aj s σ H E I hf st hg
  subst hP hw hK
  obtain⟨f0,f1,f2,f3,f4,f5⟩:=hf it (by simp)
  exact wpAny_pyNext_range_end (I.ok.hd hc) st (by have:n<=i:=hg;omega) λh' eb=>⟨rfl,I.turned (t':=s.toks) (λb o hb e=>eb b o hb e) f0 f1 f3 f4 f5⟩
 self:=λ_ _ _ _ _ st h=>wpAny_pyIter_rangeiter st h
end L2
namespace L2
open PySem PySem.Spec PyProof.Rows
section
variable {X:Cx}{tg:Expr}
def Gc (K:ae)(tl:TE):TI:=λσ H R=>tl σ H λx H1=>∃a,x=.ref a/\(∃xs,eR K H1 a xs)/\R (Le K a) H1
theorem Uh {l:Expr}{tl:TE}(hl:PE X l tl):PI X tg l (Gc X.K tl):=by
 intro aj s σ H R I h
 refine dA (hl aj s σ H _ I h) λv s1 dJ=>?_
 obtain⟨x,H1,I1,r1,q1⟩:=dJ
 obtain⟨a,e,⟨xs,hq⟩,q⟩:=q1
 subst e
 cases r1
 obtain⟨cw,rv,p,hz⟩:=I1.list hq
 refine wpAny_pyIter_list p.isList ?_
 refine⟨s1.heap.objs.size,[s1.heap.objs.size],_,_,H1,rfl,I1.kept (t':=s1.toks) λb o e=>aH _ e,zl0 a _,⟨_,bF _ rfl,rfl,rfl⟩,λb hb=>?_,q⟩
 have e:b=s1.heap.objs.size:=by simpa using hb
 subst e
 exact I1.fpOk (aF _) (I1.hok.fresh (aF _))
theorem TF {aj:List (ah×dX)}{σ:St}{H:Hp}{s:am}{R:It->Hp->Prop}{E:af->am->Prop}{lo hi:Int}{t u v:Tok}{tk:Nat}(I:Inv X aj σ H s)(h1:-(2 ^ 62)<=lo)(h2:lo<2 ^ 62)(h3:-(2 ^ 62)<=hi)(h4:hi<2 ^ 62)
    (q:R (CT lo (hi-lo).toNat) H):bo (bj X.prog X.w) X.A (pyIter (.ref s.heap.objs.size)) (P7 X aj σ tg R) E { s with heap:=s.heap.push { cls:=.type "range",data:=.fields #[.int lo t,.int hi u,.int 1 v] },toks:=tk }:=by
  refine wpAny_pyIter_range (IsRange.new ..) (small_one h1 h2 h3 h4) ?_
  have I1:Inv X aj σ H { s with heap:=s.heap.push { cls:=.type "range",data:=.fields #[.int lo t,.int hi u,.int 1 v] },toks:=tk }:=I.kept λb o e=>aH _ e
  refine⟨(s.heap.push { cls:=.type "range",data:=.fields #[.int lo t,.int hi u,.int 1 v] }).objs.size,[(s.heap.push { cls:=.type "range",data:=.fields #[.int lo t,.int hi u,.int 1 v] }).objs.size],_,_,H,rfl,
    I1.kept (t':=tk) λb o e=>aH _ e,zk1 _ lo (hi-lo).toNat,?_,λb hb=>?_,q⟩
  · have e1:lo+((0:Nat):Int)*1=lo:=by simp
    have e2:(((hi-lo).toNat:Nat):Int)-((0:Nat):Int)=fN.Range.rangeSize lo hi 1:=by rw[rangeSize_one];split<;>omega
    show IsRangeIter _ _ (lo+((0:Nat):Int)*1) ((((hi-lo).toNat:Nat):Int)-((0:Nat):Int)) 1
    rw[e1,e2]
    exact bF _ rfl
  · have e:b=(s.heap.push { cls:=.type "range",data:=.fields #[.int lo t,.int hi u,.int 1 v] }).objs.size:=by simpa using hb
    subst e
    exact I1.fpOk (aF _) (I1.hok.fresh (aF _))
def Gd (ta:TA):TI:=λσ H R=>ta σ H λvs H1=>∃j:Int,vs=[.int j]/\-(2 ^ 62)<=j/\j<2 ^ 62/\R (CT 0 j.toNat) H1
def Ge (ta:TA):TI:=λσ H R=>ta σ H λvs H1=>∃i j:Int,vs=[.int i,.int j]/\(-(2 ^ 62)<=i/\i<2 ^ 62/\-(2 ^ 62)<=j/\j<2 ^ 62)/\R (CT i (j-i).toNat) H1
theorem zl2 {a:Expr}{ta:TA}{p pos:dh}(hg:Gl X "range")(hm:X.mg "range"=none)(ha:PA X [a] ta)(hs:ar [a] X.env=[(false,bG a X.env)]:=by rfl):PI X tg (.Call (.Name "range" p) [a] [] pos) (Gd ta):=by
 intro aj s σ H R I h
 refine Call_ (tE I hg hm boot_range (bH (dA (ha pos aj s σ H _ I h) λus s1 ⟨vs,H1,I1,r1,q1⟩=>?_) hs rfl))
 obtain⟨j,e,q1,q2,q⟩:=q1
 subst e
 cases r1 with
 |cons r rr=>
  cases rr
  obtain⟨t,rfl⟩:=r
  exact call_range_1 (TF I1 (by omega) (by omega) q1 q2 (by simpa using q))
theorem zl3 {a b:Expr}{ta:TA}{p pos:dh}(hg:Gl X "range")(hm:X.mg "range"=none)(ha:PA X [a,b] ta)(hs:ar [a,b] X.env=[(false,bG a X.env),(false,bG b X.env)]:=by rfl)(ml:ar [b] X.env=[(false,bG b X.env)]:=by rfl) :
  PI X tg (.Call (.Name "range" p) [a,b] [] pos) (Ge ta):=by
 intro aj s σ H R I h
 refine Call_ (tE I hg hm boot_range (bH (dA (ha pos aj s σ H _ I h) λus s1 ⟨vs,H1,I1,r1,q1⟩=>?_) (by rw[hs,ml]) (by rw[ml];rfl)))
 obtain⟨i,j,e,⟨q1,q2,q3,q4⟩,q⟩:=q1
 subst e
 cases r1 with
 |cons r rr=>
  cases rr with
  |cons r' rr=>
   cases rr
   obtain⟨t,rfl⟩:=r
   obtain⟨t',rfl⟩:=r'
   exact call_range_2 (TF I1 q1 q2 q3 q4 q)
def NV (wi:TI)(g:TG)(tb:TS):TS:=λD σ H=>wi σ H λJ H1=>∃W:Nat->Nat->St->Hp->Prop,(∃m,W 0 m σ H1)/\∀i m σ H,W i m σ H ->
 (J.stop i H/\D.nx σ H)\/(J.go i H/\∃N:St->Hp->Prop,(∀σ' H',N σ' H'->∃m',m'<m/\W (i+1) m' σ' H')/\∀x H',J.yld i H x H'->g x σ H' λσ2 H2=>tb { D with nx:=N,ct:=N,bk:=D.nx } σ2 H2)
def lN (fp:List ah)(h:aZ):List (ah×dX):=fp.filterMap λb=>(h.get? b).map λo=>(b,o)
theorem j8 {fp:List ah}{h:aZ}{b:ah}{o:dX}(hb:b∈fp)(e:h.get? b=some o):(b,o)∈lN fp h:=rX.mpr ⟨b,hb,by rw[e];rfl⟩
theorem zl4 {fp:List ah}{h:aZ}{p:ah×dX}(hp:p∈lN fp h):p.1∈fp/\h.get? p.1=some p.2:=by
 obtain⟨b,hb,e⟩:=rX.mp hp
 cases q:h.get? b with
 |none=>rw[q]at e;cases e
 |some o=>
  rw[q]at e
  have e':(b,o)=p:=Option.some.inj e
  subst e'
  exact⟨hb,q⟩
theorem Inv.pinned {aj:List (ah×dX)}{σ:St}{H:Hp}{s:am}{fp:List ah}(I:Inv X aj σ H s)(hf:∀b∈fp,kL X aj H b)(ho:∀b∈fp,∃o,s.heap.get? b=some o/\∀v,o.data≠.cell v):Inv X (aj++lN fp s.heap) σ H s :=
 I.pins_of λp hp=>(bc.mp hp).elim (λz=>I.pin p (ay _ z)) λz=>by
  obtain⟨hb,e⟩:=zl4 z
  obtain⟨f0,f1,f2,_⟩:=hf p.1 hb
  obtain⟨o,e',d⟩:=ho p.1 hb
  rw[e]at e';cases e'
  exact⟨e,f0,f1,f2,d⟩
theorem Inv.unpinned {aj pl:List (ah×dX)}{σ:St}{H:Hp}{s:am}(I:Inv X (aj++pl) σ H s):Inv X aj σ H s:=I.pins_of λp hp=>I.pin p (ay _ (bm _ hp))
theorem zut {iter:Expr}{body:List bO}{wi:TI}{g:TG}{tb:TS}{pos:dh}(hp:cn (bj X.prog X.w) X.A X.env X.xe)(hc:X.calm=true)(hi:PI X tg iter wi)(hg:PG X tg g)(hb:qP X body tb)
  (hs:∀x,dQ iter X.env x=pure x:=by intro _;rfl):PS X (.For tg iter body [] pos) (NV wi g tb):=by
 intro aj s σ H D I h
 refine wpAny_For (dA (hi aj s σ H _ I h) λv s1 h1=>dA h1 λJJ s2 h2=>?_) hs
 obtain⟨it,fp,tn,J,H2,e,I2,T,vL,f2,W,⟨m0,w0⟩,cz⟩:=h2
 subst e
 have ni:∀{H':Hp},(∀b∈fp,H' b=none)->∀b∈fp,kL X aj H' b:=λhn b hb=>⟨hn b hb,(f2 b hb).2⟩
 refine codeAny_forLoop_any (λn s'=>∃i σ' H',Inv X aj σ' H' s'/\tn i s'.heap/\(∀b∈fp,H' b=none)/\W i n σ' H') ?_ m0 ⟨0,σ,H2,I2,vL,λb hb=>(f2 b hb).1,w0⟩
 rintro n s3 ⟨i,σ3,H3,I3,RU,Jr,w3⟩
 rcases cz i n σ3 H3 w3 with⟨stop,qn⟩|⟨go,N,hN,step⟩
 ·refine fu hp (dA (T.done X rfl rfl rfl hc i aj s3 σ3 H3 X.xe I3 (ni Jr) RU stop) λr s4 dJ=>?_)
  obtain⟨hr,I4⟩:=dJ
  subst hr
  exact km ⟨σ3,H3,I4,qn⟩
 ·refine fu hp (dA (T.item X rfl rfl rfl hc i aj s3 σ3 H3 X.xe I3 (ni Jr) RU go) λr s4 dJ=>?_)
  obtain⟨u,hr,h4⟩:=dJ
  subst hr
  refine fu hp (dA h4 λ_ s5 dJ=>?_)
  obtain⟨x,H5,I5,r5,y5,xD,AK⟩:=dJ
  have Wf:=I5.pinned (ni AK) (T.obj _ _ xD)
  refine fu hp (dA (hg _ s5 σ3 H5 x u _ Wf r5 (step x H5 y5)) λ_ s6 dJ=>?_)
  obtain⟨σ6,H6,I6,q6⟩:=dJ
  refine fu hp (dA (hb _ s6 σ6 H6 _ I6 q6) λf s7 q7=>?_)
  have again:∀{σ7:St} {H7:Hp},Inv X (aj++lN fp s5.heap) σ7 H7 s7->N σ7 H7->∃m,m<n/\∃i σ' H',Inv X aj σ' H' s7/\tn i s7.heap/\(∀b∈fp,H' b=none)/\W i m σ' H':=λ{σ7 H7} I7 n7=>by
   obtain⟨m',hm,w7⟩:=hN σ7 H7 n7
   refine⟨m',hm,i+1,σ7,H7,I7.unpinned,T.keep _ _ _ xD λb hb o e=>(I7.pin (b,o) (ay _ (ay _ (j8 hb e)))).1,λb hb=>?_,w7⟩
   obtain⟨o,e,d⟩:=T.obj _ _ xD b hb
   exact(I7.pin (b,o) (ay _ (ay _ (j8 hb e)))).2.1
  cases f with
  |next=>obtain⟨σ7,H7,I7,n7⟩:=q7;exact again I7 n7
  |cont=>obtain⟨σ7,H7,I7,n7⟩:=q7;exact again I7 n7
  |brk=>obtain⟨σ7,H7,I7,q7⟩:=q7;exact⟨σ7,H7,I7.unpinned,q7⟩
  |ret v=>obtain⟨x7,σ7,H7,I7,r7,q7⟩:=q7;exact⟨x7,σ7,H7,I7.unpinned,r7,q7⟩
end
end L2
namespace L2
open PySem PySem.Spec PyProof.Rows
abbrev R2:=V->V->Hp->VK->Prop
def hJ (X:Cx)(f:af->af->pw af)(r:R2):Prop :=
 ∀(aj:List (ah×dX)) (s:am) (σ:St) (H:Hp) (x y:V) (v u:af) (Q:VK),Inv X aj σ H s->RelV x v->RelV y u->r x y H Q ->
  bo (bj X.prog X.w) X.A (f v u) (EP X aj σ Q) X.xe s
def Je (X:Cx)(f:af->pw af)(r:V->Hp->VK->Prop):Prop :=
 ∀(aj:List (ah×dX)) (s:am) (σ:St) (H:Hp) (x:V) (v:af) (Q:VK),Inv X aj σ H s->RelV x v->r x H Q ->
  bo (bj X.prog X.w) X.A (f v) (EP X aj σ Q) X.xe s
def eP (X:Cx)(f:af)(r:List V->Hp->VK->Prop):Prop :=
 ∀(aj:List (ah×dX)) (s:am) (σ:St) (H:Hp) (xs:List V) (us:List af) (Q:VK),Inv X aj σ H s->bZ xs us->r xs H Q ->
  bo (bj X.prog X.w) X.A (call f us) (EP X aj σ Q) X.xe s
def JQ (r:R2)(ta tb:TE):TE:=λσ H Q=>ta σ H λx H1=>tb σ H1 λy H2=>r x y H2 Q
def tUn (r:V->Hp->VK->Prop)(ta:TE):TE:=λσ H Q=>ta σ H λx H1=>r x H1 Q
def rI (C:Int->Int->Prop)(g:Int->Int->V):R2:=λx y H Q=>∃i j,x=.int i/\y=.int j/\C i j/\Q (g i j) H
def p7 (g:Int->Int->V):R2:=λx y H Q=>∃i j,x=.int i/\y=.int j/\Q (g i j) H
def rU (g:Int->V):V->Hp->VK->Prop:=λx H Q=>∃i,x=.int i/\Q (g i) H
section
variable {X:Cx}{a b c:Expr}{ta tb tc:TE}{pos:dh}
theorem zL (ha:PE X a ta)(hb:PE X b tb){aj:List (ah×dX)}{s:am}{σ:St}{H:Hp}{R:V->V->Hp->Prop}(I:Inv X aj σ H s)
  (h:ta σ H λx H1=>tb σ H1 λy H2=>R x y H2) {Q:af->am->Prop} {f:af->af->pw af}
  (hf:∀v u s2 x y H2,Inv X aj σ H2 s2->RelV x v->RelV y u->R x y H2->bo (bj X.prog X.w) X.A (f v u) Q X.xe s2) :
  bo (bj X.prog X.w) X.A (bG a X.env) (λv s₁=>bo (bj X.prog X.w) X.A (bG b X.env) (λu s₂=>bo (bj X.prog X.w) X.A (f v u) Q X.xe s₂) X.xe s₁) X.xe s:=by
 refine dA (ha aj s σ H _ I h) λv s1 dJ=>?_
 obtain⟨x,H1,I1,r1,q1⟩:=dJ
 refine dA (hb aj s1 σ H1 _ I1 q1) λu s2 dJ=>?_
 obtain⟨y,H2,I2,r2,q2⟩:=dJ
 exact hf v u s2 x y H2 I2 r1 r2 q2
theorem PZ {op:jU}{r:R2}(ho:hJ X (eh op) r)(ha:PE X a ta)(hb:PE X b tb):PE X (.BinOp a op b pos) (JQ r ta tb):=by
 intro aj s σ H Q I h
 exact wpAny_BinOp (zL ha hb I h λv u s2 x y H2 I2 rx ry q=>ho aj s2 σ H2 x y v u Q I2 rx ry q)
theorem zw5 {op:UnaryOp}{r:V->Hp->VK->Prop}(ho:Je X (unaryOp op) r)(ha:PE X a ta):PE X (.UnaryOp op a pos) (tUn r ta):=by
 intro aj s σ H Q I h
 exact UnaryOp_ (dA (ha aj s σ H _ I h) λv s1 ⟨x,H1,I1,r1,q1⟩=>ho aj s1 σ H1 x v Q I1 r1 q1)
theorem Ck {f:af->af->pw af}{C:Int->Int->Prop}{g:Int->Int->Int}
  (rule:∀(i j:Int) (t u:Tok) (s:am) (Q:af->am->Prop) (E:af->am->Prop),C i j->Q (.int (g i j) s.toks) { s with toks:=s.toks+1 }->bo (bj X.prog X.w) X.A (f (.int i t) (.int j u)) Q E s) :
  hJ X f (rI C λi j=>.int (g i j)):=by
 intro aj s σ H x y v u Q I rx ry h
 obtain⟨i,j,rfl,rfl,hc,q⟩:=h
 obtain⟨t,rfl⟩:=rx
 obtain⟨t',rfl⟩:=ry
 exact rule i j t t' s _ _ hc ⟨.int (g i j),H,I.tok _,⟨_,rfl⟩,q⟩
theorem Hf {f:af->af->pw af}{g:Int->Int->Int}
  (rule:∀(i j:Int) (t u:Tok) (s:am) (Q:af->am->Prop) (E:af->am->Prop),Q (.int (g i j) s.toks) { s with toks:=s.toks+1 }->bo (bj X.prog X.w) X.A (f (.int i t) (.int j u)) Q E s) :
  hJ X f (p7 λi j=>.int (g i j)):=by
 intro aj s σ H x y v u Q I rx ry h
 obtain⟨i,j,rfl,rfl,q⟩:=h
 obtain⟨t,rfl⟩:=rx
 obtain⟨t',rfl⟩:=ry
 exact rule i j t t' s _ _ ⟨.int (g i j),H,I.tok _,⟨_,rfl⟩,q⟩
theorem wX {f:af->af->pw af}{g:Int->Int->Bool}
  (rule:∀(i j:Int) (t u:Tok) (s:am) (Q:af->am->Prop) (E:af->am->Prop),Q (.bool (g i j)) s->bo (bj X.prog X.w) X.A (f (.int i t) (.int j u)) Q E s) :
  hJ X f (p7 λi j=>.bl (g i j)):=by
 intro aj s σ H x y v u Q I rx ry h
 obtain⟨i,j,rfl,rfl,q⟩:=h
 obtain⟨t,rfl⟩:=rx
 obtain⟨t',rfl⟩:=ry
 exact rule i j t t' s _ _ ⟨.bl (g i j),H,I,rfl,q⟩
def vP (i j:Int):Prop:=0<=j/\j<=1000000/\i.natAbs<2 ^ 64
def zB (i j:Int):Prop:=(-(2 ^ 64)<i/\i<2 ^ 64)\/(-(2 ^ 64)<j/\j<2 ^ 64)
theorem zB.ok {i j:Int}(h:zB i j):IntMulOk i j:=by
 rcases h with⟨h1,h2⟩|⟨h1,h2⟩
 ·exact .of_left (intBits_le_64 h1 h2)
 ·exact .of_right (intBits_le_64 h1 h2)
theorem zk2 (k:Nat):(0:Int)<=2 ^ k:=by
 rw[two_pow_cast]
 exact Int.natCast_nonneg _
theorem zuu:hJ X (eh .Add) (p7 λi j=>.int (i+j)):=Hf λ_ _ _ _ _ _ _ q=>add_int q
theorem uP:hJ X (eh .Sub) (p7 λi j=>.int (i-j)):=Hf λ_ _ _ _ _ _ _ q=>sub_int q
theorem wp:hJ X (eh .Mod) (rI (λ_ j=>j≠0) λi j=>.int (i.fmod j)):=Ck λ_ _ _ _ _ _ _ hc q=>mod_int' hc q
theorem U3:hJ X (eh .Pow) (rI vP λi j=>.int (i ^ j.toNat)):=Ck λ_ _ _ _ _ _ _ hc q=>pow_int_small hc.1 hc.2.1 hc.2.2 q
theorem zuv:hJ X (eh .LShift) (rI vP λi j=>.int (i*2 ^ j.toNat)):=Ck λ_ _ _ _ _ _ _ hc q=>lshift_int_small hc.1 hc.2.1 hc.2.2 q
theorem U4:hJ X (eh .RShift) (rI (λ_ j=>0<=j) λi j=>.int (i/2 ^ j.toNat)):=Ck λi j _ _ _ _ _ hc q=>
 rshift_int hc (by rw[iA i (zk2 _)];exact q)
theorem unI {f:af->pw af}{g:Int->Int}
  (rule:∀(i:Int) (t:Tok) (s:am) (Q:af->am->Prop) (E:af->am->Prop),Q (.int (g i) s.toks) { s with toks:=s.toks+1 }->bo (bj X.prog X.w) X.A (f (.int i t)) Q E s) :
  Je X f (rU λi=>.int (g i)):=by
 intro aj s σ H x v Q I rx h
 obtain⟨i,rfl,q⟩:=h
 obtain⟨t,rfl⟩:=rx
 exact rule i t s _ _ ⟨.int (g i),H,I.tok _,⟨_,rfl⟩,q⟩
theorem zuw:Je X (unaryOp .USub) (rU λi=>.int (-i)):=unI λ_ _ _ _ _ q=>neg_int q
end
section
variable {X:Cx}{a b c:Expr}{ta tb tc:TE}{pos:dh}
theorem U5 {aj:List (ah×dX)}{σ:St}{H:Hp}{s:am}{Q:VK}{k k':Bool}(I:Inv X aj σ H s)(q:Q (.bl k) H)(e:k=k'):EP X aj σ Q (.bool k') s:=by
 subst e
 exact⟨.bl k,H,I,rfl,q⟩
theorem uU:hJ X (cW .Lt) (p7 λi j=>.bl (decide (i<j))):=wX λ_ _ _ _ _ _ _ q=>lt_int q
theorem zw6:hJ X (cW .LtE) (p7 λi j=>.bl (decide (i<=j))):=wX λ_ _ _ _ _ _ _ q=>le_int q
theorem BW:hJ X (cW .Gt) (p7 λi j=>.bl (decide (j<i))):=wX λ_ _ _ _ _ _ _ q=>gt_int q
theorem P0:hJ X (cW .GtE) (p7 λi j=>.bl (decide (j<=i))):=wX λ_ _ _ _ _ _ _ q=>ge_int q
theorem zux:hJ X (cW .Is) (λx y H Q=>y=.non/\Q (.bl (decide (x=.non))) H):=by
 intro aj s σ H x y v u Q I rx ry h
 obtain⟨rfl,q⟩:=h
 cases ry
 refine is_none_gen (U5 I q ?_)
 cases x<;>first
  |(cases rx;rfl)
  |(obtain⟨t,rfl⟩:=rx;rfl)
theorem hJ.or {f:af->af->pw af}{r r':R2}(h:hJ X f r)(h':hJ X f r'):hJ X f (λx y H Q=>r x y H Q\/r' x y H Q):=by
 intro aj s σ H x y v u Q I rx ry q
 rcases q with q|q
 ·exact h aj s σ H x y v u Q I rx ry q
 ·exact h' aj s σ H x y v u Q I rx ry q
theorem bB (b:Expr){op:mz}(h:op≠.In:=by decide)(h2:op≠.NotIn:=by decide):dG op b=false:=by
 have e1:(op==mz.In)=false:=by cases op<;>first|rfl|exact absurd rfl h
 have e2:(op==mz.NotIn)=false:=by cases op<;>first|rfl|exact absurd rfl h2
 cases b<;>simp[dG,e1,e2]
theorem zrw {op:mz}{r:R2}(ho:hJ X (cW op) r)(ha:PE X a ta)(hb:PE X b tb)(hm:dG op b=false):PE X (.Compare a [op] [b] pos) (JQ r ta tb):=by
 intro aj s σ H Q I h
 exact wpAny_Compare1 (zL ha hb I h λv u s2 x y H2 I2 rx ry q=>ho aj s2 σ H2 x y v u Q I2 rx ry q) hm
def IE (t:TE):TT:=λσ H Q=>t σ H λx H'=>∃k,x=.bl k/\Q k H'
theorem zrx {op:mz}{r:R2}(ho:hJ X (cW op) r)(ha:PE X a ta)(hb:PE X b tb)(hm:dG op b=false):PT X (.Compare a [op] [b] pos) (IE (JQ r ta tb)):=by
 intro aj s σ H Q I h
 refine wpAny_isTrue_Compare1 (dA (ha aj s σ H _ I h) λv s1 ⟨x,H1,I1,r1,q1⟩=>dA (hb aj s1 σ H1 _ I1 q1) λu s2 ⟨y,H2,I2,r2,q2⟩=>
  dA (ho aj s2 σ H2 x y v u _ I2 r1 r2 q2) λc s3 ⟨z,H3,I3,r3,k,e,q3⟩=>?_) hm
 subst e
 cases r3
 exact fE ⟨H3,I3,q3⟩
theorem kx:(sizeLine:Nat)<2 ^ 63:=by rw[cO];decide
theorem zk3:hJ X (eh .Add) (λx y H Q=>∃i j,x=.str i/\y=.str j/\i.length+j.length<=sizeLine/\Q (.str (i++j)) H):=by
 intro aj s σ H x y v u Q I rx ry h
 obtain⟨i,j,rfl,rfl,hz,q⟩:=h
 obtain⟨t,rfl⟩:=rx
 obtain⟨t',rfl⟩:=ry
 exact add_str (λt' tk=>⟨.str (i++j),H,I.tok _,⟨_,rfl⟩,q⟩) hz
theorem nj {x:V}{us:List af}(r:bZ [x] us):∃u,us=[u]/\RelV x u:=by
 cases r with
 |cons r1 r2=>cases r2;exact⟨_,rfl,r1⟩
theorem vals2 {x y:V}{us:List af}(r:bZ [x,y] us):∃u w',us=[u,w']/\RelV x u/\RelV y w':=by
 cases r with
 |cons r1 r2=>
  cases r2 with
  |cons r3 r4=>cases r4;exact⟨_,_,rfl,r1,r3⟩
theorem zow:eP X (.builtin "abs") (λxs H Q=>∃i,xs=[.int i]/\Q (.int (if i<0 then -i else i)) H):=by
 intro aj s σ H xs us Q I r h
 obtain⟨i,rfl,q⟩:=h
 obtain⟨u,rfl,t,rfl⟩:=nj r
 exact call_abs_int λu tk=>⟨.int (if i<0 then -i else i),H,I.tok _,⟨_,rfl⟩,q⟩
theorem zl5 (hc:X.calm=true):eP X (.builtin "max") (λxs H Q=>∃i j,xs=[.int i,.int j]/\Q (.int (if j > i then j else i)) H):=by
 intro aj s σ H xs us Q I r h
 obtain⟨i,j,rfl,q⟩:=h
 obtain⟨u,w',rfl,⟨t,rfl⟩,⟨t',rfl⟩⟩:=vals2 r
 refine max_two_ints (I.ok.hd hc) λh' tk k=>⟨_,H,I.kept k,?_,q⟩
 by_cases hj:j > i
 ·rw[if_pos hj,if_pos hj];exact⟨_,rfl⟩
 ·rw[if_neg hj,if_neg hj];exact⟨_,rfl⟩
theorem zhc:eP X (.type "str") (λxs H Q=>∃i,xs=[.int i]/\i.natAbs.log2<1920/\Q (.str (toString i)) H):=by
 intro aj s σ H xs us Q I r h
 obtain⟨i,rfl,hz,q⟩:=h
 obtain⟨u,rfl,t,rfl⟩:=nj r
 exact PySem.P.str_of_int hz ⟨.str _,H,I.tok _,⟨_,rfl⟩,q⟩
end
end L2
namespace L2
open PySem PySem.Spec PyProof.Rows
structure qO (h:aZ)(x dx C:ah)(mA:aU->Option af):Prop where
 obj:h.get? x=some (d7 C dx)
 ns:h.Ns1 dx mA
 ne:dx≠x
theorem zl6 {h:aZ}{dx:ah}{mA:aU->Option af}(n:h.Ns1 dx mA):∃od,h.get? dx=some od/\∀name,jJ name od=some (mA name):=by
 obtain⟨o,es,ep,ho,hd,hk,_,hm⟩:=n
 refine⟨o,ho,λname=>?_⟩
 have e:=hm name
 unfold nsFind findBy at e
 rw[←Array.find?_toList]at e
 unfold jJ
 rw[hd]
 dsimp only
 split
 ·rename_i y q
  rw[q]at e
  exact congrArg some e
 ·rename_i q
  rw[q]at e
  have a:es.toList.any (·.refKey)=false:=by
   rw[List.any_eq_false]
   intro y hy
   obtain⟨z,t,M9⟩:=hk y (Array.mem_toList_iff.mp hy)
   simp[DictEntry.refKey,M9]
  have a':¬es.toList.any (·.refKey)=true:=by rw[a];exact aW
  rw[if_neg a']
  exact congrArg some e
theorem qO.look {h:aZ}{x dx C:ah}{mA:aU->Option af}(I:qO h x dx C mA):∃od,PySem.W.InstAt h x (d7 C dx) C (some od)/\∀name,jJ name od=some (mA name) :=
 let⟨od,ho,hl⟩:=zl6 I.ns
 ⟨od,⟨I.obj,rfl,rfl,ho⟩,hl⟩
section
variable {prog:bz}{w:ce}{A:bX}{E:af->am->Prop}{s:am}{K:ae}{x dx C f:ah}{mA:aU->Option af}{name:aU}{v:af}
theorem zry {expr:Bool}{Q:af->am->Prop}(X:K.In s.heap)(I:qO s.heap x dx C mA)(hg:dm K C name=true)(hh:dC K C=true)
  (ha:aE K (.ref C) name=some none) (hv:mA name=some v) (Nk:rC v=true) (h:Q v { s with toks:=s.toks+1 }) :
  bo (bj prog w) A (getAttr (.ref x) name expr) Q E s:=by
 obtain⟨od,J,hl⟩:=I.look
 exact PySem.W.get_value X J (jW hg).1 (PySem.W.findObj_own hh ha rfl (by rw[hl,hv])) Nk h
theorem zox {pl:pw Bool}{Q:af×List af->am->Prop}(X:K.In s.heap)(I:qO s.heap x dx C mA)(hg:dm K C name=true)
  (hf:aE K (.ref C) name=some (some (.ref f))) (ht:dN K (.ref f)=true) (hv:mA name=none) (h:Q (.ref f,[.ref x]) s) :
  bo (bj prog w) A (ig (.ref x) name pl) Q E s:=by
 obtain⟨od,J,hl⟩:=I.look
 exact PySem.W.method_fn X J (jW hg).1 (jW hg).2 hf (beq_iff_eq.mp ht) (by show(jJ name od).map (·.isSome)=some false;rw[hl,hv];rfl) h
theorem zrz {ns:List aU}{Q:Unit->am->Prop}(X:K.In s.heap)(I:qO s.heap x dx C mA)
  (hs:aE K (.ref C) "__setattr__"=some (some (.builtin "object.__setattr__"))) (hp:d9 K C=true) (ht:lX K C name=some none) (hh:dC K C=true)
  (hw:PySem.Within mA ns) (hsz:ns.length<=sizeLine)
  (h:∀h',qO h' x dx C (λy=>if y=name then some v else mA y)->ik dx s.heap h'->Q () { s with heap:=h',toks:=s.toks+2 }) :
  bo (bj prog w) A (setAttr (.ref x) name v) Q E s:=by
 obtain⟨od,J,hl⟩:=I.look
 refine PySem.W.set_plain X J hs (PySem.W.osa_open (s:={ s with toks:=s.toks+1 }) (r:=none) X J hp ht λb=>?_)
 obtain⟨cd,hc,FD⟩:=PySem.W.any_some hh
 have hx:s.heap.get? x=some ⟨.ref C,some dx,.plain,#[]⟩:=I.obj
 refine ba (cx (ba (ba (wpAny_loadPart hx (ba (PySem.W.Looks.here (s:={ s with toks:=s.toks+1 }) (PySem.W.looks_clsIn X hc) ?_))))))
 rw[FD]
 refine cx (a:=some dx) (ba (cx (ba ?_)))
 refine wpAny_nsSet1 (s:={ s with toks:=s.toks+1 }) I.ns λh' t7 ml=>?_
 obtain⟨oD,esD,epD,X4,XD,Xz⟩:=t7.count (PySem.Within.cons name v hw)
 refine ba (wpAny_lookBehind X4 (by rw[XD];exact pastItsLine_dict (cD Xz (by rw[aO];omega))) ?_)
 exact cx (h _ ⟨(ml.2 _ (Ne.symm I.ne)).trans I.obj,t7,I.ne⟩ ml)
theorem zoy {R:Result->am->Prop}{vs:List af}{kw:List (aU×af)}(X:K.In s.heap)(hm:d8 K C=true)
  (hi:aE K (.ref C) "__init__"=some (some (.ref f))) (hf:PySem.W.typeIn K (.ref f)=some (.type "function"))
  (h:gP (bj prog w) (A.under (.builtin "type.__call__" ⟨.ref C::vs,kw⟩)) (.call (.ref f) ⟨.ref (s.heap.objs.size+1)::vs,kw⟩) (PySem.W.InitBack (s.heap.objs.size+1) R)
   { s with heap:=(s.heap.push df).push (d7 C s.heap.objs.size) }) :
  gP (bj prog w) A (.call (.ref C) ⟨vs,kw⟩) R s:=by
 obtain⟨hh,g,d,t,os⟩:=s
 exact PySem.W.make_core (PySem.W.makes_of X hm) (PySem.W.looks_findIn X hi) (λself=>PySem.W.bind_fn X self hf) (.inl rfl) h
end
def jG (f:aU)(v:V):List (aU×V)->List (aU×V)
 |[]=>[(f,v)]
 |(g,x)::r=>if g=f then(g,v)::r else(g,x)::jG f v r
theorem SA (f g:aU)(v:V):∀fs:List (aU×V),(jG f v fs).lookup g=if g=f then some v else fs.lookup g
 |[]=>by
  show gS g [(f,v)]=_
  by_cases h:g=f
  ·have hb:(g==f)=true:=beq_iff_eq.mpr h
   simp only[gS,hb,if_pos h]
  ·have hb:(g==f)=false:=beq_eq_false_iff_ne.mpr h
   simp only[gS,hb,if_neg h]
 |(k,x)::r=>by
  have ih:=SA f g v r
  rw[show jG f v ((k,x)::r)=(if k=f then(k,v)::r else(k,x)::jG f v r)from rfl]
  by_cases hk:k=f
  ·rw[if_pos hk]
   by_cases h:g=k
   ·have hb:(g==k)=true:=beq_iff_eq.mpr h
    simp only[gS,hb,if_pos (h.trans hk)]
   ·have hb:(g==k)=false:=beq_eq_false_iff_ne.mpr h
    simp only[gS,hb,if_neg (λe:g=f=>h (e.trans hk.symm))]
  ·rw[if_neg hk]
   by_cases h:g=k
   ·have hb:(g==k)=true:=beq_iff_eq.mpr h
    simp only[gS,hb,if_neg (λe:g=f=>hk (h.symm.trans e))]
   ·have hb:(g==k)=false:=beq_eq_false_iff_ne.mpr h
    simp only[gS,hb]
    exact ih
theorem Ot (f:aU)(v:V):∀fs:List (aU×V),f∈(jG f v fs).map (·.1)/\∀g,g∈fs.map (·.1)->g∈(jG f v fs).map (·.1)
 |[]=>⟨by simp[jG],λg h=>by simp at h⟩
 |(k,x)::r=>by
  obtain⟨i1,i2⟩:=Ot f v r
  rw[show jG f v ((k,x)::r)=(if k=f then(k,v)::r else(k,x)::jG f v r)from rfl]
  by_cases hk:k=f
  ·rw[if_pos hk]
   subst hk
   exact⟨by simp,λg h=>by simpa using h⟩
  ·rw[if_neg hk]
   refine⟨?_,λg h=>?_⟩
   ·rw[aR]
    exact ai _ i1
   ·rw[aR]at h ⊢
    rcases aA.mp h with e|e
    ·exact aA.mpr (.inl e)
    ·exact ai _ (i2 g e)
theorem SC (f:aU)(v:V):∀fs:List (aU×V),(jG f v fs).length<=fs.length+1
 |[]=>by simp[jG]
 |(k,x)::r=>by
  have ih:=SC f v r
  rw[show jG f v ((k,x)::r)=(if k=f then(k,v)::r else(k,x)::jG f v r)from rfl]
  by_cases hk:k=f
  ·rw[if_pos hk,aO,aO];omega
  ·rw[if_neg hk,aO,aO];omega
theorem jD.some_of {v:V}{o:Option af}(r:jD (some v) o):∃u,o=some u/\RelV v u:=by
 cases o with
 |none=>exact(show False from r).elim
 |some u=>exact⟨u,rfl,r⟩
theorem jD.none_of {o:Option af}(r:jD none o):o=none:=by
 cases o with
 |none=>rfl
 |some u=>exact(show False from r).elim
theorem zl7 {v:V}{u:af}(r:RelV v u):rC u=true:=by
 cases v with
 |non=>cases(show u=af.none from r);rfl
 |bl b=>cases(show u=af.bool b from r);rfl
 |int i=>obtain⟨t,e⟩:=(show∃t,u=af.int i t from r);cases e;rfl
 |str x=>obtain⟨t,e⟩:=(show∃t,u=af.str x t from r);cases e;rfl
 |byt b=>obtain⟨t,e⟩:=(show∃t,u=af.bytes b t from r);cases e;rfl
 |flt b=>obtain⟨t,e⟩:=(show∃t,u=af.float b t from r);cases e;rfl
 |ref a=>cases(show u=af.ref a from r);rfl
 |ty n=>cases(show u=af.type n from r);rfl
section
variable {P:bz}{w:ce}{H H':Hp}{h h':aZ}{a C dx:ah}{fs Xa:List (aU×V)}
theorem KE (hok:kC P w H h)(e:H a=some (.ins C dx fs)):∃mA,qO h a dx C mA/\(∀f,jD (fs.lookup f) (mA f))/\PySem.Within mA (fs.map (·.1))/\fs.length<=1000/\H dx=some (.own a):=by
 obtain⟨d,z,ne,ob,mA,n,r,q⟩:=(show d6 P w H h a (.ins C dx fs)from hok a _ e)
 exact⟨mA,⟨ob,n,ne⟩,r,q,z,d⟩
end
structure lf (K:ae)(C:ah):Prop where
 pg:dm K C aU.empty=true
 hd:dC K C=true
 po:d9 K C=true
 sa:aE K (.ref C) "__setattr__"=some (some (.builtin "object.__setattr__"))
theorem lf.get {K:ae}{C:ah}(c:lf K C)(f:aU):dm K C f=true:=c.pg
def fZ (K:ae)(C:ah)(f:aU):Prop:=aE K (.ref C) f=some none
theorem fZ.taker {K:ae}{C:ah}{f:aU}(n:fZ K C f):lX K C f=some none:=by
 unfold lX
 rw[show aE K (.ref C) f=some none from n]
 rfl
structure qN (K:ae)(C:ah)(m:aU)(f:ah):Prop where
 at_:aE K (.ref C) m=some (some (.ref f))
 fn:dN K (.ref f)=true
 kp:ak K (.ref f)=true
section
variable {X:Cx}{aj:List (ah×dX)}{σ:St}{H:Hp}{s:am}{a C dx:ah}{fs:List (aU×V)}{f:aU}{v:V}{A:bX}{E:af->am->Prop}
theorem zk4 {b:Bool}{Q:af->am->Prop}(I:Inv X aj σ H s)(e:H a=some (.ins C dx fs))(c:lf X.K C)(n:fZ X.K C f)(l:fs.lookup f=some v)
  (h:∀u s',Inv X aj σ H s'->RelV v u->Q u s'):bo (bj X.prog X.w) A (getAttr (.ref a) f b) Q E s:=by
 obtain⟨mA,O,r,_,_,_⟩:=KE I.hok e
 obtain⟨u,hu,ru⟩:=jD.some_of (v:=v) (o:=mA f) (by rw[←l];exact r f)
 exact zry I.kIn O (c.get f) c.hd n hu (zl7 ru) (h u _ (I.tok _) ru)
theorem Om {m:aU}{g:ah}{pl:pw Bool}{Q:af×List af->am->Prop}(I:Inv X aj σ H s)(e:H a=some (.ins C dx fs))(c:lf X.K C)(k:qN X.K C m g)(l:fs.lookup m=none)
  (h:Q (.ref g,[.ref a]) s):bo (bj X.prog X.w) A (ig (.ref a) m pl) Q E s:=by
 obtain⟨mA,O,r,_,_,_⟩:=KE I.hok e
 have hn:mA m=none:=jD.none_of (by rw[←l];exact r m)
 exact zox I.kIn O (c.get m) k.at_ k.fn hn h
theorem zk5 {y:V}{u:af}{Q:Unit->am->Prop}(I:Inv X aj σ H s)(e:H a=some (.ins C dx fs))(c:lf X.K C)(n:fZ X.K C f)(hl:fs.length<1000)(ry:RelV y u)
  (h:∀s',Inv X aj σ (upd H a (.ins C dx (jG f y fs))) s'->Q () s'):bo (bj X.prog X.w) A (setAttr (.ref a) f u) Q E s:=by
 obtain⟨mA,O,r,wi,_,ho⟩:=KE I.hok e
 have hz:(fs.map (·.1)).length<=sizeLine:=by rw[aB,cO];omega
 refine zrz I.kIn O c.sa c.po n.taker c.hd wi hz λh' O' sb=>h _ ?_
 have hd:∃o,h'.get? dx=some o:=let⟨o,_,_,e',_⟩:=O'.ns;⟨o,e'⟩
 refine I.write (x:=a) (e:=dx) (by rw[e];exact True.intro) (.inr ho) (λb q hb z=>(sb.2 b hb).trans z) hd ?_
 refine⟨by rw[yo O.ne];exact ho,?_,O.ne,O'.obj,_,O'.ns,λg=>?_,λg hg=>?_⟩
 ·have:=SC f y fs;omega
 ·show jD ((jG f y fs).lookup g) (if g=f then some u else mA g)
  rw[SA]
  by_cases q:g=f
  ·rw[if_pos q,if_pos q];exact ry
  ·rw[if_neg q,if_neg q];exact r g
 ·by_cases q:g=f
  ·rw[q];exact(Ot f y fs).1
  ·refine(Ot f y fs).2 g (wi g λz=>hg ?_)
   show(if g=f then some u else mA g)=none
   rw[if_neg q];exact z
theorem Inv.made (I:Inv X aj σ H s):Inv X aj σ (upd (upd H s.heap.objs.size (.own (s.heap.objs.size+1))) (s.heap.objs.size+1) (.ins C s.heap.objs.size []))
  { s with heap:=(s.heap.push df).push (d7 C s.heap.objs.size) }:=by
 have e1:(s.heap.push df).get? s.heap.objs.size=some df:=bF s.heap rfl
 have e2:((s.heap.push df).push (d7 C s.heap.objs.size)).get? (s.heap.objs.size+1)=some (d7 C s.heap.objs.size):=by
  have:=bF (s.heap.push df) (o:=d7 C s.heap.objs.size) rfl
  rwa[gc]at this
 have e3:(s.heap.push df).Ns s.heap.objs.size (λ_=>none):=⟨df,#[],_,e1,rfl,(λe he=>absurd he (by simp)),λ_=>rfl⟩
 have I1:=I.laid (a:=s.heap.objs.size) (o:=.own (s.heap.objs.size+1)) (h':=s.heap.push df) (t':=s.toks) (λb u q=>aH _ q) (aF _) ⟨_,e1⟩
 refine I1.laid (a:=s.heap.objs.size+1) (o:=.ins C s.heap.objs.size []) (t':=s.toks) (λb u q=>aH _ q) (Nat.le_of_eq (gc _ _)) ?_
 have ne:s.heap.objs.size≠s.heap.objs.size+1:=br (i9 _)
 refine⟨by rw[yo ne,yx],cQ _,ne,e2,λ_=>none,(aZ.Ns1.of_empty e3).at λo q=>aH _ q,λ_=>True.intro,λy hy=>absurd rfl hy⟩
theorem zr0 {prog:bz}{w:ce}{env:Env}{e:Expr}{f:aU}{pos:dh}{s:am}{Q:af->am->Prop}(hb:eJ e f env (bG e env)=bG e env)
  (h:bo (bj prog w) A (bG e env) (λo s₁=>bo (bj prog w) A (getAttr o f true) Q E s₁) E s):bo (bj prog w) A (bG (.Attribute e f pos) env) Q E s :=
 Attribute_any_ h (by rw[arm_eval_Attribute,hb])
end
def NU (K:ae)(ta:TE)(f:aU):TE:=λσ H Q=>ta σ H λx H1=>∃a C dx fs v,x=.ref a/\H1 a=some (.ins C dx fs)/\lf K C/\fZ K C f/\fs.lookup f=some v/\Q v H1
def NP (K:ae)(ta tv:TE)(f:aU):TS:=λD σ H=>tv σ H λy H1=>ta σ H1 λx H2=>∃a C dx fs,x=.ref a/\H2 a=some (.ins C dx fs)/\lf K C/\fZ K C f/\fs.length<1000 /\
 D.nx σ (upd H2 a (.ins C dx (jG f y fs)))
section
variable {X:Cx}{o e value:Expr}{f:aU}{pos pos' gE:dh}{ta tv:TE}
theorem zuy (he:PE X e ta)(hb:eJ e f X.env (bG e X.env)=bG e X.env):PE X (.Attribute e f pos) (NU X.K ta f):=by
 intro aj s σ H Q I h
 refine zr0 hb (dA (he aj s σ H _ I h) λu s1 dJ=>?_)
 obtain⟨x,H1,I1,rx,a,C,dx,fs,v,ex,ea,c,n,l,q⟩:=dJ
 subst ex
 obtain rfl:u=af.ref a:=rx
 exact zk4 I1 ea c n l λu' s2 I2 ru=>⟨v,H1,I2,ru,q⟩
theorem zuz (ha:PE X o ta)(hv:PE X value tv)(hs:dR value (some (.Attribute o f pos')) pos.line X.env=pure false):PS X (.Assign [.Attribute o f pos'] value pos) (NP X.K ta tv f):=by
 intro aj s σ H D I h
 refine plainObj_wpAny_Assign_Attribute (dA (hv aj s σ H _ I h) λu s1 ⟨y,H1,I1,ry,q⟩=>dA (ha aj s1 σ H1 _ I1 q) λov s2 ⟨x,H2,I2,rx,a,C,dx,fs,ex,ea,c,n,l,q2⟩=>?_) hs
 subst ex
 obtain rfl:ov=af.ref a:=rx
 exact zk5 I2 ea c n l ry λs3 I3=>⟨σ,_,I3,q2⟩
def Bx:V->V->Hp->VK->Prop:=λx y H Q=>∃i j,x=.int i/\y=.int j/\Q (.int (i+j)) H
theorem zr1 {pl:pw Bool}{m:aU}{dF:dh}{args:List Expr}{aj:List (ah×dX)}{s:am}{σ:St}{H:Hp}{Q:af->am->Prop}{te:TE}(he:PE X e te)(I:Inv X aj σ H s)
  (h:te σ H λx H1=>∃a C dx fs g,x=.ref a/\H1 a=some (.ins C dx fs)/\lf X.K C/\qN X.K C m g/\fs.lookup m=none /\
   ∀s1,Inv X aj σ H1 s1->bo (bj X.prog X.w) X.A (jV pos (.ref g) [.ref a] (cE pos (ar args X.env)) (fq pos (dw [] X.env))) Q X.xe s1)
  (ht:bG (.Call (.Attribute e m dF) args [] pos) X.env=(do
   let ov ← bG e X.env
   ip dF.atName
   let(f,first) ← ek [ov] (ig ov m pl)
   jV pos f first (cE pos (ar args X.env)) (fq pos (dw [] X.env)))) :
  bo (bj X.prog X.w) X.A (bG (.Call (.Attribute e m dF) args [] pos) X.env) Q X.xe s:=by
 refine gj (pl:=pl) (dA (he aj s σ H _ I h) λu s1 ⟨x,H1,I1,rx,a,C,dx,fs,g,ex,ea,c,k,l,q⟩=>?_) ht
 subst ex
 obtain rfl:u=af.ref a:=rx
 exact Om I1 ea c k l (q s1 I1)
end
section
variable {X:Cx}{aj:List (ah×dX)}{σ:St}{H:Hp}{s:am}{A:bX}{E:af->am->Prop}{Q:af->am->Prop}{c:af}{b:Bool}
inductive kr (K:ae)(H:Hp):V->af->Prop where
 |non:kr K H .non (.type "NoneType")
 |bl (x:Bool):kr K H (.bl x) (.type "bool")
 |int (i:Int):kr K H (.int i) (.type "int")
 |str (x:aU):kr K H (.str x) (.type "str")
 |flt (x:UInt64):kr K H (.flt x) (.type "float")
 |lst {a:ah} {xs:List V} (e:H a=some (.lst xs)):kr K H (.ref a) (.type "list")
 |frz {a:ah} {o:dX} {xs:List V} (e:H a=some (.frz o (.lst xs))):kr K H (.ref a) (.type "list")
 |tup {a:ah} {xs:List V} (e:H a=some (.tup xs)):kr K H (.ref a) (.type "tuple")
 |dK {a:ah} {cF:List (fw×V)} (e:H a=some (.dK cF)):kr K H (.ref a) (.type "dict")
 |dT {a:ah} {cF:List (List fw×V)} (e:H a=some (.dT cF)):kr K H (.ref a) (.type "dict")
 |ins {a C dx:ah} {fs:List (aU×V)} (e:H a=some (.ins C dx fs)) (cl:lf K C) (ha:aE K (.ref C) "__class__"=some (some (.builtin "object.__class__")))
   (hn:ed K (.builtin "object.__class__") "__get__"=some (some (.builtin "getset_descriptor.__get__"))) (Rc:lY K (.builtin "object.__class__")=some true)
   (hm:fH K C (.type "object")=some true):kr K H (.ref a) (.ref C)
theorem Tb {x:V}{u t:af}(I:Inv X aj σ H s)(rx:RelV x u)(ty:kr X.K H x t)(e:bV X.K t c=some b)(h:∀tk,Q (.bool b) { s with toks:=tk }) :
  bo (bj X.prog X.w) A (call (.builtin "isinstance") [u,c]) Q E s:=by
 cases ty with
 |non=>cases(show u=af.none from rx);exact cL PySem.W.kitx_none I.kIn True.intro e (λz=>nomatch z) h
 |bl y=>cases(show u=af.bool y from rx);exact cL PySem.W.kitx_bool I.kIn True.intro e (λz=>nomatch z) h
 |int i=>obtain⟨t,q⟩:=(show∃t,u=af.int i t from rx);cases q;exact cL PySem.W.kitx_int I.kIn True.intro e (λz=>nomatch z) h
 |str y=>obtain⟨t,q⟩:=(show∃t,u=af.str y t from rx);cases q;exact cL PySem.W.kitx_str I.kIn True.intro e (λz=>nomatch z) h
 |flt y=>obtain⟨t,q⟩:=(show∃t,u=af.float y t from rx);cases q;exact cL PySem.W.kitx_float I.kIn True.intro e (λz=>nomatch z) h
 |@lst a xs ea=>
  cases(show u=af.ref a from rx)
  obtain⟨_,_,n,_,h1⟩:=(show d6 X.prog X.w H s.heap a (.lst xs)from I.hok a _ ea)
  exact cL kA I.kIn ⟨_,h1,rfl⟩ e (λz=>nomatch z) h
 |@frz a ob xs ea=>
  cases(show u=af.ref a from rx)
  obtain⟨_,_,_,n,_,h1⟩:=(show d6 X.prog X.w H s.heap a (.frz ob (.lst xs))from I.hok a _ ea)
  exact cL kA I.kIn ⟨_,h1,rfl⟩ e (λz=>nomatch z) h
 |@tup a xs ea=>
  cases(show u=af.ref a from rx)
  obtain⟨_,_,_,p⟩:=(show d6 X.prog X.w H s.heap a (.tup xs)from I.hok a _ ea)
  obtain⟨o,h1,h2,_⟩:=p
  exact cL PySem.W.kitx_tuple I.kIn ⟨o,h1,h2⟩ e (λz=>nomatch z) h
 |@dK a cF ea=>
  cases(show u=af.ref a from rx)
  obtain⟨_,_,vs,_,p⟩:=(show d6 X.prog X.w H s.heap a (.dK cF)from I.hok a _ ea)
  obtain⟨o,es,ep,h1,h2,_⟩:=p
  exact cL qE I.kIn ⟨o,h1,h2.1⟩ e (λz=>nomatch z) h
 |@dT a cF ea=>
  cases(show u=af.ref a from rx)
  obtain⟨_,_,xs,_,o,es,ep,h1,h2,_⟩:=(show d6 X.prog X.w H s.heap a (.dT cF)from I.hok a _ ea)
  exact cL qE I.kIn ⟨o,h1,h2.1⟩ e (λz=>nomatch z) h
 |@ins a C dx fs ea cl ha hn Rc hm=>
  cases(show u=af.ref a from rx)
  obtain⟨mA,O,_⟩:=KE I.hok ea
  obtain⟨od,J,_⟩:=O.look
  exact cL (PySem.W.kitx_own (cl.get _) cl.hd ha hn Rc hm) I.kIn J e (λz=>nomatch z) h
end
end L2
namespace L2
open PySem PySem.Spec PyProof.Rows
structure eM (k:Nat)(A:bX):Prop where
 hd:A.handled=none
 dp:A.depth+3*k+5<recursionLimit
 un:A.units+16*k+200<gz
theorem eM.mono {j k:Nat}{A:bX}(r:eM k A)(h:j<=k):eM j A:=⟨r.hd,by have:=r.dp;omega,by have:=r.un;omega⟩
theorem eM.deeper {k:Nat}{A:bX}(r:eM (k+1) A)(env:Env):eM k (A.deeper env) :=
 ⟨r.hd,by have:=r.dp;show A.depth+1+3*k+5<_;omega,by have:=r.un;show A.units+3+16*k+200<_;omega⟩
theorem zk6 {A:bX}{C:ah}{us:List af}{kw:List (aU×af)}:(A.under (.builtin "type.__call__" ⟨.ref C::us,kw⟩)).depth=A.depth+1:=by
 first|rfl|simp[bX.under,rA.weight,rA.isCreation,rA.isGuard,rA.isCaller,rA.frames,rA.isFrame,guardIds]
theorem zk7 {A:bX}{C:ah}{us:List af}{kw:List (aU×af)}:(A.under (.builtin "type.__call__" ⟨.ref C::us,kw⟩)).units=A.units+1:=by
 first|rfl|simp[bX.under,rA.cUnits,rA.frames,rA.isFrame]
theorem eM.make {k:Nat}{A:bX}(r:eM (k+1) A)(C:ah)(us:List af)(kw:List (aU×af)):eM k (A.under (.builtin "type.__call__" ⟨.ref C::us,kw⟩)) :=
 ⟨r.hd,by have:=r.dp;rw[zk6];omega,by have:=r.un;rw[zk7];omega⟩
theorem eM.depth {k:Nat}{A:bX}(r:eM k A):A.depth<recursionLimit:=by have:=r.dp;omega
theorem eM.units {k:Nat}{A:bX}(r:eM k A):A.units+64<gz:=by have:=r.un;omega
def IC:TA:=λ_ H Q=>Q [] H
def Iu (ta:TE)(tr:TA):TA:=λσ H Q=>ta σ H λx H1=>tr σ H1 λxs H2=>Q (x::xs) H2
section
variable {X:Cx}{e:Expr}{es:List Expr}{te:TE}{t:TA}{pos:dh}
theorem uQ:PA X [] IC:=λ_ _ _ _ H Q I h=>Calls.spliced_nil ⟨[],H,I,.nil,h⟩
theorem ub (ha:PE X e te)(hr:PA X es t)(hs:ar (e::es) X.env=(false,bG e X.env)::ar es X.env:=by rfl):PA X (e::es) (Iu te t):=by
 intro pos aj s σ H Q I h
 rw[hs]
 show bo _ _ (spliced ((false,bG e X.env)::cE pos (ar es X.env))) _ _ s
 refine Calls.spliced_cons (dA (ha aj s σ H _ I h) λu s1 dJ=>?_)
 obtain⟨x,H1,I1,r1,q1⟩:=dJ
 exact dA (hr pos aj s1 σ H1 _ I1 q1) λus s2 ⟨xs,H2,I2,r2,q2⟩=>⟨x::xs,H2,I2,.cons r1 r2,q2⟩
def N3 (t:TA):TE:=λσ H Q=>t σ H λxs H1=>xs.length<=sizeLine/\∀p,H1 p=none->Q (.ref p) (upd H1 p (.tup xs))
def NX (t:TA):TE:=λσ H Q=>t σ H λxs H1=>xs.length<=sizeLine/\∀p,H1 p=none->Q (.ref p) (upd H1 p (.lst xs))
theorem zu0 {x1}(h:PA X es t):PE X (.Tuple es x1 pos) (N3 t):=by
 intro aj s σ H Q I hq
 refine wpAny_Tuple_spliced (dA (h pos aj s σ H _ I hq) λus s1 ⟨xs,H1,I1,r,z,q⟩=>⟨by rw[←r.length];exact z,?_⟩)
 have hf:H1 s1.heap.objs.size=none:=I1.hok.fresh (aF _)
 refine⟨.ref s1.heap.objs.size,upd H1 s1.heap.objs.size (.tup xs),I1.laid (t':=s1.toks) (λb u e=>aH _ e) (aF _) ?_,rfl,q _ hf⟩
 exact⟨z,us,r,⟨_,bF _ rfl,rfl,_,rfl⟩⟩
theorem zu1 (h:PA X es t):PE X (.List es pos) (NX t):=by
 intro aj s σ H Q I hq
 refine wpAny_List_spliced (dA (h pos aj s σ H _ I hq) λus s1 ⟨xs,H1,I1,r,z,q⟩=>⟨by rw[←r.length];exact z,?_⟩)
 have hf:H1 s1.heap.objs.size=none:=I1.hok.fresh (aF _)
 refine⟨.ref s1.heap.objs.size,upd H1 s1.heap.objs.size (.lst xs),I1.laid (t':=s1.toks) (λb u e=>aH _ e) (aF _) ?_,rfl,q _ hf⟩
 exact⟨z,us,0,r,bF _ rfl⟩
end
abbrev Sp:=List V->Hp->VK->XK->Prop
abbrev sX:=List Env->Hp->am->XK->af->am->Prop
structure qF (P:bz)(w:ce)(K:ae)(mg:aU->Option af)(base:aZ)(A:bX)(outer:List Env)(s:am)(H:Hp):Prop where
 frames:A.frames=some outer
 mod:Mod K mg base
 bs:∀b o,base.get? b=some o->s.heap.get? b=some o/\H b=none
 bsz:base.objs.size<=s.heap.objs.size
 funs:s.heap.FunFrames base outer
 frf:∀b∈tV outer,H b=none
 hok:kC P w H s.heap
 bare:AllBare s.gens
def CE (outer:List Env)(P:bz)(w:ce)(H:Hp)(s:am)(Q:VK)(u:af)(s':am):Prop :=
 ∃v H',s'.os=s.os/\AllBare s'.gens/\Un (tV outer) [] H H' s.heap s'.heap/\kC P w H' s'.heap/\RelV v u/\Q v H'
def CR (CX:sX)(outer:List Env)(P:bz)(w:ce)(H:Hp)(s:am)(Q:VK)(E:XK)(r:Result)(s':am):Prop :=
 match r with
 |.ok (.ret u)=>CE outer P w H s Q u s'
 |.ok _=>False
 |.error e=>CX outer H s E e s'
structure cB (P:bz)(w:ce)(K:ae)(mg:aU->Option af)(base:aZ)(CX:sX)(k:Nat)(f:ah)(fd:aI)(ps:List aU)(sp:Sp):Prop where
 len:∀vs H Q E,sp vs H Q E->vs.length=ps.length
 run:∀(A:bX) (outer:List Env) (s:am) (H:Hp) (args:Args) (us:List af) (vs:List V) (Q:VK) (E:XK),eM k A->qF P w K mg base A outer s H->pv s fd args (ps.zip us)->bZ vs us->sp vs H Q E ->
  gP (bj P w) A (.call (.ref f) args) (CR CX outer P w H s Q E) s
theorem qF.make {P:bz}{w:ce}{K:ae}{mg:aU->Option af}{base:aZ}{A:bX}{outer:List Env}{s:am}{H:Hp}(e:qF P w K mg base A outer s H)(C:ah)(us:List af)(kw:List (aU×af)) :
  qF P w K mg base (A.under (.builtin "type.__call__" ⟨.ref C::us,kw⟩)) outer s H:=⟨by first|exact e.frames|(simpa[bX.under,rA.envs,rA.isFrame,pushEnvs]using e.frames),e.mod,e.bs,e.bsz,e.funs,e.frf,e.hok,e.bare⟩
section
variable {X:Cx}{aj:List (ah×dX)}{σ:St}{H:Hp}{s s':am}
theorem Inv.env0 (I:Inv X aj σ H s):qF X.prog X.w X.K X.mg X.base X.A X.stack s H :=
 ⟨I.ok.frames,I.ok.mod,I.bs,cD I.ok.bsz I.sz,I.stack,I.stkFree,I.hok,I.bare⟩
theorem Inv.after {Q:VK}{u:af}(I:Inv X aj σ H s)(h:CE X.stack X.prog X.w H s Q u s'):EP X aj σ Q u s':=by
 obtain⟨v,H',os,bare,un,hok,r,q⟩:=h
 obtain⟨hh,g,d,t,os'⟩:=s'
 obtain rfl:os'=s.os:=os
 exact⟨v,H',I.call (h':=hh) (g':=g) (d':=d) (t':=t) (ch:=[]) un hok bare (λb z=>absurd z (by simp)),r,q⟩
end
def yT (sp:Sp)(jE:List V)(E:XK)(t:TA):TE:=λσ H Q=>t σ H λvs H1=>sp (vs++jE) H1 Q E
def yU (C:ah)(m:aU)(sp:Sp)(jE:List V)(E:XK)(ta:TE)(t:TA):TE:=λσ H Q=>ta σ H λx H1=>∃a dx fs,x=.ref a/\H1 a=some (.ins C dx fs)/\fs.lookup m=none /\
 t σ H1 λvs H2=>sp (x::(vs++jE)) H2 Q E
def Iz (C:ah)(sp:Sp)(jE:List V)(E:XK)(t:TA):TE:=λσ H Q=>t σ H λvs H1=>∀x dx,H1 x=none->H1 dx=none->dx≠x ->
 sp (.ref x::(vs++jE)) (upd (upd H1 dx (.own x)) x (.ins C dx [])) (λv H2=>v=.non/\Q (.ref x) H2) E
def bA (K:ae)(fd:aI)(ps:List aU)(ds:List af):Prop :=
 ∀(s:am) (us:List af),K.In s.heap->(us++ds).length=ps.length->pv s fd ⟨us,[]⟩ (ps.zip (us++ds))
theorem bA.all {K:ae}{fd:aI}{ps:List aU}(h:∀us:List af,us.length=ps.length->bindArgs fd ⟨us,[]⟩=pure (ps.zip us)):bA K fd ps []:=λs us _ hl=>by
 rw[cu]at hl ⊢
 exact .of_eq (h us hl)
def jN (CX:sX)(X:Cx)(E:XK):Prop:=∀(aj:List (ah×dX)) (σ:St) (H:Hp) (s:am) (e:af) (s':am),Inv X aj σ H s->CX X.stack H s E e s'->X.xe e s'
section
variable {X:Cx}{CX:sX}{k:Nat}{f C:ah}{fd:aI}{ps:List aU}{sp:Sp}{jE:List V}{ds:List af}{E:XK}{x m:aU}{p pos dF:dh}{e o:Expr}{es:List Expr}{ta:TE}{t:TA}
theorem KQ {aj:List (ah×dX)}{σ:St}{H:Hp}{s:am}{Q:VK}{us:List af}{vs:List V}(F:cB X.prog X.w X.K X.mg X.base CX k f fd ps sp)(hr:eM k X.A)(hb:bA X.K fd ps ds)(hd:bZ jE ds)(hx:jN CX X E)
  (I:Inv X aj σ H s) (r:bZ vs us) (h:sp (vs++jE) H Q E):bo (bj X.prog X.w) X.A (call (.ref f) us) (EP X aj σ Q) X.xe s:=by
 have r2:bZ (vs++jE) (us++ds):=r.append hd
 have hl:(us++ds).length=ps.length:=by rw[←r2.length];exact F.len _ _ _ _ h
 refine wpAny_call (nu (F.run X.A X.stack s H ⟨us,[]⟩ (us++ds) (vs++jE) Q E hr I.env0 (hb s us I.kIn hl) r2 h) λr s' hq=>?_)
 cases r with
 |error e=>exact hx aj σ H s e s' I hq
 |ok fl=>
  cases fl with
  |ret u=>exact I.after hq
  |next=>exact False.elim hq
  |brk=>exact False.elim hq
  |cont=>exact False.elim hq
theorem Ui (F:cB X.prog X.w X.K X.mg X.base CX k f fd ps sp)(hr:eM k X.A)(hg:Gl X x)(hm:X.mg x=some (.ref f))(hk:ak X.K (.ref f)=true)(hb:bA X.K fd ps ds)(hd:bZ jE ds)(hx:jN CX X E)
  (ha:PA X (e::es) t) (lK:(x==("__debug__":aU))=false:=by decide) (he:ar (e::es) X.env=(false,bG e X.env)::ar es X.env:=by rfl) (iL:(cE pos (ar es X.env)).any (·.1)=false:=by rfl) :
  PE X (.Call (.Name x p) (e::es) [] pos) (yT sp jE E t):=by
 intro aj s σ H Q I h
 refine de (KC I hg hm ?_ lK)
 refine ij (h₀:=X.base) I.ok.mod.kin hk (dA (ha pos aj s σ H _ I h) λus s1 ⟨vs,H1,I1,r,q⟩=>⟨I1.kIn,?_⟩) he iL
 exact KQ F hr hb hd hx I1 r q
theorem zr2 {pl:pw Bool}(he:PE X o ta)(c:lf X.K C)(hm:qN X.K C m f)(F:cB X.prog X.w X.K X.mg X.base CX k f fd ps sp)(hr:eM k X.A)(hb:bA X.K fd ps ds)(hd:bZ jE ds)(hx:jN CX X E)(ha:PA X (e::es) t)
  (m9:ar (e::es) X.env=(false,bG e X.env)::ar es X.env:=by rfl) (iL:(cE pos (ar es X.env)).any (·.1)=false:=by rfl)
  (ht:bG (.Call (.Attribute o m dF) (e::es) [] pos) X.env=(do
   let ov ← bG o X.env
   ip dF.atName
   let(f,first) ← ek [ov] (ig ov m pl)
   jV pos f first (cE pos (ar (e::es) X.env)) (fq pos (dw [] X.env))):=by rfl) :
  PE X (.Call (.Attribute o m dF) (e::es) [] pos) (yU C m sp jE E ta t):=by
 intro aj s σ H Q I h
 refine gj (pl:=pl) (dA (he aj s σ H _ I h) λu s1 ⟨x,H1,I1,rx,a,dx,fs,ex,ea,l,q⟩=>?_) ht
 subst ex
 obtain rfl:u=af.ref a:=rx
 refine Om I1 ea c hm l ?_
 refine ij (first:=[.ref a]) (h₀:=X.base) I.ok.mod.kin hm.kp (dA (ha pos aj s1 σ H1 _ I1 q) λus s2 ⟨vs,H2,I2,r,q2⟩=>⟨I2.kIn,?_⟩) m9 iL
 exact KQ (us:=.ref a::us) (vs:=.ref a::vs) F hr hb hd hx I2 (.cons rfl r) q2
theorem zoz {pl:pw Bool}(he:PE X o ta)(c:lf X.K C)(hm:qN X.K C m f)(F:cB X.prog X.w X.K X.mg X.base CX k f fd ps sp)(hr:eM k X.A)(hb:bA X.K fd ps ds)(hd:bZ jE ds)(hx:jN CX X E)
  (ht:bG (.Call (.Attribute o m dF) [] [] pos) X.env=(do
   let ov ← bG o X.env
   ip dF.atName
   let(f,first) ← ek [ov] (ig ov m pl)
   jV pos f first (cE pos (ar [] X.env)) (fq pos (dw [] X.env))):=by rfl) :
  PE X (.Call (.Attribute o m dF) [] [] pos) (yU C m sp jE E ta IC):=by
 intro aj s σ H Q I h
 refine gj (pl:=pl) (dA (he aj s σ H _ I h) λu s1 ⟨x,H1,I1,rx,a,dx,fs,ex,ea,l,q⟩=>?_) ht
 subst ex
 obtain rfl:u=af.ref a:=rx
 refine Om I1 ea c hm l ?_
 exact PySem.W.callWith_K0 (first:=[.ref a]) I1.kIn hm.kp (KQ (us:=[.ref a]) (vs:=[.ref a]) F hr hb hd hx I1 (.cons rfl .nil) q)
structure Mk (K:ae)(C f:ah):Prop where
 makes:d8 K C=true
 init:aE K (.ref C) "__init__"=some (some (.ref f))
 fn:dN K (.ref f)=true
 kp:ak K (.ref C)=true
theorem zo0 {aj:List (ah×dX)}{σ:St}{H:Hp}{s:am}{Q:VK}{us:List af}{vs:List V}(M:Mk X.K C f)(F:cB X.prog X.w X.K X.mg X.base CX k f fd ps sp)(hr:eM (k+1) X.A)(hb:bA X.K fd ps ds)(hd:bZ jE ds)
  (hx:jN CX X E) (I:Inv X aj σ H s) (r:bZ vs us)
  (h:∀x dx,H x=none->H dx=none->dx≠x->sp (.ref x::(vs++jE)) (upd (upd H dx (.own x)) x (.ins C dx [])) (λv H2=>v=.non/\Q (.ref x) H2) E) :
  bo (bj X.prog X.w) X.A (call (.ref C) us) (EP X aj σ Q) X.xe s:=by
 have hq:=h (s.heap.objs.size+1) s.heap.objs.size (I.hok.fresh (iN _)) (I.hok.fresh (aF _)) (br (i9 _))
 have I2:=Inv.made (C:=C) I
 have r2:bZ (V.ref (s.heap.objs.size+1)::(vs++jE)) (af.ref (s.heap.objs.size+1)::(us++ds)):=.cons rfl (r.append hd)
 have hl:(af.ref (s.heap.objs.size+1)::us++ds).length=ps.length:=by
  have e:=r2.length
  rw[F.len _ _ _ _ hq]at e
  exact e.symm
 refine wpAny_call (zoy (f:=f) I.kIn M.makes M.init (beq_iff_eq.mp M.fn) (nu (F.run _ X.stack _ _ ⟨af.ref (s.heap.objs.size+1)::us,[]⟩ (af.ref (s.heap.objs.size+1)::(us++ds)) _ _ E (hr.make C us [])
  (I2.env0.make C us []) (hb _ (af.ref (s.heap.objs.size+1)::us) I2.kIn hl) r2 hq) λr s' rL=>?_))
 cases r with
 |error e=>exact hx aj σ _ _ e s' I2 rL
 |ok fl=>
  cases fl with
  |ret u=>
   obtain⟨v,H',I3,rv,ev,q3⟩:=I2.after rL
   subst ev
   exact⟨rv,⟨V.ref (s.heap.objs.size+1),H',I3,rfl,q3⟩⟩
  |next=>exact False.elim rL
  |brk=>exact False.elim rL
  |cont=>exact False.elim rL
theorem zr3 (M:Mk X.K C f)(F:cB X.prog X.w X.K X.mg X.base CX k f fd ps sp)(hr:eM (k+1) X.A)(hg:Gl X x)(hm:X.mg x=some (.ref C))(hb:bA X.K fd ps ds)(hd:bZ jE ds)(hx:jN CX X E)
  (ha:PA X (e::es) t) (lK:(x==("__debug__":aU))=false:=by decide) (he:ar (e::es) X.env=(false,bG e X.env)::ar es X.env:=by rfl) (iL:(cE pos (ar es X.env)).any (·.1)=false:=by rfl) :
  PE X (.Call (.Name x p) (e::es) [] pos) (Iz C sp jE E t):=by
 intro aj s σ H Q I h
 refine de (KC I hg hm ?_ lK)
 refine ij (h₀:=X.base) I.ok.mod.kin M.kp (dA (ha pos aj s σ H _ I h) λus s1 ⟨vs,H1,I1,r,q⟩=>⟨I1.kIn,?_⟩) he iL
 exact zo0 M F hr hb hd hx I1 r q
end
section
variable {X:Cx}{CX:sX}{k:Nat}{f C:ah}{fd:aI}{ps ks:List aU}{sp:Sp}{E:XK}{x m:aU}{p pos dF Bo:dh}{e o:Expr}{es:List Expr}{kws:List gh}{te ta:TE}{t tk:TA}{nm:Option aU}
variable {g:List af->List af->List af}{gV:List V->List V->List V}
end
structure bn (N P:List aU)(sc:gx):Prop where
 kind:sc.kind=.function
 co:sc.isCoroutine=false
 gen:sc.isGenerator=false
 nd:N.Nodup
 pre:N.take P.length=P
 par:∀x∈P,sc.names.lookup x=some .local\/sc.names.lookup x=some .cell
 nofree:∀y∈sc.names,y.2≠.free
theorem Tc {kindOf:aU->Option bx}{x:aU}:∀{binds:List (aU×af)} {m:aU->Option af},(∀v,(x,v)∉binds)->sd kindOf binds m x=m x
 |[],_,_=>rfl
 |(n,v)::r,m,h=>by
  unfold sd
  rw[Tc λw hw=>h w (ai _ hw)]
  split
  ·have:x≠n:=by rintro rfl;exact h v aa
   simp[this]
  ·rfl
theorem Td {kindOf:aU->Option bx}{x:aU}:∀{binds:List (aU×af)} {m:aU->Option af},(∀v,(x,v)∉binds)->rZ kindOf binds m x=m x
 |[],_,_=>rfl
 |(n,v)::r,m,h=>by
  unfold rZ
  rw[Td λw hw=>h w (ai _ hw)]
  split
  ·rfl
  ·have:x≠n:=by rintro rfl;exact h v aa
   simp[this]
theorem Te {kindOf:aU->Option bx}{x:aU}{v:af}:∀{P:List aU} {vs:List af} {i:Nat} {m:aU->Option af},P.Nodup->P[i]?=some x->vs[i]?=some v->kindOf x=some .local ->
  sd kindOf (P.zip vs) m x=some v
 |[],_,_,_,_,h,_,_=>by simp at h
 |_::_,[],_,_,_,_,h,_=>by simp at h
 |p::P,w::vs,0,m,nd,h1,h2,hk=>by
  simp at h1 h2;subst h1;subst h2
  show sd kindOf ((p,w)::P.zip vs) m p=_
  unfold sd
  rw[Tc λv hv=>(bC.mp nd).1 (hE hv).1,if_pos hk]
  simp
 |p::P,w::vs,i+1,m,nd,h1,h2,hk=>by
  show sd kindOf ((p,w)::P.zip vs) m x=_
  unfold sd
  exact Te (i:=i) (bC.mp nd).2 (by simpa using h1) (by simpa using h2) hk
theorem Tf {kindOf:aU->Option bx}{x:aU}{v:af}:∀{P:List aU} {vs:List af} {i:Nat} {m:aU->Option af},P.Nodup->P[i]?=some x->vs[i]?=some v->kindOf x≠some .local ->
  rZ kindOf (P.zip vs) m x=some v
 |[],_,_,_,_,h,_,_=>by simp at h
 |_::_,[],_,_,_,_,h,_=>by simp at h
 |p::P,w::vs,0,m,nd,h1,h2,hk=>by
  simp at h1 h2;subst h1;subst h2
  show rZ kindOf ((p,w)::P.zip vs) m p=_
  unfold rZ
  rw[Td λv hv=>(bC.mp nd).1 (hE hv).1,if_neg hk]
  simp
 |p::P,w::vs,i+1,m,nd,h1,h2,hk=>by
  show rZ kindOf ((p,w)::P.zip vs) m x=_
  unfold rZ
  exact Tf (i:=i) (bC.mp nd).2 (by simpa using h1) (by simpa using h2) hk
def start (N:List aU)(vs:List V):St:=vs.map some++aC (N.length-vs.length) none
def nO (CX:sX)(P:bz)(w:ce)(K:ae)(mg:aU->Option af)(base:aZ)(N:List aU)(qual:aU)(scope:gx)(f:ah)(cd:af)(A:bX)(outer:List Env)(s:am)(H:Hp)(E:XK):Cx where
 prog:=P
 w:=w
 K:=K
 mg:=mg
 base:=base
 A:=A.deeper (envOfC qual scope s.heap.objs.size f cd)
 N:=N
 s₀:=s
 H₀:=H
 env:=envOfC qual scope s.heap.objs.size f cd
 outer:=outer
 stack:=envOfC qual scope s.heap.objs.size f cd::outer
 ex:=[]
 calm:=true
 fn:=λ_=>true
 pn:=[]
 xe:=λe s'=>bo (bj P w) (A.deeper (envOfC qual scope s.heap.objs.size f cd)) (leaving (envOfC qual scope s.heap.objs.size f cd) e) (λ_ s''=>CX outer H s E e s'') (λe' s''=>CX outer H s E e' s'') s'
theorem TH {sc:gx}{n:Nat}{x:aU}(h:sc.names.lookup x=some .cell):∃c,(cellsFrom n sc.names []).lookup x=some c:=by
 have q:=iS sc.names n [] (.inl h)
 exact nE.mp q
theorem zl9 {CX:sX}{P:bz}{w:ce}{K:ae}{mg:aU->Option af}{base:aZ}{N ps:List aU}{qual:aU}{scope:gx}{f:ah}{cd:af}{A:bX}{outer:List Env}{s s1:am}{H:Hp}{E:XK}{us:List af}{vs:List V}
  (S:bn N ps scope) (hd:A.handled=none) (e0:qF P w K mg base A outer s H) (hl:vs.length=ps.length) (r:bZ vs us)
  (x:InCallC s s.heap.objs.size (sd (envOfC qual scope s.heap.objs.size f cd).kindOf (ps.zip us) λ_=>none) (cellsFrom (s.heap.objs.size+1) scope.names []) (rZ (envOfC qual scope s.heap.objs.size f cd).kindOf (ps.zip us) λ_=>none) s1) :
  Inv (nO CX P w K mg base N qual scope f cd A outer s H E) [] (start N vs) H s1:=by
 have iL:ps.length<=N.length:=by have:=congrArg gR S.pre;rw[iX]at this;omega
 obtain⟨h1,tk,rfl,hk⟩:=x.done
 have Hd:∀b:ah,b∉(nO CX P w K mg base N qual scope f cd A outer s H E).ex:=λb z=>absurd (show b∈([]:List ah)from z) (by simp)
 refine⟨⟨e0.mod,S.kind,rfl,rfl,aF _,λy z c h1 h2=>?_,λy hy=>?_,λy c _ h=>?_,λ_=>hd,bX.frames_deeper e0.frames,.inr ⟨rfl,rfl⟩,λb z=>absurd z (Hd b),e0.bs,e0.bsz,λb _ _=>Hd b,λb z=>absurd z (Hd b),e0.funs,e0.frf⟩,
  rfl,e0.bare,Un.kept hk,⟨_,x.toInCall.ns,λi y v h1 h2 h3=>?_⟩,λy c h=>⟨_,x.cell y c h⟩,e0.hok.fresh (aF _),λy c h=>?_,λp hp=>absurd (show p∈([]:List (ah×dX))from hp) (by simp),e0.hok.kept hk,?_⟩
 ·exact name_of_addr x.apart (PySem.mem_of_lookup h1) (PySem.mem_of_lookup h2)
 ·have hy:scope.names.lookup y=some .cell\/scope.names.lookup y=some .free:=hy
  rcases hy with hy|hy
  ·exact TH hy
  ·exact absurd rfl (S.nofree _ (PySem.mem_of_lookup hy))
 ·exact lS (x.above y c (PySem.mem_of_lookup h))
 ·have hi:i<vs.length:=by
   unfold start at h2
   by_cases hi:i<vs.length
   ·exact hi
   ·rw[fv (by simpa using hi)]at h2
    rw[fV]at h2
    split at h2<;>cases h2
  have ha:vs[i]?=some v:=by
   unfold start at h2
   rw[ck (by simpa using hi),bp]at h2
   cases e:vs[i]? with
   |none=>rw[e]at h2;cases h2
   |some a=>rw[e]at h2;cases h2;rfl
  obtain⟨u,hu,rv⟩:=r.get ha
  have hp:ps[i]?=some y:=by
   rw[←S.pre,List.getElem?_take_of_lt (by omega)];exact h1
  have Rv:ps.Nodup:=by rw[←S.pre];exact S.nd.sublist (List.take_sublist _ _)
  refine⟨u,rv,?_⟩
  rcases S.par y (List.mem_of_getElem? hp)with k|k
  ·exact .inl ⟨k,Te Rv hp hu k⟩
  ·obtain⟨c,e⟩:=TH (n:=s.heap.objs.size+1) k
   refine .inr ⟨.inl k,c,e,?_⟩
   have q:=x.cell y c e
   rw[Tf Rv hp hu (by show scope.names.lookup y≠_;rw[k];decide)]at q
   exact q
 ·exact e0.hok.fresh (lS (x.above y c (PySem.mem_of_lookup h)))
 ·unfold start
  show _=N.length
  rw[aX,aB,dq]
  omega
theorem zw7 {CX:sX}{P:bz}{w:ce}{K:ae}{mg:aU->Option af}{base:aZ}{k:Nat}{f:ah}{name qual:aU}{params:Arguments}{body:List bO}{scope:gx}{dV kV doc pm iD ct oc:af}{an od:Option ah}
    {Bs:Array (Option af)} {N ps:List aU} {sp:Sp} (lk:K.lookup f=some ⟨oc,od,.func (gX name qual params body scope dV kV doc pm an iD ct),Bs⟩) (jF:aw K iD qual=true) (S:bn N ps scope)
    (len:∀vs H Q E,sp vs H Q E->vs.length=ps.length)
    (tX:∀(A:bX) (outer:List Env) (s:am) (H:Hp) (vs:List V) (Q:VK) (E:XK),eM k (A.deeper (envOfC qual scope s.heap.objs.size f iD))->sp vs H Q E ->
      ∃t,qP (nO CX P w K mg base N qual scope f iD A outer s H E) body t/\t { nx:=λ_ H'=>Q .non H',rt:=Q } (start N vs) H) :
    cB P w K mg base CX (k+1) f (gX name qual params body scope dV kV doc pm an iD ct) ps sp:=by
  refine⟨len,λA outer s H args us vs Q E hr e0 hb r yK=>?_⟩
  have hl:=len _ _ _ _ yK
  have KX:K.In s.heap:=e0.mod.kin.keeps λb o e=>(e0.bs b o e).1
  have lim:s.heap.NoLimit:=e0.mod.nolimit.keeps λb o e=>(e0.bs b o e).1
  have FG:∀y∈ps.zip us,scope.names.lookup y.1=some .local\/(scope.names.lookup y.1=some .cell/\((cellsFrom (s.heap.objs.size+1) scope.names []).lookup y.1).isSome=true):=λ⟨n,v⟩ hy=>by
    rcases S.par n (hE hy).1 with q|q
    · exact .inl q
    · exact .inr ⟨q,iS _ _ _ (.inl q)⟩
  refine codeAny_call_function hr.depth (KX _ _ lk) rfl S.co S.gen rfl (PySem.W.codeRec_of KX jF) (hb _ _ _ _ ?_)
  refine wpAny_newFunctionEnv_cells S.kind FG λenv he s1 x=>?_
  subst he
  refine⟨lim.keeps x.toInCall.keep,codeAny_func ?_⟩
  obtain⟨t,ht,hq⟩:=tX A outer s H vs Q E (hr.deeper _) yK
  have I:Inv (nO CX P w K mg base N qual scope f iD A outer s H E) [] (start N vs) H s1:=zl9 S hr.hd e0 hl r x
  refine dW (ht [] s1 (start N vs) H _ I hq) (λfl s' hs=>?_) λe s' hs=>hs
  have fin:∀{σ':St} {H':Hp} {v:V} {u:af},Inv (nO CX P w K mg base N qual scope f iD A outer s H E) [] σ' H' s'->RelV v u->Q v H'->CE outer P w H s Q u s' :=
    λ{σ' H' v u} J rv q=>⟨v,H',J.os,J.bare,J.base,J.hok,rv,q⟩
  cases fl with
  |ret u=>
    obtain⟨v,σ',H',J,rv,q⟩:=hs
    exact fin J rv q
  |next=>
    obtain⟨σ',H',J,q⟩:=hs
    exact fin (v:=V.non) (u:=af.none) J rfl q
  |brk=>
    obtain⟨_,_,_,q⟩:=hs
    exact False.elim q
  |cont=>
    obtain⟨_,_,_,q⟩:=hs
    exact False.elim q
end L2
namespace L2
open PySem PySem.Spec PyProof.Rows
section
variable {X:Cx}{x:aU}{p pos:dh}{e:Expr}{es:List Expr}{t:TA}{id T:String}{r:List V->Hp->VK->Prop}
def NS (r:List V->Hp->VK->Prop)(t:TA):TE:=λσ H Q=>t σ H λvs H1=>r vs H1 Q
theorem Kk (hc:eP X (.builtin id) r)(hg:Gl X x)(hm:X.mg x=none)(hv:bW x=some (.builtin id))(ha:PA X (e::es) t)(hn:x≠"__name__":=by decide)(lK:(x==("__debug__":aU))=false:=by decide)
  (he:ar (e::es) X.env=(false,bG e X.env)::ar es X.env:=by rfl) (iL:(cE pos (ar es X.env)).any (·.1)=false:=by rfl):PE X (.Call (.Name x p) (e::es) [] pos) (NS r t):=by
 intro aj s σ H Q I h
 refine de (tE I hg hm hv ?_ hn lK)
 exact PyProof.Rows.callWith_builtin1 (dA (ha pos aj s σ H _ I h) λus s1 ⟨vs,H1,I1,r1,q1⟩=>hc aj s1 σ H1 vs us Q I1 r1 q1) he iL
theorem Tg (hc:eP X (.type T) r)(hg:Gl X x)(hm:X.mg x=none)(hv:bW x=some (.type T))(ha:PA X (e::es) t)(hn:x≠"__name__":=by decide)(lK:(x==("__debug__":aU))=false:=by decide)
  (he:ar (e::es) X.env=(false,bG e X.env)::ar es X.env:=by rfl) (iL:(cE pos (ar es X.env)).any (·.1)=false:=by rfl):PE X (.Call (.Name x p) (e::es) [] pos) (NS r t):=by
 intro aj s σ H Q I h
 refine de (tE I hg hm hv ?_ hn lK)
 exact bH (dA (ha pos aj s σ H _ I h) λus s1 ⟨vs,H1,I1,r1,q1⟩=>hc aj s1 σ H1 vs us Q I1 r1 q1) he iL
end
end L2
namespace HT
open PySem PyProof.Rows
section
open PySem.SeqAt
open PySem.AutoSeq1 (wpAny_loadPart')
open PySem.MeetsSeq PySem.MeetsSeq2 PySem.MeetsSeq3
end
section
variable {prog:bz}{w:ce}{A:bX}{E:af->am->Prop}{s:am}
theorem cat_tup {t b:ah}{vs ws:List af}{Q:af->am->Prop}(ht:IsTup s.heap t vs.toArray)(hb:IsTup s.heap b ws.toArray)(hv:vs≠[])
    (h1:ws=[]->Q (.ref t) s) (h2:ws≠[]->Q (.ref s.heap.objs.size) { s with heap:=s.heap.push { cls:=.type "tuple",data:=.seq (vs++ws).toArray } })
    (hsz:vs.length+ws.length<=sizeLine):bo (bj prog w) A (eh .Add (.ref t) (.ref b)) Q E s:=by
  obtain⟨⟨cls,dd,data,sl⟩,ho,hc,n,hd⟩:=id ht
  obtain⟨⟨Lw,Jm,data2,Ip⟩,JC,AU,n2,hd2⟩:=id hb
  simp only at hc hd AU hd2
  subst hc hd AU hd2
  have e:vs.toArray++ws.toArray=(vs++ws).toArray:=by simp
  by_cases hw:ws=[]
  · exact sQ ⟨_,ho,rfl⟩ ⟨_,JC,rfl⟩ noFill_tuple_add seq_tuple_add PySem.F.slot_tuple_add PySem.F.entry_tuple_add (PySem.F.args_tuple_add_2 _ _)
      (tuple_addW1 t b vs.toArray ws.toArray n n2 dd Jm sl Ip (by simpa using hv) (by simp[hw])) ⟨ho,JC,h1 hw⟩
  · refine sQ ⟨_,ho,rfl⟩ ⟨_,JC,rfl⟩ noFill_tuple_add seq_tuple_add PySem.F.slot_tuple_add PySem.F.entry_tuple_add (PySem.F.args_tuple_add_2 _ _)
      (tuple_addW2 t b vs.toArray ws.toArray n n2 dd Jm sl Ip (by simpa using hv) (by simpa using hw) (by rw[aQ,aQ];exact hsz)) ⟨ho,JC,?_⟩
    rw[e]
    exact h2 hw
def sIx (n d:Nat):Option Int->Nat
 |none=>d
 |some v=>if v<0 then(v+(n:Int)).toNat else min v.toNat n
theorem sIx_none (n d:Nat):sIx n d none=d:=rfl
theorem sIx_nat (n d k:Nat):sIx n d (some (k:Int))=min k n:=by
 show(if(k:Int)<0 then((k:Int)+(n:Int)).toNat else min (k:Int).toNat n)=min k n
 rw[if_neg (by omega),gq]
end
end HT
namespace L2
open PySem PySem.Spec PyProof.Rows
abbrev TO:=St->Hp->(Option Int->Hp->Prop)->Prop
def PO (X:Cx)(e:Option Expr)(t:TO):Prop :=
 ∀(aj:List (ah×dX)) (s:am) (σ:St) (H:Hp) (Q:Option Int->Hp->Prop),Inv X aj σ H s->t σ H Q ->
  bo (bj X.prog X.w) X.A (evalPart e X.env) (λu s'=>∃o H',Inv X aj σ H' s'/\IsPart u o/\Q o H') X.xe s
def xF:TO:=λ_ H Q=>Q none H
def ID (t:TE):TO:=λσ H Q=>t σ H λx H1=>∃i,x=.int i/\Q (some i) H1
theorem zk8 {ns:List Int}:∀{us:List af},bZ (ns.map V.int) us->IntsAre us ns:=by
 induction ns with
 |nil=>intro us r;rw[lA]at r;cases r;exact .nil
 |cons n ns ih=>
  intro us r
  rw[aR]at r
  cases r with
  |cons r1 r2=>
   obtain⟨t,e⟩:=r1
   subst e
   exact .cons n t (ih r2)
section
variable {X:Cx}{e:Expr}{te:TE}{lo hi:Option Expr}{tl th:TO}{pos p2:dh}
theorem zr4:PO X none xF:=by
 intro aj s σ H Q I h
 rw[evalPart_none]
 exact cx ⟨none,H,I,.none,h⟩
theorem zr5 (h:PE X e te):PO X (some e) (ID te):=by
 intro aj s σ H Q I hw
 rw[evalPart_some]
 refine dA (h aj s σ H _ I hw) λu s1 dJ=>?_
 obtain⟨x,H1,I1,r1,q1⟩:=dJ
 obtain⟨i,rfl,q⟩:=q1
 obtain⟨t,rfl⟩:=r1
 exact⟨some i,H1,I1,.int i t,q⟩
def P8 (X:Cx)(r:V->Option Int->Option Int->Hp->VK->Prop):Prop :=
 ∀(aj:List (ah×dX)) (s:am) (σ:St) (H:Hp) (x:V) (v vl vu:af) (lo hi:Option Int) (sl:ah) (Q:VK),Inv X aj σ H s->RelV x v->s.heap.IsSliceOf sl vl vu .none->IsPart vl lo->IsPart vu hi->r x lo hi H Q ->
  ∃T id,p4 (.type T) "__getitem__"=pure (some (.builtin id))/\s.TypeIs v T/\bo (bj X.prog X.w) X.A (nv v (.ref sl)) (EP X aj σ Q) X.xe s
def tSl (r:V->Option Int->Option Int->Hp->VK->Prop)(te:TE)(tl th:TO):TE:=λσ H Q=>te σ H λx H1=>tl σ H1 λl H2=>th σ H2 λu H3=>r x l u H3 Q
theorem zo1 {r:V->Option Int->Option Int->Hp->VK->Prop}(hr:P8 X r)(he:PE X e te)(hl:PO X lo tl)(hu:PO X hi th):PE X (.Subscript e (.Slice lo hi none p2) pos) (tSl r te tl th):=by
  intro aj s σ H Q I h
  refine Subscript_ (dA (he aj s σ H _ I h) λv s1 dJ=>?_)
  obtain⟨x,H1,I1,r1,q1⟩:=dJ
  refine wpAny_Slice (dA (hl aj s1 σ H1 _ I1 q1) λvl s2 ⟨l,H2,I2,pl,q2⟩=>dA (hu aj s2 σ H2 _ I2 q2) λvu s3 dJ=>?_)
  obtain⟨u,H3,I3,pu,q3⟩:=dJ
  rw[evalPart_none]
  refine cx ?_
  have I4:Inv X aj σ H3 { s3 with heap:=s3.heap.push { cls:=.type "slice",data:=.fields #[vl,vu,.none] } }:=I3.kept (t':=s3.toks) λb ob q=>aH _ q
  obtain⟨T,id,hT,ht,hg⟩:=hr aj { s3 with heap:=s3.heap.push { cls:=.type "slice",data:=.fields #[vl,vu,.none] } } σ H3 x v vl vu l u s3.heap.objs.size Q I4 r1 (aZ.IsSliceOf.new ..) pl pu q3
  show bo (bj X.prog X.w) X.A (subscriptTail e (.Slice lo hi none p2) v (.ref s3.heap.objs.size)) (EP X aj σ Q) X.xe { s3 with heap:=s3.heap.push { cls:=.type "slice",data:=.fields #[vl,vu,.none] } }
  exact tail_any (ops:=[.ref s3.heap.objs.size,v]) ht hT hg (by with_unfolding_all rfl)
def sk (xs:List V)(lo hi:Option Int):List V:=(xs.drop (HT.sIx xs.length 0 lo)).take (HT.sIx xs.length xs.length hi-HT.sIx xs.length 0 lo)
theorem ziy (xs:List V)(lo hi:Option Int):(sk xs lo hi).length<=xs.length:=by
 unfold sk
 rw[iX,iW]
 omega
def yQ (K:ae):R2:=λx y H Q=>∃a b xs ys,x=.ref a/\y=.ref b/\kN K H a xs/\kN K H b ys/\xs≠[]/\xs.length+ys.length<=sizeLine /\
 (ys=[]->Q (.ref a) H)/\(ys≠[]->∀p,H p=none->Q (.ref p) (upd H p (.tup (xs++ys))))
theorem bZ.nil_iff {xs:List V}{us:List af}(r:bZ xs us):us=[]↔xs=[]:=by
 cases r with
 |nil=>simp
 |cons _ _=>simp
theorem zr6:hJ X (eh .Add) (yQ X.K):=by
 intro aj s σ H x y v u Q I rx ry h
 obtain⟨a,b,xs,ys,rfl,rfl,ha,hb,hx,hz,q1,q2⟩:=h
 cases rx
 cases ry
 obtain⟨cw,r1,p1,_⟩:=I.tuple ha
 obtain⟨wQ,r2,p2,_⟩:=I.tuple hb
 refine HT.cat_tup p1 p2 (λz=>hx (r1.nil_iff.mp z)) (λz=>⟨.ref a,H,I,rfl,q1 (r2.nil_iff.mp z)⟩) (λz=>?_) (by rw[←r1.length,←r2.length];exact hz)
 refine⟨.ref s.heap.objs.size,_,I.laid (t':=s.toks) (o:=.tup (xs++ys)) (λb ob q=>aH _ q) (aF _) ?_,rfl,q2 (λw=>z (r2.nil_iff.mpr w)) _ (I.hok.fresh (aF _))⟩
 exact⟨by rw[aX];exact hz,_,r1.append r2,IsTup.new _ _⟩
end
end L2
namespace L2
open PySem PySem.Spec PyProof.Rows
def ixN (n:Nat)(i:Int):Option Nat:=if 0<=i then(if i<n then some i.toNat else none)else if -(n:Int)<=i then some (i+n).toNat else none
def atI {α:Type}(xs:List α)(i:Int):Option α:=(ixN xs.length i).bind λj=>xs[j]?
theorem Pa {n:Nat}{i:Int}{j:Nat}(h:ixN n i=some j):seqIndex? i n=some j/\j<n/\-(n:Int)<=i/\i<n:=by
 unfold ixN at h
 by_cases h0:0<=i
 ·rw[if_pos h0]at h
  by_cases h1:i<n
  ·rw[if_pos h1]at h
   have e:i.toNat=j:=Option.some.inj h
   exact⟨by rw[oB h0 h1,e],by omega,by omega,h1⟩
  ·rw[if_neg h1]at h;cases h
 ·rw[if_neg h0]at h
  by_cases h1:-(n:Int)<=i
  ·rw[if_pos h1]at h
   have e:(i+n).toNat=j:=Option.some.inj h
   exact⟨by rw[nw (by omega) h1,e],by omega,h1,by omega⟩
  ·rw[if_neg h1]at h;cases h
theorem Kz {α:Type}{xs:List α}{i:Int}{v:α}(h:atI xs i=some v):∃j,seqIndex? i xs.length=some j/\xs[j]?=some v/\j<xs.length/\-(xs.length:Int)<=i/\i<xs.length:=by
 unfold atI at h
 cases e:ixN xs.length i with
 |none=>rw[e]at h;cases h
 |some j=>
  rw[e]at h
  obtain⟨h1,h2,h3,h4⟩:=Pa e
  exact⟨j,h1,h,h2,h3,h4⟩
theorem jv {α:Type}{xs:List α}{j:Nat}{v:α}(h:xs[j]?=some v):atI xs (j:Int)=some v:=by
 have hj:j<xs.length:=(aT.mp h).1
 have e:ixN xs.length (j:Int)=some j:=by
  unfold ixN
  rw[if_pos (by omega),if_pos (by omega)];simp
 unfold atI;rw[e];exact h
def mK (b:Expr):Prop:=∀o i,oC b false o i=operate [o,i] (nv o i)
def vE (X:Cx)(r:R2):Prop :=
 ∀(value slice:Expr) (aj:List (ah×dX)) (s:am) (σ:St) (H:Hp) (x y:V) (v u:af) (Q:VK),Inv X aj σ H s->RelV x v->RelV y u->r x y H Q ->
  oC slice false v u=operate [v,u] (nv v u)->bo (bj X.prog X.w) X.A (subscriptTail value slice v u) (EP X aj σ Q) X.xe s
def P6 (X:Cx)(id:String)(r:V->List V->Hp->VK->Prop):Prop :=
 ∀(aj:List (ah×dX)) (s:am) (σ:St) (H:Hp) (x:V) (xs:List V) (v:af) (us:List af) (Q:VK),Inv X aj σ H s->RelV x v->bZ xs us->r x xs H Q ->
  bo (bj X.prog X.w) X.A (call (.builtin id) (v::us)) (EP X aj σ Q) X.xe s
section
variable {X:Cx}{a b:Expr}{ta tb:TE}{pos:dh}
theorem vE.or {r r':R2}(h:vE X r)(h':vE X r'):vE X (λx y H Q=>r x y H Q\/r' x y H Q):=by
 intro value slice aj s σ H x y v u Q I rx ry q hs
 rcases q with q|q
 ·exact h value slice aj s σ H x y v u Q I rx ry q hs
 ·exact h' value slice aj s σ H x y v u Q I rx ry q hs
theorem Vp {r:R2}(hr:vE X r)(ha:PE X a ta)(hb:PE X b tb)(hs:mK b):PE X (.Subscript a b pos) (JQ r ta tb):=by
 intro aj s σ H Q I h
 exact Subscript_ (zL ha hb I h λv u s2 x y H2 I2 rx ry q=>hr a b aj s2 σ H2 x y v u Q I2 rx ry q (hs _ _))
def Ih (K:ae):R2:=λx y H Q=>∃p xs i v,x=.ref p/\y=.int i/\eR K H p xs/\atI xs i=some v/\Q v H
def Ij (K:ae):R2:=λx y H Q=>∃p xs i v,x=.ref p/\y=.int i/\kN K H p xs/\atI xs i=some v/\Q v H
def Ii:R2:=λx y H Q=>∃z i c,x=.str z/\y=.int i/\z.length<=sizeLine/\atI z.cps.toList i=some c/\Q (.str ⟨#[c]⟩) H
theorem Us:vE X (Ih X.K):=by
 intro value slice aj s σ H x y v u Q I rx ry h hs
 obtain⟨p,xs,i,z,rfl,rfl,hq,he,q⟩:=h
 cases rx
 obtain⟨t,rfl⟩:=ry
 obtain⟨cw,r,pl,hz⟩:=I.list hq
 obtain⟨j,h1,h2,h3,h4,h5⟩:=Kz he
 obtain⟨w,ew,nR⟩:=r.get h2
 have hl:=r.length
 have hn:=kx
 have fin:EP X aj σ Q w s:=⟨z,H,I,nR,q⟩
 by_cases h0:0<=i
 ·have hj:i.toNat=j:=by
   rw[oB h0 h5]at h1
   exact Option.some.inj h1
  exact item_listR pl.isList h0 (by omega) (by rw[hj];simpa using ew) fin hs
 ·have hj:(i+(cw.toArray.size:Int)).toNat=j:=by
   rw[nw (by omega) h4]at h1
   rw[aQ,←hl]
   exact Option.some.inj h1
  exact subscriptTail_builtinR (x:=w) pl.isList.typeIs slot_list_getitem.lookup
   (wpAny_getItem_list_neg (Q:=λr s'=>r=w/\EP X aj σ Q r s') pl.isList (by omega) (by rw[aQ]<;>omega) (by omega) (by rw[hj];simpa using ew) ⟨rfl,fin⟩) hs
theorem zu3:vE X (Ij X.K):=by
 intro value slice aj s σ H x y v u Q I rx ry h hs
 obtain⟨p,xs,i,z,rfl,rfl,hq,he,q⟩:=h
 cases rx
 obtain⟨t,rfl⟩:=ry
 obtain⟨cw,r,pl,hz⟩:=I.tuple hq
 obtain⟨j,h1,h2,h3,h4,h5⟩:=Kz he
 obtain⟨w,ew,nR⟩:=r.get h2
 have hl:=r.length
 have hn:=kx
 have fin:EP X aj σ Q w s:=⟨z,H,I,nR,q⟩
 exact subscriptTail_builtinR (x:=w) pl.typeIs slot_tuple_getitem.lookup
  (getItem_tuple (j:=j) (Q:=λr s'=>r=w/\EP X aj σ Q r s') pl (by omega) (by omega) (by rw[aQ,←hl];exact h1) (by simpa using ew) ⟨rfl,fin⟩) hs
theorem zu4:vE X Ii:=by
 intro value slice aj s σ H x y v u Q I rx ry h hs
 obtain⟨z,i,c,rfl,rfl,hz,he,q⟩:=h
 obtain⟨t,rfl⟩:=rx
 obtain⟨t',rfl⟩:=ry
 obtain⟨j,h1,h2,h3,h4,h5⟩:=Kz he
 have hl:z.cps.toList.length=z.length:=by simp[aU.length]
 rw[hl]at h1 h4 h5
 have hn:=kx
 exact tail_any (typeIs_str s z t) slot_str_getitem.lookup (getItem_str (c:=c) (by
  have e1:decide (i < -(2 ^ 63:Int))=false:=decide_eq_false (by omega)
  have e2:decide (i >= 2 ^ 63)=false:=decide_eq_false (by omega)
  rw[e1,e2,xS]) (by rw[h1];simpa using h2) ⟨.str ⟨#[c]⟩,H,I.tok _,⟨_,rfl⟩,q⟩) hs
def RN (K:ae):R2:=λx y H Q=>Ih K x y H Q\/Ij K x y H Q\/Ii x y H Q
theorem xN:vE X (RN X.K):=Us.or (zu3.or zu4)
theorem zk9 (cw:List af)(n j:Nat)(u:af):dX.mapSeq (·.setIfInBounds j u) { cls:=.type "list",data:=.seq cw.toArray n } = { cls:=.type "list",data:=.seq (cw.set j u).toArray n }:=by
  simp[dX.mapSeq]
theorem Inv.lst {aj:List (ah×dX)}{σ:St}{H:Hp}{s:am}{p:ah}{xs:List V}(I:Inv X aj σ H s)(h:H p=some (.lst xs)) :
    ∃(cw:List af) (n:Nat),bZ xs cw/\s.heap.get? p=some { cls:=.type "list",data:=.seq cw.toArray n }/\xs.length<=sizeLine:=by
  obtain⟨z,cw,n,r,e⟩:=I.hok p _ h
  exact⟨cw,n,r,e,z⟩
theorem Inv.lstUpd {aj:List (ah×dX)}{σ:St}{H:Hp}{s:am}{p:ah}{xs ys:List V}{cw its':List af}{n n':Nat}{f:dX->dX}(I:Inv X aj σ H s)(h:H p=some (.lst xs))
    (ho:s.heap.get? p=some { cls:=.type "list",data:=.seq cw.toArray n }) (hf:f { cls:=.type "list",data:=.seq cw.toArray n } = { cls:=.type "list",data:=.seq its'.toArray n' }) (r:bZ ys its') (hz:ys.length<=sizeLine) (t:Nat) :
    Inv X aj σ (upd H p (.lst ys)) { s with heap:=s.heap.update p f,toks:=t }:=by
  have e:(s.heap.update p f).get? p=some { cls:=.type "list",data:=.seq its'.toArray n' }:=by
    rw[pO f ho (by rw[hf]<;>rfl),hf]
  refine I.write (x:=p) (e:=p) (by rw[h];trivial) (.inl rfl) (λb u hb q=>(jB _ _ (Ne.symm hb)).trans q) ⟨_,e⟩ ?_
  exact⟨hz,its',n',r,e⟩
def Im:V->V->V->Hp->(Hp->Prop)->Prop:=λo i v H Q=>∃p xs k j,o=.ref p/\i=.int k/\H p=some (.lst xs)/\ixN xs.length k=some j/\Q (upd H p (.lst (xs.set j v)))
theorem OE:zG X Im:=by
 intro aj s σ H o i v ov iv u Q I ro ri rv h
 obtain⟨p,xs,k,j,rfl,rfl,hp,hj,q⟩:=h
 cases ro
 obtain⟨t,rfl⟩:=ri
 obtain⟨cw,n,r,ho,hz⟩:=I.lst hp
 obtain⟨h1,h2,h3,h4⟩:=Pa hj
 have hl:=r.length
 have hn:=kx
 have I':Inv X aj σ (upd H p (.lst (xs.set j v))) { s with heap:=s.heap.update p (dX.mapSeq (·.setIfInBounds j u)) } :=
  I.lstUpd hp ho (zk9 cw n j u) (r.set rv j) (by rw[uZ];exact hz) s.toks
 by_cases h0:0<=k
 ·have hk:k.toNat=j:=by
   rw[oB h0 h4]at h1
   exact Option.some.inj h1
  exact PySem.W.ki_setAt ho h0 (by omega) (by rw[aQ,←hl];exact h4) (by rw[hk];exact⟨_,I',q⟩)
 ·have hk:(k+(cw.toArray.size:Int)).toNat=j:=by
   rw[nw (by omega) h3]at h1
   rw[aQ,←hl]
   exact Option.some.inj h1
  exact PySem.W.ki_setBack ho (by omega) (by rw[aQ,←hl];exact h3) (by omega) (by rw[hk];exact⟨_,I',q⟩)
theorem zhj (lo hi:Option Int)(n:Nat):(iu lo hi none n).1=((HT.sIx n 0 lo:Nat):Int)/\(iu lo hi none n).2.1=((HT.sIx n n hi:Nat):Int)/\(iu lo hi none n).2.2=1:=by
 refine⟨?_,?_,rfl⟩
 ·cases lo with
  |none=>simp[iu,HT.sIx]
  |some i=>
   simp only[iu,HT.sIx,rY,show(1:Int) > 0 by decide,if_true]
   by_cases h:i<0
   ·simp only[h,if_true]<;>omega
   ·simp only[h,if_false]<;>omega
 ·cases hi with
  |none=>simp[iu,HT.sIx]
  |some i=>
   simp only[iu,HT.sIx,rY,show(1:Int) > 0 by decide,if_true]
   by_cases h:i<0
   ·simp only[h,if_true]<;>omega
   ·simp only[h,if_false]<;>omega
theorem zf2 (cw:List af)(lo hi:Option Int):slicePick cw.toArray lo hi none=((cw.drop (HT.sIx cw.length 0 lo)).take (HT.sIx cw.length cw.length hi-HT.sIx cw.length 0 lo)).toArray:=by
 obtain⟨h1,h2,h3⟩:=zhj lo hi cw.toArray.size
 unfold slicePick
 rw[h1,h2,h3]
 simp only[sliceRange_one,pick_run,aQ]<;>rfl
def NM (K:ae):V->Option Int->Option Int->Hp->VK->Prop:=λx lo hi H Q=>∃a xs,x=.ref a/\eR K H a xs/\∀p,H p=none->Q (.ref p) (upd H p (.lst (sk xs lo hi)))
theorem zr7:P8 X (NM X.K):=by
 intro aj s σ H x v vl vu lo hi sl Q I rx hs pl pu h
 obtain⟨a,xs,rfl,hx,q⟩:=h
 cases rx
 obtain⟨cw,r,ht,hz⟩:=I.list hx
 have eo:=r.length
 refine⟨"list",_,slot_list_getitem.lookup,ht.isList.typeIs,?_⟩
 refine wpAny_getItem_list_slice ht.isList hs pl pu .none (by simp) ?_ (by rw[aQ]<;>omega)
 rw[zf2,←eo]
 refine⟨.ref s.heap.objs.size,_,I.laid (t':=s.toks) (o:=.lst (sk xs lo hi)) (λb ob q=>aH _ q) (aF _) ?_,rfl,q _ (I.hok.fresh (aF _))⟩
 exact⟨cD (ziy xs lo hi) hz,_,0,(r.drop (HT.sIx xs.length 0 lo)).take (HT.sIx xs.length xs.length hi-HT.sIx xs.length 0 lo),bF _ rfl⟩
def iP:V->Bool
 |.non=>true
 |.bl _=>true
 |.int _=>true
 |.str _=>true
 |_=>false
def sn:V->V->Bool
 |.non,.non=>true
 |.bl a,.bl b=>a==b
 |.bl a,.int b=>(if a then 1 else 0)==b
 |.int a,.bl b=>a==(if b then 1 else 0)
 |.int a,.int b=>a==b
 |.str a,.str b=>a==b
 |_,_=>false
theorem zu5 {A:bX}{s:am}{y x:V}{u v:af}(ry:RelV y u)(rx:RelV x v)(fy:iP y=true)(fx:iP x=true):SeqAt.EqAt A s u v (sn y x):=by
 cases y with
 |non=>
  cases ry
  cases x with
  |non=>cases rx;exact SeqAt.EqAt.same _
  |bl b=>cases rx;exact SeqAt.EqAt.none_bool b
  |int b=>obtain⟨t,rfl⟩:=rx;exact SeqAt.EqAt.none_int b t
  |str b=>obtain⟨t,rfl⟩:=rx;exact SeqAt.EqAt.none_str b t
  |_=>exact absurd (show false=true from fx) aW
 |bl a=>
  cases ry
  cases x with
  |non=>cases rx;exact SeqAt.EqAt.bool_none a
  |bl b=>cases rx;exact SeqAt.EqAt.bool_bool a b
  |int b=>obtain⟨t,rfl⟩:=rx;exact SeqAt.EqAt.bool_int a b t
  |str b=>obtain⟨t,rfl⟩:=rx;exact SeqAt.EqAt.bool_str a b t
  |_=>exact absurd (show false=true from fx) aW
 |int a=>
  obtain⟨t',rfl⟩:=ry
  cases x with
  |non=>cases rx;exact SeqAt.EqAt.int_none a t'
  |bl b=>cases rx;exact SeqAt.EqAt.int_bool a t' b
  |int b=>obtain⟨t,rfl⟩:=rx;exact SeqAt.EqAt.int_int a t' b t
  |str b=>obtain⟨t,rfl⟩:=rx;exact SeqAt.EqAt.int_str a t' b t
  |_=>exact absurd (show false=true from fx) aW
 |str a=>
  obtain⟨t',rfl⟩:=ry
  cases x with
  |non=>cases rx;exact SeqAt.EqAt.str_none a t'
  |bl b=>cases rx;exact SeqAt.EqAt.str_bool a t' b
  |int b=>obtain⟨t,rfl⟩:=rx;exact SeqAt.EqAt.str_int a t' b t
  |str b=>obtain⟨t,rfl⟩:=rx;exact SeqAt.EqAt.str_str a t' b t
  |_=>exact absurd (show false=true from fx) aW
 |_=>exact absurd (show false=true from fy) aW
def oY (x:V)(u:af):Bool:=match u with
 |.none=>sn .non x
 |.bool b=>sn (.bl b) x
 |.int i _=>sn (.int i) x
 |.str z _=>sn (.str z) x
 |_=>false
theorem Py {x y:V}{u:af}(r:RelV y u)(f:iP y=true):oY x u=sn y x:=by
 cases y with
 |non=>cases r;rfl
 |bl b=>cases r;rfl
 |int i=>obtain⟨t,rfl⟩:=r;rfl
 |str z=>obtain⟨t,rfl⟩:=r;rfl
 |_=>exact absurd (show false=true from f) aW
theorem IS {x:V}:∀{xs:List V} {us:List af},bZ xs us->xs.all iP=true->us.any (oY x)=xs.any λy=>sn y x
 |_,_,.nil,_=>rfl
 |y::xs,u::us,.cons r t,f=>by
  rw[dB,bS]at f
  rw[eu,eu,Py r f.1,IS t f.2]
theorem Cs {A:bX}{s:am}{x:V}{v:af}(rx:RelV x v)(fx:iP x=true):∀{xs:List V} {us:List af},bZ xs us->xs.all iP=true->∀u∈us,SeqAt.EqAt A s u v (oY x u)
 |_,_,.nil,_=>λu hu=>by cases hu
 |y::xs,u::us,.cons r t,f=>λu' hu=>by
  rw[dB,bS]at f
  rcases aA.mp hu with rfl|hu
  ·rw[Py r f.1];exact zu5 r rx f.1 fx
  ·exact Cs rx fx t f.2 u' hu
def JH (x:V)(xs:List V):Bool:=xs.any λy=>sn y x
def NL (K:ae)(neg:Bool):R2:=λx y H Q=>∃p xs,y=.ref p/\(eR K H p xs\/kN K H p xs)/\iP x=true/\xs.all iP=true/\Q (.bl (if neg then !JH x xs else JH x xs)) H
theorem Th:hJ X (cW .In) (NL X.K false):=by
 intro aj s σ H x y v u Q I rx ry h
 obtain⟨p,xs,rfl,hq,fx,fs,q⟩:=h
 cases ry
 rcases hq with hq|hq
 ·obtain⟨cw,r,pl,hz⟩:=I.list hq
  refine SeqAt.in_listAt (oY x) pl.isList (λw hw=>Cs rx fx r fs w (by simpa using hw)) ⟨.bl _,H,I,rfl,?_⟩
  rw[show cw.toArray.any (oY x)=cw.any (oY x)by simp,IS r fs]
  exact q
 ·obtain⟨cw,r,pl,hz⟩:=I.tuple hq
  refine SeqAt.in_tupleAt (oY x) pl (λw hw=>Cs rx fx r fs w (by simpa using hw)) ⟨.bl _,H,I,rfl,?_⟩
  rw[show cw.toArray.any (oY x)=cw.any (oY x)by simp,IS r fs]
  exact q
theorem zhl:hJ X (cW .NotIn) (NL X.K true):=by
 intro aj s σ H x y v u Q I rx ry h
 obtain⟨p,xs,rfl,hq,fx,fs,q⟩:=h
 cases ry
 rcases hq with hq|hq
 ·obtain⟨cw,r,pl,hz⟩:=I.list hq
  refine SeqAt.notIn_listAt (oY x) pl.isList (λw hw=>Cs rx fx r fs w (by simpa using hw)) ⟨.bl _,H,I,rfl,?_⟩
  rw[show cw.toArray.any (oY x)=cw.any (oY x)by simp,IS r fs]
  exact q
 ·obtain⟨cw,r,pl,hz⟩:=I.tuple hq
  refine SeqAt.notIn_tupleAt (oY x) pl (λw hw=>Cs rx fx r fs w (by simpa using hw)) ⟨.bl _,H,I,rfl,?_⟩
  rw[show cw.toArray.any (oY x)=cw.any (oY x)by simp,IS r fs]
  exact q
theorem zhm:eP X (.builtin "len") (λxs H Q=>∃p ys,xs=[.ref p]/\(eR X.K H p ys\/kN X.K H p ys)/\Q (.int ys.length) H):=by
 intro aj s σ H xs us Q I r h
 obtain⟨p,ys,rfl,hq,q⟩:=h
 obtain⟨u,rfl,rx⟩:=nj r
 cases rx
 have hn:=kx
 rcases hq with hq|hq
 ·obtain⟨cw,r',pl,hz⟩:=I.list hq
  have eo:=r'.length
  exact Calls.call_len_list pl.isList (by simp only[aQ]<;>omega) ⟨.int ys.length,H,I.tok _,⟨s.toks+1,by rw[aQ,eo]⟩,q⟩
 ·obtain⟨cw,r',pl,hz⟩:=I.tuple hq
  have eo:=r'.length
  exact len_tuple pl (by simp only[aQ]<;>omega) ⟨.int ys.length,H,I.tok _,⟨s.toks+1,by rw[aQ,eo]⟩,q⟩
theorem zhn:eP X (.builtin "len") (λxs H Q=>∃z,xs=[.str z]/\z.length<=sizeLine/\Q (.int z.length) H):=by
 intro aj s σ H xs us Q I r h
 obtain⟨z,rfl,hz,q⟩:=h
 obtain⟨u,rfl,t,rfl⟩:=nj r
 have hn:=kx
 exact len_str (by omega) ⟨.int z.length,H,I.tok _,⟨_,rfl⟩,q⟩
theorem eP.or {f:af}{r r':List V->Hp->VK->Prop}(h:eP X f r)(h':eP X f r'):eP X f (λxs H Q=>r xs H Q\/r' xs H Q):=by
 intro aj s σ H xs us Q I rs q
 rcases q with q|q
 ·exact h aj s σ H xs us Q I rs q
 ·exact h' aj s σ H xs us Q I rs q
theorem N9:eP X (.type "list") (λxs H Q=>∃p ys,xs=[.ref p]/\(eR X.K H p ys\/kN X.K H p ys)/\∀l,H l=none->Q (.ref l) (upd H l (.lst ys))):=by
  intro aj s σ H xs us Q I r h
  obtain⟨p,ys,rfl,hq,q⟩:=h
  obtain⟨u,rfl,rx⟩:=nj r
  cases rx
  have fin:∀(cw:List af),bZ ys cw->ys.length<=sizeLine->∀(h':aZ) (c':Nat),(∀b o',s.heap.get? b=some o'->h'.get? b=some o') ->
      h'.get? s.heap.objs.size=some { cls:=.type "list",dict:=none,data:=.seq cw.toArray c',slots:=#[] }->EP X aj σ Q (.ref s.heap.objs.size) { s with heap:=h' }:=λcw r' hz h' c' kp e=>
    ⟨.ref s.heap.objs.size,_,I.laid (t':=s.toks) kp (aF _) (show d6 X.prog X.w _ h' _ (.lst ys)from⟨hz,cw,c',r',e⟩),rfl,q _ (I.hok.fresh (aF _))⟩
  rcases hq with hq|hq
  · obtain⟨cw,r',pl,hz⟩:=I.list hq
    have eo:=r'.length
    obtain⟨o,ho,hc,n,hd⟩:=pl.isList
    exact call_list_seq p (.inl rfl) ho hc hd (λh' c' kp e=>fin cw r' hz h' c' kp e) (by simp only[aQ]<;>omega)
  · obtain⟨cw,r',pl,hz⟩:=I.tuple hq
    have eo:=r'.length
    obtain⟨o,ho,hc,n,hd⟩:=pl
    exact call_list_seq p (.inr rfl) ho hc hd (λh' c' kp e=>fin cw r' hz h' c' kp e) (by simp only[aQ]<;>omega)
def R5 (K:ae)(T:String)(x:V)(H:Hp):Prop:=match x with
 |.str _=>T = "str"
 |.int _=>T = "int"
 |.ref p=>(T = "list"/\∃xs,eR K H p xs)\/(T = "tuple"/\∃o,K.lookup p=some o/\o.cls=.type "tuple"/\o.dict=none) \/
   (T = "dict"/\((∃cF,H p=some (.dK cF))\/∃cF,H p=some (.dT cF)))\/(T = "set"/\∃S n,H p=some (.set S n))
 |_=>False
theorem zu6 {aj:List (ah×dX)}{σ:St}{H:Hp}{s:am}{T:String}{x:V}{v:af}(I:Inv X aj σ H s)(r:RelV x v)(ty:R5 X.K T x H) :
  s.TypeIs v T/\∀a,v=.ref a->∃ob,s.heap.get? a=some ob/\ob.dict=none:=by
 cases x with
 |str z=>
  obtain⟨t,rfl⟩:=r
  cases(show T = "str" from ty)
  exact⟨typeIs_str s z t,λ_ e=>nomatch e⟩
 |int i=>
  obtain⟨t,rfl⟩:=r
  cases(show T = "int" from ty)
  exact⟨xX s i t,λ_ e=>nomatch e⟩
 |ref p=>
  cases r
  rcases ty with⟨rfl,xs,hq⟩|⟨rfl,o,hk,hc,hd⟩|⟨rfl,hk⟩|⟨rfl,S,n,hk⟩
  ·obtain⟨cw,_,pl,_⟩:=I.list hq
   refine⟨pl.isList.typeIs,λa e=>?_⟩
   cases e
   obtain⟨o,n,e,c,hd,_⟩:=pl
   exact⟨o,e,hd⟩
  ·refine⟨⟨o,I.kIn p o hk,hc⟩,λa e=>?_⟩
   cases e
   exact⟨o,I.kIn _ o hk,hd⟩
  ·have z:∃o,s.heap.get? p=some o/\o.ExactDict:=by
    rcases hk with⟨cF,hk⟩|⟨cF,hk⟩
    ·obtain⟨_,_,_,_,o,_,_,e,ex,_⟩:=I.hok p _ hk
     exact⟨o,e,ex⟩
    ·obtain⟨_,_,_,_,o,_,_,e,ex,_⟩:=I.hok p _ hk
     exact⟨o,e,ex⟩
   obtain⟨o,e,ex⟩:=z
   refine⟨⟨o,e,ex.1⟩,λa e2=>?_⟩
   cases e2
   exact⟨o,e,ex.2.1⟩
  ·obtain⟨o,_,_,_,e,ex,_⟩:=I.hok p _ hk
   refine⟨⟨o,e,ex.1⟩,λa e2=>?_⟩
   cases e2
   exact⟨o,e,ex.2.1⟩
 |_=>exact False.elim ty
def tBM (K:ae)(T:String)(r:V->List V->Hp->VK->Prop)(to:TE)(t:TA):TE:=λσ H Q=>to σ H λx H1=>R5 K T x H1/\t σ H1 λxs H2=>r x xs H2 Q
variable {o e:Expr}{es:List Expr}{to:TE}{t:TA}{name:aU}{dF dY:dh}{T id:String}{r:V->List V->Hp->VK->Prop}
theorem K3 (pa:PlainAttrs T)(slot:Slot T name id)(Yf:typeOf (.builtin id)=pure (.type "method_descriptor"))(hm:P6 X id r)(ho:PE X o to)(ha:PA X (e::es) t)
  (m5:eJ o name X.env (bG o X.env)=bG o X.env:=by rfl)
  (qS:((cE dY (ar (e::es) X.env)).all (λx=>!x.1)&&(fq dY (dw [] X.env)).all (λx=>x.1.isSome)
   && decide ((e::es).length+([]:List gh).length+(if([]:List gh).isEmpty then 0 else 1)<30))=true:=by rfl)
  (m7:(dF.endLine==dY.line)=true:=by rfl) (hs:ar (e::es) X.env=(false,bG e X.env)::ar es X.env:=by rfl) (ku:(cE dY (ar es X.env)).any (·.1)=false:=by rfl) :
  PE X (.Call (.Attribute o name dF) (e::es) [] dY) (tBM X.K T r to t):=by
 intro aj s σ H Q I h
 refine wpAny_Call_method_late m5 qS m7 rfl (dA (ho aj s σ H _ I h) λv s1 dJ=>?_)
 obtain⟨x,H1,I1,r1,ty,q1⟩:=dJ
 obtain⟨h1,h2⟩:=zu6 I1 r1 ty
 refine⟨T,id,pa,slot,Yf,h1,h2,?_⟩
 have hA:=ha dY aj s1 σ H1 _ I1 q1
 rw[hs]at hA ⊢
 refine Calls.callWith_builtin (by show(false || (cE dY (ar es X.env)).any (·.1))=false;rw[ku]<;>rfl) (Calls.evalArgs_plain ?_)
 exact dA hA λus s2 ⟨vs,H2,I2,r2,q2⟩=>hm aj s2 σ H2 x vs v us Q I2 r1 r2 q2
end
end L2
namespace L2
open PySem PySem.Spec PyProof.Rows
def P5 (X:Cx)(id:String)(r:V->List V->Hp->VK->Prop):Prop :=
 ∀(aj:List (ah×dX)) (s:am) (σ:St) (H:Hp) (x:V) (xs:List V) (v:af) (us:List af) (Q:VK),Inv X aj σ H s->RelV x v->bZ xs us->r x xs H Q ->
  bo (bj X.prog X.w) X.A (call (.builtin id) (v::us)) (EP X aj σ Q) X.xe s
theorem bZ.one:∀{x:V} {us:List af},bZ [x] us->∃u,us=[u]/\RelV x u
 |_,_,.cons r .nil=>⟨_,rfl,r⟩
theorem bZ.eraseIdx:∀{xs:List V} {us:List af} (i:Nat),bZ xs us->bZ (xs.eraseIdx i) (us.eraseIdx i)
 |_,_,_,.nil=>.nil
 |_,_,0,.cons _ t=>t
 |_,_,i+1,.cons r t=>.cons r (bZ.eraseIdx i t)
theorem bZ.rep {xs:List V}{us:List af}(h:bZ xs us):∀k:Nat,bZ (aC k xs).flatten (aC k us).flatten
 |0=>.nil
 |k+1=>by
  rw[cP,cP,ej,ej]
  exact bZ.append h (bZ.rep h k)
theorem Ti {α:Type}:∀(l:List α) (i:Nat),(l.eraseIdx i).length<=l.length
 |[],_=>aF _
 |_::_,0=>iN _
 |_::r,i+1=>Nat.succ_le_succ (Ti r i)
theorem Tj (cw:List af):∀(k:Nat) (iy:List af),
  rV (λx1 x2=>x1++x2) iy.toArray (aC k cw.toArray)=(iy++(aC k cw).flatten).toArray
 |0,iy=>by simp
 |k+1,iy=>by
  have e:iy.toArray++cw.toArray=(iy++cw).toArray:=by simp
  have e2:(iy++cw)++(aC k cw).flatten=iy++(aC (k+1) cw).flatten:=by
   rw[cP,ej,eX]
  rw[←e2,←Tj cw k (iy++cw),←e,cP,fM]
section
variable {X:Cx}{aj:List (ah×dX)}{σ:St}{H:Hp}{s:am}{l b:ah}{xs ys zs:List V}
theorem Inv.lset {cw its':List af}{n:Nat}{f:Array af->Array af}{t':Nat}(I:Inv X aj σ H s)(hH:H l=some (.lst xs))
    (e:s.heap.get? l=some { cls:=.type "list",data:=.seq cw.toArray n }) (hf:f cw.toArray=its'.toArray) (hv:bZ ys its') (hz:ys.length<=sizeLine) :
    Inv X aj σ (upd H l (.lst ys)) { s with heap:=s.heap.update l (dX.mapSeq f),toks:=t' }:=by
  have q:=PySem.IsL.update e f
  rw[hf]at q
  refine I.write (x:=l) (e:=l) (by rw[hH];exact trivial) (.inl rfl) (λb' u hb hu=>(jB s.heap (dX.mapSeq f) (Ne.symm hb)).trans hu) ⟨_,q⟩ ?_
  exact⟨hz,its',_,hv,q⟩
theorem Inv.lnew {cw:List af}{t':Nat}(I:Inv X aj σ H s)(hv:bZ ys cw)(hz:ys.length<=sizeLine) :
    Inv X aj σ (upd H s.heap.objs.size (.lst ys)) { s with heap:=s.heap.push { cls:=.type "list",data:=.seq cw.toArray },toks:=t' } :=
  I.laid (λ_ _ q=>aH _ q) (aF _) ⟨hz,cw,0,hv,bF _ rfl⟩
theorem Inv.fresh (I:Inv X aj σ H s):H s.heap.objs.size=none:=I.hok.fresh (aF _)
theorem Inv.lstM (I:Inv X aj σ H s)(hH:H l=some (.lst xs)):xs.length<=sizeLine/\∃(cw:List af) (n:Nat),bZ xs cw/\xs.length=cw.length/\s.heap.get? l=some { cls:=.type "list",data:=.seq cw.toArray n }:=by
  obtain⟨z,cw,n,r,e⟩:=I.hok l _ hH
  exact⟨z,cw,n,r,r.length,e⟩
theorem uG {n:Nat}(h:n<=sizeLine):fN.List.listTooLong n=false:=by
 unfold fN.List.listTooLong
 exact decide_eq_false (by omega)
end
section
variable {X:Cx}
def xB:V->List V->Hp->VK->Prop:=λx vs H Q=>∃l xs y,x=.ref l/\vs=[y]/\H l=some (.lst xs)/\xs.length<sizeLine/\Q .non (upd H l (.lst (xs++[y])))
theorem J7:P5 X "list.append" xB:=by
 intro aj s σ H x vs v us Q I rx rv h
 obtain⟨l,xs,y,rfl,rfl,hH,hz,q⟩:=h
 cases rx
 obtain⟨u,rfl,ru⟩:=rv.one
 obtain⟨z,cw,n,r,hl,e⟩:=I.lstM hH
 refine mJ F.slot_list_append ⟨_,e,rfl⟩ F.entry_list_append (F.args_list_append_2 _ _) (PySem.list_append l cw.toArray n u (by rw[aQ];omega)) ⟨e,?_⟩
 refine⟨.non,_,I.lset (its':=cw++[u]) hH e (by simp) (r.append (.cons ru .nil)) ?_,rfl,q⟩
 rw[aX,cT]
 omega
def BB:V->List V->Hp->VK->Prop:=λx vs H Q=>∃l xs i k y,x=.ref l/\vs=[.int i]/\H l=some (.lst xs)/\-(2 ^ 63)<=i/\i<2 ^ 63/\seqIndex? i xs.length=some k/\xs[k]?=some y/\Q y (upd H l (.lst (xs.eraseIdx k)))
theorem zo3:P5 X "list.pop" BB:=by
 intro aj s σ H x vs v us Q I rx rv h
 obtain⟨l,xs,i,k,y,rfl,rfl,hH,h1,h2,hk,hy,q⟩:=h
 cases rx
 obtain⟨u,rfl,ru⟩:=rv.one
 obtain⟨t,rfl⟩:=ru
 obtain⟨z,cw,n,r,hl,e⟩:=I.lstM hH
 obtain⟨w,hw,nR⟩:=r.get hy
 refine mJ F.slot_list_pop ⟨_,e,rfl⟩ F.entry_list_pop (F.args_list_pop_2 _ _)
  (MeetsSeq.list_pop_at l cw.toArray n i t k w (fitsIndex_both h1 h2) (by rw[aQ,←hl];exact hk) (by rw[←Array.getElem?_toList];exact hw) (by rw[aQ];omega)) ⟨e,?_⟩
 refine⟨y,_,I.lset (its':=cw.eraseIdx k) hH e ?_ (r.eraseIdx k) ?_,nR,q⟩
 ·show cw.toArray.eraseIdxIfInBounds k=(cw.eraseIdx k).toArray
  rw[List.eraseIdxIfInBounds_toArray]
 ·have:=Ti xs k
  omega
theorem zr8 {α:Type}(xs:List α)(k:Nat):(aC k xs).flatten.length=k*xs.length:=by
 induction k with
 |zero=>simp
 |succ k ih=>rw[cP,ej,aX,ih,Nat.succ_mul,Nat.add_comm]
end
section
variable {prog:bz}{w:ce}{A:bX}{E:af->am->Prop}{s:am}
end
section
variable {X:Cx}
end
end L2
namespace Att
open PySem PySem.W PySem.Calls PyProof.Rows
theorem zd0 {P:Params}{h:aZ}:∀(ns:List Int) (vs:List af),WellAll P h vs (ns.map WData.int)->IntsAre vs ns:=by
 intro ns
 induction ns with
 |nil=>
  intro vs w
  rw[lA]at w
  cases w
  exact .nil
 |cons n ns ih=>
  intro vs w
  rw[aR]at w
  cases w with
  |cons a b=>
   cases a
   exact .cons _ _ (ih _ b)
theorem zmc {l:OpenLaw}{n:Nat}(hn:l.most=some n){P:Params}{h:aZ}{args:List WData}{vals:List af}
    (oN:l.row.toRowW.claim.pre args=true) (FY:WellAll P h vals args) :
    ∃a vs ns,vals=[af.ref a]/\args=[WData.list (ns.map WData.int)]/\h.get? a=some { cls:=.type "list",data:=.seq vs.toArray }/\IntsAre vs ns/\ns.length<=n:=by
  have Ye:WShape.hasAll [] args [.list .int]=true:=(pre_splitW oN).1
  have hc:l.pre.holds [] { args:=args }=true:=(pre_splitW oN).2
  obtain⟨d,r,rfl,h1,h2⟩:=hasAllW_cons Ye
  obtain rfl:=hasAllW_nil h2
  obtain⟨xs,rfl,h3⟩:=hasW_list h1
  obtain⟨ns,rfl⟩:=items_int h3
  have eo:ns.length<=n:=by
    unfold OpenLaw.pre at hc
    have h4:(WTm.not (.lt (.lit (.int (n:Int))) (.len (.arg 0)))).holds [] { args:=[.list (ns.map .int)] }=true:=by
      have h4:=(holds_andW hc).1
      rw[hn]at h4
      exact h4
    have h5:=condW_of h4 (w_not (w_lt w_lit (w_len_list (w_arg rfl))))
    rw[aB]at h5
    refine Nat.le_of_not_lt λq=>?_
    have q':(n:Int)<((ns.length:Nat):Int):=by omega
    first
      |(rw[decide_eq_true q']at h5;exact absurd h5 (by decide))
      |(simp at h5;omega)
  cases FY with
  |cons w1 w2=>
    cases w2
    cases w1 with
    |list ho pI=>exact⟨_,_,ns,rfl,rfl,ho,zd0 ns _ pI,eo⟩
theorem zmd (l:OpenLaw)(args:List WData):l.row.toRowW.claim.post args (.bool true) args=true :=
  postW_of (r:=l.row.toRowW) (X:=(true==true))
    (show WShape.has [] (.bool true) .bool=true by first|rfl|decide|simp[WShape.has,WShape.arms,WShape.armsAll])
    (show(WTm.eq .res (.lit (.bool true))).value [] { args:=args,res:=some (.bool true),after:=args }=some (.bool (true==true))from w_eq_bool (w_res rfl) w_lit) rfl
theorem attach_call {l:OpenLaw}{n:Nat}{q:bz}{loose:List aU}{XP:(aU->Option af)->aZ->Prop}{YP:ce->aZ->Prop}{d:DefRec}
    (hn:l.most=some n) (FE:d.params.defaults=[])
    (call:∀(w:ce) (s₀ s₁:am) (mg mb:aU->Option af) (fa:ah) (o:dX) (pm cd doc:af) (a:ah) (vs:List af) (ns:List Int),
      Ground q loose [] XP w s₀ mg mb s₁.heap->YP w s₁.heap ->
      s₁.heap.get? fa=some o->o.data=.func (docDef d.name d.params d.body d.scope pm cd doc)->s₁.heap.CodeRec cd d.name->mg d.name=some (.ref fa) ->
      s₁.heap.get? a=some { cls:=.type "list",data:=.seq vs.toArray }->IntsAre vs ns->ns.length<=n->s₁.gens = #[] ->
      gP (bj l.prog w) nt (.call (.ref fa) ⟨[.ref a],[]⟩) (λr s'=>r=.ok (.ret (.bool true))/\OldK s₁.heap s'.heap/\s'.os=s₁.os/\AllBare s'.gens) s₁) :
    WalkO q loose XP YP l.row.toRowW d [] (λf vs=>PySem.call f vs):=by
  intro w s₀ s₁ mg mb G Y fa o pm cd doc dV kV ho hd jF hD hmg hg args vals as oN XY hrd FY hlo
  obtain rfl:dV=.none:=Dflts.none hD FE
  obtain rfl:kV=.none:=Dflts.noKw hD
  obtain⟨a,vs,ns,rfl,rfl,A9,t5,eo⟩:=zmc hn oN FY
  refine enter_call (nu (call w s₀ s₁ mg mb fa o pm cd doc a vs ns G Y ho (fd_plain hd) jF hmg A9 t5 eo hg) λr s' hq=>?_)
  obtain⟨rfl,h2,h3,h4⟩:=hq
  exact⟨.inl ⟨.bool true,.bool true,[],rfl,λ_=>rfl,.bool true,zmd l _,λ_=>⟨fJ.nil,λ_ hm=>(nomatch hm)⟩⟩,h2,h3,h4⟩
section
variable {prog:bz}{w:ce}{A:bX}{E:af->am->Prop}{s:am}{K:Frag}
end
end Att
namespace L2
open PySem PySem.Spec PyProof.Rows
theorem Oo:∀{vs:List af} {ns:List Int},IntsAre vs ns->bZ (ns.map V.int) vs
 |_,_,.nil=>.nil
 |_,_,.cons n t h=>.cons ⟨t,rfl⟩ (Oo h)
def zF (H:Hp):Prop:=∀b,H b=none\/∃o xs,H b=some (.frz o (.lst xs))
theorem zo4 {P:bz}{w:ce}{K:ae}{mg mb:aU->Option af}{CX:sX}{k:Nat}{fa a:ah}{fd:aI}{x:aU}{sp:Sp}{s₁:am}{vs:List af}{ns:List Int}
    (KX:K.In s₁.heap) (jL:s₁.heap.Ns aq mg) (hb:s₁.heap.Ns xW mb) (Xx:∀x:aU,x≠"__name__"->mb x=bW x) (Na:s₁.heap.NoLimit) (hg:s₁.gens = #[])
    (ha:s₁.heap.get? a=some { cls:=.type "list",data:=.seq vs.toArray }) (hi:IntsAre vs ns) (hl:ns.length<=sizeLine) (hr:eM k nt)
    (F:∀base:aZ,K.In base->base.Ns aq mg->cB P w K mg base CX k fa fd [x] sp) (FA:∀(s:am) (u:af),pv s fd ⟨[u],[]⟩ [(x,u)])
    (yK:∀H:Hp,zF H->eR K H a (ns.map V.int)->sp [.ref a] H (λv _=>v=.bl true) λ_ _ _=>False)
    (MJ:∀H e s',CX [] H s₁ (λ_ _ _=>False) e s'->False) :
    gP (bj P w) nt (.call (.ref fa) ⟨[.ref a],[]⟩) (λr s'=>r=.ok (.ret (.bool true))/\OldK s₁.heap s'.heap/\s'.os=s₁.os/\AllBare s'.gens) s₁:=by
  have rv:=Oo hi
  have NB:=hi.length
  have core:∀H:Hp,zF H->eR K H a (ns.map V.int)->kC P w H s₁.heap->(∀b,H b≠none->b=a)->(H a≠none->K.lookup a=none) ->
      gP (bj P w) nt (.call (.ref fa) ⟨[.ref a],[]⟩) (λr s'=>r=.ok (.ret (.bool true))/\OldK s₁.heap s'.heap/\s'.os=s₁.os/\AllBare s'.gens) s₁:=by
    intro H hO hS hok hA hK
    have rF:∀{b:ah} {o:dX},s₁.heap.get? b=some o->H b=none->(oK s₁.heap H).get? b=some o:=λe n=>zor e n
    have Hd:∀{b:ah} {o:dX} {es:Array DictEntry} {ep:Nat},s₁.heap.get? b=some o->o.data=.dict es ep->H b=none:=λ{b o es ep} e d=>by
      cases q:H b with
      |none=>rfl
      |some u=>
        have e':b=a:=hA b (by rw[q];simp)
        subst e'
        rw[ha]at e;cases e
        have d':kz.seq vs.toArray _=kz.dict es ep:=d
        cases d'
    have JL:∀{b:ah} {m:aU->Option af},s₁.heap.Ns b m->(oK s₁.heap H).Ns b m:=λ{b m} ⟨o,es,ep,e,d,r⟩=>⟨o,es,ep,rF e (Hd e d),d,r⟩
    have QM:K.In (oK s₁.heap H):=λb o e=>rF (KX b o e) (by
      cases q:H b with
      |none=>rfl
      |some u=>
        have e':b=a:=hA b (by rw[q];simp)
        subst e'
        rw[hK (by rw[q];simp)]at e;cases e)
    have hM:Mod K mg (oK s₁.heap H):=⟨QM,JL jL,⟨mb,JL hb,Xx⟩,let⟨mc,h1,h2⟩:=Na;⟨mc,JL h1,h2⟩⟩
    have e0:qF P w K mg (oK s₁.heap H) nt [] s₁ H:=⟨rfl,hM,λb o e=>zrp e,Nat.le_of_eq (zlr _ _),trivial,λb hb=>absurd (show b∈([]:List ah)from hb) (by simp),hok,.of_eq hg⟩
    refine nu ((F _ QM (JL jL)).run nt [] s₁ H ⟨[.ref a],[]⟩ [.ref a] [.ref a] _ _ hr e0 (FA s₁ (.ref a)) (.cons rfl .nil) (yK H hO hS)) λr s' h=>?_
    cases r with
    |error e=>exact(MJ H e s' h).elim
    |ok fl=>
      cases fl with
      |next=>exact False.elim h
      |brk=>exact False.elim h
      |cont=>exact False.elim h
      |ret u=>
        obtain⟨v,H',os,bare,un,Nd,r',q⟩:=h
        have q':v=.bl true:=q
        subst q'
        obtain rfl:u=af.bool true:=r'
        refine⟨rfl,OldK.of_keep λb o e=>?_,os,bare⟩
        cases q:H b with
        |none=>exact un.keep b o e q (by intro z;exact absurd (show b∈([]:List ah)from z) (by simp)) (by simp)
        |some u=>
          rcases hO b with z|⟨ob,xs,z⟩
          · rw[q]at z;cases z
          · have z2:=un.frzs b ob _ z
            obtain⟨e1,_⟩:=hok b _ z
            obtain⟨e2,_⟩:=Nd b _ z2
            rw[e]at e1;cases e1
            exact e2
  cases hk:K.lookup a with
  |some o=>
    have e:=KX a o hk
    rw[ha]at e
    cases e
    refine core (λ_=>none) (λ_=>.inl rfl) (.inr ⟨_,vs.toArray,_,hk,rfl,rfl,rfl,by rw[aQ,NB];exact hl,by simpa using rv⟩) (λb u z=>by have z':(none:Option HO)=some u:=z;cases z') (λb z=>absurd rfl z) λz=>absurd rfl z
  |none=>
    refine core (λb=>if b=a then some (.frz { cls:=.type "list",data:=.seq vs.toArray } (.lst (ns.map V.int)))else none) (λb=>?_) (.inl (.inr ⟨{ cls:=.type "list",data:=.seq vs.toArray },if_pos rfl⟩)) (λb u z=>?_) (λb z=>?_) λ_=>hk
    · by_cases hb:b=a
      · exact .inr ⟨_,_,if_pos hb⟩
      · exact .inl (if_neg hb)
    · by_cases hb:b=a
      · have z':=(if_pos hb).symm.trans z
        cases z'
        subst hb
        exact⟨ha,by rw[aB];exact hl,vs,_,rv,ha⟩
      · have z':=(if_neg hb).symm.trans z
        cases z'
    · by_cases hb:b=a
      · exact hb
      · exact absurd (if_neg hb) z
end L2
namespace L2
open PySem PySem.Spec PyProof.Rows
theorem walk_of {l:lW}{n k:Nat}{q:bz}{loose:List aU}{XP:(aU->Option af)->aZ->Prop}{YP:ce->aZ->Prop}{d:DefRec}{K:Params->ae}{CX:ce->sX}{sp:ce->Sp}{x:aU}
  (hn:l.most=some n) (t7:n<=sizeLine) (FE:d.params.defaults=[]) (hr:eM k nt)
  (hY:∀(w:ce) (h:aZ),YP w h->(K w.params).In h)
  (F:∀(w:ce) (mg:aU->Option af) (fa:ah) (h:aZ),(K w.params).In h->h.Ns aq mg->mg d.name=some (.ref fa) ->
   ∃fd:aI,(∀(s:am) (u:af),pv s fd ⟨[u],[]⟩ [(x,u)]) /\
    ∀base:aZ,(K w.params).In base->base.Ns aq mg->cB l.prog w (K w.params) mg base (CX w) k fa fd [x] (sp w))
  (yK:∀(w:ce) (H:Hp) (a:ah) (ns:List Int),ns.length<=n->zF H->eR (K w.params) H a (ns.map V.int)->sp w [.ref a] H (λv _=>v=.bl true) λ_ _ _=>False)
  (MJ:∀(w:ce) (H:Hp) (s:am) (e:af) (s':am),CX w [] H s (λ_ _ _=>False) e s'->False) :
  tL q loose XP YP l.row.toRowW d [] (λf vs=>PySem.call f vs):=by
 refine Att.attach_call hn FE λw s₀ s₁ mg mb fa o pm cd doc a vs ns G Y ho hd jF hmg A9 t5 eo hg=>?_
 have KX:=hY w _ Y
 obtain⟨fd,hb,hF⟩:=F w mg fa _ KX G.T.g hmg
 exact zo4 KX G.T.g G.T.b G.T.builtins G.T.nolimit hg A9 t5 (cD eo t7) hr hF hb (λH hO hS=>yK w H a ns eo hO hS) λH e s'=>MJ w H s₁ e s'
end L2
namespace L2
open PySem PySem.Spec PyProof.Rows
def inClass (s:bO)(j:Nat):bO:=match s with
 |.ClassDef _ _ _ body _ _ _ _ _ _ _=>body.getD j (.Pass ⟨0,0,0,0⟩)
 |_=>.Pass ⟨0,0,0,0⟩
def mM (s:bO):Arguments:=match s with
  |.FunctionDef _ a _ _ _ _ _ _ _ _=>a
  |_=>{ posonlyargs:=[],args:=[],vararg:=none,kwonlyargs:=[],kw_defaults:=[],kwarg:=none,defaults:=[] }
def hU (s:bO):List bO:=match s with
 |.FunctionDef _ _ b _ _ _ _ _ _ _=>b
 |_=>[]
def aL (s:bO):gx:=match s with
  |.FunctionDef _ _ _ _ _ _ sc _ _ _=>sc
  |_=>{ kind:=.function,names:=[],isGenerator:=false,isCoroutine:=false }
abbrev eF:sX:=λ_ _ _ _ _ _=>False
abbrev E0:XK:=λ_ _ _=>False
theorem oj {X:Cx}:jN eF X E0:=λ_ _ _ _ _ _ _ h=>h.elim
section
variable {P:bz}{w:ce}{K:ae}{mg:aU->Option af}{base:aZ}
end
theorem uT {A:bX}{k:Nat}(hr:eM k A):A.units+1<gz:=kY (Nat.add_le_add_left (by decide:1<=64) _) hr.units
theorem sE {n:Nat}(h:n<=1000):n<sizeLine:=kY h (by decide)
section
variable {X:Cx}
end
def bR (H H':Hp):Prop:=∀b o,H b=some o->H' b=some o
theorem bR.refl (H:Hp):bR H H:=λ_ _ h=>h
theorem bR.trans {H H1 H2:Hp}(a:bR H H1)(b:bR H1 H2):bR H H2:=λc o h=>b c o (a c o h)
theorem bR.free {H H':Hp}(e:bR H H'){l:ah}(h:H' l=Option.none):H l=Option.none:=by
 cases q:H l with
 |none=>rfl
 |some o=>
  rw[e l o q]at h
  cases h
theorem bR.seq {K:ae}{H H':Hp}{a:ah}{xs:List V}(e:bR H H')(h:eR K H a xs):eR K H' a xs:=by
 rcases h with(h|⟨o,h⟩)|h
 ·exact .inl (.inl (e _ _ h))
 ·exact .inl (.inr ⟨o,e _ _ h⟩)
 ·exact .inr h
end L2
namespace L2
open PySem PySem.Spec PyProof.Rows
section
variable {κ:Type}[DecidableEq κ]
def iQ (cF:List (κ×V))(k:κ):Option V:=(cF.find? λkv=>decide (kv.1=k)).map (·.2)
def putK (cF:List (κ×V))(k:κ)(v:V):List (κ×V) :=
 if(cF.any λkv=>decide (kv.1=k))=true then cF.map (λkv=>if kv.1=k then(kv.1,v)else kv)else cF++[(k,v)]
theorem OF {p:κ×V}{r:List (κ×V)}{k:κ}(e:p.1=k):iQ (p::r) k=some p.2:=by simp[iQ,di,e]
theorem OG {p:κ×V}{r:List (κ×V)}{k:κ}(e:¬p.1=k):iQ (p::r) k=iQ r k:=by simp[iQ,di,e]
theorem TJ (k:κ):∀cF:List (κ×V),(cF.any λkv=>decide (kv.1=k))=(iQ cF k).isSome
 |[]=>rfl
 |p::r=>by
  rw[eu]
  by_cases e:p.1=k
  ·simp only[OF e,decide_eq_true e,Bool.true_or,Option.isSome_some]
  ·rw[OG e,decide_eq_false e,Bool.false_or];exact TJ k r
theorem Sv (cF:List (κ×V))(k:κ)(v:V):(putK cF k v).length<=cF.length+1:=by
 unfold putK
 split
 ·rw[aB];omega
 ·rw[aX,aO,List.length_nil];omega
theorem jD.isSome_eq {o:Option V}{u:Option af}(r:jD o u):o.isSome=u.isSome:=by
 cases o with
 |none=>cases u with
  |none=>rfl
  |some _=>exact(show False from r).elim
 |some _=>cases u with
  |none=>exact(show False from r).elim
  |some _=>rfl
theorem jD.getD {o:Option V}{u:Option af}{d:V}{d':af}(r:jD o u)(rd:RelV d d'):RelV (o.getD d) (u.getD d'):=by
 cases o with
 |none=>cases u with
  |none=>exact rd
  |some _=>exact(show False from r).elim
 |some _=>cases u with
  |none=>exact(show False from r).elim
  |some _=>exact r
theorem KV.val {cF:List (κ×V)}{vs:List (κ×af)}(r:KV cF vs)(k:κ):jD (iQ cF k) (nz vs k):=by
 unfold KV at r
 induction r with
 |nil=>exact True.intro
 |@cons p q ps qs h t ih=>
  obtain⟨h1,h2⟩:=h
  by_cases e:p.1=k
  ·have e':q.1=k:=h1.symm.trans e
   have b:nz (q::qs) k=some q.2:=by simp[nz,di,e']
   rw[OF e,b];exact h2
  ·have e':¬q.1=k:=λz=>e (h1.trans z)
   have b:nz (q::qs) k=nz qs k:=by simp[nz,di,e']
   rw[OG e,b];exact ih
theorem KV.any {cF:List (κ×V)}{vs:List (κ×af)}(r:KV cF vs)(k:κ):(cF.any λkv=>decide (kv.1=k))=vs.any λkv=>decide (kv.1=k):=by
 unfold KV at r
 induction r with
 |nil=>rfl
 |cons h t ih=>rw[eu,eu,ih,h.1]
theorem KV.repl {cF:List (κ×V)}{vs:List (κ×af)}(r:KV cF vs)(k:κ){y:V}{u:af}(ry:RelV y u) :
  KV (cF.map λkv=>if kv.1=k then(kv.1,y)else kv) (vs.map λkv=>if kv.1=k then(kv.1,u)else kv):=by
 unfold KV at r ⊢
 induction r with
 |nil=>exact .nil
 |@cons p q ps qs h t ih=>
  rw[aR,aR]
  refine .cons ?_ ih
  obtain⟨h1,h2⟩:=h
  by_cases e:p.1=k
  ·rw[if_pos e,if_pos (h1.symm.trans e)];exact⟨h1,ry⟩
  ·rw[if_neg e,if_neg (λz=>e (h1.trans z))];exact⟨h1,h2⟩
theorem KV.put {cF:List (κ×V)}{vs:List (κ×af)}(r:KV cF vs)(k:κ){y:V}{u:af}(ry:RelV y u):KV (putK cF k y) (stored vs k u):=by
 unfold putK stored
 rw[r.any k]
 by_cases e:(vs.any λkv=>decide (kv.1=k))=true
 ·rw[if_pos e,if_pos e];exact r.repl k ry
 ·rw[if_neg e,if_neg e];exact Paired.snoc r ⟨rfl,ry⟩
theorem KV.length {cF:List (κ×V)}{vs:List (κ×af)}(r:KV cF vs):cF.length=vs.length:=Paired.length r
end
theorem CJ {P:bz}{w:ce}{k:fw}{u:af}(r:RelV (kV k) u):(eO P w).is k u=true:=by
 cases k with
 |inl i=>obtain⟨t,e⟩:=(show∃t,u=af.int i t from r);subst e;exact ziv P w i t
 |inr x=>obtain⟨t,e⟩:=(show∃t,u=af.str x t from r);subst e;exact ziw P w x t
theorem Tl {P:bz}{w:ce}:∀{ks:List fw} {us:List af},bZ (ks.map kV) us->ItemsAre (eO P w) ks us
 |[],_,r=>by rw[lA]at r;cases r;exact .nil
 |k::ks,_,r=>by
  rw[aR]at r
  cases r with
  |cons h t=>exact .cons (CJ h) (Tl t)
abbrev KT (H:Hp):List (List fw×V)->List (List fw×ah×af)->Prop:=Paired λp q=>p.1=q.1/\H q.2.1=some (.tup (p.1.map kV))/\RelV p.2 q.2.2
theorem KT.val {H:Hp}{cF:List (List fw×V)}{xs:List (List fw×ah×af)}(r:KT H cF xs)(k:List fw):jD (iQ cF k) ((pW xs k).map (·.2)):=by
 induction r with
 |nil=>exact True.intro
 |@cons p q ps qs h t ih=>
  obtain⟨h1,_,h2⟩:=h
  by_cases e:p.1=k
  ·have e':q.1=k:=h1.symm.trans e
   have b:pW (q::qs) k=some q.2:=by simp[pW,di,e']
   rw[OF e,b];exact h2
  ·have e':¬q.1=k:=λz=>e (h1.trans z)
   have b:pW (q::qs) k=pW qs k:=by simp[pW,di,e']
   rw[OG e,b];exact ih
theorem KT.repl {H:Hp}{cF:List (List fw×V)}{xs:List (List fw×ah×af)}(r:KT H cF xs)(k:List fw){y:V}{u:af}(ry:RelV y u) :
  KT H (cF.map λkv=>if kv.1=k then(kv.1,y)else kv) (xs.map (putAt k u)):=by
 induction r with
 |nil=>exact .nil
 |@cons p q ps qs h t ih=>
  rw[aR,aR]
  refine .cons ?_ ih
  obtain⟨h1,h2,h3⟩:=h
  unfold putAt
  by_cases e:p.1=k
  ·rw[if_pos e,if_pos (h1.symm.trans e)];exact⟨h1,h2,ry⟩
  ·rw[if_neg e,if_neg (λz=>e (h1.trans z))];exact⟨h1,h2,h3⟩
theorem KT.put {H:Hp}{cF:List (List fw×V)}{xs:List (List fw×ah×af)}(r:KT H cF xs)(k:List fw){b:ah}{y:V}{u:af}(hb:H b=some (.tup (k.map kV)))(ry:RelV y u) :
  KT H (putK cF k y) (storedH xs k b u):=by
 have e:(cF.any λkv=>decide (kv.1=k))=(pW xs k).isSome:=by
  rw[TJ,(r.val k).isSome_eq,kJ]
 unfold putK storedH
 rw[e]
 by_cases q:(pW xs k).isSome=true
 ·rw[if_pos q,if_pos q];exact r.repl k ry
 ·rw[if_neg q,if_neg q];exact Paired.snoc r ⟨rfl,hb,ry⟩
theorem KT.keeps {H H':Hp}{cF:List (List fw×V)}{xs:List (List fw×ah×af)}(r:KT H cF xs)(ht:∀b ys,H b=some (.tup ys)->H' b=some (.tup ys)):KT H' cF xs :=
 Paired.mapP r λ_ _ z=>⟨z.1,ht _ _ z.2.1,z.2.2⟩
section
variable {P:bz}{w:ce}{H:Hp}{h:aZ}{a:ah}
theorem Vq {u:HO}(ok:kC P w H h)(e:Rd H a u):d6 P w H h a u:=e.ok ok
theorem zA {cF:List (fw×V)}(ok:kC P w H h)(e:Rd H a (.dK cF)):cF.length<=sizeLine/\(a==eY)=false/\∃vs,KV cF vs/\h.DictOf (eO P w) a vs :=
 show d6 P w H h a (.dK cF)from Vq ok e
theorem zw8 {cF:List (fw×V)}(ok:kC P w H h)(e:H a=some (.dK cF)):cF.length<=sizeLine/\(a==eY)=false/\∃vs,KV cF vs/\h.DictOf (eO P w) a vs:=zA ok (.inl e)
theorem CF {ks:List fw}(ok:kC P w H h)(e:H a=some (.tup (ks.map kV))):(lC (eO P w)).is h ks a:=by
 obtain⟨_,cw,r,o,h1,h2,n,h3⟩:=(show d6 P w H h a (.tup (ks.map kV))from ok a _ e)
 exact⟨o,cw.toArray,n,h1,h2,h3,by simpa using Tl r⟩
theorem BU {cF:List (List fw×V)}(ok:kC P w H h)(e:Rd H a (.dT cF)):cF.length<=sizeLine/\(a==eY)=false /\
  ∃xs,KT H cF xs/\h.DictOfH (lC (eO P w)) a xs:=by
 obtain⟨z,y,xs,r,o,es,ep,h1,h2,h3,h4,h5⟩:=(show d6 P w H h a (.dT cF)from Vq ok e)
 refine⟨z,y,xs,r,o,es,ep,h1,h2,h3,h4,λx hx=>?_,h5⟩
 have all:∀{l:List (List fw×V)} {m:List (List fw×ah×af)},KT H l m->∀x∈m,(lC (eO P w)).is h x.1 x.2.1:=by
  intro l m q
  induction q with
  |nil=>intro x hx;exact nomatch hx
  |@cons p q ps qs hq t ih=>
   intro x hx
   rcases aA.mp hx with e|hx
   ·subst e
    exact CF ok (by rw[←hq.1];exact hq.2.1)
   ·exact ih x hx
 exact all r x hx
theorem zw9 {cF:List (List fw×V)}(ok:kC P w H h)(e:H a=some (.dT cF)):cF.length<=sizeLine/\(a==eY)=false /\
  ∃xs,KT H cF xs/\h.DictOfH (lC (eO P w)) a xs:=BU ok (.inl e)
end
def ka (H:Hp)(a:ah)(y:V)(r:Option V):Prop :=
 (∃cF k,Rd H a (.dK cF)/\y=kV k/\r=iQ cF k)\/∃cF k b,Rd H a (.dT cF)/\y=.ref b/\H b=some (.tup (k.map kV))/\r=iQ cF k
def nF (H:Hp)(a:ah)(y v:V)(H':Hp):Prop :=
 (∃cF k,H a=some (.dK cF)/\y=kV k/\cF.length<sizeLine/\H'=upd H a (.dK (putK cF k v))) \/
 ∃cF k b,H a=some (.dT cF)/\y=.ref b/\H b=some (.tup (k.map kV))/\cF.length<sizeLine/\H'=upd H a (.dT (putK cF k v))
theorem ka.k {H:Hp}{a:ah}{cF:List (fw×V)}{k:fw}(e:H a=some (.dK cF)):ka H a (kV k) (iQ cF k):=.inl ⟨cF,k,.inl e,rfl,rfl⟩
theorem ka.t {H:Hp}{a b:ah}{cF:List (List fw×V)}{k:List fw}(e:H a=some (.dT cF))(eb:H b=some (.tup (k.map kV))):ka H a (.ref b) (iQ cF k):=.inr ⟨cF,k,b,.inl e,rfl,eb,rfl⟩
theorem nF.k {H:Hp}{a:ah}{cF:List (fw×V)}{k:fw}{v:V}(e:H a=some (.dK cF))(hl:cF.length<sizeLine):nF H a (kV k) v (upd H a (.dK (putK cF k v))):=.inl ⟨cF,k,e,rfl,hl,rfl⟩
theorem nF.t {H:Hp}{a b:ah}{cF:List (List fw×V)}{k:List fw}{v:V}(e:H a=some (.dT cF))(eb:H b=some (.tup (k.map kV)))(hl:cF.length<sizeLine) :
  nF H a (.ref b) v (upd H a (.dT (putK cF k v))):=.inr ⟨cF,k,b,e,rfl,eb,hl,rfl⟩
section
variable {X:Cx}{aj:List (ah×dX)}{σ:St}{H:Hp}{s:am}{a:ah}{y v:V}{u r:af}{o:Option V}{A:bX}{E:af->am->Prop}
theorem Inv.big (I:Inv X aj σ H s):eY<s.heap.objs.size:=by
 have h:aq<s.heap.objs.size:=(I.mod.glob.keeps I.bk).lt
 exact Nat.lt_trans (by decide) h
theorem zme {Q:af->am->Prop}(hu:A.units+1<gz)(I:Inv X aj σ H s)(g:ka H a y (some v))(ry:RelV y u)(h:∀w' s',Inv X aj σ H s'->RelV v w'->Q w' s') :
  bo (bj X.prog X.w) A (nv (.ref a) u) Q E s:=by
 rcases g with⟨cF,k,e,ey,l⟩|⟨cF,k,b,e,ey,eb,l⟩
 ·subst ey
  obtain⟨z,hd,vs,rel,dd⟩:=zA I.hok e
  obtain⟨w',hw,nR⟩:=jD.some_of (v:=v) (o:=nz vs k) (by rw[l];exact rel.val k)
  exact wpAny_getItem_of (CJ ry) dd.mapOf hw (h w' _ (I.tok _) nR)
 ·subst ey
  cases(show u=af.ref b from ry)
  obtain⟨z,hd,xs,rel,dd⟩:=BU I.hok e
  obtain⟨w',hw,nR⟩:=jD.some_of (v:=v) (o:=(pW xs k).map (·.2)) (by rw[l];exact rel.val k)
  obtain⟨p,hp,sy⟩:=dg.mp hw
  refine wpAny_getItem_heap (gu hu) (CF I.hok eb) dd hp ?_
  rw[sy]
  exact h w' _ (I.tok _) nR
theorem Lz {Q:af->am->Prop}(hu:A.units+1<gz)(I:Inv X aj σ H s)(g:ka H a y o)(ry:RelV y u)(h:∀s',Inv X aj σ H s'->Q (.bool o.isSome) s') :
  bo (bj X.prog X.w) A (cW .In u (.ref a)) Q E s:=by
 rcases g with⟨cF,k,e,ey,l⟩|⟨cF,k,b,e,ey,eb,l⟩
 ·subst ey
  obtain⟨z,hd,vs,rel,dd⟩:=zA I.hok e
  refine wpAny_in_of (CJ ry) hd dd.mapOf ?_
  rw[←(rel.val k).isSome_eq,←l]
  exact h _ (I.tok _)
 ·subst ey
  cases(show u=af.ref b from ry)
  obtain⟨z,hd,xs,rel,dd⟩:=BU I.hok e
  refine wpAny_in_heap (gu hu) (CF I.hok eb) hd dd ?_
  have q:=(rel.val k).isSome_eq
  rw[kJ]at q
  rw[←q,←l]
  exact h _ (I.tok _)
theorem zr9 {Q:af->am->Prop}(hu:A.units+1<gz)(I:Inv X aj σ H s)(g:ka H a y o)(ry:RelV y u)(h:∀s',Inv X aj σ H s'->Q (.bool (!o.isSome)) s') :
  bo (bj X.prog X.w) A (cW .NotIn u (.ref a)) Q E s:=by
 rcases g with⟨cF,k,e,ey,l⟩|⟨cF,k,b,e,ey,eb,l⟩
 ·subst ey
  obtain⟨z,hd,vs,rel,dd⟩:=zA I.hok e
  refine wpAny_notIn_of (CJ ry) hd dd.mapOf ?_
  rw[←(rel.val k).isSome_eq,←l]
  exact h _ (I.tok _)
 ·subst ey
  cases(show u=af.ref b from ry)
  obtain⟨z,hd,xs,rel,dd⟩:=BU I.hok e
  refine wpAny_notIn_heap (gu hu) (CF I.hok eb) hd dd ?_
  have q:=(rel.val k).isSome_eq
  rw[kJ]at q
  rw[←q,←l]
  exact h _ (I.tok _)
theorem Ut {h':aZ}{t':Nat}{ob:HO}(I:Inv X aj σ H s)(mu:CU (H a))(hs:ik a s.heap h')(he:∃q,h'.get? a=some q)(new:d6 X.prog X.w (upd H a ob) h' a ob) :
  Inv X aj σ (upd H a ob) { s with heap:=h',toks:=t' } :=
 I.write (x:=a) (e:=a) mu (.inl rfl) (λb q hb z=>(hs.2 b hb).trans z) he new
theorem zu8 {P:bz}{w:ce}{H':Hp}{h':aZ}{cF:List (fw×V)}{vs:List (fw×af)}(z:cF.length<=sizeLine)(hd:(a==eY)=false)(rel:KV cF vs)(dd:h'.DictOf (eO P w) a vs) :
  d6 P w H' h' a (.dK cF):=⟨z,hd,vs,rel,dd⟩
theorem zmg {H':Hp}{Q:Unit->am->Prop}(hu:A.units+1<gz)(I:Inv X aj σ H s)(g:nF H a y v H')(ry:RelV y u)(rv:RelV v r)(h:∀s',Inv X aj σ H' s'->Q () s') :
  bo (bj X.prog X.w) A (ny (.ref a) u r) Q E s:=by
 rcases g with⟨cF,k,e,ey,l,eH⟩|⟨cF,k,b,e,ey,eb,l,eH⟩
 ·subst ey eH
  obtain⟨z,hd,vs,rel,dd⟩:=zw8 I.hok e
  have hz:vs.length<=sizeLine:=by rw[←rel.length];exact z
  have hl:(putK cF k v).length<=sizeLine:=by have:=Sv cF k v;omega
  refine wpAny_setItem_pairs (hsz:=hz) (CJ ry) dd λh' Jl hs=>h _ ?_
  have he:∃q,h'.get? a=some q:=let⟨q,_,_,hq,_⟩:=Jl;⟨q,hq⟩
  exact Ut I (by rw[e];exact True.intro) hs he (zu8 hl hd (rel.put k rv) Jl)
 ·subst ey eH
  cases(show u=af.ref b from ry)
  obtain⟨z,hd,xs,rel,dd⟩:=zw9 I.hok e
  have hz:xs.length<=sizeLine:=by rw[←Paired.length rel];exact z
  have hl:(putK cF k v).length<=sizeLine:=by have:=Sv cF k v;omega
  refine wpAny_setItem_heap (hsz:=hz) (gu hu) (CF I.hok eb) dd λh' Jl hs=>h _ ?_
  obtain⟨q,es,ep,hq,h2,h3,h4,_,h5⟩:=Jl
  refine Ut I (by rw[e];exact True.intro) hs ⟨q,hq⟩ ⟨hl,hd,_,(rel.put k eb rv).keeps λc ys ec=>?_,q,es,ep,hq,h2,h3,h4,h5⟩
  rw[yo (zw0 ec e (λz=>nomatch z))]
  exact ec
end
section
variable {X:Cx}{aj:List (ah×dX)}{σ:St}{H:Hp}{s:am}{a:ah}{cF:List (fw×V)}{k:fw}{u:af}{A:bX}{E:af->am->Prop}
theorem zxa {Q:af->am->Prop}(I:Inv X aj σ H s)(e:Rd H a (.dK cF))(h:∀t s',Inv X aj σ H s'->Q (.int cF.length t) s'):bo (bj X.prog X.w) A (call (.builtin "len") [.ref a]) Q E s:=by
 obtain⟨z,hd,vs,rel,dd⟩:=zA I.hok e
 refine call_len_dict hd dd (by rw[←rel.length];rw[cO]at z;omega) ?_
 rw[←rel.length]
 exact h _ _ (I.tok _)
end
def zE (i:Expr):Prop:=∀ov iv,oC i false ov iv=operate [ov,iv] (nv ov iv)
theorem zsa {prog:bz}{w:ce}{A:bX}{E:af->am->Prop}{s:am}{env:Env}{value slice:Expr}{pos:dh}{T id:String}{Q:af->am->Prop}
  (hl:p4 (.type T) "__getitem__"=pure (some (.builtin id))) (hs:zE slice)
  (h:bo (bj prog w) A (bG value env) (λo s₁=>bo (bj prog w) A (bG slice env) (λi s₂=>s₂.TypeIs o T/\bo (bj prog w) A (nv o i) Q E s₂) E s₁) E s) :
  bo (bj prog w) A (bG (.Subscript value slice pos) env) Q E s:=by
 refine Subscript_ (dW h (λo s₁ h₁=>dW h₁ (λi s₂ h₂=>?_) λ_ _ x=>x) λ_ _ x=>x)
 obtain⟨hT,h₂⟩:=h₂
 unfold subscriptTail
 refine ba ?_
 rw[getitemInPython_of_ne hT.not_modules]
 refine ba (oX hT hl ?_)
 have fin:bo (bj prog w) A (oC slice false o i) (λr s₃=>bo (bj prog w) A (letTemporaryGo value o r >>= λ_=>pure r) Q E s₃) E s₂:=by
  rw[hs o i]
  exact wpAny_operating (dW h₂ (λr s₃ h₃=>ba (wpAny_letTemporaryGo (cx h₃))) λ_ _ x=>x)
 first
  |exact cx (ba fin)
  |exact ba (cx (ba fin))
  |exact ba fin
theorem zi1 {X:Cx}{aj:List (ah×dX)}{σ:St}{H:Hp}{s:am}{a:ah}{y:V}{o:Option V}(I:Inv X aj σ H s)(g:ka H a y o):s.TypeIs (.ref a) "dict":=by
 rcases g with⟨cF,k,e,_,_⟩|⟨cF,k,b,e,_,_,_⟩
 ·obtain⟨_,_,vs,_,dd⟩:=zA I.hok e
  exact dd.typeIs
 ·obtain⟨_,_,xs,_,dd⟩:=BU I.hok e
  exact dd.typeIs
def Iv (td ty:TE):TE:=λσ H Q=>td σ H λx H1=>ty σ H1 λy H2=>∃a v,x=.ref a/\ka H2 a y (some v)/\Q v H2
def NT (ty td:TE):TE:=λσ H Q=>ty σ H λy H1=>td σ H1 λx H2=>∃a o,x=.ref a/\ka H2 a y o/\Q (.bl o.isSome) H2
def xE (ty td:TE):TE:=λσ H Q=>ty σ H λy H1=>td σ H1 λx H2=>∃a o,x=.ref a/\ka H2 a y o/\Q (.bl (!o.isSome)) H2
def Io (td ty tv:TE):TS:=λD σ H=>tv σ H λv H1=>td σ H1 λx H2=>ty σ H2 λy H3=>∃a H4,x=.ref a/\nF H3 a y v H4/\D.nx σ H4
section
variable {X:Cx}{o i e value:Expr}{pos pos' gE:dh}{td ty tv:TE}
theorem zsb (hu:X.A.units+1<gz)(ho:PE X o td)(hi:PE X i ty)(hs:zE i):PE X (.Subscript o i pos) (Iv td ty):=by
 intro aj s σ H Q I h
 refine zsa PySem.F.slot_dict_getitem.lookup hs (dA (ho aj s σ H _ I h) λu s1 ⟨x,H1,I1,rx,q1⟩=>dA (hi aj s1 σ H1 _ I1 q1) λiv s2 dJ=>?_)
 obtain⟨y,H2,I2,ry,a,v,ex,g,q2⟩:=dJ
 subst ex
 obtain rfl:u=af.ref a:=rx
 exact⟨zi1 I2 g,zme hu I2 g ry λw' s3 I3 nR=>⟨v,H2,I3,nR,q2⟩⟩
theorem zu9 (hu:X.A.units+1<gz)(hi:PE X i ty)(ho:PE X o td):PC X .In i o (NT ty td):=by
 intro aj s σ H Q I h
 refine dA (hi aj s σ H _ I h) λiv s1 ⟨y,H1,I1,ry,q1⟩=>dA (ho aj s1 σ H1 _ I1 q1) λu s2 dJ=>?_
 obtain⟨x,H2,I2,rx,a,ov,ex,g,q2⟩:=dJ
 subst ex
 obtain rfl:u=af.ref a:=rx
 exact Lz hu I2 g ry λs3 I3=>⟨.bl ov.isSome,H2,I3,rfl,q2⟩
theorem zmh (hu:X.A.units+1<gz)(hi:PE X i ty)(ho:PE X o td):PC X .NotIn i o (xE ty td):=by
 intro aj s σ H Q I h
 refine dA (hi aj s σ H _ I h) λiv s1 ⟨y,H1,I1,ry,q1⟩=>dA (ho aj s1 σ H1 _ I1 q1) λu s2 dJ=>?_
 obtain⟨x,H2,I2,rx,a,ov,ex,g,q2⟩:=dJ
 subst ex
 obtain rfl:u=af.ref a:=rx
 exact zr9 hu I2 g ry λs3 I3=>⟨.bl (!ov.isSome),H2,I3,rfl,q2⟩
theorem Uv (hu:X.A.units+1<gz)(ho:PE X o td)(hi:PE X i ty)(hv:PE X value tv)(hs:dR value (some (.Subscript o i pos')) pos.line X.env=pure false) :
  PS X (.Assign [.Subscript o i pos'] value pos) (Io td ty tv):=by
 intro aj s σ H D I h
 refine wpAny_Assign_Subscript (dA (hv aj s σ H _ I h) λr s1 ⟨v,H1,I1,rv,q1⟩=>dA (ho aj s1 σ H1 _ I1 q1) λu s2 ⟨x,H2,I2,rx,q2⟩=>dA (hi aj s2 σ H2 _ I2 q2) λiv s3 ⟨y,H3,I3,ry,a,H4,ex,g,q3⟩=>?_) hs
 subst ex
 obtain rfl:u=af.ref a:=rx
 exact zmg hu I3 g ry rv λs4 I4=>⟨σ,H4,I4,q3⟩
end
theorem zo5 {P:bz}{w:ce}{H:Hp}(h:aZ)(hb:eY<h.objs.size):d6 P w H (h.push { cls:=.type "dict",data:=.dict #[] }) h.objs.size (.dK []) :=
  ⟨cQ _,beq_eq_false_iff_ne.mpr (Ne.symm (br hb)),[],.nil,aZ.DictOf.new h⟩
theorem zo6 {P:bz}{w:ce}{H:Hp}(h:aZ)(hb:eY<h.objs.size):d6 P w H (h.push { cls:=.type "dict",data:=.dict #[] }) h.objs.size (.dT []) :=
  ⟨cQ _,beq_eq_false_iff_ne.mpr (Ne.symm (br hb)),[],.nil,_,#[],0,bF _ rfl,⟨rfl,rfl,rfl⟩,rfl,rfl,bP⟩
def BG:TE:=λ_ H Q=>∀p,H p=none->Q (.ref p) (upd H p (.dK []))
def BH:TE:=λ_ H Q=>∀p,H p=none->Q (.ref p) (upd H p (.dT []))
section
variable {X:Cx}{pos:dh}
theorem zo7:PE X (.Dict [] [] pos) BG:=λaj s σ H Q I h=>
 wpAny_Dict_empty ⟨.ref s.heap.objs.size,_,I.laid (a:=s.heap.objs.size) (o:=.dK []) (t':=s.toks) (λ_ _ q=>aH _ q) (aF _) (zo5 s.heap I.big),rfl,h _ (I.hok.fresh (aF _))⟩
theorem zo8:PE X (.Dict [] [] pos) BH:=λaj s σ H Q I h=>
 wpAny_Dict_empty ⟨.ref s.heap.objs.size,_,I.laid (a:=s.heap.objs.size) (o:=.dT []) (t':=s.toks) (λ_ _ q=>aH _ q) (aF _) (zo6 s.heap I.big),rfl,h _ (I.hok.fresh (aF _))⟩
end
structure M1 (X:Cx)(o:Expr)(m:aU)(dF:dh)(e:Expr)(dY:dh):Prop where
 base:eJ o m X.env (bG o X.env)=bG o X.env
 few:((cE dY (ar [e] X.env)).all (λx=>!x.1)&&(fq dY (dw [] X.env)).all (λx=>x.1.isSome)
  && decide (([e]:List Expr).length+([]:List gh).length+(if([]:List gh).isEmpty then 0 else 1)<30))=true
 line:(dF.endLine==dY.line)=true
 trees:cE dY (ar [e] X.env)=[(false,bG e X.env)]
def Jc (H:Hp)(a:ah):Prop:=(∃cF,Rd H a (.dK cF))\/∃cF,Rd H a (.dT cF)
theorem zva {X:Cx}{aj:List (ah×dX)}{σ:St}{H:Hp}{s:am}{a:ah}(I:Inv X aj σ H s)(d:Jc H a) :
  s.TypeIs (.ref a) "dict"/\(∀b,af.ref a=.ref b->∃ob,s.heap.get? b=some ob/\ob.dict=none)/\(a==eY)=false:=by
 rcases d with⟨cF,e⟩|⟨cF,e⟩
 ·obtain⟨_,hd,vs,_,dd⟩:=zA I.hok e
  refine⟨dd.typeIs,λb q=>?_,hd⟩
  cases q
  obtain⟨ob,_,_,h1,h2,_⟩:=dd
  exact⟨ob,h1,h2.2.1⟩
 ·obtain⟨_,hd,xs,_,dd⟩:=BU I.hok e
  refine⟨dd.typeIs,λb q=>?_,hd⟩
  cases q
  obtain⟨ob,_,_,h1,h2,_⟩:=dd
  exact⟨ob,h1,h2.2.1⟩
section
variable {X:Cx}{aj:List (ah×dX)}{σ:St}{H:Hp}{s:am}{a:ah}{y d:V}{u r:af}{o:Option V}{A:bX}{E:af->am->Prop}
theorem zvb {Q:af->am->Prop}(hu:A.units+1<gz)(I:Inv X aj σ H s)(g:ka H a y o)(ry:RelV y u)(h:∀w' s',Inv X aj σ H s'->RelV (o.getD .non) w'->Q w' s') :
  bo (bj X.prog X.w) A (call (.builtin "dict.get") [.ref a,u]) Q E s:=by
 rcases g with⟨cF,k,e,ey,l⟩|⟨cF,k,b,e,ey,eb,l⟩
 ·subst ey
  obtain⟨z,hd,vs,rel,dd⟩:=zA I.hok e
  refine call_meetsIn PySem.F.slot_dict_get dd.typeIs PySem.F.entry_dict_get (PySem.F.args_dict_get_2 _ _) (meets_dict_get (eO X.prog X.w) a (CJ ry) hd) ⟨_,dd.mapOf,h _ _ (I.tok _) ?_⟩
  rw[l]
  exact(rel.val k).getD rfl
 ·subst ey
  cases(show u=af.ref b from ry)
  obtain⟨z,hd,xs,rel,dd⟩:=BU I.hok e
  refine call_meetsIn PySem.F.slot_dict_get dd.typeIs PySem.F.entry_dict_get (PySem.F.args_dict_get_2 _ _) (meetsH_dict_get (lC (eO X.prog X.w)) a b hd) ⟨gu hu,k,xs,CF I.hok eb,dd,h _ _ (I.tok _) ?_⟩
  rw[l]
  exact(rel.val k).getD rfl
end
def BE (td ty:TE):TE:=λσ H Q=>td σ H λx H1=>∃a,x=.ref a/\Jc H1 a/\ty σ H1 λy H2=>∃o,ka H2 a y o/\Q (o.getD .non) H2
section
variable {X:Cx}{o e f:Expr}{dF dY:dh}{td ty tx:TE}
theorem zo9 (hu:X.A.units+1<gz)(ho:PE X o td)(he:PE X e ty)(m:M1 X o "get" dF e dY):PE X (.Call (.Attribute o "get" dF) [e] [] dY) (BE td ty):=by
 intro aj s σ H Q I h
 refine wpAny_Call_method m.base m.few m.line PySem.F.plainAttrs_dict PySem.F.slot_dict_get PySem.F.type_dict_get (dA (ho aj s σ H _ I h) λu s1 dJ=>?_)
 obtain⟨x,H1,I1,rx,a,ex,d,q1⟩:=dJ
 subst ex
 obtain rfl:u=af.ref a:=rx
 obtain⟨t1,t2,_⟩:=zva I1 d
 refine⟨t1,t2,?_⟩
 rw[m.trees]
 refine Calls.callWith_builtin rfl (Calls.evalArgs_plain (Calls.spliced_cons (dA (he aj s1 σ H1 _ I1 q1) λiv s2 ⟨y,H2,I2,ry,ov,g,q2⟩=>Calls.spliced_nil ?_)))
 exact zvb hu I2 g ry λw' s3 I3 nR=>⟨_,H2,I3,nR,q2⟩
end
section
variable {X:Cx}{aj:List (ah×dX)}{σ:St}{H:Hp}{s:am}{a:ah}{cF:List (fw×V)}{A:bX}{E:af->am->Prop}
end
section
variable {X:Cx}{aj:List (ah×dX)}{σ:St}{H:Hp}{s:am}{a:ah}{y:V}{u:af}{A:bX}{E:af->am->Prop}
end
end L2
namespace L2
open PySem PySem.Spec PyProof.Rows
section
variable {X:Cx}
theorem zmk:eP X (.builtin "len") (λxs H Q=>∃a cF,xs=[V.ref a]/\H a=some (.dK cF)/\Q (.int cF.length) H):=by
 intro aj s σ H xs us Q I r h
 obtain⟨a,cF,rfl,ha,q⟩:=h
 obtain⟨u,rfl,ru⟩:=nj r
 cases ru
 exact zxa I (.inl ha) λt s' I'=>⟨.int cF.length,H,I',⟨t,rfl⟩,q⟩
end
end L2
namespace L2
open PySem
section
variable {κ:Type}[DecidableEq κ]
end
end L2
namespace L2
open PySem PySem.Spec PyProof.Rows
def Sz (n:Nat)(i:Int):Prop:=i.natAbs<2 ^ n
theorem Sz.bits {n:Nat}{i:Int}(h:Sz n i):fN.Int.intBits i<=n:=by
 unfold fN.Int.intBits
 by_cases h0:(i==0)=true
 ·rw[if_pos h0];exact cQ _
 ·rw[if_neg h0]
  have hi:i.natAbs≠0:=by
   have:i≠0:=by simpa using h0
   omega
  exact Nat.succ_le_of_lt ((mS hi).mpr h)
theorem Sz.log {n:Nat}{i:Int}(h:Sz n i)(hn:0<n):i.natAbs.log2<n:=by
 by_cases hi:i.natAbs=0
 ·rw[hi];exact hn
 ·exact(mS hi).mpr h
theorem Sz.mono {n m:Nat}{i:Int}(h:Sz n i)(hm:n<=m):Sz m i:=bu h (dE (by decide) hm)
theorem Sz.le {n:Nat}{i j:Int}(h:Sz n i)(hj:j.natAbs<=i.natAbs):Sz n j:=kY hj h
theorem Sz.mul {n m:Nat}{i j:Int}(h:Sz n i)(h':Sz m j):Sz (n+m) (i*j):=by
 unfold Sz at *
 rw[xT,Nat.pow_add]
 exact Nat.mul_lt_mul'' h h'
theorem Sz.add {n:Nat}{i j:Int}(h:Sz n i)(h':Sz n j):Sz (n+1) (i+j):=by
 unfold Sz at *
 rw[lU]
 omega
def nX (i j:Int):Prop:=zB i j\/(Sz 100000 i/\Sz 100000 j)
theorem nX.ok {i j:Int}(h:nX i j):IntMulOk i j:=by
 rcases h with h|h
 ·exact h.ok
 ·exact IntMulOk.of_bits (cD h.1.bits (by decide)) (cD h.2.bits (by decide))
section
variable {X:Cx}
theorem vc:hJ X (eh .Mult) (rI nX λi j=>.int (i*j)):=Ck λ_ _ _ _ _ _ _ hc q=>mul_int q hc.ok
theorem ux:hJ X (eh .FloorDiv) (rI (λ_ j=>j≠0/\Sz 9000 j) λi j=>.int (i.fdiv j)) :=
 Ck λ_ _ _ _ _ _ _ hc q=>floordiv_int hc.1 q (.inl (PyProof.noPylong_of_log2 (hc.2.log (by decide))))
theorem RelV.bool_iff {x:V}{v:af}{b:Bool}(r:RelV x v):(v==af.bool b)=decide (x=.bl b):=by
 cases x with
 |bl c=>
  cases(show v=af.bool c from r)
  by_cases h:c=b
  ·subst h;simp
  ·have h1:¬V.bl c=V.bl b:=λz=>h (V.bl.inj z)
   rw[decide_eq_false h1]
   exact beq_eq_false_iff_ne.mpr λz=>h (by injection z)
 |non=>cases(show v=af.none from r);rw[decide_eq_false (λz=>nomatch z)];exact beq_eq_false_iff_ne.mpr λz=>nomatch z
 |int i=>obtain⟨t,rfl⟩:=(show∃t,v=af.int i t from r);rw[decide_eq_false (λz=>nomatch z)];exact beq_eq_false_iff_ne.mpr λz=>nomatch z
 |str i=>obtain⟨t,rfl⟩:=(show∃t,v=af.str i t from r);rw[decide_eq_false (λz=>nomatch z)];exact beq_eq_false_iff_ne.mpr λz=>nomatch z
 |byt i=>obtain⟨t,rfl⟩:=(show∃t,v=af.bytes i t from r);rw[decide_eq_false (λz=>nomatch z)];exact beq_eq_false_iff_ne.mpr λz=>nomatch z
 |flt i=>obtain⟨t,rfl⟩:=(show∃t,v=af.float i t from r);rw[decide_eq_false (λz=>nomatch z)];exact beq_eq_false_iff_ne.mpr λz=>nomatch z
 |ref i=>cases(show v=af.ref i from r);rw[decide_eq_false (λz=>nomatch z)];exact beq_eq_false_iff_ne.mpr λz=>nomatch z
 |ty i=>cases(show v=af.type i from r);rw[decide_eq_false (λz=>nomatch z)];exact beq_eq_false_iff_ne.mpr λz=>nomatch z
theorem zhs {x:V}{v:af}{b:Bool}(r:RelV x v):plainIs v (.bool b)=true:=by
 cases x with
 |bl c=>cases(show v=af.bool c from r);rfl
 |non=>cases(show v=af.none from r);rfl
 |int i=>obtain⟨t,rfl⟩:=(show∃t,v=af.int i t from r);rfl
 |str i=>obtain⟨t,rfl⟩:=(show∃t,v=af.str i t from r);rfl
 |byt i=>obtain⟨t,rfl⟩:=(show∃t,v=af.bytes i t from r);rfl
 |flt i=>obtain⟨t,rfl⟩:=(show∃t,v=af.float i t from r);rfl
 |ref i=>cases(show v=af.ref i from r);rfl
 |ty i=>cases(show v=af.type i from r);rfl
theorem zvc:hJ X (cW .Is) (λx y H Q=>∃b,y=.bl b/\Q (.bl (decide (x=.bl b))) H):=by
 intro aj s σ H x y v u Q I rx ry h
 obtain⟨b,rfl,q⟩:=h
 cases ry
 exact wpAny_is_plain (zhs rx) (U5 I q (RelV.bool_iff rx).symm)
theorem zpa:eP X (.builtin "isinstance") (λxs H Q=>∃x c t b,xs=[x,.ty c]/\kr X.K H x t/\bV X.K t (.type c)=some b/\Q (.bl b) H):=by
 intro aj s σ H xs us Q I r h
 obtain⟨x,c,t,b,rfl,ty,e,q⟩:=h
 obtain⟨u,w',rfl,ru,nR⟩:=vals2 r
 cases(show w'=af.type c from nR)
 exact Tb I ru ty e λtk=>⟨.bl b,H,I.tok tk,rfl,q⟩
theorem zml:eP X (.builtin "isinstance") (λxs H Q=>∃x C t b,xs=[x,.ref C]/\kr X.K H x t/\bV X.K t (.ref C)=some b/\Q (.bl b) H):=by
 intro aj s σ H xs us Q I r h
 obtain⟨x,c,t,b,rfl,ty,e,q⟩:=h
 obtain⟨u,w',rfl,ru,nR⟩:=vals2 r
 cases(show w'=af.ref c from nR)
 exact Tb I ru ty e λtk=>⟨.bl b,H,I.tok tk,rfl,q⟩
end
mutual
inductive Dt (K:ae)(H:Hp):V->cN->Prop
 |non:Dt K H .non .none
 |bl (b:Bool):Dt K H (.bl b) (.bool b)
 |int (i:Int):Dt K H (.int i) (.int i)
 |str (x:aU):Dt K H (.str x) (.str x)
 |lst {a:ah} {xs:List V} {ds:List cN}:eR K H a xs->Dts K H xs ds->Dt K H (.ref a) (.list ds)
 |tup {a:ah} {xs:List V} {ds:List cN}:kN K H a xs->Dts K H xs ds->Dt K H (.ref a) (.tuple ds)
inductive Dts (K:ae)(H:Hp):List V->List cN->Prop
 |nil:Dts K H [] []
 |cons {v:V} {d:cN} {vs:List V} {ds:List cN}:Dt K H v d->Dts K H vs ds->Dts K H (v::vs) (d::ds)
end
section
variable {X:Cx}{aj:List (ah×dX)}{σ:St}{H:Hp}{s:am}
mutual
theorem Dt.reads (I:Inv X aj σ H s):∀{v:V} {d:cN} {u:af},Dt X.K H v d->RelV v u->∃as,Reads s.heap u d as
 |_,_,_,.non,r=>by cases r;exact⟨_,.none⟩
 |_,_,_,.bl b,r=>by cases r;exact⟨_,.bool b⟩
 |_,_,_,.int i,r=>by obtain⟨t,rfl⟩:=r;exact⟨_,.int i t⟩
 |_,_,_,.str x,r=>by obtain⟨t,rfl⟩:=r;exact⟨_,.str x t⟩
 |_,_,_,.lst hq ds,r=>by
  obtain⟨cw,rv,⟨o,n,e,c,_,dd⟩,_⟩:=I.list hq
  obtain⟨as,ra⟩:=Dts.reads I ds rv
  cases r
  exact⟨_,.list e c dd (by simpa using ra)⟩
 |_,_,_,.tup hq ds,r=>by
  obtain⟨cw,rv,⟨o,e,c,n,dd⟩,_⟩:=I.tuple hq
  obtain⟨as,ra⟩:=Dts.reads I ds rv
  cases r
  exact⟨_,.tuple e c dd (by simpa using ra)⟩
theorem Dts.reads (I:Inv X aj σ H s):∀{vs:List V} {ds:List cN} {us:List af},Dts X.K H vs ds->bZ vs us->∃as,ReadsAll s.heap us ds as
 |_,_,_,.nil,r=>by cases r;exact⟨_,.nil⟩
 |_,_,_,.cons h t,r=>by
  cases r with
  |cons p q=>
   obtain⟨as,ra⟩:=Dt.reads I h p
   obtain⟨bs,rb⟩:=Dts.reads I t q
   exact⟨_,.cons ra rb⟩
end
end
section
variable {X:Cx}
def By (K:ae)(neg:Bool):R2:=λx y H Q=>∃d e,Dt K H x d/\Dt K H y e/\d.canLay0=true/\e.canLay0=true/\min d.depth e.depth<=60/\Q (.bl (if neg then !cN.eqv d e else cN.eqv d e)) H
theorem uz (hu:X.A.units+64<gz):hJ X (cW .Eq) (By X.K false):=by
 intro aj s σ H x y v u Q I rx ry h
 obtain⟨d,e,hd,he,c1,c2,dp,q⟩:=h
 obtain⟨as,ra⟩:=hd.reads I rx
 obtain⟨bs,rb⟩:=he.reads I ry
 exact SeqAt.compareEq_reads ra rb c1 c2 (by omega) ⟨.bl _,H,I,rfl,q⟩
theorem Pz (hu:X.A.units+64<gz):hJ X (cW .NotEq) (By X.K true):=by
 intro aj s σ H x y v u Q I rx ry h
 obtain⟨d,e,hd,he,c1,c2,dp,q⟩:=h
 obtain⟨as,ra⟩:=hd.reads I rx
 obtain⟨bs,rb⟩:=he.reads I ry
 exact SeqAt.compareNe_reads ra rb c1 c2 (by omega) ⟨.bl _,H,I,rfl,q⟩
theorem Dts.ints (K:ae)(H:Hp):∀ns:List Int,Dts K H (ns.map V.int) (ns.map cN.int)
 |[]=>.nil
 |n::r=>.cons (.int n) (Dts.ints K H r)
end
theorem BL {H:Hp}{p:ah}(h:H p=none)(o:HO):bR H (upd H p o):=λb u q=>by rw[yo (xu q h)];exact q
theorem eM.u64 {k:Nat}{A:bX}(r:eM k A):A.units+64<gz:=r.units
theorem small {n:Nat}(h:n<=1000):n<=sizeLine:=lS (sE h)
end L2
namespace L2
open PySem PySem.Spec PyProof.Rows
end L2
namespace L2
open PySem PySem.Spec PyProof.Rows
end L2
namespace L2
open PySem
theorem zvd:bW "int"=some (.type "int"):=by decide +kernel
theorem U6:bW "str"=some (.type "str"):=by decide +kernel
theorem zsc:bW "bool"=some (.type "bool"):=by decide +kernel
theorem CB:bW "list"=some (.type "list"):=by decide +kernel
theorem zve:bW "len"=some (.builtin "len"):=by decide +kernel
theorem zvf:bW "abs"=some (.builtin "abs"):=by decide +kernel
theorem PB:bW "max"=some (.builtin "max"):=by decide +kernel
theorem PH:bW "sum"=some (.builtin "sum"):=by decide +kernel
theorem So:bW "isinstance"=some (.builtin "isinstance"):=by decide +kernel
theorem zmp:bW "sorted"=some (.builtin "sorted"):=by decide +kernel
theorem PJ:bW "all"=some (.builtin "all"):=by decide +kernel
end L2
namespace L2
open PySem PySem.Spec PyProof.Rows
section
variable {prog:bz}{w:ce}{A:bX}{R:Result->am->Prop}{s:am}
theorem Sl {jX target iter:Expr}{ifs:List Expr}{scope:gx}{pos:dh}{it iy:af}{env:Env}(I:Nat->am->Prop)
  (cz:∀n s,I n s->bo (bj prog w) A (pyNext it) (λr s₁=>match r with
   |none=>R (.ok .next) s₁
   |some v=>bo (bj prog w) A (iC target it v) (λ_ RW=>bo (bj prog w) A (ie target env v) (λ_ s₂=>
     bo (bj prog w) A (forIn ifs true λc r=>if r=true then do let ok ← sR c env (bG c env);pure (ForInStep.yield ok)else pure (ForInStep.yield r)) (λok s₃=>
      if ok=true then bo (bj prog w) A (bG jX env) (λx s₄=>
       bo (bj prog w) A (call (.builtin "list.append") [iy,x]) (λ_ s₅=>∃m,m<n/\I m s₅) (λ_ _=>False) s₄) (λ_ _=>False) s₃
      else∃m,m<n/\I m s₃) (λ_ _=>False) s₂) (λ_ _=>False) RW) (λ_ _=>False) s₁) (λ_ _=>False) s)
  (n:Nat) (h:I n s) :
  gP (bj prog w) A (.compLoop (.ListComp jX [⟨target,iter,ifs,0⟩] scope pos) 0 it iy env) R s:=by
 have up:∀{α:Type} {m:pw α} {Q:α->am->Prop} {E:af->am->Prop} {s:am},bo (bj prog w) A m Q (λ_ _=>False) s->bo (bj prog w) A m Q E s:=λh=>dW h (λ_ _ q=>q) λ_ _ f=>f.elim
 refine codeAny_loop rfl I (λn s hI=>?_) n h
 show bo _ A ((compTurn (.ListComp jX [⟨target,iter,ifs,0⟩] scope pos) 0 it iy env).onRaise (λx=>do noteFrame x env;theTreesLotGoes x)) _ _ s
 refine wpAny_noted ?_
 rw[compTurn_list]
 refine ba (rB (ba (dW (up (cz n s hI)) (λr s₁ h₁=>?_) λ_ _ h'=>h')))
 cases r with
 |none=>exact cx h₁
 |some v=>
  refine ba (dW (up h₁) (λ_ RW Ym=>?_) λ_ _ h'=>h')
  refine ba (dW (up Ym) (λ_ s₂ h₂=>ba (dW (up h₂) (λok s₃ h₃=>?_) λ_ _ h'=>h')) λ_ _ h'=>h')
  cases ok with
  |false=>exact cx ⟨rfl,h₃⟩
  |true=>
   exact ba (ba (dW (up h₃) (λx s₄ h₄=>ba (dW (up h₄) (λ_ s₅ h₅=>cx (cx ⟨rfl,h₅⟩)) λ_ _ h'=>h')) λ_ _ h'=>h'))
end
theorem J8 {env:Env}:∀(names:List (aU×bx)) (iy:List (aU×ah)),(∀x∈names,x.2=.free->∃c,env.cells.lookup x.1=some c)->(∀y c,iy.lookup y=some c->env.cells.lookup y=some c) ->
  ∃cl,(forIn names iy λ(x:aU×bx) (cs:List (aU×ah))=>if(x.2==bx.free)=true then do let a ← cellOf env x.1;pure (ForInStep.yield ((x.1,a)::cs))else pure (ForInStep.yield cs):pw (List (aU×ah)))=pure cl /\
   (∀y c,cl.lookup y=some c->env.cells.lookup y=some c)/\(∀x∈names,x.2=.free->∃c,cl.lookup x.1=some c)/\∀y c,iy.lookup y=some c->∃c',cl.lookup y=some c'
 |[],iy,_,ha=>⟨iy,rfl,ha,λ_ h=>(nomatch h),λy c h=>⟨c,h⟩⟩
 |(n,k)::r,iy,hn,ha=>by
  by_cases hk:k=.free
  ·subst hk
   obtain⟨c,hc⟩:=hn (n,.free) aa rfl
   have e1:cellOf env n=pure c:=by unfold cellOf;rw[hc]
   have Ju:∀y d,((n,c)::iy).lookup y=some d->env.cells.lookup y=some d:=λy d h=>by
    rw[bw]at h
    cases hy:y==n with
    |true=>
     rw[hy]at h
     have:y=n:=eq_of_beq hy
     subst this
     cases h
     exact hc
    |false=>rw[hy]at h;exact ha y d h
   obtain⟨cl,h1,h2,h3,h4⟩:=J8 r ((n,c)::iy) (λx hx=>hn x (ai _ hx)) Ju
   refine⟨cl,?_,h2,?_,?_⟩
   ·rw[mR]
    simp only[beq_self_eq_true,if_true,e1,pure_bind]
    exact h1
   ·intro x hx hf
    rcases aA.mp hx with rfl|hx
    ·exact h4 n c (by rw[bw,beq_self_eq_true])
    ·exact h3 x hx hf
   ·intro y d hy
    cases hb:y==n with
    |true=>exact h4 y c (by rw[bw,hb])
    |false=>exact h4 y d (by rw[bw,hb];exact hy)
  ·have hb:(k==bx.free)=false:=by simpa using hk
   obtain⟨cl,h1,h2,h3,h4⟩:=J8 r iy (λx hx=>hn x (ai _ hx)) ha
   refine⟨cl,?_,h2,?_,h4⟩
   ·rw[mR]
    simp only[hb,dr,if_false,pure_bind]
    exact h1
   ·intro x hx hf
    rcases aA.mp hx with rfl|hx
    ·exact absurd hf hk
    ·exact h3 x hx hf
theorem KA (n:Nat)(a:aU)(r:List (aU×bx))(iy:List (aU×ah)):cellsFrom n ((a,.cell)::r) iy=cellsFrom (n+1) r ((a,n)::iy):=rfl
theorem KR {k:bx}(hk:k≠.cell)(n:Nat)(a:aU)(r:List (aU×bx))(iy:List (aU×ah)):cellsFrom n ((a,k)::r) iy=cellsFrom n r iy:=by
 cases k<;>first|rfl|exact absurd rfl hk
def jQ (names:List (aU×bx)):Nat:=(names.filter λy=>y.2==bx.cell).length
theorem O3 (a:aU)(r:List (aU×bx)):jQ ((a,.cell)::r)=jQ r+1:=by unfold jQ;rw[oV (by rfl),aO]
theorem U7 {k:bx}(hk:k≠.cell)(a:aU)(r:List (aU×bx)):jQ ((a,k)::r)=jQ r:=by unfold jQ;rw[oU (by simpa using hk)]
theorem CK:∀(names:List (aU×bx)) (n:Nat) (iy:List (aU×ah)) {x:aU} {c:Nat},(cellsFrom n names iy).lookup x=some c->(n<=c/\c<n+jQ names/\(x,bx.cell)∈names)\/(iy.lookup x=some c/\(x,bx.cell)∉names)
 |[],_,_,_,_,h=>.inr ⟨h,by simp⟩
 |(a,k)::r,n,iy,x,c,h=>by
  by_cases hk:k=.cell
  ·subst hk
   rw[KA]at h
   rcases CK r (n+1) _ h with⟨h1,h2,h3⟩|⟨h1,h2⟩
   ·refine .inl ⟨by omega,?_,ai _ h3⟩
    rw[O3];omega
   ·rw[bw]at h1
    cases hx:x==a with
    |true=>
     rw[hx]at h1
     cases h1
     refine .inl ⟨aF _,?_,by rw[eq_of_beq hx];exact aa⟩
     rw[O3];omega
    |false=>
     rw[hx]at h1
     refine .inr ⟨h1,λz=>?_⟩
     rcases aA.mp z with z|z
     ·cases z;simp at hx
     ·exact h2 z
  ·rw[KR hk]at h
   have hf:=U7 hk a r
   rw[hf]
   rcases CK r n _ h with⟨h1,h2,h3⟩|⟨h1,h2⟩
   ·exact .inl ⟨h1,h2,ai _ h3⟩
   ·refine .inr ⟨h1,λz=>?_⟩
    rcases aA.mp z with z|z
    ·cases z;exact hk rfl
    ·exact h2 z
theorem PK:∀(names:List (aU×bx)) (n:Nat) (iy:List (aU×ah)) {x:aU},(x,bx.cell)∉names->(cellsFrom n names iy).lookup x=iy.lookup x
 |[],_,_,_,_=>rfl
 |(a,k)::r,n,iy,x,h=>by
  have hr:(x,bx.cell)∉r:=λz=>h (ai _ z)
  by_cases hk:k=.cell
  ·subst hk
   rw[KA,PK r _ _ hr,bw]
   cases hx:x==a with
   |true=>exact absurd (by rw[eq_of_beq hx];exact aa) h
   |false=>rfl
  ·rw[KR hk,PK r _ _ hr]
theorem PM:∀(names:List (aU×bx)) (n:Nat) (iy:List (aU×ah)),(∀x y c,iy.lookup x=some c->iy.lookup y=some c->x=y)->(∀x c,iy.lookup x=some c->c<n)->∀x y c,(cellsFrom n names iy).lookup x=some c->(cellsFrom n names iy).lookup y=some c->x=y
 |[],_,_,h,_=>h
 |(a,k)::r,n,iy,h,hb=>by
  by_cases hk:k=.cell
  ·subst hk
   rw[KA]
   refine PM r (n+1) _ (λx y c e e'=>?_) λx c e=>?_
   ·rw[bw]at e e'
    cases hx:x==a with
    |true=>
     rw[hx]at e
     cases e
     cases hy:y==a with
     |true=>rw[eq_of_beq hx,eq_of_beq hy]
     |false=>rw[hy]at e';exact absurd (hb _ _ e') (ez _)
    |false=>
     rw[hx]at e
     cases hy:y==a with
     |true=>rw[hy]at e';cases e';exact absurd (hb _ _ e) (ez _)
     |false=>rw[hy]at e';exact h x y c e e'
   ·rw[bw]at e
    cases hx:x==a with
    |true=>rw[hx]at e;cases e;exact i9 _
    |false=>rw[hx]at e;exact e7 (hb _ _ e)
  ·rw[KR hk]
   exact PM r n iy h hb
theorem On {M:Model}{A:bX}{E:af->am->Prop}:∀(names:List (aU×bx)) (cells:List (aU×ah)) (s:am) (Q:List (aU×ah)->am->Prop),
    (∀h':aZ,(∀b o,s.heap.get? b=some o->h'.get? b=some o)->(∀c,s.heap.objs.size<=c->c<s.heap.objs.size+jQ names->h'.IsCell c none)->Q (cellsFrom s.heap.objs.size names cells) { s with heap:=h' }) ->
    bo M A (forIn names cells λ(x:aU×bx) (cells:List (aU×ah))=>if(x.2==bx.cell)=true then do let a ← alloc { cls:=af.type "cell",data:=kz.cell none };pure (ForInStep.yield ((x.1,a)::cells))else pure (ForInStep.yield cells)) Q E s
  |[],cells,s,Q,h=>by
    have:=h s.heap (λ_ _ e=>e) (λc h1 h2=>by rw[show jQ []=0 from rfl]at h2;omega)
    rw[vO]
    exact cx this
  |(a,k)::r,cells,s,Q,h=>by
    rw[mR]
    by_cases hk:k=.cell
    · subst hk
      simp only[beq_self_eq_true,if_true,bind_assoc,pure_bind]
      refine ba (wpAny_alloc ?_)
      have ih:=On (M:=M) (A:=A) (E:=E) r ((a,s.heap.objs.size)::cells) { s with heap:=s.heap.push { cls:=af.type "cell",data:=kz.cell none } } Q (λh' k1 k2=>by
        have hz:(s.heap.push { cls:=af.type "cell",data:=kz.cell none }).objs.size=s.heap.objs.size+1:=gc _ _
        have:=h h' (λb o e=>k1 b o (aH _ e)) (λc h1 h2=>by
          rw[O3]at h2
          by_cases hc:c=s.heap.objs.size
          · subst hc
            exact⟨_,k1 _ _ (bF _ rfl),rfl⟩
          · exact k2 c (by show(s.heap.push _).objs.size<=c;rw[hz];omega) (by show c<(s.heap.push _).objs.size+_;rw[hz];omega))
        rw[KA]at this
        have e:(({ s with heap:=s.heap.push { cls:=af.type "cell",data:=kz.cell none } }:am)).heap.objs.size=s.heap.objs.size+1:=hz
        rw[e]
        exact this)
      exact ih
    · have hb:(k==bx.cell)=false:=by simpa using hk
      simp only[hb,dr,if_false,pure_bind]
      refine On r cells s Q λh' k1 k2=>?_
      have hf:=U7 hk a r
      have:=h h' k1 (by rw[hf];exact k2)
      rw[KR hk]at this
      exact this
theorem Sm {M:Model}{A:bX}{E:af->am->Prop}{s:am}{scope:gx}{globals:ah}{closure:List (aU×ah)}{qual:aU}{code:af}{out:Env}{builtins:ah}{Q:Env->am->Prop}
    (h:∀h':aZ,(∀b o,s.heap.get? b=some o->h'.get? b=some o)->h'.Ns s.heap.objs.size (λ_=>none)->(∀c,s.heap.objs.size+1<=c->c<s.heap.objs.size+1+jQ scope.names->h'.IsCell c none) ->
      Q (newEnv scope s.heap.objs.size globals (cellsFrom (s.heap.objs.size+1) scope.names closure) qual none code (some out) builtins) { s with heap:=h' }) :
    bo M A (kZ scope globals closure [] qual none code (some out) builtins) Q E s:=by
  unfold kZ
  refine ba (wpAny_alloc ?_)
  have hz:(s.heap.push { cls:=af.type "dict",data:=kz.dict #[] }).objs.size=s.heap.objs.size+1:=gc _ _
  refine ba (On scope.names closure { s with heap:=s.heap.push { cls:=af.type "dict",data:=kz.dict #[] } } _ λh' k1 k2=>?_)
  have JG:(({ s with heap:=s.heap.push { cls:=af.type "dict",data:=kz.dict #[] } }:am)).heap.objs.size=s.heap.objs.size+1:=hz
  rw[JG]at k2 ⊢
  dsimp only
  rw[vO]
  refine ba (cx (cx ?_))
  exact h h' (λb o e=>k1 b o (aH _ e)) ((aZ.Ns.new s.heap _).keeps k1) k2
def iT (X:Cx)(scope:gx)(cl:List (aU×ah))(N:List aU)(C:ah)(fp:List ah)(s₀:am)(H₀:Hp):Cx :=
 { X with N:=N,s₀:=s₀,H₀:=H₀,env:=pY scope cl C X.env,outer:=X.stack,stack:=X.stack,ex:=fp,fn:=λx=>scope.names.lookup x==some .cell,pn:=[],xe:=λ_ _=>False }
structure kK (X:Cx)(scope:gx)(N:List aU)(own:Nat)(cap:List Nat):Prop where
 kind:scope.kind=.function
 cells:∀x∈scope.names,x.2=.cell->scope.names.lookup x.1=some .cell
 locs:∀x∈scope.names,x.2=.local->scope.names.lookup x.1=some .local
 free:∀x∈scope.names,x.2=.free->X.env.kindOf x.1=some .cell\/X.env.kindOf x.1=some .free
 len:N.length=own+cap.length
 caps:∀(j:Nat) (x:aU),N[own+j]?=some x->∃i,cap[j]?=some i/\X.N[i]?=some x/\(scope.names.lookup x=some .free)
theorem J9 {α β:Type}[BEq α][LawfulBEq α]{x:α}{y:β}:∀{l:List (α×β)},l.lookup x=some y->(x,y)∈l
 |[],h=>by simp at h
 |(a,b)::r,h=>by
  rw[bw]at h
  cases hb:x==a with
  |true=>rw[hb]at h;cases h;rw[eq_of_beq hb];exact aa
  |false=>rw[hb]at h;exact ai _ (J9 h)
theorem Sn {env:Env}{x:aU}:∀{names:List (aU×bx)},names.lookup x=some .free ->
  (names.map λ(n,k)=>if(k==bx.free&&env.scope.kind==.function&&env.kindOf n==some .cell)then(n,bx.cell)else(n,k)).lookup x=some .cell \/
  (names.map λ(n,k)=>if(k==bx.free&&env.scope.kind==.function&&env.kindOf n==some .cell)then(n,bx.cell)else(n,k)).lookup x=some .free
 |[],h=>by simp at h
 |(n,k)::r,h=>by
  rw[bw]at h
  rw[aR]
  cases hx:x==n with
  |true=>
   rw[hx]at h
   cases h
   by_cases hc:(bx.free==bx.free&&env.scope.kind==.function&&env.kindOf n==some .cell)=true
   ·left
    simp only[hc,if_true,bw,hx]
   ·right
    simp only[hc,if_false,bw,hx,dr]
  |false=>
   rw[hx]at h
   rcases Sn (env:=env) h with q|q
   ·left
    by_cases hc:(k==bx.free&&env.scope.kind==.function&&env.kindOf n==some .cell)=true
    ·simp only[hc,if_true,bw,hx];exact q
    ·simp only[hc,if_false,bw,hx,dr];exact q
   ·right
    by_cases hc:(k==bx.free&&env.scope.kind==.function&&env.kindOf n==some .cell)=true
    ·simp only[hc,if_true,bw,hx];exact q
    ·simp only[hc,if_false,bw,hx,dr];exact q
theorem Sq {env:Env}{x:aU}:∀{names:List (aU×bx)},((names.map λ(n,k)=>if(k==bx.free&&env.scope.kind==.function&&env.kindOf n==some .cell)then(n,bx.cell)else(n,k)).lookup x=some .cell \/
  (names.map λ(n,k)=>if(k==bx.free&&env.scope.kind==.function&&env.kindOf n==some .cell)then(n,bx.cell)else(n,k)).lookup x=some .free)->(x,bx.free)∈names\/(x,bx.cell)∈names
 |[],h=>by simp at h
 |(n,k)::r,h=>by
  rw[aR]at h
  cases hx:x==n with
  |true=>
   have e:x=n:=eq_of_beq hx
   by_cases hc:(k==bx.free&&env.scope.kind==.function&&env.kindOf n==some .cell)=true
   ·have:k=.free:=by
     rw[bS,bS]at hc
     exact eq_of_beq hc.1.1
    left
    rw[e,this];exact aa
   ·simp only[hc,if_false,bw,hx,dr]at h
    rcases h with h|h
    ·cases h;right;rw[e];exact aa
    ·cases h;left;rw[e];exact aa
  |false=>
   refine(Sq (env:=env) (names:=r) ?_).imp (ai _) (ai _)
   by_cases hc:(k==bx.free&&env.scope.kind==.function&&env.kindOf n==some .cell)=true
   ·simpa only[hc,if_true,bw,hx]using h
   ·simpa only[hc,if_false,bw,hx,dr]using h
def gA (σ:St)(cap:List Nat):St:=cap.map λi=>(σ[i]?).join
theorem zlc {σ:St}{cap:List Nat}{j i:Nat}{v:V}(hj:cap[j]?=some i)(h:(gA σ cap)[j]?=some (some v)):σ[i]?=some (some v):=by
 unfold gA at h
 rw[bp,hj]at h
 cases e:σ[i]? with
 |none=>rw[sP,e]at h;cases h
 |some o=>
  rw[sP,e]at h
  cases o with
  |none=>cases h
  |some u=>exact h
section
variable {X:Cx}{aj:List (ah×dX)}{σ:St}{H:Hp}{s:am}
theorem Tn {scope:gx}{cl:List (aU×ah)}{N:List aU}{own:Nat}{cap:List Nat}{fp:List ah}{h₁:aZ}{t':Nat}{m₀:aU->Option af}(B:kK X scope N own cap)(I:Inv X aj σ H s)
    (c1:∀y c,cl.lookup y=some c->X.env.cells.lookup y=some c) (c2:∀x∈scope.names,x.2=.free->∃c,cl.lookup x.1=some c)
    (hf:∀b∈fp,kL X aj H b) (QZ:∀b∈fp,b<s.heap.objs.size) (jL:h₁.Ns s.heap.objs.size m₀) (k:∀b o,s.heap.get? b=some o->h₁.get? b=some o)
    (AW:∀c,s.heap.objs.size+1<=c->c<s.heap.objs.size+1+jQ scope.names->h₁.IsCell c none) :
    Inv (iT X scope (cellsFrom (s.heap.objs.size+1) scope.names cl) N s.heap.objs.size fp s H) [] (aC own none++gA σ cap) H { s with heap:=h₁,toks:=t' } :=
  have low:∀x c,cl.lookup x=some c->c<s.heap.objs.size:=λx c e=>by
    obtain⟨v,o,q,_⟩:=I.cell x c (c1 x c e)
    exact aM q
  { ok:={
      mod:=I.mod
      kind:=B.kind
      glob:=I.ok.glob
      blt:=I.ok.blt
      above:=aF _
      inj:=PM _ _ _ (λx y c e e'=>I.ok.inj x y c (c1 x c e) (c1 y c e')) λx c e=>e7 (low x c e)
      has:=λx hx=>by
        refine nE.mp (iS scope.names _ _ ?_)
        rcases Sq hx with q|q
        · right
          obtain⟨c,e⟩:=c2 _ q rfl
          rw[e];rfl
        · exact .inl (B.cells _ q rfl)
      cab:=λx c e e'=>by
        have hx:scope.names.lookup x=some .cell:=eq_of_beq e
        rcases CK _ _ _ e' with⟨h1,_⟩|⟨_,h2⟩
        · exact lT h1
        · exact absurd (J9 hx) h2
      hd:=I.ok.hd
      frames:=I.ok.frames
      stk:=.inl rfl
      exf:=λb hb=>⟨br (QZ b hb),λx c e=>by
        rcases CK _ _ _ e with⟨h1,_⟩|⟨h1,_⟩
        · exactλz=>absurd (QZ b hb) (by rw[←z];exact Nat.not_lt.mpr (lT h1))
        · exact(hf b hb).2.2.2.2.1 x c (c1 x c h1)⟩
      bs:=I.bs
      bsz:=cD I.ok.bsz I.sz
      noex:=λb o e hb=>by
        rcases(hf b hb).2.2.2.1 with q|q
        · exact I.ok.noex b o e q
        · exact absurd (bu (aM e) I.ok.bsz) (Nat.not_lt.mpr q)
      exfs:=λb hb hz=>by
        rcases aA.mp (I.stkSub b hz)with q|q
        · exact(hf b hb).2.1 q
        · exact(hf b hb).2.2.1 q
      funs:=I.stack
      frf:=I.stkFree }
    os:=rfl
    bare:=I.bare
    base:=Un.kept k
    loc:=by
      refine⟨m₀,jL,λi x v hN hσ hv=>?_⟩
      by_cases hi:i<own
      · rw[ck (by rw[dq];exact hi),fV,if_pos hi]at hσ
        cases hσ
      · obtain⟨j,rfl⟩:∃j,i=own+j:=⟨i-own,by omega⟩
        obtain⟨i',e1,e2,e3⟩:=B.caps j x hN
        rw[fv (by rw[dq];omega),dq,Nat.add_sub_cancel_left]at hσ
        have Bi:=zlc e1 hσ
        have hk:=B.free (x,.free) (J9 e3) rfl
        obtain⟨m,hm,hl⟩:=I.loc
        obtain⟨u,ru,hu⟩:=hl i' x v e2 Bi (.inr hk)
        refine⟨u,ru,?_⟩
        rcases hu with⟨q,_⟩|⟨_,c,hc,ic⟩
        · rcases hk with hk|hk
          · rw[hk]at q;cases q
          · rw[hk]at q;cases q
        · obtain⟨c',yE⟩:=c2 (x,.free) (J9 e3) rfl
          have ec:=c1 x c' yE
          rw[hc]at ec
          cases ec
          have hn:(x,bx.cell)∉scope.names:=λz=>by
            have:=B.cells _ z rfl
            rw[e3]at this
            cases this
          exact .inr ⟨Sn e3,c,by show(cellsFrom _ _ _).lookup x=_;rw[PK _ _ _ hn];exact yE,ic.keeps k⟩
    cell:=λx c e=>by
      rcases CK _ _ _ e with⟨h1,h2,_⟩|⟨h1,_⟩
      · exact⟨none,AW c h1 h2⟩
      · obtain⟨v,q⟩:=I.cell x c (c1 x c h1)
        exact⟨v,q.keeps k⟩
    free:=I.hok.fresh (aF _)
    freeC:=λx c e=>by
      rcases CK _ _ _ e with⟨h1,_⟩|⟨h1,_⟩
      · exact I.hok.fresh (lT h1)
      · exact I.freeC x c (c1 x c h1)
    pin:=λp hp=>(nomatch hp)
    hok:=I.hok.kept k
    len:=by
      show(aC own none++gA σ cap).length=N.length
      rw[aX,dq,B.len]
      unfold gA
      rw[aB] }
end
def xG:TT:=λ_ H Q=>Q true H
def xZ (X:Cx)(ifs:List Expr)(t:TT):Prop :=
 ∀(aj:List (ah×dX)) (s:am) (σ:St) (H:Hp) (Q:Bool->Hp->Prop),Inv X aj σ H s->t σ H Q ->
  bo (bj X.prog X.w) X.A (forIn ifs true λc r=>if r=true then do let ok ← sR c X.env (bG c X.env);pure (ForInStep.yield ok)else pure (ForInStep.yield r)) (TP X aj σ Q) X.xe s
theorem zsd {X:Cx}:xZ X [] xG:=λ_ _ _ H _ I h=>wpAny_tests_nil ⟨H,I,h⟩
theorem zse {X:Cx}{c:Expr}{t:TT}(h:PT X c t):xZ X [c] t:=λaj s σ H Q I q=>wpAny_tests_one (h aj s σ H Q I q)
def rP (wi:TI)(own:Nat)(cap:List Nat)(g:TG)(tt:TT)(te:TE):TE:=λσ H Q=>wi σ H λJ H1=>∀D,H1 D=none->∃W:Nat->Nat->List V->Hp->Prop,(∃m,W 0 m [] (upd H1 D (.lst []))) /\
 ∀i m ys H2,W i m ys H2->H2 D=some (.lst ys)/\((J.stop i H2/\Q (.ref D) H2)\/(J.go i H2/\ys.length<sizeLine/\∀x H3,J.yld i H2 x H3->g x (aC own none++gA σ cap) H3 λσ2 H4=>tt σ2 H4 λb H5=>
  if b=true then te σ2 H5 λy H6=>H6 D=some (.lst ys)/\∃m',m'<m/\W (i+1) m' (ys++[y]) (upd H6 D (.lst (ys++[y])))else∃m',m'<m/\W (i+1) m' ys H5))
def gC (own:Nat)(g:TG):Prop:=∀v σ H Q,g v σ H Q->g v σ H λσ' H'=>Q σ' H'/\σ'.length = σ.length/\∀i,own<=i->σ'[i]? = σ[i]?
theorem zld (i own:Nat)(h:i<own):gC own (rH i):=λv σ H Q q=>⟨q,by rw[uZ],λj hj=>by rw[cX (by omega)]⟩
theorem zsf {X:Cx}{jX iter tg:Expr}{ifs:List Expr}{scope:gx}{pos:dh}{N:List aU}{own:Nat}{cap:List Nat}{wi:TI}{g:TG}{tt:TT}{te:TE}(B:kK X scope N own cap)(hc:X.calm=true)(hi:PI X tg iter wi)
    (kg:gC own g)
    (hg:∀cl C fp s₀ H₀,PG (iT X scope cl N C fp s₀ H₀) tg g) (ht:∀cl C fp s₀ H₀,xZ (iT X scope cl N C fp s₀ H₀) ifs tt) (he:∀cl C fp s₀ H₀,PE (iT X scope cl N C fp s₀ H₀) jX te)
    (hs:∀x,dQ iter X.env x=pure x:=by intro _;rfl):PE X (.ListComp jX [⟨tg,iter,ifs,0⟩] scope pos) (rP wi own cap g tt te):=by
  intro aj s σ H Q I h
  obtain⟨cl,wH,c1,c2,_⟩:=J8 (env:=X.env) scope.names [] (λx hx hf=>I.ok.has x.1 (B.free x hx hf)) (λy c e=>by simp at e)
  have tY:pX scope X.env=pure cl:=by
    have e:pX scope X.env=(forIn scope.names ([]:List (aU×ah)) (λ(x:aU×bx) (cs:List (aU×ah))=>if(x.2==bx.free)=true then do let a ← cellOf X.env x.1;pure (ForInStep.yield ((x.1,a)::cs))else pure (ForInStep.yield cs)) >>= pure:pw (List (aU×ah))):=rfl
    rw[e,wH]
    rfl
  rw[eval_ListComp]
  refine wpAny_comprehension_free (use:=none) rfl hs tY B.kind B.locs (dA (hi aj s σ H _ I h) λv s1 h1=>dA h1 λJJ s2 h2=>?_)
  obtain⟨it,fp,tn,J,H2,e,I2,T,vL,f2,W0⟩:=h2
  subst e
  obtain⟨W,⟨m0,w0⟩,cz⟩:=W0 s2.heap.objs.size (I2.hok.fresh (aF _))
  refine wpAny_newObj_type ?_
  have I3:Inv X aj σ (upd H2 s2.heap.objs.size (.lst [])) { s2 with heap:=s2.heap.push { cls:=.type "list",data:=.seq ([]:List af).toArray } }:=I2.lnew .nil (cQ _)
  generalize FT:({ s2 with heap:=s2.heap.push { cls:=.type "list",data:=.seq ([]:List af).toArray } }:am)=s3 at I3
  have k3:∀b o,s2.heap.get? b=some o->s3.heap.get? b=some o:=λb o e=>by rw[←FT];exact aH _ e
  have z3:s3.heap.objs.size=s2.heap.objs.size+1:=by rw[←FT];exact gc _ _
  have qT:∀b∈fp,b<s2.heap.objs.size:=λb hb=>by
    obtain⟨o,e,_⟩:=T.obj _ _ vL b hb
    exact aM e
  have mN:∀b∈fp,b≠s2.heap.objs.size:=λb hb=>br (qT b hb)
  have f3:∀b∈fp,kL X aj (upd H2 s2.heap.objs.size (.lst [])) b:=λb hb=>⟨by rw[yo (mN b hb)];exact(f2 b hb).1,(f2 b hb).2⟩
  have JU:tn 0 s3.heap:=T.keep _ _ _ vL λb _ o e=>k3 b o e
  show bo _ _ (kZ scope X.env.globals cl [] X.env.qual none .none (some X.env)) _ _ _
  refine Sm λh₁ kk A7 AX=>?_
  have IB:=Tn (t':=s3.toks) B I3 c1 c2 f3 (λb hb=>by rw[z3];exact e7 (qT b hb)) A7 kk AX
  generalize cellsFrom (s3.heap.objs.size+1) scope.names cl=cl at IB ⊢
  generalize Ni:({ s3 with heap:=h₁,toks:=s3.toks }:am)=s4 at IB
  have IH:tn 0 s4.heap:=T.keep _ _ _ JU λb _ o e=>by rw[←Ni];exact kk b o e
  show gP (bj X.prog X.w) X.A (.compStart (.ListComp jX [⟨tg,iter,ifs,0⟩] scope pos) 0 (.ref it) (.ref s2.heap.objs.size) (pY scope cl s3.heap.objs.size X.env))
      (pZ (bj X.prog X.w) X.A X.xe none (EP X aj σ Q) (.ref s2.heap.objs.size) s3.heap.objs.size) s4
  have ni:∀{H':Hp},(∀b∈fp,H' b=none)->∀b∈fp,kL (iT X scope cl N s3.heap.objs.size fp s3 (upd H2 s2.heap.objs.size (.lst []))) [] H' b:=λhn b hb=>
    ⟨hn b hb,br (by show b<s3.heap.objs.size;rw[z3];exact e7 (qT b hb)),IB.ok.exfs b hb,.inl hb,λx c e=>(IB.ok.exf b hb).2 x c e,λp hp=>(nomatch hp)⟩
  have loop:gP (bj X.prog X.w) X.A (.compLoop (.ListComp jX [⟨tg,iter,ifs,0⟩] scope pos) 0 (.ref it) (.ref s2.heap.objs.size) (pY scope cl s3.heap.objs.size X.env))
      (pZ (bj X.prog X.w) X.A X.xe none (EP X aj σ Q) (.ref s2.heap.objs.size) s3.heap.objs.size) s4:=by
    refine Sl (λn s'=>∃i ys H',Inv (iT X scope cl N s3.heap.objs.size fp s3 (upd H2 s2.heap.objs.size (.lst []))) [] (aC own none++gA σ cap) H' s'/\tn i s'.heap/\(∀b∈fp,H' b=none)/\W i n ys H') ?_ m0
      ⟨0,[],_,IB,IH,λb hb=>(f3 b hb).1,w0⟩
    rintro n s5 ⟨i,ys,H5,I5,xD,AK,w5⟩
    obtain⟨hD,AZ⟩:=cz i n ys H5 w5
    rcases AZ with⟨stop,qn⟩|⟨go,iU,step⟩
    · refine dA (T.done (iT X scope cl N s3.heap.objs.size fp s3 (upd H2 s2.heap.objs.size (.lst []))) rfl rfl rfl hc i [] s5 _ H5 (λ_ _=>False) I5 (ni AK) xD stop) λr s6 dJ=>?_
      obtain⟨hr,I6⟩:=dJ
      subst hr
      obtain⟨m,hm,_⟩:=id I6.loc
      refine⟨m,hm,λh' sb=>⟨.ref s2.heap.objs.size,H5,?_,rfl,qn⟩⟩
      have U:=I6.base
      have nC:∀b o,s3.heap.get? b=some o->b≠s3.heap.objs.size:=λb o e=>br (aM e)
      have nT:∀b o,H5 b=some o->b≠s3.heap.objs.size:=λb o e z=>by
        have q:H5 s3.heap.objs.size=none:=I6.free
        rw[z,q]at e
        cases e
      refine I3.call' (ch:=fp) I6.os ?_ (λa o e=>(I6.hok a o e).stay (λb u hb q=>sb.extBut b u ?_ q) (λ_ q=>q) λ_ _ q=>q) I6.bare (λb hb=>⟨(f3 b hb).2.2.2.1,(f3 b hb).2.1,(f3 b hb).2.2.2.2.1,(f3 b hb).2.2.2.2.2⟩)
      · exact{
          keep:=λb o e z hb he=>sb.extBut b o (nC b o e) (U.keep b o e z hb he)
          slot:=λb o e z hb he=>by
            obtain⟨sl,q⟩:=U.slot b o e z hb he
            exact⟨sl,sb.extBut b _ (nC b o e) q⟩
          free:=U.free
          there:=λb o e he=>by
            obtain⟨o',q⟩:=U.there b o e he
            exact⟨o',sb.extBut b o' (nC b o e) q⟩
          tups:=U.tups
          frzs:=U.frzs
          tbls:=U.tbls }
      · rcases hb with rfl|hb
        · exact nT _ _ e
        · exact nT _ _ hb
    · refine dA (T.item (iT X scope cl N s3.heap.objs.size fp s3 (upd H2 s2.heap.objs.size (.lst []))) rfl rfl rfl hc i [] s5 _ H5 (λ_ _=>False) I5 (ni AK) xD go) λr s6 dJ=>?_
      obtain⟨u,hr,h6⟩:=dJ
      subst hr
      refine dA h6 λ_ s7 dJ=>?_
      obtain⟨x,H7,I7,r7,y7,BC,Mz⟩:=dJ
      have Lb:=I7.pinned (ni Mz) (T.obj _ _ BC)
      refine dA (hg cl s3.heap.objs.size fp s3 _ _ s7 _ H7 x u _ Lb r7 (kg _ _ _ _ (step x H7 y7))) λ_ s8 dJ=>?_
      obtain⟨σ8,H8,I8,q8,l8,p8⟩:=dJ
      have back:∀{H9:Hp} {s9:am},Inv (iT X scope cl N s3.heap.objs.size fp s3 (upd H2 s2.heap.objs.size (.lst []))) ([]++lN fp s7.heap) σ8 H9 s9 ->
          Inv (iT X scope cl N s3.heap.objs.size fp s3 (upd H2 s2.heap.objs.size (.lst []))) [] (aC own none++gA σ cap) H9 s9/\tn (i+1) s9.heap/\∀b∈fp,H9 b=none:=λ{H9 s9} I9=>by
        refine⟨(I9.unpinned).weak l8.symm (λj v e=>?_),T.keep _ _ _ BC λb hb o e=>(I9.pin (b,o) (ay _ (ay _ (j8 hb e)))).1,λb hb=>?_⟩
        · by_cases hj:j<own
          · rw[ck (by rw[dq];exact hj),fV,if_pos hj]at e
            cases e
          · rw[p8 j (by omega)];exact e
        · obtain⟨o,e,d⟩:=T.obj _ _ BC b hb
          exact(I9.pin (b,o) (ay _ (ay _ (j8 hb e)))).2.1
      refine dA (ht cl s3.heap.objs.size fp s3 _ _ s8 σ8 H8 _ I8 q8) λok s9 dJ=>?_
      obtain⟨H9,I9,q9⟩:=dJ
      cases ok with
      |false=>
        rw[if_neg aW]
        rw[if_neg aW]at q9
        obtain⟨m',A1,w'⟩:=q9
        obtain⟨b1,b2,b3⟩:=back I9
        exact⟨m',A1,i+1,ys,H9,b1,b2,b3,w'⟩
      |true=>
        rw[if_pos rfl]
        rw[if_pos rfl]at q9
        refine dA (he cl s3.heap.objs.size fp s3 _ _ s9 σ8 H9 _ I9 q9) λuy NO dJ=>?_
        obtain⟨y,CP,K9,r10,AM,m',A1,w'⟩:=dJ
        refine dA (J7 _ NO σ8 CP (.ref s2.heap.objs.size) [y] (.ref s2.heap.objs.size) [uy] (λ_ CQ=>CQ=upd CP s2.heap.objs.size (.lst (ys++[y]))) K9 rfl (.cons r10 .nil) ⟨_,ys,y,rfl,rfl,AM,iU,rfl⟩) λ_ s11 dJ=>?_
        obtain⟨_,CQ,La,_,LD⟩:=dJ
        subst LD
        obtain⟨b1,b2,b3⟩:=back La
        exact⟨m',A1,i+1,ys++[y],_,b1,b2,b3,w'⟩
  exact codeAny_compStart_list loop (T.self X.A 0 s4 _ _ IH loop)
end L2
namespace L2
open PySem PySem.Spec PyProof.Rows
section
variable {X:Cx}{aj:List (ah×dX)}{σ:St}{H:Hp}{s:am}{h':aZ}
theorem Inv.turnLay {ch:List ah}{a:ah}{o:HO}{t':Nat}(I:Inv X aj σ H s)(kQ:∀b∈ch,kL X aj H b)(k:∀b o,b∉ch->s.heap.get? b=some o->h'.get? b=some o)(hp:s.heap.objs.size<=a)
  (new:d6 X.prog X.w (upd H a o) h' a o):Inv X aj σ (upd H a o) { s with heap:=h',toks:=t' }:=by
 have hn:H a=none:=I.hok.fresh hp
 have Hc:∀b u,H b=some u->b∉ch:=λb u e z=>by rw[(kQ b z).1]at e;cases e
 refine I.step (g':=s.gens) (d':=s.drawn) (ch:=ch) (λb hb=>⟨(kQ b hb).2.2.2.1,(kQ b hb).2.1,(kQ b hb).2.2.2.2.1,(kQ b hb).2.2.2.2.2⟩) (λb o _ _ hc e _=>k b o hc e) (λb o _ _ hc e _=>⟨o.slots,k b o hc e⟩)
  (λb o _ e n=>by rw[yo (br (bu (aM e) hp))];exact n) (λb o hc e=>⟨o,k b o hc e⟩) (λb xs q=>by rw[yo (xu q hn)];exact q) (λb u xs q=>by rw[yo (xu q hn)];exact q)
  (λb ps q=>⟨#[],by rw[yo (xu q hn),q];simp⟩) (λm hm=>?_) (λb u e=>?_) I.bare
 ·obtain⟨o',es,ep,ho,r⟩:=hm
  exact⟨o',es,ep,k _ o' (λz=>(kQ _ z).2.1 rfl) ho,r⟩
 ·by_cases hb:b=a
  ·subst hb
   rw[yx]at e
   cases e
   exact new
  ·rw[yo hb]at e
   refine(I.hok b u e).stay (λc v hc q=>k c v ?_ q) (λc q=>by rw[yo (xu q hn)];exact q) λc xs q=>by rw[yo (xu q hn)];exact q
   rcases hc with z|z
   ·rw[z];exact Hc b u e
   ·exact Hc c _ z
theorem Inv.turnedL {ch:List ah}{t':Nat}(I:Inv X aj σ H s)(kQ:∀b∈ch,kL X aj H b)(k:∀b o,b∉ch->s.heap.get? b=some o->h'.get? b=some o):Inv X aj σ H { s with heap:=h',toks:=t' }:=by
 have Hc:∀b u,H b=some u->b∉ch:=λb u e z=>by rw[(kQ b z).1]at e;cases e
 refine I.step (g':=s.gens) (d':=s.drawn) (ch:=ch) (λb hb=>⟨(kQ b hb).2.2.2.1,(kQ b hb).2.1,(kQ b hb).2.2.2.2.1,(kQ b hb).2.2.2.2.2⟩) (λb o _ _ hc e _=>k b o hc e) (λb o _ _ hc e _=>⟨o.slots,k b o hc e⟩)
  (λ_ _ _ _ n=>n) (λb o hc e=>⟨o,k b o hc e⟩) (λ_ _ e=>e) (λ_ _ _ e=>e) (λb ps e=>⟨#[],by rw[e];simp⟩) (λm hm=>?_) (λb u e=>?_) I.bare
 ·obtain⟨o',es,ep,ho,r⟩:=hm
  exact⟨o',es,ep,k _ o' (λz=>(kQ _ z).2.1 rfl) ho,r⟩
 ·refine(I.hok b u e).stay (λc v hc q=>k c v ?_ q) (λ_ q=>q) λ_ _ q=>q
  rcases hc with z|z
  ·rw[z];exact Hc b u e
  ·exact Hc c _ z
end
def Lc (K:ae)(a:ah):It :=
 ⟨λi H=>∃xs x,eR K H a xs/\xs[i]?=some x,λi H x H'=>∃p y,H p=none/\x=.ref p/\H'=upd H p (.tup [.int i,y])/\∀xs,eR K H a xs->xs[i]?=some y,λi H=>∃xs,eR K H a xs/\xs.length<=i⟩
theorem zmt {P:bz}{w:ce}{K:ae}{lJ:List Expr}{kt:Nat}{pt:dh}(a e it:ah)(QX:e≠it) :
    Turn P w K (.Tuple lJ kt pt) (Lc K a) [e,it] e (λi h=>(∃old,IsEnum h e it i old)/\h.IsListIter it a i) where
  mem:=by simp
  obj:=λi h st b hb=>by
    obtain⟨⟨old,he⟩,o,e1,c,d⟩:=st
    rcases aA.mp hb with rfl|hb
    · exact⟨_,he,λv z=>by cases z⟩
    · have e2:b=it:=by simpa using hb
      subst e2
      exact⟨o,e1,λv z=>by rw[d]at z;cases z⟩
  keep:=λi h h' st k=>by
    obtain⟨⟨old,he⟩,hit⟩:=st
    exact⟨⟨old,k e (by simp) _ he⟩,hit.at λo x=>k it (by simp) o x⟩
  item:=by
    intro X hP hw hK hc i aj s σ H E I hf st hg
    subst hP hw hK
    obtain⟨xs,x,hq,hx⟩:=hg
    obtain⟨cw,rv,p,hz⟩:=I.list hq
    obtain⟨u,hu,ru⟩:=rv.get hx
    obtain⟨⟨old,he⟩,hit⟩:=st
    refine wpAny_pyNext_enum_item he hit p.isList (x:=u) (by simpa using hu) QX λh1 ho M7 hT hsz hk=>?_
    refine⟨_,rfl,wpAny_letOwnedTupleGo_enum (s:={ s with heap:=h1,toks:=s.toks+1 }) ho λh2 MX tw=>?_⟩
    have jX:e<s.heap.objs.size:=aM he
    have Nw:it<s.heap.objs.size:=by obtain⟨_,q,_⟩:=hit;exact aM q
    have MP:h2.get? s.heap.objs.size=some { cls:=.type "tuple",data:=.seq #[.int i s.toks,u] }:=(tw.2 _ (pV jX)).trans hT
    have M3:H s.heap.objs.size=none:=I.hok.fresh (aF _)
    have I1:Inv X aj σ (upd H s.heap.objs.size (.tup [.int i,x])) { s with heap:=h2,toks:=s.toks+1 }:=by
      refine I.turnLay (ch:=[e,it]) hf (λb o hb q=>?_) (aF _) ⟨by show 2<=sizeLine;decide,[.int i s.toks,u],.cons ⟨_,rfl⟩ (.cons ru .nil),_,MP,rfl,_,rfl⟩
      have QH:b≠e:=λz=>hb (by simp[z])
      have Xl:b≠it:=λz=>hb (by simp[z])
      exact(tw.2 b QH).trans (hk b o QH Xl q)
    refine⟨.ref s.heap.objs.size,_,I1,rfl,⟨_,x,M3,rfl,rfl,λys hy=>by rw[I.list_inj hy hq];exact hx⟩,⟨⟨u,by simpa using MX⟩,M7.at λo q=>(tw.2 it QX.symm).trans q⟩,λb hb=>?_⟩
    rw[yo ?_]
    · exact(hf b hb).1
    · rcases aA.mp hb with rfl|hb
      · exact br jX
      · have e2:b=it:=by simpa using hb
        rw[e2];exact br Nw
  done:=by
    intro X hP hw hK hc i aj s σ H E I hf st hg
    subst hP hw hK
    obtain⟨xs,hq,hx⟩:=hg
    obtain⟨cw,rv,p,hz⟩:=I.list hq
    obtain⟨⟨old,he⟩,hit⟩:=st
    have hl:=rv.length
    exact wpAny_pyNext_enum_end (I.ok.hd hc) he hit p.isList (by simp;omega) λh' eb=>⟨rfl,I.turnedL (ch:=[e,it]) (t':=s.toks) hf λb o hb q=>eb b o (λz=>hb (by simp[z])) q⟩
  self:=λ_ _ _ _ _ st h=>wpAny_pyIter_enum st.1.choose_spec h
section
variable {X:Cx}{lJ:List Expr}{kt:Nat}{pt:dh}
def Gb (K:ae)(ta:TA):TI:=λσ H R=>ta σ H λvs H1=>∃a,vs=[.ref a]/\(∃xs,eR K H1 a xs)/\R (Lc K a) H1
theorem Uw {l:Expr}{ta:TA}{p pos:dh}(hg:Gl X "enumerate")(hm:X.mg "enumerate"=none)(ha:PA X [l] ta)(hs:ar [l] X.env=[(false,bG l X.env)]:=by rfl) :
  PI X (.Tuple lJ kt pt) (.Call (.Name "enumerate" p) [l] [] pos) (Gb X.K ta):=by
 intro aj s σ H R I h
 refine Call_ (tE I hg hm PyProof.Rows.boot_enumerate (bH (dA (ha pos aj s σ H _ I h) λus s1 ⟨vs,H1,I1,r1,q1⟩=>?_) hs rfl))
 obtain⟨a,e,⟨xs,hq⟩,q⟩:=q1
 subst e
 cases r1 with
 |cons r rr=>
  cases rr
  cases r
  obtain⟨cw,rv,pl,hz⟩:=I1.list hq
  refine call_enumerate_list pl.isList λh' he hit hsz hk=>?_
  refine wpAny_pyIter_enum (s:={ s1 with heap:=h' }) he ?_
  refine⟨s1.heap.objs.size+1,[s1.heap.objs.size+1,s1.heap.objs.size],_,_,H1,rfl,I1.kept (t':=s1.toks) hk,zmt a _ _ (Nat.succ_ne_self _),⟨⟨_,he⟩,hit⟩,λb hb=>?_,q⟩
  rcases aA.mp hb with rfl|hb
  ·exact I1.fpOk (iN _) (I1.hok.fresh (iN _))
  ·have e:b=s1.heap.objs.size:=by simpa using hb
   subst e
   exact I1.fpOk (aF _) (I1.hok.fresh (aF _))
end
end L2
namespace L3
open PySem PySem.Spec L2
open PyProof.Rows hiding St
inductive D where
 |non|bl (b:Bool)|int (i:Int)|str (x:aU)
 |lst (xs:List D)|tup (xs:List D)|dK (ks:List fw) (ds:List D)|dT (ks:List (List fw)) (ds:List D)
 |obj (c:Nat) (ns:List aU) (ds:List D)
 deriving Inhabited
inductive Pr (R:D->V->Prop):List D->List V->Prop
 |nil:Pr R [] []
 |cons {d:D} {v:V} {ds:List D} {vs:List V}:R d v->Pr R ds vs->Pr R (d::ds) (v::vs)
theorem Pr.mono {R R':D->V->Prop}(f:∀d v,R d v->R' d v){ds:List D}{vs:List V}(h:Pr R ds vs):Pr R' ds vs:=by
 induction h with
 |nil=>exact .nil
 |cons h t ih=>exact .cons (f _ _ h) ih
theorem Pr.length {R:D->V->Prop}{ds:List D}{vs:List V}(h:Pr R ds vs):ds.length=vs.length:=by
 induction h with
 |nil=>rfl
 |cons h t ih=>rw[aO,aO,ih]
theorem Pr.get' {R:D->V->Prop}{ds:List D}{vs:List V}{i:Nat}{d:D}(h:Pr R ds vs)(e:ds[i]?=some d):∃v,vs[i]?=some v/\R d v:=by
 induction h generalizing i with
 |nil=>cases e
 |cons h t ih=>
  cases i with
  |zero=>cases e;exact⟨_,rfl,h⟩
  |succ i=>exact ih e
theorem Pr.append {R:D->V->Prop}{ds es:List D}{vs us:List V}(h:Pr R ds vs)(s:Pr R es us):Pr R (ds++es) (vs++us):=by
 induction h with
 |nil=>exact s
 |cons h t ih=>exact .cons h ih
theorem Pr.take {R:D->V->Prop}{ds:List D}{vs:List V}(n:Nat)(h:Pr R ds vs):Pr R (ds.take n) (vs.take n):=by
 induction h generalizing n with
 |nil=>cases n<;>exact .nil
 |cons h t ih=>cases n with
  |zero=>exact .nil
  |succ n=>exact .cons h (ih n)
theorem Pr.drop {R:D->V->Prop}{ds:List D}{vs:List V}(n:Nat)(h:Pr R ds vs):Pr R (ds.drop n) (vs.drop n):=by
 induction h generalizing n with
 |nil=>cases n<;>exact .nil
 |cons h t ih=>cases n with
  |zero=>exact .cons h t
  |succ n=>exact ih n
theorem Pr.reverse {R:D->V->Prop}{ds:List D}{vs:List V}(h:Pr R ds vs):Pr R ds.reverse vs.reverse:=by
 induction h with
 |nil=>exact .nil
 |cons h t ih=>rw[lB,lB];exact ih.append (.cons h .nil)
theorem Pr.rep {R:D->V->Prop}{ds:List D}{vs:List V}(h:Pr R ds vs)(k:Nat):Pr R (aC k ds).flatten (aC k vs).flatten:=by
 induction k with
 |zero=>exact .nil
 |succ k ih=>rw[cP,ej,cP,ej];exact h.append ih
mutual
inductive Dt (K:ae)(ct:Nat->ah)(F:Hp):D->V->Prop
 |non:Dt K ct F .non .non
 |bl (b:Bool):Dt K ct F (.bl b) (.bl b)
 |int (i:Int):Dt K ct F (.int i) (.int i)
 |str (x:aU):Dt K ct F (.str x) (.str x)
 |lst {a:ah} {vs:List V} {ds:List D}:eR K F a vs->Dts K ct F ds vs->Dt K ct F (.lst ds) (.ref a)
 |tup {a:ah} {vs:List V} {ds:List D}:F a=some (.tup vs)->Dts K ct F ds vs->Dt K ct F (.tup ds) (.ref a)
 |dK {a:ah} {ks:List fw} {vs:List V} {ds:List D}:F a=some (.dK (ks.zip vs))->ks.length=vs.length->Dts K ct F ds vs->Dt K ct F (.dK ks ds) (.ref a)
 |dT {a:ah} {ks:List (List fw)} {vs:List V} {ds:List D}:F a=some (.dT (ks.zip vs))->ks.length=vs.length->Dts K ct F ds vs->Dt K ct F (.dT ks ds) (.ref a)
 |obj {a dx:ah} {c:Nat} {ns:List aU} {vs:List V} {ds:List D}:F a=some (.ins (ct c) dx (ns.zip vs))->ns.length=vs.length->Dts K ct F ds vs->Dt K ct F (.obj c ns ds) (.ref a)
inductive Dts (K:ae)(ct:Nat->ah)(F:Hp):List D->List V->Prop
 |nil:Dts K ct F [] []
 |cons {d:D} {v:V} {ds:List D} {vs:List V}:Dt K ct F d v->Dts K ct F ds vs->Dts K ct F (d::ds) (v::vs)
end
section
variable {K:ae}{ct:Nat->ah}{F F' G G' H H' B B':Hp}
theorem Dts.pr {ds:List D}{vs:List V}(h:Dts K ct F ds vs):Pr (Dt K ct F) ds vs:=by
 induction ds generalizing vs with
 |nil=>cases h;exact .nil
 |cons d ds ih=>cases h with|cons h t=>exact .cons h (ih t)
theorem Dts.of {ds:List D}{vs:List V}(h:Pr (Dt K ct F) ds vs):Dts K ct F ds vs:=by
 induction h with
 |nil=>exact .nil
 |cons h t ih=>exact .cons h ih
theorem Dt.mono (s:bR F F'){d:D}{v:V}(h:Dt K ct F d v):Dt K ct F' d v :=
 Dt.rec (motive_1:=λd v _=>Dt K ct F' d v) (motive_2:=λd v _=>Dts K ct F' d v) .non .bl .int .str (λh _ t=>.lst (s.seq h) t) (λh _ t=>.tup (s _ _ h) t) (λh l _ t=>.dK (s _ _ h) l t) (λh l _ t=>.dT (s _ _ h) l t) (λh l _ t=>.obj (s _ _ h) l t) .nil (λ_ _ h t=>.cons h t) h
end
def D.sc:D->Bool
 |.non=>true|.bl _=>true|.int _=>true|.str _=>true|_=>false
inductive BY (K:ae)(ct:Nat->ah)(F G:Hp)(R:D->V->Prop):D->V->Prop
 |lst {a:ah} {vs:List V} {ds:List D}:G a=some (.lst vs)->Pr R ds vs->BY K ct F G R (.lst ds) (.ref a)
 |tup {a:ah} {vs:List V} {ds:List D}:F a=some (.tup vs)->Pr R ds vs->BY K ct F G R (.tup ds) (.ref a)
 |dK {a:ah} {ks:List fw} {vs:List V} {ds:List D}:G a=some (.dK (ks.zip vs))->ks.length=vs.length->Pr R ds vs->BY K ct F G R (.dK ks ds) (.ref a)
 |dT {a:ah} {ks:List (List fw)} {vs:List V} {ds:List D}:G a=some (.dT (ks.zip vs))->ks.length=vs.length->Pr R ds vs->BY K ct F G R (.dT ks ds) (.ref a)
 |obj {a dx:ah} {c:Nat} {ns:List aU} {vs:List V} {ds:List D}:G a=some (.ins (ct c) dx (ns.zip vs))->ns.length=vs.length->Pr R ds vs->BY K ct F G R (.obj c ns ds) (.ref a)
def Al (K:ae)(ct:Nat->ah)(F G:Hp):Nat->D->V->Prop
 |0,d,v=>Dt K ct F d v
 |n+1,d,v=>Dt K ct F d v\/BY K ct F G (Al K ct F G n) d v
inductive fk (R:D->V->List ah->Prop):List D->List V->List ah->Prop
 |nil:fk R [] [] []
 |cons {d:D} {v:V} {ds:List D} {vs:List V} {f g:List ah}:R d v f->fk R ds vs g->fk R (d::ds) (v::vs) (f++g)
inductive vG (K:ae)(ct:Nat->ah)(F H:Hp)(R:D->V->List ah->Prop):D->V->List ah->Prop
 |lst {a:ah} {vs:List V} {ds:List D} {fp:List ah}:F a=none->H a=some (.lst vs)->fk R ds vs fp->vG K ct F H R (.lst ds) (.ref a) (a::fp)
 |tup {a:ah} {vs:List V} {ds:List D} {fp:List ah}:F a=some (.tup vs)->fk R ds vs fp->vG K ct F H R (.tup ds) (.ref a) fp
 |dK {a:ah} {ks:List fw} {vs:List V} {ds:List D} {fp:List ah}:F a=none->H a=some (.dK (ks.zip vs))->ks.length=vs.length->fk R ds vs fp->vG K ct F H R (.dK ks ds) (.ref a) (a::fp)
 |dT {a:ah} {ks:List (List fw)} {vs:List V} {ds:List D} {fp:List ah}:F a=none->H a=some (.dT (ks.zip vs))->ks.length=vs.length->fk R ds vs fp->vG K ct F H R (.dT ks ds) (.ref a) (a::fp)
 |obj {a dx:ah} {c:Nat} {ns:List aU} {vs:List V} {ds:List D} {fp:List ah}:F a=none->H a=some (.ins (ct c) dx (ns.zip vs))->ns.length=vs.length->fk R ds vs fp->vG K ct F H R (.obj c ns ds) (.ref a) (a::fp)
def Ow (K:ae)(ct:Nat->ah)(F H:Hp):Nat->D->V->List ah->Prop
 |0,d,v,fp=>Dt K ct F d v/\fp=[]
 |n+1,d,v,fp=>(d.sc=true/\Dt K ct F d v/\fp=[])\/vG K ct F H (Ow K ct F H n) d v fp
structure gK (F H F' H':Hp):Prop where
 ff:bR F F'
 hh:bR H H'
 fh:bR F' H'
 nf:∀a o,H a=some o->F a=none->F' a=none
theorem gK.refl {F H:Hp}(h:bR F H):gK F H F H:=⟨.refl _,.refl _,h,λ_ _ _ h=>h⟩
theorem gK.trans {F H F1 H1 F2 H2:Hp}(a:gK F H F1 H1)(b:gK F1 H1 F2 H2):gK F H F2 H2 :=
 ⟨a.ff.trans b.ff,a.hh.trans b.hh,b.fh,λc o h n=>b.nf c o (a.hh _ _ h) (a.nf c o h n)⟩
theorem gK.newO {F H:Hp}{p:ah}(s:bR F H)(h:H p=none)(o:HO):gK F H F (upd H p o) :=
 ⟨.refl _,BL h o,s.trans (BL h o),λ_ _ _ h=>h⟩
theorem gK.newS {F H:Hp}{p:ah}(s:bR F H)(h:H p=none)(o:HO):gK F H (upd F p o) (upd H p o) :=
  ⟨BL (s.free h) o,BL h o,λb u q=>by
    by_cases e:b=p
    · subst e;rw[yx]at q ⊢;exact q
    · rw[yo e]at q ⊢;exact s _ _ q,
   λb u q n=>by rw[yo (xu q h)];exact n⟩
section
variable {K:ae}{ct:Nat->ah}{F F' G G' H H' B B':Hp}
theorem Al.mono (sF:bR F F')(sG:bR G G'){n:Nat}:∀{d:D} {v:V},Al K ct F G n d v->Al K ct F' G' n d v:=by
 induction n with
 |zero=>exactλh=>Dt.mono sF h
 |succ n ih=>
  intro d v h
  rcases h with h|h
  ·exact .inl (Dt.mono sF h)
  ·cases h with
   |lst h p=>exact .inr (.lst (sG _ _ h) (p.mono λ_ _ q=>ih q))
   |tup h p=>exact .inr (.tup (sF _ _ h) (p.mono λ_ _ q=>ih q))
   |dK h l p=>exact .inr (.dK (sG _ _ h) l (p.mono λ_ _ q=>ih q))
   |dT h l p=>exact .inr (.dT (sG _ _ h) l (p.mono λ_ _ q=>ih q))
   |obj h l p=>exact .inr (.obj (sG _ _ h) l (p.mono λ_ _ q=>ih q))
theorem Al.of:∀{n:Nat} {d:D} {v:V},Dt K ct F d v->Al K ct F G n d v
 |0,_,_,h=>h
 |_+1,_,_,h=>.inl h
theorem Dt.scal {d:D}{v:V}(h:Dt K ct F d v)(hs:d.sc=true):Dt K ct F' d v:=by
 cases h with
 |non=>exact .non
 |bl b=>exact .bl b
 |int i=>exact .int i
 |str x=>exact .str x
 |lst _ _=>cases hs
 |tup _ _=>cases hs
 |dK _ _ _=>cases hs
 |dT _ _ _=>cases hs
 |obj _ _ _=>cases hs
theorem Al.scal {n:Nat}{d:D}{v:V}(h:Al K ct F G n d v)(hs:d.sc=true):Dt K ct F' d v:=by
 cases n with
 |zero=>exact Dt.scal h hs
 |succ n=>
  rcases h with h|h
  ·exact h.scal hs
  ·cases h<;>cases hs
theorem Al.int {n:Nat}{i:Int}{v:V}(h:Al K ct F G n (.int i) v):v=.int i:=by
 have q:=Al.scal (F':=F) h rfl
 cases q;rfl
theorem Al.bl {n:Nat}{b:Bool}{v:V}(h:Al K ct F G n (.bl b) v):v=.bl b:=by
 have q:=Al.scal (F':=F) h rfl
 cases q;rfl
theorem Al.str {n:Nat}{x:aU}{v:V}(h:Al K ct F G n (.str x) v):v=.str x:=by
 have q:=Al.scal (F':=F) h rfl
 cases q;rfl
theorem Al.non {n:Nat}{v:V}(h:Al K ct F G n .non v):v=.non:=by
 have q:=Al.scal (F':=F) h rfl
 cases q;rfl
theorem Al.lst {n:Nat}{ds:List D}{v:V}(h:Al K ct F G n (.lst ds) v)(s:bR F G):∃a vs,v=.ref a/\eR K G a vs/\Pr (Al K ct F G (n-1)) ds vs:=by
 cases n with
 |zero=>
  have h:Dt K ct F (.lst ds) v:=h
  cases h with
  |lst q t=>exact⟨_,_,rfl,s.seq q,t.pr⟩
 |succ n=>
  rcases h with h|h
  ·cases h with
   |lst q t=>exact⟨_,_,rfl,s.seq q,t.pr.mono λ_ _=>Al.of⟩
  ·cases h with
   |lst q t=>exact⟨_,_,rfl,eR.of q,t⟩
theorem Al.tup {n:Nat}{ds:List D}{v:V}(h:Al K ct F G n (.tup ds) v)(s:bR F G):∃a vs,v=.ref a/\G a=some (.tup vs)/\Pr (Al K ct F G (n-1)) ds vs:=by
 cases n with
 |zero=>
  have h:Dt K ct F (.tup ds) v:=h
  cases h with
  |tup q t=>exact⟨_,_,rfl,s _ _ q,t.pr⟩
 |succ n=>
  rcases h with h|h
  ·cases h with
   |tup q t=>exact⟨_,_,rfl,s _ _ q,t.pr.mono λ_ _=>Al.of⟩
  ·cases h with
   |tup q t=>exact⟨_,_,rfl,s _ _ q,t⟩
theorem Al.dK {n:Nat}{ks:List fw}{ds:List D}{v:V}(h:Al K ct F G n (.dK ks ds) v)(s:bR F G):∃a vs,v=.ref a/\G a=some (.dK (ks.zip vs))/\ks.length=vs.length/\Pr (Al K ct F G (n-1)) ds vs:=by
 cases n with
 |zero=>
  have h:Dt K ct F (.dK ks ds) v:=h
  cases h with
  |dK q l t=>exact⟨_,_,rfl,s _ _ q,l,t.pr⟩
 |succ n=>
  rcases h with h|h
  ·cases h with
   |dK q l t=>exact⟨_,_,rfl,s _ _ q,l,t.pr.mono λ_ _=>Al.of⟩
  ·cases h with
   |dK q l t=>exact⟨_,_,rfl,q,l,t⟩
theorem Al.dT {n:Nat}{ks:List (List fw)}{ds:List D}{v:V}(h:Al K ct F G n (.dT ks ds) v)(s:bR F G):∃a vs,v=.ref a/\G a=some (.dT (ks.zip vs))/\ks.length=vs.length/\Pr (Al K ct F G (n-1)) ds vs:=by
 cases n with
 |zero=>
  have h:Dt K ct F (.dT ks ds) v:=h
  cases h with
  |dT q l t=>exact⟨_,_,rfl,s _ _ q,l,t.pr⟩
 |succ n=>
  rcases h with h|h
  ·cases h with
   |dT q l t=>exact⟨_,_,rfl,s _ _ q,l,t.pr.mono λ_ _=>Al.of⟩
  ·cases h with
   |dT q l t=>exact⟨_,_,rfl,q,l,t⟩
theorem Al.obj {n:Nat}{c:Nat}{ns:List aU}{ds:List D}{v:V}(h:Al K ct F G n (.obj c ns ds) v)(s:bR F G):∃a dx vs,v=.ref a/\G a=some (.ins (ct c) dx (ns.zip vs))/\ns.length=vs.length/\Pr (Al K ct F G (n-1)) ds vs:=by
 cases n with
 |zero=>
  have h:Dt K ct F (.obj c ns ds) v:=h
  cases h with
  |obj q l t=>exact⟨_,_,_,rfl,s _ _ q,l,t.pr⟩
 |succ n=>
  rcases h with h|h
  ·cases h with
   |obj q l t=>exact⟨_,_,_,rfl,s _ _ q,l,t.pr.mono λ_ _=>Al.of⟩
  ·cases h with
   |obj q l t=>exact⟨_,_,_,rfl,q,l,t⟩
theorem fk.mono {R R':D->V->List ah->Prop}{ds:List D}{vs:List V}{fp:List ah}(h:fk R ds vs fp):(∀d v f,(∀a∈f,a∈fp)->R d v f->R' d v f)->fk R' ds vs fp:=by
 induction h with
 |nil=>exactλ_=>.nil
 |cons h t ih=>exactλq=>.cons (q _ _ _ (λa z=>bm _ z) h) (ih λd v f i r=>q d v f (λa z=>ay _ (i a z)) r)
theorem fk.pr {R:D->V->List ah->Prop}{R':D->V->Prop}{ds:List D}{vs:List V}{fp:List ah}(h:fk R ds vs fp):(∀d v f,(∀a∈f,a∈fp)->R d v f->R' d v)->Pr R' ds vs:=by
 induction h with
 |nil=>exactλ_=>.nil
 |cons h t ih=>exactλq=>.cons (q _ _ _ (λa z=>bm _ z) h) (ih λd v f i r=>q d v f (λa z=>ay _ (i a z)) r)
theorem fk.ofPr {R:D->V->List ah->Prop}{ds:List D}{vs:List V}(h:Pr (λd v=>R d v []) ds vs):fk R ds vs []:=by
 induction h with
 |nil=>exact .nil
 |cons h t ih=>exact fk.cons (f:=[]) (g:=[]) h ih
theorem fk.append {R:D->V->List ah->Prop}{ds es:List D}{vs us:List V}{f g:List ah}(h:fk R ds vs f)(s:fk R es us g):fk R (ds++es) (vs++us) (f++g):=by
 induction h with
 |nil=>exact s
 |cons h t ih=>rw[eX];exact .cons h ih
theorem fk.length {R:D->V->List ah->Prop}{ds:List D}{vs:List V}{fp:List ah}(h:fk R ds vs fp):ds.length=vs.length:=by
 induction h with
 |nil=>rfl
 |cons _ t ih=>simp[ih]
theorem Ow.frame (sF:bR F F'){n:Nat}:∀{d:D} {v:V} {fp:List ah},Ow K ct F H n d v fp->(∀a∈fp,H' a=H a/\F' a=none)->Ow K ct F' H' n d v fp:=by
 induction n with
 |zero=>exactλh _=>⟨h.1.mono sF,h.2⟩
 |succ n ih=>
  intro d v fp h k
  rcases h with h|h
  ·exact .inl ⟨h.1,h.2.1.mono sF,h.2.2⟩
  ·cases h with
   |lst hn h p=>exact .inr (.lst (k _ aa).2 ((k _ aa).1.trans h) (p.mono λ_ _ _ i q=>ih q λa z=>k a (ai _ (i a z))))
   |tup h p=>exact .inr (.tup (sF _ _ h) (p.mono λ_ _ _ i q=>ih q λa z=>k a (i a z)))
   |dK hn h l p=>exact .inr (.dK (k _ aa).2 ((k _ aa).1.trans h) l (p.mono λ_ _ _ i q=>ih q λa z=>k a (ai _ (i a z))))
   |dT hn h l p=>exact .inr (.dT (k _ aa).2 ((k _ aa).1.trans h) l (p.mono λ_ _ _ i q=>ih q λa z=>k a (ai _ (i a z))))
   |obj hn h l p=>exact .inr (.obj (k _ aa).2 ((k _ aa).1.trans h) l (p.mono λ_ _ _ i q=>ih q λa z=>k a (ai _ (i a z))))
theorem fk.cells0 {R:D->V->List ah->Prop}(k:∀d v f,R d v f->∀a∈f,F a=none/\∃o,H a=some o){ds:List D}{vs:List V}{fp:List ah}(h:fk R ds vs fp):∀a∈fp,F a=none/\∃o,H a=some o:=by
 induction h with
 |nil=>exactλa z=>by cases z
 |cons h t ih=>exactλa z=>(bc.mp z).elim (λz=>k _ _ _ h a z) (ih a)
theorem Ow.cells {n:Nat}:∀{d:D} {v:V} {fp:List ah},Ow K ct F H n d v fp->∀a∈fp,F a=none/\∃o,H a=some o:=by
 induction n with
 |zero=>exactλh a z=>by rw[h.2]at z;cases z
 |succ n ih=>
  intro d v fp h a z
  rcases h with h|h
  ·rw[h.2.2]at z;cases z
  ·cases h with
   |lst hn h p=>exact(aA.mp z).elim (λe=>by rw[e];exact⟨hn,_,h⟩) (fk.cells0 (λd v f q=>ih q) p a)
   |tup h p=>exact fk.cells0 (λd v f q=>ih q) p a z
   |dK hn h l p=>exact(aA.mp z).elim (λe=>by rw[e];exact⟨hn,_,h⟩) (fk.cells0 (λd v f q=>ih q) p a)
   |dT hn h l p=>exact(aA.mp z).elim (λe=>by rw[e];exact⟨hn,_,h⟩) (fk.cells0 (λd v f q=>ih q) p a)
   |obj hn h l p=>exact(aA.mp z).elim (λe=>by rw[e];exact⟨hn,_,h⟩) (fk.cells0 (λd v f q=>ih q) p a)
theorem Ow.ext {n:Nat}{d:D}{v:V}{fp:List ah}(h:Ow K ct F H n d v fp)(e:gK F H F' H'):Ow K ct F' H' n d v fp :=
 h.frame e.ff λa z=>by
  obtain⟨hn,o,ho⟩:=h.cells a z
  exact⟨(e.hh _ _ ho).trans ho.symm,e.nf a o ho hn⟩
theorem Ow.al (s:bR F H){n:Nat}:∀{d:D} {v:V} {fp:List ah},Ow K ct F H n d v fp->Al K ct F H n d v:=by
 induction n with
 |zero=>exactλh=>h.1
 |succ n ih=>
  intro d v fp h
  rcases h with h|h
  ·exact .inl h.2.1
  ·cases h with
   |lst hn h p=>exact .inr (.lst h (p.pr λ_ _ _ _ q=>ih q))
   |tup h p=>exact .inr (.tup h (p.pr λ_ _ _ _ q=>ih q))
   |dK hn h l p=>exact .inr (.dK h l (p.pr λ_ _ _ _ q=>ih q))
   |dT hn h l p=>exact .inr (.dT h l (p.pr λ_ _ _ _ q=>ih q))
   |obj hn h l p=>exact .inr (.obj h l (p.pr λ_ _ _ _ q=>ih q))
theorem Ow.dt (sF:bR F F'){n:Nat}:∀{d:D} {v:V} {fp:List ah},Ow K ct F H n d v fp->(∀a∈fp,F' a=H a)->Dt K ct F' d v:=by
 induction n with
 |zero=>exactλh _=>h.1.mono sF
 |succ n ih=>
  intro d v fp h k
  rcases h with h|h
  ·exact h.2.1.mono sF
  ·cases h with
   |lst hn h p=>exact .lst (eR.of ((k _ aa).trans h)) (.of (p.pr λ_ _ _ i q=>ih q λa z=>k a (ai _ (i a z))))
   |tup h p=>exact .tup (sF _ _ h) (.of (p.pr λ_ _ _ i q=>ih q λa z=>k a (i a z)))
   |dK hn h l p=>exact .dK ((k _ aa).trans h) l (.of (p.pr λ_ _ _ i q=>ih q λa z=>k a (ai _ (i a z))))
   |dT hn h l p=>exact .dT ((k _ aa).trans h) l (.of (p.pr λ_ _ _ i q=>ih q λa z=>k a (ai _ (i a z))))
   |obj hn h l p=>exact .obj ((k _ aa).trans h) l (.of (p.pr λ_ _ _ i q=>ih q λa z=>k a (ai _ (i a z))))
def iG (F H:Hp)(fp:List ah):Hp:=λa=>if a∈fp then H a else F a
theorem jq {fp:List ah}(s:bR F H)(hf:∀a∈fp,F a=none):bR F (iG F H fp)/\bR (iG F H fp) H/\∀a∈fp,iG F H fp a=H a:=by
 refine⟨λa o h=>?_,λa o h=>?_,λa z=>if_pos z⟩
 ·have:¬a∈fp:=λz=>by rw[hf a z]at h;cases h
  unfold iG;rw[if_neg this];exact h
 ·unfold iG at h
  by_cases z:a∈fp
  ·rw[if_pos z]at h;exact h
  ·rw[if_neg z]at h;exact s _ _ h
theorem Ow.freeze {n:Nat}{d:D}{v:V}{fp:List ah}{F0 H0:Hp}(h:Ow K ct F H n d v fp)(e:gK F0 H0 F H)(hf:∀a∈fp,H0 a=none):∃F',gK F0 H0 F' H/\Dt K ct F' d v:=by
 obtain⟨w1,w2,w3⟩:=jq (fp:=fp) e.fh (λa z=>(h.cells a z).1)
 refine⟨iG F H fp,⟨e.ff.trans w1,e.hh,w2,λa o ho hn=>?_⟩,h.dt w1 w3⟩
 have:¬a∈fp:=λz=>by rw[hf a z]at ho;cases ho
 unfold iG;rw[if_neg this];exact e.nf a o ho hn
theorem Ow.zero {d:D}{v:V}(h:Dt K ct F d v):Ow K ct F H 0 d v []:=⟨h,rfl⟩
theorem Ow.scal {n:Nat}{d:D}{v:V}(h:Dt K ct F d v)(hs:d.sc=true):Ow K ct F H n d v []:=by
 cases n with
 |zero=>exact⟨h,rfl⟩
 |succ n=>exact .inl ⟨hs,h,rfl⟩
end
end L3
namespace L3
open PySem PySem.Spec L2
open PyProof.Rows hiding St
abbrev Env:=List (Option D)
inductive Mo where
 |al (n:Nat)|ow (n:Nat)|px (v:V)|so (x:ah)
def Mo.lv:Mo->Nat
 |.al n=>n
 |.ow n=>n
 |.px _=>1
 |.so _=>1
section
variable (K:ae)(ct:Nat->ah)
inductive SL (F B H:Hp):List Mo->Env->St->List ah->Prop
 |nil:SL F B H [] [] [] []
 |no {m:Mo} {o:Option V} {ms:List Mo} {ρ:Env} {σ:St} {fp:List ah}:SL F B H ms ρ σ fp->SL F B H (m::ms) (none::ρ) (o::σ) fp
 |al {n:Nat} {d:D} {v:V} {ms:List Mo} {ρ:Env} {σ:St} {fp:List ah}:Al K ct F B n d v->SL F B H ms ρ σ fp->SL F B H (.al n::ms) (some d::ρ) (some v::σ) fp
 |px {d:D} {v:V} {ms:List Mo} {ρ:Env} {σ:St} {fp:List ah}:Al K ct F B 1 d v->SL F B H ms ρ σ fp->SL F B H (.px v::ms) (some d::ρ) (some v::σ) fp
 |so {d:D} {x:ah} {ms:List Mo} {ρ:Env} {σ:St} {fp:List ah}:Ow K ct F H 1 d (.ref x) [x]->SL F B H ms ρ σ fp->SL F B H (.so x::ms) (some d::ρ) (some (.ref x)::σ) (x::fp)
 |ow {n:Nat} {d:D} {v:V} {ms:List Mo} {ρ:Env} {σ:St} {f fp:List ah}:Ow K ct F H n d v f->SL F B H ms ρ σ fp->SL F B H (.ow n::ms) (some d::ρ) (some v::σ) (f++fp)
structure RS (F0 B:Hp)(ms:List Mo)(F H:Hp)(ρ:Env)(σ:St):Prop where
 f0:bR F0 F
 bh:bR B H
 fh:bR F H
 nf:∀a o,B a=some o->F0 a=none->F a=none
 sl:∃fp,SL K ct F B H ms ρ σ fp/\fp.Nodup/\∀a∈fp,B a=none
end
section
variable {K:ae}{ct:Nat->ah}{F F' G G' H H' B B' F0:Hp}{ms:List Mo}{ρ:Env}{σ:St}
theorem SL.cells {ms:List Mo}{ρ:Env}{σ:St}{fp:List ah}(h:SL K ct F B H ms ρ σ fp):∀a∈fp,F a=none/\∃o,H a=some o:=by
 induction h with
 |nil=>intro a z;cases z
 |no t ih=>exact ih
 |al _ t ih=>exact ih
 |px _ t ih=>exact ih
 |so h t ih=>exactλa z=>(aA.mp z).elim (λz=>h.cells a (by rw[z];exact aa)) (ih a)
 |ow h t ih=>exactλa z=>(bc.mp z).elim (h.cells a) (ih a)
theorem SL.frame (sF:bR F F'){ms:List Mo}{ρ:Env}{σ:St}{fp:List ah}(h:SL K ct F B H ms ρ σ fp):(∀a∈fp,H' a=H a/\F' a=none)->SL K ct F' B H' ms ρ σ fp:=by
 induction h with
 |nil=>exactλ_=>.nil
 |no t ih=>exactλk=>.no (ih k)
 |al h t ih=>exactλk=>.al (h.mono sF (.refl _)) (ih k)
 |px h t ih=>exactλk=>.px (h.mono sF (.refl _)) (ih k)
 |so h t ih=>exactλk=>.so (h.frame sF λa z=>k a (by rw[az]at z;rw[z];exact aa)) (ih λa z=>k a (ai _ z))
 |ow h t ih=>exactλk=>.ow (h.frame sF λa z=>k a (bm _ z)) (ih λa z=>k a (ay _ z))
theorem RS.ext (r:RS K ct F0 B ms F H ρ σ)(e:gK F H F' H'):RS K ct F0 B ms F' H' ρ σ:=by
 obtain⟨fp,s,nd,hb⟩:=r.sl
 refine⟨r.f0.trans e.ff,r.bh.trans e.hh,e.fh,λa o h n=>e.nf a o (r.bh _ _ h) (r.nf a o h n),fp,s.frame e.ff λa z=>?_,nd,hb⟩
 obtain⟨hn,o,ho⟩:=s.cells a z
 exact⟨(e.hh _ _ ho).trans ho.symm,e.nf a o ho hn⟩
theorem SL.get {ms:List Mo}{ρ:Env}{σ:St}{fp:List ah}{i:Nat}{m:Mo}{d:D}(h:SL K ct F B H ms ρ σ fp)(s:bR F H)(s':bR B H):ms[i]?=some m->ρ[i]?=some (some d)->∃v,σ[i]?=some (some v)/\Al K ct F H m.lv d v:=by
 induction h generalizing i with
 |nil=>intro e;simp at e
 |no t ih=>
  intro e e'
  cases i with
  |zero=>simp at e'
  |succ i=>simpa using ih (by simpa using e) (by simpa using e')
 |al h t ih=>
  intro e e'
  cases i with
  |zero=>
   simp at e e';subst e;subst e'
   exact⟨_,rfl,h.mono (.refl _) s'⟩
  |succ i=>simpa using ih (by simpa using e) (by simpa using e')
 |px h t ih=>
  intro e e'
  cases i with
  |zero=>
   simp at e e';subst e;subst e'
   exact⟨_,rfl,h.mono (.refl _) s'⟩
  |succ i=>simpa using ih (by simpa using e) (by simpa using e')
 |so h t ih=>
  intro e e'
  cases i with
  |zero=>
   simp at e e';subst e;subst e'
   exact⟨_,rfl,h.al s⟩
  |succ i=>simpa using ih (by simpa using e) (by simpa using e')
 |ow h t ih=>
  intro e e'
  cases i with
  |zero=>
   simp at e e';subst e;subst e'
   exact⟨_,rfl,h.al s⟩
  |succ i=>simpa using ih (by simpa using e) (by simpa using e')
theorem RS.get (r:RS K ct F0 B ms F H ρ σ){i:Nat}{m:Mo}{d:D}(hm:ms[i]?=some m)(e:ρ[i]?=some (some d)):∃v,σ[i]?=some (some v)/\Al K ct F H m.lv d v:=by
 obtain⟨fp,s,_,_⟩:=r.sl
 exact s.get r.fh r.bh hm e
theorem SL.put {ms:List Mo}{ρ:Env}{σ:St}{fp:List ah}{i k:Nat}(h0:SL K ct F B H ms ρ σ fp):ms[i]?=some (.ow k) ->
  ∃f1 fr:List ah,(∀a∈f1,a∈fp)/\(∀a∈fr,a∈fp)/\(fp.Nodup->f1.Nodup/\fr.Nodup/\∀a∈f1,a∉fr)/\(∀d,ρ[i]?=some (some d)->∃v,σ[i]?=some (some v)/\Ow K ct F H k d v f1) /\
   ∀(F' H':Hp) (d':D) (v':V) (f':List ah),bR F F'->(∀a∈fr,H' a=H a/\F' a=none)->Ow K ct F' H' k d' v' f' ->
    ∃iE,SL K ct F' B H' ms (ρ.set i (some d')) (σ.set i (some v')) iE/\(∀a∈iE,a∈f'\/a∈fr)/\(f'.Nodup->fr.Nodup->(∀a∈f',a∉fr)->iE.Nodup):=by
 induction h0 generalizing i with
 |nil=>
  intro e
  simp at e
 |@no m0 o0 ms ρ σ fp t ih=>
  intro e
  cases i with
  |zero=>
   simp at e;subst e
   refine⟨[],fp,λa z=>(by cases z),λa z=>z,λn=>⟨bP,n,λa z=>(by cases z)⟩,λd q=>(by simp at q),λF' H' d' v' f' s kf h=>⟨f'++fp,.ow h (t.frame s kf),λa z=>bc.mp z,λn1 n2 dj=>?_⟩⟩
   exact bq.mpr ⟨n1,n2,λa z b zb e=>dj a z (e▸zb)⟩
  |succ i=>
   obtain⟨f1,fr,h1,h2,h3,h4,h5⟩:=ih (i:=i) (by simpa using e)
   refine⟨f1,fr,h1,h2,h3,λd q=>by simpa using h4 d (by simpa using q),λF' H' d' v' f' s kf h=>?_⟩
   obtain⟨iE,q1,q2,q3⟩:=h5 F' H' d' v' f' s kf h
   exact⟨iE,.no q1,q2,q3⟩
 |@al n0 d0 v0 ms ρ σ fp h t ih=>
  intro e
  cases i with
  |zero=>
   simp at e
  |succ i=>
   obtain⟨f1,fr,h1,h2,h3,h4,h5⟩:=ih (i:=i) (by simpa using e)
   refine⟨f1,fr,h1,h2,h3,λd q=>by simpa using h4 d (by simpa using q),λF' H' d' v' f' s kf h'=>?_⟩
   obtain⟨iE,q1,q2,q3⟩:=h5 F' H' d' v' f' s kf h'
   exact⟨iE,.al (h.mono s (.refl _)) q1,q2,q3⟩
 |@px d0 v0 ms ρ σ fp h t ih=>
  intro e
  cases i with
  |zero=>
   simp at e
  |succ i=>
   obtain⟨f1,fr,h1,h2,h3,h4,h5⟩:=ih (i:=i) (by simpa using e)
   refine⟨f1,fr,h1,h2,h3,λd q=>by simpa using h4 d (by simpa using q),λF' H' d' v' f' s kf h'=>?_⟩
   obtain⟨iE,q1,q2,q3⟩:=h5 F' H' d' v' f' s kf h'
   exact⟨iE,.px (h.mono s (.refl _)) q1,q2,q3⟩
 |@so d0 x ms ρ σ fp h t ih=>
  intro e
  cases i with
  |zero=>
   simp at e
  |succ i=>
   obtain⟨f1,fr,h1,h2,h3,h4,h5⟩:=ih (i:=i) (by simpa using e)
   refine⟨f1,x::fr,λa z=>ai _ (h1 a z),λa z=>(aA.mp z).elim (λz=>by rw[z];exact aa) λz=>ai _ (h2 a z),λn=>?_,λd q=>by simpa using h4 d (by simpa using q),λF' H' d' v' f' s kf h'=>?_⟩
   ·obtain⟨n1,n2⟩:=bC.mp n
    obtain⟨m1,m2,m3⟩:=h3 n2
    refine⟨m1,bC.mpr ⟨λz=>n1 (h2 x z),m2⟩,λa z zb=>?_⟩
    rcases aA.mp zb with zb|zb
    ·rw[zb]at z;exact n1 (h1 x z)
    ·exact m3 a z zb
   ·obtain⟨iE,q1,q2,q3⟩:=h5 F' H' d' v' f' s (λa z=>kf a (ai _ z)) h'
    refine⟨x::iE,.so (h.frame s λa z=>kf a (by rw[az]at z;rw[z];exact aa)) q1,λa z=>?_,λn1 n2 dj=>?_⟩
    ·rcases aA.mp z with z|z
     ·exact .inr (by rw[z];exact aa)
     ·exact(q2 a z).imp id λz=>ai _ z
    ·obtain⟨m1,m2⟩:=bC.mp n2
     refine bC.mpr ⟨λz=>?_,q3 n1 m2 λa z zb=>dj a z (ai _ zb)⟩
     rcases q2 x z with z|z
     ·exact dj x z aa
     ·exact m1 z
 |@ow n0 d0 v0 ms ρ σ f fp h t ih=>
  intro e
  cases i with
  |zero=>
   simp at e;subst e
   refine⟨f,fp,λa z=>bm _ z,λa z=>ay _ z,λn=>?_,λd q=>?_,λF' H' d' v' f' s kf h=>⟨f'++fp,.ow h (t.frame s kf),λa z=>bc.mp z,λn1 n2 dj=>?_⟩⟩
   ·obtain⟨n1,n2,n3⟩:=bq.mp n
    exact⟨n1,n2,λa z zb=>n3 a z a zb rfl⟩
   ·simp at q;subst q;exact⟨_,rfl,h⟩
   ·exact bq.mpr ⟨n1,n2,λa z b zb e=>dj a z (e▸zb)⟩
  |succ i=>
   obtain⟨f1,fr,h1,h2,h3,h4,h5⟩:=ih (i:=i) (by simpa using e)
   refine⟨f1,f++fr,λa z=>ay _ (h1 a z),λa z=>(bc.mp z).elim (λz=>bm _ z) λz=>ay _ (h2 a z),λn=>?_,λd q=>by simpa using h4 d (by simpa using q),λF' H' d' v' f' s kf h'=>?_⟩
   ·obtain⟨n1,n2,n3⟩:=bq.mp n
    obtain⟨m1,m2,m3⟩:=h3 n2
    refine⟨m1,bq.mpr ⟨n1,m2,λa z b zb=>n3 a z b (h2 b zb)⟩,λa z zb=>?_⟩
    rcases bc.mp zb with zb|zb
    ·exact n3 a zb a (h1 a z) rfl
    ·exact m3 a z zb
   ·obtain⟨iE,q1,q2,q3⟩:=h5 F' H' d' v' f' s (λa z=>kf a (ay _ z)) h'
    refine⟨f++iE,.ow (h.frame s λa z=>kf a (bm _ z)) q1,λa z=>?_,λn1 n2 dj=>?_⟩
    ·rcases bc.mp z with z|z
     ·exact .inr (bm _ z)
     ·exact(q2 a z).imp id λz=>ay _ z
    ·obtain⟨m1,m2,m3⟩:=bq.mp n2
     refine bq.mpr ⟨m1,q3 n1 m2 λa z zb=>dj a z (ay _ zb),λa z b zb e=>?_⟩
     subst e
     rcases q2 a zb with zb|zb
     ·exact dj a zb (bm _ z)
     ·exact m3 a z a zb rfl
end
abbrev EF:=Env->Option D
inductive kh (K:ae)(ct:Nat->ah)(F G:Hp):List Nat->List D->List V->Prop
 |nil:kh K ct F G [] [] []
 |cons {n:Nat} {d:D} {v:V} {ns:List Nat} {ds:List D} {vs:List V}:Al K ct F G n d v->kh K ct F G ns ds vs->kh K ct F G (n::ns) (d::ds) (v::vs)
theorem kh.mono {K:ae}{ct:Nat->ah}{F F' G G':Hp}(sF:bR F F')(sG:bR G G'){ns:List Nat}{ds:List D}{vs:List V}(h:kh K ct F G ns ds vs):kh K ct F' G' ns ds vs:=by
 induction h with
 |nil=>exact .nil
 |cons h t ih=>exact .cons (h.mono sF sG) ih
theorem kh.length {K:ae}{ct:Nat->ah}{F G:Hp}{ns:List Nat}{ds:List D}{vs:List V}(h:kh K ct F G ns ds vs):vs.length=ns.length:=by
 induction h with
 |nil=>rfl
 |cons h t ih=>rw[aO,aO,ih]
theorem kh.length' {K:ae}{ct:Nat->ah}{F G:Hp}{ns:List Nat}{ds:List D}{vs:List V}(h:kh K ct F G ns ds vs):ds.length=vs.length:=by
 induction h with
 |nil=>rfl
 |cons h t ih=>rw[aO,aO,ih]
theorem kh.append {K:ae}{ct:Nat->ah}{F G:Hp}{o9:List Nat}{n4:List D}{JY:List V}(q:kh K ct F G o9 n4 JY){ns:List Nat}{ds:List D}{vs:List V}(h:kh K ct F G ns ds vs):kh K ct F G (ns++o9) (ds++n4) (vs++JY):=by
 induction h with
 |nil=>exact q
 |cons h t ih=>exact .cons h ih
section
variable (X:Cx)(ct:Nat->ah)(ms:List Mo)
def XE (n:Nat)(e:Expr)(f:EF):Prop:=∃t,PE X e t/\∀(F0 B F H:Hp) (ρ:Env) (σ:St) (d:D) (Q:VK),RS X.K ct F0 B ms F H ρ σ->f ρ=some d ->
 (∀v F' H',gK F H F' H'->Al X.K ct F' H' n d v->Q v H')->t σ H Q
def XO (k:Nat)(e:Expr)(f:EF):Prop:=∃t,PE X e t/\∀(F0 B F H:Hp) (ρ:Env) (σ:St) (d:D) (Q:VK),RS X.K ct F0 B ms F H ρ σ->f ρ=some d ->
 (∀v F' H' fp,gK F H F' H'->Ow X.K ct F' H' k d v fp->fp.Nodup->(∀a∈fp,H a=none)->Q v H')->t σ H Q
def XT (e:Expr)(f:Env->Option Bool):Prop:=∃t,PT X e t/\∀(F0 B F H:Hp) (ρ:Env) (σ:St) (b:Bool) (Q:Bool->Hp->Prop),RS X.K ct F0 B ms F H ρ σ->f ρ=some b ->
 (∀F' H',gK F H F' H'->Q b H')->t σ H Q
def XW (e:Expr)(f:Env->Option Bool):Prop:=∃t,PW X e t/\∀(F0 B F H:Hp) (ρ:Env) (σ:St) (b:Bool) (Q:Bool->Hp->Prop),RS X.K ct F0 B ms F H ρ σ->f ρ=some b ->
 (∀F' H',gK F H F' H'->Q b H')->t σ H Q
def XA (es:List Expr)(ns:List Nat)(f:Env->Option (List D)):Prop:=∃t,PA X es t/\(∀ρ ds,f ρ=some ds->ds.length=es.length)/\∀(F0 B F H:Hp) (ρ:Env) (σ:St) (ds:List D) (Q:List V->Hp->Prop),RS X.K ct F0 B ms F H ρ σ->f ρ=some ds ->
 (∀vs F' H',gK F H F' H'->kh X.K ct F' H' ns ds vs->Q vs H')->t σ H Q
end
def e2 (op:D->D->Option D)(f g:EF):EF:=λρ=>(f ρ).bind λx=>(g ρ).bind λy=>op x y
def e1 (op:D->Option D)(f:EF):EF:=λρ=>(f ρ).bind op
def eN (op:List D->Option D)(f:Env->Option (List D)):EF:=λρ=>(f ρ).bind op
def eC (d:D):EF:=λ_=>some d
def eV (i:Nat):EF:=λρ=>(ρ[i]?).join
def aNil:Env->Option (List D):=λ_=>some []
def aCons (f:EF)(g:Env->Option (List D)):Env->Option (List D):=λρ=>(f ρ).bind λx=>(g ρ).bind λxs=>some (x::xs)
theorem dP {α β γ:Type}{o:Option α}{p:Option β}{op:α->β->Option γ}{r:γ}(h:(o.bind λx=>p.bind λy=>op x y)=some r):∃x y,o=some x/\p=some y/\op x y=some r:=by
 cases o with
 |none=>cases h
 |some x=>
  cases p with
  |none=>cases h
  |some y=>exact⟨x,y,rfl,rfl,h⟩
theorem aV {α β:Type}{o:Option α}{op:α->Option β}{r:β}(h:o.bind op=some r):∃x,o=some x/\op x=some r:=by
 cases o with
 |none=>cases h
 |some x=>exact⟨x,rfl,h⟩
theorem yg {α:Type}{o:Option (Option α)}{x:α}(h:o.join=some x):o=some (some x):=by
 cases o with
 |none=>cases h
 |some y=>exact congrArg some h
def nB (K:ae)(ct:Nat->ah)(n m k:Nat)(r:R2)(op:D->D->Option D):Prop :=
 ∀(F H:Hp) (x y:V) (d1 d2 d:D) (Q:VK),bR F H->Al K ct F H n d1 x->Al K ct F H m d2 y->op d1 d2=some d->(∀v F' H',gK F H F' H'->Al K ct F' H' k d v->Q v H')->r x y H Q
def CV (K:ae)(ct:Nat->ah)(n m k:Nat)(r:R2)(op:D->D->Option D):Prop :=
 ∀(F H:Hp) (x y:V) (d1 d2 d:D) (Q:VK),bR F H->Al K ct F H n d1 x->Al K ct F H m d2 y->op d1 d2=some d ->
  (∀v F' H' fp,gK F H F' H'->Ow K ct F' H' k d v fp->fp.Nodup->(∀a∈fp,H a=none)->Q v H')->r x y H Q
def vF (K:ae)(ct:Nat->ah)(ns:List Nat)(k:Nat)(r:List V->Hp->VK->Prop)(op:List D->Option D):Prop :=
 ∀(F H:Hp) (vs:List V) (ds:List D) (d:D) (Q:VK),bR F H->kh K ct F H ns ds vs->op ds=some d->(∀v F' H',gK F H F' H'->Al K ct F' H' k d v->Q v H')->r vs H Q
def tQ (K:ae)(ct:Nat->ah)(ns:List Nat)(k:Nat)(r:List V->Hp->VK->Prop)(op:List D->Option D):Prop :=
 ∀(F H:Hp) (vs:List V) (ds:List D) (d:D) (Q:VK),bR F H->kh K ct F H ns ds vs->op ds=some d ->
  (∀v F' H' fp,gK F H F' H'->Ow K ct F' H' k d v fp->fp.Nodup->(∀a∈fp,H a=none)->Q v H')->r vs H Q
section
variable {X:Cx}{ct:Nat->ah}{ms:List Mo}{n m k:Nat}{a b c e:Expr}{f g h:EF}{pos:dh}
theorem XO.sh (he:XO X ct ms k e f):XE X ct ms n e f:=by
 obtain⟨t,p,q⟩:=he
 refine⟨t,p,λF0 B F H ρ σ d Q r e w=>q F0 B F H ρ σ d Q r e λv F' H' fp x o nd hf=>?_⟩
 obtain⟨F2,x2,h2⟩:=o.freeze x hf
 exact w v F2 H' x2 (Al.of h2)
theorem XE.ow (he:XE X ct ms 0 e f):XO X ct ms 0 e f:=by
 obtain⟨t,p,q⟩:=he
 exact⟨t,p,λF0 B F H ρ σ d Q r e w=>q F0 B F H ρ σ d Q r e λv F' H' x l=>w v F' H' [] x ⟨l,rfl⟩ bP λa z=>(by cases z)⟩
theorem za (i n:Nat){x:aU}{m:Mo}(hm:ms[i]?=some m:=by rfl)(hl:m.lv=n:=by rfl)(hN:X.N[i]?=some x:=by rfl)(hv:pF X.env.scope x:=by first|exact Or.inl rfl|exact Or.inr (Or.inl rfl)|exact Or.inr (Or.inr rfl))(hd:(x==("__debug__":aU))=false:=by decide)
  (jF:(x==("__classdict__":aU))=false:=by decide):XE X ct ms n (.Name x pos) (eV i):=by
 subst hl
 refine⟨_,qj hN hv hd jF,λF0 B F H ρ σ d Q r e w=>?_⟩
 obtain⟨v,hv,l⟩:=r.get hm (yg e)
 exact⟨v,hv,w v F H (.refl r.fh) l⟩
theorem zvg {i:Int}{j}:XE X ct ms n (.Constant (.int i) j pos) (eC (.int i)):=⟨_,zuj,λF0 B F H ρ σ d Q r e w=>by cases e;exact w _ F H (.refl r.fh) (Al.of (.int i))⟩
theorem rn {i:Bool}{j}:XE X ct ms n (.Constant (.bool i) j pos) (eC (.bl i)):=⟨_,zw1,λF0 B F H ρ σ d Q r e w=>by cases e;exact w _ F H (.refl r.fh) (Al.of (.bl i))⟩
theorem yY {i:aU}{j}:XE X ct ms n (.Constant (.str i) j pos) (eC (.str i)):=⟨_,zul,λF0 B F H ρ σ d Q r e w=>by cases e;exact w _ F H (.refl r.fh) (Al.of (.str i))⟩
theorem zvh {j}:XE X ct ms n (.Constant .none j pos) (eC .non):=⟨_,zuk,λF0 B F H ρ σ d Q r e w=>by cases e;exact w _ F H (.refl r.fh) (Al.of .non)⟩
theorem XE.bin (ha:XE X ct ms n a f)(hb:XE X ct ms m b g):∃ta tb,PE X a ta/\PE X b tb/\∀(F0 B F H:Hp) (ρ:Env) (σ:St) (d1 d2:D) (R:V->V->Hp->Prop),RS X.K ct F0 B ms F H ρ σ->f ρ=some d1->g ρ=some d2 ->
  (∀x y F' H',gK F H F' H'->Al X.K ct F' H' n d1 x->Al X.K ct F' H' m d2 y->R x y H')->ta σ H λx H1=>tb σ H1 λy H2=>R x y H2:=by
 obtain⟨ta,pa,qa⟩:=ha
 obtain⟨tb,pb,qb⟩:=hb
 refine⟨ta,tb,pa,pb,λF0 B F H ρ σ d1 d2 R r e1 e2 w=>qa F0 B F H ρ σ d1 _ r e1 λx F1 H1 x1 l1=>?_⟩
 exact qb F0 B F1 H1 ρ σ d2 _ (r.ext x1) e2 λy F2 H2 x2 l2=>w x y F2 H2 (x1.trans x2) (l1.mono x2.ff x2.hh) l2
theorem yw {op:jU}{r:R2}{o:D->D->Option D}(ho:hJ X (eh op) r)(hs:nB X.K ct n m k r o)(ha:XE X ct ms n a f)(hb:XE X ct ms m b g):XE X ct ms k (.BinOp a op b pos) (e2 o f g):=by
 obtain⟨ta,tb,pa,pb,q⟩:=ha.bin hb
 refine⟨_,PZ ho pa pb,λF0 B F H ρ σ d Q rs e w=>?_⟩
 obtain⟨d1,d2,h1,h2,h3⟩:=dP e
 exact q F0 B F H ρ σ d1 d2 _ rs h1 h2 λx y F' H' x1 l1 l2=>hs F' H' x y d1 d2 d Q x1.fh l1 l2 h3 λv F2 H2 x2 l=>w v F2 H2 (x1.trans x2) l
theorem zxb {op:jU}{r:R2}{o:D->D->Option D}(ho:hJ X (eh op) r)(hs:CV X.K ct n m k r o)(ha:XE X ct ms n a f)(hb:XE X ct ms m b g):XO X ct ms k (.BinOp a op b pos) (e2 o f g):=by
 obtain⟨ta,tb,pa,pb,q⟩:=ha.bin hb
 refine⟨_,PZ ho pa pb,λF0 B F H ρ σ d Q rs e w=>?_⟩
 obtain⟨d1,d2,h1,h2,h3⟩:=dP e
 exact q F0 B F H ρ σ d1 d2 _ rs h1 h2 λx y F' H' x1 l1 l2=>hs F' H' x y d1 d2 d Q x1.fh l1 l2 h3 λv F2 H2 fp x2 l nd hf=>w v F2 H2 fp (x1.trans x2) l nd λz hz=>x1.hh.free (hf z hz)
theorem tF {op:mz}{r:R2}{o:D->D->Option D}(ho:hJ X (cW op) r)(hs:nB X.K ct n m k r o)(ha:XE X ct ms n a f)(hb:XE X ct ms m b g)(hm:dG op b=false):XE X ct ms k (.Compare a [op] [b] pos) (e2 o f g):=by
 obtain⟨ta,tb,pa,pb,q⟩:=ha.bin hb
 refine⟨_,zrw ho pa pb hm,λF0 B F H ρ σ d Q rs e w=>?_⟩
 obtain⟨d1,d2,h1,h2,h3⟩:=dP e
 exact q F0 B F H ρ σ d1 d2 _ rs h1 h2 λx y F' H' x1 l1 l2=>hs F' H' x y d1 d2 d Q x1.fh l1 l2 h3 λv F2 H2 x2 l=>w v F2 H2 (x1.trans x2) l
theorem xR {r:R2}{o:D->D->Option D}(hr:vE X r)(hs:nB X.K ct n m k r o)(ha:XE X ct ms n a f)(hb:XE X ct ms m b g)(hp:mK b):XE X ct ms k (.Subscript a b pos) (e2 o f g):=by
 obtain⟨ta,tb,pa,pb,q⟩:=ha.bin hb
 refine⟨_,Vp hr pa pb hp,λF0 B F H ρ σ d Q rs e w=>?_⟩
 obtain⟨d1,d2,h1,h2,h3⟩:=dP e
 exact q F0 B F H ρ σ d1 d2 _ rs h1 h2 λx y F' H' x1 l1 l2=>hs F' H' x y d1 d2 d Q x1.fh l1 l2 h3 λv F2 H2 x2 l=>w v F2 H2 (x1.trans x2) l
theorem zxc {op:UnaryOp}{r:V->Hp->VK->Prop}{o:D->Option D}(ho:Je X (unaryOp op) r)
  (hs:∀(F H:Hp) (x:V) (d1 d:D) (Q:VK),bR F H->Al X.K ct F H n d1 x->o d1=some d->(∀v F' H',gK F H F' H'->Al X.K ct F' H' k d v->Q v H')->r x H Q) (ha:XE X ct ms n a f):XE X ct ms k (.UnaryOp op a pos) (e1 o f):=by
 obtain⟨ta,pa,qa⟩:=ha
 refine⟨_,zw5 ho pa,λF0 B F H ρ σ d Q rs e w=>?_⟩
 obtain⟨d1,h1,h2⟩:=aV e
 exact qa F0 B F H ρ σ d1 _ rs h1 λx F' H' x1 l1=>hs F' H' x d1 d Q x1.fh l1 h2 λv F2 H2 x2 l=>w v F2 H2 (x1.trans x2) l
theorem zj:XA X ct ms [] [] aNil:=⟨_,uQ,λρ ds e=>(by cases e;rfl),λF0 B F H ρ σ ds Q r e w=>by cases e;exact w [] F H (.refl r.fh) .nil⟩
theorem ze {es:List Expr}{ns:List Nat}{fs:Env->Option (List D)}(ha:XE X ct ms n a f)(hr:XA X ct ms es ns fs)(hs:ar (a::es) X.env=(false,bG a X.env)::ar es X.env:=by rfl):XA X ct ms (a::es) (n::ns) (aCons f fs):=by
 obtain⟨ta,pa,qa⟩:=ha
 obtain⟨tb,pb,lb,qb⟩:=hr
 refine⟨_,ub pa pb hs,λρ ds e=>(by obtain⟨x,xs,h1,h2,h3⟩:=dP e;cases h3;rw[aO,aO,lb _ _ h2]),λF0 B F H ρ σ ds Q r e w=>?_⟩
 obtain⟨x,xs,h1,h2,h3⟩:=dP e
 cases h3
 refine qa F0 B F H ρ σ x _ r h1 λv F1 H1 x1 l1=>?_
 exact qb F0 B F1 H1 ρ σ xs _ (r.ext x1) h2 λvs F2 H2 x2 l2=>w (v::vs) F2 H2 (x1.trans x2) (.cons (l1.mono x2.ff x2.hh) l2)
def CY (X:Cx)(ct:Nat->ah)(ms:List Mo)(k:Nat)(es:List Expr)(f:Env->Option (List D)):Prop:=∃t,PA X es t/\(∀ρ ds,f ρ=some ds->ds.length=es.length)/\∀(F0 B F H:Hp) (ρ:Env) (σ:St) (ds:List D) (Q:List V->Hp->Prop),RS X.K ct F0 B ms F H ρ σ->f ρ=some ds ->
 (∀vs F' H' fp,gK F H F' H'->fk (Ow X.K ct F' H' k) ds vs fp->fp.Nodup->(∀a∈fp,H a=none)->Q vs H')->t σ H Q
theorem wm:CY X ct ms k [] aNil:=⟨_,uQ,λρ ds e=>(by cases e;rfl),λF0 B F H ρ σ ds Q r e w=>by cases e;exact w [] F H [] (.refl r.fh) .nil bP λa z=>(by cases z)⟩
theorem zu {es:List Expr}{fs:Env->Option (List D)}(ha:XO X ct ms k a f)(hr:CY X ct ms k es fs)(hs:ar (a::es) X.env=(false,bG a X.env)::ar es X.env:=by rfl):CY X ct ms k (a::es) (aCons f fs):=by
 obtain⟨ta,pa,qa⟩:=ha
 obtain⟨tb,pb,lb,qb⟩:=hr
 refine⟨_,ub pa pb hs,λρ ds e=>(by obtain⟨x,xs,h1,h2,h3⟩:=dP e;cases h3;rw[aO,aO,lb _ _ h2]),λF0 B F H ρ σ ds Q r e w=>?_⟩
 obtain⟨x,xs,h1,h2,h3⟩:=dP e
 cases h3
 refine qa F0 B F H ρ σ x _ r h1 λv F1 H1 f1 x1 l1 n1 a1=>?_
 refine qb F0 B F1 H1 ρ σ xs _ (r.ext x1) h2 λvs F2 H2 f2 x2 l2 n2 a2=>w (v::vs) F2 H2 (f1++f2) (x1.trans x2) (.cons (l1.ext x2) l2) (bq.mpr ⟨n1,n2,λz hz y hy e=>?_⟩) λz hz=>?_
 ·subst e
  obtain⟨_,o,ho⟩:=l1.cells z hz
  rw[a2 z hy]at ho
  cases ho
 ·rcases bc.mp hz with hz|hz
  ·exact a1 z hz
  ·exact x1.hh.free (a2 z hz)
end
end L3
namespace L3
open PySem PySem.Spec L2
open PyProof.Rows hiding St
def Jh:D->Option Bool
 |.bl b=>some b
 |_=>none
theorem IM {d:D}{b:Bool}(h:Jh d=some b):d=.bl b:=by cases d<;>simp[Jh]at h;subst h;rfl
abbrev BF:=Env->Option Bool
def tb (f:EF):BF:=λρ=>(f ρ).bind Jh
def bNot (f:BF):BF:=λρ=>(f ρ).bind λb=>some (!b)
def bAnd (f g:BF):BF:=λρ=>(f ρ).bind λb=>if b=true then g ρ else some false
def bOr (f g:BF):BF:=λρ=>(f ρ).bind λb=>if b=true then some true else g ρ
def eB (f:BF):EF:=λρ=>(f ρ).bind λb=>some (.bl b)
def eIf (c:BF)(f g:EF):EF:=λρ=>(c ρ).bind λb=>if b=true then f ρ else g ρ
section
variable {X:Cx}{ct:Nat->ah}{ms:List Mo}{n m k:Nat}{a b c e:Expr}{f g h:EF}{p q:BF}{pos:dh}
theorem u0 (he:XE X ct ms n e f)(hi:∀whole,sR e X.env whole=(do let v ← whole;ip e.pos;ek [v] (truthy v)):=by intro _;rfl):XT X ct ms e (tb f):=by
 obtain⟨t,pt,qt⟩:=he
 refine⟨_,zum pt hi,λF0 B F H ρ σ b Q r e w=>?_⟩
 obtain⟨d,h1,h2⟩:=aV e
 rw[IM h2]at h1
 exact qt F0 B F H ρ σ _ _ r h1 λv F' H' x l=>⟨b,l.bl,w F' H' x⟩
theorem yh {op:mz}{r:R2}{o:D->D->Option D}(ho:hJ X (cW op) r)(hs:nB X.K ct n m k r o)(ha:XE X ct ms n a f)(hb:XE X ct ms m b g)(hm:dG op b=false):XT X ct ms (.Compare a [op] [b] pos) (tb (e2 o f g)):=by
 obtain⟨ta,tb,pa,pb,q⟩:=ha.bin hb
 refine⟨_,zrx ho pa pb hm,λF0 B F H ρ σ b Q rs e w=>?_⟩
 obtain⟨d,h0,h4⟩:=aV e
 rw[IM h4]at h0
 obtain⟨d1,d2,h1,h2,h3⟩:=dP h0
 exact q F0 B F H ρ σ d1 d2 _ rs h1 h2 λx y F' H' x1 l1 l2=>hs F' H' x y d1 d2 _ _ x1.fh l1 l2 h3 λv F2 H2 x2 l=>⟨b,l.bl,w F2 H2 (x1.trans x2)⟩
theorem XW.t (h:XW X ct ms e p):XT X ct ms e p:=by
 obtain⟨t,pt,qt⟩:=h
 exact⟨t,pt.pt,qt⟩
theorem IQ (ha:XT X ct ms a p):XW X ct ms (.BoolOp .And [a] pos) p:=by
 obtain⟨t,pt,qt⟩:=ha
 exact⟨t,zrr pt,qt⟩
theorem xO (ha:XT X ct ms a p):XW X ct ms (.BoolOp .Or [a] pos) p:=by
 obtain⟨t,pt,qt⟩:=ha
 exact⟨t,zun pt,qt⟩
theorem IW {rest:List Expr}(ha:XT X ct ms a p)(hb:XW X ct ms (.BoolOp .And (b::rest) pos) q):XW X ct ms (.BoolOp .And (a::b::rest) pos) (bAnd p q):=by
 obtain⟨t,pt,qt⟩:=ha
 obtain⟨u,pu,qu⟩:=hb
 refine⟨_,zuo pt pu,λF0 B F H ρ σ r Q rs e w=>?_⟩
 obtain⟨x,h1,h2⟩:=aV e
 refine qt F0 B F H ρ σ x _ rs h1 λF1 H1 x1=>?_
 cases x with
 |true=>rw[if_pos rfl];exact qu F0 B F1 H1 ρ σ r _ (rs.ext x1) h2 λF2 H2 x2=>w F2 H2 (x1.trans x2)
 |false=>cases h2;rw[if_neg aW];exact w F1 H1 x1
theorem sJ {rest:List Expr}(ha:XT X ct ms a p)(hb:XW X ct ms (.BoolOp .Or (b::rest) pos) q):XW X ct ms (.BoolOp .Or (a::b::rest) pos) (bOr p q):=by
 obtain⟨t,pt,qt⟩:=ha
 obtain⟨u,pu,qu⟩:=hb
 refine⟨_,zw2 pt pu,λF0 B F H ρ σ r Q rs e w=>?_⟩
 obtain⟨x,h1,h2⟩:=aV e
 refine qt F0 B F H ρ σ x _ rs h1 λF1 H1 x1=>?_
 cases x with
 |true=>cases h2;rw[if_pos rfl];exact w F1 H1 x1
 |false=>rw[if_neg aW];exact qu F0 B F1 H1 ρ σ r _ (rs.ext x1) h2 λF2 H2 x2=>w F2 H2 (x1.trans x2)
theorem qw (ha:XT X ct ms a p):XT X ct ms (.UnaryOp .Not a pos) (bNot p):=by
 obtain⟨t,pt,qt⟩:=ha
 refine⟨_,zup pt,λF0 B F H ρ σ r Q rs e w=>?_⟩
 obtain⟨x,h1,h2⟩:=aV e
 cases h2
 exact qt F0 B F H ρ σ x _ rs h1 λF1 H1 x1=>w F1 H1 x1
theorem BP {op}(ha:XE X ct ms n a f):XE X ct ms k (.BoolOp op [a] pos) (eB (tb f)):=by
 obtain⟨t,pt,qt⟩:=ha
 refine⟨_,zuq pt,λF0 B F H ρ σ r Q rs e w=>?_⟩
 obtain⟨y,h3,h4⟩:=aV e
 obtain⟨z,h5,h6⟩:=aV h3
 cases h4
 rw[IM h6]at h5
 exact qt F0 B F H ρ σ _ _ rs h5 λv F1 H1 x1 l=>w _ F1 H1 x1 (by rw[l.bl];exact Al.of (.bl _))
theorem CG {rest:List Expr}(ha:XE X ct ms n a f)(hb:XE X ct ms k (.BoolOp .And (b::rest) pos) (eB q)):XE X ct ms k (.BoolOp .And (a::b::rest) pos) (eB (bAnd (tb f) q)):=by
 obtain⟨t,pt,qt⟩:=ha
 obtain⟨u,pu,qu⟩:=hb
 refine⟨_,zur pt pu,λF0 B F H ρ σ r Q rs e w=>?_⟩
 obtain⟨y,h3,h4⟩:=aV e
 obtain⟨x,h1,h2⟩:=aV h3
 obtain⟨z,h5,h6⟩:=aV h1
 cases h4
 rw[IM h6]at h5
 refine qt F0 B F H ρ σ _ _ rs h5 λv F1 H1 x1 l=>⟨x,l.bl,?_⟩
 cases x with
 |true=>rw[if_pos rfl];exact qu F0 B F1 H1 ρ σ _ _ (rs.ext x1) (show(q ρ).bind _=_ by rw[if_pos rfl]at h2;rw[h2];rfl) λv F2 H2 x2 l=>w v F2 H2 (x1.trans x2) l
 |false=>rw[if_neg aW]at h2 ⊢;cases h2;exact w _ F1 H1 x1 (Al.of (.bl _))
theorem zxd {rest:List Expr}(ha:XE X ct ms n a f)(hb:XE X ct ms k (.BoolOp .Or (b::rest) pos) (eB q)):XE X ct ms k (.BoolOp .Or (a::b::rest) pos) (eB (bOr (tb f) q)):=by
 obtain⟨t,pt,qt⟩:=ha
 obtain⟨u,pu,qu⟩:=hb
 refine⟨_,zw3 pt pu,λF0 B F H ρ σ r Q rs e w=>?_⟩
 obtain⟨y,h3,h4⟩:=aV e
 obtain⟨x,h1,h2⟩:=aV h3
 obtain⟨z,h5,h6⟩:=aV h1
 cases h4
 rw[IM h6]at h5
 refine qt F0 B F H ρ σ _ _ rs h5 λv F1 H1 x1 l=>⟨x,l.bl,?_⟩
 cases x with
 |true=>rw[if_pos rfl]at h2 ⊢;cases h2;exact w _ F1 H1 x1 (Al.of (.bl _))
 |false=>rw[if_neg aW];exact qu F0 B F1 H1 ρ σ _ _ (rs.ext x1) (show(q ρ).bind _=_ by rw[if_neg aW]at h2;rw[h2];rfl) λv F2 H2 x2 l=>w v F2 H2 (x1.trans x2) l
theorem Ja (hc:XT X ct ms c p)(ha:XE X ct ms k a f)(hb:XE X ct ms k b g):XE X ct ms k (.IfExp c a b pos) (eIf p f g):=by
 obtain⟨s,ps,qs⟩:=hc
 obtain⟨t,pt,qt⟩:=ha
 obtain⟨u,pu,qu⟩:=hb
 refine⟨_,zos ps pt pu,λF0 B F H ρ σ r Q rs e w=>?_⟩
 obtain⟨x,h1,h2⟩:=aV e
 refine qs F0 B F H ρ σ x _ rs h1 λF1 H1 x1=>?_
 cases x with
 |true=>rw[if_pos rfl]at h2 ⊢;exact qt F0 B F1 H1 ρ σ _ _ (rs.ext x1) h2 λv F2 H2 x2 l=>w v F2 H2 (x1.trans x2) l
 |false=>rw[if_neg aW]at h2 ⊢;exact qu F0 B F1 H1 ρ σ _ _ (rs.ext x1) h2 λv F2 H2 x2 l=>w v F2 H2 (x1.trans x2) l
theorem qx {es:List Expr}{fs:Env->Option (List D)}{x1}(h:CY X ct ms k es fs)(hl:es.length<=1000:=by decide):XO X ct ms (k+1) (.Tuple es x1 pos) (λρ=>(fs ρ).bind λds=>some (.tup ds)):=by
 obtain⟨t,pt,lt,qt⟩:=h
 refine⟨_,zu0 pt,λF0 B F H ρ σ r Q rs e w=>?_⟩
 obtain⟨ds,h1,h2⟩:=aV e
 cases h2
 refine qt F0 B F H ρ σ ds _ rs h1 λvs F1 H1 fp x1 l nd hf=>⟨?_,λp hp=>?_⟩
 ·rw[←l.length,lt _ _ h1];exact small hl
 ·have x2:=gK.newS x1.fh hp (.tup vs)
  exact w _ _ _ fp (x1.trans x2) (.inr (.tup yx (l.mono λ_ _ _ _ o=>o.ext x2))) nd hf
theorem fk.cellsOf {K:ae}{F H:Hp}{ds:List D}{vs:List V}{fp:List ah}(l:fk (Ow K ct F H k) ds vs fp):∀a∈fp,F a=none/\∃o,H a=some o:=fk.cells0 (λd v f q=>Ow.cells q) l
theorem Ux {K:ae}{F H:Hp}{ds:List D}{vs:List V}{fp:List ah}{p:ah}(s:bR F H)(l:fk (Ow K ct F H k) ds vs fp)(hp:H p=none):Ow K ct F (upd H p (.lst vs)) (k+1) (.lst ds) (.ref p) (p::fp)/\(fp.Nodup->(p::fp).Nodup) :=
 ⟨.inr (.lst (s.free hp) yx (l.mono λ_ _ _ _ o=>o.ext (gK.newO s hp _))),λnd=>bC.mpr ⟨λz=>(by
  obtain⟨_,o,ho⟩:=fk.cellsOf l p z
  rw[hp]at ho
  cases ho),nd⟩⟩
theorem uR {es:List Expr}{fs:Env->Option (List D)}(h:CY X ct ms k es fs)(hl:es.length<=1000:=by decide):XO X ct ms (k+1) (.List es pos) (λρ=>(fs ρ).bind λds=>some (.lst ds)):=by
 obtain⟨t,pt,lt,qt⟩:=h
 refine⟨_,zu1 pt,λF0 B F H ρ σ r Q rs e w=>?_⟩
 obtain⟨ds,h1,h2⟩:=aV e
 cases h2
 refine qt F0 B F H ρ σ ds _ rs h1 λvs F1 H1 fp x1 l nd hf=>⟨?_,λp hp=>?_⟩
 ·rw[←l.length,lt _ _ h1];exact small hl
 ·obtain⟨o,n2⟩:=Ux x1.fh l hp
  refine w _ _ _ (p::fp) (x1.trans (gK.newO x1.fh hp _)) o (n2 nd) λz hz=>?_
  rcases aA.mp hz with rfl|hz
  ·exact x1.hh.free hp
  ·exact hf z hz
theorem OH:XO X ct ms (k+1) (.Dict [] [] pos) (eC (.dK [] [])):=by
 refine⟨_,zo7,λF0 B F H ρ σ r Q rs e w p hp=>?_⟩
 cases e
 refine w _ F _ [p] (gK.newO rs.fh hp _) (.inr (vG.dK (vs:=[]) (rs.fh.free hp) yx rfl .nil)) (by simp) λz hz=>?_
 rw[az]at hz;subst hz;exact hp
theorem zpb:XO X ct ms (k+1) (.Dict [] [] pos) (eC (.dT [] [])):=by
 refine⟨_,zo8,λF0 B F H ρ σ r Q rs e w p hp=>?_⟩
 cases e
 refine w _ F _ [p] (gK.newO rs.fh hp _) (.inr (vG.dT (vs:=[]) (rs.fh.free hp) yx rfl .nil)) (by simp) λz hz=>?_
 rw[az]at hz;subst hz;exact hp
def fU (K:ae)(ct:Nat->ah)(pm:List Nat)(rk:Nat)(m:List D->Option D):Sp:=λvs H Q _=>∃(F:Hp) (ds:List D) (d:D),bR F H/\kh K ct F H pm ds vs/\m ds=some d /\
 ∀v F' H' fp,gK F H F' H'->Ow K ct F' H' rk d v fp->fp.Nodup->(∀a∈fp,H a=none)->Q v H'
theorem fU.len {K:ae}{ct:Nat->ah}{pm:List Nat}{rk:Nat}{m:List D->Option D}{ps:List aU}(h:pm.length=ps.length):∀vs H Q E,fU K ct pm rk m vs H Q E->vs.length=ps.length:=by
 rintro vs H Q E ⟨F,ds,d,_,l,_⟩
 rw[l.length,h]
variable {kk:Nat}{fa:ah}{fd:aI}{ps:List aU}{pm:List Nat}{rk:Nat}{mf:List D->Option D}{x:aU}{pp:dh}
theorem Uy {es:List Expr}{ns nd:List Nat}{fs:Env->Option (List D)}{jE:List V}{kO:List D}{kP:List af}(Fn:cB X.prog X.w X.K X.mg X.base eF kk fa fd ps (fU X.K ct (ns++nd) rk mf))(hr:eM kk X.A)(hg:Gl X x)(hm:X.mg x=some (.ref fa))(hk:ak X.K (.ref fa)=true)
  (hb:bA X.K fd ps kP) (hd:bZ jE kP) (wI:∀F G,kh X.K ct F G nd kO jE) (ha:XA X ct ms (e::es) ns fs)
  (lK:(x==("__debug__":aU))=false:=by decide) (he:ar (e::es) X.env=(false,bG e X.env)::ar es X.env:=by rfl) (iL:(cE pos (ar es X.env)).any (·.1)=false:=by rfl) :
  XO X ct ms rk (.Call (.Name x pp) (e::es) [] pos) (λρ=>(fs ρ).bind λds=>mf (ds++kO)):=by
 obtain⟨t,pt,_,qt⟩:=ha
 refine⟨_,Ui Fn hr hg hm hk hb hd oj pt lK he iL,λF0 B F H ρ σ r Q rs e w=>?_⟩
 obtain⟨ds,h1,h2⟩:=aV e
 refine qt F0 B F H ρ σ ds _ rs h1 λvs F1 H1 x1 l=>⟨F1,ds++kO,r,x1.fh,kh.append (wI F1 H1) l,h2,λv F2 H2 fp x2 o nd hf=>?_⟩
 exact w v F2 H2 fp (x1.trans x2) o nd λz hz=>x1.hh.free (hf z hz)
theorem u1 {es:List Expr}{ns:List Nat}{fs:Env->Option (List D)}{id:String}{r:List V->Hp->VK->Prop}{op:List D->Option D}(hc:eP X (.builtin id) r)(hs:vF X.K ct ns k r op)(hg:Gl X x)(hm:X.mg x=none)(hv:bW x=some (.builtin id))(ha:XA X ct ms (e::es) ns fs)
  (hn:x≠"__name__":=by decide) (lK:(x==("__debug__":aU))=false:=by decide) (he:ar (e::es) X.env=(false,bG e X.env)::ar es X.env:=by rfl) (iL:(cE pos (ar es X.env)).any (·.1)=false:=by rfl) :
  XE X ct ms k (.Call (.Name x pp) (e::es) [] pos) (eN op fs):=by
 obtain⟨t,pt,_,qt⟩:=ha
 refine⟨_,Kk hc hg hm hv pt hn lK he iL,λF0 B F H ρ σ r Q rs e w=>?_⟩
 obtain⟨ds,h1,h2⟩:=aV e
 exact qt F0 B F H ρ σ ds _ rs h1 λvs F1 H1 x1 l=>hs F1 H1 vs ds r Q x1.fh l h2 λv F2 H2 x2 l2=>w v F2 H2 (x1.trans x2) l2
theorem zpc {es:List Expr}{ns:List Nat}{fs:Env->Option (List D)}{id:String}{r:List V->Hp->VK->Prop}{op:List D->Option D}(hc:eP X (.builtin id) r)(hs:tQ X.K ct ns k r op)(hg:Gl X x)(hm:X.mg x=none)(hv:bW x=some (.builtin id))(ha:XA X ct ms (e::es) ns fs)
  (hn:x≠"__name__":=by decide) (lK:(x==("__debug__":aU))=false:=by decide) (he:ar (e::es) X.env=(false,bG e X.env)::ar es X.env:=by rfl) (iL:(cE pos (ar es X.env)).any (·.1)=false:=by rfl) :
  XO X ct ms k (.Call (.Name x pp) (e::es) [] pos) (eN op fs):=by
 obtain⟨t,pt,_,qt⟩:=ha
 refine⟨_,Kk hc hg hm hv pt hn lK he iL,λF0 B F H ρ σ r Q rs e w=>?_⟩
 obtain⟨ds,h1,h2⟩:=aV e
 exact qt F0 B F H ρ σ ds _ rs h1 λvs F1 H1 x1 l=>hs F1 H1 vs ds r Q x1.fh l h2 λv F2 H2 fp x2 l2 nd hf=>w v F2 H2 fp (x1.trans x2) l2 nd λz hz=>x1.hh.free (hf z hz)
theorem zmy {es:List Expr}{ns:List Nat}{fs:Env->Option (List D)}{id:String}{r:List V->Hp->VK->Prop}{op:List D->Option D}(hc:eP X (.type id) r)(hs:vF X.K ct ns k r op)(hg:Gl X x)(hm:X.mg x=none)(hv:bW x=some (.type id))(ha:XA X ct ms (e::es) ns fs)
  (hn:x≠"__name__":=by decide) (lK:(x==("__debug__":aU))=false:=by decide) (he:ar (e::es) X.env=(false,bG e X.env)::ar es X.env:=by rfl) (iL:(cE pos (ar es X.env)).any (·.1)=false:=by rfl) :
  XE X ct ms k (.Call (.Name x pp) (e::es) [] pos) (eN op fs):=by
 obtain⟨t,pt,_,qt⟩:=ha
 refine⟨_,Tg hc hg hm hv pt hn lK he iL,λF0 B F H ρ σ r Q rs e w=>?_⟩
 obtain⟨ds,h1,h2⟩:=aV e
 exact qt F0 B F H ρ σ ds _ rs h1 λvs F1 H1 x1 l=>hs F1 H1 vs ds r Q x1.fh l h2 λv F2 H2 x2 l2=>w v F2 H2 (x1.trans x2) l2
theorem Oq {es:List Expr}{ns:List Nat}{fs:Env->Option (List D)}{id:String}{r:List V->Hp->VK->Prop}{op:List D->Option D}(hc:eP X (.type id) r)(hs:tQ X.K ct ns k r op)(hg:Gl X x)(hm:X.mg x=none)(hv:bW x=some (.type id))(ha:XA X ct ms (e::es) ns fs)
  (hn:x≠"__name__":=by decide) (lK:(x==("__debug__":aU))=false:=by decide) (he:ar (e::es) X.env=(false,bG e X.env)::ar es X.env:=by rfl) (iL:(cE pos (ar es X.env)).any (·.1)=false:=by rfl) :
  XO X ct ms k (.Call (.Name x pp) (e::es) [] pos) (eN op fs):=by
 obtain⟨t,pt,_,qt⟩:=ha
 refine⟨_,Tg hc hg hm hv pt hn lK he iL,λF0 B F H ρ σ r Q rs e w=>?_⟩
 obtain⟨ds,h1,h2⟩:=aV e
 exact qt F0 B F H ρ σ ds _ rs h1 λvs F1 H1 x1 l=>hs F1 H1 vs ds r Q x1.fh l h2 λv F2 H2 fp x2 l2 nd hf=>w v F2 H2 fp (x1.trans x2) l2 nd λz hz=>x1.hh.free (hf z hz)
def cv (cs:List Nat)(x:aU):D->Option D
 |.obj c ns ds=>if cs.contains c=true then(ns.zip ds).lookup x else none
 |_=>none
theorem SN {R:D->V->Prop}{x:aU}{d:D}:∀{ns:List aU} {ds:List D} {vs:List V},Pr R ds vs->(ns.zip ds).lookup x=some d->∃v,(ns.zip vs).lookup x=some v/\R d v
 |[],_,_,_,e=>by simp at e
 |_::_,_,_,.nil,e=>by simp at e
 |y::ns,_,_,.cons h t,e=>by
  rw[fT,bw]at e
  rw[fT,bw]
  cases q:x==y with
  |true=>rw[q]at e;cases e;exact⟨_,rfl,h⟩
  |false=>rw[q]at e;exact SN t e
theorem OI {vs:List V}{x:aU}:∀{ns:List aU} {vs:List V},ns.contains x=false->(ns.zip vs).lookup x=none
 |[],_,_=>by simp
 |_::_,[],_=>by simp
 |y::ns,_::vs,h=>by
  rw[rS,qA]at h
  rw[fT,bw,h.1]
  exact OI (vs:=vs) h.2
theorem zy {x:aU}{cs:List Nat}(he:XE X ct ms n e f)(hc:∀c∈cs,lf X.K (ct c)/\fZ X.K (ct c) x)(hb:eJ e x X.env (bG e X.env)=bG e X.env):XE X ct ms (n-1) (.Attribute e x pos) (e1 (cv cs x) f):=by
 obtain⟨t,pt,qt⟩:=he
 refine⟨_,zuy pt hb,λF0 B F H ρ σ r Q rs e w=>?_⟩
 obtain⟨o,h1,h2⟩:=aV e
 refine qt F0 B F H ρ σ o _ rs h1 λv F1 H1 x1 l=>?_
 cases o with
 |obj c ns ds=>
  obtain⟨a,dx,vs,rfl,ha,hl,MW⟩:=l.obj x1.fh
  unfold cv at h2
  dsimp only at h2
  by_cases AW:cs.contains c=true
  ·rw[if_pos AW]at h2
   obtain⟨u,hu,du⟩:=SN MW h2
   have hh:=hc c (by simpa using AW)
   exact⟨a,_,dx,_,u,rfl,ha,hh.1,hh.2,hu,w u F1 H1 x1 du⟩
  ·rw[if_neg AW]at h2;cases h2
 |_=>cases h2
def gO (c0:Nat)(m:aU)(mf:List D->Option D)(o:D)(ds:List D):Option D:=match o with
 |.obj c ns _=>if c=c0/\ns.contains m=false then mf (o::ds)else none
 |_=>none
theorem KB {o:Expr}{x:aU}{dF:dh}{pl:pw Bool}{es:List Expr}{ns nd:List Nat}{fs:Env->Option (List D)}{jE:List V}{kO:List D}{kP:List af}{c0:Nat}(ho:XE X ct ms n o f)(c:lf X.K (ct c0))(hm:qN X.K (ct c0) x fa)(Fn:cB X.prog X.w X.K X.mg X.base eF kk fa fd ps (fU X.K ct (n::(ns++nd)) rk mf))(hr:eM kk X.A)
  (hb:bA X.K fd ps kP) (hd:bZ jE kP) (wI:∀F G,kh X.K ct F G nd kO jE) (ha:XA X ct ms (e::es) ns fs)
  (m9:ar (e::es) X.env=(false,bG e X.env)::ar es X.env:=by rfl) (iL:(cE pos (ar es X.env)).any (·.1)=false:=by rfl)
  (ht:bG (.Call (.Attribute o x dF) (e::es) [] pos) X.env=(do
   let ov ← bG o X.env
   ip dF.atName
   let(f,first) ← ek [ov] (ig ov x pl)
   jV pos f first (cE pos (ar (e::es) X.env)) (fq pos (dw [] X.env))):=by rfl) :
  XO X ct ms rk (.Call (.Attribute o x dF) (e::es) [] pos) (λρ=>(f ρ).bind λo=>(fs ρ).bind λds=>gO c0 x mf o (ds++kO)):=by
 obtain⟨u,pu,qu⟩:=ho
 obtain⟨t,pt,_,qt⟩:=ha
 refine⟨_,zr2 pu c hm Fn hr hb hd oj pt m9 iL ht,λF0 B F H ρ σ r Q rs e w=>?_⟩
 obtain⟨o,ds,h1,h2,h3⟩:=dP e
 refine qu F0 B F H ρ σ o _ rs h1 λv F1 H1 x1 l=>?_
 cases o with
 |obj c1 o9 n4=>
  unfold gO at h3
  dsimp only at h3
  split at h3
  ·rename_i hc
   obtain⟨rfl,jL⟩:=hc
   obtain⟨a,dx,vs,rfl,ha,hl,MW⟩:=l.obj x1.fh
   refine⟨a,dx,_,rfl,ha,OI (vs:=vs) jL,?_⟩
   refine qt F0 B F1 H1 ρ σ ds _ (rs.ext x1) h2 λus F2 H2 x2 l2=>⟨F2,_,r,x2.fh,.cons (l.mono x2.ff x2.hh) (kh.append (wI F2 H2) l2),h3,λv F3 H3 fp x3 o nd hf=>?_⟩
   exact w v F3 H3 fp ((x1.trans x2).trans x3) o nd λz hz=>(x1.trans x2).hh.free (hf z hz)
  ·cases h3
 |_=>cases h3
theorem Ct {o:Expr}{x:aU}{dF:dh}{pl:pw Bool}{nd:List Nat}{jE:List V}{kO:List D}{kP:List af}{c0:Nat}(ho:XE X ct ms n o f)(c:lf X.K (ct c0))(hm:qN X.K (ct c0) x fa)(Fn:cB X.prog X.w X.K X.mg X.base eF kk fa fd ps (fU X.K ct (n::nd) rk mf))(hr:eM kk X.A)
  (hb:bA X.K fd ps kP) (hd:bZ jE kP) (wI:∀F G,kh X.K ct F G nd kO jE)
  (ht:bG (.Call (.Attribute o x dF) [] [] pos) X.env=(do
   let ov ← bG o X.env
   ip dF.atName
   let(f,first) ← ek [ov] (ig ov x pl)
   jV pos f first (cE pos (ar [] X.env)) (fq pos (dw [] X.env))):=by rfl) :
  XO X ct ms rk (.Call (.Attribute o x dF) [] [] pos) (λρ=>(f ρ).bind λo=>gO c0 x mf o kO):=by
 obtain⟨u,pu,qu⟩:=ho
 refine⟨_,zoz pu c hm Fn hr hb hd oj ht,λF0 B F H ρ σ r Q rs e w=>?_⟩
 obtain⟨o,h1,h3⟩:=aV e
 refine qu F0 B F H ρ σ o _ rs h1 λv F1 H1 x1 l=>?_
 cases o with
 |obj c1 o9 n4=>
  unfold gO at h3
  dsimp only at h3
  split at h3
  ·rename_i hc
   obtain⟨rfl,jL⟩:=hc
   obtain⟨a,dx,vs,rfl,ha,hl,MW⟩:=l.obj x1.fh
   refine⟨a,dx,_,rfl,ha,OI (vs:=vs) jL,F1,_,r,x1.fh,.cons l (wI F1 H1),h3,λv F3 H3 fp x3 o nd hf=>?_⟩
   exact w v F3 H3 fp (x1.trans x3) o nd λz hz=>x1.hh.free (hf z hz)
  ·cases h3
 |_=>cases h3
end
end L3
namespace L3
open PySem PySem.Spec L2
open PyProof.Rows hiding St
inductive Out where
 |nx (ρ:Env)|rt (d:D)|bk (ρ:Env)|ct (ρ:Env)
abbrev SF:=Env->Option Out
def ma (K:ae)(cl:Nat->ah)(F0 B:Hp)(ms:List Mo)(rk:Nat)(E:lD):Out->Prop
 |.nx ρ=>∀σ F H,RS K cl F0 B ms F H ρ σ->E.nx σ H
 |.bk ρ=>∀σ F H,RS K cl F0 B ms F H ρ σ->E.bk σ H
 |.ct ρ=>∀σ F H,RS K cl F0 B ms F H ρ σ->E.ct σ H
 |.rt d=>∀v F H fp,bR F0 F->bR B H->bR F H->(∀a o,B a=some o->F0 a=none->F a=none)->Ow K cl F H rk d v fp->fp.Nodup->(∀a∈fp,B a=none)->E.rt v H
section
variable (X:Cx)(ct:Nat->ah)(ms:List Mo)(rk:Nat)
def XS (st:bO)(f:SF):Prop:=∃t,PS X st t/\∀(F0 B F H:Hp) (ρ:Env) (σ:St) (o:Out) (E:lD),RS X.K ct F0 B ms F H ρ σ->f ρ=some o->ma X.K ct F0 B ms rk E o->t E σ H
def si (st:List bO)(f:SF):Prop:=∃t,qP X st t/\∀(F0 B F H:Hp) (ρ:Env) (σ:St) (o:Out) (E:lD),RS X.K ct F0 B ms F H ρ σ->f ρ=some o->ma X.K ct F0 B ms rk E o->t E σ H
end
def sSkip:SF:=λρ=>some (.nx ρ)
def sSeq (f g:SF):SF:=λρ=>(f ρ).bind λo=>match o with
 |.nx ρ'=>g ρ'
 |o=>some o
def sIf (c:BF)(f g:SF):SF:=λρ=>(c ρ).bind λb=>if b=true then f ρ else g ρ
def sSet (i:Nat)(f:EF):SF:=λρ=>(f ρ).bind λd=>some (.nx (ρ.set i (some d)))
def sRet (f:EF):SF:=λρ=>(f ρ).bind λd=>some (.rt d)
def sRetN:SF:=λ_=>some (.rt .non)
def sDrop (f:EF):SF:=λρ=>(f ρ).bind λ_=>some (.nx ρ)
def ng:SF:=λ_=>none
def mE:Nat:=2 ^ 9000
def iI (c:BF)(b:SF):Nat->SF
 |0,_=>none
 |n+1,ρ=>(c ρ).bind λt=>if t=true then(b ρ).bind λo=>match o with
   |.nx ρ'=>iI c b n ρ'
   |.ct ρ'=>iI c b n ρ'
   |.bk ρ'=>some (.nx ρ')
   |.rt d=>some (.rt d)
  else some (.nx ρ)
def gD (c:BF)(b:SF):SF:=iI c b mE
def eG (g:D->Env->Option Env)(b:SF):List D->SF
 |[],ρ=>some (.nx ρ)
 |d::ds,ρ=>(g d ρ).bind λρ1=>(b ρ1).bind λo=>match o with
   |.nx ρ'=>eG g b ds ρ'
   |.ct ρ'=>eG g b ds ρ'
   |.bk ρ'=>some (.nx ρ')
   |.rt d=>some (.rt d)
def sFor (f:Env->Option (List D))(g:D->Env->Option Env)(b:SF):SF:=λρ=>(f ρ).bind λds=>eG g b ds ρ
section
variable {X:Cx}{ct:Nat->ah}{ms:List Mo}{rk n m k:Nat}{st:bO}{rest:List bO}{a b c e:Expr}{f g h:EF}{p q:BF}{u w:SF}{pos:dh}
theorem yj:si X ct ms rk [] sSkip:=⟨_,zrs,λF0 B F H ρ σ o E rs e w=>by cases e;exact w σ F H rs⟩
theorem zf (h1:XS X ct ms rk st u)(h2:si X ct ms rk rest w):si X ct ms rk (st::rest) (sSeq u w):=by
 obtain⟨t,pt,qt⟩:=h1
 obtain⟨t2,qY,qZ⟩:=h2
 refine⟨_,TN pt qY,λF0 B F H ρ σ o E rs e z=>?_⟩
 obtain⟨o1,e1,e2⟩:=aV e
 refine qt F0 B F H ρ σ o1 _ rs e1 ?_
 cases o1 with
 |nx ρ'=>exactλσ' F' H' NN=>qZ F0 B F' H' ρ' σ' o E NN e2 z
 |rt d=>cases e2;exact z
 |bk ρ'=>cases e2;exact z
 |ct ρ'=>cases e2;exact z
theorem zh (h1:XS X ct ms rk st u):si X ct ms rk [st] u:=by
 obtain⟨t,pt,qt⟩:=h1
 exact⟨_,Ul pt,qt⟩
theorem Kl:XS X ct ms rk st ng:=⟨_,zot,λF0 B F H ρ σ o E rs e w=>by cases e⟩
theorem zsg (he:XE X ct ms n e f)(hs:dR e none pos.line X.env=pure false:=by rfl):XS X ct ms rk (.Expr e pos) (sDrop f):=by
 obtain⟨t,pt,qt⟩:=he
 refine⟨_,KD pt hs,λF0 B F H ρ σ o E rs e w=>?_⟩
 obtain⟨d,h1,h2⟩:=aV e
 cases h2
 exact qt F0 B F H ρ σ d _ rs h1 λv F' H' x l=>w σ F' H' (rs.ext x)
theorem zt (he:XO X ct ms rk e f):XS X ct ms rk (.Return (some e) pos) (sRet f):=by
 obtain⟨t,pt,qt⟩:=he
 refine⟨_,Pp pt,λF0 B F H ρ σ o E rs e w=>?_⟩
 obtain⟨d,h1,h2⟩:=aV e
 cases h2
 refine qt F0 B F H ρ σ d _ rs h1 λv F' H' fp x l nd hf=>?_
 have r:=rs.ext x
 exact w v F' H' fp r.f0 r.bh r.fh r.nf l nd λz hz=>rs.bh.free (hf z hz)
theorem vm {RT vL:List bO}(hc:XT X ct ms c p)(h1:si X ct ms rk RT u)(h2:si X ct ms rk vL w):XS X ct ms rk (.If c RT vL pos) (sIf p u w):=by
 obtain⟨t,pt,qt⟩:=hc
 obtain⟨t1,Bv,Bw⟩:=h1
 obtain⟨t2,qY,qZ⟩:=h2
 refine⟨_,zw4 pt Bv qY,λF0 B F H ρ σ o E rs e z=>?_⟩
 obtain⟨x,h1,h2⟩:=aV e
 refine qt F0 B F H ρ σ x _ rs h1 λF1 H1 x1=>?_
 cases x with
 |true=>rw[if_pos rfl]at h2 ⊢;exact Bw F0 B F1 H1 ρ σ o E (rs.ext x1) h2 z
 |false=>rw[if_neg aW]at h2 ⊢;exact qZ F0 B F1 H1 ρ σ o E (rs.ext x1) h2 z
theorem RS.put {K:ae}{F0 B F H F' H':Hp}{ρ:Env}{σ:St}{i:Nat}(rs:RS K ct F0 B ms F H ρ σ)(hm:ms[i]?=some (.ow k)) :
  ∃f1 fr:List ah,f1.Nodup/\(∀a∈f1,B a=none)/\(∀a∈f1,a∉fr)/\(∀d,ρ[i]?=some (some d)->∃v,σ[i]?=some (some v)/\Ow K ct F H k d v f1)/\(∀a∈fr,F a=none/\∃o,H a=some o) /\
   ∀(F' H':Hp) (d':D) (v':V) (f':List ah),bR F F'->bR B H'->bR F' H'->(∀a o,B a=some o->F0 a=none->F' a=none)->(∀a∈fr,H' a=H a/\F' a=none)->Ow K ct F' H' k d' v' f'->f'.Nodup->(∀a∈f',a∉fr)->(∀a∈f',B a=none) ->
    RS K ct F0 B ms F' H' (ρ.set i (some d')) (σ.set i (some v')):=by
 obtain⟨fp,sl,nd,hb⟩:=rs.sl
 obtain⟨f1,fr,i1,i2,i3,i4,i5⟩:=sl.put hm
 obtain⟨n1,n2,n3⟩:=i3 nd
 refine⟨f1,fr,n1,λa z=>hb a (i1 a z),n3,i4,λa z=>sl.cells a (i2 a z),λF' H' d' v' f' s1 s2 s3 s4 kf o YB dj Xy=>?_⟩
 obtain⟨iE,q1,q2,q3⟩:=i5 F' H' d' v' f' s1 kf o
 exact⟨rs.f0.trans s1,s2,s3,s4,iE,q1,q3 YB n2 dj,λa z=>(q2 a z).elim (Xy a) λz=>hb a (i2 a z)⟩
theorem RS.set {K:ae}{F0 B F H F' H':Hp}{ρ:Env}{σ:St}{i:Nat}{d:D}{v:V}{fp:List ah}(rs:RS K ct F0 B ms F H ρ σ)(hm:ms[i]?=some (.ow k))(x:gK F H F' H')(o:Ow K ct F' H' k d v fp)(nd:fp.Nodup)(hf:∀a∈fp,H a=none) :
  RS K ct F0 B ms F' H' (ρ.set i (some d)) (σ.set i (some v)):=by
 have r:=rs.ext x
 obtain⟨f1,fr,n1,b1,n3,i4,cf,put⟩:=rs.put (F':=F') (H':=H') hm
 refine put F' H' d v fp x.ff r.bh x.fh r.nf (λa z=>?_) o nd (λa z zb=>?_) λa z=>rs.bh.free (hf a z)
 ·obtain⟨hn,o,ho⟩:=cf a z
  exact⟨(x.hh _ _ ho).trans ho.symm,x.nf a o ho hn⟩
 ·obtain⟨hn,o,ho⟩:=cf a zb
  rw[hf a z]at ho
  cases ho
theorem zvi {i:Nat}{x:aU}{pos':dh}(hm:ms[i]?=some (.ow k))(hN:X.N.Nodup)(hi:X.N[i]?=some x)(hx:Loc X.env.scope x)(he:XO X ct ms k e f)(hs:dR e (some (.Name x pos')) pos.line X.env=pure false:=by rfl)
  (hf:X.fn x=true\/X.env.scope.names.lookup x=some .local:=by first|exact .inl rfl|exact .inr rfl|assumption):XS X ct ms rk (.Assign [.Name x pos'] e pos) (sSet i f):=by
 obtain⟨t,pt,qt⟩:=he
 refine⟨_,U1 hN hi hx pt hs hf,λF0 B F H ρ σ o E rs e w=>?_⟩
 obtain⟨d,h1,h2⟩:=aV e
 cases h2
 exact qt F0 B F H ρ σ d _ rs h1 λv F' H' fp x l nd hf=>w _ F' H' (rs.set hm x l nd hf)
theorem Cu (hc:XT X ct ms c p)(hb:si X ct ms rk rest u)(hp:cn (bj X.prog X.w) X.A X.env X.xe):XS X ct ms rk (.While c rest [] pos) (gD p u):=by
 obtain⟨t,pt,qt⟩:=hc
 obtain⟨t1,Bv,Bw⟩:=hb
 refine⟨_,zou hp pt Bv,λF0 B F H ρ σ o E rs e z=>?_⟩
 refine⟨λm σ H=>∃F ρ,RS X.K ct F0 B ms F H ρ σ/\iI p u m ρ=some o,⟨mE,F,ρ,rs,e⟩,?_⟩
 rintro m σ H ⟨F,ρ,rs,e⟩
 cases m with
 |zero=>cases e
 |succ m=>
  obtain⟨x,h1,h2⟩:=aV e
  refine qt F0 B F H ρ σ x _ rs h1 λF1 H1 x1=>?_
  cases x with
  |true=>
   rw[if_pos rfl]at h2 ⊢
   obtain⟨o1,h3,h4⟩:=aV h2
   refine⟨λσ H=>∃F ρ,RS X.K ct F0 B ms F H ρ σ/\iI p u m ρ=some o,λσ' H' h=>⟨m,i9 m,h⟩,?_⟩
   refine Bw F0 B F1 H1 ρ σ o1 _ (rs.ext x1) h3 ?_
   cases o1 with
   |nx ρ'=>exactλσ' F' H' r=>⟨F',ρ',r,h4⟩
   |ct ρ'=>exactλσ' F' H' r=>⟨F',ρ',r,h4⟩
   |bk ρ'=>cases h4;exact z
   |rt d=>cases h4;exact z
  |false=>
   rw[if_neg aW]at h2 ⊢
   cases h2
   exact z σ F1 H1 (rs.ext x1)
theorem RS.re {K:ae}{F0 B F H:Hp}{ρ:Env}{σ:St}(r:RS K ct F0 B ms F H ρ σ):RS K ct F B ms F H ρ σ:=⟨.refl _,r.bh,r.fh,λ_ _ _ h=>h,r.sl⟩
theorem RS.back {K:ae}{F0 B F H F' H':Hp}{ρ ρ':Env}{σ σ':St}(r:RS K ct F0 B ms F H ρ σ)(q:RS K ct F B ms F' H' ρ' σ'):RS K ct F0 B ms F' H' ρ' σ' :=
 ⟨r.f0.trans q.f0,q.bh,q.fh,λa o h n=>q.nf a o h (r.nf a o h n),q.sl⟩
theorem ma.re {K:ae}{F0 B F H:Hp}{ρ:Env}{σ:St}{E:lD}{o:Out}(r:RS K ct F0 B ms F H ρ σ)(z:ma K ct F0 B ms rk E o):ma K ct F B ms rk E o:=by
 cases o with
 |nx ρ=>exactλσ' F' H' q=>z σ' F' H' (r.back q)
 |bk ρ=>exactλσ' F' H' q=>z σ' F' H' (r.back q)
 |ct ρ=>exactλσ' F' H' q=>z σ' F' H' (r.back q)
 |rt d=>exactλv F' H' fp s1 s2 s3 s4=>z v F' H' fp (r.f0.trans s1) s2 s3 λa o h n=>s4 a o h (r.nf a o h n)
def qM (K:ae)(ct:Nat->ah)(F B:Hp)(n:Nat)(J:It)(ds:List D):Prop :=
 ∀(i:Nat) (F' H':Hp),bR F F'->bR B H'->bR F' H'->(∀d,ds[i]?=some d->J.go i H'/\∀x H2,J.yld i H' x H2->∃F2,gK F' H' F2 H2/\Al K ct F2 B n d x)/\(ds.length<=i->J.stop i H')
def XI (X:Cx)(ct:Nat->ah)(ms:List Mo)(n:Nat)(tg iter:Expr)(f:Env->Option (List D)):Prop:=∃wi,PI X tg iter wi/\∀(F0 B F H:Hp) (ρ:Env) (σ:St) (ds:List D) (R:It->Hp->Prop),RS X.K ct F0 B ms F H ρ σ->f ρ=some ds ->
 (∀J F' H',gK F H F' H'->qM X.K ct F' B n J ds->R J H')->wi σ H R
def vW (X:Cx)(ct:Nat->ah)(ms:List Mo)(n:Nat)(tg iter:Expr)(f:Env->Option (List D)):Prop:=∃wi,PI X tg iter wi/\∀(F0 B F H:Hp) (ρ:Env) (σ:St) (ds:List D) (R:It->Hp->Prop),RS X.K ct F0 B ms F H ρ σ->f ρ=some ds ->
 (∀J F' H',gK F H F' H'->qM X.K ct F' H' n J ds->R J H')->wi σ H R
def XG (X:Cx)(ct:Nat->ah)(ms:List Mo)(n:Nat)(tg:Expr)(g:D->Env->Option Env):Prop:=∃t,PG X tg t/\∀(F0 B F H:Hp) (ρ ρ':Env) (σ:St) (d:D) (v:V) (Q:St->Hp->Prop),RS X.K ct F0 B ms F H ρ σ->Al X.K ct F B n d v->g d ρ=some ρ' ->
 (∀σ',RS X.K ct F0 B ms F H ρ' σ'->Q σ' H)->t v σ H Q
theorem jd {tg iter:Expr}{fi:Env->Option (List D)}{gg:D->Env->Option Env}(hi:XI X ct ms n tg iter fi)(hg:XG X ct ms n tg gg)(hb:si X ct ms rk rest u)(hp:cn (bj X.prog X.w) X.A X.env X.xe)(hc:X.calm=true)
  (hs:∀x,dQ iter X.env x=pure x:=by intro _;rfl):XS X ct ms rk (.For tg iter rest [] pos) (sFor fi gg u):=by
 obtain⟨wi,pi,qi⟩:=hi
 obtain⟨RZ,pg,qg⟩:=hg
 obtain⟨t1,Bv,Bw⟩:=hb
 refine⟨_,zut hp hc pi pg Bv hs,λF0 B F H ρ σ o E rs e z=>?_⟩
 obtain⟨ds,h1,h2⟩:=aV e
 refine qi F0 B F H ρ σ ds _ rs h1 λJ F1 H1 x1 ok=>?_
 refine⟨λi m σ H=>m=ds.length-i/\i<=ds.length/\∃F ρ,bR F1 F/\RS X.K ct F0 B ms F H ρ σ/\eG gg u (ds.drop i) ρ=some o,⟨ds.length,rfl,cQ _,F1,ρ,.refl _,rs.ext x1,h2⟩,?_⟩
 rintro i m σ H ⟨rfl,Cd,F,ρ,s1,rs,e⟩
 obtain⟨k1,k2⟩:=ok i F H s1 rs.bh rs.fh
 by_cases iU:i<ds.length
 ·right
  have hd:ds[i]?=some ds[i]:=by simp[iU]
  obtain⟨go,yl⟩:=k1 _ hd
  rw[nU iU]at e
  obtain⟨ρ1,h3,h4⟩:=aV e
  obtain⟨o1,h5,h6⟩:=aV h4
  refine⟨go,λσ H=>i+1<=ds.length/\∃F ρ,bR F1 F/\RS X.K ct F0 B ms F H ρ σ/\eG gg u (ds.drop (i+1)) ρ=some o,λσ' H' h=>⟨ds.length-(i+1),by omega,rfl,h⟩,λx H2 y=>?_⟩
  obtain⟨F2,x2,l⟩:=yl x H2 y
  refine qg F0 B F2 H2 ρ ρ1 σ _ x _ (rs.ext x2) l h3 λσ' r=>?_
  have s2:=s1.trans x2.ff
  refine Bw F2 B F2 H2 ρ1 σ' o1 _ r.re h5 ?_
  cases o1 with
  |nx ρ'=>exactλσ' F' H' q=>⟨iU,F',ρ',s2.trans q.f0,r.back q,h6⟩
  |ct ρ'=>exactλσ' F' H' q=>⟨iU,F',ρ',s2.trans q.f0,r.back q,h6⟩
  |bk ρ'=>cases h6;exactλσ' F' H' q=>z σ' F' H' (r.back q)
  |rt d=>cases h6;exact ma.re (o:=.rt d) r z
 ·left
  refine⟨k2 (by omega),?_⟩
  have:ds.drop i=[]:=pj (by omega)
  rw[this]at e
  cases e
  exact z σ F H rs
def gV (i:Nat):D->Env->Option Env:=λd ρ=>some (ρ.set i (some d))
theorem zsh {i:Nat}{x:aU}(hm:ms[i]?=some (.ow 0))(hN:X.N.Nodup)(hi:X.N[i]?=some x)(hx:Loc X.env.scope x)
  (hf:X.fn x=true\/X.env.scope.names.lookup x=some .local:=by first|exact .inl rfl|exact .inr rfl|assumption):XG X ct ms 0 (.Name x pos) (gV i):=by
 refine⟨_,Um hN hi hx hf,λF0 B F H ρ ρ' σ d v Q rs l e w=>?_⟩
 cases e
 exact w _ (rs.set hm (.refl rs.fh) (Ow.zero l) bP λa z=>(by cases z))
def Jg (X:Cx)(ct:Nat->ah)(ms:List Mo)(n:Nat)(kU:List Expr)(g:List D->Env->Option Env):Prop:=∃t,B0 X kU t/\(∀ds ρ ρ',g ds ρ=some ρ'->ds.length=kU.length)/\∀(F0 B F H:Hp) (ρ ρ':Env) (σ:St) (ds:List D) (vs:List V) (Q:St->Hp->Prop),RS X.K ct F0 B ms F H ρ σ->Pr (Al X.K ct F B n) ds vs->g ds ρ=some ρ' ->
 (∀σ',RS X.K ct F0 B ms F H ρ' σ'->Q σ' H)->t vs σ H Q
def gsNil:List D->Env->Option Env:=λds ρ=>match ds with
 |[]=>some ρ
 |_=>none
def gsCons (g:D->Env->Option Env)(gs:List D->Env->Option Env):List D->Env->Option Env:=λds ρ=>match ds with
 |d::ds=>(g d ρ).bind λρ'=>gs ds ρ'
 |[]=>none
theorem KJ:Jg X ct ms n [] gsNil:=by
 refine⟨_,Uo,λds ρ ρ' e=>?_,λF0 B F H ρ ρ' σ ds vs Q rs l e w=>?_⟩
 ·cases ds with
  |nil=>rfl
  |cons d ds=>cases e
 ·cases l with
  |nil=>cases e;exact⟨rfl,w σ rs⟩
  |cons _ _=>cases e
theorem ue {tg:Expr}{kU:List Expr}{gg:D->Env->Option Env}{gs:List D->Env->Option Env}(h1:XG X ct ms n tg gg)(h2:Jg X ct ms n kU gs)
  (hs:(dc (tg::kU) X.env).map (·.2)=ie tg X.env::(dc kU X.env).map (·.2):=by rfl):Jg X ct ms n (tg::kU) (gsCons gg gs):=by
 obtain⟨t,pt,qt⟩:=h1
 obtain⟨t2,qY,G6,qZ⟩:=h2
 refine⟨_,TD pt qY hs,λds ρ ρ' e=>?_,λF0 B F H ρ ρ' σ ds vs Q rs l e w=>?_⟩
 ·cases ds with
  |nil=>cases e
  |cons d ds=>
   obtain⟨ρ1,h3,h4⟩:=aV e
   rw[aO,aO,G6 _ _ _ h4]
 ·cases l with
  |nil=>cases e
  |cons h t=>
   obtain⟨ρ1,h3,h4⟩:=aV e
   exact⟨_,_,rfl,qt F0 B F H ρ ρ1 σ _ _ _ rs h h3 λσ1 r1=>qZ F0 B F H ρ1 ρ' σ1 _ _ _ r1 t h4 w⟩
def gT (gs:List D->Env->Option Env):D->Env->Option Env:=λd ρ=>match d with
 |.tup ds=>gs ds ρ
 |_=>none
theorem KS {kU:List Expr}{j:Nat}{gs:List D->Env->Option Env}(hc:X.calm=true)(h:Jg X ct ms (n-1) kU gs)(hl:(dc kU X.env).length=kU.length:=by rfl)(m9:(dc kU X.env).findIdx? (·.1)=none:=by rfl):XG X ct ms n (.Tuple kU j pos) (gT gs):=by
 obtain⟨t,pt,lt,qt⟩:=h
 refine⟨_,UZ (n:=kU.length) hc pt hl m9,λF0 B F H ρ ρ' σ d v Q rs l e w=>?_⟩
 cases d with
 |tup ds=>
  have l':Al X.K ct F H n (.tup ds) v:=l.mono (.refl _) rs.bh
  have:∃a vs,v=.ref a/\kN X.K H a vs/\Pr (Al X.K ct F B (n-1)) ds vs:=by
   cases n with
   |zero=>
    have l:Dt X.K ct F (.tup ds) v:=l
    cases l with
    |tup q t=>exact⟨_,_,rfl,kN.of (rs.fh _ _ q),t.pr⟩
   |succ n=>
    rcases l with l|l
    ·cases l with
     |tup q t=>exact⟨_,_,rfl,kN.of (rs.fh _ _ q),t.pr.mono λ_ _=>Al.of⟩
    ·cases l with
     |tup q t=>exact⟨_,_,rfl,kN.of (rs.fh _ _ q),t⟩
  obtain⟨a,vs,rfl,ha,hp⟩:=this
  exact⟨a,vs,rfl,ha,hp.length.symm.trans (lt _ _ _ e),qt F0 B F H ρ ρ' σ ds vs Q rs hp e w⟩
 |_=>cases e
def startD (N:List aU)(ds:List D):Env:=ds.map some++aC (N.length-ds.length) none
def mOf (N:List aU)(b:SF)(ds:List D):Option D:=(b (startD N ds)).bind λo=>match o with
 |.rt d=>some d
 |.nx _=>some .non
 |_=>none
theorem SL.start {K:ae}{F B H:Hp}:∀{pm:List Nat} {ds:List D} {vs:List V} {ms:List Mo} (j:Nat),kh K ct F B pm ds vs->(∀(i n:Nat),pm[i]?=some n->ms[i]?=some (Mo.al n)\/(n=0/\ms[i]?=some (Mo.ow 0)))->ms.length=pm.length+j ->
  SL K ct F B H ms (ds.map some++aC j none) (vs.map some++aC j none) []
 |_,_,_,ms,j,.nil,_,hl=>by
  have:∀(j:Nat) (ms:List Mo),ms.length=j->SL K ct F B H ms (aC j none) (aC j none) []:=by
   intro j
   induction j with
   |zero=>intro ms h;cases ms with
    |nil=>exact .nil
    |cons _ _=>simp at h
   |succ j ih=>intro ms h;cases ms with
    |nil=>simp at h
    |cons m ms=>exact .no (ih ms (by simpa using h))
  simpa using this j ms (by simpa using hl)
 |_,_,_,[],j,.cons h t,_,hl=>by simp at hl;omega
 |_,_,_,m::ms,j,.cons (n:=n) h t,hm,hl=>by
  have ih:=SL.start (ms:=ms) (H:=H) j t (λi n e=>by simpa using hm (i+1) n (by simpa using e)) (by simp at hl;omega)
  rcases hm 0 n rfl with e|⟨rfl,e⟩
  ·simp at e;subst e;exact .al h ih
  ·simp at e;subst e;exact SL.ow (f:=[]) (Ow.zero h) ih
structure Fun2 (K:ae)(x qual:aU)(st:bO)(f:ah)(fd:aI):Prop where
 ex:∃(oc:af) (od:Option ah) (dV kV doc pm:af) (an:Option ah) (iD ct:af) (Bs:Array (Option af)),
  fd=gX x qual (mM st) (hU st) (aL st) dV kV doc pm an iD ct/\K.lookup f=some ⟨oc,od,.func fd,Bs⟩/\aw K iD qual=true
 kp:ak K (.ref f)=true
theorem Fun2.ok {P:bz}{w:ce}{K:ae}{mg:aU->Option af}{base:aZ}{x qual:aU}{st:bO}{f:ah}{fd:aI}{N ps:List aU}{k:Nat}{sp:Sp}(F:Fun2 K x qual st f fd)(S:bn N ps (aL st))(len:∀vs H Q E,sp vs H Q E->vs.length=ps.length)
    (tX:∀(iD:af) (A:bX) (outer:List PySem.Env) (s:am) (H:Hp) (vs:List V) (Q:VK) (E:XK),eM k (A.deeper (envOfC qual (aL st) s.heap.objs.size f iD))->sp vs H Q E ->
      ∃t,qP (nO eF P w K mg base N qual (aL st) f iD A outer s H E).nox (hU st) t/\t { nx:=λ_ H'=>Q .non H',rt:=Q } (L2.start N vs) H):cB P w K mg base eF (k+1) f fd ps sp:=by
  obtain⟨oc,od,dV,kV,doc,pm,an,iD,ct,Bs,rfl,lk,jF⟩:=F.ex
  refine zw7 lk jF S len λA outer s H vs Q E hr yK=>?_
  obtain⟨t,h,q⟩:=tX iD A outer s H vs Q E hr yK
  exact⟨t,h.nox,q⟩
theorem lift {P:bz}{w:ce}{K:ae}{mg:aU->Option af}{base:aZ}{x qual:aU}{st:bO}{fa:ah}{fd:aI}{N ps:List aU}{kk:Nat}{pm:List Nat}{bf:SF}(Fn:Fun2 K x qual st fa fd)(S:bn N ps (aL st))(Bc:pm.length=ps.length)(Jy:ms.length=N.length)(oM:ps.length<=N.length)
  (FJ:∀(i n:Nat),pm[i]?=some n->ms[i]?=some (Mo.al n)\/(n=0/\ms[i]?=some (Mo.ow 0)))
  (body:∀(iD:af) (A:bX) (outer:List PySem.Env) (s:am) (H:Hp) (E:XK),eM kk (A.deeper (envOfC qual (aL st) s.heap.objs.size fa iD))->si (nO eF P w K mg base N qual (aL st) fa iD A outer s H E).nox ct ms rk (hU st) bf) :
  cB P w K mg base eF (kk+1) fa fd ps (fU K ct pm rk (mOf N bf)):=by
 refine Fn.ok S (fU.len Bc) λiD A outer s H vs Q E hr h=>?_
 obtain⟨F,ds,d,sF,l,hm,q⟩:=h
 obtain⟨t,pt,qt⟩:=body iD A outer s H E hr
 refine⟨t,pt,?_⟩
 obtain⟨o,h1,h2⟩:=aV hm
 have hvl:vs.length=pm.length:=l.length
 have tZ:ds.length=vs.length:=l.length'
 refine qt F H F H (startD N ds) (L2.start N vs) o _ ⟨.refl _,.refl _,sF,λ_ _ _ h=>h,[],?_,bP,λa z=>(by cases z)⟩ h1 ?_
 ·unfold startD L2.start
  rw[tZ]
  exact SL.start _ l FJ (by omega)
 ·cases o with
  |nx ρ=>
   cases h2
   exactλσ F' H' r=>q .non F' H' [] ⟨r.f0,r.bh,r.fh,r.nf⟩ (Ow.scal .non rfl) bP λa z=>(by cases z)
  |rt d'=>
   cases h2
   exactλv F' H' fp s1 s2 s3 s4 o nd hf=>q v F' H' fp ⟨s1,s2,s3,s4⟩ o nd hf
  |bk ρ=>cases h2
  |ct ρ=>cases h2
end
end L3
namespace L3
open PySem PySem.Spec L2
open PyProof.Rows hiding St
theorem hJ.or {X:Cx}{f:af->af->pw af}{r r':R2}(h:hJ X f r)(h':hJ X f r'):hJ X f (λx y H Q=>r x y H Q\/r' x y H Q) :=
 λaj s σ H x y v u Q I rx ry q=>q.elim (h aj s σ H x y v u Q I rx ry) (h' aj s σ H x y v u Q I rx ry)
section
variable {K:ae}{ct:Nat->ah}{n m k:Nat}
def i2 (g:Int->Int->D):D->D->Option D
 |.int i,.int j=>some (g i j)
 |_,_=>none
def tf (C:Int->Int->Prop)[∀i j,Decidable (C i j)](g:Int->Int->D):D->D->Option D
 |.int i,.int j=>if C i j then some (g i j)else none
 |_,_=>none
theorem K5 {g:Int->Int->D}{gv:Int->Int->V}(hg:∀i j F,Dt K ct F (g i j) (gv i j)):nB K ct n m k (p7 gv) (i2 g):=by
 intro F H x y d1 d2 d Q s l1 l2 e w
 cases d1 with
 |int i=>
  cases d2 with
  |int j=>cases e;exact⟨i,j,l1.int,l2.int,w _ F H (.refl s) (Al.of (hg i j F))⟩
  |_=>cases e
 |_=>cases e
theorem KU {C C':Int->Int->Prop}[∀i j,Decidable (C i j)]{g:Int->Int->D}{gv:Int->Int->V}(hC:∀i j,C i j->C' i j)(hg:∀i j F,Dt K ct F (g i j) (gv i j)):nB K ct n m k (rI C' gv) (tf C g):=by
 intro F H x y d1 d2 d Q s l1 l2 e w
 cases d1 with
 |int i=>
  cases d2 with
  |int j=>
   unfold tf at e
   dsimp only at e
   by_cases h:C i j
   ·rw[if_pos h]at e;cases e;exact⟨i,j,l1.int,l2.int,hC i j h,w _ F H (.refl s) (Al.of (hg i j F))⟩
   ·rw[if_neg h]at e;cases e
  |_=>cases e
 |_=>cases e
def K8:Nat:=2 ^ 9000
def CS:Nat:=2 ^ 100000
def kd:D->D->Option D:=i2 λi j=>.int (i-j)
theorem qc:nB K ct n m k (p7 λi j=>.int (i-j)) kd:=K5 λ_ _ _=>.int _
def kR (i j:Int):Prop:=(-18446744073709551616<i/\i<18446744073709551616)\/(-18446744073709551616<j/\j<18446744073709551616)\/(i.natAbs<CS/\j.natAbs<CS)
instance (i j:Int):Decidable (kR i j):=by unfold kR;infer_instance
def eA:D->D->Option D:=tf kR λi j=>.int (i*j)
theorem kR.ok {i j:Int}(h:kR i j):nX i j:=by
 rcases h with h|h|h
 ·exact .inl (.inl ⟨by have:=h.1;omega,by have:=h.2;omega⟩)
 ·exact .inl (.inr ⟨by have:=h.1;omega,by have:=h.2;omega⟩)
 ·exact .inr h
theorem zsi:nB K ct n m k (rI nX λi j=>.int (i*j)) eA:=KU (λ_ _=>kR.ok) λ_ _ _=>.int _
def D.v:D->V
 |.bl b=>.bl b
 |.int i=>.int i
 |.str x=>.str x
 |_=>.non
theorem Dt.v {F:Hp}{d:D}{v:V}(h:Dt K ct F d v)(hs:d.sc=true):v=d.v:=by
 cases h<;>first|rfl|cases hs
theorem Al.v {F G:Hp}{d:D}{v:V}(h:Al K ct F G n d v)(hs:d.sc=true):v=d.v:=Dt.v (Al.scal (F':=F) h hs) hs
theorem D.flat {d:D}(hs:d.sc=true):iP d.v=true:=by cases d<;>first|rfl|cases hs
theorem Pr.vs {F G:Hp}:∀{ds:List D} {vs:List V},Pr (Al K ct F G n) ds vs->ds.all D.sc=true->vs=ds.map D.v
 |_,_,.nil,_=>rfl
 |d::ds,v::vs,.cons h t,e=>by
  rw[dB,bS]at e
  rw[aR,Al.v h e.1,Pr.vs t e.2]
def ga:D->D->Option D
 |.int i,.int j=>if 0<j/\j<4611686018427387904 then some (.int (i/j))else if j≠0/\j.natAbs<K8 then some (.int (i.fdiv j))else none
 |_,_=>none
theorem u2:nB K ct n m k (rI (λ_ j=>j≠0/\Sz 9000 j) λi j=>.int (i.fdiv j)) ga:=by
 intro F H x y d1 d2 d Q s l1 l2 e w
 cases d1 with
 |int i=>
  cases d2 with
  |int j=>
   unfold ga at e
   dsimp only at e
   by_cases h:0<j/\j<4611686018427387904
   ·rw[if_pos h]at e
    cases e
    refine⟨i,j,l1.int,l2.int,⟨by omega,?_⟩,?_⟩
    ·have:Sz 62 j:=by unfold Sz;omega
     exact this.mono (by decide)
    ·show Q (.int (i.fdiv j)) H
     rw[iA i (by omega)]
     exact w _ F H (.refl s) (Al.of (.int _))
   ·rw[if_neg h]at e
    by_cases h:j≠0/\j.natAbs<K8
    ·rw[if_pos h]at e
     cases e
     exact⟨i,j,l1.int,l2.int,h,w _ F H (.refl s) (Al.of (.int _))⟩
    ·rw[if_neg h]at e;cases e
  |_=>cases e
 |_=>cases e
def fm:D->D->Option D
 |.int i,.int j=>if 0<j then some (.int (i%j))else if j≠0 then some (.int (i.fmod j))else none
 |_,_=>none
theorem wq:nB K ct n m k (rI (λ_ j=>j≠0) λi j=>.int (i.fmod j)) fm:=by
 intro F H x y d1 d2 d Q s l1 l2 e w
 cases d1 with
 |int i=>
  cases d2 with
  |int j=>
   unfold fm at e
   dsimp only at e
   by_cases h:0<j
   ·rw[if_pos h]at e
    cases e
    refine⟨i,j,l1.int,l2.int,by omega,?_⟩
    show Q (.int (i.fmod j)) H
    rw[nS i (by omega)]
    exact w _ F H (.refl s) (Al.of (.int _))
   ·rw[if_neg h]at e
    by_cases h:j≠0
    ·rw[if_pos h]at e
     cases e
     exact⟨i,j,l1.int,l2.int,h,w _ F H (.refl s) (Al.of (.int _))⟩
    ·rw[if_neg h]at e;cases e
  |_=>cases e
 |_=>cases e
def oo (i j:Int):Prop:=0<=j/\j<=1000000/\i.natAbs<18446744073709551616
instance (i j:Int):Decidable (oo i j):=by unfold oo;infer_instance
def uJ:D->D->Option D:=tf oo λi j=>.int (i ^ j.toNat)
theorem Uz:nB K ct n m k (rI vP λi j=>.int (i ^ j.toNat)) uJ:=KU (λ_ _ h=>⟨h.1,h.2.1,by have:=h.2.2;omega⟩) λ_ _ _=>.int _
def xC:D->D->Option D:=tf oo λi j=>.int (i*2 ^ j.toNat)
theorem zsj:nB K ct n m k (rI vP λi j=>.int (i*2 ^ j.toNat)) xC:=KU (λ_ _ h=>⟨h.1,h.2.1,by have:=h.2.2;omega⟩) λ_ _ _=>.int _
def sD:D->D->Option D:=tf (λ_ j=>0<=j) λi j=>.int (i/2 ^ j.toNat)
theorem Up:nB K ct n m k (rI (λ_ j=>0<=j) λi j=>.int (i/2 ^ j.toNat)) sD:=KU (λ_ _ h=>h) λ_ _ _=>.int _
def pK:D->D->Option D:=i2 λi j=>.bl (decide (i<j))
def rJ:D->D->Option D:=i2 λi j=>.bl (decide (j<i))
def AL:D->D->Option D:=i2 λi j=>.bl (decide (j<=i))
theorem uS:nB K ct n m k (p7 λi j=>.bl (decide (i<j))) pK:=K5 λ_ _ _=>.bl _
theorem BQ:nB K ct n m k (p7 λi j=>.bl (decide (j<i))) rJ:=K5 λ_ _ _=>.bl _
theorem Pt:nB K ct n m k (p7 λi j=>.bl (decide (j<=i))) AL:=K5 λ_ _ _=>.bl _
def BA:R2:=λx y H Q=>∃i j,x=.str i/\y=.str j/\Q (.bl (!(decide (j.cps.toList<i.cps.toList)))) H
theorem zvj {X:Cx}:hJ X (cW .LtE) BA:=by
 intro aj s σ H x y v u Q I rx ry h
 obtain⟨i,j,rfl,rfl,q⟩:=h
 obtain⟨t,rfl⟩:=rx
 obtain⟨t',rfl⟩:=ry
 exact PySem.P.le_str ⟨.bl _,H,I,rfl,q⟩
def wV:D->D->Option D
 |.int i,.int j=>some (.bl (decide (i<=j)))
 |.str i,.str j=>some (.bl (!(decide (j.cps.toList<i.cps.toList))))
 |_,_=>none
theorem BN:nB K ct n m k (λx y H Q=>p7 (λi j=>.bl (decide (i<=j))) x y H Q\/BA x y H Q) wV:=by
 intro F H x y d1 d2 d Q s l1 l2 e w
 cases d1 with
 |int i=>
  cases d2 with
  |int j=>cases e;exact .inl ⟨i,j,l1.int,l2.int,w _ F H (.refl s) (Al.of (.bl _))⟩
  |_=>cases e
 |str i=>
  cases d2 with
  |str j=>cases e;exact .inr ⟨i,j,l1.str,l2.str,w _ F H (.refl s) (Al.of (.bl _))⟩
  |_=>cases e
 |_=>cases e
theorem BR {X:Cx}:hJ X (cW .LtE) (λx y H Q=>p7 (λi j=>.bl (decide (i<=j))) x y H Q\/BA x y H Q):=hJ.or zw6 zvj
def D.isN:D->Bool
 |.non=>true
 |_=>false
def D.isB (b:Bool):D->Bool
 |.bl c=>c==b
 |_=>false
def o7 (neg:Bool):D->D->Option D
 |d,.non=>some (.bl (if neg then !d.isN else d.isN))
 |d,.bl b=>some (.bl (if neg then !d.isB b else d.isB b))
 |_,_=>none
theorem Al.ref {F G:Hp}{d:D}{v:V}(h:Al K ct F G n d v)(hs:d.sc=false):∃a,v=.ref a:=by
 cases n with
 |zero=>cases(show Dt K ct F d v from h)<;>first|cases hs;done|exact⟨_,rfl⟩
 |succ n=>rcases h with h|h<;>cases h<;>first|cases hs;done|exact⟨_,rfl⟩
theorem Al.isn {F G:Hp}{d:D}{v:V}(h:Al K ct F G n d v):decide (v=.non)=d.isN:=by
 cases hs:d.sc with
 |true=>
  have:=Al.v h hs
  subst this
  cases d<;>first|rfl|cases hs
 |false=>
  obtain⟨a,rfl⟩:=h.ref hs
  cases d<;>first|rfl|cases hs
theorem Al.isb {F G:Hp}{d:D}{v:V}{b:Bool}(h:Al K ct F G n d v):decide (v=.bl b)=d.isB b:=by
 cases hs:d.sc with
 |true=>
  have:=Al.v h hs
  subst this
  cases d<;>first|rfl|(cases hs;done)|(rename_i c;cases b<;>cases c<;>rfl)
 |false=>
  obtain⟨a,rfl⟩:=h.ref hs
  cases d<;>first|rfl|cases hs
def RM:R2:=λx y H Q=>(y=.non/\Q (.bl (decide (x=.non))) H)\/∃b,y=.bl b/\Q (.bl (decide (x=.bl b))) H
theorem tH {X:Cx}:hJ X (cW .Is) RM:=hJ.or zux zvc
theorem tG:nB K ct n m k RM (o7 false):=by
 intro F H x y d1 d2 d Q s l1 l2 e w
 cases d2 with
 |non=>
  cases e
  refine .inl ⟨l2.non,?_⟩
  rw[l1.isn]
  exact w _ F H (.refl s) (Al.of (.bl _))
 |bl b=>
  cases e
  refine .inr ⟨b,l2.bl,?_⟩
  rw[l1.isb]
  exact w _ F H (.refl s) (Al.of (.bl _))
 |_=>cases e
mutual
def D.py:D->Option cN
 |.non=>some .none
 |.bl b=>some (.bool b)
 |.int i=>some (.int i)
 |.str x=>some (.str x)
 |.lst xs=>(D.pys xs).bind λys=>some (.list ys)
 |.tup xs=>(D.pys xs).bind λys=>some (.tuple ys)
 |_=>none
def D.pys:List D->Option (List cN)
 |[]=>some []
 |d::ds=>(D.py d).bind λx=>(D.pys ds).bind λxs=>some (x::xs)
end
theorem Dt.toPy {F H:Hp}(s:bR F H){d:D}{v:V}{e:cN}(h:Dt K ct F d v)(q:d.py=some e):L2.Dt K H v e:=by
 refine Dt.rec (motive_1:=λd v _=>∀e,d.py=some e->L2.Dt K H v e) (motive_2:=λds vs _=>∀es,D.pys ds=some es->L2.Dts K H vs es) ?_ ?_ ?_ ?_ ?_ ?_ ?_ ?_ ?_ ?_ ?_ h e q
 ·intro e h;rw[D.py]at h;cases h;exact .non
 ·intro b e h;rw[D.py]at h;cases h;exact .bl b
 ·intro b e h;rw[D.py]at h;cases h;exact .int b
 ·intro b e h;rw[D.py]at h;cases h;exact .str b
 ·intro _ _ _ q _ t e h
  rw[D.py]at h
  obtain⟨ys,h1,h2⟩:=aV h
  cases h2
  exact .lst (s.seq q) (t _ h1)
 ·intro _ _ _ q _ t e h
  rw[D.py]at h
  obtain⟨ys,h1,h2⟩:=aV h
  cases h2
  exact .tup (kN.of (s _ _ q)) (t _ h1)
 ·intro _ _ _ _ _ _ _ _ e h;simp only[D.py]at h;cases h
 ·intro _ _ _ _ _ _ _ _ e h;simp only[D.py]at h;cases h
 ·intro _ _ _ _ _ _ _ _ _ _ e h;simp only[D.py]at h;cases h
 ·intro e h;rw[D.pys]at h;cases h;exact .nil
 ·intro _ _ _ _ _ _ p t e h
  rw[D.pys]at h
  obtain⟨y,ys,h1,h2,h3⟩:=dP h
  cases h3
  exact .cons (p _ h1) (t _ h2)
theorem Pr.toPy {H:Hp}{R:D->V->Prop}(f:∀d v e,R d v->d.py=some e->L2.Dt K H v e){ds:List D}{vs:List V}{es:List cN}(h:Pr R ds vs)(e:D.pys ds=some es):L2.Dts K H vs es:=by
 induction h generalizing es with
 |nil=>rw[D.pys]at e;cases e;exact .nil
 |cons h t ih=>
  rw[D.pys]at e
  obtain⟨y,ys,h1,h2,h3⟩:=dP e
  cases h3
  exact .cons (f _ _ _ h h1) (ih h2)
theorem Al.toPy {F H:Hp}(s:bR F H){n:Nat}{d:D}{v:V}{e:cN}(h:Al K ct F H n d v)(q:d.py=some e):L2.Dt K H v e:=by
 induction n generalizing d v e with
 |zero=>exact Dt.toPy s h q
 |succ n ih=>
  cases h with
  |inl h=>exact Dt.toPy s h q
  |inr h=>
   cases h with
   |lst h t=>
    rw[D.py]at q
    obtain⟨ys,h1,h2⟩:=aV q
    cases h2
    exact .lst (eR.of h) (Pr.toPy (λ_ _ _=>ih) t h1)
   |tup h t=>
    rw[D.py]at q
    obtain⟨ys,h1,h2⟩:=aV q
    cases h2
    exact .tup (kN.of (s _ _ h)) (Pr.toPy (λ_ _ _=>ih) t h1)
   |_=>simp only[D.py]at q;cases q
def oP (a:cN):Bool:=a.canLay0&&decide (a.depth<=60)
def i6 (neg:Bool)(x y:D):Option D:=x.py.bind λa=>y.py.bind λb=>if oP a=true/\oP b=true then some (.bl (if neg then !cN.eqv a b else cN.eqv a b))else none
theorem ua {neg:Bool}:nB K ct n m k (By K neg) (i6 neg):=by
 intro F H x y d1 d2 d Q s l1 l2 e w
 obtain⟨a,b,h1,h2,h3⟩:=dP e
 by_cases h:oP a=true/\oP b=true
 ·rw[if_pos h]at h3
  cases h3
  have o1:=h.1
  have o2:=h.2
  unfold oP at o1 o2
  rw[bS,decide_eq_true_iff]at o1 o2
  exact⟨a,b,Al.toPy s l1 h1,Al.toPy s l2 h2,o1.1,o2.1,cD (Nat.min_le_left _ _) o1.2,w _ F H (.refl s) (Al.of (.bl _))⟩
 ·rw[if_neg h]at h3;cases h3
end
end L3
namespace L3
open PySem PySem.Spec L2
open PyProof.Rows hiding St
section
variable {K:ae}{ct:Nat->ah}{n m k:Nat}{X:Cx}
theorem Pr.atI {R:D->V->Prop}{ds:List D}{vs:List V}{i:Int}{d:D}(h:Pr R ds vs)(e:atI ds i=some d):∃v,atI vs i=some v/\R d v:=by
 unfold L2.atI at e ⊢
 rw[←h.length]
 obtain⟨j,h1,h2⟩:=aV e
 obtain⟨v,h3,h4⟩:=h.get' h2
 exact⟨v,by rw[h1];exact h3,h4⟩
def wU:D->Option fw
 |.int i=>some (.inl i)
 |.str x=>some (.inr x)
 |_=>none
def og:List D->Option (List fw)
 |[]=>some []
 |d::ds=>(wU d).bind λk=>(og ds).bind λks=>some (k::ks)
def i7 {κ:Type}[DecidableEq κ](ks:List κ)(ds:List D)(k:κ):Option D:=((ks.zip ds).find? λp=>decide (p.1=k)).map (·.2)
def RO (R:D->V->Prop):Option D->Option V->Prop
 |some d,some u=>R d u
 |none,none=>True
 |_,_=>False
theorem RO.some_of {R:D->V->Prop}{d:D}{q:Option V}(h:RO R (some d) q):∃u,q=some u/\R d u:=by
 cases q with
 |none=>exact h.elim
 |some u=>exact⟨u,rfl,h⟩
theorem RO.none_of {R:D->V->Prop}{q:Option V}(h:RO R none q):q=none:=by
 cases q with
 |none=>rfl
 |some u=>exact h.elim
theorem OP {κ:Type}[DecidableEq κ]{R:D->V->Prop}{k:κ}:∀{ks:List κ} {ds:List D} {vs:List V},Pr R ds vs->RO R (i7 ks ds k) (iQ (ks.zip vs) k)
 |[],_,_,_=>by simp[i7,iQ,RO]
 |_::_,_,_,.nil=>by simp[i7,iQ,RO]
 |y::ks,d::ds,v::vs,.cons h t=>by
  by_cases e:y=k
  ·have h1:i7 (y::ks) (d::ds) k=some d:=by simp[i7,di,e]
   have h2:iQ ((y::ks).zip (v::vs)) k=some v:=by simp[iQ,di,e]
   rw[h1,h2]
   exact h
  ·have h1:i7 (y::ks) (d::ds) k=i7 ks ds k:=by simp[i7,di,e]
   have h2:iQ ((y::ks).zip (v::vs)) k=iQ (ks.zip vs) k:=by simp[iQ,di,e]
   rw[h1,h2]
   exact OP t
theorem KW {F G:Hp}{d:D}{v:V}{k:fw}(e:wU d=some k)(h:Al K ct F G n d v):v=kV k:=by
 cases d with
 |int i=>cases e;exact h.int
 |str i=>cases e;exact h.str
 |_=>cases e
theorem O4 {F G:Hp}{ds:List D}{vs:List V}{ks:List fw}(e:og ds=some ks)(h:Pr (Al K ct F G n) ds vs):vs=ks.map kV:=by
 induction h generalizing ks with
 |nil=>cases e;rfl
 |cons h t ih=>
  unfold og at e
  obtain⟨k,ks,h1,h2,h3⟩:=dP e
  cases h3
  rw[KW h1 h,ih h2];rfl
def gM (o y:D):Option (Option D):=match o with
 |.dK ks ds=>(wU y).bind λk=>some (i7 ks ds k)
 |.dT ks ds=>(match y with|.tup ys=>(og ys).bind λk=>some (i7 ks ds k)|_=>none)
 |_=>none
theorem KL {F G:Hp}{o y:D}{x v:V}(s:bR F G)(l1:Al K ct F G n o x)(l2:Al K ct F G m y v){r:Option D}(e:gM o y=some r) :
  ∃a q,x=.ref a/\ka G a v q/\Jc G a/\RO (Al K ct F G (n-1)) r q:=by
 cases o with
 |dK ks ds=>
  obtain⟨a,vs,rfl,ha,hl,hp⟩:=l1.dK s
  obtain⟨k,h1,h2⟩:=aV e
  cases h2
  have hv:=KW h1 l2
  subst hv
  exact⟨a,_,rfl,ka.k ha,.inl ⟨_,.inl ha⟩,OP hp⟩
 |dT ks ds=>
  obtain⟨a,vs,rfl,ha,hl,hp⟩:=l1.dT s
  cases y with
  |tup ys=>
   obtain⟨k,h1,h2⟩:=aV e
   cases h2
   obtain⟨b,us,rfl,hb,FN⟩:=l2.tup s
   have hv:=O4 h1 FN
   subst hv
   exact⟨a,_,rfl,ka.t ha hb,.inr ⟨_,.inl ha⟩,OP hp⟩
  |_=>cases e
 |_=>cases e
def dz:D->D->Option D
 |.lst ds,.int i=>atI ds i
 |.tup ds,.int i=>atI ds i
 |.str x,.int i=>if x.length<=16777216 then(atI x.cps.toList i).bind λc=>some (.str ⟨#[c]⟩)else none
 |_,_=>none
theorem xP:nB K ct n m (n-1) (RN K) dz:=by
 intro F H x y d1 d2 d Q s l1 l2 e w
 cases d1 with
 |lst ds=>
  cases d2 with
  |int i=>
   obtain⟨a,vs,rfl,ha,hp⟩:=l1.lst s
   obtain⟨v,h1,h2⟩:=hp.atI e
   exact .inl ⟨a,vs,i,v,rfl,l2.int,ha,h1,w v F H (.refl s) h2⟩
  |_=>cases e
 |tup ds=>
  cases d2 with
  |int i=>
   obtain⟨a,vs,rfl,ha,hp⟩:=l1.tup s
   obtain⟨v,h1,h2⟩:=hp.atI e
   exact .inr (.inl ⟨a,vs,i,v,rfl,l2.int,kN.of ha,h1,w v F H (.refl s) h2⟩)
  |_=>cases e
 |str z=>
  cases d2 with
  |int i=>
   unfold dz at e
   dsimp only at e
   by_cases h:z.length<=16777216
   ·rw[if_pos h]at e
    obtain⟨c,h1,h2⟩:=aV e
    cases h2
    exact .inr (.inr ⟨z,i,c,l1.str,l2.int,by rw[cO];exact h,h1,w _ F H (.refl s) (Al.of (.str _))⟩)
   ·rw[if_neg h]at e;cases e
  |_=>cases e
 |_=>cases e
theorem Pv {ms:List Mo}{a b:Expr}{f g:EF}{pos:dh}(hu:X.A.units+1<gz)(ha:XE X ct ms n a f)(hb:XE X ct ms m b g)(hs:zE b):XE X ct ms (n-1) (.Subscript a b pos) (λρ=>(f ρ).bind λx=>(g ρ).bind λy=>(gM x y).join):=by
 obtain⟨ta,tb,pa,pb,q⟩:=ha.bin hb
 refine⟨_,zsb hu pa pb hs,λF0 B F H ρ σ d Q rs e w=>?_⟩
 obtain⟨d1,d2,h1,h2,h3⟩:=dP e
 refine q F0 B F H ρ σ d1 d2 _ rs h1 h2 λx y F' H' x1 l1 l2=>?_
 obtain⟨a,o,rfl,g,_,h⟩:=KL (r:=some d) x1.fh l1 l2 (yg h3)
 obtain⟨u,rfl,wN⟩:=h.some_of
 exact⟨a,u,rfl,g,w u F' H' x1 wN⟩
theorem Uq {ms:List Mo}{o e:Expr}{f g:EF}{dF dY:dh}(hu:X.A.units+1<gz)(ho:XE X ct ms n o f)(he:XE X ct ms m e g)(h1:M1 X o "get" dF e dY):XE X ct ms (n-1) (.Call (.Attribute o "get" dF) [e] [] dY) (λρ=>(f ρ).bind λx=>(g ρ).bind λy=>(gM x y).bind λr=>some (r.getD .non)):=by
 obtain⟨ta,pa,qa⟩:=ho
 obtain⟨tb,pb,qb⟩:=he
 refine⟨_,zo9 hu pa pb h1,λF0 B F H ρ σ d Q rs e w=>?_⟩
 obtain⟨d1,d2,e1,e2,e3⟩:=dP e
 obtain⟨r,e4,e5⟩:=aV e3
 cases e5
 refine qa F0 B F H ρ σ d1 _ rs e1 λx F1 H1 x1 l1=>?_
 have:∃a,x=.ref a/\Jc H1 a:=by
  cases d1 with
  |dK ks ds=>obtain⟨a,vs,rfl,ha,_⟩:=l1.dK x1.fh;exact⟨a,rfl,.inl ⟨_,.inl ha⟩⟩
  |dT ks ds=>obtain⟨a,vs,rfl,ha,_⟩:=l1.dT x1.fh;exact⟨a,rfl,.inr ⟨_,.inl ha⟩⟩
  |_=>cases e4
 obtain⟨a,rfl,Yq⟩:=this
 refine⟨a,rfl,Yq,qb F0 B F1 H1 ρ σ d2 _ (rs.ext x1) e2 λy F2 H2 x2 l2=>?_⟩
 obtain⟨a',o,ea,gg,_,h⟩:=KL (r:=r) x2.fh (l1.mono x2.ff x2.hh) l2 e4
 cases ea
 refine⟨o,gg,?_⟩
 cases r with
 |none=>rw[h.none_of];exact w _ F2 H2 (x1.trans x2) (Al.of .non)
 |some d=>obtain⟨u,rfl,wN⟩:=h.some_of;exact w _ F2 H2 (x1.trans x2) wN
def vH:D->D->Bool
 |.non,.non=>true
 |.bl a,.bl b=>a==b
 |.bl a,.int b=>(if a then 1 else 0)==b
 |.int a,.bl b=>a==(if b then 1 else 0)
 |.int a,.int b=>a==b
 |.str a,.str b=>a==b
 |_,_=>false
theorem Vr {x y:D}(hx:x.sc=true)(hy:y.sc=true):sn x.v y.v=vH x y:=by
 cases x<;>first|cases hx;done|(cases y<;>first|cases hy;done|rfl)
def yL (x:D)(ds:List D):Bool:=ds.any λy=>vH y x
theorem P1 {x:D}(hx:x.sc=true):∀{ds:List D},ds.all D.sc=true->JH x.v (ds.map D.v)=yL x ds
 |[],_=>rfl
 |d::ds,h=>by
  rw[dB,bS]at h
  have ih:=P1 hx h.2
  unfold JH yL at ih ⊢
  rw[aR,eu,eu,ih,Vr h.1 hx]
theorem Km:∀{ds:List D},ds.all D.sc=true->(ds.map D.v).all iP=true
 |[],_=>rfl
 |d::ds,h=>by
  rw[dB,bS]at h
  rw[aR,dB,D.flat h.1,Km h.2];rfl
def inD (neg:Bool)(x y:D):Option D:=match y with
 |.lst ds=>if x.sc=true/\ds.all D.sc=true then some (.bl (if neg then !yL x ds else yL x ds))else none
 |.tup ds=>if x.sc=true/\ds.all D.sc=true then some (.bl (if neg then !yL x ds else yL x ds))else none
 |_=>none
theorem Pw {neg:Bool}:nB K ct n m k (NL K neg) (inD neg):=by
 intro F H x y d1 d2 d Q s l1 l2 e w
 cases d2 with
 |lst ds=>
  unfold inD at e
  dsimp only at e
  by_cases h:d1.sc=true/\ds.all D.sc=true
  ·rw[if_pos h]at e
   cases e
   obtain⟨a,vs,rfl,ha,hp⟩:=l2.lst s
   have hv:=hp.vs h.2
   subst hv
   have hx:=Al.v l1 h.1
   subst hx
   refine⟨a,_,rfl,.inl ha,D.flat h.1,Km h.2,?_⟩
   rw[P1 h.1 h.2]
   exact w _ F H (.refl s) (Al.of (.bl _))
  ·rw[if_neg h]at e;cases e
 |tup ds=>
  unfold inD at e
  dsimp only at e
  by_cases h:d1.sc=true/\ds.all D.sc=true
  ·rw[if_pos h]at e
   cases e
   obtain⟨a,vs,rfl,ha,hp⟩:=l2.tup s
   have hv:=hp.vs h.2
   subst hv
   have hx:=Al.v l1 h.1
   subst hx
   refine⟨a,_,rfl,.inr (kN.of ha),D.flat h.1,Km h.2,?_⟩
   rw[P1 h.1 h.2]
   exact w _ F H (.refl s) (Al.of (.bl _))
  ·rw[if_neg h]at e;cases e
 |_=>cases e
def dL:List D->Option D
 |[.lst ds]=>some (.int ds.length)
 |[.tup ds]=>some (.int ds.length)
 |[.dK ks _]=>some (.int ks.length)
 |[.str x]=>if x.length<=16777216 then some (.int x.length)else none
 |_=>none
def Ik (K:ae):List V->Hp->VK->Prop:=λxs H Q=>(∃p ys,xs=[.ref p]/\(eR K H p ys\/kN K H p ys)/\Q (.int ys.length) H)\/(∃z,xs=[.str z]/\z.length<=sizeLine/\Q (.int z.length) H)\/∃a cF,xs=[V.ref a]/\H a=some (.dK cF)/\Q (.int cF.length) H
theorem zm5:eP X (.builtin "len") (Ik X.K):=zhm.or (zhn.or zmk)
theorem zsl:vF K ct [n] k (Ik K) dL:=by
 intro F H vs ds d Q s l e w
 cases l with
 |cons h t=>
  cases t
  rename_i d1 v
  cases d1 with
  |lst xs=>
   cases e
   obtain⟨a,us,rfl,ha,hp⟩:=h.lst s
   refine .inl ⟨a,us,rfl,.inl ha,?_⟩
   rw[←hp.length]
   exact w _ F H (.refl s) (Al.of (.int _))
  |tup xs=>
   cases e
   obtain⟨a,us,rfl,ha,hp⟩:=h.tup s
   refine .inl ⟨a,us,rfl,.inr (kN.of ha),?_⟩
   rw[←hp.length]
   exact w _ F H (.refl s) (Al.of (.int _))
  |str x=>
   unfold dL at e
   dsimp only at e
   by_cases hz:x.length<=16777216
   ·rw[if_pos hz]at e
    cases e
    exact .inr (.inl ⟨x,by rw[h.str],by rw[cO];exact hz,w _ F H (.refl s) (Al.of (.int _))⟩)
   ·rw[if_neg hz]at e;cases e
  |dK ks xs=>
   cases e
   obtain⟨a,us,rfl,ha,hl,hp⟩:=h.dK s
   refine .inr (.inr ⟨a,_,rfl,ha,?_⟩)
   rw[eS,←hl,ir]
   exact w _ F H (.refl s) (Al.of (.int _))
  |_=>cases e
end
end L3
namespace L3
open PySem PySem.Spec L2
open PyProof.Rows hiding St
section
variable {ct:Nat->ah}{K:ae}
theorem zxe {ι:Type}{Xs:ι->Cx}{ms:List Mo}{n:Nat}{e:Expr}{f:EF}(hK:∀i,(Xs i).K=K)(h:∀i,XO (Xs i) ct ms n e f):∃t,(∀i,PE (Xs i) e t)/\∀(F0 B F H:Hp) (ρ:Env) (σ:St) (d:D) (Q:VK),RS K ct F0 B ms F H ρ σ->f ρ=some d ->
  (∀v F' H' fp,gK F H F' H'->Ow K ct F' H' n d v fp->fp.Nodup->(∀a∈fp,H a=none)->Q v H')->t σ H Q:=by
 refine⟨λσ H Q=>∀i,(h i).choose σ H Q,λi aj s σ H Q I q=>(h i).choose_spec.1 aj s σ H Q I (q i),λF0 B F H ρ σ d Q rs e w i=>?_⟩
 exact(h i).choose_spec.2 F0 B F H ρ σ d Q (by rw[hK i];exact rs) e λv F' H' fp x l=>w v F' H' fp x (by rw[←hK i];exact l)
def zH (X:Cx)(ct:Nat->ah)(ms:List Mo)(ifs:List Expr)(f:BF):Prop:=∃t,xZ X ifs t/\∀(F0 B F H:Hp) (ρ:Env) (σ:St) (b:Bool) (Q:Bool->Hp->Prop),RS X.K ct F0 B ms F H ρ σ->f ρ=some b->(∀F' H',gK F H F' H'->Q b H')->t σ H Q
def eU:BF:=λ_=>some true
theorem vd {X:Cx}{ms:List Mo}:zH X ct ms [] eU:=⟨_,zsd,λF0 B F H ρ σ b Q rs e w=>by cases e;exact w F H (.refl rs.fh)⟩
theorem IR {X:Cx}{ms:List Mo}{c:Expr}{p:BF}(h:XT X ct ms c p):zH X ct ms [c] p:=by
 obtain⟨t,pt,qt⟩:=h
 exact⟨t,zse pt,qt⟩
theorem zxf {ι:Type}{Xs:ι->Cx}{ms:List Mo}{ifs:List Expr}{f:BF}(hK:∀i,(Xs i).K=K)(h:∀i,zH (Xs i) ct ms ifs f):∃t,(∀i,xZ (Xs i) ifs t)/\∀(F0 B F H:Hp) (ρ:Env) (σ:St) (b:Bool) (Q:Bool->Hp->Prop),RS K ct F0 B ms F H ρ σ->f ρ=some b ->
  (∀F' H',gK F H F' H'->Q b H')->t σ H Q:=by
 refine⟨λσ H Q=>∀i,(h i).choose σ H Q,λi aj s σ H Q I q=>(h i).choose_spec.1 aj s σ H Q I (q i),λF0 B F H ρ σ d Q rs e w i=>?_⟩
 exact(h i).choose_spec.2 F0 B F H ρ σ d Q (by rw[hK i];exact rs) e w
def yN {α:Type}(g:α->St->Hp->(St->Hp->Prop)->Prop):Prop:=∀v σ H Q Q',(∀σ' H',Q σ' H'->Q' σ' H')->g v σ H Q->g v σ H Q'
def vU (X:Cx)(ct:Nat->ah)(ms:List Mo)(own n:Nat)(tg:Expr)(g:D->Env->Option Env):Prop:=∃t,PG X tg t/\gC own t/\yN t/\∀(F0 B F H:Hp) (ρ ρ':Env) (σ:St) (d:D) (v:V) (Q:St->Hp->Prop),RS X.K ct F0 B ms F H ρ σ->Al X.K ct F B n d v->g d ρ=some ρ' ->
 (∀σ',RS X.K ct F0 B ms F H ρ' σ'->Q σ' H)->t v σ H Q
theorem zxg {ι:Type}{Xs:ι->Cx}{ms:List Mo}{own n:Nat}{tg:Expr}{g:D->Env->Option Env}(hK:∀i,(Xs i).K=K)(h:∀i,vU (Xs i) ct ms own n tg g):∃t,(∀i,PG (Xs i) tg t)/\gC own t/\∀(F0 B F H:Hp) (ρ ρ':Env) (σ:St) (d:D) (v:V) (Q:St->Hp->Prop),RS K ct F0 B ms F H ρ σ->Al K ct F B n d v->g d ρ=some ρ' ->
  (∀σ',RS K ct F0 B ms F H ρ' σ'->Q σ' H)->t v σ H Q:=by
 refine⟨λv σ H Q=>∀i,(h i).choose v σ H Q,λi aj s σ H v u Q I r q=>(h i).choose_spec.1 aj s σ H v u Q I r (q i),λv σ H Q q i=>(h i).choose_spec.2.1 v σ H Q (q i),λF0 B F H ρ ρ' σ d v Q rs l e w i=>?_⟩
 exact(h i).choose_spec.2.2.2 F0 B F H ρ ρ' σ d v Q (by rw[hK i];exact rs) (by rw[hK i];exact l) e λσ' r=>w σ' (by rw[←hK i];exact r)
theorem zpe {X:Cx}{ms:List Mo}{own i:Nat}{x:aU}{pos:dh}(ho:i<own)(hm:ms[i]?=some (.ow 0))(hN:X.N.Nodup)(hi:X.N[i]?=some x)(hx:Loc X.env.scope x)
  (hf:X.fn x=true\/X.env.scope.names.lookup x=some .local:=by first|exact .inl rfl|exact .inr rfl|assumption):vU X ct ms own 0 (.Name x pos) (gV i):=by
 refine⟨_,Um hN hi hx hf,zld i own ho,λv σ H Q Q' m q=>m _ _ q,λF0 B F H ρ ρ' σ d v Q rs l e w=>?_⟩
 cases e
 exact w _ (rs.set hm (.refl rs.fh) (Ow.zero l) bP λa z=>(by cases z))
def Bn (own:Nat)(g:yB):Prop:=∀v σ H Q,g v σ H Q->g v σ H λσ' H'=>Q σ' H'/\σ'.length = σ.length/\∀i,own<=i->σ'[i]? = σ[i]?
def vV (X:Cx)(ct:Nat->ah)(ms:List Mo)(own n:Nat)(kU:List Expr)(g:List D->Env->Option Env):Prop:=∃t,B0 X kU t/\Bn own t/\yN t/\(∀ds ρ ρ',g ds ρ=some ρ'->ds.length=kU.length)/\∀(F0 B F H:Hp) (ρ ρ':Env) (σ:St) (ds:List D) (vs:List V) (Q:St->Hp->Prop),RS X.K ct F0 B ms F H ρ σ->Pr (Al X.K ct F B n) ds vs->g ds ρ=some ρ' ->
 (∀σ',RS X.K ct F0 B ms F H ρ' σ'->Q σ' H)->t vs σ H Q
theorem Kn {X:Cx}{ms:List Mo}{own n:Nat}:vV X ct ms own n [] gsNil:=by
 refine⟨_,Uo,λv σ H Q q=>⟨q.1,q.2,rfl,λ_ _=>rfl⟩,λv σ H Q Q' m q=>⟨q.1,m _ _ q.2⟩,λds ρ ρ' e=>?_,λF0 B F H ρ ρ' σ ds vs Q rs l e w=>?_⟩
 ·cases ds with
  |nil=>rfl
  |cons d ds=>cases e
 ·cases l with
  |nil=>cases e;exact⟨rfl,w σ rs⟩
  |cons _ _=>cases e
theorem jr {X:Cx}{ms:List Mo}{own n:Nat}{tg:Expr}{kU:List Expr}{gg:D->Env->Option Env}{gs:List D->Env->Option Env}(h1:vU X ct ms own n tg gg)(h2:vV X ct ms own n kU gs)
  (hs:(dc (tg::kU) X.env).map (·.2)=ie tg X.env::(dc kU X.env).map (·.2):=by rfl):vV X ct ms own n (tg::kU) (gsCons gg gs):=by
 obtain⟨t,pt,kt,mt,qt⟩:=h1
 obtain⟨t2,qY,Yt,Rt,G6,qZ⟩:=h2
 refine⟨_,TD pt qY hs,λvs σ H Q q=>?_,λvs σ H Q Q' m q=>?_,λds ρ ρ' e=>?_,λF0 B F H ρ ρ' σ ds vs Q rs l e w=>?_⟩
 ·obtain⟨v,r,e,q⟩:=q
  refine⟨v,r,e,mt _ _ _ _ _ (λσ' H' z=>?_) (kt v σ H _ q)⟩
  obtain⟨z1,z2,z3⟩:=z
  refine Rt _ _ _ _ _ (λσ2 H2 y=>?_) (Yt r σ' H' Q z1)
  exact⟨y.1,y.2.1.trans z2,λi hi=>(y.2.2 i hi).trans (z3 i hi)⟩
 ·obtain⟨v,r,e,q⟩:=q
  exact⟨v,r,e,mt _ _ _ _ _ (λσ' H' z=>Rt _ _ _ _ _ m z) q⟩
 ·cases ds with
  |nil=>cases e
  |cons d ds=>
   obtain⟨ρ1,h3,h4⟩:=aV e
   rw[aO,aO,G6 _ _ _ h4]
 ·cases l with
  |nil=>cases e
  |cons h t'=>
   obtain⟨ρ1,h3,h4⟩:=aV e
   exact⟨_,_,rfl,qt F0 B F H ρ ρ1 σ _ _ _ rs h h3 λσ1 r1=>qZ F0 B F H ρ1 ρ' σ1 _ _ _ r1 t' h4 w⟩
theorem KM {X:Cx}{ms:List Mo}{own n:Nat}{kU:List Expr}{j:Nat}{pos:dh}{gs:List D->Env->Option Env}(hc:X.calm=true)(h:vV X ct ms own (n-1) kU gs)(hl:(dc kU X.env).length=kU.length:=by rfl)(m9:(dc kU X.env).findIdx? (·.1)=none:=by rfl):vU X ct ms own n (.Tuple kU j pos) (gT gs):=by
 obtain⟨t,pt,kt,mt,lt,qt⟩:=h
 refine⟨_,UZ (n:=kU.length) hc pt hl m9,λv σ H Q q=>?_,λv σ H Q Q' m q=>?_,λF0 B F H ρ ρ' σ d v Q rs l e w=>?_⟩
 ·obtain⟨a,xs,e,h1,h2,q⟩:=q
  exact⟨a,xs,e,h1,h2,kt _ _ _ _ q⟩
 ·obtain⟨a,xs,e,h1,h2,q⟩:=q
  exact⟨a,xs,e,h1,h2,mt _ _ _ _ _ m q⟩
 cases d with
 |tup ds=>
  have:∃a vs,v=.ref a/\kN X.K H a vs/\Pr (Al X.K ct F B (n-1)) ds vs:=by
   cases n with
   |zero=>
    have l:Dt X.K ct F (.tup ds) v:=l
    cases l with
    |tup q t=>exact⟨_,_,rfl,kN.of (rs.fh _ _ q),t.pr⟩
   |succ n=>
    rcases l with l|l
    ·cases l with
     |tup q t=>exact⟨_,_,rfl,kN.of (rs.fh _ _ q),t.pr.mono λ_ _=>Al.of⟩
    ·cases l with
     |tup q t=>exact⟨_,_,rfl,kN.of (rs.fh _ _ q),t⟩
  obtain⟨a,vs,rfl,ha,hp⟩:=this
  exact⟨a,vs,rfl,ha,hp.length.symm.trans (lt _ _ _ e),qt F0 B F H ρ ρ' σ ds vs Q rs hp e w⟩
 |_=>cases e
def dH (ρ:Env)(cap:List Nat):Env:=cap.map λi=>(ρ[i]?).join
def iq (ms:List Mo)(cap:List Nat):List Mo:=cap.map λi=>.al (((ms[i]?).map Mo.lv).getD 0)
def nZ (g:D->Env->Option Env)(p:BF)(f:EF)(ρ0:Env):List D->Option (List D)
 |[]=>some []
 |d::ds=>(g d ρ0).bind λρ1=>(p ρ1).bind λb=>if b=true then(f ρ1).bind λy=>(nZ g p f ρ0 ds).bind λys=>some (y::ys)else nZ g p f ρ0 ds
def dI (fi:Env->Option (List D))(own:Nat)(cap:List Nat)(g:D->Env->Option Env)(p:BF)(f:EF):EF:=λρ=>(fi ρ).bind λds=>if ds.length<=16777216 then(nZ g p f (aC own none++dH ρ cap) ds).bind λys=>some (.lst ys)else none
theorem SL.caps {F B H:Hp}{ms:List Mo}{ρ:Env}{σ:St}(rs:RS K ct F0 B ms F H ρ σ):∀{cap:List Nat},(∀i∈cap,i<ms.length)->SL K ct F H H (iq ms cap) (dH ρ cap) (gA σ cap) []
 |[],_=>.nil
 |i::cap,h=>by
  have ih:=SL.caps rs (cap:=cap) λj hj=>h j (ai _ hj)
  have hi:i<ms.length:=h i aa
  have hm:ms[i]?=some ms[i]:=by simp[hi]
  show SL K ct F H H (.al (((ms[i]?).map Mo.lv).getD 0)::iq ms cap) ((ρ[i]?).join::dH ρ cap) ((σ[i]?).join::gA σ cap) []
  cases e:(ρ[i]?).join with
  |none=>exact .no ih
  |some d=>
   obtain⟨v,hv,l⟩:=rs.get hm (yg e)
   rw[hv,hm]
   exact .al l ih
theorem SL.nones {F B H:Hp}{ms ND:List Mo}{ρ:Env}{σ:St}{fp:List ah}(t:SL K ct F B H ms ρ σ fp):∀{om:List Mo},SL K ct F B H (om++ms) (aC om.length none ++ ρ) (aC om.length none ++ σ) fp
 |[]=>t
 |m::om=>.no (SL.nones (ND:=ND) t)
theorem TK {X:Cx}{ms om:List Mo}{n k:Nat}{jX iter tg:Expr}{ifs:List Expr}{scope:gx}{pos:dh}{N:List aU}{own:Nat}{cap:List Nat}{fi:Env->Option (List D)}{gg:D->Env->Option Env}{p:BF}{f:EF}
  (B:kK X scope N own cap) (hc:X.calm=true) (ho:om.length=own) (fF:∀i∈cap,i<ms.length) (hi:vW X ct ms n tg iter fi)
  (hg:∀cl C fp s₀ H₀,vU (iT X scope cl N C fp s₀ H₀) ct (om++iq ms cap) own n tg gg) (ht:∀cl C fp s₀ H₀,zH (iT X scope cl N C fp s₀ H₀) ct (om++iq ms cap) ifs p) (he:∀cl C fp s₀ H₀,XO (iT X scope cl N C fp s₀ H₀) ct (om++iq ms cap) k jX f)
  :
  ∃wi g tt te,PI X tg iter wi/\gC own g/\(∀cl C fp s₀ H₀,PG (iT X scope cl N C fp s₀ H₀) tg g)/\(∀cl C fp s₀ H₀,xZ (iT X scope cl N C fp s₀ H₀) ifs tt)/\(∀cl C fp s₀ H₀,PE (iT X scope cl N C fp s₀ H₀) jX te) /\
   ∀(F0 B F H:Hp) (ρ:Env) (σ:St) (d:D) (Q:VK),RS X.K ct F0 B ms F H ρ σ->dI fi own cap gg p f ρ=some d->(∀v F' H' fp,gK F H F' H'->Ow X.K ct F' H' (k+1) d v fp->fp.Nodup->(∀a∈fp,H a=none)->Q v H')->rP wi own cap g tt te σ H Q:=by
 obtain⟨wi,pi,qi⟩:=hi
 obtain⟨RZ,pg,kg,qg⟩:=zxg (K:=X.K) (Xs:=λz:List (aU×ah)×ah×List ah×am×Hp=>iT X scope z.1 N z.2.1 z.2.2.1 z.2.2.2.1 z.2.2.2.2) (λ_=>rfl) (λz=>hg z.1 z.2.1 z.2.2.1 z.2.2.2.1 z.2.2.2.2)
 obtain⟨tt,pt,qt⟩:=zxf (K:=X.K) (Xs:=λz:List (aU×ah)×ah×List ah×am×Hp=>iT X scope z.1 N z.2.1 z.2.2.1 z.2.2.2.1 z.2.2.2.2) (λ_=>rfl) (λz=>ht z.1 z.2.1 z.2.2.1 z.2.2.2.1 z.2.2.2.2)
 obtain⟨te,pe,qe⟩:=zxe (K:=X.K) (Xs:=λz:List (aU×ah)×ah×List ah×am×Hp=>iT X scope z.1 N z.2.1 z.2.2.1 z.2.2.2.1 z.2.2.2.2) (λ_=>rfl) (λz=>he z.1 z.2.1 z.2.2.1 z.2.2.2.1 z.2.2.2.2)
 refine⟨wi,RZ,tt,te,pi,kg,(λcl C fp s₀ H₀=>pg (cl,C,fp,s₀,H₀)),(λcl C fp s₀ H₀=>pt (cl,C,fp,s₀,H₀)),(λcl C fp s₀ H₀=>pe (cl,C,fp,s₀,H₀)),λF0 B F H ρ σ r Q rs e w=>?_⟩
 obtain⟨ds,h1,h2⟩:=aV e
 by_cases hz:ds.length<=16777216
 case neg=>rw[if_neg hz]at h2;cases h2
 rw[if_pos hz]at h2
 obtain⟨ys,h3,h4⟩:=aV h2
 cases h4
 refine qi F0 B F H ρ σ ds _ rs h1 λJ F1 H1 x1 ok A hA=>?_
 have kc:=rs.ext x1
 refine⟨λi m us H2=>m=ds.length-i/\i<=ds.length/\us.length<=i/\H2 A=some (.lst us)/\∃F2 yd zd fp,gK F1 H1 F2 H2/\F2 A=none/\fk (Ow X.K ct F2 H2 k) yd us fp/\fp.Nodup/\(∀a∈fp,H1 a=none/\a≠A)/\nZ gg p f (aC own none++dH ρ cap) (ds.drop i)=some zd/\yd++zd=ys,
  ⟨ds.length,rfl,cQ _,aF _,yx,F1,[],ys,[],gK.newO x1.fh hA _,x1.fh.free hA,.nil,bP,λa z=>(by cases z),h3,rfl⟩,?_⟩
 rintro i m us H2 ⟨rfl,Cd,Re,Js,F2,yd,zd,fp,x2,fA,ol,nd,hf,jF,JF⟩
 refine⟨Js,?_⟩
 have rs2:=kc.ext x2
 obtain⟨k1,k2⟩:=ok i F2 H2 x2.ff x2.hh x2.fh
 by_cases iU:i<ds.length
 ·right
  have hd:ds[i]?=some ds[i]:=by simp[iU]
  obtain⟨go,yl⟩:=k1 _ hd
  rw[nU iU]at jF
  obtain⟨ρ1,h5,h6⟩:=aV jF
  obtain⟨b,h7,h8⟩:=aV h6
  refine⟨go,by rw[cO];omega,λx H3 y=>?_⟩
  obtain⟨F3,x3,l⟩:=yl x H3 y
  have rs3:=rs2.ext x3
  have sl:=SL.nones (ND:=[]) (SL.caps rs3 fF) (om:=om)
  rw[ho]at sl
  have rsI:RS X.K ct F3 H3 (om++iq ms cap) F3 H3 (aC own none++dH ρ cap) (aC own none++gA σ cap):=⟨.refl _,.refl _,x3.fh,λ_ _ _ h=>h,[],sl,bP,λa z=>(by cases z)⟩
  have A3:H3 A=some (.lst us):=x3.hh _ _ Js
  have QD:F3 A=none:=x3.nf A _ Js fA
  refine qg F3 H3 F3 H3 _ ρ1 _ _ x _ rsI (l.mono (.refl _) (x2.trans x3).hh) h5 λσ1 r1=>?_
  refine qt F3 H3 F3 H3 ρ1 σ1 b _ r1 h7 λF4 H4 x4=>?_
  cases b with
  |false=>
   rw[if_neg aW]at h8 ⊢
   have R8:=x3.trans x4
   refine⟨ds.length-(i+1),by omega,rfl,iU,by omega,x4.hh _ _ A3,F4,yd,zd,fp,x2.trans R8,x4.nf A _ A3 QD,ol.mono λ_ _ _ _ o=>o.ext R8,nd,hf,h8,JF⟩
  |true=>
   rw[if_pos rfl]at h8 ⊢
   obtain⟨yv,h9,Xi⟩:=aV h8
   obtain⟨zs,Xj,Xk⟩:=aV Xi
   cases Xk
   refine qe F3 H3 F4 H4 ρ1 σ1 yv _ (r1.ext x4) h9 λv F5 H5 f5 x5 o5 n5 M0=>?_
   have N7:=(x3.trans x4).trans x5
   have R9:=x4.trans x5
   have A5:H5 A=some (.lst us):=R9.hh _ _ A3
   have QE:F5 A=none:=R9.nf A _ A3 QD
   have A4:H4 A=some (.lst us):=x4.hh _ _ A3
   have QI:∀a∈f5,a≠A:=λa z e=>by rw[e]at z;rw[M0 A z]at A4;cases A4
   refine⟨A5,ds.length-(i+1),by omega,rfl,iU,by rw[aX,cT];omega,yx,F5,yd++[yv],zs,fp++(f5++[]),?_,QE,?_,?_,?_,Xj,by rw[eX];exact JF⟩
   ·have JZ:=x2.trans N7
    refine⟨JZ.ff,λa o h=>?_,λa o h=>?_,JZ.nf⟩
    ·rw[yo (xu h hA)];exact JZ.hh _ _ h
    ·rw[yo (λz=>by rw[z]at h;rw[QE]at h;cases h)];exact JZ.fh _ _ h
   ·refine(ol.mono λ_ _ f XN o=>?_).append (.cons ?_ .nil)
    ·refine(o.ext N7).frame (.refl _) λa z=>⟨yo (hf a (XN a z)).2,((o.ext N7).cells a z).1⟩
    ·exact o5.frame (.refl _) λa z=>⟨yo (QI a z),(o5.cells a z).1⟩
   ·rw[cu]
    refine bq.mpr ⟨nd,n5,λa z c hc e=>?_⟩
    subst e
    have:∃o,H2 a=some o:=(fk.cellsOf ol a z).2
    obtain⟨o,ho⟩:=this
    have:=x4.hh _ _ (x3.hh _ _ ho)
    rw[M0 a hc]at this
    cases this
   ·intro a z
    rw[cu]at z
    rcases bc.mp z with z|z
    ·exact hf a z
    ·refine⟨?_,QI a z⟩
     have x14:=x2.trans (x3.trans x4)
     exact x14.hh.free (M0 a z)
 ·left
  refine⟨k2 (by omega),?_⟩
  have:ds.drop i=[]:=pj (by omega)
  rw[this]at jF
  cases jF
  rw[cu]at JF
  subst JF
  refine w _ F2 H2 (A::fp) (x1.trans x2) (.inr (.lst fA Js ol)) (bC.mpr ⟨λz=>(hf A z).2 rfl,nd⟩) λa z=>?_
  rcases aA.mp z with rfl|z
  ·exact x1.hh.free hA
  ·exact x1.hh.free (hf a z).1
theorem zsm {X:Cx}{ms om:List Mo}{n k:Nat}{jX iter tg:Expr}{ifs:List Expr}{scope:gx}{pos:dh}{N:List aU}{own:Nat}{cap:List Nat}{fi:Env->Option (List D)}{gg:D->Env->Option Env}{p:BF}{f:EF}
  (B:kK X scope N own cap) (hc:X.calm=true) (ho:om.length=own) (fF:∀i∈cap,i<ms.length) (hi:vW X ct ms n tg iter fi)
  (hg:∀cl C fp s₀ H₀,vU (iT X scope cl N C fp s₀ H₀) ct (om++iq ms cap) own n tg gg) (ht:∀cl C fp s₀ H₀,zH (iT X scope cl N C fp s₀ H₀) ct (om++iq ms cap) ifs p) (he:∀cl C fp s₀ H₀,XO (iT X scope cl N C fp s₀ H₀) ct (om++iq ms cap) k jX f)
  (hs:∀x,dQ iter X.env x=pure x:=by intro _;rfl):XO X ct ms (k+1) (.ListComp jX [⟨tg,iter,ifs,0⟩] scope pos) (dI fi own cap gg p f):=by
 obtain⟨wi,g,tt,te,pi,kg,pg,pt,pe,q⟩:=TK (k:=k) (pos:=pos) B hc ho fF hi hg ht he
 exact⟨_,zsf B hc pi kg pg pt pe hs,q⟩
end
end L3
namespace L3
open PySem PySem.Spec L2
open PyProof.Rows hiding St
section
variable {X:Cx}{ct:Nat->ah}{ms:List Mo}{rk n m k:Nat}{st:bO}{rest:List bO}{a b c e tg:Expr}{f g h:EF}{p q:BF}{u w:SF}{pos:dh}
def Ji:D->Option (List D)
 |.lst ds=>some ds
 |_=>none
theorem OQ {d:D}{ds:List D}(h:Ji d=some ds):d=.lst ds:=by cases d<;>simp[Ji]at h;subst h;rfl
def lsD (f:EF):Env->Option (List D):=λρ=>(f ρ).bind Ji
theorem U8 {K:ae}{F B G:Hp}{a:ah}{vs:List V}{ds:List D}(hp:Pr (Al K ct F B n) ds vs)(keep:∀F' H',bR F F'->bR B H'->bR F' H'->eR K H' a vs):qM K ct F B n (Le K a) ds:=by
 intro i F' H' s1 s2 s3
 have hs:eR K H' a vs:=keep F' H' s1 s2 s3
 refine⟨λd hd=>?_,λhl=>⟨vs,hs,by rw[←hp.length];exact hl⟩⟩
 obtain⟨v,hv,l⟩:=hp.get' hd
 refine⟨⟨vs,v,hs,hv⟩,λx H2 y=>?_⟩
 obtain⟨e,y⟩:=y
 subst e
 have:=y vs hs
 rw[hv]at this
 cases this
 exact⟨F',.refl s3,l.mono s1 (.refl _)⟩
theorem Dt.lst_inv {K:ae}{F:Hp}{ds:List D}{v:V}(h:Dt K ct F (.lst ds) v):∃a vs,v=.ref a/\eR K F a vs/\Dts K ct F ds vs:=by
 cases h with
 |lst q t=>exact⟨_,_,rfl,q,t⟩
theorem xK (he:XE X ct ms 0 e f):XI X ct ms 0 tg e (lsD f):=by
 obtain⟨t,pt,qt⟩:=he
 refine⟨_,Uh pt,λF0 B F H ρ σ ds R rs e w=>?_⟩
 obtain⟨d,h1,h2⟩:=aV e
 rw[OQ h2]at h1
 refine qt F0 B F H ρ σ _ _ rs h1 λv F' H' x l=>?_
 obtain⟨a,vs,rfl,ha,hp⟩:=Dt.lst_inv l
 exact⟨a,rfl,⟨vs,x.fh.seq ha⟩,w _ F' H' x (U8 (G:=H') (n:=0) (hp.pr) λF2 H2 s1 s2 s3=>s3.seq (s1.seq ha))⟩
theorem u3 (he:XE X ct ms n e f):vW X ct ms (n-1) tg e (lsD f):=by
 obtain⟨t,pt,qt⟩:=he
 refine⟨_,Uh pt,λF0 B F H ρ σ ds R rs e w=>?_⟩
 obtain⟨d,h1,h2⟩:=aV e
 rw[OQ h2]at h1
 refine qt F0 B F H ρ σ _ _ rs h1 λv F' H' x l=>?_
 obtain⟨a,vs,rfl,ha,hp⟩:=l.lst x.fh
 exact⟨a,rfl,⟨vs,ha⟩,w _ F' H' x (U8 (G:=H') hp λF2 H2 s1 s2 s3=>s2.seq ha)⟩
theorem XI.cc {fi:Env->Option (List D)}(h:XI X ct ms n tg e fi):vW X ct ms n tg e fi:=by
 obtain⟨t,pt,qt⟩:=h
 refine⟨t,pt,λF0 B F H ρ σ ds R rs e w=>qt F0 B F H ρ σ ds R rs e λJ F' H' x ok=>w J F' H' x λi F2 H2 s1 s2 s3=>?_⟩
 obtain⟨k1,k2⟩:=ok i F2 H2 s1 ((rs.ext x).bh.trans s2) s3
 refine⟨λd hd=>?_,k2⟩
 obtain⟨go,yl⟩:=k1 d hd
 refine⟨go,λv H3 y=>?_⟩
 obtain⟨F3,x3,l⟩:=yl v H3 y
 exact⟨F3,x3,l.mono (.refl _) (rs.ext x).bh⟩
def fL (lo:Int)(j:Nat):List D:=(ao j).map λ(t:Nat)=>.int (lo+(t:Int))
def hV:List D->Option (List D)
 |[.int j]=>if -4611686018427387904<=j/\j<4611686018427387904 then some (fL 0 j.toNat)else none
 |_=>none
def nQ:List D->Option (List D)
 |[.int i,.int j]=>if -4611686018427387904<=i/\i<4611686018427387904/\-4611686018427387904<=j/\j<4611686018427387904 then some (fL i (j-i).toNat)else none
 |_=>none
theorem Va {K:ae}{F B:Hp}{lo:Int}{j:Nat}:qM K ct F B n (CT lo j) (fL lo j):=by
 intro i F' H' s1 s2 s3
 unfold fL
 refine⟨λd hd=>?_,λhl=>(show j<=i by simpa using hl)⟩
 rw[bp]at hd
 by_cases h:i<j
 ·rw[eD h]at hd
  cases hd
  refine⟨h,λx H2 y=>?_⟩
  obtain⟨e,y⟩:=y
  subst e
  subst y
  exact⟨F',.refl s3,Al.of (.int _)⟩
 ·rw[pS (by simpa using h)]at hd
  cases hd
theorem ve {fs:Env->Option (List D)}{pp:dh}(hm:X.mg "range"=none)(ha:XA X ct ms [a] [m] fs)(hg:Gl X "range":=by rfl)(hs:ar [a] X.env=[(false,bG a X.env)]:=by rfl):XI X ct ms n tg (.Call (.Name "range" pp) [a] [] pos) (λρ=>(fs ρ).bind hV):=by
 obtain⟨t,pt,_,qt⟩:=ha
 refine⟨_,zl2 hg hm pt hs,λF0 B F H ρ σ ds R rs e w=>?_⟩
 obtain⟨n4,h1,h2⟩:=aV e
 refine qt F0 B F H ρ σ _ _ rs h1 λvs F' H' x l=>?_
 cases l with
 |cons h t=>
  cases t
  rename_i d v
  cases d with
  |int j=>
   unfold hV at h2
   dsimp only at h2
   by_cases hj:-4611686018427387904<=j/\j<4611686018427387904
   ·rw[if_pos hj]at h2
    cases h2
    exact⟨j,by rw[h.int],by omega,by omega,w _ F' H' x Va⟩
   ·rw[if_neg hj]at h2;cases h2
  |_=>cases h2
theorem Ou {fs:Env->Option (List D)}{pp:dh}{m':Nat}(hm:X.mg "range"=none)(ha:XA X ct ms [a,b] [m,m'] fs)(hg:Gl X "range":=by rfl)(hs:ar [a,b] X.env=[(false,bG a X.env),(false,bG b X.env)]:=by rfl)(ml:ar [b] X.env=[(false,bG b X.env)]:=by rfl):XI X ct ms n tg (.Call (.Name "range" pp) [a,b] [] pos) (λρ=>(fs ρ).bind nQ):=by
 obtain⟨t,pt,_,qt⟩:=ha
 refine⟨_,zl3 hg hm pt hs ml,λF0 B F H ρ σ ds R rs e w=>?_⟩
 obtain⟨n4,h1,h2⟩:=aV e
 refine qt F0 B F H ρ σ _ _ rs h1 λvs F' H' x l=>?_
 cases l with
 |cons h t=>
  cases t with
  |cons h' t=>
   cases t
   rename_i d v d' v'
   cases d with
   |int i=>
    cases d' with
    |int j=>
     unfold nQ at h2
     dsimp only at h2
     by_cases hj:-4611686018427387904<=i/\i<4611686018427387904/\-4611686018427387904<=j/\j<4611686018427387904
     ·rw[if_pos hj]at h2
      cases h2
      exact⟨i,j,by rw[h.int,h'.int],⟨by omega,by omega,by omega,by omega⟩,w _ F' H' x Va⟩
     ·rw[if_neg hj]at h2;cases h2
    |_=>cases h2
   |_=>cases h2
def eK (i:Nat):List D->List D
 |[]=>[]
 |d::ds=>.tup [.int i,d]::eK (i+1) ds
theorem Ov:∀{ds:List D} {j i:Nat} {d:D},(eK j ds)[i]?=some d->∃x,ds[i]?=some x/\d=.tup [.int (j+i:Nat),x]
 |[],_,_,_,h=>by simp[eK]at h
 |x::ds,j,0,d,h=>by simp[eK]at h;subst h;exact⟨x,rfl,rfl⟩
 |x::ds,j,i+1,d,h=>by
  obtain⟨y,h1,h2⟩:=Ov (ds:=ds) (j:=j+1) (i:=i) (d:=d) (by simpa[eK]using h)
  exact⟨y,by simpa using h1,by rw[h2,Nat.add_assoc,Nat.add_comm 1 i]⟩
theorem To:∀{ds:List D} {j:Nat},(eK j ds).length=ds.length
 |[],_=>rfl
 |_::ds,j=>by simp[eK,To (ds:=ds)]
theorem Vb {K:ae}{F B:Hp}{a:ah}{vs:List V}{ds:List D}(hp:Pr (Al K ct F B n) ds vs)(keep:∀F' H',bR F F'->bR B H'->bR F' H'->eR K H' a vs):qM K ct F B (n+1) (Lc K a) (eK 0 ds):=by
 intro i F' H' s1 s2 s3
 have hs:eR K H' a vs:=keep F' H' s1 s2 s3
 refine⟨λd hd=>?_,λhl=>⟨vs,hs,by rw[←hp.length];rw[To]at hl;exact hl⟩⟩
 obtain⟨x,hx,rfl⟩:=Ov hd
 obtain⟨v,hv,l⟩:=hp.get' hx
 refine⟨⟨vs,v,hs,hv⟩,λz H2 y=>?_⟩
 obtain⟨r,y',hr,rfl,rfl,y⟩:=y
 have:=y vs hs
 rw[hv]at this
 cases this
 refine⟨_,gK.newS s3 hr _,.inr (.tup yx (.cons (Al.of ?_) (.cons (l.mono (s1.trans (BL (s3.free hr) _)) (.refl _)) .nil)))⟩
 rw[Nat.zero_add]
 exact .int _
theorem zsn {fs:Env->Option (List D)}{lJ:List Expr}{kt:Nat}{pt pp:dh}(hm:X.mg "enumerate"=none)(ha:XA X ct ms [a] [0] fs)(hg:Gl X "enumerate":=by rfl)(hs:ar [a] X.env=[(false,bG a X.env)]:=by rfl) :
  XI X ct ms 1 (.Tuple lJ kt pt) (.Call (.Name "enumerate" pp) [a] [] pos) (λρ=>(fs ρ).bind λds=>match ds with|[.lst xs]=>some (eK 0 xs)|_=>none):=by
 obtain⟨t,pt,_,qt⟩:=ha
 refine⟨_,Uw hg hm pt hs,λF0 B F H ρ σ ds R rs e w=>?_⟩
 obtain⟨n4,h1,h2⟩:=aV e
 refine qt F0 B F H ρ σ _ _ rs h1 λvs F' H' x l=>?_
 cases l with
 |cons h t=>
  cases t
  rename_i d v
  cases d with
  |lst xs=>
   cases h2
   obtain⟨a,vs,rfl,ha,hp⟩:=Dt.lst_inv h
   exact⟨a,rfl,⟨vs,x.fh.seq ha⟩,w _ F' H' x (Vb (n:=0) hp.pr λF2 H2 s1 s2 s3=>s3.seq (s1.seq ha))⟩
  |_=>cases h2
theorem OR {fs:Env->Option (List D)}{lJ:List Expr}{kt:Nat}{pt pp:dh}(hm:X.mg "enumerate"=none)(ha:XA X ct ms [a] [n] fs)(hg:Gl X "enumerate":=by rfl)(hs:ar [a] X.env=[(false,bG a X.env)]:=by rfl) :
  vW X ct ms (n-1+1) (.Tuple lJ kt pt) (.Call (.Name "enumerate" pp) [a] [] pos) (λρ=>(fs ρ).bind λds=>match ds with|[.lst xs]=>some (eK 0 xs)|_=>none):=by
 obtain⟨t,pt,_,qt⟩:=ha
 refine⟨_,Uw hg hm pt hs,λF0 B F H ρ σ ds R rs e w=>?_⟩
 obtain⟨n4,h1,h2⟩:=aV e
 refine qt F0 B F H ρ σ _ _ rs h1 λvs F' H' x l=>?_
 cases l with
 |cons h t=>
  cases t
  rename_i d v
  cases d with
  |lst xs=>
   cases h2
   obtain⟨a,vs,rfl,ha,hp⟩:=h.lst x.fh
   exact⟨a,rfl,⟨vs,ha⟩,w _ F' H' x (Vb hp λF2 H2 s1 s2 s3=>s2.seq ha)⟩
  |_=>cases h2
end
end L3
namespace L3
open PySem PySem.Spec L2
open PyProof.Rows hiding St
section
variable {X:Cx}{ct:Nat->ah}{ms:List Mo}{rk n m k:Nat}{st:bO}{rest:List bO}{a b c e tg:Expr}{f g h:EF}{p q:BF}{u w:SF}{pos:dh}
theorem Ow.lst_inv {K:ae}{F H:Hp}{ds:List D}{v:V}{fp:List ah}(h:Ow K ct F H (k+1) (.lst ds) v fp):∃a vs fr,v=.ref a/\fp=a::fr/\F a=none/\H a=some (.lst vs)/\fk (Ow K ct F H k) ds vs fr:=by
 rcases h with⟨h,_⟩|h
 ·cases h
 ·cases h with
  |lst h1 h2 h3=>exact⟨_,_,_,rfl,rfl,h1,h2,h3⟩
theorem Ow.dK_inv {K:ae}{F H:Hp}{ks:List fw}{ds:List D}{v:V}{fp:List ah}(h:Ow K ct F H (k+1) (.dK ks ds) v fp):∃a vs fr,v=.ref a/\fp=a::fr/\F a=none/\H a=some (.dK (ks.zip vs))/\ks.length=vs.length/\fk (Ow K ct F H k) ds vs fr:=by
 rcases h with⟨h,_⟩|h
 ·cases h
 ·cases h with
  |dK h1 h2 h3 h4=>exact⟨_,_,_,rfl,rfl,h1,h2,h3,h4⟩
theorem Ow.dT_inv {K:ae}{F H:Hp}{ks:List (List fw)}{ds:List D}{v:V}{fp:List ah}(h:Ow K ct F H (k+1) (.dT ks ds) v fp):∃a vs fr,v=.ref a/\fp=a::fr/\F a=none/\H a=some (.dT (ks.zip vs))/\ks.length=vs.length/\fk (Ow K ct F H k) ds vs fr:=by
 rcases h with⟨h,_⟩|h
 ·cases h
 ·cases h with
  |dT h1 h2 h3 h4=>exact⟨_,_,_,rfl,rfl,h1,h2,h3,h4⟩
theorem RS.change {K:ae}{F0 B F H F' H':Hp}{ρ:Env}{σ:St}{i:Nat}{d':D}{v:V}{f1 fr fn:List ah}{ad:ah}{o:HO}(rs:RS K ct F0 B ms F H ρ σ)(hm:ms[i]?=some (.ow k))(x:gK F H F' H')
  (hσ:σ[i]?=some (some v)) (b1:∀a∈f1,B a=none) (dj:∀a∈f1,a∉fr) (cf:∀a∈fr,F a=none/\∃o,H a=some o)
  (put:∀(F' H':Hp) (d':D) (v':V) (f':List ah),bR F F'->bR B H'->bR F' H'->(∀a o,B a=some o->F0 a=none->F' a=none)->(∀a∈fr,H' a=H a/\F' a=none)->Ow K ct F' H' k d' v' f'->f'.Nodup->(∀a∈f',a∉fr)->(∀a∈f',B a=none) ->
    RS K ct F0 B ms F' H' (ρ.set i (some d')) (σ.set i (some v')))
  (nP:ad∈f1) (Ms:F' ad=none) (o':Ow K ct F' (upd H' ad o) k d' v fn) (nd:fn.Nodup) (Cc:∀a∈fn,a∈f1\/H a=none):RS K ct F0 B ms F' (upd H' ad o) (ρ.set i (some d')) σ:=by
 have r:=rs.ext x
 have hB:B ad=none:=b1 ad nP
 have res:=put F' (upd H' ad o) d' v fn x.ff (λz u h=>by rw[yo (λe=>by rw[e,hB]at h;cases h)];exact r.bh _ _ h) (λz u h=>by rw[yo (λe=>by rw[e,Ms]at h;cases h)];exact x.fh _ _ h) r.nf
  (λz hz=>by
   obtain⟨hn,o,ho⟩:=cf z hz
   refine⟨?_,x.nf z o ho hn⟩
   have ne:z≠ad:=λe=>dj ad nP (by rw[←e];exact hz)
   rw[yo ne]
   exact(x.hh _ _ ho).trans ho.symm) o' nd
  (λz hz zr=>by
   rcases Cc z hz with h|h
   ·exact dj z h zr
   ·obtain⟨_,o,ho⟩:=cf z zr
    rw[h]at ho
    cases ho)
  (λz hz=>(Cc z hz).elim (b1 z) λh=>rs.bh.free h)
 have e:σ.set i (some v) = σ:=by
  apply li
  intro j
  by_cases hj:i=j
  ·subst hj
   rw[jC (by
    have:=aT.mp hσ
    exact this.1),hσ]
  ·rw[cX hj]
 rw[e]at res
 exact res
def sApp (i:Nat)(f:EF):SF:=λρ=>(eV i ρ).bind λo=>(f ρ).bind λd=>match o with
 |.lst ds=>if ds.length<16777216 then some (.nx (ρ.set i (some (.lst (ds++[d])))))else none
 |_=>none
theorem Kg (i:Nat){x:aU}{p1 dF dY:dh}(hm:ms[i]?=some (.ow (k+1)))(he:XO X ct ms k e f)(hN:X.N[i]?=some x:=by rfl)(hv:pF X.env.scope x:=by first|exact Or.inl rfl|exact Or.inr (Or.inl rfl)|exact Or.inr (Or.inr rfl))(hd:(x==("__debug__":aU))=false:=by decide)
  (jF:(x==("__classdict__":aU))=false:=by decide) (m9:ar [e] X.env=(false,bG e X.env)::ar [] X.env:=by rfl)
  (m5:eJ (.Name x p1) "append" X.env (bG (.Name x p1) X.env)=bG (.Name x p1) X.env:=by rfl)
  (qS:((cE dY (ar [e] X.env)).all (λx=>!x.1)&&(fq dY (dw [] X.env)).all (λx=>x.1.isSome)
   && decide ([e].length+([]:List gh).length+(if([]:List gh).isEmpty then 0 else 1)<30))=true:=by rfl)
  (m7:(dF.endLine==dY.line)=true:=by rfl) (ku:(cE dY (ar [] X.env)).any (·.1)=false:=by rfl)
  (wM:dR (.Call (.Attribute (.Name x p1) "append" dF) [e] [] dY) none pos.line X.env=pure false:=by rfl) :
  XS X ct ms rk (.Expr (.Call (.Attribute (.Name x p1) "append" dF) [e] [] dY) pos) (sApp i f):=by
 obtain⟨t,pt,qt⟩:=he
 refine⟨_,KD (K3 PySem.F.plainAttrs_list PySem.F.slot_list_append PySem.F.type_list_append J7 (qj hN hv hd jF) (ub pt uQ m9) m5 qS m7 m9 ku) wM,λF0 B F H ρ σ o E rs e z=>?_⟩
 obtain⟨d1,d2,h1,h2,h3⟩:=dP e
 obtain⟨f1,fr,n1,b1,dj,i4,cf,put⟩:=rs.put (F':=F) (H':=H) hm
 obtain⟨v,hσ,ow⟩:=i4 d1 (yg h1)
 refine⟨v,hσ,?_⟩
 cases d1 with
 |lst ds=>
  dsimp only at h3
  by_cases hz:ds.length<16777216
  ·rw[if_pos hz]at h3
   cases h3
   obtain⟨ad,vs,oI,rfl,rfl,hF,hH,ol⟩:=ow.lst_inv
   refine⟨.inl ⟨rfl,_,eR.of hH⟩,qt F0 B F H ρ σ d2 _ rs h2 λv2 F' H' fp x1 o2 Hb AY=>?_⟩
   have hA:H' ad=some (.lst vs):=x1.hh _ _ hH
   have fA:F' ad=none:=x1.nf ad _ hH hF
   have nA:∀a∈fp,a≠ad:=λa hz e=>by rw[e]at hz;rw[AY ad hz]at hH;cases hH
   have Cj:=bC.mp n1
   refine⟨ad,vs,v2,rfl,rfl,hA,by rw[←ol.length,cO];exact hz,?_⟩
   refine z σ F' _ (rs.change hm x1 hσ b1 dj cf put aa fA (.inr (.lst fA yx ((ol.mono λ_ _ f' hi o'=>?_).append (.cons (f:=fp) ?_ .nil)))) (fn:=ad::(oI++(fp++[]))) ?_ ?_)
   ·refine(o'.ext x1).frame (.refl _) λa ha=>⟨yo λe=>Cj.1 (e▸hi a ha),((o'.ext x1).cells a ha).1⟩
   ·exact o2.frame (.refl _) λa ha=>⟨yo (nA a ha),(o2.cells a ha).1⟩
   ·rw[cu]
    refine bC.mpr ⟨λhz=>?_,bq.mpr ⟨Cj.2,Hb,λa ha b hb e=>?_⟩⟩
    ·rcases bc.mp hz with hz|hz
     ·exact Cj.1 hz
     ·exact nA ad hz rfl
    ·subst e
     obtain⟨_,o,ho⟩:=fk.cellsOf ol a ha
     rw[AY a hb]at ho
     cases ho
   ·intro a ha
    rw[cu]at ha
    rcases aA.mp ha with rfl|ha
    ·exact .inl aa
    ·rcases bc.mp ha with ha|ha
     ·exact .inl (ai _ ha)
     ·exact .inr (AY a ha)
  ·rw[if_neg hz]at h3;cases h3
 |_=>cases h3
def kT (ds:List D)(i:Int)(d:D):Option (List D):=(ixN ds.length i).bind λj=>some (ds.set j d)
def fI {κ:Type}[DecidableEq κ](ks:List κ)(ds:List D)(k:κ)(d:D):List κ×List D:=if ks.contains k=true then(ks,(ks.zip ds).map λp=>if p.1=k then d else p.2)else(ks++[k],ds++[d])
def pN (i:Nat)(fj f:EF):SF:=λρ=>(f ρ).bind λd=>(eV i ρ).bind λo=>(fj ρ).bind λj=>match o,j with
 |.lst ds,.int z=>(kT ds z d).bind λn4=>some (.nx (ρ.set i (some (.lst n4))))
 |_,_=>none
theorem fk.set0 {R:D->V->List ah->Prop}{d:D}{v:V}(r:R d v [])(z:∀d v f,R d v f->f=[]):∀{ds:List D} {vs:List V} {fp:List ah} (i:Nat),fk R ds vs fp->fk R (ds.set i d) (vs.set i v) []
 |_,_,_,_,.nil=>.nil
 |_,_,_,0,.cons h t=>by
  have:=fk.cons (f:=[]) (g:=[]) r (fk.ofPr (t.pr λd v f _ q=>by have:=z _ _ _ q;subst this;exact q))
  exact this
 |_,_,_,i+1,.cons h t=>by
  have e:=z _ _ _ h
  subst e
  exact fk.cons (f:=[]) (g:=[]) h (fk.set0 r z i t)
theorem Ow.nil0 {K:ae}{F H:Hp}{d:D}{v:V}{fp:List ah}(h:Ow K ct F H 0 d v fp):fp=[]:=h.2
theorem fk.nil0 {K:ae}{F H:Hp}{ds:List D}{vs:List V}{fp:List ah}(h:fk (Ow K ct F H 0) ds vs fp):fp=[]:=by
 induction h with
 |nil=>rfl
 |cons h t ih=>rw[h.nil0,ih];rfl
end
end L3
namespace L3
open PySem PySem.Spec L2
open PyProof.Rows hiding St
section
variable {X:Cx}{ct:Nat->ah}{ms:List Mo}{rk n m k:Nat}{st:bO}{rest:List bO}{a b c e tg:Expr}{f g h:EF}{p q:BF}{u w:SF}{pos:dh}{K:ae}
theorem NC {aj:List (ah×dX)}{σ:St}{H:Hp}{s:am}{l:ah}{xs:List V}(I:Inv X aj σ H s)(hH:Rd H l (.lst xs)):xs.length<=sizeLine/\∃(cw:List af) (n:Nat),bZ xs cw/\xs.length=cw.length/\s.heap.get? l=some { cls:=.type "list",data:=.seq cw.toArray n }:=by
  obtain⟨z,cw,n,r,e⟩:=hH.ok I.hok
  exact⟨z,cw,n,r,r.length,e⟩
def yP (K:ae):R2:=λx y H Q=>∃l b xs zs,x=.ref l/\y=.ref b/\eR K H l xs/\eR K H b zs/\xs.length+zs.length<=sizeLine/\∀p,H p=none->Q (.ref p) (upd H p (.lst (xs++zs)))
theorem zso:hJ X (eh .Add) (yP X.K):=by
 intro aj s σ H x y v u Q I rx ry h
 obtain⟨l,b,xs,zs,rfl,rfl,hH,hB,hz,q⟩:=h
 cases rx
 cases ry
 obtain⟨cw,r,⟨⟨cls,dd,data,sl⟩,n,e,c1,c2,c3⟩,z⟩:=I.list hH
 obtain⟨wQ,r2,⟨⟨Lw,Jm,data2,Ip⟩,n2,e2,c4,c5,c6⟩,z2⟩:=I.list hB
 simp only at c1 c3 c4 c6
 subst c1 c3 c4 c6
 have hl:=r.length
 have qU:=r2.length
 refine sQ ⟨_,e,rfl⟩ ⟨_,e2,rfl⟩ noFill_list_add seq_list_add PySem.F.slot_list_add PySem.F.entry_list_add (PySem.F.args_list_add_2 _ _) (list_addW l b cw.toArray wQ.toArray n n2 dd Jm sl Ip (by rw[aQ,aQ];omega)) ⟨e,e2,?_⟩
 have ea:cw.toArray++wQ.toArray=(cw++wQ).toArray:=by simp
 rw[ea]
 exact⟨.ref _,_,I.lnew (t':=s.toks) (r.append r2) (by rw[aX];omega),rfl,q _ I.fresh⟩
def Ie:R2:=λx y H Q=>∃i j,x=.str i/\y=.str j/\i.length+j.length<=sizeLine/\Q (.str (i++j)) H
def Bx (K:ae):R2:=λx y H Q=>p7 (λi j=>.int (i+j)) x y H Q\/Ie x y H Q\/yP K x y H Q\/yQ K x y H Q
theorem zsp:hJ X (eh .Add) (Bx X.K):=hJ.or zuu (hJ.or zk3 (hJ.or zso zr6))
def dS:D->D->Option D
 |.int i,.int j=>some (.int (i+j))
 |.str x,.str y=>if x.length+y.length<=16777216 then some (.str (x++y))else none
 |.lst xs,.lst ys=>if xs.length+ys.length<=16777216 then some (.lst (xs++ys))else none
 |.tup xs,.tup ys=>if xs.isEmpty=false/\ys.isEmpty=false/\xs.length+ys.length<=1000000 then some (.tup (xs++ys))else none
 |_,_=>none
theorem Pr.ow0 {F G H:Hp}{ds:List D}{vs:List V}(h:Pr (Al K ct F G 0) ds vs):fk (Ow K ct F H 0) ds vs []:=fk.ofPr (h.mono λ_ _ q=>⟨q,rfl⟩)
theorem Al.lst1 {F G:Hp}{ds:List D}{v:V}(hn:n<=1)(h:Al K ct F G n (.lst ds) v)(s:bR F G):∃a vs,v=.ref a/\eR K G a vs/\Pr (Al K ct F G 0) ds vs:=by
 obtain⟨a,vs,e,h1,h2⟩:=h.lst s
 have:n-1=0:=by omega
 rw[this]at h2
 exact⟨a,vs,e,h1,h2⟩
theorem Al.tup1 {F G:Hp}{ds:List D}{v:V}(hn:n<=1)(h:Al K ct F G n (.tup ds) v)(s:bR F G):∃a vs,v=.ref a/\G a=some (.tup vs)/\Pr (Al K ct F G 0) ds vs:=by
 obtain⟨a,vs,e,h1,h2⟩:=h.tup s
 have:n-1=0:=by omega
 rw[this]at h2
 exact⟨a,vs,e,h1,h2⟩
theorem yX {F H:Hp}{ds:List D}{vs:List V}{Q:VK}(s:bR F H)(hp:Pr (Al K ct F H 0) ds vs)(w:∀v F' H' fp,gK F H F' H'->Ow K ct F' H' 1 (.lst ds) v fp->fp.Nodup->(∀a∈fp,H a=none)->Q v H'):∀p,H p=none->Q (.ref p) (upd H p (.lst vs)):=λp h0=>by
 obtain⟨o,nd⟩:=Ux s (hp.ow0 (H:=H)) h0
 exact w _ F _ [p] (gK.newO s h0 _) o (nd bP) λa z=>by rw[az]at z;subst z;exact h0
theorem zsq (hn:n<=1)(hm:m<=1):CV K ct n m 1 (Bx K) dS:=by
 intro F H x y d1 d2 d Q s l1 l2 e w
 have ws:∀d v,d.sc=true->Dt K ct F d v->(∀v F' H' fp,gK F H F' H'->Ow K ct F' H' 1 d v fp->fp.Nodup->(∀a∈fp,H a=none)->Q v H')->Q v H:=λd v hs hd w=>w v F H [] (.refl s) (Ow.scal hd hs) bP λa z=>(by cases z)
 cases d1 with
 |int i=>
  cases d2 with
  |int j=>cases e;exact .inl ⟨i,j,l1.int,l2.int,ws _ _ rfl (.int _) w⟩
  |_=>cases e
 |str i=>
  cases d2 with
  |str j=>
   unfold dS at e
   dsimp only at e
   by_cases hz:i.length+j.length<=16777216
   ·rw[if_pos hz]at e
    cases e
    exact .inr (.inl ⟨i,j,l1.str,l2.str,by rw[cO];exact hz,ws _ _ rfl (.str _) w⟩)
   ·rw[if_neg hz]at e;cases e
  |_=>cases e
 |lst xs=>
  cases d2 with
  |lst ys=>
   unfold dS at e
   dsimp only at e
   by_cases hz:xs.length+ys.length<=16777216
   ·rw[if_pos hz]at e
    cases e
    obtain⟨a,vs,rfl,ha,hp⟩:=Al.lst1 hn l1 s
    obtain⟨b,us,rfl,hb,hq⟩:=Al.lst1 hm l2 s
    exact .inr (.inr (.inl ⟨a,b,vs,us,rfl,rfl,ha,hb,by rw[←hp.length,←hq.length,cO];exact hz,yX s (hp.append hq) w⟩))
   ·rw[if_neg hz]at e;cases e
  |_=>cases e
 |tup xs=>
  cases d2 with
  |tup ys=>
   unfold dS at e
   dsimp only at e
   by_cases hz:xs.isEmpty=false/\ys.isEmpty=false/\xs.length+ys.length<=1000000
   ·rw[if_pos hz]at e
    cases e
    obtain⟨a,vs,rfl,ha,hp⟩:=Al.tup1 hn l1 s
    obtain⟨b,us,rfl,hb,hq⟩:=Al.tup1 hm l2 s
    have hl:=hp.length
    have qU:=hq.length
    have e1:vs≠[]:=λz=>by
     rw[z]at hl
     have:=oW.mp hl
     rw[this]at hz
     exact absurd hz.1 (by decide)
    have e2:us≠[]:=λz=>by
     rw[z]at qU
     have:=oW.mp qU
     rw[this]at hz
     exact absurd hz.2.1 (by decide)
    refine .inr (.inr (.inr ⟨a,b,vs,us,rfl,rfl,kN.of ha,kN.of hb,e1,by rw[←hl,←qU,cO];omega,λz=>absurd z e2,λ_ p h0=>?_⟩))
    have x2:=gK.newS s h0 (.tup (vs++us))
    exact w _ _ _ [] x2 (.inr (.tup yx (fk.ofPr ((hp.append hq).mono λ_ _ q=>⟨Dt.mono x2.ff q,rfl⟩)))) bP λa z=>(by cases z)
   ·rw[if_neg hz]at e;cases e
  |_=>cases e
 |_=>cases e
def Il:R2:=λx y H Q=>∃l k xs,x=.ref l/\y=.int k/\Rd H l (.lst xs)/\-(2 ^ 63)<=k/\k<2 ^ 63/\xs.length*k.toNat<=sizeLine /\
 ∀p,H p=none->Q (.ref p) (upd H p (.lst (aC k.toNat xs).flatten))
theorem zsr:hJ X (eh .Mult) Il:=by
 intro aj s σ H x y v u Q I rx ry h
 obtain⟨l,k,xs,rfl,rfl,hH,h1,h2,hz,q⟩:=h
 cases rx
 obtain⟨t,rfl⟩:=ry
 obtain⟨z,cw,n,r,hl,e⟩:=NC I hH
 have eo:cw.toArray.size*k.toNat<=sizeLine:=by rw[aQ,←hl];exact hz
 have fF:¬cw.toArray.size*k.toNat > (2 ^ 63-1)/8:=by
  have:(sizeLine:Nat)<=(2 ^ 63-1)/8:=by decide
  omega
 have M2:¬(!fN.List.listFitsIndex k)=true:=by
  rw[fitsIndex_both h1 h2]
  exact aW
 have FH:¬fN.List.listTooLong (cw.toArray.size*k.toNat)=true:=by
  rw[uG eo]
  exact aW
 have Nb:rV (λx1 x2=>x1++x2) #[] (aC (if cw.toArray.isEmpty=true then 0 else k.toNat) cw.toArray)=(aC k.toNat cw).flatten.toArray:=by
  have f0:∀m:Nat,rV (λx1 x2=>x1++x2) #[] (aC m cw.toArray)=(aC m cw).flatten.toArray:=λm=>by
   have:=Tj cw m []
   rw[List.nil_append]at this
   exact this
  rw[f0]
  cases cw with
  |nil=>simp
  |cons a r'=>rw[if_neg (by simp)]
 refine wpAny_binaryOp_repeat_ref (T:="list") (U:="int") (by decide) ⟨_,e,rfl⟩ (λs'=>xX s' k t) noFill_list_mul F.fills_int_mul F.slot_int_rmul repeat_list F.slot_int_index.lookup
  (mJ F.slot_int_rmul (xX s k t) F.entry_int_rmul (F.args_int_rmul_2 _ _) (int___rmul___int_list k t l cw.toArray n)
   ⟨e,rfl,⟨_,e,rfl⟩,mJ F.slot_list_mul ⟨_,e,rfl⟩ F.entry_list_mul (F.args_list_mul_2 _ _) (AutoListH.list___mul___list_int_3 l cw.toArray n k t M2 fF FH) ⟨e,?_⟩⟩)
 rw[Nb]
 exact⟨.ref _,_,I.lnew (t':=s.toks) (r.rep k.toNat) (by rw[zr8,Nat.mul_comm];exact hz),rfl,q _ I.fresh⟩
theorem xz:nB K ct n m k (rI nX λi j=>.int (i*j)) eA:=zsi
def lO:D->D->Option D
 |.lst xs,.int j=>if -1000000<j/\j<1000000/\xs.length<=16 then some (.lst (aC j.toNat xs).flatten)else none
 |_,_=>none
theorem KY (ha:XO X ct ms 1 a f)(hb:XE X ct ms m b g):XO X ct ms 1 (.BinOp a .Mult b pos) (e2 lO f g):=by
 obtain⟨ta,pa,qa⟩:=ha
 obtain⟨tb,pb,qb⟩:=hb
 refine⟨_,PZ zsr pa pb,λF0 B F H ρ σ d Q rs e w=>?_⟩
 obtain⟨d1,d2,h1,h2,h3⟩:=dP e
 refine qa F0 B F H ρ σ d1 _ rs h1 λv F1 H1 fp x1 o nd hf=>?_
 refine qb F0 B F1 H1 ρ σ d2 _ (rs.ext x1) h2 λv2 F2 H2 x2 l2=>?_
 cases d1 with
 |lst xs=>
  cases d2 with
  |int j=>
   unfold lO at h3
   dsimp only at h3
   by_cases hz:-1000000<j/\j<1000000/\xs.length<=16
   ·rw[if_pos hz]at h3
    cases h3
    obtain⟨ad,vs,fr,rfl,rfl,hF,hH,ol⟩:=(o.ext x2).lst_inv
    have hp:Pr (Al X.K ct F2 H2 0) xs vs:=ol.pr λ_ _ _ _ q=>q.1
    have R7:=x1.trans x2
    refine⟨ad,j,vs,rfl,l2.int,.inl hH,by omega,by omega,?_,yX x2.fh (hp.rep _) λv F' H' fp x o nd hf=>w v F' H' fp (R7.trans x) o nd λz hz=>R7.hh.free (hf z hz)⟩
    rw[←hp.length,cO]
    have h1:j.toNat<=1000000:=by omega
    have h2:xs.length*j.toNat<=16*1000000:=xV hz.2.2 h1
    omega
   ·rw[if_neg hz]at h3;cases h3
  |_=>cases h3
 |_=>cases h3
def qX:D->Option D
 |.int i=>some (.int (-i))
 |_=>none
theorem IX (ha:XE X ct ms n a f):XE X ct ms k (.UnaryOp .USub a pos) (e1 qX f):=by
 refine zxc zuw (λF H x d1 d Q s l e w=>?_) ha
 cases d1 with
 |int i=>cases e;exact⟨i,l.int,w _ F H (.refl s) (Al.of (.int _))⟩
 |_=>cases e
theorem IT {x:aU}{d:D}{u:af}(hg:Gl X x)(hm:X.mg x=some u)(hs:d.sc=true)(r:RelV d.v u)(hd:(x==("__debug__":aU))=false:=by decide):XE X ct ms n (.Name x pos) (eC d):=by
 refine⟨_,Uj hg hm r hd,λF0 B F H ρ σ d' Q rs e w=>?_⟩
 cases e
 refine w _ F H (.refl rs.fh) (Al.of ?_)
 cases d with
 |non=>exact .non
 |bl b=>exact .bl b
 |int b=>exact .int b
 |str b=>exact .str b
 |_=>cases hs
def nc:List D->Option D
 |[.lst ds]=>some (.lst ds)
 |[.tup ds]=>some (.lst ds)
 |_=>none
theorem OS (hn:n<=1):tQ K ct [n] 1 (λxs H Q=>∃p ys,xs=[.ref p]/\(eR K H p ys\/kN K H p ys)/\∀l,H l=none->Q (.ref l) (upd H l (.lst ys))) nc:=by
 intro F H vs ds d Q s l e w
 cases l with
 |cons h t=>
  cases t
  rename_i d1 v
  cases d1 with
  |lst xs=>
   cases e
   obtain⟨a,us,rfl,ha,hp⟩:=Al.lst1 hn h s
   exact⟨a,us,rfl,.inl ha,yX s hp w⟩
  |tup xs=>
   cases e
   obtain⟨a,us,rfl,ha,hp⟩:=Al.tup1 hn h s
   exact⟨a,us,rfl,.inr (kN.of ha),yX s hp w⟩
  |_=>cases e
abbrev PF:=Env->Option (Option Int)
def pNo:PF:=λ_=>some none
def pInt (f:EF):PF:=λρ=>(f ρ).bind λd=>match d with
 |.int i=>some (some i)
 |_=>none
def XP (X:Cx)(ct:Nat->ah)(ms:List Mo)(e:Option Expr)(f:PF):Prop:=∃t,PO X e t/\∀(F0 B F H:Hp) (ρ:Env) (σ:St) (o:Option Int) (Q:Option Int->Hp->Prop),RS X.K ct F0 B ms F H ρ σ->f ρ=some o->(∀F' H',gK F H F' H'->Q o H')->t σ H Q
theorem P2:XP X ct ms none pNo:=⟨_,zr4,λF0 B F H ρ σ o Q rs e w=>by cases e;exact w F H (.refl rs.fh)⟩
theorem O5 (h:XE X ct ms n e f):XP X ct ms (some e) (pInt f):=by
 obtain⟨t,pt,qt⟩:=h
 refine⟨_,zr5 pt,λF0 B F H ρ σ o Q rs e w=>?_⟩
 obtain⟨d,h1,h2⟩:=aV e
 refine qt F0 B F H ρ σ d _ rs h1 λv F' H' x l=>?_
 cases d with
 |int i=>cases h2;exact⟨i,l.int,w F' H' x⟩
 |_=>cases h2
def cutD (xs:List D)(lo hi:Option Int):List D:=(xs.drop (HT.sIx xs.length 0 lo)).take (HT.sIx xs.length xs.length hi-HT.sIx xs.length 0 lo)
theorem zst {R:D->V->Prop}{ds:List D}{vs:List V}{lo hi:Option Int}(h:Pr R ds vs):Pr R (cutD ds lo hi) (sk vs lo hi):=by
 unfold cutD sk
 rw[h.length]
 exact(h.drop _).take _
def jT (d:D)(lo hi:Option Int):Option D:=match d with
 |.lst xs=>some (.lst (cutD xs lo hi))
 |_=>none
theorem OT {lo hi:Option Expr}{pl ph:PF}{p1}(hn:n<=1)(he:XE X ct ms n e f)(hl:XP X ct ms lo pl)(hh:XP X ct ms hi ph):XO X ct ms 1 (.Subscript e (.Slice lo hi none p1) pos) (λρ=>(f ρ).bind λd=>(pl ρ).bind λl=>(ph ρ).bind λh=>jT d l h):=by
 obtain⟨t,pt,qt⟩:=he
 obtain⟨t1,Bv,Bw⟩:=hl
 obtain⟨t2,qY,qZ⟩:=hh
 refine⟨_,zo1 zr7 pt Bv qY,λF0 B F H ρ σ r Q rs e w=>?_⟩
 obtain⟨d,l,h1,h2,h3⟩:=dP e
 obtain⟨hh,h4,h5⟩:=aV h3
 refine qt F0 B F H ρ σ d _ rs h1 λv F1 H1 x1 l1=>?_
 refine Bw F0 B F1 H1 ρ σ l _ (rs.ext x1) h2 λF2 H2 x2=>?_
 refine qZ F0 B F2 H2 ρ σ hh _ ((rs.ext x1).ext x2) h4 λF3 H3 x3=>?_
 cases d with
 |lst xs=>
  cases h5
  have ox:=x2.trans x3
  obtain⟨a,vs,rfl,ha,hp⟩:=Al.lst1 hn (l1.mono ox.ff ox.hh) ox.fh
  exact⟨a,vs,rfl,ha,yX ox.fh (zst hp) λv F' H' fp x o nd hf=>w v F' H' fp ((x1.trans ox).trans x) o nd λz hz=>(x1.trans ox).hh.free (hf z hz)⟩
 |_=>cases h5
def zI:List D->Option D
 |[.int i]=>some (.int (if i<0 then -i else i))
 |_=>none
theorem zsu:vF K ct [n] k (λxs H Q=>∃i,xs=[.int i]/\Q (.int (if i<0 then -i else i)) H) zI:=by
 intro F H vs ds d Q s l e w
 cases l with
 |cons h t=>
  cases t
  rename_i d1 v
  cases d1 with
  |int i=>cases e;exact⟨i,by rw[h.int],w _ F H (.refl s) (Al.of (.int _))⟩
  |_=>cases e
def ii (g:Int->Int->D):List D->Option D
 |[.int i,.int j]=>some (g i j)
 |_=>none
theorem zvl {g:Int->Int->D}{gv:Int->Int->V}(hg:∀i j F,Dt K ct F (g i j) (gv i j)):vF K ct [n,m] k (λxs H Q=>∃i j,xs=[.int i,.int j]/\Q (gv i j) H) (ii g):=by
 intro F H vs ds d Q s l e w
 cases l with
 |cons h t=>
  cases t with
  |cons h' t=>
   cases t
   rename_i d1 v d2 v2
   cases d1 with
   |int i=>
    cases d2 with
    |int j=>cases e;exact⟨i,j,by rw[h.int,h'.int],w _ F H (.refl s) (Al.of (hg i j F))⟩
    |_=>cases e
   |_=>cases e
def uE:List D->Option D:=ii λi j=>.int (if j > i then j else i)
def G9:List D->Option D:=ii λi j=>.int (if j<i then j else i)
theorem zpf:vF K ct [n,m] k (λxs H Q=>∃i j,xs=[.int i,.int j]/\Q (.int (if j > i then j else i)) H) uE:=zvl λ_ _ _=>.int _
def rf (i:Nat)(o:D->D->Option D)(f:EF):SF:=λρ=>(eV i ρ).bind λx=>(f ρ).bind λy=>(o x y).bind λd=>some (.nx (ρ.set i (some d)))
theorem Px {op:jU}{i:Nat}{x:aU}{pos':dh}{gi:Int->Int->Int}(ho:B1 X op (JI gi))(hm:ms[i]?=some (.ow k))(hN:X.N.Nodup)(hi:X.N[i]?=some x)(hx:Loc X.env.scope x)(he:XE X ct ms n e f)(hf:X.fn x=true\/X.env.scope.names.lookup x=some .local:=by first|exact .inl rfl|exact .inr rfl|assumption) :
  XS X ct ms rk (.AugAssign (.Name x pos') op e pos) (rf i (i2 λi j=>.int (gi i j)) f):=by
 obtain⟨t,pt,qt⟩:=he
 refine⟨_,zus hN hi hx pt ho hf,λF0 B F H ρ σ o E rs e z=>?_⟩
 obtain⟨d1,d2,h1,h2,h3⟩:=dP e
 obtain⟨d,h4,h5⟩:=aV h3
 cases h5
 obtain⟨v,hv,l⟩:=rs.get hm (yg h1)
 refine⟨v,hv,qt F0 B F H ρ σ d2 _ rs h2 λy F' H' x1 l2=>?_⟩
 cases d1 with
 |int i'=>
  cases d2 with
  |int j'=>
   cases h4
   exact⟨i',j',l.int,l2.int,z _ F' H' (rs.set hm x1 (Ow.scal (.int _) rfl) bP λa z=>(by cases z))⟩
  |_=>cases h4
 |_=>cases h4
def sPar (i j:Nat)(fs:Env->Option (List D)):SF:=λρ=>(fs ρ).bind λds=>match ds with
 |[x,y]=>some (.nx ((ρ.set i (some x)).set j (some y)))
 |_=>none
def sAsg (g:D->Env->Option Env)(f:EF):SF:=λρ=>(f ρ).bind λd=>(g d ρ).bind λρ'=>some (.nx ρ')
theorem Vc {gg:D->Env->Option Env}(he:XE X ct ms 0 e f)(hg:XG X ct ms 0 tg gg)(hs:mC [tg] e pos.line X.env=pure false:=by rfl)(hw:mB [tg] e X.env=pure none:=by rfl)
  (h1:(dc [tg] X.env).map (·.2)=[ie tg X.env]:=by rfl):XS X ct ms rk (.Assign [tg] e pos) (sAsg gg f):=by
 obtain⟨t,pt,qt⟩:=he
 obtain⟨t2,qY,qZ⟩:=hg
 refine⟨_,Pq pt qY hs hw h1,λF0 B F H ρ σ o E rs e z=>?_⟩
 obtain⟨d,h1,h2⟩:=aV e
 obtain⟨ρ',h3,h4⟩:=aV h2
 cases h4
 exact qt F0 B F H ρ σ d _ rs h1 λv F' H' x l=>qZ F0 B F' H' ρ ρ' σ d v _ (rs.ext x) l h3 λσ' r=>z σ' F' H' r
end
end L3
namespace L3
open PySem PySem.Spec L2
open PyProof.Rows hiding St
def iF:List Nat->List Mo->Bool
 |[],_=>true
 |n::ns,.al m::ms=>decide (n=m)&&iF ns ms
 |n::ns,.ow m::ms=>decide (n=0)&&decide (m=0)&&iF ns ms
 |_,_=>false
theorem qk:∀{pm:List Nat} {ms:List Mo},iF pm ms=true->∀(i n:Nat),pm[i]?=some n->ms[i]?=some (Mo.al n)\/(n=0/\ms[i]?=some (Mo.ow 0))
 |[],_,_,i,n,e=>by simp at e
 |x::ns,.al m::ms,h,i,n,e=>by
  simp only[iF,bS,decide_eq_true_eq]at h
  cases i with
  |zero=>simp at e;subst e;rw[h.1];exact .inl rfl
  |succ i=>simpa using qk h.2 i n (by simpa using e)
 |x::ns,.ow m::ms,h,i,n,e=>by
  simp only[iF,bS,decide_eq_true_eq]at h
  cases i with
  |zero=>simp at e;subst e;rw[h.1.1,h.1.2];exact .inr ⟨rfl,rfl⟩
  |succ i=>simpa using qk h.2 i n (by simpa using e)
 |_::_,[],h,_,_,_=>by simp[iF]at h
 |_::_,.px _::_,h,_,_,_=>by simp[iF]at h
 |_::_,.so _::_,h,_,_,_=>by simp[iF]at h
def yC (X:Cx)(scope:gx)(N:List aU)(own:Nat)(cap:List Nat):Bool :=
 decide (scope.kind=.function)&&scope.names.all (λx=>(decide (x.2≠.cell) || decide (scope.names.lookup x.1=some .cell))&&(decide (x.2≠.local) || decide (scope.names.lookup x.1=some .local))&&(decide (x.2≠.free) || (decide (X.env.kindOf x.1=some .cell) || decide (X.env.kindOf x.1=some .free)))) &&
 decide (N.length=own+cap.length)&&(ao cap.length).all λj=>match N[own+j]?,cap[j]? with
  |some x,some i=>decide (X.N[i]?=some x)&&decide (scope.names.lookup x=some .free)
  |_,_=>false
theorem yZ {X:Cx}{scope:gx}{N:List aU}{own:Nat}{cap:List Nat}(h:yC X scope N own cap=true):kK X scope N own cap:=by
 unfold yC at h
 simp only[bS,decide_eq_true_eq,cH,Bool.or_eq_true]at h
 obtain⟨⟨⟨h1,h2⟩,h3⟩,h4⟩:=h
 refine⟨h1,λx hx hl=>((h2 x hx).1.1).elim (λz=>absurd hl z) id,λx hx hl=>((h2 x hx).1.2).elim (λz=>absurd hl z) id,λx hx hf=>((h2 x hx).2).elim (λz=>absurd hf z) id,h3,λj x hj=>?_⟩
 have su:j<cap.length:=by
  have:=(aT.mp hj).1
  omega
 have q:=h4 j (aK.mpr su)
 rw[hj]at q
 have hc:cap[j]?=some cap[j]:=by simp[su]
 rw[hc]at q
 simp only[bS,decide_eq_true_eq]at q
 exact⟨_,hc,q.1,q.2⟩
def JX:D->Option String
 |.non=>some "NoneType"
 |.bl _=>some "bool"
 |.int _=>some "int"
 |.str _=>some "str"
 |.lst _=>some "list"
 |.tup _=>some "tuple"
 |.dK _ _=>some "dict"
 |_=>none
def R4 (K:ae)(H:Hp)(v:V)(t:String):Prop:=kr K H v (.type t)\/(t = "list"/\∃a xs,v=.ref a/\eR K H a xs)
theorem Al.ty {K:ae}{ct:Nat->ah}{F H:Hp}{n:Nat}{d:D}{v:V}{t:String}(s:bR F H)(h:Al K ct F H n d v)(e:JX d=some t):R4 K H v t:=by
 cases d with
 |non=>cases e;rw[h.non];exact .inl .non
 |bl b=>cases e;rw[h.bl];exact .inl (.bl b)
 |int b=>cases e;rw[h.int];exact .inl (.int b)
 |str b=>cases e;rw[h.str];exact .inl (.str b)
 |lst xs=>
  cases e
  obtain⟨a,vs,rfl,ha,_⟩:=h.lst s
  exact .inr ⟨rfl,a,vs,rfl,ha⟩
 |tup xs=>
  cases e
  obtain⟨a,vs,rfl,ha,_⟩:=h.tup s
  exact .inl (.tup ha)
 |dK ks xs=>
  cases e
  obtain⟨a,vs,rfl,ha,_⟩:=h.dK s
  exact .inl (.dK ha)
 |_=>cases e
theorem zm7 {X:Cx}:eP X (.builtin "isinstance") (λxs H Q=>∃x c t b,xs=[x,.ty c]/\R4 X.K H x t/\bV X.K (.type t) (.type c)=some b/\Q (.bl b) H):=by
 intro aj s σ H xs us Q I r h
 obtain⟨x,c,t,b,rfl,ty,e,q⟩:=h
 rcases ty with ty|⟨rfl,a,ys,rfl,hq⟩
 ·exact zpa aj s σ H _ us Q I r ⟨x,c,_,b,rfl,ty,e,q⟩
 ·obtain⟨u,w',rfl,ru,nR⟩:=vals2 r
  cases(show w'=af.type c from nR)
  cases(show u=af.ref a from ru)
  obtain⟨cw,rv,⟨o,n,h1,h2,_⟩,_⟩:=I.list hq
  exact cL kA I.kIn ⟨o,h1,h2⟩ e (λz=>nomatch z) λtk=>⟨.bl b,H,I.tok tk,rfl,q⟩
def Gf (t c:String):Bool:=t==c || (t == "bool" && c == "int")
theorem zsv {K:ae}:∀t∈(["NoneType","bool","int","str","list","tuple","dict"]:List String),∀c∈(["bool","int","str","list","tuple","dict"]:List String),bV K (.type t) (.type c)=some (Gf t c):=by
 intro t ht c hc
 simp only[aA,cI,or_false]at ht hc
 rcases ht with rfl|rfl|rfl|rfl|rfl|rfl|rfl<;>rcases hc with rfl|rfl|rfl|rfl|rfl|rfl<;>rfl
theorem zsw {d:D}{t:String}(e:JX d=some t):t∈(["NoneType","bool","int","str","list","tuple","dict"]:List String):=by
 cases d<;>simp[JX]at e<;>subst e<;>decide
section
variable {X:Cx}{ct:Nat->ah}{ms:List Mo}{rk n m k:Nat}{a b c e tg:Expr}{f g h:EF}{pos:dh}
def qV (c:String)(d:D):Option D:=(JX d).bind λt=>some (.bl (Gf t c))
theorem KZ {c:String}{pp p2:dh}(hc:c∈(["bool","int","str","list","tuple","dict"]:List String))(hm:X.mg "isinstance"=none)(jK:X.mg c=none)(hb:bW c=some (.type c))(he:XE X ct ms n e f)(hg:Gl X "isinstance":=by rfl)(o6:Gl X c:=by rfl)(t7:aU.ofString c≠"__name__":=by decide)(hd2:(aU.ofString c==("__debug__":aU))=false:=by decide)
  (FR:ar [e,.Name c p2] X.env=(false,bG e X.env)::ar [.Name c p2] X.env:=by rfl) (ml:ar [.Name c p2] X.env=(false,bG (.Name c p2) X.env)::ar [] X.env:=by rfl) (iL:(cE pos (ar [.Name c p2] X.env)).any (·.1)=false:=by rfl) :
  XE X ct ms k (.Call (.Name "isinstance" pp) [e,.Name c p2] [] pos) (e1 (qV c) f):=by
 obtain⟨t,pt,qt⟩:=he
 refine⟨_,Kk zm7 hg hm So (ub pt (ub (zrq (v:=.ty c) o6 jK hb rfl t7 hd2) uQ ml) FR) (by decide) (by decide) FR iL,λF0 B F H ρ σ d Q rs e w=>?_⟩
 obtain⟨d1,h1,h2⟩:=aV e
 obtain⟨ty,h3,h4⟩:=aV h2
 cases h4
 exact qt F0 B F H ρ σ d1 _ rs h1 λv F' H' x l=>⟨v,c,ty,_,rfl,l.ty x.fh h3,zsv _ (zsw h3) _ hc,w _ F' H' x (Al.of (.bl _))⟩
end
end L3
namespace L3
open PySem PySem.Spec L2
open PyProof.Rows hiding St
def ou (K:ae):Sp:=λvs H Q _=>∃(a:ah) (ns:List Int),vs=[.ref a]/\eR K H a (ns.map V.int)/\ns.length<=63/\∀H',Q (.bl true) H'
theorem Dts.ints {K:ae}{ct:Nat->ah}{F:Hp}:∀ns:List Int,Dts K ct F (ns.map D.int) (ns.map V.int)
 |[]=>.nil
 |n::ns=>.cons (.int n) (Dts.ints ns)
theorem zvm {P:bz}{w:ce}{K:ae}{mg:aU->Option af}{base:aZ}{k:Nat}{f:ah}{fd:aI}{ps:List aU}{ct:Nat->ah}{m:List D->Option D}(Fn:cB P w K mg base eF k f fd ps (fU K ct [0] 0 m))
  (h:∀ns:List Int,ns.length<=63->m [.lst (ns.map .int)]=some (.bl true)):cB P w K mg base eF k f fd ps (ou K):=by
 have to:∀vs H Q E,ou K vs H Q E->fU K ct [0] 0 m vs H Q E:=by
  rintro vs H Q E ⟨a,ns,rfl,hS,hl,q⟩
  refine⟨H,[.lst (ns.map .int)],.bl true,.refl _,.cons (Dt.lst hS (Dts.ints ns)) .nil,h ns hl,λv F' H' fp x o nd hf=>?_⟩
  have hv:v=.bl true:=by
   have o:Dt K ct F' (.bl true) v/\fp=[]:=o
   cases o.1
   rfl
  subst hv
  exact q H'
 exact⟨λvs H Q E z=>Fn.len vs H Q E (to vs H Q E z),λA outer s H args us vs Q E hr e0 hb hv z=>Fn.run A outer s H args us vs Q E hr e0 hb hv (to vs H Q E z)⟩
theorem Tp {g:D->Env->Option Env}{b:SF}(I:List D->Env->Prop)(all:List D)(st:∀pre d post ρ,all=pre++d::post->I pre ρ->∃ρ1 ρ2,g d ρ=some ρ1/\(b ρ1=some (.nx ρ2)\/b ρ1=some (.ct ρ2))/\I (pre++[d]) ρ2):∀(ds pre:List D) (ρ:Env),all=pre++ds->I pre ρ ->
  ∃ρ',eG g b ds ρ=some (.nx ρ')/\I all ρ'
 |[],pre,ρ,e,h=>⟨ρ,rfl,by rw[e,cu];exact h⟩
 |d::ds,pre,ρ,e,h=>by
  obtain⟨ρ1,ρ2,h1,h2,h3⟩:=st pre d ds ρ e h
  obtain⟨ρ',h4,h5⟩:=Tp I all st ds (pre++[d]) ρ2 (by rw[e];simp) h3
  refine⟨ρ',?_,h5⟩
  show(g d ρ).bind _=_
  rw[h1]
  show(b ρ1).bind _=_
  rcases h2 with h2|h2<;>(rw[h2];exact h4)
theorem Ko {g:D->Env->Option Env}{b:SF}(I:List D->Env->Prop){ds:List D}{ρ:Env}(h:I [] ρ)(st:∀pre d post ρ,ds=pre++d::post->I pre ρ->∃ρ1 ρ2,g d ρ=some ρ1/\(b ρ1=some (.nx ρ2)\/b ρ1=some (.ct ρ2))/\I (pre++[d]) ρ2) :
  ∃ρ',eG g b ds ρ=some (.nx ρ')/\I ds ρ':=Tp I ds st ds [] ρ rfl h
theorem Vd {α:Type}{all pre post:List α}{d:α}(h:all=pre++d::post):all[pre.length]?=some d:=by subst h;simp
theorem Ox {α S:Type}{g:D->Env->Option Env}{b:SF}(enc:α->D)(st:S->Env)(f:S->α->S)(P:S->Prop):∀(xs:List α) (s:S),P s ->
  (∀s x,x∈xs->P s->∃ρ1,g (enc x) (st s)=some ρ1/\(b ρ1=some (.nx (st (f s x)))\/b ρ1=some (.ct (st (f s x))))/\P (f s x))->eG g b (xs.map enc) (st s)=some (.nx (st (xs.foldl f s)))/\P (xs.foldl f s)
 |[],s,hp,_=>⟨rfl,hp⟩
 |x::xs,s,hp,h=>by
  obtain⟨ρ1,h1,h2,h3⟩:=h s x aa hp
  have ih:=Ox enc st f P xs (f s x) h3 λs y hy=>h s y (ai _ hy)
  refine⟨?_,ih.2⟩
  show(g (enc x) (st s)).bind _=_
  rw[h1]
  show(b ρ1).bind _=_
  rcases h2 with h2|h2<;>(rw[h2];exact ih.1)
theorem Tq {g:D->Env->Option Env}{b:SF}(I:Nat->Env->Prop)(lo:Int):∀(n k:Nat) (ρ:Env),I k ρ ->
  (∀j ρ,k<=j->j<k+n->I j ρ->∃ρ1 ρ2,g (.int (lo+(j:Int))) ρ=some ρ1/\(b ρ1=some (.nx ρ2)\/b ρ1=some (.ct ρ2))/\I (j+1) ρ2) ->
  ∃ρ',eG g b ((iJ k n).map λ(t:Nat)=>D.int (lo+(t:Int))) ρ=some (.nx ρ')/\I (k+n) ρ'
 |0,k,ρ,h,_=>⟨ρ,rfl,h⟩
 |n+1,k,ρ,h,st=>by
  obtain⟨ρ1,ρ2,h1,h2,h3⟩:=st k ρ (aF _) (by omega) h
  obtain⟨ρ',h4,h5⟩:=Tq I lo n (k+1) ρ2 h3 λj ρ hj hl hI=>st j ρ (by omega) (by omega) hI
  refine⟨ρ',?_,by rw[show k+(n+1)=k+1+n by omega];exact h5⟩
  rw[List.range'_succ,aR]
  show(g _ ρ).bind _=_
  rw[h1]
  show(b ρ1).bind _=_
  rcases h2 with h2|h2<;>(rw[h2];exact h4)
theorem SO {g:D->Env->Option Env}{b:SF}(I:Nat->Env->Prop){lo:Int}{n:Nat}{ρ:Env}(h:I 0 ρ)
  (st:∀j ρ,j<n->I j ρ->∃ρ1 ρ2,g (.int (lo+(j:Int))) ρ=some ρ1/\(b ρ1=some (.nx ρ2)\/b ρ1=some (.ct ρ2))/\I (j+1) ρ2):∃ρ',eG g b (fL lo n) ρ=some (.nx ρ')/\I n ρ':=by
 obtain⟨ρ',h1,h2⟩:=Tq (g:=g) (b:=b) I lo n 0 ρ h λj ρ _ hj hI=>st j ρ (by omega) hI
 rw[Nat.zero_add]at h2
 exact⟨ρ',by unfold fL;rw[jY];exact h1,h2⟩
theorem SD {S:Type}{c:BF}{b:SF}(st:S->Env)(t:S->Bool)(f:S->S)(μ:S->Nat)(P:S->Prop)(hc:∀s,P s->c (st s)=some (t s))(hb:∀s,P s->t s=true->(b (st s)=some (.nx (st (f s)))\/b (st s)=some (.ct (st (f s))))/\P (f s)/\μ (f s) < μ s) :
  ∀(n:Nat) (s:S),P s->μ s<n->∃s',iI c b n (st s)=some (.nx (st s'))/\P s'/\t s'=false/\∃j,s'=Nat.repeat f j s
 |0,s,_,h=>absurd h (by omega)
 |n+1,s,hp,h=>by
  cases ht:t s with
  |false=>
   refine⟨s,?_,hp,ht,0,rfl⟩
   show(c (st s)).bind _=_
   rw[hc s hp,ht]
   rfl
  |true=>
   obtain⟨h1,h2,h3⟩:=hb s hp ht
   obtain⟨s',h4,h5,h6,j,h7⟩:=SD st t f μ P hc hb n (f s) h2 (by omega)
   refine⟨s',?_,h5,h6,j+1,?_⟩
   ·show(c (st s)).bind _=_
    rw[hc s hp,ht]
    show(b (st s)).bind _=_
    rcases h1 with h1|h1<;>(rw[h1];exact h4)
   ·rw[h7]
    clear h4 h5 h6 h7
    induction j with
    |zero=>rfl
    |succ j ih=>show f (Nat.repeat f j (f s))=f (Nat.repeat f (j+1) s);rw[ih]
theorem Ka {c:BF}{b:SF}(I:Env->Prop)(μ:Env->Nat)(st:∀ρ,I ρ->∃t,c ρ=some t/\(t=true->∃ρ',(b ρ=some (.nx ρ')\/b ρ=some (.ct ρ'))/\I ρ'/\μ ρ' < μ ρ)) :
  ∀(n:Nat) (ρ:Env),I ρ->μ ρ<n->∃ρ',iI c b n ρ=some (.nx ρ')/\I ρ'/\c ρ'=some false
 |0,_,_,h=>absurd h (by omega)
 |n+1,ρ,hI,h=>by
  obtain⟨t,h1,h2⟩:=st ρ hI
  cases t with
  |false=>exact⟨ρ,by show(c ρ).bind _=_;rw[h1];rfl,hI,h1⟩
  |true=>
   obtain⟨ρ',h3,h4,h5⟩:=h2 rfl
   obtain⟨ρ2,h6,h7,h8⟩:=Ka I μ st n ρ' h4 (by omega)
   refine⟨ρ2,?_,h7,h8⟩
   show(c ρ).bind _=_
   rw[h1]
   show(b ρ).bind _=_
   rcases h3 with h3|h3<;>(rw[h3];exact h6)
theorem Ur {n k:Nat}(h:n<2 ^ k)(hk:k<=9000):n<mE:=bu h (dE (by decide) hk)
theorem IU {n:Nat}(h:n<1048576):n<mE:=Ur (k:=20) h (by decide)
theorem zsx {i j:Int}(h:j≠0):fm (.int i) (.int j)=some (.int (i.fmod j)):=by
 unfold fm
 by_cases h0:0<j
 ·simp[h0,nS i (by omega:0<=j)]
 ·simp[h0,h]
theorem TR {i j:Int}(h:j≠0)(hz:Sz 9000 j):ga (.int i) (.int j)=some (.int (i.fdiv j)):=by
 unfold ga
 by_cases h0:0<j/\j<4611686018427387904
 ·simp[h0,iA i (by omega:0<=j)]
 ·have hz:j.natAbs<K8:=hz
  simp[h0,h,hz]
theorem zeg {i j:Int}(h1:0<j)(h2:j<4611686018427387904):ga (.int i) (.int j)=some (.int (i/j)):=by unfold ga;simp[h1,h2]
theorem zbq {i j:Int}(h:0<j):fm (.int i) (.int j)=some (.int (i%j)):=by unfold fm;simp[h]
theorem zfg {i j:Int}(h1:-18446744073709551616<j)(h2:j<18446744073709551616):eA (.int i) (.int j)=some (.int (i*j)):=by simp[eA,tf,kR,h1,h2]
theorem zcg {i j:Int}(h1:-18446744073709551616<i)(h2:i<18446744073709551616):eA (.int i) (.int j)=some (.int (i*j)):=by simp[eA,tf,kR,h1,h2]
theorem zpg {i j:Int}(h1:0<=j)(h2:j<=1000000)(h3:i.natAbs<18446744073709551616):uJ (.int i) (.int j)=some (.int (i ^ j.toNat)):=by simp[uJ,tf,oo,h1,h2,h3]
theorem zph {i j:Int}(h1:0<=j)(h2:j<=1000000)(h3:i.natAbs<18446744073709551616):xC (.int i) (.int j)=some (.int (i*2 ^ j.toNat)):=by simp[xC,tf,oo,h1,h2,h3]
theorem zkd {i j:Int}(h1:0<=j):sD (.int i) (.int j)=some (.int (i/2 ^ j.toNat)):=by simp[sD,tf,h1]
theorem zpi (i j:Int):dS (.int i) (.int j)=some (.int (i+j)):=rfl
theorem OU {xs ys:List D}(h:xs.length+ys.length<=16777216):dS (.lst xs) (.lst ys)=some (.lst (xs++ys)):=by simp[dS,h]
theorem zpj {x y:aU}(h:x.length+y.length<=16777216):dS (.str x) (.str y)=some (.str (x++y)):=by simp[dS,h]
theorem zpk (i j:Int):kd (.int i) (.int j)=some (.int (i-j)):=rfl
theorem zsy (i j:Int):pK (.int i) (.int j)=some (.bl (decide (i<j))):=rfl
theorem zsz (i j:Int):wV (.int i) (.int j)=some (.bl (decide (i<=j))):=rfl
theorem zi5 (i j:Int):rJ (.int i) (.int j)=some (.bl (decide (j<i))):=rfl
theorem zs0 (i j:Int):AL (.int i) (.int j)=some (.bl (decide (j<=i))):=rfl
theorem zpl (i:Int):qX (.int i)=some (.int (-i)):=rfl
theorem jm (ds:List D):dL [.lst ds]=some (.int ds.length):=rfl
theorem zpm (ds:List D):dL [.tup ds]=some (.int ds.length):=rfl
theorem zpn (i:Int):zI [.int i]=some (.int (if i<0 then -i else i)):=rfl
theorem zm9 (i j:Int):uE [.int i,.int j]=some (.int (if j > i then j else i)):=rfl
theorem zna (i j:Int):G9 [.int i,.int j]=some (.int (if j<i then j else i)):=rfl
theorem zs1 (neg:Bool)(d:D):o7 neg d .non=some (.bl (if neg then !d.isN else d.isN)):=by cases d<;>rfl
theorem zvn (neg b:Bool)(d:D):o7 neg d (.bl b)=some (.bl (if neg then !d.isB b else d.isB b)):=by cases d<;>rfl
theorem zvo (b:Bool):Jh (.bl b)=some b:=rfl
theorem zs2 (ds:List D):Ji (.lst ds)=some ds:=rfl
theorem zbr (ds:List D)(l h:Option Int):jT (.lst ds) l h=some (.lst (cutD ds l h)):=rfl
theorem BM {j:Int}(h1:-4611686018427387904<=j)(h2:j<4611686018427387904):hV [.int j]=some (fL 0 j.toNat):=by simp[hV,h1,h2]
theorem Kq {i j:Int}(h1:-4611686018427387904<=i)(h2:i<4611686018427387904)(h3:-4611686018427387904<=j)(h4:j<4611686018427387904):nQ [.int i,.int j]=some (fL i (j-i).toNat):=by simp[nQ,h1,h2,h3,h4]
theorem zs3 {α:Type}(enc:α->D){xs:List α}{i:Int}{j:Nat}{x:α}(hi:i=(j:Int)\/i=(j:Int)-xs.length)(h:xs[j]?=some x):atI (xs.map enc) i=some (enc x):=by
 have hj:=(aT.mp h).1
 unfold L2.atI L2.ixN
 rw[aB]
 rcases hi with rfl|rfl
 ·rw[if_pos (by omega),if_pos (by omega)]
  simp[h]
 ·rw[if_neg (by omega),if_pos (by omega)]
  have:((j:Int)-(xs.length:Int)+(xs.length:Int)).toNat=j:=by omega
  simp[this,h]
theorem znb (xs:List D)(k:Nat):cutD xs none (some (k:Int))=xs.take k:=by
 unfold cutD
 rw[HT.sIx_none,HT.sIx_nat,lV,List.drop_zero]
 rcases Nat.le_total k xs.length with h|h
 ·rw[nq h]
 ·rw[vC h,gd (aF _),gd h]
theorem Tr (xs:List D)(k:Nat):cutD xs (some (k:Int)) none=xs.drop k:=by
 unfold cutD
 rw[HT.sIx_none,HT.sIx_nat]
 rcases Nat.le_total k xs.length with h|h
 ·rw[nq h,gd (by rw[iW];omega)]
 ·rw[vC h,pq (aF _),pq h]
  simp
theorem zpo {i j:Int}{n m:Nat}(h:Sz n i)(h':Sz m j)(hn:n<=100000)(hm:m<=100000):kR i j:=.inr (.inr ⟨h.mono hn,h'.mono hm⟩)
theorem CC {i j:Int}{n m:Nat}(h:Sz n i)(h':Sz m j)(hn:n<=100000)(hm:m<=100000):eA (.int i) (.int j)=some (.int (i*j)):=by
 have:=zpo h h' hn hm
 simp[eA,tf,this]
theorem S5 {α:Type}{g:D->Env->Option Env}{p:BF}{f:EF}{ρ0:Env}(enc:α->D)(q:α->Bool)(h:α->D):∀(xs:List α),(∀x∈xs,∃ρ1,g (enc x) ρ0=some ρ1/\p ρ1=some (q x)/\(q x=true->f ρ1=some (h x)))->nZ g p f ρ0 (xs.map enc)=some ((xs.filter q).map h)
 |[],_=>rfl
 |x::xs,H=>by
  obtain⟨ρ1,h1,h2,h3⟩:=H x aa
  have ih:=S5 enc q h xs λy hy=>H y (ai _ hy)
  show(g (enc x) ρ0).bind _=_
  rw[h1]
  show(p ρ1).bind _=_
  rw[h2]
  cases hq:q x with
  |false=>
   rw[bL,if_neg aW,oU (by rw[hq];exact aW)]
   exact ih
  |true=>
   rw[bL,if_pos rfl,h3 hq,oV hq]
   show(nZ g p f ρ0 (xs.map enc)).bind _=_
   rw[ih]
   rfl
end L3
namespace L3
open PySem PySem.Spec L2
structure nG (α:Type)[DecidableEq α] where
 enc:α->D
 py:α->cN
 dep:Nat
 is:∀x,(enc x).py=some (py x)
 lay:∀x,(py x).canLay0=true
 dp:∀x,(py x).depth<=dep
 eqv:∀x y,cN.eqv (py x) (py y)=decide (x=y)
section
variable {α β γ δ ε:Type}[DecidableEq α][DecidableEq β][DecidableEq γ][DecidableEq δ][DecidableEq ε]
theorem nG.eq (E:nG α)(h:E.dep<=60){neg:Bool}(x y:α):i6 neg (E.enc x) (E.enc y)=some (.bl (if neg then !decide (x=y)else decide (x=y))):=by
 have h1:oP (E.py x)=true:=by unfold oP;rw[E.lay x,decide_eq_true (cD (E.dp x) h)];rfl
 have h2:oP (E.py y)=true:=by unfold oP;rw[E.lay y,decide_eq_true (cD (E.dp y) h)];rfl
 unfold i6
 rw[E.is x,E.is y]
 simp only[bL]
 rw[if_pos ⟨h1,h2⟩,E.eqv]
def Ei:nG Int:=⟨.int,.int,0,λ_=>by simp[D.py],λ_=>rfl,λ_=>by simp[cN.depth],λx y=>by show(x==y)=_;by_cases h:x=y<;>simp[h]⟩
def Eb:nG Bool:=⟨.bl,.bool,0,λ_=>by simp[D.py],λ_=>rfl,λ_=>by simp[cN.depth],λx y=>by cases x<;>cases y<;>rfl⟩
def gN:Option Int->D
 |none=>.non
 |some i=>.int i
theorem UD (E:nG α):∀xs:List α,D.pys (xs.map E.enc)=some (xs.map E.py)
 |[]=>by simp[D.pys]
 |x::xs=>by simp[D.pys,E.is x,UD E xs]
theorem SQ (E:nG α):∀xs:List α,cN.canLayAll0 (xs.map E.py)=true
 |[]=>by simp[cN.canLayAll0]
 |x::xs=>by simp[cN.canLayAll0,E.lay x,SQ E xs]
theorem SR (E:nG α):∀xs:List α,cN.depthAll (xs.map E.py)<=E.dep
 |[]=>by simp[cN.depthAll]
 |x::xs=>by
  have:=SR E xs
  have:=E.dp x
  simp only[aR,cN.depthAll]
  omega
theorem SS (E:nG α):∀xs ys:List α,cN.eqvAll (xs.map E.py) (ys.map E.py)=decide (xs=ys)
 |[],[]=>by simp[cN.eqvAll]
 |[],_::_=>by simp[cN.eqvAll]
 |_::_,[]=>by simp[cN.eqvAll]
 |x::xs,y::ys=>by
  simp only[aR,cN.eqvAll,E.eqv,SS E xs ys]
  by_cases h:x=y<;>by_cases g:xs=ys<;>simp[h,g]
def El (E:nG α):nG (List α):=⟨λxs=>.lst (xs.map E.enc),λxs=>.list (xs.map E.py),E.dep+1,λxs=>by simp[D.py,UD],λxs=>by simp[cN.canLay0,SQ],λxs=>by have:=SR E xs;simp only[cN.depth];omega,λxs ys=>by simp only[cN.eqv,SS]⟩
end
theorem zeh {neg:Bool}(a b:Int):i6 neg (.int a) (.int b)=some (.bl (if neg then !decide (a=b)else decide (a=b))):=Ei.eq (by decide) a b
theorem zvp {neg:Bool}(a b:Bool):i6 neg (.bl a) (.bl b)=some (.bl (if neg then !decide (a=b)else decide (a=b))):=Eb.eq (by decide) a b
end L3
namespace L3
open PySem PySem.Spec L2
open PyProof.Rows hiding St
section
variable {X:Cx}{ct:Nat->ah}{K:ae}{n m k:Nat}
theorem IntsAre.of {ns:List Int}{us:List af}(h:bZ (ns.map V.int) us):IntsAre us ns:=zk8 h
theorem Oy (hc:X.calm=true):eP X (.builtin "sum") (λxs H Q=>∃(a:ah) (ns:List Int),xs=[.ref a]/\eR X.K H a (ns.map V.int)/\Q (.int ns.sum) H):=by
 intro aj s σ H xs us Q I r h
 obtain⟨a,ns,rfl,hq,q⟩:=h
 obtain⟨u,rfl,ru⟩:=r.one
 cases(show u=af.ref a from ru)
 obtain⟨cw,rv,pl,hz⟩:=I.list hq
 have hi:=IntsAre.of rv
 obtain⟨ys,hx⟩:=hi.allInts.items
 have Ce:s.heap.IsList a (intItems ys):=hx▸pl.isList
 refine sum_intListG (I.ok.hd hc) Ce λh' tk t' hk=>?_
 have e1:ns=ys.toList.map (·.1):=by
  rw[←nums_intItems,←hx]
  exact(show numsOf cw.toArray.toList=ns from hi.numsOf).symm
 have e2:preSum (numAt ys) ys.size=ns.sum:=by
  rw[preSum_eq,gd (by simp),e1]
 rw[e2]
 exact⟨.int ns.sum,H,I.kept (t':=tk) hk,⟨_,rfl⟩,q⟩
theorem S6 (hc:X.calm=true):eP X (.builtin "max") (λxs H Q=>∃(a:ah) (ns:List Int),xs=[.ref a]/\eR X.K H a (ns.map V.int)/\ns≠[]/\∀M,M∈ns->(∀z∈ns,z<=M)->Q (.int M) H):=by
 intro aj s σ H xs us Q I r h
 obtain⟨a,ns,rfl,hq,mN,q⟩:=h
 obtain⟨u,rfl,ru⟩:=r.one
 cases(show u=af.ref a from ru)
 obtain⟨cw,rv,pl,hz⟩:=I.list hq
 have hi:=IntsAre.of rv
 obtain⟨ys,e⟩:=hi.allInts.items
 have jL:ns=ys.toList.map (·.1):=by rw[←hi.numsOf,←nums_intItems,←e]
 have hsz:0<ys.size:=by
  have h3:0<ns.length:=rz.mpr mN
  rw[jL,aB,dM]at h3;exact h3
 have Ce:s.heap.IsList a (intItems ys):=e▸pl.isList
 refine max_intList (I.ok.hd hc) Ce hsz λv h' tk hv hk=>?_
 obtain⟨t,rfl⟩:=intItems_at hv
 obtain⟨h1,h2⟩:=argBest_gt (numAt ys) (ys.size-1)
 refine⟨.int (numAt ys (argBest (λi j=>decide (numAt ys i > numAt ys j)) (ys.size-1))),H,I.kept (t':=tk) hk,⟨_,rfl⟩,q _ ?_ λz hz=>?_⟩
 ·rw[jL,numAt_eq];exact getD_mem (by rw[aB,dM];omega)
 ·rw[jL]at hz
  obtain⟨j,hj,rfl⟩:=mem_getD hz
  rw[aB,dM]at hj
  rw[←numAt_eq];exact h2 j (by omega)
theorem S7:∀{bs:List Bool} {us:List af},bZ (bs.map V.bl) us->us=bs.map af.bool
 |[],_,.nil=>rfl
 |b::bs,_,.cons r t=>by rw[S7 t];cases(show _=af.bool b from r);rfl
theorem Oz (hc:X.calm=true):eP X (.builtin "all") (λxs H Q=>∃(a:ah) (bs:List Bool),xs=[.ref a]/\eR X.K H a (bs.map V.bl)/\Q (.bl (bs.all id)) H):=by
 intro aj s σ H xs us Q I r h
 obtain⟨a,bs,rfl,hq,q⟩:=h
 obtain⟨u,rfl,ru⟩:=r.one
 cases(show u=af.ref a from ru)
 obtain⟨cw,rv,pl,hz⟩:=I.list hq
 have hb:=S7 rv
 subst hb
 have hl:=pl.isList
 have iU:a<s.heap.objs.size:=by obtain⟨_,e,_⟩:=hl;exact aM e
 refine PySem.call_all_walk (wpAny_pyIter_list hl ?_)
 refine⟨s.heap.objs.size,[s.heap.objs.size,a],[s.heap.objs.size],(bs.map af.bool).toArray.size,_,_,λi=>(bs[i]?).getD true,rfl,Walks.list (A:=X.A.in1) (I.ok.hd hc) _ a (br iU) (bs.map af.bool).toArray,
  ⟨⟨_,bF _ rfl,rfl,rfl⟩,hl.push _⟩,λi v s' Q' E' hP hQ=>?_,λh' tk hk=>?_⟩
 ·have hP:(bs.map af.bool)[i]?=some v:=by simpa using hP
  rw[bp]at hP
  obtain⟨b,hb,rfl⟩:=dg.mp hP
  simp only[hb,Option.getD_some]at hQ
  exact fE hQ
 ·have e:((ao (bs.map af.bool).toArray.size).all λi=>(bs[i]?).getD true)=bs.all id:=by
   rw[aQ,aB];exact PyProof.Rows.LSm.range_all bs
  rw[e]
  refine⟨.bl (bs.all id),H,I.kept (t':=tk) λb o MR=>hk b o (λhm=>?_) (aH _ MR),rfl,q⟩
  rw[az.mp hm]at MR
  exact ez _ (aM MR)
theorem zh3:eP X (.builtin "sorted") (λxs H Q=>∃(a:ah) (ns:List Int),xs=[.ref a]/\eR X.K H a (ns.map V.int)/\ns.length<64/\∀o9:List Int,o9.Perm ns->o9.Pairwise (·<=·)->∀p,H p=none->Q (.ref p) (upd H p (.lst (o9.map V.int)))):=by
 intro aj s σ H xs us Q I r h
 obtain⟨a,ns,rfl,hq,h64,q⟩:=h
 obtain⟨u,rfl,ru⟩:=r.one
 cases(show u=af.ref a from ru)
 obtain⟨cw,rv,pl,hz⟩:=I.list hq
 have hi:=IntsAre.of rv
 have eo:cw.length=ns.length:=by rw[←rv.length,aB]
 refine sorted_ints pl.isList hi (by omega) λout o9 a1 a2 a3=>?_
 obtain⟨e,he⟩:=sortedAll_at s.heap cw out
 have qU:o9.length<=sizeLine:=by
  rw[a2.length_eq,←aB (f:=V.int)];exact hz
 refine⟨.ref _,_,I.laid (a:=s.heap.objs.size+1) (o:=.lst (o9.map V.int)) (t':=s.toks) (λb u=>sortedAll_old) (iN _) ?_,rfl,q o9 a2 a3 _ (I.hok.fresh (iN _))⟩
 exact⟨by rw[aB];exact qU,out.toList,e,Oo a1,by simpa[seqObj]using he⟩
def eL:List D->Option (List Int)
 |[]=>some []
 |.int i::ds=>(eL ds).bind λns=>some (i::ns)
 |_=>none
theorem SU:∀{ds:List D} {ns:List Int},eL ds=some ns->ds=ns.map .int
 |[],_,e=>by cases e;rfl
 |d::ds,ns,e=>by
  cases d with
  |int i=>
   obtain⟨ms,h1,h2⟩:=aV (show(eL ds).bind _=_ from e)
   cases h2
   rw[SU h1];rfl
  |_=>cases e
theorem OA:∀ns:List Int,eL (ns.map .int)=some ns
 |[]=>rfl
 |n::ns=>by show(eL (ns.map .int)).bind _=_;rw[OA ns];rfl
theorem Pr.intV {F G:Hp}:∀{ns:List Int} {vs:List V},Pr (Al K ct F G n) (ns.map .int) vs->vs=ns.map V.int
 |[],_,.nil=>rfl
 |i::ns,_,.cons h t=>by rw[Pr.intV t,h.int];rfl
def jO:List D->Option (List Bool)
 |[]=>some []
 |.bl i::ds=>(jO ds).bind λns=>some (i::ns)
 |_=>none
theorem SE:∀{ds:List D} {ns:List Bool},jO ds=some ns->ds=ns.map .bl
 |[],_,e=>by cases e;rfl
 |d::ds,ns,e=>by
  cases d with
  |bl i=>
   obtain⟨ms,h1,h2⟩:=aV (show(jO ds).bind _=_ from e)
   cases h2
   rw[SE h1];rfl
  |_=>cases e
theorem Pr.blV {F G:Hp}:∀{ns:List Bool} {vs:List V},Pr (Al K ct F G n) (ns.map .bl) vs->vs=ns.map V.bl
 |[],_,.nil=>rfl
 |i::ns,_,.cons h t=>by rw[Pr.blV t,h.bl];rfl
def G8:List Int->Option Int
 |[]=>none
 |x::xs=>some (xs.foldl max x)
theorem S8:∀(xs:List Int) (x:Int),(xs.foldl max x=x\/xs.foldl max x∈xs)/\x<=xs.foldl max x/\∀z∈xs,z<=xs.foldl max x
 |[],x=>⟨.inl rfl,cZ _,λz h=>by cases h⟩
 |y::xs,x=>by
  obtain⟨h1,h2,h3⟩:=S8 xs (max x y)
  refine⟨?_,by show x<=xs.foldl max (max x y);omega,λz hz=>?_⟩
  ·rcases h1 with h1|h1
   ·show xs.foldl max (max x y)=x\/xs.foldl max (max x y)∈y::xs
    rw[h1]
    rcases Int.le_total x y with h|h
    ·rw[Int.max_eq_right h];exact .inr aa
    ·rw[Int.max_eq_left h];exact .inl rfl
   ·exact .inr (ai _ h1)
  ·rcases aA.mp hz with rfl|hz
   ·show z<=xs.foldl max (max x z);omega
   ·exact h3 z hz
theorem TU {ns:List Int}{M:Int}(h:G8 ns=some M):M∈ns/\∀z∈ns,z<=M:=by
 cases ns with
 |nil=>cases h
 |cons x xs=>
  cases h
  obtain⟨h1,h2,h3⟩:=S8 xs x
  refine⟨?_,λz hz=>?_⟩
  ·rcases h1 with h1|h1
   ·rw[h1];exact aa
   ·exact ai _ h1
  ·rcases aA.mp hz with rfl|hz
   ·exact h2
   ·exact h3 z hz
def uL:List D->Option D
 |[.lst ds]=>(eL ds).bind λns=>some (.int ns.sum)
 |_=>none
def pL:List D->Option D
 |[.lst ds]=>(eL ds).bind λns=>(G8 ns).bind λM=>some (.int M)
 |_=>none
def tS:List D->Option D
 |[.lst ds]=>(jO ds).bind λbs=>some (.bl (bs.all id))
 |_=>none
def insI (x:Int):List Int->List Int
 |[]=>[x]
 |y::ys=>if x<=y then x::y::ys else y::insI x ys
def mm:List Int->List Int
 |[]=>[]
 |x::xs=>insI x (mm xs)
theorem OB (x:Int):∀ys,(insI x ys).Perm (x::ys)
 |[]=>.refl _
 |y::ys=>by
  unfold insI
  by_cases h:x<=y
  ·rw[if_pos h]
  ·rw[if_neg h]
   exact((OB x ys).cons y).trans (.swap x y ys)
theorem qy:∀xs,(mm xs).Perm xs
 |[]=>.refl _
 |x::xs=>(OB x _).trans ((qy xs).cons x)
theorem SG (x:Int):∀{ys:List Int},ys.Pairwise (·<=·)->(insI x ys).Pairwise (·<=·)
 |[],_=>List.pairwise_singleton _ _
 |y::ys,h=>by
  obtain⟨h1,h2⟩:=fR.mp h
  unfold insI
  by_cases hx:x<=y
  ·rw[if_pos hx]
   exact fR.mpr ⟨λz hz=>by
    rcases aA.mp hz with rfl|hz
    ·exact hx
    ·exact pQ hx (h1 z hz),h⟩
  ·rw[if_neg hx]
   refine fR.mpr ⟨λz hz=>?_,SG x h2⟩
   have:=(OB x ys).mem_iff.mp hz
   rcases aA.mp this with rfl|hz
   ·omega
   ·exact h1 z hz
theorem jt:∀xs,(mm xs).Pairwise (·<=·)
 |[]=>fJ.nil
 |x::xs=>SG x (jt xs)
theorem J1:∀{xs ys:List Int},xs.Perm ys->xs.Pairwise (·<=·)->ys.Pairwise (·<=·)->xs=ys
 |[],ys,p,_,_=>(p.nil_eq).symm▸rfl
 |x::xs,[],p,_,_=>absurd p.symm.nil_eq (by simp)
 |x::xs,y::ys,p,hx,hy=>by
  obtain⟨h1,h2⟩:=fR.mp hx
  obtain⟨h3,h4⟩:=fR.mp hy
  have e:x=y:=by
   have a:=p.mem_iff.mp (aa:x∈x::xs)
   have b:=p.mem_iff.mpr (aa:y∈y::ys)
   have a':y<=x:=by
    rcases aA.mp a with rfl|a
    ·exact cZ _
    ·exact h3 x a
   have b':x<=y:=by
    rcases aA.mp b with rfl|b
    ·exact cZ _
    ·exact h1 y b
   omega
  subst e
  rw[J1 ((List.perm_cons x).mp p) h2 h4]
def nh:List D->Option D
 |[.lst ds]=>(eL ds).bind λns=>if ns.length<64 then some (.lst ((mm ns).map .int))else none
 |_=>none
theorem OV {F H:Hp}{vs:List V}{ds:List D}{ns:List Int}(s:bR F H)(l:kh K ct F H [n] [.lst ds] vs)(e:eL ds=some ns):∃a,vs=[.ref a]/\eR K H a (ns.map V.int):=by
 cases l with
 |cons h t=>
  cases t
  obtain⟨a,us,rfl,ha,hp⟩:=h.lst s
  have:=SU e
  subst this
  have:=hp.intV
  subst this
  exact⟨a,rfl,ha⟩
theorem O6:vF K ct [n] k (λxs H Q=>∃(a:ah) (ns:List Int),xs=[.ref a]/\eR K H a (ns.map V.int)/\Q (.int ns.sum) H) uL:=by
 intro F H vs ds d Q s l e w
 match ds,l,e with
 |[.lst xs],l,e=>
  obtain⟨ns,h1,h2⟩:=aV (show(eL xs).bind _=_ from e)
  cases h2
  obtain⟨a,rfl,ha⟩:=OV s l h1
  exact⟨a,ns,rfl,ha,w _ F H (.refl s) (Al.of (.int _))⟩
theorem UE:vF K ct [n] k (λxs H Q=>∃(a:ah) (ns:List Int),xs=[.ref a]/\eR K H a (ns.map V.int)/\ns≠[]/\∀M,M∈ns->(∀z∈ns,z<=M)->Q (.int M) H) pL:=by
 intro F H vs ds d Q s l e w
 match ds,l,e with
 |[.lst xs],l,e=>
  obtain⟨ns,h1,h2⟩:=aV (show(eL xs).bind _=_ from e)
  obtain⟨M,h3,h4⟩:=aV h2
  cases h4
  obtain⟨a,rfl,ha⟩:=OV s l h1
  obtain⟨m1,m2⟩:=TU h3
  refine⟨a,ns,rfl,ha,(λz=>by rw[z]at m1;cases m1),λM' h5 h6=>?_⟩
  have:M'=M:=Int.le_antisymm (m2 M' h5) (h6 M m1)
  subst this
  exact w _ F H (.refl s) (Al.of (.int _))
theorem O7:vF K ct [n] k (λxs H Q=>∃(a:ah) (bs:List Bool),xs=[.ref a]/\eR K H a (bs.map V.bl)/\Q (.bl (bs.all id)) H) tS:=by
 intro F H vs ds d Q s l e w
 match ds,l,e with
 |[.lst xs],l,e=>
  obtain⟨bs,h1,h2⟩:=aV (show(jO xs).bind _=_ from e)
  cases h2
  cases l with
  |cons h t=>
   cases t
   obtain⟨a,us,rfl,ha,hp⟩:=h.lst s
   have:=SE h1
   subst this
   have:=hp.blV
   subst this
   exact⟨a,bs,rfl,ha,w _ F H (.refl s) (Al.of (.bl _))⟩
theorem Pr.ofInts {F H:Hp}:∀ns:List Int,Pr (Al K ct F H 0) (ns.map .int) (ns.map V.int)
 |[]=>.nil
 |n::ns=>.cons (show Dt K ct F (.int n) (.int n)from .int n) (Pr.ofInts ns)
theorem zpp:tQ K ct [n] 1 (λxs H Q=>∃(a:ah) (ns:List Int),xs=[.ref a]/\eR K H a (ns.map V.int)/\ns.length<64/\∀o9:List Int,o9.Perm ns->o9.Pairwise (·<=·)->∀p,H p=none->Q (.ref p) (upd H p (.lst (o9.map V.int)))) nh:=by
 intro F H vs ds d Q s l e w
 match ds,l,e with
 |[.lst xs],l,e=>
  obtain⟨ns,h1,h2⟩:=aV (show(eL xs).bind _=_ from e)
  by_cases hz:ns.length<64
  ·rw[if_pos hz]at h2
   cases h2
   obtain⟨a,rfl,ha⟩:=OV s l h1
   refine⟨a,ns,rfl,ha,hz,λo9 p1 p2=>?_⟩
   have:o9=mm ns:=J1 (p1.trans (qy ns).symm) p2 (jt ns)
   subst this
   exact yX s (Pr.ofInts _) w
  ·rw[if_neg hz]at h2;cases h2
end
end L3
namespace L3
open PySem PySem.Spec L2
open PyProof.Rows hiding St
def mj (H:Hp)(x:ah):Hp:=λb=>if b=x then none else H b
theorem Kr (H:Hp)(x:ah):bR (mj H x) H:=λb o h=>by
 unfold mj at h
 by_cases e:b=x
 ·rw[if_pos e]at h;cases h
 ·rw[if_neg e]at h;exact h
theorem K0 (H:Hp)(x:ah):mj H x x=none:=if_pos rfl
theorem qd {H:Hp}{x b:ah}(h:b≠x):mj H x b=H b:=if_neg h
def tP (K:ae)(ct:Nat->ah)(cs:List Nat)(pm:List Nat)(mi:Nat->List D->Option D):Sp:=λvs H Q _=>∃(F:Hp) (c:Nat) (ds:List D) (d:D) (x dx:ah) (us:List V),c∈cs/\vs=.ref x::us/\H x=some (.ins (ct c) dx [])/\F x=none/\bR F H/\kh K ct F (mj H x) pm ds us/\mi c ds=some d /\
 ∀F' H',bR F F'->bR (mj H x) H'->bR F' H'->(∀a o,mj H x a=some o->F a=none->F' a=none)->F' x=none->Ow K ct F' H' 1 d (.ref x) [x]->Q .non H'
theorem tP.len {K:ae}{ct:Nat->ah}{cs pm:List Nat}{mi:Nat->List D->Option D}{ps:List aU}(h:pm.length+1=ps.length):∀vs H Q E,tP K ct cs pm mi vs H Q E->vs.length=ps.length:=by
 rintro vs H Q E ⟨F,c,ds,d,x,dx,us,_,rfl,_,_,_,l,_⟩
 rw[aO,l.length,h]
def Bj (N:List aU)(b:SF)(c:Nat)(ds:List D):Option D:=(b (some (.obj c [] [])::startD N.tail ds)).bind λo=>match o with
 |.nx ρ=>(ρ[0]?).join
 |_=>none
section
variable {X:Cx}{ct:Nat->ah}{ms:List Mo}{rk n m k:Nat}{a b c e tg:Expr}{f g h:EF}{u w:SF}{pos:dh}
theorem IK {P:bz}{w:ce}{K:ae}{mg:aU->Option af}{base:aZ}{x qual:aU}{st:bO}{fa:ah}{fd:aI}{N0:aU}{N ps:List aU}{kk:Nat}{cs pm:List Nat}{bf:SF}(Fn:Fun2 K x qual st fa fd)(S:bn (N0::N) ps (aL st))(Bc:pm.length+1=ps.length)(Jy:ms.length=N.length)(oM:pm.length<=N.length)
  (FJ:∀(i n:Nat),pm[i]?=some n->ms[i]?=some (Mo.al n)\/(n=0/\ms[i]?=some (Mo.ow 0)))
  (body:∀(x:ah) (iD:af) (A:bX) (outer:List PySem.Env) (s:am) (H:Hp) (E:XK),eM kk (A.deeper (envOfC qual (aL st) s.heap.objs.size fa iD))->si (nO eF P w K mg base (N0::N) qual (aL st) fa iD A outer s H E).nox ct (.so x::ms) rk (hU st) bf) :
  cB P w K mg base eF (kk+1) fa fd ps (tP K ct cs pm (Bj (N0::N) bf)):=by
 refine Fn.ok S (tP.len Bc) λiD A outer s H vs Q E hr h=>?_
 obtain⟨F,c,ds,d,x,dx,us,hc,rfl,hx,hF,sF,l,hm,q⟩:=h
 obtain⟨t,pt,qt⟩:=body x iD A outer s H E hr
 refine⟨t,pt,?_⟩
 obtain⟨o,h1,h2⟩:=aV hm
 have tZ:ds.length=us.length:=l.length'
 have Re:us.length=pm.length:=l.length
 have ow:Ow K ct F H 1 (.obj c [] []) (.ref x) [x]:=.inr (vG.obj (vs:=[]) hF hx rfl .nil)
 have sFB:bR F (mj H x):=λb o hb=>by
  rw[qd (λe=>by rw[e,hF]at hb;cases hb)]
  exact sF _ _ hb
 refine qt F (mj H x) F H (some (.obj c [] [])::startD N ds) (L2.start (N0::N) (.ref x::us)) o _ ⟨.refl _,Kr H x,sF,λ_ _ _ h=>h,[x],?_,by simp,λa z=>by rw[az]at z;subst z;exact K0 H _⟩ h1 ?_
 ·have e:L2.start (N0::N) (.ref x::us)=some (.ref x)::(us.map some++aC (N.length-us.length) none):=by
   unfold L2.start
   simp
  rw[e]
  unfold startD
  rw[tZ]
  exact SL.so (fp:=[]) ow (SL.start _ l FJ (by omega))
 ·cases o with
  |nx ρ=>
   intro σ F' H' r
   obtain⟨fp,sl,nd,hb⟩:=r.sl
   cases sl with
   |no _=>cases h2
   |so JM _=>
    cases h2
    exact q F' H' r.f0 r.bh r.fh r.nf (JM.cells x aa).1 JM
  |rt d'=>cases h2
  |bk ρ=>cases h2
  |ct ρ=>cases h2
end
end L3
namespace L3
open PySem PySem.Spec L2
open PyProof.Rows hiding St
theorem TV {f:aU}{y:V}:∀{ns:List aU} {vs:List V},ns.length=vs.length->ns.contains f=false->jG f y (ns.zip vs)=(ns++[f]).zip (vs++[y])
 |[],[],_,_=>rfl
 |[],_::_,h,_=>by simp at h
 |_::_,[],h,_=>by simp at h
 |n::ns,v::vs,h,hc=>by
  rw[rS,qA]at hc
  have hn:¬n=f:=λe=>by rw[e]at hc;simp at hc
  have ih:=TV (f:=f) (y:=y) (ns:=ns) (vs:=vs) (by simpa using h) hc.2
  show jG f y ((n,v)::ns.zip vs)=(n,v)::(ns++[f]).zip (vs++[y])
  rw[←ih]
  show(if n=f then _ else _)=_
  rw[if_neg hn]
theorem Ow.obj_inv {ct:Nat->ah}{K:ae}{F H:Hp}{c k:Nat}{ns:List aU}{ds:List D}{v:V}{fp:List ah}(h:Ow K ct F H (k+1) (.obj c ns ds) v fp):∃a dx vs fr,v=.ref a/\fp=a::fr/\F a=none/\H a=some (.ins (ct c) dx (ns.zip vs))/\ns.length=vs.length/\fk (Ow K ct F H k) ds vs fr:=by
 rcases h with⟨h,_⟩|h
 ·cases h
 ·cases h with
  |obj h1 h2 h3 h4=>exact⟨_,_,_,_,rfl,rfl,h1,h2,h3,h4⟩
section
variable {X:Cx}{ct:Nat->ah}{ms:List Mo}{rk n m k:Nat}{a b c e tg:Expr}{f g h:EF}{u w:SF}{pos:dh}{x0:ah}
def kS (cs:List Nat)(x:aU)(f:EF):SF:=λρ=>(f ρ).bind λd=>(eV 0 ρ).bind λo=>match o with
 |.obj c ns ds=>if cs.contains c=true/\ns.contains x=false/\ns.length<900 then some (.nx (ρ.set 0 (some (.obj c (ns++[x]) (ds++[d])))))else none
 |_=>none
theorem RS.self {K:ae}{F0 B F H F' H':Hp}{ρ:Env}{σ:St}{d:D}(rs:RS K ct F0 B (.so x0::ms) F H ρ σ)(hd:ρ[0]?=some (some d)):σ[0]?=some (some (.ref x0))/\Ow K ct F H 1 d (.ref x0) [x0]/\B x0=none /\
  ∀(F' H':Hp) (d':D),bR F F'->bR B H'->bR F' H'->(∀a o,B a=some o->F0 a=none->F' a=none)->(∀a o,H a=some o->a≠x0->H' a=some o)->(∀a o,H a=some o->a≠x0->F a=none->F' a=none)->Ow K ct F' H' 1 d' (.ref x0) [x0]->RS K ct F0 B (.so x0::ms) F' H' (ρ.set 0 (some d')) σ:=by
 obtain⟨fp,sl,nd,hb⟩:=rs.sl
 cases sl with
 |no _=>simp at hd
 |so ow t=>
  simp at hd
  subst hd
  refine⟨rfl,ow,hb _ aa,λF' H' d' s1 s2 s3 s4 k1 k2 o'=>⟨rs.f0.trans s1,s2,s3,s4,_,.so o' (t.frame s1 λa z=>?_),nd,hb⟩⟩
  obtain⟨hn,o,ho⟩:=t.cells a z
  have ne:a≠x0:=λe=>(bC.mp nd).1 (by rw[←e];exact z)
  exact⟨(k1 a o ho ne).trans ho.symm,k2 a o ho ne hn⟩
theorem CH {x s:aU}{cs:List Nat}{p1 pos':dh}(hc:∀c∈cs,lf X.K (ct c)/\fZ X.K (ct c) x)(he:XE X ct (.so x0::ms) 0 e f)(hN:X.N[0]?=some s:=by rfl)(hv:pF X.env.scope s:=by first|exact Or.inl rfl|exact Or.inr (Or.inl rfl)|exact Or.inr (Or.inr rfl))(hd:(s==("__debug__":aU))=false:=by decide)
  (jF:(s==("__classdict__":aU))=false:=by decide) (hs:dR e (some (.Attribute (.Name s p1) x pos')) pos.line X.env=pure false:=by rfl):XS X ct (.so x0::ms) rk (.Assign [.Attribute (.Name s p1) x pos'] e pos) (kS cs x f):=by
 obtain⟨t,pt,qt⟩:=he
 refine⟨_,zuz (qj hN hv hd jF) pt hs,λF0 B F H ρ σ o E rs e z=>?_⟩
 obtain⟨d,h1,h2⟩:=aV e
 obtain⟨ob,h3,h4⟩:=aV h2
 refine qt F0 B F H ρ σ d _ rs h1 λy F1 H1 x1 l=>?_
 have kc:=rs.ext x1
 obtain⟨hσ,ow,hB,put⟩:=kc.self (F':=F) (H':=H) (yg h3)
 refine⟨_,hσ,?_⟩
 cases ob with
 |obj c ns ds=>
  dsimp only at h4
  by_cases hz:cs.contains c=true/\ns.contains x=false/\ns.length<900
  ·rw[if_pos hz]at h4
   cases h4
   obtain⟨a,dx,vs,fr,e1,e2,hF,hH,hl,ol⟩:=ow.obj_inv
   cases e1
   cases e2
   have hh:=hc c (by simpa using hz.1)
   refine⟨x0,_,dx,_,rfl,hH,hh.1,hh.2,by rw[eS,←hl,ir];omega,?_⟩
   rw[TV hl hz.2.1]
   refine z σ F1 _ (put F1 _ _ (.refl _) (λb o h=>?_) (λb o h=>?_) kc.nf (λb o h ne=>by rw[yo ne];exact h) (λb o h ne hn=>hn) (.inr (vG.obj (vs:=vs++[y]) hF yx (by simp[hl]) ?_)))
   ·rw[yo (λe=>by rw[e,hB]at h;cases h)];exact kc.bh _ _ h
   ·rw[yo (λe=>by rw[e,hF]at h;cases h)];exact kc.fh _ _ h
   ·have o1:fk (Ow X.K ct F1 (upd H1 x0 (.ins (ct c) dx ((ns++[x]).zip (vs++[y])))) 0) ds vs []:=ol.mono λ_ _ _ _ q=>⟨q.1,q.2⟩
    have:=o1.append (fk.cons (f:=[]) (g:=[]) (R:=Ow X.K ct F1 (upd H1 x0 (.ins (ct c) dx ((ns++[x]).zip (vs++[y])))) 0) ⟨l,rfl⟩ .nil)
    exact this
  ·rw[if_neg hz]at h4;cases h4
 |_=>cases h4
variable {kk:Nat}{fa:ah}{fd:aI}{ps:List aU}{pm cs:List Nat}{mi:Nat->List D->Option D}{x:aU}{pp:dh}
theorem KN {c0:Nat}{es:List Expr}{ns nd:List Nat}{fs:Env->Option (List D)}{jE:List V}{kO:List D}{kP:List af}(M:Mk X.K (ct c0) fa)(AW:c0∈cs)(Fn:cB X.prog X.w X.K X.mg X.base eF kk fa fd ps (tP X.K ct cs (ns++nd) mi))(hr:eM (kk+1) X.A)(hg:Gl X x)(hm:X.mg x=some (.ref (ct c0)))
  (hb:bA X.K fd ps kP) (hd:bZ jE kP) (wI:∀F G,kh X.K ct F G nd kO jE) (ha:XA X ct ms (e::es) ns fs)
  (lK:(x==("__debug__":aU))=false:=by decide) (he:ar (e::es) X.env=(false,bG e X.env)::ar es X.env:=by rfl) (iL:(cE pos (ar es X.env)).any (·.1)=false:=by rfl) :
  XO X ct ms 1 (.Call (.Name x pp) (e::es) [] pos) (λρ=>(fs ρ).bind λds=>mi c0 (ds++kO)):=by
 obtain⟨t,pt,_,qt⟩:=ha
 refine⟨_,zr3 M Fn hr hg hm hb hd oj pt lK he iL,λF0 B F H ρ σ r Q rs e w=>?_⟩
 obtain⟨ds,h1,h2⟩:=aV e
 refine qt F0 B F H ρ σ ds _ rs h1 λvs F1 H1 x1 l y dy hy XF mN=>?_
 have sH:bR H1 (mj (upd (upd H1 dy (.own y)) y (.ins (ct c0) dy [])) y):=λb o h=>by
  have n1:b≠y:=xu h hy
  rw[qd n1,yo n1,yo (xu h XF)]
  exact h
 have sH2:bR H1 (upd (upd H1 dy (.own y)) y (.ins (ct c0) dy [])):=sH.trans (Kr _ _)
 refine⟨F1,c0,ds++kO,r,y,dy,vs++jE,AW,rfl,yx,x1.fh.free hy,x1.fh.trans sH2,kh.mono (.refl _) sH (kh.append (wI F1 H1) l),h2,λF' H' s1 s2 s3 s4 hn ow=>⟨rfl,?_⟩⟩
 refine w _ F' H' [y] ⟨x1.ff.trans s1,(x1.hh.trans sH).trans s2,s3,λb o h n=>s4 b o (sH _ _ (x1.hh _ _ h)) (x1.nf b o h n)⟩ ow (by simp) λb z=>?_
 rw[az]at z
 subst z
 exact x1.hh.free hy
theorem zpq {C:ah}{sp:Sp}{jE:List V}{ds:List af}{E:XK}{m:aU}{p dF:dh}{es:List Expr}{t:TA}{pl:pw Bool}{mc:af}(Fn:cB X.prog X.w X.K X.mg X.base eF kk fa fd ps sp)(hr:eM kk X.A)(hg:Gl X x)(hm:X.mg x=some (.ref C))
  (h1:ed X.K (.ref C) "__getattribute__"=some (some (.builtin "type.__getattribute__"))) (h2:iZ X.K C mc=true) (h3:iY X.K (.ref C) mc m=some (.val (.ref fa))) (hk:ak X.K (.ref fa)=true) (hb:bA X.K fd ps ds) (hd:bZ jE ds) (hx:jN eF X E) (ha:PA X (e::es) t)
  (lK:(x==("__debug__":aU))=false:=by decide) (m9:ar (e::es) X.env=(false,bG e X.env)::ar es X.env:=by rfl) (iL:(cE pos (ar es X.env)).any (·.1)=false:=by rfl)
  (ht:bG (.Call (.Attribute (.Name x p) m dF) (e::es) [] pos) X.env=(do
   let ov ← bG (.Name x p) X.env
   ip dF.atName
   let(f,first) ← ek [ov] (ig ov m pl)
   jV pos f first (cE pos (ar (e::es) X.env)) (fq pos (dw [] X.env))):=by rfl) :
  PE X (.Call (.Attribute (.Name x p) m dF) (e::es) [] pos) (yT sp jE E t):=by
 intro aj s σ H Q I h
 refine gj (pl:=pl) (KC I hg hm ?_ lK) ht
 refine PySem.W.method_cls I.kIn h1 (PySem.W.cls_value I.kIn h2 h3 rfl ?_)
 have I1:Inv X aj σ H { s with toks:=s.toks+1 }:=I.tok _
 refine ij (first:=[]) (h₀:=X.base) I.ok.mod.kin hk (dA (ha pos aj _ σ H _ I1 h) λus s2 ⟨vs,H2,I2,r,q2⟩=>⟨I2.kIn,?_⟩) m9 iL
 exact KQ (us:=us) (vs:=vs) Fn hr hb hd hx I2 r q2
theorem kh.flat {K:ae}{F G G':Hp}{ns:List Nat}{ds:List D}{vs:List V}(h:kh K ct F G ns ds vs)(e:ns.all (· == 0)=true):kh K ct F G' ns ds vs:=by
 induction h with
 |nil=>exact .nil
 |cons h t ih=>
  rw[dB,bS]at e
  cases eq_of_beq e.1
  exact .cons h (ih e.2)
def oR (cs:List Nat)(fs:Env->Option (List D))(mi:Nat->List D->Option D):SF:=λρ=>(eV 0 ρ).bind λo=>(fs ρ).bind λds=>match o with
 |.obj c [] []=>if cs.contains c=true then(mi c ds).bind λd=>some (.nx (ρ.set 0 (some d)))else none
 |_=>none
theorem O8 {C:ah}{s m:aU}{p p1 dY dF:dh}{es:List Expr}{ns:List Nat}{fs:Env->Option (List D)}{pl:pw Bool}{mc:af}(Fn:cB X.prog X.w X.K X.mg X.base eF kk fa fd ps (tP X.K ct cs ns mi))(hr:eM kk X.A)(hm:X.mg x=some (.ref C))
  (h1:ed X.K (.ref C) "__getattribute__"=some (some (.builtin "type.__getattribute__"))) (h2:iZ X.K C mc=true) (h3:iY X.K (.ref C) mc m=some (.val (.ref fa))) (hk:ak X.K (.ref fa)=true) (hb:bA X.K fd ps []) (hz:ns.all (· == 0)=true) (ha:XA X ct (.so x0::ms) es ns fs)
  (hg:Gl X x:=by rfl) (hN:X.N[0]?=some s:=by rfl) (hv:pF X.env.scope s:=by first|exact Or.inl rfl|exact Or.inr (Or.inl rfl)|exact Or.inr (Or.inr rfl)) (hd:(s==("__debug__":aU))=false:=by decide)
  (jF:(s==("__classdict__":aU))=false:=by decide) (lK:(x==("__debug__":aU))=false:=by decide) (m9:ar (.Name s p1::es) X.env=(false,bG (.Name s p1) X.env)::ar es X.env:=by rfl) (iL:(cE dY (ar es X.env)).any (·.1)=false:=by rfl)
  (ht:bG (.Call (.Attribute (.Name x p) m dF) (.Name s p1::es) [] dY) X.env=(do
   let ov ← bG (.Name x p) X.env
   ip dF.atName
   let(f,first) ← ek [ov] (ig ov m pl)
   jV dY f first (cE dY (ar (.Name s p1::es) X.env)) (fq dY (dw [] X.env))):=by rfl)
  (wM:dR (.Call (.Attribute (.Name x p) m dF) (.Name s p1::es) [] dY) none pos.line X.env=pure false:=by rfl) :
  XS X ct (.so x0::ms) rk (.Expr (.Call (.Attribute (.Name x p) m dF) (.Name s p1::es) [] dY) pos) (oR cs fs mi):=by
 obtain⟨t,pt,_,qt⟩:=ha
 refine⟨_,KD (zpq (E:=E0) Fn hr hg hm h1 h2 h3 hk hb .nil oj (ub (qj hN hv hd jF) pt m9) lK m9 iL ht) wM,λF0 B F H ρ σ o E rs e z=>?_⟩
 obtain⟨ob,ds,g1,g2,g3⟩:=dP e
 obtain⟨hσ,ow,hB,put⟩:=rs.self (F':=F) (H':=H) (yg g1)
 refine⟨_,hσ,qt F0 B F H ρ σ ds _ rs g2 λvs F1 H1 x1 l=>?_⟩
 have kc:=rs.ext x1
 obtain⟨hσ,ow,hB,put⟩:=kc.self (F':=F) (H':=H) (yg g1)
 match ob,g3,ow with
 |.obj c [] [],g3,ow=>
  dsimp only at g3
  by_cases hc:cs.contains c=true
  ·rw[if_pos hc]at g3
   obtain⟨d,g4,g5⟩:=aV g3
   cases g5
   obtain⟨a,dx,us,fr,e1,e2,hF,hH,hl,ol⟩:=ow.obj_inv
   cases e1
   cases e2
   refine⟨F1,c,ds,d,x0,dx,vs++[],by simpa using hc,rfl,hH,hF,x1.fh,?_,g4,λF' H' s1 s2 s3 s4 hn o'=>?_⟩
   ·rw[cu];exact l.flat hz
   ·have sB:bR B (mj H1 x0):=λb o h=>by
     rw[qd (λe=>by rw[e,hB]at h;cases h)]
     exact kc.bh _ _ h
    exact z σ F' H' (put F' H' d s1 (sB.trans s2) s3 (λb o h n=>s4 b o (sB _ _ h) (kc.nf b o h n)) (λb o h ne=>s2 _ _ (by rw[qd ne];exact h)) (λb o h ne FK=>s4 b o (by rw[qd ne];exact h) FK) o')
  ·rw[if_neg hc]at g3;cases g3
end
end L3
namespace L3
open PySem PySem.Spec L2
open PyProof.Rows hiding St
structure hG (K:ae)(mg:aU->Option af)(x:aU)(st:bO)(ps:List aU)(f:ah)(fd:aI):Prop where
 fn:Fun2 K x x st f fd
 mgx:mg x=some (.ref f)
 bd:bA K fd ps []
structure Dm (K:ae)(C:ah)(m qual:aU)(st:bO)(ps:List aU)(f:ah)(fd:aI):Prop where
 fn:Fun2 K m qual st f fd
 me:qN K C m f
 bd:bA K fd ps []
structure Dc (K:ae)(mg:aU->Option af)(x:aU)(C:ah):Prop where
 cl:lf K C
 mgx:mg x=some (.ref C)
 mks:d8 K C=true
 kp:ak K (.ref C)=true
structure Dq (K:ae)(C:ah)(m:aU)(f:ah):Prop where
 sp:ed K (.ref C) "__getattribute__"=some (some (.builtin "type.__getattribute__"))
 rd:iZ K C (.type "type")=true
 fc:iY K (.ref C) (.type "type") m=some (.val (.ref f))
theorem zo {K:ae}{x qual:aU}{st:bO}{f:ah}{oc:af}{od an:Option ah}{Bs:Array (Option af)}{dV kV doc pm iD ct:af}(l:K.lookup f=some ⟨oc,od,.func (gX x qual (mM st) (hU st) (aL st) dV kV doc pm an iD ct),Bs⟩)
  (c:aw K iD qual=true) (k:ak K (.ref f)=true):Fun2 K x qual st f (gX x qual (mM st) (hU st) (aL st) dV kV doc pm an iD ct):=⟨⟨oc,od,dV,kV,doc,pm,an,iD,ct,Bs,rfl,l,c⟩,k⟩
theorem zs4 {K:ae}{fd:aI}{ps:List aU}{ds:List af}{T:ah}{o:dX}{items:Array af}{n:Nat}(hd:fd.defaults=.ref T)(ho:K.lookup T=some o)(hs:o.data=.seq items n)
  (h:∀us:List af,(us++ds).length=ps.length->∃k,bindArgs fd ⟨us,[]⟩=seqItems? fd.defaults >>= k/\k (some items)=pure (ps.zip (us++ds))):bA K fd ps ds:=λs us X hl=>by
 obtain⟨k,h1,h2⟩:=h us hl
 exact PySem.W.binds_K X hd ho hs h1 h2
theorem xL (m:Nat){K:ae}{fd:aI}{ps:List aU}{ds:List af}{T:ah}{o:dX}{items:Array af}{n:Nat}(ho:K.lookup T=some o)(h:∀us:List af,us.length=m->∃k,bindArgs fd ⟨us,[]⟩=seqItems? fd.defaults >>= k/\k (some items)=pure (ps.zip (us++ds)))(hd:fd.defaults=.ref T:=by rfl)(hs:o.data=.seq items n:=by rfl)(hm:m+ds.length=ps.length:=by rfl):bA K fd ps ds :=
 zs4 hd ho hs λus hl=>h us (by rw[aX]at hl;omega)
end L3
namespace L3
open PySem PySem.Spec L2
open PyProof.Rows hiding St
def Lf (x:aU):It:=⟨λi _=>∃c,x.cps[i]?=some c,λi H v H'=>H'=H/\∃c,x.cps[i]?=some c/\v=.str ⟨#[c]⟩,λi _=>x.cps[i]?=none⟩
theorem zpr {P:bz}{w:ce}{K:ae}{tg:Expr}(x:aU)(t:Tok)(it:ah):Turn P w K tg (Lf x) [it] it (λi h=>h.IsStrIter it (cU x) x t i) where
 mem:=by simp
 obj:=λi h st b hb=>by
  have e:b=it:=by simpa using hb
  subst e
  obtain⟨o,e,c,d⟩:=st
  exact⟨o,e,λv z=>by rw[d]at z;cases z⟩
 keep:=λi h h' st k=>by
  obtain⟨o,e,c,d⟩:=st
  exact⟨o,k it (by simp) o e,c,d⟩
 item:=by
  intro X hP hw hK hc i aj s σ H E I hf st hg
  subst hP hw hK
  obtain⟨c,hx⟩:=hg
  obtain⟨f0,f1,f2,f3,f4,f5⟩:=hf it (by simp)
  have fin:∀h':aZ,h'.IsStrIter it (cU x) x t (i+1)->ik it s.heap h'->bo (bj X.prog X.w) X.A (iC tg (.ref it) (.str ⟨#[c]⟩ s.toks)) (λ_ s2=>∃v H',Inv X aj σ H' s2/\RelV v (.str ⟨#[c]⟩ s.toks)/\(Lf x).yld i H v H'/\s2.heap.IsStrIter it (cU x) x t (i+1)/\∀b∈[it],H' b=none) E { s with heap:=h',toks:=s.toks+1 }:=λh' p9 sb=>by
   have I1:Inv X aj σ H { s with heap:=h',toks:=s.toks+1 }:=I.turned (t':=s.toks+1) (λb o hb e=>(sb.2 b hb).trans e) f0 f1 f3 f4 f5
   obtain⟨o,e,cc,d⟩:=id p9
   refine K4 (s:={ s with heap:=h',toks:=s.toks+1 }) e cc d ?_ ⟨.str ⟨#[c]⟩,H,I1,⟨_,rfl⟩,⟨rfl,c,hx,rfl⟩,p9,λb hb=>(hf b hb).1⟩
   unfold cU
   split<;>decide
  cases ha:x.cps.all (·<128)with
  |true=>
   have e:cU x = "str_ascii_iterator":=by unfold cU;rw[ha];rfl
   rw[e]at st fin
   exact wpAny_pyNext_ascii_item st hx λh' p9 sb=>⟨_,rfl,by rw[e];exact fin h' p9 sb⟩
  |false=>
   have e:cU x = "str_iterator":=by unfold cU;rw[ha];rfl
   rw[e]at st fin
   exact wpAny_pyNext_wide_item st hx λh' p9 sb=>⟨_,rfl,by rw[e];exact fin h' p9 sb⟩
 done:=by
  intro X hP hw hK hc i aj s σ H E I hf st hg
  subst hP hw hK
  obtain⟨f0,f1,f2,f3,f4,f5⟩:=hf it (by simp)
  cases ha:x.cps.all (·<128)with
  |true=>
   have e:cU x = "str_ascii_iterator":=by unfold cU;rw[ha];rfl
   rw[e]at st
   exact wpAny_pyNext_ascii_end (I.ok.hd hc) st hg λh' eb=>⟨rfl,I.turned (t':=s.toks) (λb o hb e=>eb b o hb e) f0 f1 f3 f4 f5⟩
  |false=>
   have e:cU x = "str_iterator":=by unfold cU;rw[ha];rfl
   rw[e]at st
   exact wpAny_pyNext_wide_end (I.ok.hd hc) st hg λh' eb=>⟨rfl,I.turned (t':=s.toks) (λb o hb e=>eb b o hb e) f0 f1 f3 f4 f5⟩
 self:=λA i s Q E st h=>by
  cases ha:x.cps.all (·<128)with
  |true=>
   have e:cU x = "str_ascii_iterator":=by unfold cU;rw[ha];rfl
   rw[e]at st
   exact wpAny_pyIter_striter_ascii st h
  |false=>
   have e:cU x = "str_iterator":=by unfold cU;rw[ha];rfl
   rw[e]at st
   exact wpAny_pyIter_striter_wide st h
def Nu (tl:TE):TI:=λσ H R=>tl σ H λx H1=>∃z,x=.str z/\R (Lf z) H1
section
variable {X:Cx}{ct:Nat->ah}{ms:List Mo}{rk n m k:Nat}{st:bO}{rest:List bO}{a b c e tg:Expr}{f g h:EF}{p q:BF}{u w:SF}{pos:dh}
theorem zvq {l:Expr}{tl:TE}(hl:PE X l tl):PI X tg l (Nu tl):=by
 intro aj s σ H R I h
 refine dA (hl aj s σ H _ I h) λv s1 dJ=>?_
 obtain⟨x,H1,I1,r,z,e,q⟩:=dJ
 subst e
 obtain⟨t,rfl⟩:=r
 refine wpAny_pyIter_strU ?_
 refine⟨s1.heap.objs.size,[s1.heap.objs.size],_,_,H1,rfl,I1.kept (t':=s1.toks) λb o e=>aH _ e,zpr z t _,⟨_,bF _ rfl,rfl,rfl⟩,λb hb=>?_,q⟩
 have e:b=s1.heap.objs.size:=by simpa using hb
 subst e
 exact I1.fpOk (aF _) (I1.hok.fresh (aF _))
def rj (x:aU):List D:=x.cps.toList.map λc=>.str ⟨#[c]⟩
def Qi:D->Option (List D)
 |.str x=>some (rj x)
 |_=>none
theorem zvr (he:XE X ct ms m e f):XI X ct ms n tg e (λρ=>(f ρ).bind Qi):=by
 obtain⟨t,pt,qt⟩:=he
 refine⟨_,zvq pt,λF0 B F H ρ σ ds R rs e w=>?_⟩
 obtain⟨d,h1,h2⟩:=aV e
 refine qt F0 B F H ρ σ _ _ rs h1 λv F' H' x l=>?_
 cases d with
 |str z=>
  cases h2
  refine⟨z,l.str,w _ F' H' x λi F2 H2 s1 s2 s3=>⟨λd hd=>?_,λhl=>?_⟩⟩
  ·unfold rj at hd
   rw[bp]at hd
   obtain⟨c,hc,rfl⟩:=dg.mp hd
   have yE:z.cps[i]?=some c:=by simpa using hc
   refine⟨⟨c,yE⟩,λy H3 hy=>?_⟩
   obtain⟨rfl,c2,h3,rfl⟩:=hy
   rw[yE]at h3
   cases h3
   exact⟨F2,.refl s3,Al.of (.str _)⟩
  ·unfold rj at hl
   rw[aB,dM]at hl
   exact Array.getElem?_eq_none hl
 |_=>cases h2
theorem zps {κ:Type}[DecidableEq κ](k:κ)(v:V):∀{ks:List κ} {vs:List V},ks.length=vs.length->putK (ks.zip vs) k v=(if ks.contains k=true then ks.zip ((ks.zip vs).map λp=>if p.1=k then v else p.2)else(ks++[k]).zip (vs++[v])):=by
 intro ks vs hl
 unfold putK
 have e:((ks.zip vs).any λkv=>decide (kv.1=k))=ks.contains k:=by
  rw[Bool.eq_iff_iff,mn,List.contains_iff_mem]
  constructor
  ·rintro⟨p,hp,he⟩
   have:=decide_eq_true_iff.mp he
   rw[←this]
   exact(hE hp).1
  ·intro hk
   obtain⟨i,hi,rfl⟩:=List.getElem_of_mem hk
   exact⟨(ks[i],vs[i]'(by omega)),cY.mpr ⟨i,by simp;omega,by simp⟩,by simp⟩
 rw[e]
 by_cases h:ks.contains k=true
 ·rw[if_pos h,if_pos h]
  clear e h
  induction ks generalizing vs with
  |nil=>simp
  |cons y ks ih=>
   cases vs with
   |nil=>simp at hl
   |cons u vs=>
    simp only[fT,aR,ih (by simpa using hl)]
    by_cases hy:y=k<;>simp[hy]
 ·rw[if_neg h,if_neg h,vA hl]
  rfl
end
end L3
namespace L3
open PySem PySem.Spec L2
open PyProof.Rows hiding St
section
variable {X:Cx}{ct:Nat->ah}{ms:List Mo}{rk n m k:Nat}{st:bO}{rest:List bO}{a b c e tg:Expr}{f g h:EF}{p q:BF}{u w:SF}{pos:dh}
def jS (i:Nat)(fj f:EF):SF:=λρ=>(f ρ).bind λd=>(eV i ρ).bind λo=>(fj ρ).bind λj=>match o with
 |.dK ks ds=>(wU j).bind λk=>if ks.length<16777216 then some (.nx (ρ.set i (some (.dK (fI ks ds k d).1 (fI ks ds k d).2))))else none
 |.dT ks ds=>(match j with
  |.tup js=>(og js).bind λk=>if ks.length<16777216 then some (.nx (ρ.set i (some (.dT (fI ks ds k d).1 (fI ks ds k d).2))))else none
  |_=>none)
 |_=>none
theorem Ks {κ:Type}[DecidableEq κ]{R:D->V->Prop}{d:D}{v:V}(r:R d v)(k:κ){ks:List κ}{ds:List D}{vs:List V}(hl:ks.length=vs.length)(hp:Pr R ds vs) :
  ∃us,putK (ks.zip vs) k v=(fI ks ds k d).1.zip us/\(fI ks ds k d).1.length=us.length/\Pr R (fI ks ds k d).2 us:=by
 rw[zps k v hl]
 unfold fI
 by_cases h:ks.contains k=true
 ·rw[if_pos h,if_pos h]
  refine⟨_,rfl,by simp[hl],?_⟩
  clear h
  induction ks generalizing ds vs with
  |nil=>simp;exact .nil
  |cons y ks ih=>
   cases hp with
   |nil=>simp at hl
   |cons h t=>
    simp only[fT,aR]
    refine .cons ?_ (ih (by simpa using hl) t)
    by_cases hy:y=k
    ·rw[if_pos hy,if_pos hy];exact r
    ·rw[if_neg hy,if_neg hy];exact h
 ·rw[if_neg h,if_neg h]
  exact⟨_,rfl,by simp[hl],hp.append (.cons r .nil)⟩
theorem O9 (i:Nat){x:aU}{j:Expr}{p1 gE:dh}{fj:EF}(hm:ms[i]?=some (.ow 1))(hu:X.A.units+1<gz)(hj:XE X ct ms 0 j fj)(he:XE X ct ms 0 e f)(hN:X.N[i]?=some x:=by rfl)(hv:pF X.env.scope x:=by first|exact Or.inl rfl|exact Or.inr (Or.inl rfl)|exact Or.inr (Or.inr rfl))(hd:(x==("__debug__":aU))=false:=by decide)
  (jF:(x==("__classdict__":aU))=false:=by decide) (hs:dR e (some (.Subscript (.Name x p1) j gE)) pos.line X.env=pure false:=by rfl) :
  XS X ct ms rk (.Assign [.Subscript (.Name x p1) j gE] e pos) (jS i fj f):=by
 obtain⟨t,pt,qt⟩:=he
 obtain⟨tj,wZ,xA⟩:=hj
 refine⟨_,Uv hu (qj hN hv hd jF) wZ pt hs,λF0 B F H ρ σ o E rs e z=>?_⟩
 obtain⟨d,g1,g2⟩:=aV e
 obtain⟨d1,rG,g3,g4,g5⟩:=dP g2
 refine qt F0 B F H ρ σ d _ rs g1 λv0 F1 H1 x1 l0=>?_
 have kc:=rs.ext x1
 obtain⟨f1,fr,n1,b1,dj,i4,cf,put⟩:=kc.put (F':=F) (H':=H) hm
 obtain⟨v,hσ,ow⟩:=i4 d1 (yg g3)
 refine⟨v,hσ,xA F0 B F1 H1 ρ σ rG _ kc g4 λvj F2 H2 x2 lj=>?_⟩
 have G5:Dt X.K ct F2 d v0:=Dt.mono x2.ff l0
 cases d1 with
 |dK ks ds=>
  dsimp only at g5
  obtain⟨key,g6,g7⟩:=aV g5
  by_cases hz:ks.length<16777216
  ·rw[if_pos hz]at g7
   cases g7
   obtain⟨ad,vs,oI,rfl,rfl,hF,hH,hl,ol⟩:=ow.dK_inv
   have hA:=x2.hh _ _ hH
   have fA:F2 ad=none:=x2.nf ad _ hH hF
   have e0:=ol.nil0
   subst e0
   have hp:Pr (Dt X.K ct F2) ds vs:=ol.pr λ_ _ _ _ q=>q.1.mono x2.ff
   obtain⟨us,Be,Bf,Bg⟩:=Ks G5 key hl hp
   have hk:=KW g6 lj
   subst hk
   refine⟨ad,_,rfl,nF.k hA (by rw[eS,←hl,ir,cO];exact hz),?_⟩
   rw[Be]
   refine z σ F2 _ (kc.change hm x2 hσ b1 dj cf put aa fA (.inr (.dK fA yx Bf (fk.ofPr (Bg.mono λ_ _ q=>⟨q,rfl⟩)))) (fn:=[ad]) (by simp) ?_)
   intro a ha
   rw[az]at ha
   subst ha
   exact .inl aa
  ·rw[if_neg hz]at g7;cases g7
 |dT ks ds=>
  cases rG with
  |tup js=>
   dsimp only at g5
   obtain⟨key,g6,g7⟩:=aV g5
   by_cases hz:ks.length<16777216
   ·rw[if_pos hz]at g7
    cases g7
    obtain⟨ad,vs,oI,rfl,rfl,hF,hH,hl,ol⟩:=ow.dT_inv
    have hA:=x2.hh _ _ hH
    have fA:F2 ad=none:=x2.nf ad _ hH hF
    have e0:=ol.nil0
    subst e0
    have hp:Pr (Dt X.K ct F2) ds vs:=ol.pr λ_ _ _ _ q=>q.1.mono x2.ff
    obtain⟨us,Be,Bf,Bg⟩:=Ks G5 key hl hp
    obtain⟨bd,ws,rfl,hb,FN⟩:=lj.tup x2.fh
    have hk:=O4 g6 FN
    subst hk
    refine⟨ad,_,rfl,nF.t hA hb (by rw[eS,←hl,ir,cO];exact hz),?_⟩
    rw[Be]
    refine z σ F2 _ (kc.change hm x2 hσ b1 dj cf put aa fA (.inr (.dT fA yx Bf (fk.ofPr (Bg.mono λ_ _ q=>⟨q,rfl⟩)))) (fn:=[ad]) (by simp) ?_)
    intro a ha
    rw[az]at ha
    subst ha
    exact .inl aa
   ·rw[if_neg hz]at g7;cases g7
  |_=>cases g5
 |_=>cases g5
def Ig (K:ae):V->V->Hp->VK->Prop:=λo i H Q=>∃p xs k v,o=.ref p/\i=.int k/\eR K H p xs/\atI xs k=some v/\Q v H
theorem zne:CW X (Ig X.K):=by
 intro aj s σ H o i ov iv Q I ro ri h
 obtain⟨p,xs,k,z,rfl,rfl,hq,he,q⟩:=h
 cases ro
 obtain⟨t,rfl⟩:=ri
 obtain⟨cw,r,pl,hz⟩:=I.list hq
 obtain⟨j,h1,h2,h3,h4,h5⟩:=Kz he
 obtain⟨w,ew,nR⟩:=r.get h2
 have hl:=r.length
 have hn:=kx
 have fin:EP X aj σ Q w s:=⟨z,H,I,nR,q⟩
 by_cases h0:0<=k
 ·have hj:k.toNat=j:=by
   rw[oB h0 h5]at h1
   exact Option.some.inj h1
  exact wpAny_getItem_list pl.isList h0 (by omega) (by rw[hj];simpa using ew) fin
 ·have hj:(k+(cw.toArray.size:Int)).toNat=j:=by
   rw[nw (by omega) h4]at h1
   rw[aQ,←hl]
   exact Option.some.inj h1
  exact wpAny_getItem_list_neg pl.isList (by omega) (by rw[aQ]<;>omega) (by omega) (by rw[hj];simpa using ew) fin
def pM (i:Nat)(fj:EF)(gi:Int->Int->Int)(f:EF):SF:=λρ=>(eV i ρ).bind λo=>(fj ρ).bind λj=>(f ρ).bind λy=>match o,j with
 |.lst ds,.int z=>(atI ds z).bind λx=>(match x,y with
  |.int a,.int b=>(kT ds z (.int (gi a b))).bind λn4=>some (.nx (ρ.set i (some (.lst n4))))
  |_,_=>none)
 |_,_=>none
theorem UF (i:Nat){x:aU}{op:jU}{j:Expr}{p1 gE:dh}{fj:EF}{gi:Int->Int->Int}(ho:B1 X op (JI gi))(hm:ms[i]?=some (.ow 1))(hj:XE X ct ms n j fj)(he:XE X ct ms m e f)(hN:X.N[i]?=some x:=by rfl)(hv:pF X.env.scope x:=by first|exact Or.inl rfl|exact Or.inr (Or.inl rfl)|exact Or.inr (Or.inr rfl))(hd:(x==("__debug__":aU))=false:=by decide)
  (jF:(x==("__classdict__":aU))=false:=by decide) (ha:∀ov iv new,augStore j ov iv new=(do ek [new,ov,iv] (ny ov iv new);sS [new,ov,iv] [];pure .next):=by intros;rfl) :
  XS X ct ms rk (.AugAssign (.Subscript (.Name x p1) j gE) op e pos) (pM i fj gi f):=by
 obtain⟨t,pt,qt⟩:=he
 obtain⟨tj,wZ,xA⟩:=hj
 refine⟨_,zrt (qj hN hv hd jF) wZ zne pt ho OE ha,λF0 B F H ρ σ o E rs e z=>?_⟩
 obtain⟨d1,rG,g3,g4,g5⟩:=dP e
 obtain⟨d2,g6,g7⟩:=aV g5
 obtain⟨f1,fr,n1,b1,dj,i4,cf,put⟩:=rs.put (F':=F) (H':=H) hm
 obtain⟨v,hσ,ow⟩:=i4 d1 (yg g3)
 refine⟨v,hσ,xA F0 B F H ρ σ rG _ rs g4 λvj F2 H2 x2 lj=>?_⟩
 cases d1<;>try (cases g7;done)
 rename_i ds
 cases rG<;>try (cases g7;done)
 rename_i zi
 ·skip
  dsimp only at g7
  obtain⟨da,g8,g9⟩:=aV g7
  obtain⟨ad,vs,oI,rfl,rfl,hF,hH,ol⟩:=ow.lst_inv
  have hA:H2 ad=some (.lst vs):=x2.hh _ _ hH
  have hp:Pr (Al X.K ct F2 H2 0) ds vs:=ol.pr λ_ _ _ _ q=>q.1.mono x2.ff
  obtain⟨va,Xu,Xv⟩:=hp.atI g8
  refine⟨ad,vs,zi,va,rfl,lj.int,eR.of hA,Xu,qt F0 B F2 H2 ρ σ d2 _ (rs.ext x2) g6 λvy F3 H3 x3 ly=>?_⟩
  have ox:=x2.trans x3
  cases da<;>try (cases g9;done)
  rename_i ia
  cases d2<;>try (cases g9;done)
  rename_i ib
  ·skip
   dsimp only at g9
   obtain⟨n4,Xb,Xc⟩:=aV g9
   cases Xc
   obtain⟨jn,Xd,Xe⟩:=aV Xb
   cases Xe
   have Xm:H3 ad=some (.lst vs):=x3.hh _ _ hA
   have fA:F3 ad=none:=ox.nf ad _ hH hF
   have e0:=ol.nil0
   subst e0
   refine⟨ia,ib,Xv.int,ly.int,ad,vs,zi,jn,rfl,lj.int,Xm,by rw[←ol.length];exact Xd,?_⟩
   refine z σ F3 _ (rs.change hm ox hσ b1 dj cf put aa fA (.inr (.lst fA yx (fk.set0 ⟨.int _,rfl⟩ (λ_ _ _ q=>q.2) jn (ol.mono λ_ _ _ _ q=>⟨q.1.mono ox.ff,q.2⟩)))) (fn:=[ad]) (by simp) ?_)
   intro a ha
   rw[az]at ha
   subst ha
   exact .inl aa
structure Ic (K:ae)(C:ah):Prop where
 cl:lf K C
 ha:aE K (.ref C) "__class__"=some (some (.builtin "object.__class__"))
 hn:ed K (.builtin "object.__class__") "__get__"=some (some (.builtin "getset_descriptor.__get__"))
 ht:lY K (.builtin "object.__class__")=some true
 hm:fH K C (.type "object")=some true
def uB (all sub:List Nat):D->Option D
 |.obj c _ _=>if all.contains c=true then some (.bl (sub.contains c))else none
 |_=>none
theorem UG {C:ah}{x:aU}{all sub:List Nat}{pp p2:dh}(hI:∀c∈all,Ic X.K (ct c)/\bV X.K (.ref (ct c)) (.ref C)=some (sub.contains c))(hm:X.mg "isinstance"=none)(jK:X.mg x=some (.ref C))(he:XE X ct ms n e f)(hg:Gl X "isinstance":=by rfl)(o6:Gl X x:=by rfl)(hd2:(x==("__debug__":aU))=false:=by decide)
  (FR:ar [e,.Name x p2] X.env=(false,bG e X.env)::ar [.Name x p2] X.env:=by rfl) (ml:ar [.Name x p2] X.env=(false,bG (.Name x p2) X.env)::ar [] X.env:=by rfl) (iL:(cE pos (ar [.Name x p2] X.env)).any (·.1)=false:=by rfl) :
  XE X ct ms k (.Call (.Name "isinstance" pp) [e,.Name x p2] [] pos) (e1 (uB all sub) f):=by
 obtain⟨t,pt,qt⟩:=he
 refine⟨_,Kk zml hg hm So (ub pt (ub (Uj (v:=.ref C) o6 jK rfl hd2) uQ ml) FR) (by decide) (by decide) FR iL,λF0 B F H ρ σ d Q rs e w=>?_⟩
 obtain⟨d1,h1,h2⟩:=aV e
 refine qt F0 B F H ρ σ d1 _ rs h1 λv F' H' x l=>?_
 cases d1 with
 |obj c ns ds=>
  unfold uB at h2
  dsimp only at h2
  by_cases hc:all.contains c=true
  ·rw[if_pos hc]at h2
   cases h2
   obtain⟨a,dx,vs,rfl,ha,_⟩:=l.obj x.fh
   obtain⟨ic,Ys⟩:=hI c (by simpa using hc)
   exact⟨_,C,_,_,rfl,.ins ha ic.cl ic.ha ic.hn ic.ht ic.hm,Ys,w _ F' H' x (Al.of (.bl _))⟩
  ·rw[if_neg hc]at h2;cases h2
 |_=>cases h2
end
end L3
namespace L3
open PySem PySem.Spec L2
section
variable {K:ae}{ct:Nat->ah}{n m k:Nat}
def yM (i:Int):aU:=((toString i:String):aU)
def sI:List D->Option D
 |[.int i]=>if i.natAbs.log2<1920 then some (.str (yM i))else none
 |_=>none
theorem zs5:vF K ct [n] k (λxs H Q=>∃i,xs=[.int i]/\i.natAbs.log2<1920/\Q (.str (toString i)) H) sI:=by
 intro F H vs ds d Q s l e w
 cases l with
 |cons h t=>
  cases t
  rename_i d1 v
  cases d1 with
  |int i=>
   unfold sI at e
   dsimp only at e
   by_cases hz:i.natAbs.log2<1920
   ·rw[if_pos hz]at e
    cases e
    exact⟨i,by rw[h.int],hz,w _ F H (.refl s) (Al.of (.str _))⟩
   ·rw[if_neg hz]at e;cases e
  |_=>cases e
end
theorem zpt {i:Int}(h:Sz 1900 i):sI [.int i]=some (.str (yM i)):=by
 unfold sI
 dsimp only
 rw[if_pos]
 by_cases h0:i.natAbs=0
 ·rw[h0];decide
 ·rw[mS h0]
  exact bu h (dE (by decide) (by decide))
theorem zs6 {i:Int}(h:Sz 1900 i):(yM i).length<=1921:=by
 refine PyProof.Rows.int_text_len_1921 ?_
 by_cases h0:i.natAbs=0
 ·rw[h0];decide
 ·rw[mS h0]
  exact bu h (dE (by decide) (by decide))
end L3
namespace PySem
section
variable {prog:bz}{w:ce}{A:bX}{R:Result->am->Prop}{I:ah}{fp wr:List ah}{n:Nat}{P:Nat->af->Prop}{St:Nat->aZ->Prop}{kw:List (aU×af)}
end
section
variable {prog:bz}{w:ce}{A:bX}{E:af->am->Prop}{s:am}
end
end PySem
namespace L3
open PySem PySem.Spec L2
section
variable {X:Cx}{ct:Nat->ah}{ms:List Mo}{e b:Expr}{f g:EF}{n m k:Nat}
end
end L3
namespace L3
open PySem PySem.Spec L2
open PyProof.Rows hiding St
section
variable {X:Cx}{ct:Nat->ah}{ms:List Mo}{rk n m k:Nat}{a b c e o:Expr}{f g h:EF}{pos:dh}
def Bz (K:ae):V->List V->Hp->VK->Prop:=λx vs H Q=>∃p ys y j,x=.ref p/\vs=[y]/\eR K H p ys/\iP y=true/\ys.all iP=true/\ys.findIdx? (λz=>sn z y)=some j/\Q (.int (j:Nat)) H
theorem UH:∀{xs:List V} {us:List af} {x:V},bZ xs us->xs.all iP=true->us.map (oY x)=xs.map λy=>sn y x
 |_,_,_,.nil,_=>rfl
 |y::xs,u::us,x,.cons r t,f=>by
  rw[dB,bS]at f
  rw[aR,aR,Py r f.1,UH t f.2]
theorem zpu:P6 X "list.index" (Bz X.K):=by
 intro aj s σ H x vs v us Q I rx rv h
 obtain⟨p,ys,y,j,rfl,rfl,hq,fy,fs,hj,q⟩:=h
 cases rx
 obtain⟨u,rfl,ru⟩:=rv.one
 obtain⟨cw,r,pl,hz⟩:=I.list hq
 obtain⟨⟨cls,dd,data,sl⟩,ho,hc,n,hd⟩:=pl.isList
 simp only at hc hd
 subst hc hd
 have hm:=UH (x:=y) r fs
 have eo:=r.length
 obtain⟨j1,j2,j3⟩:=List.findIdx?_eq_some_iff_getElem.mp hj
 have QO:∀i (hi:i<cw.length),oY y cw[i]=sn (ys[i]'(by omega)) y:=λi hi=>by
  have:=congrArg (λl=>l[i]?) hm
  simp only[bp]at this
  rw[bD hi,bD (by omega)]at this
  simpa using this
 have hzl:ys.length<=16777216:=hz
 refine mJ PySem.F.slot_list_index ⟨_,ho,rfl⟩ PySem.F.entry_list_index (PySem.F.args_list_index_2 _ _)
  (SeqAt.list_indexAt p cw.toArray n dd sl u (oY y) j (by simp;omega) (by omega) ?_ ?_) ⟨ho,λw hw=>Cs ru fy r fs w (by simpa using hw),.int (j:Nat),H,I.tok _,⟨_,rfl⟩,q⟩
 ·simp only[qB];rw[QO j (by omega)];exact j2
 ·intro i hi iU
  simp only[qB]
  rw[QO i (by simpa using hi)]
  simpa using j3 i iU
def uA:D->D->Option D
 |.lst ds,x=>if x.sc=true/\ds.all D.sc=true then(ds.findIdx? λy=>vH y x).bind λj=>some (.int (j:Nat))else none
 |_,_=>none
theorem Ve {x:D}(hx:x.sc=true):∀{ds:List D},ds.all D.sc=true->(ds.map D.v).findIdx? (λz=>sn z x.v)=ds.findIdx? λy=>vH y x
 |[],_=>rfl
 |d::ds,h=>by
  rw[dB,bS]at h
  rw[aR,kF,kF,Vr h.1 hx,Ve hx h.2]
theorem zpv {dF dY:dh}(ho:XE X ct ms n o f)(he:XE X ct ms m e g)(m9:ar [e] X.env=(false,bG e X.env)::ar [] X.env:=by rfl)
  (m5:eJ o "index" X.env (bG o X.env)=bG o X.env:=by rfl)
  (qS:((cE dY (ar [e] X.env)).all (λx=>!x.1)&&(fq dY (dw [] X.env)).all (λx=>x.1.isSome)
   && decide ([e].length+([]:List gh).length+(if([]:List gh).isEmpty then 0 else 1)<30))=true:=by rfl)
  (m7:(dF.endLine==dY.line)=true:=by rfl) (ku:(cE dY (ar [] X.env)).any (·.1)=false:=by rfl) :
  XE X ct ms k (.Call (.Attribute o "index" dF) [e] [] dY) (e2 uA f g):=by
 obtain⟨ta,pa,qa⟩:=ho
 obtain⟨tb,pb,qb⟩:=he
 refine⟨_,K3 PySem.F.plainAttrs_list PySem.F.slot_list_index PySem.F.type_list_index zpu pa (ub pb uQ m9) m5 qS m7 m9 ku,λF0 B F H ρ σ d Q rs e w=>?_⟩
 obtain⟨d1,d2,h1,h2,h3⟩:=dP e
 refine qa F0 B F H ρ σ d1 _ rs h1 λv1 F1 H1 x1 l1=>?_
 cases d1 with
 |lst ds=>
  unfold uA at h3
  dsimp only at h3
  by_cases hz:d2.sc=true/\ds.all D.sc=true
  ·rw[if_pos hz]at h3
   obtain⟨j,hj,h4⟩:=aV h3
   cases h4
   obtain⟨p,vs,rfl,hp,Yi⟩:=l1.lst x1.fh
   refine⟨.inl ⟨rfl,_,hp⟩,qb F0 B F1 H1 ρ σ d2 _ (rs.ext x1) h2 λv2 F2 H2 x2 l2=>?_⟩
   have hv:=Yi.vs hz.2
   subst hv
   have hx:=Al.v l2 hz.1
   subst hx
   exact⟨p,_,_,j,rfl,rfl,x2.hh.seq hp,D.flat hz.1,Km hz.2,by rw[Ve hz.1 hz.2];exact hj,w _ F2 H2 (x1.trans x2) (Al.of (.int _))⟩
  ·rw[if_neg hz]at h3;cases h3
 |_=>cases h3
theorem Pb:∀{xs:List V} {us:List af},xs.length=us.length->(∀(i:Nat) (x:V) (u:af),xs[i]?=some x->us[i]?=some u->L2.RelV x u)->bZ xs us
 |[],[],_,_=>.nil
 |[],_::_,h,_=>by cases h
 |_::_,[],h,_=>by cases h
 |x::xs,u::us,h,r=>.cons (r 0 x u rfl rfl) (Pb (by simpa using h) λi y w hy hw=>r (i+1) y w (by simpa using hy) (by simpa using hw))
def yS:List V->Hp->VK->Prop:=λvs H Q=>∃j:Int,vs=[.int j]/\0<=j/\j<=16777216/\∀l,H l=none->Q (.ref l) (upd H l (.lst ((fL 0 j.toNat).map D.v)))
def oh:List D->Option D
 |[.int j]=>if 0<=j/\j<=16777216 then some (.lst (fL 0 j.toNat))else none
 |_=>none
theorem zpw {lo:Int}{n i:Nat}{d:D}(h:(fL lo n)[i]?=some d):d=.int (lo+(i:Int)):=by
 unfold fL at h
 rw[bp]at h
 obtain⟨t,ht,rfl⟩:=dg.mp h
 have:=aT.mp ht
 obtain⟨h1,h2⟩:=this
 rw[fQ]at h2
 rw[h2]
theorem zs7 {ta:TA}{p1 p2 iH:dh}(hc:X.calm=true)(hg:Gl X "list")(hm:X.mg "list"=none)(o6:Gl X "range")(jK:X.mg "range"=none)(ha:PA X [a] ta)(hs:ar [a] X.env=[(false,bG a X.env)]:=by rfl)
    (ml:ar [.Call (.Name "range" p2) [a] [] iH] X.env=[(false,bG (.Call (.Name "range" p2) [a] [] iH) X.env)]:=by rfl) :
    PE X (.Call (.Name "list" p1) [.Call (.Name "range" p2) [a] [] iH] [] pos) (NS yS ta):=by
  intro aj s σ H Q I h
  refine de (tE I hg hm CB ?_ (by decide) (by decide))
  refine bH ?_ ml rfl
  rw[ml]
  show bo _ _ (spliced ((false,bG (.Call (.Name "range" p2) [a] [] iH) X.env)::[])) _ _ s
  refine Calls.spliced_cons ?_
  refine de (tE I o6 jK boot_range ?_ (by decide) (by decide))
  refine bH (dA (ha iH aj s σ H _ I h) λus s1 ⟨vs,H1,I1,r1,q1⟩=>?_) hs rfl
  obtain⟨j,rfl,h1,h2,q⟩:=q1
  obtain⟨u,rfl,t,rfl⟩:=nj r1
  refine call_range_1 (Calls.spliced_nil ?_)
  have I2:L2.Inv X aj σ H1 { s1 with heap:=s1.heap.push { cls:=.type "range",data:=.fields #[.int 0 s1.toks,.int j t,.int 1 (s1.toks+1)] },toks:=s1.toks+1+1 }:=I1.kept λb o e=>aH _ e
  have hsz:fN.Range.rangeSize 0 j 1=(j.toNat:Int):=by rw[rangeSize_one];split<;>omega
  refine call_list_range (n:=j.toNat) (I2.ok.hd hc) (IsRange.new ..) (small_one (by omega) (by omega) (by omega) (by omega)) hsz (by omega) λh' tk kb c' kp hS qR=>?_
  have hv:bZ ((fL 0 j.toNat).map D.v) kb.toList:=by
    obtain⟨e1,e2⟩:=qR
    refine Pb (by simp[fL,e1]) λi x u hx hu=>?_
    obtain⟨t,rfl⟩:=e2 i u (by simpa using hu)
    rw[bp]at hx
    obtain⟨d,hd,rfl⟩:=dg.mp hx
    have hd:=zpw hd
    subst hd
    exact⟨t,by rw[mP]⟩
  have hl:((fL 0 j.toNat).map D.v).length<=sizeLine:=by rw[cO];simp[fL];omega
  exact⟨.ref _,_,I2.laid (t':=tk) kp (aF _) (show d6 X.prog X.w _ h' _ (.lst _)from⟨hl,kb.toList,c',hv,hS⟩),rfl,q _ (I2.hok.fresh (aF _))⟩
theorem zs8 (lo:Int)(n:Nat):(fL lo n).all D.sc=true:=by
 rw[cH]
 intro d hd
 unfold fL at hd
 obtain⟨t,_,rfl⟩:=bE.mp hd
 rfl
theorem Ib {K:ae}{F G:Hp}:∀{ds:List D},ds.all D.sc=true->Pr (Al K ct F G 0) ds (ds.map D.v)
 |[],_=>.nil
 |d::ds,h=>by
  rw[dB,bS]at h
  refine .cons ?_ (Ib h.2)
  cases d with
  |non=>exact Al.of .non
  |bl b=>exact Al.of (.bl b)
  |int b=>exact Al.of (.int b)
  |str b=>exact Al.of (.str b)
  |_=>cases h.1
theorem zpx {K:ae}:tQ K ct [n] 1 yS oh:=by
 intro F H vs ds d Q s l e w
 cases l with
 |cons h t=>
  cases t
  rename_i d1 v
  cases d1 with
  |int j=>
   unfold oh at e
   dsimp only at e
   by_cases hz:0<=j/\j<=16777216
   ·rw[if_pos hz]at e
    cases e
    exact⟨j,by rw[h.int],hz.1,hz.2,yX s (Ib (zs8 0 j.toNat)) w⟩
   ·rw[if_neg hz]at e;cases e
  |_=>cases e
theorem zs9 {fs:Env->Option (List D)}{p1 p2 iH:dh}(hc:X.calm=true)(hg:Gl X "list")(hm:X.mg "list"=none)(o6:Gl X "range")(jK:X.mg "range"=none)(ha:XA X ct ms [a] [n] fs)(hs:ar [a] X.env=[(false,bG a X.env)]:=by rfl)
  (ml:ar [.Call (.Name "range" p2) [a] [] iH] X.env=[(false,bG (.Call (.Name "range" p2) [a] [] iH) X.env)]:=by rfl) :
  XO X ct ms 1 (.Call (.Name "list" p1) [.Call (.Name "range" p2) [a] [] iH] [] pos) (eN oh fs):=by
 obtain⟨t,pt,_,qt⟩:=ha
 refine⟨_,zs7 hc hg hm o6 jK pt hs ml,λF0 B F H ρ σ r Q rs e w=>?_⟩
 obtain⟨ds,h1,h2⟩:=aV e
 exact qt F0 B F H ρ σ ds _ rs h1 λvs F1 H1 x1 l=>zpx F1 H1 vs ds r Q x1.fh l h2 λv F2 H2 fp x2 l2 nd hf=>w v F2 H2 fp (x1.trans x2) l2 nd λz hz=>x1.hh.free (hf z hz)
def oQ (i j:Nat)(f:EF):SF:=λρ=>(eV i ρ).bind λo=>(eV j ρ).bind λq=>(f ρ).bind λz=>match o,q,z with
 |.lst ds,.lst es,.int y=>if ds.length<16777216/\es.length<=16777216 then(ixN es.length y).bind λt=>es[t]?.bind λd=>some (.nx ((ρ.set j (some (.lst (es.eraseIdx t)))).set i (some (.lst (ds++[d])))))else none
 |_,_,_=>none
theorem Pr.erase {R:D->V->Prop}:∀{ds:List D} {vs:List V} (i:Nat),Pr R ds vs->Pr R (ds.eraseIdx i) (vs.eraseIdx i)
 |_,_,_,.nil=>.nil
 |_,_,0,.cons h t=>t
 |_,_,i+1,.cons h t=>.cons h (t.erase i)
theorem zni (i j:Nat){x y:aU}{p1 p2 dF dY mW ki:dh}(hm:ms[i]?=some (.ow 1))(jK:ms[j]?=some (.ow 1))(yG:i≠j)(he:XE X ct ms n e f)
  (hN:X.N[i]?=some x:=by rfl) (hv:pF X.env.scope x:=by first|exact Or.inl rfl|exact Or.inr (Or.inl rfl)|exact Or.inr (Or.inr rfl)) (hd:(x==("__debug__":aU))=false:=by decide) (jF:(x==("__classdict__":aU))=false:=by decide)
  (AQ:X.N[j]?=some y:=by rfl) (Nl:pF X.env.scope y:=by first|exact Or.inl rfl|exact Or.inr (Or.inl rfl)|exact Or.inr (Or.inr rfl)) (hd2:(y==("__debug__":aU))=false:=by decide) (AV:(y==("__classdict__":aU))=false:=by decide)
  (m9:ar [e] X.env=(false,bG e X.env)::ar [] X.env:=by rfl)
  (AR:eJ (.Name y p2) "pop" X.env (bG (.Name y p2) X.env)=bG (.Name y p2) X.env:=by rfl)
  (FF:((cE ki (ar [e] X.env)).all (λx=>!x.1)&&(fq ki (dw [] X.env)).all (λx=>x.1.isSome)
   && decide ([e].length+([]:List gh).length+(if([]:List gh).isEmpty then 0 else 1)<30))=true:=by rfl)
  (A0:(mW.endLine==ki.line)=true:=by rfl) (wK:(cE ki (ar [] X.env)).any (·.1)=false:=by rfl)
  (FU:ar [.Call (.Attribute (.Name y p2) "pop" mW) [e] [] ki] X.env=(false,bG (.Call (.Attribute (.Name y p2) "pop" mW) [e] [] ki) X.env)::ar [] X.env:=by rfl)
  (m5:eJ (.Name x p1) "append" X.env (bG (.Name x p1) X.env)=bG (.Name x p1) X.env:=by rfl)
  (qS:((cE dY (ar [.Call (.Attribute (.Name y p2) "pop" mW) [e] [] ki] X.env)).all (λx=>!x.1)&&(fq dY (dw [] X.env)).all (λx=>x.1.isSome)
   && decide ([Expr.Call (.Attribute (.Name y p2) "pop" mW) [e] [] ki].length+([]:List gh).length+(if([]:List gh).isEmpty then 0 else 1)<30))=true:=by rfl)
  (m7:(dF.endLine==dY.line)=true:=by rfl) (ku:(cE dY (ar [] X.env)).any (·.1)=false:=by rfl)
  (wM:dR (.Call (.Attribute (.Name x p1) "append" dF) [.Call (.Attribute (.Name y p2) "pop" mW) [e] [] ki] [] dY) none pos.line X.env=pure false:=by rfl) :
  XS X ct ms rk (.Expr (.Call (.Attribute (.Name x p1) "append" dF) [.Call (.Attribute (.Name y p2) "pop" mW) [e] [] ki] [] dY) pos) (oQ i j f):=by
 obtain⟨t,pt,qt⟩:=he
 refine⟨_,KD (K3 PySem.F.plainAttrs_list PySem.F.slot_list_append PySem.F.type_list_append J7 (qj hN hv hd jF)
  (ub (K3 PySem.F.plainAttrs_list PySem.F.slot_list_pop PySem.F.type_list_pop zo3 (qj AQ Nl hd2 AV) (ub pt uQ m9) AR FF A0 m9 wK) uQ FU) m5 qS m7 FU ku) wM,λF0 B F H ρ σ o E rs e z=>?_⟩
 obtain⟨d1,d2,h1,h2,h3⟩:=dP e
 obtain⟨d3,h4,h5⟩:=aV h3
 cases d1 with
 |lst ds=>
  cases d2 with
  |lst es=>
   cases d3 with
   |int w=>
    dsimp only at h5
    by_cases hz:ds.length<16777216/\es.length<=16777216
    ·rw[if_pos hz]at h5
     obtain⟨t2,h6,h7⟩:=aV h5
     obtain⟨d,h8,h9⟩:=aV h7
     cases h9
     obtain⟨g1,gr,gn1,gb1,gdj,Xf,gcf,Xh⟩:=rs.put (F':=F) (H':=H) hm
     obtain⟨v,hσ,ow⟩:=Xf _ (yg h1)
     obtain⟨ad,vs,oI,rfl,rfl,hF,hH,ol⟩:=ow.lst_inv
     obtain⟨f1,fr,n1,b1,dj,i4,cf,put⟩:=rs.put (F':=F) (H':=H) jK
     obtain⟨v2,vJ,Hg⟩:=i4 _ (yg h2)
     obtain⟨bd,us,QG,rfl,rfl,MK,AO,Br⟩:=Hg.lst_inv
     have z2:=fk.nil0 Br
     subst z2
     refine⟨_,hσ,.inl ⟨rfl,_,eR.of hH⟩,_,vJ,.inl ⟨rfl,_,eR.of AO⟩,qt F0 B F H ρ σ _ _ rs h4 λv3 F' H' x1 l3=>?_⟩
     have Yh:=l3.int
     subst Yh
     obtain⟨s1,s2,s3,s4⟩:=Pa h6
     have MH:H' bd=some (.lst us):=x1.hh _ _ AO
     have fB:F' bd=none:=x1.nf bd _ AO MK
     have lu:=Br.length
     have RK:Pr (λd v=>Dt X.K ct F' d v) es us:=Br.pr λd v f _ q=>q.1.mono x1.ff
     obtain⟨u,hu,ru⟩:=RK.get' h8
     refine⟨bd,us,w,t2,u,rfl,rfl,MH,by omega,by omega,by rw[←lu];exact s1,hu,?_⟩
     have kc:=rs.change jK x1 vJ b1 dj cf put aa fB (d':=.lst (es.eraseIdx t2)) (o:=.lst (us.eraseIdx t2)) (.inr (.lst fB yx (fk.ofPr ((RK.erase t2).mono λ_ _ q=>Ow.zero q)))) (fn:=[bd]) (by simp) (λa ha=>by
      rw[az]at ha;subst ha;exact .inl aa)
     obtain⟨g1',gr',Xg,MD,MF,MG,ME,Fw⟩:=kc.put (F':=F') (H':=upd H' bd (.lst (us.eraseIdx t2))) hm
     have mN:(ρ.set j (some (D.lst (es.eraseIdx t2))))[i]? = ρ[i]?:=cX (λe=>yG e.symm)
     obtain⟨v',Bi,JM⟩:=MG (.lst ds) (by rw[mN];exact yg h1)
     rw[hσ]at Bi
     cases Bi
     obtain⟨ad',JY,W8,e1,rfl,QJ,Xp,NG⟩:=JM.lst_inv
     cases e1
     have zn:=fk.nil0 NG
     subst zn
     refine⟨ad,JY,u,rfl,rfl,Xp,by rw[←NG.length,cO];exact hz.1,?_⟩
     refine z σ F' _ (kc.change hm (.refl kc.fh) hσ MD MF ME Fw aa QJ (.inr (.lst QJ yx ((NG.mono λ_ _ f' hi o'=>?_).append (.cons (f:=[]) (Ow.zero ru) .nil)))) (fn:=[ad]) (by simp) λa ha=>by
      rw[az]at ha;subst ha;exact .inl aa)
     exact o'
    ·rw[if_neg hz]at h5;cases h5
   |_=>cases h5
  |_=>cases h5
 |_=>cases h5
end
end L3
namespace L2
open PySem PyProof.Rows
theorem zpy {X:Cx}{aj:List (ah×dX)}{σ:St}{H:Hp}{s:am}{QV:VK}{use:Option (af->pw Unit)}{Q0:af->am->Prop}{jX iter tg:Expr}{ifs:List Expr}{scope:gx}{pos iH:dh}{N:List aU}{own:Nat}{cap:List Nat}{wi:TI}{g:TG}{tt:TT}{te:TE}(B:kK X scope N own cap)(hc:X.calm=true)(hi:PI X tg iter wi)
    (kg:gC own g)
    (hg:∀cl C fp s₀ H₀,PG (iT X scope cl N C fp s₀ H₀) tg g) (ht:∀cl C fp s₀ H₀,xZ (iT X scope cl N C fp s₀ H₀) ifs tt) (he:∀cl C fp s₀ H₀,PE (iT X scope cl N C fp s₀ H₀) jX te)
    (hs:∀x,dQ iter X.env x=pure x) (I:Inv X aj σ H s) (h:rP wi own cap g tt te σ H QV)
    (fin:∀(D C:ah) (H5:Hp) (s6:am) (r:Flow),QV (.ref D) H5->Inv X aj σ H5 s6->kL X aj H5 C->(∃m,s6.heap.Ns C m)->pZ (bj X.prog X.w) X.A X.xe use Q0 (.ref D) C (.ok r) s6) :
    bo (bj X.prog X.w) X.A (comprehension (.ListComp jX [⟨tg,iter,ifs,0⟩] scope pos) scope X.env iH (newList []) false (bG iter X.env) use) Q0 X.xe s:=by
  obtain⟨cl,wH,c1,c2,_⟩:=J8 (env:=X.env) scope.names [] (λx hx hf=>I.ok.has x.1 (B.free x hx hf)) (λy c e=>by simp at e)
  have tY:pX scope X.env=pure cl:=by
    have e:pX scope X.env=(forIn scope.names ([]:List (aU×ah)) (λ(x:aU×bx) (cs:List (aU×ah))=>if(x.2==bx.free)=true then do let a ← cellOf X.env x.1;pure (ForInStep.yield ((x.1,a)::cs))else pure (ForInStep.yield cs)) >>= pure:pw (List (aU×ah))):=rfl
    rw[e,wH]
    rfl
  refine wpAny_comprehension_free (use:=use) rfl hs tY B.kind B.locs (dA (hi aj s σ H _ I h) λv s1 h1=>dA h1 λJJ s2 h2=>?_)
  obtain⟨it,fp,tn,J,H2,e,I2,T,vL,f2,W0⟩:=h2
  subst e
  obtain⟨W,⟨m0,w0⟩,cz⟩:=W0 s2.heap.objs.size (I2.hok.fresh (aF _))
  refine wpAny_newObj_type ?_
  have I3:Inv X aj σ (upd H2 s2.heap.objs.size (.lst [])) { s2 with heap:=s2.heap.push { cls:=.type "list",data:=.seq ([]:List af).toArray } }:=I2.lnew .nil (cQ _)
  generalize FT:({ s2 with heap:=s2.heap.push { cls:=.type "list",data:=.seq ([]:List af).toArray } }:am)=s3 at I3
  have k3:∀b o,s2.heap.get? b=some o->s3.heap.get? b=some o:=λb o e=>by rw[←FT];exact aH _ e
  have z3:s3.heap.objs.size=s2.heap.objs.size+1:=by rw[←FT];exact gc _ _
  have qT:∀b∈fp,b<s2.heap.objs.size:=λb hb=>by
    obtain⟨o,e,_⟩:=T.obj _ _ vL b hb
    exact aM e
  have mN:∀b∈fp,b≠s2.heap.objs.size:=λb hb=>br (qT b hb)
  have f3:∀b∈fp,kL X aj (upd H2 s2.heap.objs.size (.lst [])) b:=λb hb=>⟨by rw[yo (mN b hb)];exact(f2 b hb).1,(f2 b hb).2⟩
  have JU:tn 0 s3.heap:=T.keep _ _ _ vL λb _ o e=>k3 b o e
  show bo _ _ (kZ scope X.env.globals cl [] X.env.qual none .none (some X.env)) _ _ _
  refine Sm λh₁ kk A7 AX=>?_
  have IB:=Tn (t':=s3.toks) B I3 c1 c2 f3 (λb hb=>by rw[z3];exact e7 (qT b hb)) A7 kk AX
  generalize cellsFrom (s3.heap.objs.size+1) scope.names cl=cl at IB ⊢
  generalize Ni:({ s3 with heap:=h₁,toks:=s3.toks }:am)=s4 at IB
  have IH:tn 0 s4.heap:=T.keep _ _ _ JU λb _ o e=>by rw[←Ni];exact kk b o e
  show gP (bj X.prog X.w) X.A (.compStart (.ListComp jX [⟨tg,iter,ifs,0⟩] scope pos) 0 (.ref it) (.ref s2.heap.objs.size) (pY scope cl s3.heap.objs.size X.env))
      (pZ (bj X.prog X.w) X.A X.xe use Q0 (.ref s2.heap.objs.size) s3.heap.objs.size) s4
  have ni:∀{H':Hp},(∀b∈fp,H' b=none)->∀b∈fp,kL (iT X scope cl N s3.heap.objs.size fp s3 (upd H2 s2.heap.objs.size (.lst []))) [] H' b:=λhn b hb=>
    ⟨hn b hb,br (by show b<s3.heap.objs.size;rw[z3];exact e7 (qT b hb)),IB.ok.exfs b hb,.inl hb,λx c e=>(IB.ok.exf b hb).2 x c e,λp hp=>(nomatch hp)⟩
  have loop:gP (bj X.prog X.w) X.A (.compLoop (.ListComp jX [⟨tg,iter,ifs,0⟩] scope pos) 0 (.ref it) (.ref s2.heap.objs.size) (pY scope cl s3.heap.objs.size X.env))
      (pZ (bj X.prog X.w) X.A X.xe use Q0 (.ref s2.heap.objs.size) s3.heap.objs.size) s4:=by
    refine Sl (λn s'=>∃i ys H',Inv (iT X scope cl N s3.heap.objs.size fp s3 (upd H2 s2.heap.objs.size (.lst []))) [] (aC own none++gA σ cap) H' s'/\tn i s'.heap/\(∀b∈fp,H' b=none)/\W i n ys H') ?_ m0
      ⟨0,[],_,IB,IH,λb hb=>(f3 b hb).1,w0⟩
    rintro n s5 ⟨i,ys,H5,I5,xD,AK,w5⟩
    obtain⟨hD,AZ⟩:=cz i n ys H5 w5
    rcases AZ with⟨stop,qn⟩|⟨go,iU,step⟩
    · refine dA (T.done (iT X scope cl N s3.heap.objs.size fp s3 (upd H2 s2.heap.objs.size (.lst []))) rfl rfl rfl hc i [] s5 _ H5 (λ_ _=>False) I5 (ni AK) xD stop) λr s6 dJ=>?_
      obtain⟨hr,I6⟩:=dJ
      subst hr
      obtain⟨m,hm,_⟩:=id I6.loc
      refine fin s2.heap.objs.size s3.heap.objs.size H5 s6 _ qn ?_ (I3.fpOk (aF _) I6.free) ⟨m,hm⟩
      have sb:ik s3.heap.objs.size s6.heap s6.heap:=⟨rfl,λ_ _=>rfl⟩
      have U:=I6.base
      have nC:∀b o,s3.heap.get? b=some o->b≠s3.heap.objs.size:=λb o e=>br (aM e)
      have nT:∀b o,H5 b=some o->b≠s3.heap.objs.size:=λb o e z=>by
        have q:H5 s3.heap.objs.size=none:=I6.free
        rw[z,q]at e
        cases e
      refine I3.call' (ch:=fp) I6.os ?_ (λa o e=>(I6.hok a o e).stay (λb u hb q=>sb.extBut b u ?_ q) (λ_ q=>q) λ_ _ q=>q) I6.bare (λb hb=>⟨(f3 b hb).2.2.2.1,(f3 b hb).2.1,(f3 b hb).2.2.2.2.1,(f3 b hb).2.2.2.2.2⟩)
      · exact{
          keep:=λb o e z hb he=>sb.extBut b o (nC b o e) (U.keep b o e z hb he)
          slot:=λb o e z hb he=>by
            obtain⟨sl,q⟩:=U.slot b o e z hb he
            exact⟨sl,sb.extBut b _ (nC b o e) q⟩
          free:=U.free
          there:=λb o e he=>by
            obtain⟨o',q⟩:=U.there b o e he
            exact⟨o',sb.extBut b o' (nC b o e) q⟩
          tups:=U.tups
          frzs:=U.frzs
          tbls:=U.tbls }
      · rcases hb with rfl|hb
        · exact nT _ _ e
        · exact nT _ _ hb
    · refine dA (T.item (iT X scope cl N s3.heap.objs.size fp s3 (upd H2 s2.heap.objs.size (.lst []))) rfl rfl rfl hc i [] s5 _ H5 (λ_ _=>False) I5 (ni AK) xD go) λr s6 dJ=>?_
      obtain⟨u,hr,h6⟩:=dJ
      subst hr
      refine dA h6 λ_ s7 dJ=>?_
      obtain⟨x,H7,I7,r7,y7,BC,Mz⟩:=dJ
      have Lb:=I7.pinned (ni Mz) (T.obj _ _ BC)
      refine dA (hg cl s3.heap.objs.size fp s3 _ _ s7 _ H7 x u _ Lb r7 (kg _ _ _ _ (step x H7 y7))) λ_ s8 dJ=>?_
      obtain⟨σ8,H8,I8,q8,l8,p8⟩:=dJ
      have back:∀{H9:Hp} {s9:am},Inv (iT X scope cl N s3.heap.objs.size fp s3 (upd H2 s2.heap.objs.size (.lst []))) ([]++lN fp s7.heap) σ8 H9 s9 ->
          Inv (iT X scope cl N s3.heap.objs.size fp s3 (upd H2 s2.heap.objs.size (.lst []))) [] (aC own none++gA σ cap) H9 s9/\tn (i+1) s9.heap/\∀b∈fp,H9 b=none:=λ{H9 s9} I9=>by
        refine⟨(I9.unpinned).weak l8.symm (λj v e=>?_),T.keep _ _ _ BC λb hb o e=>(I9.pin (b,o) (ay _ (ay _ (j8 hb e)))).1,λb hb=>?_⟩
        · by_cases hj:j<own
          · rw[ck (by rw[dq];exact hj),fV,if_pos hj]at e
            cases e
          · rw[p8 j (by omega)];exact e
        · obtain⟨o,e,d⟩:=T.obj _ _ BC b hb
          exact(I9.pin (b,o) (ay _ (ay _ (j8 hb e)))).2.1
      refine dA (ht cl s3.heap.objs.size fp s3 _ _ s8 σ8 H8 _ I8 q8) λok s9 dJ=>?_
      obtain⟨H9,I9,q9⟩:=dJ
      cases ok with
      |false=>
        rw[if_neg aW]
        rw[if_neg aW]at q9
        obtain⟨m',A1,w'⟩:=q9
        obtain⟨b1,b2,b3⟩:=back I9
        exact⟨m',A1,i+1,ys,H9,b1,b2,b3,w'⟩
      |true=>
        rw[if_pos rfl]
        rw[if_pos rfl]at q9
        refine dA (he cl s3.heap.objs.size fp s3 _ _ s9 σ8 H9 _ I9 q9) λuy NO dJ=>?_
        obtain⟨y,CP,K9,r10,AM,m',A1,w'⟩:=dJ
        refine dA (J7 _ NO σ8 CP (.ref s2.heap.objs.size) [y] (.ref s2.heap.objs.size) [uy] (λ_ CQ=>CQ=upd CP s2.heap.objs.size (.lst (ys++[y]))) K9 rfl (.cons r10 .nil) ⟨_,ys,y,rfl,rfl,AM,iU,rfl⟩) λ_ s11 dJ=>?_
        obtain⟨_,CQ,La,_,LD⟩:=dJ
        subst LD
        obtain⟨b1,b2,b3⟩:=back La
        exact⟨m',A1,i+1,ys++[y],_,b1,b2,b3,w'⟩
  exact codeAny_compStart_list loop (T.self X.A 0 s4 _ _ IH loop)
theorem zle {X:Cx}{i:Nat}{x:aU}{pos' uK:dh}{jX iter tg:Expr}{ifs:List Expr}{scope:gx}{pos:dh}{N:List aU}{own:Nat}{cap:List Nat}{wi:TI}{g:TG}{tt:TT}{te:TE}(B:kK X scope N own cap)(hc:X.calm=true)(hi:PI X tg iter wi)
  (kg:gC own g)
  (hg:∀cl C fp s₀ H₀,PG (iT X scope cl N C fp s₀ H₀) tg g) (ht:∀cl C fp s₀ H₀,xZ (iT X scope cl N C fp s₀ H₀) ifs tt) (he:∀cl C fp s₀ H₀,PE (iT X scope cl N C fp s₀ H₀) jX te)
  (hN:X.N.Nodup) (wJ:X.N[i]?=some x) (hx:Loc X.env.scope x) (wM:dR (.ListComp jX [⟨tg,iter,ifs,0⟩] scope pos) (some (.Name x pos')) uK.line X.env=pure true)
  (hs:∀x,dQ iter X.env x=pure x:=by intro _;rfl) (hf:X.fn x=true\/X.env.scope.names.lookup x=some .local:=by first|exact .inl rfl|exact .inr rfl|assumption) :
  PS X (.Assign [.Name x pos'] (.ListComp jX [⟨tg,iter,ifs,0⟩] scope pos) uK) (BD (rP wi own cap g tt te) (rH i)):=by
 intro aj s σ H D I h
 rw[exec_Assign_Name_used _ _ _ _ wM]
 refine ba (rB (ba ?_))
 show bo _ X.A (do let _ ← comprehension (.ListComp jX [⟨tg,iter,ifs,0⟩] scope pos) scope X.env _ (newList []) false (bG iter X.env) (some (ie (.Name x pos') X.env))) _ _ s
 refine ba (dW (zpy (use:=some (ie (.Name x pos') X.env)) (Q0:=λ_ s'=>∃σ' H',Inv X aj σ' H' s'/\D.nx σ' H') B hc hi kg hg ht he hs I h λDa C H5 s6 r q I6 fo hm=>?_) (λ_ s' hq=>cx (cx hq)) λ_ _ e=>e)
 show bo _ X.A (ie (.Name x pos') X.env (.ref Da)) _ _ _
 refine wpAny_assign_Name (Ta (v:=.ref Da) I6 hN wJ hx rfl (λs7 I7 Yc=>?_) hf)
 obtain⟨m,hm⟩:=hm
 obtain⟨a,sb,ha⟩:=Yc
 obtain⟨f0,f1,f2,f3,f4,f5⟩:=fo
 have mN:C≠a:=by
  rcases ha with rfl|ha
  ·exact f1
  ·exactλz=>f4 x a ha z.symm
 refine⟨m,hm.sameBut sb mN,λh' sb'=>⟨_,H5,I7.turned (t':=s7.toks) (it:=C) (λb o hb e=>sb'.extBut b o hb e) f0 f1 f3 f4 f5,q⟩⟩
end L2
namespace L3
open PySem PySem.Spec L2
open PyProof.Rows hiding St
section
variable {X:Cx}{ct:Nat->ah}{ms:List Mo}{rk n m k:Nat}{a b c e o:Expr}{f g h:EF}{pos:dh}
theorem jf {om:List Mo}{jX iter tg:Expr}{ifs:List Expr}{scope:gx}{N:List aU}{own:Nat}{cap:List Nat}{fi:Env->Option (List D)}{gg:D->Env->Option Env}{p:BF}{i:Nat}{x:aU}{pos' uK:dh}
  (hm:ms[i]?=some (.ow k)) (hN:X.N.Nodup) (wJ:X.N[i]?=some x) (hx:Loc X.env.scope x)
  (B:kK X scope N own cap) (hc:X.calm=true) (ho:om.length=own) (fF:∀i∈cap,i<ms.length) (hi:vW X ct ms n tg iter fi)
  (hg:∀cl C fp s₀ H₀,vU (iT X scope cl N C fp s₀ H₀) ct (om++iq ms cap) own n tg gg) (ht:∀cl C fp s₀ H₀,zH (iT X scope cl N C fp s₀ H₀) ct (om++iq ms cap) ifs p) (he:∀cl C fp s₀ H₀,XO (iT X scope cl N C fp s₀ H₀) ct (om++iq ms cap) (k-1) jX f)
  (wM:dR (.ListComp jX [⟨tg,iter,ifs,0⟩] scope pos) (some (.Name x pos')) uK.line X.env=pure true:=by rfl)
  (hs:∀x,dQ iter X.env x=pure x:=by intro _;rfl) (hf:X.fn x=true\/X.env.scope.names.lookup x=some .local:=by first|exact .inl rfl|exact .inr rfl|assumption) :
  XS X ct ms rk (.Assign [.Name x pos'] (.ListComp jX [⟨tg,iter,ifs,0⟩] scope pos) uK) (sSet i (dI fi own cap gg p f)):=by
 obtain⟨wi,g,tt,te,pi,kg,pg,pt,pe,q⟩:=TK (k:=k-1) (pos:=pos) B hc ho fF hi hg ht he
 refine⟨_,zle B hc pi kg pg pt pe hN wJ hx wM hs hf,λF0 B F H ρ σ o E rs e w=>?_⟩
 obtain⟨d,h1,h2⟩:=aV e
 cases h2
 cases k with
 |succ k=>exact q F0 B F H ρ σ d _ rs h1 λv F' H' fp x l nd hf=>w _ F' H' (rs.set hm x l nd hf)
 |zero=>
  refine q F0 B F H ρ σ d _ rs h1 λv F' H' fp x l nd hf=>?_
  obtain⟨F2,x2,l2⟩:=l.freeze x hf
  exact w _ F2 H' (rs.set hm x2 (Ow.zero l2) bP λa z=>by cases z)
theorem Pc {i:Nat}{x:aU}{pos':dh}(hm:ms[i]?=some (.ow k))(hN:X.N[i]?=some x:=by rfl)(hv:pF X.env.scope x:=by first|exact Or.inl rfl|exact Or.inr (Or.inl rfl)|exact Or.inr (Or.inr rfl))(hd:(x==("__debug__":aU))=false:=by decide)
  (jF:(x==("__classdict__":aU))=false:=by decide):XS X ct ms 0 (.Return (some (.Name x pos')) pos) (sRet (eV i)):=by
 refine⟨_,Pp (qj hN hv hd jF),λF0 B F H ρ σ o E rs e w=>?_⟩
 obtain⟨d,h1,h2⟩:=aV e
 cases h2
 obtain⟨fp,sl,nd,hb⟩:=rs.sl
 obtain⟨f1,fr,i1,i2,i3,i4,i5⟩:=sl.put hm
 obtain⟨v,Nk,l⟩:=i4 d (yg h1)
 obtain⟨F',x,l2⟩:=l.freeze (⟨rs.f0,rs.bh,rs.fh,rs.nf⟩:gK F0 B F H) (λz hz=>hb z (i1 z hz))
 exact⟨v,Nk,w v F' H [] x.ff x.hh x.fh x.nf (Ow.zero l2) bP λz hz=>by cases hz⟩
theorem zvs (hu:X.A.units+1<gz)(ha:XE X ct ms n a f)(hb:XE X ct ms m b g)(hm:dG .In b=false):XT X ct ms (.Compare a [.In] [b] pos) (tb λρ=>(f ρ).bind λx=>(g ρ).bind λy=>(gM y x).bind λr=>some (.bl r.isSome)):=by
 obtain⟨ta,tb',pa,pb,q⟩:=ha.bin hb
 refine⟨_,U9 (zu9 hu pa pb) hm,λF0 B F H ρ σ t Q rs e w=>?_⟩
 obtain⟨d0,h0,h9⟩:=aV e
 obtain⟨d1,d2,h1,h2,h3⟩:=dP h0
 obtain⟨r,h4,h5⟩:=aV h3
 cases h5
 cases h9
 refine q F0 B F H ρ σ d1 d2 _ rs h1 h2 λx y F' H' x1 l1 l2=>?_
 obtain⟨a,o,rfl,g,_,h⟩:=KL (r:=r) x1.fh l2 l1 h4
 refine⟨a,o,rfl,g,?_⟩
 cases r with
 |none=>rw[h.none_of];exact⟨_,rfl,w F' H' x1⟩
 |some d=>obtain⟨u,rfl,wN⟩:=h.some_of;exact⟨_,rfl,w F' H' x1⟩
theorem znj (hu:X.A.units+1<gz)(ha:XE X ct ms n a f)(hb:XE X ct ms m b g)(hm:dG .NotIn b=false):XT X ct ms (.Compare a [.NotIn] [b] pos) (tb λρ=>(f ρ).bind λx=>(g ρ).bind λy=>(gM y x).bind λr=>some (.bl (!r.isSome))):=by
 obtain⟨ta,tb',pa,pb,q⟩:=ha.bin hb
 refine⟨_,U9 (zmh hu pa pb) hm,λF0 B F H ρ σ t Q rs e w=>?_⟩
 obtain⟨d0,h0,h9⟩:=aV e
 obtain⟨d1,d2,h1,h2,h3⟩:=dP h0
 obtain⟨r,h4,h5⟩:=aV h3
 cases h5
 cases h9
 refine q F0 B F H ρ σ d1 d2 _ rs h1 h2 λx y F' H' x1 l1 l2=>?_
 obtain⟨a,o,rfl,g,_,h⟩:=KL (r:=r) x1.fh l2 l1 h4
 refine⟨a,o,rfl,g,?_⟩
 cases r with
 |none=>rw[h.none_of];exact⟨_,rfl,w F' H' x1⟩
 |some d=>obtain⟨u,rfl,wN⟩:=h.some_of;exact⟨_,rfl,w F' H' x1⟩
end
end L3
namespace L2
open PySem PyProof.Rows
def Jd (K:ae)(a:ah)(n:Nat):It :=
 ⟨λi H=>i<n/\∃xs,eR K H a xs/\xs.length=n,λi H x H'=>H'=H/\∀xs,eR K H a xs->xs[n-1-i]?=some x,λi _=>n<=i⟩
theorem zpz {P:bz}{w:ce}{K:ae}{tg:Expr}(a it:ah)(n:Nat):Turn P w K tg (Jd K a n) [it] it (λi h=>i<=n/\h.IsRevIter it a ((n:Int)-1-(i:Int))) where
 mem:=by simp
 obj:=λi h st b hb=>by
  have e:b=it:=by simpa using hb
  subst e
  obtain⟨_,o,e,c,d⟩:=st
  exact⟨o,e,λv z=>by rw[d]at z;cases z⟩
 keep:=λi h h' st k=>⟨st.1,st.2.at λo e=>k it (by simp) o e⟩
 item:=by
  intro X hP hw hK hc i aj s σ H E I hf st hg
  subst hP hw hK
  obtain⟨hi,xs,hq,hx⟩:=hg
  obtain⟨cw,rv,p,hz⟩:=I.list hq
  have hl:=rv.length
  have Rf:xs[n-1-i]?=some (xs[n-1-i]'(by omega)):=by simp[show n-1-i<xs.length by omega]
  obtain⟨u,hu,ru⟩:=rv.get Rf
  obtain⟨f0,f1,f2,f3,f4,f5⟩:=hf it (by simp)
  have e:(n:Int)-1-(i:Int)=((n-1-i:Nat):Int):=by omega
  have st:=st.2
  rw[e]at st
  refine wpAny_pyNext_rev_item st p.isList (x:=u) (by simpa using hu) λh' p9 sb=>?_
  have I1:Inv X aj σ H { s with heap:=h' }:=I.turned (t':=s.toks) (λb o hb e=>(sb.2 b hb).trans e) f0 f1 f3 f4 f5
  obtain⟨o,e',c,d⟩:=id p9
  have e2:((n-1-i:Nat):Int)-1=(n:Int)-1-((i+1:Nat):Int):=by omega
  rw[e2]at p9
  exact⟨u,rfl,K4 (s:={ s with heap:=h' }) e' c d (by decide) ⟨_,H,I1,ru,⟨rfl,λys hy=>by rw[I.list_inj hy hq];exact Rf⟩,⟨hi,p9⟩,λb hb=>(hf b hb).1⟩⟩
 done:=by
  intro X hP hw hK hc i aj s σ H E I hf st hg
  subst hP hw hK
  obtain⟨f0,f1,f2,f3,f4,f5⟩:=hf it (by simp)
  have e:(n:Int)-1-(i:Int) = -1:=by have:=st.1;have h2:n<=i:=hg;omega
  have st:=st.2
  rw[e]at st
  exact wpAny_pyNext_rev_end (I.ok.hd hc) st λh' eb=>⟨rfl,I.turned (t':=s.toks) (λb o hb e=>eb b o hb e) f0 f1 f3 f4 f5⟩
 self:=λ_ _ _ _ _ st h=>la st.2 h
def Nt (K:ae)(ta:TE):TI:=λσ H R=>ta σ H λv H1=>∃a xs,v=.ref a/\eR K H1 a xs/\R (Jd K a xs.length) H1
theorem zvt {X:Cx}{tg e:Expr}{te:TE}{p pos:dh}(hg:Gl X "reversed")(hm:X.mg "reversed"=none)(he:PE X e te)(hs:ar [e] X.env=[(false,bG e X.env)]:=by rfl):PI X tg (.Call (.Name "reversed" p) [e] [] pos) (Nt X.K te):=by
 intro aj s σ H R I h
 refine de (tE (u:=.type "reversed") I hg hm (by rfl) ?_ (by decide) (by decide))
 refine bH (dA ((ub he uQ hs) pos aj s σ H (λvs H1=>match vs with|[x]=>∃a xs,x=.ref a/\eR X.K H1 a xs/\R (Jd X.K a xs.length) H1|_=>False) I h) λus s1 ⟨vs,H1,I1,r,q⟩=>?_) hs rfl
 match vs,q with
 |[x],q=>
  obtain⟨a,xs,rfl,hq,q⟩:=q
  obtain⟨u,rfl,ru⟩:=r.one
  cases ru
  obtain⟨cw,rv,pl,hz⟩:=I1.list hq
  have hl:=rv.length
  refine call_reversed_list pl.isList ?_
  have I2:Inv X aj σ H1 { s1 with heap:=s1.heap.push (nW a ((cw.toArray.size:Int)-1)) }:=I1.kept (t':=s1.toks) λb o e=>aH _ e
  have st:(s1.heap.push (nW a ((cw.toArray.size:Int)-1))).IsRevIter s1.heap.objs.size a ((xs.length:Int)-1-((0:Nat):Int)):=⟨_,bF _ rfl,rfl,by simp[nW,hl]⟩
  refine la st ⟨s1.heap.objs.size,[s1.heap.objs.size],_,_,H1,rfl,I2,zpz a _ xs.length,⟨cQ _,st⟩,λb hb=>?_,q⟩
  have e:b=s1.heap.objs.size:=by simpa using hb
  subst e
  exact I1.fpOk (aF _) (I1.hok.fresh (aF _))
end L2
namespace L3
open PySem PySem.Spec L2
open PyProof.Rows hiding St
section
variable {X:Cx}{ct:Nat->ah}{ms:List Mo}{rk n m k:Nat}{st:bO}{rest:List bO}{a b c e tg:Expr}{f g h:EF}{p q:BF}{u w:SF}{pos:dh}
theorem zvu {K:ae}{F B:Hp}{a:ah}{vs:List V}{ds:List D}(hp:Pr (Al K ct F B n) ds vs)(keep:∀F' H',bR F F'->bR B H'->bR F' H'->eR K H' a vs):qM K ct F B n (Jd K a vs.length) ds.reverse:=by
 intro i F' H' s1 s2 s3
 have hs:eR K H' a vs:=keep F' H' s1 s2 s3
 have hl:=hp.length
 refine⟨λd hd=>?_,λqU=>by show vs.length<=i;rw[dO]at qU;omega⟩
 have hi:i<ds.length:=by
  have:=(aT.mp hd).1
  rwa[dO]at this
 rw[pT hi]at hd
 obtain⟨v,hv,l⟩:=hp.get' hd
 refine⟨⟨by omega,vs,hs,rfl⟩,λx H2 y=>?_⟩
 obtain⟨e,y⟩:=y
 subst e
 have:=y vs hs
 rw[←hl,hv]at this
 cases this
 exact⟨F',.refl s3,l.mono s1 (.refl _)⟩
theorem zta {pp:dh}(hm:X.mg "reversed"=none)(he:XE X ct ms n e f)(hg:Gl X "reversed":=by rfl)(hs:ar [e] X.env=[(false,bG e X.env)]:=by rfl):vW X ct ms (n-1) tg (.Call (.Name "reversed" pp) [e] [] pos) (λρ=>(lsD f ρ).bind λds=>some ds.reverse):=by
 obtain⟨t,pt,qt⟩:=he
 refine⟨_,zvt hg hm pt hs,λF0 B F H ρ σ ds R rs e w=>?_⟩
 obtain⟨ds0,h0,h9⟩:=aV e
 cases h9
 obtain⟨d,h1,h2⟩:=aV h0
 rw[OQ h2]at h1
 refine qt F0 B F H ρ σ _ _ rs h1 λv F' H' x l=>?_
 obtain⟨a,vs,rfl,ha,hp⟩:=l.lst x.fh
 exact⟨a,vs,rfl,ha,w _ F' H' x (zvu hp λF2 H2 s1 s2 s3=>s2.seq ha)⟩
end
end L3
namespace L3
open PySem PySem.Spec L2
open PyProof.Rows hiding St
theorem fk.upd {R R':D->V->List ah->Prop}{d:D}{ds:List D}{vs:List V}{fp:List ah}{i:Nat}(h:fk R ds vs fp)(e:ds[i]?=some d):∃v f,vs[i]?=some v/\R d v f/\(∀a∈f,a∈fp) /\
  ∀d',R' d' v f->fp.Nodup->(∀d v f',(∀a∈f',a∈fp)->(∀a∈f',a∉f)->R d v f'->R' d v f')->fk R' (ds.set i d') vs fp:=by
 induction h generalizing i with
 |nil=>cases e
 |@cons _ _ _ _ f g h t ih=>
  cases i with
  |zero=>
   cases e
   refine⟨_,f,rfl,h,λa ha=>bm _ ha,λd' hd nd ot=>?_⟩
   rw[bq]at nd
   exact .cons hd (t.mono λd v f' hi r=>ot d v f' (λa ha=>ay _ (hi a ha)) (λa ha hf=>nd.2.2 a hf a (hi a ha) rfl) r)
  |succ i=>
   obtain⟨v,f2,h1,h2,h3,h4⟩:=ih (i:=i) e
   refine⟨v,f2,h1,h2,λa ha=>ay _ (h3 a ha),λd' hd nd ot=>?_⟩
   rw[bq]at nd
   exact .cons (ot _ _ f (λa ha=>bm _ ha) (λa ha hf=>nd.2.2 a ha a (h3 a hf) rfl) h) (h4 d' hd nd.2.1 λd v f' hi hn r=>ot d v f' (λa ha=>ay _ (hi a ha)) hn r)
section
variable {X:Cx}{ct:Nat->ah}{ms:List Mo}{rk n m k:Nat}{st:bO}{rest:List bO}{a b c e tg:Expr}{f g h:EF}{p q:BF}{u w:SF}{pos:dh}
def rh (i:Nat)(fj fl f:EF):SF:=λρ=>(f ρ).bind λd=>(eV i ρ).bind λo=>(fj ρ).bind λj=>(fl ρ).bind λl=>match o,j,l with
 |.lst rs,.int y,.int z=>(ixN rs.length y).bind λy'=>(rs[y']?).bind λr=>(match r with
  |.lst ds=>(kT ds z d).bind λn4=>some (.nx (ρ.set i (some (.lst (rs.set y' (.lst n4))))))
  |_=>none)
 |_,_,_=>none
theorem zp0 (i:Nat){x:aU}{j l:Expr}{p1 p2 gE:dh}{fj fl:EF}(hm:ms[i]?=some (.ow 2))(hj:XE X ct ms n j fj)(hl:XE X ct ms m l fl)(hp:mK j)(he:XE X ct ms 0 e f)(hN:X.N[i]?=some x:=by rfl)(hv:pF X.env.scope x:=by first|exact Or.inl rfl|exact Or.inr (Or.inl rfl)|exact Or.inr (Or.inr rfl))(hd:(x==("__debug__":aU))=false:=by decide)
  (jF:(x==("__classdict__":aU))=false:=by decide)
  (ha:∀v,ie (.Subscript (.Subscript (.Name x p1) j p2) l gE) X.env v=(do
   let ov ← ek [v] (bG (.Subscript (.Name x p1) j p2) X.env)
   let iv ← ek [v,ov] (bG l X.env)
   ip gE
   ek [v,ov,iv] (ny ov iv v)
   sS [v,ov,iv] []):=by intro _;rfl)
  (hs:mC [.Subscript (.Subscript (.Name x p1) j p2) l gE] e pos.line X.env=pure false:=by rfl) (hw:mB [.Subscript (.Subscript (.Name x p1) j p2) l gE] e X.env=pure none:=by rfl)
  (h1:(dc [.Subscript (.Subscript (.Name x p1) j p2) l gE] X.env).map (·.2)=[ie (.Subscript (.Subscript (.Name x p1) j p2) l gE) X.env]:=by rfl) :
  XS X ct ms rk (.Assign [.Subscript (.Subscript (.Name x p1) j p2) l gE] e pos) (rh i fj fl f):=by
 obtain⟨t,pt,qt⟩:=he
 obtain⟨tj,wZ,xA⟩:=hj
 obtain⟨tl,ptl,qtl⟩:=hl
 refine⟨_,Pq pt (U0 (Vp Us (qj hN hv hd jF) wZ hp) ptl OE ha) hs hw h1,λF0 B F H ρ σ o E rs e z=>?_⟩
 obtain⟨d,g1,g2⟩:=aV e
 obtain⟨d1,rG,g3,g4,g5⟩:=dP g2
 obtain⟨W4,g6,g7⟩:=aV g5
 refine qt F0 B F H ρ σ d _ rs g1 λv0 F1 H1 x1 l0=>?_
 have kc:=rs.ext x1
 obtain⟨f1,fr,n1,b1,dj,i4,cf,put⟩:=kc.put (F':=F) (H':=H) hm
 obtain⟨v,hσ,ow⟩:=i4 d1 (yg g3)
 refine⟨v,hσ,xA F0 B F1 H1 ρ σ rG _ kc g4 λvj F2 H2 x2 lj=>?_⟩
 cases d1 with
 |lst rws=>
  cases rG with
  |int yi=>
   cases W4 with
   |int zi=>
    obtain⟨y',k1,k2⟩:=aV g7
    obtain⟨r,k3,k4⟩:=aV k2
    cases r with
    |lst ds=>
     obtain⟨n4,k5,k6⟩:=aV k4
     cases k6
     obtain⟨jn,k8,k9⟩:=aV k5
     cases k9
     obtain⟨ad,vs,oI,rfl,rfl,hF,hH,ol⟩:=ow.lst_inv
     obtain⟨vr,f2,q1,q2,q3,q4⟩:=fk.upd (R':=Ow X.K ct F2 (upd H2 0 (.lst [])) 1) ol k3
     obtain⟨bd,us,QG,rfl,rfl,MK,AO,Br⟩:=q2.lst_inv
     clear q4
     have hA:H2 ad=some (.lst vs):=x2.hh _ _ hH
     refine⟨ad,vs,yi,.ref bd,rfl,lj.int,eR.of hA,?_,?_⟩
     ·unfold atI
      rw[←ol.length,k1]
      exact q1
     ·refine qtl F0 B F2 H2 ρ σ _ _ (kc.ext x2) g6 λvl F3 H3 x3 ll=>?_
      have ox:=x2.trans x3
      have hB:H3 bd=some (.lst us):=ox.hh _ _ AO
      have fB:F3 bd=none:=ox.nf bd _ AO MK
      have e0:=Br.nil0
      subst e0
      have Cj:=bC.mp n1
      have QQ:bd∈oI:=q3 bd aa
      have mN:ad≠bd:=λz=>Cj.1 (z▸QQ)
      refine⟨bd,us,zi,jn,rfl,ll.int,hB,by rw[←Br.length];exact k8,?_⟩
      obtain⟨vr',f2',RL,q2',q3',q4'⟩:=fk.upd (R':=Ow X.K ct F3 (upd H3 bd (.lst (us.set jn v0))) 1) ol k3
      rw[q1]at RL
      cases RL
      obtain⟨bd',us',W9,eb,rfl,_,QL,NH⟩:=q2'.lst_inv
      cases eb
      have e1:=NH.nil0
      subst e1
      rw[AO]at QL
      cases QL
      refine z σ F3 _ (kc.change hm ox hσ b1 dj cf put (ai _ QQ) fB (.inr (.lst (ox.nf ad _ hH hF) (by rw[yo mN];exact ox.hh _ _ hH) (q4' (.lst (ds.set jn d)) (.inr (.lst fB yx (fk.set0 ⟨Dt.mono ox.ff l0,rfl⟩ (λ_ _ _ q=>q.2) jn (Br.mono λ_ _ _ _ q=>⟨q.1.mono ox.ff,q.2⟩)))) Cj.2 ?_))) (fn:=ad::oI) n1 λa ha=>.inl ha)
      intro d0 v1 f' t9 MU o'
      refine(o'.ext ox).frame (.refl _) λa' Ju=>⟨yo λe=>MU a' Ju (by rw[e];exact aa),((o'.ext ox).cells a' Ju).1⟩
    |_=>cases k4
   |_=>cases g7
  |_=>cases g7
 |_=>cases g7
end
end L3
namespace L3
open PySem PySem.Spec L2
open PyProof.Rows hiding St
section
variable {K:ae}{ct:Nat->ah}{F F' H B F0:Hp}
theorem SL.fz {ms:List Mo}{ρ:Env}{σ:St}{fp:List ah}{i k:Nat}(h0:SL K ct F B H ms ρ σ fp)(s:bR F H):fp.Nodup->ms[i]?=some (.ow k)->∃f1:List ah,(∀a∈f1,a∈fp) /\
  ∃iE,SL K ct (iG F H f1) B H (ms.set i (.ow 0)) ρ σ iE/\iE.Nodup/\∀a∈iE,a∈fp/\a∉f1:=by
 induction h0 generalizing i with
 |nil=>
  intro _ e
  simp at e
 |@no m0 o0 ms ρ σ fp t ih=>
  intro nd e
  cases i with
  |zero=>
   obtain⟨w1,w2,w3⟩:=jq (F:=F) (H:=H) (fp:=[]) s (λa z=>by cases z)
   exact⟨[],λa z=>(by cases z),fp,.no (t.frame w1 λa z=>⟨rfl,by unfold iG;rw[if_neg (by simp)];exact(t.cells a z).1⟩),nd,λa z=>⟨z,by simp⟩⟩
  |succ i=>
   obtain⟨f1,h1,iE,q1,q2,q3⟩:=ih (i:=i) nd (by simpa using e)
   exact⟨f1,h1,iE,.no q1,q2,q3⟩
 |@al n0 d0 v0 ms ρ σ fp h t ih=>
  intro nd e
  cases i with
  |zero=>
   simp at e
  |succ i=>
   obtain⟨f1,h1,iE,q1,q2,q3⟩:=ih (i:=i) nd (by simpa using e)
   obtain⟨w1,w2,w3⟩:=jq (F:=F) (H:=H) (fp:=f1) s (λa z=>(t.cells a (h1 a z)).1)
   exact⟨f1,h1,iE,.al (h.mono w1 (.refl _)) q1,q2,q3⟩
 |@px d0 v0 ms ρ σ fp h t ih=>
  intro nd e
  cases i with
  |zero=>
   simp at e
  |succ i=>
   obtain⟨f1,h1,iE,q1,q2,q3⟩:=ih (i:=i) nd (by simpa using e)
   obtain⟨w1,w2,w3⟩:=jq (F:=F) (H:=H) (fp:=f1) s (λa z=>(t.cells a (h1 a z)).1)
   exact⟨f1,h1,iE,.px (h.mono w1 (.refl _)) q1,q2,q3⟩
 |@so d0 x ms ρ σ fp h t ih=>
  intro nd e
  cases i with
  |zero=>
   simp at e
  |succ i=>
   obtain⟨n1,n2⟩:=bC.mp nd
   obtain⟨f1,h1,iE,q1,q2,q3⟩:=ih (i:=i) n2 (by simpa using e)
   obtain⟨w1,w2,w3⟩:=jq (F:=F) (H:=H) (fp:=f1) s (λa z=>(t.cells a (h1 a z)).1)
   refine⟨f1,λa z=>ai _ (h1 a z),x::iE,.so (h.frame w1 λa z=>⟨rfl,?_⟩) q1,bC.mpr ⟨λz=>n1 (q3 x z).1,q2⟩,λa z=>?_⟩
   ·rw[az]at z
    unfold iG
    rw[if_neg λq=>n1 (z▸h1 a q)]
    exact(h.cells a (by rw[z];exact aa)).1
   ·rcases aA.mp z with z|z
    ·exact⟨z▸aa,λq=>n1 (z▸h1 a q)⟩
    ·exact⟨ai _ (q3 a z).1,(q3 a z).2⟩
 |@ow n0 d0 v0 ms ρ σ f fp h t ih=>
  intro nd e
  cases i with
  |zero=>
   obtain⟨w1,w2,w3⟩:=jq (F:=F) (H:=H) (fp:=f) s (λa z=>(h.cells a z).1)
   obtain⟨n1,n2,n3⟩:=bq.mp nd
   refine⟨f,λa z=>bm _ z,[]++fp,.ow ⟨h.dt w1 w3,rfl⟩ (t.frame w1 λa z=>⟨rfl,?_⟩),n2,λa z=>⟨ay _ z,λq=>n3 a q a z rfl⟩⟩
   unfold iG
   rw[if_neg λq=>n3 a q a z rfl]
   exact(t.cells a z).1
  |succ i=>
   obtain⟨n1,n2,n3⟩:=bq.mp nd
   obtain⟨f1,h1,iE,q1,q2,q3⟩:=ih (i:=i) n2 (by simpa using e)
   obtain⟨w1,w2,w3⟩:=jq (F:=F) (H:=H) (fp:=f1) s (λa z=>(t.cells a (h1 a z)).1)
   refine⟨f1,λa z=>ay _ (h1 a z),f++iE,.ow (h.frame w1 λa z=>⟨rfl,?_⟩) q1,bq.mpr ⟨n1,q2,λa z b zb=>n3 a z b (q3 b zb).1⟩,λa z=>?_⟩
   ·unfold iG
    rw[if_neg λq=>n3 a z a (h1 a q) rfl]
    exact(h.cells a z).1
   ·rcases bc.mp z with z|z
    ·exact⟨bm _ z,λq=>n3 a z a (h1 a q) rfl⟩
    ·exact⟨ay _ (q3 a z).1,(q3 a z).2⟩
theorem SL.forget (m':Mo){ms:List Mo}{ρ:Env}{σ:St}{fp:List ah}(i:Nat)(h0:SL K ct F B H ms ρ σ fp):∃iE,SL K ct F B H (ms.set i m') (ρ.set i none) σ iE/\iE.Sublist fp:=by
 induction h0 generalizing i with
 |nil=>
  exact⟨[],.nil,.refl _⟩
 |@no m0 o0 ms ρ σ fp t ih=>
  cases i with
  |zero=>
   exact⟨fp,.no t,.refl _⟩
  |succ i=>
   obtain⟨iE,q1,q2⟩:=ih i
   exact⟨iE,.no q1,q2⟩
 |@al n0 d0 v0 ms ρ σ fp h t ih=>
  cases i with
  |zero=>
   exact⟨fp,.no t,.refl _⟩
  |succ i=>
   obtain⟨iE,q1,q2⟩:=ih i
   exact⟨iE,.al h q1,q2⟩
 |@px d0 v0 ms ρ σ fp h t ih=>
  cases i with
  |zero=>
   exact⟨fp,.no t,.refl _⟩
  |succ i=>
   obtain⟨iE,q1,q2⟩:=ih i
   exact⟨iE,.px h q1,q2⟩
 |@so d0 x ms ρ σ fp h t ih=>
  cases i with
  |zero=>
   exact⟨fp,.no t,List.sublist_cons_self _ _⟩
  |succ i=>
   obtain⟨iE,q1,q2⟩:=ih i
   exact⟨_,.so h q1,q2.cons₂ _⟩
 |@ow n0 d0 v0 ms ρ σ f fp h t ih=>
  cases i with
  |zero=>
   exact⟨fp,.no t,List.sublist_append_right _ _⟩
  |succ i=>
   obtain⟨iE,q1,q2⟩:=ih i
   exact⟨_,.ow h q1,(List.Sublist.refl _).append q2⟩
theorem RS.fz {ms:List Mo}{ρ:Env}{σ:St}{i k:Nat}(rs:RS K ct F0 B ms F H ρ σ)(hm:ms[i]?=some (.ow k)):∃F',RS K ct F0 B (ms.set i (.ow 0)) F' H ρ σ:=by
 obtain⟨fp,sl,nd,hb⟩:=rs.sl
 obtain⟨f1,h1,iE,q1,q2,q3⟩:=sl.fz rs.fh nd hm
 obtain⟨w1,w2,w3⟩:=jq (F:=F) (H:=H) (fp:=f1) rs.fh (λa z=>(sl.cells a (h1 a z)).1)
 refine⟨iG F H f1,rs.f0.trans w1,rs.bh,w2,λa o ho hn=>?_,iE,q1,q2,λa z=>hb a (q3 a z).1⟩
 have:¬a∈f1:=λz=>by rw[hb a (h1 a z)]at ho;cases ho
 unfold iG;rw[if_neg this];exact rs.nf a o ho hn
theorem RS.forget {ms:List Mo}{ρ:Env}{σ:St}(m':Mo)(i:Nat)(rs:RS K ct F0 B ms F H ρ σ):RS K ct F0 B (ms.set i m') F H (ρ.set i none) σ:=by
 obtain⟨fp,sl,nd,hb⟩:=rs.sl
 obtain⟨iE,q1,q2⟩:=sl.forget m' i
 exact⟨rs.f0,rs.bh,rs.fh,rs.nf,iE,q1,q2.nodup nd,λa z=>hb a (q2.subset z)⟩
end
def uH (i:Nat):Out->Out
 |.nx ρ=>.nx (ρ.set i none)
 |.rt d=>.rt d
 |.bk ρ=>.bk (ρ.set i none)
 |.ct ρ=>.ct (ρ.set i none)
def sFz (i:Nat)(u:SF):SF:=λρ=>(u ρ).bind λo=>some (uH i o)
section
variable {X:Cx}{ct:Nat->ah}{ms:List Mo}{rk k:Nat}
theorem zlf {ms:List Mo}{i k:Nat}(hm:ms[i]?=some (.ow k)):(ms.set i (.ow 0)).set i (.ow k)=ms:=by
 rw[List.set_set]
 apply li
 intro j
 rw[sM]
 split
 ·next h=>
  subst h
  rw[hm]
  have:=(aT.mp hm).1
  rw[if_pos this]
 ·rfl
theorem zxh {i:Nat}{t:lD->St->Hp->Prop}{w:SF}(hm:ms[i]?=some (.ow k))
  (q:∀(F0 B F H:Hp) (ρ:Env) (σ:St) (o:Out) (E:lD),RS X.K ct F0 B (ms.set i (.ow 0)) F H ρ σ->w ρ=some o->ma X.K ct F0 B (ms.set i (.ow 0)) rk E o->t E σ H)
  (F0 B F H:Hp) (ρ:Env) (σ:St) (o:Out) (E:lD) (rs:RS X.K ct F0 B ms F H ρ σ) (e:sFz i w ρ=some o) (z:ma X.K ct F0 B ms rk E o):t E σ H:=by
 obtain⟨F',r2⟩:=rs.fz hm
 obtain⟨o1,e1,e2⟩:=aV e
 refine q F0 B F' H ρ σ o1 E r2 e1 ?_
 have back:∀{ρ':Env} {σ':St} {F2 H2:Hp},RS X.K ct F0 B (ms.set i (.ow 0)) F2 H2 ρ' σ'->RS X.K ct F0 B ms F2 H2 (ρ'.set i none) σ':=λr=>by
  have:=r.forget (.ow k) i
  rw[zlf hm]at this
  exact this
 cases o1 with
 |nx ρ'=>cases e2;exactλσ' F2 H2 r=>z σ' F2 H2 (back r)
 |rt d=>cases e2;exact z
 |bk ρ'=>cases e2;exactλσ' F2 H2 r=>z σ' F2 H2 (back r)
 |ct ρ'=>cases e2;exactλσ' F2 H2 r=>z σ' F2 H2 (back r)
theorem Vf {RV:List bO}{w:SF}{i:Nat}(hm:ms[i]?=some (.ow k))(h:si X ct (ms.set i (.ow 0)) rk RV w):si X ct ms rk RV (sFz i w):=by
 obtain⟨t,pt,qt⟩:=h
 exact⟨t,pt,zxh hm qt⟩
theorem zp1 {i:Nat}{d:D}:uH i (.rt d)=.rt d:=rfl
theorem zp2 {i:Nat}{ρ:Env}:uH i (.nx ρ)=.nx (ρ.set i none):=rfl
end
end L3
namespace L3
open PySem PySem.Spec L2
open PyProof.Rows hiding St
section
variable {X:Cx}{ct:Nat->ah}{ms:List Mo}{rk n m k:Nat}{a b c tg:Expr}{pos:dh}
end
end L3
namespace L2
open PySem PySem.Spec PyProof.Rows
def Lg (K:ae)(a b:ah):It :=
 ⟨λi H=>∃xs ys x y,(eR K H a xs/\eR K H b ys)/\xs[i]?=some x/\ys[i]?=some y,λi H x H'=>∃p u v,H p=none/\x=.ref p/\H'=upd H p (.tup [u,v])/\(∀xs,eR K H a xs->xs[i]?=some u)/\∀ys,eR K H b ys->ys[i]?=some v,
  λi H=>∃xs ys,(eR K H a xs/\eR K H b ys)/\(xs.length<=i\/ys.length<=i)⟩
theorem zp3 {P:bz}{w:ce}{K:ae}{lJ:List Expr}{kt:Nat}{pt:dh}(z TI TO i1 i2 l1 l2:ah)(ap:ZipApart z TI TO i1 i2 l1 l2) :
    Turn P w K (.Tuple lJ kt pt) (Lg K l1 l2) [z,TI,TO,i1,i2] z (λi h=>IsZip h z TI TO .none/\IsPair h TI (.ref i1) (.ref i2)/\(∃a b,IsPair h TO a b)/\h.IsListIter i1 l1 i/\h.IsListIter i2 l2 i) where
  mem:=by simp
  obj:=λi h st b hb=>by
    obtain⟨q1,q2,⟨a,b',q3⟩,⟨o4,e4,_,d4⟩,⟨o5,e5,_,d5⟩⟩:=st
    simp only[aA,cI,or_false]at hb
    rcases hb with rfl|rfl|rfl|rfl|rfl
    · exact⟨_,q1,λv y=>by cases y⟩
    · exact⟨_,q2,λv y=>by cases y⟩
    · exact⟨_,q3,λv y=>by cases y⟩
    · exact⟨_,e4,λv y=>by rw[d4]at y;cases y⟩
    · exact⟨_,e5,λv y=>by rw[d5]at y;cases y⟩
  keep:=λi h h' st k=>by
    obtain⟨q1,q2,⟨a,b',q3⟩,q4,q5⟩:=st
    exact⟨k z (by simp) _ q1,k TI (by simp) _ q2,⟨a,b',k TO (by simp) _ q3⟩,q4.at λo x=>k i1 (by simp) o x,q5.at λo x=>k i2 (by simp) o x⟩
  item:=by
    intro X hP hw hK hc i aj s σ H E I hf st hg
    subst hP hw hK
    obtain⟨xs,ys,x,y,⟨hq,rL⟩,hx,hy⟩:=hg
    obtain⟨cw,rv,p,hz⟩:=I.list hq
    obtain⟨its',JO,p',JG⟩:=I.list rL
    obtain⟨u,hu,ru⟩:=rv.get hx
    obtain⟨u',wN,ru'⟩:=JO.get hy
    obtain⟨q1,q2,⟨a,b',q3⟩,q4,q5⟩:=st
    refine wpAny_pyNext_zip_item ap q1 q2 q3 q4 q5 p.isList p'.isList (x:=u) (y:=u') (by simpa using hu) (by simpa using wN) λh1 r1 r2 r3 r4 r5 hsz hk=>?_
    refine⟨_,rfl,wpAny_letOwnedTupleGo_zip (s:={ s with heap:=h1 }) r1 λh2 MX tw=>?_⟩
    have Uk:z<s.heap.objs.size:=aM q1
    have tlt:TI<s.heap.objs.size:=aM q2
    have olt:TO<s.heap.objs.size:=aM q3
    have Nw:i1<s.heap.objs.size:=by obtain⟨_,q,_⟩:=q4;exact aM q
    have Yr:i2<s.heap.objs.size:=by obtain⟨_,q,_⟩:=q5;exact aM q
    have MP:h2.get? s.heap.objs.size=some { cls:=.type "tuple",data:=.seq #[u,u'] }:=(tw.2 _ (pV Uk)).trans r5
    have M3:H s.heap.objs.size=none:=I.hok.fresh (aF _)
    have I1:Inv X aj σ (upd H s.heap.objs.size (.tup [x,y])) { s with heap:=h2,toks:=s.toks }:=by
      refine I.turnLay (ch:=[z,TI,TO,i1,i2]) hf (λb o hb q=>?_) (aF _) ⟨by show 2<=sizeLine;decide,[u,u'],.cons ru (.cons ru' .nil),_,MP,rfl,_,rfl⟩
      have b1:b≠z:=λe=>hb (by simp[e])
      have b3:b≠TO:=λe=>hb (by simp[e])
      have b4:b≠i1:=λe=>hb (by simp[e])
      have b5:b≠i2:=λe=>hb (by simp[e])
      exact(tw.2 b b1).trans (hk b o b1 b3 b4 b5 q)
    refine⟨.ref s.heap.objs.size,_,I1,rfl,⟨_,x,y,M3,rfl,rfl,λzs Nq=>by rw[I.list_inj Nq hq];exact hx,λzs Nq=>by rw[I.list_inj Nq rL];exact hy⟩,⟨MX,(tw.2 TI ap.TIz).trans (hk TI _ ap.TIz ap.TITO ap.TIi1 ap.TIi2 q2),⟨_,_,(tw.2 TO ap.TOz).trans r2⟩,r3.at λo q=>(tw.2 i1 ap.i1z).trans q,r4.at λo q=>(tw.2 i2 ap.i2z).trans q⟩,λb hb=>?_⟩
    rw[yo ?_]
    · exact(hf b hb).1
    · simp only[aA,cI,or_false]at hb
      rcases hb with rfl|rfl|rfl|rfl|rfl
      · exact br Uk
      · exact br tlt
      · exact br olt
      · exact br Nw
      · exact br Yr
  done:=by
    intro X hP hw hK hc i aj s σ H E I hf st hg
    subst hP hw hK
    obtain⟨xs,ys,⟨hq,rL⟩,hx⟩:=hg
    obtain⟨cw,rv,p,hz⟩:=I.list hq
    obtain⟨its',JO,p',JG⟩:=I.list rL
    obtain⟨q1,q2,⟨a,b',q3⟩,q4,q5⟩:=st
    have hl:=rv.length
    have Ce:=JO.length
    refine wpAny_pyNext_zip_end (I.ok.hd hc) ap q1 q2 q3 q4 q5 p.isList p'.isList (hx.imp (λh=>by simp;omega) (λh=>by simp;omega)) λh' eb=>⟨rfl,I.turnedL (ch:=[z,TI,TO,i1,i2]) (t':=s.toks) hf λb o hb q=>?_⟩
    exact eb b o (λe=>hb (by simp[e])) (λe=>hb (by simp[e])) (λe=>hb (by simp[e])) (λe=>hb (by simp[e])) q
  self:=λ_ _ _ _ _ st h=>wpAny_pyIter_zip st.1 h
section
variable {X:Cx}{lJ:List Expr}{kt:Nat}{pt:dh}
def Nv (K:ae)(ta:TA):TI:=λσ H R=>ta σ H λvs H1=>∃a b,vs=[.ref a,.ref b]/\(∃xs ys,eR K H1 a xs/\eR K H1 b ys)/\R (Lg K a b) H1
theorem zvv {l l':Expr}{ta:TA}{p pos:dh}(hg:Gl X "zip")(hm:X.mg "zip"=none)(ha:PA X [l,l'] ta)(hs:ar [l,l'] X.env=[(false,bG l X.env),(false,bG l' X.env)]:=by rfl)(ml:ar [l'] X.env=[(false,bG l' X.env)]:=by rfl) :
  PI X (.Tuple lJ kt pt) (.Call (.Name "zip" p) [l,l'] [] pos) (Nv X.K ta):=by
 intro aj s σ H R I h
 refine Call_ (tE I hg hm PyProof.Rows.boot_zip (bH (dA (ha pos aj s σ H _ I h) λus s1 ⟨vs,H1,I1,r1,q1⟩=>?_) (by rw[hs,ml]) (by rw[ml];rfl)))
 obtain⟨a,b,e,⟨xs,ys,hq,rL⟩,q⟩:=q1
 subst e
 cases r1 with
 |cons r rr=>
  cases rr with
  |cons r' rr=>
   cases rr
   cases r
   cases r'
   obtain⟨cw,rv,pl,hz⟩:=I1.list hq
   obtain⟨its',JO,RA,JG⟩:=I1.list rL
   have Yv:a<s1.heap.objs.size:=by obtain⟨_,q,_⟩:=pl.isList;exact aM q
   have G6:b<s1.heap.objs.size:=by obtain⟨_,q,_⟩:=RA.isList;exact aM q
   refine call_zip_2 pl.isList RA.isList λh' r1 r2 r3 r4 r5 hsz hk=>?_
   refine wpAny_pyIter_zip (s:={ s1 with heap:=h' }) r1 ?_
   refine⟨_,[_,_,_,_,_],_,_,H1,rfl,I1.kept (t':=s1.toks) hk,zp3 _ _ _ _ _ a b (zipApart_new Yv G6),⟨r1,r2,⟨_,_,r3⟩,r4,r5⟩,λc hb=>?_,q⟩
   have:s1.heap.objs.size<=c:=by
    simp only[aA,cI,or_false]at hb
    rcases hb with rfl|rfl|rfl|rfl|rfl<;>omega
   exact I1.fpOk this (I1.hok.fresh this)
end
end L2
namespace L3
open PySem PySem.Spec L2
open PyProof.Rows hiding St
def ky:List D->List D->List D
 |x::xs,y::ys=>.tup [x,y]::ky xs ys
 |_,_=>[]
theorem TX:∀{xs ys:List D} {i:Nat} {d:D},(ky xs ys)[i]?=some d->∃x y,xs[i]?=some x/\ys[i]?=some y/\d=.tup [x,y]
 |[],_,_,_,h=>by simp[ky]at h
 |_::_,[],_,_,h=>by simp[ky]at h
 |x::xs,y::ys,0,d,h=>by simp[ky]at h;subst h;exact⟨x,y,rfl,rfl,rfl⟩
 |x::xs,y::ys,i+1,d,h=>by
  obtain⟨u,v,h1,h2,h3⟩:=TX (xs:=xs) (ys:=ys) (i:=i) (d:=d) (by simpa[ky]using h)
  exact⟨u,v,by simpa using h1,by simpa using h2,h3⟩
theorem TY:∀{xs ys:List D},(ky xs ys).length=min xs.length ys.length
 |[],_=>by simp[ky]
 |_::_,[]=>by simp[ky]
 |x::xs,y::ys=>by simp[ky,TY (xs:=xs) (ys:=ys)]
section
variable {X:Cx}{ct:Nat->ah}{ms:List Mo}{n:Nat}{a b:Expr}{pos:dh}
theorem zvw {K:ae}{F B:Hp}{a b:ah}{vs us:List V}{ds es:List D}(hp:Pr (Al K ct F B n) ds vs)(JD:Pr (Al K ct F B n) es us)(keep:∀F' H',bR F F'->bR B H'->bR F' H'->eR K H' a vs)(G4:∀F' H',bR F F'->bR B H'->bR F' H'->eR K H' b us):qM K ct F B (n+1) (Lg K a b) (ky ds es):=by
 intro i F' H' s1 s2 s3
 have hs:eR K H' a vs:=keep F' H' s1 s2 s3
 have FQ:eR K H' b us:=G4 F' H' s1 s2 s3
 refine⟨λd hd=>?_,λhl=>⟨vs,us,⟨hs,FQ⟩,by rw[←hp.length,←JD.length];rw[TY]at hl;omega⟩⟩
 obtain⟨x,y,hx,hy,rfl⟩:=TX hd
 obtain⟨v,hv,l⟩:=hp.get' hx
 obtain⟨u,hu,l'⟩:=JD.get' hy
 refine⟨⟨vs,us,v,u,⟨hs,FQ⟩,hv,hu⟩,λz H2 q=>?_⟩
 obtain⟨r,v',u',hr,rfl,rfl,q1,q2⟩:=q
 have e1:=q1 vs hs
 have e2:=q2 us FQ
 rw[hv]at e1
 rw[hu]at e2
 cases e1
 cases e2
 exact⟨_,gK.newS s3 hr _,.inr (.tup yx (.cons (l.mono (s1.trans (BL (s3.free hr) _)) (.refl _)) (.cons (l'.mono (s1.trans (BL (s3.free hr) _)) (.refl _)) .nil)))⟩
def BV:List D->Option (List D)
 |[.lst xs,.lst ys]=>some (ky xs ys)
 |_=>none
theorem ztb {fs:Env->Option (List D)}{lJ:List Expr}{kt:Nat}{pt pp:dh}(hm:X.mg "zip"=none)(ha:XA X ct ms [a,b] [n,n] fs)(hg:Gl X "zip":=by rfl)(hs:ar [a,b] X.env=[(false,bG a X.env),(false,bG b X.env)]:=by rfl)(ml:ar [b] X.env=[(false,bG b X.env)]:=by rfl) :
  vW X ct ms (n-1+1) (.Tuple lJ kt pt) (.Call (.Name "zip" pp) [a,b] [] pos) (λρ=>(fs ρ).bind BV):=by
 obtain⟨t,pt,_,qt⟩:=ha
 refine⟨_,zvv hg hm pt hs ml,λF0 B F H ρ σ ds R rs e w=>?_⟩
 obtain⟨n4,h1,h2⟩:=aV e
 refine qt F0 B F H ρ σ _ _ rs h1 λvs F' H' x l=>?_
 cases l with
 |cons h t=>
  cases t with
  |cons h' t=>
   cases t
   rename_i d v d' v'
   cases d with
   |lst xs=>
    cases d' with
    |lst ys=>
     cases h2
     obtain⟨a,vs,rfl,ha,hp⟩:=h.lst x.fh
     obtain⟨b,us,rfl,hb,JD⟩:=h'.lst x.fh
     exact⟨a,b,rfl,⟨vs,us,ha,hb⟩,w _ F' H' x (zvw hp JD (λF2 H2 s1 s2 s3=>s2.seq ha) (λF2 H2 s1 s2 s3=>s2.seq hb))⟩
    |_=>cases h2
   |_=>cases h2
end
end L3
namespace L3
open PySem PySem.Spec L2
open PyProof.Rows hiding St
section
variable {K:ae}{ct:Nat->ah}{n m k:Nat}
end
end L3
namespace L2
open PySem PySem.Spec PyProof.Rows
section
variable {X:Cx}{e sp:Expr}{te:TE}{tp:TO}{pos p2:dh}
end
end L2
namespace L3
open PySem PySem.Spec L2
open PyProof.Rows hiding St
section
variable {X:Cx}{ct:Nat->ah}{ms:List Mo}{n m:Nat}{e sp:Expr}{f g:EF}{pos p1:dh}
end
end L3
namespace L3
open PySem PySem.Spec L2
open PyProof.Rows hiding St
def kg {α:Type}(p q:Nat)(rv:Bool)(us ws:List α):List α:=if us.length=p/\ws.length=q then us++(if rv then ws.reverse else ws)else[]
section
variable {X:Cx}{ct:Nat->ah}{ms:List Mo}{rk n m k kk:Nat}{e a:Expr}{f:EF}{x:aU}{pp pos Bo:dh}{fa:ah}{fd:aI}{ps ks:List aU}{mf:List D->Option D}
end
end L3
namespace L3
open PySem PySem.Spec L2
open PyProof.Rows hiding St
section
variable {X:Cx}{ct:Nat->ah}{ms:List Mo}{rk n m k:Nat}{st:bO}{rest:List bO}{a b c e tg:Expr}{f g h:EF}{p q:BF}{u w:SF}{pos:dh}
end
end L3
namespace L3
open PySem PySem.Spec L2
open PyProof.Rows hiding St
theorem ztc:p4 (af.type "list_reverseiterator") (aU.ofString "__len__")=pure none:=by with_unfolding_all rfl
theorem zp4:p4 (af.type "list_reverseiterator") (aU.ofString "__length_hint__")=pure (some (af.builtin "list_reverseiterator.__length_hint__")):=by with_unfolding_all rfl
theorem znk:splitId "list_reverseiterator.__length_hint__"=some ("list_reverseiterator","__length_hint__"):=by with_unfolding_all rfl
theorem ztd:isSubtype (af.type "list_reverseiterator") (af.type "list_reverseiterator")=pure true:=by with_unfolding_all rfl
theorem zp5 {prog:bz}{w:ce}{A:bX}{E:af->am->Prop}{s:am}{it l:ah}{i:Int}{Q:Bool->am->Prop}(st:s.heap.IsRevIter it l i)(h:Q false s):bo (bj prog w) A (fN.List.listLengthHint (af.ref it)) Q E s:=by
 unfold fN.List.listLengthHint
 refine ba (oX st.typeIs ztc ?_)
 simp only[]
 refine ba (oX st.typeIs zp4 ?_)
 simp only[znk]
 refine ba (wpAny_isInstance st.typeIs ztd ?_)
 rw[if_neg (by decide)]
 rw[if_pos (by with_unfolding_all decide),if_neg (by decide)]
 exact cx h
theorem zlg {prog:bz}{w:ce}{A:bX}{s:am}{R:Result->am->Prop}{it l:ah}{items:Array af}(hh:A.handled=none)(st:s.heap.IsRevIter it l ((items.size:Int)-1))(hl:s.heap.IsList l items)(mN:l≠it)(hsz:items.size<=sizeLine)(S:ah)(res:af)(c₀:Nat)(hS:s.heap.get? S=some { cls:=af.type "list",data:=kz.seq #[] c₀ })(Xr:S≠l)
    (hR:∀(h':aZ) (tk:Nat) (kb:Array af) (c':Nat),(∀(b:ah) (o:dX),b≠S->b≠it->s.heap.get? b=some o->h'.get? b=some o)->h'.get? S=some { cls:=af.type "list",data:=kz.seq kb c' }->ItemsOf (λi v=>items[items.size-1-i]?=some v) kb items.size->R (Except.ok (Flow.ret res)) { s with heap:=h',toks:=tk }) :
    bo (bj prog w) A.in1 (fN.List.listExtendWith (af.ref S) (af.ref it) res) (λfin s'=>match fin with|Fin.done f=>R (Except.ok f) s'|Fin.again c'=>c'.quiet=true/\gP (bj prog w) A c' R s') (λe s'=>R (Except.error e) s') s:=by
  have Fy:S≠it:=λe=>by
    obtain⟨o,h1,h2,h3⟩:=st
    rw[←e,hS]at h1
    cases h1
    simp at h2
  have W:=(Walks.listRev (prog:=prog) (w:=w) (A:=A.in1) hh it l mN items).toS
  have key:gP (bj prog w) A (rA.builtin "list.extend.loop" { pos:=[af.ref S,af.ref it,res] }) R s:=by
    refine codeAny_extend_loopS W hsz S (by simp[Fy,Xr]) res items.size 0 s #[] c₀ rfl (cQ _) ⟨cQ _,by simpa using st,hl⟩ hS (ItemsOf.nil _) λs' kb c' hm MO qR=>?_
    rw[Moved.eq_with hm]
    exact hR s'.heap s'.toks kb c' (λb o hb hi e=>hm.heap b o (by simp[hb,hi]) e) MO qR
  unfold fN.List.listExtendWith
  refine ba (wpAny_typeOf st.typeIs ?_)
  have h1:fN.List.listSameRef (af.ref S) (af.ref it)=false:=by simp[fN.List.listSameRef,Fy]
  have h2:(af.type "list_reverseiterator" == af.type "list")=false:=by decide
  have h3:(af.type "list_reverseiterator" == af.type "tuple")=false:=by decide
  simp only[h1,h2,h3,xS,dr,if_false]
  refine ba (la st ?_)
  refine ba (mD (zp5 st ?_))
  rw[if_neg (by with_unfolding_all decide)]
  exact cx ⟨plainId_quiet F.plain_extend_loop _,key⟩
theorem zgl {prog:bz}{w:ce}{A:bX}{E:af->am->Prop}{s:am}{Q:af->am->Prop}{it l:ah}{items:Array af}(hh:A.handled=none)(st:s.heap.IsRevIter it l ((items.size:Int)-1))(hl:s.heap.IsList l items)(mN:l≠it)(hsz:items.size<=sizeLine)
    (hQ:∀(h':aZ) (tk:Nat) (kb:Array af) (c':Nat),(∀(b:ah) (o:dX),b≠it->s.heap.get? b=some o->h'.get? b=some o)->h'.get? s.heap.objs.size=some { cls:=af.type "list",data:=kz.seq kb c' }->ItemsOf (λi v=>items[items.size-1-i]?=some v) kb items.size->Q (af.ref s.heap.objs.size) { s with heap:=h',toks:=tk }) :
    bo (bj prog w) A (call (af.type "list") [af.ref it]) Q E s:=by
  refine callType_codes (Q₁:=λobj s₁=>obj=af.ref s.heap.objs.size/\s₁ = { s with heap:=s.heap.push { cls:=af.type "list",data:=kz.seq #[] } }) F.called_list (F.typeCall_list_1 (af.ref it)) F.entry_list_init (code_list_new (af.ref it) ⟨rfl,rfl⟩) λobj s₁ h₁=>?_
  obtain⟨rfl,rfl⟩:=h₁
  have hS:=bF s.heap (o:={ cls:=af.type "list",data:=kz.seq #[] }) rfl
  refine⟨⟨_,hS,rfl⟩,F.args_list_init_2 (af.ref s.heap.objs.size) (af.ref it),?_⟩
  have G7:∀b o,s.heap.get? b=some o->b≠s.heap.objs.size:=λb o e=>br (aM e)
  have XX:s.heap.objs.size≠l:=λe=>by
    obtain⟨o,h1,_⟩:=hl
    exact G7 l o h1 e.symm
  have Yk:(#[]:Array af).size<=sizeLine:=cQ _
  have Yl:(#[]:Array af).size<=sizeLine+1:=cQ _
  show bo _ _ (fN.List.listItems (af.ref s.heap.objs.size) >>= _) _ _ _
  refine ba ?_
  show bo _ _ (seqItems? (af.ref s.heap.objs.size) >>= _) _ _ _
  refine ba (wpAny_seqItems hS rfl ?_)
  refine cx ?_
  show bo _ _ (updateSeq s.heap.objs.size (λ_=>#[]) >>= _) _ _ _
  refine ba (wpAny_updateSeq hS rfl ?_ Yk Yl)
  have Xt:((s.heap.push { cls:=af.type "list",data:=kz.seq #[] }).update s.heap.objs.size (dX.mapSeq λ_=>#[])).get? s.heap.objs.size=some { cls:=af.type "list",data:=kz.seq #[] 0 }:=pO (dX.mapSeq λ_=>#[]) hS rfl
  have NI:∀(b:ah) (o:dX),b≠s.heap.objs.size->s.heap.get? b=some o->((s.heap.push { cls:=af.type "list",data:=kz.seq #[] }).update s.heap.objs.size (dX.mapSeq λ_=>#[])).get? b=some o:=λb o hb e=>(jB _ _ (Ne.symm hb)).trans (aH _ e)
  refine ba (wpAny_letGo ?_)
  obtain⟨oi,i1,i2,i3⟩:=st
  obtain⟨ol,l1,l2,l3⟩:=hl
  refine zlg (A:=A.in1) (R:=wants (λr s₂=>r=af.none/\Q (af.ref s.heap.objs.size) s₂) E) (s:={ s with heap:=(s.heap.push { cls:=af.type "list",data:=kz.seq #[] }).update s.heap.objs.size (dX.mapSeq λ_=>#[]) }) (l:=l) (items:=items) hh ⟨oi,NI it oi (G7 it oi i1) i1,i2,i3⟩ ⟨ol,NI l ol (G7 l ol l1) l1,l2,l3⟩ mN hsz s.heap.objs.size af.none _ Xt XX λh' tk kb c' hk MO qR=>⟨rfl,hQ h' tk kb c' (λb o hb e=>hk b o (G7 b o e) hb (NI b o (G7 b o e) e)) MO qR⟩
section
variable {X:Cx}{ct:Nat->ah}{ms:List Mo}{rk n m k:Nat}{a e:Expr}{f:EF}{pos:dh}
def yR (K:ae):V->Hp->VK->Prop:=λx H Q=>∃a xs,x=.ref a/\eR K H a xs/\∀p,H p=none->Q (.ref p) (upd H p (.lst xs.reverse))
def Iy (K:ae)(te:TE):TE:=λσ H Q=>te σ H λx H1=>yR K x H1 Q
theorem zte {te:TE}{p1 p2 iH:dh}(hc:X.calm=true)(hg:Gl X "list")(hm:X.mg "list"=none)(o6:Gl X "reversed")(jK:X.mg "reversed"=none)(he:PE X e te)(hs:ar [e] X.env=[(false,bG e X.env)]:=by rfl)
  (ml:ar [.Call (.Name "reversed" p2) [e] [] iH] X.env=[(false,bG (.Call (.Name "reversed" p2) [e] [] iH) X.env)]:=by rfl) :
  PE X (.Call (.Name "list" p1) [.Call (.Name "reversed" p2) [e] [] iH] [] pos) (Iy X.K te):=by
 intro aj s σ H Q I h
 refine de (tE I hg hm CB ?_ (by decide) (by decide))
 refine bH ?_ ml rfl
 rw[ml]
 show bo _ _ (spliced ((false,bG (.Call (.Name "reversed" p2) [e] [] iH) X.env)::[])) _ _ s
 refine Calls.spliced_cons ?_
 refine de (tE (u:=.type "reversed") I o6 jK (by rfl) ?_ (by decide) (by decide))
 refine bH (dA ((ub he uQ hs) iH aj s σ H (λvs H1=>match vs with|[x]=>yR X.K x H1 Q|_=>False) I h) λus s1 ⟨vs,H1,I1,r,q⟩=>?_) hs rfl
 match vs,q with
 |[x],q=>
  obtain⟨a,xs,rfl,hq,q⟩:=q
  obtain⟨u,rfl,ru⟩:=r.one
  cases ru
  obtain⟨cw,rv,pl,hz⟩:=I1.list hq
  have hl:=rv.length
  refine call_reversed_list pl.isList (Calls.spliced_nil ?_)
  have I2:L2.Inv X aj σ H1 { s1 with heap:=s1.heap.push (nW a ((cw.toArray.size:Int)-1)) }:=I1.kept (t':=s1.toks) λb o e=>aH _ e
  have st:(s1.heap.push (nW a ((cw.toArray.size:Int)-1))).IsRevIter s1.heap.objs.size a ((cw.toArray.size:Int)-1):=⟨_,bF _ rfl,rfl,by simp[nW]⟩
  have pl2:(s1.heap.push (nW a ((cw.toArray.size:Int)-1))).IsList a cw.toArray:=by
   obtain⟨o,h1,h2⟩:=pl.isList
   exact⟨o,aH _ h1,h2⟩
  have Wg:a≠s1.heap.objs.size:=by
   obtain⟨o,h1,h2⟩:=pl.isList
   exact br (aM h1)
  refine zgl (I2.ok.hd hc) st pl2 Wg (by rw[aQ,←hl];exact hz) λh' tk kb c' kp hS qR=>?_
  have yJ:(s1.heap.push (nW a ((cw.toArray.size:Int)-1))).objs.size=s1.heap.objs.size+1:=by simp[aZ.push]
  have hv:bZ xs.reverse kb.toList:=by
   obtain⟨e1,e2⟩:=qR
   have e3:kb.size=cw.length:=by rw[e1,aQ]
   refine Pb ((dO).trans (hl.trans (e3.symm.trans dM.symm))) λi x u hx hu=>?_
   have hi:i<xs.length:=by
    have:=(aT.mp hx).1
    rwa[dO]at this
   rw[pT hi]at hx
   obtain⟨u',wN,ru⟩:=rv.get hx
   have:=e2 i u (by simpa using hu)
   rw[aQ,←hl]at this
   have h3:cw[xs.length-1-i]?=some u:=by simpa using this
   rw[wN]at h3
   cases h3
   exact ru
  have eo:xs.reverse.length<=sizeLine:=by rw[dO];exact hz
  refine⟨.ref _,_,I1.laid (t':=tk) (λb o e=>kp b o (br (aM e)) (aH _ e)) (by rw[yJ];omega) (show d6 X.prog X.w _ h' _ (.lst _)from⟨eo,kb.toList,c',hv,hS⟩),rfl,q _ (I1.hok.fresh (by rw[yJ];omega))⟩
def uD:D->Option D
 |.lst ds=>some (.lst ds.reverse)
 |_=>none
theorem ztf {p1 p2 iH:dh}(hn:n<=1)(hc:X.calm=true)(hg:Gl X "list")(hm:X.mg "list"=none)(o6:Gl X "reversed")(jK:X.mg "reversed"=none)(he:XE X ct ms n e f)(hs:ar [e] X.env=[(false,bG e X.env)]:=by rfl)
  (ml:ar [.Call (.Name "reversed" p2) [e] [] iH] X.env=[(false,bG (.Call (.Name "reversed" p2) [e] [] iH) X.env)]:=by rfl) :
  XO X ct ms 1 (.Call (.Name "list" p1) [.Call (.Name "reversed" p2) [e] [] iH] [] pos) (e1 uD f):=by
 obtain⟨t,pt,qt⟩:=he
 refine⟨_,zte hc hg hm o6 jK pt hs ml,λF0 B F H ρ σ r Q rs e w=>?_⟩
 obtain⟨d,h1,h2⟩:=aV e
 refine qt F0 B F H ρ σ d _ rs h1 λv F1 H1 x1 l=>?_
 cases d with
 |lst ds=>
  cases h2
  obtain⟨a,vs,rfl,ha,hp⟩:=Al.lst1 hn l x1.fh
  exact⟨a,vs,rfl,ha,yX x1.fh (Pr.reverse hp) λv F2 H2 fp x2 l2 nd hf=>w v F2 H2 fp (x1.trans x2) l2 nd λz hz=>x1.hh.free (hf z hz)⟩
 |_=>cases h2
end
end L3
namespace L3
open PySem PySem.Spec L2
open PyProof.Rows hiding St
section
variable {X:Cx}{ct:Nat->ah}{ms:List Mo}{n m l k:Nat}{a b c:Expr}{f g h:EF}{pos:dh}
end
end L3
namespace L3
open PySem PySem.Spec L2
open PyProof.Rows hiding St
def B5 (f:EF):EF:=λρ=>(f ρ).bind λd=>if d.sc=true then some d else none
section
variable {X:Cx}{ct:Nat->ah}{ms:List Mo}{rk n m k:Nat}{a b c e tg:Expr}{f g h:EF}{pos:dh}
theorem Vs (he:XE X ct ms n e f):XO X ct ms k e (B5 f):=by
 obtain⟨t,p,q⟩:=he
 refine⟨t,p,λF0 B F H ρ σ d Q r e w=>?_⟩
 obtain⟨d0,h1,h2⟩:=aV e
 by_cases hs:d0.sc=true
 ·rw[if_pos hs]at h2
  cases h2
  exact q F0 B F H ρ σ d Q r h1 λv F' H' x l=>w v F' H' [] x (Ow.scal (Al.scal l hs) hs) bP λa z=>(by cases z)
 ·rw[if_neg hs]at h2;cases h2
end
end L3
namespace L3
open PySem PySem.Spec L2
open PyProof.Rows hiding St
section
variable {X:Cx}{ct:Nat->ah}{ms:List Mo}{n:Nat}{e tg:Expr}{f:EF}{pos:dh}
end
end L3
namespace L3
open PySem PySem.Spec L2
open PyProof.Rows hiding St
section
variable {X:Cx}{K:ae}{ct:Nat->ah}{ms:List Mo}{n k:Nat}
end
end L3
namespace L3
open PySem PySem.Spec L2
open PyProof.Rows hiding St
section
variable {X:Cx}{ct:Nat->ah}{ms:List Mo}{rk n m k:Nat}{a b c e:Expr}{f g h:EF}{pos:dh}
end
end L3
namespace L3
open PySem PySem.Spec L2
open PyProof.Rows hiding St
def i8:D->Bool
 |.lst _=>true
 |.dK _ _=>true
 |.dT _ _=>true
 |_=>false
theorem Ow.cell {K:ae}{ct:Nat->ah}{F H:Hp}{d:D}{v:V}{fp:List ah}(h:Ow K ct F H 1 d v fp)(hc:i8 d=true):∃a,v=.ref a/\fp=[a]:=by
 cases d with
 |lst ds=>obtain⟨a,vs,fr,rfl,rfl,_,_,ol⟩:=h.lst_inv;have e0:=ol.nil0;subst e0;exact⟨_,rfl,rfl⟩
 |dK ks ds=>obtain⟨a,vs,fr,rfl,rfl,_,_,_,ol⟩:=h.dK_inv;have e0:=ol.nil0;subst e0;exact⟨_,rfl,rfl⟩
 |dT ks ds=>obtain⟨a,vs,fr,rfl,rfl,_,_,_,ol⟩:=h.dT_inv;have e0:=ol.nil0;subst e0;exact⟨_,rfl,rfl⟩
 |_=>cases hc
section
variable {K:ae}{ct:Nat->ah}{F F' H H' B F0:Hp}
theorem SL.putS {x:ah}{d:D}{ms:List Mo}{ρ:Env}{σ:St}{fp:List ah}{i:Nat}(h0:SL K ct F B H ms ρ σ fp):fp.Nodup->ms[i]?=some (.so x)->ρ[i]?=some (some d) ->
  σ[i]?=some (some (.ref x))/\Ow K ct F H 1 d (.ref x) [x]/\x∈fp/\∀(F' H':Hp) (d':D),bR F F'->(∀a∈fp,a≠x->H' a=H a/\F' a=none)->Ow K ct F' H' 1 d' (.ref x) [x]->SL K ct F' B H' ms (ρ.set i (some d')) σ fp:=by
 induction h0 generalizing i with
 |nil=>
  intro _ e _
  simp at e
 |@no m0 o0 ms ρ σ fp t ih=>
  intro nd e e'
  cases i with
  |zero=>
   have e:=e'
   simp at e
  |succ i=>
   obtain⟨h1,h2,h3,h4⟩:=ih (i:=i) nd (by simpa using e) (by simpa using e')
   exact⟨by simpa using h1,h2,h3,λF' H' d' s k o=>.no (h4 F' H' d' s k o)⟩
 |@al n0 d0 v0 ms ρ σ fp h t ih=>
  intro nd e e'
  cases i with
  |zero=>
   simp at e
  |succ i=>
   obtain⟨h1,h2,h3,h4⟩:=ih (i:=i) nd (by simpa using e) (by simpa using e')
   exact⟨by simpa using h1,h2,h3,λF' H' d' s k o=>.al (h.mono s (.refl _)) (h4 F' H' d' s k o)⟩
 |@px d0 v0 ms ρ σ fp h t ih=>
  intro nd e e'
  cases i with
  |zero=>
   simp at e
  |succ i=>
   obtain⟨h1,h2,h3,h4⟩:=ih (i:=i) nd (by simpa using e) (by simpa using e')
   exact⟨by simpa using h1,h2,h3,λF' H' d' s k o=>.px (h.mono s (.refl _)) (h4 F' H' d' s k o)⟩
 |@so d0 y ms ρ σ Mw h t ih=>
  intro nd e e'
  cases i with
  |zero=>
   simp at e e'
   subst e
   subst e'
   obtain⟨n1,n2⟩:=bC.mp nd
   exact⟨rfl,h,aa,λF' H' d' s k o=>.so o (t.frame s λa z=>k a (ai _ z) λe=>n1 (e▸z))⟩
  |succ i=>
   obtain⟨n1,n2⟩:=bC.mp nd
   obtain⟨h1,h2,h3,h4⟩:=ih (i:=i) n2 (by simpa using e) (by simpa using e')
   refine⟨by simpa using h1,h2,ai _ h3,λF' H' d' s k o=>.so (h.frame s λa z=>?_) (h4 F' H' d' s (λa z=>k a (ai _ z)) o)⟩
   rw[az]at z
   subst z
   exact k a aa λe=>n1 (e▸h3)
 |@ow n0 d0 v0 ms ρ σ f Mw h t ih=>
  intro nd e e'
  cases i with
  |zero=>
   simp at e
  |succ i=>
   obtain⟨n1,n2,n3⟩:=bq.mp nd
   obtain⟨h1,h2,h3,h4⟩:=ih (i:=i) n2 (by simpa using e) (by simpa using e')
   refine⟨by simpa using h1,h2,ay _ h3,λF' H' d' s k o=>.ow (h.frame s λa z=>?_) (h4 F' H' d' s (λa z=>k a (ay _ z)) o)⟩
   exact k a (bm _ z) λe=>n3 a z x h3 e
theorem RS.changeS {ms:List Mo}{ρ:Env}{σ:St}{i:Nat}{d d':D}{ad:ah}{o:HO}(rs:RS K ct F0 B ms F H ρ σ)(hm:ms[i]?=some (.so ad))(hρ:ρ[i]?=some (some d))(x:gK F H F' H')(Ms:F' ad=none)(o':Ow K ct F' (upd H' ad o) 1 d' (.ref ad) [ad]) :
  RS K ct F0 B ms F' (upd H' ad o) (ρ.set i (some d')) σ:=by
 have r:=rs.ext x
 obtain⟨fp,sl,nd,hb⟩:=rs.sl
 obtain⟨h1,h2,h3,h4⟩:=sl.putS nd hm hρ
 have hB:B ad=none:=hb ad h3
 refine⟨r.f0,λz u h=>?_,λz u h=>?_,r.nf,fp,h4 F' _ d' x.ff (λa z ne=>?_) o',nd,hb⟩
 ·rw[yo (λe=>by rw[e,hB]at h;cases h)];exact r.bh _ _ h
 ·rw[yo (λe=>by rw[e,Ms]at h;cases h)];exact x.fh _ _ h
 ·obtain⟨hn,o,ho⟩:=sl.cells a z
  rw[yo ne]
  exact⟨(x.hh _ _ ho).trans ho.symm,x.nf a o ho hn⟩
theorem RS.so_at {ms:List Mo}{ρ:Env}{σ:St}{i:Nat}{d:D}{ad:ah}(rs:RS K ct F0 B ms F H ρ σ)(hm:ms[i]?=some (.so ad))(hρ:ρ[i]?=some (some d)):σ[i]?=some (some (.ref ad))/\Ow K ct F H 1 d (.ref ad) [ad]/\B ad=none:=by
 obtain⟨fp,sl,nd,hb⟩:=rs.sl
 obtain⟨h1,h2,h3,h4⟩:=sl.putS nd hm hρ
 exact⟨h1,h2,hb _ h3⟩
end
section
variable {X:Cx}{ct:Nat->ah}{ms:List Mo}{rk n m k:Nat}{st:bO}{rest:List bO}{a b c e tg:Expr}{f g h:EF}{p q:BF}{u w:SF}{pos:dh}
theorem zp6 (i:Nat){xa:ah}{x:aU}{j:Expr}{p1 gE:dh}{fj:EF}(hm:ms[i]?=some (.so xa))(hj:XE X ct ms n j fj)(he:XE X ct ms 0 e f)(hN:X.N[i]?=some x:=by rfl)(hv:pF X.env.scope x:=by first|exact Or.inl rfl|exact Or.inr (Or.inl rfl)|exact Or.inr (Or.inr rfl))(hd:(x==("__debug__":aU))=false:=by decide)
  (jF:(x==("__classdict__":aU))=false:=by decide)
  (ha:∀v,ie (.Subscript (.Name x p1) j gE) X.env v=(do
   let ov ← ek [v] (bG (.Name x p1) X.env)
   let iv ← ek [v,ov] (bG j X.env)
   ip gE
   ek [v,ov,iv] (ny ov iv v)
   sS [v,ov,iv] []):=by intro _;rfl)
  (hs:mC [.Subscript (.Name x p1) j gE] e pos.line X.env=pure false:=by rfl) (hw:mB [.Subscript (.Name x p1) j gE] e X.env=pure none:=by rfl)
  (h1:(dc [.Subscript (.Name x p1) j gE] X.env).map (·.2)=[ie (.Subscript (.Name x p1) j gE) X.env]:=by rfl) :
  XS X ct ms rk (.Assign [.Subscript (.Name x p1) j gE] e pos) (pN i fj f):=by
 obtain⟨t,pt,qt⟩:=he
 obtain⟨tj,wZ,xA⟩:=hj
 refine⟨_,Pq pt (U0 (qj hN hv hd jF) wZ OE ha) hs hw h1,λF0 B F H ρ σ o E rs e z=>?_⟩
 obtain⟨d,g1,g2⟩:=aV e
 obtain⟨d1,rG,g3,g4,g5⟩:=dP g2
 refine qt F0 B F H ρ σ d _ rs g1 λv0 F1 H1 x1 l0=>?_
 have kc:=rs.ext x1
 obtain⟨hσ,ow,hB⟩:=kc.so_at hm (yg g3)
 refine⟨_,hσ,xA F0 B F1 H1 ρ σ rG _ kc g4 λvj F2 H2 x2 lj=>?_⟩
 cases d1 with
 |lst ds=>
  cases rG with
  |int zi=>
   obtain⟨n4,g6,g7⟩:=aV g5
   cases g7
   obtain⟨jn,g8,g9⟩:=aV g6
   cases g9
   obtain⟨ad,vs,oI,ea,ef,hF,hH,ol⟩:=ow.lst_inv
   cases ea
   cases ef
   have hA:H2 xa=some (.lst vs):=x2.hh _ _ hH
   have fA:F2 xa=none:=x2.nf xa _ hH hF
   refine⟨xa,vs,zi,jn,rfl,lj.int,hA,by rw[←ol.length];exact g8,?_⟩
   exact z σ F2 _ (kc.changeS hm (yg g3) x2 fA (.inr (.lst fA yx (fk.set0 ⟨Dt.mono x2.ff l0,rfl⟩ (λ_ _ _ q=>q.2) jn (ol.mono λ_ _ _ _ q=>⟨q.1.mono x2.ff,q.2⟩)))))
  |_=>cases g5
 |_=>cases g5
theorem zp7 (i:Nat){xa:ah}{x:aU}{j:Expr}{p1 gE:dh}{fj:EF}(hm:ms[i]?=some (.so xa))(hu:X.A.units+1<gz)(hj:XE X ct ms 0 j fj)(he:XE X ct ms 0 e f)(hN:X.N[i]?=some x:=by rfl)(hv:pF X.env.scope x:=by first|exact Or.inl rfl|exact Or.inr (Or.inl rfl)|exact Or.inr (Or.inr rfl))(hd:(x==("__debug__":aU))=false:=by decide)
  (jF:(x==("__classdict__":aU))=false:=by decide) (hs:dR e (some (.Subscript (.Name x p1) j gE)) pos.line X.env=pure false:=by rfl) :
  XS X ct ms rk (.Assign [.Subscript (.Name x p1) j gE] e pos) (jS i fj f):=by
 obtain⟨t,pt,qt⟩:=he
 obtain⟨tj,wZ,xA⟩:=hj
 refine⟨_,Uv hu (qj hN hv hd jF) wZ pt hs,λF0 B F H ρ σ o E rs e z=>?_⟩
 obtain⟨d,g1,g2⟩:=aV e
 obtain⟨d1,rG,g3,g4,g5⟩:=dP g2
 refine qt F0 B F H ρ σ d _ rs g1 λv0 F1 H1 x1 l0=>?_
 have kc:=rs.ext x1
 obtain⟨hσ,ow,hB⟩:=kc.so_at hm (yg g3)
 refine⟨_,hσ,xA F0 B F1 H1 ρ σ rG _ kc g4 λvj F2 H2 x2 lj=>?_⟩
 have G5:Dt X.K ct F2 d v0:=Dt.mono x2.ff l0
 cases d1 with
 |dK ks ds=>
  dsimp only at g5
  obtain⟨key,g6,g7⟩:=aV g5
  by_cases hz:ks.length<16777216
  ·rw[if_pos hz]at g7
   cases g7
   obtain⟨ad,vs,oI,ea,ef,hF,hH,hl,ol⟩:=ow.dK_inv
   cases ea
   cases ef
   have hA:=x2.hh _ _ hH
   have fA:F2 xa=none:=x2.nf xa _ hH hF
   have hp:Pr (Dt X.K ct F2) ds vs:=ol.pr λ_ _ _ _ q=>q.1.mono x2.ff
   obtain⟨us,Be,Bf,Bg⟩:=Ks G5 key hl hp
   have hk:=KW g6 lj
   subst hk
   refine⟨xa,_,rfl,nF.k hA (by rw[eS,←hl,ir,cO];exact hz),?_⟩
   rw[Be]
   exact z σ F2 _ (kc.changeS hm (yg g3) x2 fA (.inr (.dK fA yx Bf (fk.ofPr (Bg.mono λ_ _ q=>⟨q,rfl⟩)))))
  ·rw[if_neg hz]at g7;cases g7
 |dT ks ds=>
  cases rG with
  |tup js=>
   dsimp only at g5
   obtain⟨key,g6,g7⟩:=aV g5
   by_cases hz:ks.length<16777216
   ·rw[if_pos hz]at g7
    cases g7
    obtain⟨ad,vs,oI,ea,ef,hF,hH,hl,ol⟩:=ow.dT_inv
    cases ea
    cases ef
    have hA:=x2.hh _ _ hH
    have fA:F2 xa=none:=x2.nf xa _ hH hF
    have hp:Pr (Dt X.K ct F2) ds vs:=ol.pr λ_ _ _ _ q=>q.1.mono x2.ff
    obtain⟨us,Be,Bf,Bg⟩:=Ks G5 key hl hp
    obtain⟨bd,ws,rfl,hb,FN⟩:=lj.tup x2.fh
    have hk:=O4 g6 FN
    subst hk
    refine⟨xa,_,rfl,nF.t hA hb (by rw[eS,←hl,ir,cO];exact hz),?_⟩
    rw[Be]
    exact z σ F2 _ (kc.changeS hm (yg g3) x2 fA (.inr (.dT fA yx Bf (fk.ofPr (Bg.mono λ_ _ q=>⟨q,rfl⟩)))))
   ·rw[if_neg hz]at g7;cases g7
  |_=>cases g5
 |_=>cases g5
abbrev EM:=Env->Option (D×Env)
def vX (X:Cx)(ct:Nat->ah)(ms:List Mo)(st:List bO)(f:EM):Prop:=∃t,qP X st t/\∀(F0 B F H:Hp) (ρ ρ':Env) (σ:St) (d:D) (E:lD),RS X.K ct F0 B ms F H ρ σ->f ρ=some (d,ρ')->(∀v σ' F' H',RS X.K ct F0 B ms F' H' ρ' σ'->Dt X.K ct F' d v->E.rt v H')->t E σ H
def wW (f:SF)(g:EM):EM:=λρ=>(f ρ).bind λo=>match o with
 |.nx ρ'=>g ρ'
 |_=>none
def Bq (f:EF):EM:=λρ=>(f ρ).bind λd=>some (d,ρ)
theorem zvy (he:XE X ct ms 0 e f):vX X ct ms [.Return (some e) pos] (Bq f):=by
 obtain⟨t,pt,qt⟩:=he
 refine⟨_,Ul (Pp pt),λF0 B F H ρ ρ' σ d E rs e z=>?_⟩
 obtain⟨d',h1,h2⟩:=aV e
 cases h2
 exact qt F0 B F H ρ σ _ _ rs h1 λv F' H' x l=>z v σ F' H' (rs.ext x) l
theorem UI {gm:EM}(h1:XS X ct ms 0 st u)(h2:vX X ct ms rest gm):vX X ct ms (st::rest) (wW u gm):=by
 obtain⟨t,pt,qt⟩:=h1
 obtain⟨t2,qY,qZ⟩:=h2
 refine⟨_,TN pt qY,λF0 B F H ρ ρ' σ d E rs e z=>?_⟩
 obtain⟨o1,e1,e2⟩:=aV e
 refine qt F0 B F H ρ σ o1 _ rs e1 ?_
 cases o1 with
 |nx ρ1=>exactλσ' F' H' NN=>qZ F0 B F' H' ρ1 ρ' σ' d E NN e2 z
 |rt d=>cases e2
 |bk ρ'=>cases e2
 |ct ρ'=>cases e2
end
theorem SL.app {K:ae}{ct:Nat->ah}{F B H:Hp}{Rr:List Mo}{ρ2:Env}{σ2:St}{QF:List ah}(h2:SL K ct F B H Rr ρ2 σ2 QF){ms:List Mo}{ρ:Env}{σ:St}{fp:List ah}(h0:SL K ct F B H ms ρ σ fp):SL K ct F B H (ms++Rr) (ρ ++ ρ2) (σ ++ σ2) (fp++QF):=by
 induction h0 with
 |nil=>
  exact h2
 |@no m0 o0 ms ρ σ fp t ih=>
  exact .no ih
 |@al n0 d0 v0 ms ρ σ fp h t ih=>
  exact .al h ih
 |@px d0 v0 ms ρ σ fp h t ih=>
  exact .px h ih
 |@so d0 x0 ms ρ σ Mw h t ih=>
  exact .so h ih
 |@ow n0 d0 v0 ms ρ σ f0 Mw h t ih=>
  rw[eX]
  exact .ow h ih
theorem SL.none {K:ae}{ct:Nat->ah}{F B H:Hp}:∀(ms:List Mo),SL K ct F B H ms (aC ms.length none) (aC ms.length none) []
 |[]=>.nil
 |m::ms=>.no (SL.none ms)
theorem SL.start0 {K:ae}{ct:Nat->ah}{F B H:Hp}:∀{ds:List D} {us:List V},Pr (Dt K ct F) ds us->SL K ct F B H (aC ds.length (Mo.ow 0)) (ds.map some) (us.map some) []
 |_,_,.nil=>.nil
 |_,_,.cons h t=>SL.ow (f:=[]) (Ow.zero h) (SL.start0 t)
def BZ (K:ae)(ct:Nat->ah)(n:Nat)(mf:List D->Option D):Sp:=λvs H Q _=>∃(F:Hp) (ds:List D) (us:List V) (d p q p' q':D) (a b:ah),vs=us++[.ref a,.ref b]/\ds.length=n/\bR F H/\Pr (Dt K ct F) ds us/\a≠b/\Ow K ct F H 1 p (.ref a) [a]/\Ow K ct F H 1 q (.ref b) [b]/\mf (ds++[p,q])=some (.tup [d,p',q']) /\
 ∀v F' H',bR F F'->(∀x o,H x=some o->x≠a->x≠b->H' x=some o)->bR F' H'->(∀x o,H x=some o->F x=none->F' x=none)->Ow K ct F' H' 1 p' (.ref a) [a]->Ow K ct F' H' 1 q' (.ref b) [b]->Dt K ct F' d v->Q v H'
theorem BZ.len {K:ae}{ct:Nat->ah}{n:Nat}{mf:List D->Option D}{ps:List aU}(h:n+2=ps.length):∀vs H Q E,BZ K ct n mf vs H Q E->vs.length=ps.length:=by
 rintro vs H Q E ⟨F,ds,us,d,p,q,p',q',a,b,rfl,hn,_,l,_⟩
 rw[←h,←hn,l.length,aX]
 rfl
def Bp (n:Nat)(N:List aU)(bf:EM)(ds:List D):Option D:=(bf (startD N ds)).bind λr=>(r.2[n]?).join.bind λp=>(r.2[n+1]?).join.bind λq=>some (.tup [r.1,p,q])
theorem zp8 {ct:Nat->ah}{P:bz}{w:ce}{K:ae}{mg:aU->Option af}{base:aZ}{x qual:aU}{st:bO}{fa:ah}{fd:aI}{N ps:List aU}{kk n:Nat}{ms:List Mo}{bf:EM}(Fn:Fun2 K x qual st fa fd)(S:bn N ps (aL st))(Bc:n+2=ps.length)(Jy:n+2+ms.length=N.length)
  (body:∀(a b:ah) (iD:af) (A:bX) (outer:List PySem.Env) (s:am) (H:Hp) (E:XK),eM kk (A.deeper (envOfC qual (aL st) s.heap.objs.size fa iD))->vX (nO eF P w K mg base N qual (aL st) fa iD A outer s H E).nox ct (aC n (Mo.ow 0) ++ .so a::.so b::ms) (hU st) bf) :
  cB P w K mg base eF (kk+1) fa fd ps (BZ K ct n (Bp n N bf)):=by
 refine Fn.ok S (BZ.len Bc) λiD A outer s H vs Q E hr h=>?_
 obtain⟨F,ds,us,d,p,q,p',q',a,b,rfl,hn,sF,l,wG,oa,ob,hm,z⟩:=h
 subst hn
 obtain⟨t,pt,qt⟩:=body a b iD A outer s H E hr
 refine⟨t,pt,?_⟩
 obtain⟨⟨d1,ρ'⟩,h1,h2⟩:=aV hm
 obtain⟨p1,h3,h4⟩:=aV h2
 obtain⟨q1,h5,h6⟩:=aV h4
 cases h6
 have Re:us.length=ds.length:=l.length.symm
 have Mr:=(oa.cells a aa).1
 have Mt:=(ob.cells b aa).1
 have sFB:bR F (mj (mj H a) b):=λy o hy=>by
  rw[qd (λe=>by rw[e,Mt]at hy;cases hy),qd (λe=>by rw[e,Mr]at hy;cases hy)]
  exact sF _ _ hy
 have hB:bR (mj (mj H a) b) H:=(Kr _ _).trans (Kr _ _)
 refine qt F (mj (mj H a) b) F H (startD N (ds++[p,q])) ρ' (L2.start N (us++[.ref a,.ref b])) d1 _ ⟨.refl _,hB,sF,λ_ _ _ h=>h,[a,b],?_,by simp[wG],λy hy=>?_⟩ h1 ?_
 ·have e1:startD N (ds++[p,q])=ds.map some++(some p::some q::aC ms.length none):=by
   unfold startD
   rw[show N.length-(ds++[p,q]).length=ms.length by rw[aX];simp;omega]
   simp
  have e2:L2.start N (us++[.ref a,.ref b])=us.map some++(some (.ref a)::some (.ref b)::aC ms.length none):=by
   unfold L2.start
   rw[show N.length-(us++[V.ref a,V.ref b]).length=ms.length by rw[aX];simp;omega]
   simp
  rw[e1,e2]
  have:=SL.app (.so oa (.so ob (SL.none (K:=K) (ct:=ct) (F:=F) (B:=mj (mj H a) b) (H:=H) ms))) (SL.start0 (B:=mj (mj H a) b) (H:=H) l)
  have h7:SL K ct F (mj (mj H a) b) H (aC ds.length (Mo.ow 0)++Mo.so a::Mo.so b::ms) (ds.map some++(some p::some q::aC ms.length none)) (us.map some++(some (.ref a)::some (.ref b)::aC ms.length none)) [a,b]:=by simpa using this
  exact h7
 ·simp at hy
  rcases hy with rfl|rfl
  ·rw[qd wG];exact K0 _ _
  ·exact K0 _ _
 ·intro v σ' F' H' r dt
  obtain⟨_,o1,_⟩:=r.so_at (i:=ds.length) (ad:=a) (by simp) (yg h3)
  obtain⟨_,o2,_⟩:=r.so_at (i:=ds.length+1) (ad:=b) (by simp) (yg h5)
  refine z v F' H' r.f0 (λy o hy n1 n2=>r.bh _ _ (by rw[qd n2,qd n1];exact hy)) r.fh (λy o hy hn=>?_) o1 o2 dt
  by_cases ea:y=a
  ·subst ea;exact(o1.cells _ aa).1
  by_cases eb:y=b
  ·subst eb;exact(o2.cells _ aa).1
  exact r.nf y o (by rw[qd eb,qd ea];exact hy) hn
section
variable {X:Cx}{ct:Nat->ah}{ms:List Mo}{rk n m k:Nat}{st:bO}{rest:List bO}{a b c e tg:Expr}{f g h:EF}{p q:BF}{u w:SF}{pos:dh}{i j:Nat}
def Jf (X:Cx)(ct:Nat->ah)(ms:List Mo)(i j:Nat)(es:List Expr)(f:Env->Option (List D)):Prop:=∃t,PA X es t/\∀(F0 B F H:Hp) (ρ:Env) (σ:St) (ds:List D) (a b:ah) (Q:List V->Hp->Prop),RS X.K ct F0 B ms F H ρ σ->f ρ=some ds->σ[i]?=some (some (.ref a))->σ[j]?=some (some (.ref b)) ->
 (∀us F' H',gK F H F' H'->Pr (Dt X.K ct F') ds us->Q (us++[.ref a,.ref b]) H')->t σ H Q
theorem ztg {x y:aU}{p1 p2:dh}(hN:X.N[i]?=some x:=by rfl)(hv:pF X.env.scope x:=by first|exact Or.inl rfl|exact Or.inr (Or.inl rfl)|exact Or.inr (Or.inr rfl))(hd:(x==("__debug__":aU))=false:=by decide)(jF:(x==("__classdict__":aU))=false:=by decide)
  (AQ:X.N[j]?=some y:=by rfl) (Nl:pF X.env.scope y:=by first|exact Or.inl rfl|exact Or.inr (Or.inl rfl)|exact Or.inr (Or.inr rfl)) (hd2:(y==("__debug__":aU))=false:=by decide) (AV:(y==("__classdict__":aU))=false:=by decide) :
  Jf X ct ms i j [.Name x p1,.Name y p2] aNil:=by
 refine⟨_,ub (qj hN hv hd jF) (ub (qj AQ Nl hd2 AV) uQ),λF0 B F H ρ σ ds a b Q rs e ha hb z=>?_⟩
 cases e
 exact⟨_,ha,_,hb,z [] F H (.refl rs.fh) .nil⟩
theorem OW {es:List Expr}{fs:Env->Option (List D)}(h1:XE X ct ms 0 a f)(h2:Jf X ct ms i j es fs)(hs:ar (a::es) X.env=(false,bG a X.env)::ar es X.env:=by rfl):Jf X ct ms i j (a::es) (aCons f fs):=by
 obtain⟨t,pt,qt⟩:=h1
 obtain⟨t2,qY,qZ⟩:=h2
 refine⟨_,ub pt qY hs,λF0 B F H ρ σ ds xa xb Q rs e ha hb z=>?_⟩
 obtain⟨d,n4,g1,g2,g3⟩:=dP e
 cases g3
 refine qt F0 B F H ρ σ d _ rs g1 λv F1 H1 x1 l=>?_
 exact qZ F0 B F1 H1 ρ σ n4 xa xb _ (rs.ext x1) g2 ha hb λus F2 H2 x2 l2=>z (v::us) F2 H2 (x1.trans x2) (.cons (Dt.mono x2.ff l) l2)
def XM (X:Cx)(ct:Nat->ah)(ms:List Mo)(e:Expr)(g:EM):Prop:=∃t,PE X e t/\∀(F0 B F H:Hp) (ρ ρ':Env) (σ:St) (d:D) (Q:VK),RS X.K ct F0 B ms F H ρ σ->g ρ=some (d,ρ')->(∀v F' H',RS X.K ct F0 B ms F' H' ρ' σ->Dt X.K ct F' d v->Q v H')->t σ H Q
def mX (i j:Nat)(fs:Env->Option (List D))(mf:List D->Option D):EM:=λρ=>(fs ρ).bind λds=>(eV i ρ).bind λp=>(eV j ρ).bind λq=>if i8 p=true/\i8 q=true then(mf (ds++[p,q])).bind λr=>match r with
 |.tup [d,p',q']=>some (d,(ρ.set i (some p')).set j (some q'))
 |_=>none else none
theorem TZ {σ:St}{i:Nat}{v:V}(h:σ[i]?=some (some v)):σ.set i (some v) = σ:=by
 apply li
 intro k
 rw[sM]
 by_cases e:i=k
 ·subst e
  rw[if_pos rfl]
  by_cases hl:i < σ.length
  ·rw[if_pos hl,h]
  ·rw[if_neg hl,pS (by omega)]
 ·rw[if_neg e]
theorem RS.two {K:ae}{F0 B F H:Hp}{ρ:Env}{σ:St}{p q:D}(rs:RS K ct F0 B ms F H ρ σ)(yG:i≠j)(Jx:ms[i]?=some (.ow 1))(Cf:ms[j]?=some (.ow 1))(hp:ρ[i]?=some (some p))(hq:ρ[j]?=some (some q))(cp:i8 p=true)(cq:i8 q=true) :
  ∃a b,σ[i]?=some (some (.ref a))/\σ[j]?=some (some (.ref b))/\a≠b/\Ow K ct F H 1 p (.ref a) [a]/\Ow K ct F H 1 q (.ref b) [b]/\B a=none/\B b=none /\
   ∀(F' H':Hp) (p' q':D),bR F F'->(∀x o,H x=some o->x≠a->x≠b->H' x=some o)->bR F' H'->(∀x o,H x=some o->F x=none->F' x=none)->Ow K ct F' H' 1 p' (.ref a) [a]->Ow K ct F' H' 1 q' (.ref b) [b]->RS K ct F0 B ms F' H' ((ρ.set i (some p')).set j (some q')) σ:=by
 obtain⟨f1,fr,n1,b1,dj,i4,cf,put⟩:=rs.put (F':=F) (H':=H) Jx
 obtain⟨v,hσ,ow⟩:=i4 p hp
 obtain⟨a,rfl,rfl⟩:=ow.cell cp
 obtain⟨f2,QG,n2,b2,dj2,Yn,cf2,put2⟩:=rs.put (F':=F) (H':=H) Cf
 obtain⟨v2,vJ,Hg⟩:=Yn q hq
 obtain⟨b,rfl,rfl⟩:=Hg.cell cq
 have ca:=ow.cells a aa
 have cb:=Hg.cells b aa
 have wG:a≠b:=by
  intro e
  subst e
  have r1:=put F (mj H a) (.non) .non [] (.refl _) (λy o hy=>by rw[qd (λe=>by rw[e,b1 a aa]at hy;cases hy)];exact rs.bh _ _ hy) (λy o hy=>by rw[qd (λe=>by rw[e,ca.1]at hy;cases hy)];exact rs.fh _ _ hy) rs.nf
   (λy hy=>⟨qd (λe=>dj a aa (e▸hy)),(cf y hy).1⟩) (Ow.scal .non rfl) bP (λy hy=>by cases hy) (λy hy=>by cases hy)
  obtain⟨f3,Jr,n3,b3,LC,Nr,Qk,put3⟩:=r1.put (F':=F) (H':=H) Cf
  obtain⟨v3,Ga,JN⟩:=Nr q (by rw[cX yG];exact hq)
  obtain⟨a3,rfl,rfl⟩:=JN.cell cq
  rw[cX yG,vJ]at Ga
  cases Ga
  obtain⟨o,ho⟩:=(JN.cells a aa).2
  rw[K0]at ho
  cases ho
 refine⟨a,b,hσ,vJ,wG,ow,Hg,b1 a aa,b2 b aa,λF' H' p' q' s1 kH s3 nf o1 o2=>?_⟩
 have Ba:=b1 a aa
 have Bb:=b2 b aa
 have Mr:=(o1.cells a aa).1
 have Mt:=(o2.cells b aa).1
 obtain⟨ob,X6⟩:=cb.2
 have hm:∀y,y≠b->upd H' b ob y=H' y:=λy ne=>yo ne
 have r1:=put F' (upd H' b ob) p' (.ref a) [a] s1 (λy o hy=>by
   have na:y≠a:=λe=>by rw[e,Ba]at hy;cases hy
   have nb:y≠b:=λe=>by rw[e,Bb]at hy;cases hy
   rw[hm y nb]
   exact kH y o (rs.bh _ _ hy) na nb) (λy o hy=>by
   rw[hm y (λe=>by rw[e,Mt]at hy;cases hy)]
   exact s3 _ _ hy) (λy o hy hn=>nf y o (rs.bh _ _ hy) (rs.nf y o hy hn)) (λy hy=>by
   obtain⟨hn,o,ho⟩:=cf y hy
   refine⟨?_,nf y o ho hn⟩
   have na:y≠a:=λe=>dj a aa (e▸hy)
   by_cases nb:y=b
   ·subst nb;rw[yx,X6]
   ·rw[hm y nb,kH y o ho na nb,ho]) (o1.frame (.refl _) λy hy=>by
   rw[az]at hy
   subst hy
   exact⟨hm _ wG,Mr⟩) (by simp) (λy hy=>by
   rw[az]at hy
   subst hy
   exact dj _ aa) (λy hy=>by
   rw[az]at hy
   subst hy
   exact Ba)
 rw[TZ hσ]at r1
 obtain⟨f3,Jr,n3,b3,LC,Nr,Qk,put3⟩:=r1.put (F':=F) (H':=H) Cf
 obtain⟨v3,Ga,JN⟩:=Nr q (by rw[cX yG];exact hq)
 obtain⟨a3,rfl,rfl⟩:=JN.cell cq
 rw[vJ]at Ga
 cases Ga
 have r2:=put3 F' H' q' (.ref b) [b] (.refl _) (λy o hy=>by
   have na:y≠a:=λe=>by rw[e,Ba]at hy;cases hy
   have nb:y≠b:=λe=>by rw[e,Bb]at hy;cases hy
   exact kH y o (rs.bh _ _ hy) na nb) s3 r1.nf (λy hy=>by
   have nb:y≠b:=λe=>LC b aa (e▸hy)
   exact⟨(hm y nb).symm,(Qk y hy).1⟩) o2 (by simp) (λy hy=>by
   rw[az]at hy
   subst hy
   exact LC _ aa) (λy hy=>by
   rw[az]at hy
   subst hy
   exact Bb)
 rw[TZ vJ]at r2
 exact r2
variable {kk:Nat}{fa:ah}{fd:aI}{ps:List aU}{mf:List D->Option D}{x:aU}{pp:dh}
theorem zth {es:List Expr}{fs:Env->Option (List D)}{kP:List af}(yG:i≠j)(Jx:ms[i]?=some (.ow 1))(Cf:ms[j]?=some (.ow 1))(Fn:cB X.prog X.w X.K X.mg X.base eF kk fa fd ps (BZ X.K ct n mf))(hr:eM kk X.A)(hg:Gl X x)(hm:X.mg x=some (.ref fa))(hk:ak X.K (.ref fa)=true)
  (hb:bA X.K fd ps kP) (hd:bZ [] kP) (hn:∀ρ ds,fs ρ=some ds->ds.length=n) (ha:Jf X ct ms i j (e::es) fs)
  (lK:(x==("__debug__":aU))=false:=by decide) (he:ar (e::es) X.env=(false,bG e X.env)::ar es X.env:=by rfl) (iL:(cE pos (ar es X.env)).any (·.1)=false:=by rfl) :
  XM X ct ms (.Call (.Name x pp) (e::es) [] pos) (mX i j fs mf):=by
 obtain⟨t,pt,qt⟩:=ha
 refine⟨_,Ui Fn hr hg hm hk hb hd oj pt lK he iL,λF0 B F H ρ ρ' σ d Q rs e z=>?_⟩
 obtain⟨ds,h1,h2⟩:=aV e
 obtain⟨p,h3,h4⟩:=aV h2
 obtain⟨q,h5,h6⟩:=aV h4
 by_cases hc:i8 p=true/\i8 q=true
 ·rw[if_pos hc]at h6
  obtain⟨r,h7,h8⟩:=aV h6
  have:∃p' q',r=.tup [d,p',q']/\ρ'=(ρ.set i (some p')).set j (some q'):=by
   split at h8
   ·cases h8;exact⟨_,_,rfl,rfl⟩
   ·cases h8
  obtain⟨p',q',rfl,rfl⟩:=this
  obtain⟨a0,b0,hσ,vJ,_⟩:=rs.two yG Jx Cf (yg h3) (yg h5) hc.1 hc.2
  refine qt F0 B F H ρ σ ds a0 b0 _ rs h1 hσ vJ λus F1 H1 x1 l=>?_
  obtain⟨a,b,Bi,FZ,wG,oa,ob,Ba,Bb,put⟩:=(rs.ext x1).two yG Jx Cf (yg h3) (yg h5) hc.1 hc.2
  rw[hσ]at Bi
  rw[vJ]at FZ
  cases Bi
  cases FZ
  refine⟨F1,ds,us,d,p,q,p',q',a0,b0,by simp,hn _ _ h1,x1.fh,l,wG,oa,ob,h7,λv F' H' s1 kH s3 nf o1 o2 dt=>?_⟩
  exact z v F' H' (put F' H' p' q' s1 kH s3 nf o1 o2) dt
 ·rw[if_neg hc]at h6;cases h6
theorem zvz:∀(ρ:Env) (ds:List D),aNil ρ=some ds->ds.length=0:=λρ ds e=>by cases e;rfl
theorem Pd {fs:Env->Option (List D)}(h:∀(ρ:Env) (ds:List D),fs ρ=some ds->ds.length=n):∀(ρ:Env) (ds:List D),aCons f fs ρ=some ds->ds.length=n+1:=λρ ds e=>by
 obtain⟨x,xs,h1,h2,h3⟩:=dP e
 cases h3
 rw[aO,h ρ xs h2]
def oq (i:Nat)(g:EM):SF:=λρ=>(g ρ).bind λr=>some (.nx (r.2.set i (some r.1)))
theorem zti {i:Nat}{x:aU}{pos':dh}{gm:EM}(hm:ms[i]?=some (.ow 0))(hN:X.N.Nodup)(hi:X.N[i]?=some x)(hx:Loc X.env.scope x)(he:XM X ct ms e gm)(hs:dR e (some (.Name x pos')) pos.line X.env=pure false:=by rfl)
  (hf:X.fn x=true\/X.env.scope.names.lookup x=some .local:=by first|exact .inl rfl|exact .inr rfl|assumption):XS X ct ms rk (.Assign [.Name x pos'] e pos) (oq i gm):=by
 obtain⟨t,pt,qt⟩:=he
 refine⟨_,U1 hN hi hx pt hs hf,λF0 B F H ρ σ o E rs e w=>?_⟩
 obtain⟨⟨d,ρ'⟩,h1,h2⟩:=aV e
 cases h2
 exact qt F0 B F H ρ ρ' σ d _ rs h1 λv F' H' r l=>w _ F' H' (r.set hm (.refl r.fh) (Ow.zero l) bP λa z=>(by cases z))
end
end L3
namespace L2
open PySem PySem.Spec
open PyProof.Rows hiding St
section
variable {X:Cx}{pos:dh}
end
end L2
namespace L3
open PySem PySem.Spec L2
open PyProof.Rows hiding St
section
variable {X:Cx}{ct:Nat->ah}{ms:List Mo}{n:Nat}{pos:dh}
def gL (gs:List D->Env->Option Env):D->Env->Option Env:=λd ρ=>match d with
 |.lst ds=>gs ds ρ
 |_=>none
end
end L3
namespace L3
open PySem PySem.Spec L2
open PyProof.Rows hiding St
section
variable {X:Cx}{ct:Nat->ah}{ms:List Mo}{rk n m k i:Nat}{a b c e:Expr}{f g h:EF}{pos:dh}
end
end L3
namespace L3
open PySem PySem.Spec L2
open PyProof.Rows hiding St
section
variable {X:Cx}{ct:Nat->ah}{ms:List Mo}{rk n m k:Nat}{a b c e o:Expr}{f g h:EF}{pos:dh}
end
end L3
namespace L2
open PySem PySem.Spec
open PyProof.Rows hiding St
section
variable {X:Cx}{CX:sX}{k:Nat}{f C:ah}{fd:aI}{ps ks:List aU}{sp:Sp}{E:XK}{x m:aU}{p pos dF Bo:dh}{e o:Expr}{es:List Expr}{kws:List gh}{te ta:TE}{t tk:TA}{nm:Option aU}
variable {g:List af->List af->List af}{gV:List V->List V->List V}
end
end L2
namespace L3
open PySem PySem.Spec L2
open PyProof.Rows hiding St
section
variable {X:Cx}{ct:Nat->ah}{ms:List Mo}{rk n m k kk:Nat}{e a:Expr}{f:EF}{x:aU}{pp pos Bo:dh}{fa:ah}{fd:aI}{ps ks:List aU}{pm cs:List Nat}{mi:Nat->List D->Option D}
end
end L3
namespace L3
open PySem PySem.Spec L2
open PyProof.Rows hiding St
section
variable {X:Cx}{ct:Nat->ah}{ms:List Mo}{rk n m k i j:Nat}{a b c e:Expr}{f g h:EF}{pos:dh}
variable {kk:Nat}{fa:ah}{fd:aI}{ps:List aU}{mf:List D->Option D}{x y:aU}{pp:dh}
end
end L3
namespace L3
open PySem PySem.Spec L2
open PyProof.Rows hiding St
open Classical in
open Classical in
section
variable {X:Cx}
end
section
variable {K:ae}{ct:Nat->ah}{n m k:Nat}
end
section
variable {α:Type}[DecidableEq α]
end
end L3
namespace L3
open PySem PySem.Spec L2
open PyProof.Rows hiding St
section
variable {X:Cx}{ct:Nat->ah}{ms:List Mo}{rk n m k:Nat}{st:bO}{rest:List bO}{a b c e tg:Expr}{f g h:EF}{p q:BF}{u w:SF}{pos:dh}{K:ae}
end
end L3
namespace L3
open PySem PySem.Spec L2
open PyProof.Rows hiding St
section
variable {X:Cx}{ct:Nat->ah}{ms:List Mo}{rk n m k kk kq:Nat}{st:bO}{rest:List bO}{a b c e tg:Expr}{f g h:EF}{p q:BF}{u w:SF}{pos pp:dh}{K:ae}{x:aU}{fa:ah}{fd:aI}{ps:List aU}{mf:List D->Option D}
theorem mZ (h:XO X ct ms k e f):XO X ct ms 0 e f:=XE.ow (XO.sh (n:=0) h)
theorem kW {own i:Nat}(hN:X.N.Nodup)(ho:i<own:=by decide)(hm:ms[i]?=some (.ow 0):=by rfl)(hi:X.N[i]?=some x:=by rfl)(hx:Loc X.env.scope x:=by first|exact Or.inl rfl|exact Or.inr rfl)
  (hf:X.fn x=true\/X.env.scope.names.lookup x=some .local:=by first|exact .inl rfl|exact .inr rfl|assumption):vU X ct ms own 0 (.Name x pos) (gV i):=zpe ho hm hN hi hx hf
theorem eI {i:Nat}{pos':dh}(hN:X.N.Nodup)(he:XO X ct ms k e f)(hm:ms[i]?=some (.ow k):=by rfl)(hi:X.N[i]?=some x:=by rfl)(hx:Loc X.env.scope x:=by first|exact Or.inl rfl|exact Or.inr rfl)
  (hs:dR e (some (.Name x pos')) pos.line X.env=pure false:=by rfl)
  (hf:X.fn x=true\/X.env.scope.names.lookup x=some .local:=by first|exact .inl rfl|exact .inr rfl|assumption):XS X ct ms rk (.Assign [.Name x pos'] e pos) (sSet i f):=zvi hm hN hi hx he hs hf
theorem lh {i:Nat}(hN:X.N.Nodup)(hm:ms[i]?=some (.ow 0):=by rfl)(hi:X.N[i]?=some x:=by rfl)(hx:Loc X.env.scope x:=by first|exact Or.inl rfl|exact Or.inr rfl)
  (hf:X.fn x=true\/X.env.scope.names.lookup x=some .local:=by first|exact .inl rfl|exact .inr rfl|assumption):XG X ct ms 0 (.Name x pos) (gV i):=zsh hm hN hi hx hf
theorem cK {es:List Expr}{ns:List Nat}{fs:Env->Option (List D)}(d:hG X.K X.mg x st ps fa fd)(Fn:cB X.prog X.w X.K X.mg X.base eF kk fa fd ps (fU X.K ct ns rk mf))(hr:eM kq X.A)(ha:XA X ct ms (e::es) ns fs)(oM:kk<=kq:=by decide)(hg:Gl X x:=by rfl)
  (lK:(x==("__debug__":aU))=false:=by decide) (he:ar (e::es) X.env=(false,bG e X.env)::ar es X.env:=by rfl) (iL:(cE pos (ar es X.env)).any (·.1)=false:=by rfl) :
  XO X ct ms rk (.Call (.Name x pp) (e::es) [] pos) (λρ=>(fs ρ).bind λds=>mf (ds++[])) :=
 Uy (ns:=ns) (nd:=[]) (kO:=[]) (by rw[cu];exact Fn) (hr.mono oM) hg d.mgx d.fn.kp d.bd .nil (λ_ _=>.nil) ha lK he iL
theorem pd {om:List Mo}{jX iter:Expr}{ifs:List Expr}{scope:gx}{N:List aU}{own:Nat}{cap:List Nat}{fi:Env->Option (List D)}{gg:D->Env->Option Env}(hi:vW X ct ms n tg iter fi)
  (hg:∀cl C fp s₀ H₀,vU (iT X scope cl N C fp s₀ H₀) ct (om++iq ms cap) own n tg gg) (ht:∀cl C fp s₀ H₀,zH (iT X scope cl N C fp s₀ H₀) ct (om++iq ms cap) ifs p) (he:∀cl C fp s₀ H₀,XO (iT X scope cl N C fp s₀ H₀) ct (om++iq ms cap) k jX f)
  (B:kK X scope N own cap:=by exact yZ (by rfl)) (hc:X.calm=true:=by rfl) (ho:om.length=own:=by rfl) (fF:∀i∈cap,i<ms.length:=by decide)
  (hs:∀x,dQ iter X.env x=pure x:=by intro _;rfl):XO X ct ms (k+1) (.ListComp jX [⟨tg,iter,ifs,0⟩] scope pos) (dI fi own cap gg p f):=zsm B hc ho fF hi hg ht he hs
theorem gY {P:bz}{w:ce}{mg:aU->Option af}{base:aZ}{qual:aU}{N:List aU}{pm:List Nat}{bf:SF}(Fn:Fun2 K x qual st fa fd)(S:bn N ps (aL st))
  (body:∀(iD:af) (A:bX) (outer:List PySem.Env) (s:am) (H:Hp) (E:XK),eM kk (A.deeper (envOfC qual (aL st) s.heap.objs.size fa iD))->si (nO eF P w K mg base N qual (aL st) fa iD A outer s H E).nox ct ms rk (hU st) bf)
  (Bc:pm.length=ps.length:=by rfl) (Jy:ms.length=N.length:=by rfl) (oM:ps.length<=N.length:=by decide) (FJ:∀(i n:Nat),pm[i]?=some n->ms[i]?=some (Mo.al n)\/(n=0/\ms[i]?=some (Mo.ow 0)):=by exact qk (by decide)) :
  cB P w K mg base eF (kk+1) fa fd ps (fU K ct pm rk (mOf N bf)):=lift Fn S Bc Jy oM FJ body
theorem cM {i:Int}{j}:XE X ct ms 0 (.Constant (.int i) j pos) (eC (.int i)):=zvg
theorem nk {j}:XE X ct ms 0 (.Constant .none j pos) (eC .non):=zvh
theorem kE (ha:XE X ct ms 0 a f)(hb:XE X ct ms 0 b g):XO X ct ms 1 (.BinOp a .Add b pos) (e2 dS f g):=zxb zsp (zsq (by decide) (by decide)) ha hb
theorem gG (ha:XE X ct ms 0 a f)(hb:XE X ct ms 0 b g)(hp:mK b:=by exactλ_ _=>rfl):XE X ct ms 0 (.Subscript a b pos) (e2 dz f g):=xR (n:=0) xN xP ha hb hp
theorem lQ {fs:Env->Option (List D)}(hm:X.mg "len"=none)(ha:XA X ct ms [e] [n] fs)(hg:Gl X "len":=by rfl)(he:ar [e] X.env=(false,bG e X.env)::ar [] X.env:=by rfl)(iL:(cE pos (ar [] X.env)).any (·.1)=false:=by rfl):XE X ct ms 0 (.Call (.Name "len" pp) [e] [] pos) (eN dL fs):=u1 (k:=0) zm5 zsl hg hm zve ha (by decide) (by decide) he iL
theorem Yu {P:List af->Prop}(h:P [])(us:List af)(e:us.length=0):P us:=by
 cases us with
 |nil=>exact h
 |cons a t=>cases e
theorem tq {P:List af->Prop}(h:∀a1,P [a1])(us:List af)(e:us.length=1):P us:=by
 cases us with
 |nil=>cases e
 |cons a t=>exact Yu (P:=λt=>P (a::t)) (h a) t (Nat.succ.inj e)
theorem mH {P:List af->Prop}(h:∀a1 a2,P [a1,a2])(us:List af)(e:us.length=2):P us:=by
 cases us with
 |nil=>cases e
 |cons a t=>exact tq (P:=λt=>P (a::t)) (h a) t (Nat.succ.inj e)
theorem tu {P:List af->Prop}(h:∀a1 a2 a3,P [a1,a2,a3])(us:List af)(e:us.length=3):P us:=by
 cases us with
 |nil=>cases e
 |cons a t=>exact mH (P:=λt=>P (a::t)) (h a) t (Nat.succ.inj e)
theorem vK {P:List af->Prop}(h:∀a1 a2 a3 a4,P [a1,a2,a3,a4])(us:List af)(e:us.length=4):P us:=by
 cases us with
 |nil=>cases e
 |cons a t=>exact tu (P:=λt=>P (a::t)) (h a) t (Nat.succ.inj e)
theorem Ci {P:List af->Prop}(h:∀a1 a2 a3 a4 a5,P [a1,a2,a3,a4,a5])(us:List af)(e:us.length=5):P us:=by
 cases us with
 |nil=>cases e
 |cons a t=>exact vK (P:=λt=>P (a::t)) (h a) t (Nat.succ.inj e)
end
end L3
namespace L3
open PySem PySem.Spec L2
open PyProof.Rows hiding St
section
variable {K:ae}{ct:Nat->ah}{F B H:Hp}
end
section
variable {X:Cx}{ct:Nat->ah}{ms:List Mo}{rk n m k i j:Nat}{a b c e:Expr}{f g h:EF}{p q:BF}{pos:dh}{K:ae}
end
end L3
namespace Fq
theorem gcd_step (a b:Int):eZ b (a.fmod b)=eZ a b:=by
 rw[Int.fmod_def,Int.gcd_sub_mul_left_right,Int.gcd_comm]
theorem fmod_less (a:Int){b:Int}(hb:b≠0):(a.fmod b).natAbs<b.natAbs:=by
 rcases Int.lt_or_gt_of_ne hb with h|h
 ·have h1:=sK (-a) (b:=-b) (by omega)
  have h2:=pP (-a) (b:=-b) (by omega)
  have e:(-a).fmod (-b) = -(a.fmod b):=Int.neg_fmod_neg ..
  omega
 ·have h1:=sK a h
  have h2:=pP a h
  omega
theorem gcd_end (a:Int):(if a<0 then -a else a)=((eZ a 0:Nat):Int):=by
 rw[Int.gcd_zero_right]
 split<;>omega
def dv (t b:Int):Int:=if b<0 then -((eZ t b:Nat):Int)else((eZ t b:Nat):Int)
def mk (t b:Int):Int×Int:=(t.fdiv (dv t b),b.fdiv (dv t b))
structure Low (q:Int×Int):Prop where
 pos:1<=q.2
 cop:eZ q.1 q.2=1
theorem gcd_pos {t b:Int}(hb:b≠0):0<eZ t b:=Int.gcd_pos_of_ne_zero_right t hb
theorem P3 {t b:Int}(hb:b≠0):dv t b≠0:=by
 have:=gcd_pos (t:=t) hb
 unfold dv;split<;>omega
theorem Vg (t b:Int):(dv t b).natAbs=eZ t b:=by
 unfold dv;split<;>omega
theorem dv_le {t b:Int}(hb:b≠0):(dv t b).natAbs<=b.natAbs:=by
 rw[Vg]
 exact Nat.le_of_dvd (by omega) (Int.natAbs_dvd_natAbs.mpr (lR t b)|> λh=>by simpa using h)
theorem SH (t b:Int):dv t b ∣ t:=by
 unfold dv;split
 ·exact Int.neg_dvd.mpr (uW t b)
 ·exact uW t b
theorem Sw (t b:Int):dv t b ∣ b:=by
 unfold dv;split
 ·exact Int.neg_dvd.mpr (lR t b)
 ·exact lR t b
theorem PR (t b:Int):t=dv t b*(mk t b).1:=by
 show t=dv t b*t.fdiv (dv t b)
 rw[pf (SH t b),rq (SH t b)]
theorem PU (t b:Int):b=dv t b*(mk t b).2:=by
 show b=dv t b*b.fdiv (dv t b)
 rw[pf (Sw t b),rq (Sw t b)]
theorem mk_low {t b:Int}(hb:b≠0):Low (mk t b):=by
 have e1:=PR t b
 have e2:=PU t b
 have hd:=P3 (t:=t) hb
 have hg:=gcd_pos (t:=t) hb
 constructor
 ·have hs:(b<0/\dv t b<0)\/(0<b/\0<dv t b):=by
   unfold dv;split<;>omega
  rcases hs with⟨h1,h2⟩|⟨h1,h2⟩
  ·rcases Int.lt_or_le (mk t b).2 1 with h|h
   ·have:0<=dv t b*(mk t b).2:=kX (by omega) (by omega)
    omega
   ·exact h
  ·rcases Int.lt_or_le (mk t b).2 1 with h|h
   ·have:dv t b*(mk t b).2<=0:=Int.mul_nonpos_of_nonneg_of_nonpos (by omega) (by omega)
    omega
   ·exact h
 ·have h:eZ (dv t b*(mk t b).1) (dv t b*(mk t b).2)=eZ t b:=by rw[←e1,←e2]
  rw[Int.gcd_mul_left,Vg]at h
  exact Nat.eq_of_mul_eq_mul_left hg (by rw[h,Nat.mul_one])
theorem mk_cross (t b:Int):(mk t b).1*b=t*(mk t b).2:=by
 have e1:=PR t b
 have e2:=PU t b
 generalize (mk t b).1=x,(mk t b).2=y,dv t b=d at *
 subst e1
 rw[e2]
 grind
theorem SV {d x:Int}(hd:d≠0):x.natAbs<=(d*x).natAbs:=by
 rw[xT]
 exact Nat.le_mul_of_pos_left _ (by omega)
theorem mk_le_one {t b:Int}(hb:b≠0):(mk t b).1.natAbs<=t.natAbs:=by
 have h:=SV (x:=(mk t b).1) (P3 (t:=t) hb)
 rwa[←PR]at h
theorem mk_le_two {t b:Int}(hb:b≠0):(mk t b).2.natAbs<=b.natAbs:=by
 have h:=SV (x:=(mk t b).2) (P3 (t:=t) hb)
 rwa[←PU]at h
def plus (p q:Int×Int):Int×Int:=mk (p.1*q.2+q.1*p.2) (p.2*q.2)
def scaled (p:Int×Int)(n:Int):Int×Int:=mk (p.1*n) p.2
def minus (p q:Int×Int):Int×Int:=plus p (scaled q (-1))
def under (p q:Int×Int):Bool:=decide (p.1*q.2<q.1*p.2)
theorem Low.ne {q:Int×Int}(h:Low q):q.2≠0:=by have:=h.pos;omega
theorem Low.mul_ne {p q:Int×Int}(h:Low p)(h':Low q):p.2*q.2≠0:=Int.mul_ne_zero h.ne h'.ne
theorem plus_low {p q:Int×Int}(h:Low p)(h':Low q):Low (plus p q):=mk_low (h.mul_ne h')
theorem scaled_low {p:Int×Int}(h:Low p)(n:Int):Low (scaled p n):=mk_low h.ne
theorem minus_low {p q:Int×Int}(h:Low p)(h':Low q):Low (minus p q):=plus_low h (scaled_low h' _)
theorem plus_v (p q:Int×Int):(plus p q).1*(p.2*q.2)=(p.1*q.2+q.1*p.2)*(plus p q).2:=mk_cross _ _
theorem zp9 (p:Int×Int)(n:Int):(scaled p n).1*p.2=(p.1*n)*(scaled p n).2:=mk_cross _ _
theorem minus_v {p q:Int×Int}(h':Low q):(minus p q).1*(p.2*q.2)=(p.1*q.2-q.1*p.2)*(minus p q).2:=by
 have e1:=plus_v p (scaled q (-1))
 have e2:=zp9 q (-1)
 have hs:=(scaled_low h' (-1)).ne
 show(plus p (scaled q (-1))).1*(p.2*q.2)=(p.1*q.2-q.1*p.2)*(plus p (scaled q (-1))).2
 have k:(scaled q (-1)).2*((plus p (scaled q (-1))).1*(p.2*q.2))=(scaled q (-1)).2*((p.1*q.2-q.1*p.2)*(plus p (scaled q (-1))).2):=by grind
 exact Int.eq_of_mul_eq_mul_left hs k
theorem lt_congr {n d m e n' d' m' e':Int}(hd:0<d)(he:0<e)(FD:0<d')(XH:0<e')(h:n*e=m*d)(h':n' * e'=m' * d'):(n*d'<n' * d↔m*e'<m' * e):=by
 have p1:0<e*e':=dD he XH
 have p2:0<d*d':=dD hd FD
 have k:(e*e')*(n' * d-n*d')=(d*d')*(m' * e-m*e'):=by grind
 constructor
 ·intro q
  have:0<(d*d')*(m' * e-m*e'):=by rw[←k];exact dD p1 (by omega)
  have:=oS this (by omega)
  omega
 ·intro q
  have:0<(e*e')*(n' * d-n*d'):=by rw[k];exact dD p2 (by omega)
  have:=oS this (by omega)
  omega
theorem Low.gt {q:Int×Int}(h:Low q):0<q.2:=by have:=h.pos;omega
end Fq
set_option maxHeartbeats 4000000
namespace My
open PySem L2 L3
def top (i:Nat):bO:=PySem.Challenge.pw_ringbeat_k44_whole_lengths_are_rates.main.body.getD i (.Pass ⟨0,0,0,0⟩)
abbrev yt:bO:=inClass (top 32) 0
abbrev xc:bO:=inClass (top 33) 0
abbrev yk:bO:=inClass (top 34) 0
abbrev ym:bO:=inClass (top 35) 0
abbrev wa:bO:=top 42
abbrev wb:bO:=top 43
abbrev vp:bO:=top 44
abbrev wc:bO:=top 45
abbrev xf:bO:=top 46
abbrev ww:bO:=top 47
abbrev yp:bO:=top 48
abbrev ya:bO:=top 49
abbrev xn:bO:=inClass (top 51) 0
abbrev zx:bO:=inClass (top 51) 1
abbrev wx:bO:=inClass (top 51) 2
abbrev we:bO:=inClass (top 51) 3
abbrev wy:bO:=top 52
abbrev yb:bO:=top 7
abbrev jw:bO:=top 8
abbrev uf:bO:=top 11
abbrev Cq:bO:=top 9
abbrev jx:bO:=top 10
abbrev jy:bO:=top 12
abbrev jz:bO:=top 13
abbrev ug:bO:=top 14
abbrev Cr:bO:=top 54
abbrev wf:bO:=top 55
abbrev zl:bO:=top 56
abbrev xo:bO:=top 58
abbrev uh:bO:=top 59
abbrev wg:bO:=top 60
abbrev yq:bO:=top 61
abbrev xg:bO:=top 62
abbrev Cm:bO:=top 63
abbrev yr:bO:=top 16
abbrev xp:bO:=top 17
abbrev zw:bO:=top 18
abbrev yc:bO:=top 19
abbrev yW:bO:=top 20
abbrev ui:bO:=top 22
abbrev wz:bO:=top 23
abbrev ye:bO:=top 24
abbrev xq:bO:=top 25
abbrev xh:bO:=top 26
abbrev vq:bO:=top 27
abbrev yu:bO:=top 28
abbrev yf:bO:=top 29
abbrev yn:bO:=top 30
abbrev xi:bO:=top 65
abbrev xr:bO:=top 66
abbrev wj:bO:=top 67
abbrev w6:bO:=top 68
abbrev wk:bO:=top 69
abbrev w8:bO:=top 70
abbrev vt:bO:=top 71
abbrev BO:bO:=top 72
theorem zep:bn ["self","start","goal","time","behind"] ["self","start","goal","time","behind"] (aL yt):=⟨rfl,rfl,rfl,by decide +kernel,rfl,by decide +kernel,by decide +kernel⟩
theorem ze0:bn ["self","start","goal","time"] ["self","start","goal","time"] (aL xc):=⟨rfl,rfl,rfl,by decide +kernel,rfl,by decide +kernel,by decide +kernel⟩
theorem ze1:bn ["self","start","goal","time","behind"] ["self","start","goal","time","behind"] (aL yk):=⟨rfl,rfl,rfl,by decide +kernel,rfl,by decide +kernel,by decide +kernel⟩
theorem ze2:bn ["self","start","goal","time","behind"] ["self","start","goal","time","behind"] (aL ym):=⟨rfl,rfl,rfl,by decide +kernel,rfl,by decide +kernel,by decide +kernel⟩
theorem zh5:bn ["sign"] ["sign"] (aL wa):=⟨rfl,rfl,rfl,by decide +kernel,rfl,by decide +kernel,by decide +kernel⟩
theorem zh6:bn ["sign"] ["sign"] (aL wb):=⟨rfl,rfl,rfl,by decide +kernel,rfl,by decide +kernel,by decide +kernel⟩
theorem zlh:bn ["word"] ["word"] (aL vp):=⟨rfl,rfl,rfl,by decide +kernel,rfl,by decide +kernel,by decide +kernel⟩
theorem Og:bn ["names","seen","name"] ["names"] (aL wc):=⟨rfl,rfl,rfl,by decide +kernel,rfl,by decide +kernel,by decide +kernel⟩
theorem ze3:bn ["number","least","most"] ["number","least","most"] (aL xf):=⟨rfl,rfl,rfl,by decide +kernel,rfl,by decide +kernel,by decide +kernel⟩
theorem Oe:bn ["arrow","many","least","most"] ["arrow","many"] (aL ww):=⟨rfl,rfl,rfl,by decide +kernel,rfl,by decide +kernel,by decide +kernel⟩
theorem xj:bn ["many","arrows","within","waited","arrow","placed","done","here"] ["many","arrows"] (aL yp):=⟨rfl,rfl,rfl,by decide +kernel,rfl,by decide +kernel,by decide +kernel⟩
theorem vf:bn ["arrows","chosen","going","here","seen","way"] ["arrows","chosen","going"] (aL ya):=⟨rfl,rfl,rfl,by decide +kernel,rfl,by decide +kernel,by decide +kernel⟩
theorem j5:bn ["self","names","arrows","number","arrow","placed"] ["self","names","arrows"] (aL xn):=⟨rfl,rfl,rfl,by decide +kernel,rfl,by decide +kernel,by decide +kernel⟩
theorem zch:bn ["self"] ["self"] (aL zx):=⟨rfl,rfl,rfl,by decide +kernel,rfl,by decide +kernel,by decide +kernel⟩
theorem zjd:bn ["self","going"] ["self","going"] (aL wx):=⟨rfl,rfl,rfl,by decide +kernel,rfl,by decide +kernel,by decide +kernel⟩
theorem zh7:bn ["self"] ["self"] (aL we):=⟨rfl,rfl,rfl,by decide +kernel,rfl,by decide +kernel,by decide +kernel⟩
theorem jg:bn ["net","going","found","done","here","number"] ["net","going"] (aL wy):=⟨rfl,rfl,rfl,by decide +kernel,rfl,by decide +kernel,by decide +kernel⟩
theorem v7:bn ["one","other","rest"] ["one","other"] (aL yb):=⟨rfl,rfl,rfl,by decide +kernel,rfl,by decide +kernel,by decide +kernel⟩
theorem OX:bn ["top","bottom","divisor"] ["top","bottom"] (aL jw):=⟨rfl,rfl,rfl,by decide +kernel,rfl,by decide +kernel,by decide +kernel⟩
theorem zno:bn ["one","whole"] ["one","whole"] (aL uf):=⟨rfl,rfl,rfl,by decide +kernel,rfl,by decide +kernel,by decide +kernel⟩
theorem ztk:bn ["one","other"] ["one","other"] (aL Cq):=⟨rfl,rfl,rfl,by decide +kernel,rfl,by decide +kernel,by decide +kernel⟩
theorem zqa:bn ["one","other"] ["one","other"] (aL jx):=⟨rfl,rfl,rfl,by decide +kernel,rfl,by decide +kernel,by decide +kernel⟩
theorem zqb:bn ["one","other"] ["one","other"] (aL jy):=⟨rfl,rfl,rfl,by decide +kernel,rfl,by decide +kernel,by decide +kernel⟩
theorem zqc:bn ["when","more"] ["when","more"] (aL jz):=⟨rfl,rfl,rfl,by decide +kernel,rfl,by decide +kernel,by decide +kernel⟩
theorem znp:bn ["one","other"] ["one","other"] (aL ug):=⟨rfl,rfl,rfl,by decide +kernel,rfl,by decide +kernel,by decide +kernel⟩
theorem Pe:bn ["net","ring","times","behinds"] ["net","ring"] (aL Cr):=⟨rfl,rfl,rfl,by decide +kernel,rfl,by decide +kernel,by decide +kernel⟩
theorem uu:bn ["net","pace","numbers","times","chosen","pushed","number","arrow","earliest"] ["net","pace","numbers","times","chosen"] (aL wf):=⟨rfl,rfl,rfl,by decide +kernel,rfl,by decide +kernel,by decide +kernel⟩
theorem yz:bn ["net","pace","numbers","times","chosen","pushed","count"] ["net","pace","numbers"] (aL zl):=⟨rfl,rfl,rfl,by decide +kernel,rfl,by decide +kernel,by decide +kernel⟩
theorem Sr:bn ["net","pace","numbers","found"] ["net","pace","numbers"] (aL xo):=⟨rfl,rfl,rfl,by decide +kernel,rfl,by decide +kernel,by decide +kernel⟩
theorem S9:bn ["one","other","total"] ["one","other"] (aL uh):=⟨rfl,rfl,rfl,by decide +kernel,rfl,by decide +kernel,by decide +kernel⟩
theorem Sx:bn ["net","most"] ["net"] (aL wg):=⟨rfl,rfl,rfl,by decide +kernel,rfl,by decide +kernel,by decide +kernel⟩
theorem xt:bn ["net","numbers","ring","ceiling","gap","middle","better"] ["net","numbers"] (aL yq):=⟨rfl,rfl,rfl,by decide +kernel,rfl,by decide +kernel,by decide +kernel⟩
theorem qr:bn ["net","numbers","ring","pace"] ["net","numbers"] (aL xg):=⟨rfl,rfl,rfl,by decide +kernel,rfl,by decide +kernel,by decide +kernel⟩
theorem KO:bn ["net","going","leading","paper","times"] ["net","going"] (aL Cm):=⟨rfl,rfl,rfl,by decide +kernel,rfl,by decide +kernel,by decide +kernel⟩
theorem vv:bn ["told","greatest","going","number","amount"] ["told"] (aL yr):=⟨rfl,rfl,rfl,by decide +kernel,rfl,by decide +kernel,by decide +kernel⟩
theorem Ss:bn ["net","was","depth"] ["net","was"] (aL xp):=⟨rfl,rfl,rfl,by decide +kernel,rfl,by decide +kernel,by decide +kernel⟩
theorem wt:bn ["net","rows","numbers","floor","when","number","arrow"] ["net","rows","numbers","floor"] (aL zw):=⟨rfl,rfl,rfl,by decide +kernel,rfl,by decide +kernel,by decide +kernel⟩
theorem xl:bn ["net","rounds","was","floors","rows","greatest","numbers","order","number","going","floor"] ["net","rounds","was","floors"] (aL yc):=⟨rfl,rfl,rfl,by decide +kernel,rfl,by decide +kernel,by decide +kernel⟩
theorem zv0:bn ["net","rounds","was","floors"] ["net","rounds","was","floors"] (aL yW):=⟨rfl,rfl,rfl,by decide +kernel,rfl,by decide +kernel,by decide +kernel⟩
theorem znq:bn ["rows","first","count"] ["rows","first","count"] (aL ui):=⟨rfl,rfl,rfl,by decide +kernel,rfl,by decide +kernel,by decide +kernel⟩
theorem zjf:bn ["rows","first","last","count","lengths"] ["rows","first","last","count","lengths"] (aL wz):=⟨rfl,rfl,rfl,by decide +kernel,rfl,by decide +kernel,by decide +kernel⟩
theorem zcw:bn ["net","lengths"] ["net","lengths"] (aL ye):=⟨rfl,rfl,rfl,by decide +kernel,rfl,by decide +kernel,by decide +kernel⟩
theorem Su:bn ["rows","carriers","going","number","arrow"] ["rows","carriers","going","number"] (aL xq):=⟨rfl,rfl,rfl,by decide +kernel,rfl,by decide +kernel,by decide +kernel⟩
theorem ud:bn ["net","rows","first","last","lengths","going","entering","carriers","number"] ["net","rows","first","last","lengths"] (aL xh):=⟨rfl,rfl,rfl,by decide +kernel,rfl,by decide +kernel,by decide +kernel⟩
theorem qz:bn ["net","rows","paper","count","first","lengths","settled"] ["net","rows","paper"] (aL vq):=⟨rfl,rfl,rfl,by decide +kernel,rfl,by decide +kernel,by decide +kernel⟩
theorem Sg:bn ["net","going"] ["net"] (aL yu):=⟨rfl,rfl,rfl,by decide +kernel,rfl,by decide +kernel,by decide +kernel⟩
theorem jh:bn ["rows","known","count","lengths","first"] ["rows","known","count","lengths"] (aL yf):=⟨rfl,rfl,rfl,by decide +kernel,rfl,by decide +kernel,by decide +kernel⟩
theorem vw:bn ["net","most","was","rows","spare_rounds","count","last","lengths"] ["net","most","was"] (aL yn):=⟨rfl,rfl,rfl,by decide +kernel,rfl,by decide +kernel,by decide +kernel⟩
theorem ze4:bn ["_law_script","_law_k"] ["_law_script","_law_k"] (aL xi):=⟨rfl,rfl,rfl,by decide +kernel,rfl,by decide +kernel,by decide +kernel⟩
theorem zgp:bn ["_law_cell"] ["_law_cell"] (aL xr):=⟨rfl,rfl,rfl,by decide +kernel,rfl,by decide +kernel,by decide +kernel⟩
theorem Oh:bn ["_law_cell","_law_k","_law_number"] ["_law_cell","_law_k"] (aL wj):=⟨rfl,rfl,rfl,by decide +kernel,rfl,by decide +kernel,by decide +kernel⟩
theorem J2:bn ["_law_turn","_law_many","_law_going","_law_order","_law_left","_law_k"] ["_law_turn","_law_many","_law_going"] (aL w6):=⟨rfl,rfl,rfl,by decide +kernel,rfl,by decide +kernel,by decide +kernel⟩
theorem wo:bn ["_law_cell","_law_many","_law_turn","_law_k","_law_number","_law_start","_law_goal","_law_behind","_law_time"] ["_law_cell","_law_many","_law_turn","_law_k"] (aL wk):=⟨rfl,rfl,rfl,by decide +kernel,rfl,by decide +kernel,by decide +kernel⟩
theorem qf:bn ["_law_arrow_here","_law_kind","_law_start","_law_goal","_law_time","_law_behind"] ["_law_arrow_here","_law_kind"] (aL w8):=⟨rfl,rfl,rfl,by decide +kernel,rfl,by decide +kernel,by decide +kernel⟩
theorem SW:bn ["_law_script","_law_many","_law_back","_law_cell"] ["_law_script","_law_many","_law_back"] (aL vt):=⟨rfl,rfl,rfl,by decide +kernel,rfl,by decide +kernel,by decide +kernel⟩
theorem q0:bn ["_law_script","_law_many","_law_total","_law_turn","_law_arrows","_law_net","_law_was_here","_law_found","_law_count","_law_start","_law_lengths","_law_going","_law_paper"] ["_law_script"] (aL BO):=⟨rfl,rfl,rfl,by decide +kernel,rfl,by decide +kernel,by decide +kernel⟩
set_option genInjectivity false
set_option genSizeOf false
structure CN where
 c_Arrow:ah
 c_Ride:ah
 c_Wait:ah
 c_Back:ah
 c_Net:ah
 f_Arrow___init:ah
 d_Arrow___init:aI
 f_Ride___init:ah
 d_Ride___init:aI
 f_Wait___init:ah
 d_Wait___init:aI
 f_Back___init:ah
 d_Back___init:aI
 f_is_letter:ah
 d_is_letter:aI
 f_is_figure:ah
 d_is_figure:aI
 f_is_name:ah
 d_is_name:aI
 f_are_names:ah
 d_are_names:aI
 f_lies_within:ah
 d_lies_within:aI
 f_is_right:ah
 d_is_right:aI
 f_placed_goings:ah
 d_placed_goings:aI
 f_ring_back_from:ah
 d_ring_back_from:aI
 f_Net___init:ah
 d_Net___init:aI
 f_Net_most_behind:ah
 d_Net_most_behind:aI
 f_Net_into:ah
 d_Net_into:aI
 f_Net_order:ah
 d_Net_order:aI
 f_leads_to:ah
 d_leads_to:aI
 f_common_divisor:ah
 d_common_divisor:aI
 f_ratio:ah
 d_ratio:aI
 f_scaled:ah
 d_scaled:aI
 f_plus:ah
 d_plus:aI
 f_minus:ah
 d_minus:aI
 f_under:ah
 d_under:aI
 f_later:ah
 d_later:aI
 f_latest:ah
 d_latest:aI
 f_mean:ah
 d_mean:aI
 f_push_once:ah
 d_push_once:aI
 f_times_or_ring_along:ah
 d_times_or_ring_along:aI
 f_ring_above:ah
 d_ring_above:aI
 f_midway:ah
 d_midway:aI
 f_least_gap:ah
 d_least_gap:aI
 f_greatest_ring:ah
 d_greatest_ring:aI
 f_paper_along:ah
 d_paper_along:aI
 f_rate:ah
 d_rate:aI
 f_greatest_told:ah
 d_greatest_told:aI
 f_rows_ahead:ah
 d_rows_ahead:aI
 f_time_in_last_row:ah
 d_time_in_last_row:aI
 f_rows_with_past:ah
 d_rows_with_past:aI
 f_run:ah
 d_run:aI
 f_growth:ah
 d_growth:aI
 f_grows_so:ah
 d_grows_so:aI
 f_never_outgrown:ah
 d_never_outgrown:aI
 f_is_carried:ah
 d_is_carried:aI
 f_all_carried:ah
 d_all_carried:aI
 f_goes_on:ah
 d_goes_on:aI
 f_refuse_loose:ah
 d_refuse_loose:aI
 f_earliest_round:ah
 d_earliest_round:aI
 f_comes_again:ah
 d_comes_again:aI
 f_law_cell_at:ah
 d_law_cell_at:aI
 f_law_is_row:ah
 d_law_is_row:aI
 f_law_mixed:ah
 d_law_mixed:aI
 f_law_rank:ah
 d_law_rank:aI
 f_law_arrow:ah
 d_law_arrow:aI
 f_law_made:ah
 d_law_made:aI
 f_law_was:ah
 d_law_was:aI
 f_law:ah
 d_law:aI
set_option genSizeOf true
set_option genInjectivity true
def CN.ct (a:CN):Nat->ah
 |0=>a.c_Arrow
 |1=>a.c_Ride
 |2=>a.c_Wait
 |3=>a.c_Back
 |4=>a.c_Net
 |_=>0
structure Txt (K:ae)(mg:aU->Option af)(a:CN):Prop where
 Arrow:Dc K mg "Arrow" a.c_Arrow
 Ride:Dc K mg "Ride" a.c_Ride
 Wait:Dc K mg "Wait" a.c_Wait
 Back:Dc K mg "Back" a.c_Back
 Net:Dc K mg "Net" a.c_Net
 Arrow___init:Dm K a.c_Arrow "__init__" "Arrow.__init__" yt ["self","start","goal","time","behind"] a.f_Arrow___init a.d_Arrow___init
 Ride___init:Dm K a.c_Ride "__init__" "Ride.__init__" xc ["self","start","goal","time"] a.f_Ride___init a.d_Ride___init
 Wait___init:Dm K a.c_Wait "__init__" "Wait.__init__" yk ["self","start","goal","time","behind"] a.f_Wait___init a.d_Wait___init
 Wait___init_d1:∃kP,True/\bZ [(V.int 0)] kP/\bA K a.d_Wait___init ["self","start","goal","time","behind"] kP
 Back___init:Dm K a.c_Back "__init__" "Back.__init__" ym ["self","start","goal","time","behind"] a.f_Back___init a.d_Back___init
 Back___init_d1:∃kP,True/\bZ [(V.int 1)] kP/\bA K a.d_Back___init ["self","start","goal","time","behind"] kP
 is_letter:hG K mg "is_letter" wa ["sign"] a.f_is_letter a.d_is_letter
 is_figure:hG K mg "is_figure" wb ["sign"] a.f_is_figure a.d_is_figure
 is_name:hG K mg "is_name" vp ["word"] a.f_is_name a.d_is_name
 are_names:hG K mg "are_names" wc ["names"] a.f_are_names a.d_are_names
 lies_within:hG K mg "lies_within" xf ["number","least","most"] a.f_lies_within a.d_lies_within
 is_right:hG K mg "is_right" ww ["arrow","many"] a.f_is_right a.d_is_right
 placed_goings:hG K mg "placed_goings" yp ["many","arrows"] a.f_placed_goings a.d_placed_goings
 ring_back_from:hG K mg "ring_back_from" ya ["arrows","chosen","going"] a.f_ring_back_from a.d_ring_back_from
 Net___init:Dm K a.c_Net "__init__" "Net.__init__" xn ["self","names","arrows"] a.f_Net___init a.d_Net___init
 Net_most_behind:Dm K a.c_Net "most_behind" "Net.most_behind" zx ["self"] a.f_Net_most_behind a.d_Net_most_behind
 Net_into:Dm K a.c_Net "into" "Net.into" wx ["self","going"] a.f_Net_into a.d_Net_into
 Net_order:Dm K a.c_Net "order" "Net.order" we ["self"] a.f_Net_order a.d_Net_order
 leads_to:hG K mg "leads_to" wy ["net","going"] a.f_leads_to a.d_leads_to
 common_divisor:hG K mg "common_divisor" yb ["one","other"] a.f_common_divisor a.d_common_divisor
 ratio:hG K mg "ratio" jw ["top","bottom"] a.f_ratio a.d_ratio
 scaled:hG K mg "scaled" uf ["one","whole"] a.f_scaled a.d_scaled
 plus:hG K mg "plus" Cq ["one","other"] a.f_plus a.d_plus
 minus:hG K mg "minus" jx ["one","other"] a.f_minus a.d_minus
 under:hG K mg "under" jy ["one","other"] a.f_under a.d_under
 later:hG K mg "later" jz ["when","more"] a.f_later a.d_later
 latest:hG K mg "latest" ug ["one","other"] a.f_latest a.d_latest
 mean:hG K mg "mean" Cr ["net","ring"] a.f_mean a.d_mean
 push_once:hG K mg "push_once" wf ["net","pace","numbers","times","chosen"] a.f_push_once a.d_push_once
 times_or_ring_along:hG K mg "times_or_ring_along" zl ["net","pace","numbers"] a.f_times_or_ring_along a.d_times_or_ring_along
 ring_above:hG K mg "ring_above" xo ["net","pace","numbers"] a.f_ring_above a.d_ring_above
 midway:hG K mg "midway" uh ["one","other"] a.f_midway a.d_midway
 least_gap:hG K mg "least_gap" wg ["net"] a.f_least_gap a.d_least_gap
 greatest_ring:hG K mg "greatest_ring" yq ["net","numbers"] a.f_greatest_ring a.d_greatest_ring
 paper_along:hG K mg "paper_along" xg ["net","numbers"] a.f_paper_along a.d_paper_along
 rate:hG K mg "rate" Cm ["net","going"] a.f_rate a.d_rate
 greatest_told:hG K mg "greatest_told" yr ["told"] a.f_greatest_told a.d_greatest_told
 rows_ahead:hG K mg "rows_ahead" xp ["net","was"] a.f_rows_ahead a.d_rows_ahead
 time_in_last_row:hG K mg "time_in_last_row" zw ["net","rows","numbers","floor"] a.f_time_in_last_row a.d_time_in_last_row
 rows_with_past:hG K mg "rows_with_past" yc ["net","rounds","was","floors"] a.f_rows_with_past a.d_rows_with_past
 run:hG K mg "run" yW ["net","rounds","was","floors"] a.f_run a.d_run
 run_d1:∃kP,True/\bZ [V.non] kP/\bA K a.d_run ["net","rounds","was","floors"] kP
 run_d2:∃kP,True/\bZ [V.non,V.non] kP/\bA K a.d_run ["net","rounds","was","floors"] kP
 growth:hG K mg "growth" ui ["rows","first","count"] a.f_growth a.d_growth
 grows_so:hG K mg "grows_so" wz ["rows","first","last","count","lengths"] a.f_grows_so a.d_grows_so
 never_outgrown:hG K mg "never_outgrown" ye ["net","lengths"] a.f_never_outgrown a.d_never_outgrown
 is_carried:hG K mg "is_carried" xq ["rows","carriers","going","number"] a.f_is_carried a.d_is_carried
 all_carried:hG K mg "all_carried" xh ["net","rows","first","last","lengths"] a.f_all_carried a.d_all_carried
 goes_on:hG K mg "goes_on" vq ["net","rows","paper"] a.f_goes_on a.d_goes_on
 refuse_loose:hG K mg "refuse_loose" yu ["net"] a.f_refuse_loose a.d_refuse_loose
 earliest_round:hG K mg "earliest_round" yf ["rows","known","count","lengths"] a.f_earliest_round a.d_earliest_round
 comes_again:hG K mg "comes_again" yn ["net","most","was"] a.f_comes_again a.d_comes_again
 comes_again_d1:∃kP,True/\bZ [V.non] kP/\bA K a.d_comes_again ["net","most","was"] kP
 law_cell_at:hG K mg "_law_cell_at" xi ["_law_script","_law_k"] a.f_law_cell_at a.d_law_cell_at
 law_is_row:hG K mg "_law_is_row" xr ["_law_cell"] a.f_law_is_row a.d_law_is_row
 law_mixed:hG K mg "_law_mixed" wj ["_law_cell","_law_k"] a.f_law_mixed a.d_law_mixed
 law_rank:hG K mg "_law_rank" w6 ["_law_turn","_law_many","_law_going"] a.f_law_rank a.d_law_rank
 law_arrow:hG K mg "_law_arrow" wk ["_law_cell","_law_many","_law_turn","_law_k"] a.f_law_arrow a.d_law_arrow
 law_made:hG K mg "_law_made" w8 ["_law_arrow_here","_law_kind"] a.f_law_made a.d_law_made
 law_was:hG K mg "_law_was" vt ["_law_script","_law_many","_law_back"] a.f_law_was a.d_law_was
 law:hG K mg "law" BO ["_law_script"] a.f_law a.d_law
 q_Arrow:Dq K a.c_Arrow "__init__" a.f_Arrow___init
 fld_arrows:∀c∈([4]:List Nat),lf K (a.ct c)/\fZ K (a.ct c) "arrows"
 fld_behind:∀c∈([0,1,2,3]:List Nat),lf K (a.ct c)/\fZ K (a.ct c) "behind"
 fld_goal:∀c∈([0,1,2,3]:List Nat),lf K (a.ct c)/\fZ K (a.ct c) "goal"
 fld_names:∀c∈([4]:List Nat),lf K (a.ct c)/\fZ K (a.ct c) "names"
 fld_start:∀c∈([0,1,2,3]:List Nat),lf K (a.ct c)/\fZ K (a.ct c) "start"
 fld_time:∀c∈([0,1,2,3]:List Nat),lf K (a.ct c)/\fZ K (a.ct c) "time"
 isi_Back:∀c∈([0,1,2,3,4]:List Nat),Ic K (a.ct c)/\bV K (.ref (a.ct c)) (.ref a.c_Back)=some (xU [3] c)
 isi_Ride:∀c∈([0,1,2,3,4]:List Nat),Ic K (a.ct c)/\bV K (.ref (a.ct c)) (.ref a.c_Ride)=some (xU [1] c)
 b_abs:mg "abs"=none
 b_all:mg "all"=none
 b_bool:mg "bool"=none
 b_enumerate:mg "enumerate"=none
 b_int:mg "int"=none
 b_isinstance:mg "isinstance"=none
 b_len:mg "len"=none
 b_list:mg "list"=none
 b_max:mg "max"=none
 b_range:mg "range"=none
 b_reversed:mg "reversed"=none
 b_sorted:mg "sorted"=none
 b_str:mg "str"=none
 b_sum:mg "sum"=none
 b_zip:mg "zip"=none
 g_MOST_ARROWS:∃t,mg "MOST_ARROWS"=some (.int 120 t)
 g_MOST_BEHIND:∃t,mg "MOST_BEHIND"=some (.int 4 t)
 g_MOST_NAMES:∃t,mg "MOST_NAMES"=some (.int 40 t)
 g_MOST_SIGNS:∃t,mg "MOST_SIGNS"=some (.int 8 t)
 g_MOST_TIME:∃t,mg "MOST_TIME"=some (.int 1000000000 t)
section
variable {P:bz}{w:ce}{K:ae}{mg:aU->Option af}{base:aZ}{a:CN}{ct:Nat->ah}
def jo:Nat->List D->Option D:=Bj ["self","start","goal","time","behind"]
  (sSeq (kS [0,1,2,3] "start" (eV 1))
  (sSeq (kS [0,1,2,3] "goal" (eV 2))
  (sSeq (kS [0,1,2,3] "time" (eV 3))
  (kS [0,1,2,3] "behind" (eV 4)))))
theorem qh (T:Txt K mg a):cB P w K mg base eF 1 a.f_Arrow___init a.d_Arrow___init ["self","start","goal","time","behind"] (tP K a.ct [0,1,2,3] [0,0,0,0] jo):=by
 refine IK (ms:=[.ow 0,.ow 0,.ow 0,.ow 0]) (rk:=0) T.Arrow___init.fn zep rfl rfl (by decide) (qk (by decide)) λx0 iD A outer s H E hr=>?_
 exact(zf (CH T.fld_start (za 1 0))
  (zf (CH T.fld_goal (za 2 0))
  (zf (CH T.fld_time (za 3 0))
  (zh (CH T.fld_behind (za 4 0))))))
def Oa:Nat->List D->Option D:=Bj ["self","start","goal","time"]
  (oR [0,1,2,3] (aCons (eV 1) (aCons (eV 2) (aCons (eV 3) (aCons (eC (.int 0)) aNil)))) jo)
theorem ze5 (T:Txt K mg a):cB P w K mg base eF 2 a.f_Ride___init a.d_Ride___init ["self","start","goal","time"] (tP K a.ct [1] [0,0,0] Oa):=by
 have e9:=qh (P:=P) (w:=w) (base:=base) T
 refine IK (ms:=[.ow 0,.ow 0,.ow 0]) (rk:=0) T.Ride___init.fn ze0 rfl rfl (by decide) (qk (by decide)) λx0 iD A outer s H E hr=>?_
 exact(zh (O8 (ns:=[0,0,0,0]) e9 (hr.mono (by decide)) T.Arrow.mgx T.q_Arrow.sp T.q_Arrow.rd T.q_Arrow.fc T.Arrow___init.fn.kp T.Arrow___init.bd (by decide) (ze (za 1 0) (ze (za 2 0) (ze (za 3 0) (ze cM zj))))))
def Ob:Nat->List D->Option D:=Bj ["self","start","goal","time","behind"]
  (oR [0,1,2,3] (aCons (eV 1) (aCons (eV 2) (aCons (eV 3) (aCons (eV 4) aNil)))) jo)
theorem ze6 (T:Txt K mg a):cB P w K mg base eF 2 a.f_Wait___init a.d_Wait___init ["self","start","goal","time","behind"] (tP K a.ct [2] [0,0,0,0] Ob):=by
 have e9:=qh (P:=P) (w:=w) (base:=base) T
 refine IK (ms:=[.ow 0,.ow 0,.ow 0,.ow 0]) (rk:=0) T.Wait___init.fn ze1 rfl rfl (by decide) (qk (by decide)) λx0 iD A outer s H E hr=>?_
 exact(zh (O8 (ns:=[0,0,0,0]) e9 (hr.mono (by decide)) T.Arrow.mgx T.q_Arrow.sp T.q_Arrow.rd T.q_Arrow.fc T.Arrow___init.fn.kp T.Arrow___init.bd (by decide) (ze (za 1 0) (ze (za 2 0) (ze (za 3 0) (ze (za 4 0) zj))))))
def Oc:Nat->List D->Option D:=Bj ["self","start","goal","time","behind"]
  (oR [0,1,2,3] (aCons (eV 1) (aCons (eV 2) (aCons (eV 3) (aCons (eV 4) aNil)))) jo)
theorem ze7 (T:Txt K mg a):cB P w K mg base eF 2 a.f_Back___init a.d_Back___init ["self","start","goal","time","behind"] (tP K a.ct [3] [0,0,0,0] Oc):=by
 have e9:=qh (P:=P) (w:=w) (base:=base) T
 refine IK (ms:=[.ow 0,.ow 0,.ow 0,.ow 0]) (rk:=0) T.Back___init.fn ze2 rfl rfl (by decide) (qk (by decide)) λx0 iD A outer s H E hr=>?_
 exact(zh (O8 (ns:=[0,0,0,0]) e9 (hr.mono (by decide)) T.Arrow.mgx T.q_Arrow.sp T.q_Arrow.rd T.q_Arrow.fc T.Arrow___init.fn.kp T.Arrow___init.bd (by decide) (ze (za 1 0) (ze (za 2 0) (ze (za 3 0) (ze (za 4 0) zj))))))
def Of:List D->Option D:=mOf ["sign"]
  (sRet (eB (bAnd (tb (e2 wV (eC (.str "a")) (eV 0))) (tb (e2 wV (eV 0) (eC (.str "z")))))))
theorem zh9 (T:Txt K mg a):cB P w K mg base eF 1 a.f_is_letter a.d_is_letter ["sign"] (fU K a.ct [0] 0 Of):=by
 refine gY (ms:=[.ow 0]) T.is_letter.fn zh5 λ_ _ _ _ _ _ hr=>?_
 exact(zh (zt (XE.ow (CG (tF (k:=0) BR BN (yY (n:=0)) (za 0 0) (bB _)) (BP (k:=0) (tF (k:=0) BR BN (za 0 0) (yY (n:=0)) (bB _)))))))
def SI:List D->Option D:=mOf ["sign"]
  (sRet (eB (bAnd (tb (e2 wV (eC (.str "0")) (eV 0))) (tb (e2 wV (eV 0) (eC (.str "9")))))))
theorem zia (T:Txt K mg a):cB P w K mg base eF 1 a.f_is_figure a.d_is_figure ["sign"] (fU K a.ct [0] 0 SI):=by
 refine gY (ms:=[.ow 0]) T.is_figure.fn zh6 λ_ _ _ _ _ _ hr=>?_
 exact(zh (zt (XE.ow (CG (tF (k:=0) BR BN (yY (n:=0)) (za 0 0) (bB _)) (BP (k:=0) (tF (k:=0) BR BN (za 0 0) (yY (n:=0)) (bB _)))))))
def zjg:EF:=(dI (λρ=>((eV 0) ρ).bind Qi) 1 [] (gV 0) eU (eB (bOr (tb (λρ=>((aCons (eV 0) aNil) ρ).bind λds=>Of (ds++[]))) (tb (λρ=>((aCons (eV 0) aNil) ρ).bind λds=>SI (ds++[]))))))
def Ts:List D->Option D:=mOf ["word"]
  (sSeq (sIf (bOr (bNot (tb (e1 (qV "str") (eV 0)))) (bOr (tb (e2 pK (eN dL (aCons (eV 0) aNil)) (eC (.int 1)))) (tb (e2 rJ (eN dL (aCons (eV 0) aNil)) (eC (.int 8)))))) (sRet (eC (.bl false))) sSkip)
  (sRet (eB (bAnd (tb (λρ=>((aCons (e2 dz (eV 0) (eC (.int 0))) aNil) ρ).bind λds=>Of (ds++[]))) (tb (eN tS (aCons zjg aNil)))))))
theorem zli (T:Txt K mg a):cB P w K mg base eF 2 a.f_is_name a.d_is_name ["word"] (fU K a.ct [0] 0 Ts):=by
 have lZ:=zh9 (P:=P) (w:=w) (base:=base) T
 have pB:=zia (P:=P) (w:=w) (base:=base) T
 refine gY (ms:=[.ow 0]) T.is_name.fn zlh λ_ _ _ _ _ _ hr=>?_
 exact(zf (vm (XW.t (sJ (qw (u0 (KZ (k:=0) (by decide) T.b_isinstance T.b_str U6 (za 0 0)))) (sJ (yh (k:=0) uU uS (lQ T.b_len (ze (za 0 0) zj)) cM (bB _)) (xO (yh (k:=0) BW BQ (lQ T.b_len (ze (za 0 0) zj)) (IT (n:=0) (d:=(.int 8)) rfl T.g_MOST_SIGNS.choose_spec rfl ⟨_,rfl⟩) (bB _)))))) (zh (zt (XE.ow (rn (n:=0))))) yj)
  (zh (zt (XE.ow (CG (XO.sh (n:=0) (cK T.is_letter lZ hr (ze (gG (za 0 0) cM) zj))) (BP (k:=0) (u1 (k:=0) (Oz rfl) O7 rfl T.b_all PJ (ze (XO.sh (n:=0) (pd (N:=["sign"]) (om:=[.ow 0]) (cap:=[]) (own:=1) (XI.cc (zvr (n:=0) (za 0 0))) (λ_ _ _ _ _=>(kW (show bM (["sign"]:List aU)from by decide +kernel))) (λ_ _ _ _ _=>vd) (λ_ _ _ _ _=>(XE.ow (zxd (XO.sh (n:=0) (cK T.is_letter lZ hr (ze (za 0 0) zj))) (BP (k:=0) (XO.sh (n:=0) (cK T.is_figure pB hr (ze (za 0 0) zj))))))))) zj))))))))
def zgq:SF:=(sSeq (sIf (bOr (bNot (tb (λρ=>((aCons (eV 2) aNil) ρ).bind λds=>Ts (ds++[])))) (tb (λρ=>((eV 2) ρ).bind λx=>((eV 1) ρ).bind λy=>(gM y x).bind λr=>some (.bl r.isSome)))) (sRet (eC (.bl false))) sSkip)
  (jS 1 (eV 2) (eC (.bl true))))
def J3:List D->Option D:=mOf ["names","seen","name"]
  (sSeq (sIf (bOr (bNot (tb (e1 (qV "list") (eV 0)))) (bOr (tb (e2 pK (eN dL (aCons (eV 0) aNil)) (eC (.int 1)))) (tb (e2 rJ (eN dL (aCons (eV 0) aNil)) (eC (.int 40)))))) (sRet (eC (.bl false))) sSkip)
  (sSeq (sSet 1 (eC (.dK [] [])))
  (sSeq (sFor (lsD (eV 0)) (gV 2) zgq)
  (sRet (eC (.bl true))))))
theorem zic (T:Txt K mg a):cB P w K mg base eF 3 a.f_are_names a.d_are_names ["names"] (fU K a.ct [0] 0 J3):=by
 have sf:=zli (P:=P) (w:=w) (base:=base) T
 refine gY (ms:=[.ow 0,.ow 1,.ow 0]) T.are_names.fn Og λ_ _ _ _ _ _ hr=>?_
 exact(zf (vm (XW.t (sJ (qw (u0 (KZ (k:=0) (by decide) T.b_isinstance T.b_list CB (za 0 0)))) (sJ (yh (k:=0) uU uS (lQ T.b_len (ze (za 0 0) zj)) cM (bB _)) (xO (yh (k:=0) BW BQ (lQ T.b_len (ze (za 0 0) zj)) (IT (n:=0) (d:=(.int 40)) rfl T.g_MOST_NAMES.choose_spec rfl ⟨_,rfl⟩) (bB _)))))) (zh (zt (XE.ow (rn (n:=0))))) yj)
  (zf (eI Og.nd OH)
  (zf (jd (xK (za 0 0)) (lh Og.nd) (zf (vm (XW.t (sJ (qw (u0 (XO.sh (n:=0) (cK T.is_name sf hr (ze (za 2 0) zj))))) (xO (zvs (uT hr) (za 2 0) (za 1 1) (by with_unfolding_all rfl))))) (zh (zt (XE.ow (rn (n:=0))))) yj)
  (zh (O9 1 rfl (uT hr) (za 2 0) (rn (n:=0))))) cn.never rfl)
  (zh (zt (XE.ow (rn (n:=0))))))))
def yy:List D->Option D:=mOf ["number","least","most"]
  (sSeq (sIf (bOr (bNot (tb (e1 (qV "int") (eV 0)))) (tb (e1 (qV "bool") (eV 0)))) (sRet (eC (.bl false))) sSkip)
  (sRet (eB (bAnd (tb (e2 wV (eV 1) (eV 0))) (tb (e2 wV (eV 0) (eV 2)))))))
theorem ze8 (T:Txt K mg a):cB P w K mg base eF 1 a.f_lies_within a.d_lies_within ["number","least","most"] (fU K a.ct [0,0,0] 0 yy):=by
 refine gY (ms:=[.ow 0,.ow 0,.ow 0]) T.lies_within.fn ze3 λ_ _ _ _ _ _ hr=>?_
 exact(zf (vm (XW.t (sJ (qw (u0 (KZ (k:=0) (by decide) T.b_isinstance T.b_int zvd (za 0 0)))) (xO (u0 (KZ (k:=0) (by decide) T.b_isinstance T.b_bool zsc (za 0 0)))))) (zh (zt (XE.ow (rn (n:=0))))) yj)
  (zh (zt (XE.ow (CG (tF (k:=0) BR BN (za 1 0) (za 0 0) (bB _)) (BP (k:=0) (tF (k:=0) BR BN (za 0 0) (za 2 0) (bB _))))))))
def Kb:List D->Option D:=mOf ["arrow","many","least","most"]
  (sSeq (sSet 2 (eIf (tb (e1 (uB [0,1,2,3,4] [3]) (eV 0))) (eC (.int 1)) (eC (.int 0))))
  (sSeq (sSet 3 (eIf (tb (e1 (uB [0,1,2,3,4] [1]) (eV 0))) (eC (.int 0)) (eC (.int 4))))
  (sSeq (sIf (bOr (bNot (tb (λρ=>((aCons (e1 (cv [0,1,2,3] "start") (eV 0)) (aCons (eC (.int 0)) (aCons (e2 kd (eV 1) (eC (.int 1))) aNil))) ρ).bind λds=>yy (ds++[])))) (bNot (tb (λρ=>((aCons (e1 (cv [0,1,2,3] "goal") (eV 0)) (aCons (eC (.int 0)) (aCons (e2 kd (eV 1) (eC (.int 1))) aNil))) ρ).bind λds=>yy (ds++[]))))) (sRet (eC (.bl false))) sSkip)
  (sRet (eB (bAnd (tb (λρ=>((aCons (e1 (cv [0,1,2,3] "time") (eV 0)) (aCons (eC (.int 0)) (aCons (eC (.int 1000000000)) aNil))) ρ).bind λds=>yy (ds++[]))) (tb (λρ=>((aCons (e1 (cv [0,1,2,3] "behind") (eV 0)) (aCons (eV 2) (aCons (eV 3) aNil))) ρ).bind λds=>yy (ds++[])))))))))
theorem zjh (T:Txt K mg a):cB P w K mg base eF 2 a.f_is_right a.d_is_right ["arrow","many"] (fU K a.ct [0,0] 0 Kb):=by
 have gH:=ze8 (P:=P) (w:=w) (base:=base) T
 refine gY (ms:=[.ow 0,.ow 0,.ow 0,.ow 0]) T.is_right.fn Oe λ_ _ _ _ _ _ hr=>?_
 exact(zf (eI Oe.nd (XE.ow (Ja (u0 (UG (k:=0) T.isi_Back T.b_isinstance T.Back.mgx (za 0 0))) cM cM)))
  (zf (eI Oe.nd (XE.ow (Ja (u0 (UG (k:=0) T.isi_Ride T.b_isinstance T.Ride.mgx (za 0 0))) cM (IT (n:=0) (d:=(.int 4)) rfl T.g_MOST_BEHIND.choose_spec rfl ⟨_,rfl⟩))))
  (zf (vm (XW.t (sJ (qw (u0 (XO.sh (n:=0) (cK T.lies_within gH hr (ze (zy (n:=0) (za 0 0) T.fld_start rfl) (ze cM (ze (yw (k:=0) uP qc (za 1 0) cM) zj))))))) (xO (qw (u0 (XO.sh (n:=0) (cK T.lies_within gH hr (ze (zy (n:=0) (za 0 0) T.fld_goal rfl) (ze cM (ze (yw (k:=0) uP qc (za 1 0) cM) zj)))))))))) (zh (zt (XE.ow (rn (n:=0))))) yj)
  (zh (zt (XE.ow (CG (XO.sh (n:=0) (cK T.lies_within gH hr (ze (zy (n:=0) (za 0 0) T.fld_time rfl) (ze cM (ze (IT (n:=0) (d:=(.int 1000000000)) rfl T.g_MOST_TIME.choose_spec rfl ⟨_,rfl⟩) zj))))) (BP (k:=0) (XO.sh (n:=0) (cK T.lies_within gH hr (ze (zy (n:=0) (za 0 0) T.fld_behind rfl) (ze (za 2 0) (ze (za 3 0) zj)))))))))))))
def vg:SF:=(sIf (tb (e2 (i6 false) (e1 (cv [0,1,2,3] "start") (eV 4)) (eV 7))) (sSeq (pM 3 (e1 (cv [0,1,2,3] "goal") (eV 4)) (λi j=>i-j) (eC (.int 1)))
  (sIf (tb (e2 (i6 false) (e2 dz (eV 3) (e1 (cv [0,1,2,3] "goal") (eV 4))) (eC (.int 0)))) (sApp 5 (e1 (cv [0,1,2,3] "goal") (eV 4))) sSkip)) sSkip)
def ji:SF:=(sSeq (sSet 7 (e2 dz (eV 5) (eV 6)))
  (sSeq (sFor (lsD (eV 2)) (gV 4) vg)
  (rf 6 (i2 λi j=>.int (i+j)) (eC (.int 1)))))
def Sb:EF:=(dI (λρ=>((aCons (eV 0) aNil) ρ).bind hV) 1 [3] (gV 0) (tb (e2 (i6 false) (e2 dz (eV 1) (eV 0)) (eC (.int 0)))) (eV 0))
def jj:SF:=(pM 3 (e1 (cv [0,1,2,3] "goal") (eV 4)) (λi j=>i+j) (eC (.int 1)))
def Sd:EF:=(dI (lsD (eV 1)) 1 [] (gV 0) (tb (e2 (i6 false) (e1 (cv [0,1,2,3] "behind") (eV 0)) (eC (.int 0)))) (eV 0))
def vh:List D->Option D:=mOf ["many","arrows","within","waited","arrow","placed","done","here"]
  (sSeq (sSet 2 Sd)
  (sSeq (sSet 3 (e2 lO (λρ=>((aCons (eC (.int 0)) aNil) ρ).bind λds=>some (.lst ds)) (eV 0)))
  (sSeq (sFor (lsD (eV 2)) (gV 4) jj)
  (sSeq (sSet 5 Sb)
  (sSeq (sSet 6 (eC (.int 0)))
  (sSeq (gD (tb (e2 pK (eV 6) (eN dL (aCons (eV 5) aNil)))) ji)
  (sRet (eV 5))))))))
theorem Sa (T:Txt K mg a):cB P w K mg base eF 1 a.f_placed_goings a.d_placed_goings ["many","arrows"] (fU K a.ct [0,0] 0 vh):=by
 refine gY (ms:=[.ow 0,.ow 0,.ow 0,.ow 1,.ow 0,.ow 1,.ow 0,.ow 0]) T.placed_goings.fn xj λ_ _ _ _ _ _ hr=>?_
 exact(zf (jf (k:=0) (N:=["arrow"]) (om:=[.ow 0]) (cap:=[]) (own:=1) rfl xj.nd rfl (Or.inl rfl) (yZ (by rfl)) rfl rfl (by decide) (u3 (n:=0) (za 1 0)) (λ_ _ _ _ _=>(kW (show bM (["arrow"]:List aU)from by decide +kernel))) (λ_ _ _ _ _=>(IR (yh (k:=0) (uz hr.u64) ua (zy (n:=0) (za 0 0) T.fld_behind rfl) cM (bB _)))) (λ_ _ _ _ _=>(XE.ow (za 0 0))))
  (zf (eI xj.nd (KY (uR (k:=0) (zu (XE.ow cM) wm)) (za 0 0)))
  (zf (jd (xK (za 2 0)) (lh xj.nd) (zh (UF 3 Ps rfl (zy (n:=0) (za 4 0) T.fld_goal rfl) cM)) cn.never rfl)
  (zf (jf (k:=1) (N:=["going","waited"]) (om:=[.ow 0]) (cap:=[3]) (own:=1) rfl xj.nd rfl (Or.inl rfl) (yZ (by rfl)) rfl rfl (by decide) (XI.cc (ve (n:=0) T.b_range (ze (za 0 0) zj))) (λ_ _ _ _ _=>(kW (show bM (["going","waited"]:List aU)from by decide +kernel))) (λ_ _ _ _ _=>(IR (yh (k:=0) (uz hr.u64) ua (xR (n:=1) xN xP (za 1 1) (za 0 0) (λ_ _=>rfl)) cM (bB _)))) (λ_ _ _ _ _=>(XE.ow (za 0 0))))
  (zf (eI xj.nd (XE.ow cM))
  (zf (Cu (yh (k:=0) uU uS (za 6 0) (lQ T.b_len (ze (za 5 1) zj)) (bB _)) (zf (eI xj.nd (XE.ow (xR (n:=1) xN xP (za 5 1) (za 6 0) (λ_ _=>rfl))))
  (zf (jd (xK (za 2 0)) (lh xj.nd) (zh (vm (yh (k:=0) (uz hr.u64) ua (zy (n:=0) (za 4 0) T.fld_start rfl) (za 7 0) (bB _)) (zf (UF 3 U2 rfl (zy (n:=0) (za 4 0) T.fld_goal rfl) cM)
  (zh (vm (yh (k:=0) (uz hr.u64) ua (xR (n:=1) xN xP (za 3 1) (zy (n:=0) (za 4 0) T.fld_goal rfl) (λ_ _=>rfl)) cM (bB _)) (zh (Kg 5 rfl (XE.ow (zy (n:=0) (za 4 0) T.fld_goal rfl)))) yj))) yj)) cn.never rfl)
  (zh (Px Ps rfl xj.nd rfl (Or.inl rfl) cM)))) cn.never)
  (zh (Pc (i:=5) rfl))))))))
def u4:SF:=(sSeq (jS 4 (eV 3) (eN dL (aCons (eV 5) aNil)))
  (sSeq (sApp 5 (λρ=>((eV 1) ρ).bind λx=>((eV 3) ρ).bind λy=>(gM x y).join))
  (sSet 3 (e1 (cv [0,1,2,3] "start") (e2 dz (eV 0) (λρ=>((eV 1) ρ).bind λx=>((eV 3) ρ).bind λy=>(gM x y).join))))))
def uj:List D->Option D:=mOf ["arrows","chosen","going","here","seen","way"]
  (sSeq (sSet 3 (eV 2))
  (sSeq (sSet 4 (eC (.dK [] [])))
  (sSeq (sSet 5 (λρ=>(aNil ρ).bind λds=>some (.lst ds)))
  (sSeq (gD (tb (λρ=>((eV 3) ρ).bind λx=>((eV 4) ρ).bind λy=>(gM y x).bind λr=>some (.bl (!r.isSome)))) u4)
  (sRet (e1 uD (λρ=>((eV 5) ρ).bind λd=>((pInt (λρ=>((eV 4) ρ).bind λx=>((eV 3) ρ).bind λy=>(gM x y).join)) ρ).bind λl=>(pNo ρ).bind λh=>jT d l h)))))))
theorem zcx (T:Txt K mg a):cB P w K mg base eF 1 a.f_ring_back_from a.d_ring_back_from ["arrows","chosen","going"] (fU K a.ct [0,0,0] 1 uj):=by
 refine gY (ms:=[.ow 0,.ow 0,.ow 0,.ow 0,.ow 1,.ow 1]) T.ring_back_from.fn vf λ_ _ _ _ _ _ hr=>?_
 exact(zf (eI vf.nd (XE.ow (za 2 0)))
  (zf (eI vf.nd OH)
  (zf (eI vf.nd (uR (k:=0) wm))
  (zf (Cu (znj (uT hr) (za 3 0) (za 4 1) (by with_unfolding_all rfl)) (zf (O9 4 rfl (uT hr) (za 3 0) (lQ T.b_len (ze (za 5 1) zj)))
  (zf (Kg 5 rfl (XE.ow (Pv (uT hr) (za 1 0) (za 3 0) (λ_ _=>rfl))))
  (zh (eI vf.nd (XE.ow (zy (n:=0) (gG (za 0 0) (Pv (uT hr) (za 1 0) (za 3 0) (λ_ _=>rfl))) T.fld_start rfl)))))) cn.never)
  (zh (zt (ztf (n:=0) (by decide) rfl rfl T.b_list rfl T.b_reversed (XO.sh (n:=0) (OT (n:=1) (by decide) (za 5 1) (O5 (Pv (uT hr) (za 4 1) (za 3 0) (λ_ _=>rfl))) P2)))))))))
def qv:SF:=(sIf (bNot (tb (λρ=>((aCons (eV 4) (aCons (eN dL (aCons (eV 1) aNil)) aNil)) ρ).bind λds=>Kb (ds++[])))) ng sSkip)
def ql:Nat->List D->Option D:=Bj ["self","names","arrows","number","arrow","placed"]
  (sSeq (sIf (bOr (bNot (tb (λρ=>((aCons (eV 1) aNil) ρ).bind λds=>J3 (ds++[])))) (tb (e2 rJ (eN dL (aCons (eV 2) aNil)) (eC (.int 120))))) ng sSkip)
  (sSeq (sFor (λρ=>((aCons (eV 2) aNil) ρ).bind λds=>match ds with|[.lst xs]=>some (eK 0 xs)|_=>none) (gT (gsCons (gV 3) (gsCons (gV 4) gsNil))) qv)
  (sSeq (sSet 5 (λρ=>((aCons (eN dL (aCons (eV 1) aNil)) (aCons (eV 2) aNil)) ρ).bind λds=>vh (ds++[])))
  (sSeq (sIf (tb (e2 pK (eN dL (aCons (eV 5) aNil)) (eN dL (aCons (eV 1) aNil)))) ng sSkip)
  (sSeq (kS [4] "names" (eN nc (aCons (eV 1) aNil)))
  (kS [4] "arrows" (eN nc (aCons (eV 2) aNil))))))))
theorem zgr (T:Txt K mg a):cB P w K mg base eF 4 a.f_Net___init a.d_Net___init ["self","names","arrows"] (tP K a.ct [4] [0,0] ql):=by
 have pA:=zic (P:=P) (w:=w) (base:=base) T
 have qH:=zjh (P:=P) (w:=w) (base:=base) T
 have gW:=Sa (P:=P) (w:=w) (base:=base) T
 refine IK (ms:=[.ow 0,.ow 0,.ow 0,.ow 0,.ow 0]) (rk:=0) T.Net___init.fn j5 rfl rfl (by decide) (qk (by decide)) λx0 iD A outer s H E hr=>?_
 exact(zf (vm (XW.t (sJ (qw (u0 (XO.sh (n:=0) (cK T.are_names pA hr (ze (za 1 0) zj))))) (xO (yh (k:=0) BW BQ (lQ T.b_len (ze (za 2 0) zj)) (IT (n:=0) (d:=(.int 120)) rfl T.g_MOST_ARROWS.choose_spec rfl ⟨_,rfl⟩) (bB _))))) (zh Kl) yj)
  (zf (jd (zsn T.b_enumerate (ze (za 2 0) zj)) (KS (n:=1) rfl (ue (lh j5.nd) (ue (lh j5.nd) KJ))) (zh (vm (qw (u0 (XO.sh (n:=0) (cK T.is_right qH hr (ze (za 4 0) (ze (lQ T.b_len (ze (za 1 0) zj)) zj)))))) (zh Kl) yj)) cn.never rfl)
  (zf (eI j5.nd (cK T.placed_goings gW hr (ze (lQ T.b_len (ze (za 1 0) zj)) (ze (za 2 0) zj))))
  (zf (vm (yh (k:=0) uU uS (lQ T.b_len (ze (za 5 0) zj)) (lQ T.b_len (ze (za 1 0) zj)) (bB _)) (zh Kl) yj)
  (zf (CH T.fld_names (XO.sh (n:=0) (Oq N9 (OS (n:=0) (by decide)) rfl T.b_list CB (ze (za 1 0) zj))))
  (zh (CH T.fld_arrows (XO.sh (n:=0) (Oq N9 (OS (n:=0) (by decide)) rfl T.b_list CB (ze (za 2 0) zj))))))))))
def ut:EF:=(dI (lsD (e1 (cv [4] "arrows") (eV 0))) 1 [] (gV 0) eU (e1 (cv [0,1,2,3] "behind") (eV 0)))
def zk:List D->Option D:=mOf ["self"]
  (sRet (eN pL (aCons (e2 dS (λρ=>((aCons (eC (.int 1)) aNil) ρ).bind λds=>some (.lst ds)) ut) aNil)))
theorem w9 (T:Txt K mg a):cB P w K mg base eF 1 a.f_Net_most_behind a.d_Net_most_behind ["self"] (fU K a.ct [0] 0 zk):=by
 refine gY (ms:=[.ow 0]) T.Net_most_behind.fn zch λ_ _ _ _ _ _ hr=>?_
 exact(zh (zt (XE.ow (u1 (k:=0) (S6 rfl) UE rfl T.b_max PB (ze (XO.sh (n:=0) (kE (XO.sh (n:=0) (uR (k:=0) (zu (XE.ow cM) wm))) (XO.sh (n:=0) (pd (N:=["arrow"]) (om:=[.ow 0]) (cap:=[]) (own:=1) (u3 (n:=0) (zy (n:=0) (za 0 0) T.fld_arrows rfl)) (λ_ _ _ _ _=>(kW (show bM (["arrow"]:List aU)from by decide +kernel))) (λ_ _ _ _ _=>vd) (λ_ _ _ _ _=>(XE.ow (zy (n:=0) (za 0 0) T.fld_behind rfl))))))) zj)))))
def Oi:EF:=(dI (λρ=>((aCons (e1 (cv [4] "arrows") (eV 0)) aNil) ρ).bind λds=>match ds with|[.lst xs]=>some (eK 0 xs)|_=>none) 2 [1] (gT (gsCons (gV 0) (gsCons (gV 1) gsNil))) (tb (e2 (i6 false) (e1 (cv [0,1,2,3] "goal") (eV 1)) (eV 2))) (eV 0))
def vi:List D->Option D:=mOf ["self","going"]
  (sRet Oi)
theorem J4 (T:Txt K mg a):cB P w K mg base eF 1 a.f_Net_into a.d_Net_into ["self","going"] (fU K a.ct [0,0] 0 vi):=by
 refine gY (ms:=[.ow 0,.ow 0]) T.Net_into.fn zjd λ_ _ _ _ _ _ hr=>?_
 exact(zh (zt (mZ (pd (N:=["number","arrow","going"]) (om:=[.ow 0,.ow 0]) (cap:=[1]) (own:=2) (OR (n:=0) T.b_enumerate (ze (zy (n:=0) (za 0 0) T.fld_arrows rfl) zj)) (λ_ _ _ _ _=>(KM (n:=1) rfl (jr (kW (show bM (["number","arrow","going"]:List aU)from by decide +kernel)) (jr (kW (show bM (["number","arrow","going"]:List aU)from by decide +kernel)) Kn)))) (λ_ _ _ _ _=>(IR (yh (k:=0) (uz hr.u64) ua (zy (n:=0) (za 1 0) T.fld_goal rfl) (za 2 0) (bB _)))) (λ_ _ _ _ _=>(XE.ow (za 0 0)))))))
def J5:List D->Option D:=mOf ["self"]
  (sRet (λρ=>((aCons (eN dL (aCons (e1 (cv [4] "names") (eV 0)) aNil)) (aCons (e1 (cv [4] "arrows") (eV 0)) aNil)) ρ).bind λds=>vh (ds++[])))
theorem zid (T:Txt K mg a):cB P w K mg base eF 2 a.f_Net_order a.d_Net_order ["self"] (fU K a.ct [0] 0 J5):=by
 have gW:=Sa (P:=P) (w:=w) (base:=base) T
 refine gY (ms:=[.ow 0]) T.Net_order.fn zh7 λ_ _ _ _ _ _ hr=>?_
 exact(zh (zt (cK T.placed_goings gW hr (ze (lQ T.b_len (ze (zy (n:=0) (za 0 0) T.fld_names rfl) zj)) (ze (zy (n:=0) (za 0 0) T.fld_arrows rfl) zj)))))
def uv:SF:=(sIf (tb (e2 (inD true) (e1 (cv [0,1,2,3] "start") (e2 dz (e1 (cv [4] "arrows") (eV 0)) (eV 5))) (eV 2))) (sApp 2 (e1 (cv [0,1,2,3] "start") (e2 dz (e1 (cv [4] "arrows") (eV 0)) (eV 5)))) sSkip)
def Oj:SF:=(sSeq (sSet 4 (e2 dz (eV 2) (eV 3)))
  (sSeq (sFor (lsD (λρ=>((eV 0) ρ).bind λo=>((aCons (eV 4) aNil) ρ).bind λds=>gO 4 "into" vi o (ds++[]))) (gV 5) uv)
  (rf 3 (i2 λi j=>.int (i+j)) (eC (.int 1)))))
def j9:List D->Option D:=mOf ["net","going","found","done","here","number"]
  (sSeq (sSet 2 (λρ=>((aCons (eV 1) aNil) ρ).bind λds=>some (.lst ds)))
  (sSeq (sSet 3 (eC (.int 0)))
  (sSeq (gD (tb (e2 pK (eV 3) (eN dL (aCons (eV 2) aNil)))) Oj)
  (sRet (eN nh (aCons (eV 2) aNil))))))
theorem zji (T:Txt K mg a):cB P w K mg base eF 2 a.f_leads_to a.d_leads_to ["net","going"] (fU K a.ct [0,0] 1 j9):=by
 have fK:=J4 (P:=P) (w:=w) (base:=base) T
 refine gY (ms:=[.ow 0,.ow 0,.ow 1,.ow 0,.ow 0,.ow 0]) T.leads_to.fn jg λ_ _ _ _ _ _ hr=>?_
 exact(zf (eI jg.nd (uR (k:=0) (zu (XE.ow (za 1 0)) wm)))
  (zf (eI jg.nd (XE.ow cM))
  (zf (Cu (yh (k:=0) uU uS (za 3 0) (lQ T.b_len (ze (za 2 1) zj)) (bB _)) (zf (eI jg.nd (XE.ow (xR (n:=1) xN xP (za 2 1) (za 3 0) (λ_ _=>rfl))))
  (zf (jd (xK (XO.sh (n:=0) (KB (n:=0) (c0:=4) (ns:=[0]) (nd:=[]) (kO:=[]) (za 0 0) T.Net.cl T.Net_into.me fK (hr.mono (by decide)) T.Net_into.bd .nil (λ_ _=>.nil) (ze (za 4 0) zj)))) (lh jg.nd) (zh (vm (yh (k:=0) zhl Pw (zy (n:=0) (gG (zy (n:=0) (za 0 0) T.fld_arrows rfl) (za 5 0)) T.fld_start rfl) (za 2 1) (by with_unfolding_all rfl)) (zh (Kg 2 rfl (XE.ow (zy (n:=0) (gG (zy (n:=0) (za 0 0) T.fld_arrows rfl) (za 5 0)) T.fld_start rfl)))) yj)) cn.never rfl)
  (zh (Px Ps rfl jg.nd rfl (Or.inl rfl) cM)))) cn.never)
  (zh (zt (zpc zh3 zpp rfl T.b_sorted zmp (ze (za 2 1) zj)))))))
def u5:SF:=(sSeq (sSet 2 (e2 fm (eV 0) (eV 1)))
  (sSeq (sSet 0 (eV 1))
  (sSet 1 (eV 2))))
def uk:List D->Option D:=mOf ["one","other","rest"]
  (sSeq (gD (tb (e2 (i6 true) (eV 1) (eC (.int 0)))) u5)
  (sRet (eN zI (aCons (eV 0) aNil))))
theorem zcy (T:Txt K mg a):cB P w K mg base eF 1 a.f_common_divisor a.d_common_divisor ["one","other"] (fU K a.ct [0,0] 0 uk):=by
 refine gY (ms:=[.ow 0,.ow 0,.ow 0]) T.common_divisor.fn v7 λ_ _ _ _ _ _ hr=>?_
 exact(zf (Cu (yh (k:=0) (Pz hr.u64) ua (za 1 0) cM (bB _)) (zf (eI v7.nd (XE.ow (yw (k:=0) wp wq (za 0 0) (za 1 0))))
  (zf (eI v7.nd (XE.ow (za 1 0)))
  (zh (eI v7.nd (XE.ow (za 2 0)))))) cn.never)
  (zh (zt (XE.ow (u1 (k:=0) zow zsu rfl T.b_abs zvf (ze (za 0 0) zj))))))
def xM:List D->Option D:=mOf ["top","bottom","divisor"]
  (sSeq (sSet 2 (λρ=>((aCons (eV 0) (aCons (eV 1) aNil)) ρ).bind λds=>uk (ds++[])))
  (sSeq (sIf (tb (e2 pK (eV 1) (eC (.int 0)))) (sSet 2 (e1 qX (eV 2))) sSkip)
  (sRet (λρ=>((aCons (e2 ga (eV 0) (eV 2)) (aCons (e2 ga (eV 1) (eV 2)) aNil)) ρ).bind λds=>some (.tup ds)))))
theorem Cv (T:Txt K mg a):cB P w K mg base eF 2 a.f_ratio a.d_ratio ["top","bottom"] (fU K a.ct [0,0] 0 xM):=by
 have lE:=zcy (P:=P) (w:=w) (base:=base) T
 refine gY (ms:=[.ow 0,.ow 0,.ow 0]) T.ratio.fn OX λ_ _ _ _ _ _ hr=>?_
 exact(zf (eI OX.nd (cK T.common_divisor lE hr (ze (za 0 0) (ze (za 1 0) zj))))
  (zf (vm (yh (k:=0) uU uS (za 1 0) cM (bB _)) (zh (eI OX.nd (XE.ow (IX (k:=0) (za 2 0))))) yj)
  (zh (zt (mZ (qx (zu (XE.ow (yw (k:=0) ux u2 (za 0 0) (za 2 0))) (zu (XE.ow (yw (k:=0) ux u2 (za 1 0) (za 2 0))) wm))))))))
def Kt:List D->Option D:=mOf ["one","whole"]
  (sRet (λρ=>((aCons (e2 eA (e2 dz (eV 0) (eC (.int 0))) (eV 1)) (aCons (e2 dz (eV 0) (eC (.int 1))) aNil)) ρ).bind λds=>xM (ds++[])))
theorem znr (T:Txt K mg a):cB P w K mg base eF 3 a.f_scaled a.d_scaled ["one","whole"] (fU K a.ct [0,0] 0 Kt):=by
 have fY:=Cv (P:=P) (w:=w) (base:=base) T
 refine gY (ms:=[.ow 0,.ow 0]) T.scaled.fn zno λ_ _ _ _ _ _ hr=>?_
 exact(zh (zt (cK T.ratio fY hr (ze (yw (k:=0) vc xz (gG (za 0 0) cM) (za 1 0)) (ze (gG (za 0 0) cM) zj)))))
def IY:List D->Option D:=mOf ["one","other"]
  (sRet (λρ=>((aCons (e2 dS (e2 eA (e2 dz (eV 0) (eC (.int 0))) (e2 dz (eV 1) (eC (.int 1)))) (e2 eA (e2 dz (eV 1) (eC (.int 0))) (e2 dz (eV 0) (eC (.int 1))))) (aCons (e2 eA (e2 dz (eV 0) (eC (.int 1))) (e2 dz (eV 1) (eC (.int 1)))) aNil)) ρ).bind λds=>xM (ds++[])))
theorem UJ (T:Txt K mg a):cB P w K mg base eF 3 a.f_plus a.d_plus ["one","other"] (fU K a.ct [0,0] 0 IY):=by
 have fY:=Cv (P:=P) (w:=w) (base:=base) T
 refine gY (ms:=[.ow 0,.ow 0]) T.plus.fn ztk λ_ _ _ _ _ _ hr=>?_
 exact(zh (zt (cK T.ratio fY hr (ze (XO.sh (n:=0) (kE (yw (k:=0) vc xz (gG (za 0 0) cM) (gG (za 1 0) cM)) (yw (k:=0) vc xz (gG (za 1 0) cM) (gG (za 0 0) cM)))) (ze (yw (k:=0) vc xz (gG (za 0 0) cM) (gG (za 1 0) cM)) zj)))))
def CD:List D->Option D:=mOf ["one","other"]
  (sRet (λρ=>((aCons (eV 0) (aCons (λρ=>((aCons (eV 1) (aCons (e1 qX (eC (.int 1))) aNil)) ρ).bind λds=>Kt (ds++[])) aNil)) ρ).bind λds=>IY (ds++[])))
theorem zqd (T:Txt K mg a):cB P w K mg base eF 4 a.f_minus a.d_minus ["one","other"] (fU K a.ct [0,0] 0 CD):=by
 have qK:=UJ (P:=P) (w:=w) (base:=base) T
 have tO:=znr (P:=P) (w:=w) (base:=base) T
 refine gY (ms:=[.ow 0,.ow 0]) T.minus.fn zqa λ_ _ _ _ _ _ hr=>?_
 exact(zh (zt (cK T.plus qK hr (ze (za 0 0) (ze (XO.sh (n:=0) (cK T.scaled tO hr (ze (za 1 0) (ze (IX (k:=0) cM) zj)))) zj)))))
def Cy:List D->Option D:=mOf ["one","other"]
  (sRet (e2 pK (e2 eA (e2 dz (eV 0) (eC (.int 0))) (e2 dz (eV 1) (eC (.int 1)))) (e2 eA (e2 dz (eV 1) (eC (.int 0))) (e2 dz (eV 0) (eC (.int 1))))))
theorem zqe (T:Txt K mg a):cB P w K mg base eF 1 a.f_under a.d_under ["one","other"] (fU K a.ct [0,0] 0 Cy):=by
 refine gY (ms:=[.ow 0,.ow 0]) T.under.fn zqb λ_ _ _ _ _ _ hr=>?_
 exact(zh (zt (XE.ow (tF (k:=0) uU uS (yw (k:=0) vc xz (gG (za 0 0) cM) (gG (za 1 0) cM)) (yw (k:=0) vc xz (gG (za 1 0) cM) (gG (za 0 0) cM)) (bB _)))))
def KP:List D->Option D:=mOf ["when","more"]
  (sSeq (sIf (tb (e2 (o7 false) (eV 0) (eC .non))) (sRet (eC .non)) sSkip)
  (sRet (e2 dS (eV 0) (eV 1))))
theorem zqf (T:Txt K mg a):cB P w K mg base eF 1 a.f_later a.d_later ["when","more"] (fU K a.ct [0,0] 0 KP):=by
 refine gY (ms:=[.ow 0,.ow 0]) T.later.fn zqc λ_ _ _ _ _ _ hr=>?_
 exact(zf (vm (yh (k:=0) tH tG (za 0 0) nk (bB _)) (zh (zt (XE.ow nk))) yj)
  (zh (zt (mZ (kE (za 0 0) (za 1 0))))))
def IN:List D->Option D:=mOf ["one","other"]
  (sSeq (sIf (tb (e2 (o7 false) (eV 0) (eC .non))) (sRet (eV 1)) sSkip)
  (sSeq (sIf (tb (e2 (o7 false) (eV 1) (eC .non))) (sRet (eV 0)) sSkip)
  (sRet (eN uE (aCons (eV 0) (aCons (eV 1) aNil))))))
theorem Tt (T:Txt K mg a):cB P w K mg base eF 1 a.f_latest a.d_latest ["one","other"] (fU K a.ct [0,0] 0 IN):=by
 refine gY (ms:=[.ow 0,.ow 0]) T.latest.fn znp λ_ _ _ _ _ _ hr=>?_
 exact(zf (vm (yh (k:=0) tH tG (za 0 0) nk (bB _)) (zh (zt (XE.ow (za 1 0)))) yj)
  (zf (vm (yh (k:=0) tH tG (za 1 0) nk (bB _)) (zh (zt (XE.ow (za 0 0)))) yj)
  (zh (zt (XE.ow (u1 (k:=0) (zl5 rfl) zpf rfl T.b_max PB (ze (za 0 0) (ze (za 1 0) zj))))))))
def OY:EF:=(dI (lsD (eV 1)) 1 [0] (gV 0) eU (e1 (cv [0,1,2,3] "behind") (e2 dz (e1 (cv [4] "arrows") (eV 1)) (eV 0))))
def OZ:EF:=(dI (lsD (eV 1)) 1 [0] (gV 0) eU (e1 (cv [0,1,2,3] "time") (e2 dz (e1 (cv [4] "arrows") (eV 1)) (eV 0))))
def xQ:List D->Option D:=mOf ["net","ring","times","behinds"]
  (sSeq (sSet 2 (eN uL (aCons OZ aNil)))
  (sSeq (sSet 3 (eN uL (aCons OY aNil)))
  (sRet (λρ=>((aCons (eV 2) (aCons (eV 3) aNil)) ρ).bind λds=>xM (ds++[])))))
theorem UK (T:Txt K mg a):cB P w K mg base eF 3 a.f_mean a.d_mean ["net","ring"] (fU K a.ct [0,0] 0 xQ):=by
 have fY:=Cv (P:=P) (w:=w) (base:=base) T
 refine gY (ms:=[.ow 0,.ow 0,.ow 0,.ow 0]) T.mean.fn Pe λ_ _ _ _ _ _ hr=>?_
 exact(zf (eI Pe.nd (XE.ow (u1 (k:=0) (Oy rfl) O6 rfl T.b_sum PH (ze (XO.sh (n:=0) (pd (N:=["number","net"]) (om:=[.ow 0]) (cap:=[0]) (own:=1) (u3 (n:=0) (za 1 0)) (λ_ _ _ _ _=>(kW (show bM (["number","net"]:List aU)from by decide +kernel))) (λ_ _ _ _ _=>vd) (λ_ _ _ _ _=>(XE.ow (zy (n:=0) (gG (zy (n:=0) (za 1 0) T.fld_arrows rfl) (za 0 0)) T.fld_time rfl))))) zj))))
  (zf (eI Pe.nd (XE.ow (u1 (k:=0) (Oy rfl) O6 rfl T.b_sum PH (ze (XO.sh (n:=0) (pd (N:=["number","net"]) (om:=[.ow 0]) (cap:=[0]) (own:=1) (u3 (n:=0) (za 1 0)) (λ_ _ _ _ _=>(kW (show bM (["number","net"]:List aU)from by decide +kernel))) (λ_ _ _ _ _=>vd) (λ_ _ _ _ _=>(XE.ow (zy (n:=0) (gG (zy (n:=0) (za 1 0) T.fld_arrows rfl) (za 0 0)) T.fld_behind rfl))))) zj))))
  (zh (zt (cK T.ratio fY hr (ze (za 2 0) (ze (za 3 0) zj)))))))
def xv:SF:=(sSeq (sSet 7 (e2 dz (e1 (cv [4] "arrows") (eV 0)) (eV 6)))
  (sSeq (sSet 8 (e2 kd (e2 dS (e2 dz (eV 3) (e1 (cv [0,1,2,3] "start") (eV 7))) (e2 eA (e1 (cv [0,1,2,3] "time") (eV 7)) (e2 dz (eV 1) (eC (.int 1))))) (e2 eA (e1 (cv [0,1,2,3] "behind") (eV 7)) (e2 dz (eV 1) (eC (.int 0))))))
  (sIf (tb (e2 rJ (eV 8) (e2 dz (eV 3) (e1 (cv [0,1,2,3] "goal") (eV 7))))) (sSeq (pN 3 (e1 (cv [0,1,2,3] "goal") (eV 7)) (eV 8))
  (sSeq (jS 4 (e1 (cv [0,1,2,3] "goal") (eV 7)) (eV 6))
  (sSet 5 (e1 (cv [0,1,2,3] "goal") (eV 7))))) sSkip)))
def v4:List D->Option D:=Bp 3 ["net","pace","numbers","times","chosen","pushed","number","arrow","earliest"]
  (wW (sSet 5 (eC .non))
  (wW (sFor (lsD (eV 2)) (gV 6) xv)
  (Bq (eV 5))))
theorem zig (T:Txt K mg a):cB P w K mg base eF 1 a.f_push_once a.d_push_once ["net","pace","numbers","times","chosen"] (BZ K a.ct 3 v4):=by
 refine zp8 (n:=3) (ms:=[.ow 0,.ow 0,.ow 0,.ow 0]) T.push_once.fn uu rfl rfl λxa xb iD A outer s H E hr=>?_
 exact(UI (eI uu.nd (XE.ow nk))
  (UI (jd (xK (za 2 0)) (lh uu.nd) (zf (eI uu.nd (XE.ow (gG (zy (n:=0) (za 0 0) T.fld_arrows rfl) (za 6 0))))
  (zf (eI uu.nd (XE.ow (yw (k:=0) uP qc (XO.sh (n:=0) (kE (xR (n:=1) xN xP (za 3 1) (zy (n:=0) (za 7 0) T.fld_start rfl) (λ_ _=>rfl)) (yw (k:=0) vc xz (zy (n:=0) (za 7 0) T.fld_time rfl) (gG (za 1 0) cM)))) (yw (k:=0) vc xz (zy (n:=0) (za 7 0) T.fld_behind rfl) (gG (za 1 0) cM)))))
  (zh (vm (yh (k:=0) BW BQ (za 8 0) (xR (n:=1) xN xP (za 3 1) (zy (n:=0) (za 7 0) T.fld_goal rfl) (λ_ _=>rfl)) (bB _)) (zf (zp6 3 rfl (zy (n:=0) (za 7 0) T.fld_goal rfl) (za 8 0))
  (zf (zp7 4 rfl (uT hr) (zy (n:=0) (za 7 0) T.fld_goal rfl) (za 6 0))
  (zh (eI uu.nd (XE.ow (zy (n:=0) (za 7 0) T.fld_goal rfl)))))) yj)))) cn.never rfl)
  (zvy (za 5 0))))
def u6:EF:=(dI (lsD (eV 3)) 1 [1] (gV 0) eU (λρ=>((aCons (eV 0) (aCons (e2 dz (eV 1) (eC (.int 1))) aNil)) ρ).bind λds=>xM (ds++[])))
def wn:SF:=(sSeq (oq 5 (mX 3 4 (aCons (eV 0) (aCons (eV 1) (aCons (eV 2) aNil))) v4))
  (sIf (tb (e2 (o7 false) (eV 5) (eC .non))) (sFz 3 (sRet (λρ=>((aCons (B5 (eC (.str "times"))) (aCons u6 aNil)) ρ).bind λds=>some (.tup ds)))) sSkip))
def xm:List D->Option D:=mOf ["net","pace","numbers","times","chosen","pushed","count"]
  (sSeq (sSet 3 (e2 lO (λρ=>((aCons (eC (.int 0)) aNil) ρ).bind λds=>some (.lst ds)) (eN dL (aCons (e1 (cv [4] "names") (eV 0)) aNil))))
  (sSeq (sSet 4 (eC (.dK [] [])))
  (sSeq (sSet 5 (eC .non))
  (sSeq (sFor (λρ=>((aCons (eN dL (aCons (e1 (cv [4] "names") (eV 0)) aNil)) aNil) ρ).bind hV) (gV 6) wn)
  (sFz 4 (sRet (λρ=>((aCons (B5 (eC (.str "ring"))) (aCons (λρ=>((aCons (e1 (cv [4] "arrows") (eV 0)) (aCons (eV 4) (aCons (eV 5) aNil))) ρ).bind λds=>uj (ds++[])) aNil)) ρ).bind λds=>some (.tup ds))))))))
theorem je (T:Txt K mg a):cB P w K mg base eF 3 a.f_times_or_ring_along a.d_times_or_ring_along ["net","pace","numbers"] (fU K a.ct [0,0,0] 2 xm):=by
 have pE:=zig (P:=P) (w:=w) (base:=base) T
 have fY:=Cv (P:=P) (w:=w) (base:=base) T
 have lH:=zcx (P:=P) (w:=w) (base:=base) T
 refine gY (ms:=[.ow 0,.ow 0,.ow 0,.ow 1,.ow 1,.ow 0,.ow 0]) T.times_or_ring_along.fn yz λ_ _ _ _ _ _ hr=>?_
 exact(zf (eI yz.nd (KY (uR (k:=0) (zu (XE.ow cM) wm)) (lQ T.b_len (ze (zy (n:=0) (za 0 0) T.fld_names rfl) zj))))
  (zf (eI yz.nd OH)
  (zf (eI yz.nd (XE.ow nk))
  (zf (jd (ve (n:=0) T.b_range (ze (lQ T.b_len (ze (zy (n:=0) (za 0 0) T.fld_names rfl) zj)) zj)) (lh yz.nd) (zf (zti rfl yz.nd rfl (Or.inl rfl) (zth (i:=3) (j:=4) (by decide) rfl rfl pE (hr.mono (by decide)) rfl T.push_once.mgx T.push_once.fn.kp T.push_once.bd .nil (Pd (Pd (Pd zvz))) (OW (za 0 0) (OW (za 1 0) (OW (za 2 0) (ztg (i:=3) (j:=4)))))))
  (zh (vm (yh (k:=0) tH tG (za 5 0) nk (bB _)) (Vf (i:=3) rfl (zh (zt (qx (zu (Vs (yY (n:=0))) (zu (pd (N:=["time","pace"]) (om:=[.ow 0]) (cap:=[1]) (own:=1) (u3 (n:=0) (za 3 0)) (λ_ _ _ _ _=>(kW (show bM (["time","pace"]:List aU)from by decide +kernel))) (λ_ _ _ _ _=>vd) (λ_ _ _ _ _=>(cK T.ratio fY hr (ze (za 0 0) (ze (gG (za 1 0) cM) zj))))) wm)))))) yj))) cn.never rfl)
  (Vf (i:=4) rfl (zh (zt (qx (zu (Vs (yY (n:=0))) (zu (cK T.ring_back_from lH hr (ze (zy (n:=0) (za 0 0) T.fld_arrows rfl) (ze (za 4 0) (ze (za 5 0) zj)))) wm))))))))))
def v5:List D->Option D:=mOf ["net","pace","numbers","found"]
  (sSeq (sSet 3 (λρ=>((aCons (eV 0) (aCons (eV 1) (aCons (eV 2) aNil))) ρ).bind λds=>xm (ds++[])))
  (sRet (eIf (tb (e2 (i6 false) (e2 dz (eV 3) (eC (.int 0))) (eC (.str "ring")))) (e2 dz (eV 3) (eC (.int 1))) (eC .non))))
theorem zgv (T:Txt K mg a):cB P w K mg base eF 4 a.f_ring_above a.d_ring_above ["net","pace","numbers"] (fU K a.ct [0,0,0] 0 v5):=by
 have eT:=je (P:=P) (w:=w) (base:=base) T
 refine gY (ms:=[.ow 0,.ow 0,.ow 0,.ow 0]) T.ring_above.fn Sr λ_ _ _ _ _ _ hr=>?_
 exact(zf (eI Sr.nd (mZ (cK T.times_or_ring_along eT hr (ze (za 0 0) (ze (za 1 0) (ze (za 2 0) zj))))))
  (zh (zt (XE.ow (Ja (yh (k:=0) (uz hr.u64) ua (gG (za 3 0) cM) (yY (n:=0)) (bB _)) (gG (za 3 0) cM) nk)))))
def Ku:List D->Option D:=mOf ["one","other","total"]
  (sSeq (sSet 2 (λρ=>((aCons (eV 0) (aCons (eV 1) aNil)) ρ).bind λds=>IY (ds++[])))
  (sRet (λρ=>((aCons (e2 dz (eV 2) (eC (.int 0))) (aCons (e2 eA (e2 dz (eV 2) (eC (.int 1))) (eC (.int 2))) aNil)) ρ).bind λds=>xM (ds++[]))))
theorem znu (T:Txt K mg a):cB P w K mg base eF 4 a.f_midway a.d_midway ["one","other"] (fU K a.ct [0,0] 0 Ku):=by
 have qK:=UJ (P:=P) (w:=w) (base:=base) T
 have fY:=Cv (P:=P) (w:=w) (base:=base) T
 refine gY (ms:=[.ow 0,.ow 0,.ow 0]) T.midway.fn S9 λ_ _ _ _ _ _ hr=>?_
 exact(zf (eI S9.nd (cK T.plus qK hr (ze (za 0 0) (ze (za 1 0) zj))))
  (zh (zt (cK T.ratio fY hr (ze (gG (za 2 0) cM) (ze (yw (k:=0) vc xz (gG (za 2 0) cM) cM) zj))))))
def J6:List D->Option D:=mOf ["net","most"]
  (sSeq (sSet 1 (e2 eA (eN dL (aCons (e1 (cv [4] "names") (eV 0)) aNil)) (λρ=>((eV 0) ρ).bind λo=>gO 4 "most_behind" zk o [])))
  (sRet (λρ=>((aCons (eC (.int 1)) (aCons (e2 eA (eV 1) (eV 1)) aNil)) ρ).bind λds=>xM (ds++[]))))
theorem zih (T:Txt K mg a):cB P w K mg base eF 3 a.f_least_gap a.d_least_gap ["net"] (fU K a.ct [0] 0 J6):=by
 have cJ:=w9 (P:=P) (w:=w) (base:=base) T
 have fY:=Cv (P:=P) (w:=w) (base:=base) T
 refine gY (ms:=[.ow 0,.ow 0]) T.least_gap.fn Sx λ_ _ _ _ _ _ hr=>?_
 exact(zf (eI Sx.nd (XE.ow (yw (k:=0) vc xz (lQ T.b_len (ze (zy (n:=0) (za 0 0) T.fld_names rfl) zj)) (XO.sh (n:=0) (Ct (n:=0) (c0:=4) (nd:=[]) (kO:=[]) (za 0 0) T.Net.cl T.Net_most_behind.me cJ (hr.mono (by decide)) T.Net_most_behind.bd .nil (λ_ _=>.nil))))))
  (zh (zt (cK T.ratio fY hr (ze cM (ze (yw (k:=0) vc xz (za 1 0) (za 1 0)) zj))))))
def v8:SF:=(sSeq (sSet 5 (λρ=>((aCons (λρ=>((aCons (eV 0) (aCons (eV 2) aNil)) ρ).bind λds=>xQ (ds++[])) (aCons (eV 3) aNil)) ρ).bind λds=>Ku (ds++[])))
  (sSeq (sSet 6 (λρ=>((aCons (eV 0) (aCons (eV 5) (aCons (eV 1) aNil))) ρ).bind λds=>v5 (ds++[])))
  (sIf (tb (e2 (o7 false) (eV 6) (eC .non))) (sSet 3 (eV 5)) (sSet 2 (eV 6)))))
def Se:EF:=(dI (lsD (eV 1)) 1 [0] (gV 0) eU (e1 (cv [0,1,2,3] "time") (e2 dz (e1 (cv [4] "arrows") (eV 1)) (eV 0))))
def v6:List D->Option D:=mOf ["net","numbers","ring","ceiling","gap","middle","better"]
  (sSeq (sSet 2 (λρ=>((aCons (eV 0) (aCons (λρ=>((aCons (e1 qX (eC (.int 1))) (aCons (eC (.int 1)) aNil)) ρ).bind λds=>some (.tup ds)) (aCons (eV 1) aNil))) ρ).bind λds=>v5 (ds++[])))
  (sSeq (sIf (tb (e2 (o7 false) (eV 2) (eC .non))) (sRet (eC .non)) sSkip)
  (sSeq (sSet 3 (λρ=>((aCons (eN uL (aCons Se aNil)) (aCons (eC (.int 1)) aNil)) ρ).bind λds=>some (.tup ds)))
  (sSeq (sSet 4 (λρ=>((aCons (eV 0) aNil) ρ).bind λds=>J6 (ds++[])))
  (sSeq (gD (bNot (tb (λρ=>((aCons (λρ=>((aCons (eV 3) (aCons (λρ=>((aCons (eV 0) (aCons (eV 2) aNil)) ρ).bind λds=>xQ (ds++[])) aNil)) ρ).bind λds=>CD (ds++[])) (aCons (eV 4) aNil)) ρ).bind λds=>Cy (ds++[])))) v8)
  (sRet (eV 2)))))))
theorem zdf (T:Txt K mg a):cB P w K mg base eF 5 a.f_greatest_ring a.d_greatest_ring ["net","numbers"] (fU K a.ct [0,0] 0 v6):=by
 have kM:=zgv (P:=P) (w:=w) (base:=base) T
 have pD:=zih (P:=P) (w:=w) (base:=base) T
 have vS:=zqe (P:=P) (w:=w) (base:=base) T
 have vR:=zqd (P:=P) (w:=w) (base:=base) T
 have oG:=UK (P:=P) (w:=w) (base:=base) T
 have tM:=znu (P:=P) (w:=w) (base:=base) T
 refine gY (ms:=[.ow 0,.ow 0,.ow 0,.ow 0,.ow 0,.ow 0,.ow 0]) T.greatest_ring.fn xt λ_ _ _ _ _ _ hr=>?_
 exact(zf (eI xt.nd (cK T.ring_above kM hr (ze (za 0 0) (ze (XO.sh (n:=0) (qx (zu (XE.ow (IX (k:=0) cM)) (zu (XE.ow cM) wm)))) (ze (za 1 0) zj)))))
  (zf (vm (yh (k:=0) tH tG (za 2 0) nk (bB _)) (zh (zt (XE.ow nk))) yj)
  (zf (eI xt.nd (mZ (qx (zu (XE.ow (u1 (k:=0) (Oy rfl) O6 rfl T.b_sum PH (ze (XO.sh (n:=0) (pd (N:=["number","net"]) (om:=[.ow 0]) (cap:=[0]) (own:=1) (u3 (n:=0) (za 1 0)) (λ_ _ _ _ _=>(kW (show bM (["number","net"]:List aU)from by decide +kernel))) (λ_ _ _ _ _=>vd) (λ_ _ _ _ _=>(XE.ow (zy (n:=0) (gG (zy (n:=0) (za 1 0) T.fld_arrows rfl) (za 0 0)) T.fld_time rfl))))) zj))) (zu (XE.ow cM) wm)))))
  (zf (eI xt.nd (cK T.least_gap pD hr (ze (za 0 0) zj)))
  (zf (Cu (qw (u0 (XO.sh (n:=0) (cK T.under vS hr (ze (XO.sh (n:=0) (cK T.minus vR hr (ze (za 3 0) (ze (XO.sh (n:=0) (cK T.mean oG hr (ze (za 0 0) (ze (za 2 0) zj)))) zj)))) (ze (za 4 0) zj)))))) (zf (eI xt.nd (cK T.midway tM hr (ze (XO.sh (n:=0) (cK T.mean oG hr (ze (za 0 0) (ze (za 2 0) zj)))) (ze (za 3 0) zj))))
  (zf (eI xt.nd (cK T.ring_above kM hr (ze (za 0 0) (ze (za 5 0) (ze (za 1 0) zj)))))
  (zh (vm (yh (k:=0) tH tG (za 6 0) nk (bB _)) (zh (eI xt.nd (XE.ow (za 5 0)))) (zh (eI xt.nd (XE.ow (za 6 0)))))))) cn.never)
  (zh (zt (XE.ow (za 2 0)))))))))
def u7:List D->Option D:=mOf ["net","numbers","ring","pace"]
  (sSeq (sSet 2 (λρ=>((aCons (eV 0) (aCons (eV 1) aNil)) ρ).bind λds=>v6 (ds++[])))
  (sSeq (sIf (tb (e2 (o7 false) (eV 2) (eC .non))) (sRet (eC .non)) sSkip)
  (sSeq (sSet 3 (λρ=>((aCons (eV 0) (aCons (eV 2) aNil)) ρ).bind λds=>xQ (ds++[])))
  (sRet (λρ=>((aCons (eV 3) (aCons (eV 2) (aCons (e2 dz (λρ=>((aCons (eV 0) (aCons (eV 3) (aCons (eV 1) aNil))) ρ).bind λds=>xm (ds++[])) (eC (.int 1))) aNil))) ρ).bind λds=>some (.tup ds))))))
theorem ze9 (T:Txt K mg a):cB P w K mg base eF 6 a.f_paper_along a.d_paper_along ["net","numbers"] (fU K a.ct [0,0] 0 u7):=by
 have mF:=zdf (P:=P) (w:=w) (base:=base) T
 have oG:=UK (P:=P) (w:=w) (base:=base) T
 have eT:=je (P:=P) (w:=w) (base:=base) T
 refine gY (ms:=[.ow 0,.ow 0,.ow 0,.ow 0]) T.paper_along.fn qr λ_ _ _ _ _ _ hr=>?_
 exact(zf (eI qr.nd (cK T.greatest_ring mF hr (ze (za 0 0) (ze (za 1 0) zj))))
  (zf (vm (yh (k:=0) tH tG (za 2 0) nk (bB _)) (zh (zt (XE.ow nk))) yj)
  (zf (eI qr.nd (cK T.mean oG hr (ze (za 0 0) (ze (za 2 0) zj))))
  (zh (zt (mZ (qx (zu (XE.ow (za 3 0)) (zu (XE.ow (za 2 0)) (zu (XE.ow (gG (XO.sh (n:=0) (cK T.times_or_ring_along eT hr (ze (za 0 0) (ze (za 3 0) (ze (za 1 0) zj))))) cM)) wm))))))))))
def O0:EF:=(dI (λρ=>((aCons (e2 dz (eV 3) (eC (.int 2))) aNil) ρ).bind λds=>match ds with|[.lst xs]=>some (eK 0 xs)|_=>none) 2 [2] (gT (gsCons (gV 0) (gsCons (gV 1) gsNil))) eU (eIf (tb (e2 (inD false) (eV 0) (eV 2))) (eV 1) (eC .non)))
def O1:EF:=(dI (λρ=>((aCons (e1 (cv [4] "arrows") (eV 0)) aNil) ρ).bind λds=>match ds with|[.lst xs]=>some (eK 0 xs)|_=>none) 2 [2] (gT (gsCons (gV 0) (gsCons (gV 1) gsNil))) (tb (e2 (inD false) (e1 (cv [0,1,2,3] "goal") (eV 1)) (eV 2))) (eV 0))
def IZ:List D->Option D:=mOf ["net","going","leading","paper","times"]
  (sSeq (sSet 2 (λρ=>((aCons (eV 0) (aCons (eV 1) aNil)) ρ).bind λds=>j9 (ds++[])))
  (sSeq (sSet 3 (λρ=>((aCons (eV 0) (aCons O1 aNil)) ρ).bind λds=>u7 (ds++[])))
  (sSeq (sIf (tb (e2 (o7 false) (eV 3) (eC .non))) (sRet (eC .non)) sSkip)
  (sSeq (sSet 4 O0)
  (sRet (λρ=>((aCons (e2 dz (eV 3) (eC (.int 0))) (aCons (e2 dz (eV 3) (eC (.int 1))) (aCons (eV 4) aNil))) ρ).bind λds=>some (.tup ds)))))))
theorem ztl (T:Txt K mg a):cB P w K mg base eF 7 a.f_rate a.d_rate ["net","going"] (fU K a.ct [0,0] 0 IZ):=by
 have qJ:=zji (P:=P) (w:=w) (base:=base) T
 have nM:=ze9 (P:=P) (w:=w) (base:=base) T
 refine gY (ms:=[.ow 0,.ow 0,.ow 0,.ow 0,.ow 0]) T.rate.fn KO λ_ _ _ _ _ _ hr=>?_
 exact(zf (eI KO.nd (mZ (cK T.leads_to qJ hr (ze (za 0 0) (ze (za 1 0) zj)))))
  (zf (eI KO.nd (cK T.paper_along nM hr (ze (za 0 0) (ze (XO.sh (n:=0) (pd (N:=["number","arrow","leading"]) (om:=[.ow 0,.ow 0]) (cap:=[2]) (own:=2) (OR (n:=0) T.b_enumerate (ze (zy (n:=0) (za 0 0) T.fld_arrows rfl) zj)) (λ_ _ _ _ _=>(KM (n:=1) rfl (jr (kW (show bM (["number","arrow","leading"]:List aU)from by decide +kernel)) (jr (kW (show bM (["number","arrow","leading"]:List aU)from by decide +kernel)) Kn)))) (λ_ _ _ _ _=>(IR (yh (k:=0) Th Pw (zy (n:=0) (za 1 0) T.fld_goal rfl) (za 2 0) (by with_unfolding_all rfl)))) (λ_ _ _ _ _=>(XE.ow (za 0 0))))) zj))))
  (zf (vm (yh (k:=0) tH tG (za 3 0) nk (bB _)) (zh (zt (XE.ow nk))) yj)
  (zf (jf (k:=0) (N:=["place","time","leading"]) (om:=[.ow 0,.ow 0]) (cap:=[2]) (own:=2) rfl KO.nd rfl (Or.inl rfl) (yZ (by rfl)) rfl rfl (by decide) (OR (n:=0) T.b_enumerate (ze (gG (za 3 0) cM) zj)) (λ_ _ _ _ _=>(KM (n:=1) rfl (jr (kW (show bM (["place","time","leading"]:List aU)from by decide +kernel)) (jr (kW (show bM (["place","time","leading"]:List aU)from by decide +kernel)) Kn)))) (λ_ _ _ _ _=>vd) (λ_ _ _ _ _=>(XE.ow (Ja (yh (k:=0) Th Pw (za 0 0) (za 2 0) (by with_unfolding_all rfl)) (za 1 0) nk))))
  (zh (zt (mZ (qx (zu (XE.ow (gG (za 3 0) cM)) (zu (XE.ow (gG (za 3 0) cM)) (zu (XE.ow (za 4 0)) wm)))))))))))
def jk:SF:=(jS 1 (λρ=>((aCons (eV 2) (aCons (eV 3) aNil)) ρ).bind λds=>some (.tup ds)) (λρ=>((aCons (λρ=>((eV 1) ρ).bind λx=>((λρ=>((aCons (eV 2) (aCons (eV 3) aNil)) ρ).bind λds=>some (.tup ds)) ρ).bind λy=>(gM x y).bind λr=>some (r.getD .non)) (aCons (eV 4) aNil)) ρ).bind λds=>IN (ds++[])))
def xx:List D->Option D:=mOf ["told","greatest","going","number","amount"]
  (sSeq (sSet 1 (eC (.dT [] [])))
  (sSeq (sFor (lsD (eV 0)) (gT (gsCons (gV 2) (gsCons (gV 3) (gsCons (gV 4) gsNil)))) jk)
  (sRet (eV 1))))
theorem zdg (T:Txt K mg a):cB P w K mg base eF 2 a.f_greatest_told a.d_greatest_told ["told"] (fU K a.ct [0] 0 xx):=by
 have mT:=Tt (P:=P) (w:=w) (base:=base) T
 refine gY (ms:=[.ow 0,.ow 1,.ow 0,.ow 0,.ow 0]) T.greatest_told.fn vv λ_ _ _ _ _ _ hr=>?_
 exact(zf (eI vv.nd zpb)
  (zf (jd (xK (za 0 0)) (KS (n:=0) rfl (ue (lh vv.nd) (ue (lh vv.nd) (ue (lh vv.nd) KJ)))) (zh (O9 1 rfl (uT hr) (XO.sh (n:=0) (qx (zu (XE.ow (za 2 0)) (zu (XE.ow (za 3 0)) wm)))) (XO.sh (n:=0) (cK T.latest mT hr (ze (Uq (n:=1) (uT hr) (za 1 1) (XO.sh (n:=0) (qx (zu (XE.ow (za 2 0)) (zu (XE.ow (za 3 0)) wm)))) ⟨rfl,rfl,rfl,rfl⟩) (ze (za 4 0) zj)))))) cn.never rfl)
  (zh (Pc (i:=1) rfl))))
def Sj:EF:=(dI (λρ=>((lsD (λρ=>((eV 1) ρ).bind λd=>(pNo ρ).bind λl=>((pInt (eV 2)) ρ).bind λh=>jT d l h)) ρ).bind λds=>some ds.reverse) 1 [] (gV 0) eU (eN nc (aCons (eV 0) aNil)))
def Sk:EF:=(dI (λρ=>((aCons (eV 2) aNil) ρ).bind hV) 1 [0] (gV 0) eU (e2 lO (λρ=>((aCons (eC (.int 0)) aNil) ρ).bind λds=>some (.lst ds)) (eN dL (aCons (e1 (cv [4] "names") (eV 1)) aNil))))
def vn:List D->Option D:=mOf ["net","was","depth"]
  (sSeq (sSet 2 (λρ=>((eV 0) ρ).bind λo=>gO 4 "most_behind" zk o []))
  (sSeq (sIf (tb (e2 (o7 false) (eV 1) (eC .non))) (sRet Sk) sSkip)
  (sRet Sj)))
theorem zgy (T:Txt K mg a):cB P w K mg base eF 2 a.f_rows_ahead a.d_rows_ahead ["net","was"] (fU K a.ct [0,0] 2 vn):=by
 have cJ:=w9 (P:=P) (w:=w) (base:=base) T
 refine gY (ms:=[.ow 0,.ow 0,.ow 0]) T.rows_ahead.fn Ss λ_ _ _ _ _ _ hr=>?_
 exact(zf (eI Ss.nd (Ct (n:=0) (c0:=4) (nd:=[]) (kO:=[]) (za 0 0) T.Net.cl T.Net_most_behind.me cJ (hr.mono (by decide)) T.Net_most_behind.bd .nil (λ_ _=>.nil)))
  (zf (vm (yh (k:=0) tH tG (za 1 0) nk (bB _)) (zh (zt (pd (N:=["number","net"]) (om:=[.ow 0]) (cap:=[0]) (own:=1) (XI.cc (ve (n:=0) T.b_range (ze (za 2 0) zj))) (λ_ _ _ _ _=>(kW (show bM (["number","net"]:List aU)from by decide +kernel))) (λ_ _ _ _ _=>vd) (λ_ _ _ _ _=>(KY (uR (k:=0) (zu (XE.ow cM) wm)) (lQ T.b_len (ze (zy (n:=0) (za 1 0) T.fld_names rfl) zj))))))) yj)
  (zh (zt (pd (N:=["row"]) (om:=[.ow 0]) (cap:=[]) (own:=1) (zta (n:=0) T.b_reversed (XO.sh (n:=0) (OT (n:=0) (by decide) (za 1 0) P2 (O5 (za 2 0))))) (λ_ _ _ _ _=>(kW (show bM (["row"]:List aU)from by decide +kernel))) (λ_ _ _ _ _=>vd) (λ_ _ _ _ _=>(Oq N9 (OS (n:=0) (by decide)) rfl T.b_list CB (ze (za 0 0) zj))))))))
def uc:SF:=(sSeq (sSet 6 (e2 dz (e1 (cv [4] "arrows") (eV 0)) (eV 5)))
  (sSet 4 (λρ=>((aCons (eV 4) (aCons (λρ=>((aCons (e2 dz (e2 dz (eV 1) (e2 kd (e1 qX (eC (.int 1))) (e1 (cv [0,1,2,3] "behind") (eV 6)))) (e1 (cv [0,1,2,3] "start") (eV 6))) (aCons (e1 (cv [0,1,2,3] "time") (eV 6)) aNil)) ρ).bind λds=>KP (ds++[])) aNil)) ρ).bind λds=>IN (ds++[]))))
def vx:List D->Option D:=mOf ["net","rows","numbers","floor","when","number","arrow"]
  (sSeq (sSet 4 (eV 3))
  (sSeq (sFor (lsD (eV 2)) (gV 5) uc)
  (sRet (eV 4))))
theorem zb7 (T:Txt K mg a):cB P w K mg base eF 2 a.f_time_in_last_row a.d_time_in_last_row ["net","rows","numbers","floor"] (fU K a.ct [0,2,0,0] 0 vx):=by
 have mT:=Tt (P:=P) (w:=w) (base:=base) T
 have vQ:=zqf (P:=P) (w:=w) (base:=base) T
 refine gY (ms:=[.ow 0,.al 2,.ow 0,.ow 0,.ow 0,.ow 0,.ow 0]) T.time_in_last_row.fn wt λ_ _ _ _ _ _ hr=>?_
 exact(zf (eI wt.nd (XE.ow (za 3 0)))
  (zf (jd (xK (za 2 0)) (lh wt.nd) (zf (eI wt.nd (XE.ow (gG (zy (n:=0) (za 0 0) T.fld_arrows rfl) (za 5 0))))
  (zh (eI wt.nd (cK T.latest mT hr (ze (za 4 0) (ze (XO.sh (n:=0) (cK T.later vQ hr (ze (xR (n:=1) xN xP (xR (n:=2) xN xP (za 1 2) (yw (k:=0) uP qc (IX (k:=0) cM) (zy (n:=0) (za 6 0) T.fld_behind rfl)) (λ_ _=>rfl)) (zy (n:=0) (za 6 0) T.fld_start rfl) (λ_ _=>rfl)) (ze (zy (n:=0) (za 6 0) T.fld_time rfl) zj)))) zj)))))) cn.never rfl)
  (zh (zt (XE.ow (za 4 0))))))
def vz:SF:=(sSeq (sSet 10 (λρ=>((eV 5) ρ).bind λx=>((λρ=>((aCons (eV 9) (aCons (eV 8) aNil)) ρ).bind λds=>some (.tup ds)) ρ).bind λy=>(gM x y).bind λr=>some (r.getD .non)))
  (rh 4 (e1 qX (eC (.int 1))) (eV 9) (λρ=>((aCons (eV 0) (aCons (eV 4) (aCons (e2 dz (eV 6) (eV 9)) (aCons (eV 10) aNil)))) ρ).bind λds=>vx (ds++[]))))
def u8:SF:=(sSeq (sApp 4 (e2 lO (λρ=>((aCons (eC .non) aNil) ρ).bind λds=>some (.lst ds)) (eN dL (aCons (e1 (cv [4] "names") (eV 0)) aNil))))
  (sFor (lsD (eV 7)) (gV 9) vz))
def qm:EF:=(dI (λρ=>((aCons (eN dL (aCons (e1 (cv [4] "names") (eV 0)) aNil)) aNil) ρ).bind hV) 1 [0] (gV 0) eU (λρ=>((eV 1) ρ).bind λo=>((aCons (eV 0) aNil) ρ).bind λds=>gO 4 "into" vi o (ds++[])))
def um:List D->Option D:=mOf ["net","rounds","was","floors","rows","greatest","numbers","order","number","going","floor"]
  (sSeq (sSet 4 (λρ=>((aCons (eV 0) (aCons (eV 2) aNil)) ρ).bind λds=>vn (ds++[])))
  (sSeq (sSet 5 (λρ=>((aCons (eIf (tb (e2 (o7 false) (eV 3) (eC .non))) (λρ=>(aNil ρ).bind λds=>some (.lst ds)) (eV 3)) aNil) ρ).bind λds=>xx (ds++[])))
  (sSeq (sSet 6 qm)
  (sSeq (sSet 7 (λρ=>((eV 0) ρ).bind λo=>gO 4 "order" J5 o []))
  (sSeq (sFor (λρ=>((aCons (eV 1) aNil) ρ).bind hV) (gV 8) u8)
  (sRet (eV 4)))))))
theorem zc1 (T:Txt K mg a):cB P w K mg base eF 3 a.f_rows_with_past a.d_rows_with_past ["net","rounds","was","floors"] (fU K a.ct [0,0,0,0] 0 um):=by
 have oH:=zgy (P:=P) (w:=w) (base:=base) T
 have mG:=zdg (P:=P) (w:=w) (base:=base) T
 have fK:=J4 (P:=P) (w:=w) (base:=base) T
 have pz:=zid (P:=P) (w:=w) (base:=base) T
 have ko:=zb7 (P:=P) (w:=w) (base:=base) T
 refine gY (ms:=[.ow 0,.ow 0,.ow 0,.ow 0,.ow 2,.ow 0,.ow 0,.ow 0,.ow 0,.ow 0,.ow 0]) T.rows_with_past.fn xl λ_ _ _ _ _ _ hr=>?_
 exact(zf (eI xl.nd (cK T.rows_ahead oH hr (ze (za 0 0) (ze (za 2 0) zj))))
  (zf (eI xl.nd (cK T.greatest_told mG hr (ze (Ja (yh (k:=0) tH tG (za 3 0) nk (bB _)) (XO.sh (n:=0) (uR (k:=0) wm)) (za 3 0)) zj)))
  (zf (jf (k:=0) (N:=["going","net"]) (om:=[.ow 0]) (cap:=[0]) (own:=1) rfl xl.nd rfl (Or.inl rfl) (yZ (by rfl)) rfl rfl (by decide) (XI.cc (ve (n:=0) T.b_range (ze (lQ T.b_len (ze (zy (n:=0) (za 0 0) T.fld_names rfl) zj)) zj))) (λ_ _ _ _ _=>(kW (show bM (["going","net"]:List aU)from by decide +kernel))) (λ_ _ _ _ _=>vd) (λ_ _ _ _ _=>(KB (n:=0) (c0:=4) (ns:=[0]) (nd:=[]) (kO:=[]) (za 1 0) T.Net.cl T.Net_into.me fK (hr.mono (by decide)) T.Net_into.bd .nil (λ_ _=>.nil) (ze (za 0 0) zj))))
  (zf (eI xl.nd (Ct (n:=0) (c0:=4) (nd:=[]) (kO:=[]) (za 0 0) T.Net.cl T.Net_order.me pz (hr.mono (by decide)) T.Net_order.bd .nil (λ_ _=>.nil)))
  (zf (jd (ve (n:=0) T.b_range (ze (za 1 0) zj)) (lh xl.nd) (zf (Kg 4 rfl (KY (uR (k:=0) (zu (XE.ow nk) wm)) (lQ T.b_len (ze (zy (n:=0) (za 0 0) T.fld_names rfl) zj))))
  (zh (jd (xK (za 7 0)) (lh xl.nd) (zf (eI xl.nd (XE.ow (Uq (n:=0) (uT hr) (za 5 0) (XO.sh (n:=0) (qx (zu (XE.ow (za 9 0)) (zu (XE.ow (za 8 0)) wm)))) ⟨rfl,rfl,rfl,rfl⟩)))
  (zh (zp0 4 rfl (IX (k:=0) cM) (za 9 0) (λ_ _=>rfl) (XO.sh (n:=0) (cK T.time_in_last_row ko hr (ze (za 0 0) (ze (za 4 2) (ze (gG (za 6 0) (za 9 0)) (ze (za 10 0) zj))))))))) cn.never rfl))) cn.never rfl)
  (zh (Pc (i:=4) rfl)))))))
def BX:List D->Option D:=mOf ["net","rounds","was","floors"]
  (sRet (λρ=>((λρ=>((aCons (eV 0) (aCons (eV 1) (aCons (eV 2) (aCons (eV 3) aNil)))) ρ).bind λds=>um (ds++[])) ρ).bind λd=>((pInt (λρ=>((eV 0) ρ).bind λo=>gO 4 "most_behind" zk o [])) ρ).bind λl=>(pNo ρ).bind λh=>jT d l h))
theorem zv1 (T:Txt K mg a):cB P w K mg base eF 4 a.f_run a.d_run ["net","rounds","was","floors"] (fU K a.ct [0,0,0,0] 0 BX):=by
 have lI:=zc1 (P:=P) (w:=w) (base:=base) T
 have cJ:=w9 (P:=P) (w:=w) (base:=base) T
 refine gY (ms:=[.ow 0,.ow 0,.ow 0,.ow 0]) T.run.fn zv0 λ_ _ _ _ _ _ hr=>?_
 exact(zh (zt (mZ (OT (n:=0) (by decide) (XO.sh (n:=0) (cK T.rows_with_past lI hr (ze (za 0 0) (ze (za 1 0) (ze (za 2 0) (ze (za 3 0) zj)))))) (O5 (XO.sh (n:=0) (Ct (n:=0) (c0:=4) (nd:=[]) (kO:=[]) (za 0 0) T.Net.cl T.Net_most_behind.me cJ (hr.mono (by decide)) T.Net_most_behind.bd .nil (λ_ _=>.nil)))) P2))))
def SX:EF:=(dI (λρ=>((aCons (e2 dz (eV 0) (eV 1)) (aCons (e2 dz (eV 0) (e2 dS (eV 1) (eV 2))) aNil)) ρ).bind BV) 2 [] (gT (gsCons (gV 0) (gsCons (gV 1) gsNil))) eU (e2 kd (eV 1) (eV 0)))
def j6:List D->Option D:=mOf ["rows","first","count"]
  (sRet SX)
theorem OC (T:Txt K mg a):cB P w K mg base eF 1 a.f_growth a.d_growth ["rows","first","count"] (fU K a.ct [0,0,0] 0 j6):=by
 refine gY (ms:=[.ow 0,.ow 0,.ow 0]) T.growth.fn znq λ_ _ _ _ _ _ hr=>?_
 exact(zh (zt (mZ (pd (N:=["before","after"]) (om:=[.ow 0,.ow 0]) (cap:=[]) (own:=2) (ztb (n:=0) T.b_zip (ze (gG (za 0 0) (za 1 0)) (ze (gG (za 0 0) (XO.sh (n:=0) (kE (za 1 0) (za 2 0)))) zj))) (λ_ _ _ _ _=>(KM (n:=1) rfl (jr (kW (show bM (["before","after"]:List aU)from by decide +kernel)) (jr (kW (show bM (["before","after"]:List aU)from by decide +kernel)) Kn)))) (λ_ _ _ _ _=>vd) (λ_ _ _ _ _=>(XE.ow (yw (k:=0) uP qc (za 1 0) (za 0 0))))))))
def Sy:EF:=(dI (λρ=>((aCons (eV 1) (aCons (e2 dS (eV 2) (eC (.int 1))) aNil)) ρ).bind nQ) 1 [0,3,4] (gV 0) eU (e2 (i6 false) (λρ=>((aCons (eV 1) (aCons (eV 0) (aCons (eV 2) aNil))) ρ).bind λds=>j6 (ds++[])) (eV 3)))
def Kc:List D->Option D:=mOf ["rows","first","last","count","lengths"]
  (sRet (eN tS (aCons Sy aNil)))
theorem zjk (T:Txt K mg a):cB P w K mg base eF 2 a.f_grows_so a.d_grows_so ["rows","first","last","count","lengths"] (fU K a.ct [0,0,0,0,0] 0 Kc):=by
 have jM:=OC (P:=P) (w:=w) (base:=base) T
 refine gY (ms:=[.ow 0,.ow 0,.ow 0,.ow 0,.ow 0]) T.grows_so.fn zjf λ_ _ _ _ _ _ hr=>?_
 exact(zh (zt (XE.ow (u1 (k:=0) (Oz rfl) O7 rfl T.b_all PJ (ze (XO.sh (n:=0) (pd (N:=["number","rows","count","lengths"]) (om:=[.ow 0]) (cap:=[0,3,4]) (own:=1) (XI.cc (Ou (n:=0) T.b_range (ze (za 1 0) (ze (XO.sh (n:=0) (kE (za 2 0) cM)) zj)))) (λ_ _ _ _ _=>(kW (show bM (["number","rows","count","lengths"]:List aU)from by decide +kernel))) (λ_ _ _ _ _=>vd) (λ_ _ _ _ _=>(XE.ow (tF (k:=0) (uz hr.u64) ua (XO.sh (n:=0) (cK T.growth jM hr (ze (za 1 0) (ze (za 0 0) (ze (za 2 0) zj))))) (za 3 0) (bB _)))))) zj)))))
def qo:EF:=(dI (lsD (e1 (cv [4] "arrows") (eV 0))) 1 [1] (gV 0) eU (e2 wV (e2 dz (eV 1) (e1 (cv [0,1,2,3] "start") (eV 0))) (e2 dz (eV 1) (e1 (cv [0,1,2,3] "goal") (eV 0)))))
def uo:List D->Option D:=mOf ["net","lengths"]
  (sRet (eN tS (aCons qo aNil)))
theorem zc2 (T:Txt K mg a):cB P w K mg base eF 1 a.f_never_outgrown a.d_never_outgrown ["net","lengths"] (fU K a.ct [0,0] 0 uo):=by
 refine gY (ms:=[.ow 0,.ow 0]) T.never_outgrown.fn zcw λ_ _ _ _ _ _ hr=>?_
 exact(zh (zt (XE.ow (u1 (k:=0) (Oz rfl) O7 rfl T.b_all PJ (ze (XO.sh (n:=0) (pd (N:=["arrow","lengths"]) (om:=[.ow 0]) (cap:=[1]) (own:=1) (u3 (n:=0) (zy (n:=0) (za 0 0) T.fld_arrows rfl)) (λ_ _ _ _ _=>(kW (show bM (["arrow","lengths"]:List aU)from by decide +kernel))) (λ_ _ _ _ _=>vd) (λ_ _ _ _ _=>(XE.ow (tF (k:=0) BR BN (gG (za 1 0) (zy (n:=0) (za 0 0) T.fld_start rfl)) (gG (za 1 0) (zy (n:=0) (za 0 0) T.fld_goal rfl)) (bB _)))))) zj)))))
def xw:SF:=(sIf (tb (e2 (i6 false) (e2 dS (e2 dz (e2 dz (eV 0) (e2 kd (eV 3) (e1 (cv [0,1,2,3] "behind") (eV 4)))) (e1 (cv [0,1,2,3] "start") (eV 4))) (e1 (cv [0,1,2,3] "time") (eV 4))) (e2 dz (e2 dz (eV 0) (eV 3)) (eV 2)))) (sRet (eC (.bl true))) sSkip)
def qp:List D->Option D:=mOf ["rows","carriers","going","number","arrow"]
  (sSeq (sFor (lsD (eV 1)) (gV 4) xw)
  (sRet (eC (.bl false))))
theorem zgz (T:Txt K mg a):cB P w K mg base eF 1 a.f_is_carried a.d_is_carried ["rows","carriers","going","number"] (fU K a.ct [0,0,0,0] 0 qp):=by
 refine gY (ms:=[.ow 0,.ow 0,.ow 0,.ow 0,.ow 0]) T.is_carried.fn Su λ_ _ _ _ _ _ hr=>?_
 exact(zf (jd (xK (za 1 0)) (lh Su.nd) (zh (vm (yh (k:=0) (uz hr.u64) ua (XO.sh (n:=0) (kE (gG (gG (za 0 0) (yw (k:=0) uP qc (za 3 0) (zy (n:=0) (za 4 0) T.fld_behind rfl))) (zy (n:=0) (za 4 0) T.fld_start rfl)) (zy (n:=0) (za 4 0) T.fld_time rfl))) (gG (gG (za 0 0) (za 3 0)) (za 2 0)) (bB _)) (zh (zt (XE.ow (rn (n:=0))))) yj)) cn.never rfl)
  (zh (zt (XE.ow (rn (n:=0))))))
def xy:SF:=(sIf (bNot (tb (λρ=>((aCons (eV 1) (aCons (eV 7) (aCons (eV 5) (aCons (eV 8) aNil)))) ρ).bind λds=>qp (ds++[])))) (sRet (eC (.bl false))) sSkip)
def Sh:EF:=(dI (lsD (eV 6)) 1 [4,5] (gV 0) (tb (e2 (i6 false) (e2 dz (eV 1) (e1 (cv [0,1,2,3] "start") (eV 0))) (e2 dz (eV 1) (eV 2)))) (eV 0))
def Si:EF:=(dI (lsD (λρ=>((eV 0) ρ).bind λo=>((aCons (eV 5) aNil) ρ).bind λds=>gO 4 "into" vi o (ds++[]))) 1 [0] (gV 0) eU (e2 dz (e1 (cv [4] "arrows") (eV 1)) (eV 0)))
def vk:SF:=(sSeq (sSet 6 Si)
  (sSeq (sSet 7 Sh)
  (sFor (λρ=>((aCons (eV 2) (aCons (e2 dS (eV 3) (eC (.int 1))) aNil)) ρ).bind nQ) (gV 8) xy)))
def u9:List D->Option D:=mOf ["net","rows","first","last","lengths","going","entering","carriers","number"]
  (sSeq (sFor (λρ=>((aCons (eN dL (aCons (e1 (cv [4] "names") (eV 0)) aNil)) aNil) ρ).bind hV) (gV 5) vk)
  (sRet (eC (.bl true))))
theorem zfa (T:Txt K mg a):cB P w K mg base eF 2 a.f_all_carried a.d_all_carried ["net","rows","first","last","lengths"] (fU K a.ct [0,0,0,0,0] 0 u9):=by
 have fK:=J4 (P:=P) (w:=w) (base:=base) T
 have oF:=zgz (P:=P) (w:=w) (base:=base) T
 refine gY (ms:=[.ow 0,.ow 0,.ow 0,.ow 0,.ow 0,.ow 0,.ow 0,.ow 0,.ow 0]) T.all_carried.fn ud λ_ _ _ _ _ _ hr=>?_
 exact(zf (jd (ve (n:=0) T.b_range (ze (lQ T.b_len (ze (zy (n:=0) (za 0 0) T.fld_names rfl) zj)) zj)) (lh ud.nd) (zf (jf (k:=0) (N:=["number","net"]) (om:=[.ow 0]) (cap:=[0]) (own:=1) rfl ud.nd rfl (Or.inl rfl) (yZ (by rfl)) rfl rfl (by decide) (u3 (n:=0) (XO.sh (n:=0) (KB (n:=0) (c0:=4) (ns:=[0]) (nd:=[]) (kO:=[]) (za 0 0) T.Net.cl T.Net_into.me fK (hr.mono (by decide)) T.Net_into.bd .nil (λ_ _=>.nil) (ze (za 5 0) zj)))) (λ_ _ _ _ _=>(kW (show bM (["number","net"]:List aU)from by decide +kernel))) (λ_ _ _ _ _=>vd) (λ_ _ _ _ _=>(XE.ow (gG (zy (n:=0) (za 1 0) T.fld_arrows rfl) (za 0 0)))))
  (zf (jf (k:=0) (N:=["arrow","lengths","going"]) (om:=[.ow 0]) (cap:=[4,5]) (own:=1) rfl ud.nd rfl (Or.inl rfl) (yZ (by rfl)) rfl rfl (by decide) (u3 (n:=0) (za 6 0)) (λ_ _ _ _ _=>(kW (show bM (["arrow","lengths","going"]:List aU)from by decide +kernel))) (λ_ _ _ _ _=>(IR (yh (k:=0) (uz hr.u64) ua (gG (za 1 0) (zy (n:=0) (za 0 0) T.fld_start rfl)) (gG (za 1 0) (za 2 0)) (bB _)))) (λ_ _ _ _ _=>(XE.ow (za 0 0))))
  (zh (jd (Ou (n:=0) T.b_range (ze (za 2 0) (ze (XO.sh (n:=0) (kE (za 3 0) cM)) zj))) (lh ud.nd) (zh (vm (qw (u0 (XO.sh (n:=0) (cK T.is_carried oF hr (ze (za 1 0) (ze (za 7 0) (ze (za 5 0) (ze (za 8 0) zj)))))))) (zh (zt (XE.ow (rn (n:=0))))) yj)) cn.never rfl)))) cn.never rfl)
  (zh (zt (XE.ow (rn (n:=0))))))
def Kh:List D->Option D:=mOf ["net","rows","paper","count","first","lengths","settled"]
  (sSeq (sSet 3 (e2 dz (eV 2) (eC (.int 0))))
  (sSeq (sSet 4 (e2 dz (eV 2) (eC (.int 1))))
  (sSeq (sSet 5 (e2 dz (eV 2) (eC (.int 2))))
  (sSeq (sSet 6 (e2 dS (eV 4) (λρ=>((eV 0) ρ).bind λo=>gO 4 "most_behind" zk o [])))
  (sSeq (sIf (bOr (tb (e2 pK (eV 3) (eC (.int 1)))) (bOr (tb (e2 pK (eV 4) (eC (.int 0)))) (bOr (tb (e2 (i6 true) (eN dL (aCons (eV 5) aNil)) (eN dL (aCons (e1 (cv [4] "names") (eV 0)) aNil)))) (tb (e2 pK (eN dL (aCons (eV 1) aNil)) (e2 dS (eV 6) (eV 3))))))) (sRet (eC (.bl false))) sSkip)
  (sSeq (sIf (bOr (bNot (tb (λρ=>((aCons (eV 1) (aCons (eV 4) (aCons (e2 kd (eV 6) (eC (.int 1))) (aCons (eV 3) (aCons (eV 5) aNil))))) ρ).bind λds=>Kc (ds++[])))) (bNot (tb (λρ=>((aCons (eV 0) (aCons (eV 5) aNil)) ρ).bind λds=>uo (ds++[]))))) (sRet (eC (.bl false))) sSkip)
  (sRet (λρ=>((aCons (eV 0) (aCons (eV 1) (aCons (eV 6) (aCons (e2 kd (e2 dS (eV 6) (eV 3)) (eC (.int 1))) (aCons (eV 5) aNil))))) ρ).bind λds=>u9 (ds++[])))))))))
theorem zlj (T:Txt K mg a):cB P w K mg base eF 3 a.f_goes_on a.d_goes_on ["net","rows","paper"] (fU K a.ct [0,0,0] 0 Kh):=by
 have cJ:=w9 (P:=P) (w:=w) (base:=base) T
 have qG:=zjk (P:=P) (w:=w) (base:=base) T
 have lG:=zc2 (P:=P) (w:=w) (base:=base) T
 have nK:=zfa (P:=P) (w:=w) (base:=base) T
 refine gY (ms:=[.ow 0,.ow 0,.ow 0,.ow 0,.ow 0,.ow 0,.ow 0]) T.goes_on.fn qz λ_ _ _ _ _ _ hr=>?_
 exact(zf (eI qz.nd (XE.ow (gG (za 2 0) cM)))
  (zf (eI qz.nd (XE.ow (gG (za 2 0) cM)))
  (zf (eI qz.nd (XE.ow (gG (za 2 0) cM)))
  (zf (eI qz.nd (mZ (kE (za 4 0) (XO.sh (n:=0) (Ct (n:=0) (c0:=4) (nd:=[]) (kO:=[]) (za 0 0) T.Net.cl T.Net_most_behind.me cJ (hr.mono (by decide)) T.Net_most_behind.bd .nil (λ_ _=>.nil))))))
  (zf (vm (XW.t (sJ (yh (k:=0) uU uS (za 3 0) cM (bB _)) (sJ (yh (k:=0) uU uS (za 4 0) cM (bB _)) (sJ (yh (k:=0) (Pz hr.u64) ua (lQ T.b_len (ze (za 5 0) zj)) (lQ T.b_len (ze (zy (n:=0) (za 0 0) T.fld_names rfl) zj)) (bB _)) (xO (yh (k:=0) uU uS (lQ T.b_len (ze (za 1 0) zj)) (XO.sh (n:=0) (kE (za 6 0) (za 3 0))) (bB _))))))) (zh (zt (XE.ow (rn (n:=0))))) yj)
  (zf (vm (XW.t (sJ (qw (u0 (XO.sh (n:=0) (cK T.grows_so qG hr (ze (za 1 0) (ze (za 4 0) (ze (yw (k:=0) uP qc (za 6 0) cM) (ze (za 3 0) (ze (za 5 0) zj))))))))) (xO (qw (u0 (XO.sh (n:=0) (cK T.never_outgrown lG hr (ze (za 0 0) (ze (za 5 0) zj))))))))) (zh (zt (XE.ow (rn (n:=0))))) yj)
  (zh (zt (cK T.all_carried nK hr (ze (za 0 0) (ze (za 1 0) (ze (za 6 0) (ze (yw (k:=0) uP qc (XO.sh (n:=0) (kE (za 6 0) (za 3 0))) cM) (ze (za 5 0) zj))))))))))))))
def uq:SF:=(sIf (tb (e2 (i6 false) (λρ=>((eV 0) ρ).bind λo=>((aCons (eV 1) aNil) ρ).bind λds=>gO 4 "into" vi o (ds++[])) (λρ=>(aNil ρ).bind λds=>some (.lst ds)))) ng sSkip)
def jp:List D->Option D:=mOf ["net","going"]
  (sFor (λρ=>((aCons (eN dL (aCons (e1 (cv [4] "names") (eV 0)) aNil)) aNil) ρ).bind hV) (gV 1) uq)
theorem zes (T:Txt K mg a):cB P w K mg base eF 2 a.f_refuse_loose a.d_refuse_loose ["net"] (fU K a.ct [0] 0 jp):=by
 have fK:=J4 (P:=P) (w:=w) (base:=base) T
 refine gY (ms:=[.ow 0,.ow 0]) T.refuse_loose.fn Sg λ_ _ _ _ _ _ hr=>?_
 exact(zh (jd (ve (n:=0) T.b_range (ze (lQ T.b_len (ze (zy (n:=0) (za 0 0) T.fld_names rfl) zj)) zj)) (lh Sg.nd) (zh (vm (yh (k:=0) (uz hr.u64) ua (XO.sh (n:=0) (KB (n:=0) (c0:=4) (ns:=[0]) (nd:=[]) (kO:=[]) (za 0 0) T.Net.cl T.Net_into.me fK (hr.mono (by decide)) T.Net_into.bd .nil (λ_ _=>.nil) (ze (za 1 0) zj))) (XO.sh (n:=0) (uR (k:=0) wm)) (bB _)) (zh Kl) yj)) cn.never rfl))
def ja:SF:=(rf 4 (i2 λi j=>.int (i-j)) (eC (.int 1)))
def ur:List D->Option D:=mOf ["rows","known","count","lengths","first"]
  (sSeq (sSet 4 (eV 1))
  (sSeq (gD (bAnd (tb (e2 rJ (eV 4) (eC (.int 0)))) (tb (e2 (i6 false) (λρ=>((aCons (eV 0) (aCons (e2 kd (eV 4) (eC (.int 1))) (aCons (eV 2) aNil))) ρ).bind λds=>j6 (ds++[])) (eV 3)))) ja)
  (sRet (eV 4))))
theorem zc3 (T:Txt K mg a):cB P w K mg base eF 2 a.f_earliest_round a.d_earliest_round ["rows","known","count","lengths"] (fU K a.ct [0,0,0,0] 0 ur):=by
 have jM:=OC (P:=P) (w:=w) (base:=base) T
 refine gY (ms:=[.ow 0,.ow 0,.ow 0,.ow 0,.ow 0]) T.earliest_round.fn jh λ_ _ _ _ _ _ hr=>?_
 exact(zf (eI jh.nd (XE.ow (za 1 0)))
  (zf (Cu (XW.t (IW (yh (k:=0) BW BQ (za 4 0) cM (bB _)) (IQ (yh (k:=0) (uz hr.u64) ua (XO.sh (n:=0) (cK T.growth jM hr (ze (za 0 0) (ze (yw (k:=0) uP qc (za 4 0) cM) (ze (za 2 0) zj))))) (za 3 0) (bB _))))) (zh (Px U2 rfl jh.nd rfl (Or.inl rfl) cM)) cn.never)
  (zh (zt (XE.ow (za 4 0))))))
def jb:SF:=(sSeq (sSet 6 (e2 kd (eV 4) (eV 5)))
  (sSeq (sSet 7 (λρ=>((aCons (eV 3) (aCons (eV 6) (aCons (eV 5) aNil))) ρ).bind λds=>j6 (ds++[])))
  (sIf (tb (λρ=>((aCons (eV 0) (aCons (eV 3) (aCons (λρ=>((aCons (eV 5) (aCons (eV 6) (aCons (eV 7) aNil))) ρ).bind λds=>some (.tup ds)) aNil))) ρ).bind λds=>Kh (ds++[]))) (sRet (λρ=>((aCons (eV 5) (aCons (λρ=>((aCons (eV 3) (aCons (eV 6) (aCons (eV 5) (aCons (eV 7) aNil)))) ρ).bind λds=>ur (ds++[])) (aCons (eV 7) aNil))) ρ).bind λds=>some (.tup ds))) sSkip)))
def v9:List D->Option D:=mOf ["net","most","was","rows","spare_rounds","count","last","lengths"]
  (sSeq (sDrop (λρ=>((aCons (eV 0) aNil) ρ).bind λds=>jp (ds++[])))
  (sSeq (sSet 3 (λρ=>((aCons (eV 0) (aCons (eV 1) (aCons (eV 2) aNil))) ρ).bind λds=>BX (ds++[.non])))
  (sSeq (sSet 4 (e2 kd (eV 1) (λρ=>((eV 0) ρ).bind λo=>gO 4 "most_behind" zk o [])))
  (sSeq (sFor (λρ=>((aCons (eC (.int 1)) (aCons (e2 dS (eV 4) (eC (.int 1))) aNil)) ρ).bind nQ) (gV 5) jb)
  (sRet (eC .non))))))
theorem zfb (T:Txt K mg a):cB P w K mg base eF 5 a.f_comes_again a.d_comes_again ["net","most","was"] (fU K a.ct [0,0,0] 0 v9):=by
 have mV:=zes (P:=P) (w:=w) (base:=base) T
 have CO:=zv1 (P:=P) (w:=w) (base:=base) T
 have rD:=T.run_d1.choose_spec
 have Jb:=T.run_d2.choose_spec
 have cJ:=w9 (P:=P) (w:=w) (base:=base) T
 have jM:=OC (P:=P) (w:=w) (base:=base) T
 have se:=zlj (P:=P) (w:=w) (base:=base) T
 have lF:=zc3 (P:=P) (w:=w) (base:=base) T
 refine gY (ms:=[.ow 0,.ow 0,.ow 0,.ow 0,.ow 0,.ow 0,.ow 0,.ow 0]) T.comes_again.fn vw λ_ _ _ _ _ _ hr=>?_
 exact(zf (zsg (XO.sh (n:=0) (cK T.refuse_loose mV hr (ze (za 0 0) zj))))
  (zf (eI vw.nd (Uy (kO:=[.non]) (ns:=[0,0,0]) (nd:=[0]) CO (hr.mono (by decide)) rfl T.run.mgx T.run.fn.kp (rD).2.2 (rD).2.1 (λ_ _=>(.cons (Al.of .non) .nil)) (ze (za 0 0) (ze (za 1 0) (ze (za 2 0) zj)))))
  (zf (eI vw.nd (XE.ow (yw (k:=0) uP qc (za 1 0) (XO.sh (n:=0) (Ct (n:=0) (c0:=4) (nd:=[]) (kO:=[]) (za 0 0) T.Net.cl T.Net_most_behind.me cJ (hr.mono (by decide)) T.Net_most_behind.bd .nil (λ_ _=>.nil))))))
  (zf (jd (Ou (n:=0) T.b_range (ze cM (ze (XO.sh (n:=0) (kE (za 4 0) cM)) zj))) (lh vw.nd) (zf (eI vw.nd (XE.ow (yw (k:=0) uP qc (za 4 0) (za 5 0))))
  (zf (eI vw.nd (cK T.growth jM hr (ze (za 3 0) (ze (za 6 0) (ze (za 5 0) zj)))))
  (zh (vm (u0 (XO.sh (n:=0) (cK T.goes_on se hr (ze (za 0 0) (ze (za 3 0) (ze (XO.sh (n:=0) (qx (zu (XE.ow (za 5 0)) (zu (XE.ow (za 6 0)) (zu (XE.ow (za 7 0)) wm))))) zj)))))) (zh (zt (mZ (qx (zu (XE.ow (za 5 0)) (zu (cK T.earliest_round lF hr (ze (za 3 0) (ze (za 6 0) (ze (za 5 0) (ze (za 7 0) zj))))) (zu (XE.ow (za 7 0)) wm))))))) yj)))) cn.never rfl)
  (zh (zt (XE.ow nk)))))))
def xk:List D->Option D:=mOf ["_law_script","_law_k"]
  (sSeq (sIf (tb (e2 pK (eV 1) (eN dL (aCons (eV 0) aNil)))) (sRet (e2 dz (eV 0) (eV 1))) sSkip)
  (sRet (eC (.int 0))))
theorem Sf (T:Txt K mg a):cB P w K mg base eF 1 a.f_law_cell_at a.d_law_cell_at ["_law_script","_law_k"] (fU K a.ct [0,0] 0 xk):=by
 refine gY (ms:=[.ow 0,.ow 0]) T.law_cell_at.fn ze4 λ_ _ _ _ _ _ hr=>?_
 exact(zf (vm (yh (k:=0) uU uS (za 1 0) (lQ T.b_len (ze (za 0 0) zj)) (bB _)) (zh (zt (XE.ow (gG (za 0 0) (za 1 0))))) yj)
  (zh (zt (XE.ow cM))))
def uw:List D->Option D:=mOf ["_law_cell"]
  (sRet (eB (bAnd (tb (e2 AL (eV 0) (e2 xC (eC (.int 1)) (eC (.int 90))))) (tb (e2 (i6 false) (e2 fm (eV 0) (eC (.int 2))) (eC (.int 1)))))))
theorem Od (T:Txt K mg a):cB P w K mg base eF 1 a.f_law_is_row a.d_law_is_row ["_law_cell"] (fU K a.ct [0] 0 uw):=by
 refine gY (ms:=[.ow 0]) T.law_is_row.fn zgp λ_ _ _ _ _ _ hr=>?_
 exact(zh (zt (XE.ow (CG (tF (k:=0) P0 Pt (za 0 0) (yw (k:=0) zuv zsj cM cM) (bB _)) (BP (k:=0) (tF (k:=0) (uz hr.u64) ua (yw (k:=0) wp wq (za 0 0) cM) cM (bB _)))))))
def wu:List D->Option D:=mOf ["_law_cell","_law_k","_law_number"]
  (sSeq (sIf (bAnd (tb (λρ=>((aCons (eV 0) aNil) ρ).bind λds=>uw (ds++[]))) (tb (e2 rJ (e2 sD (eV 0) (e2 dS (eC (.int 1)) (e2 eA (eC (.int 31)) (eV 1)))) (eC (.int 0))))) (sRet (e2 fm (e2 sD (eV 0) (e2 dS (eC (.int 1)) (e2 eA (eC (.int 31)) (eV 1)))) (eC (.int 2147483648)))) sSkip)
  (sSeq (sSet 2 (e2 fm (e2 eA (e2 dS (e2 dS (eV 0) (e2 eA (eC (.int 7919)) (eV 1))) (eC (.int 1))) (eC (.int 48271))) (eC (.int 2147483647))))
  (sSeq (sSet 2 (e2 fm (e2 eA (eV 2) (e2 dS (e2 ga (eV 2) (eC (.int 1009))) (eC (.int 69621)))) (eC (.int 2147483647))))
  (sRet (e2 fm (e2 eA (eV 2) (e2 dS (e2 dS (e2 ga (eV 2) (eC (.int 2003))) (eC (.int 39373))) (eV 1))) (eC (.int 2147483629)))))))
theorem Ol (T:Txt K mg a):cB P w K mg base eF 2 a.f_law_mixed a.d_law_mixed ["_law_cell","_law_k"] (fU K a.ct [0,0] 0 wu):=by
 have fX:=Od (P:=P) (w:=w) (base:=base) T
 refine gY (ms:=[.ow 0,.ow 0,.ow 0]) T.law_mixed.fn Oh λ_ _ _ _ _ _ hr=>?_
 exact(zf (vm (XW.t (IW (u0 (XO.sh (n:=0) (cK T.law_is_row fX hr (ze (za 0 0) zj)))) (IQ (yh (k:=0) BW BQ (yw (k:=0) U4 Up (za 0 0) (XO.sh (n:=0) (kE cM (yw (k:=0) vc xz cM (za 1 0))))) cM (bB _))))) (zh (zt (XE.ow (yw (k:=0) wp wq (yw (k:=0) U4 Up (za 0 0) (XO.sh (n:=0) (kE cM (yw (k:=0) vc xz cM (za 1 0))))) cM)))) yj)
  (zf (eI Oh.nd (XE.ow (yw (k:=0) wp wq (yw (k:=0) vc xz (XO.sh (n:=0) (kE (XO.sh (n:=0) (kE (za 0 0) (yw (k:=0) vc xz cM (za 1 0)))) cM)) cM) cM)))
  (zf (eI Oh.nd (XE.ow (yw (k:=0) wp wq (yw (k:=0) vc xz (za 2 0) (XO.sh (n:=0) (kE (yw (k:=0) ux u2 (za 2 0) cM) cM))) cM)))
  (zh (zt (XE.ow (yw (k:=0) wp wq (yw (k:=0) vc xz (za 2 0) (XO.sh (n:=0) (kE (XO.sh (n:=0) (kE (yw (k:=0) ux u2 (za 2 0) cM) cM)) (za 1 0)))) cM)))))))
def ju:SF:=(oQ 3 4 (e2 fm (λρ=>((aCons (eV 0) (aCons (eV 5) aNil)) ρ).bind λds=>wu (ds++[])) (eN dL (aCons (eV 4) aNil))))
def jl:List D->Option D:=mOf ["_law_turn","_law_many","_law_going","_law_order","_law_left","_law_k"]
  (sSeq (sIf (bNot (tb (λρ=>((aCons (eV 0) aNil) ρ).bind λds=>uw (ds++[])))) (sRet (e2 fm (e2 dS (eV 2) (eV 0)) (eV 1))) sSkip)
  (sSeq (sSet 3 (λρ=>(aNil ρ).bind λds=>some (.lst ds)))
  (sSeq (sSet 4 (eN oh (aCons (eV 1) aNil)))
  (sSeq (sFor (λρ=>((aCons (eV 1) aNil) ρ).bind hV) (gV 5) ju)
  (sRet (e2 uA (eV 3) (eV 2)))))))
theorem zjl (T:Txt K mg a):cB P w K mg base eF 3 a.f_law_rank a.d_law_rank ["_law_turn","_law_many","_law_going"] (fU K a.ct [0,0,0] 0 jl):=by
 have fX:=Od (P:=P) (w:=w) (base:=base) T
 have fO:=Ol (P:=P) (w:=w) (base:=base) T
 refine gY (ms:=[.ow 0,.ow 0,.ow 0,.ow 1,.ow 1,.ow 0]) T.law_rank.fn J2 λ_ _ _ _ _ _ hr=>?_
 exact(zf (vm (qw (u0 (XO.sh (n:=0) (cK T.law_is_row fX hr (ze (za 0 0) zj))))) (zh (zt (XE.ow (yw (k:=0) wp wq (XO.sh (n:=0) (kE (za 2 0) (za 0 0))) (za 1 0))))) yj)
  (zf (eI J2.nd (uR (k:=0) wm))
  (zf (eI J2.nd (zs9 rfl rfl T.b_list rfl T.b_range (ze (za 1 0) zj)))
  (zf (jd (ve (n:=0) T.b_range (ze (za 1 0) zj)) (lh J2.nd) (zh (zni 3 4 rfl rfl (by decide) (yw (k:=0) wp wq (XO.sh (n:=0) (cK T.law_mixed fO hr (ze (za 0 0) (ze (za 5 0) zj)))) (lQ T.b_len (ze (za 4 1) zj))))) cn.never rfl)
  (zh (zt (XE.ow (zpv (k:=0) (za 3 1) (za 2 0)))))))))
def jc:SF:=(sSeq (sSet 8 (e2 fm (e2 ga (eV 4) (eC (.int 1000))) (eC (.int 10))))
  (sSeq (sIf (tb (e2 (i6 false) (e2 fm (eV 0) (eC (.int 8))) (eC (.int 7)))) (sSet 8 (e2 fm (e2 ga (eV 0) (eC (.int 8))) (e2 dS (e2 uJ (eC (.int 10)) (eC (.int 9))) (eC (.int 1))))) sSkip)
  (sSeq (sIf (tb (λρ=>((aCons (eV 0) aNil) ρ).bind λds=>uw (ds++[]))) (sSet 8 (e2 fm (λρ=>((aCons (eV 0) (aCons (eC (.int 30)) aNil)) ρ).bind λds=>wu (ds++[])) (e2 dS (e2 uJ (eC (.int 10)) (eC (.int 9))) (eC (.int 1))))) sSkip)
  (sRet (λρ=>((aCons (eV 5) (aCons (eV 6) (aCons (eV 8) (aCons (eV 7) aNil)))) ρ).bind λds=>some (.tup ds))))))
def vb:List D->Option D:=mOf ["_law_cell","_law_many","_law_turn","_law_k","_law_number","_law_start","_law_goal","_law_behind","_law_time"]
  (sSeq (sSet 4 (λρ=>((aCons (eV 0) (aCons (eV 3) aNil)) ρ).bind λds=>wu (ds++[])))
  (sSeq (sSet 5 (e2 fm (eV 4) (eV 1)))
  (sSeq (sSet 6 (eV 3))
  (sSeq (sIf (tb (e2 AL (eV 3) (eV 1))) (sSet 6 (e2 fm (e2 ga (eV 4) (eC (.int 8))) (eV 1))) sSkip)
  (sSeq (sSet 7 (e2 fm (e2 ga (eV 4) (eC (.int 64))) (eC (.int 5))))
  (sSeq (sIf (bAnd (tb (e2 (i6 false) (eV 7) (eC (.int 0)))) (tb (e2 AL (λρ=>((aCons (eV 2) (aCons (eV 1) (aCons (eV 5) aNil))) ρ).bind λds=>jl (ds++[])) (λρ=>((aCons (eV 2) (aCons (eV 1) (aCons (eV 6) aNil))) ρ).bind λds=>jl (ds++[]))))) (sSet 7 (e2 dS (eC (.int 1)) (e2 fm (e2 ga (eV 4) (eC (.int 320))) (eC (.int 2))))) sSkip)
  jc))))))
theorem zij (T:Txt K mg a):cB P w K mg base eF 4 a.f_law_arrow a.d_law_arrow ["_law_cell","_law_many","_law_turn","_law_k"] (fU K a.ct [0,0,0,0] 0 vb):=by
 have fO:=Ol (P:=P) (w:=w) (base:=base) T
 have mU:=zjl (P:=P) (w:=w) (base:=base) T
 have fX:=Od (P:=P) (w:=w) (base:=base) T
 refine gY (ms:=[.ow 0,.ow 0,.ow 0,.ow 0,.ow 0,.ow 0,.ow 0,.ow 0,.ow 0]) T.law_arrow.fn wo λ_ _ _ _ _ _ hr=>?_
 exact(zf (eI wo.nd (cK T.law_mixed fO hr (ze (za 0 0) (ze (za 3 0) zj))))
  (zf (eI wo.nd (XE.ow (yw (k:=0) wp wq (za 4 0) (za 1 0))))
  (zf (eI wo.nd (XE.ow (za 3 0)))
  (zf (vm (yh (k:=0) P0 Pt (za 3 0) (za 1 0) (bB _)) (zh (eI wo.nd (XE.ow (yw (k:=0) wp wq (yw (k:=0) ux u2 (za 4 0) cM) (za 1 0))))) yj)
  (zf (eI wo.nd (XE.ow (yw (k:=0) wp wq (yw (k:=0) ux u2 (za 4 0) cM) cM)))
  (zf (vm (XW.t (IW (yh (k:=0) (uz hr.u64) ua (za 7 0) cM (bB _)) (IQ (yh (k:=0) P0 Pt (XO.sh (n:=0) (cK T.law_rank mU hr (ze (za 2 0) (ze (za 1 0) (ze (za 5 0) zj))))) (XO.sh (n:=0) (cK T.law_rank mU hr (ze (za 2 0) (ze (za 1 0) (ze (za 6 0) zj))))) (bB _))))) (zh (eI wo.nd (mZ (kE cM (yw (k:=0) wp wq (yw (k:=0) ux u2 (za 4 0) cM) cM))))) yj)
  (zf (eI wo.nd (XE.ow (yw (k:=0) wp wq (yw (k:=0) ux u2 (za 4 0) cM) cM)))
  (zf (vm (yh (k:=0) (uz hr.u64) ua (yw (k:=0) wp wq (za 0 0) cM) cM (bB _)) (zh (eI wo.nd (XE.ow (yw (k:=0) wp wq (yw (k:=0) ux u2 (za 0 0) cM) (XO.sh (n:=0) (kE (yw (k:=0) U3 Uz cM cM) cM)))))) yj)
  (zf (vm (u0 (XO.sh (n:=0) (cK T.law_is_row fX hr (ze (za 0 0) zj)))) (zh (eI wo.nd (XE.ow (yw (k:=0) wp wq (XO.sh (n:=0) (cK T.law_mixed fO hr (ze (za 0 0) (ze cM zj)))) (XO.sh (n:=0) (kE (yw (k:=0) U3 Uz cM cM) cM)))))) yj)
  (zh (zt (mZ (qx (zu (XE.ow (za 5 0)) (zu (XE.ow (za 6 0)) (zu (XE.ow (za 8 0)) (zu (XE.ow (za 7 0)) wm)))))))))))))))))
def Ke:List D->Option D:=mOf ["_law_arrow_here","_law_kind","_law_start","_law_goal","_law_time","_law_behind"]
  (sSeq (sAsg (gT (gsCons (gV 2) (gsCons (gV 3) (gsCons (gV 4) (gsCons (gV 5) gsNil))))) (eV 0))
  (sSeq (sIf (bAnd (tb (e2 (i6 false) (eV 5) (eC (.int 0)))) (tb (e2 (i6 false) (e2 fm (eV 1) (eC (.int 2))) (eC (.int 0))))) (sRet (λρ=>((aCons (eV 2) (aCons (eV 3) (aCons (eV 4) aNil))) ρ).bind λds=>Oa 1 (ds++[]))) sSkip)
  (sSeq (sIf (bAnd (tb (e2 rJ (eV 5) (eC (.int 0)))) (tb (e2 (i6 false) (e2 fm (eV 1) (eC (.int 2))) (eC (.int 0))))) (sRet (λρ=>((aCons (eV 2) (aCons (eV 3) (aCons (eV 4) (aCons (eV 5) aNil)))) ρ).bind λds=>Oc 3 (ds++[]))) sSkip)
  (sRet (λρ=>((aCons (eV 2) (aCons (eV 3) (aCons (eV 4) (aCons (eV 5) aNil)))) ρ).bind λds=>Ob 2 (ds++[]))))))
theorem zjm (T:Txt K mg a):cB P w K mg base eF 4 a.f_law_made a.d_law_made ["_law_arrow_here","_law_kind"] (fU K a.ct [0,0] 0 Ke):=by
 have nI:=ze5 (P:=P) (w:=w) (base:=base) T
 have nH:=ze7 (P:=P) (w:=w) (base:=base) T
 have sU:=T.Back___init_d1.choose_spec
 have nJ:=ze6 (P:=P) (w:=w) (base:=base) T
 have sV:=T.Wait___init_d1.choose_spec
 refine gY (ms:=[.ow 0,.ow 0,.ow 0,.ow 0,.ow 0,.ow 0]) T.law_made.fn qf λ_ _ _ _ _ _ hr=>?_
 exact(zf (Vc (za 0 0) (KS (n:=0) rfl (ue (lh qf.nd) (ue (lh qf.nd) (ue (lh qf.nd) (ue (lh qf.nd) KJ))))))
  (zf (vm (XW.t (IW (yh (k:=0) (uz hr.u64) ua (za 5 0) cM (bB _)) (IQ (yh (k:=0) (uz hr.u64) ua (yw (k:=0) wp wq (za 1 0) cM) cM (bB _))))) (zh (zt (mZ (KN (c0:=1) (kO:=[]) (ns:=[0,0,0]) (nd:=[]) ⟨T.Ride.mks,T.Ride___init.me.at_,T.Ride___init.me.fn,T.Ride.kp⟩ (by decide) nI (hr.mono (by decide)) rfl T.Ride.mgx T.Ride___init.bd .nil (λ_ _=>.nil) (ze (za 2 0) (ze (za 3 0) (ze (za 4 0) zj))))))) yj)
  (zf (vm (XW.t (IW (yh (k:=0) BW BQ (za 5 0) cM (bB _)) (IQ (yh (k:=0) (uz hr.u64) ua (yw (k:=0) wp wq (za 1 0) cM) cM (bB _))))) (zh (zt (mZ (KN (c0:=3) (kO:=[]) (ns:=[0,0,0,0]) (nd:=[]) ⟨T.Back.mks,T.Back___init.me.at_,T.Back___init.me.fn,T.Back.kp⟩ (by decide) nH (hr.mono (by decide)) rfl T.Back.mgx T.Back___init.bd .nil (λ_ _=>.nil) (ze (za 2 0) (ze (za 3 0) (ze (za 4 0) (ze (za 5 0) zj)))))))) yj)
  (zh (zt (mZ (KN (c0:=2) (kO:=[]) (ns:=[0,0,0,0]) (nd:=[]) ⟨T.Wait.mks,T.Wait___init.me.at_,T.Wait___init.me.fn,T.Wait.kp⟩ (by decide) nJ (hr.mono (by decide)) rfl T.Wait.mgx T.Wait___init.bd .nil (λ_ _=>.nil) (ze (za 2 0) (ze (za 3 0) (ze (za 4 0) (ze (za 5 0) zj)))))))))))
def SJ:EF:=(dI (λρ=>((aCons (eV 1) aNil) ρ).bind hV) 1 [2,0] (gV 0) eU (e2 fm (λρ=>((aCons (eV 1) (aCons (e2 dS (e2 eA (eC (.int 20)) (eV 2)) (eV 0)) aNil)) ρ).bind λds=>wu (ds++[])) (eC (.int 41))))
def SK:EF:=(dI (λρ=>((aCons (eV 2) aNil) ρ).bind hV) 1 [1,3] (gV 0) eU SJ)
def IL:List D->Option D:=mOf ["_law_script","_law_many","_law_back","_law_cell"]
  (sSeq (sSet 3 (λρ=>((aCons (eV 0) (aCons (eC (.int 2)) aNil)) ρ).bind λds=>xk (ds++[])))
  (sSeq (sIf (tb (e2 (i6 false) (e2 fm (eV 3) (eC (.int 4))) (eC (.int 0)))) (sRet (eC .non)) sSkip)
  (sRet SK)))
theorem zlk (T:Txt K mg a):cB P w K mg base eF 3 a.f_law_was a.d_law_was ["_law_script","_law_many","_law_back"] (fU K a.ct [0,0,0] 0 IL):=by
 have el:=Sf (P:=P) (w:=w) (base:=base) T
 have fO:=Ol (P:=P) (w:=w) (base:=base) T
 refine gY (ms:=[.ow 0,.ow 0,.ow 0,.ow 0]) T.law_was.fn SW λ_ _ _ _ _ _ hr=>?_
 exact(zf (eI SW.nd (cK T.law_cell_at el hr (ze (za 0 0) (ze cM zj))))
  (zf (vm (yh (k:=0) (uz hr.u64) ua (yw (k:=0) wp wq (za 3 0) cM) cM (bB _)) (zh (zt (XE.ow nk))) yj)
  (zh (zt (mZ (pd (N:=["_law_k","_law_many","_law_cell"]) (om:=[.ow 0]) (cap:=[1,3]) (own:=1) (XI.cc (ve (n:=0) T.b_range (ze (za 2 0) zj))) (λ_ _ _ _ _=>(kW (show bM (["_law_k","_law_many","_law_cell"]:List aU)from by decide +kernel))) (λ_ _ _ _ _=>vd) (λ_ _ _ _ _=>(mZ (pd (N:=["_law_going","_law_cell","_law_k"]) (om:=[.ow 0]) (cap:=[2,0]) (own:=1) (XI.cc (ve (n:=0) T.b_range (ze (za 1 0) zj))) (λ_ _ _ _ _=>(kW (show bM (["_law_going","_law_cell","_law_k"]:List aU)from by decide +kernel))) (λ_ _ _ _ _=>vd) (λ_ _ _ _ _=>(XE.ow (yw (k:=0) wp wq (XO.sh (n:=0) (cK T.law_mixed fO hr (ze (za 1 0) (ze (XO.sh (n:=0) (kE (yw (k:=0) vc xz cM (za 2 0)) (za 0 0))) zj)))) cM))))))))))))
def Pf:SF:=(sSeq (sSet 12 (λρ=>((aCons (eV 5) (aCons (eV 11) aNil)) ρ).bind λds=>IZ (ds++[])))
  (sIf (bOr (tb (e2 (o7 false) (eV 12) (eC .non))) (tb (e2 (i6 true) (e2 eA (e2 dz (eV 10) (eV 11)) (e2 dz (e2 dz (eV 12) (eC (.int 0))) (eC (.int 1)))) (e2 eA (eV 8) (e2 dz (e2 dz (eV 12) (eC (.int 0))) (eC (.int 0))))))) (sRet (eC (.bl false))) sSkip))
def UL:EF:=(dI (lsD (eV 4)) 1 [] (gV 0) eU (e2 dz (eV 0) (eC (.int 3))))
def UM:EF:=(dI (lsD (eV 4)) 1 [] (gV 0) eU (λρ=>((aCons (eV 0) (aCons (e2 dz (eV 0) (eC (.int 0))) aNil)) ρ).bind λds=>Ke (ds++[])))
def UN:EF:=(dI (λρ=>((aCons (eV 1) aNil) ρ).bind hV) 1 [] (gV 0) eU (e2 dS (eC (.str "a")) (eN sI (aCons (eV 0) aNil))))
def UO:EF:=(dI (λρ=>((aCons (eV 2) aNil) ρ).bind hV) 1 [0,1,3] (gV 0) eU (λρ=>((aCons (λρ=>((aCons (eV 1) (aCons (e2 dS (eC (.int 4)) (eV 0)) aNil)) ρ).bind λds=>xk (ds++[])) (aCons (eV 2) (aCons (eV 3) (aCons (eV 0) aNil)))) ρ).bind λds=>vb (ds++[])))
def K6:List D->Option D:=mOf ["_law_script","_law_many","_law_total","_law_turn","_law_arrows","_law_net","_law_was_here","_law_found","_law_count","_law_start","_law_lengths","_law_going","_law_paper"]
  (sSeq (sSet 1 (e2 dS (eC (.int 1)) (e2 fm (λρ=>((aCons (eV 0) (aCons (eC (.int 0)) aNil)) ρ).bind λds=>xk (ds++[])) (eC (.int 6)))))
  (sSeq (sSet 2 (e2 dS (eV 1) (e2 fm (e2 ga (λρ=>((aCons (eV 0) (aCons (eC (.int 0)) aNil)) ρ).bind λds=>xk (ds++[])) (eC (.int 6))) (eC (.int 11)))))
  (sSeq (sSet 3 (e2 ga (λρ=>((aCons (eV 0) (aCons (eC (.int 0)) aNil)) ρ).bind λds=>xk (ds++[])) (eC (.int 66))))
  (sSeq (sSet 4 UO)
  (sSeq (sSet 5 (λρ=>((aCons UN (aCons UM aNil)) ρ).bind λds=>ql 4 (ds++[])))
  (sSeq (sSet 6 (λρ=>((aCons (eV 0) (aCons (eV 1) (aCons (eN pL (aCons (e2 dS (λρ=>((aCons (eC (.int 1)) aNil) ρ).bind λds=>some (.lst ds)) UL) aNil)) aNil))) ρ).bind λds=>IL (ds++[])))
  (sSeq (sSet 7 (λρ=>((aCons (eV 5) (aCons (e2 dS (eC (.int 60)) (e2 fm (λρ=>((aCons (eV 0) (aCons (eC (.int 1)) aNil)) ρ).bind λds=>xk (ds++[])) (eC (.int 141)))) (aCons (eV 6) aNil))) ρ).bind λds=>v9 (ds++[])))
  (sSeq (sIf (tb (e2 (o7 false) (eV 7) (eC .non))) (sRet (eC (.bl true))) sSkip)
  (sSeq (sAsg (gT (gsCons (gV 8) (gsCons (gV 9) (gsCons (gV 10) gsNil)))) (eV 7))
  (sSeq (sFor (λρ=>((aCons (eV 1) aNil) ρ).bind hV) (gV 11) Pf)
  (sRet (e2 (i6 false) (eN dL (aCons (eV 10) aNil)) (eV 1)))))))))))))
theorem zv2 (T:Txt K mg a):cB P w K mg base eF 8 a.f_law a.d_law ["_law_script"] (fU K a.ct [0] 0 K6):=by
 have el:=Sf (P:=P) (w:=w) (base:=base) T
 have pC:=zij (P:=P) (w:=w) (base:=base) T
 have oE:=zgr (P:=P) (w:=w) (base:=base) T
 have qI:=zjm (P:=P) (w:=w) (base:=base) T
 have sg:=zlk (P:=P) (w:=w) (base:=base) T
 have nL:=zfb (P:=P) (w:=w) (base:=base) T
 have sW:=T.comes_again_d1.choose_spec
 have zD:=ztl (P:=P) (w:=w) (base:=base) T
 refine gY (ms:=[.ow 0,.ow 0,.ow 0,.ow 0,.ow 0,.ow 0,.ow 0,.ow 0,.ow 0,.ow 0,.ow 0,.ow 0,.ow 0]) T.law.fn q0 λ_ _ _ _ _ _ hr=>?_
 exact(zf (eI q0.nd (mZ (kE cM (yw (k:=0) wp wq (XO.sh (n:=0) (cK T.law_cell_at el hr (ze (za 0 0) (ze cM zj)))) cM))))
  (zf (eI q0.nd (mZ (kE (za 1 0) (yw (k:=0) wp wq (yw (k:=0) ux u2 (XO.sh (n:=0) (cK T.law_cell_at el hr (ze (za 0 0) (ze cM zj)))) cM) cM))))
  (zf (eI q0.nd (XE.ow (yw (k:=0) ux u2 (XO.sh (n:=0) (cK T.law_cell_at el hr (ze (za 0 0) (ze cM zj)))) cM)))
  (zf (jf (k:=0) (N:=["_law_k","_law_script","_law_many","_law_turn"]) (om:=[.ow 0]) (cap:=[0,1,3]) (own:=1) rfl q0.nd rfl (Or.inl rfl) (yZ (by rfl)) rfl rfl (by decide) (XI.cc (ve (n:=0) T.b_range (ze (za 2 0) zj))) (λ_ _ _ _ _=>(kW (show bM (["_law_k","_law_script","_law_many","_law_turn"]:List aU)from by decide +kernel))) (λ_ _ _ _ _=>vd) (λ_ _ _ _ _=>(cK T.law_arrow pC hr (ze (XO.sh (n:=0) (cK T.law_cell_at el hr (ze (za 1 0) (ze (XO.sh (n:=0) (kE cM (za 0 0))) zj)))) (ze (za 2 0) (ze (za 3 0) (ze (za 0 0) zj)))))))
  (zf (eI q0.nd (mZ (KN (c0:=4) (kO:=[]) (ns:=[0,0]) (nd:=[]) ⟨T.Net.mks,T.Net___init.me.at_,T.Net___init.me.fn,T.Net.kp⟩ (by decide) oE (hr.mono (by decide)) rfl T.Net.mgx T.Net___init.bd .nil (λ_ _=>.nil) (ze (XO.sh (n:=0) (pd (N:=["_law_k"]) (om:=[.ow 0]) (cap:=[]) (own:=1) (XI.cc (ve (n:=0) T.b_range (ze (za 1 0) zj))) (λ_ _ _ _ _=>(kW (show bM (["_law_k"]:List aU)from by decide +kernel))) (λ_ _ _ _ _=>vd) (λ_ _ _ _ _=>(mZ (kE (yY (n:=0)) (zmy (k:=0) zhc zs5 rfl T.b_str U6 (ze (za 0 0) zj))))))) (ze (XO.sh (n:=0) (pd (N:=["_law_arrow_here"]) (om:=[.ow 0]) (cap:=[]) (own:=1) (u3 (n:=0) (za 4 0)) (λ_ _ _ _ _=>(kW (show bM (["_law_arrow_here"]:List aU)from by decide +kernel))) (λ_ _ _ _ _=>vd) (λ_ _ _ _ _=>(cK T.law_made qI hr (ze (za 0 0) (ze (gG (za 0 0) cM) zj)))))) zj)))))
  (zf (eI q0.nd (cK T.law_was sg hr (ze (za 0 0) (ze (za 1 0) (ze (u1 (k:=0) (S6 rfl) UE rfl T.b_max PB (ze (XO.sh (n:=0) (kE (XO.sh (n:=0) (uR (k:=0) (zu (XE.ow cM) wm))) (XO.sh (n:=0) (pd (N:=["_law_arrow_here"]) (om:=[.ow 0]) (cap:=[]) (own:=1) (u3 (n:=0) (za 4 0)) (λ_ _ _ _ _=>(kW (show bM (["_law_arrow_here"]:List aU)from by decide +kernel))) (λ_ _ _ _ _=>vd) (λ_ _ _ _ _=>(XE.ow (gG (za 0 0) cM))))))) zj)) zj)))))
  (zf (eI q0.nd (cK T.comes_again nL hr (ze (za 5 0) (ze (XO.sh (n:=0) (kE cM (yw (k:=0) wp wq (XO.sh (n:=0) (cK T.law_cell_at el hr (ze (za 0 0) (ze cM zj)))) cM))) (ze (za 6 0) zj)))))
  (zf (vm (yh (k:=0) tH tG (za 7 0) nk (bB _)) (zh (zt (XE.ow (rn (n:=0))))) yj)
  (zf (Vc (za 7 0) (KS (n:=0) rfl (ue (lh q0.nd) (ue (lh q0.nd) (ue (lh q0.nd) KJ)))))
  (zf (jd (ve (n:=0) T.b_range (ze (za 1 0) zj)) (lh q0.nd) (zf (eI q0.nd (cK T.rate zD hr (ze (za 5 0) (ze (za 11 0) zj))))
  (zh (vm (XW.t (sJ (yh (k:=0) tH tG (za 12 0) nk (bB _)) (xO (yh (k:=0) (Pz hr.u64) ua (yw (k:=0) vc xz (gG (za 10 0) (za 11 0)) (gG (gG (za 12 0) cM) cM)) (yw (k:=0) vc xz (za 8 0) (gG (gG (za 12 0) cM) cM)) (bB _))))) (zh (zt (XE.ow (rn (n:=0))))) yj))) cn.never rfl)
  (zh (zt (XE.ow (tF (k:=0) (uz hr.u64) ua (lQ T.b_len (ze (za 10 0) zj)) (za 1 0) (bB _)))))))))))))))
end
local macro_rules| `(tactic|walk_at "mir")=>`(tactic|simp -implicitDefEqProofs [mOf,startD,sSeq,sIf,sSet,sRet,sRetN,sDrop,sPar,sAsg,sApp,sFor,lsD,zs2,sSkip,eV,eC,e1,e2,eN,aNil,aCons,pNo,pInt,zbr,tb,zvo,bNot,bAnd,bOr,eB,eIf,gV,gT,gsCons,gsNil,zpi,zpk,zsy,zsz,zi5,zs0,jm,zpm,zpl,zpn,zs1,zvn,D.isN,D.isB,zeh,zvp,zeg,zbq,zcg,zfg,zpg,zph,zkd,zbr,zm9,zna,sFz,zp1,zp2, *])
def cC (n:Nat)(f:Nat->Int):List D:=(ao n).map λg=>D.int (f g)
theorem UP (n:Nat)(f:Nat->Int):(cC n f).length=n:=by simp[cC]
theorem zev {n:Nat}(f:Nat->Int){g:Nat}(h:g<n):atI (cC n f) (g:Int)=some (.int (f g)):=by
 refine jv ?_
 simp[cC,h]
theorem UA {n:Nat}(f:Nat->Int){g:Nat}(h:g<n)(v:Int):kT (cC n f) (g:Int) (.int v)=some (cC n λx=>if x=g then v else f x):=by
 unfold kT
 have hx:ixN (cC n f).length (g:Int)=some g:=by
  unfold ixN
  rw[UP]
  rw[if_pos (by omega),if_pos (by omega)]
  simp
 rw[hx]
 simp only[bL,Option.some.injEq]
 apply fD
 ·simp[cC]
 ·intro i h1 h2
  simp[cC,mr]
  by_cases hi:g=i
  ·subst hi;simp
  ·rw[if_neg hi,if_neg (λz=>hi z.symm)]
theorem UB {i:Nat}{fj f:EF}{gi:Int->Int->Int}{ρ:L3.Env}{n g:Nat}{w:Nat->Int}{y:Int}(h1:(ρ[i]?).join=some (.lst (cC n w)))(h2:fj ρ=some (.int (g:Int)))(h3:f ρ=some (.int y))(hg:g<n) :
  pM i fj gi f ρ=some (.nx (ρ.set i (some (.lst (cC n λx=>if x=g then gi (w g) y else w x))))):=by
 unfold pM
 have:eV i ρ=some (.lst (cC n w)):=h1
 rw[this,h2,h3]
 simp only[bL,zev w hg,UA w hg]
def aD (p:List Nat):List D:=p.map λ(x:Nat)=>D.int (x:Int)
theorem BS {f:EF}{r:L3.Env}{n:Nat}(h:f r=some (.int (n:Int)))(hn:n<=1000000):((aCons f aNil) r).bind hV=some ((ao n).map λ(t:Nat)=>D.int (t:Int)):=by
 have e:(aCons f aNil) r=some [.int (n:Int)]:=by unfold aCons;rw[h];rfl
 rw[e,bL,BM (by omega) (by omega)]
 unfold fL
 simp
theorem Cz {α:Type}{fi:L3.Env->Option (List D)}{own:Nat}{cap:List Nat}{g:D->L3.Env->Option L3.Env}{p:BF}{f:EF}{r:L3.Env}(enc:α->D)(q:α->Bool)(h:α->D)(xs:List α)(hi:fi r=some (xs.map enc))(hl:xs.length<=16777216)
  (st:∀x∈xs,∃ρ1,g (enc x) (aC own none++dH r cap)=some ρ1/\p ρ1=some (q x)/\(q x=true->f ρ1=some (h x))):dI fi own cap g p f r=some (.lst ((xs.filter q).map h)):=by
 unfold dI
 rw[hi]
 simp only[bL,aB]
 rw[if_pos hl,S5 enc q h xs st]
 rfl
theorem UC {n i:Nat}(h:i<n):ixN n (i:Int)=some i:=by
 unfold ixN
 rw[if_pos (by omega),if_pos (by omega)]
 simp
theorem wv {α:Type}{fi:L3.Env->Option (List D)}{own:Nat}{cap:List Nat}{g:D->L3.Env->Option L3.Env}{f:EF}{r:L3.Env}(enc:α->D)(h:α->D)(xs:List α)(hi:fi r=some (xs.map enc))(hl:xs.length<=16777216)
  (st:∀x∈xs,∃ρ1,g (enc x) (aC own none++dH r cap)=some ρ1/\f ρ1=some (h x)):dI fi own cap g eU f r=some (.lst (xs.map h)):=by
 have:=Cz (p:=eU) enc (λ_=>true) h xs hi hl λx hx=>by
  obtain⟨ρ1,h1,h2⟩:=st x hx
  exact⟨ρ1,h1,rfl,λ_=>h2⟩
 rw[this,List.filter_eq_self.mpr λ_ _=>rfl]
theorem Kv {α:Type}(enc:α->D):∀(as:List α) (k:Nat),eK k (as.map enc)=(as.zipIdx k).map λ(p:α×Nat)=>D.tup [.int (p.2:Int),enc p.1]
 |[],_=>rfl
 |a::as,k=>by
  show _::eK (k+1) (as.map enc)=_::_
  rw[Kv enc as (k+1)]
theorem K1 {α:Type}{as:List α}{p:α×Nat}(h:p∈as.zipIdx):as[p.2]?=some p.1:=gZ.mp h
theorem Kf {α:Type}(q:α->Bool):∀(as:List α) (k:Nat),((as.zipIdx k).filter λp=>q p.1).map (·.1)=as.filter q
 |[],_=>rfl
 |a::as,k=>by
  rw[List.zipIdx_cons,tJ,tJ]
  cases h:q a<;>simp[h,Kf q as (k+1)]
inductive Kd where
 |ride|wait|back
deriving DecidableEq
structure bY where
 c:Kd
 s:Nat
 g:Nat
 t:Int
 b:Nat
deriving DecidableEq
namespace Kahn
def cnt (W:List bY)(P:List Nat)(g:Nat):Nat:=W.countP λa=>decide (a.g=g/\a.s∉P)
structure Ok (W:List bY)(many:Nat)(p:List Nat):Prop where
 nd:p.Nodup
 lt:∀x∈p,x<many
 ord:∀(i x:Nat),p[i]?=some x->∀a∈W,a.g=x->a.s∈p.take i
theorem Ok.snoc {W:List bY}{many:Nat}{p:List Nat}{x:Nat}(h:Ok W many p)(hx:x∉p)(hl:x<many)(ho:∀a∈W,a.g=x->a.s∈p):Ok W many (p++[x]) where
 nd:=by
  rw[bq]
  exact⟨h.nd,by simp,λa ha b hb e=>by simp at hb;subst hb;subst e;exact hx ha⟩
 lt:=λy hy=>by
  rcases bc.mp hy with hy|hy
  ·exact h.lt y hy
  ·simp at hy;subst hy;exact hl
 ord:=λi y hy a ha e=>by
  by_cases hi:i<p.length
  ·rw[ck hi]at hy
   rw[gU (by omega)]
   exact h.ord i y hy a ha e
  ·rw[fv (by omega)]at hy
   have M6:i-p.length=0:=by
    cases hq:i-p.length with
    |zero=>rfl
    |succ k=>rw[hq]at hy;simp at hy
   rw[M6]at hy
   simp at hy
   subst hy
   have:i=p.length:=by omega
   rw[this,uX]
   ·exact ho a ha e
   ·rfl
def stp (here:Nat)(S:(Nat->Int)×List Nat)(a:bY):(Nat->Int)×List Nat :=
 if a.s=here then
  let f':Nat->Int:=λx=>if x=a.g then S.1 a.g-1 else S.1 x
  (f',if f' a.g=0 then S.2++[a.g]else S.2)
 else S
structure In (W:List bY)(many:Nat)(P:List Nat)(here:Nat)(pre:List bY)(S:(Nat->Int)×List Nat):Prop where
 ok:Ok W many S.2
 f:∀g,S.1 g=(cnt W P g:Int)-(pre.countP λa=>decide (a.g=g/\a.s=here):Nat)
 z:∀g,g<many->(g∈S.2↔S.1 g=0)
 sub:∀x,(x∈P\/x=here)->x∈S.2
theorem zv3 {W pre post:List bY}{P:List Nat}{here:Nat}{a:bY}(e:W=pre++a::post)(hP:here∉P)(ha:a.s=here):(pre.countP λx=>decide (x.g=a.g/\x.s=here))+1<=cnt W P a.g:=by
 unfold cnt
 rw[e,iw,gI]
 have h1:(pre.countP λx=>decide (x.g=a.g/\x.s=here))<=pre.countP λx=>decide (x.g=a.g/\x.s∉P):=by
  apply List.countP_mono_left
  intro x _ hx
  simp at hx ⊢
  exact⟨hx.1,by rw[hx.2];exact hP⟩
 have h2:(decide (a.g=a.g/\a.s∉P))=true:=by simp[ha,hP]
 rw[h2]
 simp only[if_true]
 omega
theorem In.step {W pre post:List bY}{many:Nat}{P:List Nat}{here:Nat}{a:bY}{S:(Nat->Int)×List Nat}(h:In W many P here pre S)(e:W=pre++a::post)(hP:here∉P)(hl:a.g<many):In W many P here (pre++[a]) (stp here S a):=by
 by_cases ha:a.s=here
 ·have XQ:=zv3 e hP ha
  have hf:∀g,(if g=a.g then S.1 a.g-1 else S.1 g)=(cnt W P g:Int)-((pre++[a]).countP λx=>decide (x.g=g/\x.s=here):Nat):=λg=>by
   rw[iw,pR]
   by_cases hg:g=a.g
   ·subst hg
    rw[if_pos rfl,h.f]
    have:decide (a.g=a.g/\a.s=here)=true:=by simp[ha]
    rw[this]
    simp only[if_true]
    omega
   ·rw[if_neg hg,h.f]
    have:decide (a.g=g/\a.s=here)=false:=by simp;intro z;exact absurd z.symm hg
    rw[this]
    simp
  have mN:S.1 a.g≠0:=by rw[h.f];omega
  have sx:a.g∉S.2:=λz=>mN ((h.z a.g hl).mp z)
  by_cases h0:S.1 a.g-1=0
  ·have es:stp here S a=(λx=>if x=a.g then S.1 a.g-1 else S.1 x,S.2++[a.g]):=by unfold stp;simp[ha,h0]
   rw[es]
   refine⟨h.ok.snoc sx hl λb hb eb=>?_,hf,λg hg=>?_,λx hx=>bm _ (h.sub x hx)⟩
   ·
    refine h.sub _ (Classical.byContradiction λhc=>?_)
    have FB:b.s∉P:=λz=>hc (.inl z)
    have AU:b.s≠here:=λz=>hc (.inr z)
    have h1:cnt W P a.g=(pre.countP λx=>decide (x.g=a.g/\x.s=here))+1:=by
     have:=h.f a.g
     omega
    have h2:(W.countP λx=>decide (x.g=a.g/\x.s=here))+(W.countP λx=>decide (x.g=a.g/\x.s∉P/\x.s≠here))<=cnt W P a.g:=by
     have:cnt W P a.g=(W.countP λx=>decide (x.g=a.g/\x.s=here))+(W.countP λx=>decide (x.g=a.g/\x.s∉P/\x.s≠here)):=by
      unfold cnt
      clear h1 hc FB AU eb hb h0 hf XQ e h
      induction W with
      |nil=>rfl
      |cons x W ih=>
       simp only[gI]
       rw[ih]
       by_cases q1:x.g=a.g<;>by_cases q2:x.s=here<;>by_cases q3:x.s∈P<;>simp_all<;>omega
     omega
    have h3:(pre.countP λx=>decide (x.g=a.g/\x.s=here))+1<=W.countP λx=>decide (x.g=a.g/\x.s=here):=by
     rw[e,iw,gI]
     have:decide (a.g=a.g/\a.s=here)=true:=by simp[ha]
     rw[this]
     simp only[if_true]
     omega
    have h4:0<W.countP λx=>decide (x.g=a.g/\x.s∉P/\x.s≠here):=by
     rw[List.countP_pos_iff]
     exact⟨b,hb,by simp[eb,FB,AU]⟩
    omega
   ·rw[bc,az]
    by_cases o6:g=a.g
    ·subst o6;simp[h0]
    ·dsimp only;rw[if_neg o6,h.z g hg];simp[o6]
  ·have es:stp here S a=(λx=>if x=a.g then S.1 a.g-1 else S.1 x,S.2):=by unfold stp;simp[ha,h0]
   rw[es]
   refine⟨h.ok,hf,λg hg=>?_,h.sub⟩
   by_cases o6:g=a.g
   ·subst o6
    dsimp only
    rw[if_pos rfl]
    exact⟨λz=>absurd z sx,λz=>absurd z h0⟩
   ·dsimp only;rw[if_neg o6];exact h.z g hg
 ·have:stp here S a=S:=by unfold stp;rw[if_neg ha]
  rw[this]
  refine⟨h.ok,λg=>?_,h.z,h.sub⟩
  rw[iw,pR]
  have:decide (a.g=g/\a.s=here)=false:=by simp[ha]
  rw[this,h.f]
  simp
theorem In.fold {W:List bY}{many:Nat}{P:List Nat}{here:Nat}(hP:here∉P)(hl:∀a∈W,a.g<many):∀(post pre:List bY) (S:(Nat->Int)×List Nat),W=pre++post->In W many P here pre S->In W many P here W (post.foldl (stp here) S)
 |[],pre,S,e,h=>by rw[e] ;simpa using(by rw[cu]at e;subst e;exact h)
 |a::post,pre,S,e,h=>by
  have:=In.fold hP hl post (pre++[a]) (stp here S a) (by rw[e];simp) (h.step e hP (hl a (by rw[e];simp)))
  exact this
theorem zqh {W:List bY}{P:List Nat}{here g:Nat}(hP:here∉P):(cnt W P g:Int)-(W.countP λa=>decide (a.g=g/\a.s=here):Nat)=cnt W (P++[here]) g:=by
 have:cnt W P g=(W.countP λa=>decide (a.g=g/\a.s=here))+cnt W (P++[here]) g:=by
  unfold cnt
  induction W with
  |nil=>rfl
  |cons x W ih=>
   simp only[gI]
   rw[ih]
   by_cases q1:x.g=g<;>by_cases q2:x.s=here<;>by_cases q3:x.s∈P<;>simp_all<;>omega
 omega
structure Wh (W:List bY)(many:Nat)(f:Nat->Int)(p:List Nat)(d:Nat):Prop where
 ok:Ok W many p
 dl:d<=p.length
 fe:∀g,f g=cnt W (p.take d) g
 z:∀g,g<many->(g∈p↔f g=0)
theorem Wh.step {W:List bY}{many:Nat}{f:Nat->Int}{p:List Nat}{d here:Nat}(h:Wh W many f p d)(hl:∀a∈W,a.g<many)(hh:p[d]?=some here) :
  Wh W many (W.foldl (stp here) (f,p)).1 (W.foldl (stp here) (f,p)).2 (d+1)/\∃q,(W.foldl (stp here) (f,p)).2=p++q:=by
 have hd:d<p.length:=(aT.mp hh).1
 have hP:here∉p.take d:=λz=>by
  obtain⟨i,hi,e⟩:=cY.mp z
  have M6:i<d:=by rw[iX]at hi;omega
  rw[sN]at e
  have e2:p[d]=here:=by have:=aT.mp hh;exact this.2
  have:=(mq (xs:=p) (h₀:=by omega) (h₁:=hd) h.ok.nd).mp (e.trans e2.symm)
  omega
 have sr:∀(l:List bY) (S:(Nat->Int)×List Nat),∃q,(l.foldl (stp here) S).2=S.2++q:=by
  intro l
  induction l with
  |nil=>exactλS=>⟨[],by simp⟩
  |cons a l ih=>
   intro S
   obtain⟨q,hq⟩:=ih (stp here S a)
   have:∃r,(stp here S a).2=S.2++r:=by
    by_cases ha:a.s=here
    ·by_cases h0:S.1 a.g-1=0
     ·exact⟨[a.g],by unfold stp;simp[ha,h0]⟩
     ·exact⟨[],by unfold stp;simp[ha,h0]⟩
    ·exact⟨[],by unfold stp;simp[ha]⟩
   obtain⟨r,hr⟩:=this
   exact⟨r++q,by rw[fM,hq,hr,eX]⟩
 obtain⟨q,hq⟩:=sr W (f,p)
 have I:=In.fold hP hl W [] (f,p) rfl ⟨h.ok,λg=>by show f g=_;rw[h.fe];simp,h.z,λx hx=>by
  rcases hx with hx|rfl
  ·exact jZ hx
  ·exact bT.mpr ⟨d,hh⟩⟩
 have FW:(W.foldl (stp here) (f,p)).2.take (d+1)=p.take d++[here]:=by
  rw[hq]
  show(p++q).take (d+1)=_
  rw[gU (by omega),List.take_succ,hh]
  rfl
 refine⟨⟨I.ok,?_,λg=>?_,I.z⟩,q,hq⟩
 ·rw[hq]
  show d+1<=(p++q).length
  rw[aX];omega
 ·rw[I.f,FW]
  exact zqh hP
theorem cnt_zero {W:List bY}{P:List Nat}{g:Nat}:cnt W P g=0↔∀a∈W,a.g=g->a.s∈P:=by
 unfold cnt
 rw[List.countP_eq_zero]
 constructor
 ·intro h a ha e
  have:=h a ha
  simp at this
  exact Classical.byContradiction λz=>z (this e)
 ·intro h a ha
  simp
  exact h a ha
theorem Wh.all {W:List bY}{many:Nat}{f:Nat->Int}{p:List Nat}(h:Wh W many f p p.length)(rank:Nat->Nat)(hr:∀a∈W,rank a.s<rank a.g)(hs:∀a∈W,a.s<many):∀g,g<many->g∈p:=by
 have:∀n g,rank g<n->g<many->g∈p:=by
  intro n
  induction n with
  |zero=>intro g h;omega
  |succ n ih=>
   intro g hg hl
   rw[h.z g hl,h.fe,List.take_length]
   have:cnt W p g=0:=cnt_zero.mpr λa ha e=>ih a.s (by have:=hr a ha;rw[e]at this;omega) (hs a ha)
   rw[this];rfl
 exactλg hl=>this (rank g+1) g (by omega) hl
theorem len_of {many:Nat}{p:List Nat}(nd:p.Nodup)(lt:∀x∈p,x<many)(all:∀g,g<many->g∈p):p.length=many:=by
 have h1:p.Perm (ao many):=by
  rw[nD nd gJ]
  intro a
  rw[aK]
  exact⟨lt a,all a⟩
 simpa using h1.length_eq
theorem len_le {many:Nat}{p:List Nat}(nd:p.Nodup)(lt:∀x∈p,x<many):p.length<=many:=by
 have h1:(p++(ao many).filter λx=>decide (x∉p)).Perm (ao many):=by
  rw[nD (by
   rw[bq]
   refine⟨nd,gJ.filter _,λa ha b hb e=>?_⟩
   subst e
   simp at hb
   exact hb.2 ha) gJ]
  intro a
  rw[bc,aJ,aK]
  constructor
  ·rintro(h|h)
   ·exact lt a h
   ·exact h.1
  ·intro h
   by_cases ha:a∈p
   ·exact .inl ha
   ·exact .inr ⟨h,by simpa using ha⟩
 have:=h1.length_eq
 rw[aX,bi]at this
 omega
end Kahn
def Kd.n:Kd->Nat
 |.ride=>1|.wait=>2|.back=>3
def bv (a:bY):D:=.obj a.c.n ["start","goal","time","behind"] [.int a.s,.int a.g,.int a.t,.int a.b]
theorem fs (a:bY):cv [0,1,2,3] "start" (bv a)=some (.int a.s):=by obtain⟨c,_,_,_,_⟩:=a;cases c<;>rfl
theorem fg (a:bY):cv [0,1,2,3] "goal" (bv a)=some (.int a.g):=by obtain⟨c,_,_,_,_⟩:=a;cases c<;>rfl
theorem ft (a:bY):cv [0,1,2,3] "time" (bv a)=some (.int a.t):=by obtain⟨c,_,_,_,_⟩:=a;cases c<;>rfl
theorem fb (a:bY):cv [0,1,2,3] "behind" (bv a)=some (.int a.b):=by obtain⟨c,_,_,_,_⟩:=a;cases c<;>rfl
structure Right (many:Nat)(a:bY):Prop where
 s:a.s<many
 g:a.g<many
 t0:0<=a.t
 t1:a.t<=1000000000
 b:a.b<=4
 r:a.c=.ride->a.b=0
 k:a.c=.back->1<=a.b
theorem Cw {n l m:Int}(h1:l<=n)(h2:n<=m):yy [.int n,.int l,.int m]=some (.bl true):=by
 unfold yy
 have q1 (i:Int):qV "int" (.int i)=some (.bl true):=rfl
 have q2 (i:Int):qV "bool" (.int i)=some (.bl false):=rfl
 walk_at "mir"
theorem isA (all sub:List Nat)(a:bY):uB all sub (bv a)=if all.contains a.c.n=true then some (.bl (sub.contains a.c.n))else none:=rfl
theorem ztm {many:Nat}{a:bY}(h:Right many a):Kb [bv a,.int (many:Int)]=some (.bl true):=by
 have w1:yy [.int (a.s:Int),.int 0,.int ((many:Int)-1)]=some (.bl true):=Cw (by omega) (by have:=h.s;omega)
 have w2:yy [.int (a.g:Int),.int 0,.int ((many:Int)-1)]=some (.bl true):=Cw (by omega) (by have:=h.g;omega)
 have w3:yy [.int a.t,.int 0,.int 1000000000]=some (.bl true):=Cw h.t0 h.t1
 have f1:=fs a
 have f2:=fg a
 have f3:=ft a
 have f4:=fb a
 have hi:=λall sub=>isA all sub a
 have hb:=h.b
 have hr:=h.r
 have hk:=h.k
 clear h
 unfold Kb
 cases hc:a.c with
 |ride=>
  have w4:yy [.int (a.b:Int),.int 0,.int 0]=some (.bl true):=Cw (by omega) (by have:=hr hc;omega)
  rw[hc]at hi
  clear hr hk hb
  have hn:Kd.ride.n=1:=rfl
  walk_at "mir"
 |wait=>
  have w4:yy [.int (a.b:Int),.int 0,.int 4]=some (.bl true):=Cw (by omega) (by omega)
  rw[hc]at hi
  clear hr hk hb
  have hn:Kd.wait.n=2:=rfl
  walk_at "mir"
 |back=>
  have w4:yy [.int (a.b:Int),.int 1,.int 4]=some (.bl true):=Cw (by have:=hk hc;omega) (by omega)
  rw[hc]at hi
  clear hr hk hb
  have hn:Kd.back.n=3:=rfl
  walk_at "mir"
def W0 (as:List bY):List bY:=as.filter λa=>decide (a.b=0)
theorem zg0 (as:List bY)(l:as.length<=16777216)(r:L3.Env)(h:r[1]?.join=some (.lst (as.map bv))) :
  Sd r=some (.lst ((W0 as).map bv)):=by
 have e:lsD (eV 1) r=some (as.map bv):=by unfold lsD;have:eV 1 r=some (.lst (as.map bv)):=h;rw[this];rfl
 refine Cz bv (λa=>decide (a.b=0)) bv as e l λa _=>⟨_,rfl,?_,λ_=>rfl⟩
 have:=fb a
 walk_at "mir"
def DP (s:(Nat->Int)×Option D)(a:bY):(Nat->Int)×Option D:=(λx=>if x=a.g then s.1 a.g+1 else s.1 x,some (bv a))
theorem T1:∀(W:List bY) (s:(Nat->Int)×Option D) (g:Nat),(W.foldl DP s).1 g=s.1 g+(W.countP λa=>decide (a.g=g):Nat)
 |[],s,g=>by simp
 |a::W,s,g=>by
  rw[fM,T1 W,gI]
  by_cases hg:g=a.g
  ·subst hg;simp[DP];omega
  ·have:decide (a.g=g)=false:=by simp;exactλz=>hg z.symm
   simp[DP,hg,this]
theorem OK (p:List Nat)(x:Nat):aD p++[D.int (x:Int)]=aD (p++[x]):=by simp[aD]
theorem ztn {many:Nat}{as:List bY}{f:Nat->Int}{p:List Nat}{here d:Nat}{x4:Option D}(hm:many<=1000)(hW:∀a∈W0 as,a.s<many/\a.g<many)(h:Kahn.Wh (W0 as) many f p d)(hh:p[d]?=some here) :
  ∃x,eG (gV 4) vg ((W0 as).map bv) [some (.int (many:Int)),some (.lst (as.map bv)),some (.lst ((W0 as).map bv)),some (.lst (cC many f)),x4,some (.lst (aD p)),some (.int (d:Int)),some (.int (here:Int))] =
   some (.nx [some (.int (many:Int)),some (.lst (as.map bv)),some (.lst ((W0 as).map bv)),some (.lst (cC many ((W0 as).foldl (Kahn.stp here) (f,p)).1)),x,some (.lst (aD ((W0 as).foldl (Kahn.stp here) (f,p)).2)),some (.int (d:Int)),some (.int (here:Int))]):=by
 have hd:d<p.length:=(aT.mp hh).1
 have hP:here∉p.take d:=λz=>by
  obtain⟨i,hi,e⟩:=cY.mp z
  have M6:i<d:=by rw[iX]at hi;omega
  rw[sN]at e
  have e2:p[d]=here:=(aT.mp hh).2
  have:=(mq (xs:=p) (h₀:=by omega) (h₁:=hd) h.ok.nd).mp (e.trans e2.symm)
  omega
 obtain⟨ρ',h1,x,pre,e1,e2⟩:=Ko (g:=gV 4) (b:=vg) (ds:=(W0 as).map bv) (ρ:=[some (.int (many:Int)),some (.lst (as.map bv)),some (.lst ((W0 as).map bv)),some (.lst (cC many f)),x4,some (.lst (aD p)),some (.int (d:Int)),some (.int (here:Int))])
  (λds ρ=>∃x pre,ds=pre.map bv/\(∃post,W0 as=pre++post)/\Kahn.In (W0 as) many (p.take d) here pre (pre.foldl (Kahn.stp here) (f,p))/\ρ=[some (.int (many:Int)),some (.lst (as.map bv)),some (.lst ((W0 as).map bv)),some (.lst (cC many (pre.foldl (Kahn.stp here) (f,p)).1)),x,some (.lst (aD (pre.foldl (Kahn.stp here) (f,p)).2)),some (.int (d:Int)),some (.int (here:Int))])
  ⟨x4,[],rfl,⟨_,rfl⟩,⟨h.ok,λg=>by show f g=_;rw[h.fe];simp,h.z,λx hx=>by
   rcases hx with hx|rfl
   ·exact jZ hx
   ·exact bT.mpr ⟨d,hh⟩⟩,rfl⟩ (by
  rintro ds dd post ρ e ⟨x,pre,rfl,⟨jR,e'⟩,I,rfl⟩
  rw[e',dk]at e
  have e3:=oT e
  cases jR with
  |nil=>cases e3
  |cons a jR=>
   rw[aR]at e3
   cases e3
   have ha:a∈W0 as:=by rw[e'];simp
   have hl:=Kahn.len_le I.ok.nd I.ok.lt
   have I2:=I.step e' hP (hW a ha).2
   refine⟨_,_,rfl,.inl ?_,some (bv a),pre++[a],by simp,⟨jR,by rw[e'];simp⟩,by rw[lz];exact I2,rfl⟩
   rw[lz]
   generalize pre.foldl (Kahn.stp here) (f,p)=S at hl
   show vg _=some (.nx [_,_,_,some (.lst (cC many (Kahn.stp here S a).1)),_,some (.lst (aD (Kahn.stp here S a).2)),_,_])
   have f1:=fs a
   have f2:=fg a
   have eo:(aD S.2).length<16777216:=by simp[aD];omega
   unfold vg
   by_cases hs:a.s=here
   ·have FQ:((a.s:Nat):Int)=(here:Int):=by rw[hs]
    have au:=UB (i:=3) (fj:=e1 (cv [0,1,2,3] "goal") (eV 4)) (f:=eC (.int 1)) (gi:=λi j=>i-j) (ρ:=[some (.int (many:Int)),some (.lst (as.map bv)),some (.lst ((W0 as).map bv)),some (.lst (cC many S.1)),some (bv a),some (.lst (aD S.2)),some (.int (d:Int)),some (.int (here:Int))]) (n:=many) (g:=a.g) (w:=S.1) (y:=1) rfl (by walk_at "mir") rfl (hW a ha).2
    have va:dz (.lst (cC many λx=>if x=a.g then S.1 a.g-1 else S.1 x)) (.int (a.g:Int))=some (.int (S.1 a.g-1)):=by
     have:=zev (λx=>if x=a.g then S.1 a.g-1 else S.1 x) (hW a ha).2
     rw[if_pos rfl]at this
     exact this
    by_cases h0:S.1 a.g-1=0
    ·have es:Kahn.stp here S a=(λx=>if x=a.g then S.1 a.g-1 else S.1 x,S.2++[a.g]):=by unfold Kahn.stp;simp[hs,h0]
     rw[es,←OK]
     rw[h0]at va
     clear I I2 e' es
     walk_at "mir"
    ·have es:Kahn.stp here S a=(λx=>if x=a.g then S.1 a.g-1 else S.1 x,S.2):=by unfold Kahn.stp;simp[hs,h0]
     rw[es]
     clear I I2 e' es
     walk_at "mir"
   ·have es:Kahn.stp here S a=S:=by unfold Kahn.stp;rw[if_neg hs]
    rw[es]
    have FQ:¬((a.s:Nat):Int)=(here:Int):=by omega
    clear I I2 e' es
    walk_at "mir")
 obtain⟨⟨post,e2⟩,I,rfl⟩:=e2
 have:pre=W0 as:=by
  have:=congrArg gR e1
  rw[aB,aB]at this
  rw[e2,aX]at this
  have hp:post=[]:=gQ (by omega)
  rw[e2,hp,cu]
 rw[this]at h1
 exact⟨x,h1⟩
theorem zqi {many:Nat}(as:List bY)(l:as.length<=1000)(hm:many<=1000)(hs:∀a∈as,a.s<many/\a.g<many) :
  ∃(f:Nat->Int) (p:List Nat),vh [.int (many:Int),.lst (as.map bv)]=some (.lst (aD p))/\Kahn.Wh (W0 as) many f p p.length:=by
 have hW:∀a∈W0 as,a.s<many/\a.g<many:=λa ha=>hs a (aJ.mp ha).1
 obtain⟨c1,_⟩:=Ox (g:=gV 4) (b:=jj) bv (λs:(Nat->Int)×Option D=>[some (.int (many:Int)),some (.lst (as.map bv)),some (.lst ((W0 as).map bv)),some (.lst (cC many s.1)),s.2,none,none,none])
  DP (λ_=>True) (W0 as) (λ_=>0,none) trivial (λs a ha _=>by
   refine⟨_,rfl,.inl ?_,trivial⟩
   unfold jj
   have f2:=fg a
   rw[UB (n:=many) (g:=a.g) (w:=s.1) (y:=1) rfl (by walk_at "mir") rfl (hW a ha).2]
   rfl)
 have c2:=T1 (W0 as) (λ_=>0,none)
 generalize Xq:(W0 as).foldl DP (λ_=>0,none)=S0 at c1 c2
 obtain⟨f0,y4⟩:=S0
 dsimp only at c1 c2
 have X7:∀r:L3.Env,r[0]?.join=some (.int (many:Int))->r[3]?.join=some (.lst (cC many f0))->Sb r=some (.lst (aD ((ao many).filter λg=>decide (f0 g=0)))):=by
  intro r h0 h3
  refine Cz (λ(t:Nat)=>D.int (t:Int)) (λg=>decide (f0 g=0)) (λ(t:Nat)=>D.int (t:Int)) (ao many) (BS h0 (by omega)) (by rw[bi];omega) ?_
  ·intro g hg
   refine⟨_,rfl,?_,λ_=>rfl⟩
   have hg:g<many:=aK.mp hg
   have hv:dz (.lst (cC many f0)) (.int (g:Int))=some (.int (f0 g)):=zev f0 hg
   have hc:dH r [3]=[some (.lst (cC many f0))]:=by unfold dH;simp[h3]
   rw[hc]
   walk_at "mir"
 generalize hq:((ao many).filter λg=>decide (f0 g=0))=p0 at X7
 have w0:Kahn.Wh (W0 as) many f0 p0 0:=by
  have hf:∀g,f0 g=Kahn.cnt (W0 as) [] g:=λg=>by
   rw[c2 g]
   unfold Kahn.cnt
   simp
  refine⟨⟨by rw[←hq];exact gJ.filter _,λx hx=>by rw[←hq,aJ,aK]at hx;exact hx.1,λi x hx a ha e=>?_⟩,by omega,hf,λg hg=>by rw[←hq,aJ,aK];simp[hg]⟩
  have JE:x∈p0:=bT.mpr ⟨i,hx⟩
  rw[←hq,aJ]at JE
  have h0:f0 x=0:=by simpa using JE.2
  rw[hf]at h0
  have:=Kahn.cnt_zero.mp (by exact_mod_cast h0) a ha e
  cases this
 obtain⟨ρ',h1,⟨f,p,d,x4,x7,rfl,wh⟩,h3⟩:=Ka (c:=tb (e2 pK (eV 6) (eN dL (aCons (eV 5) aNil)))) (b:=ji)
  (λρ=>∃f p d x4 x7,ρ=[some (.int (many:Int)),some (.lst (as.map bv)),some (.lst ((W0 as).map bv)),some (.lst (cC many f)),x4,some (.lst (aD p)),some (.int ((d:Nat):Int)),x7]/\Kahn.Wh (W0 as) many f p d)
  (λρ:L3.Env=>match ρ[6]? with|some (some (D.int i))=>(1001-i).toNat|_=>0) (by
   rintro ρ ⟨f,p,d,x4,x7,rfl,wh⟩
   have hl:(aD p).length=p.length:=by simp[aD]
   refine⟨decide ((d:Int)<(p.length:Int)),by walk_at "mir",λht=>?_⟩
   have hd:d<p.length:=by simpa using ht
   have hh:p[d]?=some p[d]:=by simp[hd]
   obtain⟨x,lL⟩:=ztn (x4:=x4) hm hW wh hh
   obtain⟨II,q,_⟩:=wh.step (λa ha=>(hW a ha).2) hh
   have oM:=Kahn.len_le II.ok.nd II.ok.lt
   have tZ:=II.dl
   refine⟨_,.inl ?_,⟨_,_,d+1,x,some (.int (p[d]:Int)),rfl,II⟩,?_⟩
   ·have XU:dz (.lst (aD p)) (.int (d:Int))=some (.int (p[d]:Int)):=jv (by simp[aD,hd])
    have hau:i2 (λi j=>D.int (i+j)) (.int (d:Int)) (.int 1)=some (.int ((d+1:Nat):Int)):=by simp[i2]
    unfold ji rf
    clear wh II oM tZ
    walk_at "mir"
   ·show(1001-((d+1:Nat):Int)).toNat<(1001-(d:Int)).toNat
    omega) mE [some (.int (many:Int)),some (.lst (as.map bv)),some (.lst ((W0 as).map bv)),some (.lst (cC many f0)),y4,some (.lst (aD p0)),some (.int ((0:Nat):Int)),none] ⟨f0,p0,0,y4,none,rfl,w0⟩ (by
   show(1001-((0:Nat):Int)).toNat<mE
   have:(1001:Nat)<mE:=IU (by decide)
   omega)
 have hd:d=p.length:=by
  have hl:(aD p).length=p.length:=by simp[aD]
  have h4:(tb (e2 pK (eV 6) (eN dL (aCons (eV 5) aNil)))) [some (.int (many:Int)),some (.lst (as.map bv)),some (.lst ((W0 as).map bv)),some (.lst (cC many f)),x4,some (.lst (aD p)),some (.int (d:Int)),x7]=some (decide ((d:Int)<(p.length:Int))):=by walk_at "mir"
  rw[h4]at h3
  have:=wh.dl
  simp at h3
  omega
 subst hd
 refine⟨f,p,?_,wh⟩
 have r1:=zg0 as (by omega)
 have rp:lO (.lst [.int 0]) (.int (many:Int))=some (.lst (cC many λ_=>0)):=by
  unfold lO
  dsimp only
  rw[if_pos ⟨by omega,by omega,by simp⟩]
  congr 2
  unfold cC
  rw[jH,bi]
  simp
 rw[show(((0:Nat):Int))=0 from rfl]at h1
 unfold vh gD
 clear hs hW c2 Xq hq w0 wh h3 l hm
 walk_at "mir"
def aY (ns:List D)(as:List bY):D:=.obj 4 ["names","arrows"] [.lst ns,.lst (as.map bv)]
structure fP (many:Nat)(as:List bY):Prop where
 pos:1<=many
 le:many<=40
 len:as.length<=120
 right:∀a∈as,Right many a
 rank:∃rank:Nat->Nat,∀a∈as,a.b=0->rank a.s<rank a.g
theorem fP.placed {many:Nat}{as:List bY}(h:fP many as):∃p:List Nat,vh [.int (many:Int),.lst (as.map bv)]=some (.lst (aD p))/\Kahn.Ok (W0 as) many p/\p.length=many/\∀g,g<many->g∈p:=by
 obtain⟨f,p,h1,h2⟩:=zqi (many:=many) as (by have:=h.len;omega) (by have:=h.le;omega) (λa ha=>⟨(h.right a ha).s,(h.right a ha).g⟩)
 obtain⟨rank,hr⟩:=h.rank
 have all:=h2.all rank (λa ha=>by
  have:=aJ.mp ha
  exact hr a this.1 (by simpa using this.2)) (λa ha=>(h.right a (aJ.mp ha).1).s)
 exact⟨p,h1,h2.ok,Kahn.len_of h2.ok.nd h2.ok.lt all,all⟩
theorem zxi {many:Nat}{as:List bY}{ns:List D}(h:fP many as)(hn:ns.length=many)(yH:J3 [.lst ns]=some (.bl true)):ql 4 [.lst ns,.lst (as.map bv)]=some (aY ns as):=by
 obtain⟨p,hp,_,hl,_⟩:=h.placed
 have eo:=h.len
 obtain⟨ρ',h1,x3,x4,rfl⟩:=Ko (g:=gT (gsCons (gV 3) (gsCons (gV 4) gsNil))) (b:=qv) (ds:=eK 0 (as.map bv)) (ρ:=[some (.obj 4 [] []),some (.lst ns),some (.lst (as.map bv)),none,none,none])
  (λ_ ρ=>∃x3 x4,ρ=[some (.obj 4 [] []),some (.lst ns),some (.lst (as.map bv)),x3,x4,none]) ⟨none,none,rfl⟩ (by
   rintro pre d post ρ e ⟨x3,x4,rfl⟩
   obtain⟨x,hx,rfl⟩:=Ov (Vd e)
   rw[bp]at hx
   obtain⟨a,ha,rfl⟩:=dg.mp hx
   have hr:=ztm (h.right a (bT.mpr ⟨_,ha⟩))
   refine⟨_,_,rfl,.inl ?_,some (.int (0+pre.length:Nat)),some (bv a),rfl⟩
   unfold qv
   rw[←hn]at hr
   clear hp hl hn eo h
   walk_at "mir")
 have hz:(aD p).length=many:=by simp[aD,hl]
 have hgt:¬((as.length:Int) > 120):=by omega
 rw[←hn]at hp hz
 have l1:∀ds:List D,nc [.lst ds]=some (.lst ds):=λ_=>rfl
 have s1:kS [4] "names" (eN nc (aCons (eV 1) aNil)) [some (D.obj 4 [] []),some (.lst ns),some (.lst (as.map bv)),x3,x4,some (.lst (aD p))]=some (.nx [some (D.obj 4 ["names"] [.lst ns]),some (.lst ns),some (.lst (as.map bv)),x3,x4,some (.lst (aD p))]):=rfl
 have s2:kS [4] "arrows" (eN nc (aCons (eV 2) aNil)) [some (D.obj 4 ["names"] [.lst ns]),some (.lst ns),some (.lst (as.map bv)),x3,x4,some (.lst (aD p))]=some (.nx [some (aY ns as),some (.lst ns),some (.lst (as.map bv)),x3,x4,some (.lst (aD p))]):=rfl
 clear h eo hl hn
 unfold ql Bj
 walk_at "mir"
theorem K2 (ns:List Int)(i:Int)(hi:0<=i):∃c,xk [.lst (ns.map .int),.int i]=some (.int c):=by
 obtain⟨k,rfl⟩:∃k:Nat,i=k:=⟨i.toNat,by omega⟩
 unfold xk
 by_cases h:k<ns.length
 ·refine⟨ns[k],?_⟩
  have:dz (.lst (ns.map .int)) (.int (k:Int))=some (.int ns[k]):=zs3 D.int (.inl rfl) (by simp[h])
  walk_at "mir"
 ·refine⟨0,?_⟩
  walk_at "mir"
def pJ (c:Int):Bool:=decide (1237940039285380274899124224<=c)&&decide (c%2=1)
theorem Pg (c:Int):uw [.int c]=some (.bl (pJ c)):=by
 unfold uw pJ
 by_cases h1:(1237940039285380274899124224:Int)<=c<;>by_cases h2:c%2=1<;>walk_at "mir"
theorem zto (c:Int){k:Int}(h0:0<=k)(h1:k<=1000000):∃r:Nat,wu [.int c,.int k]=some (.int (r:Int))/\r<2147483648:=by
 have m0:eA (.int 31) (.int k)=some (.int (31*k)):=zcg (by decide) (by decide)
 have s0:sD (.int c) (.int (1+31*k))=some (.int (c/2 ^ (1+31*k).toNat)):=zkd (by omega)
 have r0:=Pg c
 have fin:∀z:Int,∀m:Int,0<m->m<=2147483648->∃r:Nat,(some (D.int (z%m)):Option D)=some (.int (r:Int))/\r<2147483648:=λz m hm jK=>by
  have a1:=vN z (by omega:m≠0)
  have a2:=Int.emod_lt_of_pos z hm
  exact⟨(z%m).toNat,by rw[rR a1],by omega⟩
 generalize hn:(c+7919*k+1)*48271%2147483647=n1
 have b1:0<=n1/\n1<2147483647:=by omega
 have m1:eA (.int 7919) (.int k)=some (.int (7919*k)):=zcg (by decide) (by decide)
 have m2:eA (.int (c+7919*k+1)) (.int 48271)=some (.int ((c+7919*k+1)*48271)):=zfg (by decide) (by decide)
 have m3:eA (.int n1) (.int (n1/1009+69621))=some (.int (n1*(n1/1009+69621))):=zcg (by omega) (by omega)
 generalize t7:n1*(n1/1009+69621)%2147483647=n2
 have b2:0<=n2/\n2<2147483647:=by omega
 have m4:eA (.int n2) (.int (n2/2003+39373+k))=some (.int (n2*(n2/2003+39373+k))):=zcg (by omega) (by omega)
 unfold wu
 by_cases hr:pJ c=true
 ·by_cases hs:c/2 ^ (1+31*k).toNat > 0
  ·obtain⟨r,e1,e2⟩:=fin (c/2 ^ (1+31*k).toNat) 2147483648 (by decide) (by decide)
   refine⟨r,?_,e2⟩
   rw[←e1]
   generalize c/2 ^ (1+31*k).toNat=q at s0 hs
   clear e1 e2 fin hn t7 b1 b2 h0 h1
   walk_at "mir"
  ·obtain⟨r,e1,e2⟩:=fin (n2*(n2/2003+39373+k)) 2147483629 (by decide) (by decide)
   refine⟨r,?_,e2⟩
   rw[←e1]
   generalize c/2 ^ (1+31*k).toNat=q at s0 hs
   clear e1 e2 fin b1 b2 h0 h1
   walk_at "mir"
 ·obtain⟨r,e1,e2⟩:=fin (n2*(n2/2003+39373+k)) 2147483629 (by decide) (by decide)
  refine⟨r,?_,e2⟩
  rw[←e1]
  clear e1 e2 fin b1 b2 h0 h1 s0
  walk_at "mir"
theorem T3 (g:Nat):∀O:List Nat,g∈O->∃j:Nat,(aD O).findIdx? (λy=>vH y (.int (g:Int)))=some j
 |[],h=>by cases h
 |x::O,h=>by
  have hc:aD (x::O)=.int (x:Int)::aD O:=rfl
  rw[hc,kF]
  by_cases hx:x=g
  ·refine⟨0,?_⟩
   have:vH (.int (x:Int)) (.int (g:Int))=true:=by simp[vH,hx]
   rw[this];rfl
  ·have:vH (.int (x:Int)) (.int (g:Int))=false:=by simp[vH];omega
   rw[this]
   obtain⟨j,hj⟩:=T3 g O (by
    rcases aA.mp h with e|e
    ·exact absurd e.symm hx
    ·exact e)
   exact⟨j+1,by rw[hj];rfl⟩
theorem ztp (O:List Nat):(aD O).all D.sc=true:=by
 rw[cH]
 intro d hd
 obtain⟨t,_,rfl⟩:=bE.mp hd
 rfl
def Nx (O:List Nat)(g:Nat):Nat:=((aD O).findIdx? (λy=>vH y (.int (g:Int)))).getD 0
theorem zqj {g:Nat}{O:List Nat}(h:g∈O):uA (.lst (aD O)) (.int (g:Int))=some (.int (Nx O g:Int)):=by
 obtain⟨j,hj⟩:=T3 g O h
 unfold uA Nx
 dsimp only
 rw[if_pos ⟨rfl,ztp O⟩,hj]
 rfl
def jP (c k:Int):Nat:=match wu [.int c,.int k]with
 |some (.int r)=>r.toNat
 |_=>0
theorem KF (c:Int){k:Int}(h0:0<=k)(h1:k<=1000000):wu [.int c,.int k]=some (.int (jP c k:Int))/\jP c k<2147483648:=by
 obtain⟨r,h,hr⟩:=zto c h0 h1
 unfold jP
 rw[h]
 simpa using hr
def mY (cz:Int)(many:Nat):Nat->List Nat×List Nat
 |0=>([],ao many)
 |k+1=>
  let S:=mY cz many k
  let i:=jP cz (k:Int)%S.2.length
  (S.1++[S.2.getD i 0],S.2.eraseIdx i)
theorem SY {α:Type}:∀(l:List α) (i:Nat) (h:i<l.length),(l[i]::l.eraseIdx i).Perm l
 |[],_,h=>by simp at h
 |x::l,0,_=>by simp
 |x::l,i+1,h=>by
  have ih:=SY l i (by simpa using h)
  simp only[List.getElem_cons_succ,List.eraseIdx_cons_succ]
  exact(List.Perm.swap x _ _).trans (ih.cons x)
theorem PN (cz:Int)(many:Nat):∀k,k<=many->(mY cz many k).2.length=many-k/\((mY cz many k).1++(mY cz many k).2).Perm (ao many)
 |0,_=>by simp[mY]
 |k+1,h=>by
  obtain⟨h1,h2⟩:=PN cz many k (by omega)
  unfold mY
  dsimp only
  generalize mY cz many k=S at h1 h2
  have hi:jP cz (k:Int)%S.2.length<S.2.length:=nV _ (by omega)
  generalize jP cz (k:Int)%S.2.length=i at hi
  refine⟨by rw[List.length_eraseIdx_of_lt hi];omega,?_⟩
  have e:=SY S.2 i hi
  have hg:S.2.getD i 0=S.2[i]:=by simp[hi]
  rw[hg,eX]
  exact(List.Perm.append_left S.1 e).trans h2
theorem SZ:∀(L:List Nat) (i:Nat),(aD L).eraseIdx i=aD (L.eraseIdx i)
 |[],_=>rfl
 |_::_,0=>rfl
 |x::L,i+1=>by
  have ih:=SZ L i
  show D.int (x:Int)::(aD L).eraseIdx i=D.int (x:Int)::aD (L.eraseIdx i)
  rw[ih]
theorem zqk (cz:Int){many:Nat}(h2:many<=1000)(g:Nat):∃x5:Option D,eG (gV 5) ju (fL 0 many) [some (.int cz),some (.int (many:Int)),some (.int (g:Int)),some (.lst []),some (.lst (fL 0 many)),none] =
  some (.nx [some (.int cz),some (.int (many:Int)),some (.int (g:Int)),some (.lst (aD (mY cz many many).1)),some (.lst (aD (mY cz many many).2)),x5]):=by
 have hu:fL 0 many=aD (ao many):=by simp[fL,aD]
 obtain⟨ρ',h1,x5,rfl⟩:=SO (g:=gV 5) (b:=ju) (lo:=0) (n:=many) (ρ:=[some (.int cz),some (.int (many:Int)),some (.int (g:Int)),some (.lst []),some (.lst (fL 0 many)),none])
  (λk ρ=>∃x5,ρ=[some (.int cz),some (.int (many:Int)),some (.int (g:Int)),some (.lst (aD (mY cz many k).1)),some (.lst (aD (mY cz many k).2)),x5]) ⟨none,by rw[hu];rfl⟩ (by
   rintro k ρ hk ⟨x5,rfl⟩
   obtain⟨o1,o2⟩:=PN cz many k (by omega)
   have o3:=o2.length_eq
   rw[aX,bi]at o3
   obtain⟨mx,mb⟩:=KF cz (k:=0+(k:Int)) (by omega) (by omega)
   refine⟨_,_,rfl,.inl ?_,some (.int (0+(k:Int))),rfl⟩
   have e0:(0:Int)+(k:Int)=(k:Int):=by omega
   rw[e0]at mx ⊢
   show ju [some (.int cz),some (.int (many:Int)),some (.int (g:Int)),some (.lst (aD (mY cz many k).1)),some (.lst (aD (mY cz many k).2)),some (.int (k:Int))]=some (.nx [some (.int cz),some (.int (many:Int)),some (.int (g:Int)),some (.lst (aD ((mY cz many k).1++[(mY cz many k).2.getD (jP cz (k:Int)%(mY cz many k).2.length) 0]))),some (.lst (aD ((mY cz many k).2.eraseIdx (jP cz (k:Int)%(mY cz many k).2.length)))),some (.int (k:Int))])
   generalize mY cz many k=S at o1 o3
   have hi:jP cz (k:Int)%S.2.length<S.2.length:=nV _ (by omega)
   have md:fm (.int (jP cz (k:Int):Int)) (.int ((aD S.2).length:Int))=some (.int ((jP cz (k:Int)%S.2.length:Nat):Int)):=by
    rw[zbq (by simp[aD];omega)]
    simp[aD]
   generalize jP cz (k:Int)%S.2.length=i at hi md
   have hg:S.2.getD i 0=S.2[i]:=by simp[hi]
   have l1:(aD S.1).length<16777216:=by simp[aD];omega
   have l2:(aD S.2).length<=16777216:=by simp[aD];omega
   have ix:ixN (aD S.2).length (i:Int)=some i:=UC (by simp[aD];exact hi)
   have gt:(aD S.2)[i]?=some (.int (S.2[i]:Int)):=by simp[aD,hi]
   have ev:eN dL (aCons (eV 4) aNil) [some (.int cz),some (.int (many:Int)),some (.int (g:Int)),some (.lst (aD S.1)),some (.lst (aD S.2)),some (.int (k:Int))]=some (.int ((aD S.2).length:Int)):=rfl
   have em:(aCons (eV 0) (aCons (eV 5) aNil) [some (.int cz),some (.int (many:Int)),some (.int (g:Int)),some (.lst (aD S.1)),some (.lst (aD S.2)),some (.int (k:Int))]).bind (λds=>wu (ds++[]))=some (.int (jP cz (k:Int):Int)):=mx
   have ee:e2 fm (λρ=>((aCons (eV 0) (aCons (eV 5) aNil)) ρ).bind λds=>wu (ds++[])) (eN dL (aCons (eV 4) aNil)) [some (.int cz),some (.int (many:Int)),some (.int (g:Int)),some (.lst (aD S.1)),some (.lst (aD S.2)),some (.int (k:Int))]=some (.int (i:Int)):=by
    unfold e2
    dsimp only
    rw[em,ev]
    exact md
   unfold ju oQ
   rw[ee]
   show(if(aD S.1).length<16777216/\(aD S.2).length<=16777216 then _ else _)=_
   rw[if_pos ⟨l1,l2⟩,ix]
   show((aD S.2)[i]?).bind _=_
   rw[gt,hg,←OK,←SZ]
   rfl)
 exact⟨x5,h1⟩
theorem zv4 (cz:Int){many:Nat}(h1:1<=many)(h2:many<=1000):∃rk:Nat->Nat,∀g,g<many->jl [.int cz,.int (many:Int),.int (g:Int)]=some (.int (rk g:Int)):=by
 have hr:=Pg cz
 cases Nh:pJ cz with
 |false=>
  refine⟨λg=>(((g:Int)+cz)%(many:Int)).toNat,λg hg=>?_⟩
  have a1:=vN ((g:Int)+cz) (by omega:(many:Int)≠0)
  have a2:fm (.int ((g:Int)+cz)) (.int (many:Int))=some (.int (((g:Int)+cz)%(many:Int))):=zbq (by omega)
  rw[rR a1]
  unfold jl
  clear a1
  walk_at "mir"
 |true=>
  obtain⟨o1,o2⟩:=PN cz many many (aF _)
  rw[Nat.sub_self]at o1
  have o3:(mY cz many many).2=[]:=gQ o1
  rw[o3,cu]at o2
  refine⟨Nx (mY cz many many).1,λg hg=>?_⟩
  obtain⟨x5,lp⟩:=zqk cz h2 g
  have ix:=zqj (g:=g) (O:=(mY cz many many).1) (o2.mem_iff.mpr (aK.mpr hg))
  have lr:oh [.int (many:Int)]=some (.lst (fL 0 many)):=by
   unfold oh
   dsimp only
   rw[if_pos ⟨by omega,by omega⟩]
   simp
  have r1:hV [.int (many:Int)]=some (fL 0 many):=by
   rw[BM (by omega) (by omega)]
   simp
  unfold jl
  generalize mY cz many many=S at lp ix
  clear o1 o2 o3
  walk_at "mir"
def gB (a:bY):D:=.tup [.int a.s,.int a.g,.int a.t,.int a.b]
theorem zik (c many cz k n s g b:Int):∃t:Int,0<=t/\t<=1000000000/\jc [some (.int c),some (.int many),some (.int cz),some (.int k),some (.int n),some (.int s),some (.int g),some (.int b),none]=some (.rt (.tup [.int s,.int g,.int t,.int b])):=by
 obtain⟨m2,_⟩:=KF c (k:=30) (by decide) (by decide)
 generalize jP c 30=u at m2
 have row:=Pg c
 unfold jc
 by_cases hr:pJ c=true
 ·refine⟨(u:Int)%1000000001,by omega,by omega,?_⟩
  by_cases h3:c%8=7<;>walk_at "mir"
 ·by_cases h3:c%8=7
  ·refine⟨c/8%1000000001,by omega,by omega,?_⟩
   walk_at "mir"
  ·refine⟨n/1000%10,by omega,by omega,?_⟩
   walk_at "mir"
theorem ztq (c cz:Int)(k:Nat)(hk:k<=1000){many:Nat}(h1:1<=many)(h2:many<=1000)(rk:Nat->Nat)(wL:∀g,g<many->jl [.int cz,.int (many:Int),.int (g:Int)]=some (.int (rk g:Int))) :
  ∃a:bY,vb [.int c,.int (many:Int),.int cz,.int (k:Int)]=some (gB a)/\a.s<many/\a.g<many/\0<=a.t/\a.t<=1000000000/\a.b<=4/\(a.b=0->rk a.s<rk a.g)/\(k<many->a.g=k):=by
 obtain⟨m1,_⟩:=KF c (k:=(k:Int)) (by omega) (by omega)
 generalize jP c (k:Int)=n at m1
 have hs:n%many<many:=nV _ (by omega)
 have e1:fm (.int (n:Int)) (.int (many:Int))=some (.int ((n%many:Nat):Int)):=by rw[zbq (by omega)];simp
 have e2:fm (.int ((n:Int)/8)) (.int (many:Int))=some (.int ((n/8%many:Nat):Int)):=by rw[zbq (by omega)];simp
 obtain⟨g0,hg,Jv,M4⟩:∃g0:Nat,g0<many/\(k<many->g0=k)/\(¬k<many->g0=n/8%many):=by
  by_cases h:k<many
  ·exact⟨k,h,λ_=>rfl,λz=>absurd h z⟩
  ·exact⟨n/8%many,nV _ (by omega),λz=>absurd z h,λ_=>rfl⟩
 have k1:=wL _ hs
 have k2:=wL _ hg
 generalize n%many=s0 at *
 have fin:∀b:Nat,b<=4->(b=0->rk s0<rk g0)->(∀t:Int,jc [some (.int c),some (.int (many:Int)),some (.int cz),some (.int (k:Int)),some (.int (n:Int)),some (.int (s0:Int)),some (.int (g0:Int)),some (.int (b:Int)),none]=some (.rt (.tup [.int s0,.int g0,.int t,.int b]))->vb [.int c,.int (many:Int),.int cz,.int (k:Int)]=some (.tup [.int s0,.int g0,.int t,.int b])) ->
   ∃a:bY,vb [.int c,.int (many:Int),.int cz,.int (k:Int)]=some (gB a)/\a.s<many/\a.g<many/\0<=a.t/\a.t<=1000000000/\a.b<=4/\(a.b=0->rk a.s<rk a.g)/\(k<many->a.g=k):=by
  intro b hb rK h
  obtain⟨t,t0,t1,ht⟩:=zik c many cz k n s0 g0 b
  exact⟨⟨.wait,s0,g0,t,b⟩,h t ht,hs,hg,t0,t1,hb,rK,Jv⟩
 have eb:((n:Int)/64)%5=((n/64%5:Nat):Int):=by omega
 have QB:(1:Int)+(n:Int)/320%2=((1+n/320%2:Nat):Int):=by omega
 have gl:(AL (.int (k:Int)) (.int (many:Int))=some (.bl true)/\g0=n/8%many)\/(AL (.int (k:Int)) (.int (many:Int))=some (.bl false)/\g0=k):=by
  by_cases h:k<many
  ·refine .inr ⟨?_,Jv h⟩
   show some (D.bl (decide ((k:Int) >= (many:Int))))=_
   rw[decide_eq_false (by omega)]
  ·refine .inl ⟨?_,M4 h⟩
   show some (D.bl (decide ((k:Int) >= (many:Int))))=_
   rw[decide_eq_true (by omega)]
 have go:∀(b t:Int),(∃q:Int,(n:Int)/64%5=q/\((q=0/\((rk s0:Int) >= (rk g0:Int)/\b=1+(n:Int)/320%2\/¬(rk s0:Int) >= (rk g0:Int)/\b=0))\/(¬q=0/\b=q)))->jc [some (.int c),some (.int (many:Int)),some (.int cz),some (.int (k:Int)),some (.int (n:Int)),some (.int (s0:Int)),some (.int (g0:Int)),some (.int b),none]=some (.rt (.tup [.int s0,.int g0,.int t,.int b]))->vb [.int c,.int (many:Int),.int cz,.int (k:Int)]=some (.tup [.int s0,.int g0,.int t,.int b]):=by
  rintro b t ⟨q,hq,hc⟩ ht
  unfold vb
  rcases gl with⟨gt,gg⟩|⟨gt,gg⟩
  ·rw[←gg]at e2
   clear Jv M4 gg hg hs wL fin eb QB
   rcases hc with⟨h0,⟨h1,h2⟩|⟨h1,h2⟩⟩|⟨h0,h1⟩
   ·subst h0;subst h2;walk_at "mir"
   ·subst h0;subst h2;walk_at "mir"
   ·subst h1;walk_at "mir"
  ·subst gg
   clear Jv M4 hg hs wL fin eb QB e2
   rcases hc with⟨h0,⟨h1,h2⟩|⟨h1,h2⟩⟩|⟨h0,h1⟩
   ·subst h0;subst h2;walk_at "mir"
   ·subst h0;subst h2;walk_at "mir"
   ·subst h1;walk_at "mir"
 by_cases q:n/64%5=0
 ·by_cases q2:rk g0<=rk s0
  ·refine fin (1+n/320%2) (by omega) (by omega) λt ht=>go _ t ⟨0,by omega,.inl ⟨rfl,.inl ⟨by omega,by omega⟩⟩⟩ ht
  ·refine fin 0 (by omega) (by omega) λt ht=>go _ t ⟨0,by omega,.inl ⟨rfl,.inr ⟨by omega,rfl⟩⟩⟩ ht
 ·refine fin (n/64%5) (by omega) (by omega) λt ht=>go _ t ⟨_,rfl,.inr ⟨by omega,by omega⟩⟩ ht
def lM (b:Nat)(kind:Int):Kd:=if b=0/\kind%2=0 then .ride else if 0<b/\kind%2=0 then .back else .wait
def o8 (a:bY)(kind:Int):bY:={ a with c:=lM a.b kind }
theorem zv5 (s g t:Int):Oa 1 [.int s,.int g,.int t]=some (.obj 1 ["start","goal","time","behind"] [.int s,.int g,.int t,.int 0]):=rfl
theorem zv6 (s g t b:Int):Ob 2 [.int s,.int g,.int t,.int b]=some (.obj 2 ["start","goal","time","behind"] [.int s,.int g,.int t,.int b]):=rfl
theorem zv7 (s g t b:Int):Oc 3 [.int s,.int g,.int t,.int b]=some (.obj 3 ["start","goal","time","behind"] [.int s,.int g,.int t,.int b]):=rfl
theorem zv8 (a:bY)(kind:Int):Ke [gB a,.int kind]=some (bv (o8 a kind)):=by
 obtain⟨c,s,g,t,b⟩:=a
 have r1:=zv5
 have r2:=zv6
 have r3:=zv7
 unfold Ke gB o8 bv
 dsimp only
 by_cases hb:b=0
 ·by_cases hk:kind%2=0
  ·subst hb
   have:lM 0 kind=.ride:=by unfold lM;rw[if_pos ⟨rfl,hk⟩]
   rw[this]
   have e:(((0:Nat)):Int)=0:=rfl
   have hn:Kd.ride.n=1:=rfl
   walk_at "mir"
  ·have:lM b kind=.wait:=by unfold lM;rw[if_neg (λz=>hk z.2),if_neg (λz=>hk z.2)]
   rw[this]
   have hn:Kd.wait.n=2:=rfl
   have B9:(b:Int)=0:=by omega
   walk_at "mir"
 ·have B9:¬(b:Int)=0:=by omega
  have Ca:0<b:=by omega
  by_cases hk:kind%2=0
  ·have:lM b kind=.back:=by unfold lM;rw[if_neg (λz=>hb z.1),if_pos ⟨by omega,hk⟩]
   rw[this]
   have hn:Kd.back.n=3:=rfl
   clear B9
   walk_at "mir"
  ·have:lM b kind=.wait:=by unfold lM;rw[if_neg (λz=>hk z.2),if_neg (λz=>hk z.2)]
   rw[this]
   have hn:Kd.wait.n=2:=rfl
   clear B9
   walk_at "mir"
def nm (n:Nat):List D:=(ao n).map λ(k:Nat)=>D.str ("a"++yM (k:Int))
def Rh:Option D->Bool
 |some (.bl true)=>true
 |_=>false
theorem zv9 {x:Option D}(h:Rh x=true):x=some (.bl true):=by
 unfold Rh at h
 split at h
 ·rfl
 ·cases h
theorem ztr {n:Nat}(h1:1<=n)(h2:n<=8):J3 [.lst (nm n)]=some (.bl true):=by
 have:n=1\/n=2\/n=3\/n=4\/n=5\/n=6\/n=7\/n=8:=by omega
 rcases this with rfl|rfl|rfl|rfl|rfl|rfl|rfl|rfl<;>exact zv9 (by decide +kernel)
structure Drawn (many:Nat)(rk:Nat->Nat)(a:bY):Prop where
 s:a.s<many
 g:a.g<many
 t0:0<=a.t
 t1:a.t<=1000000000
 b:a.b<=4
 r:a.b=0->rk a.s<rk a.g
theorem Drawn.right {many:Nat}{rk:Nat->Nat}{a:bY}(h:Drawn many rk a)(kind:Int):Right many (o8 a kind):=by
 refine⟨h.s,h.g,h.t0,h.t1,h.b,λz=>?_,λz=>?_⟩
 ·change lM a.b kind=.ride at z
  unfold lM at z
  split at z
  ·next q=>exact q.1
  ·split at z<;>cases z
 ·change lM a.b kind=.back at z
  unfold lM at z
  split at z
  ·cases z
  ·split at z
   ·next q=>exact q.1
   ·cases z
theorem zwa {many:Nat}{rk:Nat->Nat}{as:List bY}(k:bY->Int)(h1:1<=many)(h2:many<=8)(h3:as.length<=120)(h:∀a∈as,Drawn many rk a):fP many (as.map λa=>o8 a (k a)):=by
 refine⟨h1,by omega,by rw[aB];exact h3,λb hb=>?_,rk,λb hb rK=>?_⟩
 ·obtain⟨a,ha,rfl⟩:=bE.mp hb
  exact(h a ha).right _
 ·obtain⟨a,ha,rfl⟩:=bE.mp hb
  exact(h a ha).r rK
abbrev T:=Option Int
def lt (m:Int):T->T
 |none=>none
 |some i=>some (i+m)
def mx:T->T->T
 |none,b=>b
 |a,none=>a
 |some i,some j=>some (if j > i then j else i)
theorem zts (o:T)(m:Int):KP [gN o,.int m]=some (gN (lt m o)):=by
 unfold KP
 cases o<;>simp only[gN,lt]<;>walk_at "mir"
theorem T4 (a b:T):IN [gN a,gN b]=some (gN (mx a b)):=by
 unfold IN
 cases a<;>cases b<;>simp only[gN,mx]<;>walk_at "mir"
theorem ztt (a b:T):mx a b=mx b a:=by cases a<;>cases b<;>simp only[mx];congr 1;omega
theorem Tu {κ:Type}(h:κ×D->D):∀(ks:List κ) (ds:List D),ks.zip ((ks.zip ds).map h)=(ks.zip ds).map λp=>(p.1,h p)
 |[],_=>rfl
 |_::_,[]=>rfl
 |k::ks,d::ds=>by
  show(k,h (k,d))::ks.zip ((ks.zip ds).map h)=(k,h (k,d))::(ks.zip ds).map _
  rw[Tu h ks ds]
theorem T5 {κ:Type}[DecidableEq κ]{ks:List κ}{ds:List D}(hl:ks.length=ds.length)(k k':κ)(d:D):i7 (fI ks ds k d).1 (fI ks ds k d).2 k'=if k'=k then some d else i7 ks ds k':=by
 unfold fI
 by_cases hc:ks.contains k=true
 ·rw[if_pos hc]
  unfold i7
  dsimp only
  rw[Tu,List.find?_map]
  by_cases hk:k'=k
  ·subst hk
   rw[if_pos rfl]
   have hm:k'∈ks:=by simpa using hc
   have:∃p∈ks.zip ds,p.1=k':=by
    obtain⟨i,hi,e⟩:=cY.mp hm
    refine⟨(ks[i],ds[i]),?_,e⟩
    rw[cY]
    exact⟨i,by rw[eS];omega,by simp⟩
   obtain⟨p,hp,he⟩:=this
   cases hf:(ks.zip ds).find? ((λp:κ×D=>decide (p.1=k')) ∘ λp:κ×D=>(p.1,if p.1=k' then d else p.2))with
   |none=>
    rw[rT]at hf
    have:=hf p hp
    simp[he]at this
   |some q=>
    have hq:=uY hf
    simp at hq
    simp[hq]
  ·rw[if_neg hk]
   have:((λp:κ×D=>decide (p.1=k')) ∘ λp:κ×D=>(p.1,if p.1=k then d else p.2))=λp:κ×D=>decide (p.1=k'):=rfl
   rw[this]
   cases hf:(ks.zip ds).find? λp=>decide (p.1=k')with
   |none=>rfl
   |some q=>
    have hq:=uY hf
    simp at hq
    have mN:¬q.1=k:=λz=>hk (hq▸z)
    simp[mN]
 ·rw[if_neg hc]
  unfold i7
  dsimp only
  have hz:(ks++[k]).zip (ds++[d])=ks.zip ds++[(k,d)]:=by
   rw[vA hl];rfl
  rw[hz,List.find?_append]
  by_cases hk:k'=k
  ·subst hk
   rw[if_pos rfl]
   have hn:(ks.zip ds).find? (λp=>decide (p.1=k'))=none:=by
    rw[rT]
    intro p hp
    have hm:=(hE (a:=p.1) (b:=p.2) hp).1
    have jK:¬k'∈ks:=by simpa using hc
    simp
    intro z
    exact jK (z▸hm)
   rw[hn]
   simp
  ·rw[if_neg hk]
   have:¬k=k':=λz=>hk z.symm
   cases hf:(ks.zip ds).find? (λp=>decide (p.1=k'))<;>simp[this]
theorem Pj {κ:Type}[DecidableEq κ]{ks:List κ}{ds:List D}(hl:ks.length=ds.length)(k:κ)(d:D):(fI ks ds k d).1.length=(fI ks ds k d).2.length/\(fI ks ds k d).1.length<=ks.length+1:=by
 unfold fI
 by_cases hc:ks.contains k=true
 ·rw[if_pos hc];simp;omega
 ·rw[if_neg hc];simp[hl]
abbrev Fl:=Nat×Nat×Int
def kj (q:Fl):D:=.tup [.int (q.1:Int),.int (q.2.1:Int),.int q.2.2]
def fl (fs:List Fl)(g r:Nat):T:=(fs.filter λq=>decide (q.1=g/\q.2.1=r)).foldl (λw q=>mx w (some q.2.2)) none
structure kn (d:D)(n:Nat)(f:Nat->Nat->T):Prop where
 is:∃ks ds,d=.dT ks ds/\ks.length=ds.length/\ks.length<=n/\∀g r:Nat,i7 ks ds [.inl (g:Int),.inl (r:Int)]=(f g r).map D.int
theorem kn.get {d:D}{n:Nat}{f:Nat->Nat->T}(h:kn d n f)(g r:Nat):((gM d (.tup [.int (g:Int),.int (r:Int)])).bind λr=>some (r.getD .non))=some (gN (f g r)):=by
 obtain⟨ks,ds,rfl,h1,h2,h3⟩:=h.is
 show some ((i7 ks ds [.inl (g:Int),.inl (r:Int)]).getD .non)=_
 rw[h3]
 cases f g r<;>rfl
theorem zwb (a:T)(t:Int):some (gN (mx a (some t)))=(mx a (some t)).map D.int:=by cases a<;>rfl
theorem Vh (fs:List Fl)(hl:fs.length<=1000):∃d,xx [.lst (fs.map kj)]=some d/\kn d 1000 (fl fs):=by
 obtain⟨ρ',h1,d,x2,x3,x4,pre,e1,rfl,hd⟩:=Ko (g:=gT (gsCons (gV 2) (gsCons (gV 3) (gsCons (gV 4) gsNil)))) (b:=jk) (ds:=fs.map kj) (ρ:=[some (.lst (fs.map kj)),some (.dT [] []),none,none,none])
  (λds ρ=>∃d x2 x3 x4,∃pre:List Fl,ds=pre.map kj/\ρ=[some (.lst (fs.map kj)),some d,x2,x3,x4]/\kn d pre.length (fl pre))
  ⟨_,none,none,none,[],rfl,rfl,⟨[],[],rfl,rfl,by simp,λ_ _=>rfl⟩⟩ (by
   rintro ds dd post ρ e ⟨d,x2,x3,x4,pre,rfl,rfl,hd⟩
   obtain⟨q,hq,rfl⟩:∃q,fs[pre.length]?=some q/\kj q=dd:=by
    have:=Vd e
    rw[bp,aB]at this
    exact dg.mp this
   have eo:pre.length<fs.length:=(aT.mp hq).1
   obtain⟨g,r,t⟩:=q
   have hg:=hd.get g r
   obtain⟨ks,ds,rfl,k1,k2,k3⟩:=hd.is
   have hm:=T4 (fl pre g r) (some t)
   have iU:ks.length<16777216:=by omega
   refine⟨_,_,rfl,.inl ?_,.dT (fI ks ds [.inl (g:Int),.inl (r:Int)] (gN (mx (fl pre g r) (some t)))).1 (fI ks ds [.inl (g:Int),.inl (r:Int)] (gN (mx (fl pre g r) (some t)))).2,some (.int (g:Int)),some (.int (r:Int)),some (.int t),pre++[(g,r,t)],by simp,rfl,?_⟩
   ·have hk:og [.int (g:Int),.int (r:Int)]=some [.inl (g:Int),.inl (r:Int)]:=rfl
    have he:gN (some t)=.int t:=rfl
    rw[he]at hm
    unfold jk jS
    generalize gN (fl pre g r)=z at hg hm
    clear k1 k2 k3 e hq hd
    walk_at "mir"
   ·obtain⟨p1,p2⟩:=Pj k1 [.inl (g:Int),.inl (r:Int)] (gN (mx (fl pre g r) (some t)))
    refine⟨_,_,rfl,p1,by rw[aX,cT];omega,λg' r'=>?_⟩
    rw[T5 k1]
    have hf:fl (pre++[(g,r,t)]) g' r'=if g=g'/\r=r' then mx (fl pre g' r') (some t)else fl pre g' r':=by
     unfold fl
     rw[List.filter_append,lz]
     by_cases hc:g=g'/\r=r'
     ·rw[if_pos hc];simp[hc]
     ·rw[if_neg hc]
      have:([(g,r,t)]:List Fl).filter (λq=>decide (q.1=g'/\q.2.1=r'))=[]:=by
       rw[List.filter_eq_nil_iff]
       intro q hq
       rw[az]at hq
       subst hq
       simpa using hc
      rw[this];rfl
    rw[hf]
    by_cases hc:g=g'/\r=r'
    ·obtain⟨rfl,rfl⟩:=hc
     rw[if_pos rfl,if_pos ⟨rfl,rfl⟩,zwb]
    ·rw[if_neg hc,if_neg ?_]
     ·exact k3 g' r'
     ·intro z
      simp at z
      exact hc ⟨by omega,by omega⟩)
 have:pre=fs:=by
  have hi:∀(a b:List Fl),a.map kj=b.map kj->a=b:=by
   intro a
   induction a with
   |nil=>intro b h;cases b with|nil=>rfl|cons _ _=>cases h
   |cons x a ih=>
    intro b h
    cases b with
    |nil=>cases h
    |cons y b=>
     simp only[aR,List.cons.injEq]at h
     obtain⟨h1,h2⟩:=h
     rw[ih b h2]
     obtain⟨x1,x2,x3⟩:=x
     obtain⟨y1,y2,y3⟩:=y
     simp[kj]at h1
     obtain⟨e1,e2,e3⟩:=h1
     have e1:x1=y1:=by omega
     have e2:x2=y2:=by omega
     rw[e1,e2,e3]
  exact(hi _ _ e1).symm
 subst this
 refine⟨d,?_,?_⟩
 ·unfold xx
  walk_at "mir"
 ·obtain⟨ks,ds,a,b,c,f⟩:=hd.is
  exact⟨ks,ds,a,b,by omega,f⟩
def gF (n:Nat)(f:Nat->T):List D:=(ao n).map λg=>gN (f g)
def cj (n m:Nat)(Y:Nat->Nat->T):List D:=(ao m).map λi=>D.lst (gF n (Y i))
theorem zql (n:Nat)(f:Nat->T):(gF n f).length=n:=by simp[gF]
theorem Ki (n m:Nat)(Y:Nat->Nat->T):(cj n m Y).length=m:=by simp[cj]
theorem ztu {n:Nat}(f:Nat->T){g:Nat}(h:g<n):atI (gF n f) (g:Int)=some (gN (f g)):=jv (by simp[gF,h])
theorem IJ {n:Nat}{f f':Nat->T}(h:∀g,g<n->f g=f' g):gF n f=gF n f':=by
 unfold gF
 apply eE
 intro g hg
 rw[h g (aK.mp hg)]
theorem zjq {n m:Nat}{Y Y':Nat->Nat->T}(h:∀i,i<m->∀g,g<n->Y i g=Y' i g):cj n m Y=cj n m Y':=by
 unfold cj
 apply eE
 intro i hi
 rw[IJ (h i (aK.mp hi))]
theorem zqm {n:Nat}(f:Nat->T){g:Nat}(h:g<n)(v:T):kT (gF n f) (g:Int) (gN v)=some (gF n λx=>if x=g then v else f x):=by
 unfold kT
 have hx:ixN (gF n f).length (g:Int)=some g:=by rw[zql];exact UC h
 rw[hx]
 simp only[bL,Option.some.injEq]
 apply fD
 ·simp[gF]
 ·intro i h1 h2
  simp[gF,mr]
  by_cases hi:g=i
  ·subst hi;simp
  ·rw[if_neg hi,if_neg (λz=>hi z.symm)]
def dep (as:List bY):Nat:=as.foldl (λm a=>max m a.b) 1
theorem Kw:∀(as:List bY) (m:Nat),m<=as.foldl (λm a=>max m a.b) m/\(∀a∈as,a.b<=as.foldl (λm a=>max m a.b) m)/\((∀a∈as,a.b<=4)->m<=4->as.foldl (λm a=>max m a.b) m<=4)
 |[],m=>⟨aF _,λa h=>(by cases h),λ_ h=>h⟩
 |x::as,m=>by
  obtain⟨h1,h2,h3⟩:=Kw as (max m x.b)
  refine⟨by show m<=as.foldl _ (max m x.b);omega,λa ha=>?_,λh4 hm=>h3 (λa ha=>h4 a (ai _ ha)) (by have:=h4 x aa;omega)⟩
  show a.b<=as.foldl _ (max m x.b)
  rcases aA.mp ha with rfl|ha
  ·omega
  ·exact h2 a ha
theorem Pk (as:List bY):1<=dep as:=(Kw as 1).1
theorem vM {as:List bY}{a:bY}(h:a∈as):a.b<=dep as:=(Kw as 1).2.1 a h
theorem I0 {as:List bY}(h:∀a∈as,a.b<=4):dep as<=4:=(Kw as 1).2.2 h (by decide)
theorem OL {α:Type}(f:α->Int):∀xs:List α,eL (xs.map λx=>D.int (f x))=some (xs.map f)
 |[]=>rfl
 |x::xs=>by
  show(eL (xs.map λx=>D.int (f x))).bind _=_
  rw[OL f xs];rfl
theorem Pl:∀(as:List bY) (m:Nat),(as.map λa=>(a.b:Int)).foldl max (m:Int)=((as.foldl (λm a=>max m a.b) m:Nat):Int)
 |[],m=>rfl
 |x::as,m=>by
  show(as.map λa=>(a.b:Int)).foldl max (max (m:Int) (x.b:Int))=_
  rw[show max (m:Int) (x.b:Int)=((max m x.b:Nat):Int)by omega,Pl as]
  rfl
theorem j7 (ns:List D)(as:List bY):cv [4] "names" (aY ns as)=some (.lst ns):=rfl
theorem Co (ns:List D)(as:List bY):cv [4] "arrows" (aY ns as)=some (.lst (as.map bv)):=rfl
theorem zwc {ns:List D}{as:List bY}(hl:as.length<=1000):zk [aY ns as]=some (.int (dep as:Int)):=by
 have q:∀r:L3.Env,r[0]?.join=some (aY ns as)->ut r=some (.lst (as.map λa=>D.int (a.b:Int))):=λr hr=>by
  have e:lsD (e1 (cv [4] "arrows") (eV 0)) r=some (as.map bv):=by
   have:eV 0 r=some (aY ns as):=hr
   unfold lsD e1
   rw[this];rfl
  exact wv bv (λa=>D.int (a.b:Int)) as e (by omega) λa _=>⟨_,rfl,by have:=fb a;walk_at "mir"⟩
 have m1:pL [.lst ([.int 1]++as.map λa=>D.int (a.b:Int))]=some (.int (dep as:Int)):=by
  unfold pL
  dsimp only
  have:eL ([.int 1]++as.map λa=>D.int (a.b:Int))=some (1::as.map λa=>(a.b:Int)):=by
   show(eL (as.map λa=>D.int (a.b:Int))).bind _=_
   rw[OL];rfl
  rw[this]
  show some (D.int ((as.map λa=>(a.b:Int)).foldl max ((1:Nat):Int)))=_
  rw[Pl];rfl
 have m2:dS (.lst [.int 1]) (.lst (as.map λa=>D.int (a.b:Int)))=some (.lst ([.int 1]++as.map λa=>D.int (a.b:Int))):=OU (by simp;omega)
 generalize [D.int 1]++as.map (λa=>D.int (a.b:Int))=zs at m1 m2
 unfold zk
 clear hl
 walk_at "mir"
theorem IV {m:aU}{f:List D->Option D}{ns:List D}{as:List bY}{ds:List D}(h:(["names","arrows"]:List aU).contains m=false):gO 4 m f (aY ns as) ds=f (aY ns as::ds):=by
 show(if 4=4/\(["names","arrows"]:List aU).contains m=false then f (aY ns as::ds)else none)=_
 rw[if_pos ⟨rfl,h⟩]
theorem IP {ns:List D}{as:List bY}(hl:as.length<=1000):gO 4 "most_behind" zk (aY ns as) []=some (.int (dep as:Int)):=by
 rw[IV (by decide +kernel)]
 exact zwc hl
def into (as:List bY)(g:Nat):List Nat:=(as.zipIdx.filter λp=>decide (p.1.g=g)).map (·.2)
theorem PQ {ns:List D}{as:List bY}(hl:as.length<=1000)(g:Nat):vi [aY ns as,.int (g:Int)]=some (.lst (aD (into as g))):=by
 have q:∀r:L3.Env,r[0]?.join=some (aY ns as)->r[1]?.join=some (.int (g:Int))->Oi r=some (.lst (aD (into as g))):=λr hr Yb=>by
  have e:(λρ=>((aCons (e1 (cv [4] "arrows") (eV 0)) aNil) ρ).bind λds=>match ds with|[.lst xs]=>some (eK 0 xs)|_=>none) r=some (as.zipIdx.map λp=>D.tup [.int (p.2:Int),bv p.1]):=by
   have:eV 0 r=some (aY ns as):=hr
   have e2:e1 (cv [4] "arrows") (eV 0) r=some (.lst (as.map bv)):=by unfold e1;rw[this];rfl
   show((aCons (e1 (cv [4] "arrows") (eV 0)) aNil) r).bind _=_
   unfold aCons
   rw[e2]
   show some (eK 0 (as.map bv))=_
   rw[Kv bv]
  have hc:dH r [1]=[some (.int (g:Int))]:=by unfold dH;simp[Yb]
  have:=Cz (own:=2) (cap:=[1]) (fi:=λρ=>((aCons (e1 (cv [4] "arrows") (eV 0)) aNil) ρ).bind λds=>match ds with|[.lst xs]=>some (eK 0 xs)|_=>none) (g:=gT (gsCons (gV 0) (gsCons (gV 1) gsNil))) (p:=tb (e2 (i6 false) (e1 (cv [0,1,2,3] "goal") (eV 1)) (eV 2))) (f:=eV 0) (λp:bY×Nat=>D.tup [.int (p.2:Int),bv p.1]) (λp=>decide (p.1.g=g)) (λp=>D.int (p.2:Int)) as.zipIdx e (by simp;omega) (λp _=>by
    refine⟨_,rfl,?_,λ_=>rfl⟩
    rw[hc]
    have:=fg p.1
    have hd:decide ((p.1.g:Int)=(g:Int))=decide (p.1.g=g):=by
     by_cases h:p.1.g=g
     ·simp[h]
     ·have:¬(p.1.g:Int)=(g:Int):=by omega
      simp[h,this]
    rw[←hd]
    walk_at "mir")
  rw[show Oi r=_ from this]
  unfold into aD
  rw[cA]
  rfl
 unfold vi
 clear hl
 walk_at "mir"
def tm (as:List bY)(Y:Nat->Nat->T)(L g:Nat)(w:T):T:=(as.filter λa=>decide (a.g=g)).foldl (λw a=>mx w (lt a.t (Y (L-a.b) a.s))) w
theorem zqn {xs:List D}{n b:Nat}(hn:xs.length=n+1)(hb:b<=n):atI xs (-1-(b:Int))=xs[n-b]?:=by
 unfold atI
 have:ixN xs.length (-1-(b:Int))=some (n-b):=by
  unfold ixN
  rw[if_neg (by omega),if_pos (by omega)]
  congr 1
  omega
 rw[this];rfl
def JW (Y:Nat->Nat->T)(L:Nat)(s:T×Option D×Option D)(p:bY×Nat):T×Option D×Option D:=(mx s.1 (lt p.1.t (Y (L-p.1.b) p.1.s)),some (D.int (p.2:Int)),some (bv p.1))
theorem zwd {ns:List D}{as:List bY}{many L:Nat}{Y:Nat->Nat->T}(hb:∀a∈as,a.b<=L/\a.s<many)(g:Nat)(w:T) :
  vx [aY ns as,.lst (cj many (L+1) Y),.lst (aD (into as g)),gN w]=some (gN (tm as Y L g w)):=by
 have yI:∀p∈as.zipIdx.filter (λp=>decide (p.1.g=g)),p∈as.zipIdx:=λp hp=>(aJ.mp hp).1
 have hz:=Kf (λa:bY=>decide (a.g=g)) as 0
 have hn:aD (into as g)=(as.zipIdx.filter (λp=>decide (p.1.g=g))).map λp=>D.int (p.2:Int):=by unfold into aD;rw[cA];rfl
 generalize hq:as.zipIdx.filter (λp=>decide (p.1.g=g))=ps at yI hn hz
 obtain⟨e1,_⟩:=Ox (g:=gV 5) (b:=uc) (λp:bY×Nat=>D.int (p.2:Int)) (λs:T×Option D×Option D=>[some (aY ns as),some (.lst (cj many (L+1) Y)),some (.lst (aD (into as g))),some (gN w),some (gN s.1),s.2.1,s.2.2])
  (JW Y L) (λ_=>True) ps (w,none,none) trivial (λs p hp _=>by
   refine⟨_,rfl,.inl ?_,trivial⟩
   unfold JW
   have hp:=K1 (yI p hp)
   have hm:p.1∈as:=bT.mpr ⟨_,hp⟩
   have f1:=fs p.1
   have f2:=ft p.1
   have f3:=fb p.1
   have f4:=Co ns as
   have i1:dz (.lst (as.map bv)) (.int (p.2:Int))=some (bv p.1):=jv (by rw[bp,hp];rfl)
   have i2:dz (.lst (cj many (L+1) Y)) (.int (-1-(p.1.b:Int)))=some (.lst (gF many (Y (L-p.1.b)))):=by
    show atI _ _=_
    rw[zqn (n:=L) (by rw[Ki]) (hb p.1 hm).1]
    unfold cj
    rw[bp,eD (by omega)]
    rfl
   have i3:dz (.lst (gF many (Y (L-p.1.b)))) (.int (p.1.s:Int))=some (gN (Y (L-p.1.b) p.1.s)):=ztu _ (hb p.1 hm).2
   have l1:=zts (Y (L-p.1.b) p.1.s) p.1.t
   have l2:=T4 s.1 (lt p.1.t (Y (L-p.1.b) p.1.s))
   unfold uc
   clear hp hm hb hn hz yI hq
   walk_at "mir")
 have e2:∀(ps:List (bY×Nat)) (s:T×Option D×Option D),(ps.foldl (JW Y L) s).1=(ps.map (·.1)).foldl (λw a=>mx w (lt a.t (Y (L-a.b) a.s))) s.1:=by
  intro ps
  induction ps with
  |nil=>exactλs=>rfl
  |cons p ps ih=>intro s;rw[fM,ih];rfl
 have e3:=e2 ps (w,none,none)
 rw[hz]at e3
 generalize ps.foldl (JW Y L) (w,none,none)=S at e1 e3
 have e4:S.1=tm as Y L g w:=e3
 rw[e4,←hn]at e1
 unfold vx
 clear hn hz yI hq e2 e3 e4 hb
 walk_at "mir"
def wr (Y:Nat->Nat->T)(L:Nat)(Z:Nat->T):Nat->Nat->T:=λi g=>if i=L then Z g else Y i g
theorem T6 {as:List bY}{Y Y':Nat->Nat->T}{L g:Nat}(w:T)(h:∀a∈as,a.g=g->Y (L-a.b) a.s=Y' (L-a.b) a.s):tm as Y L g w=tm as Y' L g w:=by
 unfold tm
 have h2:∀a∈as.filter (λa=>decide (a.g=g)),Y (L-a.b) a.s=Y' (L-a.b) a.s:=λa ha=>by
  have:=aJ.mp ha
  exact h a this.1 (by simpa using this.2)
 generalize as.filter (λa=>decide (a.g=g))=bs at h2
 induction bs generalizing w with
 |nil=>rfl
 |cons b bs ih=>
  rw[fM,fM,h2 b aa]
  exact ih _ λa ha=>h2 a (ai _ ha)
theorem zqo {many L x:Nat}{Y:Nat->Nat->T}(hx:x<many)(v:T):(cj many (L+1) Y).set L (.lst (gF many λy=>if y=x then v else Y L y))=cj many (L+1) (wr Y L λy=>if y=x then v else Y L y):=by
 apply fD
 ·simp[cj]
 ·intro i h1 h2
  have hi:i<L+1:=by simpa[cj]using h2
  rw[mr]
  by_cases hL:L=i
  ·subst hL
   rw[if_pos rfl]
   simp only[cj,iV,fQ]
   congr 1
   exact IJ λg _=>by simp[wr]
  ·rw[if_neg hL]
   have:¬i=L:=λz=>hL z.symm
   simp only[cj,iV,fQ]
   congr 1
   exact IJ λg _=>by simp[wr,this]
theorem zxj {ns:List D}{as:List bY}{many L r depth rounds:Nat}{Y:Nat->Nat->T}{f:Nat->Nat->T}{d:D}{n:Nat}{ke oZ x9 x10:Option D}{p:List Nat}(hd:kn d n f)(hb:∀a∈as,a.b<=L/\a.s<many)(ok:Kahn.Ok (W0 as) many p)(hn:ns.length=many)(hm:many<=1000)
  (aP:D) (m8:∀g,g<many->dz aP (.int (g:Int))=some (.lst (aD (into as g)))) :
  ∃(Z:Nat->T) (y9 uO:Option D),eG (gV 9) vz (aD p) [some (aY ns as),some (.int (rounds:Int)),ke,oZ,some (.lst (cj many (L+1) Y)),some d,some aP,some (.lst (aD p)),some (.int (r:Int)),x9,x10] =
   some (.nx [some (aY ns as),some (.int (rounds:Int)),ke,oZ,some (.lst (cj many (L+1) (wr Y L Z))),some d,some aP,some (.lst (aD p)),some (.int (r:Int)),y9,uO])/\∀g∈p,Z g=tm as (wr Y L Z) L g (f g r):=by
 obtain⟨ρ',h1,pre,Z,y9,uO,e1,⟨post,e2⟩,hZ,rfl⟩:=Ko (g:=gV 9) (b:=vz) (ds:=aD p) (ρ:=[some (aY ns as),some (.int (rounds:Int)),ke,oZ,some (.lst (cj many (L+1) Y)),some d,some aP,some (.lst (aD p)),some (.int (r:Int)),x9,x10])
  (λds ρ=>∃(pre:List Nat) (Z:Nat->T) (y9 uO:Option D),ds=aD pre/\(∃post,p=pre++post)/\(∀g∈pre,Z g=tm as (wr Y L Z) L g (f g r))/\ρ=[some (aY ns as),some (.int (rounds:Int)),ke,oZ,some (.lst (cj many (L+1) (wr Y L Z))),some d,some aP,some (.lst (aD p)),some (.int (r:Int)),y9,uO])
  ⟨[],Y L,x9,x10,rfl,⟨p,rfl⟩,λg hg=>(by cases hg),by
   have:wr Y L (Y L)=Y:=by
    funext i g
    unfold wr
    by_cases h:i=L
    ·rw[if_pos h,h]
    ·rw[if_neg h]
   rw[this]⟩ (by
  rintro ds dd post ρ e ⟨pre,Z,y9,uO,rfl,⟨jR,e'⟩,hZ,rfl⟩
  have e3:aD jR=dd::post:=by
   have:aD p=aD pre++aD jR:=by rw[e'];simp[aD]
   rw[this]at e
   exact oT e
  cases jR with
  |nil=>cases e3
  |cons x jR=>
   have wI:dd=.int (x:Int):=by
    have:aD (x::jR)=.int (x:Int)::aD jR:=rfl
    rw[this]at e3
    cases e3
    rfl
   subst wI
   have hx:x∈p:=by rw[e'];simp
   have Np:=ok.lt x hx
   have FO:p[pre.length]?=some x:=by rw[e'];simp
   have t8:∀a∈as,a.b=0->a.g=x->a.s∈pre:=λa ha h0 hg=>by
    have:=ok.ord pre.length x FO a (aJ.mpr ⟨ha,by simpa using h0⟩) hg
    rw[e',uX]at this
    ·exact this
    ·rfl
   have JB:x∉pre:=λz=>by
    have:=ok.nd
    rw[e',bq]at this
    exact this.2.2 x z x aa rfl
   have t4:∀g∈pre,∀a∈as,a.b=0->a.g=g->a.s≠x:=λg hg a ha h0 iK z=>by
    obtain⟨i,hi,ei⟩:=cY.mp hg
    have sy:p[i]?=some g:=by rw[e',ck hi];simp[hi,ei]
    have:=ok.ord i g sy a (aJ.mpr ⟨ha,by simpa using h0⟩) iK
    rw[e',gU (by omega)]at this
    exact JB (z▸jZ this)
   have XR:=hd.get x r
   have X3:=m8 x Np
   have FX:=zwd (ns:=ns) (Y:=wr Y L Z) hb x (f x r)
   have key:∀g,(∀a∈as,a.g=g->a.b=0->a.s≠x)->∀(v w:T),tm as (wr Y L λy=>if y=x then v else Z y) L g w=tm as (wr Y L Z) L g w:=λg hg v w=>by
    refine T6 w λa ha iK=>?_
    unfold wr
    by_cases hL:L-a.b=L
    ·rw[if_pos hL,if_pos hL]
     dsimp only
     rw[if_neg ?_]
     by_cases h0:a.b=0
     ·exact hg a ha iK h0
     ·have:=(hb a ha).1
      omega
    ·rw[if_neg hL,if_neg hL]
   generalize hv:tm as (wr Y L Z) L x (f x r)=v at FX
   refine⟨_,_,rfl,.inl ?_,pre++[x],λy=>if y=x then v else Z y,some (.int (x:Int)),some (gN (f x r)),(OK pre x).symm▸rfl,⟨jR,by rw[e'];simp⟩,?_,rfl⟩
   ·have FP:=zqo (many:=many) (L:=L) (x:=x) (Y:=wr Y L Z) Np v
    have hY:(wr (wr Y L Z) L λy=>if y=x then v else wr Y L Z L y)=wr Y L λy=>if y=x then v else Z y:=by
     funext i g
     unfold wr
     by_cases h:i=L<;>simp[h]
    have Yd:kT (gF many (wr Y L Z L)) (x:Int) (gN v)=some (gF many λy=>if y=x then v else wr Y L Z L y):=zqm _ Np v
    rw[hY]at FP
    have XU:ixN (cj many (L+1) (wr Y L Z)).length (-1)=some L:=by
     rw[Ki]
     unfold ixN
     rw[if_neg (by omega),if_pos (by omega)]
     congr 1
     omega
    have Nh:(cj many (L+1) (wr Y L Z))[L]?=some (.lst (gF many (wr Y L Z L))):=by
     unfold cj
     rw[bp,eD (by omega)]
     rfl
    unfold vz rh
    clear key t4 t8 JB FO hx hv e e' e3 hZ ok hb hd m8
    walk_at "mir"
   ·intro g hg
    rcases bc.mp hg with hg|hg
    ·have mN:g≠x:=λz=>JB (z▸hg)
     dsimp only
     rw[if_neg mN,key g (λa ha iK h0=>t4 g hg a ha h0 iK)]
     exact hZ g hg
    ·rw[az]at hg
     subst hg
     dsimp only
     rw[if_pos rfl,key g (λa ha iK h0 z=>JB (z▸t8 a ha h0 iK)),hv])
 have oN:pre=p:=by
  have hl:=congrArg gR e1
  simp[aD]at hl
  rw[e2,aX]at hl
  have:post=[]:=gQ (by omega)
  rw[e2,this,cu]
 subst oN
 exact⟨Z,y9,uO,h1,hZ⟩
structure Run (as:List bY)(many depth rounds:Nat)(past:Nat->Nat->T)(f:Nat->Nat->T)(Y:Nat->Nat->T):Prop where
 past:∀i,i<depth->∀g,g<many->Y i g=past i g
 rc:∀r,r<rounds->∀g,g<many->Y (depth+r) g=tm as Y (depth+r) g (f g r)
theorem zn5 {many m:Nat}(Y:Nat->Nat->T)(Z:Nat->T):cj many m Y++[D.lst (gF many Z)]=cj many (m+1) (wr Y m Z):=by
 unfold cj
 rw[List.range_succ,dk]
 congr 1
 ·apply eE
  intro i hi
  have:i≠m:=by have:=aK.mp hi;omega
  congr 1
  exact IJ λg _=>by simp[wr,this]
 ·simp only[aR,lA]
  congr 2
  exact IJ λg _=>by simp[wr]
theorem zn6 {ns:List D}{as:List bY}{many:Nat}(h:fP many as)(hn:ns.length=many):∃p:List Nat,gO 4 "order" J5 (aY ns as) []=some (.lst (aD p))/\Kahn.Ok (W0 as) many p/\p.length=many/\∀g,g<many->g∈p:=by
 obtain⟨p,h1,h2⟩:=h.placed
 refine⟨p,?_,h2⟩
 rw[IV (by decide +kernel)]
 have f1:=j7 ns as
 have f2:=Co ns as
 rw[←hn]at h1
 unfold J5
 clear hn h h2
 walk_at "mir"
theorem zn7 {ns:List D}{as:List bY}{many:Nat}(hl:as.length<=1000)(hn:ns.length=many)(hm:many<=1000)(r:L3.Env)(hr:r[0]?.join=some (aY ns as)):qm r=some (.lst ((ao many).map λg=>D.lst (aD (into as g)))):=by
 have e:eN dL (aCons (e1 (cv [4] "names") (eV 0)) aNil) r=some (.int (many:Int)):=by
  have:eV 0 r=some (aY ns as):=hr
  have f1:=j7 ns as
  subst hn
  have e2:e1 (cv [4] "names") (eV 0) r=some (.lst ns):=by unfold e1;rw[this];exact f1
  unfold eN aCons
  rw[e2];rfl
 refine wv (λ(t:Nat)=>D.int (t:Int)) (λg=>D.lst (aD (into as g))) (ao many) (BS e (by omega)) (by rw[bi];omega) λg _=>⟨_,rfl,?_⟩
 have hc:dH r [0]=[some (aY ns as)]:=by unfold dH;simp[hr]
 rw[hc]
 have h1:=PQ (ns:=ns) hl g
 have h2:gO 4 "into" vi (aY ns as) [.int (g:Int)]=some (.lst (aD (into as g))):=by rw[IV (by decide +kernel)];exact h1
 clear hn hl hm e
 walk_at "mir"
theorem zwe {ns:List D}{as:List bY}{many rounds:Nat}{d0 ke oZ d:D}{past:Nat->Nat->T}{f:Nat->Nat->T}{n:Nat}(h:fP many as)(hn:ns.length=many)(hr:rounds<=1000)(ha:vn [aY ns as,ke]=some (.lst (cj many (dep as) past)))
  (hf:(oZ=.non/\xx [.lst []]=some d)\/∃ds,oZ=.lst ds/\xx [.lst ds]=some d) (hd:kn d n f) :
  ∃Y,um [aY ns as,.int (rounds:Int),ke,oZ]=some (.lst (cj many (dep as+rounds) Y))/\Run as many (dep as) rounds past f Y:=by
 obtain⟨p,hp,ok,iL,pI⟩:=zn6 h hn
 have eo:=h.len
 have oM:=h.le
 have m6:=I0 λa ha=>(h.right a ha).b
 have aP:=zn7 (ns:=ns) (as:=as) (many:=many) (by omega) hn (by omega)
 have m8:∀g,g<many->dz (.lst ((ao many).map λg=>D.lst (aD (into as g)))) (.int (g:Int))=some (.lst (aD (into as g))):=λg hg=>jv (by simp[hg])
 generalize (D.lst ((ao many).map λg=>D.lst (aD (into as g))))=N at aP m8
 obtain⟨ρ',h1,Y,y8,y9,uO,rfl,run⟩:=SO (g:=gV 8) (b:=u8) (lo:=0) (n:=rounds) (ρ:=[some (aY ns as),some (.int (rounds:Int)),some ke,some oZ,some (.lst (cj many (dep as) past)),some d,some N,some (.lst (aD p)),none,none,none])
  (λr ρ=>∃Y y8 y9 uO,ρ=[some (aY ns as),some (.int (rounds:Int)),some ke,some oZ,some (.lst (cj many (dep as+r) Y)),some d,some N,some (.lst (aD p)),y8,y9,uO]/\Run as many (dep as) r past f Y)
  ⟨past,none,none,none,rfl,λ_ _ _ _=>rfl,λr hr=>by omega⟩ (by
   rintro r ρ Ya ⟨Y,y8,y9,uO,rfl,run⟩
   obtain⟨Z,z9,z10,hz,hZ⟩:=zxj (ns:=ns) (as:=as) (many:=many) (L:=dep as+r) (r:=r) (depth:=0) (rounds:=rounds) (Y:=wr Y (dep as+r) λ_=>none) (ke:=some ke) (oZ:=some oZ) (x9:=y9) (x10:=uO) (p:=p) hd (λa ha=>⟨by have:=vM ha;omega,(h.right a ha).s⟩) ok hn (by omega) N m8
   have hw:wr (wr Y (dep as+r) λ_=>none) (dep as+r) Z=wr Y (dep as+r) Z:=by
    funext i g
    unfold wr
    by_cases hi:i=dep as+r<;>simp[hi]
   rw[hw]at hz hZ
   refine⟨_,_,rfl,.inl ?_,wr Y (dep as+r) Z,some (.int (r:Int)),z9,z10,rfl,?_,?_⟩
   ·have e0:(0:Int)+(r:Int)=(r:Int):=by omega
    have rp:lO (.lst [.non]) (.int (ns.length:Int))=some (.lst (gF many λ_=>none)):=by
     unfold lO
     dsimp only
     rw[if_pos ⟨by omega,by omega,by simp⟩]
     congr 2
     unfold gF
     rw[jH,bi]
     simp[hn,gN]
    have qU:(cj many (dep as+r) Y).length<16777216:=by rw[Ki];omega
    have hsn:=zn5 (many:=many) (m:=dep as+r) Y λ_=>none
    have f1:=j7 ns as
    rw[e0]
    unfold u8
    clear hZ hw m8 aP run pI ok hp h hn ha hf hd eo oM m6 hr Ya
    walk_at "mir"
    rfl
   ·intro i hi g hg
    unfold wr
    rw[if_neg (by omega)]
    exact run.past i hi g hg
   ·intro r2 Bd g hg
    by_cases he:r2=r
    ·subst he
     have:wr Y (dep as+r2) Z (dep as+r2) g=Z g:=by simp[wr]
     rw[this]
     exact hZ g (pI g hg)
    ·have h3:wr Y (dep as+r) Z (dep as+r2) g=Y (dep as+r2) g:=by unfold wr;rw[if_neg (by omega)]
     rw[h3,run.rc r2 (by omega) g hg]
     refine T6 _ λa _ _=>?_
     unfold wr
     rw[if_neg (by omega)])
 refine⟨Y,?_,run⟩
 have r1:hV [.int (rounds:Int)]=some (fL 0 rounds):=by
  rw[BM (by omega) (by omega)]
  simp
 have Rz:=aP [some (aY ns as),some (.int (rounds:Int)),some ke,some oZ,some (.lst (cj many (dep as) past)),some d,none,none,none,none,none] rfl
 unfold um
 clear hd aP m8 run pI ok h hn eo oM m6 hr iL
 rcases hf with⟨rfl,hf⟩|⟨ds,rfl,hf⟩
 ·walk_at "mir"
 ·walk_at "mir"
theorem zn8 {many k n:Nat}(Y:Nat->Nat->T)(h:n<=k):(cj many k Y).take n=cj many n Y:=by
 unfold cj
 rw[←List.map_take,List.take_range,nq h]
theorem zn9 {many k n:Nat}(Y:Nat->Nat->T):(cj many (n+k) Y).drop n=cj many k λr g=>Y (n+r) g:=by
 apply fD
 ·simp[cj]
 ·intro i h1 h2
  simp only[cj,List.getElem_drop,iV,fQ]
theorem zqp {many n:Nat}(Y:Nat->Nat->T):(cj many n Y).reverse=cj many n λi g=>Y (n-1-i) g:=by
 apply fD
 ·simp[cj]
 ·intro i h1 h2
  simp only[cj,List.getElem_reverse,iV,fQ,aB,bi]
theorem zin {ns:List D}{as:List bY}{many:Nat}(h:fP many as)(hn:ns.length=many):vn [aY ns as,.non]=some (.lst (cj many (dep as) λ_ _=>some 0)):=by
 have eo:=h.len
 have oM:=h.le
 have m6:=I0 λa ha=>(h.right a ha).b
 have mo:=IP (ns:=ns) (as:=as) (by omega)
 have q:∀r:L3.Env,r[0]?.join=some (aY ns as)->r[2]?.join=some (.int (dep as:Int))->Sk r=some (.lst (cj many (dep as) λ_ _=>some 0)):=λr h0 h2=>by
  refine wv (λ(t:Nat)=>D.int (t:Int)) (λ_=>D.lst (gF many λ_=>some 0)) (ao (dep as)) (BS h2 (by omega)) (by rw[bi];omega) λg _=>⟨_,rfl,?_⟩
  have hc:dH r [0]=[some (aY ns as)]:=by unfold dH;simp[h0]
  rw[hc]
  have rp:lO (.lst [.int 0]) (.int (ns.length:Int))=some (.lst (gF many λ_=>some 0)):=by
   unfold lO
   dsimp only
   rw[if_pos ⟨by omega,by omega,by simp⟩]
   congr 2
   unfold gF
   rw[jH,bi]
   simp[hn,gN]
  have f1:=j7 ns as
  clear hn h eo oM m6 mo
  walk_at "mir"
 unfold vn
 clear h hn eo oM m6
 walk_at "mir"
theorem zjt {ns:List D}{as:List bY}{many k:Nat}{w:Nat->Nat->T}(h:fP many as)(hk:dep as<=k):vn [aY ns as,.lst (cj many k w)]=some (.lst (cj many (dep as) λi g=>w (dep as-1-i) g)):=by
 have eo:=h.len
 have m6:=I0 λa ha=>(h.right a ha).b
 have mo:=IP (ns:=ns) (as:=as) (by omega)
 have q:∀r:L3.Env,r[1]?.join=some (.lst (cj many k w))->r[2]?.join=some (.int (dep as:Int))->Sj r=some (.lst (cj many (dep as) λi g=>w (dep as-1-i) g)):=λr h1 h2=>by
  refine wv (λ(i:Nat)=>D.lst (gF many λg=>w (dep as-1-i) g)) (λ(i:Nat)=>D.lst (gF many λg=>w (dep as-1-i) g)) (ao (dep as)) ?_ (by rw[bi];omega) λg _=>⟨_,rfl,rfl⟩
  have e1:eV 1 r=some (.lst (cj many k w)):=h1
  have e2:pInt (eV 2) r=some (some (dep as:Int)):=by unfold pInt;have:eV 2 r=some (.int (dep as:Int)):=h2;rw[this];rfl
  have e3:jT (.lst (cj many k w)) none (some (dep as:Int))=some (.lst (cj many (dep as) w)):=by
   rw[zbr,znb _ (dep as),zn8 w hk]
  have e4:(λρ=>((eV 1) ρ).bind λd=>(pNo ρ).bind λl=>((pInt (eV 2)) ρ).bind λh=>jT d l h) r=some (.lst (cj many (dep as) w)):=by
   show((eV 1) r).bind _=_
   rw[e1]
   show((pInt (eV 2)) r).bind _=_
   rw[e2]
   exact e3
  show((lsD _) r).bind _=_
  unfold lsD
  rw[e4]
  show some (cj many (dep as) w).reverse=_
  rw[zqp]
  rfl
 unfold vn
 clear h eo m6 hk
 walk_at "mir"
inductive rE (as:List bY)(many:Nat):D->(Nat->Nat->T)->Prop
 |no:rE as many .non λ_ _=>some 0
 |some (k:Nat) (w:Nat->Nat->T) (hk:dep as<=k):rE as many (.lst (cj many k w)) λi g=>w (dep as-1-i) g
inductive zC:D->(Nat->Nat->T)->Prop
 |no:zC .non λ_ _=>none
 |some (fs:List Fl) (h:fs.length<=1000):zC (.lst (fs.map kj)) (fl fs)
theorem zxk {ns:List D}{as:List bY}{many rounds:Nat}{ke oZ:D}{past:Nat->Nat->T}{f:Nat->Nat->T}(h:fP many as)(hn:ns.length=many)(hr:rounds<=1000)(hw:rE as many ke past)(hf:zC oZ f) :
  ∃Y,BX [aY ns as,.int (rounds:Int),ke,oZ]=some (.lst (cj many rounds λr g=>Y (dep as+r) g))/\Run as many (dep as) rounds past f Y:=by
 have ha:vn [aY ns as,ke]=some (.lst (cj many (dep as) past)):=by
  cases hw with
  |no=>exact zin h hn
  |some k w hk=>exact zjt h hk
 obtain⟨d,QS,hd2⟩:∃d,((oZ=.non/\xx [.lst []]=some d)\/∃ds,oZ=.lst ds/\xx [.lst ds]=some d)/\kn d 1000 f:=by
  cases hf with
  |no=>
   obtain⟨d,h1,h2⟩:=Vh [] (by simp)
   exact⟨d,.inl ⟨rfl,h1⟩,h2⟩
  |some fs hl=>
   obtain⟨d,h1,h2⟩:=Vh fs hl
   exact⟨d,.inr ⟨_,rfl,h1⟩,h2⟩
 obtain⟨Y,h1,h2⟩:=zwe (d0:=.non) h hn hr ha QS hd2
 refine⟨Y,?_,h2⟩
 have mo:=IP (ns:=ns) (as:=as) (by have:=h.len;omega)
 have e3:jT (.lst (cj many (dep as+rounds) Y)) (some (dep as:Int)) none=some (.lst (cj many rounds λr g=>Y (dep as+r) g)):=by
  rw[zbr,Tr _ (dep as),zn9]
 unfold BX
 clear h hn hr hw hf ha QS hd2 h2
 walk_at "mir"
def ge (x:T)(v:Int):Prop:=∃y,x=some y/\v<=y
theorem Vi {a:T}(b:T){v:Int}(h:ge a v):ge (mx a b) v:=by
 obtain⟨y,rfl,hy⟩:=h
 cases b with
 |none=>exact⟨y,rfl,hy⟩
 |some j=>exact⟨_,rfl,by split<;>omega⟩
theorem zwf (a:T){b:T}{v:Int}(h:ge b v):ge (mx a b) v:=by rw[ztt];exact Vi a h
theorem UQ {α:Type}(F:α->T){v:Int}:∀(xs:List α) (w:T),(ge w v\/∃a∈xs,ge (F a) v)->ge (xs.foldl (λw a=>mx w (F a)) w) v
 |[],w,h=>by
  rcases h with h|⟨a,ha,_⟩
  ·exact h
  ·cases ha
 |x::xs,w,h=>by
  refine UQ F xs _ ?_
  rcases h with h|⟨a,ha,h⟩
  ·exact .inl (Vi _ h)
  ·rcases aA.mp ha with rfl|ha
   ·exact .inl (zwf _ h)
   ·exact .inr ⟨a,ha,h⟩
theorem zwg {as:List bY}(hl:as.length<=1000):dS (.lst [.int 1]) (.lst (as.map λa=>D.int (a.b:Int)))=some (.lst ([.int 1]++as.map λa=>D.int (a.b:Int)))/\pL [.lst ([.int 1]++as.map λa=>D.int (a.b:Int))]=some (.int (dep as:Int)):=by
 refine⟨OU (by simp;omega),?_⟩
 unfold pL
 dsimp only
 have:eL ([.int 1]++as.map λa=>D.int (a.b:Int))=some (1::as.map λa=>(a.b:Int)):=by
  show(eL (as.map λa=>D.int (a.b:Int))).bind _=_
  rw[OL];rfl
 rw[this]
 show some (D.int ((as.map λa=>(a.b:Int)).foldl max ((1:Nat):Int)))=_
 rw[Pl];rfl
theorem zwh (as:List bY)(k:bY->Int):dep (as.map λa=>o8 a (k a))=dep as:=by
 unfold dep
 rw[List.foldl_map]
 rfl
theorem ztv (g:Nat)(hg:g<=1000000):sI [.int (g:Int)]=some (.str (yM (g:Int)))/\dS (.str "a") (.str (yM (g:Int)))=some (.str ("a"++yM (g:Int))):=by
 have h:Sz 1900 (g:Int):=by
  show(g:Int).natAbs<2 ^ 1900
  have:(2:Nat) ^ 20<=2 ^ 1900:=dE (by decide) (by decide)
  omega
 have h2:=zs6 h
 have h3:("a":aU).length=1:=by decide
 exact⟨zpt h,zpj (by omega)⟩
def bK (n m:Nat)(X:Nat->Nat->Int):List D:=cj n m λi g=>some (X i g)
theorem Kx {n m i:Nat}{X:Nat->Nat->Int}(hi:i<m):dz (.lst (bK n m X)) (.int (i:Int))=some (.lst (cC n (X i))):=jv (by unfold bK cj;rw[bp,eD hi];rfl)
theorem zob (n m:Nat)(X:Nat->Nat->Int):(bK n m X).length=m:=Ki _ _ _
theorem T7 {α:Type}(f g:α->D):∀xs:List α,ky (xs.map f) (xs.map g)=xs.map λx=>.tup [f x,g x]
 |[]=>rfl
 |x::xs=>by show D.tup [f x,g x]::ky (xs.map f) (xs.map g)=_;rw[T7 f g xs];rfl
theorem OM {many m f c:Nat}{X:Nat->Nat->Int}(hm:many<=1000)(h:f+c<m):j6 [.lst (bK many m X),.int (f:Int),.int (c:Int)]=some (.lst (cC many λg=>X (f+c) g-X f g)):=by
 have i1:=Kx (n:=many) (X:=X) (i:=f) (m:=m) (by omega)
 have i2:=Kx (n:=many) (X:=X) (i:=f+c) (m:=m) h
 have e:((f+c:Nat):Int)=(f:Int)+(c:Int):=by omega
 rw[e]at i2
 have q:SX [some (.lst (bK many m X)),some (.int (f:Int)),some (.int (c:Int))]=some (.lst (cC many λg=>X (f+c) g-X f g)):=by
  refine wv (λ(g:Nat)=>D.tup [.int (X f g),.int (X (f+c) g)]) (λg=>D.int (X (f+c) g-X f g)) (ao many) ?_ (by rw[bi];omega) λg _=>⟨_,rfl,rfl⟩
  have:(aCons (e2 dz (eV 0) (eV 1)) (aCons (e2 dz (eV 0) (e2 dS (eV 1) (eV 2))) aNil)) [some (.lst (bK many m X)),some (.int (f:Int)),some (.int (c:Int))]=some [.lst (cC many (X f)),.lst (cC many (X (f+c)))]:=by
   generalize cC many (X (f+c))=v2,cC many (X f)=v1,bK many m X=rs at *
   clear hm h e
   walk_at "mir"
  show((aCons (e2 dz (eV 0) (eV 1)) (aCons (e2 dz (eV 0) (e2 dS (eV 1) (eV 2))) aNil)) [some (.lst (bK many m X)),some (.int (f:Int)),some (.int (c:Int))]).bind BV=_
  rw[this]
  show some (ky (cC many (X f)) (cC many (X (f+c))))=_
  unfold cC
  rw[T7]
 generalize (cC many λg=>X (f+c) g-X f g)=v at *
 unfold j6
 clear i1 i2 e hm h
 walk_at "mir"
theorem Tv {α:Type}(f:α->Bool):∀xs:List α,jO (xs.map λx=>D.bl (f x))=some (xs.map f)
 |[]=>rfl
 |x::xs=>by
  show(jO (xs.map λx=>D.bl (f x))).bind _=_
  rw[Tv f xs]
  rfl
theorem all_map {α:Type}(f:α->Bool)(xs:List α):tS [.lst (xs.map λx=>D.bl (f x))]=some (.bl (xs.all f)):=by
 show(jO _).bind _=_
 rw[Tv]
 show some (D.bl ((xs.map f).all id))=_
 rw[List.all_map]
 rfl
theorem Vj (neg:Bool)(n:Nat)(f f':Nat->Int):i6 neg (.lst (cC n f)) (.lst (cC n f'))=some (.bl (if neg then !decide (∀g,g<n->f g=f' g)else decide (∀g,g<n->f g=f' g))):=by
 have:=(El Ei).eq (by decide) (neg:=neg) ((ao n).map f) ((ao n).map f')
 have e:∀f:Nat->Int,(El Ei).enc ((ao n).map f)=.lst (cC n f):=λf=>by
  show D.lst (((ao n).map f).map D.int)=_
  rw[cA]
  rfl
 rw[e,e]at this
 have hd:decide ((ao n).map f=(ao n).map f')=decide (∀g,g<n->f g=f' g):=by
  apply decide_eq_decide.mpr
  rw[List.map_inj_left]
  exact⟨λh g hg=>h g (aK.mpr hg),λh g hg=>h g (aK.mp hg)⟩
 rw[hd]at this
 exact this
theorem ztw {many m f n c:Nat}{X:Nat->Nat->Int}{L:Nat->Int}(hm:many<=1000)(jK:m<=1000)(hn:1<=n)(h:f+n+c<=m):Kc [.lst (bK many m X),.int (f:Int),.int (f+n-1:Int),.int (c:Int),.lst (cC many L)]=some (.bl ((ao n).all λi=>decide (∀g,g<many->X (f+i+c) g-X (f+i) g=L g))):=by
 have q:Sy [some (.lst (bK many m X)),some (.int (f:Int)),some (.int (f+n-1:Int)),some (.int (c:Int)),some (.lst (cC many L))]=some (.lst ((ao n).map λi=>D.bl (decide (∀g,g<many->X (f+i+c) g-X (f+i) g=L g)))):=by
  refine wv (λ(i:Nat)=>D.int ((f:Int)+(i:Int))) (λi=>D.bl (decide (∀g,g<many->X (f+i+c) g-X (f+i) g=L g))) (ao n) ?_ (by rw[bi];omega) λi hi=>⟨_,rfl,?_⟩
  ·have er:(aCons (eV 1) (aCons (e2 dS (eV 2) (eC (.int 1))) aNil)) [some (.lst (bK many m X)),some (.int (f:Int)),some (.int (f+n-1:Int)),some (.int (c:Int)),some (.lst (cC many L))]=some [.int (f:Int),.int ((f+n-1:Int)+1)]:=by
    generalize (f+n-1:Int)=z
    rfl
   show((aCons (eV 1) (aCons (e2 dS (eV 2) (eC (.int 1))) aNil)) [some (.lst (bK many m X)),some (.int (f:Int)),some (.int (f+n-1:Int)),some (.int (c:Int)),some (.lst (cC many L))]).bind nQ=_
   rw[er,bL,Kq (by omega) (by omega) (by omega) (by omega),show((f+n-1:Int)+1-(f:Int)).toNat=n by omega]
   rfl
  ·have hi:=aK.mp hi
   have hg:=OM (many:=many) (m:=m) (f:=f+i) (c:=c) (X:=X) hm (by omega)
   have he:=Vj false many (λg=>X (f+i+c) g-X (f+i) g) L
   have e:((f+i:Nat):Int)=(f:Int)+(i:Int):=by omega
   rw[e]at hg
   rw[if_neg (by decide)]at he
   generalize (cC many λg=>X (f+i+c) g-X (f+i) g)=v,cC many L=vl,bK many m X=rs,decide (∀g,g<many->X (f+i+c) g-X (f+i) g=L g)=bb at *
   have fF:dH [some (.lst rs),some (.int (f:Int)),some (.int (f+n-1:Int)),some (.int (c:Int)),some (.lst vl)] [0,3,4]=[some (.lst rs),some (.int (c:Int)),some (.lst vl)]:=rfl
   rw[fF]
   clear hm jK hn h e hi fF
   walk_at "mir"
 have a1:=all_map (λi=>decide (∀g,g<many->X (f+i+c) g-X (f+i) g=L g)) (ao n)
 generalize ((ao n).map λi=>D.bl (decide (∀g,g<many->X (f+i+c) g-X (f+i) g=L g)))=bs,((ao n).all λi=>decide (∀g,g<many->X (f+i+c) g-X (f+i) g=L g))=bb,cC many L=vl,bK many m X=rs at *
 unfold Kc
 clear hm jK hn h
 walk_at "mir"
theorem CI {n g:Nat}{f:Nat->Int}(h:g<n):dz (.lst (cC n f)) (.int (g:Int))=some (.int (f g)):=zev f h
theorem ztx {ns:List D}{as:List bY}{many:Nat}{L:Nat->Int}(hl:as.length<=1000)(hs:∀a∈as,a.s<many/\a.g<many):uo [aY ns as,.lst (cC many L)]=some (.bl (as.all λa=>decide (L a.s<=L a.g))):=by
 have q:qo [some (aY ns as),some (.lst (cC many L))]=some (.lst (as.map λa=>D.bl (decide (L a.s<=L a.g)))):=by
  refine wv bv (λa=>D.bl (decide (L a.s<=L a.g))) as (by unfold lsD;rfl) (by omega) λa ha=>⟨_,rfl,?_⟩
  obtain⟨h1,h2⟩:=hs a ha
  have i1:=CI (f:=L) h1
  have i2:=CI (f:=L) h2
  have f1:=fs a
  have f2:=fg a
  have fF:dH [some (aY ns as),some (.lst (cC many L))] [1]=[some (.lst (cC many L))]:=rfl
  rw[fF]
  generalize cC many L=vl at *
  clear hl hs h1 h2 fF
  walk_at "mir"
 have a1:=all_map (λ(a:bY)=>decide (L a.s<=L a.g)) as
 generalize (as.map λa=>D.bl (decide (L a.s<=L a.g)))=bs,(as.all λa=>decide (L a.s<=L a.g))=bb,aY ns as=net,cC many L=vl at *
 unfold uo
 clear hl hs
 walk_at "mir"
def nN (X:Nat->Nat->Int)(n g:Nat)(a:bY):Bool:=decide (X (n-a.b) a.s+a.t=X n g)
theorem zoc {many m n g:Nat}{X:Nat->Nat->Int}(hn:n<m)(hg:g<many){cs:List bY}(hc:∀a∈cs,a.b<=n/\a.s<many):qp [.lst (bK many m X),.lst (cs.map bv),.int (g:Int),.int (n:Int)]=some (.bl (cs.any (nN X n g))):=by
 have lp:∀(bs:List bY) (C:D) (x4:Option D),(∀a∈bs,a.b<=n/\a.s<many)->(bs.any (nN X n g)=true/\eG (gV 4) xw (bs.map bv) [some (.lst (bK many m X)),some C,some (.int (g:Int)),some (.int (n:Int)),x4]=some (.rt (.bl true)))\/(bs.any (nN X n g)=false/\∃y4,eG (gV 4) xw (bs.map bv) [some (.lst (bK many m X)),some C,some (.int (g:Int)),some (.int (n:Int)),x4]=some (.nx [some (.lst (bK many m X)),some C,some (.int (g:Int)),some (.int (n:Int)),y4])):=by
  intro bs C
  induction bs with
  |nil=>exactλx4 _=>.inr ⟨rfl,x4,rfl⟩
  |cons a bs ih=>
   intro x4 hb
   obtain⟨h1,h2⟩:=hb a aa
   have i1:=Kx (n:=many) (X:=X) (i:=n-a.b) (m:=m) (by omega)
   have e:((n-a.b:Nat):Int)=(n:Int)-(a.b:Int):=by omega
   rw[e]at i1
   have i2:=CI (f:=X (n-a.b)) h2
   have i3:=Kx (n:=many) (X:=X) (i:=n) (m:=m) hn
   have i4:=CI (f:=X n) hg
   have f1:=fs a
   have f2:=ft a
   have f3:=fb a
   have eq:i6 false (.int (X (n-a.b) a.s+a.t)) (.int (X n g))=some (.bl (nN X n g a)):=(zeh _ _).trans (by rw[if_neg (by decide)];rfl)
   have step:xw [some (.lst (bK many m X)),some C,some (.int (g:Int)),some (.int (n:Int)),some (bv a)]=if nN X n g a=true then some (.rt (.bl true))else some (.nx [some (.lst (bK many m X)),some C,some (.int (g:Int)),some (.int (n:Int)),some (bv a)]):=by
    generalize nN X n g a=bb,bK many m X=rs,cC many (X (n-a.b))=v1,cC many (X n)=v2,X (n-a.b) a.s=w1 at *
    generalize X n g=w2 at *
    unfold xw
    clear ih hb h1 h2 e hn hg hc
    cases bb<;>walk_at "mir"
   have tD:eG (gV 4) xw ((a::bs).map bv) [some (.lst (bK many m X)),some C,some (.int (g:Int)),some (.int (n:Int)),x4]=(xw [some (.lst (bK many m X)),some C,some (.int (g:Int)),some (.int (n:Int)),some (bv a)]).bind λo=>match o with
     |.nx ρ'=>eG (gV 4) xw (bs.map bv) ρ'
     |.ct ρ'=>eG (gV 4) xw (bs.map bv) ρ'
     |.bk ρ'=>some (.nx ρ')
     |.rt d=>some (.rt d):=rfl
   rw[tD,step,eu]
   cases XC:nN X n g a with
   |true=>exact .inl ⟨rfl,rfl⟩
   |false=>
    rw[if_neg (by decide)]
    exact ih (some (bv a)) λb B9=>hb b (ai _ B9)
 unfold qp
 rcases lp cs (.lst (cs.map bv)) none hc with⟨h1,h2⟩|⟨h1,y4,h2⟩
 ·rw[h1]
  clear lp hc h1
  generalize bK many m X=rs,cs.map bv=cl at *
  walk_at "mir"
 ·rw[h1]
  clear lp hc h1
  generalize bK many m X=rs,cs.map bv=cl at *
  walk_at "mir"
theorem Ky {α:Type}{g:D->L3.Env->Option L3.Env}{b:SF}(enc:α->D)(f:α->Bool)(I:L3.Env->Prop)(w:D):∀(xs:List α) (ρ:L3.Env),I ρ->(∀x∈xs,∀ρ,I ρ->∃ρ1,g (enc x) ρ=some ρ1/\((f x=true/\∃ρ2,b ρ1=some (.nx ρ2)/\I ρ2)\/(f x=false/\b ρ1=some (.rt w)))) ->
  (xs.all f=true/\∃ρ',eG g b (xs.map enc) ρ=some (.nx ρ')/\I ρ')\/(xs.all f=false/\eG g b (xs.map enc) ρ=some (.rt w))
 |[],ρ,h,_=>.inl ⟨rfl,ρ,rfl,h⟩
 |x::xs,ρ,h,st=>by
  obtain⟨ρ1,h1,h2⟩:=st x aa ρ h
  have tD:eG g b ((x::xs).map enc) ρ=(g (enc x) ρ).bind λρ1=>(b ρ1).bind λo=>match o with
    |.nx ρ'=>eG g b (xs.map enc) ρ'
    |.ct ρ'=>eG g b (xs.map enc) ρ'
    |.bk ρ'=>some (.nx ρ')
    |.rt d=>some (.rt d):=rfl
  rw[tD,h1,bL,dB]
  rcases h2 with⟨e,ρ2,h2,h3⟩|⟨e,h2⟩
  ·rw[h2,e]
   exact Ky enc f I w xs ρ2 h3 λy hy=>st y (ai _ hy)
  ·rw[h2,e]
   exact .inr ⟨rfl,rfl⟩
def jA (as:List bY)(g:Nat):List bY:=as.filter λa=>decide (a.g=g)
def pH (as:List bY)(L:Nat->Int)(g:Nat):List bY:=(jA as g).filter λa=>decide (L a.s=L g)
theorem T8 {ns:List D}{as:List bY}(hl:as.length<=1000)(g:Nat):gO 4 "into" vi (aY ns as) [.int (g:Int)]=some (.lst (aD (into as g))):=by
 rw[IV (by decide)]
 exact PQ hl g
theorem zll {ns:List D}{as:List bY}(hl:as.length<=1000)(g:Nat)(r:L3.Env)(h0:r[0]?.join=some (aY ns as))(h5:r[5]?.join=some (.int (g:Int))):Si r=some (.lst ((jA as g).map bv)):=by
 have e:(jA as g).map bv=(as.zipIdx.filter λp=>decide (p.1.g=g)).map λp=>bv p.1:=by
  unfold jA
  rw[←Kf (λa:bY=>decide (a.g=g)) as 0,cA]
  rfl
 rw[e]
 refine wv (λp:bY×Nat=>D.int (p.2:Int)) (λp=>bv p.1) _ ?_ ?_ λp hp=>⟨_,rfl,?_⟩
 ·have e0:eV 0 r=_:=h0
  have e5:eV 5 r=_:=h5
  have:=T8 (ns:=ns) hl g
  show((((eV 0) r).bind λo=>((aCons (eV 5) aNil) r).bind λds=>gO 4 "into" vi o (ds++[]))).bind _=_
  unfold aCons aNil
  rw[e0,e5]
  simp only[bL,cu]
  rw[this]
  show some (aD (into as g))=_
  unfold aD into
  rw[cA]
  rfl
 ·have:=eW (λp:bY×Nat=>decide (p.1.g=g)) as.zipIdx
  rw[kG]at this
  omega
 ·have hp:=K1 (aJ.mp hp).1
  have fF:dH r [0]=[some (aY ns as)]:=by unfold dH;simp[h0]
  rw[fF]
  have i1:dz (.lst (as.map bv)) (.int (p.2:Int))=some (bv p.1):=jv (by rw[bp,hp];rfl)
  have f1:=Co ns as
  generalize aY ns as=net at *
  clear fF h0 h5 hp hl e
  walk_at "mir"
theorem zlm {as:List bY}{many g:Nat}{L:Nat->Int}(hl:as.length<=1000)(hs:∀a∈as,a.s<many)(hg:g<many)(r:L3.Env)(h4:r[4]?.join=some (.lst (cC many L)))(h5:r[5]?.join=some (.int (g:Int)))(h6:r[6]?.join=some (.lst ((jA as g).map bv))):Sh r=some (.lst ((pH as L g).map bv)):=by
 refine Cz bv (λa=>decide (L a.s=L g)) bv (jA as g) ?_ ?_ λa ha=>⟨_,rfl,?_,λ_=>rfl⟩
 ·have e6:eV 6 r=_:=h6
  unfold lsD
  rw[e6];rfl
 ·have:=eW (λa:bY=>decide (a.g=g)) as
  unfold jA
  omega
 ·have fF:dH r [4,5]=[some (.lst (cC many L)),some (.int (g:Int))]:=by unfold dH;simp[h4,h5]
  rw[fF]
  have i1:=CI (f:=L) (hs a (aJ.mp ha).1)
  have i2:=CI (f:=L) hg
  have f1:=fs a
  have eq:=zeh (neg:=false) (L a.s) (L g)
  rw[if_neg (by decide)]at eq
  generalize cC many L=vl,L a.s=w1,L g=w2 at *
  clear hl hs hg h4 h5 h6 ha fF
  walk_at "mir"
def sj (as:List bY)(X:Nat->Nat->Int)(L:Nat->Int)(S c g:Nat):Bool:=(ao c).all λi=>(pH as L g).any (nN X (S+i) g)
theorem zwi {ns:List D}{as:List bY}{many m S c:Nat}{X:Nat->Nat->Int}{L:Nat->Int}(hn:ns.length=many)(hm:many<=1000)(jK:m<=1000)(hl:as.length<=1000)(hs:∀a∈as,a.s<many/\a.b<=S)(h:S+c<=m)(hc:1<=c):u9 [aY ns as,.lst (bK many m X),.int (S:Int),.int ((S:Int)+(c:Int)-1),.lst (cC many L)]=some (.bl ((ao many).all (sj as X L S c))):=by
 generalize hz:(S:Int)+(c:Int)-1=z
 have inner:∀(g:Nat),g<many->∀x6 x8:Option D,(sj as X L S c g=true/\∃y8,eG (gV 8) xy ((ao c).map λ(i:Nat)=>D.int ((S:Int)+(i:Int))) [some (aY ns as),some (.lst (bK many m X)),some (.int (S:Int)),some (.int z),some (.lst (cC many L)),some (.int (g:Int)),x6,some (.lst ((pH as L g).map bv)),x8]=some (.nx [some (aY ns as),some (.lst (bK many m X)),some (.int (S:Int)),some (.int z),some (.lst (cC many L)),some (.int (g:Int)),x6,some (.lst ((pH as L g).map bv)),y8]))\/(sj as X L S c g=false/\eG (gV 8) xy ((ao c).map λ(i:Nat)=>D.int ((S:Int)+(i:Int))) [some (aY ns as),some (.lst (bK many m X)),some (.int (S:Int)),some (.int z),some (.lst (cC many L)),some (.int (g:Int)),x6,some (.lst ((pH as L g).map bv)),x8]=some (.rt (.bl false))):=by
  intro g hg x6 x8
  have:=Ky (g:=gV 8) (b:=xy) (λ(i:Nat)=>D.int ((S:Int)+(i:Int))) (λi=>(pH as L g).any (nN X (S+i) g)) (λρ=>∃y8,ρ=[some (aY ns as),some (.lst (bK many m X)),some (.int (S:Int)),some (.int z),some (.lst (cC many L)),some (.int (g:Int)),x6,some (.lst ((pH as L g).map bv)),y8]) (.bl false) (ao c) _ ⟨x8,rfl⟩ (by
   rintro i hi ρ ⟨y8,rfl⟩
   have hi:=aK.mp hi
   refine⟨_,rfl,?_⟩
   have k1:=zoc (many:=many) (m:=m) (n:=S+i) (g:=g) (X:=X) (by omega) hg (cs:=pH as L g) (λa ha=>by
    have:=hs a (aJ.mp (aJ.mp ha).1).1
    exact⟨by omega,this.1⟩)
   have e:((S+i:Nat):Int)=(S:Int)+(i:Int):=by omega
   rw[e]at k1
   cases hb:(pH as L g).any (nN X (S+i) g)with
   |true=>
    refine .inl ⟨rfl,[some (aY ns as),some (.lst (bK many m X)),some (.int (S:Int)),some (.int z),some (.lst (cC many L)),some (.int (g:Int)),x6,some (.lst ((pH as L g).map bv)),some (.int ((S:Int)+(i:Int)))],?_,_,rfl⟩
    rw[hb]at k1
    show xy [some (aY ns as),some (.lst (bK many m X)),some (.int (S:Int)),some (.int z),some (.lst (cC many L)),some (.int (g:Int)),x6,some (.lst ((pH as L g).map bv)),some (.int ((S:Int)+(i:Int)))]=_
    generalize aY ns as=net,bK many m X=rs,(pH as L g).map bv=cl,cC many L=vl at *
    unfold xy
    clear hz hs h hc hl hm jK hn e hi hb hg
    walk_at "mir"
   |false=>
    refine .inr ⟨rfl,?_⟩
    rw[hb]at k1
    show xy [some (aY ns as),some (.lst (bK many m X)),some (.int (S:Int)),some (.int z),some (.lst (cC many L)),some (.int (g:Int)),x6,some (.lst ((pH as L g).map bv)),some (.int ((S:Int)+(i:Int)))]=_
    generalize aY ns as=net,bK many m X=rs,(pH as L g).map bv=cl,cC many L=vl at *
    unfold xy
    clear hz hs h hc hl hm jK hn e hi hb hg
    walk_at "mir")
  rcases this with⟨h1,ρ',h2,y8,rfl⟩|⟨h1,h2⟩
  ·exact .inl ⟨h1,y8,h2⟩
  ·exact .inr ⟨h1,h2⟩
 have er:nQ [.int (S:Int),.int (z+1)]=some ((ao c).map λ(i:Nat)=>D.int ((S:Int)+(i:Int))):=by
  rw[Kq (by omega) (by omega) (by omega) (by omega),show(z+1-(S:Int)).toNat=c by omega]
  rfl
 have outer:=Ky (g:=gV 5) (b:=vk) (λ(g:Nat)=>D.int (g:Int)) (sj as X L S c) (λρ=>∃y5 y6 y7 y8,ρ=[some (aY ns as),some (.lst (bK many m X)),some (.int (S:Int)),some (.int z),some (.lst (cC many L)),y5,y6,y7,y8]) (.bl false) (ao many) [some (aY ns as),some (.lst (bK many m X)),some (.int (S:Int)),some (.int z),some (.lst (cC many L)),none,none,none,none] ⟨_,_,_,_,rfl⟩ (by
  rintro g hg ρ ⟨y5,y6,y7,y8,rfl⟩
  have hg:=aK.mp hg
  refine⟨_,rfl,?_⟩
  have q2:=zll (ns:=ns) (as:=as) hl g [some (aY ns as),some (.lst (bK many m X)),some (.int (S:Int)),some (.int z),some (.lst (cC many L)),some (.int (g:Int)),y6,y7,y8] rfl rfl
  have q1:=zlm (as:=as) (many:=many) (L:=L) hl (λa ha=>(hs a ha).1) hg [some (aY ns as),some (.lst (bK many m X)),some (.int (S:Int)),some (.int z),some (.lst (cC many L)),some (.int (g:Int)),some (.lst ((jA as g).map bv)),y7,y8] rfl rfl rfl
  rcases inner g hg (some (.lst ((jA as g).map bv))) y8 with⟨h1,z8,h2⟩|⟨h1,h2⟩
  ·refine .inl ⟨h1,[some (aY ns as),some (.lst (bK many m X)),some (.int (S:Int)),some (.int z),some (.lst (cC many L)),some (.int (g:Int)),some (.lst ((jA as g).map bv)),some (.lst ((pH as L g).map bv)),z8],?_,_,_,_,_,rfl⟩
   show vk [some (aY ns as),some (.lst (bK many m X)),some (.int (S:Int)),some (.int z),some (.lst (cC many L)),some (.int (g:Int)),y6,y7,y8]=_
   generalize aY ns as=net,bK many m X=rs,(pH as L g).map bv=cl,(jA as g).map bv=il,cC many L=vl,((ao c).map λ(i:Nat)=>D.int ((S:Int)+(i:Int)))=rg at *
   unfold vk
   clear hz hs h hc hl hm jK hn hg h1 inner
   walk_at "mir"
  ·refine .inr ⟨h1,?_⟩
   show vk [some (aY ns as),some (.lst (bK many m X)),some (.int (S:Int)),some (.int z),some (.lst (cC many L)),some (.int (g:Int)),y6,y7,y8]=_
   generalize aY ns as=net,bK many m X=rs,(pH as L g).map bv=cl,(jA as g).map bv=il,cC many L=vl,((ao c).map λ(i:Nat)=>D.int ((S:Int)+(i:Int)))=rg at *
   unfold vk
   clear hz hs h hc hl hm jK hn hg h1 inner
   walk_at "mir")
 have W6:hV [.int (many:Int)]=some ((ao many).map λ(g:Nat)=>D.int (g:Int)):=by
  rw[BM (by omega) (by omega),gq];simp[fL]
 have f1:=j7 ns as
 have l1:dL [.lst ns]=some (.int (many:Int)):=by rw[jm,hn]
 rcases outer with⟨h1,ρ',h2,y5,y6,y7,y8,rfl⟩|⟨h1,h2⟩
 ·rw[h1]
  generalize aY ns as=net,bK many m X=rs,cC many L=vl,((ao many).map λ(g:Nat)=>D.int (g:Int))=rg at *
  unfold u9
  clear hz hs h hc hl hm jK hn h1 inner er
  walk_at "mir"
 ·rw[h1]
  generalize aY ns as=net,bK many m X=rs,cC many L=vl,((ao many).map λ(g:Nat)=>D.int (g:Int))=rg at *
  unfold u9
  clear hz hs h hc hl hm jK hn h1 inner er
  walk_at "mir"
structure Again (as:List bY)(many:Nat)(X:Nat->Nat->Int)(c f:Nat)(L:Nat->Int):Prop where
 w:∀i,i<dep as->∀g,g<many->X (f+i+c) g-X (f+i) g=L g
 a:∀a∈as,L a.s<=L a.g
 c:∀g,g<many->∀n,f+dep as<=n->n<f+dep as+c->∃a∈as,a.g=g/\L a.s=L g/\X (n-a.b) a.s+a.t=X n g
theorem Again.iff {as:List bY}{many:Nat}{X:Nat->Nat->Int}{c f:Nat}{L:Nat->Int}:Again as many X c f L↔(((ao (dep as)).all λi=>decide (∀g,g<many->X (f+i+c) g-X (f+i) g=L g))=true/\(as.all λa=>decide (L a.s<=L a.g))=true/\(ao many).all (sj as X L (f+dep as) c)=true):=by
 constructor
 ·intro h
  refine⟨cH.mpr λi hi=>decide_eq_true (h.w i (aK.mp hi)),cH.mpr λa ha=>decide_eq_true (h.a a ha),cH.mpr λg hg=>cH.mpr λi hi=>?_⟩
  have hi:=aK.mp hi
  obtain⟨a,ha,h1,h2,h3⟩:=h.c g (aK.mp hg) (f+dep as+i) (by omega) (by omega)
  exact mn.mpr ⟨a,aJ.mpr ⟨aJ.mpr ⟨ha,decide_eq_true h1⟩,decide_eq_true h2⟩,decide_eq_true h3⟩
 ·rintro⟨h1,h2,h3⟩
  refine⟨λi hi=>of_decide_eq_true (cH.mp h1 i (aK.mpr hi)),λa ha=>of_decide_eq_true (cH.mp h2 a ha),λg hg n XZ t7=>?_⟩
  have:=cH.mp (cH.mp h3 g (aK.mpr hg)) (n-(f+dep as)) (aK.mpr (by omega))
  rw[show f+dep as+(n-(f+dep as))=n by omega]at this
  obtain⟨a,ha,h3⟩:=mn.mp this
  obtain⟨ha,h2⟩:=aJ.mp ha
  obtain⟨ha,h1⟩:=aJ.mp ha
  exact⟨a,ha,of_decide_eq_true h1,of_decide_eq_true h2,of_decide_eq_true h3⟩
theorem zwj {ns:List D}{as:List bY}{many m c f:Nat}{X:Nat->Nat->Int}{L:Nat->Int}(ok:fP many as)(hn:ns.length=many)(jK:m<=1000)(hc:1<=c)(h:f+dep as+c<=m):∃b,Kh [aY ns as,.lst (bK many m X),.tup [.int (c:Int),.int (f:Int),.lst (cC many L)]]=some (.bl b)/\(b=true↔Again as many X c f L):=by
 have hl:=ok.len
 have hm:=ok.le
 have hd:=Pk as
 have hs:∀a∈as,a.s<many/\a.g<many:=λa ha=>⟨(ok.right a ha).s,(ok.right a ha).g⟩
 have g1:=ztw (many:=many) (m:=m) (f:=f) (n:=dep as) (c:=c) (X:=X) (L:=L) (by omega) jK hd h
 have g2:=ztx (ns:=ns) (as:=as) (L:=L) (by omega) hs
 have g3:=zwi (ns:=ns) (as:=as) (many:=many) (m:=m) (S:=f+dep as) (c:=c) (X:=X) (L:=L) hn (by omega) jK (by omega) (λa ha=>⟨(hs a ha).1,by have:=vM ha;omega⟩) h hc
 have mb:=IP (ns:=ns) (as:=as) (by omega)
 have f1:=j7 ns as
 have l1:dL [.lst ns]=some (.int (many:Int)):=by rw[jm,hn]
 have l2:dL [.lst (cC many L)]=some (.int (many:Int)):=by rw[jm,UP]
 have l3:dL [.lst (bK many m X)]=some (.int (m:Int)):=by rw[jm,zob]
 rw[Again.iff]
 generalize ((ao (dep as)).all λi=>decide (∀g,g<many->X (f+i+c) g-X (f+i) g=L g))=b1,(as.all λa=>decide (L a.s<=L a.g))=b2,(ao many).all (sj as X L (f+dep as) c)=b3 at *
 refine⟨b1&&b2&&b3,?_,by cases b1<;>cases b2<;>cases b3<;>simp⟩
 have e1:((f+dep as:Nat):Int)=(f:Int)+(dep as:Int):=by omega
 rw[e1]at g3
 have c1:¬(c:Int)<1:=by omega
 have c2:¬(f:Int)<0:=by omega
 have c3:¬(m:Int)<(f:Int)+(dep as:Int)+(c:Int):=by omega
 generalize (dep as:Int)=dd,aY ns as=net,bK many m X=rs,cC many L=vl at *
 have p0:dz (.tup [.int (c:Int),.int (f:Int),.lst vl]) (.int 0)=some (.int (c:Int)):=rfl
 have p1:dz (.tup [.int (c:Int),.int (f:Int),.lst vl]) (.int 1)=some (.int (f:Int)):=rfl
 have p2:dz (.tup [.int (c:Int),.int (f:Int),.lst vl]) (.int 2)=some (.lst vl):=rfl
 unfold Kh
 clear hl hm hd hs e1 h hc jK hn ok
 cases b1 with
 |false=>walk_at "mir"
 |true=>
  cases b2 with
  |false=>walk_at "mir"
  |true=>walk_at "mir"
theorem ON {as:List bY}{many:Nat}(ok:fP many as){P:Nat->Nat->Prop}(st:∀i g,(∀j,j<i->∀x,P j x)->(∀a∈as,a.g=g->a.b=0->P i a.s)->P i g):∀i g,P i g:=by
 obtain⟨rank,hr⟩:=ok.rank
 intro i
 induction i using nr with
 |ind i ih=>
  have inner:∀k g,rank g=k->P i g:=by
   intro k
   induction k using nr with
   |ind k Yo=>
    intro g hg
    refine st i g (λj hj x=>ih j hj x) λa ha iK hb=>?_
    have:=hr a ha hb
    exact Yo (rank a.s) (by rw[←hg,←iK];exact this) a.s rfl
  exactλg=>inner _ g rfl
theorem S1 {α β:Type}{f f':β->α->β}:∀(xs:List α) (w:β),(∀a∈xs,∀w,f w a=f' w a)->xs.foldl f w=xs.foldl f' w
 |[],_,_=>rfl
 |x::xs,w,h=>by
  show xs.foldl f (f w x)=xs.foldl f' (f' w x)
  rw[h x aa,S1 xs _ λa ha=>h a (ai _ ha)]
theorem T9 {α:Type}(F:α->Int):∀(xs:List α) (w:T),(∃y,xs.foldl (λw a=>mx w (some (F a))) w=some y/\(∀a∈xs,F a<=y)/\(∀z,w=some z->z<=y)/\((∃a∈xs,F a=y)\/w=some y))\/(xs=[]/\w=none)
 |[],none=>.inr ⟨rfl,rfl⟩
 |[],some z=>.inl ⟨z,rfl,λ_ h=>(by cases h),λ_ h=>(by cases h;exact cZ _),.inr rfl⟩
 |x::xs,w=>by
  rcases T9 F xs (mx w (some (F x)))with⟨y,h1,h2,h3,h4⟩|⟨_,h⟩
  ·refine .inl ⟨y,h1,?_,?_,?_⟩
   ·intro a ha
    rcases aA.mp ha with rfl|ha
    ·cases w with
     |none=>exact h3 _ rfl
     |some z=>
      have:=h3 (if F a > z then F a else z) rfl
      split at this<;>omega
    ·exact h2 a ha
   ·intro z hz
    subst hz
    have:=h3 (if F x > z then F x else z) rfl
    split at this<;>omega
   ·rcases h4 with⟨a,ha,h4⟩|h4
    ·exact .inl ⟨a,ai _ ha,h4⟩
    ·cases w with
     |none=>exact .inl ⟨x,aa,by simpa[mx]using h4⟩
     |some z=>
      have h5:(if F x > z then F x else z)=y:=by simpa[mx]using h4
      split at h5
      ·exact .inl ⟨x,aa,h5⟩
      ·exact .inr (by rw[h5])
  ·cases w<;>simp[mx]at h
structure Mx (as:List bY)(many lo hi:Nat)(V:Nat->Nat->Int):Prop where
 ge:∀i,lo<=i->i<hi->∀a∈as,V (i-a.b) a.s+a.t<=V i a.g
 at_:∀i,lo<=i->i<hi->∀g,g<many->∃a∈as,a.g=g/\V (i-a.b) a.s+a.t=V i g
theorem Run.mx {as:List bY}{many rounds:Nat}{past Y:Nat->Nat->T}(ok:fP many as)(h:Run as many (dep as) rounds past (λ_ _=>none) Y)(hp:∀i,i<dep as->∀g,g<many->∃v,past i g=some v)(lL:∀g,g<many->∃a∈as,a.g=g) :
  ∃V:Nat->Nat->Int,(∀i,i<dep as+rounds->∀g,g<many->Y i g=some (V i g))/\Mx as many (dep as) (dep as+rounds) V:=by
 have hs:∀i g,i<dep as+rounds->g<many->∃v,Y i g=some v:=by
  refine ON ok λi g wO Bk hi hg=>?_
  by_cases hd:i<dep as
  ·rw[h.past i hd g hg];exact hp i hd g hg
  ·have:=h.rc (i-dep as) (by omega) g hg
   rw[show dep as+(i-dep as)=i by omega]at this
   rw[this]
   obtain⟨a,ha,iK⟩:=lL g hg
   have hb:=vM ha
   have:∃v,Y (i-a.b) a.s=some v:=by
    by_cases rK:a.b=0
    ·have:=Bk a ha iK rK hi (ok.right a ha).s
     rwa[rK,lV]
    ·exact wO (i-a.b) (by omega) a.s (by omega) (ok.right a ha).s
   obtain⟨v,hv⟩:=this
   obtain⟨y,hy,_⟩:=UQ (λa:bY=>lt a.t (Y (i-a.b) a.s)) (v:=v+a.t) (as.filter λa=>decide (a.g=g)) none (.inr ⟨a,aJ.mpr ⟨ha,decide_eq_true iK⟩,v+a.t,by show lt a.t (Y (i-a.b) a.s)=_;rw[hv];rfl,cZ _⟩)
   exact⟨y,hy⟩
 refine⟨λi g=>(Y i g).getD 0,λi hi g hg=>?_,?_⟩
 ·obtain⟨v,hv⟩:=hs i g hi hg
  show _=some ((Y i g).getD 0)
  rw[hv];rfl
 ·have key:∀i,dep as<=i->i<dep as+rounds->∀g,g<many->(∀a∈as,a.g=g->(Y (i-a.b) a.s).getD 0+a.t<=(Y i g).getD 0)/\∃a∈as,a.g=g/\(Y (i-a.b) a.s).getD 0+a.t=(Y i g).getD 0:=by
   intro i hi1 wJ g hg
   have rc:=h.rc (i-dep as) (by omega) g hg
   rw[show dep as+(i-dep as)=i by omega]at rc
   have e:tm as Y i g none=(as.filter λa=>decide (a.g=g)).foldl (λw a=>My.mx w (some ((Y (i-a.b) a.s).getD 0+a.t))) none:=by
    unfold tm
    refine S1 _ _ λa ha w=>?_
    have ha:=(aJ.mp ha).1
    have hb:=vM ha
    obtain⟨v,hv⟩:=hs (i-a.b) a.s (by omega) (ok.right a ha).s
    rw[hv];rfl
   rw[e]at rc
   rcases T9 (λa:bY=>(Y (i-a.b) a.s).getD 0+a.t) (as.filter λa=>decide (a.g=g)) none with⟨y,h1,h2,_,h4⟩|⟨h1,_⟩
   ·rw[h1]at rc
    rw[rc]
    refine⟨λa ha iK=>h2 a (aJ.mpr ⟨ha,decide_eq_true iK⟩),?_⟩
    rcases h4 with⟨a,ha,h4⟩|h4
    ·obtain⟨ha,iK⟩:=aJ.mp ha
     exact⟨a,ha,of_decide_eq_true iK,h4⟩
    ·cases h4
   ·obtain⟨a,ha,iK⟩:=lL g hg
    have:a∈as.filter λa=>decide (a.g=g):=aJ.mpr ⟨ha,decide_eq_true iK⟩
    rw[h1]at this
    cases this
  exact⟨λi h1 h2 a ha=>(key i h1 h2 a.g (ok.right a ha).g).1 a ha rfl,λi h1 h2 g hg=>(key i h1 h2 g hg).2⟩
theorem Mx.on {as:List bY}{many hi:Nat}{V:Nat->Nat->Int}(h:Mx as many (dep as) (dep as+hi) V):Mx as many (dep as) hi λr g=>V (dep as+r) g:=by
 refine⟨λi h1 h2 a ha=>?_,λi h1 h2 g hg=>?_⟩
 ·have hb:=vM ha
  have:=h.ge (dep as+i) (by omega) (by omega) a ha
  rw[show dep as+i-a.b=dep as+(i-a.b)by omega]at this
  exact this
 ·obtain⟨a,ha,h3,h4⟩:=h.at_ (dep as+i) (by omega) (by omega) g hg
  have hb:=vM ha
  rw[show dep as+i-a.b=dep as+(i-a.b)by omega]at h4
  exact⟨a,ha,h3,h4⟩
theorem Again.ever {as:List bY}{many R c f:Nat}{X:Nat->Nat->Int}{L:Nat->Int}(ok:fP many as)(hM:Mx as many (dep as) R X)(hA:Again as many X c f L)(hc:1<=c) :
  ∀n g,g<many->f<=n->(n+c<R->X (n+c) g=X n g+L g)/\(f+dep as<=n->n<R->∃a∈as,a.g=g/\L a.s=L g/\X (n-a.b) a.s+a.t=X n g):=by
 refine ON ok λn g wO Bk hg hf=>?_
 have Qj:f+dep as<=n->n<R->∃a∈as,a.g=g/\L a.s=L g/\X (n-a.b) a.s+a.t=X n g:=by
  intro h1 h2
  by_cases h:n<f+dep as+c
  ·exact hA.c g hg n h1 h
  ·obtain⟨p1,p2⟩:=wO (n-c) (by omega) g hg (by omega)
   obtain⟨a,ha,q1,q2,q3⟩:=p2 (by omega) (by omega)
   have hb:=vM ha
   have e1:=p1 (by omega)
   have e2:=(wO (n-c-a.b) (by omega) a.s (ok.right a ha).s (by omega)).1 (by omega)
   rw[show n-c-a.b+c=n-a.b by omega]at e2
   rw[show n-c+c=n by omega]at e1
   exact⟨a,ha,q1,q2,by omega⟩
 refine⟨λhR=>?_,Qj⟩
 by_cases h:n<f+dep as
 ·have:=hA.w (n-f) (by omega) g hg
  rw[show f+(n-f)=n by omega]at this
  omega
 ·have stp:∀a∈as,a.g=g->X (n+c-a.b) a.s=X (n-a.b) a.s+L a.s:=by
   intro a ha iK
   have hb:=vM ha
   have:X (n-a.b+c) a.s=X (n-a.b) a.s+L a.s:=by
    by_cases rK:a.b=0
    ·rw[rK,lV]
     exact(Bk a ha iK rK (ok.right a ha).s hf).1 hR
    ·exact(wO (n-a.b) (by omega) a.s (ok.right a ha).s (by omega)).1 (by omega)
   rw[←this,show n+c-a.b=n-a.b+c by omega]
  obtain⟨a,ha,p1,p2⟩:=hM.at_ (n+c) (by omega) hR g hg
  obtain⟨b,hb,q1,q2,q3⟩:=Qj (by omega) (by omega)
  have s1:=stp a ha p1
  have s2:=stp b hb q1
  have g1:=hM.ge n (by omega) (by omega) a ha
  have g2:=hM.ge (n+c) (by omega) hR b hb
  have l1:=hA.a a ha
  rw[p1]at g1 l1
  rw[q1]at g2
  omega
def Yx (ρ:L3.Env):Nat:=match ρ with
 |[_,_,_,_,some (.int d)]=>d.toNat
 |_=>0
def sY (many:Nat)(X:Nat->Nat->Int)(c:Nat)(L:Nat->Int)(n:Nat):Prop:=∀g,g<many->X (n+c) g-X n g=L g
instance (many:Nat) (X:Nat->Nat->Int) (c:Nat) (L:Nat->Int) (n:Nat):Decidable (sY many X c L n):=by unfold sY;infer_instance
theorem zln {many m k c:Nat}{X:Nat->Nat->Int}{L:Nat->Int}(hm:many<=1000)(jK:m<=1000)(h:k+c<m):∃f:Nat,ur [.lst (bK many m X),.int (k:Int),.int (c:Int),.lst (cC many L)]=some (.int (f:Int))/\f<=k/\(∀n,f<=n->n<k->sY many X c L n)/\(f=0\/¬sY many X c L (f-1)):=by
 have qQ:∀d:Nat,d<=k->bAnd (tb (e2 rJ (eV 4) (eC (.int 0)))) (tb (e2 (i6 false) (λρ=>((aCons (eV 0) (aCons (e2 kd (eV 4) (eC (.int 1))) (aCons (eV 2) aNil))) ρ).bind λds=>j6 (ds++[])) (eV 3))) [some (.lst (bK many m X)),some (.int (k:Int)),some (.int (c:Int)),some (.lst (cC many L)),some (.int (d:Int))]=some (decide (0<d/\sY many X c L (d-1))):=by
  intro d hd
  by_cases h0:d=0
  ·subst h0
   rw[decide_eq_false (λz=>absurd z.1 (by omega))]
   have e0:((0:Nat):Int)=0:=rfl
   rw[e0]
   generalize bK many m X=rs,cC many L=vl at *
   clear hm jK h hd e0
   walk_at "mir"
  ·have g1:=OM (many:=many) (m:=m) (f:=d-1) (c:=c) (X:=X) hm (by omega)
   have ev:=Vj false many (λg=>X (d-1+c) g-X (d-1) g) L
   rw[if_neg (by decide)]at ev
   have e1:((d-1:Nat):Int)=(d:Int)-1:=by omega
   rw[e1]at g1
   have tU:decide (0<d/\sY many X c L (d-1))=decide (∀g,g<many->X (d-1+c) g-X (d-1) g=L g):=by
    apply decide_eq_decide.mpr
    exact⟨λz=>z.2,λz=>⟨by omega,z⟩⟩
   rw[tU]
   have gt:(d:Int) > 0:=by omega
   generalize decide (∀g,g<many->X (d-1+c) g-X (d-1) g=L g)=bb,(cC many λg=>X (d-1+c) g-X (d-1) g)=v,bK many m X=rs,cC many L=vl at *
   clear hm jK h hd e1 tU
   walk_at "mir"
 obtain⟨ρ',h1,⟨d,rfl,hd,hI⟩,hc⟩:=Ka (c:=bAnd (tb (e2 rJ (eV 4) (eC (.int 0)))) (tb (e2 (i6 false) (λρ=>((aCons (eV 0) (aCons (e2 kd (eV 4) (eC (.int 1))) (aCons (eV 2) aNil))) ρ).bind λds=>j6 (ds++[])) (eV 3)))) (b:=ja)
  (λρ=>∃d:Nat,ρ=[some (.lst (bK many m X)),some (.int (k:Int)),some (.int (c:Int)),some (.lst (cC many L)),some (.int (d:Int))]/\d<=k/\∀n,d<=n->n<k->sY many X c L n) Yx (by
   rintro ρ ⟨d,rfl,hd,hI⟩
   refine⟨_,qQ d hd,λht=>?_⟩
   obtain⟨t1,t2⟩:=of_decide_eq_true ht
   refine⟨[some (.lst (bK many m X)),some (.int (k:Int)),some (.int (c:Int)),some (.lst (cC many L)),some (.int ((d-1:Nat):Int))],.inl ?_,⟨d-1,rfl,by omega,λn XZ t7=>?_⟩,?_⟩
   ·have e1:((d-1:Nat):Int)=(d:Int)-1:=by omega
    rw[e1]
    generalize bK many m X=rs,cC many L=vl at *
    unfold ja rf i2
    clear hm jK h hd e1 hI qQ ht t1 t2
    walk_at "mir"
   ·by_cases he:n=d-1
    ·rw[he];exact t2
    ·exact hI n (by omega) t7
   ·show((d-1:Nat):Int).toNat<(d:Int).toNat
    omega) mE [some (.lst (bK many m X)),some (.int (k:Int)),some (.int (c:Int)),some (.lst (cC many L)),some (.int (k:Int))] ⟨k,rfl,aF _,λn h1 h2=>by omega⟩ (IU (by show(k:Int).toNat<1048576;omega))
 refine⟨d,?_,hd,hI,?_⟩
 ·unfold ur gD
  clear qQ hc
  generalize (bAnd (tb (e2 rJ (eV 4) (eC (.int 0)))) (tb (e2 (i6 false) (λρ=>((aCons (eV 0) (aCons (e2 kd (eV 4) (eC (.int 1))) (aCons (eV 2) aNil))) ρ).bind λds=>j6 (ds++[])) (eV 3))))=cc,bK many m X=rs,cC many L=vl at *
  clear hm jK h hd hI
  walk_at "mir"
 ·rw[qQ d hd]at hc
  have hc:¬(0<d/\sY many X c L (d-1)):=by simpa using hc
  by_cases h0:d=0
  ·exact .inl h0
  ·exact .inr λz=>hc ⟨by omega,z⟩
theorem zwk (neg:Bool)(F:List Nat):i6 neg (.lst (aD F)) (.lst [])=some (.bl (if neg then !decide (F=[])else decide (F=[]))):=by
 have:=(El Ei).eq (by decide) (neg:=neg) (F.map λ(x:Nat)=>(x:Int)) []
 have e:(El Ei).enc (F.map λ(x:Nat)=>(x:Int))=.lst (aD F):=by
  show D.lst ((F.map λ(x:Nat)=>(x:Int)).map D.int)=_
  rw[cA];rfl
 rw[e]at this
 have hd:decide ((F.map λ(x:Nat)=>(x:Int))=[])=decide (F=[]):=decide_eq_decide.mpr (by simp)
 rw[hd]at this
 exact this
theorem zty {ns:List D}{as:List bY}{many:Nat}(ok:fP many as)(hn:ns.length=many)(lL:∀g,g<many->∃a∈as,a.g=g):jp [aY ns as]=some .non:=by
 have hl:=ok.len
 have hm:=ok.le
 have lp:=Ky (g:=gV 1) (b:=uq) (λ(g:Nat)=>D.int (g:Int)) (λ_=>true) (λρ=>∃y1,ρ=[some (aY ns as),y1]) (.bl false) (ao many) [some (aY ns as),none] ⟨_,rfl⟩ (by
  rintro g hg ρ ⟨y1,rfl⟩
  have hg:=aK.mp hg
  refine⟨_,rfl,.inl ⟨rfl,[some (aY ns as),some (.int (g:Int))],?_,_,rfl⟩⟩
  show uq [some (aY ns as),some (.int (g:Int))]=_
  have i1:=T8 (ns:=ns) (as:=as) (by omega) g
  have ne:into as g≠[]:=by
   obtain⟨a,ha,iK⟩:=lL g hg
   obtain⟨i,hi,e⟩:=cY.mp ha
   intro z
   have:i∈into as g:=bE.mpr ⟨(a,i),aJ.mpr ⟨gZ.mpr (by rw[←e];exact bD hi),decide_eq_true iK⟩,rfl⟩
   rw[z]at this;cases this
  have ev:=zwk false (into as g)
  rw[if_neg (by decide),decide_eq_false ne]at ev
  generalize aD (into as g)=is,aY ns as=net at *
  unfold uq
  clear hl hm hg ne lL ok hn
  walk_at "mir")
 rcases lp with⟨_,ρ',h2,y1,rfl⟩|⟨h1,_⟩
 ·have W6:hV [.int (many:Int)]=some ((ao many).map λ(g:Nat)=>D.int (g:Int)):=by
   rw[BM (by omega) (by omega),gq];simp[fL]
  have f1:=j7 ns as
  have l1:dL [.lst ns]=some (.int (many:Int)):=by rw[jm,hn]
  generalize ((ao many).map λ(g:Nat)=>D.int (g:Int))=rg,aY ns as=net at *
  unfold jp
  clear hl hm lL ok hn
  walk_at "mir"
 ·have:(ao many).all (λ_=>true)=true:=by simp
  rw[this]at h1;cases h1
theorem S2 {α:Type}{g:D->L3.Env->Option L3.Env}{b:SF}(enc:α->D)(I:L3.Env->Prop)(N:α->Prop)(R:α->D->Prop):∀(xs:List α) (ρ:L3.Env),I ρ->(∀x∈xs,∀ρ,I ρ->∃ρ1,g (enc x) ρ=some ρ1/\((N x/\∃ρ2,b ρ1=some (.nx ρ2)/\I ρ2)\/∃w,R x w/\b ρ1=some (.rt w))) ->
  ((∀x∈xs,N x)/\∃ρ',eG g b (xs.map enc) ρ=some (.nx ρ')/\I ρ')\/∃pre x post w,xs=pre++x::post/\(∀y∈pre,N y)/\R x w/\eG g b (xs.map enc) ρ=some (.rt w)
 |[],ρ,h,_=>.inl ⟨λ_ h=>(by cases h),ρ,rfl,h⟩
 |x::xs,ρ,h,st=>by
  obtain⟨ρ1,h1,h2⟩:=st x aa ρ h
  have tD:eG g b ((x::xs).map enc) ρ=(g (enc x) ρ).bind λρ1=>(b ρ1).bind λo=>match o with
    |.nx ρ'=>eG g b (xs.map enc) ρ'
    |.ct ρ'=>eG g b (xs.map enc) ρ'
    |.bk ρ'=>some (.nx ρ')
    |.rt d=>some (.rt d):=rfl
  rw[tD,h1,bL]
  rcases h2 with⟨e,ρ2,h2,h3⟩|⟨w,e,h2⟩
  ·rw[h2,bL]
   rcases S2 enc I N R xs ρ2 h3 λy hy=>st y (ai _ hy)with⟨a1,ρ',a2,a3⟩|⟨pre,z,post,w,a1,a2,a3,a4⟩
   ·refine .inl ⟨λy hy=>?_,ρ',a2,a3⟩
    rcases aA.mp hy with rfl|hy
    ·exact e
    ·exact a1 y hy
   ·refine .inr ⟨x::pre,z,post,w,by rw[a1];rfl,λy hy=>?_,a3,a4⟩
    rcases aA.mp hy with rfl|hy
    ·exact e
    ·exact a2 y hy
  ·rw[h2]
   exact .inr ⟨[],x,xs,w,rfl,λ_ h=>(by cases h),e,rfl⟩
theorem zju {n:Nat}{pre post:List Nat}{x:Nat}(h:ao n=pre++x::post):x<n/\∀y,y<x->y∈pre:=by
 have hl:pre.length=x:=by
  have:=congrArg (λl=>l[pre.length]?) h
  simp only[fv (aF _),Nat.sub_self,List.getElem?_cons_zero]at this
  have h2:pre.length<n:=by
   have:=congrArg gR h
   simp at this;omega
  rw[eD h2]at this
  simpa using this
 refine⟨aK.mp (by rw[h];simp),λy hy=>?_⟩
 have:(ao n)[y]?=(pre++x::post)[y]?:=by rw[h]
 rw[ck (by omega),eD (by have:=congrArg gR h;simp at this;omega)]at this
 exact bT.mpr ⟨y,this.symm⟩
def gb (X:Nat->Nat->Int)(c n g:Nat):Int:=X (n+c) g-X n g
structure Found (as:List bY)(many S:Nat)(X:Nat->Nat->Int)(c f:Nat):Prop where
 c1:1<=c
 cS:c<=S
 ag:Again as many X c (S-c) (gb X c (S-c))
 no:∀c',1<=c'->c'<c->¬Again as many X c' (S-c') (gb X c' (S-c'))
 fS:f<=S-c
 gr:∀n,f<=n->n<S-c->sY many X c (gb X c (S-c)) n
 st:f=0\/¬sY many X c (gb X c (S-c)) (f-1)
def iO (c f:Int)(ls:List D):D:=.tup [.int c,.int f,.lst ls]
theorem ztz {ns:List D}{as:List bY}{many R:Nat}{X:Nat->Nat->Int}{wd:D}(ok:fP many as)(hn:ns.length=many)(lL:∀g,g<many->∃a∈as,a.g=g)(hR:R<=1000)(sA:BX [aY ns as,.int (R:Int),wd,.non]=some (.lst (bK many R X))) :
  (v9 [aY ns as,.int (R:Int),wd]=some .non/\∀c,1<=c->c<=R-dep as->¬Again as many X c (R-dep as-c) (gb X c (R-dep as-c)))\/∃c f,Found as many (R-dep as) X c f/\v9 [aY ns as,.int (R:Int),wd]=some (iO c f (cC many (gb X c (R-dep as-c)))):=by
 have hl:=ok.len
 have hm:=ok.le
 have hd:=Pk as
 have lo:=zty ok hn lL
 have mb:=IP (ns:=ns) (as:=as) (by omega)
 have lp:=S2 (g:=gV 5) (b:=jb) (λ(i:Nat)=>D.int (1+(i:Int))) (λρ=>∃y5 y6 y7,ρ=[some (aY ns as),some (.int (R:Int)),some wd,some (.lst (bK many R X)),some (.int ((R:Int)-(dep as:Int))),y5,y6,y7])
  (λi=>¬Again as many X (1+i) (R-dep as-(1+i)) (gb X (1+i) (R-dep as-(1+i))))
  (λi w=>∃f:Nat,w=iO ((1+i:Nat):Int) f (cC many (gb X (1+i) (R-dep as-(1+i))))/\Again as many X (1+i) (R-dep as-(1+i)) (gb X (1+i) (R-dep as-(1+i)))/\f<=R-dep as-(1+i)/\(∀n,f<=n->n<R-dep as-(1+i)->sY many X (1+i) (gb X (1+i) (R-dep as-(1+i))) n)/\(f=0\/¬sY many X (1+i) (gb X (1+i) (R-dep as-(1+i))) (f-1)))
  (ao (R-dep as)) [some (aY ns as),some (.int (R:Int)),some wd,some (.lst (bK many R X)),some (.int ((R:Int)-(dep as:Int))),none,none,none] ⟨_,_,_,rfl⟩ (by
  rintro i hi ρ ⟨y5,y6,y7,rfl⟩
  have hi:=aK.mp hi
  refine⟨[some (aY ns as),some (.int (R:Int)),some wd,some (.lst (bK many R X)),some (.int ((R:Int)-(dep as:Int))),some (.int (1+(i:Int))),y6,y7],rfl,?_⟩
  have e1:((1+i:Nat):Int)=1+(i:Int):=by omega
  have tU:((R-dep as-(1+i):Nat):Int)=(R:Int)-(dep as:Int)-(1+(i:Int)):=by omega
  have g1:=OM (many:=many) (m:=R) (f:=R-dep as-(1+i)) (c:=1+i) (X:=X) (by omega) (by omega)
  rw[show(λg=>X (R-dep as-(1+i)+(1+i)) g-X (R-dep as-(1+i)) g)=gb X (1+i) (R-dep as-(1+i))from rfl]at g1
  obtain⟨b,Xw,Ca⟩:=zwj (ns:=ns) (as:=as) (many:=many) (m:=R) (c:=1+i) (f:=R-dep as-(1+i)) (X:=X) (L:=gb X (1+i) (R-dep as-(1+i))) ok hn hR (by omega) (by omega)
  obtain⟨f,QY,AY,MY,MZ⟩:=zln (many:=many) (m:=R) (k:=R-dep as-(1+i)) (c:=1+i) (X:=X) (L:=gb X (1+i) (R-dep as-(1+i))) (by omega) hR (by omega)
  rw[e1,tU]at g1 Xw QY
  cases b with
  |false=>
   refine .inl ⟨λz=>absurd (Ca.mpr z) (by decide),[some (aY ns as),some (.int (R:Int)),some wd,some (.lst (bK many R X)),some (.int ((R:Int)-(dep as:Int))),some (.int (1+(i:Int))),some (.int ((R:Int)-(dep as:Int)-(1+(i:Int)))),some (.lst (cC many (gb X (1+i) (R-dep as-(1+i)))))],?_,_,_,_,rfl⟩
   generalize cC many (gb X (1+i) (R-dep as-(1+i)))=vl,bK many R X=rs,aY ns as=net at *
   unfold jb
   clear hl hm hd lo mb hi e1 tU Ca QY AY MY MZ lL ok hn sA hR
   walk_at "mir"
  |true=>
   refine .inr ⟨_,⟨f,rfl,Ca.mp rfl,AY,MY,MZ⟩,?_⟩
   rw[e1]
   unfold iO
   generalize cC many (gb X (1+i) (R-dep as-(1+i)))=vl,bK many R X=rs,aY ns as=net at *
   unfold jb
   clear hl hm hd lo mb hi e1 tU Ca AY MY MZ lL ok hn sA hR
   walk_at "mir")
 have er:nQ [.int 1,.int ((R:Int)-(dep as:Int)+1)]=some ((ao (R-dep as)).map λ(i:Nat)=>D.int (1+(i:Int))):=by
  by_cases hh:dep as<=R
  ·rw[Kq (by omega) (by omega) (by omega) (by omega),show((R:Int)-(dep as:Int)+1-1).toNat=R-dep as by omega]
   rfl
  ·have:dep as<=4:=I0 λa ha=>(ok.right a ha).b
   rw[Kq (by omega) (by omega) (by omega) (by omega),show((R:Int)-(dep as:Int)+1-1).toNat=R-dep as by omega]
   rfl
 rcases lp with⟨h1,ρ',h2,y5,y6,y7,rfl⟩|⟨pre,i,post,w,h1,h2,⟨f,rfl,q1,q2,q3,q4⟩,h3⟩
 ·refine .inl ⟨?_,λc FB AU=>?_⟩
  ·generalize ((ao (R-dep as)).map λ(i:Nat)=>D.int (1+(i:Int)))=rg at *
   generalize bK many R X=rs,aY ns as=net at *
   unfold v9
   clear hl hm hd h1 lL ok hn hR
   walk_at "mir"
  ·have:=h1 (c-1) (aK.mpr (by omega))
   rw[show 1+(c-1)=c by omega]at this
   exact this
 ·obtain⟨hi,oN⟩:=zju h1
  refine .inr ⟨1+i,f,⟨by omega,by omega,q1,λc' FB AU=>?_,q2,q3,q4⟩,?_⟩
  ·have:=h2 (c'-1) (oN _ (by omega))
   rw[show 1+(c'-1)=c' by omega]at this
   exact this
  ·generalize iO ((1+i:Nat):Int) f (cC many (gb X (1+i) (R-dep as-(1+i))))=w at *
   clear h1 q1 q2 q3 q4 h2 oN hi hl hm hd lL ok hn hR
   generalize ((ao (R-dep as)).map λ(i:Nat)=>D.int (1+(i:Int)))=rg,bK many R X=rs,aY ns as=net at *
   unfold v9
   walk_at "mir"
def fr (q:Int×Int):D:=.tup [.int q.1,.int q.2]
theorem B6 (q:Int×Int):dz (fr q) (.int 0)=some (.int q.1):=rfl
theorem oI (q:Int×Int):dz (fr q) (.int 1)=some (.int q.2):=rfl
def Fz (n:Nat)(q:Int×Int):Prop:=Sz n q.1/\Sz n q.2
theorem Fz.mono {n m:Nat}{q:Int×Int}(h:Fz n q)(hm:n<=m):Fz m q:=⟨h.1.mono hm,h.2.mono hm⟩
theorem uV {n:Nat}{i w:Int}(h1:-w<=i)(h2:i<=w)(hw:w<2 ^ n):Sz n i:=by
 unfold Sz
 have:(i.natAbs:Int)<2 ^ n:=by omega
 exact_mod_cast this
theorem N5 {x y:Int}(hy:Sz 8000 y):uk [.int x,.int y]=some (.int ((eZ x y:Nat):Int)):=by
 obtain⟨s',h1,h2,h3,r,h5⟩:=SD (c:=tb (e2 (i6 true) (eV 1) (eC (D.int 0)))) (b:=u5) (λs:Int×Int×Option D=>[some (.int s.1),some (.int s.2.1),s.2.2]) (λs=>!decide (s.2.1=0)) (λs=>(s.2.1,s.1.fmod s.2.1,some (.int (s.1.fmod s.2.1)))) (λs=>s.2.1.natAbs) (λs=>eZ s.1 s.2.1=eZ x y)
  (λs hp=>by walk_at "mir") (λs hp ht=>by
   have hs:s.2.1≠0:=by simpa using ht
   refine⟨.inl ?_,(Fq.gcd_step s.1 s.2.1).trans hp,Fq.fmod_less s.1 hs⟩
   unfold u5
   have:=zsx (i:=s.1) hs
   walk_at "mir") mE (x,y,none) rfl (Ur hy (by decide))
 have h3:s'.2.1=0:=by simpa using h3
 have h4:=Fq.gcd_end s'.1
 rw[h3]at h2
 rw[h2]at h4
 clear h5
 unfold uk gD
 walk_at "mir"
theorem CA {t b:Int}(hb:b≠0)(hz:Sz 8000 b):xM [.int t,.int b]=some (fr (Fq.mk t b)):=by
 have e:=N5 (x:=t) hz
 have hg:=Fq.gcd_pos (t:=t) (b:=b) hb
 have hd:Fq.dv t b≠0:=by unfold Fq.dv;split<;>omega
 have sZ:Sz 9000 (Fq.dv t b):=(hz.le (Fq.dv_le hb)).mono (by decide)
 have e1:=TR (i:=t) hd sZ
 have e2:=TR (i:=b) hd sZ
 unfold xM fr Fq.mk
 by_cases hn:b<0
 ·have hd:Fq.dv t b = -((eZ t b:Nat):Int):=by unfold Fq.dv;rw[if_pos hn]
  rw[hd]at e1 e2 ⊢
  walk_at "mir"
 ·have hd:Fq.dv t b=((eZ t b:Nat):Int):=by unfold Fq.dv;rw[if_neg hn]
  rw[hd]at e1 e2 ⊢
  walk_at "mir"
theorem K7 {n:Nat}{t b:Int}(hb:b≠0)(ht:Sz n t)(hz:Sz n b):Fz n (Fq.mk t b):=⟨ht.le (Fq.mk_le_one hb),hz.le (Fq.mk_le_two hb)⟩
def mL (S G:Nat->Nat):Nat->List Nat->Nat->Prop
 |a,[],b=>a=b
 |a,n::l,b=>S n=a/\mL S G (G n) l b
theorem mL.app {S G:Nat->Nat}{b c:Nat}{m:List Nat}(h2:mL S G b m c):∀{a:Nat} {l:List Nat},mL S G a l b->mL S G a (l++m) c
 |a,[],h=>by
  have h:a=b:=h
  rw[h];exact h2
 |a,n::l,h=>⟨h.1,mL.app h2 h.2⟩
theorem mL.one (S G:Nat->Nat)(n:Nat):mL S G (S n) [n] (G n):=⟨rfl,rfl⟩
structure P4 (ts:List Nat)(S G:Nat->Nat)(going:Nat)(re:List Nat)(ch:Nat->Option Nat)(done:Nat):Prop where
 nd:re.Nodup
 hd:going∈re
 le:done<=re.length
 way:∀x∈re,x≠going->∃n,ch x=some n/\n∈ts/\G n=x/\∃j,re[j]?=some x/\S n∈re.take j
 cl:∀i,i<done->∀x,re[i]?=some x->∀n∈ts,S n=x->G n≠going/\G n∈re
section
variable {ts:List Nat}{S G:Nat->Nat}{going:Nat}{re:List Nat}{ch:Nat->Option Nat}{done:Nat}
theorem P4.start:P4 ts S G going [going] (λ_=>none) 0 :=
 ⟨by simp,by simp,cQ _,λx hx h=>absurd (az.mp hx) h,λi hi=>absurd hi (by omega)⟩
end
theorem OD {g:D->L3.Env->Option L3.Env}{b:SF}{n:Nat}(I:Nat->L3.Env->Prop)(R:D->Prop)(st:∀i ρ,i<n->I i ρ->∃ρ1,g (.int (i:Int)) ρ=some ρ1/\((∃ρ2,b ρ1=some (.nx ρ2)/\I (i+1) ρ2)\/∃w,b ρ1=some (.rt w)/\R w)) :
  ∀(m k:Nat) (ρ:L3.Env),k+m=n->I k ρ->(∃ρ',eG g b ((iJ k m).map λ(i:Nat)=>D.int (i:Int)) ρ=some (.nx ρ')/\I n ρ')\/∃w,eG g b ((iJ k m).map λ(i:Nat)=>D.int (i:Int)) ρ=some (.rt w)/\R w
 |0,k,ρ,hk,hI=>by
  have:k=n:=by omega
  subst this
  exact .inl ⟨ρ,rfl,hI⟩
 |m+1,k,ρ,hk,hI=>by
  obtain⟨ρ1,h1,h2⟩:=st k ρ (by omega) hI
  have tD:eG g b ((iJ k (m+1)).map λ(i:Nat)=>D.int (i:Int)) ρ=(g (.int (k:Int)) ρ).bind λρ1=>(b ρ1).bind λo=>match o with
    |.nx ρ'=>eG g b ((iJ (k+1) m).map λ(i:Nat)=>D.int (i:Int)) ρ'
    |.ct ρ'=>eG g b ((iJ (k+1) m).map λ(i:Nat)=>D.int (i:Int)) ρ'
    |.bk ρ'=>some (.nx ρ')
    |.rt d=>some (.rt d):=rfl
  rw[tD,h1,bL]
  rcases h2 with⟨ρ2,h2,h3⟩|⟨w,h2,h3⟩
  ·rw[h2]
   exact OD I R st m (k+1) ρ2 (by omega) h3
  ·rw[h2]
   exact .inr ⟨w,rfl,h3⟩
def aN (as:List bY)(n:Nat):bY:=(as[n]?).getD ⟨.wait,0,0,0,0⟩
theorem CL {as:List bY}{n:Nat}(h:n<as.length):as[n]?=some (aN as n):=by
 unfold aN
 rw[bD h]
 rfl
theorem zwl {as:List bY}{i:Int}(h0:0<=i)(h1:i<(as.length:Int)):dz (.lst (as.map bv)) (.int i)=some (bv (aN as i.toNat)):=by
 obtain⟨n,rfl⟩:∃n:Nat,i=(n:Int):=⟨i.toNat,by omega⟩
 rw[gq]
 exact jv (by rw[bp,CL (by omega)];rfl)
theorem PV {ns:List D}{as:List bY}{is:List Int}{fld:aU}{f:bY->Int}{q:EF}(hq:q=dI (lsD (eV 1)) 1 [0] (gV 0) eU (e1 (cv [0,1,2,3] fld) (e2 dz (e1 (cv [4] "arrows") (eV 1)) (eV 0))))(hf:∀a,cv [0,1,2,3] fld (bv a)=some (.int (f a)))(hl:is.length<=1000)(hr:∀i∈is,0<=i/\i<(as.length:Int))(r:L3.Env)(h0:r[0]?.join=some (aY ns as))(h1:r[1]?.join=some (.lst (is.map .int))) :
  q r=some (.lst ((is.map λi=>f (aN as i.toNat)).map .int)):=by
 rw[hq,cA]
 refine wv D.int (λi=>D.int (f (aN as i.toNat))) is (by unfold lsD;have:eV 1 r=_:=h1;rw[this];rfl) (by omega) λi hi=>⟨_,rfl,?_⟩
 have fF:dH r [0]=[some (aY ns as)]:=by unfold dH;simp[h0]
 rw[fF]
 have i1:=zwl (hr i hi).1 (hr i hi).2
 have f1:=hf (aN as i.toNat)
 have f4:=Co ns as
 generalize f (aN as i.toNat)=v,bv (aN as i.toNat)=ea,as.map bv=al,aY ns as=net at *
 clear fF h0 h1 hr hi hl hf hq
 walk_at "mir"
theorem PX (xs:List Int):uL [.lst (xs.map .int)]=some (.int xs.sum):=by
 show(eL (xs.map .int)).bind _=_
 rw[OA]
 rfl
def tI (as:List bY)(i:Int):Int:=(aN as i.toNat).t
def bI (as:List bY)(i:Int):Int:=((aN as i.toNat).b:Int)
theorem Vk {f:Int->Int}{m:Int}(hm:0<=m):∀is:List Int,(∀i∈is,0<=f i/\f i<=m)->0<=(is.map f).sum/\(is.map f).sum<=m*(is.length:Int)
 |[],_=>by simp
 |i::is,h=>by
  obtain⟨h1,h2⟩:=Vk hm is λj hj=>h j (ai _ hj)
  obtain⟨h3,h4⟩:=h i aa
  rw[aR,bU,aO]
  refine⟨by omega,?_⟩
  rw[show((is.length+1:Nat):Int)=(is.length:Int)+1 by omega,mO,mP]
  omega
theorem zwm {ns:List D}{as:List bY}{is:List Int}(hl:is.length<=1000)(hb:∀a∈as,a.b<=4)(hr:∀i∈is,0<=i/\i<(as.length:Int))(h0:(is.map (bI as)).sum≠0):xQ [aY ns as,.lst (is.map .int)]=some (fr (Fq.mk (is.map (tI as)).sum (is.map (bI as)).sum)):=by
 have k1:=PV (ns:=ns) (as:=as) (is:=is) (fld:="time") (f:=λa=>a.t) (q:=OZ) rfl ft hl hr [some (aY ns as),some (.lst (is.map .int)),none,none] rfl rfl
 have k2:=PV (ns:=ns) (as:=as) (is:=is) (fld:="behind") (f:=λa=>(a.b:Int)) (q:=OY) rfl fb hl hr [some (aY ns as),some (.lst (is.map .int)),some (.int (is.map (tI as)).sum),none] rfl rfl
 have s1:=PX (is.map (tI as))
 have s2:=PX (is.map (bI as))
 have bd:=Vk (f:=bI as) (m:=4) (by decide) is λi hi=>by
  have:=hb (aN as i.toNat) (bT.mpr ⟨i.toNat,CL (by have:=hr i hi;omega)⟩)
  unfold bI
  omega
 have ra:=CA (t:=(is.map (tI as)).sum) h0 (uV (w:=4000) (by omega) (by omega) (by decide))
 replace k1:OZ _=some (.lst ((is.map (tI as)).map .int)):=k1
 replace k2:OY _=some (.lst ((is.map (bI as)).map .int)):=k2
 generalize fr (Fq.mk (is.map (tI as)).sum (is.map (bI as)).sum)=F,(is.map (tI as)).map D.int=tl,(is.map (bI as)).map D.int=bl at *
 generalize (is.map (tI as)).sum=T,(is.map (bI as)).sum=Bh,aY ns as=net,is.map D.int=il at *
 unfold xQ
 clear bd hl hb hr h0
 walk_at "mir"
structure eQ (d:D)(ch:Nat->Option Nat)(m:Nat):Prop where
 is:∃ks ds,d=.dK ks ds/\ks.length=ds.length/\ks.length<=m/\∀x:Nat,i7 ks ds (.inl (x:Int))=(ch x).map λ(n:Nat)=>D.int (n:Int)
theorem eQ.get {d:D}{ch:Nat->Option Nat}{m:Nat}(h:eQ d ch m){x n:Nat}(e:ch x=some n):(gM d (.int (x:Int))).join=some (.int (n:Int)):=by
 obtain⟨ks,ds,rfl,_,_,h3⟩:=h.is
 show i7 ks ds (.inl (x:Int))=_
 rw[h3,e]
 rfl
theorem eQ.put {d:D}{ch:Nat->Option Nat}{m:Nat}(h:eQ d ch m)(hm:m<16777216)(x n:Nat):∃d',(∀(ρ:L3.Env) (i:Nat) (fj f:EF),f ρ=some (.int (n:Int))->eV i ρ=some d->fj ρ=some (.int (x:Int))->jS i fj f ρ=some (.nx (ρ.set i (some d'))))/\eQ d' (λy=>if y=x then some n else ch y) (m+1):=by
 obtain⟨ks,ds,rfl,h1,h2,h3⟩:=h.is
 refine⟨.dK (fI ks ds (.inl (x:Int)) (.int (n:Int))).1 (fI ks ds (.inl (x:Int)) (.int (n:Int))).2,λρ i fj f e1 e2 e3=>?_,⟨_,_,rfl,(Pj h1 _ _).1,by have:=(Pj h1 (.inl (x:Int)) (.int (n:Int))).2;omega,λy=>?_⟩⟩
 ·unfold jS
  rw[e1]
  show(eV i ρ).bind _=_
  rw[e2]
  show(fj ρ).bind _=_
  rw[e3]
  show(if ks.length<16777216 then some (Out.nx (ρ.set i (some (.dK (fI ks ds (.inl (x:Int)) (.int (n:Int))).1 (fI ks ds (.inl (x:Int)) (.int (n:Int))).2))))else none)=_
  rw[if_pos (by omega)]
 ·rw[T5 h1]
  by_cases e:y=x
  ·subst e
   rw[if_pos rfl,if_pos rfl]
   rfl
  ·rw[if_neg (λz=>e (by have:=Sum.inl.inj z;omega)),if_neg e]
   exact h3 y
theorem Tw {c:BF}{b:SF}(I:L3.Env->Prop)(μ:L3.Env->Nat)(R:D->Prop)(st:∀ρ,I ρ->∃t,c ρ=some t/\(t=true->(∃ρ',b ρ=some (.nx ρ')/\I ρ'/\μ ρ' < μ ρ)\/∃d,b ρ=some (.rt d)/\R d)) :
  ∀(n:Nat) (ρ:L3.Env),I ρ->μ ρ<n->(∃ρ',iI c b n ρ=some (.nx ρ')/\I ρ'/\c ρ'=some false)\/∃d,iI c b n ρ=some (.rt d)/\R d
 |0,_,_,h=>absurd h (by omega)
 |n+1,ρ,hI,h=>by
  obtain⟨t,h1,h2⟩:=st ρ hI
  cases t with
  |false=>exact .inl ⟨ρ,by show(c ρ).bind _=_;rw[h1];rfl,hI,h1⟩
  |true=>
   rcases h2 rfl with⟨ρ',h3,h4,h5⟩|⟨d,h3,h4⟩
   ·rcases Tw I μ R st n ρ' h4 (by omega)with⟨ρ2,h6,h7,h8⟩|⟨d,h6,h7⟩
    ·refine .inl ⟨ρ2,?_,h7,h8⟩
     show(c ρ).bind _=_
     rw[h1]
     show(b ρ).bind _=_
     rw[h3];exact h6
    ·refine .inr ⟨d,?_,h7⟩
     show(c ρ).bind _=_
     rw[h1]
     show(b ρ).bind _=_
     rw[h3];exact h6
   ·refine .inr ⟨d,?_,h4⟩
    show(c ρ).bind _=_
    rw[h1]
    show(b ρ).bind _=_
    rw[h3];rfl
theorem zt0 {p q:Int×Int}(h1:Fz 9000 p)(h2:Fz 9000 q):Cy [fr p,fr q]=some (.bl (Fq.under p q)):=by
 have e1:=CC h1.1 h2.2 (by decide) (by decide)
 have e2:=CC h2.1 h1.2 (by decide) (by decide)
 unfold Cy
 have f0:=B6
 have f1:=oI
 walk_at "mir"
 rfl
theorem UR {n:Nat}{x y:Int×Int}(lx:Fq.Low x)(ly:Fq.Low y)(hx:Fz n x)(hy:Fz n y):Fz (n+n+1) (Fq.plus x y) :=
 K7 (lx.mul_ne ly) (Sz.add (hx.1.mul hy.2) (hy.1.mul hx.2)) ((hx.2.mul hy.2).mono (by omega))
theorem Tx {n m:Nat}{x:Int×Int}{k:Int}(lx:Fq.Low x)(hx:Fz n x)(hk:Sz m k):Fz (n+m) (Fq.scaled x k):=K7 lx.ne (hx.1.mul hk) (hx.2.mono (vB _ _))
theorem Vl {n:Nat}{p q:Int×Int}(hn:n<=2000)(lp:Fq.Low p)(lq:Fq.Low q)(h1:Fz n p)(h2:Fz n q):IY [fr p,fr q]=some (fr (Fq.plus p q)):=by
 have e1:=CC h1.1 h2.2 (by omega) (by omega)
 have e2:=CC h2.1 h1.2 (by omega) (by omega)
 have e3:=CC h1.2 h2.2 (by omega) (by omega)
 have r:=CA (t:=p.1*q.2+q.1*p.2) (lp.mul_ne lq) ((h1.2.mul h2.2).mono (by omega))
 have f0:=B6
 have f1:=oI
 unfold IY Fq.plus
 clear h1 h2 lp lq hn
 generalize fr (Fq.mk (p.1*q.2+q.1*p.2) (p.2*q.2))=rr at *
 walk_at "mir"
theorem zqr {n m:Nat}{p:Int×Int}{k:Int}(hn:n<=2000)(hm:m<=2000)(lp:Fq.Low p)(h1:Fz n p)(hk:Sz m k):Kt [fr p,.int k]=some (fr (Fq.scaled p k)):=by
 have e1:=CC h1.1 hk (by omega) (by omega)
 have r:=CA (t:=p.1*k) lp.ne (h1.2.mono (by omega))
 have f0:=B6
 have f1:=oI
 unfold Kt Fq.scaled
 clear h1 hk lp hn hm
 generalize fr (Fq.mk (p.1*k) p.2)=rr at *
 walk_at "mir"
theorem PY:Sz 1 (-1):=by unfold Sz;decide
theorem zt1 {n:Nat}{p q:Int×Int}(hn:n<=1000)(lp:Fq.Low p)(lq:Fq.Low q)(h1:Fz n p)(h2:Fz n q):CD [fr p,fr q]=some (fr (Fq.minus p q)):=by
 have e1:=zqr (by omega) (by decide) lq h2 PY
 have e2:=Vl (n:=n+1) (by omega) lp (Fq.scaled_low lq (-1)) (h1.mono (by omega)) (Tx lq h2 PY)
 unfold CD Fq.minus
 clear h1 h2 lp lq hn
 generalize fr (Fq.plus p (Fq.scaled q (-1)))=rr,fr (Fq.scaled q (-1))=sq at *
 walk_at "mir"
theorem zqs {n:Nat}{x y:Int×Int}(lx:Fq.Low x)(ly:Fq.Low y)(hx:Fz n x)(hy:Fz n y):Fz (n+1+(n+1)+1) (Fq.minus x y) :=
 UR lx (Fq.scaled_low ly (-1)) (hx.mono (by omega)) (Tx ly hy PY)
theorem zt2 (t:Int):Fq.Low (t,1):=⟨cZ 1,by show eZ t 1=1;simp⟩
theorem eQ.has {d:D}{ch:Nat->Option Nat}{m:Nat}(h:eQ d ch m)(x:Nat):gM d (.int (x:Int))=some ((ch x).map λ(n:Nat)=>D.int (n:Int)):=by
 obtain⟨ks,ds,rfl,_,_,h3⟩:=h.is
 show some (i7 ks ds (.inl (x:Int)))=_
 rw[h3]
def dU (as:List bY)(p:Int×Int)(n:Nat):Int:=(aN as n).t*p.2-((aN as n).b:Int)*p.1
def aS (as:List bY)(n:Nat):Nat:=(aN as n).s
def aG (as:List bY)(n:Nat):Nat:=(aN as n).g
structure CM (many:Nat)(a:bY):Prop where
 s:a.s<many
 g:a.g<many
 t0:0<=a.t
 t1:a.t<=1000000000
 b:a.b<=4
theorem j4 {as:List bY}{n:Nat}(hn:n<as.length):aN as n∈as:=bT.mpr ⟨n,CL hn⟩
def kD (T:Nat->Int)(x:Nat)(v:Int):Nat->Int:=λy=>if y=x then v else T y
def N6 (T:Nat->Option Nat)(x v:Nat):Nat->Option Nat:=λy=>if y=x then some v else T y
def lP (T:Nat->Nat)(x v:Nat):Nat->Nat:=λy=>if y=x then v else T y
structure nY (aP:List Nat)(S G:Nat->Nat)(c:Nat->Int)(r:Nat)(dn:List Nat)(T:Nat->Int)(ch:Nat->Option Nat)(lr ts:Nat->Nat)(k:Nat):Prop where
 le:∀x,lr x<=r
 st:∀x,ts x<k
 ch:∀x,0<lr x->∃n,ch x=some n/\n∈aP/\G n=x/\lr x<=lr (S n)+1/\T x<=T (S n)+c n/\(T x<T (S n)+c n\/ts (S n)<ts x)
 old:∀n∈aP,lr (S n)+1<r->T (S n)+c n<=T (G n)
 dn:∀n∈dn,lr (S n)<r->T (S n)+c n<=T (G n)
 pos:∀x,0<=T x
section
variable {aP:List Nat}{S G:Nat->Nat}{c:Nat->Int}{r:Nat}{dn:List Nat}{T:Nat->Int}{ch:Nat->Option Nat}{lr ts:Nat->Nat}{k:Nat}
theorem nY.start:nY aP S G c 1 [] (λ_=>0) (λ_=>none) (λ_=>0) (λ_=>0) 1 where
 le:=λ_=>cQ _
 st:=λ_=>Nat.zero_lt_one
 ch:=λ_ h=>absurd h (ez 0)
 old:=λ_ _ h=>absurd h (by omega)
 dn:=λ_ h=>by cases h
 pos:=λ_=>cZ 0
theorem nY.next (h:nY aP S G c r aP T ch lr ts k):nY aP S G c (r+1) [] T ch lr ts k where
 le:=λx=>Nat.le_succ_of_le (h.le x)
 st:=h.st
 ch:=h.ch
 old:=λn hn h1=>h.dn n hn (by omega)
 dn:=λ_ h=>by cases h
 pos:=h.pos
theorem nY.stay (h:nY aP S G c r dn T ch lr ts k){n:Nat}(hn:T (S n)+c n<=T (G n)):nY aP S G c r (dn++[n]) T ch lr ts k where
 le:=h.le
 st:=h.st
 ch:=h.ch
 old:=h.old
 dn:=λm hm h1=>by
  rcases bc.mp hm with hm|hm
  ·exact h.dn m hm h1
  ·rw[az.mp hm];exact hn
 pos:=h.pos
theorem nY.push (h:nY aP S G c r dn T ch lr ts k){n:Nat}(hn:n∈aP)(hp:T (G n)<T (S n)+c n) :
  nY aP S G c r (dn++[n]) (kD T (G n) (T (S n)+c n)) (N6 ch (G n) n) (lP lr (G n) r) (lP ts (G n) k) (k+1) where
 le:=λx=>by
  unfold lP
  split
  ·exact aF _
  ·exact h.le x
 st:=λx=>by
  unfold lP
  have:=h.st x
  split<;>omega
 ch:=λx hx=>by
  have up:∀y,T y<=kD T (G n) (T (S n)+c n) y:=λy=>by
   unfold kD
   split
   ·rename_i e;rw[e];omega
   ·exact cZ _
  have ul:∀y,lr y<=lP lr (G n) r y:=λy=>by
   unfold lP
   split
   ·exact h.le y
   ·exact aF _
  by_cases e:x=G n
  ·subst e
   refine⟨n,by simp[N6],hn,rfl,?_,?_,?_⟩
   ·have h1:¬lr (S n)+1<r:=λz=>by have:=h.old n hn z;omega
    have h2:=ul (S n)
    have h3:lP lr (G n) r (G n)=r:=by simp[lP]
    omega
   ·have h2:=up (S n)
    have h3:kD T (G n) (T (S n)+c n) (G n)=T (S n)+c n:=by simp[kD]
    omega
   ·have h3:kD T (G n) (T (S n)+c n) (G n)=T (S n)+c n:=by simp[kD]
    by_cases e2:S n=G n
    ·left
     rw[e2]at hp h3 ⊢
     omega
    ·right
     have h4:lP ts (G n) k (G n)=k:=by simp[lP]
     have h5:lP ts (G n) k (S n)=ts (S n):=by simp[lP,e2]
     have:=h.st (S n)
     omega
  ·have JE:lP lr (G n) r x=lr x:=by simp[lP,e]
   have ht:kD T (G n) (T (S n)+c n) x=T x:=by simp[kD,e]
   rw[JE]at hx
   obtain⟨m,h1,h2,h3,h4,h5,h6⟩:=h.ch x hx
   refine⟨m,by simp[N6,e,h1],h2,h3,?_,?_,?_⟩
   ·have:=ul (S m);omega
   ·have:=up (S m);omega
   ·by_cases e2:S m=G n
    ·left
     have h7:kD T (G n) (T (S n)+c n) (S m)=T (S n)+c n:=by simp[kD,e2]
     rw[e2]at h5
     omega
    ·have h7:kD T (G n) (T (S n)+c n) (S m)=T (S m):=by simp[kD,e2]
     have h8:lP ts (G n) k (S m)=ts (S m):=by simp[lP,e2]
     have h9:lP ts (G n) k x=ts x:=by simp[lP,e]
     rw[h7,h8,h9,ht]
     exact h6
 old:=λm hm h1=>by
  have e2:S m≠G n:=λe=>by
   have:lP lr (G n) r (S m)=r:=by simp[lP,e]
   omega
  have h7:kD T (G n) (T (S n)+c n) (S m)=T (S m):=by simp[kD,e2]
  have h8:lP lr (G n) r (S m)=lr (S m):=by simp[lP,e2]
  rw[h8]at h1
  have h9:=h.old m hm h1
  have:T (G m)<=kD T (G n) (T (S n)+c n) (G m):=by
   unfold kD
   split
   ·rename_i e;rw[e];omega
   ·exact cZ _
  omega
 dn:=λm hm h1=>by
  have e2:S m≠G n:=λe=>by
   have:lP lr (G n) r (S m)=r:=by simp[lP,e]
   omega
  have h7:kD T (G n) (T (S n)+c n) (S m)=T (S m):=by simp[kD,e2]
  have h8:lP lr (G n) r (S m)=lr (S m):=by simp[lP,e2]
  rw[h8]at h1
  rcases bc.mp hm with hm|hm
  ·have h9:=h.dn m hm h1
   have:T (G m)<=kD T (G n) (T (S n)+c n) (G m):=by
    unfold kD
    split
    ·rename_i e;rw[e];omega
    ·exact cZ _
   omega
  ·have hm:=az.mp hm
   subst hm
   have h3:kD T (G m) (T (S m)+c m) (G m)=T (S m)+c m:=by simp[kD]
   omega
 pos:=λx=>by
  unfold kD
  split
  ·have:=h.pos (G n);omega
  ·exact h.pos x
theorem nY.cost {Q:Nat->Prop}(h:∀n,Q n->T (G n)<=T (S n)+c n/\(T (G n)<T (S n)+c n\/ts (S n)<ts (G n))):∀{w:List Nat} {a b:Nat},mL S G a w b->(∀n∈w,Q n)->T b<=T a+(w.map c).sum/\(w=[]\/T b<T a+(w.map c).sum\/ts a<ts b)
 |[],a,b,hw,_=>by
  have hw:a=b:=hw
  subst hw
  simp
 |n::w,a,b,hw,hq=>by
  obtain⟨h1,h2⟩:=hw
  obtain⟨i1,i2⟩:=nY.cost h h2 λm hm=>hq m (ai _ hm)
  obtain⟨j1,j2⟩:=h n (hq n aa)
  rw[aR,bU]
  rw[←h1]
  refine⟨by omega,.inr ?_⟩
  rcases i2 with i2|i2|i2
  ·subst i2
   have h2:G n=b:=h2
   subst h2
   simp at i1 ⊢
   rcases j2 with j2|j2
   ·left;omega
   ·right;exact j2
  ·left;omega
  ·rcases j2 with j2|j2
   ·left;omega
   ·right;omega
end
def p5 (S G:Nat->Nat):Nat->List Nat->Nat->Prop
 |a,[],b=>a=b
 |a,n::l,b=>G n=a/\p5 S G (S n) l b
theorem p5.snoc {S G:Nat->Nat}{n:Nat}:∀{w:List Nat} {a b:Nat},p5 S G a w b->G n=b->p5 S G a (w++[n]) (S n)
 |[],a,b,h,e=>by
  have h:a=b:=h
  exact⟨by rw[e,h],rfl⟩
 |m::w,a,b,h,e=>⟨h.1,p5.snoc h.2 e⟩
theorem p5.wlk {S G:Nat->Nat}:∀{w:List Nat} {a b:Nat},p5 S G a w b->mL S G b w.reverse a
 |[],a,b,h=>by
  have h:a=b:=h
  exact h.symm
 |n::w,a,b,h=>by
  rw[lB]
  exact mL.app (h.1▸mL.one S G n) (p5.wlk h.2)
theorem p5.drop {S G:Nat->Nat}:∀{w:List Nat} {a b:Nat} {j n:Nat},p5 S G a w b->w[j]?=some n->p5 S G (G n) (w.drop j) b
 |[],a,b,j,n,h,e=>by simp at e
 |m::w,a,b,0,n,h,e=>by
  have e:m=n:=by simpa using e
  subst e
  exact⟨rfl,h.2⟩
 |m::w,a,b,j+1,n,h,e=>by
  rw[List.drop_succ_cons]
  exact p5.drop h.2 (by simpa using e)
structure Wk (ch:Nat->Option Nat)(S G:Nat->Nat)(lr:Nat->Nat)(v here:Nat)(ws:List Nat):Prop where
 ch:∀n∈ws,ch (G n)=some n/\0<lr (G n)
 way:p5 S G v ws here
 nd:(ws.map G).Nodup
 lr:lr v<=lr here+ws.length
def Pu (many:Nat)(lr:Nat->Nat)(r:Nat)(pu:D):Prop:=(pu=.non/\∀x,lr x<r)\/∃v:Nat,pu=.int (v:Int)/\v<many/\lr v=r
theorem Pm {many:Nat}{as:List bY}{ns:List D}{p:Int×Int}{aP:List Nat}{r:Nat}{M:Int}(mh:∀a∈as,CM many a)(hM:∀n,n<as.length->dU as p n<=M)(oJ:0<=M)(hr:0<r)(hn:∀n∈aP,n<as.length){e2:Option D} :
  ∀(post pre:List Nat) (T:Nat->Int) (d:D) (ch:Nat->Option Nat) (lr ts:Nat->Nat) (k m:Nat) (C:Int) (pu:D) (y6 y7 y8:Option D),aP=pre++post->nY aP (aS as) (aG as) (dU as p) r pre T ch lr ts k->eQ d ch m->m+post.length<=1000000->(∀x,T x<=C)->Pu many lr r pu ->
  ∃(T':Nat->Int) (d':D) (pG:Nat->Option Nat) (sC uN:Nat->Nat) (k':Nat) (rO:D) (z6 z7 z8:Option D),eG (gV 6) xv (aD post) [some (aY ns as),some (fr p),e2,some (.lst (cC many T)),some d,some pu,y6,y7,y8]=some (.nx [some (aY ns as),some (fr p),e2,some (.lst (cC many T')),some d',some rO,z6,z7,z8]) /\
   nY aP (aS as) (aG as) (dU as p) r aP T' pG sC uN k'/\eQ d' pG (m+post.length)/\(∀x,T' x<=C+(post.length:Int)*M)/\Pu many sC r rO
 |[],pre,T,d,ch,lr,ts,k,m,C,pu,y6,y7,y8,e,hP,hD,_,hC,hu=>by
  rw[cu]at e
  subst e
  exact⟨T,d,ch,lr,ts,k,pu,y6,y7,y8,rfl,hP,hD,λx=>by have:=hC x;simp;omega,hu⟩
 |n::post,pre,T,d,ch,lr,ts,k,m,C,pu,y6,y7,y8,e,hP,hD,hm,hC,hu=>by
  rw[aO]at hm
  have Jz:n∈aP:=by rw[e];simp
  have FL:=hn n Jz
  have ok:=mh _ (j4 FL)
  have f4:=Co ns as
  have i1:dz (.lst (as.map bv)) (.int (n:Int))=some (bv (aN as n)):=jv (by rw[bp,CL FL];rfl)
  have f1:=fs (aN as n)
  have f2:=fg (aN as n)
  have f3:=ft (aN as n)
  have f5:=fb (aN as n)
  have v1:dz (.lst (cC many T)) (.int ((aN as n).s:Int))=some (.int (T (aN as n).s)):=zev T ok.s
  have v2:dz (.lst (cC many T)) (.int ((aN as n).g:Int))=some (.int (T (aN as n).g)):=zev T ok.g
  have m1:eA (.int (aN as n).t) (.int p.2)=some (.int ((aN as n).t*p.2)):=zcg (by have:=ok.t0;omega) (by have:=ok.t1;omega)
  have m2:eA (.int ((aN as n).b:Int)) (.int p.1)=some (.int (((aN as n).b:Int)*p.1)):=zcg (by omega) (by have:=ok.b;omega)
  have e8:T (aN as n).s+(aN as n).t*p.2-((aN as n).b:Int)*p.1=T (aS as n)+dU as p n:=by unfold dU aS;omega
  have eg:(aN as n).g=aG as n:=rfl
  have p0:=B6 p
  have p1:=oI p
  have tD:eG (gV 6) xv (aD (n::post)) [some (aY ns as),some (fr p),e2,some (.lst (cC many T)),some d,some pu,y6,y7,y8]=(xv [some (aY ns as),some (fr p),e2,some (.lst (cC many T)),some d,some pu,some (.int (n:Int)),y7,y8]).bind λo=>match o with
    |.nx ρ'=>eG (gV 6) xv (aD post) ρ'
    |.ct ρ'=>eG (gV 6) xv (aD post) ρ'
    |.bk ρ'=>some (.nx ρ')
    |.rt d=>some (.rt d):=rfl
  have pe:aP=(pre++[n])++post:=by rw[e];simp
  by_cases hg:T (aG as n)<T (aS as n)+dU as p n
  ·obtain⟨d2,put,hd2⟩:=hD.put (by omega) (aG as n) n
   have gt:rJ (.int (T (aS as n)+dU as p n)) (.int (T (aN as n).g))=some (.bl true):=(zi5 _ _).trans (by rw[decide_eq_true (by rw[eg];omega)])
   have ps:kT (cC many T) ((aN as n).g:Int) (.int (T (aS as n)+dU as p n))=some (cC many (kD T (aG as n) (T (aS as n)+dU as p n))):=UA T ok.g _
   have st:xv [some (aY ns as),some (fr p),e2,some (.lst (cC many T)),some d,some pu,some (.int (n:Int)),y7,y8]=some (.nx [some (aY ns as),some (fr p),e2,some (.lst (cC many (kD T (aG as n) (T (aS as n)+dU as p n)))),some d2,some (.int ((aG as n:Nat):Int)),some (.int (n:Int)),some (bv (aN as n)),some (.int (T (aS as n)+dU as p n))]):=by
    have put:=put [some (aY ns as),some (fr p),e2,some (.lst (cC many (kD T (aG as n) (T (aS as n)+dU as p n)))),some d,some pu,some (.int (n:Int)),some (bv (aN as n)),some (.int (T (aS as n)+dU as p n))] 4 (e1 (cv [0,1,2,3] "goal") (eV 7)) (eV 6) rfl rfl f2
    have pl:pN 3 (e1 (cv [0,1,2,3] "goal") (eV 7)) (eV 8) [some (aY ns as),some (fr p),e2,some (.lst (cC many T)),some d,some pu,some (.int (n:Int)),some (bv (aN as n)),some (.int (T (aS as n)+dU as p n))]=some (.nx [some (aY ns as),some (fr p),e2,some (.lst (cC many (kD T (aG as n) (T (aS as n)+dU as p n)))),some d,some pu,some (.int (n:Int)),some (bv (aN as n)),some (.int (T (aS as n)+dU as p n))]):=by
     unfold pN e1 eV
     generalize bv (aN as n)=ea at *
     simp[f2,ps]
    have iU:T (aN as n).g<T (aS as n)+dU as p n:=hg
    generalize T (aS as n)+dU as p n=w at *
    generalize cC many (kD T (aG as n) w)=v',T (aN as n).g=tg at *
    rw[←eg]
    generalize cC many T=v0,fr p=F,as.map bv=al,aY ns as=net,bv (aN as n)=ea at *
    unfold xv
    generalize pN 3 (e1 (cv [0,1,2,3] "goal") (eV 7)) (eV 8)=PL,jS 4 (e1 (cv [0,1,2,3] "goal") (eV 7)) (eV 6)=PD at *
    clear tD pe hP hD hm hC hu e Jz FL ok hg hd2 eg mh hM oJ hn ps
    walk_at "mir"
   obtain⟨T',d',pG,sC,uN,k',rO,z6,z7,z8,h1,h2,h3,h4,h5⟩:=Pm (ns:=ns) mh hM oJ hr hn (e2:=e2) post (pre++[n]) _ d2 _ _ _ _ (m+1) (C+M) (.int ((aG as n:Nat):Int)) (some (.int (n:Int))) (some (bv (aN as n))) (some (.int (T (aS as n)+dU as p n))) pe (hP.push Jz hg) hd2 (by omega) (λx=>by
     unfold kD
     have h1:=hC x
     have h2:=hC (aS as n)
     have h3:=hM n FL
     split<;>omega) (.inr ⟨aG as n,rfl,ok.g,by simp[lP]⟩)
   refine⟨T',d',pG,sC,uN,k',rO,z6,z7,z8,?_,h2,?_,λx=>?_,h5⟩
   ·rw[tD,st]
    exact h1
   ·rw[aO,show m+(post.length+1)=m+1+post.length by omega];exact h3
   ·have:=h4 x
    rw[aO,show((post.length+1:Nat):Int)=(post.length:Int)+1 by omega,fW,iM]
    omega
  ·have gt:rJ (.int (T (aS as n)+dU as p n)) (.int (T (aN as n).g))=some (.bl false):=(zi5 _ _).trans (by rw[decide_eq_false (by rw[eg];omega)])
   have st:xv [some (aY ns as),some (fr p),e2,some (.lst (cC many T)),some d,some pu,some (.int (n:Int)),y7,y8]=some (.nx [some (aY ns as),some (fr p),e2,some (.lst (cC many T)),some d,some pu,some (.int (n:Int)),some (bv (aN as n)),some (.int (T (aS as n)+dU as p n))]):=by
    have iU:¬T (aN as n).g<T (aS as n)+dU as p n:=hg
    generalize T (aS as n)+dU as p n=w,T (aN as n).g=tg,cC many T=v0,fr p=F,as.map bv=al,aY ns as=net,bv (aN as n)=ea at *
    unfold xv
    clear tD pe hP hD hm hC hu e Jz FL ok hg eg mh hM oJ hn
    walk_at "mir"
   obtain⟨T',d',pG,sC,uN,k',rO,z6,z7,z8,h1,h2,h3,h4,h5⟩:=Pm (ns:=ns) mh hM oJ hr hn (e2:=e2) post (pre++[n]) T d ch lr ts k m C pu (some (.int (n:Int))) (some (bv (aN as n))) (some (.int (T (aS as n)+dU as p n))) pe (hP.stay (by omega)) hD (by omega) hC hu
   refine⟨T',d',pG,sC,uN,k',rO,z6,z7,z8,?_,h2,?_,λx=>?_,h5⟩
   ·rw[tD,st]
    exact h1
   ·obtain⟨ks,ds,q1,q2,q3,q4⟩:=h3.is
    exact⟨ks,ds,q1,q2,by rw[aO];omega,q4⟩
   ·have:=h4 x
    rw[aO,show((post.length+1:Nat):Int)=(post.length:Int)+1 by omega,fW,iM]
    omega
theorem zwn {many:Nat}{as:List bY}{ns:List D}{p:Int×Int}{aP:List Nat}{r:Nat}{M:Int}(mh:∀a∈as,CM many a)(hM:∀n,n<as.length->dU as p n<=M)(oJ:0<=M)(hr:0<r)(hn:∀n∈aP,n<as.length){T:Nat->Int}{d:D}{ch:Nat->Option Nat}{lr ts:Nat->Nat}{k m:Nat}{C:Int}(hP:nY aP (aS as) (aG as) (dU as p) r [] T ch lr ts k)(hD:eQ d ch m)(hm:m+aP.length<=1000000)(hC:∀x,T x<=C)(hl:∀x,lr x<r) :
  ∃(T':Nat->Int) (d':D) (pG:Nat->Option Nat) (sC uN:Nat->Nat) (k':Nat) (rO:D),v4 [aY ns as,fr p,.lst (aD aP),.lst (cC many T),d]=some (.tup [rO,.lst (cC many T'),d']) /\
   nY aP (aS as) (aG as) (dU as p) r aP T' pG sC uN k'/\eQ d' pG (m+aP.length)/\(∀x,T' x<=C+(aP.length:Int)*M)/\Pu many sC r rO:=by
 obtain⟨T',d',pG,sC,uN,k',rO,z6,z7,z8,h1,h2,h3,h4,h5⟩:=Pm (ns:=ns) mh hM oJ hr hn (e2:=some (.lst (aD aP))) aP [] T d ch lr ts k m C .non none none none rfl hP hD hm hC (.inl ⟨rfl,hl⟩)
 refine⟨T',d',pG,sC,uN,k',rO,?_,h2,h3,h4,h5⟩
 unfold v4 Bp wW Bq
 generalize cC many T=v0 at *
 generalize cC many T'=v1,fr p=F,aY ns as=net,aD aP=nl at *
 clear hP hD hm hC hl mh hM oJ hn h2 h3 h4 h5
 walk_at "mir"
theorem eQ.congr {d:D}{ch pG:Nat->Option Nat}{m:Nat}(h:eQ d ch m)(e:∀x,ch x=pG x):eQ d pG m:=by
 have:ch=pG:=funext e
 rw[←this];exact h
theorem eQ.mono {d:D}{ch:Nat->Option Nat}{m m':Nat}(h:eQ d ch m)(e:m<=m'):eQ d ch m':=by
 obtain⟨ks,ds,q1,q2,q3,q4⟩:=h.is
 exact⟨ks,ds,q1,q2,by omega,q4⟩
theorem eQ.nil:eQ (.dK [] []) (λ_=>none) 0:=⟨[],[],rfl,rfl,by simp,λ_=>rfl⟩
def uC (us:List Nat)(y:Nat):Option Nat:=if y∈us then some (us.idxOf y)else none
theorem zt3 (us:List Nat){x:Nat}(h:x∉us)(y:Nat):(if y=x then some us.length else uC us y)=uC (us++[x]) y:=by
 unfold uC
 by_cases e:y=x
 ·subst e
  rw[if_pos rfl,if_pos (by simp),sO,if_neg h]
  simp
 ·rw[if_neg e]
  by_cases hy:y∈us
  ·rw[if_pos hy,if_pos (by simp[hy]),sO,if_pos hy]
  ·rw[if_neg hy,if_neg (by simp[hy,e])]
def Yy (ρ:L3.Env):Nat:=match ρ[5]?.join with
 |some (D.lst ds)=>1000-ds.length
 |_=>0
def cR:BF:=tb (λρ=>((eV 3) ρ).bind λx=>((eV 4) ρ).bind λy=>(gM y x).bind λr=>some (.bl (!r.isSome)))
theorem zxl {as:List bY}{many m v:Nat}{d:D}{ch:Nat->Option Nat}{lr:Nat->Nat}(hD:eQ d ch m)(kQ:∀x,0<lr x->∃n,ch x=some n/\n<as.length/\aG as n=x/\lr x<=lr (aS as n)+1)(mh:∀a∈as,CM many a)(hv:v<many)(Q6:many<=lr v)(hm:many<=900) :
  ∃(R:List Nat) (x:Nat),uj [.lst (as.map bv),d,.int (v:Int)]=some (.lst (aD R))/\R≠[]/\mL (aS as) (aG as) x R x/\(R.map (aG as)).Nodup/\∀n∈R,ch (aG as n)=some n/\0<lr (aG as n):=by
 have qQ:∀(here:Nat) (us:List Nat) (d2:D) (k:Nat) (y0 y1 y2 y5:Option D),eQ d2 (uC us) k->cR [y0,y1,y2,some (.int (here:Int)),some d2,y5]=some (!decide (here∈us)):=by
  intro here us d2 k y0 y1 y2 y5 h
  have g1:=h.has here
  have tU:((uC us here).map λ(n:Nat)=>D.int (n:Int)).isSome=decide (here∈us):=by
   unfold uC
   by_cases hh:here∈us
   ·rw[if_pos hh,decide_eq_true hh];rfl
   ·rw[if_neg hh,decide_eq_false hh];rfl
  rw[←tU]
  generalize (uC us here).map (λ(n:Nat)=>D.int (n:Int))=o at *
  unfold cR
  clear h tU kQ mh hD
  walk_at "mir"
 have lp:=Tw (c:=cR) (b:=u4)
  (λρ=>∃(ws:List Nat) (here:Nat) (d2:D),ρ=[some (.lst (as.map bv)),some d,some (.int (v:Int)),some (.int (here:Int)),some d2,some (.lst (aD ws))]/\Wk ch (aS as) (aG as) lr v here ws/\here<many/\(∀n∈ws,n<as.length)/\eQ d2 (uC (ws.map (aG as))) ws.length) Yy
  (λ_=>False) (by
   rintro ρ ⟨ws,here,d2,rfl,hw,hh,hn,h2⟩
   have FY:ws.length<=many:=by
    rw[←aB (f:=aG as)]
    refine Kahn.len_le hw.nd λx hx=>?_
    obtain⟨n,h1,rfl⟩:=bE.mp hx
    exact(mh _ (j4 (hn n h1))).g
   refine⟨_,qQ here _ d2 _ _ _ _ _ h2,λht=>.inl ?_⟩
   have sx:here∉ws.map (aG as):=by simpa using ht
   have Hb:(ws.map (aG as)++[here]).Nodup:=bq.mpr ⟨hw.nd,by simp,λa ha b hb e=>sx (by rw[←az.mp hb,←e];exact ha)⟩
   have qU:=Kahn.len_le (many:=many) Hb λx hx=>by
    rcases bc.mp hx with hx|hx
    ·obtain⟨n,h1,rfl⟩:=bE.mp hx
     exact(mh _ (j4 (hn n h1))).g
    ·rw[az.mp hx];exact hh
   rw[aX,aB,cT]at qU
   have hl:=hw.lr
   obtain⟨n,c1,c2,c3,c4⟩:=kQ here (by omega)
   obtain⟨d3,put,QT⟩:=h2.put (by omega) here ws.length
   have put:=put [some (.lst (as.map bv)),some d,some (.int (v:Int)),some (.int (here:Int)),some d2,some (.lst (aD ws))] 4 (eV 3) (eN dL (aCons (eV 5) aNil)) (by
    show dL [.lst (aD ws)]=_
    rw[jm];unfold aD;rw[aB]) rfl rfl
   have g1:=hD.get c1
   have f1:=fs (aN as n)
   have i1:dz (.lst (as.map bv)) (.int (n:Int))=some (bv (aN as n)):=jv (by rw[bp,CL c2];rfl)
   refine⟨[some (.lst (as.map bv)),some d,some (.int (v:Int)),some (.int ((aN as n).s:Int)),some d3,some (.lst (aD (ws++[n])))],?_,⟨ws++[n],(aN as n).s,d3,rfl,⟨λk hk=>?_,hw.way.snoc c3,?_,?_⟩,(mh _ (j4 c2)).s,λk hk=>?_,?_⟩,?_⟩
   ·have e3:aD (ws++[n])=aD ws++[.int (n:Int)]:=by unfold aD;rw[dk];rfl
    have hz:(aD ws).length<16777216:=by unfold aD;rw[aB];omega
    rw[e3]
    generalize as.map bv=al,aD ws=wl,bv (aN as n)=ea at *
    unfold u4
    generalize jS 4 (eV 3) (eN dL (aCons (eV 5) aNil))=PP at *
    clear e3 QT c1 c2 c3 c4 hl qU Hb sx ht FY h2 hn hh hw qQ hD kQ mh hv Q6 hm
    walk_at "mir"
   ·rcases bc.mp hk with hk|hk
    ·exact hw.ch k hk
    ·rw[az.mp hk,c3];exact⟨c1,by omega⟩
   ·rw[dk,kI,c3];exact Hb
   ·rw[aX,cT]
    have:(aN as n).s=aS as n:=rfl
    rw[this]
    omega
   ·rcases bc.mp hk with hk|hk
    ·exact hn k hk
    ·rw[az.mp hk];exact c2
   ·rw[aX,cT,dk,kI,c3]
    refine QT.congr λy=>?_
    have:=zt3 (ws.map (aG as)) sx y
    rw[aB]at this
    exact this
   ·show 1000-(aD (ws++[n])).length<1000-(aD ws).length
    unfold aD
    rw[aB,aB,aX,cT]
    omega) mE [some (.lst (as.map bv)),some d,some (.int (v:Int)),some (.int (v:Int)),some (.dK [] []),some (.lst (aD []))]
  ⟨[],v,.dK [] [],rfl,⟨λn hn=>(by cases hn),rfl,by simp,by simp⟩,hv,λn hn=>(by cases hn),eQ.nil.congr λ_=>by simp[uC]⟩ (IU (by show 1000-(aD []).length<1048576;omega))
 have n0:aD []=[]:=rfl
 rw[n0]at lp
 rcases lp with⟨ρ',l1,⟨ws,here,d2,rfl,hw,hh,hn,h2⟩,hc⟩|⟨_,_,f⟩
 ·rw[qQ here _ d2 _ _ _ _ _ h2]at hc
  have lL:here∈ws.map (aG as):=by simpa using hc
  have hj:uC (ws.map (aG as)) here=some ((ws.map (aG as)).idxOf here):=by unfold uC;rw[if_pos lL]
  have su:=oz.mpr lL
  have vI:(ws.map (aG as))[(ws.map (aG as)).idxOf here]?=some here:=by
   rw[bD su,rW]
  generalize (ws.map (aG as)).idxOf here=j at *
  rw[aB]at su
  rw[bp,bD su]at vI
  replace vI:aG as ws[j]=here:=by simpa using vI
  have wlk:p5 (aS as) (aG as) here (ws.drop j) here:=by
   have:=hw.way.drop (j:=j) (n:=ws[j]) (bD su)
   rw[vI]at this
   exact this
  refine⟨(ws.drop j).reverse,here,?_,?_,wlk.wlk,?_,λn FK=>?_⟩
  ·have gv:=h2.get hj
   have ct:cutD (aD ws) (some (j:Int)) none=aD (ws.drop j):=by
    rw[Tr]
    unfold aD
    rw[oA]
   have lv:uD (.lst (aD (ws.drop j)))=some (.lst (aD (ws.drop j).reverse)):=by
    show some (D.lst (aD (ws.drop j)).reverse)=_
    unfold aD
    rw[←mw]
   unfold cR at l1
   generalize aD (ws.drop j).reverse=wr at *
   generalize aD (ws.drop j)=wd,as.map bv=al,aD ws=wl at *
   unfold uj gD
   generalize (tb (λρ=>((eV 3) ρ).bind λx=>((eV 4) ρ).bind λy=>(gM y x).bind λr=>some (.bl (!r.isSome))))=cc at *
   clear wlk vI su hj lL hc h2 hn hh hw qQ hD kQ mh hv Q6 hm
   walk_at "mir"
  ·intro e
   have:=congrArg gR e
   rw[dO,iW]at this
   simp at this
   omega
  ·rw[mw,oA]
   exact pU.mpr ((fJ.sublist (sL _ _) hw.nd).imp λh e=>h e.symm)
  ·exact hw.ch n (qC (tK.mp FK))
 ·exact f.elim
def rQ (many:Nat)(p:Int×Int)(T:Nat->Int):D:=.lst ((ao many).map λg=>fr (Fq.mk (T g) p.2))
def P9 (many:Nat)(as:List bY)(p:Int×Int)(aP:List Nat)(B:Int)(d:D):Prop :=
 (∃T:Nat->Int,d=.tup [.str "times",rQ many p T]/\(∀n∈aP,T (aS as n)+dU as p n<=T (aG as n))/\∀x,0<=T x/\T x<=B) \/
 ∃(R:List Nat) (x:Nat),d=.tup [.str "ring",.lst (aD R)]/\R≠[]/\mL (aS as) (aG as) x R x/\(R.map (aG as)).Nodup/\(∀n∈R,n∈aP)/\0<(R.map (dU as p)).sum
theorem zt4 (many:Nat):(aC many [D.int 0]).flatten=cC many λ_=>0:=by
 unfold cC
 rw[jH,bi]
 induction many with
 |zero=>rfl
 |succ n ih=>rw[cP,ej,ih,cP];rfl
theorem zqt {many:Nat}{p:Int×Int}{T:Nat->Int}(hm:many<=1000)(hp:p.2≠0)(sZ:Sz 8000 p.2)(r:L3.Env)(h1:r[1]?.join=some (fr p))(h3:r[3]?.join=some (.lst (cC many T))):u6 r=some (rQ many p T):=by
 unfold rQ
 refine wv (λ(g:Nat)=>D.int (T g)) (λg=>fr (Fq.mk (T g) p.2)) (ao many) (by unfold lsD;have:eV 3 r=_:=h3;rw[this];rfl) (by rw[bi];omega) λg _=>⟨_,rfl,?_⟩
 have fF:dH r [1]=[some (fr p)]:=by unfold dH;simp[h1]
 rw[fF]
 have p1:=oI p
 have ra:=CA (t:=T g) hp sZ
 generalize fr (Fq.mk (T g) p.2)=F,fr p=fp at *
 clear fF h1 h3 hm sZ
 walk_at "mir"
theorem Ua {many:Nat}{as:List bY}{ns:List D}{p:Int×Int}{aP:List Nat}{M:Int}(jL:ns.length=many)(A2:1<=many)(hm:many<=900)(X2:aP.length<=1000)(mh:∀a∈as,CM many a)(hp:p.2≠0)(sZ:Sz 8000 p.2)(hM:∀n,n<as.length->dU as p n<=M)(oJ:0<=M)(hn:∀n∈aP,n<as.length) :
  ∃d,xm [aY ns as,fr p,.lst (aD aP)]=some d/\P9 many as p aP ((many:Int)*((aP.length:Int)*M)) d:=by
 have ln:dL [.lst ns]=some (.int (many:Int)):=(jm _).trans (by rw[jL])
 have Mv:=j7 ns as
 have Mu:=Co ns as
 have B7:0<=(aP.length:Int)*M:=iB (by omega) oJ
 have lp:=OD (g:=gV 6) (b:=wn) (n:=many)
  (λi ρ=>∃(T:Nat->Int) (d:D) (ch:Nat->Option Nat) (lr ts:Nat->Nat) (k:Nat) (pu:D) (y6:Option D),ρ=[some (aY ns as),some (fr p),some (.lst (aD aP)),some (.lst (cC many T)),some d,some pu,y6]/\nY aP (aS as) (aG as) (dU as p) (i+1) [] T ch lr ts k/\eQ d ch (i*aP.length)/\(∀x,T x<=(i:Int)*((aP.length:Int)*M))/\(∀x,lr x<=i)/\(i=0\/∃v:Nat,pu=.int (v:Int)/\v<many/\lr v=i))
  (P9 many as p aP ((many:Int)*((aP.length:Int)*M))) (by
   rintro i ρ hi ⟨T,d,ch,lr,ts,k,pu,y6,rfl,hP,hD,hC,hl,_⟩
   have Cd:i*aP.length+aP.length<=1000000:=by
    have:i*aP.length<=900*1000:=xV (by omega) X2
    omega
   obtain⟨T',d',pG,sC,uN,k',rO,h1,h2,h3,h4,h5⟩:=zwn (ns:=ns) (aP:=aP) mh hM oJ (Nat.succ_pos i) hn hP hD Cd hC (λx=>by have:=hl x;omega)
   have wH:i8 d=true/\i8 (.lst (cC many T))=true:=by
    obtain⟨ks,ds,rfl,_⟩:=hD.is
    exact⟨rfl,rfl⟩
   have hB:∀x,T' x<=((i+1:Nat):Int)*((aP.length:Int)*M):=λx=>by
    have:=h4 x
    rw[show((i+1:Nat):Int)=(i:Int)+1 by omega,fW,iM]
    omega
   have MT:mX 3 4 (aCons (eV 0) (aCons (eV 1) (aCons (eV 2) aNil))) v4 [some (aY ns as),some (fr p),some (.lst (aD aP)),some (.lst (cC many T)),some d,some pu,some (.int (i:Int))]=some (rO,[some (aY ns as),some (fr p),some (.lst (aD aP)),some (.lst (cC many T')),some d',some pu,some (.int (i:Int))]):=by
    obtain⟨c1,c2⟩:=wH
    generalize cC many T=v0 at *
    generalize cC many T'=v1,fr p=F,aY ns as=net,aD aP=nl at *
    unfold mX
    clear hP hD hC hl Cd h2 h3 h4 h5 hB mh sZ hM oJ hn B7 ln Mv Mu
    walk_at "mir"
   have ss:oq 5 (mX 3 4 (aCons (eV 0) (aCons (eV 1) (aCons (eV 2) aNil))) v4) [some (aY ns as),some (fr p),some (.lst (aD aP)),some (.lst (cC many T)),some d,some pu,some (.int (i:Int))]=some (.nx [some (aY ns as),some (fr p),some (.lst (aD aP)),some (.lst (cC many T')),some d',some rO,some (.int (i:Int))]):=by
    unfold oq
    rw[MT]
    rfl
   refine⟨[some (aY ns as),some (fr p),some (.lst (aD aP)),some (.lst (cC many T)),some d,some pu,some (.int (i:Int))],rfl,?_⟩
   rcases h5 with⟨rfl,JA⟩|⟨v,rfl,hv,Jw⟩
   ·refine .inr ⟨.tup [.str "times",rQ many p T'],?_,.inl ⟨T',rfl,λn hn=>h2.dn n hn (JA _),λx=>⟨h2.pos x,?_⟩⟩⟩
    ·have q:=zqt (T:=T') (p:=p) (many:=many) (by omega) hp sZ [some (aY ns as),some (fr p),some (.lst (aD aP)),some (.lst (cC many T')),some d',some .non,some (.int (i:Int))] rfl rfl
     have sc:(D.str "times").sc=true:=rfl
     generalize cC many T=v0 at *
     generalize cC many T'=v1,fr p=F,aY ns as=net,aD aP=nl,rQ many p T'=TM at *
     unfold wn B5
     generalize oq 5 (mX 3 4 (aCons (eV 0) (aCons (eV 1) (aCons (eV 2) aNil))) v4)=SM at *
     clear hP hD hC hl Cd h1 h2 h3 h4 JA hB mh sZ hM oJ hn B7 ln Mv Mu wH MT
     walk_at "mir"
    ·have h6:=hB x
     have h7:((i+1:Nat):Int)*((aP.length:Int)*M)<=(many:Int)*((aP.length:Int)*M):=bg (by omega) B7
     omega
   ·refine .inl ⟨[some (aY ns as),some (fr p),some (.lst (aD aP)),some (.lst (cC many T')),some d',some (.int (v:Int)),some (.int (i:Int))],?_,⟨T',d',pG,sC,uN,k',_,_,rfl,h2.next,?_,hB,h2.le,.inr ⟨v,rfl,hv,Jw⟩⟩⟩
    ·generalize cC many T=v0 at *
     generalize cC many T'=v1,fr p=F,aY ns as=net,aD aP=nl at *
     unfold wn
     generalize oq 5 (mX 3 4 (aCons (eV 0) (aCons (eV 1) (aCons (eV 2) aNil))) v4)=SM at *
     clear hP hD hC hl Cd h1 h2 h3 h4 Jw hB mh sZ hM oJ hn B7 ln Mv Mu wH MT hv
     walk_at "mir"
    ·rw[Nat.add_mul,Nat.one_mul];exact h3)
  many 0 [some (aY ns as),some (fr p),some (.lst (aD aP)),some (.lst (cC many λ_=>0)),some (.dK [] []),some .non,none] (by omega)
  ⟨λ_=>0,.dK [] [],λ_=>none,λ_=>0,λ_=>0,1,.non,none,rfl,nY.start,eQ.nil.mono (by omega),λx=>by simp,λx=>aF 0,.inl rfl⟩
 have hrg:hV [.int (many:Int)]=some ((ao many).map λ(t:Nat)=>D.int (t:Int)):=by
  rw[BM (by omega) (by omega)]
  unfold fL
  simp
 have rp:lO (.lst [.int 0]) (.int (many:Int))=some (.lst (cC many λ_=>0)):=by
  show(if -1000000<(many:Int)/\(many:Int)<1000000/\[D.int 0].length<=16 then some (D.lst (aC (many:Int).toNat [D.int 0]).flatten)else none)=_
  rw[if_pos ⟨by omega,by omega,by simp⟩,gq,zt4 many]
 rw[←jY]at lp
 rcases lp with⟨ρ',l1,⟨T,d,ch,lr,ts,k,pu,y6,rfl,hP,hD,hC,hl,hv⟩⟩|⟨w,l1,hw⟩
 ·rcases hv with hv|⟨v,rfl,hv,Jw⟩
  ·omega
  obtain⟨R,x,r1,r2,r3,r4,r5⟩:=zxl (as:=as) (many:=many) (v:=v) hD (λx hx=>by
   obtain⟨n,c1,c2,c3,c4,_⟩:=hP.ch x hx
   exact⟨n,c1,hn n c2,c3,c4⟩) mh hv (by omega) hm
  have key:∀n∈R,n∈aP/\T (aG as n)<=T (aS as n)+dU as p n/\(T (aG as n)<T (aS as n)+dU as p n\/ts (aS as n)<ts (aG as n)):=λn X0=>by
   obtain⟨q1,q2⟩:=r5 n X0
   obtain⟨n',c1,c2,c3,c4,c5,c6⟩:=hP.ch _ q2
   rw[q1]at c1
   have:=Option.some.inj c1
   subst this
   exact⟨c2,c5,c6⟩
  obtain⟨_,k2⟩:=nY.cost (T:=T) (ts:=ts) (S:=aS as) (G:=aG as) (c:=dU as p) (Q:=λn=>n∈R) (λn h=>(key n h).2) r3 (λn h=>h)
  refine⟨.tup [.str "ring",.lst (aD R)],?_,.inr ⟨R,x,rfl,r2,r3,r4,λn h=>(key n h).1,?_⟩⟩
  ·have sc:(D.str "ring").sc=true:=rfl
   clear hP hD hC hl Jw hv key k2 r2 r3 r4 r5 mh sZ hM oJ hn B7
   generalize cC many T=v0,(cC many λ_=>0)=v1,fr p=F,as.map bv=al,aY ns as=net,aD aP=nl,aD R=rl,(ao many).map (λ(t:Nat)=>D.int (t:Int))=RP at *
   unfold xm B5
   walk_at "mir"
  ·rcases k2 with k2|k2|k2
   ·exact absurd k2 r2
   ·omega
   ·omega
 ·refine⟨w,?_,hw⟩
  clear hw mh sZ hM oJ hn B7
  generalize (cC many λ_=>0)=v1,fr p=F,as.map bv=al,aY ns as=net,aD aP=nl,(ao many).map (λ(t:Nat)=>D.int (t:Int))=RP at *
  unfold xm B5
  walk_at "mir"
def tN (as:List bY)(n:Nat):Int:=(aN as n).t
def bN (as:List bY)(n:Nat):Int:=((aN as n).b:Int)
theorem KG {as:List bY}{p:Int×Int}:∀w:List Nat,(w.map (dU as p)).sum=(w.map (tN as)).sum*p.2-(w.map (bN as)).sum*p.1
 |[]=>by simp
 |n::w=>by
  rw[aR,aR,aR,bU,bU,bU,KG w]
  unfold dU tN bN
  grind
theorem KH {f:Nat->Int}{m:Int}(hm:0<=m):∀is:List Nat,(∀i∈is,0<=f i/\f i<=m)->0<=(is.map f).sum/\(is.map f).sum<=m*(is.length:Int)
 |[],_=>by simp
 |i::is,h=>by
  obtain⟨h1,h2⟩:=KH hm is λj hj=>h j (ai _ hj)
  obtain⟨h3,h4⟩:=h i aa
  rw[aR,bU,aO]
  refine⟨by omega,?_⟩
  rw[show((is.length+1:Nat):Int)=(is.length:Int)+1 by omega,mO,mP]
  omega
theorem Ub {as:List bY}{rank:Nat->Nat}(wL:∀a∈as,a.b=0->rank a.s<rank a.g):∀{w:List Nat} {a b:Nat},mL (aS as) (aG as) a w b->(∀n∈w,n<as.length)->0<=(w.map (bN as)).sum/\((w.map (bN as)).sum=0->rank a+w.length<=rank b)
 |[],a,b,h,_=>by
  have h:a=b:=h
  subst h
  simp
 |n::w,a,b,h,hn=>by
  obtain⟨i1,i2⟩:=Ub wL h.2 λm hm=>hn m (ai _ hm)
  rw[aR,bU,aO]
  have h0:0<=bN as n:=by unfold bN;omega
  refine⟨by omega,λe=>?_⟩
  have h1:bN as n=0:=by omega
  have h2:=wL _ (j4 (hn n aa)) (by unfold bN at h1;omega)
  have h3:=i2 (by omega)
  have e1:a=(aN as n).s:=h.1.symm
  have e2:aG as n=(aN as n).g:=rfl
  rw[e2]at h3
  rw[e1]
  omega
theorem zt5 {T B c1 c2 m1 m2 S P:Int}(hc:0<c2)(hm:0<m2)(v:m1*(2*B*c2)=(T*c2+c1*B)*m2)(h:(c1*B-T*c2)*P<=S*c2*B):(m1*B-T*m2)*(2*P)<=S*m2*B:=by
 have e:(m1*B-T*m2)*(2*P)*c2=(c1*B-T*c2)*P*m2:=by
  have:(m1*B-T*m2)*(2*P)*c2=(m1*(2*B*c2)-2*T*c2*m2)*P:=by grind
  rw[this,v];grind
 have h1:=bg h (cV hm)
 rw[←e]at h1
 have e2:S*c2*B*m2=S*m2*B*c2:=by grind
 rw[e2]at h1
 exact fC h1 hc
theorem zxm {T B T2 B2 c1 c2 m1 m2 S P:Int}(hc:0<c2)(hm:0<m2)(hB:0<B)(Xn:0<B2)(hP:0<P)(v:m1*(2*B*c2)=(T*c2+c1*B)*m2)(ha:m1*B2<T2*m2)(h:(c1*B-T*c2)*P<=S*c2*B):(c1*B2-T2*c2)*(2*P)<=S*c2*B2:=by
 have k1:(c1*B2-T2*c2)*m2<=B2*(c1*m2-m1*c2):=by
  have:=bg (cV ha) (cV hc)
  grind
 have k2:(c1*m2-m1*c2)*(2*B)=m2*(c1*B-T*c2):=by grind
 have k3:(c1*B2-T2*c2)*m2*(2*B)<=B2*(m2*(c1*B-T*c2)):=by
  have:=bg k1 (show(0:Int)<=2*B by omega)
  rw[iR B2,k2]at this
  exact this
 have k4:=bg k3 (cV hP)
 have k5:=bQ h (cV (dD Xn hm))
 have k6:(c1*B2-T2*c2)*(2*P)*(m2*B)<=S*c2*B2*(m2*B):=by
  have e1:(c1*B2-T2*c2)*(2*P)*(m2*B)=(c1*B2-T2*c2)*m2*(2*B)*P:=by grind
  have e2:B2*(m2*(c1*B-T*c2))*P=B2*m2*((c1*B-T*c2)*P):=by grind
  have e3:B2*m2*(S*c2*B)=S*c2*B2*(m2*B):=by grind
  rw[e1]
  rw[e2]at k4
  rw[e3]at k5
  exact pQ k4 k5
 exact fC k6 (dD hm hB)
theorem zwo {T B T' B' c1 c2 D:Int}(hc:0<c2)(hB:0<B)(Xo:B<=D)(MH:0<B')(MI:B'<=D)(h:(c1*B-T*c2)*(D*D)<c2*B)(hu:T' * c2<=c1*B'):T' * B<=T*B':=by
 apply Int.not_lt.mp
 intro hn
 have k1:c2<=B' * (c1*B-T*c2):=by
  have a1:c2<=(T' * B-T*B')*c2:=by
   have:1*c2<=(T' * B-T*B')*c2:=bg (by omega) (cV hc)
   omega
  have a2:=bQ hu (cV hB)
  grind
 have hx:0<=c1*B-T*c2:=by
  apply Int.not_lt.mp
  intro z
  have:=Int.mul_lt_mul_of_pos_left z MH
  omega
 generalize c1*B-T*c2=x at *
 have k2:=bg k1 (cV hB)
 have k3:B' * x*B<=x*(D*D):=by
  have b1:B' * B<=D*D:=dZ MI Xo (cV hB) (by omega)
  have b2:=bQ b1 hx
  have e:B' * x*B=x*(B' * B):=by grind
  rw[e];exact b2
 omega
theorem zt6 {T B c1 c2 S P D:Int}(hx:c2*B<=(c1*B-T*c2)*(D*D))(hc:0<c2)(hB:0<B)(hS:0<=S)(hP:0<P)(h:(c1*B-T*c2)*P<=S*c2*B):P<=S*(D*D):=by
 have pos:0<c2*B:=dD hc hB
 have Yj:0<c1*B-T*c2:=by
  apply Int.not_le.mp
  intro z
  have hD:0<=D*D:=by
   rcases Int.le_total 0 D with h|h
   ·exact iB h h
   ·exact kX h h
  have:(c1*B-T*c2)*(D*D)<=0:=Int.mul_nonpos_of_nonpos_of_nonneg z hD
  omega
 generalize c1*B-T*c2=x at *
 have k1:=bQ hx hS
 have e1:S*(c2*B)=S*c2*B:=by grind
 rw[e1]at k1
 have k2:x*P<=x*(S*(D*D)):=by
  have e2:S*(x*(D*D))=x*(S*(D*D)):=by grind
  rw[e2]at k1
  exact pQ h k1
 exact oy k2 Yj
theorem zwp {T B c1 c2 m1 m2 S:Int}(hc:0<c2)(hB:0<B)(hm:0<m2)(hT:T<=S*B)(h:c1<=S*c2)(v:m1*(2*B*c2)=(T*c2+c1*B)*m2):m1<=S*m2:=by
 have k1:=bg hT (cV hc)
 have k2:=bg h (cV hB)
 have k3:T*c2+c1*B<=S*(2*B*c2):=by grind
 have k4:=bg k3 (cV hm)
 rw[←v]at k4
 have e:S*(2*B*c2)*m2=S*m2*(2*B*c2):=by grind
 rw[e]at k4
 have pos:0<2*B*c2:=dD (by omega) hc
 exact fC k4 pos
theorem zwq {T B T' B' q1 q2:Int}(hB:0<B)(hq:0<q2)(e:q1*B=T*q2)(h:T' * B<=T*B'):T' * q2<=q1*B':=by
 have k:=bg h (cV hq)
 have e1:T' * B*q2=T' * q2*B:=by grind
 have e2:T*B' * q2=q1*B' * B:=by
  have:T*B' * q2=T*q2*B':=by grind
  rw[this,←e];grind
 rw[e1,e2]at k
 exact fC k hB
def sT (as:List bY)(R:List Nat):Int:=(R.map (tN as)).sum
def sB (as:List bY)(R:List Nat):Int:=(R.map (bN as)).sum
structure RG (as:List bY)(aP:List Nat)(R:List Nat):Prop where
 ne:R≠[]
 w:∃x,mL (aS as) (aG as) x R x
 nd:(R.map (aG as)).Nodup
 m:∀n∈R,n∈aP
structure GN (many:Nat)(as:List bY)(aP:List Nat)(rk:Nat->Nat)(mb:Nat):Prop where
 m1:1<=many
 m:many<=40
 al:as.length<=120
 ok:∀a∈as,CM many a
 n:∀n∈aP,n<as.length
 nl:aP.length<=120
 r:∀a∈as,a.b=0->rk a.s<rk a.g
 b1:1<=mb
 b4:mb<=4
 b:∀a∈as,a.b<=mb
theorem Vm {f:Nat->Int}:∀aP:List Nat,(∀n∈aP,0<=f n)->0<=(aP.map f).sum
 |[],_=>by simp
 |n::aP,h0=>by
  rw[aR,bU]
  have:=Vm aP λm hm=>h0 m (ai _ hm)
  have:=h0 n aa
  omega
theorem zqu {l1 l2:List Int}(p:l1.Perm l2):l1.sum=l2.sum:=by
 induction p with
 |nil=>rfl
 |cons x _ ih=>rw[bU,bU,ih]
 |swap x y l=>rw[bU,bU,bU,bU];omega
 |trans _ _ wO Bk=>exact wO.trans Bk
theorem Uc {f:Nat->Int}:∀(R aP:List Nat),(∀n∈aP,0<=f n)->R.Nodup->(∀n∈R,n∈aP)->(R.map f).sum<=(aP.map f).sum
 |[],aP,h0,_,_=>by
  have:=Vm aP h0
  simpa using this
 |n::R,aP,h0,nd,hs=>by
  have hn:=hs n aa
  have p:=qD hn
  have e:(aP.map f).sum=f n+((aP.erase n).map f).sum:=by
   have p2:=p.map f
   rw[aR]at p2
   rw[zqu p2,bU]
  obtain⟨n1,n2⟩:=bC.mp nd
  have ih:=Uc R (aP.erase n) (λm hm=>h0 m (List.mem_of_mem_erase hm)) n2 λm hm=>(List.mem_erase_of_ne (λ(z:m=n)=>n1 (by rw[←z];exact hm))).mpr (hs m (ai _ hm))
  rw[aR,bU,e]
  omega
section
variable {many:Nat}{as:List bY}{aP:List Nat}{rk:Nat->Nat}{mb:Nat}
theorem RG.lt (h:RG as aP R)(g:GN many as aP rk mb):∀n∈R,n<as.length:=λn hn=>g.n n (h.m n hn)
theorem RG.len {R:List Nat}(h:RG as aP R)(g:GN many as aP rk mb):R.length<=many:=by
 rw[←aB (f:=aG as)]
 refine Kahn.len_le h.nd λy hy=>?_
 obtain⟨n,q1,rfl⟩:=bE.mp hy
 exact(g.ok _ (j4 (h.lt g n q1))).g
theorem RG.bds {R:List Nat}(h:RG as aP R)(g:GN many as aP rk mb):(0<=sT as R/\sT as R<=sT as aP)/\1<=sB as R/\sB as R<=(many:Int)*(mb:Int):=by
 have hn:=h.lt g
 have hl:=h.len g
 obtain⟨x,hx⟩:=h.w
 obtain⟨r1,r2⟩:=Ub (rank:=rk) g.r hx hn
 have hwp:=rz.mpr h.ne
 have bt:=KH (f:=tN as) (m:=1000000000) (by decide) R λn h=>⟨(g.ok _ (j4 (hn n h))).t0,(g.ok _ (j4 (hn n h))).t1⟩
 have bb:=KH (f:=bN as) (m:=(mb:Int)) (by omega) R λn h=>by
  have:=g.b _ (j4 (hn n h))
  unfold bN
  omega
 have rK:1<=(R.map (bN as)).sum:=by
  by_cases e:(R.map (bN as)).sum=0
  ·have:=r2 e;omega
  ·omega
 have nd:R.Nodup:=fJ.of_map (S:=(·≠·)) (aG as) (λa b h e=>h (by rw[e])) h.nd
 refine⟨⟨bt.1,?_⟩,rK,?_⟩
 ·exact Uc R aP (λn hn=>(g.ok _ (j4 (g.n n hn))).t0) nd h.m
 ·have:(mb:Int)*(R.length:Int)<=(mb:Int)*(many:Int):=bQ (by omega) (by omega)
  have e:(mb:Int)*(many:Int)=(many:Int)*(mb:Int):=fG _ _
  have:=bb.2
  unfold sB
  omega
theorem GN.st (g:GN many as aP rk mb):0<=sT as aP/\sT as aP<=120000000000:=by
 have bt:=KH (f:=tN as) (m:=1000000000) (by decide) aP λn h=>⟨(g.ok _ (j4 (g.n n h))).t0,(g.ok _ (j4 (g.n n h))).t1⟩
 have:=g.nl
 exact⟨bt.1,by have:=bt.2;unfold sT;omega⟩
theorem GN.D (g:GN many as aP rk mb):1<=(many:Int)*(mb:Int)/\(many:Int)*(mb:Int)<=160:=by
 have h1:=g.m1
 have h2:=g.b1
 have a:(1:Int)*1<=(many:Int)*(mb:Int):=dZ (by omega) (by omega) (by decide) (by omega)
 have b:(many:Int)*(mb:Int)<=40*4:=dZ (by have:=g.m;omega) (by have:=g.b4;omega) (by omega) (by decide)
 omega
theorem Tz {p:Int×Int}{T:Nat->Int}(hk:∀n∈aP,T (aS as n)+dU as p n<=T (aG as n)):∀{w:List Nat} {a b:Nat},mL (aS as) (aG as) a w b->(∀n∈w,n∈aP)->T a+(w.map (dU as p)).sum<=T b
 |[],a,b,h,_=>by
  have h:a=b:=h
  subst h
  simp
 |n::w,a,b,h,hn=>by
  have i1:=Tz hk h.2 λm hm=>hn m (ai _ hm)
  have i2:=hk n (hn n aa)
  rw[h.1]at i2
  rw[aR,bU]
  omega
def Kp (as:List bY)(aP:List Nat)(p:Int×Int):Prop:=∃T:Nat->Int,∀n∈aP,T (aS as n)+dU as p n<=T (aG as n)
theorem Kp.le {p:Int×Int}(h:Kp as aP p){R:List Nat}(hR:RG as aP R):sT as R*p.2<=p.1*sB as R:=by
 obtain⟨T,hT⟩:=h
 obtain⟨x,hx⟩:=hR.w
 have:=Tz hT hx hR.m
 rw[KG]at this
 unfold sT sB
 rw[fG p.1]
 omega
theorem US (as:List bY)(p:Int×Int):∀k:Nat,∃M:Int,0<=M/\∀n,n<k->dU as p n<=M
 |0=>⟨0,cZ 0,λn h=>absurd h (by omega)⟩
 |k+1=>by
  obtain⟨M,h1,h2⟩:=US as p k
  refine⟨max M (dU as p k),by omega,λn hn=>?_⟩
  by_cases e:n=k
  ·rw[e];omega
  ·have:=h2 n (by omega);omega
theorem UT {ns:List D}{p:Int×Int}(g:GN many as aP rk mb)(jL:ns.length=many)(hp:0<p.2)(hz:Sz 8000 p.2) :
  ∃d,v5 [aY ns as,fr p,.lst (aD aP)]=some d/\((d=.non/\Kp as aP p)\/∃R,d=.lst (aD R)/\RG as aP R/\p.1*sB as R<sT as R*p.2):=by
 obtain⟨M,oJ,hM⟩:=US as p as.length
 obtain⟨d,h1,h2⟩:=Ua (ns:=ns) (aP:=aP) (p:=p) jL g.m1 (by have:=g.m;omega) (by have:=g.nl;omega) g.ok (by omega) hz hM oJ g.n
 have i0:∀(a b:D),dz (.tup [a,b]) (.int 0)=some a:=λ_ _=>rfl
 have i1:∀(a b:D),dz (.tup [a,b]) (.int 1)=some b:=λ_ _=>rfl
 rcases h2 with⟨T,rfl,h3,_⟩|⟨R,x,rfl,r1,r2,r3,r4,r5⟩
 ·refine⟨.non,?_,.inl ⟨rfl,T,h3⟩⟩
  have e1:i6 false (.str "times") (.str "ring")=some (.bl false):=by with_unfolding_all rfl
  generalize rQ many p T=TM at *
  clear h3 hM oJ hz hp g
  generalize fr p=F,aY ns as=net,aD aP=nl at *
  unfold v5
  walk_at "mir"
 ·refine⟨.lst (aD R),?_,.inr ⟨R,rfl,⟨r1,⟨x,r2⟩,r3,r4⟩,?_⟩⟩
  ·have e1:i6 false (.str "ring") (.str "ring")=some (.bl true):=by with_unfolding_all rfl
   generalize aD R=rl at *
   clear r1 r2 r3 r4 r5 hM oJ hz hp g
   generalize fr p=F,aY ns as=net,aD aP=nl at *
   unfold v5
   walk_at "mir"
  ·rw[KG]at r5
   unfold sT sB
   rw[fG p.1]
   omega
theorem Pn {ns:List D}{R:List Nat}(g:GN many as aP rk mb)(h:RG as aP R):xQ [aY ns as,.lst (aD R)]=some (fr (Fq.mk (sT as R) (sB as R))):=by
 have hb:=h.bds g
 have e1:((R.map λ(n:Nat)=>(n:Int)).map (tI as))=R.map (tN as):=by rw[cA];exact eE λn _=>by simp[tI,tN]
 have e2:((R.map λ(n:Nat)=>(n:Int)).map (bI as))=R.map (bN as):=by rw[cA];exact eE λn _=>by simp[bI,bN]
 have en:(R.map λ(n:Nat)=>(n:Int)).map D.int=aD R:=by rw[cA];rfl
 have m:=zwm (ns:=ns) (as:=as) (is:=R.map λ(n:Nat)=>(n:Int)) (by rw[aB];have:=h.len g;have:=g.m;omega) (λa ha=>(g.ok a ha).b) (λi hi=>by
  obtain⟨n,h1,rfl⟩:=bE.mp hi
  have:=h.lt g n h1
  omega) (by rw[e2];have:=hb.2.1;unfold sB at this;omega)
 rw[e1,e2,en]at m
 exact m
theorem zt7 {ns:List D}(hl:as.length<=120):∃mb:Nat,gO 4 "most_behind" zk (aY ns as) []=some (.int (mb:Int))/\1<=mb/\(∀a∈as,a.b<=mb)/\∀k:Nat,1<=k->(∀a∈as,a.b<=k)->mb<=k:=by
 have q:ut [some (aY ns as)]=some (.lst ((as.map λa=>(a.b:Int)).map .int)):=by
  rw[cA]
  refine wv (own:=1) (cap:=[]) (g:=gV 0) bv (λa=>D.int (a.b:Int)) as (by rfl) (by omega) λa _=>⟨_,rfl,?_⟩
  exact fb a
 have ad:dS (.lst [.int 1]) (.lst ((as.map λa=>(a.b:Int)).map .int))=some (.lst ((1::as.map λa=>(a.b:Int)).map .int)):=by rw[OU (by simp;omega)];rfl
 have mx:∃v:Int,pL [.lst ((1::as.map λa=>(a.b:Int)).map .int)]=some (.int v)/\v∈(1::as.map λa=>(a.b:Int))/\∀z∈(1::as.map λa=>(a.b:Int)),z<=v:=by
  refine⟨_,?_,TU (ns:=1::as.map λa=>(a.b:Int)) rfl⟩
  show(eL ((1::as.map λa=>(a.b:Int)).map .int)).bind _=_
  rw[OA]
  rfl
 obtain⟨v,v1,v2,v3⟩:=mx
 have Yg:=v3 1 aa
 refine⟨v.toNat,?_,by omega,λa ha=>?_,λk hk M8=>?_⟩
 ·have e:((v.toNat:Nat):Int)=v:=by omega
  rw[e]
  show zk [aY ns as]=_
  generalize (1::as.map λa=>(a.b:Int)).map D.int=l1 at *
  generalize (as.map λa=>(a.b:Int)).map D.int=l2,aY ns as=net at *
  clear hl v2 v3 Yg e
  unfold zk
  walk_at "mir"
 ·have:=v3 (a.b:Int) (ai _ (bE.mpr ⟨a,ha,rfl⟩))
  omega
 ·rcases aA.mp v2 with h|h
  ·omega
  ·obtain⟨a,ha,e⟩:=bE.mp h
   have:=M8 a ha
   omega
theorem zxn {ns:List D}(jL:ns.length=many){mb:Nat}(n9:gO 4 "most_behind" zk (aY ns as) []=some (.int (mb:Int)))(h1:1<=(many:Int)*(mb:Int))(h2:(many:Int)*(mb:Int)<=160)(h3:mb<=4):J6 [aY ns as]=some (fr (Fq.mk 1 ((many:Int)*(mb:Int)*((many:Int)*(mb:Int))))):=by
 have ln:dL [.lst ns]=some (.int (many:Int)):=(jm _).trans (by rw[jL])
 have f5:=j7 ns as
 have m1:eA (.int (many:Int)) (.int (mb:Int))=some (.int ((many:Int)*(mb:Int))):=zfg (by omega) (by omega)
 have hD:0<(many:Int)*(mb:Int)*((many:Int)*(mb:Int))/\(many:Int)*(mb:Int)*((many:Int)*(mb:Int))<=160*160:=⟨dD (by omega) (by omega),dZ h2 h2 (by omega) (by decide)⟩
 generalize (many:Int)*(mb:Int)=D0 at *
 have m2:eA (.int D0) (.int D0)=some (.int (D0*D0)):=zfg (by omega) (by omega)
 have ra:=CA (t:=1) (b:=D0*D0) (by omega) (uV (w:=25600) (by omega) (by omega) (by decide))
 generalize fr (Fq.mk 1 (D0*D0))=F,aY ns as=net at *
 clear hD h1 h2 h3
 unfold J6
 walk_at "mir"
theorem zwr {p q:Int×Int}{a b c d:Int}(lp:Fq.Low p)(lq:Fq.Low q)(h1:p.1*b=a*p.2)(h2:q.1*d=c*q.2):(Fq.plus p q).1*(b*d)=(a*d+c*b)*(Fq.plus p q).2:=by
 have v:=Fq.plus_v p q
 generalize Fq.plus p q=s at *
 have mN:p.2*q.2≠0:=lp.mul_ne lq
 obtain⟨p1,p2⟩:=p
 obtain⟨q1,q2⟩:=q
 obtain⟨s1,s2⟩:=s
 dsimp only at *
 apply iz mN
 have e:(a*d+c*b)*s2*(p2*q2)=(a*p2*(d*q2)+c*q2*(b*p2))*s2:=by grind
 rw[e,←h1,←h2]
 have e2:(p1*b*(d*q2)+q1*d*(b*p2))*s2=(p1*q2+q1*p2)*s2*(b*d):=by grind
 rw[e2,←v]
 grind
def oO (p q:Int×Int):Int×Int:=Fq.mk (Fq.plus p q).1 ((Fq.plus p q).2*2)
theorem zqv {p q:Int×Int}{n:Nat}(hn:n<=2000)(lp:Fq.Low p)(lq:Fq.Low q)(zp:Fz n p)(zq:Fz n q):Ku [fr p,fr q]=some (fr (oO p q)):=by
 have pl:=Vl hn lp lq zp zq
 have zz:=UR lp lq zp zq
 have ll:=Fq.plus_low lp lq
 unfold oO
 generalize Fq.plus p q=s at *
 have f0:=B6 s
 have f1:=oI s
 have m1:eA (.int s.2) (.int 2)=some (.int (s.2*2)):=zfg (by decide) (by decide)
 have two:Sz 2 (2:Int):=uV (w:=2) (by decide) (by decide) (by decide)
 have ra:=CA (t:=s.1) (b:=s.2*2) (by have:=ll.gt;omega) ((zz.2.mul two).mono (by omega))
 generalize fr (Fq.mk s.1 (s.2*2))=F,fr s=S,fr p=Fp,fr q=Fq' at *
 clear zz ll lp lq zp zq two hn
 unfold Ku
 walk_at "mir"
theorem zws {p q:Int×Int}{a b c d:Int}(lp:Fq.Low p)(lq:Fq.Low q)(h1:p.1*b=a*p.2)(h2:q.1*d=c*q.2):(oO p q).1*(2*b*d)=(a*d+c*b)*(oO p q).2:=by
 have v:=zwr lp lq h1 h2
 have m:=Fq.mk_cross (Fq.plus p q).1 ((Fq.plus p q).2*2)
 have g:=(Fq.plus_low lp lq).gt
 unfold oO
 generalize Fq.mk (Fq.plus p q).1 ((Fq.plus p q).2*2)=m' at *
 generalize Fq.plus p q=s at *
 obtain⟨m1,m2⟩:=m'
 obtain⟨s1,s2⟩:=s
 dsimp only at *
 apply iz (show s2≠0 by omega)
 have e1:m1*(2*b*d)*s2=m1*(s2*2)*(b*d):=by grind
 have e2:(a*d+c*b)*m2*s2=(a*d+c*b)*s2*m2:=by grind
 rw[e1,e2,←v,m]
 grind
theorem Ud {p q:Int×Int}(lp:Fq.Low p)(lq:Fq.Low q):Fq.Low (oO p q):=Fq.mk_low (by have:=(Fq.plus_low lp lq).gt;omega)
theorem zt8 {p q:Int×Int}(lp:Fq.Low p)(lq:Fq.Low q):(oO p q).2<=p.2*q.2*2:=by
 have h1:=Fq.mk_le_two (t:=(Fq.plus p q).1) (b:=(Fq.plus p q).2*2) (by have:=(Fq.plus_low lp lq).gt;omega)
 have h2:=Fq.mk_le_two (t:=p.1*q.2+q.1*p.2) (b:=p.2*q.2) (lp.mul_ne lq)
 have g1:=(Fq.plus_low lp lq).gt
 have g2:=(Ud lp lq).gt
 have g3:=dD lp.gt lq.gt
 have e:(Fq.mk (p.1*q.2+q.1*p.2) (p.2*q.2))=Fq.plus p q:=rfl
 rw[e]at h2
 have e2:Fq.mk (Fq.plus p q).1 ((Fq.plus p q).2*2)=oO p q:=rfl
 rw[e2]at h1
 omega
end
theorem S3 {c:BF}{b:SF}(N:Nat)(I:Nat->L3.Env->Prop)(st:∀i ρ,I i ρ->∃t,c ρ=some t/\(t=true->i<N/\∃ρ',b ρ=some (.nx ρ')/\I (i+1) ρ')) :
  ∀(k i:Nat) (ρ:L3.Env),I i ρ->i<=N->N<i+k->∃i' ρ',iI c b k ρ=some (.nx ρ')/\I i' ρ'/\c ρ'=some false
 |0,i,ρ,_,h1,h2=>absurd h2 (by omega)
 |k+1,i,ρ,hI,hi,h=>by
  obtain⟨t,h1,h2⟩:=st i ρ hI
  cases t with
  |false=>exact⟨i,ρ,by show(c ρ).bind _=_;rw[h1];rfl,hI,h1⟩
  |true=>
   obtain⟨wJ,ρ',h3,h4⟩:=h2 rfl
   obtain⟨i',ρ2,h6,h7,h8⟩:=S3 N I st k (i+1) ρ' h4 (by omega) (by omega)
   refine⟨i',ρ2,?_,h7,h8⟩
   show(c ρ).bind _=_
   rw[h1]
   show(b ρ).bind _=_
   rw[h3]
   exact h6
def cG:BF:=bNot (tb (λρ=>((aCons (λρ=>((aCons (eV 3) (aCons (λρ=>((aCons (eV 0) (aCons (eV 2) aNil)) ρ).bind λds=>xQ (ds++[])) aNil)) ρ).bind λds=>CD (ds++[])) (aCons (eV 4) aNil)) ρ).bind λds=>Cy (ds++[])))
section
variable {many:Nat}{as:List bY}{aP:List Nat}{rk:Nat->Nat}{mb:Nat}
structure GI (as:List bY)(aP:List Nat)(i:Nat)(R:List Nat)(c:Int×Int):Prop where
 r:RG as aP R
 low:Fq.Low c
 up:∀R',RG as aP R'->sT as R' * c.2<=c.1*sB as R'
 le:c.1<=sT as aP*c.2
 sz:c.2<=((320 ^ i:Nat):Int)
 d:(c.1*sB as R-sT as R*c.2)*((2 ^ i:Nat):Int)<=sT as aP*c.2*sB as R
theorem GI.pos {i:Nat}{R:List Nat}{c:Int×Int}(h:GI as aP i R c)(g:GN many as aP rk mb):0<=c.1:=by
 have hb:=h.r.bds g
 have h1:=h.up R h.r
 have h2:0<=sT as R*c.2:=iB hb.1.1 (by have:=h.low.gt;omega)
 exact mQ (b:=sB as R) (by omega) (by omega)
theorem uI {i:Nat}(h:i<=60):((320 ^ i:Nat):Int)<=((320 ^ 60:Nat):Int):=by
 have:=dE (n:=320) (by decide) h
 exact Int.ofNat_le.mpr this
theorem rN:120000000000*((320 ^ 60:Nat):Int)<2 ^ 700:=by decide +kernel
theorem GI.fz {i:Nat}{R:List Nat}{c:Int×Int}(h:GI as aP i R c)(g:GN many as aP rk mb)(hi:i<=60):Fz 700 c:=by
 have h0:=h.pos g
 have h1:=h.low.gt
 have h2:=h.sz
 have h3:=uI hi
 have h4:=rN
 have h5:=h.le
 have h6:sT as aP*c.2<=120000000000*((320 ^ 60:Nat):Int):=dZ g.st.2 (by omega) (by omega) (by decide)
 generalize ((320 ^ 60:Nat):Int)=K at *
 exact⟨uV (w:=120000000000*K) (by omega) (by omega) h4,uV (w:=120000000000*K) (by omega) (by omega) h4⟩
theorem KI {R:List Nat}(h:RG as aP R)(g:GN many as aP rk mb):Fq.Low (Fq.mk (sT as R) (sB as R))/\Fz 700 (Fq.mk (sT as R) (sB as R))/\(Fq.mk (sT as R) (sB as R)).2<=160/\(0<=(Fq.mk (sT as R) (sB as R)).1/\(Fq.mk (sT as R) (sB as R)).1<=120000000000):=by
 obtain⟨⟨t1,t2⟩,b1,b2⟩:=h.bds g
 have hD:=g.D
 have hS:=g.st
 have l:=Fq.mk_low (t:=sT as R) (b:=sB as R) (by omega)
 have k1:=Fq.mk_le_one (t:=sT as R) (b:=sB as R) (by omega)
 have k2:=Fq.mk_le_two (t:=sT as R) (b:=sB as R) (by omega)
 have c:=Fq.mk_cross (sT as R) (sB as R)
 have gg:=l.gt
 have n0:0<=(Fq.mk (sT as R) (sB as R)).1:=by
  refine mQ (b:=sB as R) ?_ (by omega)
  rw[c]
  exact iB t1 (by omega)
 exact⟨l,K7 (by omega) (uV (w:=120000000000) (by omega) (by omega) (by decide)) (uV (w:=160) (by omega) (by omega) (by decide)),by omega,n0,by omega⟩
theorem zwt {T B D0:Int}{c:Int×Int}(lc:Fq.Low c)(hB:0<B)(hD:0<D0):Fq.under (Fq.minus c (Fq.mk T B)) (Fq.mk 1 (D0*D0))=decide ((c.1*B-T*c.2)*(D0*D0)<c.2*B):=by
 have lm:=Fq.mk_low (t:=T) (b:=B) (by omega)
 have AN:0<D0*D0:=dD hD hD
 have lg:=Fq.mk_low (t:=1) (b:=D0*D0) (by omega)
 have cm:=Fq.mk_cross T B
 have cg:=Fq.mk_cross 1 (D0*D0)
 have v:=Fq.minus_v (p:=c) (q:=Fq.mk T B) lm
 have ll:=Fq.minus_low lc lm
 generalize Fq.mk T B=m,Fq.mk 1 (D0*D0)=gp at *
 generalize Fq.minus c m=d at *
 have hm:=lm.gt
 have hc:=lc.gt
 have v2:d.1*(c.2*B)=(c.1*B-T*c.2)*d.2:=by
  obtain⟨d1,d2⟩:=d
  obtain⟨m1,m2⟩:=m
  obtain⟨c1,c2⟩:=c
  dsimp only at *
  apply iz (show m2≠0 by omega)
  have e1:d1*(c2*B)*m2=d1*(c2*m2)*B:=by grind
  have e2:(c1*B-T*c2)*d2*m2=(c1*m2*B-T*m2*c2)*d2:=by grind
  rw[e1,v,e2,←cm]
  grind
 have e:=Fq.lt_congr (n:=d.1) (d:=d.2) (m:=c.1*B-T*c.2) (e:=c.2*B) (n':=gp.1) (d':=gp.2) (m':=1) (e':=D0*D0) ll.gt (dD hc hB) lg.gt AN v2 cg
 unfold Fq.under
 refine decide_eq_decide.mpr (e.trans ?_)
 rw[iM]
theorem zt9 {ns:List D}(g:GN many as aP rk mb)(jL:ns.length=many)(n9:gO 4 "most_behind" zk (aY ns as) []=some (.int (mb:Int))) :
  ∃d,v6 [aY ns as,.lst (aD aP)]=some d/\((d=.non/\∀R,¬RG as aP R)\/∃R,d=.lst (aD R)/\RG as aP R/\∀R',RG as aP R'->sT as R' * sB as R<=sT as R*sB as R'):=by
 obtain⟨d0,a1,a2⟩:=UT (ns:=ns) (p:=(-1,1)) g jL (by decide) (uV (w:=1) (by decide) (by decide) (by decide))
 replace a1:v5 [aY ns as,.tup [.int (-1),.int 1],.lst (aD aP)]=some d0:=a1
 have hD:=g.D
 have hS:=g.st
 rcases a2 with⟨rfl,hK⟩|⟨R0,rfl,B8,_⟩
 ·refine⟨.non,?_,.inl ⟨rfl,λR hR=>?_⟩⟩
  ·generalize aY ns as=net at *
   generalize aD aP=nl at *
   clear g hK hD hS jL n9
   unfold v6
   walk_at "mir"
  ·have h1:=hK.le hR
   have h2:=hR.bds g
   dsimp only at h1
   omega
 ·have gp:=zxn (as:=as) jL n9 hD.1 hD.2 g.b4
  obtain⟨D0,Fx⟩:∃D0:Int,D0=(many:Int)*(mb:Int):=⟨_,rfl⟩
  rw[←Fx]at gp hD
  have AN:0<D0*D0/\D0*D0<=160*160:=⟨dD (by omega) (by omega),dZ hD.2 hD.2 (by omega) (by decide)⟩
  have zg:Fz 700 (Fq.mk 1 (D0*D0)):=K7 (by omega) (uV (w:=1) (by decide) (by decide) (by decide)) (uV (w:=25600) (by omega) (by omega) (by decide))
  have qQ:∀(i:Nat) (R:List Nat) (c:Int×Int) (y1 y5 y6:Option D),GI as aP i R c->i<=60->cG [some (aY ns as),y1,some (.lst (aD R)),some (fr c),some (fr (Fq.mk 1 (D0*D0))),y5,y6]=some (!decide ((c.1*sB as R-sT as R*c.2)*(D0*D0)<c.2*sB as R)):=by
   intro i R c y1 y5 y6 h hi
   have hb:=h.r.bds g
   obtain⟨lm,zm,_⟩:=KI h.r g
   have me:=Pn (ns:=ns) g h.r
   have zc:=h.fz g hi
   have mi:=zt1 (n:=700) (by decide) h.low lm zc zm
   have Uu:=zqs h.low lm zc zm
   have un:=zt0 (p:=Fq.minus c (Fq.mk (sT as R) (sB as R))) (q:=Fq.mk 1 (D0*D0)) (Uu.mono (by decide)) (zg.mono (by decide))
   rw[zwt h.low (by omega) (by omega)]at un
   generalize decide ((c.1*sB as R-sT as R*c.2)*(D0*D0)<c.2*sB as R)=bb,fr (Fq.minus c (Fq.mk (sT as R) (sB as R)))=F1,fr (Fq.mk (sT as R) (sB as R))=F2,fr (Fq.mk 1 (D0*D0))=F3,fr c=F4,aD R=rl,aY ns as=net at *
   clear Uu zc zm lm hb h hi gp zg AN hD Fx B8 a1 hS g n9 jL
   unfold cG
   walk_at "mir"
  have lp:=S3 (c:=cG) (b:=v8) 55
   (λi ρ=>i<=55/\∃(R:List Nat) (c:Int×Int) (y5 y6:Option D),ρ=[some (aY ns as),some (.lst (aD aP)),some (.lst (aD R)),some (fr c),some (fr (Fq.mk 1 (D0*D0))),y5,y6]/\GI as aP i R c) (by
    rintro i ρ ⟨hi,R,c,y5,y6,rfl,h⟩
    refine⟨_,qQ i R c _ y5 y6 h (by omega),λht=>?_⟩
    obtain⟨⟨t1,t2⟩,b1,b2⟩:=h.r.bds g
    have hc:=h.low.gt
    have Ry:¬(c.1*sB as R-sT as R*c.2)*(D0*D0)<c.2*sB as R:=by simpa using ht
    have stop:=zt6 (D:=D0) (P:=((2 ^ i:Nat):Int)) (by omega) hc (by omega) hS.1 (by have:=Nat.pow_pos (n:=i) (show 0<2 by decide);omega) h.d
    have wJ:i<55:=by
     apply Nat.not_le.mp
     intro z
     have h1:=dE (n:=2) (by decide) z
     have h2:sT as aP*(D0*D0)<=120000000000*(160*160):=dZ hS.2 AN.2 (by omega) (by decide)
     have h3:(2:Nat) ^ 55=36028797018963968:=by decide
     omega
    refine⟨wJ,?_⟩
    obtain⟨lm,zm,qW,_⟩:=KI h.r g
    have me:=Pn (ns:=ns) g h.r
    have zc:=h.fz g (by omega)
    have md:=zqv (n:=700) (by decide) lm h.low zm zc
    have cm:=Fq.mk_cross (sT as R) (sB as R)
    have v:=zws (a:=sT as R) (b:=sB as R) (c:=c.1) (d:=c.2) lm h.low cm rfl
    have lw:=Ud lm h.low
    have R6:=zt8 lm h.low
    have Rq:=lm.gt
    generalize Fq.mk (sT as R) (sB as R)=m at *
    generalize oO m c=w at *
    have hw:=lw.gt
    have BK:w.2<=((320 ^ (i+1):Nat):Int):=by
     have e1:m.2*c.2*2<=160*c.2*2:=by
      have:=bg qW (cV hc)
      omega
     have e2:=h.sz
     rw[lU]
     omega
    have zM:c.2<=((320 ^ (i+1):Nat):Int):=by
     have e2:=h.sz
     rw[lU]
     omega
    have p2:((2 ^ (i+1):Nat):Int)=2*((2 ^ i:Nat):Int):=by rw[lU];omega
    have Nn:Sz 8000 w.2:=by
     have h3:=uI (i:=i+1) (by omega)
     have h4:=rN
     generalize ((320 ^ 60:Nat):Int)=K at *
     exact(uV (n:=700) (w:=120000000000*K) (by omega) (by omega) h4).mono (by decide)
    obtain⟨d,ab,wG⟩:=UT (ns:=ns) (p:=w) g jL hw Nn
    rcases wG with⟨rfl,hK⟩|⟨R2,rfl,MN,tW⟩
    ·refine⟨[some (aY ns as),some (.lst (aD aP)),some (.lst (aD R)),some (fr w),some (fr (Fq.mk 1 (D0*D0))),some (fr w),some .non],?_,by omega,R,w,_,_,rfl,⟨h.r,lw,λR' yD=>hK.le yD,?_,BK,?_⟩⟩
     ·generalize fr (Fq.mk 1 (D0*D0))=F3 at *
      generalize fr c=F4,fr w=F5,fr m=F6,aD R=rl,aD aP=nl,aY ns as=net at *
      clear Nn p2 zM BK hw R6 lw v cm Rq zc qW zm lm wJ stop Ry hc t1 t2 b1 b2 ht h hi qQ zg AN Fx gp B8 a1 hS g n9 jL hD hK
      unfold v8
      walk_at "mir"
     ·refine zwp (T:=sT as R) (B:=sB as R) hc (by omega) hw ?_ h.le v
      have:sT as aP*1<=sT as aP*sB as R:=bQ (by omega) hS.1
      omega
     ·rw[p2]
      exact zt5 hc hw v h.d
    ·refine⟨[some (aY ns as),some (.lst (aD aP)),some (.lst (aD R2)),some (fr c),some (fr (Fq.mk 1 (D0*D0))),some (fr w),some (.lst (aD R2))],?_,by omega,R2,c,_,_,rfl,⟨MN,h.low,h.up,h.le,zM,?_⟩⟩
     ·generalize fr (Fq.mk 1 (D0*D0))=F3 at *
      generalize fr c=F4,fr w=F5,fr m=F6,aD R=rl at *
      generalize aD R2=rl2,aD aP=nl,aY ns as=net at *
      clear Nn p2 zM BK hw R6 lw v cm Rq zc qW zm lm wJ stop Ry hc t1 t2 b1 b2 ht h hi qQ zg AN Fx gp B8 a1 hS g n9 jL hD tW MN
      unfold v8
      walk_at "mir"
     ·rw[p2]
      have Ca:=MN.bds g
      exact zxm hc hw (by omega) (by omega) (by have:=Nat.pow_pos (n:=i) (show 0<2 by decide);omega) v tW h.d) mE 0 [some (aY ns as),some (.lst (aD aP)),some (.lst (aD R0)),some (fr (sT as aP,1)),some (fr (Fq.mk 1 (D0*D0))),none,none]
   ⟨by omega,R0,(sT as aP,1),none,none,rfl,⟨B8,zt2 _,λR' yD=>by
    have hb:=yD.bds g
    have:sT as aP*1<=sT as aP*sB as R':=bQ (by omega) hS.1
    dsimp only
    omega,by dsimp only;omega,by simp,by
    have hb:=B8.bds g
    dsimp only
    simp
    omega⟩⟩ (by omega) (by have:=IU (n:=60) (by omega);omega)
  obtain⟨i,ρ',l1,⟨hi,R,c,y5,y6,rfl,h⟩,hc⟩:=lp
  rw[qQ i R c _ y5 y6 h (by omega)]at hc
  have lt:(c.1*sB as R-sT as R*c.2)*(D0*D0)<c.2*sB as R:=by simpa using hc
  have hb:=h.r.bds g
  refine⟨.lst (aD R),?_,.inr ⟨R,rfl,h.r,λR' yD=>?_⟩⟩
  ·have sm:=PX (aP.map (tN as))
   have en:(aP.map λ(n:Nat)=>(n:Int)).map D.int=aD aP:=by rw[cA];rfl
   have e1:((aP.map λ(n:Nat)=>(n:Int)).map λi=>(aN as i.toNat).t)=aP.map (tN as):=by rw[cA];exact eE λn _=>by simp[tN]
   have q1:=PV (ns:=ns) (as:=as) (is:=aP.map λ(n:Nat)=>(n:Int)) (fld:="time") (f:=λa=>a.t) (q:=Se) rfl ft (by rw[aB];have:=g.nl;omega) (λi hi=>by
    obtain⟨n,h1,rfl⟩:=bE.mp hi
    have:=g.n n h1
    omega) [some (aY ns as),some (.lst (aD aP)),some (.lst (aD R0)),none,none,none,none] rfl (by rw[en];rfl)
   rw[e1]at q1
   have es:(aP.map (tN as)).sum=sT as aP:=rfl
   rw[es]at sm
   have ef:fr (sT as aP,1)=.tup [.int (sT as aP),.int 1]:=rfl
   rw[ef]at l1
   unfold cG at l1
   clear e1 en es ef hb lt hc h hi qQ zg AN Fx B8 hS g n9 jL hD
   generalize fr (Fq.mk 1 (D0*D0))=F3,fr c=F4,sT as aP=S,(aP.map (tN as)).map D.int=tl,aD R=rl at *
   generalize aD R0=rl0,aD aP=nl,aY ns as=net at *
   unfold v6 gD
   generalize (bNot (tb (λρ=>((aCons (λρ=>((aCons (eV 3) (aCons (λρ=>((aCons (eV 0) (aCons (eV 2) aNil)) ρ).bind λds=>xQ (ds++[])) aNil)) ρ).bind λds=>CD (ds++[])) (aCons (eV 4) aNil)) ρ).bind λds=>Cy (ds++[]))))=cc at *
   walk_at "mir"
  ·have B9:=yD.bds g
   exact zwo (D:=D0) h.low.gt (by omega) (by omega) (by omega) (by omega) lt (h.up R' yD)
theorem zua {ns:List D}(g:GN many as aP rk mb)(jL:ns.length=many)(n9:gO 4 "most_behind" zk (aY ns as) []=some (.int (mb:Int))) :
  ∃d,u7 [aY ns as,.lst (aD aP)]=some d/\((d=.non/\∀R,¬RG as aP R)\/∃(R:List Nat) (q:Int×Int) (T:Nat->Int),d=.tup [fr q,.lst (aD R),rQ many q T]/\RG as aP R/\q=Fq.mk (sT as R) (sB as R)/\(∀R',RG as aP R'->sT as R' * q.2<=q.1*sB as R')/\(∀n∈aP,T (aS as n)+dU as q n<=T (aG as n))/\∀x,0<=T x/\T x<=1000000000000000):=by
 obtain⟨d0,a1,a2⟩:=zt9 g jL n9
 rcases a2 with⟨rfl,hN⟩|⟨R,rfl,hR,sv⟩
 ·refine⟨.non,?_,.inl ⟨rfl,hN⟩⟩
  generalize aY ns as=net,aD aP=nl at *
  clear g hN jL n9
  unfold u7
  walk_at "mir"
 ·have me:=Pn (ns:=ns) g hR
  obtain⟨lm,zm,qW,n0,n1⟩:=KI hR g
  have cm:=Fq.mk_cross (sT as R) (sB as R)
  have hb:=hR.bds g
  obtain⟨q,hq⟩:∃q,q=Fq.mk (sT as R) (sB as R):=⟨_,rfl⟩
  rw[←hq]at me lm zm qW n0 n1 cm
  have lg:=lm.gt
  have hM:∀n,n<as.length->dU as q n<=160000000000:=λn hn=>by
   have o:=g.ok _ (j4 hn)
   unfold dU
   have g1:(aN as n).t*q.2<=1000000000*160:=dZ o.t1 qW (by omega) (by decide)
   have g2:0<=((aN as n).b:Int)*q.1:=iB (by omega) n0
   omega
  obtain⟨d,t1,t2⟩:=Ua (ns:=ns) (aP:=aP) (p:=q) jL g.m1 (by have:=g.m;omega) (by have:=g.nl;omega) g.ok (by omega) (zm.2.mono (by decide)) hM (by decide) g.n
  have oM:∀R',RG as aP R'->sT as R' * q.2<=q.1*sB as R':=λR' yD=>zwq (by omega) lg cm (sv R' yD)
  rcases t2 with⟨T,rfl,k1,k2⟩|⟨R2,x,rfl,r1,r2,r3,r4,r5⟩
  ·refine⟨.tup [fr q,.lst (aD R),rQ many q T],?_,.inr ⟨R,q,T,rfl,hR,hq,oM,k1,λx=>⟨(k2 x).1,?_⟩⟩⟩
   ·have i1:∀(a b:D),dz (.tup [a,b]) (.int 1)=some b:=λ_ _=>rfl
    generalize rQ many q T=TM,fr q=F,aD R=rl,aD aP=nl,aY ns as=net at *
    clear k1 k2 oM hM lg hb cm n0 n1 qW zm lm sv hR hq g n9 jL
    unfold u7
    walk_at "mir"
   ·have:=(k2 x).2
    have b1:(aP.length:Int)*160000000000<=120*160000000000:=by have:=g.nl;omega
    have b2:(many:Int)*((aP.length:Int)*160000000000)<=40*(120*160000000000):=dZ (by have:=g.m;omega) b1 (by omega) (by decide)
    omega
  ·exfalso
   rw[KG]at r5
   have:=oM R2 ⟨r1,⟨x,r2⟩,r3,r4⟩
   unfold sT sB at this
   rw[fG q.1]at this
   omega
end
theorem UU {α:Type}[DecidableEq α]:∀{F L:List α},F.Nodup->L.Nodup->(∀x,x∈F↔x∈L)->F.Perm L
 |[],L,_,_,h=>by
  cases L with
  |nil=>exact .refl _
  |cons y L=>exact absurd ((h y).mpr aa) (by simp)
 |x::F,L,n1,n2,h=>by
  obtain⟨m1,m2⟩:=bC.mp n1
  have hx:=(h x).mp aa
  refine .trans (.cons x (UU m2 (n2.erase x) λy=>?_)) (qD hx).symm
  rw[n2.mem_erase_iff]
  constructor
  ·exactλhy=>⟨λz=>m1 (z▸hy),(h y).mp (ai _ hy)⟩
  ·rintro⟨h1,h2⟩
   rcases aA.mp ((h y).mpr h2)with z|z
   ·exact absurd z h1
   ·exact z
inductive yA (as:List bY)(g:Nat):Nat->Prop
 |self:yA as g g
 |step {a:bY}:a∈as->yA as g a.g->yA as g a.s
structure vD (as:List bY)(g:Nat)(F:List Nat):Prop where
 nd:F.Nodup
 st:g∈F
 ok:∀x∈F,yA as g x
def lf (as:List bY)(F:List Nat):Prop:=∀a∈as,a.g∈F->a.s∈F
theorem vD.all {as:List bY}{g:Nat}{F:List Nat}(h:vD as g F)(hc:lf as F)(x:Nat):x∈F↔yA as g x:=by
 refine⟨h.ok x,λr=>?_⟩
 induction r with
 |self=>exact h.st
 |step ha _ ih=>exact hc _ ha ih
theorem Kj (F:List Nat):eL (aD F)=some (F.map λ(x:Nat)=>(x:Int)):=by
 unfold aD
 induction F with
 |nil=>rfl
 |cons x F ih=>show(eL _).bind _=_;rw[ih];rfl
theorem zok {F L:List Nat}(h:F.Perm L)(hl:L.length<64):nh [.lst (aD F)]=nh [.lst (aD L)]:=by
 show(eL (aD F)).bind _=(eL (aD L)).bind _
 rw[Kj,Kj]
 simp only[bL,aB]
 rw[h.length_eq]
 have e:mm (F.map λ(x:Nat)=>(x:Int))=mm (L.map λ(x:Nat)=>(x:Int)):=J1 ((qy _).trans ((h.map _).trans (qy _).symm)) (jt _) (jt _)
 rw[e]
def gk (F:List Nat)(a:bY):List Nat:=if a.g∈F/\a.s∉F then F++[a.s]else F
theorem UV {as:List bY}{g:Nat}{F:List Nat}{a:bY}(h:vD as g F)(ha:a∈as):vD as g (gk F a):=by
 unfold gk
 split
 ·next hc=>
  refine⟨bq.mpr ⟨h.nd,by simp,λx hx y hy=>?_⟩,bm _ h.st,λx hx=>?_⟩
  ·rw[az.mp hy]
   exactλz=>hc.2 (z▸hx)
  ·rcases bc.mp hx with hx|hx
   ·exact h.ok x hx
   ·rw[az.mp hx];exact .step ha (h.ok _ hc.1)
 ·exact h
theorem OO {F:List Nat}{a:bY}:∀x∈F,x∈gk F a:=λx hx=>by
 unfold gk
 split
 ·exact bm _ hx
 ·exact hx
def pass (as:List bY)(F:List Nat):List Nat:=as.foldl gk F
theorem Po {B4:List bY}{g:Nat}:∀(as:List bY) (F:List Nat),(∀a∈as,a∈B4)->vD B4 g F->vD B4 g (pass as F)/\(∀x∈F,x∈pass as F)/\(∀x∈pass as F,x∈F\/∃a∈as,a.s=x)
 |[],F,_,h=>⟨h,λ_ hx=>hx,λ_ hx=>.inl hx⟩
 |a::as,F,hs,h=>by
  obtain⟨i1,i2,i3⟩:=Po as (gk F a) (λb hb=>hs b (ai _ hb)) (UV h (hs a aa))
  refine⟨i1,λx hx=>i2 x (OO x hx),λx hx=>?_⟩
  rcases i3 x hx with h1|⟨b,hb,h1⟩
  ·unfold gk at h1
   split at h1
   ·rcases bc.mp h1 with h1|h1
    ·exact .inl h1
    ·exact .inr ⟨a,aa,(az.mp h1).symm⟩
   ·exact .inl h1
  ·exact .inr ⟨b,ai _ hb,h1⟩
theorem zqw (F:List Nat)(a:bY):F.length<=(gk F a).length/\((gk F a).length=F.length->gk F a=F/\(a.g∈F->a.s∈F)):=by
 unfold gk
 split
 ·rw[aX];exact⟨vB _ _,λh=>absurd h (by simp)⟩
 ·next hc=>exact⟨aF _,λ_=>⟨rfl,λh=>Classical.byContradiction λz=>hc ⟨h,z⟩⟩⟩
theorem zqx:∀(as:List bY) (F:List Nat),F.length<=(pass as F).length/\((pass as F).length=F.length->pass as F=F/\lf as F)
 |[],F=>⟨aF _,λ_=>⟨rfl,λa ha=>(by cases ha)⟩⟩
 |a::as,F=>by
  obtain⟨l1,l2⟩:=zqw F a
  obtain⟨i1,i2⟩:=zqx as (gk F a)
  refine⟨cD l1 i1,λh=>?_⟩
  have h:(pass as (gk F a)).length=F.length:=h
  obtain⟨e1,e2⟩:=l2 (by omega)
  rw[e1]at i2 h
  obtain⟨e3,e4⟩:=i2 h
  refine⟨by show pass as (gk F a)=F;rw[e1,e3],λb hb=>?_⟩
  rcases aA.mp hb with rfl|hb
  ·exact e2
  ·exact e4 b hb
theorem Ue {g:Nat}{B4:List bY}:∀(bs:List bY) (F:List Nat),(∀a∈bs,a∈B4)->vD B4 g F->∀a∈bs,a.g∈F->a.s∈pass bs F
 |b::bs,F,hs,h,a,ha,hg=>by
  have h1:=UV h (hs b aa)
  obtain⟨_,p2,_⟩:=Po bs (gk F b) (λc hc=>hs c (ai _ hc)) h1
  rcases aA.mp ha with rfl|ha
  ·refine p2 _ ?_
   unfold gk
   by_cases hc:a.s∈F
   ·rw[if_neg (λz=>z.2 hc)];exact hc
   ·rw[if_pos ⟨hg,hc⟩];exact ay _ (az.mpr rfl)
  ·exact Ue bs (gk F b) (λc hc=>hs c (ai _ hc)) h1 a ha (OO _ hg)
theorem Ug:∀(bs:List bY) (F:List Nat),∃e,pass bs F=F++e
 |[],F=>⟨[],by simp[pass]⟩
 |b::bs,F=>by
  obtain⟨e,he⟩:=Ug bs (gk F b)
  show∃e,pass bs (gk F b)=F++e
  rw[he]
  unfold gk
  split
  ·exact⟨[b.s]++e,by simp⟩
  ·exact⟨e,rfl⟩
theorem O2 (neg:Bool)(n:Nat)(out:List Nat):inD neg (.int (n:Int)) (.lst (aD out))=some (.bl (if neg then !decide (n∈out)else decide (n∈out))):=by
 have hs:(aD out).all D.sc=true:=by
  unfold aD
  rw[List.all_map]
  exact cH.mpr λx _=>rfl
 have hi:yL (.int (n:Int)) (aD out)=decide (n∈out):=by
  unfold yL aD
  rw[List.any_map]
  clear hs
  induction out with
  |nil=>rfl
  |cons x out ih=>
   rw[eu,ih]
   show(((x:Int)==(n:Int)) || decide (n∈out))=_
   by_cases h:x=n
   ·subst h;simp
   ·have h':¬(x:Int)=(n:Int):=by omega
    have h2:¬n=x:=λz=>h z.symm
    simp[h',h2]
 show(if _ then _ else _)=_
 rw[if_pos ⟨rfl,hs⟩,hi]
theorem Vn {ns:List D}{as:List bY}{g d here:Nat}:∀(qs:List (bY×Nat)) (F:List Nat) (x5:Option D),here∈F->(∀p∈qs,as[p.2]?=some p.1/\p.1.g=here)->F.length+qs.length<=10000 ->
  ∃y5,eG (gV 5) uv (qs.map λp=>D.int (p.2:Int)) [some (aY ns as),some (.int (g:Int)),some (.lst (aD F)),some (.int (d:Int)),some (.int (here:Int)),x5]=some (.nx [some (aY ns as),some (.int (g:Int)),some (.lst (aD (pass (qs.map (·.1)) F))),some (.int (d:Int)),some (.int (here:Int)),y5])
 |[],F,x5,_,_,_=>⟨x5,rfl⟩
 |p::qs,F,x5,hh,hq,hl=>by
  obtain⟨FM,sy⟩:=hq p aa
  have eo:(gk F p.1).length<=F.length+1:=by unfold gk;split<;>simp
  obtain⟨y5,hy⟩:=Vn (ns:=ns) (g:=g) (d:=d) qs (gk F p.1) (some (.int (p.2:Int))) (OO _ hh) (λq rL=>hq q (ai _ rL)) (by rw[aO]at hl;omega)
  refine⟨y5,?_⟩
  have step:uv [some (aY ns as),some (.int (g:Int)),some (.lst (aD F)),some (.int (d:Int)),some (.int (here:Int)),some (.int (p.2:Int))]=some (.nx [some (aY ns as),some (.int (g:Int)),some (.lst (aD (gk F p.1))),some (.int (d:Int)),some (.int (here:Int)),some (.int (p.2:Int))]):=by
   have n1:=O2 true p.1.s F
   have f4:cv [4] "arrows" (aY ns as)=some (.lst (as.map bv)):=rfl
   have i1:dz (.lst (as.map bv)) (.int (p.2:Int))=some (bv p.1):=jv (by rw[bp,FM];rfl)
   have g1:=fs p.1
   have hz:(aD F).length<16777216:=by unfold aD;rw[aB];rw[aO]at hl;omega
   by_cases hs:p.1.s∈F
   ·have e:gk F p.1=F:=by unfold gk;rw[if_neg λz=>z.2 hs]
    rw[e]
    rw[decide_eq_true hs]at n1
    generalize aY ns as=net,aD F=fs at *
    unfold uv
    clear hy hq hl FM sy eo hs hh e
    walk_at "mir"
   ·have e:aD (gk F p.1)=aD F++[.int (p.1.s:Int)]:=by
     unfold gk
     rw[if_pos ⟨by rw[sy];exact hh,hs⟩]
     simp[aD]
    rw[e]
    rw[decide_eq_false hs]at n1
    generalize aY ns as=net,aD F=fs at *
    unfold uv
    clear hy hq hl FM sy eo hs hh e
    walk_at "mir"
  show(uv [some (aY ns as),some (.int (g:Int)),some (.lst (aD F)),some (.int (d:Int)),some (.int (here:Int)),some (.int (p.2:Int))]).bind _=_
  rw[step]
  exact hy
def NE (ρ:L3.Env):Nat:=match ρ with
 |[_,_,_,some (.int d),_,_]=>(1000-d).toNat
 |_=>0
theorem zub {ns:List D}{as:List bY}{many g:Nat}(hm:many<=40)(hl:as.length<=120)(hs:∀a∈as,a.s<many)(hg:g<many):∃F:List Nat,vD as g F/\lf as F/\(∀x∈F,x<many)/\j9 [aY ns as,.int (g:Int)]=nh [.lst (aD F)]:=by
 obtain⟨ρ',h1,hI,hc⟩:=Ka (c:=tb (e2 pK (eV 3) (eN dL (aCons (eV 2) aNil)))) (b:=Oj)
  (λρ=>∃(F:List Nat) (d:Nat) (x4 x5:Option D),ρ=[some (aY ns as),some (.int (g:Int)),some (.lst (aD F)),some (.int (d:Int)),x4,x5]/\vD as g F/\(∀x∈F,x<many)/\d<=F.length/\∀i,i<d->∀a∈as,F[i]?=some a.g->a.s∈F) NE (by
   rintro ρ ⟨F,d,x4,x5,rfl,hF,iU,hd,n8⟩
   have QK:=Kahn.len_le hF.nd iU
   have eo:(aD F).length=F.length:=by simp[aD]
   refine⟨decide (d<F.length),?_,λFI=>?_⟩
   ·have e:decide ((d:Int)<((aD F).length:Int))=decide (d<F.length):=by rw[eo];by_cases h:d<F.length<;>simp[h]<;>omega
    rw[←e]
    generalize aY ns as=net,aD F=fs at *
    clear hF iU hd n8 QK eo e
    walk_at "mir"
   ·have tZ:d<F.length:=by simpa using FI
    obtain⟨here,hh⟩:∃here,F[d]?=some here:=⟨_,bD tZ⟩
    have M5:here∈F:=bT.mpr ⟨_,hh⟩
    have in1:=PQ (ns:=ns) (as:=as) (by omega) here
    have Yp:=IV (m:="into") (f:=vi) (ns:=ns) (as:=as) (ds:=[.int (here:Int)]) (by decide +kernel)
    rw[in1]at Yp
    have yI:∀p∈as.zipIdx.filter (λp=>decide (p.1.g=here)),as[p.2]?=some p.1/\p.1.g=here:=λp hp=>⟨K1 (aJ.mp hp).1,by simpa using(aJ.mp hp).2⟩
    have iL:(as.zipIdx.filter (λp=>decide (p.1.g=here))).length<=120:=cD (eW _ _) (by rw[kG];exact hl)
    have hn:aD (into as here)=(as.zipIdx.filter (λp=>decide (p.1.g=here))).map λp=>D.int (p.2:Int):=by unfold into aD;rw[cA];rfl
    have t9:∀a∈(as.zipIdx.filter (λp=>decide (p.1.g=here))).map (·.1),a∈as:=λa ha=>by
     obtain⟨p,hp,rfl⟩:=bE.mp ha
     exact bT.mpr ⟨_,(yI p hp).1⟩
    have pI:∀a∈as,a.g=here->a∈(as.zipIdx.filter (λp=>decide (p.1.g=here))).map (·.1):=λa ha iK=>by
     have:=Kf (λa:bY=>decide (a.g=here)) as 0
     rw[this]
     exact aJ.mpr ⟨ha,by simpa using iK⟩
    obtain⟨y5,hy⟩:=Vn (ns:=ns) (as:=as) (g:=g) (d:=d) (here:=here) _ F x5 M5 yI (by omega)
    generalize (as.zipIdx.filter (λp=>decide (p.1.g=here))).map (·.1)=bs at *
    obtain⟨p1,p2,p3⟩:=Po bs F t9 hF
    obtain⟨ext,sr⟩:=Ug bs F
    rw[←hn]at hy
    refine⟨[some (aY ns as),some (.int (g:Int)),some (.lst (aD (pass bs F))),some (.int ((d+1:Nat):Int)),some (.int (here:Int)),y5],.inl ?_,⟨pass bs F,d+1,_,_,rfl,p1,λx hx=>?_,?_,λi hi a ha iK=>?_⟩,?_⟩
    ·have i1:dz (.lst (aD F)) (.int (d:Int))=some (.int (here:Int)):=jv (by unfold aD;rw[bp,hh];rfl)
     have e1:((d+1:Nat):Int)=(d:Int)+1:=by omega
     rw[e1]
     generalize aD (pass bs F)=f2,aD F=f1,aD (into as here)=ms,aY ns as=net at *
     unfold Oj rf i2
     clear hF iU hd n8 QK eo FI tZ hh M5 in1 yI iL hn t9 pI p1 p2 p3 sr e1
     walk_at "mir"
    ·rcases p3 x hx with h|⟨a,ha,rfl⟩
     ·exact iU x h
     ·exact hs a (t9 a ha)
    ·rw[sr,aX];omega
    ·by_cases mj:i<d
     ·refine p2 _ (n8 i mj a ha ?_)
      rw[sr,ck (by omega)]at iK
      exact iK
     ·obtain rfl:i=d:=by omega
      rw[sr,ck tZ,hh]at iK
      have iK:here=a.g:=by simpa using iK
      exact Ue bs F t9 hF a (pI a ha iK.symm) (by rw[←iK];exact M5)
    ·show(1000-((d+1:Nat):Int)).toNat<(1000-(d:Int)).toNat
     omega) mE [some (aY ns as),some (.int (g:Int)),some (.lst (aD [g])),some (.int ((0:Nat):Int)),none,none]
  ⟨[g],0,_,_,rfl,⟨by simp,by simp,λx hx=>by rw[az.mp hx];exact .self⟩,λx hx=>by rw[az.mp hx];exact hg,cQ _,λi hi=>by omega⟩ (IU (by show(1000-((0:Nat):Int)).toNat<1048576;omega))
 obtain⟨F,d,x4,x5,rfl,hF,iU,hd,n8⟩:=hI
 have eo:(aD F).length=F.length:=by simp[aD]
 have tZ:d=F.length:=by
  have e:tb (e2 pK (eV 3) (eN dL (aCons (eV 2) aNil))) [some (aY ns as),some (.int (g:Int)),some (.lst (aD F)),some (.int (d:Int)),x4,x5]=some (decide ((d:Int)<((aD F).length:Int))):=rfl
  rw[e,eo]at hc
  have:¬(d:Int)<(F.length:Int):=by simpa using hc
  omega
 refine⟨F,hF,λa ha iK=>?_,iU,?_⟩
 ·obtain⟨i,hi,ei⟩:=cY.mp iK
  exact n8 i (by omega) a ha (by rw[bD hi,ei])
 ·obtain⟨v,hv⟩:∃v,nh [.lst (aD F)]=some v:=by
   show∃v,(eL (aD F)).bind _=some v
   rw[Kj]
   have:=Kahn.len_le hF.nd iU
   simp only[bL,aB]
   rw[if_pos (by omega)]
   exact⟨_,rfl⟩
  rw[hv]
  have e0:((0:Nat):Int)=0:=rfl
  have e1:aD [g]=[.int (g:Int)]:=rfl
  rw[e0,e1]at h1
  generalize aY ns as=net,aD F=fs at *
  unfold j9 gD
  clear hc hF iU hd n8 eo tZ hg hs hl hm
  walk_at "mir"
structure Ld (many:Nat)(as:List bY)(g:Nat)(L:List Nat):Prop where
 srt:L=(ao many).filter λx=>decide (x∈L)
 mem:∀x,x∈L↔yA as g x
theorem Ld.lt {many:Nat}{as:List bY}{g:Nat}{L:List Nat}(h:Ld many as g L):∀x∈L,x<many:=λx hx=>by
 rw[h.srt]at hx
 exact aK.mp (aJ.mp hx).1
theorem Ld.cls {many:Nat}{as:List bY}{g:Nat}{L:List Nat}(h:Ld many as g L){a:bY}(ha:a∈as)(hg:a.g∈L):a.s∈L:=(h.mem _).mpr (.step ha ((h.mem _).mp hg))
theorem zom {many:Nat}{F:List Nat}(nd:F.Nodup)(lt:∀x∈F,x<many)(hm:many<64):nh [.lst (aD F)]=some (.lst (aD ((ao many).filter λx=>decide (x∈F)))):=by
 have YA:((ao many).filter λx=>decide (x∈F)).Nodup:=fJ.filter _ gJ
 have hl:((ao many).filter λx=>decide (x∈F)).length<64:=by
  have:=eW (λx=>decide (x∈F)) (ao many)
  rw[bi]at this
  omega
 have srt:((ao many).filter λx=>decide (x∈F)).Pairwise (· < ·):=fJ.filter _ List.pairwise_lt_range
 have p:=UU (F:=F) (L:=(ao many).filter λx=>decide (x∈F)) nd YA λx=>by
  rw[aJ,decide_eq_true_iff,aK]
  exact⟨λh=>⟨lt x h,h⟩,λh=>h.2⟩
 rw[zok p hl]
 generalize (ao many).filter (λx=>decide (x∈F))=L at *
 show(eL (aD L)).bind _=_
 rw[Kj]
 simp only[bL,aB]
 rw[if_pos hl]
 have e:mm (L.map λ(x:Nat)=>(x:Int))=L.map λ(x:Nat)=>(x:Int):=J1 (qy _) (jt _) (List.pairwise_map.mpr (srt.imp λh=>by omega))
 rw[e,cA]
 rfl
theorem zxo {many:Nat}{as:List bY}{g:Nat}{F:List Nat}(h:vD as g F)(hc:lf as F)(lt:∀x∈F,x<many):Ld many as g ((ao many).filter λx=>decide (x∈F)):=by
 have m:∀x,x∈(ao many).filter (λx=>decide (x∈F))↔x∈F:=λx=>by
  rw[aJ,decide_eq_true_iff,aK]
  exact⟨λh=>h.2,λh=>⟨lt x h,h⟩⟩
 refine⟨?_,λx=>(m x).trans (h.all hc x)⟩
 exact List.filter_congr λx _=>decide_eq_decide.mpr (m x).symm
theorem zuc {ns:List D}{as:List bY}{many g:Nat}(hm:many<=40)(hl:as.length<=120)(hs:∀a∈as,a.s<many)(hg:g<many):∃L:List Nat,j9 [aY ns as,.int (g:Int)]=some (.lst (aD L))/\Ld many as g L:=by
 obtain⟨F,h1,h2,h3,h4⟩:=zub (ns:=ns) hm hl hs hg
 exact⟨_,h4.trans (zom h1.nd h3 (by omega)),zxo h1 h2 h3⟩
def Ft:Option (Int×Int)->D
 |none=>.non
 |some q=>fr q
def qL (L:List (Option (Int×Int))):D:=.lst (L.map Ft)
def vT (many:Nat)(P:List Nat)(tp:Nat->Int)(W:Int):List (Option (Int×Int)):=(ao many).map λg=>if g∈P then some (Fq.mk (tp g) W)else none
def gw (as:List bY)(L:List Nat):List Nat:=(as.zipIdx.filter λp=>decide (p.1.g∈L)).map (·.2)
theorem Cp {as:List bY}{L:List Nat}{n:Nat}:n∈gw as L↔n<as.length/\aG as n∈L:=by
 unfold gw
 rw[bE]
 constructor
 ·rintro⟨p,hp,rfl⟩
  obtain⟨h1,h2⟩:=aJ.mp hp
  have h3:=K1 h1
  have h4:=(aT.mp h3).1
  refine⟨h4,?_⟩
  have e:aN as p.2=p.1:=by unfold aN;rw[h3];rfl
  unfold aG
  rw[e]
  exact of_decide_eq_true h2
 ·rintro⟨h1,h2⟩
  refine⟨(aN as n,n),aJ.mpr ⟨gZ.mpr (CL h1),decide_eq_true h2⟩,rfl⟩
theorem TB (as:List bY)(L:List Nat):(gw as L).length<=as.length:=by
 unfold gw
 rw[aB]
 have:=eW (λp:bY×Nat=>decide (p.1.g∈L)) as.zipIdx
 rw[kG]at this
 exact this
theorem GN.along {many:Nat}{as:List bY}{aP rM:List Nat}{rk:Nat->Nat}{mb:Nat}(g:GN many as aP rk mb)(h1:∀n∈rM,n<as.length)(h2:rM.length<=120):GN many as rM rk mb:=⟨g.m1,g.m,g.al,g.ok,h1,h2,g.r,g.b1,g.b4,g.b⟩
theorem zwu {ns:List D}{as:List bY}{L:List Nat}(hl:as.length<=1000)(r:L3.Env)(hr:r[0]?.join=some (aY ns as))(Bd:r[2]?.join=some (.lst (aD L))):O1 r=some (.lst (aD (gw as L))):=by
 have e:(λρ=>((aCons (e1 (cv [4] "arrows") (eV 0)) aNil) ρ).bind λds=>match ds with|[.lst xs]=>some (eK 0 xs)|_=>none) r=some (as.zipIdx.map λp=>D.tup [.int (p.2:Int),bv p.1]):=by
  have:eV 0 r=some (aY ns as):=hr
  have e2:e1 (cv [4] "arrows") (eV 0) r=some (.lst (as.map bv)):=by unfold e1;rw[this];rfl
  show((aCons (e1 (cv [4] "arrows") (eV 0)) aNil) r).bind _=_
  unfold aCons
  rw[e2]
  show some (eK 0 (as.map bv))=_
  rw[Kv bv]
 have hc:dH r [2]=[some (.lst (aD L))]:=by unfold dH;simp[Bd]
 have:=Cz (own:=2) (cap:=[2]) (fi:=λρ=>((aCons (e1 (cv [4] "arrows") (eV 0)) aNil) ρ).bind λds=>match ds with|[.lst xs]=>some (eK 0 xs)|_=>none) (g:=gT (gsCons (gV 0) (gsCons (gV 1) gsNil))) (p:=tb (e2 (inD false) (e1 (cv [0,1,2,3] "goal") (eV 1)) (eV 2))) (f:=eV 0) (λp:bY×Nat=>D.tup [.int (p.2:Int),bv p.1]) (λp=>decide (p.1.g∈L)) (λp=>D.int (p.2:Int)) as.zipIdx e (by simp;omega) (λp _=>by
   refine⟨_,rfl,?_,λ_=>rfl⟩
   rw[hc]
   have f1:=fg p.1
   have q:=O2 false p.1.g L
   rw[if_neg (by decide)]at q
   generalize decide (p.1.g∈L)=bb,bv p.1=ea,aD L=nl at *
   clear hc e hr Bd hl
   walk_at "mir")
 rw[show O1 r=_ from this]
 unfold gw aD
 rw[cA]
 rfl
theorem zud {many:Nat}{L:List Nat}{q:Int×Int}{T:Nat->Int}{x y:D}(hm:many<=1000)(r:L3.Env)(Bd:r[2]?.join=some (.lst (aD L)))(Ng:r[3]?.join=some (.tup [x,y,rQ many q T])):O0 r=some (qL (vT many L T q.2)):=by
 have e:(λρ=>((aCons (e2 dz (eV 3) (eC (.int 2))) aNil) ρ).bind λds=>match ds with|[.lst xs]=>some (eK 0 xs)|_=>none) r=some ((ao many).zipIdx.map λp=>D.tup [.int (p.2:Int),fr (Fq.mk (T p.1) q.2)]):=by
  have:eV 3 r=some (.tup [x,y,rQ many q T]):=Ng
  have tU:e2 dz (eV 3) (eC (.int 2)) r=some (rQ many q T):=by unfold e2;rw[this];rfl
  show((aCons (e2 dz (eV 3) (eC (.int 2))) aNil) r).bind _=_
  unfold aCons
  rw[tU]
  show some (eK 0 ((ao many).map λg=>fr (Fq.mk (T g) q.2)))=_
  rw[Kv (λg=>fr (Fq.mk (T g) q.2))]
 have hc:dH r [2]=[some (.lst (aD L))]:=by unfold dH;simp[Bd]
 have:=wv (own:=2) (cap:=[2]) (fi:=λρ=>((aCons (e2 dz (eV 3) (eC (.int 2))) aNil) ρ).bind λds=>match ds with|[.lst xs]=>some (eK 0 xs)|_=>none) (g:=gT (gsCons (gV 0) (gsCons (gV 1) gsNil))) (f:=eIf (tb (e2 (inD false) (eV 0) (eV 2))) (eV 1) (eC .non)) (λp:Nat×Nat=>D.tup [.int (p.2:Int),fr (Fq.mk (T p.1) q.2)]) (λp=>Ft (if p.2∈L then some (Fq.mk (T p.1) q.2)else none)) (ao many).zipIdx e (by simp;omega) (λp _=>by
   refine⟨_,rfl,?_⟩
   rw[hc]
   have qq:=O2 false p.2 L
   rw[if_neg (by decide)]at qq
   by_cases h:p.2∈L
   ·rw[if_pos h]
    rw[decide_eq_true h]at qq
    show _=some (fr (Fq.mk (T p.1) q.2))
    generalize fr (Fq.mk (T p.1) q.2)=F,aD L=nl at *
    clear hc e Bd Ng hm h
    walk_at "mir"
   ·rw[if_neg h]
    rw[decide_eq_false h]at qq
    show _=some D.non
    generalize fr (Fq.mk (T p.1) q.2)=F,aD L=nl at *
    clear hc e Bd Ng hm h
    walk_at "mir")
 rw[show O0 r=_ from this]
 unfold qL vT
 congr 2
 apply fD
 ·simp
 ·intro i h1 h2
  simp
theorem zwv {ns:List D}{many:Nat}{as:List bY}{rk:Nat->Nat}{mb g:Nat}{L:List Nat}(gn:GN many as (ao as.length) rk mb)(jL:ns.length=many)(n9:gO 4 "most_behind" zk (aY ns as) []=some (.int (mb:Int)))(t6:j9 [aY ns as,.int (g:Int)]=some (.lst (aD L))) :
  ∃d,IZ [aY ns as,.int (g:Int)]=some d/\((d=.non/\∀R,¬RG as (gw as L) R)\/∃(R:List Nat) (q:Int×Int) (T:Nat->Int),d=.tup [fr q,.lst (aD R),qL (vT many L T q.2)]/\RG as (gw as L) R/\q=Fq.mk (sT as R) (sB as R)/\(∀R',RG as (gw as L) R'->sT as R' * q.2<=q.1*sB as R')/\(∀n∈gw as L,T (aS as n)+dU as q n<=T (aG as n))/\∀x,0<=T x/\T x<=1000000000000000):=by
 have g2:=gn.along (rM:=gw as L) (λn hn=>(Cp.mp hn).1) (by have:=TB as L;have:=gn.al;omega)
 obtain⟨d,h1,h2⟩:=zua g2 jL n9
 have qn:=zwu (ns:=ns) (as:=as) (L:=L) (by have:=gn.al;omega) [some (aY ns as),some (.int (g:Int)),some (.lst (aD L)),none,none] rfl rfl
 rcases h2 with⟨rfl,hN⟩|⟨R,q,T,rfl,hR⟩
 ·refine⟨.non,?_,.inl ⟨rfl,hN⟩⟩
  generalize aD (gw as L)=nn,aD L=nl,aY ns as=net at *
  clear hN g2 gn n9 jL
  unfold IZ
  walk_at "mir"
 ·refine⟨.tup [fr q,.lst (aD R),qL (vT many L T q.2)],?_,.inr ⟨R,q,T,rfl,hR⟩⟩
  have qt:=zud (many:=many) (L:=L) (q:=q) (T:=T) (x:=fr q) (y:=.lst (aD R)) (by have:=gn.m;omega) [some (aY ns as),some (.int (g:Int)),some (.lst (aD L)),some (.tup [fr q,.lst (aD R),rQ many q T]),none] rfl rfl
  have i0:∀a b c:D,dz (.tup [a,b,c]) (.int 0)=some a:=λ_ _ _=>rfl
  have i1:∀a b c:D,dz (.tup [a,b,c]) (.int 1)=some b:=λ_ _ _=>rfl
  generalize aD (gw as L)=nn,aD L=nl,aD R=rl,aY ns as=net,qL (vT many L T q.2)=ol,rQ many q T=tm,fr q=F at *
  clear hR g2 gn n9 jL
  unfold IZ
  walk_at "mir"
theorem UW {as:List bY}{many:Nat}{left:List Nat}(iU:∀x∈left,x<many)(lL:∀x∈left,∃n,n<as.length/\aG as n=x/\aS as n∈left)(v:Nat):∀(f:Nat) (ws:List Nat) (here:Nat),many<ws.length+f->p5 (aS as) (aG as) v ws here->(ws.map (aG as)).Nodup->(∀n∈ws,n<as.length/\aG as n∈left)->here∈left->∃(R:List Nat) (x:Nat),R≠[]/\mL (aS as) (aG as) x R x/\(R.map (aG as)).Nodup/\∀n∈R,n<as.length/\aG as n∈left
 |0,ws,here,hf,_,nd,hw,_=>by
  have:=Kahn.len_le (many:=many) nd λx hx=>by
   obtain⟨n,h1,rfl⟩:=bE.mp hx
   exact iU _ (hw n h1).2
  rw[aB]at this
  omega
 |f+1,ws,here,hf,hc,nd,hw,hh=>by
  by_cases hm:here∈ws.map (aG as)
  ·have su:=oz.mpr hm
   have vI:(ws.map (aG as))[(ws.map (aG as)).idxOf here]?=some here:=by rw[bD su,rW]
   generalize (ws.map (aG as)).idxOf here=j at *
   rw[aB]at su
   rw[bp,bD su]at vI
   replace vI:aG as ws[j]=here:=by simpa using vI
   have wlk:p5 (aS as) (aG as) here (ws.drop j) here:=by
    have:=hc.drop (j:=j) (n:=ws[j]) (bD su)
    rw[vI]at this
    exact this
   refine⟨(ws.drop j).reverse,here,?_,wlk.wlk,?_,λn hn=>hw n (qC (tK.mp hn))⟩
   ·intro e
    have:=congrArg gR e
    rw[dO,iW]at this
    simp at this
    omega
   ·rw[mw,oA]
    exact pU.mpr ((fJ.sublist (sL _ _) nd).imp λh e=>h e.symm)
  ·obtain⟨n,n1,n2,n3⟩:=lL here hh
   refine UW iU lL v f (ws++[n]) (aS as n) (by rw[aX,cT];omega) (hc.snoc n2) ?_ (λk hk=>?_) n3
   ·rw[dk,kI,n2]
    exact bq.mpr ⟨nd,by simp,λa ha b hb e=>hm (by rw[←az.mp hb,←e];exact ha)⟩
   ·rcases bc.mp hk with hk|hk
    ·exact hw k hk
    ·rw[az.mp hk,n2];exact⟨n1,hh⟩
theorem zxp {many:Nat}{rk:Nat->Nat}{as:List bY}{ns:List D}(h1:1<=many)(h2:many<=40)(h3:as.length<=120)(nP:∀a∈as,Drawn many rk a):∃mb:Nat,gO 4 "most_behind" zk (aY ns (as.map λa=>o8 a (a.s:Int))) []=some (.int (mb:Int))/\(∀aP:List Nat,(∀n∈aP,n<as.length)->aP.length<=120->GN many (as.map λa=>o8 a (a.s:Int)) aP rk mb)/\∀aP:List Nat,(∀n∈aP,n<as.length)->aP.length<=120->GN many as aP rk mb:=by
 obtain⟨mb,m1,m2,m3,m4⟩:=zt7 (ns:=ns) (as:=as.map λa=>o8 a (a.s:Int)) (by rw[aB];exact h3)
 have QP:mb<=4:=m4 4 (by decide) λa ha=>by
  obtain⟨a',h,rfl⟩:=bE.mp ha
  exact(nP a' h).b
 refine⟨mb,m1,λaP hn hl=>⟨h1,h2,by rw[aB];exact h3,λa ha=>?_,λn hx=>by rw[aB];exact hn n hx,hl,λa ha=>?_,m2,QP,m3⟩,λaP hn hl=>⟨h1,h2,h3,λa ha=>⟨(nP a ha).s,(nP a ha).g,(nP a ha).t0,(nP a ha).t1,(nP a ha).b⟩,hn,hl,λa ha=>(nP a ha).r,m2,QP,λa ha=>m3 (o8 a (a.s:Int)) (bE.mpr ⟨a,ha,rfl⟩)⟩⟩
 ·obtain⟨a',h,rfl⟩:=bE.mp ha
  exact⟨(nP a' h).s,(nP a' h).g,(nP a' h).t0,(nP a' h).t1,(nP a' h).b⟩
 ·obtain⟨a',h,rfl⟩:=bE.mp ha
  exact(nP a' h).r
def rm (cell:Int)(k g:Nat):Int:=(jP cell (20*(k:Int)+(g:Int)):Int)%41
theorem zxq {ns:List Int}{many dp:Nat}(hm:many<=8)(hd:dp<=4):∃wd:D,IL [.lst (ns.map .int),.int (many:Int),.int (dp:Int)]=some wd/\(wd=.non\/∃W:Nat->Nat->Int,wd=.lst (bK many dp W)):=by
 obtain⟨cell,n6⟩:=K2 ns 2 (by decide)
 by_cases h4:cell%4=0
 ·refine⟨.non,?_,.inl rfl⟩
  unfold IL
  clear hm hd
  walk_at "mir"
 ·have q1:∀(r:L3.Env) (k:Nat),k<=1000->r[0]?.join=some (.int (k:Int))->r[1]?.join=some (.int (many:Int))->r[2]?.join=some (.int cell)->SJ r=some (.lst (cC many (rm cell k))):=λr k hk h0 h1 h2=>by
   refine wv (λ(g:Nat)=>D.int (g:Int)) (λg=>D.int (rm cell k g)) (ao many) (BS h1 (by omega)) (by rw[bi];omega) λg hg=>⟨_,rfl,?_⟩
   have hg:=aK.mp hg
   have fF:dH r [2,0]=[some (.int cell),some (.int (k:Int))]:=by unfold dH;simp[h0,h2]
   rw[fF]
   obtain⟨m1,m2⟩:=KF cell (k:=20*(k:Int)+(g:Int)) (by omega) (by omega)
   have a1:eA (.int 20) (.int (k:Int))=some (.int (20*(k:Int))):=zcg (by decide) (by decide)
   unfold rm
   generalize jP cell (20*(k:Int)+(g:Int))=z at *
   have a3:fm (.int (z:Int)) (.int 41)=some (.int ((z:Int)%41)):=zbq (by decide)
   clear fF h0 h1 h2 hk hg m2 hm hd n6 h4
   walk_at "mir"
  refine⟨.lst (bK many dp (rm cell)),?_,.inr ⟨_,rfl⟩⟩
  have q2:SK [some (.lst (ns.map .int)),some (.int (many:Int)),some (.int (dp:Int)),some (.int cell)]=some (.lst (bK many dp (rm cell))):=by
   refine wv (λ(k:Nat)=>D.int (k:Int)) (λk=>D.lst (cC many (rm cell k))) (ao dp) (BS rfl (by omega)) (by rw[bi];omega) λk hk=>⟨_,rfl,?_⟩
   have hk:=aK.mp hk
   exact q1 _ k (by omega) rfl rfl rfl
  generalize bK many dp (rm cell)=rs at *
  unfold IL
  clear q1 hm hd
  walk_at "mir"
theorem zxr {as:List bY}(hl:as.length<=1000)(r:L3.Env)(h4:r[4]?.join=some (.lst (as.map gB))):UM r=some (.lst ((as.map λa=>o8 a a.s).map bv)):=by
 rw[cA]
 refine wv gB (λa=>bv (o8 a a.s)) as (by unfold lsD;have:eV 4 r=_:=h4;rw[this];rfl) (by omega) λa _=>⟨_,rfl,?_⟩
 have i0:dz (gB a) (.int 0)=some (.int (a.s:Int)):=rfl
 have:=zv8 a a.s
 clear hl h4
 walk_at "mir"
theorem zxs {many:Nat}(hm:many<=8)(r:L3.Env)(h1:r[1]?.join=some (.int (many:Int))):UN r=some (.lst (nm many)):=by
 refine wv (λ(t:Nat)=>D.int (t:Int)) (λ(k:Nat)=>D.str ("a"++yM (k:Int))) (ao many) (BS h1 (by omega)) (by rw[bi];omega) λg hg=>⟨_,rfl,?_⟩
 have hg:=aK.mp hg
 obtain⟨s1,s2⟩:=ztv g (by omega)
 clear hg h1 hm
 walk_at "mir"
theorem zxt {ns:List Int}{many total:Nat}{cz:Int}{mk:Nat->bY}(ht:total<=100)(Cg:∀k,k<total->∃c:Int,xk [.lst (ns.map .int),.int (4+(k:Int))]=some (.int c)/\vb [.int c,.int (many:Int),.int cz,.int (k:Int)]=some (gB (mk k)))(r:L3.Env)(h0:r[0]?.join=some (.lst (ns.map .int)))(h1:r[1]?.join=some (.int (many:Int)))(h2:r[2]?.join=some (.int (total:Int)))(h3:r[3]?.join=some (.int cz)):UO r=some (.lst (((ao total).map mk).map gB)):=by
 rw[cA]
 refine wv (λ(t:Nat)=>D.int (t:Int)) (λk=>gB (mk k)) (ao total) (BS h2 (by omega)) (by rw[bi];omega) λk hk=>⟨_,rfl,?_⟩
 obtain⟨c,e1,e2⟩:=Cg k (aK.mp hk)
 have fF:dH r [0,1,3]=[some (.lst (ns.map .int)),some (.int (many:Int)),some (.int cz)]:=by unfold dH;simp[h0,h1,h3]
 rw[fF]
 clear fF Cg h0 h1 h2 h3 hk ht
 walk_at "mir"
theorem wF (ns:List Int)(cz:Int){many total:Nat}(h1:1<=many)(h2:many<=8)(ht:total<=100):∃(mk:Nat->bY) (rk:Nat->Nat),(∀k,k<total->∃c:Int,xk [.lst (ns.map .int),.int (4+(k:Int))]=some (.int c)/\vb [.int c,.int (many:Int),.int cz,.int (k:Int)]=some (gB (mk k)))/\(∀k,k<total->Drawn many rk (mk k))/\∀k,k<many->k<total->(mk k).g=k:=by
 obtain⟨rk,wL⟩:=zv4 cz h1 (by omega)
 have key:∀k,∃a:bY,k<total->(∃c:Int,xk [.lst (ns.map .int),.int (4+(k:Int))]=some (.int c)/\vb [.int c,.int (many:Int),.int cz,.int (k:Int)]=some (gB a))/\Drawn many rk a/\(k<many->a.g=k):=by
  intro k
  by_cases hk:k<total
  ·obtain⟨c,hc⟩:=K2 ns (4+(k:Int)) (by omega)
   obtain⟨a,a1,a2,a3,a4,a5,a6,a7,a8⟩:=ztq c cz k (by omega) h1 (by omega) rk wL
   exact⟨a,λ_=>⟨⟨c,hc,a1⟩,⟨a2,a3,a4,a5,a6,a7⟩,a8⟩⟩
  ·exact⟨⟨.wait,0,0,0,0⟩,λz=>absurd z hk⟩
 refine⟨λk=>Classical.choose (key k),rk,λk hk=>(Classical.choose_spec (key k) hk).1,λk hk=>(Classical.choose_spec (key k) hk).2.1,λk Q5 M8=>(Classical.choose_spec (key k) M8).2.2 Q5⟩
theorem RQ (as:List bY):∀w:List Nat,0<=sB as w
 |[]=>by unfold sB;simp
 |n::w=>by
  have:=RQ as w
  have e:sB as (n::w)=((aN as n).b:Int)+sB as w:=by unfold sB;rw[aR,bU];rfl
  omega
theorem TC {S G:Nat->Nat}{t:List Nat}{b:Nat}:∀{s:List Nat} {a:Nat},mL S G a (s++t) b->∃y,mL S G a s y/\mL S G y t b
 |[],a,h=>⟨a,rfl,h⟩
 |n::s,a,h=>by
  obtain⟨y,h1,h2⟩:=TC (s:=s) h.2
  exact⟨y,⟨h.1,h1⟩,h2⟩
theorem zue {as:List bY}{aP R:List Nat}(h:RG as aP R){n:Nat}(hn:n∈R):∃R',mL (aS as) (aG as) (aS as n) R' (aS as n)/\(∀m∈R',m∈R)/\sT as R'=sT as R/\sB as R'=sB as R:=by
 obtain⟨x,hx⟩:=h.w
 obtain⟨s,t,rfl⟩:=List.append_of_mem hn
 obtain⟨y,h1,h2⟩:=TC hx
 have hy:aS as n=y:=h2.1
 subst hy
 refine⟨(n::t)++s,h1.app h2,λm hm=>?_,?_,?_⟩
 ·rcases bc.mp hm with h|h
  ·exact ay _ h
  ·exact bm _ h
 ·unfold sT
  rw[dk,jI,dk,jI,Int.add_comm]
 ·unfold sB
  rw[dk,jI,dk,jI,Int.add_comm]
def mI (h:Nat->Int):Nat->Int
 |0=>0
 |c+1=>mI h c+h c
theorem S4 (h:Nat->Int):∀c,mI h c+h c=h 0+mI (λi=>h (i+1)) c
 |0=>by show(0:Int)+h 0=h 0+0;omega
 |c+1=>by
  have ih:=S4 h c
  show mI h c+h c+h (c+1)=h 0+(mI (λi=>h (i+1)) c+h (c+1))
  omega
theorem UX {h k:Nat->Int}{t:Int}:∀c:Nat,(∀i,i<c->h i+t<=k i)->mI h c+(c:Int)*t<=mI k c
 |0,_=>by show(0:Int)+((0:Nat):Int)*t<=0;simp
 |c+1,hh=>by
  have ih:=UX c λi hi=>hh i (by omega)
  have:=hh c (by omega)
  show mI h c+h c+((c+1:Nat):Int)*t<=mI k c+k c
  have e:((c+1:Nat):Int)*t=(c:Int)*t+t:=by
   rw[show((c+1:Nat):Int)=(c:Int)+1 by omega,fW,iM]
  omega
def yV (X:Nat->Nat->Int)(F c g:Nat):Int:=mI (λi=>X (F+i) g) c
theorem TQ {as:List bY}{many c f:Nat}{X:Nat->Nat->Int}{L:Nat->Int}(hA:Again as many X c f L){g:Nat}(hg:g<many):∀b:Nat,b<=dep as->yV X (f+dep as-b) c g=yV X (f+dep as) c g-(b:Int)*L g
 |0,_=>by simp
 |b+1,hb=>by
  have ih:=TQ hA hg b (by omega)
  have h1:=hA.w (dep as-b-1) (by omega) g hg
  have sh:=S4 (λi=>X (f+dep as-(b+1)+i) g) c
  have e1:(λi=>X (f+dep as-(b+1)+(i+1)) g)=λi=>X (f+dep as-b+i) g:=funext λi=>by rw[show f+dep as-(b+1)+(i+1)=f+dep as-b+i by omega]
  rw[e1]at sh
  unfold yV at *
  rw[ih]at sh
  replace sh:mI (λi=>X (f+dep as-(b+1)+i) g) c+X (f+dep as-(b+1)+c) g=X (f+dep as-(b+1)+0) g+(mI (λi=>X (f+dep as+i) g) c-(b:Int)*L g):=sh
  rw[show f+dep as-(b+1)+c=f+(dep as-b-1)+c by omega,show f+dep as-(b+1)+0=f+(dep as-b-1)by omega]at sh
  have e:((b+1:Nat):Int)*L g=(b:Int)*L g+L g:=by
   rw[show((b+1:Nat):Int)=(b:Int)+1 by omega,fW,iM]
  omega
theorem zop {as:List bY}{many c f R:Nat}{X:Nat->Nat->Int}{L:Nat->Int}(ok:fP many as)(hM:Mx as many (dep as) R X)(hA:Again as many X c f L)(hR:f+dep as+c<=R){a:bY}(ha:a∈as):yV X (f+dep as) c a.s+(c:Int)*a.t<=yV X (f+dep as) c a.g+(a.b:Int)*L a.s:=by
 have hb:=vM ha
 have h1:=TQ hA (ok.right a ha).s a.b hb
 have h2:=UX (h:=λi=>X (f+dep as-a.b+i) a.s) (k:=λi=>X (f+dep as+i) a.g) (t:=a.t) c (λi hi=>by
  have:=hM.ge (f+dep as+i) (by omega) (by omega) a ha
  rw[show f+dep as+i-a.b=f+dep as-a.b+i by omega]at this
  exact this)
 unfold yV at *
 omega
theorem Vt {as:List bY}{L:Nat->Int}(hL:∀a∈as,L a.s<=L a.g):∀{w:List Nat} {a b:Nat},mL (aS as) (aG as) a w b->(∀n∈w,n<as.length)->L a<=L b
 |[],a,b,h,_=>by
  have h:a=b:=h
  subst h
  exact cZ _
 |n::w,a,b,h,hn=>by
  have ih:=Vt hL h.2 λm hm=>hn m (ai _ hm)
  have h1:=hL (aN as n) (j4 (hn n aa))
  have h2:aS as n=a:=h.1
  unfold aS at h2
  unfold aG at ih
  rw[h2]at h1
  omega
theorem UY {as:List bY}{many c f R:Nat}{X:Nat->Nat->Int}{L:Nat->Int}(ok:fP many as)(hM:Mx as many (dep as) R X)(hA:Again as many X c f L)(hR:f+dep as+c<=R):∀{w:List Nat} {a b:Nat},mL (aS as) (aG as) a w b->(∀n∈w,n<as.length)->yV X (f+dep as) c a+(c:Int)*sT as w<=yV X (f+dep as) c b+sB as w*L b
 |[],a,b,h,_=>by
  have h:a=b:=h
  subst h
  unfold sT sB
  simp
 |n::w,a,b,h,hn=>by
  have hw:∀m∈w,m<as.length:=λm hm=>hn m (ai _ hm)
  have ih:=UY ok hM hA hR h.2 hw
  have hm:=j4 (hn n aa)
  have h1:=zop ok hM hA hR hm
  have l1:=Vt hA.a h.2 hw
  have l2:=hA.a _ hm
  have h2:aS as n=a:=h.1
  unfold aS at h2
  unfold aG at ih l1
  rw[h2]at h1 l2
  have en:sB as (n::w)=((aN as n).b:Int)+sB as w:=by unfold sB;rw[aR,bU];rfl
  have et:sT as (n::w)=(aN as n).t+sT as w:=by unfold sT;rw[aR,bU];rfl
  rw[en,et,mO,fW]
  have h3:((aN as n).b:Int)*L a<=((aN as n).b:Int)*L b:=bQ (by omega) (by omega)
  omega
theorem zxu {as:List bY}{L:Nat->Int}(hL:∀a∈as,L a.s<=L a.g){g x:Nat}(h:yA as g x):L x<=L g:=by
 induction h with
 |self=>exact cZ _
 |@step a ha _ ih=>have:=hL a ha;omega
theorem zwx {as:List bY}{many c f R g:Nat}{X:Nat->Nat->Int}{L:Nat->Int}{p6:List Nat}{Rg:List Nat}(ok:fP many as)(hM:Mx as many (dep as) R X)(hA:Again as many X c f L)(hR:f+dep as+c<=R)(hl:∀x,x∈p6↔yA as g x)(hr:RG as (gw as p6) Rg):(c:Int)*sT as Rg<=sB as Rg*L g:=by
 have iU:∀n∈Rg,n<as.length:=λn hn=>(Cp.mp (hr.m n hn)).1
 obtain⟨n,hn⟩:=List.exists_mem_of_ne_nil _ hr.ne
 obtain⟨R',w1,w2,w3,w4⟩:=zue hr hn
 have h1:=UY ok hM hA hR w1 (λm hm=>iU m (w2 m hm))
 rw[w3,w4]at h1
 have hs:L (aS as n)<=L g:=by
  have h2:=hA.a _ (j4 (iU n hn))
  have h3:=zxu hA.a ((hl _).mp (Cp.mp (hr.m n hn)).2)
  unfold aS
  unfold aG at h3
  omega
 have h4:sB as Rg*L (aS as n)<=sB as Rg*L g:=bQ hs (RQ as Rg)
 omega
theorem Vo {α:Type}(F:α->Int):∀xs:List α,xs≠[]->∃x∈xs,∀y∈xs,F y<=F x
 |[],h=>absurd rfl h
 |[x],_=>⟨x,aa,λy hy=>by rw[az.mp hy];exact cZ _⟩
 |x::y::ys,_=>by
  obtain⟨z,hz,h⟩:=Vo F (y::ys) (by simp)
  by_cases hx:F z<=F x
  ·refine⟨x,aa,λu hu=>?_⟩
   rcases aA.mp hu with rfl|hu
   ·exact cZ _
   ·have:=h u hu;omega
  ·refine⟨z,ai _ hz,λu hu=>?_⟩
   rcases aA.mp hu with rfl|hu
   ·omega
   ·exact h u hu
def Ph (X:Nat->Nat->Int)(q:Int×Int)(T:Nat->Int)(n x:Nat):Int:=X n x*q.2-q.1*(n:Int)-T x
theorem len_le {as:List bY}{many c f R g:Nat}{X:Nat->Nat->Int}{L:Nat->Int}{p6:List Nat}{q:Int×Int}{T:Nat->Int}(ok:fP many as)(hM:Mx as many (dep as) R X)(hA:Again as many X c f L)(hc:1<=c)(hR:f+dep as+c=R)(iU:∀x∈p6,x<many)(wH:∀a∈as,a.g∈p6->a.s∈p6)(hg:g∈p6)(hk:∀n∈gw as p6,T (aS as n)+dU as q n<=T (aG as n)):L g*q.2<=(c:Int)*q.1:=by
 apply Classical.byContradiction
 intro hd
 have hd:(c:Int)*q.1<L g*q.2:=by omega
 obtain⟨p,hp,sv⟩:=Vo (λp:Nat×Nat=>Ph X q T (f+dep as+p.1) p.2) (((ao c).flatMap λi=>(ao many).map λx=>(i,x)).filter λp=>decide (p.2∈p6/\L p.2=L g)) (by
  refine List.ne_nil_of_mem (a:=(0,g)) (aJ.mpr ⟨my.mpr ⟨0,aK.mpr (by omega),bE.mpr ⟨g,aK.mpr (iU g hg),rfl⟩⟩,decide_eq_true ⟨hg,rfl⟩⟩))
 obtain⟨FM,sy⟩:=aJ.mp hp
 have sy:=of_decide_eq_true sy
 obtain⟨i0,Q2,X8⟩:=my.mp FM
 obtain⟨x0,hx0,rfl⟩:=bE.mp X8
 have Q2:=aK.mp Q2
 dsimp only at sy sv
 generalize hMx:Ph X q T (f+dep as+i0) x0=M at sv
 have oM:∀n x,f+dep as<=n->n<R->x∈p6->L x=L g->Ph X q T n x<=M:=by
  intro n x h1 h2 h3 h4
  have:=sv (n-(f+dep as),x) (aJ.mpr ⟨my.mpr ⟨n-(f+dep as),aK.mpr (by omega),bE.mpr ⟨x,aK.mpr (iU x h3),rfl⟩⟩,decide_eq_true ⟨h3,h4⟩⟩)
  dsimp only at this
  rw[show f+dep as+(n-(f+dep as))=n by omega]at this
  exact this
 have ev:=hA.ever ok hM hc
 have MQ:∀k n x,n+k=f+dep as->f<=n->1<=k->x∈p6->L x=L g->Ph X q T n x<M:=by
  intro k
  induction k using nr with
  |ind k ih=>
   intro n x h1 h2 Q5 h3 h4
   have h5:=(ev n x (iU x h3) h2).1 (by omega)
   have h6:Ph X q T (n+c) x=Ph X q T n x+(L g*q.2-(c:Int)*q.1):=by
    unfold Ph
    rw[h5,h4,fW,show((n+c:Nat):Int)=(n:Int)+(c:Int)by omega,mO,fG (c:Int) q.1]
    omega
   by_cases hkc:k<=c
   ·have:=oM (n+c) x (by omega) (by omega) h3 h4
    omega
   ·have:=ih (k-c) (by omega) (n+c) x (by omega) (by omega) (by omega) h3 h4
    omega
 have all:∀n x,f+dep as<=n->n<R->x∈p6->L x=L g->Ph X q T n x<M:=by
  refine ON ok λn x wO Bk h1 h2 h3 h4=>?_
  obtain⟨a,ha,iK,hL,hX⟩:=hA.c x (iU x h3) n h1 (by omega)
  have hb:=vM ha
  have hs:=wH a ha (by rw[iK];exact h3)
  obtain⟨m,hm⟩:=bT.mp ha
  have ea:aN as m=a:=by unfold aN;rw[hm];rfl
  have Q4:=hk m (Cp.mpr ⟨(aT.mp hm).1,by unfold aG;rw[ea,iK];exact h3⟩)
  unfold aS aG dU at Q4
  rw[ea,iK]at Q4
  have FV:Ph X q T n x<=Ph X q T (n-a.b) a.s:=by
   unfold Ph
   rw[←hX,fW,show((n-a.b:Nat):Int)=(n:Int)-(a.b:Int)by omega,Int.mul_sub,fG q.1 (a.b:Int)]
   omega
  have ML:L a.s=L g:=hL.trans h4
  by_cases rK:a.b=0
  ·have:=Bk a ha iK rK h1 h2 hs ML
   rw[rK,lV]at FV
   omega
  ·by_cases hw:f+dep as<=n-a.b
   ·have:=wO (n-a.b) (by omega) a.s hw (by omega) hs ML
    omega
   ·have:=MQ (f+dep as-(n-a.b)) (n-a.b) a.s (by omega) (by omega) (by omega) hs ML
    omega
 have:=all (f+dep as+i0) x0 (by omega) (by omega) sy.1 sy.2
 omega
theorem zwy {as:List bY}{many c f R g:Nat}{X:Nat->Nat->Int}{L:Nat->Int}{p6 Rg:List Nat}{q:Int×Int}{T:Nat->Int}(ok:fP many as)(hM:Mx as many (dep as) R X)(hA:Again as many X c f L)(hc:1<=c)(hR:f+dep as+c=R)(hl:Ld many as g p6)(hr:RG as (gw as p6) Rg)(hq:q=Fq.mk (sT as Rg) (sB as Rg))(hB:1<=sB as Rg)(hk:∀n∈gw as p6,T (aS as n)+dU as q n<=T (aG as n)):L g*q.2=(c:Int)*q.1:=by
 have h1:=zwx ok hM hA (by omega) hl.mem hr
 have h2:=len_le ok hM hA hc hR hl.lt (λa ha h=>hl.cls ha h) ((hl.mem g).mpr .self) hk
 have cr:=Fq.mk_cross (sT as Rg) (sB as Rg)
 have lo:Fq.Low (Fq.mk (sT as Rg) (sB as Rg)):=Fq.mk_low (by omega)
 rw[←hq]at cr lo
 have hp:=lo.gt
 have h3:sB as Rg*((c:Int)*q.1)<=sB as Rg*(L g*q.2):=by
  have e1:sB as Rg*((c:Int)*q.1)=(c:Int)*sT as Rg*q.2:=by
   rw[←iR,fG (sB as Rg) (c:Int),iR,fG (sB as Rg) q.1,cr,iR]
  have e2:sB as Rg*(L g*q.2)=sB as Rg*L g*q.2:=(iR _ _ _).symm
  rw[e1,e2]
  exact bg h1 (by omega)
 have h4:=oy h3 (by omega)
 omega
theorem zxv {as:List bY}(hl:as.length<=1000)(r:L3.Env)(h4:r[4]?.join=some (.lst (as.map gB))):UL r=some (.lst (as.map λa=>D.int (a.b:Int))):=by
 refine wv gB (λa=>D.int (a.b:Int)) as (by unfold lsD;have:eV 4 r=_:=h4;rw[this];rfl) (by omega) λa _=>⟨_,rfl,?_⟩
 have i0:dz (gB a) (.int 3)=some (.int (a.b:Int)):=rfl
 clear hl h4
 walk_at "mir"
theorem zqy (ns:List Int)(hl:ns.length<=63):K6 [.lst (ns.map .int)]=some (.bl true):=by
 obtain⟨c0,hc0⟩:=K2 ns 0 (by decide)
 obtain⟨c1,FB⟩:=K2 ns 1 (by decide)
 obtain⟨many,Q7,A2,A6⟩:∃m:Nat,1+c0%6=(m:Int)/\1<=m/\m<=8:=⟨(1+c0%6).toNat,by omega,by omega,by omega⟩
 obtain⟨total,Nj,Ra,Rb⟩:∃t:Nat,(many:Int)+c0/6%11=(t:Int)/\many<=t/\t<=18:=⟨((many:Int)+c0/6%11).toNat,by omega,by omega,by omega⟩
 obtain⟨N,hN,QN,AQ⟩:∃N:Nat,60+c1%141=(N:Int)/\60<=N/\N<=1000:=⟨(60+c1%141).toNat,by omega,by omega,by omega⟩
 obtain⟨mk,rk,Cg,MV,AZ⟩:=wF ns (c0/66) A2 A6 (total:=total) (by omega)
 generalize has:(ao total).map mk=as
 have mh:as.length<=18:=by rw[←has,aB,bi];omega
 have nP:∀a∈as,Drawn many rk a:=λa ha=>by
  rw[←has]at ha
  obtain⟨k,hk,rfl⟩:=bE.mp ha
  exact MV k (aK.mp hk)
 have lL:∀g,g<many->∃a∈(as.map λa=>o8 a a.s),a.g=g:=λg hg=>by
  refine⟨o8 (mk g) (mk g).s,bE.mpr ⟨mk g,?_,rfl⟩,AZ g hg (by omega)⟩
  rw[←has]
  exact bE.mpr ⟨g,aK.mpr (by omega),rfl⟩
 have ok:=zwa (rk:=rk) (λa=>(a.s:Int)) A2 A6 (as:=as) (by omega) nP
 have yH:(nm many).length=many:=by unfold nm;rw[aB,bi]
 have X1:=zxi ok yH (ztr A2 A6)
 have k4:=zxt (many:=many) (total:=total) (by omega) Cg [some (.lst (ns.map .int)),some (.int (many:Int)),some (.int (total:Int)),some (.int (c0/66)),none,none,none,none,none,none,none,none,none] rfl rfl rfl rfl
 rw[has]at k4
 have k3:=zxs A6 [some (.lst (ns.map .int)),some (.int (many:Int)),some (.int (total:Int)),some (.int (c0/66)),some (.lst (as.map gB)),none,none,none,none,none,none,none,none] rfl
 have k2:=zxr (as:=as) (by omega) [some (.lst (ns.map .int)),some (.int (many:Int)),some (.int (total:Int)),some (.int (c0/66)),some (.lst (as.map gB)),none,none,none,none,none,none,none,none] rfl
 obtain⟨mb,n9,gn,_⟩:=zxp (ns:=nm many) A2 (by omega) (by omega) nP
 have Fv:∀aP:List Nat,(∀n∈aP,n<(as.map λa=>o8 a (a.s:Int)).length)->aP.length<=120->GN many (as.map λa=>o8 a (a.s:Int)) aP rk mb:=λaP h=>gn aP (by rw[aB]at h;exact h)
 have k1:=zxv (as:=as) (by omega) [some (.lst (ns.map .int)),some (.int (many:Int)),some (.int (total:Int)),some (.int (c0/66)),some (.lst (as.map gB)),some (aY (nm many) (as.map λa=>o8 a (a.s:Int))),none,none,none,none,none,none,none] rfl
 obtain⟨Yz,Ru⟩:=zwg (as:=as) (by omega)
 rw[List.singleton_append]at Yz Ru
 have QU:=zwh as (λa=>(a.s:Int))
 rw[←QU]at Ru
 have qU:(as.map λa=>o8 a (a.s:Int)).length<=18:=by rw[aB];omega
 clear QU
 generalize (as.map λa=>o8 a (a.s:Int))=bs at *
 have m6:dep bs<=4:=I0 λa ha=>(ok.right a ha).b
 have QW:=Pk bs
 obtain⟨wd,hw1,Nm⟩:=zxq (ns:=ns) (many:=many) (dp:=dep bs) A6 m6
 obtain⟨V,sA,hM⟩:∃X:Nat->Nat->Int,BX [aY (nm many) bs,.int (N:Int),wd,.non]=some (.lst (bK many N X))/\Mx bs many (dep bs) N X:=by
  have fin:∀past,rE bs many wd past->(∀i,i<dep bs->∀g,g<many->∃v,past i g=some v)->∃X:Nat->Nat->Int,BX [aY (nm many) bs,.int (N:Int),wd,.non]=some (.lst (bK many N X))/\Mx bs many (dep bs) N X:=by
   intro past hw hp
   obtain⟨Y,h1,h2⟩:=zxk (rounds:=N) ok yH (by omega) hw .no
   obtain⟨V,h3,h4⟩:=h2.mx ok hp lL
   refine⟨λr g=>V (dep bs+r) g,?_,h4.on⟩
   rw[h1]
   unfold bK
   rw[zjq λr hr g hg=>h3 (dep bs+r) (by omega) g hg]
  rcases Nm with rfl|⟨W,rfl⟩
  ·exact fin _ .no λi hi g hg=>⟨_,rfl⟩
  ·exact fin _ (.some (dep bs) _ (aF _)) λi hi g hg=>⟨_,rfl⟩
 have cm:=ztz ok yH lL AQ sA
 have fd6:∀z:Int,ga (.int z) (.int 6)=some (.int (z/6)):=λz=>zeg (by decide) (by decide)
 have W7:∀z:Int,ga (.int z) (.int 66)=some (.int (z/66)):=λz=>zeg (by decide) (by decide)
 rcases cm with⟨cm,_⟩|⟨c,f,hF,cm⟩
 ·have isn:o7 false .non .non=some (.bl true):=rfl
  clear hl Cg MV AZ has mh nP lL ok yH qU m6 hM A2 A6 Ra Rb AQ gn Fv QW sA n9 Nm QN
  generalize (as.map λa=>D.int (a.b:Int))=Yw,(dep bs:Int)=dd,aY (nm many) bs=net,bs.map bv=mks,as.map gB=ps at *
  generalize nm many=YC at *
  unfold K6
  walk_at "mir"
 ·have XB:=hF.cS
  have FC:=hF.c1
  generalize MM:gb V c (N-dep bs-c)=Ln at *
  have Jt:=hF.ag
  rw[MM]at Jt
  have lp:=OD (g:=gV 11) (b:=Pf) (n:=many)
   (λk ρ=>∃N8 J0,ρ=[some (.lst (ns.map .int)),some (.int (many:Int)),some (.int (total:Int)),some (.int (c0/66)),some (.lst (as.map gB)),some (aY (nm many) bs),some wd,some (iO c f (cC many Ln)),some (.int (c:Int)),some (.int (f:Int)),some (.lst (cC many Ln)),N8,J0]) (λ_=>False) (by
   rintro g ρ hg ⟨N8,J0,rfl⟩
   obtain⟨L,t6,hL⟩:=zuc (ns:=nm many) (as:=bs) (many:=many) (g:=g) (by omega) (by omega) (λa ha=>(ok.right a ha).s) hg
   have g0:=Fv (ao bs.length) (λn hn=>aK.mp hn) (by rw[bi];omega)
   have gL:=Fv (gw bs L) (λn hn=>(Cp.mp hn).1) (by have:=TB bs L;omega)
   obtain⟨d,Q9,hd⟩:=zwv (g:=g) g0 yH n9 t6
   have Q1:g∈L:=(hL.mem g).mpr .self
   rcases hd with⟨_,JA⟩|⟨R,q,T,rfl,hR,Nf,_,hk,hT⟩
   ·exfalso
    obtain⟨R,x,r1,r2,r3,r4⟩:=UW (as:=bs) (many:=many) (left:=L) hL.lt (λx hx=>by
     obtain⟨a,ha,iK⟩:=lL x (hL.lt x hx)
     obtain⟨n,hn⟩:=bT.mp ha
     have ea:aN bs n=a:=by unfold aN;rw[hn];rfl
     refine⟨n,(aT.mp hn).1,by unfold aG;rw[ea,iK],?_⟩
     unfold aS
     rw[ea]
     exact hL.cls ha (by rw[iK];exact hx)) g (many+1) [] g (by simp) rfl (by simp) (λn hn=>by cases hn) Q1
    exact JA R ⟨r1,⟨x,r2⟩,r3,λn hn=>Cp.mpr (r4 n hn)⟩
   ·obtain⟨lq,_,z2,n0,n1⟩:=KI hR gL
    rw[←Nf]at lq z2 n0 n1
    have X9:=lq.gt
    obtain⟨_,RR,tw⟩:=hR.bds gL
    have key:=zwy ok hM Jt FC (by omega) hL hR Nf RR hk
    have v1:dz (.lst (cC many Ln)) (.int (g:Int))=some (.int (Ln g)):=zev Ln hg
    have m1:eA (.int (Ln g)) (.int q.2)=some (.int (Ln g*q.2)):=zfg (by omega) (by omega)
    have m2:eA (.int (c:Int)) (.int q.1)=some (.int (Ln g*q.2)):=(zcg (by omega) (by omega)).trans (by rw[key])
    have p0:=B6 q
    have p1:=oI q
    have j0:dz (.tup [fr q,.lst (aD R),qL (vT many L T q.2)]) (.int 0)=some (fr q):=rfl
    have isn:o7 false (.tup [fr q,.lst (aD R),qL (vT many L T q.2)]) .non=some (.bl false):=rfl
    have W5:i6 true (.int (Ln g*q.2)) (.int (Ln g*q.2))=some (.bl false):=(zeh _ _).trans (by simp)
    refine⟨[some (.lst (ns.map .int)),some (.int (many:Int)),some (.int (total:Int)),some (.int (c0/66)),some (.lst (as.map gB)),some (aY (nm many) bs),some wd,some (iO c f (cC many Ln)),some (.int (c:Int)),some (.int (f:Int)),some (.lst (cC many Ln)),some (.int (g:Int)),J0],rfl,.inl ⟨[some (.lst (ns.map .int)),some (.int (many:Int)),some (.int (total:Int)),some (.int (c0/66)),some (.lst (as.map gB)),some (aY (nm many) bs),some wd,some (iO c f (cC many Ln)),some (.int (c:Int)),some (.int (f:Int)),some (.lst (cC many Ln)),some (.int (g:Int)),some (.tup [fr q,.lst (aD R),qL (vT many L T q.2)])],?_,_,_,rfl⟩⟩
    generalize qL (vT many L T q.2)=ol,aD R=rl,Ln g*q.2=w1 at *
    generalize Ln g=w2,iO (c:Int) (f:Int) (cC many Ln)=pp at *
    generalize cC many Ln=vl,aY (nm many) bs=net,as.map gB=ps,fr q=F,(ns.map D.int)=YD at *
    clear key hk hT hR Nf hL gL g0 t6 lq z2 n0 n1 X9 RR tw Q1 Jt hF MM hM ok lL gn Fv yH n9
    unfold Pf
    walk_at "mir") many 0 [some (.lst (ns.map .int)),some (.int (many:Int)),some (.int (total:Int)),some (.int (c0/66)),some (.lst (as.map gB)),some (aY (nm many) bs),some wd,some (iO c f (cC many Ln)),some (.int (c:Int)),some (.int (f:Int)),some (.lst (cC many Ln)),none,none] (by omega) ⟨_,_,rfl⟩
  rw[←jY]at lp
  rcases lp with⟨ρ',l1,N8,J0,rfl⟩|⟨_,_,f⟩
  ·have rg:hV [.int (many:Int)]=some ((ao many).map λ(t:Nat)=>D.int (t:Int)):=by
    rw[BM (by omega) (by omega)]
    unfold fL
    simp
   have ln:dL [.lst (cC many Ln)]=some (.int (many:Int)):=(jm _).trans (by unfold cC;rw[aB,bi])
   have isn:o7 false (iO c f (cC many Ln)) .non=some (.bl false):=rfl
   have asg:sAsg (gT (gsCons (gV 8) (gsCons (gV 9) (gsCons (gV 10) gsNil)))) (eV 7) [some (.lst (ns.map .int)),some (.int (many:Int)),some (.int (total:Int)),some (.int (c0/66)),some (.lst (as.map gB)),some (aY (nm many) bs),some wd,some (iO c f (cC many Ln)),none,none,none,none,none]=some (.nx [some (.lst (ns.map .int)),some (.int (many:Int)),some (.int (total:Int)),some (.int (c0/66)),some (.lst (as.map gB)),some (aY (nm many) bs),some wd,some (iO c f (cC many Ln)),some (.int (c:Int)),some (.int (f:Int)),some (.lst (cC many Ln)),none,none]):=rfl
   have W5:i6 false (.int (many:Int)) (.int (many:Int))=some (.bl true):=(zeh _ _).trans (by simp)
   clear hl Cg MV AZ has mh nP lL ok yH qU m6 hM A2 A6 Ra Rb AQ gn Fv QW sA n9 Nm QN hF Jt MM XB FC
   generalize (ao many).map (λ(t:Nat)=>D.int (t:Int))=RP,(as.map λa=>D.int (a.b:Int))=Yw at *
   unfold iO at *
   generalize cC many Ln=vl,(dep bs:Int)=dd,aY (nm many) bs=net,bs.map bv=mks,as.map gB=ps at *
   generalize nm many=YC,(ns.map D.int)=YD at *
   unfold K6
   generalize sAsg (gT (gsCons (gV 8) (gsCons (gV 9) (gsCons (gV 10) gsNil)))) (eV 7)=AS at *
   walk_at "mir"
  ·exact f.elim
section
variable {P:bz}{w:ce}{K:ae}{mg:aU->Option af}{base:aZ}{a:CN}
theorem zwz (T:Txt K mg a):cB P w K mg base eF 8 a.f_law a.d_law ["_law_script"] (ou K):=zvm (zv2 T) zqy
end
abbrev cy (x q:aU)(s:bO):=gX x q (mM s) (hU s) (aL s)
theorem all_mk {l:lW}{w:ce}{K:ae}{h:aZ}{mg:aU->Option af}(X:K.In h)(G:h.Ns aq mg)(XJ:mg "law"=some (.ref fa))
  
  (aC_Arrow:av K aq "Arrow"=some (some (.ref c_Arrow))) (pg_Arrow:dm K c_Arrow aU.empty=true) (hd_Arrow:dC K c_Arrow=true) (po_Arrow:d9 K c_Arrow=true) (sa_Arrow:aE K (.ref c_Arrow) "__setattr__"=some (some (.builtin "object.__setattr__"))) (mk_Arrow:d8 K c_Arrow=true) (kc_Arrow:ak K (.ref c_Arrow)=true)
  (aC_Ride:av K aq "Ride"=some (some (.ref c_Ride))) (pg_Ride:dm K c_Ride aU.empty=true) (hd_Ride:dC K c_Ride=true) (po_Ride:d9 K c_Ride=true) (sa_Ride:aE K (.ref c_Ride) "__setattr__"=some (some (.builtin "object.__setattr__"))) (mk_Ride:d8 K c_Ride=true) (kc_Ride:ak K (.ref c_Ride)=true)
  (aC_Wait:av K aq "Wait"=some (some (.ref c_Wait))) (pg_Wait:dm K c_Wait aU.empty=true) (hd_Wait:dC K c_Wait=true) (po_Wait:d9 K c_Wait=true) (sa_Wait:aE K (.ref c_Wait) "__setattr__"=some (some (.builtin "object.__setattr__"))) (mk_Wait:d8 K c_Wait=true) (kc_Wait:ak K (.ref c_Wait)=true)
  (aC_Back:av K aq "Back"=some (some (.ref c_Back))) (pg_Back:dm K c_Back aU.empty=true) (hd_Back:dC K c_Back=true) (po_Back:d9 K c_Back=true) (sa_Back:aE K (.ref c_Back) "__setattr__"=some (some (.builtin "object.__setattr__"))) (mk_Back:d8 K c_Back=true) (kc_Back:ak K (.ref c_Back)=true)
  (aC_Net:av K aq "Net"=some (some (.ref c_Net))) (pg_Net:dm K c_Net aU.empty=true) (hd_Net:dC K c_Net=true) (po_Net:d9 K c_Net=true) (sa_Net:aE K (.ref c_Net) "__setattr__"=some (some (.builtin "object.__setattr__"))) (mk_Net:d8 K c_Net=true) (kc_Net:ak K (.ref c_Net)=true)
  (a0:aE K (.ref c_Arrow) "__init__"=some (some (.ref f0))) (i0:dN K (.ref f0)=true)
  (l0:K.lookup f0=some ⟨oc0,od0,.func (cy "__init__" "Arrow.__init__" yt .none Ri Qt RB Qa Lm Ql),sl0⟩) (c0:aw K Lm "Arrow.__init__"=true) (k0:ak K (.ref f0)=true)
  (a1:aE K (.ref c_Ride) "__init__"=some (some (.ref f1))) (i1:dN K (.ref f1)=true)
  (l1:K.lookup f1=some ⟨oc1,od1,.func (cy "__init__" "Ride.__init__" xc .none Rj Qu RC Qb Lo Qm),sl1⟩) (c1:aw K Lo "Ride.__init__"=true) (k1:ak K (.ref f1)=true)
  (a2:aE K (.ref c_Wait) "__init__"=some (some (.ref f2))) (i2:dN K (.ref f2)=true)
  (l2:K.lookup f2=some ⟨oc2,od2,.func (cy "__init__" "Wait.__init__" yk (.ref JR) Ny LA NJ Li Jj Lx),Ip⟩) (c2:aw K Jj "Wait.__init__"=true) (k2:ak K (.ref f2)=true)
  (t2:K.lookup JR=some ⟨tc2,abi,.seq #[.int 0 IF] tn2,abn⟩)
  (a3:aE K (.ref c_Back) "__init__"=some (some (.ref f3))) (i3:dN K (.ref f3)=true)
  (l3:K.lookup f3=some ⟨oc3,od3,.func (cy "__init__" "Back.__init__" ym (.ref JS) Nz LB NK Lj Jk Ly),sl3⟩) (c3:aw K Jk "Back.__init__"=true) (k3:ak K (.ref f3)=true)
  (t3:K.lookup JS=some ⟨tc3,abj,.seq #[.int 1 IG] JU,abo⟩)
  (a4:av K aq "is_letter"=some (some (.ref f4)))
  (l4:K.lookup f4=some ⟨oc4,od4,.func (cy "is_letter" "is_letter" wa .none Rk Qv RD Qc Lp Qn),sl4⟩) (c4:aw K Lp "is_letter"=true) (k4:ak K (.ref f4)=true)
  (a5:av K aq "is_figure"=some (some (.ref f5)))
  (l5:K.lookup f5=some ⟨oc5,od5,.func (cy "is_figure" "is_figure" wb .none Rl Qw RE Qd Lq Qo),sl5⟩) (c5:aw K Lq "is_figure"=true) (k5:ak K (.ref f5)=true)
  (a6:av K aq "is_name"=some (some (.ref f6)))
  (l6:K.lookup f6=some ⟨oc6,od6,.func (cy "is_name" "is_name" vp .none Rm Qx RF Qe Lr Qp),sl6⟩) (c6:aw K Lr "is_name"=true) (k6:ak K (.ref f6)=true)
  (a7:av K aq "are_names"=some (some (.ref f7)))
  (l7:K.lookup f7=some ⟨oc7,od7,.func (cy "are_names" "are_names" wc .none Rn Qy RH Qf Ls Qq),sl7⟩) (c7:aw K Ls "are_names"=true) (k7:ak K (.ref f7)=true)
  (a8:av K aq "lies_within"=some (some (.ref f8)))
  (l8:K.lookup f8=some ⟨oc8,od8,.func (cy "lies_within" "lies_within" xf .none Ro Qz RI Qg Lu Qr),sl8⟩) (c8:aw K Lu "lies_within"=true) (k8:ak K (.ref f8)=true)
  (a9:av K aq "is_right"=some (some (.ref f9)))
  (l9:K.lookup f9=some ⟨oc9,od9,.func (cy "is_right" "is_right" ww .none Rp QA RJ Qh Lv Qs),sl9⟩) (c9:aw K Lv "is_right"=true) (k9:ak K (.ref f9)=true)
  (a10:av K aq "placed_goings"=some (some (.ref LH)))
  (l10:K.lookup LH=some ⟨YE,Zp,.func (cy "placed_goings" "placed_goings" yp .none Gg ED Hh CZ zN DQ),aaq⟩) (c10:aw K zN "placed_goings"=true) (k10:ak K (.ref LH)=true)
  (a11:av K aq "ring_back_from"=some (some (.ref LI)))
  (l11:K.lookup LI=some ⟨YF,Zq,.func (cy "ring_back_from" "ring_back_from" ya .none Gh EE Hi C0 zO DR),aar⟩) (c11:aw K zO "ring_back_from"=true) (k11:ak K (.ref LI)=true)
  (a12:aE K (.ref c_Net) "__init__"=some (some (.ref Jn))) (i12:dN K (.ref Jn)=true)
  (l12:K.lookup Jn=some ⟨YG,Zr,.func (cy "__init__" "Net.__init__" xn .none Gi EG Hj C1 zP DS),aas⟩) (c12:aw K zP "Net.__init__"=true) (k12:ak K (.ref Jn)=true)
  (a13:aE K (.ref c_Net) "most_behind"=some (some (.ref Jo))) (i13:dN K (.ref Jo)=true)
  (l13:K.lookup Jo=some ⟨YH,Zs,.func (cy "most_behind" "Net.most_behind" zx .none Gj EH Hk C2 zQ DT),aat⟩) (c13:aw K zQ "Net.most_behind"=true) (k13:ak K (.ref Jo)=true)
  (a14:aE K (.ref c_Net) "into"=some (some (.ref Jp))) (i14:dN K (.ref Jp)=true)
  (l14:K.lookup Jp=some ⟨YI,Zt,.func (cy "into" "Net.into" wx .none Gk EI Hl C3 zR DU),aau⟩) (c14:aw K zR "Net.into"=true) (k14:ak K (.ref Jp)=true)
  (a15:aE K (.ref c_Net) "order"=some (some (.ref Jq))) (i15:dN K (.ref Jq)=true)
  (l15:K.lookup Jq=some ⟨YJ,Zu,.func (cy "order" "Net.order" we .none Gm EJ Hm C4 zS DV),aav⟩) (c15:aw K zS "Net.order"=true) (k15:ak K (.ref Jq)=true)
  (a16:av K aq "leads_to"=some (some (.ref LJ)))
  (l16:K.lookup LJ=some ⟨YK,Zv,.func (cy "leads_to" "leads_to" wy .none Gn EK Hn C5 zT DW),aaw⟩) (c16:aw K zT "leads_to"=true) (k16:ak K (.ref LJ)=true)
  (a17:av K aq "common_divisor"=some (some (.ref LK)))
  (l17:K.lookup LK=some ⟨YL,Zw,.func (cy "common_divisor" "common_divisor" yb .none Gp EL Ho C6 zU DX),aax⟩) (c17:aw K zU "common_divisor"=true) (k17:ak K (.ref LK)=true)
  (a18:av K aq "ratio"=some (some (.ref LL)))
  (l18:K.lookup LL=some ⟨YM,Zx,.func (cy "ratio" "ratio" jw .none Gq EN Hq C7 zV DY),aay⟩) (c18:aw K zV "ratio"=true) (k18:ak K (.ref LL)=true)
  (a19:av K aq "scaled"=some (some (.ref LM)))
  (l19:K.lookup LM=some ⟨YN,Zy,.func (cy "scaled" "scaled" uf .none Gr EO Hr C8 zW DZ),aaz⟩) (c19:aw K zW "scaled"=true) (k19:ak K (.ref LM)=true)
  (a20:av K aq "plus"=some (some (.ref LN)))
  (l20:K.lookup LN=some ⟨YO,Zz,.func (cy "plus" "plus" Cq .none Gs EQ Hs C9 zX D1),aaA⟩) (c20:aw K zX "plus"=true) (k20:ak K (.ref LN)=true)
  (a21:av K aq "minus"=some (some (.ref LO)))
  (l21:K.lookup LO=some ⟨YQ,ZA,.func (cy "minus" "minus" jx .none Gu ER Ht Dd zY D2),aaB⟩) (c21:aw K zY "minus"=true) (k21:ak K (.ref LO)=true)
  (a22:av K aq "under"=some (some (.ref LP)))
  (l22:K.lookup LP=some ⟨YR,ZC,.func (cy "under" "under" jy .none Gv ES Hu De zZ D3),aaC⟩) (c22:aw K zZ "under"=true) (k22:ak K (.ref LP)=true)
  (a23:av K aq "later"=some (some (.ref LQ)))
  (l23:K.lookup LQ=some ⟨YS,ZD,.func (cy "later" "later" jz .none Gw ET Hv Df Aa D4),aaD⟩) (c23:aw K Aa "later"=true) (k23:ak K (.ref LQ)=true)
  (a24:av K aq "latest"=some (some (.ref LR)))
  (l24:K.lookup LR=some ⟨YT,ZE,.func (cy "latest" "latest" ug .none Gx EU Hw Dg Ab D5),aaE⟩) (c24:aw K Ab "latest"=true) (k24:ak K (.ref LR)=true)
  (a25:av K aq "mean"=some (some (.ref LS)))
  (l25:K.lookup LS=some ⟨YU,ZF,.func (cy "mean" "mean" Cr .none Gy EV Hx Dh Ac D6),aaF⟩) (c25:aw K Ac "mean"=true) (k25:ak K (.ref LS)=true)
  (a26:av K aq "push_once"=some (some (.ref LU)))
  (l26:K.lookup LU=some ⟨YV,ZG,.func (cy "push_once" "push_once" wf .none Gz EW Hy Di Ad D7),aaG⟩) (c26:aw K Ad "push_once"=true) (k26:ak K (.ref LU)=true)
  (a27:av K aq "times_or_ring_along"=some (some (.ref LV)))
  (l27:K.lookup LV=some ⟨YW,ZH,.func (cy "times_or_ring_along" "times_or_ring_along" zl .none GA EX Hz Dj Ae D8),aaH⟩) (c27:aw K Ae "times_or_ring_along"=true) (k27:ak K (.ref LV)=true)
  (a28:av K aq "ring_above"=some (some (.ref LW)))
  (l28:K.lookup LW=some ⟨YX,ZI,.func (cy "ring_above" "ring_above" xo .none GB EY HA Dk Af D9),aaI⟩) (c28:aw K Af "ring_above"=true) (k28:ak K (.ref LW)=true)
  (a29:av K aq "midway"=some (some (.ref LX)))
  (l29:K.lookup LX=some ⟨YY,ZJ,.func (cy "midway" "midway" uh .none GC EZ HB Dl Ag Ea),aaJ⟩) (c29:aw K Ag "midway"=true) (k29:ak K (.ref LX)=true)
  (a30:av K aq "least_gap"=some (some (.ref LY)))
  (l30:K.lookup LY=some ⟨YZ,ZK,.func (cy "least_gap" "least_gap" wg .none GD E1 HC Dn Ah Ec),aaK⟩) (c30:aw K Ah "least_gap"=true) (k30:ak K (.ref LY)=true)
  (a31:av K aq "greatest_ring"=some (some (.ref LZ)))
  (l31:K.lookup LZ=some ⟨Y0,ZL,.func (cy "greatest_ring" "greatest_ring" yq .none GF E2 HD Do Ai Ed),aaL⟩) (c31:aw K Ai "greatest_ring"=true) (k31:ak K (.ref LZ)=true)
  (a32:av K aq "paper_along"=some (some (.ref L0)))
  (l32:K.lookup L0=some ⟨Y1,ZM,.func (cy "paper_along" "paper_along" xg .none GG E3 HE Dp Aj Ee),aaM⟩) (c32:aw K Aj "paper_along"=true) (k32:ak K (.ref L0)=true)
  (a33:av K aq "rate"=some (some (.ref L1)))
  (l33:K.lookup L1=some ⟨Y2,ZN,.func (cy "rate" "rate" Cm .none GH E4 HF Dr Ak Ef),aaN⟩) (c33:aw K Ak "rate"=true) (k33:ak K (.ref L1)=true)
  (a34:av K aq "greatest_told"=some (some (.ref L4)))
  (l34:K.lookup L4=some ⟨Y3,ZO,.func (cy "greatest_told" "greatest_told" yr .none GJ E5 HG Ds Am Eg),aaO⟩) (c34:aw K Am "greatest_told"=true) (k34:ak K (.ref L4)=true)
  (a35:av K aq "rows_ahead"=some (some (.ref L5)))
  (l35:K.lookup L5=some ⟨Y4,ZP,.func (cy "rows_ahead" "rows_ahead" xp .none GK E6 HH Du An Eh),aaP⟩) (c35:aw K An "rows_ahead"=true) (k35:ak K (.ref L5)=true)
  (a36:av K aq "time_in_last_row"=some (some (.ref L6)))
  (l36:K.lookup L6=some ⟨Y5,ZQ,.func (cy "time_in_last_row" "time_in_last_row" zw .none GL E7 HI Dv Ao Ej),aaQ⟩) (c36:aw K Ao "time_in_last_row"=true) (k36:ak K (.ref L6)=true)
  (a37:av K aq "rows_with_past"=some (some (.ref L7)))
  (l37:K.lookup L7=some ⟨Y6,ZR,.func (cy "rows_with_past" "rows_with_past" yc .none GM E8 HJ Dw Ap Ek),aaR⟩) (c37:aw K Ap "rows_with_past"=true) (k37:ak K (.ref L7)=true)
  (a38:av K aq "run"=some (some (.ref L8)))
  (l38:K.lookup L8=some ⟨Y7,ZS,.func (cy "run" "run" yW (.ref uM) wR wD wY vZ tT wC),aaS⟩) (c38:aw K tT "run"=true) (k38:ak K (.ref L8)=true)
  (t38:K.lookup uM=some ⟨abg,RX,.seq #[.none,.none] abl,R1⟩)
  (a39:av K aq "growth"=some (some (.ref L9)))
  (l39:K.lookup L9=some ⟨Y8,ZT,.func (cy "growth" "growth" ui .none GO E9 HK Dx Aq Em),aaT⟩) (c39:aw K Aq "growth"=true) (k39:ak K (.ref L9)=true)
  (a40:av K aq "grows_so"=some (some (.ref Ma)))
  (l40:K.lookup Ma=some ⟨Y9,ZU,.func (cy "grows_so" "grows_so" wz .none GP Fa HL Dy Ar En),aaU⟩) (c40:aw K Ar "grows_so"=true) (k40:ak K (.ref Ma)=true)
  (a41:av K aq "never_outgrown"=some (some (.ref Mb)))
  (l41:K.lookup Mb=some ⟨Za,ZV,.func (cy "never_outgrown" "never_outgrown" ye .none GQ Fb HM Dz As Eo),aaV⟩) (c41:aw K As "never_outgrown"=true) (k41:ak K (.ref Mb)=true)
  (a42:av K aq "is_carried"=some (some (.ref Mc)))
  (l42:K.lookup Mc=some ⟨Zb,ZW,.func (cy "is_carried" "is_carried" xq .none GR Fc HN DA Au Ep),aaW⟩) (c42:aw K Au "is_carried"=true) (k42:ak K (.ref Mc)=true)
  (a43:av K aq "all_carried"=some (some (.ref Md)))
  (l43:K.lookup Md=some ⟨Zc,ZX,.func (cy "all_carried" "all_carried" xh .none GS Fd HP DB Av Er),aaX⟩) (c43:aw K Av "all_carried"=true) (k43:ak K (.ref Md)=true)
  (a44:av K aq "goes_on"=some (some (.ref Me)))
  (l44:K.lookup Me=some ⟨Zd,ZY,.func (cy "goes_on" "goes_on" vq .none GU Fe HQ DC Aw Es),aaY⟩) (c44:aw K Aw "goes_on"=true) (k44:ak K (.ref Me)=true)
  (a45:av K aq "refuse_loose"=some (some (.ref Mf)))
  (l45:K.lookup Mf=some ⟨Ze,ZZ,.func (cy "refuse_loose" "refuse_loose" yu .none GV Ff HR DD Ax Et),aaZ⟩) (c45:aw K Ax "refuse_loose"=true) (k45:ak K (.ref Mf)=true)
  (a46:av K aq "earliest_round"=some (some (.ref Mg)))
  (l46:K.lookup Mg=some ⟨Zf,Z0,.func (cy "earliest_round" "earliest_round" yf .none GW Fg HS DE Ay Eu),aa0⟩) (c46:aw K Ay "earliest_round"=true) (k46:ak K (.ref Mg)=true)
  (a47:av K aq "comes_again"=some (some (.ref Mh)))
  (l47:K.lookup Mh=some ⟨Zg,Z1,.func (cy "comes_again" "comes_again" yn (.ref xH) Bl AI Bt zJ wA AG),aa1⟩) (c47:aw K wA "comes_again"=true) (k47:ak K (.ref Mh)=true)
  (t47:K.lookup xH=some ⟨abh,RY,.seq #[.none] abm,R3⟩)
  (a48:av K aq "_law_cell_at"=some (some (.ref Mi)))
  (l48:K.lookup Mi=some ⟨Zh,Z2,.func (cy "_law_cell_at" "_law_cell_at" xi .none GX Fh HU DF Az Ew),aa2⟩) (c48:aw K Az "_law_cell_at"=true) (k48:ak K (.ref Mi)=true)
  (a49:av K aq "_law_is_row"=some (some (.ref Mj)))
  (l49:K.lookup Mj=some ⟨Zi,Z3,.func (cy "_law_is_row" "_law_is_row" xr .none GY Fi HV DG AA Ex),aa3⟩) (c49:aw K AA "_law_is_row"=true) (k49:ak K (.ref Mj)=true)
  (a50:av K aq "_law_mixed"=some (some (.ref Ml)))
  (l50:K.lookup Ml=some ⟨Zj,Z4,.func (cy "_law_mixed" "_law_mixed" wj .none GZ Fj HW DH AB Ey),aa4⟩) (c50:aw K AB "_law_mixed"=true) (k50:ak K (.ref Ml)=true)
  (a51:av K aq "_law_rank"=some (some (.ref Mm)))
  (l51:K.lookup Mm=some ⟨Zk,Z5,.func (cy "_law_rank" "_law_rank" w6 .none G0 Fk HX DI AC Ez),aa5⟩) (c51:aw K AC "_law_rank"=true) (k51:ak K (.ref Mm)=true)
  (a52:av K aq "_law_arrow"=some (some (.ref Mn)))
  (l52:K.lookup Mn=some ⟨Zl,Z6,.func (cy "_law_arrow" "_law_arrow" wk .none G1 Fm HY DJ AD EA),aa6⟩) (c52:aw K AD "_law_arrow"=true) (k52:ak K (.ref Mn)=true)
  (a53:av K aq "_law_made"=some (some (.ref Mp)))
  (l53:K.lookup Mp=some ⟨Zm,Z7,.func (cy "_law_made" "_law_made" w8 .none G2 Fo HZ DK AE EB),aa7⟩) (c53:aw K AE "_law_made"=true) (k53:ak K (.ref Mp)=true)
  (a54:av K aq "_law_was"=some (some (.ref Mq)))
  (l54:K.lookup Mq=some ⟨Zn,Z8,.func (cy "_law_was" "_law_was" vt .none G3 Fs Ia DL AF EC),aa8⟩) (c54:aw K AF "_law_was"=true) (k54:ak K (.ref Mq)=true)
  (a55:av K aq "law"=some (some (.ref QC)))
  (l55:K.lookup QC=some ⟨Zo,Z9,.func (cy "law" "law" BO .none Bm AJ Bu zK wB AH),aa9⟩) (c55:aw K wB "law"=true) (k55:ak K (.ref QC)=true)
  (qs_Arrow:ed K (.ref c_Arrow) "__getattribute__"=some (some (.builtin "type.__getattribute__"))) (qr_Arrow:iZ K c_Arrow (.type "type")=true) (qf_Arrow:iY K (.ref c_Arrow) (.type "type") "__init__"=some (.val (.ref f0)))
  (n_Net_arrows:aE K (.ref c_Net) "arrows"=some none)
  (n_Arrow_behind:aE K (.ref c_Arrow) "behind"=some none)
  (n_Ride_behind:aE K (.ref c_Ride) "behind"=some none)
  (n_Wait_behind:aE K (.ref c_Wait) "behind"=some none)
  (n_Back_behind:aE K (.ref c_Back) "behind"=some none)
  (n_Arrow_goal:aE K (.ref c_Arrow) "goal"=some none)
  (n_Ride_goal:aE K (.ref c_Ride) "goal"=some none)
  (n_Wait_goal:aE K (.ref c_Wait) "goal"=some none)
  (n_Back_goal:aE K (.ref c_Back) "goal"=some none)
  (n_Net_names:aE K (.ref c_Net) "names"=some none)
  (n_Arrow_start:aE K (.ref c_Arrow) "start"=some none)
  (n_Ride_start:aE K (.ref c_Ride) "start"=some none)
  (n_Wait_start:aE K (.ref c_Wait) "start"=some none)
  (n_Back_start:aE K (.ref c_Back) "start"=some none)
  (n_Arrow_time:aE K (.ref c_Arrow) "time"=some none)
  (n_Ride_time:aE K (.ref c_Ride) "time"=some none)
  (n_Wait_time:aE K (.ref c_Wait) "time"=some none)
  (n_Back_time:aE K (.ref c_Back) "time"=some none)
  (ign:ed K (.builtin "object.__class__") "__get__"=some (some (.builtin "getset_descriptor.__get__"))) (igt:lY K (.builtin "object.__class__")=some true)
  (iga_Arrow:aE K (.ref c_Arrow) "__class__"=some (some (.builtin "object.__class__"))) (igm_Arrow:fH K c_Arrow (.type "object")=some true)
  (kit_Arrow_Back:bV K (.ref c_Arrow) (.ref c_Back)=some false)
  (kit_Arrow_Ride:bV K (.ref c_Arrow) (.ref c_Ride)=some false)
  (iga_Ride:aE K (.ref c_Ride) "__class__"=some (some (.builtin "object.__class__"))) (igm_Ride:fH K c_Ride (.type "object")=some true)
  (kit_Ride_Back:bV K (.ref c_Ride) (.ref c_Back)=some false)
  (kit_Ride_Ride:bV K (.ref c_Ride) (.ref c_Ride)=some true)
  (iga_Wait:aE K (.ref c_Wait) "__class__"=some (some (.builtin "object.__class__"))) (igm_Wait:fH K c_Wait (.type "object")=some true)
  (kit_Wait_Back:bV K (.ref c_Wait) (.ref c_Back)=some false)
  (kit_Wait_Ride:bV K (.ref c_Wait) (.ref c_Ride)=some false)
  (iga_Back:aE K (.ref c_Back) "__class__"=some (some (.builtin "object.__class__"))) (igm_Back:fH K c_Back (.type "object")=some true)
  (kit_Back_Back:bV K (.ref c_Back) (.ref c_Back)=some true)
  (kit_Back_Ride:bV K (.ref c_Back) (.ref c_Ride)=some false)
  (iga_Net:aE K (.ref c_Net) "__class__"=some (some (.builtin "object.__class__"))) (igm_Net:fH K c_Net (.type "object")=some true)
  (kit_Net_Back:bV K (.ref c_Net) (.ref c_Back)=some false)
  (kit_Net_Ride:bV K (.ref c_Net) (.ref c_Ride)=some false)
  (z0:av K aq "abs"=some none)
  (z1:av K aq "all"=some none)
  (z2:av K aq "bool"=some none)
  (z3:av K aq "enumerate"=some none)
  (z4:av K aq "int"=some none)
  (z5:av K aq "isinstance"=some none)
  (z6:av K aq "len"=some none)
  (z7:av K aq "list"=some none)
  (z8:av K aq "max"=some none)
  (z9:av K aq "range"=some none)
  (z10:av K aq "reversed"=some none)
  (z11:av K aq "sorted"=some none)
  (z12:av K aq "str"=some none)
  (z13:av K aq "sum"=some none)
  (z14:av K aq "zip"=some none)
  (gc0:av K aq "MOST_ARROWS"=some (some (.int 120 gt0)))
  (gc1:av K aq "MOST_BEHIND"=some (some (.int 4 gt1)))
  (gc2:av K aq "MOST_NAMES"=some (some (.int 40 gt2)))
  (gc3:av K aq "MOST_SIGNS"=some (some (.int 8 gt3)))
  (gc4:av K aq "MOST_TIME"=some (some (.int 1000000000 gt4))) :
  ∃fd:aI,(∀(s:am) (v:af),pv s fd ⟨[v],[]⟩ [("_law_script",v)])/\∀base:aZ,K.In base->base.Ns aq mg->cB l.prog w K mg base eF 8 fa fd ["_law_script"] (ou K):=by
 have e:=XJ.symm.trans (ax X G a55)
 cases e
 have F0:=zo (st:=yt) l0 c0 k0
 have b0:bA K (cy "__init__" "Arrow.__init__" yt .none Ri Qt RB Qa Lm Ql) ["self","start","goal","time","behind"] []:=.all (Ci λ_ _ _ _ _=>rfl)
 have F1:=zo (st:=xc) l1 c1 k1
 have b1:bA K (cy "__init__" "Ride.__init__" xc .none Rj Qu RC Qb Lo Qm) ["self","start","goal","time"] []:=.all (vK λ_ _ _ _=>rfl)
 have F2:=zo (st:=yk) l2 c2 k2
 have b2:bA K (cy "__init__" "Wait.__init__" yk (.ref JR) Ny LA NJ Li Jj Lx) ["self","start","goal","time","behind"] []:=xL 5 t2 (Ci λ_ _ _ _ _=>⟨_,rfl,rfl⟩)
 have Lk:bA K (cy "__init__" "Wait.__init__" yk (.ref JR) Ny LA NJ Li Jj Lx) ["self","start","goal","time","behind"] [.int 0 IF]:=xL 4 t2 (vK λ_ _ _ _=>⟨_,rfl,rfl⟩)
 have F3:=zo (st:=ym) l3 c3 k3
 have b3:bA K (cy "__init__" "Back.__init__" ym (.ref JS) Nz LB NK Lj Jk Ly) ["self","start","goal","time","behind"] []:=xL 5 t3 (Ci λ_ _ _ _ _=>⟨_,rfl,rfl⟩)
 have Ll:bA K (cy "__init__" "Back.__init__" ym (.ref JS) Nz LB NK Lj Jk Ly) ["self","start","goal","time","behind"] [.int 1 IG]:=xL 4 t3 (vK λ_ _ _ _=>⟨_,rfl,rfl⟩)
 have F4:=zo (st:=wa) l4 c4 k4
 have b4:bA K (cy "is_letter" "is_letter" wa .none Rk Qv RD Qc Lp Qn) ["sign"] []:=.all (tq λ_=>rfl)
 have F5:=zo (st:=wb) l5 c5 k5
 have b5:bA K (cy "is_figure" "is_figure" wb .none Rl Qw RE Qd Lq Qo) ["sign"] []:=.all (tq λ_=>rfl)
 have F6:=zo (st:=vp) l6 c6 k6
 have b6:bA K (cy "is_name" "is_name" vp .none Rm Qx RF Qe Lr Qp) ["word"] []:=.all (tq λ_=>rfl)
 have F7:=zo (st:=wc) l7 c7 k7
 have b7:bA K (cy "are_names" "are_names" wc .none Rn Qy RH Qf Ls Qq) ["names"] []:=.all (tq λ_=>rfl)
 have F8:=zo (st:=xf) l8 c8 k8
 have b8:bA K (cy "lies_within" "lies_within" xf .none Ro Qz RI Qg Lu Qr) ["number","least","most"] []:=.all (tu λ_ _ _=>rfl)
 have F9:=zo (st:=ww) l9 c9 k9
 have b9:bA K (cy "is_right" "is_right" ww .none Rp QA RJ Qh Lv Qs) ["arrow","many"] []:=.all (mH λ_ _=>rfl)
 have Vu:=zo (st:=yp) l10 c10 k10
 have Wi:bA K (cy "placed_goings" "placed_goings" yp .none Gg ED Hh CZ zN DQ) ["many","arrows"] []:=.all (mH λ_ _=>rfl)
 have Vv:=zo (st:=ya) l11 c11 k11
 have Wj:bA K (cy "ring_back_from" "ring_back_from" ya .none Gh EE Hi C0 zO DR) ["arrows","chosen","going"] []:=.all (tu λ_ _ _=>rfl)
 have Vw:=zo (st:=xn) l12 c12 k12
 have Wl:bA K (cy "__init__" "Net.__init__" xn .none Gi EG Hj C1 zP DS) ["self","names","arrows"] []:=.all (tu λ_ _ _=>rfl)
 have Vx:=zo (st:=zx) l13 c13 k13
 have Wm:bA K (cy "most_behind" "Net.most_behind" zx .none Gj EH Hk C2 zQ DT) ["self"] []:=.all (tq λ_=>rfl)
 have Vy:=zo (st:=wx) l14 c14 k14
 have Wn:bA K (cy "into" "Net.into" wx .none Gk EI Hl C3 zR DU) ["self","going"] []:=.all (mH λ_ _=>rfl)
 have Vz:=zo (st:=we) l15 c15 k15
 have Wo:bA K (cy "order" "Net.order" we .none Gm EJ Hm C4 zS DV) ["self"] []:=.all (tq λ_=>rfl)
 have VA:=zo (st:=wy) l16 c16 k16
 have Wp:bA K (cy "leads_to" "leads_to" wy .none Gn EK Hn C5 zT DW) ["net","going"] []:=.all (mH λ_ _=>rfl)
 have VB:=zo (st:=yb) l17 c17 k17
 have Wq:bA K (cy "common_divisor" "common_divisor" yb .none Gp EL Ho C6 zU DX) ["one","other"] []:=.all (mH λ_ _=>rfl)
 have VC:=zo (st:=jw) l18 c18 k18
 have Wr:bA K (cy "ratio" "ratio" jw .none Gq EN Hq C7 zV DY) ["top","bottom"] []:=.all (mH λ_ _=>rfl)
 have VD:=zo (st:=uf) l19 c19 k19
 have Ws:bA K (cy "scaled" "scaled" uf .none Gr EO Hr C8 zW DZ) ["one","whole"] []:=.all (mH λ_ _=>rfl)
 have VE:=zo (st:=Cq) l20 c20 k20
 have Wt:bA K (cy "plus" "plus" Cq .none Gs EQ Hs C9 zX D1) ["one","other"] []:=.all (mH λ_ _=>rfl)
 have VF:=zo (st:=jx) l21 c21 k21
 have Wu:bA K (cy "minus" "minus" jx .none Gu ER Ht Dd zY D2) ["one","other"] []:=.all (mH λ_ _=>rfl)
 have VG:=zo (st:=jy) l22 c22 k22
 have Wv:bA K (cy "under" "under" jy .none Gv ES Hu De zZ D3) ["one","other"] []:=.all (mH λ_ _=>rfl)
 have VH:=zo (st:=jz) l23 c23 k23
 have Ww:bA K (cy "later" "later" jz .none Gw ET Hv Df Aa D4) ["when","more"] []:=.all (mH λ_ _=>rfl)
 have VI:=zo (st:=ug) l24 c24 k24
 have Wx:bA K (cy "latest" "latest" ug .none Gx EU Hw Dg Ab D5) ["one","other"] []:=.all (mH λ_ _=>rfl)
 have VJ:=zo (st:=Cr) l25 c25 k25
 have Wy:bA K (cy "mean" "mean" Cr .none Gy EV Hx Dh Ac D6) ["net","ring"] []:=.all (mH λ_ _=>rfl)
 have VL:=zo (st:=wf) l26 c26 k26
 have Wz:bA K (cy "push_once" "push_once" wf .none Gz EW Hy Di Ad D7) ["net","pace","numbers","times","chosen"] []:=.all (Ci λ_ _ _ _ _=>rfl)
 have VM:=zo (st:=zl) l27 c27 k27
 have WA:bA K (cy "times_or_ring_along" "times_or_ring_along" zl .none GA EX Hz Dj Ae D8) ["net","pace","numbers"] []:=.all (tu λ_ _ _=>rfl)
 have VN:=zo (st:=xo) l28 c28 k28
 have WB:bA K (cy "ring_above" "ring_above" xo .none GB EY HA Dk Af D9) ["net","pace","numbers"] []:=.all (tu λ_ _ _=>rfl)
 have VO:=zo (st:=uh) l29 c29 k29
 have WC:bA K (cy "midway" "midway" uh .none GC EZ HB Dl Ag Ea) ["one","other"] []:=.all (mH λ_ _=>rfl)
 have VP:=zo (st:=wg) l30 c30 k30
 have WD:bA K (cy "least_gap" "least_gap" wg .none GD E1 HC Dn Ah Ec) ["net"] []:=.all (tq λ_=>rfl)
 have VQ:=zo (st:=yq) l31 c31 k31
 have WE:bA K (cy "greatest_ring" "greatest_ring" yq .none GF E2 HD Do Ai Ed) ["net","numbers"] []:=.all (mH λ_ _=>rfl)
 have VR:=zo (st:=xg) l32 c32 k32
 have WF:bA K (cy "paper_along" "paper_along" xg .none GG E3 HE Dp Aj Ee) ["net","numbers"] []:=.all (mH λ_ _=>rfl)
 have VS:=zo (st:=Cm) l33 c33 k33
 have WG:bA K (cy "rate" "rate" Cm .none GH E4 HF Dr Ak Ef) ["net","going"] []:=.all (mH λ_ _=>rfl)
 have VT:=zo (st:=yr) l34 c34 k34
 have WH:bA K (cy "greatest_told" "greatest_told" yr .none GJ E5 HG Ds Am Eg) ["told"] []:=.all (tq λ_=>rfl)
 have VU:=zo (st:=xp) l35 c35 k35
 have WI:bA K (cy "rows_ahead" "rows_ahead" xp .none GK E6 HH Du An Eh) ["net","was"] []:=.all (mH λ_ _=>rfl)
 have VV:=zo (st:=zw) l36 c36 k36
 have WJ:bA K (cy "time_in_last_row" "time_in_last_row" zw .none GL E7 HI Dv Ao Ej) ["net","rows","numbers","floor"] []:=.all (vK λ_ _ _ _=>rfl)
 have VW:=zo (st:=yc) l37 c37 k37
 have WK:bA K (cy "rows_with_past" "rows_with_past" yc .none GM E8 HJ Dw Ap Ek) ["net","rounds","was","floors"] []:=.all (vK λ_ _ _ _=>rfl)
 have VX:=zo (st:=yW) l38 c38 k38
 have WL:bA K (cy "run" "run" yW (.ref uM) wR wD wY vZ tT wC) ["net","rounds","was","floors"] []:=xL 4 t38 (vK λ_ _ _ _=>⟨_,rfl,rfl⟩)
 have DM:bA K (cy "run" "run" yW (.ref uM) wR wD wY vZ tT wC) ["net","rounds","was","floors"] [.none]:=xL 3 t38 (tu λ_ _ _=>⟨_,rfl,rfl⟩)
 have DN:bA K (cy "run" "run" yW (.ref uM) wR wD wY vZ tT wC) ["net","rounds","was","floors"] [.none,.none]:=xL 2 t38 (mH λ_ _=>⟨_,rfl,rfl⟩)
 have VY:=zo (st:=ui) l39 c39 k39
 have WM:bA K (cy "growth" "growth" ui .none GO E9 HK Dx Aq Em) ["rows","first","count"] []:=.all (tu λ_ _ _=>rfl)
 have VZ:=zo (st:=wz) l40 c40 k40
 have WN:bA K (cy "grows_so" "grows_so" wz .none GP Fa HL Dy Ar En) ["rows","first","last","count","lengths"] []:=.all (Ci λ_ _ _ _ _=>rfl)
 have V0:=zo (st:=ye) l41 c41 k41
 have WO:bA K (cy "never_outgrown" "never_outgrown" ye .none GQ Fb HM Dz As Eo) ["net","lengths"] []:=.all (mH λ_ _=>rfl)
 have V1:=zo (st:=xq) l42 c42 k42
 have WP:bA K (cy "is_carried" "is_carried" xq .none GR Fc HN DA Au Ep) ["rows","carriers","going","number"] []:=.all (vK λ_ _ _ _=>rfl)
 have V2:=zo (st:=xh) l43 c43 k43
 have WQ:bA K (cy "all_carried" "all_carried" xh .none GS Fd HP DB Av Er) ["net","rows","first","last","lengths"] []:=.all (Ci λ_ _ _ _ _=>rfl)
 have V3:=zo (st:=vq) l44 c44 k44
 have WR:bA K (cy "goes_on" "goes_on" vq .none GU Fe HQ DC Aw Es) ["net","rows","paper"] []:=.all (tu λ_ _ _=>rfl)
 have V4:=zo (st:=yu) l45 c45 k45
 have WS:bA K (cy "refuse_loose" "refuse_loose" yu .none GV Ff HR DD Ax Et) ["net"] []:=.all (tq λ_=>rfl)
 have V5:=zo (st:=yf) l46 c46 k46
 have WT:bA K (cy "earliest_round" "earliest_round" yf .none GW Fg HS DE Ay Eu) ["rows","known","count","lengths"] []:=.all (vK λ_ _ _ _=>rfl)
 have V6:=zo (st:=yn) l47 c47 k47
 have WU:bA K (cy "comes_again" "comes_again" yn (.ref xH) Bl AI Bt zJ wA AG) ["net","most","was"] []:=xL 3 t47 (tu λ_ _ _=>⟨_,rfl,rfl⟩)
 have DO:bA K (cy "comes_again" "comes_again" yn (.ref xH) Bl AI Bt zJ wA AG) ["net","most","was"] [.none]:=xL 2 t47 (mH λ_ _=>⟨_,rfl,rfl⟩)
 have V7:=zo (st:=xi) l48 c48 k48
 have WV:bA K (cy "_law_cell_at" "_law_cell_at" xi .none GX Fh HU DF Az Ew) ["_law_script","_law_k"] []:=.all (mH λ_ _=>rfl)
 have V8:=zo (st:=xr) l49 c49 k49
 have WW:bA K (cy "_law_is_row" "_law_is_row" xr .none GY Fi HV DG AA Ex) ["_law_cell"] []:=.all (tq λ_=>rfl)
 have V9:=zo (st:=wj) l50 c50 k50
 have WX:bA K (cy "_law_mixed" "_law_mixed" wj .none GZ Fj HW DH AB Ey) ["_law_cell","_law_k"] []:=.all (mH λ_ _=>rfl)
 have Wa:=zo (st:=w6) l51 c51 k51
 have WY:bA K (cy "_law_rank" "_law_rank" w6 .none G0 Fk HX DI AC Ez) ["_law_turn","_law_many","_law_going"] []:=.all (tu λ_ _ _=>rfl)
 have Wb:=zo (st:=wk) l52 c52 k52
 have WZ:bA K (cy "_law_arrow" "_law_arrow" wk .none G1 Fm HY DJ AD EA) ["_law_cell","_law_many","_law_turn","_law_k"] []:=.all (vK λ_ _ _ _=>rfl)
 have Wc:=zo (st:=w8) l53 c53 k53
 have W1:bA K (cy "_law_made" "_law_made" w8 .none G2 Fo HZ DK AE EB) ["_law_arrow_here","_law_kind"] []:=.all (mH λ_ _=>rfl)
 have Wd:=zo (st:=vt) l54 c54 k54
 have W2:bA K (cy "_law_was" "_law_was" vt .none G3 Fs Ia DL AF EC) ["_law_script","_law_many","_law_back"] []:=.all (tu λ_ _ _=>rfl)
 have We:=zo (st:=BO) l55 c55 k55
 have W3:bA K (cy "law" "law" BO .none Bm AJ Bu zK wB AH) ["_law_script"] []:=.all (tq λ_=>rfl)
 have T:Txt K mg ⟨c_Arrow,c_Ride,c_Wait,c_Back,c_Net,f0,cy "__init__" "Arrow.__init__" yt .none Ri Qt RB Qa Lm Ql,f1,cy "__init__" "Ride.__init__" xc .none Rj Qu RC Qb Lo Qm,f2,cy "__init__" "Wait.__init__" yk (.ref JR) Ny LA NJ Li Jj Lx,f3,cy "__init__" "Back.__init__" ym (.ref JS) Nz LB NK Lj Jk Ly,f4,cy "is_letter" "is_letter" wa .none Rk Qv RD Qc Lp Qn,f5,cy "is_figure" "is_figure" wb .none Rl Qw RE Qd Lq Qo,f6,cy "is_name" "is_name" vp .none Rm Qx RF Qe Lr Qp,f7,cy "are_names" "are_names" wc .none Rn Qy RH Qf Ls Qq,f8,cy "lies_within" "lies_within" xf .none Ro Qz RI Qg Lu Qr,f9,cy "is_right" "is_right" ww .none Rp QA RJ Qh Lv Qs,LH,cy "placed_goings" "placed_goings" yp .none Gg ED Hh CZ zN DQ,LI,cy "ring_back_from" "ring_back_from" ya .none Gh EE Hi C0 zO DR,Jn,cy "__init__" "Net.__init__" xn .none Gi EG Hj C1 zP DS,Jo,cy "most_behind" "Net.most_behind" zx .none Gj EH Hk C2 zQ DT,Jp,cy "into" "Net.into" wx .none Gk EI Hl C3 zR DU,Jq,cy "order" "Net.order" we .none Gm EJ Hm C4 zS DV,LJ,cy "leads_to" "leads_to" wy .none Gn EK Hn C5 zT DW,LK,cy "common_divisor" "common_divisor" yb .none Gp EL Ho C6 zU DX,LL,cy "ratio" "ratio" jw .none Gq EN Hq C7 zV DY,LM,cy "scaled" "scaled" uf .none Gr EO Hr C8 zW DZ,LN,cy "plus" "plus" Cq .none Gs EQ Hs C9 zX D1,LO,cy "minus" "minus" jx .none Gu ER Ht Dd zY D2,LP,cy "under" "under" jy .none Gv ES Hu De zZ D3,LQ,cy "later" "later" jz .none Gw ET Hv Df Aa D4,LR,cy "latest" "latest" ug .none Gx EU Hw Dg Ab D5,LS,cy "mean" "mean" Cr .none Gy EV Hx Dh Ac D6,LU,cy "push_once" "push_once" wf .none Gz EW Hy Di Ad D7,LV,cy "times_or_ring_along" "times_or_ring_along" zl .none GA EX Hz Dj Ae D8,LW,cy "ring_above" "ring_above" xo .none GB EY HA Dk Af D9,LX,cy "midway" "midway" uh .none GC EZ HB Dl Ag Ea,LY,cy "least_gap" "least_gap" wg .none GD E1 HC Dn Ah Ec,LZ,cy "greatest_ring" "greatest_ring" yq .none GF E2 HD Do Ai Ed,L0,cy "paper_along" "paper_along" xg .none GG E3 HE Dp Aj Ee,L1,cy "rate" "rate" Cm .none GH E4 HF Dr Ak Ef,L4,cy "greatest_told" "greatest_told" yr .none GJ E5 HG Ds Am Eg,L5,cy "rows_ahead" "rows_ahead" xp .none GK E6 HH Du An Eh,L6,cy "time_in_last_row" "time_in_last_row" zw .none GL E7 HI Dv Ao Ej,L7,cy "rows_with_past" "rows_with_past" yc .none GM E8 HJ Dw Ap Ek,L8,cy "run" "run" yW (.ref uM) wR wD wY vZ tT wC,L9,cy "growth" "growth" ui .none GO E9 HK Dx Aq Em,Ma,cy "grows_so" "grows_so" wz .none GP Fa HL Dy Ar En,Mb,cy "never_outgrown" "never_outgrown" ye .none GQ Fb HM Dz As Eo,Mc,cy "is_carried" "is_carried" xq .none GR Fc HN DA Au Ep,Md,cy "all_carried" "all_carried" xh .none GS Fd HP DB Av Er,Me,cy "goes_on" "goes_on" vq .none GU Fe HQ DC Aw Es,Mf,cy "refuse_loose" "refuse_loose" yu .none GV Ff HR DD Ax Et,Mg,cy "earliest_round" "earliest_round" yf .none GW Fg HS DE Ay Eu,Mh,cy "comes_again" "comes_again" yn (.ref xH) Bl AI Bt zJ wA AG,Mi,cy "_law_cell_at" "_law_cell_at" xi .none GX Fh HU DF Az Ew,Mj,cy "_law_is_row" "_law_is_row" xr .none GY Fi HV DG AA Ex,Ml,cy "_law_mixed" "_law_mixed" wj .none GZ Fj HW DH AB Ey,Mm,cy "_law_rank" "_law_rank" w6 .none G0 Fk HX DI AC Ez,Mn,cy "_law_arrow" "_law_arrow" wk .none G1 Fm HY DJ AD EA,Mp,cy "_law_made" "_law_made" w8 .none G2 Fo HZ DK AE EB,Mq,cy "_law_was" "_law_was" vt .none G3 Fs Ia DL AF EC,fa,cy "law" "law" BO .none Bm AJ Bu zK wB AH⟩:=by
  constructor
  ·exact⟨⟨pg_Arrow,hd_Arrow,po_Arrow,sa_Arrow⟩,ax X G aC_Arrow,mk_Arrow,kc_Arrow⟩
  ·exact⟨⟨pg_Ride,hd_Ride,po_Ride,sa_Ride⟩,ax X G aC_Ride,mk_Ride,kc_Ride⟩
  ·exact⟨⟨pg_Wait,hd_Wait,po_Wait,sa_Wait⟩,ax X G aC_Wait,mk_Wait,kc_Wait⟩
  ·exact⟨⟨pg_Back,hd_Back,po_Back,sa_Back⟩,ax X G aC_Back,mk_Back,kc_Back⟩
  ·exact⟨⟨pg_Net,hd_Net,po_Net,sa_Net⟩,ax X G aC_Net,mk_Net,kc_Net⟩
  ·exact⟨F0,⟨a0,i0,k0⟩,b0⟩
  ·exact⟨F1,⟨a1,i1,k1⟩,b1⟩
  ·exact⟨F2,⟨a2,i2,k2⟩,b2⟩
  ·exact⟨_,trivial,(.cons ⟨_,rfl⟩ .nil),Lk⟩
  ·exact⟨F3,⟨a3,i3,k3⟩,b3⟩
  ·exact⟨_,trivial,(.cons ⟨_,rfl⟩ .nil),Ll⟩
  ·exact⟨F4,ax X G a4,b4⟩
  ·exact⟨F5,ax X G a5,b5⟩
  ·exact⟨F6,ax X G a6,b6⟩
  ·exact⟨F7,ax X G a7,b7⟩
  ·exact⟨F8,ax X G a8,b8⟩
  ·exact⟨F9,ax X G a9,b9⟩
  ·exact⟨Vu,ax X G a10,Wi⟩
  ·exact⟨Vv,ax X G a11,Wj⟩
  ·exact⟨Vw,⟨a12,i12,k12⟩,Wl⟩
  ·exact⟨Vx,⟨a13,i13,k13⟩,Wm⟩
  ·exact⟨Vy,⟨a14,i14,k14⟩,Wn⟩
  ·exact⟨Vz,⟨a15,i15,k15⟩,Wo⟩
  ·exact⟨VA,ax X G a16,Wp⟩
  ·exact⟨VB,ax X G a17,Wq⟩
  ·exact⟨VC,ax X G a18,Wr⟩
  ·exact⟨VD,ax X G a19,Ws⟩
  ·exact⟨VE,ax X G a20,Wt⟩
  ·exact⟨VF,ax X G a21,Wu⟩
  ·exact⟨VG,ax X G a22,Wv⟩
  ·exact⟨VH,ax X G a23,Ww⟩
  ·exact⟨VI,ax X G a24,Wx⟩
  ·exact⟨VJ,ax X G a25,Wy⟩
  ·exact⟨VL,ax X G a26,Wz⟩
  ·exact⟨VM,ax X G a27,WA⟩
  ·exact⟨VN,ax X G a28,WB⟩
  ·exact⟨VO,ax X G a29,WC⟩
  ·exact⟨VP,ax X G a30,WD⟩
  ·exact⟨VQ,ax X G a31,WE⟩
  ·exact⟨VR,ax X G a32,WF⟩
  ·exact⟨VS,ax X G a33,WG⟩
  ·exact⟨VT,ax X G a34,WH⟩
  ·exact⟨VU,ax X G a35,WI⟩
  ·exact⟨VV,ax X G a36,WJ⟩
  ·exact⟨VW,ax X G a37,WK⟩
  ·exact⟨VX,ax X G a38,WL⟩
  ·exact⟨_,trivial,(.cons rfl .nil),DM⟩
  ·exact⟨_,trivial,(.cons rfl (.cons rfl .nil)),DN⟩
  ·exact⟨VY,ax X G a39,WM⟩
  ·exact⟨VZ,ax X G a40,WN⟩
  ·exact⟨V0,ax X G a41,WO⟩
  ·exact⟨V1,ax X G a42,WP⟩
  ·exact⟨V2,ax X G a43,WQ⟩
  ·exact⟨V3,ax X G a44,WR⟩
  ·exact⟨V4,ax X G a45,WS⟩
  ·exact⟨V5,ax X G a46,WT⟩
  ·exact⟨V6,ax X G a47,WU⟩
  ·exact⟨_,trivial,(.cons rfl .nil),DO⟩
  ·exact⟨V7,ax X G a48,WV⟩
  ·exact⟨V8,ax X G a49,WW⟩
  ·exact⟨V9,ax X G a50,WX⟩
  ·exact⟨Wa,ax X G a51,WY⟩
  ·exact⟨Wb,ax X G a52,WZ⟩
  ·exact⟨Wc,ax X G a53,W1⟩
  ·exact⟨Wd,ax X G a54,W2⟩
  ·exact⟨We,ax X G a55,W3⟩
  ·exact⟨qs_Arrow,qr_Arrow,qf_Arrow⟩
  ·exactλc hc=>by
    simp only[aA,cI,or_false]at hc
    rcases hc with rfl
    all_goals first|exact⟨⟨pg_Net,hd_Net,po_Net,sa_Net⟩,n_Net_arrows⟩
  ·exactλc hc=>by
    simp only[aA,cI,or_false]at hc
    rcases hc with rfl|rfl|rfl|rfl
    all_goals first|exact⟨⟨pg_Arrow,hd_Arrow,po_Arrow,sa_Arrow⟩,n_Arrow_behind⟩|exact⟨⟨pg_Ride,hd_Ride,po_Ride,sa_Ride⟩,n_Ride_behind⟩|exact⟨⟨pg_Wait,hd_Wait,po_Wait,sa_Wait⟩,n_Wait_behind⟩|exact⟨⟨pg_Back,hd_Back,po_Back,sa_Back⟩,n_Back_behind⟩
  ·exactλc hc=>by
    simp only[aA,cI,or_false]at hc
    rcases hc with rfl|rfl|rfl|rfl
    all_goals first|exact⟨⟨pg_Arrow,hd_Arrow,po_Arrow,sa_Arrow⟩,n_Arrow_goal⟩|exact⟨⟨pg_Ride,hd_Ride,po_Ride,sa_Ride⟩,n_Ride_goal⟩|exact⟨⟨pg_Wait,hd_Wait,po_Wait,sa_Wait⟩,n_Wait_goal⟩|exact⟨⟨pg_Back,hd_Back,po_Back,sa_Back⟩,n_Back_goal⟩
  ·exactλc hc=>by
    simp only[aA,cI,or_false]at hc
    rcases hc with rfl
    all_goals first|exact⟨⟨pg_Net,hd_Net,po_Net,sa_Net⟩,n_Net_names⟩
  ·exactλc hc=>by
    simp only[aA,cI,or_false]at hc
    rcases hc with rfl|rfl|rfl|rfl
    all_goals first|exact⟨⟨pg_Arrow,hd_Arrow,po_Arrow,sa_Arrow⟩,n_Arrow_start⟩|exact⟨⟨pg_Ride,hd_Ride,po_Ride,sa_Ride⟩,n_Ride_start⟩|exact⟨⟨pg_Wait,hd_Wait,po_Wait,sa_Wait⟩,n_Wait_start⟩|exact⟨⟨pg_Back,hd_Back,po_Back,sa_Back⟩,n_Back_start⟩
  ·exactλc hc=>by
    simp only[aA,cI,or_false]at hc
    rcases hc with rfl|rfl|rfl|rfl
    all_goals first|exact⟨⟨pg_Arrow,hd_Arrow,po_Arrow,sa_Arrow⟩,n_Arrow_time⟩|exact⟨⟨pg_Ride,hd_Ride,po_Ride,sa_Ride⟩,n_Ride_time⟩|exact⟨⟨pg_Wait,hd_Wait,po_Wait,sa_Wait⟩,n_Wait_time⟩|exact⟨⟨pg_Back,hd_Back,po_Back,sa_Back⟩,n_Back_time⟩
  ·exactλc hc=>by
    simp only[aA,cI,or_false]at hc
    rcases hc with rfl|rfl|rfl|rfl|rfl
    all_goals first|exact⟨⟨⟨pg_Arrow,hd_Arrow,po_Arrow,sa_Arrow⟩,iga_Arrow,ign,igt,igm_Arrow⟩,kit_Arrow_Back⟩|exact⟨⟨⟨pg_Ride,hd_Ride,po_Ride,sa_Ride⟩,iga_Ride,ign,igt,igm_Ride⟩,kit_Ride_Back⟩|exact⟨⟨⟨pg_Wait,hd_Wait,po_Wait,sa_Wait⟩,iga_Wait,ign,igt,igm_Wait⟩,kit_Wait_Back⟩|exact⟨⟨⟨pg_Back,hd_Back,po_Back,sa_Back⟩,iga_Back,ign,igt,igm_Back⟩,kit_Back_Back⟩|exact⟨⟨⟨pg_Net,hd_Net,po_Net,sa_Net⟩,iga_Net,ign,igt,igm_Net⟩,kit_Net_Back⟩
  ·exactλc hc=>by
    simp only[aA,cI,or_false]at hc
    rcases hc with rfl|rfl|rfl|rfl|rfl
    all_goals first|exact⟨⟨⟨pg_Arrow,hd_Arrow,po_Arrow,sa_Arrow⟩,iga_Arrow,ign,igt,igm_Arrow⟩,kit_Arrow_Ride⟩|exact⟨⟨⟨pg_Ride,hd_Ride,po_Ride,sa_Ride⟩,iga_Ride,ign,igt,igm_Ride⟩,kit_Ride_Ride⟩|exact⟨⟨⟨pg_Wait,hd_Wait,po_Wait,sa_Wait⟩,iga_Wait,ign,igt,igm_Wait⟩,kit_Wait_Ride⟩|exact⟨⟨⟨pg_Back,hd_Back,po_Back,sa_Back⟩,iga_Back,ign,igt,igm_Back⟩,kit_Back_Ride⟩|exact⟨⟨⟨pg_Net,hd_Net,po_Net,sa_Net⟩,iga_Net,ign,igt,igm_Net⟩,kit_Net_Ride⟩
  ·exact bJ X G z0
  ·exact bJ X G z1
  ·exact bJ X G z2
  ·exact bJ X G z3
  ·exact bJ X G z4
  ·exact bJ X G z5
  ·exact bJ X G z6
  ·exact bJ X G z7
  ·exact bJ X G z8
  ·exact bJ X G z9
  ·exact bJ X G z10
  ·exact bJ X G z11
  ·exact bJ X G z12
  ·exact bJ X G z13
  ·exact bJ X G z14
  ·exact⟨_,ax X G gc0⟩
  ·exact⟨_,ax X G gc1⟩
  ·exact⟨_,ax X G gc2⟩
  ·exact⟨_,ax X G gc3⟩
  ·exact⟨_,ax X G gc4⟩
 exact⟨cy "law" "law" BO .none Bm AJ Bu zK wB AH,λs v=>.of_eq rfl,λbase _ _=>zwz T⟩
theorem walk {l:lW}{q:bz}{loose:List aU}{XP:(aU->Option af)->aZ->Prop}{YP:ce->aZ->Prop}{d:DefRec}{K:Params->ae}(hn:l.most=some 63)(FE:d.params.defaults=[])
  (hY:∀(w:ce) (h:aZ),YP w h->(K w.params).In h)
  (F:∀(w:ce) (mg:aU->Option af) (fa:ah) (h:aZ),(K w.params).In h->h.Ns aq mg->mg d.name=some (.ref fa) ->
   ∃fd:aI,(∀(s:am) (u:af),pv s fd ⟨[u],[]⟩ [("_law_script",u)])/\∀base:aZ,(K w.params).In base->base.Ns aq mg->cB l.prog w (K w.params) mg base eF 8 fa fd ["_law_script"] (ou (K w.params))) :
  tL q loose XP YP l.row.toRowW d [] (λf vs=>PySem.call f vs) :=
 L2.walk_of (n:=63) (k:=8) (x:="_law_script") (CX:=λ_=>eF) (sp:=λw=>ou (K w.params)) hn (by decide) FE ⟨rfl,by decide,by decide⟩ hY F (λ_ _ a ns hl _ hS=>⟨a,ns,rfl,hS,hl,λ_=>rfl⟩) λ_ _ _ _ _ z=>z
end My
-- KEEP
namespace PySem.W.Fast
def tw12267485647588928493:=0
def tw9504481484480861693:=0
def tw94403104790831405:=0
def tw3440623298999841522:=0
def tw1241478504586047855:=0
def tw5194201207742010128:=0
def tw13142328917809980044:=0
def tw14701468484661250428:=0
def tw14540379347556394044:=0
def tw14078241676827225674:=0
def tw1459095805518503470:=0
def tw14507979199584810920:=0
def tw11505411347820285079:=0
def tw2747861248839047311:=0
def tw838888628698555058:=0
def tw14587753118054008735:=0
def tw16559047514782571994:=0
def tw10588454956121597748:=0
def tw16028231647586452893:=0
def tw12356300265195594632:=0
def tw15989410834569882384:=0
def tw12032694335604129183:=0
def tw13536966695920655196:=0
def tw496248609490469533:=0
def tw14484515438955119968:=0
def tw12149641835358734401:=0
def tw5593479308417502984:=0
def tw3648787325339874129:=0
def tw12946752703992483844:=0
def tw14786955872801550275:=0
def tw8782290322543439768:=0
def tw4127328651083154503:=0
def tw2518253139194184011:=0
def tw10029341447447294436:=0
def tw17611505188506313043:=0
def tw6574820440710079026:=0
def tw10005831756554138568:=0
def tw6027780309677260242:=0
def tw11647387007938418585:=0
def tw8898548843239573138:=0
def tw18402087593695008648:=0
def tw11987222175209361932:=0
def tw3350123349917770657:=0
def tw7626564541434959936:=0
def tw17104852712816896976:=0
def tw13309289093329716196:=0
def tw14899402817238408706:=0
def tw15899764239119172684:=0
def tw1966426525274846489:=0
def tw5141484487140373385:=0
def tw13181454164037064986:=0
def tw134318817228312181:=0
def tw10225640946599602882:=0
def tw9238591410728167498:=0
def tw17426234142829552161:=0
def tw3019803493590239453:=0
def tw5011060977448771863:=0
def tw5566180824151941184:=0
def tw13197029579452817102:=0
def tw14295581885279872796:=0
def tw10875811783449567301:=0
def tw76124249260291423:=0
def tw2452908838372427735:=0
def tw6094378876619881702:=0
def tw10166632984133067608:=0
def tw6352276786850657870:=0
def tw5639329309273903668:=0
def tw10701692747967231247:=0
def tw1899100243992083563:=0
def tw12642444581528182465:=0
def tw11538454151216530943:=0
def tw9429881762415483886:=0
def tw7539072796528979401:=0
def tw5935518155463472997:=0
def tw10715200721509110113:=0
def tw7304208855735479594:=0
def tw9591267728103344944:=0
def tw1148806607463972811:=0
def tw2229891751907252112:=0
def tw15992790405655994437:=0
def tw8106807606880020812:=0
def tw18386925788307818617:=0
def tw14646475048911479130:=0
def tw5335686481391354417:=0
def tw2779576569140967360:=0
def tw14808700250702804750:=0
def tw15424109542359342520:=0
def tw14597426093333088578:=0
def tw10460530722839470416:=0
def tw13814226635407426273:=0
def tw6862790825842731958:=0
def tw13454702917875513848:=0
def tw14887499323206851566:=0
def tw8871350256531064993:=0
def tw9688478554670482861:=0
def tw4751144556923992420:=0
def tw3908539580668299522:=0
def tw10760592534165147097:=0
def tw13647857278624379271:=0
def tw6677057755210837025:=0
def tw14637654859701755304:=0
def tw13660847026055459535:=0
def tw13429248793063122043:=0
def tw14434439150686566871:=0
def tw2865807259337154410:=0
def tw9786651031976129391:=0
def tw16001926765920855113:=0
def tw6703354297236084070:=0
def tw6480685115708911538:=0
def tw2674163139528957082:=0
def tw17808795513327030186:=0
def tw3142754849041077070:=0
def tw2745674146971356263:=0
def tw6681418811477594318:=0
def tw12551235344726170298:=0
def tw10738861065995861025:=0
def tw11469751065193726170:=0
def tw565656922629550142:=0
def tw10180488894912158584:=0
def tw4250835419546055344:=0
def tw17765293968370161465:=0
def tw9436813523454453666:=0
def tw14426803927954415466:=0
def tw948362271426733484:=0
def tw10936836761634773346:=0
def tw16806338251167147794:=0
def tw6447403028114087165:=0
def tw15915465510137384277:=0
def tw10132457447564036757:=0
def tw10798030365787036750:=0
def tw9242248614117858851:=0
def tw10453484371181922220:=0
def tw5396502439149486328:=0
def tw9491891725689309959:=0
def tw12338075907881551308:=0
def tw931400278747432679:=0
def tw5844159652052483759:=0
def tw11545580640981690762:=0
def tw4063970772985805006:=0
def tw7407044503898945379:=0
def tw15979137706392086451:=0
def tw16123254380369113589:=0
def tw8767015927765314787:=0
def tw6575544084967867537:=0
def tw7619958684854911024:=0
def tw2603523287969685285:=0
def tw5676892779872632673:=0
def tw14740503039506678085:=0
def tw12687789231073980021:=0
def tw909622760485532300:=0
def tw14148950161815348962:=0
def tw4886298454064180741:=0
def tw7183726420916890419:=0
def tw7254915471241174043:=0
def tw13354396785098641217:=0
def tw7853968669982800983:=0
def tw8302143990738206012:=0
def tw3494362888904135173:=0
def tw5664970137558103707:=0
def tw16191785370914078456:=0
def tw12435977050569095240:=0
def tw16934027727907006551:=0
def tw13417385419729818125:=0
def tw9567735229738717139:=0
def tw16163457927568143919:=0
def tw16649653832578598162:=0
def tw6136399269698005052:=0
def tw726850303707448934:=0
def tw11749084931116764191:=0
def tw7457614079851450596:=0
def tw9722712403543621046:=0
def tw11839826090116935437:=0
def tw14694552858351425516:=0
def tw9145027165016397123:=0
def tw13487251453260791278:=0
def tw16122690856210402517:=0
def tw1458705401404083129:=0
def tw1373233285060730679:=0
def tw15391978007024669724:=0
def tw830284755213047815:=0
def tw4856521593339072797:=0
def tw3965849626207270188:=0
def tw6268947388124997981:=0
def tw7300206337561717306:=0
def tw10084945021588545666:=0
def tw18433367355197417709:=0
def tw5885452304408209167:=0
def tw14158222959790141445:=0
def tw893364502167177709:=0
def tw11886403810129493269:=0
def tw280710205533259070:=0
def tw16592471246506374827:=0
def tw12526552876982795608:=0
def tw12054676094380799678:=0
def tw4667695961643105825:=0
def tw3783072006754843982:=0
def tw17291216191662229420:=0
def tw13680900004355116602:=0
def tw4179473257864787494:=0
def tw4612385035669576898:=0
def tw8564077680120774515:=0
def tw708894652536562223:=0
def tw635906311691738417:=0
def tw9503839517658977863:=0
def tw16874484066382052795:=0
def tw7847197413466146625:=0
def tw4632413358128170993:=0
def tw14094170726283563527:=0
def tw4138649504898190918:=0
def tw1229329095500578552:=0
def tw17897506598979120261:=0
def tw1861049237278108708:=0
def tw15593119749324516193:=0
def tw9418045255113733758:=0
def tw1000579196686528780:=0
def tw841603861774698792:=0
def tw747446270388400040:=0
def tw15557196021803617165:=0
def tw13293613154817454950:=0
def tw10944848971564655716:=0
def tw12889524088476965902:=0
def tw4555080450048247614:=0
def tw4363419489699665363:=0
def tw17713552845161027839:=0
def tw13740649399618751667:=0
def tw891514528240303839:=0
def tw14400706748994827466:=0
def tw17919492668591086963:=0
def tw9734566846497139731:=0
def tw5702767029053023218:=0
def tw2311005435349458847:=0
def tw12067349763243391273:=0
def tw726861450617031347:=0
def tw8387899411139804633:=0
def tw4224701526215758663:=0
def tw16141537361148357855:=0
def tw3077017355826123270:=0
def tw155449368905630708:=0
def tw6391557921433521865:=0
def tw16652045549896898772:=0
def tw9056787292153613085:=0
def tw884867876447414588:=0
def tw14298714903232637383:=0
def tw902970369679607377:=0
def tw10988748255092508045:=0
def tw9188539438347717890:=0
def tw11849930252755199743:=0
def tw3948473997121764032:=0
def tw16138865604918123016:=0
def tw17083497697805312074:=0
def tw7919539422194701544:=0
def tw11959105642334912638:=0
def tw11040680057649230235:=0
def tw13610855866952809076:=0
def tw15589240739093595806:=0
def tw5524197202946655041:=0
def tw6391177515637415617:=0
def tw7707367868934554263:=0
def tw14524695243740513856:=0
def tw13698983706150335606:=0
def tw13037610271632083676:=0
def tw9631280082274828353:=0
def tw7313705290956838642:=0
def tw17895809615018857173:=0
def tw43544445404832429:=0
def tw15550377517921540148:=0
def tw12174418154032039507:=0
def tw14179310136809315907:=0
def tw7885168355276712670:=0
def tw1853206655519933401:=0
def tw14126720274849000553:=0
def tw1531161612840644509:=0
def tw8202822288442461930:=0
def tw8016021072022413219:=0
def tw10793262158138248793:=0
def tw3930082950796167761:=0
def tw13528758991431437753:=0
def tw2292032770146234070:=0
def tw1632885982848075343:=0
def tw8832471316705470573:=0
def tw8575846836926546311:=0
def tw14377665596326134249:=0
def tw4107232309047491079:=0
def tw13851721405140269546:=0
def tw15282147384454109127:=0
def tw8312048410187160649:=0
def tw10278374974958544752:=0
def tw1505966141204276866:=0
def tw12704600796104311939:=0
def tw6990398714559894232:=0
def tw3302408368136869830:=0
def tw13365620419235281324:=0
def tw15363422820576914864:=0
def tw4142387179611426633:=0
def tw12841817511459588201:=0
def tw10568877419189273736:=0
def tw10667414009516632178:=0
def tw1396828543928484335:=0
def tw15469758105679416031:=0
def tw1503405262628964058:=0
def tw133874352617558273:=0
def tw12046292337068087244:=0
def tw9125326837046495474:=0
def tw15471206097904630392:=0
def tw16861997553549254508:=0
def tw5549087801486537071:=0
def tw16021439241229350560:=0
def tw1579279733704190761:=0
def tw7038377421938874029:=0
def tw7978195084489140045:=0
def tw15241406636355378936:=0
def tw11806063572223927541:=0
def tw3777031904983144150:=0
def tw6515729899947918187:=0
def tw17638128435745977131:=0
def tw3070753334536633387:=0
def tw10837094504917442729:=0
def tw18375911787516366833:=0
def tw14731414916011282462:=0
def tw18442508439060790500:=0
def tw13941840201145596400:=0
def tw10653252845814559555:=0
def tw5352782850234802318:=0
def tw1713311265830979531:=0
def tw6336853667455502835:=0
def tw15577027665471865444:=0
def tw8724596321254842377:=0
def tw7364594858331618748:=0
def tw16251652973796127426:=0
def tw10732948226364467095:=0
def tw9674869616708650702:=0
def tw7095884927151878437:=0
def tw15770516493140285685:=0
def tw6918494706727177460:=0
def tw11462293961507628081:=0
def tw8259538738769926814:=0
def tw14181725026296395385:=0
def tw7989716451545349744:=0
def tw2101830506793843982:=0
def tw10379438519253318756:=0
def tw13940235644080937082:=0
def tw9829068769535813910:=0
def tw15576263101258857801:=0
def tw8111224223214253881:=0
def tw18403157775183061701:=0
def tw14535504345931664156:=0
def tw16690849423670308670:=0
def tw14129824299098491328:=0
def tw3716025712446321078:=0
def tw16607914664105218504:=0
def tw7787053327434446358:=0
def tw11680251679921501383:=0
def tw18322562752104716517:=0
def tw17396777661701845242:=0
def tw8527365450210332859:=0
def tw5662505531873382360:=0
def tw749637146335393507:=0
def tw11840921420610869398:=0
def tw4940446300414788653:=0
def tw3632939283661246246:=0
def tw5820109130420365088:=0
def tw12543532531330533572:=0
def tw11180153243441839730:=0
def tw10270709843621851118:=0
def tw12491902216191685388:=0
def tw17189143511040065066:=0
def tw16183203587659984290:=0
def tw17504388589535871894:=0
def tw16373691879463458174:=0
def tw2508235621712523504:=0
def tw6799953646162857961:=0
def tw8808164648094328467:=0
def tw17842980662509463175:=0
def tw5636823074785839536:=0
def tw18215266069067692367:=0
def tw14405567552444012223:=0
def tw14257885403143730515:=0
def tw5884868140855339137:=0
def tw14661055410830798290:=0
def tw13640449142251277639:=0
def tw7944024590050710647:=0
def tw1294764095062452550:=0
def tw13364912943099824173:=0
def tw16907986484081909236:=0
def tw2230659999000742410:=0
def tw2714530322825941241:=0
def tw10314584179843145990:=0
def tw1740793667113447469:=0
def tw15085730844283497903:=0
def tw13168497986006199981:=0
def tw129023595340385936:=0
def tw406284672773293602:=0
def tw11376898027696081888:=0
def tw55354788213508105:=0
def tw4837525619701588434:=0
def tw4564021567204077272:=0
def tw2272768740248700513:=0
def tw18431843817719990050:=0
def tw15761780745563417508:=0
def tw13627714344034304872:=0
def tw12976408115352681440:=0
def tw10110437761222473784:=0
def tw2519476422099936300:=0
def tw4888621621940389008:=0
def tw13375171971788391814:=0
def tw9670737006085476427:=0
def tw565574170281977797:=0
def tw15139193446546204265:=0
def tw13827366244485454459:=0
def tw12953903088105323204:=0
def tw12920033688834852130:=0
def tw8788641558473437138:=0
def tw5502065798349453902:=0
def tw2514696353657055736:=0
def tw2105102644950535116:=0
def tw17916958337174013240:=0
def tw15555814549453321968:=0
def tw15217116194156666712:=0
def tw14118461359175513788:=0
def tw11906360861148614730:=0
def tw15693251994504605847:=0
def tw8241798527241616289:=0
def tw9657707079571419470:=0
def tw9483891473532794607:=0
def tw9383182435349145088:=0
def tw9116709598266099515:=0
def tw9066628830271617627:=0
def tw9053735545455526468:=0
def tw903862697611485232:=0
def tw8954512066158150199:=0
def tw8692122385622601779:=0
def tw8495597232021103148:=0
def tw8270592009430502455:=0
def tw8193603849216978459:=0
def tw8104785646565220962:=0
def tw8083087950110286911:=0
def tw8049967190560024215:=0
def tw7953076284402319068:=0
def tw782220786930719368:=0
def tw765543759323537065:=0
def tw7577132977135215346:=0
def tw7570440074263993052:=0
def tw7094243002055233428:=0
def tw7020397079220061310:=0
def tw6984926798819649805:=0
def tw6908012419546347003:=0
def tw6887940215733838122:=0
end PySem.W.Fast
open PySem PySem.W PyProof.Rows
set_option maxRecDepth 100000 in
set_option maxHeartbeats 0 in
theorem PySem.Challenge.cw_ringbeat_k44_whole_lengths_are_rates_holds : PySem.Challenge.rw_ringbeat_k44_whole_lengths_are_rates.Holds := by
 w_on; o_law; k_head; (case hw => w_witness2)
 k_fill
 refine My.walk (l := PySem.Challenge.rw_ringbeat_k44_whole_lengths_are_rates) rfl rfl (fun w h Y => PySem.W.kIn_of Y) ?F
 case F =>
  intro w mg fa h KX G hmg
  refine' My.all_mk KX G hmg ?aC_Arrow ?pg_Arrow ?hd_Arrow ?po_Arrow ?sa_Arrow ?mk_Arrow ?kc_Arrow ?aC_Ride ?pg_Ride ?hd_Ride ?po_Ride ?sa_Ride ?mk_Ride ?kc_Ride ?aC_Wait ?pg_Wait ?hd_Wait ?po_Wait ?sa_Wait ?mk_Wait ?kc_Wait ?aC_Back ?pg_Back ?hd_Back ?po_Back ?sa_Back ?mk_Back ?kc_Back ?aC_Net ?pg_Net ?hd_Net ?po_Net ?sa_Net ?mk_Net ?kc_Net ?a0 ?i0 ?l0 ?c0 ?k0 ?a1 ?i1 ?l1 ?c1 ?k1 ?a2 ?i2 ?l2 ?c2 ?k2 ?t2 ?a3 ?i3 ?l3 ?c3 ?k3 ?t3 ?a4 ?l4 ?c4 ?k4 ?a5 ?l5 ?c5 ?k5 ?a6 ?l6 ?c6 ?k6 ?a7 ?l7 ?c7 ?k7 ?a8 ?l8 ?c8 ?k8 ?a9 ?l9 ?c9 ?k9 ?a10 ?l10 ?c10 ?k10 ?a11 ?l11 ?c11 ?k11 ?a12 ?i12 ?l12 ?c12 ?k12 ?a13 ?i13 ?l13 ?c13 ?k13 ?a14 ?i14 ?l14 ?c14 ?k14 ?a15 ?i15 ?l15 ?c15 ?k15 ?a16 ?l16 ?c16 ?k16 ?a17 ?l17 ?c17 ?k17 ?a18 ?l18 ?c18 ?k18 ?a19 ?l19 ?c19 ?k19 ?a20 ?l20 ?c20 ?k20 ?a21 ?l21 ?c21 ?k21 ?a22 ?l22 ?c22 ?k22 ?a23 ?l23 ?c23 ?k23 ?a24 ?l24 ?c24 ?k24 ?a25 ?l25 ?c25 ?k25 ?a26 ?l26 ?c26 ?k26 ?a27 ?l27 ?c27 ?k27 ?a28 ?l28 ?c28 ?k28 ?a29 ?l29 ?c29 ?k29 ?a30 ?l30 ?c30 ?k30 ?a31 ?l31 ?c31 ?k31 ?a32 ?l32 ?c32 ?k32 ?a33 ?l33 ?c33 ?k33 ?a34 ?l34 ?c34 ?k34 ?a35 ?l35 ?c35 ?k35 ?a36 ?l36 ?c36 ?k36 ?a37 ?l37 ?c37 ?k37 ?a38 ?l38 ?c38 ?k38 ?t38 ?a39 ?l39 ?c39 ?k39 ?a40 ?l40 ?c40 ?k40 ?a41 ?l41 ?c41 ?k41 ?a42 ?l42 ?c42 ?k42 ?a43 ?l43 ?c43 ?k43 ?a44 ?l44 ?c44 ?k44 ?a45 ?l45 ?c45 ?k45 ?a46 ?l46 ?c46 ?k46 ?a47 ?l47 ?c47 ?k47 ?t47 ?a48 ?l48 ?c48 ?k48 ?a49 ?l49 ?c49 ?k49 ?a50 ?l50 ?c50 ?k50 ?a51 ?l51 ?c51 ?k51 ?a52 ?l52 ?c52 ?k52 ?a53 ?l53 ?c53 ?k53 ?a54 ?l54 ?c54 ?k54 ?a55 ?l55 ?c55 ?k55 ?qs_Arrow ?qr_Arrow ?qf_Arrow ?n_Net_arrows ?n_Arrow_behind ?n_Ride_behind ?n_Wait_behind ?n_Back_behind ?n_Arrow_goal ?n_Ride_goal ?n_Wait_goal ?n_Back_goal ?n_Net_names ?n_Arrow_start ?n_Ride_start ?n_Wait_start ?n_Back_start ?n_Arrow_time ?n_Ride_time ?n_Wait_time ?n_Back_time ?ign ?igt ?iga_Arrow ?igm_Arrow ?kit_Arrow_Back ?kit_Arrow_Ride ?iga_Ride ?igm_Ride ?kit_Ride_Back ?kit_Ride_Ride ?iga_Wait ?igm_Wait ?kit_Wait_Back ?kit_Wait_Ride ?iga_Back ?igm_Back ?kit_Back_Back ?kit_Back_Ride ?iga_Net ?igm_Net ?kit_Net_Back ?kit_Net_Ride ?z0 ?z1 ?z2 ?z3 ?z4 ?z5 ?z6 ?z7 ?z8 ?z9 ?z10 ?z11 ?z12 ?z13 ?z14 ?gc0 ?gc1 ?gc2 ?gc3 ?gc4
  (case aC_Arrow => k_is)
  (case pg_Arrow => k_is)
  (case hd_Arrow => k_is)
  (case po_Arrow => k_is)
  (case sa_Arrow => k_is)
  (case mk_Arrow => k_is)
  (case kc_Arrow => k_is)
  (case aC_Ride => k_is)
  (case pg_Ride => k_is)
  (case hd_Ride => k_is)
  (case po_Ride => k_is)
  (case sa_Ride => k_is)
  (case mk_Ride => k_is)
  (case kc_Ride => k_is)
  (case aC_Wait => k_is)
  (case pg_Wait => k_is)
  (case hd_Wait => k_is)
  (case po_Wait => k_is)
  (case sa_Wait => k_is)
  (case mk_Wait => k_is)
  (case kc_Wait => k_is)
  (case aC_Back => k_is)
  (case pg_Back => k_is)
  (case hd_Back => k_is)
  (case po_Back => k_is)
  (case sa_Back => k_is)
  (case mk_Back => k_is)
  (case kc_Back => k_is)
  (case aC_Net => k_is)
  (case pg_Net => k_is)
  (case hd_Net => k_is)
  (case po_Net => k_is)
  (case sa_Net => k_is)
  (case mk_Net => k_is)
  (case kc_Net => k_is)
  (case a0 => k_is)
  (case i0 => k_is)
  (case l0 => k_is)
  (case c0 => k_is)
  (case k0 => k_is)
  (case a1 => k_is)
  (case i1 => k_is)
  (case l1 => k_is)
  (case c1 => k_is)
  (case k1 => k_is)
  (case a2 => k_is)
  (case i2 => k_is)
  (case l2 => k_is)
  (case c2 => k_is)
  (case k2 => k_is)
  (case t2 => k_is)
  (case a3 => k_is)
  (case i3 => k_is)
  (case l3 => k_is)
  (case c3 => k_is)
  (case k3 => k_is)
  (case t3 => k_is)
  (case a4 => k_is)
  (case l4 => k_is)
  (case c4 => k_is)
  (case k4 => k_is)
  (case a5 => k_is)
  (case l5 => k_is)
  (case c5 => k_is)
  (case k5 => k_is)
  (case a6 => k_is)
  (case l6 => k_is)
  (case c6 => k_is)
  (case k6 => k_is)
  (case a7 => k_is)
  (case l7 => k_is)
  (case c7 => k_is)
  (case k7 => k_is)
  (case a8 => k_is)
  (case l8 => k_is)
  (case c8 => k_is)
  (case k8 => k_is)
  (case a9 => k_is)
  (case l9 => k_is)
  (case c9 => k_is)
  (case k9 => k_is)
  (case a10 => k_is)
  (case l10 => k_is)
  (case c10 => k_is)
  (case k10 => k_is)
  (case a11 => k_is)
  (case l11 => k_is)
  (case c11 => k_is)
  (case k11 => k_is)
  (case a12 => k_is)
  (case i12 => k_is)
  (case l12 => k_is)
  (case c12 => k_is)
  (case k12 => k_is)
  (case a13 => k_is)
  (case i13 => k_is)
  (case l13 => k_is)
  (case c13 => k_is)
  (case k13 => k_is)
  (case a14 => k_is)
  (case i14 => k_is)
  (case l14 => k_is)
  (case c14 => k_is)
  (case k14 => k_is)
  (case a15 => k_is)
  (case i15 => k_is)
  (case l15 => k_is)
  (case c15 => k_is)
  (case k15 => k_is)
  (case a16 => k_is)
  (case l16 => k_is)
  (case c16 => k_is)
  (case k16 => k_is)
  (case a17 => k_is)
  (case l17 => k_is)
  (case c17 => k_is)
  (case k17 => k_is)
  (case a18 => k_is)
  (case l18 => k_is)
  (case c18 => k_is)
  (case k18 => k_is)
  (case a19 => k_is)
  (case l19 => k_is)
  (case c19 => k_is)
  (case k19 => k_is)
  (case a20 => k_is)
  (case l20 => k_is)
  (case c20 => k_is)
  (case k20 => k_is)
  (case a21 => k_is)
  (case l21 => k_is)
  (case c21 => k_is)
  (case k21 => k_is)
  (case a22 => k_is)
  (case l22 => k_is)
  (case c22 => k_is)
  (case k22 => k_is)
  (case a23 => k_is)
  (case l23 => k_is)
  (case c23 => k_is)
  (case k23 => k_is)
  (case a24 => k_is)
  (case l24 => k_is)
  (case c24 => k_is)
  (case k24 => k_is)
  (case a25 => k_is)
  (case l25 => k_is)
  (case c25 => k_is)
  (case k25 => k_is)
  (case a26 => k_is)
  (case l26 => k_is)
  (case c26 => k_is)
  (case k26 => k_is)
  (case a27 => k_is)
  (case l27 => k_is)
  (case c27 => k_is)
  (case k27 => k_is)
  (case a28 => k_is)
  (case l28 => k_is)
  (case c28 => k_is)
  (case k28 => k_is)
  (case a29 => k_is)
  (case l29 => k_is)
  (case c29 => k_is)
  (case k29 => k_is)
  (case a30 => k_is)
  (case l30 => k_is)
  (case c30 => k_is)
  (case k30 => k_is)
  (case a31 => k_is)
  (case l31 => k_is)
  (case c31 => k_is)
  (case k31 => k_is)
  (case a32 => k_is)
  (case l32 => k_is)
  (case c32 => k_is)
  (case k32 => k_is)
  (case a33 => k_is)
  (case l33 => k_is)
  (case c33 => k_is)
  (case k33 => k_is)
  (case a34 => k_is)
  (case l34 => k_is)
  (case c34 => k_is)
  (case k34 => k_is)
  (case a35 => k_is)
  (case l35 => k_is)
  (case c35 => k_is)
  (case k35 => k_is)
  (case a36 => k_is)
  (case l36 => k_is)
  (case c36 => k_is)
  (case k36 => k_is)
  (case a37 => k_is)
  (case l37 => k_is)
  (case c37 => k_is)
  (case k37 => k_is)
  (case a38 => k_is)
  (case l38 => k_is)
  (case c38 => k_is)
  (case k38 => k_is)
  (case t38 => k_is)
  (case a39 => k_is)
  (case l39 => k_is)
  (case c39 => k_is)
  (case k39 => k_is)
  (case a40 => k_is)
  (case l40 => k_is)
  (case c40 => k_is)
  (case k40 => k_is)
  (case a41 => k_is)
  (case l41 => k_is)
  (case c41 => k_is)
  (case k41 => k_is)
  (case a42 => k_is)
  (case l42 => k_is)
  (case c42 => k_is)
  (case k42 => k_is)
  (case a43 => k_is)
  (case l43 => k_is)
  (case c43 => k_is)
  (case k43 => k_is)
  (case a44 => k_is)
  (case l44 => k_is)
  (case c44 => k_is)
  (case k44 => k_is)
  (case a45 => k_is)
  (case l45 => k_is)
  (case c45 => k_is)
  (case k45 => k_is)
  (case a46 => k_is)
  (case l46 => k_is)
  (case c46 => k_is)
  (case k46 => k_is)
  (case a47 => k_is)
  (case l47 => k_is)
  (case c47 => k_is)
  (case k47 => k_is)
  (case t47 => k_is)
  (case a48 => k_is)
  (case l48 => k_is)
  (case c48 => k_is)
  (case k48 => k_is)
  (case a49 => k_is)
  (case l49 => k_is)
  (case c49 => k_is)
  (case k49 => k_is)
  (case a50 => k_is)
  (case l50 => k_is)
  (case c50 => k_is)
  (case k50 => k_is)
  (case a51 => k_is)
  (case l51 => k_is)
  (case c51 => k_is)
  (case k51 => k_is)
  (case a52 => k_is)
  (case l52 => k_is)
  (case c52 => k_is)
  (case k52 => k_is)
  (case a53 => k_is)
  (case l53 => k_is)
  (case c53 => k_is)
  (case k53 => k_is)
  (case a54 => k_is)
  (case l54 => k_is)
  (case c54 => k_is)
  (case k54 => k_is)
  (case a55 => k_is)
  (case l55 => k_is)
  (case c55 => k_is)
  (case k55 => k_is)
  (case qs_Arrow => k_is)
  (case qr_Arrow => k_is)
  (case qf_Arrow => k_is)
  (case n_Net_arrows => k_is)
  (case n_Arrow_behind => k_is)
  (case n_Ride_behind => k_is)
  (case n_Wait_behind => k_is)
  (case n_Back_behind => k_is)
  (case n_Arrow_goal => k_is)
  (case n_Ride_goal => k_is)
  (case n_Wait_goal => k_is)
  (case n_Back_goal => k_is)
  (case n_Net_names => k_is)
  (case n_Arrow_start => k_is)
  (case n_Ride_start => k_is)
  (case n_Wait_start => k_is)
  (case n_Back_start => k_is)
  (case n_Arrow_time => k_is)
  (case n_Ride_time => k_is)
  (case n_Wait_time => k_is)
  (case n_Back_time => k_is)
  (case ign => k_is)
  (case igt => k_is)
  (case iga_Arrow => k_is)
  (case igm_Arrow => k_is)
  (case kit_Arrow_Back => kit_is)
  (case kit_Arrow_Ride => kit_is)
  (case iga_Ride => k_is)
  (case igm_Ride => k_is)
  (case kit_Ride_Back => kit_is)
  (case kit_Ride_Ride => kit_is)
  (case iga_Wait => k_is)
  (case igm_Wait => k_is)
  (case kit_Wait_Back => kit_is)
  (case kit_Wait_Ride => kit_is)
  (case iga_Back => k_is)
  (case igm_Back => k_is)
  (case kit_Back_Back => kit_is)
  (case kit_Back_Ride => kit_is)
  (case iga_Net => k_is)
  (case igm_Net => k_is)
  (case kit_Net_Back => kit_is)
  (case kit_Net_Ride => kit_is)
  (case z0 => k_is)
  (case z1 => k_is)
  (case z2 => k_is)
  (case z3 => k_is)
  (case z4 => k_is)
  (case z5 => k_is)
  (case z6 => k_is)
  (case z7 => k_is)
  (case z8 => k_is)
  (case z9 => k_is)
  (case z10 => k_is)
  (case z11 => k_is)
  (case z12 => k_is)
  (case z13 => k_is)
  (case z14 => k_is)
  (case gc0 => k_is)
  (case gc1 => k_is)
  (case gc2 => k_is)
  (case gc3 => k_is)
  (case gc4 => k_is)
