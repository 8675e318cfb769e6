import PyProof.Rows.All
import Wide.All
import OpenK.AllK
import Wide.FinOn
import Lean
import PyProof.EqAt
import PyProof.EqKinds
import PyProof.TupleCall
import PyProof.ExcClass3
import PyProof.ExcBaseAll.ValueError
import KE.KTryMore
import PyProof.FString2
import KE.KDictList
import PyProof.StrCalls
import PyProof.StrBlock2
import PyProof.StrBlockI
import PySem.Challenge.RW_ringbeat_k43_whole_least_again
set_option Elab.async false
set_option linter.all false
set_option maxRecDepth 100000
open Array renaming length_toList→dJ,getElem?_toList→m5,append_assoc→oA
open Bool renaming false_ne_true→aN,and_eq_true→bt,false_eq_true→dr,not_eq_true→kC,or_eq_false_iff→nO
open Int renaming toNat_natCast→km,emod_nonneg→lE,fdiv_eq_ediv_of_nonneg→lT,le_refl→oB,toNat_of_nonneg→oU,emod_lt_of_pos→pH
open List renaming mem_cons_self→ai,range→ak,mem_cons_of_mem→ao,mem_range→aA,mem_cons→aC,mem_append_right→aF,replicate→aI,size_toArray→aK,length_cons→aM,mem_filter→aS,length_range→aW,getElem?_eq_some_iff→aX,lookup_cons→aY,map_cons→bi,length_map→bj,all_eq_true→bp,mem_singleton→br,Nodup→bu,nodup_append→bv,length_append→bw,mem_append→bz,mem_append_left→bF,getElem?_map→bI,nodup_nil→bL,not_mem_nil→bN,append_nil→bT,nodup_cons→bU,getElem?_append_left→cv,replicate_succ→cw,map_map→cK,find?_cons→cM,length_replicate→cO,all_cons→cQ,mem_iff_getElem→cR,mem_iff_getElem?→dw,getElem?_range→dL,foldl_cons→dW,flatten_cons→dZ,getElem?_append_right→ek,getElem?_set_ne→el,mem_map→eA,map_congr_left→eD,getElem_range→eI,zip_cons_cons→eJ,getElem?_replicate→eM,append_assoc→eS,reverse_cons→eU,any_eq_true→fm,countP_cons→fq,ext_getElem→fu,any_cons→fE,eq_nil_of_length_eq_zero→fG,lookup→fH,take_append_of_le_length→fI,forIn_cons→fO,length_zip→fP,of_mem_zip→fQ,countP_append→gj,getElem?_eq_getElem→gF,getElem_map→gL,length_take→gM,nodup_range→gN,filter_eq_nil_iff→hJ,getElem?_set_self→hU,take_of_length_le→hV,length_singleton→ip,forIn_nil→iJ,length→iK,mem_of_mem_take→iL,filterMap_cons→i7,findIdx?_cons→jL,foldl_append→jV,map_nil→jW,eraseIdxIfInBounds_toArray→kn,getElem_inj→kD,getElem_set→kE,zipIdx_cons→kF,map_const'→kS,mem_zipIdx_iff_getElem?→kT,perm_ext_iff_of_nodup→lL,drop_eq_getElem_cons→lU,append_cancel_left→mS,eraseIdx_cons_succ→mT,filter_cons_of_neg→mU,filter_cons_of_pos→mV,length_eq_zero_iff→mW,drop_eq_nil_of_le→m7,drop_of_length_le→m8,countP_singleton→nE,length_filter_le→nF,getElem_toArray→nP,length_reverse→oC,contains_cons→oV,find?_eq_none→oW,foldl→oX,mem_filterMap→oY,getElem_take→pI,filter_cons→pX,length_drop→pY,take_left'→rJ,find?_some→rK,length_set→rL,map_append→rM,zipIdx_nil→rN,zip_append→rO,contains→tR
open Nat renaming le_refl→aE,ne_of_lt→aR,lt_of_lt_of_le→aV,le_trans→cu,zero_le→dP,lt_irrefl→dY,lt_succ_of_lt→ed,pow_le_pow_right→et,ne_of_gt→gd,lt_succ_self→gX,le_of_lt→ko,le_of_succ_le→kr,min_self→ku,le_succ→kU,log2_lt→kW,min_eq_left→lF,mod_lt→lV,sub_zero→nG,lt_of_le_of_lt→pJ,min_eq_right→rP,strongRecOn→si
open Option renaming bind_some→ce,map_eq_some_iff→dh,isSome_iff_exists→lM,isSome_map→oE,getD_none→oZ,map_some→pK
open PyProof.Rows renaming callWith_type1→bJ,boot_zip→kL
open PySem renaming Value→ae,Addr→af,Shared→aj,starEach→aq,wpAny_bind→av,mainGlobals→aw,Heap→aG,FuncData→aH,Str→aL,wpAny→aQ,model→aU,NameKind→aZ,Program→ba,wpAny_pure→bc,eval→bq,Around→bD,PyData→bH,World→bM,Stmt→bP,keywordEach→bS,PassesOwn→bW,bootBuiltins→bX,backTo→cj,Pos→cx,strIterType→cA,compareOp→cB,assignEach→cD,backToKw→cH,sizeLine_eq→cI,wpAny_Call_Name_kw→cV,Builtin→dc,attributeBase→de,foldedSetIterable→dm,swapsWith→dn,Obj→dq,behindInMarks→dz,binaryOp→dF,wpAny_truthy_bool→dM,Keyword→dQ,holding→d7,sysModules→d8,wpAny_mono→d9,wpAny_passesOwn→ej,Scope→eY,wpAny_pyIter_list→fF,getMethod→fR,standAt→fW,sliceBounds→gh,assign→gm,letOwnedTupleGo→gp,codeAny→gC,call_meets→gI,Operator→iC,cLine→iD,callWith→iE,wpAny_pyIter_zip→iF,codeAny_mono→iV,wpAny_execs_nil→i8,newFunctionEnv→jT,BindsTo→jX,tupleKind→jY,CmpOp→kG,swappedStores→kH,swapsWithSole→kI,wpAny_standAt→kJ,tupleKind_room_in1→kM,callerA→lG,seqIndex_neg→lH,seqIndex_of→my,Sem→m9,setItem→nc,valueAt→ng,closureFor→nH,compEnvC→nI,compPost→nJ,Data→oF,wpAny_holding→oG,atKey→o7,bindC→o8,bindL→o9,Code→pL,concat_meets→pM,isTrue→pN,builtinsNs→tS,typeIs_int→tT,wpAny_Name→tU
open PySem.Heap renaming get?_push_of_some→am,lt_size→aB,get?_push_size→aT,size_push→cJ,SameBut→ez,IsList→gB,get?_update_other→m6,get?_update_self→nD
open PySem.W renaming Frag→aa,keepIn→ar,findIn→ax,nsIn→ay,codeIn→az,mg_of→aD,kitOne→bK,mg_none_of→bQ,kia_one→cp,emptyDict→cE,hasDictIn→cF,plainGet→cN,specialIn→cT,isFn→dg,instObj→dA,makesIn→dB,plainOver→dD,mroIn→dG,methodCall_KW→eW,fnOf→fM,callWith_K→fT,cellsFrom_some→gJ,findCls→gO,readsIn→gP,takesIn→gQ,lookIn→ik,plainGet_of→iG,kitx_list→jF,methodObj→jG,OpenLaw→kx,takerIn→ky,kitx_dict→nQ,handedIn→oH,binds_K→pd,WalkO→pZ
namespace L2
open PySem PySem.Spec PyProof.Rows
abbrev eo:=Sum Int aL
def mj:eo->ae->Bool
 |.inl k,v=>ae.isInt k v
 |.inr x,v=>ae.isStrOf x v
def Jr (w:bM):eo->Int
 |.inl k=>hashInt k
 |.inr x=>hashStr w x
theorem wx:∀{k:eo} {v:ae},mj k v=true->(∃i t,k=Sum.inl i/\v=ae.int i t)\/(∃x t,k=Sum.inr x/\v=ae.str x t)
 |.inl i,v,h=>by
  obtain⟨t,e⟩:=ae.isInt_shape (k:=i) (v:=v) h
  exact .inl ⟨i,t,rfl,e⟩
 |.inr x,v,h=>by
  obtain⟨t,e⟩:=ae.isStrOf_shape (x:=x) (v:=v) h
  exact .inr ⟨x,t,rfl,e⟩
theorem We (i:Int)(t:Tok):mj (.inl i) (.int i t)=true:=by simp[mj,ae.isInt]
theorem Wf (x:aL)(t:Tok):mj (.inr x) (.str x t)=true:=by simp[mj,ae.isStrOf]
theorem Zt (a b:Int):decide ((Sum.inl a:eo)=Sum.inl b)=(a==b):=by
 by_cases e:a=b
 ·subst e;simp
 ·have h:¬(Sum.inl a:eo)=Sum.inl b:=λq=>e (Sum.inl.inj q)
  rw[decide_eq_false h]
  exact(beq_eq_false_iff_ne.mpr e).symm
theorem Zu (a b:aL):decide ((Sum.inr a:eo)=Sum.inr b)=decide (a=b):=by
 by_cases e:a=b
 ·subst e;simp
 ·have h:¬(Sum.inr a:eo)=Sum.inr b:=λq=>e (Sum.inr.inj q)
  rw[decide_eq_false h,decide_eq_false e]
theorem Zv (a:Int)(b:aL):decide ((Sum.inl a:eo)=Sum.inr b)=false:=decide_eq_false (λq=>nomatch q)
theorem Zw (a:aL)(b:Int):decide ((Sum.inr a:eo)=Sum.inl b)=false:=decide_eq_false (λq=>nomatch q)
def dO (prog:ba)(w:bM):PySem.KeyKind prog w eo where
 is:=mj
 hash:=Jr w
 inj:=λv a b ha hb=>by
  rcases wx ha with⟨i,t,rfl,rfl⟩|⟨x,t,rfl,rfl⟩
  ·rcases wx hb with⟨j,u,rfl,e⟩|⟨y,u,rfl,e⟩
   ·injection e with e1 _;rw[e1]
   ·exact nomatch e
  ·rcases wx hb with⟨j,u,rfl,e⟩|⟨y,u,rfl,e⟩
   ·exact nomatch e
   ·injection e with e1 _;rw[e1]
 byValue:=λk v h=>by
  rcases wx h with⟨i,t,rfl,rfl⟩|⟨x,t,rfl,rfl⟩<;>rfl
 pyHash:=λhv h=>by
  rcases wx hv with⟨i,t,rfl,rfl⟩|⟨x,t,rfl,rfl⟩
  ·exact wpAny_pyHash_int h
  ·exact wpAny_pyHash_str h
 eqBool:=λhu hv h=>by
  rcases wx hu with⟨i,t,rfl,rfl⟩|⟨x,t,rfl,rfl⟩
  ·rcases wx hv with⟨j,u,rfl,rfl⟩|⟨y,u,rfl,rfl⟩
   ·rw[Zt]at h;exact wpAny_eqBool_int h
   ·rw[Zv]at h;exact SeqAt.EqAt.int_str i t y u _ _ _ _ h
  ·rcases wx hv with⟨j,u,rfl,rfl⟩|⟨y,u,rfl,rfl⟩
   ·rw[Zw]at h;exact SeqAt.EqAt.str_int x t j u _ _ _ _ h
   ·rw[Zu]at h;exact wpAny_eqBool_str h
 «strs»:=λk x t v h=>by
  rcases wx h with⟨i,u,rfl,e⟩|⟨y,u,rfl,e⟩
  ·exact nomatch e
  ·injection e with e1 _
   subst e1
   cases v<;>rfl
theorem VD (prog:ba)(w:bM)(i:Int)(t:Tok):(dO prog w).is (.inl i) (.int i t)=true:=We i t
theorem VE (prog:ba)(w:bM)(x:aL)(t:Tok):(dO prog w).is (.inr x) (.str x t)=true:=Wf x t
end L2
namespace L2
open PySem PySem.Spec PyProof.Rows
inductive V where
 |non|bl (b:Bool)|int (i:Int)|str (x:aL)|byt (b:Array UInt8)|flt (b:UInt64)|ref (a:af)|ty (n:String)
 deriving DecidableEq
def RelV:V->ae->Prop
 |.non,u=>u=ae.none
 |.bl b,u=>u=ae.bool b
 |.int i,u=>∃t,u=ae.int i t
 |.str x,u=>∃t,u=ae.str x t
 |.byt b,u=>∃t,u=ae.bytes b t
 |.flt b,u=>∃t,u=ae.float b t
 |.ref a,u=>u=ae.ref a
 |.ty n,u=>u=ae.type n
abbrev bB:List V->List ae->Prop:=Paired RelV
theorem bB.length {xs:List V}{us:List ae}(r:bB xs us):xs.length=us.length:=Paired.length r
theorem bB.get:∀{xs:List V} {us:List ae} {i:Nat} {x:V},bB xs us->xs[i]?=some x->∃u,us[i]?=some u/\RelV x u
 |_,_,_,_,.nil,e=>by simp at e
 |_,_,0,_,.cons r _,e=>by simp at e;subst e;exact⟨_,rfl,r⟩
 |_,_,i+1,x,.cons _ t,e=>by
  obtain⟨u,h1,h2⟩:=bB.get (i:=i) (x:=x) t (by simpa using e)
  exact⟨u,by simpa using h1,h2⟩
theorem bB.set {x:V}{u:ae}(r:RelV x u):∀{xs:List V} {us:List ae} (i:Nat),bB xs us->bB (xs.set i x) (us.set i u)
 |_,_,_,.nil=>.nil
 |_,_,0,.cons _ t=>.cons r t
 |_,_,i+1,.cons q t=>.cons q (bB.set r i t)
theorem bB.append:∀{xs ys:List V} {us ws:List ae},bB xs us->bB ys ws->bB (xs++ys) (us++ws)
 |_,_,_,_,.nil,s=>s
 |_,_,_,_,.cons r t,s=>.cons r (bB.append t s)
theorem bB.take:∀{xs:List V} {us:List ae} (n:Nat),bB xs us->bB (xs.take n) (us.take n)
 |_,_,0,_=>.nil
 |_,_,_+1,.nil=>.nil
 |_,_,n+1,.cons r t=>.cons r (bB.take n t)
theorem bB.drop:∀{xs:List V} {us:List ae} (n:Nat),bB xs us->bB (xs.drop n) (us.drop n)
 |_,_,0,r=>r
 |_,_,_+1,.nil=>.nil
 |_,_,n+1,.cons _ t=>bB.drop n t
def iM:Option V->Option ae->Prop
 |some v,some u=>RelV v u
 |none,none=>True
 |_,_=>False
def KV {κ:Type}:List (κ×V)->List (κ×ae)->Prop:=Paired λ(p:κ×V) (q:κ×ae)=>p.1=q.1/\RelV p.2 q.2
def kV:eo->V
 |.inl i=>.int i
 |.inr x=>.str x
inductive HO where
 |lst (xs:List V)
 |tup (xs:List V)
 |dK (ck:List (eo×V))|dT (ck:List (List eo×V))
 |set (S:Int->Bool) (n:Nat)
 |ins (C dx:af) (fs:List (aL×V))
 |own (x:af)
 |xd (fs:List (aL×V))
 |met (f x:af)
 |rng (lo hi:Int)
 |frz (o:dq) (u:HO)
 |tbl (ps:Array ae)
 |ext (φ:aG->Prop)
abbrev Hp:=af->Option HO
def upd (H:Hp)(a:af)(o:HO):Hp:=λb=>if b=a then some o else H b
theorem yb {H:Hp}{a:af}{o:HO}:upd H a o a=some o:=by unfold upd;rw[if_pos rfl]
theorem zx {H:Hp}{a b:af}{o:HO}(h:b≠a):upd H a o b=H b:=by unfold upd;rw[if_neg h]
theorem zsu {H:Hp}{a b:af}{o u:HO}(h:H a=some o)(h':H b=some u)(d:o≠u):a≠b:=by
 intro e;subst e;rw[h]at h';exact d (Option.some.inj h')
theorem xb {H:Hp}{a b:af}{o:HO}(h:H a=some o)(h':H b=none):a≠b:=by
 intro e;subst e;rw[h]at h';cases h'
section
variable (P:ba)(w:bM)
def dE (H:Hp)(h:aG)(a:af):HO->Prop
  |.lst xs=>xs.length<=sizeLine/\∃(bZ:List ae) (n:Nat),bB xs bZ/\h.get? a=some { cls:=.type "list",data:=.seq bZ.toArray n }
  |.tup xs=>xs.length<=sizeLine/\∃bZ:List ae,bB xs bZ/\IsTup h a bZ.toArray
  |.dK ck=>ck.length<=sizeLine/\(a==d8)=false/\∃vs,KV ck vs/\h.DictOf (dO P w) a vs
  |.dT ck=>ck.length<=sizeLine/\(a==d8)=false/\∃xs:List (List eo×af×ae),
      Paired (λ(p:List eo×V) (q:List eo×af×ae)=>p.1=q.1/\H q.2.1=some (.tup (p.1.map kV))/\RelV p.2 q.2.2) ck xs /\
      ∃o es ep,h.get? a=some o/\o.ExactDict/\o.data=.dict es ep/\es.toList=xs.map (entryOfKey (jY (dO P w)))/\(xs.map (·.1)).Nodup
  |.set S n=>h.SetOf (intKind P w) a S n
  |.ins C dx fs=>H dx=some (.own a)/\fs.length<=1000/\dx≠a/\h.get? a=some (dA C dx) /\
      ∃mA,h.Ns1 dx mA/\(∀f,iM (fs.lookup f) (mA f))/\PySem.Within mA (fs.map (·.1))
  |.own _=>∃o,h.get? a=some o
  |.xd fs=>∃mA,h.Ns1 a mA/\∀f,iM (fs.lookup f) (mA f)
  |.rng lo hi=>∃t u v,h.get? a=some { cls:=.type "range",data:=.fields #[.int lo t,.int hi u,.int 1 v] }
  |.frz o u=>h.get? a=some o/\dE H h a u
  |.tbl ps=>h.get? a=some { cls:=.none,data:=.fields ps }
  |.met f x=>h.get? a=some (jG (.ref f) (.ref x))
  |.ext φ=>φ h/\(∃o,h.get? a=some o)/\∀h1 h2:aG,φ h1->(∀o,h1.get? a=some o->h2.get? a=some o)->φ h2
def jH (H:Hp)(h:aG):Prop:=∀a o,H a=some o->dE P w H h a o
end
section
variable {P:ba}{w:bM}{H H':Hp}{h h':aG}{a:af}{o:HO}
theorem dE.lt (x:dE P w H h a o):a<h.objs.size:=by
 cases o with
 |lst xs=>obtain⟨_,_,_,_,e⟩:=x;exact aB e
 |tup xs=>obtain⟨_,_,_,p⟩:=x;exact p.lt
 |dK ck=>obtain⟨_,_,_,_,o,_,_,e,_⟩:=x;exact aB e
 |dT ck=>obtain⟨_,_,_,_,o,_,_,e,_⟩:=x;exact aB e
 |set S n=>obtain⟨o,_,_,_,e,_⟩:=x;exact aB e
 |ins C dx fs=>obtain⟨_,_,_,e,_⟩:=x;exact aB e
 |own y=>obtain⟨_,e⟩:=x;exact aB e
 |xd fs=>obtain⟨_,⟨_,_,_,e,_⟩,_⟩:=x;exact aB e
 |rng lo hi=>obtain⟨_,_,_,e⟩:=x;exact aB e
 |frz ob u=>obtain⟨e,_⟩:=x;exact aB e
 |tbl ps=>exact aB (show h.get? a=some _ from x)
 |met f y=>exact aB (show h.get? a=some _ from x)
 |ext φ=>obtain⟨_,⟨_,e⟩,_⟩:=x;exact aB e
theorem Paired.mapP {α β:Type}{F G:α->β->Prop}:∀{l₁:List α} {l₂:List β},Paired F l₁ l₂->(∀a b,F a b->G a b)->Paired G l₁ l₂
 |_,_,.nil,_=>.nil
 |_,_,.cons r t,f=>.cons (f _ _ r) (Paired.mapP t f)
theorem dE.stay (x:dE P w H h a o)(k:∀b u,(b=a\/H b=some (.own a))->h.get? b=some u->h'.get? b=some u)
    (ho:∀b,H b=some (.own a)->H' b=some (.own a)) (ht:∀b xs,H b=some (.tup xs)->H' b=some (.tup xs)):dE P w H' h' a o:=by
  induction o with
  |lst xs=>obtain⟨z,bZ,n,r,e⟩:=x;exact⟨z,bZ,n,r,k _ _ (.inl rfl) e⟩
  |tup xs=>obtain⟨z,bZ,r,ob,e,c⟩:=x;exact⟨z,bZ,r,ob,k _ _ (.inl rfl) e,c⟩
  |dK ck=>obtain⟨z,y,vs,r,ob,es,ep,e,c⟩:=x;exact⟨z,y,vs,r,ob,es,ep,k _ _ (.inl rfl) e,c⟩
  |dT ck=>
    obtain⟨z,y,xs,r,ob,es,ep,e,c⟩:=x
    exact⟨z,y,xs,Paired.mapP r λp q z=>⟨z.1,ht _ _ z.2.1,z.2.2⟩,ob,es,ep,k _ _ (.inl rfl) e,c⟩
  |set S n=>obtain⟨ob,es,ep,t,e,c⟩:=x;exact⟨ob,es,ep,t,k _ _ (.inl rfl) e,c⟩
  |ins C dx fs=>
    obtain⟨d,z,ne,e,mA,⟨od,es,ep,e2,c⟩,r⟩:=x
    exact⟨ho _ d,z,ne,k _ _ (.inl rfl) e,mA,⟨od,es,ep,k _ _ (.inr d) e2,c⟩,r⟩
  |own y=>obtain⟨ob,e⟩:=x;exact⟨ob,k _ _ (.inl rfl) e⟩
  |xd fs=>obtain⟨mA,⟨od,es,ep,e,c⟩,r⟩:=x;exact⟨mA,⟨od,es,ep,k _ _ (.inl rfl) e,c⟩,r⟩
  |rng lo hi=>obtain⟨t,u,v,e⟩:=x;exact⟨t,u,v,k _ _ (.inl rfl) e⟩
  |frz ob u ih=>obtain⟨e,q⟩:=x;exact⟨k _ _ (.inl rfl) e,ih q⟩
  |tbl ps=>
    have e:h.get? a=some { cls:=.none,data:=.fields ps }:=x
    show h'.get? a=some { cls:=.none,data:=.fields ps }
    exact k a _ (.inl rfl) e
  |met f y=>
    have e:h.get? a=some (jG (.ref f) (.ref y)):=x
    show h'.get? a=some (jG (.ref f) (.ref y))
    exact k a _ (.inl rfl) e
  |ext φ=>obtain⟨p,⟨o,e⟩,st⟩:=x;exact⟨st _ _ p λo q=>k _ _ (.inl rfl) q,⟨o,k _ _ (.inl rfl) e⟩,st⟩
theorem jH.lt (x:jH P w H h)(e:H a=some o):a<h.objs.size:=(x a o e).lt
theorem jH.fresh (x:jH P w H h)(e:h.objs.size<=a):H a=none:=by
 cases q:H a with
 |none=>rfl
 |some u=>exact absurd (aV (x.lt q) e) (dY _)
theorem jH.kept (x:jH P w H h)(k:∀b u,h.get? b=some u->h'.get? b=some u):jH P w H h':=λa o e=>
 (x a o e).stay (λb u _ q=>k b u q) (λ_ q=>q) λ_ _ q=>q
theorem jH.laid (x:jH P w H h)(k:∀b u,h.get? b=some u->h'.get? b=some u)(hp:h.objs.size<=a)(new:dE P w (upd H a o) h' a o):jH P w (upd H a o) h':=λb u e=>by
 have hn:=x.fresh hp
 by_cases hb:b=a
 ·subst hb;rw[yb]at e;cases e;exact new
 ·rw[zx hb]at e
  exact(x b u e).stay (λc v _ q=>k c v q) (λc q=>by rw[zx (xb q hn)];exact q) λc xs q=>by rw[zx (xb q hn)];exact q
end
def Rd (H:Hp)(a:af)(u:HO):Prop:=H a=some u\/∃o,H a=some (.frz o u)
theorem Rd.ok {P:ba}{w:bM}{H:Hp}{h:aG}{a:af}{u:HO}(r:Rd H a u)(x:jH P w H h):dE P w H h a u:=by
 rcases r with r|⟨o,r⟩
 ·exact x a u r
 ·obtain⟨_,q⟩:=x a _ r
  exact q
def zZ:Option HO->Prop
 |some (.lst _)=>True
 |some (.dK _)=>True
 |some (.dT _)=>True
 |some (.set _ _)=>True
 |some (.ins _ _ _)=>True
 |some (.ext _)=>True
 |_=>False
section
variable {P:ba}{w:bM}{H:Hp}{h h':aG}{x e:af}{o':HO}
theorem jH.write (ok:jH P w H h)(mu:zZ (H x))(he:e=x\/H e=some (.own x))(k:∀b u,b≠e->h.get? b=some u->h'.get? b=some u)(yY:∃u,h'.get? e=some u)
  (new:dE P w (upd H x o') h' x o'):jH P w (upd H x o') h':=λb u q=>by
 have Dz:∀c y,H c=some (.own y)->c≠x:=λc y r z=>by subst z;rw[r]at mu;exact mu
 have Jw:∀c xs,H c=some (.tup xs)->c≠x:=λc xs r z=>by subst z;rw[r]at mu;exact mu
 by_cases hb:b=x
 ·subst hb;rw[yb]at q;cases q;exact new
 ·rw[zx hb]at q
  by_cases wV:b=e
  ·have q':H b=some (.own x):=by
    rcases he with z|z
    ·exact absurd (wV.trans z) hb
    ·rw[wV];exact z
   rw[q]at q';cases q'
   obtain⟨v,hv⟩:=yY
   exact⟨v,by rw[wV];exact hv⟩
  ·refine(ok b u q).stay (λc v hc r=>k c v ?_ r) (λc r=>by rw[zx (Dz c b r)];exact r) λc xs r=>by rw[zx (Jw c xs r)];exact r
   rcases hc with rfl|hc
   ·exact wV
   ·rintro rfl
    rcases he with z|z
    ·exact Dz c b hc z
    ·rw[hc]at z;cases z;exact hb rfl
end
structure Un (fs ex:List af)(H H':Hp)(h h':aG):Prop where
 keep:∀b o,h.get? b=some o->H b=none->b∉fs->b∉ex->h'.get? b=some o
 slot:∀b o,h.get? b=some o->H b=none->b∈fs->b∉ex->∃sl,h'.get? b=some { o with slots:=sl }
 free:∀b o,h.get? b=some o->H b=none->b∉ex->H' b=none
 there:∀b o,h.get? b=some o->b∉ex->∃o',h'.get? b=some o'
 tups:∀b xs,H b=some (.tup xs)->H' b=some (.tup xs)
 frzs:∀b o u,H b=some (.frz o u)->H' b=some (.frz o u)
 tbls:∀b ps,H b=some (.tbl ps)->∃more,H' b=some (.tbl (ps++more))
section
variable {fs QU ex ex':List af}{H H1 H2:Hp}{h h1 h2 h':aG}{a x e:af}{o:HO}
theorem Un.any (u:Un fs ex H H1 h h1){b:af}{ob:dq}(q:h.get? b=some ob)(n:H b=none)(hx:b∉ex):∃sl,h1.get? b=some { ob with slots:=sl }:=by
 by_cases hb:b∈fs
 ·exact u.slot b ob q n hb hx
 ·exact⟨ob.slots,u.keep b ob q n hb hx⟩
theorem Un.kept (k:∀b u,h.get? b=some u->h'.get? b=some u):Un fs ex H H h h' :=
 ⟨λb ob q _ _ _=>k b ob q,λb ob q _ _ _=>⟨ob.slots,k b ob q⟩,λ_ _ _ n _=>n,λb ob q _=>⟨ob,k b ob q⟩,λ_ _ q=>q,λ_ _ _ q=>q,λ_ ps q=>⟨#[],by rw[q];simp⟩⟩
theorem Un.refl:Un fs ex H H h h:=Un.kept λ_ _ q=>q
theorem Un.laid (k:∀b u,h.get? b=some u->h'.get? b=some u)(hp:h.objs.size<=a)(hn:H a=none):Un fs ex H (upd H a o) h h' where
 keep:=λb u q _ _ _=>k b u q
 slot:=λb u q _ _ _=>⟨u.slots,k b u q⟩
 free:=λb u q n _=>by rw[zx (aR (aV (aB q) hp))];exact n
 there:=λb u q _=>⟨u,k b u q⟩
 tups:=λb xs q=>by rw[zx (xb q hn)];exact q
 frzs:=λb u xs q=>by rw[zx (xb q hn)];exact q
 tbls:=λb ps q=>⟨#[],by rw[zx (xb q hn),q];simp⟩
theorem Un.write (mu:zZ (H x))(he:e=x\/H e=some (.own x))(k:∀b u,b≠e->h.get? b=some u->h'.get? b=some u)(yY:∃u,h'.get? e=some u):Un fs ex H (upd H x o) h h':=by
 have hx:∀b,H b=none->b≠x:=λb n z=>by subst z;rw[n]at mu;exact mu
 have hb:∀b,H b=none->b≠e:=λb n z=>by
  subst z
  rcases he with r|r
  ·exact hx b n r
  ·rw[n]at r;cases r
 have hm:∀b u,H b=some u->¬zZ (some u)->b≠x:=λb u q nm z=>by subst z;rw[q]at mu;exact nm mu
 refine⟨λb u q n _ _=>k b u (hb b n) q,λb u q n _ _=>⟨u.slots,k b u (hb b n) q⟩,λb u q n _=>by rw[zx (hx b n)];exact n,λb u q _=>?_,
  λb xs q=>by rw[zx (hm b _ q λz=>z)];exact q,λb u xs q=>by rw[zx (hm b _ q λz=>z)];exact q,λb ps q=>⟨#[],by rw[zx (hm b _ q λz=>z),q];simp⟩⟩
 by_cases wV:b=e
 ·subst wV;exact yY
 ·exact⟨u,k b u wV q⟩
end
def FN (h:aG)(H:Hp):List af:=(ak h.objs.size).filter λa=>(H a).isSome
def mI (h:aG)(H:Hp):aG:=PySem.W.hideAll h (FN h H)
theorem VN (h:aG)(H:Hp):(mI h H).objs.size=h.objs.size:=PySem.W.hideAll_size _ _
theorem W1 {h:aG}{H:Hp}{b:af}{o:dq}(e:h.get? b=some o)(n:H b=none):(mI h H).get? b=some o :=
 PySem.W.hideAll_get _ e λhm=>by
  have q:(H b).isSome=true:=(aS.mp hm).2
  rw[n]at q;simp at q
theorem XN {h:aG}{H:Hp}{b:af}{o:dq}(e:(mI h H).get? b=some o):h.get? b=some o/\H b=none:=by
 have e':h.get? b=some o:=PySem.W.of_hideAll (FN h H) e
 refine⟨e',?_⟩
 cases q:H b with
 |none=>rfl
 |some x=>
  have hm:b∈FN h H:=aS.mpr ⟨aA.mpr (aB e'),by simp[q]⟩
  have z:(mI h H).get? b=none:=PySem.W.hideAll_none (FN h H) hm
  rw[z]at e;cases e
def su (g h:aG)(L:af):List (af×dq):=(ak h.objs.size).filterMap λa=>if a=L\/(g.get? a).isSome=true then none else(h.get? a).map λo=>(a,o)
def rest (g h:aG)(L d:af):List (af×dq):=(su g h L).filter λp=>decide (p.1≠d)
end L2
namespace L2
open PySem PySem.Spec PyProof.Rows
structure Mod (K:aa)(mg:aL->Option ae)(base:aG):Prop where
 kin:K.In base
 glob:base.Ns aw mg
 blt:∃mb,base.Ns tS mb/\∀x:aL,x≠"__name__"->mb x=bX x
 nolimit:base.NoLimit
structure Cx where
 prog:ba
 w:bM
 K:aa
 mg:aL->Option ae
 base:aG
 A:bD
 N:List aL
 s₀:aj
 H₀:Hp
 env:Env
 outer:List Env
 stack:List Env
 ex:List af
 fn:aL->Bool
 calm:Bool
 pn:List (af×dq)
 xe:ae->aj->Prop
def qC (l:List Env):List af:=l.filterMap (·.frame)
abbrev Cx.fs (X:Cx):List af:=qC X.outer
def nw (sc:eY)(x:aL):Prop:=sc.names.lookup x=some .local\/sc.names.lookup x=some .cell\/sc.names.lookup x=some .free
def Loc (sc:eY)(x:aL):Prop:=sc.names.lookup x=some .local\/sc.names.lookup x=some .cell
def Look (env:Env)(h:aG)(m:aL->Option ae)(x:aL)(u:ae):Prop :=
 (env.kindOf x=some .local/\m x=some u)\/((env.kindOf x=some .cell\/env.kindOf x=some .free)/\∃c,env.cells.lookup x=some c/\h.IsCell c (some u))
structure Cx.Ok (X:Cx):Prop where
 mod:Mod X.K X.mg X.base
 kind:X.env.scope.kind=.function
 glob:X.env.globals=aw
 blt:X.env.builtins=tS
 above:X.s₀.heap.objs.size<=X.env.locals
 inj:∀x y c,X.env.cells.lookup x=some c->X.env.cells.lookup y=some c->x=y
 has:∀x,(X.env.kindOf x=some .cell\/X.env.kindOf x=some .free)->∃c,X.env.cells.lookup x=some c
 cab:∀x c,X.fn x=true->X.env.cells.lookup x=some c->X.s₀.heap.objs.size<=c
 hd:X.calm=true->X.A.handled=none
 frames:X.A.frames=some X.stack
 stk:X.stack=X.outer\/(X.stack=X.env::X.outer/\X.env.frame=some X.env.locals)
 exf:∀b∈X.ex,b≠X.env.locals/\∀x c,X.env.cells.lookup x=some c->c≠b
 bs:∀b o,X.base.get? b=some o->X.s₀.heap.get? b=some o/\X.H₀ b=none
 bsz:X.base.objs.size<=X.s₀.heap.objs.size
 noex:∀b o,X.base.get? b=some o->b∉X.ex
 exfs:∀b∈X.ex,b∉X.fs
 funs:X.s₀.heap.FunFrames X.base X.outer
 frf:∀b∈X.fs,X.H₀ b=none
structure Inv (X:Cx)(ah:List (af×dq))(σ:List (Option V))(H:Hp)(s:aj):Prop where
 ok:X.Ok
 os:s.os=X.s₀.os
 bare:AllBare s.gens
 base:Un X.fs X.ex X.H₀ H X.s₀.heap s.heap
 loc:∃m,s.heap.Ns X.env.locals m/\∀(i:Nat) (x:aL) (v:V),X.N[i]?=some x->σ[i]?=some (some v)->nw X.env.scope x->∃u,RelV v u/\Look X.env s.heap m x u
 cell:∀x c,X.env.cells.lookup x=some c->∃v,s.heap.IsCell c v
 free:H X.env.locals=none
 freeC:∀x c,X.env.cells.lookup x=some c->H c=none
 pin:∀p∈X.pn++ah,s.heap.get? p.1=some p.2/\H p.1=none/\p.1≠X.env.locals/\p.1∉X.fs/\∀v,p.2.data≠.cell v
 hok:jH X.prog X.w H s.heap
 len:σ.length=X.N.length
section
variable {X:Cx}{ah:List (af×dq)}{σ:List (Option V)}{H H':Hp}{s:aj}{h':aG}
theorem Cx.Ok.nofr (ok:X.Ok){b:af}{o:dq}(e:X.base.get? b=some o):b∉X.fs:=λhb=>by
 have:=(ok.funs.mem hb).1
 rw[e]at this;cases this
theorem Inv.bs (I:Inv X ah σ H s):∀b o,X.base.get? b=some o->s.heap.get? b=some o/\H b=none:=λb o e=>
 ⟨I.base.keep b o (I.ok.bs b o e).1 (I.ok.bs b o e).2 (I.ok.nofr e) (I.ok.noex b o e),I.base.free b o (I.ok.bs b o e).1 (I.ok.bs b o e).2 (I.ok.noex b o e)⟩
theorem Inv.bk (I:Inv X ah σ H s):∀b o,X.base.get? b=some o->s.heap.get? b=some o:=λb o e=>(I.bs b o e).1
theorem Inv.mod (I:Inv X ah σ H s):Mod X.K X.mg X.base:=I.ok.mod
theorem Inv.kIn (I:Inv X ah σ H s):X.K.In s.heap:=I.ok.mod.kin.keeps I.bk
theorem Inv.fr (I:Inv X ah σ H s):∃m,Fr X.base X.env.locals s.heap m :=
 let⟨m,hn,_⟩:=I.loc
 ⟨m,hn,I.bk,cu I.ok.bsz I.ok.above⟩
theorem Inv.lt (I:Inv X ah σ H s):X.env.locals<s.heap.objs.size:=let⟨_,hn,_⟩:=I.loc;hn.lt
theorem Inv.sz (I:Inv X ah σ H s):X.s₀.heap.objs.size<=s.heap.objs.size:=cu I.ok.above (ko I.lt)
theorem Inv.nofs (I:Inv X ah σ H s){a:af}(h:s.heap.objs.size<=a):a∉X.fs:=λhb=>by
 obtain⟨_,o,ho,_⟩:=I.ok.funs.mem hb
 exact absurd (aV (aB ho) (cu I.sz h)) (dY _)
theorem Inv.cne (I:Inv X ah σ H s):∀x c,X.env.cells.lookup x=some c->c≠X.env.locals:=λx c e z=>by
 obtain⟨v,o,ho,hd⟩:=I.cell x c e
 obtain⟨m,⟨o',es,ep,rY,Iz,_⟩,_⟩:=I.loc
 rw[z,rY]at ho;cases ho;rw[Iz]at hd;cases hd
theorem Inv.funs (I:Inv X ah σ H s):s.heap.FunFrames X.base X.outer:=by
 have all:∀(l:List Env),(∀b∈qC l,b∈X.fs)->X.s₀.heap.FunFrames X.base l->s.heap.FunFrames X.base l:=by
  intro l
  induction l with
  |nil=>intro _ _;trivial
  |cons env r ih=>
   intro hs hl
   obtain⟨hk,⟨L,o,hf,hn,ho,hd⟩,hr⟩:=hl
   have hL:L∈X.fs:=hs L (by unfold qC;rw[i7,hf];exact ai)
   obtain⟨sl,e⟩:=I.base.slot L o ho (I.ok.frf L hL) hL λz=>I.ok.exfs L z hL
   exact⟨hk,⟨L,_,hf,hn,e,hd⟩,ih (λb hb=>hs b (by unfold qC;rw[i7,hf];exact ao _ hb)) hr⟩
 exact all X.outer (λ_ hb=>hb) I.ok.funs
theorem Inv.stack (I:Inv X ah σ H s):s.heap.FunFrames X.base X.stack:=by
 rcases I.ok.stk with e|⟨e,hf⟩
 ·rw[e];exact I.funs
 ·rw[e]
  obtain⟨m,hn,_⟩:=I.loc
  refine .cons (by rw[I.ok.kind];decide) hf hn ?_ I.funs
  exact aG.get?_none_of_le (cu I.ok.bsz I.ok.above)
theorem Inv.stkSub (I:Inv X ah σ H s):∀b∈qC X.stack,b∈X.env.locals::X.fs:=λb hb=>by
 rcases I.ok.stk with e|⟨e,hf⟩
 ·rw[e]at hb;exact ao _ hb
 ·rw[e]at hb
  unfold qC at hb
  rw[i7,hf]at hb
  exact hb
theorem Inv.stkFree (I:Inv X ah σ H s):∀b∈qC X.stack,H b=none:=λb hb=>by
 rcases aC.mp (I.stkSub b hb)with e|hb
 ·rw[e];exact I.free
 ·obtain⟨_,o,ho,_⟩:=I.ok.funs.mem hb
  exact I.base.free b o ho (I.ok.frf b hb) λz=>I.ok.exfs b z hb
theorem Inv.step {g':Array GenState}{t':Nat}{d':Drawn}{ch:List af}(I:Inv X ah σ H s)
  (kO:∀b∈ch,(b∈X.ex\/X.s₀.heap.objs.size<=b)/\b≠X.env.locals/\(∀x c,X.env.cells.lookup x=some c->c≠b)/\∀p∈X.pn++ah,p.1≠b)
  (keep:∀b o,b≠X.env.locals->b∉X.fs->b∉ch->s.heap.get? b=some o->H b=none->h'.get? b=some o)
  (slot:∀b o,b≠X.env.locals->b∈X.fs->b∉ch->s.heap.get? b=some o->H b=none->∃sl,h'.get? b=some { o with slots:=sl }) (free:∀b o,b∉ch->s.heap.get? b=some o->H b=none->H' b=none)
  (there:∀b o,b∉ch->s.heap.get? b=some o->∃o',h'.get? b=some o')
  (tups:∀b xs,H b=some (.tup xs)->H' b=some (.tup xs)) (frzs:∀b o u,H b=some (.frz o u)->H' b=some (.frz o u)) (tbls:∀b ps,H b=some (.tbl ps)->∃more,H' b=some (.tbl (ps++more)))
  (ns:∀m,s.heap.Ns X.env.locals m->h'.Ns X.env.locals m) (hok:jH X.prog X.w H' h') (hg:AllBare g') :
  Inv X ah σ H' { s with heap:=h',gens:=g',drawn:=d',toks:=t' }:=by
 have Ml:∀b o,X.s₀.heap.get? b=some o->b≠X.env.locals:=λb o e=>aR (aV (aB e) I.ok.above)
 have FC:∀b o,X.s₀.heap.get? b=some o->b∉X.ex->b∉ch:=λb o e hx hb=>by
  rcases(kO b hb).1 with z|z
  ·exact hx z
  ·exact absurd (aV (aB e) z) (dY _)
 have cellK:∀x c,X.env.cells.lookup x=some c->∀v,s.heap.IsCell c v->h'.IsCell c v:=λx c e v ⟨o,ho,hd⟩=>by
  have Dv:c∉ch:=λz=>(kO c z).2.2.1 x c e rfl
  by_cases hc:c∈X.fs
  ·obtain⟨sl,q⟩:=slot c o (I.cne x c e) hc Dv ho (I.freeC x c e)
   exact⟨_,q,hd⟩
  ·exact⟨o,keep c o (I.cne x c e) hc Dv ho (I.freeC x c e),hd⟩
 refine⟨I.ok,I.os,hg,⟨λb o e n hb hx=>?_,λb o e n hb hx=>?_,λb o e n hx=>?_,λb o e hx=>?_,λb xs e=>tups b xs (I.base.tups b xs e),λb o xs e=>frzs b o xs (I.base.frzs b o xs e),λb ps e=>?_⟩,?_,λx c e=>?_,?_,λx c e=>?_,λp hp=>?_,hok,I.len⟩
 ·exact keep b o (Ml b o e) hb (FC b o e hx) (I.base.keep b o e n hb hx) (I.base.free b o e n hx)
 ·obtain⟨sl,e1⟩:=I.base.slot b o e n hb hx
  obtain⟨TQ,e2⟩:=slot b _ (Ml b o e) hb (FC b o e hx) e1 (I.base.free b o e n hx)
  exact⟨TQ,e2⟩
 ·obtain⟨o',e1⟩:=I.base.there b o e hx
  exact free b o' (FC b o e hx) e1 (I.base.free b o e n hx)
 ·obtain⟨o',e1⟩:=I.base.there b o e hx
  exact there b o' (FC b o e hx) e1
 ·obtain⟨m1,e1⟩:=I.base.tbls b ps e
  obtain⟨m2,e2⟩:=tbls b _ e1
  exact⟨m1++m2,by rw[e2,oA]⟩
 ·obtain⟨m,hn,hl⟩:=I.loc
  refine⟨m,ns m hn,λi x v e1 e2 e3=>?_⟩
  obtain⟨u,r,l⟩:=hl i x v e1 e2 e3
  refine⟨u,r,?_⟩
  rcases l with l|⟨k,c,e,z⟩
  ·exact .inl l
  ·exact .inr ⟨k,c,e,cellK x c e _ z⟩
 ·obtain⟨v,z⟩:=I.cell x c e
  exact⟨v,cellK x c e v z⟩
 ·obtain⟨m,⟨o,_,_,ho,_⟩,_⟩:=I.loc
  exact free _ o (λz=>(kO _ z).2.1 rfl) ho I.free
 ·obtain⟨v,o,ho,hd⟩:=I.cell x c e
  exact free c o (λz=>(kO c z).2.2.1 x c e rfl) ho (I.freeC x c e)
 ·obtain⟨e,n,ne,nf,d⟩:=I.pin p hp
  have Dv:p.1∉ch:=λz=>(kO p.1 z).2.2.2 p hp rfl
  exact⟨keep p.1 p.2 ne nf Dv e n,free p.1 p.2 Dv e n,ne,nf,d⟩
theorem Inv.un {t':Nat}(I:Inv X ah σ H s)(u:Un X.fs [] H H' s.heap h')(hok:jH X.prog X.w H' h'):Inv X ah σ H' { s with heap:=h',toks:=t' }:=by
 obtain⟨m,⟨o,es,ep,ho,r⟩,_⟩:=id I.loc
 obtain⟨sl,hL⟩:=u.any ho I.free (by simp)
 exact I.step (g':=s.gens) (d':=s.drawn) (ch:=[]) (λ_ z=>nomatch z) (λb o _ hb _ e n=>u.keep b o e n hb (by simp)) (λb o _ hb _ e n=>u.slot b o e n hb (by simp)) (λb o _ e n=>u.free b o e n (by simp)) (λb o _ e=>u.there b o e (by simp)) u.tups u.frzs u.tbls (λm' hm=>by
  obtain⟨o',Hu,Ht,rY,r'⟩:=hm
  rw[ho]at rY;cases rY
  exact⟨_,Hu,Ht,hL,r'⟩) hok I.bare
theorem Inv.call {g':Array GenState}{t':Nat}{d':Drawn}{ch:List af}(I:Inv X ah σ H s)(u:Un (qC X.stack) ch H H' s.heap h')(hok:jH X.prog X.w H' h')(hg:AllBare g')
  (kO:∀b∈ch,(b∈X.ex\/X.s₀.heap.objs.size<=b)/\b≠X.env.locals/\(∀x c,X.env.cells.lookup x=some c->c≠b)/\∀p∈X.pn++ah,p.1≠b) :
  Inv X ah σ H' { s with heap:=h',gens:=g',drawn:=d',toks:=t' }:=by
 obtain⟨m,⟨o,es,ep,ho,r⟩,_⟩:=id I.loc
 obtain⟨sl,hL⟩:=u.any ho I.free λz=>(kO _ z).2.1 rfl
 exact I.step (ch:=ch) kO (λb o hL hb hc e n=>u.keep b o e n (λz=>(aC.mp (I.stkSub b z)).elim hL hb) hc) (λb o _ _ hc e n=>u.any e n hc) (λb o hc e n=>u.free b o e n hc) (λb o hc e=>u.there b o e hc) u.tups u.frzs u.tbls (λm' hm=>by
  obtain⟨o',Hu,Ht,rY,r'⟩:=hm
  rw[ho]at rY;cases rY
  exact⟨_,Hu,Ht,hL,r'⟩) hok hg
theorem Inv.turned {t':Nat}{it:af}(I:Inv X ah σ H s)(k:∀b o,b≠it->s.heap.get? b=some o->h'.get? b=some o)(hn:H it=none)(hL:it≠X.env.locals)
  (h1:it∈X.ex\/X.s₀.heap.objs.size<=it) (h2:∀x c,X.env.cells.lookup x=some c->c≠it) (h3:∀p∈X.pn++ah,p.1≠it):Inv X ah σ H { s with heap:=h',toks:=t' }:=by
 have Mm:∀b u,H b=some u->b≠it:=λb u e z=>by rw[z,hn]at e;cases e
 refine I.step (g':=s.gens) (d':=s.drawn) (ch:=[it]) (λb hb=>?_) (λb o _ _ hc e _=>k b o (λz=>hc (by simp[z])) e) (λb o _ _ hc e _=>⟨o.slots,k b o (λz=>hc (by simp[z])) e⟩) (λ_ _ _ _ n=>n)
  (λb o hc e=>⟨o,k b o (λz=>hc (by simp[z])) e⟩) (λ_ _ e=>e) (λ_ _ _ e=>e) (λb ps e=>⟨#[],by rw[e];simp⟩) (λm hm=>?_) (λb u e=>?_) I.bare
 ·have e:b=it:=by simpa using hb
  subst e
  exact⟨h1,hL,h2,h3⟩
 ·obtain⟨o,es,ep,ho,r⟩:=hm
  exact⟨o,es,ep,k _ o (Ne.symm hL) ho,r⟩
 ·refine(I.hok b u e).stay (λc v hc q=>k c v ?_ q) (λ_ q=>q) λ_ _ q=>q
  rcases hc with z|z
  ·rw[z];exact Mm b u e
  ·exact Mm c _ z
theorem Inv.tok (I:Inv X ah σ H s)(t:Nat):Inv X ah σ H { s with toks:=t }:=I.un (h':=s.heap) (t':=t) Un.refl I.hok
theorem Inv.kept {t':Nat}(I:Inv X ah σ H s)(k:∀b u,s.heap.get? b=some u->h'.get? b=some u):Inv X ah σ H { s with heap:=h',toks:=t' }:=I.un (Un.kept k) (I.hok.kept k)
theorem Inv.laid {a:af}{o:HO}{t':Nat}(I:Inv X ah σ H s)(k:∀b u,s.heap.get? b=some u->h'.get? b=some u)(hp:s.heap.objs.size<=a)(new:dE X.prog X.w (upd H a o) h' a o) :
  Inv X ah σ (upd H a o) { s with heap:=h',toks:=t' }:=I.un (Un.laid k hp (I.hok.fresh hp)) (I.hok.laid k hp new)
theorem Inv.write {x e:af}{o:HO}{t':Nat}(I:Inv X ah σ H s)(mu:zZ (H x))(he:e=x\/H e=some (.own x))(k:∀b u,b≠e->s.heap.get? b=some u->h'.get? b=some u)(yY:∃u,h'.get? e=some u)
  (new:dE X.prog X.w (upd H x o) h' x o):Inv X ah σ (upd H x o) { s with heap:=h',toks:=t' }:=I.un (Un.write mu he k yY) (I.hok.write mu he k yY new)
theorem Inv.weak {σ':List (Option V)}(I:Inv X ah σ H s)(hl:σ'.length = σ.length)(w:∀(i:Nat) v,σ'[i]?=some (some v)->σ[i]?=some (some v)):Inv X ah σ' H s :=
 ⟨I.ok,I.os,I.bare,I.base,let⟨m,hn,Cj⟩:=I.loc;⟨m,hn,λi x v e1 e2 e3=>Cj i x v e1 (w i v e2) e3⟩,I.cell,I.free,I.freeC,I.pin,I.hok,hl.trans I.len⟩
theorem Inv.pins_of {uE:List (af×dq)}(I:Inv X ah σ H s)(h:∀p∈uE,s.heap.get? p.1=some p.2/\H p.1=none/\p.1≠X.env.locals/\p.1∉X.fs/\∀v,p.2.data≠.cell v):Inv X uE σ H s :=
 ⟨I.ok,I.os,I.bare,I.base,I.loc,I.cell,I.free,I.freeC,λp hp=>(bz.mp hp).elim (λz=>I.pin p (bF _ z)) (h p),I.hok,I.len⟩
theorem NY {N:List aL}(hN:N.Nodup){i j:Nat}{x:aL}(a:N[i]?=some x)(b:N[j]?=some x):i=j:=by
 obtain⟨h1,e1⟩:=aX.mp a
 obtain⟨h2,e2⟩:=aX.mp b
 exact(kD hN).mp (e1.trans e2.symm)
theorem NB {M:Model}{A:bD}{E:ae->aj->Prop}{i:Nat}{x:aL}{v:V}{u:ae}{Q:Unit->aj->Prop}(I:Inv X ah σ H s)(hN:X.N.Nodup)(hi:X.N[i]?=some x)(hx:Loc X.env.scope x)(r:RelV v u)
  (h:∀s',Inv X ah (σ.set i (some v)) H s'->(∃a,ez a s.heap s'.heap/\(a=X.env.locals\/X.env.cells.lookup x=some a))->Q () s') (hf:X.fn x=true\/X.env.scope.names.lookup x=some .local:=by first|exact .inl rfl|exact .inr rfl|assumption):aQ M A (storeName X.env x u) Q E s:=by
 obtain⟨m,hn,hl⟩:=id I.loc
 have Iy:(X.env.scope.kind==.class || (X.env.scope.kind==.module&&X.env.locals != X.env.globals))=false:=by rw[I.ok.kind];rfl
 have LO:i < σ.length:=by rw[I.len];exact(aX.mp hi).1
 have cne:=I.cne
 have tracked:∀{a:af} {h':aG},(∃o,s.heap.get? a=some o/\H a=none)->ez a s.heap h'->jH X.prog X.w H h':=λ{a h'} ha hs b ob e=>by
  obtain⟨_,_,t7⟩:=ha
  refine(I.hok b ob e).stay (λc w' hc q=>(hs.2 c ?_).trans q) (λ_ q=>q) λ_ _ q=>q
  rintro rfl
  rcases hc with rfl|hc
  ·rw[t7]at e;cases e
  ·rw[t7]at hc;cases hc
 rcases hx with hk|hk
 ·refine wpAny_storeName_local hk hn (λh' IR hs=>?_) Iy
  obtain⟨oL,_,_,RK,_⟩:=id hn
  refine h _ ⟨I.ok,I.os,I.bare,⟨λb o e n hb hx=>?_,λb o e n hb hx=>?_,I.base.free,λb o e hx=>?_,I.base.tups,I.base.frzs,I.base.tbls⟩,⟨_,IR,λj y v' e1 e2 e3=>?_⟩,λy c e=>?_,I.free,I.freeC,λp hp=>?_,tracked ⟨oL,RK,I.free⟩ hs,by simpa using I.len⟩ ⟨_,hs,.inl rfl⟩
  ·exact(hs.2 b (aR (aV (aB e) I.ok.above))).trans (I.base.keep b o e n hb hx)
  ·obtain⟨sl,e1⟩:=I.base.slot b o e n hb hx
   exact⟨sl,(hs.2 b (aR (aV (aB e) I.ok.above))).trans e1⟩
  ·obtain⟨o',e1⟩:=I.base.there b o e hx
   exact⟨o',(hs.2 b (aR (aV (aB e) I.ok.above))).trans e1⟩
  ·by_cases hj:j=i
   ·subst hj
    rw[hi]at e1;cases e1
    rw[hU LO]at e2
    cases e2
    exact⟨u,r,.inl ⟨hk,by simp⟩⟩
   ·rw[el (Ne.symm hj)]at e2
    obtain⟨u',r',q⟩:=hl j y v' e1 e2 e3
    refine⟨u',r',?_⟩
    rcases q with⟨k,e⟩|⟨k,c,e,z⟩
    ·refine .inl ⟨k,?_⟩
     have:y≠x:=λe=>hj (NY hN e1 (e▸hi))
     simp[this,e]
    ·exact .inr ⟨k,c,e,z.sameBut hs (cne y c e)⟩
  ·obtain⟨w',z⟩:=I.cell y c e
   exact⟨w',z.sameBut hs (cne y c e)⟩
  ·obtain⟨e,n,ne,nf,d⟩:=I.pin p hp
   exact⟨(hs.2 p.1 ne).trans e,n,ne,nf,d⟩
 ·have yZ:X.fn x=true:=by
   rcases hf with z|z
   ·exact z
   ·rw[z]at hk;cases hk
  obtain⟨c,hc⟩:=I.ok.has x (.inl hk)
  obtain⟨w',z⟩:=I.cell x c hc
  refine wpAny_storeName_cell I.ok.kind hk hc z (λh' t5 hs=>?_)
  obtain⟨oc,LQ,IU⟩:=id z
  refine h { s with heap:=h' } ⟨I.ok,I.os,I.bare,⟨λb o e n hb hx=>?_,λb o e n hb hx=>?_,I.base.free,λb o e hx=>?_,I.base.tups,I.base.frzs,I.base.tbls⟩,⟨m,hn.sameBut hs (Ne.symm (cne x c hc)),λj y v' e1 e2 e3=>?_⟩,λy c' e=>?_,I.free,I.freeC,λp hp=>?_,tracked ⟨oc,LQ,I.freeC x c hc⟩ hs,by simpa using I.len⟩ ⟨c,hs,.inr hc⟩
  ·exact(hs.2 b (aR (aV (aB e) (I.ok.cab x c yZ hc)))).trans (I.base.keep b o e n hb hx)
  ·obtain⟨sl,e1⟩:=I.base.slot b o e n hb hx
   exact⟨sl,(hs.2 b (aR (aV (aB e) (I.ok.cab x c yZ hc)))).trans e1⟩
  ·obtain⟨o',e1⟩:=I.base.there b o e hx
   exact⟨o',(hs.2 b (aR (aV (aB e) (I.ok.cab x c yZ hc)))).trans e1⟩
  ·by_cases hj:j=i
   ·subst hj
    rw[hi]at e1;cases e1
    rw[hU LO]at e2
    cases e2
    exact⟨u,r,.inr ⟨.inl hk,c,hc,t5⟩⟩
   ·rw[el (Ne.symm hj)]at e2
    obtain⟨u',r',q⟩:=hl j y v' e1 e2 e3
    refine⟨u',r',?_⟩
    rcases q with q|⟨k,c',e,z'⟩
    ·exact .inl q
    ·refine .inr ⟨k,c',e,z'.sameBut hs ?_⟩
     rintro rfl
     exact hj (NY hN e1 (I.ok.inj _ _ _ e hc▸hi))
  ·by_cases LJ:c'=c
   ·subst LJ;exact⟨_,t5⟩
   ·obtain⟨w2,z2⟩:=I.cell y c' e
    exact⟨w2,z2.sameBut hs LJ⟩
  ·obtain⟨e,n,ne,nf,d⟩:=I.pin p hp
   refine⟨(hs.2 p.1 ?_).trans e,n,ne,nf,d⟩
   intro q
   rw[q,LQ]at e
   have q':oc=p.2:=Option.some.inj e
   exact d w' (by rw[←q'];exact IU)
theorem Ki {M:Model}{A:bD}{E:ae->aj->Prop}{i:Nat}{x:aL}{v:V}{u:ae}{Q:Unit->aj->Prop}(I:Inv X ah σ H s)(hN:X.N.Nodup)(hi:X.N[i]?=some x)(hx:Loc X.env.scope x)(r:RelV v u)
  (h:∀s',Inv X ah (σ.set i (some v)) H s'->Q () s') (hf:X.fn x=true\/X.env.scope.names.lookup x=some .local:=by first|exact .inl rfl|exact .inr rfl|assumption):aQ M A (storeName X.env x u) Q E s :=
 NB I hN hi hx r (λs' I' _=>h s' I') hf
theorem Inv.call' {s':aj}{ch:List af}(I:Inv X ah σ H s)(ho:s'.os=s.os)(u:Un (qC X.stack) ch H H' s.heap s'.heap)(hok:jH X.prog X.w H' s'.heap)(hg:AllBare s'.gens)
  (kO:∀b∈ch,(b∈X.ex\/X.s₀.heap.objs.size<=b)/\b≠X.env.locals/\(∀x c,X.env.cells.lookup x=some c->c≠b)/\∀p∈X.pn++ah,p.1≠b):Inv X ah σ H' s':=by
 obtain⟨h',g',d',t',o'⟩:=s'
 have e:o'=s.os:=ho
 subst e
 exact I.call (g':=g') (t':=t') (d':=d') u hok hg kO
end
abbrev XK:=ae->Option af->Hp->Prop
abbrev St:=List (Option V)
abbrev VK:=V->Hp->Prop
abbrev TE:=St->Hp->VK->Prop
abbrev TT:=St->Hp->(Bool->Hp->Prop)->Prop
abbrev TA:=St->Hp->(List V->Hp->Prop)->Prop
structure mz where
 nx:St->Hp->Prop
 rt:VK
 bk:St->Hp->Prop:=λ_ _=>False
 ct:St->Hp->Prop:=λ_ _=>False
abbrev TS:=mz->St->Hp->Prop
def EP (X:Cx)(ah:List (af×dq))(σ:St)(Q:VK)(u:ae)(s':aj):Prop:=∃v H',Inv X ah σ H' s'/\RelV v u/\Q v H'
def TP (X:Cx)(ah:List (af×dq))(σ:St)(Q:Bool->Hp->Prop)(b:Bool)(s':aj):Prop:=∃H',Inv X ah σ H' s'/\Q b H'
def AP (X:Cx)(ah:List (af×dq))(σ:St)(Q:List V->Hp->Prop)(us:List ae)(s':aj):Prop:=∃vs H',Inv X ah σ H' s'/\bB vs us/\Q vs H'
def SP (X:Cx)(ah:List (af×dq))(D:mz)(f:Flow)(s':aj):Prop :=
 match f with
 |.next=>∃σ' H',Inv X ah σ' H' s'/\D.nx σ' H'
 |.brk=>∃σ' H',Inv X ah σ' H' s'/\D.bk σ' H'
 |.cont=>∃σ' H',Inv X ah σ' H' s'/\D.ct σ' H'
 |.ret u=>∃v σ' H',Inv X ah σ' H' s'/\RelV v u/\D.rt v H'
def PE (X:Cx)(e:Expr)(t:TE):Prop :=
 ∀(ah:List (af×dq)) (s:aj) (σ:St) (H:Hp) (Q:VK),Inv X ah σ H s->t σ H Q->aQ (aU X.prog X.w) X.A (bq e X.env) (EP X ah σ Q) X.xe s
def PT (X:Cx)(e:Expr)(t:TT):Prop :=
 ∀(ah:List (af×dq)) (s:aj) (σ:St) (H:Hp) (Q:Bool->Hp->Prop),Inv X ah σ H s->t σ H Q->aQ (aU X.prog X.w) X.A (pN e X.env (bq e X.env)) (TP X ah σ Q) X.xe s
def PW (X:Cx)(e:Expr)(t:TT):Prop :=
 ∀(whole:m9 ae) (ah:List (af×dq)) (s:aj) (σ:St) (H:Hp) (Q:Bool->Hp->Prop),Inv X ah σ H s->t σ H Q->aQ (aU X.prog X.w) X.A (pN e X.env whole) (TP X ah σ Q) X.xe s
theorem PW.pt {X:Cx}{e:Expr}{t:TT}(h:PW X e t):PT X e t:=h _
def PA (X:Cx)(es:List Expr)(t:TA):Prop :=
 ∀(pos:cx) (ah:List (af×dq)) (s:aj) (σ:St) (H:Hp) (Q:List V->Hp->Prop),Inv X ah σ H s->t σ H Q->aQ (aU X.prog X.w) X.A (spliced (cj pos (aq es X.env))) (AP X ah σ Q) X.xe s
def PS (X:Cx)(st:bP)(t:TS):Prop :=
 ∀(ah:List (af×dq)) (s:aj) (σ:St) (H:Hp) (D:mz),Inv X ah σ H s->t D σ H->aQ (aU X.prog X.w) X.A (exec st X.env) (SP X ah D) X.xe s
def oI (X:Cx)(st:List bP)(t:TS):Prop :=
 ∀(ah:List (af×dq)) (s:aj) (σ:St) (H:Hp) (D:mz),Inv X ah σ H s->t D σ H->aQ (aU X.prog X.w) X.A (execs st X.env) (SP X ah D) X.xe s
theorem cP {α:Type}{t:m9 α}{Q Q':α->aj->Prop}{M:Model}{A:bD}{E:ae->aj->Prop}{s:aj}(h:aQ M A t Q E s)(hQ:∀a s,Q a s->Q' a s):aQ M A t Q' E s:=d9 h hQ λ_ _ x=>x
end L2
namespace L2
open PySem PySem.Spec PyProof.Rows
section
variable {X:Cx}
theorem bin {a b:Expr}{ta tb:TE}(ha:PE X a ta)(hb:PE X b tb){ah:List (af×dq)}{s:aj}{σ:St}{H:Hp}{R:V->V->Hp->Prop}(I:Inv X ah σ H s)(h:ta σ H λx H1=>tb σ H1 λy H2=>R x y H2)
  {α:Type} {Q:α->aj->Prop} {f:ae->ae->m9 α}
  (hf:∀v u s2 x y H2,Inv X ah σ H2 s2->RelV x v->RelV y u->R x y H2->aQ (aU X.prog X.w) X.A (f v u) Q X.xe s2) :
  aQ (aU X.prog X.w) X.A (bq a X.env) (λv s₁=>aQ (aU X.prog X.w) X.A (bq b X.env) (λu s₂=>aQ (aU X.prog X.w) X.A (f v u) Q X.xe s₂) X.xe s₁) X.xe s:=by
 refine cP (ha ah s σ H _ I h) λv s1 df=>?_
 obtain⟨x,H1,I1,r1,q1⟩:=df
 refine cP (hb ah s1 σ H1 _ I1 q1) λu s2 df=>?_
 obtain⟨y,H2,I2,r2,q2⟩:=df
 exact hf v u s2 x y H2 I2 r1 r2 q2
def JV (i:Nat):TE:=λσ H Q=>∃v,σ[i]?=some (some v)/\Q v H
def tC (v:V):TE:=λ_ H Q=>Q v H
theorem jm {i:Nat}{x:aL}{pos:cx}(hN:X.N[i]?=some x)(hv:nw X.env.scope x)(hd:(x==("__debug__":aL))=false:=by decide)(ie:(x==("__classdict__":aL))=false:=by decide):PE X (.Name x pos) (JV i):=by
 intro ah s σ H Q I h
 obtain⟨v,e,h⟩:=h
 obtain⟨m,hn,hl⟩:=I.loc
 obtain⟨u,r,l⟩:=hl i x v hN e hv
 have fin:EP X ah σ Q u s:=⟨v,H,I,r,h⟩
 rcases l with⟨hk,hm⟩|⟨hk,c,hc,ma⟩
 ·exact tU (wpAny_loadName_local I.ok.kind hk hn hm fin) hd
 ·rcases hk with hk|hk
  ·exact tU (wpAny_loadName_cell I.ok.kind hk hc ma fin) hd
  ·exact tU (wpAny_loadName_free I.ok.kind hk hc ma fin ie) hd
theorem Zx {i j pos}:PE X (.Constant (.int i) j pos) (tC (.int i)):=λ_ _ _ H _ I h=>wpAny_Constant_int ⟨.int i,H,I.tok _,⟨_,rfl⟩,h⟩
theorem zsv {b j pos}:PE X (.Constant (.bool b) j pos) (tC (.bl b)):=λ_ _ _ H _ I h=>Constant_bool ⟨.bl b,H,I,rfl,h⟩
theorem Zy {j pos}:PE X (.Constant .none j pos) (tC .non):=λ_ _ _ H _ I h=>Constant_none ⟨.non,H,I,rfl,h⟩
theorem Zz {x j pos}:PE X (.Constant (.str x) j pos) (tC (.str x)):=λ_ _ _ H _ I h=>Calls.Constant_str ⟨.str x,H,I.tok _,⟨_,rfl⟩,h⟩
def Gl (X:Cx)(x:aL):Prop:=X.env.kindOf x=some .globalImplicit
theorem EL {E:ae->aj->Prop}{ah:List (af×dq)}{s:aj}{σ:St}{H:Hp}{x:aL}{u:ae}{pos:cx}{Q:ae->aj->Prop}(I:Inv X ah σ H s)(hg:Gl X x)(hm:X.mg x=some u)(h:Q u s)
  (hd:(x==("__debug__":aL))=false:=by decide):aQ (aU X.prog X.w) X.A (bq (.Name x pos) X.env) Q E s :=
 Calls.Name_function_global I.ok.kind hg (Calls.loadGlobal_global (by rw[I.ok.glob];exact I.mod.glob.keeps I.bk) hm h) hd
theorem qy {E:ae->aj->Prop}{ah:List (af×dq)}{s:aj}{σ:St}{H:Hp}{x:aL}{u:ae}{pos:cx}{Q:ae->aj->Prop}(I:Inv X ah σ H s)(hg:Gl X x)(hm:X.mg x=none)(hv:bX x=some u)(h:Q u s)
  (hn:x≠"__name__":=by decide) (hd:(x==("__debug__":aL))=false:=by decide):aQ (aU X.prog X.w) X.A (bq (.Name x pos) X.env) Q E s:=by
 obtain⟨mb,h1,h2⟩:=I.mod.blt
 exact Calls.Name_function_global I.ok.kind hg (Calls.loadGlobal_builtin (by rw[I.ok.glob];exact I.mod.glob.keeps I.bk) hm (by rw[I.ok.blt];exact h1.keeps I.bk) ((h2 x hn).trans hv) h) hd
theorem Oz {x:aL}{v:V}{u:ae}{pos:cx}(hg:Gl X x)(hm:X.mg x=some u)(r:RelV v u)(hd:(x==("__debug__":aL))=false:=by decide):PE X (.Name x pos) (tC v) :=
 λ_ _ _ H _ I h=>EL I hg hm ⟨v,H,I,r,h⟩ hd
theorem Yf {x:aL}{v:V}{u:ae}{pos:cx}(hg:Gl X x)(hm:X.mg x=none)(hv:bX x=some u)(r:RelV v u)(hn:x≠"__name__":=by decide)(hd:(x==("__debug__":aL))=false:=by decide):PE X (.Name x pos) (tC v) :=
 λ_ _ _ H _ I h=>qy I hg hm hv ⟨v,H,I,r,h⟩ hn hd
variable {a b:Expr}{ta tb:TE}{pos:cx}
def PC (X:Cx)(op:kG)(a b:Expr)(t:TE):Prop :=
 ∀(ah:List (af×dq)) (s:aj) (σ:St) (H:Hp) (Q:VK),Inv X ah σ H s->t σ H Q ->
  aQ (aU X.prog X.w) X.A (bq a X.env) (λv s₁=>aQ (aU X.prog X.w) X.A (bq b X.env) (λu s₂=>aQ (aU X.prog X.w) X.A (cB op v u) (EP X ah σ Q) X.xe s₂) X.xe s₁) X.xe s
theorem rh (b:Expr){op:kG}(h:op≠.In)(h2:op≠.NotIn):dz op b=false:=by
 have e1:(op==kG.In)=false:=by cases op<;>first|rfl|exact absurd rfl h
 have e2:(op==kG.NotIn)=false:=by cases op<;>first|rfl|exact absurd rfl h2
 cases b<;>simp[dz,e1,e2]
def tB (t:TE):TT:=λσ H Q=>t σ H λx H1=>∃c,x=.bl c/\Q c H1
theorem ZA {op:kG}{t:TE}(h:PC X op a b t)(h1:dz op b=false:=by first|exact rh _ (by decide) (by decide)|rfl):PT X (.Compare a [op] [b] pos) (tB t):=by
 intro ah s σ H Q I hw
 refine wpAny_isTrue_Compare1 (cP (h ah s σ H _ I hw) λv s1 h1=>cP h1 λu s2 h2=>cP h2 λc s3 ⟨x,H1,I1,r1,q1⟩=>?_) h1
 obtain⟨d,rfl,q⟩:=q1
 cases r1
 exact dM ⟨H1,I1,q⟩
theorem ZC {e:Expr}{t:TE}(h:PE X e t)(he:∀whole,pN e X.env whole=(do let v ← whole;fW e.pos;d7 [v] (truthy v)):=by intro _;rfl):PT X e (tB t):=by
 intro ah s σ H Q I hw
 refine isTrue_plain (cP (h ah s σ H _ I hw) λv s1 ⟨x,H1,I1,r1,q1⟩=>?_) (he _)
 obtain⟨d,rfl,q⟩:=q1
 cases r1
 exact dM ⟨H1,I1,q⟩
variable {tA FH:TT}{rest:List Expr}
def JH (t u:TT):TT:=λσ H Q=>t σ H λc H1=>if c=true then u σ H1 Q else Q false H1
def Uy (t u:TT):TT:=λσ H Q=>t σ H λc H1=>if c=true then Q true H1 else u σ H1 Q
def JQ (t:TT):TT:=λσ H Q=>t σ H λc H1=>Q (!c) H1
theorem Yg (ha:PT X a tA):PW X (.BoolOp .And [a] pos) tA:=by
 intro wh ah s σ H Q I h
 refine isTrue_and (cP (ha ah s σ H Q I h) λc s1 e=>?_)
 cases c with
 |true=>exact isTrue_and_nil e
 |false=>exact e
theorem ZD (ha:PT X a tA):PW X (.BoolOp .Or [a] pos) tA:=by
 intro wh ah s σ H Q I h
 refine isTrue_or (cP (ha ah s σ H Q I h) λc s1 e=>?_)
 cases c with
 |false=>exact isTrue_or_nil e
 |true=>exact e
theorem ZE (ha:PT X a tA)(hb:PW X (.BoolOp .And (b::rest) pos) FH):PW X (.BoolOp .And (a::b::rest) pos) (JH tA FH):=by
 intro wh ah s σ H Q I h
 refine isTrue_and (cP (ha ah s σ H _ I h) λc s1 df=>?_)
 obtain⟨H1,I1,q1⟩:=df
 cases c with
 |true=>exact hb wh ah s1 σ H1 Q I1 q1
 |false=>exact⟨H1,I1,q1⟩
theorem zsw (ha:PT X a tA)(hb:PW X (.BoolOp .Or (b::rest) pos) FH):PW X (.BoolOp .Or (a::b::rest) pos) (Uy tA FH):=by
 intro wh ah s σ H Q I h
 refine isTrue_or (cP (ha ah s σ H _ I h) λc s1 df=>?_)
 obtain⟨H1,I1,q1⟩:=df
 cases c with
 |true=>exact⟨H1,I1,q1⟩
 |false=>exact hb wh ah s1 σ H1 Q I1 q1
theorem ZF (ha:PT X a tA):PT X (.UnaryOp .Not a pos) (JQ tA):=by
 intro ah s σ H Q I h
 exact isTrue_not (ha ah s σ H (λc H1=>Q (!c) H1) I h)
def En (ta tb:TE):TE:=λσ H Q=>ta σ H λx H1=>∃c,x=.bl c/\if c=true then tb σ H1 Q else Q (.bl false) H1
def JR (ta tb:TE):TE:=λσ H Q=>ta σ H λx H1=>∃c,x=.bl c/\if c=true then Q (.bl true) H1 else tb σ H1 Q
def Et (ta:TE):TE:=λσ H Q=>ta σ H λx H1=>∃c,x=.bl c/\Q (.bl (!c)) H1
theorem ZG {op}{t:TE}(h:PE X a t):PE X (.BoolOp op [a] pos) t:=λah s σ H Q I hw=>BoolOp_one (h ah s σ H Q I hw)
theorem ZH (ha:PE X a ta)(hb:PE X (.BoolOp .And (b::rest) pos) tb):PE X (.BoolOp .And (a::b::rest) pos) (En ta tb):=by
 intro ah s σ H Q I h
 refine BoolOp_and (cP (ha ah s σ H _ I h) λv s1 df=>?_)
 obtain⟨x,H1,I1,r1,q1⟩:=df
 obtain⟨c,rfl,q1⟩:=q1
 cases r1
 refine dM ?_
 cases c with
 |true=>exact hb ah s1 σ H1 Q I1 q1
 |false=>exact⟨.bl false,H1,I1,rfl,q1⟩
theorem zsx (ha:PE X a ta)(hb:PE X (.BoolOp .Or (b::rest) pos) tb):PE X (.BoolOp .Or (a::b::rest) pos) (JR ta tb):=by
 intro ah s σ H Q I h
 refine BoolOp_or (cP (ha ah s σ H _ I h) λv s1 df=>?_)
 obtain⟨x,H1,I1,r1,q1⟩:=df
 obtain⟨c,rfl,q1⟩:=q1
 cases r1
 refine dM ?_
 cases c with
 |false=>exact hb ah s1 σ H1 Q I1 q1
 |true=>exact⟨.bl true,H1,I1,rfl,q1⟩
theorem ZI (ha:PE X a ta):PE X (.UnaryOp .Not a pos) (Et ta):=by
 intro ah s σ H Q I h
 refine UnaryOp_ (cP (ha ah s σ H _ I h) λv s1 df=>?_)
 obtain⟨x,H1,I1,r1,q1⟩:=df
 obtain⟨c,rfl,q1⟩:=q1
 cases r1
 exact not_of (dM ⟨.bl (!c),H1,I1,rfl,q1⟩)
def Ux (t:TT)(ta tb:TE):TE:=λσ H Q=>t σ H λc H1=>if c=true then ta σ H1 Q else tb σ H1 Q
theorem W2 {c:Expr}(hc:PT X c tA)(ha:PE X a ta)(hb:PE X b tb):PE X (.IfExp c a b pos) (Ux tA ta tb):=by
 intro ah s σ H Q I h
 refine wpAny_IfExp (cP (hc ah s σ H _ I h) λd s1 df=>?_)
 obtain⟨H1,I1,q1⟩:=df
 cases d with
 |true=>exact ha ah s1 σ H1 Q I1 q1
 |false=>exact hb ah s1 σ H1 Q I1 q1
end
end L2
namespace L2
open PySem PySem.Spec PyProof.Rows
def dC (K:aa)(H:Hp)(a:af)(xs:List V):Prop :=
 Rd H a (.lst xs) \/
  ∃(o:dq) (bZ:Array ae) (n:Nat),K.lookup a=some o/\o.cls=.type "list"/\o.dict=none/\o.data=.seq bZ n/\bZ.size<=sizeLine/\bB xs bZ.toList
def jP (K:aa)(H:Hp)(a:af)(xs:List V):Prop :=
 Rd H a (.tup xs) \/
  ∃(o:dq) (bZ:Array ae) (n:Nat),K.lookup a=some o/\o.cls=.type "tuple"/\o.data=.seq bZ n/\bZ.size<=sizeLine/\bB xs bZ.toList
def G5:ae->Option V
 |.none=>some .non
 |.bool b=>some (.bl b)
 |.int i _=>some (.int i)
 |.str x _=>some (.str x)
 |.bytes b _=>some (.byt b)
 |.float b _=>some (.flt b)
 |.ref a=>some (.ref a)
 |.type n=>some (.ty n)
 |_=>none
theorem RelV.abs {x:V}{u:ae}(r:RelV x u):G5 u=some x:=by
 cases x with
 |non=>cases r;rfl
 |bl _=>cases r;rfl
 |int _=>obtain⟨t,rfl⟩:=r;rfl
 |str _=>obtain⟨t,rfl⟩:=r;rfl
 |byt _=>obtain⟨t,rfl⟩:=r;rfl
 |flt _=>obtain⟨t,rfl⟩:=r;rfl
 |ref _=>cases r;rfl
 |ty _=>cases r;rfl
theorem RelV.inj {x y:V}{u:ae}(r:RelV x u)(q:RelV y u):x=y:=Option.some.inj (r.abs.symm.trans q.abs)
theorem bB.inj:∀{xs ys:List V} {us:List ae},bB xs us->bB ys us->xs=ys
 |_,_,_,.nil,.nil=>rfl
 |_,_,_,.cons r t,.cons r' t'=>by rw[r.inj r',bB.inj t t']
section
variable {X:Cx}{ah:List (af×dq)}{σ:St}{H:Hp}{s:aj}{a:af}{xs ys:List V}
theorem dC.of {K:aa}(h:H a=some (.lst xs)):dC K H a xs:=.inl (.inl h)
theorem jP.of {K:aa}(h:H a=some (.tup xs)):jP K H a xs:=.inl (.inl h)
theorem Inv.list (I:Inv X ah σ H s)(h:dC X.K H a xs):∃bZ:List ae,bB xs bZ/\PlainL s.heap a bZ.toArray/\xs.length<=sizeLine:=by
 rcases h with h|⟨o,bZ,n,hk,hc,hd,hs,hz,r⟩
 ·obtain⟨z,bZ,n,r,e⟩:=h.ok I.hok
  exact⟨bZ,r,⟨_,n,e,rfl,rfl,rfl⟩,z⟩
 ·refine⟨bZ.toList,r,⟨o,n,I.kIn a o hk,hc,hd,by simpa using hs⟩,?_⟩
  have e:=r.length
  simp only[dJ]at e
  omega
theorem Inv.tuple (I:Inv X ah σ H s)(h:jP X.K H a xs):∃bZ:List ae,bB xs bZ/\IsTup s.heap a bZ.toArray/\xs.length<=sizeLine:=by
 rcases h with h|⟨o,bZ,n,hk,hc,hs,hz,r⟩
 ·obtain⟨z,bZ,r,p⟩:=h.ok I.hok
  exact⟨bZ,r,p,z⟩
 ·refine⟨bZ.toList,r,⟨o,I.kIn a o hk,hc,n,by simpa using hs⟩,?_⟩
  have e:=r.length
  simp only[dJ]at e
  omega
theorem Inv.list_inj (I:Inv X ah σ H s)(h:dC X.K H a xs)(h':dC X.K H a ys):xs=ys:=by
 obtain⟨bZ,r,⟨o,n,e,_,_,d⟩,_⟩:=I.list h
 obtain⟨its',r',⟨o',n',e',_,_,d'⟩,_⟩:=I.list h'
 rw[e]at e';cases e'
 rw[d]at d'
 injection d' with d1 _
 have:bZ=its':=by simpa using congrArg Array.toList d1
 subst this
 exact r.inj r'
end
abbrev Cx.wish (X:Cx)(E:ae->aj->Prop):Cx:={ X with xe:=E }
abbrev Cx.nox (X:Cx):Cx:=X.wish λ_ _=>False
theorem Cx.Ok.wish {X:Cx}(ok:X.Ok)(E:ae->aj->Prop):(X.wish E).Ok :=
 ⟨ok.mod,ok.kind,ok.glob,ok.blt,ok.above,ok.inj,ok.has,ok.cab,ok.hd,ok.frames,ok.stk,ok.exf,ok.bs,ok.bsz,ok.noex,ok.exfs,ok.funs,ok.frf⟩
theorem Cx.Ok.unwish {X:Cx}{E:ae->aj->Prop}(ok:(X.wish E).Ok):X.Ok :=
 ⟨ok.mod,ok.kind,ok.glob,ok.blt,ok.above,ok.inj,ok.has,ok.cab,ok.hd,ok.frames,ok.stk,ok.exf,ok.bs,ok.bsz,ok.noex,ok.exfs,ok.funs,ok.frf⟩
section
variable {X:Cx}{ah:List (af×dq)}{σ:St}{H:Hp}{s:aj}{E:ae->aj->Prop}
theorem Inv.wish (I:Inv X ah σ H s)(E:ae->aj->Prop):Inv (X.wish E) ah σ H s:=⟨I.ok.wish E,I.os,I.bare,I.base,I.loc,I.cell,I.free,I.freeC,I.pin,I.hok,I.len⟩
theorem Inv.unwish (I:Inv (X.wish E) ah σ H s):Inv X ah σ H s:=⟨I.ok.unwish,I.os,I.bare,I.base,I.loc,I.cell,I.free,I.freeC,I.pin,I.hok,I.len⟩
theorem SP.unwish {D:mz}{f:Flow}{s':aj}(h:SP (X.wish E) ah D f s'):SP X ah D f s':=by
 cases f with
 |next=>obtain⟨σ',H',I,q⟩:=h;exact⟨σ',H',I.unwish,q⟩
 |brk=>obtain⟨σ',H',I,q⟩:=h;exact⟨σ',H',I.unwish,q⟩
 |cont=>obtain⟨σ',H',I,q⟩:=h;exact⟨σ',H',I.unwish,q⟩
 |ret u=>obtain⟨v,σ',H',I,r,q⟩:=h;exact⟨v,σ',H',I.unwish,r,q⟩
theorem oI.nox {st:List bP}{t:TS}(h:oI X.nox st t):oI X st t:=λah s σ H D I hw=>
 d9 (h ah s σ H D (I.wish _) hw) (λ_ _ q=>q.unwish) λ_ _ z=>False.elim z
end
section
variable {X:Cx}{st:bP}{rest:List bP}{t u:TS}{e:Expr}{te:TE}{pos:cx}
def Es:TS:=λD σ H=>D.nx σ H
def JT (t u:TS):TS:=λD σ H=>t { D with nx:=u D } σ H
theorem Yh:oI X [] Es:=λ_ _ σ H _ I h=>i8 ⟨σ,H,I,h⟩
theorem W3 (h1:PS X st t)(h2:oI X rest u):oI X (st::rest) (JT t u):=by
 intro ah s σ H D I h
 refine wpAny_execs_cons (cP (h1 ah s σ H { D with nx:=u D } I h) λf s1 q=>?_)
 cases f with
 |next=>
  obtain⟨σ',H',I',q⟩:=q
  exact h2 ah s1 σ' H' D I' q
 |ret v=>exact q
 |brk=>exact q
 |cont=>exact q
theorem Yi (h1:PS X st t):oI X [st] t:=by
 intro ah s σ H D I h
 refine wpAny_execs_cons (cP (h1 ah s σ H D I h) λf s1 q=>?_)
 cases f with
 |next=>exact i8 q
 |ret v=>exact q
 |brk=>exact q
 |cont=>exact q
theorem Inv.quiet {ah:List (af×dq)}{σ:St}{H:Hp}{s:aj}(I:Inv X ah σ H s):interactive X.env=false:=by simp[interactive,I.ok.kind]
def Ep (te:TE):TS:=λD σ H=>te σ H λ_ H1=>D.nx σ H1
theorem EM (he:PE X e te)(hs:dn e none pos.line X.env=pure false:=by rfl):PS X (.Expr e pos) (Ep te):=by
 intro ah s σ H D I h
 exact wpAny_Expr_any (cP (he ah s σ H _ I h) λv s1 ⟨x,H1,I1,r1,q1⟩=>⟨σ,H1,I1,q1⟩) I.quiet hs
def JS (te:TE):TS:=λD σ H=>te σ H D.rt
theorem KH (he:PE X e te):PS X (.Return (some e) pos) (JS te):=by
 intro ah s σ H D I h
 exact wpAny_Return_some (cP (he ah s σ H _ I h) λv s1 ⟨x,H1,I1,r1,q1⟩=>⟨x,σ,H1,I1,r1,q1⟩)
def JO (c:TT)(t u:TS):TS:=λD σ H=>c σ H λb H1=>if b=true then t D σ H1 else u D σ H1
theorem zsy {c:Expr}{a b:List bP}{tc:TT}(hc:PT X c tc)(ha:oI X a t)(hb:oI X b u):PS X (.If c a b pos) (JO tc t u):=by
 intro ah s σ H D I h
 refine wpAny_If (cP (hc ah s σ H _ I h) λd s1 df=>?_)
 obtain⟨H1,I1,q1⟩:=df
 cases d with
 |true=>exact ha ah s1 σ H1 D I1 q1
 |false=>exact hb ah s1 σ H1 D I1 q1
def yI:TS:=λ_ _ _=>False
theorem W4:PS X st yI:=λ_ _ _ _ _ _ h=>h.elim
end
abbrev TG:=V->St->Hp->(St->Hp->Prop)->Prop
abbrev tX:=List V->St->Hp->(St->Hp->Prop)->Prop
def PG (X:Cx)(target:Expr)(t:TG):Prop :=
 ∀(ah:List (af×dq)) (s:aj) (σ:St) (H:Hp) (v:V) (u:ae) (Q:St->Hp->Prop),Inv X ah σ H s->RelV v u->t v σ H Q ->
  aQ (aU X.prog X.w) X.A (gm target X.env u) (λ_ s'=>∃σ' H',Inv X ah σ' H' s'/\Q σ' H') X.xe s
def yU (X:Cx)(ts:List Expr)(t:tX):Prop :=
 ∀(ah:List (af×dq)) (s:aj) (σ:St) (H:Hp) (vs:List V) (us:List ae) (Q:St->Hp->Prop),Inv X ah σ H s->bB vs us->t vs σ H Q ->
  aQ (aU X.prog X.w) X.A (assignInOrder ((cD ts X.env).map (·.2)) us) (λ_ s'=>∃σ' H',Inv X ah σ' H' s'/\Q σ' H') X.xe s
abbrev p6:=V->V->V->Hp->(Hp->Prop)->Prop
def uY (X:Cx)(t:p6):Prop :=
 ∀(ah:List (af×dq)) (s:aj) (σ:St) (H:Hp) (o i v:V) (ov iv u:ae) (Q:Hp->Prop),Inv X ah σ H s->RelV o ov->RelV i iv->RelV v u->t o i v H Q ->
  aQ (aU X.prog X.w) X.A (nc ov iv u) (λ_ s'=>∃H',Inv X ah σ H' s'/\Q H') X.xe s
abbrev yW:=V->V->Hp->VK->Prop
def yV (X:Cx)(op:iC)(t:yW):Prop :=
 ∀(ah:List (af×dq)) (s:aj) (σ:St) (H:Hp) (x y:V) (v u:ae) (Q:VK),Inv X ah σ H s->RelV x v->RelV y u->t x y H Q ->
  aQ (aU X.prog X.w) X.A (inplaceOp op v u) (EP X ah σ Q) X.xe s
section
variable {X:Cx}{pos:cx}
def oM (i:Nat):TG:=λv σ H Q=>Q (σ.set i (some v)) H
theorem Gj {i:Nat}{x:aL}(hN:X.N.Nodup)(hi:X.N[i]?=some x)(hx:Loc X.env.scope x)(hf:X.fn x=true\/X.env.scope.names.lookup x=some .local:=by first|exact .inl rfl|exact .inr rfl|assumption):PG X (.Name x pos) (oM i):=by
 intro ah s σ H v u Q I r h
 exact wpAny_assign_Name (Ki I hN hi hx r (λs' I'=>⟨_,H,I',h⟩) hf)
def Ih:tX:=λvs σ H Q=>vs=[]/\Q σ H
def B4 (t:TG)(u:tX):tX:=λvs σ H Q=>∃v r,vs=v::r/\t v σ H λσ' H'=>u r σ' H' Q
theorem OA:yU X [] Ih:=by
 intro ah s σ H vs us Q I r h
 obtain⟨e,h⟩:=h
 subst e
 cases r
 exact assignInOrder_nil ⟨σ,H,I,h⟩
theorem NZ {e:Expr}{es:List Expr}{t:TG}{u:tX}(h1:PG X e t)(h2:yU X es u)
  (hs:(cD (e::es) X.env).map (·.2)=gm e X.env::(cD es X.env).map (·.2):=by rfl):yU X (e::es) (B4 t u):=by
 intro ah s σ H vs us Q I r h
 obtain⟨v,vr,e1,h⟩:=h
 subst e1
 cases r with
 |cons r rr=>
  rw[hs]
  refine assignInOrder_cons (cP (h1 ah s σ H _ _ _ I r h) λ_ s1 df=>?_)
  obtain⟨σ1,H1,I1,q1⟩:=df
  exact h2 ah s1 σ1 H1 _ _ Q I1 rr q1
def Ij (K:aa)(n:Nat)(t:tX):TG:=λv σ H Q=>∃a xs,v=.ref a/\jP K H a xs/\xs.length=n/\t xs σ H Q
theorem Pa {es:List Expr}{k:Nat}{t:tX}{n:Nat}(hc:X.calm=true)(h:yU X es t)
  (hn:(cD es X.env).length=n:=by rfl) (lm:(cD es X.env).findIdx? (·.1)=none:=by rfl):PG X (.Tuple es k pos) (Ij X.K n t):=by
 intro ah s σ H v u Q I r hw
 obtain⟨a,xs,e1,hq,hl,hw⟩:=hw
 subst e1
 cases r
 obtain⟨bZ,rv,ht,hz⟩:=I.tuple hq
 refine assign_Tuple_tuple (I.ok.hd hc) ht (by simp[hn,←hl,rv.length]) lm λh' hx=>?_
 have I1:Inv X ah σ H { s with heap:=h' }:=I.kept (t':=s.toks) λb o e=>hx b o (aR (aB e)) e
 exact h ah _ σ H xs _ Q I1 (by simpa using rv) hw
def Ii (to ti:TE)(t:p6):TG:=λv σ H Q=>to σ H λo H1=>ti σ H1 λi H2=>t o i v H2 λH3=>Q σ H3
theorem Y8 {o i:Expr}{to ti:TE}{t:p6}(ho:PE X o to)(hi:PE X i ti)(hs:uY X t)
  (ha:∀v,gm (.Subscript o i pos) X.env v=(do
   let ov ← d7 [v] (bq o X.env)
   let iv ← d7 [v,ov] (bq i X.env)
   fW pos
   d7 [v,ov,iv] (nc ov iv v)
   release [v,ov,iv] []):=by intro _;rfl):PG X (.Subscript o i pos) (Ii to ti t):=by
 intro ah s σ H v u Q I r h
 rw[ha]
 refine av (oG (cP (ho ah s σ H _ I h) λov s1 df=>?_))
 obtain⟨x,H1,I1,r1,q1⟩:=df
 refine av (oG (cP (hi ah s1 σ H1 _ I1 q1) λiv s2 df=>?_))
 obtain⟨y,H2,I2,r2,q2⟩:=df
 refine av (kJ (av (oG (cP (hs ah s2 σ H2 x y v ov iv u _ I2 r1 r2 r q2) λ_ s3 df=>?_))))
 obtain⟨H3,I3,q3⟩:=df
 exact wpAny_release ⟨σ,H3,I3,q3⟩
def yD (te:TE)(g:TG):TS:=λD σ H=>te σ H λx H1=>g x σ H1 D.nx
theorem KI {tg e:Expr}{te:TE}{g:TG}(he:PE X e te)(hg:PG X tg g)(hs:kI [tg] e pos.line X.env=pure false:=by rfl)(hw:kH [tg] e X.env=pure none:=by rfl)
  (h1:(cD [tg] X.env).map (·.2)=[gm tg X.env]:=by rfl):PS X (.Assign [tg] e pos) (yD te g):=by
 intro ah s σ H D I h
 refine wpAny_Assign_stores (cP (he ah s σ H _ I h) λv s1 ⟨x,H1,I1,r1,q1⟩=>?_) hs hw
 rw[h1]
 exact cP (hg ah s1 σ H1 x v _ I1 r1 q1) λ_ s2 q=>q
theorem Pb {i:Nat}{x:aL}{e:Expr}{te:TE}{pos':cx}(hN:X.N.Nodup)(hi:X.N[i]?=some x)(hx:Loc X.env.scope x)(he:PE X e te)(hs:dn e (some (.Name x pos')) pos.line X.env=pure false:=by rfl)(hf:X.fn x=true\/X.env.scope.names.lookup x=some .local:=by first|exact .inl rfl|exact .inr rfl|assumption) :
  PS X (.Assign [.Name x pos'] e pos) (yD te (oM i)):=by
 intro ah s σ H D I h
 refine wpAny_Assign_Name (cP (he ah s σ H _ I h) λv s1 ⟨y,H1,I1,r1,q1⟩=>?_) hs
 exact Ki I1 hN hi hx r1 (λs2 I2=>⟨_,H1,I2,q1⟩) hf
def JI (i:Nat)(te:TE)(ti:yW):TS:=λD σ H=>∃x,σ[i]?=some (some x)/\te σ H λy H1=>ti x y H1 λz H2=>D.nx (σ.set i (some z)) H2
theorem Y9 {i:Nat}{x:aL}{e:Expr}{te:TE}{op:iC}{ti:yW}{pos':cx}(hN:X.N.Nodup)(hi:X.N[i]?=some x)(hx:Loc X.env.scope x)(he:PE X e te)(ho:yV X op ti)(hf:X.fn x=true\/X.env.scope.names.lookup x=some .local:=by first|exact .inl rfl|exact .inr rfl|assumption) :
  PS X (.AugAssign (.Name x pos') op e pos) (JI i te ti):=by
 intro ah s σ H D I h
 obtain⟨v,e1,h⟩:=h
 obtain⟨m,hn,hl⟩:=I.loc
 have UK:nw X.env.scope x:=by rcases hx with k|k;exact .inl k;exact .inr (.inl k)
 obtain⟨u,r,l⟩:=hl i x v hi e1 UK
 refine wpAny_AugAssign_Name ?_
 have go:aQ (aU X.prog X.w) X.A (bq e X.env) (λw s₂=>aQ (aU X.prog X.w) X.A (inplaceOp op u w) (λr s₃=>aQ (aU X.prog X.w) X.A (storeName X.env x r) (λ_=>SP X ah D .next) X.xe s₃) X.xe s₂) X.xe s:=by
  refine cP (he ah s σ H _ I h) λw s1 df=>?_
  obtain⟨y,H1,I1,r1,q1⟩:=df
  refine cP (ho ah s1 σ H1 v y u w _ I1 r r1 q1) λz s2 df=>?_
  obtain⟨zv,H2,I2,r2,q2⟩:=df
  exact Ki I2 hN hi hx r2 (λs3 I3=>⟨_,H2,I3,q2⟩) hf
 rcases l with⟨hk,hm⟩|⟨hk,c,hc,ma⟩
 ·exact wpAny_loadName_local I.ok.kind hk hn hm go
 ·rcases hk with hk|hk
  ·exact wpAny_loadName_cell I.ok.kind hk hc ma go
  ·rcases hx with k|k
   ·have:X.env.scope.names.lookup x=some .free:=hk
    rw[k]at this;cases this
   ·have:X.env.scope.names.lookup x=some .free:=hk
    rw[k]at this;cases this
def Eo (to ti te:TE)(tL:V->V->Hp->VK->Prop)(FL:yW)(tM:p6):TS:=λD σ H=>to σ H λo H1=>ti σ H1 λi H2=>tL o i H2 λx H3=>te σ H3 λy H4=>FL x y H4 λz H5=>tM o i z H5 λH6=>D.nx σ H6
def Ab (X:Cx)(t:V->V->Hp->VK->Prop):Prop :=
 ∀(ah:List (af×dq)) (s:aj) (σ:St) (H:Hp) (o i:V) (ov iv:ae) (Q:VK),Inv X ah σ H s->RelV o ov->RelV i iv->t o i H Q ->
  aQ (aU X.prog X.w) X.A (getItem ov iv) (EP X ah σ Q) X.xe s
theorem Yj {o i e:Expr}{to ti te:TE}{tL:V->V->Hp->VK->Prop}{FL:yW}{tM:p6}{op:iC}{iP:cx}(ho:PE X o to)(hi:PE X i ti)(hg:Ab X tL)(he:PE X e te)(hp:yV X op FL)(hs:uY X tM)
  (ha:∀ov iv new,augStore i ov iv new=(do d7 [new,ov,iv] (nc ov iv new);release [new,ov,iv] [];pure .next):=by intros;rfl):PS X (.AugAssign (.Subscript o i iP) op e pos) (Eo to ti te tL FL tM):=by
 intro ah s σ H D I h
 refine wpAny_AugAssign_SubscriptAny (cP (ho ah s σ H _ I h) λov s1 ⟨x1,H1,I1,r1,q1⟩=>?_) ha
 refine cP (hi ah s1 σ H1 _ I1 q1) λiv s2 df=>?_
 obtain⟨x2,H2,I2,r2,q2⟩:=df
 refine cP (hg ah s2 σ H2 x1 x2 ov iv _ I2 r1 r2 q2) λold s3 df=>?_
 obtain⟨x3,H3,I3,r3,q3⟩:=df
 refine cP (he ah s3 σ H3 _ I3 q3) λv s4 df=>?_
 obtain⟨x4,H4,I4,r4,q4⟩:=df
 refine cP (hp ah s4 σ H4 x3 x4 old v _ I4 r3 r4 q4) λnew s5 df=>?_
 obtain⟨x5,H5,I5,r5,q5⟩:=df
 exact cP (hs ah s5 σ H5 x1 x2 x5 ov iv new _ I5 r1 r2 r5 q5) λ_ s6 ⟨H6,I6,q6⟩=>⟨σ,H6,I6,q6⟩
def FA (f:Int->Int->Int):yW:=λx y H Q=>∃i j,x=.int i/\y=.int j/\Q (.int (f i j)) H
theorem Pc:yV X .Add (FA λi j=>i+j):=by
 intro ah s σ H x y v u Q I r1 r2 h
 obtain⟨i,j,e1,e2,q⟩:=h
 subst e1;subst e2
 obtain⟨t,rfl⟩:=r1
 obtain⟨t',rfl⟩:=r2
 exact iadd_int ⟨.int _,H,I.tok _,⟨_,rfl⟩,q⟩
theorem Pd:yV X .Sub (FA λi j=>i-j):=by
 intro ah s σ H x y v u Q I r1 r2 h
 obtain⟨i,j,e1,e2,q⟩:=h
 subst e1;subst e2
 obtain⟨t,rfl⟩:=r1
 obtain⟨t',rfl⟩:=r2
 exact isub_int ⟨.int _,H,I.tok _,⟨_,rfl⟩,q⟩
end
section
variable {X:Cx}{pos:cx}
def yK (c:TT)(tb:TS):TS:=λD σ H=>∃W:Nat->St->Hp->Prop,(∃m,W m σ H)/\∀m σ H,W m σ H ->
 c σ H λb H1=>if b=true then∃N:St->Hp->Prop,(∀σ' H',N σ' H'->∃m',m'<m/\W m' σ' H')/\tb { D with nx:=N,ct:=N,bk:=D.nx } σ H1 else D.nx σ H1
theorem W5 {c:Expr}{body:List bP}{tc:TT}{tb:TS}(hp:bW (aU X.prog X.w) X.A X.env X.xe)(hc:PT X c tc)(hb:oI X body tb):PS X (.While c body [] pos) (yK tc tb):=by
 intro ah s σ H D I h
 obtain⟨W,⟨m0,w0⟩,bY⟩:=h
 refine wpAny_While (codeAny_whileLoop (λn s'=>∃σ' H',Inv X ah σ' H' s'/\W n σ' H') ?_ m0 ⟨σ,H,I,w0⟩)
 rintro n s1 ⟨σ1,H1,I1,w1⟩
 refine ej hp (cP (hc ah s1 σ1 H1 _ I1 (bY n σ1 H1 w1)) λb s2 df=>?_)
 obtain⟨H2,I2,q2⟩:=df
 cases b with
 |true=>
  obtain⟨N,hN,q2⟩:=q2
  rw[if_pos rfl]
  refine ej hp (cP (hb ah s2 σ1 H2 _ I2 q2) λf s3 q3=>?_)
  cases f with
  |next=>
   obtain⟨σ3,H3,I3,n3⟩:=q3
   obtain⟨m',hm,w3⟩:=hN σ3 H3 n3
   exact⟨m',hm,σ3,H3,I3,w3⟩
  |cont=>
   obtain⟨σ3,H3,I3,n3⟩:=q3
   obtain⟨m',hm,w3⟩:=hN σ3 H3 n3
   exact⟨m',hm,σ3,H3,I3,w3⟩
  |brk=>exact q3
  |ret v=>exact q3
 |false=>
  rw[if_neg aN]
  exact i8 ⟨σ1,H2,I2,q2⟩
end
structure It where
 go:Nat->Hp->Prop
 yld:Nat->Hp->V->Hp->Prop
 stop:Nat->Hp->Prop
def jO (X:Cx)(ah:List (af×dq))(H:Hp)(b:af):Prop :=
 H b=none/\b≠X.env.locals/\b∉X.fs/\(b∈X.ex\/X.s₀.heap.objs.size<=b)/\(∀x c,X.env.cells.lookup x=some c->c≠b)/\∀p∈X.pn++ah,p.1≠b
theorem Inv.fpOk {X:Cx}{ah:List (af×dq)}{σ:St}{H H':Hp}{s:aj}{b:af}(I:Inv X ah σ H s)(hb:s.heap.objs.size<=b)(hn:H' b=none):jO X ah H' b:=by
 refine⟨hn,gd (aV I.lt hb),I.nofs hb,.inr (cu I.sz hb),λx c e z=>?_,λp hp z=>?_⟩
 ·obtain⟨v,q⟩:=I.cell x c e
  exact absurd (aV q.lt (by rw[z];exact hb)) (dY _)
 ·exact absurd (aV (aB (I.pin p hp).1) (by rw[z];exact hb)) (dY _)
structure Turn (P:ba)(w:bM)(K:aa)(tg:Expr)(J:It)(fp:List af)(it:af)(tn:Nat->aG->Prop):Prop where
 mem:it∈fp
 obj:∀i h,tn i h->∀b∈fp,∃o,h.get? b=some o/\∀v,o.data≠.cell v
 keep:∀i h h',tn i h->(∀b∈fp,∀o,h.get? b=some o->h'.get? b=some o)->tn i h'
 item:∀(X:Cx),X.prog=P->X.w=w->X.K=K->X.calm=true->∀(i:Nat) (ah:List (af×dq)) (s:aj) (σ:St) (H:Hp) (E:ae->aj->Prop),Inv X ah σ H s->(∀b∈fp,jO X ah H b)->tn i s.heap->J.go i H ->
  aQ (aU P w) X.A (pyNext (.ref it)) (λr s1=>∃u,r=some u /\
   aQ (aU P w) X.A (gp tg (.ref it) u) (λ_ s2=>∃x H',Inv X ah σ H' s2/\RelV x u/\J.yld i H x H'/\tn (i+1) s2.heap/\∀b∈fp,H' b=none) E s1) E s
 done:∀(X:Cx),X.prog=P->X.w=w->X.K=K->X.calm=true->∀(i:Nat) (ah:List (af×dq)) (s:aj) (σ:St) (H:Hp) (E:ae->aj->Prop),Inv X ah σ H s->(∀b∈fp,jO X ah H b)->tn i s.heap->J.stop i H ->
  aQ (aU P w) X.A (pyNext (.ref it)) (λr s1=>r=none/\Inv X ah σ H s1) E s
 self:∀(A:bD) (i:Nat) (s:aj) (Q:ae->aj->Prop) (E:ae->aj->Prop),tn i s.heap->Q (.ref it) s->aQ (aU P w) A (pyIter (.ref it)) Q E s
abbrev TI:=St->Hp->(It->Hp->Prop)->Prop
def KZ (X:Cx)(ah:List (af×dq))(σ:St)(tg:Expr)(R:It->Hp->Prop)(FB:ae)(s2:aj):Prop :=
 ∃(it:af) (fp:List af) (tn:Nat->aG->Prop) (J:It) (H':Hp),FB=.ref it/\Inv X ah σ H' s2/\Turn X.prog X.w X.K tg J fp it tn/\tn 0 s2.heap/\(∀b∈fp,jO X ah H' b)/\R J H'
def PI (X:Cx)(tg iter:Expr)(wi:TI):Prop :=
 ∀(ah:List (af×dq)) (s:aj) (σ:St) (H:Hp) (R:It->Hp->Prop),Inv X ah σ H s->wi σ H R ->
  aQ (aU X.prog X.w) X.A (bq iter X.env) (λv s1=>aQ (aU X.prog X.w) X.A (pyIter v) (KZ X ah σ tg R) X.xe s1) X.xe s
theorem GL {M:Model}{A:bD}{E:ae->aj->Prop}{s:aj}{tg:Expr}{it:af}{u:ae}{o:dq}{n:String}{vs:Array ae}{Q:Unit->aj->Prop}(ho:s.heap.get? it=some o)(hc:o.cls=.type n)(hd:o.data=.fields vs)
    (hn:["enumerate","zip","dict_itemiterator","dict_reverseitemiterator","odict_iterator","itertools.zip_longest","itertools.pairwise"].contains n=false) (hQ:Q () s):aQ M A (gp tg (.ref it) u) Q E s:=by
  unfold gp
  cases tg<;>first
    |exact bc hQ
    |(cases u<;>first
        |exact bc hQ
        |(refine av (wpAny_load ho ?_)
          rw[hc,hd]
          show aQ M A (if(["enumerate","zip","dict_itemiterator","dict_reverseitemiterator","odict_iterator","itertools.zip_longest","itertools.pairwise"].contains n&&vs[0]?==some (rawInt _))=true then _ else _) Q E s
          rw[if_neg (by intro h;rw[hn,Bool.false_and]at h;cases h)]
          exact bc hQ))
def GY (K:aa)(a:af):It :=
 ⟨λi H=>∃xs x,dC K H a xs/\xs[i]?=some x,λi H x H'=>H'=H/\∀xs,dC K H a xs->xs[i]?=some x,λi H=>∃xs,dC K H a xs/\xs.length<=i⟩
def zY (lo:Int)(n:Nat):It:=⟨λi _=>i<n,λi H x H'=>H'=H/\x=.int (lo+i),λi _=>n<=i⟩
theorem VO {P:ba}{w:bM}{K:aa}{tg:Expr}(a it:af):Turn P w K tg (GY K a) [it] it (λi h=>h.IsListIter it a i) where
 mem:=by simp
 obj:=λi h st b hb=>by
  have e:b=it:=by simpa using hb
  subst e
  obtain⟨o,e,c,d⟩:=st
  exact⟨o,e,λv z=>by rw[d]at z;cases z⟩
 keep:=λi h h' st k=>st.at λo e=>k it (by simp) o e
 item:=by
  intro X hP hw hK hc i ah s σ H E I hf st hg
  subst hP hw hK
  obtain⟨xs,x,hq,hx⟩:=hg
  obtain⟨bZ,rv,p,hz⟩:=I.list hq
  obtain⟨u,hu,ru⟩:=rv.get hx
  obtain⟨f0,f1,f2,f3,f4,f5⟩:=hf it (by simp)
  refine wpAny_pyNext_list_item st p.isList (x:=u) (by simpa using hu) λh' nN sb=>?_
  have I1:Inv X ah σ H { s with heap:=h' }:=I.turned (t':=s.toks) (λb o hb e=>(sb.2 b hb).trans e) f0 f1 f3 f4 f5
  obtain⟨o,e,c,d⟩:=id nN
  exact⟨u,rfl,GL (s:={ s with heap:=h' }) e c d (by decide) ⟨x,H,I1,ru,⟨rfl,λys hy=>by rw[I.list_inj hy hq];exact hx⟩,nN,λb hb=>(hf b hb).1⟩⟩
 done:=by
  intro X hP hw hK hc i ah s σ H E I hf st hg
  subst hP hw hK
  obtain⟨xs,hq,hx⟩:=hg
  obtain⟨bZ,rv,p,hz⟩:=I.list hq
  obtain⟨f0,f1,f2,f3,f4,f5⟩:=hf it (by simp)
  have hl:=rv.length
  exact wpAny_pyNext_list_end (I.ok.hd hc) st p.isList (by simp;omega) λh' eb=>⟨rfl,I.turned (t':=s.toks) (λb o hb e=>eb b o hb e) f0 f1 f3 f4 f5⟩
 self:=λ_ _ _ _ _ st h=>wpAny_pyIter_listiter st h
theorem VS {P:ba}{w:bM}{K:aa}{tg:Expr}(it:af)(lo:Int)(n:Nat):Turn P w K tg (zY lo n) [it] it (λi h=>IsRangeIter h it (lo+(i:Nat)*1) ((n:Int)-(i:Nat)) 1) where
 mem:=by simp
 obj:=λi h st b hb=>by
  have e:b=it:=by simpa using hb
  subst e
  exact⟨_,st,λv z=>by
   have z':oF.fields _=oF.cell v:=z
   cases z'⟩
 keep:=λi h h' st k=>k it (by simp) _ st
 item:=by
  intro X hP hw hK hc i ah s σ H E I hf st hg
  subst hP hw hK
  obtain⟨f0,f1,f2,f3,f4,f5⟩:=hf it (by simp)
  have W:=Walks.range (prog:=X.prog) (w:=X.w) (I.ok.hd hc) it lo 1 n
  refine W.item i s _ _ hg st λv h' tk hv nN kk=>?_
  obtain⟨t,rfl⟩:=hv
  have I1:Inv X ah σ H { s with heap:=h',toks:=tk }:=I.turned (λb o hb e=>kk b o (by simpa using hb) e) f0 f1 f3 f4 f5
  refine⟨_,rfl,GL (s:={ s with heap:=h',toks:=tk }) (n:="range_iterator") nN rfl rfl (by decide) ⟨.int (lo+i),H,I1,⟨t,?_⟩,⟨rfl,rfl⟩,nN,λb hb=>(hf b hb).1⟩⟩
  rw[Int.mul_one]
 done:=by
  intro X hP hw hK hc i ah s σ H E I hf st hg
  subst hP hw hK
  obtain⟨f0,f1,f2,f3,f4,f5⟩:=hf it (by simp)
  exact wpAny_pyNext_range_end (I.ok.hd hc) st (by have:n<=i:=hg;omega) λh' eb=>⟨rfl,I.turned (t':=s.toks) (λb o hb e=>eb b o hb e) f0 f1 f3 f4 f5⟩
 self:=λ_ _ _ _ _ st h=>wpAny_pyIter_rangeiter st h
end L2
namespace L2
open PySem PySem.Spec PyProof.Rows
section
variable {X:Cx}{tg:Expr}
def CG (K:aa)(tl:TE):TI:=λσ H R=>tl σ H λx H1=>∃a,x=.ref a/\(∃xs,dC K H1 a xs)/\R (GY K a) H1
theorem OB {l:Expr}{tl:TE}(hl:PE X l tl):PI X tg l (CG X.K tl):=by
 intro ah s σ H R I h
 refine cP (hl ah s σ H _ I h) λv s1 df=>?_
 obtain⟨x,H1,I1,r1,q1⟩:=df
 obtain⟨a,e,⟨xs,hq⟩,q⟩:=q1
 subst e
 cases r1
 obtain⟨bZ,rv,p,hz⟩:=I1.list hq
 refine fF p.isList ?_
 refine⟨s1.heap.objs.size,[s1.heap.objs.size],_,_,H1,rfl,I1.kept (t':=s1.toks) λb o e=>am _ e,VO a _,⟨_,aT _ rfl,rfl,rfl⟩,λb hb=>?_,q⟩
 have e:b=s1.heap.objs.size:=by simpa using hb
 subst e
 exact I1.fpOk (aE _) (I1.hok.fresh (aE _))
theorem N1 {ah:List (af×dq)}{σ:St}{H:Hp}{s:aj}{R:It->Hp->Prop}{E:ae->aj->Prop}{lo hi:Int}{t u v:Tok}{tk:Nat}(I:Inv X ah σ H s)(h1:-(2 ^ 62)<=lo)(h2:lo<2 ^ 62)(h3:-(2 ^ 62)<=hi)(h4:hi<2 ^ 62)
    (q:R (zY lo (hi-lo).toNat) H):aQ (aU X.prog X.w) X.A (pyIter (.ref s.heap.objs.size)) (KZ X ah σ tg R) E { s with heap:=s.heap.push { cls:=.type "range",data:=.fields #[.int lo t,.int hi u,.int 1 v] },toks:=tk }:=by
  refine wpAny_pyIter_range (IsRange.new ..) (small_one h1 h2 h3 h4) ?_
  have I1:Inv X ah σ H { s with heap:=s.heap.push { cls:=.type "range",data:=.fields #[.int lo t,.int hi u,.int 1 v] },toks:=tk }:=I.kept λb o e=>am _ e
  refine⟨(s.heap.push { cls:=.type "range",data:=.fields #[.int lo t,.int hi u,.int 1 v] }).objs.size,[(s.heap.push { cls:=.type "range",data:=.fields #[.int lo t,.int hi u,.int 1 v] }).objs.size],_,_,H,rfl,
    I1.kept (t':=tk) λb o e=>am _ e,VS _ lo (hi-lo).toNat,?_,λb hb=>?_,q⟩
  · have e1:lo+((0:Nat):Int)*1=lo:=by simp
    have e2:(((hi-lo).toNat:Nat):Int)-((0:Nat):Int)=dc.Range.rangeSize lo hi 1:=by rw[rangeSize_one];split<;>omega
    show IsRangeIter _ _ (lo+((0:Nat):Int)*1) ((((hi-lo).toNat:Nat):Int)-((0:Nat):Int)) 1
    rw[e1,e2]
    exact aT _ rfl
  · have e:b=(s.heap.push { cls:=.type "range",data:=.fields #[.int lo t,.int hi u,.int 1 v] }).objs.size:=by simpa using hb
    subst e
    exact I1.fpOk (aE _) (I1.hok.fresh (aE _))
def CH (ta:TA):TI:=λσ H R=>ta σ H λvs H1=>∃j:Int,vs=[.int j]/\-(2 ^ 62)<=j/\j<2 ^ 62/\R (zY 0 j.toNat) H1
def CI (ta:TA):TI:=λσ H R=>ta σ H λvs H1=>∃i j:Int,vs=[.int i,.int j]/\(-(2 ^ 62)<=i/\i<2 ^ 62/\-(2 ^ 62)<=j/\j<2 ^ 62)/\R (zY i (j-i).toNat) H1
theorem VP {a:Expr}{ta:TA}{p pos:cx}(hg:Gl X "range")(hm:X.mg "range"=none)(ha:PA X [a] ta)(hs:aq [a] X.env=[(false,bq a X.env)]:=by rfl):PI X tg (.Call (.Name "range" p) [a] [] pos) (CH ta):=by
 intro ah s σ H R I h
 refine Call_ (qy I hg hm boot_range (bJ (cP (ha pos ah s σ H _ I h) λus s1 ⟨vs,H1,I1,r1,q1⟩=>?_) hs rfl))
 obtain⟨j,e,q1,q2,q⟩:=q1
 subst e
 cases r1 with
 |cons r rr=>
  cases rr
  obtain⟨t,rfl⟩:=r
  exact call_range_1 (N1 I1 (by omega) (by omega) q1 q2 (by simpa using q))
theorem VQ {a b:Expr}{ta:TA}{p pos:cx}(hg:Gl X "range")(hm:X.mg "range"=none)(ha:PA X [a,b] ta)(hs:aq [a,b] X.env=[(false,bq a X.env),(false,bq b X.env)]:=by rfl)(jJ:aq [b] X.env=[(false,bq b X.env)]:=by rfl) :
  PI X tg (.Call (.Name "range" p) [a,b] [] pos) (CI ta):=by
 intro ah s σ H R I h
 refine Call_ (qy I hg hm boot_range (bJ (cP (ha pos ah s σ H _ I h) λus s1 ⟨vs,H1,I1,r1,q1⟩=>?_) (by rw[hs,jJ]) (by rw[jJ];rfl)))
 obtain⟨i,j,e,⟨q1,q2,q3,q4⟩,q⟩:=q1
 subst e
 cases r1 with
 |cons r rr=>
  cases rr with
  |cons r' rr=>
   cases rr
   obtain⟨t,rfl⟩:=r
   obtain⟨t',rfl⟩:=r'
   exact call_range_2 (N1 I1 q1 q2 q3 q4 q)
def JN (wi:TI)(g:TG)(tb:TS):TS:=λD σ H=>wi σ H λJ H1=>∃W:Nat->Nat->St->Hp->Prop,(∃m,W 0 m σ H1)/\∀i m σ H,W i m σ H ->
 (J.stop i H/\D.nx σ H)\/(J.go i H/\∃N:St->Hp->Prop,(∀σ' H',N σ' H'->∃m',m'<m/\W (i+1) m' σ' H')/\∀x H',J.yld i H x H'->g x σ H' λσ2 H2=>tb { D with nx:=N,ct:=N,bk:=D.nx } σ2 H2)
def kj (fp:List af)(h:aG):List (af×dq):=fp.filterMap λb=>(h.get? b).map λo=>(b,o)
theorem jc {fp:List af}{h:aG}{b:af}{o:dq}(hb:b∈fp)(e:h.get? b=some o):(b,o)∈kj fp h:=oY.mpr ⟨b,hb,by rw[e];rfl⟩
theorem VR {fp:List af}{h:aG}{p:af×dq}(hp:p∈kj fp h):p.1∈fp/\h.get? p.1=some p.2:=by
 obtain⟨b,hb,e⟩:=oY.mp hp
 cases q:h.get? b with
 |none=>rw[q]at e;cases e
 |some o=>
  rw[q]at e
  have e':(b,o)=p:=Option.some.inj e
  subst e'
  exact⟨hb,q⟩
theorem Inv.pinned {ah:List (af×dq)}{σ:St}{H:Hp}{s:aj}{fp:List af}(I:Inv X ah σ H s)(hf:∀b∈fp,jO X ah H b)(ho:∀b∈fp,∃o,s.heap.get? b=some o/\∀v,o.data≠.cell v):Inv X (ah++kj fp s.heap) σ H s :=
 I.pins_of λp hp=>(bz.mp hp).elim (λz=>I.pin p (aF _ z)) λz=>by
  obtain⟨hb,e⟩:=VR z
  obtain⟨f0,f1,f2,_⟩:=hf p.1 hb
  obtain⟨o,e',d⟩:=ho p.1 hb
  rw[e]at e';cases e'
  exact⟨e,f0,f1,f2,d⟩
theorem Inv.unpinned {ah pl:List (af×dq)}{σ:St}{H:Hp}{s:aj}(I:Inv X (ah++pl) σ H s):Inv X ah σ H s:=I.pins_of λp hp=>I.pin p (aF _ (bF _ hp))
theorem Za {iter:Expr}{body:List bP}{wi:TI}{g:TG}{tb:TS}{pos:cx}(hp:bW (aU X.prog X.w) X.A X.env X.xe)(hc:X.calm=true)(hi:PI X tg iter wi)(hg:PG X tg g)(hb:oI X body tb)
  (hs:∀x,dm iter X.env x=pure x:=by intro _;rfl):PS X (.For tg iter body [] pos) (JN wi g tb):=by
 intro ah s σ H D I h
 refine wpAny_For (cP (hi ah s σ H _ I h) λv s1 h1=>cP h1 λFB s2 h2=>?_) hs
 obtain⟨it,fp,tn,J,H2,e,I2,T,sd,f2,W,⟨m0,w0⟩,bY⟩:=h2
 subst e
 have lC:∀{H':Hp},(∀b∈fp,H' b=none)->∀b∈fp,jO X ah H' b:=λhn b hb=>⟨hn b hb,(f2 b hb).2⟩
 refine codeAny_forLoop_any (λn s'=>∃i σ' H',Inv X ah σ' H' s'/\tn i s'.heap/\(∀b∈fp,H' b=none)/\W i n σ' H') ?_ m0 ⟨0,σ,H2,I2,sd,λb hb=>(f2 b hb).1,w0⟩
 rintro n s3 ⟨i,σ3,H3,I3,MF,Ly,w3⟩
 rcases bY i n σ3 H3 w3 with⟨stop,qn⟩|⟨go,N,hN,step⟩
 ·refine ej hp (cP (T.done X rfl rfl rfl hc i ah s3 σ3 H3 X.xe I3 (lC Ly) MF stop) λr s4 df=>?_)
  obtain⟨hr,I4⟩:=df
  subst hr
  exact i8 ⟨σ3,H3,I4,qn⟩
 ·refine ej hp (cP (T.item X rfl rfl rfl hc i ah s3 σ3 H3 X.xe I3 (lC Ly) MF go) λr s4 df=>?_)
  obtain⟨u,hr,h4⟩:=df
  subst hr
  refine ej hp (cP h4 λ_ s5 df=>?_)
  obtain⟨x,H5,I5,r5,y5,tI,wK⟩:=df
  have Qf:=I5.pinned (lC wK) (T.obj _ _ tI)
  refine ej hp (cP (hg _ s5 σ3 H5 x u _ Qf r5 (step x H5 y5)) λ_ s6 df=>?_)
  obtain⟨σ6,H6,I6,q6⟩:=df
  refine ej hp (cP (hb _ s6 σ6 H6 _ I6 q6) λf s7 q7=>?_)
  have again:∀{σ7:St} {H7:Hp},Inv X (ah++kj fp s5.heap) σ7 H7 s7->N σ7 H7->∃m,m<n/\∃i σ' H',Inv X ah σ' H' s7/\tn i s7.heap/\(∀b∈fp,H' b=none)/\W i m σ' H':=λ{σ7 H7} I7 n7=>by
   obtain⟨m',hm,w7⟩:=hN σ7 H7 n7
   refine⟨m',hm,i+1,σ7,H7,I7.unpinned,T.keep _ _ _ tI λb hb o e=>(I7.pin (b,o) (aF _ (aF _ (jc hb e)))).1,λb hb=>?_,w7⟩
   obtain⟨o,e,d⟩:=T.obj _ _ tI b hb
   exact(I7.pin (b,o) (aF _ (aF _ (jc hb e)))).2.1
  cases f with
  |next=>obtain⟨σ7,H7,I7,n7⟩:=q7;exact again I7 n7
  |cont=>obtain⟨σ7,H7,I7,n7⟩:=q7;exact again I7 n7
  |brk=>obtain⟨σ7,H7,I7,q7⟩:=q7;exact⟨σ7,H7,I7.unpinned,q7⟩
  |ret v=>obtain⟨x7,σ7,H7,I7,r7,q7⟩:=q7;exact⟨x7,σ7,H7,I7.unpinned,r7,q7⟩
end
end L2
namespace L2
open PySem PySem.Spec PyProof.Rows
abbrev R2:=V->V->Hp->VK->Prop
def fL (X:Cx)(f:ae->ae->m9 ae)(r:R2):Prop :=
 ∀(ah:List (af×dq)) (s:aj) (σ:St) (H:Hp) (x y:V) (v u:ae) (Q:VK),Inv X ah σ H s->RelV x v->RelV y u->r x y H Q ->
  aQ (aU X.prog X.w) X.A (f v u) (EP X ah σ Q) X.xe s
def E5 (X:Cx)(f:ae->m9 ae)(r:V->Hp->VK->Prop):Prop :=
 ∀(ah:List (af×dq)) (s:aj) (σ:St) (H:Hp) (x:V) (v:ae) (Q:VK),Inv X ah σ H s->RelV x v->r x H Q ->
  aQ (aU X.prog X.w) X.A (f v) (EP X ah σ Q) X.xe s
def eE (X:Cx)(f:ae)(r:List V->Hp->VK->Prop):Prop :=
 ∀(ah:List (af×dq)) (s:aj) (σ:St) (H:Hp) (xs:List V) (us:List ae) (Q:VK),Inv X ah σ H s->bB xs us->r xs H Q ->
  aQ (aU X.prog X.w) X.A (call f us) (EP X ah σ Q) X.xe s
def FI (r:R2)(ta tb:TE):TE:=λσ H Q=>ta σ H λx H1=>tb σ H1 λy H2=>r x y H2 Q
def UA (r:V->Hp->VK->Prop)(ta:TE):TE:=λσ H Q=>ta σ H λx H1=>r x H1 Q
def rI (C:Int->Int->Prop)(g:Int->Int->V):R2:=λx y H Q=>∃i j,x=.int i/\y=.int j/\C i j/\Q (g i j) H
def nM (g:Int->Int->V):R2:=λx y H Q=>∃i j,x=.int i/\y=.int j/\Q (g i j) H
def rU (g:Int->V):V->Hp->VK->Prop:=λx H Q=>∃i,x=.int i/\Q (g i) H
section
variable {X:Cx}{a b c:Expr}{ta tb tc:TE}{pos:cx}
theorem vB (ha:PE X a ta)(hb:PE X b tb){ah:List (af×dq)}{s:aj}{σ:St}{H:Hp}{R:V->V->Hp->Prop}(I:Inv X ah σ H s)
  (h:ta σ H λx H1=>tb σ H1 λy H2=>R x y H2) {Q:ae->aj->Prop} {f:ae->ae->m9 ae}
  (hf:∀v u s2 x y H2,Inv X ah σ H2 s2->RelV x v->RelV y u->R x y H2->aQ (aU X.prog X.w) X.A (f v u) Q X.xe s2) :
  aQ (aU X.prog X.w) X.A (bq a X.env) (λv s₁=>aQ (aU X.prog X.w) X.A (bq b X.env) (λu s₂=>aQ (aU X.prog X.w) X.A (f v u) Q X.xe s₂) X.xe s₁) X.xe s:=by
 refine cP (ha ah s σ H _ I h) λv s1 df=>?_
 obtain⟨x,H1,I1,r1,q1⟩:=df
 refine cP (hb ah s1 σ H1 _ I1 q1) λu s2 df=>?_
 obtain⟨y,H2,I2,r2,q2⟩:=df
 exact hf v u s2 x y H2 I2 r1 r2 q2
theorem KW {op:iC}{r:R2}(ho:fL X (dF op) r)(ha:PE X a ta)(hb:PE X b tb):PE X (.BinOp a op b pos) (FI r ta tb):=by
 intro ah s σ H Q I h
 exact wpAny_BinOp (vB ha hb I h λv u s2 x y H2 I2 rx ry q=>ho ah s2 σ H2 x y v u Q I2 rx ry q)
theorem zsz {op:UnaryOp}{r:V->Hp->VK->Prop}(ho:E5 X (unaryOp op) r)(ha:PE X a ta):PE X (.UnaryOp op a pos) (UA r ta):=by
 intro ah s σ H Q I h
 exact UnaryOp_ (cP (ha ah s σ H _ I h) λv s1 ⟨x,H1,I1,r1,q1⟩=>ho ah s1 σ H1 x v Q I1 r1 q1)
theorem zG {f:ae->ae->m9 ae}{C:Int->Int->Prop}{g:Int->Int->Int}
  (rule:∀(i j:Int) (t u:Tok) (s:aj) (Q:ae->aj->Prop) (E:ae->aj->Prop),C i j->Q (.int (g i j) s.toks) { s with toks:=s.toks+1 }->aQ (aU X.prog X.w) X.A (f (.int i t) (.int j u)) Q E s) :
  fL X f (rI C λi j=>.int (g i j)):=by
 intro ah s σ H x y v u Q I rx ry h
 obtain⟨i,j,rfl,rfl,hc,q⟩:=h
 obtain⟨t,rfl⟩:=rx
 obtain⟨t',rfl⟩:=ry
 exact rule i j t t' s _ _ hc ⟨.int (g i j),H,I.tok _,⟨_,rfl⟩,q⟩
theorem DA {f:ae->ae->m9 ae}{g:Int->Int->Int}
  (rule:∀(i j:Int) (t u:Tok) (s:aj) (Q:ae->aj->Prop) (E:ae->aj->Prop),Q (.int (g i j) s.toks) { s with toks:=s.toks+1 }->aQ (aU X.prog X.w) X.A (f (.int i t) (.int j u)) Q E s) :
  fL X f (nM λi j=>.int (g i j)):=by
 intro ah s σ H x y v u Q I rx ry h
 obtain⟨i,j,rfl,rfl,q⟩:=h
 obtain⟨t,rfl⟩:=rx
 obtain⟨t',rfl⟩:=ry
 exact rule i j t t' s _ _ ⟨.int (g i j),H,I.tok _,⟨_,rfl⟩,q⟩
theorem tw {f:ae->ae->m9 ae}{g:Int->Int->Bool}
  (rule:∀(i j:Int) (t u:Tok) (s:aj) (Q:ae->aj->Prop) (E:ae->aj->Prop),Q (.bool (g i j)) s->aQ (aU X.prog X.w) X.A (f (.int i t) (.int j u)) Q E s) :
  fL X f (nM λi j=>.bl (g i j)):=by
 intro ah s σ H x y v u Q I rx ry h
 obtain⟨i,j,rfl,rfl,q⟩:=h
 obtain⟨t,rfl⟩:=rx
 obtain⟨t',rfl⟩:=ry
 exact rule i j t t' s _ _ ⟨.bl (g i j),H,I,rfl,q⟩
def sk (i j:Int):Prop:=0<=j/\j<=1000000/\i.natAbs<2 ^ 64
def uU (i j:Int):Prop:=(-(2 ^ 64)<i/\i<2 ^ 64)\/(-(2 ^ 64)<j/\j<2 ^ 64)
theorem uU.ok {i j:Int}(h:uU i j):IntMulOk i j:=by
 rcases h with⟨h1,h2⟩|⟨h1,h2⟩
 ·exact .of_left (intBits_le_64 h1 h2)
 ·exact .of_right (intBits_le_64 h1 h2)
theorem VT (k:Nat):(0:Int)<=2 ^ k:=by
 rw[two_pow_cast]
 exact Int.natCast_nonneg _
theorem Zb:fL X (dF .Add) (nM λi j=>.int (i+j)):=DA λ_ _ _ _ _ _ _ q=>add_int q
theorem u4:fL X (dF .Sub) (nM λi j=>.int (i-j)):=DA λ_ _ _ _ _ _ _ q=>sub_int q
theorem xu:fL X (dF .Mod) (rI (λ_ j=>j≠0) λi j=>.int (i.fmod j)):=zG λ_ _ _ _ _ _ _ hc q=>mod_int' hc q
theorem KM:fL X (dF .Pow) (rI sk λi j=>.int (i ^ j.toNat)):=zG λ_ _ _ _ _ _ _ hc q=>pow_int_small hc.1 hc.2.1 hc.2.2 q
theorem Zc:fL X (dF .LShift) (rI sk λi j=>.int (i*2 ^ j.toNat)):=zG λ_ _ _ _ _ _ _ hc q=>lshift_int_small hc.1 hc.2.1 hc.2.2 q
theorem Pe:fL X (dF .RShift) (rI (λ_ j=>0<=j) λi j=>.int (i/2 ^ j.toNat)):=zG λi j _ _ _ _ _ hc q=>
 rshift_int hc (by rw[lT i (VT _)];exact q)
theorem UJ {f:ae->m9 ae}{g:Int->Int}
  (rule:∀(i:Int) (t:Tok) (s:aj) (Q:ae->aj->Prop) (E:ae->aj->Prop),Q (.int (g i) s.toks) { s with toks:=s.toks+1 }->aQ (aU X.prog X.w) X.A (f (.int i t)) Q E s) :
  E5 X f (rU λi=>.int (g i)):=by
 intro ah s σ H x v Q I rx h
 obtain⟨i,rfl,q⟩:=h
 obtain⟨t,rfl⟩:=rx
 exact rule i t s _ _ ⟨.int (g i),H,I.tok _,⟨_,rfl⟩,q⟩
theorem Zd:E5 X (unaryOp .USub) (rU λi=>.int (-i)):=UJ λ_ _ _ _ _ q=>neg_int q
end
section
variable {X:Cx}{a b c:Expr}{ta tb tc:TE}{pos:cx}
theorem GA {ah:List (af×dq)}{σ:St}{H:Hp}{s:aj}{Q:VK}{k k':Bool}(I:Inv X ah σ H s)(q:Q (.bl k) H)(e:k=k'):EP X ah σ Q (.bool k') s:=by
 subst e
 exact⟨.bl k,H,I,rfl,q⟩
theorem uS:fL X (cB .Lt) (nM λi j=>.bl (decide (i<j))):=tw λ_ _ _ _ _ _ _ q=>lt_int q
theorem zs0:fL X (cB .LtE) (nM λi j=>.bl (decide (i<=j))):=tw λ_ _ _ _ _ _ _ q=>le_int q
theorem tQ:fL X (cB .Gt) (nM λi j=>.bl (decide (j<i))):=tw λ_ _ _ _ _ _ _ q=>gt_int q
theorem GM:fL X (cB .GtE) (nM λi j=>.bl (decide (j<=i))):=tw λ_ _ _ _ _ _ _ q=>ge_int q
theorem Ze:fL X (cB .Is) (λx y H Q=>y=.non/\Q (.bl (decide (x=.non))) H):=by
 intro ah s σ H x y v u Q I rx ry h
 obtain⟨rfl,q⟩:=h
 cases ry
 refine is_none_gen (GA I q ?_)
 cases x<;>first
  |(cases rx;rfl)
  |(obtain⟨t,rfl⟩:=rx;rfl)
theorem Yk:fL X (cB .IsNot) (λx y H Q=>y=.non/\Q (.bl (!decide (x=.non))) H):=by
 intro ah s σ H x y v u Q I rx ry h
 obtain⟨rfl,q⟩:=h
 cases ry
 refine isnot_none_gen (GA I q ?_)
 cases x<;>first
  |(cases rx;rfl)
  |(obtain⟨t,rfl⟩:=rx;rfl)
theorem fL.or {f:ae->ae->m9 ae}{r r':R2}(h:fL X f r)(h':fL X f r'):fL X f (λx y H Q=>r x y H Q\/r' x y H Q):=by
 intro ah s σ H x y v u Q I rx ry q
 rcases q with q|q
 ·exact h ah s σ H x y v u Q I rx ry q
 ·exact h' ah s σ H x y v u Q I rx ry q
theorem bg (b:Expr){op:kG}(h:op≠.In:=by decide)(h2:op≠.NotIn:=by decide):dz op b=false:=by
 have e1:(op==kG.In)=false:=by cases op<;>first|rfl|exact absurd rfl h
 have e2:(op==kG.NotIn)=false:=by cases op<;>first|rfl|exact absurd rfl h2
 cases b<;>simp[dz,e1,e2]
theorem Yl {op:kG}{r:R2}(ho:fL X (cB op) r)(ha:PE X a ta)(hb:PE X b tb)(hm:dz op b=false):PE X (.Compare a [op] [b] pos) (FI r ta tb):=by
 intro ah s σ H Q I h
 exact wpAny_Compare1 (vB ha hb I h λv u s2 x y H2 I2 rx ry q=>ho ah s2 σ H2 x y v u Q I2 rx ry q) hm
def Ew (t:TE):TT:=λσ H Q=>t σ H λx H'=>∃k,x=.bl k/\Q k H'
theorem Ym {op:kG}{r:R2}(ho:fL X (cB op) r)(ha:PE X a ta)(hb:PE X b tb)(hm:dz op b=false):PT X (.Compare a [op] [b] pos) (Ew (FI r ta tb)):=by
 intro ah s σ H Q I h
 refine wpAny_isTrue_Compare1 (cP (ha ah s σ H _ I h) λv s1 ⟨x,H1,I1,r1,q1⟩=>cP (hb ah s1 σ H1 _ I1 q1) λu s2 ⟨y,H2,I2,r2,q2⟩=>
  cP (ho ah s2 σ H2 x y v u _ I2 r1 r2 q2) λc s3 ⟨z,H3,I3,r3,k,e,q3⟩=>?_) hm
 subst e
 cases r3
 exact dM ⟨H3,I3,q3⟩
theorem jD:(sizeLine:Nat)<2 ^ 63:=by rw[cI];decide
theorem VU:fL X (dF .Add) (λx y H Q=>∃i j,x=.str i/\y=.str j/\i.length+j.length<=sizeLine/\Q (.str (i++j)) H):=by
 intro ah s σ H x y v u Q I rx ry h
 obtain⟨i,j,rfl,rfl,hz,q⟩:=h
 obtain⟨t,rfl⟩:=rx
 obtain⟨t',rfl⟩:=ry
 exact add_str (λt' tk=>⟨.str (i++j),H,I.tok _,⟨_,rfl⟩,q⟩) hz
theorem mw {x:V}{us:List ae}(r:bB [x] us):∃u,us=[u]/\RelV x u:=by
 cases r with
 |cons r1 r2=>cases r2;exact⟨_,rfl,r1⟩
theorem vals2 {x y:V}{us:List ae}(r:bB [x,y] us):∃u w',us=[u,w']/\RelV x u/\RelV y w':=by
 cases r with
 |cons r1 r2=>
  cases r2 with
  |cons r3 r4=>cases r4;exact⟨_,_,rfl,r1,r3⟩
theorem Wj (hc:X.calm=true):eE X (.builtin "max") (λxs H Q=>∃i j,xs=[.int i,.int j]/\Q (.int (if j > i then j else i)) H):=by
 intro ah s σ H xs us Q I r h
 obtain⟨i,j,rfl,q⟩:=h
 obtain⟨u,w',rfl,⟨t,rfl⟩,⟨t',rfl⟩⟩:=vals2 r
 refine max_two_ints (I.ok.hd hc) λh' tk k=>⟨_,H,I.kept k,?_,q⟩
 by_cases hj:j > i
 ·rw[if_pos hj,if_pos hj];exact⟨_,rfl⟩
 ·rw[if_neg hj,if_neg hj];exact⟨_,rfl⟩
theorem U7:eE X (.type "str") (λxs H Q=>∃i,xs=[.int i]/\i.natAbs.log2<1920/\Q (.str (toString i)) H):=by
 intro ah s σ H xs us Q I r h
 obtain⟨i,rfl,hz,q⟩:=h
 obtain⟨u,rfl,t,rfl⟩:=mw r
 exact PySem.P.str_of_int hz ⟨.str _,H,I.tok _,⟨_,rfl⟩,q⟩
end
end L2
namespace L2
open PySem PySem.Spec PyProof.Rows
structure nX (h:aG)(x dx C:af)(mA:aL->Option ae):Prop where
 obj:h.get? x=some (dA C dx)
 ns:h.Ns1 dx mA
 ne:dx≠x
theorem Wk {h:aG}{dx:af}{mA:aL->Option ae}(n:h.Ns1 dx mA):∃od,h.get? dx=some od/\∀name,ik name od=some (mA name):=by
 obtain⟨o,es,ep,ho,hd,hk,_,hm⟩:=n
 refine⟨o,ho,λname=>?_⟩
 have e:=hm name
 unfold nsFind findBy at e
 rw[←Array.find?_toList]at e
 unfold ik
 rw[hd]
 dsimp only
 split
 ·rename_i y q
  rw[q]at e
  exact congrArg some e
 ·rename_i q
  rw[q]at e
  have a:es.toList.any (·.refKey)=false:=by
   rw[List.any_eq_false]
   intro y hy
   obtain⟨z,t,IL⟩:=hk y (Array.mem_toList_iff.mp hy)
   simp[DictEntry.refKey,IL]
  have a':¬es.toList.any (·.refKey)=true:=by rw[a];exact aN
  rw[if_neg a']
  exact congrArg some e
theorem nX.look {h:aG}{x dx C:af}{mA:aL->Option ae}(I:nX h x dx C mA):∃od,PySem.W.InstAt h x (dA C dx) C (some od)/\∀name,ik name od=some (mA name) :=
 let⟨od,ho,hl⟩:=Wk I.ns
 ⟨od,⟨I.obj,rfl,rfl,ho⟩,hl⟩
section
variable {prog:ba}{w:bM}{A:bD}{E:ae->aj->Prop}{s:aj}{K:aa}{x dx C f:af}{mA:aL->Option ae}{name:aL}{v:ae}
theorem Yn {expr:Bool}{Q:ae->aj->Prop}(X:K.In s.heap)(I:nX s.heap x dx C mA)(hg:cN K C name=true)(hh:cF K C=true)
  (ha:ax K (.ref C) name=some none) (hv:mA name=some v) (uB:oH v=true) (h:Q v { s with toks:=s.toks+1 }) :
  aQ (aU prog w) A (getAttr (.ref x) name expr) Q E s:=by
 obtain⟨od,J,hl⟩:=I.look
 exact PySem.W.get_value X J (iG hg).1 (PySem.W.findObj_own hh ha rfl (by rw[hl,hv])) uB h
theorem W6 {pl:m9 Bool}{Q:ae×List ae->aj->Prop}(X:K.In s.heap)(I:nX s.heap x dx C mA)(hg:cN K C name=true)
  (hf:ax K (.ref C) name=some (some (.ref f))) (ht:dg K (.ref f)=true) (hv:mA name=none) (h:Q (.ref f,[.ref x]) s) :
  aQ (aU prog w) A (fR (.ref x) name pl) Q E s:=by
 obtain⟨od,J,hl⟩:=I.look
 exact PySem.W.method_fn X J (iG hg).1 (iG hg).2 hf (beq_iff_eq.mp ht) (by show(ik name od).map (·.isSome)=some false;rw[hl,hv];rfl) h
theorem Yo {ns:List aL}{Q:Unit->aj->Prop}(X:K.In s.heap)(I:nX s.heap x dx C mA)
  (hs:ax K (.ref C) "__setattr__"=some (some (.builtin "object.__setattr__"))) (hp:dD K C=true) (ht:ky K C name=some none) (hh:cF K C=true)
  (hw:PySem.Within mA ns) (hsz:ns.length<=sizeLine)
  (h:∀h',nX h' x dx C (λy=>if y=name then some v else mA y)->ez dx s.heap h'->Q () { s with heap:=h',toks:=s.toks+2 }) :
  aQ (aU prog w) A (setAttr (.ref x) name v) Q E s:=by
 obtain⟨od,J,hl⟩:=I.look
 refine PySem.W.set_plain X J hs (PySem.W.osa_open (s:={ s with toks:=s.toks+1 }) (r:=none) X J hp ht λb=>?_)
 obtain⟨cd,hc,Iz⟩:=PySem.W.any_some hh
 have hx:s.heap.get? x=some ⟨.ref C,some dx,.plain,#[]⟩:=I.obj
 refine av (bc (av (av (wpAny_loadPart hx (av (PySem.W.Looks.here (s:={ s with toks:=s.toks+1 }) (PySem.W.looks_clsIn X hc) ?_))))))
 rw[Iz]
 refine bc (a:=some dx) (av (bc (av ?_)))
 refine wpAny_nsSet1 (s:={ s with toks:=s.toks+1 }) I.ns λh' qN jJ=>?_
 obtain⟨oD,esD,epD,RJ,Rt,Rq⟩:=qN.count (PySem.Within.cons name v hw)
 refine av (wpAny_lookBehind RJ (by rw[Rt];exact pastItsLine_dict (cu Rq (by rw[aM];omega))) ?_)
 exact bc (h _ ⟨(jJ.2 _ (Ne.symm I.ne)).trans I.obj,qN,I.ne⟩ jJ)
theorem W7 {R:Result->aj->Prop}{vs:List ae}{kw:List (aL×ae)}(X:K.In s.heap)(hm:dB K C=true)
  (hi:ax K (.ref C) "__init__"=some (some (.ref f))) (hf:PySem.W.typeIn K (.ref f)=some (.type "function"))
  (h:gC (aU prog w) (A.under (.builtin "type.__call__" ⟨.ref C::vs,kw⟩)) (.call (.ref f) ⟨.ref (s.heap.objs.size+1)::vs,kw⟩) (PySem.W.InitBack (s.heap.objs.size+1) R)
   { s with heap:=(s.heap.push cE).push (dA C s.heap.objs.size) }) :
  gC (aU prog w) A (.call (.ref C) ⟨vs,kw⟩) R s:=by
 obtain⟨hh,g,d,t,os⟩:=s
 exact PySem.W.make_core (PySem.W.makes_of X hm) (PySem.W.looks_findIn X hi) (λself=>PySem.W.bind_fn X self hf) (.inl rfl) h
end
def ij (f:aL)(v:V):List (aL×V)->List (aL×V)
 |[]=>[(f,v)]
 |(g,x)::r=>if g=f then(g,v)::r else(g,x)::ij f v r
theorem Nk (f g:aL)(v:V):∀fs:List (aL×V),(ij f v fs).lookup g=if g=f then some v else fs.lookup g
 |[]=>by
  show fH g [(f,v)]=_
  by_cases h:g=f
  ·have hb:(g==f)=true:=beq_iff_eq.mpr h
   simp only[fH,hb,if_pos h]
  ·have hb:(g==f)=false:=beq_eq_false_iff_ne.mpr h
   simp only[fH,hb,if_neg h]
 |(k,x)::r=>by
  have ih:=Nk f g v r
  rw[show ij f v ((k,x)::r)=(if k=f then(k,v)::r else(k,x)::ij f v r)from rfl]
  by_cases hk:k=f
  ·rw[if_pos hk]
   by_cases h:g=k
   ·have hb:(g==k)=true:=beq_iff_eq.mpr h
    simp only[fH,hb,if_pos (h.trans hk)]
   ·have hb:(g==k)=false:=beq_eq_false_iff_ne.mpr h
    simp only[fH,hb,if_neg (λe:g=f=>h (e.trans hk.symm))]
  ·rw[if_neg hk]
   by_cases h:g=k
   ·have hb:(g==k)=true:=beq_iff_eq.mpr h
    simp only[fH,hb,if_neg (λe:g=f=>hk (h.symm.trans e))]
   ·have hb:(g==k)=false:=beq_eq_false_iff_ne.mpr h
    simp only[fH,hb]
    exact ih
theorem Kh (f:aL)(v:V):∀fs:List (aL×V),f∈(ij f v fs).map (·.1)/\∀g,g∈fs.map (·.1)->g∈(ij f v fs).map (·.1)
 |[]=>⟨by simp[ij],λg h=>by simp at h⟩
 |(k,x)::r=>by
  obtain⟨i1,i2⟩:=Kh f v r
  rw[show ij f v ((k,x)::r)=(if k=f then(k,v)::r else(k,x)::ij f v r)from rfl]
  by_cases hk:k=f
  ·rw[if_pos hk]
   subst hk
   exact⟨by simp,λg h=>by simpa using h⟩
  ·rw[if_neg hk]
   refine⟨?_,λg h=>?_⟩
   ·rw[bi]
    exact ao _ i1
   ·rw[bi]at h ⊢
    rcases aC.mp h with e|e
    ·exact aC.mpr (.inl e)
    ·exact ao _ (i2 g e)
theorem Nl (f:aL)(v:V):∀fs:List (aL×V),(ij f v fs).length<=fs.length+1
 |[]=>by simp[ij]
 |(k,x)::r=>by
  have ih:=Nl f v r
  rw[show ij f v ((k,x)::r)=(if k=f then(k,v)::r else(k,x)::ij f v r)from rfl]
  by_cases hk:k=f
  ·rw[if_pos hk,aM,aM];omega
  ·rw[if_neg hk,aM,aM];omega
theorem iM.some_of {v:V}{o:Option ae}(r:iM (some v) o):∃u,o=some u/\RelV v u:=by
 cases o with
 |none=>exact(show False from r).elim
 |some u=>exact⟨u,rfl,r⟩
theorem iM.none_of {o:Option ae}(r:iM none o):o=none:=by
 cases o with
 |none=>rfl
 |some u=>exact(show False from r).elim
theorem Wl {v:V}{u:ae}(r:RelV v u):oH u=true:=by
 cases v with
 |non=>cases(show u=ae.none from r);rfl
 |bl b=>cases(show u=ae.bool b from r);rfl
 |int i=>obtain⟨t,e⟩:=(show∃t,u=ae.int i t from r);cases e;rfl
 |str x=>obtain⟨t,e⟩:=(show∃t,u=ae.str x t from r);cases e;rfl
 |byt b=>obtain⟨t,e⟩:=(show∃t,u=ae.bytes b t from r);cases e;rfl
 |flt b=>obtain⟨t,e⟩:=(show∃t,u=ae.float b t from r);cases e;rfl
 |ref a=>cases(show u=ae.ref a from r);rfl
 |ty n=>cases(show u=ae.type n from r);rfl
section
variable {P:ba}{w:bM}{H H':Hp}{h h':aG}{a C dx:af}{fs QU:List (aL×V)}
theorem Gk (hok:jH P w H h)(e:H a=some (.ins C dx fs)):∃mA,nX h a dx C mA/\(∀f,iM (fs.lookup f) (mA f))/\PySem.Within mA (fs.map (·.1))/\fs.length<=1000/\H dx=some (.own a):=by
 obtain⟨d,z,ne,ob,mA,n,r,q⟩:=(show dE P w H h a (.ins C dx fs)from hok a _ e)
 exact⟨mA,⟨ob,n,ne⟩,r,q,z,d⟩
end
structure kX (K:aa)(C:af):Prop where
 pg:cN K C aL.empty=true
 hd:cF K C=true
 po:dD K C=true
 sa:ax K (.ref C) "__setattr__"=some (some (.builtin "object.__setattr__"))
theorem kX.get {K:aa}{C:af}(c:kX K C)(f:aL):cN K C f=true:=c.pg
def eP (K:aa)(C:af)(f:aL):Prop:=ax K (.ref C) f=some none
theorem eP.taker {K:aa}{C:af}{f:aL}(n:eP K C f):ky K C f=some none:=by
 unfold ky
 rw[show ax K (.ref C) f=some none from n]
 rfl
structure nW (K:aa)(C:af)(m:aL)(f:af):Prop where
 at_:ax K (.ref C) m=some (some (.ref f))
 fn:dg K (.ref f)=true
 kp:ar K (.ref f)=true
section
variable {X:Cx}{ah:List (af×dq)}{σ:St}{H:Hp}{s:aj}{a C dx:af}{fs:List (aL×V)}{f:aL}{v:V}{A:bD}{E:ae->aj->Prop}
theorem VV {b:Bool}{Q:ae->aj->Prop}(I:Inv X ah σ H s)(e:H a=some (.ins C dx fs))(c:kX X.K C)(n:eP X.K C f)(l:fs.lookup f=some v)
  (h:∀u s',Inv X ah σ H s'->RelV v u->Q u s'):aQ (aU X.prog X.w) A (getAttr (.ref a) f b) Q E s:=by
 obtain⟨mA,O,r,_,_,_⟩:=Gk I.hok e
 obtain⟨u,hu,ru⟩:=iM.some_of (v:=v) (o:=mA f) (by rw[←l];exact r f)
 exact Yn I.kIn O (c.get f) c.hd n hu (Wl ru) (h u _ (I.tok _) ru)
theorem Ka {m:aL}{g:af}{pl:m9 Bool}{Q:ae×List ae->aj->Prop}(I:Inv X ah σ H s)(e:H a=some (.ins C dx fs))(c:kX X.K C)(k:nW X.K C m g)(l:fs.lookup m=none)
  (h:Q (.ref g,[.ref a]) s):aQ (aU X.prog X.w) A (fR (.ref a) m pl) Q E s:=by
 obtain⟨mA,O,r,_,_,_⟩:=Gk I.hok e
 have hn:mA m=none:=iM.none_of (by rw[←l];exact r m)
 exact W6 I.kIn O (c.get m) k.at_ k.fn hn h
theorem VW {y:V}{u:ae}{Q:Unit->aj->Prop}(I:Inv X ah σ H s)(e:H a=some (.ins C dx fs))(c:kX X.K C)(n:eP X.K C f)(hl:fs.length<1000)(ry:RelV y u)
  (h:∀s',Inv X ah σ (upd H a (.ins C dx (ij f y fs))) s'->Q () s'):aQ (aU X.prog X.w) A (setAttr (.ref a) f u) Q E s:=by
 obtain⟨mA,O,r,wi,_,ho⟩:=Gk I.hok e
 have hz:(fs.map (·.1)).length<=sizeLine:=by rw[bj,cI];omega
 refine Yo I.kIn O c.sa c.po n.taker c.hd wi hz λh' O' sb=>h _ ?_
 have hd:∃o,h'.get? dx=some o:=let⟨o,_,_,e',_⟩:=O'.ns;⟨o,e'⟩
 refine I.write (x:=a) (e:=dx) (by rw[e];exact True.intro) (.inr ho) (λb q hb z=>(sb.2 b hb).trans z) hd ?_
 refine⟨by rw[zx O.ne];exact ho,?_,O.ne,O'.obj,_,O'.ns,λg=>?_,λg hg=>?_⟩
 ·have:=Nl f y fs;omega
 ·show iM ((ij f y fs).lookup g) (if g=f then some u else mA g)
  rw[Nk]
  by_cases q:g=f
  ·rw[if_pos q,if_pos q];exact ry
  ·rw[if_neg q,if_neg q];exact r g
 ·by_cases q:g=f
  ·rw[q];exact(Kh f y fs).1
  ·refine(Kh f y fs).2 g (wi g λz=>hg ?_)
   show(if g=f then some u else mA g)=none
   rw[if_neg q];exact z
theorem Inv.made (I:Inv X ah σ H s):Inv X ah σ (upd (upd H s.heap.objs.size (.own (s.heap.objs.size+1))) (s.heap.objs.size+1) (.ins C s.heap.objs.size []))
  { s with heap:=(s.heap.push cE).push (dA C s.heap.objs.size) }:=by
 have e1:(s.heap.push cE).get? s.heap.objs.size=some cE:=aT s.heap rfl
 have e2:((s.heap.push cE).push (dA C s.heap.objs.size)).get? (s.heap.objs.size+1)=some (dA C s.heap.objs.size):=by
  have:=aT (s.heap.push cE) (o:=dA C s.heap.objs.size) rfl
  rwa[cJ]at this
 have e3:(s.heap.push cE).Ns s.heap.objs.size (λ_=>none):=⟨cE,#[],_,e1,rfl,(λe he=>absurd he (by simp)),λ_=>rfl⟩
 have I1:=I.laid (a:=s.heap.objs.size) (o:=.own (s.heap.objs.size+1)) (h':=s.heap.push cE) (t':=s.toks) (λb u q=>am _ q) (aE _) ⟨_,e1⟩
 refine I1.laid (a:=s.heap.objs.size+1) (o:=.ins C s.heap.objs.size []) (t':=s.toks) (λb u q=>am _ q) (Nat.le_of_eq (cJ _ _)) ?_
 have ne:s.heap.objs.size≠s.heap.objs.size+1:=aR (gX _)
 refine⟨by rw[zx ne,yb],dP _,ne,e2,λ_=>none,(aG.Ns1.of_empty e3).at λo q=>am _ q,λ_=>True.intro,λy hy=>absurd rfl hy⟩
theorem Yp {prog:ba}{w:bM}{env:Env}{e:Expr}{f:aL}{pos:cx}{s:aj}{Q:ae->aj->Prop}(hb:de e f env (bq e env)=bq e env)
  (h:aQ (aU prog w) A (bq e env) (λo s₁=>aQ (aU prog w) A (getAttr o f true) Q E s₁) E s):aQ (aU prog w) A (bq (.Attribute e f pos) env) Q E s :=
 Attribute_any_ h (by rw[arm_eval_Attribute,hb])
end
def JM (K:aa)(ta:TE)(f:aL):TE:=λσ H Q=>ta σ H λx H1=>∃a C dx fs v,x=.ref a/\H1 a=some (.ins C dx fs)/\kX K C/\eP K C f/\fs.lookup f=some v/\Q v H1
def JG (K:aa)(ta tv:TE)(f:aL):TS:=λD σ H=>tv σ H λy H1=>ta σ H1 λx H2=>∃a C dx fs,x=.ref a/\H2 a=some (.ins C dx fs)/\kX K C/\eP K C f/\fs.length<1000 /\
 D.nx σ (upd H2 a (.ins C dx (ij f y fs)))
section
variable {X:Cx}{o e value:Expr}{f:aL}{pos pos' iP:cx}{ta tv:TE}
theorem Zf (he:PE X e ta)(hb:de e f X.env (bq e X.env)=bq e X.env):PE X (.Attribute e f pos) (JM X.K ta f):=by
 intro ah s σ H Q I h
 refine Yp hb (cP (he ah s σ H _ I h) λu s1 df=>?_)
 obtain⟨x,H1,I1,rx,a,C,dx,fs,v,ex,ea,c,n,l,q⟩:=df
 subst ex
 obtain rfl:u=ae.ref a:=rx
 exact VV I1 ea c n l λu' s2 I2 ru=>⟨v,H1,I2,ru,q⟩
theorem Zg (ha:PE X o ta)(hv:PE X value tv)(hs:dn value (some (.Attribute o f pos')) pos.line X.env=pure false):PS X (.Assign [.Attribute o f pos'] value pos) (JG X.K ta tv f):=by
 intro ah s σ H D I h
 refine plainObj_wpAny_Assign_Attribute (cP (hv ah s σ H _ I h) λu s1 ⟨y,H1,I1,ry,q⟩=>cP (ha ah s1 σ H1 _ I1 q) λov s2 ⟨x,H2,I2,rx,a,C,dx,fs,ex,ea,c,n,l,q2⟩=>?_) hs
 subst ex
 obtain rfl:ov=ae.ref a:=rx
 exact VW I2 ea c n l ry λs3 I3=>⟨σ,_,I3,q2⟩
def xU:V->V->Hp->VK->Prop:=λx y H Q=>∃i j,x=.int i/\y=.int j/\Q (.int (i+j)) H
theorem zom {pl:m9 Bool}{m:aL}{cL:cx}{args:List Expr}{ah:List (af×dq)}{s:aj}{σ:St}{H:Hp}{Q:ae->aj->Prop}{te:TE}(he:PE X e te)(I:Inv X ah σ H s)
  (h:te σ H λx H1=>∃a C dx fs g,x=.ref a/\H1 a=some (.ins C dx fs)/\kX X.K C/\nW X.K C m g/\fs.lookup m=none /\
   ∀s1,Inv X ah σ H1 s1->aQ (aU X.prog X.w) X.A (iE pos (.ref g) [.ref a] (cj pos (aq args X.env)) (cH pos (bS [] X.env))) Q X.xe s1)
  (ht:bq (.Call (.Attribute e m cL) args [] pos) X.env=(do
   let ov ← bq e X.env
   fW cL.atName
   let(f,first) ← d7 [ov] (fR ov m pl)
   iE pos f first (cj pos (aq args X.env)) (cH pos (bS [] X.env)))) :
  aQ (aU X.prog X.w) X.A (bq (.Call (.Attribute e m cL) args [] pos) X.env) Q X.xe s:=by
 refine eW (pl:=pl) (cP (he ah s σ H _ I h) λu s1 ⟨x,H1,I1,rx,a,C,dx,fs,g,ex,ea,c,k,l,q⟩=>?_) ht
 subst ex
 obtain rfl:u=ae.ref a:=rx
 exact Ka I1 ea c k l (q s1 I1)
end
section
variable {X:Cx}{ah:List (af×dq)}{σ:St}{H:Hp}{s:aj}{A:bD}{E:ae->aj->Prop}{Q:ae->aj->Prop}{c:ae}{b:Bool}
inductive jB (K:aa)(H:Hp):V->ae->Prop where
 |non:jB K H .non (.type "NoneType")
 |bl (x:Bool):jB K H (.bl x) (.type "bool")
 |int (i:Int):jB K H (.int i) (.type "int")
 |str (x:aL):jB K H (.str x) (.type "str")
 |flt (x:UInt64):jB K H (.flt x) (.type "float")
 |lst {a:af} {xs:List V} (e:H a=some (.lst xs)):jB K H (.ref a) (.type "list")
 |frz {a:af} {o:dq} {xs:List V} (e:H a=some (.frz o (.lst xs))):jB K H (.ref a) (.type "list")
 |tup {a:af} {xs:List V} (e:H a=some (.tup xs)):jB K H (.ref a) (.type "tuple")
 |dK {a:af} {ck:List (eo×V)} (e:H a=some (.dK ck)):jB K H (.ref a) (.type "dict")
 |dT {a:af} {ck:List (List eo×V)} (e:H a=some (.dT ck)):jB K H (.ref a) (.type "dict")
 |ins {a C dx:af} {fs:List (aL×V)} (e:H a=some (.ins C dx fs)) (cl:kX K C) (ha:ax K (.ref C) "__class__"=some (some (.builtin "object.__class__")))
   (hn:cT K (.builtin "object.__class__") "__get__"=some (some (.builtin "getset_descriptor.__get__"))) (LU:gQ K (.builtin "object.__class__")=some true)
   (hm:dG K C (.type "object")=some true):jB K H (.ref a) (.ref C)
theorem NC {x:V}{u t:ae}(I:Inv X ah σ H s)(rx:RelV x u)(ty:jB X.K H x t)(e:bK X.K t c=some b)(h:∀tk,Q (.bool b) { s with toks:=tk }) :
  aQ (aU X.prog X.w) A (call (.builtin "isinstance") [u,c]) Q E s:=by
 cases ty with
 |non=>cases(show u=ae.none from rx);exact cp PySem.W.kitx_none I.kIn True.intro e (λz=>nomatch z) h
 |bl y=>cases(show u=ae.bool y from rx);exact cp PySem.W.kitx_bool I.kIn True.intro e (λz=>nomatch z) h
 |int i=>obtain⟨t,q⟩:=(show∃t,u=ae.int i t from rx);cases q;exact cp PySem.W.kitx_int I.kIn True.intro e (λz=>nomatch z) h
 |str y=>obtain⟨t,q⟩:=(show∃t,u=ae.str y t from rx);cases q;exact cp PySem.W.kitx_str I.kIn True.intro e (λz=>nomatch z) h
 |flt y=>obtain⟨t,q⟩:=(show∃t,u=ae.float y t from rx);cases q;exact cp PySem.W.kitx_float I.kIn True.intro e (λz=>nomatch z) h
 |@lst a xs ea=>
  cases(show u=ae.ref a from rx)
  obtain⟨_,_,n,_,h1⟩:=(show dE X.prog X.w H s.heap a (.lst xs)from I.hok a _ ea)
  exact cp jF I.kIn ⟨_,h1,rfl⟩ e (λz=>nomatch z) h
 |@frz a ob xs ea=>
  cases(show u=ae.ref a from rx)
  obtain⟨_,_,_,n,_,h1⟩:=(show dE X.prog X.w H s.heap a (.frz ob (.lst xs))from I.hok a _ ea)
  exact cp jF I.kIn ⟨_,h1,rfl⟩ e (λz=>nomatch z) h
 |@tup a xs ea=>
  cases(show u=ae.ref a from rx)
  obtain⟨_,_,_,p⟩:=(show dE X.prog X.w H s.heap a (.tup xs)from I.hok a _ ea)
  obtain⟨o,h1,h2,_⟩:=p
  exact cp PySem.W.kitx_tuple I.kIn ⟨o,h1,h2⟩ e (λz=>nomatch z) h
 |@dK a ck ea=>
  cases(show u=ae.ref a from rx)
  obtain⟨_,_,vs,_,p⟩:=(show dE X.prog X.w H s.heap a (.dK ck)from I.hok a _ ea)
  obtain⟨o,es,ep,h1,h2,_⟩:=p
  exact cp nQ I.kIn ⟨o,h1,h2.1⟩ e (λz=>nomatch z) h
 |@dT a ck ea=>
  cases(show u=ae.ref a from rx)
  obtain⟨_,_,xs,_,o,es,ep,h1,h2,_⟩:=(show dE X.prog X.w H s.heap a (.dT ck)from I.hok a _ ea)
  exact cp nQ I.kIn ⟨o,h1,h2.1⟩ e (λz=>nomatch z) h
 |@ins a C dx fs ea cl ha hn LU hm=>
  cases(show u=ae.ref a from rx)
  obtain⟨mA,O,_⟩:=Gk I.hok ea
  obtain⟨od,J,_⟩:=O.look
  exact cp (PySem.W.kitx_own (cl.get _) cl.hd ha hn LU hm) I.kIn J e (λz=>nomatch z) h
end
end L2
namespace L2
open PySem PySem.Spec PyProof.Rows
structure dN (k:Nat)(A:bD):Prop where
 hd:A.handled=none
 dp:A.depth+3*k+5<recursionLimit
 un:A.units+16*k+200<iD
theorem dN.mono {j k:Nat}{A:bD}(r:dN k A)(h:j<=k):dN j A:=⟨r.hd,by have:=r.dp;omega,by have:=r.un;omega⟩
theorem dN.deeper {k:Nat}{A:bD}(r:dN (k+1) A)(env:Env):dN k (A.deeper env) :=
 ⟨r.hd,by have:=r.dp;show A.depth+1+3*k+5<_;omega,by have:=r.un;show A.units+3+16*k+200<_;omega⟩
theorem VX {A:bD}{C:af}{us:List ae}{kw:List (aL×ae)}:(A.under (.builtin "type.__call__" ⟨.ref C::us,kw⟩)).depth=A.depth+1:=by
 first|rfl|simp[bD.under,pL.weight,pL.isCreation,pL.isGuard,pL.isCaller,pL.frames,pL.isFrame,guardIds]
theorem VY {A:bD}{C:af}{us:List ae}{kw:List (aL×ae)}:(A.under (.builtin "type.__call__" ⟨.ref C::us,kw⟩)).units=A.units+1:=by
 first|rfl|simp[bD.under,pL.cUnits,pL.frames,pL.isFrame]
theorem dN.make {k:Nat}{A:bD}(r:dN (k+1) A)(C:af)(us:List ae)(kw:List (aL×ae)):dN k (A.under (.builtin "type.__call__" ⟨.ref C::us,kw⟩)) :=
 ⟨r.hd,by have:=r.dp;rw[VX];omega,by have:=r.un;rw[VY];omega⟩
theorem dN.depth {k:Nat}{A:bD}(r:dN k A):A.depth<recursionLimit:=by have:=r.dp;omega
theorem dN.units {k:Nat}{A:bD}(r:dN k A):A.units+64<iD:=by have:=r.un;omega
def yJ:TA:=λ_ H Q=>Q [] H
def uK (ta:TE)(tr:TA):TA:=λσ H Q=>ta σ H λx H1=>tr σ H1 λxs H2=>Q (x::xs) H2
section
variable {X:Cx}{e:Expr}{es:List Expr}{te:TE}{t:TA}{pos:cx}
theorem sf:PA X [] yJ:=λ_ _ _ _ H Q I h=>Calls.spliced_nil ⟨[],H,I,.nil,h⟩
theorem ud (ha:PE X e te)(hr:PA X es t)(hs:aq (e::es) X.env=(false,bq e X.env)::aq es X.env:=by rfl):PA X (e::es) (uK te t):=by
 intro pos ah s σ H Q I h
 rw[hs]
 show aQ _ _ (spliced ((false,bq e X.env)::cj pos (aq es X.env))) _ _ s
 refine Calls.spliced_cons (cP (ha ah s σ H _ I h) λu s1 df=>?_)
 obtain⟨x,H1,I1,r1,q1⟩:=df
 exact cP (hr pos ah s1 σ H1 _ I1 q1) λus s2 ⟨xs,H2,I2,r2,q2⟩=>⟨x::xs,H2,I2,.cons r1 r2,q2⟩
def JU (t:TA):TE:=λσ H Q=>t σ H λxs H1=>xs.length<=sizeLine/\∀p,H1 p=none->Q (.ref p) (upd H1 p (.tup xs))
def JP (t:TA):TE:=λσ H Q=>t σ H λxs H1=>xs.length<=sizeLine/\∀p,H1 p=none->Q (.ref p) (upd H1 p (.lst xs))
theorem KN {x1}(h:PA X es t):PE X (.Tuple es x1 pos) (JU t):=by
 intro ah s σ H Q I hq
 refine wpAny_Tuple_spliced (cP (h pos ah s σ H _ I hq) λus s1 ⟨xs,H1,I1,r,z,q⟩=>⟨by rw[←r.length];exact z,?_⟩)
 have hf:H1 s1.heap.objs.size=none:=I1.hok.fresh (aE _)
 refine⟨.ref s1.heap.objs.size,upd H1 s1.heap.objs.size (.tup xs),I1.laid (t':=s1.toks) (λb u e=>am _ e) (aE _) ?_,rfl,q _ hf⟩
 exact⟨z,us,r,⟨_,aT _ rfl,rfl,_,rfl⟩⟩
theorem Zh (h:PA X es t):PE X (.List es pos) (JP t):=by
 intro ah s σ H Q I hq
 refine wpAny_List_spliced (cP (h pos ah s σ H _ I hq) λus s1 ⟨xs,H1,I1,r,z,q⟩=>⟨by rw[←r.length];exact z,?_⟩)
 have hf:H1 s1.heap.objs.size=none:=I1.hok.fresh (aE _)
 refine⟨.ref s1.heap.objs.size,upd H1 s1.heap.objs.size (.lst xs),I1.laid (t':=s1.toks) (λb u e=>am _ e) (aE _) ?_,rfl,q _ hf⟩
 exact⟨z,us,0,r,aT _ rfl⟩
end
abbrev Sp:=List V->Hp->VK->XK->Prop
abbrev pR:=List Env->Hp->aj->XK->ae->aj->Prop
structure nR (P:ba)(w:bM)(K:aa)(mg:aL->Option ae)(base:aG)(A:bD)(outer:List Env)(s:aj)(H:Hp):Prop where
 frames:A.frames=some outer
 mod:Mod K mg base
 bs:∀b o,base.get? b=some o->s.heap.get? b=some o/\H b=none
 bsz:base.objs.size<=s.heap.objs.size
 funs:s.heap.FunFrames base outer
 frf:∀b∈qC outer,H b=none
 hok:jH P w H s.heap
 bare:AllBare s.gens
def CE (outer:List Env)(P:ba)(w:bM)(H:Hp)(s:aj)(Q:VK)(u:ae)(s':aj):Prop :=
 ∃v H',s'.os=s.os/\AllBare s'.gens/\Un (qC outer) [] H H' s.heap s'.heap/\jH P w H' s'.heap/\RelV v u/\Q v H'
def CR (CX:pR)(outer:List Env)(P:ba)(w:bM)(H:Hp)(s:aj)(Q:VK)(E:XK)(r:Result)(s':aj):Prop :=
 match r with
 |.ok (.ret u)=>CE outer P w H s Q u s'
 |.ok _=>False
 |.error e=>CX outer H s E e s'
structure cn (P:ba)(w:bM)(K:aa)(mg:aL->Option ae)(base:aG)(CX:pR)(k:Nat)(f:af)(fd:aH)(ps:List aL)(sp:Sp):Prop where
 len:∀vs H Q E,sp vs H Q E->vs.length=ps.length
 run:∀(A:bD) (outer:List Env) (s:aj) (H:Hp) (args:Args) (us:List ae) (vs:List V) (Q:VK) (E:XK),dN k A->nR P w K mg base A outer s H->jX s fd args (ps.zip us)->bB vs us->sp vs H Q E ->
  gC (aU P w) A (.call (.ref f) args) (CR CX outer P w H s Q E) s
theorem nR.make {P:ba}{w:bM}{K:aa}{mg:aL->Option ae}{base:aG}{A:bD}{outer:List Env}{s:aj}{H:Hp}(e:nR P w K mg base A outer s H)(C:af)(us:List ae)(kw:List (aL×ae)) :
  nR P w K mg base (A.under (.builtin "type.__call__" ⟨.ref C::us,kw⟩)) outer s H:=⟨by first|exact e.frames|(simpa[bD.under,pL.envs,pL.isFrame,pushEnvs]using e.frames),e.mod,e.bs,e.bsz,e.funs,e.frf,e.hok,e.bare⟩
section
variable {X:Cx}{ah:List (af×dq)}{σ:St}{H:Hp}{s s':aj}
theorem Inv.env0 (I:Inv X ah σ H s):nR X.prog X.w X.K X.mg X.base X.A X.stack s H :=
 ⟨I.ok.frames,I.ok.mod,I.bs,cu I.ok.bsz I.sz,I.stack,I.stkFree,I.hok,I.bare⟩
theorem Inv.after {Q:VK}{u:ae}(I:Inv X ah σ H s)(h:CE X.stack X.prog X.w H s Q u s'):EP X ah σ Q u s':=by
 obtain⟨v,H',os,bare,un,hok,r,q⟩:=h
 obtain⟨hh,g,d,t,Tu⟩:=s'
 obtain rfl:Tu=s.os:=os
 exact⟨v,H',I.call (h':=hh) (g':=g) (d':=d) (t':=t) (ch:=[]) un hok bare (λb z=>absurd z (by simp)),r,q⟩
end
def uJ (sp:Sp)(gR:List V)(E:XK)(t:TA):TE:=λσ H Q=>t σ H λvs H1=>sp (vs++gR) H1 Q E
def uL (C:af)(m:aL)(sp:Sp)(gR:List V)(E:XK)(ta:TE)(t:TA):TE:=λσ H Q=>ta σ H λx H1=>∃a dx fs,x=.ref a/\H1 a=some (.ins C dx fs)/\fs.lookup m=none /\
 t σ H1 λvs H2=>sp (x::(vs++gR)) H2 Q E
def Er (C:af)(sp:Sp)(gR:List V)(E:XK)(t:TA):TE:=λσ H Q=>t σ H λvs H1=>∀x dx,H1 x=none->H1 dx=none->dx≠x ->
 sp (.ref x::(vs++gR)) (upd (upd H1 dx (.own x)) x (.ins C dx [])) (λv H2=>v=.non/\Q (.ref x) H2) E
def bA (K:aa)(fd:aH)(ps:List aL)(ds:List ae):Prop :=
 ∀(s:aj) (us:List ae),K.In s.heap->(us++ds).length=ps.length->jX s fd ⟨us,[]⟩ (ps.zip (us++ds))
theorem bA.all {K:aa}{fd:aH}{ps:List aL}(h:∀us:List ae,us.length=ps.length->bindArgs fd ⟨us,[]⟩=pure (ps.zip us)):bA K fd ps []:=λs us _ hl=>by
 rw[bT]at hl ⊢
 exact .of_eq (h us hl)
def gx (CX:pR)(X:Cx)(E:XK):Prop:=∀(ah:List (af×dq)) (σ:St) (H:Hp) (s:aj) (e:ae) (s':aj),Inv X ah σ H s->CX X.stack H s E e s'->X.xe e s'
section
variable {X:Cx}{CX:pR}{k:Nat}{f C:af}{fd:aH}{ps:List aL}{sp:Sp}{gR:List V}{ds:List ae}{E:XK}{x m:aL}{p pos cL:cx}{e o:Expr}{es:List Expr}{ta:TE}{t:TA}
theorem GB {ah:List (af×dq)}{σ:St}{H:Hp}{s:aj}{Q:VK}{us:List ae}{vs:List V}(F:cn X.prog X.w X.K X.mg X.base CX k f fd ps sp)(hr:dN k X.A)(hb:bA X.K fd ps ds)(hd:bB gR ds)(hx:gx CX X E)
  (I:Inv X ah σ H s) (r:bB vs us) (h:sp (vs++gR) H Q E):aQ (aU X.prog X.w) X.A (call (.ref f) us) (EP X ah σ Q) X.xe s:=by
 have r2:bB (vs++gR) (us++ds):=r.append hd
 have hl:(us++ds).length=ps.length:=by rw[←r2.length];exact F.len _ _ _ _ h
 refine wpAny_call (iV (F.run X.A X.stack s H ⟨us,[]⟩ (us++ds) (vs++gR) Q E hr I.env0 (hb s us I.kIn hl) r2 h) λr s' hq=>?_)
 cases r with
 |error e=>exact hx ah σ H s e s' I hq
 |ok fl=>
  cases fl with
  |ret u=>exact I.after hq
  |next=>exact False.elim hq
  |brk=>exact False.elim hq
  |cont=>exact False.elim hq
theorem Yq (F:cn X.prog X.w X.K X.mg X.base CX k f fd ps sp)(hr:dN k X.A)(hg:Gl X x)(hm:X.mg x=some (.ref f))(hk:ar X.K (.ref f)=true)(hb:bA X.K fd ps ds)(hd:bB gR ds)(hx:gx CX X E)
  (ha:PA X (e::es) t) (kd:(x==("__debug__":aL))=false:=by decide) (he:aq (e::es) X.env=(false,bq e X.env)::aq es X.env:=by rfl) (gD:(cj pos (aq es X.env)).any (·.1)=false:=by rfl) :
  PE X (.Call (.Name x p) (e::es) [] pos) (uJ sp gR E t):=by
 intro ah s σ H Q I h
 refine cV (EL I hg hm ?_ kd)
 refine fT (h₀:=X.base) I.ok.mod.kin hk (cP (ha pos ah s σ H _ I h) λus s1 ⟨vs,H1,I1,r,q⟩=>⟨I1.kIn,?_⟩) he gD
 exact GB F hr hb hd hx I1 r q
theorem Yr {pl:m9 Bool}(he:PE X o ta)(c:kX X.K C)(hm:nW X.K C m f)(F:cn X.prog X.w X.K X.mg X.base CX k f fd ps sp)(hr:dN k X.A)(hb:bA X.K fd ps ds)(hd:bB gR ds)(hx:gx CX X E)(ha:PA X (e::es) t)
  (lm:aq (e::es) X.env=(false,bq e X.env)::aq es X.env:=by rfl) (gD:(cj pos (aq es X.env)).any (·.1)=false:=by rfl)
  (ht:bq (.Call (.Attribute o m cL) (e::es) [] pos) X.env=(do
   let ov ← bq o X.env
   fW cL.atName
   let(f,first) ← d7 [ov] (fR ov m pl)
   iE pos f first (cj pos (aq (e::es) X.env)) (cH pos (bS [] X.env))):=by rfl) :
  PE X (.Call (.Attribute o m cL) (e::es) [] pos) (uL C m sp gR E ta t):=by
 intro ah s σ H Q I h
 refine eW (pl:=pl) (cP (he ah s σ H _ I h) λu s1 ⟨x,H1,I1,rx,a,dx,fs,ex,ea,l,q⟩=>?_) ht
 subst ex
 obtain rfl:u=ae.ref a:=rx
 refine Ka I1 ea c hm l ?_
 refine fT (first:=[.ref a]) (h₀:=X.base) I.ok.mod.kin hm.kp (cP (ha pos ah s1 σ H1 _ I1 q) λus s2 ⟨vs,H2,I2,r,q2⟩=>⟨I2.kIn,?_⟩) lm gD
 exact GB (us:=.ref a::us) (vs:=.ref a::vs) F hr hb hd hx I2 (.cons rfl r) q2
theorem W8 {pl:m9 Bool}(he:PE X o ta)(c:kX X.K C)(hm:nW X.K C m f)(F:cn X.prog X.w X.K X.mg X.base CX k f fd ps sp)(hr:dN k X.A)(hb:bA X.K fd ps ds)(hd:bB gR ds)(hx:gx CX X E)
  (ht:bq (.Call (.Attribute o m cL) [] [] pos) X.env=(do
   let ov ← bq o X.env
   fW cL.atName
   let(f,first) ← d7 [ov] (fR ov m pl)
   iE pos f first (cj pos (aq [] X.env)) (cH pos (bS [] X.env))):=by rfl) :
  PE X (.Call (.Attribute o m cL) [] [] pos) (uL C m sp gR E ta yJ):=by
 intro ah s σ H Q I h
 refine eW (pl:=pl) (cP (he ah s σ H _ I h) λu s1 ⟨x,H1,I1,rx,a,dx,fs,ex,ea,l,q⟩=>?_) ht
 subst ex
 obtain rfl:u=ae.ref a:=rx
 refine Ka I1 ea c hm l ?_
 exact PySem.W.callWith_K0 (first:=[.ref a]) I1.kIn hm.kp (GB (us:=[.ref a]) (vs:=[.ref a]) F hr hb hd hx I1 (.cons rfl .nil) q)
structure Mk (K:aa)(C f:af):Prop where
 makes:dB K C=true
 init:ax K (.ref C) "__init__"=some (some (.ref f))
 fn:dg K (.ref f)=true
 kp:ar K (.ref C)=true
theorem W9 {ah:List (af×dq)}{σ:St}{H:Hp}{s:aj}{Q:VK}{us:List ae}{vs:List V}(M:Mk X.K C f)(F:cn X.prog X.w X.K X.mg X.base CX k f fd ps sp)(hr:dN (k+1) X.A)(hb:bA X.K fd ps ds)(hd:bB gR ds)
  (hx:gx CX X E) (I:Inv X ah σ H s) (r:bB vs us)
  (h:∀x dx,H x=none->H dx=none->dx≠x->sp (.ref x::(vs++gR)) (upd (upd H dx (.own x)) x (.ins C dx [])) (λv H2=>v=.non/\Q (.ref x) H2) E) :
  aQ (aU X.prog X.w) X.A (call (.ref C) us) (EP X ah σ Q) X.xe s:=by
 have hq:=h (s.heap.objs.size+1) s.heap.objs.size (I.hok.fresh (kU _)) (I.hok.fresh (aE _)) (aR (gX _))
 have I2:=Inv.made (C:=C) I
 have r2:bB (V.ref (s.heap.objs.size+1)::(vs++gR)) (ae.ref (s.heap.objs.size+1)::(us++ds)):=.cons rfl (r.append hd)
 have hl:(ae.ref (s.heap.objs.size+1)::us++ds).length=ps.length:=by
  have e:=r2.length
  rw[F.len _ _ _ _ hq]at e
  exact e.symm
 refine wpAny_call (W7 (f:=f) I.kIn M.makes M.init (beq_iff_eq.mp M.fn) (iV (F.run _ X.stack _ _ ⟨ae.ref (s.heap.objs.size+1)::us,[]⟩ (ae.ref (s.heap.objs.size+1)::(us++ds)) _ _ E (hr.make C us [])
  (I2.env0.make C us []) (hb _ (ae.ref (s.heap.objs.size+1)::us) I2.kIn hl) r2 hq) λr s' mL=>?_))
 cases r with
 |error e=>exact hx ah σ _ _ e s' I2 mL
 |ok fl=>
  cases fl with
  |ret u=>
   obtain⟨v,H',I3,rv,ev,q3⟩:=I2.after mL
   subst ev
   exact⟨rv,⟨V.ref (s.heap.objs.size+1),H',I3,rfl,q3⟩⟩
  |next=>exact False.elim mL
  |brk=>exact False.elim mL
  |cont=>exact False.elim mL
theorem Ys (M:Mk X.K C f)(F:cn X.prog X.w X.K X.mg X.base CX k f fd ps sp)(hr:dN (k+1) X.A)(hg:Gl X x)(hm:X.mg x=some (.ref C))(hb:bA X.K fd ps ds)(hd:bB gR ds)(hx:gx CX X E)
  (ha:PA X (e::es) t) (kd:(x==("__debug__":aL))=false:=by decide) (he:aq (e::es) X.env=(false,bq e X.env)::aq es X.env:=by rfl) (gD:(cj pos (aq es X.env)).any (·.1)=false:=by rfl) :
  PE X (.Call (.Name x p) (e::es) [] pos) (Er C sp gR E t):=by
 intro ah s σ H Q I h
 refine cV (EL I hg hm ?_ kd)
 refine fT (h₀:=X.base) I.ok.mod.kin M.kp (cP (ha pos ah s σ H _ I h) λus s1 ⟨vs,H1,I1,r,q⟩=>⟨I1.kIn,?_⟩) he gD
 exact W9 M F hr hb hd hx I1 r q
end
def PK (X:Cx)(kws:List dQ)(t:TA):Prop :=
 ∀(pos:cx) (ah:List (af×dq)) (s:aj) (σ:St) (H:Hp) (Q:List V->Hp->Prop),Inv X ah σ H s->t σ H Q->aQ (aU X.prog X.w) X.A (evalAll ((cH pos (bS kws X.env)).map (·.2))) (AP X ah σ Q) X.xe s
section
variable {X:Cx}{CX:pR}{k:Nat}{f C:af}{fd:aH}{ps ks:List aL}{sp:Sp}{E:XK}{x m:aL}{p pos cL qY:cx}{e o:Expr}{es:List Expr}{kws:List dQ}{te ta:TE}{t tk:TA}{nm:Option aL}
theorem ZT:PK X [] yJ:=λ_ _ _ _ H Q I h=>wpAny_evalAll_nil ⟨[],H,I,.nil,h⟩
theorem Yt (ha:PE X e te)(hr:PK X kws t):PK X (⟨nm,e,qY⟩::kws) (uK te t):=by
 intro pos ah s σ H Q I h
 show aQ _ _ (evalAll ((do let v ← bq e X.env;fW pos;pure v)::(cH pos (bS kws X.env)).map (·.2))) _ _ s
 refine wpAny_evalAll_cons (av (cP (ha ah s σ H _ I h) λu s1 ⟨x,H1,I1,r1,q1⟩=>av (kJ (bc ?_))))
 exact cP (hr pos ah s1 σ H1 _ I1 q1) λus s2 ⟨xs,H2,I2,r2,q2⟩=>⟨x::xs,H2,I2,.cons r1 r2,q2⟩
structure kc (K:aa)(fd:aH)(ps ks:List aL)(g:List ae->List ae->List ae)(gV:List V->List V->List V):Prop where
 to:∀(s:aj) (us ws:List ae),K.In s.heap->(g us ws).length=ps.length->jX s fd ⟨us,ks.zip ws⟩ (ps.zip (g us ws))
 rel:∀{vs:List V} {us:List ae} {zs:List V} {ws:List ae},bB vs us->bB zs ws->bB (gV vs zs) (g us ws)
def yE (sp:Sp)(gV:List V->List V->List V)(E:XK)(t tk:TA):TE:=λσ H Q=>t σ H λvs H1=>tk σ H1 λzs H2=>sp (gV vs zs) H2 Q E
variable {g:List ae->List ae->List ae}{gV:List V->List V->List V}
theorem Yu {ah:List (af×dq)}{σ:St}{H:Hp}{s:aj}{Q:VK}{us ws:List ae}{vs zs:List V}(F:cn X.prog X.w X.K X.mg X.base CX k f fd ps sp)(hr:dN k X.A)(hb:kc X.K fd ps ks g gV)(hx:gx CX X E)
  (I:Inv X ah σ H s) (r:bB vs us) (rz:bB zs ws) (h:sp (gV vs zs) H Q E):aQ (aU X.prog X.w) X.A (call (.ref f) us (ks.zip ws)) (EP X ah σ Q) X.xe s:=by
 have r2:=hb.rel r rz
 have hl:(g us ws).length=ps.length:=by rw[←r2.length];exact F.len _ _ _ _ h
 refine wpAny_call (iV (F.run X.A X.stack s H ⟨us,ks.zip ws⟩ (g us ws) (gV vs zs) Q E hr I.env0 (hb.to s us ws I.kIn hl) r2 h) λr s' hq=>?_)
 cases r with
 |error e=>exact hx ah σ H s e s' I hq
 |ok fl=>
  cases fl with
  |ret u=>exact I.after hq
  |next=>exact False.elim hq
  |brk=>exact False.elim hq
  |cont=>exact False.elim hq
theorem Xa (F:cn X.prog X.w X.K X.mg X.base CX k f fd ps sp)(hr:dN k X.A)(hg:Gl X x)(hm:X.mg x=some (.ref f))(hk:ar X.K (.ref f)=true)(hb:kc X.K fd ps ks g gV)(hx:gx CX X E)
  (ha:PA X (e::es) t) (IN:PK X kws tk) (mH:(cH pos (bS kws X.env)).all (·.1.isSome)=true:=by rfl) (IM:(cH pos (bS kws X.env)).filterMap (·.1)=ks:=by rfl)
  (kd:(x==("__debug__":aL))=false:=by decide) (he:aq (e::es) X.env=(false,bq e X.env)::aq es X.env:=by rfl)
  (gD:((cj pos (aq (e::es) X.env)).any (·.1) || (cH pos (bS kws X.env)).any (·.1.isNone))=false:=by rfl) :
  PE X (.Call (.Name x p) (e::es) kws pos) (yE sp gV E t tk):=by
 intro ah s σ H Q I h
 refine cV (EL I hg hm ?_ kd)
 refine PySem.W.callWith_KW (h₀:=X.base) I.ok.mod.kin hk mH (cP (ha pos ah s σ H _ I h) λus s1 ⟨vs,H1,I1,r,q⟩=>?_) gD he
 refine cP (IN pos ah s1 σ H1 _ I1 q) λws s2 ⟨zs,H2,I2,rz,q2⟩=>⟨I2.kIn,?_⟩
 rw[IM]
 exact Yu F hr hb hx I2 r rz q2
end
structure bn (N P:List aL)(sc:eY):Prop where
 kind:sc.kind=.function
 co:sc.isCoroutine=false
 gen:sc.isGenerator=false
 nd:N.Nodup
 pre:N.take P.length=P
 par:∀x∈P,sc.names.lookup x=some .local\/sc.names.lookup x=some .cell
 nofree:∀y∈sc.names,y.2≠.free
theorem ND {kindOf:aL->Option aZ}{x:aL}:∀{binds:List (aL×ae)} {m:aL->Option ae},(∀v,(x,v)∉binds)->o9 kindOf binds m x=m x
 |[],_,_=>rfl
 |(n,v)::r,m,h=>by
  unfold o9
  rw[ND λw hw=>h w (ao _ hw)]
  split
  ·have:x≠n:=by rintro rfl;exact h v ai
   simp[this]
  ·rfl
theorem NE {kindOf:aL->Option aZ}{x:aL}:∀{binds:List (aL×ae)} {m:aL->Option ae},(∀v,(x,v)∉binds)->o8 kindOf binds m x=m x
 |[],_,_=>rfl
 |(n,v)::r,m,h=>by
  unfold o8
  rw[NE λw hw=>h w (ao _ hw)]
  split
  ·rfl
  ·have:x≠n:=by rintro rfl;exact h v ai
   simp[this]
theorem NF {kindOf:aL->Option aZ}{x:aL}{v:ae}:∀{P:List aL} {vs:List ae} {i:Nat} {m:aL->Option ae},P.Nodup->P[i]?=some x->vs[i]?=some v->kindOf x=some .local ->
  o9 kindOf (P.zip vs) m x=some v
 |[],_,_,_,_,h,_,_=>by simp at h
 |_::_,[],_,_,_,_,h,_=>by simp at h
 |p::P,w::vs,0,m,nd,h1,h2,hk=>by
  simp at h1 h2;subst h1;subst h2
  show o9 kindOf ((p,w)::P.zip vs) m p=_
  unfold o9
  rw[ND λv hv=>(bU.mp nd).1 (fQ hv).1,if_pos hk]
  simp
 |p::P,w::vs,i+1,m,nd,h1,h2,hk=>by
  show o9 kindOf ((p,w)::P.zip vs) m x=_
  unfold o9
  exact NF (i:=i) (bU.mp nd).2 (by simpa using h1) (by simpa using h2) hk
theorem NI {kindOf:aL->Option aZ}{x:aL}{v:ae}:∀{P:List aL} {vs:List ae} {i:Nat} {m:aL->Option ae},P.Nodup->P[i]?=some x->vs[i]?=some v->kindOf x≠some .local ->
  o8 kindOf (P.zip vs) m x=some v
 |[],_,_,_,_,h,_,_=>by simp at h
 |_::_,[],_,_,_,_,h,_=>by simp at h
 |p::P,w::vs,0,m,nd,h1,h2,hk=>by
  simp at h1 h2;subst h1;subst h2
  show o8 kindOf ((p,w)::P.zip vs) m p=_
  unfold o8
  rw[NE λv hv=>(bU.mp nd).1 (fQ hv).1,if_neg hk]
  simp
 |p::P,w::vs,i+1,m,nd,h1,h2,hk=>by
  show o8 kindOf ((p,w)::P.zip vs) m x=_
  unfold o8
  exact NI (i:=i) (bU.mp nd).2 (by simpa using h1) (by simpa using h2) hk
def start (N:List aL)(vs:List V):St:=vs.map some++aI (N.length-vs.length) none
def mG (CX:pR)(P:ba)(w:bM)(K:aa)(mg:aL->Option ae)(base:aG)(N:List aL)(qual:aL)(scope:eY)(f:af)(cd:ae)(A:bD)(outer:List Env)(s:aj)(H:Hp)(E:XK):Cx where
 prog:=P
 w:=w
 K:=K
 mg:=mg
 base:=base
 A:=A.deeper (envOfC qual scope s.heap.objs.size f cd)
 N:=N
 s₀:=s
 H₀:=H
 env:=envOfC qual scope s.heap.objs.size f cd
 outer:=outer
 stack:=envOfC qual scope s.heap.objs.size f cd::outer
 ex:=[]
 calm:=true
 fn:=λ_=>true
 pn:=[]
 xe:=λe s'=>aQ (aU P w) (A.deeper (envOfC qual scope s.heap.objs.size f cd)) (leaving (envOfC qual scope s.heap.objs.size f cd) e) (λ_ s''=>CX outer H s E e s'') (λe' s''=>CX outer H s E e' s'') s'
theorem Od {sc:eY}{n:Nat}{x:aL}(h:sc.names.lookup x=some .cell):∃c,(cellsFrom n sc.names []).lookup x=some c:=by
 have q:=gJ sc.names n [] (.inl h)
 exact lM.mp q
theorem Wm {CX:pR}{P:ba}{w:bM}{K:aa}{mg:aL->Option ae}{base:aG}{N ps:List aL}{qual:aL}{scope:eY}{f:af}{cd:ae}{A:bD}{outer:List Env}{s s1:aj}{H:Hp}{E:XK}{us:List ae}{vs:List V}
  (S:bn N ps scope) (hd:A.handled=none) (e0:nR P w K mg base A outer s H) (hl:vs.length=ps.length) (r:bB vs us)
  (x:InCallC s s.heap.objs.size (o9 (envOfC qual scope s.heap.objs.size f cd).kindOf (ps.zip us) λ_=>none) (cellsFrom (s.heap.objs.size+1) scope.names []) (o8 (envOfC qual scope s.heap.objs.size f cd).kindOf (ps.zip us) λ_=>none) s1) :
  Inv (mG CX P w K mg base N qual scope f cd A outer s H E) [] (start N vs) H s1:=by
 have gD:ps.length<=N.length:=by have:=congrArg iK S.pre;rw[gM]at this;omega
 obtain⟨h1,tk,rfl,hk⟩:=x.done
 have Dy:∀b:af,b∉(mG CX P w K mg base N qual scope f cd A outer s H E).ex:=λb z=>absurd (show b∈([]:List af)from z) (by simp)
 refine⟨⟨e0.mod,S.kind,rfl,rfl,aE _,λy z c h1 h2=>?_,λy hy=>?_,λy c _ h=>?_,λ_=>hd,bD.frames_deeper e0.frames,.inr ⟨rfl,rfl⟩,λb z=>absurd z (Dy b),e0.bs,e0.bsz,λb _ _=>Dy b,λb z=>absurd z (Dy b),e0.funs,e0.frf⟩,
  rfl,e0.bare,Un.kept hk,⟨_,x.toInCall.ns,λi y v h1 h2 h3=>?_⟩,λy c h=>⟨_,x.cell y c h⟩,e0.hok.fresh (aE _),λy c h=>?_,λp hp=>absurd (show p∈([]:List (af×dq))from hp) (by simp),e0.hok.kept hk,?_⟩
 ·exact name_of_addr x.apart (PySem.mem_of_lookup h1) (PySem.mem_of_lookup h2)
 ·have hy:scope.names.lookup y=some .cell\/scope.names.lookup y=some .free:=hy
  rcases hy with hy|hy
  ·exact Od hy
  ·exact absurd rfl (S.nofree _ (PySem.mem_of_lookup hy))
 ·exact ko (x.above y c (PySem.mem_of_lookup h))
 ·have hi:i<vs.length:=by
   unfold start at h2
   by_cases hi:i<vs.length
   ·exact hi
   ·rw[ek (by simpa using hi)]at h2
    rw[eM]at h2
    split at h2<;>cases h2
  have ha:vs[i]?=some v:=by
   unfold start at h2
   rw[cv (by simpa using hi),bI]at h2
   cases e:vs[i]? with
   |none=>rw[e]at h2;cases h2
   |some a=>rw[e]at h2;cases h2;rfl
  obtain⟨u,hu,rv⟩:=r.get ha
  have hp:ps[i]?=some y:=by
   rw[←S.pre,List.getElem?_take_of_lt (by omega)];exact h1
  have Mj:ps.Nodup:=by rw[←S.pre];exact S.nd.sublist (List.take_sublist _ _)
  refine⟨u,rv,?_⟩
  rcases S.par y (List.mem_of_getElem? hp)with k|k
  ·exact .inl ⟨k,NF Mj hp hu k⟩
  ·obtain⟨c,e⟩:=Od (n:=s.heap.objs.size+1) k
   refine .inr ⟨.inl k,c,e,?_⟩
   have q:=x.cell y c e
   rw[NI Mj hp hu (by show scope.names.lookup y≠_;rw[k];decide)]at q
   exact q
 ·exact e0.hok.fresh (ko (x.above y c (PySem.mem_of_lookup h)))
 ·unfold start
  show _=N.length
  rw[bw,bj,cO]
  omega
theorem zs1 {CX:pR}{P:ba}{w:bM}{K:aa}{mg:aL->Option ae}{base:aG}{k:Nat}{f:af}{name qual:aL}{params:Arguments}{body:List bP}{scope:eY}{dV kV doc pm gY ct oc:ae}{an od:Option af}
    {xO:Array (Option ae)} {N ps:List aL} {sp:Sp} (lk:K.lookup f=some ⟨oc,od,.func (fM name qual params body scope dV kV doc pm an gY ct),xO⟩) (ie:az K gY qual=true) (S:bn N ps scope)
    (len:∀vs H Q E,sp vs H Q E->vs.length=ps.length)
    (qF:∀(A:bD) (outer:List Env) (s:aj) (H:Hp) (vs:List V) (Q:VK) (E:XK),dN k (A.deeper (envOfC qual scope s.heap.objs.size f gY))->sp vs H Q E ->
      ∃t,oI (mG CX P w K mg base N qual scope f gY A outer s H E) body t/\t { nx:=λ_ H'=>Q .non H',rt:=Q } (start N vs) H) :
    cn P w K mg base CX (k+1) f (fM name qual params body scope dV kV doc pm an gY ct) ps sp:=by
  refine⟨len,λA outer s H args us vs Q E hr e0 hb r uA=>?_⟩
  have hl:=len _ _ _ _ uA
  have KX:K.In s.heap:=e0.mod.kin.keeps λb o e=>(e0.bs b o e).1
  have lim:s.heap.NoLimit:=e0.mod.nolimit.keeps λb o e=>(e0.bs b o e).1
  have Ci:∀y∈ps.zip us,scope.names.lookup y.1=some .local\/(scope.names.lookup y.1=some .cell/\((cellsFrom (s.heap.objs.size+1) scope.names []).lookup y.1).isSome=true):=λ⟨n,v⟩ hy=>by
    rcases S.par n (fQ hy).1 with q|q
    · exact .inl q
    · exact .inr ⟨q,gJ _ _ _ (.inl q)⟩
  refine codeAny_call_function hr.depth (KX _ _ lk) rfl S.co S.gen rfl (PySem.W.codeRec_of KX ie) (hb _ _ _ _ ?_)
  refine wpAny_newFunctionEnv_cells S.kind Ci λenv he s1 x=>?_
  subst he
  refine⟨lim.keeps x.toInCall.keep,codeAny_func ?_⟩
  obtain⟨t,ht,hq⟩:=qF A outer s H vs Q E (hr.deeper _) uA
  have I:Inv (mG CX P w K mg base N qual scope f gY A outer s H E) [] (start N vs) H s1:=Wm S hr.hd e0 hl r x
  refine d9 (ht [] s1 (start N vs) H _ I hq) (λfl s' hs=>?_) λe s' hs=>hs
  have fin:∀{σ':St} {H':Hp} {v:V} {u:ae},Inv (mG CX P w K mg base N qual scope f gY A outer s H E) [] σ' H' s'->RelV v u->Q v H'->CE outer P w H s Q u s' :=
    λ{σ' H' v u} J rv q=>⟨v,H',J.os,J.bare,J.base,J.hok,rv,q⟩
  cases fl with
  |ret u=>
    obtain⟨v,σ',H',J,rv,q⟩:=hs
    exact fin J rv q
  |next=>
    obtain⟨σ',H',J,q⟩:=hs
    exact fin (v:=V.non) (u:=ae.none) J rfl q
  |brk=>
    obtain⟨_,_,_,q⟩:=hs
    exact False.elim q
  |cont=>
    obtain⟨_,_,_,q⟩:=hs
    exact False.elim q
end L2
namespace L2
open PySem PySem.Spec PyProof.Rows
section
variable {X:Cx}{x:aL}{p pos:cx}{e:Expr}{es:List Expr}{t:TA}{id T:String}{r:List V->Hp->VK->Prop}
def JK (r:List V->Hp->VK->Prop)(t:TA):TE:=λσ H Q=>t σ H λvs H1=>r vs H1 Q
theorem Kj (hc:eE X (.builtin id) r)(hg:Gl X x)(hm:X.mg x=none)(hv:bX x=some (.builtin id))(ha:PA X (e::es) t)(hn:x≠"__name__":=by decide)(kd:(x==("__debug__":aL))=false:=by decide)
  (he:aq (e::es) X.env=(false,bq e X.env)::aq es X.env:=by rfl) (gD:(cj pos (aq es X.env)).any (·.1)=false:=by rfl):PE X (.Call (.Name x p) (e::es) [] pos) (JK r t):=by
 intro ah s σ H Q I h
 refine cV (qy I hg hm hv ?_ hn kd)
 exact PyProof.Rows.callWith_builtin1 (cP (ha pos ah s σ H _ I h) λus s1 ⟨vs,H1,I1,r1,q1⟩=>hc ah s1 σ H1 vs us Q I1 r1 q1) he gD
theorem NJ (hc:eE X (.type T) r)(hg:Gl X x)(hm:X.mg x=none)(hv:bX x=some (.type T))(ha:PA X (e::es) t)(hn:x≠"__name__":=by decide)(kd:(x==("__debug__":aL))=false:=by decide)
  (he:aq (e::es) X.env=(false,bq e X.env)::aq es X.env:=by rfl) (gD:(cj pos (aq es X.env)).any (·.1)=false:=by rfl):PE X (.Call (.Name x p) (e::es) [] pos) (JK r t):=by
 intro ah s σ H Q I h
 refine cV (qy I hg hm hv ?_ hn kd)
 exact bJ (cP (ha pos ah s σ H _ I h) λus s1 ⟨vs,H1,I1,r1,q1⟩=>hc ah s1 σ H1 vs us Q I1 r1 q1) he gD
end
end L2
namespace HT
open PySem PyProof.Rows
section
open PySem.SeqAt
open PySem.AutoSeq1 (wpAny_loadPart')
open PySem.MeetsSeq PySem.MeetsSeq2 PySem.MeetsSeq3
end
section
variable {prog:ba}{w:bM}{A:bD}{E:ae->aj->Prop}{s:aj}
theorem cat_tup {t b:af}{vs ws:List ae}{Q:ae->aj->Prop}(ht:IsTup s.heap t vs.toArray)(hb:IsTup s.heap b ws.toArray)(hv:vs≠[])
    (h1:ws=[]->Q (.ref t) s) (h2:ws≠[]->Q (.ref s.heap.objs.size) { s with heap:=s.heap.push { cls:=.type "tuple",data:=.seq (vs++ws).toArray } })
    (hsz:vs.length+ws.length<=sizeLine):aQ (aU prog w) A (dF .Add (.ref t) (.ref b)) Q E s:=by
  obtain⟨⟨cls,dd,data,sl⟩,ho,hc,n,hd⟩:=id ht
  obtain⟨⟨Hl,Ff,data2,yB⟩,Fv,wW,n2,hd2⟩:=id hb
  simp only at hc hd wW hd2
  subst hc hd wW hd2
  have e:vs.toArray++ws.toArray=(vs++ws).toArray:=by simp
  by_cases hw:ws=[]
  · exact pM ⟨_,ho,rfl⟩ ⟨_,Fv,rfl⟩ noFill_tuple_add seq_tuple_add PySem.F.slot_tuple_add PySem.F.entry_tuple_add (PySem.F.args_tuple_add_2 _ _)
      (tuple_addW1 t b vs.toArray ws.toArray n n2 dd Ff sl yB (by simpa using hv) (by simp[hw])) ⟨ho,Fv,h1 hw⟩
  · refine pM ⟨_,ho,rfl⟩ ⟨_,Fv,rfl⟩ noFill_tuple_add seq_tuple_add PySem.F.slot_tuple_add PySem.F.entry_tuple_add (PySem.F.args_tuple_add_2 _ _)
      (tuple_addW2 t b vs.toArray ws.toArray n n2 dd Ff sl yB (by simpa using hv) (by simpa using hw) (by rw[aK,aK];exact hsz)) ⟨ho,Fv,?_⟩
    rw[e]
    exact h2 hw
def sIx (n d:Nat):Option Int->Nat
 |none=>d
 |some v=>if v<0 then(v+(n:Int)).toNat else min v.toNat n
theorem sIx_none (n d:Nat):sIx n d none=d:=rfl
theorem sIx_nat (n d k:Nat):sIx n d (some (k:Int))=min k n:=by
 show(if(k:Int)<0 then((k:Int)+(n:Int)).toNat else min (k:Int).toNat n)=min k n
 rw[if_neg (by omega),km]
end
end HT
namespace L2
open PySem PySem.Spec PyProof.Rows
abbrev TO:=St->Hp->(Option Int->Hp->Prop)->Prop
def PO (X:Cx)(e:Option Expr)(t:TO):Prop :=
 ∀(ah:List (af×dq)) (s:aj) (σ:St) (H:Hp) (Q:Option Int->Hp->Prop),Inv X ah σ H s->t σ H Q ->
  aQ (aU X.prog X.w) X.A (evalPart e X.env) (λu s'=>∃o H',Inv X ah σ H' s'/\IsPart u o/\Q o H') X.xe s
def tJ:TO:=λ_ H Q=>Q none H
def Eu (t:TE):TO:=λσ H Q=>t σ H λx H1=>∃i,x=.int i/\Q (some i) H1
theorem VZ {ns:List Int}:∀{us:List ae},bB (ns.map V.int) us->IntsAre us ns:=by
 induction ns with
 |nil=>intro us r;rw[jW]at r;cases r;exact .nil
 |cons n ns ih=>
  intro us r
  rw[bi]at r
  cases r with
  |cons r1 r2=>
   obtain⟨t,e⟩:=r1
   subst e
   exact .cons n t (ih r2)
section
variable {X:Cx}{e:Expr}{te:TE}{lo hi:Option Expr}{tl th:TO}{pos p2:cx}
theorem Yv:PO X none tJ:=by
 intro ah s σ H Q I h
 rw[evalPart_none]
 exact bc ⟨none,H,I,.none,h⟩
theorem Yw (h:PE X e te):PO X (some e) (Eu te):=by
 intro ah s σ H Q I hw
 rw[evalPart_some]
 refine cP (h ah s σ H _ I hw) λu s1 df=>?_
 obtain⟨x,H1,I1,r1,q1⟩:=df
 obtain⟨i,rfl,q⟩:=q1
 obtain⟨t,rfl⟩:=r1
 exact⟨some i,H1,I1,.int i t,q⟩
def K1 (X:Cx)(r:V->Option Int->Option Int->Hp->VK->Prop):Prop :=
 ∀(ah:List (af×dq)) (s:aj) (σ:St) (H:Hp) (x:V) (v vl vu:ae) (lo hi:Option Int) (sl:af) (Q:VK),Inv X ah σ H s->RelV x v->s.heap.IsSliceOf sl vl vu .none->IsPart vl lo->IsPart vu hi->r x lo hi H Q ->
  ∃T id,typeLookup (.type T) "__getitem__"=pure (some (.builtin id))/\s.TypeIs v T/\aQ (aU X.prog X.w) X.A (getItem v (.ref sl)) (EP X ah σ Q) X.xe s
def Uz (r:V->Option Int->Option Int->Hp->VK->Prop)(te:TE)(tl th:TO):TE:=λσ H Q=>te σ H λx H1=>tl σ H1 λl H2=>th σ H2 λu H3=>r x l u H3 Q
theorem Xb {r:V->Option Int->Option Int->Hp->VK->Prop}(hr:K1 X r)(he:PE X e te)(hl:PO X lo tl)(hu:PO X hi th):PE X (.Subscript e (.Slice lo hi none p2) pos) (Uz r te tl th):=by
  intro ah s σ H Q I h
  refine Subscript_ (cP (he ah s σ H _ I h) λv s1 df=>?_)
  obtain⟨x,H1,I1,r1,q1⟩:=df
  refine wpAny_Slice (cP (hl ah s1 σ H1 _ I1 q1) λvl s2 ⟨l,H2,I2,pl,q2⟩=>cP (hu ah s2 σ H2 _ I2 q2) λvu s3 df=>?_)
  obtain⟨u,H3,I3,pu,q3⟩:=df
  rw[evalPart_none]
  refine bc ?_
  have I4:Inv X ah σ H3 { s3 with heap:=s3.heap.push { cls:=.type "slice",data:=.fields #[vl,vu,.none] } }:=I3.kept (t':=s3.toks) λb ob q=>am _ q
  obtain⟨T,id,hT,ht,hg⟩:=hr ah { s3 with heap:=s3.heap.push { cls:=.type "slice",data:=.fields #[vl,vu,.none] } } σ H3 x v vl vu l u s3.heap.objs.size Q I4 r1 (aG.IsSliceOf.new ..) pl pu q3
  show aQ (aU X.prog X.w) X.A (subscriptTail e (.Slice lo hi none p2) v (.ref s3.heap.objs.size)) (EP X ah σ Q) X.xe { s3 with heap:=s3.heap.push { cls:=.type "slice",data:=.fields #[vl,vu,.none] } }
  exact tail_any (ops:=[.ref s3.heap.objs.size,v]) ht hT hg (by with_unfolding_all rfl)
def pw (xs:List V)(lo hi:Option Int):List V:=(xs.drop (HT.sIx xs.length 0 lo)).take (HT.sIx xs.length xs.length hi-HT.sIx xs.length 0 lo)
theorem VF (xs:List V)(lo hi:Option Int):(pw xs lo hi).length<=xs.length:=by
 unfold pw
 rw[gM,pY]
 omega
def uH (K:aa):R2:=λx y H Q=>∃a b xs ys,x=.ref a/\y=.ref b/\jP K H a xs/\jP K H b ys/\xs≠[]/\xs.length+ys.length<=sizeLine /\
 (ys=[]->Q (.ref a) H)/\(ys≠[]->∀p,H p=none->Q (.ref p) (upd H p (.tup (xs++ys))))
theorem bB.nil_iff {xs:List V}{us:List ae}(r:bB xs us):us=[]↔xs=[]:=by
 cases r with
 |nil=>simp
 |cons _ _=>simp
theorem Yx:fL X (dF .Add) (uH X.K):=by
 intro ah s σ H x y v u Q I rx ry h
 obtain⟨a,b,xs,ys,rfl,rfl,ha,hb,hx,hz,q1,q2⟩:=h
 cases rx
 cases ry
 obtain⟨bZ,r1,p1,_⟩:=I.tuple ha
 obtain⟨oh,r2,p2,_⟩:=I.tuple hb
 refine HT.cat_tup p1 p2 (λz=>hx (r1.nil_iff.mp z)) (λz=>⟨.ref a,H,I,rfl,q1 (r2.nil_iff.mp z)⟩) (λz=>?_) (by rw[←r1.length,←r2.length];exact hz)
 refine⟨.ref s.heap.objs.size,_,I.laid (t':=s.toks) (o:=.tup (xs++ys)) (λb ob q=>am _ q) (aE _) ?_,rfl,q2 (λw=>z (r2.nil_iff.mpr w)) _ (I.hok.fresh (aE _))⟩
 exact⟨by rw[bw];exact hz,_,r1.append r2,IsTup.new _ _⟩
end
end L2
namespace L2
open PySem PySem.Spec PyProof.Rows
def ixN (n:Nat)(i:Int):Option Nat:=if 0<=i then(if i<n then some i.toNat else none)else if -(n:Int)<=i then some (i+n).toNat else none
def atI {α:Type}(xs:List α)(i:Int):Option α:=(ixN xs.length i).bind λj=>xs[j]?
theorem Ky {n:Nat}{i:Int}{j:Nat}(h:ixN n i=some j):seqIndex? i n=some j/\j<n/\-(n:Int)<=i/\i<n:=by
 unfold ixN at h
 by_cases h0:0<=i
 ·rw[if_pos h0]at h
  by_cases h1:i<n
  ·rw[if_pos h1]at h
   have e:i.toNat=j:=Option.some.inj h
   exact⟨by rw[my h0 h1,e],by omega,by omega,h1⟩
  ·rw[if_neg h1]at h;cases h
 ·rw[if_neg h0]at h
  by_cases h1:-(n:Int)<=i
  ·rw[if_pos h1]at h
   have e:(i+n).toNat=j:=Option.some.inj h
   exact⟨by rw[lH (by omega) h1,e],by omega,h1,by omega⟩
  ·rw[if_neg h1]at h;cases h
theorem Gm {α:Type}{xs:List α}{i:Int}{v:α}(h:atI xs i=some v):∃j,seqIndex? i xs.length=some j/\xs[j]?=some v/\j<xs.length/\-(xs.length:Int)<=i/\i<xs.length:=by
 unfold atI at h
 cases e:ixN xs.length i with
 |none=>rw[e]at h;cases h
 |some j=>
  rw[e]at h
  obtain⟨h1,h2,h3,h4⟩:=Ky e
  exact⟨j,h1,h,h2,h3,h4⟩
theorem yM {α:Type}{xs:List α}{j:Nat}{v:α}(h:xs[j]?=some v):atI xs (j:Int)=some v:=by
 have hj:j<xs.length:=(aX.mp h).1
 have e:ixN xs.length (j:Int)=some j:=by
  unfold ixN
  rw[if_pos (by omega),if_pos (by omega)];simp
 unfold atI;rw[e];exact h
def iH (b:Expr):Prop:=∀o i,subscripted b false o i=operate [o,i] (getItem o i)
def rQ (X:Cx)(r:R2):Prop :=
 ∀(value slice:Expr) (ah:List (af×dq)) (s:aj) (σ:St) (H:Hp) (x y:V) (v u:ae) (Q:VK),Inv X ah σ H s->RelV x v->RelV y u->r x y H Q ->
  subscripted slice false v u=operate [v,u] (getItem v u)->aQ (aU X.prog X.w) X.A (subscriptTail value slice v u) (EP X ah σ Q) X.xe s
def G1 (X:Cx)(id:String)(r:V->List V->Hp->VK->Prop):Prop :=
 ∀(ah:List (af×dq)) (s:aj) (σ:St) (H:Hp) (x:V) (xs:List V) (v:ae) (us:List ae) (Q:VK),Inv X ah σ H s->RelV x v->bB xs us->r x xs H Q ->
  aQ (aU X.prog X.w) X.A (call (.builtin id) (v::us)) (EP X ah σ Q) X.xe s
section
variable {X:Cx}{a b:Expr}{ta tb:TE}{pos:cx}
theorem rQ.or {r r':R2}(h:rQ X r)(h':rQ X r'):rQ X (λx y H Q=>r x y H Q\/r' x y H Q):=by
 intro value slice ah s σ H x y v u Q I rx ry q hs
 rcases q with q|q
 ·exact h value slice ah s σ H x y v u Q I rx ry q hs
 ·exact h' value slice ah s σ H x y v u Q I rx ry q hs
theorem GN {r:R2}(hr:rQ X r)(ha:PE X a ta)(hb:PE X b tb)(hs:iH b):PE X (.Subscript a b pos) (FI r ta tb):=by
 intro ah s σ H Q I h
 exact Subscript_ (vB ha hb I h λv u s2 x y H2 I2 rx ry q=>hr a b ah s2 σ H2 x y v u Q I2 rx ry q (hs _ _))
def Ee (K:aa):R2:=λx y H Q=>∃p xs i v,x=.ref p/\y=.int i/\dC K H p xs/\atI xs i=some v/\Q v H
def Eg (K:aa):R2:=λx y H Q=>∃p xs i v,x=.ref p/\y=.int i/\jP K H p xs/\atI xs i=some v/\Q v H
def Ef:R2:=λx y H Q=>∃z i c,x=.str z/\y=.int i/\z.length<=sizeLine/\atI z.cps.toList i=some c/\Q (.str ⟨#[c]⟩) H
theorem OH:rQ X (Ee X.K):=by
 intro value slice ah s σ H x y v u Q I rx ry h hs
 obtain⟨p,xs,i,z,rfl,rfl,hq,he,q⟩:=h
 cases rx
 obtain⟨t,rfl⟩:=ry
 obtain⟨bZ,r,pl,hz⟩:=I.list hq
 obtain⟨j,h1,h2,h3,h4,h5⟩:=Gm he
 obtain⟨w,ew,oo⟩:=r.get h2
 have hl:=r.length
 have hn:=jD
 have fin:EP X ah σ Q w s:=⟨z,H,I,oo,q⟩
 by_cases h0:0<=i
 ·have hj:i.toNat=j:=by
   rw[my h0 h5]at h1
   exact Option.some.inj h1
  exact item_listR pl.isList h0 (by omega) (by rw[hj];simpa using ew) fin hs
 ·have hj:(i+(bZ.toArray.size:Int)).toNat=j:=by
   rw[lH (by omega) h4]at h1
   rw[aK,←hl]
   exact Option.some.inj h1
  exact subscriptTail_builtinR (x:=w) pl.isList.typeIs slot_list_getitem.lookup
   (wpAny_getItem_list_neg (Q:=λr s'=>r=w/\EP X ah σ Q r s') pl.isList (by omega) (by rw[aK]<;>omega) (by omega) (by rw[hj];simpa using ew) ⟨rfl,fin⟩) hs
theorem ZU:rQ X (Eg X.K):=by
 intro value slice ah s σ H x y v u Q I rx ry h hs
 obtain⟨p,xs,i,z,rfl,rfl,hq,he,q⟩:=h
 cases rx
 obtain⟨t,rfl⟩:=ry
 obtain⟨bZ,r,pl,hz⟩:=I.tuple hq
 obtain⟨j,h1,h2,h3,h4,h5⟩:=Gm he
 obtain⟨w,ew,oo⟩:=r.get h2
 have hl:=r.length
 have hn:=jD
 have fin:EP X ah σ Q w s:=⟨z,H,I,oo,q⟩
 exact subscriptTail_builtinR (x:=w) pl.typeIs slot_tuple_getitem.lookup
  (getItem_tuple (j:=j) (Q:=λr s'=>r=w/\EP X ah σ Q r s') pl (by omega) (by omega) (by rw[aK,←hl];exact h1) (by simpa using ew) ⟨rfl,fin⟩) hs
theorem ZV:rQ X Ef:=by
 intro value slice ah s σ H x y v u Q I rx ry h hs
 obtain⟨z,i,c,rfl,rfl,hz,he,q⟩:=h
 obtain⟨t,rfl⟩:=rx
 obtain⟨t',rfl⟩:=ry
 obtain⟨j,h1,h2,h3,h4,h5⟩:=Gm he
 have hl:z.cps.toList.length=z.length:=by simp[aL.length]
 rw[hl]at h1 h4 h5
 have hn:=jD
 exact tail_any (typeIs_str s z t) slot_str_getitem.lookup (getItem_str (c:=c) (by
  have e1:decide (i < -(2 ^ 63:Int))=false:=decide_eq_false (by omega)
  have e2:decide (i >= 2 ^ 63)=false:=decide_eq_false (by omega)
  rw[e1,e2,Bool.or_false]) (by rw[h1];simpa using h2) ⟨.str ⟨#[c]⟩,H,I.tok _,⟨_,rfl⟩,q⟩) hs
def JB (K:aa):R2:=λx y H Q=>Ee K x y H Q\/Eg K x y H Q\/Ef x y H Q
theorem ve:rQ X (JB X.K):=OH.or (ZU.or ZV)
theorem V0 (bZ:List ae)(n j:Nat)(u:ae):dq.mapSeq (·.setIfInBounds j u) { cls:=.type "list",data:=.seq bZ.toArray n } = { cls:=.type "list",data:=.seq (bZ.set j u).toArray n }:=by
  simp[dq.mapSeq]
theorem Inv.lst {ah:List (af×dq)}{σ:St}{H:Hp}{s:aj}{p:af}{xs:List V}(I:Inv X ah σ H s)(h:H p=some (.lst xs)) :
    ∃(bZ:List ae) (n:Nat),bB xs bZ/\s.heap.get? p=some { cls:=.type "list",data:=.seq bZ.toArray n }/\xs.length<=sizeLine:=by
  obtain⟨z,bZ,n,r,e⟩:=I.hok p _ h
  exact⟨bZ,n,r,e,z⟩
theorem Inv.lstUpd {ah:List (af×dq)}{σ:St}{H:Hp}{s:aj}{p:af}{xs ys:List V}{bZ its':List ae}{n n':Nat}{f:dq->dq}(I:Inv X ah σ H s)(h:H p=some (.lst xs))
    (ho:s.heap.get? p=some { cls:=.type "list",data:=.seq bZ.toArray n }) (hf:f { cls:=.type "list",data:=.seq bZ.toArray n } = { cls:=.type "list",data:=.seq its'.toArray n' }) (r:bB ys its') (hz:ys.length<=sizeLine) (t:Nat) :
    Inv X ah σ (upd H p (.lst ys)) { s with heap:=s.heap.update p f,toks:=t }:=by
  have e:(s.heap.update p f).get? p=some { cls:=.type "list",data:=.seq its'.toArray n' }:=by
    rw[nD f ho (by rw[hf]<;>rfl),hf]
  refine I.write (x:=p) (e:=p) (by rw[h];trivial) (.inl rfl) (λb u hb q=>(m6 _ _ (Ne.symm hb)).trans q) ⟨_,e⟩ ?_
  exact⟨hz,its',n',r,e⟩
def Ek:V->V->V->Hp->(Hp->Prop)->Prop:=λo i v H Q=>∃p xs k j,o=.ref p/\i=.int k/\H p=some (.lst xs)/\ixN xs.length k=some j/\Q (upd H p (.lst (xs.set j v)))
theorem Oe:uY X Ek:=by
 intro ah s σ H o i v ov iv u Q I ro ri rv h
 obtain⟨p,xs,k,j,rfl,rfl,hp,hj,q⟩:=h
 cases ro
 obtain⟨t,rfl⟩:=ri
 obtain⟨bZ,n,r,ho,hz⟩:=I.lst hp
 obtain⟨h1,h2,h3,h4⟩:=Ky hj
 have hl:=r.length
 have hn:=jD
 have I':Inv X ah σ (upd H p (.lst (xs.set j v))) { s with heap:=s.heap.update p (dq.mapSeq (·.setIfInBounds j u)) } :=
  I.lstUpd hp ho (V0 bZ n j u) (r.set rv j) (by rw[rL];exact hz) s.toks
 by_cases h0:0<=k
 ·have hk:k.toNat=j:=by
   rw[my h0 h4]at h1
   exact Option.some.inj h1
  exact PySem.W.ki_setAt ho h0 (by omega) (by rw[aK,←hl];exact h4) (by rw[hk];exact⟨_,I',q⟩)
 ·have hk:(k+(bZ.toArray.size:Int)).toNat=j:=by
   rw[lH (by omega) h3]at h1
   rw[aK,←hl]
   exact Option.some.inj h1
  exact PySem.W.ki_setBack ho (by omega) (by rw[aK,←hl];exact h3) (by omega) (by rw[hk];exact⟨_,I',q⟩)
theorem Vo (lo hi:Option Int)(n:Nat):(gh lo hi none n).1=((HT.sIx n 0 lo:Nat):Int)/\(gh lo hi none n).2.1=((HT.sIx n n hi:Nat):Int)/\(gh lo hi none n).2.2=1:=by
 refine⟨?_,?_,rfl⟩
 ·cases lo with
  |none=>simp[gh,HT.sIx]
  |some i=>
   simp only[gh,HT.sIx,oZ,show(1:Int) > 0 by decide,if_true]
   by_cases h:i<0
   ·simp only[h,if_true]<;>omega
   ·simp only[h,if_false]<;>omega
 ·cases hi with
  |none=>simp[gh,HT.sIx]
  |some i=>
   simp only[gh,HT.sIx,oZ,show(1:Int) > 0 by decide,if_true]
   by_cases h:i<0
   ·simp only[h,if_true]<;>omega
   ·simp only[h,if_false]<;>omega
theorem U8 (bZ:List ae)(lo hi:Option Int):slicePick bZ.toArray lo hi none=((bZ.drop (HT.sIx bZ.length 0 lo)).take (HT.sIx bZ.length bZ.length hi-HT.sIx bZ.length 0 lo)).toArray:=by
 obtain⟨h1,h2,h3⟩:=Vo lo hi bZ.toArray.size
 unfold slicePick
 rw[h1,h2,h3]
 simp only[sliceRange_one,pick_run,aK]<;>rfl
def JD (K:aa):V->Option Int->Option Int->Hp->VK->Prop:=λx lo hi H Q=>∃a xs,x=.ref a/\dC K H a xs/\∀p,H p=none->Q (.ref p) (upd H p (.lst (pw xs lo hi)))
theorem Yy:K1 X (JD X.K):=by
 intro ah s σ H x v vl vu lo hi sl Q I rx hs pl pu h
 obtain⟨a,xs,rfl,hx,q⟩:=h
 cases rx
 obtain⟨bZ,r,ht,hz⟩:=I.list hx
 have eK:=r.length
 refine⟨"list",_,slot_list_getitem.lookup,ht.isList.typeIs,?_⟩
 refine wpAny_getItem_list_slice ht.isList hs pl pu .none (by simp) ?_ (by rw[aK]<;>omega)
 rw[U8,←eK]
 refine⟨.ref s.heap.objs.size,_,I.laid (t':=s.toks) (o:=.lst (pw xs lo hi)) (λb ob q=>am _ q) (aE _) ?_,rfl,q _ (I.hok.fresh (aE _))⟩
 exact⟨cu (VF xs lo hi) hz,_,0,(r.drop (HT.sIx xs.length 0 lo)).take (HT.sIx xs.length xs.length hi-HT.sIx xs.length 0 lo),aT _ rfl⟩
def iY:V->Bool
 |.non=>true
 |.bl _=>true
 |.int _=>true
 |.str _=>true
 |_=>false
def pS:V->V->Bool
 |.non,.non=>true
 |.bl a,.bl b=>a==b
 |.bl a,.int b=>(if a then 1 else 0)==b
 |.int a,.bl b=>a==(if b then 1 else 0)
 |.int a,.int b=>a==b
 |.str a,.str b=>a==b
 |_,_=>false
theorem ZW {A:bD}{s:aj}{y x:V}{u v:ae}(ry:RelV y u)(rx:RelV x v)(fy:iY y=true)(fx:iY x=true):SeqAt.EqAt A s u v (pS y x):=by
 cases y with
 |non=>
  cases ry
  cases x with
  |non=>cases rx;exact SeqAt.EqAt.same _
  |bl b=>cases rx;exact SeqAt.EqAt.none_bool b
  |int b=>obtain⟨t,rfl⟩:=rx;exact SeqAt.EqAt.none_int b t
  |str b=>obtain⟨t,rfl⟩:=rx;exact SeqAt.EqAt.none_str b t
  |_=>exact absurd (show false=true from fx) aN
 |bl a=>
  cases ry
  cases x with
  |non=>cases rx;exact SeqAt.EqAt.bool_none a
  |bl b=>cases rx;exact SeqAt.EqAt.bool_bool a b
  |int b=>obtain⟨t,rfl⟩:=rx;exact SeqAt.EqAt.bool_int a b t
  |str b=>obtain⟨t,rfl⟩:=rx;exact SeqAt.EqAt.bool_str a b t
  |_=>exact absurd (show false=true from fx) aN
 |int a=>
  obtain⟨t',rfl⟩:=ry
  cases x with
  |non=>cases rx;exact SeqAt.EqAt.int_none a t'
  |bl b=>cases rx;exact SeqAt.EqAt.int_bool a t' b
  |int b=>obtain⟨t,rfl⟩:=rx;exact SeqAt.EqAt.int_int a t' b t
  |str b=>obtain⟨t,rfl⟩:=rx;exact SeqAt.EqAt.int_str a t' b t
  |_=>exact absurd (show false=true from fx) aN
 |str a=>
  obtain⟨t',rfl⟩:=ry
  cases x with
  |non=>cases rx;exact SeqAt.EqAt.str_none a t'
  |bl b=>cases rx;exact SeqAt.EqAt.str_bool a t' b
  |int b=>obtain⟨t,rfl⟩:=rx;exact SeqAt.EqAt.str_int a t' b t
  |str b=>obtain⟨t,rfl⟩:=rx;exact SeqAt.EqAt.str_str a t' b t
  |_=>exact absurd (show false=true from fx) aN
 |_=>exact absurd (show false=true from fy) aN
def BZ (x:V)(u:ae):Bool:=match u with
 |.none=>pS .non x
 |.bool b=>pS (.bl b) x
 |.int i _=>pS (.int i) x
 |.str z _=>pS (.str z) x
 |_=>false
theorem Pf {x y:V}{u:ae}(r:RelV y u)(f:iY y=true):BZ x u=pS y x:=by
 cases y with
 |non=>cases r;rfl
 |bl b=>cases r;rfl
 |int i=>obtain⟨t,rfl⟩:=r;rfl
 |str z=>obtain⟨t,rfl⟩:=r;rfl
 |_=>exact absurd (show false=true from f) aN
theorem Of {A:bD}{s:aj}{x:V}{v:ae}(rx:RelV x v)(fx:iY x=true):∀{xs:List V} {us:List ae},bB xs us->xs.all iY=true->∀u∈us,SeqAt.EqAt A s u v (BZ x u)
 |_,_,.nil,_=>λu hu=>by cases hu
 |y::xs,u::us,.cons r t,f=>λu' hu=>by
  rw[cQ,bt]at f
  rcases aC.mp hu with rfl|hu
  ·rw[Pf r f.1];exact ZW r rx f.1 fx
  ·exact Of rx fx t f.2 u' hu
def L6 (x:V)(xs:List V):Bool:=xs.any λy=>pS y x
theorem Vp:eE X (.builtin "len") (λxs H Q=>∃p ys,xs=[.ref p]/\(dC X.K H p ys\/jP X.K H p ys)/\Q (.int ys.length) H):=by
 intro ah s σ H xs us Q I r h
 obtain⟨p,ys,rfl,hq,q⟩:=h
 obtain⟨u,rfl,rx⟩:=mw r
 cases rx
 have hn:=jD
 rcases hq with hq|hq
 ·obtain⟨bZ,r',pl,hz⟩:=I.list hq
  have eK:=r'.length
  exact Calls.call_len_list pl.isList (by simp only[aK]<;>omega) ⟨.int ys.length,H,I.tok _,⟨s.toks+1,by rw[aK,eK]⟩,q⟩
 ·obtain⟨bZ,r',pl,hz⟩:=I.tuple hq
  have eK:=r'.length
  exact len_tuple pl (by simp only[aK]<;>omega) ⟨.int ys.length,H,I.tok _,⟨s.toks+1,by rw[aK,eK]⟩,q⟩
theorem Vq:eE X (.builtin "len") (λxs H Q=>∃z,xs=[.str z]/\z.length<=sizeLine/\Q (.int z.length) H):=by
 intro ah s σ H xs us Q I r h
 obtain⟨z,rfl,hz,q⟩:=h
 obtain⟨u,rfl,t,rfl⟩:=mw r
 have hn:=jD
 exact len_str (by omega) ⟨.int z.length,H,I.tok _,⟨_,rfl⟩,q⟩
theorem eE.or {f:ae}{r r':List V->Hp->VK->Prop}(h:eE X f r)(h':eE X f r'):eE X f (λxs H Q=>r xs H Q\/r' xs H Q):=by
 intro ah s σ H xs us Q I rs q
 rcases q with q|q
 ·exact h ah s σ H xs us Q I rs q
 ·exact h' ah s σ H xs us Q I rs q
theorem u5:eE X (.type "list") (λxs H Q=>∃p ys,xs=[.ref p]/\(dC X.K H p ys\/jP X.K H p ys)/\∀l,H l=none->Q (.ref l) (upd H l (.lst ys))):=by
  intro ah s σ H xs us Q I r h
  obtain⟨p,ys,rfl,hq,q⟩:=h
  obtain⟨u,rfl,rx⟩:=mw r
  cases rx
  have fin:∀(bZ:List ae),bB ys bZ->ys.length<=sizeLine->∀(h':aG) (c':Nat),(∀b o',s.heap.get? b=some o'->h'.get? b=some o') ->
      h'.get? s.heap.objs.size=some { cls:=.type "list",dict:=none,data:=.seq bZ.toArray c',slots:=#[] }->EP X ah σ Q (.ref s.heap.objs.size) { s with heap:=h' }:=λbZ r' hz h' c' kp e=>
    ⟨.ref s.heap.objs.size,_,I.laid (t':=s.toks) kp (aE _) (show dE X.prog X.w _ h' _ (.lst ys)from⟨hz,bZ,c',r',e⟩),rfl,q _ (I.hok.fresh (aE _))⟩
  rcases hq with hq|hq
  · obtain⟨bZ,r',pl,hz⟩:=I.list hq
    have eK:=r'.length
    obtain⟨o,ho,hc,n,hd⟩:=pl.isList
    exact call_list_seq p (.inl rfl) ho hc hd (λh' c' kp e=>fin bZ r' hz h' c' kp e) (by simp only[aK]<;>omega)
  · obtain⟨bZ,r',pl,hz⟩:=I.tuple hq
    have eK:=r'.length
    obtain⟨o,ho,hc,n,hd⟩:=pl
    exact call_list_seq p (.inr rfl) ho hc hd (λh' c' kp e=>fin bZ r' hz h' c' kp e) (by simp only[aK]<;>omega)
def JX (K:aa)(T:String)(x:V)(H:Hp):Prop:=match x with
 |.str _=>T = "str"
 |.int _=>T = "int"
 |.ref p=>(T = "list"/\∃xs,dC K H p xs)\/(T = "tuple"/\∃o,K.lookup p=some o/\o.cls=.type "tuple"/\o.dict=none) \/
   (T = "dict"/\((∃ck,H p=some (.dK ck))\/∃ck,H p=some (.dT ck)))\/(T = "set"/\∃S n,H p=some (.set S n))
 |_=>False
theorem Pg {ah:List (af×dq)}{σ:St}{H:Hp}{s:aj}{T:String}{x:V}{v:ae}(I:Inv X ah σ H s)(r:RelV x v)(ty:JX X.K T x H) :
  s.TypeIs v T/\∀a,v=.ref a->∃ob,s.heap.get? a=some ob/\ob.dict=none:=by
 cases x with
 |str z=>
  obtain⟨t,rfl⟩:=r
  cases(show T = "str" from ty)
  exact⟨typeIs_str s z t,λ_ e=>nomatch e⟩
 |int i=>
  obtain⟨t,rfl⟩:=r
  cases(show T = "int" from ty)
  exact⟨tT s i t,λ_ e=>nomatch e⟩
 |ref p=>
  cases r
  rcases ty with⟨rfl,xs,hq⟩|⟨rfl,o,hk,hc,hd⟩|⟨rfl,hk⟩|⟨rfl,S,n,hk⟩
  ·obtain⟨bZ,_,pl,_⟩:=I.list hq
   refine⟨pl.isList.typeIs,λa e=>?_⟩
   cases e
   obtain⟨o,n,e,c,hd,_⟩:=pl
   exact⟨o,e,hd⟩
  ·refine⟨⟨o,I.kIn p o hk,hc⟩,λa e=>?_⟩
   cases e
   exact⟨o,I.kIn _ o hk,hd⟩
  ·have z:∃o,s.heap.get? p=some o/\o.ExactDict:=by
    rcases hk with⟨ck,hk⟩|⟨ck,hk⟩
    ·obtain⟨_,_,_,_,o,_,_,e,ex,_⟩:=I.hok p _ hk
     exact⟨o,e,ex⟩
    ·obtain⟨_,_,_,_,o,_,_,e,ex,_⟩:=I.hok p _ hk
     exact⟨o,e,ex⟩
   obtain⟨o,e,ex⟩:=z
   refine⟨⟨o,e,ex.1⟩,λa e2=>?_⟩
   cases e2
   exact⟨o,e,ex.2.1⟩
  ·obtain⟨o,_,_,_,e,ex,_⟩:=I.hok p _ hk
   refine⟨⟨o,e,ex.1⟩,λa e2=>?_⟩
   cases e2
   exact⟨o,e,ex.2.1⟩
 |_=>exact False.elim ty
def JJ (K:aa)(T:String)(r:V->List V->Hp->VK->Prop)(to:TE):TE:=λσ H Q=>to σ H λx H1=>JX K T x H1/\r x [] H1 Q
def Uw (K:aa)(T:String)(r:V->List V->Hp->VK->Prop)(to:TE)(t:TA):TE:=λσ H Q=>to σ H λx H1=>JX K T x H1/\t σ H1 λxs H2=>r x xs H2 Q
variable {o e:Expr}{es:List Expr}{to:TE}{t:TA}{name:aL}{cL cU:cx}{T id:String}{r:V->List V->Hp->VK->Prop}
theorem ZX (pa:PlainAttrs T)(slot:Slot T name id)(Ja:typeOf (.builtin id)=pure (.type "method_descriptor"))(hm:G1 X id r)(ho:PE X o to)
  (iw:de o name X.env (bq o X.env)=bq o X.env:=by rfl) (iy:(cL.endLine==cU.line)=true:=by rfl):PE X (.Call (.Attribute o name cL) [] [] cU) (JJ X.K T r to):=by
 intro ah s σ H Q I h
 refine wpAny_Call_method0_late iw iy (cP (ho ah s σ H _ I h) λv s1 df=>?_)
 obtain⟨x,H1,I1,r1,ty,q1⟩:=df
 obtain⟨h1,h2⟩:=Pg I1 r1 ty
 exact⟨T,id,pa,slot,Ja,h1,h2,Calls.callWith_builtin rfl (PySem.evalArgs_none (hm ah s1 σ H1 x [] v [] Q I1 r1 .nil q1))⟩
theorem GO (pa:PlainAttrs T)(slot:Slot T name id)(Ja:typeOf (.builtin id)=pure (.type "method_descriptor"))(hm:G1 X id r)(ho:PE X o to)(ha:PA X (e::es) t)
  (iw:de o name X.env (bq o X.env)=bq o X.env:=by rfl)
  (n6:((cj cU (aq (e::es) X.env)).all (λx=>!x.1)&&(cH cU (bS [] X.env)).all (λx=>x.1.isSome)
   && decide ((e::es).length+([]:List dQ).length+(if([]:List dQ).isEmpty then 0 else 1)<30))=true:=by rfl)
  (iy:(cL.endLine==cU.line)=true:=by rfl) (hs:aq (e::es) X.env=(false,bq e X.env)::aq es X.env:=by rfl) (jC:(cj cU (aq es X.env)).any (·.1)=false:=by rfl) :
  PE X (.Call (.Attribute o name cL) (e::es) [] cU) (Uw X.K T r to t):=by
 intro ah s σ H Q I h
 refine wpAny_Call_method_late iw n6 iy rfl (cP (ho ah s σ H _ I h) λv s1 df=>?_)
 obtain⟨x,H1,I1,r1,ty,q1⟩:=df
 obtain⟨h1,h2⟩:=Pg I1 r1 ty
 refine⟨T,id,pa,slot,Ja,h1,h2,?_⟩
 have hA:=ha cU ah s1 σ H1 _ I1 q1
 rw[hs]at hA ⊢
 refine Calls.callWith_builtin (by show(false || (cj cU (aq es X.env)).any (·.1))=false;rw[jC]<;>rfl) (Calls.evalArgs_plain ?_)
 exact cP hA λus s2 ⟨vs,H2,I2,r2,q2⟩=>hm ah s2 σ H2 x vs v us Q I2 r1 r2 q2
end
end L2
namespace L2
open PySem PySem.Spec PyProof.Rows
def EZ (X:Cx)(id:String)(r:V->List V->Hp->VK->Prop):Prop :=
 ∀(ah:List (af×dq)) (s:aj) (σ:St) (H:Hp) (x:V) (xs:List V) (v:ae) (us:List ae) (Q:VK),Inv X ah σ H s->RelV x v->bB xs us->r x xs H Q ->
  aQ (aU X.prog X.w) X.A (call (.builtin id) (v::us)) (EP X ah σ Q) X.xe s
theorem bB.one:∀{x:V} {us:List ae},bB [x] us->∃u,us=[u]/\RelV x u
 |_,_,.cons r .nil=>⟨_,rfl,r⟩
theorem bB.zero:∀{us:List ae},bB [] us->us=[]
 |_,.nil=>rfl
theorem bB.dropLast {xs:List V}{us:List ae}(h:bB xs us):bB xs.dropLast us.dropLast:=by
 induction h with
 |nil=>exact .nil
 |cons r t ih=>
  cases t with
  |nil=>exact .nil
  |cons q t'=>exact .cons r ih
theorem bB.eraseIdx:∀{xs:List V} {us:List ae} (i:Nat),bB xs us->bB (xs.eraseIdx i) (us.eraseIdx i)
 |_,_,_,.nil=>.nil
 |_,_,0,.cons _ t=>t
 |_,_,i+1,.cons r t=>.cons r (bB.eraseIdx i t)
theorem bB.reverse {xs:List V}{us:List ae}(h:bB xs us):bB xs.reverse us.reverse:=by
 induction h with
 |nil=>exact .nil
 |cons r t ih=>rw[eU,eU];exact bB.append ih (.cons r .nil)
theorem bB.rep {xs:List V}{us:List ae}(h:bB xs us):∀k:Nat,bB (aI k xs).flatten (aI k us).flatten
 |0=>.nil
 |k+1=>by
  rw[cw,cw,dZ,dZ]
  exact bB.append h (bB.rep h k)
theorem V1 {α:Type}(l:List α):l.eraseIdx (l.length-1)=l.dropLast:=by
 induction l with
 |nil=>rfl
 |cons a r ih=>
  cases r with
  |nil=>rfl
  |cons b r=>
   have e:(a::b::r).length-1=((b::r).length-1)+1:=by
    have h1:(a::b::r).length=r.length+2:=rfl
    have h2:(b::r).length=r.length+1:=rfl
    omega
   rw[e,mT,ih]
   all_goals rfl
theorem NK {α:Type}:∀(l:List α) (i:Nat),(l.eraseIdx i).length<=l.length
 |[],_=>aE _
 |_::_,0=>kU _
 |_::r,i+1=>Nat.succ_le_succ (NK r i)
theorem foldl_rep (bZ:List ae):∀(k:Nat) (fN:List ae),
  oX (λx1 x2=>x1++x2) fN.toArray (aI k bZ.toArray)=(fN++(aI k bZ).flatten).toArray
 |0,fN=>by simp
 |k+1,fN=>by
  have e:fN.toArray++bZ.toArray=(fN++bZ).toArray:=by simp
  have e2:(fN++bZ)++(aI k bZ).flatten=fN++(aI (k+1) bZ).flatten:=by
   rw[cw,dZ,eS]
  rw[←e2,←foldl_rep bZ k (fN++bZ),←e,cw,dW]
section
variable {X:Cx}{ah:List (af×dq)}{σ:St}{H:Hp}{s:aj}{l b:af}{xs ys zs:List V}
theorem Inv.lset {bZ its':List ae}{n:Nat}{f:Array ae->Array ae}{t':Nat}(I:Inv X ah σ H s)(hH:H l=some (.lst xs))
    (e:s.heap.get? l=some { cls:=.type "list",data:=.seq bZ.toArray n }) (hf:f bZ.toArray=its'.toArray) (hv:bB ys its') (hz:ys.length<=sizeLine) :
    Inv X ah σ (upd H l (.lst ys)) { s with heap:=s.heap.update l (dq.mapSeq f),toks:=t' }:=by
  have q:=PySem.IsL.update e f
  rw[hf]at q
  refine I.write (x:=l) (e:=l) (by rw[hH];exact trivial) (.inl rfl) (λb' u hb hu=>(m6 s.heap (dq.mapSeq f) (Ne.symm hb)).trans hu) ⟨_,q⟩ ?_
  exact⟨hz,its',_,hv,q⟩
theorem Inv.lnew {bZ:List ae}{t':Nat}(I:Inv X ah σ H s)(hv:bB ys bZ)(hz:ys.length<=sizeLine) :
    Inv X ah σ (upd H s.heap.objs.size (.lst ys)) { s with heap:=s.heap.push { cls:=.type "list",data:=.seq bZ.toArray },toks:=t' } :=
  I.laid (λ_ _ q=>am _ q) (aE _) ⟨hz,bZ,0,hv,aT _ rfl⟩
theorem Inv.fresh (I:Inv X ah σ H s):H s.heap.objs.size=none:=I.hok.fresh (aE _)
theorem Inv.lstM (I:Inv X ah σ H s)(hH:H l=some (.lst xs)):xs.length<=sizeLine/\∃(bZ:List ae) (n:Nat),bB xs bZ/\xs.length=bZ.length/\s.heap.get? l=some { cls:=.type "list",data:=.seq bZ.toArray n }:=by
  obtain⟨z,bZ,n,r,e⟩:=I.hok l _ hH
  exact⟨z,bZ,n,r,r.length,e⟩
theorem rj {n:Nat}(h:n<=sizeLine):dc.List.listTooLong n=false:=by
 unfold dc.List.listTooLong
 exact decide_eq_false (by omega)
end
section
variable {X:Cx}
def tF:V->List V->Hp->VK->Prop:=λx vs H Q=>∃l xs y,x=.ref l/\vs=[y]/\H l=some (.lst xs)/\xs.length<sizeLine/\Q .non (upd H l (.lst (xs++[y])))
theorem FU:EZ X "list.append" tF:=by
 intro ah s σ H x vs v us Q I rx rv h
 obtain⟨l,xs,y,rfl,rfl,hH,hz,q⟩:=h
 cases rx
 obtain⟨u,rfl,ru⟩:=rv.one
 obtain⟨z,bZ,n,r,hl,e⟩:=I.lstM hH
 refine gI F.slot_list_append ⟨_,e,rfl⟩ F.entry_list_append (F.args_list_append_2 _ _) (PySem.list_append l bZ.toArray n u (by rw[aK];omega)) ⟨e,?_⟩
 refine⟨.non,_,I.lset (its':=bZ++[u]) hH e (by simp) (r.append (.cons ru .nil)) ?_,rfl,q⟩
 rw[bw,ip]
 omega
def JC:V->List V->Hp->VK->Prop:=λx vs H Q=>∃l xs y,x=.ref l/\vs=[]/\H l=some (.lst xs)/\xs[xs.length-1]?=some y/\Q y (upd H l (.lst xs.dropLast))
theorem ztk:EZ X "list.pop" JC:=by
 intro ah s σ H x vs v us Q I rx rv h
 obtain⟨l,xs,y,rfl,rfl,hH,hy,q⟩:=h
 cases rx
 have Jd:=rv.zero
 subst Jd
 obtain⟨z,bZ,n,r,hl,e⟩:=I.lstM hH
 obtain⟨u,hu,ru⟩:=r.get hy
 have qS:bZ.toArray[bZ.toArray.size-1]?=some u:=by
  show bZ.toArray[bZ.length-1]?=some u
  rw[←m5,←hl]
  exact hu
 refine gI F.slot_list_pop ⟨_,e,rfl⟩ F.entry_list_pop (F.args_list_pop_1 _) (MeetsSeq.list_pop_last l bZ.toArray n u qS (by rw[aK];omega)) ⟨e,?_⟩
 refine⟨y,_,I.lset (its':=bZ.dropLast) hH e ?_ r.dropLast ?_,ru,q⟩
 ·show bZ.toArray.eraseIdxIfInBounds (bZ.toArray.size-1)=bZ.dropLast.toArray
  rw[aK,kn,V1]
 ·rw[List.length_dropLast]
  omega
def xZ:V->List V->Hp->VK->Prop:=λx vs H Q=>∃l xs i k y,x=.ref l/\vs=[.int i]/\H l=some (.lst xs)/\-(2 ^ 63)<=i/\i<2 ^ 63/\seqIndex? i xs.length=some k/\xs[k]?=some y/\Q y (upd H l (.lst (xs.eraseIdx k)))
theorem Xc:EZ X "list.pop" xZ:=by
 intro ah s σ H x vs v us Q I rx rv h
 obtain⟨l,xs,i,k,y,rfl,rfl,hH,h1,h2,hk,hy,q⟩:=h
 cases rx
 obtain⟨u,rfl,ru⟩:=rv.one
 obtain⟨t,rfl⟩:=ru
 obtain⟨z,bZ,n,r,hl,e⟩:=I.lstM hH
 obtain⟨w,hw,oo⟩:=r.get hy
 refine gI F.slot_list_pop ⟨_,e,rfl⟩ F.entry_list_pop (F.args_list_pop_2 _ _)
  (MeetsSeq.list_pop_at l bZ.toArray n i t k w (fitsIndex_both h1 h2) (by rw[aK,←hl];exact hk) (by rw[←m5];exact hw) (by rw[aK];omega)) ⟨e,?_⟩
 refine⟨y,_,I.lset (its':=bZ.eraseIdx k) hH e ?_ (r.eraseIdx k) ?_,oo,q⟩
 ·show bZ.toArray.eraseIdxIfInBounds k=(bZ.eraseIdx k).toArray
  rw[kn]
 ·have:=NK xs k
  omega
def xV:V->List V->Hp->VK->Prop:=λx vs H Q=>∃l xs,x=.ref l/\vs=[]/\H l=some (.lst xs)/\Q .non (upd H l (.lst []))
theorem Xd:EZ X "list.clear" xV:=by
 intro ah s σ H x vs v us Q I rx rv h
 obtain⟨l,xs,rfl,rfl,hH,q⟩:=h
 cases rx
 have Jd:=rv.zero
 subst Jd
 obtain⟨z,bZ,n,r,hl,e⟩:=I.lstM hH
 refine gI F.slot_list_clear ⟨_,e,rfl⟩ F.entry_list_clear (F.args_list_clear_1 _) (AutoSeq1.list_clear_list_0 l bZ.toArray n (by rw[aK];omega)) ⟨e,?_⟩
 exact⟨.non,_,I.lset (its':=[]) (ys:=[]) hH e rfl .nil (dP _),rfl,q⟩
theorem Yz {α:Type}(xs:List α)(k:Nat):(aI k xs).flatten.length=k*xs.length:=by
 induction k with
 |zero=>simp
 |succ k ih=>rw[cw,dZ,bw,ih,Nat.succ_mul,Nat.add_comm]
end
section
variable {prog:ba}{w:bM}{A:bD}{E:ae->aj->Prop}{s:aj}
end
section
variable {X:Cx}
end
end L2
namespace Att
open PySem PySem.W PySem.Calls PyProof.Rows
theorem UV {P:Params}{h:aG}:∀(ns:List Int) (vs:List ae),WellAll P h vs (ns.map WData.int)->IntsAre vs ns:=by
 intro ns
 induction ns with
 |nil=>
  intro vs w
  rw[jW]at w
  cases w
  exact .nil
 |cons n ns ih=>
  intro vs w
  rw[bi]at w
  cases w with
  |cons a b=>
   cases a
   exact .cons _ _ (ih _ b)
theorem Wn {l:OpenLaw}{n:Nat}(hn:l.most=some n){P:Params}{h:aG}{args:List WData}{vals:List ae}
    (mK:l.row.toRowW.claim.pre args=true) (Je:WellAll P h vals args) :
    ∃a vs ns,vals=[ae.ref a]/\args=[WData.list (ns.map WData.int)]/\h.get? a=some { cls:=.type "list",data:=.seq vs.toArray }/\IntsAre vs ns/\ns.length<=n:=by
  have RR:WShape.hasAll [] args [.list .int]=true:=(pre_splitW mK).1
  have hc:l.pre.holds [] { args:=args }=true:=(pre_splitW mK).2
  obtain⟨d,r,rfl,h1,h2⟩:=hasAllW_cons RR
  obtain rfl:=hasAllW_nil h2
  obtain⟨xs,rfl,h3⟩:=hasW_list h1
  obtain⟨ns,rfl⟩:=items_int h3
  have eK:ns.length<=n:=by
    unfold OpenLaw.pre at hc
    have h4:(WTm.not (.lt (.lit (.int (n:Int))) (.len (.arg 0)))).holds [] { args:=[.list (ns.map .int)] }=true:=by
      have h4:=(holds_andW hc).1
      rw[hn]at h4
      exact h4
    have h5:=condW_of h4 (w_not (w_lt w_lit (w_len_list (w_arg rfl))))
    rw[bj]at h5
    refine Nat.le_of_not_lt λq=>?_
    have q':(n:Int)<((ns.length:Nat):Int):=by omega
    first
      |(rw[decide_eq_true q']at h5;exact absurd h5 (by decide))
      |(simp at h5;omega)
  cases Je with
  |cons w1 w2=>
    cases w2
    cases w1 with
    |list ho mH=>exact⟨_,_,ns,rfl,rfl,ho,UV ns _ mH,eK⟩
theorem Wo (l:OpenLaw)(args:List WData):l.row.toRowW.claim.post args (.bool true) args=true :=
  postW_of (r:=l.row.toRowW) (X:=(true==true))
    (show WShape.has [] (.bool true) .bool=true by first|rfl|decide|simp[WShape.has,WShape.arms,WShape.armsAll])
    (show(WTm.eq .res (.lit (.bool true))).value [] { args:=args,res:=some (.bool true),after:=args }=some (.bool (true==true))from w_eq_bool (w_res rfl) w_lit) rfl
theorem attach_call {l:OpenLaw}{n:Nat}{q:ba}{loose:List aL}{XP:(aL->Option ae)->aG->Prop}{YP:bM->aG->Prop}{d:DefRec}
    (hn:l.most=some n) (Cb:d.params.defaults=[])
    (call:∀(w:bM) (s₀ s₁:aj) (mg mb:aL->Option ae) (fa:af) (o:dq) (pm cd doc:ae) (a:af) (vs:List ae) (ns:List Int),
      Ground q loose [] XP w s₀ mg mb s₁.heap->YP w s₁.heap ->
      s₁.heap.get? fa=some o->o.data=.func (docDef d.name d.params d.body d.scope pm cd doc)->s₁.heap.CodeRec cd d.name->mg d.name=some (.ref fa) ->
      s₁.heap.get? a=some { cls:=.type "list",data:=.seq vs.toArray }->IntsAre vs ns->ns.length<=n->s₁.gens = #[] ->
      gC (aU l.prog w) lG (.call (.ref fa) ⟨[.ref a],[]⟩) (λr s'=>r=.ok (.ret (.bool true))/\OldK s₁.heap s'.heap/\s'.os=s₁.os/\AllBare s'.gens) s₁) :
    WalkO q loose XP YP l.row.toRowW d [] (λf vs=>PySem.call f vs):=by
  intro w s₀ s₁ mg mb G Y fa o pm cd doc dV kV ho hd ie hD hmg hg args vals as mK RG hrd Je hlo
  obtain rfl:dV=.none:=Dflts.none hD Cb
  obtain rfl:kV=.none:=Dflts.noKw hD
  obtain⟨a,vs,ns,rfl,rfl,xF,qL,eK⟩:=Wn hn mK Je
  refine enter_call (iV (call w s₀ s₁ mg mb fa o pm cd doc a vs ns G Y ho (fd_plain hd) ie hmg xF qL eK hg) λr s' hq=>?_)
  obtain⟨rfl,h2,h3,h4⟩:=hq
  exact⟨.inl ⟨.bool true,.bool true,[],rfl,λ_=>rfl,.bool true,Wo l _,λ_=>⟨List.Pairwise.nil,λ_ hm=>(nomatch hm)⟩⟩,h2,h3,h4⟩
section
variable {prog:ba}{w:bM}{A:bD}{E:ae->aj->Prop}{s:aj}{K:Frag}
end
end Att
namespace L2
open PySem PySem.Spec PyProof.Rows
theorem NL:∀{vs:List ae} {ns:List Int},IntsAre vs ns->bB (ns.map V.int) vs
 |_,_,.nil=>.nil
 |_,_,.cons n t h=>.cons ⟨t,rfl⟩ (NL h)
def uW (H:Hp):Prop:=∀b,H b=none\/∃o xs,H b=some (.frz o (.lst xs))
theorem Xe {P:ba}{w:bM}{K:aa}{mg mb:aL->Option ae}{CX:pR}{k:Nat}{fa a:af}{fd:aH}{x:aL}{sp:Sp}{s₁:aj}{vs:List ae}{ns:List Int}
    (KX:K.In s₁.heap) (oQ:s₁.heap.Ns aw mg) (hb:s₁.heap.Ns tS mb) (Rn:∀x:aL,x≠"__name__"->mb x=bX x) (IP:s₁.heap.NoLimit) (hg:s₁.gens = #[])
    (ha:s₁.heap.get? a=some { cls:=.type "list",data:=.seq vs.toArray }) (hi:IntsAre vs ns) (hl:ns.length<=sizeLine) (hr:dN k lG)
    (F:∀base:aG,K.In base->base.Ns aw mg->cn P w K mg base CX k fa fd [x] sp) (B9:∀(s:aj) (u:ae),jX s fd ⟨[u],[]⟩ [(x,u)])
    (uA:∀H:Hp,uW H->dC K H a (ns.map V.int)->sp [.ref a] H (λv _=>v=.bl true) λ_ _ _=>False)
    (Ip:∀H e s',CX [] H s₁ (λ_ _ _=>False) e s'->False) :
    gC (aU P w) lG (.call (.ref fa) ⟨[.ref a],[]⟩) (λr s'=>r=.ok (.ret (.bool true))/\OldK s₁.heap s'.heap/\s'.os=s₁.os/\AllBare s'.gens) s₁:=by
  have rv:=NL hi
  have Js:=hi.length
  have core:∀H:Hp,uW H->dC K H a (ns.map V.int)->jH P w H s₁.heap->(∀b,H b≠none->b=a)->(H a≠none->K.lookup a=none) ->
      gC (aU P w) lG (.call (.ref fa) ⟨[.ref a],[]⟩) (λr s'=>r=.ok (.ret (.bool true))/\OldK s₁.heap s'.heap/\s'.os=s₁.os/\AllBare s'.gens) s₁:=by
    intro H hO hS hok hA hK
    have oK:∀{b:af} {o:dq},s₁.heap.get? b=some o->H b=none->(mI s₁.heap H).get? b=some o:=λe n=>W1 e n
    have Dy:∀{b:af} {o:dq} {es:Array DictEntry} {ep:Nat},s₁.heap.get? b=some o->o.data=.dict es ep->H b=none:=λ{b o es ep} e d=>by
      cases q:H b with
      |none=>rfl
      |some u=>
        have e':b=a:=hA b (by rw[q];simp)
        subst e'
        rw[ha]at e;cases e
        have d':oF.seq vs.toArray _=oF.dict es ep:=d
        cases d'
    have FE:∀{b:af} {m:aL->Option ae},s₁.heap.Ns b m->(mI s₁.heap H).Ns b m:=λ{b m} ⟨o,es,ep,e,d,r⟩=>⟨o,es,ep,oK e (Dy e d),d,r⟩
    have LG:K.In (mI s₁.heap H):=λb o e=>oK (KX b o e) (by
      cases q:H b with
      |none=>rfl
      |some u=>
        have e':b=a:=hA b (by rw[q];simp)
        subst e'
        rw[hK (by rw[q];simp)]at e;cases e)
    have hM:Mod K mg (mI s₁.heap H):=⟨LG,FE oQ,⟨mb,FE hb,Rn⟩,let⟨mc,h1,h2⟩:=IP;⟨mc,FE h1,h2⟩⟩
    have e0:nR P w K mg (mI s₁.heap H) lG [] s₁ H:=⟨rfl,hM,λb o e=>XN e,Nat.le_of_eq (VN _ _),trivial,λb hb=>absurd (show b∈([]:List af)from hb) (by simp),hok,.of_eq hg⟩
    refine iV ((F _ LG (FE oQ)).run lG [] s₁ H ⟨[.ref a],[]⟩ [.ref a] [.ref a] _ _ hr e0 (B9 s₁ (.ref a)) (.cons rfl .nil) (uA H hO hS)) λr s' h=>?_
    cases r with
    |error e=>exact(Ip H e s' h).elim
    |ok fl=>
      cases fl with
      |next=>exact False.elim h
      |brk=>exact False.elim h
      |cont=>exact False.elim h
      |ret u=>
        obtain⟨v,H',os,bare,un,IV,r',q⟩:=h
        have q':v=.bl true:=q
        subst q'
        obtain rfl:u=ae.bool true:=r'
        refine⟨rfl,OldK.of_keep λb o e=>?_,os,bare⟩
        cases q:H b with
        |none=>exact un.keep b o e q (by intro z;exact absurd (show b∈([]:List af)from z) (by simp)) (by simp)
        |some u=>
          rcases hO b with z|⟨ob,xs,z⟩
          · rw[q]at z;cases z
          · have z2:=un.frzs b ob _ z
            obtain⟨e1,_⟩:=hok b _ z
            obtain⟨e2,_⟩:=IV b _ z2
            rw[e]at e1;cases e1
            exact e2
  cases hk:K.lookup a with
  |some o=>
    have e:=KX a o hk
    rw[ha]at e
    cases e
    refine core (λ_=>none) (λ_=>.inl rfl) (.inr ⟨_,vs.toArray,_,hk,rfl,rfl,rfl,by rw[aK,Js];exact hl,by simpa using rv⟩) (λb u z=>by have z':(none:Option HO)=some u:=z;cases z') (λb z=>absurd rfl z) λz=>absurd rfl z
  |none=>
    refine core (λb=>if b=a then some (.frz { cls:=.type "list",data:=.seq vs.toArray } (.lst (ns.map V.int)))else none) (λb=>?_) (.inl (.inr ⟨{ cls:=.type "list",data:=.seq vs.toArray },if_pos rfl⟩)) (λb u z=>?_) (λb z=>?_) λ_=>hk
    · by_cases hb:b=a
      · exact .inr ⟨_,_,if_pos hb⟩
      · exact .inl (if_neg hb)
    · by_cases hb:b=a
      · have z':=(if_pos hb).symm.trans z
        cases z'
        subst hb
        exact⟨ha,by rw[bj];exact hl,vs,_,rv,ha⟩
      · have z':=(if_neg hb).symm.trans z
        cases z'
    · by_cases hb:b=a
      · exact hb
      · exact absurd (if_neg hb) z
end L2
namespace L2
open PySem PySem.Spec PyProof.Rows
theorem walk_of {l:kx}{n k:Nat}{q:ba}{loose:List aL}{XP:(aL->Option ae)->aG->Prop}{YP:bM->aG->Prop}{d:DefRec}{K:Params->aa}{CX:bM->pR}{sp:bM->Sp}{x:aL}
  (hn:l.most=some n) (qN:n<=sizeLine) (Cb:d.params.defaults=[]) (hr:dN k lG)
  (hY:∀(w:bM) (h:aG),YP w h->(K w.params).In h)
  (F:∀(w:bM) (mg:aL->Option ae) (fa:af) (h:aG),(K w.params).In h->h.Ns aw mg->mg d.name=some (.ref fa) ->
   ∃fd:aH,(∀(s:aj) (u:ae),jX s fd ⟨[u],[]⟩ [(x,u)]) /\
    ∀base:aG,(K w.params).In base->base.Ns aw mg->cn l.prog w (K w.params) mg base (CX w) k fa fd [x] (sp w))
  (uA:∀(w:bM) (H:Hp) (a:af) (ns:List Int),ns.length<=n->uW H->dC (K w.params) H a (ns.map V.int)->sp w [.ref a] H (λv _=>v=.bl true) λ_ _ _=>False)
  (Ip:∀(w:bM) (H:Hp) (s:aj) (e:ae) (s':aj),CX w [] H s (λ_ _ _=>False) e s'->False) :
  pZ q loose XP YP l.row.toRowW d [] (λf vs=>PySem.call f vs):=by
 refine Att.attach_call hn Cb λw s₀ s₁ mg mb fa o pm cd doc a vs ns G Y ho hd ie hmg xF qL eK hg=>?_
 have KX:=hY w _ Y
 obtain⟨fd,hb,hF⟩:=F w mg fa _ KX G.T.g hmg
 exact Xe KX G.T.g G.T.b G.T.builtins G.T.nolimit hg xF qL (cu eK qN) hr hF hb (λH hO hS=>uA w H a ns eK hO hS) λH e s'=>Ip w H s₁ e s'
end L2
namespace L2
open PySem PySem.Spec PyProof.Rows
def inClass (s:bP)(j:Nat):bP:=match s with
 |.ClassDef _ _ _ body _ _ _ _ _ _ _=>body.getD j (.Pass ⟨0,0,0,0⟩)
 |_=>.Pass ⟨0,0,0,0⟩
def kN (s:bP):Arguments:=match s with
  |.FunctionDef _ a _ _ _ _ _ _ _ _=>a
  |_=>{ posonlyargs:=[],args:=[],vararg:=none,kwonlyargs:=[],kw_defaults:=[],kwarg:=none,defaults:=[] }
def gq (s:bP):List bP:=match s with
 |.FunctionDef _ _ b _ _ _ _ _ _ _=>b
 |_=>[]
def aP (s:bP):eY:=match s with
  |.FunctionDef _ _ _ _ _ _ sc _ _ _=>sc
  |_=>{ kind:=.function,names:=[],isGenerator:=false,isCoroutine:=false }
abbrev eu:pR:=λ_ _ _ _ _ _=>False
abbrev E0:XK:=λ_ _ _=>False
theorem mn {X:Cx}:gx eu X E0:=λ_ _ _ _ _ _ _ h=>h.elim
section
variable {P:ba}{w:bM}{K:aa}{mg:aL->Option ae}{base:aG}
end
theorem EU {A:bD}{k:Nat}(hr:dN k A):A.units+1<iD:=pJ (Nat.add_le_add_left (by decide:1<=64) _) hr.units
theorem pE {n:Nat}(h:n<=1000):n<sizeLine:=pJ h (by decide)
section
variable {X:Cx}
end
def bG (H H':Hp):Prop:=∀b o,H b=some o->H' b=some o
theorem bG.refl (H:Hp):bG H H:=λ_ _ h=>h
theorem bG.trans {H H1 H2:Hp}(a:bG H H1)(b:bG H1 H2):bG H H2:=λc o h=>b c o (a c o h)
theorem bG.free {H H':Hp}(e:bG H H'){l:af}(h:H' l=Option.none):H l=Option.none:=by
 cases q:H l with
 |none=>rfl
 |some o=>
  rw[e l o q]at h
  cases h
theorem bG.seq {K:aa}{H H':Hp}{a:af}{xs:List V}(e:bG H H')(h:dC K H a xs):dC K H' a xs:=by
 rcases h with(h|⟨o,h⟩)|h
 ·exact .inl (.inl (e _ _ h))
 ·exact .inl (.inr ⟨o,e _ _ h⟩)
 ·exact .inr h
end L2
namespace L2
open PySem PySem.Spec PyProof.Rows
def Qg (a C:af)(dx tb:Option af)(h:aG):Prop :=
  ∃a0,h.get? a=some { cls:=.ref C,dict:=dx,data:=.fields #[a0,tb.elim ae.none .ref,.none,.none,.bool false,.none] }
abbrev MS (a C:af)(dx tb:Option af):HO:=.ext (Qg a C dx tb)
section
variable {X:Cx}{ah:List (af×dq)}{σ:St}{H:Hp}{s:aj}{a C:af}{dx tb:Option af}{M:Model}{A1 A2:bD}{E1 E2:ae->aj->Prop}
end
abbrev GK:=St->af->Hp->Prop
section
variable {X:Cx}{k:Nat}{f C:af}{fd:aH}{ps:List aL}{sp:Sp}{gR:List V}{ds:List ae}{G:GK}{x m:aL}{p pos cL:cx}{e o:Expr}{es:List Expr}{ta:TE}{t:TA}
end
end L2
namespace L2
open PySem PySem.Spec PyProof.Rows
section
variable {nm q:aL}{C N:af}{bs bm:List ae}{IA:Bool}{sn:List aL}{sub:List ae}{ab:Bool}{col:Option Bool}{dd:Option af}{k0 k1 k2 k3 k5:Option ae}
variable {prog:ba}{w:bM}{A:bD}{R:Result->aj->Prop}{h:aG}{g:Array GenState}{d:Drawn}{t:Nat}{os:OsState}
end
end L2
namespace L2
open PySem PySem.Spec PyProof.Rows
section
variable {nm q:aL}{C N:af}{bs bm:List ae}{IA:Bool}{sn:List aL}{sub:List ae}{ab:Bool}{col:Option Bool}{dd:Option af}{k0 k1 k2 k3 k5:Option ae}
variable {prog:ba}{w:bM}{A:bD}{E:ae->aj->Prop}{h:aG}{g:Array GenState}{d:Drawn}{t:Nat}{os:OsState}
end
section
variable {nm q:aL}{C N:af}{bs bm:List ae}{sn:List aL}{sub:List ae}{ab:Bool}{col:Option Bool}{dd:Option af}{k0 k1 k2 k3 k5:Option ae}
variable {prog:ba}{w:bM}{A:bD}{E:ae->aj->Prop}{s:aj}{K:aa}{x:af}{dt:oF}{sl:Array (Option ae)}{name:aL}{v:ae}
end
end L2
set_option maxHeartbeats 4000000
namespace L2
open PySem PySem.Spec PyProof.Rows
section
variable {X:Cx}{ah:List (af×dq)}{σ:St}{H:Hp}{s:aj}{C:af}
variable {k:Nat}{f:af}{fd:aH}{ps:List aL}{sp:Sp}{x:aL}{p pos:cx}{e:Expr}{es:List Expr}{t:TA}{te:TE}{G:GK}
end
end L2
set_option maxHeartbeats 4000000
namespace L2
open PySem PySem.Spec PyProof.Rows
section
variable {X:Cx}{e:Expr}{es:List Expr}{te:TE}{pos:cx}
abbrev TF:=St->Hp->(Hp->Prop)->Prop
def PF (X:Cx)(e:Expr)(n:Nat)(t:TF):Prop:=∀(ah:List (af×dq)) (s:aj) (σ:St) (H:Hp) (Q:Hp->Prop),Inv X ah σ H s->t σ H Q ->
 aQ (aU X.prog X.w) X.A (bq e X.env) (λv s1=>∃y tk H1,v=.str y tk/\y.length<=n/\Inv X ah σ H1 s1/\Q H1) X.xe s
end
structure rS (K:aa)(C:af):Prop where
 ga:ax K (.ref C) "__getattribute__"=some (some (.builtin "BaseException.__getattribute__"))
 gn:ax K (.ref C) "__getattr__"=some none
 mB:dG K C (.type "BaseException")=some true
 hd:cF K C=true
 ca:ax K (.ref C) "__class__"=some (some (.builtin "object.__class__"))
 cg:cT K (.builtin "object.__class__") "__get__"=some (some (.builtin "getset_descriptor.__get__"))
 ct:gQ K (.builtin "object.__class__")=some true
 mO:dG K C (.type "object")=some true
section
variable {prog:ba}{w:bM}{A:bD}{E:ae->aj->Prop}{s:aj}{K:aa}{x C:af}{ox:dq}{od:Option dq}
end
end L2
set_option maxHeartbeats 4000000
namespace L2
open PySem PySem.Spec PyProof.Rows
section
variable {X:Cx}{ah:List (af×dq)}{σ:St}{H:Hp}{s:aj}{E:ae->aj->Prop}{a:af}
end
end L2
namespace L2
open PySem PySem.Spec PyProof.Rows
section
variable {κ:Type}[DecidableEq κ]
def gH (ck:List (κ×V))(k:κ):Option V:=(ck.find? λkv=>decide (kv.1=k)).map (·.2)
def putK (ck:List (κ×V))(k:κ)(v:V):List (κ×V) :=
 if(ck.any λkv=>decide (kv.1=k))=true then ck.map (λkv=>if kv.1=k then(kv.1,v)else kv)else ck++[(k,v)]
theorem Ko {p:κ×V}{r:List (κ×V)}{k:κ}(e:p.1=k):gH (p::r) k=some p.2:=by simp[gH,cM,e]
theorem Kp {p:κ×V}{r:List (κ×V)}{k:κ}(e:¬p.1=k):gH (p::r) k=gH r k:=by simp[gH,cM,e]
theorem Og (k:κ):∀ck:List (κ×V),(ck.any λkv=>decide (kv.1=k))=(gH ck k).isSome
 |[]=>rfl
 |p::r=>by
  rw[fE]
  by_cases e:p.1=k
  ·simp only[Ko e,decide_eq_true e,Bool.true_or,Option.isSome_some]
  ·rw[Kp e,decide_eq_false e,Bool.false_or];exact Og k r
theorem Nm (ck:List (κ×V))(k:κ)(v:V):(putK ck k v).length<=ck.length+1:=by
 unfold putK
 split
 ·rw[bj];omega
 ·rw[bw,aM,List.length_nil];omega
theorem iM.isSome_eq {o:Option V}{u:Option ae}(r:iM o u):o.isSome=u.isSome:=by
 cases o with
 |none=>cases u with
  |none=>rfl
  |some _=>exact(show False from r).elim
 |some _=>cases u with
  |none=>exact(show False from r).elim
  |some _=>rfl
theorem iM.getD {o:Option V}{u:Option ae}{d:V}{d':ae}(r:iM o u)(rd:RelV d d'):RelV (o.getD d) (u.getD d'):=by
 cases o with
 |none=>cases u with
  |none=>exact rd
  |some _=>exact(show False from r).elim
 |some _=>cases u with
  |none=>exact(show False from r).elim
  |some _=>exact r
theorem KV.val {ck:List (κ×V)}{vs:List (κ×ae)}(r:KV ck vs)(k:κ):iM (gH ck k) (ng vs k):=by
 unfold KV at r
 induction r with
 |nil=>exact True.intro
 |@cons p q ps qs h t ih=>
  obtain⟨h1,h2⟩:=h
  by_cases e:p.1=k
  ·have e':q.1=k:=h1.symm.trans e
   have b:ng (q::qs) k=some q.2:=by simp[ng,cM,e']
   rw[Ko e,b];exact h2
  ·have e':¬q.1=k:=λz=>e (h1.trans z)
   have b:ng (q::qs) k=ng qs k:=by simp[ng,cM,e']
   rw[Kp e,b];exact ih
theorem KV.any {ck:List (κ×V)}{vs:List (κ×ae)}(r:KV ck vs)(k:κ):(ck.any λkv=>decide (kv.1=k))=vs.any λkv=>decide (kv.1=k):=by
 unfold KV at r
 induction r with
 |nil=>rfl
 |cons h t ih=>rw[fE,fE,ih,h.1]
theorem KV.repl {ck:List (κ×V)}{vs:List (κ×ae)}(r:KV ck vs)(k:κ){y:V}{u:ae}(ry:RelV y u) :
  KV (ck.map λkv=>if kv.1=k then(kv.1,y)else kv) (vs.map λkv=>if kv.1=k then(kv.1,u)else kv):=by
 unfold KV at r ⊢
 induction r with
 |nil=>exact .nil
 |@cons p q ps qs h t ih=>
  rw[bi,bi]
  refine .cons ?_ ih
  obtain⟨h1,h2⟩:=h
  by_cases e:p.1=k
  ·rw[if_pos e,if_pos (h1.symm.trans e)];exact⟨h1,ry⟩
  ·rw[if_neg e,if_neg (λz=>e (h1.trans z))];exact⟨h1,h2⟩
theorem KV.put {ck:List (κ×V)}{vs:List (κ×ae)}(r:KV ck vs)(k:κ){y:V}{u:ae}(ry:RelV y u):KV (putK ck k y) (stored vs k u):=by
 unfold putK stored
 rw[r.any k]
 by_cases e:(vs.any λkv=>decide (kv.1=k))=true
 ·rw[if_pos e,if_pos e];exact r.repl k ry
 ·rw[if_neg e,if_neg e];exact Paired.snoc r ⟨rfl,ry⟩
theorem KV.length {ck:List (κ×V)}{vs:List (κ×ae)}(r:KV ck vs):ck.length=vs.length:=Paired.length r
end
theorem GP {P:ba}{w:bM}{k:eo}{u:ae}(r:RelV (kV k) u):(dO P w).is k u=true:=by
 cases k with
 |inl i=>obtain⟨t,e⟩:=(show∃t,u=ae.int i t from r);subst e;exact VD P w i t
 |inr x=>obtain⟨t,e⟩:=(show∃t,u=ae.str x t from r);subst e;exact VE P w x t
theorem NM {P:ba}{w:bM}:∀{ks:List eo} {us:List ae},bB (ks.map kV) us->ItemsAre (dO P w) ks us
 |[],_,r=>by rw[jW]at r;cases r;exact .nil
 |k::ks,_,r=>by
  rw[bi]at r
  cases r with
  |cons h t=>exact .cons (GP h) (NM t)
abbrev KT (H:Hp):List (List eo×V)->List (List eo×af×ae)->Prop:=Paired λp q=>p.1=q.1/\H q.2.1=some (.tup (p.1.map kV))/\RelV p.2 q.2.2
theorem KT.val {H:Hp}{ck:List (List eo×V)}{xs:List (List eo×af×ae)}(r:KT H ck xs)(k:List eo):iM (gH ck k) ((o7 xs k).map (·.2)):=by
 induction r with
 |nil=>exact True.intro
 |@cons p q ps qs h t ih=>
  obtain⟨h1,_,h2⟩:=h
  by_cases e:p.1=k
  ·have e':q.1=k:=h1.symm.trans e
   have b:o7 (q::qs) k=some q.2:=by simp[o7,cM,e']
   rw[Ko e,b];exact h2
  ·have e':¬q.1=k:=λz=>e (h1.trans z)
   have b:o7 (q::qs) k=o7 qs k:=by simp[o7,cM,e']
   rw[Kp e,b];exact ih
theorem KT.repl {H:Hp}{ck:List (List eo×V)}{xs:List (List eo×af×ae)}(r:KT H ck xs)(k:List eo){y:V}{u:ae}(ry:RelV y u) :
  KT H (ck.map λkv=>if kv.1=k then(kv.1,y)else kv) (xs.map (putAt k u)):=by
 induction r with
 |nil=>exact .nil
 |@cons p q ps qs h t ih=>
  rw[bi,bi]
  refine .cons ?_ ih
  obtain⟨h1,h2,h3⟩:=h
  unfold putAt
  by_cases e:p.1=k
  ·rw[if_pos e,if_pos (h1.symm.trans e)];exact⟨h1,h2,ry⟩
  ·rw[if_neg e,if_neg (λz=>e (h1.trans z))];exact⟨h1,h2,h3⟩
theorem KT.put {H:Hp}{ck:List (List eo×V)}{xs:List (List eo×af×ae)}(r:KT H ck xs)(k:List eo){b:af}{y:V}{u:ae}(hb:H b=some (.tup (k.map kV)))(ry:RelV y u) :
  KT H (putK ck k y) (storedH xs k b u):=by
 have e:(ck.any λkv=>decide (kv.1=k))=(o7 xs k).isSome:=by
  rw[Og,(r.val k).isSome_eq,oE]
 unfold putK storedH
 rw[e]
 by_cases q:(o7 xs k).isSome=true
 ·rw[if_pos q,if_pos q];exact r.repl k ry
 ·rw[if_neg q,if_neg q];exact Paired.snoc r ⟨rfl,hb,ry⟩
theorem KT.keeps {H H':Hp}{ck:List (List eo×V)}{xs:List (List eo×af×ae)}(r:KT H ck xs)(ht:∀b ys,H b=some (.tup ys)->H' b=some (.tup ys)):KT H' ck xs :=
 Paired.mapP r λ_ _ z=>⟨z.1,ht _ _ z.2.1,z.2.2⟩
section
variable {P:ba}{w:bM}{H:Hp}{h:aG}{a:af}
theorem Pp {u:HO}(ok:jH P w H h)(e:Rd H a u):dE P w H h a u:=e.ok ok
theorem EV {ck:List (eo×V)}(ok:jH P w H h)(e:Rd H a (.dK ck)):ck.length<=sizeLine/\(a==d8)=false/\∃vs,KV ck vs/\h.DictOf (dO P w) a vs :=
 show dE P w H h a (.dK ck)from Pp ok e
theorem zs2 {ck:List (eo×V)}(ok:jH P w H h)(e:H a=some (.dK ck)):ck.length<=sizeLine/\(a==d8)=false/\∃vs,KV ck vs/\h.DictOf (dO P w) a vs:=EV ok (.inl e)
theorem GC {ks:List eo}(ok:jH P w H h)(e:H a=some (.tup (ks.map kV))):(jY (dO P w)).is h ks a:=by
 obtain⟨_,bZ,r,o,h1,h2,n,h3⟩:=(show dE P w H h a (.tup (ks.map kV))from ok a _ e)
 exact⟨o,bZ.toArray,n,h1,h2,h3,by simpa using NM r⟩
theorem GQ {ck:List (List eo×V)}(ok:jH P w H h)(e:Rd H a (.dT ck)):ck.length<=sizeLine/\(a==d8)=false /\
  ∃xs,KT H ck xs/\h.DictOfH (jY (dO P w)) a xs:=by
 obtain⟨z,y,xs,r,o,es,ep,h1,h2,h3,h4,h5⟩:=(show dE P w H h a (.dT ck)from Pp ok e)
 refine⟨z,y,xs,r,o,es,ep,h1,h2,h3,h4,λx hx=>?_,h5⟩
 have all:∀{l:List (List eo×V)} {m:List (List eo×af×ae)},KT H l m->∀x∈m,(jY (dO P w)).is h x.1 x.2.1:=by
  intro l m q
  induction q with
  |nil=>intro x hx;exact nomatch hx
  |@cons p q ps qs hq t ih=>
   intro x hx
   rcases aC.mp hx with e|hx
   ·subst e
    exact GC ok (by rw[←hq.1];exact hq.2.1)
   ·exact ih x hx
 exact all r x hx
theorem zs3 {ck:List (List eo×V)}(ok:jH P w H h)(e:H a=some (.dT ck)):ck.length<=sizeLine/\(a==d8)=false /\
  ∃xs,KT H ck xs/\h.DictOfH (jY (dO P w)) a xs:=GQ ok (.inl e)
end
def kY (H:Hp)(a:af)(y:V)(r:Option V):Prop :=
 (∃ck k,Rd H a (.dK ck)/\y=kV k/\r=gH ck k)\/∃ck k b,Rd H a (.dT ck)/\y=.ref b/\H b=some (.tup (k.map kV))/\r=gH ck k
def nh (H:Hp)(a:af)(y v:V)(H':Hp):Prop :=
 (∃ck k,H a=some (.dK ck)/\y=kV k/\ck.length<sizeLine/\H'=upd H a (.dK (putK ck k v))) \/
 ∃ck k b,H a=some (.dT ck)/\y=.ref b/\H b=some (.tup (k.map kV))/\ck.length<sizeLine/\H'=upd H a (.dT (putK ck k v))
theorem kY.k {H:Hp}{a:af}{ck:List (eo×V)}{k:eo}(e:H a=some (.dK ck)):kY H a (kV k) (gH ck k):=.inl ⟨ck,k,.inl e,rfl,rfl⟩
theorem kY.t {H:Hp}{a b:af}{ck:List (List eo×V)}{k:List eo}(e:H a=some (.dT ck))(eb:H b=some (.tup (k.map kV))):kY H a (.ref b) (gH ck k):=.inr ⟨ck,k,b,.inl e,rfl,eb,rfl⟩
theorem nh.k {H:Hp}{a:af}{ck:List (eo×V)}{k:eo}{v:V}(e:H a=some (.dK ck))(hl:ck.length<sizeLine):nh H a (kV k) v (upd H a (.dK (putK ck k v))):=.inl ⟨ck,k,e,rfl,hl,rfl⟩
theorem nh.t {H:Hp}{a b:af}{ck:List (List eo×V)}{k:List eo}{v:V}(e:H a=some (.dT ck))(eb:H b=some (.tup (k.map kV)))(hl:ck.length<sizeLine) :
  nh H a (.ref b) v (upd H a (.dT (putK ck k v))):=.inr ⟨ck,k,b,e,rfl,eb,hl,rfl⟩
section
variable {X:Cx}{ah:List (af×dq)}{σ:St}{H:Hp}{s:aj}{a:af}{y v:V}{u r:ae}{o:Option V}{A:bD}{E:ae->aj->Prop}
theorem Inv.big (I:Inv X ah σ H s):d8<s.heap.objs.size:=by
 have h:aw<s.heap.objs.size:=(I.mod.glob.keeps I.bk).lt
 exact Nat.lt_trans (by decide) h
theorem Ho {Q:ae->aj->Prop}(hu:A.units+1<iD)(I:Inv X ah σ H s)(g:kY H a y o)(ry:RelV y u)(h:∀s',Inv X ah σ H s'->Q (.bool o.isSome) s') :
  aQ (aU X.prog X.w) A (cB .In u (.ref a)) Q E s:=by
 rcases g with⟨ck,k,e,ey,l⟩|⟨ck,k,b,e,ey,eb,l⟩
 ·subst ey
  obtain⟨z,hd,vs,rel,dd⟩:=EV I.hok e
  refine wpAny_in_of (GP ry) hd dd.mapOf ?_
  rw[←(rel.val k).isSome_eq,←l]
  exact h _ (I.tok _)
 ·subst ey
  cases(show u=ae.ref b from ry)
  obtain⟨z,hd,xs,rel,dd⟩:=GQ I.hok e
  refine wpAny_in_heap (kM hu) (GC I.hok eb) hd dd ?_
  have q:=(rel.val k).isSome_eq
  rw[oE]at q
  rw[←q,←l]
  exact h _ (I.tok _)
theorem OI {h':aG}{t':Nat}{ob:HO}(I:Inv X ah σ H s)(mu:zZ (H a))(hs:ez a s.heap h')(he:∃q,h'.get? a=some q)(new:dE X.prog X.w (upd H a ob) h' a ob) :
  Inv X ah σ (upd H a ob) { s with heap:=h',toks:=t' } :=
 I.write (x:=a) (e:=a) mu (.inl rfl) (λb q hb z=>(hs.2 b hb).trans z) he new
theorem ZY {P:ba}{w:bM}{H':Hp}{h':aG}{ck:List (eo×V)}{vs:List (eo×ae)}(z:ck.length<=sizeLine)(hd:(a==d8)=false)(rel:KV ck vs)(dd:h'.DictOf (dO P w) a vs) :
  dE P w H' h' a (.dK ck):=⟨z,hd,vs,rel,dd⟩
theorem Wp {H':Hp}{Q:Unit->aj->Prop}(hu:A.units+1<iD)(I:Inv X ah σ H s)(g:nh H a y v H')(ry:RelV y u)(rv:RelV v r)(h:∀s',Inv X ah σ H' s'->Q () s') :
  aQ (aU X.prog X.w) A (nc (.ref a) u r) Q E s:=by
 rcases g with⟨ck,k,e,ey,l,eH⟩|⟨ck,k,b,e,ey,eb,l,eH⟩
 ·subst ey eH
  obtain⟨z,hd,vs,rel,dd⟩:=zs2 I.hok e
  have hz:vs.length<=sizeLine:=by rw[←rel.length];exact z
  have hl:(putK ck k v).length<=sizeLine:=by have:=Nm ck k v;omega
  refine wpAny_setItem_pairs (hsz:=hz) (GP ry) dd λh' Fe hs=>h _ ?_
  have he:∃q,h'.get? a=some q:=let⟨q,_,_,hq,_⟩:=Fe;⟨q,hq⟩
  exact OI I (by rw[e];exact True.intro) hs he (ZY hl hd (rel.put k rv) Fe)
 ·subst ey eH
  cases(show u=ae.ref b from ry)
  obtain⟨z,hd,xs,rel,dd⟩:=zs3 I.hok e
  have hz:xs.length<=sizeLine:=by rw[←Paired.length rel];exact z
  have hl:(putK ck k v).length<=sizeLine:=by have:=Nm ck k v;omega
  refine wpAny_setItem_heap (hsz:=hz) (kM hu) (GC I.hok eb) dd λh' Fe hs=>h _ ?_
  obtain⟨q,es,ep,hq,h2,h3,h4,_,h5⟩:=Fe
  refine OI I (by rw[e];exact True.intro) hs ⟨q,hq⟩ ⟨hl,hd,_,(rel.put k eb rv).keeps λc ys ec=>?_,q,es,ep,hq,h2,h3,h4,h5⟩
  rw[zx (zsu ec e (λz=>nomatch z))]
  exact ec
end
section
variable {X:Cx}{ah:List (af×dq)}{σ:St}{H:Hp}{s:aj}{a:af}{ck:List (eo×V)}{k:eo}{u:ae}{A:bD}{E:ae->aj->Prop}
theorem zs4 {Q:ae->aj->Prop}(I:Inv X ah σ H s)(e:Rd H a (.dK ck))(h:∀t s',Inv X ah σ H s'->Q (.int ck.length t) s'):aQ (aU X.prog X.w) A (call (.builtin "len") [.ref a]) Q E s:=by
 obtain⟨z,hd,vs,rel,dd⟩:=EV I.hok e
 refine call_len_dict hd dd (by rw[←rel.length];rw[cI]at z;omega) ?_
 rw[←rel.length]
 exact h _ _ (I.tok _)
end
def JL (ty td:TE):TE:=λσ H Q=>ty σ H λy H1=>td σ H1 λx H2=>∃a o,x=.ref a/\kY H2 a y o/\Q (.bl o.isSome) H2
def Em (td ty tv:TE):TS:=λD σ H=>tv σ H λv H1=>td σ H1 λx H2=>ty σ H2 λy H3=>∃a H4,x=.ref a/\nh H3 a y v H4/\D.nx σ H4
section
variable {X:Cx}{o i e value:Expr}{pos pos' iP:cx}{td ty tv:TE}
theorem ZZ (hu:X.A.units+1<iD)(hi:PE X i ty)(ho:PE X o td):PC X .In i o (JL ty td):=by
 intro ah s σ H Q I h
 refine cP (hi ah s σ H _ I h) λiv s1 ⟨y,H1,I1,ry,q1⟩=>cP (ho ah s1 σ H1 _ I1 q1) λu s2 df=>?_
 obtain⟨x,H2,I2,rx,a,ov,ex,g,q2⟩:=df
 subst ex
 obtain rfl:u=ae.ref a:=rx
 exact Ho hu I2 g ry λs3 I3=>⟨.bl ov.isSome,H2,I3,rfl,q2⟩
theorem YA (hu:X.A.units+1<iD)(ho:PE X o td)(hi:PE X i ty)(hv:PE X value tv)(hs:dn value (some (.Subscript o i pos')) pos.line X.env=pure false) :
  PS X (.Assign [.Subscript o i pos'] value pos) (Em td ty tv):=by
 intro ah s σ H D I h
 refine wpAny_Assign_Subscript (cP (hv ah s σ H _ I h) λr s1 ⟨v,H1,I1,rv,q1⟩=>cP (ho ah s1 σ H1 _ I1 q1) λu s2 ⟨x,H2,I2,rx,q2⟩=>cP (hi ah s2 σ H2 _ I2 q2) λiv s3 ⟨y,H3,I3,ry,a,H4,ex,g,q3⟩=>?_) hs
 subst ex
 obtain rfl:u=ae.ref a:=rx
 exact Wp hu I3 g ry rv λs4 I4=>⟨σ,H4,I4,q3⟩
end
theorem Xf {P:ba}{w:bM}{H:Hp}(h:aG)(hb:d8<h.objs.size):dE P w H (h.push { cls:=.type "dict",data:=.dict #[] }) h.objs.size (.dK []) :=
  ⟨dP _,beq_eq_false_iff_ne.mpr (Ne.symm (aR hb)),[],.nil,aG.DictOf.new h⟩
theorem WP {P:ba}{w:bM}{H:Hp}(h:aG)(hb:d8<h.objs.size):dE P w H (h.push { cls:=.type "dict",data:=.dict #[] }) h.objs.size (.dT []) :=
  ⟨dP _,beq_eq_false_iff_ne.mpr (Ne.symm (aR hb)),[],.nil,_,#[],0,aT _ rfl,⟨rfl,rfl,rfl⟩,rfl,rfl,bL⟩
def yG:TE:=λ_ H Q=>∀p,H p=none->Q (.ref p) (upd H p (.dK []))
def yH:TE:=λ_ H Q=>∀p,H p=none->Q (.ref p) (upd H p (.dT []))
section
variable {X:Cx}{pos:cx}
theorem WQ:PE X (.Dict [] [] pos) yG:=λah s σ H Q I h=>
 wpAny_Dict_empty ⟨.ref s.heap.objs.size,_,I.laid (a:=s.heap.objs.size) (o:=.dK []) (t':=s.toks) (λ_ _ q=>am _ q) (aE _) (Xf s.heap I.big),rfl,h _ (I.hok.fresh (aE _))⟩
theorem WR:PE X (.Dict [] [] pos) yH:=λah s σ H Q I h=>
 wpAny_Dict_empty ⟨.ref s.heap.objs.size,_,I.laid (a:=s.heap.objs.size) (o:=.dT []) (t':=s.toks) (λ_ _ q=>am _ q) (aE _) (WP s.heap I.big),rfl,h _ (I.hok.fresh (aE _))⟩
end
structure M1 (X:Cx)(o:Expr)(m:aL)(cL:cx)(e:Expr)(cU:cx):Prop where
 base:de o m X.env (bq o X.env)=bq o X.env
 few:((cj cU (aq [e] X.env)).all (λx=>!x.1)&&(cH cU (bS [] X.env)).all (λx=>x.1.isSome)
  && decide (([e]:List Expr).length+([]:List dQ).length+(if([]:List dQ).isEmpty then 0 else 1)<30))=true
 line:(cL.endLine==cU.line)=true
 trees:cj cU (aq [e] X.env)=[(false,bq e X.env)]
def EX (H:Hp)(a:af):Prop:=(∃ck,Rd H a (.dK ck))\/∃ck,Rd H a (.dT ck)
theorem Z0 {X:Cx}{ah:List (af×dq)}{σ:St}{H:Hp}{s:aj}{a:af}(I:Inv X ah σ H s)(d:EX H a) :
  s.TypeIs (.ref a) "dict"/\(∀b,ae.ref a=.ref b->∃ob,s.heap.get? b=some ob/\ob.dict=none)/\(a==d8)=false:=by
 rcases d with⟨ck,e⟩|⟨ck,e⟩
 ·obtain⟨_,hd,vs,_,dd⟩:=EV I.hok e
  refine⟨dd.typeIs,λb q=>?_,hd⟩
  cases q
  obtain⟨ob,_,_,h1,h2,_⟩:=dd
  exact⟨ob,h1,h2.2.1⟩
 ·obtain⟨_,hd,xs,_,dd⟩:=GQ I.hok e
  refine⟨dd.typeIs,λb q=>?_,hd⟩
  cases q
  obtain⟨ob,_,_,h1,h2,_⟩:=dd
  exact⟨ob,h1,h2.2.1⟩
section
variable {X:Cx}{ah:List (af×dq)}{σ:St}{H:Hp}{s:aj}{a:af}{y d:V}{u r:ae}{o:Option V}{A:bD}{E:ae->aj->Prop}
theorem Z1 {Q:ae->aj->Prop}(hu:A.units+1<iD)(I:Inv X ah σ H s)(g:kY H a y o)(ry:RelV y u)(h:∀w' s',Inv X ah σ H s'->RelV (o.getD .non) w'->Q w' s') :
  aQ (aU X.prog X.w) A (call (.builtin "dict.get") [.ref a,u]) Q E s:=by
 rcases g with⟨ck,k,e,ey,l⟩|⟨ck,k,b,e,ey,eb,l⟩
 ·subst ey
  obtain⟨z,hd,vs,rel,dd⟩:=EV I.hok e
  refine call_meetsIn PySem.F.slot_dict_get dd.typeIs PySem.F.entry_dict_get (PySem.F.args_dict_get_2 _ _) (meets_dict_get (dO X.prog X.w) a (GP ry) hd) ⟨_,dd.mapOf,h _ _ (I.tok _) ?_⟩
  rw[l]
  exact(rel.val k).getD rfl
 ·subst ey
  cases(show u=ae.ref b from ry)
  obtain⟨z,hd,xs,rel,dd⟩:=GQ I.hok e
  refine call_meetsIn PySem.F.slot_dict_get dd.typeIs PySem.F.entry_dict_get (PySem.F.args_dict_get_2 _ _) (meetsH_dict_get (jY (dO X.prog X.w)) a b hd) ⟨kM hu,k,xs,GC I.hok eb,dd,h _ _ (I.tok _) ?_⟩
  rw[l]
  exact(rel.val k).getD rfl
end
def yF (td ty:TE):TE:=λσ H Q=>td σ H λx H1=>∃a,x=.ref a/\EX H1 a/\ty σ H1 λy H2=>∃o,kY H2 a y o/\Q (o.getD .non) H2
section
variable {X:Cx}{o e f:Expr}{cL cU:cx}{td ty tx:TE}
theorem WS (hu:X.A.units+1<iD)(ho:PE X o td)(he:PE X e ty)(m:M1 X o "get" cL e cU):PE X (.Call (.Attribute o "get" cL) [e] [] cU) (yF td ty):=by
 intro ah s σ H Q I h
 refine wpAny_Call_method m.base m.few m.line PySem.F.plainAttrs_dict PySem.F.slot_dict_get PySem.F.type_dict_get (cP (ho ah s σ H _ I h) λu s1 df=>?_)
 obtain⟨x,H1,I1,rx,a,ex,d,q1⟩:=df
 subst ex
 obtain rfl:u=ae.ref a:=rx
 obtain⟨t1,t2,_⟩:=Z0 I1 d
 refine⟨t1,t2,?_⟩
 rw[m.trees]
 refine Calls.callWith_builtin rfl (Calls.evalArgs_plain (Calls.spliced_cons (cP (he ah s1 σ H1 _ I1 q1) λiv s2 ⟨y,H2,I2,ry,ov,g,q2⟩=>Calls.spliced_nil ?_)))
 exact Z1 hu I2 g ry λw' s3 I3 oo=>⟨_,H2,I3,oo,q2⟩
end
section
variable {X:Cx}{ah:List (af×dq)}{σ:St}{H:Hp}{s:aj}{a:af}{ck:List (eo×V)}{A:bD}{E:ae->aj->Prop}
end
section
variable {X:Cx}{ah:List (af×dq)}{σ:St}{H:Hp}{s:aj}{a:af}{y:V}{u:ae}{A:bD}{E:ae->aj->Prop}
end
end L2
namespace L2
open PySem PySem.Spec PyProof.Rows
section
variable {X:Cx}
theorem Wq:eE X (.builtin "len") (λxs H Q=>∃a ck,xs=[V.ref a]/\H a=some (.dK ck)/\Q (.int ck.length) H):=by
 intro ah s σ H xs us Q I r h
 obtain⟨a,ck,rfl,ha,q⟩:=h
 obtain⟨u,rfl,ru⟩:=mw r
 cases ru
 exact zs4 I (.inl ha) λt s' I'=>⟨.int ck.length,H,I',⟨t,rfl⟩,q⟩
end
end L2
namespace L2
open PySem
section
variable {κ:Type}[DecidableEq κ]
end
end L2
namespace L2
open PySem PySem.Spec PyProof.Rows
def Sz (n:Nat)(i:Int):Prop:=i.natAbs<2 ^ n
theorem Sz.bits {n:Nat}{i:Int}(h:Sz n i):dc.Int.intBits i<=n:=by
 unfold dc.Int.intBits
 by_cases h0:(i==0)=true
 ·rw[if_pos h0];exact dP _
 ·rw[if_neg h0]
  have hi:i.natAbs≠0:=by
   have:i≠0:=by simpa using h0
   omega
  exact Nat.succ_le_of_lt ((kW hi).mpr h)
theorem Sz.log {n:Nat}{i:Int}(h:Sz n i)(hn:0<n):i.natAbs.log2<n:=by
 by_cases hi:i.natAbs=0
 ·rw[hi];exact hn
 ·exact(kW hi).mpr h
theorem Sz.mono {n m:Nat}{i:Int}(h:Sz n i)(hm:n<=m):Sz m i:=aV h (et (by decide) hm)
def lW (i j:Int):Prop:=uU i j\/(Sz 100000 i/\Sz 100000 j)
theorem lW.ok {i j:Int}(h:lW i j):IntMulOk i j:=by
 rcases h with h|h
 ·exact h.ok
 ·exact IntMulOk.of_bits (cu h.1.bits (by decide)) (cu h.2.bits (by decide))
section
variable {X:Cx}
theorem qz:fL X (dF .Mult) (rI lW λi j=>.int (i*j)):=zG λ_ _ _ _ _ _ _ hc q=>mul_int q hc.ok
theorem ue:fL X (dF .FloorDiv) (rI (λ_ j=>j≠0/\Sz 9000 j) λi j=>.int (i.fdiv j)) :=
 zG λ_ _ _ _ _ _ _ hc q=>floordiv_int hc.1 q (.inl (PyProof.noPylong_of_log2 (hc.2.log (by decide))))
theorem RelV.bool_iff {x:V}{v:ae}{b:Bool}(r:RelV x v):(v==ae.bool b)=decide (x=.bl b):=by
 cases x with
 |bl c=>
  cases(show v=ae.bool c from r)
  by_cases h:c=b
  ·subst h;simp
  ·have h1:¬V.bl c=V.bl b:=λz=>h (V.bl.inj z)
   rw[decide_eq_false h1]
   exact beq_eq_false_iff_ne.mpr λz=>h (by injection z)
 |non=>cases(show v=ae.none from r);rw[decide_eq_false (λz=>nomatch z)];exact beq_eq_false_iff_ne.mpr λz=>nomatch z
 |int i=>obtain⟨t,rfl⟩:=(show∃t,v=ae.int i t from r);rw[decide_eq_false (λz=>nomatch z)];exact beq_eq_false_iff_ne.mpr λz=>nomatch z
 |str i=>obtain⟨t,rfl⟩:=(show∃t,v=ae.str i t from r);rw[decide_eq_false (λz=>nomatch z)];exact beq_eq_false_iff_ne.mpr λz=>nomatch z
 |byt i=>obtain⟨t,rfl⟩:=(show∃t,v=ae.bytes i t from r);rw[decide_eq_false (λz=>nomatch z)];exact beq_eq_false_iff_ne.mpr λz=>nomatch z
 |flt i=>obtain⟨t,rfl⟩:=(show∃t,v=ae.float i t from r);rw[decide_eq_false (λz=>nomatch z)];exact beq_eq_false_iff_ne.mpr λz=>nomatch z
 |ref i=>cases(show v=ae.ref i from r);rw[decide_eq_false (λz=>nomatch z)];exact beq_eq_false_iff_ne.mpr λz=>nomatch z
 |ty i=>cases(show v=ae.type i from r);rw[decide_eq_false (λz=>nomatch z)];exact beq_eq_false_iff_ne.mpr λz=>nomatch z
theorem M2 {x:V}{v:ae}{b:Bool}(r:RelV x v):plainIs v (.bool b)=true:=by
 cases x with
 |bl c=>cases(show v=ae.bool c from r);rfl
 |non=>cases(show v=ae.none from r);rfl
 |int i=>obtain⟨t,rfl⟩:=(show∃t,v=ae.int i t from r);rfl
 |str i=>obtain⟨t,rfl⟩:=(show∃t,v=ae.str i t from r);rfl
 |byt i=>obtain⟨t,rfl⟩:=(show∃t,v=ae.bytes i t from r);rfl
 |flt i=>obtain⟨t,rfl⟩:=(show∃t,v=ae.float i t from r);rfl
 |ref i=>cases(show v=ae.ref i from r);rfl
 |ty i=>cases(show v=ae.type i from r);rfl
theorem Z2:fL X (cB .Is) (λx y H Q=>∃b,y=.bl b/\Q (.bl (decide (x=.bl b))) H):=by
 intro ah s σ H x y v u Q I rx ry h
 obtain⟨b,rfl,q⟩:=h
 cases ry
 exact wpAny_is_plain (M2 rx) (GA I q (RelV.bool_iff rx).symm)
theorem Wr:fL X (cB .IsNot) (λx y H Q=>∃b,y=.bl b/\Q (.bl (!decide (x=.bl b))) H):=by
 intro ah s σ H x y v u Q I rx ry h
 obtain⟨b,rfl,q⟩:=h
 cases ry
 exact wpAny_isNot_plain (M2 rx) (GA I q (by rw[RelV.bool_iff rx]))
theorem WT:eE X (.builtin "isinstance") (λxs H Q=>∃x c t b,xs=[x,.ty c]/\jB X.K H x t/\bK X.K t (.type c)=some b/\Q (.bl b) H):=by
 intro ah s σ H xs us Q I r h
 obtain⟨x,c,t,b,rfl,ty,e,q⟩:=h
 obtain⟨u,w',rfl,ru,oo⟩:=vals2 r
 cases(show w'=ae.type c from oo)
 exact NC I ru ty e λtk=>⟨.bl b,H,I.tok tk,rfl,q⟩
theorem Ws:eE X (.builtin "isinstance") (λxs H Q=>∃x C t b,xs=[x,.ref C]/\jB X.K H x t/\bK X.K t (.ref C)=some b/\Q (.bl b) H):=by
 intro ah s σ H xs us Q I r h
 obtain⟨x,c,t,b,rfl,ty,e,q⟩:=h
 obtain⟨u,w',rfl,ru,oo⟩:=vals2 r
 cases(show w'=ae.ref c from oo)
 exact NC I ru ty e λtk=>⟨.bl b,H,I.tok tk,rfl,q⟩
end
mutual
inductive Dt (K:aa)(H:Hp):V->bH->Prop
 |non:Dt K H .non .none
 |bl (b:Bool):Dt K H (.bl b) (.bool b)
 |int (i:Int):Dt K H (.int i) (.int i)
 |str (x:aL):Dt K H (.str x) (.str x)
 |lst {a:af} {xs:List V} {ds:List bH}:dC K H a xs->Dts K H xs ds->Dt K H (.ref a) (.list ds)
 |tup {a:af} {xs:List V} {ds:List bH}:jP K H a xs->Dts K H xs ds->Dt K H (.ref a) (.tuple ds)
inductive Dts (K:aa)(H:Hp):List V->List bH->Prop
 |nil:Dts K H [] []
 |cons {v:V} {d:bH} {vs:List V} {ds:List bH}:Dt K H v d->Dts K H vs ds->Dts K H (v::vs) (d::ds)
end
section
variable {X:Cx}{ah:List (af×dq)}{σ:St}{H:Hp}{s:aj}
mutual
theorem Dt.reads (I:Inv X ah σ H s):∀{v:V} {d:bH} {u:ae},Dt X.K H v d->RelV v u->∃as,Reads s.heap u d as
 |_,_,_,.non,r=>by cases r;exact⟨_,.none⟩
 |_,_,_,.bl b,r=>by cases r;exact⟨_,.bool b⟩
 |_,_,_,.int i,r=>by obtain⟨t,rfl⟩:=r;exact⟨_,.int i t⟩
 |_,_,_,.str x,r=>by obtain⟨t,rfl⟩:=r;exact⟨_,.str x t⟩
 |_,_,_,.lst hq ds,r=>by
  obtain⟨bZ,rv,⟨o,n,e,c,_,dd⟩,_⟩:=I.list hq
  obtain⟨as,ra⟩:=Dts.reads I ds rv
  cases r
  exact⟨_,.list e c dd (by simpa using ra)⟩
 |_,_,_,.tup hq ds,r=>by
  obtain⟨bZ,rv,⟨o,e,c,n,dd⟩,_⟩:=I.tuple hq
  obtain⟨as,ra⟩:=Dts.reads I ds rv
  cases r
  exact⟨_,.tuple e c dd (by simpa using ra)⟩
theorem Dts.reads (I:Inv X ah σ H s):∀{vs:List V} {ds:List bH} {us:List ae},Dts X.K H vs ds->bB vs us->∃as,ReadsAll s.heap us ds as
 |_,_,_,.nil,r=>by cases r;exact⟨_,.nil⟩
 |_,_,_,.cons h t,r=>by
  cases r with
  |cons p q=>
   obtain⟨as,ra⟩:=Dt.reads I h p
   obtain⟨bs,rb⟩:=Dts.reads I t q
   exact⟨_,.cons ra rb⟩
end
end
section
variable {X:Cx}
def xW (K:aa)(neg:Bool):R2:=λx y H Q=>∃d e,Dt K H x d/\Dt K H y e/\d.canLay0=true/\e.canLay0=true/\min d.depth e.depth<=60/\Q (.bl (if neg then !bH.eqv d e else bH.eqv d e)) H
theorem vp (hu:X.A.units+64<iD):fL X (cB .Eq) (xW X.K false):=by
 intro ah s σ H x y v u Q I rx ry h
 obtain⟨d,e,hd,he,c1,c2,dp,q⟩:=h
 obtain⟨as,ra⟩:=hd.reads I rx
 obtain⟨bs,rb⟩:=he.reads I ry
 exact SeqAt.compareEq_reads ra rb c1 c2 (by omega) ⟨.bl _,H,I,rfl,q⟩
theorem yP (hu:X.A.units+64<iD):fL X (cB .NotEq) (xW X.K true):=by
 intro ah s σ H x y v u Q I rx ry h
 obtain⟨d,e,hd,he,c1,c2,dp,q⟩:=h
 obtain⟨as,ra⟩:=hd.reads I rx
 obtain⟨bs,rb⟩:=he.reads I ry
 exact SeqAt.compareNe_reads ra rb c1 c2 (by omega) ⟨.bl _,H,I,rfl,q⟩
theorem Dts.ints (K:aa)(H:Hp):∀ns:List Int,Dts K H (ns.map V.int) (ns.map bH.int)
 |[]=>.nil
 |n::r=>.cons (.int n) (Dts.ints K H r)
end
theorem uz {H:Hp}{p:af}(h:H p=none)(o:HO):bG H (upd H p o):=λb u q=>by rw[zx (xb q h)];exact q
theorem dN.u64 {k:Nat}{A:bD}(r:dN k A):A.units+64<iD:=r.units
theorem small {n:Nat}(h:n<=1000):n<=sizeLine:=ko (pE h)
end L2
namespace L2
open PySem PySem.Spec PyProof.Rows
end L2
namespace L2
open PySem PySem.Spec PyProof.Rows
end L2
namespace L2
open PySem
theorem Ph:bX "int"=some (.type "int"):=by decide +kernel
theorem Pj:bX "str"=some (.type "str"):=by decide +kernel
theorem OJ:bX "bool"=some (.type "bool"):=by decide +kernel
theorem q0:bX "list"=some (.type "list"):=by decide +kernel
theorem WU:bX "tuple"=some (.type "tuple"):=by decide +kernel
theorem Z4:bX "len"=some (.builtin "len"):=by decide +kernel
theorem EQ:bX "max"=some (.builtin "max"):=by decide +kernel
theorem MT:bX "isinstance"=some (.builtin "isinstance"):=by decide +kernel
theorem GD:bX "all"=some (.builtin "all"):=by decide +kernel
end L2
namespace L2
open PySem PySem.Spec PyProof.Rows
section
variable {prog:ba}{w:bM}{A:bD}{R:Result->aj->Prop}{s:aj}
theorem Nf {iI target iter:Expr}{ifs:List Expr}{scope:eY}{pos:cx}{it fN:ae}{env:Env}(I:Nat->aj->Prop)
  (bY:∀n s,I n s->aQ (aU prog w) A (pyNext it) (λr s₁=>match r with
   |none=>R (.ok .next) s₁
   |some v=>aQ (aU prog w) A (gp target it v) (λ_ MG=>aQ (aU prog w) A (gm target env v) (λ_ s₂=>
     aQ (aU prog w) A (forIn ifs true λc r=>if r=true then do let ok ← pN c env (bq c env);pure (ForInStep.yield ok)else pure (ForInStep.yield r)) (λok s₃=>
      if ok=true then aQ (aU prog w) A (bq iI env) (λx s₄=>
       aQ (aU prog w) A (call (.builtin "list.append") [fN,x]) (λ_ s₅=>∃m,m<n/\I m s₅) (λ_ _=>False) s₄) (λ_ _=>False) s₃
      else∃m,m<n/\I m s₃) (λ_ _=>False) s₂) (λ_ _=>False) MG) (λ_ _=>False) s₁) (λ_ _=>False) s)
  (n:Nat) (h:I n s) :
  gC (aU prog w) A (.compLoop (.ListComp iI [⟨target,iter,ifs,0⟩] scope pos) 0 it fN env) R s:=by
 have up:∀{α:Type} {m:m9 α} {Q:α->aj->Prop} {E:ae->aj->Prop} {s:aj},aQ (aU prog w) A m Q (λ_ _=>False) s->aQ (aU prog w) A m Q E s:=λh=>d9 h (λ_ _ q=>q) λ_ _ f=>f.elim
 refine codeAny_loop rfl I (λn s hI=>?_) n h
 show aQ _ A ((compTurn (.ListComp iI [⟨target,iter,ifs,0⟩] scope pos) 0 it fN env).onRaise (λx=>do noteFrame x env;theTreesLotGoes x)) _ _ s
 refine wpAny_noted ?_
 rw[compTurn_list]
 refine av (kJ (av (d9 (up (bY n s hI)) (λr s₁ h₁=>?_) λ_ _ h'=>h')))
 cases r with
 |none=>exact bc h₁
 |some v=>
  refine av (d9 (up h₁) (λ_ MG RY=>?_) λ_ _ h'=>h')
  refine av (d9 (up RY) (λ_ s₂ h₂=>av (d9 (up h₂) (λok s₃ h₃=>?_) λ_ _ h'=>h')) λ_ _ h'=>h')
  cases ok with
  |false=>exact bc ⟨rfl,h₃⟩
  |true=>
   exact av (av (d9 (up h₃) (λx s₄ h₄=>av (d9 (up h₄) (λ_ s₅ h₅=>bc (bc ⟨rfl,h₅⟩)) λ_ _ h'=>h')) λ_ _ h'=>h'))
end
theorem FV {env:Env}:∀(names:List (aL×aZ)) (fN:List (aL×af)),(∀x∈names,x.2=.free->∃c,env.cells.lookup x.1=some c)->(∀y c,fN.lookup y=some c->env.cells.lookup y=some c) ->
  ∃cl,(forIn names fN λ(x:aL×aZ) (cs:List (aL×af))=>if(x.2==aZ.free)=true then do let a ← cellOf env x.1;pure (ForInStep.yield ((x.1,a)::cs))else pure (ForInStep.yield cs):m9 (List (aL×af)))=pure cl /\
   (∀y c,cl.lookup y=some c->env.cells.lookup y=some c)/\(∀x∈names,x.2=.free->∃c,cl.lookup x.1=some c)/\∀y c,fN.lookup y=some c->∃c',cl.lookup y=some c'
 |[],fN,_,ha=>⟨fN,rfl,ha,λ_ h=>(nomatch h),λy c h=>⟨c,h⟩⟩
 |(n,k)::r,fN,hn,ha=>by
  by_cases hk:k=.free
  ·subst hk
   obtain⟨c,hc⟩:=hn (n,.free) ai rfl
   have e1:cellOf env n=pure c:=by unfold cellOf;rw[hc]
   have rW:∀y d,((n,c)::fN).lookup y=some d->env.cells.lookup y=some d:=λy d h=>by
    rw[aY]at h
    cases hy:y==n with
    |true=>
     rw[hy]at h
     have:y=n:=eq_of_beq hy
     subst this
     cases h
     exact hc
    |false=>rw[hy]at h;exact ha y d h
   obtain⟨cl,h1,h2,h3,h4⟩:=FV r ((n,c)::fN) (λx hx=>hn x (ao _ hx)) rW
   refine⟨cl,?_,h2,?_,?_⟩
   ·rw[fO]
    simp only[beq_self_eq_true,if_true,e1,pure_bind]
    exact h1
   ·intro x hx hf
    rcases aC.mp hx with rfl|hx
    ·exact h4 n c (by rw[aY,beq_self_eq_true])
    ·exact h3 x hx hf
   ·intro y d hy
    cases hb:y==n with
    |true=>exact h4 y c (by rw[aY,hb])
    |false=>exact h4 y d (by rw[aY,hb];exact hy)
  ·have hb:(k==aZ.free)=false:=by simpa using hk
   obtain⟨cl,h1,h2,h3,h4⟩:=FV r fN (λx hx=>hn x (ao _ hx)) ha
   refine⟨cl,?_,h2,?_,h4⟩
   ·rw[fO]
    simp only[hb,dr,if_false,pure_bind]
    exact h1
   ·intro x hx hf
    rcases aC.mp hx with rfl|hx
    ·exact absurd hf hk
    ·exact h3 x hx hf
theorem Gn (n:Nat)(a:aL)(r:List (aL×aZ))(fN:List (aL×af)):cellsFrom n ((a,.cell)::r) fN=cellsFrom (n+1) r ((a,n)::fN):=rfl
theorem GF {k:aZ}(hk:k≠.cell)(n:Nat)(a:aL)(r:List (aL×aZ))(fN:List (aL×af)):cellsFrom n ((a,k)::r) fN=cellsFrom n r fN:=by
 cases k<;>first|rfl|exact absurd rfl hk
def iA (names:List (aL×aZ)):Nat:=(names.filter λy=>y.2==aZ.cell).length
theorem Kz (a:aL)(r:List (aL×aZ)):iA ((a,.cell)::r)=iA r+1:=by unfold iA;rw[mV (by rfl),aM]
theorem Pk {k:aZ}(hk:k≠.cell)(a:aL)(r:List (aL×aZ)):iA ((a,k)::r)=iA r:=by unfold iA;rw[mU (by simpa using hk)]
theorem zT:∀(names:List (aL×aZ)) (n:Nat) (fN:List (aL×af)) {x:aL} {c:Nat},(cellsFrom n names fN).lookup x=some c->(n<=c/\c<n+iA names/\(x,aZ.cell)∈names)\/(fN.lookup x=some c/\(x,aZ.cell)∉names)
 |[],_,_,_,_,h=>.inr ⟨h,by simp⟩
 |(a,k)::r,n,fN,x,c,h=>by
  by_cases hk:k=.cell
  ·subst hk
   rw[Gn]at h
   rcases zT r (n+1) _ h with⟨h1,h2,h3⟩|⟨h1,h2⟩
   ·refine .inl ⟨by omega,?_,ao _ h3⟩
    rw[Kz];omega
   ·rw[aY]at h1
    cases hx:x==a with
    |true=>
     rw[hx]at h1
     cases h1
     refine .inl ⟨aE _,?_,by rw[eq_of_beq hx];exact ai⟩
     rw[Kz];omega
    |false=>
     rw[hx]at h1
     refine .inr ⟨h1,λz=>?_⟩
     rcases aC.mp z with z|z
     ·cases z;simp at hx
     ·exact h2 z
  ·rw[GF hk]at h
   have hf:=Pk hk a r
   rw[hf]
   rcases zT r n _ h with⟨h1,h2,h3⟩|⟨h1,h2⟩
   ·exact .inl ⟨h1,h2,ao _ h3⟩
   ·refine .inr ⟨h1,λz=>?_⟩
    rcases aC.mp z with z|z
    ·cases z;exact hk rfl
    ·exact h2 z
theorem KO:∀(names:List (aL×aZ)) (n:Nat) (fN:List (aL×af)) {x:aL},(x,aZ.cell)∉names->(cellsFrom n names fN).lookup x=fN.lookup x
 |[],_,_,_,_=>rfl
 |(a,k)::r,n,fN,x,h=>by
  have hr:(x,aZ.cell)∉r:=λz=>h (ao _ z)
  by_cases hk:k=.cell
  ·subst hk
   rw[Gn,KO r _ _ hr,aY]
   cases hx:x==a with
   |true=>exact absurd (by rw[eq_of_beq hx];exact ai) h
   |false=>rfl
  ·rw[GF hk,KO r _ _ hr]
theorem KP:∀(names:List (aL×aZ)) (n:Nat) (fN:List (aL×af)),(∀x y c,fN.lookup x=some c->fN.lookup y=some c->x=y)->(∀x c,fN.lookup x=some c->c<n)->∀x y c,(cellsFrom n names fN).lookup x=some c->(cellsFrom n names fN).lookup y=some c->x=y
 |[],_,_,h,_=>h
 |(a,k)::r,n,fN,h,hb=>by
  by_cases hk:k=.cell
  ·subst hk
   rw[Gn]
   refine KP r (n+1) _ (λx y c e e'=>?_) λx c e=>?_
   ·rw[aY]at e e'
    cases hx:x==a with
    |true=>
     rw[hx]at e
     cases e
     cases hy:y==a with
     |true=>rw[eq_of_beq hx,eq_of_beq hy]
     |false=>rw[hy]at e';exact absurd (hb _ _ e') (dY _)
    |false=>
     rw[hx]at e
     cases hy:y==a with
     |true=>rw[hy]at e';cases e';exact absurd (hb _ _ e) (dY _)
     |false=>rw[hy]at e';exact h x y c e e'
   ·rw[aY]at e
    cases hx:x==a with
    |true=>rw[hx]at e;cases e;exact gX _
    |false=>rw[hx]at e;exact ed (hb _ _ e)
  ·rw[GF hk]
   exact KP r n fN h hb
theorem Kb {M:Model}{A:bD}{E:ae->aj->Prop}:∀(names:List (aL×aZ)) (cells:List (aL×af)) (s:aj) (Q:List (aL×af)->aj->Prop),
    (∀h':aG,(∀b o,s.heap.get? b=some o->h'.get? b=some o)->(∀c,s.heap.objs.size<=c->c<s.heap.objs.size+iA names->h'.IsCell c none)->Q (cellsFrom s.heap.objs.size names cells) { s with heap:=h' }) ->
    aQ M A (forIn names cells λ(x:aL×aZ) (cells:List (aL×af))=>if(x.2==aZ.cell)=true then do let a ← alloc { cls:=ae.type "cell",data:=oF.cell none };pure (ForInStep.yield ((x.1,a)::cells))else pure (ForInStep.yield cells)) Q E s
  |[],cells,s,Q,h=>by
    have:=h s.heap (λ_ _ e=>e) (λc h1 h2=>by rw[show iA []=0 from rfl]at h2;omega)
    rw[iJ]
    exact bc this
  |(a,k)::r,cells,s,Q,h=>by
    rw[fO]
    by_cases hk:k=.cell
    · subst hk
      simp only[beq_self_eq_true,if_true,bind_assoc,pure_bind]
      refine av (wpAny_alloc ?_)
      have ih:=Kb (M:=M) (A:=A) (E:=E) r ((a,s.heap.objs.size)::cells) { s with heap:=s.heap.push { cls:=ae.type "cell",data:=oF.cell none } } Q (λh' k1 k2=>by
        have hz:(s.heap.push { cls:=ae.type "cell",data:=oF.cell none }).objs.size=s.heap.objs.size+1:=cJ _ _
        have:=h h' (λb o e=>k1 b o (am _ e)) (λc h1 h2=>by
          rw[Kz]at h2
          by_cases hc:c=s.heap.objs.size
          · subst hc
            exact⟨_,k1 _ _ (aT _ rfl),rfl⟩
          · exact k2 c (by show(s.heap.push _).objs.size<=c;rw[hz];omega) (by show c<(s.heap.push _).objs.size+_;rw[hz];omega))
        rw[Gn]at this
        have e:(({ s with heap:=s.heap.push { cls:=ae.type "cell",data:=oF.cell none } }:aj)).heap.objs.size=s.heap.objs.size+1:=hz
        rw[e]
        exact this)
      exact ih
    · have hb:(k==aZ.cell)=false:=by simpa using hk
      simp only[hb,dr,if_false,pure_bind]
      refine Kb r cells s Q λh' k1 k2=>?_
      have hf:=Pk hk a r
      have:=h h' k1 (by rw[hf];exact k2)
      rw[GF hk]at this
      exact this
theorem Ng {M:Model}{A:bD}{E:ae->aj->Prop}{s:aj}{scope:eY}{globals:af}{closure:List (aL×af)}{qual:aL}{code:ae}{out:Env}{builtins:af}{Q:Env->aj->Prop}
    (h:∀h':aG,(∀b o,s.heap.get? b=some o->h'.get? b=some o)->h'.Ns s.heap.objs.size (λ_=>none)->(∀c,s.heap.objs.size+1<=c->c<s.heap.objs.size+1+iA scope.names->h'.IsCell c none) ->
      Q (newEnv scope s.heap.objs.size globals (cellsFrom (s.heap.objs.size+1) scope.names closure) qual none code (some out) builtins) { s with heap:=h' }) :
    aQ M A (jT scope globals closure [] qual none code (some out) builtins) Q E s:=by
  unfold jT
  refine av (wpAny_alloc ?_)
  have hz:(s.heap.push { cls:=ae.type "dict",data:=oF.dict #[] }).objs.size=s.heap.objs.size+1:=cJ _ _
  refine av (Kb scope.names closure { s with heap:=s.heap.push { cls:=ae.type "dict",data:=oF.dict #[] } } _ λh' k1 k2=>?_)
  have xI:(({ s with heap:=s.heap.push { cls:=ae.type "dict",data:=oF.dict #[] } }:aj)).heap.objs.size=s.heap.objs.size+1:=hz
  rw[xI]at k2 ⊢
  dsimp only
  rw[iJ]
  refine av (bc (bc ?_))
  exact h h' (λb o e=>k1 b o (am _ e)) ((aG.Ns.new s.heap _).keeps k1) k2
def gK (X:Cx)(scope:eY)(cl:List (aL×af))(N:List aL)(C:af)(fp:List af)(s₀:aj)(H₀:Hp):Cx :=
 { X with N:=N,s₀:=s₀,H₀:=H₀,env:=nI scope cl C X.env,outer:=X.stack,stack:=X.stack,ex:=fp,fn:=λx=>scope.names.lookup x==some .cell,pn:=[],xe:=λ_ _=>False }
structure jN (X:Cx)(scope:eY)(N:List aL)(own:Nat)(cap:List Nat):Prop where
 kind:scope.kind=.function
 cells:∀x∈scope.names,x.2=.cell->scope.names.lookup x.1=some .cell
 locs:∀x∈scope.names,x.2=.local->scope.names.lookup x.1=some .local
 free:∀x∈scope.names,x.2=.free->X.env.kindOf x.1=some .cell\/X.env.kindOf x.1=some .free
 len:N.length=own+cap.length
 caps:∀(j:Nat) (x:aL),N[own+j]?=some x->∃i,cap[j]?=some i/\X.N[i]?=some x/\(scope.names.lookup x=some .free)
theorem FW {α β:Type}[BEq α][LawfulBEq α]{x:α}{y:β}:∀{l:List (α×β)},l.lookup x=some y->(x,y)∈l
 |[],h=>by simp at h
 |(a,b)::r,h=>by
  rw[aY]at h
  cases hb:x==a with
  |true=>rw[hb]at h;cases h;rw[eq_of_beq hb];exact ai
  |false=>rw[hb]at h;exact ao _ (FW h)
theorem Nh {env:Env}{x:aL}:∀{names:List (aL×aZ)},names.lookup x=some .free ->
  (names.map λ(n,k)=>if(k==aZ.free&&env.scope.kind==.function&&env.kindOf n==some .cell)then(n,aZ.cell)else(n,k)).lookup x=some .cell \/
  (names.map λ(n,k)=>if(k==aZ.free&&env.scope.kind==.function&&env.kindOf n==some .cell)then(n,aZ.cell)else(n,k)).lookup x=some .free
 |[],h=>by simp at h
 |(n,k)::r,h=>by
  rw[aY]at h
  rw[bi]
  cases hx:x==n with
  |true=>
   rw[hx]at h
   cases h
   by_cases hc:(aZ.free==aZ.free&&env.scope.kind==.function&&env.kindOf n==some .cell)=true
   ·left
    simp only[hc,if_true,aY,hx]
   ·right
    simp only[hc,if_false,aY,hx,dr]
  |false=>
   rw[hx]at h
   rcases Nh (env:=env) h with q|q
   ·left
    by_cases hc:(k==aZ.free&&env.scope.kind==.function&&env.kindOf n==some .cell)=true
    ·simp only[hc,if_true,aY,hx];exact q
    ·simp only[hc,if_false,aY,hx,dr];exact q
   ·right
    by_cases hc:(k==aZ.free&&env.scope.kind==.function&&env.kindOf n==some .cell)=true
    ·simp only[hc,if_true,aY,hx];exact q
    ·simp only[hc,if_false,aY,hx,dr];exact q
theorem M3 {env:Env}{x:aL}:∀{names:List (aL×aZ)},((names.map λ(n,k)=>if(k==aZ.free&&env.scope.kind==.function&&env.kindOf n==some .cell)then(n,aZ.cell)else(n,k)).lookup x=some .cell \/
  (names.map λ(n,k)=>if(k==aZ.free&&env.scope.kind==.function&&env.kindOf n==some .cell)then(n,aZ.cell)else(n,k)).lookup x=some .free)->(x,aZ.free)∈names\/(x,aZ.cell)∈names
 |[],h=>by simp at h
 |(n,k)::r,h=>by
  rw[bi]at h
  cases hx:x==n with
  |true=>
   have e:x=n:=eq_of_beq hx
   by_cases hc:(k==aZ.free&&env.scope.kind==.function&&env.kindOf n==some .cell)=true
   ·have:k=.free:=by
     rw[bt,bt]at hc
     exact eq_of_beq hc.1.1
    left
    rw[e,this];exact ai
   ·simp only[hc,if_false,aY,hx,dr]at h
    rcases h with h|h
    ·cases h;right;rw[e];exact ai
    ·cases h;left;rw[e];exact ai
  |false=>
   refine(M3 (env:=env) (names:=r) ?_).imp (ao _) (ao _)
   by_cases hc:(k==aZ.free&&env.scope.kind==.function&&env.kindOf n==some .cell)=true
   ·simpa only[hc,if_true,aY,hx]using h
   ·simpa only[hc,if_false,aY,hx,dr]using h
def e7 (σ:St)(cap:List Nat):St:=cap.map λi=>(σ[i]?).join
theorem V2 {σ:St}{cap:List Nat}{j i:Nat}{v:V}(hj:cap[j]?=some i)(h:(e7 σ cap)[j]?=some (some v)):σ[i]?=some (some v):=by
 unfold e7 at h
 rw[bI,hj]at h
 cases e:σ[i]? with
 |none=>rw[pK,e]at h;cases h
 |some o=>
  rw[pK,e]at h
  cases o with
  |none=>cases h
  |some u=>exact h
section
variable {X:Cx}{ah:List (af×dq)}{σ:St}{H:Hp}{s:aj}
theorem NN {scope:eY}{cl:List (aL×af)}{N:List aL}{own:Nat}{cap:List Nat}{fp:List af}{h₁:aG}{t':Nat}{m₀:aL->Option ae}(B:jN X scope N own cap)(I:Inv X ah σ H s)
    (c1:∀y c,cl.lookup y=some c->X.env.cells.lookup y=some c) (c2:∀x∈scope.names,x.2=.free->∃c,cl.lookup x.1=some c)
    (hf:∀b∈fp,jO X ah H b) (LN:∀b∈fp,b<s.heap.objs.size) (oQ:h₁.Ns s.heap.objs.size m₀) (k:∀b o,s.heap.get? b=some o->h₁.get? b=some o)
    (wY:∀c,s.heap.objs.size+1<=c->c<s.heap.objs.size+1+iA scope.names->h₁.IsCell c none) :
    Inv (gK X scope (cellsFrom (s.heap.objs.size+1) scope.names cl) N s.heap.objs.size fp s H) [] (aI own none++e7 σ cap) H { s with heap:=h₁,toks:=t' } :=
  have low:∀x c,cl.lookup x=some c->c<s.heap.objs.size:=λx c e=>by
    obtain⟨v,o,q,_⟩:=I.cell x c (c1 x c e)
    exact aB q
  { ok:={
      mod:=I.mod
      kind:=B.kind
      glob:=I.ok.glob
      blt:=I.ok.blt
      above:=aE _
      inj:=KP _ _ _ (λx y c e e'=>I.ok.inj x y c (c1 x c e) (c1 y c e')) λx c e=>ed (low x c e)
      has:=λx hx=>by
        refine lM.mp (gJ scope.names _ _ ?_)
        rcases M3 hx with q|q
        · right
          obtain⟨c,e⟩:=c2 _ q rfl
          rw[e];rfl
        · exact .inl (B.cells _ q rfl)
      cab:=λx c e e'=>by
        have hx:scope.names.lookup x=some .cell:=eq_of_beq e
        rcases zT _ _ _ e' with⟨h1,_⟩|⟨_,h2⟩
        · exact kr h1
        · exact absurd (FW hx) h2
      hd:=I.ok.hd
      frames:=I.ok.frames
      stk:=.inl rfl
      exf:=λb hb=>⟨aR (LN b hb),λx c e=>by
        rcases zT _ _ _ e with⟨h1,_⟩|⟨h1,_⟩
        · exactλz=>absurd (LN b hb) (by rw[←z];exact Nat.not_lt.mpr (kr h1))
        · exact(hf b hb).2.2.2.2.1 x c (c1 x c h1)⟩
      bs:=I.bs
      bsz:=cu I.ok.bsz I.sz
      noex:=λb o e hb=>by
        rcases(hf b hb).2.2.2.1 with q|q
        · exact I.ok.noex b o e q
        · exact absurd (aV (aB e) I.ok.bsz) (Nat.not_lt.mpr q)
      exfs:=λb hb hz=>by
        rcases aC.mp (I.stkSub b hz)with q|q
        · exact(hf b hb).2.1 q
        · exact(hf b hb).2.2.1 q
      funs:=I.stack
      frf:=I.stkFree }
    os:=rfl
    bare:=I.bare
    base:=Un.kept k
    loc:=by
      refine⟨m₀,oQ,λi x v hN hσ hv=>?_⟩
      by_cases hi:i<own
      · rw[cv (by rw[cO];exact hi),eM,if_pos hi]at hσ
        cases hσ
      · obtain⟨j,rfl⟩:∃j,i=own+j:=⟨i-own,by omega⟩
        obtain⟨i',e1,e2,e3⟩:=B.caps j x hN
        rw[ek (by rw[cO];omega),cO,Nat.add_sub_cancel_left]at hσ
        have Fz:=V2 e1 hσ
        have hk:=B.free (x,.free) (FW e3) rfl
        obtain⟨m,hm,hl⟩:=I.loc
        obtain⟨u,ru,hu⟩:=hl i' x v e2 Fz (.inr hk)
        refine⟨u,ru,?_⟩
        rcases hu with⟨q,_⟩|⟨_,c,hc,ic⟩
        · rcases hk with hk|hk
          · rw[hk]at q;cases q
          · rw[hk]at q;cases q
        · obtain⟨c',t5⟩:=c2 (x,.free) (FW e3) rfl
          have ec:=c1 x c' t5
          rw[hc]at ec
          cases ec
          have hn:(x,aZ.cell)∉scope.names:=λz=>by
            have:=B.cells _ z rfl
            rw[e3]at this
            cases this
          exact .inr ⟨Nh e3,c,by show(cellsFrom _ _ _).lookup x=_;rw[KO _ _ _ hn];exact t5,ic.keeps k⟩
    cell:=λx c e=>by
      rcases zT _ _ _ e with⟨h1,h2,_⟩|⟨h1,_⟩
      · exact⟨none,wY c h1 h2⟩
      · obtain⟨v,q⟩:=I.cell x c (c1 x c h1)
        exact⟨v,q.keeps k⟩
    free:=I.hok.fresh (aE _)
    freeC:=λx c e=>by
      rcases zT _ _ _ e with⟨h1,_⟩|⟨h1,_⟩
      · exact I.hok.fresh (kr h1)
      · exact I.freeC x c (c1 x c h1)
    pin:=λp hp=>(nomatch hp)
    hok:=I.hok.kept k
    len:=by
      show(aI own none++e7 σ cap).length=N.length
      rw[bw,cO,B.len]
      unfold e7
      rw[bj] }
end
def tK:TT:=λ_ H Q=>Q true H
def tW (X:Cx)(ifs:List Expr)(t:TT):Prop :=
 ∀(ah:List (af×dq)) (s:aj) (σ:St) (H:Hp) (Q:Bool->Hp->Prop),Inv X ah σ H s->t σ H Q ->
  aQ (aU X.prog X.w) X.A (forIn ifs true λc r=>if r=true then do let ok ← pN c X.env (bq c X.env);pure (ForInStep.yield ok)else pure (ForInStep.yield r)) (TP X ah σ Q) X.xe s
theorem YB {X:Cx}:tW X [] tK:=λ_ _ _ H _ I h=>wpAny_tests_nil ⟨H,I,h⟩
theorem YC {X:Cx}{c:Expr}{t:TT}(h:PT X c t):tW X [c] t:=λah s σ H Q I q=>wpAny_tests_one (h ah s σ H Q I q)
def oT (wi:TI)(own:Nat)(cap:List Nat)(g:TG)(tt:TT)(te:TE):TE:=λσ H Q=>wi σ H λJ H1=>∀D,H1 D=none->∃W:Nat->Nat->List V->Hp->Prop,(∃m,W 0 m [] (upd H1 D (.lst []))) /\
 ∀i m ys H2,W i m ys H2->H2 D=some (.lst ys)/\((J.stop i H2/\Q (.ref D) H2)\/(J.go i H2/\ys.length<sizeLine/\∀x H3,J.yld i H2 x H3->g x (aI own none++e7 σ cap) H3 λσ2 H4=>tt σ2 H4 λb H5=>
  if b=true then te σ2 H5 λy H6=>H6 D=some (.lst ys)/\∃m',m'<m/\W (i+1) m' (ys++[y]) (upd H6 D (.lst (ys++[y])))else∃m',m'<m/\W (i+1) m' ys H5))
def e9 (own:Nat)(g:TG):Prop:=∀v σ H Q,g v σ H Q->g v σ H λσ' H'=>Q σ' H'/\σ'.length = σ.length/\∀i,own<=i->σ'[i]? = σ[i]?
theorem V3 (i own:Nat)(h:i<own):e9 own (oM i):=λv σ H Q q=>⟨q,by rw[rL],λj hj=>by rw[el (by omega)]⟩
theorem X6 {X:Cx}{iI iter tg:Expr}{ifs:List Expr}{scope:eY}{pos:cx}{N:List aL}{own:Nat}{cap:List Nat}{wi:TI}{g:TG}{tt:TT}{te:TE}(B:jN X scope N own cap)(hc:X.calm=true)(hi:PI X tg iter wi)
    (kg:e9 own g)
    (hg:∀cl C fp s₀ H₀,PG (gK X scope cl N C fp s₀ H₀) tg g) (ht:∀cl C fp s₀ H₀,tW (gK X scope cl N C fp s₀ H₀) ifs tt) (he:∀cl C fp s₀ H₀,PE (gK X scope cl N C fp s₀ H₀) iI te)
    (hs:∀x,dm iter X.env x=pure x:=by intro _;rfl):PE X (.ListComp iI [⟨tg,iter,ifs,0⟩] scope pos) (oT wi own cap g tt te):=by
  intro ah s σ H Q I h
  obtain⟨cl,Fo,c1,c2,_⟩:=FV (env:=X.env) scope.names [] (λx hx hf=>I.ok.has x.1 (B.free x hx hf)) (λy c e=>by simp at e)
  have qG:nH scope X.env=pure cl:=by
    have e:nH scope X.env=(forIn scope.names ([]:List (aL×af)) (λ(x:aL×aZ) (cs:List (aL×af))=>if(x.2==aZ.free)=true then do let a ← cellOf X.env x.1;pure (ForInStep.yield ((x.1,a)::cs))else pure (ForInStep.yield cs)) >>= pure:m9 (List (aL×af))):=rfl
    rw[e,Fo]
    rfl
  rw[eval_ListComp]
  refine wpAny_comprehension_free (use:=none) rfl hs qG B.kind B.locs (cP (hi ah s σ H _ I h) λv s1 h1=>cP h1 λFB s2 h2=>?_)
  obtain⟨it,fp,tn,J,H2,e,I2,T,sd,f2,W0⟩:=h2
  subst e
  obtain⟨W,⟨m0,w0⟩,bY⟩:=W0 s2.heap.objs.size (I2.hok.fresh (aE _))
  refine wpAny_newObj_type ?_
  have I3:Inv X ah σ (upd H2 s2.heap.objs.size (.lst [])) { s2 with heap:=s2.heap.push { cls:=.type "list",data:=.seq ([]:List ae).toArray } }:=I2.lnew .nil (dP _)
  generalize Cv:({ s2 with heap:=s2.heap.push { cls:=.type "list",data:=.seq ([]:List ae).toArray } }:aj)=s3 at I3
  have k3:∀b o,s2.heap.get? b=some o->s3.heap.get? b=some o:=λb o e=>by rw[←Cv];exact am _ e
  have z3:s3.heap.objs.size=s2.heap.objs.size+1:=by rw[←Cv];exact cJ _ _
  have n8:∀b∈fp,b<s2.heap.objs.size:=λb hb=>by
    obtain⟨o,e,_⟩:=T.obj _ _ sd b hb
    exact aB e
  have mh:∀b∈fp,b≠s2.heap.objs.size:=λb hb=>aR (n8 b hb)
  have f3:∀b∈fp,jO X ah (upd H2 s2.heap.objs.size (.lst [])) b:=λb hb=>⟨by rw[zx (mh b hb)];exact(f2 b hb).1,(f2 b hb).2⟩
  have FM:tn 0 s3.heap:=T.keep _ _ _ sd λb _ o e=>k3 b o e
  show aQ _ _ (jT scope X.env.globals cl [] X.env.qual none .none (some X.env)) _ _ _
  refine Ng λh₁ kk xE wZ=>?_
  have IB:=NN (t':=s3.toks) B I3 c1 c2 f3 (λb hb=>by rw[z3];exact ed (n8 b hb)) xE kk wZ
  generalize cellsFrom (s3.heap.objs.size+1) scope.names cl=cl at IB ⊢
  generalize IY:({ s3 with heap:=h₁,toks:=s3.toks }:aj)=s4 at IB
  have Ez:tn 0 s4.heap:=T.keep _ _ _ FM λb _ o e=>by rw[←IY];exact kk b o e
  show gC (aU X.prog X.w) X.A (.compStart (.ListComp iI [⟨tg,iter,ifs,0⟩] scope pos) 0 (.ref it) (.ref s2.heap.objs.size) (nI scope cl s3.heap.objs.size X.env))
      (nJ (aU X.prog X.w) X.A X.xe none (EP X ah σ Q) (.ref s2.heap.objs.size) s3.heap.objs.size) s4
  have lC:∀{H':Hp},(∀b∈fp,H' b=none)->∀b∈fp,jO (gK X scope cl N s3.heap.objs.size fp s3 (upd H2 s2.heap.objs.size (.lst []))) [] H' b:=λhn b hb=>
    ⟨hn b hb,aR (by show b<s3.heap.objs.size;rw[z3];exact ed (n8 b hb)),IB.ok.exfs b hb,.inl hb,λx c e=>(IB.ok.exf b hb).2 x c e,λp hp=>(nomatch hp)⟩
  have loop:gC (aU X.prog X.w) X.A (.compLoop (.ListComp iI [⟨tg,iter,ifs,0⟩] scope pos) 0 (.ref it) (.ref s2.heap.objs.size) (nI scope cl s3.heap.objs.size X.env))
      (nJ (aU X.prog X.w) X.A X.xe none (EP X ah σ Q) (.ref s2.heap.objs.size) s3.heap.objs.size) s4:=by
    refine Nf (λn s'=>∃i ys H',Inv (gK X scope cl N s3.heap.objs.size fp s3 (upd H2 s2.heap.objs.size (.lst []))) [] (aI own none++e7 σ cap) H' s'/\tn i s'.heap/\(∀b∈fp,H' b=none)/\W i n ys H') ?_ m0
      ⟨0,[],_,IB,Ez,λb hb=>(f3 b hb).1,w0⟩
    rintro n s5 ⟨i,ys,H5,I5,tI,wK,w5⟩
    obtain⟨hD,t8⟩:=bY i n ys H5 w5
    rcases t8 with⟨stop,qn⟩|⟨go,mY,step⟩
    · refine cP (T.done (gK X scope cl N s3.heap.objs.size fp s3 (upd H2 s2.heap.objs.size (.lst []))) rfl rfl rfl hc i [] s5 _ H5 (λ_ _=>False) I5 (lC wK) tI stop) λr s6 df=>?_
      obtain⟨hr,I6⟩:=df
      subst hr
      obtain⟨m,hm,_⟩:=id I6.loc
      refine⟨m,hm,λh' sb=>⟨.ref s2.heap.objs.size,H5,?_,rfl,qn⟩⟩
      have U:=I6.base
      have nC:∀b o,s3.heap.get? b=some o->b≠s3.heap.objs.size:=λb o e=>aR (aB e)
      have nT:∀b o,H5 b=some o->b≠s3.heap.objs.size:=λb o e z=>by
        have q:H5 s3.heap.objs.size=none:=I6.free
        rw[z,q]at e
        cases e
      refine I3.call' (ch:=fp) I6.os ?_ (λa o e=>(I6.hok a o e).stay (λb u hb q=>sb.extBut b u ?_ q) (λ_ q=>q) λ_ _ q=>q) I6.bare (λb hb=>⟨(f3 b hb).2.2.2.1,(f3 b hb).2.1,(f3 b hb).2.2.2.2.1,(f3 b hb).2.2.2.2.2⟩)
      · exact{
          keep:=λb o e z hb he=>sb.extBut b o (nC b o e) (U.keep b o e z hb he)
          slot:=λb o e z hb he=>by
            obtain⟨sl,q⟩:=U.slot b o e z hb he
            exact⟨sl,sb.extBut b _ (nC b o e) q⟩
          free:=U.free
          there:=λb o e he=>by
            obtain⟨o',q⟩:=U.there b o e he
            exact⟨o',sb.extBut b o' (nC b o e) q⟩
          tups:=U.tups
          frzs:=U.frzs
          tbls:=U.tbls }
      · rcases hb with rfl|hb
        · exact nT _ _ e
        · exact nT _ _ hb
    · refine cP (T.item (gK X scope cl N s3.heap.objs.size fp s3 (upd H2 s2.heap.objs.size (.lst []))) rfl rfl rfl hc i [] s5 _ H5 (λ_ _=>False) I5 (lC wK) tI go) λr s6 df=>?_
      obtain⟨u,hr,h6⟩:=df
      subst hr
      refine cP h6 λ_ s7 df=>?_
      obtain⟨x,H7,I7,r7,y7,yC,Ig⟩:=df
      have GV:=I7.pinned (lC Ig) (T.obj _ _ yC)
      refine cP (hg cl s3.heap.objs.size fp s3 _ _ s7 _ H7 x u _ GV r7 (kg _ _ _ _ (step x H7 y7))) λ_ s8 df=>?_
      obtain⟨σ8,H8,I8,q8,l8,p8⟩:=df
      have back:∀{H9:Hp} {s9:aj},Inv (gK X scope cl N s3.heap.objs.size fp s3 (upd H2 s2.heap.objs.size (.lst []))) ([]++kj fp s7.heap) σ8 H9 s9 ->
          Inv (gK X scope cl N s3.heap.objs.size fp s3 (upd H2 s2.heap.objs.size (.lst []))) [] (aI own none++e7 σ cap) H9 s9/\tn (i+1) s9.heap/\∀b∈fp,H9 b=none:=λ{H9 s9} I9=>by
        refine⟨(I9.unpinned).weak l8.symm (λj v e=>?_),T.keep _ _ _ yC λb hb o e=>(I9.pin (b,o) (aF _ (aF _ (jc hb e)))).1,λb hb=>?_⟩
        · by_cases hj:j<own
          · rw[cv (by rw[cO];exact hj),eM,if_pos hj]at e
            cases e
          · rw[p8 j (by omega)];exact e
        · obtain⟨o,e,d⟩:=T.obj _ _ yC b hb
          exact(I9.pin (b,o) (aF _ (aF _ (jc hb e)))).2.1
      refine cP (ht cl s3.heap.objs.size fp s3 _ _ s8 σ8 H8 _ I8 q8) λok s9 df=>?_
      obtain⟨H9,I9,q9⟩:=df
      cases ok with
      |false=>
        rw[if_neg aN]
        rw[if_neg aN]at q9
        obtain⟨m',xB,w'⟩:=q9
        obtain⟨b1,b2,b3⟩:=back I9
        exact⟨m',xB,i+1,ys,H9,b1,b2,b3,w'⟩
      |true=>
        rw[if_pos rfl]
        rw[if_pos rfl]at q9
        refine cP (he cl s3.heap.objs.size fp s3 _ _ s9 σ8 H9 _ I9 q9) λuy JF df=>?_
        obtain⟨y,zV,GS,r10,wL,m',xB,w'⟩:=df
        refine cP (FU _ JF σ8 zV (.ref s2.heap.objs.size) [y] (.ref s2.heap.objs.size) [uy] (λ_ zW=>zW=upd zV s2.heap.objs.size (.lst (ys++[y]))) GS rfl (.cons r10 .nil) ⟨_,ys,y,rfl,rfl,wL,mY,rfl⟩) λ_ TJ df=>?_
        obtain⟨_,zW,GU,_,Hs⟩:=df
        subst Hs
        obtain⟨b1,b2,b3⟩:=back GU
        exact⟨m',xB,i+1,ys++[y],_,b1,b2,b3,w'⟩
  exact codeAny_compStart_list loop (T.self X.A 0 s4 _ _ Ez loop)
end L2
namespace L2
open PySem PySem.Spec PyProof.Rows
section
variable {X:Cx}{ah:List (af×dq)}{σ:St}{H:Hp}{s:aj}{h':aG}
theorem Inv.turnLay {ch:List af}{a:af}{o:HO}{t':Nat}(I:Inv X ah σ H s)(kO:∀b∈ch,jO X ah H b)(k:∀b o,b∉ch->s.heap.get? b=some o->h'.get? b=some o)(hp:s.heap.objs.size<=a)
  (new:dE X.prog X.w (upd H a o) h' a o):Inv X ah σ (upd H a o) { s with heap:=h',toks:=t' }:=by
 have hn:H a=none:=I.hok.fresh hp
 have Dx:∀b u,H b=some u->b∉ch:=λb u e z=>by rw[(kO b z).1]at e;cases e
 refine I.step (g':=s.gens) (d':=s.drawn) (ch:=ch) (λb hb=>⟨(kO b hb).2.2.2.1,(kO b hb).2.1,(kO b hb).2.2.2.2.1,(kO b hb).2.2.2.2.2⟩) (λb o _ _ hc e _=>k b o hc e) (λb o _ _ hc e _=>⟨o.slots,k b o hc e⟩)
  (λb o _ e n=>by rw[zx (aR (aV (aB e) hp))];exact n) (λb o hc e=>⟨o,k b o hc e⟩) (λb xs q=>by rw[zx (xb q hn)];exact q) (λb u xs q=>by rw[zx (xb q hn)];exact q)
  (λb ps q=>⟨#[],by rw[zx (xb q hn),q];simp⟩) (λm hm=>?_) (λb u e=>?_) I.bare
 ·obtain⟨o',es,ep,ho,r⟩:=hm
  exact⟨o',es,ep,k _ o' (λz=>(kO _ z).2.1 rfl) ho,r⟩
 ·by_cases hb:b=a
  ·subst hb
   rw[yb]at e
   cases e
   exact new
  ·rw[zx hb]at e
   refine(I.hok b u e).stay (λc v hc q=>k c v ?_ q) (λc q=>by rw[zx (xb q hn)];exact q) λc xs q=>by rw[zx (xb q hn)];exact q
   rcases hc with z|z
   ·rw[z];exact Dx b u e
   ·exact Dx c _ z
theorem Inv.turnedL {ch:List af}{t':Nat}(I:Inv X ah σ H s)(kO:∀b∈ch,jO X ah H b)(k:∀b o,b∉ch->s.heap.get? b=some o->h'.get? b=some o):Inv X ah σ H { s with heap:=h',toks:=t' }:=by
 have Dx:∀b u,H b=some u->b∉ch:=λb u e z=>by rw[(kO b z).1]at e;cases e
 refine I.step (g':=s.gens) (d':=s.drawn) (ch:=ch) (λb hb=>⟨(kO b hb).2.2.2.1,(kO b hb).2.1,(kO b hb).2.2.2.2.1,(kO b hb).2.2.2.2.2⟩) (λb o _ _ hc e _=>k b o hc e) (λb o _ _ hc e _=>⟨o.slots,k b o hc e⟩)
  (λ_ _ _ _ n=>n) (λb o hc e=>⟨o,k b o hc e⟩) (λ_ _ e=>e) (λ_ _ _ e=>e) (λb ps e=>⟨#[],by rw[e];simp⟩) (λm hm=>?_) (λb u e=>?_) I.bare
 ·obtain⟨o',es,ep,ho,r⟩:=hm
  exact⟨o',es,ep,k _ o' (λz=>(kO _ z).2.1 rfl) ho,r⟩
 ·refine(I.hok b u e).stay (λc v hc q=>k c v ?_ q) (λ_ q=>q) λ_ _ q=>q
  rcases hc with z|z
  ·rw[z];exact Dx b u e
  ·exact Dx c _ z
end
def GX (K:aa)(a:af):It :=
 ⟨λi H=>∃xs x,dC K H a xs/\xs[i]?=some x,λi H x H'=>∃p y,H p=none/\x=.ref p/\H'=upd H p (.tup [.int i,y])/\∀xs,dC K H a xs->xs[i]?=some y,λi H=>∃xs,dC K H a xs/\xs.length<=i⟩
theorem Wt {P:ba}{w:bM}{K:aa}{gU:List Expr}{kt:Nat}{pt:cx}(a e it:af)(LL:e≠it) :
    Turn P w K (.Tuple gU kt pt) (GX K a) [e,it] e (λi h=>(∃old,IsEnum h e it i old)/\h.IsListIter it a i) where
  mem:=by simp
  obj:=λi h st b hb=>by
    obtain⟨⟨old,he⟩,o,e1,c,d⟩:=st
    rcases aC.mp hb with rfl|hb
    · exact⟨_,he,λv z=>by cases z⟩
    · have e2:b=it:=by simpa using hb
      subst e2
      exact⟨o,e1,λv z=>by rw[d]at z;cases z⟩
  keep:=λi h h' st k=>by
    obtain⟨⟨old,he⟩,hit⟩:=st
    exact⟨⟨old,k e (by simp) _ he⟩,hit.at λo x=>k it (by simp) o x⟩
  item:=by
    intro X hP hw hK hc i ah s σ H E I hf st hg
    subst hP hw hK
    obtain⟨xs,x,hq,hx⟩:=hg
    obtain⟨bZ,rv,p,hz⟩:=I.list hq
    obtain⟨u,hu,ru⟩:=rv.get hx
    obtain⟨⟨old,he⟩,hit⟩:=st
    refine wpAny_pyNext_enum_item he hit p.isList (x:=u) (by simpa using hu) LL λh1 ho IK hT hsz hk=>?_
    refine⟨_,rfl,wpAny_letOwnedTupleGo_enum (s:={ s with heap:=h1,toks:=s.toks+1 }) ho λh2 Cd mZ=>?_⟩
    have iI:e<s.heap.objs.size:=aB he
    have CM:it<s.heap.objs.size:=by obtain⟨_,q,_⟩:=hit;exact aB q
    have B6:h2.get? s.heap.objs.size=some { cls:=.type "tuple",data:=.seq #[.int i s.toks,u] }:=(mZ.2 _ (gd iI)).trans hT
    have Cg:H s.heap.objs.size=none:=I.hok.fresh (aE _)
    have I1:Inv X ah σ (upd H s.heap.objs.size (.tup [.int i,x])) { s with heap:=h2,toks:=s.toks+1 }:=by
      refine I.turnLay (ch:=[e,it]) hf (λb o hb q=>?_) (aE _) ⟨by show 2<=sizeLine;decide,[.int i s.toks,u],.cons ⟨_,rfl⟩ (.cons ru .nil),_,B6,rfl,_,rfl⟩
      have Lz:b≠e:=λz=>hb (by simp[z])
      have Q8:b≠it:=λz=>hb (by simp[z])
      exact(mZ.2 b Lz).trans (hk b o Lz Q8 q)
    refine⟨.ref s.heap.objs.size,_,I1,rfl,⟨_,x,Cg,rfl,rfl,λys hy=>by rw[I.list_inj hy hq];exact hx⟩,⟨⟨u,by simpa using Cd⟩,IK.at λo q=>(mZ.2 it LL.symm).trans q⟩,λb hb=>?_⟩
    rw[zx ?_]
    · exact(hf b hb).1
    · rcases aC.mp hb with rfl|hb
      · exact aR iI
      · have e2:b=it:=by simpa using hb
        rw[e2];exact aR CM
  done:=by
    intro X hP hw hK hc i ah s σ H E I hf st hg
    subst hP hw hK
    obtain⟨xs,hq,hx⟩:=hg
    obtain⟨bZ,rv,p,hz⟩:=I.list hq
    obtain⟨⟨old,he⟩,hit⟩:=st
    have hl:=rv.length
    exact wpAny_pyNext_enum_end (I.ok.hd hc) he hit p.isList (by simp;omega) λh' eb=>⟨rfl,I.turnedL (ch:=[e,it]) (t':=s.toks) hf λb o hb q=>eb b o (λz=>hb (by simp[z])) q⟩
  self:=λ_ _ _ _ _ st h=>wpAny_pyIter_enum st.1.choose_spec h
section
variable {X:Cx}{gU:List Expr}{kt:Nat}{pt:cx}
def CF (K:aa)(ta:TA):TI:=λσ H R=>ta σ H λvs H1=>∃a,vs=[.ref a]/\(∃xs,dC K H1 a xs)/\R (GX K a) H1
theorem OK {l:Expr}{ta:TA}{p pos:cx}(hg:Gl X "enumerate")(hm:X.mg "enumerate"=none)(ha:PA X [l] ta)(hs:aq [l] X.env=[(false,bq l X.env)]:=by rfl) :
  PI X (.Tuple gU kt pt) (.Call (.Name "enumerate" p) [l] [] pos) (CF X.K ta):=by
 intro ah s σ H R I h
 refine Call_ (qy I hg hm PyProof.Rows.boot_enumerate (bJ (cP (ha pos ah s σ H _ I h) λus s1 ⟨vs,H1,I1,r1,q1⟩=>?_) hs rfl))
 obtain⟨a,e,⟨xs,hq⟩,q⟩:=q1
 subst e
 cases r1 with
 |cons r rr=>
  cases rr
  cases r
  obtain⟨bZ,rv,pl,hz⟩:=I1.list hq
  refine call_enumerate_list pl.isList λh' he hit hsz hk=>?_
  refine wpAny_pyIter_enum (s:={ s1 with heap:=h' }) he ?_
  refine⟨s1.heap.objs.size+1,[s1.heap.objs.size+1,s1.heap.objs.size],_,_,H1,rfl,I1.kept (t':=s1.toks) hk,Wt a _ _ (Nat.succ_ne_self _),⟨⟨_,he⟩,hit⟩,λb hb=>?_,q⟩
  rcases aC.mp hb with rfl|hb
  ·exact I1.fpOk (kU _) (I1.hok.fresh (kU _))
  ·have e:b=s1.heap.objs.size:=by simpa using hb
   subst e
   exact I1.fpOk (aE _) (I1.hok.fresh (aE _))
end
end L2
namespace L3
open PySem PySem.Spec L2
open PyProof.Rows hiding St
inductive D where
 |non|bl (b:Bool)|int (i:Int)|str (x:aL)
 |lst (xs:List D)|tup (xs:List D)|dK (ks:List eo) (ds:List D)|dT (ks:List (List eo)) (ds:List D)
 |obj (c:Nat) (ns:List aL) (ds:List D)
 |exc (c:Nat) (ns:List aL) (ds:List D)
 deriving Inhabited
inductive Pr (R:D->V->Prop):List D->List V->Prop
 |nil:Pr R [] []
 |cons {d:D} {v:V} {ds:List D} {vs:List V}:R d v->Pr R ds vs->Pr R (d::ds) (v::vs)
theorem Pr.mono {R R':D->V->Prop}(f:∀d v,R d v->R' d v){ds:List D}{vs:List V}(h:Pr R ds vs):Pr R' ds vs:=by
 induction h with
 |nil=>exact .nil
 |cons h t ih=>exact .cons (f _ _ h) ih
theorem Pr.length {R:D->V->Prop}{ds:List D}{vs:List V}(h:Pr R ds vs):ds.length=vs.length:=by
 induction h with
 |nil=>rfl
 |cons h t ih=>rw[aM,aM,ih]
theorem Pr.get' {R:D->V->Prop}{ds:List D}{vs:List V}{i:Nat}{d:D}(h:Pr R ds vs)(e:ds[i]?=some d):∃v,vs[i]?=some v/\R d v:=by
 induction h generalizing i with
 |nil=>cases e
 |cons h t ih=>
  cases i with
  |zero=>cases e;exact⟨_,rfl,h⟩
  |succ i=>exact ih e
theorem Pr.append {R:D->V->Prop}{ds es:List D}{vs us:List V}(h:Pr R ds vs)(s:Pr R es us):Pr R (ds++es) (vs++us):=by
 induction h with
 |nil=>exact s
 |cons h t ih=>exact .cons h ih
theorem Pr.take {R:D->V->Prop}{ds:List D}{vs:List V}(n:Nat)(h:Pr R ds vs):Pr R (ds.take n) (vs.take n):=by
 induction h generalizing n with
 |nil=>cases n<;>exact .nil
 |cons h t ih=>cases n with
  |zero=>exact .nil
  |succ n=>exact .cons h (ih n)
theorem Pr.drop {R:D->V->Prop}{ds:List D}{vs:List V}(n:Nat)(h:Pr R ds vs):Pr R (ds.drop n) (vs.drop n):=by
 induction h generalizing n with
 |nil=>cases n<;>exact .nil
 |cons h t ih=>cases n with
  |zero=>exact .cons h t
  |succ n=>exact ih n
theorem Pr.rep {R:D->V->Prop}{ds:List D}{vs:List V}(h:Pr R ds vs)(k:Nat):Pr R (aI k ds).flatten (aI k vs).flatten:=by
 induction k with
 |zero=>exact .nil
 |succ k ih=>rw[cw,dZ,cw,dZ];exact h.append ih
mutual
inductive Dt (K:aa)(ct:Nat->af)(F:Hp):D->V->Prop
 |non:Dt K ct F .non .non
 |bl (b:Bool):Dt K ct F (.bl b) (.bl b)
 |int (i:Int):Dt K ct F (.int i) (.int i)
 |str (x:aL):Dt K ct F (.str x) (.str x)
 |lst {a:af} {vs:List V} {ds:List D}:dC K F a vs->Dts K ct F ds vs->Dt K ct F (.lst ds) (.ref a)
 |tup {a:af} {vs:List V} {ds:List D}:F a=some (.tup vs)->Dts K ct F ds vs->Dt K ct F (.tup ds) (.ref a)
 |dK {a:af} {ks:List eo} {vs:List V} {ds:List D}:F a=some (.dK (ks.zip vs))->ks.length=vs.length->Dts K ct F ds vs->Dt K ct F (.dK ks ds) (.ref a)
 |dT {a:af} {ks:List (List eo)} {vs:List V} {ds:List D}:F a=some (.dT (ks.zip vs))->ks.length=vs.length->Dts K ct F ds vs->Dt K ct F (.dT ks ds) (.ref a)
 |obj {a dx:af} {c:Nat} {ns:List aL} {vs:List V} {ds:List D}:F a=some (.ins (ct c) dx (ns.zip vs))->ns.length=vs.length->Dts K ct F ds vs->Dt K ct F (.obj c ns ds) (.ref a)
 |exc0 {a:af} {c:Nat} {tb:Option af}:F a=some (MS a (ct c) none tb)->Dt K ct F (.exc c [] []) (.ref a)
 |exc {a dx:af} {c:Nat} {tb:Option af} {ns:List aL} {vs:List V} {ds:List D}:F a=some (MS a (ct c) (some dx) tb)->F dx=some (.xd (ns.zip vs))->ns.length=vs.length->Dts K ct F ds vs->Dt K ct F (.exc c ns ds) (.ref a)
inductive Dts (K:aa)(ct:Nat->af)(F:Hp):List D->List V->Prop
 |nil:Dts K ct F [] []
 |cons {d:D} {v:V} {ds:List D} {vs:List V}:Dt K ct F d v->Dts K ct F ds vs->Dts K ct F (d::ds) (v::vs)
end
section
variable {K:aa}{ct:Nat->af}{F F' G G' H H' B B':Hp}
theorem Dts.pr {ds:List D}{vs:List V}(h:Dts K ct F ds vs):Pr (Dt K ct F) ds vs:=by
 induction ds generalizing vs with
 |nil=>cases h;exact .nil
 |cons d ds ih=>cases h with|cons h t=>exact .cons h (ih t)
theorem Dts.of {ds:List D}{vs:List V}(h:Pr (Dt K ct F) ds vs):Dts K ct F ds vs:=by
 induction h with
 |nil=>exact .nil
 |cons h t ih=>exact .cons h ih
theorem Dt.mono (s:bG F F'){d:D}{v:V}(h:Dt K ct F d v):Dt K ct F' d v :=
 Dt.rec (motive_1:=λd v _=>Dt K ct F' d v) (motive_2:=λd v _=>Dts K ct F' d v) .non .bl .int .str (λh _ t=>.lst (s.seq h) t) (λh _ t=>.tup (s _ _ h) t) (λh l _ t=>.dK (s _ _ h) l t) (λh l _ t=>.dT (s _ _ h) l t) (λh l _ t=>.obj (s _ _ h) l t) (λh=>.exc0 (s _ _ h)) (λh h' l _ t=>.exc (s _ _ h) (s _ _ h') l t) .nil (λ_ _ h t=>.cons h t) h
end
def D.sc:D->Bool
 |.non=>true|.bl _=>true|.int _=>true|.str _=>true|_=>false
inductive yT (K:aa)(ct:Nat->af)(F G:Hp)(R:D->V->Prop):D->V->Prop
 |lst {a:af} {vs:List V} {ds:List D}:G a=some (.lst vs)->Pr R ds vs->yT K ct F G R (.lst ds) (.ref a)
 |tup {a:af} {vs:List V} {ds:List D}:F a=some (.tup vs)->Pr R ds vs->yT K ct F G R (.tup ds) (.ref a)
 |dK {a:af} {ks:List eo} {vs:List V} {ds:List D}:G a=some (.dK (ks.zip vs))->ks.length=vs.length->Pr R ds vs->yT K ct F G R (.dK ks ds) (.ref a)
 |dT {a:af} {ks:List (List eo)} {vs:List V} {ds:List D}:G a=some (.dT (ks.zip vs))->ks.length=vs.length->Pr R ds vs->yT K ct F G R (.dT ks ds) (.ref a)
 |obj {a dx:af} {c:Nat} {ns:List aL} {vs:List V} {ds:List D}:G a=some (.ins (ct c) dx (ns.zip vs))->ns.length=vs.length->Pr R ds vs->yT K ct F G R (.obj c ns ds) (.ref a)
def Al (K:aa)(ct:Nat->af)(F G:Hp):Nat->D->V->Prop
 |0,d,v=>Dt K ct F d v
 |n+1,d,v=>Dt K ct F d v\/yT K ct F G (Al K ct F G n) d v
inductive dU (R:D->V->List af->Prop):List D->List V->List af->Prop
 |nil:dU R [] [] []
 |cons {d:D} {v:V} {ds:List D} {vs:List V} {f g:List af}:R d v f->dU R ds vs g->dU R (d::ds) (v::vs) (f++g)
inductive rR (K:aa)(ct:Nat->af)(F H:Hp)(R:D->V->List af->Prop):D->V->List af->Prop
 |lst {a:af} {vs:List V} {ds:List D} {fp:List af}:F a=none->H a=some (.lst vs)->dU R ds vs fp->rR K ct F H R (.lst ds) (.ref a) (a::fp)
 |tup {a:af} {vs:List V} {ds:List D} {fp:List af}:F a=some (.tup vs)->dU R ds vs fp->rR K ct F H R (.tup ds) (.ref a) fp
 |dK {a:af} {ks:List eo} {vs:List V} {ds:List D} {fp:List af}:F a=none->H a=some (.dK (ks.zip vs))->ks.length=vs.length->dU R ds vs fp->rR K ct F H R (.dK ks ds) (.ref a) (a::fp)
 |dT {a:af} {ks:List (List eo)} {vs:List V} {ds:List D} {fp:List af}:F a=none->H a=some (.dT (ks.zip vs))->ks.length=vs.length->dU R ds vs fp->rR K ct F H R (.dT ks ds) (.ref a) (a::fp)
 |obj {a dx:af} {c:Nat} {ns:List aL} {vs:List V} {ds:List D} {fp:List af}:F a=none->H a=some (.ins (ct c) dx (ns.zip vs))->ns.length=vs.length->dU R ds vs fp->rR K ct F H R (.obj c ns ds) (.ref a) (a::fp)
def Ow (K:aa)(ct:Nat->af)(F H:Hp):Nat->D->V->List af->Prop
 |0,d,v,fp=>Dt K ct F d v/\fp=[]
 |n+1,d,v,fp=>(d.sc=true/\Dt K ct F d v/\fp=[])\/rR K ct F H (Ow K ct F H n) d v fp
structure eR (F H F' H':Hp):Prop where
 ff:bG F F'
 hh:bG H H'
 fh:bG F' H'
 nf:∀a o,H a=some o->F a=none->F' a=none
theorem eR.refl {F H:Hp}(h:bG F H):eR F H F H:=⟨.refl _,.refl _,h,λ_ _ _ h=>h⟩
theorem eR.trans {F H F1 H1 F2 H2:Hp}(a:eR F H F1 H1)(b:eR F1 H1 F2 H2):eR F H F2 H2 :=
 ⟨a.ff.trans b.ff,a.hh.trans b.hh,b.fh,λc o h n=>b.nf c o (a.hh _ _ h) (a.nf c o h n)⟩
theorem eR.newO {F H:Hp}{p:af}(s:bG F H)(h:H p=none)(o:HO):eR F H F (upd H p o) :=
 ⟨.refl _,uz h o,s.trans (uz h o),λ_ _ _ h=>h⟩
theorem eR.newS {F H:Hp}{p:af}(s:bG F H)(h:H p=none)(o:HO):eR F H (upd F p o) (upd H p o) :=
  ⟨uz (s.free h) o,uz h o,λb u q=>by
    by_cases e:b=p
    · subst e;rw[yb]at q ⊢;exact q
    · rw[zx e]at q ⊢;exact s _ _ q,
   λb u q n=>by rw[zx (xb q h)];exact n⟩
section
variable {K:aa}{ct:Nat->af}{F F' G G' H H' B B':Hp}
theorem Al.mono (sF:bG F F')(sG:bG G G'){n:Nat}:∀{d:D} {v:V},Al K ct F G n d v->Al K ct F' G' n d v:=by
 induction n with
 |zero=>exactλh=>Dt.mono sF h
 |succ n ih=>
  intro d v h
  rcases h with h|h
  ·exact .inl (Dt.mono sF h)
  ·cases h with
   |lst h p=>exact .inr (.lst (sG _ _ h) (p.mono λ_ _ q=>ih q))
   |tup h p=>exact .inr (.tup (sF _ _ h) (p.mono λ_ _ q=>ih q))
   |dK h l p=>exact .inr (.dK (sG _ _ h) l (p.mono λ_ _ q=>ih q))
   |dT h l p=>exact .inr (.dT (sG _ _ h) l (p.mono λ_ _ q=>ih q))
   |obj h l p=>exact .inr (.obj (sG _ _ h) l (p.mono λ_ _ q=>ih q))
theorem Al.of:∀{n:Nat} {d:D} {v:V},Dt K ct F d v->Al K ct F G n d v
 |0,_,_,h=>h
 |_+1,_,_,h=>.inl h
theorem Al.up {n:Nat}:∀{m:Nat} {d:D} {v:V},Al K ct F G n d v->n<=m->Al K ct F G m d v:=by
 induction n with
 |zero=>exactλh _=>Al.of h
 |succ n ih=>
  intro m d v h l
  cases m with
  |zero=>exact absurd l (by omega)
  |succ m=>
   rcases h with h|h
   ·exact .inl h
   ·cases h with
    |lst h p=>exact .inr (.lst h (p.mono λ_ _ q=>ih q (by omega)))
    |tup h p=>exact .inr (.tup h (p.mono λ_ _ q=>ih q (by omega)))
    |dK h e p=>exact .inr (.dK h e (p.mono λ_ _ q=>ih q (by omega)))
    |dT h e p=>exact .inr (.dT h e (p.mono λ_ _ q=>ih q (by omega)))
    |obj h e p=>exact .inr (.obj h e (p.mono λ_ _ q=>ih q (by omega)))
theorem Dt.scal {d:D}{v:V}(h:Dt K ct F d v)(hs:d.sc=true):Dt K ct F' d v:=by
 cases h with
 |non=>exact .non
 |bl b=>exact .bl b
 |int i=>exact .int i
 |str x=>exact .str x
 |lst _ _=>cases hs
 |tup _ _=>cases hs
 |dK _ _ _=>cases hs
 |dT _ _ _=>cases hs
 |obj _ _ _=>cases hs
 |exc0 _=>cases hs
 |exc _ _ _ _=>cases hs
theorem Al.scal {n:Nat}{d:D}{v:V}(h:Al K ct F G n d v)(hs:d.sc=true):Dt K ct F' d v:=by
 cases n with
 |zero=>exact Dt.scal h hs
 |succ n=>
  rcases h with h|h
  ·exact h.scal hs
  ·cases h<;>cases hs
theorem Al.int {n:Nat}{i:Int}{v:V}(h:Al K ct F G n (.int i) v):v=.int i:=by
 have q:=Al.scal (F':=F) h rfl
 cases q;rfl
theorem Al.bl {n:Nat}{b:Bool}{v:V}(h:Al K ct F G n (.bl b) v):v=.bl b:=by
 have q:=Al.scal (F':=F) h rfl
 cases q;rfl
theorem Al.str {n:Nat}{x:aL}{v:V}(h:Al K ct F G n (.str x) v):v=.str x:=by
 have q:=Al.scal (F':=F) h rfl
 cases q;rfl
theorem Al.non {n:Nat}{v:V}(h:Al K ct F G n .non v):v=.non:=by
 have q:=Al.scal (F':=F) h rfl
 cases q;rfl
theorem Al.lst {n:Nat}{ds:List D}{v:V}(h:Al K ct F G n (.lst ds) v)(s:bG F G):∃a vs,v=.ref a/\dC K G a vs/\Pr (Al K ct F G (n-1)) ds vs:=by
 cases n with
 |zero=>
  have h:Dt K ct F (.lst ds) v:=h
  cases h with
  |lst q t=>exact⟨_,_,rfl,s.seq q,t.pr⟩
 |succ n=>
  rcases h with h|h
  ·cases h with
   |lst q t=>exact⟨_,_,rfl,s.seq q,t.pr.mono λ_ _=>Al.of⟩
  ·cases h with
   |lst q t=>exact⟨_,_,rfl,dC.of q,t⟩
theorem Al.tup {n:Nat}{ds:List D}{v:V}(h:Al K ct F G n (.tup ds) v)(s:bG F G):∃a vs,v=.ref a/\G a=some (.tup vs)/\Pr (Al K ct F G (n-1)) ds vs:=by
 cases n with
 |zero=>
  have h:Dt K ct F (.tup ds) v:=h
  cases h with
  |tup q t=>exact⟨_,_,rfl,s _ _ q,t.pr⟩
 |succ n=>
  rcases h with h|h
  ·cases h with
   |tup q t=>exact⟨_,_,rfl,s _ _ q,t.pr.mono λ_ _=>Al.of⟩
  ·cases h with
   |tup q t=>exact⟨_,_,rfl,s _ _ q,t⟩
theorem Al.dK {n:Nat}{ks:List eo}{ds:List D}{v:V}(h:Al K ct F G n (.dK ks ds) v)(s:bG F G):∃a vs,v=.ref a/\G a=some (.dK (ks.zip vs))/\ks.length=vs.length/\Pr (Al K ct F G (n-1)) ds vs:=by
 cases n with
 |zero=>
  have h:Dt K ct F (.dK ks ds) v:=h
  cases h with
  |dK q l t=>exact⟨_,_,rfl,s _ _ q,l,t.pr⟩
 |succ n=>
  rcases h with h|h
  ·cases h with
   |dK q l t=>exact⟨_,_,rfl,s _ _ q,l,t.pr.mono λ_ _=>Al.of⟩
  ·cases h with
   |dK q l t=>exact⟨_,_,rfl,q,l,t⟩
theorem Al.dT {n:Nat}{ks:List (List eo)}{ds:List D}{v:V}(h:Al K ct F G n (.dT ks ds) v)(s:bG F G):∃a vs,v=.ref a/\G a=some (.dT (ks.zip vs))/\ks.length=vs.length/\Pr (Al K ct F G (n-1)) ds vs:=by
 cases n with
 |zero=>
  have h:Dt K ct F (.dT ks ds) v:=h
  cases h with
  |dT q l t=>exact⟨_,_,rfl,s _ _ q,l,t.pr⟩
 |succ n=>
  rcases h with h|h
  ·cases h with
   |dT q l t=>exact⟨_,_,rfl,s _ _ q,l,t.pr.mono λ_ _=>Al.of⟩
  ·cases h with
   |dT q l t=>exact⟨_,_,rfl,q,l,t⟩
theorem Al.obj {n:Nat}{c:Nat}{ns:List aL}{ds:List D}{v:V}(h:Al K ct F G n (.obj c ns ds) v)(s:bG F G):∃a dx vs,v=.ref a/\G a=some (.ins (ct c) dx (ns.zip vs))/\ns.length=vs.length/\Pr (Al K ct F G (n-1)) ds vs:=by
 cases n with
 |zero=>
  have h:Dt K ct F (.obj c ns ds) v:=h
  cases h with
  |obj q l t=>exact⟨_,_,_,rfl,s _ _ q,l,t.pr⟩
 |succ n=>
  rcases h with h|h
  ·cases h with
   |obj q l t=>exact⟨_,_,_,rfl,s _ _ q,l,t.pr.mono λ_ _=>Al.of⟩
  ·cases h with
   |obj q l t=>exact⟨_,_,_,rfl,q,l,t⟩
theorem dU.mono {R R':D->V->List af->Prop}{ds:List D}{vs:List V}{fp:List af}(h:dU R ds vs fp):(∀d v f,(∀a∈f,a∈fp)->R d v f->R' d v f)->dU R' ds vs fp:=by
 induction h with
 |nil=>exactλ_=>.nil
 |cons h t ih=>exactλq=>.cons (q _ _ _ (λa z=>bF _ z) h) (ih λd v f i r=>q d v f (λa z=>aF _ (i a z)) r)
theorem dU.pr {R:D->V->List af->Prop}{R':D->V->Prop}{ds:List D}{vs:List V}{fp:List af}(h:dU R ds vs fp):(∀d v f,(∀a∈f,a∈fp)->R d v f->R' d v)->Pr R' ds vs:=by
 induction h with
 |nil=>exactλ_=>.nil
 |cons h t ih=>exactλq=>.cons (q _ _ _ (λa z=>bF _ z) h) (ih λd v f i r=>q d v f (λa z=>aF _ (i a z)) r)
theorem dU.ofPr {R:D->V->List af->Prop}{ds:List D}{vs:List V}(h:Pr (λd v=>R d v []) ds vs):dU R ds vs []:=by
 induction h with
 |nil=>exact .nil
 |cons h t ih=>exact dU.cons (f:=[]) (g:=[]) h ih
theorem dU.append {R:D->V->List af->Prop}{ds es:List D}{vs us:List V}{f g:List af}(h:dU R ds vs f)(s:dU R es us g):dU R (ds++es) (vs++us) (f++g):=by
 induction h with
 |nil=>exact s
 |cons h t ih=>rw[eS];exact .cons h ih
theorem dU.length {R:D->V->List af->Prop}{ds:List D}{vs:List V}{fp:List af}(h:dU R ds vs fp):ds.length=vs.length:=by
 induction h with
 |nil=>rfl
 |cons _ t ih=>simp[ih]
theorem Ow.frame (sF:bG F F'){n:Nat}:∀{d:D} {v:V} {fp:List af},Ow K ct F H n d v fp->(∀a∈fp,H' a=H a/\F' a=none)->Ow K ct F' H' n d v fp:=by
 induction n with
 |zero=>exactλh _=>⟨h.1.mono sF,h.2⟩
 |succ n ih=>
  intro d v fp h k
  rcases h with h|h
  ·exact .inl ⟨h.1,h.2.1.mono sF,h.2.2⟩
  ·cases h with
   |lst hn h p=>exact .inr (.lst (k _ ai).2 ((k _ ai).1.trans h) (p.mono λ_ _ _ i q=>ih q λa z=>k a (ao _ (i a z))))
   |tup h p=>exact .inr (.tup (sF _ _ h) (p.mono λ_ _ _ i q=>ih q λa z=>k a (i a z)))
   |dK hn h l p=>exact .inr (.dK (k _ ai).2 ((k _ ai).1.trans h) l (p.mono λ_ _ _ i q=>ih q λa z=>k a (ao _ (i a z))))
   |dT hn h l p=>exact .inr (.dT (k _ ai).2 ((k _ ai).1.trans h) l (p.mono λ_ _ _ i q=>ih q λa z=>k a (ao _ (i a z))))
   |obj hn h l p=>exact .inr (.obj (k _ ai).2 ((k _ ai).1.trans h) l (p.mono λ_ _ _ i q=>ih q λa z=>k a (ao _ (i a z))))
theorem dU.cells0 {R:D->V->List af->Prop}(k:∀d v f,R d v f->∀a∈f,F a=none/\∃o,H a=some o){ds:List D}{vs:List V}{fp:List af}(h:dU R ds vs fp):∀a∈fp,F a=none/\∃o,H a=some o:=by
 induction h with
 |nil=>exactλa z=>by cases z
 |cons h t ih=>exactλa z=>(bz.mp z).elim (λz=>k _ _ _ h a z) (ih a)
theorem Ow.cells {n:Nat}:∀{d:D} {v:V} {fp:List af},Ow K ct F H n d v fp->∀a∈fp,F a=none/\∃o,H a=some o:=by
 induction n with
 |zero=>exactλh a z=>by rw[h.2]at z;cases z
 |succ n ih=>
  intro d v fp h a z
  rcases h with h|h
  ·rw[h.2.2]at z;cases z
  ·cases h with
   |lst hn h p=>exact(aC.mp z).elim (λe=>by rw[e];exact⟨hn,_,h⟩) (dU.cells0 (λd v f q=>ih q) p a)
   |tup h p=>exact dU.cells0 (λd v f q=>ih q) p a z
   |dK hn h l p=>exact(aC.mp z).elim (λe=>by rw[e];exact⟨hn,_,h⟩) (dU.cells0 (λd v f q=>ih q) p a)
   |dT hn h l p=>exact(aC.mp z).elim (λe=>by rw[e];exact⟨hn,_,h⟩) (dU.cells0 (λd v f q=>ih q) p a)
   |obj hn h l p=>exact(aC.mp z).elim (λe=>by rw[e];exact⟨hn,_,h⟩) (dU.cells0 (λd v f q=>ih q) p a)
theorem Ow.ext {n:Nat}{d:D}{v:V}{fp:List af}(h:Ow K ct F H n d v fp)(e:eR F H F' H'):Ow K ct F' H' n d v fp :=
 h.frame e.ff λa z=>by
  obtain⟨hn,o,ho⟩:=h.cells a z
  exact⟨(e.hh _ _ ho).trans ho.symm,e.nf a o ho hn⟩
theorem Ow.al (s:bG F H){n:Nat}:∀{d:D} {v:V} {fp:List af},Ow K ct F H n d v fp->Al K ct F H n d v:=by
 induction n with
 |zero=>exactλh=>h.1
 |succ n ih=>
  intro d v fp h
  rcases h with h|h
  ·exact .inl h.2.1
  ·cases h with
   |lst hn h p=>exact .inr (.lst h (p.pr λ_ _ _ _ q=>ih q))
   |tup h p=>exact .inr (.tup h (p.pr λ_ _ _ _ q=>ih q))
   |dK hn h l p=>exact .inr (.dK h l (p.pr λ_ _ _ _ q=>ih q))
   |dT hn h l p=>exact .inr (.dT h l (p.pr λ_ _ _ _ q=>ih q))
   |obj hn h l p=>exact .inr (.obj h l (p.pr λ_ _ _ _ q=>ih q))
theorem Ow.dt (sF:bG F F'){n:Nat}:∀{d:D} {v:V} {fp:List af},Ow K ct F H n d v fp->(∀a∈fp,F' a=H a)->Dt K ct F' d v:=by
 induction n with
 |zero=>exactλh _=>h.1.mono sF
 |succ n ih=>
  intro d v fp h k
  rcases h with h|h
  ·exact h.2.1.mono sF
  ·cases h with
   |lst hn h p=>exact .lst (dC.of ((k _ ai).trans h)) (.of (p.pr λ_ _ _ i q=>ih q λa z=>k a (ao _ (i a z))))
   |tup h p=>exact .tup (sF _ _ h) (.of (p.pr λ_ _ _ i q=>ih q λa z=>k a (i a z)))
   |dK hn h l p=>exact .dK ((k _ ai).trans h) l (.of (p.pr λ_ _ _ i q=>ih q λa z=>k a (ao _ (i a z))))
   |dT hn h l p=>exact .dT ((k _ ai).trans h) l (.of (p.pr λ_ _ _ i q=>ih q λa z=>k a (ao _ (i a z))))
   |obj hn h l p=>exact .obj ((k _ ai).trans h) l (.of (p.pr λ_ _ _ i q=>ih q λa z=>k a (ao _ (i a z))))
def lD (F H:Hp)(fp:List af):Hp:=λa=>if a∈fp then H a else F a
theorem Wu {fp:List af}(s:bG F H)(hf:∀a∈fp,F a=none):bG F (lD F H fp)/\bG (lD F H fp) H/\∀a∈fp,lD F H fp a=H a:=by
 refine⟨λa o h=>?_,λa o h=>?_,λa z=>if_pos z⟩
 ·have:¬a∈fp:=λz=>by rw[hf a z]at h;cases h
  unfold lD;rw[if_neg this];exact h
 ·unfold lD at h
  by_cases z:a∈fp
  ·rw[if_pos z]at h;exact h
  ·rw[if_neg z]at h;exact s _ _ h
theorem Ow.freeze {n:Nat}{d:D}{v:V}{fp:List af}{F0 H0:Hp}(h:Ow K ct F H n d v fp)(e:eR F0 H0 F H)(hf:∀a∈fp,H0 a=none):∃F',eR F0 H0 F' H/\Dt K ct F' d v:=by
 obtain⟨w1,w2,w3⟩:=Wu (fp:=fp) e.fh (λa z=>(h.cells a z).1)
 refine⟨lD F H fp,⟨e.ff.trans w1,e.hh,w2,λa o ho hn=>?_⟩,h.dt w1 w3⟩
 have:¬a∈fp:=λz=>by rw[hf a z]at ho;cases ho
 unfold lD;rw[if_neg this];exact e.nf a o ho hn
theorem Ow.zero {d:D}{v:V}(h:Dt K ct F d v):Ow K ct F H 0 d v []:=⟨h,rfl⟩
theorem Ow.scal {n:Nat}{d:D}{v:V}(h:Dt K ct F d v)(hs:d.sc=true):Ow K ct F H n d v []:=by
 cases n with
 |zero=>exact⟨h,rfl⟩
 |succ n=>exact .inl ⟨hs,h,rfl⟩
end
end L3
namespace L3
open PySem PySem.Spec L2
open PyProof.Rows hiding St
abbrev Env:=List (Option D)
inductive Mo where
 |al (n:Nat)|ow (n:Nat)|px (v:V)|so (x:af)
def Mo.lv:Mo->Nat
 |.al n=>n
 |.ow n=>n
 |.px _=>1
 |.so _=>1
section
variable (K:aa)(ct:Nat->af)
inductive SL (F B H:Hp):List Mo->Env->St->List af->Prop
 |nil:SL F B H [] [] [] []
 |no {m:Mo} {o:Option V} {ms:List Mo} {ρ:Env} {σ:St} {fp:List af}:SL F B H ms ρ σ fp->SL F B H (m::ms) (none::ρ) (o::σ) fp
 |al {n:Nat} {d:D} {v:V} {ms:List Mo} {ρ:Env} {σ:St} {fp:List af}:Al K ct F B n d v->SL F B H ms ρ σ fp->SL F B H (.al n::ms) (some d::ρ) (some v::σ) fp
 |px {d:D} {v:V} {ms:List Mo} {ρ:Env} {σ:St} {fp:List af}:Al K ct F B 1 d v->SL F B H ms ρ σ fp->SL F B H (.px v::ms) (some d::ρ) (some v::σ) fp
 |so {d:D} {x:af} {ms:List Mo} {ρ:Env} {σ:St} {fp:List af}:Ow K ct F H 1 d (.ref x) [x]->SL F B H ms ρ σ fp->SL F B H (.so x::ms) (some d::ρ) (some (.ref x)::σ) (x::fp)
 |ow {n:Nat} {d:D} {v:V} {ms:List Mo} {ρ:Env} {σ:St} {f fp:List af}:Ow K ct F H n d v f->SL F B H ms ρ σ fp->SL F B H (.ow n::ms) (some d::ρ) (some v::σ) (f++fp)
structure RS (F0 B:Hp)(ms:List Mo)(F H:Hp)(ρ:Env)(σ:St):Prop where
 f0:bG F0 F
 bh:bG B H
 fh:bG F H
 nf:∀a o,B a=some o->F0 a=none->F a=none
 sl:∃fp,SL K ct F B H ms ρ σ fp/\fp.Nodup/\∀a∈fp,B a=none
end
section
variable {K:aa}{ct:Nat->af}{F F' G G' H H' B B' F0:Hp}{ms:List Mo}{ρ:Env}{σ:St}
theorem SL.cells {ms:List Mo}{ρ:Env}{σ:St}{fp:List af}(h:SL K ct F B H ms ρ σ fp):∀a∈fp,F a=none/\∃o,H a=some o:=by
 induction h with
 |nil=>intro a z;cases z
 |no t ih=>exact ih
 |al _ t ih=>exact ih
 |px _ t ih=>exact ih
 |so h t ih=>exactλa z=>(aC.mp z).elim (λz=>h.cells a (by rw[z];exact ai)) (ih a)
 |ow h t ih=>exactλa z=>(bz.mp z).elim (h.cells a) (ih a)
theorem SL.frame (sF:bG F F'){ms:List Mo}{ρ:Env}{σ:St}{fp:List af}(h:SL K ct F B H ms ρ σ fp):(∀a∈fp,H' a=H a/\F' a=none)->SL K ct F' B H' ms ρ σ fp:=by
 induction h with
 |nil=>exactλ_=>.nil
 |no t ih=>exactλk=>.no (ih k)
 |al h t ih=>exactλk=>.al (h.mono sF (.refl _)) (ih k)
 |px h t ih=>exactλk=>.px (h.mono sF (.refl _)) (ih k)
 |so h t ih=>exactλk=>.so (h.frame sF λa z=>k a (by rw[br]at z;rw[z];exact ai)) (ih λa z=>k a (ao _ z))
 |ow h t ih=>exactλk=>.ow (h.frame sF λa z=>k a (bF _ z)) (ih λa z=>k a (aF _ z))
theorem RS.ext (r:RS K ct F0 B ms F H ρ σ)(e:eR F H F' H'):RS K ct F0 B ms F' H' ρ σ:=by
 obtain⟨fp,s,nd,hb⟩:=r.sl
 refine⟨r.f0.trans e.ff,r.bh.trans e.hh,e.fh,λa o h n=>e.nf a o (r.bh _ _ h) (r.nf a o h n),fp,s.frame e.ff λa z=>?_,nd,hb⟩
 obtain⟨hn,o,ho⟩:=s.cells a z
 exact⟨(e.hh _ _ ho).trans ho.symm,e.nf a o ho hn⟩
theorem SL.get {ms:List Mo}{ρ:Env}{σ:St}{fp:List af}{i:Nat}{m:Mo}{d:D}(h:SL K ct F B H ms ρ σ fp)(s:bG F H)(s':bG B H):ms[i]?=some m->ρ[i]?=some (some d)->∃v,σ[i]?=some (some v)/\Al K ct F H m.lv d v:=by
 induction h generalizing i with
 |nil=>intro e;simp at e
 |no t ih=>
  intro e e'
  cases i with
  |zero=>simp at e'
  |succ i=>simpa using ih (by simpa using e) (by simpa using e')
 |al h t ih=>
  intro e e'
  cases i with
  |zero=>
   simp at e e';subst e;subst e'
   exact⟨_,rfl,h.mono (.refl _) s'⟩
  |succ i=>simpa using ih (by simpa using e) (by simpa using e')
 |px h t ih=>
  intro e e'
  cases i with
  |zero=>
   simp at e e';subst e;subst e'
   exact⟨_,rfl,h.mono (.refl _) s'⟩
  |succ i=>simpa using ih (by simpa using e) (by simpa using e')
 |so h t ih=>
  intro e e'
  cases i with
  |zero=>
   simp at e e';subst e;subst e'
   exact⟨_,rfl,h.al s⟩
  |succ i=>simpa using ih (by simpa using e) (by simpa using e')
 |ow h t ih=>
  intro e e'
  cases i with
  |zero=>
   simp at e e';subst e;subst e'
   exact⟨_,rfl,h.al s⟩
  |succ i=>simpa using ih (by simpa using e) (by simpa using e')
theorem RS.get (r:RS K ct F0 B ms F H ρ σ){i:Nat}{m:Mo}{d:D}(hm:ms[i]?=some m)(e:ρ[i]?=some (some d)):∃v,σ[i]?=some (some v)/\Al K ct F H m.lv d v:=by
 obtain⟨fp,s,_,_⟩:=r.sl
 exact s.get r.fh r.bh hm e
theorem SL.put {ms:List Mo}{ρ:Env}{σ:St}{fp:List af}{i k:Nat}(h0:SL K ct F B H ms ρ σ fp):ms[i]?=some (.ow k) ->
  ∃f1 fr:List af,(∀a∈f1,a∈fp)/\(∀a∈fr,a∈fp)/\(fp.Nodup->f1.Nodup/\fr.Nodup/\∀a∈f1,a∉fr)/\(∀d,ρ[i]?=some (some d)->∃v,σ[i]?=some (some v)/\Ow K ct F H k d v f1) /\
   ∀(F' H':Hp) (d':D) (v':V) (f':List af),bG F F'->(∀a∈fr,H' a=H a/\F' a=none)->Ow K ct F' H' k d' v' f' ->
    ∃nZ,SL K ct F' B H' ms (ρ.set i (some d')) (σ.set i (some v')) nZ/\(∀a∈nZ,a∈f'\/a∈fr)/\(f'.Nodup->fr.Nodup->(∀a∈f',a∉fr)->nZ.Nodup):=by
 induction h0 generalizing i with
 |nil=>
  intro e
  simp at e
 |@no m0 o0 ms ρ σ fp t ih=>
  intro e
  cases i with
  |zero=>
   simp at e;subst e
   refine⟨[],fp,λa z=>(by cases z),λa z=>z,λn=>⟨bL,n,λa z=>(by cases z)⟩,λd q=>(by simp at q),λF' H' d' v' f' s kf h=>⟨f'++fp,.ow h (t.frame s kf),λa z=>bz.mp z,λn1 n2 dj=>?_⟩⟩
   exact bv.mpr ⟨n1,n2,λa z b zb e=>dj a z (e▸zb)⟩
  |succ i=>
   obtain⟨f1,fr,h1,h2,h3,h4,h5⟩:=ih (i:=i) (by simpa using e)
   refine⟨f1,fr,h1,h2,h3,λd q=>by simpa using h4 d (by simpa using q),λF' H' d' v' f' s kf h=>?_⟩
   obtain⟨nZ,q1,q2,q3⟩:=h5 F' H' d' v' f' s kf h
   exact⟨nZ,.no q1,q2,q3⟩
 |@al n0 d0 v0 ms ρ σ fp h t ih=>
  intro e
  cases i with
  |zero=>
   simp at e
  |succ i=>
   obtain⟨f1,fr,h1,h2,h3,h4,h5⟩:=ih (i:=i) (by simpa using e)
   refine⟨f1,fr,h1,h2,h3,λd q=>by simpa using h4 d (by simpa using q),λF' H' d' v' f' s kf h'=>?_⟩
   obtain⟨nZ,q1,q2,q3⟩:=h5 F' H' d' v' f' s kf h'
   exact⟨nZ,.al (h.mono s (.refl _)) q1,q2,q3⟩
 |@px d0 v0 ms ρ σ fp h t ih=>
  intro e
  cases i with
  |zero=>
   simp at e
  |succ i=>
   obtain⟨f1,fr,h1,h2,h3,h4,h5⟩:=ih (i:=i) (by simpa using e)
   refine⟨f1,fr,h1,h2,h3,λd q=>by simpa using h4 d (by simpa using q),λF' H' d' v' f' s kf h'=>?_⟩
   obtain⟨nZ,q1,q2,q3⟩:=h5 F' H' d' v' f' s kf h'
   exact⟨nZ,.px (h.mono s (.refl _)) q1,q2,q3⟩
 |@so d0 x ms ρ σ fp h t ih=>
  intro e
  cases i with
  |zero=>
   simp at e
  |succ i=>
   obtain⟨f1,fr,h1,h2,h3,h4,h5⟩:=ih (i:=i) (by simpa using e)
   refine⟨f1,x::fr,λa z=>ao _ (h1 a z),λa z=>(aC.mp z).elim (λz=>by rw[z];exact ai) λz=>ao _ (h2 a z),λn=>?_,λd q=>by simpa using h4 d (by simpa using q),λF' H' d' v' f' s kf h'=>?_⟩
   ·obtain⟨n1,n2⟩:=bU.mp n
    obtain⟨m1,m2,m3⟩:=h3 n2
    refine⟨m1,bU.mpr ⟨λz=>n1 (h2 x z),m2⟩,λa z zb=>?_⟩
    rcases aC.mp zb with zb|zb
    ·rw[zb]at z;exact n1 (h1 x z)
    ·exact m3 a z zb
   ·obtain⟨nZ,q1,q2,q3⟩:=h5 F' H' d' v' f' s (λa z=>kf a (ao _ z)) h'
    refine⟨x::nZ,.so (h.frame s λa z=>kf a (by rw[br]at z;rw[z];exact ai)) q1,λa z=>?_,λn1 n2 dj=>?_⟩
    ·rcases aC.mp z with z|z
     ·exact .inr (by rw[z];exact ai)
     ·exact(q2 a z).imp id λz=>ao _ z
    ·obtain⟨m1,m2⟩:=bU.mp n2
     refine bU.mpr ⟨λz=>?_,q3 n1 m2 λa z zb=>dj a z (ao _ zb)⟩
     rcases q2 x z with z|z
     ·exact dj x z ai
     ·exact m1 z
 |@ow n0 d0 v0 ms ρ σ f fp h t ih=>
  intro e
  cases i with
  |zero=>
   simp at e;subst e
   refine⟨f,fp,λa z=>bF _ z,λa z=>aF _ z,λn=>?_,λd q=>?_,λF' H' d' v' f' s kf h=>⟨f'++fp,.ow h (t.frame s kf),λa z=>bz.mp z,λn1 n2 dj=>?_⟩⟩
   ·obtain⟨n1,n2,n3⟩:=bv.mp n
    exact⟨n1,n2,λa z zb=>n3 a z a zb rfl⟩
   ·simp at q;subst q;exact⟨_,rfl,h⟩
   ·exact bv.mpr ⟨n1,n2,λa z b zb e=>dj a z (e▸zb)⟩
  |succ i=>
   obtain⟨f1,fr,h1,h2,h3,h4,h5⟩:=ih (i:=i) (by simpa using e)
   refine⟨f1,f++fr,λa z=>aF _ (h1 a z),λa z=>(bz.mp z).elim (λz=>bF _ z) λz=>aF _ (h2 a z),λn=>?_,λd q=>by simpa using h4 d (by simpa using q),λF' H' d' v' f' s kf h'=>?_⟩
   ·obtain⟨n1,n2,n3⟩:=bv.mp n
    obtain⟨m1,m2,m3⟩:=h3 n2
    refine⟨m1,bv.mpr ⟨n1,m2,λa z b zb=>n3 a z b (h2 b zb)⟩,λa z zb=>?_⟩
    rcases bz.mp zb with zb|zb
    ·exact n3 a zb a (h1 a z) rfl
    ·exact m3 a z zb
   ·obtain⟨nZ,q1,q2,q3⟩:=h5 F' H' d' v' f' s (λa z=>kf a (aF _ z)) h'
    refine⟨f++nZ,.ow (h.frame s λa z=>kf a (bF _ z)) q1,λa z=>?_,λn1 n2 dj=>?_⟩
    ·rcases bz.mp z with z|z
     ·exact .inr (bF _ z)
     ·exact(q2 a z).imp id λz=>aF _ z
    ·obtain⟨m1,m2,m3⟩:=bv.mp n2
     refine bv.mpr ⟨m1,q3 n1 m2 λa z zb=>dj a z (aF _ zb),λa z b zb e=>?_⟩
     subst e
     rcases q2 a zb with zb|zb
     ·exact dj a zb (bF _ z)
     ·exact m3 a z a zb rfl
end
abbrev EF:=Env->Option D
inductive fU (K:aa)(ct:Nat->af)(F G:Hp):List Nat->List D->List V->Prop
 |nil:fU K ct F G [] [] []
 |cons {n:Nat} {d:D} {v:V} {ns:List Nat} {ds:List D} {vs:List V}:Al K ct F G n d v->fU K ct F G ns ds vs->fU K ct F G (n::ns) (d::ds) (v::vs)
theorem fU.mono {K:aa}{ct:Nat->af}{F F' G G':Hp}(sF:bG F F')(sG:bG G G'){ns:List Nat}{ds:List D}{vs:List V}(h:fU K ct F G ns ds vs):fU K ct F' G' ns ds vs:=by
 induction h with
 |nil=>exact .nil
 |cons h t ih=>exact .cons (h.mono sF sG) ih
theorem fU.length {K:aa}{ct:Nat->af}{F G:Hp}{ns:List Nat}{ds:List D}{vs:List V}(h:fU K ct F G ns ds vs):vs.length=ns.length:=by
 induction h with
 |nil=>rfl
 |cons h t ih=>rw[aM,aM,ih]
theorem fU.length' {K:aa}{ct:Nat->af}{F G:Hp}{ns:List Nat}{ds:List D}{vs:List V}(h:fU K ct F G ns ds vs):ds.length=vs.length:=by
 induction h with
 |nil=>rfl
 |cons h t ih=>rw[aM,aM,ih]
theorem fU.append {K:aa}{ct:Nat->af}{F G:Hp}{FD:List Nat}{jI:List D}{FQ:List V}(q:fU K ct F G FD jI FQ){ns:List Nat}{ds:List D}{vs:List V}(h:fU K ct F G ns ds vs):fU K ct F G (ns++FD) (ds++jI) (vs++FQ):=by
 induction h with
 |nil=>exact q
 |cons h t ih=>exact .cons h ih
section
variable (X:Cx)(ct:Nat->af)(ms:List Mo)
def XE (n:Nat)(e:Expr)(f:EF):Prop:=∃t,PE X e t/\∀(F0 B F H:Hp) (ρ:Env) (σ:St) (d:D) (Q:VK),RS X.K ct F0 B ms F H ρ σ->f ρ=some d ->
 (∀v F' H',eR F H F' H'->Al X.K ct F' H' n d v->Q v H')->t σ H Q
def XO (k:Nat)(e:Expr)(f:EF):Prop:=∃t,PE X e t/\∀(F0 B F H:Hp) (ρ:Env) (σ:St) (d:D) (Q:VK),RS X.K ct F0 B ms F H ρ σ->f ρ=some d ->
 (∀v F' H' fp,eR F H F' H'->Ow X.K ct F' H' k d v fp->fp.Nodup->(∀a∈fp,H a=none)->Q v H')->t σ H Q
def XT (e:Expr)(f:Env->Option Bool):Prop:=∃t,PT X e t/\∀(F0 B F H:Hp) (ρ:Env) (σ:St) (b:Bool) (Q:Bool->Hp->Prop),RS X.K ct F0 B ms F H ρ σ->f ρ=some b ->
 (∀F' H',eR F H F' H'->Q b H')->t σ H Q
def XW (e:Expr)(f:Env->Option Bool):Prop:=∃t,PW X e t/\∀(F0 B F H:Hp) (ρ:Env) (σ:St) (b:Bool) (Q:Bool->Hp->Prop),RS X.K ct F0 B ms F H ρ σ->f ρ=some b ->
 (∀F' H',eR F H F' H'->Q b H')->t σ H Q
def XA (es:List Expr)(ns:List Nat)(f:Env->Option (List D)):Prop:=∃t,PA X es t/\(∀ρ ds,f ρ=some ds->ds.length=es.length)/\∀(F0 B F H:Hp) (ρ:Env) (σ:St) (ds:List D) (Q:List V->Hp->Prop),RS X.K ct F0 B ms F H ρ σ->f ρ=some ds ->
 (∀vs F' H',eR F H F' H'->fU X.K ct F' H' ns ds vs->Q vs H')->t σ H Q
end
def e2 (op:D->D->Option D)(f g:EF):EF:=λρ=>(f ρ).bind λx=>(g ρ).bind λy=>op x y
def e1 (op:D->Option D)(f:EF):EF:=λρ=>(f ρ).bind op
def eN (op:List D->Option D)(f:Env->Option (List D)):EF:=λρ=>(f ρ).bind op
def eC (d:D):EF:=λ_=>some d
def eV (i:Nat):EF:=λρ=>(ρ[i]?).join
def aNil:Env->Option (List D):=λ_=>some []
def aCons (f:EF)(g:Env->Option (List D)):Env->Option (List D):=λρ=>(f ρ).bind λx=>(g ρ).bind λxs=>some (x::xs)
theorem cW {α β γ:Type}{o:Option α}{p:Option β}{op:α->β->Option γ}{r:γ}(h:(o.bind λx=>p.bind λy=>op x y)=some r):∃x y,o=some x/\p=some y/\op x y=some r:=by
 cases o with
 |none=>cases h
 |some x=>
  cases p with
  |none=>cases h
  |some y=>exact⟨x,y,rfl,rfl,h⟩
theorem aO {α β:Type}{o:Option α}{op:α->Option β}{r:β}(h:o.bind op=some r):∃x,o=some x/\op x=some r:=by
 cases o with
 |none=>cases h
 |some x=>exact⟨x,rfl,h⟩
theorem yr {α:Type}{o:Option (Option α)}{x:α}(h:o.join=some x):o=some (some x):=by
 cases o with
 |none=>cases h
 |some y=>exact congrArg some h
def lI (K:aa)(ct:Nat->af)(n m k:Nat)(r:R2)(op:D->D->Option D):Prop :=
 ∀(F H:Hp) (x y:V) (d1 d2 d:D) (Q:VK),bG F H->Al K ct F H n d1 x->Al K ct F H m d2 y->op d1 d2=some d->(∀v F' H',eR F H F' H'->Al K ct F' H' k d v->Q v H')->r x y H Q
def Aa (K:aa)(ct:Nat->af)(n m k:Nat)(r:R2)(op:D->D->Option D):Prop :=
 ∀(F H:Hp) (x y:V) (d1 d2 d:D) (Q:VK),bG F H->Al K ct F H n d1 x->Al K ct F H m d2 y->op d1 d2=some d ->
  (∀v F' H' fp,eR F H F' H'->Ow K ct F' H' k d v fp->fp.Nodup->(∀a∈fp,H a=none)->Q v H')->r x y H Q
def tV (K:aa)(ct:Nat->af)(ns:List Nat)(k:Nat)(r:List V->Hp->VK->Prop)(op:List D->Option D):Prop :=
 ∀(F H:Hp) (vs:List V) (ds:List D) (d:D) (Q:VK),bG F H->fU K ct F H ns ds vs->op ds=some d->(∀v F' H',eR F H F' H'->Al K ct F' H' k d v->Q v H')->r vs H Q
def uX (K:aa)(ct:Nat->af)(ns:List Nat)(k:Nat)(r:List V->Hp->VK->Prop)(op:List D->Option D):Prop :=
 ∀(F H:Hp) (vs:List V) (ds:List D) (d:D) (Q:VK),bG F H->fU K ct F H ns ds vs->op ds=some d ->
  (∀v F' H' fp,eR F H F' H'->Ow K ct F' H' k d v fp->fp.Nodup->(∀a∈fp,H a=none)->Q v H')->r vs H Q
section
variable {X:Cx}{ct:Nat->af}{ms:List Mo}{n m k:Nat}{a b c e:Expr}{f g h:EF}{pos:cx}
theorem XO.sh (he:XO X ct ms k e f):XE X ct ms n e f:=by
 obtain⟨t,p,q⟩:=he
 refine⟨t,p,λF0 B F H ρ σ d Q r e w=>q F0 B F H ρ σ d Q r e λv F' H' fp x o nd hf=>?_⟩
 obtain⟨F2,x2,h2⟩:=o.freeze x hf
 exact w v F2 H' x2 (Al.of h2)
theorem XE.ow (he:XE X ct ms 0 e f):XO X ct ms 0 e f:=by
 obtain⟨t,p,q⟩:=he
 exact⟨t,p,λF0 B F H ρ σ d Q r e w=>q F0 B F H ρ σ d Q r e λv F' H' x l=>w v F' H' [] x ⟨l,rfl⟩ bL λa z=>(by cases z)⟩
theorem za (i n:Nat){x:aL}{m:Mo}(hm:ms[i]?=some m:=by rfl)(hl:m.lv=n:=by rfl)(hN:X.N[i]?=some x:=by rfl)(hv:nw X.env.scope x:=by first|exact Or.inl rfl|exact Or.inr (Or.inl rfl)|exact Or.inr (Or.inr rfl))(hd:(x==("__debug__":aL))=false:=by decide)
  (ie:(x==("__classdict__":aL))=false:=by decide):XE X ct ms n (.Name x pos) (eV i):=by
 subst hl
 refine⟨_,jm hN hv hd ie,λF0 B F H ρ σ d Q r e w=>?_⟩
 obtain⟨v,hv,l⟩:=r.get hm (yr e)
 exact⟨v,hv,w v F H (.refl r.fh) l⟩
theorem Z5 {i:Int}{j}:XE X ct ms n (.Constant (.int i) j pos) (eC (.int i)):=⟨_,Zx,λF0 B F H ρ σ d Q r e w=>by cases e;exact w _ F H (.refl r.fh) (Al.of (.int i))⟩
theorem uq {i:Bool}{j}:XE X ct ms n (.Constant (.bool i) j pos) (eC (.bl i)):=⟨_,zsv,λF0 B F H ρ σ d Q r e w=>by cases e;exact w _ F H (.refl r.fh) (Al.of (.bl i))⟩
theorem ER {i:aL}{j}:XE X ct ms n (.Constant (.str i) j pos) (eC (.str i)):=⟨_,Zz,λF0 B F H ρ σ d Q r e w=>by cases e;exact w _ F H (.refl r.fh) (Al.of (.str i))⟩
theorem Z6 {j}:XE X ct ms n (.Constant .none j pos) (eC .non):=⟨_,Zy,λF0 B F H ρ σ d Q r e w=>by cases e;exact w _ F H (.refl r.fh) (Al.of .non)⟩
theorem XE.bin (ha:XE X ct ms n a f)(hb:XE X ct ms m b g):∃ta tb,PE X a ta/\PE X b tb/\∀(F0 B F H:Hp) (ρ:Env) (σ:St) (d1 d2:D) (R:V->V->Hp->Prop),RS X.K ct F0 B ms F H ρ σ->f ρ=some d1->g ρ=some d2 ->
  (∀x y F' H',eR F H F' H'->Al X.K ct F' H' n d1 x->Al X.K ct F' H' m d2 y->R x y H')->ta σ H λx H1=>tb σ H1 λy H2=>R x y H2:=by
 obtain⟨ta,pa,qa⟩:=ha
 obtain⟨tb,pb,qb⟩:=hb
 refine⟨ta,tb,pa,pb,λF0 B F H ρ σ d1 d2 R r e1 e2 w=>qa F0 B F H ρ σ d1 _ r e1 λx F1 H1 x1 l1=>?_⟩
 exact qb F0 B F1 H1 ρ σ d2 _ (r.ext x1) e2 λy F2 H2 x2 l2=>w x y F2 H2 (x1.trans x2) (l1.mono x2.ff x2.hh) l2
theorem yj {op:iC}{r:R2}{o:D->D->Option D}(ho:fL X (dF op) r)(hs:lI X.K ct n m k r o)(ha:XE X ct ms n a f)(hb:XE X ct ms m b g):XE X ct ms k (.BinOp a op b pos) (e2 o f g):=by
 obtain⟨ta,tb,pa,pb,q⟩:=ha.bin hb
 refine⟨_,KW ho pa pb,λF0 B F H ρ σ d Q rs e w=>?_⟩
 obtain⟨d1,d2,h1,h2,h3⟩:=cW e
 exact q F0 B F H ρ σ d1 d2 _ rs h1 h2 λx y F' H' x1 l1 l2=>hs F' H' x y d1 d2 d Q x1.fh l1 l2 h3 λv F2 H2 x2 l=>w v F2 H2 (x1.trans x2) l
theorem zs5 {op:iC}{r:R2}{o:D->D->Option D}(ho:fL X (dF op) r)(hs:Aa X.K ct n m k r o)(ha:XE X ct ms n a f)(hb:XE X ct ms m b g):XO X ct ms k (.BinOp a op b pos) (e2 o f g):=by
 obtain⟨ta,tb,pa,pb,q⟩:=ha.bin hb
 refine⟨_,KW ho pa pb,λF0 B F H ρ σ d Q rs e w=>?_⟩
 obtain⟨d1,d2,h1,h2,h3⟩:=cW e
 exact q F0 B F H ρ σ d1 d2 _ rs h1 h2 λx y F' H' x1 l1 l2=>hs F' H' x y d1 d2 d Q x1.fh l1 l2 h3 λv F2 H2 fp x2 l nd hf=>w v F2 H2 fp (x1.trans x2) l nd λz hz=>x1.hh.free (hf z hz)
theorem jd {op:kG}{r:R2}{o:D->D->Option D}(ho:fL X (cB op) r)(hs:lI X.K ct n m k r o)(ha:XE X ct ms n a f)(hb:XE X ct ms m b g)(hm:dz op b=false):XE X ct ms k (.Compare a [op] [b] pos) (e2 o f g):=by
 obtain⟨ta,tb,pa,pb,q⟩:=ha.bin hb
 refine⟨_,Yl ho pa pb hm,λF0 B F H ρ σ d Q rs e w=>?_⟩
 obtain⟨d1,d2,h1,h2,h3⟩:=cW e
 exact q F0 B F H ρ σ d1 d2 _ rs h1 h2 λx y F' H' x1 l1 l2=>hs F' H' x y d1 d2 d Q x1.fh l1 l2 h3 λv F2 H2 x2 l=>w v F2 H2 (x1.trans x2) l
theorem jl {r:R2}{o:D->D->Option D}(hr:rQ X r)(hs:lI X.K ct n m k r o)(ha:XE X ct ms n a f)(hb:XE X ct ms m b g)(hp:iH b):XE X ct ms k (.Subscript a b pos) (e2 o f g):=by
 obtain⟨ta,tb,pa,pb,q⟩:=ha.bin hb
 refine⟨_,GN hr pa pb hp,λF0 B F H ρ σ d Q rs e w=>?_⟩
 obtain⟨d1,d2,h1,h2,h3⟩:=cW e
 exact q F0 B F H ρ σ d1 d2 _ rs h1 h2 λx y F' H' x1 l1 l2=>hs F' H' x y d1 d2 d Q x1.fh l1 l2 h3 λv F2 H2 x2 l=>w v F2 H2 (x1.trans x2) l
theorem zs6 {op:UnaryOp}{r:V->Hp->VK->Prop}{o:D->Option D}(ho:E5 X (unaryOp op) r)
  (hs:∀(F H:Hp) (x:V) (d1 d:D) (Q:VK),bG F H->Al X.K ct F H n d1 x->o d1=some d->(∀v F' H',eR F H F' H'->Al X.K ct F' H' k d v->Q v H')->r x H Q) (ha:XE X ct ms n a f):XE X ct ms k (.UnaryOp op a pos) (e1 o f):=by
 obtain⟨ta,pa,qa⟩:=ha
 refine⟨_,zsz ho pa,λF0 B F H ρ σ d Q rs e w=>?_⟩
 obtain⟨d1,h1,h2⟩:=aO e
 exact qa F0 B F H ρ σ d1 _ rs h1 λx F' H' x1 l1=>hs F' H' x d1 d Q x1.fh l1 h2 λv F2 H2 x2 l=>w v F2 H2 (x1.trans x2) l
theorem zg:XA X ct ms [] [] aNil:=⟨_,sf,λρ ds e=>(by cases e;rfl),λF0 B F H ρ σ ds Q r e w=>by cases e;exact w [] F H (.refl r.fh) .nil⟩
theorem zc {es:List Expr}{ns:List Nat}{fs:Env->Option (List D)}(ha:XE X ct ms n a f)(hr:XA X ct ms es ns fs)(hs:aq (a::es) X.env=(false,bq a X.env)::aq es X.env:=by rfl):XA X ct ms (a::es) (n::ns) (aCons f fs):=by
 obtain⟨ta,pa,qa⟩:=ha
 obtain⟨tb,pb,lb,qb⟩:=hr
 refine⟨_,ud pa pb hs,λρ ds e=>(by obtain⟨x,xs,h1,h2,h3⟩:=cW e;cases h3;rw[aM,aM,lb _ _ h2]),λF0 B F H ρ σ ds Q r e w=>?_⟩
 obtain⟨x,xs,h1,h2,h3⟩:=cW e
 cases h3
 refine qa F0 B F H ρ σ x _ r h1 λv F1 H1 x1 l1=>?_
 exact qb F0 B F1 H1 ρ σ xs _ (r.ext x1) h2 λvs F2 H2 x2 l2=>w (v::vs) F2 H2 (x1.trans x2) (.cons (l1.mono x2.ff x2.hh) l2)
def Ac (X:Cx)(ct:Nat->af)(ms:List Mo)(k:Nat)(es:List Expr)(f:Env->Option (List D)):Prop:=∃t,PA X es t/\(∀ρ ds,f ρ=some ds->ds.length=es.length)/\∀(F0 B F H:Hp) (ρ:Env) (σ:St) (ds:List D) (Q:List V->Hp->Prop),RS X.K ct F0 B ms F H ρ σ->f ρ=some ds ->
 (∀vs F' H' fp,eR F H F' H'->dU (Ow X.K ct F' H' k) ds vs fp->fp.Nodup->(∀a∈fp,H a=none)->Q vs H')->t σ H Q
theorem vd:Ac X ct ms k [] aNil:=⟨_,sf,λρ ds e=>(by cases e;rfl),λF0 B F H ρ σ ds Q r e w=>by cases e;exact w [] F H [] (.refl r.fh) .nil bL λa z=>(by cases z)⟩
theorem yk {es:List Expr}{fs:Env->Option (List D)}(ha:XO X ct ms k a f)(hr:Ac X ct ms k es fs)(hs:aq (a::es) X.env=(false,bq a X.env)::aq es X.env:=by rfl):Ac X ct ms k (a::es) (aCons f fs):=by
 obtain⟨ta,pa,qa⟩:=ha
 obtain⟨tb,pb,lb,qb⟩:=hr
 refine⟨_,ud pa pb hs,λρ ds e=>(by obtain⟨x,xs,h1,h2,h3⟩:=cW e;cases h3;rw[aM,aM,lb _ _ h2]),λF0 B F H ρ σ ds Q r e w=>?_⟩
 obtain⟨x,xs,h1,h2,h3⟩:=cW e
 cases h3
 refine qa F0 B F H ρ σ x _ r h1 λv F1 H1 f1 x1 l1 n1 a1=>?_
 refine qb F0 B F1 H1 ρ σ xs _ (r.ext x1) h2 λvs F2 H2 f2 x2 l2 n2 a2=>w (v::vs) F2 H2 (f1++f2) (x1.trans x2) (.cons (l1.ext x2) l2) (bv.mpr ⟨n1,n2,λz hz y hy e=>?_⟩) λz hz=>?_
 ·subst e
  obtain⟨_,o,ho⟩:=l1.cells z hz
  rw[a2 z hy]at ho
  cases ho
 ·rcases bz.mp hz with hz|hz
  ·exact a1 z hz
  ·exact x1.hh.free (a2 z hz)
end
end L3
namespace L3
open PySem PySem.Spec L2
open PyProof.Rows hiding St
def E9:D->Option Bool
 |.bl b=>some b
 |_=>none
theorem zH {d:D}{b:Bool}(h:E9 d=some b):d=.bl b:=by cases d<;>simp[E9]at h;subst h;rfl
abbrev BF:=Env->Option Bool
def tb (f:EF):BF:=λρ=>(f ρ).bind E9
def bNot (f:BF):BF:=λρ=>(f ρ).bind λb=>some (!b)
def bAnd (f g:BF):BF:=λρ=>(f ρ).bind λb=>if b=true then g ρ else some false
def bOr (f g:BF):BF:=λρ=>(f ρ).bind λb=>if b=true then some true else g ρ
def eB (f:BF):EF:=λρ=>(f ρ).bind λb=>some (.bl b)
def eIf (c:BF)(f g:EF):EF:=λρ=>(c ρ).bind λb=>if b=true then f ρ else g ρ
section
variable {X:Cx}{ct:Nat->af}{ms:List Mo}{n m k:Nat}{a b c e:Expr}{f g h:EF}{p q:BF}{pos:cx}
theorem wq (he:XE X ct ms n e f)(hi:∀whole,pN e X.env whole=(do let v ← whole;fW e.pos;d7 [v] (truthy v)):=by intro _;rfl):XT X ct ms e (tb f):=by
 obtain⟨t,pt,qt⟩:=he
 refine⟨_,ZC pt hi,λF0 B F H ρ σ b Q r e w=>?_⟩
 obtain⟨d,h1,h2⟩:=aO e
 rw[zH h2]at h1
 exact qt F0 B F H ρ σ _ _ r h1 λv F' H' x l=>⟨b,l.bl,w F' H' x⟩
theorem ya {op:kG}{r:R2}{o:D->D->Option D}(ho:fL X (cB op) r)(hs:lI X.K ct n m k r o)(ha:XE X ct ms n a f)(hb:XE X ct ms m b g)(hm:dz op b=false):XT X ct ms (.Compare a [op] [b] pos) (tb (e2 o f g)):=by
 obtain⟨ta,tb,pa,pb,q⟩:=ha.bin hb
 refine⟨_,Ym ho pa pb hm,λF0 B F H ρ σ b Q rs e w=>?_⟩
 obtain⟨d,h0,h4⟩:=aO e
 rw[zH h4]at h0
 obtain⟨d1,d2,h1,h2,h3⟩:=cW h0
 exact q F0 B F H ρ σ d1 d2 _ rs h1 h2 λx y F' H' x1 l1 l2=>hs F' H' x y d1 d2 _ _ x1.fh l1 l2 h3 λv F2 H2 x2 l=>⟨b,l.bl,w F2 H2 (x1.trans x2)⟩
theorem XW.t (h:XW X ct ms e p):XT X ct ms e p:=by
 obtain⟨t,pt,qt⟩:=h
 exact⟨t,pt.pt,qt⟩
theorem zM (ha:XT X ct ms a p):XW X ct ms (.BoolOp .And [a] pos) p:=by
 obtain⟨t,pt,qt⟩:=ha
 exact⟨t,Yg pt,qt⟩
theorem qq (ha:XT X ct ms a p):XW X ct ms (.BoolOp .Or [a] pos) p:=by
 obtain⟨t,pt,qt⟩:=ha
 exact⟨t,ZD pt,qt⟩
theorem zQ {rest:List Expr}(ha:XT X ct ms a p)(hb:XW X ct ms (.BoolOp .And (b::rest) pos) q):XW X ct ms (.BoolOp .And (a::b::rest) pos) (bAnd p q):=by
 obtain⟨t,pt,qt⟩:=ha
 obtain⟨u,pu,qu⟩:=hb
 refine⟨_,ZE pt pu,λF0 B F H ρ σ r Q rs e w=>?_⟩
 obtain⟨x,h1,h2⟩:=aO e
 refine qt F0 B F H ρ σ x _ rs h1 λF1 H1 x1=>?_
 cases x with
 |true=>rw[if_pos rfl];exact qu F0 B F1 H1 ρ σ r _ (rs.ext x1) h2 λF2 H2 x2=>w F2 H2 (x1.trans x2)
 |false=>cases h2;rw[if_neg aN];exact w F1 H1 x1
theorem qw {rest:List Expr}(ha:XT X ct ms a p)(hb:XW X ct ms (.BoolOp .Or (b::rest) pos) q):XW X ct ms (.BoolOp .Or (a::b::rest) pos) (bOr p q):=by
 obtain⟨t,pt,qt⟩:=ha
 obtain⟨u,pu,qu⟩:=hb
 refine⟨_,zsw pt pu,λF0 B F H ρ σ r Q rs e w=>?_⟩
 obtain⟨x,h1,h2⟩:=aO e
 refine qt F0 B F H ρ σ x _ rs h1 λF1 H1 x1=>?_
 cases x with
 |true=>cases h2;rw[if_pos rfl];exact w F1 H1 x1
 |false=>rw[if_neg aN];exact qu F0 B F1 H1 ρ σ r _ (rs.ext x1) h2 λF2 H2 x2=>w F2 H2 (x1.trans x2)
theorem ua (ha:XT X ct ms a p):XT X ct ms (.UnaryOp .Not a pos) (bNot p):=by
 obtain⟨t,pt,qt⟩:=ha
 refine⟨_,ZF pt,λF0 B F H ρ σ r Q rs e w=>?_⟩
 obtain⟨x,h1,h2⟩:=aO e
 cases h2
 exact qt F0 B F H ρ σ x _ rs h1 λF1 H1 x1=>w F1 H1 x1
theorem Pl (ha:XE X ct ms n a f):XE X ct ms k (.UnaryOp .Not a pos) (eB (bNot (tb f))):=by
 obtain⟨t,pt,qt⟩:=ha
 refine⟨_,ZI pt,λF0 B F H ρ σ r Q rs e w=>?_⟩
 obtain⟨x,h1,h2⟩:=aO e
 obtain⟨y,h3,h4⟩:=aO h1
 obtain⟨z,h5,h6⟩:=aO h3
 cases h2;cases h4
 rw[zH h6]at h5
 exact qt F0 B F H ρ σ _ _ rs h5 λv F1 H1 x1 l=>⟨y,l.bl,w _ F1 H1 x1 (Al.of (.bl _))⟩
theorem sg {op}(ha:XE X ct ms n a f):XE X ct ms k (.BoolOp op [a] pos) (eB (tb f)):=by
 obtain⟨t,pt,qt⟩:=ha
 refine⟨_,ZG pt,λF0 B F H ρ σ r Q rs e w=>?_⟩
 obtain⟨y,h3,h4⟩:=aO e
 obtain⟨z,h5,h6⟩:=aO h3
 cases h4
 rw[zH h6]at h5
 exact qt F0 B F H ρ σ _ _ rs h5 λv F1 H1 x1 l=>w _ F1 H1 x1 (by rw[l.bl];exact Al.of (.bl _))
theorem tO {rest:List Expr}(ha:XE X ct ms n a f)(hb:XE X ct ms k (.BoolOp .And (b::rest) pos) (eB q)):XE X ct ms k (.BoolOp .And (a::b::rest) pos) (eB (bAnd (tb f) q)):=by
 obtain⟨t,pt,qt⟩:=ha
 obtain⟨u,pu,qu⟩:=hb
 refine⟨_,ZH pt pu,λF0 B F H ρ σ r Q rs e w=>?_⟩
 obtain⟨y,h3,h4⟩:=aO e
 obtain⟨x,h1,h2⟩:=aO h3
 obtain⟨z,h5,h6⟩:=aO h1
 cases h4
 rw[zH h6]at h5
 refine qt F0 B F H ρ σ _ _ rs h5 λv F1 H1 x1 l=>⟨x,l.bl,?_⟩
 cases x with
 |true=>rw[if_pos rfl];exact qu F0 B F1 H1 ρ σ _ _ (rs.ext x1) (show(q ρ).bind _=_ by rw[if_pos rfl]at h2;rw[h2];rfl) λv F2 H2 x2 l=>w v F2 H2 (x1.trans x2) l
 |false=>rw[if_neg aN]at h2 ⊢;cases h2;exact w _ F1 H1 x1 (Al.of (.bl _))
theorem Pq {rest:List Expr}(ha:XE X ct ms n a f)(hb:XE X ct ms k (.BoolOp .Or (b::rest) pos) (eB q)):XE X ct ms k (.BoolOp .Or (a::b::rest) pos) (eB (bOr (tb f) q)):=by
 obtain⟨t,pt,qt⟩:=ha
 obtain⟨u,pu,qu⟩:=hb
 refine⟨_,zsx pt pu,λF0 B F H ρ σ r Q rs e w=>?_⟩
 obtain⟨y,h3,h4⟩:=aO e
 obtain⟨x,h1,h2⟩:=aO h3
 obtain⟨z,h5,h6⟩:=aO h1
 cases h4
 rw[zH h6]at h5
 refine qt F0 B F H ρ σ _ _ rs h5 λv F1 H1 x1 l=>⟨x,l.bl,?_⟩
 cases x with
 |true=>rw[if_pos rfl]at h2 ⊢;cases h2;exact w _ F1 H1 x1 (Al.of (.bl _))
 |false=>rw[if_neg aN];exact qu F0 B F1 H1 ρ σ _ _ (rs.ext x1) (show(q ρ).bind _=_ by rw[if_neg aN]at h2;rw[h2];rfl) λv F2 H2 x2 l=>w v F2 H2 (x1.trans x2) l
theorem KU (hc:XT X ct ms c p)(ha:XE X ct ms k a f)(hb:XE X ct ms k b g):XE X ct ms k (.IfExp c a b pos) (eIf p f g):=by
 obtain⟨s,ps,qs⟩:=hc
 obtain⟨t,pt,qt⟩:=ha
 obtain⟨u,pu,qu⟩:=hb
 refine⟨_,W2 ps pt pu,λF0 B F H ρ σ r Q rs e w=>?_⟩
 obtain⟨x,h1,h2⟩:=aO e
 refine qs F0 B F H ρ σ x _ rs h1 λF1 H1 x1=>?_
 cases x with
 |true=>rw[if_pos rfl]at h2 ⊢;exact qt F0 B F1 H1 ρ σ _ _ (rs.ext x1) h2 λv F2 H2 x2 l=>w v F2 H2 (x1.trans x2) l
 |false=>rw[if_neg aN]at h2 ⊢;exact qu F0 B F1 H1 ρ σ _ _ (rs.ext x1) h2 λv F2 H2 x2 l=>w v F2 H2 (x1.trans x2) l
theorem ES {es:List Expr}{fs:Env->Option (List D)}{x1}(h:Ac X ct ms k es fs)(hl:es.length<=1000:=by decide):XO X ct ms (k+1) (.Tuple es x1 pos) (λρ=>(fs ρ).bind λds=>some (.tup ds)):=by
 obtain⟨t,pt,lt,qt⟩:=h
 refine⟨_,KN pt,λF0 B F H ρ σ r Q rs e w=>?_⟩
 obtain⟨ds,h1,h2⟩:=aO e
 cases h2
 refine qt F0 B F H ρ σ ds _ rs h1 λvs F1 H1 fp x1 l nd hf=>⟨?_,λp hp=>?_⟩
 ·rw[←l.length,lt _ _ h1];exact small hl
 ·have x2:=eR.newS x1.fh hp (.tup vs)
  exact w _ _ _ fp (x1.trans x2) (.inr (.tup yb (l.mono λ_ _ _ _ o=>o.ext x2))) nd hf
theorem dU.cellsOf {K:aa}{F H:Hp}{ds:List D}{vs:List V}{fp:List af}(l:dU (Ow K ct F H k) ds vs fp):∀a∈fp,F a=none/\∃o,H a=some o:=dU.cells0 (λd v f q=>Ow.cells q) l
theorem OL {K:aa}{F H:Hp}{ds:List D}{vs:List V}{fp:List af}{p:af}(s:bG F H)(l:dU (Ow K ct F H k) ds vs fp)(hp:H p=none):Ow K ct F (upd H p (.lst vs)) (k+1) (.lst ds) (.ref p) (p::fp)/\(fp.Nodup->(p::fp).Nodup) :=
 ⟨.inr (.lst (s.free hp) yb (l.mono λ_ _ _ _ o=>o.ext (eR.newO s hp _))),λnd=>bU.mpr ⟨λz=>(by
  obtain⟨_,o,ho⟩:=dU.cellsOf l p z
  rw[hp]at ho
  cases ho),nd⟩⟩
theorem jy {es:List Expr}{fs:Env->Option (List D)}(h:Ac X ct ms k es fs)(hl:es.length<=1000:=by decide):XO X ct ms (k+1) (.List es pos) (λρ=>(fs ρ).bind λds=>some (.lst ds)):=by
 obtain⟨t,pt,lt,qt⟩:=h
 refine⟨_,Zh pt,λF0 B F H ρ σ r Q rs e w=>?_⟩
 obtain⟨ds,h1,h2⟩:=aO e
 cases h2
 refine qt F0 B F H ρ σ ds _ rs h1 λvs F1 H1 fp x1 l nd hf=>⟨?_,λp hp=>?_⟩
 ·rw[←l.length,lt _ _ h1];exact small hl
 ·obtain⟨o,n2⟩:=OL x1.fh l hp
  refine w _ _ _ (p::fp) (x1.trans (eR.newO x1.fh hp _)) o (n2 nd) λz hz=>?_
  rcases aC.mp hz with rfl|hz
  ·exact x1.hh.free hp
  ·exact hf z hz
theorem WV:XO X ct ms (k+1) (.Dict [] [] pos) (eC (.dK [] [])):=by
 refine⟨_,WQ,λF0 B F H ρ σ r Q rs e w p hp=>?_⟩
 cases e
 refine w _ F _ [p] (eR.newO rs.fh hp _) (.inr (rR.dK (vs:=[]) (rs.fh.free hp) yb rfl .nil)) (by simp) λz hz=>?_
 rw[br]at hz;subst hz;exact hp
theorem WW:XO X ct ms (k+1) (.Dict [] [] pos) (eC (.dT [] [])):=by
 refine⟨_,WR,λF0 B F H ρ σ r Q rs e w p hp=>?_⟩
 cases e
 refine w _ F _ [p] (eR.newO rs.fh hp _) (.inr (rR.dT (vs:=[]) (rs.fh.free hp) yb rfl .nil)) (by simp) λz hz=>?_
 rw[br]at hz;subst hz;exact hp
def fK (K:aa)(ct:Nat->af)(pm:List Nat)(rk:Nat)(m:List D->Option D):Sp:=λvs H Q _=>∃(F:Hp) (ds:List D) (d:D),bG F H/\fU K ct F H pm ds vs/\m ds=some d /\
 ∀v F' H' fp,eR F H F' H'->Ow K ct F' H' rk d v fp->fp.Nodup->(∀a∈fp,H a=none)->Q v H'
theorem fK.len {K:aa}{ct:Nat->af}{pm:List Nat}{rk:Nat}{m:List D->Option D}{ps:List aL}(h:pm.length=ps.length):∀vs H Q E,fK K ct pm rk m vs H Q E->vs.length=ps.length:=by
 rintro vs H Q E ⟨F,ds,d,_,l,_⟩
 rw[l.length,h]
variable {kk:Nat}{fa:af}{fd:aH}{ps:List aL}{pm:List Nat}{rk:Nat}{mf:List D->Option D}{x:aL}{pp:cx}
theorem KA {es:List Expr}{ns nd:List Nat}{fs:Env->Option (List D)}{gR:List V}{jU:List D}{kA:List ae}(Fn:cn X.prog X.w X.K X.mg X.base eu kk fa fd ps (fK X.K ct (ns++nd) rk mf))(hr:dN kk X.A)(hg:Gl X x)(hm:X.mg x=some (.ref fa))(hk:ar X.K (.ref fa)=true)
  (hb:bA X.K fd ps kA) (hd:bB gR kA) (sN:∀F G,fU X.K ct F G nd jU gR) (ha:XA X ct ms (e::es) ns fs)
  (kd:(x==("__debug__":aL))=false:=by decide) (he:aq (e::es) X.env=(false,bq e X.env)::aq es X.env:=by rfl) (gD:(cj pos (aq es X.env)).any (·.1)=false:=by rfl) :
  XO X ct ms rk (.Call (.Name x pp) (e::es) [] pos) (λρ=>(fs ρ).bind λds=>mf (ds++jU)):=by
 obtain⟨t,pt,_,qt⟩:=ha
 refine⟨_,Yq Fn hr hg hm hk hb hd mn pt kd he gD,λF0 B F H ρ σ r Q rs e w=>?_⟩
 obtain⟨ds,h1,h2⟩:=aO e
 refine qt F0 B F H ρ σ ds _ rs h1 λvs F1 H1 x1 l=>⟨F1,ds++jU,r,x1.fh,fU.append (sN F1 H1) l,h2,λv F2 H2 fp x2 o nd hf=>?_⟩
 exact w v F2 H2 fp (x1.trans x2) o nd λz hz=>x1.hh.free (hf z hz)
theorem u0 {es:List Expr}{ns:List Nat}{fs:Env->Option (List D)}{id:String}{r:List V->Hp->VK->Prop}{op:List D->Option D}(hc:eE X (.builtin id) r)(hs:tV X.K ct ns k r op)(hg:Gl X x)(hm:X.mg x=none)(hv:bX x=some (.builtin id))(ha:XA X ct ms (e::es) ns fs)
  (hn:x≠"__name__":=by decide) (kd:(x==("__debug__":aL))=false:=by decide) (he:aq (e::es) X.env=(false,bq e X.env)::aq es X.env:=by rfl) (gD:(cj pos (aq es X.env)).any (·.1)=false:=by rfl) :
  XE X ct ms k (.Call (.Name x pp) (e::es) [] pos) (eN op fs):=by
 obtain⟨t,pt,_,qt⟩:=ha
 refine⟨_,Kj hc hg hm hv pt hn kd he gD,λF0 B F H ρ σ r Q rs e w=>?_⟩
 obtain⟨ds,h1,h2⟩:=aO e
 exact qt F0 B F H ρ σ ds _ rs h1 λvs F1 H1 x1 l=>hs F1 H1 vs ds r Q x1.fh l h2 λv F2 H2 x2 l2=>w v F2 H2 (x1.trans x2) l2
theorem Wv {es:List Expr}{ns:List Nat}{fs:Env->Option (List D)}{id:String}{r:List V->Hp->VK->Prop}{op:List D->Option D}(hc:eE X (.type id) r)(hs:tV X.K ct ns k r op)(hg:Gl X x)(hm:X.mg x=none)(hv:bX x=some (.type id))(ha:XA X ct ms (e::es) ns fs)
  (hn:x≠"__name__":=by decide) (kd:(x==("__debug__":aL))=false:=by decide) (he:aq (e::es) X.env=(false,bq e X.env)::aq es X.env:=by rfl) (gD:(cj pos (aq es X.env)).any (·.1)=false:=by rfl) :
  XE X ct ms k (.Call (.Name x pp) (e::es) [] pos) (eN op fs):=by
 obtain⟨t,pt,_,qt⟩:=ha
 refine⟨_,NJ hc hg hm hv pt hn kd he gD,λF0 B F H ρ σ r Q rs e w=>?_⟩
 obtain⟨ds,h1,h2⟩:=aO e
 exact qt F0 B F H ρ σ ds _ rs h1 λvs F1 H1 x1 l=>hs F1 H1 vs ds r Q x1.fh l h2 λv F2 H2 x2 l2=>w v F2 H2 (x1.trans x2) l2
theorem EB {es:List Expr}{ns:List Nat}{fs:Env->Option (List D)}{id:String}{r:List V->Hp->VK->Prop}{op:List D->Option D}(hc:eE X (.type id) r)(hs:uX X.K ct ns k r op)(hg:Gl X x)(hm:X.mg x=none)(hv:bX x=some (.type id))(ha:XA X ct ms (e::es) ns fs)
  (hn:x≠"__name__":=by decide) (kd:(x==("__debug__":aL))=false:=by decide) (he:aq (e::es) X.env=(false,bq e X.env)::aq es X.env:=by rfl) (gD:(cj pos (aq es X.env)).any (·.1)=false:=by rfl) :
  XO X ct ms k (.Call (.Name x pp) (e::es) [] pos) (eN op fs):=by
 obtain⟨t,pt,_,qt⟩:=ha
 refine⟨_,NJ hc hg hm hv pt hn kd he gD,λF0 B F H ρ σ r Q rs e w=>?_⟩
 obtain⟨ds,h1,h2⟩:=aO e
 exact qt F0 B F H ρ σ ds _ rs h1 λvs F1 H1 x1 l=>hs F1 H1 vs ds r Q x1.fh l h2 λv F2 H2 fp x2 l2 nd hf=>w v F2 H2 fp (x1.trans x2) l2 nd λz hz=>x1.hh.free (hf z hz)
def cZ (cs:List Nat)(x:aL):D->Option D
 |.obj c ns ds=>if cs.contains c=true then(ns.zip ds).lookup x else none
 |_=>none
theorem Nt {R:D->V->Prop}{x:aL}{d:D}:∀{ns:List aL} {ds:List D} {vs:List V},Pr R ds vs->(ns.zip ds).lookup x=some d->∃v,(ns.zip vs).lookup x=some v/\R d v
 |[],_,_,_,e=>by simp at e
 |_::_,_,_,.nil,e=>by simp at e
 |y::ns,_,_,.cons h t,e=>by
  rw[eJ,aY]at e
  rw[eJ,aY]
  cases q:x==y with
  |true=>rw[q]at e;cases e;exact⟨_,rfl,h⟩
  |false=>rw[q]at e;exact Nt t e
theorem Kq {vs:List V}{x:aL}:∀{ns:List aL} {vs:List V},ns.contains x=false->(ns.zip vs).lookup x=none
 |[],_,_=>by simp
 |_::_,[],_=>by simp
 |y::ns,_::vs,h=>by
  rw[oV,nO]at h
  rw[eJ,aY,h.1]
  exact Kq (vs:=vs) h.2
theorem xi {x:aL}{cs:List Nat}(he:XE X ct ms n e f)(hc:∀c∈cs,kX X.K (ct c)/\eP X.K (ct c) x)(hb:de e x X.env (bq e X.env)=bq e X.env):XE X ct ms (n-1) (.Attribute e x pos) (e1 (cZ cs x) f):=by
 obtain⟨t,pt,qt⟩:=he
 refine⟨_,Zf pt hb,λF0 B F H ρ σ r Q rs e w=>?_⟩
 obtain⟨o,h1,h2⟩:=aO e
 refine qt F0 B F H ρ σ o _ rs h1 λv F1 H1 x1 l=>?_
 cases o with
 |obj c ns ds=>
  obtain⟨a,dx,vs,rfl,ha,hl,IC⟩:=l.obj x1.fh
  unfold cZ at h2
  dsimp only at h2
  by_cases wY:cs.contains c=true
  ·rw[if_pos wY]at h2
   obtain⟨u,hu,du⟩:=Nt IC h2
   have hh:=hc c (by simpa using wY)
   exact⟨a,_,dx,_,u,rfl,ha,hh.1,hh.2,hu,w u F1 H1 x1 du⟩
  ·rw[if_neg wY]at h2;cases h2
 |_=>cases h2
def ig (c0:Nat)(m:aL)(mf:List D->Option D)(o:D)(ds:List D):Option D:=match o with
 |.obj c ns _=>if c=c0/\ns.contains m=false then mf (o::ds)else none
 |_=>none
theorem KB {o:Expr}{x:aL}{cL:cx}{pl:m9 Bool}{es:List Expr}{ns nd:List Nat}{fs:Env->Option (List D)}{gR:List V}{jU:List D}{kA:List ae}{c0:Nat}(ho:XE X ct ms n o f)(c:kX X.K (ct c0))(hm:nW X.K (ct c0) x fa)(Fn:cn X.prog X.w X.K X.mg X.base eu kk fa fd ps (fK X.K ct (n::(ns++nd)) rk mf))(hr:dN kk X.A)
  (hb:bA X.K fd ps kA) (hd:bB gR kA) (sN:∀F G,fU X.K ct F G nd jU gR) (ha:XA X ct ms (e::es) ns fs)
  (lm:aq (e::es) X.env=(false,bq e X.env)::aq es X.env:=by rfl) (gD:(cj pos (aq es X.env)).any (·.1)=false:=by rfl)
  (ht:bq (.Call (.Attribute o x cL) (e::es) [] pos) X.env=(do
   let ov ← bq o X.env
   fW cL.atName
   let(f,first) ← d7 [ov] (fR ov x pl)
   iE pos f first (cj pos (aq (e::es) X.env)) (cH pos (bS [] X.env))):=by rfl) :
  XO X ct ms rk (.Call (.Attribute o x cL) (e::es) [] pos) (λρ=>(f ρ).bind λo=>(fs ρ).bind λds=>ig c0 x mf o (ds++jU)):=by
 obtain⟨u,pu,qu⟩:=ho
 obtain⟨t,pt,_,qt⟩:=ha
 refine⟨_,Yr pu c hm Fn hr hb hd mn pt lm gD ht,λF0 B F H ρ σ r Q rs e w=>?_⟩
 obtain⟨o,ds,h1,h2,h3⟩:=cW e
 refine qu F0 B F H ρ σ o _ rs h1 λv F1 H1 x1 l=>?_
 cases o with
 |obj c1 FD jI=>
  unfold ig at h3
  dsimp only at h3
  split at h3
  ·rename_i hc
   obtain⟨rfl,oQ⟩:=hc
   obtain⟨a,dx,vs,rfl,ha,hl,IC⟩:=l.obj x1.fh
   refine⟨a,dx,_,rfl,ha,Kq (vs:=vs) oQ,?_⟩
   refine qt F0 B F1 H1 ρ σ ds _ (rs.ext x1) h2 λus F2 H2 x2 l2=>⟨F2,_,r,x2.fh,.cons (l.mono x2.ff x2.hh) (fU.append (sN F2 H2) l2),h3,λv F3 H3 fp x3 o nd hf=>?_⟩
   exact w v F3 H3 fp ((x1.trans x2).trans x3) o nd λz hz=>(x1.trans x2).hh.free (hf z hz)
  ·cases h3
 |_=>cases h3
theorem EE {o:Expr}{x:aL}{cL:cx}{pl:m9 Bool}{nd:List Nat}{gR:List V}{jU:List D}{kA:List ae}{c0:Nat}(ho:XE X ct ms n o f)(c:kX X.K (ct c0))(hm:nW X.K (ct c0) x fa)(Fn:cn X.prog X.w X.K X.mg X.base eu kk fa fd ps (fK X.K ct (n::nd) rk mf))(hr:dN kk X.A)
  (hb:bA X.K fd ps kA) (hd:bB gR kA) (sN:∀F G,fU X.K ct F G nd jU gR)
  (ht:bq (.Call (.Attribute o x cL) [] [] pos) X.env=(do
   let ov ← bq o X.env
   fW cL.atName
   let(f,first) ← d7 [ov] (fR ov x pl)
   iE pos f first (cj pos (aq [] X.env)) (cH pos (bS [] X.env))):=by rfl) :
  XO X ct ms rk (.Call (.Attribute o x cL) [] [] pos) (λρ=>(f ρ).bind λo=>ig c0 x mf o jU):=by
 obtain⟨u,pu,qu⟩:=ho
 refine⟨_,W8 pu c hm Fn hr hb hd mn ht,λF0 B F H ρ σ r Q rs e w=>?_⟩
 obtain⟨o,h1,h3⟩:=aO e
 refine qu F0 B F H ρ σ o _ rs h1 λv F1 H1 x1 l=>?_
 cases o with
 |obj c1 FD jI=>
  unfold ig at h3
  dsimp only at h3
  split at h3
  ·rename_i hc
   obtain⟨rfl,oQ⟩:=hc
   obtain⟨a,dx,vs,rfl,ha,hl,IC⟩:=l.obj x1.fh
   refine⟨a,dx,_,rfl,ha,Kq (vs:=vs) oQ,F1,_,r,x1.fh,.cons l (sN F1 H1),h3,λv F3 H3 fp x3 o nd hf=>?_⟩
   exact w v F3 H3 fp (x1.trans x3) o nd λz hz=>x1.hh.free (hf z hz)
  ·cases h3
 |_=>cases h3
end
end L3
namespace L3
open PySem PySem.Spec L2
open PyProof.Rows hiding St
inductive Out where
 |nx (ρ:Env)|rt (d:D)|bk (ρ:Env)|ct (ρ:Env)
abbrev SF:=Env->Option Out
def lX (K:aa)(cl:Nat->af)(F0 B:Hp)(ms:List Mo)(rk:Nat)(E:mz):Out->Prop
 |.nx ρ=>∀σ F H,RS K cl F0 B ms F H ρ σ->E.nx σ H
 |.bk ρ=>∀σ F H,RS K cl F0 B ms F H ρ σ->E.bk σ H
 |.ct ρ=>∀σ F H,RS K cl F0 B ms F H ρ σ->E.ct σ H
 |.rt d=>∀v F H fp,bG F0 F->bG B H->bG F H->(∀a o,B a=some o->F0 a=none->F a=none)->Ow K cl F H rk d v fp->fp.Nodup->(∀a∈fp,B a=none)->E.rt v H
section
variable (X:Cx)(ct:Nat->af)(ms:List Mo)(rk:Nat)
def XS (st:bP)(f:SF):Prop:=∃t,PS X st t/\∀(F0 B F H:Hp) (ρ:Env) (σ:St) (o:Out) (E:mz),RS X.K ct F0 B ms F H ρ σ->f ρ=some o->lX X.K ct F0 B ms rk E o->t E σ H
def p7 (st:List bP)(f:SF):Prop:=∃t,oI X st t/\∀(F0 B F H:Hp) (ρ:Env) (σ:St) (o:Out) (E:mz),RS X.K ct F0 B ms F H ρ σ->f ρ=some o->lX X.K ct F0 B ms rk E o->t E σ H
end
def sSkip:SF:=λρ=>some (.nx ρ)
def sSeq (f g:SF):SF:=λρ=>(f ρ).bind λo=>match o with
 |.nx ρ'=>g ρ'
 |o=>some o
def sIf (c:BF)(f g:SF):SF:=λρ=>(c ρ).bind λb=>if b=true then f ρ else g ρ
def sSet (i:Nat)(f:EF):SF:=λρ=>(f ρ).bind λd=>some (.nx (ρ.set i (some d)))
def sRet (f:EF):SF:=λρ=>(f ρ).bind λd=>some (.rt d)
def sRetN:SF:=λ_=>some (.rt .non)
def sDrop (f:EF):SF:=λρ=>(f ρ).bind λ_=>some (.nx ρ)
def lz:SF:=λ_=>none
def ni:Nat:=2 ^ 9000
def kl (c:BF)(b:SF):Nat->SF
 |0,_=>none
 |n+1,ρ=>(c ρ).bind λt=>if t=true then(b ρ).bind λo=>match o with
   |.nx ρ'=>kl c b n ρ'
   |.ct ρ'=>kl c b n ρ'
   |.bk ρ'=>some (.nx ρ')
   |.rt d=>some (.rt d)
  else some (.nx ρ)
def lA (c:BF)(b:SF):SF:=kl c b ni
def eF (g:D->Env->Option Env)(b:SF):List D->SF
 |[],ρ=>some (.nx ρ)
 |d::ds,ρ=>(g d ρ).bind λρ1=>(b ρ1).bind λo=>match o with
   |.nx ρ'=>eF g b ds ρ'
   |.ct ρ'=>eF g b ds ρ'
   |.bk ρ'=>some (.nx ρ')
   |.rt d=>some (.rt d)
def sFor (f:Env->Option (List D))(g:D->Env->Option Env)(b:SF):SF:=λρ=>(f ρ).bind λds=>eF g b ds ρ
section
variable {X:Cx}{ct:Nat->af}{ms:List Mo}{rk n m k:Nat}{st:bP}{rest:List bP}{a b c e:Expr}{f g h:EF}{p q:BF}{u w:SF}{pos:cx}
theorem zl:p7 X ct ms rk [] sSkip:=⟨_,Yh,λF0 B F H ρ σ o E rs e w=>by cases e;exact w σ F H rs⟩
theorem ze (h1:XS X ct ms rk st u)(h2:p7 X ct ms rk rest w):p7 X ct ms rk (st::rest) (sSeq u w):=by
 obtain⟨t,pt,qt⟩:=h1
 obtain⟨t2,oi,oj⟩:=h2
 refine⟨_,W3 pt oi,λF0 B F H ρ σ o E rs e z=>?_⟩
 obtain⟨o1,e1,e2⟩:=aO e
 refine qt F0 B F H ρ σ o1 _ rs e1 ?_
 cases o1 with
 |nx ρ'=>exactλσ' F' H' TB=>oj F0 B F' H' ρ' σ' o E TB e2 z
 |rt d=>cases e2;exact z
 |bk ρ'=>cases e2;exact z
 |ct ρ'=>cases e2;exact z
theorem zf (h1:XS X ct ms rk st u):p7 X ct ms rk [st] u:=by
 obtain⟨t,pt,qt⟩:=h1
 exact⟨_,Yi pt,qt⟩
theorem Ge:XS X ct ms rk st lz:=⟨_,W4,λF0 B F H ρ σ o E rs e w=>by cases e⟩
theorem X7 (he:XE X ct ms n e f)(hs:dn e none pos.line X.env=pure false:=by rfl):XS X ct ms rk (.Expr e pos) (sDrop f):=by
 obtain⟨t,pt,qt⟩:=he
 refine⟨_,EM pt hs,λF0 B F H ρ σ o E rs e w=>?_⟩
 obtain⟨d,h1,h2⟩:=aO e
 cases h2
 exact qt F0 B F H ρ σ d _ rs h1 λv F' H' x l=>w σ F' H' (rs.ext x)
theorem zh (he:XO X ct ms rk e f):XS X ct ms rk (.Return (some e) pos) (sRet f):=by
 obtain⟨t,pt,qt⟩:=he
 refine⟨_,KH pt,λF0 B F H ρ σ o E rs e w=>?_⟩
 obtain⟨d,h1,h2⟩:=aO e
 cases h2
 refine qt F0 B F H ρ σ d _ rs h1 λv F' H' fp x l nd hf=>?_
 have r:=rs.ext x
 exact w v F' H' fp r.f0 r.bh r.fh r.nf l nd λz hz=>rs.bh.free (hf z hz)
theorem wc {ME sd:List bP}(hc:XT X ct ms c p)(h1:p7 X ct ms rk ME u)(h2:p7 X ct ms rk sd w):XS X ct ms rk (.If c ME sd pos) (sIf p u w):=by
 obtain⟨t,pt,qt⟩:=hc
 obtain⟨t1,xQ,xS⟩:=h1
 obtain⟨t2,oi,oj⟩:=h2
 refine⟨_,zsy pt xQ oi,λF0 B F H ρ σ o E rs e z=>?_⟩
 obtain⟨x,h1,h2⟩:=aO e
 refine qt F0 B F H ρ σ x _ rs h1 λF1 H1 x1=>?_
 cases x with
 |true=>rw[if_pos rfl]at h2 ⊢;exact xS F0 B F1 H1 ρ σ o E (rs.ext x1) h2 z
 |false=>rw[if_neg aN]at h2 ⊢;exact oj F0 B F1 H1 ρ σ o E (rs.ext x1) h2 z
theorem RS.put {K:aa}{F0 B F H F' H':Hp}{ρ:Env}{σ:St}{i:Nat}(rs:RS K ct F0 B ms F H ρ σ)(hm:ms[i]?=some (.ow k)) :
  ∃f1 fr:List af,f1.Nodup/\(∀a∈f1,B a=none)/\(∀a∈f1,a∉fr)/\(∀d,ρ[i]?=some (some d)->∃v,σ[i]?=some (some v)/\Ow K ct F H k d v f1)/\(∀a∈fr,F a=none/\∃o,H a=some o) /\
   ∀(F' H':Hp) (d':D) (v':V) (f':List af),bG F F'->bG B H'->bG F' H'->(∀a o,B a=some o->F0 a=none->F' a=none)->(∀a∈fr,H' a=H a/\F' a=none)->Ow K ct F' H' k d' v' f'->f'.Nodup->(∀a∈f',a∉fr)->(∀a∈f',B a=none) ->
    RS K ct F0 B ms F' H' (ρ.set i (some d')) (σ.set i (some v')):=by
 obtain⟨fp,sl,nd,hb⟩:=rs.sl
 obtain⟨f1,fr,i1,i2,i3,i4,i5⟩:=sl.put hm
 obtain⟨n1,n2,n3⟩:=i3 nd
 refine⟨f1,fr,n1,λa z=>hb a (i1 a z),n3,i4,λa z=>sl.cells a (i2 a z),λF' H' d' v' f' s1 s2 s3 s4 kf o R9 dj Ro=>?_⟩
 obtain⟨nZ,q1,q2,q3⟩:=i5 F' H' d' v' f' s1 kf o
 exact⟨rs.f0.trans s1,s2,s3,s4,nZ,q1,q3 R9 n2 dj,λa z=>(q2 a z).elim (Ro a) λz=>hb a (i2 a z)⟩
theorem RS.set {K:aa}{F0 B F H F' H':Hp}{ρ:Env}{σ:St}{i:Nat}{d:D}{v:V}{fp:List af}(rs:RS K ct F0 B ms F H ρ σ)(hm:ms[i]?=some (.ow k))(x:eR F H F' H')(o:Ow K ct F' H' k d v fp)(nd:fp.Nodup)(hf:∀a∈fp,H a=none) :
  RS K ct F0 B ms F' H' (ρ.set i (some d)) (σ.set i (some v)):=by
 have r:=rs.ext x
 obtain⟨f1,fr,n1,b1,n3,i4,cf,put⟩:=rs.put (F':=F') (H':=H') hm
 refine put F' H' d v fp x.ff r.bh x.fh r.nf (λa z=>?_) o nd (λa z zb=>?_) λa z=>rs.bh.free (hf a z)
 ·obtain⟨hn,o,ho⟩:=cf a z
  exact⟨(x.hh _ _ ho).trans ho.symm,x.nf a o ho hn⟩
 ·obtain⟨hn,o,ho⟩:=cf a zb
  rw[hf a z]at ho
  cases ho
theorem Z7 {i:Nat}{x:aL}{pos':cx}(hm:ms[i]?=some (.ow k))(hN:X.N.Nodup)(hi:X.N[i]?=some x)(hx:Loc X.env.scope x)(he:XO X ct ms k e f)(hs:dn e (some (.Name x pos')) pos.line X.env=pure false:=by rfl)
  (hf:X.fn x=true\/X.env.scope.names.lookup x=some .local:=by first|exact .inl rfl|exact .inr rfl|assumption):XS X ct ms rk (.Assign [.Name x pos'] e pos) (sSet i f):=by
 obtain⟨t,pt,qt⟩:=he
 refine⟨_,Pb hN hi hx pt hs hf,λF0 B F H ρ σ o E rs e w=>?_⟩
 obtain⟨d,h1,h2⟩:=aO e
 cases h2
 exact qt F0 B F H ρ σ d _ rs h1 λv F' H' fp x l nd hf=>w _ F' H' (rs.set hm x l nd hf)
theorem Oh (hc:XT X ct ms c p)(hb:p7 X ct ms rk rest u)(hp:bW (aU X.prog X.w) X.A X.env X.xe):XS X ct ms rk (.While c rest [] pos) (lA p u):=by
 obtain⟨t,pt,qt⟩:=hc
 obtain⟨t1,xQ,xS⟩:=hb
 refine⟨_,W5 hp pt xQ,λF0 B F H ρ σ o E rs e z=>?_⟩
 refine⟨λm σ H=>∃F ρ,RS X.K ct F0 B ms F H ρ σ/\kl p u m ρ=some o,⟨ni,F,ρ,rs,e⟩,?_⟩
 rintro m σ H ⟨F,ρ,rs,e⟩
 cases m with
 |zero=>cases e
 |succ m=>
  obtain⟨x,h1,h2⟩:=aO e
  refine qt F0 B F H ρ σ x _ rs h1 λF1 H1 x1=>?_
  cases x with
  |true=>
   rw[if_pos rfl]at h2 ⊢
   obtain⟨o1,h3,h4⟩:=aO h2
   refine⟨λσ H=>∃F ρ,RS X.K ct F0 B ms F H ρ σ/\kl p u m ρ=some o,λσ' H' h=>⟨m,gX m,h⟩,?_⟩
   refine xS F0 B F1 H1 ρ σ o1 _ (rs.ext x1) h3 ?_
   cases o1 with
   |nx ρ'=>exactλσ' F' H' r=>⟨F',ρ',r,h4⟩
   |ct ρ'=>exactλσ' F' H' r=>⟨F',ρ',r,h4⟩
   |bk ρ'=>cases h4;exact z
   |rt d=>cases h4;exact z
  |false=>
   rw[if_neg aN]at h2 ⊢
   cases h2
   exact z σ F1 H1 (rs.ext x1)
theorem RS.re {K:aa}{F0 B F H:Hp}{ρ:Env}{σ:St}(r:RS K ct F0 B ms F H ρ σ):RS K ct F B ms F H ρ σ:=⟨.refl _,r.bh,r.fh,λ_ _ _ h=>h,r.sl⟩
theorem RS.back {K:aa}{F0 B F H F' H':Hp}{ρ ρ':Env}{σ σ':St}(r:RS K ct F0 B ms F H ρ σ)(q:RS K ct F B ms F' H' ρ' σ'):RS K ct F0 B ms F' H' ρ' σ' :=
 ⟨r.f0.trans q.f0,q.bh,q.fh,λa o h n=>q.nf a o h (r.nf a o h n),q.sl⟩
theorem lX.re {K:aa}{F0 B F H:Hp}{ρ:Env}{σ:St}{E:mz}{o:Out}(r:RS K ct F0 B ms F H ρ σ)(z:lX K ct F0 B ms rk E o):lX K ct F B ms rk E o:=by
 cases o with
 |nx ρ=>exactλσ' F' H' q=>z σ' F' H' (r.back q)
 |bk ρ=>exactλσ' F' H' q=>z σ' F' H' (r.back q)
 |ct ρ=>exactλσ' F' H' q=>z σ' F' H' (r.back q)
 |rt d=>exactλv F' H' fp s1 s2 s3 s4=>z v F' H' fp (r.f0.trans s1) s2 s3 λa o h n=>s4 a o h (r.nf a o h n)
def nv (K:aa)(ct:Nat->af)(F B:Hp)(n:Nat)(J:It)(ds:List D):Prop :=
 ∀(i:Nat) (F' H':Hp),bG F F'->bG B H'->bG F' H'->(∀d,ds[i]?=some d->J.go i H'/\∀x H2,J.yld i H' x H2->∃F2,eR F' H' F2 H2/\Al K ct F2 B n d x)/\(ds.length<=i->J.stop i H')
def XI (X:Cx)(ct:Nat->af)(ms:List Mo)(n:Nat)(tg iter:Expr)(f:Env->Option (List D)):Prop:=∃wi,PI X tg iter wi/\∀(F0 B F H:Hp) (ρ:Env) (σ:St) (ds:List D) (R:It->Hp->Prop),RS X.K ct F0 B ms F H ρ σ->f ρ=some ds ->
 (∀J F' H',eR F H F' H'->nv X.K ct F' B n J ds->R J H')->wi σ H R
def rS (X:Cx)(ct:Nat->af)(ms:List Mo)(n:Nat)(tg iter:Expr)(f:Env->Option (List D)):Prop:=∃wi,PI X tg iter wi/\∀(F0 B F H:Hp) (ρ:Env) (σ:St) (ds:List D) (R:It->Hp->Prop),RS X.K ct F0 B ms F H ρ σ->f ρ=some ds ->
 (∀J F' H',eR F H F' H'->nv X.K ct F' H' n J ds->R J H')->wi σ H R
def XG (X:Cx)(ct:Nat->af)(ms:List Mo)(n:Nat)(tg:Expr)(g:D->Env->Option Env):Prop:=∃t,PG X tg t/\∀(F0 B F H:Hp) (ρ ρ':Env) (σ:St) (d:D) (v:V) (Q:St->Hp->Prop),RS X.K ct F0 B ms F H ρ σ->Al X.K ct F B n d v->g d ρ=some ρ' ->
 (∀σ',RS X.K ct F0 B ms F H ρ' σ'->Q σ' H)->t v σ H Q
theorem vv {tg iter:Expr}{fi:Env->Option (List D)}{gg:D->Env->Option Env}(hi:XI X ct ms n tg iter fi)(hg:XG X ct ms n tg gg)(hb:p7 X ct ms rk rest u)(hp:bW (aU X.prog X.w) X.A X.env X.xe)(hc:X.calm=true)
  (hs:∀x,dm iter X.env x=pure x:=by intro _;rfl):XS X ct ms rk (.For tg iter rest [] pos) (sFor fi gg u):=by
 obtain⟨wi,pi,qi⟩:=hi
 obtain⟨MJ,pg,qg⟩:=hg
 obtain⟨t1,xQ,xS⟩:=hb
 refine⟨_,Za hp hc pi pg xQ hs,λF0 B F H ρ σ o E rs e z=>?_⟩
 obtain⟨ds,h1,h2⟩:=aO e
 refine qi F0 B F H ρ σ ds _ rs h1 λJ F1 H1 x1 ok=>?_
 refine⟨λi m σ H=>m=ds.length-i/\i<=ds.length/\∃F ρ,bG F1 F/\RS X.K ct F0 B ms F H ρ σ/\eF gg u (ds.drop i) ρ=some o,⟨ds.length,rfl,dP _,F1,ρ,.refl _,rs.ext x1,h2⟩,?_⟩
 rintro i m σ H ⟨rfl,RA,F,ρ,s1,rs,e⟩
 obtain⟨k1,k2⟩:=ok i F H s1 rs.bh rs.fh
 by_cases mY:i<ds.length
 ·right
  have hd:ds[i]?=some ds[i]:=by simp[mY]
  obtain⟨go,yl⟩:=k1 _ hd
  rw[lU mY]at e
  obtain⟨ρ1,h3,h4⟩:=aO e
  obtain⟨o1,h5,h6⟩:=aO h4
  refine⟨go,λσ H=>i+1<=ds.length/\∃F ρ,bG F1 F/\RS X.K ct F0 B ms F H ρ σ/\eF gg u (ds.drop (i+1)) ρ=some o,λσ' H' h=>⟨ds.length-(i+1),by omega,rfl,h⟩,λx H2 y=>?_⟩
  obtain⟨F2,x2,l⟩:=yl x H2 y
  refine qg F0 B F2 H2 ρ ρ1 σ _ x _ (rs.ext x2) l h3 λσ' r=>?_
  have s2:=s1.trans x2.ff
  refine xS F2 B F2 H2 ρ1 σ' o1 _ r.re h5 ?_
  cases o1 with
  |nx ρ'=>exactλσ' F' H' q=>⟨mY,F',ρ',s2.trans q.f0,r.back q,h6⟩
  |ct ρ'=>exactλσ' F' H' q=>⟨mY,F',ρ',s2.trans q.f0,r.back q,h6⟩
  |bk ρ'=>cases h6;exactλσ' F' H' q=>z σ' F' H' (r.back q)
  |rt d=>cases h6;exact lX.re (o:=.rt d) r z
 ·left
  refine⟨k2 (by omega),?_⟩
  have:ds.drop i=[]:=m7 (by omega)
  rw[this]at e
  cases e
  exact z σ F H rs
def gV (i:Nat):D->Env->Option Env:=λd ρ=>some (ρ.set i (some d))
theorem X8 {i:Nat}{x:aL}(hm:ms[i]?=some (.ow 0))(hN:X.N.Nodup)(hi:X.N[i]?=some x)(hx:Loc X.env.scope x)
  (hf:X.fn x=true\/X.env.scope.names.lookup x=some .local:=by first|exact .inl rfl|exact .inr rfl|assumption):XG X ct ms 0 (.Name x pos) (gV i):=by
 refine⟨_,Gj hN hi hx hf,λF0 B F H ρ ρ' σ d v Q rs l e w=>?_⟩
 cases e
 exact w _ (rs.set hm (.refl rs.fh) (Ow.zero l) bL λa z=>(by cases z))
theorem SL.setA {K:aa}{F B H:Hp}{d:D}{v:V}(l:Al K ct F B n d v){ms:List Mo}{ρ:Env}{σ:St}{fp:List af}{i:Nat}(h0:SL K ct F B H ms ρ σ fp):ms[i]?=some (.al n)->SL K ct F B H ms (ρ.set i (some d)) (σ.set i (some v)) fp:=by
 induction h0 generalizing i with
 |nil=>
  intro e
  simp at e
 |@no m0 o0 ms ρ σ fp t ih=>
  intro e
  cases i with
  |zero=>
   simp at e;subst e;exact .al l t
  |succ i=>
   exact .no (ih (by simpa using e))
 |@al n0 d0 v0 ms ρ σ fp h t ih=>
  intro e
  cases i with
  |zero=>
   simp at e;subst e;exact .al l t
  |succ i=>
   exact .al h (ih (by simpa using e))
 |@px d0 v0 ms ρ σ fp h t ih=>
  intro e
  cases i with
  |zero=>
   simp at e
  |succ i=>
   exact .px h (ih (by simpa using e))
 |@so d0 x0 ms ρ σ Ia h t ih=>
  intro e
  cases i with
  |zero=>
   simp at e
  |succ i=>
   exact .so h (ih (by simpa using e))
 |@ow n0 d0 v0 ms ρ σ f0 Ia h t ih=>
  intro e
  cases i with
  |zero=>
   simp at e
  |succ i=>
   exact .ow h (ih (by simpa using e))
theorem WX {i:Nat}{x:aL}(hm:ms[i]?=some (.al n))(hN:X.N.Nodup)(hi:X.N[i]?=some x)(hx:Loc X.env.scope x)
  (hf:X.fn x=true\/X.env.scope.names.lookup x=some .local:=by first|exact .inl rfl|exact .inr rfl|assumption):XG X ct ms n (.Name x pos) (gV i):=by
 refine⟨_,Gj hN hi hx hf,λF0 B F H ρ ρ' σ d v Q rs l e w=>?_⟩
 cases e
 obtain⟨fp,sl,nd,hb⟩:=rs.sl
 exact w _ ⟨rs.f0,rs.bh,rs.fh,rs.nf,fp,sl.setA l hm,nd,hb⟩
def E7 (X:Cx)(ct:Nat->af)(ms:List Mo)(n:Nat)(jS:List Expr)(g:List D->Env->Option Env):Prop:=∃t,yU X jS t/\(∀ds ρ ρ',g ds ρ=some ρ'->ds.length=jS.length)/\∀(F0 B F H:Hp) (ρ ρ':Env) (σ:St) (ds:List D) (vs:List V) (Q:St->Hp->Prop),RS X.K ct F0 B ms F H ρ σ->Pr (Al X.K ct F B n) ds vs->g ds ρ=some ρ' ->
 (∀σ',RS X.K ct F0 B ms F H ρ' σ'->Q σ' H)->t vs σ H Q
def gsNil:List D->Env->Option Env:=λds ρ=>match ds with
 |[]=>some ρ
 |_=>none
def gsCons (g:D->Env->Option Env)(gs:List D->Env->Option Env):List D->Env->Option Env:=λds ρ=>match ds with
 |d::ds=>(g d ρ).bind λρ'=>gs ds ρ'
 |[]=>none
theorem zN:E7 X ct ms n [] gsNil:=by
 refine⟨_,OA,λds ρ ρ' e=>?_,λF0 B F H ρ ρ' σ ds vs Q rs l e w=>?_⟩
 ·cases ds with
  |nil=>rfl
  |cons d ds=>cases e
 ·cases l with
  |nil=>cases e;exact⟨rfl,w σ rs⟩
  |cons _ _=>cases e
theorem xv {tg:Expr}{jS:List Expr}{gg:D->Env->Option Env}{gs:List D->Env->Option Env}(h1:XG X ct ms n tg gg)(h2:E7 X ct ms n jS gs)
  (hs:(cD (tg::jS) X.env).map (·.2)=gm tg X.env::(cD jS X.env).map (·.2):=by rfl):E7 X ct ms n (tg::jS) (gsCons gg gs):=by
 obtain⟨t,pt,qt⟩:=h1
 obtain⟨t2,oi,tf,oj⟩:=h2
 refine⟨_,NZ pt oi hs,λds ρ ρ' e=>?_,λF0 B F H ρ ρ' σ ds vs Q rs l e w=>?_⟩
 ·cases ds with
  |nil=>cases e
  |cons d ds=>
   obtain⟨ρ1,h3,h4⟩:=aO e
   rw[aM,aM,tf _ _ _ h4]
 ·cases l with
  |nil=>cases e
  |cons h t=>
   obtain⟨ρ1,h3,h4⟩:=aO e
   exact⟨_,_,rfl,qt F0 B F H ρ ρ1 σ _ _ _ rs h h3 λσ1 r1=>oj F0 B F H ρ1 ρ' σ1 _ _ _ r1 t h4 w⟩
def gT (gs:List D->Env->Option Env):D->Env->Option Env:=λd ρ=>match d with
 |.tup ds=>gs ds ρ
 |_=>none
theorem zR {jS:List Expr}{j:Nat}{gs:List D->Env->Option Env}(hc:X.calm=true)(h:E7 X ct ms (n-1) jS gs)(hl:(cD jS X.env).length=jS.length:=by rfl)(lm:(cD jS X.env).findIdx? (·.1)=none:=by rfl):XG X ct ms n (.Tuple jS j pos) (gT gs):=by
 obtain⟨t,pt,lt,qt⟩:=h
 refine⟨_,Pa (n:=jS.length) hc pt hl lm,λF0 B F H ρ ρ' σ d v Q rs l e w=>?_⟩
 cases d with
 |tup ds=>
  have l':Al X.K ct F H n (.tup ds) v:=l.mono (.refl _) rs.bh
  have:∃a vs,v=.ref a/\jP X.K H a vs/\Pr (Al X.K ct F B (n-1)) ds vs:=by
   cases n with
   |zero=>
    have l:Dt X.K ct F (.tup ds) v:=l
    cases l with
    |tup q t=>exact⟨_,_,rfl,jP.of (rs.fh _ _ q),t.pr⟩
   |succ n=>
    rcases l with l|l
    ·cases l with
     |tup q t=>exact⟨_,_,rfl,jP.of (rs.fh _ _ q),t.pr.mono λ_ _=>Al.of⟩
    ·cases l with
     |tup q t=>exact⟨_,_,rfl,jP.of (rs.fh _ _ q),t⟩
  obtain⟨a,vs,rfl,ha,hp⟩:=this
  exact⟨a,vs,rfl,ha,hp.length.symm.trans (lt _ _ _ e),qt F0 B F H ρ ρ' σ ds vs Q rs hp e w⟩
 |_=>cases e
def startD (N:List aL)(ds:List D):Env:=ds.map some++aI (N.length-ds.length) none
def mOf (N:List aL)(b:SF)(ds:List D):Option D:=(b (startD N ds)).bind λo=>match o with
 |.rt d=>some d
 |.nx _=>some .non
 |_=>none
theorem SL.start {K:aa}{F B H:Hp}:∀{pm:List Nat} {ds:List D} {vs:List V} {ms:List Mo} (j:Nat),fU K ct F B pm ds vs->(∀(i n:Nat),pm[i]?=some n->ms[i]?=some (Mo.al n)\/(n=0/\ms[i]?=some (Mo.ow 0)))->ms.length=pm.length+j ->
  SL K ct F B H ms (ds.map some++aI j none) (vs.map some++aI j none) []
 |_,_,_,ms,j,.nil,_,hl=>by
  have:∀(j:Nat) (ms:List Mo),ms.length=j->SL K ct F B H ms (aI j none) (aI j none) []:=by
   intro j
   induction j with
   |zero=>intro ms h;cases ms with
    |nil=>exact .nil
    |cons _ _=>simp at h
   |succ j ih=>intro ms h;cases ms with
    |nil=>simp at h
    |cons m ms=>exact .no (ih ms (by simpa using h))
  simpa using this j ms (by simpa using hl)
 |_,_,_,[],j,.cons h t,_,hl=>by simp at hl;omega
 |_,_,_,m::ms,j,.cons (n:=n) h t,hm,hl=>by
  have ih:=SL.start (ms:=ms) (H:=H) j t (λi n e=>by simpa using hm (i+1) n (by simpa using e)) (by simp at hl;omega)
  rcases hm 0 n rfl with e|⟨rfl,e⟩
  ·simp at e;subst e;exact .al h ih
  ·simp at e;subst e;exact SL.ow (f:=[]) (Ow.zero h) ih
structure Fun2 (K:aa)(x qual:aL)(st:bP)(f:af)(fd:aH):Prop where
 ex:∃(oc:ae) (od:Option af) (dV kV doc pm:ae) (an:Option af) (gY ct:ae) (xO:Array (Option ae)),
  fd=fM x qual (kN st) (gq st) (aP st) dV kV doc pm an gY ct/\K.lookup f=some ⟨oc,od,.func fd,xO⟩/\az K gY qual=true
 kp:ar K (.ref f)=true
theorem Fun2.ok {P:ba}{w:bM}{K:aa}{mg:aL->Option ae}{base:aG}{x qual:aL}{st:bP}{f:af}{fd:aH}{N ps:List aL}{k:Nat}{sp:Sp}(F:Fun2 K x qual st f fd)(S:bn N ps (aP st))(len:∀vs H Q E,sp vs H Q E->vs.length=ps.length)
    (qF:∀(gY:ae) (A:bD) (outer:List PySem.Env) (s:aj) (H:Hp) (vs:List V) (Q:VK) (E:XK),dN k (A.deeper (envOfC qual (aP st) s.heap.objs.size f gY))->sp vs H Q E ->
      ∃t,oI (mG eu P w K mg base N qual (aP st) f gY A outer s H E).nox (gq st) t/\t { nx:=λ_ H'=>Q .non H',rt:=Q } (L2.start N vs) H):cn P w K mg base eu (k+1) f fd ps sp:=by
  obtain⟨oc,od,dV,kV,doc,pm,an,gY,ct,xO,rfl,lk,ie⟩:=F.ex
  refine zs1 lk ie S len λA outer s H vs Q E hr uA=>?_
  obtain⟨t,h,q⟩:=qF gY A outer s H vs Q E hr uA
  exact⟨t,h.nox,q⟩
theorem lift {P:ba}{w:bM}{K:aa}{mg:aL->Option ae}{base:aG}{x qual:aL}{st:bP}{fa:af}{fd:aH}{N ps:List aL}{kk:Nat}{pm:List Nat}{bf:SF}(Fn:Fun2 K x qual st fa fd)(S:bn N ps (aP st))(Cs:pm.length=ps.length)(IQ:ms.length=N.length)(n9:ps.length<=N.length)
  (Cp:∀(i n:Nat),pm[i]?=some n->ms[i]?=some (Mo.al n)\/(n=0/\ms[i]?=some (Mo.ow 0)))
  (body:∀(gY:ae) (A:bD) (outer:List PySem.Env) (s:aj) (H:Hp) (E:XK),dN kk (A.deeper (envOfC qual (aP st) s.heap.objs.size fa gY))->p7 (mG eu P w K mg base N qual (aP st) fa gY A outer s H E).nox ct ms rk (gq st) bf) :
  cn P w K mg base eu (kk+1) fa fd ps (fK K ct pm rk (mOf N bf)):=by
 refine Fn.ok S (fK.len Cs) λgY A outer s H vs Q E hr h=>?_
 obtain⟨F,ds,d,sF,l,hm,q⟩:=h
 obtain⟨t,pt,qt⟩:=body gY A outer s H E hr
 refine⟨t,pt,?_⟩
 obtain⟨o,h1,h2⟩:=aO hm
 have hvl:vs.length=pm.length:=l.length
 have Cc:ds.length=vs.length:=l.length'
 refine qt F H F H (startD N ds) (L2.start N vs) o _ ⟨.refl _,.refl _,sF,λ_ _ _ h=>h,[],?_,bL,λa z=>(by cases z)⟩ h1 ?_
 ·unfold startD L2.start
  rw[Cc]
  exact SL.start _ l Cp (by omega)
 ·cases o with
  |nx ρ=>
   cases h2
   exactλσ F' H' r=>q .non F' H' [] ⟨r.f0,r.bh,r.fh,r.nf⟩ (Ow.scal .non rfl) bL λa z=>(by cases z)
  |rt d'=>
   cases h2
   exactλv F' H' fp s1 s2 s3 s4 o nd hf=>q v F' H' fp ⟨s1,s2,s3,s4⟩ o nd hf
  |bk ρ=>cases h2
  |ct ρ=>cases h2
end
end L3
namespace L3
open PySem PySem.Spec L2
open PyProof.Rows hiding St
theorem fL.or {X:Cx}{f:ae->ae->m9 ae}{r r':R2}(h:fL X f r)(h':fL X f r'):fL X f (λx y H Q=>r x y H Q\/r' x y H Q) :=
 λah s σ H x y v u Q I rx ry q=>q.elim (h ah s σ H x y v u Q I rx ry) (h' ah s σ H x y v u Q I rx ry)
section
variable {K:aa}{ct:Nat->af}{n m k:Nat}
def i2 (g:Int->Int->D):D->D->Option D
 |.int i,.int j=>some (g i j)
 |_,_=>none
def qT (C:Int->Int->Prop)[∀i j,Decidable (C i j)](g:Int->Int->D):D->D->Option D
 |.int i,.int j=>if C i j then some (g i j)else none
 |_,_=>none
theorem GJ {g:Int->Int->D}{gv:Int->Int->V}(hg:∀i j F,Dt K ct F (g i j) (gv i j)):lI K ct n m k (nM gv) (i2 g):=by
 intro F H x y d1 d2 d Q s l1 l2 e w
 cases d1 with
 |int i=>
  cases d2 with
  |int j=>cases e;exact⟨i,j,l1.int,l2.int,w _ F H (.refl s) (Al.of (hg i j F))⟩
  |_=>cases e
 |_=>cases e
theorem GG {C C':Int->Int->Prop}[∀i j,Decidable (C i j)]{g:Int->Int->D}{gv:Int->Int->V}(hC:∀i j,C i j->C' i j)(hg:∀i j F,Dt K ct F (g i j) (gv i j)):lI K ct n m k (rI C' gv) (qT C g):=by
 intro F H x y d1 d2 d Q s l1 l2 e w
 cases d1 with
 |int i=>
  cases d2 with
  |int j=>
   unfold qT at e
   dsimp only at e
   by_cases h:C i j
   ·rw[if_pos h]at e;cases e;exact⟨i,j,l1.int,l2.int,hC i j h,w _ F H (.refl s) (Al.of (hg i j F))⟩
   ·rw[if_neg h]at e;cases e
  |_=>cases e
 |_=>cases e
def KY:Nat:=2 ^ 9000
def zX:Nat:=2 ^ 100000
def gb:D->D->Option D:=i2 λi j=>.int (i-j)
theorem vi:lI K ct n m k (nM λi j=>.int (i-j)) gb:=GJ λ_ _ _=>.int _
def kB (i j:Int):Prop:=(-18446744073709551616<i/\i<18446744073709551616)\/(-18446744073709551616<j/\j<18446744073709551616)\/(i.natAbs<zX/\j.natAbs<zX)
instance (i j:Int):Decidable (kB i j):=by unfold kB;infer_instance
def gz:D->D->Option D:=qT kB λi j=>.int (i*j)
theorem kB.ok {i j:Int}(h:kB i j):lW i j:=by
 rcases h with h|h|h
 ·exact .inl (.inl ⟨by have:=h.1;omega,by have:=h.2;omega⟩)
 ·exact .inl (.inr ⟨by have:=h.1;omega,by have:=h.2;omega⟩)
 ·exact .inr h
theorem X9:lI K ct n m k (rI lW λi j=>.int (i*j)) gz:=GG (λ_ _=>kB.ok) λ_ _ _=>.int _
def D.v:D->V
 |.bl b=>.bl b
 |.int i=>.int i
 |.str x=>.str x
 |_=>.non
theorem Dt.v {F:Hp}{d:D}{v:V}(h:Dt K ct F d v)(hs:d.sc=true):v=d.v:=by
 cases h<;>first|rfl|cases hs
theorem Al.v {F G:Hp}{d:D}{v:V}(h:Al K ct F G n d v)(hs:d.sc=true):v=d.v:=Dt.v (Al.scal (F':=F) h hs) hs
theorem D.flat {d:D}(hs:d.sc=true):iY d.v=true:=by cases d<;>first|rfl|cases hs
theorem Pr.vs {F G:Hp}:∀{ds:List D} {vs:List V},Pr (Al K ct F G n) ds vs->ds.all D.sc=true->vs=ds.map D.v
 |_,_,.nil,_=>rfl
 |d::ds,v::vs,.cons h t,e=>by
  rw[cQ,bt]at e
  rw[bi,Al.v h e.1,Pr.vs t e.2]
def fZ:D->D->Option D
 |.int i,.int j=>if 0<j/\j<4611686018427387904 then some (.int (i/j))else if j≠0/\j.natAbs<KY then some (.int (i.fdiv j))else none
 |_,_=>none
theorem uf:lI K ct n m k (rI (λ_ j=>j≠0/\Sz 9000 j) λi j=>.int (i.fdiv j)) fZ:=by
 intro F H x y d1 d2 d Q s l1 l2 e w
 cases d1 with
 |int i=>
  cases d2 with
  |int j=>
   unfold fZ at e
   dsimp only at e
   by_cases h:0<j/\j<4611686018427387904
   ·rw[if_pos h]at e
    cases e
    refine⟨i,j,l1.int,l2.int,⟨by omega,?_⟩,?_⟩
    ·have:Sz 62 j:=by unfold Sz;omega
     exact this.mono (by decide)
    ·show Q (.int (i.fdiv j)) H
     rw[lT i (by omega)]
     exact w _ F H (.refl s) (Al.of (.int _))
   ·rw[if_neg h]at e
    by_cases h:j≠0/\j.natAbs<KY
    ·rw[if_pos h]at e
     cases e
     exact⟨i,j,l1.int,l2.int,h,w _ F H (.refl s) (Al.of (.int _))⟩
    ·rw[if_neg h]at e;cases e
  |_=>cases e
 |_=>cases e
def eh:D->D->Option D
 |.int i,.int j=>if 0<j then some (.int (i%j))else if j≠0 then some (.int (i.fmod j))else none
 |_,_=>none
theorem xw:lI K ct n m k (rI (λ_ j=>j≠0) λi j=>.int (i.fmod j)) eh:=by
 intro F H x y d1 d2 d Q s l1 l2 e w
 cases d1 with
 |int i=>
  cases d2 with
  |int j=>
   unfold eh at e
   dsimp only at e
   by_cases h:0<j
   ·rw[if_pos h]at e
    cases e
    refine⟨i,j,l1.int,l2.int,by omega,?_⟩
    show Q (.int (i.fmod j)) H
    rw[Int.fmod_eq_emod_of_nonneg i (by omega)]
    exact w _ F H (.refl s) (Al.of (.int _))
   ·rw[if_neg h]at e
    by_cases h:j≠0
    ·rw[if_pos h]at e
     cases e
     exact⟨i,j,l1.int,l2.int,h,w _ F H (.refl s) (Al.of (.int _))⟩
    ·rw[if_neg h]at e;cases e
  |_=>cases e
 |_=>cases e
def mq (i j:Int):Prop:=0<=j/\j<=1000000/\i.natAbs<18446744073709551616
instance (i j:Int):Decidable (mq i j):=by unfold mq;infer_instance
def pC:D->D->Option D:=qT mq λi j=>.int (i ^ j.toNat)
theorem KC:lI K ct n m k (rI sk λi j=>.int (i ^ j.toNat)) pC:=GG (λ_ _ h=>⟨h.1,h.2.1,by have:=h.2.2;omega⟩) λ_ _ _=>.int _
def tH:D->D->Option D:=qT mq λi j=>.int (i*2 ^ j.toNat)
theorem Ya:lI K ct n m k (rI sk λi j=>.int (i*2 ^ j.toNat)) tH:=GG (λ_ _ h=>⟨h.1,h.2.1,by have:=h.2.2;omega⟩) λ_ _ _=>.int _
def pD:D->D->Option D:=qT (λ_ j=>0<=j) λi j=>.int (i/2 ^ j.toNat)
theorem OM:lI K ct n m k (rI (λ_ j=>0<=j) λi j=>.int (i/2 ^ j.toNat)) pD:=GG (λ_ _ h=>h) λ_ _ _=>.int _
def pW:D->D->Option D:=i2 λi j=>.bl (decide (i<j))
def oN:D->D->Option D:=i2 λi j=>.bl (decide (j<i))
def t4:D->D->Option D:=i2 λi j=>.bl (decide (j<=i))
theorem uO:lI K ct n m k (nM λi j=>.bl (decide (i<j))) pW:=GJ λ_ _ _=>.bl _
theorem tP:lI K ct n m k (nM λi j=>.bl (decide (j<i))) oN:=GJ λ_ _ _=>.bl _
theorem GH:lI K ct n m k (nM λi j=>.bl (decide (j<=i))) t4:=GJ λ_ _ _=>.bl _
def xY:R2:=λx y H Q=>∃i j,x=.str i/\y=.str j/\Q (.bl (!(decide (j.cps.toList<i.cps.toList)))) H
theorem Z8 {X:Cx}:fL X (cB .LtE) xY:=by
 intro ah s σ H x y v u Q I rx ry h
 obtain⟨i,j,rfl,rfl,q⟩:=h
 obtain⟨t,rfl⟩:=rx
 obtain⟨t',rfl⟩:=ry
 exact PySem.P.le_str ⟨.bl _,H,I,rfl,q⟩
def sZ:D->D->Option D
 |.int i,.int j=>some (.bl (decide (i<=j)))
 |.str i,.str j=>some (.bl (!(decide (j.cps.toList<i.cps.toList))))
 |_,_=>none
theorem yN:lI K ct n m k (λx y H Q=>nM (λi j=>.bl (decide (i<=j))) x y H Q\/xY x y H Q) sZ:=by
 intro F H x y d1 d2 d Q s l1 l2 e w
 cases d1 with
 |int i=>
  cases d2 with
  |int j=>cases e;exact .inl ⟨i,j,l1.int,l2.int,w _ F H (.refl s) (Al.of (.bl _))⟩
  |_=>cases e
 |str i=>
  cases d2 with
  |str j=>cases e;exact .inr ⟨i,j,l1.str,l2.str,w _ F H (.refl s) (Al.of (.bl _))⟩
  |_=>cases e
 |_=>cases e
theorem yQ {X:Cx}:fL X (cB .LtE) (λx y H Q=>nM (λi j=>.bl (decide (i<=j))) x y H Q\/xY x y H Q):=fL.or zs0 Z8
def D.isN:D->Bool
 |.non=>true
 |_=>false
def D.isB (b:Bool):D->Bool
 |.bl c=>c==b
 |_=>false
def nL (neg:Bool):D->D->Option D
 |d,.non=>some (.bl (if neg then !d.isN else d.isN))
 |d,.bl b=>some (.bl (if neg then !d.isB b else d.isB b))
 |_,_=>none
theorem Al.ref {F G:Hp}{d:D}{v:V}(h:Al K ct F G n d v)(hs:d.sc=false):∃a,v=.ref a:=by
 cases n with
 |zero=>cases(show Dt K ct F d v from h)<;>first|cases hs;done|exact⟨_,rfl⟩
 |succ n=>rcases h with h|h<;>cases h<;>first|cases hs;done|exact⟨_,rfl⟩
theorem Al.isn {F G:Hp}{d:D}{v:V}(h:Al K ct F G n d v):decide (v=.non)=d.isN:=by
 cases hs:d.sc with
 |true=>
  have:=Al.v h hs
  subst this
  cases d<;>first|rfl|cases hs
 |false=>
  obtain⟨a,rfl⟩:=h.ref hs
  cases d<;>first|rfl|cases hs
theorem Al.isb {F G:Hp}{d:D}{v:V}{b:Bool}(h:Al K ct F G n d v):decide (v=.bl b)=d.isB b:=by
 cases hs:d.sc with
 |true=>
  have:=Al.v h hs
  subst this
  cases d<;>first|rfl|(cases hs;done)|(rename_i c;cases b<;>cases c<;>rfl)
 |false=>
  obtain⟨a,rfl⟩:=h.ref hs
  cases d<;>first|rfl|cases hs
def MC:R2:=λx y H Q=>(y=.non/\Q (.bl (decide (x=.non))) H)\/∃b,y=.bl b/\Q (.bl (decide (x=.bl b))) H
def rn:R2:=λx y H Q=>(y=.non/\Q (.bl (!decide (x=.non))) H)\/∃b,y=.bl b/\Q (.bl (!decide (x=.bl b))) H
theorem yS {X:Cx}:fL X (cB .Is) MC:=fL.or Ze Z2
theorem Xo {X:Cx}:fL X (cB .IsNot) rn:=fL.or Yk Wr
theorem yR:lI K ct n m k MC (nL false):=by
 intro F H x y d1 d2 d Q s l1 l2 e w
 cases d2 with
 |non=>
  cases e
  refine .inl ⟨l2.non,?_⟩
  rw[l1.isn]
  exact w _ F H (.refl s) (Al.of (.bl _))
 |bl b=>
  cases e
  refine .inr ⟨b,l2.bl,?_⟩
  rw[l1.isb]
  exact w _ F H (.refl s) (Al.of (.bl _))
 |_=>cases e
theorem Ww:lI K ct n m k rn (nL true):=by
 intro F H x y d1 d2 d Q s l1 l2 e w
 cases d2 with
 |non=>
  cases e
  refine .inl ⟨l2.non,?_⟩
  rw[l1.isn]
  exact w _ F H (.refl s) (Al.of (.bl _))
 |bl b=>
  cases e
  refine .inr ⟨b,l2.bl,?_⟩
  rw[l1.isb]
  exact w _ F H (.refl s) (Al.of (.bl _))
 |_=>cases e
mutual
def D.py:D->Option bH
 |.non=>some .none
 |.bl b=>some (.bool b)
 |.int i=>some (.int i)
 |.str x=>some (.str x)
 |.lst xs=>(D.pys xs).bind λys=>some (.list ys)
 |.tup xs=>(D.pys xs).bind λys=>some (.tuple ys)
 |_=>none
def D.pys:List D->Option (List bH)
 |[]=>some []
 |d::ds=>(D.py d).bind λx=>(D.pys ds).bind λxs=>some (x::xs)
end
theorem Dt.toPy {F H:Hp}(s:bG F H){d:D}{v:V}{e:bH}(h:Dt K ct F d v)(q:d.py=some e):L2.Dt K H v e:=by
 refine Dt.rec (motive_1:=λd v _=>∀e,d.py=some e->L2.Dt K H v e) (motive_2:=λds vs _=>∀es,D.pys ds=some es->L2.Dts K H vs es) ?_ ?_ ?_ ?_ ?_ ?_ ?_ ?_ ?_ ?_ ?_ ?_ ?_ h e q
 ·intro e h;rw[D.py]at h;cases h;exact .non
 ·intro b e h;rw[D.py]at h;cases h;exact .bl b
 ·intro b e h;rw[D.py]at h;cases h;exact .int b
 ·intro b e h;rw[D.py]at h;cases h;exact .str b
 ·intro _ _ _ q _ t e h
  rw[D.py]at h
  obtain⟨ys,h1,h2⟩:=aO h
  cases h2
  exact .lst (s.seq q) (t _ h1)
 ·intro _ _ _ q _ t e h
  rw[D.py]at h
  obtain⟨ys,h1,h2⟩:=aO h
  cases h2
  exact .tup (jP.of (s _ _ q)) (t _ h1)
 ·intro _ _ _ _ _ _ _ _ e h;simp only[D.py]at h;cases h
 ·intro _ _ _ _ _ _ _ _ e h;simp only[D.py]at h;cases h
 ·intro _ _ _ _ _ _ _ _ _ _ e h;simp only[D.py]at h;cases h
 ·intro _ _ _ _ e h;simp only[D.py]at h;cases h
 ·intro _ _ _ _ _ _ _ _ _ _ _ _ e h;simp only[D.py]at h;cases h
 ·intro e h;rw[D.pys]at h;cases h;exact .nil
 ·intro _ _ _ _ _ _ p t e h
  rw[D.pys]at h
  obtain⟨y,ys,h1,h2,h3⟩:=cW h
  cases h3
  exact .cons (p _ h1) (t _ h2)
theorem Pr.toPy {H:Hp}{R:D->V->Prop}(f:∀d v e,R d v->d.py=some e->L2.Dt K H v e){ds:List D}{vs:List V}{es:List bH}(h:Pr R ds vs)(e:D.pys ds=some es):L2.Dts K H vs es:=by
 induction h generalizing es with
 |nil=>rw[D.pys]at e;cases e;exact .nil
 |cons h t ih=>
  rw[D.pys]at e
  obtain⟨y,ys,h1,h2,h3⟩:=cW e
  cases h3
  exact .cons (f _ _ _ h h1) (ih h2)
theorem Al.toPy {F H:Hp}(s:bG F H){n:Nat}{d:D}{v:V}{e:bH}(h:Al K ct F H n d v)(q:d.py=some e):L2.Dt K H v e:=by
 induction n generalizing d v e with
 |zero=>exact Dt.toPy s h q
 |succ n ih=>
  cases h with
  |inl h=>exact Dt.toPy s h q
  |inr h=>
   cases h with
   |lst h t=>
    rw[D.py]at q
    obtain⟨ys,h1,h2⟩:=aO q
    cases h2
    exact .lst (dC.of h) (Pr.toPy (λ_ _ _=>ih) t h1)
   |tup h t=>
    rw[D.py]at q
    obtain⟨ys,h1,h2⟩:=aO q
    cases h2
    exact .tup (jP.of (s _ _ h)) (Pr.toPy (λ_ _ _=>ih) t h1)
   |_=>simp only[D.py]at q;cases q
def mN (a:bH):Bool:=a.canLay0&&decide (a.depth<=60)
def fV (neg:Bool)(x y:D):Option D:=x.py.bind λa=>y.py.bind λb=>if mN a=true/\mN b=true then some (.bl (if neg then !bH.eqv a b else bH.eqv a b))else none
theorem wl {neg:Bool}:lI K ct n m k (xW K neg) (fV neg):=by
 intro F H x y d1 d2 d Q s l1 l2 e w
 obtain⟨a,b,h1,h2,h3⟩:=cW e
 by_cases h:mN a=true/\mN b=true
 ·rw[if_pos h]at h3
  cases h3
  have o1:=h.1
  have o2:=h.2
  unfold mN at o1 o2
  rw[bt,decide_eq_true_iff]at o1 o2
  exact⟨a,b,Al.toPy s l1 h1,Al.toPy s l2 h2,o1.1,o2.1,cu (Nat.min_le_left _ _) o1.2,w _ F H (.refl s) (Al.of (.bl _))⟩
 ·rw[if_neg h]at h3;cases h3
end
end L3
namespace L3
open PySem PySem.Spec L2
open PyProof.Rows hiding St
section
variable {K:aa}{ct:Nat->af}{n m k:Nat}{X:Cx}
theorem Pr.atI {R:D->V->Prop}{ds:List D}{vs:List V}{i:Int}{d:D}(h:Pr R ds vs)(e:atI ds i=some d):∃v,atI vs i=some v/\R d v:=by
 unfold L2.atI at e ⊢
 rw[←h.length]
 obtain⟨j,h1,h2⟩:=aO e
 obtain⟨v,h3,h4⟩:=h.get' h2
 exact⟨v,by rw[h1];exact h3,h4⟩
def sX:D->Option eo
 |.int i=>some (.inl i)
 |.str x=>some (.inr x)
 |_=>none
def ml:List D->Option (List eo)
 |[]=>some []
 |d::ds=>(sX d).bind λk=>(ml ds).bind λks=>some (k::ks)
def iN {κ:Type}[DecidableEq κ](ks:List κ)(ds:List D)(k:κ):Option D:=((ks.zip ds).find? λp=>decide (p.1=k)).map (·.2)
def RO (R:D->V->Prop):Option D->Option V->Prop
 |some d,some u=>R d u
 |none,none=>True
 |_,_=>False
theorem RO.some_of {R:D->V->Prop}{d:D}{q:Option V}(h:RO R (some d) q):∃u,q=some u/\R d u:=by
 cases q with
 |none=>exact h.elim
 |some u=>exact⟨u,rfl,h⟩
theorem RO.none_of {R:D->V->Prop}{q:Option V}(h:RO R none q):q=none:=by
 cases q with
 |none=>rfl
 |some u=>exact h.elim
theorem Kr {κ:Type}[DecidableEq κ]{R:D->V->Prop}{k:κ}:∀{ks:List κ} {ds:List D} {vs:List V},Pr R ds vs->RO R (iN ks ds k) (gH (ks.zip vs) k)
 |[],_,_,_=>by simp[iN,gH,RO]
 |_::_,_,_,.nil=>by simp[iN,gH,RO]
 |y::ks,d::ds,v::vs,.cons h t=>by
  by_cases e:y=k
  ·have h1:iN (y::ks) (d::ds) k=some d:=by simp[iN,cM,e]
   have h2:gH ((y::ks).zip (v::vs)) k=some v:=by simp[gH,cM,e]
   rw[h1,h2]
   exact h
  ·have h1:iN (y::ks) (d::ds) k=iN ks ds k:=by simp[iN,cM,e]
   have h2:gH ((y::ks).zip (v::vs)) k=gH (ks.zip vs) k:=by simp[gH,cM,e]
   rw[h1,h2]
   exact Kr t
theorem KJ {F G:Hp}{d:D}{v:V}{k:eo}(e:sX d=some k)(h:Al K ct F G n d v):v=kV k:=by
 cases d with
 |int i=>cases e;exact h.int
 |str i=>cases e;exact h.str
 |_=>cases e
theorem OC {F G:Hp}{ds:List D}{vs:List V}{ks:List eo}(e:ml ds=some ks)(h:Pr (Al K ct F G n) ds vs):vs=ks.map kV:=by
 induction h generalizing ks with
 |nil=>cases e;rfl
 |cons h t ih=>
  unfold ml at e
  obtain⟨k,ks,h1,h2,h3⟩:=cW e
  cases h3
  rw[KJ h1 h,ih h2];rfl
def lg (o y:D):Option (Option D):=match o with
 |.dK ks ds=>(sX y).bind λk=>some (iN ks ds k)
 |.dT ks ds=>(match y with|.tup ys=>(ml ys).bind λk=>some (iN ks ds k)|_=>none)
 |_=>none
theorem OD {F G:Hp}{o y:D}{x v:V}(s:bG F G)(l1:Al K ct F G n o x)(l2:Al K ct F G m y v){r:Option D}(e:lg o y=some r) :
  ∃a q,x=.ref a/\kY G a v q/\EX G a/\RO (Al K ct F G (n-1)) r q:=by
 cases o with
 |dK ks ds=>
  obtain⟨a,vs,rfl,ha,hl,hp⟩:=l1.dK s
  obtain⟨k,h1,h2⟩:=aO e
  cases h2
  have hv:=KJ h1 l2
  subst hv
  exact⟨a,_,rfl,kY.k ha,.inl ⟨_,.inl ha⟩,Kr hp⟩
 |dT ks ds=>
  obtain⟨a,vs,rfl,ha,hl,hp⟩:=l1.dT s
  cases y with
  |tup ys=>
   obtain⟨k,h1,h2⟩:=aO e
   cases h2
   obtain⟨b,us,rfl,hb,IW⟩:=l2.tup s
   have hv:=OC h1 IW
   subst hv
   exact⟨a,_,rfl,kY.t ha hb,.inr ⟨_,.inl ha⟩,Kr hp⟩
  |_=>cases e
 |_=>cases e
def di:D->D->Option D
 |.lst ds,.int i=>atI ds i
 |.tup ds,.int i=>atI ds i
 |.str x,.int i=>if x.length<=16777216 then(atI x.cps.toList i).bind λc=>some (.str ⟨#[c]⟩)else none
 |_,_=>none
theorem vq:lI K ct n m (n-1) (JB K) di:=by
 intro F H x y d1 d2 d Q s l1 l2 e w
 cases d1 with
 |lst ds=>
  cases d2 with
  |int i=>
   obtain⟨a,vs,rfl,ha,hp⟩:=l1.lst s
   obtain⟨v,h1,h2⟩:=hp.atI e
   exact .inl ⟨a,vs,i,v,rfl,l2.int,ha,h1,w v F H (.refl s) h2⟩
  |_=>cases e
 |tup ds=>
  cases d2 with
  |int i=>
   obtain⟨a,vs,rfl,ha,hp⟩:=l1.tup s
   obtain⟨v,h1,h2⟩:=hp.atI e
   exact .inr (.inl ⟨a,vs,i,v,rfl,l2.int,jP.of ha,h1,w v F H (.refl s) h2⟩)
  |_=>cases e
 |str z=>
  cases d2 with
  |int i=>
   unfold di at e
   dsimp only at e
   by_cases h:z.length<=16777216
   ·rw[if_pos h]at e
    obtain⟨c,h1,h2⟩:=aO e
    cases h2
    exact .inr (.inr ⟨z,i,c,l1.str,l2.int,by rw[cI];exact h,h1,w _ F H (.refl s) (Al.of (.str _))⟩)
   ·rw[if_neg h]at e;cases e
  |_=>cases e
 |_=>cases e
theorem OE {ms:List Mo}{o e:Expr}{f g:EF}{cL cU:cx}(hu:X.A.units+1<iD)(ho:XE X ct ms n o f)(he:XE X ct ms m e g)(h1:M1 X o "get" cL e cU):XE X ct ms (n-1) (.Call (.Attribute o "get" cL) [e] [] cU) (λρ=>(f ρ).bind λx=>(g ρ).bind λy=>(lg x y).bind λr=>some (r.getD .non)):=by
 obtain⟨ta,pa,qa⟩:=ho
 obtain⟨tb,pb,qb⟩:=he
 refine⟨_,WS hu pa pb h1,λF0 B F H ρ σ d Q rs e w=>?_⟩
 obtain⟨d1,d2,e1,e2,e3⟩:=cW e
 obtain⟨r,e4,e5⟩:=aO e3
 cases e5
 refine qa F0 B F H ρ σ d1 _ rs e1 λx F1 H1 x1 l1=>?_
 have:∃a,x=.ref a/\EX H1 a:=by
  cases d1 with
  |dK ks ds=>obtain⟨a,vs,rfl,ha,_⟩:=l1.dK x1.fh;exact⟨a,rfl,.inl ⟨_,.inl ha⟩⟩
  |dT ks ds=>obtain⟨a,vs,rfl,ha,_⟩:=l1.dT x1.fh;exact⟨a,rfl,.inr ⟨_,.inl ha⟩⟩
  |_=>cases e4
 obtain⟨a,rfl,R1⟩:=this
 refine⟨a,rfl,R1,qb F0 B F1 H1 ρ σ d2 _ (rs.ext x1) e2 λy F2 H2 x2 l2=>?_⟩
 obtain⟨a',o,ea,gg,_,h⟩:=OD (r:=r) x2.fh (l1.mono x2.ff x2.hh) l2 e4
 cases ea
 refine⟨o,gg,?_⟩
 cases r with
 |none=>rw[h.none_of];exact w _ F2 H2 (x1.trans x2) (Al.of .non)
 |some d=>obtain⟨u,rfl,zE⟩:=h.some_of;exact w _ F2 H2 (x1.trans x2) zE
def rV:D->D->Bool
 |.non,.non=>true
 |.bl a,.bl b=>a==b
 |.bl a,.int b=>(if a then 1 else 0)==b
 |.int a,.bl b=>a==(if b then 1 else 0)
 |.int a,.int b=>a==b
 |.str a,.str b=>a==b
 |_,_=>false
theorem Ps {x y:D}(hx:x.sc=true)(hy:y.sc=true):pS x.v y.v=rV x y:=by
 cases x<;>first|cases hx;done|(cases y<;>first|cases hy;done|rfl)
def L5 (x:D)(ds:List D):Bool:=ds.any λy=>rV y x
theorem zs7 {x:D}(hx:x.sc=true):∀{ds:List D},ds.all D.sc=true->L6 x.v (ds.map D.v)=L5 x ds
 |[],_=>rfl
 |d::ds,h=>by
  rw[cQ,bt]at h
  have ih:=zs7 hx h.2
  unfold L6 L5 at ih ⊢
  rw[bi,fE,fE,ih,Ps h.1 hx]
theorem Oi:∀{ds:List D},ds.all D.sc=true->(ds.map D.v).all iY=true
 |[],_=>rfl
 |d::ds,h=>by
  rw[cQ,bt]at h
  rw[bi,cQ,D.flat h.1,Oi h.2];rfl
def dH:List D->Option D
 |[.lst ds]=>some (.int ds.length)
 |[.tup ds]=>some (.int ds.length)
 |[.dK ks _]=>some (.int ks.length)
 |[.str x]=>if x.length<=16777216 then some (.int x.length)else none
 |_=>none
def Eh (K:aa):List V->Hp->VK->Prop:=λxs H Q=>(∃p ys,xs=[.ref p]/\(dC K H p ys\/jP K H p ys)/\Q (.int ys.length) H)\/(∃z,xs=[.str z]/\z.length<=sizeLine/\Q (.int z.length) H)\/∃a ck,xs=[V.ref a]/\H a=some (.dK ck)/\Q (.int ck.length) H
theorem Wg:eE X (.builtin "len") (Eh X.K):=Vp.or (Vq.or Wq)
theorem Yb:tV K ct [n] k (Eh K) dH:=by
 intro F H vs ds d Q s l e w
 cases l with
 |cons h t=>
  cases t
  rename_i d1 v
  cases d1 with
  |lst xs=>
   cases e
   obtain⟨a,us,rfl,ha,hp⟩:=h.lst s
   refine .inl ⟨a,us,rfl,.inl ha,?_⟩
   rw[←hp.length]
   exact w _ F H (.refl s) (Al.of (.int _))
  |tup xs=>
   cases e
   obtain⟨a,us,rfl,ha,hp⟩:=h.tup s
   refine .inl ⟨a,us,rfl,.inr (jP.of ha),?_⟩
   rw[←hp.length]
   exact w _ F H (.refl s) (Al.of (.int _))
  |str x=>
   unfold dH at e
   dsimp only at e
   by_cases hz:x.length<=16777216
   ·rw[if_pos hz]at e
    cases e
    exact .inr (.inl ⟨x,by rw[h.str],by rw[cI];exact hz,w _ F H (.refl s) (Al.of (.int _))⟩)
   ·rw[if_neg hz]at e;cases e
  |dK ks xs=>
   cases e
   obtain⟨a,us,rfl,ha,hl,hp⟩:=h.dK s
   refine .inr (.inr ⟨a,_,rfl,ha,?_⟩)
   rw[fP,←hl,ku]
   exact w _ F H (.refl s) (Al.of (.int _))
  |_=>cases e
end
end L3
namespace L3
open PySem PySem.Spec L2
open PyProof.Rows hiding St
section
variable {ct:Nat->af}{K:aa}
theorem zs8 {ι:Type}{Xs:ι->Cx}{ms:List Mo}{n:Nat}{e:Expr}{f:EF}(hK:∀i,(Xs i).K=K)(h:∀i,XO (Xs i) ct ms n e f):∃t,(∀i,PE (Xs i) e t)/\∀(F0 B F H:Hp) (ρ:Env) (σ:St) (d:D) (Q:VK),RS K ct F0 B ms F H ρ σ->f ρ=some d ->
  (∀v F' H' fp,eR F H F' H'->Ow K ct F' H' n d v fp->fp.Nodup->(∀a∈fp,H a=none)->Q v H')->t σ H Q:=by
 refine⟨λσ H Q=>∀i,(h i).choose σ H Q,λi ah s σ H Q I q=>(h i).choose_spec.1 ah s σ H Q I (q i),λF0 B F H ρ σ d Q rs e w i=>?_⟩
 exact(h i).choose_spec.2 F0 B F H ρ σ d Q (by rw[hK i];exact rs) e λv F' H' fp x l=>w v F' H' fp x (by rw[←hK i];exact l)
def uZ (X:Cx)(ct:Nat->af)(ms:List Mo)(ifs:List Expr)(f:BF):Prop:=∃t,tW X ifs t/\∀(F0 B F H:Hp) (ρ:Env) (σ:St) (b:Bool) (Q:Bool->Hp->Prop),RS X.K ct F0 B ms F H ρ σ->f ρ=some b->(∀F' H',eR F H F' H'->Q b H')->t σ H Q
def dR:BF:=λ_=>some true
theorem wo {X:Cx}{ms:List Mo}:uZ X ct ms [] dR:=⟨_,YB,λF0 B F H ρ σ b Q rs e w=>by cases e;exact w F H (.refl rs.fh)⟩
theorem EN {X:Cx}{ms:List Mo}{c:Expr}{p:BF}(h:XT X ct ms c p):uZ X ct ms [c] p:=by
 obtain⟨t,pt,qt⟩:=h
 exact⟨t,YC pt,qt⟩
theorem zs9 {ι:Type}{Xs:ι->Cx}{ms:List Mo}{ifs:List Expr}{f:BF}(hK:∀i,(Xs i).K=K)(h:∀i,uZ (Xs i) ct ms ifs f):∃t,(∀i,tW (Xs i) ifs t)/\∀(F0 B F H:Hp) (ρ:Env) (σ:St) (b:Bool) (Q:Bool->Hp->Prop),RS K ct F0 B ms F H ρ σ->f ρ=some b ->
  (∀F' H',eR F H F' H'->Q b H')->t σ H Q:=by
 refine⟨λσ H Q=>∀i,(h i).choose σ H Q,λi ah s σ H Q I q=>(h i).choose_spec.1 ah s σ H Q I (q i),λF0 B F H ρ σ d Q rs e w i=>?_⟩
 exact(h i).choose_spec.2 F0 B F H ρ σ d Q (by rw[hK i];exact rs) e w
def uD {α:Type}(g:α->St->Hp->(St->Hp->Prop)->Prop):Prop:=∀v σ H Q Q',(∀σ' H',Q σ' H'->Q' σ' H')->g v σ H Q->g v σ H Q'
def sq (X:Cx)(ct:Nat->af)(ms:List Mo)(own n:Nat)(tg:Expr)(g:D->Env->Option Env):Prop:=∃t,PG X tg t/\e9 own t/\uD t/\∀(F0 B F H:Hp) (ρ ρ':Env) (σ:St) (d:D) (v:V) (Q:St->Hp->Prop),RS X.K ct F0 B ms F H ρ σ->Al X.K ct F B n d v->g d ρ=some ρ' ->
 (∀σ',RS X.K ct F0 B ms F H ρ' σ'->Q σ' H)->t v σ H Q
theorem zta {ι:Type}{Xs:ι->Cx}{ms:List Mo}{own n:Nat}{tg:Expr}{g:D->Env->Option Env}(hK:∀i,(Xs i).K=K)(h:∀i,sq (Xs i) ct ms own n tg g):∃t,(∀i,PG (Xs i) tg t)/\e9 own t/\∀(F0 B F H:Hp) (ρ ρ':Env) (σ:St) (d:D) (v:V) (Q:St->Hp->Prop),RS K ct F0 B ms F H ρ σ->Al K ct F B n d v->g d ρ=some ρ' ->
  (∀σ',RS K ct F0 B ms F H ρ' σ'->Q σ' H)->t v σ H Q:=by
 refine⟨λv σ H Q=>∀i,(h i).choose v σ H Q,λi ah s σ H v u Q I r q=>(h i).choose_spec.1 ah s σ H v u Q I r (q i),λv σ H Q q i=>(h i).choose_spec.2.1 v σ H Q (q i),λF0 B F H ρ ρ' σ d v Q rs l e w i=>?_⟩
 exact(h i).choose_spec.2.2.2 F0 B F H ρ ρ' σ d v Q (by rw[hK i];exact rs) (by rw[hK i];exact l) e λσ' r=>w σ' (by rw[←hK i];exact r)
theorem Xp {X:Cx}{ms:List Mo}{own i:Nat}{x:aL}{pos:cx}(ho:i<own)(hm:ms[i]?=some (.ow 0))(hN:X.N.Nodup)(hi:X.N[i]?=some x)(hx:Loc X.env.scope x)
  (hf:X.fn x=true\/X.env.scope.names.lookup x=some .local:=by first|exact .inl rfl|exact .inr rfl|assumption):sq X ct ms own 0 (.Name x pos) (gV i):=by
 refine⟨_,Gj hN hi hx hf,V3 i own ho,λv σ H Q Q' m q=>m _ _ q,λF0 B F H ρ ρ' σ d v Q rs l e w=>?_⟩
 cases e
 exact w _ (rs.set hm (.refl rs.fh) (Ow.zero l) bL λa z=>(by cases z))
def xM (own:Nat)(g:tX):Prop:=∀v σ H Q,g v σ H Q->g v σ H λσ' H'=>Q σ' H'/\σ'.length = σ.length/\∀i,own<=i->σ'[i]? = σ[i]?
def sr (X:Cx)(ct:Nat->af)(ms:List Mo)(own n:Nat)(jS:List Expr)(g:List D->Env->Option Env):Prop:=∃t,yU X jS t/\xM own t/\uD t/\(∀ds ρ ρ',g ds ρ=some ρ'->ds.length=jS.length)/\∀(F0 B F H:Hp) (ρ ρ':Env) (σ:St) (ds:List D) (vs:List V) (Q:St->Hp->Prop),RS X.K ct F0 B ms F H ρ σ->Pr (Al X.K ct F B n) ds vs->g ds ρ=some ρ' ->
 (∀σ',RS X.K ct F0 B ms F H ρ' σ'->Q σ' H)->t vs σ H Q
theorem Gf {X:Cx}{ms:List Mo}{own n:Nat}:sr X ct ms own n [] gsNil:=by
 refine⟨_,OA,λv σ H Q q=>⟨q.1,q.2,rfl,λ_ _=>rfl⟩,λv σ H Q Q' m q=>⟨q.1,m _ _ q.2⟩,λds ρ ρ' e=>?_,λF0 B F H ρ ρ' σ ds vs Q rs l e w=>?_⟩
 ·cases ds with
  |nil=>rfl
  |cons d ds=>cases e
 ·cases l with
  |nil=>cases e;exact⟨rfl,w σ rs⟩
  |cons _ _=>cases e
theorem u6 {X:Cx}{ms:List Mo}{own n:Nat}{tg:Expr}{jS:List Expr}{gg:D->Env->Option Env}{gs:List D->Env->Option Env}(h1:sq X ct ms own n tg gg)(h2:sr X ct ms own n jS gs)
  (hs:(cD (tg::jS) X.env).map (·.2)=gm tg X.env::(cD jS X.env).map (·.2):=by rfl):sr X ct ms own n (tg::jS) (gsCons gg gs):=by
 obtain⟨t,pt,kt,mt,qt⟩:=h1
 obtain⟨t2,oi,R4,Mi,tf,oj⟩:=h2
 refine⟨_,NZ pt oi hs,λvs σ H Q q=>?_,λvs σ H Q Q' m q=>?_,λds ρ ρ' e=>?_,λF0 B F H ρ ρ' σ ds vs Q rs l e w=>?_⟩
 ·obtain⟨v,r,e,q⟩:=q
  refine⟨v,r,e,mt _ _ _ _ _ (λσ' H' z=>?_) (kt v σ H _ q)⟩
  obtain⟨z1,z2,z3⟩:=z
  refine Mi _ _ _ _ _ (λσ2 H2 y=>?_) (R4 r σ' H' Q z1)
  exact⟨y.1,y.2.1.trans z2,λi hi=>(y.2.2 i hi).trans (z3 i hi)⟩
 ·obtain⟨v,r,e,q⟩:=q
  exact⟨v,r,e,mt _ _ _ _ _ (λσ' H' z=>Mi _ _ _ _ _ m z) q⟩
 ·cases ds with
  |nil=>cases e
  |cons d ds=>
   obtain⟨ρ1,h3,h4⟩:=aO e
   rw[aM,aM,tf _ _ _ h4]
 ·cases l with
  |nil=>cases e
  |cons h t'=>
   obtain⟨ρ1,h3,h4⟩:=aO e
   exact⟨_,_,rfl,qt F0 B F H ρ ρ1 σ _ _ _ rs h h3 λσ1 r1=>oj F0 B F H ρ1 ρ' σ1 _ _ _ r1 t' h4 w⟩
theorem Gp {X:Cx}{ms:List Mo}{own n:Nat}{jS:List Expr}{j:Nat}{pos:cx}{gs:List D->Env->Option Env}(hc:X.calm=true)(h:sr X ct ms own (n-1) jS gs)(hl:(cD jS X.env).length=jS.length:=by rfl)(lm:(cD jS X.env).findIdx? (·.1)=none:=by rfl):sq X ct ms own n (.Tuple jS j pos) (gT gs):=by
 obtain⟨t,pt,kt,mt,lt,qt⟩:=h
 refine⟨_,Pa (n:=jS.length) hc pt hl lm,λv σ H Q q=>?_,λv σ H Q Q' m q=>?_,λF0 B F H ρ ρ' σ d v Q rs l e w=>?_⟩
 ·obtain⟨a,xs,e,h1,h2,q⟩:=q
  exact⟨a,xs,e,h1,h2,kt _ _ _ _ q⟩
 ·obtain⟨a,xs,e,h1,h2,q⟩:=q
  exact⟨a,xs,e,h1,h2,mt _ _ _ _ _ m q⟩
 cases d with
 |tup ds=>
  have:∃a vs,v=.ref a/\jP X.K H a vs/\Pr (Al X.K ct F B (n-1)) ds vs:=by
   cases n with
   |zero=>
    have l:Dt X.K ct F (.tup ds) v:=l
    cases l with
    |tup q t=>exact⟨_,_,rfl,jP.of (rs.fh _ _ q),t.pr⟩
   |succ n=>
    rcases l with l|l
    ·cases l with
     |tup q t=>exact⟨_,_,rfl,jP.of (rs.fh _ _ q),t.pr.mono λ_ _=>Al.of⟩
    ·cases l with
     |tup q t=>exact⟨_,_,rfl,jP.of (rs.fh _ _ q),t⟩
  obtain⟨a,vs,rfl,ha,hp⟩:=this
  exact⟨a,vs,rfl,ha,hp.length.symm.trans (lt _ _ _ e),qt F0 B F H ρ ρ' σ ds vs Q rs hp e w⟩
 |_=>cases e
def dS (ρ:Env)(cap:List Nat):Env:=cap.map λi=>(ρ[i]?).join
def fY (ms:List Mo)(cap:List Nat):List Mo:=cap.map λi=>.al (((ms[i]?).map Mo.lv).getD 0)
def lY (g:D->Env->Option Env)(p:BF)(f:EF)(ρ0:Env):List D->Option (List D)
 |[]=>some []
 |d::ds=>(g d ρ0).bind λρ1=>(p ρ1).bind λb=>if b=true then(f ρ1).bind λy=>(lY g p f ρ0 ds).bind λys=>some (y::ys)else lY g p f ρ0 ds
def cX (fi:Env->Option (List D))(own:Nat)(cap:List Nat)(g:D->Env->Option Env)(p:BF)(f:EF):EF:=λρ=>(fi ρ).bind λds=>if ds.length<=16777216 then(lY g p f (aI own none++dS ρ cap) ds).bind λys=>some (.lst ys)else none
theorem SL.caps {F B H:Hp}{ms:List Mo}{ρ:Env}{σ:St}(rs:RS K ct F0 B ms F H ρ σ):∀{cap:List Nat},(∀i∈cap,i<ms.length)->SL K ct F H H (fY ms cap) (dS ρ cap) (e7 σ cap) []
 |[],_=>.nil
 |i::cap,h=>by
  have ih:=SL.caps rs (cap:=cap) λj hj=>h j (ao _ hj)
  have hi:i<ms.length:=h i ai
  have hm:ms[i]?=some ms[i]:=by simp[hi]
  show SL K ct F H H (.al (((ms[i]?).map Mo.lv).getD 0)::fY ms cap) ((ρ[i]?).join::dS ρ cap) ((σ[i]?).join::e7 σ cap) []
  cases e:(ρ[i]?).join with
  |none=>exact .no ih
  |some d=>
   obtain⟨v,hv,l⟩:=rs.get hm (yr e)
   rw[hv,hm]
   exact .al l ih
theorem SL.nones {F B H:Hp}{ms Jv:List Mo}{ρ:Env}{σ:St}{fp:List af}(t:SL K ct F B H ms ρ σ fp):∀{om:List Mo},SL K ct F B H (om++ms) (aI om.length none ++ ρ) (aI om.length none ++ σ) fp
 |[]=>t
 |m::om=>.no (SL.nones (Jv:=Jv) t)
theorem Oj {X:Cx}{ms om:List Mo}{n k:Nat}{iI iter tg:Expr}{ifs:List Expr}{scope:eY}{pos:cx}{N:List aL}{own:Nat}{cap:List Nat}{fi:Env->Option (List D)}{gg:D->Env->Option Env}{p:BF}{f:EF}
  (B:jN X scope N own cap) (hc:X.calm=true) (ho:om.length=own) (e8:∀i∈cap,i<ms.length) (hi:rS X ct ms n tg iter fi)
  (hg:∀cl C fp s₀ H₀,sq (gK X scope cl N C fp s₀ H₀) ct (om++fY ms cap) own n tg gg) (ht:∀cl C fp s₀ H₀,uZ (gK X scope cl N C fp s₀ H₀) ct (om++fY ms cap) ifs p) (he:∀cl C fp s₀ H₀,XO (gK X scope cl N C fp s₀ H₀) ct (om++fY ms cap) k iI f)
  :
  ∃wi g tt te,PI X tg iter wi/\e9 own g/\(∀cl C fp s₀ H₀,PG (gK X scope cl N C fp s₀ H₀) tg g)/\(∀cl C fp s₀ H₀,tW (gK X scope cl N C fp s₀ H₀) ifs tt)/\(∀cl C fp s₀ H₀,PE (gK X scope cl N C fp s₀ H₀) iI te) /\
   ∀(F0 B F H:Hp) (ρ:Env) (σ:St) (d:D) (Q:VK),RS X.K ct F0 B ms F H ρ σ->cX fi own cap gg p f ρ=some d->(∀v F' H' fp,eR F H F' H'->Ow X.K ct F' H' (k+1) d v fp->fp.Nodup->(∀a∈fp,H a=none)->Q v H')->oT wi own cap g tt te σ H Q:=by
 obtain⟨wi,pi,qi⟩:=hi
 obtain⟨MJ,pg,kg,qg⟩:=zta (K:=X.K) (Xs:=λz:List (aL×af)×af×List af×aj×Hp=>gK X scope z.1 N z.2.1 z.2.2.1 z.2.2.2.1 z.2.2.2.2) (λ_=>rfl) (λz=>hg z.1 z.2.1 z.2.2.1 z.2.2.2.1 z.2.2.2.2)
 obtain⟨tt,pt,qt⟩:=zs9 (K:=X.K) (Xs:=λz:List (aL×af)×af×List af×aj×Hp=>gK X scope z.1 N z.2.1 z.2.2.1 z.2.2.2.1 z.2.2.2.2) (λ_=>rfl) (λz=>ht z.1 z.2.1 z.2.2.1 z.2.2.2.1 z.2.2.2.2)
 obtain⟨te,pe,qe⟩:=zs8 (K:=X.K) (Xs:=λz:List (aL×af)×af×List af×aj×Hp=>gK X scope z.1 N z.2.1 z.2.2.1 z.2.2.2.1 z.2.2.2.2) (λ_=>rfl) (λz=>he z.1 z.2.1 z.2.2.1 z.2.2.2.1 z.2.2.2.2)
 refine⟨wi,MJ,tt,te,pi,kg,(λcl C fp s₀ H₀=>pg (cl,C,fp,s₀,H₀)),(λcl C fp s₀ H₀=>pt (cl,C,fp,s₀,H₀)),(λcl C fp s₀ H₀=>pe (cl,C,fp,s₀,H₀)),λF0 B F H ρ σ r Q rs e w=>?_⟩
 obtain⟨ds,h1,h2⟩:=aO e
 by_cases hz:ds.length<=16777216
 case neg=>rw[if_neg hz]at h2;cases h2
 rw[if_pos hz]at h2
 obtain⟨ys,h3,h4⟩:=aO h2
 cases h4
 refine qi F0 B F H ρ σ ds _ rs h1 λJ F1 H1 x1 ok A hA=>?_
 have kQ:=rs.ext x1
 refine⟨λi m us H2=>m=ds.length-i/\i<=ds.length/\us.length<=i/\H2 A=some (.lst us)/\∃F2 yd zd fp,eR F1 H1 F2 H2/\F2 A=none/\dU (Ow X.K ct F2 H2 k) yd us fp/\fp.Nodup/\(∀a∈fp,H1 a=none/\a≠A)/\lY gg p f (aI own none++dS ρ cap) (ds.drop i)=some zd/\yd++zd=ys,
  ⟨ds.length,rfl,dP _,aE _,yb,F1,[],ys,[],eR.newO x1.fh hA _,x1.fh.free hA,.nil,bL,λa z=>(by cases z),h3,rfl⟩,?_⟩
 rintro i m us H2 ⟨rfl,RA,RT,Fk,F2,yd,zd,fp,x2,fA,ol,nd,hf,ie,Fx⟩
 refine⟨Fk,?_⟩
 have yA:=kQ.ext x2
 obtain⟨k1,k2⟩:=ok i F2 H2 x2.ff x2.hh x2.fh
 by_cases mY:i<ds.length
 ·right
  have hd:ds[i]?=some ds[i]:=by simp[mY]
  obtain⟨go,yl⟩:=k1 _ hd
  rw[lU mY]at ie
  obtain⟨ρ1,h5,h6⟩:=aO ie
  obtain⟨b,h7,h8⟩:=aO h6
  refine⟨go,by rw[cI];omega,λx H3 y=>?_⟩
  obtain⟨F3,x3,l⟩:=yl x H3 y
  have TC:=yA.ext x3
  have sl:=SL.nones (Jv:=[]) (SL.caps TC e8) (om:=om)
  rw[ho]at sl
  have TD:RS X.K ct F3 H3 (om++fY ms cap) F3 H3 (aI own none++dS ρ cap) (aI own none++e7 σ cap):=⟨.refl _,.refl _,x3.fh,λ_ _ _ h=>h,[],sl,bL,λa z=>(by cases z)⟩
  have A3:H3 A=some (.lst us):=x3.hh _ _ Fk
  have Lw:F3 A=none:=x3.nf A _ Fk fA
  refine qg F3 H3 F3 H3 _ ρ1 _ _ x _ TD (l.mono (.refl _) (x2.trans x3).hh) h5 λσ1 r1=>?_
  refine qt F3 H3 F3 H3 ρ1 σ1 b _ r1 h7 λF4 H4 x4=>?_
  cases b with
  |false=>
   rw[if_neg aN]at h8 ⊢
   have MQ:=x3.trans x4
   refine⟨ds.length-(i+1),by omega,rfl,mY,by omega,x4.hh _ _ A3,F4,yd,zd,fp,x2.trans MQ,x4.nf A _ A3 Lw,ol.mono λ_ _ _ _ o=>o.ext MQ,nd,hf,h8,Fx⟩
  |true=>
   rw[if_pos rfl]at h8 ⊢
   obtain⟨yv,h9,Q4⟩:=aO h8
   obtain⟨zs,Q5,Q6⟩:=aO Q4
   cases Q6
   refine qe F3 H3 F4 H4 ρ1 σ1 yv _ (r1.ext x4) h9 λv F5 H5 f5 x5 o5 n5 IG=>?_
   have JZ:=(x3.trans x4).trans x5
   have MR:=x4.trans x5
   have A5:H5 A=some (.lst us):=MR.hh _ _ A3
   have Lx:F5 A=none:=MR.nf A _ A3 Lw
   have A4:H4 A=some (.lst us):=x4.hh _ _ A3
   have LC:∀a∈f5,a≠A:=λa z e=>by rw[e]at z;rw[IG A z]at A4;cases A4
   refine⟨A5,ds.length-(i+1),by omega,rfl,mY,by rw[bw,ip];omega,yb,F5,yd++[yv],zs,fp++(f5++[]),?_,Lx,?_,?_,?_,Q5,by rw[eS];exact Fx⟩
   ·have FR:=x2.trans JZ
    refine⟨FR.ff,λa o h=>?_,λa o h=>?_,FR.nf⟩
    ·rw[zx (xb h hA)];exact FR.hh _ _ h
    ·rw[zx (λz=>by rw[z]at h;rw[Lx]at h;cases h)];exact FR.fh _ _ h
   ·refine(ol.mono λ_ _ f Rw o=>?_).append (.cons ?_ .nil)
    ·refine(o.ext JZ).frame (.refl _) λa z=>⟨zx (hf a (Rw a z)).2,((o.ext JZ).cells a z).1⟩
    ·exact o5.frame (.refl _) λa z=>⟨zx (LC a z),(o5.cells a z).1⟩
   ·rw[bT]
    refine bv.mpr ⟨nd,n5,λa z c hc e=>?_⟩
    subst e
    have:∃o,H2 a=some o:=(dU.cellsOf ol a z).2
    obtain⟨o,ho⟩:=this
    have:=x4.hh _ _ (x3.hh _ _ ho)
    rw[IG a hc]at this
    cases this
   ·intro a z
    rw[bT]at z
    rcases bz.mp z with z|z
    ·exact hf a z
    ·refine⟨?_,LC a z⟩
     have UL:=x2.trans (x3.trans x4)
     exact UL.hh.free (IG a z)
 ·left
  refine⟨k2 (by omega),?_⟩
  have:ds.drop i=[]:=m7 (by omega)
  rw[this]at ie
  cases ie
  rw[bT]at Fx
  subst Fx
  refine w _ F2 H2 (A::fp) (x1.trans x2) (.inr (.lst fA Fk ol)) (bU.mpr ⟨λz=>(hf A z).2 rfl,nd⟩) λa z=>?_
  rcases aC.mp z with rfl|z
  ·exact x1.hh.free hA
  ·exact x1.hh.free (hf a z).1
theorem Yc {X:Cx}{ms om:List Mo}{n k:Nat}{iI iter tg:Expr}{ifs:List Expr}{scope:eY}{pos:cx}{N:List aL}{own:Nat}{cap:List Nat}{fi:Env->Option (List D)}{gg:D->Env->Option Env}{p:BF}{f:EF}
  (B:jN X scope N own cap) (hc:X.calm=true) (ho:om.length=own) (e8:∀i∈cap,i<ms.length) (hi:rS X ct ms n tg iter fi)
  (hg:∀cl C fp s₀ H₀,sq (gK X scope cl N C fp s₀ H₀) ct (om++fY ms cap) own n tg gg) (ht:∀cl C fp s₀ H₀,uZ (gK X scope cl N C fp s₀ H₀) ct (om++fY ms cap) ifs p) (he:∀cl C fp s₀ H₀,XO (gK X scope cl N C fp s₀ H₀) ct (om++fY ms cap) k iI f)
  (hs:∀x,dm iter X.env x=pure x:=by intro _;rfl):XO X ct ms (k+1) (.ListComp iI [⟨tg,iter,ifs,0⟩] scope pos) (cX fi own cap gg p f):=by
 obtain⟨wi,g,tt,te,pi,kg,pg,pt,pe,q⟩:=Oj (k:=k) (pos:=pos) B hc ho e8 hi hg ht he
 exact⟨_,X6 B hc pi kg pg pt pe hs,q⟩
end
end L3
namespace L3
open PySem PySem.Spec L2
open PyProof.Rows hiding St
section
variable {X:Cx}{ct:Nat->af}{ms:List Mo}{rk n m k:Nat}{st:bP}{rest:List bP}{a b c e tg:Expr}{f g h:EF}{p q:BF}{u w:SF}{pos:cx}
def Fa:D->Option (List D)
 |.lst ds=>some ds
 |_=>none
theorem Ks {d:D}{ds:List D}(h:Fa d=some ds):d=.lst ds:=by cases d<;>simp[Fa]at h;subst h;rfl
def lsD (f:EF):Env->Option (List D):=λρ=>(f ρ).bind Fa
theorem Pm {K:aa}{F B G:Hp}{a:af}{vs:List V}{ds:List D}(hp:Pr (Al K ct F B n) ds vs)(keep:∀F' H',bG F F'->bG B H'->bG F' H'->dC K H' a vs):nv K ct F B n (GY K a) ds:=by
 intro i F' H' s1 s2 s3
 have hs:dC K H' a vs:=keep F' H' s1 s2 s3
 refine⟨λd hd=>?_,λhl=>⟨vs,hs,by rw[←hp.length];exact hl⟩⟩
 obtain⟨v,hv,l⟩:=hp.get' hd
 refine⟨⟨vs,v,hs,hv⟩,λx H2 y=>?_⟩
 obtain⟨e,y⟩:=y
 subst e
 have:=y vs hs
 rw[hv]at this
 cases this
 exact⟨F',.refl s3,l.mono s1 (.refl _)⟩
theorem Dt.lst_inv {K:aa}{F:Hp}{ds:List D}{v:V}(h:Dt K ct F (.lst ds) v):∃a vs,v=.ref a/\dC K F a vs/\Dts K ct F ds vs:=by
 cases h with
 |lst q t=>exact⟨_,_,rfl,q,t⟩
theorem uN (he:XE X ct ms 0 e f):XI X ct ms 0 tg e (lsD f):=by
 obtain⟨t,pt,qt⟩:=he
 refine⟨_,OB pt,λF0 B F H ρ σ ds R rs e w=>?_⟩
 obtain⟨d,h1,h2⟩:=aO e
 rw[Ks h2]at h1
 refine qt F0 B F H ρ σ _ _ rs h1 λv F' H' x l=>?_
 obtain⟨a,vs,rfl,ha,hp⟩:=Dt.lst_inv l
 exact⟨a,rfl,⟨vs,x.fh.seq ha⟩,w _ F' H' x (Pm (G:=H') (n:=0) (hp.pr) λF2 H2 s1 s2 s3=>s3.seq (s1.seq ha))⟩
theorem vx (he:XE X ct ms n e f):rS X ct ms (n-1) tg e (lsD f):=by
 obtain⟨t,pt,qt⟩:=he
 refine⟨_,OB pt,λF0 B F H ρ σ ds R rs e w=>?_⟩
 obtain⟨d,h1,h2⟩:=aO e
 rw[Ks h2]at h1
 refine qt F0 B F H ρ σ _ _ rs h1 λv F' H' x l=>?_
 obtain⟨a,vs,rfl,ha,hp⟩:=l.lst x.fh
 exact⟨a,rfl,⟨vs,ha⟩,w _ F' H' x (Pm (G:=H') hp λF2 H2 s1 s2 s3=>s2.seq ha)⟩
theorem XI.cc {fi:Env->Option (List D)}(h:XI X ct ms n tg e fi):rS X ct ms n tg e fi:=by
 obtain⟨t,pt,qt⟩:=h
 refine⟨t,pt,λF0 B F H ρ σ ds R rs e w=>qt F0 B F H ρ σ ds R rs e λJ F' H' x ok=>w J F' H' x λi F2 H2 s1 s2 s3=>?_⟩
 obtain⟨k1,k2⟩:=ok i F2 H2 s1 ((rs.ext x).bh.trans s2) s3
 refine⟨λd hd=>?_,k2⟩
 obtain⟨go,yl⟩:=k1 d hd
 refine⟨go,λv H3 y=>?_⟩
 obtain⟨F3,x3,l⟩:=yl v H3 y
 exact⟨F3,x3,l.mono (.refl _) (rs.ext x).bh⟩
theorem SL.getA {K:aa}{F B H:Hp}{ms:List Mo}{ρ:Env}{σ:St}{fp:List af}{i:Nat}{d:D}(h0:SL K ct F B H ms ρ σ fp):ms[i]?=some (.al n)->ρ[i]?=some (some d)->∃v,σ[i]?=some (some v)/\Al K ct F B n d v:=by
 induction h0 generalizing i with
 |nil=>
  intro e _
  simp at e
 |@no m0 o0 ms ρ σ fp t ih=>
  intro e e'
  cases i with
  |zero=>
   have e:=e'
   simp at e
  |succ i=>
   simpa using ih (i:=i) (by simpa using e) (by simpa using e')
 |@al n0 d0 v0 ms ρ σ fp h t ih=>
  intro e e'
  cases i with
  |zero=>
   simp at e e';subst e;subst e';exact⟨_,rfl,h⟩
  |succ i=>
   simpa using ih (i:=i) (by simpa using e) (by simpa using e')
 |@px d0 v0 ms ρ σ fp h t ih=>
  intro e e'
  cases i with
  |zero=>
   simp at e
  |succ i=>
   simpa using ih (i:=i) (by simpa using e) (by simpa using e')
 |@so d0 x0 ms ρ σ Ia h t ih=>
  intro e e'
  cases i with
  |zero=>
   simp at e
  |succ i=>
   simpa using ih (i:=i) (by simpa using e) (by simpa using e')
 |@ow n0 d0 v0 ms ρ σ f0 Ia h t ih=>
  intro e e'
  cases i with
  |zero=>
   simp at e
  |succ i=>
   simpa using ih (i:=i) (by simpa using e) (by simpa using e')
def eQ (lo:Int)(j:Nat):List D:=(ak j).map λ(t:Nat)=>.int (lo+(t:Int))
def gA:List D->Option (List D)
 |[.int j]=>if -4611686018427387904<=j/\j<4611686018427387904 then some (eQ 0 j.toNat)else none
 |_=>none
def iO:List D->Option (List D)
 |[.int i,.int j]=>if -4611686018427387904<=i/\i<4611686018427387904/\-4611686018427387904<=j/\j<4611686018427387904 then some (eQ i (j-i).toNat)else none
 |_=>none
theorem Pn {K:aa}{F B:Hp}{lo:Int}{j:Nat}:nv K ct F B n (zY lo j) (eQ lo j):=by
 intro i F' H' s1 s2 s3
 unfold eQ
 refine⟨λd hd=>?_,λhl=>(show j<=i by simpa using hl)⟩
 rw[bI]at hd
 by_cases h:i<j
 ·rw[dL h]at hd
  cases hd
  refine⟨h,λx H2 y=>?_⟩
  obtain⟨e,y⟩:=y
  subst e
  subst y
  exact⟨F',.refl s3,Al.of (.int _)⟩
 ·rw[List.getElem?_eq_none (by simpa using h)]at hd
  cases hd
theorem wy {fs:Env->Option (List D)}{pp:cx}(hm:X.mg "range"=none)(ha:XA X ct ms [a] [m] fs)(hg:Gl X "range":=by rfl)(hs:aq [a] X.env=[(false,bq a X.env)]:=by rfl):XI X ct ms n tg (.Call (.Name "range" pp) [a] [] pos) (λρ=>(fs ρ).bind gA):=by
 obtain⟨t,pt,_,qt⟩:=ha
 refine⟨_,VP hg hm pt hs,λF0 B F H ρ σ ds R rs e w=>?_⟩
 obtain⟨jI,h1,h2⟩:=aO e
 refine qt F0 B F H ρ σ _ _ rs h1 λvs F' H' x l=>?_
 cases l with
 |cons h t=>
  cases t
  rename_i d v
  cases d with
  |int j=>
   unfold gA at h2
   dsimp only at h2
   by_cases hj:-4611686018427387904<=j/\j<4611686018427387904
   ·rw[if_pos hj]at h2
    cases h2
    exact⟨j,by rw[h.int],by omega,by omega,w _ F' H' x Pn⟩
   ·rw[if_neg hj]at h2;cases h2
  |_=>cases h2
theorem je {fs:Env->Option (List D)}{pp:cx}{m':Nat}(hm:X.mg "range"=none)(ha:XA X ct ms [a,b] [m,m'] fs)(hg:Gl X "range":=by rfl)(hs:aq [a,b] X.env=[(false,bq a X.env),(false,bq b X.env)]:=by rfl)(jJ:aq [b] X.env=[(false,bq b X.env)]:=by rfl):XI X ct ms n tg (.Call (.Name "range" pp) [a,b] [] pos) (λρ=>(fs ρ).bind iO):=by
 obtain⟨t,pt,_,qt⟩:=ha
 refine⟨_,VQ hg hm pt hs jJ,λF0 B F H ρ σ ds R rs e w=>?_⟩
 obtain⟨jI,h1,h2⟩:=aO e
 refine qt F0 B F H ρ σ _ _ rs h1 λvs F' H' x l=>?_
 cases l with
 |cons h t=>
  cases t with
  |cons h' t=>
   cases t
   rename_i d v d' v'
   cases d with
   |int i=>
    cases d' with
    |int j=>
     unfold iO at h2
     dsimp only at h2
     by_cases hj:-4611686018427387904<=i/\i<4611686018427387904/\-4611686018427387904<=j/\j<4611686018427387904
     ·rw[if_pos hj]at h2
      cases h2
      exact⟨i,j,by rw[h.int,h'.int],⟨by omega,by omega,by omega,by omega⟩,w _ F' H' x Pn⟩
     ·rw[if_neg hj]at h2;cases h2
    |_=>cases h2
   |_=>cases h2
def eX (i:Nat):List D->List D
 |[]=>[]
 |d::ds=>.tup [.int i,d]::eX (i+1) ds
theorem Ke:∀{ds:List D} {j i:Nat} {d:D},(eX j ds)[i]?=some d->∃x,ds[i]?=some x/\d=.tup [.int (j+i:Nat),x]
 |[],_,_,_,h=>by simp[eX]at h
 |x::ds,j,0,d,h=>by simp[eX]at h;subst h;exact⟨x,rfl,rfl⟩
 |x::ds,j,i+1,d,h=>by
  obtain⟨y,h1,h2⟩:=Ke (ds:=ds) (j:=j+1) (i:=i) (d:=d) (by simpa[eX]using h)
  exact⟨y,by simpa using h1,by rw[h2,Nat.add_assoc,Nat.add_comm 1 i]⟩
theorem NO:∀{ds:List D} {j:Nat},(eX j ds).length=ds.length
 |[],_=>rfl
 |_::ds,j=>by simp[eX,NO (ds:=ds)]
theorem Po {K:aa}{F B:Hp}{a:af}{vs:List V}{ds:List D}(hp:Pr (Al K ct F B n) ds vs)(keep:∀F' H',bG F F'->bG B H'->bG F' H'->dC K H' a vs):nv K ct F B (n+1) (GX K a) (eX 0 ds):=by
 intro i F' H' s1 s2 s3
 have hs:dC K H' a vs:=keep F' H' s1 s2 s3
 refine⟨λd hd=>?_,λhl=>⟨vs,hs,by rw[←hp.length];rw[NO]at hl;exact hl⟩⟩
 obtain⟨x,hx,rfl⟩:=Ke hd
 obtain⟨v,hv,l⟩:=hp.get' hx
 refine⟨⟨vs,v,hs,hv⟩,λz H2 y=>?_⟩
 obtain⟨r,y',hr,rfl,rfl,y⟩:=y
 have:=y vs hs
 rw[hv]at this
 cases this
 refine⟨_,eR.newS s3 hr _,.inr (.tup yb (.cons (Al.of ?_) (.cons (l.mono (s1.trans (uz (s3.free hr) _)) (.refl _)) .nil)))⟩
 rw[Nat.zero_add]
 exact .int _
theorem Yd {fs:Env->Option (List D)}{gU:List Expr}{kt:Nat}{pt pp:cx}(hm:X.mg "enumerate"=none)(ha:XA X ct ms [a] [0] fs)(hg:Gl X "enumerate":=by rfl)(hs:aq [a] X.env=[(false,bq a X.env)]:=by rfl) :
  XI X ct ms 1 (.Tuple gU kt pt) (.Call (.Name "enumerate" pp) [a] [] pos) (λρ=>(fs ρ).bind λds=>match ds with|[.lst xs]=>some (eX 0 xs)|_=>none):=by
 obtain⟨t,pt,_,qt⟩:=ha
 refine⟨_,OK hg hm pt hs,λF0 B F H ρ σ ds R rs e w=>?_⟩
 obtain⟨jI,h1,h2⟩:=aO e
 refine qt F0 B F H ρ σ _ _ rs h1 λvs F' H' x l=>?_
 cases l with
 |cons h t=>
  cases t
  rename_i d v
  cases d with
  |lst xs=>
   cases h2
   obtain⟨a,vs,rfl,ha,hp⟩:=Dt.lst_inv h
   exact⟨a,rfl,⟨vs,x.fh.seq ha⟩,w _ F' H' x (Po (n:=0) hp.pr λF2 H2 s1 s2 s3=>s3.seq (s1.seq ha))⟩
  |_=>cases h2
theorem Xq {fs:Env->Option (List D)}{gU:List Expr}{kt:Nat}{pt pp:cx}(hm:X.mg "enumerate"=none)(ha:XA X ct ms [a] [n] fs)(hg:Gl X "enumerate":=by rfl)(hs:aq [a] X.env=[(false,bq a X.env)]:=by rfl) :
  rS X ct ms (n-1+1) (.Tuple gU kt pt) (.Call (.Name "enumerate" pp) [a] [] pos) (λρ=>(fs ρ).bind λds=>match ds with|[.lst xs]=>some (eX 0 xs)|_=>none):=by
 obtain⟨t,pt,_,qt⟩:=ha
 refine⟨_,OK hg hm pt hs,λF0 B F H ρ σ ds R rs e w=>?_⟩
 obtain⟨jI,h1,h2⟩:=aO e
 refine qt F0 B F H ρ σ _ _ rs h1 λvs F' H' x l=>?_
 cases l with
 |cons h t=>
  cases t
  rename_i d v
  cases d with
  |lst xs=>
   cases h2
   obtain⟨a,vs,rfl,ha,hp⟩:=h.lst x.fh
   exact⟨a,rfl,⟨vs,ha⟩,w _ F' H' x (Po hp λF2 H2 s1 s2 s3=>s2.seq ha)⟩
  |_=>cases h2
end
end L3
namespace L3
open PySem PySem.Spec L2
open PyProof.Rows hiding St
section
variable {X:Cx}{ct:Nat->af}{ms:List Mo}{rk n m k:Nat}{st:bP}{rest:List bP}{a b c e tg:Expr}{f g h:EF}{p q:BF}{u w:SF}{pos:cx}
theorem Ow.lst_inv {K:aa}{F H:Hp}{ds:List D}{v:V}{fp:List af}(h:Ow K ct F H (k+1) (.lst ds) v fp):∃a vs fr,v=.ref a/\fp=a::fr/\F a=none/\H a=some (.lst vs)/\dU (Ow K ct F H k) ds vs fr:=by
 rcases h with⟨h,_⟩|h
 ·cases h
 ·cases h with
  |lst h1 h2 h3=>exact⟨_,_,_,rfl,rfl,h1,h2,h3⟩
theorem Ow.dK_inv {K:aa}{F H:Hp}{ks:List eo}{ds:List D}{v:V}{fp:List af}(h:Ow K ct F H (k+1) (.dK ks ds) v fp):∃a vs fr,v=.ref a/\fp=a::fr/\F a=none/\H a=some (.dK (ks.zip vs))/\ks.length=vs.length/\dU (Ow K ct F H k) ds vs fr:=by
 rcases h with⟨h,_⟩|h
 ·cases h
 ·cases h with
  |dK h1 h2 h3 h4=>exact⟨_,_,_,rfl,rfl,h1,h2,h3,h4⟩
theorem Ow.dT_inv {K:aa}{F H:Hp}{ks:List (List eo)}{ds:List D}{v:V}{fp:List af}(h:Ow K ct F H (k+1) (.dT ks ds) v fp):∃a vs fr,v=.ref a/\fp=a::fr/\F a=none/\H a=some (.dT (ks.zip vs))/\ks.length=vs.length/\dU (Ow K ct F H k) ds vs fr:=by
 rcases h with⟨h,_⟩|h
 ·cases h
 ·cases h with
  |dT h1 h2 h3 h4=>exact⟨_,_,_,rfl,rfl,h1,h2,h3,h4⟩
theorem RS.change {K:aa}{F0 B F H F' H':Hp}{ρ:Env}{σ:St}{i:Nat}{d':D}{v:V}{f1 fr fn:List af}{ad:af}{o:HO}(rs:RS K ct F0 B ms F H ρ σ)(hm:ms[i]?=some (.ow k))(x:eR F H F' H')
  (hσ:σ[i]?=some (some v)) (b1:∀a∈f1,B a=none) (dj:∀a∈f1,a∉fr) (cf:∀a∈fr,F a=none/\∃o,H a=some o)
  (put:∀(F' H':Hp) (d':D) (v':V) (f':List af),bG F F'->bG B H'->bG F' H'->(∀a o,B a=some o->F0 a=none->F' a=none)->(∀a∈fr,H' a=H a/\F' a=none)->Ow K ct F' H' k d' v' f'->f'.Nodup->(∀a∈f',a∉fr)->(∀a∈f',B a=none) ->
    RS K ct F0 B ms F' H' (ρ.set i (some d')) (σ.set i (some v')))
  (wO:ad∈f1) (QS:F' ad=none) (o':Ow K ct F' (upd H' ad o) k d' v fn) (nd:fn.Nodup) (yZ:∀a∈fn,a∈f1\/H a=none):RS K ct F0 B ms F' (upd H' ad o) (ρ.set i (some d')) σ:=by
 have r:=rs.ext x
 have hB:B ad=none:=b1 ad wO
 have res:=put F' (upd H' ad o) d' v fn x.ff (λz u h=>by rw[zx (λe=>by rw[e,hB]at h;cases h)];exact r.bh _ _ h) (λz u h=>by rw[zx (λe=>by rw[e,QS]at h;cases h)];exact x.fh _ _ h) r.nf
  (λz hz=>by
   obtain⟨hn,o,ho⟩:=cf z hz
   refine⟨?_,x.nf z o ho hn⟩
   have ne:z≠ad:=λe=>dj ad wO (by rw[←e];exact hz)
   rw[zx ne]
   exact(x.hh _ _ ho).trans ho.symm) o' nd
  (λz hz zr=>by
   rcases yZ z hz with h|h
   ·exact dj z h zr
   ·obtain⟨_,o,ho⟩:=cf z zr
    rw[h]at ho
    cases ho)
  (λz hz=>(yZ z hz).elim (b1 z) λh=>rs.bh.free h)
 have e:σ.set i (some v) = σ:=by
  apply List.ext_getElem?
  intro j
  by_cases hj:i=j
  ·subst hj
   rw[hU (by
    have:=aX.mp hσ
    exact this.1),hσ]
  ·rw[el hj]
 rw[e]at res
 exact res
def sApp (i:Nat)(f:EF):SF:=λρ=>(eV i ρ).bind λo=>(f ρ).bind λd=>match o with
 |.lst ds=>if ds.length<16777216 then some (.nx (ρ.set i (some (.lst (ds++[d])))))else none
 |_=>none
theorem NP (i:Nat){x:aL}{p1 cL cU:cx}(hm:ms[i]?=some (.ow (k+1)))(he:XO X ct ms k e f)(hN:X.N[i]?=some x:=by rfl)(hv:nw X.env.scope x:=by first|exact Or.inl rfl|exact Or.inr (Or.inl rfl)|exact Or.inr (Or.inr rfl))(hd:(x==("__debug__":aL))=false:=by decide)
  (ie:(x==("__classdict__":aL))=false:=by decide) (lm:aq [e] X.env=(false,bq e X.env)::aq [] X.env:=by rfl)
  (iw:de (.Name x p1) "append" X.env (bq (.Name x p1) X.env)=bq (.Name x p1) X.env:=by rfl)
  (n6:((cj cU (aq [e] X.env)).all (λx=>!x.1)&&(cH cU (bS [] X.env)).all (λx=>x.1.isSome)
   && decide ([e].length+([]:List dQ).length+(if([]:List dQ).isEmpty then 0 else 1)<30))=true:=by rfl)
  (iy:(cL.endLine==cU.line)=true:=by rfl) (jC:(cj cU (aq [] X.env)).any (·.1)=false:=by rfl)
  (qR:dn (.Call (.Attribute (.Name x p1) "append" cL) [e] [] cU) none pos.line X.env=pure false:=by rfl) :
  XS X ct ms rk (.Expr (.Call (.Attribute (.Name x p1) "append" cL) [e] [] cU) pos) (sApp i f):=by
 obtain⟨t,pt,qt⟩:=he
 refine⟨_,EM (GO PySem.F.plainAttrs_list PySem.F.slot_list_append PySem.F.type_list_append FU (jm hN hv hd ie) (ud pt sf lm) iw n6 iy lm jC) qR,λF0 B F H ρ σ o E rs e z=>?_⟩
 obtain⟨d1,d2,h1,h2,h3⟩:=cW e
 obtain⟨f1,fr,n1,b1,dj,i4,cf,put⟩:=rs.put (F':=F) (H':=H) hm
 obtain⟨v,hσ,ow⟩:=i4 d1 (yr h1)
 refine⟨v,hσ,?_⟩
 cases d1 with
 |lst ds=>
  dsimp only at h3
  by_cases hz:ds.length<16777216
  ·rw[if_pos hz]at h3
   cases h3
   obtain⟨ad,vs,qB,rfl,rfl,hF,hH,ol⟩:=ow.lst_inv
   refine⟨.inl ⟨rfl,_,dC.of hH⟩,qt F0 B F H ρ σ d2 _ rs h2 λv2 F' H' fp x1 o2 Dw rX=>?_⟩
   have hA:H' ad=some (.lst vs):=x1.hh _ _ hH
   have fA:F' ad=none:=x1.nf ad _ hH hF
   have nA:∀a∈fp,a≠ad:=λa hz e=>by rw[e]at hz;rw[rX ad hz]at hH;cases hH
   have tq:=bU.mp n1
   refine⟨ad,vs,v2,rfl,rfl,hA,by rw[←ol.length,cI];exact hz,?_⟩
   refine z σ F' _ (rs.change hm x1 hσ b1 dj cf put ai fA (.inr (.lst fA yb ((ol.mono λ_ _ f' hi o'=>?_).append (.cons (f:=fp) ?_ .nil)))) (fn:=ad::(qB++(fp++[]))) ?_ ?_)
   ·refine(o'.ext x1).frame (.refl _) λa ha=>⟨zx λe=>tq.1 (e▸hi a ha),((o'.ext x1).cells a ha).1⟩
   ·exact o2.frame (.refl _) λa ha=>⟨zx (nA a ha),(o2.cells a ha).1⟩
   ·rw[bT]
    refine bU.mpr ⟨λhz=>?_,bv.mpr ⟨tq.2,Dw,λa ha b hb e=>?_⟩⟩
    ·rcases bz.mp hz with hz|hz
     ·exact tq.1 hz
     ·exact nA ad hz rfl
    ·subst e
     obtain⟨_,o,ho⟩:=dU.cellsOf ol a ha
     rw[rX a hb]at ho
     cases ho
   ·intro a ha
    rw[bT]at ha
    rcases aC.mp ha with rfl|ha
    ·exact .inl ai
    ·rcases bz.mp ha with ha|ha
     ·exact .inl (ao _ ha)
     ·exact .inr (rX a ha)
  ·rw[if_neg hz]at h3;cases h3
 |_=>cases h3
def lB (ds:List D)(i:Int)(d:D):Option (List D):=(ixN ds.length i).bind λj=>some (ds.set j d)
def fz {κ:Type}[DecidableEq κ](ks:List κ)(ds:List D)(k:κ)(d:D):List κ×List D:=if ks.contains k=true then(ks,(ks.zip ds).map λp=>if p.1=k then d else p.2)else(ks++[k],ds++[d])
theorem dU.set0 {R:D->V->List af->Prop}{d:D}{v:V}(r:R d v [])(z:∀d v f,R d v f->f=[]):∀{ds:List D} {vs:List V} {fp:List af} (i:Nat),dU R ds vs fp->dU R (ds.set i d) (vs.set i v) []
 |_,_,_,_,.nil=>.nil
 |_,_,_,0,.cons h t=>by
  have:=dU.cons (f:=[]) (g:=[]) r (dU.ofPr (t.pr λd v f _ q=>by have:=z _ _ _ q;subst this;exact q))
  exact this
 |_,_,_,i+1,.cons h t=>by
  have e:=z _ _ _ h
  subst e
  exact dU.cons (f:=[]) (g:=[]) h (dU.set0 r z i t)
theorem Ow.nil0 {K:aa}{F H:Hp}{d:D}{v:V}{fp:List af}(h:Ow K ct F H 0 d v fp):fp=[]:=h.2
theorem dU.nil0 {K:aa}{F H:Hp}{ds:List D}{vs:List V}{fp:List af}(h:dU (Ow K ct F H 0) ds vs fp):fp=[]:=by
 induction h with
 |nil=>rfl
 |cons h t ih=>rw[h.nil0,ih];rfl
end
end L3
namespace L3
open PySem PySem.Spec L2
open PyProof.Rows hiding St
section
variable {X:Cx}{ct:Nat->af}{ms:List Mo}{rk n m k:Nat}{st:bP}{rest:List bP}{a b c e tg:Expr}{f g h:EF}{p q:BF}{u w:SF}{pos:cx}{K:aa}
theorem Jt {ah:List (af×dq)}{σ:St}{H:Hp}{s:aj}{l:af}{xs:List V}(I:Inv X ah σ H s)(hH:Rd H l (.lst xs)):xs.length<=sizeLine/\∃(bZ:List ae) (n:Nat),bB xs bZ/\xs.length=bZ.length/\s.heap.get? l=some { cls:=.type "list",data:=.seq bZ.toArray n }:=by
  obtain⟨z,bZ,n,r,e⟩:=hH.ok I.hok
  exact⟨z,bZ,n,r,r.length,e⟩
def uG (K:aa):R2:=λx y H Q=>∃l b xs zs,x=.ref l/\y=.ref b/\dC K H l xs/\dC K H b zs/\xs.length+zs.length<=sizeLine/\∀p,H p=none->Q (.ref p) (upd H p (.lst (xs++zs)))
theorem Ye:fL X (dF .Add) (uG X.K):=by
 intro ah s σ H x y v u Q I rx ry h
 obtain⟨l,b,xs,zs,rfl,rfl,hH,hB,hz,q⟩:=h
 cases rx
 cases ry
 obtain⟨bZ,r,⟨⟨cls,dd,data,sl⟩,n,e,c1,c2,c3⟩,z⟩:=I.list hH
 obtain⟨oh,r2,⟨⟨Hl,Ff,data2,yB⟩,n2,e2,c4,c5,c6⟩,z2⟩:=I.list hB
 simp only at c1 c3 c4 c6
 subst c1 c3 c4 c6
 have hl:=r.length
 have jQ:=r2.length
 refine pM ⟨_,e,rfl⟩ ⟨_,e2,rfl⟩ noFill_list_add seq_list_add PySem.F.slot_list_add PySem.F.entry_list_add (PySem.F.args_list_add_2 _ _) (list_addW l b bZ.toArray oh.toArray n n2 dd Ff sl yB (by rw[aK,aK];omega)) ⟨e,e2,?_⟩
 have ea:bZ.toArray++oh.toArray=(bZ++oh).toArray:=by simp
 rw[ea]
 exact⟨.ref _,_,I.lnew (t':=s.toks) (r.append r2) (by rw[bw];omega),rfl,q _ I.fresh⟩
def Ec:R2:=λx y H Q=>∃i j,x=.str i/\y=.str j/\i.length+j.length<=sizeLine/\Q (.str (i++j)) H
def xU (K:aa):R2:=λx y H Q=>nM (λi j=>.int (i+j)) x y H Q\/Ec x y H Q\/uG K x y H Q\/uH K x y H Q
theorem YN:fL X (dF .Add) (xU X.K):=fL.or Zb (fL.or VU (fL.or Ye Yx))
def cz:D->D->Option D
 |.int i,.int j=>some (.int (i+j))
 |.str x,.str y=>if x.length+y.length<=16777216 then some (.str (x++y))else none
 |.lst xs,.lst ys=>if xs.length+ys.length<=16777216 then some (.lst (xs++ys))else none
 |.tup xs,.tup ys=>if xs.isEmpty=false/\ys.isEmpty=false/\xs.length+ys.length<=1000000 then some (.tup (xs++ys))else none
 |_,_=>none
theorem Pr.ow0 {F G H:Hp}{ds:List D}{vs:List V}(h:Pr (Al K ct F G 0) ds vs):dU (Ow K ct F H 0) ds vs []:=dU.ofPr (h.mono λ_ _ q=>⟨q,rfl⟩)
theorem Al.lst1 {F G:Hp}{ds:List D}{v:V}(hn:n<=1)(h:Al K ct F G n (.lst ds) v)(s:bG F G):∃a vs,v=.ref a/\dC K G a vs/\Pr (Al K ct F G 0) ds vs:=by
 obtain⟨a,vs,e,h1,h2⟩:=h.lst s
 have:n-1=0:=by omega
 rw[this]at h2
 exact⟨a,vs,e,h1,h2⟩
theorem Al.tup1 {F G:Hp}{ds:List D}{v:V}(hn:n<=1)(h:Al K ct F G n (.tup ds) v)(s:bG F G):∃a vs,v=.ref a/\G a=some (.tup vs)/\Pr (Al K ct F G 0) ds vs:=by
 obtain⟨a,vs,e,h1,h2⟩:=h.tup s
 have:n-1=0:=by omega
 rw[this]at h2
 exact⟨a,vs,e,h1,h2⟩
theorem zO {F H:Hp}{ds:List D}{vs:List V}{Q:VK}(s:bG F H)(hp:Pr (Al K ct F H 0) ds vs)(w:∀v F' H' fp,eR F H F' H'->Ow K ct F' H' 1 (.lst ds) v fp->fp.Nodup->(∀a∈fp,H a=none)->Q v H'):∀p,H p=none->Q (.ref p) (upd H p (.lst vs)):=λp h0=>by
 obtain⟨o,nd⟩:=OL s (hp.ow0 (H:=H)) h0
 exact w _ F _ [p] (eR.newO s h0 _) o (nd bL) λa z=>by rw[br]at z;subst z;exact h0
theorem YO (hn:n<=1)(hm:m<=1):Aa K ct n m 1 (xU K) cz:=by
 intro F H x y d1 d2 d Q s l1 l2 e w
 have ws:∀d v,d.sc=true->Dt K ct F d v->(∀v F' H' fp,eR F H F' H'->Ow K ct F' H' 1 d v fp->fp.Nodup->(∀a∈fp,H a=none)->Q v H')->Q v H:=λd v hs hd w=>w v F H [] (.refl s) (Ow.scal hd hs) bL λa z=>(by cases z)
 cases d1 with
 |int i=>
  cases d2 with
  |int j=>cases e;exact .inl ⟨i,j,l1.int,l2.int,ws _ _ rfl (.int _) w⟩
  |_=>cases e
 |str i=>
  cases d2 with
  |str j=>
   unfold cz at e
   dsimp only at e
   by_cases hz:i.length+j.length<=16777216
   ·rw[if_pos hz]at e
    cases e
    exact .inr (.inl ⟨i,j,l1.str,l2.str,by rw[cI];exact hz,ws _ _ rfl (.str _) w⟩)
   ·rw[if_neg hz]at e;cases e
  |_=>cases e
 |lst xs=>
  cases d2 with
  |lst ys=>
   unfold cz at e
   dsimp only at e
   by_cases hz:xs.length+ys.length<=16777216
   ·rw[if_pos hz]at e
    cases e
    obtain⟨a,vs,rfl,ha,hp⟩:=Al.lst1 hn l1 s
    obtain⟨b,us,rfl,hb,hq⟩:=Al.lst1 hm l2 s
    exact .inr (.inr (.inl ⟨a,b,vs,us,rfl,rfl,ha,hb,by rw[←hp.length,←hq.length,cI];exact hz,zO s (hp.append hq) w⟩))
   ·rw[if_neg hz]at e;cases e
  |_=>cases e
 |tup xs=>
  cases d2 with
  |tup ys=>
   unfold cz at e
   dsimp only at e
   by_cases hz:xs.isEmpty=false/\ys.isEmpty=false/\xs.length+ys.length<=1000000
   ·rw[if_pos hz]at e
    cases e
    obtain⟨a,vs,rfl,ha,hp⟩:=Al.tup1 hn l1 s
    obtain⟨b,us,rfl,hb,hq⟩:=Al.tup1 hm l2 s
    have hl:=hp.length
    have jQ:=hq.length
    have e1:vs≠[]:=λz=>by
     rw[z]at hl
     have:=mW.mp hl
     rw[this]at hz
     exact absurd hz.1 (by decide)
    have e2:us≠[]:=λz=>by
     rw[z]at jQ
     have:=mW.mp jQ
     rw[this]at hz
     exact absurd hz.2.1 (by decide)
    refine .inr (.inr (.inr ⟨a,b,vs,us,rfl,rfl,jP.of ha,jP.of hb,e1,by rw[←hl,←jQ,cI];omega,λz=>absurd z e2,λ_ p h0=>?_⟩))
    have x2:=eR.newS s h0 (.tup (vs++us))
    exact w _ _ _ [] x2 (.inr (.tup yb (dU.ofPr ((hp.append hq).mono λ_ _ q=>⟨Dt.mono x2.ff q,rfl⟩)))) bL λa z=>(by cases z)
   ·rw[if_neg hz]at e;cases e
  |_=>cases e
 |_=>cases e
def Ej:R2:=λx y H Q=>∃l k xs,x=.ref l/\y=.int k/\Rd H l (.lst xs)/\-(2 ^ 63)<=k/\k<2 ^ 63/\xs.length*k.toNat<=sizeLine /\
 ∀p,H p=none->Q (.ref p) (upd H p (.lst (aI k.toNat xs).flatten))
theorem YQ:fL X (dF .Mult) Ej:=by
 intro ah s σ H x y v u Q I rx ry h
 obtain⟨l,k,xs,rfl,rfl,hH,h1,h2,hz,q⟩:=h
 cases rx
 obtain⟨t,rfl⟩:=ry
 obtain⟨z,bZ,n,r,hl,e⟩:=Jt I hH
 have eK:bZ.toArray.size*k.toNat<=sizeLine:=by rw[aK,←hl];exact hz
 have e8:¬bZ.toArray.size*k.toNat > (2 ^ 63-1)/8:=by
  have:(sizeLine:Nat)<=(2 ^ 63-1)/8:=by decide
  omega
 have IH:¬(!dc.List.listFitsIndex k)=true:=by
  rw[fitsIndex_both h1 h2]
  exact aN
 have Cm:¬dc.List.listTooLong (bZ.toArray.size*k.toNat)=true:=by
  rw[rj eK]
  exact aN
 have IT:oX (λx1 x2=>x1++x2) #[] (aI (if bZ.toArray.isEmpty=true then 0 else k.toNat) bZ.toArray)=(aI k.toNat bZ).flatten.toArray:=by
  have f0:∀m:Nat,oX (λx1 x2=>x1++x2) #[] (aI m bZ.toArray)=(aI m bZ).flatten.toArray:=λm=>by
   have:=foldl_rep bZ m []
   rw[List.nil_append]at this
   exact this
  rw[f0]
  cases bZ with
  |nil=>simp
  |cons a r'=>rw[if_neg (by simp)]
 refine wpAny_binaryOp_repeat_ref (T:="list") (U:="int") (by decide) ⟨_,e,rfl⟩ (λs'=>tT s' k t) noFill_list_mul F.fills_int_mul F.slot_int_rmul repeat_list F.slot_int_index.lookup
  (gI F.slot_int_rmul (tT s k t) F.entry_int_rmul (F.args_int_rmul_2 _ _) (int___rmul___int_list k t l bZ.toArray n)
   ⟨e,rfl,⟨_,e,rfl⟩,gI F.slot_list_mul ⟨_,e,rfl⟩ F.entry_list_mul (F.args_list_mul_2 _ _) (AutoListH.list___mul___list_int_3 l bZ.toArray n k t IH e8 Cm) ⟨e,?_⟩⟩)
 rw[IT]
 exact⟨.ref _,_,I.lnew (t':=s.toks) (r.rep k.toNat) (by rw[Yz,Nat.mul_comm];exact hz),rfl,q _ I.fresh⟩
theorem jo:lI K ct n m k (rI lW λi j=>.int (i*j)) gz:=X9
def lx:D->D->Option D
 |.lst xs,.int j=>if -1000000<j/\j<1000000/\xs.length<=16 then some (.lst (aI j.toNat xs).flatten)else none
 |_,_=>none
theorem KL (ha:XO X ct ms 1 a f)(hb:XE X ct ms m b g):XO X ct ms 1 (.BinOp a .Mult b pos) (e2 lx f g):=by
 obtain⟨ta,pa,qa⟩:=ha
 obtain⟨tb,pb,qb⟩:=hb
 refine⟨_,KW YQ pa pb,λF0 B F H ρ σ d Q rs e w=>?_⟩
 obtain⟨d1,d2,h1,h2,h3⟩:=cW e
 refine qa F0 B F H ρ σ d1 _ rs h1 λv F1 H1 fp x1 o nd hf=>?_
 refine qb F0 B F1 H1 ρ σ d2 _ (rs.ext x1) h2 λv2 F2 H2 x2 l2=>?_
 cases d1 with
 |lst xs=>
  cases d2 with
  |int j=>
   unfold lx at h3
   dsimp only at h3
   by_cases hz:-1000000<j/\j<1000000/\xs.length<=16
   ·rw[if_pos hz]at h3
    cases h3
    obtain⟨ad,vs,fr,rfl,rfl,hF,hH,ol⟩:=(o.ext x2).lst_inv
    have hp:Pr (Al X.K ct F2 H2 0) xs vs:=ol.pr λ_ _ _ _ q=>q.1
    have tN:=x1.trans x2
    refine⟨ad,j,vs,rfl,l2.int,.inl hH,by omega,by omega,?_,zO x2.fh (hp.rep _) λv F' H' fp x o nd hf=>w v F' H' fp (tN.trans x) o nd λz hz=>tN.hh.free (hf z hz)⟩
    rw[←hp.length,cI]
    have h1:j.toNat<=1000000:=by omega
    have h2:xs.length*j.toNat<=16*1000000:=Nat.mul_le_mul hz.2.2 h1
    omega
   ·rw[if_neg hz]at h3;cases h3
  |_=>cases h3
 |_=>cases h3
def tu:D->Option D
 |.int i=>some (.int (-i))
 |_=>none
theorem O1 (ha:XE X ct ms n a f):XE X ct ms k (.UnaryOp .USub a pos) (e1 tu f):=by
 refine zs6 Zd (λF H x d1 d Q s l e w=>?_) ha
 cases d1 with
 |int i=>cases e;exact⟨i,l.int,w _ F H (.refl s) (Al.of (.int _))⟩
 |_=>cases e
theorem EK {x:aL}{d:D}{u:ae}(hg:Gl X x)(hm:X.mg x=some u)(hs:d.sc=true)(r:RelV d.v u)(hd:(x==("__debug__":aL))=false:=by decide):XE X ct ms n (.Name x pos) (eC d):=by
 refine⟨_,Oz hg hm r hd,λF0 B F H ρ σ d' Q rs e w=>?_⟩
 cases e
 refine w _ F H (.refl rs.fh) (Al.of ?_)
 cases d with
 |non=>exact .non
 |bl b=>exact .bl b
 |int b=>exact .int b
 |str b=>exact .str b
 |_=>cases hs
def iZ:List D->Option D
 |[.lst ds]=>some (.lst ds)
 |[.tup ds]=>some (.lst ds)
 |_=>none
theorem EG (hn:n<=1):uX K ct [n] 1 (λxs H Q=>∃p ys,xs=[.ref p]/\(dC K H p ys\/jP K H p ys)/\∀l,H l=none->Q (.ref l) (upd H l (.lst ys))) iZ:=by
 intro F H vs ds d Q s l e w
 cases l with
 |cons h t=>
  cases t
  rename_i d1 v
  cases d1 with
  |lst xs=>
   cases e
   obtain⟨a,us,rfl,ha,hp⟩:=Al.lst1 hn h s
   exact⟨a,us,rfl,.inl ha,zO s hp w⟩
  |tup xs=>
   cases e
   obtain⟨a,us,rfl,ha,hp⟩:=Al.tup1 hn h s
   exact⟨a,us,rfl,.inr (jP.of ha),zO s hp w⟩
  |_=>cases e
abbrev PF:=Env->Option (Option Int)
def pNo:PF:=λ_=>some none
def pInt (f:EF):PF:=λρ=>(f ρ).bind λd=>match d with
 |.int i=>some (some i)
 |_=>none
def XP (X:Cx)(ct:Nat->af)(ms:List Mo)(e:Option Expr)(f:PF):Prop:=∃t,PO X e t/\∀(F0 B F H:Hp) (ρ:Env) (σ:St) (o:Option Int) (Q:Option Int->Hp->Prop),RS X.K ct F0 B ms F H ρ σ->f ρ=some o->(∀F' H',eR F H F' H'->Q o H')->t σ H Q
theorem Pt:XP X ct ms none pNo:=⟨_,Yv,λF0 B F H ρ σ o Q rs e w=>by cases e;exact w F H (.refl rs.fh)⟩
theorem OF (h:XE X ct ms n e f):XP X ct ms (some e) (pInt f):=by
 obtain⟨t,pt,qt⟩:=h
 refine⟨_,Yw pt,λF0 B F H ρ σ o Q rs e w=>?_⟩
 obtain⟨d,h1,h2⟩:=aO e
 refine qt F0 B F H ρ σ d _ rs h1 λv F' H' x l=>?_
 cases d with
 |int i=>cases h2;exact⟨i,l.int,w F' H' x⟩
 |_=>cases h2
def cutD (xs:List D)(lo hi:Option Int):List D:=(xs.drop (HT.sIx xs.length 0 lo)).take (HT.sIx xs.length xs.length hi-HT.sIx xs.length 0 lo)
theorem YR {R:D->V->Prop}{ds:List D}{vs:List V}{lo hi:Option Int}(h:Pr R ds vs):Pr R (cutD ds lo hi) (pw vs lo hi):=by
 unfold cutD pw
 rw[h.length]
 exact(h.drop _).take _
def jE (d:D)(lo hi:Option Int):Option D:=match d with
 |.lst xs=>some (.lst (cutD xs lo hi))
 |_=>none
theorem Ol {lo hi:Option Expr}{pl ph:PF}{p1}(hn:n<=1)(he:XE X ct ms n e f)(hl:XP X ct ms lo pl)(hh:XP X ct ms hi ph):XO X ct ms 1 (.Subscript e (.Slice lo hi none p1) pos) (λρ=>(f ρ).bind λd=>(pl ρ).bind λl=>(ph ρ).bind λh=>jE d l h):=by
 obtain⟨t,pt,qt⟩:=he
 obtain⟨t1,xQ,xS⟩:=hl
 obtain⟨t2,oi,oj⟩:=hh
 refine⟨_,Xb Yy pt xQ oi,λF0 B F H ρ σ r Q rs e w=>?_⟩
 obtain⟨d,l,h1,h2,h3⟩:=cW e
 obtain⟨hh,h4,h5⟩:=aO h3
 refine qt F0 B F H ρ σ d _ rs h1 λv F1 H1 x1 l1=>?_
 refine xS F0 B F1 H1 ρ σ l _ (rs.ext x1) h2 λF2 H2 x2=>?_
 refine oj F0 B F2 H2 ρ σ hh _ ((rs.ext x1).ext x2) h4 λF3 H3 x3=>?_
 cases d with
 |lst xs=>
  cases h5
  have iR:=x2.trans x3
  obtain⟨a,vs,rfl,ha,hp⟩:=Al.lst1 hn (l1.mono iR.ff iR.hh) iR.fh
  exact⟨a,vs,rfl,ha,zO iR.fh (YR hp) λv F' H' fp x o nd hf=>w v F' H' fp ((x1.trans iR).trans x) o nd λz hz=>(x1.trans iR).hh.free (hf z hz)⟩
 |_=>cases h5
def G4:List D->Option D
 |[.int i]=>some (.int (if i<0 then -i else i))
 |_=>none
def ii (g:Int->Int->D):List D->Option D
 |[.int i,.int j]=>some (g i j)
 |_=>none
theorem Z9 {g:Int->Int->D}{gv:Int->Int->V}(hg:∀i j F,Dt K ct F (g i j) (gv i j)):tV K ct [n,m] k (λxs H Q=>∃i j,xs=[.int i,.int j]/\Q (gv i j) H) (ii g):=by
 intro F H vs ds d Q s l e w
 cases l with
 |cons h t=>
  cases t with
  |cons h' t=>
   cases t
   rename_i d1 v d2 v2
   cases d1 with
   |int i=>
    cases d2 with
    |int j=>cases e;exact⟨i,j,by rw[h.int,h'.int],w _ F H (.refl s) (Al.of (hg i j F))⟩
    |_=>cases e
   |_=>cases e
def qZ:List D->Option D:=ii λi j=>.int (if j > i then j else i)
def Du:List D->Option D:=ii λi j=>.int (if j<i then j else i)
theorem Xr:tV K ct [n,m] k (λxs H Q=>∃i j,xs=[.int i,.int j]/\Q (.int (if j > i then j else i)) H) qZ:=Z9 λ_ _ _=>.int _
def rq (i:Nat)(o:D->D->Option D)(f:EF):SF:=λρ=>(eV i ρ).bind λx=>(f ρ).bind λy=>(o x y).bind λd=>some (.nx (ρ.set i (some d)))
theorem O2 {op:iC}{i:Nat}{x:aL}{pos':cx}{gi:Int->Int->Int}(ho:yV X op (FA gi))(hm:ms[i]?=some (.ow k))(hN:X.N.Nodup)(hi:X.N[i]?=some x)(hx:Loc X.env.scope x)(he:XE X ct ms n e f)(hf:X.fn x=true\/X.env.scope.names.lookup x=some .local:=by first|exact .inl rfl|exact .inr rfl|assumption) :
  XS X ct ms rk (.AugAssign (.Name x pos') op e pos) (rq i (i2 λi j=>.int (gi i j)) f):=by
 obtain⟨t,pt,qt⟩:=he
 refine⟨_,Y9 hN hi hx pt ho hf,λF0 B F H ρ σ o E rs e z=>?_⟩
 obtain⟨d1,d2,h1,h2,h3⟩:=cW e
 obtain⟨d,h4,h5⟩:=aO h3
 cases h5
 obtain⟨v,hv,l⟩:=rs.get hm (yr h1)
 refine⟨v,hv,qt F0 B F H ρ σ d2 _ rs h2 λy F' H' x1 l2=>?_⟩
 cases d1 with
 |int i'=>
  cases d2 with
  |int j'=>
   cases h4
   exact⟨i',j',l.int,l2.int,z _ F' H' (rs.set hm x1 (Ow.scal (.int _) rfl) bL λa z=>(by cases z))⟩
  |_=>cases h4
 |_=>cases h4
def sPar (i j:Nat)(fs:Env->Option (List D)):SF:=λρ=>(fs ρ).bind λds=>match ds with
 |[x,y]=>some (.nx ((ρ.set i (some x)).set j (some y)))
 |_=>none
def sAsg (g:D->Env->Option Env)(f:EF):SF:=λρ=>(f ρ).bind λd=>(g d ρ).bind λρ'=>some (.nx ρ')
theorem zru {gg:D->Env->Option Env}(he:XE X ct ms 0 e f)(hg:XG X ct ms 0 tg gg)(hs:kI [tg] e pos.line X.env=pure false:=by rfl)(hw:kH [tg] e X.env=pure none:=by rfl)
  (h1:(cD [tg] X.env).map (·.2)=[gm tg X.env]:=by rfl):XS X ct ms rk (.Assign [tg] e pos) (sAsg gg f):=by
 obtain⟨t,pt,qt⟩:=he
 obtain⟨t2,oi,oj⟩:=hg
 refine⟨_,KI pt oi hs hw h1,λF0 B F H ρ σ o E rs e z=>?_⟩
 obtain⟨d,h1,h2⟩:=aO e
 obtain⟨ρ',h3,h4⟩:=aO h2
 cases h4
 exact qt F0 B F H ρ σ d _ rs h1 λv F' H' x l=>oj F0 B F' H' ρ ρ' σ d v _ (rs.ext x) l h3 λσ' r=>z σ' F' H' r
end
end L3
namespace L3
open PySem PySem.Spec L2
open PyProof.Rows hiding St
def gu:List Nat->List Mo->Bool
 |[],_=>true
 |n::ns,.al m::ms=>decide (n=m)&&gu ns ms
 |n::ns,.ow m::ms=>decide (n=0)&&decide (m=0)&&gu ns ms
 |_,_=>false
theorem jp:∀{pm:List Nat} {ms:List Mo},gu pm ms=true->∀(i n:Nat),pm[i]?=some n->ms[i]?=some (Mo.al n)\/(n=0/\ms[i]?=some (Mo.ow 0))
 |[],_,_,i,n,e=>by simp at e
 |x::ns,.al m::ms,h,i,n,e=>by
  simp only[gu,bt,decide_eq_true_eq]at h
  cases i with
  |zero=>simp at e;subst e;rw[h.1];exact .inl rfl
  |succ i=>simpa using jp h.2 i n (by simpa using e)
 |x::ns,.ow m::ms,h,i,n,e=>by
  simp only[gu,bt,decide_eq_true_eq]at h
  cases i with
  |zero=>simp at e;subst e;rw[h.1.1,h.1.2];exact .inr ⟨rfl,rfl⟩
  |succ i=>simpa using jp h.2 i n (by simpa using e)
 |_::_,[],h,_,_,_=>by simp[gu]at h
 |_::_,.px _::_,h,_,_,_=>by simp[gu]at h
 |_::_,.so _::_,h,_,_,_=>by simp[gu]at h
def tY (X:Cx)(scope:eY)(N:List aL)(own:Nat)(cap:List Nat):Bool :=
 decide (scope.kind=.function)&&scope.names.all (λx=>(decide (x.2≠.cell) || decide (scope.names.lookup x.1=some .cell))&&(decide (x.2≠.local) || decide (scope.names.lookup x.1=some .local))&&(decide (x.2≠.free) || (decide (X.env.kindOf x.1=some .cell) || decide (X.env.kindOf x.1=some .free)))) &&
 decide (N.length=own+cap.length)&&(ak cap.length).all λj=>match N[own+j]?,cap[j]? with
  |some x,some i=>decide (X.N[i]?=some x)&&decide (scope.names.lookup x=some .free)
  |_,_=>false
theorem uP {X:Cx}{scope:eY}{N:List aL}{own:Nat}{cap:List Nat}(h:tY X scope N own cap=true):jN X scope N own cap:=by
 unfold tY at h
 simp only[bt,decide_eq_true_eq,bp,Bool.or_eq_true]at h
 obtain⟨⟨⟨h1,h2⟩,h3⟩,h4⟩:=h
 refine⟨h1,λx hx hl=>((h2 x hx).1.1).elim (λz=>absurd hl z) id,λx hx hl=>((h2 x hx).1.2).elim (λz=>absurd hl z) id,λx hx hf=>((h2 x hx).2).elim (λz=>absurd hf z) id,h3,λj x hj=>?_⟩
 have LP:j<cap.length:=by
  have:=(aX.mp hj).1
  omega
 have q:=h4 j (aA.mpr LP)
 rw[hj]at q
 have hc:cap[j]?=some cap[j]:=by simp[LP]
 rw[hc]at q
 simp only[bt,decide_eq_true_eq]at q
 exact⟨_,hc,q.1,q.2⟩
def FP:D->Option String
 |.non=>some "NoneType"
 |.bl _=>some "bool"
 |.int _=>some "int"
 |.str _=>some "str"
 |.lst _=>some "list"
 |.tup _=>some "tuple"
 |.dK _ _=>some "dict"
 |_=>none
def MM (K:aa)(H:Hp)(v:V)(t:String):Prop:=jB K H v (.type t)\/(t = "list"/\∃a xs,v=.ref a/\dC K H a xs)
theorem Al.ty {K:aa}{ct:Nat->af}{F H:Hp}{n:Nat}{d:D}{v:V}{t:String}(s:bG F H)(h:Al K ct F H n d v)(e:FP d=some t):MM K H v t:=by
 cases d with
 |non=>cases e;rw[h.non];exact .inl .non
 |bl b=>cases e;rw[h.bl];exact .inl (.bl b)
 |int b=>cases e;rw[h.int];exact .inl (.int b)
 |str b=>cases e;rw[h.str];exact .inl (.str b)
 |lst xs=>
  cases e
  obtain⟨a,vs,rfl,ha,_⟩:=h.lst s
  exact .inr ⟨rfl,a,vs,rfl,ha⟩
 |tup xs=>
  cases e
  obtain⟨a,vs,rfl,ha,_⟩:=h.tup s
  exact .inl (.tup ha)
 |dK ks xs=>
  cases e
  obtain⟨a,vs,rfl,ha,_⟩:=h.dK s
  exact .inl (.dK ha)
 |_=>cases e
theorem Wi {X:Cx}:eE X (.builtin "isinstance") (λxs H Q=>∃x c t b,xs=[x,.ty c]/\MM X.K H x t/\bK X.K (.type t) (.type c)=some b/\Q (.bl b) H):=by
 intro ah s σ H xs us Q I r h
 obtain⟨x,c,t,b,rfl,ty,e,q⟩:=h
 rcases ty with ty|⟨rfl,a,ys,rfl,hq⟩
 ·exact WT ah s σ H _ us Q I r ⟨x,c,_,b,rfl,ty,e,q⟩
 ·obtain⟨u,w',rfl,ru,oo⟩:=vals2 r
  cases(show w'=ae.type c from oo)
  cases(show u=ae.ref a from ru)
  obtain⟨bZ,rv,⟨o,n,h1,h2,_⟩,_⟩:=I.list hq
  exact cp jF I.kIn ⟨o,h1,h2⟩ e (λz=>nomatch z) λtk=>⟨.bl b,H,I.tok tk,rfl,q⟩
def CN (t c:String):Bool:=t==c || (t == "bool" && c == "int")
theorem YS {K:aa}:∀t∈(["NoneType","bool","int","str","list","tuple","dict"]:List String),∀c∈(["bool","int","str","list","tuple","dict"]:List String),bK K (.type t) (.type c)=some (CN t c):=by
 intro t ht c hc
 simp only[aC,bN,or_false]at ht hc
 rcases ht with rfl|rfl|rfl|rfl|rfl|rfl|rfl<;>rcases hc with rfl|rfl|rfl|rfl|rfl|rfl<;>rfl
theorem YT {d:D}{t:String}(e:FP d=some t):t∈(["NoneType","bool","int","str","list","tuple","dict"]:List String):=by
 cases d<;>simp[FP]at e<;>subst e<;>decide
section
variable {X:Cx}{ct:Nat->af}{ms:List Mo}{rk n m k:Nat}{a b c e tg:Expr}{f g h:EF}{pos:cx}
def kh (c:String)(d:D):Option D:=(FP d).bind λt=>some (.bl (CN t c))
theorem uQ {c:String}{pp p2:cx}(hc:c∈(["bool","int","str","list","tuple","dict"]:List String))(hm:X.mg "isinstance"=none)(gZ:X.mg c=none)(hb:bX c=some (.type c))(he:XE X ct ms n e f)(hg:Gl X "isinstance":=by rfl)(oO:Gl X c:=by rfl)(qN:aL.ofString c≠"__name__":=by decide)(hd2:(aL.ofString c==("__debug__":aL))=false:=by decide)
  (Cu:aq [e,.Name c p2] X.env=(false,bq e X.env)::aq [.Name c p2] X.env:=by rfl) (jJ:aq [.Name c p2] X.env=(false,bq (.Name c p2) X.env)::aq [] X.env:=by rfl) (gD:(cj pos (aq [.Name c p2] X.env)).any (·.1)=false:=by rfl) :
  XE X ct ms k (.Call (.Name "isinstance" pp) [e,.Name c p2] [] pos) (e1 (kh c) f):=by
 obtain⟨t,pt,qt⟩:=he
 refine⟨_,Kj Wi hg hm MT (ud pt (ud (Yf (v:=.ty c) oO gZ hb rfl qN hd2) sf jJ) Cu) (by decide) (by decide) Cu gD,λF0 B F H ρ σ d Q rs e w=>?_⟩
 obtain⟨d1,h1,h2⟩:=aO e
 obtain⟨ty,h3,h4⟩:=aO h2
 cases h4
 exact qt F0 B F H ρ σ d1 _ rs h1 λv F' H' x l=>⟨v,c,ty,_,rfl,l.ty x.fh h3,YS _ (YT h3) _ hc,w _ F' H' x (Al.of (.bl _))⟩
end
end L3
namespace L3
open PySem PySem.Spec L2
open PyProof.Rows hiding St
def mr (K:aa):Sp:=λvs H Q _=>∃(a:af) (ns:List Int),vs=[.ref a]/\dC K H a (ns.map V.int)/\ns.length<=63/\∀H',Q (.bl true) H'
theorem Dts.ints {K:aa}{ct:Nat->af}{F:Hp}:∀ns:List Int,Dts K ct F (ns.map D.int) (ns.map V.int)
 |[]=>.nil
 |n::ns=>.cons (.int n) (Dts.ints ns)
theorem zrv {P:ba}{w:bM}{K:aa}{mg:aL->Option ae}{base:aG}{k:Nat}{f:af}{fd:aH}{ps:List aL}{ct:Nat->af}{m:List D->Option D}(Fn:cn P w K mg base eu k f fd ps (fK K ct [0] 0 m))
  (h:∀ns:List Int,ns.length<=63->m [.lst (ns.map .int)]=some (.bl true)):cn P w K mg base eu k f fd ps (mr K):=by
 have to:∀vs H Q E,mr K vs H Q E->fK K ct [0] 0 m vs H Q E:=by
  rintro vs H Q E ⟨a,ns,rfl,hS,hl,q⟩
  refine⟨H,[.lst (ns.map .int)],.bl true,.refl _,.cons (Dt.lst hS (Dts.ints ns)) .nil,h ns hl,λv F' H' fp x o nd hf=>?_⟩
  have hv:v=.bl true:=by
   have o:Dt K ct F' (.bl true) v/\fp=[]:=o
   cases o.1
   rfl
  subst hv
  exact q H'
 exact⟨λvs H Q E z=>Fn.len vs H Q E (to vs H Q E z),λA outer s H args us vs Q E hr e0 hb hv z=>Fn.run A outer s H args us vs Q E hr e0 hb hv (to vs H Q E z)⟩
theorem NQ {g:D->Env->Option Env}{b:SF}(I:List D->Env->Prop)(all:List D)(st:∀pre d post ρ,all=pre++d::post->I pre ρ->∃ρ1 ρ2,g d ρ=some ρ1/\(b ρ1=some (.nx ρ2)\/b ρ1=some (.ct ρ2))/\I (pre++[d]) ρ2):∀(ds pre:List D) (ρ:Env),all=pre++ds->I pre ρ ->
  ∃ρ',eF g b ds ρ=some (.nx ρ')/\I all ρ'
 |[],pre,ρ,e,h=>⟨ρ,rfl,by rw[e,bT];exact h⟩
 |d::ds,pre,ρ,e,h=>by
  obtain⟨ρ1,ρ2,h1,h2,h3⟩:=st pre d ds ρ e h
  obtain⟨ρ',h4,h5⟩:=NQ I all st ds (pre++[d]) ρ2 (by rw[e];simp) h3
  refine⟨ρ',?_,h5⟩
  show(g d ρ).bind _=_
  rw[h1]
  show(b ρ1).bind _=_
  rcases h2 with h2|h2<;>(rw[h2];exact h4)
theorem Gg {g:D->Env->Option Env}{b:SF}(I:List D->Env->Prop){ds:List D}{ρ:Env}(h:I [] ρ)(st:∀pre d post ρ,ds=pre++d::post->I pre ρ->∃ρ1 ρ2,g d ρ=some ρ1/\(b ρ1=some (.nx ρ2)\/b ρ1=some (.ct ρ2))/\I (pre++[d]) ρ2) :
  ∃ρ',eF g b ds ρ=some (.nx ρ')/\I ds ρ':=NQ I ds st ds [] ρ rfl h
theorem O3 {α:Type}{all pre post:List α}{d:α}(h:all=pre++d::post):all[pre.length]?=some d:=by subst h;simp
theorem Kf {α S:Type}{g:D->Env->Option Env}{b:SF}(enc:α->D)(st:S->Env)(f:S->α->S)(P:S->Prop):∀(xs:List α) (s:S),P s ->
  (∀s x,x∈xs->P s->∃ρ1,g (enc x) (st s)=some ρ1/\(b ρ1=some (.nx (st (f s x)))\/b ρ1=some (.ct (st (f s x))))/\P (f s x))->eF g b (xs.map enc) (st s)=some (.nx (st (xs.foldl f s)))/\P (xs.foldl f s)
 |[],s,hp,_=>⟨rfl,hp⟩
 |x::xs,s,hp,h=>by
  obtain⟨ρ1,h1,h2,h3⟩:=h s x ai hp
  have ih:=Kf enc st f P xs (f s x) h3 λs y hy=>h s y (ao _ hy)
  refine⟨?_,ih.2⟩
  show(g (enc x) (st s)).bind _=_
  rw[h1]
  show(b ρ1).bind _=_
  rcases h2 with h2|h2<;>(rw[h2];exact ih.1)
theorem NR {g:D->Env->Option Env}{b:SF}(I:Nat->Env->Prop)(lo:Int):∀(n k:Nat) (ρ:Env),I k ρ ->
  (∀j ρ,k<=j->j<k+n->I j ρ->∃ρ1 ρ2,g (.int (lo+(j:Int))) ρ=some ρ1/\(b ρ1=some (.nx ρ2)\/b ρ1=some (.ct ρ2))/\I (j+1) ρ2) ->
  ∃ρ',eF g b ((List.range' k n).map λ(t:Nat)=>D.int (lo+(t:Int))) ρ=some (.nx ρ')/\I (k+n) ρ'
 |0,k,ρ,h,_=>⟨ρ,rfl,h⟩
 |n+1,k,ρ,h,st=>by
  obtain⟨ρ1,ρ2,h1,h2,h3⟩:=st k ρ (aE _) (by omega) h
  obtain⟨ρ',h4,h5⟩:=NR I lo n (k+1) ρ2 h3 λj ρ hj hl hI=>st j ρ (by omega) (by omega) hI
  refine⟨ρ',?_,by rw[show k+(n+1)=k+1+n by omega];exact h5⟩
  rw[List.range'_succ,bi]
  show(g _ ρ).bind _=_
  rw[h1]
  show(b ρ1).bind _=_
  rcases h2 with h2|h2<;>(rw[h2];exact h4)
theorem Nu {g:D->Env->Option Env}{b:SF}(I:Nat->Env->Prop){lo:Int}{n:Nat}{ρ:Env}(h:I 0 ρ)
  (st:∀j ρ,j<n->I j ρ->∃ρ1 ρ2,g (.int (lo+(j:Int))) ρ=some ρ1/\(b ρ1=some (.nx ρ2)\/b ρ1=some (.ct ρ2))/\I (j+1) ρ2):∃ρ',eF g b (eQ lo n) ρ=some (.nx ρ')/\I n ρ':=by
 obtain⟨ρ',h1,h2⟩:=NR (g:=g) (b:=b) I lo n 0 ρ h λj ρ _ hj hI=>st j ρ (by omega) hI
 rw[Nat.zero_add]at h2
 exact⟨ρ',by unfold eQ;rw[List.range_eq_range'];exact h1,h2⟩
theorem Kc {c:BF}{b:SF}(I:Env->Prop)(μ:Env->Nat)(st:∀ρ,I ρ->∃t,c ρ=some t/\(t=true->∃ρ',(b ρ=some (.nx ρ')\/b ρ=some (.ct ρ'))/\I ρ'/\μ ρ' < μ ρ)) :
  ∀(n:Nat) (ρ:Env),I ρ->μ ρ<n->∃ρ',kl c b n ρ=some (.nx ρ')/\I ρ'/\c ρ'=some false
 |0,_,_,h=>absurd h (by omega)
 |n+1,ρ,hI,h=>by
  obtain⟨t,h1,h2⟩:=st ρ hI
  cases t with
  |false=>exact⟨ρ,by show(c ρ).bind _=_;rw[h1];rfl,hI,h1⟩
  |true=>
   obtain⟨ρ',h3,h4,h5⟩:=h2 rfl
   obtain⟨ρ2,h6,h7,h8⟩:=Kc I μ st n ρ' h4 (by omega)
   refine⟨ρ2,?_,h7,h8⟩
   show(c ρ).bind _=_
   rw[h1]
   show(b ρ).bind _=_
   rcases h3 with h3|h3<;>(rw[h3];exact h6)
theorem YU {n k:Nat}(h:n<2 ^ k)(hk:k<=9000):n<ni:=aV h (et (by decide) hk)
theorem OG {n:Nat}(h:n<1048576):n<ni:=YU (k:=20) h (by decide)
theorem zj9 {i j:Int}(h1:0<j)(h2:j<4611686018427387904):fZ (.int i) (.int j)=some (.int (i/j)):=by unfold fZ;simp[h1,h2]
theorem j7 {i j:Int}(h:0<j):eh (.int i) (.int j)=some (.int (i%j)):=by unfold eh;simp[h]
theorem zka {i j:Int}(h1:-18446744073709551616<j)(h2:j<18446744073709551616):gz (.int i) (.int j)=some (.int (i*j)):=by simp[gz,qT,kB,h1,h2]
theorem zds {i j:Int}(h1:-18446744073709551616<i)(h2:i<18446744073709551616):gz (.int i) (.int j)=some (.int (i*j)):=by simp[gz,qT,kB,h1,h2]
theorem zme {i j:Int}(h1:0<=j)(h2:j<=1000000)(h3:i.natAbs<18446744073709551616):pC (.int i) (.int j)=some (.int (i ^ j.toNat)):=by simp[pC,qT,mq,h1,h2,h3]
theorem zmf {i j:Int}(h1:0<=j)(h2:j<=1000000)(h3:i.natAbs<18446744073709551616):tH (.int i) (.int j)=some (.int (i*2 ^ j.toNat)):=by simp[tH,qT,mq,h1,h2,h3]
theorem zhp {i j:Int}(h1:0<=j):pD (.int i) (.int j)=some (.int (i/2 ^ j.toNat)):=by simp[pD,qT,h1]
theorem zmg (i j:Int):cz (.int i) (.int j)=some (.int (i+j)):=rfl
theorem Om {xs ys:List D}(h:xs.length+ys.length<=16777216):cz (.lst xs) (.lst ys)=some (.lst (xs++ys)):=by simp[cz,h]
theorem Xt {x y:aL}(h:x.length+y.length<=16777216):cz (.str x) (.str y)=some (.str (x++y)):=by simp[cz,h]
theorem zmi (i j:Int):gb (.int i) (.int j)=some (.int (i-j)):=rfl
theorem zph (i j:Int):pW (.int i) (.int j)=some (.bl (decide (i<j))):=rfl
theorem zpi (i j:Int):sZ (.int i) (.int j)=some (.bl (decide (i<=j))):=rfl
theorem zpj (i j:Int):oN (.int i) (.int j)=some (.bl (decide (j<i))):=rfl
theorem zpk (i j:Int):t4 (.int i) (.int j)=some (.bl (decide (j<=i))):=rfl
theorem zmj (i:Int):tu (.int i)=some (.int (-i)):=rfl
theorem jq (ds:List D):dH [.lst ds]=some (.int ds.length):=rfl
theorem zmk (ds:List D):dH [.tup ds]=some (.int ds.length):=rfl
theorem zml (i:Int):G4 [.int i]=some (.int (if i<0 then -i else i)):=rfl
theorem zkb (i j:Int):qZ [.int i,.int j]=some (.int (if j > i then j else i)):=rfl
theorem zkc (i j:Int):Du [.int i,.int j]=some (.int (if j<i then j else i)):=rfl
theorem zpl (neg:Bool)(d:D):nL neg d .non=some (.bl (if neg then !d.isN else d.isN)):=by cases d<;>rfl
theorem zrw (neg b:Bool)(d:D):nL neg d (.bl b)=some (.bl (if neg then !d.isB b else d.isB b)):=by cases d<;>rfl
theorem zrx (b:Bool):E9 (.bl b)=some b:=rfl
theorem zpm (ds:List D):Fa (.lst ds)=some ds:=rfl
theorem zao (ds:List D)(l h:Option Int):jE (.lst ds) l h=some (.lst (cutD ds l h)):=rfl
theorem EH {j:Int}(h1:-4611686018427387904<=j)(h2:j<4611686018427387904):gA [.int j]=some (eQ 0 j.toNat):=by simp[gA,h1,h2]
theorem zI {i j:Int}(h1:-4611686018427387904<=i)(h2:i<4611686018427387904)(h3:-4611686018427387904<=j)(h4:j<4611686018427387904):iO [.int i,.int j]=some (eQ i (j-i).toNat):=by simp[iO,h1,h2,h3,h4]
theorem YV {α:Type}(enc:α->D){xs:List α}{i:Int}{j:Nat}{x:α}(hi:i=(j:Int)\/i=(j:Int)-xs.length)(h:xs[j]?=some x):atI (xs.map enc) i=some (enc x):=by
 have hj:=(aX.mp h).1
 unfold L2.atI L2.ixN
 rw[bj]
 rcases hi with rfl|rfl
 ·rw[if_pos (by omega),if_pos (by omega)]
  simp[h]
 ·rw[if_neg (by omega),if_pos (by omega)]
  have:((j:Int)-(xs.length:Int)+(xs.length:Int)).toNat=j:=by omega
  simp[this,h]
theorem WD (xs:List D)(k:Nat):cutD xs none (some (k:Int))=xs.take k:=by
 unfold cutD
 rw[HT.sIx_none,HT.sIx_nat,nG,List.drop_zero]
 rcases Nat.le_total k xs.length with h|h
 ·rw[lF h]
 ·rw[rP h,hV (aE _),hV h]
theorem WE (xs:List D)(k:Nat):cutD xs (some (k:Int)) none=xs.drop k:=by
 unfold cutD
 rw[HT.sIx_none,HT.sIx_nat]
 rcases Nat.le_total k xs.length with h|h
 ·rw[lF h,hV (by rw[pY];omega)]
 ·rw[rP h,m8 (aE _),m8 h]
  simp
theorem NS {α:Type}{g:D->Env->Option Env}{p:BF}{f:EF}{ρ0:Env}(enc:α->D)(q:α->Bool)(h:α->D):∀(xs:List α),(∀x∈xs,∃ρ1,g (enc x) ρ0=some ρ1/\p ρ1=some (q x)/\(q x=true->f ρ1=some (h x)))->lY g p f ρ0 (xs.map enc)=some ((xs.filter q).map h)
 |[],_=>rfl
 |x::xs,H=>by
  obtain⟨ρ1,h1,h2,h3⟩:=H x ai
  have ih:=NS enc q h xs λy hy=>H y (ao _ hy)
  show(g (enc x) ρ0).bind _=_
  rw[h1]
  show(p ρ1).bind _=_
  rw[h2]
  cases hq:q x with
  |false=>
   rw[ce,if_neg aN,mU (by rw[hq];exact aN)]
   exact ih
  |true=>
   rw[ce,if_pos rfl,h3 hq,mV hq]
   show(lY g p f ρ0 (xs.map enc)).bind _=_
   rw[ih]
   rfl
end L3
namespace L3
open PySem PySem.Spec L2
structure gk (α:Type)[DecidableEq α] where
 enc:α->D
 py:α->bH
 dep:Nat
 is:∀x,(enc x).py=some (py x)
 lay:∀x,(py x).canLay0=true
 dp:∀x,(py x).depth<=dep
 eqv:∀x y,bH.eqv (py x) (py y)=decide (x=y)
section
variable {α β γ δ ε:Type}[DecidableEq α][DecidableEq β][DecidableEq γ][DecidableEq δ][DecidableEq ε]
theorem gk.eq (E:gk α)(h:E.dep<=60){neg:Bool}(x y:α):fV neg (E.enc x) (E.enc y)=some (.bl (if neg then !decide (x=y)else decide (x=y))):=by
 have h1:mN (E.py x)=true:=by unfold mN;rw[E.lay x,decide_eq_true (cu (E.dp x) h)];rfl
 have h2:mN (E.py y)=true:=by unfold mN;rw[E.lay y,decide_eq_true (cu (E.dp y) h)];rfl
 unfold fV
 rw[E.is x,E.is y]
 simp only[ce]
 rw[if_pos ⟨h1,h2⟩,E.eqv]
def Ei:gk Int:=⟨.int,.int,0,λ_=>by simp[D.py],λ_=>rfl,λ_=>by simp[bH.depth],λx y=>by show(x==y)=_;by_cases h:x=y<;>simp[h]⟩
def Eb:gk Bool:=⟨.bl,.bool,0,λ_=>by simp[D.py],λ_=>rfl,λ_=>by simp[bH.depth],λx y=>by cases x<;>cases y<;>rfl⟩
def fw:Option Int->D
 |none=>.non
 |some i=>.int i
theorem OP (E:gk α):∀xs:List α,D.pys (xs.map E.enc)=some (xs.map E.py)
 |[]=>by simp[D.pys]
 |x::xs=>by simp[D.pys,E.is x,OP E xs]
theorem Nv (E:gk α):∀xs:List α,bH.canLayAll0 (xs.map E.py)=true
 |[]=>by simp[bH.canLayAll0]
 |x::xs=>by simp[bH.canLayAll0,E.lay x,Nv E xs]
theorem Nw (E:gk α):∀xs:List α,bH.depthAll (xs.map E.py)<=E.dep
 |[]=>by simp[bH.depthAll]
 |x::xs=>by
  have:=Nw E xs
  have:=E.dp x
  simp only[bi,bH.depthAll]
  omega
theorem Nx (E:gk α):∀xs ys:List α,bH.eqvAll (xs.map E.py) (ys.map E.py)=decide (xs=ys)
 |[],[]=>by simp[bH.eqvAll]
 |[],_::_=>by simp[bH.eqvAll]
 |_::_,[]=>by simp[bH.eqvAll]
 |x::xs,y::ys=>by
  simp only[bi,bH.eqvAll,E.eqv,Nx E xs ys]
  by_cases h:x=y<;>by_cases g:xs=ys<;>simp[h,g]
def El (E:gk α):gk (List α):=⟨λxs=>.lst (xs.map E.enc),λxs=>.list (xs.map E.py),E.dep+1,λxs=>by simp[D.py,OP],λxs=>by simp[bH.canLay0,Nv],λxs=>by have:=Nw E xs;simp only[bH.depth];omega,λxs ys=>by simp only[bH.eqv,Nx]⟩
def E2 (A:gk α)(B:gk β):gk (α×β):=⟨λp=>.tup [A.enc p.1,B.enc p.2],λp=>.tuple [A.py p.1,B.py p.2],max A.dep B.dep+1,λp=>by simp[D.py,D.pys,A.is,B.is],λp=>by simp[bH.canLay0,bH.canLayAll0,A.lay,B.lay],
 λp=>by have:=A.dp p.1;have:=B.dp p.2;simp only[bH.depth,bH.depthAll];omega,λp q=>by
  simp only[bH.eqv,bH.eqvAll,A.eqv,B.eqv]
  obtain⟨a,b⟩:=p
  obtain⟨c,d⟩:=q
  by_cases h:a=c<;>by_cases g:b=d<;>simp[h,g]⟩
def E3 (A:gk α)(B:gk β)(C:gk γ):gk (α×β×γ):=⟨λp=>.tup [A.enc p.1,B.enc p.2.1,C.enc p.2.2],λp=>.tuple [A.py p.1,B.py p.2.1,C.py p.2.2],max (max A.dep B.dep) C.dep+1,λp=>by simp[D.py,D.pys,A.is,B.is,C.is],λp=>by simp[bH.canLay0,bH.canLayAll0,A.lay,B.lay,C.lay],
 λp=>by have:=A.dp p.1;have:=B.dp p.2.1;have:=C.dp p.2.2;simp only[bH.depth,bH.depthAll];omega,λp q=>by
  simp only[bH.eqv,bH.eqvAll,A.eqv,B.eqv,C.eqv]
  obtain⟨a,b,c⟩:=p
  obtain⟨a',b',c'⟩:=q
  by_cases h:a=a'<;>by_cases g:b=b'<;>by_cases k:c=c'<;>simp[h,g,k]⟩
def E4 (A:gk α)(B:gk β)(C:gk γ)(M:gk δ):gk (α×β×γ×δ):=⟨λp=>.tup [A.enc p.1,B.enc p.2.1,C.enc p.2.2.1,M.enc p.2.2.2],λp=>.tuple [A.py p.1,B.py p.2.1,C.py p.2.2.1,M.py p.2.2.2],max (max A.dep B.dep) (max C.dep M.dep)+1,λp=>by simp[D.py,D.pys,A.is,B.is,C.is,M.is],λp=>by simp[bH.canLay0,bH.canLayAll0,A.lay,B.lay,C.lay,M.lay],
 λp=>by have:=A.dp p.1;have:=B.dp p.2.1;have:=C.dp p.2.2.1;have:=M.dp p.2.2.2;simp only[bH.depth,bH.depthAll];omega,λp q=>by
  simp only[bH.eqv,bH.eqvAll,A.eqv,B.eqv,C.eqv,M.eqv]
  obtain⟨a,b,c,d⟩:=p
  obtain⟨a',b',c',d'⟩:=q
  by_cases h:a=a'<;>by_cases g:b=b'<;>by_cases k:c=c'<;>by_cases l:d=d'<;>simp[h,g,k,l]⟩
end
theorem zb0 {neg:Bool}(a b:Int):fV neg (.int a) (.int b)=some (.bl (if neg then !decide (a=b)else decide (a=b))):=Ei.eq (by decide) a b
theorem zry {neg:Bool}(a b:Bool):fV neg (.bl a) (.bl b)=some (.bl (if neg then !decide (a=b)else decide (a=b))):=Eb.eq (by decide) a b
end L3
namespace L3
open PySem PySem.Spec L2
open PyProof.Rows hiding St
section
variable {X:Cx}{ct:Nat->af}{K:aa}{n m k:Nat}
theorem IntsAre.of {ns:List Int}{us:List ae}(h:bB (ns.map V.int) us):IntsAre us ns:=VZ h
theorem Ga (hc:X.calm=true):eE X (.builtin "max") (λxs H Q=>∃(a:af) (ns:List Int),xs=[.ref a]/\dC X.K H a (ns.map V.int)/\ns≠[]/\∀M,M∈ns->(∀z∈ns,z<=M)->Q (.int M) H):=by
 intro ah s σ H xs us Q I r h
 obtain⟨a,ns,rfl,hq,mh,q⟩:=h
 obtain⟨u,rfl,ru⟩:=r.one
 cases(show u=ae.ref a from ru)
 obtain⟨bZ,rv,pl,hz⟩:=I.list hq
 have hi:=IntsAre.of rv
 obtain⟨ys,e⟩:=hi.allInts.items
 have oQ:ns=ys.toList.map (·.1):=by rw[←hi.numsOf,←nums_intItems,←e]
 have hsz:0<ys.size:=by
  have h3:0<ns.length:=List.length_pos_iff.mpr mh
  rw[oQ,bj,dJ]at h3;exact h3
 have Cj:s.heap.IsList a (intItems ys):=e▸pl.isList
 refine max_intList (I.ok.hd hc) Cj hsz λv h' tk hv hk=>?_
 obtain⟨t,rfl⟩:=intItems_at hv
 obtain⟨h1,h2⟩:=argBest_gt (numAt ys) (ys.size-1)
 refine⟨.int (numAt ys (argBest (λi j=>decide (numAt ys i > numAt ys j)) (ys.size-1))),H,I.kept (t':=tk) hk,⟨_,rfl⟩,q _ ?_ λz hz=>?_⟩
 ·rw[oQ,numAt_eq];exact getD_mem (by rw[bj,dJ];omega)
 ·rw[oQ]at hz
  obtain⟨j,hj,rfl⟩:=mem_getD hz
  rw[bj,dJ]at hj
  rw[←numAt_eq];exact h2 j (by omega)
theorem NT:∀{bs:List Bool} {us:List ae},bB (bs.map V.bl) us->us=bs.map ae.bool
 |[],_,.nil=>rfl
 |b::bs,_,.cons r t=>by rw[NT t];cases(show _=ae.bool b from r);rfl
theorem Gb (hc:X.calm=true):eE X (.builtin "all") (λxs H Q=>∃(a:af) (bs:List Bool),xs=[.ref a]/\dC X.K H a (bs.map V.bl)/\Q (.bl (bs.all id)) H):=by
 intro ah s σ H xs us Q I r h
 obtain⟨a,bs,rfl,hq,q⟩:=h
 obtain⟨u,rfl,ru⟩:=r.one
 cases(show u=ae.ref a from ru)
 obtain⟨bZ,rv,pl,hz⟩:=I.list hq
 have hb:=NT rv
 subst hb
 have hl:=pl.isList
 have mY:a<s.heap.objs.size:=by obtain⟨_,e,_⟩:=hl;exact aB e
 refine PySem.call_all_walk (fF hl ?_)
 refine⟨s.heap.objs.size,[s.heap.objs.size,a],[s.heap.objs.size],(bs.map ae.bool).toArray.size,_,_,λi=>(bs[i]?).getD true,rfl,Walks.list (A:=X.A.in1) (I.ok.hd hc) _ a (aR mY) (bs.map ae.bool).toArray,
  ⟨⟨_,aT _ rfl,rfl,rfl⟩,hl.push _⟩,λi v s' Q' E' hP hQ=>?_,λh' tk hk=>?_⟩
 ·have hP:(bs.map ae.bool)[i]?=some v:=by simpa using hP
  rw[bI]at hP
  obtain⟨b,hb,rfl⟩:=dh.mp hP
  simp only[hb,Option.getD_some]at hQ
  exact dM hQ
 ·have e:((ak (bs.map ae.bool).toArray.size).all λi=>(bs[i]?).getD true)=bs.all id:=by
   rw[aK,bj];exact PyProof.Rows.LSm.range_all bs
  rw[e]
  refine⟨.bl (bs.all id),H,I.kept (t':=tk) λb o Iw=>hk b o (λhm=>?_) (am _ Iw),rfl,q⟩
  rw[br.mp hm]at Iw
  exact dY _ (aB Iw)
def gG:List D->Option (List Int)
 |[]=>some []
 |.int i::ds=>(gG ds).bind λns=>some (i::ns)
 |_=>none
theorem Ny:∀{ds:List D} {ns:List Int},gG ds=some ns->ds=ns.map .int
 |[],_,e=>by cases e;rfl
 |d::ds,ns,e=>by
  cases d with
  |int i=>
   obtain⟨ms,h1,h2⟩:=aO (show(gG ds).bind _=_ from e)
   cases h2
   rw[Ny h1];rfl
  |_=>cases e
theorem Pr.intV {F G:Hp}:∀{ns:List Int} {vs:List V},Pr (Al K ct F G n) (ns.map .int) vs->vs=ns.map V.int
 |[],_,.nil=>rfl
 |i::ns,_,.cons h t=>by rw[Pr.intV t,h.int];rfl
def iu:List D->Option (List Bool)
 |[]=>some []
 |.bl i::ds=>(iu ds).bind λns=>some (i::ns)
 |_=>none
theorem Nb:∀{ds:List D} {ns:List Bool},iu ds=some ns->ds=ns.map .bl
 |[],_,e=>by cases e;rfl
 |d::ds,ns,e=>by
  cases d with
  |bl i=>
   obtain⟨ms,h1,h2⟩:=aO (show(iu ds).bind _=_ from e)
   cases h2
   rw[Nb h1];rfl
  |_=>cases e
theorem Pr.blV {F G:Hp}:∀{ns:List Bool} {vs:List V},Pr (Al K ct F G n) (ns.map .bl) vs->vs=ns.map V.bl
 |[],_,.nil=>rfl
 |i::ns,_,.cons h t=>by rw[Pr.blV t,h.bl];rfl
def Ds:List Int->Option Int
 |[]=>none
 |x::xs=>some (xs.foldl max x)
theorem NU:∀(xs:List Int) (x:Int),(xs.foldl max x=x\/xs.foldl max x∈xs)/\x<=xs.foldl max x/\∀z∈xs,z<=xs.foldl max x
 |[],x=>⟨.inl rfl,oB _,λz h=>by cases h⟩
 |y::xs,x=>by
  obtain⟨h1,h2,h3⟩:=NU xs (max x y)
  refine⟨?_,by show x<=xs.foldl max (max x y);omega,λz hz=>?_⟩
  ·rcases h1 with h1|h1
   ·show xs.foldl max (max x y)=x\/xs.foldl max (max x y)∈y::xs
    rw[h1]
    rcases Int.le_total x y with h|h
    ·rw[Int.max_eq_right h];exact .inr ai
    ·rw[Int.max_eq_left h];exact .inl rfl
   ·exact .inr (ao _ h1)
  ·rcases aC.mp hz with rfl|hz
   ·show z<=xs.foldl max (max x z);omega
   ·exact h3 z hz
theorem Xu {ns:List Int}{M:Int}(h:Ds ns=some M):M∈ns/\∀z∈ns,z<=M:=by
 cases ns with
 |nil=>cases h
 |cons x xs=>
  cases h
  obtain⟨h1,h2,h3⟩:=NU xs x
  refine⟨?_,λz hz=>?_⟩
  ·rcases h1 with h1|h1
   ·rw[h1];exact ai
   ·exact ao _ h1
  ·rcases aC.mp hz with rfl|hz
   ·exact h2
   ·exact h3 z hz
def Uv:List D->Option D
 |[.lst ds]=>(gG ds).bind λns=>some (.int ns.sum)
 |_=>none
def mM:List D->Option D
 |[.lst ds]=>(gG ds).bind λns=>(Ds ns).bind λM=>some (.int M)
 |_=>none
def nY:List D->Option D
 |[.lst ds]=>(iu ds).bind λbs=>some (.bl (bs.all id))
 |_=>none
theorem Xv {F H:Hp}{vs:List V}{ds:List D}{ns:List Int}(s:bG F H)(l:fU K ct F H [n] [.lst ds] vs)(e:gG ds=some ns):∃a,vs=[.ref a]/\dC K H a (ns.map V.int):=by
 cases l with
 |cons h t=>
  cases t
  obtain⟨a,us,rfl,ha,hp⟩:=h.lst s
  have:=Ny e
  subst this
  have:=hp.intV
  subst this
  exact⟨a,rfl,ha⟩
theorem Gq:tV K ct [n] k (λxs H Q=>∃(a:af) (ns:List Int),xs=[.ref a]/\dC K H a (ns.map V.int)/\ns≠[]/\∀M,M∈ns->(∀z∈ns,z<=M)->Q (.int M) H) mM:=by
 intro F H vs ds d Q s l e w
 match ds,l,e with
 |[.lst xs],l,e=>
  obtain⟨ns,h1,h2⟩:=aO (show(gG xs).bind _=_ from e)
  obtain⟨M,h3,h4⟩:=aO h2
  cases h4
  obtain⟨a,rfl,ha⟩:=Xv s l h1
  obtain⟨m1,m2⟩:=Xu h3
  refine⟨a,ns,rfl,ha,(λz=>by rw[z]at m1;cases m1),λM' h5 h6=>?_⟩
  have:M'=M:=Int.le_antisymm (m2 M' h5) (h6 M m1)
  subst this
  exact w _ F H (.refl s) (Al.of (.int _))
theorem Gr:tV K ct [n] k (λxs H Q=>∃(a:af) (bs:List Bool),xs=[.ref a]/\dC K H a (bs.map V.bl)/\Q (.bl (bs.all id)) H) nY:=by
 intro F H vs ds d Q s l e w
 match ds,l,e with
 |[.lst xs],l,e=>
  obtain⟨bs,h1,h2⟩:=aO (show(iu xs).bind _=_ from e)
  cases h2
  cases l with
  |cons h t=>
   cases t
   obtain⟨a,us,rfl,ha,hp⟩:=h.lst s
   have:=Nb h1
   subst this
   have:=hp.blV
   subst this
   exact⟨a,bs,rfl,ha,w _ F H (.refl s) (Al.of (.bl _))⟩
end
end L3
namespace L3
open PySem PySem.Spec L2
open PyProof.Rows hiding St
def qK (H:Hp)(x:af):Hp:=λb=>if b=x then none else H b
theorem On (H:Hp)(x:af):bG (qK H x) H:=λb o h=>by
 unfold qK at h
 by_cases e:b=x
 ·rw[if_pos e]at h;cases h
 ·rw[if_neg e]at h;exact h
theorem zrz (H:Hp)(x:af):qK H x x=none:=if_pos rfl
theorem ET {H:Hp}{x b:af}(h:b≠x):qK H x b=H b:=if_neg h
def p5 (K:aa)(ct:Nat->af)(cs:List Nat)(pm:List Nat)(mi:Nat->List D->Option D):Sp:=λvs H Q _=>∃(F:Hp) (c:Nat) (ds:List D) (d:D) (x dx:af) (us:List V),c∈cs/\vs=.ref x::us/\H x=some (.ins (ct c) dx [])/\F x=none/\bG F H/\fU K ct F (qK H x) pm ds us/\mi c ds=some d /\
 ∀F' H',bG F F'->bG (qK H x) H'->bG F' H'->(∀a o,qK H x a=some o->F a=none->F' a=none)->F' x=none->Ow K ct F' H' 1 d (.ref x) [x]->Q .non H'
theorem p5.len {K:aa}{ct:Nat->af}{cs pm:List Nat}{mi:Nat->List D->Option D}{ps:List aL}(h:pm.length+1=ps.length):∀vs H Q E,p5 K ct cs pm mi vs H Q E->vs.length=ps.length:=by
 rintro vs H Q E ⟨F,c,ds,d,x,dx,us,_,rfl,_,_,_,l,_⟩
 rw[aM,l.length,h]
def xJ (N:List aL)(b:SF)(c:Nat)(ds:List D):Option D:=(b (some (.obj c [] [])::startD N.tail ds)).bind λo=>match o with
 |.nx ρ=>(ρ[0]?).join
 |_=>none
section
variable {X:Cx}{ct:Nat->af}{ms:List Mo}{rk n m k:Nat}{a b c e tg:Expr}{f g h:EF}{u w:SF}{pos:cx}
theorem EC {P:ba}{w:bM}{K:aa}{mg:aL->Option ae}{base:aG}{x qual:aL}{st:bP}{fa:af}{fd:aH}{N0:aL}{N ps:List aL}{kk:Nat}{cs pm:List Nat}{bf:SF}(Fn:Fun2 K x qual st fa fd)(S:bn (N0::N) ps (aP st))(Cs:pm.length+1=ps.length)(IQ:ms.length=N.length)(n9:pm.length<=N.length)
  (Cp:∀(i n:Nat),pm[i]?=some n->ms[i]?=some (Mo.al n)\/(n=0/\ms[i]?=some (Mo.ow 0)))
  (body:∀(x:af) (gY:ae) (A:bD) (outer:List PySem.Env) (s:aj) (H:Hp) (E:XK),dN kk (A.deeper (envOfC qual (aP st) s.heap.objs.size fa gY))->p7 (mG eu P w K mg base (N0::N) qual (aP st) fa gY A outer s H E).nox ct (.so x::ms) rk (gq st) bf) :
  cn P w K mg base eu (kk+1) fa fd ps (p5 K ct cs pm (xJ (N0::N) bf)):=by
 refine Fn.ok S (p5.len Cs) λgY A outer s H vs Q E hr h=>?_
 obtain⟨F,c,ds,d,x,dx,us,hc,rfl,hx,hF,sF,l,hm,q⟩:=h
 obtain⟨t,pt,qt⟩:=body x gY A outer s H E hr
 refine⟨t,pt,?_⟩
 obtain⟨o,h1,h2⟩:=aO hm
 have Cc:ds.length=us.length:=l.length'
 have RT:us.length=pm.length:=l.length
 have ow:Ow K ct F H 1 (.obj c [] []) (.ref x) [x]:=.inr (rR.obj (vs:=[]) hF hx rfl .nil)
 have sFB:bG F (qK H x):=λb o hb=>by
  rw[ET (λe=>by rw[e,hF]at hb;cases hb)]
  exact sF _ _ hb
 refine qt F (qK H x) F H (some (.obj c [] [])::startD N ds) (L2.start (N0::N) (.ref x::us)) o _ ⟨.refl _,On H x,sF,λ_ _ _ h=>h,[x],?_,by simp,λa z=>by rw[br]at z;subst z;exact zrz H _⟩ h1 ?_
 ·have e:L2.start (N0::N) (.ref x::us)=some (.ref x)::(us.map some++aI (N.length-us.length) none):=by
   unfold L2.start
   simp
  rw[e]
  unfold startD
  rw[Cc]
  exact SL.so (fp:=[]) ow (SL.start _ l Cp (by omega))
 ·cases o with
  |nx ρ=>
   intro σ F' H' r
   obtain⟨fp,sl,nd,hb⟩:=r.sl
   cases sl with
   |no _=>cases h2
   |so FF _=>
    cases h2
    exact q F' H' r.f0 r.bh r.fh r.nf (FF.cells x ai).1 FF
  |rt d'=>cases h2
  |bk ρ=>cases h2
  |ct ρ=>cases h2
end
end L3
namespace L3
open PySem PySem.Spec L2
open PyProof.Rows hiding St
theorem Oo {f:aL}{y:V}:∀{ns:List aL} {vs:List V},ns.length=vs.length->ns.contains f=false->ij f y (ns.zip vs)=(ns++[f]).zip (vs++[y])
 |[],[],_,_=>rfl
 |[],_::_,h,_=>by simp at h
 |_::_,[],h,_=>by simp at h
 |n::ns,v::vs,h,hc=>by
  rw[oV,nO]at hc
  have hn:¬n=f:=λe=>by rw[e]at hc;simp at hc
  have ih:=Oo (f:=f) (y:=y) (ns:=ns) (vs:=vs) (by simpa using h) hc.2
  show ij f y ((n,v)::ns.zip vs)=(n,v)::(ns++[f]).zip (vs++[y])
  rw[←ih]
  show(if n=f then _ else _)=_
  rw[if_neg hn]
theorem Ow.obj_inv {ct:Nat->af}{K:aa}{F H:Hp}{c k:Nat}{ns:List aL}{ds:List D}{v:V}{fp:List af}(h:Ow K ct F H (k+1) (.obj c ns ds) v fp):∃a dx vs fr,v=.ref a/\fp=a::fr/\F a=none/\H a=some (.ins (ct c) dx (ns.zip vs))/\ns.length=vs.length/\dU (Ow K ct F H k) ds vs fr:=by
 rcases h with⟨h,_⟩|h
 ·cases h
 ·cases h with
  |obj h1 h2 h3 h4=>exact⟨_,_,_,_,rfl,rfl,h1,h2,h3,h4⟩
section
variable {X:Cx}{ct:Nat->af}{ms:List Mo}{rk n m k:Nat}{a b c e tg:Expr}{f g h:EF}{u w:SF}{pos:cx}{x0:af}
def jR (cs:List Nat)(x:aL)(f:EF):SF:=λρ=>(f ρ).bind λd=>(eV 0 ρ).bind λo=>match o with
 |.obj c ns ds=>if cs.contains c=true/\ns.contains x=false/\ns.length<900 then some (.nx (ρ.set 0 (some (.obj c (ns++[x]) (ds++[d])))))else none
 |_=>none
theorem RS.self {K:aa}{F0 B F H F' H':Hp}{ρ:Env}{σ:St}{d:D}(rs:RS K ct F0 B (.so x0::ms) F H ρ σ)(hd:ρ[0]?=some (some d)):σ[0]?=some (some (.ref x0))/\Ow K ct F H 1 d (.ref x0) [x0]/\B x0=none /\
  ∀(F' H':Hp) (d':D),bG F F'->bG B H'->bG F' H'->(∀a o,B a=some o->F0 a=none->F' a=none)->(∀a o,H a=some o->a≠x0->H' a=some o)->(∀a o,H a=some o->a≠x0->F a=none->F' a=none)->Ow K ct F' H' 1 d' (.ref x0) [x0]->RS K ct F0 B (.so x0::ms) F' H' (ρ.set 0 (some d')) σ:=by
 obtain⟨fp,sl,nd,hb⟩:=rs.sl
 cases sl with
 |no _=>simp at hd
 |so ow t=>
  simp at hd
  subst hd
  refine⟨rfl,ow,hb _ ai,λF' H' d' s1 s2 s3 s4 k1 k2 o'=>⟨rs.f0.trans s1,s2,s3,s4,_,.so o' (t.frame s1 λa z=>?_),nd,hb⟩⟩
  obtain⟨hn,o,ho⟩:=t.cells a z
  have ne:a≠x0:=λe=>(bU.mp nd).1 (by rw[←e];exact z)
  exact⟨(k1 a o ho ne).trans ho.symm,k2 a o ho ne hn⟩
theorem zS {x s:aL}{cs:List Nat}{p1 pos':cx}(hc:∀c∈cs,kX X.K (ct c)/\eP X.K (ct c) x)(he:XE X ct (.so x0::ms) 0 e f)(hN:X.N[0]?=some s:=by rfl)(hv:nw X.env.scope s:=by first|exact Or.inl rfl|exact Or.inr (Or.inl rfl)|exact Or.inr (Or.inr rfl))(hd:(s==("__debug__":aL))=false:=by decide)
  (ie:(s==("__classdict__":aL))=false:=by decide) (hs:dn e (some (.Attribute (.Name s p1) x pos')) pos.line X.env=pure false:=by rfl):XS X ct (.so x0::ms) rk (.Assign [.Attribute (.Name s p1) x pos'] e pos) (jR cs x f):=by
 obtain⟨t,pt,qt⟩:=he
 refine⟨_,Zg (jm hN hv hd ie) pt hs,λF0 B F H ρ σ o E rs e z=>?_⟩
 obtain⟨d,h1,h2⟩:=aO e
 obtain⟨ob,h3,h4⟩:=aO h2
 refine qt F0 B F H ρ σ d _ rs h1 λy F1 H1 x1 l=>?_
 have kQ:=rs.ext x1
 obtain⟨hσ,ow,hB,put⟩:=kQ.self (F':=F) (H':=H) (yr h3)
 refine⟨_,hσ,?_⟩
 cases ob with
 |obj c ns ds=>
  dsimp only at h4
  by_cases hz:cs.contains c=true/\ns.contains x=false/\ns.length<900
  ·rw[if_pos hz]at h4
   cases h4
   obtain⟨a,dx,vs,fr,e1,e2,hF,hH,hl,ol⟩:=ow.obj_inv
   cases e1
   cases e2
   have hh:=hc c (by simpa using hz.1)
   refine⟨x0,_,dx,_,rfl,hH,hh.1,hh.2,by rw[fP,←hl,ku];omega,?_⟩
   rw[Oo hl hz.2.1]
   refine z σ F1 _ (put F1 _ _ (.refl _) (λb o h=>?_) (λb o h=>?_) kQ.nf (λb o h ne=>by rw[zx ne];exact h) (λb o h ne hn=>hn) (.inr (rR.obj (vs:=vs++[y]) hF yb (by simp[hl]) ?_)))
   ·rw[zx (λe=>by rw[e,hB]at h;cases h)];exact kQ.bh _ _ h
   ·rw[zx (λe=>by rw[e,hF]at h;cases h)];exact kQ.fh _ _ h
   ·have o1:dU (Ow X.K ct F1 (upd H1 x0 (.ins (ct c) dx ((ns++[x]).zip (vs++[y])))) 0) ds vs []:=ol.mono λ_ _ _ _ q=>⟨q.1,q.2⟩
    have:=o1.append (dU.cons (f:=[]) (g:=[]) (R:=Ow X.K ct F1 (upd H1 x0 (.ins (ct c) dx ((ns++[x]).zip (vs++[y])))) 0) ⟨l,rfl⟩ .nil)
    exact this
  ·rw[if_neg hz]at h4;cases h4
 |_=>cases h4
variable {kk:Nat}{fa:af}{fd:aH}{ps:List aL}{pm cs:List Nat}{mi:Nat->List D->Option D}{x:aL}{pp:cx}
theorem Gs {c0:Nat}{es:List Expr}{ns nd:List Nat}{fs:Env->Option (List D)}{gR:List V}{jU:List D}{kA:List ae}(M:Mk X.K (ct c0) fa)(wY:c0∈cs)(Fn:cn X.prog X.w X.K X.mg X.base eu kk fa fd ps (p5 X.K ct cs (ns++nd) mi))(hr:dN (kk+1) X.A)(hg:Gl X x)(hm:X.mg x=some (.ref (ct c0)))
  (hb:bA X.K fd ps kA) (hd:bB gR kA) (sN:∀F G,fU X.K ct F G nd jU gR) (ha:XA X ct ms (e::es) ns fs)
  (kd:(x==("__debug__":aL))=false:=by decide) (he:aq (e::es) X.env=(false,bq e X.env)::aq es X.env:=by rfl) (gD:(cj pos (aq es X.env)).any (·.1)=false:=by rfl) :
  XO X ct ms 1 (.Call (.Name x pp) (e::es) [] pos) (λρ=>(fs ρ).bind λds=>mi c0 (ds++jU)):=by
 obtain⟨t,pt,_,qt⟩:=ha
 refine⟨_,Ys M Fn hr hg hm hb hd mn pt kd he gD,λF0 B F H ρ σ r Q rs e w=>?_⟩
 obtain⟨ds,h1,h2⟩:=aO e
 refine qt F0 B F H ρ σ ds _ rs h1 λvs F1 H1 x1 l y dy hy Ru mh=>?_
 have sH:bG H1 (qK (upd (upd H1 dy (.own y)) y (.ins (ct c0) dy [])) y):=λb o h=>by
  have n1:b≠y:=xb h hy
  rw[ET n1,zx n1,zx (xb h Ru)]
  exact h
 have TK:bG H1 (upd (upd H1 dy (.own y)) y (.ins (ct c0) dy [])):=sH.trans (On _ _)
 refine⟨F1,c0,ds++jU,r,y,dy,vs++gR,wY,rfl,yb,x1.fh.free hy,x1.fh.trans TK,fU.mono (.refl _) sH (fU.append (sN F1 H1) l),h2,λF' H' s1 s2 s3 s4 hn ow=>⟨rfl,?_⟩⟩
 refine w _ F' H' [y] ⟨x1.ff.trans s1,(x1.hh.trans sH).trans s2,s3,λb o h n=>s4 b o (sH _ _ (x1.hh _ _ h)) (x1.nf b o h n)⟩ ow (by simp) λb z=>?_
 rw[br]at z
 subst z
 exact x1.hh.free hy
theorem Xw {C:af}{sp:Sp}{gR:List V}{ds:List ae}{E:XK}{m:aL}{p cL:cx}{es:List Expr}{t:TA}{pl:m9 Bool}{mc:ae}(Fn:cn X.prog X.w X.K X.mg X.base eu kk fa fd ps sp)(hr:dN kk X.A)(hg:Gl X x)(hm:X.mg x=some (.ref C))
  (h1:cT X.K (.ref C) "__getattribute__"=some (some (.builtin "type.__getattribute__"))) (h2:gP X.K C mc=true) (h3:gO X.K (.ref C) mc m=some (.val (.ref fa))) (hk:ar X.K (.ref fa)=true) (hb:bA X.K fd ps ds) (hd:bB gR ds) (hx:gx eu X E) (ha:PA X (e::es) t)
  (kd:(x==("__debug__":aL))=false:=by decide) (lm:aq (e::es) X.env=(false,bq e X.env)::aq es X.env:=by rfl) (gD:(cj pos (aq es X.env)).any (·.1)=false:=by rfl)
  (ht:bq (.Call (.Attribute (.Name x p) m cL) (e::es) [] pos) X.env=(do
   let ov ← bq (.Name x p) X.env
   fW cL.atName
   let(f,first) ← d7 [ov] (fR ov m pl)
   iE pos f first (cj pos (aq (e::es) X.env)) (cH pos (bS [] X.env))):=by rfl) :
  PE X (.Call (.Attribute (.Name x p) m cL) (e::es) [] pos) (uJ sp gR E t):=by
 intro ah s σ H Q I h
 refine eW (pl:=pl) (EL I hg hm ?_ kd) ht
 refine PySem.W.method_cls I.kIn h1 (PySem.W.cls_value I.kIn h2 h3 rfl ?_)
 have I1:Inv X ah σ H { s with toks:=s.toks+1 }:=I.tok _
 refine fT (first:=[]) (h₀:=X.base) I.ok.mod.kin hk (cP (ha pos ah _ σ H _ I1 h) λus s2 ⟨vs,H2,I2,r,q2⟩=>⟨I2.kIn,?_⟩) lm gD
 exact GB (us:=us) (vs:=vs) Fn hr hb hd hx I2 r q2
theorem fU.flat {K:aa}{F G G':Hp}{ns:List Nat}{ds:List D}{vs:List V}(h:fU K ct F G ns ds vs)(e:ns.all (· == 0)=true):fU K ct F G' ns ds vs:=by
 induction h with
 |nil=>exact .nil
 |cons h t ih=>
  rw[cQ,bt]at e
  cases eq_of_beq e.1
  exact .cons h (ih e.2)
def mR (cs:List Nat)(fs:Env->Option (List D))(mi:Nat->List D->Option D):SF:=λρ=>(eV 0 ρ).bind λo=>(fs ρ).bind λds=>match o with
 |.obj c [] []=>if cs.contains c=true then(mi c ds).bind λd=>some (.nx (ρ.set 0 (some d)))else none
 |_=>none
theorem KD {C:af}{s m:aL}{p p1 cU cL:cx}{es:List Expr}{ns:List Nat}{fs:Env->Option (List D)}{pl:m9 Bool}{mc:ae}(Fn:cn X.prog X.w X.K X.mg X.base eu kk fa fd ps (p5 X.K ct cs ns mi))(hr:dN kk X.A)(hm:X.mg x=some (.ref C))
  (h1:cT X.K (.ref C) "__getattribute__"=some (some (.builtin "type.__getattribute__"))) (h2:gP X.K C mc=true) (h3:gO X.K (.ref C) mc m=some (.val (.ref fa))) (hk:ar X.K (.ref fa)=true) (hb:bA X.K fd ps []) (hz:ns.all (· == 0)=true) (ha:XA X ct (.so x0::ms) es ns fs)
  (hg:Gl X x:=by rfl) (hN:X.N[0]?=some s:=by rfl) (hv:nw X.env.scope s:=by first|exact Or.inl rfl|exact Or.inr (Or.inl rfl)|exact Or.inr (Or.inr rfl)) (hd:(s==("__debug__":aL))=false:=by decide)
  (ie:(s==("__classdict__":aL))=false:=by decide) (kd:(x==("__debug__":aL))=false:=by decide) (lm:aq (.Name s p1::es) X.env=(false,bq (.Name s p1) X.env)::aq es X.env:=by rfl) (gD:(cj cU (aq es X.env)).any (·.1)=false:=by rfl)
  (ht:bq (.Call (.Attribute (.Name x p) m cL) (.Name s p1::es) [] cU) X.env=(do
   let ov ← bq (.Name x p) X.env
   fW cL.atName
   let(f,first) ← d7 [ov] (fR ov m pl)
   iE cU f first (cj cU (aq (.Name s p1::es) X.env)) (cH cU (bS [] X.env))):=by rfl)
  (qR:dn (.Call (.Attribute (.Name x p) m cL) (.Name s p1::es) [] cU) none pos.line X.env=pure false:=by rfl) :
  XS X ct (.so x0::ms) rk (.Expr (.Call (.Attribute (.Name x p) m cL) (.Name s p1::es) [] cU) pos) (mR cs fs mi):=by
 obtain⟨t,pt,_,qt⟩:=ha
 refine⟨_,EM (Xw (E:=E0) Fn hr hg hm h1 h2 h3 hk hb .nil mn (ud (jm hN hv hd ie) pt lm) kd lm gD ht) qR,λF0 B F H ρ σ o E rs e z=>?_⟩
 obtain⟨ob,ds,g1,g2,g3⟩:=cW e
 obtain⟨hσ,ow,hB,put⟩:=rs.self (F':=F) (H':=H) (yr g1)
 refine⟨_,hσ,qt F0 B F H ρ σ ds _ rs g2 λvs F1 H1 x1 l=>?_⟩
 have kQ:=rs.ext x1
 obtain⟨hσ,ow,hB,put⟩:=kQ.self (F':=F) (H':=H) (yr g1)
 match ob,g3,ow with
 |.obj c [] [],g3,ow=>
  dsimp only at g3
  by_cases hc:cs.contains c=true
  ·rw[if_pos hc]at g3
   obtain⟨d,g4,g5⟩:=aO g3
   cases g5
   obtain⟨a,dx,us,fr,e1,e2,hF,hH,hl,ol⟩:=ow.obj_inv
   cases e1
   cases e2
   refine⟨F1,c,ds,d,x0,dx,vs++[],by simpa using hc,rfl,hH,hF,x1.fh,?_,g4,λF' H' s1 s2 s3 s4 hn o'=>?_⟩
   ·rw[bT];exact l.flat hz
   ·have sB:bG B (qK H1 x0):=λb o h=>by
     rw[ET (λe=>by rw[e,hB]at h;cases h)]
     exact kQ.bh _ _ h
    exact z σ F' H' (put F' H' d s1 (sB.trans s2) s3 (λb o h n=>s4 b o (sB _ _ h) (kQ.nf b o h n)) (λb o h ne=>s2 _ _ (by rw[ET ne];exact h)) (λb o h ne IR=>s4 b o (by rw[ET ne];exact h) IR) o')
  ·rw[if_neg hc]at g3;cases g3
end
end L3
namespace L3
open PySem PySem.Spec L2
open PyProof.Rows hiding St
structure hX (K:aa)(mg:aL->Option ae)(x:aL)(st:bP)(ps:List aL)(f:af)(fd:aH):Prop where
 fn:Fun2 K x x st f fd
 mgx:mg x=some (.ref f)
 bd:bA K fd ps []
structure Dm (K:aa)(C:af)(m qual:aL)(st:bP)(ps:List aL)(f:af)(fd:aH):Prop where
 fn:Fun2 K m qual st f fd
 me:nW K C m f
 bd:bA K fd ps []
structure Dc (K:aa)(mg:aL->Option ae)(x:aL)(C:af):Prop where
 cl:kX K C
 mgx:mg x=some (.ref C)
 mks:dB K C=true
 kp:ar K (.ref C)=true
structure Dq (K:aa)(C:af)(m:aL)(f:af):Prop where
 sp:cT K (.ref C) "__getattribute__"=some (some (.builtin "type.__getattribute__"))
 rd:gP K C (.type "type")=true
 fc:gO K (.ref C) (.type "type") m=some (.val (.ref f))
theorem zo {K:aa}{x qual:aL}{st:bP}{f:af}{oc:ae}{od an:Option af}{xO:Array (Option ae)}{dV kV doc pm gY ct:ae}(l:K.lookup f=some ⟨oc,od,.func (fM x qual (kN st) (gq st) (aP st) dV kV doc pm an gY ct),xO⟩)
  (c:az K gY qual=true) (k:ar K (.ref f)=true):Fun2 K x qual st f (fM x qual (kN st) (gq st) (aP st) dV kV doc pm an gY ct):=⟨⟨oc,od,dV,kV,doc,pm,an,gY,ct,xO,rfl,l,c⟩,k⟩
theorem YW {K:aa}{fd:aH}{ps:List aL}{ds:List ae}{T:af}{o:dq}{items:Array ae}{n:Nat}(hd:fd.defaults=.ref T)(ho:K.lookup T=some o)(hs:o.data=.seq items n)
  (h:∀us:List ae,(us++ds).length=ps.length->∃k,bindArgs fd ⟨us,[]⟩=seqItems? fd.defaults >>= k/\k (some items)=pure (ps.zip (us++ds))):bA K fd ps ds:=λs us X hl=>by
 obtain⟨k,h1,h2⟩:=h us hl
 exact pd X hd ho hs h1 h2
theorem j8 (m:Nat){K:aa}{fd:aH}{ps:List aL}{ds:List ae}{T:af}{o:dq}{items:Array ae}{n:Nat}(ho:K.lookup T=some o)(h:∀us:List ae,us.length=m->∃k,bindArgs fd ⟨us,[]⟩=seqItems? fd.defaults >>= k/\k (some items)=pure (ps.zip (us++ds)))(hd:fd.defaults=.ref T:=by rfl)(hs:o.data=.seq items n:=by rfl)(hm:m+ds.length=ps.length:=by rfl):bA K fd ps ds :=
 YW hd ho hs λus hl=>h us (by rw[bw]at hl;omega)
end L3
namespace L3
open PySem PySem.Spec L2
open PyProof.Rows hiding St
def GZ (x:aL):It:=⟨λi _=>∃c,x.cps[i]?=some c,λi H v H'=>H'=H/\∃c,x.cps[i]?=some c/\v=.str ⟨#[c]⟩,λi _=>x.cps[i]?=none⟩
theorem Xx {P:ba}{w:bM}{K:aa}{tg:Expr}(x:aL)(t:Tok)(it:af):Turn P w K tg (GZ x) [it] it (λi h=>h.IsStrIter it (cA x) x t i) where
 mem:=by simp
 obj:=λi h st b hb=>by
  have e:b=it:=by simpa using hb
  subst e
  obtain⟨o,e,c,d⟩:=st
  exact⟨o,e,λv z=>by rw[d]at z;cases z⟩
 keep:=λi h h' st k=>by
  obtain⟨o,e,c,d⟩:=st
  exact⟨o,k it (by simp) o e,c,d⟩
 item:=by
  intro X hP hw hK hc i ah s σ H E I hf st hg
  subst hP hw hK
  obtain⟨c,hx⟩:=hg
  obtain⟨f0,f1,f2,f3,f4,f5⟩:=hf it (by simp)
  have fin:∀h':aG,h'.IsStrIter it (cA x) x t (i+1)->ez it s.heap h'->aQ (aU X.prog X.w) X.A (gp tg (.ref it) (.str ⟨#[c]⟩ s.toks)) (λ_ s2=>∃v H',Inv X ah σ H' s2/\RelV v (.str ⟨#[c]⟩ s.toks)/\(GZ x).yld i H v H'/\s2.heap.IsStrIter it (cA x) x t (i+1)/\∀b∈[it],H' b=none) E { s with heap:=h',toks:=s.toks+1 }:=λh' nN sb=>by
   have I1:Inv X ah σ H { s with heap:=h',toks:=s.toks+1 }:=I.turned (t':=s.toks+1) (λb o hb e=>(sb.2 b hb).trans e) f0 f1 f3 f4 f5
   obtain⟨o,e,cc,d⟩:=id nN
   refine GL (s:={ s with heap:=h',toks:=s.toks+1 }) e cc d ?_ ⟨.str ⟨#[c]⟩,H,I1,⟨_,rfl⟩,⟨rfl,c,hx,rfl⟩,nN,λb hb=>(hf b hb).1⟩
   unfold cA
   split<;>decide
  cases ha:x.cps.all (·<128)with
  |true=>
   have e:cA x = "str_ascii_iterator":=by unfold cA;rw[ha];rfl
   rw[e]at st fin
   exact wpAny_pyNext_ascii_item st hx λh' nN sb=>⟨_,rfl,by rw[e];exact fin h' nN sb⟩
  |false=>
   have e:cA x = "str_iterator":=by unfold cA;rw[ha];rfl
   rw[e]at st fin
   exact wpAny_pyNext_wide_item st hx λh' nN sb=>⟨_,rfl,by rw[e];exact fin h' nN sb⟩
 done:=by
  intro X hP hw hK hc i ah s σ H E I hf st hg
  subst hP hw hK
  obtain⟨f0,f1,f2,f3,f4,f5⟩:=hf it (by simp)
  cases ha:x.cps.all (·<128)with
  |true=>
   have e:cA x = "str_ascii_iterator":=by unfold cA;rw[ha];rfl
   rw[e]at st
   exact wpAny_pyNext_ascii_end (I.ok.hd hc) st hg λh' eb=>⟨rfl,I.turned (t':=s.toks) (λb o hb e=>eb b o hb e) f0 f1 f3 f4 f5⟩
  |false=>
   have e:cA x = "str_iterator":=by unfold cA;rw[ha];rfl
   rw[e]at st
   exact wpAny_pyNext_wide_end (I.ok.hd hc) st hg λh' eb=>⟨rfl,I.turned (t':=s.toks) (λb o hb e=>eb b o hb e) f0 f1 f3 f4 f5⟩
 self:=λA i s Q E st h=>by
  cases ha:x.cps.all (·<128)with
  |true=>
   have e:cA x = "str_ascii_iterator":=by unfold cA;rw[ha];rfl
   rw[e]at st
   exact wpAny_pyIter_striter_ascii st h
  |false=>
   have e:cA x = "str_iterator":=by unfold cA;rw[ha];rfl
   rw[e]at st
   exact wpAny_pyIter_striter_wide st h
def Ji (tl:TE):TI:=λσ H R=>tl σ H λx H1=>∃z,x=.str z/\R (GZ z) H1
section
variable {X:Cx}{ct:Nat->af}{ms:List Mo}{rk n m k:Nat}{st:bP}{rest:List bP}{a b c e tg:Expr}{f g h:EF}{p q:BF}{u w:SF}{pos:cx}
theorem ZJ {l:Expr}{tl:TE}(hl:PE X l tl):PI X tg l (Ji tl):=by
 intro ah s σ H R I h
 refine cP (hl ah s σ H _ I h) λv s1 df=>?_
 obtain⟨x,H1,I1,r,z,e,q⟩:=df
 subst e
 obtain⟨t,rfl⟩:=r
 refine wpAny_pyIter_strU ?_
 refine⟨s1.heap.objs.size,[s1.heap.objs.size],_,_,H1,rfl,I1.kept (t':=s1.toks) λb o e=>am _ e,Xx z t _,⟨_,aT _ rfl,rfl,rfl⟩,λb hb=>?_,q⟩
 have e:b=s1.heap.objs.size:=by simpa using hb
 subst e
 exact I1.fpOk (aE _) (I1.hok.fresh (aE _))
def ou (x:aL):List D:=x.cps.toList.map λc=>.str ⟨#[c]⟩
def La:D->Option (List D)
 |.str x=>some (ou x)
 |_=>none
theorem ZK (he:XE X ct ms m e f):XI X ct ms n tg e (λρ=>(f ρ).bind La):=by
 obtain⟨t,pt,qt⟩:=he
 refine⟨_,ZJ pt,λF0 B F H ρ σ ds R rs e w=>?_⟩
 obtain⟨d,h1,h2⟩:=aO e
 refine qt F0 B F H ρ σ _ _ rs h1 λv F' H' x l=>?_
 cases d with
 |str z=>
  cases h2
  refine⟨z,l.str,w _ F' H' x λi F2 H2 s1 s2 s3=>⟨λd hd=>?_,λhl=>?_⟩⟩
  ·unfold ou at hd
   rw[bI]at hd
   obtain⟨c,hc,rfl⟩:=dh.mp hd
   have t5:z.cps[i]?=some c:=by simpa using hc
   refine⟨⟨c,t5⟩,λy H3 hy=>?_⟩
   obtain⟨rfl,c2,h3,rfl⟩:=hy
   rw[t5]at h3
   cases h3
   exact⟨F2,.refl s3,Al.of (.str _)⟩
  ·unfold ou at hl
   rw[bj,dJ]at hl
   exact Array.getElem?_eq_none hl
 |_=>cases h2
theorem Xy {κ:Type}[DecidableEq κ](k:κ)(v:V):∀{ks:List κ} {vs:List V},ks.length=vs.length->putK (ks.zip vs) k v=(if ks.contains k=true then ks.zip ((ks.zip vs).map λp=>if p.1=k then v else p.2)else(ks++[k]).zip (vs++[v])):=by
 intro ks vs hl
 unfold putK
 have e:((ks.zip vs).any λkv=>decide (kv.1=k))=ks.contains k:=by
  rw[Bool.eq_iff_iff,fm,List.contains_iff_mem]
  constructor
  ·rintro⟨p,hp,he⟩
   have:=decide_eq_true_iff.mp he
   rw[←this]
   exact(fQ hp).1
  ·intro hk
   obtain⟨i,hi,rfl⟩:=List.getElem_of_mem hk
   exact⟨(ks[i],vs[i]'(by omega)),cR.mpr ⟨i,by simp;omega,by simp⟩,by simp⟩
 rw[e]
 by_cases h:ks.contains k=true
 ·rw[if_pos h,if_pos h]
  clear e h
  induction ks generalizing vs with
  |nil=>simp
  |cons y ks ih=>
   cases vs with
   |nil=>simp at hl
   |cons u vs=>
    simp only[eJ,bi,ih (by simpa using hl)]
    by_cases hy:y=k<;>simp[hy]
 ·rw[if_neg h,if_neg h,rO hl]
  rfl
end
end L3
namespace L3
open PySem PySem.Spec L2
open PyProof.Rows hiding St
section
variable {X:Cx}{ct:Nat->af}{ms:List Mo}{rk n m k:Nat}{st:bP}{rest:List bP}{a b c e tg:Expr}{f g h:EF}{p q:BF}{u w:SF}{pos:cx}
def oS (i:Nat)(fj f:EF):SF:=λρ=>(f ρ).bind λd=>(eV i ρ).bind λo=>(fj ρ).bind λj=>match o with
 |.dK ks ds=>(sX j).bind λk=>if ks.length<16777216 then some (.nx (ρ.set i (some (.dK (fz ks ds k d).1 (fz ks ds k d).2))))else none
 |.dT ks ds=>(match j with
  |.tup js=>(ml js).bind λk=>if ks.length<16777216 then some (.nx (ρ.set i (some (.dT (fz ks ds k d).1 (fz ks ds k d).2))))else none
  |_=>none)
 |_=>none
theorem Oq {κ:Type}[DecidableEq κ]{R:D->V->Prop}{d:D}{v:V}(r:R d v)(k:κ){ks:List κ}{ds:List D}{vs:List V}(hl:ks.length=vs.length)(hp:Pr R ds vs) :
  ∃us,putK (ks.zip vs) k v=(fz ks ds k d).1.zip us/\(fz ks ds k d).1.length=us.length/\Pr R (fz ks ds k d).2 us:=by
 rw[Xy k v hl]
 unfold fz
 by_cases h:ks.contains k=true
 ·rw[if_pos h,if_pos h]
  refine⟨_,rfl,by simp[hl],?_⟩
  clear h
  induction ks generalizing ds vs with
  |nil=>simp;exact .nil
  |cons y ks ih=>
   cases hp with
   |nil=>simp at hl
   |cons h t=>
    simp only[eJ,bi]
    refine .cons ?_ (ih (by simpa using hl) t)
    by_cases hy:y=k
    ·rw[if_pos hy,if_pos hy];exact r
    ·rw[if_neg hy,if_neg hy];exact h
 ·rw[if_neg h,if_neg h]
  exact⟨_,rfl,by simp[hl],hp.append (.cons r .nil)⟩
theorem OQ (i:Nat){x:aL}{j:Expr}{p1 iP:cx}{fj:EF}(hm:ms[i]?=some (.ow 1))(hu:X.A.units+1<iD)(hj:XE X ct ms 0 j fj)(he:XE X ct ms 0 e f)(hN:X.N[i]?=some x:=by rfl)(hv:nw X.env.scope x:=by first|exact Or.inl rfl|exact Or.inr (Or.inl rfl)|exact Or.inr (Or.inr rfl))(hd:(x==("__debug__":aL))=false:=by decide)
  (ie:(x==("__classdict__":aL))=false:=by decide) (hs:dn e (some (.Subscript (.Name x p1) j iP)) pos.line X.env=pure false:=by rfl) :
  XS X ct ms rk (.Assign [.Subscript (.Name x p1) j iP] e pos) (oS i fj f):=by
 obtain⟨t,pt,qt⟩:=he
 obtain⟨tj,xR,xT⟩:=hj
 refine⟨_,YA hu (jm hN hv hd ie) xR pt hs,λF0 B F H ρ σ o E rs e z=>?_⟩
 obtain⟨d,g1,g2⟩:=aO e
 obtain⟨d1,tZ,g3,g4,g5⟩:=cW g2
 refine qt F0 B F H ρ σ d _ rs g1 λv0 F1 H1 x1 l0=>?_
 have kQ:=rs.ext x1
 obtain⟨f1,fr,n1,b1,dj,i4,cf,put⟩:=kQ.put (F':=F) (H':=H) hm
 obtain⟨v,hσ,ow⟩:=i4 d1 (yr g3)
 refine⟨v,hσ,xT F0 B F1 H1 ρ σ tZ _ kQ g4 λvj F2 H2 x2 lj=>?_⟩
 have Mg:Dt X.K ct F2 d v0:=Dt.mono x2.ff l0
 cases d1 with
 |dK ks ds=>
  dsimp only at g5
  obtain⟨key,g6,g7⟩:=aO g5
  by_cases hz:ks.length<16777216
  ·rw[if_pos hz]at g7
   cases g7
   obtain⟨ad,vs,qB,rfl,rfl,hF,hH,hl,ol⟩:=ow.dK_inv
   have hA:=x2.hh _ _ hH
   have fA:F2 ad=none:=x2.nf ad _ hH hF
   have e0:=ol.nil0
   subst e0
   have hp:Pr (Dt X.K ct F2) ds vs:=ol.pr λ_ _ _ _ q=>q.1.mono x2.ff
   obtain⟨us,Jb,CA,Jc⟩:=Oq Mg key hl hp
   have hk:=KJ g6 lj
   subst hk
   refine⟨ad,_,rfl,nh.k hA (by rw[fP,←hl,ku,cI];exact hz),?_⟩
   rw[Jb]
   refine z σ F2 _ (kQ.change hm x2 hσ b1 dj cf put ai fA (.inr (.dK fA yb CA (dU.ofPr (Jc.mono λ_ _ q=>⟨q,rfl⟩)))) (fn:=[ad]) (by simp) ?_)
   intro a ha
   rw[br]at ha
   subst ha
   exact .inl ai
  ·rw[if_neg hz]at g7;cases g7
 |dT ks ds=>
  cases tZ with
  |tup js=>
   dsimp only at g5
   obtain⟨key,g6,g7⟩:=aO g5
   by_cases hz:ks.length<16777216
   ·rw[if_pos hz]at g7
    cases g7
    obtain⟨ad,vs,qB,rfl,rfl,hF,hH,hl,ol⟩:=ow.dT_inv
    have hA:=x2.hh _ _ hH
    have fA:F2 ad=none:=x2.nf ad _ hH hF
    have e0:=ol.nil0
    subst e0
    have hp:Pr (Dt X.K ct F2) ds vs:=ol.pr λ_ _ _ _ q=>q.1.mono x2.ff
    obtain⟨us,Jb,CA,Jc⟩:=Oq Mg key hl hp
    obtain⟨bd,ws,rfl,hb,IW⟩:=lj.tup x2.fh
    have hk:=OC g6 IW
    subst hk
    refine⟨ad,_,rfl,nh.t hA hb (by rw[fP,←hl,ku,cI];exact hz),?_⟩
    rw[Jb]
    refine z σ F2 _ (kQ.change hm x2 hσ b1 dj cf put ai fA (.inr (.dT fA yb CA (dU.ofPr (Jc.mono λ_ _ q=>⟨q,rfl⟩)))) (fn:=[ad]) (by simp) ?_)
    intro a ha
    rw[br]at ha
    subst ha
    exact .inl ai
   ·rw[if_neg hz]at g7;cases g7
  |_=>cases g5
 |_=>cases g5
def Ed (K:aa):V->V->Hp->VK->Prop:=λo i H Q=>∃p xs k v,o=.ref p/\i=.int k/\dC K H p xs/\atI xs k=some v/\Q v H
theorem WF:Ab X (Ed X.K):=by
 intro ah s σ H o i ov iv Q I ro ri h
 obtain⟨p,xs,k,z,rfl,rfl,hq,he,q⟩:=h
 cases ro
 obtain⟨t,rfl⟩:=ri
 obtain⟨bZ,r,pl,hz⟩:=I.list hq
 obtain⟨j,h1,h2,h3,h4,h5⟩:=Gm he
 obtain⟨w,ew,oo⟩:=r.get h2
 have hl:=r.length
 have hn:=jD
 have fin:EP X ah σ Q w s:=⟨z,H,I,oo,q⟩
 by_cases h0:0<=k
 ·have hj:k.toNat=j:=by
   rw[my h0 h5]at h1
   exact Option.some.inj h1
  exact wpAny_getItem_list pl.isList h0 (by omega) (by rw[hj];simpa using ew) fin
 ·have hj:(k+(bZ.toArray.size:Int)).toNat=j:=by
   rw[lH (by omega) h4]at h1
   rw[aK,←hl]
   exact Option.some.inj h1
  exact wpAny_getItem_list_neg pl.isList (by omega) (by rw[aK]<;>omega) (by omega) (by rw[hj];simpa using ew) fin
def nB (i:Nat)(fj:EF)(gi:Int->Int->Int)(f:EF):SF:=λρ=>(eV i ρ).bind λo=>(fj ρ).bind λj=>(f ρ).bind λy=>match o,j with
 |.lst ds,.int z=>(atI ds z).bind λx=>(match x,y with
  |.int a,.int b=>(lB ds z (.int (gi a b))).bind λjI=>some (.nx (ρ.set i (some (.lst jI))))
  |_,_=>none)
 |_,_=>none
theorem OR (i:Nat){x:aL}{op:iC}{j:Expr}{p1 iP:cx}{fj:EF}{gi:Int->Int->Int}(ho:yV X op (FA gi))(hm:ms[i]?=some (.ow 1))(hj:XE X ct ms n j fj)(he:XE X ct ms m e f)(hN:X.N[i]?=some x:=by rfl)(hv:nw X.env.scope x:=by first|exact Or.inl rfl|exact Or.inr (Or.inl rfl)|exact Or.inr (Or.inr rfl))(hd:(x==("__debug__":aL))=false:=by decide)
  (ie:(x==("__classdict__":aL))=false:=by decide) (ha:∀ov iv new,augStore j ov iv new=(do d7 [new,ov,iv] (nc ov iv new);release [new,ov,iv] [];pure .next):=by intros;rfl) :
  XS X ct ms rk (.AugAssign (.Subscript (.Name x p1) j iP) op e pos) (nB i fj gi f):=by
 obtain⟨t,pt,qt⟩:=he
 obtain⟨tj,xR,xT⟩:=hj
 refine⟨_,Yj (jm hN hv hd ie) xR WF pt ho Oe ha,λF0 B F H ρ σ o E rs e z=>?_⟩
 obtain⟨d1,tZ,g3,g4,g5⟩:=cW e
 obtain⟨d2,g6,g7⟩:=aO g5
 obtain⟨f1,fr,n1,b1,dj,i4,cf,put⟩:=rs.put (F':=F) (H':=H) hm
 obtain⟨v,hσ,ow⟩:=i4 d1 (yr g3)
 refine⟨v,hσ,xT F0 B F H ρ σ tZ _ rs g4 λvj F2 H2 x2 lj=>?_⟩
 cases d1<;>try (cases g7;done)
 rename_i ds
 cases tZ<;>try (cases g7;done)
 rename_i zi
 ·skip
  dsimp only at g7
  obtain⟨da,g8,g9⟩:=aO g7
  obtain⟨ad,vs,qB,rfl,rfl,hF,hH,ol⟩:=ow.lst_inv
  have hA:H2 ad=some (.lst vs):=x2.hh _ _ hH
  have hp:Pr (Al X.K ct F2 H2 0) ds vs:=ol.pr λ_ _ _ _ q=>q.1.mono x2.ff
  obtain⟨va,Rk,Rl⟩:=hp.atI g8
  refine⟨ad,vs,zi,va,rfl,lj.int,dC.of hA,Rk,qt F0 B F2 H2 ρ σ d2 _ (rs.ext x2) g6 λvy F3 H3 x3 ly=>?_⟩
  have iR:=x2.trans x3
  cases da<;>try (cases g9;done)
  rename_i ia
  cases d2<;>try (cases g9;done)
  rename_i ib
  ·skip
   dsimp only at g9
   obtain⟨jI,QW,QX⟩:=aO g9
   cases QX
   obtain⟨jn,QY,QZ⟩:=aO QW
   cases QZ
   have Rc:H3 ad=some (.lst vs):=x3.hh _ _ hA
   have fA:F3 ad=none:=iR.nf ad _ hH hF
   have e0:=ol.nil0
   subst e0
   refine⟨ia,ib,Rl.int,ly.int,ad,vs,zi,jn,rfl,lj.int,Rc,by rw[←ol.length];exact QY,?_⟩
   refine z σ F3 _ (rs.change hm iR hσ b1 dj cf put ai fA (.inr (.lst fA yb (dU.set0 ⟨.int _,rfl⟩ (λ_ _ _ q=>q.2) jn (ol.mono λ_ _ _ _ q=>⟨q.1.mono iR.ff,q.2⟩)))) (fn:=[ad]) (by simp) ?_)
   intro a ha
   rw[br]at ha
   subst ha
   exact .inl ai
structure Ic (K:aa)(C:af):Prop where
 cl:kX K C
 ha:ax K (.ref C) "__class__"=some (some (.builtin "object.__class__"))
 hn:cT K (.builtin "object.__class__") "__get__"=some (some (.builtin "getset_descriptor.__get__"))
 ht:gQ K (.builtin "object.__class__")=some true
 hm:dG K C (.type "object")=some true
def qV (all sub:List Nat):D->Option D
 |.obj c _ _=>if all.contains c=true then some (.bl (sub.contains c))else none
 |_=>none
theorem OS {C:af}{x:aL}{all sub:List Nat}{pp p2:cx}(hI:∀c∈all,Ic X.K (ct c)/\bK X.K (.ref (ct c)) (.ref C)=some (sub.contains c))(hm:X.mg "isinstance"=none)(gZ:X.mg x=some (.ref C))(he:XE X ct ms n e f)(hg:Gl X "isinstance":=by rfl)(oO:Gl X x:=by rfl)(hd2:(x==("__debug__":aL))=false:=by decide)
  (Cu:aq [e,.Name x p2] X.env=(false,bq e X.env)::aq [.Name x p2] X.env:=by rfl) (jJ:aq [.Name x p2] X.env=(false,bq (.Name x p2) X.env)::aq [] X.env:=by rfl) (gD:(cj pos (aq [.Name x p2] X.env)).any (·.1)=false:=by rfl) :
  XE X ct ms k (.Call (.Name "isinstance" pp) [e,.Name x p2] [] pos) (e1 (qV all sub) f):=by
 obtain⟨t,pt,qt⟩:=he
 refine⟨_,Kj Ws hg hm MT (ud pt (ud (Oz (v:=.ref C) oO gZ rfl hd2) sf jJ) Cu) (by decide) (by decide) Cu gD,λF0 B F H ρ σ d Q rs e w=>?_⟩
 obtain⟨d1,h1,h2⟩:=aO e
 refine qt F0 B F H ρ σ d1 _ rs h1 λv F' H' x l=>?_
 cases d1 with
 |obj c ns ds=>
  unfold qV at h2
  dsimp only at h2
  by_cases hc:all.contains c=true
  ·rw[if_pos hc]at h2
   cases h2
   obtain⟨a,dx,vs,rfl,ha,_⟩:=l.obj x.fh
   obtain⟨ic,R3⟩:=hI c (by simpa using hc)
   exact⟨_,C,_,_,rfl,.ins ha ic.cl ic.ha ic.hn ic.ht ic.hm,R3,w _ F' H' x (Al.of (.bl _))⟩
  ·rw[if_neg hc]at h2;cases h2
 |_=>cases h2
end
end L3
namespace L3
open PySem PySem.Spec L2
section
variable {K:aa}{ct:Nat->af}{n m k:Nat}
def uC (i:Int):aL:=((toString i:String):aL)
def pF:List D->Option D
 |[.int i]=>if i.natAbs.log2<1920 then some (.str (uC i))else none
 |_=>none
theorem YX:tV K ct [n] k (λxs H Q=>∃i,xs=[.int i]/\i.natAbs.log2<1920/\Q (.str (toString i)) H) pF:=by
 intro F H vs ds d Q s l e w
 cases l with
 |cons h t=>
  cases t
  rename_i d1 v
  cases d1 with
  |int i=>
   unfold pF at e
   dsimp only at e
   by_cases hz:i.natAbs.log2<1920
   ·rw[if_pos hz]at e
    cases e
    exact⟨i,by rw[h.int],hz,w _ F H (.refl s) (Al.of (.str _))⟩
   ·rw[if_neg hz]at e;cases e
  |_=>cases e
end
theorem Xz {i:Int}(h:Sz 1900 i):pF [.int i]=some (.str (uC i)):=by
 unfold pF
 dsimp only
 rw[if_pos]
 by_cases h0:i.natAbs=0
 ·rw[h0];decide
 ·rw[kW h0]
  exact aV h (et (by decide) (by decide))
theorem YY {i:Int}(h:Sz 1900 i):(uC i).length<=1921:=by
 refine PyProof.Rows.int_text_len_1921 ?_
 by_cases h0:i.natAbs=0
 ·rw[h0];decide
 ·rw[kW h0]
  exact aV h (et (by decide) (by decide))
end L3
namespace PySem
section
variable {prog:ba}{w:bM}{A:bD}{R:Result->aj->Prop}{I:af}{fp wr:List af}{n:Nat}{P:Nat->ae->Prop}{St:Nat->aG->Prop}{kw:List (aL×ae)}
end
section
variable {prog:ba}{w:bM}{A:bD}{E:ae->aj->Prop}{s:aj}
end
end PySem
namespace L3
open PySem PySem.Spec L2
section
variable {X:Cx}{ct:Nat->af}{ms:List Mo}{e b:Expr}{f g:EF}{n m k:Nat}
end
end L3
namespace L3
open PySem PySem.Spec L2
open PyProof.Rows hiding St
section
variable {X:Cx}{ct:Nat->af}{ms:List Mo}{rk n m k:Nat}{a b c e o:Expr}{f g h:EF}{pos:cx}
def xX (K:aa):V->List V->Hp->VK->Prop:=λx vs H Q=>∃p ys y j,x=.ref p/\vs=[y]/\dC K H p ys/\iY y=true/\ys.all iY=true/\ys.findIdx? (λz=>pS z y)=some j/\Q (.int (j:Nat)) H
theorem OT:∀{xs:List V} {us:List ae} {x:V},bB xs us->xs.all iY=true->us.map (BZ x)=xs.map λy=>pS y x
 |_,_,_,.nil,_=>rfl
 |y::xs,u::us,x,.cons r t,f=>by
  rw[cQ,bt]at f
  rw[bi,bi,Pf r f.1,OT t f.2]
theorem XB:G1 X "list.index" (xX X.K):=by
 intro ah s σ H x vs v us Q I rx rv h
 obtain⟨p,ys,y,j,rfl,rfl,hq,fy,fs,hj,q⟩:=h
 cases rx
 obtain⟨u,rfl,ru⟩:=rv.one
 obtain⟨bZ,r,pl,hz⟩:=I.list hq
 obtain⟨⟨cls,dd,data,sl⟩,ho,hc,n,hd⟩:=pl.isList
 simp only at hc hd
 subst hc hd
 have hm:=OT (x:=y) r fs
 have eK:=r.length
 obtain⟨j1,j2,j3⟩:=List.findIdx?_eq_some_iff_getElem.mp hj
 have LI:∀i (hi:i<bZ.length),BZ y bZ[i]=pS (ys[i]'(by omega)) y:=λi hi=>by
  have:=congrArg (λl=>l[i]?) hm
  simp only[bI]at this
  rw[gF hi,gF (by omega)]at this
  simpa using this
 have hzl:ys.length<=16777216:=hz
 refine gI PySem.F.slot_list_index ⟨_,ho,rfl⟩ PySem.F.entry_list_index (PySem.F.args_list_index_2 _ _)
  (SeqAt.list_indexAt p bZ.toArray n dd sl u (BZ y) j (by simp;omega) (by omega) ?_ ?_) ⟨ho,λw hw=>Of ru fy r fs w (by simpa using hw),.int (j:Nat),H,I.tok _,⟨_,rfl⟩,q⟩
 ·simp only[nP];rw[LI j (by omega)];exact j2
 ·intro i hi mY
  simp only[nP]
  rw[LI i (by simpa using hi)]
  simpa using j3 i mY
def qU:D->D->Option D
 |.lst ds,x=>if x.sc=true/\ds.all D.sc=true then(ds.findIdx? λy=>rV y x).bind λj=>some (.int (j:Nat))else none
 |_,_=>none
theorem O4 {x:D}(hx:x.sc=true):∀{ds:List D},ds.all D.sc=true->(ds.map D.v).findIdx? (λz=>pS z x.v)=ds.findIdx? λy=>rV y x
 |[],_=>rfl
 |d::ds,h=>by
  rw[cQ,bt]at h
  rw[bi,jL,jL,Ps h.1 hx,O4 hx h.2]
theorem XC {cL cU:cx}(ho:XE X ct ms n o f)(he:XE X ct ms m e g)(lm:aq [e] X.env=(false,bq e X.env)::aq [] X.env:=by rfl)
  (iw:de o "index" X.env (bq o X.env)=bq o X.env:=by rfl)
  (n6:((cj cU (aq [e] X.env)).all (λx=>!x.1)&&(cH cU (bS [] X.env)).all (λx=>x.1.isSome)
   && decide ([e].length+([]:List dQ).length+(if([]:List dQ).isEmpty then 0 else 1)<30))=true:=by rfl)
  (iy:(cL.endLine==cU.line)=true:=by rfl) (jC:(cj cU (aq [] X.env)).any (·.1)=false:=by rfl) :
  XE X ct ms k (.Call (.Attribute o "index" cL) [e] [] cU) (e2 qU f g):=by
 obtain⟨ta,pa,qa⟩:=ho
 obtain⟨tb,pb,qb⟩:=he
 refine⟨_,GO PySem.F.plainAttrs_list PySem.F.slot_list_index PySem.F.type_list_index XB pa (ud pb sf lm) iw n6 iy lm jC,λF0 B F H ρ σ d Q rs e w=>?_⟩
 obtain⟨d1,d2,h1,h2,h3⟩:=cW e
 refine qa F0 B F H ρ σ d1 _ rs h1 λv1 F1 H1 x1 l1=>?_
 cases d1 with
 |lst ds=>
  unfold qU at h3
  dsimp only at h3
  by_cases hz:d2.sc=true/\ds.all D.sc=true
  ·rw[if_pos hz]at h3
   obtain⟨j,hj,h4⟩:=aO h3
   cases h4
   obtain⟨p,vs,rfl,hp,RV⟩:=l1.lst x1.fh
   refine⟨.inl ⟨rfl,_,hp⟩,qb F0 B F1 H1 ρ σ d2 _ (rs.ext x1) h2 λv2 F2 H2 x2 l2=>?_⟩
   have hv:=RV.vs hz.2
   subst hv
   have hx:=Al.v l2 hz.1
   subst hx
   exact⟨p,_,_,j,rfl,rfl,x2.hh.seq hp,D.flat hz.1,Oi hz.2,by rw[O4 hz.1 hz.2];exact hj,w _ F2 H2 (x1.trans x2) (Al.of (.int _))⟩
  ·rw[if_neg hz]at h3;cases h3
 |_=>cases h3
theorem OU:∀{xs:List V} {us:List ae},xs.length=us.length->(∀(i:Nat) (x:V) (u:ae),xs[i]?=some x->us[i]?=some u->L2.RelV x u)->bB xs us
 |[],[],_,_=>.nil
 |[],_::_,h,_=>by cases h
 |_::_,[],h,_=>by cases h
 |x::xs,u::us,h,r=>.cons (r 0 x u rfl rfl) (OU (by simpa using h) λi y w hy hw=>r (i+1) y w (by simpa using hy) (by simpa using hw))
def uI:List V->Hp->VK->Prop:=λvs H Q=>∃j:Int,vs=[.int j]/\0<=j/\j<=16777216/\∀l,H l=none->Q (.ref l) (upd H l (.lst ((eQ 0 j.toNat).map D.v)))
def mm:List D->Option D
 |[.int j]=>if 0<=j/\j<=16777216 then some (.lst (eQ 0 j.toNat))else none
 |_=>none
theorem XD {lo:Int}{n i:Nat}{d:D}(h:(eQ lo n)[i]?=some d):d=.int (lo+(i:Int)):=by
 unfold eQ at h
 rw[bI]at h
 obtain⟨t,ht,rfl⟩:=dh.mp h
 have:=aX.mp ht
 obtain⟨h1,h2⟩:=this
 rw[eI]at h2
 rw[h2]
theorem YZ {ta:TA}{p1 p2 lw:cx}(hc:X.calm=true)(hg:Gl X "list")(hm:X.mg "list"=none)(oO:Gl X "range")(gZ:X.mg "range"=none)(ha:PA X [a] ta)(hs:aq [a] X.env=[(false,bq a X.env)]:=by rfl)
    (jJ:aq [.Call (.Name "range" p2) [a] [] lw] X.env=[(false,bq (.Call (.Name "range" p2) [a] [] lw) X.env)]:=by rfl) :
    PE X (.Call (.Name "list" p1) [.Call (.Name "range" p2) [a] [] lw] [] pos) (JK uI ta):=by
  intro ah s σ H Q I h
  refine cV (qy I hg hm q0 ?_ (by decide) (by decide))
  refine bJ ?_ jJ rfl
  rw[jJ]
  show aQ _ _ (spliced ((false,bq (.Call (.Name "range" p2) [a] [] lw) X.env)::[])) _ _ s
  refine Calls.spliced_cons ?_
  refine cV (qy I oO gZ boot_range ?_ (by decide) (by decide))
  refine bJ (cP (ha lw ah s σ H _ I h) λus s1 ⟨vs,H1,I1,r1,q1⟩=>?_) hs rfl
  obtain⟨j,rfl,h1,h2,q⟩:=q1
  obtain⟨u,rfl,t,rfl⟩:=mw r1
  refine call_range_1 (Calls.spliced_nil ?_)
  have I2:L2.Inv X ah σ H1 { s1 with heap:=s1.heap.push { cls:=.type "range",data:=.fields #[.int 0 s1.toks,.int j t,.int 1 (s1.toks+1)] },toks:=s1.toks+1+1 }:=I1.kept λb o e=>am _ e
  have hsz:dc.Range.rangeSize 0 j 1=(j.toNat:Int):=by rw[rangeSize_one];split<;>omega
  refine call_list_range (n:=j.toNat) (I2.ok.hd hc) (IsRange.new ..) (small_one (by omega) (by omega) (by omega) (by omega)) hsz (by omega) λh' tk Ad c' kp hS Iu=>?_
  have hv:bB ((eQ 0 j.toNat).map D.v) Ad.toList:=by
    obtain⟨e1,e2⟩:=Iu
    refine OU (by simp[eQ,e1]) λi x u hx hu=>?_
    obtain⟨t,rfl⟩:=e2 i u (by simpa using hu)
    rw[bI]at hx
    obtain⟨d,hd,rfl⟩:=dh.mp hx
    have hd:=XD hd
    subst hd
    exact⟨t,by rw[Int.mul_one]⟩
  have hl:((eQ 0 j.toNat).map D.v).length<=sizeLine:=by rw[cI];simp[eQ];omega
  exact⟨.ref _,_,I2.laid (t':=tk) kp (aE _) (show dE X.prog X.w _ h' _ (.lst _)from⟨hl,Ad.toList,c',hv,hS⟩),rfl,q _ (I2.hok.fresh (aE _))⟩
theorem Y0 (lo:Int)(n:Nat):(eQ lo n).all D.sc=true:=by
 rw[bp]
 intro d hd
 unfold eQ at hd
 obtain⟨t,_,rfl⟩:=eA.mp hd
 rfl
theorem D7 {K:aa}{F G:Hp}:∀{ds:List D},ds.all D.sc=true->Pr (Al K ct F G 0) ds (ds.map D.v)
 |[],_=>.nil
 |d::ds,h=>by
  rw[cQ,bt]at h
  refine .cons ?_ (D7 h.2)
  cases d with
  |non=>exact Al.of .non
  |bl b=>exact Al.of (.bl b)
  |int b=>exact Al.of (.int b)
  |str b=>exact Al.of (.str b)
  |_=>cases h.1
theorem XF {K:aa}:uX K ct [n] 1 uI mm:=by
 intro F H vs ds d Q s l e w
 cases l with
 |cons h t=>
  cases t
  rename_i d1 v
  cases d1 with
  |int j=>
   unfold mm at e
   dsimp only at e
   by_cases hz:0<=j/\j<=16777216
   ·rw[if_pos hz]at e
    cases e
    exact⟨j,by rw[h.int],hz.1,hz.2,zO s (D7 (Y0 0 j.toNat)) w⟩
   ·rw[if_neg hz]at e;cases e
  |_=>cases e
theorem Y1 {fs:Env->Option (List D)}{p1 p2 lw:cx}(hc:X.calm=true)(hg:Gl X "list")(hm:X.mg "list"=none)(oO:Gl X "range")(gZ:X.mg "range"=none)(ha:XA X ct ms [a] [n] fs)(hs:aq [a] X.env=[(false,bq a X.env)]:=by rfl)
  (jJ:aq [.Call (.Name "range" p2) [a] [] lw] X.env=[(false,bq (.Call (.Name "range" p2) [a] [] lw) X.env)]:=by rfl) :
  XO X ct ms 1 (.Call (.Name "list" p1) [.Call (.Name "range" p2) [a] [] lw] [] pos) (eN mm fs):=by
 obtain⟨t,pt,_,qt⟩:=ha
 refine⟨_,YZ hc hg hm oO gZ pt hs jJ,λF0 B F H ρ σ r Q rs e w=>?_⟩
 obtain⟨ds,h1,h2⟩:=aO e
 exact qt F0 B F H ρ σ ds _ rs h1 λvs F1 H1 x1 l=>XF F1 H1 vs ds r Q x1.fh l h2 λv F2 H2 fp x2 l2 nd hf=>w v F2 H2 fp (x1.trans x2) l2 nd λz hz=>x1.hh.free (hf z hz)
def mP (i j:Nat)(f:EF):SF:=λρ=>(eV i ρ).bind λo=>(eV j ρ).bind λq=>(f ρ).bind λz=>match o,q,z with
 |.lst ds,.lst es,.int y=>if ds.length<16777216/\es.length<=16777216 then(ixN es.length y).bind λt=>es[t]?.bind λd=>some (.nx ((ρ.set j (some (.lst (es.eraseIdx t)))).set i (some (.lst (ds++[d])))))else none
 |_,_,_=>none
theorem Pr.erase {R:D->V->Prop}:∀{ds:List D} {vs:List V} (i:Nat),Pr R ds vs->Pr R (ds.eraseIdx i) (vs.eraseIdx i)
 |_,_,_,.nil=>.nil
 |_,_,0,.cons h t=>t
 |_,_,i+1,.cons h t=>.cons h (t.erase i)
theorem WG (i j:Nat){x y:aL}{p1 p2 cL cU lf iW:cx}(hm:ms[i]?=some (.ow 1))(gZ:ms[j]?=some (.ow 1))(Rz:i≠j)(he:XE X ct ms n e f)
  (hN:X.N[i]?=some x:=by rfl) (hv:nw X.env.scope x:=by first|exact Or.inl rfl|exact Or.inr (Or.inl rfl)|exact Or.inr (Or.inr rfl)) (hd:(x==("__debug__":aL))=false:=by decide) (ie:(x==("__classdict__":aL))=false:=by decide)
  (Iq:X.N[j]?=some y:=by rfl) (rZ:nw X.env.scope y:=by first|exact Or.inl rfl|exact Or.inr (Or.inl rfl)|exact Or.inr (Or.inr rfl)) (hd2:(y==("__debug__":aL))=false:=by decide) (wX:(y==("__classdict__":aL))=false:=by decide)
  (lm:aq [e] X.env=(false,bq e X.env)::aq [] X.env:=by rfl)
  (wR:de (.Name y p2) "pop" X.env (bq (.Name y p2) X.env)=bq (.Name y p2) X.env:=by rfl)
  (Cf:((cj iW (aq [e] X.env)).all (λx=>!x.1)&&(cH iW (bS [] X.env)).all (λx=>x.1.isSome)
   && decide ([e].length+([]:List dQ).length+(if([]:List dQ).isEmpty then 0 else 1)<30))=true:=by rfl)
  (xA:(lf.endLine==iW.line)=true:=by rfl) (sQ:(cj iW (aq [] X.env)).any (·.1)=false:=by rfl)
  (Cw:aq [.Call (.Attribute (.Name y p2) "pop" lf) [e] [] iW] X.env=(false,bq (.Call (.Attribute (.Name y p2) "pop" lf) [e] [] iW) X.env)::aq [] X.env:=by rfl)
  (iw:de (.Name x p1) "append" X.env (bq (.Name x p1) X.env)=bq (.Name x p1) X.env:=by rfl)
  (n6:((cj cU (aq [.Call (.Attribute (.Name y p2) "pop" lf) [e] [] iW] X.env)).all (λx=>!x.1)&&(cH cU (bS [] X.env)).all (λx=>x.1.isSome)
   && decide ([Expr.Call (.Attribute (.Name y p2) "pop" lf) [e] [] iW].length+([]:List dQ).length+(if([]:List dQ).isEmpty then 0 else 1)<30))=true:=by rfl)
  (iy:(cL.endLine==cU.line)=true:=by rfl) (jC:(cj cU (aq [] X.env)).any (·.1)=false:=by rfl)
  (qR:dn (.Call (.Attribute (.Name x p1) "append" cL) [.Call (.Attribute (.Name y p2) "pop" lf) [e] [] iW] [] cU) none pos.line X.env=pure false:=by rfl) :
  XS X ct ms rk (.Expr (.Call (.Attribute (.Name x p1) "append" cL) [.Call (.Attribute (.Name y p2) "pop" lf) [e] [] iW] [] cU) pos) (mP i j f):=by
 obtain⟨t,pt,qt⟩:=he
 refine⟨_,EM (GO PySem.F.plainAttrs_list PySem.F.slot_list_append PySem.F.type_list_append FU (jm hN hv hd ie)
  (ud (GO PySem.F.plainAttrs_list PySem.F.slot_list_pop PySem.F.type_list_pop Xc (jm Iq rZ hd2 wX) (ud pt sf lm) wR Cf xA lm sQ) sf Cw) iw n6 iy Cw jC) qR,λF0 B F H ρ σ o E rs e z=>?_⟩
 obtain⟨d1,d2,h1,h2,h3⟩:=cW e
 obtain⟨d3,h4,h5⟩:=aO h3
 cases d1 with
 |lst ds=>
  cases d2 with
  |lst es=>
   cases d3 with
   |int w=>
    dsimp only at h5
    by_cases hz:ds.length<16777216/\es.length<=16777216
    ·rw[if_pos hz]at h5
     obtain⟨t2,h6,h7⟩:=aO h5
     obtain⟨d,h8,h9⟩:=aO h7
     cases h9
     obtain⟨g1,gr,gn1,gb1,gdj,Q1,gcf,Q3⟩:=rs.put (F':=F) (H':=H) hm
     obtain⟨v,hσ,ow⟩:=Q1 _ (yr h1)
     obtain⟨ad,vs,qB,rfl,rfl,hF,hH,ol⟩:=ow.lst_inv
     obtain⟨f1,fr,n1,b1,dj,i4,cf,put⟩:=rs.put (F':=F) (H':=H) gZ
     obtain⟨v2,L4,Tv⟩:=i4 _ (yr h2)
     obtain⟨bd,us,Ie,rfl,rfl,sJ,pz,pB⟩:=Tv.lst_inv
     have z2:=dU.nil0 pB
     subst z2
     refine⟨_,hσ,.inl ⟨rfl,_,dC.of hH⟩,_,L4,.inl ⟨rfl,_,dC.of pz⟩,qt F0 B F H ρ σ _ _ rs h4 λv3 F' H' x1 l3=>?_⟩
     have RU:=l3.int
     subst RU
     obtain⟨s1,s2,s3,s4⟩:=Ky h6
     have Re:H' bd=some (.lst us):=x1.hh _ _ pz
     have fB:F' bd=none:=x1.nf bd _ pz sJ
     have lu:=pB.length
     have MA:Pr (λd v=>Dt X.K ct F' d v) es us:=pB.pr λd v f _ q=>q.1.mono x1.ff
     obtain⟨u,hu,ru⟩:=MA.get' h8
     refine⟨bd,us,w,t2,u,rfl,rfl,Re,by omega,by omega,by rw[←lu];exact s1,hu,?_⟩
     have kQ:=rs.change gZ x1 L4 b1 dj cf put ai fB (d':=.lst (es.eraseIdx t2)) (o:=.lst (us.eraseIdx t2)) (.inr (.lst fB yb (dU.ofPr ((MA.erase t2).mono λ_ _ q=>Ow.zero q)))) (fn:=[bd]) (by simp) (λa ha=>by
      rw[br]at ha;subst ha;exact .inl ai)
     obtain⟨g1',gr',Q2,Ik,Im,Io,Il,B5⟩:=kQ.put (F':=F') (H':=upd H' bd (.lst (us.eraseIdx t2))) hm
     have mh:(ρ.set j (some (D.lst (es.eraseIdx t2))))[i]? = ρ[i]?:=el (λe=>Rz e.symm)
     obtain⟨v',Fz,FF⟩:=Io (.lst ds) (by rw[mh];exact yr h1)
     rw[hσ]at Fz
     cases Fz
     obtain⟨ad',FQ,QT,e1,rfl,LD,Rf,Jx⟩:=FF.lst_inv
     cases e1
     have zn:=dU.nil0 Jx
     subst zn
     refine⟨ad,FQ,u,rfl,rfl,Rf,by rw[←Jx.length,cI];exact hz.1,?_⟩
     refine z σ F' _ (kQ.change hm (.refl kQ.fh) hσ Ik Im Il B5 ai LD (.inr (.lst LD yb ((Jx.mono λ_ _ f' hi o'=>?_).append (.cons (f:=[]) (Ow.zero ru) .nil)))) (fn:=[ad]) (by simp) λa ha=>by
      rw[br]at ha;subst ha;exact .inl ai)
     exact o'
    ·rw[if_neg hz]at h5;cases h5
   |_=>cases h5
  |_=>cases h5
 |_=>cases h5
end
end L3
namespace L2
open PySem PyProof.Rows
theorem XH {X:Cx}{ah:List (af×dq)}{σ:St}{H:Hp}{s:aj}{QV:VK}{use:Option (ae->m9 Unit)}{Q0:ae->aj->Prop}{iI iter tg:Expr}{ifs:List Expr}{scope:eY}{pos lw:cx}{N:List aL}{own:Nat}{cap:List Nat}{wi:TI}{g:TG}{tt:TT}{te:TE}(B:jN X scope N own cap)(hc:X.calm=true)(hi:PI X tg iter wi)
    (kg:e9 own g)
    (hg:∀cl C fp s₀ H₀,PG (gK X scope cl N C fp s₀ H₀) tg g) (ht:∀cl C fp s₀ H₀,tW (gK X scope cl N C fp s₀ H₀) ifs tt) (he:∀cl C fp s₀ H₀,PE (gK X scope cl N C fp s₀ H₀) iI te)
    (hs:∀x,dm iter X.env x=pure x) (I:Inv X ah σ H s) (h:oT wi own cap g tt te σ H QV)
    (fin:∀(D C:af) (H5:Hp) (s6:aj) (r:Flow),QV (.ref D) H5->Inv X ah σ H5 s6->jO X ah H5 C->(∃m,s6.heap.Ns C m)->nJ (aU X.prog X.w) X.A X.xe use Q0 (.ref D) C (.ok r) s6) :
    aQ (aU X.prog X.w) X.A (comprehension (.ListComp iI [⟨tg,iter,ifs,0⟩] scope pos) scope X.env lw (newList []) false (bq iter X.env) use) Q0 X.xe s:=by
  obtain⟨cl,Fo,c1,c2,_⟩:=FV (env:=X.env) scope.names [] (λx hx hf=>I.ok.has x.1 (B.free x hx hf)) (λy c e=>by simp at e)
  have qG:nH scope X.env=pure cl:=by
    have e:nH scope X.env=(forIn scope.names ([]:List (aL×af)) (λ(x:aL×aZ) (cs:List (aL×af))=>if(x.2==aZ.free)=true then do let a ← cellOf X.env x.1;pure (ForInStep.yield ((x.1,a)::cs))else pure (ForInStep.yield cs)) >>= pure:m9 (List (aL×af))):=rfl
    rw[e,Fo]
    rfl
  refine wpAny_comprehension_free (use:=use) rfl hs qG B.kind B.locs (cP (hi ah s σ H _ I h) λv s1 h1=>cP h1 λFB s2 h2=>?_)
  obtain⟨it,fp,tn,J,H2,e,I2,T,sd,f2,W0⟩:=h2
  subst e
  obtain⟨W,⟨m0,w0⟩,bY⟩:=W0 s2.heap.objs.size (I2.hok.fresh (aE _))
  refine wpAny_newObj_type ?_
  have I3:Inv X ah σ (upd H2 s2.heap.objs.size (.lst [])) { s2 with heap:=s2.heap.push { cls:=.type "list",data:=.seq ([]:List ae).toArray } }:=I2.lnew .nil (dP _)
  generalize Cv:({ s2 with heap:=s2.heap.push { cls:=.type "list",data:=.seq ([]:List ae).toArray } }:aj)=s3 at I3
  have k3:∀b o,s2.heap.get? b=some o->s3.heap.get? b=some o:=λb o e=>by rw[←Cv];exact am _ e
  have z3:s3.heap.objs.size=s2.heap.objs.size+1:=by rw[←Cv];exact cJ _ _
  have n8:∀b∈fp,b<s2.heap.objs.size:=λb hb=>by
    obtain⟨o,e,_⟩:=T.obj _ _ sd b hb
    exact aB e
  have mh:∀b∈fp,b≠s2.heap.objs.size:=λb hb=>aR (n8 b hb)
  have f3:∀b∈fp,jO X ah (upd H2 s2.heap.objs.size (.lst [])) b:=λb hb=>⟨by rw[zx (mh b hb)];exact(f2 b hb).1,(f2 b hb).2⟩
  have FM:tn 0 s3.heap:=T.keep _ _ _ sd λb _ o e=>k3 b o e
  show aQ _ _ (jT scope X.env.globals cl [] X.env.qual none .none (some X.env)) _ _ _
  refine Ng λh₁ kk xE wZ=>?_
  have IB:=NN (t':=s3.toks) B I3 c1 c2 f3 (λb hb=>by rw[z3];exact ed (n8 b hb)) xE kk wZ
  generalize cellsFrom (s3.heap.objs.size+1) scope.names cl=cl at IB ⊢
  generalize IY:({ s3 with heap:=h₁,toks:=s3.toks }:aj)=s4 at IB
  have Ez:tn 0 s4.heap:=T.keep _ _ _ FM λb _ o e=>by rw[←IY];exact kk b o e
  show gC (aU X.prog X.w) X.A (.compStart (.ListComp iI [⟨tg,iter,ifs,0⟩] scope pos) 0 (.ref it) (.ref s2.heap.objs.size) (nI scope cl s3.heap.objs.size X.env))
      (nJ (aU X.prog X.w) X.A X.xe use Q0 (.ref s2.heap.objs.size) s3.heap.objs.size) s4
  have lC:∀{H':Hp},(∀b∈fp,H' b=none)->∀b∈fp,jO (gK X scope cl N s3.heap.objs.size fp s3 (upd H2 s2.heap.objs.size (.lst []))) [] H' b:=λhn b hb=>
    ⟨hn b hb,aR (by show b<s3.heap.objs.size;rw[z3];exact ed (n8 b hb)),IB.ok.exfs b hb,.inl hb,λx c e=>(IB.ok.exf b hb).2 x c e,λp hp=>(nomatch hp)⟩
  have loop:gC (aU X.prog X.w) X.A (.compLoop (.ListComp iI [⟨tg,iter,ifs,0⟩] scope pos) 0 (.ref it) (.ref s2.heap.objs.size) (nI scope cl s3.heap.objs.size X.env))
      (nJ (aU X.prog X.w) X.A X.xe use Q0 (.ref s2.heap.objs.size) s3.heap.objs.size) s4:=by
    refine Nf (λn s'=>∃i ys H',Inv (gK X scope cl N s3.heap.objs.size fp s3 (upd H2 s2.heap.objs.size (.lst []))) [] (aI own none++e7 σ cap) H' s'/\tn i s'.heap/\(∀b∈fp,H' b=none)/\W i n ys H') ?_ m0
      ⟨0,[],_,IB,Ez,λb hb=>(f3 b hb).1,w0⟩
    rintro n s5 ⟨i,ys,H5,I5,tI,wK,w5⟩
    obtain⟨hD,t8⟩:=bY i n ys H5 w5
    rcases t8 with⟨stop,qn⟩|⟨go,mY,step⟩
    · refine cP (T.done (gK X scope cl N s3.heap.objs.size fp s3 (upd H2 s2.heap.objs.size (.lst []))) rfl rfl rfl hc i [] s5 _ H5 (λ_ _=>False) I5 (lC wK) tI stop) λr s6 df=>?_
      obtain⟨hr,I6⟩:=df
      subst hr
      obtain⟨m,hm,_⟩:=id I6.loc
      refine fin s2.heap.objs.size s3.heap.objs.size H5 s6 _ qn ?_ (I3.fpOk (aE _) I6.free) ⟨m,hm⟩
      have sb:ez s3.heap.objs.size s6.heap s6.heap:=⟨rfl,λ_ _=>rfl⟩
      have U:=I6.base
      have nC:∀b o,s3.heap.get? b=some o->b≠s3.heap.objs.size:=λb o e=>aR (aB e)
      have nT:∀b o,H5 b=some o->b≠s3.heap.objs.size:=λb o e z=>by
        have q:H5 s3.heap.objs.size=none:=I6.free
        rw[z,q]at e
        cases e
      refine I3.call' (ch:=fp) I6.os ?_ (λa o e=>(I6.hok a o e).stay (λb u hb q=>sb.extBut b u ?_ q) (λ_ q=>q) λ_ _ q=>q) I6.bare (λb hb=>⟨(f3 b hb).2.2.2.1,(f3 b hb).2.1,(f3 b hb).2.2.2.2.1,(f3 b hb).2.2.2.2.2⟩)
      · exact{
          keep:=λb o e z hb he=>sb.extBut b o (nC b o e) (U.keep b o e z hb he)
          slot:=λb o e z hb he=>by
            obtain⟨sl,q⟩:=U.slot b o e z hb he
            exact⟨sl,sb.extBut b _ (nC b o e) q⟩
          free:=U.free
          there:=λb o e he=>by
            obtain⟨o',q⟩:=U.there b o e he
            exact⟨o',sb.extBut b o' (nC b o e) q⟩
          tups:=U.tups
          frzs:=U.frzs
          tbls:=U.tbls }
      · rcases hb with rfl|hb
        · exact nT _ _ e
        · exact nT _ _ hb
    · refine cP (T.item (gK X scope cl N s3.heap.objs.size fp s3 (upd H2 s2.heap.objs.size (.lst []))) rfl rfl rfl hc i [] s5 _ H5 (λ_ _=>False) I5 (lC wK) tI go) λr s6 df=>?_
      obtain⟨u,hr,h6⟩:=df
      subst hr
      refine cP h6 λ_ s7 df=>?_
      obtain⟨x,H7,I7,r7,y7,yC,Ig⟩:=df
      have GV:=I7.pinned (lC Ig) (T.obj _ _ yC)
      refine cP (hg cl s3.heap.objs.size fp s3 _ _ s7 _ H7 x u _ GV r7 (kg _ _ _ _ (step x H7 y7))) λ_ s8 df=>?_
      obtain⟨σ8,H8,I8,q8,l8,p8⟩:=df
      have back:∀{H9:Hp} {s9:aj},Inv (gK X scope cl N s3.heap.objs.size fp s3 (upd H2 s2.heap.objs.size (.lst []))) ([]++kj fp s7.heap) σ8 H9 s9 ->
          Inv (gK X scope cl N s3.heap.objs.size fp s3 (upd H2 s2.heap.objs.size (.lst []))) [] (aI own none++e7 σ cap) H9 s9/\tn (i+1) s9.heap/\∀b∈fp,H9 b=none:=λ{H9 s9} I9=>by
        refine⟨(I9.unpinned).weak l8.symm (λj v e=>?_),T.keep _ _ _ yC λb hb o e=>(I9.pin (b,o) (aF _ (aF _ (jc hb e)))).1,λb hb=>?_⟩
        · by_cases hj:j<own
          · rw[cv (by rw[cO];exact hj),eM,if_pos hj]at e
            cases e
          · rw[p8 j (by omega)];exact e
        · obtain⟨o,e,d⟩:=T.obj _ _ yC b hb
          exact(I9.pin (b,o) (aF _ (aF _ (jc hb e)))).2.1
      refine cP (ht cl s3.heap.objs.size fp s3 _ _ s8 σ8 H8 _ I8 q8) λok s9 df=>?_
      obtain⟨H9,I9,q9⟩:=df
      cases ok with
      |false=>
        rw[if_neg aN]
        rw[if_neg aN]at q9
        obtain⟨m',xB,w'⟩:=q9
        obtain⟨b1,b2,b3⟩:=back I9
        exact⟨m',xB,i+1,ys,H9,b1,b2,b3,w'⟩
      |true=>
        rw[if_pos rfl]
        rw[if_pos rfl]at q9
        refine cP (he cl s3.heap.objs.size fp s3 _ _ s9 σ8 H9 _ I9 q9) λuy JF df=>?_
        obtain⟨y,zV,GS,r10,wL,m',xB,w'⟩:=df
        refine cP (FU _ JF σ8 zV (.ref s2.heap.objs.size) [y] (.ref s2.heap.objs.size) [uy] (λ_ zW=>zW=upd zV s2.heap.objs.size (.lst (ys++[y]))) GS rfl (.cons r10 .nil) ⟨_,ys,y,rfl,rfl,wL,mY,rfl⟩) λ_ TJ df=>?_
        obtain⟨_,zW,GU,_,Hs⟩:=df
        subst Hs
        obtain⟨b1,b2,b3⟩:=back GU
        exact⟨m',xB,i+1,ys++[y],_,b1,b2,b3,w'⟩
  exact codeAny_compStart_list loop (T.self X.A 0 s4 _ _ Ez loop)
theorem V4 {X:Cx}{i:Nat}{x:aL}{pos' rA:cx}{iI iter tg:Expr}{ifs:List Expr}{scope:eY}{pos:cx}{N:List aL}{own:Nat}{cap:List Nat}{wi:TI}{g:TG}{tt:TT}{te:TE}(B:jN X scope N own cap)(hc:X.calm=true)(hi:PI X tg iter wi)
  (kg:e9 own g)
  (hg:∀cl C fp s₀ H₀,PG (gK X scope cl N C fp s₀ H₀) tg g) (ht:∀cl C fp s₀ H₀,tW (gK X scope cl N C fp s₀ H₀) ifs tt) (he:∀cl C fp s₀ H₀,PE (gK X scope cl N C fp s₀ H₀) iI te)
  (hN:X.N.Nodup) (Ft:X.N[i]?=some x) (hx:Loc X.env.scope x) (qR:dn (.ListComp iI [⟨tg,iter,ifs,0⟩] scope pos) (some (.Name x pos')) rA.line X.env=pure true)
  (hs:∀x,dm iter X.env x=pure x:=by intro _;rfl) (hf:X.fn x=true\/X.env.scope.names.lookup x=some .local:=by first|exact .inl rfl|exact .inr rfl|assumption) :
  PS X (.Assign [.Name x pos'] (.ListComp iI [⟨tg,iter,ifs,0⟩] scope pos) rA) (yD (oT wi own cap g tt te) (oM i)):=by
 intro ah s σ H D I h
 rw[exec_Assign_Name_used _ _ _ _ qR]
 refine av (kJ (av ?_))
 show aQ _ X.A (do let _ ← comprehension (.ListComp iI [⟨tg,iter,ifs,0⟩] scope pos) scope X.env _ (newList []) false (bq iter X.env) (some (gm (.Name x pos') X.env))) _ _ s
 refine av (d9 (XH (use:=some (gm (.Name x pos') X.env)) (Q0:=λ_ s'=>∃σ' H',Inv X ah σ' H' s'/\D.nx σ' H') B hc hi kg hg ht he hs I h λDa C H5 s6 r q I6 fo hm=>?_) (λ_ s' hq=>bc (bc hq)) λ_ _ e=>e)
 show aQ _ X.A (gm (.Name x pos') X.env (.ref Da)) _ _ _
 refine wpAny_assign_Name (NB (v:=.ref Da) I6 hN Ft hx rfl (λs7 I7 RP=>?_) hf)
 obtain⟨m,hm⟩:=hm
 obtain⟨a,sb,ha⟩:=RP
 obtain⟨f0,f1,f2,f3,f4,f5⟩:=fo
 have mh:C≠a:=by
  rcases ha with rfl|ha
  ·exact f1
  ·exactλz=>f4 x a ha z.symm
 refine⟨m,hm.sameBut sb mh,λh' TN=>⟨_,H5,I7.turned (t':=s7.toks) (it:=C) (λb o hb e=>TN.extBut b o hb e) f0 f1 f3 f4 f5,q⟩⟩
end L2
namespace L3
open PySem PySem.Spec L2
open PyProof.Rows hiding St
section
variable {X:Cx}{ct:Nat->af}{ms:List Mo}{rk n m k:Nat}{a b c e o:Expr}{f g h:EF}{pos:cx}
theorem ur {om:List Mo}{iI iter tg:Expr}{ifs:List Expr}{scope:eY}{N:List aL}{own:Nat}{cap:List Nat}{fi:Env->Option (List D)}{gg:D->Env->Option Env}{p:BF}{i:Nat}{x:aL}{pos' rA:cx}
  (hm:ms[i]?=some (.ow k)) (hN:X.N.Nodup) (Ft:X.N[i]?=some x) (hx:Loc X.env.scope x)
  (B:jN X scope N own cap) (hc:X.calm=true) (ho:om.length=own) (e8:∀i∈cap,i<ms.length) (hi:rS X ct ms n tg iter fi)
  (hg:∀cl C fp s₀ H₀,sq (gK X scope cl N C fp s₀ H₀) ct (om++fY ms cap) own n tg gg) (ht:∀cl C fp s₀ H₀,uZ (gK X scope cl N C fp s₀ H₀) ct (om++fY ms cap) ifs p) (he:∀cl C fp s₀ H₀,XO (gK X scope cl N C fp s₀ H₀) ct (om++fY ms cap) (k-1) iI f)
  (qR:dn (.ListComp iI [⟨tg,iter,ifs,0⟩] scope pos) (some (.Name x pos')) rA.line X.env=pure true:=by rfl)
  (hs:∀x,dm iter X.env x=pure x:=by intro _;rfl) (hf:X.fn x=true\/X.env.scope.names.lookup x=some .local:=by first|exact .inl rfl|exact .inr rfl|assumption) :
  XS X ct ms rk (.Assign [.Name x pos'] (.ListComp iI [⟨tg,iter,ifs,0⟩] scope pos) rA) (sSet i (cX fi own cap gg p f)):=by
 obtain⟨wi,g,tt,te,pi,kg,pg,pt,pe,q⟩:=Oj (k:=k-1) (pos:=pos) B hc ho e8 hi hg ht he
 refine⟨_,V4 B hc pi kg pg pt pe hN Ft hx qR hs hf,λF0 B F H ρ σ o E rs e w=>?_⟩
 obtain⟨d,h1,h2⟩:=aO e
 cases h2
 cases k with
 |succ k=>exact q F0 B F H ρ σ d _ rs h1 λv F' H' fp x l nd hf=>w _ F' H' (rs.set hm x l nd hf)
 |zero=>
  refine q F0 B F H ρ σ d _ rs h1 λv F' H' fp x l nd hf=>?_
  obtain⟨F2,x2,l2⟩:=l.freeze x hf
  exact w _ F2 H' (rs.set hm x2 (Ow.zero l2) bL λa z=>by cases z)
theorem KF {i:Nat}{x:aL}{pos':cx}(hm:ms[i]?=some (.ow k))(hN:X.N[i]?=some x:=by rfl)(hv:nw X.env.scope x:=by first|exact Or.inl rfl|exact Or.inr (Or.inl rfl)|exact Or.inr (Or.inr rfl))(hd:(x==("__debug__":aL))=false:=by decide)
  (ie:(x==("__classdict__":aL))=false:=by decide):XS X ct ms 0 (.Return (some (.Name x pos')) pos) (sRet (eV i)):=by
 refine⟨_,KH (jm hN hv hd ie),λF0 B F H ρ σ o E rs e w=>?_⟩
 obtain⟨d,h1,h2⟩:=aO e
 cases h2
 obtain⟨fp,sl,nd,hb⟩:=rs.sl
 obtain⟨f1,fr,i1,i2,i3,i4,i5⟩:=sl.put hm
 obtain⟨v,uB,l⟩:=i4 d (yr h1)
 obtain⟨F',x,l2⟩:=l.freeze (⟨rs.f0,rs.bh,rs.fh,rs.nf⟩:eR F0 B F H) (λz hz=>hb z (i1 z hz))
 exact⟨v,uB,w v F' H [] x.ff x.hh x.fh x.nf (Ow.zero l2) bL λz hz=>by cases hz⟩
theorem ZL (hu:X.A.units+1<iD)(ha:XE X ct ms n a f)(hb:XE X ct ms m b g)(hm:dz .In b=false):XT X ct ms (.Compare a [.In] [b] pos) (tb λρ=>(f ρ).bind λx=>(g ρ).bind λy=>(lg y x).bind λr=>some (.bl r.isSome)):=by
 obtain⟨ta,tb',pa,pb,q⟩:=ha.bin hb
 refine⟨_,ZA (ZZ hu pa pb) hm,λF0 B F H ρ σ t Q rs e w=>?_⟩
 obtain⟨d0,h0,h9⟩:=aO e
 obtain⟨d1,d2,h1,h2,h3⟩:=cW h0
 obtain⟨r,h4,h5⟩:=aO h3
 cases h5
 cases h9
 refine q F0 B F H ρ σ d1 d2 _ rs h1 h2 λx y F' H' x1 l1 l2=>?_
 obtain⟨a,o,rfl,g,_,h⟩:=OD (r:=r) x1.fh l2 l1 h4
 refine⟨a,o,rfl,g,?_⟩
 cases r with
 |none=>rw[h.none_of];exact⟨_,rfl,w F' H' x1⟩
 |some d=>obtain⟨u,rfl,zE⟩:=h.some_of;exact⟨_,rfl,w F' H' x1⟩
end
end L3
namespace L2
open PySem PyProof.Rows
def EY (K:aa)(a:af)(n:Nat):It :=
 ⟨λi H=>i<n/\∃xs,dC K H a xs/\xs.length=n,λi H x H'=>H'=H/\∀xs,dC K H a xs->xs[n-1-i]?=some x,λi _=>n<=i⟩
theorem XJ {P:ba}{w:bM}{K:aa}{tg:Expr}(a it:af)(n:Nat):Turn P w K tg (EY K a n) [it] it (λi h=>i<=n/\h.IsRevIter it a ((n:Int)-1-(i:Int))) where
 mem:=by simp
 obj:=λi h st b hb=>by
  have e:b=it:=by simpa using hb
  subst e
  obtain⟨_,o,e,c,d⟩:=st
  exact⟨o,e,λv z=>by rw[d]at z;cases z⟩
 keep:=λi h h' st k=>⟨st.1,st.2.at λo e=>k it (by simp) o e⟩
 item:=by
  intro X hP hw hK hc i ah s σ H E I hf st hg
  subst hP hw hK
  obtain⟨hi,xs,hq,hx⟩:=hg
  obtain⟨bZ,rv,p,hz⟩:=I.list hq
  have hl:=rv.length
  have LW:xs[n-1-i]?=some (xs[n-1-i]'(by omega)):=by simp[show n-1-i<xs.length by omega]
  obtain⟨u,hu,ru⟩:=rv.get LW
  obtain⟨f0,f1,f2,f3,f4,f5⟩:=hf it (by simp)
  have e:(n:Int)-1-(i:Int)=((n-1-i:Nat):Int):=by omega
  have st:=st.2
  rw[e]at st
  refine wpAny_pyNext_rev_item st p.isList (x:=u) (by simpa using hu) λh' nN sb=>?_
  have I1:Inv X ah σ H { s with heap:=h' }:=I.turned (t':=s.toks) (λb o hb e=>(sb.2 b hb).trans e) f0 f1 f3 f4 f5
  obtain⟨o,e',c,d⟩:=id nN
  have e2:((n-1-i:Nat):Int)-1=(n:Int)-1-((i+1:Nat):Int):=by omega
  rw[e2]at nN
  exact⟨u,rfl,GL (s:={ s with heap:=h' }) e' c d (by decide) ⟨_,H,I1,ru,⟨rfl,λys hy=>by rw[I.list_inj hy hq];exact LW⟩,⟨hi,nN⟩,λb hb=>(hf b hb).1⟩⟩
 done:=by
  intro X hP hw hK hc i ah s σ H E I hf st hg
  subst hP hw hK
  obtain⟨f0,f1,f2,f3,f4,f5⟩:=hf it (by simp)
  have e:(n:Int)-1-(i:Int) = -1:=by have:=st.1;have h2:n<=i:=hg;omega
  have st:=st.2
  rw[e]at st
  exact wpAny_pyNext_rev_end (I.ok.hd hc) st λh' eb=>⟨rfl,I.turned (t':=s.toks) (λb o hb e=>eb b o hb e) f0 f1 f3 f4 f5⟩
 self:=λ_ _ _ _ _ st h=>wpAny_pyIter_revIter st.2 h
def Jh (K:aa)(ta:TE):TI:=λσ H R=>ta σ H λv H1=>∃a xs,v=.ref a/\dC K H1 a xs/\R (EY K a xs.length) H1
theorem ZM {X:Cx}{tg e:Expr}{te:TE}{p pos:cx}(hg:Gl X "reversed")(hm:X.mg "reversed"=none)(he:PE X e te)(hs:aq [e] X.env=[(false,bq e X.env)]:=by rfl):PI X tg (.Call (.Name "reversed" p) [e] [] pos) (Jh X.K te):=by
 intro ah s σ H R I h
 refine cV (qy (u:=.type "reversed") I hg hm (by rfl) ?_ (by decide) (by decide))
 refine bJ (cP ((ud he sf hs) pos ah s σ H (λvs H1=>match vs with|[x]=>∃a xs,x=.ref a/\dC X.K H1 a xs/\R (EY X.K a xs.length) H1|_=>False) I h) λus s1 ⟨vs,H1,I1,r,q⟩=>?_) hs rfl
 match vs,q with
 |[x],q=>
  obtain⟨a,xs,rfl,hq,q⟩:=q
  obtain⟨u,rfl,ru⟩:=r.one
  cases ru
  obtain⟨bZ,rv,pl,hz⟩:=I1.list hq
  have hl:=rv.length
  refine call_reversed_list pl.isList ?_
  have I2:Inv X ah σ H1 { s1 with heap:=s1.heap.push (revObj a ((bZ.toArray.size:Int)-1)) }:=I1.kept (t':=s1.toks) λb o e=>am _ e
  have st:(s1.heap.push (revObj a ((bZ.toArray.size:Int)-1))).IsRevIter s1.heap.objs.size a ((xs.length:Int)-1-((0:Nat):Int)):=⟨_,aT _ rfl,rfl,by simp[revObj,hl]⟩
  refine wpAny_pyIter_revIter st ⟨s1.heap.objs.size,[s1.heap.objs.size],_,_,H1,rfl,I2,XJ a _ xs.length,⟨dP _,st⟩,λb hb=>?_,q⟩
  have e:b=s1.heap.objs.size:=by simpa using hb
  subst e
  exact I1.fpOk (aE _) (I1.hok.fresh (aE _))
end L2
namespace L3
open PySem PySem.Spec L2
open PyProof.Rows hiding St
section
variable {X:Cx}{ct:Nat->af}{ms:List Mo}{rk n m k:Nat}{st:bP}{rest:List bP}{a b c e tg:Expr}{f g h:EF}{p q:BF}{u w:SF}{pos:cx}
theorem ZN {K:aa}{F B:Hp}{a:af}{vs:List V}{ds:List D}(hp:Pr (Al K ct F B n) ds vs)(keep:∀F' H',bG F F'->bG B H'->bG F' H'->dC K H' a vs):nv K ct F B n (EY K a vs.length) ds.reverse:=by
 intro i F' H' s1 s2 s3
 have hs:dC K H' a vs:=keep F' H' s1 s2 s3
 have hl:=hp.length
 refine⟨λd hd=>?_,λjQ=>by show vs.length<=i;rw[oC]at jQ;omega⟩
 have hi:i<ds.length:=by
  have:=(aX.mp hd).1
  rwa[oC]at this
 rw[List.getElem?_reverse hi]at hd
 obtain⟨v,hv,l⟩:=hp.get' hd
 refine⟨⟨by omega,vs,hs,rfl⟩,λx H2 y=>?_⟩
 obtain⟨e,y⟩:=y
 subst e
 have:=y vs hs
 rw[←hl,hv]at this
 cases this
 exact⟨F',.refl s3,l.mono s1 (.refl _)⟩
theorem Y2 {pp:cx}(hm:X.mg "reversed"=none)(he:XE X ct ms n e f)(hg:Gl X "reversed":=by rfl)(hs:aq [e] X.env=[(false,bq e X.env)]:=by rfl):rS X ct ms (n-1) tg (.Call (.Name "reversed" pp) [e] [] pos) (λρ=>(lsD f ρ).bind λds=>some ds.reverse):=by
 obtain⟨t,pt,qt⟩:=he
 refine⟨_,ZM hg hm pt hs,λF0 B F H ρ σ ds R rs e w=>?_⟩
 obtain⟨ds0,h0,h9⟩:=aO e
 cases h9
 obtain⟨d,h1,h2⟩:=aO h0
 rw[Ks h2]at h1
 refine qt F0 B F H ρ σ _ _ rs h1 λv F' H' x l=>?_
 obtain⟨a,vs,rfl,ha,hp⟩:=l.lst x.fh
 exact⟨a,vs,rfl,ha,w _ F' H' x (ZN hp λF2 H2 s1 s2 s3=>s2.seq ha)⟩
end
end L3
namespace L3
open PySem PySem.Spec L2
open PyProof.Rows hiding St
theorem dU.upd {R R':D->V->List af->Prop}{d:D}{ds:List D}{vs:List V}{fp:List af}{i:Nat}(h:dU R ds vs fp)(e:ds[i]?=some d):∃v f,vs[i]?=some v/\R d v f/\(∀a∈f,a∈fp) /\
  ∀d',R' d' v f->fp.Nodup->(∀d v f',(∀a∈f',a∈fp)->(∀a∈f',a∉f)->R d v f'->R' d v f')->dU R' (ds.set i d') vs fp:=by
 induction h generalizing i with
 |nil=>cases e
 |@cons _ _ _ _ f g h t ih=>
  cases i with
  |zero=>
   cases e
   refine⟨_,f,rfl,h,λa ha=>bF _ ha,λd' hd nd ot=>?_⟩
   rw[bv]at nd
   exact .cons hd (t.mono λd v f' hi r=>ot d v f' (λa ha=>aF _ (hi a ha)) (λa ha hf=>nd.2.2 a hf a (hi a ha) rfl) r)
  |succ i=>
   obtain⟨v,f2,h1,h2,h3,h4⟩:=ih (i:=i) e
   refine⟨v,f2,h1,h2,λa ha=>aF _ (h3 a ha),λd' hd nd ot=>?_⟩
   rw[bv]at nd
   exact .cons (ot _ _ f (λa ha=>bF _ ha) (λa ha hf=>nd.2.2 a ha a (h3 a hf) rfl) h) (h4 d' hd nd.2.1 λd v f' hi hn r=>ot d v f' (λa ha=>aF _ (hi a ha)) hn r)
section
variable {X:Cx}{ct:Nat->af}{ms:List Mo}{rk n m k:Nat}{st:bP}{rest:List bP}{a b c e tg:Expr}{f g h:EF}{p q:BF}{u w:SF}{pos:cx}
def oq (i:Nat)(fj fl f:EF):SF:=λρ=>(f ρ).bind λd=>(eV i ρ).bind λo=>(fj ρ).bind λj=>(fl ρ).bind λl=>match o,j,l with
 |.lst rs,.int y,.int z=>(ixN rs.length y).bind λy'=>(rs[y']?).bind λr=>(match r with
  |.lst ds=>(lB ds z d).bind λjI=>some (.nx (ρ.set i (some (.lst (rs.set y' (.lst jI))))))
  |_=>none)
 |_,_,_=>none
theorem XM (i:Nat){x:aL}{j l:Expr}{p1 p2 iP:cx}{fj fl:EF}(hm:ms[i]?=some (.ow 2))(hj:XE X ct ms n j fj)(hl:XE X ct ms m l fl)(hp:iH j)(he:XE X ct ms 0 e f)(hN:X.N[i]?=some x:=by rfl)(hv:nw X.env.scope x:=by first|exact Or.inl rfl|exact Or.inr (Or.inl rfl)|exact Or.inr (Or.inr rfl))(hd:(x==("__debug__":aL))=false:=by decide)
  (ie:(x==("__classdict__":aL))=false:=by decide)
  (ha:∀v,gm (.Subscript (.Subscript (.Name x p1) j p2) l iP) X.env v=(do
   let ov ← d7 [v] (bq (.Subscript (.Name x p1) j p2) X.env)
   let iv ← d7 [v,ov] (bq l X.env)
   fW iP
   d7 [v,ov,iv] (nc ov iv v)
   release [v,ov,iv] []):=by intro _;rfl)
  (hs:kI [.Subscript (.Subscript (.Name x p1) j p2) l iP] e pos.line X.env=pure false:=by rfl) (hw:kH [.Subscript (.Subscript (.Name x p1) j p2) l iP] e X.env=pure none:=by rfl)
  (h1:(cD [.Subscript (.Subscript (.Name x p1) j p2) l iP] X.env).map (·.2)=[gm (.Subscript (.Subscript (.Name x p1) j p2) l iP) X.env]:=by rfl) :
  XS X ct ms rk (.Assign [.Subscript (.Subscript (.Name x p1) j p2) l iP] e pos) (oq i fj fl f):=by
 obtain⟨t,pt,qt⟩:=he
 obtain⟨tj,xR,xT⟩:=hj
 obtain⟨tl,Tw,Tx⟩:=hl
 refine⟨_,KI pt (Y8 (GN OH (jm hN hv hd ie) xR hp) Tw Oe ha) hs hw h1,λF0 B F H ρ σ o E rs e z=>?_⟩
 obtain⟨d,g1,g2⟩:=aO e
 obtain⟨d1,tZ,g3,g4,g5⟩:=cW g2
 obtain⟨QQ,g6,g7⟩:=aO g5
 refine qt F0 B F H ρ σ d _ rs g1 λv0 F1 H1 x1 l0=>?_
 have kQ:=rs.ext x1
 obtain⟨f1,fr,n1,b1,dj,i4,cf,put⟩:=kQ.put (F':=F) (H':=H) hm
 obtain⟨v,hσ,ow⟩:=i4 d1 (yr g3)
 refine⟨v,hσ,xT F0 B F1 H1 ρ σ tZ _ kQ g4 λvj F2 H2 x2 lj=>?_⟩
 cases d1 with
 |lst MD=>
  cases tZ with
  |int yi=>
   cases QQ with
   |int zi=>
    obtain⟨y',k1,k2⟩:=aO g7
    obtain⟨r,k3,k4⟩:=aO k2
    cases r with
    |lst ds=>
     obtain⟨jI,k5,k6⟩:=aO k4
     cases k6
     obtain⟨jn,k8,k9⟩:=aO k5
     cases k9
     obtain⟨ad,vs,qB,rfl,rfl,hF,hH,ol⟩:=ow.lst_inv
     obtain⟨vr,f2,q1,q2,q3,q4⟩:=dU.upd (R':=Ow X.K ct F2 (upd H2 0 (.lst [])) 1) ol k3
     obtain⟨bd,us,Ie,rfl,rfl,sJ,pz,pB⟩:=q2.lst_inv
     clear q4
     have hA:H2 ad=some (.lst vs):=x2.hh _ _ hH
     refine⟨ad,vs,yi,.ref bd,rfl,lj.int,dC.of hA,?_,?_⟩
     ·unfold atI
      rw[←ol.length,k1]
      exact q1
     ·refine Tx F0 B F2 H2 ρ σ _ _ (kQ.ext x2) g6 λvl F3 H3 x3 ll=>?_
      have iR:=x2.trans x3
      have hB:H3 bd=some (.lst us):=iR.hh _ _ pz
      have fB:F3 bd=none:=iR.nf bd _ pz sJ
      have e0:=pB.nil0
      subst e0
      have tq:=bU.mp n1
      have wU:bd∈qB:=q3 bd ai
      have mh:ad≠bd:=λz=>tq.1 (z▸wU)
      refine⟨bd,us,zi,jn,rfl,ll.int,hB,by rw[←pB.length];exact k8,?_⟩
      obtain⟨MN,Lu,uF,D8,MB,D9⟩:=dU.upd (R':=Ow X.K ct F3 (upd H3 bd (.lst (us.set jn v0))) 1) ol k3
      rw[q1]at uF
      cases uF
      obtain⟨Lb,uM,B0,eb,rfl,_,Fm,rl⟩:=D8.lst_inv
      cases eb
      have e1:=rl.nil0
      subst e1
      rw[pz]at Fm
      cases Fm
      refine z σ F3 _ (kQ.change hm iR hσ b1 dj cf put (ao _ wU) fB (.inr (.lst (iR.nf ad _ hH hF) (by rw[zx mh];exact iR.hh _ _ hH) (D9 (.lst (ds.set jn d)) (.inr (.lst fB yb (dU.set0 ⟨Dt.mono iR.ff l0,rfl⟩ (λ_ _ _ q=>q.2) jn (pB.mono λ_ _ _ _ q=>⟨q.1.mono iR.ff,q.2⟩)))) tq.2 ?_))) (fn:=ad::qB) n1 λa ha=>.inl ha)
      intro d0 v1 f' xG qH o'
      refine(o'.ext iR).frame (.refl _) λa' rW=>⟨zx λe=>qH a' rW (by rw[e];exact ai),((o'.ext iR).cells a' rW).1⟩
    |_=>cases k4
   |_=>cases g7
  |_=>cases g7
 |_=>cases g7
end
end L3
namespace L3
open PySem PySem.Spec L2
open PyProof.Rows hiding St
section
variable {K:aa}{ct:Nat->af}{F F' H B F0:Hp}
end
def rm (i:Nat):Out->Out
 |.nx ρ=>.nx (ρ.set i none)
 |.rt d=>.rt d
 |.bk ρ=>.bk (ρ.set i none)
 |.ct ρ=>.ct (ρ.set i none)
def sFz (i:Nat)(u:SF):SF:=λρ=>(u ρ).bind λo=>some (rm i o)
section
variable {X:Cx}{ct:Nat->af}{ms:List Mo}{rk k:Nat}
theorem zmz {i:Nat}{d:D}:rm i (.rt d)=.rt d:=rfl
theorem zm0 {i:Nat}{ρ:Env}:rm i (.nx ρ)=.nx (ρ.set i none):=rfl
end
end L3
namespace L3
open PySem PySem.Spec L2
open PyProof.Rows hiding St
section
variable {X:Cx}{ct:Nat->af}{ms:List Mo}{rk n m k:Nat}{a b c tg:Expr}{pos:cx}
end
end L3
namespace L2
open PySem PySem.Spec PyProof.Rows
def G0 (K:aa)(a b:af):It :=
 ⟨λi H=>∃xs ys x y,(dC K H a xs/\dC K H b ys)/\xs[i]?=some x/\ys[i]?=some y,λi H x H'=>∃p u v,H p=none/\x=.ref p/\H'=upd H p (.tup [u,v])/\(∀xs,dC K H a xs->xs[i]?=some u)/\∀ys,dC K H b ys->ys[i]?=some v,
  λi H=>∃xs ys,(dC K H a xs/\dC K H b ys)/\(xs.length<=i\/ys.length<=i)⟩
theorem Xg {P:ba}{w:bM}{K:aa}{gU:List Expr}{kt:Nat}{pt:cx}(z TI TO i1 i2 l1 l2:af)(ap:ZipApart z TI TO i1 i2 l1 l2) :
    Turn P w K (.Tuple gU kt pt) (G0 K l1 l2) [z,TI,TO,i1,i2] z (λi h=>IsZip h z TI TO .none/\IsPair h TI (.ref i1) (.ref i2)/\(∃a b,IsPair h TO a b)/\h.IsListIter i1 l1 i/\h.IsListIter i2 l2 i) where
  mem:=by simp
  obj:=λi h st b hb=>by
    obtain⟨q1,q2,⟨a,b',q3⟩,⟨o4,e4,_,d4⟩,⟨o5,e5,_,d5⟩⟩:=st
    simp only[aC,bN,or_false]at hb
    rcases hb with rfl|rfl|rfl|rfl|rfl
    · exact⟨_,q1,λv y=>by cases y⟩
    · exact⟨_,q2,λv y=>by cases y⟩
    · exact⟨_,q3,λv y=>by cases y⟩
    · exact⟨_,e4,λv y=>by rw[d4]at y;cases y⟩
    · exact⟨_,e5,λv y=>by rw[d5]at y;cases y⟩
  keep:=λi h h' st k=>by
    obtain⟨q1,q2,⟨a,b',q3⟩,q4,q5⟩:=st
    exact⟨k z (by simp) _ q1,k TI (by simp) _ q2,⟨a,b',k TO (by simp) _ q3⟩,q4.at λo x=>k i1 (by simp) o x,q5.at λo x=>k i2 (by simp) o x⟩
  item:=by
    intro X hP hw hK hc i ah s σ H E I hf st hg
    subst hP hw hK
    obtain⟨xs,ys,x,y,⟨hq,mL⟩,hx,hy⟩:=hg
    obtain⟨bZ,rv,p,hz⟩:=I.list hq
    obtain⟨its',tG,p',xI⟩:=I.list mL
    obtain⟨u,hu,ru⟩:=rv.get hx
    obtain⟨u',zE,JE⟩:=tG.get hy
    obtain⟨q1,q2,⟨a,b',q3⟩,q4,q5⟩:=st
    refine wpAny_pyNext_zip_item ap q1 q2 q3 q4 q5 p.isList p'.isList (x:=u) (y:=u') (by simpa using hu) (by simpa using zE) λh1 r1 r2 r3 r4 r5 hsz hk=>?_
    refine⟨_,rfl,wpAny_letOwnedTupleGo_zip (s:={ s with heap:=h1 }) r1 λh2 Cd mZ=>?_⟩
    have EW:z<s.heap.objs.size:=aB q1
    have JW:TI<s.heap.objs.size:=aB q2
    have Jy:TO<s.heap.objs.size:=aB q3
    have CM:i1<s.heap.objs.size:=by obtain⟨_,q,_⟩:=q4;exact aB q
    have Jo:i2<s.heap.objs.size:=by obtain⟨_,q,_⟩:=q5;exact aB q
    have B6:h2.get? s.heap.objs.size=some { cls:=.type "tuple",data:=.seq #[u,u'] }:=(mZ.2 _ (gd EW)).trans r5
    have Cg:H s.heap.objs.size=none:=I.hok.fresh (aE _)
    have I1:Inv X ah σ (upd H s.heap.objs.size (.tup [x,y])) { s with heap:=h2,toks:=s.toks }:=by
      refine I.turnLay (ch:=[z,TI,TO,i1,i2]) hf (λb o hb q=>?_) (aE _) ⟨by show 2<=sizeLine;decide,[u,u'],.cons ru (.cons JE .nil),_,B6,rfl,_,rfl⟩
      have b1:b≠z:=λe=>hb (by simp[e])
      have b3:b≠TO:=λe=>hb (by simp[e])
      have b4:b≠i1:=λe=>hb (by simp[e])
      have b5:b≠i2:=λe=>hb (by simp[e])
      exact(mZ.2 b b1).trans (hk b o b1 b3 b4 b5 q)
    refine⟨.ref s.heap.objs.size,_,I1,rfl,⟨_,x,y,Cg,rfl,rfl,λzs qS=>by rw[I.list_inj qS hq];exact hx,λzs qS=>by rw[I.list_inj qS mL];exact hy⟩,⟨Cd,(mZ.2 TI ap.TIz).trans (hk TI _ ap.TIz ap.TITO ap.TIi1 ap.TIi2 q2),⟨_,_,(mZ.2 TO ap.TOz).trans r2⟩,r3.at λo q=>(mZ.2 i1 ap.i1z).trans q,r4.at λo q=>(mZ.2 i2 ap.i2z).trans q⟩,λb hb=>?_⟩
    rw[zx ?_]
    · exact(hf b hb).1
    · simp only[aC,bN,or_false]at hb
      rcases hb with rfl|rfl|rfl|rfl|rfl
      · exact aR EW
      · exact aR JW
      · exact aR Jy
      · exact aR CM
      · exact aR Jo
  done:=by
    intro X hP hw hK hc i ah s σ H E I hf st hg
    subst hP hw hK
    obtain⟨xs,ys,⟨hq,mL⟩,hx⟩:=hg
    obtain⟨bZ,rv,p,hz⟩:=I.list hq
    obtain⟨its',tG,p',xI⟩:=I.list mL
    obtain⟨q1,q2,⟨a,b',q3⟩,q4,q5⟩:=st
    have hl:=rv.length
    have Cj:=tG.length
    refine wpAny_pyNext_zip_end (I.ok.hd hc) ap q1 q2 q3 q4 q5 p.isList p'.isList (hx.imp (λh=>by simp;omega) (λh=>by simp;omega)) λh' eb=>⟨rfl,I.turnedL (ch:=[z,TI,TO,i1,i2]) (t':=s.toks) hf λb o hb q=>?_⟩
    exact eb b o (λe=>hb (by simp[e])) (λe=>hb (by simp[e])) (λe=>hb (by simp[e])) (λe=>hb (by simp[e])) q
  self:=λ_ _ _ _ _ st h=>iF st.1 h
section
variable {X:Cx}{gU:List Expr}{kt:Nat}{pt:cx}
def Jj (K:aa)(ta:TA):TI:=λσ H R=>ta σ H λvs H1=>∃a b,vs=[.ref a,.ref b]/\(∃xs ys,dC K H1 a xs/\dC K H1 b ys)/\R (G0 K a b) H1
theorem ZO {l l':Expr}{ta:TA}{p pos:cx}(hg:Gl X "zip")(hm:X.mg "zip"=none)(ha:PA X [l,l'] ta)(hs:aq [l,l'] X.env=[(false,bq l X.env),(false,bq l' X.env)]:=by rfl)(jJ:aq [l'] X.env=[(false,bq l' X.env)]:=by rfl) :
  PI X (.Tuple gU kt pt) (.Call (.Name "zip" p) [l,l'] [] pos) (Jj X.K ta):=by
 intro ah s σ H R I h
 refine Call_ (qy I hg hm kL (bJ (cP (ha pos ah s σ H _ I h) λus s1 ⟨vs,H1,I1,r1,q1⟩=>?_) (by rw[hs,jJ]) (by rw[jJ];rfl)))
 obtain⟨a,b,e,⟨xs,ys,hq,mL⟩,q⟩:=q1
 subst e
 cases r1 with
 |cons r rr=>
  cases rr with
  |cons r' rr=>
   cases rr
   cases r
   cases r'
   obtain⟨bZ,rv,pl,hz⟩:=I1.list hq
   obtain⟨its',tG,DB,xI⟩:=I1.list mL
   have Ju:a<s1.heap.objs.size:=by obtain⟨_,q,_⟩:=pl.isList;exact aB q
   have tf:b<s1.heap.objs.size:=by obtain⟨_,q,_⟩:=DB.isList;exact aB q
   refine call_zip_2 pl.isList DB.isList λh' r1 r2 r3 r4 r5 hsz hk=>?_
   refine iF (s:={ s1 with heap:=h' }) r1 ?_
   refine⟨_,[_,_,_,_,_],_,_,H1,rfl,I1.kept (t':=s1.toks) hk,Xg _ _ _ _ _ a b (zipApart_new Ju tf),⟨r1,r2,⟨_,_,r3⟩,r4,r5⟩,λc hb=>?_,q⟩
   have:s1.heap.objs.size<=c:=by
    simp only[aC,bN,or_false]at hb
    rcases hb with rfl|rfl|rfl|rfl|rfl<;>omega
   exact I1.fpOk this (I1.hok.fresh this)
end
end L2
namespace L3
open PySem PySem.Spec L2
open PyProof.Rows hiding St
def iU:List D->List D->List D
 |x::xs,y::ys=>.tup [x,y]::iU xs ys
 |_,_=>[]
theorem Ot:∀{xs ys:List D} {i:Nat} {d:D},(iU xs ys)[i]?=some d->∃x y,xs[i]?=some x/\ys[i]?=some y/\d=.tup [x,y]
 |[],_,_,_,h=>by simp[iU]at h
 |_::_,[],_,_,h=>by simp[iU]at h
 |x::xs,y::ys,0,d,h=>by simp[iU]at h;subst h;exact⟨x,y,rfl,rfl,rfl⟩
 |x::xs,y::ys,i+1,d,h=>by
  obtain⟨u,v,h1,h2,h3⟩:=Ot (xs:=xs) (ys:=ys) (i:=i) (d:=d) (by simpa[iU]using h)
  exact⟨u,v,by simpa using h1,by simpa using h2,h3⟩
theorem Ou:∀{xs ys:List D},(iU xs ys).length=min xs.length ys.length
 |[],_=>by simp[iU]
 |_::_,[]=>by simp[iU]
 |x::xs,y::ys=>by simp[iU,Ou (xs:=xs) (ys:=ys)]
section
variable {X:Cx}{ct:Nat->af}{ms:List Mo}{n:Nat}{a b:Expr}{pos:cx}
theorem ZP {K:aa}{F B:Hp}{a b:af}{vs us:List V}{ds es:List D}(hp:Pr (Al K ct F B n) ds vs)(sP:Pr (Al K ct F B n) es us)(keep:∀F' H',bG F F'->bG B H'->bG F' H'->dC K H' a vs)(qX:∀F' H',bG F F'->bG B H'->bG F' H'->dC K H' b us):nv K ct F B (n+1) (G0 K a b) (iU ds es):=by
 intro i F' H' s1 s2 s3
 have hs:dC K H' a vs:=keep F' H' s1 s2 s3
 have sR:dC K H' b us:=qX F' H' s1 s2 s3
 refine⟨λd hd=>?_,λhl=>⟨vs,us,⟨hs,sR⟩,by rw[←hp.length,←sP.length];rw[Ou]at hl;omega⟩⟩
 obtain⟨x,y,hx,hy,rfl⟩:=Ot hd
 obtain⟨v,hv,l⟩:=hp.get' hx
 obtain⟨u,hu,l'⟩:=sP.get' hy
 refine⟨⟨vs,us,v,u,⟨hs,sR⟩,hv,hu⟩,λz H2 q=>?_⟩
 obtain⟨r,v',u',hr,rfl,rfl,q1,q2⟩:=q
 have e1:=q1 vs hs
 have e2:=q2 us sR
 rw[hv]at e1
 rw[hu]at e2
 cases e1
 cases e2
 exact⟨_,eR.newS s3 hr _,.inr (.tup yb (.cons (l.mono (s1.trans (uz (s3.free hr) _)) (.refl _)) (.cons (l'.mono (s1.trans (uz (s3.free hr) _)) (.refl _)) .nil)))⟩
def oz:List D->Option (List D)
 |[.lst xs,.lst ys]=>some (iU xs ys)
 |_=>none
theorem KG {fs:Env->Option (List D)}{gU:List Expr}{kt:Nat}{pt pp:cx}(hm:X.mg "zip"=none)(ha:XA X ct ms [a,b] [n,n] fs)(hg:Gl X "zip":=by rfl)(hs:aq [a,b] X.env=[(false,bq a X.env),(false,bq b X.env)]:=by rfl)(jJ:aq [b] X.env=[(false,bq b X.env)]:=by rfl) :
  rS X ct ms (n-1+1) (.Tuple gU kt pt) (.Call (.Name "zip" pp) [a,b] [] pos) (λρ=>(fs ρ).bind oz):=by
 obtain⟨t,pt,_,qt⟩:=ha
 refine⟨_,ZO hg hm pt hs jJ,λF0 B F H ρ σ ds R rs e w=>?_⟩
 obtain⟨jI,h1,h2⟩:=aO e
 refine qt F0 B F H ρ σ _ _ rs h1 λvs F' H' x l=>?_
 cases l with
 |cons h t=>
  cases t with
  |cons h' t=>
   cases t
   rename_i d v d' v'
   cases d with
   |lst xs=>
    cases d' with
    |lst ys=>
     cases h2
     obtain⟨a,vs,rfl,ha,hp⟩:=h.lst x.fh
     obtain⟨b,us,rfl,hb,sP⟩:=h'.lst x.fh
     exact⟨a,b,rfl,⟨vs,us,ha,hb⟩,w _ F' H' x (ZP hp sP (λF2 H2 s1 s2 s3=>s2.seq ha) (λF2 H2 s1 s2 s3=>s2.seq hb))⟩
    |_=>cases h2
   |_=>cases h2
end
end L3
namespace L3
open PySem PySem.Spec L2
open PyProof.Rows hiding St
section
variable {K:aa}{ct:Nat->af}{n m k:Nat}
end
end L3
namespace L2
open PySem PySem.Spec PyProof.Rows
section
variable {X:Cx}{e sp:Expr}{te:TE}{tp:TO}{pos p2:cx}
end
end L2
namespace L3
open PySem PySem.Spec L2
open PyProof.Rows hiding St
section
variable {X:Cx}{ct:Nat->af}{ms:List Mo}{n m:Nat}{e sp:Expr}{f g:EF}{pos p1:cx}
end
end L3
namespace L3
open PySem PySem.Spec L2
open PyProof.Rows hiding St
def kg {α:Type}(p q:Nat)(rv:Bool)(us ws:List α):List α:=if us.length=p/\ws.length=q then us++(if rv then ws.reverse else ws)else[]
theorem ZQ {p q:Nat}{rv:Bool}{vs:List V}{us:List ae}{zs:List V}{ws:List ae}(r:bB vs us)(r2:bB zs ws):bB (kg p q rv vs zs) (kg p q rv us ws):=by
 unfold kg
 rw[r.length,r2.length]
 split
 ·cases rv
  ·exact r.append r2
  ·exact r.append r2.reverse
 ·exact .nil
theorem xL {K:aa}{fd:aH}{ps ks:List aL}{p q:Nat}{rv:Bool}(oa:0<ps.length)(h:∀(s:aj) (us ws:List ae),K.In s.heap->us.length=p->ws.length=q->jX s fd ⟨us,ks.zip ws⟩ (ps.zip (us++(if rv then ws.reverse else ws)))):kc K fd ps ks (kg p q rv) (kg p q rv):=by
 refine⟨λs us ws hK hl=>?_,λr r2=>ZQ r r2⟩
 unfold kg at hl ⊢
 by_cases hc:us.length=p/\ws.length=q
 ·rw[if_pos hc]at hl ⊢
  exact h s us ws hK hc.1 hc.2
 ·rw[if_neg hc]at hl
  have hl:0=ps.length:=hl
  omega
section
variable {X:Cx}{ct:Nat->af}{ms:List Mo}{rk n m k kk:Nat}{e a:Expr}{f:EF}{x:aL}{pp pos qY:cx}{fa:af}{fd:aH}{ps ks:List aL}{mf:List D->Option D}
def E8 (X:Cx)(ct:Nat->af)(ms:List Mo)(kws:List dQ)(ns:List Nat)(f:Env->Option (List D)):Prop:=∃t,PK X kws t/\(∀ρ ds,f ρ=some ds->ds.length=kws.length)/\∀(F0 B F H:Hp) (ρ:Env) (σ:St) (ds:List D) (Q:List V->Hp->Prop),RS X.K ct F0 B ms F H ρ σ->f ρ=some ds ->
 (∀vs F' H',eR F H F' H'->fU X.K ct F' H' ns ds vs->Q vs H')->t σ H Q
theorem ZR:E8 X ct ms [] [] aNil:=⟨_,ZT,λρ ds e=>(by cases e;rfl),λF0 B F H ρ σ ds Q r e w=>by cases e;exact w [] F H (.refl r.fh) .nil⟩
theorem Y3 {nm:Option aL}{kws:List dQ}{ns:List Nat}{fs:Env->Option (List D)}(ha:XE X ct ms n a f)(hr:E8 X ct ms kws ns fs):E8 X ct ms (⟨nm,a,qY⟩::kws) (n::ns) (aCons f fs):=by
 obtain⟨ta,pa,qa⟩:=ha
 obtain⟨tb,pb,lb,qb⟩:=hr
 refine⟨_,Yt pa pb,λρ ds e=>(by obtain⟨x,xs,h1,h2,h3⟩:=cW e;cases h3;rw[aM,aM,lb _ _ h2]),λF0 B F H ρ σ ds Q r e w=>?_⟩
 obtain⟨x,xs,h1,h2,h3⟩:=cW e
 cases h3
 refine qa F0 B F H ρ σ x _ r h1 λv F1 H1 x1 l1=>?_
 exact qb F0 B F1 H1 ρ σ xs _ (r.ext x1) h2 λvs F2 H2 x2 l2=>w (v::vs) F2 H2 (x1.trans x2) (.cons (l1.mono x2.ff x2.hh) l2)
theorem fU.len {K:aa}{F G:Hp}:∀{ns:List Nat} {ds:List D} {vs:List V},fU K ct F G ns ds vs->vs.length=ds.length
 |_,_,_,.nil=>rfl
 |_,_,_,.cons _ t=>by rw[aM,aM,fU.len t]
theorem fU.rev {K:aa}{F G:Hp}:∀{ns:List Nat} {ds:List D} {vs:List V},fU K ct F G ns ds vs->fU K ct F G ns.reverse ds.reverse vs.reverse
 |_,_,_,.nil=>.nil
 |_,_,_,.cons h t=>by
  rw[eU,eU,eU]
  exact fU.append (.cons h .nil) (fU.rev t)
theorem Xh {es:List Expr}{kws:List dQ}{ns nk:List Nat}{fs gs:Env->Option (List D)}{rv:Bool}(Fn:cn X.prog X.w X.K X.mg X.base eu kk fa fd ps (fK X.K ct (ns++(if rv then nk.reverse else nk)) rk mf))(hr:dN kk X.A)(hg:Gl X x)(hm:X.mg x=some (.ref fa))(hk:ar X.K (.ref fa)=true)
  (hb:kc X.K fd ps ks (kg (e::es).length kws.length rv) (kg (e::es).length kws.length rv)) (ha:XA X ct ms (e::es) ns fs) (IN:E8 X ct ms kws nk gs)
  (mH:(cH pos (bS kws X.env)).all (·.1.isSome)=true:=by rfl) (IM:(cH pos (bS kws X.env)).filterMap (·.1)=ks:=by rfl)
  (kd:(x==("__debug__":aL))=false:=by decide) (he:aq (e::es) X.env=(false,bq e X.env)::aq es X.env:=by rfl)
  (gD:((cj pos (aq (e::es) X.env)).any (·.1) || (cH pos (bS kws X.env)).any (·.1.isNone))=false:=by rfl) :
  XO X ct ms rk (.Call (.Name x pp) (e::es) kws pos) (λρ=>(fs ρ).bind λds=>(gs ρ).bind λzs=>mf (ds++(if rv then zs.reverse else zs))):=by
 obtain⟨t,pt,lt,qt⟩:=ha
 obtain⟨t2,oi,tf,oj⟩:=IN
 refine⟨_,Xa Fn hr hg hm hk hb mn pt oi mH IM kd he gD,λF0 B F H ρ σ r Q rs e' w=>?_⟩
 obtain⟨ds,h1,h2⟩:=aO e'
 obtain⟨zs,h3,h4⟩:=aO h2
 refine qt F0 B F H ρ σ ds _ rs h1 λvs F1 H1 x1 l=>?_
 refine oj F0 B F1 H1 ρ σ zs _ (rs.ext x1) h3 λus F2 H2 x2 l2=>?_
 have oP:vs.length=(e::es).length:=(fU.len l).trans (lt _ _ h1)
 have jQ:us.length=kws.length:=(fU.len l2).trans (tf _ _ h3)
 have RE:kg (e::es).length kws.length rv vs us=vs++(if rv then us.reverse else us):=by unfold kg;rw[if_pos ⟨oP,jQ⟩]
 rw[RE]
 have tN:=x1.trans x2
 refine⟨F2,ds++(if rv then zs.reverse else zs),r,tN.fh,fU.append ?_ (l.mono x2.ff x2.hh),h4,λv F3 H3 fp x3 o nd hf=>w v F3 H3 fp (tN.trans x3) o nd λz hz=>tN.hh.free (hf z hz)⟩
 cases rv with
 |false=>exact l2
 |true=>exact fU.rev l2
end
end L3
namespace L3
open PySem PySem.Spec L2
open PyProof.Rows hiding St
section
variable {X:Cx}{ct:Nat->af}{ms:List Mo}{rk n m k:Nat}{st:bP}{rest:List bP}{a b c e tg:Expr}{f g h:EF}{p q:BF}{u w:SF}{pos:cx}
def TL (i:Nat):SF:=λρ=>(eV i ρ).bind λo=>match o with
 |.lst ds=>if ds.isEmpty=true then none else some (.nx (ρ.set i (some (.lst ds.dropLast))))
 |_=>none
def Jl (g:List D->Option (List D))(o j:D):Option D:=match o,j with
 |.lst rs,.int y=>(ixN rs.length y).bind λy'=>(rs[y']?).bind λr=>(match r with
  |.lst ds=>(g ds).bind λjI=>some (.lst (rs.set y' (.lst jI)))
  |_=>none)
 |.tup rs,.int y=>(ixN rs.length y).bind λy'=>(rs[y']?).bind λr=>(match r with
  |.lst ds=>(g ds).bind λjI=>some (.tup (rs.set y' (.lst jI)))
  |_=>none)
 |_,_=>none
def mQ (i:Nat)(fj:EF):SF:=λρ=>(eV i ρ).bind λo=>(fj ρ).bind λj=>(Jl (λ_=>some []) o j).bind λo'=>some (.nx (ρ.set i (some o')))
theorem WH {F0 B F H:Hp}{ρ:Env}{σ:St}{i:Nat}{g:List D->Option (List D)}{o j o':D}(rs:RS X.K ct F0 B ms F H ρ σ)(hm:ms[i]?=some (.ow 2))(ho:eV i ρ=some o)(hg:Jl g o j=some o') :
  ∃(v:V) (y:Int) (bd:af) (us:List V) (ds jI:List D),σ[i]?=some (some v)/\j=.int y/\g ds=some jI/\H bd=some (.lst us)/\F bd=none/\dU (Ow X.K ct F H 0) ds us [] /\
   (∀F2 H2 vj Q,eR F H F2 H2->vj=.int y->Q (.ref bd) H2->JB X.K v vj H2 Q) /\
   ∀F3 H3 uM,eR F H F3 H3->dU (Ow X.K ct F3 (upd H3 bd (.lst uM)) 0) jI uM []->RS X.K ct F0 B ms F3 (upd H3 bd (.lst uM)) (ρ.set i (some o')) σ:=by
 obtain⟨f1,fr,n1,b1,dj,i4,cf,put⟩:=rs.put (F':=F) (H':=H) hm
 obtain⟨v,hσ,ow⟩:=i4 o (yr ho)
 unfold Jl at hg
 split at hg
 ·rename_i MD yi
  obtain⟨y',k1,k2⟩:=aO hg
  obtain⟨r,k3,k4⟩:=aO k2
  cases r with
  |lst ds=>
   obtain⟨jI,k5,k6⟩:=aO k4
   cases k6
   obtain⟨ad,vs,qB,rfl,rfl,hF,hH,ol⟩:=ow.lst_inv
   obtain⟨vr,f2,q1,q2,q3,_⟩:=dU.upd (R':=Ow X.K ct F H 1) ol k3
   obtain⟨bd,us,Ie,rfl,rfl,sJ,pz,pB⟩:=q2.lst_inv
   have e0:=pB.nil0
   subst e0
   refine⟨.ref ad,yi,bd,us,ds,jI,hσ,rfl,k5,pz,sJ,pB,λF2 H2 vj Q x2 hj hQ=>.inl ⟨ad,vs,yi,.ref bd,rfl,hj,dC.of (x2.hh _ _ hH),?_,hQ⟩,λF3 H3 uM iR xN=>?_⟩
   ·unfold atI
    rw[←ol.length,k1]
    exact q1
   ·have fB:F3 bd=none:=iR.nf bd _ pz sJ
    have tq:=bU.mp n1
    have wU:bd∈qB:=q3 bd ai
    have mh:ad≠bd:=λz=>tq.1 (z▸wU)
    obtain⟨MN,Lu,uF,D8,MB,D9⟩:=dU.upd (R':=Ow X.K ct F3 (upd H3 bd (.lst uM)) 1) ol k3
    rw[q1]at uF
    cases uF
    obtain⟨Lb,JY,B0,eb,rfl,_,Fm,rl⟩:=D8.lst_inv
    cases eb
    have e1:=rl.nil0
    subst e1
    refine rs.change hm iR hσ b1 dj cf put (ao _ wU) fB (.inr (.lst (iR.nf ad _ hH hF) (by rw[zx mh];exact iR.hh _ _ hH) (D9 (.lst jI) (.inr (.lst fB yb xN)) tq.2 ?_))) (fn:=ad::qB) n1 λa ha=>.inl ha
    intro d0 v1 f' xG qH o'
    refine(o'.ext iR).frame (.refl _) λa' rW=>⟨zx λe=>qH a' rW (by rw[e];exact ai),((o'.ext iR).cells a' rW).1⟩
  |_=>cases k4
 ·rename_i MD yi
  obtain⟨y',k1,k2⟩:=aO hg
  obtain⟨r,k3,k4⟩:=aO k2
  cases r with
  |lst ds=>
   obtain⟨jI,k5,k6⟩:=aO k4
   cases k6
   rcases ow with⟨hs,_⟩|oc
   ·cases hs
   ·cases oc with
    |@tup ad vs _ _ LF ol=>
     obtain⟨vr,f2,q1,q2,q3,_⟩:=dU.upd (R':=Ow X.K ct F H 1) ol k3
     obtain⟨bd,us,Ie,rfl,rfl,sJ,pz,pB⟩:=q2.lst_inv
     have e0:=pB.nil0
     subst e0
     refine⟨.ref ad,yi,bd,us,ds,jI,hσ,rfl,k5,pz,sJ,pB,λF2 H2 vj Q x2 hj hQ=>.inr (.inl ⟨ad,vs,yi,.ref bd,rfl,hj,jP.of (x2.hh _ _ (rs.fh _ _ LF)),?_,hQ⟩),λF3 H3 uM iR xN=>?_⟩
     ·unfold atI
      rw[←ol.length,k1]
      exact q1
     ·have fB:F3 bd=none:=iR.nf bd _ pz sJ
      have wU:bd∈f1:=q3 bd ai
      obtain⟨MN,Lu,uF,D8,MB,D9⟩:=dU.upd (R':=Ow X.K ct F3 (upd H3 bd (.lst uM)) 1) ol k3
      rw[q1]at uF
      cases uF
      obtain⟨Lb,JY,B0,eb,rfl,_,Fm,rl⟩:=D8.lst_inv
      cases eb
      have e1:=rl.nil0
      subst e1
      refine rs.change hm iR hσ b1 dj cf put wU fB (.inr (.tup (iR.ff _ _ LF) (D9 (.lst jI) (.inr (.lst fB yb xN)) n1 ?_))) (fn:=f1) n1 λa ha=>.inl ha
      intro d0 v1 f' xG qH o'
      refine(o'.ext iR).frame (.refl _) λa' rW=>⟨zx λe=>qH a' rW (by rw[e];exact ai),((o'.ext iR).cells a' rW).1⟩
  |_=>cases k4
 ·cases hg
theorem Xi (i:Nat){x:aL}{j:Expr}{p1 p2 cL cU:cx}{fj:EF}(hm:ms[i]?=some (.ow 2))(hj:XE X ct ms n j fj)(hp:iH j)(hN:X.N[i]?=some x:=by rfl)(hv:nw X.env.scope x:=by first|exact Or.inl rfl|exact Or.inr (Or.inl rfl)|exact Or.inr (Or.inr rfl))(hd:(x==("__debug__":aL))=false:=by decide)
  (ie:(x==("__classdict__":aL))=false:=by decide)
  (iw:de (.Subscript (.Name x p1) j p2) "clear" X.env (bq (.Subscript (.Name x p1) j p2) X.env)=bq (.Subscript (.Name x p1) j p2) X.env:=by rfl)
  (iy:(cL.endLine==cU.line)=true:=by rfl)
  (qR:dn (.Call (.Attribute (.Subscript (.Name x p1) j p2) "clear" cL) [] [] cU) none pos.line X.env=pure false:=by rfl) :
  XS X ct ms rk (.Expr (.Call (.Attribute (.Subscript (.Name x p1) j p2) "clear" cL) [] [] cU) pos) (mQ i fj):=by
 obtain⟨tj,xR,xT⟩:=hj
 refine⟨_,EM (ZX PySem.F.plainAttrs_list PySem.F.slot_list_clear PySem.F.type_list_clear Xd (GN ve (jm hN hv hd ie) xR hp) iw iy) qR,λF0 B F H ρ σ o E rs e z=>?_⟩
 obtain⟨o1,j1,h1,h2,h3⟩:=cW e
 obtain⟨o',h6,h7⟩:=aO h3
 cases h7
 obtain⟨v,y,bd,us,ds,jI,hσ,rfl,hg,hH,hF,ol,rd,wr⟩:=WH rs hm h1 h6
 cases hg
 refine⟨v,hσ,xT F0 B F H ρ σ _ _ rs h2 λvj F2 H2 x2 lj=>?_⟩
 refine rd F2 H2 vj _ x2 lj.int ⟨.inl ⟨rfl,_,dC.of (x2.hh _ _ hH)⟩,bd,us,rfl,rfl,x2.hh _ _ hH,?_⟩
 exact z σ F2 _ (wr F2 H2 [] x2 .nil)
end
end L3
namespace L3
open PySem PySem.Spec L2
open PyProof.Rows hiding St
section
variable {X:Cx}{ct:Nat->af}{ms:List Mo}{rk n m k:Nat}{a e:Expr}{f:EF}{pos:cx}
end
end L3
namespace L3
open PySem PySem.Spec L2
open PyProof.Rows hiding St
section
variable {X:Cx}{ct:Nat->af}{ms:List Mo}{n m l k:Nat}{a b c:Expr}{f g h:EF}{pos:cx}
end
end L3
namespace L3
open PySem PySem.Spec L2
open PyProof.Rows hiding St
def eSc (f:EF):EF:=λρ=>(f ρ).bind λd=>if d.sc=true then some d else none
def gS (i:Nat):D->Env->Option Env:=λd ρ=>if d.sc=true then some (ρ.set i (some d))else none
section
variable {X:Cx}{ct:Nat->af}{ms:List Mo}{rk n m k:Nat}{a b c e tg:Expr}{f g h:EF}{pos:cx}
theorem rG (he:XE X ct ms n e f):XO X ct ms k e (eSc f):=by
 obtain⟨t,p,q⟩:=he
 refine⟨t,p,λF0 B F H ρ σ d Q r e w=>?_⟩
 obtain⟨d0,h1,h2⟩:=aO e
 by_cases hs:d0.sc=true
 ·rw[if_pos hs]at h2
  cases h2
  exact q F0 B F H ρ σ d Q r h1 λv F' H' x l=>w v F' H' [] x (Ow.scal (Al.scal l hs) hs) bL λa z=>(by cases z)
 ·rw[if_neg hs]at h2;cases h2
theorem NV {i:Nat}{x:aL}(hm:ms[i]?=some (.ow 0))(hN:X.N.Nodup)(hi:X.N[i]?=some x)(hx:Loc X.env.scope x)
  (hf:X.fn x=true\/X.env.scope.names.lookup x=some .local:=by first|exact .inl rfl|exact .inr rfl|assumption):XG X ct ms n (.Name x pos) (gS i):=by
 refine⟨_,Gj hN hi hx hf,λF0 B F H ρ ρ' σ d v Q rs l e w=>?_⟩
 unfold gS at e
 by_cases hs:d.sc=true
 ·rw[if_pos hs]at e
  cases e
  exact w _ (rs.set hm (.refl rs.fh) (Ow.zero (Al.scal l hs)) bL λa z=>(by cases z))
 ·rw[if_neg hs]at e;cases e
theorem Y4 {i:Nat}{x:aL}{p1:cx}{gg:D->Env->Option Env}(hm:ms[i]?=some (.al n))(hg:XG X ct ms n tg gg)(hN:X.N[i]?=some x:=by rfl)(hv:nw X.env.scope x:=by first|exact Or.inl rfl|exact Or.inr (Or.inl rfl)|exact Or.inr (Or.inr rfl))(hd:(x==("__debug__":aL))=false:=by decide)
  (ie:(x==("__classdict__":aL))=false:=by decide) (hs:kI [tg] (.Name x p1) pos.line X.env=pure false:=by rfl) (hw:kH [tg] (.Name x p1) X.env=pure none:=by rfl)
  (h1:(cD [tg] X.env).map (·.2)=[gm tg X.env]:=by rfl):XS X ct ms rk (.Assign [tg] (.Name x p1) pos) (sAsg gg (eV i)):=by
 obtain⟨t2,oi,oj⟩:=hg
 refine⟨_,KI (jm hN hv hd ie) oi hs hw h1,λF0 B F H ρ σ o E rs e z=>?_⟩
 obtain⟨d,h1,h2⟩:=aO e
 obtain⟨ρ',h3,h4⟩:=aO h2
 cases h4
 obtain⟨fp,sl,_,_⟩:=rs.sl
 obtain⟨v,uB,l⟩:=sl.getA hm (yr h1)
 exact⟨v,uB,oj F0 B F H ρ ρ' σ d v _ rs l h3 λσ' r=>z σ' F H r⟩
end
end L3
namespace L3
open PySem PySem.Spec L2
open PyProof.Rows hiding St
section
variable {X:Cx}{ct:Nat->af}{ms:List Mo}{n:Nat}{e tg:Expr}{f:EF}{pos:cx}
end
end L3
namespace L3
open PySem PySem.Spec L2
open PyProof.Rows hiding St
section
variable {X:Cx}{K:aa}{ct:Nat->af}{ms:List Mo}{n k:Nat}
end
end L3
namespace L3
open PySem PySem.Spec L2
open PyProof.Rows hiding St
section
variable {X:Cx}{ct:Nat->af}{ms:List Mo}{rk n m k:Nat}{a b c e:Expr}{f g h:EF}{pos:cx}
end
end L3
namespace L3
open PySem PySem.Spec L2
open PyProof.Rows hiding St
section
variable {K:aa}{ct:Nat->af}{F F' H H' B F0:Hp}
end
section
variable {X:Cx}{ct:Nat->af}{ms:List Mo}{rk n m k:Nat}{st:bP}{rest:List bP}{a b c e tg:Expr}{f g h:EF}{p q:BF}{u w:SF}{pos:cx}
end
section
variable {X:Cx}{ct:Nat->af}{ms:List Mo}{rk n m k:Nat}{st:bP}{rest:List bP}{a b c e tg:Expr}{f g h:EF}{p q:BF}{u w:SF}{pos:cx}{i j:Nat}
variable {kk:Nat}{fa:af}{fd:aH}{ps:List aL}{mf:List D->Option D}{x:aL}{pp:cx}
end
end L3
namespace L2
open PySem PySem.Spec
open PyProof.Rows hiding St
section
variable {X:Cx}{pos:cx}
end
end L2
namespace L3
open PySem PySem.Spec L2
open PyProof.Rows hiding St
section
variable {X:Cx}{ct:Nat->af}{ms:List Mo}{n:Nat}{pos:cx}
end
end L3
namespace L3
open PySem PySem.Spec L2
open PyProof.Rows hiding St
section
variable {X:Cx}{ct:Nat->af}{ms:List Mo}{rk n m k i:Nat}{a b c e:Expr}{f g h:EF}{pos:cx}
def E6 (X:Cx)(ct:Nat->af)(ms:List Mo)(k i:Nat)(es:List Expr)(f:Env->Option (List D)):Prop:=∃t,PA X es t/\(∀ρ ds,f ρ=some ds->ds.length=es.length)/\∀(F0 B F H:Hp) (ρ:Env) (σ:St) (ds:List D) (Q:List V->Hp->Prop) (d:D) (v:V) (f1:List af),RS X.K ct F0 B ms F H ρ σ->ρ[i]?=some (some d)->σ[i]?=some (some v)->Ow X.K ct F H k d v f1->f1.Nodup->f ρ=some ds ->
 (∀vs F' H' fp,eR F H F' H'->dU (Ow X.K ct F' H' k) ds vs fp->fp.Nodup->(∀a∈fp,H a=none\/a∈f1)->Q vs H')->t σ H Q
theorem Y5 {x:aL}{p1:cx}(hN:X.N[i]?=some x:=by rfl)(hv:nw X.env.scope x:=by first|exact Or.inl rfl|exact Or.inr (Or.inl rfl)|exact Or.inr (Or.inr rfl))(hd:(x==("__debug__":aL))=false:=by decide)(ie:(x==("__classdict__":aL))=false:=by decide) :
  E6 X ct ms k i [.Name x p1] (aCons (eV i) aNil):=by
 refine⟨_,ud (jm hN hv hd ie) sf,λρ ds e=>(by obtain⟨y,ys,h1,h2,h3⟩:=cW e;cases h3;cases h2;rfl),λF0 B F H ρ σ ds Q d v f1 rs hρ hσ ow nd e z=>?_⟩
 obtain⟨y,ys,h1,h2,h3⟩:=cW e
 cases h3
 cases h2
 have ey:y=d:=by
  have:=yr h1
  rw[hρ]at this
  cases this
  rfl
 subst ey
 refine⟨_,hσ,z [v] F H f1 (.refl rs.fh) ?_ nd λa h=>.inr h⟩
 have:=dU.cons (R:=Ow X.K ct F H k) ow .nil
 rw[bT]at this
 exact this
theorem Ov {es:List Expr}{fs:Env->Option (List D)}(h1:XO X ct ms k a f)(h2:E6 X ct ms k i es fs)(hs:aq (a::es) X.env=(false,bq a X.env)::aq es X.env:=by rfl):E6 X ct ms k i (a::es) (aCons f fs):=by
 obtain⟨ta,pa,qa⟩:=h1
 obtain⟨tb,pb,lb,qb⟩:=h2
 refine⟨_,ud pa pb hs,λρ ds e=>(by obtain⟨x,xs,h1,h2,h3⟩:=cW e;cases h3;rw[aM,aM,lb _ _ h2]),λF0 B F H ρ σ ds Q d v f1 rs hρ hσ ow nd e z=>?_⟩
 obtain⟨y,ys,h1,h2,h3⟩:=cW e
 cases h3
 refine qa F0 B F H ρ σ y _ rs h1 λu F1 H1 fp x1 l R8 hf=>?_
 refine qb F0 B F1 H1 ρ σ ys _ d v f1 (rs.ext x1) hρ hσ (ow.ext x1) nd h2 λus F2 H2 Ib x2 l2 Dw rX=>?_
 refine z (u::us) F2 H2 (fp++Ib) (x1.trans x2) (.cons (l.ext x2) l2) ?_ λa ha=>?_
 ·refine bv.mpr ⟨R8,Dw,λa ha b hb e=>?_⟩
  subst e
  obtain⟨_,o,ho⟩:=l.cells a ha
  rcases rX a hb with h|h
  ·rw[ho]at h;cases h
  ·obtain⟨_,o',rY⟩:=ow.cells a h
   rw[hf a ha]at rY;cases rY
 ·rcases bz.mp ha with h|h
  ·exact .inl (hf a h)
  ·rcases rX a h with h|h
   ·exact .inl (x1.hh.free h)
   ·exact .inr h
theorem Xj {es:List Expr}{fs:Env->Option (List D)}{x1}{p2:cx}(hm:ms[i]?=some (.ow k))(h:E6 X ct ms k i es fs)(hl:es.length<=1000:=by decide):XS X ct ms (k+1) (.Return (some (.Tuple es x1 p2)) pos) (sRet (λρ=>(eV i ρ).bind λ_=>(fs ρ).bind λds=>some (.tup ds))):=by
 obtain⟨t,pt,lt,qt⟩:=h
 refine⟨_,KH (KN pt),λF0 B F H ρ σ o E rs e w=>?_⟩
 obtain⟨r,h1,h2⟩:=aO e
 cases h2
 obtain⟨d,h3,h4⟩:=aO h1
 obtain⟨ds,h5,h6⟩:=aO h4
 cases h6
 obtain⟨f1,fr,n1,b1,n3,i4,cf,put⟩:=rs.put (F':=F) (H':=H) hm
 obtain⟨v,hσ,ow⟩:=i4 d (yr h3)
 refine qt F0 B F H ρ σ ds _ d v f1 rs (yr h3) hσ ow n1 h5 λvs F1 H1 fp x1 l nd hf=>⟨?_,λp hp=>?_⟩
 ·rw[←l.length,lt _ _ h5];exact small hl
 ·have x2:=eR.newS x1.fh hp (.tup vs)
  have r2:=rs.ext (x1.trans x2)
  refine w _ _ _ fp r2.f0 r2.bh r2.fh r2.nf (.inr (.tup yb (l.mono λ_ _ _ _ o=>o.ext x2))) nd λa ha=>?_
  rcases hf a ha with h|h
  ·exact rs.bh.free h
  ·exact b1 a h
end
end L3
namespace L3
open PySem PySem.Spec L2
open PyProof.Rows hiding St
section
variable {X:Cx}{ct:Nat->af}{ms:List Mo}{rk n m k:Nat}{a b c e o:Expr}{f g h:EF}{pos:cx}
end
end L3
namespace L2
open PySem PySem.Spec
open PyProof.Rows hiding St
section
variable {X:Cx}{CX:pR}{k:Nat}{f C:af}{fd:aH}{ps ks:List aL}{sp:Sp}{E:XK}{x m:aL}{p pos cL qY:cx}{e o:Expr}{es:List Expr}{kws:List dQ}{te ta:TE}{t tk:TA}{nm:Option aL}
variable {g:List ae->List ae->List ae}{gV:List V->List V->List V}
end
end L2
namespace L3
open PySem PySem.Spec L2
open PyProof.Rows hiding St
section
variable {X:Cx}{ct:Nat->af}{ms:List Mo}{rk n m k kk:Nat}{e a:Expr}{f:EF}{x:aL}{pp pos qY:cx}{fa:af}{fd:aH}{ps ks:List aL}{pm cs:List Nat}{mi:Nat->List D->Option D}
end
end L3
namespace L3
open PySem PySem.Spec L2
open PyProof.Rows hiding St
section
variable {X:Cx}{ct:Nat->af}{ms:List Mo}{rk n m k i j:Nat}{a b c e:Expr}{f g h:EF}{pos:cx}
variable {kk:Nat}{fa:af}{fd:aH}{ps:List aL}{mf:List D->Option D}{x y:aL}{pp:cx}
end
end L3
namespace L3
open PySem PySem.Spec L2
open PyProof.Rows hiding St
open Classical in
open Classical in
section
variable {X:Cx}
end
section
variable {K:aa}{ct:Nat->af}{n m k:Nat}
end
section
variable {α:Type}[DecidableEq α]
end
end L3
namespace L3
open PySem PySem.Spec L2
open PyProof.Rows hiding St
section
variable {X:Cx}{ct:Nat->af}{ms:List Mo}{rk n m k:Nat}{st:bP}{rest:List bP}{a b c e tg:Expr}{f g h:EF}{p q:BF}{u w:SF}{pos:cx}{K:aa}
end
end L3
namespace L3
open PySem PySem.Spec L2
open PyProof.Rows hiding St
section
variable {X:Cx}{ct:Nat->af}{ms:List Mo}{rk n m k kk kq:Nat}{st:bP}{rest:List bP}{a b c e tg:Expr}{f g h:EF}{p q:BF}{u w:SF}{pos pp:cx}{K:aa}{x:aL}{fa:af}{fd:aH}{ps:List aL}{mf:List D->Option D}
theorem lZ (h:XO X ct ms k e f):XO X ct ms 0 e f:=XE.ow (XO.sh (n:=0) h)
theorem jK {own i:Nat}(hN:X.N.Nodup)(ho:i<own:=by decide)(hm:ms[i]?=some (.ow 0):=by rfl)(hi:X.N[i]?=some x:=by rfl)(hx:Loc X.env.scope x:=by first|exact Or.inl rfl|exact Or.inr rfl)
  (hf:X.fn x=true\/X.env.scope.names.lookup x=some .local:=by first|exact .inl rfl|exact .inr rfl|assumption):sq X ct ms own 0 (.Name x pos) (gV i):=Xp ho hm hN hi hx hf
theorem fC {i:Nat}{pos':cx}(hN:X.N.Nodup)(he:XO X ct ms k e f)(hm:ms[i]?=some (.ow k):=by rfl)(hi:X.N[i]?=some x:=by rfl)(hx:Loc X.env.scope x:=by first|exact Or.inl rfl|exact Or.inr rfl)
  (hs:dn e (some (.Name x pos')) pos.line X.env=pure false:=by rfl)
  (hf:X.fn x=true\/X.env.scope.names.lookup x=some .local:=by first|exact .inl rfl|exact .inr rfl|assumption):XS X ct ms rk (.Assign [.Name x pos'] e pos) (sSet i f):=Z7 hm hN hi hx he hs hf
theorem iS {i:Nat}(hN:X.N.Nodup)(hm:ms[i]?=some (.ow 0):=by rfl)(hi:X.N[i]?=some x:=by rfl)(hx:Loc X.env.scope x:=by first|exact Or.inl rfl|exact Or.inr rfl)
  (hf:X.fn x=true\/X.env.scope.names.lookup x=some .local:=by first|exact .inl rfl|exact .inr rfl|assumption):XG X ct ms 0 (.Name x pos) (gV i):=X8 hm hN hi hx hf
theorem cC {es:List Expr}{ns:List Nat}{fs:Env->Option (List D)}(d:hX X.K X.mg x st ps fa fd)(Fn:cn X.prog X.w X.K X.mg X.base eu kk fa fd ps (fK X.K ct ns rk mf))(hr:dN kq X.A)(ha:XA X ct ms (e::es) ns fs)(n9:kk<=kq:=by decide)(hg:Gl X x:=by rfl)
  (kd:(x==("__debug__":aL))=false:=by decide) (he:aq (e::es) X.env=(false,bq e X.env)::aq es X.env:=by rfl) (gD:(cj pos (aq es X.env)).any (·.1)=false:=by rfl) :
  XO X ct ms rk (.Call (.Name x pp) (e::es) [] pos) (λρ=>(fs ρ).bind λds=>mf (ds++[])) :=
 KA (ns:=ns) (nd:=[]) (jU:=[]) (by rw[bT];exact Fn) (hr.mono n9) hg d.mgx d.fn.kp d.bd .nil (λ_ _=>.nil) ha kd he gD
theorem j9 {om:List Mo}{iI iter:Expr}{ifs:List Expr}{scope:eY}{N:List aL}{own:Nat}{cap:List Nat}{fi:Env->Option (List D)}{gg:D->Env->Option Env}(hi:rS X ct ms n tg iter fi)
  (hg:∀cl C fp s₀ H₀,sq (gK X scope cl N C fp s₀ H₀) ct (om++fY ms cap) own n tg gg) (ht:∀cl C fp s₀ H₀,uZ (gK X scope cl N C fp s₀ H₀) ct (om++fY ms cap) ifs p) (he:∀cl C fp s₀ H₀,XO (gK X scope cl N C fp s₀ H₀) ct (om++fY ms cap) k iI f)
  (B:jN X scope N own cap:=by exact uP (by rfl)) (hc:X.calm=true:=by rfl) (ho:om.length=own:=by rfl) (e8:∀i∈cap,i<ms.length:=by decide)
  (hs:∀x,dm iter X.env x=pure x:=by intro _;rfl):XO X ct ms (k+1) (.ListComp iI [⟨tg,iter,ifs,0⟩] scope pos) (cX fi own cap gg p f):=Yc B hc ho e8 hi hg ht he hs
theorem gW {P:ba}{w:bM}{mg:aL->Option ae}{base:aG}{qual:aL}{N:List aL}{pm:List Nat}{bf:SF}(Fn:Fun2 K x qual st fa fd)(S:bn N ps (aP st))
  (body:∀(gY:ae) (A:bD) (outer:List PySem.Env) (s:aj) (H:Hp) (E:XK),dN kk (A.deeper (envOfC qual (aP st) s.heap.objs.size fa gY))->p7 (mG eu P w K mg base N qual (aP st) fa gY A outer s H E).nox ct ms rk (gq st) bf)
  (Cs:pm.length=ps.length:=by rfl) (IQ:ms.length=N.length:=by rfl) (n9:ps.length<=N.length:=by decide) (Cp:∀(i n:Nat),pm[i]?=some n->ms[i]?=some (Mo.al n)\/(n=0/\ms[i]?=some (Mo.ow 0)):=by exact jp (by decide)) :
  cn P w K mg base eu (kk+1) fa fd ps (fK K ct pm rk (mOf N bf)):=lift Fn S Cs IQ n9 Cp body
theorem cr {i:Int}{j}:XE X ct ms 0 (.Constant (.int i) j pos) (eC (.int i)):=Z5
theorem pG {j}:XE X ct ms 0 (.Constant .none j pos) (eC .non):=Z6
theorem gE (ha:XE X ct ms 0 a f)(hb:XE X ct ms 0 b g):XO X ct ms 1 (.BinOp a .Add b pos) (e2 cz f g):=zs5 YN (YO (by decide) (by decide)) ha hb
theorem iT (ha:XE X ct ms 0 a f)(hb:XE X ct ms 0 b g)(hp:iH b:=by exactλ_ _=>rfl):XE X ct ms 0 (.Subscript a b pos) (e2 di f g):=jl (n:=0) ve vq ha hb hp
theorem kR {fs:Env->Option (List D)}(hm:X.mg "len"=none)(ha:XA X ct ms [e] [n] fs)(hg:Gl X "len":=by rfl)(he:aq [e] X.env=(false,bq e X.env)::aq [] X.env:=by rfl)(gD:(cj pos (aq [] X.env)).any (·.1)=false:=by rfl):XE X ct ms 0 (.Call (.Name "len" pp) [e] [] pos) (eN dH fs):=u0 (k:=0) Wg Yb hg hm Z4 ha (by decide) (by decide) he gD
theorem R5 {P:List ae->Prop}(h:P [])(us:List ae)(e:us.length=0):P us:=by
 cases us with
 |nil=>exact h
 |cons a t=>cases e
theorem pU {P:List ae->Prop}(h:∀a1,P [a1])(us:List ae)(e:us.length=1):P us:=by
 cases us with
 |nil=>cases e
 |cons a t=>exact R5 (P:=λt=>P (a::t)) (h a) t (Nat.succ.inj e)
theorem oR {P:List ae->Prop}(h:∀a1 a2,P [a1,a2])(us:List ae)(e:us.length=2):P us:=by
 cases us with
 |nil=>cases e
 |cons a t=>exact pU (P:=λt=>P (a::t)) (h a) t (Nat.succ.inj e)
theorem sY {P:List ae->Prop}(h:∀a1 a2 a3,P [a1,a2,a3])(us:List ae)(e:us.length=3):P us:=by
 cases us with
 |nil=>cases e
 |cons a t=>exact oR (P:=λt=>P (a::t)) (h a) t (Nat.succ.inj e)
theorem pV {P:List ae->Prop}(h:∀a1 a2 a3 a4,P [a1,a2,a3,a4])(us:List ae)(e:us.length=4):P us:=by
 cases us with
 |nil=>cases e
 |cons a t=>exact sY (P:=λt=>P (a::t)) (h a) t (Nat.succ.inj e)
theorem zF {P:List ae->Prop}(h:∀a1 a2 a3 a4 a5,P [a1,a2,a3,a4,a5])(us:List ae)(e:us.length=5):P us:=by
 cases us with
 |nil=>cases e
 |cons a t=>exact pV (P:=λt=>P (a::t)) (h a) t (Nat.succ.inj e)
end
end L3
namespace L3
open PySem PySem.Spec L2
open PyProof.Rows hiding St
section
variable {K:aa}{ct:Nat->af}{F B H:Hp}
end
section
variable {X:Cx}{ct:Nat->af}{ms:List Mo}{rk n m k i j:Nat}{a b c e:Expr}{f g h:EF}{p q:BF}{pos:cx}{K:aa}
end
end L3
set_option maxHeartbeats 1000000
namespace L3
open PySem PySem.Spec L2
open PyProof.Rows hiding St
inductive G3 where
 |ok (d:D)|xc (d:D)
inductive G2 where
 |ok (o:Out)|xc (ρ:Env) (d:D)
abbrev K0:=Env->Option G2
section
variable (X:Cx)(G:GK)(ct:Nat->af)(ms:List Mo)(rk:Nat)
end
section
variable {X:Cx}{G:GK}{ct:Nat->af}{ms:List Mo}{rk n m k:Nat}{st:bP}{rest:List bP}{a b c e:Expr}{f g h:EF}{p q:BF}{u w:K0}{pos:cx}
end
end L3
set_option maxHeartbeats 1000000
namespace L3
open PySem PySem.Spec L2
open PyProof.Rows hiding St
section
variable {X:Cx}{G:GK}{ct:Nat->af}{ms:List Mo}{rk n m k kk:Nat}{st:bP}{rest:List bP}{a b c e:Expr}{f g h:EF}{p q:BF}{u w:K0}{pos pp:cx}{fa:af}{fd:aH}{ps:List aL}{mf:List D->Option G3}{x:aL}
end
end L3
set_option maxHeartbeats 1000000
namespace L3
open PySem PySem.Spec L2
open PyProof.Rows hiding St
section
variable {X:Cx}{G:GK}{ct:Nat->af}{ms:List Mo}{rk n m k kk:Nat}{a b c e tg:Expr}{f g h:EF}{u w:SF}{pos pp:cx}{fa:af}{fd:aH}{ps:List aL}{x:aL}
end
end L3
set_option maxHeartbeats 1000000
namespace L2
open PySem PySem.Spec PyProof.Rows
section
variable {X:Cx}
end
end L2
namespace L3
open PySem PySem.Spec L2
open PyProof.Rows hiding St
section
variable {X:Cx}{ct:Nat->af}{ms:List Mo}{n m k:Nat}{e:Expr}{f:EF}{pos:cx}
end
end L3
set_option maxHeartbeats 1000000
namespace L3
open PySem PySem.Spec L2
open PyProof.Rows hiding St
end L3
set_option maxHeartbeats 1000000
namespace L3
open PySem PySem.Spec L2
open PyProof.Rows hiding St
end L3
set_option maxHeartbeats 1000000
namespace L2
open PySem PySem.Spec PyProof.Rows
theorem U9 (a b c:ae):checkTypeCall "zip" ⟨[a,b,c],[]⟩=pure ():=by kernel_rfl
theorem Vr (a b c:ae):checkBuiltinCall "zip.__new__" ⟨[.type "zip",a,b,c],[]⟩=pure ():=by kernel_rfl
theorem WI (a b c d:ae):argsOk "object.__init__" ⟨[a,b,c,d],[]⟩:=by
 unfold argsOk;rw[signature?_of (id:="object.__init__") (n:=['_','_','t','i','n','i','_','_']) (o:=['t','c','e','j','b','o']) (by kernel_rfl) F.owner_object];kernel_rfl
abbrev eZ (h:aG)(T:af)(a b c:ae):Prop:=h.get? T=some { cls:=.type "tuple",data:=.seq #[a,b,c] }
structure Z3 (z TI TO i1 i2 i3 l1 l2 l3:af):Prop where
 TIz:TI≠z
 TOz:TO≠z
 i1z:i1≠z
 i2z:i2≠z
 i3z:i3≠z
 TITO:TI≠TO
 TIi1:TI≠i1
 TIi2:TI≠i2
 TIi3:TI≠i3
 TOi1:TO≠i1
 TOi2:TO≠i2
 TOi3:TO≠i3
 i12:i1≠i2
 i13:i1≠i3
 i23:i2≠i3
 l1z:l1≠z
 l2z:l2≠z
 l2TO:l2≠TO
 l2i1:l2≠i1
 l3z:l3≠z
 l3TO:l3≠TO
 l3i1:l3≠i1
 l3i2:l3≠i2
section
variable {prog:ba}{w:bM}{A:bD}{E:ae->aj->Prop}{s:aj}{z TI TO i1 i2 i3 l1 l2 l3:af}{xs ys zs:Array ae}{k1 k2 k3:Nat}
theorem rF {T:af}{a b c x:ae}{k:Nat}{Q:Unit->aj->Prop}(hT:eZ s.heap T a b c)
    (h:∀h',h'.get? T=some { cls:=.type "tuple",data:=.seq ((#[a,b,c]:Array ae).setIfInBounds k x) }->ez T s.heap h'->Q () { s with heap:=h' }) :
    aQ (aU prog w) A (updateSeq T (·.setIfInBounds k x)) Q E s:=by
  refine wpAny_updateSeq hT rfl (h _ ?_ (ez.update ..))
  rw[nD _ hT rfl]
  simp[dq.mapSeq]
theorem WJ {x y u a b c:ae}{Q:ae->aj->Prop}(D:Z3 z TI TO i1 i2 i3 l1 l2 l3)
    (hz:IsZip s.heap z TI TO .none) (wM:eZ s.heap TI (.ref i1) (.ref i2) (.ref i3)) (wN:eZ s.heap TO a b c)
    (h1:s.heap.IsListIter i1 l1 k1) (h2:s.heap.IsListIter i2 l2 k2) (h3:s.heap.IsListIter i3 l3 k3) (oP:s.heap.IsList l1 xs) (jQ:s.heap.IsList l2 ys) (qM:s.heap.IsList l3 zs) (hx:xs[k1]?=some x) (hy:ys[k2]?=some y) (hu:zs[k3]?=some u)
    (hQ:∀h',IsZip h' z TI TO (rawInt s.heap.objs.size)->eZ h' TO x y u->h'.IsListIter i1 l1 (k1+1)->h'.IsListIter i2 l2 (k2+1)->h'.IsListIter i3 l3 (k3+1)->eZ h' s.heap.objs.size x y u ->
      (∀c o,c≠z->c≠TO->c≠i1->c≠i2->c≠i3->s.heap.get? c=some o->h'.get? c=some o)->Q (.ref s.heap.objs.size) { s with heap:=h' }) :
    aQ (aU prog w) A (dc.«zip.__next__» ⟨[.ref z],[]⟩) (λfin s'=>∃v,fin=.done (.ret v)/\Q v s') E s:=by
  show aQ _ _ (field (.ref z) 2 >>= _) _ _ _
  refine av (wpAny_field hz rfl (x:=.bool false) rfl ?_)
  show aQ _ _ (field (.ref z) 3 >>= _) _ _ _
  refine av (wpAny_field hz rfl (x:=.ref TI) rfl ?_)
  refine av (wpAny_seqItems wM rfl ?_)
  show aQ _ _ (dc.SmallTypes.ownedTupleIsFree (.ref z) >>= _) _ _ _
  refine av ?_
  unfold dc.SmallTypes.ownedTupleIsFree
  refine av (wpAny_field hz rfl (x:=.none) rfl (bc ?_))
  simp only[if_true]
  refine av (wpAny_rule ?_)
  refine av (wpAny_field hz rfl (x:=.ref TO) rfl ?_)
  refine av (wpAny_setField_rec hz (by simp) λh₁ sU kP=>?_)
  replace sU:IsZip h₁ z TI TO .ellipsis:=sU
  refine av ?_
  simp only[kF,rN,fO,iJ]
  refine av (av (wpAny_onRaise ?_))
  show aQ _ _ (dc.SmallTypes.nextOf (.ref i1) >>= _) _ _ _
  refine av (wpAny_nextOf_list_item (h1.extBut kP.extBut D.i1z) (oP.extBut kP.extBut D.l1z) hx λh₂ LA lq=>bc ?_)
  have qD:eZ h₂ TO a b c:=lq.extBut _ _ D.TOi1 (kP.extBut _ _ D.TOz wN)
  refine av (wpAny_seqItems qD rfl ?_)
  refine av (rF qD λh₃ n4 lK=>?_)
  replace n4:eZ h₃ TO x b c:=n4
  refine av (wpAny_letGo (bc ?_))
  refine av (av (wpAny_onRaise ?_))
  show aQ _ _ (dc.SmallTypes.nextOf (.ref i2) >>= _) _ _ _
  refine av (wpAny_nextOf_list_item (((h2.extBut kP.extBut D.i2z).extBut lq.extBut D.i12.symm).extBut lK.extBut D.TOi2.symm)
    (((jQ.extBut kP.extBut D.l2z).extBut lq.extBut D.l2i1).extBut lK.extBut D.l2TO) hy λh₄ LB nK=>bc ?_)
  have qE:eZ h₄ TO x b c:=nK.extBut _ _ D.TOi2 n4
  refine av (wpAny_seqItems qE rfl ?_)
  refine av (rF qE λh₅ sK og=>?_)
  replace sK:eZ h₅ TO x y c:=sK
  refine av (wpAny_letGo (bc ?_))
  refine av (av (wpAny_onRaise ?_))
  show aQ _ _ (dc.SmallTypes.nextOf (.ref i3) >>= _) _ _ _
  refine av (wpAny_nextOf_list_item (((((h3.extBut kP.extBut D.i3z).extBut lq.extBut D.i13.symm).extBut lK.extBut D.TOi3.symm).extBut nK.extBut D.i23.symm).extBut og.extBut D.TOi3.symm)
    (((((qM.extBut kP.extBut D.l3z).extBut lq.extBut D.l3i1).extBut lK.extBut D.l3TO).extBut nK.extBut D.l3i2).extBut og.extBut D.l3TO) hu λh₆ Ra sS=>bc ?_)
  have B7:eZ h₆ TO x y c:=sS.extBut _ _ D.TOi3 sK
  refine av (wpAny_seqItems B7 rfl ?_)
  refine av (rF B7 λh₇ sL sT=>?_)
  replace sL:eZ h₇ TO x y u:=sL
  refine av (wpAny_letGo (bc (bc ?_)))
  refine av (wpAny_seqItems sL rfl ?_)
  refine av (wpAny_newTuple ?_)
  have hsz:h₇.objs.size=s.heap.objs.size:=by rw[sT.1,sS.1,og.1,nK.1,lK.1,lq.1,kP.1]
  have L1:IsZip h₇ z TI TO .ellipsis:=sT.extBut _ _ D.TOz.symm (sS.extBut _ _ D.i3z.symm (og.extBut _ _ D.TOz.symm (nK.extBut _ _ D.i2z.symm (lK.extBut _ _ D.TOz.symm (lq.extBut _ _ D.i1z.symm sU)))))
  have RF:∀c o,c≠z->c≠TO->c≠i1->c≠i2->c≠i3->s.heap.get? c=some o->h₇.get? c=some o:=λc o c1 c2 c3 c4 c5 e=>
    sT.extBut _ _ c2 (sS.extBut _ _ c5 (og.extBut _ _ c2 (nK.extBut _ _ c4 (lK.extBut _ _ c2 (lq.extBut _ _ c3 (kP.extBut _ _ c1 e))))))
  have Q7:h₇.IsListIter i1 l1 (k1+1):=((((LA.extBut lK.extBut D.TOi1.symm).extBut nK.extBut D.i12).extBut og.extBut D.TOi1.symm).extBut sS.extBut D.i13).extBut sT.extBut D.TOi1.symm
  have Q9:h₇.IsListIter i2 l2 (k2+1):=((LB.extBut og.extBut D.TOi2.symm).extBut sS.extBut D.i23).extBut sT.extBut D.TOi2.symm
  have Rb:h₇.IsListIter i3 l3 (k3+1):=Ra.extBut sT.extBut D.TOi3.symm
  have CD:z<h₇.objs.size:=aB L1
  show aQ _ _ (dc.SmallTypes.ownedTupleHandOut (.ref z) (.ref h₇.objs.size) >>= _) _ _ _
  refine av ?_
  unfold dc.SmallTypes.ownedTupleHandOut
  have RX:IsZip (h₇.push { cls:=.type "tuple",data:=.seq #[x,y,u] }) z TI TO .ellipsis:=am _ L1
  refine av (wpAny_setField_rec RX (by simp) λh₉ Jg LS=>?_)
  replace Jg:IsZip h₉ z TI TO (rawInt h₇.objs.size):=Jg
  refine wpAny_setField_rec Jg (by simp) λha Fy LR=>?_
  replace Fy:IsZip ha z TI TO (rawInt h₇.objs.size):=Fy
  have up:∀c o,c≠z->h₇.get? c=some o->ha.get? c=some o:=λc o c1 e=>LR.extBut _ _ c1 (LS.extBut _ _ c1 (am _ e))
  have LH:eZ ha h₇.objs.size x y u:=LR.extBut _ _ (gd CD) (LS.extBut _ _ (gd CD) (aT _ rfl))
  rw[hsz]at Fy LH
  refine bc ⟨_,rfl,?_⟩
  show Q (.ref h₇.objs.size) _
  rw[hsz]
  exact hQ ha Fy (up _ _ D.TOz sL) (Q7.at λo e=>up _ o D.i1z e) (Q9.at λo e=>up _ o D.i2z e) (Rb.at λo e=>up _ o D.i3z e) LH λc o c1 c2 c3 c4 c5 e=>up c o c1 (RF c o c1 c2 c3 c4 c5 e)
theorem Xk {a b c:ae}{Q:Fin->aj->Prop}(hh:A.handled=none)(D:Z3 z TI TO i1 i2 i3 l1 l2 l3)
  (hz:IsZip s.heap z TI TO .none) (wM:eZ s.heap TI (.ref i1) (.ref i2) (.ref i3)) (wN:eZ s.heap TO a b c)
  (h1:s.heap.IsListIter i1 l1 k1) (h2:s.heap.IsListIter i2 l2 k2) (h3:s.heap.IsListIter i3 l3 k3) (oP:s.heap.IsList l1 xs) (jQ:s.heap.IsList l2 ys) (qM:s.heap.IsList l3 zs) (qJ:xs[k1]?=none\/ys[k2]?=none\/zs[k3]?=none)
  (hE:∀h' e,(∀c o,c≠z->c≠TO->c≠i1->c≠i2->c≠i3->s.heap.get? c=some o->h'.get? c=some o)->(∃o,h'.get? e=some o/\o.cls=.type "StopIteration")->E (.ref e) { s with heap:=h' }) :
  aQ (aU prog w) A (dc.«zip.__next__» ⟨[.ref z],[]⟩) Q E s:=by
 show aQ _ _ (field (.ref z) 2 >>= _) _ _ _
 refine av (wpAny_field hz rfl (x:=.bool false) rfl ?_)
 show aQ _ _ (field (.ref z) 3 >>= _) _ _ _
 refine av (wpAny_field hz rfl (x:=.ref TI) rfl ?_)
 refine av (wpAny_seqItems wM rfl ?_)
 show aQ _ _ (dc.SmallTypes.ownedTupleIsFree (.ref z) >>= _) _ _ _
 refine av ?_
 unfold dc.SmallTypes.ownedTupleIsFree
 refine av (wpAny_field hz rfl (x:=.none) rfl (bc ?_))
 simp only[if_true]
 refine av (wpAny_rule ?_)
 refine av (wpAny_field hz rfl (x:=.ref TO) rfl ?_)
 refine av (wpAny_setField_rec hz (by simp) λh₁ sU kP=>?_)
 replace sU:IsZip h₁ z TI TO .ellipsis:=sU
 refine av ?_
 simp only[kF,rN,fO,iJ]
 refine av (av (wpAny_onRaise ?_))
 show aQ _ _ (dc.SmallTypes.nextOf (.ref i1) >>= _) _ _ _
 cases hx:xs[k1]? with
 |none=>
  refine av (wpAny_nextOf_list_end hh (h1.extBut kP.extBut D.i1z) (oP.extBut kP.extBut D.l1z) hx λh₂ e lq he=>?_)
  obtain⟨oe,qO,t6⟩:=he
  have LY:IsZip h₂ z TI TO .ellipsis:=lq _ _ D.i1z.symm sU
  have Ce:e≠z:=λx=>by subst x;rw[LY]at qO;cases qO;simp at t6
  refine wpAny_setField_rec LY (by simp) λh₃ _ lK=>hE h₃ e (λc o c1 _ c3 _ _ x=>lK.extBut _ _ c1 (lq _ _ c3 (kP.extBut _ _ c1 x))) ⟨oe,lK.extBut _ _ Ce qO,t6⟩
 |some x=>
  have qJ:ys[k2]?=none\/zs[k3]?=none:=by rcases qJ with h|h;rw[hx]at h;cases h;exact h
  refine av (wpAny_nextOf_list_item (h1.extBut kP.extBut D.i1z) (oP.extBut kP.extBut D.l1z) hx λh₂ LA lq=>bc ?_)
  have qD:eZ h₂ TO a b c:=lq.extBut _ _ D.TOi1 (kP.extBut _ _ D.TOz wN)
  refine av (wpAny_seqItems qD rfl ?_)
  refine av (rF qD λh₃ n4 lK=>?_)
  replace n4:eZ h₃ TO x b c:=n4
  refine av (wpAny_letGo (bc ?_))
  refine av (av (wpAny_onRaise ?_))
  show aQ _ _ (dc.SmallTypes.nextOf (.ref i2) >>= _) _ _ _
  cases hy:ys[k2]? with
  |none=>
   refine av (wpAny_nextOf_list_end hh (((h2.extBut kP.extBut D.i2z).extBut lq.extBut D.i12.symm).extBut lK.extBut D.TOi2.symm)
    (((jQ.extBut kP.extBut D.l2z).extBut lq.extBut D.l2i1).extBut lK.extBut D.l2TO) hy λh₄ e nK he=>?_)
   obtain⟨oe,qO,t6⟩:=he
   have LZ:IsZip h₄ z TI TO .ellipsis:=nK _ _ D.i2z.symm (lK.extBut _ _ D.TOz.symm (lq.extBut _ _ D.i1z.symm sU))
   have Ce:e≠z:=λx=>by subst x;rw[LZ]at qO;cases qO;simp at t6
   refine wpAny_setField_rec LZ (by simp) λh₅ _ og=>hE h₅ e (λc o c1 c2 c3 c4 _ x=>og.extBut _ _ c1 (nK _ _ c4 (lK.extBut _ _ c2 (lq.extBut _ _ c3 (kP.extBut _ _ c1 x))))) ⟨oe,og.extBut _ _ Ce qO,t6⟩
  |some y=>
   have hu:zs[k3]?=none:=by rcases qJ with h|h;rw[hy]at h;cases h;exact h
   refine av (wpAny_nextOf_list_item (((h2.extBut kP.extBut D.i2z).extBut lq.extBut D.i12.symm).extBut lK.extBut D.TOi2.symm)
    (((jQ.extBut kP.extBut D.l2z).extBut lq.extBut D.l2i1).extBut lK.extBut D.l2TO) hy λh₄ LB nK=>bc ?_)
   have qE:eZ h₄ TO x b c:=nK.extBut _ _ D.TOi2 n4
   refine av (wpAny_seqItems qE rfl ?_)
   refine av (rF qE λh₅ sK og=>?_)
   refine av (wpAny_letGo (bc ?_))
   refine av (av (wpAny_onRaise ?_))
   show aQ _ _ (dc.SmallTypes.nextOf (.ref i3) >>= _) _ _ _
   refine av (wpAny_nextOf_list_end hh (((((h3.extBut kP.extBut D.i3z).extBut lq.extBut D.i13.symm).extBut lK.extBut D.TOi3.symm).extBut nK.extBut D.i23.symm).extBut og.extBut D.TOi3.symm)
    (((((qM.extBut kP.extBut D.l3z).extBut lq.extBut D.l3i1).extBut lK.extBut D.l3TO).extBut nK.extBut D.l3i2).extBut og.extBut D.l3TO) hu λh₆ e sS he=>?_)
   obtain⟨oe,qO,t6⟩:=he
   have L0:IsZip h₆ z TI TO .ellipsis:=sS _ _ D.i3z.symm (og.extBut _ _ D.TOz.symm (nK.extBut _ _ D.i2z.symm (lK.extBut _ _ D.TOz.symm (lq.extBut _ _ D.i1z.symm sU))))
   have Ce:e≠z:=λx=>by subst x;rw[L0]at qO;cases qO;simp at t6
   refine wpAny_setField_rec L0 (by simp) λh₇ _ sT=>hE h₇ e (λc o c1 c2 c3 c4 c5 x=>sT.extBut _ _ c1 (sS _ _ c5 (og.extBut _ _ c2 (nK.extBut _ _ c4 (lK.extBut _ _ c2 (lq.extBut _ _ c3 (kP.extBut _ _ c1 x))))))) ⟨oe,sT.extBut _ _ Ce qO,t6⟩
theorem V5 {x y u a b c:ae}{Q:Option ae->aj->Prop}(D:Z3 z TI TO i1 i2 i3 l1 l2 l3)
  (hz:IsZip s.heap z TI TO .none) (wM:eZ s.heap TI (.ref i1) (.ref i2) (.ref i3)) (wN:eZ s.heap TO a b c)
  (h1:s.heap.IsListIter i1 l1 k1) (h2:s.heap.IsListIter i2 l2 k2) (h3:s.heap.IsListIter i3 l3 k3) (oP:s.heap.IsList l1 xs) (jQ:s.heap.IsList l2 ys) (qM:s.heap.IsList l3 zs) (hx:xs[k1]?=some x) (hy:ys[k2]?=some y) (hu:zs[k3]?=some u)
  (hQ:∀h',IsZip h' z TI TO (rawInt s.heap.objs.size)->eZ h' TO x y u->h'.IsListIter i1 l1 (k1+1)->h'.IsListIter i2 l2 (k2+1)->h'.IsListIter i3 l3 (k3+1)->eZ h' s.heap.objs.size x y u ->
   (∀c o,c≠z->c≠TO->c≠i1->c≠i2->c≠i3->s.heap.get? c=some o->h'.get? c=some o)->Q (some (.ref s.heap.objs.size)) { s with heap:=h' }) :
  aQ (aU prog w) A (pyNext (.ref z)) Q E s:=by
 have hT:s.TypeIs (.ref z) "zip":=⟨_,hz,rfl⟩
 unfold pyNext
 exact av (wpAny_attempt (wpAny_callSpecial?_slot (name:=aL.ofString "__next__") hT F.slot_zip_next
  (wpAny_call_entry F.slot_zip_next hT F.entry_zip_next
   (WJ D hz wM wN h1 h2 h3 oP jQ qM hx hy hu λh' a1 a2 a3 a4 a5 a6 a7=>bc (hQ h' a1 a2 a3 a4 a5 a6 a7)) (F.args_zip_next_1 _))))
theorem WK {a b c:ae}{Q:Option ae->aj->Prop}(hh:A.handled=none)(D:Z3 z TI TO i1 i2 i3 l1 l2 l3)
  (hz:IsZip s.heap z TI TO .none) (wM:eZ s.heap TI (.ref i1) (.ref i2) (.ref i3)) (wN:eZ s.heap TO a b c)
  (h1:s.heap.IsListIter i1 l1 k1) (h2:s.heap.IsListIter i2 l2 k2) (h3:s.heap.IsListIter i3 l3 k3) (oP:s.heap.IsList l1 xs) (jQ:s.heap.IsList l2 ys) (qM:s.heap.IsList l3 zs) (qJ:xs[k1]?=none\/ys[k2]?=none\/zs[k3]?=none)
  (hQ:∀h',(∀c o,c≠z->c≠TO->c≠i1->c≠i2->c≠i3->s.heap.get? c=some o->h'.get? c=some o)->Q none { s with heap:=h' }):aQ (aU prog w) A (pyNext (.ref z)) Q E s:=by
 have hT:s.TypeIs (.ref z) "zip":=⟨_,hz,rfl⟩
 unfold pyNext
 refine av (wpAny_attempt (wpAny_callSpecial?_slot (name:=aL.ofString "__next__") hT F.slot_zip_next
  (wpAny_call_entry F.slot_zip_next hT F.entry_zip_next (Xk hh D hz wM wN h1 h2 h3 oP jQ qM qJ λh' e hk he=>?_) (F.args_zip_next_1 _))))
 obtain⟨o,ho,hc⟩:=he
 refine av (wpAny_isInstance (T:="StopIteration") (b:=true) ⟨o,ho,hc⟩ isSubtype_stop ?_)
 exact bc (hQ _ hk)
end
abbrev dI (l:af):dq:={ cls:=.type "list_iterator",data:=.fields #[.ref l,.int 0 0] }
abbrev FT (h:aG)(l1 l2 l3:af):aG:=(((((h.push (dI l1)).push (dI l2)).push (dI l3)).push { cls:=.type "tuple",data:=.seq #[.ref h.objs.size,.ref (h.push (dI l1)).objs.size,.ref ((h.push (dI l1)).push (dI l2)).objs.size] }).push { cls:=.type "tuple",data:=.seq #[.none,.none,.none] })
abbrev yL (h:aG)(l1 l2 l3:af):aG:=(FT h l1 l2 l3).push { cls:=.type "zip",data:=.fields #[.none,.bool false,.bool false,.ref (((h.push (dI l1)).push (dI l2)).push (dI l3)).objs.size,.ref ((((h.push (dI l1)).push (dI l2)).push (dI l3)).push { cls:=.type "tuple",data:=.seq #[.ref h.objs.size,.ref (h.push (dI l1)).objs.size,.ref ((h.push (dI l1)).push (dI l2)).objs.size] }).objs.size] }
theorem V6 (l1 l2 l3:af)(xs ys zs:Array ae) :
  Meets (dc.«zip.__new__» ⟨[.type "zip",.ref l1,.ref l2,.ref l3],[]⟩) (λ_ R s=>s.heap.IsList l1 xs/\s.heap.IsList l2 ys/\s.heap.IsList l3 zs /\
   R (.ok (.ret (.ref (FT s.heap l1 l2 l3).objs.size))) { s with heap:=yL s.heap l1 l2 l3 }) :=
 .of_wp λprog w A R s h=>by
  obtain⟨hp,g,d,tk,os⟩:=s;obtain⟨oP,jQ,qM,h⟩:=h
  have xG:=sub_zip
  have Rg:gB (aj.heap ⟨hp,g,d,tk,os⟩) l1 xs:=oP
  have Rh:gB (aj.heap ⟨hp.push (dI l1),g,d,tk,os⟩) l2 ys:=gB.push jQ _
  have Ri:gB (aj.heap ⟨(hp.push (dI l1)).push (dI l2),g,d,tk,os⟩) l3 zs:=gB.push (gB.push qM _) _
  wp_walk using fF Rg,fF Rh,fF Ri
  exact⟨_,rfl,h⟩
theorem WL {prog:ba}{w:bM}{A:bD}{E:ae->aj->Prop}{s:aj}{l1 l2 l3:af}{xs ys zs:Array ae}{Q:ae->aj->Prop}(oP:s.heap.IsList l1 xs)(jQ:s.heap.IsList l2 ys)(qM:s.heap.IsList l3 zs)
    (h:∀h',IsZip h' (s.heap.objs.size+5) (s.heap.objs.size+3) (s.heap.objs.size+4) .none->eZ h' (s.heap.objs.size+3) (.ref s.heap.objs.size) (.ref (s.heap.objs.size+1)) (.ref (s.heap.objs.size+2)) ->
      eZ h' (s.heap.objs.size+4) .none .none .none->h'.IsListIter s.heap.objs.size l1 0->h'.IsListIter (s.heap.objs.size+1) l2 0->h'.IsListIter (s.heap.objs.size+2) l3 0 ->
      (∀c o,s.heap.get? c=some o->h'.get? c=some o)->Q (.ref (s.heap.objs.size+5)) { s with heap:=h' }) :
    aQ (aU prog w) A (call (.type "zip") [.ref l1,.ref l2,.ref l3]) Q E s:=by
  refine callType_new F.called_zip (by decide) (U9 _ _ _) (Vr _ _ _) (λobj=>WI obj _ _ _) F.entry_zip_new
    (V6 l1 l2 l3 xs ys zs) ⟨oP,jQ,qM,?_⟩
  have z1:(s.heap.push (dI l1)).objs.size=s.heap.objs.size+1:=cJ ..
  have z2:((s.heap.push (dI l1)).push (dI l2)).objs.size=s.heap.objs.size+2:=by rw[cJ,z1]
  have z3:(((s.heap.push (dI l1)).push (dI l2)).push (dI l3)).objs.size=s.heap.objs.size+3:=by rw[cJ,z2]
  have g1:(yL s.heap l1 l2 l3).get? s.heap.objs.size=some _:=am _ (am _ (am _ (am _ (am _ (aT _ rfl)))))
  have g2:(yL s.heap l1 l2 l3).get? (s.heap.push (dI l1)).objs.size=some _:=am _ (am _ (am _ (am _ (aT _ rfl))))
  have g3:(yL s.heap l1 l2 l3).get? ((s.heap.push (dI l1)).push (dI l2)).objs.size=some _:=am _ (am _ (am _ (aT _ rfl)))
  have g4:(yL s.heap l1 l2 l3).get? (((s.heap.push (dI l1)).push (dI l2)).push (dI l3)).objs.size=some _:=am _ (am _ (aT _ rfl))
  have g5:(yL s.heap l1 l2 l3).get? ((((s.heap.push (dI l1)).push (dI l2)).push (dI l3)).push { cls:=.type "tuple",data:=.seq #[.ref s.heap.objs.size,.ref (s.heap.push (dI l1)).objs.size,.ref ((s.heap.push (dI l1)).push (dI l2)).objs.size] }).objs.size=some _:=am _ (aT _ rfl)
  have g6:(yL s.heap l1 l2 l3).get? (FT s.heap l1 l2 l3).objs.size=some _:=aT _ rfl
  have z4:((((s.heap.push (dI l1)).push (dI l2)).push (dI l3)).push { cls:=.type "tuple",data:=.seq #[.ref s.heap.objs.size,.ref (s.heap.push (dI l1)).objs.size,.ref ((s.heap.push (dI l1)).push (dI l2)).objs.size] }).objs.size=s.heap.objs.size+4:=by rw[cJ,z3]
  have z5:(FT s.heap l1 l2 l3).objs.size=s.heap.objs.size+5:=by rw[cJ,z4]
  show _/\_
  rw[z5,z3,z4]at g6
  rw[z4]at g5
  rw[z3,z1,z2]at g4
  rw[z2]at g3
  rw[z1]at g2
  rw[z5]
  exact⟨⟨_,g6,rfl⟩,h _ g6 g4 g5 ⟨_,g1,rfl,rfl⟩ ⟨_,g2,rfl,rfl⟩ ⟨_,g3,rfl,rfl⟩ λc o x=>
    am _ (am _ (am _ (am _ (am _ (am _ x)))))⟩
end L2
set_option maxHeartbeats 1000000
namespace L2
open PySem PySem.Spec PyProof.Rows
def GW (K:aa)(a b c:af):It :=
 ⟨λi H=>∃xs ys us x y u,(dC K H a xs/\dC K H b ys/\dC K H c us)/\xs[i]?=some x/\ys[i]?=some y/\us[i]?=some u,λi H x H'=>∃p u v t,H p=none/\x=.ref p/\H'=upd H p (.tup [u,v,t])/\(∀xs,dC K H a xs->xs[i]?=some u)/\(∀ys,dC K H b ys->ys[i]?=some v)/\∀us,dC K H c us->us[i]?=some t,
  λi H=>∃xs ys us,(dC K H a xs/\dC K H b ys/\dC K H c us)/\(xs.length<=i\/ys.length<=i\/us.length<=i)⟩
theorem WM {P:ba}{w:bM}{K:aa}{gU:List Expr}{kt:Nat}{pt:cx}(z TI TO i1 i2 i3 l1 l2 l3:af)(ap:Z3 z TI TO i1 i2 i3 l1 l2 l3) :
    Turn P w K (.Tuple gU kt pt) (GW K l1 l2 l3) [z,TI,TO,i1,i2,i3] z (λi h=>IsZip h z TI TO .none/\eZ h TI (.ref i1) (.ref i2) (.ref i3)/\(∃a b c,eZ h TO a b c)/\h.IsListIter i1 l1 i/\h.IsListIter i2 l2 i/\h.IsListIter i3 l3 i) where
  mem:=by simp
  obj:=λi h st b hb=>by
    obtain⟨q1,q2,⟨a,b',c',q3⟩,⟨o4,e4,_,d4⟩,⟨o5,e5,_,d5⟩,⟨o6,e6,_,d6⟩⟩:=st
    simp only[aC,bN,or_false]at hb
    rcases hb with rfl|rfl|rfl|rfl|rfl|rfl
    · exact⟨_,q1,λv y=>by cases y⟩
    · exact⟨_,q2,λv y=>by cases y⟩
    · exact⟨_,q3,λv y=>by cases y⟩
    · exact⟨_,e4,λv y=>by rw[d4]at y;cases y⟩
    · exact⟨_,e5,λv y=>by rw[d5]at y;cases y⟩
    · exact⟨_,e6,λv y=>by rw[d6]at y;cases y⟩
  keep:=λi h h' st k=>by
    obtain⟨q1,q2,⟨a,b',c',q3⟩,q4,q5,q6⟩:=st
    exact⟨k z (by simp) _ q1,k TI (by simp) _ q2,⟨a,b',c',k TO (by simp) _ q3⟩,q4.at λo x=>k i1 (by simp) o x,q5.at λo x=>k i2 (by simp) o x,q6.at λo x=>k i3 (by simp) o x⟩
  item:=by
    intro X hP hw hK hc i ah s σ H E I hf st hg
    subst hP hw hK
    obtain⟨xs,ys,us,x,y,t,⟨hq,mL,zC⟩,hx,hy,ht⟩:=hg
    obtain⟨bZ,rv,p,hz⟩:=I.list hq
    obtain⟨its',tG,p',xI⟩:=I.list mL
    obtain⟨oh,FG,p2,LX⟩:=I.list zC
    obtain⟨u,hu,ru⟩:=rv.get hx
    obtain⟨u',zE,JE⟩:=tG.get hy
    obtain⟨u2,CA,TH⟩:=FG.get ht
    obtain⟨q1,q2,⟨a,b',c',q3⟩,q4,q5,q6⟩:=st
    refine V5 ap q1 q2 q3 q4 q5 q6 p.isList p'.isList p2.isList (x:=u) (y:=u') (u:=u2) (by simpa using hu) (by simpa using zE) (by simpa using CA) λh1 r1 r2 r3 r4 Tz r5 hk=>?_
    refine⟨_,rfl,wpAny_letOwnedTupleGo_zip (s:={ s with heap:=h1 }) r1 λh2 Cd mZ=>?_⟩
    have EW:z<s.heap.objs.size:=aB q1
    have JW:TI<s.heap.objs.size:=aB q2
    have Jy:TO<s.heap.objs.size:=aB q3
    have CM:i1<s.heap.objs.size:=by obtain⟨_,q,_⟩:=q4;exact aB q
    have Jo:i2<s.heap.objs.size:=by obtain⟨_,q,_⟩:=q5;exact aB q
    have klt:i3<s.heap.objs.size:=by obtain⟨_,q,_⟩:=q6;exact aB q
    have B6:h2.get? s.heap.objs.size=some { cls:=.type "tuple",data:=.seq #[u,u',u2] }:=(mZ.2 _ (gd EW)).trans r5
    have Cg:H s.heap.objs.size=none:=I.hok.fresh (aE _)
    have I1:Inv X ah σ (upd H s.heap.objs.size (.tup [x,y,t])) { s with heap:=h2,toks:=s.toks }:=by
      refine I.turnLay (ch:=[z,TI,TO,i1,i2,i3]) hf (λb o hb q=>?_) (aE _) ⟨by show 3<=sizeLine;decide,[u,u',u2],.cons ru (.cons JE (.cons TH .nil)),_,B6,rfl,_,rfl⟩
      have b1:b≠z:=λe=>hb (by simp[e])
      have b3:b≠TO:=λe=>hb (by simp[e])
      have b4:b≠i1:=λe=>hb (by simp[e])
      have b5:b≠i2:=λe=>hb (by simp[e])
      have b6:b≠i3:=λe=>hb (by simp[e])
      exact(mZ.2 b b1).trans (hk b o b1 b3 b4 b5 b6 q)
    refine⟨.ref s.heap.objs.size,_,I1,rfl,⟨_,x,y,t,Cg,rfl,rfl,λzs qS=>by rw[I.list_inj qS hq];exact hx,λzs qS=>by rw[I.list_inj qS mL];exact hy,λzs qS=>by rw[I.list_inj qS zC];exact ht⟩,⟨Cd,(mZ.2 TI ap.TIz).trans (hk TI _ ap.TIz ap.TITO ap.TIi1 ap.TIi2 ap.TIi3 q2),⟨_,_,_,(mZ.2 TO ap.TOz).trans r2⟩,r3.at λo q=>(mZ.2 i1 ap.i1z).trans q,r4.at λo q=>(mZ.2 i2 ap.i2z).trans q,Tz.at λo q=>(mZ.2 i3 ap.i3z).trans q⟩,λb hb=>?_⟩
    rw[zx ?_]
    · exact(hf b hb).1
    · simp only[aC,bN,or_false]at hb
      rcases hb with rfl|rfl|rfl|rfl|rfl|rfl
      · exact aR EW
      · exact aR JW
      · exact aR Jy
      · exact aR CM
      · exact aR Jo
      · exact aR klt
  done:=by
    intro X hP hw hK hc i ah s σ H E I hf st hg
    subst hP hw hK
    obtain⟨xs,ys,us,⟨hq,mL,zC⟩,hx⟩:=hg
    obtain⟨bZ,rv,p,hz⟩:=I.list hq
    obtain⟨its',tG,p',xI⟩:=I.list mL
    obtain⟨oh,FG,p2,LX⟩:=I.list zC
    obtain⟨q1,q2,⟨a,b',c',q3⟩,q4,q5,q6⟩:=st
    have hl:=rv.length
    have Cj:=tG.length
    have jQ:=FG.length
    refine WK (I.ok.hd hc) ap q1 q2 q3 q4 q5 q6 p.isList p'.isList p2.isList (hx.imp (λh=>by simp;omega) (λh=>h.imp (λh=>by simp;omega) (λh=>by simp;omega))) λh' eb=>⟨rfl,I.turnedL (ch:=[z,TI,TO,i1,i2,i3]) (t':=s.toks) hf λb o hb q=>?_⟩
    exact eb b o (λe=>hb (by simp[e])) (λe=>hb (by simp[e])) (λe=>hb (by simp[e])) (λe=>hb (by simp[e])) (λe=>hb (by simp[e])) q
  self:=λ_ _ _ _ _ st h=>iF st.1 h
theorem ZS {n l1 l2 l3:af}(h1:l1<n)(h2:l2<n)(h3:l3<n):Z3 (n+5) (n+3) (n+4) n (n+1) (n+2) l1 l2 l3:=by
 constructor<;>exactλe=>by simp only[af]at *;omega
section
variable {X:Cx}{gU:List Expr}{kt:Nat}{pt:cx}
def CJ (K:aa)(ta:TA):TI:=λσ H R=>ta σ H λvs H1=>∃a b c,vs=[.ref a,.ref b,.ref c]/\(∃xs ys us,dC K H1 a xs/\dC K H1 b ys/\dC K H1 c us)/\R (GW K a b c) H1
theorem Y6 {l l' l2:Expr}{ta:TA}{p pos:cx}(hg:Gl X "zip")(hm:X.mg "zip"=none)(ha:PA X [l,l',l2] ta)(hs:aq [l,l',l2] X.env=[(false,bq l X.env),(false,bq l' X.env),(false,bq l2 X.env)]:=by rfl)(jJ:aq [l',l2] X.env=[(false,bq l' X.env),(false,bq l2 X.env)]:=by rfl) :
  PI X (.Tuple gU kt pt) (.Call (.Name "zip" p) [l,l',l2] [] pos) (CJ X.K ta):=by
 intro ah s σ H R I h
 refine Call_ (qy I hg hm kL (bJ (cP (ha pos ah s σ H _ I h) λus s1 ⟨vs,H1,I1,r1,q1⟩=>?_) (by rw[hs,jJ]) (by rw[jJ];rfl)))
 obtain⟨a,b,c,e,⟨xs,ys,us2,hq,mL,zC⟩,q⟩:=q1
 subst e
 cases r1 with
 |cons r rr=>
  cases rr with
  |cons r' rr=>
   cases rr with
   |cons r2 rr=>
    cases rr
    cases r
    cases r'
    cases r2
    obtain⟨bZ,rv,pl,hz⟩:=I1.list hq
    obtain⟨its',tG,DB,xI⟩:=I1.list mL
    obtain⟨oh,FG,Mp,LX⟩:=I1.list zC
    have Ju:a<s1.heap.objs.size:=by obtain⟨_,q,_⟩:=pl.isList;exact aB q
    have tf:b<s1.heap.objs.size:=by obtain⟨_,q,_⟩:=DB.isList;exact aB q
    have R6:c<s1.heap.objs.size:=by obtain⟨_,q,_⟩:=Mp.isList;exact aB q
    refine WL pl.isList DB.isList Mp.isList λh' r1 r2 r3 r4 r5 r6 hk=>?_
    refine iF (s:={ s1 with heap:=h' }) r1 ?_
    refine⟨_,[_,_,_,_,_,_],_,_,H1,rfl,I1.kept (t':=s1.toks) hk,WM _ _ _ _ _ _ a b c (ZS Ju tf R6),⟨r1,r2,⟨_,_,_,r3⟩,r4,r5,r6⟩,λc hb=>?_,q⟩
    have:s1.heap.objs.size<=c:=by
     simp only[aC,bN,or_false]at hb
     rcases hb with rfl|rfl|rfl|rfl|rfl|rfl<;>omega
    exact I1.fpOk this (I1.hok.fresh this)
end
end L2
namespace L3
open PySem PySem.Spec L2
open PyProof.Rows hiding St
def fD:List D->List D->List D->List D
 |x::xs,y::ys,u::us=>.tup [x,y,u]::fD xs ys us
 |_,_,_=>[]
theorem NW:∀{xs ys us:List D} {i:Nat} {d:D},(fD xs ys us)[i]?=some d->∃x y u,xs[i]?=some x/\ys[i]?=some y/\us[i]?=some u/\d=.tup [x,y,u]
 |[],_,_,_,_,h=>by simp[fD]at h
 |_::_,[],_,_,_,h=>by simp[fD]at h
 |_::_,_::_,[],_,_,h=>by simp[fD]at h
 |x::xs,y::ys,u::us,0,d,h=>by simp[fD]at h;subst h;exact⟨x,y,u,rfl,rfl,rfl,rfl⟩
 |x::xs,y::ys,u::us,i+1,d,h=>by
  obtain⟨a,b,c,h1,h2,h3,h4⟩:=NW (xs:=xs) (ys:=ys) (us:=us) (i:=i) (d:=d) (by simpa[fD]using h)
  exact⟨a,b,c,by simpa using h1,by simpa using h2,by simpa using h3,h4⟩
theorem NX:∀{xs ys us:List D},(fD xs ys us).length=min xs.length (min ys.length us.length)
 |[],_,_=>by simp[fD]
 |_::_,[],_=>by simp[fD]
 |_::_,_::_,[]=>by simp[fD]
 |x::xs,y::ys,u::us=>by simp only[fD,aM,NX (xs:=xs) (ys:=ys) (us:=us)];omega
section
variable {X:Cx}{ct:Nat->af}{ms:List Mo}{n:Nat}{a b c:Expr}{pos:cx}
theorem zsa {K:aa}{F B:Hp}{a b c:af}{vs us ws:List V}{ds es fs:List D}(hp:Pr (Al K ct F B n) ds vs)(sP:Pr (Al K ct F B n) es us)(zB:Pr (Al K ct F B n) fs ws)(keep:∀F' H',bG F F'->bG B H'->bG F' H'->dC K H' a vs)(qX:∀F' H',bG F F'->bG B H'->bG F' H'->dC K H' b us)(Dp:∀F' H',bG F F'->bG B H'->bG F' H'->dC K H' c ws):nv K ct F B (n+1) (GW K a b c) (fD ds es fs):=by
 intro i F' H' s1 s2 s3
 have hs:dC K H' a vs:=keep F' H' s1 s2 s3
 have sR:dC K H' b us:=qX F' H' s1 s2 s3
 have jJ:dC K H' c ws:=Dp F' H' s1 s2 s3
 refine⟨λd hd=>?_,λhl=>⟨vs,us,ws,⟨hs,sR,jJ⟩,by rw[←hp.length,←sP.length,←zB.length];rw[NX]at hl;omega⟩⟩
 obtain⟨x,y,u,hx,hy,hu,rfl⟩:=NW hd
 obtain⟨v,hv,l⟩:=hp.get' hx
 obtain⟨v',uB,l'⟩:=sP.get' hy
 obtain⟨v2,rZ,l2⟩:=zB.get' hu
 refine⟨⟨vs,us,ws,v,v',v2,⟨hs,sR,jJ⟩,hv,uB,rZ⟩,λz H2 q=>?_⟩
 obtain⟨r,w1,w2,w3,hr,rfl,rfl,q1,q2,q3⟩:=q
 have e1:=q1 vs hs
 have e2:=q2 us sR
 have e3:=q3 ws jJ
 rw[hv]at e1
 rw[uB]at e2
 rw[rZ]at e3
 cases e1
 cases e2
 cases e3
 exact⟨_,eR.newS s3 hr _,.inr (.tup yb (.cons (l.mono (s1.trans (uz (s3.free hr) _)) (.refl _)) (.cons (l'.mono (s1.trans (uz (s3.free hr) _)) (.refl _)) (.cons (l2.mono (s1.trans (uz (s3.free hr) _)) (.refl _)) .nil))))⟩
def rH:List D->Option (List D)
 |[.lst xs,.lst ys,.lst us]=>some (fD xs ys us)
 |_=>none
theorem Y7 {fs:Env->Option (List D)}{gU:List Expr}{kt:Nat}{pt pp:cx}(hm:X.mg "zip"=none)(ha:XA X ct ms [a,b,c] [0,0,0] fs)(hg:Gl X "zip":=by rfl)(hs:aq [a,b,c] X.env=[(false,bq a X.env),(false,bq b X.env),(false,bq c X.env)]:=by rfl)(jJ:aq [b,c] X.env=[(false,bq b X.env),(false,bq c X.env)]:=by rfl) :
  XI X ct ms 1 (.Tuple gU kt pt) (.Call (.Name "zip" pp) [a,b,c] [] pos) (λρ=>(fs ρ).bind rH):=by
 obtain⟨t,pt,_,qt⟩:=ha
 refine⟨_,Y6 hg hm pt hs jJ,λF0 B F H ρ σ ds R rs e w=>?_⟩
 obtain⟨jI,h1,h2⟩:=aO e
 refine qt F0 B F H ρ σ _ _ rs h1 λvs F' H' x l=>?_
 cases l with
 |cons h t=>
  cases t with
  |cons h' t=>
   cases t with
   |cons h3 t=>
    cases t
    rename_i d v d' v' d3 v3
    cases d with
    |lst xs=>
     cases d' with
     |lst ys=>
      cases d3 with
      |lst us=>
       cases h2
       obtain⟨a,vs,rfl,ha,hp⟩:=Dt.lst_inv h
       obtain⟨b,us,rfl,hb,sP⟩:=Dt.lst_inv h'
       obtain⟨c,ws,rfl,hc,zB⟩:=Dt.lst_inv h3
       exact⟨a,b,c,rfl,⟨vs,us,ws,x.fh.seq ha,x.fh.seq hb,x.fh.seq hc⟩,w _ F' H' x (zsa (n:=0) hp.pr sP.pr zB.pr (λF2 H2 s1 s2 s3=>s3.seq (s1.seq ha)) (λF2 H2 s1 s2 s3=>s3.seq (s1.seq hb)) (λF2 H2 s1 s2 s3=>s3.seq (s1.seq hc)))⟩
      |_=>cases h2
     |_=>cases h2
    |_=>cases h2
end
end L3
set_option maxHeartbeats 1000000
namespace L2
open PySem PySem.Spec PyProof.Rows
section
variable {X:Cx}{k:Nat}{f:af}{fd:aH}{ps:List aL}{sp:Sp}{ds:List ae}{gR:List V}{E:XK}{x:aL}{p pos:cx}{e:Expr}{es:List Expr}{t:TA}
end
end L2
namespace L3
open PySem PySem.Spec L2
open PyProof.Rows hiding St
section
variable {X:Cx}{ct:Nat->af}{ms:List Mo}{rk kk:Nat}{fa:af}{fd:aH}{ps:List aL}{mf:List D->Option D}{x:aL}{pp pos:cx}{e:Expr}
end
end L3
namespace PySem
section
variable {prog:ba}{w:bM}{A:bD}{R:Result->aj->Prop}{I:af}{fp wr:List af}{n:Nat}{P:Nat->ae->Prop}{St:Nat->aG->Prop}{kw:List (aL×ae)}
end
section
variable {prog:ba}{w:bM}{A:bD}{E:ae->aj->Prop}{s:aj}
end
end PySem
namespace L3
open PySem PySem.Spec L2
section
variable {X:Cx}{ct:Nat->af}{ms:List Mo}{e b:Expr}{f g:EF}{n m k:Nat}
end
end L3
set_option maxHeartbeats 1000000
namespace L3
open PySem PySem.Spec L2
open PyProof.Rows hiding St
section
variable {X:Cx}{ct:Nat->af}{ms:List Mo}{n:Nat}{a b c:Expr}{pos:cx}
end
end L3
set_option maxHeartbeats 1000000
namespace L3
open PySem PySem.Spec L2
open PyProof.Rows hiding St
section
variable {X:Cx}{ct:Nat->af}{ms:List Mo}{n m k:Nat}{e o:Expr}{f g:EF}{pos:cx}
end
end L3
set_option maxHeartbeats 1000000
namespace L3
open PySem PySem.Spec L2
open PyProof.Rows hiding St
theorem foldl_rep (c:Nat):∀(n:Nat) (fN:Array Nat),(aI n #[c]).foldl (· ++ ·) fN=fN++Array.replicate n c
 |0,fN=>by simp
 |n+1,fN=>by
  rw[cw,dW,foldl_rep c n,oA]
  congr 1
  apply Array.toList_inj.mp
  simp[cw]
section
variable {X:Cx}{ct:Nat->af}{K:aa}{ms:List Mo}{n m k:Nat}{e o:Expr}{f g:EF}{pos:cx}
end
end L3
set_option maxHeartbeats 1000000
namespace L3
open PySem PySem.Spec L2
open PyProof.Rows hiding St
def Jn:D->D->Option D
 |.tup ds,.int i=>L2.atI ds i
 |_,_=>none
section
variable {X:Cx}{ct:Nat->af}{ms:List Mo}{rk n m k i j:Nat}{e o:Expr}{f g:EF}{pos:cx}
theorem Al.tupB {K:aa}{F B:Hp}{ds:List D}{v:V}(h:Al K ct F B (n+1) (.tup ds) v):∃a vs,v=.ref a/\F a=some (.tup vs)/\Pr (Al K ct F B n) ds vs:=by
 rcases h with h|h
 ·cases h with
  |tup h1 h2=>exact⟨_,_,rfl,h1,h2.pr.mono λ_ _ q=>Al.of q⟩
 ·cases h with
  |tup h1 h2=>exact⟨_,_,rfl,h1,h2⟩
theorem Xl {x y:aL}{p1 p2 p3:cx}(hm:ms[i]?=some (.al n))(gZ:ms[j]?=some (.al (n+1)))(he:XE X ct ms m e g)(hN:X.N.Nodup)(gD:iH e)(hi:X.N[i]?=some x:=by rfl)(hx:Loc X.env.scope x:=by first|exact Or.inl rfl|exact Or.inr rfl)
  (Iq:X.N[j]?=some y:=by rfl) (rZ:nw X.env.scope y:=by first|exact Or.inl rfl|exact Or.inr (Or.inl rfl)|exact Or.inr (Or.inr rfl)) (hd2:(y==("__debug__":aL))=false:=by decide) (wX:(y==("__classdict__":aL))=false:=by decide)
  (hs:dn (.Subscript (.Name y p2) e p3) (some (.Name x p1)) pos.line X.env=pure false:=by rfl)
  (hf:X.fn x=true\/X.env.scope.names.lookup x=some .local:=by first|exact .inl rfl|exact .inr rfl|assumption):XS X ct ms rk (.Assign [.Name x p1] (.Subscript (.Name y p2) e p3) pos) (sSet i (e2 Jn (eV j) g)):=by
 obtain⟨tb,pb,qb⟩:=he
 refine⟨_,Pb hN hi hx (GN ve (jm Iq rZ hd2 wX) pb gD) hs hf,λF0 B F H ρ σ o E rs e w=>?_⟩
 obtain⟨d,h1,h2⟩:=aO e
 cases h2
 obtain⟨d1,d2,g1,g2,g3⟩:=cW h1
 obtain⟨fp,sl,nd,hb⟩:=rs.sl
 obtain⟨v1,hσ,Qh⟩:=sl.getA gZ (yr g1)
 refine⟨v1,hσ,qb F0 B F H ρ σ d2 _ rs g2 λv2 F2 H2 x2 l2=>?_⟩
 cases d1 with
 |tup ds=>
  cases d2 with
  |int z=>
   obtain⟨a,vs,rfl,ha,hp⟩:=Qh.tupB
   obtain⟨v,k1,k2⟩:=hp.atI g3
   have yA:=rs.ext x2
   obtain⟨Ib,yB,Dw,wQ⟩:=yA.sl
   exact .inr (.inl ⟨a,vs,z,v,rfl,l2.int,jP.of (x2.fh _ _ (x2.ff _ _ ha)),k1,w _ F2 H2 ⟨yA.f0,yA.bh,yA.fh,yA.nf,Ib,yB.setA (Al.mono x2.ff (bG.refl _) k2) hm,Dw,wQ⟩⟩)
  |_=>cases g3
 |_=>cases g3
theorem fU.prn {K:aa}{F G:Hp}:∀{ns:List Nat} {ds:List D} {vs:List V},fU K ct F G ns ds vs->ns.all (λj=>decide (j<=n))=true->Pr (Al K ct F G n) ds vs
 |_,_,_,.nil,_=>.nil
 |_,_,_,.cons h t,e=>by
  rw[cQ,bt]at e
  exact .cons (h.up (of_decide_eq_true e.1)) (fU.prn t e.2)
theorem YD {es:List Expr}{ns:List Nat}{fs:Env->Option (List D)}{x1}(h:XA X ct ms es ns fs)(oQ:ns.all (λj=>decide (j<=n))=true:=by decide)(hl:es.length<=1000:=by decide):XE X ct ms (n+1) (.Tuple es x1 pos) (λρ=>(fs ρ).bind λds=>some (.tup ds)):=by
 obtain⟨t,pt,lt,qt⟩:=h
 refine⟨_,KN pt,λF0 B F H ρ σ r Q rs e w=>?_⟩
 obtain⟨ds,h1,h2⟩:=aO e
 cases h2
 refine qt F0 B F H ρ σ ds _ rs h1 λvs F1 H1 x1 l=>⟨?_,λp hp=>?_⟩
 ·rw[←l.length',lt _ _ h1];exact small hl
 ·have x2:=eR.newS x1.fh hp (.tup vs)
  exact w _ _ _ (x1.trans x2) (.inr (.tup yb ((l.prn oQ).mono λ_ _ q=>Al.mono x2.ff x2.hh q)))
end
end L3
namespace Fq
def dv (t b:Int):Int:=if b<0 then -((Int.gcd t b:Nat):Int)else((Int.gcd t b:Nat):Int)
def mk (t b:Int):Int×Int:=(t.fdiv (dv t b),b.fdiv (dv t b))
end Fq
set_option maxHeartbeats 4000000
namespace My
open PySem L2 L3
def top (i:Nat):bP:=PySem.Challenge.pw_ringbeat_k43_whole_least_again.main.body.getD i (.Pass ⟨0,0,0,0⟩)
abbrev yc:bP:=inClass (top 26) 0
abbrev ym:bP:=inClass (top 27) 0
abbrev zu:bP:=inClass (top 28) 0
abbrev zw:bP:=inClass (top 29) 0
abbrev xj:bP:=top 36
abbrev xk:bP:=top 37
abbrev wz:bP:=top 38
abbrev xl:bP:=top 39
abbrev yn:bP:=top 40
abbrev we:bP:=top 41
abbrev zy:bP:=top 42
abbrev yw:bP:=inClass (top 45) 0
abbrev zm:bP:=inClass (top 45) 1
abbrev wf:bP:=inClass (top 45) 2
abbrev xm:bP:=inClass (top 45) 3
abbrev u9:bP:=top 7
abbrev vz:bP:=top 8
abbrev zz:bP:=top 10
abbrev yx:bP:=top 11
abbrev zj:bP:=top 12
abbrev zp:bP:=top 13
abbrev qx:bP:=top 14
abbrev v4:bP:=top 16
abbrev wg:bP:=top 17
abbrev zq:bP:=top 18
abbrev yy:bP:=top 19
abbrev yo:bP:=top 20
abbrev w6:bP:=top 21
abbrev yf:bP:=top 22
abbrev zt:bP:=top 23
abbrev zk:bP:=top 24
abbrev yp:bP:=top 47
abbrev xn:bP:=top 48
abbrev yz:bP:=top 49
abbrev xo:bP:=top 50
abbrev wj:bP:=top 51
abbrev xp:bP:=top 52
abbrev wk:bP:=top 53
abbrev w8:bP:=top 54
abbrev xq:bP:=top 55
abbrev xr:bP:=top 56
abbrev xa:bP:=top 57
abbrev xt:bP:=top 58
abbrev yO:bP:=top 59
theorem US:bn ["self","start","goal","time","behind"] ["self","start","goal","time","behind"] (aP yc):=⟨rfl,rfl,rfl,by decide +kernel,rfl,by decide +kernel,by decide +kernel⟩
theorem UW:bn ["self","start","goal","time"] ["self","start","goal","time"] (aP ym):=⟨rfl,rfl,rfl,by decide +kernel,rfl,by decide +kernel,by decide +kernel⟩
theorem UX:bn ["self","start","goal","time","behind"] ["self","start","goal","time","behind"] (aP zu):=⟨rfl,rfl,rfl,by decide +kernel,rfl,by decide +kernel,by decide +kernel⟩
theorem UY:bn ["self","start","goal","time","behind"] ["self","start","goal","time","behind"] (aP zw):=⟨rfl,rfl,rfl,by decide +kernel,rfl,by decide +kernel,by decide +kernel⟩
theorem Vs:bn ["sign"] ["sign"] (aP xj):=⟨rfl,rfl,rfl,by decide +kernel,rfl,by decide +kernel,by decide +kernel⟩
theorem Vt:bn ["sign"] ["sign"] (aP xk):=⟨rfl,rfl,rfl,by decide +kernel,rfl,by decide +kernel,by decide +kernel⟩
theorem V7:bn ["word"] ["word"] (aP wz):=⟨rfl,rfl,rfl,by decide +kernel,rfl,by decide +kernel,by decide +kernel⟩
theorem J4:bn ["names","seen","name"] ["names"] (aP xl):=⟨rfl,rfl,rfl,by decide +kernel,rfl,by decide +kernel,by decide +kernel⟩
theorem UZ:bn ["number","least","most"] ["number","least","most"] (aP yn):=⟨rfl,rfl,rfl,by decide +kernel,rfl,by decide +kernel,by decide +kernel⟩
theorem J1:bn ["arrow","many","least","most"] ["arrow","many"] (aP we):=⟨rfl,rfl,rfl,by decide +kernel,rfl,by decide +kernel,by decide +kernel⟩
theorem yq:bn ["many","arrows","within","waited","arrow","placed","done","here"] ["many","arrows"] (aP zy):=⟨rfl,rfl,rfl,by decide +kernel,rfl,by decide +kernel,by decide +kernel⟩
theorem ja:bn ["self","names","arrows","number","arrow","placed"] ["self","names","arrows"] (aP yw):=⟨rfl,rfl,rfl,by decide +kernel,rfl,by decide +kernel,by decide +kernel⟩
theorem UR:bn ["self"] ["self"] (aP zm):=⟨rfl,rfl,rfl,by decide +kernel,rfl,by decide +kernel,by decide +kernel⟩
theorem VG:bn ["self","going"] ["self","going"] (aP wf):=⟨rfl,rfl,rfl,by decide +kernel,rfl,by decide +kernel,by decide +kernel⟩
theorem Vh:bn ["self"] ["self"] (aP xm):=⟨rfl,rfl,rfl,by decide +kernel,rfl,by decide +kernel,by decide +kernel⟩
theorem Xm:bn ["when","more"] ["when","more"] (aP u9):=⟨rfl,rfl,rfl,by decide +kernel,rfl,by decide +kernel,by decide +kernel⟩
theorem WN:bn ["one","other"] ["one","other"] (aP vz):=⟨rfl,rfl,rfl,by decide +kernel,rfl,by decide +kernel,by decide +kernel⟩
theorem w9:bn ["told","greatest","going","number","amount"] ["told"] (aP zz):=⟨rfl,rfl,rfl,by decide +kernel,rfl,by decide +kernel,by decide +kernel⟩
theorem M4:bn ["net","was","depth"] ["net","was"] (aP yx):=⟨rfl,rfl,rfl,by decide +kernel,rfl,by decide +kernel,by decide +kernel⟩
theorem xz:bn ["net","rows","numbers","floor","when","number","arrow"] ["net","rows","numbers","floor"] (aP zj):=⟨rfl,rfl,rfl,by decide +kernel,rfl,by decide +kernel,by decide +kernel⟩
theorem yt:bn ["net","rounds","was","floors","rows","greatest","numbers","order","number","going","floor"] ["net","rounds","was","floors"] (aP zp):=⟨rfl,rfl,rfl,by decide +kernel,rfl,by decide +kernel,by decide +kernel⟩
theorem zsb:bn ["net","rounds","was","floors"] ["net","rounds","was","floors"] (aP qx):=⟨rfl,rfl,rfl,by decide +kernel,rfl,by decide +kernel,by decide +kernel⟩
theorem WO:bn ["rows","first","count"] ["rows","first","count"] (aP v4):=⟨rfl,rfl,rfl,by decide +kernel,rfl,by decide +kernel,by decide +kernel⟩
theorem VH:bn ["rows","first","last","count","lengths"] ["rows","first","last","count","lengths"] (aP wg):=⟨rfl,rfl,rfl,by decide +kernel,rfl,by decide +kernel,by decide +kernel⟩
theorem UN:bn ["net","lengths"] ["net","lengths"] (aP zq):=⟨rfl,rfl,rfl,by decide +kernel,rfl,by decide +kernel,by decide +kernel⟩
theorem M5:bn ["rows","carriers","going","number","arrow"] ["rows","carriers","going","number"] (aP yy):=⟨rfl,rfl,rfl,by decide +kernel,rfl,by decide +kernel,by decide +kernel⟩
theorem vw:bn ["net","rows","first","last","lengths","going","entering","carriers","number"] ["net","rows","first","last","lengths"] (aP yo):=⟨rfl,rfl,rfl,by decide +kernel,rfl,by decide +kernel,by decide +kernel⟩
theorem jz:bn ["net","rows","paper","count","first","lengths","settled"] ["net","rows","paper"] (aP w6):=⟨rfl,rfl,rfl,by decide +kernel,rfl,by decide +kernel,by decide +kernel⟩
theorem MU:bn ["net","going"] ["net"] (aP yf):=⟨rfl,rfl,rfl,by decide +kernel,rfl,by decide +kernel,by decide +kernel⟩
theorem ut:bn ["rows","known","count","lengths","first"] ["rows","known","count","lengths"] (aP zt):=⟨rfl,rfl,rfl,by decide +kernel,rfl,by decide +kernel,by decide +kernel⟩
theorem vb:bn ["net","most","was","rows","spare_rounds","count","last","lengths"] ["net","most","was"] (aP zk):=⟨rfl,rfl,rfl,by decide +kernel,rfl,by decide +kernel,by decide +kernel⟩
theorem U0:bn ["_law_script","_law_k"] ["_law_script","_law_k"] (aP yp):=⟨rfl,rfl,rfl,by decide +kernel,rfl,by decide +kernel,by decide +kernel⟩
theorem Vi:bn ["_law_found"] ["_law_found"] (aP xn):=⟨rfl,rfl,rfl,by decide +kernel,rfl,by decide +kernel,by decide +kernel⟩
theorem Va:bn ["_law_cell"] ["_law_cell"] (aP yz):=⟨rfl,rfl,rfl,by decide +kernel,rfl,by decide +kernel,by decide +kernel⟩
theorem J5:bn ["_law_cell","_law_k","_law_number"] ["_law_cell","_law_k"] (aP xo):=⟨rfl,rfl,rfl,by decide +kernel,rfl,by decide +kernel,by decide +kernel⟩
theorem qc:bn ["_law_turn","_law_many","_law_going","_law_order","_law_left","_law_k"] ["_law_turn","_law_many","_law_going"] (aP wj):=⟨rfl,rfl,rfl,by decide +kernel,rfl,by decide +kernel,by decide +kernel⟩
theorem xy:bn ["_law_cell","_law_many","_law_turn","_law_k","_law_number","_law_start","_law_goal","_law_behind","_law_time"] ["_law_cell","_law_many","_law_turn","_law_k"] (aP xp):=⟨rfl,rfl,rfl,by decide +kernel,rfl,by decide +kernel,by decide +kernel⟩
theorem jf:bn ["_law_arrow_here","_law_kind","_law_start","_law_goal","_law_time","_law_behind"] ["_law_arrow_here","_law_kind"] (aP wk):=⟨rfl,rfl,rfl,by decide +kernel,rfl,by decide +kernel,by decide +kernel⟩
theorem J8:bn ["_law_script","_law_many","_law_back","_law_cell","_law_most"] ["_law_script","_law_many","_law_back"] (aP w8):=⟨rfl,rfl,rfl,by decide +kernel,rfl,by decide +kernel,by decide +kernel⟩
theorem u7:bn ["_law_arrows","_law_rows","_law_lengths","_law_going","_law_when","_law_start","_law_goal","_law_time","_law_behind"] ["_law_arrows","_law_rows","_law_lengths","_law_going","_law_when"] (aP xq):=⟨rfl,rfl,rfl,by decide +kernel,rfl,by decide +kernel,by decide +kernel⟩
theorem wm:bn ["_law_arrows","_law_rows","_law_count","_law_start","_law_back","_law_lengths","_law_when","_law_time","_law_behind","_law_length","_law_going"] ["_law_arrows","_law_rows","_law_count","_law_start"] (aP xr):=⟨rfl,rfl,rfl,by decide +kernel,rfl,by decide +kernel,by decide +kernel⟩
theorem Vb:bn ["_law_found","_law_many"] ["_law_found","_law_many"] (aP xa):=⟨rfl,rfl,rfl,by decide +kernel,rfl,by decide +kernel,by decide +kernel⟩
theorem ub:bn ["_law_arrows","_law_rows","_law_found","_law_most","_law_count","_law_start","_law_lengths","_law_back","_law_lesser"] ["_law_arrows","_law_rows","_law_found","_law_most"] (aP xt):=⟨rfl,rfl,rfl,by decide +kernel,rfl,by decide +kernel,by decide +kernel⟩
theorem jg:bn ["_law_script","_law_many","_law_total","_law_turn","_law_arrows","_law_net","_law_back","_law_former","_law_most","_law_handed","_law_found","_law_rows","_law_count","_law_kept"] ["_law_script"] (aP yO):=⟨rfl,rfl,rfl,by decide +kernel,rfl,by decide +kernel,by decide +kernel⟩
set_option genInjectivity false
set_option genSizeOf false
structure zU where
 c_Arrow:af
 c_Ride:af
 c_Wait:af
 c_Back:af
 c_Net:af
 f_Arrow___init:af
 d_Arrow___init:aH
 f_Ride___init:af
 d_Ride___init:aH
 f_Wait___init:af
 d_Wait___init:aH
 f_Back___init:af
 d_Back___init:aH
 f_is_letter:af
 d_is_letter:aH
 f_is_figure:af
 d_is_figure:aH
 f_is_name:af
 d_is_name:aH
 f_are_names:af
 d_are_names:aH
 f_lies_within:af
 d_lies_within:aH
 f_is_right:af
 d_is_right:aH
 f_placed_goings:af
 d_placed_goings:aH
 f_Net___init:af
 d_Net___init:aH
 f_Net_most_behind:af
 d_Net_most_behind:aH
 f_Net_into:af
 d_Net_into:aH
 f_Net_order:af
 d_Net_order:aH
 f_later:af
 d_later:aH
 f_latest:af
 d_latest:aH
 f_greatest_told:af
 d_greatest_told:aH
 f_rows_ahead:af
 d_rows_ahead:aH
 f_time_in_last_row:af
 d_time_in_last_row:aH
 f_rows_with_past:af
 d_rows_with_past:aH
 f_run:af
 d_run:aH
 f_growth:af
 d_growth:aH
 f_grows_so:af
 d_grows_so:aH
 f_never_outgrown:af
 d_never_outgrown:aH
 f_is_carried:af
 d_is_carried:aH
 f_all_carried:af
 d_all_carried:aH
 f_goes_on:af
 d_goes_on:aH
 f_refuse_loose:af
 d_refuse_loose:aH
 f_earliest_round:af
 d_earliest_round:aH
 f_comes_again:af
 d_comes_again:aH
 f_law_cell_at:af
 d_law_cell_at:aH
 f_law_whole:af
 d_law_whole:aH
 f_law_is_row:af
 d_law_is_row:aH
 f_law_mixed:af
 d_law_mixed:aH
 f_law_rank:af
 d_law_rank:aH
 f_law_arrow:af
 d_law_arrow:aH
 f_law_made:af
 d_law_made:aH
 f_law_was:af
 d_law_was:aH
 f_law_tight:af
 d_law_tight:aH
 f_law_holds:af
 d_law_holds:aH
 f_law_formed:af
 d_law_formed:aH
 f_law_least:af
 d_law_least:aH
 f_law:af
 d_law:aH
set_option genSizeOf true
set_option genInjectivity true
def zU.ct (a:zU):Nat->af
 |0=>a.c_Arrow
 |1=>a.c_Ride
 |2=>a.c_Wait
 |3=>a.c_Back
 |4=>a.c_Net
 |_=>0
structure Txt (K:aa)(mg:aL->Option ae)(a:zU):Prop where
 Arrow:Dc K mg "Arrow" a.c_Arrow
 Ride:Dc K mg "Ride" a.c_Ride
 Wait:Dc K mg "Wait" a.c_Wait
 Back:Dc K mg "Back" a.c_Back
 Net:Dc K mg "Net" a.c_Net
 Arrow___init:Dm K a.c_Arrow "__init__" "Arrow.__init__" yc ["self","start","goal","time","behind"] a.f_Arrow___init a.d_Arrow___init
 Ride___init:Dm K a.c_Ride "__init__" "Ride.__init__" ym ["self","start","goal","time"] a.f_Ride___init a.d_Ride___init
 Wait___init:Dm K a.c_Wait "__init__" "Wait.__init__" zu ["self","start","goal","time","behind"] a.f_Wait___init a.d_Wait___init
 Wait___init_d1:∃kA,True/\bB [(V.int 0)] kA/\bA K a.d_Wait___init ["self","start","goal","time","behind"] kA
 Back___init:Dm K a.c_Back "__init__" "Back.__init__" zw ["self","start","goal","time","behind"] a.f_Back___init a.d_Back___init
 Back___init_d1:∃kA,True/\bB [(V.int 1)] kA/\bA K a.d_Back___init ["self","start","goal","time","behind"] kA
 is_letter:hX K mg "is_letter" xj ["sign"] a.f_is_letter a.d_is_letter
 is_figure:hX K mg "is_figure" xk ["sign"] a.f_is_figure a.d_is_figure
 is_name:hX K mg "is_name" wz ["word"] a.f_is_name a.d_is_name
 are_names:hX K mg "are_names" xl ["names"] a.f_are_names a.d_are_names
 lies_within:hX K mg "lies_within" yn ["number","least","most"] a.f_lies_within a.d_lies_within
 is_right:hX K mg "is_right" we ["arrow","many"] a.f_is_right a.d_is_right
 placed_goings:hX K mg "placed_goings" zy ["many","arrows"] a.f_placed_goings a.d_placed_goings
 Net___init:Dm K a.c_Net "__init__" "Net.__init__" yw ["self","names","arrows"] a.f_Net___init a.d_Net___init
 Net_most_behind:Dm K a.c_Net "most_behind" "Net.most_behind" zm ["self"] a.f_Net_most_behind a.d_Net_most_behind
 Net_into:Dm K a.c_Net "into" "Net.into" wf ["self","going"] a.f_Net_into a.d_Net_into
 Net_order:Dm K a.c_Net "order" "Net.order" xm ["self"] a.f_Net_order a.d_Net_order
 later:hX K mg "later" u9 ["when","more"] a.f_later a.d_later
 latest:hX K mg "latest" vz ["one","other"] a.f_latest a.d_latest
 greatest_told:hX K mg "greatest_told" zz ["told"] a.f_greatest_told a.d_greatest_told
 rows_ahead:hX K mg "rows_ahead" yx ["net","was"] a.f_rows_ahead a.d_rows_ahead
 time_in_last_row:hX K mg "time_in_last_row" zj ["net","rows","numbers","floor"] a.f_time_in_last_row a.d_time_in_last_row
 rows_with_past:hX K mg "rows_with_past" zp ["net","rounds","was","floors"] a.f_rows_with_past a.d_rows_with_past
 run:hX K mg "run" qx ["net","rounds","was","floors"] a.f_run a.d_run
 run_d1:∃kA,True/\bB [V.non] kA/\bA K a.d_run ["net","rounds","was","floors"] kA
 run_d2:∃kA,True/\bB [V.non,V.non] kA/\bA K a.d_run ["net","rounds","was","floors"] kA
 growth:hX K mg "growth" v4 ["rows","first","count"] a.f_growth a.d_growth
 grows_so:hX K mg "grows_so" wg ["rows","first","last","count","lengths"] a.f_grows_so a.d_grows_so
 never_outgrown:hX K mg "never_outgrown" zq ["net","lengths"] a.f_never_outgrown a.d_never_outgrown
 is_carried:hX K mg "is_carried" yy ["rows","carriers","going","number"] a.f_is_carried a.d_is_carried
 all_carried:hX K mg "all_carried" yo ["net","rows","first","last","lengths"] a.f_all_carried a.d_all_carried
 goes_on:hX K mg "goes_on" w6 ["net","rows","paper"] a.f_goes_on a.d_goes_on
 refuse_loose:hX K mg "refuse_loose" yf ["net"] a.f_refuse_loose a.d_refuse_loose
 earliest_round:hX K mg "earliest_round" zt ["rows","known","count","lengths"] a.f_earliest_round a.d_earliest_round
 comes_again:hX K mg "comes_again" zk ["net","most","was"] a.f_comes_again a.d_comes_again
 comes_again_d1:∃kA,True/\bB [V.non] kA/\bA K a.d_comes_again ["net","most","was"] kA
 law_cell_at:hX K mg "_law_cell_at" yp ["_law_script","_law_k"] a.f_law_cell_at a.d_law_cell_at
 law_whole:hX K mg "_law_whole" xn ["_law_found"] a.f_law_whole a.d_law_whole
 law_is_row:hX K mg "_law_is_row" yz ["_law_cell"] a.f_law_is_row a.d_law_is_row
 law_mixed:hX K mg "_law_mixed" xo ["_law_cell","_law_k"] a.f_law_mixed a.d_law_mixed
 law_rank:hX K mg "_law_rank" wj ["_law_turn","_law_many","_law_going"] a.f_law_rank a.d_law_rank
 law_arrow:hX K mg "_law_arrow" xp ["_law_cell","_law_many","_law_turn","_law_k"] a.f_law_arrow a.d_law_arrow
 law_made:hX K mg "_law_made" wk ["_law_arrow_here","_law_kind"] a.f_law_made a.d_law_made
 law_was:hX K mg "_law_was" w8 ["_law_script","_law_many","_law_back"] a.f_law_was a.d_law_was
 law_tight:hX K mg "_law_tight" xq ["_law_arrows","_law_rows","_law_lengths","_law_going","_law_when"] a.f_law_tight a.d_law_tight
 law_holds:hX K mg "_law_holds" xr ["_law_arrows","_law_rows","_law_count","_law_start"] a.f_law_holds a.d_law_holds
 law_formed:hX K mg "_law_formed" xa ["_law_found","_law_many"] a.f_law_formed a.d_law_formed
 law_least:hX K mg "_law_least" xt ["_law_arrows","_law_rows","_law_found","_law_most"] a.f_law_least a.d_law_least
 law:hX K mg "law" yO ["_law_script"] a.f_law a.d_law
 kb_comes_again_was:kc K a.d_comes_again ["net","most","was"] ["was"] (kg 2 1 false) (kg 2 1 false)
 q_Arrow:Dq K a.c_Arrow "__init__" a.f_Arrow___init
 fld_arrows:∀c∈([4]:List Nat),kX K (a.ct c)/\eP K (a.ct c) "arrows"
 fld_behind:∀c∈([0,1,2,3]:List Nat),kX K (a.ct c)/\eP K (a.ct c) "behind"
 fld_goal:∀c∈([0,1,2,3]:List Nat),kX K (a.ct c)/\eP K (a.ct c) "goal"
 fld_names:∀c∈([4]:List Nat),kX K (a.ct c)/\eP K (a.ct c) "names"
 fld_start:∀c∈([0,1,2,3]:List Nat),kX K (a.ct c)/\eP K (a.ct c) "start"
 fld_time:∀c∈([0,1,2,3]:List Nat),kX K (a.ct c)/\eP K (a.ct c) "time"
 isi_Back:∀c∈([0,1,2,3,4]:List Nat),Ic K (a.ct c)/\bK K (.ref (a.ct c)) (.ref a.c_Back)=some (tR [3] c)
 isi_Ride:∀c∈([0,1,2,3,4]:List Nat),Ic K (a.ct c)/\bK K (.ref (a.ct c)) (.ref a.c_Ride)=some (tR [1] c)
 b_all:mg "all"=none
 b_bool:mg "bool"=none
 b_enumerate:mg "enumerate"=none
 b_int:mg "int"=none
 b_isinstance:mg "isinstance"=none
 b_len:mg "len"=none
 b_list:mg "list"=none
 b_max:mg "max"=none
 b_range:mg "range"=none
 b_reversed:mg "reversed"=none
 b_str:mg "str"=none
 b_tuple:mg "tuple"=none
 b_zip:mg "zip"=none
 g_MOST_ARROWS:∃t,mg "MOST_ARROWS"=some (.int 120 t)
 g_MOST_BEHIND:∃t,mg "MOST_BEHIND"=some (.int 4 t)
 g_MOST_NAMES:∃t,mg "MOST_NAMES"=some (.int 40 t)
 g_MOST_SIGNS:∃t,mg "MOST_SIGNS"=some (.int 8 t)
 g_MOST_TIME:∃t,mg "MOST_TIME"=some (.int 1000000000 t)
section
variable {P:ba}{w:bM}{K:aa}{mg:aL->Option ae}{base:aG}{a:zU}{ct:Nat->af}
def u1:Nat->List D->Option D:=xJ ["self","start","goal","time","behind"]
  (sSeq (jR [0,1,2,3] "start" (eV 1))
  (sSeq (jR [0,1,2,3] "goal" (eV 2))
  (sSeq (jR [0,1,2,3] "time" (eV 3))
  (jR [0,1,2,3] "behind" (eV 4)))))
theorem jh (T:Txt K mg a):cn P w K mg base eu 1 a.f_Arrow___init a.d_Arrow___init ["self","start","goal","time","behind"] (p5 K a.ct [0,1,2,3] [0,0,0,0] u1):=by
 refine EC (ms:=[.ow 0,.ow 0,.ow 0,.ow 0]) (rk:=0) T.Arrow___init.fn US rfl rfl (by decide) (jp (by decide)) λx0 gY A outer s H E hr=>?_
 exact(ze (zS T.fld_start (za 1 0))
  (ze (zS T.fld_goal (za 2 0))
  (ze (zS T.fld_time (za 3 0))
  (zf (zS T.fld_behind (za 4 0))))))
def qd:Nat->List D->Option D:=xJ ["self","start","goal","time"]
  (mR [0,1,2,3] (aCons (eV 1) (aCons (eV 2) (aCons (eV 3) (aCons (eC (.int 0)) aNil)))) u1)
theorem U1 (T:Txt K mg a):cn P w K mg base eu 2 a.f_Ride___init a.d_Ride___init ["self","start","goal","time"] (p5 K a.ct [1] [0,0,0] qd):=by
 have ef:=jh (P:=P) (w:=w) (base:=base) T
 refine EC (ms:=[.ow 0,.ow 0,.ow 0]) (rk:=0) T.Ride___init.fn UW rfl rfl (by decide) (jp (by decide)) λx0 gY A outer s H E hr=>?_
 exact(zf (KD (ns:=[0,0,0,0]) ef (hr.mono (by decide)) T.Arrow.mgx T.q_Arrow.sp T.q_Arrow.rd T.q_Arrow.fc T.Arrow___init.fn.kp T.Arrow___init.bd (by decide) (zc (za 1 0) (zc (za 2 0) (zc (za 3 0) (zc cr zg))))))
def qf:Nat->List D->Option D:=xJ ["self","start","goal","time","behind"]
  (mR [0,1,2,3] (aCons (eV 1) (aCons (eV 2) (aCons (eV 3) (aCons (eV 4) aNil)))) u1)
theorem U2 (T:Txt K mg a):cn P w K mg base eu 2 a.f_Wait___init a.d_Wait___init ["self","start","goal","time","behind"] (p5 K a.ct [2] [0,0,0,0] qf):=by
 have ef:=jh (P:=P) (w:=w) (base:=base) T
 refine EC (ms:=[.ow 0,.ow 0,.ow 0,.ow 0]) (rk:=0) T.Wait___init.fn UX rfl rfl (by decide) (jp (by decide)) λx0 gY A outer s H E hr=>?_
 exact(zf (KD (ns:=[0,0,0,0]) ef (hr.mono (by decide)) T.Arrow.mgx T.q_Arrow.sp T.q_Arrow.rd T.q_Arrow.fc T.Arrow___init.fn.kp T.Arrow___init.bd (by decide) (zc (za 1 0) (zc (za 2 0) (zc (za 3 0) (zc (za 4 0) zg))))))
def qh:Nat->List D->Option D:=xJ ["self","start","goal","time","behind"]
  (mR [0,1,2,3] (aCons (eV 1) (aCons (eV 2) (aCons (eV 3) (aCons (eV 4) aNil)))) u1)
theorem U3 (T:Txt K mg a):cn P w K mg base eu 2 a.f_Back___init a.d_Back___init ["self","start","goal","time","behind"] (p5 K a.ct [3] [0,0,0,0] qh):=by
 have ef:=jh (P:=P) (w:=w) (base:=base) T
 refine EC (ms:=[.ow 0,.ow 0,.ow 0,.ow 0]) (rk:=0) T.Back___init.fn UY rfl rfl (by decide) (jp (by decide)) λx0 gY A outer s H E hr=>?_
 exact(zf (KD (ns:=[0,0,0,0]) ef (hr.mono (by decide)) T.Arrow.mgx T.q_Arrow.sp T.q_Arrow.rd T.q_Arrow.fc T.Arrow___init.fn.kp T.Arrow___init.bd (by decide) (zc (za 1 0) (zc (za 2 0) (zc (za 3 0) (zc (za 4 0) zg))))))
def J2:List D->Option D:=mOf ["sign"]
  (sRet (eB (bAnd (tb (e2 sZ (eC (.str "a")) (eV 0))) (tb (e2 sZ (eV 0) (eC (.str "z")))))))
theorem Vj (T:Txt K mg a):cn P w K mg base eu 1 a.f_is_letter a.d_is_letter ["sign"] (fK K a.ct [0] 0 J2):=by
 refine gW (ms:=[.ow 0]) T.is_letter.fn Vs λ_ _ _ _ _ _ hr=>?_
 exact(zf (zh (XE.ow (tO (jd (k:=0) yQ yN (ER (n:=0)) (za 0 0) (bg _)) (sg (k:=0) (jd (k:=0) yQ yN (za 0 0) (ER (n:=0)) (bg _)))))))
def Nc:List D->Option D:=mOf ["sign"]
  (sRet (eB (bAnd (tb (e2 sZ (eC (.str "0")) (eV 0))) (tb (e2 sZ (eV 0) (eC (.str "9")))))))
theorem Vk (T:Txt K mg a):cn P w K mg base eu 1 a.f_is_figure a.d_is_figure ["sign"] (fK K a.ct [0] 0 Nc):=by
 refine gW (ms:=[.ow 0]) T.is_figure.fn Vt λ_ _ _ _ _ _ hr=>?_
 exact(zf (zh (XE.ow (tO (jd (k:=0) yQ yN (ER (n:=0)) (za 0 0) (bg _)) (sg (k:=0) (jd (k:=0) yQ yN (za 0 0) (ER (n:=0)) (bg _)))))))
def VI:EF:=(cX (λρ=>((eV 0) ρ).bind La) 1 [] (gV 0) dR (eB (bOr (tb (λρ=>((aCons (eV 0) aNil) ρ).bind λds=>J2 (ds++[]))) (tb (λρ=>((aCons (eV 0) aNil) ρ).bind λds=>Nc (ds++[]))))))
def NG:List D->Option D:=mOf ["word"]
  (sSeq (sIf (bOr (bNot (tb (e1 (kh "str") (eV 0)))) (bOr (tb (e2 pW (eN dH (aCons (eV 0) aNil)) (eC (.int 1)))) (tb (e2 oN (eN dH (aCons (eV 0) aNil)) (eC (.int 8)))))) (sRet (eC (.bl false))) sSkip)
  (sRet (eB (bAnd (tb (λρ=>((aCons (e2 di (eV 0) (eC (.int 0))) aNil) ρ).bind λds=>J2 (ds++[]))) (tb (eN nY (aCons VI aNil)))))))
theorem V8 (T:Txt K mg a):cn P w K mg base eu 2 a.f_is_name a.d_is_name ["word"] (fK K a.ct [0] 0 NG):=by
 have kz:=Vj (P:=P) (w:=w) (base:=base) T
 have nq:=Vk (P:=P) (w:=w) (base:=base) T
 refine gW (ms:=[.ow 0]) T.is_name.fn V7 λ_ _ _ _ _ _ hr=>?_
 exact(ze (wc (XW.t (qw (ua (wq (uQ (k:=0) (by decide) T.b_isinstance T.b_str Pj (za 0 0)))) (qw (ya (k:=0) uS uO (kR T.b_len (zc (za 0 0) zg)) cr (bg _)) (qq (ya (k:=0) tQ tP (kR T.b_len (zc (za 0 0) zg)) (EK (n:=0) (d:=(.int 8)) rfl T.g_MOST_SIGNS.choose_spec rfl ⟨_,rfl⟩) (bg _)))))) (zf (zh (XE.ow (uq (n:=0))))) zl)
  (zf (zh (XE.ow (tO (XO.sh (n:=0) (cC T.is_letter kz hr (zc (iT (za 0 0) cr) zg))) (sg (k:=0) (u0 (k:=0) (Gb rfl) Gr rfl T.b_all GD (zc (XO.sh (n:=0) (j9 (N:=["sign"]) (om:=[.ow 0]) (cap:=[]) (own:=1) (XI.cc (ZK (n:=0) (za 0 0))) (λ_ _ _ _ _=>(jK (show bu (["sign"]:List aL)from by decide +kernel))) (λ_ _ _ _ _=>wo) (λ_ _ _ _ _=>(XE.ow (Pq (XO.sh (n:=0) (cC T.is_letter kz hr (zc (za 0 0) zg))) (sg (k:=0) (XO.sh (n:=0) (cC T.is_figure nq hr (zc (za 0 0) zg))))))))) zg))))))))
def Vc:SF:=(sSeq (sIf (bOr (bNot (tb (λρ=>((aCons (eV 2) aNil) ρ).bind λds=>NG (ds++[])))) (tb (λρ=>((eV 2) ρ).bind λx=>((eV 1) ρ).bind λy=>(lg y x).bind λr=>some (.bl r.isSome)))) (sRet (eC (.bl false))) sSkip)
  (oS 1 (eV 2) (eC (.bl true))))
def qj:List D->Option D:=mOf ["names","seen","name"]
  (sSeq (sIf (bOr (bNot (tb (e1 (kh "list") (eV 0)))) (bOr (tb (e2 pW (eN dH (aCons (eV 0) aNil)) (eC (.int 1)))) (tb (e2 oN (eN dH (aCons (eV 0) aNil)) (eC (.int 40)))))) (sRet (eC (.bl false))) sSkip)
  (sSeq (sSet 1 (eC (.dK [] [])))
  (sSeq (sFor (lsD (eV 0)) (gV 2) Vc)
  (sRet (eC (.bl true))))))
theorem Vl (T:Txt K mg a):cn P w K mg base eu 3 a.f_are_names a.d_are_names ["names"] (fK K a.ct [0] 0 qj):=by
 have pj:=V8 (P:=P) (w:=w) (base:=base) T
 refine gW (ms:=[.ow 0,.ow 1,.ow 0]) T.are_names.fn J4 λ_ _ _ _ _ _ hr=>?_
 exact(ze (wc (XW.t (qw (ua (wq (uQ (k:=0) (by decide) T.b_isinstance T.b_list q0 (za 0 0)))) (qw (ya (k:=0) uS uO (kR T.b_len (zc (za 0 0) zg)) cr (bg _)) (qq (ya (k:=0) tQ tP (kR T.b_len (zc (za 0 0) zg)) (EK (n:=0) (d:=(.int 40)) rfl T.g_MOST_NAMES.choose_spec rfl ⟨_,rfl⟩) (bg _)))))) (zf (zh (XE.ow (uq (n:=0))))) zl)
  (ze (fC J4.nd WV)
  (ze (vv (uN (za 0 0)) (iS J4.nd) (ze (wc (XW.t (qw (ua (wq (XO.sh (n:=0) (cC T.is_name pj hr (zc (za 2 0) zg))))) (qq (ZL (EU hr) (za 2 0) (za 1 1) (by with_unfolding_all rfl))))) (zf (zh (XE.ow (uq (n:=0))))) zl)
  (zf (OQ 1 rfl (EU hr) (za 2 0) (uq (n:=0))))) bW.never rfl)
  (zf (zh (XE.ow (uq (n:=0))))))))
def yg:List D->Option D:=mOf ["number","least","most"]
  (sSeq (sIf (bOr (bNot (tb (e1 (kh "int") (eV 0)))) (tb (e1 (kh "bool") (eV 0)))) (sRet (eC (.bl false))) sSkip)
  (sRet (eB (bAnd (tb (e2 sZ (eV 1) (eV 0))) (tb (e2 sZ (eV 0) (eV 2)))))))
theorem U4 (T:Txt K mg a):cn P w K mg base eu 1 a.f_lies_within a.d_lies_within ["number","least","most"] (fK K a.ct [0,0,0] 0 yg):=by
 refine gW (ms:=[.ow 0,.ow 0,.ow 0]) T.lies_within.fn UZ λ_ _ _ _ _ _ hr=>?_
 exact(ze (wc (XW.t (qw (ua (wq (uQ (k:=0) (by decide) T.b_isinstance T.b_int Ph (za 0 0)))) (qq (wq (uQ (k:=0) (by decide) T.b_isinstance T.b_bool OJ (za 0 0)))))) (zf (zh (XE.ow (uq (n:=0))))) zl)
  (zf (zh (XE.ow (tO (jd (k:=0) yQ yN (za 1 0) (za 0 0) (bg _)) (sg (k:=0) (jd (k:=0) yQ yN (za 0 0) (za 2 0) (bg _))))))))
def FX:List D->Option D:=mOf ["arrow","many","least","most"]
  (sSeq (sSet 2 (eIf (tb (e1 (qV [0,1,2,3,4] [3]) (eV 0))) (eC (.int 1)) (eC (.int 0))))
  (sSeq (sSet 3 (eIf (tb (e1 (qV [0,1,2,3,4] [1]) (eV 0))) (eC (.int 0)) (eC (.int 4))))
  (sSeq (sIf (bOr (bNot (tb (λρ=>((aCons (e1 (cZ [0,1,2,3] "start") (eV 0)) (aCons (eC (.int 0)) (aCons (e2 gb (eV 1) (eC (.int 1))) aNil))) ρ).bind λds=>yg (ds++[])))) (bNot (tb (λρ=>((aCons (e1 (cZ [0,1,2,3] "goal") (eV 0)) (aCons (eC (.int 0)) (aCons (e2 gb (eV 1) (eC (.int 1))) aNil))) ρ).bind λds=>yg (ds++[]))))) (sRet (eC (.bl false))) sSkip)
  (sRet (eB (bAnd (tb (λρ=>((aCons (e1 (cZ [0,1,2,3] "time") (eV 0)) (aCons (eC (.int 0)) (aCons (eC (.int 1000000000)) aNil))) ρ).bind λds=>yg (ds++[]))) (tb (λρ=>((aCons (e1 (cZ [0,1,2,3] "behind") (eV 0)) (aCons (eV 2) (aCons (eV 3) aNil))) ρ).bind λds=>yg (ds++[])))))))))
theorem VJ (T:Txt K mg a):cn P w K mg base eu 2 a.f_is_right a.d_is_right ["arrow","many"] (fK K a.ct [0,0] 0 FX):=by
 have fk:=U4 (P:=P) (w:=w) (base:=base) T
 refine gW (ms:=[.ow 0,.ow 0,.ow 0,.ow 0]) T.is_right.fn J1 λ_ _ _ _ _ _ hr=>?_
 exact(ze (fC J1.nd (XE.ow (KU (wq (OS (k:=0) T.isi_Back T.b_isinstance T.Back.mgx (za 0 0))) cr cr)))
  (ze (fC J1.nd (XE.ow (KU (wq (OS (k:=0) T.isi_Ride T.b_isinstance T.Ride.mgx (za 0 0))) cr (EK (n:=0) (d:=(.int 4)) rfl T.g_MOST_BEHIND.choose_spec rfl ⟨_,rfl⟩))))
  (ze (wc (XW.t (qw (ua (wq (XO.sh (n:=0) (cC T.lies_within fk hr (zc (xi (n:=0) (za 0 0) T.fld_start rfl) (zc cr (zc (yj (k:=0) u4 vi (za 1 0) cr) zg))))))) (qq (ua (wq (XO.sh (n:=0) (cC T.lies_within fk hr (zc (xi (n:=0) (za 0 0) T.fld_goal rfl) (zc cr (zc (yj (k:=0) u4 vi (za 1 0) cr) zg)))))))))) (zf (zh (XE.ow (uq (n:=0))))) zl)
  (zf (zh (XE.ow (tO (XO.sh (n:=0) (cC T.lies_within fk hr (zc (xi (n:=0) (za 0 0) T.fld_time rfl) (zc cr (zc (EK (n:=0) (d:=(.int 1000000000)) rfl T.g_MOST_TIME.choose_spec rfl ⟨_,rfl⟩) zg))))) (sg (k:=0) (XO.sh (n:=0) (cC T.lies_within fk hr (zc (xi (n:=0) (za 0 0) T.fld_behind rfl) (zc (za 2 0) (zc (za 3 0) zg)))))))))))))
def wt:SF:=(sIf (tb (e2 (fV false) (e1 (cZ [0,1,2,3] "start") (eV 4)) (eV 7))) (sSeq (nB 3 (e1 (cZ [0,1,2,3] "goal") (eV 4)) (λi j=>i-j) (eC (.int 1)))
  (sIf (tb (e2 (fV false) (e2 di (eV 3) (e1 (cZ [0,1,2,3] "goal") (eV 4))) (eC (.int 0)))) (sApp 5 (e1 (cZ [0,1,2,3] "goal") (eV 4))) sSkip)) sSkip)
def uu:SF:=(sSeq (sSet 7 (e2 di (eV 5) (eV 6)))
  (sSeq (sFor (lsD (eV 2)) (gV 4) wt)
  (rq 6 (i2 λi j=>.int (i+j)) (eC (.int 1)))))
def j4:EF:=(cX (λρ=>((aCons (eV 0) aNil) ρ).bind gA) 1 [3] (gV 0) (tb (e2 (fV false) (e2 di (eV 1) (eV 0)) (eC (.int 0)))) (eV 0))
def uv:SF:=(nB 3 (e1 (cZ [0,1,2,3] "goal") (eV 4)) (λi j=>i+j) (eC (.int 1)))
def j5:EF:=(cX (lsD (eV 1)) 1 [] (gV 0) (tb (e2 (fV false) (e1 (cZ [0,1,2,3] "behind") (eV 0)) (eC (.int 0)))) (eV 0))
def wu:List D->Option D:=mOf ["many","arrows","within","waited","arrow","placed","done","here"]
  (sSeq (sSet 2 j5)
  (sSeq (sSet 3 (e2 lx (λρ=>((aCons (eC (.int 0)) aNil) ρ).bind λds=>some (.lst ds)) (eV 0)))
  (sSeq (sFor (lsD (eV 2)) (gV 4) uv)
  (sSeq (sSet 5 j4)
  (sSeq (sSet 6 (eC (.int 0)))
  (sSeq (lA (tb (e2 pW (eV 6) (eN dH (aCons (eV 5) aNil)))) uu)
  (sRet (eV 5))))))))
theorem qr (T:Txt K mg a):cn P w K mg base eu 1 a.f_placed_goings a.d_placed_goings ["many","arrows"] (fK K a.ct [0,0] 0 wu):=by
 refine gW (ms:=[.ow 0,.ow 0,.ow 0,.ow 1,.ow 0,.ow 1,.ow 0,.ow 0]) T.placed_goings.fn yq λ_ _ _ _ _ _ hr=>?_
 exact(ze (ur (k:=0) (N:=["arrow"]) (om:=[.ow 0]) (cap:=[]) (own:=1) rfl yq.nd rfl (Or.inl rfl) (uP (by rfl)) rfl rfl (by decide) (vx (n:=0) (za 1 0)) (λ_ _ _ _ _=>(jK (show bu (["arrow"]:List aL)from by decide +kernel))) (λ_ _ _ _ _=>(EN (ya (k:=0) (vp hr.u64) wl (xi (n:=0) (za 0 0) T.fld_behind rfl) cr (bg _)))) (λ_ _ _ _ _=>(XE.ow (za 0 0))))
  (ze (fC yq.nd (KL (jy (k:=0) (yk (XE.ow cr) vd)) (za 0 0)))
  (ze (vv (uN (za 2 0)) (iS yq.nd) (zf (OR 3 Pc rfl (xi (n:=0) (za 4 0) T.fld_goal rfl) cr)) bW.never rfl)
  (ze (ur (k:=1) (N:=["going","waited"]) (om:=[.ow 0]) (cap:=[3]) (own:=1) rfl yq.nd rfl (Or.inl rfl) (uP (by rfl)) rfl rfl (by decide) (XI.cc (wy (n:=0) T.b_range (zc (za 0 0) zg))) (λ_ _ _ _ _=>(jK (show bu (["going","waited"]:List aL)from by decide +kernel))) (λ_ _ _ _ _=>(EN (ya (k:=0) (vp hr.u64) wl (jl (n:=1) ve vq (za 1 1) (za 0 0) (λ_ _=>rfl)) cr (bg _)))) (λ_ _ _ _ _=>(XE.ow (za 0 0))))
  (ze (fC yq.nd (XE.ow cr))
  (ze (Oh (ya (k:=0) uS uO (za 6 0) (kR T.b_len (zc (za 5 1) zg)) (bg _)) (ze (fC yq.nd (XE.ow (jl (n:=1) ve vq (za 5 1) (za 6 0) (λ_ _=>rfl))))
  (ze (vv (uN (za 2 0)) (iS yq.nd) (zf (wc (ya (k:=0) (vp hr.u64) wl (xi (n:=0) (za 4 0) T.fld_start rfl) (za 7 0) (bg _)) (ze (OR 3 Pd rfl (xi (n:=0) (za 4 0) T.fld_goal rfl) cr)
  (zf (wc (ya (k:=0) (vp hr.u64) wl (jl (n:=1) ve vq (za 3 1) (xi (n:=0) (za 4 0) T.fld_goal rfl) (λ_ _=>rfl)) cr (bg _)) (zf (NP 5 rfl (XE.ow (xi (n:=0) (za 4 0) T.fld_goal rfl)))) zl))) zl)) bW.never rfl)
  (zf (O2 Pc rfl yq.nd rfl (Or.inl rfl) cr)))) bW.never)
  (zf (KF (i:=5) rfl))))))))
def jx:SF:=(sIf (bNot (tb (λρ=>((aCons (eV 4) (aCons (eN dH (aCons (eV 1) aNil)) aNil)) ρ).bind λds=>FX (ds++[])))) lz sSkip)
def jr:Nat->List D->Option D:=xJ ["self","names","arrows","number","arrow","placed"]
  (sSeq (sIf (bOr (bNot (tb (λρ=>((aCons (eV 1) aNil) ρ).bind λds=>qj (ds++[])))) (tb (e2 oN (eN dH (aCons (eV 2) aNil)) (eC (.int 120))))) lz sSkip)
  (sSeq (sFor (λρ=>((aCons (eV 2) aNil) ρ).bind λds=>match ds with|[.lst xs]=>some (eX 0 xs)|_=>none) (gT (gsCons (gV 3) (gsCons (gV 4) gsNil))) jx)
  (sSeq (sSet 5 (λρ=>((aCons (eN dH (aCons (eV 1) aNil)) (aCons (eV 2) aNil)) ρ).bind λds=>wu (ds++[])))
  (sSeq (sIf (tb (e2 pW (eN dH (aCons (eV 5) aNil)) (eN dH (aCons (eV 1) aNil)))) lz sSkip)
  (sSeq (jR [4] "names" (eN iZ (aCons (eV 1) aNil)))
  (jR [4] "arrows" (eN iZ (aCons (eV 2) aNil))))))))
theorem Vd (T:Txt K mg a):cn P w K mg base eu 4 a.f_Net___init a.d_Net___init ["self","names","arrows"] (p5 K a.ct [4] [0,0] jr):=by
 have nn:=Vl (P:=P) (w:=w) (base:=base) T
 have nU:=VJ (P:=P) (w:=w) (base:=base) T
 have fJ:=qr (P:=P) (w:=w) (base:=base) T
 refine EC (ms:=[.ow 0,.ow 0,.ow 0,.ow 0,.ow 0]) (rk:=0) T.Net___init.fn ja rfl rfl (by decide) (jp (by decide)) λx0 gY A outer s H E hr=>?_
 exact(ze (wc (XW.t (qw (ua (wq (XO.sh (n:=0) (cC T.are_names nn hr (zc (za 1 0) zg))))) (qq (ya (k:=0) tQ tP (kR T.b_len (zc (za 2 0) zg)) (EK (n:=0) (d:=(.int 120)) rfl T.g_MOST_ARROWS.choose_spec rfl ⟨_,rfl⟩) (bg _))))) (zf Ge) zl)
  (ze (vv (Yd T.b_enumerate (zc (za 2 0) zg)) (zR (n:=1) rfl (xv (iS ja.nd) (xv (iS ja.nd) zN))) (zf (wc (ua (wq (XO.sh (n:=0) (cC T.is_right nU hr (zc (za 4 0) (zc (kR T.b_len (zc (za 1 0) zg)) zg)))))) (zf Ge) zl)) bW.never rfl)
  (ze (fC ja.nd (cC T.placed_goings fJ hr (zc (kR T.b_len (zc (za 1 0) zg)) (zc (za 2 0) zg))))
  (ze (wc (ya (k:=0) uS uO (kR T.b_len (zc (za 5 0) zg)) (kR T.b_len (zc (za 1 0) zg)) (bg _)) (zf Ge) zl)
  (ze (zS T.fld_names (XO.sh (n:=0) (EB u5 (EG (n:=0) (by decide)) rfl T.b_list q0 (zc (za 1 0) zg))))
  (zf (zS T.fld_arrows (XO.sh (n:=0) (EB u5 (EG (n:=0) (by decide)) rfl T.b_list q0 (zc (za 2 0) zg))))))))))
def ji:EF:=(cX (lsD (e1 (cZ [4] "arrows") (eV 0))) 1 [] (gV 0) dR (e1 (cZ [0,1,2,3] "behind") (eV 0)))
def yu:List D->Option D:=mOf ["self"]
  (sRet (eN mM (aCons (e2 cz (λρ=>((aCons (eC (.int 1)) aNil) ρ).bind λds=>some (.lst ds)) ji) aNil)))
theorem vf (T:Txt K mg a):cn P w K mg base eu 1 a.f_Net_most_behind a.d_Net_most_behind ["self"] (fK K a.ct [0] 0 yu):=by
 refine gW (ms:=[.ow 0]) T.Net_most_behind.fn UR λ_ _ _ _ _ _ hr=>?_
 exact(zf (zh (XE.ow (u0 (k:=0) (Ga rfl) Gq rfl T.b_max EQ (zc (XO.sh (n:=0) (gE (XO.sh (n:=0) (jy (k:=0) (yk (XE.ow cr) vd))) (XO.sh (n:=0) (j9 (N:=["arrow"]) (om:=[.ow 0]) (cap:=[]) (own:=1) (vx (n:=0) (xi (n:=0) (za 0 0) T.fld_arrows rfl)) (λ_ _ _ _ _=>(jK (show bu (["arrow"]:List aL)from by decide +kernel))) (λ_ _ _ _ _=>wo) (λ_ _ _ _ _=>(XE.ow (xi (n:=0) (za 0 0) T.fld_behind rfl))))))) zg)))))
def J6:EF:=(cX (λρ=>((aCons (e1 (cZ [4] "arrows") (eV 0)) aNil) ρ).bind λds=>match ds with|[.lst xs]=>some (eX 0 xs)|_=>none) 2 [1] (gT (gsCons (gV 0) (gsCons (gV 1) gsNil))) (tb (e2 (fV false) (e1 (cZ [0,1,2,3] "goal") (eV 1)) (eV 2))) (eV 0))
def vk:List D->Option D:=mOf ["self","going"]
  (sRet J6)
theorem J3 (T:Txt K mg a):cn P w K mg base eu 1 a.f_Net_into a.d_Net_into ["self","going"] (fK K a.ct [0,0] 0 vk):=by
 refine gW (ms:=[.ow 0,.ow 0]) T.Net_into.fn VG λ_ _ _ _ _ _ hr=>?_
 exact(zf (zh (lZ (j9 (N:=["number","arrow","going"]) (om:=[.ow 0,.ow 0]) (cap:=[1]) (own:=2) (Xq (n:=0) T.b_enumerate (zc (xi (n:=0) (za 0 0) T.fld_arrows rfl) zg)) (λ_ _ _ _ _=>(Gp (n:=1) rfl (u6 (jK (show bu (["number","arrow","going"]:List aL)from by decide +kernel)) (u6 (jK (show bu (["number","arrow","going"]:List aL)from by decide +kernel)) Gf)))) (λ_ _ _ _ _=>(EN (ya (k:=0) (vp hr.u64) wl (xi (n:=0) (za 1 0) T.fld_goal rfl) (za 2 0) (bg _)))) (λ_ _ _ _ _=>(XE.ow (za 0 0)))))))
def qk:List D->Option D:=mOf ["self"]
  (sRet (λρ=>((aCons (eN dH (aCons (e1 (cZ [4] "names") (eV 0)) aNil)) (aCons (e1 (cZ [4] "arrows") (eV 0)) aNil)) ρ).bind λds=>wu (ds++[])))
theorem Vm (T:Txt K mg a):cn P w K mg base eu 2 a.f_Net_order a.d_Net_order ["self"] (fK K a.ct [0] 0 qk):=by
 have fJ:=qr (P:=P) (w:=w) (base:=base) T
 refine gW (ms:=[.ow 0]) T.Net_order.fn Vh λ_ _ _ _ _ _ hr=>?_
 exact(zf (zh (cC T.placed_goings fJ hr (zc (kR T.b_len (zc (xi (n:=0) (za 0 0) T.fld_names rfl) zg)) (zc (xi (n:=0) (za 0 0) T.fld_arrows rfl) zg)))))
def Gu:List D->Option D:=mOf ["when","more"]
  (sSeq (sIf (tb (e2 (nL false) (eV 0) (eC .non))) (sRet (eC .non)) sSkip)
  (sRet (e2 cz (eV 0) (eV 1))))
theorem Xn (T:Txt K mg a):cn P w K mg base eu 1 a.f_later a.d_later ["when","more"] (fK K a.ct [0,0] 0 Gu):=by
 refine gW (ms:=[.ow 0,.ow 0]) T.later.fn Xm λ_ _ _ _ _ _ hr=>?_
 exact(ze (wc (ya (k:=0) yS yR (za 0 0) pG (bg _)) (zf (zh (XE.ow pG))) zl)
  (zf (zh (lZ (gE (za 0 0) (za 1 0))))))
def EI:List D->Option D:=mOf ["one","other"]
  (sSeq (sIf (tb (e2 (nL false) (eV 0) (eC .non))) (sRet (eV 1)) sSkip)
  (sSeq (sIf (tb (e2 (nL false) (eV 1) (eC .non))) (sRet (eV 0)) sSkip)
  (sRet (eN qZ (aCons (eV 0) (aCons (eV 1) aNil))))))
theorem NH (T:Txt K mg a):cn P w K mg base eu 1 a.f_latest a.d_latest ["one","other"] (fK K a.ct [0,0] 0 EI):=by
 refine gW (ms:=[.ow 0,.ow 0]) T.latest.fn WN λ_ _ _ _ _ _ hr=>?_
 exact(ze (wc (ya (k:=0) yS yR (za 0 0) pG (bg _)) (zf (zh (XE.ow (za 1 0)))) zl)
  (ze (wc (ya (k:=0) yS yR (za 1 0) pG (bg _)) (zf (zh (XE.ow (za 0 0)))) zl)
  (zf (zh (XE.ow (u0 (k:=0) (Wj rfl) Xr rfl T.b_max EQ (zc (za 0 0) (zc (za 1 0) zg))))))))
def uw:SF:=(oS 1 (λρ=>((aCons (eV 2) (aCons (eV 3) aNil)) ρ).bind λds=>some (.tup ds)) (λρ=>((aCons (λρ=>((eV 1) ρ).bind λx=>((λρ=>((aCons (eV 2) (aCons (eV 3) aNil)) ρ).bind λds=>some (.tup ds)) ρ).bind λy=>(lg x y).bind λr=>some (r.getD .non)) (aCons (eV 4) aNil)) ρ).bind λds=>EI (ds++[])))
def xg:List D->Option D:=mOf ["told","greatest","going","number","amount"]
  (sSeq (sSet 1 (eC (.dT [] [])))
  (sSeq (sFor (lsD (eV 0)) (gT (gsCons (gV 2) (gsCons (gV 3) (gsCons (gV 4) gsNil)))) uw)
  (sRet (eV 1))))
theorem UU (T:Txt K mg a):cn P w K mg base eu 2 a.f_greatest_told a.d_greatest_told ["told"] (fK K a.ct [0] 0 xg):=by
 have kZ:=NH (P:=P) (w:=w) (base:=base) T
 refine gW (ms:=[.ow 0,.ow 1,.ow 0,.ow 0,.ow 0]) T.greatest_told.fn w9 λ_ _ _ _ _ _ hr=>?_
 exact(ze (fC w9.nd WW)
  (ze (vv (uN (za 0 0)) (zR (n:=0) rfl (xv (iS w9.nd) (xv (iS w9.nd) (xv (iS w9.nd) zN)))) (zf (OQ 1 rfl (EU hr) (XO.sh (n:=0) (ES (yk (XE.ow (za 2 0)) (yk (XE.ow (za 3 0)) vd)))) (XO.sh (n:=0) (cC T.latest kZ hr (zc (OE (n:=1) (EU hr) (za 1 1) (XO.sh (n:=0) (ES (yk (XE.ow (za 2 0)) (yk (XE.ow (za 3 0)) vd)))) ⟨rfl,rfl,rfl,rfl⟩) (zc (za 4 0) zg)))))) bW.never rfl)
  (zf (KF (i:=1) rfl))))
def MX:EF:=(cX (λρ=>((lsD (λρ=>((eV 1) ρ).bind λd=>(pNo ρ).bind λl=>((pInt (eV 2)) ρ).bind λh=>jE d l h)) ρ).bind λds=>some ds.reverse) 1 [] (gV 0) dR (eN iZ (aCons (eV 0) aNil)))
def MY:EF:=(cX (λρ=>((aCons (eV 2) aNil) ρ).bind gA) 1 [0] (gV 0) dR (e2 lx (λρ=>((aCons (eC (.int 0)) aNil) ρ).bind λds=>some (.lst ds)) (eN dH (aCons (e1 (cZ [4] "names") (eV 1)) aNil))))
def ww:List D->Option D:=mOf ["net","was","depth"]
  (sSeq (sSet 2 (λρ=>((eV 0) ρ).bind λo=>ig 4 "most_behind" yu o []))
  (sSeq (sIf (tb (e2 (nL false) (eV 1) (eC .non))) (sRet MY) sSkip)
  (sRet MX)))
theorem Ve (T:Txt K mg a):cn P w K mg base eu 2 a.f_rows_ahead a.d_rows_ahead ["net","was"] (fK K a.ct [0,0] 2 ww):=by
 have cG:=vf (P:=P) (w:=w) (base:=base) T
 refine gW (ms:=[.ow 0,.ow 0,.ow 0]) T.rows_ahead.fn M4 λ_ _ _ _ _ _ hr=>?_
 exact(ze (fC M4.nd (EE (n:=0) (c0:=4) (nd:=[]) (jU:=[]) (za 0 0) T.Net.cl T.Net_most_behind.me cG (hr.mono (by decide)) T.Net_most_behind.bd .nil (λ_ _=>.nil)))
  (ze (wc (ya (k:=0) yS yR (za 1 0) pG (bg _)) (zf (zh (j9 (N:=["number","net"]) (om:=[.ow 0]) (cap:=[0]) (own:=1) (XI.cc (wy (n:=0) T.b_range (zc (za 2 0) zg))) (λ_ _ _ _ _=>(jK (show bu (["number","net"]:List aL)from by decide +kernel))) (λ_ _ _ _ _=>wo) (λ_ _ _ _ _=>(KL (jy (k:=0) (yk (XE.ow cr) vd)) (kR T.b_len (zc (xi (n:=0) (za 1 0) T.fld_names rfl) zg))))))) zl)
  (zf (zh (j9 (N:=["row"]) (om:=[.ow 0]) (cap:=[]) (own:=1) (Y2 (n:=0) T.b_reversed (XO.sh (n:=0) (Ol (n:=0) (by decide) (za 1 0) Pt (OF (za 2 0))))) (λ_ _ _ _ _=>(jK (show bu (["row"]:List aL)from by decide +kernel))) (λ_ _ _ _ _=>wo) (λ_ _ _ _ _=>(EB u5 (EG (n:=0) (by decide)) rfl T.b_list q0 (zc (za 0 0) zg))))))))
def vt:SF:=(sSeq (sSet 6 (e2 di (e1 (cZ [4] "arrows") (eV 0)) (eV 5)))
  (sSet 4 (λρ=>((aCons (eV 4) (aCons (λρ=>((aCons (e2 di (e2 di (eV 1) (e2 gb (e1 tu (eC (.int 1))) (e1 (cZ [0,1,2,3] "behind") (eV 6)))) (e1 (cZ [0,1,2,3] "start") (eV 6))) (aCons (e1 (cZ [0,1,2,3] "time") (eV 6)) aNil)) ρ).bind λds=>Gu (ds++[])) aNil)) ρ).bind λds=>EI (ds++[]))))
def vg:List D->Option D:=mOf ["net","rows","numbers","floor","when","number","arrow"]
  (sSeq (sSet 4 (eV 3))
  (sSeq (sFor (lsD (eV 2)) (gV 5) vt)
  (sRet (eV 4))))
theorem UM (T:Txt K mg a):cn P w K mg base eu 2 a.f_time_in_last_row a.d_time_in_last_row ["net","rows","numbers","floor"] (fK K a.ct [0,2,0,0] 0 vg):=by
 have kZ:=NH (P:=P) (w:=w) (base:=base) T
 have sm:=Xn (P:=P) (w:=w) (base:=base) T
 refine gW (ms:=[.ow 0,.al 2,.ow 0,.ow 0,.ow 0,.ow 0,.ow 0]) T.time_in_last_row.fn xz λ_ _ _ _ _ _ hr=>?_
 exact(ze (fC xz.nd (XE.ow (za 3 0)))
  (ze (vv (uN (za 2 0)) (iS xz.nd) (ze (fC xz.nd (XE.ow (iT (xi (n:=0) (za 0 0) T.fld_arrows rfl) (za 5 0))))
  (zf (fC xz.nd (cC T.latest kZ hr (zc (za 4 0) (zc (XO.sh (n:=0) (cC T.later sm hr (zc (jl (n:=1) ve vq (jl (n:=2) ve vq (za 1 2) (yj (k:=0) u4 vi (O1 (k:=0) cr) (xi (n:=0) (za 6 0) T.fld_behind rfl)) (λ_ _=>rfl)) (xi (n:=0) (za 6 0) T.fld_start rfl) (λ_ _=>rfl)) (zc (xi (n:=0) (za 6 0) T.fld_time rfl) zg)))) zg)))))) bW.never rfl)
  (zf (zh (XE.ow (za 4 0))))))
def vh:SF:=(sSeq (sSet 10 (λρ=>((eV 5) ρ).bind λx=>((λρ=>((aCons (eV 9) (aCons (eV 8) aNil)) ρ).bind λds=>some (.tup ds)) ρ).bind λy=>(lg x y).bind λr=>some (r.getD .non)))
  (oq 4 (e1 tu (eC (.int 1))) (eV 9) (λρ=>((aCons (eV 0) (aCons (eV 4) (aCons (e2 di (eV 6) (eV 9)) (aCons (eV 10) aNil)))) ρ).bind λds=>vg (ds++[]))))
def ug:SF:=(sSeq (sApp 4 (e2 lx (λρ=>((aCons (eC .non) aNil) ρ).bind λds=>some (.lst ds)) (eN dH (aCons (e1 (cZ [4] "names") (eV 0)) aNil))))
  (sFor (lsD (eV 7)) (gV 9) vh))
def jt:EF:=(cX (λρ=>((aCons (eN dH (aCons (e1 (cZ [4] "names") (eV 0)) aNil)) aNil) ρ).bind gA) 1 [0] (gV 0) dR (λρ=>((eV 1) ρ).bind λo=>((aCons (eV 0) aNil) ρ).bind λds=>ig 4 "into" vk o (ds++[])))
def v5:List D->Option D:=mOf ["net","rounds","was","floors","rows","greatest","numbers","order","number","going","floor"]
  (sSeq (sSet 4 (λρ=>((aCons (eV 0) (aCons (eV 2) aNil)) ρ).bind λds=>ww (ds++[])))
  (sSeq (sSet 5 (λρ=>((aCons (eIf (tb (e2 (nL false) (eV 3) (eC .non))) (λρ=>(aNil ρ).bind λds=>some (.lst ds)) (eV 3)) aNil) ρ).bind λds=>xg (ds++[])))
  (sSeq (sSet 6 jt)
  (sSeq (sSet 7 (λρ=>((eV 0) ρ).bind λo=>ig 4 "order" qk o []))
  (sSeq (sFor (λρ=>((aCons (eV 1) aNil) ρ).bind gA) (gV 8) ug)
  (sRet (eV 4)))))))
theorem UO (T:Txt K mg a):cn P w K mg base eu 3 a.f_rows_with_past a.d_rows_with_past ["net","rounds","was","floors"] (fK K a.ct [0,0,0,0] 0 v5):=by
 have mF:=Ve (P:=P) (w:=w) (base:=base) T
 have kK:=UU (P:=P) (w:=w) (base:=base) T
 have fX:=J3 (P:=P) (w:=w) (base:=base) T
 have nj:=Vm (P:=P) (w:=w) (base:=base) T
 have jA:=UM (P:=P) (w:=w) (base:=base) T
 refine gW (ms:=[.ow 0,.ow 0,.ow 0,.ow 0,.ow 2,.ow 0,.ow 0,.ow 0,.ow 0,.ow 0,.ow 0]) T.rows_with_past.fn yt λ_ _ _ _ _ _ hr=>?_
 exact(ze (fC yt.nd (cC T.rows_ahead mF hr (zc (za 0 0) (zc (za 2 0) zg))))
  (ze (fC yt.nd (cC T.greatest_told kK hr (zc (KU (ya (k:=0) yS yR (za 3 0) pG (bg _)) (XO.sh (n:=0) (jy (k:=0) vd)) (za 3 0)) zg)))
  (ze (ur (k:=0) (N:=["going","net"]) (om:=[.ow 0]) (cap:=[0]) (own:=1) rfl yt.nd rfl (Or.inl rfl) (uP (by rfl)) rfl rfl (by decide) (XI.cc (wy (n:=0) T.b_range (zc (kR T.b_len (zc (xi (n:=0) (za 0 0) T.fld_names rfl) zg)) zg))) (λ_ _ _ _ _=>(jK (show bu (["going","net"]:List aL)from by decide +kernel))) (λ_ _ _ _ _=>wo) (λ_ _ _ _ _=>(KB (n:=0) (c0:=4) (ns:=[0]) (nd:=[]) (jU:=[]) (za 1 0) T.Net.cl T.Net_into.me fX (hr.mono (by decide)) T.Net_into.bd .nil (λ_ _=>.nil) (zc (za 0 0) zg))))
  (ze (fC yt.nd (EE (n:=0) (c0:=4) (nd:=[]) (jU:=[]) (za 0 0) T.Net.cl T.Net_order.me nj (hr.mono (by decide)) T.Net_order.bd .nil (λ_ _=>.nil)))
  (ze (vv (wy (n:=0) T.b_range (zc (za 1 0) zg)) (iS yt.nd) (ze (NP 4 rfl (KL (jy (k:=0) (yk (XE.ow pG) vd)) (kR T.b_len (zc (xi (n:=0) (za 0 0) T.fld_names rfl) zg))))
  (zf (vv (uN (za 7 0)) (iS yt.nd) (ze (fC yt.nd (XE.ow (OE (n:=0) (EU hr) (za 5 0) (XO.sh (n:=0) (ES (yk (XE.ow (za 9 0)) (yk (XE.ow (za 8 0)) vd)))) ⟨rfl,rfl,rfl,rfl⟩)))
  (zf (XM 4 rfl (O1 (k:=0) cr) (za 9 0) (λ_ _=>rfl) (XO.sh (n:=0) (cC T.time_in_last_row jA hr (zc (za 0 0) (zc (za 4 2) (zc (iT (za 6 0) (za 9 0)) (zc (za 10 0) zg))))))))) bW.never rfl))) bW.never rfl)
  (zf (KF (i:=4) rfl)))))))
def uT:List D->Option D:=mOf ["net","rounds","was","floors"]
  (sRet (λρ=>((λρ=>((aCons (eV 0) (aCons (eV 1) (aCons (eV 2) (aCons (eV 3) aNil)))) ρ).bind λds=>v5 (ds++[])) ρ).bind λd=>((pInt (λρ=>((eV 0) ρ).bind λo=>ig 4 "most_behind" yu o [])) ρ).bind λl=>(pNo ρ).bind λh=>jE d l h))
theorem O5 (T:Txt K mg a):cn P w K mg base eu 4 a.f_run a.d_run ["net","rounds","was","floors"] (fK K a.ct [0,0,0,0] 0 uT):=by
 have kb:=UO (P:=P) (w:=w) (base:=base) T
 have cG:=vf (P:=P) (w:=w) (base:=base) T
 refine gW (ms:=[.ow 0,.ow 0,.ow 0,.ow 0]) T.run.fn zsb λ_ _ _ _ _ _ hr=>?_
 exact(zf (zh (lZ (Ol (n:=0) (by decide) (XO.sh (n:=0) (cC T.rows_with_past kb hr (zc (za 0 0) (zc (za 1 0) (zc (za 2 0) (zc (za 3 0) zg)))))) (OF (XO.sh (n:=0) (EE (n:=0) (c0:=4) (nd:=[]) (jU:=[]) (za 0 0) T.Net.cl T.Net_most_behind.me cG (hr.mono (by decide)) T.Net_most_behind.bd .nil (λ_ _=>.nil)))) Pt))))
def Nz:EF:=(cX (λρ=>((aCons (e2 di (eV 0) (eV 1)) (aCons (e2 di (eV 0) (e2 cz (eV 1) (eV 2))) aNil)) ρ).bind oz) 2 [] (gT (gsCons (gV 0) (gsCons (gV 1) gsNil))) dR (e2 gb (eV 1) (eV 0)))
def jb:List D->Option D:=mOf ["rows","first","count"]
  (sRet Nz)
theorem Kg (T:Txt K mg a):cn P w K mg base eu 1 a.f_growth a.d_growth ["rows","first","count"] (fK K a.ct [0,0,0] 1 jb):=by
 refine gW (ms:=[.ow 0,.ow 0,.ow 0]) T.growth.fn WO λ_ _ _ _ _ _ hr=>?_
 exact(zf (zh (j9 (N:=["before","after"]) (om:=[.ow 0,.ow 0]) (cap:=[]) (own:=2) (KG (n:=0) T.b_zip (zc (iT (za 0 0) (za 1 0)) (zc (iT (za 0 0) (XO.sh (n:=0) (gE (za 1 0) (za 2 0)))) zg))) (λ_ _ _ _ _=>(Gp (n:=1) rfl (u6 (jK (show bu (["before","after"]:List aL)from by decide +kernel)) (u6 (jK (show bu (["before","after"]:List aL)from by decide +kernel)) Gf)))) (λ_ _ _ _ _=>wo) (λ_ _ _ _ _=>(XE.ow (yj (k:=0) u4 vi (za 1 0) (za 0 0)))))))
def Ni:EF:=(cX (λρ=>((aCons (eV 1) (aCons (e2 cz (eV 2) (eC (.int 1))) aNil)) ρ).bind iO) 1 [0,3,4] (gV 0) dR (e2 (fV false) (λρ=>((aCons (eV 1) (aCons (eV 0) (aCons (eV 2) aNil))) ρ).bind λds=>jb (ds++[])) (eV 3)))
def FY:List D->Option D:=mOf ["rows","first","last","count","lengths"]
  (sRet (eN nY (aCons Ni aNil)))
theorem VL (T:Txt K mg a):cn P w K mg base eu 2 a.f_grows_so a.d_grows_so ["rows","first","last","count","lengths"] (fK K a.ct [0,0,0,0,1] 0 FY):=by
 have iq:=Kg (P:=P) (w:=w) (base:=base) T
 refine gW (ms:=[.ow 0,.ow 0,.ow 0,.ow 0,.al 1]) T.grows_so.fn VH λ_ _ _ _ _ _ hr=>?_
 exact(zf (zh (XE.ow (u0 (k:=0) (Gb rfl) Gr rfl T.b_all GD (zc (XO.sh (n:=0) (j9 (N:=["number","rows","count","lengths"]) (om:=[.ow 0]) (cap:=[0,3,4]) (own:=1) (XI.cc (je (n:=0) T.b_range (zc (za 1 0) (zc (XO.sh (n:=0) (gE (za 2 0) cr)) zg)))) (λ_ _ _ _ _=>(jK (show bu (["number","rows","count","lengths"]:List aL)from by decide +kernel))) (λ_ _ _ _ _=>wo) (λ_ _ _ _ _=>(XE.ow (jd (k:=0) (vp hr.u64) wl (XO.sh (n:=0) (cC T.growth iq hr (zc (za 1 0) (zc (za 0 0) (zc (za 2 0) zg))))) (za 3 1) (bg _)))))) zg)))))
def ju:EF:=(cX (lsD (e1 (cZ [4] "arrows") (eV 0))) 1 [1] (gV 0) dR (e2 sZ (e2 di (eV 1) (e1 (cZ [0,1,2,3] "start") (eV 0))) (e2 di (eV 1) (e1 (cZ [0,1,2,3] "goal") (eV 0)))))
def v6:List D->Option D:=mOf ["net","lengths"]
  (sRet (eN nY (aCons ju aNil)))
theorem UP (T:Txt K mg a):cn P w K mg base eu 1 a.f_never_outgrown a.d_never_outgrown ["net","lengths"] (fK K a.ct [0,1] 0 v6):=by
 refine gW (ms:=[.ow 0,.al 1]) T.never_outgrown.fn UN λ_ _ _ _ _ _ hr=>?_
 exact(zf (zh (XE.ow (u0 (k:=0) (Gb rfl) Gr rfl T.b_all GD (zc (XO.sh (n:=0) (j9 (N:=["arrow","lengths"]) (om:=[.ow 0]) (cap:=[1]) (own:=1) (vx (n:=0) (xi (n:=0) (za 0 0) T.fld_arrows rfl)) (λ_ _ _ _ _=>(jK (show bu (["arrow","lengths"]:List aL)from by decide +kernel))) (λ_ _ _ _ _=>wo) (λ_ _ _ _ _=>(XE.ow (jd (k:=0) yQ yN (jl (n:=1) ve vq (za 1 1) (xi (n:=0) (za 0 0) T.fld_start rfl) (λ_ _=>rfl)) (jl (n:=1) ve vq (za 1 1) (xi (n:=0) (za 0 0) T.fld_goal rfl) (λ_ _=>rfl)) (bg _)))))) zg)))))
def xf:SF:=(sIf (tb (e2 (fV false) (e2 cz (e2 di (e2 di (eV 0) (e2 gb (eV 3) (e1 (cZ [0,1,2,3] "behind") (eV 4)))) (e1 (cZ [0,1,2,3] "start") (eV 4))) (e1 (cZ [0,1,2,3] "time") (eV 4))) (e2 di (e2 di (eV 0) (eV 3)) (eV 2)))) (sRet (eC (.bl true))) sSkip)
def jv:List D->Option D:=mOf ["rows","carriers","going","number","arrow"]
  (sSeq (sFor (lsD (eV 1)) (gV 4) xf)
  (sRet (eC (.bl false))))
theorem Vf (T:Txt K mg a):cn P w K mg base eu 1 a.f_is_carried a.d_is_carried ["rows","carriers","going","number"] (fK K a.ct [0,0,0,0] 0 jv):=by
 refine gW (ms:=[.ow 0,.ow 0,.ow 0,.ow 0,.ow 0]) T.is_carried.fn M5 λ_ _ _ _ _ _ hr=>?_
 exact(ze (vv (uN (za 1 0)) (iS M5.nd) (zf (wc (ya (k:=0) (vp hr.u64) wl (XO.sh (n:=0) (gE (iT (iT (za 0 0) (yj (k:=0) u4 vi (za 3 0) (xi (n:=0) (za 4 0) T.fld_behind rfl))) (xi (n:=0) (za 4 0) T.fld_start rfl)) (xi (n:=0) (za 4 0) T.fld_time rfl))) (iT (iT (za 0 0) (za 3 0)) (za 2 0)) (bg _)) (zf (zh (XE.ow (uq (n:=0))))) zl)) bW.never rfl)
  (zf (zh (XE.ow (uq (n:=0))))))
def xh:SF:=(sIf (bNot (tb (λρ=>((aCons (eV 1) (aCons (eV 7) (aCons (eV 5) (aCons (eV 8) aNil)))) ρ).bind λds=>jv (ds++[])))) (sRet (eC (.bl false))) sSkip)
def MV:EF:=(cX (lsD (eV 6)) 1 [4,5] (gV 0) (tb (e2 (fV false) (e2 di (eV 1) (e1 (cZ [0,1,2,3] "start") (eV 0))) (e2 di (eV 1) (eV 2)))) (eV 0))
def MW:EF:=(cX (lsD (λρ=>((eV 0) ρ).bind λo=>((aCons (eV 5) aNil) ρ).bind λds=>ig 4 "into" vk o (ds++[]))) 1 [0] (gV 0) dR (e2 di (e1 (cZ [4] "arrows") (eV 1)) (eV 0)))
def wv:SF:=(sSeq (sSet 6 MW)
  (sSeq (sSet 7 MV)
  (sFor (λρ=>((aCons (eV 2) (aCons (e2 cz (eV 3) (eC (.int 1))) aNil)) ρ).bind iO) (gV 8) xh)))
def uh:List D->Option D:=mOf ["net","rows","first","last","lengths","going","entering","carriers","number"]
  (sSeq (sFor (λρ=>((aCons (eN dH (aCons (e1 (cZ [4] "names") (eV 0)) aNil)) aNil) ρ).bind gA) (gV 5) wv)
  (sRet (eC (.bl true))))
theorem U5 (T:Txt K mg a):cn P w K mg base eu 2 a.f_all_carried a.d_all_carried ["net","rows","first","last","lengths"] (fK K a.ct [0,0,0,0,1] 0 uh):=by
 have fX:=J3 (P:=P) (w:=w) (base:=base) T
 have mD:=Vf (P:=P) (w:=w) (base:=base) T
 refine gW (ms:=[.ow 0,.ow 0,.ow 0,.ow 0,.al 1,.ow 0,.ow 0,.ow 0,.ow 0]) T.all_carried.fn vw λ_ _ _ _ _ _ hr=>?_
 exact(ze (vv (wy (n:=0) T.b_range (zc (kR T.b_len (zc (xi (n:=0) (za 0 0) T.fld_names rfl) zg)) zg)) (iS vw.nd) (ze (ur (k:=0) (N:=["number","net"]) (om:=[.ow 0]) (cap:=[0]) (own:=1) rfl vw.nd rfl (Or.inl rfl) (uP (by rfl)) rfl rfl (by decide) (vx (n:=0) (XO.sh (n:=0) (KB (n:=0) (c0:=4) (ns:=[0]) (nd:=[]) (jU:=[]) (za 0 0) T.Net.cl T.Net_into.me fX (hr.mono (by decide)) T.Net_into.bd .nil (λ_ _=>.nil) (zc (za 5 0) zg)))) (λ_ _ _ _ _=>(jK (show bu (["number","net"]:List aL)from by decide +kernel))) (λ_ _ _ _ _=>wo) (λ_ _ _ _ _=>(XE.ow (iT (xi (n:=0) (za 1 0) T.fld_arrows rfl) (za 0 0)))))
  (ze (ur (k:=0) (N:=["arrow","lengths","going"]) (om:=[.ow 0]) (cap:=[4,5]) (own:=1) rfl vw.nd rfl (Or.inl rfl) (uP (by rfl)) rfl rfl (by decide) (vx (n:=0) (za 6 0)) (λ_ _ _ _ _=>(jK (show bu (["arrow","lengths","going"]:List aL)from by decide +kernel))) (λ_ _ _ _ _=>(EN (ya (k:=0) (vp hr.u64) wl (jl (n:=1) ve vq (za 1 1) (xi (n:=0) (za 0 0) T.fld_start rfl) (λ_ _=>rfl)) (jl (n:=1) ve vq (za 1 1) (za 2 0) (λ_ _=>rfl)) (bg _)))) (λ_ _ _ _ _=>(XE.ow (za 0 0))))
  (zf (vv (je (n:=0) T.b_range (zc (za 2 0) (zc (XO.sh (n:=0) (gE (za 3 0) cr)) zg))) (iS vw.nd) (zf (wc (ua (wq (XO.sh (n:=0) (cC T.is_carried mD hr (zc (za 1 0) (zc (za 7 0) (zc (za 5 0) (zc (za 8 0) zg)))))))) (zf (zh (XE.ow (uq (n:=0))))) zl)) bW.never rfl)))) bW.never rfl)
  (zf (zh (XE.ow (uq (n:=0))))))
def Gc:List D->Option D:=mOf ["net","rows","paper","count","first","lengths","settled"]
  (sSeq (sSet 3 (eSc (e2 di (eV 2) (eC (.int 0)))))
  (sSeq (sSet 4 (eSc (e2 di (eV 2) (eC (.int 1)))))
  (sSeq (sSet 5 (e2 Jn (eV 2) (eC (.int 2))))
  (sSeq (sSet 6 (e2 cz (eV 4) (λρ=>((eV 0) ρ).bind λo=>ig 4 "most_behind" yu o [])))
  (sSeq (sIf (bOr (tb (e2 pW (eV 3) (eC (.int 1)))) (bOr (tb (e2 pW (eV 4) (eC (.int 0)))) (bOr (tb (e2 (fV true) (eN dH (aCons (eV 5) aNil)) (eN dH (aCons (e1 (cZ [4] "names") (eV 0)) aNil)))) (tb (e2 pW (eN dH (aCons (eV 1) aNil)) (e2 cz (eV 6) (eV 3))))))) (sRet (eC (.bl false))) sSkip)
  (sSeq (sIf (bOr (bNot (tb (λρ=>((aCons (eV 1) (aCons (eV 4) (aCons (e2 gb (eV 6) (eC (.int 1))) (aCons (eV 3) (aCons (eV 5) aNil))))) ρ).bind λds=>FY (ds++[])))) (bNot (tb (λρ=>((aCons (eV 0) (aCons (eV 5) aNil)) ρ).bind λds=>v6 (ds++[]))))) (sRet (eC (.bl false))) sSkip)
  (sRet (λρ=>((aCons (eV 0) (aCons (eV 1) (aCons (eV 6) (aCons (e2 gb (e2 cz (eV 6) (eV 3)) (eC (.int 1))) (aCons (eV 5) aNil))))) ρ).bind λds=>uh (ds++[])))))))))
theorem V9 (T:Txt K mg a):cn P w K mg base eu 3 a.f_goes_on a.d_goes_on ["net","rows","paper"] (fK K a.ct [0,0,2] 0 Gc):=by
 have cG:=vf (P:=P) (w:=w) (base:=base) T
 have nS:=VL (P:=P) (w:=w) (base:=base) T
 have ka:=UP (P:=P) (w:=w) (base:=base) T
 have lQ:=U5 (P:=P) (w:=w) (base:=base) T
 refine gW (ms:=[.ow 0,.ow 0,.al 2,.ow 0,.ow 0,.al 1,.ow 0]) T.goes_on.fn jz λ_ _ _ _ _ _ hr=>?_
 exact(ze (fC jz.nd (XE.ow (XO.sh (n:=0) (k:=0) (rG (jl (n:=2) ve vq (za 2 2) cr (λ_ _=>rfl))))))
  (ze (fC jz.nd (XE.ow (XO.sh (n:=0) (k:=0) (rG (jl (n:=2) ve vq (za 2 2) cr (λ_ _=>rfl))))))
  (ze (Xl (i:=5) (j:=2) rfl rfl cr jz.nd (λ_ _=>rfl))
  (ze (fC jz.nd (lZ (gE (za 4 0) (XO.sh (n:=0) (EE (n:=0) (c0:=4) (nd:=[]) (jU:=[]) (za 0 0) T.Net.cl T.Net_most_behind.me cG (hr.mono (by decide)) T.Net_most_behind.bd .nil (λ_ _=>.nil))))))
  (ze (wc (XW.t (qw (ya (k:=0) uS uO (za 3 0) cr (bg _)) (qw (ya (k:=0) uS uO (za 4 0) cr (bg _)) (qw (ya (k:=0) (yP hr.u64) wl (kR T.b_len (zc (za 5 1) zg)) (kR T.b_len (zc (xi (n:=0) (za 0 0) T.fld_names rfl) zg)) (bg _)) (qq (ya (k:=0) uS uO (kR T.b_len (zc (za 1 0) zg)) (XO.sh (n:=0) (gE (za 6 0) (za 3 0))) (bg _))))))) (zf (zh (XE.ow (uq (n:=0))))) zl)
  (ze (wc (XW.t (qw (ua (wq (XO.sh (n:=0) (cC T.grows_so nS hr (zc (za 1 0) (zc (za 4 0) (zc (yj (k:=0) u4 vi (za 6 0) cr) (zc (za 3 0) (zc (za 5 1) zg))))))))) (qq (ua (wq (XO.sh (n:=0) (cC T.never_outgrown ka hr (zc (za 0 0) (zc (za 5 1) zg))))))))) (zf (zh (XE.ow (uq (n:=0))))) zl)
  (zf (zh (cC T.all_carried lQ hr (zc (za 0 0) (zc (za 1 0) (zc (za 6 0) (zc (yj (k:=0) u4 vi (XO.sh (n:=0) (gE (za 6 0) (za 3 0))) cr) (zc (za 5 1) zg))))))))))))))
def v7:SF:=(sIf (tb (e2 (fV false) (λρ=>((eV 0) ρ).bind λo=>((aCons (eV 1) aNil) ρ).bind λds=>ig 4 "into" vk o (ds++[])) (λρ=>(aNil ρ).bind λds=>some (.lst ds)))) lz sSkip)
def u3:List D->Option D:=mOf ["net","going"]
  (sFor (λρ=>((aCons (eN dH (aCons (e1 (cZ [4] "names") (eV 0)) aNil)) aNil) ρ).bind gA) (gV 1) v7)
theorem UT (T:Txt K mg a):cn P w K mg base eu 2 a.f_refuse_loose a.d_refuse_loose ["net"] (fK K a.ct [0] 0 u3):=by
 have fX:=J3 (P:=P) (w:=w) (base:=base) T
 refine gW (ms:=[.ow 0,.ow 0]) T.refuse_loose.fn MU λ_ _ _ _ _ _ hr=>?_
 exact(zf (vv (wy (n:=0) T.b_range (zc (kR T.b_len (zc (xi (n:=0) (za 0 0) T.fld_names rfl) zg)) zg)) (iS MU.nd) (zf (wc (ya (k:=0) (vp hr.u64) wl (XO.sh (n:=0) (KB (n:=0) (c0:=4) (ns:=[0]) (nd:=[]) (jU:=[]) (za 0 0) T.Net.cl T.Net_into.me fX (hr.mono (by decide)) T.Net_into.bd .nil (λ_ _=>.nil) (zc (za 1 0) zg))) (XO.sh (n:=0) (jy (k:=0) vd)) (bg _)) (zf Ge) zl)) bW.never rfl))
def ui:SF:=(rq 4 (i2 λi j=>.int (i-j)) (eC (.int 1)))
def v8:List D->Option D:=mOf ["rows","known","count","lengths","first"]
  (sSeq (sSet 4 (eV 1))
  (sSeq (lA (bAnd (tb (e2 oN (eV 4) (eC (.int 0)))) (tb (e2 (fV false) (λρ=>((aCons (eV 0) (aCons (e2 gb (eV 4) (eC (.int 1))) (aCons (eV 2) aNil))) ρ).bind λds=>jb (ds++[])) (eV 3)))) ui)
  (sRet (eV 4))))
theorem UQ (T:Txt K mg a):cn P w K mg base eu 2 a.f_earliest_round a.d_earliest_round ["rows","known","count","lengths"] (fK K a.ct [0,0,0,1] 0 v8):=by
 have iq:=Kg (P:=P) (w:=w) (base:=base) T
 refine gW (ms:=[.ow 0,.ow 0,.ow 0,.al 1,.ow 0]) T.earliest_round.fn ut λ_ _ _ _ _ _ hr=>?_
 exact(ze (fC ut.nd (XE.ow (za 1 0)))
  (ze (Oh (XW.t (zQ (ya (k:=0) tQ tP (za 4 0) cr (bg _)) (zM (ya (k:=0) (vp hr.u64) wl (XO.sh (n:=0) (cC T.growth iq hr (zc (za 0 0) (zc (yj (k:=0) u4 vi (za 4 0) cr) (zc (za 2 0) zg))))) (za 3 1) (bg _))))) (zf (O2 Pd rfl ut.nd rfl (Or.inl rfl) cr)) bW.never)
  (zf (zh (XE.ow (za 4 0))))))
def uj:SF:=(sSeq (sSet 6 (e2 gb (eV 4) (eV 5)))
  (sSeq (sSet 7 (λρ=>((aCons (eV 3) (aCons (eV 6) (aCons (eV 5) aNil))) ρ).bind λds=>jb (ds++[])))
  (sIf (tb (λρ=>((aCons (eV 0) (aCons (eV 3) (aCons (λρ=>((aCons (eV 5) (aCons (eV 6) (aCons (eV 7) aNil))) ρ).bind λds=>some (.tup ds)) aNil))) ρ).bind λds=>Gc (ds++[]))) (sRet (λρ=>(eV 7 ρ).bind λ_=>((aCons (eSc (eV 5)) (aCons (eSc (λρ=>((aCons (eV 3) (aCons (eV 6) (aCons (eV 5) (aCons (eV 7) aNil)))) ρ).bind λds=>v8 (ds++[]))) (aCons (eV 7) aNil))) ρ).bind λds=>some (.tup ds))) sSkip)))
def wn:List D->Option D:=mOf ["net","most","was","rows","spare_rounds","count","last","lengths"]
  (sSeq (sDrop (λρ=>((aCons (eV 0) aNil) ρ).bind λds=>u3 (ds++[])))
  (sSeq (sSet 3 (λρ=>((aCons (eV 0) (aCons (eV 1) (aCons (eV 2) aNil))) ρ).bind λds=>uT (ds++[.non])))
  (sSeq (sSet 4 (e2 gb (eV 1) (λρ=>((eV 0) ρ).bind λo=>ig 4 "most_behind" yu o [])))
  (sSeq (sFor (λρ=>((aCons (eC (.int 1)) (aCons (e2 cz (eV 4) (eC (.int 1))) aNil)) ρ).bind iO) (gV 5) uj)
  (sRet (eSc (eC .non)))))))
theorem U6 (T:Txt K mg a):cn P w K mg base eu 5 a.f_comes_again a.d_comes_again ["net","most","was"] (fK K a.ct [0,0,0] 2 wn):=by
 have lc:=UT (P:=P) (w:=w) (base:=base) T
 have p4:=O5 (P:=P) (w:=w) (base:=base) T
 have jM:=T.run_d1.choose_spec
 have sj:=T.run_d2.choose_spec
 have cG:=vf (P:=P) (w:=w) (base:=base) T
 have iq:=Kg (P:=P) (w:=w) (base:=base) T
 have pf:=V9 (P:=P) (w:=w) (base:=base) T
 have jZ:=UQ (P:=P) (w:=w) (base:=base) T
 refine gW (ms:=[.ow 0,.ow 0,.ow 0,.ow 0,.ow 0,.ow 0,.ow 0,.ow 1]) T.comes_again.fn vb λ_ _ _ _ _ _ hr=>?_
 exact(ze (X7 (XO.sh (n:=0) (cC T.refuse_loose lc hr (zc (za 0 0) zg))))
  (ze (fC vb.nd (KA (jU:=[.non]) (ns:=[0,0,0]) (nd:=[0]) p4 (hr.mono (by decide)) rfl T.run.mgx T.run.fn.kp (jM).2.2 (jM).2.1 (λ_ _=>(.cons (Al.of .non) .nil)) (zc (za 0 0) (zc (za 1 0) (zc (za 2 0) zg)))))
  (ze (fC vb.nd (XE.ow (yj (k:=0) u4 vi (za 1 0) (XO.sh (n:=0) (EE (n:=0) (c0:=4) (nd:=[]) (jU:=[]) (za 0 0) T.Net.cl T.Net_most_behind.me cG (hr.mono (by decide)) T.Net_most_behind.bd .nil (λ_ _=>.nil))))))
  (ze (vv (je (n:=0) T.b_range (zc cr (zc (XO.sh (n:=0) (gE (za 4 0) cr)) zg))) (iS vb.nd) (ze (fC vb.nd (XE.ow (yj (k:=0) u4 vi (za 4 0) (za 5 0))))
  (ze (fC vb.nd (cC T.growth iq hr (zc (za 3 0) (zc (za 6 0) (zc (za 5 0) zg)))))
  (zf (wc (wq (XO.sh (n:=0) (cC T.goes_on pf hr (zc (za 0 0) (zc (za 3 0) (zc (YD (n:=1) (zc (za 5 0) (zc (za 6 0) (zc (za 7 1) zg)))) zg)))))) (zf (Xj (i:=7) rfl (Ov (rG (za 5 0)) (Ov (rG (XO.sh (n:=0) (cC T.earliest_round jZ hr (zc (za 3 0) (zc (za 6 0) (zc (za 5 0) (zc (za 7 1) zg))))))) (Y5 (i:=7)))))) zl)))) bW.never rfl)
  (zf (zh (rG pG)))))))
def yh:List D->Option D:=mOf ["_law_script","_law_k"]
  (sSeq (sIf (tb (e2 pW (eV 1) (eN dH (aCons (eV 0) aNil)))) (sRet (e2 di (eV 0) (eV 1))) sSkip)
  (sRet (eC (.int 0))))
theorem MZ (T:Txt K mg a):cn P w K mg base eu 1 a.f_law_cell_at a.d_law_cell_at ["_law_script","_law_k"] (fK K a.ct [0,0] 0 yh):=by
 refine gW (ms:=[.ow 0,.ow 0]) T.law_cell_at.fn U0 λ_ _ _ _ _ _ hr=>?_
 exact(ze (wc (ya (k:=0) uS uO (za 1 0) (kR T.b_len (zc (za 0 0) zg)) (bg _)) (zf (zh (XE.ow (iT (za 0 0) (za 1 0))))) zl)
  (zf (zh (XE.ow cr))))
def jj:List D->Option D:=mOf ["_law_found"]
  (sRet (eB (bAnd (tb (e1 (kh "int") (eV 0))) (tb (eB (bNot (tb (e1 (kh "bool") (eV 0)))))))))
theorem Vn (T:Txt K mg a):cn P w K mg base eu 1 a.f_law_whole a.d_law_whole ["_law_found"] (fK K a.ct [0] 0 jj):=by
 refine gW (ms:=[.ow 0]) T.law_whole.fn Vi λ_ _ _ _ _ _ hr=>?_
 exact(zf (zh (XE.ow (tO (uQ (k:=0) (by decide) T.b_isinstance T.b_int Ph (za 0 0)) (sg (k:=0) (Pl (k:=0) (uQ (k:=0) (by decide) T.b_isinstance T.b_bool OJ (za 0 0))))))))
def uc:List D->Option D:=mOf ["_law_cell"]
  (sRet (eB (bAnd (tb (e2 t4 (eV 0) (e2 tH (eC (.int 1)) (eC (.int 90))))) (tb (e2 (fV false) (e2 eh (eV 0) (eC (.int 2))) (eC (.int 1)))))))
theorem ql (T:Txt K mg a):cn P w K mg base eu 1 a.f_law_is_row a.d_law_is_row ["_law_cell"] (fK K a.ct [0] 0 uc):=by
 refine gW (ms:=[.ow 0]) T.law_is_row.fn Va λ_ _ _ _ _ _ hr=>?_
 exact(zf (zh (XE.ow (tO (jd (k:=0) GM GH (za 0 0) (yj (k:=0) Zc Ya cr cr) (bg _)) (sg (k:=0) (jd (k:=0) (vp hr.u64) wl (yj (k:=0) xu xw (za 0 0) cr) cr (bg _)))))))
def wa:List D->Option D:=mOf ["_law_cell","_law_k","_law_number"]
  (sSeq (sIf (bAnd (tb (λρ=>((aCons (eV 0) aNil) ρ).bind λds=>uc (ds++[]))) (tb (e2 oN (e2 pD (eV 0) (e2 cz (eC (.int 1)) (e2 gz (eC (.int 31)) (eV 1)))) (eC (.int 0))))) (sRet (e2 eh (e2 pD (eV 0) (e2 cz (eC (.int 1)) (e2 gz (eC (.int 31)) (eV 1)))) (eC (.int 2147483648)))) sSkip)
  (sSeq (sSet 2 (e2 eh (e2 gz (e2 cz (e2 cz (eV 0) (e2 gz (eC (.int 7919)) (eV 1))) (eC (.int 1))) (eC (.int 48271))) (eC (.int 2147483647))))
  (sSeq (sSet 2 (e2 eh (e2 gz (eV 2) (e2 cz (e2 fZ (eV 2) (eC (.int 1009))) (eC (.int 69621)))) (eC (.int 2147483647))))
  (sRet (e2 eh (e2 gz (eV 2) (e2 cz (e2 cz (e2 fZ (eV 2) (eC (.int 2003))) (eC (.int 39373))) (eV 1))) (eC (.int 2147483629)))))))
theorem J7 (T:Txt K mg a):cn P w K mg base eu 2 a.f_law_mixed a.d_law_mixed ["_law_cell","_law_k"] (fK K a.ct [0,0] 0 wa):=by
 have eO:=ql (P:=P) (w:=w) (base:=base) T
 refine gW (ms:=[.ow 0,.ow 0,.ow 0]) T.law_mixed.fn J5 λ_ _ _ _ _ _ hr=>?_
 exact(ze (wc (XW.t (zQ (wq (XO.sh (n:=0) (cC T.law_is_row eO hr (zc (za 0 0) zg)))) (zM (ya (k:=0) tQ tP (yj (k:=0) Pe OM (za 0 0) (XO.sh (n:=0) (gE cr (yj (k:=0) qz jo cr (za 1 0))))) cr (bg _))))) (zf (zh (XE.ow (yj (k:=0) xu xw (yj (k:=0) Pe OM (za 0 0) (XO.sh (n:=0) (gE cr (yj (k:=0) qz jo cr (za 1 0))))) cr)))) zl)
  (ze (fC J5.nd (XE.ow (yj (k:=0) xu xw (yj (k:=0) qz jo (XO.sh (n:=0) (gE (XO.sh (n:=0) (gE (za 0 0) (yj (k:=0) qz jo cr (za 1 0)))) cr)) cr) cr)))
  (ze (fC J5.nd (XE.ow (yj (k:=0) xu xw (yj (k:=0) qz jo (za 2 0) (XO.sh (n:=0) (gE (yj (k:=0) ue uf (za 2 0) cr) cr))) cr)))
  (zf (zh (XE.ow (yj (k:=0) xu xw (yj (k:=0) qz jo (za 2 0) (XO.sh (n:=0) (gE (XO.sh (n:=0) (gE (yj (k:=0) ue uf (za 2 0) cr) cr)) (za 1 0)))) cr)))))))
def u8:SF:=(mP 3 4 (e2 eh (λρ=>((aCons (eV 0) (aCons (eV 5) aNil)) ρ).bind λds=>wa (ds++[])) (eN dH (aCons (eV 4) aNil))))
def ux:List D->Option D:=mOf ["_law_turn","_law_many","_law_going","_law_order","_law_left","_law_k"]
  (sSeq (sIf (bNot (tb (λρ=>((aCons (eV 0) aNil) ρ).bind λds=>uc (ds++[])))) (sRet (e2 eh (e2 cz (eV 2) (eV 0)) (eV 1))) sSkip)
  (sSeq (sSet 3 (λρ=>(aNil ρ).bind λds=>some (.lst ds)))
  (sSeq (sSet 4 (eN mm (aCons (eV 1) aNil)))
  (sSeq (sFor (λρ=>((aCons (eV 1) aNil) ρ).bind gA) (gV 5) u8)
  (sRet (e2 qU (eV 3) (eV 2)))))))
theorem VM (T:Txt K mg a):cn P w K mg base eu 3 a.f_law_rank a.d_law_rank ["_law_turn","_law_many","_law_going"] (fK K a.ct [0,0,0] 0 ux):=by
 have eO:=ql (P:=P) (w:=w) (base:=base) T
 have eG:=J7 (P:=P) (w:=w) (base:=base) T
 refine gW (ms:=[.ow 0,.ow 0,.ow 0,.ow 1,.ow 1,.ow 0]) T.law_rank.fn qc λ_ _ _ _ _ _ hr=>?_
 exact(ze (wc (ua (wq (XO.sh (n:=0) (cC T.law_is_row eO hr (zc (za 0 0) zg))))) (zf (zh (XE.ow (yj (k:=0) xu xw (XO.sh (n:=0) (gE (za 2 0) (za 0 0))) (za 1 0))))) zl)
  (ze (fC qc.nd (jy (k:=0) vd))
  (ze (fC qc.nd (Y1 rfl rfl T.b_list rfl T.b_range (zc (za 1 0) zg)))
  (ze (vv (wy (n:=0) T.b_range (zc (za 1 0) zg)) (iS qc.nd) (zf (WG 3 4 rfl rfl (by decide) (yj (k:=0) xu xw (XO.sh (n:=0) (cC T.law_mixed eG hr (zc (za 0 0) (zc (za 5 0) zg)))) (kR T.b_len (zc (za 4 1) zg))))) bW.never rfl)
  (zf (zh (XE.ow (XC (k:=0) (za 3 1) (za 2 0)))))))))
def uk:SF:=(sSeq (sSet 8 (e2 eh (e2 fZ (eV 4) (eC (.int 1000))) (eC (.int 10))))
  (sSeq (sIf (tb (e2 (fV false) (e2 eh (eV 0) (eC (.int 4))) (eC (.int 3)))) (sSet 8 (e2 eh (e2 fZ (eV 0) (eC (.int 4))) (e2 cz (e2 pC (eC (.int 10)) (eC (.int 9))) (eC (.int 1))))) sSkip)
  (sSeq (sIf (tb (λρ=>((aCons (eV 0) aNil) ρ).bind λds=>uc (ds++[]))) (sSet 8 (e2 eh (λρ=>((aCons (eV 0) (aCons (eC (.int 30)) aNil)) ρ).bind λds=>wa (ds++[])) (e2 cz (e2 pC (eC (.int 10)) (eC (.int 9))) (eC (.int 1))))) sSkip)
  (sRet (λρ=>((aCons (eV 5) (aCons (eV 6) (aCons (eV 8) (aCons (eV 7) aNil)))) ρ).bind λds=>some (.tup ds))))))
def wp:List D->Option D:=mOf ["_law_cell","_law_many","_law_turn","_law_k","_law_number","_law_start","_law_goal","_law_behind","_law_time"]
  (sSeq (sSet 4 (λρ=>((aCons (eV 0) (aCons (eV 3) aNil)) ρ).bind λds=>wa (ds++[])))
  (sSeq (sSet 5 (e2 eh (eV 4) (eV 1)))
  (sSeq (sSet 6 (eV 3))
  (sSeq (sIf (tb (e2 t4 (eV 3) (eV 1))) (sSet 6 (e2 eh (e2 fZ (eV 4) (eC (.int 8))) (eV 1))) sSkip)
  (sSeq (sSet 7 (e2 eh (e2 fZ (eV 4) (eC (.int 64))) (eC (.int 5))))
  (sSeq (sIf (bAnd (tb (e2 (fV false) (eV 7) (eC (.int 0)))) (tb (e2 t4 (λρ=>((aCons (eV 2) (aCons (eV 1) (aCons (eV 5) aNil))) ρ).bind λds=>ux (ds++[])) (λρ=>((aCons (eV 2) (aCons (eV 1) (aCons (eV 6) aNil))) ρ).bind λds=>ux (ds++[]))))) (sSet 7 (e2 cz (eC (.int 1)) (e2 eh (e2 fZ (eV 4) (eC (.int 320))) (eC (.int 2))))) sSkip)
  uk))))))
theorem Vy (T:Txt K mg a):cn P w K mg base eu 4 a.f_law_arrow a.d_law_arrow ["_law_cell","_law_many","_law_turn","_law_k"] (fK K a.ct [0,0,0,0] 0 wp):=by
 have eG:=J7 (P:=P) (w:=w) (base:=base) T
 have la:=VM (P:=P) (w:=w) (base:=base) T
 have eO:=ql (P:=P) (w:=w) (base:=base) T
 refine gW (ms:=[.ow 0,.ow 0,.ow 0,.ow 0,.ow 0,.ow 0,.ow 0,.ow 0,.ow 0]) T.law_arrow.fn xy λ_ _ _ _ _ _ hr=>?_
 exact(ze (fC xy.nd (cC T.law_mixed eG hr (zc (za 0 0) (zc (za 3 0) zg))))
  (ze (fC xy.nd (XE.ow (yj (k:=0) xu xw (za 4 0) (za 1 0))))
  (ze (fC xy.nd (XE.ow (za 3 0)))
  (ze (wc (ya (k:=0) GM GH (za 3 0) (za 1 0) (bg _)) (zf (fC xy.nd (XE.ow (yj (k:=0) xu xw (yj (k:=0) ue uf (za 4 0) cr) (za 1 0))))) zl)
  (ze (fC xy.nd (XE.ow (yj (k:=0) xu xw (yj (k:=0) ue uf (za 4 0) cr) cr)))
  (ze (wc (XW.t (zQ (ya (k:=0) (vp hr.u64) wl (za 7 0) cr (bg _)) (zM (ya (k:=0) GM GH (XO.sh (n:=0) (cC T.law_rank la hr (zc (za 2 0) (zc (za 1 0) (zc (za 5 0) zg))))) (XO.sh (n:=0) (cC T.law_rank la hr (zc (za 2 0) (zc (za 1 0) (zc (za 6 0) zg))))) (bg _))))) (zf (fC xy.nd (lZ (gE cr (yj (k:=0) xu xw (yj (k:=0) ue uf (za 4 0) cr) cr))))) zl)
  (ze (fC xy.nd (XE.ow (yj (k:=0) xu xw (yj (k:=0) ue uf (za 4 0) cr) cr)))
  (ze (wc (ya (k:=0) (vp hr.u64) wl (yj (k:=0) xu xw (za 0 0) cr) cr (bg _)) (zf (fC xy.nd (XE.ow (yj (k:=0) xu xw (yj (k:=0) ue uf (za 0 0) cr) (XO.sh (n:=0) (gE (yj (k:=0) KM KC cr cr) cr)))))) zl)
  (ze (wc (wq (XO.sh (n:=0) (cC T.law_is_row eO hr (zc (za 0 0) zg)))) (zf (fC xy.nd (XE.ow (yj (k:=0) xu xw (XO.sh (n:=0) (cC T.law_mixed eG hr (zc (za 0 0) (zc cr zg)))) (XO.sh (n:=0) (gE (yj (k:=0) KM KC cr cr) cr)))))) zl)
  (zf (zh (lZ (ES (yk (XE.ow (za 5 0)) (yk (XE.ow (za 6 0)) (yk (XE.ow (za 8 0)) (yk (XE.ow (za 7 0)) vd)))))))))))))))))
def FZ:List D->Option D:=mOf ["_law_arrow_here","_law_kind","_law_start","_law_goal","_law_time","_law_behind"]
  (sSeq (sAsg (gT (gsCons (gV 2) (gsCons (gV 3) (gsCons (gV 4) (gsCons (gV 5) gsNil))))) (eV 0))
  (sSeq (sIf (bAnd (tb (e2 (fV false) (eV 5) (eC (.int 0)))) (tb (e2 (fV false) (e2 eh (eV 1) (eC (.int 2))) (eC (.int 0))))) (sRet (λρ=>((aCons (eV 2) (aCons (eV 3) (aCons (eV 4) aNil))) ρ).bind λds=>qd 1 (ds++[]))) sSkip)
  (sSeq (sIf (bAnd (tb (e2 oN (eV 5) (eC (.int 0)))) (tb (e2 (fV false) (e2 eh (eV 1) (eC (.int 2))) (eC (.int 0))))) (sRet (λρ=>((aCons (eV 2) (aCons (eV 3) (aCons (eV 4) (aCons (eV 5) aNil)))) ρ).bind λds=>qh 3 (ds++[]))) sSkip)
  (sRet (λρ=>((aCons (eV 2) (aCons (eV 3) (aCons (eV 4) (aCons (eV 5) aNil)))) ρ).bind λds=>qf 2 (ds++[]))))))
theorem Vu (T:Txt K mg a):cn P w K mg base eu 4 a.f_law_made a.d_law_made ["_law_arrow_here","_law_kind"] (fK K a.ct [0,0] 0 FZ):=by
 have lO:=U1 (P:=P) (w:=w) (base:=base) T
 have lN:=U3 (P:=P) (w:=w) (base:=base) T
 have pO:=T.Back___init_d1.choose_spec
 have lP:=U2 (P:=P) (w:=w) (base:=base) T
 have pP:=T.Wait___init_d1.choose_spec
 refine gW (ms:=[.ow 0,.ow 0,.ow 0,.ow 0,.ow 0,.ow 0]) T.law_made.fn jf λ_ _ _ _ _ _ hr=>?_
 exact(ze (zru (za 0 0) (zR (n:=0) rfl (xv (iS jf.nd) (xv (iS jf.nd) (xv (iS jf.nd) (xv (iS jf.nd) zN))))))
  (ze (wc (XW.t (zQ (ya (k:=0) (vp hr.u64) wl (za 5 0) cr (bg _)) (zM (ya (k:=0) (vp hr.u64) wl (yj (k:=0) xu xw (za 1 0) cr) cr (bg _))))) (zf (zh (lZ (Gs (c0:=1) (jU:=[]) (ns:=[0,0,0]) (nd:=[]) ⟨T.Ride.mks,T.Ride___init.me.at_,T.Ride___init.me.fn,T.Ride.kp⟩ (by decide) lO (hr.mono (by decide)) rfl T.Ride.mgx T.Ride___init.bd .nil (λ_ _=>.nil) (zc (za 2 0) (zc (za 3 0) (zc (za 4 0) zg))))))) zl)
  (ze (wc (XW.t (zQ (ya (k:=0) tQ tP (za 5 0) cr (bg _)) (zM (ya (k:=0) (vp hr.u64) wl (yj (k:=0) xu xw (za 1 0) cr) cr (bg _))))) (zf (zh (lZ (Gs (c0:=3) (jU:=[]) (ns:=[0,0,0,0]) (nd:=[]) ⟨T.Back.mks,T.Back___init.me.at_,T.Back___init.me.fn,T.Back.kp⟩ (by decide) lN (hr.mono (by decide)) rfl T.Back.mgx T.Back___init.bd .nil (λ_ _=>.nil) (zc (za 2 0) (zc (za 3 0) (zc (za 4 0) (zc (za 5 0) zg)))))))) zl)
  (zf (zh (lZ (Gs (c0:=2) (jU:=[]) (ns:=[0,0,0,0]) (nd:=[]) ⟨T.Wait.mks,T.Wait___init.me.at_,T.Wait___init.me.fn,T.Wait.kp⟩ (by decide) lP (hr.mono (by decide)) rfl T.Wait.mgx T.Wait___init.bd .nil (λ_ _=>.nil) (zc (za 2 0) (zc (za 3 0) (zc (za 4 0) (zc (za 5 0) zg)))))))))))
def Nd:EF:=(cX (λρ=>((aCons (eV 1) aNil) ρ).bind gA) 1 [2,0,3] (gV 0) dR (e2 eh (e2 gz (λρ=>((aCons (eV 1) (aCons (e2 cz (e2 gz (eC (.int 20)) (eV 2)) (eV 0)) aNil)) ρ).bind λds=>wa (ds++[])) (eC (.int 7919))) (eV 3)))
def Nr:EF:=(cX (λρ=>((aCons (eV 2) aNil) ρ).bind gA) 1 [1,3,4] (gV 0) dR Nd)
def ED:List D->Option D:=mOf ["_law_script","_law_many","_law_back","_law_cell","_law_most"]
  (sSeq (sSet 3 (λρ=>((aCons (eV 0) (aCons (eC (.int 2)) aNil)) ρ).bind λds=>yh (ds++[])))
  (sSeq (sIf (tb (e2 (fV false) (e2 eh (eV 3) (eC (.int 4))) (eC (.int 0)))) (sRet (eC .non)) sSkip)
  (sSeq (sSet 4 (e2 di (λρ=>((aCons (eC (.int 41)) (aCons (eC (.int 41)) (aCons (e2 pC (eC (.int 10)) (eC (.int 12))) aNil))) ρ).bind λds=>some (.lst ds)) (e2 eh (e2 fZ (eV 3) (eC (.int 4))) (eC (.int 3)))))
  (sRet Nr))))
theorem Wa (T:Txt K mg a):cn P w K mg base eu 3 a.f_law_was a.d_law_was ["_law_script","_law_many","_law_back"] (fK K a.ct [0,0,0] 0 ED):=by
 have dk:=MZ (P:=P) (w:=w) (base:=base) T
 have eG:=J7 (P:=P) (w:=w) (base:=base) T
 refine gW (ms:=[.ow 0,.ow 0,.ow 0,.ow 0,.ow 0]) T.law_was.fn J8 λ_ _ _ _ _ _ hr=>?_
 exact(ze (fC J8.nd (cC T.law_cell_at dk hr (zc (za 0 0) (zc cr zg))))
  (ze (wc (ya (k:=0) (vp hr.u64) wl (yj (k:=0) xu xw (za 3 0) cr) cr (bg _)) (zf (zh (XE.ow pG))) zl)
  (ze (fC J8.nd (XE.ow (iT (XO.sh (n:=0) (jy (k:=0) (yk (XE.ow cr) (yk (XE.ow cr) (yk (XE.ow (yj (k:=0) KM KC cr cr)) vd))))) (yj (k:=0) xu xw (yj (k:=0) ue uf (za 3 0) cr) cr))))
  (zf (zh (lZ (j9 (N:=["_law_k","_law_many","_law_cell","_law_most"]) (om:=[.ow 0]) (cap:=[1,3,4]) (own:=1) (XI.cc (wy (n:=0) T.b_range (zc (za 2 0) zg))) (λ_ _ _ _ _=>(jK (show bu (["_law_k","_law_many","_law_cell","_law_most"]:List aL)from by decide +kernel))) (λ_ _ _ _ _=>wo) (λ_ _ _ _ _=>(lZ (j9 (N:=["_law_going","_law_cell","_law_k","_law_most"]) (om:=[.ow 0]) (cap:=[2,0,3]) (own:=1) (XI.cc (wy (n:=0) T.b_range (zc (za 1 0) zg))) (λ_ _ _ _ _=>(jK (show bu (["_law_going","_law_cell","_law_k","_law_most"]:List aL)from by decide +kernel))) (λ_ _ _ _ _=>wo) (λ_ _ _ _ _=>(XE.ow (yj (k:=0) xu xw (yj (k:=0) qz jo (XO.sh (n:=0) (cC T.law_mixed eG hr (zc (za 1 0) (zc (XO.sh (n:=0) (gE (yj (k:=0) qz jo cr (za 2 0)) (za 0 0))) zg)))) cr) (za 3 0))))))))))))))
def vm:SF:=(sIf (bAnd (tb (e2 (fV false) (eV 6) (eV 3))) (tb (e2 (fV false) (e2 di (eV 2) (eV 5)) (e2 di (eV 2) (eV 3))))) (sIf (tb (e2 (fV false) (e2 cz (e2 di (e2 di (eV 1) (e2 gb (eV 4) (eV 8))) (eV 5)) (eV 7)) (e2 di (e2 di (eV 1) (eV 4)) (eV 3)))) (sRet (eC (.bl true))) sSkip) sSkip)
def jk:List D->Option D:=mOf ["_law_arrows","_law_rows","_law_lengths","_law_going","_law_when","_law_start","_law_goal","_law_time","_law_behind"]
  (sSeq (sFor (lsD (eV 0)) (gT (gsCons (gV 5) (gsCons (gV 6) (gsCons (gV 7) (gsCons (gV 8) gsNil))))) vm)
  (sRet (eC (.bl false))))
theorem Vz (T:Txt K mg a):cn P w K mg base eu 1 a.f_law_tight a.d_law_tight ["_law_arrows","_law_rows","_law_lengths","_law_going","_law_when"] (fK K a.ct [0,0,0,0,0] 0 jk):=by
 refine gW (ms:=[.ow 0,.ow 0,.ow 0,.ow 0,.ow 0,.ow 0,.ow 0,.ow 0,.ow 0]) T.law_tight.fn u7 λ_ _ _ _ _ _ hr=>?_
 exact(ze (vv (uN (za 0 0)) (zR (n:=0) rfl (xv (iS u7.nd) (xv (iS u7.nd) (xv (iS u7.nd) (xv (iS u7.nd) zN))))) (zf (wc (XW.t (zQ (ya (k:=0) (vp hr.u64) wl (za 6 0) (za 3 0) (bg _)) (zM (ya (k:=0) (vp hr.u64) wl (iT (za 2 0) (za 5 0)) (iT (za 2 0) (za 3 0)) (bg _))))) (zf (wc (ya (k:=0) (vp hr.u64) wl (XO.sh (n:=0) (gE (iT (iT (za 1 0) (yj (k:=0) u4 vi (za 4 0) (za 8 0))) (za 5 0)) (za 7 0))) (iT (iT (za 1 0) (za 4 0)) (za 3 0)) (bg _)) (zf (zh (XE.ow (uq (n:=0))))) zl)) zl)) bW.never rfl)
  (zf (zh (XE.ow (uq (n:=0))))))
def ul:SF:=(sIf (bNot (tb (λρ=>((aCons (eV 0) (aCons (eV 1) (aCons (eV 5) (aCons (eV 10) (aCons (eV 6) aNil))))) ρ).bind λds=>jk (ds++[])))) (sRet (eC (.bl false))) sSkip)
def vn:SF:=(sFor (λρ=>((aCons (eN dH (aCons (eV 5) aNil)) aNil) ρ).bind gA) (gV 10) ul)
def M6:EF:=(cX (lsD (eV 0)) 1 [5] (gV 0) (tb (e2 oN (e2 di (eV 1) (e2 di (eV 0) (eC (.int 0)))) (e2 di (eV 1) (e2 di (eV 0) (eC (.int 1)))))) (eV 0))
def um:SF:=(sIf (tb (e2 (fV true) (eV 8) (e2 cz (eV 7) (eV 9)))) (sRet (eC (.bl false))) sSkip)
def vo:SF:=(sFor (λρ=>((aCons (e2 di (eV 1) (eV 6)) (aCons (e2 di (eV 1) (e2 cz (eV 6) (eV 2))) (aCons (eV 5) aNil))) ρ).bind rH) (gT (gsCons (gV 7) (gsCons (gV 8) (gsCons (gV 9) gsNil)))) um)
def M7:EF:=(cX (λρ=>((aCons (e2 di (eV 1) (eV 3)) (aCons (e2 di (eV 1) (e2 cz (eV 3) (eV 2))) aNil)) ρ).bind oz) 2 [] (gT (gsCons (gV 0) (gsCons (gV 1) gsNil))) dR (e2 gb (eV 1) (eV 0)))
def M8:EF:=(cX (lsD (eV 0)) 1 [] (gV 0) dR (e2 di (eV 0) (eC (.int 3))))
def wb:List D->Option D:=mOf ["_law_arrows","_law_rows","_law_count","_law_start","_law_back","_law_lengths","_law_when","_law_time","_law_behind","_law_length","_law_going"]
  (sSeq (sSet 4 (eN mM (aCons (e2 cz (λρ=>((aCons (eC (.int 1)) aNil) ρ).bind λds=>some (.lst ds)) M8) aNil)))
  (sSeq (sSet 5 M7)
  (sSeq (sFor (λρ=>((aCons (eV 3) (aCons (e2 cz (eV 3) (eV 4)) aNil)) ρ).bind iO) (gV 6) vo)
  (sSeq (sIf (tb (e2 (fV true) M6 (λρ=>(aNil ρ).bind λds=>some (.lst ds)))) (sRet (eC (.bl false))) sSkip)
  (sSeq (sFor (λρ=>((aCons (e2 cz (eV 3) (eV 4)) (aCons (e2 cz (e2 cz (eV 3) (eV 4)) (eV 2)) aNil)) ρ).bind iO) (gV 6) vn)
  (sRet (eC (.bl true))))))))
theorem Nj (T:Txt K mg a):cn P w K mg base eu 2 a.f_law_holds a.d_law_holds ["_law_arrows","_law_rows","_law_count","_law_start"] (fK K a.ct [0,0,0,0] 0 wb):=by
 have nu:=Vz (P:=P) (w:=w) (base:=base) T
 refine gW (ms:=[.ow 0,.ow 0,.ow 0,.ow 0,.ow 0,.ow 0,.ow 0,.ow 0,.ow 0,.ow 0,.ow 0]) T.law_holds.fn wm λ_ _ _ _ _ _ hr=>?_
 exact(ze (fC wm.nd (XE.ow (u0 (k:=0) (Ga rfl) Gq rfl T.b_max EQ (zc (XO.sh (n:=0) (gE (XO.sh (n:=0) (jy (k:=0) (yk (XE.ow cr) vd))) (XO.sh (n:=0) (j9 (N:=["_law_arrow_here"]) (om:=[.ow 0]) (cap:=[]) (own:=1) (vx (n:=0) (za 0 0)) (λ_ _ _ _ _=>(jK (show bu (["_law_arrow_here"]:List aL)from by decide +kernel))) (λ_ _ _ _ _=>wo) (λ_ _ _ _ _=>(XE.ow (iT (za 0 0) cr))))))) zg))))
  (ze (fC wm.nd (lZ (j9 (N:=["_law_time","_law_behind"]) (om:=[.ow 0,.ow 0]) (cap:=[]) (own:=2) (KG (n:=0) T.b_zip (zc (iT (za 1 0) (za 3 0)) (zc (iT (za 1 0) (XO.sh (n:=0) (gE (za 3 0) (za 2 0)))) zg))) (λ_ _ _ _ _=>(Gp (n:=1) rfl (u6 (jK (show bu (["_law_time","_law_behind"]:List aL)from by decide +kernel)) (u6 (jK (show bu (["_law_time","_law_behind"]:List aL)from by decide +kernel)) Gf)))) (λ_ _ _ _ _=>wo) (λ_ _ _ _ _=>(XE.ow (yj (k:=0) u4 vi (za 1 0) (za 0 0)))))))
  (ze (vv (je (n:=0) T.b_range (zc (za 3 0) (zc (XO.sh (n:=0) (gE (za 3 0) (za 4 0))) zg))) (iS wm.nd) (zf (vv (Y7 T.b_zip (zc (iT (za 1 0) (za 6 0)) (zc (iT (za 1 0) (XO.sh (n:=0) (gE (za 6 0) (za 2 0)))) (zc (za 5 0) zg)))) (zR (n:=1) rfl (xv (iS wm.nd) (xv (iS wm.nd) (xv (iS wm.nd) zN)))) (zf (wc (ya (k:=0) (yP hr.u64) wl (za 8 0) (XO.sh (n:=0) (gE (za 7 0) (za 9 0))) (bg _)) (zf (zh (XE.ow (uq (n:=0))))) zl)) bW.never rfl)) bW.never rfl)
  (ze (wc (ya (k:=0) (yP hr.u64) wl (XO.sh (n:=0) (j9 (N:=["_law_arrow_here","_law_lengths"]) (om:=[.ow 0]) (cap:=[5]) (own:=1) (vx (n:=0) (za 0 0)) (λ_ _ _ _ _=>(jK (show bu (["_law_arrow_here","_law_lengths"]:List aL)from by decide +kernel))) (λ_ _ _ _ _=>(EN (ya (k:=0) tQ tP (iT (za 1 0) (iT (za 0 0) cr)) (iT (za 1 0) (iT (za 0 0) cr)) (bg _)))) (λ_ _ _ _ _=>(XE.ow (za 0 0))))) (XO.sh (n:=0) (jy (k:=0) vd)) (bg _)) (zf (zh (XE.ow (uq (n:=0))))) zl)
  (ze (vv (je (n:=0) T.b_range (zc (XO.sh (n:=0) (gE (za 3 0) (za 4 0))) (zc (XO.sh (n:=0) (gE (XO.sh (n:=0) (gE (za 3 0) (za 4 0))) (za 2 0))) zg))) (iS wm.nd) (zf (vv (wy (n:=0) T.b_range (zc (kR T.b_len (zc (za 5 0) zg)) zg)) (iS wm.nd) (zf (wc (ua (wq (XO.sh (n:=0) (cC T.law_tight nu hr (zc (za 0 0) (zc (za 1 0) (zc (za 5 0) (zc (za 10 0) (zc (za 6 0) zg))))))))) (zf (zh (XE.ow (uq (n:=0))))) zl)) bW.never rfl)) bW.never rfl)
  (zf (zh (XE.ow (uq (n:=0))))))))))
def M0:EF:=(cX (lsD (e2 di (eV 0) (eC (.int 2)))) 1 [] (gV 0) dR (λρ=>((aCons (eV 0) aNil) ρ).bind λds=>jj (ds++[])))
def jw:List D->Option D:=mOf ["_law_found","_law_many"]
  (sSeq (sIf (bOr (bNot (tb (e1 (kh "tuple") (eV 0)))) (bOr (tb (e2 (fV true) (eN dH (aCons (eV 0) aNil)) (eC (.int 3)))) (bOr (bNot (tb (λρ=>((aCons (eSc (e2 di (eV 0) (eC (.int 0)))) aNil) ρ).bind λds=>jj (ds++[])))) (bNot (tb (λρ=>((aCons (eSc (e2 di (eV 0) (eC (.int 1)))) aNil) ρ).bind λds=>jj (ds++[]))))))) (sRet (eC (.bl false))) sSkip)
  (sSeq (sIf (bOr (bNot (tb (e1 (kh "list") (e2 di (eV 0) (eC (.int 2)))))) (tb (e2 (fV true) (eN dH (aCons (e2 di (eV 0) (eC (.int 2))) aNil)) (eV 1)))) (sRet (eC (.bl false))) sSkip)
  (sRet (eB (bAnd (tb (eN nY (aCons M0 aNil))) (bAnd (tb (e2 oN (eSc (e2 di (eV 0) (eC (.int 0)))) (eC (.int 0)))) (tb (e2 t4 (eSc (e2 di (eV 0) (eC (.int 1)))) (eC (.int 0))))))))))
theorem Vg (T:Txt K mg a):cn P w K mg base eu 2 a.f_law_formed a.d_law_formed ["_law_found","_law_many"] (fK K a.ct [2,0] 0 jw):=by
 have ir:=Vn (P:=P) (w:=w) (base:=base) T
 refine gW (ms:=[.al 2,.ow 0]) T.law_formed.fn Vb λ_ _ _ _ _ _ hr=>?_
 exact(ze (wc (XW.t (qw (ua (wq (uQ (k:=0) (by decide) T.b_isinstance T.b_tuple WU (za 0 2)))) (qw (ya (k:=0) (yP hr.u64) wl (kR T.b_len (zc (za 0 2) zg)) cr (bg _)) (qw (ua (wq (XO.sh (n:=0) (cC T.law_whole ir hr (zc (XO.sh (n:=0) (k:=0) (rG (jl (n:=2) ve vq (za 0 2) cr (λ_ _=>rfl)))) zg))))) (qq (ua (wq (XO.sh (n:=0) (cC T.law_whole ir hr (zc (XO.sh (n:=0) (k:=0) (rG (jl (n:=2) ve vq (za 0 2) cr (λ_ _=>rfl)))) zg)))))))))) (zf (zh (XE.ow (uq (n:=0))))) zl)
  (ze (wc (XW.t (qw (ua (wq (uQ (k:=0) (by decide) T.b_isinstance T.b_list q0 (jl (n:=2) ve vq (za 0 2) cr (λ_ _=>rfl))))) (qq (ya (k:=0) (yP hr.u64) wl (kR T.b_len (zc (jl (n:=2) ve vq (za 0 2) cr (λ_ _=>rfl)) zg)) (za 1 0) (bg _))))) (zf (zh (XE.ow (uq (n:=0))))) zl)
  (zf (zh (XE.ow (tO (u0 (k:=0) (Gb rfl) Gr rfl T.b_all GD (zc (XO.sh (n:=0) (j9 (N:=["_law_length"]) (om:=[.ow 0]) (cap:=[]) (own:=1) (vx (n:=1) (jl (n:=2) ve vq (za 0 2) cr (λ_ _=>rfl))) (λ_ _ _ _ _=>(jK (show bu (["_law_length"]:List aL)from by decide +kernel))) (λ_ _ _ _ _=>wo) (λ_ _ _ _ _=>(cC T.law_whole ir hr (zc (za 0 0) zg))))) zg)) (tO (jd (k:=0) tQ tP (XO.sh (n:=0) (k:=0) (rG (jl (n:=2) ve vq (za 0 2) cr (λ_ _=>rfl)))) cr (bg _)) (sg (k:=0) (jd (k:=0) GM GH (XO.sh (n:=0) (k:=0) (rG (jl (n:=2) ve vq (za 0 2) cr (λ_ _=>rfl)))) cr (bg _))))))))))
def qm:SF:=(sIf (tb (λρ=>((aCons (eV 0) (aCons (eV 1) (aCons (eV 8) (aCons (eV 5) aNil)))) ρ).bind λds=>wb (ds++[]))) (sRet (eC (.bl false))) sSkip)
def M9:EF:=(cX (λρ=>((aCons (e2 di (eV 1) (eV 5)) (aCons (e2 di (eV 1) (e2 cz (eV 5) (eV 4))) aNil)) ρ).bind oz) 2 [] (gT (gsCons (gV 0) (gsCons (gV 1) gsNil))) dR (e2 gb (eV 1) (eV 0)))
def Na:EF:=(cX (lsD (eV 0)) 1 [] (gV 0) dR (e2 di (eV 0) (eC (.int 3))))
def qo:List D->Option D:=mOf ["_law_arrows","_law_rows","_law_found","_law_most","_law_count","_law_start","_law_lengths","_law_back","_law_lesser"]
  (sSeq (sAsg (gT (gsCons (gS 4) (gsCons (gS 5) (gsCons (gV 6) gsNil)))) (eV 2))
  (sSeq (sSet 7 (eN mM (aCons (e2 cz (λρ=>((aCons (eC (.int 1)) aNil) ρ).bind λds=>some (.lst ds)) Na) aNil)))
  (sSeq (sIf (bOr (tb (e2 oN (e2 cz (e2 cz (eV 5) (eV 7)) (eV 4)) (eV 3))) (bNot (tb (λρ=>((aCons (eV 0) (aCons (eV 1) (aCons (eV 4) (aCons (eV 5) aNil)))) ρ).bind λds=>wb (ds++[]))))) (sRet (eC (.bl false))) sSkip)
  (sSeq (sIf (tb (e2 (fV true) (eV 6) M9)) (sRet (eC (.bl false))) sSkip)
  (sSeq (sFor (λρ=>((aCons (eC (.int 1)) (aCons (eV 4) aNil)) ρ).bind iO) (gV 8) qm)
  (sRet (eB (bOr (tb (e2 (fV false) (eV 5) (eC (.int 0)))) (tb (eB (bNot (tb (λρ=>((aCons (eV 0) (aCons (eV 1) (aCons (eV 4) (aCons (e2 gb (eV 5) (eC (.int 1))) aNil)))) ρ).bind λds=>wb (ds++[]))))))))))))))
theorem VA (T:Txt K mg a):cn P w K mg base eu 3 a.f_law_least a.d_law_least ["_law_arrows","_law_rows","_law_found","_law_most"] (fK K a.ct [0,0,2,0] 0 qo):=by
 have fv:=Nj (P:=P) (w:=w) (base:=base) T
 refine gW (ms:=[.ow 0,.ow 0,.al 2,.ow 0,.ow 0,.ow 0,.al 1,.ow 0,.ow 0]) T.law_least.fn ub λ_ _ _ _ _ _ hr=>?_
 exact(ze (Y4 (i:=2) rfl (zR (n:=2) rfl (xv (NV rfl ub.nd rfl (Or.inl rfl)) (xv (NV rfl ub.nd rfl (Or.inl rfl)) (xv (WX rfl ub.nd rfl (Or.inl rfl)) zN)))))
  (ze (fC ub.nd (XE.ow (u0 (k:=0) (Ga rfl) Gq rfl T.b_max EQ (zc (XO.sh (n:=0) (gE (XO.sh (n:=0) (jy (k:=0) (yk (XE.ow cr) vd))) (XO.sh (n:=0) (j9 (N:=["_law_arrow_here"]) (om:=[.ow 0]) (cap:=[]) (own:=1) (vx (n:=0) (za 0 0)) (λ_ _ _ _ _=>(jK (show bu (["_law_arrow_here"]:List aL)from by decide +kernel))) (λ_ _ _ _ _=>wo) (λ_ _ _ _ _=>(XE.ow (iT (za 0 0) cr))))))) zg))))
  (ze (wc (XW.t (qw (ya (k:=0) tQ tP (XO.sh (n:=0) (gE (XO.sh (n:=0) (gE (za 5 0) (za 7 0))) (za 4 0))) (za 3 0) (bg _)) (qq (ua (wq (XO.sh (n:=0) (cC T.law_holds fv hr (zc (za 0 0) (zc (za 1 0) (zc (za 4 0) (zc (za 5 0) zg))))))))))) (zf (zh (XE.ow (uq (n:=0))))) zl)
  (ze (wc (ya (k:=0) (yP hr.u64) wl (za 6 1) (XO.sh (n:=0) (j9 (N:=["_law_time","_law_behind"]) (om:=[.ow 0,.ow 0]) (cap:=[]) (own:=2) (KG (n:=0) T.b_zip (zc (iT (za 1 0) (za 5 0)) (zc (iT (za 1 0) (XO.sh (n:=0) (gE (za 5 0) (za 4 0)))) zg))) (λ_ _ _ _ _=>(Gp (n:=1) rfl (u6 (jK (show bu (["_law_time","_law_behind"]:List aL)from by decide +kernel)) (u6 (jK (show bu (["_law_time","_law_behind"]:List aL)from by decide +kernel)) Gf)))) (λ_ _ _ _ _=>wo) (λ_ _ _ _ _=>(XE.ow (yj (k:=0) u4 vi (za 1 0) (za 0 0)))))) (bg _)) (zf (zh (XE.ow (uq (n:=0))))) zl)
  (ze (vv (je (n:=0) T.b_range (zc cr (zc (za 4 0) zg))) (iS ub.nd) (zf (wc (wq (XO.sh (n:=0) (cC T.law_holds fv hr (zc (za 0 0) (zc (za 1 0) (zc (za 8 0) (zc (za 5 0) zg))))))) (zf (zh (XE.ow (uq (n:=0))))) zl)) bW.never rfl)
  (zf (zh (XE.ow (Pq (jd (k:=0) (vp hr.u64) wl (za 5 0) cr (bg _)) (sg (k:=0) (Pl (k:=0) (XO.sh (n:=0) (cC T.law_holds fv hr (zc (za 0 0) (zc (za 1 0) (zc (za 4 0) (zc (yj (k:=0) u4 vi (za 5 0) cr) zg)))))))))))))))))
def Kv:SF:=(sIf (tb (λρ=>((aCons (eV 4) (aCons (eV 11) (aCons (eV 12) (aCons (e2 gb (e2 gb (eV 8) (eV 6)) (eV 12)) aNil)))) ρ).bind λds=>wb (ds++[]))) (sRet (eC (.bl false))) sSkip)
def EO:EF:=(cX (lsD (eV 7)) 1 [] (gV 0) dR (eN iZ (aCons (eV 0) aNil)))
def OV:EF:=(cX (lsD (eV 4)) 1 [] (gV 0) dR (e2 di (eV 0) (eC (.int 3))))
def OW:EF:=(cX (lsD (eV 4)) 1 [] (gV 0) dR (λρ=>((aCons (eV 0) (aCons (e2 di (eV 0) (eC (.int 0))) aNil)) ρ).bind λds=>FZ (ds++[])))
def OX:EF:=(cX (λρ=>((aCons (eV 1) aNil) ρ).bind gA) 1 [] (gV 0) dR (e2 cz (eC (.str "a")) (eN pF (aCons (eV 0) aNil))))
def OY:EF:=(cX (λρ=>((aCons (eV 2) aNil) ρ).bind gA) 1 [0,1,3] (gV 0) dR (λρ=>((aCons (λρ=>((aCons (eV 1) (aCons (e2 cz (eC (.int 4)) (eV 0)) aNil)) ρ).bind λds=>yh (ds++[])) (aCons (eV 2) (aCons (eV 3) (aCons (eV 0) aNil)))) ρ).bind λds=>wp (ds++[])))
def GR:List D->Option D:=mOf ["_law_script","_law_many","_law_total","_law_turn","_law_arrows","_law_net","_law_back","_law_former","_law_most","_law_handed","_law_found","_law_rows","_law_count","_law_kept"]
  (sSeq (sSet 1 (e2 cz (eC (.int 1)) (e2 eh (λρ=>((aCons (eV 0) (aCons (eC (.int 0)) aNil)) ρ).bind λds=>yh (ds++[])) (eC (.int 6)))))
  (sSeq (sSet 2 (e2 cz (eV 1) (e2 eh (e2 fZ (λρ=>((aCons (eV 0) (aCons (eC (.int 0)) aNil)) ρ).bind λds=>yh (ds++[])) (eC (.int 6))) (eC (.int 11)))))
  (sSeq (sSet 3 (e2 fZ (λρ=>((aCons (eV 0) (aCons (eC (.int 0)) aNil)) ρ).bind λds=>yh (ds++[])) (eC (.int 66))))
  (sSeq (sSet 4 OY)
  (sSeq (sSet 5 (λρ=>((aCons OX (aCons OW aNil)) ρ).bind λds=>jr 4 (ds++[])))
  (sSeq (sSet 6 (eN mM (aCons (e2 cz (λρ=>((aCons (eC (.int 1)) aNil) ρ).bind λds=>some (.lst ds)) OV) aNil)))
  (sSeq (sSet 7 (λρ=>((aCons (eV 0) (aCons (eV 1) (aCons (eV 6) aNil))) ρ).bind λds=>ED (ds++[])))
  (sSeq (sSet 8 (e2 cz (eC (.int 1)) (e2 eh (λρ=>((aCons (eV 0) (aCons (eC (.int 1)) aNil)) ρ).bind λds=>yh (ds++[])) (e2 di (λρ=>((aCons (eC (.int 50)) (aCons (eC (.int 100)) aNil)) ρ).bind λds=>some (.lst ds)) (e2 eh (e2 fZ (λρ=>((aCons (eV 0) (aCons (eC (.int 1)) aNil)) ρ).bind λds=>yh (ds++[])) (eC (.int 200))) (eC (.int 2)))))))
  (sSeq (sSet 9 (eC .non))
  (sSeq (sIf (tb (e2 (nL true) (eV 7) (eC .non))) (sSet 9 EO) sSkip)
  (sSeq (sSet 10 (λρ=>((aCons (eV 5) (aCons (eV 8) (aCons (eV 9) aNil))) ρ).bind λds=>wn (ds++[])))
  (sSeq (sIf (tb (e2 (fV true) (eV 9) (eV 7))) (sRet (eC (.bl false))) sSkip)
  (sSeq (sSet 11 (λρ=>((aCons (eV 5) (aCons (eV 8) (aCons (eV 7) aNil))) ρ).bind λds=>uT (ds++[.non])))
  (sSeq (sIf (tb (e2 (nL false) (eV 10) (eC .non))) (sSeq (sFor (λρ=>((aCons (eC (.int 1)) (aCons (e2 cz (e2 gb (eV 8) (eV 6)) (eC (.int 1))) aNil)) ρ).bind iO) (gV 12) Kv)
  (sRet (e2 (nL false) (λρ=>((aCons (eV 5) (aCons (eV 8) (aCons (eV 7) aNil))) ρ).bind λds=>wn (ds++[])) (eC .non)))) sSkip)
  (sSeq (sIf (bOr (bNot (tb (λρ=>((aCons (eV 10) (aCons (eV 1) aNil)) ρ).bind λds=>jw (ds++[])))) (bNot (tb (λρ=>((aCons (eV 4) (aCons (eV 11) (aCons (eV 10) (aCons (eV 8) aNil)))) ρ).bind λds=>qo (ds++[]))))) (sRet (eC (.bl false))) sSkip)
  (sSeq (sSet 13 (λρ=>((aCons (eSc (e2 di (eV 10) (eC (.int 0)))) (aCons (eSc (e2 di (eV 10) (eC (.int 1)))) (aCons (eN iZ (aCons (e2 di (eV 10) (eC (.int 2))) aNil)) aNil))) ρ).bind λds=>some (.tup ds)))
  (sSeq (mQ 10 (eC (.int 2)))
  (sRet (e2 (fV false) (λρ=>((aCons (eV 5) (aCons (eV 8) aNil)) ρ).bind λds=>((aCons (eV 7) aNil) ρ).bind λzs=>wn (ds++zs)) (eV 13))))))))))))))))))))
theorem zsc (T:Txt K mg a):cn P w K mg base eu 6 a.f_law a.d_law ["_law_script"] (fK K a.ct [0] 0 GR):=by
 have dk:=MZ (P:=P) (w:=w) (base:=base) T
 have nr:=Vy (P:=P) (w:=w) (base:=base) T
 have mC:=Vd (P:=P) (w:=w) (base:=base) T
 have nV:=Vu (P:=P) (w:=w) (base:=base) T
 have pq:=Wa (P:=P) (w:=w) (base:=base) T
 have gw:=U6 (P:=P) (w:=w) (base:=base) T
 have pQ:=T.comes_again_d1.choose_spec
 have p4:=O5 (P:=P) (w:=w) (base:=base) T
 have jM:=T.run_d1.choose_spec
 have sj:=T.run_d2.choose_spec
 have fv:=Nj (P:=P) (w:=w) (base:=base) T
 have mE:=Vg (P:=P) (w:=w) (base:=base) T
 have nt:=VA (P:=P) (w:=w) (base:=base) T
 refine gW (ms:=[.ow 0,.ow 0,.ow 0,.ow 0,.ow 0,.ow 0,.ow 0,.ow 0,.ow 0,.ow 0,.ow 2,.ow 0,.ow 0,.ow 0]) T.law.fn jg λ_ _ _ _ _ _ hr=>?_
 exact(ze (fC jg.nd (lZ (gE cr (yj (k:=0) xu xw (XO.sh (n:=0) (cC T.law_cell_at dk hr (zc (za 0 0) (zc cr zg)))) cr))))
  (ze (fC jg.nd (lZ (gE (za 1 0) (yj (k:=0) xu xw (yj (k:=0) ue uf (XO.sh (n:=0) (cC T.law_cell_at dk hr (zc (za 0 0) (zc cr zg)))) cr) cr))))
  (ze (fC jg.nd (XE.ow (yj (k:=0) ue uf (XO.sh (n:=0) (cC T.law_cell_at dk hr (zc (za 0 0) (zc cr zg)))) cr)))
  (ze (ur (k:=0) (N:=["_law_k","_law_script","_law_many","_law_turn"]) (om:=[.ow 0]) (cap:=[0,1,3]) (own:=1) rfl jg.nd rfl (Or.inl rfl) (uP (by rfl)) rfl rfl (by decide) (XI.cc (wy (n:=0) T.b_range (zc (za 2 0) zg))) (λ_ _ _ _ _=>(jK (show bu (["_law_k","_law_script","_law_many","_law_turn"]:List aL)from by decide +kernel))) (λ_ _ _ _ _=>wo) (λ_ _ _ _ _=>(cC T.law_arrow nr hr (zc (XO.sh (n:=0) (cC T.law_cell_at dk hr (zc (za 1 0) (zc (XO.sh (n:=0) (gE cr (za 0 0))) zg)))) (zc (za 2 0) (zc (za 3 0) (zc (za 0 0) zg)))))))
  (ze (fC jg.nd (lZ (Gs (c0:=4) (jU:=[]) (ns:=[0,0]) (nd:=[]) ⟨T.Net.mks,T.Net___init.me.at_,T.Net___init.me.fn,T.Net.kp⟩ (by decide) mC (hr.mono (by decide)) rfl T.Net.mgx T.Net___init.bd .nil (λ_ _=>.nil) (zc (XO.sh (n:=0) (j9 (N:=["_law_k"]) (om:=[.ow 0]) (cap:=[]) (own:=1) (XI.cc (wy (n:=0) T.b_range (zc (za 1 0) zg))) (λ_ _ _ _ _=>(jK (show bu (["_law_k"]:List aL)from by decide +kernel))) (λ_ _ _ _ _=>wo) (λ_ _ _ _ _=>(lZ (gE (ER (n:=0)) (Wv (k:=0) U7 YX rfl T.b_str Pj (zc (za 0 0) zg))))))) (zc (XO.sh (n:=0) (j9 (N:=["_law_arrow_here"]) (om:=[.ow 0]) (cap:=[]) (own:=1) (vx (n:=0) (za 4 0)) (λ_ _ _ _ _=>(jK (show bu (["_law_arrow_here"]:List aL)from by decide +kernel))) (λ_ _ _ _ _=>wo) (λ_ _ _ _ _=>(cC T.law_made nV hr (zc (za 0 0) (zc (iT (za 0 0) cr) zg)))))) zg)))))
  (ze (fC jg.nd (XE.ow (u0 (k:=0) (Ga rfl) Gq rfl T.b_max EQ (zc (XO.sh (n:=0) (gE (XO.sh (n:=0) (jy (k:=0) (yk (XE.ow cr) vd))) (XO.sh (n:=0) (j9 (N:=["_law_arrow_here"]) (om:=[.ow 0]) (cap:=[]) (own:=1) (vx (n:=0) (za 4 0)) (λ_ _ _ _ _=>(jK (show bu (["_law_arrow_here"]:List aL)from by decide +kernel))) (λ_ _ _ _ _=>wo) (λ_ _ _ _ _=>(XE.ow (iT (za 0 0) cr))))))) zg))))
  (ze (fC jg.nd (cC T.law_was pq hr (zc (za 0 0) (zc (za 1 0) (zc (za 6 0) zg)))))
  (ze (fC jg.nd (lZ (gE cr (yj (k:=0) xu xw (XO.sh (n:=0) (cC T.law_cell_at dk hr (zc (za 0 0) (zc cr zg)))) (iT (XO.sh (n:=0) (jy (k:=0) (yk (XE.ow cr) (yk (XE.ow cr) vd)))) (yj (k:=0) xu xw (yj (k:=0) ue uf (XO.sh (n:=0) (cC T.law_cell_at dk hr (zc (za 0 0) (zc cr zg)))) cr) cr))))))
  (ze (fC jg.nd (XE.ow pG))
  (ze (wc (ya (k:=0) Xo Ww (za 7 0) pG (bg _)) (zf (ur (k:=0) (N:=["_law_row"]) (om:=[.ow 0]) (cap:=[]) (own:=1) rfl jg.nd rfl (Or.inl rfl) (uP (by rfl)) rfl rfl (by decide) (vx (n:=0) (za 7 0)) (λ_ _ _ _ _=>(jK (show bu (["_law_row"]:List aL)from by decide +kernel))) (λ_ _ _ _ _=>wo) (λ_ _ _ _ _=>(lZ (EB u5 (EG (n:=0) (by decide)) rfl T.b_list q0 (zc (za 0 0) zg)))))) zl)
  (ze (fC jg.nd (cC T.comes_again gw hr (zc (za 5 0) (zc (za 8 0) (zc (za 9 0) zg)))))
  (ze (wc (ya (k:=0) (yP hr.u64) wl (za 9 0) (za 7 0) (bg _)) (zf (zh (XE.ow (uq (n:=0))))) zl)
  (ze (fC jg.nd (KA (jU:=[.non]) (ns:=[0,0,0]) (nd:=[0]) p4 (hr.mono (by decide)) rfl T.run.mgx T.run.fn.kp (jM).2.2 (jM).2.1 (λ_ _=>(.cons (Al.of .non) .nil)) (zc (za 5 0) (zc (za 8 0) (zc (za 7 0) zg)))))
  (ze (wc (ya (k:=0) yS yR (za 10 2) pG (bg _)) (ze (vv (je (n:=0) T.b_range (zc cr (zc (XO.sh (n:=0) (gE (yj (k:=0) u4 vi (za 8 0) (za 6 0)) cr)) zg))) (iS jg.nd) (zf (wc (wq (XO.sh (n:=0) (cC T.law_holds fv hr (zc (za 4 0) (zc (za 11 0) (zc (za 12 0) (zc (yj (k:=0) u4 vi (yj (k:=0) u4 vi (za 8 0) (za 6 0)) (za 12 0)) zg))))))) (zf (zh (XE.ow (uq (n:=0))))) zl)) bW.never rfl)
  (zf (zh (XE.ow (jd (k:=0) yS yR (XO.sh (n:=0) (cC T.comes_again gw hr (zc (za 5 0) (zc (za 8 0) (zc (za 7 0) zg))))) pG (bg _)))))) zl)
  (ze (wc (XW.t (qw (ua (wq (XO.sh (n:=0) (cC T.law_formed mE hr (zc (za 10 2) (zc (za 1 0) zg)))))) (qq (ua (wq (XO.sh (n:=0) (cC T.law_least nt hr (zc (za 4 0) (zc (za 11 0) (zc (za 10 2) (zc (za 8 0) zg))))))))))) (zf (zh (XE.ow (uq (n:=0))))) zl)
  (ze (fC jg.nd (lZ (ES (yk (XE.ow (XO.sh (n:=0) (k:=0) (rG (jl (n:=2) ve vq (za 10 2) cr (λ_ _=>rfl))))) (yk (XE.ow (XO.sh (n:=0) (k:=0) (rG (jl (n:=2) ve vq (za 10 2) cr (λ_ _=>rfl))))) (yk (lZ (EB u5 (EG (n:=1) (by decide)) rfl T.b_list q0 (zc (jl (n:=2) ve vq (za 10 2) cr (λ_ _=>rfl)) zg))) vd))))))
  (ze (Xi 10 rfl cr (λ_ _=>rfl))
  (zf (zh (XE.ow (jd (k:=0) (vp hr.u64) wl (XO.sh (n:=0) (Xh (ns:=[0,0]) (nk:=[0]) (rv:=false) gw (hr.mono (by decide)) rfl T.comes_again.mgx T.comes_again.fn.kp T.kb_comes_again_was (zc (za 5 0) (zc (za 8 0) zg)) (Y3 (za 7 0) ZR))) (za 13 0) (bg _))))))))))))))))))))))
end
local macro_rules| `(tactic|walk_at "mir")=>`(tactic|simp -implicitDefEqProofs [eSc,D.sc,mOf,startD,sSeq,sIf,sSet,sRet,sRetN,sDrop,sPar,sAsg,sApp,sFor,lsD,zpm,sSkip,eV,eC,e1,e2,eN,aNil,aCons,pNo,pInt,zao,tb,zrx,bNot,bAnd,bOr,eB,eIf,gV,gT,gsCons,gsNil,zmg,zmi,zph,zpi,zpj,zpk,jq,zmk,zmj,zml,zpl,zrw,D.isN,D.isB,zb0,zry,zj9,j7,zds,zka,zme,zmf,zhp,zao,zkb,zkc,sFz,zmz,zm0, *])
def bx (n:Nat)(f:Nat->Int):List D:=(ak n).map λg=>D.int (f g)
theorem Gv (n:Nat)(f:Nat->Int):(bx n f).length=n:=by simp[bx]
theorem GI {n:Nat}(f:Nat->Int){g:Nat}(h:g<n):atI (bx n f) (g:Int)=some (.int (f g)):=by
 refine yM ?_
 simp[bx,h]
theorem YE {n:Nat}(f:Nat->Int){g:Nat}(h:g<n)(v:Int):lB (bx n f) (g:Int) (.int v)=some (bx n λx=>if x=g then v else f x):=by
 unfold lB
 have hx:ixN (bx n f).length (g:Int)=some g:=by
  unfold ixN
  rw[Gv]
  rw[if_pos (by omega),if_pos (by omega)]
  simp
 rw[hx]
 simp only[ce,Option.some.injEq]
 apply fu
 ·simp[bx]
 ·intro i h1 h2
  simp[bx,kE]
  by_cases hi:g=i
  ·subst hi;simp
  ·rw[if_neg hi,if_neg (λz=>hi z.symm)]
theorem OZ {i:Nat}{fj f:EF}{gi:Int->Int->Int}{ρ:L3.Env}{n g:Nat}{w:Nat->Int}{y:Int}(h1:(ρ[i]?).join=some (.lst (bx n w)))(h2:fj ρ=some (.int (g:Int)))(h3:f ρ=some (.int y))(hg:g<n) :
  nB i fj gi f ρ=some (.nx (ρ.set i (some (.lst (bx n λx=>if x=g then gi (w g) y else w x))))):=by
 unfold nB
 have:eV i ρ=some (.lst (bx n w)):=h1
 rw[this,h2,h3]
 simp only[ce,GI w hg,YE w hg]
def bC (p:List Nat):List D:=p.map λ(x:Nat)=>D.int (x:Int)
theorem uR {f:EF}{r:L3.Env}{n:Nat}(h:f r=some (.int (n:Int)))(hn:n<=1000000):((aCons f aNil) r).bind gA=some ((ak n).map λ(t:Nat)=>D.int (t:Int)):=by
 have e:(aCons f aNil) r=some [.int (n:Int)]:=by unfold aCons;rw[h];rfl
 rw[e,ce,EH (by omega) (by omega)]
 unfold eQ
 simp
theorem zK {α:Type}{fi:L3.Env->Option (List D)}{own:Nat}{cap:List Nat}{g:D->L3.Env->Option L3.Env}{p:BF}{f:EF}{r:L3.Env}(enc:α->D)(q:α->Bool)(h:α->D)(xs:List α)(hi:fi r=some (xs.map enc))(hl:xs.length<=16777216)
  (st:∀x∈xs,∃ρ1,g (enc x) (aI own none++dS r cap)=some ρ1/\p ρ1=some (q x)/\(q x=true->f ρ1=some (h x))):cX fi own cap g p f r=some (.lst ((xs.filter q).map h)):=by
 unfold cX
 rw[hi]
 simp only[ce,bj]
 rw[if_pos hl,NS enc q h xs st]
 rfl
theorem ON {n i:Nat}(h:i<n):ixN n (i:Int)=some i:=by
 unfold ixN
 rw[if_pos (by omega),if_pos (by omega)]
 simp
theorem xx {α:Type}{fi:L3.Env->Option (List D)}{own:Nat}{cap:List Nat}{g:D->L3.Env->Option L3.Env}{f:EF}{r:L3.Env}(enc:α->D)(h:α->D)(xs:List α)(hi:fi r=some (xs.map enc))(hl:xs.length<=16777216)
  (st:∀x∈xs,∃ρ1,g (enc x) (aI own none++dS r cap)=some ρ1/\f ρ1=some (h x)):cX fi own cap g dR f r=some (.lst (xs.map h)):=by
 have:=zK (p:=dR) enc (λ_=>true) h xs hi hl λx hx=>by
  obtain⟨ρ1,h1,h2⟩:=st x hx
  exact⟨ρ1,h1,rfl,λ_=>h2⟩
 rw[this,List.filter_eq_self.mpr λ_ _=>rfl]
theorem Ox {α:Type}(enc:α->D):∀(as:List α) (k:Nat),eX k (as.map enc)=(as.zipIdx k).map λ(p:α×Nat)=>D.tup [.int (p.2:Int),enc p.1]
 |[],_=>rfl
 |a::as,k=>by
  show _::eX (k+1) (as.map enc)=_::_
  rw[Ox enc as (k+1)]
theorem O6 {α:Type}{as:List α}{p:α×Nat}(h:p∈as.zipIdx):as[p.2]?=some p.1:=kT.mp h
theorem J9 {α:Type}(q:α->Bool):∀(as:List α) (k:Nat),((as.zipIdx k).filter λp=>q p.1).map (·.1)=as.filter q
 |[],_=>rfl
 |a::as,k=>by
  rw[kF,pX,pX]
  cases h:q a<;>simp[h,J9 q as (k+1)]
inductive Kd where
 |ride|wait|back
deriving DecidableEq
structure cy where
 c:Kd
 s:Nat
 g:Nat
 t:Int
 b:Nat
deriving DecidableEq
namespace Kahn
def cnt (W:List cy)(P:List Nat)(g:Nat):Nat:=W.countP λa=>decide (a.g=g/\a.s∉P)
structure Ok (W:List cy)(many:Nat)(p:List Nat):Prop where
 nd:p.Nodup
 lt:∀x∈p,x<many
 ord:∀(i x:Nat),p[i]?=some x->∀a∈W,a.g=x->a.s∈p.take i
theorem Ok.snoc {W:List cy}{many:Nat}{p:List Nat}{x:Nat}(h:Ok W many p)(hx:x∉p)(hl:x<many)(ho:∀a∈W,a.g=x->a.s∈p):Ok W many (p++[x]) where
 nd:=by
  rw[bv]
  exact⟨h.nd,by simp,λa ha b hb e=>by simp at hb;subst hb;subst e;exact hx ha⟩
 lt:=λy hy=>by
  rcases bz.mp hy with hy|hy
  ·exact h.lt y hy
  ·simp at hy;subst hy;exact hl
 ord:=λi y hy a ha e=>by
  by_cases hi:i<p.length
  ·rw[cv hi]at hy
   rw[fI (by omega)]
   exact h.ord i y hy a ha e
  ·rw[ek (by omega)]at hy
   have IJ:i-p.length=0:=by
    cases hq:i-p.length with
    |zero=>rfl
    |succ k=>rw[hq]at hy;simp at hy
   rw[IJ]at hy
   simp at hy
   subst hy
   have:i=p.length:=by omega
   rw[this,rJ]
   ·exact ho a ha e
   ·rfl
def stp (here:Nat)(S:(Nat->Int)×List Nat)(a:cy):(Nat->Int)×List Nat :=
 if a.s=here then
  let f':Nat->Int:=λx=>if x=a.g then S.1 a.g-1 else S.1 x
  (f',if f' a.g=0 then S.2++[a.g]else S.2)
 else S
structure In (W:List cy)(many:Nat)(P:List Nat)(here:Nat)(pre:List cy)(S:(Nat->Int)×List Nat):Prop where
 ok:Ok W many S.2
 f:∀g,S.1 g=(cnt W P g:Int)-(pre.countP λa=>decide (a.g=g/\a.s=here):Nat)
 z:∀g,g<many->(g∈S.2↔S.1 g=0)
 sub:∀x,(x∈P\/x=here)->x∈S.2
theorem zsd {W pre post:List cy}{P:List Nat}{here:Nat}{a:cy}(e:W=pre++a::post)(hP:here∉P)(ha:a.s=here):(pre.countP λx=>decide (x.g=a.g/\x.s=here))+1<=cnt W P a.g:=by
 unfold cnt
 rw[e,gj,fq]
 have h1:(pre.countP λx=>decide (x.g=a.g/\x.s=here))<=pre.countP λx=>decide (x.g=a.g/\x.s∉P):=by
  apply List.countP_mono_left
  intro x _ hx
  simp at hx ⊢
  exact⟨hx.1,by rw[hx.2];exact hP⟩
 have h2:(decide (a.g=a.g/\a.s∉P))=true:=by simp[ha,hP]
 rw[h2]
 simp only[if_true]
 omega
theorem In.step {W pre post:List cy}{many:Nat}{P:List Nat}{here:Nat}{a:cy}{S:(Nat->Int)×List Nat}(h:In W many P here pre S)(e:W=pre++a::post)(hP:here∉P)(hl:a.g<many):In W many P here (pre++[a]) (stp here S a):=by
 by_cases ha:a.s=here
 ·have Rx:=zsd e hP ha
  have hf:∀g,(if g=a.g then S.1 a.g-1 else S.1 g)=(cnt W P g:Int)-((pre++[a]).countP λx=>decide (x.g=g/\x.s=here):Nat):=λg=>by
   rw[gj,nE]
   by_cases hg:g=a.g
   ·subst hg
    rw[if_pos rfl,h.f]
    have:decide (a.g=a.g/\a.s=here)=true:=by simp[ha]
    rw[this]
    simp only[if_true]
    omega
   ·rw[if_neg hg,h.f]
    have:decide (a.g=g/\a.s=here)=false:=by simp;intro z;exact absurd z.symm hg
    rw[this]
    simp
  have mh:S.1 a.g≠0:=by rw[h.f];omega
  have Cr:a.g∉S.2:=λz=>mh ((h.z a.g hl).mp z)
  by_cases h0:S.1 a.g-1=0
  ·have es:stp here S a=(λx=>if x=a.g then S.1 a.g-1 else S.1 x,S.2++[a.g]):=by unfold stp;simp[ha,h0]
   rw[es]
   refine⟨h.ok.snoc Cr hl λb hb eb=>?_,hf,λg hg=>?_,λx hx=>bF _ (h.sub x hx)⟩
   ·
    refine h.sub _ (Classical.byContradiction λhc=>?_)
    have pA:b.s∉P:=λz=>hc (.inl z)
    have wW:b.s≠here:=λz=>hc (.inr z)
    have h1:cnt W P a.g=(pre.countP λx=>decide (x.g=a.g/\x.s=here))+1:=by
     have:=h.f a.g
     omega
    have h2:(W.countP λx=>decide (x.g=a.g/\x.s=here))+(W.countP λx=>decide (x.g=a.g/\x.s∉P/\x.s≠here))<=cnt W P a.g:=by
     have:cnt W P a.g=(W.countP λx=>decide (x.g=a.g/\x.s=here))+(W.countP λx=>decide (x.g=a.g/\x.s∉P/\x.s≠here)):=by
      unfold cnt
      clear h1 hc pA wW eb hb h0 hf Rx e h
      induction W with
      |nil=>rfl
      |cons x W ih=>
       simp only[fq]
       rw[ih]
       by_cases q1:x.g=a.g<;>by_cases q2:x.s=here<;>by_cases q3:x.s∈P<;>simp_all<;>omega
     omega
    have h3:(pre.countP λx=>decide (x.g=a.g/\x.s=here))+1<=W.countP λx=>decide (x.g=a.g/\x.s=here):=by
     rw[e,gj,fq]
     have:decide (a.g=a.g/\a.s=here)=true:=by simp[ha]
     rw[this]
     simp only[if_true]
     omega
    have h4:0<W.countP λx=>decide (x.g=a.g/\x.s∉P/\x.s≠here):=by
     rw[List.countP_pos_iff]
     exact⟨b,hb,by simp[eb,pA,wW]⟩
    omega
   ·rw[bz,br]
    by_cases oO:g=a.g
    ·subst oO;simp[h0]
    ·dsimp only;rw[if_neg oO,h.z g hg];simp[oO]
  ·have es:stp here S a=(λx=>if x=a.g then S.1 a.g-1 else S.1 x,S.2):=by unfold stp;simp[ha,h0]
   rw[es]
   refine⟨h.ok,hf,λg hg=>?_,h.sub⟩
   by_cases oO:g=a.g
   ·subst oO
    dsimp only
    rw[if_pos rfl]
    exact⟨λz=>absurd z Cr,λz=>absurd z h0⟩
   ·dsimp only;rw[if_neg oO];exact h.z g hg
 ·have:stp here S a=S:=by unfold stp;rw[if_neg ha]
  rw[this]
  refine⟨h.ok,λg=>?_,h.z,h.sub⟩
  rw[gj,nE]
  have:decide (a.g=g/\a.s=here)=false:=by simp[ha]
  rw[this,h.f]
  simp
theorem In.fold {W:List cy}{many:Nat}{P:List Nat}{here:Nat}(hP:here∉P)(hl:∀a∈W,a.g<many):∀(post pre:List cy) (S:(Nat->Int)×List Nat),W=pre++post->In W many P here pre S->In W many P here W (post.foldl (stp here) S)
 |[],pre,S,e,h=>by rw[e] ;simpa using(by rw[bT]at e;subst e;exact h)
 |a::post,pre,S,e,h=>by
  have:=In.fold hP hl post (pre++[a]) (stp here S a) (by rw[e];simp) (h.step e hP (hl a (by rw[e];simp)))
  exact this
theorem XQ {W:List cy}{P:List Nat}{here g:Nat}(hP:here∉P):(cnt W P g:Int)-(W.countP λa=>decide (a.g=g/\a.s=here):Nat)=cnt W (P++[here]) g:=by
 have:cnt W P g=(W.countP λa=>decide (a.g=g/\a.s=here))+cnt W (P++[here]) g:=by
  unfold cnt
  induction W with
  |nil=>rfl
  |cons x W ih=>
   simp only[fq]
   rw[ih]
   by_cases q1:x.g=g<;>by_cases q2:x.s=here<;>by_cases q3:x.s∈P<;>simp_all<;>omega
 omega
structure Wh (W:List cy)(many:Nat)(f:Nat->Int)(p:List Nat)(d:Nat):Prop where
 ok:Ok W many p
 dl:d<=p.length
 fe:∀g,f g=cnt W (p.take d) g
 z:∀g,g<many->(g∈p↔f g=0)
theorem Wh.step {W:List cy}{many:Nat}{f:Nat->Int}{p:List Nat}{d here:Nat}(h:Wh W many f p d)(hl:∀a∈W,a.g<many)(hh:p[d]?=some here) :
  Wh W many (W.foldl (stp here) (f,p)).1 (W.foldl (stp here) (f,p)).2 (d+1)/\∃q,(W.foldl (stp here) (f,p)).2=p++q:=by
 have hd:d<p.length:=(aX.mp hh).1
 have hP:here∉p.take d:=λz=>by
  obtain⟨i,hi,e⟩:=cR.mp z
  have IJ:i<d:=by rw[gM]at hi;omega
  rw[pI]at e
  have e2:p[d]=here:=by have:=aX.mp hh;exact this.2
  have:=(kD (xs:=p) (h₀:=by omega) (h₁:=hd) h.ok.nd).mp (e.trans e2.symm)
  omega
 have ID:∀(l:List cy) (S:(Nat->Int)×List Nat),∃q,(l.foldl (stp here) S).2=S.2++q:=by
  intro l
  induction l with
  |nil=>exactλS=>⟨[],by simp⟩
  |cons a l ih=>
   intro S
   obtain⟨q,hq⟩:=ih (stp here S a)
   have:∃r,(stp here S a).2=S.2++r:=by
    by_cases ha:a.s=here
    ·by_cases h0:S.1 a.g-1=0
     ·exact⟨[a.g],by unfold stp;simp[ha,h0]⟩
     ·exact⟨[],by unfold stp;simp[ha,h0]⟩
    ·exact⟨[],by unfold stp;simp[ha]⟩
   obtain⟨r,hr⟩:=this
   exact⟨r++q,by rw[dW,hq,hr,eS]⟩
 obtain⟨q,hq⟩:=ID W (f,p)
 have I:=In.fold hP hl W [] (f,p) rfl ⟨h.ok,λg=>by show f g=_;rw[h.fe];simp,h.z,λx hx=>by
  rcases hx with hx|rfl
  ·exact iL hx
  ·exact dw.mpr ⟨d,hh⟩⟩
 have Cy:(W.foldl (stp here) (f,p)).2.take (d+1)=p.take d++[here]:=by
  rw[hq]
  show(p++q).take (d+1)=_
  rw[fI (by omega),List.take_succ,hh]
  rfl
 refine⟨⟨I.ok,?_,λg=>?_,I.z⟩,q,hq⟩
 ·rw[hq]
  show d+1<=(p++q).length
  rw[bw];omega
 ·rw[I.f,Cy]
  exact XQ hP
theorem cnt_zero {W:List cy}{P:List Nat}{g:Nat}:cnt W P g=0↔∀a∈W,a.g=g->a.s∈P:=by
 unfold cnt
 rw[List.countP_eq_zero]
 constructor
 ·intro h a ha e
  have:=h a ha
  simp at this
  exact Classical.byContradiction λz=>z (this e)
 ·intro h a ha
  simp
  exact h a ha
theorem Wh.all {W:List cy}{many:Nat}{f:Nat->Int}{p:List Nat}(h:Wh W many f p p.length)(rank:Nat->Nat)(hr:∀a∈W,rank a.s<rank a.g)(hs:∀a∈W,a.s<many):∀g,g<many->g∈p:=by
 have:∀n g,rank g<n->g<many->g∈p:=by
  intro n
  induction n with
  |zero=>intro g h;omega
  |succ n ih=>
   intro g hg hl
   rw[h.z g hl,h.fe,List.take_length]
   have:cnt W p g=0:=cnt_zero.mpr λa ha e=>ih a.s (by have:=hr a ha;rw[e]at this;omega) (hs a ha)
   rw[this];rfl
 exactλg hl=>this (rank g+1) g (by omega) hl
theorem len_of {many:Nat}{p:List Nat}(nd:p.Nodup)(lt:∀x∈p,x<many)(all:∀g,g<many->g∈p):p.length=many:=by
 have h1:p.Perm (ak many):=by
  rw[lL nd gN]
  intro a
  rw[aA]
  exact⟨lt a,all a⟩
 simpa using h1.length_eq
theorem len_le {many:Nat}{p:List Nat}(nd:p.Nodup)(lt:∀x∈p,x<many):p.length<=many:=by
 have h1:(p++(ak many).filter λx=>decide (x∉p)).Perm (ak many):=by
  rw[lL (by
   rw[bv]
   refine⟨nd,gN.filter _,λa ha b hb e=>?_⟩
   subst e
   simp at hb
   exact hb.2 ha) gN]
  intro a
  rw[bz,aS,aA]
  constructor
  ·rintro(h|h)
   ·exact lt a h
   ·exact h.1
  ·intro h
   by_cases ha:a∈p
   ·exact .inl ha
   ·exact .inr ⟨h,by simpa using ha⟩
 have:=h1.length_eq
 rw[bw,aW]at this
 omega
end Kahn
def Kd.n:Kd->Nat
 |.ride=>1|.wait=>2|.back=>3
def bE (a:cy):D:=.obj a.c.n ["start","goal","time","behind"] [.int a.s,.int a.g,.int a.t,.int a.b]
theorem fs (a:cy):cZ [0,1,2,3] "start" (bE a)=some (.int a.s):=by obtain⟨c,_,_,_,_⟩:=a;cases c<;>rfl
theorem fg (a:cy):cZ [0,1,2,3] "goal" (bE a)=some (.int a.g):=by obtain⟨c,_,_,_,_⟩:=a;cases c<;>rfl
theorem ft (a:cy):cZ [0,1,2,3] "time" (bE a)=some (.int a.t):=by obtain⟨c,_,_,_,_⟩:=a;cases c<;>rfl
theorem fb (a:cy):cZ [0,1,2,3] "behind" (bE a)=some (.int a.b):=by obtain⟨c,_,_,_,_⟩:=a;cases c<;>rfl
structure Right (many:Nat)(a:cy):Prop where
 s:a.s<many
 g:a.g<many
 t0:0<=a.t
 t1:a.t<=1000000000
 b:a.b<=4
 r:a.c=.ride->a.b=0
 k:a.c=.back->1<=a.b
theorem zJ {n l m:Int}(h1:l<=n)(h2:n<=m):yg [.int n,.int l,.int m]=some (.bl true):=by
 unfold yg
 have q1 (i:Int):kh "int" (.int i)=some (.bl true):=rfl
 have q2 (i:Int):kh "bool" (.int i)=some (.bl false):=rfl
 walk_at "mir"
theorem isA (all sub:List Nat)(a:cy):qV all sub (bE a)=if all.contains a.c.n=true then some (.bl (sub.contains a.c.n))else none:=rfl
theorem YF {many:Nat}{a:cy}(h:Right many a):FX [bE a,.int (many:Int)]=some (.bl true):=by
 have w1:yg [.int (a.s:Int),.int 0,.int ((many:Int)-1)]=some (.bl true):=zJ (by omega) (by have:=h.s;omega)
 have w2:yg [.int (a.g:Int),.int 0,.int ((many:Int)-1)]=some (.bl true):=zJ (by omega) (by have:=h.g;omega)
 have w3:yg [.int a.t,.int 0,.int 1000000000]=some (.bl true):=zJ h.t0 h.t1
 have f1:=fs a
 have f2:=fg a
 have f3:=ft a
 have f4:=fb a
 have hi:=λall sub=>isA all sub a
 have hb:=h.b
 have hr:=h.r
 have hk:=h.k
 clear h
 unfold FX
 cases hc:a.c with
 |ride=>
  have w4:yg [.int (a.b:Int),.int 0,.int 0]=some (.bl true):=zJ (by omega) (by have:=hr hc;omega)
  rw[hc]at hi
  clear hr hk hb
  have hn:Kd.ride.n=1:=rfl
  walk_at "mir"
 |wait=>
  have w4:yg [.int (a.b:Int),.int 0,.int 4]=some (.bl true):=zJ (by omega) (by omega)
  rw[hc]at hi
  clear hr hk hb
  have hn:Kd.wait.n=2:=rfl
  walk_at "mir"
 |back=>
  have w4:yg [.int (a.b:Int),.int 1,.int 4]=some (.bl true):=zJ (by have:=hk hc;omega) (by omega)
  rw[hc]at hi
  clear hr hk hb
  have hn:Kd.back.n=3:=rfl
  walk_at "mir"
def W0 (as:List cy):List cy:=as.filter λa=>decide (a.b=0)
theorem zev (as:List cy)(l:as.length<=16777216)(r:L3.Env)(h:r[1]?.join=some (.lst (as.map bE))) :
  j5 r=some (.lst ((W0 as).map bE)):=by
 have e:lsD (eV 1) r=some (as.map bE):=by unfold lsD;have:eV 1 r=some (.lst (as.map bE)):=h;rw[this];rfl
 refine zK bE (λa=>decide (a.b=0)) bE as e l λa _=>⟨_,rfl,?_,λ_=>rfl⟩
 have:=fb a
 walk_at "mir"
def AO (s:(Nat->Int)×Option D)(a:cy):(Nat->Int)×Option D:=(λx=>if x=a.g then s.1 a.g+1 else s.1 x,some (bE a))
theorem Oy:∀(W:List cy) (s:(Nat->Int)×Option D) (g:Nat),(W.foldl AO s).1 g=s.1 g+(W.countP λa=>decide (a.g=g):Nat)
 |[],s,g=>by simp
 |a::W,s,g=>by
  rw[dW,Oy W,fq]
  by_cases hg:g=a.g
  ·subst hg;simp[AO];omega
  ·have:decide (a.g=g)=false:=by simp;exactλz=>hg z.symm
   simp[AO,hg,this]
theorem Kt (p:List Nat)(x:Nat):bC p++[D.int (x:Int)]=bC (p++[x]):=by simp[bC]
theorem YG {many:Nat}{as:List cy}{f:Nat->Int}{p:List Nat}{here d:Nat}{x4:Option D}(hm:many<=1000)(hW:∀a∈W0 as,a.s<many/\a.g<many)(h:Kahn.Wh (W0 as) many f p d)(hh:p[d]?=some here) :
  ∃x,eF (gV 4) wt ((W0 as).map bE) [some (.int (many:Int)),some (.lst (as.map bE)),some (.lst ((W0 as).map bE)),some (.lst (bx many f)),x4,some (.lst (bC p)),some (.int (d:Int)),some (.int (here:Int))] =
   some (.nx [some (.int (many:Int)),some (.lst (as.map bE)),some (.lst ((W0 as).map bE)),some (.lst (bx many ((W0 as).foldl (Kahn.stp here) (f,p)).1)),x,some (.lst (bC ((W0 as).foldl (Kahn.stp here) (f,p)).2)),some (.int (d:Int)),some (.int (here:Int))]):=by
 have hd:d<p.length:=(aX.mp hh).1
 have hP:here∉p.take d:=λz=>by
  obtain⟨i,hi,e⟩:=cR.mp z
  have IJ:i<d:=by rw[gM]at hi;omega
  rw[pI]at e
  have e2:p[d]=here:=(aX.mp hh).2
  have:=(kD (xs:=p) (h₀:=by omega) (h₁:=hd) h.ok.nd).mp (e.trans e2.symm)
  omega
 obtain⟨ρ',h1,x,pre,e1,e2⟩:=Gg (g:=gV 4) (b:=wt) (ds:=(W0 as).map bE) (ρ:=[some (.int (many:Int)),some (.lst (as.map bE)),some (.lst ((W0 as).map bE)),some (.lst (bx many f)),x4,some (.lst (bC p)),some (.int (d:Int)),some (.int (here:Int))])
  (λds ρ=>∃x pre,ds=pre.map bE/\(∃post,W0 as=pre++post)/\Kahn.In (W0 as) many (p.take d) here pre (pre.foldl (Kahn.stp here) (f,p))/\ρ=[some (.int (many:Int)),some (.lst (as.map bE)),some (.lst ((W0 as).map bE)),some (.lst (bx many (pre.foldl (Kahn.stp here) (f,p)).1)),x,some (.lst (bC (pre.foldl (Kahn.stp here) (f,p)).2)),some (.int (d:Int)),some (.int (here:Int))])
  ⟨x4,[],rfl,⟨_,rfl⟩,⟨h.ok,λg=>by show f g=_;rw[h.fe];simp,h.z,λx hx=>by
   rcases hx with hx|rfl
   ·exact iL hx
   ·exact dw.mpr ⟨d,hh⟩⟩,rfl⟩ (by
  rintro ds dd post ρ e ⟨x,pre,rfl,⟨iB,e'⟩,I,rfl⟩
  rw[e',rM]at e
  have e3:=mS e
  cases iB with
  |nil=>cases e3
  |cons a iB=>
   rw[bi]at e3
   cases e3
   have ha:a∈W0 as:=by rw[e'];simp
   have hl:=Kahn.len_le I.ok.nd I.ok.lt
   have I2:=I.step e' hP (hW a ha).2
   refine⟨_,_,rfl,.inl ?_,some (bE a),pre++[a],by simp,⟨iB,by rw[e'];simp⟩,by rw[jV];exact I2,rfl⟩
   rw[jV]
   generalize pre.foldl (Kahn.stp here) (f,p)=S at hl
   show wt _=some (.nx [_,_,_,some (.lst (bx many (Kahn.stp here S a).1)),_,some (.lst (bC (Kahn.stp here S a).2)),_,_])
   have f1:=fs a
   have f2:=fg a
   have eK:(bC S.2).length<16777216:=by simp[bC];omega
   unfold wt
   by_cases hs:a.s=here
   ·have sR:((a.s:Nat):Int)=(here:Int):=by rw[hs]
    have au:=OZ (i:=3) (fj:=e1 (cZ [0,1,2,3] "goal") (eV 4)) (f:=eC (.int 1)) (gi:=λi j=>i-j) (ρ:=[some (.int (many:Int)),some (.lst (as.map bE)),some (.lst ((W0 as).map bE)),some (.lst (bx many S.1)),some (bE a),some (.lst (bC S.2)),some (.int (d:Int)),some (.int (here:Int))]) (n:=many) (g:=a.g) (w:=S.1) (y:=1) rfl (by walk_at "mir") rfl (hW a ha).2
    have va:di (.lst (bx many λx=>if x=a.g then S.1 a.g-1 else S.1 x)) (.int (a.g:Int))=some (.int (S.1 a.g-1)):=by
     have:=GI (λx=>if x=a.g then S.1 a.g-1 else S.1 x) (hW a ha).2
     rw[if_pos rfl]at this
     exact this
    by_cases h0:S.1 a.g-1=0
    ·have es:Kahn.stp here S a=(λx=>if x=a.g then S.1 a.g-1 else S.1 x,S.2++[a.g]):=by unfold Kahn.stp;simp[hs,h0]
     rw[es,←Kt]
     rw[h0]at va
     clear I I2 e' es
     walk_at "mir"
    ·have es:Kahn.stp here S a=(λx=>if x=a.g then S.1 a.g-1 else S.1 x,S.2):=by unfold Kahn.stp;simp[hs,h0]
     rw[es]
     clear I I2 e' es
     walk_at "mir"
   ·have es:Kahn.stp here S a=S:=by unfold Kahn.stp;rw[if_neg hs]
    rw[es]
    have sR:¬((a.s:Nat):Int)=(here:Int):=by omega
    clear I I2 e' es
    walk_at "mir")
 obtain⟨⟨post,e2⟩,I,rfl⟩:=e2
 have:pre=W0 as:=by
  have:=congrArg iK e1
  rw[bj,bj]at this
  rw[e2,bw]at this
  have hp:post=[]:=fG (by omega)
  rw[e2,hp,bT]
 rw[this]at h1
 exact⟨x,h1⟩
theorem XR {many:Nat}(as:List cy)(l:as.length<=1000)(hm:many<=1000)(hs:∀a∈as,a.s<many/\a.g<many) :
  ∃(f:Nat->Int) (p:List Nat),wu [.int (many:Int),.lst (as.map bE)]=some (.lst (bC p))/\Kahn.Wh (W0 as) many f p p.length:=by
 have hW:∀a∈W0 as,a.s<many/\a.g<many:=λa ha=>hs a (aS.mp ha).1
 obtain⟨c1,_⟩:=Kf (g:=gV 4) (b:=uv) bE (λs:(Nat->Int)×Option D=>[some (.int (many:Int)),some (.lst (as.map bE)),some (.lst ((W0 as).map bE)),some (.lst (bx many s.1)),s.2,none,none,none])
  AO (λ_=>True) (W0 as) (λ_=>0,none) trivial (λs a ha _=>by
   refine⟨_,rfl,.inl ?_,trivial⟩
   unfold uv
   have f2:=fg a
   rw[OZ (n:=many) (g:=a.g) (w:=s.1) (y:=1) rfl (by walk_at "mir") rfl (hW a ha).2]
   rfl)
 have c2:=Oy (W0 as) (λ_=>0,none)
 generalize Rj:(W0 as).foldl AO (λ_=>0,none)=S0 at c1 c2
 obtain⟨f0,y4⟩:=S0
 dsimp only at c1 c2
 have RL:∀r:L3.Env,r[0]?.join=some (.int (many:Int))->r[3]?.join=some (.lst (bx many f0))->j4 r=some (.lst (bC ((ak many).filter λg=>decide (f0 g=0)))):=by
  intro r h0 h3
  refine zK (λ(t:Nat)=>D.int (t:Int)) (λg=>decide (f0 g=0)) (λ(t:Nat)=>D.int (t:Int)) (ak many) (uR h0 (by omega)) (by rw[aW];omega) ?_
  ·intro g hg
   refine⟨_,rfl,?_,λ_=>rfl⟩
   have hg:g<many:=aA.mp hg
   have hv:di (.lst (bx many f0)) (.int (g:Int))=some (.int (f0 g)):=GI f0 hg
   have hc:dS r [3]=[some (.lst (bx many f0))]:=by unfold dS;simp[h3]
   rw[hc]
   walk_at "mir"
 generalize hq:((ak many).filter λg=>decide (f0 g=0))=p0 at RL
 have w0:Kahn.Wh (W0 as) many f0 p0 0:=by
  have hf:∀g,f0 g=Kahn.cnt (W0 as) [] g:=λg=>by
   rw[c2 g]
   unfold Kahn.cnt
   simp
  refine⟨⟨by rw[←hq];exact gN.filter _,λx hx=>by rw[←hq,aS,aA]at hx;exact hx.1,λi x hx a ha e=>?_⟩,by omega,hf,λg hg=>by rw[←hq,aS,aA];simp[hg]⟩
  have LV:x∈p0:=dw.mpr ⟨i,hx⟩
  rw[←hq,aS]at LV
  have h0:f0 x=0:=by simpa using LV.2
  rw[hf]at h0
  have:=Kahn.cnt_zero.mp (by exact_mod_cast h0) a ha e
  cases this
 obtain⟨ρ',h1,⟨f,p,d,x4,x7,rfl,wh⟩,h3⟩:=Kc (c:=tb (e2 pW (eV 6) (eN dH (aCons (eV 5) aNil)))) (b:=uu)
  (λρ=>∃f p d x4 x7,ρ=[some (.int (many:Int)),some (.lst (as.map bE)),some (.lst ((W0 as).map bE)),some (.lst (bx many f)),x4,some (.lst (bC p)),some (.int ((d:Nat):Int)),x7]/\Kahn.Wh (W0 as) many f p d)
  (λρ:L3.Env=>match ρ[6]? with|some (some (D.int i))=>(1001-i).toNat|_=>0) (by
   rintro ρ ⟨f,p,d,x4,x7,rfl,wh⟩
   have hl:(bC p).length=p.length:=by simp[bC]
   refine⟨decide ((d:Int)<(p.length:Int)),by walk_at "mir",λht=>?_⟩
   have hd:d<p.length:=by simpa using ht
   have hh:p[d]?=some p[d]:=by simp[hd]
   obtain⟨x,mJ⟩:=YG (x4:=x4) hm hW wh hh
   obtain⟨EA,q,_⟩:=wh.step (λa ha=>(hW a ha).2) hh
   have n9:=Kahn.len_le EA.ok.nd EA.ok.lt
   have Cc:=EA.dl
   refine⟨_,.inl ?_,⟨_,_,d+1,x,some (.int (p[d]:Int)),rfl,EA⟩,?_⟩
   ·have RB:di (.lst (bC p)) (.int (d:Int))=some (.int (p[d]:Int)):=yM (by simp[bC,hd])
    have hau:i2 (λi j=>D.int (i+j)) (.int (d:Int)) (.int 1)=some (.int ((d+1:Nat):Int)):=by simp[i2]
    unfold uu rq
    clear wh EA n9 Cc
    walk_at "mir"
   ·show(1001-((d+1:Nat):Int)).toNat<(1001-(d:Int)).toNat
    omega) ni [some (.int (many:Int)),some (.lst (as.map bE)),some (.lst ((W0 as).map bE)),some (.lst (bx many f0)),y4,some (.lst (bC p0)),some (.int ((0:Nat):Int)),none] ⟨f0,p0,0,y4,none,rfl,w0⟩ (by
   show(1001-((0:Nat):Int)).toNat<ni
   have:(1001:Nat)<ni:=OG (by decide)
   omega)
 have hd:d=p.length:=by
  have hl:(bC p).length=p.length:=by simp[bC]
  have h4:(tb (e2 pW (eV 6) (eN dH (aCons (eV 5) aNil)))) [some (.int (many:Int)),some (.lst (as.map bE)),some (.lst ((W0 as).map bE)),some (.lst (bx many f)),x4,some (.lst (bC p)),some (.int (d:Int)),x7]=some (decide ((d:Int)<(p.length:Int))):=by walk_at "mir"
  rw[h4]at h3
  have:=wh.dl
  simp at h3
  omega
 subst hd
 refine⟨f,p,?_,wh⟩
 have r1:=zev as (by omega)
 have rp:lx (.lst [.int 0]) (.int (many:Int))=some (.lst (bx many λ_=>0)):=by
  unfold lx
  dsimp only
  rw[if_pos ⟨by omega,by omega,by simp⟩]
  congr 2
  unfold bx
  rw[kS,aW]
  simp
 rw[show(((0:Nat):Int))=0 from rfl]at h1
 unfold wu lA
 clear hs hW c2 Rj hq w0 wh h3 l hm
 walk_at "mir"
def bO (ns:List D)(as:List cy):D:=.obj 4 ["names","arrows"] [.lst ns,.lst (as.map bE)]
structure dX (many:Nat)(as:List cy):Prop where
 pos:1<=many
 le:many<=40
 len:as.length<=120
 right:∀a∈as,Right many a
 rank:∃rank:Nat->Nat,∀a∈as,a.b=0->rank a.s<rank a.g
theorem dX.placed {many:Nat}{as:List cy}(h:dX many as):∃p:List Nat,wu [.int (many:Int),.lst (as.map bE)]=some (.lst (bC p))/\Kahn.Ok (W0 as) many p/\p.length=many/\∀g,g<many->g∈p:=by
 obtain⟨f,p,h1,h2⟩:=XR (many:=many) as (by have:=h.len;omega) (by have:=h.le;omega) (λa ha=>⟨(h.right a ha).s,(h.right a ha).g⟩)
 obtain⟨rank,hr⟩:=h.rank
 have all:=h2.all rank (λa ha=>by
  have:=aS.mp ha
  exact hr a this.1 (by simpa using this.2)) (λa ha=>(h.right a (aS.mp ha).1).s)
 exact⟨p,h1,h2.ok,Kahn.len_of h2.ok.nd h2.ok.lt all,all⟩
theorem ztb {many:Nat}{as:List cy}{ns:List D}(h:dX many as)(hn:ns.length=many)(xD:qj [.lst ns]=some (.bl true)):jr 4 [.lst ns,.lst (as.map bE)]=some (bO ns as):=by
 obtain⟨p,hp,_,hl,_⟩:=h.placed
 have eK:=h.len
 obtain⟨ρ',h1,x3,x4,rfl⟩:=Gg (g:=gT (gsCons (gV 3) (gsCons (gV 4) gsNil))) (b:=jx) (ds:=eX 0 (as.map bE)) (ρ:=[some (.obj 4 [] []),some (.lst ns),some (.lst (as.map bE)),none,none,none])
  (λ_ ρ=>∃x3 x4,ρ=[some (.obj 4 [] []),some (.lst ns),some (.lst (as.map bE)),x3,x4,none]) ⟨none,none,rfl⟩ (by
   rintro pre d post ρ e ⟨x3,x4,rfl⟩
   obtain⟨x,hx,rfl⟩:=Ke (O3 e)
   rw[bI]at hx
   obtain⟨a,ha,rfl⟩:=dh.mp hx
   have hr:=YF (h.right a (dw.mpr ⟨_,ha⟩))
   refine⟨_,_,rfl,.inl ?_,some (.int (0+pre.length:Nat)),some (bE a),rfl⟩
   unfold jx
   rw[←hn]at hr
   clear hp hl hn eK h
   walk_at "mir")
 have hz:(bC p).length=many:=by simp[bC,hl]
 have hgt:¬((as.length:Int) > 120):=by omega
 rw[←hn]at hp hz
 have l1:∀ds:List D,iZ [.lst ds]=some (.lst ds):=λ_=>rfl
 have s1:jR [4] "names" (eN iZ (aCons (eV 1) aNil)) [some (D.obj 4 [] []),some (.lst ns),some (.lst (as.map bE)),x3,x4,some (.lst (bC p))]=some (.nx [some (D.obj 4 ["names"] [.lst ns]),some (.lst ns),some (.lst (as.map bE)),x3,x4,some (.lst (bC p))]):=rfl
 have s2:jR [4] "arrows" (eN iZ (aCons (eV 2) aNil)) [some (D.obj 4 ["names"] [.lst ns]),some (.lst ns),some (.lst (as.map bE)),x3,x4,some (.lst (bC p))]=some (.nx [some (bO ns as),some (.lst ns),some (.lst (as.map bE)),x3,x4,some (.lst (bC p))]):=rfl
 clear h eK hl hn
 unfold jr xJ
 walk_at "mir"
theorem Gy (ns:List Int)(i:Int)(hi:0<=i):∃c,yh [.lst (ns.map .int),.int i]=some (.int c):=by
 obtain⟨k,rfl⟩:∃k:Nat,i=k:=⟨i.toNat,by omega⟩
 unfold yh
 by_cases h:k<ns.length
 ·refine⟨ns[k],?_⟩
  have:di (.lst (ns.map .int)) (.int (k:Int))=some (.int ns[k]):=YV D.int (.inl rfl) (by simp[h])
  walk_at "mir"
 ·refine⟨0,?_⟩
  walk_at "mir"
def nz (c:Int):Bool:=decide (1237940039285380274899124224<=c)&&decide (c%2=1)
theorem Kw (c:Int):uc [.int c]=some (.bl (nz c)):=by
 unfold uc nz
 by_cases h1:(1237940039285380274899124224:Int)<=c<;>by_cases h2:c%2=1<;>walk_at "mir"
theorem YH (c:Int){k:Int}(h0:0<=k)(h1:k<=1000000):∃r:Nat,wa [.int c,.int k]=some (.int (r:Int))/\r<2147483648:=by
 have m0:gz (.int 31) (.int k)=some (.int (31*k)):=zds (by decide) (by decide)
 have s0:pD (.int c) (.int (1+31*k))=some (.int (c/2 ^ (1+31*k).toNat)):=zhp (by omega)
 have r0:=Kw c
 have fin:∀z:Int,∀m:Int,0<m->m<=2147483648->∃r:Nat,(some (D.int (z%m)):Option D)=some (.int (r:Int))/\r<2147483648:=λz m hm gZ=>by
  have a1:=lE z (by omega:m≠0)
  have a2:=pH z hm
  exact⟨(z%m).toNat,by rw[oU a1],by omega⟩
 generalize hn:(c+7919*k+1)*48271%2147483647=n1
 have b1:0<=n1/\n1<2147483647:=by omega
 have m1:gz (.int 7919) (.int k)=some (.int (7919*k)):=zds (by decide) (by decide)
 have m2:gz (.int (c+7919*k+1)) (.int 48271)=some (.int ((c+7919*k+1)*48271)):=zka (by decide) (by decide)
 have m3:gz (.int n1) (.int (n1/1009+69621))=some (.int (n1*(n1/1009+69621))):=zds (by omega) (by omega)
 generalize qN:n1*(n1/1009+69621)%2147483647=n2
 have b2:0<=n2/\n2<2147483647:=by omega
 have m4:gz (.int n2) (.int (n2/2003+39373+k))=some (.int (n2*(n2/2003+39373+k))):=zds (by omega) (by omega)
 unfold wa
 by_cases hr:nz c=true
 ·by_cases hs:c/2 ^ (1+31*k).toNat > 0
  ·obtain⟨r,e1,e2⟩:=fin (c/2 ^ (1+31*k).toNat) 2147483648 (by decide) (by decide)
   refine⟨r,?_,e2⟩
   rw[←e1]
   generalize c/2 ^ (1+31*k).toNat=q at s0 hs
   clear e1 e2 fin hn qN b1 b2 h0 h1
   walk_at "mir"
  ·obtain⟨r,e1,e2⟩:=fin (n2*(n2/2003+39373+k)) 2147483629 (by decide) (by decide)
   refine⟨r,?_,e2⟩
   rw[←e1]
   generalize c/2 ^ (1+31*k).toNat=q at s0 hs
   clear e1 e2 fin b1 b2 h0 h1
   walk_at "mir"
 ·obtain⟨r,e1,e2⟩:=fin (n2*(n2/2003+39373+k)) 2147483629 (by decide) (by decide)
  refine⟨r,?_,e2⟩
  rw[←e1]
  clear e1 e2 fin b1 b2 h0 h1 s0
  walk_at "mir"
theorem N5 (g:Nat):∀O:List Nat,g∈O->∃j:Nat,(bC O).findIdx? (λy=>rV y (.int (g:Int)))=some j
 |[],h=>by cases h
 |x::O,h=>by
  have hc:bC (x::O)=.int (x:Int)::bC O:=rfl
  rw[hc,jL]
  by_cases hx:x=g
  ·refine⟨0,?_⟩
   have:rV (.int (x:Int)) (.int (g:Int))=true:=by simp[rV,hx]
   rw[this];rfl
  ·have:rV (.int (x:Int)) (.int (g:Int))=false:=by simp[rV];omega
   rw[this]
   obtain⟨j,hj⟩:=N5 g O (by
    rcases aC.mp h with e|e
    ·exact absurd e.symm hx
    ·exact e)
   exact⟨j+1,by rw[hj];rfl⟩
theorem YI (O:List Nat):(bC O).all D.sc=true:=by
 rw[bp]
 intro d hd
 obtain⟨t,_,rfl⟩:=eA.mp hd
 rfl
def Jm (O:List Nat)(g:Nat):Nat:=((bC O).findIdx? (λy=>rV y (.int (g:Int)))).getD 0
theorem XU {g:Nat}{O:List Nat}(h:g∈O):qU (.lst (bC O)) (.int (g:Int))=some (.int (Jm O g:Int)):=by
 obtain⟨j,hj⟩:=N5 g O h
 unfold qU Jm
 dsimp only
 rw[if_pos ⟨rfl,YI O⟩,hj]
 rfl
def iz (c k:Int):Nat:=match wa [.int c,.int k]with
 |some (.int r)=>r.toNat
 |_=>0
theorem Gw (c:Int){k:Int}(h0:0<=k)(h1:k<=1000000):wa [.int c,.int k]=some (.int (iz c k:Int))/\iz c k<2147483648:=by
 obtain⟨r,h,hr⟩:=YH c h0 h1
 unfold iz
 rw[h]
 simpa using hr
def lh (bY:Int)(many:Nat):Nat->List Nat×List Nat
 |0=>([],ak many)
 |k+1=>
  let S:=lh bY many k
  let i:=iz bY (k:Int)%S.2.length
  (S.1++[S.2.getD i 0],S.2.eraseIdx i)
theorem NA {α:Type}:∀(l:List α) (i:Nat) (h:i<l.length),(l[i]::l.eraseIdx i).Perm l
 |[],_,h=>by simp at h
 |x::l,0,_=>by simp
 |x::l,i+1,h=>by
  have ih:=NA l i (by simpa using h)
  simp only[List.getElem_cons_succ,mT]
  exact(List.Perm.swap x _ _).trans (ih.cons x)
theorem KQ (bY:Int)(many:Nat):∀k,k<=many->(lh bY many k).2.length=many-k/\((lh bY many k).1++(lh bY many k).2).Perm (ak many)
 |0,_=>by simp[lh]
 |k+1,h=>by
  obtain⟨h1,h2⟩:=KQ bY many k (by omega)
  unfold lh
  dsimp only
  generalize lh bY many k=S at h1 h2
  have hi:iz bY (k:Int)%S.2.length<S.2.length:=lV _ (by omega)
  generalize iz bY (k:Int)%S.2.length=i at hi
  refine⟨by rw[List.length_eraseIdx_of_lt hi];omega,?_⟩
  have e:=NA S.2 i hi
  have hg:S.2.getD i 0=S.2[i]:=by simp[hi]
  rw[hg,eS]
  exact(List.Perm.append_left S.1 e).trans h2
theorem Nn:∀(L:List Nat) (i:Nat),(bC L).eraseIdx i=bC (L.eraseIdx i)
 |[],_=>rfl
 |_::_,0=>rfl
 |x::L,i+1=>by
  have ih:=Nn L i
  show D.int (x:Int)::(bC L).eraseIdx i=D.int (x:Int)::bC (L.eraseIdx i)
  rw[ih]
theorem XX (bY:Int){many:Nat}(h2:many<=1000)(g:Nat):∃x5:Option D,eF (gV 5) u8 (eQ 0 many) [some (.int bY),some (.int (many:Int)),some (.int (g:Int)),some (.lst []),some (.lst (eQ 0 many)),none] =
  some (.nx [some (.int bY),some (.int (many:Int)),some (.int (g:Int)),some (.lst (bC (lh bY many many).1)),some (.lst (bC (lh bY many many).2)),x5]):=by
 have hu:eQ 0 many=bC (ak many):=by simp[eQ,bC]
 obtain⟨ρ',h1,x5,rfl⟩:=Nu (g:=gV 5) (b:=u8) (lo:=0) (n:=many) (ρ:=[some (.int bY),some (.int (many:Int)),some (.int (g:Int)),some (.lst []),some (.lst (eQ 0 many)),none])
  (λk ρ=>∃x5,ρ=[some (.int bY),some (.int (many:Int)),some (.int (g:Int)),some (.lst (bC (lh bY many k).1)),some (.lst (bC (lh bY many k).2)),x5]) ⟨none,by rw[hu];rfl⟩ (by
   rintro k ρ hk ⟨x5,rfl⟩
   obtain⟨o1,o2⟩:=KQ bY many k (by omega)
   have o3:=o2.length_eq
   rw[bw,aW]at o3
   obtain⟨mx,mb⟩:=Gw bY (k:=0+(k:Int)) (by omega) (by omega)
   refine⟨_,_,rfl,.inl ?_,some (.int (0+(k:Int))),rfl⟩
   have e0:(0:Int)+(k:Int)=(k:Int):=by omega
   rw[e0]at mx ⊢
   show u8 [some (.int bY),some (.int (many:Int)),some (.int (g:Int)),some (.lst (bC (lh bY many k).1)),some (.lst (bC (lh bY many k).2)),some (.int (k:Int))]=some (.nx [some (.int bY),some (.int (many:Int)),some (.int (g:Int)),some (.lst (bC ((lh bY many k).1++[(lh bY many k).2.getD (iz bY (k:Int)%(lh bY many k).2.length) 0]))),some (.lst (bC ((lh bY many k).2.eraseIdx (iz bY (k:Int)%(lh bY many k).2.length)))),some (.int (k:Int))])
   generalize lh bY many k=S at o1 o3
   have hi:iz bY (k:Int)%S.2.length<S.2.length:=lV _ (by omega)
   have md:eh (.int (iz bY (k:Int):Int)) (.int ((bC S.2).length:Int))=some (.int ((iz bY (k:Int)%S.2.length:Nat):Int)):=by
    rw[j7 (by simp[bC];omega)]
    simp[bC]
   generalize iz bY (k:Int)%S.2.length=i at hi md
   have hg:S.2.getD i 0=S.2[i]:=by simp[hi]
   have l1:(bC S.1).length<16777216:=by simp[bC];omega
   have l2:(bC S.2).length<=16777216:=by simp[bC];omega
   have ix:ixN (bC S.2).length (i:Int)=some i:=ON (by simp[bC];exact hi)
   have gt:(bC S.2)[i]?=some (.int (S.2[i]:Int)):=by simp[bC,hi]
   have ev:eN dH (aCons (eV 4) aNil) [some (.int bY),some (.int (many:Int)),some (.int (g:Int)),some (.lst (bC S.1)),some (.lst (bC S.2)),some (.int (k:Int))]=some (.int ((bC S.2).length:Int)):=rfl
   have em:(aCons (eV 0) (aCons (eV 5) aNil) [some (.int bY),some (.int (many:Int)),some (.int (g:Int)),some (.lst (bC S.1)),some (.lst (bC S.2)),some (.int (k:Int))]).bind (λds=>wa (ds++[]))=some (.int (iz bY (k:Int):Int)):=mx
   have ee:e2 eh (λρ=>((aCons (eV 0) (aCons (eV 5) aNil)) ρ).bind λds=>wa (ds++[])) (eN dH (aCons (eV 4) aNil)) [some (.int bY),some (.int (many:Int)),some (.int (g:Int)),some (.lst (bC S.1)),some (.lst (bC S.2)),some (.int (k:Int))]=some (.int (i:Int)):=by
    unfold e2
    dsimp only
    rw[em,ev]
    exact md
   unfold u8 mP
   rw[ee]
   show(if(bC S.1).length<16777216/\(bC S.2).length<=16777216 then _ else _)=_
   rw[if_pos ⟨l1,l2⟩,ix]
   show((bC S.2)[i]?).bind _=_
   rw[gt,hg,←Kt,←Nn]
   rfl)
 exact⟨x5,h1⟩
theorem zse (bY:Int){many:Nat}(h1:1<=many)(h2:many<=1000):∃rk:Nat->Nat,∀g,g<many->ux [.int bY,.int (many:Int),.int (g:Int)]=some (.int (rk g:Int)):=by
 have hr:=Kw bY
 cases IX:nz bY with
 |false=>
  refine⟨λg=>(((g:Int)+bY)%(many:Int)).toNat,λg hg=>?_⟩
  have a1:=lE ((g:Int)+bY) (by omega:(many:Int)≠0)
  have a2:eh (.int ((g:Int)+bY)) (.int (many:Int))=some (.int (((g:Int)+bY)%(many:Int))):=j7 (by omega)
  rw[oU a1]
  unfold ux
  clear a1
  walk_at "mir"
 |true=>
  obtain⟨o1,o2⟩:=KQ bY many many (aE _)
  rw[Nat.sub_self]at o1
  have o3:(lh bY many many).2=[]:=fG o1
  rw[o3,bT]at o2
  refine⟨Jm (lh bY many many).1,λg hg=>?_⟩
  obtain⟨x5,lp⟩:=XX bY h2 g
  have ix:=XU (g:=g) (O:=(lh bY many many).1) (o2.mem_iff.mpr (aA.mpr hg))
  have lr:mm [.int (many:Int)]=some (.lst (eQ 0 many)):=by
   unfold mm
   dsimp only
   rw[if_pos ⟨by omega,by omega⟩]
   simp
  have r1:gA [.int (many:Int)]=some (eQ 0 many):=by
   rw[EH (by omega) (by omega)]
   simp
  unfold ux
  generalize lh bY many many=S at lp ix
  clear o1 o2 o3
  walk_at "mir"
def bV (a:cy):D:=.tup [.int a.s,.int a.g,.int a.t,.int a.b]
theorem VB (c many bY k n s g b:Int):∃t:Int,0<=t/\t<=1000000000/\uk [some (.int c),some (.int many),some (.int bY),some (.int k),some (.int n),some (.int s),some (.int g),some (.int b),none]=some (.rt (.tup [.int s,.int g,.int t,.int b])):=by
 obtain⟨m2,_⟩:=Gw c (k:=30) (by decide) (by decide)
 generalize iz c 30=u at m2
 have row:=Kw c
 unfold uk
 by_cases hr:nz c=true
 ·refine⟨(u:Int)%1000000001,by omega,by omega,?_⟩
  by_cases h3:c%4=3<;>walk_at "mir"
 ·by_cases h3:c%4=3
  ·refine⟨c/4%1000000001,by omega,by omega,?_⟩
   walk_at "mir"
  ·refine⟨n/1000%10,by omega,by omega,?_⟩
   walk_at "mir"
theorem YJ (c bY:Int)(k:Nat)(hk:k<=1000){many:Nat}(h1:1<=many)(h2:many<=1000)(rk:Nat->Nat)(zD:∀g,g<many->ux [.int bY,.int (many:Int),.int (g:Int)]=some (.int (rk g:Int))) :
  ∃a:cy,wp [.int c,.int (many:Int),.int bY,.int (k:Int)]=some (bV a)/\a.s<many/\a.g<many/\0<=a.t/\a.t<=1000000000/\a.b<=4/\(a.b=0->rk a.s<rk a.g)/\(k<many->a.g=k):=by
 obtain⟨m1,_⟩:=Gw c (k:=(k:Int)) (by omega) (by omega)
 generalize iz c (k:Int)=n at m1
 have hs:n%many<many:=lV _ (by omega)
 have e1:eh (.int (n:Int)) (.int (many:Int))=some (.int ((n%many:Nat):Int)):=by rw[j7 (by omega)];simp
 have e2:eh (.int ((n:Int)/8)) (.int (many:Int))=some (.int ((n/8%many:Nat):Int)):=by rw[j7 (by omega)];simp
 obtain⟨g0,hg,Fs,II⟩:∃g0:Nat,g0<many/\(k<many->g0=k)/\(¬k<many->g0=n/8%many):=by
  by_cases h:k<many
  ·exact⟨k,h,λ_=>rfl,λz=>absurd h z⟩
  ·exact⟨n/8%many,lV _ (by omega),λz=>absurd z h,λ_=>rfl⟩
 have k1:=zD _ hs
 have k2:=zD _ hg
 generalize n%many=s0 at *
 have fin:∀b:Nat,b<=4->(b=0->rk s0<rk g0)->(∀t:Int,uk [some (.int c),some (.int (many:Int)),some (.int bY),some (.int (k:Int)),some (.int (n:Int)),some (.int (s0:Int)),some (.int (g0:Int)),some (.int (b:Int)),none]=some (.rt (.tup [.int s0,.int g0,.int t,.int b]))->wp [.int c,.int (many:Int),.int bY,.int (k:Int)]=some (.tup [.int s0,.int g0,.int t,.int b])) ->
   ∃a:cy,wp [.int c,.int (many:Int),.int bY,.int (k:Int)]=some (bV a)/\a.s<many/\a.g<many/\0<=a.t/\a.t<=1000000000/\a.b<=4/\(a.b=0->rk a.s<rk a.g)/\(k<many->a.g=k):=by
  intro b hb sM h
  obtain⟨t,t0,t1,ht⟩:=VB c many bY k n s0 g0 b
  exact⟨⟨.wait,s0,g0,t,b⟩,h t ht,hs,hg,t0,t1,hb,sM,Fs⟩
 have eb:((n:Int)/64)%5=((n/64%5:Nat):Int):=by omega
 have Ls:(1:Int)+(n:Int)/320%2=((1+n/320%2:Nat):Int):=by omega
 have gl:(t4 (.int (k:Int)) (.int (many:Int))=some (.bl true)/\g0=n/8%many)\/(t4 (.int (k:Int)) (.int (many:Int))=some (.bl false)/\g0=k):=by
  by_cases h:k<many
  ·refine .inr ⟨?_,Fs h⟩
   show some (D.bl (decide ((k:Int) >= (many:Int))))=_
   rw[decide_eq_false (by omega)]
  ·refine .inl ⟨?_,II h⟩
   show some (D.bl (decide ((k:Int) >= (many:Int))))=_
   rw[decide_eq_true (by omega)]
 have go:∀(b t:Int),(∃q:Int,(n:Int)/64%5=q/\((q=0/\((rk s0:Int) >= (rk g0:Int)/\b=1+(n:Int)/320%2\/¬(rk s0:Int) >= (rk g0:Int)/\b=0))\/(¬q=0/\b=q)))->uk [some (.int c),some (.int (many:Int)),some (.int bY),some (.int (k:Int)),some (.int (n:Int)),some (.int (s0:Int)),some (.int (g0:Int)),some (.int b),none]=some (.rt (.tup [.int s0,.int g0,.int t,.int b]))->wp [.int c,.int (many:Int),.int bY,.int (k:Int)]=some (.tup [.int s0,.int g0,.int t,.int b]):=by
  rintro b t ⟨q,hq,hc⟩ ht
  unfold wp
  rcases gl with⟨gt,gg⟩|⟨gt,gg⟩
  ·rw[←gg]at e2
   clear Fs II gg hg hs zD fin eb Ls
   rcases hc with⟨h0,⟨h1,h2⟩|⟨h1,h2⟩⟩|⟨h0,h1⟩
   ·subst h0;subst h2;walk_at "mir"
   ·subst h0;subst h2;walk_at "mir"
   ·subst h1;walk_at "mir"
  ·subst gg
   clear Fs II hg hs zD fin eb Ls e2
   rcases hc with⟨h0,⟨h1,h2⟩|⟨h1,h2⟩⟩|⟨h0,h1⟩
   ·subst h0;subst h2;walk_at "mir"
   ·subst h0;subst h2;walk_at "mir"
   ·subst h1;walk_at "mir"
 by_cases q:n/64%5=0
 ·by_cases q2:rk g0<=rk s0
  ·refine fin (1+n/320%2) (by omega) (by omega) λt ht=>go _ t ⟨0,by omega,.inl ⟨rfl,.inl ⟨by omega,by omega⟩⟩⟩ ht
  ·refine fin 0 (by omega) (by omega) λt ht=>go _ t ⟨0,by omega,.inl ⟨rfl,.inr ⟨by omega,rfl⟩⟩⟩ ht
 ·refine fin (n/64%5) (by omega) (by omega) λt ht=>go _ t ⟨_,rfl,.inr ⟨by omega,by omega⟩⟩ ht
def ki (b:Nat)(kind:Int):Kd:=if b=0/\kind%2=0 then .ride else if 0<b/\kind%2=0 then .back else .wait
def rf (a:cy)(kind:Int):cy:={ a with c:=ki a.b kind }
theorem zsf (s g t:Int):qd 1 [.int s,.int g,.int t]=some (.obj 1 ["start","goal","time","behind"] [.int s,.int g,.int t,.int 0]):=rfl
theorem zsg (s g t b:Int):qf 2 [.int s,.int g,.int t,.int b]=some (.obj 2 ["start","goal","time","behind"] [.int s,.int g,.int t,.int b]):=rfl
theorem zsh (s g t b:Int):qh 3 [.int s,.int g,.int t,.int b]=some (.obj 3 ["start","goal","time","behind"] [.int s,.int g,.int t,.int b]):=rfl
theorem zsi (a:cy)(kind:Int):FZ [bV a,.int kind]=some (bE (rf a kind)):=by
 obtain⟨c,s,g,t,b⟩:=a
 have r1:=zsf
 have r2:=zsg
 have r3:=zsh
 unfold FZ bV rf bE
 dsimp only
 by_cases hb:b=0
 ·by_cases hk:kind%2=0
  ·subst hb
   have:ki 0 kind=.ride:=by unfold ki;rw[if_pos ⟨rfl,hk⟩]
   rw[this]
   have e:(((0:Nat)):Int)=0:=rfl
   have hn:Kd.ride.n=1:=rfl
   walk_at "mir"
  ·have:ki b kind=.wait:=by unfold ki;rw[if_neg (λz=>hk z.2),if_neg (λz=>hk z.2)]
   rw[this]
   have hn:Kd.wait.n=2:=rfl
   have B8:(b:Int)=0:=by omega
   walk_at "mir"
 ·have B8:¬(b:Int)=0:=by omega
  have wQ:0<b:=by omega
  by_cases hk:kind%2=0
  ·have:ki b kind=.back:=by unfold ki;rw[if_neg (λz=>hb z.1),if_pos ⟨by omega,hk⟩]
   rw[this]
   have hn:Kd.back.n=3:=rfl
   clear B8
   walk_at "mir"
  ·have:ki b kind=.wait:=by unfold ki;rw[if_neg (λz=>hk z.2),if_neg (λz=>hk z.2)]
   rw[this]
   have hn:Kd.wait.n=2:=rfl
   clear B8
   walk_at "mir"
def nm (n:Nat):List D:=(ak n).map λ(k:Nat)=>D.str ("a"++uC (k:Int))
def L7:Option D->Bool
 |some (.bl true)=>true
 |_=>false
theorem zsj {x:Option D}(h:L7 x=true):x=some (.bl true):=by
 unfold L7 at h
 split at h
 ·rfl
 ·cases h
theorem YK {n:Nat}(h1:1<=n)(h2:n<=8):qj [.lst (nm n)]=some (.bl true):=by
 have:n=1\/n=2\/n=3\/n=4\/n=5\/n=6\/n=7\/n=8:=by omega
 rcases this with rfl|rfl|rfl|rfl|rfl|rfl|rfl|rfl<;>exact zsj (by decide +kernel)
structure Drawn (many:Nat)(rk:Nat->Nat)(a:cy):Prop where
 s:a.s<many
 g:a.g<many
 t0:0<=a.t
 t1:a.t<=1000000000
 b:a.b<=4
 r:a.b=0->rk a.s<rk a.g
theorem Drawn.right {many:Nat}{rk:Nat->Nat}{a:cy}(h:Drawn many rk a)(kind:Int):Right many (rf a kind):=by
 refine⟨h.s,h.g,h.t0,h.t1,h.b,λz=>?_,λz=>?_⟩
 ·change ki a.b kind=.ride at z
  unfold ki at z
  split at z
  ·next q=>exact q.1
  ·split at z<;>cases z
 ·change ki a.b kind=.back at z
  unfold ki at z
  split at z
  ·cases z
  ·split at z
   ·next q=>exact q.1
   ·cases z
theorem zsk {many:Nat}{rk:Nat->Nat}{as:List cy}(k:cy->Int)(h1:1<=many)(h2:many<=8)(h3:as.length<=120)(h:∀a∈as,Drawn many rk a):dX many (as.map λa=>rf a (k a)):=by
 refine⟨h1,by omega,by rw[bj];exact h3,λb hb=>?_,rk,λb hb sM=>?_⟩
 ·obtain⟨a,ha,rfl⟩:=eA.mp hb
  exact(h a ha).right _
 ·obtain⟨a,ha,rfl⟩:=eA.mp hb
  exact(h a ha).r sM
abbrev T:=Option Int
def lt (m:Int):T->T
 |none=>none
 |some i=>some (i+m)
def mx:T->T->T
 |none,b=>b
 |a,none=>a
 |some i,some j=>some (if j > i then j else i)
theorem YL (o:T)(m:Int):Gu [fw o,.int m]=some (fw (lt m o)):=by
 unfold Gu
 cases o<;>simp only[fw,lt]<;>walk_at "mir"
theorem N6 (a b:T):EI [fw a,fw b]=some (fw (mx a b)):=by
 unfold EI
 cases a<;>cases b<;>simp only[fw,mx]<;>walk_at "mir"
theorem YM (a b:T):mx a b=mx b a:=by cases a<;>cases b<;>simp only[mx];congr 1;omega
theorem N2 {κ:Type}(h:κ×D->D):∀(ks:List κ) (ds:List D),ks.zip ((ks.zip ds).map h)=(ks.zip ds).map λp=>(p.1,h p)
 |[],_=>rfl
 |_::_,[]=>rfl
 |k::ks,d::ds=>by
  show(k,h (k,d))::ks.zip ((ks.zip ds).map h)=(k,h (k,d))::(ks.zip ds).map _
  rw[N2 h ks ds]
theorem XY {κ:Type}[DecidableEq κ]{ks:List κ}{ds:List D}(hl:ks.length=ds.length)(k k':κ)(d:D):iN (fz ks ds k d).1 (fz ks ds k d).2 k'=if k'=k then some d else iN ks ds k':=by
 unfold fz
 by_cases hc:ks.contains k=true
 ·rw[if_pos hc]
  unfold iN
  dsimp only
  rw[N2,List.find?_map]
  by_cases hk:k'=k
  ·subst hk
   rw[if_pos rfl]
   have hm:k'∈ks:=by simpa using hc
   have:∃p∈ks.zip ds,p.1=k':=by
    obtain⟨i,hi,e⟩:=cR.mp hm
    refine⟨(ks[i],ds[i]),?_,e⟩
    rw[cR]
    exact⟨i,by rw[fP];omega,by simp⟩
   obtain⟨p,hp,he⟩:=this
   cases hf:(ks.zip ds).find? ((λp:κ×D=>decide (p.1=k')) ∘ λp:κ×D=>(p.1,if p.1=k' then d else p.2))with
   |none=>
    rw[oW]at hf
    have:=hf p hp
    simp[he]at this
   |some q=>
    have hq:=rK hf
    simp at hq
    simp[hq]
  ·rw[if_neg hk]
   have:((λp:κ×D=>decide (p.1=k')) ∘ λp:κ×D=>(p.1,if p.1=k then d else p.2))=λp:κ×D=>decide (p.1=k'):=rfl
   rw[this]
   cases hf:(ks.zip ds).find? λp=>decide (p.1=k')with
   |none=>rfl
   |some q=>
    have hq:=rK hf
    simp at hq
    have mh:¬q.1=k:=λz=>hk (hq▸z)
    simp[mh]
 ·rw[if_neg hc]
  unfold iN
  dsimp only
  have hz:(ks++[k]).zip (ds++[d])=ks.zip ds++[(k,d)]:=by
   rw[rO hl];rfl
  rw[hz,List.find?_append]
  by_cases hk:k'=k
  ·subst hk
   rw[if_pos rfl]
   have hn:(ks.zip ds).find? (λp=>decide (p.1=k'))=none:=by
    rw[oW]
    intro p hp
    have hm:=(fQ (a:=p.1) (b:=p.2) hp).1
    have gZ:¬k'∈ks:=by simpa using hc
    simp
    intro z
    exact gZ (z▸hm)
   rw[hn]
   simp
  ·rw[if_neg hk]
   have:¬k=k':=λz=>hk z.symm
   cases hf:(ks.zip ds).find? (λp=>decide (p.1=k'))<;>simp[this]
theorem Zi {κ:Type}[DecidableEq κ]{ks:List κ}{ds:List D}(hl:ks.length=ds.length)(k:κ)(d:D):(fz ks ds k d).1.length=(fz ks ds k d).2.length/\(fz ks ds k d).1.length<=ks.length+1:=by
 unfold fz
 by_cases hc:ks.contains k=true
 ·rw[if_pos hc];simp;omega
 ·rw[if_neg hc];simp[hl]
abbrev Fl:=Nat×Nat×Int
def iX (q:Fl):D:=.tup [.int (q.1:Int),.int (q.2.1:Int),.int q.2.2]
def fl (fs:List Fl)(g r:Nat):T:=(fs.filter λq=>decide (q.1=g/\q.2.1=r)).foldl (λw q=>mx w (some q.2.2)) none
structure i9 (d:D)(n:Nat)(f:Nat->Nat->T):Prop where
 is:∃ks ds,d=.dT ks ds/\ks.length=ds.length/\ks.length<=n/\∀g r:Nat,iN ks ds [.inl (g:Int),.inl (r:Int)]=(f g r).map D.int
theorem i9.get {d:D}{n:Nat}{f:Nat->Nat->T}(h:i9 d n f)(g r:Nat):((lg d (.tup [.int (g:Int),.int (r:Int)])).bind λr=>some (r.getD .non))=some (fw (f g r)):=by
 obtain⟨ks,ds,rfl,h1,h2,h3⟩:=h.is
 show some ((iN ks ds [.inl (g:Int),.inl (r:Int)]).getD .non)=_
 rw[h3]
 cases f g r<;>rfl
theorem zsl (a:T)(t:Int):some (fw (mx a (some t)))=(mx a (some t)).map D.int:=by cases a<;>rfl
theorem O7 (fs:List Fl)(hl:fs.length<=1000):∃d,xg [.lst (fs.map iX)]=some d/\i9 d 1000 (fl fs):=by
 obtain⟨ρ',h1,d,x2,x3,x4,pre,e1,rfl,hd⟩:=Gg (g:=gT (gsCons (gV 2) (gsCons (gV 3) (gsCons (gV 4) gsNil)))) (b:=uw) (ds:=fs.map iX) (ρ:=[some (.lst (fs.map iX)),some (.dT [] []),none,none,none])
  (λds ρ=>∃d x2 x3 x4,∃pre:List Fl,ds=pre.map iX/\ρ=[some (.lst (fs.map iX)),some d,x2,x3,x4]/\i9 d pre.length (fl pre))
  ⟨_,none,none,none,[],rfl,rfl,⟨[],[],rfl,rfl,by simp,λ_ _=>rfl⟩⟩ (by
   rintro ds dd post ρ e ⟨d,x2,x3,x4,pre,rfl,rfl,hd⟩
   obtain⟨q,hq,rfl⟩:∃q,fs[pre.length]?=some q/\iX q=dd:=by
    have:=O3 e
    rw[bI,bj]at this
    exact dh.mp this
   have eK:pre.length<fs.length:=(aX.mp hq).1
   obtain⟨g,r,t⟩:=q
   have hg:=hd.get g r
   obtain⟨ks,ds,rfl,k1,k2,k3⟩:=hd.is
   have hm:=N6 (fl pre g r) (some t)
   have mY:ks.length<16777216:=by omega
   refine⟨_,_,rfl,.inl ?_,.dT (fz ks ds [.inl (g:Int),.inl (r:Int)] (fw (mx (fl pre g r) (some t)))).1 (fz ks ds [.inl (g:Int),.inl (r:Int)] (fw (mx (fl pre g r) (some t)))).2,some (.int (g:Int)),some (.int (r:Int)),some (.int t),pre++[(g,r,t)],by simp,rfl,?_⟩
   ·have hk:ml [.int (g:Int),.int (r:Int)]=some [.inl (g:Int),.inl (r:Int)]:=rfl
    have he:fw (some t)=.int t:=rfl
    rw[he]at hm
    unfold uw oS
    generalize fw (fl pre g r)=z at hg hm
    clear k1 k2 k3 e hq hd
    walk_at "mir"
   ·obtain⟨p1,p2⟩:=Zi k1 [.inl (g:Int),.inl (r:Int)] (fw (mx (fl pre g r) (some t)))
    refine⟨_,_,rfl,p1,by rw[bw,ip];omega,λg' r'=>?_⟩
    rw[XY k1]
    have hf:fl (pre++[(g,r,t)]) g' r'=if g=g'/\r=r' then mx (fl pre g' r') (some t)else fl pre g' r':=by
     unfold fl
     rw[List.filter_append,jV]
     by_cases hc:g=g'/\r=r'
     ·rw[if_pos hc];simp[hc]
     ·rw[if_neg hc]
      have:([(g,r,t)]:List Fl).filter (λq=>decide (q.1=g'/\q.2.1=r'))=[]:=by
       rw[hJ]
       intro q hq
       rw[br]at hq
       subst hq
       simpa using hc
      rw[this];rfl
    rw[hf]
    by_cases hc:g=g'/\r=r'
    ·obtain⟨rfl,rfl⟩:=hc
     rw[if_pos rfl,if_pos ⟨rfl,rfl⟩,zsl]
    ·rw[if_neg hc,if_neg ?_]
     ·exact k3 g' r'
     ·intro z
      simp at z
      exact hc ⟨by omega,by omega⟩)
 have:pre=fs:=by
  have hi:∀(a b:List Fl),a.map iX=b.map iX->a=b:=by
   intro a
   induction a with
   |nil=>intro b h;cases b with|nil=>rfl|cons _ _=>cases h
   |cons x a ih=>
    intro b h
    cases b with
    |nil=>cases h
    |cons y b=>
     simp only[bi,List.cons.injEq]at h
     obtain⟨h1,h2⟩:=h
     rw[ih b h2]
     obtain⟨x1,x2,x3⟩:=x
     obtain⟨y1,y2,y3⟩:=y
     simp[iX]at h1
     obtain⟨e1,e2,e3⟩:=h1
     have e1:x1=y1:=by omega
     have e2:x2=y2:=by omega
     rw[e1,e2,e3]
  exact(hi _ _ e1).symm
 subst this
 refine⟨d,?_,?_⟩
 ·unfold xg
  walk_at "mir"
 ·obtain⟨ks,ds,a,b,c,f⟩:=hd.is
  exact⟨ks,ds,a,b,by omega,f⟩
def eL (n:Nat)(f:Nat->T):List D:=(ak n).map λg=>fw (f g)
def bR (n m:Nat)(Y:Nat->Nat->T):List D:=(ak m).map λi=>D.lst (eL n (Y i))
theorem XZ (n:Nat)(f:Nat->T):(eL n f).length=n:=by simp[eL]
theorem Gd (n m:Nat)(Y:Nat->Nat->T):(bR n m Y).length=m:=by simp[bR]
theorem Zj {n:Nat}(f:Nat->T){g:Nat}(h:g<n):atI (eL n f) (g:Int)=some (fw (f g)):=yM (by simp[eL,h])
theorem j6 {n:Nat}{f f':Nat->T}(h:∀g,g<n->f g=f' g):eL n f=eL n f':=by
 unfold eL
 apply eD
 intro g hg
 rw[h g (aA.mp hg)]
theorem Vv {n m:Nat}{Y Y':Nat->Nat->T}(h:∀i,i<m->∀g,g<n->Y i g=Y' i g):bR n m Y=bR n m Y':=by
 unfold bR
 apply eD
 intro i hi
 rw[j6 (h i (aA.mp hi))]
theorem X0 {n:Nat}(f:Nat->T){g:Nat}(h:g<n)(v:T):lB (eL n f) (g:Int) (fw v)=some (eL n λx=>if x=g then v else f x):=by
 unfold lB
 have hx:ixN (eL n f).length (g:Int)=some g:=by rw[XZ];exact ON h
 rw[hx]
 simp only[ce,Option.some.injEq]
 apply fu
 ·simp[eL]
 ·intro i h1 h2
  simp[eL,kE]
  by_cases hi:g=i
  ·subst hi;simp
  ·rw[if_neg hi,if_neg (λz=>hi z.symm)]
def dep (as:List cy):Nat:=as.foldl (λm a=>max m a.b) 1
theorem Gh:∀(as:List cy) (m:Nat),m<=as.foldl (λm a=>max m a.b) m/\(∀a∈as,a.b<=as.foldl (λm a=>max m a.b) m)/\((∀a∈as,a.b<=4)->m<=4->as.foldl (λm a=>max m a.b) m<=4)
 |[],m=>⟨aE _,λa h=>(by cases h),λ_ h=>h⟩
 |x::as,m=>by
  obtain⟨h1,h2,h3⟩:=Gh as (max m x.b)
  refine⟨by show m<=as.foldl _ (max m x.b);omega,λa ha=>?_,λh4 hm=>h3 (λa ha=>h4 a (ao _ ha)) (by have:=h4 x ai;omega)⟩
  show a.b<=as.foldl _ (max m x.b)
  rcases aC.mp ha with rfl|ha
  ·omega
  ·exact h2 a ha
theorem zL (as:List cy):1<=dep as:=(Gh as 1).1
theorem se {as:List cy}{a:cy}(h:a∈as):a.b<=dep as:=(Gh as 1).2.1 a h
theorem zP {as:List cy}(h:∀a∈as,a.b<=4):dep as<=4:=(Gh as 1).2.2 h (by decide)
theorem Ku {α:Type}(f:α->Int):∀xs:List α,gG (xs.map λx=>D.int (f x))=some (xs.map f)
 |[]=>rfl
 |x::xs=>by
  show(gG (xs.map λx=>D.int (f x))).bind _=_
  rw[Ku f xs];rfl
theorem Kx:∀(as:List cy) (m:Nat),(as.map λa=>(a.b:Int)).foldl max (m:Int)=((as.foldl (λm a=>max m a.b) m:Nat):Int)
 |[],m=>rfl
 |x::as,m=>by
  show(as.map λa=>(a.b:Int)).foldl max (max (m:Int) (x.b:Int))=_
  rw[show max (m:Int) (x.b:Int)=((max m x.b:Nat):Int)by omega,Kx as]
  rfl
theorem qp (ns:List D)(as:List cy):cZ [4] "names" (bO ns as)=some (.lst ns):=rfl
theorem Kk (ns:List D)(as:List cy):cZ [4] "arrows" (bO ns as)=some (.lst (as.map bE)):=rfl
theorem zsm {ns:List D}{as:List cy}(hl:as.length<=1000):yu [bO ns as]=some (.int (dep as:Int)):=by
 have q:∀r:L3.Env,r[0]?.join=some (bO ns as)->ji r=some (.lst (as.map λa=>D.int (a.b:Int))):=λr hr=>by
  have e:lsD (e1 (cZ [4] "arrows") (eV 0)) r=some (as.map bE):=by
   have:eV 0 r=some (bO ns as):=hr
   unfold lsD e1
   rw[this];rfl
  exact xx bE (λa=>D.int (a.b:Int)) as e (by omega) λa _=>⟨_,rfl,by have:=fb a;walk_at "mir"⟩
 have m1:mM [.lst ([.int 1]++as.map λa=>D.int (a.b:Int))]=some (.int (dep as:Int)):=by
  unfold mM
  dsimp only
  have:gG ([.int 1]++as.map λa=>D.int (a.b:Int))=some (1::as.map λa=>(a.b:Int)):=by
   show(gG (as.map λa=>D.int (a.b:Int))).bind _=_
   rw[Ku];rfl
  rw[this]
  show some (D.int ((as.map λa=>(a.b:Int)).foldl max ((1:Nat):Int)))=_
  rw[Kx];rfl
 have m2:cz (.lst [.int 1]) (.lst (as.map λa=>D.int (a.b:Int)))=some (.lst ([.int 1]++as.map λa=>D.int (a.b:Int))):=Om (by simp;omega)
 generalize [D.int 1]++as.map (λa=>D.int (a.b:Int))=zs at m1 m2
 unfold yu
 clear hl
 walk_at "mir"
theorem Gx {m:aL}{f:List D->Option D}{ns:List D}{as:List cy}{ds:List D}(h:(["names","arrows"]:List aL).contains m=false):ig 4 m f (bO ns as) ds=f (bO ns as::ds):=by
 show(if 4=4/\(["names","arrows"]:List aL).contains m=false then f (bO ns as::ds)else none)=_
 rw[if_pos ⟨rfl,h⟩]
theorem EJ {ns:List D}{as:List cy}(hl:as.length<=1000):ig 4 "most_behind" yu (bO ns as) []=some (.int (dep as:Int)):=by
 rw[Gx (by decide +kernel)]
 exact zsm hl
def into (as:List cy)(g:Nat):List Nat:=(as.zipIdx.filter λp=>decide (p.1.g=g)).map (·.2)
theorem O8 {ns:List D}{as:List cy}(hl:as.length<=1000)(g:Nat):vk [bO ns as,.int (g:Int)]=some (.lst (bC (into as g))):=by
 have q:∀r:L3.Env,r[0]?.join=some (bO ns as)->r[1]?.join=some (.int (g:Int))->J6 r=some (.lst (bC (into as g))):=λr hr RN=>by
  have e:(λρ=>((aCons (e1 (cZ [4] "arrows") (eV 0)) aNil) ρ).bind λds=>match ds with|[.lst xs]=>some (eX 0 xs)|_=>none) r=some (as.zipIdx.map λp=>D.tup [.int (p.2:Int),bE p.1]):=by
   have:eV 0 r=some (bO ns as):=hr
   have e2:e1 (cZ [4] "arrows") (eV 0) r=some (.lst (as.map bE)):=by unfold e1;rw[this];rfl
   show((aCons (e1 (cZ [4] "arrows") (eV 0)) aNil) r).bind _=_
   unfold aCons
   rw[e2]
   show some (eX 0 (as.map bE))=_
   rw[Ox bE]
  have hc:dS r [1]=[some (.int (g:Int))]:=by unfold dS;simp[RN]
  have:=zK (own:=2) (cap:=[1]) (fi:=λρ=>((aCons (e1 (cZ [4] "arrows") (eV 0)) aNil) ρ).bind λds=>match ds with|[.lst xs]=>some (eX 0 xs)|_=>none) (g:=gT (gsCons (gV 0) (gsCons (gV 1) gsNil))) (p:=tb (e2 (fV false) (e1 (cZ [0,1,2,3] "goal") (eV 1)) (eV 2))) (f:=eV 0) (λp:cy×Nat=>D.tup [.int (p.2:Int),bE p.1]) (λp=>decide (p.1.g=g)) (λp=>D.int (p.2:Int)) as.zipIdx e (by simp;omega) (λp _=>by
    refine⟨_,rfl,?_,λ_=>rfl⟩
    rw[hc]
    have:=fg p.1
    have hd:decide ((p.1.g:Int)=(g:Int))=decide (p.1.g=g):=by
     by_cases h:p.1.g=g
     ·simp[h]
     ·have:¬(p.1.g:Int)=(g:Int):=by omega
      simp[h,this]
    rw[←hd]
    walk_at "mir")
  rw[show J6 r=_ from this]
  unfold into bC
  rw[cK]
  rfl
 unfold vk
 clear hl
 walk_at "mir"
def tm (as:List cy)(Y:Nat->Nat->T)(L g:Nat)(w:T):T:=(as.filter λa=>decide (a.g=g)).foldl (λw a=>mx w (lt a.t (Y (L-a.b) a.s))) w
theorem X1 {xs:List D}{n b:Nat}(hn:xs.length=n+1)(hb:b<=n):atI xs (-1-(b:Int))=xs[n-b]?:=by
 unfold atI
 have:ixN xs.length (-1-(b:Int))=some (n-b):=by
  unfold ixN
  rw[if_neg (by omega),if_pos (by omega)]
  congr 1
  omega
 rw[this];rfl
def FO (Y:Nat->Nat->T)(L:Nat)(s:T×Option D×Option D)(p:cy×Nat):T×Option D×Option D:=(mx s.1 (lt p.1.t (Y (L-p.1.b) p.1.s)),some (D.int (p.2:Int)),some (bE p.1))
theorem zsn {ns:List D}{as:List cy}{many L:Nat}{Y:Nat->Nat->T}(hb:∀a∈as,a.b<=L/\a.s<many)(g:Nat)(w:T) :
  vg [bO ns as,.lst (bR many (L+1) Y),.lst (bC (into as g)),fw w]=some (fw (tm as Y L g w)):=by
 have Fw:∀p∈as.zipIdx.filter (λp=>decide (p.1.g=g)),p∈as.zipIdx:=λp hp=>(aS.mp hp).1
 have hz:=J9 (λa:cy=>decide (a.g=g)) as 0
 have hn:bC (into as g)=(as.zipIdx.filter (λp=>decide (p.1.g=g))).map λp=>D.int (p.2:Int):=by unfold into bC;rw[cK];rfl
 generalize hq:as.zipIdx.filter (λp=>decide (p.1.g=g))=ps at Fw hn hz
 obtain⟨e1,_⟩:=Kf (g:=gV 5) (b:=vt) (λp:cy×Nat=>D.int (p.2:Int)) (λs:T×Option D×Option D=>[some (bO ns as),some (.lst (bR many (L+1) Y)),some (.lst (bC (into as g))),some (fw w),some (fw s.1),s.2.1,s.2.2])
  (FO Y L) (λ_=>True) ps (w,none,none) trivial (λs p hp _=>by
   refine⟨_,rfl,.inl ?_,trivial⟩
   unfold FO
   have hp:=O6 (Fw p hp)
   have hm:p.1∈as:=dw.mpr ⟨_,hp⟩
   have f1:=fs p.1
   have f2:=ft p.1
   have f3:=fb p.1
   have f4:=Kk ns as
   have i1:di (.lst (as.map bE)) (.int (p.2:Int))=some (bE p.1):=yM (by rw[bI,hp];rfl)
   have i2:di (.lst (bR many (L+1) Y)) (.int (-1-(p.1.b:Int)))=some (.lst (eL many (Y (L-p.1.b)))):=by
    show atI _ _=_
    rw[X1 (n:=L) (by rw[Gd]) (hb p.1 hm).1]
    unfold bR
    rw[bI,dL (by omega)]
    rfl
   have i3:di (.lst (eL many (Y (L-p.1.b)))) (.int (p.1.s:Int))=some (fw (Y (L-p.1.b) p.1.s)):=Zj _ (hb p.1 hm).2
   have l1:=YL (Y (L-p.1.b) p.1.s) p.1.t
   have l2:=N6 s.1 (lt p.1.t (Y (L-p.1.b) p.1.s))
   unfold vt
   clear hp hm hb hn hz Fw hq
   walk_at "mir")
 have e2:∀(ps:List (cy×Nat)) (s:T×Option D×Option D),(ps.foldl (FO Y L) s).1=(ps.map (·.1)).foldl (λw a=>mx w (lt a.t (Y (L-a.b) a.s))) s.1:=by
  intro ps
  induction ps with
  |nil=>exactλs=>rfl
  |cons p ps ih=>intro s;rw[dW,ih];rfl
 have e3:=e2 ps (w,none,none)
 rw[hz]at e3
 generalize ps.foldl (FO Y L) (w,none,none)=S at e1 e3
 have e4:S.1=tm as Y L g w:=e3
 rw[e4,←hn]at e1
 unfold vg
 clear hn hz Fw hq e2 e3 e4 hb
 walk_at "mir"
def wr (Y:Nat->Nat->T)(L:Nat)(Z:Nat->T):Nat->Nat->T:=λi g=>if i=L then Z g else Y i g
theorem N7 {as:List cy}{Y Y':Nat->Nat->T}{L g:Nat}(w:T)(h:∀a∈as,a.g=g->Y (L-a.b) a.s=Y' (L-a.b) a.s):tm as Y L g w=tm as Y' L g w:=by
 unfold tm
 have h2:∀a∈as.filter (λa=>decide (a.g=g)),Y (L-a.b) a.s=Y' (L-a.b) a.s:=λa ha=>by
  have:=aS.mp ha
  exact h a this.1 (by simpa using this.2)
 generalize as.filter (λa=>decide (a.g=g))=bs at h2
 induction bs generalizing w with
 |nil=>rfl
 |cons b bs ih=>
  rw[dW,dW,h2 b ai]
  exact ih _ λa ha=>h2 a (ao _ ha)
theorem X2 {many L x:Nat}{Y:Nat->Nat->T}(hx:x<many)(v:T):(bR many (L+1) Y).set L (.lst (eL many λy=>if y=x then v else Y L y))=bR many (L+1) (wr Y L λy=>if y=x then v else Y L y):=by
 apply fu
 ·simp[bR]
 ·intro i h1 h2
  have hi:i<L+1:=by simpa[bR]using h2
  rw[kE]
  by_cases hL:L=i
  ·subst hL
   rw[if_pos rfl]
   simp only[bR,gL,eI]
   congr 1
   exact j6 λg _=>by simp[wr]
  ·rw[if_neg hL]
   have:¬i=L:=λz=>hL z.symm
   simp only[bR,gL,eI]
   congr 1
   exact j6 λg _=>by simp[wr,this]
theorem ztc {ns:List D}{as:List cy}{many L r depth rounds:Nat}{Y:Nat->Nat->T}{f:Nat->Nat->T}{d:D}{n:Nat}{iQ mX x9 x10:Option D}{p:List Nat}(hd:i9 d n f)(hb:∀a∈as,a.b<=L/\a.s<many)(ok:Kahn.Ok (W0 as) many p)(hn:ns.length=many)(hm:many<=1000)
  (lS:D) (li:∀g,g<many->di lS (.int (g:Int))=some (.lst (bC (into as g)))) :
  ∃(Z:Nat->T) (y9 gc:Option D),eF (gV 9) vh (bC p) [some (bO ns as),some (.int (rounds:Int)),iQ,mX,some (.lst (bR many (L+1) Y)),some d,some lS,some (.lst (bC p)),some (.int (r:Int)),x9,x10] =
   some (.nx [some (bO ns as),some (.int (rounds:Int)),iQ,mX,some (.lst (bR many (L+1) (wr Y L Z))),some d,some lS,some (.lst (bC p)),some (.int (r:Int)),y9,gc])/\∀g∈p,Z g=tm as (wr Y L Z) L g (f g r):=by
 obtain⟨ρ',h1,pre,Z,y9,gc,e1,⟨post,e2⟩,hZ,rfl⟩:=Gg (g:=gV 9) (b:=vh) (ds:=bC p) (ρ:=[some (bO ns as),some (.int (rounds:Int)),iQ,mX,some (.lst (bR many (L+1) Y)),some d,some lS,some (.lst (bC p)),some (.int (r:Int)),x9,x10])
  (λds ρ=>∃(pre:List Nat) (Z:Nat->T) (y9 gc:Option D),ds=bC pre/\(∃post,p=pre++post)/\(∀g∈pre,Z g=tm as (wr Y L Z) L g (f g r))/\ρ=[some (bO ns as),some (.int (rounds:Int)),iQ,mX,some (.lst (bR many (L+1) (wr Y L Z))),some d,some lS,some (.lst (bC p)),some (.int (r:Int)),y9,gc])
  ⟨[],Y L,x9,x10,rfl,⟨p,rfl⟩,λg hg=>(by cases hg),by
   have:wr Y L (Y L)=Y:=by
    funext i g
    unfold wr
    by_cases h:i=L
    ·rw[if_pos h,h]
    ·rw[if_neg h]
   rw[this]⟩ (by
  rintro ds dd post ρ e ⟨pre,Z,y9,gc,rfl,⟨iB,e'⟩,hZ,rfl⟩
  have e3:bC iB=dd::post:=by
   have:bC p=bC pre++bC iB:=by rw[e'];simp[bC]
   rw[this]at e
   exact mS e
  cases iB with
  |nil=>cases e3
  |cons x iB=>
   have sN:dd=.int (x:Int):=by
    have:bC (x::iB)=.int (x:Int)::bC iB:=rfl
    rw[this]at e3
    cases e3
    rfl
   subst sN
   have hx:x∈p:=by rw[e'];simp
   have Jf:=ok.lt x hx
   have oa:p[pre.length]?=some x:=by rw[e'];simp
   have qQ:∀a∈as,a.b=0->a.g=x->a.s∈pre:=λa ha h0 hg=>by
    have:=ok.ord pre.length x oa a (aS.mpr ⟨ha,by simpa using h0⟩) hg
    rw[e',rJ]at this
    ·exact this
    ·rfl
   have Fu:x∉pre:=λz=>by
    have:=ok.nd
    rw[e',bv]at this
    exact this.2.2 x z x ai rfl
   have qI:∀g∈pre,∀a∈as,a.b=0->a.g=g->a.s≠x:=λg hg a ha h0 lJ z=>by
    obtain⟨i,hi,ei⟩:=cR.mp hg
    have zB:p[i]?=some g:=by rw[e',cv hi];simp[hi,ei]
    have:=ok.ord i g zB a (aS.mpr ⟨ha,by simpa using h0⟩) lJ
    rw[e',fI (by omega)]at this
    exact Fu (z▸iL this)
   have Ry:=hd.get x r
   have RI:=li x Jf
   have Cz:=zsn (ns:=ns) (Y:=wr Y L Z) hb x (f x r)
   have key:∀g,(∀a∈as,a.g=g->a.b=0->a.s≠x)->∀(v w:T),tm as (wr Y L λy=>if y=x then v else Z y) L g w=tm as (wr Y L Z) L g w:=λg hg v w=>by
    refine N7 w λa ha lJ=>?_
    unfold wr
    by_cases hL:L-a.b=L
    ·rw[if_pos hL,if_pos hL]
     dsimp only
     rw[if_neg ?_]
     by_cases h0:a.b=0
     ·exact hg a ha lJ h0
     ·have:=(hb a ha).1
      omega
    ·rw[if_neg hL,if_neg hL]
   generalize hv:tm as (wr Y L Z) L x (f x r)=v at Cz
   refine⟨_,_,rfl,.inl ?_,pre++[x],λy=>if y=x then v else Z y,some (.int (x:Int)),some (fw (f x r)),(Kt pre x).symm▸rfl,⟨iB,by rw[e'];simp⟩,?_,rfl⟩
   ·have Ct:=X2 (many:=many) (L:=L) (x:=x) (Y:=wr Y L Z) Jf v
    have hY:(wr (wr Y L Z) L λy=>if y=x then v else wr Y L Z L y)=wr Y L λy=>if y=x then v else Z y:=by
     funext i g
     unfold wr
     by_cases h:i=L<;>simp[h]
    have RQ:lB (eL many (wr Y L Z L)) (x:Int) (fw v)=some (eL many λy=>if y=x then v else wr Y L Z L y):=X0 _ Jf v
    rw[hY]at Ct
    have RB:ixN (bR many (L+1) (wr Y L Z)).length (-1)=some L:=by
     rw[Gd]
     unfold ixN
     rw[if_neg (by omega),if_pos (by omega)]
     congr 1
     omega
    have IX:(bR many (L+1) (wr Y L Z))[L]?=some (.lst (eL many (wr Y L Z L))):=by
     unfold bR
     rw[bI,dL (by omega)]
     rfl
    unfold vh oq
    clear key qI qQ Fu oa hx hv e e' e3 hZ ok hb hd li
    walk_at "mir"
   ·intro g hg
    rcases bz.mp hg with hg|hg
    ·have mh:g≠x:=λz=>Fu (z▸hg)
     dsimp only
     rw[if_neg mh,key g (λa ha lJ h0=>qI g hg a ha h0 lJ)]
     exact hZ g hg
    ·rw[br]at hg
     subst hg
     dsimp only
     rw[if_pos rfl,key g (λa ha lJ h0 z=>Fu (z▸qQ a ha h0 lJ)),hv])
 have mK:pre=p:=by
  have hl:=congrArg iK e1
  simp[bC]at hl
  rw[e2,bw]at hl
  have:post=[]:=fG (by omega)
  rw[e2,this,bT]
 subst mK
 exact⟨Z,y9,gc,h1,hZ⟩
structure Run (as:List cy)(many depth rounds:Nat)(past:Nat->Nat->T)(f:Nat->Nat->T)(Y:Nat->Nat->T):Prop where
 past:∀i,i<depth->∀g,g<many->Y i g=past i g
 rc:∀r,r<rounds->∀g,g<many->Y (depth+r) g=tm as Y (depth+r) g (f g r)
theorem Wx {many m:Nat}(Y:Nat->Nat->T)(Z:Nat->T):bR many m Y++[D.lst (eL many Z)]=bR many (m+1) (wr Y m Z):=by
 unfold bR
 rw[List.range_succ,rM]
 congr 1
 ·apply eD
  intro i hi
  have:i≠m:=by have:=aA.mp hi;omega
  congr 1
  exact j6 λg _=>by simp[wr,this]
 ·simp only[bi,jW]
  congr 2
  exact j6 λg _=>by simp[wr]
theorem Wy {ns:List D}{as:List cy}{many:Nat}(h:dX many as)(hn:ns.length=many):∃p:List Nat,ig 4 "order" qk (bO ns as) []=some (.lst (bC p))/\Kahn.Ok (W0 as) many p/\p.length=many/\∀g,g<many->g∈p:=by
 obtain⟨p,h1,h2⟩:=h.placed
 refine⟨p,?_,h2⟩
 rw[Gx (by decide +kernel)]
 have f1:=qp ns as
 have f2:=Kk ns as
 rw[←hn]at h1
 unfold qk
 clear hn h h2
 walk_at "mir"
theorem Wz {ns:List D}{as:List cy}{many:Nat}(hl:as.length<=1000)(hn:ns.length=many)(hm:many<=1000)(r:L3.Env)(hr:r[0]?.join=some (bO ns as)):jt r=some (.lst ((ak many).map λg=>D.lst (bC (into as g)))):=by
 have e:eN dH (aCons (e1 (cZ [4] "names") (eV 0)) aNil) r=some (.int (many:Int)):=by
  have:eV 0 r=some (bO ns as):=hr
  have f1:=qp ns as
  subst hn
  have e2:e1 (cZ [4] "names") (eV 0) r=some (.lst ns):=by unfold e1;rw[this];exact f1
  unfold eN aCons
  rw[e2];rfl
 refine xx (λ(t:Nat)=>D.int (t:Int)) (λg=>D.lst (bC (into as g))) (ak many) (uR e (by omega)) (by rw[aW];omega) λg _=>⟨_,rfl,?_⟩
 have hc:dS r [0]=[some (bO ns as)]:=by unfold dS;simp[hr]
 rw[hc]
 have h1:=O8 (ns:=ns) hl g
 have h2:ig 4 "into" vk (bO ns as) [.int (g:Int)]=some (.lst (bC (into as g))):=by rw[Gx (by decide +kernel)];exact h1
 clear hn hl hm e
 walk_at "mir"
theorem zso {ns:List D}{as:List cy}{many rounds:Nat}{d0 iQ mX d:D}{past:Nat->Nat->T}{f:Nat->Nat->T}{n:Nat}(h:dX many as)(hn:ns.length=many)(hr:rounds<=1000)(ha:ww [bO ns as,iQ]=some (.lst (bR many (dep as) past)))
  (hf:(mX=.non/\xg [.lst []]=some d)\/∃ds,mX=.lst ds/\xg [.lst ds]=some d) (hd:i9 d n f) :
  ∃Y,v5 [bO ns as,.int (rounds:Int),iQ,mX]=some (.lst (bR many (dep as+rounds) Y))/\Run as many (dep as) rounds past f Y:=by
 obtain⟨p,hp,ok,gD,mH⟩:=Wy h hn
 have eK:=h.len
 have n9:=h.le
 have ke:=zP λa ha=>(h.right a ha).b
 have lS:=Wz (ns:=ns) (as:=as) (many:=many) (by omega) hn (by omega)
 have li:∀g,g<many->di (.lst ((ak many).map λg=>D.lst (bC (into as g)))) (.int (g:Int))=some (.lst (bC (into as g))):=λg hg=>yM (by simp[hg])
 generalize (D.lst ((ak many).map λg=>D.lst (bC (into as g))))=N at lS li
 obtain⟨ρ',h1,Y,y8,y9,gc,rfl,run⟩:=Nu (g:=gV 8) (b:=ug) (lo:=0) (n:=rounds) (ρ:=[some (bO ns as),some (.int (rounds:Int)),some iQ,some mX,some (.lst (bR many (dep as) past)),some d,some N,some (.lst (bC p)),none,none,none])
  (λr ρ=>∃Y y8 y9 gc,ρ=[some (bO ns as),some (.int (rounds:Int)),some iQ,some mX,some (.lst (bR many (dep as+r) Y)),some d,some N,some (.lst (bC p)),y8,y9,gc]/\Run as many (dep as) r past f Y)
  ⟨past,none,none,none,rfl,λ_ _ _ _=>rfl,λr hr=>by omega⟩ (by
   rintro r ρ RM ⟨Y,y8,y9,gc,rfl,run⟩
   obtain⟨Z,z9,z10,hz,hZ⟩:=ztc (ns:=ns) (as:=as) (many:=many) (L:=dep as+r) (r:=r) (depth:=0) (rounds:=rounds) (Y:=wr Y (dep as+r) λ_=>none) (iQ:=some iQ) (mX:=some mX) (x9:=y9) (x10:=gc) (p:=p) hd (λa ha=>⟨by have:=se ha;omega,(h.right a ha).s⟩) ok hn (by omega) N li
   have hw:wr (wr Y (dep as+r) λ_=>none) (dep as+r) Z=wr Y (dep as+r) Z:=by
    funext i g
    unfold wr
    by_cases hi:i=dep as+r<;>simp[hi]
   rw[hw]at hz hZ
   refine⟨_,_,rfl,.inl ?_,wr Y (dep as+r) Z,some (.int (r:Int)),z9,z10,rfl,?_,?_⟩
   ·have e0:(0:Int)+(r:Int)=(r:Int):=by omega
    have rp:lx (.lst [.non]) (.int (ns.length:Int))=some (.lst (eL many λ_=>none)):=by
     unfold lx
     dsimp only
     rw[if_pos ⟨by omega,by omega,by simp⟩]
     congr 2
     unfold eL
     rw[kS,aW]
     simp[hn,fw]
    have jQ:(bR many (dep as+r) Y).length<16777216:=by rw[Gd];omega
    have hsn:=Wx (many:=many) (m:=dep as+r) Y λ_=>none
    have f1:=qp ns as
    rw[e0]
    unfold ug
    clear hZ hw li lS run mH ok hp h hn ha hf hd eK n9 ke hr RM
    walk_at "mir"
    rfl
   ·intro i hi g hg
    unfold wr
    rw[if_neg (by omega)]
    exact run.past i hi g hg
   ·intro r2 hr2 g hg
    by_cases he:r2=r
    ·subst he
     have:wr Y (dep as+r2) Z (dep as+r2) g=Z g:=by simp[wr]
     rw[this]
     exact hZ g (mH g hg)
    ·have h3:wr Y (dep as+r) Z (dep as+r2) g=Y (dep as+r2) g:=by unfold wr;rw[if_neg (by omega)]
     rw[h3,run.rc r2 (by omega) g hg]
     refine N7 _ λa _ _=>?_
     unfold wr
     rw[if_neg (by omega)])
 refine⟨Y,?_,run⟩
 have r1:gA [.int (rounds:Int)]=some (eQ 0 rounds):=by
  rw[EH (by omega) (by omega)]
  simp
 have Mn:=lS [some (bO ns as),some (.int (rounds:Int)),some iQ,some mX,some (.lst (bR many (dep as) past)),some d,none,none,none,none,none] rfl
 unfold v5
 clear hd lS li run mH ok h hn eK n9 ke hr gD
 rcases hf with⟨rfl,hf⟩|⟨ds,rfl,hf⟩
 ·walk_at "mir"
 ·walk_at "mir"
theorem WA {many k n:Nat}(Y:Nat->Nat->T)(h:n<=k):(bR many k Y).take n=bR many n Y:=by
 unfold bR
 rw[←List.map_take,List.take_range,lF h]
theorem WB {many k n:Nat}(Y:Nat->Nat->T):(bR many (n+k) Y).drop n=bR many k λr g=>Y (n+r) g:=by
 apply fu
 ·simp[bR]
 ·intro i h1 h2
  simp only[bR,List.getElem_drop,gL,eI]
theorem X3 {many n:Nat}(Y:Nat->Nat->T):(bR many n Y).reverse=bR many n λi g=>Y (n-1-i) g:=by
 apply fu
 ·simp[bR]
 ·intro i h1 h2
  simp only[bR,List.getElem_reverse,gL,eI,bj,aW]
theorem VC {ns:List D}{as:List cy}{many:Nat}(h:dX many as)(hn:ns.length=many):ww [bO ns as,.non]=some (.lst (bR many (dep as) λ_ _=>some 0)):=by
 have eK:=h.len
 have n9:=h.le
 have ke:=zP λa ha=>(h.right a ha).b
 have mo:=EJ (ns:=ns) (as:=as) (by omega)
 have q:∀r:L3.Env,r[0]?.join=some (bO ns as)->r[2]?.join=some (.int (dep as:Int))->MY r=some (.lst (bR many (dep as) λ_ _=>some 0)):=λr h0 h2=>by
  refine xx (λ(t:Nat)=>D.int (t:Int)) (λ_=>D.lst (eL many λ_=>some 0)) (ak (dep as)) (uR h2 (by omega)) (by rw[aW];omega) λg _=>⟨_,rfl,?_⟩
  have hc:dS r [0]=[some (bO ns as)]:=by unfold dS;simp[h0]
  rw[hc]
  have rp:lx (.lst [.int 0]) (.int (ns.length:Int))=some (.lst (eL many λ_=>some 0)):=by
   unfold lx
   dsimp only
   rw[if_pos ⟨by omega,by omega,by simp⟩]
   congr 2
   unfold eL
   rw[kS,aW]
   simp[hn,fw]
  have f1:=qp ns as
  clear hn h eK n9 ke mo
  walk_at "mir"
 unfold ww
 clear h hn eK n9 ke
 walk_at "mir"
theorem Vw {ns:List D}{as:List cy}{many k:Nat}{w:Nat->Nat->T}(h:dX many as)(hk:dep as<=k):ww [bO ns as,.lst (bR many k w)]=some (.lst (bR many (dep as) λi g=>w (dep as-1-i) g)):=by
 have eK:=h.len
 have ke:=zP λa ha=>(h.right a ha).b
 have mo:=EJ (ns:=ns) (as:=as) (by omega)
 have q:∀r:L3.Env,r[1]?.join=some (.lst (bR many k w))->r[2]?.join=some (.int (dep as:Int))->MX r=some (.lst (bR many (dep as) λi g=>w (dep as-1-i) g)):=λr h1 h2=>by
  refine xx (λ(i:Nat)=>D.lst (eL many λg=>w (dep as-1-i) g)) (λ(i:Nat)=>D.lst (eL many λg=>w (dep as-1-i) g)) (ak (dep as)) ?_ (by rw[aW];omega) λg _=>⟨_,rfl,rfl⟩
  have e1:eV 1 r=some (.lst (bR many k w)):=h1
  have e2:pInt (eV 2) r=some (some (dep as:Int)):=by unfold pInt;have:eV 2 r=some (.int (dep as:Int)):=h2;rw[this];rfl
  have e3:jE (.lst (bR many k w)) none (some (dep as:Int))=some (.lst (bR many (dep as) w)):=by
   rw[zao,WD _ (dep as),WA w hk]
  have e4:(λρ=>((eV 1) ρ).bind λd=>(pNo ρ).bind λl=>((pInt (eV 2)) ρ).bind λh=>jE d l h) r=some (.lst (bR many (dep as) w)):=by
   show((eV 1) r).bind _=_
   rw[e1]
   show((pInt (eV 2)) r).bind _=_
   rw[e2]
   exact e3
  show((lsD _) r).bind _=_
  unfold lsD
  rw[e4]
  show some (bR many (dep as) w).reverse=_
  rw[X3]
  rfl
 unfold ww
 clear h eK ke hk
 walk_at "mir"
inductive oJ (as:List cy)(many:Nat):D->(Nat->Nat->T)->Prop
 |no:oJ as many .non λ_ _=>some 0
 |some (k:Nat) (w:Nat->Nat->T) (hk:dep as<=k):oJ as many (.lst (bR many k w)) λi g=>w (dep as-1-i) g
inductive uV:D->(Nat->Nat->T)->Prop
 |no:uV .non λ_ _=>none
 |some (fs:List Fl) (h:fs.length<=1000):uV (.lst (fs.map iX)) (fl fs)
theorem ztd {ns:List D}{as:List cy}{many rounds:Nat}{iQ mX:D}{past:Nat->Nat->T}{f:Nat->Nat->T}(h:dX many as)(hn:ns.length=many)(hr:rounds<=1000)(hw:oJ as many iQ past)(hf:uV mX f) :
  ∃Y,uT [bO ns as,.int (rounds:Int),iQ,mX]=some (.lst (bR many rounds λr g=>Y (dep as+r) g))/\Run as many (dep as) rounds past f Y:=by
 have ha:ww [bO ns as,iQ]=some (.lst (bR many (dep as) past)):=by
  cases hw with
  |no=>exact VC h hn
  |some k w hk=>exact Vw h hk
 obtain⟨d,LK,hd2⟩:∃d,((mX=.non/\xg [.lst []]=some d)\/∃ds,mX=.lst ds/\xg [.lst ds]=some d)/\i9 d 1000 f:=by
  cases hf with
  |no=>
   obtain⟨d,h1,h2⟩:=O7 [] (by simp)
   exact⟨d,.inl ⟨rfl,h1⟩,h2⟩
  |some fs hl=>
   obtain⟨d,h1,h2⟩:=O7 fs hl
   exact⟨d,.inr ⟨_,rfl,h1⟩,h2⟩
 obtain⟨Y,h1,h2⟩:=zso (d0:=.non) h hn hr ha LK hd2
 refine⟨Y,?_,h2⟩
 have mo:=EJ (ns:=ns) (as:=as) (by have:=h.len;omega)
 have e3:jE (.lst (bR many (dep as+rounds) Y)) (some (dep as:Int)) none=some (.lst (bR many rounds λr g=>Y (dep as+r) g)):=by
  rw[zao,WE _ (dep as),WB]
 unfold uT
 clear h hn hr hw hf ha LK hd2 h2
 walk_at "mir"
def ge (x:T)(v:Int):Prop:=∃y,x=some y/\v<=y
theorem O9 {a:T}(b:T){v:Int}(h:ge a v):ge (mx a b) v:=by
 obtain⟨y,rfl,hy⟩:=h
 cases b with
 |none=>exact⟨y,rfl,hy⟩
 |some j=>exact⟨_,rfl,by split<;>omega⟩
theorem zsp (a:T){b:T}{v:Int}(h:ge b v):ge (mx a b) v:=by rw[YM];exact O9 a h
theorem OO {α:Type}(F:α->T){v:Int}:∀(xs:List α) (w:T),(ge w v\/∃a∈xs,ge (F a) v)->ge (xs.foldl (λw a=>mx w (F a)) w) v
 |[],w,h=>by
  rcases h with h|⟨a,ha,_⟩
  ·exact h
  ·cases ha
 |x::xs,w,h=>by
  refine OO F xs _ ?_
  rcases h with h|⟨a,ha,h⟩
  ·exact .inl (O9 _ h)
  ·rcases aC.mp ha with rfl|ha
   ·exact .inl (zsp _ h)
   ·exact .inr ⟨a,ha,h⟩
def Ea (a:cy):Int×Int×Int×Int:=(a.s,a.g,a.t,a.b)
theorem Zk (neg:Bool)(as:List cy):fV neg (.lst (as.map bV)) (.lst [])=some (.bl (if neg then !decide (as=[])else decide (as=[]))):=by
 have:=(El (E4 Ei Ei Ei Ei)).eq (by decide) (neg:=neg) (as.map Ea) []
 have e1:(El (E4 Ei Ei Ei Ei)).enc (as.map Ea)=.lst (as.map bV):=by show D.lst _=_;rw[cK];rfl
 rw[e1]at this
 rw[show D.lst []=(El (E4 Ei Ei Ei Ei)).enc []from rfl,this]
 cases as<;>rfl
theorem KR {as:List cy}(hl:as.length<=1000):cz (.lst [.int 1]) (.lst (as.map λa=>D.int (a.b:Int)))=some (.lst ([.int 1]++as.map λa=>D.int (a.b:Int)))/\mM [.lst ([.int 1]++as.map λa=>D.int (a.b:Int))]=some (.int (dep as:Int)):=by
 refine⟨Om (by simp;omega),?_⟩
 unfold mM
 dsimp only
 have:gG ([.int 1]++as.map λa=>D.int (a.b:Int))=some (1::as.map λa=>(a.b:Int)):=by
  show(gG (as.map λa=>D.int (a.b:Int))).bind _=_
  rw[Ku];rfl
 rw[this]
 show some (D.int ((as.map λa=>(a.b:Int)).foldl max ((1:Nat):Int)))=_
 rw[Kx];rfl
theorem Zl (g:Nat)(hg:g<=1000000):pF [.int (g:Int)]=some (.str (uC (g:Int)))/\cz (.str "a") (.str (uC (g:Int)))=some (.str ("a"++uC (g:Int))):=by
 have h:Sz 1900 (g:Int):=by
  show(g:Int).natAbs<2 ^ 1900
  have:(2:Nat) ^ 20<=2 ^ 1900:=et (by decide) (by decide)
  omega
 have h2:=YY h
 have h3:("a":aL).length=1:=by decide
 exact⟨Xz h,Xt (by omega)⟩
def aJ (n m:Nat)(X:Nat->Nat->Int):List D:=bR n m λi g=>some (X i g)
theorem v9 {n m i:Nat}{X:Nat->Nat->Int}(hi:i<m):di (.lst (aJ n m X)) (.int (i:Int))=some (.lst (bx n (X i))):=yM (by unfold aJ bR;rw[bI,dL hi];rfl)
theorem WC (n m:Nat)(X:Nat->Nat->Int):(aJ n m X).length=m:=Gd _ _ _
theorem Kl {α:Type}(f g:α->D):∀xs:List α,iU (xs.map f) (xs.map g)=xs.map λx=>.tup [f x,g x]
 |[]=>rfl
 |x::xs=>by show D.tup [f x,g x]::iU (xs.map f) (xs.map g)=_;rw[Kl f g xs];rfl
theorem Km {many m f c:Nat}{X:Nat->Nat->Int}(hm:many<=1000)(h:f+c<m):jb [.lst (aJ many m X),.int (f:Int),.int (c:Int)]=some (.lst (bx many λg=>X (f+c) g-X f g)):=by
 have i1:=v9 (n:=many) (X:=X) (i:=f) (m:=m) (by omega)
 have i2:=v9 (n:=many) (X:=X) (i:=f+c) (m:=m) h
 have e:((f+c:Nat):Int)=(f:Int)+(c:Int):=by omega
 rw[e]at i2
 have q:Nz [some (.lst (aJ many m X)),some (.int (f:Int)),some (.int (c:Int))]=some (.lst (bx many λg=>X (f+c) g-X f g)):=by
  refine xx (λ(g:Nat)=>D.tup [.int (X f g),.int (X (f+c) g)]) (λg=>D.int (X (f+c) g-X f g)) (ak many) ?_ (by rw[aW];omega) λg _=>⟨_,rfl,rfl⟩
  have:(aCons (e2 di (eV 0) (eV 1)) (aCons (e2 di (eV 0) (e2 cz (eV 1) (eV 2))) aNil)) [some (.lst (aJ many m X)),some (.int (f:Int)),some (.int (c:Int))]=some [.lst (bx many (X f)),.lst (bx many (X (f+c)))]:=by
   generalize bx many (X (f+c))=v2,bx many (X f)=v1,aJ many m X=rs at *
   clear hm h e
   walk_at "mir"
  show((aCons (e2 di (eV 0) (eV 1)) (aCons (e2 di (eV 0) (e2 cz (eV 1) (eV 2))) aNil)) [some (.lst (aJ many m X)),some (.int (f:Int)),some (.int (c:Int))]).bind oz=_
  rw[this]
  show some (iU (bx many (X f)) (bx many (X (f+c))))=_
  unfold bx
  rw[Kl]
 generalize (bx many λg=>X (f+c) g-X f g)=v at *
 unfold jb
 clear i1 i2 e hm h
 walk_at "mir"
theorem N3 {α:Type}(f:α->Bool):∀xs:List α,iu (xs.map λx=>D.bl (f x))=some (xs.map f)
 |[]=>rfl
 |x::xs=>by
  show(iu (xs.map λx=>D.bl (f x))).bind _=_
  rw[N3 f xs]
  rfl
theorem all_map {α:Type}(f:α->Bool)(xs:List α):nY [.lst (xs.map λx=>D.bl (f x))]=some (.bl (xs.all f)):=by
 show(iu _).bind _=_
 rw[N3]
 show some (D.bl ((xs.map f).all id))=_
 rw[List.all_map]
 rfl
theorem KS (neg:Bool)(n:Nat)(f f':Nat->Int):fV neg (.lst (bx n f)) (.lst (bx n f'))=some (.bl (if neg then !decide (∀g,g<n->f g=f' g)else decide (∀g,g<n->f g=f' g))):=by
 have:=(El Ei).eq (by decide) (neg:=neg) ((ak n).map f) ((ak n).map f')
 have e:∀f:Nat->Int,(El Ei).enc ((ak n).map f)=.lst (bx n f):=λf=>by
  show D.lst (((ak n).map f).map D.int)=_
  rw[cK]
  rfl
 rw[e,e]at this
 have hd:decide ((ak n).map f=(ak n).map f')=decide (∀g,g<n->f g=f' g):=by
  apply decide_eq_decide.mpr
  rw[List.map_inj_left]
  exact⟨λh g hg=>h g (aA.mpr hg),λh g hg=>h g (aA.mp hg)⟩
 rw[hd]at this
 exact this
theorem Zm {many m f n c:Nat}{X:Nat->Nat->Int}{L:Nat->Int}(hm:many<=1000)(gZ:m<=1000)(hn:1<=n)(h:f+n+c<=m):FY [.lst (aJ many m X),.int (f:Int),.int (f+n-1:Int),.int (c:Int),.lst (bx many L)]=some (.bl ((ak n).all λi=>decide (∀g,g<many->X (f+i+c) g-X (f+i) g=L g))):=by
 have q:Ni [some (.lst (aJ many m X)),some (.int (f:Int)),some (.int (f+n-1:Int)),some (.int (c:Int)),some (.lst (bx many L))]=some (.lst ((ak n).map λi=>D.bl (decide (∀g,g<many->X (f+i+c) g-X (f+i) g=L g)))):=by
  refine xx (λ(i:Nat)=>D.int ((f:Int)+(i:Int))) (λi=>D.bl (decide (∀g,g<many->X (f+i+c) g-X (f+i) g=L g))) (ak n) ?_ (by rw[aW];omega) λi hi=>⟨_,rfl,?_⟩
  ·have er:(aCons (eV 1) (aCons (e2 cz (eV 2) (eC (.int 1))) aNil)) [some (.lst (aJ many m X)),some (.int (f:Int)),some (.int (f+n-1:Int)),some (.int (c:Int)),some (.lst (bx many L))]=some [.int (f:Int),.int ((f+n-1:Int)+1)]:=by
    generalize (f+n-1:Int)=z
    rfl
   show((aCons (eV 1) (aCons (e2 cz (eV 2) (eC (.int 1))) aNil)) [some (.lst (aJ many m X)),some (.int (f:Int)),some (.int (f+n-1:Int)),some (.int (c:Int)),some (.lst (bx many L))]).bind iO=_
   rw[er,ce,zI (by omega) (by omega) (by omega) (by omega),show((f+n-1:Int)+1-(f:Int)).toNat=n by omega]
   rfl
  ·have hi:=aA.mp hi
   have hg:=Km (many:=many) (m:=m) (f:=f+i) (c:=c) (X:=X) hm (by omega)
   have he:=KS false many (λg=>X (f+i+c) g-X (f+i) g) L
   have e:((f+i:Nat):Int)=(f:Int)+(i:Int):=by omega
   rw[e]at hg
   rw[if_neg (by decide)]at he
   generalize (bx many λg=>X (f+i+c) g-X (f+i) g)=v,bx many L=vl,aJ many m X=rs,decide (∀g,g<many->X (f+i+c) g-X (f+i) g=L g)=bb at *
   have e8:dS [some (.lst rs),some (.int (f:Int)),some (.int (f+n-1:Int)),some (.int (c:Int)),some (.lst vl)] [0,3,4]=[some (.lst rs),some (.int (c:Int)),some (.lst vl)]:=rfl
   rw[e8]
   clear hm gZ hn h e hi e8
   walk_at "mir"
 have a1:=all_map (λi=>decide (∀g,g<many->X (f+i+c) g-X (f+i) g=L g)) (ak n)
 generalize ((ak n).map λi=>D.bl (decide (∀g,g<many->X (f+i+c) g-X (f+i) g=L g)))=bs,((ak n).all λi=>decide (∀g,g<many->X (f+i+c) g-X (f+i) g=L g))=bb,bx many L=vl,aJ many m X=rs at *
 unfold FY
 clear hm gZ hn h
 walk_at "mir"
theorem qv {n g:Nat}{f:Nat->Int}(h:g<n):di (.lst (bx n f)) (.int (g:Int))=some (.int (f g)):=GI f h
theorem Zn {ns:List D}{as:List cy}{many:Nat}{L:Nat->Int}(hl:as.length<=1000)(hs:∀a∈as,a.s<many/\a.g<many):v6 [bO ns as,.lst (bx many L)]=some (.bl (as.all λa=>decide (L a.s<=L a.g))):=by
 have q:ju [some (bO ns as),some (.lst (bx many L))]=some (.lst (as.map λa=>D.bl (decide (L a.s<=L a.g)))):=by
  refine xx bE (λa=>D.bl (decide (L a.s<=L a.g))) as (by unfold lsD;rfl) (by omega) λa ha=>⟨_,rfl,?_⟩
  obtain⟨h1,h2⟩:=hs a ha
  have i1:=qv (f:=L) h1
  have i2:=qv (f:=L) h2
  have f1:=fs a
  have f2:=fg a
  have e8:dS [some (bO ns as),some (.lst (bx many L))] [1]=[some (.lst (bx many L))]:=rfl
  rw[e8]
  generalize bx many L=vl at *
  clear hl hs h1 h2 e8
  walk_at "mir"
 have a1:=all_map (λ(a:cy)=>decide (L a.s<=L a.g)) as
 generalize (as.map λa=>D.bl (decide (L a.s<=L a.g)))=bs,(as.all λa=>decide (L a.s<=L a.g))=bb,bO ns as=net,bx many L=vl at *
 unfold v6
 clear hl hs
 walk_at "mir"
def lR (X:Nat->Nat->Int)(n g:Nat)(a:cy):Bool:=decide (X (n-a.b) a.s+a.t=X n g)
theorem WY {many m n g:Nat}{X:Nat->Nat->Int}(hn:n<m)(hg:g<many){cs:List cy}(hc:∀a∈cs,a.b<=n/\a.s<many):jv [.lst (aJ many m X),.lst (cs.map bE),.int (g:Int),.int (n:Int)]=some (.bl (cs.any (lR X n g))):=by
 have lp:∀(bs:List cy) (C:D) (x4:Option D),(∀a∈bs,a.b<=n/\a.s<many)->(bs.any (lR X n g)=true/\eF (gV 4) xf (bs.map bE) [some (.lst (aJ many m X)),some C,some (.int (g:Int)),some (.int (n:Int)),x4]=some (.rt (.bl true)))\/(bs.any (lR X n g)=false/\∃y4,eF (gV 4) xf (bs.map bE) [some (.lst (aJ many m X)),some C,some (.int (g:Int)),some (.int (n:Int)),x4]=some (.nx [some (.lst (aJ many m X)),some C,some (.int (g:Int)),some (.int (n:Int)),y4])):=by
  intro bs C
  induction bs with
  |nil=>exactλx4 _=>.inr ⟨rfl,x4,rfl⟩
  |cons a bs ih=>
   intro x4 hb
   obtain⟨h1,h2⟩:=hb a ai
   have i1:=v9 (n:=many) (X:=X) (i:=n-a.b) (m:=m) (by omega)
   have e:((n-a.b:Nat):Int)=(n:Int)-(a.b:Int):=by omega
   rw[e]at i1
   have i2:=qv (f:=X (n-a.b)) h2
   have i3:=v9 (n:=many) (X:=X) (i:=n) (m:=m) hn
   have i4:=qv (f:=X n) hg
   have f1:=fs a
   have f2:=ft a
   have f3:=fb a
   have eq:fV false (.int (X (n-a.b) a.s+a.t)) (.int (X n g))=some (.bl (lR X n g a)):=(zb0 _ _).trans (by rw[if_neg (by decide)];rfl)
   have step:xf [some (.lst (aJ many m X)),some C,some (.int (g:Int)),some (.int (n:Int)),some (bE a)]=if lR X n g a=true then some (.rt (.bl true))else some (.nx [some (.lst (aJ many m X)),some C,some (.int (g:Int)),some (.int (n:Int)),some (bE a)]):=by
    generalize lR X n g a=bb,aJ many m X=rs,bx many (X (n-a.b))=v1,bx many (X n)=v2,X (n-a.b) a.s=w1 at *
    generalize X n g=w2 at *
    unfold xf
    clear ih hb h1 h2 e hn hg hc
    cases bb<;>walk_at "mir"
   have rE:eF (gV 4) xf ((a::bs).map bE) [some (.lst (aJ many m X)),some C,some (.int (g:Int)),some (.int (n:Int)),x4]=(xf [some (.lst (aJ many m X)),some C,some (.int (g:Int)),some (.int (n:Int)),some (bE a)]).bind λo=>match o with
     |.nx ρ'=>eF (gV 4) xf (bs.map bE) ρ'
     |.ct ρ'=>eF (gV 4) xf (bs.map bE) ρ'
     |.bk ρ'=>some (.nx ρ')
     |.rt d=>some (.rt d):=rfl
   rw[rE,step,fE]
   cases Rr:lR X n g a with
   |true=>exact .inl ⟨rfl,rfl⟩
   |false=>
    rw[if_neg (by decide)]
    exact ih (some (bE a)) λb B8=>hb b (ao _ B8)
 unfold jv
 rcases lp cs (.lst (cs.map bE)) none hc with⟨h1,h2⟩|⟨h1,y4,h2⟩
 ·rw[h1]
  clear lp hc h1
  generalize aJ many m X=rs,cs.map bE=cl at *
  walk_at "mir"
 ·rw[h1]
  clear lp hc h1
  generalize aJ many m X=rs,cs.map bE=cl at *
  walk_at "mir"
theorem uo {α:Type}{g:D->L3.Env->Option L3.Env}{b:SF}(enc:α->D)(f:α->Bool)(I:L3.Env->Prop)(w:D):∀(xs:List α) (ρ:L3.Env),I ρ->(∀x∈xs,∀ρ,I ρ->∃ρ1,g (enc x) ρ=some ρ1/\((f x=true/\∃ρ2,b ρ1=some (.nx ρ2)/\I ρ2)\/(f x=false/\b ρ1=some (.rt w)))) ->
  (xs.all f=true/\∃ρ',eF g b (xs.map enc) ρ=some (.nx ρ')/\I ρ')\/(xs.all f=false/\eF g b (xs.map enc) ρ=some (.rt w))
 |[],ρ,h,_=>.inl ⟨rfl,ρ,rfl,h⟩
 |x::xs,ρ,h,st=>by
  obtain⟨ρ1,h1,h2⟩:=st x ai ρ h
  have rE:eF g b ((x::xs).map enc) ρ=(g (enc x) ρ).bind λρ1=>(b ρ1).bind λo=>match o with
    |.nx ρ'=>eF g b (xs.map enc) ρ'
    |.ct ρ'=>eF g b (xs.map enc) ρ'
    |.bk ρ'=>some (.nx ρ')
    |.rt d=>some (.rt d):=rfl
  rw[rE,h1,ce,cQ]
  rcases h2 with⟨e,ρ2,h2,h3⟩|⟨e,h2⟩
  ·rw[h2,e]
   exact uo enc f I w xs ρ2 h3 λy hy=>st y (ao _ hy)
  ·rw[h2,e]
   exact .inr ⟨rfl,rfl⟩
def hG (as:List cy)(g:Nat):List cy:=as.filter λa=>decide (a.g=g)
def ny (as:List cy)(L:Nat->Int)(g:Nat):List cy:=(hG as g).filter λa=>decide (L a.s=L g)
theorem N8 {ns:List D}{as:List cy}(hl:as.length<=1000)(g:Nat):ig 4 "into" vk (bO ns as) [.int (g:Int)]=some (.lst (bC (into as g))):=by
 rw[Gx (by decide)]
 exact O8 hl g
theorem Wb {ns:List D}{as:List cy}(hl:as.length<=1000)(g:Nat)(r:L3.Env)(h0:r[0]?.join=some (bO ns as))(h5:r[5]?.join=some (.int (g:Int))):MW r=some (.lst ((hG as g).map bE)):=by
 have e:(hG as g).map bE=(as.zipIdx.filter λp=>decide (p.1.g=g)).map λp=>bE p.1:=by
  unfold hG
  rw[←J9 (λa:cy=>decide (a.g=g)) as 0,cK]
  rfl
 rw[e]
 refine xx (λp:cy×Nat=>D.int (p.2:Int)) (λp=>bE p.1) _ ?_ ?_ λp hp=>⟨_,rfl,?_⟩
 ·have e0:eV 0 r=_:=h0
  have e5:eV 5 r=_:=h5
  have:=N8 (ns:=ns) hl g
  show((((eV 0) r).bind λo=>((aCons (eV 5) aNil) r).bind λds=>ig 4 "into" vk o (ds++[]))).bind _=_
  unfold aCons aNil
  rw[e0,e5]
  simp only[ce,bT]
  rw[this]
  show some (bC (into as g))=_
  unfold bC into
  rw[cK]
  rfl
 ·have:=nF (λp:cy×Nat=>decide (p.1.g=g)) as.zipIdx
  rw[List.length_zipIdx]at this
  omega
 ·have hp:=O6 (aS.mp hp).1
  have e8:dS r [0]=[some (bO ns as)]:=by unfold dS;simp[h0]
  rw[e8]
  have i1:di (.lst (as.map bE)) (.int (p.2:Int))=some (bE p.1):=yM (by rw[bI,hp];rfl)
  have f1:=Kk ns as
  generalize bO ns as=net at *
  clear e8 h0 h5 hp hl e
  walk_at "mir"
theorem Wc {as:List cy}{many g:Nat}{L:Nat->Int}(hl:as.length<=1000)(hs:∀a∈as,a.s<many)(hg:g<many)(r:L3.Env)(h4:r[4]?.join=some (.lst (bx many L)))(h5:r[5]?.join=some (.int (g:Int)))(h6:r[6]?.join=some (.lst ((hG as g).map bE))):MV r=some (.lst ((ny as L g).map bE)):=by
 refine zK bE (λa=>decide (L a.s=L g)) bE (hG as g) ?_ ?_ λa ha=>⟨_,rfl,?_,λ_=>rfl⟩
 ·have e6:eV 6 r=_:=h6
  unfold lsD
  rw[e6];rfl
 ·have:=nF (λa:cy=>decide (a.g=g)) as
  unfold hG
  omega
 ·have e8:dS r [4,5]=[some (.lst (bx many L)),some (.int (g:Int))]:=by unfold dS;simp[h4,h5]
  rw[e8]
  have i1:=qv (f:=L) (hs a (aS.mp ha).1)
  have i2:=qv (f:=L) hg
  have f1:=fs a
  have eq:=zb0 (neg:=false) (L a.s) (L g)
  rw[if_neg (by decide)]at eq
  generalize bx many L=vl,L a.s=w1,L g=w2 at *
  clear hl hs hg h4 h5 h6 ha e8
  walk_at "mir"
def pv (as:List cy)(X:Nat->Nat->Int)(L:Nat->Int)(S c g:Nat):Bool:=(ak c).all λi=>(ny as L g).any (lR X (S+i) g)
theorem zsq {ns:List D}{as:List cy}{many m S c:Nat}{X:Nat->Nat->Int}{L:Nat->Int}(hn:ns.length=many)(hm:many<=1000)(gZ:m<=1000)(hl:as.length<=1000)(hs:∀a∈as,a.s<many/\a.b<=S)(h:S+c<=m)(hc:1<=c):uh [bO ns as,.lst (aJ many m X),.int (S:Int),.int ((S:Int)+(c:Int)-1),.lst (bx many L)]=some (.bl ((ak many).all (pv as X L S c))):=by
 generalize hz:(S:Int)+(c:Int)-1=z
 have inner:∀(g:Nat),g<many->∀x6 x8:Option D,(pv as X L S c g=true/\∃y8,eF (gV 8) xh ((ak c).map λ(i:Nat)=>D.int ((S:Int)+(i:Int))) [some (bO ns as),some (.lst (aJ many m X)),some (.int (S:Int)),some (.int z),some (.lst (bx many L)),some (.int (g:Int)),x6,some (.lst ((ny as L g).map bE)),x8]=some (.nx [some (bO ns as),some (.lst (aJ many m X)),some (.int (S:Int)),some (.int z),some (.lst (bx many L)),some (.int (g:Int)),x6,some (.lst ((ny as L g).map bE)),y8]))\/(pv as X L S c g=false/\eF (gV 8) xh ((ak c).map λ(i:Nat)=>D.int ((S:Int)+(i:Int))) [some (bO ns as),some (.lst (aJ many m X)),some (.int (S:Int)),some (.int z),some (.lst (bx many L)),some (.int (g:Int)),x6,some (.lst ((ny as L g).map bE)),x8]=some (.rt (.bl false))):=by
  intro g hg x6 x8
  have:=uo (g:=gV 8) (b:=xh) (λ(i:Nat)=>D.int ((S:Int)+(i:Int))) (λi=>(ny as L g).any (lR X (S+i) g)) (λρ=>∃y8,ρ=[some (bO ns as),some (.lst (aJ many m X)),some (.int (S:Int)),some (.int z),some (.lst (bx many L)),some (.int (g:Int)),x6,some (.lst ((ny as L g).map bE)),y8]) (.bl false) (ak c) _ ⟨x8,rfl⟩ (by
   rintro i hi ρ ⟨y8,rfl⟩
   have hi:=aA.mp hi
   refine⟨_,rfl,?_⟩
   have k1:=WY (many:=many) (m:=m) (n:=S+i) (g:=g) (X:=X) (by omega) hg (cs:=ny as L g) (λa ha=>by
    have:=hs a (aS.mp (aS.mp ha).1).1
    exact⟨by omega,this.1⟩)
   have e:((S+i:Nat):Int)=(S:Int)+(i:Int):=by omega
   rw[e]at k1
   cases hb:(ny as L g).any (lR X (S+i) g)with
   |true=>
    refine .inl ⟨rfl,[some (bO ns as),some (.lst (aJ many m X)),some (.int (S:Int)),some (.int z),some (.lst (bx many L)),some (.int (g:Int)),x6,some (.lst ((ny as L g).map bE)),some (.int ((S:Int)+(i:Int)))],?_,_,rfl⟩
    rw[hb]at k1
    show xh [some (bO ns as),some (.lst (aJ many m X)),some (.int (S:Int)),some (.int z),some (.lst (bx many L)),some (.int (g:Int)),x6,some (.lst ((ny as L g).map bE)),some (.int ((S:Int)+(i:Int)))]=_
    generalize bO ns as=net,aJ many m X=rs,(ny as L g).map bE=cl,bx many L=vl at *
    unfold xh
    clear hz hs h hc hl hm gZ hn e hi hb hg
    walk_at "mir"
   |false=>
    refine .inr ⟨rfl,?_⟩
    rw[hb]at k1
    show xh [some (bO ns as),some (.lst (aJ many m X)),some (.int (S:Int)),some (.int z),some (.lst (bx many L)),some (.int (g:Int)),x6,some (.lst ((ny as L g).map bE)),some (.int ((S:Int)+(i:Int)))]=_
    generalize bO ns as=net,aJ many m X=rs,(ny as L g).map bE=cl,bx many L=vl at *
    unfold xh
    clear hz hs h hc hl hm gZ hn e hi hb hg
    walk_at "mir")
  rcases this with⟨h1,ρ',h2,y8,rfl⟩|⟨h1,h2⟩
  ·exact .inl ⟨h1,y8,h2⟩
  ·exact .inr ⟨h1,h2⟩
 have er:iO [.int (S:Int),.int (z+1)]=some ((ak c).map λ(i:Nat)=>D.int ((S:Int)+(i:Int))):=by
  rw[zI (by omega) (by omega) (by omega) (by omega),show(z+1-(S:Int)).toNat=c by omega]
  rfl
 have outer:=uo (g:=gV 5) (b:=wv) (λ(g:Nat)=>D.int (g:Int)) (pv as X L S c) (λρ=>∃y5 y6 y7 y8,ρ=[some (bO ns as),some (.lst (aJ many m X)),some (.int (S:Int)),some (.int z),some (.lst (bx many L)),y5,y6,y7,y8]) (.bl false) (ak many) [some (bO ns as),some (.lst (aJ many m X)),some (.int (S:Int)),some (.int z),some (.lst (bx many L)),none,none,none,none] ⟨_,_,_,_,rfl⟩ (by
  rintro g hg ρ ⟨y5,y6,y7,y8,rfl⟩
  have hg:=aA.mp hg
  refine⟨_,rfl,?_⟩
  have q2:=Wb (ns:=ns) (as:=as) hl g [some (bO ns as),some (.lst (aJ many m X)),some (.int (S:Int)),some (.int z),some (.lst (bx many L)),some (.int (g:Int)),y6,y7,y8] rfl rfl
  have q1:=Wc (as:=as) (many:=many) (L:=L) hl (λa ha=>(hs a ha).1) hg [some (bO ns as),some (.lst (aJ many m X)),some (.int (S:Int)),some (.int z),some (.lst (bx many L)),some (.int (g:Int)),some (.lst ((hG as g).map bE)),y7,y8] rfl rfl rfl
  rcases inner g hg (some (.lst ((hG as g).map bE))) y8 with⟨h1,z8,h2⟩|⟨h1,h2⟩
  ·refine .inl ⟨h1,[some (bO ns as),some (.lst (aJ many m X)),some (.int (S:Int)),some (.int z),some (.lst (bx many L)),some (.int (g:Int)),some (.lst ((hG as g).map bE)),some (.lst ((ny as L g).map bE)),z8],?_,_,_,_,_,rfl⟩
   show wv [some (bO ns as),some (.lst (aJ many m X)),some (.int (S:Int)),some (.int z),some (.lst (bx many L)),some (.int (g:Int)),y6,y7,y8]=_
   generalize bO ns as=net,aJ many m X=rs,(ny as L g).map bE=cl,(hG as g).map bE=il,bx many L=vl,((ak c).map λ(i:Nat)=>D.int ((S:Int)+(i:Int)))=rg at *
   unfold wv
   clear hz hs h hc hl hm gZ hn hg h1 inner
   walk_at "mir"
  ·refine .inr ⟨h1,?_⟩
   show wv [some (bO ns as),some (.lst (aJ many m X)),some (.int (S:Int)),some (.int z),some (.lst (bx many L)),some (.int (g:Int)),y6,y7,y8]=_
   generalize bO ns as=net,aJ many m X=rs,(ny as L g).map bE=cl,(hG as g).map bE=il,bx many L=vl,((ak c).map λ(i:Nat)=>D.int ((S:Int)+(i:Int)))=rg at *
   unfold wv
   clear hz hs h hc hl hm gZ hn hg h1 inner
   walk_at "mir")
 have QR:gA [.int (many:Int)]=some ((ak many).map λ(g:Nat)=>D.int (g:Int)):=by
  rw[EH (by omega) (by omega),km];simp[eQ]
 have f1:=qp ns as
 have l1:dH [.lst ns]=some (.int (many:Int)):=by rw[jq,hn]
 rcases outer with⟨h1,ρ',h2,y5,y6,y7,y8,rfl⟩|⟨h1,h2⟩
 ·rw[h1]
  generalize bO ns as=net,aJ many m X=rs,bx many L=vl,((ak many).map λ(g:Nat)=>D.int (g:Int))=rg at *
  unfold uh
  clear hz hs h hc hl hm gZ hn h1 inner er
  walk_at "mir"
 ·rw[h1]
  generalize bO ns as=net,aJ many m X=rs,bx many L=vl,((ak many).map λ(g:Nat)=>D.int (g:Int))=rg at *
  unfold uh
  clear hz hs h hc hl hm gZ hn h1 inner er
  walk_at "mir"
structure Again (as:List cy)(many:Nat)(X:Nat->Nat->Int)(c f:Nat)(L:Nat->Int):Prop where
 w:∀i,i<dep as->∀g,g<many->X (f+i+c) g-X (f+i) g=L g
 a:∀a∈as,L a.s<=L a.g
 c:∀g,g<many->∀n,f+dep as<=n->n<f+dep as+c->∃a∈as,a.g=g/\L a.s=L g/\X (n-a.b) a.s+a.t=X n g
theorem Again.iff {as:List cy}{many:Nat}{X:Nat->Nat->Int}{c f:Nat}{L:Nat->Int}:Again as many X c f L↔(((ak (dep as)).all λi=>decide (∀g,g<many->X (f+i+c) g-X (f+i) g=L g))=true/\(as.all λa=>decide (L a.s<=L a.g))=true/\(ak many).all (pv as X L (f+dep as) c)=true):=by
 constructor
 ·intro h
  refine⟨bp.mpr λi hi=>decide_eq_true (h.w i (aA.mp hi)),bp.mpr λa ha=>decide_eq_true (h.a a ha),bp.mpr λg hg=>bp.mpr λi hi=>?_⟩
  have hi:=aA.mp hi
  obtain⟨a,ha,h1,h2,h3⟩:=h.c g (aA.mp hg) (f+dep as+i) (by omega) (by omega)
  exact fm.mpr ⟨a,aS.mpr ⟨aS.mpr ⟨ha,decide_eq_true h1⟩,decide_eq_true h2⟩,decide_eq_true h3⟩
 ·rintro⟨h1,h2,h3⟩
  refine⟨λi hi=>of_decide_eq_true (bp.mp h1 i (aA.mpr hi)),λa ha=>of_decide_eq_true (bp.mp h2 a ha),λg hg n RH qN=>?_⟩
  have:=bp.mp (bp.mp h3 g (aA.mpr hg)) (n-(f+dep as)) (aA.mpr (by omega))
  rw[show f+dep as+(n-(f+dep as))=n by omega]at this
  obtain⟨a,ha,h3⟩:=fm.mp this
  obtain⟨ha,h2⟩:=aS.mp ha
  obtain⟨ha,h1⟩:=aS.mp ha
  exact⟨a,ha,of_decide_eq_true h1,of_decide_eq_true h2,of_decide_eq_true h3⟩
theorem zsr {ns:List D}{as:List cy}{many m c f:Nat}{X:Nat->Nat->Int}{L:Nat->Int}(ok:dX many as)(hn:ns.length=many)(gZ:m<=1000)(hc:1<=c)(h:f+dep as+c<=m):∃b,Gc [bO ns as,.lst (aJ many m X),.tup [.int (c:Int),.int (f:Int),.lst (bx many L)]]=some (.bl b)/\(b=true↔Again as many X c f L):=by
 have hl:=ok.len
 have hm:=ok.le
 have hd:=zL as
 have hs:∀a∈as,a.s<many/\a.g<many:=λa ha=>⟨(ok.right a ha).s,(ok.right a ha).g⟩
 have g1:=Zm (many:=many) (m:=m) (f:=f) (n:=dep as) (c:=c) (X:=X) (L:=L) (by omega) gZ hd h
 have g2:=Zn (ns:=ns) (as:=as) (L:=L) (by omega) hs
 have g3:=zsq (ns:=ns) (as:=as) (many:=many) (m:=m) (S:=f+dep as) (c:=c) (X:=X) (L:=L) hn (by omega) gZ (by omega) (λa ha=>⟨(hs a ha).1,by have:=se ha;omega⟩) h hc
 have mb:=EJ (ns:=ns) (as:=as) (by omega)
 have f1:=qp ns as
 have l1:dH [.lst ns]=some (.int (many:Int)):=by rw[jq,hn]
 have l2:dH [.lst (bx many L)]=some (.int (many:Int)):=by rw[jq,Gv]
 have l3:dH [.lst (aJ many m X)]=some (.int (m:Int)):=by rw[jq,WC]
 rw[Again.iff]
 generalize ((ak (dep as)).all λi=>decide (∀g,g<many->X (f+i+c) g-X (f+i) g=L g))=b1,(as.all λa=>decide (L a.s<=L a.g))=b2,(ak many).all (pv as X L (f+dep as) c)=b3 at *
 refine⟨b1&&b2&&b3,?_,by cases b1<;>cases b2<;>cases b3<;>simp⟩
 have e1:((f+dep as:Nat):Int)=(f:Int)+(dep as:Int):=by omega
 rw[e1]at g3
 have c1:¬(c:Int)<1:=by omega
 have c2:¬(f:Int)<0:=by omega
 have c3:¬(m:Int)<(f:Int)+(dep as:Int)+(c:Int):=by omega
 generalize (dep as:Int)=dd,bO ns as=net,aJ many m X=rs,bx many L=vl at *
 have p0:di (.tup [.int (c:Int),.int (f:Int),.lst vl]) (.int 0)=some (.int (c:Int)):=rfl
 have p1:di (.tup [.int (c:Int),.int (f:Int),.lst vl]) (.int 1)=some (.int (f:Int)):=rfl
 have p2:di (.tup [.int (c:Int),.int (f:Int),.lst vl]) (.int 2)=some (.lst vl):=rfl
 have p2t:Jn (.tup [.int (c:Int),.int (f:Int),.lst vl]) (.int 2)=some (.lst vl):=rfl
 unfold Gc
 clear hl hm hd hs e1 h hc gZ hn ok
 cases b1 with
 |false=>walk_at "mir"
 |true=>
  cases b2 with
  |false=>walk_at "mir"
  |true=>walk_at "mir"
theorem N9 {as:List cy}{many:Nat}(ok:dX many as){P:Nat->Nat->Prop}(st:∀i g,(∀j,j<i->∀x,P j x)->(∀a∈as,a.g=g->a.b=0->P i a.s)->P i g):∀i g,P i g:=by
 obtain⟨rank,hr⟩:=ok.rank
 intro i
 induction i using si with
 |ind i ih=>
  have inner:∀k g,rank g=k->P i g:=by
   intro k
   induction k using si with
   |ind k RZ=>
    intro g hg
    refine st i g (λj hj x=>ih j hj x) λa ha lJ hb=>?_
    have:=hr a ha hb
    exact RZ (rank a.s) (by rw[←hg,←lJ];exact this) a.s rfl
  exactλg=>inner _ g rfl
theorem Np {α β:Type}{f f':β->α->β}:∀(xs:List α) (w:β),(∀a∈xs,∀w,f w a=f' w a)->xs.foldl f w=xs.foldl f' w
 |[],_,_=>rfl
 |x::xs,w,h=>by
  show xs.foldl f (f w x)=xs.foldl f' (f' w x)
  rw[h x ai,Np xs _ λa ha=>h a (ao _ ha)]
theorem Oa {α:Type}(F:α->Int):∀(xs:List α) (w:T),(∃y,xs.foldl (λw a=>mx w (some (F a))) w=some y/\(∀a∈xs,F a<=y)/\(∀z,w=some z->z<=y)/\((∃a∈xs,F a=y)\/w=some y))\/(xs=[]/\w=none)
 |[],none=>.inr ⟨rfl,rfl⟩
 |[],some z=>.inl ⟨z,rfl,λ_ h=>(by cases h),λ_ h=>(by cases h;exact oB _),.inr rfl⟩
 |x::xs,w=>by
  rcases Oa F xs (mx w (some (F x)))with⟨y,h1,h2,h3,h4⟩|⟨_,h⟩
  ·refine .inl ⟨y,h1,?_,?_,?_⟩
   ·intro a ha
    rcases aC.mp ha with rfl|ha
    ·cases w with
     |none=>exact h3 _ rfl
     |some z=>
      have:=h3 (if F a > z then F a else z) rfl
      split at this<;>omega
    ·exact h2 a ha
   ·intro z hz
    subst hz
    have:=h3 (if F x > z then F x else z) rfl
    split at this<;>omega
   ·rcases h4 with⟨a,ha,h4⟩|h4
    ·exact .inl ⟨a,ao _ ha,h4⟩
    ·cases w with
     |none=>exact .inl ⟨x,ai,by simpa[mx]using h4⟩
     |some z=>
      have h5:(if F x > z then F x else z)=y:=by simpa[mx]using h4
      split at h5
      ·exact .inl ⟨x,ai,h5⟩
      ·exact .inr (by rw[h5])
  ·cases w<;>simp[mx]at h
structure Mx (as:List cy)(many lo hi:Nat)(V:Nat->Nat->Int):Prop where
 ge:∀i,lo<=i->i<hi->∀a∈as,V (i-a.b) a.s+a.t<=V i a.g
 at_:∀i,lo<=i->i<hi->∀g,g<many->∃a∈as,a.g=g/\V (i-a.b) a.s+a.t=V i g
theorem Run.mx {as:List cy}{many rounds:Nat}{past Y:Nat->Nat->T}(ok:dX many as)(h:Run as many (dep as) rounds past (λ_ _=>none) Y)(hp:∀i,i<dep as->∀g,g<many->∃v,past i g=some v)(mJ:∀g,g<many->∃a∈as,a.g=g) :
  ∃V:Nat->Nat->Int,(∀i,i<dep as+rounds->∀g,g<many->Y i g=some (V i g))/\Mx as many (dep as) (dep as+rounds) V:=by
 have hs:∀i g,i<dep as+rounds->g<many->∃v,Y i g=some v:=by
  refine N9 ok λi g CK Jk hi hg=>?_
  by_cases hd:i<dep as
  ·rw[h.past i hd g hg];exact hp i hd g hg
  ·have:=h.rc (i-dep as) (by omega) g hg
   rw[show dep as+(i-dep as)=i by omega]at this
   rw[this]
   obtain⟨a,ha,lJ⟩:=mJ g hg
   have hb:=se ha
   have:∃v,Y (i-a.b) a.s=some v:=by
    by_cases sM:a.b=0
    ·have:=Jk a ha lJ sM hi (ok.right a ha).s
     rwa[sM,nG]
    ·exact CK (i-a.b) (by omega) a.s (by omega) (ok.right a ha).s
   obtain⟨v,hv⟩:=this
   obtain⟨y,hy,_⟩:=OO (λa:cy=>lt a.t (Y (i-a.b) a.s)) (v:=v+a.t) (as.filter λa=>decide (a.g=g)) none (.inr ⟨a,aS.mpr ⟨ha,decide_eq_true lJ⟩,v+a.t,by show lt a.t (Y (i-a.b) a.s)=_;rw[hv];rfl,oB _⟩)
   exact⟨y,hy⟩
 refine⟨λi g=>(Y i g).getD 0,λi hi g hg=>?_,?_⟩
 ·obtain⟨v,hv⟩:=hs i g hi hg
  show _=some ((Y i g).getD 0)
  rw[hv];rfl
 ·have key:∀i,dep as<=i->i<dep as+rounds->∀g,g<many->(∀a∈as,a.g=g->(Y (i-a.b) a.s).getD 0+a.t<=(Y i g).getD 0)/\∃a∈as,a.g=g/\(Y (i-a.b) a.s).getD 0+a.t=(Y i g).getD 0:=by
   intro i hi1 Ft g hg
   have rc:=h.rc (i-dep as) (by omega) g hg
   rw[show dep as+(i-dep as)=i by omega]at rc
   have e:tm as Y i g none=(as.filter λa=>decide (a.g=g)).foldl (λw a=>My.mx w (some ((Y (i-a.b) a.s).getD 0+a.t))) none:=by
    unfold tm
    refine Np _ _ λa ha w=>?_
    have ha:=(aS.mp ha).1
    have hb:=se ha
    obtain⟨v,hv⟩:=hs (i-a.b) a.s (by omega) (ok.right a ha).s
    rw[hv];rfl
   rw[e]at rc
   rcases Oa (λa:cy=>(Y (i-a.b) a.s).getD 0+a.t) (as.filter λa=>decide (a.g=g)) none with⟨y,h1,h2,_,h4⟩|⟨h1,_⟩
   ·rw[h1]at rc
    rw[rc]
    refine⟨λa ha lJ=>h2 a (aS.mpr ⟨ha,decide_eq_true lJ⟩),?_⟩
    rcases h4 with⟨a,ha,h4⟩|h4
    ·obtain⟨ha,lJ⟩:=aS.mp ha
     exact⟨a,ha,of_decide_eq_true lJ,h4⟩
    ·cases h4
   ·obtain⟨a,ha,lJ⟩:=mJ g hg
    have:a∈as.filter λa=>decide (a.g=g):=aS.mpr ⟨ha,decide_eq_true lJ⟩
    rw[h1]at this
    cases this
  exact⟨λi h1 h2 a ha=>(key i h1 h2 a.g (ok.right a ha).g).1 a ha rfl,λi h1 h2 g hg=>(key i h1 h2 g hg).2⟩
theorem Mx.on {as:List cy}{many hi:Nat}{V:Nat->Nat->Int}(h:Mx as many (dep as) (dep as+hi) V):Mx as many (dep as) hi λr g=>V (dep as+r) g:=by
 refine⟨λi h1 h2 a ha=>?_,λi h1 h2 g hg=>?_⟩
 ·have hb:=se ha
  have:=h.ge (dep as+i) (by omega) (by omega) a ha
  rw[show dep as+i-a.b=dep as+(i-a.b)by omega]at this
  exact this
 ·obtain⟨a,ha,h3,h4⟩:=h.at_ (dep as+i) (by omega) (by omega) g hg
  have hb:=se ha
  rw[show dep as+i-a.b=dep as+(i-a.b)by omega]at h4
  exact⟨a,ha,h3,h4⟩
theorem Again.ever {as:List cy}{many R c f:Nat}{X:Nat->Nat->Int}{L:Nat->Int}(ok:dX many as)(hM:Mx as many (dep as) R X)(hA:Again as many X c f L)(hc:1<=c) :
  ∀n g,g<many->f<=n->(n+c<R->X (n+c) g=X n g+L g)/\(f+dep as<=n->n<R->∃a∈as,a.g=g/\L a.s=L g/\X (n-a.b) a.s+a.t=X n g):=by
 refine N9 ok λn g CK Jk hg hf=>?_
 have car:f+dep as<=n->n<R->∃a∈as,a.g=g/\L a.s=L g/\X (n-a.b) a.s+a.t=X n g:=by
  intro h1 h2
  by_cases h:n<f+dep as+c
  ·exact hA.c g hg n h1 h
  ·obtain⟨p1,p2⟩:=CK (n-c) (by omega) g hg (by omega)
   obtain⟨a,ha,q1,q2,q3⟩:=p2 (by omega) (by omega)
   have hb:=se ha
   have e1:=p1 (by omega)
   have e2:=(CK (n-c-a.b) (by omega) a.s (ok.right a ha).s (by omega)).1 (by omega)
   rw[show n-c-a.b+c=n-a.b by omega]at e2
   rw[show n-c+c=n by omega]at e1
   exact⟨a,ha,q1,q2,by omega⟩
 refine⟨λhR=>?_,car⟩
 by_cases h:n<f+dep as
 ·have:=hA.w (n-f) (by omega) g hg
  rw[show f+(n-f)=n by omega]at this
  omega
 ·have stp:∀a∈as,a.g=g->X (n+c-a.b) a.s=X (n-a.b) a.s+L a.s:=by
   intro a ha lJ
   have hb:=se ha
   have:X (n-a.b+c) a.s=X (n-a.b) a.s+L a.s:=by
    by_cases sM:a.b=0
    ·rw[sM,nG]
     exact(Jk a ha lJ sM (ok.right a ha).s hf).1 hR
    ·exact(CK (n-a.b) (by omega) a.s (ok.right a ha).s (by omega)).1 (by omega)
   rw[←this,show n+c-a.b=n-a.b+c by omega]
  obtain⟨a,ha,p1,p2⟩:=hM.at_ (n+c) (by omega) hR g hg
  obtain⟨b,hb,q1,q2,q3⟩:=car (by omega) (by omega)
  have s1:=stp a ha p1
  have s2:=stp b hb q1
  have g1:=hM.ge n (by omega) (by omega) a ha
  have g2:=hM.ge (n+c) (by omega) hR b hb
  have l1:=hA.a a ha
  rw[p1]at g1 l1
  rw[q1]at g2
  omega
theorem Again.next {as:List cy}{many R c f:Nat}{X:Nat->Nat->Int}{L:Nat->Int}(ok:dX many as)(hM:Mx as many (dep as) R X)(hA:Again as many X c f L)(hc:1<=c)(k:Nat)(h:f+k+dep as+c<=R):Again as many X c (f+k) L:=by
 have ev:=hA.ever ok hM hc
 refine⟨λi hi g hg=>?_,hA.a,λg hg n h1 h2=>(ev n g hg (by omega)).2 (by omega) (by omega)⟩
 have:=(ev (f+k+i) g hg (by omega)).1 (by omega)
 omega
theorem Again.twice {as:List cy}{many R c f:Nat}{X:Nat->Nat->Int}{L:Nat->Int}(ok:dX many as)(hM:Mx as many (dep as) R X)(hA:Again as many X c f L)(hc:1<=c)(h:f+dep as+2*c<=R):Again as many X (2*c) f λg=>2*L g:=by
 have ev:=hA.ever ok hM hc
 refine⟨λi hi g hg=>?_,λa ha=>?_,λg hg n h1 h2=>?_⟩
 ·have e1:=(ev (f+i) g hg (by omega)).1 (by omega)
  have e2:=(ev (f+i+c) g hg (by omega)).1 (by omega)
  rw[show f+i+c+c=f+i+2*c by omega]at e2
  show _=2*L g
  omega
 ·have:=hA.a a ha
  show 2*L a.s<=2*L a.g
  omega
 ·obtain⟨a,ha,q1,q2,q3⟩:=(ev n g hg (by omega)).2 (by omega) (by omega)
  exact⟨a,ha,q1,by show 2*L a.s=2*L g;rw[q2],q3⟩
def R7 (ρ:L3.Env):Nat:=match ρ with
 |[_,_,_,_,some (.int d)]=>d.toNat
 |_=>0
def pT (many:Nat)(X:Nat->Nat->Int)(c:Nat)(L:Nat->Int)(n:Nat):Prop:=∀g,g<many->X (n+c) g-X n g=L g
instance (many:Nat) (X:Nat->Nat->Int) (c:Nat) (L:Nat->Int) (n:Nat):Decidable (pT many X c L n):=by unfold pT;infer_instance
theorem Wd {many m k c:Nat}{X:Nat->Nat->Int}{L:Nat->Int}(hm:many<=1000)(gZ:m<=1000)(h:k+c<m):∃f:Nat,v8 [.lst (aJ many m X),.int (k:Int),.int (c:Int),.lst (bx many L)]=some (.int (f:Int))/\f<=k/\(∀n,f<=n->n<k->pT many X c L n)/\(f=0\/¬pT many X c L (f-1)):=by
 have Fd:∀d:Nat,d<=k->bAnd (tb (e2 oN (eV 4) (eC (.int 0)))) (tb (e2 (fV false) (λρ=>((aCons (eV 0) (aCons (e2 gb (eV 4) (eC (.int 1))) (aCons (eV 2) aNil))) ρ).bind λds=>jb (ds++[])) (eV 3))) [some (.lst (aJ many m X)),some (.int (k:Int)),some (.int (c:Int)),some (.lst (bx many L)),some (.int (d:Int))]=some (decide (0<d/\pT many X c L (d-1))):=by
  intro d hd
  by_cases h0:d=0
  ·subst h0
   rw[decide_eq_false (λz=>absurd z.1 (by omega))]
   have e0:((0:Nat):Int)=0:=rfl
   rw[e0]
   generalize aJ many m X=rs,bx many L=vl at *
   clear hm gZ h hd e0
   walk_at "mir"
  ·have g1:=Km (many:=many) (m:=m) (f:=d-1) (c:=c) (X:=X) hm (by omega)
   have ev:=KS false many (λg=>X (d-1+c) g-X (d-1) g) L
   rw[if_neg (by decide)]at ev
   have e1:((d-1:Nat):Int)=(d:Int)-1:=by omega
   rw[e1]at g1
   have rT:decide (0<d/\pT many X c L (d-1))=decide (∀g,g<many->X (d-1+c) g-X (d-1) g=L g):=by
    apply decide_eq_decide.mpr
    exact⟨λz=>z.2,λz=>⟨by omega,z⟩⟩
   rw[rT]
   have gt:(d:Int) > 0:=by omega
   generalize decide (∀g,g<many->X (d-1+c) g-X (d-1) g=L g)=bb,(bx many λg=>X (d-1+c) g-X (d-1) g)=v,aJ many m X=rs,bx many L=vl at *
   clear hm gZ h hd e1 rT
   walk_at "mir"
 obtain⟨ρ',h1,⟨d,rfl,hd,hI⟩,hc⟩:=Kc (c:=bAnd (tb (e2 oN (eV 4) (eC (.int 0)))) (tb (e2 (fV false) (λρ=>((aCons (eV 0) (aCons (e2 gb (eV 4) (eC (.int 1))) (aCons (eV 2) aNil))) ρ).bind λds=>jb (ds++[])) (eV 3)))) (b:=ui)
  (λρ=>∃d:Nat,ρ=[some (.lst (aJ many m X)),some (.int (k:Int)),some (.int (c:Int)),some (.lst (bx many L)),some (.int (d:Int))]/\d<=k/\∀n,d<=n->n<k->pT many X c L n) R7 (by
   rintro ρ ⟨d,rfl,hd,hI⟩
   refine⟨_,Fd d hd,λht=>?_⟩
   obtain⟨t1,t2⟩:=of_decide_eq_true ht
   refine⟨[some (.lst (aJ many m X)),some (.int (k:Int)),some (.int (c:Int)),some (.lst (bx many L)),some (.int ((d-1:Nat):Int))],.inl ?_,⟨d-1,rfl,by omega,λn RH qN=>?_⟩,?_⟩
   ·have e1:((d-1:Nat):Int)=(d:Int)-1:=by omega
    rw[e1]
    generalize aJ many m X=rs,bx many L=vl at *
    unfold ui rq i2
    clear hm gZ h hd e1 hI Fd ht t1 t2
    walk_at "mir"
   ·by_cases he:n=d-1
    ·rw[he];exact t2
    ·exact hI n (by omega) qN
   ·show((d-1:Nat):Int).toNat<(d:Int).toNat
    omega) ni [some (.lst (aJ many m X)),some (.int (k:Int)),some (.int (c:Int)),some (.lst (bx many L)),some (.int (k:Int))] ⟨k,rfl,aE _,λn h1 h2=>by omega⟩ (OG (by show(k:Int).toNat<1048576;omega))
 refine⟨d,?_,hd,hI,?_⟩
 ·unfold v8 lA
  clear Fd hc
  generalize (bAnd (tb (e2 oN (eV 4) (eC (.int 0)))) (tb (e2 (fV false) (λρ=>((aCons (eV 0) (aCons (e2 gb (eV 4) (eC (.int 1))) (aCons (eV 2) aNil))) ρ).bind λds=>jb (ds++[])) (eV 3))))=cc,aJ many m X=rs,bx many L=vl at *
  clear hm gZ h hd hI
  walk_at "mir"
 ·rw[Fd d hd]at hc
  have hc:¬(0<d/\pT many X c L (d-1)):=by simpa using hc
  by_cases h0:d=0
  ·exact .inl h0
  ·exact .inr λz=>hc ⟨by omega,z⟩
theorem zss (neg:Bool)(F:List Nat):fV neg (.lst (bC F)) (.lst [])=some (.bl (if neg then !decide (F=[])else decide (F=[]))):=by
 have:=(El Ei).eq (by decide) (neg:=neg) (F.map λ(x:Nat)=>(x:Int)) []
 have e:(El Ei).enc (F.map λ(x:Nat)=>(x:Int))=.lst (bC F):=by
  show D.lst ((F.map λ(x:Nat)=>(x:Int)).map D.int)=_
  rw[cK];rfl
 rw[e]at this
 have hd:decide ((F.map λ(x:Nat)=>(x:Int))=[])=decide (F=[]):=decide_eq_decide.mpr (by simp)
 rw[hd]at this
 exact this
theorem Zo {ns:List D}{as:List cy}{many:Nat}(ok:dX many as)(hn:ns.length=many)(mJ:∀g,g<many->∃a∈as,a.g=g):u3 [bO ns as]=some .non:=by
 have hl:=ok.len
 have hm:=ok.le
 have lp:=uo (g:=gV 1) (b:=v7) (λ(g:Nat)=>D.int (g:Int)) (λ_=>true) (λρ=>∃y1,ρ=[some (bO ns as),y1]) (.bl false) (ak many) [some (bO ns as),none] ⟨_,rfl⟩ (by
  rintro g hg ρ ⟨y1,rfl⟩
  have hg:=aA.mp hg
  refine⟨_,rfl,.inl ⟨rfl,[some (bO ns as),some (.int (g:Int))],?_,_,rfl⟩⟩
  show v7 [some (bO ns as),some (.int (g:Int))]=_
  have i1:=N8 (ns:=ns) (as:=as) (by omega) g
  have ne:into as g≠[]:=by
   obtain⟨a,ha,lJ⟩:=mJ g hg
   obtain⟨i,hi,e⟩:=cR.mp ha
   intro z
   have:i∈into as g:=eA.mpr ⟨(a,i),aS.mpr ⟨kT.mpr (by rw[←e];exact gF hi),decide_eq_true lJ⟩,rfl⟩
   rw[z]at this;cases this
  have ev:=zss false (into as g)
  rw[if_neg (by decide),decide_eq_false ne]at ev
  generalize bC (into as g)=is,bO ns as=net at *
  unfold v7
  clear hl hm hg ne mJ ok hn
  walk_at "mir")
 rcases lp with⟨_,ρ',h2,y1,rfl⟩|⟨h1,_⟩
 ·have QR:gA [.int (many:Int)]=some ((ak many).map λ(g:Nat)=>D.int (g:Int)):=by
   rw[EH (by omega) (by omega),km];simp[eQ]
  have f1:=qp ns as
  have l1:dH [.lst ns]=some (.int (many:Int)):=by rw[jq,hn]
  generalize ((ak many).map λ(g:Nat)=>D.int (g:Int))=rg,bO ns as=net at *
  unfold u3
  clear hl hm mJ ok hn
  walk_at "mir"
 ·have:(ak many).all (λ_=>true)=true:=by simp
  rw[this]at h1;cases h1
theorem Nq {α:Type}{g:D->L3.Env->Option L3.Env}{b:SF}(enc:α->D)(I:L3.Env->Prop)(N:α->Prop)(R:α->D->Prop):∀(xs:List α) (ρ:L3.Env),I ρ->(∀x∈xs,∀ρ,I ρ->∃ρ1,g (enc x) ρ=some ρ1/\((N x/\∃ρ2,b ρ1=some (.nx ρ2)/\I ρ2)\/∃w,R x w/\b ρ1=some (.rt w))) ->
  ((∀x∈xs,N x)/\∃ρ',eF g b (xs.map enc) ρ=some (.nx ρ')/\I ρ')\/∃pre x post w,xs=pre++x::post/\(∀y∈pre,N y)/\R x w/\eF g b (xs.map enc) ρ=some (.rt w)
 |[],ρ,h,_=>.inl ⟨λ_ h=>(by cases h),ρ,rfl,h⟩
 |x::xs,ρ,h,st=>by
  obtain⟨ρ1,h1,h2⟩:=st x ai ρ h
  have rE:eF g b ((x::xs).map enc) ρ=(g (enc x) ρ).bind λρ1=>(b ρ1).bind λo=>match o with
    |.nx ρ'=>eF g b (xs.map enc) ρ'
    |.ct ρ'=>eF g b (xs.map enc) ρ'
    |.bk ρ'=>some (.nx ρ')
    |.rt d=>some (.rt d):=rfl
  rw[rE,h1,ce]
  rcases h2 with⟨e,ρ2,h2,h3⟩|⟨w,e,h2⟩
  ·rw[h2,ce]
   rcases Nq enc I N R xs ρ2 h3 λy hy=>st y (ao _ hy)with⟨a1,ρ',a2,a3⟩|⟨pre,z,post,w,a1,a2,a3,a4⟩
   ·refine .inl ⟨λy hy=>?_,ρ',a2,a3⟩
    rcases aC.mp hy with rfl|hy
    ·exact e
    ·exact a1 y hy
   ·refine .inr ⟨x::pre,z,post,w,by rw[a1];rfl,λy hy=>?_,a3,a4⟩
    rcases aC.mp hy with rfl|hy
    ·exact e
    ·exact a2 y hy
  ·rw[h2]
   exact .inr ⟨[],x,xs,w,rfl,λ_ h=>(by cases h),e,rfl⟩
theorem Vx {n:Nat}{pre post:List Nat}{x:Nat}(h:ak n=pre++x::post):x<n/\∀y,y<x->y∈pre:=by
 have hl:pre.length=x:=by
  have:=congrArg (λl=>l[pre.length]?) h
  simp only[ek (aE _),Nat.sub_self,List.getElem?_cons_zero]at this
  have h2:pre.length<n:=by
   have:=congrArg iK h
   simp at this;omega
  rw[dL h2]at this
  simpa using this
 refine⟨aA.mp (by rw[h];simp),λy hy=>?_⟩
 have:(ak n)[y]?=(pre++x::post)[y]?:=by rw[h]
 rw[cv (by omega),dL (by have:=congrArg iK h;simp at this;omega)]at this
 exact dw.mpr ⟨y,this.symm⟩
def bo (X:Nat->Nat->Int)(c n g:Nat):Int:=X (n+c) g-X n g
structure Found (as:List cy)(many S:Nat)(X:Nat->Nat->Int)(c f:Nat):Prop where
 c1:1<=c
 cS:c<=S
 ag:Again as many X c (S-c) (bo X c (S-c))
 no:∀c',1<=c'->c'<c->¬Again as many X c' (S-c') (bo X c' (S-c'))
 fS:f<=S-c
 gr:∀n,f<=n->n<S-c->pT many X c (bo X c (S-c)) n
 st:f=0\/¬pT many X c (bo X c (S-c)) (f-1)
def cY (c f:Int)(ls:List D):D:=.tup [.int c,.int f,.lst ls]
theorem Zp {ns:List D}{as:List cy}{many R:Nat}{X:Nat->Nat->Int}{wd:D}(ok:dX many as)(hn:ns.length=many)(mJ:∀g,g<many->∃a∈as,a.g=g)(hR:R<=1000)(qP:uT [bO ns as,.int (R:Int),wd,.non]=some (.lst (aJ many R X))) :
  (wn [bO ns as,.int (R:Int),wd]=some .non/\∀c,1<=c->c<=R-dep as->¬Again as many X c (R-dep as-c) (bo X c (R-dep as-c)))\/∃c f,Found as many (R-dep as) X c f/\wn [bO ns as,.int (R:Int),wd]=some (cY c f (bx many (bo X c (R-dep as-c)))):=by
 have hl:=ok.len
 have hm:=ok.le
 have hd:=zL as
 have lo:=Zo ok hn mJ
 have mb:=EJ (ns:=ns) (as:=as) (by omega)
 have lp:=Nq (g:=gV 5) (b:=uj) (λ(i:Nat)=>D.int (1+(i:Int))) (λρ=>∃y5 y6 y7,ρ=[some (bO ns as),some (.int (R:Int)),some wd,some (.lst (aJ many R X)),some (.int ((R:Int)-(dep as:Int))),y5,y6,y7])
  (λi=>¬Again as many X (1+i) (R-dep as-(1+i)) (bo X (1+i) (R-dep as-(1+i))))
  (λi w=>∃f:Nat,w=cY ((1+i:Nat):Int) f (bx many (bo X (1+i) (R-dep as-(1+i))))/\Again as many X (1+i) (R-dep as-(1+i)) (bo X (1+i) (R-dep as-(1+i)))/\f<=R-dep as-(1+i)/\(∀n,f<=n->n<R-dep as-(1+i)->pT many X (1+i) (bo X (1+i) (R-dep as-(1+i))) n)/\(f=0\/¬pT many X (1+i) (bo X (1+i) (R-dep as-(1+i))) (f-1)))
  (ak (R-dep as)) [some (bO ns as),some (.int (R:Int)),some wd,some (.lst (aJ many R X)),some (.int ((R:Int)-(dep as:Int))),none,none,none] ⟨_,_,_,rfl⟩ (by
  rintro i hi ρ ⟨y5,y6,y7,rfl⟩
  have hi:=aA.mp hi
  refine⟨[some (bO ns as),some (.int (R:Int)),some wd,some (.lst (aJ many R X)),some (.int ((R:Int)-(dep as:Int))),some (.int (1+(i:Int))),y6,y7],rfl,?_⟩
  have e1:((1+i:Nat):Int)=1+(i:Int):=by omega
  have rT:((R-dep as-(1+i):Nat):Int)=(R:Int)-(dep as:Int)-(1+(i:Int)):=by omega
  have g1:=Km (many:=many) (m:=R) (f:=R-dep as-(1+i)) (c:=1+i) (X:=X) (by omega) (by omega)
  rw[show(λg=>X (R-dep as-(1+i)+(1+i)) g-X (R-dep as-(1+i)) g)=bo X (1+i) (R-dep as-(1+i))from rfl]at g1
  obtain⟨b,Rm,wQ⟩:=zsr (ns:=ns) (as:=as) (many:=many) (m:=R) (c:=1+i) (f:=R-dep as-(1+i)) (X:=X) (L:=bo X (1+i) (R-dep as-(1+i))) ok hn hR (by omega) (by omega)
  obtain⟨f,LM,rX,IE,IF⟩:=Wd (many:=many) (m:=R) (k:=R-dep as-(1+i)) (c:=1+i) (X:=X) (L:=bo X (1+i) (R-dep as-(1+i))) (by omega) hR (by omega)
  rw[e1,rT]at g1 Rm LM
  cases b with
  |false=>
   refine .inl ⟨λz=>absurd (wQ.mpr z) (by decide),[some (bO ns as),some (.int (R:Int)),some wd,some (.lst (aJ many R X)),some (.int ((R:Int)-(dep as:Int))),some (.int (1+(i:Int))),some (.int ((R:Int)-(dep as:Int)-(1+(i:Int)))),some (.lst (bx many (bo X (1+i) (R-dep as-(1+i)))))],?_,_,_,_,rfl⟩
   generalize bx many (bo X (1+i) (R-dep as-(1+i)))=vl,aJ many R X=rs,bO ns as=net at *
   unfold uj
   clear hl hm hd lo mb hi e1 rT wQ LM rX IE IF mJ ok hn qP hR
   walk_at "mir"
  |true=>
   refine .inr ⟨_,⟨f,rfl,wQ.mp rfl,rX,IE,IF⟩,?_⟩
   rw[e1]
   unfold cY
   generalize bx many (bo X (1+i) (R-dep as-(1+i)))=vl,aJ many R X=rs,bO ns as=net at *
   unfold uj
   clear hl hm hd lo mb hi e1 rT wQ rX IE IF mJ ok hn qP hR
   walk_at "mir")
 have er:iO [.int 1,.int ((R:Int)-(dep as:Int)+1)]=some ((ak (R-dep as)).map λ(i:Nat)=>D.int (1+(i:Int))):=by
  by_cases hh:dep as<=R
  ·rw[zI (by omega) (by omega) (by omega) (by omega),show((R:Int)-(dep as:Int)+1-1).toNat=R-dep as by omega]
   rfl
  ·have:dep as<=4:=zP λa ha=>(ok.right a ha).b
   rw[zI (by omega) (by omega) (by omega) (by omega),show((R:Int)-(dep as:Int)+1-1).toNat=R-dep as by omega]
   rfl
 rcases lp with⟨h1,ρ',h2,y5,y6,y7,rfl⟩|⟨pre,i,post,w,h1,h2,⟨f,rfl,q1,q2,q3,q4⟩,h3⟩
 ·refine .inl ⟨?_,λc pA wW=>?_⟩
  ·generalize ((ak (R-dep as)).map λ(i:Nat)=>D.int (1+(i:Int)))=rg at *
   generalize aJ many R X=rs,bO ns as=net at *
   unfold wn
   clear hl hm hd h1 mJ ok hn hR
   walk_at "mir"
  ·have:=h1 (c-1) (aA.mpr (by omega))
   rw[show 1+(c-1)=c by omega]at this
   exact this
 ·obtain⟨hi,mK⟩:=Vx h1
  refine .inr ⟨1+i,f,⟨by omega,by omega,q1,λc' pA wW=>?_,q2,q3,q4⟩,?_⟩
  ·have:=h2 (c'-1) (mK _ (by omega))
   rw[show 1+(c'-1)=c' by omega]at this
   exact this
  ·generalize cY ((1+i:Nat):Int) f (bx many (bo X (1+i) (R-dep as-(1+i))))=w at *
   clear h1 q1 q2 q3 q4 h2 mK hi hl hm hd mJ ok hn hR
   generalize ((ak (R-dep as)).map λ(i:Nat)=>D.int (1+(i:Int)))=rg,aJ many R X=rs,bO ns as=net at *
   unfold wn
   walk_at "mir"
def rD (X:Nat->Nat->Int)(L:Nat->Int)(n g:Nat)(a:cy):Bool:=decide (a.g=g/\L a.s=L g/\X (n-a.b) a.s+a.t=X n g)
theorem Zq {as:List cy}{many m n g:Nat}{X:Nat->Nat->Int}{L:Nat->Int}(hn:n<m)(hg:g<many)(hs:∀a∈as,a.b<=n/\a.s<many):jk [.lst (as.map bV),.lst (aJ many m X),.lst (bx many L),.int (g:Int),.int (n:Int)]=some (.bl (as.any (rD X L n g))):=by
 have lp:=uo (g:=gT (gsCons (gV 5) (gsCons (gV 6) (gsCons (gV 7) (gsCons (gV 8) gsNil))))) (b:=vm) bV (λa=>!rD X L n g a) (λρ=>∃y5 y6 y7 y8,ρ=[some (.lst (as.map bV)),some (.lst (aJ many m X)),some (.lst (bx many L)),some (.int (g:Int)),some (.int (n:Int)),y5,y6,y7,y8]) (.bl true) as [some (.lst (as.map bV)),some (.lst (aJ many m X)),some (.lst (bx many L)),some (.int (g:Int)),some (.int (n:Int)),none,none,none,none] ⟨_,_,_,_,rfl⟩ (by
  rintro a ha ρ ⟨y5,y6,y7,y8,rfl⟩
  obtain⟨h1,h2⟩:=hs a ha
  refine⟨[some (.lst (as.map bV)),some (.lst (aJ many m X)),some (.lst (bx many L)),some (.int (g:Int)),some (.int (n:Int)),some (.int (a.s:Int)),some (.int (a.g:Int)),some (.int a.t),some (.int (a.b:Int))],rfl,?_⟩
  have i1:=v9 (n:=many) (X:=X) (i:=n-a.b) (m:=m) (by omega)
  have e:((n-a.b:Nat):Int)=(n:Int)-(a.b:Int):=by omega
  rw[e]at i1
  have i2:=qv (f:=X (n-a.b)) h2
  have i3:=v9 (n:=many) (X:=X) (i:=n) (m:=m) hn
  have i4:=qv (f:=X n) hg
  have i5:=qv (f:=L) h2
  have i6:=qv (f:=L) hg
  have q1:fV false (.int (a.g:Int)) (.int (g:Int))=some (.bl (decide (a.g=g))):=(zb0 _ _).trans (by rw[if_neg (by decide),show decide ((a.g:Int)=(g:Int))=decide (a.g=g)from decide_eq_decide.mpr (by omega)])
  have q2:fV false (.int (L a.s)) (.int (L g))=some (.bl (decide (L a.s=L g))):=(zb0 _ _).trans (by rw[if_neg (by decide)])
  have q3:fV false (.int (X (n-a.b) a.s+a.t)) (.int (X n g))=some (.bl (decide (X (n-a.b) a.s+a.t=X n g))):=(zb0 _ _).trans (by rw[if_neg (by decide)])
  have ht:rD X L n g a=(decide (a.g=g)&&(decide (L a.s=L g)&&decide (X (n-a.b) a.s+a.t=X n g))):=by
   unfold rD
   simp only[Bool.decide_and]
  rw[ht]
  generalize decide (a.g=g)=b1,decide (L a.s=L g)=b2,decide (X (n-a.b) a.s+a.t=X n g)=b3,as.map bV=al,aJ many m X=rs,bx many (X (n-a.b))=v1,bx many (X n)=v2,bx many L=vl at *
  generalize X (n-a.b) a.s=w1,X n g=w2,L a.s=w3,L g=w4 at *
  clear hs h1 h2 ha hn hg e ht
  cases b1 with
  |false=>
   refine .inl ⟨rfl,[some (.lst al),some (.lst rs),some (.lst vl),some (.int (g:Int)),some (.int (n:Int)),some (.int (a.s:Int)),some (.int (a.g:Int)),some (.int a.t),some (.int (a.b:Int))],?_,_,_,_,_,rfl⟩
   unfold vm
   walk_at "mir"
  |true=>
   cases b2 with
   |false=>
    refine .inl ⟨rfl,[some (.lst al),some (.lst rs),some (.lst vl),some (.int (g:Int)),some (.int (n:Int)),some (.int (a.s:Int)),some (.int (a.g:Int)),some (.int a.t),some (.int (a.b:Int))],?_,_,_,_,_,rfl⟩
    unfold vm
    walk_at "mir"
   |true=>
    cases b3 with
    |false=>
     refine .inl ⟨rfl,[some (.lst al),some (.lst rs),some (.lst vl),some (.int (g:Int)),some (.int (n:Int)),some (.int (a.s:Int)),some (.int (a.g:Int)),some (.int a.t),some (.int (a.b:Int))],?_,_,_,_,_,rfl⟩
     unfold vm
     walk_at "mir"
    |true=>
     refine .inr ⟨rfl,?_⟩
     unfold vm
     walk_at "mir")
 have ha:(as.all λa=>!rD X L n g a) = !as.any (rD X L n g):=by rw[List.not_any_eq_all_not]
 rcases lp with⟨h1,ρ',h2,y5,y6,y7,y8,rfl⟩|⟨h1,h2⟩
 ·rw[ha]at h1
  have h1:as.any (rD X L n g)=false:=by simpa using h1
  rw[h1]
  generalize as.map bV=al,aJ many m X=rs,bx many L=vl at *
  unfold jk
  clear hs hn hg ha h1
  walk_at "mir"
 ·rw[ha]at h1
  have h1:as.any (rD X L n g)=true:=by simpa using h1
  rw[h1]
  generalize as.map bV=al,aJ many m X=rs,bx many L=vl at *
  unfold jk
  clear hs hn hg ha h1
  walk_at "mir"
def oy (cell most:Int)(k g:Nat):Int:=(iz cell (20*(k:Int)+(g:Int)):Int)*7919%most
theorem zte {ns:List Int}{many dp:Nat}(hm:many<=8)(hd:dp<=4):∃wd:D,ED [.lst (ns.map .int),.int (many:Int),.int (dp:Int)]=some wd/\(wd=.non\/∃W:Nat->Nat->Int,wd=.lst (aJ many dp W)):=by
 obtain⟨cell,ma⟩:=Gy ns 2 (by decide)
 by_cases h4:cell%4=0
 ·refine⟨.non,?_,.inl rfl⟩
  unfold ED
  clear hm hd
  walk_at "mir"
 ·obtain⟨most,Cq,oa⟩:∃most:Int,di (.lst [.int 41,.int 41,.int 1000000000000]) (.int (cell/4%3))=some (.int most)/\0<most:=by
   have:cell/4%3=0\/cell/4%3=1\/cell/4%3=2:=by omega
   rcases this with h|h|h<;>rw[h]
   ·exact⟨41,rfl,by decide⟩
   ·exact⟨41,rfl,by decide⟩
   ·exact⟨1000000000000,rfl,by decide⟩
  have q1:∀(r:L3.Env) (k:Nat),k<=1000->r[0]?.join=some (.int (k:Int))->r[1]?.join=some (.int (many:Int))->r[2]?.join=some (.int cell)->r[3]?.join=some (.int most)->Nd r=some (.lst (bx many (oy cell most k))):=λr k hk h0 h1 h2 h3=>by
   refine xx (λ(g:Nat)=>D.int (g:Int)) (λg=>D.int (oy cell most k g)) (ak many) (uR h1 (by omega)) (by rw[aW];omega) λg hg=>⟨_,rfl,?_⟩
   have hg:=aA.mp hg
   have e8:dS r [2,0,3]=[some (.int cell),some (.int (k:Int)),some (.int most)]:=by unfold dS;simp[h0,h2,h3]
   rw[e8]
   obtain⟨m1,m2⟩:=Gw cell (k:=20*(k:Int)+(g:Int)) (by omega) (by omega)
   have a1:gz (.int 20) (.int (k:Int))=some (.int (20*(k:Int))):=zds (by decide) (by decide)
   unfold oy
   generalize iz cell (20*(k:Int)+(g:Int))=z at *
   have a2:gz (.int (z:Int)) (.int 7919)=some (.int ((z:Int)*7919)):=zka (by decide) (by decide)
   have a3:eh (.int ((z:Int)*7919)) (.int most)=some (.int ((z:Int)*7919%most)):=j7 oa
   clear e8 h0 h1 h2 h3 hk hg m2 oa hm hd Cq ma h4
   walk_at "mir"
  refine⟨.lst (aJ many dp (oy cell most)),?_,.inr ⟨_,rfl⟩⟩
  have q2:Nr [some (.lst (ns.map .int)),some (.int (many:Int)),some (.int (dp:Int)),some (.int cell),some (.int most)]=some (.lst (aJ many dp (oy cell most))):=by
   refine xx (λ(k:Nat)=>D.int (k:Int)) (λk=>D.lst (bx many (oy cell most k))) (ak dp) (uR rfl (by omega)) (by rw[aW];omega) λk hk=>⟨_,rfl,?_⟩
   have hk:=aA.mp hk
   exact q1 _ k (by omega) rfl rfl rfl rfl
  generalize aJ many dp (oy cell most)=rs at *
  unfold ED
  clear q1 oa hm hd
  walk_at "mir"
theorem N4 {α:Type}(f g h:α->D):∀xs:List α,fD (xs.map f) (xs.map g) (xs.map h)=xs.map λx=>.tup [f x,g x,h x]
 |[]=>rfl
 |x::xs=>by
  show .tup [f x,g x,h x]::fD (xs.map f) (xs.map g) (xs.map h)=_
  rw[N4 f g h xs];rfl
def P1 (many:Nat)(X:Nat->Nat->Int)(L:Nat->Int)(c n:Nat):Bool:=(ak many).all λg=>decide (X (n+c) g=X n g+L g)
def P3 (as:List cy)(many:Nat)(X:Nat->Nat->Int)(L:Nat->Int)(n:Nat):Bool:=(ak many).all λg=>as.any (rD X L n g)
def Hb (as:List cy)(many:Nat)(X:Nat->Nat->Int)(c f:Nat)(L:Nat->Int):Bool:=((ak (dep as)).all λi=>P1 many X L c (f+i))&&(decide ((as.filter λa=>decide (L a.g<L a.s))=[])&&((ak c).all λi=>P3 as many X L (f+dep as+i)))
theorem Gz {as:List cy}{many:Nat}{X:Nat->Nat->Int}{c f:Nat}{L:Nat->Int}:Hb as many X c f L=true↔Again as many X c f L:=by
 unfold Hb P1 P3
 rw[bt,bt,decide_eq_true_iff]
 constructor
 ·rintro⟨h1,h2,h3⟩
  refine⟨λi hi g hg=>?_,λa ha=>?_,λg hg n n1 n2=>?_⟩
  ·have:=bp.mp (bp.mp h1 i (aA.mpr hi)) g (aA.mpr hg)
   have:=of_decide_eq_true this
   omega
  ·have:=hJ.mp h2 a ha
   have:¬L a.g<L a.s:=by simpa using this
   omega
  ·have:=bp.mp (bp.mp h3 (n-(f+dep as)) (aA.mpr (by omega))) g (aA.mpr hg)
   obtain⟨a,ha,e⟩:=fm.mp this
   rw[show f+dep as+(n-(f+dep as))=n by omega]at e
   exact⟨a,ha,of_decide_eq_true e⟩
 ·intro h
  refine⟨bp.mpr λi hi=>bp.mpr λg hg=>decide_eq_true ?_,hJ.mpr λa ha=>?_,bp.mpr λi hi=>bp.mpr λg hg=>?_⟩
  ·have:=h.w i (aA.mp hi) g (aA.mp hg)
   omega
  ·have:=h.a a ha
   simp
   omega
  ·obtain⟨a,ha,e⟩:=h.c g (aA.mp hg) (f+dep as+i) (by omega) (by have:=aA.mp hi;omega)
   exact fm.mpr ⟨a,ha,decide_eq_true e⟩
section
variable {as:List cy}{many m c f:Nat}{X:Nat->Nat->Int}{L:Nat->Int}{A0 R0 c0 f0 d0:Option D}
theorem Zr {n:Nat}(hm:many<=1000)(h:n+c<m)(y7 y8 y9 gc:Option D) :
  (P1 many X L c n=true/\∃z7 z8 z9,vo [A0,some (.lst (aJ many m X)),some (.int (c:Int)),f0,d0,some (.lst (bx many L)),some (.int (n:Int)),y7,y8,y9,gc]=some (.nx [A0,some (.lst (aJ many m X)),some (.int (c:Int)),f0,d0,some (.lst (bx many L)),some (.int (n:Int)),z7,z8,z9,gc])) \/
  (P1 many X L c n=false/\vo [A0,some (.lst (aJ many m X)),some (.int (c:Int)),f0,d0,some (.lst (bx many L)),some (.int (n:Int)),y7,y8,y9,gc]=some (.rt (.bl false))):=by
 have i1:=v9 (n:=many) (X:=X) (i:=n) (m:=m) (by omega)
 have i2:=v9 (n:=many) (X:=X) (i:=n+c) (m:=m) h
 have e:((n+c:Nat):Int)=(n:Int)+(c:Int):=by omega
 rw[e]at i2
 have hz:((aCons (e2 di (eV 1) (eV 6)) (aCons (e2 di (eV 1) (e2 cz (eV 6) (eV 2))) (aCons (eV 5) aNil))) [A0,some (.lst (aJ many m X)),some (.int (c:Int)),f0,d0,some (.lst (bx many L)),some (.int (n:Int)),y7,y8,y9,gc]).bind rH=some ((ak many).map λg=>D.tup [.int (X n g),.int (X (n+c) g),.int (L g)]):=by
  have:(aCons (e2 di (eV 1) (eV 6)) (aCons (e2 di (eV 1) (e2 cz (eV 6) (eV 2))) (aCons (eV 5) aNil))) [A0,some (.lst (aJ many m X)),some (.int (c:Int)),f0,d0,some (.lst (bx many L)),some (.int (n:Int)),y7,y8,y9,gc]=some [.lst (bx many (X n)),.lst (bx many (X (n+c))),.lst (bx many L)]:=by
   generalize bx many (X (n+c))=v2,bx many (X n)=v1,bx many L=v3,aJ many m X=rs at *
   clear hm h e
   walk_at "mir"
  rw[this]
  show some (fD (bx many (X n)) (bx many (X (n+c))) (bx many L))=_
  unfold bx
  rw[N4]
 have rE:vo [A0,some (.lst (aJ many m X)),some (.int (c:Int)),f0,d0,some (.lst (bx many L)),some (.int (n:Int)),y7,y8,y9,gc]=eF (gT (gsCons (gV 7) (gsCons (gV 8) (gsCons (gV 9) gsNil)))) um ((ak many).map λg=>D.tup [.int (X n g),.int (X (n+c) g),.int (L g)]) [A0,some (.lst (aJ many m X)),some (.int (c:Int)),f0,d0,some (.lst (bx many L)),some (.int (n:Int)),y7,y8,y9,gc]:=by
  unfold vo sFor
  dsimp only
  rw[hz]
  rfl
 rw[rE]
 rcases uo (g:=gT (gsCons (gV 7) (gsCons (gV 8) (gsCons (gV 9) gsNil)))) (b:=um) (λ(g:Nat)=>D.tup [.int (X n g),.int (X (n+c) g),.int (L g)]) (λg=>decide (X (n+c) g=X n g+L g)) (λρ=>∃z7 z8 z9,ρ=[A0,some (.lst (aJ many m X)),some (.int (c:Int)),f0,d0,some (.lst (bx many L)),some (.int (n:Int)),z7,z8,z9,gc]) (.bl false) (ak many) _ ⟨y7,y8,y9,rfl⟩ (by
  rintro g _ ρ ⟨z7,z8,z9,rfl⟩
  refine⟨[A0,some (.lst (aJ many m X)),some (.int (c:Int)),f0,d0,some (.lst (bx many L)),some (.int (n:Int)),some (.int (X n g)),some (.int (X (n+c) g)),some (.int (L g)),gc],rfl,?_⟩
  generalize aJ many m X=rs,bx many L=vl,X n g=x1,X (n+c) g=x2,L g=x3 at *
  clear i1 i2 e hm h hz rE
  by_cases hx:x2=x1+x3
  ·refine .inl ⟨decide_eq_true hx,[A0,some (.lst rs),some (.int (c:Int)),f0,d0,some (.lst vl),some (.int (n:Int)),some (.int x1),some (.int x2),some (.int x3),gc],?_,_,_,_,rfl⟩
   unfold um
   walk_at "mir"
  ·refine .inr ⟨decide_eq_false hx,?_⟩
   unfold um
   walk_at "mir")with⟨h1,ρ',h2,z7,z8,z9,rfl⟩|⟨h1,h2⟩
 ·exact .inl ⟨h1,z7,z8,z9,h2⟩
 ·exact .inr ⟨h1,h2⟩
theorem Zs {n:Nat}(hm:many<=1000)(h:n<m)(hs:∀a∈as,a.b<=n/\a.s<many)(y7 y8 y9 gc:Option D) :
  (P3 as many X L n=true/\∃z10,vn [some (.lst (as.map bV)),some (.lst (aJ many m X)),c0,f0,d0,some (.lst (bx many L)),some (.int (n:Int)),y7,y8,y9,gc]=some (.nx [some (.lst (as.map bV)),some (.lst (aJ many m X)),c0,f0,d0,some (.lst (bx many L)),some (.int (n:Int)),y7,y8,y9,z10])) \/
  (P3 as many X L n=false/\vn [some (.lst (as.map bV)),some (.lst (aJ many m X)),c0,f0,d0,some (.lst (bx many L)),some (.int (n:Int)),y7,y8,y9,gc]=some (.rt (.bl false))):=by
 have l5:dH [.lst (bx many L)]=some (.int (many:Int)):=(jq _).trans (by rw[Gv])
 have rE:vn [some (.lst (as.map bV)),some (.lst (aJ many m X)),c0,f0,d0,some (.lst (bx many L)),some (.int (n:Int)),y7,y8,y9,gc]=eF (gV 10) ul ((ak many).map λ(t:Nat)=>D.int (t:Int)) [some (.lst (as.map bV)),some (.lst (aJ many m X)),c0,f0,d0,some (.lst (bx many L)),some (.int (n:Int)),y7,y8,y9,gc]:=by
  unfold vn sFor
  dsimp only
  rw[uR (f:=eN dH (aCons (eV 5) aNil)) (r:=[some (.lst (as.map bV)),some (.lst (aJ many m X)),c0,f0,d0,some (.lst (bx many L)),some (.int (n:Int)),y7,y8,y9,gc]) (n:=many) l5 (by omega)]
  rfl
 rw[rE]
 rcases uo (g:=gV 10) (b:=ul) (λ(g:Nat)=>D.int (g:Int)) (λg=>as.any (rD X L n g)) (λρ=>∃z10,ρ=[some (.lst (as.map bV)),some (.lst (aJ many m X)),c0,f0,d0,some (.lst (bx many L)),some (.int (n:Int)),y7,y8,y9,z10]) (.bl false) (ak many) _ ⟨gc,rfl⟩ (by
  rintro g hg ρ ⟨z10,rfl⟩
  have tt:=Zq (X:=X) (L:=L) h (aA.mp hg) hs
  refine⟨[some (.lst (as.map bV)),some (.lst (aJ many m X)),c0,f0,d0,some (.lst (bx many L)),some (.int (n:Int)),y7,y8,y9,some (.int (g:Int))],rfl,?_⟩
  generalize aJ many m X=rs,bx many L=vl,as.map bV=al,as.any (rD X L n g)=bb at *
  clear hm h hs hg rE l5
  cases bb with
  |true=>
   refine .inl ⟨rfl,[some (.lst al),some (.lst rs),c0,f0,d0,some (.lst vl),some (.int (n:Int)),y7,y8,y9,some (.int (g:Int))],?_,_,rfl⟩
   unfold ul
   walk_at "mir"
  |false=>
   refine .inr ⟨rfl,?_⟩
   unfold ul
   walk_at "mir")with⟨h1,ρ',h2,z10,rfl⟩|⟨h1,h2⟩
 ·exact .inl ⟨h1,z10,h2⟩
 ·exact .inr ⟨h1,h2⟩
end
theorem ztf {as:List cy}(hl:as.length<=1000)(r:L3.Env)(h0:r[0]?.join=some (.lst (as.map bV))):M8 r=some (.lst (as.map λa=>D.int (a.b:Int))) :=
 xx bV (λa=>D.int (a.b:Int)) as (by unfold lsD;have:eV 0 r=_:=h0;rw[this];rfl) (by omega) λa _=>⟨_,rfl,rfl⟩
theorem Ob {many f c:Nat}{X:Nat->Nat->Int}(hm:many<=1000){fi:L3.Env->Option (List D)}{r:L3.Env}(hi:fi r=some (iU (bx many (X f)) (bx many (X (f+c))))):cX fi 2 [] (gT (gsCons (gV 0) (gsCons (gV 1) gsNil))) dR (e2 gb (eV 1) (eV 0)) r=some (.lst (bx many (bo X c f))):=by
 refine xx (λ(g:Nat)=>D.tup [.int (X f g),.int (X (f+c) g)]) (λg=>D.int (bo X c f g)) (ak many) ?_ (by rw[aW];omega) λg _=>⟨_,rfl,rfl⟩
 rw[hi]
 unfold bx
 rw[Kl]
theorem Kn {a b:Nat}(h1:a<=1000000)(h2:b<=1000000):iO [.int (a:Int),.int ((a+b:Nat):Int)]=some ((ak b).map λ(i:Nat)=>D.int ((a:Int)+(i:Int))):=by
 rw[zI (by omega) (by omega) (by omega) (by omega),show(((a+b:Nat):Int)-(a:Int)).toNat=b by omega]
 rfl
theorem Gi {as:List cy}{many m c f:Nat}{X:Nat->Nat->Int}(ok:dX many as)(gZ:m<=1000)(h:f+dep as+c<=m)(hc:1<=c):wb [.lst (as.map bV),.lst (aJ many m X),.int (c:Int),.int (f:Int)]=some (.bl (Hb as many X c f (bo X c f))):=by
 have hl:=ok.len
 have hm:=ok.le
 have hd:=zL as
 obtain⟨x1,x2⟩:=KR (as:=as) (by omega)
 have q3:=ztf (as:=as) (by omega) [some (.lst (as.map bV)),some (.lst (aJ many m X)),some (.int (c:Int)),some (.int (f:Int)),none,none,none,none,none,none,none] rfl
 have i1:=v9 (n:=many) (X:=X) (i:=f) (m:=m) (by omega)
 have i2:=v9 (n:=many) (X:=X) (i:=f+c) (m:=m) (by omega)
 have e:((f+c:Nat):Int)=(f:Int)+(c:Int):=by omega
 rw[e]at i2
 have q2:M7 [some (.lst (as.map bV)),some (.lst (aJ many m X)),some (.int (c:Int)),some (.int (f:Int)),some (.int (dep as:Int)),none,none,none,none,none,none]=some (.lst (bx many (bo X c f))):=by
  refine Ob (by omega) ?_
  have:(aCons (e2 di (eV 1) (eV 3)) (aCons (e2 di (eV 1) (e2 cz (eV 3) (eV 2))) aNil)) [some (.lst (as.map bV)),some (.lst (aJ many m X)),some (.int (c:Int)),some (.int (f:Int)),some (.int (dep as:Int)),none,none,none,none,none,none]=some [.lst (bx many (X f)),.lst (bx many (X (f+c)))]:=by
   generalize bx many (X (f+c))=v2,bx many (X f)=v1,aJ many m X=rs,as.map bV=al,(dep as:Int)=dd at *
   clear hm h e hd hl x1 x2 q3 gZ hc ok
   walk_at "mir"
  show((aCons (e2 di (eV 1) (eV 3)) (aCons (e2 di (eV 1) (e2 cz (eV 3) (eV 2))) aNil)) [some (.lst (as.map bV)),some (.lst (aJ many m X)),some (.int (c:Int)),some (.int (f:Int)),some (.int (dep as:Int)),none,none,none,none,none,none]).bind oz=_
  rw[this]
  rfl
 generalize bo X c f=L at *
 have r1:=Kn (a:=f) (b:=dep as) (by omega) (by have:=zP λa ha=>(ok.right a ha).b;omega)
 have r2:=Kn (a:=f+dep as) (b:=c) (by omega) (by omega)
 have e1:((f+dep as:Nat):Int)=(f:Int)+(dep as:Int):=by omega
 have rT:((f+dep as+c:Nat):Int)=(f:Int)+(dep as:Int)+(c:Int):=by omega
 rw[e1]at r1
 rw[rT,e1]at r2
 have Mh:=uo (g:=gV 6) (b:=vo) (λ(i:Nat)=>D.int ((f:Int)+(i:Int))) (λi=>P1 many X L c (f+i)) (λρ=>∃y6 y7 y8 y9 gc,ρ=[some (.lst (as.map bV)),some (.lst (aJ many m X)),some (.int (c:Int)),some (.int (f:Int)),some (.int (dep as:Int)),some (.lst (bx many L)),y6,y7,y8,y9,gc]) (.bl false) (ak (dep as)) [some (.lst (as.map bV)),some (.lst (aJ many m X)),some (.int (c:Int)),some (.int (f:Int)),some (.int (dep as:Int)),some (.lst (bx many L)),none,none,none,none,none] ⟨_,_,_,_,_,rfl⟩ (by
  rintro i hi ρ ⟨y6,y7,y8,y9,gc,rfl⟩
  have hi:=aA.mp hi
  refine⟨[some (.lst (as.map bV)),some (.lst (aJ many m X)),some (.int (c:Int)),some (.int (f:Int)),some (.int (dep as:Int)),some (.lst (bx many L)),some (.int ((f:Int)+(i:Int))),y7,y8,y9,gc],rfl,?_⟩
  have ei:(f:Int)+(i:Int)=((f+i:Nat):Int):=by omega
  rw[ei]
  rcases Zr (many:=many) (X:=X) (L:=L) (c:=c) (m:=m) (n:=f+i) (A0:=some (.lst (as.map bV))) (f0:=some (.int (f:Int))) (d0:=some (.int (dep as:Int))) (by omega) (by omega) y7 y8 y9 gc with⟨a1,z7,z8,z9,a2⟩|⟨a1,a2⟩
  ·exact .inl ⟨a1,_,a2,_,_,_,_,_,rfl⟩
  ·exact .inr ⟨a1,a2⟩)
 have q1:∀y6 y7 y8 y9 gc,M6 [some (.lst (as.map bV)),some (.lst (aJ many m X)),some (.int (c:Int)),some (.int (f:Int)),some (.int (dep as:Int)),some (.lst (bx many L)),y6,y7,y8,y9,gc]=some (.lst ((as.filter λa=>decide (L a.g<L a.s)).map bV)):=by
  intro y6 y7 y8 y9 gc
  refine zK bV (λa=>decide (L a.g<L a.s)) bV as rfl (by omega) λa ha=>⟨[some (bV a),some (.lst (bx many L))],rfl,?_,λ_=>rfl⟩
  have hr:=ok.right a ha
  have v1:=qv (f:=L) hr.s
  have v2:=qv (f:=L) hr.g
  have j0:di (bV a) (.int 0)=some (.int (a.s:Int)):=rfl
  have j1:di (bV a) (.int 1)=some (.int (a.g:Int)):=rfl
  generalize bV a=ea,bx many L=vl,L a.s=l1,L a.g=l2 at *
  clear hr Mh r1 r2 q2 q3 i1 i2 x1 x2 ok hm h e hd hl gZ hc e1 rT
  walk_at "mir"
 have en:=Zk true (as.filter λa=>decide (L a.g<L a.s))
 have Dr:=λy6 y7 y8 y9 gc=>uo (g:=gV 6) (b:=vn) (λ(i:Nat)=>D.int ((f:Int)+(dep as:Int)+(i:Int))) (λi=>P3 as many X L (f+dep as+i)) (λρ=>∃y6 y7 y8 y9 gc,ρ=[some (.lst (as.map bV)),some (.lst (aJ many m X)),some (.int (c:Int)),some (.int (f:Int)),some (.int (dep as:Int)),some (.lst (bx many L)),y6,y7,y8,y9,gc]) (.bl false) (ak c) [some (.lst (as.map bV)),some (.lst (aJ many m X)),some (.int (c:Int)),some (.int (f:Int)),some (.int (dep as:Int)),some (.lst (bx many L)),y6,y7,y8,y9,gc] ⟨_,_,_,_,_,rfl⟩ (by
  rintro i hi ρ ⟨y6,y7,y8,y9,gc,rfl⟩
  have hi:=aA.mp hi
  refine⟨[some (.lst (as.map bV)),some (.lst (aJ many m X)),some (.int (c:Int)),some (.int (f:Int)),some (.int (dep as:Int)),some (.lst (bx many L)),some (.int ((f:Int)+(dep as:Int)+(i:Int))),y7,y8,y9,gc],rfl,?_⟩
  have ei:(f:Int)+(dep as:Int)+(i:Int)=((f+dep as+i:Nat):Int):=by omega
  rw[ei]
  rcases Zs (as:=as) (many:=many) (X:=X) (L:=L) (m:=m) (n:=f+dep as+i) (c0:=some (.int (c:Int))) (f0:=some (.int (f:Int))) (d0:=some (.int (dep as:Int))) (by omega) (by omega) (λa ha=>⟨by have:=se ha;omega,(ok.right a ha).s⟩) y7 y8 y9 gc with⟨a1,z10,a2⟩|⟨a1,a2⟩
  ·exact .inl ⟨a1,_,a2,_,_,_,_,_,rfl⟩
  ·exact .inr ⟨a1,a2⟩)
 unfold Hb
 generalize ((ak (dep as)).all λi=>P1 many X L c (f+i))=B1,((ak c).all λi=>P3 as many X L (f+dep as+i))=B3 at *
 generalize hB2:decide ((as.filter λa=>decide (L a.g<L a.s))=[])=B2 at *
 rw[if_pos rfl]at en
 generalize (as.filter λa=>decide (L a.g<L a.s)).map bV=fl,([.int 1]++as.map λa=>D.int (a.b:Int))=Hc at *
 generalize (as.map λa=>D.int (a.b:Int))=Ha,((ak (dep as)).map λ(i:Nat)=>D.int ((f:Int)+(i:Int)))=rg1,((ak c).map λ(i:Nat)=>D.int ((f:Int)+(dep as:Int)+(i:Int)))=rg2,as.map bV=al,aJ many m X=rs,bx many L=vl at *
 generalize (dep as:Int)=dd at *
 clear i1 i2 e e1 rT hd hl hm h gZ hc ok
 rcases Mh with⟨rfl,ρ',h1,y6,y7,y8,y9,gc,rfl⟩|⟨rfl,h1⟩
 ·have q1:=q1 y6 y7 y8 y9 gc
  have Dr:=Dr y6 y7 y8 y9 gc
  cases B2 with
  |false=>
   clear Dr
   unfold wb
   walk_at "mir"
  |true=>
   rcases Dr with⟨rfl,ρ',h2,z6,z7,z8,z9,z10,rfl⟩|⟨rfl,h2⟩
   ·unfold wb
    walk_at "mir"
   ·unfold wb
    walk_at "mir"
 ·clear q1 Dr
  unfold wb
  walk_at "mir"
theorem Again.congr {as:List cy}{many c f:Nat}{X:Nat->Nat->Int}{L L':Nat->Int}(ok:dX many as)(e:∀g,g<many->L g=L' g)(h:Again as many X c f L):Again as many X c f L':=by
 refine⟨λi hi g hg=>by rw[←e g hg];exact h.w i hi g hg,λa ha=>?_,λg hg n n1 n2=>?_⟩
 ·have hr:=ok.right a ha
  rw[←e _ hr.s,←e _ hr.g]
  exact h.a a ha
 ·obtain⟨a,ha,e1,e2,e3⟩:=h.c g hg n n1 n2
  exact⟨a,ha,e1,by rw[←e _ (ok.right a ha).s,←e g hg];exact e2,e3⟩
theorem Oc {as:List cy}{many c f:Nat}{X:Nat->Nat->Int}{L:Nat->Int}(h:Again as many X c f L):∀g,g<many->bo X c f g=L g:=λg hg=>h.w 0 (zL as) g hg
section
variable {as:List cy}{many R c f:Nat}{X:Nat->Nat->Int}
theorem Found.per (h:Found as many (R-dep as) X c f):∀n,f<=n->n+c<R->∀g,g<many->X (n+c) g-X n g=bo X c (R-dep as-c) g:=by
 intro n h1 h2 g hg
 have Ca:=h.cS
 by_cases hn:n<R-dep as-c
 ·exact h.gr n h1 hn g hg
 ·have:=h.ag.w (n-(R-dep as-c)) (by omega) g hg
  rw[show R-dep as-c+(n-(R-dep as-c))=n by omega]at this
  exact this
theorem Found.len (h:Found as many (R-dep as) X c f):∀g,g<many->bo X c f g=bo X c (R-dep as-c) g:=by
 intro g hg
 have h1:=h.fS
 have h2:=h.cS
 have h3:=zL as
 exact h.per f (aE _) (by have:=h.c1;omega) g hg
theorem Found.car (ok:dX many as)(h:Found as many (R-dep as) X c f):∀(k n:Nat),R<=n+k->f+dep as<=n->n<R->∀g,g<many->∃a∈as,a.g=g/\bo X c (R-dep as-c) a.s=bo X c (R-dep as-c) g/\X (n-a.b) a.s+a.t=X n g
 |0,n,h1,_,h3,_,_=>by omega
 |k+1,n,h1,h2,h3,g,hg=>by
  have Ca:=h.cS
  have pA:=h.c1
  by_cases hn:R<=n+c
  ·exact h.ag.c g hg n (by omega) (by omega)
  ·obtain⟨a,ha,e1,e2,e3⟩:=Found.car ok h k (n+c) (by omega) (by omega) (by omega) g hg
   refine⟨a,ha,e1,e2,?_⟩
   have hb:=se ha
   have p1:=h.per n (by omega) (by omega) g hg
   have p2:=h.per (n-a.b) (by omega) (by omega) a.s (ok.right a ha).s
   rw[show n-a.b+c=n+c-a.b by omega]at p2
   omega
theorem Found.at (ok:dX many as)(h:Found as many (R-dep as) X c f):Again as many X c f (bo X c f):=by
 have h1:=h.fS
 have h2:=h.cS
 have h3:=h.c1
 refine Again.congr ok (λg hg=>(h.len g hg).symm) ⟨λi hi g hg=>h.per (f+i) (by omega) (by omega) g hg,h.ag.a,λg hg n n1 n2=>h.car ok R n (by omega) n1 (by omega) g hg⟩
theorem Found.less (ok:dX many as)(hM:Mx as many (dep as) R X)(h:Found as many (R-dep as) X c f){c':Nat}(h1:1<=c')(h2:c'<c):¬Again as many X c' f (bo X c' f):=by
 intro hA
 have hf:=h.fS
 have hc:=h.cS
 have n1:=hA.next ok hM h1 (R-dep as-c'-f) (by omega)
 rw[show f+(R-dep as-c'-f)=R-dep as-c' by omega]at n1
 exact h.no c' h1 h2 (n1.congr ok λg hg=>(Oc n1 g hg).symm)
theorem Found.first (ok:dX many as)(hM:Mx as many (dep as) R X)(h:Found as many (R-dep as) X c f)(h1:1<=f):¬Again as many X c (f-1) (bo X c (f-1)):=by
 intro hA
 have hf:=h.fS
 have hc:=h.cS
 have n1:=hA.next ok hM h.c1 1 (by omega)
 rw[show f-1+1=f by omega]at n1
 rcases h.st with e|e
 ·omega
 ·refine e λg hg=>?_
  have a1:=Oc n1 g hg
  have a2:=h.len g hg
  show bo X c (f-1) g=_
  rw[←a1,a2]
end
theorem O0 (i:Int):jj [.int i]=some (.bl true):=rfl
theorem WZ {many:Nat}{L:Nat->Int}(hm:many<=1000)(c f:Nat)(hc:1<=c):jw [cY (c:Int) (f:Int) (bx many L),.int (many:Int)]=some (.bl true):=by
 have q:M0 [some (cY (c:Int) (f:Int) (bx many L)),some (.int (many:Int))]=some (.lst ((ak many).map λ_=>D.bl true)) :=
  xx (λg=>D.int (L g)) (λ_=>D.bl true) (ak many) rfl (by rw[aW];omega) λg _=>⟨_,rfl,rfl⟩
 have al:nY [.lst ((ak many).map λ_=>D.bl true)]=some (.bl true):=by
  rw[all_map (λ_=>true)]
  simp
 have l2:dH [.lst (bx many L)]=some (.int (many:Int)):=(jq _).trans (by rw[Gv])
 have w1:=O0 (c:Int)
 have w2:=O0 (f:Int)
 have i1:kh "tuple" (cY (c:Int) (f:Int) (bx many L))=some (.bl true):=rfl
 have i2:kh "list" (.lst (bx many L))=some (.bl true):=rfl
 have l3:dH [cY (c:Int) (f:Int) (bx many L)]=some (.int 3):=rfl
 have x0:di (cY (c:Int) (f:Int) (bx many L)) (.int 0)=some (.int (c:Int)):=rfl
 have x1:di (cY (c:Int) (f:Int) (bx many L)) (.int 1)=some (.int (f:Int)):=rfl
 have x2:di (cY (c:Int) (f:Int) (bx many L)) (.int 2)=some (.lst (bx many L)):=rfl
 have c1:0<c:=by omega
 have c2:(0:Int)<=(f:Int):=by omega
 generalize cY (c:Int) (f:Int) (bx many L)=pp at *
 generalize bx many L=vl,((ak many).map λ_=>D.bl true)=bl at *
 clear hm hc
 unfold jw
 walk_at "mir"
theorem X4 {as:List cy}{many R c f:Nat}{X:Nat->Nat->Int}(ok:dX many as)(hM:Mx as many (dep as) R X)(hR:R<=1000)(h:Found as many (R-dep as) X c f):qo [.lst (as.map bV),.lst (aJ many R X),cY (c:Int) (f:Int) (bx many (bo X c (R-dep as-c))),.int (R:Int)]=some (.bl true):=by
 have hl:=ok.len
 have hm:=ok.le
 have hd:=zL as
 have hf:=h.fS
 have Ca:=h.cS
 have pA:=h.c1
 obtain⟨x1,x2⟩:=KR (as:=as) (by omega)
 have vc:bx many (bo X c (R-dep as-c))=bx many (bo X c f):=by
  unfold bx
  exact eD λg hg=>by rw[h.len g (aA.mp hg)]
 rw[vc]
 have q2:Na [some (.lst (as.map bV)),some (.lst (aJ many R X)),some (cY (c:Int) (f:Int) (bx many (bo X c f))),some (.int (R:Int)),some (.int (c:Int)),some (.int (f:Int)),some (.lst (bx many (bo X c f))),none,none]=some (.lst (as.map λa=>D.int (a.b:Int))) :=
  xx bV (λa=>D.int (a.b:Int)) as rfl (by omega) λa _=>⟨_,rfl,rfl⟩
 have i1:=v9 (n:=many) (X:=X) (i:=f) (m:=R) (by omega)
 have i2:=v9 (n:=many) (X:=X) (i:=f+c) (m:=R) (by omega)
 have e:((f+c:Nat):Int)=(f:Int)+(c:Int):=by omega
 rw[e]at i2
 have q1:M9 [some (.lst (as.map bV)),some (.lst (aJ many R X)),some (cY (c:Int) (f:Int) (bx many (bo X c f))),some (.int (R:Int)),some (.int (c:Int)),some (.int (f:Int)),some (.lst (bx many (bo X c f))),some (.int (dep as:Int)),none]=some (.lst (bx many (bo X c f))):=by
  refine Ob (by omega) ?_
  have:(aCons (e2 di (eV 1) (eV 5)) (aCons (e2 di (eV 1) (e2 cz (eV 5) (eV 4))) aNil)) [some (.lst (as.map bV)),some (.lst (aJ many R X)),some (cY (c:Int) (f:Int) (bx many (bo X c f))),some (.int (R:Int)),some (.int (c:Int)),some (.int (f:Int)),some (.lst (bx many (bo X c f))),some (.int (dep as:Int)),none]=some [.lst (bx many (X f)),.lst (bx many (X (f+c)))]:=by
   generalize cY (c:Int) (f:Int) (bx many (bo X c f))=pp at *
   generalize bx many (bo X c f)=vl,bx many (X (f+c))=v2,bx many (X f)=v1,aJ many R X=rs,as.map bV=al,(dep as:Int)=dd at *
   clear hm h e hd hl x1 x2 q2 hR pA ok hf Ca vc hM
   walk_at "mir"
  show((aCons (e2 di (eV 1) (eV 5)) (aCons (e2 di (eV 1) (e2 cz (eV 5) (eV 4))) aNil)) [some (.lst (as.map bV)),some (.lst (aJ many R X)),some (cY (c:Int) (f:Int) (bx many (bo X c f))),some (.int (R:Int)),some (.int (c:Int)),some (.int (f:Int)),some (.lst (bx many (bo X c f))),some (.int (dep as:Int)),none]).bind oz=_
  rw[this]
  rfl
 have h1:=Gi (X:=X) (m:=R) (c:=c) (f:=f) ok hR (by omega) pA
 rw[Gz.mpr (h.at ok)]at h1
 have ev:fV true (.lst (bx many (bo X c f))) (.lst (bx many (bo X c f)))=some (.bl false):=(KS true many _ _).trans (by simp)
 have r2:=Kn (a:=1) (b:=c-1) (by omega) (by omega)
 rw[show((1+(c-1):Nat):Int)=(c:Int)by omega,show((1:Nat):Int)=1 from rfl]at r2
 have lp:=uo (g:=gV 8) (b:=qm) (λ(i:Nat)=>D.int (1+(i:Int))) (λ_=>true) (λρ=>∃y8,ρ=[some (.lst (as.map bV)),some (.lst (aJ many R X)),some (cY (c:Int) (f:Int) (bx many (bo X c f))),some (.int (R:Int)),some (.int (c:Int)),some (.int (f:Int)),some (.lst (bx many (bo X c f))),some (.int (dep as:Int)),y8]) (.bl false) (ak (c-1)) [some (.lst (as.map bV)),some (.lst (aJ many R X)),some (cY (c:Int) (f:Int) (bx many (bo X c f))),some (.int (R:Int)),some (.int (c:Int)),some (.int (f:Int)),some (.lst (bx many (bo X c f))),some (.int (dep as:Int)),none] ⟨_,rfl⟩ (by
  rintro i hi ρ ⟨y8,rfl⟩
  have hi:=aA.mp hi
  have h2:=Gi (X:=X) (m:=R) (c:=1+i) (f:=f) ok hR (by omega) (by omega)
  have t9:Hb as many X (1+i) f (bo X (1+i) f)=false:=by
   rw[←kC]
   exactλz=>h.less ok hM (by omega) (by omega) (Gz.mp z)
  rw[t9,show((1+i:Nat):Int)=1+(i:Int)by omega]at h2
  refine⟨[some (.lst (as.map bV)),some (.lst (aJ many R X)),some (cY (c:Int) (f:Int) (bx many (bo X c f))),some (.int (R:Int)),some (.int (c:Int)),some (.int (f:Int)),some (.lst (bx many (bo X c f))),some (.int (dep as:Int)),some (.int (1+(i:Int)))],rfl,.inl ⟨rfl,[some (.lst (as.map bV)),some (.lst (aJ many R X)),some (cY (c:Int) (f:Int) (bx many (bo X c f))),some (.int (R:Int)),some (.int (c:Int)),some (.int (f:Int)),some (.lst (bx many (bo X c f))),some (.int (dep as:Int)),some (.int (1+(i:Int)))],?_,_,rfl⟩⟩
  generalize cY (c:Int) (f:Int) (bx many (bo X c f))=pp at *
  generalize bx many (bo X c f)=vl,aJ many R X=rs,as.map bV=al,(dep as:Int)=dd at *
  clear hm h e hd hl x1 x2 q1 q2 hR pA ok hf Ca vc hM h1 ev r2 t9 hi i1 i2
  unfold qm
  walk_at "mir")
 have Ck:(decide ((f:Int)=0)=true)\/(¬(f:Int)=0/\wb [.lst (as.map bV),.lst (aJ many R X),.int (c:Int),.int ((f:Int)-1)]=some (.bl false)):=by
  by_cases hz:f=0
  ·exact .inl (decide_eq_true (by omega))
  ·refine .inr ⟨by omega,?_⟩
   have h2:=Gi (X:=X) (m:=R) (c:=c) (f:=f-1) ok hR (by omega) pA
   have t9:Hb as many X c (f-1) (bo X c (f-1))=false:=by
    rw[←kC]
    exactλz=>h.first ok hM (by omega) (Gz.mp z)
   rw[t9,show((f-1:Nat):Int)=(f:Int)-1 by omega]at h2
   exact h2
 have sa:sAsg (gT (gsCons (gS 4) (gsCons (gS 5) (gsCons (gV 6) gsNil)))) (eV 2) [some (.lst (as.map bV)),some (.lst (aJ many R X)),some (cY (c:Int) (f:Int) (bx many (bo X c f))),some (.int (R:Int)),none,none,none,none,none]=some (.nx [some (.lst (as.map bV)),some (.lst (aJ many R X)),some (cY (c:Int) (f:Int) (bx many (bo X c f))),some (.int (R:Int)),some (.int (c:Int)),some (.int (f:Int)),some (.lst (bx many (bo X c f))),none,none]):=rfl
 have n9:¬(R:Int)<(f:Int)+(dep as:Int)+(c:Int):=by omega
 rcases lp with⟨_,ρ',h2,y8,rfl⟩|⟨h2,_⟩
 ·unfold qo
  generalize (sAsg (gT (gsCons (gS 4) (gsCons (gS 5) (gsCons (gV 6) gsNil)))) (eV 2))=SA,cY (c:Int) (f:Int) (bx many (bo X c f))=pp at *
  generalize bx many (bo X c f)=vl,aJ many R X=rs,([.int 1]++as.map λa=>D.int (a.b:Int))=Hc at *
  generalize (as.map λa=>D.int (a.b:Int))=Ha,as.map bV=al,(dep as:Int)=dd,((ak (c-1)).map λ(i:Nat)=>D.int (1+(i:Int)))=rg at *
  clear hm h e hd hl hR pA ok hf Ca vc hM i1 i2
  rcases Ck with hz|⟨hz,h3⟩
  ·have hz:(f:Int)=0:=of_decide_eq_true hz
   generalize (f:Int)=F at *
   subst hz
   rw[Int.zero_add]at n9
   walk_at "mir"
  ·have hz:¬f=0:=by omega
   walk_at "mir"
 ·have:(ak (c-1)).all (λ_=>true)=true:=by simp
  rw[this]at h2;cases h2
theorem ztg {as:List cy}(hl:as.length<=1000)(r:L3.Env)(h4:r[4]?.join=some (.lst (as.map bV))):OW r=some (.lst ((as.map λa=>rf a a.s).map bE)):=by
 rw[cK]
 refine xx bV (λa=>bE (rf a a.s)) as (by unfold lsD;have:eV 4 r=_:=h4;rw[this];rfl) (by omega) λa _=>⟨_,rfl,?_⟩
 have i0:di (bV a) (.int 0)=some (.int (a.s:Int)):=rfl
 have:=zsi a a.s
 clear hl h4
 walk_at "mir"
theorem zth {as:List cy}(hl:as.length<=1000)(r:L3.Env)(h4:r[4]?.join=some (.lst (as.map bV))):OV r=some (.lst (as.map λa=>D.int (a.b:Int))) :=
 xx bV (λa=>D.int (a.b:Int)) as (by unfold lsD;have:eV 4 r=_:=h4;rw[this];rfl) (by omega) λa _=>⟨_,rfl,rfl⟩
theorem zti {many:Nat}(hm:many<=8)(r:L3.Env)(h1:r[1]?.join=some (.int (many:Int))):OX r=some (.lst (nm many)):=by
 refine xx (λ(t:Nat)=>D.int (t:Int)) (λ(k:Nat)=>D.str ("a"++uC (k:Int))) (ak many) (uR h1 (by omega)) (by rw[aW];omega) λg hg=>⟨_,rfl,?_⟩
 have hg:=aA.mp hg
 obtain⟨s1,s2⟩:=Zl g (by omega)
 clear hg h1 hm
 walk_at "mir"
theorem ztj {ns:List Int}{many total:Nat}{bY:Int}{mk:Nat->cy}(ht:total<=100)(xC:∀k,k<total->∃c:Int,yh [.lst (ns.map .int),.int (4+(k:Int))]=some (.int c)/\wp [.int c,.int (many:Int),.int bY,.int (k:Int)]=some (bV (mk k)))(r:L3.Env)(h0:r[0]?.join=some (.lst (ns.map .int)))(h1:r[1]?.join=some (.int (many:Int)))(h2:r[2]?.join=some (.int (total:Int)))(h3:r[3]?.join=some (.int bY)):OY r=some (.lst (((ak total).map mk).map bV)):=by
 rw[cK]
 refine xx (λ(t:Nat)=>D.int (t:Int)) (λk=>bV (mk k)) (ak total) (uR h2 (by omega)) (by rw[aW];omega) λk hk=>⟨_,rfl,?_⟩
 obtain⟨c,e1,e2⟩:=xC k (aA.mp hk)
 have e8:dS r [0,1,3]=[some (.lst (ns.map .int)),some (.int (many:Int)),some (.int bY)]:=by unfold dS;simp[h0,h1,h3]
 rw[e8]
 clear e8 xC h0 h1 h2 h3 hk ht
 walk_at "mir"
theorem sI (ns:List Int)(bY:Int){many total:Nat}(h1:1<=many)(h2:many<=8)(ht:total<=100):∃(mk:Nat->cy) (rk:Nat->Nat),(∀k,k<total->∃c:Int,yh [.lst (ns.map .int),.int (4+(k:Int))]=some (.int c)/\wp [.int c,.int (many:Int),.int bY,.int (k:Int)]=some (bV (mk k)))/\(∀k,k<total->Drawn many rk (mk k))/\∀k,k<many->k<total->(mk k).g=k:=by
 obtain⟨rk,zD⟩:=zse bY h1 (by omega)
 have key:∀k,∃a:cy,k<total->(∃c:Int,yh [.lst (ns.map .int),.int (4+(k:Int))]=some (.int c)/\wp [.int c,.int (many:Int),.int bY,.int (k:Int)]=some (bV a))/\Drawn many rk a/\(k<many->a.g=k):=by
  intro k
  by_cases hk:k<total
  ·obtain⟨c,hc⟩:=Gy ns (4+(k:Int)) (by omega)
   obtain⟨a,a1,a2,a3,a4,a5,a6,a7,a8⟩:=YJ c bY k (by omega) h1 (by omega) rk zD
   exact⟨a,λ_=>⟨⟨c,hc,a1⟩,⟨a2,a3,a4,a5,a6,a7⟩,a8⟩⟩
  ·exact⟨⟨.wait,0,0,0,0⟩,λz=>absurd z hk⟩
 refine⟨λk=>Classical.choose (key k),rk,λk hk=>(Classical.choose_spec (key k) hk).1,λk hk=>(Classical.choose_spec (key k) hk).2.1,λk RC RD=>(Classical.choose_spec (key k) RD).2.2 RC⟩
theorem handed {many dp:Nat}{wd:D}(hm:many<=8)(hd:dp<=4)(hw:wd=.non\/∃W:Nat->Nat->Int,wd=.lst (aJ many dp W))(x0 x1 x2 x3 x4 x5 x6 x8:Option D) :
  sIf (tb (e2 (nL true) (eV 7) (eC .non))) (sSet 9 EO) sSkip [x0,x1,x2,x3,x4,x5,x6,some wd,x8,some .non,none,none,none,none]=some (.nx [x0,x1,x2,x3,x4,x5,x6,some wd,x8,some wd,none,none,none,none])/\fV true wd wd=some (.bl false):=by
 rcases hw with rfl|⟨W,rfl⟩
 ·exact⟨rfl,rfl⟩
 ·constructor
  ·have q:EO [x0,x1,x2,x3,x4,x5,x6,some (.lst (aJ many dp W)),x8,some .non,none,none,none,none]=some (.lst (aJ many dp W)) :=
    xx (λi=>D.lst (eL many λg=>some (W i g))) (λi=>D.lst (eL many λg=>some (W i g))) (ak dp) rfl (by rw[aW];omega) λi _=>⟨_,rfl,rfl⟩
   generalize aJ many dp W=rs at *
   clear hm hd
   walk_at "mir"
  ·have:=(El (El Ei)).eq (by decide) (neg:=true) ((ak dp).map λi=>(ak many).map λg=>W i g) ((ak dp).map λi=>(ak many).map λg=>W i g)
   have e:(El (El Ei)).enc ((ak dp).map λi=>(ak many).map λg=>W i g)=.lst (aJ many dp W):=by
    show D.lst (((ak dp).map λi=>(ak many).map λg=>W i g).map λxs=>D.lst (xs.map D.int))=_
    rw[cK]
    unfold aJ bR eL
    congr 1
    refine eD λi _=>?_
    show D.lst (((ak many).map λg=>W i g).map D.int)=_
    rw[cK]
    rfl
   rw[e]at this
   rw[this]
   simp
theorem X5 (ns:List Int)(hl:ns.length<=63):GR [.lst (ns.map .int)]=some (.bl true):=by
 obtain⟨c0,Rp⟩:=Gy ns 0 (by decide)
 obtain⟨c1,pA⟩:=Gy ns 1 (by decide)
 obtain⟨many,Co,zA,sO⟩:∃m:Nat,1+c0%6=(m:Int)/\1<=m/\m<=8:=⟨(1+c0%6).toNat,by omega,by omega,by omega⟩
 obtain⟨total,xH,IZ,I0⟩:∃t:Nat,(many:Int)+c0/6%11=(t:Int)/\many<=t/\t<=18:=⟨((many:Int)+c0/6%11).toNat,by omega,by omega,by omega⟩
 obtain⟨v,hv,CB,rZ⟩:∃v:Int,di (.lst [.int 50,.int 100]) (.int (c1/200%2))=some (.int v)/\0<v/\v<=100:=by
  have:c1/200%2=0\/c1/200%2=1:=by omega
  rcases this with e|e<;>rw[e]
  ·exact⟨50,rfl,by decide,by decide⟩
  ·exact⟨100,rfl,by decide,by decide⟩
 have mv:eh (.int c1) (.int v)=some (.int (c1%v)):=j7 CB
 have b1:=lE c1 (show v≠0 by omega)
 have b2:=pH c1 CB
 obtain⟨R,hR,Ir,yX⟩:∃R:Nat,1+c1%v=(R:Int)/\1<=R/\R<=1000:=⟨(1+c1%v).toNat,by omega,by omega,by omega⟩
 obtain⟨mk,rk,xC,Fp,t8⟩:=sI ns (c0/66) zA sO (total:=total) (by omega)
 generalize has:(ak total).map mk=as
 have Iv:as.length<=18:=by rw[←has,bj,aW];omega
 have wO:∀a∈as,Drawn many rk a:=λa ha=>by
  rw[←has]at ha
  obtain⟨k,hk,rfl⟩:=eA.mp ha
  exact Fp k (aA.mp hk)
 have mJ:∀g,g<many->∃a∈(as.map λa=>rf a a.s),a.g=g:=λg hg=>by
  refine⟨rf (mk g) (mk g).s,eA.mpr ⟨mk g,?_,rfl⟩,t8 g hg (by omega)⟩
  rw[←has]
  exact eA.mpr ⟨g,aA.mpr (by omega),rfl⟩
 have ok:=zsk (rk:=rk) (λa=>(a.s:Int)) zA sO (as:=as) (by omega) wO
 have xD:(nm many).length=many:=by unfold nm;rw[bj,aW]
 have IS:=ztb ok xD (YK zA sO)
 have k5:=ztj (many:=many) (total:=total) (by omega) xC [some (.lst (ns.map .int)),some (.int (many:Int)),some (.int (total:Int)),some (.int (c0/66)),none,none,none,none,none,none,none,none,none,none] rfl rfl rfl rfl
 rw[has]at k5
 have k4:=zti sO [some (.lst (ns.map .int)),some (.int (many:Int)),some (.int (total:Int)),some (.int (c0/66)),some (.lst (as.map bV)),none,none,none,none,none,none,none,none,none] rfl
 have k3:=ztg (as:=as) (by omega) [some (.lst (ns.map .int)),some (.int (many:Int)),some (.int (total:Int)),some (.int (c0/66)),some (.lst (as.map bV)),none,none,none,none,none,none,none,none,none] rfl
 have eT:as.map bV=(as.map λa=>rf a a.s).map bV:=by rw[cK];rfl
 have jQ:(as.map λa=>rf a a.s).length<=1000:=by rw[bj];omega
 rw[eT]at k3 k4 k5
 generalize (as.map λa=>rf a a.s)=bs at *
 have k2:=zth (as:=bs) jQ [some (.lst (ns.map .int)),some (.int (many:Int)),some (.int (total:Int)),some (.int (c0/66)),some (.lst (bs.map bV)),some (bO (nm many) bs),none,none,none,none,none,none,none,none] rfl
 obtain⟨x1,x2⟩:=KR (as:=bs) jQ
 have ke:dep bs<=4:=zP λa ha=>(ok.right a ha).b
 obtain⟨wd,RW,CC⟩:=zte (ns:=ns) (many:=many) (dp:=dep bs) sO ke
 obtain⟨X,qP,hM⟩:∃X:Nat->Nat->Int,uT [bO (nm many) bs,.int (R:Int),wd,.non]=some (.lst (aJ many R X))/\Mx bs many (dep bs) R X:=by
  have fin:∀past,oJ bs many wd past->(∀i,i<dep bs->∀g,g<many->∃v,past i g=some v)->∃X:Nat->Nat->Int,uT [bO (nm many) bs,.int (R:Int),wd,.non]=some (.lst (aJ many R X))/\Mx bs many (dep bs) R X:=by
   intro past hw hp
   obtain⟨Y,h1,h2⟩:=ztd (rounds:=R) ok xD (by omega) hw .no
   obtain⟨V,h3,h4⟩:=h2.mx ok hp mJ
   refine⟨λr g=>V (dep bs+r) g,?_,h4.on⟩
   rw[h1]
   unfold aJ
   rw[Vv λr hr g hg=>h3 (dep bs+r) (by omega) g hg]
  rcases CC with rfl|⟨W,rfl⟩
  ·exact fin _ .no λi hi g hg=>⟨_,rfl⟩
  ·exact fin _ (.some (dep bs) _ (aE _)) λi hi g hg=>⟨_,rfl⟩
 obtain⟨hh,he⟩:=handed sO ke CC (some (.lst (ns.map .int))) (some (.int (many:Int))) (some (.int (total:Int))) (some (.int (c0/66))) (some (.lst (bs.map bV))) (some (bO (nm many) bs)) (some (.int (dep bs:Int))) (some (.int (R:Int)))
 rcases Zp ok xD mJ yX qP with⟨cm,t9⟩|⟨c,f,hF,cm⟩
 ·have r2:iO [.int 1,.int ((R:Int)-(dep bs:Int)+1)]=some ((ak (R-dep bs)).map λ(i:Nat)=>D.int (1+(i:Int))):=by
   rw[zI (by decide) (by decide) (by omega) (by omega),show((R:Int)-(dep bs:Int)+1-1).toNat=R-dep bs by omega]
   rfl
  have lp:=uo (g:=gV 12) (b:=Kv) (λ(i:Nat)=>D.int (1+(i:Int))) (λ_=>true) (λρ=>∃J0,ρ=[some (.lst (ns.map .int)),some (.int (many:Int)),some (.int (total:Int)),some (.int (c0/66)),some (.lst (bs.map bV)),some (bO (nm many) bs),some (.int (dep bs:Int)),some wd,some (.int (R:Int)),some wd,some .non,some (.lst (aJ many R X)),J0,none]) (.bl false) (ak (R-dep bs)) [some (.lst (ns.map .int)),some (.int (many:Int)),some (.int (total:Int)),some (.int (c0/66)),some (.lst (bs.map bV)),some (bO (nm many) bs),some (.int (dep bs:Int)),some wd,some (.int (R:Int)),some wd,some .non,some (.lst (aJ many R X)),none,none] ⟨_,rfl⟩ (by
   rintro i hi ρ ⟨J0,rfl⟩
   have hi:=aA.mp hi
   have h2:=Gi (X:=X) (m:=R) (c:=1+i) (f:=R-dep bs-(1+i)) ok yX (by omega) (by omega)
   have hn:Hb bs many X (1+i) (R-dep bs-(1+i)) (bo X (1+i) (R-dep bs-(1+i)))=false:=by
    rw[←kC]
    exactλz=>t9 (1+i) (by omega) (by omega) (Gz.mp z)
   rw[hn,show((1+i:Nat):Int)=1+(i:Int)by omega,show((R-dep bs-(1+i):Nat):Int)=(R:Int)-(dep bs:Int)-(1+(i:Int))by omega]at h2
   refine⟨[some (.lst (ns.map .int)),some (.int (many:Int)),some (.int (total:Int)),some (.int (c0/66)),some (.lst (bs.map bV)),some (bO (nm many) bs),some (.int (dep bs:Int)),some wd,some (.int (R:Int)),some wd,some .non,some (.lst (aJ many R X)),some (.int (1+(i:Int))),none],rfl,.inl ⟨rfl,[some (.lst (ns.map .int)),some (.int (many:Int)),some (.int (total:Int)),some (.int (c0/66)),some (.lst (bs.map bV)),some (bO (nm many) bs),some (.int (dep bs:Int)),some wd,some (.int (R:Int)),some wd,some .non,some (.lst (aJ many R X)),some (.int (1+(i:Int))),none],?_,_,rfl⟩⟩
   generalize (1+(i:Int))=i1,(dep bs:Int)=dd,aJ many R X=rs,bO (nm many) bs=net,bs.map bV=ps,ns.map D.int=S at *
   clear hn hi r2 t9 cm hh he qP hM RW CC ke x1 x2 k2 k3 k4 k5 IS xD ok mJ wO Iv jQ eT has xC Fp t8 hR Ir yX b1 b2 mv hv CB rZ Co xH zA sO IZ I0 hl Rp pA
   unfold Kv
   walk_at "mir")
  rcases lp with⟨_,ρ',h2,J0,rfl⟩|⟨h2,_⟩
  ·generalize (dep bs:Int)=dd at *
   generalize aJ many R X=rs,bO (nm many) bs=net,bs.map bE=mks,([.int 1]++bs.map λa=>D.int (a.b:Int))=Hc at *
   generalize (bs.map λa=>D.int (a.b:Int))=Ha,bs.map bV=ps,nm many=Sa,ns.map D.int=S,((ak (R-dep bs)).map λ(i:Nat)=>D.int (1+(i:Int)))=rg at *
   clear t9 hM CC ke xD ok mJ wO Iv jQ eT has xC Fp t8 Ir yX b1 b2 CB rZ zA sO IZ I0 hl
   unfold GR
   generalize (sIf (tb (e2 (nL true) (eV 7) (eC .non))) (sSet 9 EO) sSkip)=BH at *
   walk_at "mir"
  ·have:(ak (R-dep bs)).all (λ_=>true)=true:=by simp
   rw[this]at h2;cases h2
 ·have hm:=ok.le
  have fo:=WZ (many:=many) (L:=bo X c (R-dep bs-c)) (by omega) c f hF.c1
  have le:=X4 ok hM yX hF
  have isN:nL false (cY (c:Int) (f:Int) (bx many (bo X c (R-dep bs-c)))) .non=some (.bl false):=rfl
  have y0:di (cY (c:Int) (f:Int) (bx many (bo X c (R-dep bs-c)))) (.int 0)=some (.int (c:Int)):=rfl
  have y1:di (cY (c:Int) (f:Int) (bx many (bo X c (R-dep bs-c)))) (.int 1)=some (.int (f:Int)):=rfl
  have y2:di (cY (c:Int) (f:Int) (bx many (bo X c (R-dep bs-c)))) (.int 2)=some (.lst (bx many (bo X c (R-dep bs-c)))):=rfl
  have yl:iZ [.lst (bx many (bo X c (R-dep bs-c)))]=some (.lst (bx many (bo X c (R-dep bs-c)))):=rfl
  have ye:fV false (cY (c:Int) (f:Int) (bx many (bo X c (R-dep bs-c)))) (.tup [.int (c:Int),.int (f:Int),.lst (bx many (bo X c (R-dep bs-c)))])=some (.bl true):=by
   have:=(E3 Ei Ei (El Ei)).eq (by decide) (neg:=false) ((c:Int),(f:Int),(ak many).map (bo X c (R-dep bs-c))) ((c:Int),(f:Int),(ak many).map (bo X c (R-dep bs-c)))
   have e:(E3 Ei Ei (El Ei)).enc ((c:Int),(f:Int),(ak many).map (bo X c (R-dep bs-c)))=cY (c:Int) (f:Int) (bx many (bo X c (R-dep bs-c))):=by
    show D.tup [.int (c:Int),.int (f:Int),.lst (((ak many).map (bo X c (R-dep bs-c))).map D.int)]=_
    rw[cK]
    rfl
   rw[e]at this
   refine Eq.trans this ?_
   simp
  have Fo:∀x0 x1 x2 x3 x4 x5 x6 x7 x8 x9 MO tN MP,mQ 10 (eC (.int 2)) [x0,x1,x2,x3,x4,x5,x6,x7,x8,x9,some (cY (c:Int) (f:Int) (bx many (bo X c (R-dep bs-c)))),MO,tN,MP]=some (.nx [x0,x1,x2,x3,x4,x5,x6,x7,x8,x9,some (.tup [.int (c:Int),.int (f:Int),.lst []]),MO,tN,MP]):=λ_ _ _ _ _ _ _ _ _ _ _ _ _=>rfl
  unfold GR
  generalize mQ 10 (eC (.int 2))=CL at *
  unfold cY at *
  generalize bx many (bo X c (R-dep bs-c))=vl,(dep bs:Int)=dd,aJ many R X=rs,bO (nm many) bs=net,bs.map bE=mks,([.int 1]++bs.map λa=>D.int (a.b:Int))=Hc at *
  generalize (bs.map λa=>D.int (a.b:Int))=Ha,bs.map bV=ps,nm many=Sa,ns.map D.int=S at *
  clear hF hM CC ke xD ok mJ wO Iv jQ eT has xC Fp t8 Ir yX b1 b2 CB rZ zA sO IZ I0 hl hm
  generalize (sIf (tb (e2 (nL true) (eV 7) (eC .non))) (sSet 9 EO) sSkip)=BH at *
  walk_at "mir"
section
variable {P:ba}{w:bM}{K:aa}{mg:aL->Option ae}{base:aG}{a:zU}
theorem zst (T:Txt K mg a):cn P w K mg base eu 6 a.f_law a.d_law ["_law_script"] (mr K):=zrv (zsc T) X5
end
abbrev cq (x q:aL)(s:bP):=fM x q (kN s) (gq s) (aP s)
theorem all_mk {l:kx}{w:bM}{K:aa}{h:aG}{mg:aL->Option ae}(X:K.In h)(G:h.Ns aw mg)(Rv:mg "law"=some (.ref fa))
  
  (aC_Arrow:ay K aw "Arrow"=some (some (.ref c_Arrow))) (pg_Arrow:cN K c_Arrow aL.empty=true) (hd_Arrow:cF K c_Arrow=true) (po_Arrow:dD K c_Arrow=true) (sa_Arrow:ax K (.ref c_Arrow) "__setattr__"=some (some (.builtin "object.__setattr__"))) (mk_Arrow:dB K c_Arrow=true) (kc_Arrow:ar K (.ref c_Arrow)=true)
  (aC_Ride:ay K aw "Ride"=some (some (.ref c_Ride))) (pg_Ride:cN K c_Ride aL.empty=true) (hd_Ride:cF K c_Ride=true) (po_Ride:dD K c_Ride=true) (sa_Ride:ax K (.ref c_Ride) "__setattr__"=some (some (.builtin "object.__setattr__"))) (mk_Ride:dB K c_Ride=true) (kc_Ride:ar K (.ref c_Ride)=true)
  (aC_Wait:ay K aw "Wait"=some (some (.ref c_Wait))) (pg_Wait:cN K c_Wait aL.empty=true) (hd_Wait:cF K c_Wait=true) (po_Wait:dD K c_Wait=true) (sa_Wait:ax K (.ref c_Wait) "__setattr__"=some (some (.builtin "object.__setattr__"))) (mk_Wait:dB K c_Wait=true) (kc_Wait:ar K (.ref c_Wait)=true)
  (aC_Back:ay K aw "Back"=some (some (.ref c_Back))) (pg_Back:cN K c_Back aL.empty=true) (hd_Back:cF K c_Back=true) (po_Back:dD K c_Back=true) (sa_Back:ax K (.ref c_Back) "__setattr__"=some (some (.builtin "object.__setattr__"))) (mk_Back:dB K c_Back=true) (kc_Back:ar K (.ref c_Back)=true)
  (aC_Net:ay K aw "Net"=some (some (.ref c_Net))) (pg_Net:cN K c_Net aL.empty=true) (hd_Net:cF K c_Net=true) (po_Net:dD K c_Net=true) (sa_Net:ax K (.ref c_Net) "__setattr__"=some (some (.builtin "object.__setattr__"))) (mk_Net:dB K c_Net=true) (kc_Net:ar K (.ref c_Net)=true)
  (a0:ax K (.ref c_Arrow) "__init__"=some (some (.ref f0))) (i0:dg K (.ref f0)=true)
  (l0:K.lookup f0=some ⟨oc0,od0,.func (cq "__init__" "Arrow.__init__" yc .none L8 Lk Mq K2 Hd Lc),sl0⟩) (c0:az K Hd "Arrow.__init__"=true) (k0:ar K (.ref f0)=true)
  (a1:ax K (.ref c_Ride) "__init__"=some (some (.ref f1))) (i1:dg K (.ref f1)=true)
  (l1:K.lookup f1=some ⟨oc1,od1,.func (cq "__init__" "Ride.__init__" ym .none L9 Ll Mr K3 He Ld),sl1⟩) (c1:az K He "Ride.__init__"=true) (k1:ar K (.ref f1)=true)
  (a2:ax K (.ref c_Wait) "__init__"=some (some (.ref f2))) (i2:dg K (.ref f2)=true)
  (l2:K.lookup f2=some ⟨oc2,od2,.func (cq "__init__" "Wait.__init__" zu (.ref FJ) Jp Hq Jz G6 Fb Hm),yB⟩) (c2:az K Fb "Wait.__init__"=true) (k2:ar K (.ref f2)=true)
  (t2:K.lookup FJ=some ⟨tc2,UD,.seq #[.int 0 Ex] tn2,UH⟩)
  (a3:ax K (.ref c_Back) "__init__"=some (some (.ref f3))) (i3:dg K (.ref f3)=true)
  (l3:K.lookup f3=some ⟨oc3,od3,.func (cq "__init__" "Back.__init__" zw (.ref FK) Jq Hr JA G7 Fc Hn),sl3⟩) (c3:az K Fc "Back.__init__"=true) (k3:ar K (.ref f3)=true)
  (t3:K.lookup FK=some ⟨tc3,UE,.seq #[.int 1 Ey] FM,UI⟩)
  (a4:ay K aw "is_letter"=some (some (.ref f4)))
  (l4:K.lookup f4=some ⟨oc4,od4,.func (cq "is_letter" "is_letter" xj .none Ma Lm Ms K4 Hf Le),sl4⟩) (c4:az K Hf "is_letter"=true) (k4:ar K (.ref f4)=true)
  (a5:ay K aw "is_figure"=some (some (.ref f5)))
  (l5:K.lookup f5=some ⟨oc5,od5,.func (cq "is_figure" "is_figure" xk .none Mb Ln Mt K5 Hg Lf),sl5⟩) (c5:az K Hg "is_figure"=true) (k5:ar K (.ref f5)=true)
  (a6:ay K aw "is_name"=some (some (.ref f6)))
  (l6:K.lookup f6=some ⟨oc6,od6,.func (cq "is_name" "is_name" wz .none Mc Lo Mu K6 Hh Lg),sl6⟩) (c6:az K Hh "is_name"=true) (k6:ar K (.ref f6)=true)
  (a7:ay K aw "are_names"=some (some (.ref f7)))
  (l7:K.lookup f7=some ⟨oc7,od7,.func (cq "are_names" "are_names" xl .none Md Lp Mv K7 Hi Lh),sl7⟩) (c7:az K Hi "are_names"=true) (k7:ar K (.ref f7)=true)
  (a8:ay K aw "lies_within"=some (some (.ref f8)))
  (l8:K.lookup f8=some ⟨oc8,od8,.func (cq "lies_within" "lies_within" yn .none Me Lq Mw K8 Hj Li),sl8⟩) (c8:az K Hj "lies_within"=true) (k8:ar K (.ref f8)=true)
  (a9:ay K aw "is_right"=some (some (.ref f9)))
  (l9:K.lookup f9=some ⟨oc9,od9,.func (cq "is_right" "is_right" we .none Mf Lr Mz K9 Hk Lj),sl9⟩) (c9:az K Hk "is_right"=true) (k9:ar K (.ref f9)=true)
  (a10:ay K aw "placed_goings"=some (some (.ref Hv)))
  (l10:K.lookup Hv=some ⟨Sb,SS,.func (cq "placed_goings" "placed_goings" zy .none CO Br DC Ae vC AQ),TR⟩) (c10:az K vC "placed_goings"=true) (k10:ar K (.ref Hv)=true)
  (a11:ax K (.ref c_Net) "__init__"=some (some (.ref Fg))) (i11:dg K (.ref Fg)=true)
  (l11:K.lookup Fg=some ⟨Sd,SU,.func (cq "__init__" "Net.__init__" yw .none CP Bs DD Af vD AR),TU⟩) (c11:az K vD "Net.__init__"=true) (k11:ar K (.ref Fg)=true)
  (a12:ax K (.ref c_Net) "most_behind"=some (some (.ref Fh))) (i12:dg K (.ref Fh)=true)
  (l12:K.lookup Fh=some ⟨Se,SV,.func (cq "most_behind" "Net.most_behind" zm .none CQ Bt DE Ag vE AS),TV⟩) (c12:az K vE "Net.most_behind"=true) (k12:ar K (.ref Fh)=true)
  (a13:ax K (.ref c_Net) "into"=some (some (.ref Fi))) (i13:dg K (.ref Fi)=true)
  (l13:K.lookup Fi=some ⟨Sf,SW,.func (cq "into" "Net.into" wf .none CS Bu DF Ah vF AT),TX⟩) (c13:az K vF "Net.into"=true) (k13:ar K (.ref Fi)=true)
  (a14:ax K (.ref c_Net) "order"=some (some (.ref Fj))) (i14:dg K (.ref Fj)=true)
  (l14:K.lookup Fj=some ⟨Sg,SX,.func (cq "order" "Net.order" xm .none CT Bv DG Ai vG AU),TY⟩) (c14:az K vG "Net.order"=true) (k14:ar K (.ref Fj)=true)
  (a15:ay K aw "later"=some (some (.ref Hw)))
  (l15:K.lookup Hw=some ⟨Sh,SY,.func (cq "later" "later" u9 .none CU Bw DH Aj vH AV),TZ⟩) (c15:az K vH "later"=true) (k15:ar K (.ref Hw)=true)
  (a16:ay K aw "latest"=some (some (.ref Hx)))
  (l16:K.lookup Hx=some ⟨Si,SZ,.func (cq "latest" "latest" vz .none CV Bx DI Ak vI AW),T1⟩) (c16:az K vI "latest"=true) (k16:ar K (.ref Hx)=true)
  (a17:ay K aw "greatest_told"=some (some (.ref Hy)))
  (l17:K.lookup Hy=some ⟨Sj,S1,.func (cq "greatest_told" "greatest_told" zz .none CW By DJ Am vJ AX),T2⟩) (c17:az K vJ "greatest_told"=true) (k17:ar K (.ref Hy)=true)
  (a18:ay K aw "rows_ahead"=some (some (.ref Hz)))
  (l18:K.lookup Hz=some ⟨Sk,S2,.func (cq "rows_ahead" "rows_ahead" yx .none CY Bz DK An vK AY),T3⟩) (c18:az K vK "rows_ahead"=true) (k18:ar K (.ref Hz)=true)
  (a19:ay K aw "time_in_last_row"=some (some (.ref HA)))
  (l19:K.lookup HA=some ⟨Sl,S3,.func (cq "time_in_last_row" "time_in_last_row" zj .none CZ BA DL Ao vL AZ),T4⟩) (c19:az K vL "time_in_last_row"=true) (k19:ar K (.ref HA)=true)
  (a20:ay K aw "rows_with_past"=some (some (.ref HB)))
  (l20:K.lookup HB=some ⟨Sm,S4,.func (cq "rows_with_past" "rows_with_past" zp .none C0 BB DM Ap vM A6),T5⟩) (c20:az K vM "rows_with_past"=true) (k20:ar K (.ref HB)=true)
  (a21:ay K aw "run"=some (some (.ref HC)))
  (l21:K.lookup HC=some ⟨Sn,S5,.func (cq "run" "run" qx (.ref rB) sV sD tD sv p9 sA),T6⟩) (c21:az K p9 "run"=true) (k21:ar K (.ref HC)=true)
  (t21:K.lookup rB=some ⟨UB,MH,.seq #[.none,.none] UF,MK⟩)
  (a22:ay K aw "growth"=some (some (.ref HD)))
  (l22:K.lookup HD=some ⟨So,S6,.func (cq "growth" "growth" v4 .none C1 BC DN Aq vN A7),T7⟩) (c22:az K vN "growth"=true) (k22:ar K (.ref HD)=true)
  (a23:ay K aw "grows_so"=some (some (.ref HE)))
  (l23:K.lookup HE=some ⟨Sq,S7,.func (cq "grows_so" "grows_so" wg .none C2 BD DO Ar vO A8),T8⟩) (c23:az K vO "grows_so"=true) (k23:ar K (.ref HE)=true)
  (a24:ay K aw "never_outgrown"=some (some (.ref HF)))
  (l24:K.lookup HF=some ⟨Sr,S8,.func (cq "never_outgrown" "never_outgrown" zq .none C3 BE DP As vP A9),T9⟩) (c24:az K vP "never_outgrown"=true) (k24:ar K (.ref HF)=true)
  (a25:ay K aw "is_carried"=some (some (.ref HG)))
  (l25:K.lookup HG=some ⟨Ss,S9,.func (cq "is_carried" "is_carried" yy .none C4 BG DQ Au vQ Ba),Ua⟩) (c25:az K vQ "is_carried"=true) (k25:ar K (.ref HG)=true)
  (a26:ay K aw "all_carried"=some (some (.ref HH)))
  (l26:K.lookup HH=some ⟨Su,Ta,.func (cq "all_carried" "all_carried" yo .none C5 BI DR Av vR Bb),Ub⟩) (c26:az K vR "all_carried"=true) (k26:ar K (.ref HH)=true)
  (a27:ay K aw "goes_on"=some (some (.ref HI)))
  (l27:K.lookup HI=some ⟨Sv,Tb,.func (cq "goes_on" "goes_on" w6 .none C6 BJ DS Aw vS Bc),Uc⟩) (c27:az K vS "goes_on"=true) (k27:ar K (.ref HI)=true)
  (a28:ay K aw "refuse_loose"=some (some (.ref HJ)))
  (l28:K.lookup HJ=some ⟨Sw,Tc,.func (cq "refuse_loose" "refuse_loose" yf .none C7 BK DT Ax vT Bd),Ud⟩) (c28:az K vT "refuse_loose"=true) (k28:ar K (.ref HJ)=true)
  (a29:ay K aw "earliest_round"=some (some (.ref HK)))
  (l29:K.lookup HK=some ⟨Sx,Td,.func (cq "earliest_round" "earliest_round" zt .none C8 BL DU Ay vU Be),Ue⟩) (c29:az K vU "earliest_round"=true) (k29:ar K (.ref HK)=true)
  (a30:ay K aw "comes_again"=some (some (.ref HL)))
  (l30:K.lookup HL=some ⟨Sy,Te,.func (cq "comes_again" "comes_again" zk (.ref rC) sW sE tE sx qA sC),Ug⟩) (c30:az K qA "comes_again"=true) (k30:ar K (.ref HL)=true)
  (t30:K.lookup rC=some ⟨UC,MI,.seq #[.none] UG,ML⟩)
  (a31:ay K aw "_law_cell_at"=some (some (.ref HM)))
  (l31:K.lookup HM=some ⟨SC,Tf,.func (cq "_law_cell_at" "_law_cell_at" yp .none C9 BM DV Az vV Bf),Uh⟩) (c31:az K vV "_law_cell_at"=true) (k31:ar K (.ref HM)=true)
  (a32:ay K aw "_law_whole"=some (some (.ref HN)))
  (l32:K.lookup HN=some ⟨SD,Tg,.func (cq "_law_whole" "_law_whole" xn .none Dd BN DW AA vW Bg),Ui⟩) (c32:az K vW "_law_whole"=true) (k32:ar K (.ref HN)=true)
  (a33:ay K aw "_law_is_row"=some (some (.ref HP)))
  (l33:K.lookup HP=some ⟨SE,Th,.func (cq "_law_is_row" "_law_is_row" yz .none De BO DX AB vX Bh),Uj⟩) (c33:az K vX "_law_is_row"=true) (k33:ar K (.ref HP)=true)
  (a34:ay K aw "_law_mixed"=some (some (.ref HQ)))
  (l34:K.lookup HQ=some ⟨SG,Ti,.func (cq "_law_mixed" "_law_mixed" xo .none Df BP DY AC vY Bi),Uk⟩) (c34:az K vY "_law_mixed"=true) (k34:ar K (.ref HQ)=true)
  (a35:ay K aw "_law_rank"=some (some (.ref HR)))
  (l35:K.lookup HR=some ⟨SH,Tj,.func (cq "_law_rank" "_law_rank" wj .none Dg BQ DZ AD vZ Bj),Ul⟩) (c35:az K vZ "_law_rank"=true) (k35:ar K (.ref HR)=true)
  (a36:ay K aw "_law_arrow"=some (some (.ref HS)))
  (l36:K.lookup HS=some ⟨SI,Tl,.func (cq "_law_arrow" "_law_arrow" xp .none Dh BR D0 AE wA Bk),Um⟩) (c36:az K wA "_law_arrow"=true) (k36:ar K (.ref HS)=true)
  (a37:ay K aw "_law_made"=some (some (.ref HU)))
  (l37:K.lookup HU=some ⟨SJ,Tn,.func (cq "_law_made" "_law_made" wk .none Di BS D1 AF wB Bl),Uo⟩) (c37:az K wB "_law_made"=true) (k37:ar K (.ref HU)=true)
  (a38:ay K aw "_law_was"=some (some (.ref HV)))
  (l38:K.lookup HV=some ⟨SK,To,.func (cq "_law_was" "_law_was" w8 .none Dj BU D2 AG wC Bm),Up⟩) (c38:az K wC "_law_was"=true) (k38:ar K (.ref HV)=true)
  (a39:ay K aw "_law_tight"=some (some (.ref HW)))
  (l39:K.lookup HW=some ⟨SM,Tp,.func (cq "_law_tight" "_law_tight" xq .none Dk BV D3 AH wD Bn),Uq⟩) (c39:az K wD "_law_tight"=true) (k39:ar K (.ref HW)=true)
  (a40:ay K aw "_law_holds"=some (some (.ref HX)))
  (l40:K.lookup HX=some ⟨SN,Tq,.func (cq "_law_holds" "_law_holds" xr .none Dl BW D4 AI wF Bo),Ur⟩) (c40:az K wF "_law_holds"=true) (k40:ar K (.ref HX)=true)
  (a41:ay K aw "_law_formed"=some (some (.ref HY)))
  (l41:K.lookup HY=some ⟨SO,Tr,.func (cq "_law_formed" "_law_formed" xa .none Dn BX D5 AJ wG Bp),Us⟩) (c41:az K wG "_law_formed"=true) (k41:ar K (.ref HY)=true)
  (a42:ay K aw "_law_least"=some (some (.ref HZ)))
  (l42:K.lookup HZ=some ⟨SQ,Ts,.func (cq "_law_least" "_law_least" xt .none Do BY D6 AK wH Bq),Ut⟩) (c42:az K wH "_law_least"=true) (k42:ar K (.ref HZ)=true)
  (a43:ay K aw "law"=some (some (.ref Lv)))
  (l43:K.lookup Lv=some ⟨SR,Tt,.func (cq "law" "law" yO .none xK wJ xP vA sy wI),Uu⟩) (c43:az K sy "law"=true) (k43:ar K (.ref Lv)=true)
  (qs_Arrow:cT K (.ref c_Arrow) "__getattribute__"=some (some (.builtin "type.__getattribute__"))) (qr_Arrow:gP K c_Arrow (.type "type")=true) (qf_Arrow:gO K (.ref c_Arrow) (.type "type") "__init__"=some (.val (.ref f0)))
  (n_Net_arrows:ax K (.ref c_Net) "arrows"=some none)
  (n_Arrow_behind:ax K (.ref c_Arrow) "behind"=some none)
  (n_Ride_behind:ax K (.ref c_Ride) "behind"=some none)
  (n_Wait_behind:ax K (.ref c_Wait) "behind"=some none)
  (n_Back_behind:ax K (.ref c_Back) "behind"=some none)
  (n_Arrow_goal:ax K (.ref c_Arrow) "goal"=some none)
  (n_Ride_goal:ax K (.ref c_Ride) "goal"=some none)
  (n_Wait_goal:ax K (.ref c_Wait) "goal"=some none)
  (n_Back_goal:ax K (.ref c_Back) "goal"=some none)
  (n_Net_names:ax K (.ref c_Net) "names"=some none)
  (n_Arrow_start:ax K (.ref c_Arrow) "start"=some none)
  (n_Ride_start:ax K (.ref c_Ride) "start"=some none)
  (n_Wait_start:ax K (.ref c_Wait) "start"=some none)
  (n_Back_start:ax K (.ref c_Back) "start"=some none)
  (n_Arrow_time:ax K (.ref c_Arrow) "time"=some none)
  (n_Ride_time:ax K (.ref c_Ride) "time"=some none)
  (n_Wait_time:ax K (.ref c_Wait) "time"=some none)
  (n_Back_time:ax K (.ref c_Back) "time"=some none)
  (ign:cT K (.builtin "object.__class__") "__get__"=some (some (.builtin "getset_descriptor.__get__"))) (igt:gQ K (.builtin "object.__class__")=some true)
  (iga_Arrow:ax K (.ref c_Arrow) "__class__"=some (some (.builtin "object.__class__"))) (igm_Arrow:dG K c_Arrow (.type "object")=some true)
  (kit_Arrow_Back:bK K (.ref c_Arrow) (.ref c_Back)=some false)
  (kit_Arrow_Ride:bK K (.ref c_Arrow) (.ref c_Ride)=some false)
  (iga_Ride:ax K (.ref c_Ride) "__class__"=some (some (.builtin "object.__class__"))) (igm_Ride:dG K c_Ride (.type "object")=some true)
  (kit_Ride_Back:bK K (.ref c_Ride) (.ref c_Back)=some false)
  (kit_Ride_Ride:bK K (.ref c_Ride) (.ref c_Ride)=some true)
  (iga_Wait:ax K (.ref c_Wait) "__class__"=some (some (.builtin "object.__class__"))) (igm_Wait:dG K c_Wait (.type "object")=some true)
  (kit_Wait_Back:bK K (.ref c_Wait) (.ref c_Back)=some false)
  (kit_Wait_Ride:bK K (.ref c_Wait) (.ref c_Ride)=some false)
  (iga_Back:ax K (.ref c_Back) "__class__"=some (some (.builtin "object.__class__"))) (igm_Back:dG K c_Back (.type "object")=some true)
  (kit_Back_Back:bK K (.ref c_Back) (.ref c_Back)=some true)
  (kit_Back_Ride:bK K (.ref c_Back) (.ref c_Ride)=some false)
  (iga_Net:ax K (.ref c_Net) "__class__"=some (some (.builtin "object.__class__"))) (igm_Net:dG K c_Net (.type "object")=some true)
  (kit_Net_Back:bK K (.ref c_Net) (.ref c_Back)=some false)
  (kit_Net_Ride:bK K (.ref c_Net) (.ref c_Ride)=some false)
  (z0:ay K aw "all"=some none)
  (z1:ay K aw "bool"=some none)
  (z2:ay K aw "enumerate"=some none)
  (z3:ay K aw "int"=some none)
  (z4:ay K aw "isinstance"=some none)
  (z5:ay K aw "len"=some none)
  (z6:ay K aw "list"=some none)
  (z7:ay K aw "max"=some none)
  (z8:ay K aw "range"=some none)
  (z9:ay K aw "reversed"=some none)
  (z10:ay K aw "str"=some none)
  (z11:ay K aw "tuple"=some none)
  (z12:ay K aw "zip"=some none)
  (gc0:ay K aw "MOST_ARROWS"=some (some (.int 120 gt0)))
  (gc1:ay K aw "MOST_BEHIND"=some (some (.int 4 gt1)))
  (gc2:ay K aw "MOST_NAMES"=some (some (.int 40 gt2)))
  (gc3:ay K aw "MOST_SIGNS"=some (some (.int 8 gt3)))
  (gc4:ay K aw "MOST_TIME"=some (some (.int 1000000000 gt4))) :
  ∃fd:aH,(∀(s:aj) (v:ae),jX s fd ⟨[v],[]⟩ [("_law_script",v)])/\∀base:aG,K.In base->base.Ns aw mg->cn l.prog w K mg base eu 6 fa fd ["_law_script"] (mr K):=by
 have e:=Rv.symm.trans (aD X G a43)
 cases e
 have F0:=zo (st:=yc) l0 c0 k0
 have b0:bA K (cq "__init__" "Arrow.__init__" yc .none L8 Lk Mq K2 Hd Lc) ["self","start","goal","time","behind"] []:=.all (zF λ_ _ _ _ _=>rfl)
 have F1:=zo (st:=ym) l1 c1 k1
 have b1:bA K (cq "__init__" "Ride.__init__" ym .none L9 Ll Mr K3 He Ld) ["self","start","goal","time"] []:=.all (pV λ_ _ _ _=>rfl)
 have F2:=zo (st:=zu) l2 c2 k2
 have b2:bA K (cq "__init__" "Wait.__init__" zu (.ref FJ) Jp Hq Jz G6 Fb Hm) ["self","start","goal","time","behind"] []:=j8 5 t2 (zF λ_ _ _ _ _=>⟨_,rfl,rfl⟩)
 have G8:bA K (cq "__init__" "Wait.__init__" zu (.ref FJ) Jp Hq Jz G6 Fb Hm) ["self","start","goal","time","behind"] [.int 0 Ex]:=j8 4 t2 (pV λ_ _ _ _=>⟨_,rfl,rfl⟩)
 have F3:=zo (st:=zw) l3 c3 k3
 have b3:bA K (cq "__init__" "Back.__init__" zw (.ref FK) Jq Hr JA G7 Fc Hn) ["self","start","goal","time","behind"] []:=j8 5 t3 (zF λ_ _ _ _ _=>⟨_,rfl,rfl⟩)
 have G9:bA K (cq "__init__" "Back.__init__" zw (.ref FK) Jq Hr JA G7 Fc Hn) ["self","start","goal","time","behind"] [.int 1 Ey]:=j8 4 t3 (pV λ_ _ _ _=>⟨_,rfl,rfl⟩)
 have F4:=zo (st:=xj) l4 c4 k4
 have b4:bA K (cq "is_letter" "is_letter" xj .none Ma Lm Ms K4 Hf Le) ["sign"] []:=.all (pU λ_=>rfl)
 have F5:=zo (st:=xk) l5 c5 k5
 have b5:bA K (cq "is_figure" "is_figure" xk .none Mb Ln Mt K5 Hg Lf) ["sign"] []:=.all (pU λ_=>rfl)
 have F6:=zo (st:=wz) l6 c6 k6
 have b6:bA K (cq "is_name" "is_name" wz .none Mc Lo Mu K6 Hh Lg) ["word"] []:=.all (pU λ_=>rfl)
 have F7:=zo (st:=xl) l7 c7 k7
 have b7:bA K (cq "are_names" "are_names" xl .none Md Lp Mv K7 Hi Lh) ["names"] []:=.all (pU λ_=>rfl)
 have F8:=zo (st:=yn) l8 c8 k8
 have b8:bA K (cq "lies_within" "lies_within" yn .none Me Lq Mw K8 Hj Li) ["number","least","most"] []:=.all (sY λ_ _ _=>rfl)
 have F9:=zo (st:=we) l9 c9 k9
 have b9:bA K (cq "is_right" "is_right" we .none Mf Lr Mz K9 Hk Lj) ["arrow","many"] []:=.all (oR λ_ _=>rfl)
 have Pu:=zo (st:=zy) l10 c10 k10
 have Qi:bA K (cq "placed_goings" "placed_goings" zy .none CO Br DC Ae vC AQ) ["many","arrows"] []:=.all (oR λ_ _=>rfl)
 have Pv:=zo (st:=yw) l11 c11 k11
 have Qj:bA K (cq "__init__" "Net.__init__" yw .none CP Bs DD Af vD AR) ["self","names","arrows"] []:=.all (sY λ_ _ _=>rfl)
 have Pw:=zo (st:=zm) l12 c12 k12
 have Qk:bA K (cq "most_behind" "Net.most_behind" zm .none CQ Bt DE Ag vE AS) ["self"] []:=.all (pU λ_=>rfl)
 have Px:=zo (st:=wf) l13 c13 k13
 have Ql:bA K (cq "into" "Net.into" wf .none CS Bu DF Ah vF AT) ["self","going"] []:=.all (oR λ_ _=>rfl)
 have Py:=zo (st:=xm) l14 c14 k14
 have Qm:bA K (cq "order" "Net.order" xm .none CT Bv DG Ai vG AU) ["self"] []:=.all (pU λ_=>rfl)
 have Pz:=zo (st:=u9) l15 c15 k15
 have Qn:bA K (cq "later" "later" u9 .none CU Bw DH Aj vH AV) ["when","more"] []:=.all (oR λ_ _=>rfl)
 have PB:=zo (st:=vz) l16 c16 k16
 have Qo:bA K (cq "latest" "latest" vz .none CV Bx DI Ak vI AW) ["one","other"] []:=.all (oR λ_ _=>rfl)
 have PD:=zo (st:=zz) l17 c17 k17
 have Qp:bA K (cq "greatest_told" "greatest_told" zz .none CW By DJ Am vJ AX) ["told"] []:=.all (pU λ_=>rfl)
 have PH:=zo (st:=yx) l18 c18 k18
 have Qq:bA K (cq "rows_ahead" "rows_ahead" yx .none CY Bz DK An vK AY) ["net","was"] []:=.all (oR λ_ _=>rfl)
 have PJ:=zo (st:=zj) l19 c19 k19
 have Qr:bA K (cq "time_in_last_row" "time_in_last_row" zj .none CZ BA DL Ao vL AZ) ["net","rows","numbers","floor"] []:=.all (pV λ_ _ _ _=>rfl)
 have PL:=zo (st:=zp) l20 c20 k20
 have Qs:bA K (cq "rows_with_past" "rows_with_past" zp .none C0 BB DM Ap vM A6) ["net","rounds","was","floors"] []:=.all (pV λ_ _ _ _=>rfl)
 have PM:=zo (st:=qx) l21 c21 k21
 have Qt:bA K (cq "run" "run" qx (.ref rB) sV sD tD sv p9 sA) ["net","rounds","was","floors"] []:=j8 4 t21 (pV λ_ _ _ _=>⟨_,rfl,rfl⟩)
 have AL:bA K (cq "run" "run" qx (.ref rB) sV sD tD sv p9 sA) ["net","rounds","was","floors"] [.none]:=j8 3 t21 (sY λ_ _ _=>⟨_,rfl,rfl⟩)
 have AM:bA K (cq "run" "run" qx (.ref rB) sV sD tD sv p9 sA) ["net","rounds","was","floors"] [.none,.none]:=j8 2 t21 (oR λ_ _=>⟨_,rfl,rfl⟩)
 have PN:=zo (st:=v4) l22 c22 k22
 have Qu:bA K (cq "growth" "growth" v4 .none C1 BC DN Aq vN A7) ["rows","first","count"] []:=.all (sY λ_ _ _=>rfl)
 have PP:=zo (st:=wg) l23 c23 k23
 have Qv:bA K (cq "grows_so" "grows_so" wg .none C2 BD DO Ar vO A8) ["rows","first","last","count","lengths"] []:=.all (zF λ_ _ _ _ _=>rfl)
 have PQ:=zo (st:=zq) l24 c24 k24
 have Qw:bA K (cq "never_outgrown" "never_outgrown" zq .none C3 BE DP As vP A9) ["net","lengths"] []:=.all (oR λ_ _=>rfl)
 have PR:=zo (st:=yy) l25 c25 k25
 have Qx:bA K (cq "is_carried" "is_carried" yy .none C4 BG DQ Au vQ Ba) ["rows","carriers","going","number"] []:=.all (pV λ_ _ _ _=>rfl)
 have PU:=zo (st:=yo) l26 c26 k26
 have Qy:bA K (cq "all_carried" "all_carried" yo .none C5 BI DR Av vR Bb) ["net","rows","first","last","lengths"] []:=.all (zF λ_ _ _ _ _=>rfl)
 have PV:=zo (st:=w6) l27 c27 k27
 have Qz:bA K (cq "goes_on" "goes_on" w6 .none C6 BJ DS Aw vS Bc) ["net","rows","paper"] []:=.all (sY λ_ _ _=>rfl)
 have PX:=zo (st:=yf) l28 c28 k28
 have QA:bA K (cq "refuse_loose" "refuse_loose" yf .none C7 BK DT Ax vT Bd) ["net"] []:=.all (pU λ_=>rfl)
 have PY:=zo (st:=zt) l29 c29 k29
 have QB:bA K (cq "earliest_round" "earliest_round" zt .none C8 BL DU Ay vU Be) ["rows","known","count","lengths"] []:=.all (pV λ_ _ _ _=>rfl)
 have PZ:=zo (st:=zk) l30 c30 k30
 have QC:bA K (cq "comes_again" "comes_again" zk (.ref rC) sW sE tE sx qA sC) ["net","most","was"] []:=j8 3 t30 (sY λ_ _ _=>⟨_,rfl,rfl⟩)
 have AN:bA K (cq "comes_again" "comes_again" zk (.ref rC) sW sE tE sx qA sC) ["net","most","was"] [.none]:=j8 2 t30 (oR λ_ _=>⟨_,rfl,rfl⟩)
 have P0:=zo (st:=yp) l31 c31 k31
 have QD:bA K (cq "_law_cell_at" "_law_cell_at" yp .none C9 BM DV Az vV Bf) ["_law_script","_law_k"] []:=.all (oR λ_ _=>rfl)
 have P2:=zo (st:=xn) l32 c32 k32
 have QE:bA K (cq "_law_whole" "_law_whole" xn .none Dd BN DW AA vW Bg) ["_law_found"] []:=.all (pU λ_=>rfl)
 have P4:=zo (st:=yz) l33 c33 k33
 have QF:bA K (cq "_law_is_row" "_law_is_row" yz .none De BO DX AB vX Bh) ["_law_cell"] []:=.all (pU λ_=>rfl)
 have P5:=zo (st:=xo) l34 c34 k34
 have QG:bA K (cq "_law_mixed" "_law_mixed" xo .none Df BP DY AC vY Bi) ["_law_cell","_law_k"] []:=.all (oR λ_ _=>rfl)
 have P6:=zo (st:=wj) l35 c35 k35
 have QH:bA K (cq "_law_rank" "_law_rank" wj .none Dg BQ DZ AD vZ Bj) ["_law_turn","_law_many","_law_going"] []:=.all (sY λ_ _ _=>rfl)
 have P7:=zo (st:=xp) l36 c36 k36
 have QI:bA K (cq "_law_arrow" "_law_arrow" xp .none Dh BR D0 AE wA Bk) ["_law_cell","_law_many","_law_turn","_law_k"] []:=.all (pV λ_ _ _ _=>rfl)
 have P8:=zo (st:=wk) l37 c37 k37
 have QJ:bA K (cq "_law_made" "_law_made" wk .none Di BS D1 AF wB Bl) ["_law_arrow_here","_law_kind"] []:=.all (oR λ_ _=>rfl)
 have P9:=zo (st:=w8) l38 c38 k38
 have QK:bA K (cq "_law_was" "_law_was" w8 .none Dj BU D2 AG wC Bm) ["_law_script","_law_many","_law_back"] []:=.all (sY λ_ _ _=>rfl)
 have Qa:=zo (st:=xq) l39 c39 k39
 have QL:bA K (cq "_law_tight" "_law_tight" xq .none Dk BV D3 AH wD Bn) ["_law_arrows","_law_rows","_law_lengths","_law_going","_law_when"] []:=.all (zF λ_ _ _ _ _=>rfl)
 have Qb:=zo (st:=xr) l40 c40 k40
 have QM:bA K (cq "_law_holds" "_law_holds" xr .none Dl BW D4 AI wF Bo) ["_law_arrows","_law_rows","_law_count","_law_start"] []:=.all (pV λ_ _ _ _=>rfl)
 have Qc:=zo (st:=xa) l41 c41 k41
 have QN:bA K (cq "_law_formed" "_law_formed" xa .none Dn BX D5 AJ wG Bp) ["_law_found","_law_many"] []:=.all (oR λ_ _=>rfl)
 have Qd:=zo (st:=xt) l42 c42 k42
 have QO:bA K (cq "_law_least" "_law_least" xt .none Do BY D6 AK wH Bq) ["_law_arrows","_law_rows","_law_found","_law_most"] []:=.all (pV λ_ _ _ _=>rfl)
 have Qe:=zo (st:=yO) l43 c43 k43
 have QP:bA K (cq "law" "law" yO .none xK wJ xP vA sy wI) ["_law_script"] []:=.all (pU λ_=>rfl)
 have qW:kc K (cq "comes_again" "comes_again" zk (.ref rC) sW sE tE sx qA sC) ["net","most","was"] ["was"] (kg 2 1 false) (kg 2 1 false):=xL (by decide) λs us ws hK h1 h2=>by
  exact match us,h1,ws,h2 with|[_,_],_,[_],_=>pd hK rfl t30 rfl rfl rfl
 have T:Txt K mg ⟨c_Arrow,c_Ride,c_Wait,c_Back,c_Net,f0,cq "__init__" "Arrow.__init__" yc .none L8 Lk Mq K2 Hd Lc,f1,cq "__init__" "Ride.__init__" ym .none L9 Ll Mr K3 He Ld,f2,cq "__init__" "Wait.__init__" zu (.ref FJ) Jp Hq Jz G6 Fb Hm,f3,cq "__init__" "Back.__init__" zw (.ref FK) Jq Hr JA G7 Fc Hn,f4,cq "is_letter" "is_letter" xj .none Ma Lm Ms K4 Hf Le,f5,cq "is_figure" "is_figure" xk .none Mb Ln Mt K5 Hg Lf,f6,cq "is_name" "is_name" wz .none Mc Lo Mu K6 Hh Lg,f7,cq "are_names" "are_names" xl .none Md Lp Mv K7 Hi Lh,f8,cq "lies_within" "lies_within" yn .none Me Lq Mw K8 Hj Li,f9,cq "is_right" "is_right" we .none Mf Lr Mz K9 Hk Lj,Hv,cq "placed_goings" "placed_goings" zy .none CO Br DC Ae vC AQ,Fg,cq "__init__" "Net.__init__" yw .none CP Bs DD Af vD AR,Fh,cq "most_behind" "Net.most_behind" zm .none CQ Bt DE Ag vE AS,Fi,cq "into" "Net.into" wf .none CS Bu DF Ah vF AT,Fj,cq "order" "Net.order" xm .none CT Bv DG Ai vG AU,Hw,cq "later" "later" u9 .none CU Bw DH Aj vH AV,Hx,cq "latest" "latest" vz .none CV Bx DI Ak vI AW,Hy,cq "greatest_told" "greatest_told" zz .none CW By DJ Am vJ AX,Hz,cq "rows_ahead" "rows_ahead" yx .none CY Bz DK An vK AY,HA,cq "time_in_last_row" "time_in_last_row" zj .none CZ BA DL Ao vL AZ,HB,cq "rows_with_past" "rows_with_past" zp .none C0 BB DM Ap vM A6,HC,cq "run" "run" qx (.ref rB) sV sD tD sv p9 sA,HD,cq "growth" "growth" v4 .none C1 BC DN Aq vN A7,HE,cq "grows_so" "grows_so" wg .none C2 BD DO Ar vO A8,HF,cq "never_outgrown" "never_outgrown" zq .none C3 BE DP As vP A9,HG,cq "is_carried" "is_carried" yy .none C4 BG DQ Au vQ Ba,HH,cq "all_carried" "all_carried" yo .none C5 BI DR Av vR Bb,HI,cq "goes_on" "goes_on" w6 .none C6 BJ DS Aw vS Bc,HJ,cq "refuse_loose" "refuse_loose" yf .none C7 BK DT Ax vT Bd,HK,cq "earliest_round" "earliest_round" zt .none C8 BL DU Ay vU Be,HL,cq "comes_again" "comes_again" zk (.ref rC) sW sE tE sx qA sC,HM,cq "_law_cell_at" "_law_cell_at" yp .none C9 BM DV Az vV Bf,HN,cq "_law_whole" "_law_whole" xn .none Dd BN DW AA vW Bg,HP,cq "_law_is_row" "_law_is_row" yz .none De BO DX AB vX Bh,HQ,cq "_law_mixed" "_law_mixed" xo .none Df BP DY AC vY Bi,HR,cq "_law_rank" "_law_rank" wj .none Dg BQ DZ AD vZ Bj,HS,cq "_law_arrow" "_law_arrow" xp .none Dh BR D0 AE wA Bk,HU,cq "_law_made" "_law_made" wk .none Di BS D1 AF wB Bl,HV,cq "_law_was" "_law_was" w8 .none Dj BU D2 AG wC Bm,HW,cq "_law_tight" "_law_tight" xq .none Dk BV D3 AH wD Bn,HX,cq "_law_holds" "_law_holds" xr .none Dl BW D4 AI wF Bo,HY,cq "_law_formed" "_law_formed" xa .none Dn BX D5 AJ wG Bp,HZ,cq "_law_least" "_law_least" xt .none Do BY D6 AK wH Bq,fa,cq "law" "law" yO .none xK wJ xP vA sy wI⟩:=by
  constructor
  ·exact⟨⟨pg_Arrow,hd_Arrow,po_Arrow,sa_Arrow⟩,aD X G aC_Arrow,mk_Arrow,kc_Arrow⟩
  ·exact⟨⟨pg_Ride,hd_Ride,po_Ride,sa_Ride⟩,aD X G aC_Ride,mk_Ride,kc_Ride⟩
  ·exact⟨⟨pg_Wait,hd_Wait,po_Wait,sa_Wait⟩,aD X G aC_Wait,mk_Wait,kc_Wait⟩
  ·exact⟨⟨pg_Back,hd_Back,po_Back,sa_Back⟩,aD X G aC_Back,mk_Back,kc_Back⟩
  ·exact⟨⟨pg_Net,hd_Net,po_Net,sa_Net⟩,aD X G aC_Net,mk_Net,kc_Net⟩
  ·exact⟨F0,⟨a0,i0,k0⟩,b0⟩
  ·exact⟨F1,⟨a1,i1,k1⟩,b1⟩
  ·exact⟨F2,⟨a2,i2,k2⟩,b2⟩
  ·exact⟨_,trivial,(.cons ⟨_,rfl⟩ .nil),G8⟩
  ·exact⟨F3,⟨a3,i3,k3⟩,b3⟩
  ·exact⟨_,trivial,(.cons ⟨_,rfl⟩ .nil),G9⟩
  ·exact⟨F4,aD X G a4,b4⟩
  ·exact⟨F5,aD X G a5,b5⟩
  ·exact⟨F6,aD X G a6,b6⟩
  ·exact⟨F7,aD X G a7,b7⟩
  ·exact⟨F8,aD X G a8,b8⟩
  ·exact⟨F9,aD X G a9,b9⟩
  ·exact⟨Pu,aD X G a10,Qi⟩
  ·exact⟨Pv,⟨a11,i11,k11⟩,Qj⟩
  ·exact⟨Pw,⟨a12,i12,k12⟩,Qk⟩
  ·exact⟨Px,⟨a13,i13,k13⟩,Ql⟩
  ·exact⟨Py,⟨a14,i14,k14⟩,Qm⟩
  ·exact⟨Pz,aD X G a15,Qn⟩
  ·exact⟨PB,aD X G a16,Qo⟩
  ·exact⟨PD,aD X G a17,Qp⟩
  ·exact⟨PH,aD X G a18,Qq⟩
  ·exact⟨PJ,aD X G a19,Qr⟩
  ·exact⟨PL,aD X G a20,Qs⟩
  ·exact⟨PM,aD X G a21,Qt⟩
  ·exact⟨_,trivial,(.cons rfl .nil),AL⟩
  ·exact⟨_,trivial,(.cons rfl (.cons rfl .nil)),AM⟩
  ·exact⟨PN,aD X G a22,Qu⟩
  ·exact⟨PP,aD X G a23,Qv⟩
  ·exact⟨PQ,aD X G a24,Qw⟩
  ·exact⟨PR,aD X G a25,Qx⟩
  ·exact⟨PU,aD X G a26,Qy⟩
  ·exact⟨PV,aD X G a27,Qz⟩
  ·exact⟨PX,aD X G a28,QA⟩
  ·exact⟨PY,aD X G a29,QB⟩
  ·exact⟨PZ,aD X G a30,QC⟩
  ·exact⟨_,trivial,(.cons rfl .nil),AN⟩
  ·exact⟨P0,aD X G a31,QD⟩
  ·exact⟨P2,aD X G a32,QE⟩
  ·exact⟨P4,aD X G a33,QF⟩
  ·exact⟨P5,aD X G a34,QG⟩
  ·exact⟨P6,aD X G a35,QH⟩
  ·exact⟨P7,aD X G a36,QI⟩
  ·exact⟨P8,aD X G a37,QJ⟩
  ·exact⟨P9,aD X G a38,QK⟩
  ·exact⟨Qa,aD X G a39,QL⟩
  ·exact⟨Qb,aD X G a40,QM⟩
  ·exact⟨Qc,aD X G a41,QN⟩
  ·exact⟨Qd,aD X G a42,QO⟩
  ·exact⟨Qe,aD X G a43,QP⟩
  ·exact qW
  ·exact⟨qs_Arrow,qr_Arrow,qf_Arrow⟩
  ·exactλc hc=>by
    simp only[aC,bN,or_false]at hc
    rcases hc with rfl
    all_goals first|exact⟨⟨pg_Net,hd_Net,po_Net,sa_Net⟩,n_Net_arrows⟩
  ·exactλc hc=>by
    simp only[aC,bN,or_false]at hc
    rcases hc with rfl|rfl|rfl|rfl
    all_goals first|exact⟨⟨pg_Arrow,hd_Arrow,po_Arrow,sa_Arrow⟩,n_Arrow_behind⟩|exact⟨⟨pg_Ride,hd_Ride,po_Ride,sa_Ride⟩,n_Ride_behind⟩|exact⟨⟨pg_Wait,hd_Wait,po_Wait,sa_Wait⟩,n_Wait_behind⟩|exact⟨⟨pg_Back,hd_Back,po_Back,sa_Back⟩,n_Back_behind⟩
  ·exactλc hc=>by
    simp only[aC,bN,or_false]at hc
    rcases hc with rfl|rfl|rfl|rfl
    all_goals first|exact⟨⟨pg_Arrow,hd_Arrow,po_Arrow,sa_Arrow⟩,n_Arrow_goal⟩|exact⟨⟨pg_Ride,hd_Ride,po_Ride,sa_Ride⟩,n_Ride_goal⟩|exact⟨⟨pg_Wait,hd_Wait,po_Wait,sa_Wait⟩,n_Wait_goal⟩|exact⟨⟨pg_Back,hd_Back,po_Back,sa_Back⟩,n_Back_goal⟩
  ·exactλc hc=>by
    simp only[aC,bN,or_false]at hc
    rcases hc with rfl
    all_goals first|exact⟨⟨pg_Net,hd_Net,po_Net,sa_Net⟩,n_Net_names⟩
  ·exactλc hc=>by
    simp only[aC,bN,or_false]at hc
    rcases hc with rfl|rfl|rfl|rfl
    all_goals first|exact⟨⟨pg_Arrow,hd_Arrow,po_Arrow,sa_Arrow⟩,n_Arrow_start⟩|exact⟨⟨pg_Ride,hd_Ride,po_Ride,sa_Ride⟩,n_Ride_start⟩|exact⟨⟨pg_Wait,hd_Wait,po_Wait,sa_Wait⟩,n_Wait_start⟩|exact⟨⟨pg_Back,hd_Back,po_Back,sa_Back⟩,n_Back_start⟩
  ·exactλc hc=>by
    simp only[aC,bN,or_false]at hc
    rcases hc with rfl|rfl|rfl|rfl
    all_goals first|exact⟨⟨pg_Arrow,hd_Arrow,po_Arrow,sa_Arrow⟩,n_Arrow_time⟩|exact⟨⟨pg_Ride,hd_Ride,po_Ride,sa_Ride⟩,n_Ride_time⟩|exact⟨⟨pg_Wait,hd_Wait,po_Wait,sa_Wait⟩,n_Wait_time⟩|exact⟨⟨pg_Back,hd_Back,po_Back,sa_Back⟩,n_Back_time⟩
  ·exactλc hc=>by
    simp only[aC,bN,or_false]at hc
    rcases hc with rfl|rfl|rfl|rfl|rfl
    all_goals first|exact⟨⟨⟨pg_Arrow,hd_Arrow,po_Arrow,sa_Arrow⟩,iga_Arrow,ign,igt,igm_Arrow⟩,kit_Arrow_Back⟩|exact⟨⟨⟨pg_Ride,hd_Ride,po_Ride,sa_Ride⟩,iga_Ride,ign,igt,igm_Ride⟩,kit_Ride_Back⟩|exact⟨⟨⟨pg_Wait,hd_Wait,po_Wait,sa_Wait⟩,iga_Wait,ign,igt,igm_Wait⟩,kit_Wait_Back⟩|exact⟨⟨⟨pg_Back,hd_Back,po_Back,sa_Back⟩,iga_Back,ign,igt,igm_Back⟩,kit_Back_Back⟩|exact⟨⟨⟨pg_Net,hd_Net,po_Net,sa_Net⟩,iga_Net,ign,igt,igm_Net⟩,kit_Net_Back⟩
  ·exactλc hc=>by
    simp only[aC,bN,or_false]at hc
    rcases hc with rfl|rfl|rfl|rfl|rfl
    all_goals first|exact⟨⟨⟨pg_Arrow,hd_Arrow,po_Arrow,sa_Arrow⟩,iga_Arrow,ign,igt,igm_Arrow⟩,kit_Arrow_Ride⟩|exact⟨⟨⟨pg_Ride,hd_Ride,po_Ride,sa_Ride⟩,iga_Ride,ign,igt,igm_Ride⟩,kit_Ride_Ride⟩|exact⟨⟨⟨pg_Wait,hd_Wait,po_Wait,sa_Wait⟩,iga_Wait,ign,igt,igm_Wait⟩,kit_Wait_Ride⟩|exact⟨⟨⟨pg_Back,hd_Back,po_Back,sa_Back⟩,iga_Back,ign,igt,igm_Back⟩,kit_Back_Ride⟩|exact⟨⟨⟨pg_Net,hd_Net,po_Net,sa_Net⟩,iga_Net,ign,igt,igm_Net⟩,kit_Net_Ride⟩
  ·exact bQ X G z0
  ·exact bQ X G z1
  ·exact bQ X G z2
  ·exact bQ X G z3
  ·exact bQ X G z4
  ·exact bQ X G z5
  ·exact bQ X G z6
  ·exact bQ X G z7
  ·exact bQ X G z8
  ·exact bQ X G z9
  ·exact bQ X G z10
  ·exact bQ X G z11
  ·exact bQ X G z12
  ·exact⟨_,aD X G gc0⟩
  ·exact⟨_,aD X G gc1⟩
  ·exact⟨_,aD X G gc2⟩
  ·exact⟨_,aD X G gc3⟩
  ·exact⟨_,aD X G gc4⟩
 exact⟨cq "law" "law" yO .none xK wJ xP vA sy wI,λs v=>.of_eq rfl,λbase _ _=>zst T⟩
theorem walk {l:kx}{q:ba}{loose:List aL}{XP:(aL->Option ae)->aG->Prop}{YP:bM->aG->Prop}{d:DefRec}{K:Params->aa}(hn:l.most=some 63)(Cb:d.params.defaults=[])
  (hY:∀(w:bM) (h:aG),YP w h->(K w.params).In h)
  (F:∀(w:bM) (mg:aL->Option ae) (fa:af) (h:aG),(K w.params).In h->h.Ns aw mg->mg d.name=some (.ref fa) ->
   ∃fd:aH,(∀(s:aj) (u:ae),jX s fd ⟨[u],[]⟩ [("_law_script",u)])/\∀base:aG,(K w.params).In base->base.Ns aw mg->cn l.prog w (K w.params) mg base eu 6 fa fd ["_law_script"] (mr (K w.params))) :
  pZ q loose XP YP l.row.toRowW d [] (λf vs=>PySem.call f vs) :=
 L2.walk_of (n:=63) (k:=6) (x:="_law_script") (CX:=λ_=>eu) (sp:=λw=>mr (K w.params)) hn (by decide) Cb ⟨rfl,by decide,by decide⟩ hY F (λ_ _ a ns hl _ hS=>⟨a,ns,rfl,hS,hl,λ_=>rfl⟩) λ_ _ _ _ _ z=>z
end My
-- KEEP
namespace PySem.W.Fast
def tw13272374161566501393:=0
def tw13777157582803750738:=0
def tw99897859327402136:=0
def tw12386150007590308168:=0
def tw635748983325607277:=0
def tw13815662081168088952:=0
def tw17383529441013323508:=0
def tw6730024320753197871:=0
def tw10945147642878259947:=0
def tw5720288459391365037:=0
def tw10123531619103903410:=0
def tw6712167723068899803:=0
def tw9367002632842883457:=0
def tw4928665093323590501:=0
def tw1387137219360845254:=0
def tw8141075588550480593:=0
def tw15320160118336843810:=0
def tw8743291597111627694:=0
def tw7869072389987807924:=0
def tw3459217528352932035:=0
def tw13657941575717849804:=0
def tw6639829299342075031:=0
def tw13835741844433806259:=0
def tw13873942698219602263:=0
def tw6532321165158873452:=0
def tw55492467744529867:=0
def tw230917240919259136:=0
def tw11738557601439942357:=0
def tw18412542418777249678:=0
def tw244646164006251980:=0
def tw2008004932150848461:=0
def tw6939877886458163979:=0
def tw16688921160953668249:=0
def tw10481655321144408438:=0
def tw6001219541775837967:=0
def tw10365440824437078054:=0
def tw8672284503053890254:=0
def tw14940540915276153390:=0
def tw10812685472147565116:=0
def tw17294982587377226232:=0
def tw10138462526673366666:=0
def tw16126642821575189633:=0
def tw2480642526301009935:=0
def tw16665475978863248758:=0
def tw5946451211379418418:=0
def tw8067734010838849248:=0
def tw10576850585529528164:=0
def tw5104711073432052227:=0
def tw14281066204702122238:=0
def tw16481728946257671873:=0
def tw2225692411392503676:=0
def tw8570414488492227434:=0
def tw3184404195705374875:=0
def tw4834480126225726009:=0
def tw16428861475545654095:=0
def tw16344230631249815277:=0
def tw13670319076489205815:=0
def tw10034389737459714038:=0
def tw1837607015921880989:=0
def tw13219092918804167054:=0
def tw11956117706281625760:=0
def tw16368956531818882976:=0
def tw6872390363561042625:=0
def tw12102156819928154163:=0
def tw16606871462137999351:=0
def tw1095787394411999600:=0
def tw14232214062262013270:=0
def tw17918314714202426276:=0
def tw12221404113018049877:=0
def tw6017457972496532337:=0
def tw1107833902794247981:=0
def tw5820811221977341348:=0
end PySem.W.Fast
open PySem PySem.W PyProof.Rows
set_option maxRecDepth 100000 in
set_option maxHeartbeats 0 in
theorem PySem.Challenge.cw_ringbeat_k43_whole_least_again_holds : PySem.Challenge.rw_ringbeat_k43_whole_least_again.Holds := by
  w_on; o_law; k_head; (case hw => w_witness2)
  k_fill
  refine My.walk (l := PySem.Challenge.rw_ringbeat_k43_whole_least_again) rfl rfl (fun w h Y => PySem.W.kIn_of Y) ?F
  case F =>
    intro w mg fa h KX G hmg
    refine' My.all_mk KX G hmg ?aC_Arrow ?pg_Arrow ?hd_Arrow ?po_Arrow ?sa_Arrow ?mk_Arrow ?kc_Arrow ?aC_Ride ?pg_Ride ?hd_Ride ?po_Ride ?sa_Ride ?mk_Ride ?kc_Ride ?aC_Wait ?pg_Wait ?hd_Wait ?po_Wait ?sa_Wait ?mk_Wait ?kc_Wait ?aC_Back ?pg_Back ?hd_Back ?po_Back ?sa_Back ?mk_Back ?kc_Back ?aC_Net ?pg_Net ?hd_Net ?po_Net ?sa_Net ?mk_Net ?kc_Net ?a0 ?i0 ?l0 ?c0 ?k0 ?a1 ?i1 ?l1 ?c1 ?k1 ?a2 ?i2 ?l2 ?c2 ?k2 ?t2 ?a3 ?i3 ?l3 ?c3 ?k3 ?t3 ?a4 ?l4 ?c4 ?k4 ?a5 ?l5 ?c5 ?k5 ?a6 ?l6 ?c6 ?k6 ?a7 ?l7 ?c7 ?k7 ?a8 ?l8 ?c8 ?k8 ?a9 ?l9 ?c9 ?k9 ?a10 ?l10 ?c10 ?k10 ?a11 ?i11 ?l11 ?c11 ?k11 ?a12 ?i12 ?l12 ?c12 ?k12 ?a13 ?i13 ?l13 ?c13 ?k13 ?a14 ?i14 ?l14 ?c14 ?k14 ?a15 ?l15 ?c15 ?k15 ?a16 ?l16 ?c16 ?k16 ?a17 ?l17 ?c17 ?k17 ?a18 ?l18 ?c18 ?k18 ?a19 ?l19 ?c19 ?k19 ?a20 ?l20 ?c20 ?k20 ?a21 ?l21 ?c21 ?k21 ?t21 ?a22 ?l22 ?c22 ?k22 ?a23 ?l23 ?c23 ?k23 ?a24 ?l24 ?c24 ?k24 ?a25 ?l25 ?c25 ?k25 ?a26 ?l26 ?c26 ?k26 ?a27 ?l27 ?c27 ?k27 ?a28 ?l28 ?c28 ?k28 ?a29 ?l29 ?c29 ?k29 ?a30 ?l30 ?c30 ?k30 ?t30 ?a31 ?l31 ?c31 ?k31 ?a32 ?l32 ?c32 ?k32 ?a33 ?l33 ?c33 ?k33 ?a34 ?l34 ?c34 ?k34 ?a35 ?l35 ?c35 ?k35 ?a36 ?l36 ?c36 ?k36 ?a37 ?l37 ?c37 ?k37 ?a38 ?l38 ?c38 ?k38 ?a39 ?l39 ?c39 ?k39 ?a40 ?l40 ?c40 ?k40 ?a41 ?l41 ?c41 ?k41 ?a42 ?l42 ?c42 ?k42 ?a43 ?l43 ?c43 ?k43 ?qs_Arrow ?qr_Arrow ?qf_Arrow ?n_Net_arrows ?n_Arrow_behind ?n_Ride_behind ?n_Wait_behind ?n_Back_behind ?n_Arrow_goal ?n_Ride_goal ?n_Wait_goal ?n_Back_goal ?n_Net_names ?n_Arrow_start ?n_Ride_start ?n_Wait_start ?n_Back_start ?n_Arrow_time ?n_Ride_time ?n_Wait_time ?n_Back_time ?ign ?igt ?iga_Arrow ?igm_Arrow ?kit_Arrow_Back ?kit_Arrow_Ride ?iga_Ride ?igm_Ride ?kit_Ride_Back ?kit_Ride_Ride ?iga_Wait ?igm_Wait ?kit_Wait_Back ?kit_Wait_Ride ?iga_Back ?igm_Back ?kit_Back_Back ?kit_Back_Ride ?iga_Net ?igm_Net ?kit_Net_Back ?kit_Net_Ride ?z0 ?z1 ?z2 ?z3 ?z4 ?z5 ?z6 ?z7 ?z8 ?z9 ?z10 ?z11 ?z12 ?gc0 ?gc1 ?gc2 ?gc3 ?gc4
    (case aC_Arrow => k_is)
    (case pg_Arrow => k_is)
    (case hd_Arrow => k_is)
    (case po_Arrow => k_is)
    (case sa_Arrow => k_is)
    (case mk_Arrow => k_is)
    (case kc_Arrow => k_is)
    (case aC_Ride => k_is)
    (case pg_Ride => k_is)
    (case hd_Ride => k_is)
    (case po_Ride => k_is)
    (case sa_Ride => k_is)
    (case mk_Ride => k_is)
    (case kc_Ride => k_is)
    (case aC_Wait => k_is)
    (case pg_Wait => k_is)
    (case hd_Wait => k_is)
    (case po_Wait => k_is)
    (case sa_Wait => k_is)
    (case mk_Wait => k_is)
    (case kc_Wait => k_is)
    (case aC_Back => k_is)
    (case pg_Back => k_is)
    (case hd_Back => k_is)
    (case po_Back => k_is)
    (case sa_Back => k_is)
    (case mk_Back => k_is)
    (case kc_Back => k_is)
    (case aC_Net => k_is)
    (case pg_Net => k_is)
    (case hd_Net => k_is)
    (case po_Net => k_is)
    (case sa_Net => k_is)
    (case mk_Net => k_is)
    (case kc_Net => k_is)
    (case a0 => k_is)
    (case i0 => k_is)
    (case l0 => k_is)
    (case c0 => k_is)
    (case k0 => k_is)
    (case a1 => k_is)
    (case i1 => k_is)
    (case l1 => k_is)
    (case c1 => k_is)
    (case k1 => k_is)
    (case a2 => k_is)
    (case i2 => k_is)
    (case l2 => k_is)
    (case c2 => k_is)
    (case k2 => k_is)
    (case t2 => k_is)
    (case a3 => k_is)
    (case i3 => k_is)
    (case l3 => k_is)
    (case c3 => k_is)
    (case k3 => k_is)
    (case t3 => k_is)
    (case a4 => k_is)
    (case l4 => k_is)
    (case c4 => k_is)
    (case k4 => k_is)
    (case a5 => k_is)
    (case l5 => k_is)
    (case c5 => k_is)
    (case k5 => k_is)
    (case a6 => k_is)
    (case l6 => k_is)
    (case c6 => k_is)
    (case k6 => k_is)
    (case a7 => k_is)
    (case l7 => k_is)
    (case c7 => k_is)
    (case k7 => k_is)
    (case a8 => k_is)
    (case l8 => k_is)
    (case c8 => k_is)
    (case k8 => k_is)
    (case a9 => k_is)
    (case l9 => k_is)
    (case c9 => k_is)
    (case k9 => k_is)
    (case a10 => k_is)
    (case l10 => k_is)
    (case c10 => k_is)
    (case k10 => k_is)
    (case a11 => k_is)
    (case i11 => k_is)
    (case l11 => k_is)
    (case c11 => k_is)
    (case k11 => k_is)
    (case a12 => k_is)
    (case i12 => k_is)
    (case l12 => k_is)
    (case c12 => k_is)
    (case k12 => k_is)
    (case a13 => k_is)
    (case i13 => k_is)
    (case l13 => k_is)
    (case c13 => k_is)
    (case k13 => k_is)
    (case a14 => k_is)
    (case i14 => k_is)
    (case l14 => k_is)
    (case c14 => k_is)
    (case k14 => k_is)
    (case a15 => k_is)
    (case l15 => k_is)
    (case c15 => k_is)
    (case k15 => k_is)
    (case a16 => k_is)
    (case l16 => k_is)
    (case c16 => k_is)
    (case k16 => k_is)
    (case a17 => k_is)
    (case l17 => k_is)
    (case c17 => k_is)
    (case k17 => k_is)
    (case a18 => k_is)
    (case l18 => k_is)
    (case c18 => k_is)
    (case k18 => k_is)
    (case a19 => k_is)
    (case l19 => k_is)
    (case c19 => k_is)
    (case k19 => k_is)
    (case a20 => k_is)
    (case l20 => k_is)
    (case c20 => k_is)
    (case k20 => k_is)
    (case a21 => k_is)
    (case l21 => k_is)
    (case c21 => k_is)
    (case k21 => k_is)
    (case t21 => k_is)
    (case a22 => k_is)
    (case l22 => k_is)
    (case c22 => k_is)
    (case k22 => k_is)
    (case a23 => k_is)
    (case l23 => k_is)
    (case c23 => k_is)
    (case k23 => k_is)
    (case a24 => k_is)
    (case l24 => k_is)
    (case c24 => k_is)
    (case k24 => k_is)
    (case a25 => k_is)
    (case l25 => k_is)
    (case c25 => k_is)
    (case k25 => k_is)
    (case a26 => k_is)
    (case l26 => k_is)
    (case c26 => k_is)
    (case k26 => k_is)
    (case a27 => k_is)
    (case l27 => k_is)
    (case c27 => k_is)
    (case k27 => k_is)
    (case a28 => k_is)
    (case l28 => k_is)
    (case c28 => k_is)
    (case k28 => k_is)
    (case a29 => k_is)
    (case l29 => k_is)
    (case c29 => k_is)
    (case k29 => k_is)
    (case a30 => k_is)
    (case l30 => k_is)
    (case c30 => k_is)
    (case k30 => k_is)
    (case t30 => k_is)
    (case a31 => k_is)
    (case l31 => k_is)
    (case c31 => k_is)
    (case k31 => k_is)
    (case a32 => k_is)
    (case l32 => k_is)
    (case c32 => k_is)
    (case k32 => k_is)
    (case a33 => k_is)
    (case l33 => k_is)
    (case c33 => k_is)
    (case k33 => k_is)
    (case a34 => k_is)
    (case l34 => k_is)
    (case c34 => k_is)
    (case k34 => k_is)
    (case a35 => k_is)
    (case l35 => k_is)
    (case c35 => k_is)
    (case k35 => k_is)
    (case a36 => k_is)
    (case l36 => k_is)
    (case c36 => k_is)
    (case k36 => k_is)
    (case a37 => k_is)
    (case l37 => k_is)
    (case c37 => k_is)
    (case k37 => k_is)
    (case a38 => k_is)
    (case l38 => k_is)
    (case c38 => k_is)
    (case k38 => k_is)
    (case a39 => k_is)
    (case l39 => k_is)
    (case c39 => k_is)
    (case k39 => k_is)
    (case a40 => k_is)
    (case l40 => k_is)
    (case c40 => k_is)
    (case k40 => k_is)
    (case a41 => k_is)
    (case l41 => k_is)
    (case c41 => k_is)
    (case k41 => k_is)
    (case a42 => k_is)
    (case l42 => k_is)
    (case c42 => k_is)
    (case k42 => k_is)
    (case a43 => k_is)
    (case l43 => k_is)
    (case c43 => k_is)
    (case k43 => k_is)
    (case qs_Arrow => k_is)
    (case qr_Arrow => k_is)
    (case qf_Arrow => k_is)
    (case n_Net_arrows => k_is)
    (case n_Arrow_behind => k_is)
    (case n_Ride_behind => k_is)
    (case n_Wait_behind => k_is)
    (case n_Back_behind => k_is)
    (case n_Arrow_goal => k_is)
    (case n_Ride_goal => k_is)
    (case n_Wait_goal => k_is)
    (case n_Back_goal => k_is)
    (case n_Net_names => k_is)
    (case n_Arrow_start => k_is)
    (case n_Ride_start => k_is)
    (case n_Wait_start => k_is)
    (case n_Back_start => k_is)
    (case n_Arrow_time => k_is)
    (case n_Ride_time => k_is)
    (case n_Wait_time => k_is)
    (case n_Back_time => k_is)
    (case ign => k_is)
    (case igt => k_is)
    (case iga_Arrow => k_is)
    (case igm_Arrow => k_is)
    (case kit_Arrow_Back => kit_is)
    (case kit_Arrow_Ride => kit_is)
    (case iga_Ride => k_is)
    (case igm_Ride => k_is)
    (case kit_Ride_Back => kit_is)
    (case kit_Ride_Ride => kit_is)
    (case iga_Wait => k_is)
    (case igm_Wait => k_is)
    (case kit_Wait_Back => kit_is)
    (case kit_Wait_Ride => kit_is)
    (case iga_Back => k_is)
    (case igm_Back => k_is)
    (case kit_Back_Back => kit_is)
    (case kit_Back_Ride => kit_is)
    (case iga_Net => k_is)
    (case igm_Net => k_is)
    (case kit_Net_Back => kit_is)
    (case kit_Net_Ride => kit_is)
    (case z0 => k_is)
    (case z1 => k_is)
    (case z2 => k_is)
    (case z3 => k_is)
    (case z4 => k_is)
    (case z5 => k_is)
    (case z6 => k_is)
    (case z7 => k_is)
    (case z8 => k_is)
    (case z9 => k_is)
    (case z10 => k_is)
    (case z11 => k_is)
    (case z12 => k_is)
    (case gc0 => k_is)
    (case gc1 => k_is)
    (case gc2 => k_is)
    (case gc3 => k_is)
    (case gc4 => k_is)
