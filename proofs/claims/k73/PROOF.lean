import PyProof.Rows.All
import Wide.All
import OpenK.AllK
import Wide.FinOn
import Lean
import PyProof.EqAt
import PyProof.EqKinds
import PyProof.TupleCall
import PyProof.ExcClass3
import PyProof.ExcBaseAll.ValueError
import KE.KTryMore
import PyProof.FString2
import PyProof.ReprRoads
import PyProof.ReprBulk
import PyProof.DictItems
import KE.KDictList
import KE.KSortTup
import KE.KDictList
import PyProof.StrCalls
import PyProof.StrBlock2
import PyProof.StrBlockI
import PyProof.StrCalls2
import KE.KIntText
import PySem.Challenge.RW_ringbeat_k73_nets_alike
set_option Elab.async false
set_option linter.all false
set_option maxRecDepth 100000
open Array renaming length_toList→dq,getElem?_eq_getElem→dM,getD_eq_getD_getElem?→gk,getElem?_eq_none→ie,mem_toList_iff→iN,append_assoc→oP,size_map→rz
open Bool renaming false_ne_true→aY,and_eq_true→bN,false_eq_true→cv,or_eq_false_iff→n4
open Int renaming le_refl→fZ,toNat_natCast→kh,fdiv_eq_ediv_of_nonneg→lS
open List renaming mem_cons_self→am,mem_cons_of_mem→ap,range→az,mem_cons→aA,getElem?_eq_some_iff→aC,length_map→aD,mem_append_right→aE,replicate→aG,mem_singleton→aJ,getElem?_map→aM,size_toArray→aN,mem_append_left→aO,length_cons→aP,mem_append→aU,mem_range→aX,lookup_cons→bn,length_append→bq,getElem?_eq_getElem→bt,nodup_append→bu,mem_filter→bA,mem_iff_getElem→bB,map_cons→bC,nodup_nil→bD,mem_map→bH,mem_iff_getElem?→bI,append_nil→bV,nodup_cons→bW,length_range→bZ,getElem?_append_left→cy,Nodup→cz,replicate_succ→cA,not_mem_nil→cL,getD_eq_getElem?_getD→cQ,getElem?_append_right→cR,map_congr_left→cU,find?_cons→cX,length_zip→cY,getElem?_eq_none→dc,length_replicate→de,map_map→df,of_mem_zip→dn,getElem?_range→dz,getElem_mem→dC,length_take→dD,foldl_cons→dP,length_eq_zero_iff→dX,getElem_range→d7,take_of_length_le→d8,flatten_cons→eu,ext_getElem→eJ,getElem_inj→eK,pairwise_cons→eU,zip_cons_cons→eW,getElem?_replicate→eY,length→eZ,drop_of_length_le→fy,ext_getElem?→fz,length_singleton→fK,countP_cons→fO,getElem_map→fP,length_drop→fQ,nodup_range→fR,getElem?_set_ne→fV,lookup→fW,take_append_of_le_length→fX,filterMap_cons→gm,length_reverse→gp,countP_append→gC,append_assoc→gJ,reverse_cons→gK,all_eq_true→gW,any_eq_true→gX,filter_cons→gY,getElem?_set_self→iq,toArray→ir,map_const'→iA,find?_some→iB,map_append→iC,mem_of_getElem?→iT,mem_of_mem_take→iU,find?_eq_none→jL,zip_map_right→jM,foldl_append→jY,map_nil→jZ,range'_succ→kB,getElem_set→kC,mem_reverse→kE,range'→kK,eq_nil_of_length_eq_zero→kL,forIn_cons→kU,length_set→kW,perm_ext_iff_of_nodup→lK,drop_eq_getElem_cons→lT,mem_of_find?_eq_some→lU,all_cons→mw,any_cons→my,append_cancel_left→mV,filter_cons_of_neg→mW,filter_cons_of_pos→mX,drop_eq_nil_of_le→nh,contains_iff_mem→nK,countP_singleton→nL,getElem?_reverse→nM,range_eq_range'→n8,length_pos_iff→oR,contains_cons→pf,filterMap_map→pj,findIdx?_cons→pq,foldl→pv,mem_filterMap→pz,getElem_take→pT,map_inj_left→pU,pairwise_map→pV,take_left'→rA,zip_append→rB,forIn_nil→rR,contains→sU,map_take→sV
open Nat renaming le_refl→ar,ne_of_lt→aZ,lt_of_lt_of_le→br,le_trans→cm,zero_le→cw,lt_succ_of_lt→cV,lt_irrefl→eh,min_eq_left→gq,le_succ→gM,lt_succ_self→ig,min_eq_right→ij,le_of_lt→iD,le_of_succ_le→kj,le_total→kl,min_self→km,mod_lt→lV,mul_le_mul→lW,le_of_eq→nN,sub_self→nO,sub_zero→nP,succ_mul→nQ,pow_le_pow_right→oS,lt_of_le_of_lt→pW,le_add_right→rC
open Option renaming bind_some→bM,map_eq_some_iff→bX,map_some→eP,isSome_iff_exists→lL,isSome_map→oT,getD_none→pA,getD_some→pB
open PyProof.Rows renaming callWith_type1→cF,slot_tuple_getitem→eR
open PySem renaming Value→aa,Addr→af,wpAny_bind→ak,Shared→ao,wpAny_pure→aq,starEach→aw,mainGlobals→aB,Heap→aK,Str→aR,FuncData→aS,wpAny→aT,model→aV,Program→bb,NameKind→bp,Around→bz,PyData→bE,World→bG,eval→bS,bootBuiltins→bU,Builtin→ck,assignEach→cn,Stmt→cp,sizeLine_eq→cr,compareOp→cx,PassesOwn→cC,backTo→cD,Pos→cG,sysModules→cH,strIterType→cI,wpAny_newObj_type→cJ,Obj→cP,holding→dm,foldedSetIterable→dB,behindInMarks→dG,keywordEach→dH,binaryOp→dQ,wpAny_Call_Name_kw→dR,wpAny_holding→dY,wpAny_mono→dZ,wpAny_passesOwn→eD,swapsWith→eE,wpAny_truthy_bool→eL,assign→eQ,attributeBase→e9,backToKw→fk,swappedStores→fq,swapsWithSole→fu,Scope→fF,sliceBounds→fG,standAt→fT,getMethod→gr,letOwnedTupleGo→gF,codeAny→gL,cLine→gQ,tupleKind_room_in1→gR,Keyword→iu,Operator→iO,callWith→iP,tupleKind→iQ,wpAny_execs_nil→i9,newFunctionEnv→jU,setItem→ka,CmpOp→kF,wpAny_standAt→kG,callerA→lG,codeAny_mono→lH,seqIndex_neg→lI,slot_list_getitem→lJ,seqIndex_of→mz,BindsTo→ni,Sem→nj,getItem→nk,release→nn,valueAt→nq,Code→nR,closureFor→nS,compEnvC→nU,compPost→nV,Data→oU,evalPart_none→oV,atKey→pC,bindC→pD,bindL→pE,concat_meets→pX,isTrue→pY,builtinsNs→sW,call_meets→sX,typeIs_int→sY,wpAny_Name→sZ
open PySem.Heap renaming get?_push_of_some→ay,lt_size→aI,get?_push_size→bo,SameBut→d6,get?_push_ne→et,size_push→fx,size_update→fN,get?_update_other→ng,get?_update_self→nJ,get?_none_of_le→n6,get?_update_ne→oQ,IsSliceOf→rQ
open PySem.W renaming Frag→ae,findIn→av,keepIn→ax,nsIn→aF,codeIn→aH,mg_of→aQ,kitOne→bJ,mg_none_of→bP,kia_one→cu,emptyDict→cM,hasDictIn→cN,plainGet→cZ,specialIn→dg,isFn→dr,instObj→dI,makesIn→dJ,plainOver→dN,mroIn→dS,methodCall_KW→fC,fnOf→gc,callWith_K→gu,cellsFrom_some→gS,findCls→gZ,readsIn→hE,takesIn→hG,lookIn→iE,plainGet_of→iR,kitx_list→jH,methodObj→jI,OpenLaw→kn,takerIn→ko,kitx_dict→n9,handedIn→oW,KatTups→pF,WalkO→p9
namespace L2
open PySem PySem.Spec PyProof.Rows
abbrev dw:=Sum Int aR
def mh:dw->aa->Bool
 |.inl k,v=>aa.isInt k v
 |.inr x,v=>aa.isStrOf x v
def Gq (w:bG):dw->Int
 |.inl k=>hashInt k
 |.inr x=>hashStr w x
theorem xy:∀{k:dw} {v:aa},mh k v=true->(∃i t,k=Sum.inl i/\v=aa.int i t)\/(∃x t,k=Sum.inr x/\v=aa.str x t)
 |.inl i,v,h=>by
  obtain⟨t,e⟩:=aa.isInt_shape (k:=i) (v:=v) h
  exact .inl ⟨i,t,rfl,e⟩
 |.inr x,v,h=>by
  obtain⟨t,e⟩:=aa.isStrOf_shape (x:=x) (v:=v) h
  exact .inr ⟨x,t,rfl,e⟩
theorem RE (i:Int)(t:Tok):mh (.inl i) (.int i t)=true:=by simp[mh,aa.isInt]
theorem RF (x:aR)(t:Tok):mh (.inr x) (.str x t)=true:=by simp[mh,aa.isStrOf]
theorem UY (a b:Int):decide ((Sum.inl a:dw)=Sum.inl b)=(a==b):=by
 by_cases e:a=b
 ·subst e;simp
 ·have h:¬(Sum.inl a:dw)=Sum.inl b:=λq=>e (Sum.inl.inj q)
  rw[decide_eq_false h]
  exact(beq_eq_false_iff_ne.mpr e).symm
theorem UZ (a b:aR):decide ((Sum.inr a:dw)=Sum.inr b)=decide (a=b):=by
 by_cases e:a=b
 ·subst e;simp
 ·have h:¬(Sum.inr a:dw)=Sum.inr b:=λq=>e (Sum.inr.inj q)
  rw[decide_eq_false h,decide_eq_false e]
theorem U0 (a:Int)(b:aR):decide ((Sum.inl a:dw)=Sum.inr b)=false:=decide_eq_false (λq=>nomatch q)
theorem U1 (a:aR)(b:Int):decide ((Sum.inr a:dw)=Sum.inl b)=false:=decide_eq_false (λq=>nomatch q)
def dW (prog:bb)(w:bG):PySem.KeyKind prog w dw where
 is:=mh
 hash:=Gq w
 inj:=λv a b ha hb=>by
  rcases xy ha with⟨i,t,rfl,rfl⟩|⟨x,t,rfl,rfl⟩
  ·rcases xy hb with⟨j,u,rfl,e⟩|⟨y,u,rfl,e⟩
   ·injection e with e1 _;rw[e1]
   ·exact nomatch e
  ·rcases xy hb with⟨j,u,rfl,e⟩|⟨y,u,rfl,e⟩
   ·exact nomatch e
   ·injection e with e1 _;rw[e1]
 byValue:=λk v h=>by
  rcases xy h with⟨i,t,rfl,rfl⟩|⟨x,t,rfl,rfl⟩<;>rfl
 pyHash:=λhv h=>by
  rcases xy hv with⟨i,t,rfl,rfl⟩|⟨x,t,rfl,rfl⟩
  ·exact wpAny_pyHash_int h
  ·exact wpAny_pyHash_str h
 eqBool:=λhu hv h=>by
  rcases xy hu with⟨i,t,rfl,rfl⟩|⟨x,t,rfl,rfl⟩
  ·rcases xy hv with⟨j,u,rfl,rfl⟩|⟨y,u,rfl,rfl⟩
   ·rw[UY]at h;exact wpAny_eqBool_int h
   ·rw[U0]at h;exact SeqAt.EqAt.int_str i t y u _ _ _ _ h
  ·rcases xy hv with⟨j,u,rfl,rfl⟩|⟨y,u,rfl,rfl⟩
   ·rw[U1]at h;exact SeqAt.EqAt.str_int x t j u _ _ _ _ h
   ·rw[UZ]at h;exact wpAny_eqBool_str h
 «strs»:=λk x t v h=>by
  rcases xy h with⟨i,u,rfl,e⟩|⟨y,u,rfl,e⟩
  ·exact nomatch e
  ·injection e with e1 _
   subst e1
   cases v<;>rfl
theorem QT (prog:bb)(w:bG)(i:Int)(t:Tok):(dW prog w).is (.inl i) (.int i t)=true:=RE i t
theorem QU (prog:bb)(w:bG)(x:aR)(t:Tok):(dW prog w).is (.inr x) (.str x t)=true:=RF x t
end L2
namespace L2
open PySem PySem.Spec PyProof.Rows
inductive V where
 |non|bl (b:Bool)|int (i:Int)|str (x:aR)|byt (b:Array UInt8)|flt (b:UInt64)|ref (a:af)|ty (n:String)
 deriving DecidableEq
def RelV:V->aa->Prop
 |.non,u=>u=aa.none
 |.bl b,u=>u=aa.bool b
 |.int i,u=>∃t,u=aa.int i t
 |.str x,u=>∃t,u=aa.str x t
 |.byt b,u=>∃t,u=aa.bytes b t
 |.flt b,u=>∃t,u=aa.float b t
 |.ref a,u=>u=aa.ref a
 |.ty n,u=>u=aa.type n
abbrev bR:List V->List aa->Prop:=Paired RelV
theorem bR.length {xs:List V}{us:List aa}(r:bR xs us):xs.length=us.length:=Paired.length r
theorem bR.get:∀{xs:List V} {us:List aa} {i:Nat} {x:V},bR xs us->xs[i]?=some x->∃u,us[i]?=some u/\RelV x u
 |_,_,_,_,.nil,e=>by simp at e
 |_,_,0,_,.cons r _,e=>by simp at e;subst e;exact⟨_,rfl,r⟩
 |_,_,i+1,x,.cons _ t,e=>by
  obtain⟨u,h1,h2⟩:=bR.get (i:=i) (x:=x) t (by simpa using e)
  exact⟨u,by simpa using h1,h2⟩
theorem bR.set {x:V}{u:aa}(r:RelV x u):∀{xs:List V} {us:List aa} (i:Nat),bR xs us->bR (xs.set i x) (us.set i u)
 |_,_,_,.nil=>.nil
 |_,_,0,.cons _ t=>.cons r t
 |_,_,i+1,.cons q t=>.cons q (bR.set r i t)
theorem bR.append:∀{xs ys:List V} {us ws:List aa},bR xs us->bR ys ws->bR (xs++ys) (us++ws)
 |_,_,_,_,.nil,s=>s
 |_,_,_,_,.cons r t,s=>.cons r (bR.append t s)
theorem bR.take:∀{xs:List V} {us:List aa} (n:Nat),bR xs us->bR (xs.take n) (us.take n)
 |_,_,0,_=>.nil
 |_,_,_+1,.nil=>.nil
 |_,_,n+1,.cons r t=>.cons r (bR.take n t)
theorem bR.drop:∀{xs:List V} {us:List aa} (n:Nat),bR xs us->bR (xs.drop n) (us.drop n)
 |_,_,0,r=>r
 |_,_,_+1,.nil=>.nil
 |_,_,n+1,.cons _ t=>bR.drop n t
def iW:Option V->Option aa->Prop
 |some v,some u=>RelV v u
 |none,none=>True
 |_,_=>False
def KV {κ:Type}:List (κ×V)->List (κ×aa)->Prop:=Paired λ(p:κ×V) (q:κ×aa)=>p.1=q.1/\RelV p.2 q.2
def kV:dw->V
 |.inl i=>.int i
 |.inr x=>.str x
inductive HO where
 |lst (xs:List V)
 |tup (xs:List V)
 |dK (bT:List (dw×V))|dT (bT:List (List dw×V))
 |set (S:Int->Bool) (n:Nat)
 |ins (C dx:af) (fs:List (aR×V))
 |own (x:af)
 |xd (fs:List (aR×V))
 |met (f x:af)
 |rng (lo hi:Int)
 |frz (o:cP) (u:HO)
 |tbl (ps:Array aa)
 |ext (φ:aK->Prop)
abbrev Hp:=af->Option HO
def upd (H:Hp)(a:af)(o:HO):Hp:=λb=>if b=a then some o else H b
theorem zw {H:Hp}{a:af}{o:HO}:upd H a o a=some o:=by unfold upd;rw[if_pos rfl]
theorem zt {H:Hp}{a b:af}{o:HO}(h:b≠a):upd H a o b=H b:=by unfold upd;rw[if_neg h]
theorem VM {H:Hp}{a b:af}{o u:HO}(h:H a=some o)(h':H b=some u)(d:o≠u):a≠b:=by
 intro e;subst e;rw[h]at h';exact d (Option.some.inj h')
theorem yr {H:Hp}{a b:af}{o:HO}(h:H a=some o)(h':H b=none):a≠b:=by
 intro e;subst e;rw[h]at h';cases h'
section
variable (P:bb)(w:bG)
def dA (H:Hp)(h:aK)(a:af):HO->Prop
  |.lst xs=>xs.length<=sizeLine/\∃(cq:List aa) (n:Nat),bR xs cq/\h.get? a=some { cls:=.type "list",data:=.seq cq.toArray n }
  |.tup xs=>xs.length<=sizeLine/\∃cq:List aa,bR xs cq/\IsTup h a cq.toArray
  |.dK bT=>bT.length<=sizeLine/\(a==cH)=false/\∃vs,KV bT vs/\h.DictOf (dW P w) a vs
  |.dT bT=>bT.length<=sizeLine/\(a==cH)=false/\∃xs:List (List dw×af×aa),
      Paired (λ(p:List dw×V) (q:List dw×af×aa)=>p.1=q.1/\H q.2.1=some (.tup (p.1.map kV))/\RelV p.2 q.2.2) bT xs /\
      ∃o es ep,h.get? a=some o/\o.ExactDict/\o.data=.dict es ep/\es.toList=xs.map (entryOfKey (iQ (dW P w)))/\(xs.map (·.1)).Nodup
  |.set S n=>h.SetOf (intKind P w) a S n
  |.ins C dx fs=>H dx=some (.own a)/\fs.length<=1000/\dx≠a/\h.get? a=some (dI C dx) /\
      ∃mA,h.Ns1 dx mA/\(∀f,iW (fs.lookup f) (mA f))/\PySem.Within mA (fs.map (·.1))
  |.own _=>∃o,h.get? a=some o
  |.xd fs=>∃mA,h.Ns1 a mA/\∀f,iW (fs.lookup f) (mA f)
  |.rng lo hi=>∃t u v,h.get? a=some { cls:=.type "range",data:=.fields #[.int lo t,.int hi u,.int 1 v] }
  |.frz o u=>h.get? a=some o/\dA H h a u
  |.tbl ps=>h.get? a=some { cls:=.none,data:=.fields ps }
  |.met f x=>h.get? a=some (jI (.ref f) (.ref x))
  |.ext φ=>φ h/\(∃o,h.get? a=some o)/\∀h1 h2:aK,φ h1->(∀o,h1.get? a=some o->h2.get? a=some o)->φ h2
def jC (H:Hp)(h:aK):Prop:=∀a o,H a=some o->dA P w H h a o
end
section
variable {P:bb}{w:bG}{H H':Hp}{h h':aK}{a:af}{o:HO}
theorem dA.lt (x:dA P w H h a o):a<h.objs.size:=by
 cases o with
 |lst xs=>obtain⟨_,_,_,_,e⟩:=x;exact aI e
 |tup xs=>obtain⟨_,_,_,p⟩:=x;exact p.lt
 |dK bT=>obtain⟨_,_,_,_,o,_,_,e,_⟩:=x;exact aI e
 |dT bT=>obtain⟨_,_,_,_,o,_,_,e,_⟩:=x;exact aI e
 |set S n=>obtain⟨o,_,_,_,e,_⟩:=x;exact aI e
 |ins C dx fs=>obtain⟨_,_,_,e,_⟩:=x;exact aI e
 |own y=>obtain⟨_,e⟩:=x;exact aI e
 |xd fs=>obtain⟨_,⟨_,_,_,e,_⟩,_⟩:=x;exact aI e
 |rng lo hi=>obtain⟨_,_,_,e⟩:=x;exact aI e
 |frz ob u=>obtain⟨e,_⟩:=x;exact aI e
 |tbl ps=>exact aI (show h.get? a=some _ from x)
 |met f y=>exact aI (show h.get? a=some _ from x)
 |ext φ=>obtain⟨_,⟨_,e⟩,_⟩:=x;exact aI e
theorem Paired.mapP {α β:Type}{F G:α->β->Prop}:∀{l₁:List α} {l₂:List β},Paired F l₁ l₂->(∀a b,F a b->G a b)->Paired G l₁ l₂
 |_,_,.nil,_=>.nil
 |_,_,.cons r t,f=>.cons (f _ _ r) (Paired.mapP t f)
theorem dA.stay (x:dA P w H h a o)(k:∀b u,(b=a\/H b=some (.own a))->h.get? b=some u->h'.get? b=some u)
    (ho:∀b,H b=some (.own a)->H' b=some (.own a)) (ht:∀b xs,H b=some (.tup xs)->H' b=some (.tup xs)):dA P w H' h' a o:=by
  induction o with
  |lst xs=>obtain⟨z,cq,n,r,e⟩:=x;exact⟨z,cq,n,r,k _ _ (.inl rfl) e⟩
  |tup xs=>obtain⟨z,cq,r,ob,e,c⟩:=x;exact⟨z,cq,r,ob,k _ _ (.inl rfl) e,c⟩
  |dK bT=>obtain⟨z,y,vs,r,ob,es,ep,e,c⟩:=x;exact⟨z,y,vs,r,ob,es,ep,k _ _ (.inl rfl) e,c⟩
  |dT bT=>
    obtain⟨z,y,xs,r,ob,es,ep,e,c⟩:=x
    exact⟨z,y,xs,Paired.mapP r λp q z=>⟨z.1,ht _ _ z.2.1,z.2.2⟩,ob,es,ep,k _ _ (.inl rfl) e,c⟩
  |set S n=>obtain⟨ob,es,ep,t,e,c⟩:=x;exact⟨ob,es,ep,t,k _ _ (.inl rfl) e,c⟩
  |ins C dx fs=>
    obtain⟨d,z,ne,e,mA,⟨od,es,ep,e2,c⟩,r⟩:=x
    exact⟨ho _ d,z,ne,k _ _ (.inl rfl) e,mA,⟨od,es,ep,k _ _ (.inr d) e2,c⟩,r⟩
  |own y=>obtain⟨ob,e⟩:=x;exact⟨ob,k _ _ (.inl rfl) e⟩
  |xd fs=>obtain⟨mA,⟨od,es,ep,e,c⟩,r⟩:=x;exact⟨mA,⟨od,es,ep,k _ _ (.inl rfl) e,c⟩,r⟩
  |rng lo hi=>obtain⟨t,u,v,e⟩:=x;exact⟨t,u,v,k _ _ (.inl rfl) e⟩
  |frz ob u ih=>obtain⟨e,q⟩:=x;exact⟨k _ _ (.inl rfl) e,ih q⟩
  |tbl ps=>
    have e:h.get? a=some { cls:=.none,data:=.fields ps }:=x
    show h'.get? a=some { cls:=.none,data:=.fields ps }
    exact k a _ (.inl rfl) e
  |met f y=>
    have e:h.get? a=some (jI (.ref f) (.ref y)):=x
    show h'.get? a=some (jI (.ref f) (.ref y))
    exact k a _ (.inl rfl) e
  |ext φ=>obtain⟨p,⟨o,e⟩,st⟩:=x;exact⟨st _ _ p λo q=>k _ _ (.inl rfl) q,⟨o,k _ _ (.inl rfl) e⟩,st⟩
theorem jC.lt (x:jC P w H h)(e:H a=some o):a<h.objs.size:=(x a o e).lt
theorem jC.fresh (x:jC P w H h)(e:h.objs.size<=a):H a=none:=by
 cases q:H a with
 |none=>rfl
 |some u=>exact absurd (br (x.lt q) e) (eh _)
theorem jC.kept (x:jC P w H h)(k:∀b u,h.get? b=some u->h'.get? b=some u):jC P w H h':=λa o e=>
 (x a o e).stay (λb u _ q=>k b u q) (λ_ q=>q) λ_ _ q=>q
theorem jC.laid (x:jC P w H h)(k:∀b u,h.get? b=some u->h'.get? b=some u)(hp:h.objs.size<=a)(new:dA P w (upd H a o) h' a o):jC P w (upd H a o) h':=λb u e=>by
 have hn:=x.fresh hp
 by_cases hb:b=a
 ·subst hb;rw[zw]at e;cases e;exact new
 ·rw[zt hb]at e
  exact(x b u e).stay (λc v _ q=>k c v q) (λc q=>by rw[zt (yr q hn)];exact q) λc xs q=>by rw[zt (yr q hn)];exact q
end
def Rd (H:Hp)(a:af)(u:HO):Prop:=H a=some u\/∃o,H a=some (.frz o u)
theorem Rd.ok {P:bb}{w:bG}{H:Hp}{h:aK}{a:af}{u:HO}(r:Rd H a u)(x:jC P w H h):dA P w H h a u:=by
 rcases r with r|⟨o,r⟩
 ·exact x a u r
 ·obtain⟨_,q⟩:=x a _ r
  exact q
def yK:Option HO->Prop
 |some (.lst _)=>True
 |some (.dK _)=>True
 |some (.dT _)=>True
 |some (.set _ _)=>True
 |some (.ins _ _ _)=>True
 |some (.ext _)=>True
 |_=>False
section
variable {P:bb}{w:bG}{H:Hp}{h h':aK}{x e:af}{o':HO}
theorem jC.write (ok:jC P w H h)(mu:yK (H x))(he:e=x\/H e=some (.own x))(k:∀b u,b≠e->h.get? b=some u->h'.get? b=some u)(xG:∃u,h'.get? e=some u)
  (new:dA P w (upd H x o') h' x o'):jC P w (upd H x o') h':=λb u q=>by
 have BH:∀c y,H c=some (.own y)->c≠x:=λc y r z=>by subst z;rw[r]at mu;exact mu
 have Gw:∀c xs,H c=some (.tup xs)->c≠x:=λc xs r z=>by subst z;rw[r]at mu;exact mu
 by_cases hb:b=x
 ·subst hb;rw[zw]at q;cases q;exact new
 ·rw[zt hb]at q
  by_cases vR:b=e
  ·have q':H b=some (.own x):=by
    rcases he with z|z
    ·exact absurd (vR.trans z) hb
    ·rw[vR];exact z
   rw[q]at q';cases q'
   obtain⟨v,hv⟩:=xG
   exact⟨v,by rw[vR];exact hv⟩
  ·refine(ok b u q).stay (λc v hc r=>k c v ?_ r) (λc r=>by rw[zt (BH c b r)];exact r) λc xs r=>by rw[zt (Gw c xs r)];exact r
   rcases hc with rfl|hc
   ·exact vR
   ·rintro rfl
    rcases he with z|z
    ·exact BH c b hc z
    ·rw[hc]at z;cases z;exact hb rfl
end
structure Un (fs ex:List af)(H H':Hp)(h h':aK):Prop where
 keep:∀b o,h.get? b=some o->H b=none->b∉fs->b∉ex->h'.get? b=some o
 slot:∀b o,h.get? b=some o->H b=none->b∈fs->b∉ex->∃sl,h'.get? b=some { o with slots:=sl }
 free:∀b o,h.get? b=some o->H b=none->b∉ex->H' b=none
 there:∀b o,h.get? b=some o->b∉ex->∃o',h'.get? b=some o'
 tups:∀b xs,H b=some (.tup xs)->H' b=some (.tup xs)
 frzs:∀b o u,H b=some (.frz o u)->H' b=some (.frz o u)
 tbls:∀b ps,H b=some (.tbl ps)->∃more,H' b=some (.tbl (ps++more))
section
variable {fs Nv ex WI:List af}{H H1 H2:Hp}{h h1 h2 h':aK}{a x e:af}{o:HO}
theorem Un.any (u:Un fs ex H H1 h h1){b:af}{ob:cP}(q:h.get? b=some ob)(n:H b=none)(hx:b∉ex):∃sl,h1.get? b=some { ob with slots:=sl }:=by
 by_cases hb:b∈fs
 ·exact u.slot b ob q n hb hx
 ·exact⟨ob.slots,u.keep b ob q n hb hx⟩
theorem Un.kept (k:∀b u,h.get? b=some u->h'.get? b=some u):Un fs ex H H h h' :=
 ⟨λb ob q _ _ _=>k b ob q,λb ob q _ _ _=>⟨ob.slots,k b ob q⟩,λ_ _ _ n _=>n,λb ob q _=>⟨ob,k b ob q⟩,λ_ _ q=>q,λ_ _ _ q=>q,λ_ ps q=>⟨#[],by rw[q];simp⟩⟩
theorem Un.refl:Un fs ex H H h h:=Un.kept λ_ _ q=>q
theorem Un.laid (k:∀b u,h.get? b=some u->h'.get? b=some u)(hp:h.objs.size<=a)(hn:H a=none):Un fs ex H (upd H a o) h h' where
 keep:=λb u q _ _ _=>k b u q
 slot:=λb u q _ _ _=>⟨u.slots,k b u q⟩
 free:=λb u q n _=>by rw[zt (aZ (br (aI q) hp))];exact n
 there:=λb u q _=>⟨u,k b u q⟩
 tups:=λb xs q=>by rw[zt (yr q hn)];exact q
 frzs:=λb u xs q=>by rw[zt (yr q hn)];exact q
 tbls:=λb ps q=>⟨#[],by rw[zt (yr q hn),q];simp⟩
theorem Un.write (mu:yK (H x))(he:e=x\/H e=some (.own x))(k:∀b u,b≠e->h.get? b=some u->h'.get? b=some u)(xG:∃u,h'.get? e=some u):Un fs ex H (upd H x o) h h':=by
 have hx:∀b,H b=none->b≠x:=λb n z=>by subst z;rw[n]at mu;exact mu
 have hb:∀b,H b=none->b≠e:=λb n z=>by
  subst z
  rcases he with r|r
  ·exact hx b n r
  ·rw[n]at r;cases r
 have hm:∀b u,H b=some u->¬yK (some u)->b≠x:=λb u q nm z=>by subst z;rw[q]at mu;exact nm mu
 refine⟨λb u q n _ _=>k b u (hb b n) q,λb u q n _ _=>⟨u.slots,k b u (hb b n) q⟩,λb u q n _=>by rw[zt (hx b n)];exact n,λb u q _=>?_,
  λb xs q=>by rw[zt (hm b _ q λz=>z)];exact q,λb u xs q=>by rw[zt (hm b _ q λz=>z)];exact q,λb ps q=>⟨#[],by rw[zt (hm b _ q λz=>z),q];simp⟩⟩
 by_cases vR:b=e
 ·subst vR;exact xG
 ·exact⟨u,k b u vR q⟩
end
def DG (h:aK)(H:Hp):List af:=(az h.objs.size).filter λa=>(H a).isSome
def mN (h:aK)(H:Hp):aK:=PySem.W.hideAll h (DG h H)
theorem RG (h:aK)(H:Hp):(mN h H).objs.size=h.objs.size:=PySem.W.hideAll_size _ _
theorem R6 {h:aK}{H:Hp}{b:af}{o:cP}(e:h.get? b=some o)(n:H b=none):(mN h H).get? b=some o :=
 PySem.W.hideAll_get _ e λhm=>by
  have q:(H b).isSome=true:=(bA.mp hm).2
  rw[n]at q;simp at q
theorem TJ {h:aK}{H:Hp}{b:af}{o:cP}(e:(mN h H).get? b=some o):h.get? b=some o/\H b=none:=by
 have e':h.get? b=some o:=PySem.W.of_hideAll (DG h H) e
 refine⟨e',?_⟩
 cases q:H b with
 |none=>rfl
 |some x=>
  have hm:b∈DG h H:=bA.mpr ⟨aX.mpr (aI e'),by simp[q]⟩
  have z:(mN h H).get? b=none:=PySem.W.hideAll_none (DG h H) hm
  rw[z]at e;cases e
def rX (g h:aK)(L:af):List (af×cP):=(az h.objs.size).filterMap λa=>if a=L\/(g.get? a).isSome=true then none else(h.get? a).map λo=>(a,o)
def rest (g h:aK)(L d:af):List (af×cP):=(rX g h L).filter λp=>decide (p.1≠d)
end L2
namespace L2
open PySem PySem.Spec PyProof.Rows
structure Mod (K:ae)(mg:aR->Option aa)(base:aK):Prop where
 kin:K.In base
 glob:base.Ns aB mg
 blt:∃mb,base.Ns sW mb/\∀x:aR,x≠"__name__"->mb x=bU x
 nolimit:base.NoLimit
structure Cx where
 prog:bb
 w:bG
 K:ae
 mg:aR->Option aa
 base:aK
 A:bz
 N:List aR
 s₀:ao
 H₀:Hp
 env:Env
 outer:List Env
 stack:List Env
 ex:List af
 fn:aR->Bool
 calm:Bool
 pn:List (af×cP)
 xe:aa->ao->Prop
def qG (l:List Env):List af:=l.filterMap (·.frame)
abbrev Cx.fs (X:Cx):List af:=qG X.outer
def pK (sc:fF)(x:aR):Prop:=sc.names.lookup x=some .local\/sc.names.lookup x=some .cell\/sc.names.lookup x=some .free
def Loc (sc:fF)(x:aR):Prop:=sc.names.lookup x=some .local\/sc.names.lookup x=some .cell
def Look (env:Env)(h:aK)(m:aR->Option aa)(x:aR)(u:aa):Prop :=
 (env.kindOf x=some .local/\m x=some u)\/((env.kindOf x=some .cell\/env.kindOf x=some .free)/\∃c,env.cells.lookup x=some c/\h.IsCell c (some u))
structure Cx.Ok (X:Cx):Prop where
 mod:Mod X.K X.mg X.base
 kind:X.env.scope.kind=.function
 glob:X.env.globals=aB
 blt:X.env.builtins=sW
 above:X.s₀.heap.objs.size<=X.env.locals
 inj:∀x y c,X.env.cells.lookup x=some c->X.env.cells.lookup y=some c->x=y
 has:∀x,(X.env.kindOf x=some .cell\/X.env.kindOf x=some .free)->∃c,X.env.cells.lookup x=some c
 cab:∀x c,X.fn x=true->X.env.cells.lookup x=some c->X.s₀.heap.objs.size<=c
 hd:X.calm=true->X.A.handled=none
 frames:X.A.frames=some X.stack
 stk:X.stack=X.outer\/(X.stack=X.env::X.outer/\X.env.frame=some X.env.locals)
 exf:∀b∈X.ex,b≠X.env.locals/\∀x c,X.env.cells.lookup x=some c->c≠b
 bs:∀b o,X.base.get? b=some o->X.s₀.heap.get? b=some o/\X.H₀ b=none
 bsz:X.base.objs.size<=X.s₀.heap.objs.size
 noex:∀b o,X.base.get? b=some o->b∉X.ex
 exfs:∀b∈X.ex,b∉X.fs
 funs:X.s₀.heap.FunFrames X.base X.outer
 frf:∀b∈X.fs,X.H₀ b=none
structure Inv (X:Cx)(ah:List (af×cP))(σ:List (Option V))(H:Hp)(s:ao):Prop where
 ok:X.Ok
 os:s.os=X.s₀.os
 bare:AllBare s.gens
 base:Un X.fs X.ex X.H₀ H X.s₀.heap s.heap
 loc:∃m,s.heap.Ns X.env.locals m/\∀(i:Nat) (x:aR) (v:V),X.N[i]?=some x->σ[i]?=some (some v)->pK X.env.scope x->∃u,RelV v u/\Look X.env s.heap m x u
 cell:∀x c,X.env.cells.lookup x=some c->∃v,s.heap.IsCell c v
 free:H X.env.locals=none
 freeC:∀x c,X.env.cells.lookup x=some c->H c=none
 pin:∀p∈X.pn++ah,s.heap.get? p.1=some p.2/\H p.1=none/\p.1≠X.env.locals/\p.1∉X.fs/\∀v,p.2.data≠.cell v
 hok:jC X.prog X.w H s.heap
 len:σ.length=X.N.length
section
variable {X:Cx}{ah:List (af×cP)}{σ:List (Option V)}{H H':Hp}{s:ao}{h':aK}
theorem Cx.Ok.nofr (ok:X.Ok){b:af}{o:cP}(e:X.base.get? b=some o):b∉X.fs:=λhb=>by
 have:=(ok.funs.mem hb).1
 rw[e]at this;cases this
theorem Inv.bs (I:Inv X ah σ H s):∀b o,X.base.get? b=some o->s.heap.get? b=some o/\H b=none:=λb o e=>
 ⟨I.base.keep b o (I.ok.bs b o e).1 (I.ok.bs b o e).2 (I.ok.nofr e) (I.ok.noex b o e),I.base.free b o (I.ok.bs b o e).1 (I.ok.bs b o e).2 (I.ok.noex b o e)⟩
theorem Inv.bk (I:Inv X ah σ H s):∀b o,X.base.get? b=some o->s.heap.get? b=some o:=λb o e=>(I.bs b o e).1
theorem Inv.mod (I:Inv X ah σ H s):Mod X.K X.mg X.base:=I.ok.mod
theorem Inv.kIn (I:Inv X ah σ H s):X.K.In s.heap:=I.ok.mod.kin.keeps I.bk
theorem Inv.fr (I:Inv X ah σ H s):∃m,Fr X.base X.env.locals s.heap m :=
 let⟨m,hn,_⟩:=I.loc
 ⟨m,hn,I.bk,cm I.ok.bsz I.ok.above⟩
theorem Inv.lt (I:Inv X ah σ H s):X.env.locals<s.heap.objs.size:=let⟨_,hn,_⟩:=I.loc;hn.lt
theorem Inv.sz (I:Inv X ah σ H s):X.s₀.heap.objs.size<=s.heap.objs.size:=cm I.ok.above (iD I.lt)
theorem Inv.nofs (I:Inv X ah σ H s){a:af}(h:s.heap.objs.size<=a):a∉X.fs:=λhb=>by
 obtain⟨_,o,ho,_⟩:=I.ok.funs.mem hb
 exact absurd (br (aI ho) (cm I.sz h)) (eh _)
theorem Inv.cne (I:Inv X ah σ H s):∀x c,X.env.cells.lookup x=some c->c≠X.env.locals:=λx c e z=>by
 obtain⟨v,o,ho,hd⟩:=I.cell x c e
 obtain⟨m,⟨o',es,ep,vX,nz,_⟩,_⟩:=I.loc
 rw[z,vX]at ho;cases ho;rw[nz]at hd;cases hd
theorem Inv.funs (I:Inv X ah σ H s):s.heap.FunFrames X.base X.outer:=by
 have all:∀(l:List Env),(∀b∈qG l,b∈X.fs)->X.s₀.heap.FunFrames X.base l->s.heap.FunFrames X.base l:=by
  intro l
  induction l with
  |nil=>intro _ _;trivial
  |cons env r ih=>
   intro hs hl
   obtain⟨hk,⟨L,o,hf,hn,ho,hd⟩,hr⟩:=hl
   have hL:L∈X.fs:=hs L (by unfold qG;rw[gm,hf];exact am)
   obtain⟨sl,e⟩:=I.base.slot L o ho (I.ok.frf L hL) hL λz=>I.ok.exfs L z hL
   exact⟨hk,⟨L,_,hf,hn,e,hd⟩,ih (λb hb=>hs b (by unfold qG;rw[gm,hf];exact ap _ hb)) hr⟩
 exact all X.outer (λ_ hb=>hb) I.ok.funs
theorem Inv.stack (I:Inv X ah σ H s):s.heap.FunFrames X.base X.stack:=by
 rcases I.ok.stk with e|⟨e,hf⟩
 ·rw[e];exact I.funs
 ·rw[e]
  obtain⟨m,hn,_⟩:=I.loc
  refine .cons (by rw[I.ok.kind];decide) hf hn ?_ I.funs
  exact n6 (cm I.ok.bsz I.ok.above)
theorem Inv.stkSub (I:Inv X ah σ H s):∀b∈qG X.stack,b∈X.env.locals::X.fs:=λb hb=>by
 rcases I.ok.stk with e|⟨e,hf⟩
 ·rw[e]at hb;exact ap _ hb
 ·rw[e]at hb
  unfold qG at hb
  rw[gm,hf]at hb
  exact hb
theorem Inv.stkFree (I:Inv X ah σ H s):∀b∈qG X.stack,H b=none:=λb hb=>by
 rcases aA.mp (I.stkSub b hb)with e|hb
 ·rw[e];exact I.free
 ·obtain⟨_,o,ho,_⟩:=I.ok.funs.mem hb
  exact I.base.free b o ho (I.ok.frf b hb) λz=>I.ok.exfs b z hb
theorem Inv.step {g':Array GenState}{t':Nat}{d':Drawn}{ch:List af}(I:Inv X ah σ H s)
  (kQ:∀b∈ch,(b∈X.ex\/X.s₀.heap.objs.size<=b)/\b≠X.env.locals/\(∀x c,X.env.cells.lookup x=some c->c≠b)/\∀p∈X.pn++ah,p.1≠b)
  (keep:∀b o,b≠X.env.locals->b∉X.fs->b∉ch->s.heap.get? b=some o->H b=none->h'.get? b=some o)
  (slot:∀b o,b≠X.env.locals->b∈X.fs->b∉ch->s.heap.get? b=some o->H b=none->∃sl,h'.get? b=some { o with slots:=sl }) (free:∀b o,b∉ch->s.heap.get? b=some o->H b=none->H' b=none)
  (there:∀b o,b∉ch->s.heap.get? b=some o->∃o',h'.get? b=some o')
  (tups:∀b xs,H b=some (.tup xs)->H' b=some (.tup xs)) (frzs:∀b o u,H b=some (.frz o u)->H' b=some (.frz o u)) (tbls:∀b ps,H b=some (.tbl ps)->∃more,H' b=some (.tbl (ps++more)))
  (ns:∀m,s.heap.Ns X.env.locals m->h'.Ns X.env.locals m) (hok:jC X.prog X.w H' h') (hg:AllBare g') :
  Inv X ah σ H' { s with heap:=h',gens:=g',drawn:=d',toks:=t' }:=by
 have JF:∀b o,X.s₀.heap.get? b=some o->b≠X.env.locals:=λb o e=>aZ (br (aI e) I.ok.above)
 have Dw:∀b o,X.s₀.heap.get? b=some o->b∉X.ex->b∉ch:=λb o e hx hb=>by
  rcases(kQ b hb).1 with z|z
  ·exact hx z
  ·exact absurd (br (aI e) z) (eh _)
 have cellK:∀x c,X.env.cells.lookup x=some c->∀v,s.heap.IsCell c v->h'.IsCell c v:=λx c e v ⟨o,ho,hd⟩=>by
  have BD:c∉ch:=λz=>(kQ c z).2.2.1 x c e rfl
  by_cases hc:c∈X.fs
  ·obtain⟨sl,q⟩:=slot c o (I.cne x c e) hc BD ho (I.freeC x c e)
   exact⟨_,q,hd⟩
  ·exact⟨o,keep c o (I.cne x c e) hc BD ho (I.freeC x c e),hd⟩
 refine⟨I.ok,I.os,hg,⟨λb o e n hb hx=>?_,λb o e n hb hx=>?_,λb o e n hx=>?_,λb o e hx=>?_,λb xs e=>tups b xs (I.base.tups b xs e),λb o xs e=>frzs b o xs (I.base.frzs b o xs e),λb ps e=>?_⟩,?_,λx c e=>?_,?_,λx c e=>?_,λp hp=>?_,hok,I.len⟩
 ·exact keep b o (JF b o e) hb (Dw b o e hx) (I.base.keep b o e n hb hx) (I.base.free b o e n hx)
 ·obtain⟨sl,e1⟩:=I.base.slot b o e n hb hx
  obtain⟨PJ,e2⟩:=slot b _ (JF b o e) hb (Dw b o e hx) e1 (I.base.free b o e n hx)
  exact⟨PJ,e2⟩
 ·obtain⟨o',e1⟩:=I.base.there b o e hx
  exact free b o' (Dw b o e hx) e1 (I.base.free b o e n hx)
 ·obtain⟨o',e1⟩:=I.base.there b o e hx
  exact there b o' (Dw b o e hx) e1
 ·obtain⟨m1,e1⟩:=I.base.tbls b ps e
  obtain⟨m2,e2⟩:=tbls b _ e1
  exact⟨m1++m2,by rw[e2,oP]⟩
 ·obtain⟨m,hn,hl⟩:=I.loc
  refine⟨m,ns m hn,λi x v e1 e2 e3=>?_⟩
  obtain⟨u,r,l⟩:=hl i x v e1 e2 e3
  refine⟨u,r,?_⟩
  rcases l with l|⟨k,c,e,z⟩
  ·exact .inl l
  ·exact .inr ⟨k,c,e,cellK x c e _ z⟩
 ·obtain⟨v,z⟩:=I.cell x c e
  exact⟨v,cellK x c e v z⟩
 ·obtain⟨m,⟨o,_,_,ho,_⟩,_⟩:=I.loc
  exact free _ o (λz=>(kQ _ z).2.1 rfl) ho I.free
 ·obtain⟨v,o,ho,hd⟩:=I.cell x c e
  exact free c o (λz=>(kQ c z).2.2.1 x c e rfl) ho (I.freeC x c e)
 ·obtain⟨e,n,ne,nf,d⟩:=I.pin p hp
  have BD:p.1∉ch:=λz=>(kQ p.1 z).2.2.2 p hp rfl
  exact⟨keep p.1 p.2 ne nf BD e n,free p.1 p.2 BD e n,ne,nf,d⟩
theorem Inv.un {t':Nat}(I:Inv X ah σ H s)(u:Un X.fs [] H H' s.heap h')(hok:jC X.prog X.w H' h'):Inv X ah σ H' { s with heap:=h',toks:=t' }:=by
 obtain⟨m,⟨o,es,ep,ho,r⟩,_⟩:=id I.loc
 obtain⟨sl,hL⟩:=u.any ho I.free (by simp)
 exact I.step (g':=s.gens) (d':=s.drawn) (ch:=[]) (λ_ z=>nomatch z) (λb o _ hb _ e n=>u.keep b o e n hb (by simp)) (λb o _ hb _ e n=>u.slot b o e n hb (by simp)) (λb o _ e n=>u.free b o e n (by simp)) (λb o _ e=>u.there b o e (by simp)) u.tups u.frzs u.tbls (λm' hm=>by
  obtain⟨o',E5,E3,vX,r'⟩:=hm
  rw[ho]at vX;cases vX
  exact⟨_,E5,E3,hL,r'⟩) hok I.bare
theorem Inv.call {g':Array GenState}{t':Nat}{d':Drawn}{ch:List af}(I:Inv X ah σ H s)(u:Un (qG X.stack) ch H H' s.heap h')(hok:jC X.prog X.w H' h')(hg:AllBare g')
  (kQ:∀b∈ch,(b∈X.ex\/X.s₀.heap.objs.size<=b)/\b≠X.env.locals/\(∀x c,X.env.cells.lookup x=some c->c≠b)/\∀p∈X.pn++ah,p.1≠b) :
  Inv X ah σ H' { s with heap:=h',gens:=g',drawn:=d',toks:=t' }:=by
 obtain⟨m,⟨o,es,ep,ho,r⟩,_⟩:=id I.loc
 obtain⟨sl,hL⟩:=u.any ho I.free λz=>(kQ _ z).2.1 rfl
 exact I.step (ch:=ch) kQ (λb o hL hb hc e n=>u.keep b o e n (λz=>(aA.mp (I.stkSub b z)).elim hL hb) hc) (λb o _ _ hc e n=>u.any e n hc) (λb o hc e n=>u.free b o e n hc) (λb o hc e=>u.there b o e hc) u.tups u.frzs u.tbls (λm' hm=>by
  obtain⟨o',E5,E3,vX,r'⟩:=hm
  rw[ho]at vX;cases vX
  exact⟨_,E5,E3,hL,r'⟩) hok hg
theorem Inv.turned {t':Nat}{it:af}(I:Inv X ah σ H s)(k:∀b o,b≠it->s.heap.get? b=some o->h'.get? b=some o)(hn:H it=none)(hL:it≠X.env.locals)
  (h1:it∈X.ex\/X.s₀.heap.objs.size<=it) (h2:∀x c,X.env.cells.lookup x=some c->c≠it) (h3:∀p∈X.pn++ah,p.1≠it):Inv X ah σ H { s with heap:=h',toks:=t' }:=by
 have JG:∀b u,H b=some u->b≠it:=λb u e z=>by rw[z,hn]at e;cases e
 refine I.step (g':=s.gens) (d':=s.drawn) (ch:=[it]) (λb hb=>?_) (λb o _ _ hc e _=>k b o (λz=>hc (by simp[z])) e) (λb o _ _ hc e _=>⟨o.slots,k b o (λz=>hc (by simp[z])) e⟩) (λ_ _ _ _ n=>n)
  (λb o hc e=>⟨o,k b o (λz=>hc (by simp[z])) e⟩) (λ_ _ e=>e) (λ_ _ _ e=>e) (λb ps e=>⟨#[],by rw[e];simp⟩) (λm hm=>?_) (λb u e=>?_) I.bare
 ·have e:b=it:=by simpa using hb
  subst e
  exact⟨h1,hL,h2,h3⟩
 ·obtain⟨o,es,ep,ho,r⟩:=hm
  exact⟨o,es,ep,k _ o (Ne.symm hL) ho,r⟩
 ·refine(I.hok b u e).stay (λc v hc q=>k c v ?_ q) (λ_ q=>q) λ_ _ q=>q
  rcases hc with z|z
  ·rw[z];exact JG b u e
  ·exact JG c _ z
theorem Inv.tok (I:Inv X ah σ H s)(t:Nat):Inv X ah σ H { s with toks:=t }:=I.un (h':=s.heap) (t':=t) Un.refl I.hok
theorem Inv.kept {t':Nat}(I:Inv X ah σ H s)(k:∀b u,s.heap.get? b=some u->h'.get? b=some u):Inv X ah σ H { s with heap:=h',toks:=t' }:=I.un (Un.kept k) (I.hok.kept k)
theorem Inv.laid {a:af}{o:HO}{t':Nat}(I:Inv X ah σ H s)(k:∀b u,s.heap.get? b=some u->h'.get? b=some u)(hp:s.heap.objs.size<=a)(new:dA X.prog X.w (upd H a o) h' a o) :
  Inv X ah σ (upd H a o) { s with heap:=h',toks:=t' }:=I.un (Un.laid k hp (I.hok.fresh hp)) (I.hok.laid k hp new)
theorem Inv.write {x e:af}{o:HO}{t':Nat}(I:Inv X ah σ H s)(mu:yK (H x))(he:e=x\/H e=some (.own x))(k:∀b u,b≠e->s.heap.get? b=some u->h'.get? b=some u)(xG:∃u,h'.get? e=some u)
  (new:dA X.prog X.w (upd H x o) h' x o):Inv X ah σ (upd H x o) { s with heap:=h',toks:=t' }:=I.un (Un.write mu he k xG) (I.hok.write mu he k xG new)
theorem Inv.weak {σ':List (Option V)}(I:Inv X ah σ H s)(hl:σ'.length = σ.length)(w:∀(i:Nat) v,σ'[i]?=some (some v)->σ[i]?=some (some v)):Inv X ah σ' H s :=
 ⟨I.ok,I.os,I.bare,I.base,let⟨m,hn,vU⟩:=I.loc;⟨m,hn,λi x v e1 e2 e3=>vU i x v e1 (w i v e2) e3⟩,I.cell,I.free,I.freeC,I.pin,I.hok,hl.trans I.len⟩
theorem Inv.pins_of {tU:List (af×cP)}(I:Inv X ah σ H s)(h:∀p∈tU,s.heap.get? p.1=some p.2/\H p.1=none/\p.1≠X.env.locals/\p.1∉X.fs/\∀v,p.2.data≠.cell v):Inv X tU σ H s :=
 ⟨I.ok,I.os,I.bare,I.base,I.loc,I.cell,I.free,I.freeC,λp hp=>(aU.mp hp).elim (λz=>I.pin p (aO _ z)) (h p),I.hok,I.len⟩
theorem K7 {N:List aR}(hN:N.Nodup){i j:Nat}{x:aR}(a:N[i]?=some x)(b:N[j]?=some x):i=j:=by
 obtain⟨h1,e1⟩:=aC.mp a
 obtain⟨h2,e2⟩:=aC.mp b
 exact(eK hN).mp (e1.trans e2.symm)
theorem KM {M:Model}{A:bz}{E:aa->ao->Prop}{i:Nat}{x:aR}{v:V}{u:aa}{Q:Unit->ao->Prop}(I:Inv X ah σ H s)(hN:X.N.Nodup)(hi:X.N[i]?=some x)(hx:Loc X.env.scope x)(r:RelV v u)
  (h:∀s',Inv X ah (σ.set i (some v)) H s'->(∃a,d6 a s.heap s'.heap/\(a=X.env.locals\/X.env.cells.lookup x=some a))->Q () s') (hf:X.fn x=true\/X.env.scope.names.lookup x=some .local:=by first|exact .inl rfl|exact .inr rfl|assumption):aT M A (storeName X.env x u) Q E s:=by
 obtain⟨m,hn,hl⟩:=id I.loc
 have FG:(X.env.scope.kind==.class || (X.env.scope.kind==.module&&X.env.locals != X.env.globals))=false:=by rw[I.ok.kind];rfl
 have Je:i < σ.length:=by rw[I.len];exact(aC.mp hi).1
 have cne:=I.cne
 have tracked:∀{a:af} {h':aK},(∃o,s.heap.get? a=some o/\H a=none)->d6 a s.heap h'->jC X.prog X.w H h':=λ{a h'} ha hs b ob e=>by
  obtain⟨_,_,tK⟩:=ha
  refine(I.hok b ob e).stay (λc w' hc q=>(hs.2 c ?_).trans q) (λ_ q=>q) λ_ _ q=>q
  rintro rfl
  rcases hc with rfl|hc
  ·rw[tK]at e;cases e
  ·rw[tK]at hc;cases hc
 rcases hx with hk|hk
 ·refine wpAny_storeName_local hk hn (λh' FW hs=>?_) FG
  obtain⟨oL,_,_,Dj,_⟩:=id hn
  refine h _ ⟨I.ok,I.os,I.bare,⟨λb o e n hb hx=>?_,λb o e n hb hx=>?_,I.base.free,λb o e hx=>?_,I.base.tups,I.base.frzs,I.base.tbls⟩,⟨_,FW,λj y v' e1 e2 e3=>?_⟩,λy c e=>?_,I.free,I.freeC,λp hp=>?_,tracked ⟨oL,Dj,I.free⟩ hs,by simpa using I.len⟩ ⟨_,hs,.inl rfl⟩
  ·exact(hs.2 b (aZ (br (aI e) I.ok.above))).trans (I.base.keep b o e n hb hx)
  ·obtain⟨sl,e1⟩:=I.base.slot b o e n hb hx
   exact⟨sl,(hs.2 b (aZ (br (aI e) I.ok.above))).trans e1⟩
  ·obtain⟨o',e1⟩:=I.base.there b o e hx
   exact⟨o',(hs.2 b (aZ (br (aI e) I.ok.above))).trans e1⟩
  ·by_cases hj:j=i
   ·subst hj
    rw[hi]at e1;cases e1
    rw[iq Je]at e2
    cases e2
    exact⟨u,r,.inl ⟨hk,by simp⟩⟩
   ·rw[fV (Ne.symm hj)]at e2
    obtain⟨u',r',q⟩:=hl j y v' e1 e2 e3
    refine⟨u',r',?_⟩
    rcases q with⟨k,e⟩|⟨k,c,e,z⟩
    ·refine .inl ⟨k,?_⟩
     have:y≠x:=λe=>hj (K7 hN e1 (e▸hi))
     simp[this,e]
    ·exact .inr ⟨k,c,e,z.sameBut hs (cne y c e)⟩
  ·obtain⟨w',z⟩:=I.cell y c e
   exact⟨w',z.sameBut hs (cne y c e)⟩
  ·obtain⟨e,n,ne,nf,d⟩:=I.pin p hp
   exact⟨(hs.2 p.1 ne).trans e,n,ne,nf,d⟩
 ·have xH:X.fn x=true:=by
   rcases hf with z|z
   ·exact z
   ·rw[z]at hk;cases hk
  obtain⟨c,hc⟩:=I.ok.has x (.inl hk)
  obtain⟨w',z⟩:=I.cell x c hc
  refine wpAny_storeName_cell I.ok.kind hk hc z (λh' tH hs=>?_)
  obtain⟨oc,Ji,FY⟩:=id z
  refine h { s with heap:=h' } ⟨I.ok,I.os,I.bare,⟨λb o e n hb hx=>?_,λb o e n hb hx=>?_,I.base.free,λb o e hx=>?_,I.base.tups,I.base.frzs,I.base.tbls⟩,⟨m,hn.sameBut hs (Ne.symm (cne x c hc)),λj y v' e1 e2 e3=>?_⟩,λy c' e=>?_,I.free,I.freeC,λp hp=>?_,tracked ⟨oc,Ji,I.freeC x c hc⟩ hs,by simpa using I.len⟩ ⟨c,hs,.inr hc⟩
  ·exact(hs.2 b (aZ (br (aI e) (I.ok.cab x c xH hc)))).trans (I.base.keep b o e n hb hx)
  ·obtain⟨sl,e1⟩:=I.base.slot b o e n hb hx
   exact⟨sl,(hs.2 b (aZ (br (aI e) (I.ok.cab x c xH hc)))).trans e1⟩
  ·obtain⟨o',e1⟩:=I.base.there b o e hx
   exact⟨o',(hs.2 b (aZ (br (aI e) (I.ok.cab x c xH hc)))).trans e1⟩
  ·by_cases hj:j=i
   ·subst hj
    rw[hi]at e1;cases e1
    rw[iq Je]at e2
    cases e2
    exact⟨u,r,.inr ⟨.inl hk,c,hc,tH⟩⟩
   ·rw[fV (Ne.symm hj)]at e2
    obtain⟨u',r',q⟩:=hl j y v' e1 e2 e3
    refine⟨u',r',?_⟩
    rcases q with q|⟨k,c',e,z'⟩
    ·exact .inl q
    ·refine .inr ⟨k,c',e,z'.sameBut hs ?_⟩
     rintro rfl
     exact hj (K7 hN e1 (I.ok.inj _ _ _ e hc▸hi))
  ·by_cases I0:c'=c
   ·subst I0;exact⟨_,tH⟩
   ·obtain⟨w2,z2⟩:=I.cell y c' e
    exact⟨w2,z2.sameBut hs I0⟩
  ·obtain⟨e,n,ne,nf,d⟩:=I.pin p hp
   refine⟨(hs.2 p.1 ?_).trans e,n,ne,nf,d⟩
   intro q
   rw[q,Ji]at e
   have q':oc=p.2:=Option.some.inj e
   exact d w' (by rw[←q'];exact FY)
theorem qp {M:Model}{A:bz}{E:aa->ao->Prop}{i:Nat}{x:aR}{v:V}{u:aa}{Q:Unit->ao->Prop}(I:Inv X ah σ H s)(hN:X.N.Nodup)(hi:X.N[i]?=some x)(hx:Loc X.env.scope x)(r:RelV v u)
  (h:∀s',Inv X ah (σ.set i (some v)) H s'->Q () s') (hf:X.fn x=true\/X.env.scope.names.lookup x=some .local:=by first|exact .inl rfl|exact .inr rfl|assumption):aT M A (storeName X.env x u) Q E s :=
 KM I hN hi hx r (λs' I' _=>h s' I') hf
theorem Inv.call' {s':ao}{ch:List af}(I:Inv X ah σ H s)(ho:s'.os=s.os)(u:Un (qG X.stack) ch H H' s.heap s'.heap)(hok:jC X.prog X.w H' s'.heap)(hg:AllBare s'.gens)
  (kQ:∀b∈ch,(b∈X.ex\/X.s₀.heap.objs.size<=b)/\b≠X.env.locals/\(∀x c,X.env.cells.lookup x=some c->c≠b)/\∀p∈X.pn++ah,p.1≠b):Inv X ah σ H' s':=by
 obtain⟨h',g',d',t',o'⟩:=s'
 have e:o'=s.os:=ho
 subst e
 exact I.call (g':=g') (t':=t') (d':=d') u hok hg kQ
end
abbrev XK:=aa->Option af->Hp->Prop
abbrev St:=List (Option V)
abbrev VK:=V->Hp->Prop
abbrev TE:=St->Hp->VK->Prop
abbrev TT:=St->Hp->(Bool->Hp->Prop)->Prop
abbrev TA:=St->Hp->(List V->Hp->Prop)->Prop
structure mC where
 nx:St->Hp->Prop
 rt:VK
 bk:St->Hp->Prop:=λ_ _=>False
 ct:St->Hp->Prop:=λ_ _=>False
abbrev TS:=mC->St->Hp->Prop
def EP (X:Cx)(ah:List (af×cP))(σ:St)(Q:VK)(u:aa)(s':ao):Prop:=∃v H',Inv X ah σ H' s'/\RelV v u/\Q v H'
def TP (X:Cx)(ah:List (af×cP))(σ:St)(Q:Bool->Hp->Prop)(b:Bool)(s':ao):Prop:=∃H',Inv X ah σ H' s'/\Q b H'
def AP (X:Cx)(ah:List (af×cP))(σ:St)(Q:List V->Hp->Prop)(us:List aa)(s':ao):Prop:=∃vs H',Inv X ah σ H' s'/\bR vs us/\Q vs H'
def SP (X:Cx)(ah:List (af×cP))(D:mC)(f:Flow)(s':ao):Prop :=
 match f with
 |.next=>∃σ' H',Inv X ah σ' H' s'/\D.nx σ' H'
 |.brk=>∃σ' H',Inv X ah σ' H' s'/\D.bk σ' H'
 |.cont=>∃σ' H',Inv X ah σ' H' s'/\D.ct σ' H'
 |.ret u=>∃v σ' H',Inv X ah σ' H' s'/\RelV v u/\D.rt v H'
def PE (X:Cx)(e:Expr)(t:TE):Prop :=
 ∀(ah:List (af×cP)) (s:ao) (σ:St) (H:Hp) (Q:VK),Inv X ah σ H s->t σ H Q->aT (aV X.prog X.w) X.A (bS e X.env) (EP X ah σ Q) X.xe s
def PT (X:Cx)(e:Expr)(t:TT):Prop :=
 ∀(ah:List (af×cP)) (s:ao) (σ:St) (H:Hp) (Q:Bool->Hp->Prop),Inv X ah σ H s->t σ H Q->aT (aV X.prog X.w) X.A (pY e X.env (bS e X.env)) (TP X ah σ Q) X.xe s
def PW (X:Cx)(e:Expr)(t:TT):Prop :=
 ∀(whole:nj aa) (ah:List (af×cP)) (s:ao) (σ:St) (H:Hp) (Q:Bool->Hp->Prop),Inv X ah σ H s->t σ H Q->aT (aV X.prog X.w) X.A (pY e X.env whole) (TP X ah σ Q) X.xe s
theorem PW.pt {X:Cx}{e:Expr}{t:TT}(h:PW X e t):PT X e t:=h _
def PA (X:Cx)(es:List Expr)(t:TA):Prop :=
 ∀(pos:cG) (ah:List (af×cP)) (s:ao) (σ:St) (H:Hp) (Q:List V->Hp->Prop),Inv X ah σ H s->t σ H Q->aT (aV X.prog X.w) X.A (spliced (cD pos (aw es X.env))) (AP X ah σ Q) X.xe s
def PS (X:Cx)(st:cp)(t:TS):Prop :=
 ∀(ah:List (af×cP)) (s:ao) (σ:St) (H:Hp) (D:mC),Inv X ah σ H s->t D σ H->aT (aV X.prog X.w) X.A (exec st X.env) (SP X ah D) X.xe s
def oX (X:Cx)(st:List cp)(t:TS):Prop :=
 ∀(ah:List (af×cP)) (s:ao) (σ:St) (H:Hp) (D:mC),Inv X ah σ H s->t D σ H->aT (aV X.prog X.w) X.A (execs st X.env) (SP X ah D) X.xe s
theorem di {α:Type}{t:nj α}{Q Q':α->ao->Prop}{M:Model}{A:bz}{E:aa->ao->Prop}{s:ao}(h:aT M A t Q E s)(hQ:∀a s,Q a s->Q' a s):aT M A t Q' E s:=dZ h hQ λ_ _ x=>x
end L2
namespace L2
open PySem PySem.Spec PyProof.Rows
section
variable {X:Cx}
theorem bin {a b:Expr}{ta tb:TE}(ha:PE X a ta)(hb:PE X b tb){ah:List (af×cP)}{s:ao}{σ:St}{H:Hp}{R:V->V->Hp->Prop}(I:Inv X ah σ H s)(h:ta σ H λx H1=>tb σ H1 λy H2=>R x y H2)
  {α:Type} {Q:α->ao->Prop} {f:aa->aa->nj α}
  (hf:∀v u s2 x y H2,Inv X ah σ H2 s2->RelV x v->RelV y u->R x y H2->aT (aV X.prog X.w) X.A (f v u) Q X.xe s2) :
  aT (aV X.prog X.w) X.A (bS a X.env) (λv s₁=>aT (aV X.prog X.w) X.A (bS b X.env) (λu s₂=>aT (aV X.prog X.w) X.A (f v u) Q X.xe s₂) X.xe s₁) X.xe s:=by
 refine di (ha ah s σ H _ I h) λv s1 dk=>?_
 obtain⟨x,H1,I1,r1,q1⟩:=dk
 refine di (hb ah s1 σ H1 _ I1 q1) λu s2 dk=>?_
 obtain⟨y,H2,I2,r2,q2⟩:=dk
 exact hf v u s2 x y H2 I2 r1 r2 q2
def G1 (i:Nat):TE:=λσ H Q=>∃v,σ[i]?=some (some v)/\Q v H
def tC (v:V):TE:=λ_ H Q=>Q v H
theorem j9 {i:Nat}{x:aR}{pos:cG}(hN:X.N[i]?=some x)(hv:pK X.env.scope x)(hd:(x==("__debug__":aR))=false:=by decide)(iX:(x==("__classdict__":aR))=false:=by decide):PE X (.Name x pos) (G1 i):=by
 intro ah s σ H Q I h
 obtain⟨v,e,h⟩:=h
 obtain⟨m,hn,hl⟩:=I.loc
 obtain⟨u,r,l⟩:=hl i x v hN e hv
 have fin:EP X ah σ Q u s:=⟨v,H,I,r,h⟩
 rcases l with⟨hk,hm⟩|⟨hk,c,hc,o4⟩
 ·exact sZ (wpAny_loadName_local I.ok.kind hk hn hm fin) hd
 ·rcases hk with hk|hk
  ·exact sZ (wpAny_loadName_cell I.ok.kind hk hc o4 fin) hd
  ·exact sZ (wpAny_loadName_free I.ok.kind hk hc o4 fin iX) hd
theorem U2 {i j pos}:PE X (.Constant (.int i) j pos) (tC (.int i)):=λ_ _ _ H _ I h=>wpAny_Constant_int ⟨.int i,H,I.tok _,⟨_,rfl⟩,h⟩
theorem VN {b j pos}:PE X (.Constant (.bool b) j pos) (tC (.bl b)):=λ_ _ _ H _ I h=>Constant_bool ⟨.bl b,H,I,rfl,h⟩
theorem U3 {j pos}:PE X (.Constant .none j pos) (tC .non):=λ_ _ _ H _ I h=>Constant_none ⟨.non,H,I,rfl,h⟩
theorem U4 {x j pos}:PE X (.Constant (.str x) j pos) (tC (.str x)):=λ_ _ _ H _ I h=>Calls.Constant_str ⟨.str x,H,I.tok _,⟨_,rfl⟩,h⟩
def Gl (X:Cx)(x:aR):Prop:=X.env.kindOf x=some .globalImplicit
theorem DX {E:aa->ao->Prop}{ah:List (af×cP)}{s:ao}{σ:St}{H:Hp}{x:aR}{u:aa}{pos:cG}{Q:aa->ao->Prop}(I:Inv X ah σ H s)(hg:Gl X x)(hm:X.mg x=some u)(h:Q u s)
  (hd:(x==("__debug__":aR))=false:=by decide):aT (aV X.prog X.w) X.A (bS (.Name x pos) X.env) Q E s :=
 Calls.Name_function_global I.ok.kind hg (Calls.loadGlobal_global (by rw[I.ok.glob];exact I.mod.glob.keeps I.bk) hm h) hd
theorem t7 {E:aa->ao->Prop}{ah:List (af×cP)}{s:ao}{σ:St}{H:Hp}{x:aR}{u:aa}{pos:cG}{Q:aa->ao->Prop}(I:Inv X ah σ H s)(hg:Gl X x)(hm:X.mg x=none)(hv:bU x=some u)(h:Q u s)
  (hn:x≠"__name__":=by decide) (hd:(x==("__debug__":aR))=false:=by decide):aT (aV X.prog X.w) X.A (bS (.Name x pos) X.env) Q E s:=by
 obtain⟨mb,h1,h2⟩:=I.mod.blt
 exact Calls.Name_function_global I.ok.kind hg (Calls.loadGlobal_builtin (by rw[I.ok.glob];exact I.mod.glob.keeps I.bk) hm (by rw[I.ok.blt];exact h1.keeps I.bk) ((h2 x hn).trans hv) h) hd
theorem LA {x:aR}{v:V}{u:aa}{pos:cG}(hg:Gl X x)(hm:X.mg x=some u)(r:RelV v u)(hd:(x==("__debug__":aR))=false:=by decide):PE X (.Name x pos) (tC v) :=
 λ_ _ _ H _ I h=>DX I hg hm ⟨v,H,I,r,h⟩ hd
theorem TK {x:aR}{v:V}{u:aa}{pos:cG}(hg:Gl X x)(hm:X.mg x=none)(hv:bU x=some u)(r:RelV v u)(hn:x≠"__name__":=by decide)(hd:(x==("__debug__":aR))=false:=by decide):PE X (.Name x pos) (tC v) :=
 λ_ _ _ H _ I h=>t7 I hg hm hv ⟨v,H,I,r,h⟩ hn hd
variable {a b:Expr}{ta tb:TE}{pos:cG}
def PC (X:Cx)(op:kF)(a b:Expr)(t:TE):Prop :=
 ∀(ah:List (af×cP)) (s:ao) (σ:St) (H:Hp) (Q:VK),Inv X ah σ H s->t σ H Q ->
  aT (aV X.prog X.w) X.A (bS a X.env) (λv s₁=>aT (aV X.prog X.w) X.A (bS b X.env) (λu s₂=>aT (aV X.prog X.w) X.A (cx op v u) (EP X ah σ Q) X.xe s₂) X.xe s₁) X.xe s
theorem qW (b:Expr){op:kF}(h:op≠.In)(h2:op≠.NotIn):dG op b=false:=by
 have e1:(op==kF.In)=false:=by cases op<;>first|rfl|exact absurd rfl h
 have e2:(op==kF.NotIn)=false:=by cases op<;>first|rfl|exact absurd rfl h2
 cases b<;>simp[dG,e1,e2]
def tB (t:TE):TT:=λσ H Q=>t σ H λx H1=>∃c,x=.bl c/\Q c H1
theorem U5 {op:kF}{t:TE}(h:PC X op a b t)(h1:dG op b=false:=by first|exact qW _ (by decide) (by decide)|rfl):PT X (.Compare a [op] [b] pos) (tB t):=by
 intro ah s σ H Q I hw
 refine wpAny_isTrue_Compare1 (di (h ah s σ H _ I hw) λv s1 h1=>di h1 λu s2 h2=>di h2 λc s3 ⟨x,H1,I1,r1,q1⟩=>?_) h1
 obtain⟨d,rfl,q⟩:=q1
 cases r1
 exact eL ⟨H1,I1,q⟩
theorem Ux {e:Expr}{t:TE}(h:PE X e t)(he:∀whole,pY e X.env whole=(do let v ← whole;fT e.pos;dm [v] (truthy v)):=by intro _;rfl):PT X e (tB t):=by
 intro ah s σ H Q I hw
 refine isTrue_plain (di (h ah s σ H _ I hw) λv s1 ⟨x,H1,I1,r1,q1⟩=>?_) (he _)
 obtain⟨d,rfl,q⟩:=q1
 cases r1
 exact eL ⟨H1,I1,q⟩
variable {tA DA:TT}{rest:List Expr}
def GL (t u:TT):TT:=λσ H Q=>t σ H λc H1=>if c=true then u σ H1 Q else Q false H1
def Qf (t u:TT):TT:=λσ H Q=>t σ H λc H1=>if c=true then Q true H1 else u σ H1 Q
def GU (t:TT):TT:=λσ H Q=>t σ H λc H1=>Q (!c) H1
theorem TL (ha:PT X a tA):PW X (.BoolOp .And [a] pos) tA:=by
 intro wh ah s σ H Q I h
 refine isTrue_and (di (ha ah s σ H Q I h) λc s1 e=>?_)
 cases c with
 |true=>exact isTrue_and_nil e
 |false=>exact e
theorem Uy (ha:PT X a tA):PW X (.BoolOp .Or [a] pos) tA:=by
 intro wh ah s σ H Q I h
 refine isTrue_or (di (ha ah s σ H Q I h) λc s1 e=>?_)
 cases c with
 |false=>exact isTrue_or_nil e
 |true=>exact e
theorem Uz (ha:PT X a tA)(hb:PW X (.BoolOp .And (b::rest) pos) DA):PW X (.BoolOp .And (a::b::rest) pos) (GL tA DA):=by
 intro wh ah s σ H Q I h
 refine isTrue_and (di (ha ah s σ H _ I h) λc s1 dk=>?_)
 obtain⟨H1,I1,q1⟩:=dk
 cases c with
 |true=>exact hb wh ah s1 σ H1 Q I1 q1
 |false=>exact⟨H1,I1,q1⟩
theorem VO (ha:PT X a tA)(hb:PW X (.BoolOp .Or (b::rest) pos) DA):PW X (.BoolOp .Or (a::b::rest) pos) (Qf tA DA):=by
 intro wh ah s σ H Q I h
 refine isTrue_or (di (ha ah s σ H _ I h) λc s1 dk=>?_)
 obtain⟨H1,I1,q1⟩:=dk
 cases c with
 |true=>exact⟨H1,I1,q1⟩
 |false=>exact hb wh ah s1 σ H1 Q I1 q1
theorem UA (ha:PT X a tA):PT X (.UnaryOp .Not a pos) (GU tA):=by
 intro ah s σ H Q I h
 exact isTrue_not (ha ah s σ H (λc H1=>Q (!c) H1) I h)
def Cm (ta tb:TE):TE:=λσ H Q=>ta σ H λx H1=>∃c,x=.bl c/\if c=true then tb σ H1 Q else Q (.bl false) H1
def GV (ta tb:TE):TE:=λσ H Q=>ta σ H λx H1=>∃c,x=.bl c/\if c=true then Q (.bl true) H1 else tb σ H1 Q
theorem UB {op}{t:TE}(h:PE X a t):PE X (.BoolOp op [a] pos) t:=λah s σ H Q I hw=>BoolOp_one (h ah s σ H Q I hw)
theorem UC (ha:PE X a ta)(hb:PE X (.BoolOp .And (b::rest) pos) tb):PE X (.BoolOp .And (a::b::rest) pos) (Cm ta tb):=by
 intro ah s σ H Q I h
 refine BoolOp_and (di (ha ah s σ H _ I h) λv s1 dk=>?_)
 obtain⟨x,H1,I1,r1,q1⟩:=dk
 obtain⟨c,rfl,q1⟩:=q1
 cases r1
 refine eL ?_
 cases c with
 |true=>exact hb ah s1 σ H1 Q I1 q1
 |false=>exact⟨.bl false,H1,I1,rfl,q1⟩
theorem Wd (ha:PE X a ta)(hb:PE X (.BoolOp .Or (b::rest) pos) tb):PE X (.BoolOp .Or (a::b::rest) pos) (GV ta tb):=by
 intro ah s σ H Q I h
 refine BoolOp_or (di (ha ah s σ H _ I h) λv s1 dk=>?_)
 obtain⟨x,H1,I1,r1,q1⟩:=dk
 obtain⟨c,rfl,q1⟩:=q1
 cases r1
 refine eL ?_
 cases c with
 |false=>exact hb ah s1 σ H1 Q I1 q1
 |true=>exact⟨.bl true,H1,I1,rfl,q1⟩
def Qe (t:TT)(ta tb:TE):TE:=λσ H Q=>t σ H λc H1=>if c=true then ta σ H1 Q else tb σ H1 Q
theorem R7 {c:Expr}(hc:PT X c tA)(ha:PE X a ta)(hb:PE X b tb):PE X (.IfExp c a b pos) (Qe tA ta tb):=by
 intro ah s σ H Q I h
 refine wpAny_IfExp (di (hc ah s σ H _ I h) λd s1 dk=>?_)
 obtain⟨H1,I1,q1⟩:=dk
 cases d with
 |true=>exact ha ah s1 σ H1 Q I1 q1
 |false=>exact hb ah s1 σ H1 Q I1 q1
end
end L2
namespace L2
open PySem PySem.Spec PyProof.Rows
def fw (K:ae)(H:Hp)(a:af)(xs:List V):Prop :=
 Rd H a (.lst xs) \/
  ∃(o:cP) (cq:Array aa) (n:Nat),K.lookup a=some o/\o.cls=.type "list"/\o.dict=none/\o.data=.seq cq n/\cq.size<=sizeLine/\bR xs cq.toList
def jJ (K:ae)(H:Hp)(a:af)(xs:List V):Prop :=
 Rd H a (.tup xs) \/
  ∃(o:cP) (cq:Array aa) (n:Nat),K.lookup a=some o/\o.cls=.type "tuple"/\o.data=.seq cq n/\cq.size<=sizeLine/\bR xs cq.toList
def ED:aa->Option V
 |.none=>some .non
 |.bool b=>some (.bl b)
 |.int i _=>some (.int i)
 |.str x _=>some (.str x)
 |.bytes b _=>some (.byt b)
 |.float b _=>some (.flt b)
 |.ref a=>some (.ref a)
 |.type n=>some (.ty n)
 |_=>none
theorem RelV.abs {x:V}{u:aa}(r:RelV x u):ED u=some x:=by
 cases x with
 |non=>cases r;rfl
 |bl _=>cases r;rfl
 |int _=>obtain⟨t,rfl⟩:=r;rfl
 |str _=>obtain⟨t,rfl⟩:=r;rfl
 |byt _=>obtain⟨t,rfl⟩:=r;rfl
 |flt _=>obtain⟨t,rfl⟩:=r;rfl
 |ref _=>cases r;rfl
 |ty _=>cases r;rfl
theorem RelV.inj {x y:V}{u:aa}(r:RelV x u)(q:RelV y u):x=y:=Option.some.inj (r.abs.symm.trans q.abs)
theorem bR.inj:∀{xs ys:List V} {us:List aa},bR xs us->bR ys us->xs=ys
 |_,_,_,.nil,.nil=>rfl
 |_,_,_,.cons r t,.cons r' t'=>by rw[r.inj r',bR.inj t t']
section
variable {X:Cx}{ah:List (af×cP)}{σ:St}{H:Hp}{s:ao}{a:af}{xs ys:List V}
theorem fw.of {K:ae}(h:H a=some (.lst xs)):fw K H a xs:=.inl (.inl h)
theorem jJ.of {K:ae}(h:H a=some (.tup xs)):jJ K H a xs:=.inl (.inl h)
theorem Inv.list (I:Inv X ah σ H s)(h:fw X.K H a xs):∃cq:List aa,bR xs cq/\PlainL s.heap a cq.toArray/\xs.length<=sizeLine:=by
 rcases h with h|⟨o,cq,n,hk,hc,hd,hs,hz,r⟩
 ·obtain⟨z,cq,n,r,e⟩:=h.ok I.hok
  exact⟨cq,r,⟨_,n,e,rfl,rfl,rfl⟩,z⟩
 ·refine⟨cq.toList,r,⟨o,n,I.kIn a o hk,hc,hd,by simpa using hs⟩,?_⟩
  have e:=r.length
  simp only[dq]at e
  omega
theorem Inv.tuple (I:Inv X ah σ H s)(h:jJ X.K H a xs):∃cq:List aa,bR xs cq/\IsTup s.heap a cq.toArray/\xs.length<=sizeLine:=by
 rcases h with h|⟨o,cq,n,hk,hc,hs,hz,r⟩
 ·obtain⟨z,cq,r,p⟩:=h.ok I.hok
  exact⟨cq,r,p,z⟩
 ·refine⟨cq.toList,r,⟨o,I.kIn a o hk,hc,n,by simpa using hs⟩,?_⟩
  have e:=r.length
  simp only[dq]at e
  omega
theorem Inv.list_inj (I:Inv X ah σ H s)(h:fw X.K H a xs)(h':fw X.K H a ys):xs=ys:=by
 obtain⟨cq,r,⟨o,n,e,_,_,d⟩,_⟩:=I.list h
 obtain⟨its',r',⟨o',n',e',_,_,d'⟩,_⟩:=I.list h'
 rw[e]at e';cases e'
 rw[d]at d'
 injection d' with d1 _
 have:cq=its':=by simpa using congrArg Array.toList d1
 subst this
 exact r.inj r'
end
abbrev Cx.wish (X:Cx)(E:aa->ao->Prop):Cx:={ X with xe:=E }
abbrev Cx.nox (X:Cx):Cx:=X.wish λ_ _=>False
theorem Cx.Ok.wish {X:Cx}(ok:X.Ok)(E:aa->ao->Prop):(X.wish E).Ok :=
 ⟨ok.mod,ok.kind,ok.glob,ok.blt,ok.above,ok.inj,ok.has,ok.cab,ok.hd,ok.frames,ok.stk,ok.exf,ok.bs,ok.bsz,ok.noex,ok.exfs,ok.funs,ok.frf⟩
theorem Cx.Ok.unwish {X:Cx}{E:aa->ao->Prop}(ok:(X.wish E).Ok):X.Ok :=
 ⟨ok.mod,ok.kind,ok.glob,ok.blt,ok.above,ok.inj,ok.has,ok.cab,ok.hd,ok.frames,ok.stk,ok.exf,ok.bs,ok.bsz,ok.noex,ok.exfs,ok.funs,ok.frf⟩
section
variable {X:Cx}{ah:List (af×cP)}{σ:St}{H:Hp}{s:ao}{E:aa->ao->Prop}
theorem Inv.wish (I:Inv X ah σ H s)(E:aa->ao->Prop):Inv (X.wish E) ah σ H s:=⟨I.ok.wish E,I.os,I.bare,I.base,I.loc,I.cell,I.free,I.freeC,I.pin,I.hok,I.len⟩
theorem Inv.unwish (I:Inv (X.wish E) ah σ H s):Inv X ah σ H s:=⟨I.ok.unwish,I.os,I.bare,I.base,I.loc,I.cell,I.free,I.freeC,I.pin,I.hok,I.len⟩
theorem SP.unwish {D:mC}{f:Flow}{s':ao}(h:SP (X.wish E) ah D f s'):SP X ah D f s':=by
 cases f with
 |next=>obtain⟨σ',H',I,q⟩:=h;exact⟨σ',H',I.unwish,q⟩
 |brk=>obtain⟨σ',H',I,q⟩:=h;exact⟨σ',H',I.unwish,q⟩
 |cont=>obtain⟨σ',H',I,q⟩:=h;exact⟨σ',H',I.unwish,q⟩
 |ret u=>obtain⟨v,σ',H',I,r,q⟩:=h;exact⟨v,σ',H',I.unwish,r,q⟩
theorem oX.nox {st:List cp}{t:TS}(h:oX X.nox st t):oX X st t:=λah s σ H D I hw=>
 dZ (h ah s σ H D (I.wish _) hw) (λ_ _ q=>q.unwish) λ_ _ z=>False.elim z
end
section
variable {X:Cx}{st:cp}{rest:List cp}{t u:TS}{e:Expr}{te:TE}{pos:cG}
def Cs:TS:=λD σ H=>D.nx σ H
def GZ (t u:TS):TS:=λD σ H=>t { D with nx:=u D } σ H
theorem TN:oX X [] Cs:=λ_ _ σ H _ I h=>i9 ⟨σ,H,I,h⟩
theorem R8 (h1:PS X st t)(h2:oX X rest u):oX X (st::rest) (GZ t u):=by
 intro ah s σ H D I h
 refine wpAny_execs_cons (di (h1 ah s σ H { D with nx:=u D } I h) λf s1 q=>?_)
 cases f with
 |next=>
  obtain⟨σ',H',I',q⟩:=q
  exact h2 ah s1 σ' H' D I' q
 |ret v=>exact q
 |brk=>exact q
 |cont=>exact q
theorem TQ (h1:PS X st t):oX X [st] t:=by
 intro ah s σ H D I h
 refine wpAny_execs_cons (di (h1 ah s σ H D I h) λf s1 q=>?_)
 cases f with
 |next=>exact i9 q
 |ret v=>exact q
 |brk=>exact q
 |cont=>exact q
theorem Inv.quiet {ah:List (af×cP)}{σ:St}{H:Hp}{s:ao}(I:Inv X ah σ H s):interactive X.env=false:=by simp[interactive,I.ok.kind]
def Cq (te:TE):TS:=λD σ H=>te σ H λ_ H1=>D.nx σ H1
theorem LB (he:PE X e te)(hs:eE e none pos.line X.env=pure false:=by rfl):PS X (.Expr e pos) (Cq te):=by
 intro ah s σ H D I h
 exact wpAny_Expr_any (di (he ah s σ H _ I h) λv s1 ⟨x,H1,I1,r1,q1⟩=>⟨σ,H1,I1,q1⟩) I.quiet hs
def GX (te:TE):TS:=λD σ H=>te σ H D.rt
theorem L8 (he:PE X e te):PS X (.Return (some e) pos) (GX te):=by
 intro ah s σ H D I h
 exact wpAny_Return_some (di (he ah s σ H _ I h) λv s1 ⟨x,H1,I1,r1,q1⟩=>⟨x,σ,H1,I1,r1,q1⟩)
def GR (c:TT)(t u:TS):TS:=λD σ H=>c σ H λb H1=>if b=true then t D σ H1 else u D σ H1
theorem We {c:Expr}{a b:List cp}{tc:TT}(hc:PT X c tc)(ha:oX X a t)(hb:oX X b u):PS X (.If c a b pos) (GR tc t u):=by
 intro ah s σ H D I h
 refine wpAny_If (di (hc ah s σ H _ I h) λd s1 dk=>?_)
 obtain⟨H1,I1,q1⟩:=dk
 cases d with
 |true=>exact ha ah s1 σ H1 D I1 q1
 |false=>exact hb ah s1 σ H1 D I1 q1
def wX:TS:=λ_ _ _=>False
theorem R9:PS X st wX:=λ_ _ _ _ _ _ h=>h.elim
end
abbrev TG:=V->St->Hp->(St->Hp->Prop)->Prop
abbrev tw:=List V->St->Hp->(St->Hp->Prop)->Prop
def PG (X:Cx)(target:Expr)(t:TG):Prop :=
 ∀(ah:List (af×cP)) (s:ao) (σ:St) (H:Hp) (v:V) (u:aa) (Q:St->Hp->Prop),Inv X ah σ H s->RelV v u->t v σ H Q ->
  aT (aV X.prog X.w) X.A (eQ target X.env u) (λ_ s'=>∃σ' H',Inv X ah σ' H' s'/\Q σ' H') X.xe s
def xD (X:Cx)(ts:List Expr)(t:tw):Prop :=
 ∀(ah:List (af×cP)) (s:ao) (σ:St) (H:Hp) (vs:List V) (us:List aa) (Q:St->Hp->Prop),Inv X ah σ H s->bR vs us->t vs σ H Q ->
  aT (aV X.prog X.w) X.A (assignInOrder ((cn ts X.env).map (·.2)) us) (λ_ s'=>∃σ' H',Inv X ah σ' H' s'/\Q σ' H') X.xe s
abbrev qC:=V->V->V->Hp->(Hp->Prop)->Prop
def uK (X:Cx)(t:qC):Prop :=
 ∀(ah:List (af×cP)) (s:ao) (σ:St) (H:Hp) (o i v:V) (ov iv u:aa) (Q:Hp->Prop),Inv X ah σ H s->RelV o ov->RelV i iv->RelV v u->t o i v H Q ->
  aT (aV X.prog X.w) X.A (ka ov iv u) (λ_ s'=>∃H',Inv X ah σ H' s'/\Q H') X.xe s
abbrev xF:=V->V->Hp->VK->Prop
def xE (X:Cx)(op:iO)(t:xF):Prop :=
 ∀(ah:List (af×cP)) (s:ao) (σ:St) (H:Hp) (x y:V) (v u:aa) (Q:VK),Inv X ah σ H s->RelV x v->RelV y u->t x y H Q ->
  aT (aV X.prog X.w) X.A (inplaceOp op v u) (EP X ah σ Q) X.xe s
section
variable {X:Cx}{pos:cG}
def o3 (i:Nat):TG:=λv σ H Q=>Q (σ.set i (some v)) H
theorem LC {i:Nat}{x:aR}(hN:X.N.Nodup)(hi:X.N[i]?=some x)(hx:Loc X.env.scope x)(hf:X.fn x=true\/X.env.scope.names.lookup x=some .local:=by first|exact .inl rfl|exact .inr rfl|assumption):PG X (.Name x pos) (o3 i):=by
 intro ah s σ H v u Q I r h
 exact wpAny_assign_Name (qp I hN hi hx r (λs' I'=>⟨_,H,I',h⟩) hf)
def Ft:tw:=λvs σ H Q=>vs=[]/\Q σ H
def AI (t:TG)(u:tw):tw:=λvs σ H Q=>∃v r,vs=v::r/\t v σ H λσ' H'=>u r σ' H' Q
theorem Ho:xD X [] Ft:=by
 intro ah s σ H vs us Q I r h
 obtain⟨e,h⟩:=h
 subst e
 cases r
 exact assignInOrder_nil ⟨σ,H,I,h⟩
theorem DK {e:Expr}{es:List Expr}{t:TG}{u:tw}(h1:PG X e t)(h2:xD X es u)
  (hs:(cn (e::es) X.env).map (·.2)=eQ e X.env::(cn es X.env).map (·.2):=by rfl):xD X (e::es) (AI t u):=by
 intro ah s σ H vs us Q I r h
 obtain⟨v,vr,e1,h⟩:=h
 subst e1
 cases r with
 |cons r rr=>
  rw[hs]
  refine assignInOrder_cons (di (h1 ah s σ H _ _ _ I r h) λ_ s1 dk=>?_)
  obtain⟨σ1,H1,I1,q1⟩:=dk
  exact h2 ah s1 σ1 H1 _ _ Q I1 rr q1
def Fv (K:ae)(n:Nat)(t:tw):TG:=λv σ H Q=>∃a xs,v=.ref a/\jJ K H a xs/\xs.length=n/\t xs σ H Q
theorem HG {es:List Expr}{k:Nat}{t:tw}{n:Nat}(hc:X.calm=true)(h:xD X es t)
  (hn:(cn es X.env).length=n:=by rfl) (mQ:(cn es X.env).findIdx? (·.1)=none:=by rfl):PG X (.Tuple es k pos) (Fv X.K n t):=by
 intro ah s σ H v u Q I r hw
 obtain⟨a,xs,e1,hq,hl,hw⟩:=hw
 subst e1
 cases r
 obtain⟨cq,rv,ht,hz⟩:=I.tuple hq
 refine assign_Tuple_tuple (I.ok.hd hc) ht (by simp[hn,←hl,rv.length]) mQ λh' hx=>?_
 have I1:Inv X ah σ H { s with heap:=h' }:=I.kept (t':=s.toks) λb o e=>hx b o (aZ (aI e)) e
 exact h ah _ σ H xs _ Q I1 (by simpa using rv) hw
def Fu (to ti:TE)(t:qC):TG:=λv σ H Q=>to σ H λo H1=>ti σ H1 λi H2=>t o i v H2 λH3=>Q σ H3
theorem HH {o i:Expr}{to ti:TE}{t:qC}(ho:PE X o to)(hi:PE X i ti)(hs:uK X t)
  (ha:∀v,eQ (.Subscript o i pos) X.env v=(do
   let ov ← dm [v] (bS o X.env)
   let iv ← dm [v,ov] (bS i X.env)
   fT pos
   dm [v,ov,iv] (ka ov iv v)
   nn [v,ov,iv] []):=by intro _;rfl):PG X (.Subscript o i pos) (Fu to ti t):=by
 intro ah s σ H v u Q I r h
 rw[ha]
 refine ak (dY (di (ho ah s σ H _ I h) λov s1 dk=>?_))
 obtain⟨x,H1,I1,r1,q1⟩:=dk
 refine ak (dY (di (hi ah s1 σ H1 _ I1 q1) λiv s2 dk=>?_))
 obtain⟨y,H2,I2,r2,q2⟩:=dk
 refine ak (kG (ak (dY (di (hs ah s2 σ H2 x y v ov iv u _ I2 r1 r2 r q2) λ_ s3 dk=>?_))))
 obtain⟨H3,I3,q3⟩:=dk
 exact wpAny_release ⟨σ,H3,I3,q3⟩
def wR (te:TE)(g:TG):TS:=λD σ H=>te σ H λx H1=>g x σ H1 D.nx
theorem D7 {tg e:Expr}{te:TE}{g:TG}(he:PE X e te)(hg:PG X tg g)(hs:fu [tg] e pos.line X.env=pure false:=by rfl)(hw:fq [tg] e X.env=pure none:=by rfl)
  (h1:(cn [tg] X.env).map (·.2)=[eQ tg X.env]:=by rfl):PS X (.Assign [tg] e pos) (wR te g):=by
 intro ah s σ H D I h
 refine wpAny_Assign_stores (di (he ah s σ H _ I h) λv s1 ⟨x,H1,I1,r1,q1⟩=>?_) hs hw
 rw[h1]
 exact di (hg ah s1 σ H1 x v _ I1 r1 q1) λ_ s2 q=>q
theorem UD {i:Nat}{x:aR}{e:Expr}{te:TE}{pos':cG}(hN:X.N.Nodup)(hi:X.N[i]?=some x)(hx:Loc X.env.scope x)(he:PE X e te)(hs:eE e (some (.Name x pos')) pos.line X.env=pure false:=by rfl)(hf:X.fn x=true\/X.env.scope.names.lookup x=some .local:=by first|exact .inl rfl|exact .inr rfl|assumption) :
  PS X (.Assign [.Name x pos'] e pos) (wR te (o3 i)):=by
 intro ah s σ H D I h
 refine wpAny_Assign_Name (di (he ah s σ H _ I h) λv s1 ⟨y,H1,I1,r1,q1⟩=>?_) hs
 exact qp I1 hN hi hx r1 (λs2 I2=>⟨_,H1,I2,q1⟩) hf
def GW (i j:Nat)(ta:TA):TS:=λD σ H=>ta σ H λvs H1=>∃v w,vs=[v,w]/\D.nx ((σ.set i (some v)).set j (some w)) H1
theorem UE {i j:Nat}{x y:aR}{a b:Expr}{ta:TA}{px py pt:cG}{kt k2 kJ}(hc:X.calm=true)(hN:X.N.Nodup)(hi:X.N[i]?=some x)(hj:X.N[j]?=some y)(nX:i≠j)
    (hx:X.env.scope.names.lookup x=some .local) (hy:X.env.scope.names.lookup y=some .local) (ha:PA X [a,b] ta)
    (hw:fq [.Tuple [.Name x px,.Name y py] kt pt] (.Tuple [a,b] k2 kJ) X.env=pure (some [x,y]))
    (hs:fu [.Tuple [.Name x px,.Name y py] kt pt] (.Tuple [a,b] k2 kJ) pos.line X.env=pure false:=by rfl) :
    PS X (.Assign [.Tuple [.Name x px,.Name y py] kt pt] (.Tuple [a,b] k2 kJ) pos) (GW i j ta):=by
  intro ah s σ H D I h
  rw[exec_Assign_arm]
  refine ak (kG ?_)
  rw[hs]
  refine ak (aq ?_)
  rw[if_neg (by decide)]
  refine ak (Tuple_ (di (ha _ ah s σ H _ I h) λus s1 dk=>?_))
  obtain⟨vs,H1,I1,r1,q1⟩:=dk
  obtain⟨v,w,e1,q1⟩:=q1
  subst e1
  obtain⟨u1,u2,rfl,rv,oK⟩:∃u1 u2,us=[u1,u2]/\RelV v u1/\RelV w u2:=by
    cases r1 with
    |cons p q=>
      cases q with
      |cons p' q'=>
        cases q'
        exact⟨_,_,rfl,p,p'⟩
  refine cJ ?_ (by show 2<=sizeLine;decide)
  have I2:Inv X ah σ H1 { s1 with heap:=s1.heap.push { cls:=.type "tuple",data:=.seq [u1,u2].toArray } }:=I1.kept (t':=s1.toks) λb o e=>ay _ e
  rw[hw]
  refine ak (aq ?_)
  show aT (aV X.prog X.w) X.A (do rule "assign.swapped-stores";let items ← unpackItems (.ref s1.heap.objs.size) 2 none;assignInOrder [λv=>bindName X.env y v,λv=>bindName X.env x v] items.reverse;pure Flow.next) _ _ _
  refine ak (wpAny_rule (ak (unpackItems_tuple (items:=#[u1,u2]) (I.ok.hd hc) (IsTup.new s1.heap _) λh' tP=>?_)))
  have I3:=I2.kept (h':=h') (t':=s1.toks) λb o e=>tP b o (aZ (aI e)) e
  show aT _ _ (assignInOrder [λv=>bindName X.env y v,λv=>bindName X.env x v] [u2,u1] >>= λ_=>pure Flow.next) _ _ _
  refine ak (assignInOrder_cons (wpAny_bindName (qp I3 hN hj (.inl hy) oK (λs2 I4=>?_) (.inr hy))))
  refine assignInOrder_cons (wpAny_bindName (qp I4 hN hi (.inl hx) rv (λs3 I5=>assignInOrder_nil (aq ?_)) (.inr hx)))
  rw[List.set_comm _ _ (Ne.symm nX)]at I5
  exact⟨_,H1,I5,q1⟩
def GM (i:Nat)(te:TE)(ti:xF):TS:=λD σ H=>∃x,σ[i]?=some (some x)/\te σ H λy H1=>ti x y H1 λz H2=>D.nx (σ.set i (some z)) H2
theorem UF {i:Nat}{x:aR}{e:Expr}{te:TE}{op:iO}{ti:xF}{pos':cG}(hN:X.N.Nodup)(hi:X.N[i]?=some x)(hx:Loc X.env.scope x)(he:PE X e te)(ho:xE X op ti)(hf:X.fn x=true\/X.env.scope.names.lookup x=some .local:=by first|exact .inl rfl|exact .inr rfl|assumption) :
  PS X (.AugAssign (.Name x pos') op e pos) (GM i te ti):=by
 intro ah s σ H D I h
 obtain⟨v,e1,h⟩:=h
 obtain⟨m,hn,hl⟩:=I.loc
 have Qp:pK X.env.scope x:=by rcases hx with k|k;exact .inl k;exact .inr (.inl k)
 obtain⟨u,r,l⟩:=hl i x v hi e1 Qp
 refine wpAny_AugAssign_Name ?_
 have go:aT (aV X.prog X.w) X.A (bS e X.env) (λw s₂=>aT (aV X.prog X.w) X.A (inplaceOp op u w) (λr s₃=>aT (aV X.prog X.w) X.A (storeName X.env x r) (λ_=>SP X ah D .next) X.xe s₃) X.xe s₂) X.xe s:=by
  refine di (he ah s σ H _ I h) λw s1 dk=>?_
  obtain⟨y,H1,I1,r1,q1⟩:=dk
  refine di (ho ah s1 σ H1 v y u w _ I1 r r1 q1) λz s2 dk=>?_
  obtain⟨zv,H2,I2,r2,q2⟩:=dk
  exact qp I2 hN hi hx r2 (λs3 I3=>⟨_,H2,I3,q2⟩) hf
 rcases l with⟨hk,hm⟩|⟨hk,c,hc,o4⟩
 ·exact wpAny_loadName_local I.ok.kind hk hn hm go
 ·rcases hk with hk|hk
  ·exact wpAny_loadName_cell I.ok.kind hk hc o4 go
  ·rcases hx with k|k
   ·have:X.env.scope.names.lookup x=some .free:=hk
    rw[k]at this;cases this
   ·have:X.env.scope.names.lookup x=some .free:=hk
    rw[k]at this;cases this
def Co (to ti te:TE)(sP:V->V->Hp->VK->Prop)(DE:xF)(sQ:qC):TS:=λD σ H=>to σ H λo H1=>ti σ H1 λi H2=>sP o i H2 λx H3=>te σ H3 λy H4=>DE x y H4 λz H5=>sQ o i z H5 λH6=>D.nx σ H6
def yM (X:Cx)(t:V->V->Hp->VK->Prop):Prop :=
 ∀(ah:List (af×cP)) (s:ao) (σ:St) (H:Hp) (o i:V) (ov iv:aa) (Q:VK),Inv X ah σ H s->RelV o ov->RelV i iv->t o i H Q ->
  aT (aV X.prog X.w) X.A (nk ov iv) (EP X ah σ Q) X.xe s
theorem TR {o i e:Expr}{to ti te:TE}{sP:V->V->Hp->VK->Prop}{DE:xF}{sQ:qC}{op:iO}{fD:cG}(ho:PE X o to)(hi:PE X i ti)(hg:yM X sP)(he:PE X e te)(hp:xE X op DE)(hs:uK X sQ)
  (ha:∀ov iv new,augStore i ov iv new=(do dm [new,ov,iv] (ka ov iv new);nn [new,ov,iv] [];pure .next):=by intros;rfl):PS X (.AugAssign (.Subscript o i fD) op e pos) (Co to ti te sP DE sQ):=by
 intro ah s σ H D I h
 refine wpAny_AugAssign_SubscriptAny (di (ho ah s σ H _ I h) λov s1 ⟨x1,H1,I1,r1,q1⟩=>?_) ha
 refine di (hi ah s1 σ H1 _ I1 q1) λiv s2 dk=>?_
 obtain⟨x2,H2,I2,r2,q2⟩:=dk
 refine di (hg ah s2 σ H2 x1 x2 ov iv _ I2 r1 r2 q2) λold s3 dk=>?_
 obtain⟨x3,H3,I3,r3,q3⟩:=dk
 refine di (he ah s3 σ H3 _ I3 q3) λv s4 dk=>?_
 obtain⟨x4,H4,I4,r4,q4⟩:=dk
 refine di (hp ah s4 σ H4 x3 x4 old v _ I4 r3 r4 q4) λnew s5 dk=>?_
 obtain⟨x5,H5,I5,r5,q5⟩:=dk
 exact di (hs ah s5 σ H5 x1 x2 x5 ov iv new _ I5 r1 r2 r5 q5) λ_ s6 ⟨H6,I6,q6⟩=>⟨σ,H6,I6,q6⟩
def Ds (f:Int->Int->Int):xF:=λx y H Q=>∃i j,x=.int i/\y=.int j/\Q (.int (f i j)) H
theorem Ma:xE X .Add (Ds λi j=>i+j):=by
 intro ah s σ H x y v u Q I r1 r2 h
 obtain⟨i,j,e1,e2,q⟩:=h
 subst e1;subst e2
 obtain⟨t,rfl⟩:=r1
 obtain⟨t',rfl⟩:=r2
 exact iadd_int ⟨.int _,H,I.tok _,⟨_,rfl⟩,q⟩
theorem UG:xE X .Sub (Ds λi j=>i-j):=by
 intro ah s σ H x y v u Q I r1 r2 h
 obtain⟨i,j,e1,e2,q⟩:=h
 subst e1;subst e2
 obtain⟨t,rfl⟩:=r1
 obtain⟨t',rfl⟩:=r2
 exact isub_int ⟨.int _,H,I.tok _,⟨_,rfl⟩,q⟩
end
section
variable {X:Cx}{pos:cG}
def wY (c:TT)(tb:TS):TS:=λD σ H=>∃W:Nat->St->Hp->Prop,(∃m,W m σ H)/\∀m σ H,W m σ H ->
 c σ H λb H1=>if b=true then∃N:St->Hp->Prop,(∀σ' H',N σ' H'->∃m',m'<m/\W m' σ' H')/\tb { D with nx:=N,ct:=N,bk:=D.nx } σ H1 else D.nx σ H1
theorem Sd {c:Expr}{body:List cp}{tc:TT}{tb:TS}(hp:cC (aV X.prog X.w) X.A X.env X.xe)(hc:PT X c tc)(hb:oX X body tb):PS X (.While c body [] pos) (wY tc tb):=by
 intro ah s σ H D I h
 obtain⟨W,⟨m0,w0⟩,mU⟩:=h
 refine wpAny_While (codeAny_whileLoop (λn s'=>∃σ' H',Inv X ah σ' H' s'/\W n σ' H') ?_ m0 ⟨σ,H,I,w0⟩)
 rintro n s1 ⟨σ1,H1,I1,w1⟩
 refine eD hp (di (hc ah s1 σ1 H1 _ I1 (mU n σ1 H1 w1)) λb s2 dk=>?_)
 obtain⟨H2,I2,q2⟩:=dk
 cases b with
 |true=>
  obtain⟨N,hN,q2⟩:=q2
  rw[if_pos rfl]
  refine eD hp (di (hb ah s2 σ1 H2 _ I2 q2) λf s3 q3=>?_)
  cases f with
  |next=>
   obtain⟨σ3,H3,I3,n3⟩:=q3
   obtain⟨m',hm,w3⟩:=hN σ3 H3 n3
   exact⟨m',hm,σ3,H3,I3,w3⟩
  |cont=>
   obtain⟨σ3,H3,I3,n3⟩:=q3
   obtain⟨m',hm,w3⟩:=hN σ3 H3 n3
   exact⟨m',hm,σ3,H3,I3,w3⟩
  |brk=>exact q3
  |ret v=>exact q3
 |false=>
  rw[if_neg aY]
  exact i9 ⟨σ1,H2,I2,q2⟩
end
structure It where
 go:Nat->Hp->Prop
 yld:Nat->Hp->V->Hp->Prop
 stop:Nat->Hp->Prop
def jO (X:Cx)(ah:List (af×cP))(H:Hp)(b:af):Prop :=
 H b=none/\b≠X.env.locals/\b∉X.fs/\(b∈X.ex\/X.s₀.heap.objs.size<=b)/\(∀x c,X.env.cells.lookup x=some c->c≠b)/\∀p∈X.pn++ah,p.1≠b
theorem Inv.fpOk {X:Cx}{ah:List (af×cP)}{σ:St}{H H':Hp}{s:ao}{b:af}(I:Inv X ah σ H s)(hb:s.heap.objs.size<=b)(hn:H' b=none):jO X ah H' b:=by
 refine⟨hn,Nat.ne_of_gt (br I.lt hb),I.nofs hb,.inr (cm I.sz hb),λx c e z=>?_,λp hp z=>?_⟩
 ·obtain⟨v,q⟩:=I.cell x c e
  exact absurd (br q.lt (by rw[z];exact hb)) (eh _)
 ·exact absurd (br (aI (I.pin p hp).1) (by rw[z];exact hb)) (eh _)
structure Turn (P:bb)(w:bG)(K:ae)(tg:Expr)(J:It)(fp:List af)(it:af)(tn:Nat->aK->Prop):Prop where
 mem:it∈fp
 obj:∀i h,tn i h->∀b∈fp,∃o,h.get? b=some o/\∀v,o.data≠.cell v
 keep:∀i h h',tn i h->(∀b∈fp,∀o,h.get? b=some o->h'.get? b=some o)->tn i h'
 item:∀(X:Cx),X.prog=P->X.w=w->X.K=K->X.calm=true->∀(i:Nat) (ah:List (af×cP)) (s:ao) (σ:St) (H:Hp) (E:aa->ao->Prop),Inv X ah σ H s->(∀b∈fp,jO X ah H b)->tn i s.heap->J.go i H ->
  aT (aV P w) X.A (pyNext (.ref it)) (λr s1=>∃u,r=some u /\
   aT (aV P w) X.A (gF tg (.ref it) u) (λ_ s2=>∃x H',Inv X ah σ H' s2/\RelV x u/\J.yld i H x H'/\tn (i+1) s2.heap/\∀b∈fp,H' b=none) E s1) E s
 done:∀(X:Cx),X.prog=P->X.w=w->X.K=K->X.calm=true->∀(i:Nat) (ah:List (af×cP)) (s:ao) (σ:St) (H:Hp) (E:aa->ao->Prop),Inv X ah σ H s->(∀b∈fp,jO X ah H b)->tn i s.heap->J.stop i H ->
  aT (aV P w) X.A (pyNext (.ref it)) (λr s1=>r=none/\Inv X ah σ H s1) E s
 self:∀(A:bz) (i:Nat) (s:ao) (Q:aa->ao->Prop) (E:aa->ao->Prop),tn i s.heap->Q (.ref it) s->aT (aV P w) A (pyIter (.ref it)) Q E s
abbrev TI:=St->Hp->(It->Hp->Prop)->Prop
def Ia (X:Cx)(ah:List (af×cP))(σ:St)(tg:Expr)(R:It->Hp->Prop)(Dv:aa)(s2:ao):Prop :=
 ∃(it:af) (fp:List af) (tn:Nat->aK->Prop) (J:It) (H':Hp),Dv=.ref it/\Inv X ah σ H' s2/\Turn X.prog X.w X.K tg J fp it tn/\tn 0 s2.heap/\(∀b∈fp,jO X ah H' b)/\R J H'
def PI (X:Cx)(tg iter:Expr)(wi:TI):Prop :=
 ∀(ah:List (af×cP)) (s:ao) (σ:St) (H:Hp) (R:It->Hp->Prop),Inv X ah σ H s->wi σ H R ->
  aT (aV X.prog X.w) X.A (bS iter X.env) (λv s1=>aT (aV X.prog X.w) X.A (pyIter v) (Ia X ah σ tg R) X.xe s1) X.xe s
theorem Ej {M:Model}{A:bz}{E:aa->ao->Prop}{s:ao}{tg:Expr}{it:af}{u:aa}{o:cP}{n:String}{vs:Array aa}{Q:Unit->ao->Prop}(ho:s.heap.get? it=some o)(hc:o.cls=.type n)(hd:o.data=.fields vs)
    (hn:["enumerate","zip","dict_itemiterator","dict_reverseitemiterator","odict_iterator","itertools.zip_longest","itertools.pairwise"].contains n=false) (hQ:Q () s):aT M A (gF tg (.ref it) u) Q E s:=by
  unfold gF
  cases tg<;>first
    |exact aq hQ
    |(cases u<;>first
        |exact aq hQ
        |(refine ak (wpAny_load ho ?_)
          rw[hc,hd]
          show aT M A (if(["enumerate","zip","dict_itemiterator","dict_reverseitemiterator","odict_iterator","itertools.zip_longest","itertools.pairwise"].contains n&&vs[0]?==some (rawInt _))=true then _ else _) Q E s
          rw[if_neg (by intro h;rw[hn,Bool.false_and]at h;cases h)]
          exact aq hQ))
def Eu (K:ae)(a:af):It :=
 ⟨λi H=>∃xs x,fw K H a xs/\xs[i]?=some x,λi H x H'=>H'=H/\∀xs,fw K H a xs->xs[i]?=some x,λi H=>∃xs,fw K H a xs/\xs.length<=i⟩
def CY (lo:Int)(n:Nat):It:=⟨λi _=>i<n,λi H x H'=>H'=H/\x=.int (lo+i),λi _=>n<=i⟩
theorem RH {P:bb}{w:bG}{K:ae}{tg:Expr}(a it:af):Turn P w K tg (Eu K a) [it] it (λi h=>h.IsListIter it a i) where
 mem:=by simp
 obj:=λi h st b hb=>by
  have e:b=it:=by simpa using hb
  subst e
  obtain⟨o,e,c,d⟩:=st
  exact⟨o,e,λv z=>by rw[d]at z;cases z⟩
 keep:=λi h h' st k=>st.at λo e=>k it (by simp) o e
 item:=by
  intro X hP hw hK hc i ah s σ H E I hf st hg
  subst hP hw hK
  obtain⟨xs,x,hq,hx⟩:=hg
  obtain⟨cq,rv,p,hz⟩:=I.list hq
  obtain⟨u,hu,ru⟩:=rv.get hx
  obtain⟨f0,f1,f2,f3,f4,f5⟩:=hf it (by simp)
  refine wpAny_pyNext_list_item st p.isList (x:=u) (by simpa using hu) λh' lA sb=>?_
  have I1:Inv X ah σ H { s with heap:=h' }:=I.turned (t':=s.toks) (λb o hb e=>(sb.2 b hb).trans e) f0 f1 f3 f4 f5
  obtain⟨o,e,c,d⟩:=id lA
  exact⟨u,rfl,Ej (s:={ s with heap:=h' }) e c d (by decide) ⟨x,H,I1,ru,⟨rfl,λys hy=>by rw[I.list_inj hy hq];exact hx⟩,lA,λb hb=>(hf b hb).1⟩⟩
 done:=by
  intro X hP hw hK hc i ah s σ H E I hf st hg
  subst hP hw hK
  obtain⟨xs,hq,hx⟩:=hg
  obtain⟨cq,rv,p,hz⟩:=I.list hq
  obtain⟨f0,f1,f2,f3,f4,f5⟩:=hf it (by simp)
  have hl:=rv.length
  exact wpAny_pyNext_list_end (I.ok.hd hc) st p.isList (by simp;omega) λh' eb=>⟨rfl,I.turned (t':=s.toks) (λb o hb e=>eb b o hb e) f0 f1 f3 f4 f5⟩
 self:=λ_ _ _ _ _ st h=>wpAny_pyIter_listiter st h
theorem Ru {P:bb}{w:bG}{K:ae}{tg:Expr}(it:af)(lo:Int)(n:Nat):Turn P w K tg (CY lo n) [it] it (λi h=>IsRangeIter h it (lo+(i:Nat)*1) ((n:Int)-(i:Nat)) 1) where
 mem:=by simp
 obj:=λi h st b hb=>by
  have e:b=it:=by simpa using hb
  subst e
  exact⟨_,st,λv z=>by
   have z':oU.fields _=oU.cell v:=z
   cases z'⟩
 keep:=λi h h' st k=>k it (by simp) _ st
 item:=by
  intro X hP hw hK hc i ah s σ H E I hf st hg
  subst hP hw hK
  obtain⟨f0,f1,f2,f3,f4,f5⟩:=hf it (by simp)
  have W:=Walks.range (prog:=X.prog) (w:=X.w) (I.ok.hd hc) it lo 1 n
  refine W.item i s _ _ hg st λv h' tk hv lA kk=>?_
  obtain⟨t,rfl⟩:=hv
  have I1:Inv X ah σ H { s with heap:=h',toks:=tk }:=I.turned (λb o hb e=>kk b o (by simpa using hb) e) f0 f1 f3 f4 f5
  refine⟨_,rfl,Ej (s:={ s with heap:=h',toks:=tk }) (n:="range_iterator") lA rfl rfl (by decide) ⟨.int (lo+i),H,I1,⟨t,?_⟩,⟨rfl,rfl⟩,lA,λb hb=>(hf b hb).1⟩⟩
  rw[Int.mul_one]
 done:=by
  intro X hP hw hK hc i ah s σ H E I hf st hg
  subst hP hw hK
  obtain⟨f0,f1,f2,f3,f4,f5⟩:=hf it (by simp)
  exact wpAny_pyNext_range_end (I.ok.hd hc) st (by have:n<=i:=hg;omega) λh' eb=>⟨rfl,I.turned (t':=s.toks) (λb o hb e=>eb b o hb e) f0 f1 f3 f4 f5⟩
 self:=λ_ _ _ _ _ st h=>wpAny_pyIter_rangeiter st h
end L2
namespace L2
open PySem PySem.Spec PyProof.Rows
section
variable {X:Cx}{tg:Expr}
def Bb (K:ae)(tl:TE):TI:=λσ H R=>tl σ H λx H1=>∃a,x=.ref a/\(∃xs,fw K H1 a xs)/\R (Eu K a) H1
theorem LD {l:Expr}{tl:TE}(hl:PE X l tl):PI X tg l (Bb X.K tl):=by
 intro ah s σ H R I h
 refine di (hl ah s σ H _ I h) λv s1 dk=>?_
 obtain⟨x,H1,I1,r1,q1⟩:=dk
 obtain⟨a,e,⟨xs,hq⟩,q⟩:=q1
 subst e
 cases r1
 obtain⟨cq,rv,p,hz⟩:=I1.list hq
 refine wpAny_pyIter_list p.isList ?_
 refine⟨s1.heap.objs.size,[s1.heap.objs.size],_,_,H1,rfl,I1.kept (t':=s1.toks) λb o e=>ay _ e,RH a _,⟨_,bo _ rfl,rfl,rfl⟩,λb hb=>?_,q⟩
 have e:b=s1.heap.objs.size:=by simpa using hb
 subst e
 exact I1.fpOk (ar _) (I1.hok.fresh (ar _))
theorem Se {ah:List (af×cP)}{σ:St}{H:Hp}{s:ao}{R:It->Hp->Prop}{E:aa->ao->Prop}{lo hi:Int}{t u v:Tok}{tk:Nat}(I:Inv X ah σ H s)(h1:-(2 ^ 62)<=lo)(h2:lo<2 ^ 62)(h3:-(2 ^ 62)<=hi)(h4:hi<2 ^ 62)
    (q:R (CY lo (hi-lo).toNat) H):aT (aV X.prog X.w) X.A (pyIter (.ref s.heap.objs.size)) (Ia X ah σ tg R) E { s with heap:=s.heap.push { cls:=.type "range",data:=.fields #[.int lo t,.int hi u,.int 1 v] },toks:=tk }:=by
  refine wpAny_pyIter_range (IsRange.new ..) (small_one h1 h2 h3 h4) ?_
  have I1:Inv X ah σ H { s with heap:=s.heap.push { cls:=.type "range",data:=.fields #[.int lo t,.int hi u,.int 1 v] },toks:=tk }:=I.kept λb o e=>ay _ e
  refine⟨(s.heap.push { cls:=.type "range",data:=.fields #[.int lo t,.int hi u,.int 1 v] }).objs.size,[(s.heap.push { cls:=.type "range",data:=.fields #[.int lo t,.int hi u,.int 1 v] }).objs.size],_,_,H,rfl,
    I1.kept (t':=tk) λb o e=>ay _ e,Ru _ lo (hi-lo).toNat,?_,λb hb=>?_,q⟩
  · have e1:lo+((0:Nat):Int)*1=lo:=by simp
    have e2:(((hi-lo).toNat:Nat):Int)-((0:Nat):Int)=ck.Range.rangeSize lo hi 1:=by rw[rangeSize_one];split<;>omega
    show IsRangeIter _ _ (lo+((0:Nat):Int)*1) ((((hi-lo).toNat:Nat):Int)-((0:Nat):Int)) 1
    rw[e1,e2]
    exact bo _ rfl
  · have e:b=(s.heap.push { cls:=.type "range",data:=.fields #[.int lo t,.int hi u,.int 1 v] }).objs.size:=by simpa using hb
    subst e
    exact I1.fpOk (ar _) (I1.hok.fresh (ar _))
def Bc (ta:TA):TI:=λσ H R=>ta σ H λvs H1=>∃j:Int,vs=[.int j]/\-(2 ^ 62)<=j/\j<2 ^ 62/\R (CY 0 j.toNat) H1
theorem RI {a:Expr}{ta:TA}{p pos:cG}(hg:Gl X "range")(hm:X.mg "range"=none)(ha:PA X [a] ta)(hs:aw [a] X.env=[(false,bS a X.env)]:=by rfl):PI X tg (.Call (.Name "range" p) [a] [] pos) (Bc ta):=by
 intro ah s σ H R I h
 refine Call_ (t7 I hg hm boot_range (cF (di (ha pos ah s σ H _ I h) λus s1 ⟨vs,H1,I1,r1,q1⟩=>?_) hs rfl))
 obtain⟨j,e,q1,q2,q⟩:=q1
 subst e
 cases r1 with
 |cons r rr=>
  cases rr
  obtain⟨t,rfl⟩:=r
  exact call_range_1 (Se I1 (by omega) (by omega) q1 q2 (by simpa using q))
def GQ (wi:TI)(g:TG)(tb:TS):TS:=λD σ H=>wi σ H λJ H1=>∃W:Nat->Nat->St->Hp->Prop,(∃m,W 0 m σ H1)/\∀i m σ H,W i m σ H ->
 (J.stop i H/\D.nx σ H)\/(J.go i H/\∃N:St->Hp->Prop,(∀σ' H',N σ' H'->∃m',m'<m/\W (i+1) m' σ' H')/\∀x H',J.yld i H x H'->g x σ H' λσ2 H2=>tb { D with nx:=N,ct:=N,bk:=D.nx } σ2 H2)
def kd (fp:List af)(h:aK):List (af×cP):=fp.filterMap λb=>(h.get? b).map λo=>(b,o)
theorem vw {fp:List af}{h:aK}{b:af}{o:cP}(hb:b∈fp)(e:h.get? b=some o):(b,o)∈kd fp h:=pz.mpr ⟨b,hb,by rw[e];rfl⟩
theorem RJ {fp:List af}{h:aK}{p:af×cP}(hp:p∈kd fp h):p.1∈fp/\h.get? p.1=some p.2:=by
 obtain⟨b,hb,e⟩:=pz.mp hp
 cases q:h.get? b with
 |none=>rw[q]at e;cases e
 |some o=>
  rw[q]at e
  have e':(b,o)=p:=Option.some.inj e
  subst e'
  exact⟨hb,q⟩
theorem Inv.pinned {ah:List (af×cP)}{σ:St}{H:Hp}{s:ao}{fp:List af}(I:Inv X ah σ H s)(hf:∀b∈fp,jO X ah H b)(ho:∀b∈fp,∃o,s.heap.get? b=some o/\∀v,o.data≠.cell v):Inv X (ah++kd fp s.heap) σ H s :=
 I.pins_of λp hp=>(aU.mp hp).elim (λz=>I.pin p (aE _ z)) λz=>by
  obtain⟨hb,e⟩:=RJ z
  obtain⟨f0,f1,f2,_⟩:=hf p.1 hb
  obtain⟨o,e',d⟩:=ho p.1 hb
  rw[e]at e';cases e'
  exact⟨e,f0,f1,f2,d⟩
theorem Inv.unpinned {ah pl:List (af×cP)}{σ:St}{H:Hp}{s:ao}(I:Inv X (ah++pl) σ H s):Inv X ah σ H s:=I.pins_of λp hp=>I.pin p (aE _ (aO _ hp))
theorem Vg {iter:Expr}{body:List cp}{wi:TI}{g:TG}{tb:TS}{pos:cG}(hp:cC (aV X.prog X.w) X.A X.env X.xe)(hc:X.calm=true)(hi:PI X tg iter wi)(hg:PG X tg g)(hb:oX X body tb)
  (hs:∀x,dB iter X.env x=pure x:=by intro _;rfl):PS X (.For tg iter body [] pos) (GQ wi g tb):=by
 intro ah s σ H D I h
 refine wpAny_For (di (hi ah s σ H _ I h) λv s1 h1=>di h1 λDv s2 h2=>?_) hs
 obtain⟨it,fp,tn,J,H2,e,I2,T,rP,f2,W,⟨m0,w0⟩,mU⟩:=h2
 subst e
 have lB:∀{H':Hp},(∀b∈fp,H' b=none)->∀b∈fp,jO X ah H' b:=λhn b hb=>⟨hn b hb,(f2 b hb).2⟩
 refine codeAny_forLoop_any (λn s'=>∃i σ' H',Inv X ah σ' H' s'/\tn i s'.heap/\(∀b∈fp,H' b=none)/\W i n σ' H') ?_ m0 ⟨0,σ,H2,I2,rP,λb hb=>(f2 b hb).1,w0⟩
 rintro n s3 ⟨i,σ3,H3,I3,JW,IR,w3⟩
 rcases mU i n σ3 H3 w3 with⟨stop,qn⟩|⟨go,N,hN,step⟩
 ·refine eD hp (di (T.done X rfl rfl rfl hc i ah s3 σ3 H3 X.xe I3 (lB IR) JW stop) λr s4 dk=>?_)
  obtain⟨hr,I4⟩:=dk
  subst hr
  exact i9 ⟨σ3,H3,I4,qn⟩
 ·refine eD hp (di (T.item X rfl rfl rfl hc i ah s3 σ3 H3 X.xe I3 (lB IR) JW go) λr s4 dk=>?_)
  obtain⟨u,hr,h4⟩:=dk
  subst hr
  refine eD hp (di h4 λ_ s5 dk=>?_)
  obtain⟨x,H5,I5,r5,y5,sM,vP⟩:=dk
  have MW:=I5.pinned (lB vP) (T.obj _ _ sM)
  refine eD hp (di (hg _ s5 σ3 H5 x u _ MW r5 (step x H5 y5)) λ_ s6 dk=>?_)
  obtain⟨σ6,H6,I6,q6⟩:=dk
  refine eD hp (di (hb _ s6 σ6 H6 _ I6 q6) λf s7 q7=>?_)
  have again:∀{σ7:St} {H7:Hp},Inv X (ah++kd fp s5.heap) σ7 H7 s7->N σ7 H7->∃m,m<n/\∃i σ' H',Inv X ah σ' H' s7/\tn i s7.heap/\(∀b∈fp,H' b=none)/\W i m σ' H':=λ{σ7 H7} I7 n7=>by
   obtain⟨m',hm,w7⟩:=hN σ7 H7 n7
   refine⟨m',hm,i+1,σ7,H7,I7.unpinned,T.keep _ _ _ sM λb hb o e=>(I7.pin (b,o) (aE _ (aE _ (vw hb e)))).1,λb hb=>?_,w7⟩
   obtain⟨o,e,d⟩:=T.obj _ _ sM b hb
   exact(I7.pin (b,o) (aE _ (aE _ (vw hb e)))).2.1
  cases f with
  |next=>obtain⟨σ7,H7,I7,n7⟩:=q7;exact again I7 n7
  |cont=>obtain⟨σ7,H7,I7,n7⟩:=q7;exact again I7 n7
  |brk=>obtain⟨σ7,H7,I7,q7⟩:=q7;exact⟨σ7,H7,I7.unpinned,q7⟩
  |ret v=>obtain⟨x7,σ7,H7,I7,r7,q7⟩:=q7;exact⟨x7,σ7,H7,I7.unpinned,r7,q7⟩
end
end L2
namespace L2
open PySem PySem.Spec PyProof.Rows
abbrev R2:=V->V->Hp->VK->Prop
def fU (X:Cx)(f:aa->aa->nj aa)(r:R2):Prop :=
 ∀(ah:List (af×cP)) (s:ao) (σ:St) (H:Hp) (x y:V) (v u:aa) (Q:VK),Inv X ah σ H s->RelV x v->RelV y u->r x y H Q ->
  aT (aV X.prog X.w) X.A (f v u) (EP X ah σ Q) X.xe s
def C0 (X:Cx)(f:aa->nj aa)(r:V->Hp->VK->Prop):Prop :=
 ∀(ah:List (af×cP)) (s:ao) (σ:St) (H:Hp) (x:V) (v:aa) (Q:VK),Inv X ah σ H s->RelV x v->r x H Q ->
  aT (aV X.prog X.w) X.A (f v) (EP X ah σ Q) X.xe s
def ez (X:Cx)(f:aa)(r:List V->Hp->VK->Prop):Prop :=
 ∀(ah:List (af×cP)) (s:ao) (σ:St) (H:Hp) (xs:List V) (us:List aa) (Q:VK),Inv X ah σ H s->bR xs us->r xs H Q ->
  aT (aV X.prog X.w) X.A (call f us) (EP X ah σ Q) X.xe s
def DB (r:R2)(ta tb:TE):TE:=λσ H Q=>ta σ H λx H1=>tb σ H1 λy H2=>r x y H2 Q
def Qh (r:V->Hp->VK->Prop)(ta:TE):TE:=λσ H Q=>ta σ H λx H1=>r x H1 Q
def rI (C:Int->Int->Prop)(g:Int->Int->V):R2:=λx y H Q=>∃i j,x=.int i/\y=.int j/\C i j/\Q (g i j) H
def nZ (g:Int->Int->V):R2:=λx y H Q=>∃i j,x=.int i/\y=.int j/\Q (g i j) H
def rU (g:Int->V):V->Hp->VK->Prop:=λx H Q=>∃i,x=.int i/\Q (g i) H
section
variable {X:Cx}{a b c:Expr}{ta tb tc:TE}{pos:cG}
theorem uO (ha:PE X a ta)(hb:PE X b tb){ah:List (af×cP)}{s:ao}{σ:St}{H:Hp}{R:V->V->Hp->Prop}(I:Inv X ah σ H s)
  (h:ta σ H λx H1=>tb σ H1 λy H2=>R x y H2) {Q:aa->ao->Prop} {f:aa->aa->nj aa}
  (hf:∀v u s2 x y H2,Inv X ah σ H2 s2->RelV x v->RelV y u->R x y H2->aT (aV X.prog X.w) X.A (f v u) Q X.xe s2) :
  aT (aV X.prog X.w) X.A (bS a X.env) (λv s₁=>aT (aV X.prog X.w) X.A (bS b X.env) (λu s₂=>aT (aV X.prog X.w) X.A (f v u) Q X.xe s₂) X.xe s₁) X.xe s:=by
 refine di (ha ah s σ H _ I h) λv s1 dk=>?_
 obtain⟨x,H1,I1,r1,q1⟩:=dk
 refine di (hb ah s1 σ H1 _ I1 q1) λu s2 dk=>?_
 obtain⟨y,H2,I2,r2,q2⟩:=dk
 exact hf v u s2 x y H2 I2 r1 r2 q2
theorem HU {op:iO}{r:R2}(ho:fU X (dQ op) r)(ha:PE X a ta)(hb:PE X b tb):PE X (.BinOp a op b pos) (DB r ta tb):=by
 intro ah s σ H Q I h
 exact wpAny_BinOp (uO ha hb I h λv u s2 x y H2 I2 rx ry q=>ho ah s2 σ H2 x y v u Q I2 rx ry q)
theorem Wf {op:UnaryOp}{r:V->Hp->VK->Prop}(ho:C0 X (unaryOp op) r)(ha:PE X a ta):PE X (.UnaryOp op a pos) (Qh r ta):=by
 intro ah s σ H Q I h
 exact UnaryOp_ (di (ha ah s σ H _ I h) λv s1 ⟨x,H1,I1,r1,q1⟩=>ho ah s1 σ H1 x v Q I1 r1 q1)
theorem xM {f:aa->aa->nj aa}{C:Int->Int->Prop}{g:Int->Int->Int}
  (rule:∀(i j:Int) (t u:Tok) (s:ao) (Q:aa->ao->Prop) (E:aa->ao->Prop),C i j->Q (.int (g i j) s.toks) { s with toks:=s.toks+1 }->aT (aV X.prog X.w) X.A (f (.int i t) (.int j u)) Q E s) :
  fU X f (rI C λi j=>.int (g i j)):=by
 intro ah s σ H x y v u Q I rx ry h
 obtain⟨i,j,rfl,rfl,hc,q⟩:=h
 obtain⟨t,rfl⟩:=rx
 obtain⟨t',rfl⟩:=ry
 exact rule i j t t' s _ _ hc ⟨.int (g i j),H,I.tok _,⟨_,rfl⟩,q⟩
theorem BI {f:aa->aa->nj aa}{g:Int->Int->Int}
  (rule:∀(i j:Int) (t u:Tok) (s:ao) (Q:aa->ao->Prop) (E:aa->ao->Prop),Q (.int (g i j) s.toks) { s with toks:=s.toks+1 }->aT (aV X.prog X.w) X.A (f (.int i t) (.int j u)) Q E s) :
  fU X f (nZ λi j=>.int (g i j)):=by
 intro ah s σ H x y v u Q I rx ry h
 obtain⟨i,j,rfl,rfl,q⟩:=h
 obtain⟨t,rfl⟩:=rx
 obtain⟨t',rfl⟩:=ry
 exact rule i j t t' s _ _ ⟨.int (g i j),H,I.tok _,⟨_,rfl⟩,q⟩
theorem sC {f:aa->aa->nj aa}{g:Int->Int->Bool}
  (rule:∀(i j:Int) (t u:Tok) (s:ao) (Q:aa->ao->Prop) (E:aa->ao->Prop),Q (.bool (g i j)) s->aT (aV X.prog X.w) X.A (f (.int i t) (.int j u)) Q E s) :
  fU X f (nZ λi j=>.bl (g i j)):=by
 intro ah s σ H x y v u Q I rx ry h
 obtain⟨i,j,rfl,rfl,q⟩:=h
 obtain⟨t,rfl⟩:=rx
 obtain⟨t',rfl⟩:=ry
 exact rule i j t t' s _ _ ⟨.bl (g i j),H,I,rfl,q⟩
def rS (i j:Int):Prop:=0<=j/\j<=1000000/\i.natAbs<2 ^ 64
def uF (i j:Int):Prop:=(-(2 ^ 64)<i/\i<2 ^ 64)\/(-(2 ^ 64)<j/\j<2 ^ 64)
theorem uF.ok {i j:Int}(h:uF i j):IntMulOk i j:=by
 rcases h with⟨h1,h2⟩|⟨h1,h2⟩
 ·exact .of_left (intBits_le_64 h1 h2)
 ·exact .of_right (intBits_le_64 h1 h2)
theorem Rj (k:Nat):(0:Int)<=2 ^ k:=by
 rw[two_pow_cast]
 exact Int.natCast_nonneg _
theorem Vh:fU X (dQ .Add) (nZ λi j=>.int (i+j)):=BI λ_ _ _ _ _ _ _ q=>add_int q
theorem xT:fU X (dQ .Sub) (nZ λi j=>.int (i-j)):=BI λ_ _ _ _ _ _ _ q=>sub_int q
theorem xh:fU X (dQ .Mod) (rI (λ_ j=>j≠0) λi j=>.int (i.fmod j)):=xM λ_ _ _ _ _ _ _ hc q=>mod_int' hc q
theorem Vi:fU X (dQ .Pow) (rI rS λi j=>.int (i ^ j.toNat)):=xM λ_ _ _ _ _ _ _ hc q=>pow_int_small hc.1 hc.2.1 hc.2.2 q
theorem Vj:fU X (dQ .LShift) (rI rS λi j=>.int (i*2 ^ j.toNat)):=xM λ_ _ _ _ _ _ _ hc q=>lshift_int_small hc.1 hc.2.1 hc.2.2 q
theorem Mb:fU X (dQ .RShift) (rI (λ_ j=>0<=j) λi j=>.int (i/2 ^ j.toNat)):=xM λi j _ _ _ _ _ hc q=>
 rshift_int hc (by rw[lS i (Rj _)];exact q)
theorem Qo {f:aa->nj aa}{g:Int->Int}
  (rule:∀(i:Int) (t:Tok) (s:ao) (Q:aa->ao->Prop) (E:aa->ao->Prop),Q (.int (g i) s.toks) { s with toks:=s.toks+1 }->aT (aV X.prog X.w) X.A (f (.int i t)) Q E s) :
  C0 X f (rU λi=>.int (g i)):=by
 intro ah s σ H x v Q I rx h
 obtain⟨i,rfl,q⟩:=h
 obtain⟨t,rfl⟩:=rx
 exact rule i t s _ _ ⟨.int (g i),H,I.tok _,⟨_,rfl⟩,q⟩
theorem Vk:C0 X (unaryOp .USub) (rU λi=>.int (-i)):=Qo λ_ _ _ _ _ q=>neg_int q
end
section
variable {X:Cx}{a b c:Expr}{ta tb tc:TE}{pos:cG}
theorem D8 {ah:List (af×cP)}{σ:St}{H:Hp}{s:ao}{Q:VK}{k k':Bool}(I:Inv X ah σ H s)(q:Q (.bl k) H)(e:k=k'):EP X ah σ Q (.bool k') s:=by
 subst e
 exact⟨.bl k,H,I,rfl,q⟩
theorem CQ:fU X (cx .Lt) (nZ λi j=>.bl (decide (i<j))):=sC λ_ _ _ _ _ _ _ q=>lt_int q
theorem Wg:fU X (cx .LtE) (nZ λi j=>.bl (decide (i<=j))):=sC λ_ _ _ _ _ _ _ q=>le_int q
theorem uB:fU X (cx .Gt) (nZ λi j=>.bl (decide (j<i))):=sC λ_ _ _ _ _ _ _ q=>gt_int q
theorem Wi:fU X (cx .GtE) (nZ λi j=>.bl (decide (j<=i))):=sC λ_ _ _ _ _ _ _ q=>ge_int q
theorem Vl:fU X (cx .Is) (λx y H Q=>y=.non/\Q (.bl (decide (x=.non))) H):=by
 intro ah s σ H x y v u Q I rx ry h
 obtain⟨rfl,q⟩:=h
 cases ry
 refine is_none_gen (D8 I q ?_)
 cases x<;>first
  |(cases rx;rfl)
  |(obtain⟨t,rfl⟩:=rx;rfl)
theorem TU:fU X (cx .IsNot) (λx y H Q=>y=.non/\Q (.bl (!decide (x=.non))) H):=by
 intro ah s σ H x y v u Q I rx ry h
 obtain⟨rfl,q⟩:=h
 cases ry
 refine isnot_none_gen (D8 I q ?_)
 cases x<;>first
  |(cases rx;rfl)
  |(obtain⟨t,rfl⟩:=rx;rfl)
theorem fU.or {f:aa->aa->nj aa}{r r':R2}(h:fU X f r)(h':fU X f r'):fU X f (λx y H Q=>r x y H Q\/r' x y H Q):=by
 intro ah s σ H x y v u Q I rx ry q
 rcases q with q|q
 ·exact h ah s σ H x y v u Q I rx ry q
 ·exact h' ah s σ H x y v u Q I rx ry q
theorem bL (b:Expr){op:kF}(h:op≠.In:=by decide)(h2:op≠.NotIn:=by decide):dG op b=false:=by
 have e1:(op==kF.In)=false:=by cases op<;>first|rfl|exact absurd rfl h
 have e2:(op==kF.NotIn)=false:=by cases op<;>first|rfl|exact absurd rfl h2
 cases b<;>simp[dG,e1,e2]
theorem TV {op:kF}{r:R2}(ho:fU X (cx op) r)(ha:PE X a ta)(hb:PE X b tb)(hm:dG op b=false):PE X (.Compare a [op] [b] pos) (DB r ta tb):=by
 intro ah s σ H Q I h
 exact wpAny_Compare1 (uO ha hb I h λv u s2 x y H2 I2 rx ry q=>ho ah s2 σ H2 x y v u Q I2 rx ry q) hm
def Cv (t:TE):TT:=λσ H Q=>t σ H λx H'=>∃k,x=.bl k/\Q k H'
theorem TX {op:kF}{r:R2}(ho:fU X (cx op) r)(ha:PE X a ta)(hb:PE X b tb)(hm:dG op b=false):PT X (.Compare a [op] [b] pos) (Cv (DB r ta tb)):=by
 intro ah s σ H Q I h
 refine wpAny_isTrue_Compare1 (di (ha ah s σ H _ I h) λv s1 ⟨x,H1,I1,r1,q1⟩=>di (hb ah s1 σ H1 _ I1 q1) λu s2 ⟨y,H2,I2,r2,q2⟩=>
  di (ho ah s2 σ H2 x y v u _ I2 r1 r2 q2) λc s3 ⟨z,H3,I3,r3,k,e,q3⟩=>?_) hm
 subst e
 cases r3
 exact eL ⟨H3,I3,q3⟩
theorem jG:(sizeLine:Nat)<2 ^ 63:=by rw[cr];decide
theorem Rk:fU X (dQ .Add) (λx y H Q=>∃i j,x=.str i/\y=.str j/\i.length+j.length<=sizeLine/\Q (.str (i++j)) H):=by
 intro ah s σ H x y v u Q I rx ry h
 obtain⟨i,j,rfl,rfl,hz,q⟩:=h
 obtain⟨t,rfl⟩:=rx
 obtain⟨t',rfl⟩:=ry
 exact add_str (λt' tk=>⟨.str (i++j),H,I.tok _,⟨_,rfl⟩,q⟩) hz
theorem mr {x:V}{us:List aa}(r:bR [x] us):∃u,us=[u]/\RelV x u:=by
 cases r with
 |cons r1 r2=>cases r2;exact⟨_,rfl,r1⟩
theorem vals2 {x y:V}{us:List aa}(r:bR [x,y] us):∃u w',us=[u,w']/\RelV x u/\RelV y w':=by
 cases r with
 |cons r1 r2=>
  cases r2 with
  |cons r3 r4=>cases r4;exact⟨_,_,rfl,r1,r3⟩
theorem jh (hc:X.calm=true):ez X (.builtin "max") (λxs H Q=>∃i j,xs=[.int i,.int j]/\Q (.int (if j > i then j else i)) H):=by
 intro ah s σ H xs us Q I r h
 obtain⟨i,j,rfl,q⟩:=h
 obtain⟨u,w',rfl,⟨t,rfl⟩,⟨t',rfl⟩⟩:=vals2 r
 refine max_two_ints (I.ok.hd hc) λh' tk k=>⟨_,H,I.kept k,?_,q⟩
 by_cases hj:j > i
 ·rw[if_pos hj,if_pos hj];exact⟨_,rfl⟩
 ·rw[if_neg hj,if_neg hj];exact⟨_,rfl⟩
theorem RK (hc:X.calm=true):ez X (.builtin "min") (λxs H Q=>∃i j,xs=[.int i,.int j]/\Q (.int (if j<i then j else i)) H):=by
 intro ah s σ H xs us Q I r h
 obtain⟨i,j,rfl,q⟩:=h
 obtain⟨u,w',rfl,⟨t,rfl⟩,⟨t',rfl⟩⟩:=vals2 r
 refine min_two_ints (I.ok.hd hc) λh' tk k=>⟨_,H,I.kept k,?_,q⟩
 by_cases hj:j<i
 ·rw[if_pos hj,if_pos hj];exact⟨_,rfl⟩
 ·rw[if_neg hj,if_neg hj];exact⟨_,rfl⟩
end
end L2
namespace L2
open PySem PySem.Spec PyProof.Rows
structure oy (h:aK)(x dx C:af)(mA:aR->Option aa):Prop where
 obj:h.get? x=some (dI C dx)
 ns:h.Ns1 dx mA
 ne:dx≠x
theorem RL {h:aK}{dx:af}{mA:aR->Option aa}(n:h.Ns1 dx mA):∃od,h.get? dx=some od/\∀name,iE name od=some (mA name):=by
 obtain⟨o,es,ep,ho,hd,hk,_,hm⟩:=n
 refine⟨o,ho,λname=>?_⟩
 have e:=hm name
 unfold nsFind findBy at e
 rw[←Array.find?_toList]at e
 unfold iE
 rw[hd]
 dsimp only
 split
 ·rename_i y q
  rw[q]at e
  exact congrArg some e
 ·rename_i q
  rw[q]at e
  have a:es.toList.any (·.refKey)=false:=by
   rw[List.any_eq_false]
   intro y hy
   obtain⟨z,t,FT⟩:=hk y (iN.mp hy)
   simp[DictEntry.refKey,FT]
  have a':¬es.toList.any (·.refKey)=true:=by rw[a];exact aY
  rw[if_neg a']
  exact congrArg some e
theorem oy.look {h:aK}{x dx C:af}{mA:aR->Option aa}(I:oy h x dx C mA):∃od,PySem.W.InstAt h x (dI C dx) C (some od)/\∀name,iE name od=some (mA name) :=
 let⟨od,ho,hl⟩:=RL I.ns
 ⟨od,⟨I.obj,rfl,rfl,ho⟩,hl⟩
section
variable {prog:bb}{w:bG}{A:bz}{E:aa->ao->Prop}{s:ao}{K:ae}{x dx C f:af}{mA:aR->Option aa}{name:aR}{v:aa}
theorem TY {expr:Bool}{Q:aa->ao->Prop}(X:K.In s.heap)(I:oy s.heap x dx C mA)(hg:cZ K C name=true)(hh:cN K C=true)
  (ha:av K (.ref C) name=some none) (hv:mA name=some v) (Gg:oW v=true) (h:Q v { s with toks:=s.toks+1 }) :
  aT (aV prog w) A (getAttr (.ref x) name expr) Q E s:=by
 obtain⟨od,J,hl⟩:=I.look
 exact PySem.W.get_value X J (iR hg).1 (PySem.W.findObj_own hh ha rfl (by rw[hl,hv])) Gg h
theorem Sy {pl:nj Bool}{Q:aa×List aa->ao->Prop}(X:K.In s.heap)(I:oy s.heap x dx C mA)(hg:cZ K C name=true)
  (hf:av K (.ref C) name=some (some (.ref f))) (ht:dr K (.ref f)=true) (hv:mA name=none) (h:Q (.ref f,[.ref x]) s) :
  aT (aV prog w) A (gr (.ref x) name pl) Q E s:=by
 obtain⟨od,J,hl⟩:=I.look
 exact PySem.W.method_fn X J (iR hg).1 (iR hg).2 hf (beq_iff_eq.mp ht) (by show(iE name od).map (·.isSome)=some false;rw[hl,hv];rfl) h
theorem TZ {ns:List aR}{Q:Unit->ao->Prop}(X:K.In s.heap)(I:oy s.heap x dx C mA)
  (hs:av K (.ref C) "__setattr__"=some (some (.builtin "object.__setattr__"))) (hp:dN K C=true) (ht:ko K C name=some none) (hh:cN K C=true)
  (hw:PySem.Within mA ns) (hsz:ns.length<=sizeLine)
  (h:∀h',oy h' x dx C (λy=>if y=name then some v else mA y)->d6 dx s.heap h'->Q () { s with heap:=h',toks:=s.toks+2 }) :
  aT (aV prog w) A (setAttr (.ref x) name v) Q E s:=by
 obtain⟨od,J,hl⟩:=I.look
 refine PySem.W.set_plain X J hs (PySem.W.osa_open (s:={ s with toks:=s.toks+1 }) (r:=none) X J hp ht λb=>?_)
 obtain⟨cd,hc,nz⟩:=PySem.W.any_some hh
 have hx:s.heap.get? x=some ⟨.ref C,some dx,.plain,#[]⟩:=I.obj
 refine ak (aq (ak (ak (wpAny_loadPart hx (ak (PySem.W.Looks.here (s:={ s with toks:=s.toks+1 }) (PySem.W.looks_clsIn X hc) ?_))))))
 rw[nz]
 refine aq (a:=some dx) (ak (aq (ak ?_)))
 refine wpAny_nsSet1 (s:={ s with toks:=s.toks+1 }) I.ns λh' tL qP=>?_
 obtain⟨oD,WH,WG,Oh,NR,NP⟩:=tL.count (PySem.Within.cons name v hw)
 refine ak (wpAny_lookBehind Oh (by rw[NR];exact pastItsLine_dict (cm NP (by rw[aP];omega))) ?_)
 exact aq (h _ ⟨(qP.2 _ (Ne.symm I.ne)).trans I.obj,tL,I.ne⟩ qP)
theorem SA {R:Result->ao->Prop}{vs:List aa}{kw:List (aR×aa)}(X:K.In s.heap)(hm:dJ K C=true)
  (hi:av K (.ref C) "__init__"=some (some (.ref f))) (hf:PySem.W.typeIn K (.ref f)=some (.type "function"))
  (h:gL (aV prog w) (A.under (.builtin "type.__call__" ⟨.ref C::vs,kw⟩)) (.call (.ref f) ⟨.ref (s.heap.objs.size+1)::vs,kw⟩) (PySem.W.InitBack (s.heap.objs.size+1) R)
   { s with heap:=(s.heap.push cM).push (dI C s.heap.objs.size) }) :
  gL (aV prog w) A (.call (.ref C) ⟨vs,kw⟩) R s:=by
 obtain⟨hh,g,d,t,os⟩:=s
 exact PySem.W.make_core (PySem.W.makes_of X hm) (PySem.W.looks_findIn X hi) (λself=>PySem.W.bind_fn X self hf) (.inl rfl) h
end
def iy (f:aR)(v:V):List (aR×V)->List (aR×V)
 |[]=>[(f,v)]
 |(g,x)::r=>if g=f then(g,v)::r else(g,x)::iy f v r
theorem Ki (f g:aR)(v:V):∀fs:List (aR×V),(iy f v fs).lookup g=if g=f then some v else fs.lookup g
 |[]=>by
  show fW g [(f,v)]=_
  by_cases h:g=f
  ·have hb:(g==f)=true:=beq_iff_eq.mpr h
   simp only[fW,hb,if_pos h]
  ·have hb:(g==f)=false:=beq_eq_false_iff_ne.mpr h
   simp only[fW,hb,if_neg h]
 |(k,x)::r=>by
  have ih:=Ki f g v r
  rw[show iy f v ((k,x)::r)=(if k=f then(k,v)::r else(k,x)::iy f v r)from rfl]
  by_cases hk:k=f
  ·rw[if_pos hk]
   by_cases h:g=k
   ·have hb:(g==k)=true:=beq_iff_eq.mpr h
    simp only[fW,hb,if_pos (h.trans hk)]
   ·have hb:(g==k)=false:=beq_eq_false_iff_ne.mpr h
    simp only[fW,hb,if_neg (λe:g=f=>h (e.trans hk.symm))]
  ·rw[if_neg hk]
   by_cases h:g=k
   ·have hb:(g==k)=true:=beq_iff_eq.mpr h
    simp only[fW,hb,if_neg (λe:g=f=>hk (h.symm.trans e))]
   ·have hb:(g==k)=false:=beq_eq_false_iff_ne.mpr h
    simp only[fW,hb]
    exact ih
theorem G7 (f:aR)(v:V):∀fs:List (aR×V),f∈(iy f v fs).map (·.1)/\∀g,g∈fs.map (·.1)->g∈(iy f v fs).map (·.1)
 |[]=>⟨by simp[iy],λg h=>by simp at h⟩
 |(k,x)::r=>by
  obtain⟨i1,i2⟩:=G7 f v r
  rw[show iy f v ((k,x)::r)=(if k=f then(k,v)::r else(k,x)::iy f v r)from rfl]
  by_cases hk:k=f
  ·rw[if_pos hk]
   subst hk
   exact⟨by simp,λg h=>by simpa using h⟩
  ·rw[if_neg hk]
   refine⟨?_,λg h=>?_⟩
   ·rw[bC]
    exact ap _ i1
   ·rw[bC]at h ⊢
    rcases aA.mp h with e|e
    ·exact aA.mpr (.inl e)
    ·exact ap _ (i2 g e)
theorem Kj (f:aR)(v:V):∀fs:List (aR×V),(iy f v fs).length<=fs.length+1
 |[]=>by simp[iy]
 |(k,x)::r=>by
  have ih:=Kj f v r
  rw[show iy f v ((k,x)::r)=(if k=f then(k,v)::r else(k,x)::iy f v r)from rfl]
  by_cases hk:k=f
  ·rw[if_pos hk,aP,aP];omega
  ·rw[if_neg hk,aP,aP];omega
theorem iW.some_of {v:V}{o:Option aa}(r:iW (some v) o):∃u,o=some u/\RelV v u:=by
 cases o with
 |none=>exact(show False from r).elim
 |some u=>exact⟨u,rfl,r⟩
theorem iW.none_of {o:Option aa}(r:iW none o):o=none:=by
 cases o with
 |none=>rfl
 |some u=>exact(show False from r).elim
theorem RM {v:V}{u:aa}(r:RelV v u):oW u=true:=by
 cases v with
 |non=>cases(show u=aa.none from r);rfl
 |bl b=>cases(show u=aa.bool b from r);rfl
 |int i=>obtain⟨t,e⟩:=(show∃t,u=aa.int i t from r);cases e;rfl
 |str x=>obtain⟨t,e⟩:=(show∃t,u=aa.str x t from r);cases e;rfl
 |byt b=>obtain⟨t,e⟩:=(show∃t,u=aa.bytes b t from r);cases e;rfl
 |flt b=>obtain⟨t,e⟩:=(show∃t,u=aa.float b t from r);cases e;rfl
 |ref a=>cases(show u=aa.ref a from r);rfl
 |ty n=>cases(show u=aa.type n from r);rfl
section
variable {P:bb}{w:bG}{H H':Hp}{h h':aK}{a C dx:af}{fs Nv:List (aR×V)}
theorem DY (hok:jC P w H h)(e:H a=some (.ins C dx fs)):∃mA,oy h a dx C mA/\(∀f,iW (fs.lookup f) (mA f))/\PySem.Within mA (fs.map (·.1))/\fs.length<=1000/\H dx=some (.own a):=by
 obtain⟨d,z,ne,ob,mA,n,r,q⟩:=(show dA P w H h a (.ins C dx fs)from hok a _ e)
 exact⟨mA,⟨ob,n,ne⟩,r,q,z,d⟩
end
structure kX (K:ae)(C:af):Prop where
 pg:cZ K C aR.empty=true
 hd:cN K C=true
 po:dN K C=true
 sa:av K (.ref C) "__setattr__"=some (some (.builtin "object.__setattr__"))
theorem kX.get {K:ae}{C:af}(c:kX K C)(f:aR):cZ K C f=true:=c.pg
def e8 (K:ae)(C:af)(f:aR):Prop:=av K (.ref C) f=some none
theorem e8.taker {K:ae}{C:af}{f:aR}(n:e8 K C f):ko K C f=some none:=by
 unfold ko
 rw[show av K (.ref C) f=some none from n]
 rfl
structure ou (K:ae)(C:af)(m:aR)(f:af):Prop where
 at_:av K (.ref C) m=some (some (.ref f))
 fn:dr K (.ref f)=true
 kp:ax K (.ref f)=true
section
variable {X:Cx}{ah:List (af×cP)}{σ:St}{H:Hp}{s:ao}{a C dx:af}{fs:List (aR×V)}{f:aR}{v:V}{A:bz}{E:aa->ao->Prop}
theorem Rl {b:Bool}{Q:aa->ao->Prop}(I:Inv X ah σ H s)(e:H a=some (.ins C dx fs))(c:kX X.K C)(n:e8 X.K C f)(l:fs.lookup f=some v)
  (h:∀u s',Inv X ah σ H s'->RelV v u->Q u s'):aT (aV X.prog X.w) A (getAttr (.ref a) f b) Q E s:=by
 obtain⟨mA,O,r,_,_,_⟩:=DY I.hok e
 obtain⟨u,hu,ru⟩:=iW.some_of (v:=v) (o:=mA f) (by rw[←l];exact r f)
 exact TY I.kIn O (c.get f) c.hd n hu (RM ru) (h u _ (I.tok _) ru)
theorem G3 {m:aR}{g:af}{pl:nj Bool}{Q:aa×List aa->ao->Prop}(I:Inv X ah σ H s)(e:H a=some (.ins C dx fs))(c:kX X.K C)(k:ou X.K C m g)(l:fs.lookup m=none)
  (h:Q (.ref g,[.ref a]) s):aT (aV X.prog X.w) A (gr (.ref a) m pl) Q E s:=by
 obtain⟨mA,O,r,_,_,_⟩:=DY I.hok e
 have hn:mA m=none:=iW.none_of (by rw[←l];exact r m)
 exact Sy I.kIn O (c.get m) k.at_ k.fn hn h
theorem Rm {y:V}{u:aa}{Q:Unit->ao->Prop}(I:Inv X ah σ H s)(e:H a=some (.ins C dx fs))(c:kX X.K C)(n:e8 X.K C f)(hl:fs.length<1000)(ry:RelV y u)
  (h:∀s',Inv X ah σ (upd H a (.ins C dx (iy f y fs))) s'->Q () s'):aT (aV X.prog X.w) A (setAttr (.ref a) f u) Q E s:=by
 obtain⟨mA,O,r,wi,_,ho⟩:=DY I.hok e
 have hz:(fs.map (·.1)).length<=sizeLine:=by rw[aD,cr];omega
 refine TZ I.kIn O c.sa c.po n.taker c.hd wi hz λh' O' sb=>h _ ?_
 have hd:∃o,h'.get? dx=some o:=let⟨o,_,_,e',_⟩:=O'.ns;⟨o,e'⟩
 refine I.write (x:=a) (e:=dx) (by rw[e];exact True.intro) (.inr ho) (λb q hb z=>(sb.2 b hb).trans z) hd ?_
 refine⟨by rw[zt O.ne];exact ho,?_,O.ne,O'.obj,_,O'.ns,λg=>?_,λg hg=>?_⟩
 ·have:=Kj f y fs;omega
 ·show iW ((iy f y fs).lookup g) (if g=f then some u else mA g)
  rw[Ki]
  by_cases q:g=f
  ·rw[if_pos q,if_pos q];exact ry
  ·rw[if_neg q,if_neg q];exact r g
 ·by_cases q:g=f
  ·rw[q];exact(G7 f y fs).1
  ·refine(G7 f y fs).2 g (wi g λz=>hg ?_)
   show(if g=f then some u else mA g)=none
   rw[if_neg q];exact z
theorem Inv.made (I:Inv X ah σ H s):Inv X ah σ (upd (upd H s.heap.objs.size (.own (s.heap.objs.size+1))) (s.heap.objs.size+1) (.ins C s.heap.objs.size []))
  { s with heap:=(s.heap.push cM).push (dI C s.heap.objs.size) }:=by
 have e1:(s.heap.push cM).get? s.heap.objs.size=some cM:=bo s.heap rfl
 have e2:((s.heap.push cM).push (dI C s.heap.objs.size)).get? (s.heap.objs.size+1)=some (dI C s.heap.objs.size):=by
  have:=bo (s.heap.push cM) (o:=dI C s.heap.objs.size) rfl
  rwa[fx]at this
 have e3:(s.heap.push cM).Ns s.heap.objs.size (λ_=>none):=⟨cM,#[],_,e1,rfl,(λe he=>absurd he (by simp)),λ_=>rfl⟩
 have I1:=I.laid (a:=s.heap.objs.size) (o:=.own (s.heap.objs.size+1)) (h':=s.heap.push cM) (t':=s.toks) (λb u q=>ay _ q) (ar _) ⟨_,e1⟩
 refine I1.laid (a:=s.heap.objs.size+1) (o:=.ins C s.heap.objs.size []) (t':=s.toks) (λb u q=>ay _ q) (nN (fx _ _)) ?_
 have ne:s.heap.objs.size≠s.heap.objs.size+1:=aZ (ig _)
 refine⟨by rw[zt ne,zw],cw _,ne,e2,λ_=>none,(aK.Ns1.of_empty e3).at λo q=>ay _ q,λ_=>True.intro,λy hy=>absurd rfl hy⟩
theorem T1 {prog:bb}{w:bG}{env:Env}{e:Expr}{f:aR}{pos:cG}{s:ao}{Q:aa->ao->Prop}(hb:e9 e f env (bS e env)=bS e env)
  (h:aT (aV prog w) A (bS e env) (λo s₁=>aT (aV prog w) A (getAttr o f true) Q E s₁) E s):aT (aV prog w) A (bS (.Attribute e f pos) env) Q E s :=
 Attribute_any_ h (by rw[arm_eval_Attribute,hb])
end
def GP (K:ae)(ta:TE)(f:aR):TE:=λσ H Q=>ta σ H λx H1=>∃a C dx fs v,x=.ref a/\H1 a=some (.ins C dx fs)/\kX K C/\e8 K C f/\fs.lookup f=some v/\Q v H1
def GI (K:ae)(ta tv:TE)(f:aR):TS:=λD σ H=>tv σ H λy H1=>ta σ H1 λx H2=>∃a C dx fs,x=.ref a/\H2 a=some (.ins C dx fs)/\kX K C/\e8 K C f/\fs.length<1000 /\
 D.nx σ (upd H2 a (.ins C dx (iy f y fs)))
section
variable {X:Cx}{o e value:Expr}{f:aR}{pos pos' fD:cG}{ta tv:TE}
theorem Vm (he:PE X e ta)(hb:e9 e f X.env (bS e X.env)=bS e X.env):PE X (.Attribute e f pos) (GP X.K ta f):=by
 intro ah s σ H Q I h
 refine T1 hb (di (he ah s σ H _ I h) λu s1 dk=>?_)
 obtain⟨x,H1,I1,rx,a,C,dx,fs,v,ex,ea,c,n,l,q⟩:=dk
 subst ex
 obtain rfl:u=aa.ref a:=rx
 exact Rl I1 ea c n l λu' s2 I2 ru=>⟨v,H1,I2,ru,q⟩
theorem Vn (ha:PE X o ta)(hv:PE X value tv)(hs:eE value (some (.Attribute o f pos')) pos.line X.env=pure false):PS X (.Assign [.Attribute o f pos'] value pos) (GI X.K ta tv f):=by
 intro ah s σ H D I h
 refine plainObj_wpAny_Assign_Attribute (di (hv ah s σ H _ I h) λu s1 ⟨y,H1,I1,ry,q⟩=>di (ha ah s1 σ H1 _ I1 q) λov s2 ⟨x,H2,I2,rx,a,C,dx,fs,ex,ea,c,n,l,q2⟩=>?_) hs
 subst ex
 obtain rfl:ov=aa.ref a:=rx
 exact Rm I2 ea c n l ry λs3 I3=>⟨σ,_,I3,q2⟩
def wL:V->V->Hp->VK->Prop:=λx y H Q=>∃i j,x=.int i/\y=.int j/\Q (.int (i+j)) H
theorem XZ {pl:nj Bool}{m:aR}{dE:cG}{args:List Expr}{ah:List (af×cP)}{s:ao}{σ:St}{H:Hp}{Q:aa->ao->Prop}{te:TE}(he:PE X e te)(I:Inv X ah σ H s)
  (h:te σ H λx H1=>∃a C dx fs g,x=.ref a/\H1 a=some (.ins C dx fs)/\kX X.K C/\ou X.K C m g/\fs.lookup m=none /\
   ∀s1,Inv X ah σ H1 s1->aT (aV X.prog X.w) X.A (iP pos (.ref g) [.ref a] (cD pos (aw args X.env)) (fk pos (dH [] X.env))) Q X.xe s1)
  (ht:bS (.Call (.Attribute e m dE) args [] pos) X.env=(do
   let ov ← bS e X.env
   fT dE.atName
   let(f,first) ← dm [ov] (gr ov m pl)
   iP pos f first (cD pos (aw args X.env)) (fk pos (dH [] X.env)))) :
  aT (aV X.prog X.w) X.A (bS (.Call (.Attribute e m dE) args [] pos) X.env) Q X.xe s:=by
 refine fC (pl:=pl) (di (he ah s σ H _ I h) λu s1 ⟨x,H1,I1,rx,a,C,dx,fs,g,ex,ea,c,k,l,q⟩=>?_) ht
 subst ex
 obtain rfl:u=aa.ref a:=rx
 exact G3 I1 ea c k l (q s1 I1)
end
section
variable {X:Cx}{ah:List (af×cP)}{σ:St}{H:Hp}{s:ao}{A:bz}{E:aa->ao->Prop}{Q:aa->ao->Prop}{c:aa}{b:Bool}
inductive jF (K:ae)(H:Hp):V->aa->Prop where
 |non:jF K H .non (.type "NoneType")
 |bl (x:Bool):jF K H (.bl x) (.type "bool")
 |int (i:Int):jF K H (.int i) (.type "int")
 |str (x:aR):jF K H (.str x) (.type "str")
 |flt (x:UInt64):jF K H (.flt x) (.type "float")
 |lst {a:af} {xs:List V} (e:H a=some (.lst xs)):jF K H (.ref a) (.type "list")
 |frz {a:af} {o:cP} {xs:List V} (e:H a=some (.frz o (.lst xs))):jF K H (.ref a) (.type "list")
 |tup {a:af} {xs:List V} (e:H a=some (.tup xs)):jF K H (.ref a) (.type "tuple")
 |dK {a:af} {bT:List (dw×V)} (e:H a=some (.dK bT)):jF K H (.ref a) (.type "dict")
 |dT {a:af} {bT:List (List dw×V)} (e:H a=some (.dT bT)):jF K H (.ref a) (.type "dict")
 |ins {a C dx:af} {fs:List (aR×V)} (e:H a=some (.ins C dx fs)) (cl:kX K C) (ha:av K (.ref C) "__class__"=some (some (.builtin "object.__class__")))
   (hn:dg K (.builtin "object.__class__") "__get__"=some (some (.builtin "getset_descriptor.__get__"))) (Jl:hG K (.builtin "object.__class__")=some true)
   (hm:dS K C (.type "object")=some true):jF K H (.ref a) (.ref C)
theorem KD {x:V}{u t:aa}(I:Inv X ah σ H s)(rx:RelV x u)(ty:jF X.K H x t)(e:bJ X.K t c=some b)(h:∀tk,Q (.bool b) { s with toks:=tk }) :
  aT (aV X.prog X.w) A (call (.builtin "isinstance") [u,c]) Q E s:=by
 cases ty with
 |non=>cases(show u=aa.none from rx);exact cu PySem.W.kitx_none I.kIn True.intro e (λz=>nomatch z) h
 |bl y=>cases(show u=aa.bool y from rx);exact cu PySem.W.kitx_bool I.kIn True.intro e (λz=>nomatch z) h
 |int i=>obtain⟨t,q⟩:=(show∃t,u=aa.int i t from rx);cases q;exact cu PySem.W.kitx_int I.kIn True.intro e (λz=>nomatch z) h
 |str y=>obtain⟨t,q⟩:=(show∃t,u=aa.str y t from rx);cases q;exact cu PySem.W.kitx_str I.kIn True.intro e (λz=>nomatch z) h
 |flt y=>obtain⟨t,q⟩:=(show∃t,u=aa.float y t from rx);cases q;exact cu PySem.W.kitx_float I.kIn True.intro e (λz=>nomatch z) h
 |@lst a xs ea=>
  cases(show u=aa.ref a from rx)
  obtain⟨_,_,n,_,h1⟩:=(show dA X.prog X.w H s.heap a (.lst xs)from I.hok a _ ea)
  exact cu jH I.kIn ⟨_,h1,rfl⟩ e (λz=>nomatch z) h
 |@frz a ob xs ea=>
  cases(show u=aa.ref a from rx)
  obtain⟨_,_,_,n,_,h1⟩:=(show dA X.prog X.w H s.heap a (.frz ob (.lst xs))from I.hok a _ ea)
  exact cu jH I.kIn ⟨_,h1,rfl⟩ e (λz=>nomatch z) h
 |@tup a xs ea=>
  cases(show u=aa.ref a from rx)
  obtain⟨_,_,_,p⟩:=(show dA X.prog X.w H s.heap a (.tup xs)from I.hok a _ ea)
  obtain⟨o,h1,h2,_⟩:=p
  exact cu PySem.W.kitx_tuple I.kIn ⟨o,h1,h2⟩ e (λz=>nomatch z) h
 |@dK a bT ea=>
  cases(show u=aa.ref a from rx)
  obtain⟨_,_,vs,_,p⟩:=(show dA X.prog X.w H s.heap a (.dK bT)from I.hok a _ ea)
  obtain⟨o,es,ep,h1,h2,_⟩:=p
  exact cu n9 I.kIn ⟨o,h1,h2.1⟩ e (λz=>nomatch z) h
 |@dT a bT ea=>
  cases(show u=aa.ref a from rx)
  obtain⟨_,_,xs,_,o,es,ep,h1,h2,_⟩:=(show dA X.prog X.w H s.heap a (.dT bT)from I.hok a _ ea)
  exact cu n9 I.kIn ⟨o,h1,h2.1⟩ e (λz=>nomatch z) h
 |@ins a C dx fs ea cl ha hn Jl hm=>
  cases(show u=aa.ref a from rx)
  obtain⟨mA,O,_⟩:=DY I.hok ea
  obtain⟨od,J,_⟩:=O.look
  exact cu (PySem.W.kitx_own (cl.get _) cl.hd ha hn Jl hm) I.kIn J e (λz=>nomatch z) h
end
end L2
namespace L2
open PySem PySem.Spec PyProof.Rows
structure ed (k:Nat)(A:bz):Prop where
 hd:A.handled=none
 dp:A.depth+3*k+5<recursionLimit
 un:A.units+16*k+200<gQ
 gd:A.guards=some []
theorem ed.mono {j k:Nat}{A:bz}(r:ed k A)(h:j<=k):ed j A:=⟨r.hd,by have:=r.dp;omega,by have:=r.un;omega,r.gd⟩
theorem ed.deeper {k:Nat}{A:bz}(r:ed (k+1) A)(env:Env):ed k (A.deeper env) :=
 ⟨r.hd,by have:=r.dp;show A.depth+1+3*k+5<_;omega,by have:=r.un;show A.units+3+16*k+200<_;omega,r.gd⟩
theorem Rn {A:bz}{C:af}{us:List aa}{kw:List (aR×aa)}:(A.under (.builtin "type.__call__" ⟨.ref C::us,kw⟩)).depth=A.depth+1:=by
 first|rfl|simp[bz.under,nR.weight,nR.isCreation,nR.isGuard,nR.isCaller,nR.frames,nR.isFrame,guardIds]
theorem Ro {A:bz}{C:af}{us:List aa}{kw:List (aR×aa)}:(A.under (.builtin "type.__call__" ⟨.ref C::us,kw⟩)).units=A.units+1:=by
 first|rfl|simp[bz.under,nR.cUnits,nR.frames,nR.isFrame]
theorem Q8 {A:bz}{C:af}{us:List aa}{kw:List (aR×aa)}:(A.under (.builtin "type.__call__" ⟨.ref C::us,kw⟩)).guards=A.guards:=by
 first|rfl|simp[bz.under,nR.guards,nR.isGuard,guardIds,pushGuards]
theorem ed.make {k:Nat}{A:bz}(r:ed (k+1) A)(C:af)(us:List aa)(kw:List (aR×aa)):ed k (A.under (.builtin "type.__call__" ⟨.ref C::us,kw⟩)) :=
 ⟨r.hd,by have:=r.dp;rw[Rn];omega,by have:=r.un;rw[Ro];omega,by rw[Q8];exact r.gd⟩
theorem ed.depth {k:Nat}{A:bz}(r:ed k A):A.depth<recursionLimit:=by have:=r.dp;omega
theorem ed.units {k:Nat}{A:bz}(r:ed k A):A.units+64<gQ:=by have:=r.un;omega
def Ct:TA:=λ_ H Q=>Q [] H
def Cp (ta:TE)(tr:TA):TA:=λσ H Q=>ta σ H λx H1=>tr σ H1 λxs H2=>Q (x::xs) H2
section
variable {X:Cx}{e:Expr}{es:List Expr}{te:TE}{t:TA}{pos:cG}
theorem xU:PA X [] Ct:=λ_ _ _ _ H Q I h=>Calls.spliced_nil ⟨[],H,I,.nil,h⟩
theorem uz (ha:PE X e te)(hr:PA X es t)(hs:aw (e::es) X.env=(false,bS e X.env)::aw es X.env:=by rfl):PA X (e::es) (Cp te t):=by
 intro pos ah s σ H Q I h
 rw[hs]
 show aT _ _ (spliced ((false,bS e X.env)::cD pos (aw es X.env))) _ _ s
 refine Calls.spliced_cons (di (ha ah s σ H _ I h) λu s1 dk=>?_)
 obtain⟨x,H1,I1,r1,q1⟩:=dk
 exact di (hr pos ah s1 σ H1 _ I1 q1) λus s2 ⟨xs,H2,I2,r2,q2⟩=>⟨x::xs,H2,I2,.cons r1 r2,q2⟩
def G0 (t:TA):TE:=λσ H Q=>t σ H λxs H1=>xs.length<=sizeLine/\∀p,H1 p=none->Q (.ref p) (upd H1 p (.tup xs))
def GS (t:TA):TE:=λσ H Q=>t σ H λxs H1=>xs.length<=sizeLine/\∀p,H1 p=none->Q (.ref p) (upd H1 p (.lst xs))
theorem Mc {x1}(h:PA X es t):PE X (.Tuple es x1 pos) (G0 t):=by
 intro ah s σ H Q I hq
 refine wpAny_Tuple_spliced (di (h pos ah s σ H _ I hq) λus s1 ⟨xs,H1,I1,r,z,q⟩=>⟨by rw[←r.length];exact z,?_⟩)
 have hf:H1 s1.heap.objs.size=none:=I1.hok.fresh (ar _)
 refine⟨.ref s1.heap.objs.size,upd H1 s1.heap.objs.size (.tup xs),I1.laid (t':=s1.toks) (λb u e=>ay _ e) (ar _) ?_,rfl,q _ hf⟩
 exact⟨z,us,r,⟨_,bo _ rfl,rfl,_,rfl⟩⟩
theorem Vo (h:PA X es t):PE X (.List es pos) (GS t):=by
 intro ah s σ H Q I hq
 refine wpAny_List_spliced (di (h pos ah s σ H _ I hq) λus s1 ⟨xs,H1,I1,r,z,q⟩=>⟨by rw[←r.length];exact z,?_⟩)
 have hf:H1 s1.heap.objs.size=none:=I1.hok.fresh (ar _)
 refine⟨.ref s1.heap.objs.size,upd H1 s1.heap.objs.size (.lst xs),I1.laid (t':=s1.toks) (λb u e=>ay _ e) (ar _) ?_,rfl,q _ hf⟩
 exact⟨z,us,0,r,bo _ rfl⟩
end
abbrev Sp:=List V->Hp->VK->XK->Prop
abbrev p4:=List Env->Hp->ao->XK->aa->ao->Prop
structure oe (P:bb)(w:bG)(K:ae)(mg:aR->Option aa)(base:aK)(A:bz)(outer:List Env)(s:ao)(H:Hp):Prop where
 frames:A.frames=some outer
 mod:Mod K mg base
 bs:∀b o,base.get? b=some o->s.heap.get? b=some o/\H b=none
 bsz:base.objs.size<=s.heap.objs.size
 funs:s.heap.FunFrames base outer
 frf:∀b∈qG outer,H b=none
 hok:jC P w H s.heap
 bare:AllBare s.gens
def CE (outer:List Env)(P:bb)(w:bG)(H:Hp)(s:ao)(Q:VK)(u:aa)(s':ao):Prop :=
 ∃v H',s'.os=s.os/\AllBare s'.gens/\Un (qG outer) [] H H' s.heap s'.heap/\jC P w H' s'.heap/\RelV v u/\Q v H'
def CR (CX:p4)(outer:List Env)(P:bb)(w:bG)(H:Hp)(s:ao)(Q:VK)(E:XK)(r:Result)(s':ao):Prop :=
 match r with
 |.ok (.ret u)=>CE outer P w H s Q u s'
 |.ok _=>False
 |.error e=>CX outer H s E e s'
structure cS (P:bb)(w:bG)(K:ae)(mg:aR->Option aa)(base:aK)(CX:p4)(k:Nat)(f:af)(fd:aS)(ps:List aR)(sp:Sp):Prop where
 len:∀vs H Q E,sp vs H Q E->vs.length=ps.length
 run:∀(A:bz) (outer:List Env) (s:ao) (H:Hp) (args:Args) (us:List aa) (vs:List V) (Q:VK) (E:XK),ed k A->oe P w K mg base A outer s H->ni s fd args (ps.zip us)->bR vs us->sp vs H Q E ->
  gL (aV P w) A (.call (.ref f) args) (CR CX outer P w H s Q E) s
theorem oe.make {P:bb}{w:bG}{K:ae}{mg:aR->Option aa}{base:aK}{A:bz}{outer:List Env}{s:ao}{H:Hp}(e:oe P w K mg base A outer s H)(C:af)(us:List aa)(kw:List (aR×aa)) :
  oe P w K mg base (A.under (.builtin "type.__call__" ⟨.ref C::us,kw⟩)) outer s H:=⟨by first|exact e.frames|(simpa[bz.under,nR.envs,nR.isFrame,pushEnvs]using e.frames),e.mod,e.bs,e.bsz,e.funs,e.frf,e.hok,e.bare⟩
section
variable {X:Cx}{ah:List (af×cP)}{σ:St}{H:Hp}{s s':ao}
theorem Inv.env0 (I:Inv X ah σ H s):oe X.prog X.w X.K X.mg X.base X.A X.stack s H :=
 ⟨I.ok.frames,I.ok.mod,I.bs,cm I.ok.bsz I.sz,I.stack,I.stkFree,I.hok,I.bare⟩
theorem Inv.after {Q:VK}{u:aa}(I:Inv X ah σ H s)(h:CE X.stack X.prog X.w H s Q u s'):EP X ah σ Q u s':=by
 obtain⟨v,H',os,bare,un,hok,r,q⟩:=h
 obtain⟨hh,g,d,t,Pp⟩:=s'
 obtain rfl:Pp=s.os:=os
 exact⟨v,H',I.call (h':=hh) (g':=g) (d':=d) (t':=t) (ch:=[]) un hok bare (λb z=>absurd z (by simp)),r,q⟩
end
def tZ (sp:Sp)(hU:List V)(E:XK)(t:TA):TE:=λσ H Q=>t σ H λvs H1=>sp (vs++hU) H1 Q E
def t5 (C:af)(m:aR)(sp:Sp)(hU:List V)(E:XK)(ta:TE)(t:TA):TE:=λσ H Q=>ta σ H λx H1=>∃a dx fs,x=.ref a/\H1 a=some (.ins C dx fs)/\fs.lookup m=none /\
 t σ H1 λvs H2=>sp (x::(vs++hU)) H2 Q E
def Cr (C:af)(sp:Sp)(hU:List V)(E:XK)(t:TA):TE:=λσ H Q=>t σ H λvs H1=>∀x dx,H1 x=none->H1 dx=none->dx≠x ->
 sp (.ref x::(vs++hU)) (upd (upd H1 dx (.own x)) x (.ins C dx [])) (λv H2=>v=.non/\Q (.ref x) H2) E
def bY (K:ae)(fd:aS)(ps:List aR)(ds:List aa):Prop :=
 ∀(s:ao) (us:List aa),K.In s.heap->(us++ds).length=ps.length->ni s fd ⟨us,[]⟩ (ps.zip (us++ds))
theorem bY.all {K:ae}{fd:aS}{ps:List aR}(h:∀us:List aa,us.length=ps.length->bindArgs fd ⟨us,[]⟩=pure (ps.zip us)):bY K fd ps []:=λs us _ hl=>by
 rw[bV]at hl ⊢
 exact .of_eq (h us hl)
def iH (CX:p4)(X:Cx)(E:XK):Prop:=∀(ah:List (af×cP)) (σ:St) (H:Hp) (s:ao) (e:aa) (s':ao),Inv X ah σ H s->CX X.stack H s E e s'->X.xe e s'
section
variable {X:Cx}{CX:p4}{k:Nat}{f C:af}{fd:aS}{ps:List aR}{sp:Sp}{hU:List V}{ds:List aa}{E:XK}{x m:aR}{p pos dE:cG}{e o:Expr}{es:List Expr}{ta:TE}{t:TA}
theorem D9 {ah:List (af×cP)}{σ:St}{H:Hp}{s:ao}{Q:VK}{us:List aa}{vs:List V}(F:cS X.prog X.w X.K X.mg X.base CX k f fd ps sp)(hr:ed k X.A)(hb:bY X.K fd ps ds)(hd:bR hU ds)(hx:iH CX X E)
  (I:Inv X ah σ H s) (r:bR vs us) (h:sp (vs++hU) H Q E):aT (aV X.prog X.w) X.A (call (.ref f) us) (EP X ah σ Q) X.xe s:=by
 have r2:bR (vs++hU) (us++ds):=r.append hd
 have hl:(us++ds).length=ps.length:=by rw[←r2.length];exact F.len _ _ _ _ h
 refine wpAny_call (lH (F.run X.A X.stack s H ⟨us,[]⟩ (us++ds) (vs++hU) Q E hr I.env0 (hb s us I.kIn hl) r2 h) λr s' hq=>?_)
 cases r with
 |error e=>exact hx ah σ H s e s' I hq
 |ok fl=>
  cases fl with
  |ret u=>exact I.after hq
  |next=>exact False.elim hq
  |brk=>exact False.elim hq
  |cont=>exact False.elim hq
theorem T2 (F:cS X.prog X.w X.K X.mg X.base CX k f fd ps sp)(hr:ed k X.A)(hg:Gl X x)(hm:X.mg x=some (.ref f))(hk:ax X.K (.ref f)=true)(hb:bY X.K fd ps ds)(hd:bR hU ds)(hx:iH CX X E)
  (ha:PA X (e::es) t) (lg:(x==("__debug__":aR))=false:=by decide) (he:aw (e::es) X.env=(false,bS e X.env)::aw es X.env:=by rfl) (ip:(cD pos (aw es X.env)).any (·.1)=false:=by rfl) :
  PE X (.Call (.Name x p) (e::es) [] pos) (tZ sp hU E t):=by
 intro ah s σ H Q I h
 refine dR (DX I hg hm ?_ lg)
 refine gu (h₀:=X.base) I.ok.mod.kin hk (di (ha pos ah s σ H _ I h) λus s1 ⟨vs,H1,I1,r,q⟩=>⟨I1.kIn,?_⟩) he ip
 exact D9 F hr hb hd hx I1 r q
theorem T3 {pl:nj Bool}(he:PE X o ta)(c:kX X.K C)(hm:ou X.K C m f)(F:cS X.prog X.w X.K X.mg X.base CX k f fd ps sp)(hr:ed k X.A)(hb:bY X.K fd ps ds)(hd:bR hU ds)(hx:iH CX X E)(ha:PA X (e::es) t)
  (mQ:aw (e::es) X.env=(false,bS e X.env)::aw es X.env:=by rfl) (ip:(cD pos (aw es X.env)).any (·.1)=false:=by rfl)
  (ht:bS (.Call (.Attribute o m dE) (e::es) [] pos) X.env=(do
   let ov ← bS o X.env
   fT dE.atName
   let(f,first) ← dm [ov] (gr ov m pl)
   iP pos f first (cD pos (aw (e::es) X.env)) (fk pos (dH [] X.env))):=by rfl) :
  PE X (.Call (.Attribute o m dE) (e::es) [] pos) (t5 C m sp hU E ta t):=by
 intro ah s σ H Q I h
 refine fC (pl:=pl) (di (he ah s σ H _ I h) λu s1 ⟨x,H1,I1,rx,a,dx,fs,ex,ea,l,q⟩=>?_) ht
 subst ex
 obtain rfl:u=aa.ref a:=rx
 refine G3 I1 ea c hm l ?_
 refine gu (first:=[.ref a]) (h₀:=X.base) I.ok.mod.kin hm.kp (di (ha pos ah s1 σ H1 _ I1 q) λus s2 ⟨vs,H2,I2,r,q2⟩=>⟨I2.kIn,?_⟩) mQ ip
 exact D9 (us:=.ref a::us) (vs:=.ref a::vs) F hr hb hd hx I2 (.cons rfl r) q2
theorem SC {pl:nj Bool}(he:PE X o ta)(c:kX X.K C)(hm:ou X.K C m f)(F:cS X.prog X.w X.K X.mg X.base CX k f fd ps sp)(hr:ed k X.A)(hb:bY X.K fd ps ds)(hd:bR hU ds)(hx:iH CX X E)
  (ht:bS (.Call (.Attribute o m dE) [] [] pos) X.env=(do
   let ov ← bS o X.env
   fT dE.atName
   let(f,first) ← dm [ov] (gr ov m pl)
   iP pos f first (cD pos (aw [] X.env)) (fk pos (dH [] X.env))):=by rfl) :
  PE X (.Call (.Attribute o m dE) [] [] pos) (t5 C m sp hU E ta Ct):=by
 intro ah s σ H Q I h
 refine fC (pl:=pl) (di (he ah s σ H _ I h) λu s1 ⟨x,H1,I1,rx,a,dx,fs,ex,ea,l,q⟩=>?_) ht
 subst ex
 obtain rfl:u=aa.ref a:=rx
 refine G3 I1 ea c hm l ?_
 exact PySem.W.callWith_K0 (first:=[.ref a]) I1.kIn hm.kp (D9 (us:=[.ref a]) (vs:=[.ref a]) F hr hb hd hx I1 (.cons rfl .nil) q)
structure Mk (K:ae)(C f:af):Prop where
 makes:dJ K C=true
 init:av K (.ref C) "__init__"=some (some (.ref f))
 fn:dr K (.ref f)=true
 kp:ax K (.ref C)=true
theorem SD {ah:List (af×cP)}{σ:St}{H:Hp}{s:ao}{Q:VK}{us:List aa}{vs:List V}(M:Mk X.K C f)(F:cS X.prog X.w X.K X.mg X.base CX k f fd ps sp)(hr:ed (k+1) X.A)(hb:bY X.K fd ps ds)(hd:bR hU ds)
  (hx:iH CX X E) (I:Inv X ah σ H s) (r:bR vs us)
  (h:∀x dx,H x=none->H dx=none->dx≠x->sp (.ref x::(vs++hU)) (upd (upd H dx (.own x)) x (.ins C dx [])) (λv H2=>v=.non/\Q (.ref x) H2) E) :
  aT (aV X.prog X.w) X.A (call (.ref C) us) (EP X ah σ Q) X.xe s:=by
 have hq:=h (s.heap.objs.size+1) s.heap.objs.size (I.hok.fresh (gM _)) (I.hok.fresh (ar _)) (aZ (ig _))
 have I2:=Inv.made (C:=C) I
 have r2:bR (V.ref (s.heap.objs.size+1)::(vs++hU)) (aa.ref (s.heap.objs.size+1)::(us++ds)):=.cons rfl (r.append hd)
 have hl:(aa.ref (s.heap.objs.size+1)::us++ds).length=ps.length:=by
  have e:=r2.length
  rw[F.len _ _ _ _ hq]at e
  exact e.symm
 refine wpAny_call (SA (f:=f) I.kIn M.makes M.init (beq_iff_eq.mp M.fn) (lH (F.run _ X.stack _ _ ⟨aa.ref (s.heap.objs.size+1)::us,[]⟩ (aa.ref (s.heap.objs.size+1)::(us++ds)) _ _ E (hr.make C us [])
  (I2.env0.make C us []) (hb _ (aa.ref (s.heap.objs.size+1)::us) I2.kIn hl) r2 hq) λr s' A0=>?_))
 cases r with
 |error e=>exact hx ah σ _ _ e s' I2 A0
 |ok fl=>
  cases fl with
  |ret u=>
   obtain⟨v,H',I3,rv,ev,q3⟩:=I2.after A0
   subst ev
   exact⟨rv,⟨V.ref (s.heap.objs.size+1),H',I3,rfl,q3⟩⟩
  |next=>exact False.elim A0
  |brk=>exact False.elim A0
  |cont=>exact False.elim A0
theorem Tt (M:Mk X.K C f)(F:cS X.prog X.w X.K X.mg X.base CX k f fd ps sp)(hr:ed (k+1) X.A)(hg:Gl X x)(hm:X.mg x=some (.ref C))(hb:bY X.K fd ps ds)(hd:bR hU ds)(hx:iH CX X E)
  (ha:PA X (e::es) t) (lg:(x==("__debug__":aR))=false:=by decide) (he:aw (e::es) X.env=(false,bS e X.env)::aw es X.env:=by rfl) (ip:(cD pos (aw es X.env)).any (·.1)=false:=by rfl) :
  PE X (.Call (.Name x p) (e::es) [] pos) (Cr C sp hU E t):=by
 intro ah s σ H Q I h
 refine dR (DX I hg hm ?_ lg)
 refine gu (h₀:=X.base) I.ok.mod.kin M.kp (di (ha pos ah s σ H _ I h) λus s1 ⟨vs,H1,I1,r,q⟩=>⟨I1.kIn,?_⟩) he ip
 exact SD M F hr hb hd hx I1 r q
end
section
variable {X:Cx}{CX:p4}{k:Nat}{f C:af}{fd:aS}{ps ks:List aR}{sp:Sp}{E:XK}{x m:aR}{p pos dE wH:cG}{e o:Expr}{es:List Expr}{kws:List iu}{te ta:TE}{t tk:TA}{nm:Option aR}
variable {g:List aa->List aa->List aa}{gV:List V->List V->List V}
end
structure bK (N P:List aR)(sc:fF):Prop where
 kind:sc.kind=.function
 co:sc.isCoroutine=false
 gen:sc.isGenerator=false
 nd:N.Nodup
 pre:N.take P.length=P
 par:∀x∈P,sc.names.lookup x=some .local\/sc.names.lookup x=some .cell
 nofree:∀y∈sc.names,y.2≠.free
theorem KF {kindOf:aR->Option bp}{x:aR}:∀{binds:List (aR×aa)} {m:aR->Option aa},(∀v,(x,v)∉binds)->pE kindOf binds m x=m x
 |[],_,_=>rfl
 |(n,v)::r,m,h=>by
  unfold pE
  rw[KF λw hw=>h w (ap _ hw)]
  split
  ·have:x≠n:=by rintro rfl;exact h v am
   simp[this]
  ·rfl
theorem KG {kindOf:aR->Option bp}{x:aR}:∀{binds:List (aR×aa)} {m:aR->Option aa},(∀v,(x,v)∉binds)->pD kindOf binds m x=m x
 |[],_,_=>rfl
 |(n,v)::r,m,h=>by
  unfold pD
  rw[KG λw hw=>h w (ap _ hw)]
  split
  ·rfl
  ·have:x≠n:=by rintro rfl;exact h v am
   simp[this]
theorem KH {kindOf:aR->Option bp}{x:aR}{v:aa}:∀{P:List aR} {vs:List aa} {i:Nat} {m:aR->Option aa},P.Nodup->P[i]?=some x->vs[i]?=some v->kindOf x=some .local ->
  pE kindOf (P.zip vs) m x=some v
 |[],_,_,_,_,h,_,_=>by simp at h
 |_::_,[],_,_,_,_,h,_=>by simp at h
 |p::P,w::vs,0,m,nd,h1,h2,hk=>by
  simp at h1 h2;subst h1;subst h2
  show pE kindOf ((p,w)::P.zip vs) m p=_
  unfold pE
  rw[KF λv hv=>(bW.mp nd).1 (dn hv).1,if_pos hk]
  simp
 |p::P,w::vs,i+1,m,nd,h1,h2,hk=>by
  show pE kindOf ((p,w)::P.zip vs) m x=_
  unfold pE
  exact KH (i:=i) (bW.mp nd).2 (by simpa using h1) (by simpa using h2) hk
theorem KI {kindOf:aR->Option bp}{x:aR}{v:aa}:∀{P:List aR} {vs:List aa} {i:Nat} {m:aR->Option aa},P.Nodup->P[i]?=some x->vs[i]?=some v->kindOf x≠some .local ->
  pD kindOf (P.zip vs) m x=some v
 |[],_,_,_,_,h,_,_=>by simp at h
 |_::_,[],_,_,_,_,h,_=>by simp at h
 |p::P,w::vs,0,m,nd,h1,h2,hk=>by
  simp at h1 h2;subst h1;subst h2
  show pD kindOf ((p,w)::P.zip vs) m p=_
  unfold pD
  rw[KG λv hv=>(bW.mp nd).1 (dn hv).1,if_neg hk]
  simp
 |p::P,w::vs,i+1,m,nd,h1,h2,hk=>by
  show pD kindOf ((p,w)::P.zip vs) m x=_
  unfold pD
  exact KI (i:=i) (bW.mp nd).2 (by simpa using h1) (by simpa using h2) hk
def start (N:List aR)(vs:List V):St:=vs.map some++aG (N.length-vs.length) none
def mI (CX:p4)(P:bb)(w:bG)(K:ae)(mg:aR->Option aa)(base:aK)(N:List aR)(qual:aR)(scope:fF)(f:af)(cd:aa)(A:bz)(outer:List Env)(s:ao)(H:Hp)(E:XK):Cx where
 prog:=P
 w:=w
 K:=K
 mg:=mg
 base:=base
 A:=A.deeper (envOfC qual scope s.heap.objs.size f cd)
 N:=N
 s₀:=s
 H₀:=H
 env:=envOfC qual scope s.heap.objs.size f cd
 outer:=outer
 stack:=envOfC qual scope s.heap.objs.size f cd::outer
 ex:=[]
 calm:=true
 fn:=λ_=>true
 pn:=[]
 xe:=λe s'=>aT (aV P w) (A.deeper (envOfC qual scope s.heap.objs.size f cd)) (leaving (envOfC qual scope s.heap.objs.size f cd) e) (λ_ s''=>CX outer H s E e s'') (λe' s''=>CX outer H s E e' s'') s'
theorem K8 {sc:fF}{n:Nat}{x:aR}(h:sc.names.lookup x=some .cell):∃c,(cellsFrom n sc.names []).lookup x=some c:=by
 have q:=gS sc.names n [] (.inl h)
 exact lL.mp q
theorem RN {CX:p4}{P:bb}{w:bG}{K:ae}{mg:aR->Option aa}{base:aK}{N ps:List aR}{qual:aR}{scope:fF}{f:af}{cd:aa}{A:bz}{outer:List Env}{s s1:ao}{H:Hp}{E:XK}{us:List aa}{vs:List V}
  (S:bK N ps scope) (hd:A.handled=none) (e0:oe P w K mg base A outer s H) (hl:vs.length=ps.length) (r:bR vs us)
  (x:InCallC s s.heap.objs.size (pE (envOfC qual scope s.heap.objs.size f cd).kindOf (ps.zip us) λ_=>none) (cellsFrom (s.heap.objs.size+1) scope.names []) (pD (envOfC qual scope s.heap.objs.size f cd).kindOf (ps.zip us) λ_=>none) s1) :
  Inv (mI CX P w K mg base N qual scope f cd A outer s H E) [] (start N vs) H s1:=by
 have ip:ps.length<=N.length:=by have:=congrArg eZ S.pre;rw[dD]at this;omega
 obtain⟨h1,tk,rfl,hk⟩:=x.done
 have BG:∀b:af,b∉(mI CX P w K mg base N qual scope f cd A outer s H E).ex:=λb z=>absurd (show b∈([]:List af)from z) (by simp)
 refine⟨⟨e0.mod,S.kind,rfl,rfl,ar _,λy z c h1 h2=>?_,λy hy=>?_,λy c _ h=>?_,λ_=>hd,bz.frames_deeper e0.frames,.inr ⟨rfl,rfl⟩,λb z=>absurd z (BG b),e0.bs,e0.bsz,λb _ _=>BG b,λb z=>absurd z (BG b),e0.funs,e0.frf⟩,
  rfl,e0.bare,Un.kept hk,⟨_,x.toInCall.ns,λi y v h1 h2 h3=>?_⟩,λy c h=>⟨_,x.cell y c h⟩,e0.hok.fresh (ar _),λy c h=>?_,λp hp=>absurd (show p∈([]:List (af×cP))from hp) (by simp),e0.hok.kept hk,?_⟩
 ·exact name_of_addr x.apart (PySem.mem_of_lookup h1) (PySem.mem_of_lookup h2)
 ·have hy:scope.names.lookup y=some .cell\/scope.names.lookup y=some .free:=hy
  rcases hy with hy|hy
  ·exact K8 hy
  ·exact absurd rfl (S.nofree _ (PySem.mem_of_lookup hy))
 ·exact iD (x.above y c (PySem.mem_of_lookup h))
 ·have hi:i<vs.length:=by
   unfold start at h2
   by_cases hi:i<vs.length
   ·exact hi
   ·rw[cR (by simpa using hi)]at h2
    rw[eY]at h2
    split at h2<;>cases h2
  have ha:vs[i]?=some v:=by
   unfold start at h2
   rw[cy (by simpa using hi),aM]at h2
   cases e:vs[i]? with
   |none=>rw[e]at h2;cases h2
   |some a=>rw[e]at h2;cases h2;rfl
  obtain⟨u,hu,rv⟩:=r.get ha
  have hp:ps[i]?=some y:=by
   rw[←S.pre,List.getElem?_take_of_lt (by omega)];exact h1
  have JD:ps.Nodup:=by rw[←S.pre];exact S.nd.sublist (List.take_sublist _ _)
  refine⟨u,rv,?_⟩
  rcases S.par y (iT hp)with k|k
  ·exact .inl ⟨k,KH JD hp hu k⟩
  ·obtain⟨c,e⟩:=K8 (n:=s.heap.objs.size+1) k
   refine .inr ⟨.inl k,c,e,?_⟩
   have q:=x.cell y c e
   rw[KI JD hp hu (by show scope.names.lookup y≠_;rw[k];decide)]at q
   exact q
 ·exact e0.hok.fresh (iD (x.above y c (PySem.mem_of_lookup h)))
 ·unfold start
  show _=N.length
  rw[bq,aD,de]
  omega
theorem Wj {CX:p4}{P:bb}{w:bG}{K:ae}{mg:aR->Option aa}{base:aK}{k:Nat}{f:af}{name qual:aR}{params:Arguments}{body:List cp}{scope:fF}{dV kV doc pm ik ct oc:aa}{an od:Option af}
    {wJ:Array (Option aa)} {N ps:List aR} {sp:Sp} (lk:K.lookup f=some ⟨oc,od,.func (gc name qual params body scope dV kV doc pm an ik ct),wJ⟩) (iX:aH K ik qual=true) (S:bK N ps scope)
    (len:∀vs H Q E,sp vs H Q E->vs.length=ps.length)
    (qJ:∀(A:bz) (outer:List Env) (s:ao) (H:Hp) (vs:List V) (Q:VK) (E:XK),ed k (A.deeper (envOfC qual scope s.heap.objs.size f ik))->sp vs H Q E ->
      ∃t,oX (mI CX P w K mg base N qual scope f ik A outer s H E) body t/\t { nx:=λ_ H'=>Q .non H',rt:=Q } (start N vs) H) :
    cS P w K mg base CX (k+1) f (gc name qual params body scope dV kV doc pm an ik ct) ps sp:=by
  refine⟨len,λA outer s H args us vs Q E hr e0 hb r tO=>?_⟩
  have hl:=len _ _ _ _ tO
  have KX:K.In s.heap:=e0.mod.kin.keeps λb o e=>(e0.bs b o e).1
  have lim:s.heap.NoLimit:=e0.mod.nolimit.keeps λb o e=>(e0.bs b o e).1
  have AQ:∀y∈ps.zip us,scope.names.lookup y.1=some .local\/(scope.names.lookup y.1=some .cell/\((cellsFrom (s.heap.objs.size+1) scope.names []).lookup y.1).isSome=true):=λ⟨n,v⟩ hy=>by
    rcases S.par n (dn hy).1 with q|q
    · exact .inl q
    · exact .inr ⟨q,gS _ _ _ (.inl q)⟩
  refine codeAny_call_function hr.depth (KX _ _ lk) rfl S.co S.gen rfl (PySem.W.codeRec_of KX iX) (hb _ _ _ _ ?_)
  refine wpAny_newFunctionEnv_cells S.kind AQ λenv he s1 x=>?_
  subst he
  refine⟨lim.keeps x.toInCall.keep,codeAny_func ?_⟩
  obtain⟨t,ht,hq⟩:=qJ A outer s H vs Q E (hr.deeper _) tO
  have I:Inv (mI CX P w K mg base N qual scope f ik A outer s H E) [] (start N vs) H s1:=RN S hr.hd e0 hl r x
  refine dZ (ht [] s1 (start N vs) H _ I hq) (λfl s' hs=>?_) λe s' hs=>hs
  have fin:∀{σ':St} {H':Hp} {v:V} {u:aa},Inv (mI CX P w K mg base N qual scope f ik A outer s H E) [] σ' H' s'->RelV v u->Q v H'->CE outer P w H s Q u s' :=
    λ{σ' H' v u} J rv q=>⟨v,H',J.os,J.bare,J.base,J.hok,rv,q⟩
  cases fl with
  |ret u=>
    obtain⟨v,σ',H',J,rv,q⟩:=hs
    exact fin J rv q
  |next=>
    obtain⟨σ',H',J,q⟩:=hs
    exact fin (v:=V.non) (u:=aa.none) J rfl q
  |brk=>
    obtain⟨_,_,_,q⟩:=hs
    exact False.elim q
  |cont=>
    obtain⟨_,_,_,q⟩:=hs
    exact False.elim q
end L2
namespace L2
open PySem PySem.Spec PyProof.Rows
section
variable {X:Cx}{x:aR}{p pos:cG}{e:Expr}{es:List Expr}{t:TA}{id T:String}{r:List V->Hp->VK->Prop}
def GN (r:List V->Hp->VK->Prop)(t:TA):TE:=λσ H Q=>t σ H λvs H1=>r vs H1 Q
theorem DL (hc:ez X (.builtin id) r)(hg:Gl X x)(hm:X.mg x=none)(hv:bU x=some (.builtin id))(ha:PA X (e::es) t)(hn:x≠"__name__":=by decide)(lg:(x==("__debug__":aR))=false:=by decide)
  (he:aw (e::es) X.env=(false,bS e X.env)::aw es X.env:=by rfl) (ip:(cD pos (aw es X.env)).any (·.1)=false:=by rfl):PE X (.Call (.Name x p) (e::es) [] pos) (GN r t):=by
 intro ah s σ H Q I h
 refine dR (t7 I hg hm hv ?_ hn lg)
 exact PyProof.Rows.callWith_builtin1 (di (ha pos ah s σ H _ I h) λus s1 ⟨vs,H1,I1,r1,q1⟩=>hc ah s1 σ H1 vs us Q I1 r1 q1) he ip
theorem RP (hc:ez X (.type T) r)(hg:Gl X x)(hm:X.mg x=none)(hv:bU x=some (.type T))(ha:PA X (e::es) t)(hn:x≠"__name__":=by decide)(lg:(x==("__debug__":aR))=false:=by decide)
  (he:aw (e::es) X.env=(false,bS e X.env)::aw es X.env:=by rfl) (ip:(cD pos (aw es X.env)).any (·.1)=false:=by rfl):PE X (.Call (.Name x p) (e::es) [] pos) (GN r t):=by
 intro ah s σ H Q I h
 refine dR (t7 I hg hm hv ?_ hn lg)
 exact cF (di (ha pos ah s σ H _ I h) λus s1 ⟨vs,H1,I1,r1,q1⟩=>hc ah s1 σ H1 vs us Q I1 r1 q1) he ip
end
end L2
namespace HT
open PySem PyProof.Rows
section
open PySem.SeqAt
open PySem.AutoSeq1 (wpAny_loadPart')
open PySem.MeetsSeq PySem.MeetsSeq2 PySem.MeetsSeq3
end
section
variable {prog:bb}{w:bG}{A:bz}{E:aa->ao->Prop}{s:ao}
theorem cat_tup {t b:af}{vs ws:List aa}{Q:aa->ao->Prop}(ht:IsTup s.heap t vs.toArray)(hb:IsTup s.heap b ws.toArray)(hv:vs≠[])
    (h1:ws=[]->Q (.ref t) s) (h2:ws≠[]->Q (.ref s.heap.objs.size) { s with heap:=s.heap.push { cls:=.type "tuple",data:=.seq (vs++ws).toArray } })
    (hsz:vs.length+ws.length<=sizeLine):aT (aV prog w) A (dQ .Add (.ref t) (.ref b)) Q E s:=by
  obtain⟨⟨cls,dd,data,sl⟩,ho,hc,n,hd⟩:=id ht
  obtain⟨⟨ES,tE,data2,Ck⟩,Di,tI,n2,hd2⟩:=id hb
  simp only at hc hd tI hd2
  subst hc hd tI hd2
  have e:vs.toArray++ws.toArray=(vs++ws).toArray:=by simp
  by_cases hw:ws=[]
  · exact pX ⟨_,ho,rfl⟩ ⟨_,Di,rfl⟩ noFill_tuple_add seq_tuple_add PySem.F.slot_tuple_add PySem.F.entry_tuple_add (PySem.F.args_tuple_add_2 _ _)
      (tuple_addW1 t b vs.toArray ws.toArray n n2 dd tE sl Ck (by simpa using hv) (by simp[hw])) ⟨ho,Di,h1 hw⟩
  · refine pX ⟨_,ho,rfl⟩ ⟨_,Di,rfl⟩ noFill_tuple_add seq_tuple_add PySem.F.slot_tuple_add PySem.F.entry_tuple_add (PySem.F.args_tuple_add_2 _ _)
      (tuple_addW2 t b vs.toArray ws.toArray n n2 dd tE sl Ck (by simpa using hv) (by simpa using hw) (by rw[aN,aN];exact hsz)) ⟨ho,Di,?_⟩
    rw[e]
    exact h2 hw
def sIx (n d:Nat):Option Int->Nat
 |none=>d
 |some v=>if v<0 then(v+(n:Int)).toNat else min v.toNat n
theorem sIx_none (n d:Nat):sIx n d none=d:=rfl
theorem sIx_nat (n d k:Nat):sIx n d (some (k:Int))=min k n:=by
 show(if(k:Int)<0 then((k:Int)+(n:Int)).toNat else min (k:Int).toNat n)=min k n
 rw[if_neg (by omega),kh]
theorem Vp (n d:Nat)(hd:d<=n)(o:Option Int):sIx n d o<=n:=by
 cases o with
 |none=>exact hd
 |some v=>
  show(if v<0 then(v+(n:Int)).toNat else min v.toNat n)<=n
  by_cases hv:v<0
  ·rw[if_pos hv];omega
  ·rw[if_neg hv];exact Nat.min_le_right _ _
theorem Lv (v:Int)(n d:Nat):(if v<0 then max (v+(n:Int)) 0 else min v (n:Int))=((sIx n d (some v):Nat):Int):=by
 show(if v<0 then max (v+(n:Int)) 0 else min v (n:Int))=(((if v<0 then(v+(n:Int)).toNat else min v.toNat n):Nat):Int)
 by_cases hv:v<0
 ·simp only[if_pos hv];omega
 ·simp only[if_neg hv];omega
theorem Rp (lo hi:Option Int)(n:Nat):ck.Slice.sliceAdjust lo hi 1 (n:Int)=(((sIx n 0 lo:Nat):Int),((sIx n n hi:Nat):Int)):=by
 have h1:¬((1:Int)<0):=by omega
 unfold ck.Slice.sliceAdjust
 simp only[h1,if_false]
 refine Prod.ext ?_ ?_
 ·cases lo with
  |none=>rfl
  |some v=>exact Lv v n 0
 ·cases hi with
  |none=>rfl
  |some v=>exact Lv v n n
theorem Rq (i j:Nat):ck.Slice.slicePlaces (i:Int) (j:Int) 1=j-i:=by
 unfold ck.Slice.slicePlaces
 have h1:(1:Int) > 0:=by omega
 simp only[h1,if_true,Int.ediv_one]
 split<;>omega
theorem Kv {v:aa}{o:Option Int}{Q:Option Int->ao->Prop}(p:IsPart v o)(h:Q o s):aT (aV prog w) A (ck.Slice.slicePartIndex v) Q E s:=by
 cases p with
 |none=>exact slicePart_none h
 |int i t=>exact slicePart_int h
theorem Qr {sl:af}{vl vu:aa}{lo hi:Option Int}{n:Nat}{Q:Int×Int×Nat->ao->Prop}(hs:s.heap.IsSliceOf sl vl vu .none)(pl:IsPart vl lo)(pu:IsPart vu hi)
  (h:Q (((sIx n 0 lo:Nat):Int),1,sIx n n hi-sIx n 0 lo) s):aT (aV prog w) A (ck.Slice.sliceApplied (.ref sl) (pure (n:Int))) Q E s:=by
 obtain⟨os,AW,rJ,tJ⟩:=id hs
 unfold ck.Slice.sliceApplied ck.Slice.sliceFields
 refine ak (ak (wpAny_field AW tJ (x:=vl) rfl (ak (wpAny_field AW tJ (x:=vu) rfl (ak (wpAny_field AW tJ (x:=.none) rfl (aq ?_)))))))
 refine ak (slicePart_none ?_)
 show aT _ _ (if((1:Int)==0)=true then _ else _) _ _ s
 rw[if_neg (by decide)]
 refine ak (Kv pl (ak (Kv pu (ak (aq ?_)))))
 show aT _ _ (match ck.Slice.sliceAdjust lo hi 1 (n:Int)with|(lo,hi)=>pure (lo,(1:Int),ck.Slice.slicePlaces lo hi 1)) _ _ s
 rw[Rp lo hi n]
 show aT _ _ (pure (((sIx n 0 lo:Nat):Int),(1:Int),ck.Slice.slicePlaces ((sIx n 0 lo:Nat):Int) ((sIx n n hi:Nat):Int) 1)) _ _ s
 rw[Rq]
 exact aq h
theorem SE (xs:Array aa)(i k:Nat):((az k).filterMap λ(m:Nat)=>xs[((i:Int)+(m:Int)*1).toNat]?).toArray=((xs.toList.drop i).take k).toArray:=by
 have e:(λ(m:Nat)=>xs[((i:Int)+(m:Int)*1).toNat]?)=λm=>xs[i+m]?:=by
  funext m
  have:((i:Int)+(m:Int)*1).toNat=i+m:=by omega
  rw[this]
 rw[e]
 have:=pick_run xs i k
 rw[pj]at this
 have e2:((λx=>xs[x]?) ∘ λx=>i+x)=λm=>xs[i+m]?:=rfl
 rw[e2]at this
 rw[this]
theorem getItem_tuple_cut {t sl:af}{items:Array aa}{vl vu:aa}{lo hi:Option Int}{Q:aa->ao->Prop}(ht:IsTup s.heap t items)(hs:s.heap.IsSliceOf sl vl vu .none)(pl:IsPart vl lo)(pu:IsPart vu hi)
    (hw:¬(sIx items.size 0 lo=0/\sIx items.size items.size hi=items.size))
    (h:Q (.ref s.heap.objs.size) { s with heap:=s.heap.push { cls:=.type "tuple",data:=.seq ((items.toList.drop (sIx items.size 0 lo)).take (sIx items.size items.size hi-sIx items.size 0 lo)).toArray } })
    (hsz:items.size<=sizeLine):aT (aV prog w) A (nk (.ref t) (.ref sl)) Q E s:=by
  have md:sizeOk (.seq ((items.toList.drop (sIx items.size 0 lo)).take (sIx items.size items.size hi-sIx items.size 0 lo)).toArray):=by
    show((items.toList.drop (sIx items.size 0 lo)).take (sIx items.size items.size hi-sIx items.size 0 lo)).toArray.size<=sizeLine
    rw[aN,dD,fQ,dq]
    omega
  have hj:sIx items.size items.size hi<=items.size:=Vp _ _ (ar _) hi
  obtain⟨os,AW,rJ,tJ⟩:=id hs
  have NI:s.TypeIs (.ref sl) "slice":=⟨os,AW,rJ⟩
  unfold nk
  try with_reducible refine dY ?_
  first|refine ak (aq ?_)|skip
  refine ak (wpAny_sequenceKey ht.typeIs (by decide) ?_)
  refine ak (wpAny_callSpecial?_slot (name:=aR.ofString "__getitem__") ht.typeIs eR
    (wpAny_call_entry eR ht.typeIs entry_tuple_getitem ?_ (args_tuple_getitem _ _)))
  show aT _ _ (ck.Tuple.tupleItemsOf (.ref t) >>= _) _ _ s
  refine ak (tupleItemsOf_ ht ?_)
  refine ak (wpAny_typeOf NI ?_)
  rw[if_pos (by decide)]
  refine ak (Qr hs pl pu ?_)
  have Of:¬((((sIx items.size 0 lo:Nat):Int)==0&&(1:Int)==1&&(sIx items.size items.size hi-sIx items.size 0 lo)==items.size)=true):=by
    intro q
    rw[bN,bN]at q
    have q1:((sIx items.size 0 lo:Nat):Int)=0:=eq_of_beq q.1.1
    have q2:sIx items.size items.size hi-sIx items.size 0 lo=items.size:=eq_of_beq q.2
    exact hw ⟨by omega,by omega⟩
  show aT _ _ (if(((sIx items.size 0 lo:Nat):Int)==0&&(1:Int)==1&&(sIx items.size items.size hi-sIx items.size 0 lo)==items.size)=true then _ else _) _ _ s
  rw[if_neg Of,SE]
  first
    |exact ak (m:=ck.Tuple.tupleExact _) (cJ (aq ⟨_,rfl,aq h⟩) md)
    |exact ak (m:=ck.Tuple.tupleExact _) (cJ (ak (aq (aq ⟨_,rfl,aq h⟩))) md)
    |exact ak (ak (m:=ck.Tuple.tupleExact _) (cJ (aq (aq ⟨_,rfl,aq h⟩)) md))
    |exact ak (ak (m:=ck.Tuple.tupleExact _) (cJ (aq ⟨_,rfl,aq h⟩) md))
end
end HT
namespace L2
open PySem PySem.Spec PyProof.Rows
abbrev TO:=St->Hp->(Option Int->Hp->Prop)->Prop
def PO (X:Cx)(e:Option Expr)(t:TO):Prop :=
 ∀(ah:List (af×cP)) (s:ao) (σ:St) (H:Hp) (Q:Option Int->Hp->Prop),Inv X ah σ H s->t σ H Q ->
  aT (aV X.prog X.w) X.A (evalPart e X.env) (λu s'=>∃o H',Inv X ah σ H' s'/\IsPart u o/\Q o H') X.xe s
def sN:TO:=λ_ H Q=>Q none H
def Cu (t:TE):TO:=λσ H Q=>t σ H λx H1=>∃i,x=.int i/\Q (some i) H1
theorem Rr {ns:List Int}:∀{us:List aa},bR (ns.map V.int) us->IntsAre us ns:=by
 induction ns with
 |nil=>intro us r;rw[jZ]at r;cases r;exact .nil
 |cons n ns ih=>
  intro us r
  rw[bC]at r
  cases r with
  |cons r1 r2=>
   obtain⟨t,e⟩:=r1
   subst e
   exact .cons n t (ih r2)
section
variable {X:Cx}{e:Expr}{te:TE}{lo hi:Option Expr}{tl th:TO}{pos p2:cG}
theorem Tu:PO X none sN:=by
 intro ah s σ H Q I h
 rw[oV]
 exact aq ⟨none,H,I,.none,h⟩
theorem Lw (h:PE X e te):PO X (some e) (Cu te):=by
 intro ah s σ H Q I hw
 rw[evalPart_some]
 refine di (h ah s σ H _ I hw) λu s1 dk=>?_
 obtain⟨x,H1,I1,r1,q1⟩:=dk
 obtain⟨i,rfl,q⟩:=q1
 obtain⟨t,rfl⟩:=r1
 exact⟨some i,H1,I1,.int i t,q⟩
def Ez (X:Cx)(r:V->Option Int->Option Int->Hp->VK->Prop):Prop :=
 ∀(ah:List (af×cP)) (s:ao) (σ:St) (H:Hp) (x:V) (v vl vu:aa) (lo hi:Option Int) (sl:af) (Q:VK),Inv X ah σ H s->RelV x v->s.heap.IsSliceOf sl vl vu .none->IsPart vl lo->IsPart vu hi->r x lo hi H Q ->
  ∃T id,typeLookup (.type T) "__getitem__"=pure (some (.builtin id))/\s.TypeIs v T/\aT (aV X.prog X.w) X.A (nk v (.ref sl)) (EP X ah σ Q) X.xe s
def Qg (r:V->Option Int->Option Int->Hp->VK->Prop)(te:TE)(tl th:TO):TE:=λσ H Q=>te σ H λx H1=>tl σ H1 λl H2=>th σ H2 λu H3=>r x l u H3 Q
theorem K9 {r:V->Option Int->Option Int->Hp->VK->Prop}(hr:Ez X r)(he:PE X e te)(hl:PO X lo tl)(hu:PO X hi th):PE X (.Subscript e (.Slice lo hi none p2) pos) (Qg r te tl th):=by
  intro ah s σ H Q I h
  refine Subscript_ (di (he ah s σ H _ I h) λv s1 dk=>?_)
  obtain⟨x,H1,I1,r1,q1⟩:=dk
  refine wpAny_Slice (di (hl ah s1 σ H1 _ I1 q1) λvl s2 ⟨l,H2,I2,pl,q2⟩=>di (hu ah s2 σ H2 _ I2 q2) λvu s3 dk=>?_)
  obtain⟨u,H3,I3,pu,q3⟩:=dk
  rw[oV]
  refine aq ?_
  have I4:Inv X ah σ H3 { s3 with heap:=s3.heap.push { cls:=.type "slice",data:=.fields #[vl,vu,.none] } }:=I3.kept (t':=s3.toks) λb ob q=>ay _ q
  obtain⟨T,id,hT,ht,hg⟩:=hr ah { s3 with heap:=s3.heap.push { cls:=.type "slice",data:=.fields #[vl,vu,.none] } } σ H3 x v vl vu l u s3.heap.objs.size Q I4 r1 (rQ.new ..) pl pu q3
  show aT (aV X.prog X.w) X.A (subscriptTail e (.Slice lo hi none p2) v (.ref s3.heap.objs.size)) (EP X ah σ Q) X.xe { s3 with heap:=s3.heap.push { cls:=.type "slice",data:=.fields #[vl,vu,.none] } }
  exact tail_any (ops:=[.ref s3.heap.objs.size,v]) ht hT hg (by with_unfolding_all rfl)
def mH (xs:List V)(lo hi:Option Int):List V:=(xs.drop (HT.sIx xs.length 0 lo)).take (HT.sIx xs.length xs.length hi-HT.sIx xs.length 0 lo)
theorem Kk (xs:List V)(lo hi:Option Int):(mH xs lo hi).length<=xs.length:=by
 unfold mH
 rw[dD,fQ]
 omega
def GF (K:ae):V->Option Int->Option Int->Hp->VK->Prop:=λx lo hi H Q=>∃a xs,x=.ref a/\jJ K H a xs /\
 ¬(HT.sIx xs.length 0 lo=0/\HT.sIx xs.length xs.length hi=xs.length)/\∀p,H p=none->Q (.ref p) (upd H p (.tup (mH xs lo hi)))
theorem Vq:Ez X (GF X.K):=by
 intro ah s σ H x v vl vu lo hi sl Q I rx hs pl pu h
 obtain⟨a,xs,rfl,hx,hw,q⟩:=h
 cases rx
 obtain⟨cq,r,ht,hz⟩:=I.tuple hx
 have er:cq.toArray.size=xs.length:=by rw[aN];exact r.length.symm
 refine⟨"tuple",_,eR.lookup,ht.typeIs,?_⟩
 refine HT.getItem_tuple_cut ht hs pl pu (by rw[er];exact hw) ?_ (by rw[er];exact hz)
 rw[er]
 refine⟨.ref s.heap.objs.size,_,I.laid (t':=s.toks) (o:=.tup (mH xs lo hi)) (λb ob q=>ay _ q) (ar _) ?_,rfl,q _ (I.hok.fresh (ar _))⟩
 exact⟨cm (Kk xs lo hi) hz,_,(r.drop (HT.sIx xs.length 0 lo)).take (HT.sIx xs.length xs.length hi-HT.sIx xs.length 0 lo),IsTup.new _ _⟩
def tW (K:ae):R2:=λx y H Q=>∃a b xs ys,x=.ref a/\y=.ref b/\jJ K H a xs/\jJ K H b ys/\xs≠[]/\xs.length+ys.length<=sizeLine /\
 (ys=[]->Q (.ref a) H)/\(ys≠[]->∀p,H p=none->Q (.ref p) (upd H p (.tup (xs++ys))))
theorem bR.nil_iff {xs:List V}{us:List aa}(r:bR xs us):us=[]↔xs=[]:=by
 cases r with
 |nil=>simp
 |cons _ _=>simp
theorem Tv:fU X (dQ .Add) (tW X.K):=by
 intro ah s σ H x y v u Q I rx ry h
 obtain⟨a,b,xs,ys,rfl,rfl,ha,hb,hx,hz,q1,q2⟩:=h
 cases rx
 cases ry
 obtain⟨cq,r1,p1,_⟩:=I.tuple ha
 obtain⟨sk,r2,p2,_⟩:=I.tuple hb
 refine HT.cat_tup p1 p2 (λz=>hx (r1.nil_iff.mp z)) (λz=>⟨.ref a,H,I,rfl,q1 (r2.nil_iff.mp z)⟩) (λz=>?_) (by rw[←r1.length,←r2.length];exact hz)
 refine⟨.ref s.heap.objs.size,_,I.laid (t':=s.toks) (o:=.tup (xs++ys)) (λb ob q=>ay _ q) (ar _) ?_,rfl,q2 (λw=>z (r2.nil_iff.mpr w)) _ (I.hok.fresh (ar _))⟩
 exact⟨by rw[bq];exact hz,_,r1.append r2,IsTup.new _ _⟩
end
end L2
namespace L2
open PySem PySem.Spec PyProof.Rows
def ixN (n:Nat)(i:Int):Option Nat:=if 0<=i then(if i<n then some i.toNat else none)else if -(n:Int)<=i then some (i+n).toNat else none
def atI {α:Type}(xs:List α)(i:Int):Option α:=(ixN xs.length i).bind λj=>xs[j]?
theorem Lx {n:Nat}{i:Int}{j:Nat}(h:ixN n i=some j):seqIndex? i n=some j/\j<n/\-(n:Int)<=i/\i<n:=by
 unfold ixN at h
 by_cases h0:0<=i
 ·rw[if_pos h0]at h
  by_cases h1:i<n
  ·rw[if_pos h1]at h
   have e:i.toNat=j:=Option.some.inj h
   exact⟨by rw[mz h0 h1,e],by omega,by omega,h1⟩
  ·rw[if_neg h1]at h;cases h
 ·rw[if_neg h0]at h
  by_cases h1:-(n:Int)<=i
  ·rw[if_pos h1]at h
   have e:(i+n).toNat=j:=Option.some.inj h
   exact⟨by rw[lI (by omega) h1,e],by omega,h1,by omega⟩
  ·rw[if_neg h1]at h;cases h
theorem DZ {α:Type}{xs:List α}{i:Int}{v:α}(h:atI xs i=some v):∃j,seqIndex? i xs.length=some j/\xs[j]?=some v/\j<xs.length/\-(xs.length:Int)<=i/\i<xs.length:=by
 unfold atI at h
 cases e:ixN xs.length i with
 |none=>rw[e]at h;cases h
 |some j=>
  rw[e]at h
  obtain⟨h1,h2,h3,h4⟩:=Lx e
  exact⟨j,h1,h,h2,h3,h4⟩
theorem uj {α:Type}{xs:List α}{j:Nat}{v:α}(h:xs[j]?=some v):atI xs (j:Int)=some v:=by
 have hj:j<xs.length:=(aC.mp h).1
 have e:ixN xs.length (j:Int)=some j:=by
  unfold ixN
  rw[if_pos (by omega),if_pos (by omega)];simp
 unfold atI;rw[e];exact h
def kN (b:Expr):Prop:=∀o i,subscripted b false o i=operate [o,i] (nk o i)
def rE (X:Cx)(r:R2):Prop :=
 ∀(value slice:Expr) (ah:List (af×cP)) (s:ao) (σ:St) (H:Hp) (x y:V) (v u:aa) (Q:VK),Inv X ah σ H s->RelV x v->RelV y u->r x y H Q ->
  subscripted slice false v u=operate [v,u] (nk v u)->aT (aV X.prog X.w) X.A (subscriptTail value slice v u) (EP X ah σ Q) X.xe s
def MY (X:Cx)(id:String)(r:V->List V->Hp->VK->Prop):Prop :=
 ∀(ah:List (af×cP)) (s:ao) (σ:St) (H:Hp) (x:V) (xs:List V) (v:aa) (us:List aa) (Q:VK),Inv X ah σ H s->RelV x v->bR xs us->r x xs H Q ->
  aT (aV X.prog X.w) X.A (call (.builtin id) (v::us)) (EP X ah σ Q) X.xe s
section
variable {X:Cx}{a b:Expr}{ta tb:TE}{pos:cG}
theorem rE.or {r r':R2}(h:rE X r)(h':rE X r'):rE X (λx y H Q=>r x y H Q\/r' x y H Q):=by
 intro value slice ah s σ H x y v u Q I rx ry q hs
 rcases q with q|q
 ·exact h value slice ah s σ H x y v u Q I rx ry q hs
 ·exact h' value slice ah s σ H x y v u Q I rx ry q hs
theorem Mu {r:R2}(hr:rE X r)(ha:PE X a ta)(hb:PE X b tb)(hs:kN b):PE X (.Subscript a b pos) (DB r ta tb):=by
 intro ah s σ H Q I h
 exact Subscript_ (uO ha hb I h λv u s2 x y H2 I2 rx ry q=>hr a b ah s2 σ H2 x y v u Q I2 rx ry q (hs _ _))
def Cc (K:ae):R2:=λx y H Q=>∃p xs i v,x=.ref p/\y=.int i/\fw K H p xs/\atI xs i=some v/\Q v H
def Ce (K:ae):R2:=λx y H Q=>∃p xs i v,x=.ref p/\y=.int i/\jJ K H p xs/\atI xs i=some v/\Q v H
def Cd:R2:=λx y H Q=>∃z i c,x=.str z/\y=.int i/\z.length<=sizeLine/\atI z.cps.toList i=some c/\Q (.str ⟨#[c]⟩) H
theorem Ly:rE X (Cc X.K):=by
 intro value slice ah s σ H x y v u Q I rx ry h hs
 obtain⟨p,xs,i,z,rfl,rfl,hq,he,q⟩:=h
 cases rx
 obtain⟨t,rfl⟩:=ry
 obtain⟨cq,r,pl,hz⟩:=I.list hq
 obtain⟨j,h1,h2,h3,h4,h5⟩:=DZ he
 obtain⟨w,ew,oK⟩:=r.get h2
 have hl:=r.length
 have hn:=jG
 have fin:EP X ah σ Q w s:=⟨z,H,I,oK,q⟩
 by_cases h0:0<=i
 ·have hj:i.toNat=j:=by
   rw[mz h0 h5]at h1
   exact Option.some.inj h1
  exact item_listR pl.isList h0 (by omega) (by rw[hj];simpa using ew) fin hs
 ·have hj:(i+(cq.toArray.size:Int)).toNat=j:=by
   rw[lI (by omega) h4]at h1
   rw[aN,←hl]
   exact Option.some.inj h1
  exact subscriptTail_builtinR (x:=w) pl.isList.typeIs lJ.lookup
   (wpAny_getItem_list_neg (Q:=λr s'=>r=w/\EP X ah σ Q r s') pl.isList (by omega) (by rw[aN]<;>omega) (by omega) (by rw[hj];simpa using ew) ⟨rfl,fin⟩) hs
theorem Vr:rE X (Ce X.K):=by
 intro value slice ah s σ H x y v u Q I rx ry h hs
 obtain⟨p,xs,i,z,rfl,rfl,hq,he,q⟩:=h
 cases rx
 obtain⟨t,rfl⟩:=ry
 obtain⟨cq,r,pl,hz⟩:=I.tuple hq
 obtain⟨j,h1,h2,h3,h4,h5⟩:=DZ he
 obtain⟨w,ew,oK⟩:=r.get h2
 have hl:=r.length
 have hn:=jG
 have fin:EP X ah σ Q w s:=⟨z,H,I,oK,q⟩
 exact subscriptTail_builtinR (x:=w) pl.typeIs slot_tuple_getitem.lookup
  (getItem_tuple (j:=j) (Q:=λr s'=>r=w/\EP X ah σ Q r s') pl (by omega) (by omega) (by rw[aN,←hl];exact h1) (by simpa using ew) ⟨rfl,fin⟩) hs
theorem Vs:rE X Cd:=by
 intro value slice ah s σ H x y v u Q I rx ry h hs
 obtain⟨z,i,c,rfl,rfl,hz,he,q⟩:=h
 obtain⟨t,rfl⟩:=rx
 obtain⟨t',rfl⟩:=ry
 obtain⟨j,h1,h2,h3,h4,h5⟩:=DZ he
 have hl:z.cps.toList.length=z.length:=by simp[aR.length]
 rw[hl]at h1 h4 h5
 have hn:=jG
 exact tail_any (typeIs_str s z t) slot_str_getitem.lookup (getItem_str (c:=c) (by
  have e1:decide (i < -(2 ^ 63:Int))=false:=decide_eq_false (by omega)
  have e2:decide (i >= 2 ^ 63)=false:=decide_eq_false (by omega)
  rw[e1,e2,Bool.or_false]) (by rw[h1];simpa using h2) ⟨.str ⟨#[c]⟩,H,I.tok _,⟨_,rfl⟩,q⟩) hs
def JT (K:ae):R2:=λx y H Q=>Cc K x y H Q\/Ce K x y H Q\/Cd x y H Q
theorem jd:rE X (JT X.K):=Ly.or (Vr.or Vs)
theorem Rt (cq:List aa)(n j:Nat)(u:aa):cP.mapSeq (·.setIfInBounds j u) { cls:=.type "list",data:=.seq cq.toArray n } = { cls:=.type "list",data:=.seq (cq.set j u).toArray n }:=by
  simp[cP.mapSeq]
theorem Inv.lst {ah:List (af×cP)}{σ:St}{H:Hp}{s:ao}{p:af}{xs:List V}(I:Inv X ah σ H s)(h:H p=some (.lst xs)) :
    ∃(cq:List aa) (n:Nat),bR xs cq/\s.heap.get? p=some { cls:=.type "list",data:=.seq cq.toArray n }/\xs.length<=sizeLine:=by
  obtain⟨z,cq,n,r,e⟩:=I.hok p _ h
  exact⟨cq,n,r,e,z⟩
theorem Inv.lstUpd {ah:List (af×cP)}{σ:St}{H:Hp}{s:ao}{p:af}{xs ys:List V}{cq its':List aa}{n n':Nat}{f:cP->cP}(I:Inv X ah σ H s)(h:H p=some (.lst xs))
    (ho:s.heap.get? p=some { cls:=.type "list",data:=.seq cq.toArray n }) (hf:f { cls:=.type "list",data:=.seq cq.toArray n } = { cls:=.type "list",data:=.seq its'.toArray n' }) (r:bR ys its') (hz:ys.length<=sizeLine) (t:Nat) :
    Inv X ah σ (upd H p (.lst ys)) { s with heap:=s.heap.update p f,toks:=t }:=by
  have e:(s.heap.update p f).get? p=some { cls:=.type "list",data:=.seq its'.toArray n' }:=by
    rw[nJ f ho (by rw[hf]<;>rfl),hf]
  refine I.write (x:=p) (e:=p) (by rw[h];trivial) (.inl rfl) (λb u hb q=>(ng _ _ (Ne.symm hb)).trans q) ⟨_,e⟩ ?_
  exact⟨hz,its',n',r,e⟩
def Ci:V->V->V->Hp->(Hp->Prop)->Prop:=λo i v H Q=>∃p xs k j,o=.ref p/\i=.int k/\H p=some (.lst xs)/\ixN xs.length k=some j/\Q (upd H p (.lst (xs.set j v)))
theorem DM:uK X Ci:=by
 intro ah s σ H o i v ov iv u Q I ro ri rv h
 obtain⟨p,xs,k,j,rfl,rfl,hp,hj,q⟩:=h
 cases ro
 obtain⟨t,rfl⟩:=ri
 obtain⟨cq,n,r,ho,hz⟩:=I.lst hp
 obtain⟨h1,h2,h3,h4⟩:=Lx hj
 have hl:=r.length
 have hn:=jG
 have I':Inv X ah σ (upd H p (.lst (xs.set j v))) { s with heap:=s.heap.update p (cP.mapSeq (·.setIfInBounds j u)) } :=
  I.lstUpd hp ho (Rt cq n j u) (r.set rv j) (by rw[kW];exact hz) s.toks
 by_cases h0:0<=k
 ·have hk:k.toNat=j:=by
   rw[mz h0 h4]at h1
   exact Option.some.inj h1
  exact PySem.W.ki_setAt ho h0 (by omega) (by rw[aN,←hl];exact h4) (by rw[hk];exact⟨_,I',q⟩)
 ·have hk:(k+(cq.toArray.size:Int)).toNat=j:=by
   rw[lI (by omega) h3]at h1
   rw[aN,←hl]
   exact Option.some.inj h1
  exact PySem.W.ki_setBack ho (by omega) (by rw[aN,←hl];exact h3) (by omega) (by rw[hk];exact⟨_,I',q⟩)
theorem QI (lo hi:Option Int)(n:Nat):(fG lo hi none n).1=((HT.sIx n 0 lo:Nat):Int)/\(fG lo hi none n).2.1=((HT.sIx n n hi:Nat):Int)/\(fG lo hi none n).2.2=1:=by
 refine⟨?_,?_,rfl⟩
 ·cases lo with
  |none=>simp[fG,HT.sIx]
  |some i=>
   simp only[fG,HT.sIx,pA,show(1:Int) > 0 by decide,if_true]
   by_cases h:i<0
   ·simp only[h,if_true]<;>omega
   ·simp only[h,if_false]<;>omega
 ·cases hi with
  |none=>simp[fG,HT.sIx]
  |some i=>
   simp only[fG,HT.sIx,pA,show(1:Int) > 0 by decide,if_true]
   by_cases h:i<0
   ·simp only[h,if_true]<;>omega
   ·simp only[h,if_false]<;>omega
theorem QA (cq:List aa)(lo hi:Option Int):slicePick cq.toArray lo hi none=((cq.drop (HT.sIx cq.length 0 lo)).take (HT.sIx cq.length cq.length hi-HT.sIx cq.length 0 lo)).toArray:=by
 obtain⟨h1,h2,h3⟩:=QI lo hi cq.toArray.size
 unfold slicePick
 rw[h1,h2,h3]
 simp only[sliceRange_one,pick_run,aN]<;>rfl
def GD (K:ae):V->Option Int->Option Int->Hp->VK->Prop:=λx lo hi H Q=>∃a xs,x=.ref a/\fw K H a xs/\∀p,H p=none->Q (.ref p) (upd H p (.lst (mH xs lo hi)))
theorem Tw:Ez X (GD X.K):=by
 intro ah s σ H x v vl vu lo hi sl Q I rx hs pl pu h
 obtain⟨a,xs,rfl,hx,q⟩:=h
 cases rx
 obtain⟨cq,r,ht,hz⟩:=I.list hx
 have er:=r.length
 refine⟨"list",_,lJ.lookup,ht.isList.typeIs,?_⟩
 refine wpAny_getItem_list_slice ht.isList hs pl pu .none (by simp) ?_ (by rw[aN]<;>omega)
 rw[QA,←er]
 refine⟨.ref s.heap.objs.size,_,I.laid (t':=s.toks) (o:=.lst (mH xs lo hi)) (λb ob q=>ay _ q) (ar _) ?_,rfl,q _ (I.hok.fresh (ar _))⟩
 exact⟨cm (Kk xs lo hi) hz,_,0,(r.drop (HT.sIx xs.length 0 lo)).take (HT.sIx xs.length xs.length hi-HT.sIx xs.length 0 lo),bo _ rfl⟩
def IQ:V->Bool
 |.non=>true
 |.bl _=>true
 |.int _=>true
 |.str _=>true
 |_=>false
def IL:V->V->Bool
 |.non,.non=>true
 |.bl a,.bl b=>a==b
 |.bl a,.int b=>(if a then 1 else 0)==b
 |.int a,.bl b=>a==(if b then 1 else 0)
 |.int a,.int b=>a==b
 |.str a,.str b=>a==b
 |_,_=>false
theorem QJ:ez X (.builtin "len") (λxs H Q=>∃p ys,xs=[.ref p]/\(fw X.K H p ys\/jJ X.K H p ys)/\Q (.int ys.length) H):=by
 intro ah s σ H xs us Q I r h
 obtain⟨p,ys,rfl,hq,q⟩:=h
 obtain⟨u,rfl,rx⟩:=mr r
 cases rx
 have hn:=jG
 rcases hq with hq|hq
 ·obtain⟨cq,r',pl,hz⟩:=I.list hq
  have er:=r'.length
  exact Calls.call_len_list pl.isList (by simp only[aN]<;>omega) ⟨.int ys.length,H,I.tok _,⟨s.toks+1,by rw[aN,er]⟩,q⟩
 ·obtain⟨cq,r',pl,hz⟩:=I.tuple hq
  have er:=r'.length
  exact len_tuple pl (by simp only[aN]<;>omega) ⟨.int ys.length,H,I.tok _,⟨s.toks+1,by rw[aN,er]⟩,q⟩
theorem QK:ez X (.builtin "len") (λxs H Q=>∃z,xs=[.str z]/\z.length<=sizeLine/\Q (.int z.length) H):=by
 intro ah s σ H xs us Q I r h
 obtain⟨z,rfl,hz,q⟩:=h
 obtain⟨u,rfl,t,rfl⟩:=mr r
 have hn:=jG
 exact len_str (by omega) ⟨.int z.length,H,I.tok _,⟨_,rfl⟩,q⟩
theorem ez.or {f:aa}{r r':List V->Hp->VK->Prop}(h:ez X f r)(h':ez X f r'):ez X f (λxs H Q=>r xs H Q\/r' xs H Q):=by
 intro ah s σ H xs us Q I rs q
 rcases q with q|q
 ·exact h ah s σ H xs us Q I rs q
 ·exact h' ah s σ H xs us Q I rs q
theorem ua:ez X (.type "list") (λxs H Q=>∃p ys,xs=[.ref p]/\(fw X.K H p ys\/jJ X.K H p ys)/\∀l,H l=none->Q (.ref l) (upd H l (.lst ys))):=by
  intro ah s σ H xs us Q I r h
  obtain⟨p,ys,rfl,hq,q⟩:=h
  obtain⟨u,rfl,rx⟩:=mr r
  cases rx
  have fin:∀(cq:List aa),bR ys cq->ys.length<=sizeLine->∀(h':aK) (c':Nat),(∀b o',s.heap.get? b=some o'->h'.get? b=some o') ->
      h'.get? s.heap.objs.size=some { cls:=.type "list",dict:=none,data:=.seq cq.toArray c',slots:=#[] }->EP X ah σ Q (.ref s.heap.objs.size) { s with heap:=h' }:=λcq r' hz h' c' kp e=>
    ⟨.ref s.heap.objs.size,_,I.laid (t':=s.toks) kp (ar _) (show dA X.prog X.w _ h' _ (.lst ys)from⟨hz,cq,c',r',e⟩),rfl,q _ (I.hok.fresh (ar _))⟩
  rcases hq with hq|hq
  · obtain⟨cq,r',pl,hz⟩:=I.list hq
    have er:=r'.length
    obtain⟨o,ho,hc,n,hd⟩:=pl.isList
    exact call_list_seq p (.inl rfl) ho hc hd (λh' c' kp e=>fin cq r' hz h' c' kp e) (by simp only[aN]<;>omega)
  · obtain⟨cq,r',pl,hz⟩:=I.tuple hq
    have er:=r'.length
    obtain⟨o,ho,hc,n,hd⟩:=pl
    exact call_list_seq p (.inr rfl) ho hc hd (λh' c' kp e=>fin cq r' hz h' c' kp e) (by simp only[aN]<;>omega)
def J2 (K:ae)(T:String)(x:V)(H:Hp):Prop:=match x with
 |.str _=>T = "str"
 |.int _=>T = "int"
 |.ref p=>(T = "list"/\∃xs,fw K H p xs)\/(T = "tuple"/\∃o,K.lookup p=some o/\o.cls=.type "tuple"/\o.dict=none) \/
   (T = "dict"/\((∃bT,H p=some (.dK bT))\/∃bT,H p=some (.dT bT)))\/(T = "set"/\∃S n,H p=some (.set S n))
 |_=>False
theorem Vt {ah:List (af×cP)}{σ:St}{H:Hp}{s:ao}{T:String}{x:V}{v:aa}(I:Inv X ah σ H s)(r:RelV x v)(ty:J2 X.K T x H) :
  s.TypeIs v T/\∀a,v=.ref a->∃ob,s.heap.get? a=some ob/\ob.dict=none:=by
 cases x with
 |str z=>
  obtain⟨t,rfl⟩:=r
  cases(show T = "str" from ty)
  exact⟨typeIs_str s z t,λ_ e=>nomatch e⟩
 |int i=>
  obtain⟨t,rfl⟩:=r
  cases(show T = "int" from ty)
  exact⟨sY s i t,λ_ e=>nomatch e⟩
 |ref p=>
  cases r
  rcases ty with⟨rfl,xs,hq⟩|⟨rfl,o,hk,hc,hd⟩|⟨rfl,hk⟩|⟨rfl,S,n,hk⟩
  ·obtain⟨cq,_,pl,_⟩:=I.list hq
   refine⟨pl.isList.typeIs,λa e=>?_⟩
   cases e
   obtain⟨o,n,e,c,hd,_⟩:=pl
   exact⟨o,e,hd⟩
  ·refine⟨⟨o,I.kIn p o hk,hc⟩,λa e=>?_⟩
   cases e
   exact⟨o,I.kIn _ o hk,hd⟩
  ·have z:∃o,s.heap.get? p=some o/\o.ExactDict:=by
    rcases hk with⟨bT,hk⟩|⟨bT,hk⟩
    ·obtain⟨_,_,_,_,o,_,_,e,ex,_⟩:=I.hok p _ hk
     exact⟨o,e,ex⟩
    ·obtain⟨_,_,_,_,o,_,_,e,ex,_⟩:=I.hok p _ hk
     exact⟨o,e,ex⟩
   obtain⟨o,e,ex⟩:=z
   refine⟨⟨o,e,ex.1⟩,λa e2=>?_⟩
   cases e2
   exact⟨o,e,ex.2.1⟩
  ·obtain⟨o,_,_,_,e,ex,_⟩:=I.hok p _ hk
   refine⟨⟨o,e,ex.1⟩,λa e2=>?_⟩
   cases e2
   exact⟨o,e,ex.2.1⟩
 |_=>exact False.elim ty
def Qd (K:ae)(T:String)(r:V->List V->Hp->VK->Prop)(to:TE)(t:TA):TE:=λσ H Q=>to σ H λx H1=>J2 K T x H1/\t σ H1 λxs H2=>r x xs H2 Q
variable {o e:Expr}{es:List Expr}{to:TE}{t:TA}{name:aR}{dE d9:cG}{T id:String}{r:V->List V->Hp->VK->Prop}
theorem Wk (pa:PlainAttrs T)(slot:Slot T name id)(Oq:typeOf (.builtin id)=pure (.type "method_descriptor"))(hm:MY X id r)(ho:PE X o to)(ha:PA X (e::es) t)
  (qI:e9 o name X.env (bS o X.env)=bS o X.env:=by rfl)
  (vT:((cD d9 (aw (e::es) X.env)).all (λx=>!x.1)&&(fk d9 (dH [] X.env)).all (λx=>x.1.isSome)
   && decide ((e::es).length+([]:List iu).length+(if([]:List iu).isEmpty then 0 else 1)<30))=true:=by rfl)
  (qO:(dE.endLine==d9.line)=true:=by rfl) (hs:aw (e::es) X.env=(false,bS e X.env)::aw es X.env:=by rfl) (oF:(cD d9 (aw es X.env)).any (·.1)=false:=by rfl) :
  PE X (.Call (.Attribute o name dE) (e::es) [] d9) (Qd X.K T r to t):=by
 intro ah s σ H Q I h
 refine wpAny_Call_method_late qI vT qO rfl (di (ho ah s σ H _ I h) λv s1 dk=>?_)
 obtain⟨x,H1,I1,r1,ty,q1⟩:=dk
 obtain⟨h1,h2⟩:=Vt I1 r1 ty
 refine⟨T,id,pa,slot,Oq,h1,h2,?_⟩
 have hA:=ha d9 ah s1 σ H1 _ I1 q1
 rw[hs]at hA ⊢
 refine Calls.callWith_builtin (by show(false || (cD d9 (aw es X.env)).any (·.1))=false;rw[oF]<;>rfl) (Calls.evalArgs_plain ?_)
 exact di hA λus s2 ⟨vs,H2,I2,r2,q2⟩=>hm ah s2 σ H2 x vs v us Q I2 r1 r2 q2
end
end L2
namespace L2
open PySem PySem.Spec PyProof.Rows
def MX (X:Cx)(id:String)(r:V->List V->Hp->VK->Prop):Prop :=
 ∀(ah:List (af×cP)) (s:ao) (σ:St) (H:Hp) (x:V) (xs:List V) (v:aa) (us:List aa) (Q:VK),Inv X ah σ H s->RelV x v->bR xs us->r x xs H Q ->
  aT (aV X.prog X.w) X.A (call (.builtin id) (v::us)) (EP X ah σ Q) X.xe s
theorem bR.one:∀{x:V} {us:List aa},bR [x] us->∃u,us=[u]/\RelV x u
 |_,_,.cons r .nil=>⟨_,rfl,r⟩
theorem bR.reverse {xs:List V}{us:List aa}(h:bR xs us):bR xs.reverse us.reverse:=by
 induction h with
 |nil=>exact .nil
 |cons r t ih=>rw[gK,gK];exact bR.append ih (.cons r .nil)
theorem bR.rep {xs:List V}{us:List aa}(h:bR xs us):∀k:Nat,bR (aG k xs).flatten (aG k us).flatten
 |0=>.nil
 |k+1=>by
  rw[cA,cA,eu,eu]
  exact bR.append h (bR.rep h k)
theorem foldl_rep (cq:List aa):∀(k:Nat) (fM:List aa),
  pv (λx1 x2=>x1++x2) fM.toArray (aG k cq.toArray)=(fM++(aG k cq).flatten).toArray
 |0,fM=>by simp
 |k+1,fM=>by
  have e:fM.toArray++cq.toArray=(fM++cq).toArray:=by simp
  have e2:(fM++cq)++(aG k cq).flatten=fM++(aG (k+1) cq).flatten:=by
   rw[cA,eu,gJ]
  rw[←e2,←foldl_rep cq k (fM++cq),←e,cA,dP]
section
variable {X:Cx}{ah:List (af×cP)}{σ:St}{H:Hp}{s:ao}{l b:af}{xs ys zs:List V}
theorem Inv.lset {cq its':List aa}{n:Nat}{f:Array aa->Array aa}{t':Nat}(I:Inv X ah σ H s)(hH:H l=some (.lst xs))
    (e:s.heap.get? l=some { cls:=.type "list",data:=.seq cq.toArray n }) (hf:f cq.toArray=its'.toArray) (hv:bR ys its') (hz:ys.length<=sizeLine) :
    Inv X ah σ (upd H l (.lst ys)) { s with heap:=s.heap.update l (cP.mapSeq f),toks:=t' }:=by
  have q:=PySem.IsL.update e f
  rw[hf]at q
  refine I.write (x:=l) (e:=l) (by rw[hH];exact trivial) (.inl rfl) (λb' u hb hu=>(ng s.heap (cP.mapSeq f) (Ne.symm hb)).trans hu) ⟨_,q⟩ ?_
  exact⟨hz,its',_,hv,q⟩
theorem Inv.lnew {cq:List aa}{t':Nat}(I:Inv X ah σ H s)(hv:bR ys cq)(hz:ys.length<=sizeLine) :
    Inv X ah σ (upd H s.heap.objs.size (.lst ys)) { s with heap:=s.heap.push { cls:=.type "list",data:=.seq cq.toArray },toks:=t' } :=
  I.laid (λ_ _ q=>ay _ q) (ar _) ⟨hz,cq,0,hv,bo _ rfl⟩
theorem Inv.fresh (I:Inv X ah σ H s):H s.heap.objs.size=none:=I.hok.fresh (ar _)
theorem Inv.lstM (I:Inv X ah σ H s)(hH:H l=some (.lst xs)):xs.length<=sizeLine/\∃(cq:List aa) (n:Nat),bR xs cq/\xs.length=cq.length/\s.heap.get? l=some { cls:=.type "list",data:=.seq cq.toArray n }:=by
  obtain⟨z,cq,n,r,e⟩:=I.hok l _ hH
  exact⟨z,cq,n,r,r.length,e⟩
theorem qX {n:Nat}(h:n<=sizeLine):ck.List.listTooLong n=false:=by
 unfold ck.List.listTooLong
 exact decide_eq_false (by omega)
end
section
variable {X:Cx}
def sK:V->List V->Hp->VK->Prop:=λx vs H Q=>∃l xs y,x=.ref l/\vs=[y]/\H l=some (.lst xs)/\xs.length<sizeLine/\Q .non (upd H l (.lst (xs++[y])))
theorem G8:MX X "list.append" sK:=by
 intro ah s σ H x vs v us Q I rx rv h
 obtain⟨l,xs,y,rfl,rfl,hH,hz,q⟩:=h
 cases rx
 obtain⟨u,rfl,ru⟩:=rv.one
 obtain⟨z,cq,n,r,hl,e⟩:=I.lstM hH
 refine sX F.slot_list_append ⟨_,e,rfl⟩ F.entry_list_append (F.args_list_append_2 _ _) (PySem.list_append l cq.toArray n u (by rw[aN];omega)) ⟨e,?_⟩
 refine⟨.non,_,I.lset (its':=cq++[u]) hH e (by simp) (r.append (.cons ru .nil)) ?_,rfl,q⟩
 rw[bq,fK]
 omega
theorem Tx {α:Type}(xs:List α)(k:Nat):(aG k xs).flatten.length=k*xs.length:=by
 induction k with
 |zero=>simp
 |succ k ih=>rw[cA,eu,bq,ih,nQ,Nat.add_comm]
end
section
variable {prog:bb}{w:bG}{A:bz}{E:aa->ao->Prop}{s:ao}
end
section
variable {X:Cx}
end
end L2
namespace Att
open PySem PySem.W PySem.Calls PyProof.Rows
theorem Qy {P:Params}{h:aK}:∀(ns:List Int) (vs:List aa),WellAll P h vs (ns.map WData.int)->IntsAre vs ns:=by
 intro ns
 induction ns with
 |nil=>
  intro vs w
  rw[jZ]at w
  cases w
  exact .nil
 |cons n ns ih=>
  intro vs w
  rw[bC]at w
  cases w with
  |cons a b=>
   cases a
   exact .cons _ _ (ih _ b)
theorem Rv {l:OpenLaw}{n:Nat}(hn:l.most=some n){P:Params}{h:aK}{args:List WData}{vals:List aa}
    (mP:l.row.toRowW.claim.pre args=true) (Gh:WellAll P h vals args) :
    ∃a vs ns,vals=[aa.ref a]/\args=[WData.list (ns.map WData.int)]/\h.get? a=some { cls:=.type "list",data:=.seq vs.toArray }/\IntsAre vs ns/\ns.length<=n:=by
  have On:WShape.hasAll [] args [.list .int]=true:=(pre_splitW mP).1
  have hc:l.pre.holds [] { args:=args }=true:=(pre_splitW mP).2
  obtain⟨d,r,rfl,h1,h2⟩:=hasAllW_cons On
  obtain rfl:=hasAllW_nil h2
  obtain⟨xs,rfl,h3⟩:=hasW_list h1
  obtain⟨ns,rfl⟩:=items_int h3
  have er:ns.length<=n:=by
    unfold OpenLaw.pre at hc
    have h4:(WTm.not (.lt (.lit (.int (n:Int))) (.len (.arg 0)))).holds [] { args:=[.list (ns.map .int)] }=true:=by
      have h4:=(holds_andW hc).1
      rw[hn]at h4
      exact h4
    have h5:=condW_of h4 (w_not (w_lt w_lit (w_len_list (w_arg rfl))))
    rw[aD]at h5
    refine Nat.le_of_not_lt λq=>?_
    have q':(n:Int)<((ns.length:Nat):Int):=by omega
    first
      |(rw[decide_eq_true q']at h5;exact absurd h5 (by decide))
      |(simp at h5;omega)
  cases Gh with
  |cons w1 w2=>
    cases w2
    cases w1 with
    |list ho qH=>exact⟨_,_,ns,rfl,rfl,ho,Qy ns _ qH,er⟩
theorem Rw (l:OpenLaw)(args:List WData):l.row.toRowW.claim.post args (.bool true) args=true :=
  postW_of (r:=l.row.toRowW) (X:=(true==true))
    (show WShape.has [] (.bool true) .bool=true by first|rfl|decide|simp[WShape.has,WShape.arms,WShape.armsAll])
    (show(WTm.eq .res (.lit (.bool true))).value [] { args:=args,res:=some (.bool true),after:=args }=some (.bool (true==true))from w_eq_bool (w_res rfl) w_lit) rfl
theorem attach_call {l:OpenLaw}{n:Nat}{q:bb}{loose:List aR}{XP:(aR->Option aa)->aK->Prop}{YP:bG->aK->Prop}{d:DefRec}
    (hn:l.most=some n) (AM:d.params.defaults=[])
    (call:∀(w:bG) (s₀ s₁:ao) (mg mb:aR->Option aa) (fa:af) (o:cP) (pm cd doc:aa) (a:af) (vs:List aa) (ns:List Int),
      Ground q loose [] XP w s₀ mg mb s₁.heap->YP w s₁.heap ->
      s₁.heap.get? fa=some o->o.data=.func (docDef d.name d.params d.body d.scope pm cd doc)->s₁.heap.CodeRec cd d.name->mg d.name=some (.ref fa) ->
      s₁.heap.get? a=some { cls:=.type "list",data:=.seq vs.toArray }->IntsAre vs ns->ns.length<=n->s₁.gens = #[] ->
      gL (aV l.prog w) lG (.call (.ref fa) ⟨[.ref a],[]⟩) (λr s'=>r=.ok (.ret (.bool true))/\OldK s₁.heap s'.heap/\s'.os=s₁.os/\AllBare s'.gens) s₁) :
    WalkO q loose XP YP l.row.toRowW d [] (λf vs=>PySem.call f vs):=by
  intro w s₀ s₁ mg mb G Y fa o pm cd doc dV kV ho hd iX hD hmg hg args vals as mP Ob WZ Gh WX
  obtain rfl:dV=.none:=Dflts.none hD AM
  obtain rfl:kV=.none:=Dflts.noKw hD
  obtain⟨a,vs,ns,rfl,rfl,vY,qN,er⟩:=Rv hn mP Gh
  refine enter_call (lH (call w s₀ s₁ mg mb fa o pm cd doc a vs ns G Y ho (fd_plain hd) iX hmg vY qN er hg) λr s' hq=>?_)
  obtain⟨rfl,h2,h3,h4⟩:=hq
  exact⟨.inl ⟨.bool true,.bool true,[],rfl,λ_=>rfl,.bool true,Rw l _,λ_=>⟨List.Pairwise.nil,λ_ hm=>(nomatch hm)⟩⟩,h2,h3,h4⟩
section
variable {prog:bb}{w:bG}{A:bz}{E:aa->ao->Prop}{s:ao}{K:Frag}
end
end Att
namespace L2
open PySem PySem.Spec PyProof.Rows
theorem KJ:∀{vs:List aa} {ns:List Int},IntsAre vs ns->bR (ns.map V.int) vs
 |_,_,.nil=>.nil
 |_,_,.cons n t h=>.cons ⟨t,rfl⟩ (KJ h)
def uI (H:Hp):Prop:=∀b,H b=none\/∃o xs,H b=some (.frz o (.lst xs))
theorem SG {P:bb}{w:bG}{K:ae}{mg mb:aR->Option aa}{CX:p4}{k:Nat}{fa a:af}{fd:aS}{x:aR}{sp:Sp}{s₁:ao}{vs:List aa}{ns:List Int}
    (KX:K.In s₁.heap) (p5:s₁.heap.Ns aB mg) (hb:s₁.heap.Ns sW mb) (NN:∀x:aR,x≠"__name__"->mb x=bU x) (FU:s₁.heap.NoLimit) (hg:s₁.gens = #[])
    (ha:s₁.heap.get? a=some { cls:=.type "list",data:=.seq vs.toArray }) (hi:IntsAre vs ns) (hl:ns.length<=sizeLine) (hr:ed k lG)
    (F:∀base:aK,K.In base->base.Ns aB mg->cS P w K mg base CX k fa fd [x] sp) (AL:∀(s:ao) (u:aa),ni s fd ⟨[u],[]⟩ [(x,u)])
    (tO:∀H:Hp,uI H->fw K H a (ns.map V.int)->sp [.ref a] H (λv _=>v=.bl true) λ_ _ _=>False)
    (Fx:∀H e s',CX [] H s₁ (λ_ _ _=>False) e s'->False) :
    gL (aV P w) lG (.call (.ref fa) ⟨[.ref a],[]⟩) (λr s'=>r=.ok (.ret (.bool true))/\OldK s₁.heap s'.heap/\s'.os=s₁.os/\AllBare s'.gens) s₁:=by
  have rv:=KJ hi
  have Gs:=hi.length
  have core:∀H:Hp,uI H->fw K H a (ns.map V.int)->jC P w H s₁.heap->(∀b,H b≠none->b=a)->(H a≠none->K.lookup a=none) ->
      gL (aV P w) lG (.call (.ref fa) ⟨[.ref a],[]⟩) (λr s'=>r=.ok (.ret (.bool true))/\OldK s₁.heap s'.heap/\s'.os=s₁.os/\AllBare s'.gens) s₁:=by
    intro H hO hS hok hA hK
    have oY:∀{b:af} {o:cP},s₁.heap.get? b=some o->H b=none->(mN s₁.heap H).get? b=some o:=λe n=>R6 e n
    have BG:∀{b:af} {o:cP} {es:Array DictEntry} {ep:Nat},s₁.heap.get? b=some o->o.data=.dict es ep->H b=none:=λ{b o es ep} e d=>by
      cases q:H b with
      |none=>rfl
      |some u=>
        have e':b=a:=hA b (by rw[q];simp)
        subst e'
        rw[ha]at e;cases e
        have d':oU.seq vs.toArray _=oU.dict es ep:=d
        cases d'
    have Dy:∀{b:af} {m:aR->Option aa},s₁.heap.Ns b m->(mN s₁.heap H).Ns b m:=λ{b m} ⟨o,es,ep,e,d,r⟩=>⟨o,es,ep,oY e (BG e d),d,r⟩
    have IV:K.In (mN s₁.heap H):=λb o e=>oY (KX b o e) (by
      cases q:H b with
      |none=>rfl
      |some u=>
        have e':b=a:=hA b (by rw[q];simp)
        subst e'
        rw[hK (by rw[q];simp)]at e;cases e)
    have hM:Mod K mg (mN s₁.heap H):=⟨IV,Dy p5,⟨mb,Dy hb,NN⟩,let⟨mc,h1,h2⟩:=FU;⟨mc,Dy h1,h2⟩⟩
    have e0:oe P w K mg (mN s₁.heap H) lG [] s₁ H:=⟨rfl,hM,λb o e=>TJ e,nN (RG _ _),trivial,λb hb=>absurd (show b∈([]:List af)from hb) (by simp),hok,.of_eq hg⟩
    refine lH ((F _ IV (Dy p5)).run lG [] s₁ H ⟨[.ref a],[]⟩ [.ref a] [.ref a] _ _ hr e0 (AL s₁ (.ref a)) (.cons rfl .nil) (tO H hO hS)) λr s' h=>?_
    cases r with
    |error e=>exact(Fx H e s' h).elim
    |ok fl=>
      cases fl with
      |next=>exact False.elim h
      |brk=>exact False.elim h
      |cont=>exact False.elim h
      |ret u=>
        obtain⟨v,H',os,bare,un,FZ,r',q⟩:=h
        have q':v=.bl true:=q
        subst q'
        obtain rfl:u=aa.bool true:=r'
        refine⟨rfl,OldK.of_keep λb o e=>?_,os,bare⟩
        cases q:H b with
        |none=>exact un.keep b o e q (by intro z;exact absurd (show b∈([]:List af)from z) (by simp)) (by simp)
        |some u=>
          rcases hO b with z|⟨ob,xs,z⟩
          · rw[q]at z;cases z
          · have z2:=un.frzs b ob _ z
            obtain⟨e1,_⟩:=hok b _ z
            obtain⟨e2,_⟩:=FZ b _ z2
            rw[e]at e1;cases e1
            exact e2
  cases hk:K.lookup a with
  |some o=>
    have e:=KX a o hk
    rw[ha]at e
    cases e
    refine core (λ_=>none) (λ_=>.inl rfl) (.inr ⟨_,vs.toArray,_,hk,rfl,rfl,rfl,by rw[aN,Gs];exact hl,by simpa using rv⟩) (λb u z=>by have z':(none:Option HO)=some u:=z;cases z') (λb z=>absurd rfl z) λz=>absurd rfl z
  |none=>
    refine core (λb=>if b=a then some (.frz { cls:=.type "list",data:=.seq vs.toArray } (.lst (ns.map V.int)))else none) (λb=>?_) (.inl (.inr ⟨{ cls:=.type "list",data:=.seq vs.toArray },if_pos rfl⟩)) (λb u z=>?_) (λb z=>?_) λ_=>hk
    · by_cases hb:b=a
      · exact .inr ⟨_,_,if_pos hb⟩
      · exact .inl (if_neg hb)
    · by_cases hb:b=a
      · have z':=(if_pos hb).symm.trans z
        cases z'
        subst hb
        exact⟨ha,by rw[aD];exact hl,vs,_,rv,ha⟩
      · have z':=(if_neg hb).symm.trans z
        cases z'
    · by_cases hb:b=a
      · exact hb
      · exact absurd (if_neg hb) z
end L2
namespace L2
open PySem PySem.Spec PyProof.Rows
theorem walk_of {l:kn}{n k:Nat}{q:bb}{loose:List aR}{XP:(aR->Option aa)->aK->Prop}{YP:bG->aK->Prop}{d:DefRec}{K:Params->ae}{CX:bG->p4}{sp:bG->Sp}{x:aR}
  (hn:l.most=some n) (tL:n<=sizeLine) (AM:d.params.defaults=[]) (hr:ed k lG)
  (hY:∀(w:bG) (h:aK),YP w h->(K w.params).In h)
  (F:∀(w:bG) (mg:aR->Option aa) (fa:af) (h:aK),(K w.params).In h->h.Ns aB mg->mg d.name=some (.ref fa) ->
   ∃fd:aS,(∀(s:ao) (u:aa),ni s fd ⟨[u],[]⟩ [(x,u)]) /\
    ∀base:aK,(K w.params).In base->base.Ns aB mg->cS l.prog w (K w.params) mg base (CX w) k fa fd [x] (sp w))
  (tO:∀(w:bG) (H:Hp) (a:af) (ns:List Int),ns.length<=n->uI H->fw (K w.params) H a (ns.map V.int)->sp w [.ref a] H (λv _=>v=.bl true) λ_ _ _=>False)
  (Fx:∀(w:bG) (H:Hp) (s:ao) (e:aa) (s':ao),CX w [] H s (λ_ _ _=>False) e s'->False) :
  p9 q loose XP YP l.row.toRowW d [] (λf vs=>PySem.call f vs):=by
 refine Att.attach_call hn AM λw s₀ s₁ mg mb fa o pm cd doc a vs ns G Y ho hd iX hmg vY qN er hg=>?_
 have KX:=hY w _ Y
 obtain⟨fd,hb,hF⟩:=F w mg fa _ KX G.T.g hmg
 exact SG KX G.T.g G.T.b G.T.builtins G.T.nolimit hg vY qN (cm er tL) hr hF hb (λH hO hS=>tO w H a ns er hO hS) λH e s'=>Fx w H s₁ e s'
end L2
namespace L2
open PySem PySem.Spec PyProof.Rows
def inClass (s:cp)(j:Nat):cp:=match s with
 |.ClassDef _ _ _ body _ _ _ _ _ _ _=>body.getD j (.Pass ⟨0,0,0,0⟩)
 |_=>.Pass ⟨0,0,0,0⟩
def kO (s:cp):Arguments:=match s with
  |.FunctionDef _ a _ _ _ _ _ _ _ _=>a
  |_=>{ posonlyargs:=[],args:=[],vararg:=none,kwonlyargs:=[],kw_defaults:=[],kwarg:=none,defaults:=[] }
def gG (s:cp):List cp:=match s with
 |.FunctionDef _ _ b _ _ _ _ _ _ _=>b
 |_=>[]
def bg (s:cp):fF:=match s with
  |.FunctionDef _ _ _ _ _ _ sc _ _ _=>sc
  |_=>{ kind:=.function,names:=[],isGenerator:=false,isCoroutine:=false }
abbrev fE:p4:=λ_ _ _ _ _ _=>False
abbrev E0:XK:=λ_ _ _=>False
theorem nE {X:Cx}:iH fE X E0:=λ_ _ _ _ _ _ _ h=>h.elim
section
variable {P:bb}{w:bG}{K:ae}{mg:aR->Option aa}{base:aK}
end
theorem sS {A:bz}{k:Nat}(hr:ed k A):A.units+1<gQ:=pW (Nat.add_le_add_left (by decide:1<=64) _) hr.units
theorem pS {n:Nat}(h:n<=1000):n<sizeLine:=pW h (by decide)
section
variable {X:Cx}
end
def bO (H H':Hp):Prop:=∀b o,H b=some o->H' b=some o
theorem bO.refl (H:Hp):bO H H:=λ_ _ h=>h
theorem bO.trans {H H1 H2:Hp}(a:bO H H1)(b:bO H1 H2):bO H H2:=λc o h=>b c o (a c o h)
theorem bO.free {H H':Hp}(e:bO H H'){l:af}(h:H' l=Option.none):H l=Option.none:=by
 cases q:H l with
 |none=>rfl
 |some o=>
  rw[e l o q]at h
  cases h
theorem bO.seq {K:ae}{H H':Hp}{a:af}{xs:List V}(e:bO H H')(h:fw K H a xs):fw K H' a xs:=by
 rcases h with(h|⟨o,h⟩)|h
 ·exact .inl (.inl (e _ _ h))
 ·exact .inl (.inr ⟨o,e _ _ h⟩)
 ·exact .inr h
end L2
namespace L2
open PySem PySem.Spec PyProof.Rows
def MZ (a C:af)(dx tb:Option af)(h:aK):Prop :=
  ∃a0,h.get? a=some { cls:=.ref C,dict:=dx,data:=.fields #[a0,tb.elim aa.none .ref,.none,.none,.bool false,.none] }
abbrev J7 (a C:af)(dx tb:Option af):HO:=.ext (MZ a C dx tb)
section
variable {X:Cx}{ah:List (af×cP)}{σ:St}{H:Hp}{s:ao}{a C:af}{dx tb:Option af}{M:Model}{A1 A2:bz}{E1 E2:aa->ao->Prop}
end
abbrev GK:=St->af->Hp->Prop
section
variable {X:Cx}{k:Nat}{f C:af}{fd:aS}{ps:List aR}{sp:Sp}{hU:List V}{ds:List aa}{G:GK}{x m:aR}{p pos dE:cG}{e o:Expr}{es:List Expr}{ta:TE}{t:TA}
end
end L2
namespace L2
open PySem PySem.Spec PyProof.Rows
section
variable {nm q:aR}{C N:af}{bs bm:List aa}{FH:Bool}{sn:List aR}{sub:List aa}{ab:Bool}{col:Option Bool}{dd:Option af}{k0 k1 k2 k3 k5:Option aa}
variable {prog:bb}{w:bG}{A:bz}{R:Result->ao->Prop}{h:aK}{g:Array GenState}{d:Drawn}{t:Nat}{os:OsState}
end
end L2
namespace L2
open PySem PySem.Spec PyProof.Rows
section
variable {nm q:aR}{C N:af}{bs bm:List aa}{FH:Bool}{sn:List aR}{sub:List aa}{ab:Bool}{col:Option Bool}{dd:Option af}{k0 k1 k2 k3 k5:Option aa}
variable {prog:bb}{w:bG}{A:bz}{E:aa->ao->Prop}{h:aK}{g:Array GenState}{d:Drawn}{t:Nat}{os:OsState}
end
section
variable {nm q:aR}{C N:af}{bs bm:List aa}{sn:List aR}{sub:List aa}{ab:Bool}{col:Option Bool}{dd:Option af}{k0 k1 k2 k3 k5:Option aa}
variable {prog:bb}{w:bG}{A:bz}{E:aa->ao->Prop}{s:ao}{K:ae}{x:af}{dt:oU}{sl:Array (Option aa)}{name:aR}{v:aa}
end
end L2
set_option maxHeartbeats 4000000
namespace L2
open PySem PySem.Spec PyProof.Rows
section
variable {X:Cx}{ah:List (af×cP)}{σ:St}{H:Hp}{s:ao}{C:af}
variable {k:Nat}{f:af}{fd:aS}{ps:List aR}{sp:Sp}{x:aR}{p pos:cG}{e:Expr}{es:List Expr}{t:TA}{te:TE}{G:GK}
end
end L2
set_option maxHeartbeats 4000000
namespace L2
open PySem PySem.Spec PyProof.Rows
section
variable {X:Cx}{e:Expr}{es:List Expr}{te:TE}{pos:cG}
abbrev TF:=St->Hp->(Hp->Prop)->Prop
def PF (X:Cx)(e:Expr)(n:Nat)(t:TF):Prop:=∀(ah:List (af×cP)) (s:ao) (σ:St) (H:Hp) (Q:Hp->Prop),Inv X ah σ H s->t σ H Q ->
 aT (aV X.prog X.w) X.A (bS e X.env) (λv s1=>∃y tk H1,v=.str y tk/\y.length<=n/\Inv X ah σ H1 s1/\Q H1) X.xe s
end
structure rW (K:ae)(C:af):Prop where
 ga:av K (.ref C) "__getattribute__"=some (some (.builtin "BaseException.__getattribute__"))
 gn:av K (.ref C) "__getattr__"=some none
 mB:dS K C (.type "BaseException")=some true
 hd:cN K C=true
 ca:av K (.ref C) "__class__"=some (some (.builtin "object.__class__"))
 cg:dg K (.builtin "object.__class__") "__get__"=some (some (.builtin "getset_descriptor.__get__"))
 ct:hG K (.builtin "object.__class__")=some true
 mO:dS K C (.type "object")=some true
section
variable {prog:bb}{w:bG}{A:bz}{E:aa->ao->Prop}{s:ao}{K:ae}{x C:af}{ox:cP}{od:Option cP}
end
end L2
set_option maxHeartbeats 4000000
namespace L2
open PySem PySem.Spec PyProof.Rows
section
variable {X:Cx}{ah:List (af×cP)}{σ:St}{H:Hp}{s:ao}{E:aa->ao->Prop}{a:af}
end
end L2
set_option maxHeartbeats 4000000
namespace L2
open PySem PySem.Spec PyProof.Rows
section
variable {X:Cx}{e:Expr}{es:List Expr}{te:TE}{pos:cG}
end
end L2
namespace L2
open PySem PySem.Spec PyProof.Rows
section
variable {κ:Type}[DecidableEq κ]
def hX (bT:List (κ×V))(k:κ):Option V:=(bT.find? λkv=>decide (kv.1=k)).map (·.2)
def putK (bT:List (κ×V))(k:κ)(v:V):List (κ×V) :=
 if(bT.any λkv=>decide (kv.1=k))=true then bT.map (λkv=>if kv.1=k then(kv.1,v)else kv)else bT++[(k,v)]
theorem Hd {p:κ×V}{r:List (κ×V)}{k:κ}(e:p.1=k):hX (p::r) k=some p.2:=by simp[hX,cX,e]
theorem He {p:κ×V}{r:List (κ×V)}{k:κ}(e:¬p.1=k):hX (p::r) k=hX r k:=by simp[hX,cX,e]
theorem La (k:κ):∀bT:List (κ×V),(bT.any λkv=>decide (kv.1=k))=(hX bT k).isSome
 |[]=>rfl
 |p::r=>by
  rw[my]
  by_cases e:p.1=k
  ·simp only[Hd e,decide_eq_true e,Bool.true_or,Option.isSome_some]
  ·rw[He e,decide_eq_false e,Bool.false_or];exact La k r
theorem Kl (bT:List (κ×V))(k:κ)(v:V):(putK bT k v).length<=bT.length+1:=by
 unfold putK
 split
 ·rw[aD];omega
 ·rw[bq,aP,List.length_nil];omega
theorem iW.isSome_eq {o:Option V}{u:Option aa}(r:iW o u):o.isSome=u.isSome:=by
 cases o with
 |none=>cases u with
  |none=>rfl
  |some _=>exact(show False from r).elim
 |some _=>cases u with
  |none=>exact(show False from r).elim
  |some _=>rfl
theorem iW.getD {o:Option V}{u:Option aa}{d:V}{d':aa}(r:iW o u)(rd:RelV d d'):RelV (o.getD d) (u.getD d'):=by
 cases o with
 |none=>cases u with
  |none=>exact rd
  |some _=>exact(show False from r).elim
 |some _=>cases u with
  |none=>exact(show False from r).elim
  |some _=>exact r
theorem KV.val {bT:List (κ×V)}{vs:List (κ×aa)}(r:KV bT vs)(k:κ):iW (hX bT k) (nq vs k):=by
 unfold KV at r
 induction r with
 |nil=>exact True.intro
 |@cons p q ps qs h t ih=>
  obtain⟨h1,h2⟩:=h
  by_cases e:p.1=k
  ·have e':q.1=k:=h1.symm.trans e
   have b:nq (q::qs) k=some q.2:=by simp[nq,cX,e']
   rw[Hd e,b];exact h2
  ·have e':¬q.1=k:=λz=>e (h1.trans z)
   have b:nq (q::qs) k=nq qs k:=by simp[nq,cX,e']
   rw[He e,b];exact ih
theorem KV.any {bT:List (κ×V)}{vs:List (κ×aa)}(r:KV bT vs)(k:κ):(bT.any λkv=>decide (kv.1=k))=vs.any λkv=>decide (kv.1=k):=by
 unfold KV at r
 induction r with
 |nil=>rfl
 |cons h t ih=>rw[my,my,ih,h.1]
theorem KV.repl {bT:List (κ×V)}{vs:List (κ×aa)}(r:KV bT vs)(k:κ){y:V}{u:aa}(ry:RelV y u) :
  KV (bT.map λkv=>if kv.1=k then(kv.1,y)else kv) (vs.map λkv=>if kv.1=k then(kv.1,u)else kv):=by
 unfold KV at r ⊢
 induction r with
 |nil=>exact .nil
 |@cons p q ps qs h t ih=>
  rw[bC,bC]
  refine .cons ?_ ih
  obtain⟨h1,h2⟩:=h
  by_cases e:p.1=k
  ·rw[if_pos e,if_pos (h1.symm.trans e)];exact⟨h1,ry⟩
  ·rw[if_neg e,if_neg (λz=>e (h1.trans z))];exact⟨h1,h2⟩
theorem KV.put {bT:List (κ×V)}{vs:List (κ×aa)}(r:KV bT vs)(k:κ){y:V}{u:aa}(ry:RelV y u):KV (putK bT k y) (stored vs k u):=by
 unfold putK stored
 rw[r.any k]
 by_cases e:(vs.any λkv=>decide (kv.1=k))=true
 ·rw[if_pos e,if_pos e];exact r.repl k ry
 ·rw[if_neg e,if_neg e];exact Paired.snoc r ⟨rfl,ry⟩
theorem KV.length {bT:List (κ×V)}{vs:List (κ×aa)}(r:KV bT vs):bT.length=vs.length:=Paired.length r
end
theorem Ek {P:bb}{w:bG}{k:dw}{u:aa}(r:RelV (kV k) u):(dW P w).is k u=true:=by
 cases k with
 |inl i=>obtain⟨t,e⟩:=(show∃t,u=aa.int i t from r);subst e;exact QT P w i t
 |inr x=>obtain⟨t,e⟩:=(show∃t,u=aa.str x t from r);subst e;exact QU P w x t
theorem KL {P:bb}{w:bG}:∀{ks:List dw} {us:List aa},bR (ks.map kV) us->ItemsAre (dW P w) ks us
 |[],_,r=>by rw[jZ]at r;cases r;exact .nil
 |k::ks,_,r=>by
  rw[bC]at r
  cases r with
  |cons h t=>exact .cons (Ek h) (KL t)
abbrev KT (H:Hp):List (List dw×V)->List (List dw×af×aa)->Prop:=Paired λp q=>p.1=q.1/\H q.2.1=some (.tup (p.1.map kV))/\RelV p.2 q.2.2
theorem KT.val {H:Hp}{bT:List (List dw×V)}{xs:List (List dw×af×aa)}(r:KT H bT xs)(k:List dw):iW (hX bT k) ((pC xs k).map (·.2)):=by
 induction r with
 |nil=>exact True.intro
 |@cons p q ps qs h t ih=>
  obtain⟨h1,_,h2⟩:=h
  by_cases e:p.1=k
  ·have e':q.1=k:=h1.symm.trans e
   have b:pC (q::qs) k=some q.2:=by simp[pC,cX,e']
   rw[Hd e,b];exact h2
  ·have e':¬q.1=k:=λz=>e (h1.trans z)
   have b:pC (q::qs) k=pC qs k:=by simp[pC,cX,e']
   rw[He e,b];exact ih
theorem KT.repl {H:Hp}{bT:List (List dw×V)}{xs:List (List dw×af×aa)}(r:KT H bT xs)(k:List dw){y:V}{u:aa}(ry:RelV y u) :
  KT H (bT.map λkv=>if kv.1=k then(kv.1,y)else kv) (xs.map (putAt k u)):=by
 induction r with
 |nil=>exact .nil
 |@cons p q ps qs h t ih=>
  rw[bC,bC]
  refine .cons ?_ ih
  obtain⟨h1,h2,h3⟩:=h
  unfold putAt
  by_cases e:p.1=k
  ·rw[if_pos e,if_pos (h1.symm.trans e)];exact⟨h1,h2,ry⟩
  ·rw[if_neg e,if_neg (λz=>e (h1.trans z))];exact⟨h1,h2,h3⟩
theorem KT.put {H:Hp}{bT:List (List dw×V)}{xs:List (List dw×af×aa)}(r:KT H bT xs)(k:List dw){b:af}{y:V}{u:aa}(hb:H b=some (.tup (k.map kV)))(ry:RelV y u) :
  KT H (putK bT k y) (storedH xs k b u):=by
 have e:(bT.any λkv=>decide (kv.1=k))=(pC xs k).isSome:=by
  rw[La,(r.val k).isSome_eq,oT]
 unfold putK storedH
 rw[e]
 by_cases q:(pC xs k).isSome=true
 ·rw[if_pos q,if_pos q];exact r.repl k ry
 ·rw[if_neg q,if_neg q];exact Paired.snoc r ⟨rfl,hb,ry⟩
theorem KT.keeps {H H':Hp}{bT:List (List dw×V)}{xs:List (List dw×af×aa)}(r:KT H bT xs)(ht:∀b ys,H b=some (.tup ys)->H' b=some (.tup ys)):KT H' bT xs :=
 Paired.mapP r λ_ _ z=>⟨z.1,ht _ _ z.2.1,z.2.2⟩
section
variable {P:bb}{w:bG}{H:Hp}{h:aK}{a:af}
theorem Mv {u:HO}(ok:jC P w H h)(e:Rd H a u):dA P w H h a u:=e.ok ok
theorem CP {bT:List (dw×V)}(ok:jC P w H h)(e:Rd H a (.dK bT)):bT.length<=sizeLine/\(a==cH)=false/\∃vs,KV bT vs/\h.DictOf (dW P w) a vs :=
 show dA P w H h a (.dK bT)from Mv ok e
theorem Wl {bT:List (dw×V)}(ok:jC P w H h)(e:H a=some (.dK bT)):bT.length<=sizeLine/\(a==cH)=false/\∃vs,KV bT vs/\h.DictOf (dW P w) a vs:=CP ok (.inl e)
theorem Ea {ks:List dw}(ok:jC P w H h)(e:H a=some (.tup (ks.map kV))):(iQ (dW P w)).is h ks a:=by
 obtain⟨_,cq,r,o,h1,h2,n,h3⟩:=(show dA P w H h a (.tup (ks.map kV))from ok a _ e)
 exact⟨o,cq.toArray,n,h1,h2,h3,by simpa using KL r⟩
theorem yD {bT:List (List dw×V)}(ok:jC P w H h)(e:Rd H a (.dT bT)):bT.length<=sizeLine/\(a==cH)=false /\
  ∃xs,KT H bT xs/\h.DictOfH (iQ (dW P w)) a xs:=by
 obtain⟨z,y,xs,r,o,es,ep,h1,h2,h3,h4,h5⟩:=(show dA P w H h a (.dT bT)from Mv ok e)
 refine⟨z,y,xs,r,o,es,ep,h1,h2,h3,h4,λx hx=>?_,h5⟩
 have all:∀{l:List (List dw×V)} {m:List (List dw×af×aa)},KT H l m->∀x∈m,(iQ (dW P w)).is h x.1 x.2.1:=by
  intro l m q
  induction q with
  |nil=>intro x hx;exact nomatch hx
  |@cons p q ps qs hq t ih=>
   intro x hx
   rcases aA.mp hx with e|hx
   ·subst e
    exact Ea ok (by rw[←hq.1];exact hq.2.1)
   ·exact ih x hx
 exact all r x hx
theorem Wm {bT:List (List dw×V)}(ok:jC P w H h)(e:H a=some (.dT bT)):bT.length<=sizeLine/\(a==cH)=false /\
  ∃xs,KT H bT xs/\h.DictOfH (iQ (dW P w)) a xs:=yD ok (.inl e)
end
def nr (H:Hp)(a:af)(y:V)(r:Option V):Prop :=
 (∃bT k,Rd H a (.dK bT)/\y=kV k/\r=hX bT k)\/∃bT k b,Rd H a (.dT bT)/\y=.ref b/\H b=some (.tup (k.map kV))/\r=hX bT k
def nu (H:Hp)(a:af)(y v:V)(H':Hp):Prop :=
 (∃bT k,H a=some (.dK bT)/\y=kV k/\bT.length<sizeLine/\H'=upd H a (.dK (putK bT k v))) \/
 ∃bT k b,H a=some (.dT bT)/\y=.ref b/\H b=some (.tup (k.map kV))/\bT.length<sizeLine/\H'=upd H a (.dT (putK bT k v))
theorem nr.k {H:Hp}{a:af}{bT:List (dw×V)}{k:dw}(e:H a=some (.dK bT)):nr H a (kV k) (hX bT k):=.inl ⟨bT,k,.inl e,rfl,rfl⟩
theorem nu.k {H:Hp}{a:af}{bT:List (dw×V)}{k:dw}{v:V}(e:H a=some (.dK bT))(hl:bT.length<sizeLine):nu H a (kV k) v (upd H a (.dK (putK bT k v))):=.inl ⟨bT,k,e,rfl,hl,rfl⟩
theorem nu.t {H:Hp}{a b:af}{bT:List (List dw×V)}{k:List dw}{v:V}(e:H a=some (.dT bT))(eb:H b=some (.tup (k.map kV)))(hl:bT.length<sizeLine) :
  nu H a (.ref b) v (upd H a (.dT (putK bT k v))):=.inr ⟨bT,k,b,e,rfl,eb,hl,rfl⟩
section
variable {X:Cx}{ah:List (af×cP)}{σ:St}{H:Hp}{s:ao}{a:af}{y v:V}{u r:aa}{o:Option V}{A:bz}{E:aa->ao->Prop}
theorem Inv.big (I:Inv X ah σ H s):cH<s.heap.objs.size:=by
 have h:aB<s.heap.objs.size:=(I.mod.glob.keeps I.bk).lt
 exact Nat.lt_trans (by decide) h
theorem EV {Q:aa->ao->Prop}(hu:A.units+1<gQ)(I:Inv X ah σ H s)(g:nr H a y o)(ry:RelV y u)(h:∀s',Inv X ah σ H s'->Q (.bool o.isSome) s') :
  aT (aV X.prog X.w) A (cx .In u (.ref a)) Q E s:=by
 rcases g with⟨bT,k,e,ey,l⟩|⟨bT,k,b,e,ey,eb,l⟩
 ·subst ey
  obtain⟨z,hd,vs,rel,dd⟩:=CP I.hok e
  refine wpAny_in_of (Ek ry) hd dd.mapOf ?_
  rw[←(rel.val k).isSome_eq,←l]
  exact h _ (I.tok _)
 ·subst ey
  cases(show u=aa.ref b from ry)
  obtain⟨z,hd,xs,rel,dd⟩:=yD I.hok e
  refine wpAny_in_heap (gR hu) (Ea I.hok eb) hd dd ?_
  have q:=(rel.val k).isSome_eq
  rw[oT]at q
  rw[←q,←l]
  exact h _ (I.tok _)
theorem Lz {h':aK}{t':Nat}{ob:HO}(I:Inv X ah σ H s)(mu:yK (H a))(hs:d6 a s.heap h')(he:∃q,h'.get? a=some q)(new:dA X.prog X.w (upd H a ob) h' a ob) :
  Inv X ah σ (upd H a ob) { s with heap:=h',toks:=t' } :=
 I.write (x:=a) (e:=a) mu (.inl rfl) (λb q hb z=>(hs.2 b hb).trans z) he new
theorem Vu {P:bb}{w:bG}{H':Hp}{h':aK}{bT:List (dw×V)}{vs:List (dw×aa)}(z:bT.length<=sizeLine)(hd:(a==cH)=false)(rel:KV bT vs)(dd:h'.DictOf (dW P w) a vs) :
  dA P w H' h' a (.dK bT):=⟨z,hd,vs,rel,dd⟩
theorem Rx {H':Hp}{Q:Unit->ao->Prop}(hu:A.units+1<gQ)(I:Inv X ah σ H s)(g:nu H a y v H')(ry:RelV y u)(rv:RelV v r)(h:∀s',Inv X ah σ H' s'->Q () s') :
  aT (aV X.prog X.w) A (ka (.ref a) u r) Q E s:=by
 rcases g with⟨bT,k,e,ey,l,eH⟩|⟨bT,k,b,e,ey,eb,l,eH⟩
 ·subst ey eH
  obtain⟨z,hd,vs,rel,dd⟩:=Wl I.hok e
  have hz:vs.length<=sizeLine:=by rw[←rel.length];exact z
  have hl:(putK bT k v).length<=sizeLine:=by have:=Kl bT k v;omega
  refine wpAny_setItem_pairs (hsz:=hz) (Ek ry) dd λh' C6 hs=>h _ ?_
  have he:∃q,h'.get? a=some q:=let⟨q,_,_,hq,_⟩:=C6;⟨q,hq⟩
  exact Lz I (by rw[e];exact True.intro) hs he (Vu hl hd (rel.put k rv) C6)
 ·subst ey eH
  cases(show u=aa.ref b from ry)
  obtain⟨z,hd,xs,rel,dd⟩:=Wm I.hok e
  have hz:xs.length<=sizeLine:=by rw[←Paired.length rel];exact z
  have hl:(putK bT k v).length<=sizeLine:=by have:=Kl bT k v;omega
  refine wpAny_setItem_heap (hsz:=hz) (gR hu) (Ea I.hok eb) dd λh' C6 hs=>h _ ?_
  obtain⟨q,es,ep,hq,h2,h3,h4,_,h5⟩:=C6
  refine Lz I (by rw[e];exact True.intro) hs ⟨q,hq⟩ ⟨hl,hd,_,(rel.put k eb rv).keeps λc ys ec=>?_,q,es,ep,hq,h2,h3,h4,h5⟩
  rw[zt (VM ec e (λz=>nomatch z))]
  exact ec
end
section
variable {X:Cx}{ah:List (af×cP)}{σ:St}{H:Hp}{s:ao}{a:af}{bT:List (dw×V)}{k:dw}{u:aa}{A:bz}{E:aa->ao->Prop}
theorem Wn {Q:aa->ao->Prop}(I:Inv X ah σ H s)(e:Rd H a (.dK bT))(h:∀t s',Inv X ah σ H s'->Q (.int bT.length t) s'):aT (aV X.prog X.w) A (call (.builtin "len") [.ref a]) Q E s:=by
 obtain⟨z,hd,vs,rel,dd⟩:=CP I.hok e
 refine call_len_dict hd dd (by rw[←rel.length];rw[cr]at z;omega) ?_
 rw[←rel.length]
 exact h _ _ (I.tok _)
end
def GO (ty td:TE):TE:=λσ H Q=>ty σ H λy H1=>td σ H1 λx H2=>∃a o,x=.ref a/\nr H2 a y o/\Q (.bl o.isSome) H2
def Cj (td ty tv:TE):TS:=λD σ H=>tv σ H λv H1=>td σ H1 λx H2=>ty σ H2 λy H3=>∃a H4,x=.ref a/\nu H3 a y v H4/\D.nx σ H4
section
variable {X:Cx}{o i e value:Expr}{pos pos' fD:cG}{td ty tv:TE}
theorem Vv (hu:X.A.units+1<gQ)(hi:PE X i ty)(ho:PE X o td):PC X .In i o (GO ty td):=by
 intro ah s σ H Q I h
 refine di (hi ah s σ H _ I h) λiv s1 ⟨y,H1,I1,ry,q1⟩=>di (ho ah s1 σ H1 _ I1 q1) λu s2 dk=>?_
 obtain⟨x,H2,I2,rx,a,ov,ex,g,q2⟩:=dk
 subst ex
 obtain rfl:u=aa.ref a:=rx
 exact EV hu I2 g ry λs3 I3=>⟨.bl ov.isSome,H2,I3,rfl,q2⟩
theorem Tz (hu:X.A.units+1<gQ)(ho:PE X o td)(hi:PE X i ty)(hv:PE X value tv)(hs:eE value (some (.Subscript o i pos')) pos.line X.env=pure false) :
  PS X (.Assign [.Subscript o i pos'] value pos) (Cj td ty tv):=by
 intro ah s σ H D I h
 refine wpAny_Assign_Subscript (di (hv ah s σ H _ I h) λr s1 ⟨v,H1,I1,rv,q1⟩=>di (ho ah s1 σ H1 _ I1 q1) λu s2 ⟨x,H2,I2,rx,q2⟩=>di (hi ah s2 σ H2 _ I2 q2) λiv s3 ⟨y,H3,I3,ry,a,H4,ex,g,q3⟩=>?_) hs
 subst ex
 obtain rfl:u=aa.ref a:=rx
 exact Rx hu I3 g ry rv λs4 I4=>⟨σ,H4,I4,q3⟩
end
theorem SH {P:bb}{w:bG}{H:Hp}(h:aK)(hb:cH<h.objs.size):dA P w H (h.push { cls:=.type "dict",data:=.dict #[] }) h.objs.size (.dK []) :=
  ⟨cw _,beq_eq_false_iff_ne.mpr (Ne.symm (aZ hb)),[],.nil,aK.DictOf.new h⟩
theorem SI {P:bb}{w:bG}{H:Hp}(h:aK)(hb:cH<h.objs.size):dA P w H (h.push { cls:=.type "dict",data:=.dict #[] }) h.objs.size (.dT []) :=
  ⟨cw _,beq_eq_false_iff_ne.mpr (Ne.symm (aZ hb)),[],.nil,_,#[],0,bo _ rfl,⟨rfl,rfl,rfl⟩,rfl,rfl,bD⟩
def wV:TE:=λ_ H Q=>∀p,H p=none->Q (.ref p) (upd H p (.dK []))
def wW:TE:=λ_ H Q=>∀p,H p=none->Q (.ref p) (upd H p (.dT []))
section
variable {X:Cx}{pos:cG}
theorem SJ:PE X (.Dict [] [] pos) wV:=λah s σ H Q I h=>
 wpAny_Dict_empty ⟨.ref s.heap.objs.size,_,I.laid (a:=s.heap.objs.size) (o:=.dK []) (t':=s.toks) (λ_ _ q=>ay _ q) (ar _) (SH s.heap I.big),rfl,h _ (I.hok.fresh (ar _))⟩
theorem SK:PE X (.Dict [] [] pos) wW:=λah s σ H Q I h=>
 wpAny_Dict_empty ⟨.ref s.heap.objs.size,_,I.laid (a:=s.heap.objs.size) (o:=.dT []) (t':=s.toks) (λ_ _ q=>ay _ q) (ar _) (SI s.heap I.big),rfl,h _ (I.hok.fresh (ar _))⟩
end
structure M1 (X:Cx)(o:Expr)(m:aR)(dE:cG)(e:Expr)(d9:cG):Prop where
 base:e9 o m X.env (bS o X.env)=bS o X.env
 few:((cD d9 (aw [e] X.env)).all (λx=>!x.1)&&(fk d9 (dH [] X.env)).all (λx=>x.1.isSome)
  && decide (([e]:List Expr).length+([]:List iu).length+(if([]:List iu).isEmpty then 0 else 1)<30))=true
 line:(dE.endLine==d9.line)=true
 trees:cD d9 (aw [e] X.env)=[(false,bS e X.env)]
structure M2 (X:Cx)(o:Expr)(m:aR)(dE:cG)(e f:Expr)(d9:cG):Prop where
 base:e9 o m X.env (bS o X.env)=bS o X.env
 few:((cD d9 (aw [e,f] X.env)).all (λx=>!x.1)&&(fk d9 (dH [] X.env)).all (λx=>x.1.isSome)
  && decide (([e,f]:List Expr).length+([]:List iu).length+(if([]:List iu).isEmpty then 0 else 1)<30))=true
 line:(dE.endLine==d9.line)=true
 trees:cD d9 (aw [e,f] X.env)=[(false,bS e X.env),(false,bS f X.env)]
def CW (H:Hp)(a:af):Prop:=(∃bT,Rd H a (.dK bT))\/∃bT,Rd H a (.dT bT)
theorem Vw {X:Cx}{ah:List (af×cP)}{σ:St}{H:Hp}{s:ao}{a:af}(I:Inv X ah σ H s)(d:CW H a) :
  s.TypeIs (.ref a) "dict"/\(∀b,aa.ref a=.ref b->∃ob,s.heap.get? b=some ob/\ob.dict=none)/\(a==cH)=false:=by
 rcases d with⟨bT,e⟩|⟨bT,e⟩
 ·obtain⟨_,hd,vs,_,dd⟩:=CP I.hok e
  refine⟨dd.typeIs,λb q=>?_,hd⟩
  cases q
  obtain⟨ob,_,_,h1,h2,_⟩:=dd
  exact⟨ob,h1,h2.2.1⟩
 ·obtain⟨_,hd,xs,_,dd⟩:=yD I.hok e
  refine⟨dd.typeIs,λb q=>?_,hd⟩
  cases q
  obtain⟨ob,_,_,h1,h2,_⟩:=dd
  exact⟨ob,h1,h2.2.1⟩
section
variable {X:Cx}{ah:List (af×cP)}{σ:St}{H:Hp}{s:ao}{a:af}{y d:V}{u r:aa}{o:Option V}{A:bz}{E:aa->ao->Prop}
theorem Vx {Q:aa->ao->Prop}(hu:A.units+1<gQ)(I:Inv X ah σ H s)(g:nr H a y o)(ry:RelV y u)(h:∀w' s',Inv X ah σ H s'->RelV (o.getD .non) w'->Q w' s') :
  aT (aV X.prog X.w) A (call (.builtin "dict.get") [.ref a,u]) Q E s:=by
 rcases g with⟨bT,k,e,ey,l⟩|⟨bT,k,b,e,ey,eb,l⟩
 ·subst ey
  obtain⟨z,hd,vs,rel,dd⟩:=CP I.hok e
  refine call_meetsIn PySem.F.slot_dict_get dd.typeIs PySem.F.entry_dict_get (PySem.F.args_dict_get_2 _ _) (meets_dict_get (dW X.prog X.w) a (Ek ry) hd) ⟨_,dd.mapOf,h _ _ (I.tok _) ?_⟩
  rw[l]
  exact(rel.val k).getD rfl
 ·subst ey
  cases(show u=aa.ref b from ry)
  obtain⟨z,hd,xs,rel,dd⟩:=yD I.hok e
  refine call_meetsIn PySem.F.slot_dict_get dd.typeIs PySem.F.entry_dict_get (PySem.F.args_dict_get_2 _ _) (meetsH_dict_get (iQ (dW X.prog X.w)) a b hd) ⟨gR hu,k,xs,Ea I.hok eb,dd,h _ _ (I.tok _) ?_⟩
  rw[l]
  exact(rel.val k).getD rfl
end
def wU (td ty:TE):TE:=λσ H Q=>td σ H λx H1=>∃a,x=.ref a/\CW H1 a/\ty σ H1 λy H2=>∃o,nr H2 a y o/\Q (o.getD .non) H2
section
variable {X:Cx}{o e f:Expr}{dE d9:cG}{td ty tx:TE}
theorem SM (hu:X.A.units+1<gQ)(ho:PE X o td)(he:PE X e ty)(m:M1 X o "get" dE e d9):PE X (.Call (.Attribute o "get" dE) [e] [] d9) (wU td ty):=by
 intro ah s σ H Q I h
 refine wpAny_Call_method m.base m.few m.line PySem.F.plainAttrs_dict PySem.F.slot_dict_get PySem.F.type_dict_get (di (ho ah s σ H _ I h) λu s1 dk=>?_)
 obtain⟨x,H1,I1,rx,a,ex,d,q1⟩:=dk
 subst ex
 obtain rfl:u=aa.ref a:=rx
 obtain⟨t1,t2,_⟩:=Vw I1 d
 refine⟨t1,t2,?_⟩
 rw[m.trees]
 refine Calls.callWith_builtin rfl (Calls.evalArgs_plain (Calls.spliced_cons (di (he ah s1 σ H1 _ I1 q1) λiv s2 ⟨y,H2,I2,ry,ov,g,q2⟩=>Calls.spliced_nil ?_)))
 exact Vx hu I2 g ry λw' s3 I3 oK=>⟨_,H2,I3,oK,q2⟩
end
section
variable {X:Cx}{ah:List (af×cP)}{σ:St}{H:Hp}{s:ao}{a:af}{bT:List (dw×V)}{A:bz}{E:aa->ao->Prop}
end
section
variable {X:Cx}{ah:List (af×cP)}{σ:St}{H:Hp}{s:ao}{a:af}{y:V}{u:aa}{A:bz}{E:aa->ao->Prop}
end
end L2
namespace L2
open PySem PySem.Spec PyProof.Rows
section
variable {X:Cx}
theorem Ry:ez X (.builtin "len") (λxs H Q=>∃a bT,xs=[V.ref a]/\H a=some (.dK bT)/\Q (.int bT.length) H):=by
 intro ah s σ H xs us Q I r h
 obtain⟨a,bT,rfl,ha,q⟩:=h
 obtain⟨u,rfl,ru⟩:=mr r
 cases ru
 exact Wn I (.inl ha) λt s' I'=>⟨.int bT.length,H,I',⟨t,rfl⟩,q⟩
end
end L2
namespace L2
open PySem
section
variable {κ:Type}[DecidableEq κ]
end
end L2
namespace L2
open PySem PySem.Spec PyProof.Rows
def Sz (n:Nat)(i:Int):Prop:=i.natAbs<2 ^ n
theorem Sz.bits {n:Nat}{i:Int}(h:Sz n i):ck.Int.intBits i<=n:=by
 unfold ck.Int.intBits
 by_cases h0:(i==0)=true
 ·rw[if_pos h0];exact cw _
 ·rw[if_neg h0]
  have hi:i.natAbs≠0:=by
   have:i≠0:=by simpa using h0
   omega
  exact Nat.succ_le_of_lt ((Nat.log2_lt hi).mpr h)
theorem Sz.log {n:Nat}{i:Int}(h:Sz n i)(hn:0<n):i.natAbs.log2<n:=by
 by_cases hi:i.natAbs=0
 ·rw[hi];exact hn
 ·exact(Nat.log2_lt hi).mpr h
theorem Sz.mono {n m:Nat}{i:Int}(h:Sz n i)(hm:n<=m):Sz m i:=br h (oS (by decide) hm)
def lX (i j:Int):Prop:=uF i j\/(Sz 100000 i/\Sz 100000 j)
theorem lX.ok {i j:Int}(h:lX i j):IntMulOk i j:=by
 rcases h with h|h
 ·exact h.ok
 ·exact IntMulOk.of_bits (cm h.1.bits (by decide)) (cm h.2.bits (by decide))
section
variable {X:Cx}
theorem qf:fU X (dQ .Mult) (rI lX λi j=>.int (i*j)):=xM λ_ _ _ _ _ _ _ hc q=>mul_int q hc.ok
theorem qr:fU X (dQ .FloorDiv) (rI (λ_ j=>j≠0/\Sz 9000 j) λi j=>.int (i.fdiv j)) :=
 xM λ_ _ _ _ _ _ _ hc q=>floordiv_int hc.1 q (.inl (PyProof.noPylong_of_log2 (hc.2.log (by decide))))
theorem RelV.bool_iff {x:V}{v:aa}{b:Bool}(r:RelV x v):(v==aa.bool b)=decide (x=.bl b):=by
 cases x with
 |bl c=>
  cases(show v=aa.bool c from r)
  by_cases h:c=b
  ·subst h;simp
  ·have h1:¬V.bl c=V.bl b:=λz=>h (V.bl.inj z)
   rw[decide_eq_false h1]
   exact beq_eq_false_iff_ne.mpr λz=>h (by injection z)
 |non=>cases(show v=aa.none from r);rw[decide_eq_false (λz=>nomatch z)];exact beq_eq_false_iff_ne.mpr λz=>nomatch z
 |int i=>obtain⟨t,rfl⟩:=(show∃t,v=aa.int i t from r);rw[decide_eq_false (λz=>nomatch z)];exact beq_eq_false_iff_ne.mpr λz=>nomatch z
 |str i=>obtain⟨t,rfl⟩:=(show∃t,v=aa.str i t from r);rw[decide_eq_false (λz=>nomatch z)];exact beq_eq_false_iff_ne.mpr λz=>nomatch z
 |byt i=>obtain⟨t,rfl⟩:=(show∃t,v=aa.bytes i t from r);rw[decide_eq_false (λz=>nomatch z)];exact beq_eq_false_iff_ne.mpr λz=>nomatch z
 |flt i=>obtain⟨t,rfl⟩:=(show∃t,v=aa.float i t from r);rw[decide_eq_false (λz=>nomatch z)];exact beq_eq_false_iff_ne.mpr λz=>nomatch z
 |ref i=>cases(show v=aa.ref i from r);rw[decide_eq_false (λz=>nomatch z)];exact beq_eq_false_iff_ne.mpr λz=>nomatch z
 |ty i=>cases(show v=aa.type i from r);rw[decide_eq_false (λz=>nomatch z)];exact beq_eq_false_iff_ne.mpr λz=>nomatch z
theorem Kb {x:V}{v:aa}{b:Bool}(r:RelV x v):plainIs v (.bool b)=true:=by
 cases x with
 |bl c=>cases(show v=aa.bool c from r);rfl
 |non=>cases(show v=aa.none from r);rfl
 |int i=>obtain⟨t,rfl⟩:=(show∃t,v=aa.int i t from r);rfl
 |str i=>obtain⟨t,rfl⟩:=(show∃t,v=aa.str i t from r);rfl
 |byt i=>obtain⟨t,rfl⟩:=(show∃t,v=aa.bytes i t from r);rfl
 |flt i=>obtain⟨t,rfl⟩:=(show∃t,v=aa.float i t from r);rfl
 |ref i=>cases(show v=aa.ref i from r);rfl
 |ty i=>cases(show v=aa.type i from r);rfl
theorem Vy:fU X (cx .Is) (λx y H Q=>∃b,y=.bl b/\Q (.bl (decide (x=.bl b))) H):=by
 intro ah s σ H x y v u Q I rx ry h
 obtain⟨b,rfl,q⟩:=h
 cases ry
 exact wpAny_is_plain (Kb rx) (D8 I q (RelV.bool_iff rx).symm)
theorem RV:fU X (cx .IsNot) (λx y H Q=>∃b,y=.bl b/\Q (.bl (!decide (x=.bl b))) H):=by
 intro ah s σ H x y v u Q I rx ry h
 obtain⟨b,rfl,q⟩:=h
 cases ry
 exact wpAny_isNot_plain (Kb rx) (D8 I q (by rw[RelV.bool_iff rx]))
theorem SN:ez X (.builtin "isinstance") (λxs H Q=>∃x c t b,xs=[x,.ty c]/\jF X.K H x t/\bJ X.K t (.type c)=some b/\Q (.bl b) H):=by
 intro ah s σ H xs us Q I r h
 obtain⟨x,c,t,b,rfl,ty,e,q⟩:=h
 obtain⟨u,w',rfl,ru,oK⟩:=vals2 r
 cases(show w'=aa.type c from oK)
 exact KD I ru ty e λtk=>⟨.bl b,H,I.tok tk,rfl,q⟩
theorem RW:ez X (.builtin "isinstance") (λxs H Q=>∃x C t b,xs=[x,.ref C]/\jF X.K H x t/\bJ X.K t (.ref C)=some b/\Q (.bl b) H):=by
 intro ah s σ H xs us Q I r h
 obtain⟨x,c,t,b,rfl,ty,e,q⟩:=h
 obtain⟨u,w',rfl,ru,oK⟩:=vals2 r
 cases(show w'=aa.ref c from oK)
 exact KD I ru ty e λtk=>⟨.bl b,H,I.tok tk,rfl,q⟩
end
mutual
inductive Dt (K:ae)(H:Hp):V->bE->Prop
 |non:Dt K H .non .none
 |bl (b:Bool):Dt K H (.bl b) (.bool b)
 |int (i:Int):Dt K H (.int i) (.int i)
 |str (x:aR):Dt K H (.str x) (.str x)
 |lst {a:af} {xs:List V} {ds:List bE}:fw K H a xs->Dts K H xs ds->Dt K H (.ref a) (.list ds)
 |tup {a:af} {xs:List V} {ds:List bE}:jJ K H a xs->Dts K H xs ds->Dt K H (.ref a) (.tuple ds)
inductive Dts (K:ae)(H:Hp):List V->List bE->Prop
 |nil:Dts K H [] []
 |cons {v:V} {d:bE} {vs:List V} {ds:List bE}:Dt K H v d->Dts K H vs ds->Dts K H (v::vs) (d::ds)
end
section
variable {X:Cx}{ah:List (af×cP)}{σ:St}{H:Hp}{s:ao}
mutual
theorem Dt.reads (I:Inv X ah σ H s):∀{v:V} {d:bE} {u:aa},Dt X.K H v d->RelV v u->∃as,Reads s.heap u d as
 |_,_,_,.non,r=>by cases r;exact⟨_,.none⟩
 |_,_,_,.bl b,r=>by cases r;exact⟨_,.bool b⟩
 |_,_,_,.int i,r=>by obtain⟨t,rfl⟩:=r;exact⟨_,.int i t⟩
 |_,_,_,.str x,r=>by obtain⟨t,rfl⟩:=r;exact⟨_,.str x t⟩
 |_,_,_,.lst hq ds,r=>by
  obtain⟨cq,rv,⟨o,n,e,c,_,dd⟩,_⟩:=I.list hq
  obtain⟨as,ra⟩:=Dts.reads I ds rv
  cases r
  exact⟨_,.list e c dd (by simpa using ra)⟩
 |_,_,_,.tup hq ds,r=>by
  obtain⟨cq,rv,⟨o,e,c,n,dd⟩,_⟩:=I.tuple hq
  obtain⟨as,ra⟩:=Dts.reads I ds rv
  cases r
  exact⟨_,.tuple e c dd (by simpa using ra)⟩
theorem Dts.reads (I:Inv X ah σ H s):∀{vs:List V} {ds:List bE} {us:List aa},Dts X.K H vs ds->bR vs us->∃as,ReadsAll s.heap us ds as
 |_,_,_,.nil,r=>by cases r;exact⟨_,.nil⟩
 |_,_,_,.cons h t,r=>by
  cases r with
  |cons p q=>
   obtain⟨as,ra⟩:=Dt.reads I h p
   obtain⟨bs,rb⟩:=Dts.reads I t q
   exact⟨_,.cons ra rb⟩
end
end
section
variable {X:Cx}
def wM (K:ae)(neg:Bool):R2:=λx y H Q=>∃d e,Dt K H x d/\Dt K H y e/\d.canLay0=true/\e.canLay0=true/\min d.depth e.depth<=60/\Q (.bl (if neg then !bE.eqv d e else bE.eqv d e)) H
theorem wy (hu:X.A.units+64<gQ):fU X (cx .Eq) (wM X.K false):=by
 intro ah s σ H x y v u Q I rx ry h
 obtain⟨d,e,hd,he,c1,c2,dp,q⟩:=h
 obtain⟨as,ra⟩:=hd.reads I rx
 obtain⟨bs,rb⟩:=he.reads I ry
 exact SeqAt.compareEq_reads ra rb c1 c2 (by omega) ⟨.bl _,H,I,rfl,q⟩
theorem HJ (hu:X.A.units+64<gQ):fU X (cx .NotEq) (wM X.K true):=by
 intro ah s σ H x y v u Q I rx ry h
 obtain⟨d,e,hd,he,c1,c2,dp,q⟩:=h
 obtain⟨as,ra⟩:=hd.reads I rx
 obtain⟨bs,rb⟩:=he.reads I ry
 exact SeqAt.compareNe_reads ra rb c1 c2 (by omega) ⟨.bl _,H,I,rfl,q⟩
theorem Dts.ints (K:ae)(H:Hp):∀ns:List Int,Dts K H (ns.map V.int) (ns.map bE.int)
 |[]=>.nil
 |n::r=>.cons (.int n) (Dts.ints K H r)
end
theorem qv {H:Hp}{p:af}(h:H p=none)(o:HO):bO H (upd H p o):=λb u q=>by rw[zt (yr q h)];exact q
theorem ed.u64 {k:Nat}{A:bz}(r:ed k A):A.units+64<gQ:=r.units
theorem small {n:Nat}(h:n<=1000):n<=sizeLine:=iD (pS h)
end L2
namespace L2
open PySem PySem.Spec PyProof.Rows
end L2
namespace L2
open PySem PySem.Spec PyProof.Rows
end L2
namespace L2
open PySem
theorem Vz:bU "int"=some (.type "int"):=by decide +kernel
theorem VA:bU "str"=some (.type "str"):=by decide +kernel
theorem TB:bU "bool"=some (.type "bool"):=by decide +kernel
theorem ji:bU "list"=some (.type "list"):=by decide +kernel
theorem VB:bU "len"=some (.builtin "len"):=by decide +kernel
theorem xV:bU "max"=some (.builtin "max"):=by decide +kernel
theorem VC:bU "min"=some (.builtin "min"):=by decide +kernel
theorem qw:bU "isinstance"=some (.builtin "isinstance"):=by decide +kernel
theorem RX:bU "sorted"=some (.builtin "sorted"):=by decide +kernel
theorem VD:bU "all"=some (.builtin "all"):=by decide +kernel
end L2
namespace L2
open PySem PySem.Spec PyProof.Rows
section
variable {prog:bb}{w:bG}{A:bz}{R:Result->ao->Prop}{s:ao}
theorem Kc {iS target iter:Expr}{ifs:List Expr}{scope:fF}{pos:cG}{it fM:aa}{env:Env}(I:Nat->ao->Prop)
  (mU:∀n s,I n s->aT (aV prog w) A (pyNext it) (λr s₁=>match r with
   |none=>R (.ok .next) s₁
   |some v=>aT (aV prog w) A (gF target it v) (λ_ JX=>aT (aV prog w) A (eQ target env v) (λ_ s₂=>
     aT (aV prog w) A (forIn ifs true λc r=>if r=true then do let ok ← pY c env (bS c env);pure (ForInStep.yield ok)else pure (ForInStep.yield r)) (λok s₃=>
      if ok=true then aT (aV prog w) A (bS iS env) (λx s₄=>
       aT (aV prog w) A (call (.builtin "list.append") [fM,x]) (λ_ s₅=>∃m,m<n/\I m s₅) (λ_ _=>False) s₄) (λ_ _=>False) s₃
      else∃m,m<n/\I m s₃) (λ_ _=>False) s₂) (λ_ _=>False) JX) (λ_ _=>False) s₁) (λ_ _=>False) s)
  (n:Nat) (h:I n s) :
  gL (aV prog w) A (.compLoop (.ListComp iS [⟨target,iter,ifs,0⟩] scope pos) 0 it fM env) R s:=by
 have up:∀{α:Type} {m:nj α} {Q:α->ao->Prop} {E:aa->ao->Prop} {s:ao},aT (aV prog w) A m Q (λ_ _=>False) s->aT (aV prog w) A m Q E s:=λh=>dZ h (λ_ _ q=>q) λ_ _ f=>f.elim
 refine codeAny_loop rfl I (λn s hI=>?_) n h
 show aT _ A ((compTurn (.ListComp iS [⟨target,iter,ifs,0⟩] scope pos) 0 it fM env).onRaise (λx=>do noteFrame x env;theTreesLotGoes x)) _ _ s
 refine wpAny_noted ?_
 rw[compTurn_list]
 refine ak (kG (ak (dZ (up (mU n s hI)) (λr s₁ h₁=>?_) λ_ _ h'=>h')))
 cases r with
 |none=>exact aq h₁
 |some v=>
  refine ak (dZ (up h₁) (λ_ JX Ov=>?_) λ_ _ h'=>h')
  refine ak (dZ (up Ov) (λ_ s₂ h₂=>ak (dZ (up h₂) (λok s₃ h₃=>?_) λ_ _ h'=>h')) λ_ _ h'=>h')
  cases ok with
  |false=>exact aq ⟨rfl,h₃⟩
  |true=>
   exact ak (ak (dZ (up h₃) (λx s₄ h₄=>ak (dZ (up h₄) (λ_ s₅ h₅=>aq (aq ⟨rfl,h₅⟩)) λ_ _ h'=>h')) λ_ _ h'=>h'))
end
theorem jw {env:Env}:∀(names:List (aR×bp)) (fM:List (aR×af)),(∀x∈names,x.2=.free->∃c,env.cells.lookup x.1=some c)->(∀y c,fM.lookup y=some c->env.cells.lookup y=some c) ->
  ∃cl,(forIn names fM λ(x:aR×bp) (cs:List (aR×af))=>if(x.2==bp.free)=true then do let a ← cellOf env x.1;pure (ForInStep.yield ((x.1,a)::cs))else pure (ForInStep.yield cs):nj (List (aR×af)))=pure cl /\
   (∀y c,cl.lookup y=some c->env.cells.lookup y=some c)/\(∀x∈names,x.2=.free->∃c,cl.lookup x.1=some c)/\∀y c,fM.lookup y=some c->∃c',cl.lookup y=some c'
 |[],fM,_,ha=>⟨fM,rfl,ha,λ_ h=>(nomatch h),λy c h=>⟨c,h⟩⟩
 |(n,k)::r,fM,hn,ha=>by
  by_cases hk:k=.free
  ·subst hk
   obtain⟨c,hc⟩:=hn (n,.free) am rfl
   have e1:cellOf env n=pure c:=by unfold cellOf;rw[hc]
   have Df:∀y d,((n,c)::fM).lookup y=some d->env.cells.lookup y=some d:=λy d h=>by
    rw[bn]at h
    cases hy:y==n with
    |true=>
     rw[hy]at h
     have:y=n:=eq_of_beq hy
     subst this
     cases h
     exact hc
    |false=>rw[hy]at h;exact ha y d h
   obtain⟨cl,h1,h2,h3,h4⟩:=jw r ((n,c)::fM) (λx hx=>hn x (ap _ hx)) Df
   refine⟨cl,?_,h2,?_,?_⟩
   ·rw[kU]
    simp only[beq_self_eq_true,if_true,e1,pure_bind]
    exact h1
   ·intro x hx hf
    rcases aA.mp hx with rfl|hx
    ·exact h4 n c (by rw[bn,beq_self_eq_true])
    ·exact h3 x hx hf
   ·intro y d hy
    cases hb:y==n with
    |true=>exact h4 y c (by rw[bn,hb])
    |false=>exact h4 y d (by rw[bn,hb];exact hy)
  ·have hb:(k==bp.free)=false:=by simpa using hk
   obtain⟨cl,h1,h2,h3,h4⟩:=jw r fM (λx hx=>hn x (ap _ hx)) ha
   refine⟨cl,?_,h2,?_,h4⟩
   ·rw[kU]
    simp only[hb,cv,if_false,pure_bind]
    exact h1
   ·intro x hx hf
    rcases aA.mp hx with rfl|hx
    ·exact absurd hf hk
    ·exact h3 x hx hf
theorem D0 (n:Nat)(a:aR)(r:List (aR×bp))(fM:List (aR×af)):cellsFrom n ((a,.cell)::r) fM=cellsFrom (n+1) r ((a,n)::fM):=rfl
theorem Ec {k:bp}(hk:k≠.cell)(n:Nat)(a:aR)(r:List (aR×bp))(fM:List (aR×af)):cellsFrom n ((a,k)::r) fM=cellsFrom n r fM:=by
 cases k<;>first|rfl|exact absurd rfl hk
def iK (names:List (aR×bp)):Nat:=(names.filter λy=>y.2==bp.cell).length
theorem Hr (a:aR)(r:List (aR×bp)):iK ((a,.cell)::r)=iK r+1:=by unfold iK;rw[mX (by rfl),aP]
theorem Md {k:bp}(hk:k≠.cell)(a:aR)(r:List (aR×bp)):iK ((a,k)::r)=iK r:=by unfold iK;rw[mW (by simpa using hk)]
theorem yE:∀(names:List (aR×bp)) (n:Nat) (fM:List (aR×af)) {x:aR} {c:Nat},(cellsFrom n names fM).lookup x=some c->(n<=c/\c<n+iK names/\(x,bp.cell)∈names)\/(fM.lookup x=some c/\(x,bp.cell)∉names)
 |[],_,_,_,_,h=>.inr ⟨h,by simp⟩
 |(a,k)::r,n,fM,x,c,h=>by
  by_cases hk:k=.cell
  ·subst hk
   rw[D0]at h
   rcases yE r (n+1) _ h with⟨h1,h2,h3⟩|⟨h1,h2⟩
   ·refine .inl ⟨by omega,?_,ap _ h3⟩
    rw[Hr];omega
   ·rw[bn]at h1
    cases hx:x==a with
    |true=>
     rw[hx]at h1
     cases h1
     refine .inl ⟨ar _,?_,by rw[eq_of_beq hx];exact am⟩
     rw[Hr];omega
    |false=>
     rw[hx]at h1
     refine .inr ⟨h1,λz=>?_⟩
     rcases aA.mp z with z|z
     ·cases z;simp at hx
     ·exact h2 z
  ·rw[Ec hk]at h
   have hf:=Md hk a r
   rw[hf]
   rcases yE r n _ h with⟨h1,h2,h3⟩|⟨h1,h2⟩
   ·exact .inl ⟨h1,h2,ap _ h3⟩
   ·refine .inr ⟨h1,λz=>?_⟩
    rcases aA.mp z with z|z
    ·cases z;exact hk rfl
    ·exact h2 z
theorem HK:∀(names:List (aR×bp)) (n:Nat) (fM:List (aR×af)) {x:aR},(x,bp.cell)∉names->(cellsFrom n names fM).lookup x=fM.lookup x
 |[],_,_,_,_=>rfl
 |(a,k)::r,n,fM,x,h=>by
  have hr:(x,bp.cell)∉r:=λz=>h (ap _ z)
  by_cases hk:k=.cell
  ·subst hk
   rw[D0,HK r _ _ hr,bn]
   cases hx:x==a with
   |true=>exact absurd (by rw[eq_of_beq hx];exact am) h
   |false=>rfl
  ·rw[Ec hk,HK r _ _ hr]
theorem HL:∀(names:List (aR×bp)) (n:Nat) (fM:List (aR×af)),(∀x y c,fM.lookup x=some c->fM.lookup y=some c->x=y)->(∀x c,fM.lookup x=some c->c<n)->∀x y c,(cellsFrom n names fM).lookup x=some c->(cellsFrom n names fM).lookup y=some c->x=y
 |[],_,_,h,_=>h
 |(a,k)::r,n,fM,h,hb=>by
  by_cases hk:k=.cell
  ·subst hk
   rw[D0]
   refine HL r (n+1) _ (λx y c e e'=>?_) λx c e=>?_
   ·rw[bn]at e e'
    cases hx:x==a with
    |true=>
     rw[hx]at e
     cases e
     cases hy:y==a with
     |true=>rw[eq_of_beq hx,eq_of_beq hy]
     |false=>rw[hy]at e';exact absurd (hb _ _ e') (eh _)
    |false=>
     rw[hx]at e
     cases hy:y==a with
     |true=>rw[hy]at e';cases e';exact absurd (hb _ _ e) (eh _)
     |false=>rw[hy]at e';exact h x y c e e'
   ·rw[bn]at e
    cases hx:x==a with
    |true=>rw[hx]at e;cases e;exact ig _
    |false=>rw[hx]at e;exact cV (hb _ _ e)
  ·rw[Ec hk]
   exact HL r n fM h hb
theorem G4 {M:Model}{A:bz}{E:aa->ao->Prop}:∀(names:List (aR×bp)) (cells:List (aR×af)) (s:ao) (Q:List (aR×af)->ao->Prop),
    (∀h':aK,(∀b o,s.heap.get? b=some o->h'.get? b=some o)->(∀c,s.heap.objs.size<=c->c<s.heap.objs.size+iK names->h'.IsCell c none)->Q (cellsFrom s.heap.objs.size names cells) { s with heap:=h' }) ->
    aT M A (forIn names cells λ(x:aR×bp) (cells:List (aR×af))=>if(x.2==bp.cell)=true then do let a ← alloc { cls:=aa.type "cell",data:=oU.cell none };pure (ForInStep.yield ((x.1,a)::cells))else pure (ForInStep.yield cells)) Q E s
  |[],cells,s,Q,h=>by
    have:=h s.heap (λ_ _ e=>e) (λc h1 h2=>by rw[show iK []=0 from rfl]at h2;omega)
    rw[rR]
    exact aq this
  |(a,k)::r,cells,s,Q,h=>by
    rw[kU]
    by_cases hk:k=.cell
    · subst hk
      simp only[beq_self_eq_true,if_true,bind_assoc,pure_bind]
      refine ak (wpAny_alloc ?_)
      have ih:=G4 (M:=M) (A:=A) (E:=E) r ((a,s.heap.objs.size)::cells) { s with heap:=s.heap.push { cls:=aa.type "cell",data:=oU.cell none } } Q (λh' k1 k2=>by
        have hz:(s.heap.push { cls:=aa.type "cell",data:=oU.cell none }).objs.size=s.heap.objs.size+1:=fx _ _
        have:=h h' (λb o e=>k1 b o (ay _ e)) (λc h1 h2=>by
          rw[Hr]at h2
          by_cases hc:c=s.heap.objs.size
          · subst hc
            exact⟨_,k1 _ _ (bo _ rfl),rfl⟩
          · exact k2 c (by show(s.heap.push _).objs.size<=c;rw[hz];omega) (by show c<(s.heap.push _).objs.size+_;rw[hz];omega))
        rw[D0]at this
        have e:(({ s with heap:=s.heap.push { cls:=aa.type "cell",data:=oU.cell none } }:ao)).heap.objs.size=s.heap.objs.size+1:=hz
        rw[e]
        exact this)
      exact ih
    · have hb:(k==bp.cell)=false:=by simpa using hk
      simp only[hb,cv,if_false,pure_bind]
      refine G4 r cells s Q λh' k1 k2=>?_
      have hf:=Md hk a r
      have:=h h' k1 (by rw[hf];exact k2)
      rw[Ec hk]at this
      exact this
theorem Ke {M:Model}{A:bz}{E:aa->ao->Prop}{s:ao}{scope:fF}{globals:af}{closure:List (aR×af)}{qual:aR}{code:aa}{out:Env}{builtins:af}{Q:Env->ao->Prop}
    (h:∀h':aK,(∀b o,s.heap.get? b=some o->h'.get? b=some o)->h'.Ns s.heap.objs.size (λ_=>none)->(∀c,s.heap.objs.size+1<=c->c<s.heap.objs.size+1+iK scope.names->h'.IsCell c none) ->
      Q (newEnv scope s.heap.objs.size globals (cellsFrom (s.heap.objs.size+1) scope.names closure) qual none code (some out) builtins) { s with heap:=h' }) :
    aT M A (jU scope globals closure [] qual none code (some out) builtins) Q E s:=by
  unfold jU
  refine ak (wpAny_alloc ?_)
  have hz:(s.heap.push { cls:=aa.type "dict",data:=oU.dict #[] }).objs.size=s.heap.objs.size+1:=fx _ _
  refine ak (G4 scope.names closure { s with heap:=s.heap.push { cls:=aa.type "dict",data:=oU.dict #[] } } _ λh' k1 k2=>?_)
  have A9:(({ s with heap:=s.heap.push { cls:=aa.type "dict",data:=oU.dict #[] } }:ao)).heap.objs.size=s.heap.objs.size+1:=hz
  rw[A9]at k2 ⊢
  dsimp only
  rw[rR]
  refine ak (aq (aq ?_))
  exact h h' (λb o e=>k1 b o (ay _ e)) ((aK.Ns.new s.heap _).keeps k1) k2
def gU (X:Cx)(scope:fF)(cl:List (aR×af))(N:List aR)(C:af)(fp:List af)(s₀:ao)(H₀:Hp):Cx :=
 { X with N:=N,s₀:=s₀,H₀:=H₀,env:=nU scope cl C X.env,outer:=X.stack,stack:=X.stack,ex:=fp,fn:=λx=>scope.names.lookup x==some .cell,pn:=[],xe:=λ_ _=>False }
structure jN (X:Cx)(scope:fF)(N:List aR)(own:Nat)(cap:List Nat):Prop where
 kind:scope.kind=.function
 cells:∀x∈scope.names,x.2=.cell->scope.names.lookup x.1=some .cell
 locs:∀x∈scope.names,x.2=.local->scope.names.lookup x.1=some .local
 free:∀x∈scope.names,x.2=.free->X.env.kindOf x.1=some .cell\/X.env.kindOf x.1=some .free
 len:N.length=own+cap.length
 caps:∀(j:Nat) (x:aR),N[own+j]?=some x->∃i,cap[j]?=some i/\X.N[i]?=some x/\(scope.names.lookup x=some .free)
theorem jx {α β:Type}[BEq α][LawfulBEq α]{x:α}{y:β}:∀{l:List (α×β)},l.lookup x=some y->(x,y)∈l
 |[],h=>by simp at h
 |(a,b)::r,h=>by
  rw[bn]at h
  cases hb:x==a with
  |true=>rw[hb]at h;cases h;rw[eq_of_beq hb];exact am
  |false=>rw[hb]at h;exact ap _ (jx h)
theorem Kf {env:Env}{x:aR}:∀{names:List (aR×bp)},names.lookup x=some .free ->
  (names.map λ(n,k)=>if(k==bp.free&&env.scope.kind==.function&&env.kindOf n==some .cell)then(n,bp.cell)else(n,k)).lookup x=some .cell \/
  (names.map λ(n,k)=>if(k==bp.free&&env.scope.kind==.function&&env.kindOf n==some .cell)then(n,bp.cell)else(n,k)).lookup x=some .free
 |[],h=>by simp at h
 |(n,k)::r,h=>by
  rw[bn]at h
  rw[bC]
  cases hx:x==n with
  |true=>
   rw[hx]at h
   cases h
   by_cases hc:(bp.free==bp.free&&env.scope.kind==.function&&env.kindOf n==some .cell)=true
   ·left
    simp only[hc,if_true,bn,hx]
   ·right
    simp only[hc,if_false,bn,hx,cv]
  |false=>
   rw[hx]at h
   rcases Kf (env:=env) h with q|q
   ·left
    by_cases hc:(k==bp.free&&env.scope.kind==.function&&env.kindOf n==some .cell)=true
    ·simp only[hc,if_true,bn,hx];exact q
    ·simp only[hc,if_false,bn,hx,cv];exact q
   ·right
    by_cases hc:(k==bp.free&&env.scope.kind==.function&&env.kindOf n==some .cell)=true
    ·simp only[hc,if_true,bn,hx];exact q
    ·simp only[hc,if_false,bn,hx,cv];exact q
theorem qx {env:Env}{x:aR}:∀{names:List (aR×bp)},((names.map λ(n,k)=>if(k==bp.free&&env.scope.kind==.function&&env.kindOf n==some .cell)then(n,bp.cell)else(n,k)).lookup x=some .cell \/
  (names.map λ(n,k)=>if(k==bp.free&&env.scope.kind==.function&&env.kindOf n==some .cell)then(n,bp.cell)else(n,k)).lookup x=some .free)->(x,bp.free)∈names\/(x,bp.cell)∈names
 |[],h=>by simp at h
 |(n,k)::r,h=>by
  rw[bC]at h
  cases hx:x==n with
  |true=>
   have e:x=n:=eq_of_beq hx
   by_cases hc:(k==bp.free&&env.scope.kind==.function&&env.kindOf n==some .cell)=true
   ·have:k=.free:=by
     rw[bN,bN]at hc
     exact eq_of_beq hc.1.1
    left
    rw[e,this];exact am
   ·simp only[hc,if_false,bn,hx,cv]at h
    rcases h with h|h
    ·cases h;right;rw[e];exact am
    ·cases h;left;rw[e];exact am
  |false=>
   refine(qx (env:=env) (names:=r) ?_).imp (ap _) (ap _)
   by_cases hc:(k==bp.free&&env.scope.kind==.function&&env.kindOf n==some .cell)=true
   ·simpa only[hc,if_true,bn,hx]using h
   ·simpa only[hc,if_false,bn,hx,cv]using h
def fH (σ:St)(cap:List Nat):St:=cap.map λi=>(σ[i]?).join
theorem Rz {σ:St}{cap:List Nat}{j i:Nat}{v:V}(hj:cap[j]?=some i)(h:(fH σ cap)[j]?=some (some v)):σ[i]?=some (some v):=by
 unfold fH at h
 rw[aM,hj]at h
 cases e:σ[i]? with
 |none=>rw[eP,e]at h;cases h
 |some o=>
  rw[eP,e]at h
  cases o with
  |none=>cases h
  |some u=>exact h
section
variable {X:Cx}{ah:List (af×cP)}{σ:St}{H:Hp}{s:ao}
theorem KQ {scope:fF}{cl:List (aR×af)}{N:List aR}{own:Nat}{cap:List Nat}{fp:List af}{h₁:aK}{t':Nat}{m₀:aR->Option aa}(B:jN X scope N own cap)(I:Inv X ah σ H s)
    (c1:∀y c,cl.lookup y=some c->X.env.cells.lookup y=some c) (c2:∀x∈scope.names,x.2=.free->∃c,cl.lookup x.1=some c)
    (hf:∀b∈fp,jO X ah H b) (Jc:∀b∈fp,b<s.heap.objs.size) (p5:h₁.Ns s.heap.objs.size m₀) (k:∀b o,s.heap.get? b=some o->h₁.get? b=some o)
    (rJ:∀c,s.heap.objs.size+1<=c->c<s.heap.objs.size+1+iK scope.names->h₁.IsCell c none) :
    Inv (gU X scope (cellsFrom (s.heap.objs.size+1) scope.names cl) N s.heap.objs.size fp s H) [] (aG own none++fH σ cap) H { s with heap:=h₁,toks:=t' } :=
  have low:∀x c,cl.lookup x=some c->c<s.heap.objs.size:=λx c e=>by
    obtain⟨v,o,q,_⟩:=I.cell x c (c1 x c e)
    exact aI q
  { ok:={
      mod:=I.mod
      kind:=B.kind
      glob:=I.ok.glob
      blt:=I.ok.blt
      above:=ar _
      inj:=HL _ _ _ (λx y c e e'=>I.ok.inj x y c (c1 x c e) (c1 y c e')) λx c e=>cV (low x c e)
      has:=λx hx=>by
        refine lL.mp (gS scope.names _ _ ?_)
        rcases qx hx with q|q
        · right
          obtain⟨c,e⟩:=c2 _ q rfl
          rw[e];rfl
        · exact .inl (B.cells _ q rfl)
      cab:=λx c e e'=>by
        have hx:scope.names.lookup x=some .cell:=eq_of_beq e
        rcases yE _ _ _ e' with⟨h1,_⟩|⟨_,h2⟩
        · exact kj h1
        · exact absurd (jx hx) h2
      hd:=I.ok.hd
      frames:=I.ok.frames
      stk:=.inl rfl
      exf:=λb hb=>⟨aZ (Jc b hb),λx c e=>by
        rcases yE _ _ _ e with⟨h1,_⟩|⟨h1,_⟩
        · exactλz=>absurd (Jc b hb) (by rw[←z];exact Nat.not_lt.mpr (kj h1))
        · exact(hf b hb).2.2.2.2.1 x c (c1 x c h1)⟩
      bs:=I.bs
      bsz:=cm I.ok.bsz I.sz
      noex:=λb o e hb=>by
        rcases(hf b hb).2.2.2.1 with q|q
        · exact I.ok.noex b o e q
        · exact absurd (br (aI e) I.ok.bsz) (Nat.not_lt.mpr q)
      exfs:=λb hb hz=>by
        rcases aA.mp (I.stkSub b hz)with q|q
        · exact(hf b hb).2.1 q
        · exact(hf b hb).2.2.1 q
      funs:=I.stack
      frf:=I.stkFree }
    os:=rfl
    bare:=I.bare
    base:=Un.kept k
    loc:=by
      refine⟨m₀,p5,λi x v hN hσ hv=>?_⟩
      by_cases hi:i<own
      · rw[cy (by rw[de];exact hi),eY,if_pos hi]at hσ
        cases hσ
      · obtain⟨j,rfl⟩:∃j,i=own+j:=⟨i-own,by omega⟩
        obtain⟨i',e1,e2,e3⟩:=B.caps j x hN
        rw[cR (by rw[de];omega),de,Nat.add_sub_cancel_left]at hσ
        have Ou:=Rz e1 hσ
        have hk:=B.free (x,.free) (jx e3) rfl
        obtain⟨m,hm,hl⟩:=I.loc
        obtain⟨u,ru,hu⟩:=hl i' x v e2 Ou (.inr hk)
        refine⟨u,ru,?_⟩
        rcases hu with⟨q,_⟩|⟨_,c,hc,ic⟩
        · rcases hk with hk|hk
          · rw[hk]at q;cases q
          · rw[hk]at q;cases q
        · obtain⟨c',tH⟩:=c2 (x,.free) (jx e3) rfl
          have ec:=c1 x c' tH
          rw[hc]at ec
          cases ec
          have hn:(x,bp.cell)∉scope.names:=λz=>by
            have:=B.cells _ z rfl
            rw[e3]at this
            cases this
          exact .inr ⟨Kf e3,c,by show(cellsFrom _ _ _).lookup x=_;rw[HK _ _ _ hn];exact tH,ic.keeps k⟩
    cell:=λx c e=>by
      rcases yE _ _ _ e with⟨h1,h2,_⟩|⟨h1,_⟩
      · exact⟨none,rJ c h1 h2⟩
      · obtain⟨v,q⟩:=I.cell x c (c1 x c h1)
        exact⟨v,q.keeps k⟩
    free:=I.hok.fresh (ar _)
    freeC:=λx c e=>by
      rcases yE _ _ _ e with⟨h1,_⟩|⟨h1,_⟩
      · exact I.hok.fresh (kj h1)
      · exact I.freeC x c (c1 x c h1)
    pin:=λp hp=>(nomatch hp)
    hok:=I.hok.kept k
    len:=by
      show(aG own none++fH σ cap).length=N.length
      rw[bq,de,B.len]
      unfold fH
      rw[aD] }
end
def sO:TT:=λ_ H Q=>Q true H
def tq (X:Cx)(ifs:List Expr)(t:TT):Prop :=
 ∀(ah:List (af×cP)) (s:ao) (σ:St) (H:Hp) (Q:Bool->Hp->Prop),Inv X ah σ H s->t σ H Q ->
  aT (aV X.prog X.w) X.A (forIn ifs true λc r=>if r=true then do let ok ← pY c X.env (bS c X.env);pure (ForInStep.yield ok)else pure (ForInStep.yield r)) (TP X ah σ Q) X.xe s
theorem TC {X:Cx}:tq X [] sO:=λ_ _ _ H _ I h=>wpAny_tests_nil ⟨H,I,h⟩
theorem TD {X:Cx}{c:Expr}{t:TT}(h:PT X c t):tq X [c] t:=λah s σ H Q I q=>wpAny_tests_one (h ah s σ H Q I q)
def pd (wi:TI)(own:Nat)(cap:List Nat)(g:TG)(tt:TT)(te:TE):TE:=λσ H Q=>wi σ H λJ H1=>∀D,H1 D=none->∃W:Nat->Nat->List V->Hp->Prop,(∃m,W 0 m [] (upd H1 D (.lst []))) /\
 ∀i m ys H2,W i m ys H2->H2 D=some (.lst ys)/\((J.stop i H2/\Q (.ref D) H2)\/(J.go i H2/\ys.length<sizeLine/\∀x H3,J.yld i H2 x H3->g x (aG own none++fH σ cap) H3 λσ2 H4=>tt σ2 H4 λb H5=>
  if b=true then te σ2 H5 λy H6=>H6 D=some (.lst ys)/\∃m',m'<m/\W (i+1) m' (ys++[y]) (upd H6 D (.lst (ys++[y])))else∃m',m'<m/\W (i+1) m' ys H5))
def fI (own:Nat)(g:TG):Prop:=∀v σ H Q,g v σ H Q->g v σ H λσ' H'=>Q σ' H'/\σ'.length = σ.length/\∀i,own<=i->σ'[i]? = σ[i]?
theorem RA (i own:Nat)(h:i<own):fI own (o3 i):=λv σ H Q q=>⟨q,by rw[kW],λj hj=>by rw[fV (by omega)]⟩
theorem TH {X:Cx}{iS iter tg:Expr}{ifs:List Expr}{scope:fF}{pos:cG}{N:List aR}{own:Nat}{cap:List Nat}{wi:TI}{g:TG}{tt:TT}{te:TE}(B:jN X scope N own cap)(hc:X.calm=true)(hi:PI X tg iter wi)
    (kg:fI own g)
    (hg:∀cl C fp s₀ H₀,PG (gU X scope cl N C fp s₀ H₀) tg g) (ht:∀cl C fp s₀ H₀,tq (gU X scope cl N C fp s₀ H₀) ifs tt) (he:∀cl C fp s₀ H₀,PE (gU X scope cl N C fp s₀ H₀) iS te)
    (hs:∀x,dB iter X.env x=pure x:=by intro _;rfl):PE X (.ListComp iS [⟨tg,iter,ifs,0⟩] scope pos) (pd wi own cap g tt te):=by
  intro ah s σ H Q I h
  obtain⟨cl,FF,c1,c2,_⟩:=jw (env:=X.env) scope.names [] (λx hx hf=>I.ok.has x.1 (B.free x hx hf)) (λy c e=>by simp at e)
  have qK:nS scope X.env=pure cl:=by
    have e:nS scope X.env=(forIn scope.names ([]:List (aR×af)) (λ(x:aR×bp) (cs:List (aR×af))=>if(x.2==bp.free)=true then do let a ← cellOf X.env x.1;pure (ForInStep.yield ((x.1,a)::cs))else pure (ForInStep.yield cs)) >>= pure:nj (List (aR×af))):=rfl
    rw[e,FF]
    rfl
  rw[eval_ListComp]
  refine wpAny_comprehension_free (use:=none) rfl hs qK B.kind B.locs (di (hi ah s σ H _ I h) λv s1 h1=>di h1 λDv s2 h2=>?_)
  obtain⟨it,fp,tn,J,H2,e,I2,T,rP,f2,W0⟩:=h2
  subst e
  obtain⟨W,⟨m0,w0⟩,mU⟩:=W0 s2.heap.objs.size (I2.hok.fresh (ar _))
  refine cJ ?_
  have I3:Inv X ah σ (upd H2 s2.heap.objs.size (.lst [])) { s2 with heap:=s2.heap.push { cls:=.type "list",data:=.seq ([]:List aa).toArray } }:=I2.lnew .nil (cw _)
  generalize A7:({ s2 with heap:=s2.heap.push { cls:=.type "list",data:=.seq ([]:List aa).toArray } }:ao)=s3 at I3
  have k3:∀b o,s2.heap.get? b=some o->s3.heap.get? b=some o:=λb o e=>by rw[←A7];exact ay _ e
  have z3:s3.heap.objs.size=s2.heap.objs.size+1:=by rw[←A7];exact fx _ _
  have oC:∀b∈fp,b<s2.heap.objs.size:=λb hb=>by
    obtain⟨o,e,_⟩:=T.obj _ _ rP b hb
    exact aI e
  have iY:∀b∈fp,b≠s2.heap.objs.size:=λb hb=>aZ (oC b hb)
  have f3:∀b∈fp,jO X ah (upd H2 s2.heap.objs.size (.lst [])) b:=λb hb=>⟨by rw[zt (iY b hb)];exact(f2 b hb).1,(f2 b hb).2⟩
  have DF:tn 0 s3.heap:=T.keep _ _ _ rP λb _ o e=>k3 b o e
  show aT _ _ (jU scope X.env.globals cl [] X.env.qual none .none (some X.env)) _ _ _
  refine Ke λh₁ kk vW vS=>?_
  have IB:=KQ (t':=s3.toks) B I3 c1 c2 f3 (λb hb=>by rw[z3];exact cV (oC b hb)) vW kk vS
  generalize cellsFrom (s3.heap.objs.size+1) scope.names cl=cl at IB ⊢
  generalize Gc:({ s3 with heap:=h₁,toks:=s3.toks }:ao)=s4 at IB
  have Cz:tn 0 s4.heap:=T.keep _ _ _ DF λb _ o e=>by rw[←Gc];exact kk b o e
  show gL (aV X.prog X.w) X.A (.compStart (.ListComp iS [⟨tg,iter,ifs,0⟩] scope pos) 0 (.ref it) (.ref s2.heap.objs.size) (nU scope cl s3.heap.objs.size X.env))
      (nV (aV X.prog X.w) X.A X.xe none (EP X ah σ Q) (.ref s2.heap.objs.size) s3.heap.objs.size) s4
  have lB:∀{H':Hp},(∀b∈fp,H' b=none)->∀b∈fp,jO (gU X scope cl N s3.heap.objs.size fp s3 (upd H2 s2.heap.objs.size (.lst []))) [] H' b:=λhn b hb=>
    ⟨hn b hb,aZ (by show b<s3.heap.objs.size;rw[z3];exact cV (oC b hb)),IB.ok.exfs b hb,.inl hb,λx c e=>(IB.ok.exf b hb).2 x c e,λp hp=>(nomatch hp)⟩
  have loop:gL (aV X.prog X.w) X.A (.compLoop (.ListComp iS [⟨tg,iter,ifs,0⟩] scope pos) 0 (.ref it) (.ref s2.heap.objs.size) (nU scope cl s3.heap.objs.size X.env))
      (nV (aV X.prog X.w) X.A X.xe none (EP X ah σ Q) (.ref s2.heap.objs.size) s3.heap.objs.size) s4:=by
    refine Kc (λn s'=>∃i ys H',Inv (gU X scope cl N s3.heap.objs.size fp s3 (upd H2 s2.heap.objs.size (.lst []))) [] (aG own none++fH σ cap) H' s'/\tn i s'.heap/\(∀b∈fp,H' b=none)/\W i n ys H') ?_ m0
      ⟨0,[],_,IB,Cz,λb hb=>(f3 b hb).1,w0⟩
    rintro n s5 ⟨i,ys,H5,I5,sM,vP,w5⟩
    obtain⟨hD,FO⟩:=mU i n ys H5 w5
    rcases FO with⟨stop,qn⟩|⟨go,kR,step⟩
    · refine di (T.done (gU X scope cl N s3.heap.objs.size fp s3 (upd H2 s2.heap.objs.size (.lst []))) rfl rfl rfl hc i [] s5 _ H5 (λ_ _=>False) I5 (lB vP) sM stop) λr s6 dk=>?_
      obtain⟨hr,I6⟩:=dk
      subst hr
      obtain⟨m,hm,_⟩:=id I6.loc
      refine⟨m,hm,λh' sb=>⟨.ref s2.heap.objs.size,H5,?_,rfl,qn⟩⟩
      have U:=I6.base
      have nC:∀b o,s3.heap.get? b=some o->b≠s3.heap.objs.size:=λb o e=>aZ (aI e)
      have nT:∀b o,H5 b=some o->b≠s3.heap.objs.size:=λb o e z=>by
        have q:H5 s3.heap.objs.size=none:=I6.free
        rw[z,q]at e
        cases e
      refine I3.call' (ch:=fp) I6.os ?_ (λa o e=>(I6.hok a o e).stay (λb u hb q=>sb.extBut b u ?_ q) (λ_ q=>q) λ_ _ q=>q) I6.bare (λb hb=>⟨(f3 b hb).2.2.2.1,(f3 b hb).2.1,(f3 b hb).2.2.2.2.1,(f3 b hb).2.2.2.2.2⟩)
      · exact{
          keep:=λb o e z hb he=>sb.extBut b o (nC b o e) (U.keep b o e z hb he)
          slot:=λb o e z hb he=>by
            obtain⟨sl,q⟩:=U.slot b o e z hb he
            exact⟨sl,sb.extBut b _ (nC b o e) q⟩
          free:=U.free
          there:=λb o e he=>by
            obtain⟨o',q⟩:=U.there b o e he
            exact⟨o',sb.extBut b o' (nC b o e) q⟩
          tups:=U.tups
          frzs:=U.frzs
          tbls:=U.tbls }
      · rcases hb with rfl|hb
        · exact nT _ _ e
        · exact nT _ _ hb
    · refine di (T.item (gU X scope cl N s3.heap.objs.size fp s3 (upd H2 s2.heap.objs.size (.lst []))) rfl rfl rfl hc i [] s5 _ H5 (λ_ _=>False) I5 (lB vP) sM go) λr s6 dk=>?_
      obtain⟨u,hr,h6⟩:=dk
      subst hr
      refine di h6 λ_ s7 dk=>?_
      obtain⟨x,H7,I7,r7,y7,wQ,Fs⟩:=dk
      have Es:=I7.pinned (lB Fs) (T.obj _ _ wQ)
      refine di (hg cl s3.heap.objs.size fp s3 _ _ s7 _ H7 x u _ Es r7 (kg _ _ _ _ (step x H7 y7))) λ_ s8 dk=>?_
      obtain⟨σ8,H8,I8,q8,l8,p8⟩:=dk
      have back:∀{H9:Hp} {s9:ao},Inv (gU X scope cl N s3.heap.objs.size fp s3 (upd H2 s2.heap.objs.size (.lst []))) ([]++kd fp s7.heap) σ8 H9 s9 ->
          Inv (gU X scope cl N s3.heap.objs.size fp s3 (upd H2 s2.heap.objs.size (.lst []))) [] (aG own none++fH σ cap) H9 s9/\tn (i+1) s9.heap/\∀b∈fp,H9 b=none:=λ{H9 s9} I9=>by
        refine⟨(I9.unpinned).weak l8.symm (λj v e=>?_),T.keep _ _ _ wQ λb hb o e=>(I9.pin (b,o) (aE _ (aE _ (vw hb e)))).1,λb hb=>?_⟩
        · by_cases hj:j<own
          · rw[cy (by rw[de];exact hj),eY,if_pos hj]at e
            cases e
          · rw[p8 j (by omega)];exact e
        · obtain⟨o,e,d⟩:=T.obj _ _ wQ b hb
          exact(I9.pin (b,o) (aE _ (aE _ (vw hb e)))).2.1
      refine di (ht cl s3.heap.objs.size fp s3 _ _ s8 σ8 H8 _ I8 q8) λok s9 dk=>?_
      obtain⟨H9,I9,q9⟩:=dk
      cases ok with
      |false=>
        rw[if_neg aY]
        rw[if_neg aY]at q9
        obtain⟨m',vV,w'⟩:=q9
        obtain⟨b1,b2,b3⟩:=back I9
        exact⟨m',vV,i+1,ys,H9,b1,b2,b3,w'⟩
      |true=>
        rw[if_pos rfl]
        rw[if_pos rfl]at q9
        refine di (he cl s3.heap.objs.size fp s3 _ _ s9 σ8 H9 _ I9 q9) λuy GH dk=>?_
        obtain⟨y,yH,Ep,r10,vQ,m',vV,w'⟩:=dk
        refine di (G8 _ GH σ8 yH (.ref s2.heap.objs.size) [y] (.ref s2.heap.objs.size) [uy] (λ_ yI=>yI=upd yH s2.heap.objs.size (.lst (ys++[y]))) Ep rfl (.cons r10 .nil) ⟨_,ys,y,rfl,rfl,vQ,kR,rfl⟩) λ_ PB dk=>?_
        obtain⟨_,yI,Er,_,EZ⟩:=dk
        subst EZ
        obtain⟨b1,b2,b3⟩:=back Er
        exact⟨m',vV,i+1,ys++[y],_,b1,b2,b3,w'⟩
  exact codeAny_compStart_list loop (T.self X.A 0 s4 _ _ Cz loop)
end L2
namespace L2
open PySem PySem.Spec PyProof.Rows
section
variable {X:Cx}{ah:List (af×cP)}{σ:St}{H:Hp}{s:ao}{h':aK}
theorem Inv.turnLay {ch:List af}{a:af}{o:HO}{t':Nat}(I:Inv X ah σ H s)(kQ:∀b∈ch,jO X ah H b)(k:∀b o,b∉ch->s.heap.get? b=some o->h'.get? b=some o)(hp:s.heap.objs.size<=a)
  (new:dA X.prog X.w (upd H a o) h' a o):Inv X ah σ (upd H a o) { s with heap:=h',toks:=t' }:=by
 have hn:H a=none:=I.hok.fresh hp
 have BE:∀b u,H b=some u->b∉ch:=λb u e z=>by rw[(kQ b z).1]at e;cases e
 refine I.step (g':=s.gens) (d':=s.drawn) (ch:=ch) (λb hb=>⟨(kQ b hb).2.2.2.1,(kQ b hb).2.1,(kQ b hb).2.2.2.2.1,(kQ b hb).2.2.2.2.2⟩) (λb o _ _ hc e _=>k b o hc e) (λb o _ _ hc e _=>⟨o.slots,k b o hc e⟩)
  (λb o _ e n=>by rw[zt (aZ (br (aI e) hp))];exact n) (λb o hc e=>⟨o,k b o hc e⟩) (λb xs q=>by rw[zt (yr q hn)];exact q) (λb u xs q=>by rw[zt (yr q hn)];exact q)
  (λb ps q=>⟨#[],by rw[zt (yr q hn),q];simp⟩) (λm hm=>?_) (λb u e=>?_) I.bare
 ·obtain⟨o',es,ep,ho,r⟩:=hm
  exact⟨o',es,ep,k _ o' (λz=>(kQ _ z).2.1 rfl) ho,r⟩
 ·by_cases hb:b=a
  ·subst hb
   rw[zw]at e
   cases e
   exact new
  ·rw[zt hb]at e
   refine(I.hok b u e).stay (λc v hc q=>k c v ?_ q) (λc q=>by rw[zt (yr q hn)];exact q) λc xs q=>by rw[zt (yr q hn)];exact q
   rcases hc with z|z
   ·rw[z];exact BE b u e
   ·exact BE c _ z
theorem Inv.turnedL {ch:List af}{t':Nat}(I:Inv X ah σ H s)(kQ:∀b∈ch,jO X ah H b)(k:∀b o,b∉ch->s.heap.get? b=some o->h'.get? b=some o):Inv X ah σ H { s with heap:=h',toks:=t' }:=by
 have BE:∀b u,H b=some u->b∉ch:=λb u e z=>by rw[(kQ b z).1]at e;cases e
 refine I.step (g':=s.gens) (d':=s.drawn) (ch:=ch) (λb hb=>⟨(kQ b hb).2.2.2.1,(kQ b hb).2.1,(kQ b hb).2.2.2.2.1,(kQ b hb).2.2.2.2.2⟩) (λb o _ _ hc e _=>k b o hc e) (λb o _ _ hc e _=>⟨o.slots,k b o hc e⟩)
  (λ_ _ _ _ n=>n) (λb o hc e=>⟨o,k b o hc e⟩) (λ_ _ e=>e) (λ_ _ _ e=>e) (λb ps e=>⟨#[],by rw[e];simp⟩) (λm hm=>?_) (λb u e=>?_) I.bare
 ·obtain⟨o',es,ep,ho,r⟩:=hm
  exact⟨o',es,ep,k _ o' (λz=>(kQ _ z).2.1 rfl) ho,r⟩
 ·refine(I.hok b u e).stay (λc v hc q=>k c v ?_ q) (λ_ q=>q) λ_ _ q=>q
  rcases hc with z|z
  ·rw[z];exact BE b u e
  ·exact BE c _ z
end
def Et (K:ae)(a:af):It :=
 ⟨λi H=>∃xs x,fw K H a xs/\xs[i]?=some x,λi H x H'=>∃p y,H p=none/\x=.ref p/\H'=upd H p (.tup [.int i,y])/\∀xs,fw K H a xs->xs[i]?=some y,λi H=>∃xs,fw K H a xs/\xs.length<=i⟩
theorem RY {P:bb}{w:bG}{K:ae}{mJ:List Expr}{kt:Nat}{pt:cG}(a e it:af)(Jb:e≠it) :
    Turn P w K (.Tuple mJ kt pt) (Et K a) [e,it] e (λi h=>(∃old,IsEnum h e it i old)/\h.IsListIter it a i) where
  mem:=by simp
  obj:=λi h st b hb=>by
    obtain⟨⟨old,he⟩,o,e1,c,d⟩:=st
    rcases aA.mp hb with rfl|hb
    · exact⟨_,he,λv z=>by cases z⟩
    · have e2:b=it:=by simpa using hb
      subst e2
      exact⟨o,e1,λv z=>by rw[d]at z;cases z⟩
  keep:=λi h h' st k=>by
    obtain⟨⟨old,he⟩,hit⟩:=st
    exact⟨⟨old,k e (by simp) _ he⟩,hit.at λo x=>k it (by simp) o x⟩
  item:=by
    intro X hP hw hK hc i ah s σ H E I hf st hg
    subst hP hw hK
    obtain⟨xs,x,hq,hx⟩:=hg
    obtain⟨cq,rv,p,hz⟩:=I.list hq
    obtain⟨u,hu,ru⟩:=rv.get hx
    obtain⟨⟨old,he⟩,hit⟩:=st
    refine wpAny_pyNext_enum_item he hit p.isList (x:=u) (by simpa using hu) Jb λh1 ho FQ hT hsz hk=>?_
    refine⟨_,rfl,wpAny_letOwnedTupleGo_enum (s:={ s with heap:=h1,toks:=s.toks+1 }) ho λh2 Dg GJ=>?_⟩
    have iS:e<s.heap.objs.size:=aI he
    have Ox:it<s.heap.objs.size:=by obtain⟨_,q,_⟩:=hit;exact aI q
    have NH:h2.get? s.heap.objs.size=some { cls:=.type "tuple",data:=.seq #[.int i s.toks,u] }:=(GJ.2 _ (Nat.ne_of_gt iS)).trans hT
    have NY:H s.heap.objs.size=none:=I.hok.fresh (ar _)
    have I1:Inv X ah σ (upd H s.heap.objs.size (.tup [.int i,x])) { s with heap:=h2,toks:=s.toks+1 }:=by
      refine I.turnLay (ch:=[e,it]) hf (λb o hb q=>?_) (ar _) ⟨by show 2<=sizeLine;decide,[.int i s.toks,u],.cons ⟨_,rfl⟩ (.cons ru .nil),_,NH,rfl,_,rfl⟩
      have IS:b≠e:=λz=>hb (by simp[z])
      have ND:b≠it:=λz=>hb (by simp[z])
      exact(GJ.2 b IS).trans (hk b o IS ND q)
    refine⟨.ref s.heap.objs.size,_,I1,rfl,⟨_,x,NY,rfl,rfl,λys hy=>by rw[I.list_inj hy hq];exact hx⟩,⟨⟨u,by simpa using Dg⟩,FQ.at λo q=>(GJ.2 it Jb.symm).trans q⟩,λb hb=>?_⟩
    rw[zt ?_]
    · exact(hf b hb).1
    · rcases aA.mp hb with rfl|hb
      · exact aZ iS
      · have e2:b=it:=by simpa using hb
        rw[e2];exact aZ Ox
  done:=by
    intro X hP hw hK hc i ah s σ H E I hf st hg
    subst hP hw hK
    obtain⟨xs,hq,hx⟩:=hg
    obtain⟨cq,rv,p,hz⟩:=I.list hq
    obtain⟨⟨old,he⟩,hit⟩:=st
    have hl:=rv.length
    exact wpAny_pyNext_enum_end (I.ok.hd hc) he hit p.isList (by simp;omega) λh' eb=>⟨rfl,I.turnedL (ch:=[e,it]) (t':=s.toks) hf λb o hb q=>eb b o (λz=>hb (by simp[z])) q⟩
  self:=λ_ _ _ _ _ st h=>wpAny_pyIter_enum st.1.choose_spec h
section
variable {X:Cx}{mJ:List Expr}{kt:Nat}{pt:cG}
def Ba (K:ae)(ta:TA):TI:=λσ H R=>ta σ H λvs H1=>∃a,vs=[.ref a]/\(∃xs,fw K H1 a xs)/\R (Et K a) H1
theorem LJ {l:Expr}{ta:TA}{p pos:cG}(hg:Gl X "enumerate")(hm:X.mg "enumerate"=none)(ha:PA X [l] ta)(hs:aw [l] X.env=[(false,bS l X.env)]:=by rfl) :
  PI X (.Tuple mJ kt pt) (.Call (.Name "enumerate" p) [l] [] pos) (Ba X.K ta):=by
 intro ah s σ H R I h
 refine Call_ (t7 I hg hm PyProof.Rows.boot_enumerate (cF (di (ha pos ah s σ H _ I h) λus s1 ⟨vs,H1,I1,r1,q1⟩=>?_) hs rfl))
 obtain⟨a,e,⟨xs,hq⟩,q⟩:=q1
 subst e
 cases r1 with
 |cons r rr=>
  cases rr
  cases r
  obtain⟨cq,rv,pl,hz⟩:=I1.list hq
  refine call_enumerate_list pl.isList λh' he hit hsz hk=>?_
  refine wpAny_pyIter_enum (s:={ s1 with heap:=h' }) he ?_
  refine⟨s1.heap.objs.size+1,[s1.heap.objs.size+1,s1.heap.objs.size],_,_,H1,rfl,I1.kept (t':=s1.toks) hk,RY a _ _ (Nat.succ_ne_self _),⟨⟨_,he⟩,hit⟩,λb hb=>?_,q⟩
  rcases aA.mp hb with rfl|hb
  ·exact I1.fpOk (gM _) (I1.hok.fresh (gM _))
  ·have e:b=s1.heap.objs.size:=by simpa using hb
   subst e
   exact I1.fpOk (ar _) (I1.hok.fresh (ar _))
end
end L2
set_option maxHeartbeats 4000000
namespace L2
open PySem PySem.Spec PyProof.Rows
section
variable {P:bb}{w:bG}{A:bz}{E:aa->ao->Prop}{s:ao}
end
section
variable {X:Cx}{ah:List (af×cP)}{σ:St}{H:Hp}{s:ao}{a:af}
theorem Paired.at {α β:Type}{R:α->β->Prop}:∀{l:List α} {m:List β},Paired R l m->∀{i:Nat} {x:α},l[i]?=some x->∃y,m[i]?=some y/\R x y
 |_,_,.cons r t,0,x,e=>by cases e;exact⟨_,rfl,r⟩
 |_,_,.cons r t,i+1,x,e=>Paired.at t (i:=i) e
end
end L2
set_option maxHeartbeats 4000000
namespace L2
open PySem PySem.Spec PyProof.Rows
section
variable {P:bb}{w:bG}{A:bz}{E:aa->ao->Prop}{s:ao}
theorem RZ {d:af}{o:cP}{es:Array DictEntry}{ep:Nat}{Q:aa->ao->Prop}(ns:(d==cH)=false)(ty:s.TypeIs (.ref d) "dict")(ho:s.heap.get? d=some o)(hd:o.data=.dict es ep)
    (q:Q (.ref s.heap.objs.size) { s with heap:=s.heap.push { cls:=.type "dict_keyiterator",data:=.fields #[.ref d,.int 0 0,.int es.size 0,.int ep 0] } }):aT (aV P w) A (pyIter (.ref d)) Q E s:=by
  apply wpAny_pyIter_slot ty F.slot_dict_iter
  refine wpAny_call_entry F.slot_dict_iter ty F.entry_dict_iter ?_ (F.args_dict_iter_1 _)
  unfold ck.«dict.__iter__»
  apply ak
  unfold ck.Dict.dictSlotNone
  apply ak
  refine wpAny_notOrdered_dict ty ?_
  refine aq (a:=aa.ref d) ?_
  show aT _ _ (ck.Dict.showsAll d >>= _) _ _ _
  apply ak
  unfold ck.Dict.showsAll
  rw[if_neg (by rw[ns];decide)]
  apply aq
  apply ak
  refine wpAny_dictEntries ho hd ?_
  apply ak
  refine wpAny_dictEpoch ho hd ?_
  apply ak
  refine cJ (aq ⟨_,rfl,"dict_keyiterator",_,⟨_,bo _ rfl,rfl⟩,F.slot_dict_keyiterator_next.lookup,?_⟩)
  simpa[rawInt]using q
theorem Me:ck.Dict_items.ownsTuple "dict_keyiterator"=false:=by decide
theorem R0 {it d:af}{od:cP}{es:Array DictEntry}{i ep:Nat}{Q:Option aa->ao->Prop}(hi:s.heap.IsKeyIter it d i es.size ep)(AV:s.heap.get? d=some od)(oA:od.data=.dict es ep)(hl:i<es.size)
  (q:∀h',h'.IsKeyIter it d (i+1) es.size ep->d6 it s.heap h'->Q (some es[i].key) { s with heap:=h' }):aT (aV P w) A (pyNext (.ref it)) Q E s:=by
 obtain⟨o,ho,hc,hd⟩:=id hi
 unfold pyNext
 apply ak
 apply wpAny_attempt
 refine wpAny_callSpecial?_slot (name:=aR.ofString "__next__") hi.typeIs F.slot_dict_keyiterator_next (wpAny_call_entry F.slot_dict_keyiterator_next hi.typeIs F.entry_dict_keyiterator_next ?_ (F.args_dict_keyiterator_next_1 _))
 apply ak
 apply aq
 apply ak
 apply ak
 apply ak
 first|refine wpAny_typeNameOfWhole_keyiter hi.typeIs (aq ?_)|refine wpAny_typeNameOf_keyiter hi.typeIs (aq ?_)
 apply ak
 refine wpAny_fieldsOf ho hd ?_
 simp only[Me,cv,if_false]
 show aT _ _ (if(aa.ref d==aa.none)=true then _ else _) _ _ s
 rw[if_neg (show¬((aa.ref d==aa.none)=true) fromλz=>aY z)]
 apply ak
 apply aq
 apply ak
 refine wpAny_dictEntries AV oA ?_
 rw[if_neg (by simp)]
 apply ak
 apply aq
 apply ak
 refine wpAny_dictEpoch AV oA ?_
 rw[if_neg (by simp)]
 apply aq
 simp only[show¬((i:Int)<0)by omega,if_false,kh,dM hl]
 apply ak
 apply ak
 first|refine wpAny_typeNameOfWhole_keyiter hi.typeIs (aq ?_)|refine wpAny_typeNameOf_keyiter hi.typeIs (aq ?_)
 apply ak
 refine wpAny_isOneOf_keyiter hi.typeIs ?_
 show aT _ _ (setField (.ref it) 1 (rawInt ((i:Int)+1)) >>= _) _ _ s
 apply ak
 refine wpAny_setField ho hd (by simp) ?_
 have lQ:(s.heap.update it (cP.mapFields (·.setIfInBounds 1 (rawInt ((i:Int)+1))))).IsKeyIter it d (i+1) es.size ep :=
  ⟨_,nJ _ ho (cP.isFreed_of_fields (cP.data_mapFields hd _)),(cP.cls_mapFields ..).trans hc,by rw[cP.data_mapFields hd];simp[rawInt]⟩
 apply ak
 apply dY
 apply ak
 refine wpAny_isOneOf_keyiter (s:={ s with heap:=s.heap.update it (cP.mapFields (·.setIfInBounds 1 (rawInt ((i:Int)+1)))) }) lQ.typeIs ?_
 show aT _ _ (pure es[i].key) _ _ _
 exact aq (aq ⟨_,rfl,aq (q _ lQ (d6.update ..))⟩)
theorem SO {it d:af}{od:cP}{es:Array DictEntry}{i ep:Nat}{Q:Option aa->ao->Prop}(hh:A.handled=none)(hi:s.heap.IsKeyIter it d i es.size ep)(AV:s.heap.get? d=some od)(oA:od.data=.dict es ep)(hl:es.size<=i)
  (q:∀h',aK.ExtBut it s.heap h'->Q none { s with heap:=h' }):aT (aV P w) A (pyNext (.ref it)) Q E s:=by
 obtain⟨o,ho,hc,hd⟩:=id hi
 unfold pyNext
 apply ak
 apply wpAny_attempt
 refine wpAny_callSpecial?_slot (name:=aR.ofString "__next__") hi.typeIs F.slot_dict_keyiterator_next (wpAny_call_entry F.slot_dict_keyiterator_next hi.typeIs F.entry_dict_keyiterator_next ?_ (F.args_dict_keyiterator_next_1 _))
 apply ak
 apply aq
 apply ak
 apply ak
 apply ak
 first|refine wpAny_typeNameOfWhole_keyiter hi.typeIs (aq ?_)|refine wpAny_typeNameOf_keyiter hi.typeIs (aq ?_)
 apply ak
 refine wpAny_fieldsOf ho hd ?_
 simp only[Me,cv,if_false]
 show aT _ _ (if(aa.ref d==aa.none)=true then _ else _) _ _ s
 rw[if_neg (show¬((aa.ref d==aa.none)=true) fromλz=>aY z)]
 apply ak
 apply aq
 apply ak
 refine wpAny_dictEntries AV oA ?_
 rw[if_neg (by simp)]
 apply ak
 apply aq
 apply ak
 refine wpAny_dictEpoch AV oA ?_
 rw[if_neg (by simp)]
 apply aq
 simp only[show¬((i:Int)<0)by omega,if_false,kh,ie hl]
 apply ak
 apply ak
 first|refine wpAny_typeNameOfWhole_keyiter hi.typeIs (aq ?_)|refine wpAny_typeNameOf_keyiter hi.typeIs (aq ?_)
 show aT _ _ (setField (.ref it) 0 .none >>= _) _ _ s
 apply ak
 refine wpAny_setField ho hd (by simp) ?_
 show aT _ _ (newExc (.type "StopIteration") [] >>= _) _ _ _
 apply ak
 simp only[newExc,newTuple]
 apply ak
 refine cJ ?_ (by size_fits)
 refine ak (m:=firstArgMember _ _) ?_
 refine wpAny_of_eq (a:=aa.none) (by first|rfl|(simp only[firstArgMember];rfl)) ?_
 refine cJ ?_ (by size_fits)
 simp only[raiseNew]
 apply ak
 apply wpAny_handled
 rw[show A.in1.handled=none from hh]
 refine ak (aq <|wpAny_throw ?_)
 apply ak
 refine wpAny_isInstance (T:="StopIteration") (b:=true) ⟨_,bo _ rfl,rfl⟩ isSubtype_stop ?_
 exact aq (q _ (((d6.update ..).extBut.push _).push _))
def uL (d:af)(o:cP)(es:Array DictEntry)(ep:Nat)(h:aK):Prop:=h.get? d=some o/\o.cls=.type "dict"/\o.data=.dict es ep
theorem T9 {d:af}{o:cP}{es:Array DictEntry}{ep:Nat}(ns:(d==cH)=false):PySem.W.KdlSrc P w "dict" d d es.size (λi v=>∃hl:i<es.size,v=es[i].key) (uL d o es ep) where
 type:=λ_ hm=>⟨o,hm.1,hm.2.1⟩
 there:=λ_ hm=>⟨aI hm.1,aI hm.1⟩
 keep:=λ_ _ hm hk=>⟨hk d (.inl rfl) o hm.1,hm.2⟩
 notList:=by decide
 notTuple:=by decide
 hint:=λ_ _ s _ hm hq=>PySem.W.kdl_hint_dict (s:=s) ⟨o,hm.1,hm.2.1⟩ hq
 iter:=λA s hh hm=>⟨_,λi h=>h.IsKeyIter s.heap.objs.size d i es.size ep/\uL d o es ep h,(λ_ _ hq=>RZ ns ⟨o,hm.1,hm.2.1⟩ hm.1 hm.2.2 hq),{
  sub:=λb hb=>by simp at hb;simp[hb]
  frame:=λ_ _ _ st hk=>⟨st.1.at λo e=>hk _ (by simp) o e,hk d (by simp) o st.2.1,st.2.2⟩
  item:=λi s' Q E hi st hQ=>R0 st.1 st.2.1 st.2.2.2 hi λh' FP Dp=>hQ _ h' s'.toks ⟨hi,rfl⟩ ⟨FP,Dp.extBut d o (aZ (aI hm.1)) st.2.1,st.2.2⟩ λb o hb e=>Dp.extBut b o (λh=>hb (by simp[h])) e
  done:=λs' Q E st hQ=>SO hh st.1 st.2.1 st.2.2.2 (ar _) λh' NT=>hQ h' s'.toks λb o hb e=>NT b o (λh=>hb (by simp[h])) e
  self:=λ_ _ _ _ st hQ=>wpAny_pyIter_keyiter st.1 hQ },⟨⟨_,bo _ rfl,rfl,rfl⟩,ay _ hm.1,hm.2⟩⟩
end
section
variable {X:Cx}{ah:List (af×cP)}{σ:St}{H:Hp}{s:ao}{a:af}
theorem U6 {bT:List (List dw×V)}{P:bb}{w:bG}(ok:jC P w H s.heap)(h:Rd H a (.dT bT)):(a==cH)=false/\bT.length<=sizeLine/\∃(o:cP) (es:Array DictEntry) (ep:Nat),uL a o es ep s.heap/\es.size=bT.length /\
  ∀i k y,bT[i]?=some (k,y)->∃(hl:i<es.size) (b:af),es[i].key=.ref b/\H b=some (.tup (k.map kV))/\RelV y es[i].val:=by
 obtain⟨z1,z2,xs,r,o,es,ep,h1,h2,h3,h4,h5⟩:=(show dA P w H s.heap a (.dT bT)from h.ok ok)
 have hz:es.size=xs.length:=size_of_entries h4
 refine⟨z2,z1,o,es,ep,⟨h1,h2.1,h3⟩,by rw[hz,r.length],λi k y hk=>?_⟩
 obtain⟨⟨k',b,u⟩,hx,e1,e2,e3⟩:=Paired.at r hk
 have hi:=entry_at h4 i
 rw[hx]at hi
 obtain⟨hl,hi⟩:=Array.getElem?_eq_some_iff.mp hi
 exact⟨hl,b,by rw[hi];rfl,e2,by rw[hi];exact e3⟩
def rh:List V->Hp->VK->Prop:=λxs H Q=>∃p bT,xs=[.ref p]/\Rd H p (.dT bT)/\∀l bs,H l=none->Paired (λ(q:List dw×V) (b:af)=>H b=some (.tup (q.1.map kV))) bT bs->Q (.ref l) (upd H l (.lst (bs.map V.ref)))
theorem KR {α β:Type}{R:α->β->Prop}:∀{l:List α} {m:List β},l.length=m.length->(∀(i:Nat) (x:α),l[i]?=some x->∃y,m[i]?=some y/\R x y)->Paired R l m
 |[],[],_,_=>.nil
 |x::l,[],h,_=>by simp at h
 |[],y::m,h,_=>by simp at h
 |x::l,y::m,h,f=>by
  obtain⟨z,e,r⟩:=f 0 x rfl
  cases e
  exact .cons r (KR (by simpa using h) λi x' e=>f (i+1) x' e)
theorem Kw (NQ:X.calm=true):ez X (.type "list") rh:=by
 intro ah s σ H xs us Q I r h
 obtain⟨p,bT,rfl,hp,q⟩:=h
 obtain⟨u,rfl,rx⟩:=mr r
 cases rx
 obtain⟨ns,mY,o,es,ep,rd,hz,at_⟩:=U6 I.hok hp
 refine PySem.W.kdl_call (T9 ns) (I.ok.hd NQ) rd (by rw[hz];exact mY) λh' tk fM c kp e it=>?_
 obtain⟨hsz,hit⟩:=it
 have key:∀i (hi:i<bT.length),∃b,es[i]?.map (·.key)=some (.ref b)/\H b=some (.tup (bT[i].1.map kV)):=λi hi=>by
  obtain⟨hl,b,e1,e2,_⟩:=at_ i bT[i].1 bT[i].2 (by simp[hi])
  exact⟨b,by rw[dM hl,eP,e1],e2⟩
 obtain⟨bs,FB,FD⟩:∃bs:List af,bs.length=bT.length/\∀i (hi:i<bT.length),∃b,bs[i]?=some b/\es[i]?.map (·.key)=some (.ref b)/\H b=some (.tup (bT[i].1.map kV)):=by
  have:∀i:Nat,∃b:af,∀hi:i<bT.length,es[i]?.map (·.key)=some (.ref b)/\H b=some (.tup (bT[i].1.map kV)):=λi=>by
   by_cases hi:i<bT.length
   ·obtain⟨b,h1,h2⟩:=key i hi;exact⟨b,λ_=>⟨h1,h2⟩⟩
   ·exact⟨0,λh=>absurd h hi⟩
  obtain⟨f,hf⟩:=Classical.axiomOfChoice this
  refine⟨(az bT.length).map f,by simp,λi hi=>⟨f i,by rw[aM,dz hi];rfl,hf i hi⟩⟩
 have pr:Paired (λ(q:List dw×V) (b:af)=>H b=some (.tup (q.1.map kV))) bT bs:=KR FB.symm λi x hx=>by
  obtain⟨hi,e⟩:=aC.mp hx
  obtain⟨b,h1,_,h3⟩:=FD i hi
  exact⟨b,h1,by rw[←e];exact h3⟩
 have si:fM.toList=bs.map aa.ref:=by
  apply fz
  intro i
  rw[aM,Array.getElem?_toList]
  by_cases hi:i<bT.length
  ·obtain⟨b,h1,h2,_⟩:=FD i hi
   have lQ:i<fM.size:=by rw[hsz,hz];exact hi
   obtain⟨hl,hv⟩:=hit i fM[i] (dM lQ)
   rw[dM lQ,h1,hv]
   rw[dM hl,eP]at h2
   exact h2
  ·rw[ie (by rw[hsz,hz];omega),dc (by omega)]
   rfl
 refine⟨.ref s.heap.objs.size,_,I.laid (t':=tk) kp (ar _) (show dA X.prog X.w _ h' _ (.lst (bs.map V.ref))from⟨by rw[aD,FB];exact mY,bs.map aa.ref,c,?_,?_⟩),rfl,q _ bs (I.hok.fresh (ar _)) pr⟩
 ·clear si FD pr FB
  induction bs with
  |nil=>exact .nil
  |cons b bs ih=>exact .cons rfl ih
 ·rw[e,←si]
end
end L2
namespace L2
open PySem PySem.W PyProof.Rows
def dU {α:Type}(lt:Nat->Nat->Bool):KasT α->α
 |.ret a=>a
 |.ask i j k=>dU lt (k (lt i j))
theorem uo {α β:Type}(lt:Nat->Nat->Bool)(f:α->KasT β):∀t:KasT α,dU lt (t.bind f)=dU lt (f (dU lt t))
 |.ret _=>rfl
 |.ask i j k=>uo lt f (k (lt i j))
def lP {α:Type}(n:Nat)(P:α->Prop):KasT α->Prop
 |.ret a=>P a
 |.ask i j k=>i<n/\j<n/\∀b,lP n P (k b)
theorem lP.bind {α β:Type}{n:Nat}{P:α->Prop}{R:β->Prop}{f:α->KasT β}:∀{t:KasT α},lP n P t->(∀a,P a->lP n R (f a))->lP n R (t.bind f)
 |.ret a,h,g=>g a h
 |.ask i j k,h,g=>⟨h.1,h.2.1,λb=>lP.bind (h.2.2 b) g⟩
theorem Lb {α:Type}{cmp:Nat->Nat->(Bool->ao->Prop)->ao->Prop}{lt:Nat->Nat->Bool}{s:ao}{n:Nat}{P:α->Prop}(hc:∀i j C,i<n->j<n->C (lt i j) s->cmp i j C s){Q:α->ao->Prop}:∀t:KasT α,lP n P t->Q (dU lt t) s->t.kasWp cmp Q s
 |.ret a,_,h=>h
 |.ask i j k,w,h=>hc i j _ w.1 w.2.1 (Lb hc (k (lt i j)) (w.2.2 _) h)
def Bd (n:Nat)(p:Array Nat):Prop:=∀x∈p.toList,x<n
theorem Bd.get {n:Nat}{p:Array Nat}(h:Bd n p)(h0:0<n)(i:Nat):p.getD i 0<n:=by
 rw[gk]
 cases e:p[i]? with
 |none=>exact h0
 |some x=>exact h x (iN.mpr (Array.mem_of_getElem? e))
theorem Bd.perm {n:Nat}{p q:Array Nat}(h:Bd n p)(e:q.Perm p):Bd n q:=λx hx=>h x (e.toList.mem_iff.mp hx)
theorem HM {n:Nat}{p:Array Nat}(h:Bd n p)(h0:0<n):∀f m,lP n (λ_=>True) (kas_asc p f m)
 |0,_=>trivial
 |f+1,m=>⟨h.get h0 _,h.get h0 _,λb=>by cases b;exact HM h h0 f (m+1);trivial⟩
theorem D1 {n:Nat}(h0:0<n):∀(f:Nat) (p:Array Nat) (m q:Nat),Bd n p->lP n (λr:Array Nat×Nat×Nat=>Bd n r.1) (kas_desc f p m q)
 |0,p,m,q,h=>h
 |f+1,p,m,q,h=>by
  refine⟨h.get h0 _,h.get h0 _,λb=>?_⟩
  cases b with
  |true=>
   show lP n _ (if q > 0 then _ else _)
   split
   ·exact D1 h0 f _ _ _ (h.perm (mirror_perm _ _ _ _))
   ·exact D1 h0 f _ _ _ h
  |false=>
   refine⟨h.get h0 _,h.get h0 _,λb=>?_⟩
   cases b with
   |true=>exact h
   |false=>exact D1 h0 f _ _ _ h
theorem LK {n m eS:Nat}{p:Array Nat}(h:Bd n p)(h0:0<n):lP n (λr:Nat×Array Nat=>Bd n r.2) (kas_tail3 m eS p) :=
 lP.bind (HM (h.perm (mirror_perm _ _ _ _)) h0 _ _) λ_ _=>h.perm (mirror_perm _ _ _ _)
theorem Km {n m eS:Nat}{p:Array Nat}(h:Bd n p)(h0:0<n):lP n (λr:Nat×Array Nat=>Bd n r.2) (kas_descPart m eS p):=by
 refine lP.bind (D1 h0 _ _ _ _ h) λr hr=>?_
 split
 ·exact LK (hr.perm (mirror_perm _ _ _ _)) h0
 ·exact LK hr h0
theorem SQ {n eS:Nat}{p:Array Nat}(h:Bd n p)(h0:0<n):lP n (λr:Nat×Array Nat=>Bd n r.2) (kas_count eS p):=by
 refine lP.bind (HM h h0 _ _) λm _=>?_
 split
 ·exact h
 ·split
  ·refine⟨h.get h0 _,h.get h0 _,λb=>?_⟩
   cases b with
   |true=>exact h
   |false=>exact Km (h.perm (mirror_perm _ _ _ _)) h0
  ·exact Km h h0
theorem Hf {n k:Nat}{p:Array Nat}(h:Bd n p)(h0:0<n):∀f l r,lP n (λ_=>True) (kas_place p k f l r)
 |0,_,_=>trivial
 |f+1,l,r=>by
  unfold kas_place
  split
  ·trivial
  ·refine⟨h.get h0 _,h.get h0 _,λb=>?_⟩
   cases b with
   |true=>exact Hf h h0 f _ _
   |false=>exact Hf h h0 f _ _
theorem Mf {n:Nat}(h0:0<n):∀(f:Nat) (p:Array Nat) (k:Nat),Bd n p->lP n (λr=>Bd n r) (kas_bin f p k)
 |0,p,k,h=>h
 |f+1,p,k,h=>lP.bind (Hf h h0 _ _ _) λ_ _=>Mf h0 f _ _ (h.perm (bubble_perm _ _ _))
theorem Ua {n:Nat}(h0:0<n):lP n (λr=>Bd n r) (kas_sort n):=by
 refine lP.bind (SQ (p:=(az n).toArray) (λx hx=>by simpa using hx) h0) λr hr=>?_
 split
 ·exact Mf h0 _ _ _ hr
 ·exact hr
structure iG (lt:Nat->Nat->Bool):Prop where
 tr:∀i j k,lt j i=false->lt k j=false->lt k i=false
 as:∀i j,lt i j=true->lt j i=false
section
variable {lt:Nat->Nat->Bool}{p:Array Nat}
theorem iG.irr (h:iG lt)(i:Nat):lt i i=false:=by
 cases e:lt i i with
 |false=>rfl
 |true=>have:=h.as i i e;rw[e]at this;exact this
def gA (p:Array Nat)(i:Nat):Nat:=p.getD i 0
def mG (lt:Nat->Nat->Bool)(p:Array Nat)(k:Nat):Prop:=∀i j,i<=j->j<k->lt (gA p j) (gA p i)=false
def nW (lt:Nat->Nat->Bool)(p:Array Nat)(k:Nat):Prop:=∀i j,i<=j->j<k->lt (gA p i) (gA p j)=false
theorem CT {q:Array Nat}{i j:Nat}(h:q[i]?=p[j]?):gA q i=gA p j:=by
 unfold gA
 rw[gk,gk,h]
theorem qy {i j:Nat}(hj:j<=p.size)(k:Nat):gA (kas_rev p i j) k=if i<=k/\k<j then gA p (i+j-1-k)else gA p k:=by
 have:=getElem?_mirror_all (xs:=p) (i:=i) hj k
 unfold kas_rev
 split
 ·rename_i h;rw[if_pos h]at this;exact CT this
 ·rename_i h;rw[if_neg h]at this;exact CT this
theorem U7 {src d:Nat}(hs:src<p.size)(hd:d<=src)(k:Nat):gA (bubble p src d) k=if k=src-d then gA p src else if src-d<k/\k<=src then gA p (k-1)else gA p k:=by
 have:=getElem?_bubble hs d hd k
 split
 ·rename_i h;rw[if_pos h]at this;exact CT this
 ·rename_i h
  rw[if_neg h]at this
  split
  ·rename_i h2;rw[if_pos h2]at this;exact CT this
  ·rename_i h2;rw[if_neg h2]at this;exact CT this
theorem mG.snoc (o:iG lt){n:Nat}(h:mG lt p n)(hn:1<=n)(h1:lt (gA p n) (gA p (n-1))=false):mG lt p (n+1):=λi j nX hj=>by
 by_cases e:j=n
 ·subst e
  by_cases e2:i=j
  ·subst e2;exact o.irr _
  ·exact o.tr _ _ _ (h i (j-1) (by omega) (by omega)) h1
 ·exact h i j nX (by omega)
theorem nW.snoc (o:iG lt){n:Nat}(h:nW lt p n)(hn:1<=n)(h1:lt (gA p (n-1)) (gA p n)=false):nW lt p (n+1):=λi j nX hj=>by
 by_cases e:j=n
 ·subst e
  by_cases e2:i=j
  ·subst e2;exact o.irr _
  ·exact o.tr _ _ _ h1 (h i (j-1) (by omega) (by omega))
 ·exact h i j nX (by omega)
theorem HN (o:iG lt):∀(f n:Nat),1<=n->mG lt p n->n<=dU lt (kas_asc p f n)/\dU lt (kas_asc p f n)<=n+f/\mG lt p (dU lt (kas_asc p f n))
 |0,n,_,h=>⟨ar _,ar _,h⟩
 |f+1,n,hn,h=>by
  have st:dU lt (kas_asc p (f+1) n)=if lt (gA p n) (gA p (n-1))=true then n else dU lt (kas_asc p f (n+1)):=by
   show dU lt (if lt (gA p n) (gA p (n-1))=true then .ret n else kas_asc p f (n+1))=_
   split<;>rfl
  rw[st]
  cases e:lt (gA p n) (gA p (n-1))with
  |true=>rw[if_pos rfl];exact⟨ar _,rC _ _,h⟩
  |false=>
   rw[if_neg (by decide)]
   obtain⟨h1,h2,h3⟩:=HN o f (n+1) (by omega) (h.snoc o hn e)
   exact⟨by omega,by omega,h3⟩
structure En (lt:Nat->Nat->Bool)(p:Array Nat)(n q:Nat):Prop where
 d:nW lt p n
 q1:q<n
 e:∀i,n-1-q<=i->i<n->lt (gA p i) (gA p (n-1))=false/\lt (gA p (n-1)) (gA p i)=false
theorem nW.rev_eq (o:iG lt){n a:Nat}(hn:n<=p.size)(h:nW lt p n)(e:∀i,a<=i->i<n->lt (gA p i) (gA p (n-1))=false/\lt (gA p (n-1)) (gA p i)=false):nW lt (kas_rev p a n) n:=λi j nX hj=>by
 have pos:∀k,k<n->∃k',k'<n/\gA (kas_rev p a n) k=gA p k'/\(k<a->k'=k)/\(a<=k->a<=k'):=λk hk=>by
  rw[qy hn]
  by_cases c:a<=k/\k<n
  ·rw[if_pos c];exact⟨a+n-1-k,by omega,rfl,by omega,by omega⟩
  ·rw[if_neg c];exact⟨k,hk,rfl,λ_=>rfl,λz=>absurd ⟨z,hk⟩ c⟩
 obtain⟨i',lQ,ei,ai,bi⟩:=pos i (by omega)
 obtain⟨j',oE,ej,aj,bj⟩:=pos j hj
 rw[ei,ej]
 by_cases ci:a<=i
 ·exact o.tr _ _ _ (e j' (bj (by omega)) oE).2 (e i' (bi ci) lQ).1
 ·by_cases cj:a<=j
  ·have:=bj cj;have:=ai (by omega);exact h i' j' (by omega) oE
  ·rw[ai (by omega),aj (by omega)];exact h i j nX hj
theorem D2 (o:iG lt):∀(f:Nat) (p:Array Nat) (n q:Nat),En lt p n q->n+f<=p.size->∀r,dU lt (kas_desc f p n q)=r->En lt r.1 r.2.1 r.2.2/\n<=r.2.1/\r.2.1<=n+f/\r.1.Perm p
 |0,p,n,q,h,_,r,e=>by cases e;exact⟨h,ar _,ar _,.refl _⟩
 |f+1,p,n,q,h,hz,r,e=>by
  have hq:=h.q1
  change dU lt (if lt (gA p n) (gA p (n-1))=true then _ else _)=r at e
  cases c:lt (gA p n) (gA p (n-1))with
  |true=>
   rw[c,if_pos rfl]at e
   by_cases Jj:q > 0
   ·rw[if_pos Jj]at e
    have hd:nW lt (kas_rev p (n-(q+1)) n) n:=nW.rev_eq o (by omega) h.d λi hi lQ=>h.e i (by omega) lQ
    have en:gA (kas_rev p (n-(q+1)) n) n=gA p n:=by rw[qy (by omega),if_neg (by omega)]
    have el:gA (kas_rev p (n-(q+1)) n) (n-1)=gA p (n-(q+1)):=by rw[qy (by omega),if_pos (by omega)];congr 1;omega
    have c2:lt (gA p (n-(q+1))) (gA p n)=false:=by
     have:=h.e (n-(q+1)) (by omega) (by omega)
     exact o.tr _ _ _ (o.as _ _ c) this.1
    have nz:nW lt (kas_rev p (n-(q+1)) n) (n+1):=hd.snoc o (by omega) (by rw[en,el];exact c2)
    have sz:(kas_rev p (n-(q+1)) n).size=p.size:=mirror_size _ _ _ _
    obtain⟨r1,r2,r3,r4⟩:=D2 o f _ (n+1) 0 ⟨nz,by omega,λi hi lQ=>by rw[show i=n+1-1 by omega];exact⟨o.irr _,o.irr _⟩⟩ (by omega) r e
    exact⟨r1,by omega,by omega,r4.trans (mirror_perm _ _ _ _)⟩
   ·rw[if_neg Jj]at e
    obtain⟨r1,r2,r3,r4⟩:=D2 o f p (n+1) 0 ⟨h.d.snoc o (by omega) (o.as _ _ c),by omega,λi hi lQ=>by rw[show i=n+1-1 by omega];exact⟨o.irr _,o.irr _⟩⟩ (by omega) r e
    exact⟨r1,by omega,by omega,r4⟩
  |false=>
   rw[c,if_neg (by decide)]at e
   change dU lt (if lt (gA p (n-1)) (gA p n)=true then _ else _)=r at e
   cases c2:lt (gA p (n-1)) (gA p n)with
   |true=>
    rw[c2,if_pos rfl]at e
    cases e
    exact⟨h,ar _,rC _ _,.refl _⟩
   |false=>
    rw[c2,if_neg (by decide)]at e
    obtain⟨r1,r2,r3,r4⟩:=D2 o f p (n+1) (q+1) ⟨h.d.snoc o (by omega) c2,by omega,λi hi lQ=>by
     rw[show n+1-1=n by omega]
     by_cases ei:i=n
     ·subst ei;exact⟨o.irr _,o.irr _⟩
     ·obtain⟨u1,u2⟩:=h.e i (by omega) (by omega)
      exact⟨o.tr _ _ _ c2 u1,o.tr _ _ _ u2 c⟩⟩ (by omega) r e
    exact⟨r1,by omega,by omega,r4⟩
theorem nW.rev {n:Nat}(hn:n<=p.size)(h:nW lt p n):mG lt (kas_rev p 0 n) n:=λi j nX hj=>by
 rw[qy hn,qy hn,if_pos ⟨cw _,hj⟩,if_pos ⟨cw _,by omega⟩]
 exact h _ _ (by omega) (by omega)
theorem LL (o:iG lt){n eS:Nat}(h:nW lt p n)(h1:1<=n)(hn:n<=eS)(hz:eS<=p.size)(r:Nat×Array Nat)(e:dU lt (kas_tail3 n eS p)=r):1<=r.1/\r.1<=eS/\mG lt r.2 r.1/\r.2.Perm p:=by
 unfold kas_tail3 at e
 rw[uo]at e
 cases e
 obtain⟨a1,a2,a3⟩:=HN o (p:=kas_rev p 0 n) (eS-n) n h1 (h.rev (by omega))
 exact⟨by show 1<=dU lt (kas_asc _ _ _);omega,by show dU lt (kas_asc _ _ _)<=eS;omega,a3,mirror_perm _ _ _ _⟩
theorem Kn (o:iG lt){n eS:Nat}(h:nW lt p n)(h1:1<=n)(kR:lt (gA p n) (gA p (n-1))=true)(hn:n<eS)(hz:eS<=p.size)(r:Nat×Array Nat)(e:dU lt (kas_descPart n eS p)=r):1<=r.1/\r.1<=eS/\mG lt r.2 r.1/\r.2.Perm p:=by
 unfold kas_descPart at e
 rw[uo]at e
 have hd:En lt p (n+1) 0:=⟨h.snoc o h1 (o.as _ _ kR),by omega,λi hi lQ=>by rw[show i=n+1-1 by omega];exact⟨o.irr _,o.irr _⟩⟩
 obtain⟨d1,d2,d3,d4⟩:=D2 o (eS-(n+1)) p (n+1) 0 hd (by omega) _ rfl
 generalize dU lt (kas_desc (eS-(n+1)) p (n+1) 0)=w at *
 obtain⟨p2,n2,q2⟩:=w
 dsimp only at *
 have sz:p2.size=p.size:=d4.size_eq
 by_cases hq:q2 > 0
 ·rw[if_pos hq]at e
  have hd2:nW lt (kas_rev p2 (n2-(q2+1)) n2) n2:=nW.rev_eq o (by omega) d1.d λi hi lQ=>d1.e i (by omega) lQ
  have XH:(kas_rev p2 (n2-(q2+1)) n2).size=p2.size:=mirror_size _ _ _ _
  obtain⟨t1,t2,t3,t4⟩:=LL o hd2 (by omega) (by omega) (by omega) r e
  exact⟨t1,t2,t3,t4.trans ((mirror_perm _ _ _ _).trans d4)⟩
 ·rw[if_neg hq]at e
  obtain⟨t1,t2,t3,t4⟩:=LL o d1.d (by omega) (by omega) (by omega) r e
  exact⟨t1,t2,t3,t4.trans d4⟩
theorem LM (o:iG lt):∀(f n:Nat),1<=n->mG lt p n->∀m,dU lt (kas_asc p f n)=m->m=n+f\/lt (gA p m) (gA p (m-1))=true
 |0,n,_,_,m,e=>.inl e.symm
 |f+1,n,hn,h,m,e=>by
  have st:dU lt (kas_asc p (f+1) n)=if lt (gA p n) (gA p (n-1))=true then n else dU lt (kas_asc p f (n+1)):=by
   show dU lt (if lt (gA p n) (gA p (n-1))=true then .ret n else kas_asc p f (n+1))=_
   split<;>rfl
  rw[st]at e
  cases c:lt (gA p n) (gA p (n-1))with
  |true=>rw[c,if_pos rfl]at e;subst e;exact .inr c
  |false=>
   rw[c,if_neg (by decide)]at e
   rcases LM o f (n+1) (by omega) (h.snoc o hn c) m e with z|z
   ·exact .inl (by omega)
   ·exact .inr z
theorem SR (o:iG lt){eS:Nat}(h1:1<=eS)(hz:eS<=p.size)(r:Nat×Array Nat)(e:dU lt (kas_count eS p)=r):1<=r.1/\r.1<=eS/\mG lt r.2 r.1/\r.2.Perm p:=by
 unfold kas_count at e
 rw[uo]at e
 have s1:mG lt p 1:=λi j nX hj=>by rw[show i=j by omega];exact o.irr _
 obtain⟨a1,a2,a3⟩:=HN o (p:=p) (eS-1) 1 (ar _) s1
 have a4:=LM o (p:=p) (eS-1) 1 (ar _) s1 _ rfl
 generalize dU lt (kas_asc p (eS-1) 1)=n at *
 by_cases hn:(n==eS)=true
 ·rw[if_pos hn]at e
  cases e
  exact⟨a1,by show n<=eS;omega,a3,.refl _⟩
 ·rw[if_neg hn]at e
  have hn:n≠eS:=λz=>hn (by rw[z];exact beq_self_eq_true _)
  have JB:=a4.resolve_left (by omega)
  by_cases h2:n > 1
  ·rw[if_pos h2]at e
   change dU lt (if lt (gA p 0) (gA p (n-1))=true then _ else _)=r at e
   cases c:lt (gA p 0) (gA p (n-1))with
   |true=>
    rw[c,if_pos rfl]at e
    cases e
    exact⟨a1,by show n<=eS;omega,a3,.refl _⟩
   |false=>
    rw[c,if_neg (by decide)]at e
    have eq:∀i j,i<n->j<n->lt (gA p i) (gA p j)=false:=λi j hi hj=>
     o.tr _ _ _ (o.tr _ _ _ (a3 j (n-1) (by omega) (by omega)) c) (a3 0 i (by omega) hi)
    have sz:(kas_rev p 0 n).size=p.size:=mirror_size _ _ _ _
    have BB:lt (gA (kas_rev p 0 n) n) (gA (kas_rev p 0 n) (n-1))=true:=by
     rw[qy (by omega),if_neg (by omega),qy (by omega),if_pos (by omega),show 0+n-1-(n-1)=0 by omega]
     cases c2:lt (gA p n) (gA p 0)with
     |true=>rfl
     |false=>
      have:=o.tr _ _ _ c c2
      rw[JB]at this
      cases this
    obtain⟨t1,t2,t3,t4⟩:=Kn o (p:=kas_rev p 0 n) (λi j nX hj=>by
     rw[qy (by omega),qy (by omega),if_pos ⟨cw _,by omega⟩,if_pos ⟨cw _,hj⟩]
     exact eq _ _ (by omega) (by omega)) a1 BB (by omega) (by omega) r e
    exact⟨t1,t2,t3,t4.trans (mirror_perm _ _ _ _)⟩
  ·rw[if_neg h2]at e
   have:n=1:=by omega
   subst this
   exact Kn o (λi j nX hj=>by rw[show i=j by omega];exact o.irr _) (ar _) JB (by omega) hz r e
theorem Hg (o:iG lt){k:Nat}(hs:mG lt p k):∀(f l r:Nat),r-l<=f->l<=r->r<=k->(∀i,i<l->lt (gA p k) (gA p i)=false)->(∀i,r<=i->i<k->lt (gA p k) (gA p i)=true) ->
  ∀m,dU lt (kas_place p k f l r)=m->m<=k/\(∀i,i<m->lt (gA p k) (gA p i)=false)/\∀i,m<=i->i<k->lt (gA p k) (gA p i)=true
 |0,l,r,hf,Oc,tM,h1,h2,m,e=>by
  cases e
  exact⟨by show l<=k;omega,h1,λi hi hk=>h2 i (by show r<=i;have:l<=i:=hi;omega) hk⟩
 |f+1,l,r,hf,Oc,tM,h1,h2,m,e=>by
  have st:dU lt (kas_place p k (f+1) l r)=if l >= r then l else if lt (gA p k) (gA p ((l+r)/2))=true then dU lt (kas_place p k f l ((l+r)/2))else dU lt (kas_place p k f ((l+r)/2+1) r):=by
   show dU lt (if l >= r then .ret l else .ask (gA p k) (gA p ((l+r)/2)) λc=>if c=true then kas_place p k f l ((l+r)/2)else kas_place p k f ((l+r)/2+1) r)=_
   by_cases c:l >= r
   ·rw[if_pos c,if_pos c];rfl
   ·rw[if_neg c,if_neg c]
    show dU lt (if lt (gA p k) (gA p ((l+r)/2))=true then _ else _)=_
    split<;>rfl
  rw[st]at e
  by_cases c:l >= r
  ·rw[if_pos c]at e
   subst e
   exact⟨by omega,h1,λi hi hk=>h2 i (by omega) hk⟩
  ·rw[if_neg c]at e
   cases d:lt (gA p k) (gA p ((l+r)/2))with
   |true=>
    rw[d,if_pos rfl]at e
    refine Hg o hs f l ((l+r)/2) (by omega) (by omega) (by omega) h1 (λi hi hk=>?_) m e
    cases d2:lt (gA p k) (gA p i)with
    |true=>rfl
    |false=>
     have:=o.tr _ _ _ (hs ((l+r)/2) i hi hk) d2
     rw[d]at this
     cases this
   |false=>
    rw[d,if_neg (by decide)]at e
    refine Hg o hs f ((l+r)/2+1) r (by omega) (by omega) tM (λi hi=>?_) h2 m e
    exact o.tr _ _ _ (hs i ((l+r)/2) (by omega) (by omega)) d
theorem Mg (o:iG lt):∀(f:Nat) (p:Array Nat) (k:Nat),mG lt p k->k+f<=p.size->∀r,dU lt (kas_bin f p k)=r->mG lt r (k+f)/\r.Perm p
 |0,p,k,h,_,r,e=>by cases e;exact⟨h,.refl _⟩
 |f+1,p,k,h,hz,r,e=>by
  have st:dU lt (kas_bin (f+1) p k)=dU lt (kas_bin f (bubble p k (k-dU lt (kas_place p k k 0 k))) (k+1)):=by
   show dU lt ((kas_place p k k 0 k).bind _)=_
   rw[uo]
  rw[st]at e
  obtain⟨m1,m2,m3⟩:=Hg o h k 0 k (by omega) (cw _) (ar _) (λi hi=>by omega) (λi hi hk=>by omega) _ rfl
  generalize dU lt (kas_place p k k 0 k)=m at *
  have g:=U7 (p:=p) (src:=k) (d:=k-m) (by omega) (by omega)
  rw[show k-(k-m)=m by omega]at g
  have hs:mG lt (bubble p k (k-m)) (k+1):=λi j nX hj=>by
   rw[g,g]
   by_cases ei:i=m
   ·subst ei
    rw[if_pos rfl]
    by_cases ej:j=i
    ·rw[if_pos ej];exact o.irr _
    ·rw[if_neg ej,if_pos (by omega)];exact o.as _ _ (m3 (j-1) (by omega) (by omega))
   ·rw[if_neg ei]
    by_cases ej:j=m
    ·subst ej
     rw[if_pos rfl,if_neg (by omega)]
     exact m2 i (by omega)
    ·rw[if_neg ej]
     by_cases ci:m<i/\i<=k
     ·rw[if_pos ci,if_pos (by omega)];exact h _ _ (by omega) (by omega)
     ·rw[if_neg ci]
      by_cases cj:m<j/\j<=k
      ·rw[if_pos cj];exact h _ _ (by omega) (by omega)
      ·rw[if_neg cj];exact h _ _ (by omega) (by omega)
  have sz:(bubble p k (k-m)).size=p.size:=bubble_size _ _ _
  obtain⟨r1,r2⟩:=Mg o f _ (k+1) hs (by omega) r e
  exact⟨by rw[show k+(f+1)=k+1+f by omega];exact r1,r2.trans (bubble_perm _ _ _)⟩
theorem Ub (o:iG lt){n:Nat}(h1:1<=n):mG lt (dU lt (kas_sort n)) n/\(dU lt (kas_sort n)).Perm (az n).toArray:=by
 have sz:(az n).toArray.size=n:=by simp
 unfold kas_sort
 rw[uo]
 obtain⟨c1,c2,c3,c4⟩:=SR o (p:=(az n).toArray) h1 (by omega) _ rfl
 generalize dU lt (kas_count n (az n).toArray)=w at *
 obtain⟨m,q⟩:=w
 dsimp only at *
 have sq:q.size=n:=by rw[c4.size_eq,sz]
 by_cases hm:m<n
 ·rw[if_pos hm,show max m 1=m by omega]
  obtain⟨b1,b2⟩:=Mg o (n-m) q m c3 (by omega) _ rfl
  rw[show m+(n-m)=n by omega]at b1
  exact⟨b1,b2.trans c4⟩
 ·rw[if_neg hm]
  have:m=n:=by omega
  subst this
  exact⟨c3,c4⟩
end
section
variable {prog:bb}{w:bG}{A:bz}{E:aa->ao->Prop}{s:ao}{lt:Nat->Nat->Bool}{vs:List aa}{κ:SortKind}
structure Ord (prog:bb)(w:bG)(h:aK)(vs:List aa)(κ:SortKind)(lt:Nat->Nat->Bool):Prop where
 kind:∀(s:ao) (A:bz) (E:aa->ao->Prop) (Q:SortKind->ao->Prop),(∀b o,h.get? b=some o->s.heap.get? b=some o)->2<=vs.length->Q κ s->aT (aV prog w) A (keyKind' vs.toArray) Q E s
 cmp:∀(s:ao) (A:bz) (i j:Nat) (C:Bool->ao->Prop),(∀b o,h.get? b=some o->s.heap.get? b=some o)->i<vs.length->j<vs.length->C (lt i j) s->aT (aV prog w) A (keyLt' κ (vs.getD i aa.none) (vs.getD j aa.none)) C (λ_ _=>False) s
theorem Uc {a:af}{n:Nat}{h0:aK}{P:PySem.Fin->ao->Prop}(ho:s.heap.get? a=some (seqObj "list" vs.toArray n))(keep:∀b o,h0.get? b=some o->s.heap.get? b=some o)(NJ:h0.get? a=none)(AJ:vs.length<64)(O:Ord prog w h0 vs κ lt)(o:iG lt)
  (h:∀p:Array Nat,p.Perm (az vs.length).toArray->mG lt p vs.length->P (.done (.ret .none)) { s with heap:=sortedHeap s.heap a vs (ir (p.toList.map λi=>vs.getD i aa.none)) }) :
  aT (aV prog w) A (ck.«list.sort» ⟨[.ref a],[]⟩) P E s:=by
 rw[list_sort_plain]
 have kR:a<s.heap.objs.size:=aI ho
 apply ak
 refine listItems_at ho rfl ?_
 apply ak
 refine listUpdate_at ho rfl ?_
 obtain⟨e1,Jg⟩:∃e1,(s.heap.update a (cP.mapSeq λ_=>#[])).get? a=some (seqObj "list" #[] e1):=⟨_,get?_update_seq ho (λ_=>#[])⟩
 apply ak
 refine seqEpoch_at Jg rfl ?_
 apply ak
 refine wpAny_newTuple ?_ (by rw[cr];simp;omega)
 apply ak
 refine wpAny_newList ?_
 apply dY
 have Jh:(((s.heap.update a (cP.mapSeq λ_=>#[])).push (seqObj "tuple" vs.toArray 0)).push (seqObj "list" #[] 0)).get? a=some (seqObj "list" #[] e1):=by
  rw[et _ _ _ (by rw[size_push',fN];exact aZ (cV kR)),et _ _ _ (by rw[fN];exact aZ kR)]
  exact Jg
 have tQ:∀b o,h0.get? b=some o->(((s.heap.update a (cP.mapSeq λ_=>#[])).push (seqObj "tuple" vs.toArray 0)).push (seqObj "list" #[] 0)).get? b=some o:=λb o e=>by
  have ne:b≠a:=λz=>by rw[z,NJ]at e;cases e
  have hb:=aI (keep b o e)
  rw[et _ _ _ (by rw[size_push',fN];exact aZ (cV hb)),et _ _ _ (by rw[fN];exact aZ hb),oQ _ _ _ _ ne]
  exact keep b o e
 show aT (aV prog w) A _ P E { s with heap:=((s.heap.update a (cP.mapSeq λ_=>#[])).push (seqObj "tuple" vs.toArray 0)).push (seqObj "list" #[] 0) }
 dsimp only
 have hsz:vs.toArray.size=vs.length:=by simp
 have fin:∀(p:Array Nat) (st:SortSt),p.Perm (az vs.length).toArray->mG lt p vs.length->(arrOf st).map (·.2)=ir (p.toList.map λi=>vs.getD i aa.none)->failedOf st=none->(arrOf st).size<=sizeLine ->
   aT (aV prog w) A (do
    let touched:=(← seqEpoch a) != e1
    ck.List.listUpdate (.ref a) λ_=>(arrOf st).map (·.2)
    if let some e:=failedOf st then rule "list.sort.comparison-raised";throw e
    if touched then rule "list.sort.modified";raiseError "ValueError" "list modified during sort"
    ret .none) P E { s with heap:=((s.heap.update a (cP.mapSeq λ_=>#[])).push (seqObj "tuple" vs.toArray 0)).push (seqObj "list" #[] 0) }:=λp st h1 h2 h3 h4 h5=>by
  apply ak
  refine seqEpoch_at Jh rfl ?_
  apply ak
  refine listUpdate_at Jh rfl ?_ (hsz2:=by rw[rz];exact Nat.le_succ_of_le h5)
  rw[h4]
  simp only[bne_self_eq_false,cv,if_false]
  have:=h p h1 h2
  unfold sortedHeap at this
  rw[h3]
  exact aq this
 have idx:(az vs.length).map (λi=>vs.getD i aa.none)=vs:=by
  apply fz
  intro i
  rw[aM]
  by_cases hi:i<vs.length
  ·rw[dz hi,bt hi,eP,cQ,bt hi];rfl
  ·rw[dc (by simpa using hi),dc (by omega)];rfl
 by_cases h2:vs.toArray.size<2
 ·rw[if_pos h2,if_pos h2]
  apply ak
  apply aq
  rw[StateT.run_pure]
  apply ak
  apply aq
  refine fin (az vs.length).toArray (SortSt.mk' general' (vs.toArray.zip vs.toArray) #[] 7 none) (.refl _) (λi j nX hj=>?_) ?_ rfl ?_
  ·rw[show i=j by omega];exact o.irr _
  ·show((vs.toArray.zip vs.toArray).map (·.2))=_
   rw[show(az vs.length).toArray.toList.map (λi=>vs.getD i aa.none)=vs from idx]
   simp
   exact List.map_snd_zip (ar _)
  ·show(vs.toArray.zip vs.toArray).size<=_
   rw[cr];simp;omega
 ·rw[if_neg h2,if_neg h2]
  apply ak
  refine O.kind _ _ _ _ tQ (by omega) ?_
  apply ak
  obtain⟨k1,k2⟩:=Ub o (n:=vs.length) (by omega)
  refine dZ (kat_run (G:=λp s'=>p=dU lt (kas_sort vs.length)/\s' = { s with heap:=((s.heap.update a (cP.mapSeq λ_=>#[])).push (seqObj "tuple" vs.toArray 0)).push (seqObj "list" #[] 0) })
   (Q:=λlA s'=>s' = { s with heap:=((s.heap.update a (cP.mapSeq λ_=>#[])).push (seqObj "tuple" vs.toArray 0)).push (seqObj "list" #[] 0) }/\(arrOf lA).map (·.2)=ir ((dU lt (kas_sort vs.length)).toList.map λi=>vs.getD i aa.none)/\failedOf lA=none/\(arrOf lA).size<=sizeLine)
   rfl (by omega) AJ (λp lA s' q1 q2 q3 q4=>?_) (Lb (λi j C hi hj hC=>O.cmp _ _ i j C tQ hi hj hC) _ (Ua (by omega)) ⟨rfl,rfl⟩)) (λr s' hr=>?_) λ_ _ e=>e
  ·obtain⟨rfl,rfl⟩:=q4
   exact⟨rfl,kat_snds rfl q2,q3,by rw[q2,rz,q1,cr];omega⟩
  ·obtain⟨⟨⟩,lA⟩:=r
   obtain⟨rfl,q1,q2,q3⟩:=hr
   exact fin _ lA k2 k1 q1 q2 q3
theorem R1 {l:af}{Q:aa->ao->Prop}(hl:s.heap.IsList l vs.toArray)(AJ:vs.length<64)(O:Ord prog w s.heap vs κ lt)(o:iG lt)
  (h:∀p:Array Nat,p.Perm (az vs.length).toArray->mG lt p vs.length->Q (.ref (s.heap.objs.size+1)) { s with heap:=sortedAll s.heap vs (ir (p.toList.map λi=>vs.getD i aa.none)) }) :
  aT (aV prog w) A (call (.builtin "sorted") [.ref l]) Q E s:=by
 refine Calls.call_function_entry kind_sorted plain_sorted entry_sorted (args_sorted1 _) ?_
 unfold ck.«sorted»
 refine ak (m:=checkCount "sorted" 1 1 _) ?_
 apply aq
 apply ak
 refine collect_list hl ?_ (by rw[cr];omega)
 apply ak
 refine wpAny_newList ?_ (by rw[cr];omega)
 have hsz:((s.heap.push (seqObj "list" #[] 0)).update s.heap.objs.size (cP.mapSeq (·++vs.toArray))).objs.size=s.heap.objs.size+1:=by
  rw[fN,size_push']
 have Dj:(((s.heap.push (seqObj "list" #[] 0)).update s.heap.objs.size (cP.mapSeq (·++vs.toArray))).push (seqObj "list" vs.toArray 0)).get? (s.heap.objs.size+1)=some (seqObj "list" vs.toArray 0):=by
  rw[←hsz];exact bo _ rfl
 have keep:∀b o,s.heap.get? b=some o->(((s.heap.push (seqObj "list" #[] 0)).update s.heap.objs.size (cP.mapSeq (·++vs.toArray))).push (seqObj "list" vs.toArray 0)).get? b=some o:=λb o q=>by
  have hb:b<s.heap.objs.size:=aI q
  rw[et _ _ _ (by rw[hsz];exact aZ (cV hb)),oQ _ _ _ _ (aZ hb),et _ _ _ (aZ hb)]
  exact q
 show aT _ _ _ _ _ { s with heap:=((s.heap.push (seqObj "list" #[] 0)).update s.heap.objs.size (cP.mapSeq (·++vs.toArray))).push (seqObj "list" vs.toArray 0) }
 rw[hsz]
 apply ak
 apply dY
 refine wpAny_call_entry slot_list_sort ⟨_,Dj,rfl⟩ entry_list_sort (Uc (h0:=s.heap) Dj keep (n6 (gM _)) AJ O o λp a1 a2=>⟨_,rfl,?_⟩) (args_list_sort _)
 exact aq ⟨_,rfl,h p a1 a2⟩
end
end L2
set_option maxHeartbeats 4000000
namespace L2
open PySem PySem.Spec PyProof.Rows
def fJ:List Int->List Int->Bool
 |[],[]=>false
 |[],_::_=>true
 |_::_,[]=>false
 |x::xs,y::ys=>if x=y then fJ xs ys else decide (x<y)
theorem Hs:∀x y z:List Int,fJ y x=false->fJ z y=false->fJ z x=false
 |[],_,[],_,_=>rfl
 |[],[],_::_,_,h=>rfl
 |[],_::_,_::_,_,_=>rfl
 |_::_,[],_,h,_=>by cases h
 |_::_,_::_,[],_,h=>by cases h
 |x::xs,y::ys,z::zs,h1,h2=>by
  unfold fJ at h1 h2 ⊢
  by_cases e1:y=x
  ·subst e1
   rw[if_pos rfl]at h1
   by_cases e2:z=y
   ·subst e2
    rw[if_pos rfl]at h2 ⊢
    exact Hs xs ys zs h1 h2
   ·rw[if_neg e2]at h2 ⊢;exact h2
  ·rw[if_neg e1]at h1
   have h1:¬y<x:=of_decide_eq_false h1
   by_cases e2:z=y
   ·subst e2
    rw[if_neg e1];exact decide_eq_false h1
   ·rw[if_neg e2]at h2
    have h2:¬z<y:=of_decide_eq_false h2
    rw[if_neg (by omega)]
    exact decide_eq_false (by omega)
theorem D3:∀x y:List Int,fJ x y=true->fJ y x=false
 |[],[],h=>by cases h
 |[],_::_,_=>rfl
 |_::_,[],h=>by cases h
 |x::xs,y::ys,h=>by
  unfold fJ at h ⊢
  by_cases e:x=y
  ·subst e
   rw[if_pos rfl]at h ⊢
   exact D3 xs ys h
  ·rw[if_neg e]at h
   have h:x<y:=of_decide_eq_true h
   rw[if_neg (by omega)]
   exact decide_eq_false (by omega)
theorem LN:∀x y:List Int,fJ x y=false->fJ y x=false->x=y
 |[],[],_,_=>rfl
 |[],_::_,h,_=>by cases h
 |_::_,[],_,h=>by cases h
 |x::xs,y::ys,h1,h2=>by
  unfold fJ at h1 h2
  by_cases e:x=y
  ·subst e
   rw[if_pos rfl]at h1 h2
   rw[LN xs ys h1 h2]
  ·rw[if_neg e]at h1
   rw[if_neg (Ne.symm e)]at h2
   have h1:=of_decide_eq_false h1
   have h2:=of_decide_eq_false h2
   omega
def oI (fin:Bool):List Int->List Int->Bool
 |x::xs,y::ys=>if x=y then oI fin xs ys else decide (x<y)
 |_,_=>fin
theorem Mh:∀xs ys:List Int,oI (decide (xs.length<ys.length)) xs ys=fJ xs ys
 |[],[]=>rfl
 |[],y::ys=>by simp[oI,fJ]
 |x::xs,[]=>by simp[oI,fJ]
 |x::xs,y::ys=>by
  unfold oI fJ
  rw[←Mh xs ys]
  simp
section
variable {prog:bb}{w:bG}{A:bz}{E:aa->ao->Prop}{s:ao}{b fin:Bool}{Q:Bool->ao->Prop}
theorem Lc:∀(xs ys:List Int) (cq Jr:List aa) (i:Nat),bR (xs.map V.int) cq->bR (ys.map V.int) Jr->Q (oI fin xs ys) s->PySem.W.KatLex prog w A b fin Q (cq.zip Jr) i s
 |[],_,_,_,_,.nil,_,h=>h
 |_::_,[],_::_,_,_,.cons _ _,.nil,h=>h
 |x::xs,y::ys,_,_,i,.cons r t,.cons r' t',h=>by
  obtain⟨tk,rfl⟩:=r
  obtain⟨XQ,rfl⟩:=r'
  refine PySem.W.kat_cons (wpAny_eqBool_int ?_)
  unfold oI at h
  by_cases e:x=y
  ·subst e
   rw[if_pos rfl]at h
   rw[beq_self_eq_true]
   exact PySem.W.kat_yes (Lc xs ys _ _ (i+1) t t' h)
  ·rw[if_neg e]at h
   have:(x==y)=false:=by simpa using e
   rw[this]
   refine PySem.W.kat_no ?_
   cases hb:(b&&i==0)with
   |true=>exact oneLt_int h
   |false=>exact PySem.W.kat_one _ _ (wpAny_lt_int h)
end
def rj (K:ae):List V->Hp->VK->Prop:=λxs H Q=>∃(a:af) (qs:List (af×List Int)),xs=[.ref a]/\fw K H a (qs.map λq=>V.ref q.1)/\(∀q∈qs,H q.1=some (.tup (q.2.map V.int))/\q.2≠[])/\qs.length<64 /\
 ∀nF:List (af×List Int),nF.Perm qs->nF.Pairwise (λx y=>fJ y.2 x.2=false)->∀p,H p=none->Q (.ref p) (upd H p (.lst (nF.map λq=>V.ref q.1)))
theorem KS:∀{qs:List (af×List Int)} {cq:List aa},bR (qs.map λq=>V.ref q.1) cq->cq=qs.map λq=>aa.ref q.1
 |[],_,.nil=>rfl
 |q::qs,_,.cons r t=>by cases r;rw[KS t];rfl
theorem KU:∀qs:List (af×List Int),bR (qs.map λq=>V.ref q.1) (qs.map λq=>aa.ref q.1)
 |[]=>.nil
 |q::qs=>.cons rfl (KU qs)
theorem QW {X:Cx}:ez X (.builtin "sorted") (rj X.K):=by
 intro ah s σ H xs us Q I r h
 obtain⟨a,qs,rfl,hq,hk,AJ,q⟩:=h
 obtain⟨u,rfl,ru⟩:=r.one
 cases(show u=aa.ref a from ru)
 obtain⟨cq,rv,pl,hz⟩:=I.list hq
 have hits:=KS rv
 subst hits
 have tup:∀q∈qs,∃(o:cP) (ts:List aa) (n:Nat),s.heap.get? q.1=some o/\o.cls=.type "tuple"/\o.data=.seq ts.toArray n/\bR (q.2.map V.int) ts:=λq hq=>by
  obtain⟨_,ts,v,o,h1,h2,n,h3⟩:=(show dA X.prog X.w H s.heap q.1 (.tup (q.2.map V.int))from I.hok _ _ (hk q hq).1)
  exact⟨o,ts,n,h1,h2,h3,v⟩
 have len:(qs.map λq=>aa.ref q.1).length=qs.length:=aD ..
 have gd:∀i (hi:i<qs.length),(qs.map λq=>aa.ref q.1).getD i aa.none=.ref qs[i].1/\qs.getD i (0,[])=qs[i]:=λi hi=>by
  rw[cQ,cQ,aM,bt hi];exact⟨rfl,rfl⟩
 have O:Ord X.prog X.w s.heap (qs.map λq=>aa.ref q.1) (tuples' (aa.type "int" != aa.type "tuple")) (λi j=>fJ (qs.getD i (0,[])).2 (qs.getD j (0,[])).2):={
  kind:=λs' A E Q keep h2 hQ=>by
   have key:∀l:List (af×List Int),(∀q∈l,q∈qs)->∃fs:List aa,fs.length=l.length/\pF s'.heap (l.map λq=>aa.ref q.1) fs/\∀v∈fs,∃i t,v=.int i t:=by
    intro l
    induction l with
    |nil=>exactλ_=>⟨[],rfl,trivial,nofun⟩
    |cons p l ih=>
     intro hl
     obtain⟨fs,f1,f2,f3⟩:=ih λq hq=>hl q (ap _ hq)
     have hp:=hl p am
     obtain⟨o,ts,n,t1,t2,t3,t4⟩:=tup p hp
     have ne:=(hk p hp).2
     cases hx:p.2 with
     |nil=>exact absurd hx ne
     |cons y ys=>
      rw[hx]at t4
      cases t4 with
      |@cons _ u _ us r t=>
       refine⟨u::fs,by simp[f1],pF.cons (keep _ _ t1) t2 t3 rfl f2,λv hv=>?_⟩
       rcases aA.mp hv with rfl|hv
       ·obtain⟨tk,e⟩:=r;exact⟨y,tk,e⟩
       ·exact f3 v hv
   obtain⟨fs,f1,f2,f3⟩:=key qs λ_ h=>h
   refine PySem.W.kat_kind (T:=.type "int") f2 (by rw[f1];rw[len]at h2;omega) (λv hv=>?_) (by decide) hQ
   obtain⟨i,t,rfl⟩:=f3 v hv
   exact .now
  cmp:=λs' A i j C keep hi hj hC=>by
   rw[len]at hi hj
   obtain⟨g1,g2⟩:=gd i hi
   obtain⟨g3,g4⟩:=gd j hj
   rw[g2,g4]at hC
   rw[g1,g3]
   obtain⟨o1,t1,n1,a1,_,a3,a4⟩:=tup qs[i] (dC hi)
   obtain⟨o2,t2,n2,b1,_,b3,b4⟩:=tup qs[j] (dC hj)
   refine PySem.W.kat_lt (keep _ _ a1) a3 (keep _ _ b1) b3 ?_
   refine Lc qs[i].2 qs[j].2 t1 t2 0 a4 b4 ?_
   have e1:t1.toArray.size=qs[i].2.length:=by have:=a4.length;simp at this ⊢;omega
   have e2:t2.toArray.size=qs[j].2.length:=by have:=b4.length;simp at this ⊢;omega
   rw[e1,e2,Mh]
   exact hC }
 have o:iG (λi j=>fJ (qs.getD i (0,[])).2 (qs.getD j (0,[])).2):=⟨λi j k h1 h2=>Hs _ _ _ h1 h2,λi j h=>D3 _ _ h⟩
 refine R1 pl.isList (by rw[len];exact AJ) O o λp p1 p2=>?_
 rw[len]at p1 p2
 have Xq:p.size=qs.length:=by rw[p1.size_eq];simp
 have pb:∀i (hi:i<p.size),p[i]<qs.length:=λi hi=>by
  have:p[i]∈(az qs.length).toArray.toList:=p1.toList.mem_iff.mp (iN.mpr (Array.getElem_mem hi))
  simpa using this
 obtain⟨nF,vZ⟩:∃nF,nF=p.toList.map λi=>qs.getD i (0,[]):=⟨_,rfl⟩
 have out:p.toList.map (λi=>(qs.map λq=>aa.ref q.1).getD i aa.none)=nF.map λq=>aa.ref q.1:=by
  rw[vZ,df]
  refine cU λi hi=>?_
  obtain⟨j,hj,rfl⟩:=bB.mp hi
  have:=pb j (by simpa using hj)
  obtain⟨g1,g2⟩:=gd p[j] this
  simp only[Array.getElem_toList]
  rw[g1]
  show _=aa.ref (qs.getD p[j] (0,[])).1
  rw[g2]
 have perm:nF.Perm qs:=by
  have e:(az qs.length).map (λi=>qs.getD i (0,[]))=qs:=by
   apply fz
   intro i
   rw[aM]
   by_cases hi:i<qs.length
   ·rw[dz hi,bt hi,eP,(gd i hi).2]
   ·rw[dc (by simpa using hi),dc (by omega)];rfl
  rw[vZ]
  conv=>rhs;rw[←e]
  exact(p1.toList).map _
 have Qb:nF.Pairwise (λx y=>fJ y.2 x.2=false):=by
  rw[vZ,pV]
  refine List.pairwise_iff_getElem.mpr λi j hi hj nX=>?_
  have:=p2 i j (by omega) (by simp at hj;omega)
  unfold gA at this
  have lQ:i<p.size:=by simpa using hi
  have oE:j<p.size:=by simpa using hj
  rw[show p.getD i 0=p[i]by simp[Array.getD,lQ],show p.getD j 0=p[j]by simp[Array.getD,oE]]at this
  simpa using this
 rw[out]
 obtain⟨e,he⟩:=sortedAll_at s.heap (qs.map λq=>aa.ref q.1) (ir (nF.map λq=>aa.ref q.1))
 refine⟨.ref _,_,I.laid (a:=s.heap.objs.size+1) (o:=.lst (nF.map λq=>V.ref q.1)) (t':=s.toks) (λb u=>sortedAll_old) (gM _) ?_,rfl,q nF perm Qb _ (I.hok.fresh (gM _))⟩
 exact⟨by rw[aD,perm.length_eq,←aD (f:=λq=>V.ref q.1)];exact hz,nF.map λq=>aa.ref q.1,e,KU nF,by simpa[seqObj]using he⟩
end L2
set_option maxHeartbeats 4000000
namespace L2
open PySem PySem.Spec PyProof.Rows
section
variable {P:bb}{w:bG}{A:bz}{E:aa->ao->Prop}{s:ao}{K:Type}[DecidableEq K]{knd:HeapKind P w K}
def pI (v:aa)(i:Int):Prop:=∃t,v=.int i t
theorem SS {a b:af}{xs ys:List (K×af×aa)}{id:String}{r:Bool}{Q:Bool->ao->Prop}(hu:knd.room A)(na:(a==cH)=false)(nb:(b==cH)=false)(ha:s.heap.DictOfH knd a xs)(hb:s.heap.DictOfH knd b ys)
  (vi:∀x∈xs,∃i,pI x.2.2 i) (vj:∀y∈ys,∃i,pI y.2.2 i)
  (hr:r=true↔xs.length=ys.length/\∀x∈xs,∃y∈ys,y.1=x.1/\∃i,pI x.2.2 i/\pI y.2.2 i) (q:Q r s):aT (aV P w) A (ck.Dict.samePairs id a b) Q E s:=by
 obtain⟨oa,es,ep,ga,_,da,he,N5,W5⟩:=ha
 obtain⟨ob,fs,fp,gb,_,db,hf,N6,JE⟩:=hb
 have sa:es.size=xs.length:=size_of_entries he
 have sb:fs.size=ys.length:=size_of_entries hf
 unfold ck.Dict.samePairs ck.Dict.showsAll
 rw[if_neg (by rw[na];decide),if_neg (by rw[nb];decide)]
 apply ak
 apply aq
 apply ak
 apply aq
 apply ak
 refine wpAny_dictEntries ga da ?_
 apply ak
 refine wpAny_dictEntries gb db ?_
 by_cases hs:(es.size != fs.size)=true
 ·rw[if_pos hs]
  apply ak
  apply wpAny_rule
  apply aq
  have:r=false:=by
   cases r with
   |false=>rfl
   |true=>
    have:=(hr.mp rfl).1
    rw[sa,sb,this]at hs
    simp at hs
  rw[←this];exact q
 ·rw[if_neg hs]
  have er:xs.length=ys.length:=by rw[←sa,←sb];simpa using hs
  apply ak
  refine wpAny_dictEpoch ga da ?_
  apply ak
  rw[Std.Legacy.Range.forIn_eq_forIn_range']
  refine wpAny_forIn_list _ (λrest st s'=>s'=s/\st=(none,())/\∃k,rest=kK k (es.size-k)/\k<=es.size/\∀i,i<k->∀x,xs[i]?=some x->∃y∈ys,y.1=x.1/\∃i,pI x.2.2 i/\pI y.2.2 i) _ ?_ ?_ _ _ ⟨rfl,rfl,0,?_,cw _,λi hi=>absurd hi (Nat.not_lt_zero _)⟩
  ·rintro k rest st s' ⟨rfl,rfl,k',ek,hk,good⟩
   have FR:k'<es.size:=by
    by_cases c:k'<es.size
    ·exact c
    ·rw[show es.size-k'=0 by omega]at ek;cases ek
   rw[show es.size-k'=(es.size-(k'+1))+1 by omega,kB]at ek
   obtain⟨rfl,rfl⟩:=List.cons.inj ek
   have hx:k<xs.length:=by omega
   have NV:es[k]?=some (entryOfKey knd xs[k]):=by rw[entry_at he k,bt hx];rfl
   have mx:=dC hx
   apply ak
   refine wpAny_dictEntries ga da ?_
   rw[NV]
   dsimp only
   apply ak
   apply dY
   apply ak
   refine wpAny_dictFind_heap hu (N5 _ mx) gb db hf N6 JE (λno=>?_) λj p hj=>?_
   ·dsimp only
    apply aq
    rw[if_pos (by rfl)]
    apply aq
    have:r=false:=by
     cases r with
     |false=>rfl
     |true=>
      obtain⟨y,hy,e,_⟩:=(hr.mp rfl).2 _ mx
      obtain⟨j,hj⟩:=bI.mp hy
      exact absurd (hj.trans (by rw[←e])) (no j y.2)
    rw[this]at q
    exact aq q
   ·dsimp only
    apply ak
    refine wpAny_dictEntries gb db ?_
    have NU:fs[j]?=some (entryOfKey knd (xs[k].1,p)):=by rw[entry_at hf j,hj];rfl
    rw[NU]
    dsimp only
    apply dY
    obtain⟨i1,t1,e1⟩:=vi _ mx
    obtain⟨i2,t2,e2⟩:=vj _ (iT hj)
    show aT _ _ (eqBool xs[k].2.2 p.2) _ _ _
    have e2:p.2=.int i2 t2:=e2
    rw[e1,e2]
    refine wpAny_eqBool_int ?_
    by_cases c:i1=i2
    ·rw[if_neg (by simp[c])]
     apply ak
     refine wpAny_dictEpoch ga da ?_
     rw[if_neg (by simp)]
     apply aq
     refine⟨rfl,rfl,k+1,rfl,by omega,λi hi x tP=>?_⟩
     by_cases ci:i<k
     ·exact good i ci x tP
     ·have:i=k:=by omega
      subst this
      rw[bt hx]at tP
      cases tP
      exact⟨_,iT hj,rfl,i1,⟨t1,e1⟩,⟨t2,by rw[c];exact e2⟩⟩
    ·rw[if_pos (by simp[c])]
     apply aq
     have:r=false:=by
      cases r with
      |false=>rfl
      |true=>
       obtain⟨y,hy,e,i,⟨u1,v1⟩,⟨u2,v2⟩⟩:=(hr.mp rfl).2 _ mx
       obtain⟨j',oE⟩:=bI.mp hy
       have l1:j<ys.length:=(aC.mp hj).1
       have l2:j'<ys.length:=(aC.mp oE).1
       have f1:(ys.map (·.1))[j]?=some xs[k].1:=by rw[aM,hj];rfl
       have f2:(ys.map (·.1))[j']?=some xs[k].1:=by rw[aM,oE];exact congrArg some e
       have g1:=(aC.mp f1).2
       have g2:=(aC.mp f2).2
       have:j=j':=(eK (h₀:=by simpa using l1) (h₁:=by simpa using l2) JE).mp (g1.trans g2.symm)
       subst this
       rw[hj]at oE
       cases oE
       rw[e1]at v1
       rw[e2]at v2
       cases v1
       cases v2
       exact absurd rfl c
     rw[this]at q
     exact aq q
  ·rintro st s' ⟨rfl,rfl,k,ek,hk,good⟩
   have:k=es.size:=by
    have:=congrArg eZ ek
    rw[List.length_range']at this
    simp at this
    omega
   have:r=true:=hr.mpr ⟨er,λx hx=>by
    obtain⟨i,hi⟩:=bI.mp hx
    exact good i (by have:=(aC.mp hi).1;omega) x hi⟩
   rw[this]at q
   exact aq q
  ·simp
theorem Ud {a b:af}{xs ys:List (K×af×aa)}{r:Bool}{Q:aa->ao->Prop}(hu:knd.room A.in1)(hc:A.units<gQ)(na:(a==cH)=false)(nb:(b==cH)=false)(ta:s.TypeIs (.ref a) "dict")(tb:s.TypeIs (.ref b) "dict")(ha:s.heap.DictOfH knd a xs)(hb:s.heap.DictOfH knd b ys)
  (vi:∀x∈xs,∃i,pI x.2.2 i) (vj:∀y∈ys,∃i,pI y.2.2 i)
  (hr:r=true↔xs.length=ys.length/\∀x∈xs,∃y∈ys,y.1=x.1/\∃i,pI x.2.2 i/\pI y.2.2 i) (q:Q (.bool r) s):aT (aV P w) A (cx .Eq (.ref a) (.ref b)) Q E s:=by
 have h0:aT (aV P w) A.in1 (ck.«dict.__eq__» ⟨[.ref a,.ref b],[]⟩) (λfin s'=>∃v,fin=.done (.ret v)/\(v≠.notImplemented/\Q v s')) E s:=by
  unfold ck.«dict.__eq__»
  apply ak
  unfold ck.Dict.dictSlotArgs
  apply ak
  refine wpAny_notOrdered_dict ta ?_
  refine ak (aq (a:=(aa.ref a,[aa.ref b])) ?_)
  refine aq (a:=(aa.ref a,aa.ref b)) ?_
  dsimp only
  apply ak
  refine wpAny_isInstance tb (b:=true) (by rw[isSubtype_type];rfl) ?_
  rw[if_neg (by decide)]
  apply ak
  refine aq (a:=a) ?_
  apply ak
  refine aq (a:=b) ?_
  apply ak
  refine SS hu na nb ha hb vi vj hr ?_
  refine aq ⟨_,rfl,(λx=>nomatch x),?_⟩
  rw[show(r==true)=r by cases r<;>rfl]
  exact q
 have h1:aT (aV P w) A (call (.builtin "dict.__eq__") [.ref a,.ref b]) (λv s'=>v≠.notImplemented/\Q v s') E s:=wpAny_call_entry F.slot_dict_eq ta F.entry_dict_eq h0 (F.args_dict_eq_2 _ _)
 have h2:aT (aV P w) A (richCompare .Eq (.ref a) (.ref b)) Q E s:=wpAny_richCompare_same_room ta tb F.slot_dict_eq h1 hc
 exact h2
end
section
variable {X:Cx}
def tX:R2:=λx y H Q=>∃a b bT kws,∃r:Bool,x=.ref a/\y=.ref b/\Rd H a (.dT bT)/\Rd H b (.dT kws)/\(∀p∈bT,∃i,p.2=.int i)/\(∀p∈kws,∃i,p.2=.int i)/\(r=true↔bT.length=kws.length/\∀p∈bT,p∈kws)/\Q (.bl r) H
theorem KT.to {H:Hp}:∀{bT:List (List dw×V)} {xs:List (List dw×af×aa)},KT H bT xs->bT.length=xs.length/\(∀p∈bT,∃x∈xs,p.1=x.1/\RelV p.2 x.2.2)/\∀x∈xs,∃p∈bT,p.1=x.1/\RelV p.2 x.2.2:=by
 intro bT xs h
 induction h with
 |nil=>exact⟨rfl,λ_ h=>(by cases h),λ_ h=>(by cases h)⟩
 |@cons p q ps qs hq t ih=>
  refine⟨by simp[ih.1],λx hx=>?_,λx hx=>?_⟩
  ·rcases aA.mp hx with rfl|hx
   ·exact⟨q,am,hq.1,hq.2.2⟩
   ·obtain⟨y,hy,z⟩:=ih.2.1 x hx;exact⟨y,ap _ hy,z⟩
  ·rcases aA.mp hx with rfl|hx
   ·exact⟨p,am,hq.1,hq.2.2⟩
   ·obtain⟨y,hy,z⟩:=ih.2.2 x hx;exact⟨y,ap _ hy,z⟩
theorem Ue (hu:X.A.units+64<gQ):fU X (cx .Eq) tX:=by
 intro ah s σ H x y v u Q I rx ry h
 obtain⟨a,b,bT,kws,r,rfl,rfl,ra,rb,vi,vj,hr,q⟩:=h
 obtain⟨_,na,xs,r1,da⟩:=yD I.hok ra
 obtain⟨_,nb,ys,r2,db⟩:=yD I.hok rb
 cases(show v=aa.ref a from rx)
 cases(show u=aa.ref b from ry)
 obtain⟨l1,m1,n1⟩:=r1.to
 obtain⟨l2,m2,n2⟩:=r2.to
 have int:∀{p:List dw×V} {i:Int} {z:aa},p.2=.int i->RelV p.2 z->pI z i:=λ{p i z} e h=>by
  rw[e]at h
  exact h
 refine Ud (knd:=iQ (dW X.prog X.w)) (r:=r) (gR (by omega)) (by omega) na nb ?_ ?_ da db (λx hx=>?_) (λx hx=>?_) ?_ ?_
 ·obtain⟨o,_,_,g,c,_⟩:=da;exact⟨o,g,c.1⟩
 ·obtain⟨o,_,_,g,c,_⟩:=db;exact⟨o,g,c.1⟩
 ·obtain⟨p,hp,_,h⟩:=n1 x hx
  obtain⟨i,e⟩:=vi p hp
  exact⟨i,int e h⟩
 ·obtain⟨p,hp,_,h⟩:=n2 x hx
  obtain⟨i,e⟩:=vj p hp
  exact⟨i,int e h⟩
 ·rw[hr,l1,l2]
  have uq:∀{z:aa} {i j:Int},pI z i->pI z j->i=j:=by
   rintro z i j ⟨t,e⟩ ⟨t',e'⟩
   rw[e]at e'
   cases e';rfl
  refine and_congr_right λ_=>⟨λh x hx=>?_,λh p hp=>?_⟩
  ·obtain⟨p,hp,e1,h1⟩:=n1 x hx
   obtain⟨y,hy,e2,h2⟩:=m2 p (h p hp)
   obtain⟨i,e⟩:=vi p hp
   exact⟨y,hy,e2.symm.trans e1,i,int e h1,int e h2⟩
  ·obtain⟨x,hx,e1,h1⟩:=m1 p hp
   obtain⟨y,hy,e2,i,g1,g2⟩:=h x hx
   obtain⟨p',Dk,e3,h3⟩:=n2 y hy
   obtain⟨i1,f1⟩:=vi p hp
   obtain⟨i2,f2⟩:=vj p' Dk
   have:p=p':=Prod.ext (e1.trans (e2.symm.trans e3.symm)) (by rw[f1,f2,uq (int f1 h1) g1,uq (int f2 h3) g2])
   rw[this];exact Dk
 ·exact⟨.bl _,H,I,rfl,q⟩
end
end L2
namespace L2
open PySem
theorem bO.rd {H H':Hp}{a:af}{u:HO}(e:bO H H')(h:Rd H a u):Rd H' a u:=h.elim (λh=>.inl (e _ _ h)) λh=>.inr (h.elim λo h=>⟨o,e _ _ h⟩)
end L2
namespace L3
open PySem PySem.Spec L2
open PyProof.Rows hiding St
inductive D where
 |non|bl (b:Bool)|int (i:Int)|str (x:aR)
 |lst (xs:List D)|tup (xs:List D)|dK (ks:List dw) (ds:List D)|dT (ks:List (List dw)) (ds:List D)
 |obj (c:Nat) (ns:List aR) (ds:List D)
 |exc (c:Nat) (ns:List aR) (ds:List D)
 deriving Inhabited
inductive Pr (R:D->V->Prop):List D->List V->Prop
 |nil:Pr R [] []
 |cons {d:D} {v:V} {ds:List D} {vs:List V}:R d v->Pr R ds vs->Pr R (d::ds) (v::vs)
theorem Pr.mono {R R':D->V->Prop}(f:∀d v,R d v->R' d v){ds:List D}{vs:List V}(h:Pr R ds vs):Pr R' ds vs:=by
 induction h with
 |nil=>exact .nil
 |cons h t ih=>exact .cons (f _ _ h) ih
theorem Pr.length {R:D->V->Prop}{ds:List D}{vs:List V}(h:Pr R ds vs):ds.length=vs.length:=by
 induction h with
 |nil=>rfl
 |cons h t ih=>rw[aP,aP,ih]
theorem Pr.get' {R:D->V->Prop}{ds:List D}{vs:List V}{i:Nat}{d:D}(h:Pr R ds vs)(e:ds[i]?=some d):∃v,vs[i]?=some v/\R d v:=by
 induction h generalizing i with
 |nil=>cases e
 |cons h t ih=>
  cases i with
  |zero=>cases e;exact⟨_,rfl,h⟩
  |succ i=>exact ih e
theorem Pr.append {R:D->V->Prop}{ds es:List D}{vs us:List V}(h:Pr R ds vs)(s:Pr R es us):Pr R (ds++es) (vs++us):=by
 induction h with
 |nil=>exact s
 |cons h t ih=>exact .cons h ih
theorem Pr.take {R:D->V->Prop}{ds:List D}{vs:List V}(n:Nat)(h:Pr R ds vs):Pr R (ds.take n) (vs.take n):=by
 induction h generalizing n with
 |nil=>cases n<;>exact .nil
 |cons h t ih=>cases n with
  |zero=>exact .nil
  |succ n=>exact .cons h (ih n)
theorem Pr.drop {R:D->V->Prop}{ds:List D}{vs:List V}(n:Nat)(h:Pr R ds vs):Pr R (ds.drop n) (vs.drop n):=by
 induction h generalizing n with
 |nil=>cases n<;>exact .nil
 |cons h t ih=>cases n with
  |zero=>exact .cons h t
  |succ n=>exact ih n
theorem Pr.reverse {R:D->V->Prop}{ds:List D}{vs:List V}(h:Pr R ds vs):Pr R ds.reverse vs.reverse:=by
 induction h with
 |nil=>exact .nil
 |cons h t ih=>rw[gK,gK];exact ih.append (.cons h .nil)
theorem Pr.rep {R:D->V->Prop}{ds:List D}{vs:List V}(h:Pr R ds vs)(k:Nat):Pr R (aG k ds).flatten (aG k vs).flatten:=by
 induction k with
 |zero=>exact .nil
 |succ k ih=>rw[cA,eu,cA,eu];exact h.append ih
mutual
inductive Dt (K:ae)(ct:Nat->af)(F:Hp):D->V->Prop
 |non:Dt K ct F .non .non
 |bl (b:Bool):Dt K ct F (.bl b) (.bl b)
 |int (i:Int):Dt K ct F (.int i) (.int i)
 |str (x:aR):Dt K ct F (.str x) (.str x)
 |lst {a:af} {vs:List V} {ds:List D}:fw K F a vs->Dts K ct F ds vs->Dt K ct F (.lst ds) (.ref a)
 |tup {a:af} {vs:List V} {ds:List D}:F a=some (.tup vs)->Dts K ct F ds vs->Dt K ct F (.tup ds) (.ref a)
 |dK {a:af} {ks:List dw} {vs:List V} {ds:List D}:F a=some (.dK (ks.zip vs))->ks.length=vs.length->Dts K ct F ds vs->Dt K ct F (.dK ks ds) (.ref a)
 |dT {a:af} {ks:List (List dw)} {vs:List V} {ds:List D}:Rd F a (.dT (ks.zip vs))->ks.length=vs.length->Dts K ct F ds vs->Dt K ct F (.dT ks ds) (.ref a)
 |obj {a dx:af} {c:Nat} {ns:List aR} {vs:List V} {ds:List D}:F a=some (.ins (ct c) dx (ns.zip vs))->ns.length=vs.length->Dts K ct F ds vs->Dt K ct F (.obj c ns ds) (.ref a)
 |exc0 {a:af} {c:Nat} {tb:Option af}:F a=some (J7 a (ct c) none tb)->Dt K ct F (.exc c [] []) (.ref a)
 |exc {a dx:af} {c:Nat} {tb:Option af} {ns:List aR} {vs:List V} {ds:List D}:F a=some (J7 a (ct c) (some dx) tb)->F dx=some (.xd (ns.zip vs))->ns.length=vs.length->Dts K ct F ds vs->Dt K ct F (.exc c ns ds) (.ref a)
inductive Dts (K:ae)(ct:Nat->af)(F:Hp):List D->List V->Prop
 |nil:Dts K ct F [] []
 |cons {d:D} {v:V} {ds:List D} {vs:List V}:Dt K ct F d v->Dts K ct F ds vs->Dts K ct F (d::ds) (v::vs)
end
section
variable {K:ae}{ct:Nat->af}{F F' G G' H H' B B':Hp}
theorem Dts.pr {ds:List D}{vs:List V}(h:Dts K ct F ds vs):Pr (Dt K ct F) ds vs:=by
 induction ds generalizing vs with
 |nil=>cases h;exact .nil
 |cons d ds ih=>cases h with|cons h t=>exact .cons h (ih t)
theorem Dts.of {ds:List D}{vs:List V}(h:Pr (Dt K ct F) ds vs):Dts K ct F ds vs:=by
 induction h with
 |nil=>exact .nil
 |cons h t ih=>exact .cons h ih
theorem Dt.mono (s:bO F F'){d:D}{v:V}(h:Dt K ct F d v):Dt K ct F' d v :=
 Dt.rec (motive_1:=λd v _=>Dt K ct F' d v) (motive_2:=λd v _=>Dts K ct F' d v) .non .bl .int .str (λh _ t=>.lst (s.seq h) t) (λh _ t=>.tup (s _ _ h) t) (λh l _ t=>.dK (s _ _ h) l t) (λh l _ t=>.dT (s.rd h) l t) (λh l _ t=>.obj (s _ _ h) l t) (λh=>.exc0 (s _ _ h)) (λh h' l _ t=>.exc (s _ _ h) (s _ _ h') l t) .nil (λ_ _ h t=>.cons h t) h
end
def D.sc:D->Bool
 |.non=>true|.bl _=>true|.int _=>true|.str _=>true|_=>false
inductive uE (K:ae)(ct:Nat->af)(F G:Hp)(R:D->V->Prop):D->V->Prop
 |lst {a:af} {vs:List V} {ds:List D}:G a=some (.lst vs)->Pr R ds vs->uE K ct F G R (.lst ds) (.ref a)
 |tup {a:af} {vs:List V} {ds:List D}:F a=some (.tup vs)->Pr R ds vs->uE K ct F G R (.tup ds) (.ref a)
 |dK {a:af} {ks:List dw} {vs:List V} {ds:List D}:G a=some (.dK (ks.zip vs))->ks.length=vs.length->Pr R ds vs->uE K ct F G R (.dK ks ds) (.ref a)
 |dT {a:af} {ks:List (List dw)} {vs:List V} {ds:List D}:Rd G a (.dT (ks.zip vs))->ks.length=vs.length->Pr R ds vs->uE K ct F G R (.dT ks ds) (.ref a)
 |obj {a dx:af} {c:Nat} {ns:List aR} {vs:List V} {ds:List D}:G a=some (.ins (ct c) dx (ns.zip vs))->ns.length=vs.length->Pr R ds vs->uE K ct F G R (.obj c ns ds) (.ref a)
def Al (K:ae)(ct:Nat->af)(F G:Hp):Nat->D->V->Prop
 |0,d,v=>Dt K ct F d v
 |n+1,d,v=>Dt K ct F d v\/uE K ct F G (Al K ct F G n) d v
inductive eG (R:D->V->List af->Prop):List D->List V->List af->Prop
 |nil:eG R [] [] []
 |cons {d:D} {v:V} {ds:List D} {vs:List V} {f g:List af}:R d v f->eG R ds vs g->eG R (d::ds) (v::vs) (f++g)
inductive rF (K:ae)(ct:Nat->af)(F H:Hp)(R:D->V->List af->Prop):D->V->List af->Prop
 |lst {a:af} {vs:List V} {ds:List D} {fp:List af}:F a=none->H a=some (.lst vs)->eG R ds vs fp->rF K ct F H R (.lst ds) (.ref a) (a::fp)
 |tup {a:af} {vs:List V} {ds:List D} {fp:List af}:F a=some (.tup vs)->eG R ds vs fp->rF K ct F H R (.tup ds) (.ref a) fp
 |dK {a:af} {ks:List dw} {vs:List V} {ds:List D} {fp:List af}:F a=none->H a=some (.dK (ks.zip vs))->ks.length=vs.length->eG R ds vs fp->rF K ct F H R (.dK ks ds) (.ref a) (a::fp)
 |dT {a:af} {ks:List (List dw)} {vs:List V} {ds:List D} {fp:List af}:F a=none->H a=some (.dT (ks.zip vs))->ks.length=vs.length->eG R ds vs fp->rF K ct F H R (.dT ks ds) (.ref a) (a::fp)
 |obj {a dx:af} {c:Nat} {ns:List aR} {vs:List V} {ds:List D} {fp:List af}:F a=none->H a=some (.ins (ct c) dx (ns.zip vs))->ns.length=vs.length->eG R ds vs fp->rF K ct F H R (.obj c ns ds) (.ref a) (a::fp)
def Ow (K:ae)(ct:Nat->af)(F H:Hp):Nat->D->V->List af->Prop
 |0,d,v,fp=>Dt K ct F d v/\fp=[]
 |n+1,d,v,fp=>(d.sc=true/\Dt K ct F d v/\fp=[])\/rF K ct F H (Ow K ct F H n) d v fp
def jD (o:HO):Prop:=∀xs,o≠.tup xs
structure fv (F H F' H':Hp):Prop where
 ff:bO F F'
 hh:bO H H'
 fh:bO F' H'
 nf:∀a o,H a=some o->jD o->F a=none->F' a=none
theorem fv.refl {F H:Hp}(h:bO F H):fv F H F H:=⟨.refl _,.refl _,h,λ_ _ _ _ h=>h⟩
theorem fv.trans {F H F1 H1 F2 H2:Hp}(a:fv F H F1 H1)(b:fv F1 H1 F2 H2):fv F H F2 H2 :=
 ⟨a.ff.trans b.ff,a.hh.trans b.hh,b.fh,λc o h t n=>b.nf c o (a.hh _ _ h) t (a.nf c o h t n)⟩
theorem fv.newO {F H:Hp}{p:af}(s:bO F H)(h:H p=none)(o:HO):fv F H F (upd H p o) :=
 ⟨.refl _,qv h o,s.trans (qv h o),λ_ _ _ _ h=>h⟩
theorem fv.newS {F H:Hp}{p:af}(s:bO F H)(h:H p=none)(o:HO):fv F H (upd F p o) (upd H p o) :=
  ⟨qv (s.free h) o,qv h o,λb u q=>by
    by_cases e:b=p
    · subst e;rw[zw]at q ⊢;exact q
    · rw[zt e]at q ⊢;exact s _ _ q,
   λb u q _ n=>by rw[zt (yr q h)];exact n⟩
section
variable {K:ae}{ct:Nat->af}{F F' G G' H H' B B':Hp}
theorem Al.mono (sF:bO F F')(sG:bO G G'){n:Nat}:∀{d:D} {v:V},Al K ct F G n d v->Al K ct F' G' n d v:=by
 induction n with
 |zero=>exactλh=>Dt.mono sF h
 |succ n ih=>
  intro d v h
  rcases h with h|h
  ·exact .inl (Dt.mono sF h)
  ·cases h with
   |lst h p=>exact .inr (.lst (sG _ _ h) (p.mono λ_ _ q=>ih q))
   |tup h p=>exact .inr (.tup (sF _ _ h) (p.mono λ_ _ q=>ih q))
   |dK h l p=>exact .inr (.dK (sG _ _ h) l (p.mono λ_ _ q=>ih q))
   |dT h l p=>exact .inr (.dT (sG.rd h) l (p.mono λ_ _ q=>ih q))
   |obj h l p=>exact .inr (.obj (sG _ _ h) l (p.mono λ_ _ q=>ih q))
theorem Al.of:∀{n:Nat} {d:D} {v:V},Dt K ct F d v->Al K ct F G n d v
 |0,_,_,h=>h
 |_+1,_,_,h=>.inl h
theorem Dt.scal {d:D}{v:V}(h:Dt K ct F d v)(hs:d.sc=true):Dt K ct F' d v:=by
 cases h with
 |non=>exact .non
 |bl b=>exact .bl b
 |int i=>exact .int i
 |str x=>exact .str x
 |lst _ _=>cases hs
 |tup _ _=>cases hs
 |dK _ _ _=>cases hs
 |dT _ _ _=>cases hs
 |obj _ _ _=>cases hs
 |exc0 _=>cases hs
 |exc _ _ _ _=>cases hs
theorem Al.scal {n:Nat}{d:D}{v:V}(h:Al K ct F G n d v)(hs:d.sc=true):Dt K ct F' d v:=by
 cases n with
 |zero=>exact Dt.scal h hs
 |succ n=>
  rcases h with h|h
  ·exact h.scal hs
  ·cases h<;>cases hs
theorem Al.int {n:Nat}{i:Int}{v:V}(h:Al K ct F G n (.int i) v):v=.int i:=by
 have q:=Al.scal (F':=F) h rfl
 cases q;rfl
theorem Al.bl {n:Nat}{b:Bool}{v:V}(h:Al K ct F G n (.bl b) v):v=.bl b:=by
 have q:=Al.scal (F':=F) h rfl
 cases q;rfl
theorem Al.str {n:Nat}{x:aR}{v:V}(h:Al K ct F G n (.str x) v):v=.str x:=by
 have q:=Al.scal (F':=F) h rfl
 cases q;rfl
theorem Al.non {n:Nat}{v:V}(h:Al K ct F G n .non v):v=.non:=by
 have q:=Al.scal (F':=F) h rfl
 cases q;rfl
theorem Al.lst {n:Nat}{ds:List D}{v:V}(h:Al K ct F G n (.lst ds) v)(s:bO F G):∃a vs,v=.ref a/\fw K G a vs/\Pr (Al K ct F G (n-1)) ds vs:=by
 cases n with
 |zero=>
  have h:Dt K ct F (.lst ds) v:=h
  cases h with
  |lst q t=>exact⟨_,_,rfl,s.seq q,t.pr⟩
 |succ n=>
  rcases h with h|h
  ·cases h with
   |lst q t=>exact⟨_,_,rfl,s.seq q,t.pr.mono λ_ _=>Al.of⟩
  ·cases h with
   |lst q t=>exact⟨_,_,rfl,fw.of q,t⟩
theorem Al.tup {n:Nat}{ds:List D}{v:V}(h:Al K ct F G n (.tup ds) v)(s:bO F G):∃a vs,v=.ref a/\G a=some (.tup vs)/\Pr (Al K ct F G (n-1)) ds vs:=by
 cases n with
 |zero=>
  have h:Dt K ct F (.tup ds) v:=h
  cases h with
  |tup q t=>exact⟨_,_,rfl,s _ _ q,t.pr⟩
 |succ n=>
  rcases h with h|h
  ·cases h with
   |tup q t=>exact⟨_,_,rfl,s _ _ q,t.pr.mono λ_ _=>Al.of⟩
  ·cases h with
   |tup q t=>exact⟨_,_,rfl,s _ _ q,t⟩
theorem Al.dK {n:Nat}{ks:List dw}{ds:List D}{v:V}(h:Al K ct F G n (.dK ks ds) v)(s:bO F G):∃a vs,v=.ref a/\G a=some (.dK (ks.zip vs))/\ks.length=vs.length/\Pr (Al K ct F G (n-1)) ds vs:=by
 cases n with
 |zero=>
  have h:Dt K ct F (.dK ks ds) v:=h
  cases h with
  |dK q l t=>exact⟨_,_,rfl,s _ _ q,l,t.pr⟩
 |succ n=>
  rcases h with h|h
  ·cases h with
   |dK q l t=>exact⟨_,_,rfl,s _ _ q,l,t.pr.mono λ_ _=>Al.of⟩
  ·cases h with
   |dK q l t=>exact⟨_,_,rfl,q,l,t⟩
theorem Al.dT {n:Nat}{ks:List (List dw)}{ds:List D}{v:V}(h:Al K ct F G n (.dT ks ds) v)(s:bO F G):∃a vs,v=.ref a/\Rd G a (.dT (ks.zip vs))/\ks.length=vs.length/\Pr (Al K ct F G (n-1)) ds vs:=by
 cases n with
 |zero=>
  have h:Dt K ct F (.dT ks ds) v:=h
  cases h with
  |dT q l t=>exact⟨_,_,rfl,s.rd q,l,t.pr⟩
 |succ n=>
  rcases h with h|h
  ·cases h with
   |dT q l t=>exact⟨_,_,rfl,s.rd q,l,t.pr.mono λ_ _=>Al.of⟩
  ·cases h with
   |dT q l t=>exact⟨_,_,rfl,q,l,t⟩
theorem Al.obj {n:Nat}{c:Nat}{ns:List aR}{ds:List D}{v:V}(h:Al K ct F G n (.obj c ns ds) v)(s:bO F G):∃a dx vs,v=.ref a/\G a=some (.ins (ct c) dx (ns.zip vs))/\ns.length=vs.length/\Pr (Al K ct F G (n-1)) ds vs:=by
 cases n with
 |zero=>
  have h:Dt K ct F (.obj c ns ds) v:=h
  cases h with
  |obj q l t=>exact⟨_,_,_,rfl,s _ _ q,l,t.pr⟩
 |succ n=>
  rcases h with h|h
  ·cases h with
   |obj q l t=>exact⟨_,_,_,rfl,s _ _ q,l,t.pr.mono λ_ _=>Al.of⟩
  ·cases h with
   |obj q l t=>exact⟨_,_,_,rfl,q,l,t⟩
theorem eG.mono {R R':D->V->List af->Prop}{ds:List D}{vs:List V}{fp:List af}(h:eG R ds vs fp):(∀d v f,(∀a∈f,a∈fp)->R d v f->R' d v f)->eG R' ds vs fp:=by
 induction h with
 |nil=>exactλ_=>.nil
 |cons h t ih=>exactλq=>.cons (q _ _ _ (λa z=>aO _ z) h) (ih λd v f i r=>q d v f (λa z=>aE _ (i a z)) r)
theorem eG.pr {R:D->V->List af->Prop}{R':D->V->Prop}{ds:List D}{vs:List V}{fp:List af}(h:eG R ds vs fp):(∀d v f,(∀a∈f,a∈fp)->R d v f->R' d v)->Pr R' ds vs:=by
 induction h with
 |nil=>exactλ_=>.nil
 |cons h t ih=>exactλq=>.cons (q _ _ _ (λa z=>aO _ z) h) (ih λd v f i r=>q d v f (λa z=>aE _ (i a z)) r)
theorem eG.ofPr {R:D->V->List af->Prop}{ds:List D}{vs:List V}(h:Pr (λd v=>R d v []) ds vs):eG R ds vs []:=by
 induction h with
 |nil=>exact .nil
 |cons h t ih=>exact eG.cons (f:=[]) (g:=[]) h ih
theorem eG.append {R:D->V->List af->Prop}{ds es:List D}{vs us:List V}{f g:List af}(h:eG R ds vs f)(s:eG R es us g):eG R (ds++es) (vs++us) (f++g):=by
 induction h with
 |nil=>exact s
 |cons h t ih=>rw[gJ];exact .cons h ih
theorem eG.length {R:D->V->List af->Prop}{ds:List D}{vs:List V}{fp:List af}(h:eG R ds vs fp):ds.length=vs.length:=by
 induction h with
 |nil=>rfl
 |cons _ t ih=>simp[ih]
theorem Ow.frame (sF:bO F F'){n:Nat}:∀{d:D} {v:V} {fp:List af},Ow K ct F H n d v fp->(∀a∈fp,H' a=H a/\F' a=none)->Ow K ct F' H' n d v fp:=by
 induction n with
 |zero=>exactλh _=>⟨h.1.mono sF,h.2⟩
 |succ n ih=>
  intro d v fp h k
  rcases h with h|h
  ·exact .inl ⟨h.1,h.2.1.mono sF,h.2.2⟩
  ·cases h with
   |lst hn h p=>exact .inr (.lst (k _ am).2 ((k _ am).1.trans h) (p.mono λ_ _ _ i q=>ih q λa z=>k a (ap _ (i a z))))
   |tup h p=>exact .inr (.tup (sF _ _ h) (p.mono λ_ _ _ i q=>ih q λa z=>k a (i a z)))
   |dK hn h l p=>exact .inr (.dK (k _ am).2 ((k _ am).1.trans h) l (p.mono λ_ _ _ i q=>ih q λa z=>k a (ap _ (i a z))))
   |dT hn h l p=>exact .inr (.dT (k _ am).2 ((k _ am).1.trans h) l (p.mono λ_ _ _ i q=>ih q λa z=>k a (ap _ (i a z))))
   |obj hn h l p=>exact .inr (.obj (k _ am).2 ((k _ am).1.trans h) l (p.mono λ_ _ _ i q=>ih q λa z=>k a (ap _ (i a z))))
theorem eG.cells0 {R:D->V->List af->Prop}(k:∀d v f,R d v f->∀a∈f,F a=none/\∃o,H a=some o/\jD o){ds:List D}{vs:List V}{fp:List af}(h:eG R ds vs fp):∀a∈fp,F a=none/\∃o,H a=some o/\jD o:=by
 induction h with
 |nil=>exactλa z=>by cases z
 |cons h t ih=>exactλa z=>(aU.mp z).elim (λz=>k _ _ _ h a z) (ih a)
theorem Ow.cells {n:Nat}:∀{d:D} {v:V} {fp:List af},Ow K ct F H n d v fp->∀a∈fp,F a=none/\∃o,H a=some o/\jD o:=by
 induction n with
 |zero=>exactλh a z=>by rw[h.2]at z;cases z
 |succ n ih=>
  intro d v fp h a z
  rcases h with h|h
  ·rw[h.2.2]at z;cases z
  ·cases h with
   |lst hn h p=>exact(aA.mp z).elim (λe=>by rw[e];exact⟨hn,_,h,nofun⟩) (eG.cells0 (λd v f q=>ih q) p a)
   |tup h p=>exact eG.cells0 (λd v f q=>ih q) p a z
   |dK hn h l p=>exact(aA.mp z).elim (λe=>by rw[e];exact⟨hn,_,h,nofun⟩) (eG.cells0 (λd v f q=>ih q) p a)
   |dT hn h l p=>exact(aA.mp z).elim (λe=>by rw[e];exact⟨hn,_,h,nofun⟩) (eG.cells0 (λd v f q=>ih q) p a)
   |obj hn h l p=>exact(aA.mp z).elim (λe=>by rw[e];exact⟨hn,_,h,nofun⟩) (eG.cells0 (λd v f q=>ih q) p a)
theorem Ow.ext {n:Nat}{d:D}{v:V}{fp:List af}(h:Ow K ct F H n d v fp)(e:fv F H F' H'):Ow K ct F' H' n d v fp :=
 h.frame e.ff λa z=>by
  obtain⟨hn,o,ho,nt⟩:=h.cells a z
  exact⟨(e.hh _ _ ho).trans ho.symm,e.nf a o ho nt hn⟩
theorem Ow.al (s:bO F H){n:Nat}:∀{d:D} {v:V} {fp:List af},Ow K ct F H n d v fp->Al K ct F H n d v:=by
 induction n with
 |zero=>exactλh=>h.1
 |succ n ih=>
  intro d v fp h
  rcases h with h|h
  ·exact .inl h.2.1
  ·cases h with
   |lst hn h p=>exact .inr (.lst h (p.pr λ_ _ _ _ q=>ih q))
   |tup h p=>exact .inr (.tup h (p.pr λ_ _ _ _ q=>ih q))
   |dK hn h l p=>exact .inr (.dK h l (p.pr λ_ _ _ _ q=>ih q))
   |dT hn h l p=>exact .inr (.dT (.inl h) l (p.pr λ_ _ _ _ q=>ih q))
   |obj hn h l p=>exact .inr (.obj h l (p.pr λ_ _ _ _ q=>ih q))
theorem Ow.dt (sF:bO F F'){n:Nat}:∀{d:D} {v:V} {fp:List af},Ow K ct F H n d v fp->(∀a∈fp,F' a=H a)->Dt K ct F' d v:=by
 induction n with
 |zero=>exactλh _=>h.1.mono sF
 |succ n ih=>
  intro d v fp h k
  rcases h with h|h
  ·exact h.2.1.mono sF
  ·cases h with
   |lst hn h p=>exact .lst (fw.of ((k _ am).trans h)) (.of (p.pr λ_ _ _ i q=>ih q λa z=>k a (ap _ (i a z))))
   |tup h p=>exact .tup (sF _ _ h) (.of (p.pr λ_ _ _ i q=>ih q λa z=>k a (i a z)))
   |dK hn h l p=>exact .dK ((k _ am).trans h) l (.of (p.pr λ_ _ _ i q=>ih q λa z=>k a (ap _ (i a z))))
   |dT hn h l p=>exact .dT (.inl ((k _ am).trans h)) l (.of (p.pr λ_ _ _ i q=>ih q λa z=>k a (ap _ (i a z))))
   |obj hn h l p=>exact .obj ((k _ am).trans h) l (.of (p.pr λ_ _ _ i q=>ih q λa z=>k a (ap _ (i a z))))
def lD (F H:Hp)(fp:List af):Hp:=λa=>if a∈fp then H a else F a
theorem R3 {fp:List af}(s:bO F H)(hf:∀a∈fp,F a=none):bO F (lD F H fp)/\bO (lD F H fp) H/\∀a∈fp,lD F H fp a=H a:=by
 refine⟨λa o h=>?_,λa o h=>?_,λa z=>if_pos z⟩
 ·have:¬a∈fp:=λz=>by rw[hf a z]at h;cases h
  unfold lD;rw[if_neg this];exact h
 ·unfold lD at h
  by_cases z:a∈fp
  ·rw[if_pos z]at h;exact h
  ·rw[if_neg z]at h;exact s _ _ h
theorem Ow.freeze {n:Nat}{d:D}{v:V}{fp:List af}{F0 H0:Hp}(h:Ow K ct F H n d v fp)(e:fv F0 H0 F H)(hf:∀a∈fp,H0 a=none):∃F',fv F0 H0 F' H/\Dt K ct F' d v:=by
 obtain⟨w1,w2,w3⟩:=R3 (fp:=fp) e.fh (λa z=>(h.cells a z).1)
 refine⟨lD F H fp,⟨e.ff.trans w1,e.hh,w2,λa o ho nt hn=>?_⟩,h.dt w1 w3⟩
 have:¬a∈fp:=λz=>by rw[hf a z]at ho;cases ho
 unfold lD;rw[if_neg this];exact e.nf a o ho nt hn
theorem Ow.zero {d:D}{v:V}(h:Dt K ct F d v):Ow K ct F H 0 d v []:=⟨h,rfl⟩
theorem Ow.scal {n:Nat}{d:D}{v:V}(h:Dt K ct F d v)(hs:d.sc=true):Ow K ct F H n d v []:=by
 cases n with
 |zero=>exact⟨h,rfl⟩
 |succ n=>exact .inl ⟨hs,h,rfl⟩
end
end L3
namespace L3
open PySem PySem.Spec L2
open PyProof.Rows hiding St
abbrev Env:=List (Option D)
inductive Mo where
 |al (n:Nat)|ow (n:Nat)|px (v:V)|so (x:af)
def Mo.lv:Mo->Nat
 |.al n=>n
 |.ow n=>n
 |.px _=>1
 |.so _=>1
section
variable (K:ae)(ct:Nat->af)
inductive SL (F B H:Hp):List Mo->Env->St->List af->Prop
 |nil:SL F B H [] [] [] []
 |no {m:Mo} {o:Option V} {ms:List Mo} {ρ:Env} {σ:St} {fp:List af}:SL F B H ms ρ σ fp->SL F B H (m::ms) (none::ρ) (o::σ) fp
 |al {n:Nat} {d:D} {v:V} {ms:List Mo} {ρ:Env} {σ:St} {fp:List af}:Al K ct F B n d v->SL F B H ms ρ σ fp->SL F B H (.al n::ms) (some d::ρ) (some v::σ) fp
 |px {d:D} {v:V} {ms:List Mo} {ρ:Env} {σ:St} {fp:List af}:Al K ct F B 1 d v->SL F B H ms ρ σ fp->SL F B H (.px v::ms) (some d::ρ) (some v::σ) fp
 |so {d:D} {x:af} {ms:List Mo} {ρ:Env} {σ:St} {fp:List af}:Ow K ct F H 1 d (.ref x) [x]->SL F B H ms ρ σ fp->SL F B H (.so x::ms) (some d::ρ) (some (.ref x)::σ) (x::fp)
 |ow {n:Nat} {d:D} {v:V} {ms:List Mo} {ρ:Env} {σ:St} {f fp:List af}:Ow K ct F H n d v f->SL F B H ms ρ σ fp->SL F B H (.ow n::ms) (some d::ρ) (some v::σ) (f++fp)
structure RS (F0 B:Hp)(ms:List Mo)(F H:Hp)(ρ:Env)(σ:St):Prop where
 f0:bO F0 F
 bh:bO B H
 fh:bO F H
 nf:∀a o,B a=some o->jD o->F0 a=none->F a=none
 sl:∃fp,SL K ct F B H ms ρ σ fp/\fp.Nodup/\∀a∈fp,B a=none
end
section
variable {K:ae}{ct:Nat->af}{F F' G G' H H' B B' F0:Hp}{ms:List Mo}{ρ:Env}{σ:St}
theorem SL.cells {ms:List Mo}{ρ:Env}{σ:St}{fp:List af}(h:SL K ct F B H ms ρ σ fp):∀a∈fp,F a=none/\∃o,H a=some o/\jD o:=by
 induction h with
 |nil=>intro a z;cases z
 |no t ih=>exact ih
 |al _ t ih=>exact ih
 |px _ t ih=>exact ih
 |so h t ih=>exactλa z=>(aA.mp z).elim (λz=>h.cells a (by rw[z];exact am)) (ih a)
 |ow h t ih=>exactλa z=>(aU.mp z).elim (h.cells a) (ih a)
theorem SL.frame (sF:bO F F'){ms:List Mo}{ρ:Env}{σ:St}{fp:List af}(h:SL K ct F B H ms ρ σ fp):(∀a∈fp,H' a=H a/\F' a=none)->SL K ct F' B H' ms ρ σ fp:=by
 induction h with
 |nil=>exactλ_=>.nil
 |no t ih=>exactλk=>.no (ih k)
 |al h t ih=>exactλk=>.al (h.mono sF (.refl _)) (ih k)
 |px h t ih=>exactλk=>.px (h.mono sF (.refl _)) (ih k)
 |so h t ih=>exactλk=>.so (h.frame sF λa z=>k a (by rw[aJ]at z;rw[z];exact am)) (ih λa z=>k a (ap _ z))
 |ow h t ih=>exactλk=>.ow (h.frame sF λa z=>k a (aO _ z)) (ih λa z=>k a (aE _ z))
theorem RS.ext (r:RS K ct F0 B ms F H ρ σ)(e:fv F H F' H'):RS K ct F0 B ms F' H' ρ σ:=by
 obtain⟨fp,s,nd,hb⟩:=r.sl
 refine⟨r.f0.trans e.ff,r.bh.trans e.hh,e.fh,λa o h t n=>e.nf a o (r.bh _ _ h) t (r.nf a o h t n),fp,s.frame e.ff λa z=>?_,nd,hb⟩
 obtain⟨hn,o,ho,nt⟩:=s.cells a z
 exact⟨(e.hh _ _ ho).trans ho.symm,e.nf a o ho nt hn⟩
theorem SL.get {ms:List Mo}{ρ:Env}{σ:St}{fp:List af}{i:Nat}{m:Mo}{d:D}(h:SL K ct F B H ms ρ σ fp)(s:bO F H)(s':bO B H):ms[i]?=some m->ρ[i]?=some (some d)->∃v,σ[i]?=some (some v)/\Al K ct F H m.lv d v:=by
 induction h generalizing i with
 |nil=>intro e;simp at e
 |no t ih=>
  intro e e'
  cases i with
  |zero=>simp at e'
  |succ i=>simpa using ih (by simpa using e) (by simpa using e')
 |al h t ih=>
  intro e e'
  cases i with
  |zero=>
   simp at e e';subst e;subst e'
   exact⟨_,rfl,h.mono (.refl _) s'⟩
  |succ i=>simpa using ih (by simpa using e) (by simpa using e')
 |px h t ih=>
  intro e e'
  cases i with
  |zero=>
   simp at e e';subst e;subst e'
   exact⟨_,rfl,h.mono (.refl _) s'⟩
  |succ i=>simpa using ih (by simpa using e) (by simpa using e')
 |so h t ih=>
  intro e e'
  cases i with
  |zero=>
   simp at e e';subst e;subst e'
   exact⟨_,rfl,h.al s⟩
  |succ i=>simpa using ih (by simpa using e) (by simpa using e')
 |ow h t ih=>
  intro e e'
  cases i with
  |zero=>
   simp at e e';subst e;subst e'
   exact⟨_,rfl,h.al s⟩
  |succ i=>simpa using ih (by simpa using e) (by simpa using e')
theorem RS.get (r:RS K ct F0 B ms F H ρ σ){i:Nat}{m:Mo}{d:D}(hm:ms[i]?=some m)(e:ρ[i]?=some (some d)):∃v,σ[i]?=some (some v)/\Al K ct F H m.lv d v:=by
 obtain⟨fp,s,_,_⟩:=r.sl
 exact s.get r.fh r.bh hm e
theorem SL.put {ms:List Mo}{ρ:Env}{σ:St}{fp:List af}{i k:Nat}(h0:SL K ct F B H ms ρ σ fp):ms[i]?=some (.ow k) ->
  ∃f1 fr:List af,(∀a∈f1,a∈fp)/\(∀a∈fr,a∈fp)/\(fp.Nodup->f1.Nodup/\fr.Nodup/\∀a∈f1,a∉fr)/\(∀d,ρ[i]?=some (some d)->∃v,σ[i]?=some (some v)/\Ow K ct F H k d v f1) /\
   ∀(F' H':Hp) (d':D) (v':V) (f':List af),bO F F'->(∀a∈fr,H' a=H a/\F' a=none)->Ow K ct F' H' k d' v' f' ->
    ∃oz,SL K ct F' B H' ms (ρ.set i (some d')) (σ.set i (some v')) oz/\(∀a∈oz,a∈f'\/a∈fr)/\(f'.Nodup->fr.Nodup->(∀a∈f',a∉fr)->oz.Nodup):=by
 induction h0 generalizing i with
 |nil=>
  intro e
  simp at e
 |@no m0 o0 ms ρ σ fp t ih=>
  intro e
  cases i with
  |zero=>
   simp at e;subst e
   refine⟨[],fp,λa z=>(by cases z),λa z=>z,λn=>⟨bD,n,λa z=>(by cases z)⟩,λd q=>(by simp at q),λF' H' d' v' f' s kf h=>⟨f'++fp,.ow h (t.frame s kf),λa z=>aU.mp z,λn1 n2 dj=>?_⟩⟩
   exact bu.mpr ⟨n1,n2,λa z b zb e=>dj a z (e▸zb)⟩
  |succ i=>
   obtain⟨f1,fr,h1,h2,h3,h4,h5⟩:=ih (i:=i) (by simpa using e)
   refine⟨f1,fr,h1,h2,h3,λd q=>by simpa using h4 d (by simpa using q),λF' H' d' v' f' s kf h=>?_⟩
   obtain⟨oz,q1,q2,q3⟩:=h5 F' H' d' v' f' s kf h
   exact⟨oz,.no q1,q2,q3⟩
 |@al n0 d0 v0 ms ρ σ fp h t ih=>
  intro e
  cases i with
  |zero=>
   simp at e
  |succ i=>
   obtain⟨f1,fr,h1,h2,h3,h4,h5⟩:=ih (i:=i) (by simpa using e)
   refine⟨f1,fr,h1,h2,h3,λd q=>by simpa using h4 d (by simpa using q),λF' H' d' v' f' s kf h'=>?_⟩
   obtain⟨oz,q1,q2,q3⟩:=h5 F' H' d' v' f' s kf h'
   exact⟨oz,.al (h.mono s (.refl _)) q1,q2,q3⟩
 |@px d0 v0 ms ρ σ fp h t ih=>
  intro e
  cases i with
  |zero=>
   simp at e
  |succ i=>
   obtain⟨f1,fr,h1,h2,h3,h4,h5⟩:=ih (i:=i) (by simpa using e)
   refine⟨f1,fr,h1,h2,h3,λd q=>by simpa using h4 d (by simpa using q),λF' H' d' v' f' s kf h'=>?_⟩
   obtain⟨oz,q1,q2,q3⟩:=h5 F' H' d' v' f' s kf h'
   exact⟨oz,.px (h.mono s (.refl _)) q1,q2,q3⟩
 |@so d0 x ms ρ σ fp h t ih=>
  intro e
  cases i with
  |zero=>
   simp at e
  |succ i=>
   obtain⟨f1,fr,h1,h2,h3,h4,h5⟩:=ih (i:=i) (by simpa using e)
   refine⟨f1,x::fr,λa z=>ap _ (h1 a z),λa z=>(aA.mp z).elim (λz=>by rw[z];exact am) λz=>ap _ (h2 a z),λn=>?_,λd q=>by simpa using h4 d (by simpa using q),λF' H' d' v' f' s kf h'=>?_⟩
   ·obtain⟨n1,n2⟩:=bW.mp n
    obtain⟨m1,m2,m3⟩:=h3 n2
    refine⟨m1,bW.mpr ⟨λz=>n1 (h2 x z),m2⟩,λa z zb=>?_⟩
    rcases aA.mp zb with zb|zb
    ·rw[zb]at z;exact n1 (h1 x z)
    ·exact m3 a z zb
   ·obtain⟨oz,q1,q2,q3⟩:=h5 F' H' d' v' f' s (λa z=>kf a (ap _ z)) h'
    refine⟨x::oz,.so (h.frame s λa z=>kf a (by rw[aJ]at z;rw[z];exact am)) q1,λa z=>?_,λn1 n2 dj=>?_⟩
    ·rcases aA.mp z with z|z
     ·exact .inr (by rw[z];exact am)
     ·exact(q2 a z).imp id λz=>ap _ z
    ·obtain⟨m1,m2⟩:=bW.mp n2
     refine bW.mpr ⟨λz=>?_,q3 n1 m2 λa z zb=>dj a z (ap _ zb)⟩
     rcases q2 x z with z|z
     ·exact dj x z am
     ·exact m1 z
 |@ow n0 d0 v0 ms ρ σ f fp h t ih=>
  intro e
  cases i with
  |zero=>
   simp at e;subst e
   refine⟨f,fp,λa z=>aO _ z,λa z=>aE _ z,λn=>?_,λd q=>?_,λF' H' d' v' f' s kf h=>⟨f'++fp,.ow h (t.frame s kf),λa z=>aU.mp z,λn1 n2 dj=>?_⟩⟩
   ·obtain⟨n1,n2,n3⟩:=bu.mp n
    exact⟨n1,n2,λa z zb=>n3 a z a zb rfl⟩
   ·simp at q;subst q;exact⟨_,rfl,h⟩
   ·exact bu.mpr ⟨n1,n2,λa z b zb e=>dj a z (e▸zb)⟩
  |succ i=>
   obtain⟨f1,fr,h1,h2,h3,h4,h5⟩:=ih (i:=i) (by simpa using e)
   refine⟨f1,f++fr,λa z=>aE _ (h1 a z),λa z=>(aU.mp z).elim (λz=>aO _ z) λz=>aE _ (h2 a z),λn=>?_,λd q=>by simpa using h4 d (by simpa using q),λF' H' d' v' f' s kf h'=>?_⟩
   ·obtain⟨n1,n2,n3⟩:=bu.mp n
    obtain⟨m1,m2,m3⟩:=h3 n2
    refine⟨m1,bu.mpr ⟨n1,m2,λa z b zb=>n3 a z b (h2 b zb)⟩,λa z zb=>?_⟩
    rcases aU.mp zb with zb|zb
    ·exact n3 a zb a (h1 a z) rfl
    ·exact m3 a z zb
   ·obtain⟨oz,q1,q2,q3⟩:=h5 F' H' d' v' f' s (λa z=>kf a (aE _ z)) h'
    refine⟨f++oz,.ow (h.frame s λa z=>kf a (aO _ z)) q1,λa z=>?_,λn1 n2 dj=>?_⟩
    ·rcases aU.mp z with z|z
     ·exact .inr (aO _ z)
     ·exact(q2 a z).imp id λz=>aE _ z
    ·obtain⟨m1,m2,m3⟩:=bu.mp n2
     refine bu.mpr ⟨m1,q3 n1 m2 λa z zb=>dj a z (aE _ zb),λa z b zb e=>?_⟩
     subst e
     rcases q2 a zb with zb|zb
     ·exact dj a zb (aO _ z)
     ·exact m3 a z a zb rfl
end
abbrev EF:=Env->Option D
inductive iZ (K:ae)(ct:Nat->af)(F G:Hp):List Nat->List D->List V->Prop
 |nil:iZ K ct F G [] [] []
 |cons {n:Nat} {d:D} {v:V} {ns:List Nat} {ds:List D} {vs:List V}:Al K ct F G n d v->iZ K ct F G ns ds vs->iZ K ct F G (n::ns) (d::ds) (v::vs)
theorem iZ.mono {K:ae}{ct:Nat->af}{F F' G G':Hp}(sF:bO F F')(sG:bO G G'){ns:List Nat}{ds:List D}{vs:List V}(h:iZ K ct F G ns ds vs):iZ K ct F' G' ns ds vs:=by
 induction h with
 |nil=>exact .nil
 |cons h t ih=>exact .cons (h.mono sF sG) ih
theorem iZ.length {K:ae}{ct:Nat->af}{F G:Hp}{ns:List Nat}{ds:List D}{vs:List V}(h:iZ K ct F G ns ds vs):vs.length=ns.length:=by
 induction h with
 |nil=>rfl
 |cons h t ih=>rw[aP,aP,ih]
theorem iZ.length' {K:ae}{ct:Nat->af}{F G:Hp}{ns:List Nat}{ds:List D}{vs:List V}(h:iZ K ct F G ns ds vs):ds.length=vs.length:=by
 induction h with
 |nil=>rfl
 |cons h t ih=>rw[aP,aP,ih]
theorem iZ.append {K:ae}{ct:Nat->af}{F G:Hp}{Dx:List Nat}{kP:List D}{J3:List V}(q:iZ K ct F G Dx kP J3){ns:List Nat}{ds:List D}{vs:List V}(h:iZ K ct F G ns ds vs):iZ K ct F G (ns++Dx) (ds++kP) (vs++J3):=by
 induction h with
 |nil=>exact q
 |cons h t ih=>exact .cons h ih
section
variable (X:Cx)(ct:Nat->af)(ms:List Mo)
def XE (n:Nat)(e:Expr)(f:EF):Prop:=∃t,PE X e t/\∀(F0 B F H:Hp) (ρ:Env) (σ:St) (d:D) (Q:VK),RS X.K ct F0 B ms F H ρ σ->f ρ=some d ->
 (∀v F' H',fv F H F' H'->Al X.K ct F' H' n d v->Q v H')->t σ H Q
def XO (k:Nat)(e:Expr)(f:EF):Prop:=∃t,PE X e t/\∀(F0 B F H:Hp) (ρ:Env) (σ:St) (d:D) (Q:VK),RS X.K ct F0 B ms F H ρ σ->f ρ=some d ->
 (∀v F' H' fp,fv F H F' H'->Ow X.K ct F' H' k d v fp->fp.Nodup->(∀a∈fp,H a=none)->Q v H')->t σ H Q
def XT (e:Expr)(f:Env->Option Bool):Prop:=∃t,PT X e t/\∀(F0 B F H:Hp) (ρ:Env) (σ:St) (b:Bool) (Q:Bool->Hp->Prop),RS X.K ct F0 B ms F H ρ σ->f ρ=some b ->
 (∀F' H',fv F H F' H'->Q b H')->t σ H Q
def XW (e:Expr)(f:Env->Option Bool):Prop:=∃t,PW X e t/\∀(F0 B F H:Hp) (ρ:Env) (σ:St) (b:Bool) (Q:Bool->Hp->Prop),RS X.K ct F0 B ms F H ρ σ->f ρ=some b ->
 (∀F' H',fv F H F' H'->Q b H')->t σ H Q
def XA (es:List Expr)(ns:List Nat)(f:Env->Option (List D)):Prop:=∃t,PA X es t/\(∀ρ ds,f ρ=some ds->ds.length=es.length)/\∀(F0 B F H:Hp) (ρ:Env) (σ:St) (ds:List D) (Q:List V->Hp->Prop),RS X.K ct F0 B ms F H ρ σ->f ρ=some ds ->
 (∀vs F' H',fv F H F' H'->iZ X.K ct F' H' ns ds vs->Q vs H')->t σ H Q
end
def e2 (op:D->D->Option D)(f g:EF):EF:=λρ=>(f ρ).bind λx=>(g ρ).bind λy=>op x y
def e1 (op:D->Option D)(f:EF):EF:=λρ=>(f ρ).bind op
def eN (op:List D->Option D)(f:Env->Option (List D)):EF:=λρ=>(f ρ).bind op
def eC (d:D):EF:=λ_=>some d
def eV (i:Nat):EF:=λρ=>(ρ[i]?).join
def aNil:Env->Option (List D):=λ_=>some []
def aCons (f:EF)(g:Env->Option (List D)):Env->Option (List D):=λρ=>(f ρ).bind λx=>(g ρ).bind λxs=>some (x::xs)
theorem dO {α β γ:Type}{o:Option α}{p:Option β}{op:α->β->Option γ}{r:γ}(h:(o.bind λx=>p.bind λy=>op x y)=some r):∃x y,o=some x/\p=some y/\op x y=some r:=by
 cases o with
 |none=>cases h
 |some x=>
  cases p with
  |none=>cases h
  |some y=>exact⟨x,y,rfl,rfl,h⟩
theorem aW {α β:Type}{o:Option α}{op:α->Option β}{r:β}(h:o.bind op=some r):∃x,o=some x/\op x=some r:=by
 cases o with
 |none=>cases h
 |some x=>exact⟨x,rfl,h⟩
theorem xu {α:Type}{o:Option (Option α)}{x:α}(h:o.join=some x):o=some (some x):=by
 cases o with
 |none=>cases h
 |some y=>exact congrArg some h
def kY (K:ae)(ct:Nat->af)(n m k:Nat)(r:R2)(op:D->D->Option D):Prop :=
 ∀(F H:Hp) (x y:V) (d1 d2 d:D) (Q:VK),bO F H->Al K ct F H n d1 x->Al K ct F H m d2 y->op d1 d2=some d->(∀v F' H',fv F H F' H'->Al K ct F' H' k d v->Q v H')->r x y H Q
def yL (K:ae)(ct:Nat->af)(n m k:Nat)(r:R2)(op:D->D->Option D):Prop :=
 ∀(F H:Hp) (x y:V) (d1 d2 d:D) (Q:VK),bO F H->Al K ct F H n d1 x->Al K ct F H m d2 y->op d1 d2=some d ->
  (∀v F' H' fp,fv F H F' H'->Ow K ct F' H' k d v fp->fp.Nodup->(∀a∈fp,H a=none)->Q v H')->r x y H Q
def uJ (K:ae)(ct:Nat->af)(ns:List Nat)(k:Nat)(r:List V->Hp->VK->Prop)(op:List D->Option D):Prop :=
 ∀(F H:Hp) (vs:List V) (ds:List D) (d:D) (Q:VK),bO F H->iZ K ct F H ns ds vs->op ds=some d->(∀v F' H',fv F H F' H'->Al K ct F' H' k d v->Q v H')->r vs H Q
def pJ (K:ae)(ct:Nat->af)(ns:List Nat)(k:Nat)(r:List V->Hp->VK->Prop)(op:List D->Option D):Prop :=
 ∀(F H:Hp) (vs:List V) (ds:List D) (d:D) (Q:VK),bO F H->iZ K ct F H ns ds vs->op ds=some d ->
  (∀v F' H' fp,fv F H F' H'->Ow K ct F' H' k d v fp->fp.Nodup->(∀a∈fp,H a=none)->Q v H')->r vs H Q
section
variable {X:Cx}{ct:Nat->af}{ms:List Mo}{n m k:Nat}{a b c e:Expr}{f g h:EF}{pos:cG}
theorem XO.sh (he:XO X ct ms k e f):XE X ct ms n e f:=by
 obtain⟨t,p,q⟩:=he
 refine⟨t,p,λF0 B F H ρ σ d Q r e w=>q F0 B F H ρ σ d Q r e λv F' H' fp x o nd hf=>?_⟩
 obtain⟨F2,x2,h2⟩:=o.freeze x hf
 exact w v F2 H' x2 (Al.of h2)
theorem XE.ow (he:XE X ct ms 0 e f):XO X ct ms 0 e f:=by
 obtain⟨t,p,q⟩:=he
 exact⟨t,p,λF0 B F H ρ σ d Q r e w=>q F0 B F H ρ σ d Q r e λv F' H' x l=>w v F' H' [] x ⟨l,rfl⟩ bD λa z=>(by cases z)⟩
theorem za (i n:Nat){x:aR}{m:Mo}(hm:ms[i]?=some m:=by rfl)(hl:m.lv=n:=by rfl)(hN:X.N[i]?=some x:=by rfl)(hv:pK X.env.scope x:=by first|exact Or.inl rfl|exact Or.inr (Or.inl rfl)|exact Or.inr (Or.inr rfl))(hd:(x==("__debug__":aR))=false:=by decide)
  (iX:(x==("__classdict__":aR))=false:=by decide):XE X ct ms n (.Name x pos) (eV i):=by
 subst hl
 refine⟨_,j9 hN hv hd iX,λF0 B F H ρ σ d Q r e w=>?_⟩
 obtain⟨v,hv,l⟩:=r.get hm (xu e)
 exact⟨v,hv,w v F H (.refl r.fh) l⟩
theorem U8 {i:Int}{j}:XE X ct ms n (.Constant (.int i) j pos) (eC (.int i)):=⟨_,U2,λF0 B F H ρ σ d Q r e w=>by cases e;exact w _ F H (.refl r.fh) (Al.of (.int i))⟩
theorem uC {i:Bool}{j}:XE X ct ms n (.Constant (.bool i) j pos) (eC (.bl i)):=⟨_,VN,λF0 B F H ρ σ d Q r e w=>by cases e;exact w _ F H (.refl r.fh) (Al.of (.bl i))⟩
theorem xW {i:aR}{j}:XE X ct ms n (.Constant (.str i) j pos) (eC (.str i)):=⟨_,U4,λF0 B F H ρ σ d Q r e w=>by cases e;exact w _ F H (.refl r.fh) (Al.of (.str i))⟩
theorem U9 {j}:XE X ct ms n (.Constant .none j pos) (eC .non):=⟨_,U3,λF0 B F H ρ σ d Q r e w=>by cases e;exact w _ F H (.refl r.fh) (Al.of .non)⟩
theorem XE.bin (ha:XE X ct ms n a f)(hb:XE X ct ms m b g):∃ta tb,PE X a ta/\PE X b tb/\∀(F0 B F H:Hp) (ρ:Env) (σ:St) (d1 d2:D) (R:V->V->Hp->Prop),RS X.K ct F0 B ms F H ρ σ->f ρ=some d1->g ρ=some d2 ->
  (∀x y F' H',fv F H F' H'->Al X.K ct F' H' n d1 x->Al X.K ct F' H' m d2 y->R x y H')->ta σ H λx H1=>tb σ H1 λy H2=>R x y H2:=by
 obtain⟨ta,pa,qa⟩:=ha
 obtain⟨tb,pb,qb⟩:=hb
 refine⟨ta,tb,pa,pb,λF0 B F H ρ σ d1 d2 R r e1 e2 w=>qa F0 B F H ρ σ d1 _ r e1 λx F1 H1 x1 l1=>?_⟩
 exact qb F0 B F1 H1 ρ σ d2 _ (r.ext x1) e2 λy F2 H2 x2 l2=>w x y F2 H2 (x1.trans x2) (l1.mono x2.ff x2.hh) l2
theorem xq {op:iO}{r:R2}{o:D->D->Option D}(ho:fU X (dQ op) r)(hs:kY X.K ct n m k r o)(ha:XE X ct ms n a f)(hb:XE X ct ms m b g):XE X ct ms k (.BinOp a op b pos) (e2 o f g):=by
 obtain⟨ta,tb,pa,pb,q⟩:=ha.bin hb
 refine⟨_,HU ho pa pb,λF0 B F H ρ σ d Q rs e w=>?_⟩
 obtain⟨d1,d2,h1,h2,h3⟩:=dO e
 exact q F0 B F H ρ σ d1 d2 _ rs h1 h2 λx y F' H' x1 l1 l2=>hs F' H' x y d1 d2 d Q x1.fh l1 l2 h3 λv F2 H2 x2 l=>w v F2 H2 (x1.trans x2) l
theorem Wo {op:iO}{r:R2}{o:D->D->Option D}(ho:fU X (dQ op) r)(hs:yL X.K ct n m k r o)(ha:XE X ct ms n a f)(hb:XE X ct ms m b g):XO X ct ms k (.BinOp a op b pos) (e2 o f g):=by
 obtain⟨ta,tb,pa,pb,q⟩:=ha.bin hb
 refine⟨_,HU ho pa pb,λF0 B F H ρ σ d Q rs e w=>?_⟩
 obtain⟨d1,d2,h1,h2,h3⟩:=dO e
 exact q F0 B F H ρ σ d1 d2 _ rs h1 h2 λx y F' H' x1 l1 l2=>hs F' H' x y d1 d2 d Q x1.fh l1 l2 h3 λv F2 H2 fp x2 l nd hf=>w v F2 H2 fp (x1.trans x2) l nd λz hz=>x1.hh.free (hf z hz)
theorem t8 {op:kF}{r:R2}{o:D->D->Option D}(ho:fU X (cx op) r)(hs:kY X.K ct n m k r o)(ha:XE X ct ms n a f)(hb:XE X ct ms m b g)(hm:dG op b=false):XE X ct ms k (.Compare a [op] [b] pos) (e2 o f g):=by
 obtain⟨ta,tb,pa,pb,q⟩:=ha.bin hb
 refine⟨_,TV ho pa pb hm,λF0 B F H ρ σ d Q rs e w=>?_⟩
 obtain⟨d1,d2,h1,h2,h3⟩:=dO e
 exact q F0 B F H ρ σ d1 d2 _ rs h1 h2 λx y F' H' x1 l1 l2=>hs F' H' x y d1 d2 d Q x1.fh l1 l2 h3 λv F2 H2 x2 l=>w v F2 H2 (x1.trans x2) l
theorem p7 {r:R2}{o:D->D->Option D}(hr:rE X r)(hs:kY X.K ct n m k r o)(ha:XE X ct ms n a f)(hb:XE X ct ms m b g)(hp:kN b):XE X ct ms k (.Subscript a b pos) (e2 o f g):=by
 obtain⟨ta,tb,pa,pb,q⟩:=ha.bin hb
 refine⟨_,Mu hr pa pb hp,λF0 B F H ρ σ d Q rs e w=>?_⟩
 obtain⟨d1,d2,h1,h2,h3⟩:=dO e
 exact q F0 B F H ρ σ d1 d2 _ rs h1 h2 λx y F' H' x1 l1 l2=>hs F' H' x y d1 d2 d Q x1.fh l1 l2 h3 λv F2 H2 x2 l=>w v F2 H2 (x1.trans x2) l
theorem Wq {op:UnaryOp}{r:V->Hp->VK->Prop}{o:D->Option D}(ho:C0 X (unaryOp op) r)
  (hs:∀(F H:Hp) (x:V) (d1 d:D) (Q:VK),bO F H->Al X.K ct F H n d1 x->o d1=some d->(∀v F' H',fv F H F' H'->Al X.K ct F' H' k d v->Q v H')->r x H Q) (ha:XE X ct ms n a f):XE X ct ms k (.UnaryOp op a pos) (e1 o f):=by
 obtain⟨ta,pa,qa⟩:=ha
 refine⟨_,Wf ho pa,λF0 B F H ρ σ d Q rs e w=>?_⟩
 obtain⟨d1,h1,h2⟩:=aW e
 exact qa F0 B F H ρ σ d1 _ rs h1 λx F' H' x1 l1=>hs F' H' x d1 d Q x1.fh l1 h2 λv F2 H2 x2 l=>w v F2 H2 (x1.trans x2) l
theorem zf:XA X ct ms [] [] aNil:=⟨_,xU,λρ ds e=>(by cases e;rfl),λF0 B F H ρ σ ds Q r e w=>by cases e;exact w [] F H (.refl r.fh) .nil⟩
theorem zc {es:List Expr}{ns:List Nat}{fs:Env->Option (List D)}(ha:XE X ct ms n a f)(hr:XA X ct ms es ns fs)(hs:aw (a::es) X.env=(false,bS a X.env)::aw es X.env:=by rfl):XA X ct ms (a::es) (n::ns) (aCons f fs):=by
 obtain⟨ta,pa,qa⟩:=ha
 obtain⟨tb,pb,lb,qb⟩:=hr
 refine⟨_,uz pa pb hs,λρ ds e=>(by obtain⟨x,xs,h1,h2,h3⟩:=dO e;cases h3;rw[aP,aP,lb _ _ h2]),λF0 B F H ρ σ ds Q r e w=>?_⟩
 obtain⟨x,xs,h1,h2,h3⟩:=dO e
 cases h3
 refine qa F0 B F H ρ σ x _ r h1 λv F1 H1 x1 l1=>?_
 exact qb F0 B F1 H1 ρ σ xs _ (r.ext x1) h2 λvs F2 H2 x2 l2=>w (v::vs) F2 H2 (x1.trans x2) (.cons (l1.mono x2.ff x2.hh) l2)
def yO (X:Cx)(ct:Nat->af)(ms:List Mo)(k:Nat)(es:List Expr)(f:Env->Option (List D)):Prop:=∃t,PA X es t/\(∀ρ ds,f ρ=some ds->ds.length=es.length)/\∀(F0 B F H:Hp) (ρ:Env) (σ:St) (ds:List D) (Q:List V->Hp->Prop),RS X.K ct F0 B ms F H ρ σ->f ρ=some ds ->
 (∀vs F' H' fp,fv F H F' H'->eG (Ow X.K ct F' H' k) ds vs fp->fp.Nodup->(∀a∈fp,H a=none)->Q vs H')->t σ H Q
theorem xi:yO X ct ms k [] aNil:=⟨_,xU,λρ ds e=>(by cases e;rfl),λF0 B F H ρ σ ds Q r e w=>by cases e;exact w [] F H [] (.refl r.fh) .nil bD λa z=>(by cases z)⟩
theorem zh {es:List Expr}{fs:Env->Option (List D)}(ha:XO X ct ms k a f)(hr:yO X ct ms k es fs)(hs:aw (a::es) X.env=(false,bS a X.env)::aw es X.env:=by rfl):yO X ct ms k (a::es) (aCons f fs):=by
 obtain⟨ta,pa,qa⟩:=ha
 obtain⟨tb,pb,lb,qb⟩:=hr
 refine⟨_,uz pa pb hs,λρ ds e=>(by obtain⟨x,xs,h1,h2,h3⟩:=dO e;cases h3;rw[aP,aP,lb _ _ h2]),λF0 B F H ρ σ ds Q r e w=>?_⟩
 obtain⟨x,xs,h1,h2,h3⟩:=dO e
 cases h3
 refine qa F0 B F H ρ σ x _ r h1 λv F1 H1 f1 x1 l1 n1 a1=>?_
 refine qb F0 B F1 H1 ρ σ xs _ (r.ext x1) h2 λvs F2 H2 f2 x2 l2 n2 a2=>w (v::vs) F2 H2 (f1++f2) (x1.trans x2) (.cons (l1.ext x2) l2) (bu.mpr ⟨n1,n2,λz hz y hy e=>?_⟩) λz hz=>?_
 ·subst e
  obtain⟨_,o,ho,_⟩:=l1.cells z hz
  rw[a2 z hy]at ho
  cases ho
 ·rcases aU.mp hz with hz|hz
  ·exact a1 z hz
  ·exact x1.hh.free (a2 z hz)
end
end L3
namespace L3
open PySem PySem.Spec L2
open PyProof.Rows hiding St
def C2:D->Option Bool
 |.bl b=>some b
 |_=>none
theorem qz {d:D}{b:Bool}(h:C2 d=some b):d=.bl b:=by cases d<;>simp[C2]at h;subst h;rfl
abbrev BF:=Env->Option Bool
def tb (f:EF):BF:=λρ=>(f ρ).bind C2
def bNot (f:BF):BF:=λρ=>(f ρ).bind λb=>some (!b)
def bAnd (f g:BF):BF:=λρ=>(f ρ).bind λb=>if b=true then g ρ else some false
def bOr (f g:BF):BF:=λρ=>(f ρ).bind λb=>if b=true then some true else g ρ
def eB (f:BF):EF:=λρ=>(f ρ).bind λb=>some (.bl b)
def eIf (c:BF)(f g:EF):EF:=λρ=>(c ρ).bind λb=>if b=true then f ρ else g ρ
section
variable {X:Cx}{ct:Nat->af}{ms:List Mo}{n m k:Nat}{a b c e:Expr}{f g h:EF}{p q:BF}{pos:cG}
theorem jk (he:XE X ct ms n e f)(hi:∀whole,pY e X.env whole=(do let v ← whole;fT e.pos;dm [v] (truthy v)):=by intro _;rfl):XT X ct ms e (tb f):=by
 obtain⟨t,pt,qt⟩:=he
 refine⟨_,Ux pt hi,λF0 B F H ρ σ b Q r e w=>?_⟩
 obtain⟨d,h1,h2⟩:=aW e
 rw[qz h2]at h1
 exact qt F0 B F H ρ σ _ _ r h1 λv F' H' x l=>⟨b,l.bl,w F' H' x⟩
theorem yg {op:kF}{r:R2}{o:D->D->Option D}(ho:fU X (cx op) r)(hs:kY X.K ct n m k r o)(ha:XE X ct ms n a f)(hb:XE X ct ms m b g)(hm:dG op b=false):XT X ct ms (.Compare a [op] [b] pos) (tb (e2 o f g)):=by
 obtain⟨ta,tb,pa,pb,q⟩:=ha.bin hb
 refine⟨_,TX ho pa pb hm,λF0 B F H ρ σ b Q rs e w=>?_⟩
 obtain⟨d,h0,h4⟩:=aW e
 rw[qz h4]at h0
 obtain⟨d1,d2,h1,h2,h3⟩:=dO h0
 exact q F0 B F H ρ σ d1 d2 _ rs h1 h2 λx y F' H' x1 l1 l2=>hs F' H' x y d1 d2 _ _ x1.fh l1 l2 h3 λv F2 H2 x2 l=>⟨b,l.bl,w F2 H2 (x1.trans x2)⟩
theorem XW.t (h:XW X ct ms e p):XT X ct ms e p:=by
 obtain⟨t,pt,qt⟩:=h
 exact⟨t,pt.pt,qt⟩
theorem CH (ha:XT X ct ms a p):XW X ct ms (.BoolOp .And [a] pos) p:=by
 obtain⟨t,pt,qt⟩:=ha
 exact⟨t,TL pt,qt⟩
theorem xX (ha:XT X ct ms a p):XW X ct ms (.BoolOp .Or [a] pos) p:=by
 obtain⟨t,pt,qt⟩:=ha
 exact⟨t,Uy pt,qt⟩
theorem xY {rest:List Expr}(ha:XT X ct ms a p)(hb:XW X ct ms (.BoolOp .And (b::rest) pos) q):XW X ct ms (.BoolOp .And (a::b::rest) pos) (bAnd p q):=by
 obtain⟨t,pt,qt⟩:=ha
 obtain⟨u,pu,qu⟩:=hb
 refine⟨_,Uz pt pu,λF0 B F H ρ σ r Q rs e w=>?_⟩
 obtain⟨x,h1,h2⟩:=aW e
 refine qt F0 B F H ρ σ x _ rs h1 λF1 H1 x1=>?_
 cases x with
 |true=>rw[if_pos rfl];exact qu F0 B F1 H1 ρ σ r _ (rs.ext x1) h2 λF2 H2 x2=>w F2 H2 (x1.trans x2)
 |false=>cases h2;rw[if_neg aY];exact w F1 H1 x1
theorem uD {rest:List Expr}(ha:XT X ct ms a p)(hb:XW X ct ms (.BoolOp .Or (b::rest) pos) q):XW X ct ms (.BoolOp .Or (a::b::rest) pos) (bOr p q):=by
 obtain⟨t,pt,qt⟩:=ha
 obtain⟨u,pu,qu⟩:=hb
 refine⟨_,VO pt pu,λF0 B F H ρ σ r Q rs e w=>?_⟩
 obtain⟨x,h1,h2⟩:=aW e
 refine qt F0 B F H ρ σ x _ rs h1 λF1 H1 x1=>?_
 cases x with
 |true=>cases h2;rw[if_pos rfl];exact w F1 H1 x1
 |false=>rw[if_neg aY];exact qu F0 B F1 H1 ρ σ r _ (rs.ext x1) h2 λF2 H2 x2=>w F2 H2 (x1.trans x2)
theorem t9 (ha:XT X ct ms a p):XT X ct ms (.UnaryOp .Not a pos) (bNot p):=by
 obtain⟨t,pt,qt⟩:=ha
 refine⟨_,UA pt,λF0 B F H ρ σ r Q rs e w=>?_⟩
 obtain⟨x,h1,h2⟩:=aW e
 cases h2
 exact qt F0 B F H ρ σ x _ rs h1 λF1 H1 x1=>w F1 H1 x1
theorem xB {op}(ha:XE X ct ms n a f):XE X ct ms k (.BoolOp op [a] pos) (eB (tb f)):=by
 obtain⟨t,pt,qt⟩:=ha
 refine⟨_,UB pt,λF0 B F H ρ σ r Q rs e w=>?_⟩
 obtain⟨y,h3,h4⟩:=aW e
 obtain⟨z,h5,h6⟩:=aW h3
 cases h4
 rw[qz h6]at h5
 exact qt F0 B F H ρ σ _ _ rs h5 λv F1 H1 x1 l=>w _ F1 H1 x1 (by rw[l.bl];exact Al.of (.bl _))
theorem xZ {rest:List Expr}(ha:XE X ct ms n a f)(hb:XE X ct ms k (.BoolOp .And (b::rest) pos) (eB q)):XE X ct ms k (.BoolOp .And (a::b::rest) pos) (eB (bAnd (tb f) q)):=by
 obtain⟨t,pt,qt⟩:=ha
 obtain⟨u,pu,qu⟩:=hb
 refine⟨_,UC pt pu,λF0 B F H ρ σ r Q rs e w=>?_⟩
 obtain⟨y,h3,h4⟩:=aW e
 obtain⟨x,h1,h2⟩:=aW h3
 obtain⟨z,h5,h6⟩:=aW h1
 cases h4
 rw[qz h6]at h5
 refine qt F0 B F H ρ σ _ _ rs h5 λv F1 H1 x1 l=>⟨x,l.bl,?_⟩
 cases x with
 |true=>rw[if_pos rfl];exact qu F0 B F1 H1 ρ σ _ _ (rs.ext x1) (show(q ρ).bind _=_ by rw[if_pos rfl]at h2;rw[h2];rfl) λv F2 H2 x2 l=>w v F2 H2 (x1.trans x2) l
 |false=>rw[if_neg aY]at h2 ⊢;cases h2;exact w _ F1 H1 x1 (Al.of (.bl _))
theorem Wr {rest:List Expr}(ha:XE X ct ms n a f)(hb:XE X ct ms k (.BoolOp .Or (b::rest) pos) (eB q)):XE X ct ms k (.BoolOp .Or (a::b::rest) pos) (eB (bOr (tb f) q)):=by
 obtain⟨t,pt,qt⟩:=ha
 obtain⟨u,pu,qu⟩:=hb
 refine⟨_,Wd pt pu,λF0 B F H ρ σ r Q rs e w=>?_⟩
 obtain⟨y,h3,h4⟩:=aW e
 obtain⟨x,h1,h2⟩:=aW h3
 obtain⟨z,h5,h6⟩:=aW h1
 cases h4
 rw[qz h6]at h5
 refine qt F0 B F H ρ σ _ _ rs h5 λv F1 H1 x1 l=>⟨x,l.bl,?_⟩
 cases x with
 |true=>rw[if_pos rfl]at h2 ⊢;cases h2;exact w _ F1 H1 x1 (Al.of (.bl _))
 |false=>rw[if_neg aY];exact qu F0 B F1 H1 ρ σ _ _ (rs.ext x1) (show(q ρ).bind _=_ by rw[if_neg aY]at h2;rw[h2];rfl) λv F2 H2 x2 l=>w v F2 H2 (x1.trans x2) l
theorem HV (hc:XT X ct ms c p)(ha:XE X ct ms k a f)(hb:XE X ct ms k b g):XE X ct ms k (.IfExp c a b pos) (eIf p f g):=by
 obtain⟨s,ps,qs⟩:=hc
 obtain⟨t,pt,qt⟩:=ha
 obtain⟨u,pu,qu⟩:=hb
 refine⟨_,R7 ps pt pu,λF0 B F H ρ σ r Q rs e w=>?_⟩
 obtain⟨x,h1,h2⟩:=aW e
 refine qs F0 B F H ρ σ x _ rs h1 λF1 H1 x1=>?_
 cases x with
 |true=>rw[if_pos rfl]at h2 ⊢;exact qt F0 B F1 H1 ρ σ _ _ (rs.ext x1) h2 λv F2 H2 x2 l=>w v F2 H2 (x1.trans x2) l
 |false=>rw[if_neg aY]at h2 ⊢;exact qu F0 B F1 H1 ρ σ _ _ (rs.ext x1) h2 λv F2 H2 x2 l=>w v F2 H2 (x1.trans x2) l
theorem jl {es:List Expr}{fs:Env->Option (List D)}{x1}(h:yO X ct ms k es fs)(hl:es.length<=1000:=by decide):XO X ct ms (k+1) (.Tuple es x1 pos) (λρ=>(fs ρ).bind λds=>some (.tup ds)):=by
 obtain⟨t,pt,lt,qt⟩:=h
 refine⟨_,Mc pt,λF0 B F H ρ σ r Q rs e w=>?_⟩
 obtain⟨ds,h1,h2⟩:=aW e
 cases h2
 refine qt F0 B F H ρ σ ds _ rs h1 λvs F1 H1 fp x1 l nd hf=>⟨?_,λp hp=>?_⟩
 ·rw[←l.length,lt _ _ h1];exact small hl
 ·have x2:=fv.newS x1.fh hp (.tup vs)
  exact w _ _ _ fp (x1.trans x2) (.inr (.tup zw (l.mono λ_ _ _ _ o=>o.ext x2))) nd hf
theorem eG.cellsOf {K:ae}{F H:Hp}{ds:List D}{vs:List V}{fp:List af}(l:eG (Ow K ct F H k) ds vs fp):∀a∈fp,F a=none/\∃o,H a=some o/\jD o:=eG.cells0 (λd v f q=>Ow.cells q) l
theorem LO {K:ae}{F H:Hp}{ds:List D}{vs:List V}{fp:List af}{p:af}(s:bO F H)(l:eG (Ow K ct F H k) ds vs fp)(hp:H p=none):Ow K ct F (upd H p (.lst vs)) (k+1) (.lst ds) (.ref p) (p::fp)/\(fp.Nodup->(p::fp).Nodup) :=
 ⟨.inr (.lst (s.free hp) zw (l.mono λ_ _ _ _ o=>o.ext (fv.newO s hp _))),λnd=>bW.mpr ⟨λz=>(by
  obtain⟨_,o,ho,_⟩:=eG.cellsOf l p z
  rw[hp]at ho
  cases ho),nd⟩⟩
theorem jm {es:List Expr}{fs:Env->Option (List D)}(h:yO X ct ms k es fs)(hl:es.length<=1000:=by decide):XO X ct ms (k+1) (.List es pos) (λρ=>(fs ρ).bind λds=>some (.lst ds)):=by
 obtain⟨t,pt,lt,qt⟩:=h
 refine⟨_,Vo pt,λF0 B F H ρ σ r Q rs e w=>?_⟩
 obtain⟨ds,h1,h2⟩:=aW e
 cases h2
 refine qt F0 B F H ρ σ ds _ rs h1 λvs F1 H1 fp x1 l nd hf=>⟨?_,λp hp=>?_⟩
 ·rw[←l.length,lt _ _ h1];exact small hl
 ·obtain⟨o,n2⟩:=LO x1.fh l hp
  refine w _ _ _ (p::fp) (x1.trans (fv.newO x1.fh hp _)) o (n2 nd) λz hz=>?_
  rcases aA.mp hz with rfl|hz
  ·exact x1.hh.free hp
  ·exact hf z hz
theorem SU:XO X ct ms (k+1) (.Dict [] [] pos) (eC (.dK [] [])):=by
 refine⟨_,SJ,λF0 B F H ρ σ r Q rs e w p hp=>?_⟩
 cases e
 refine w _ F _ [p] (fv.newO rs.fh hp _) (.inr (rF.dK (vs:=[]) (rs.fh.free hp) zw rfl .nil)) (by simp) λz hz=>?_
 rw[aJ]at hz;subst hz;exact hp
theorem Ld:XO X ct ms (k+1) (.Dict [] [] pos) (eC (.dT [] [])):=by
 refine⟨_,SK,λF0 B F H ρ σ r Q rs e w p hp=>?_⟩
 cases e
 refine w _ F _ [p] (fv.newO rs.fh hp _) (.inr (rF.dT (vs:=[]) (rs.fh.free hp) zw rfl .nil)) (by simp) λz hz=>?_
 rw[aJ]at hz;subst hz;exact hp
def hJ (K:ae)(ct:Nat->af)(pm:List Nat)(rk:Nat)(m:List D->Option D):Sp:=λvs H Q _=>∃(F:Hp) (ds:List D) (d:D),bO F H/\iZ K ct F H pm ds vs/\m ds=some d /\
 ∀v F' H' fp,fv F H F' H'->Ow K ct F' H' rk d v fp->fp.Nodup->(∀a∈fp,H a=none)->Q v H'
theorem hJ.len {K:ae}{ct:Nat->af}{pm:List Nat}{rk:Nat}{m:List D->Option D}{ps:List aR}(h:pm.length=ps.length):∀vs H Q E,hJ K ct pm rk m vs H Q E->vs.length=ps.length:=by
 rintro vs H Q E ⟨F,ds,d,_,l,_⟩
 rw[l.length,h]
variable {kk:Nat}{fa:af}{fd:aS}{ps:List aR}{pm:List Nat}{rk:Nat}{mf:List D->Option D}{x:aR}{pp:cG}
theorem Ht {es:List Expr}{ns nd:List Nat}{fs:Env->Option (List D)}{hU:List V}{ky:List D}{lc:List aa}(Fn:cS X.prog X.w X.K X.mg X.base fE kk fa fd ps (hJ X.K ct (ns++nd) rk mf))(hr:ed kk X.A)(hg:Gl X x)(hm:X.mg x=some (.ref fa))(hk:ax X.K (.ref fa)=true)
  (hb:bY X.K fd ps lc) (hd:bR hU lc) (oA:∀F G,iZ X.K ct F G nd ky hU) (ha:XA X ct ms (e::es) ns fs)
  (lg:(x==("__debug__":aR))=false:=by decide) (he:aw (e::es) X.env=(false,bS e X.env)::aw es X.env:=by rfl) (ip:(cD pos (aw es X.env)).any (·.1)=false:=by rfl) :
  XO X ct ms rk (.Call (.Name x pp) (e::es) [] pos) (λρ=>(fs ρ).bind λds=>mf (ds++ky)):=by
 obtain⟨t,pt,_,qt⟩:=ha
 refine⟨_,T2 Fn hr hg hm hk hb hd nE pt lg he ip,λF0 B F H ρ σ r Q rs e w=>?_⟩
 obtain⟨ds,h1,h2⟩:=aW e
 refine qt F0 B F H ρ σ ds _ rs h1 λvs F1 H1 x1 l=>⟨F1,ds++ky,r,x1.fh,iZ.append (oA F1 H1) l,h2,λv F2 H2 fp x2 o nd hf=>?_⟩
 exact w v F2 H2 fp (x1.trans x2) o nd λz hz=>x1.hh.free (hf z hz)
theorem vq {es:List Expr}{ns:List Nat}{fs:Env->Option (List D)}{id:String}{r:List V->Hp->VK->Prop}{op:List D->Option D}(hc:ez X (.builtin id) r)(hs:uJ X.K ct ns k r op)(hg:Gl X x)(hm:X.mg x=none)(hv:bU x=some (.builtin id))(ha:XA X ct ms (e::es) ns fs)
  (hn:x≠"__name__":=by decide) (lg:(x==("__debug__":aR))=false:=by decide) (he:aw (e::es) X.env=(false,bS e X.env)::aw es X.env:=by rfl) (ip:(cD pos (aw es X.env)).any (·.1)=false:=by rfl) :
  XE X ct ms k (.Call (.Name x pp) (e::es) [] pos) (eN op fs):=by
 obtain⟨t,pt,_,qt⟩:=ha
 refine⟨_,DL hc hg hm hv pt hn lg he ip,λF0 B F H ρ σ r Q rs e w=>?_⟩
 obtain⟨ds,h1,h2⟩:=aW e
 exact qt F0 B F H ρ σ ds _ rs h1 λvs F1 H1 x1 l=>hs F1 H1 vs ds r Q x1.fh l h2 λv F2 H2 x2 l2=>w v F2 H2 (x1.trans x2) l2
theorem SV {es:List Expr}{ns:List Nat}{fs:Env->Option (List D)}{id:String}{r:List V->Hp->VK->Prop}{op:List D->Option D}(hc:ez X (.builtin id) r)(hs:pJ X.K ct ns k r op)(hg:Gl X x)(hm:X.mg x=none)(hv:bU x=some (.builtin id))(ha:XA X ct ms (e::es) ns fs)
  (hn:x≠"__name__":=by decide) (lg:(x==("__debug__":aR))=false:=by decide) (he:aw (e::es) X.env=(false,bS e X.env)::aw es X.env:=by rfl) (ip:(cD pos (aw es X.env)).any (·.1)=false:=by rfl) :
  XO X ct ms k (.Call (.Name x pp) (e::es) [] pos) (eN op fs):=by
 obtain⟨t,pt,_,qt⟩:=ha
 refine⟨_,DL hc hg hm hv pt hn lg he ip,λF0 B F H ρ σ r Q rs e w=>?_⟩
 obtain⟨ds,h1,h2⟩:=aW e
 exact qt F0 B F H ρ σ ds _ rs h1 λvs F1 H1 x1 l=>hs F1 H1 vs ds r Q x1.fh l h2 λv F2 H2 fp x2 l2 nd hf=>w v F2 H2 fp (x1.trans x2) l2 nd λz hz=>x1.hh.free (hf z hz)
theorem ur {es:List Expr}{ns:List Nat}{fs:Env->Option (List D)}{id:String}{r:List V->Hp->VK->Prop}{op:List D->Option D}(hc:ez X (.type id) r)(hs:pJ X.K ct ns k r op)(hg:Gl X x)(hm:X.mg x=none)(hv:bU x=some (.type id))(ha:XA X ct ms (e::es) ns fs)
  (hn:x≠"__name__":=by decide) (lg:(x==("__debug__":aR))=false:=by decide) (he:aw (e::es) X.env=(false,bS e X.env)::aw es X.env:=by rfl) (ip:(cD pos (aw es X.env)).any (·.1)=false:=by rfl) :
  XO X ct ms k (.Call (.Name x pp) (e::es) [] pos) (eN op fs):=by
 obtain⟨t,pt,_,qt⟩:=ha
 refine⟨_,RP hc hg hm hv pt hn lg he ip,λF0 B F H ρ σ r Q rs e w=>?_⟩
 obtain⟨ds,h1,h2⟩:=aW e
 exact qt F0 B F H ρ σ ds _ rs h1 λvs F1 H1 x1 l=>hs F1 H1 vs ds r Q x1.fh l h2 λv F2 H2 fp x2 l2 nd hf=>w v F2 H2 fp (x1.trans x2) l2 nd λz hz=>x1.hh.free (hf z hz)
def cT (cs:List Nat)(x:aR):D->Option D
 |.obj c ns ds=>if cs.contains c=true then(ns.zip ds).lookup x else none
 |_=>none
theorem Kx {R:D->V->Prop}{x:aR}{d:D}:∀{ns:List aR} {ds:List D} {vs:List V},Pr R ds vs->(ns.zip ds).lookup x=some d->∃v,(ns.zip vs).lookup x=some v/\R d v
 |[],_,_,_,e=>by simp at e
 |_::_,_,_,.nil,e=>by simp at e
 |y::ns,_,_,.cons h t,e=>by
  rw[eW,bn]at e
  rw[eW,bn]
  cases q:x==y with
  |true=>rw[q]at e;cases e;exact⟨_,rfl,h⟩
  |false=>rw[q]at e;exact Kx t e
theorem Hh {vs:List V}{x:aR}:∀{ns:List aR} {vs:List V},ns.contains x=false->(ns.zip vs).lookup x=none
 |[],_,_=>by simp
 |_::_,[],_=>by simp
 |y::ns,_::vs,h=>by
  rw[pf,n4]at h
  rw[eW,bn,h.1]
  exact Hh (vs:=vs) h.2
theorem ym {x:aR}{cs:List Nat}(he:XE X ct ms n e f)(hc:∀c∈cs,kX X.K (ct c)/\e8 X.K (ct c) x)(hb:e9 e x X.env (bS e X.env)=bS e X.env):XE X ct ms (n-1) (.Attribute e x pos) (e1 (cT cs x) f):=by
 obtain⟨t,pt,qt⟩:=he
 refine⟨_,Vm pt hb,λF0 B F H ρ σ r Q rs e w=>?_⟩
 obtain⟨o,h1,h2⟩:=aW e
 refine qt F0 B F H ρ σ o _ rs h1 λv F1 H1 x1 l=>?_
 cases o with
 |obj c ns ds=>
  obtain⟨a,dx,vs,rfl,ha,hl,tJ⟩:=l.obj x1.fh
  unfold cT at h2
  dsimp only at h2
  by_cases rJ:cs.contains c=true
  ·rw[if_pos rJ]at h2
   obtain⟨u,hu,du⟩:=Kx tJ h2
   have hh:=hc c (by simpa using rJ)
   exact⟨a,_,dx,_,u,rfl,ha,hh.1,hh.2,hu,w u F1 H1 x1 du⟩
  ·rw[if_neg rJ]at h2;cases h2
 |_=>cases h2
def kc (c0:Nat)(m:aR)(mf:List D->Option D)(o:D)(ds:List D):Option D:=match o with
 |.obj c ns _=>if c=c0/\ns.contains m=false then mf (o::ds)else none
 |_=>none
theorem Ug {o:Expr}{x:aR}{dE:cG}{pl:nj Bool}{es:List Expr}{ns nd:List Nat}{fs:Env->Option (List D)}{hU:List V}{ky:List D}{lc:List aa}{c0:Nat}(ho:XE X ct ms n o f)(c:kX X.K (ct c0))(hm:ou X.K (ct c0) x fa)(Fn:cS X.prog X.w X.K X.mg X.base fE kk fa fd ps (hJ X.K ct (n::(ns++nd)) rk mf))(hr:ed kk X.A)
  (hb:bY X.K fd ps lc) (hd:bR hU lc) (oA:∀F G,iZ X.K ct F G nd ky hU) (ha:XA X ct ms (e::es) ns fs)
  (mQ:aw (e::es) X.env=(false,bS e X.env)::aw es X.env:=by rfl) (ip:(cD pos (aw es X.env)).any (·.1)=false:=by rfl)
  (ht:bS (.Call (.Attribute o x dE) (e::es) [] pos) X.env=(do
   let ov ← bS o X.env
   fT dE.atName
   let(f,first) ← dm [ov] (gr ov x pl)
   iP pos f first (cD pos (aw (e::es) X.env)) (fk pos (dH [] X.env))):=by rfl) :
  XO X ct ms rk (.Call (.Attribute o x dE) (e::es) [] pos) (λρ=>(f ρ).bind λo=>(fs ρ).bind λds=>kc c0 x mf o (ds++ky)):=by
 obtain⟨u,pu,qu⟩:=ho
 obtain⟨t,pt,_,qt⟩:=ha
 refine⟨_,T3 pu c hm Fn hr hb hd nE pt mQ ip ht,λF0 B F H ρ σ r Q rs e w=>?_⟩
 obtain⟨o,ds,h1,h2,h3⟩:=dO e
 refine qu F0 B F H ρ σ o _ rs h1 λv F1 H1 x1 l=>?_
 cases o with
 |obj c1 Dx kP=>
  unfold kc at h3
  dsimp only at h3
  split at h3
  ·rename_i hc
   obtain⟨rfl,p5⟩:=hc
   obtain⟨a,dx,vs,rfl,ha,hl,tJ⟩:=l.obj x1.fh
   refine⟨a,dx,_,rfl,ha,Hh (vs:=vs) p5,?_⟩
   refine qt F0 B F1 H1 ρ σ ds _ (rs.ext x1) h2 λus F2 H2 x2 l2=>⟨F2,_,r,x2.fh,.cons (l.mono x2.ff x2.hh) (iZ.append (oA F2 H2) l2),h3,λv F3 H3 fp x3 o nd hf=>?_⟩
   exact w v F3 H3 fp ((x1.trans x2).trans x3) o nd λz hz=>(x1.trans x2).hh.free (hf z hz)
  ·cases h3
 |_=>cases h3
theorem DN {o:Expr}{x:aR}{dE:cG}{pl:nj Bool}{nd:List Nat}{hU:List V}{ky:List D}{lc:List aa}{c0:Nat}(ho:XE X ct ms n o f)(c:kX X.K (ct c0))(hm:ou X.K (ct c0) x fa)(Fn:cS X.prog X.w X.K X.mg X.base fE kk fa fd ps (hJ X.K ct (n::nd) rk mf))(hr:ed kk X.A)
  (hb:bY X.K fd ps lc) (hd:bR hU lc) (oA:∀F G,iZ X.K ct F G nd ky hU)
  (ht:bS (.Call (.Attribute o x dE) [] [] pos) X.env=(do
   let ov ← bS o X.env
   fT dE.atName
   let(f,first) ← dm [ov] (gr ov x pl)
   iP pos f first (cD pos (aw [] X.env)) (fk pos (dH [] X.env))):=by rfl) :
  XO X ct ms rk (.Call (.Attribute o x dE) [] [] pos) (λρ=>(f ρ).bind λo=>kc c0 x mf o ky):=by
 obtain⟨u,pu,qu⟩:=ho
 refine⟨_,SC pu c hm Fn hr hb hd nE ht,λF0 B F H ρ σ r Q rs e w=>?_⟩
 obtain⟨o,h1,h3⟩:=aW e
 refine qu F0 B F H ρ σ o _ rs h1 λv F1 H1 x1 l=>?_
 cases o with
 |obj c1 Dx kP=>
  unfold kc at h3
  dsimp only at h3
  split at h3
  ·rename_i hc
   obtain⟨rfl,p5⟩:=hc
   obtain⟨a,dx,vs,rfl,ha,hl,tJ⟩:=l.obj x1.fh
   refine⟨a,dx,_,rfl,ha,Hh (vs:=vs) p5,F1,_,r,x1.fh,.cons l (oA F1 H1),h3,λv F3 H3 fp x3 o nd hf=>?_⟩
   exact w v F3 H3 fp (x1.trans x3) o nd λz hz=>x1.hh.free (hf z hz)
  ·cases h3
 |_=>cases h3
end
end L3
namespace L3
open PySem PySem.Spec L2
open PyProof.Rows hiding St
inductive Out where
 |nx (ρ:Env)|rt (d:D)|bk (ρ:Env)|ct (ρ:Env)
abbrev SF:=Env->Option Out
def lY (K:ae)(cl:Nat->af)(F0 B:Hp)(ms:List Mo)(rk:Nat)(E:mC):Out->Prop
 |.nx ρ=>∀σ F H,RS K cl F0 B ms F H ρ σ->E.nx σ H
 |.bk ρ=>∀σ F H,RS K cl F0 B ms F H ρ σ->E.bk σ H
 |.ct ρ=>∀σ F H,RS K cl F0 B ms F H ρ σ->E.ct σ H
 |.rt d=>∀v F H fp,bO F0 F->bO B H->bO F H->(∀a o,B a=some o->jD o->F0 a=none->F a=none)->Ow K cl F H rk d v fp->fp.Nodup->(∀a∈fp,B a=none)->E.rt v H
section
variable (X:Cx)(ct:Nat->af)(ms:List Mo)(rk:Nat)
def XS (st:cp)(f:SF):Prop:=∃t,PS X st t/\∀(F0 B F H:Hp) (ρ:Env) (σ:St) (o:Out) (E:mC),RS X.K ct F0 B ms F H ρ σ->f ρ=some o->lY X.K ct F0 B ms rk E o->t E σ H
def qE (st:List cp)(f:SF):Prop:=∃t,oX X st t/\∀(F0 B F H:Hp) (ρ:Env) (σ:St) (o:Out) (E:mC),RS X.K ct F0 B ms F H ρ σ->f ρ=some o->lY X.K ct F0 B ms rk E o->t E σ H
end
def sSkip:SF:=λρ=>some (.nx ρ)
def sSeq (f g:SF):SF:=λρ=>(f ρ).bind λo=>match o with
 |.nx ρ'=>g ρ'
 |o=>some o
def sIf (c:BF)(f g:SF):SF:=λρ=>(c ρ).bind λb=>if b=true then f ρ else g ρ
def sSet (i:Nat)(f:EF):SF:=λρ=>(f ρ).bind λd=>some (.nx (ρ.set i (some d)))
def sRet (f:EF):SF:=λρ=>(f ρ).bind λd=>some (.rt d)
def sRetN:SF:=λ_=>some (.rt .non)
def sDrop (f:EF):SF:=λρ=>(f ρ).bind λ_=>some (.nx ρ)
def lz:SF:=λ_=>none
def og:Nat:=2 ^ 9000
def ke (c:BF)(b:SF):Nat->SF
 |0,_=>none
 |n+1,ρ=>(c ρ).bind λt=>if t=true then(b ρ).bind λo=>match o with
   |.nx ρ'=>ke c b n ρ'
   |.ct ρ'=>ke c b n ρ'
   |.bk ρ'=>some (.nx ρ')
   |.rt d=>some (.rt d)
  else some (.nx ρ)
def oN (c:BF)(b:SF):SF:=ke c b og
def gj (g:D->Env->Option Env)(b:SF):List D->SF
 |[],ρ=>some (.nx ρ)
 |d::ds,ρ=>(g d ρ).bind λρ1=>(b ρ1).bind λo=>match o with
   |.nx ρ'=>gj g b ds ρ'
   |.ct ρ'=>gj g b ds ρ'
   |.bk ρ'=>some (.nx ρ')
   |.rt d=>some (.rt d)
def sFor (f:Env->Option (List D))(g:D->Env->Option Env)(b:SF):SF:=λρ=>(f ρ).bind λds=>gj g b ds ρ
section
variable {X:Cx}{ct:Nat->af}{ms:List Mo}{rk n m k:Nat}{st:cp}{rest:List cp}{a b c e:Expr}{f g h:EF}{p q:BF}{u w:SF}{pos:cG}
theorem yf:qE X ct ms rk [] sSkip:=⟨_,TN,λF0 B F H ρ σ o E rs e w=>by cases e;exact w σ F H rs⟩
theorem ze (h1:XS X ct ms rk st u)(h2:qE X ct ms rk rest w):qE X ct ms rk (st::rest) (sSeq u w):=by
 obtain⟨t,pt,qt⟩:=h1
 obtain⟨t2,kJ,pQ⟩:=h2
 refine⟨_,R8 pt kJ,λF0 B F H ρ σ o E rs e z=>?_⟩
 obtain⟨o1,e1,e2⟩:=aW e
 refine qt F0 B F H ρ σ o1 _ rs e1 ?_
 cases o1 with
 |nx ρ'=>exactλσ' F' H' Pw=>pQ F0 B F' H' ρ' σ' o E Pw e2 z
 |rt d=>cases e2;exact z
 |bk ρ'=>cases e2;exact z
 |ct ρ'=>cases e2;exact z
theorem zg (h1:XS X ct ms rk st u):qE X ct ms rk [st] u:=by
 obtain⟨t,pt,qt⟩:=h1
 exact⟨_,TQ pt,qt⟩
theorem DS:XS X ct ms rk st lz:=⟨_,R9,λF0 B F H ρ σ o E rs e w=>by cases e⟩
theorem yk (he:XO X ct ms rk e f):XS X ct ms rk (.Return (some e) pos) (sRet f):=by
 obtain⟨t,pt,qt⟩:=he
 refine⟨_,L8 pt,λF0 B F H ρ σ o E rs e w=>?_⟩
 obtain⟨d,h1,h2⟩:=aW e
 cases h2
 refine qt F0 B F H ρ σ d _ rs h1 λv F' H' fp x l nd hf=>?_
 have r:=rs.ext x
 exact w v F' H' fp r.f0 r.bh r.fh r.nf l nd λz hz=>rs.bh.free (hf z hz)
theorem wt {JV rP:List cp}(hc:XT X ct ms c p)(h1:qE X ct ms rk JV u)(h2:qE X ct ms rk rP w):XS X ct ms rk (.If c JV rP pos) (sIf p u w):=by
 obtain⟨t,pt,qt⟩:=hc
 obtain⟨t1,qZ,rf⟩:=h1
 obtain⟨t2,kJ,pQ⟩:=h2
 refine⟨_,We pt qZ kJ,λF0 B F H ρ σ o E rs e z=>?_⟩
 obtain⟨x,h1,h2⟩:=aW e
 refine qt F0 B F H ρ σ x _ rs h1 λF1 H1 x1=>?_
 cases x with
 |true=>rw[if_pos rfl]at h2 ⊢;exact rf F0 B F1 H1 ρ σ o E (rs.ext x1) h2 z
 |false=>rw[if_neg aY]at h2 ⊢;exact pQ F0 B F1 H1 ρ σ o E (rs.ext x1) h2 z
theorem RS.put {K:ae}{F0 B F H F' H':Hp}{ρ:Env}{σ:St}{i:Nat}(rs:RS K ct F0 B ms F H ρ σ)(hm:ms[i]?=some (.ow k)) :
  ∃f1 fr:List af,f1.Nodup/\(∀a∈f1,B a=none)/\(∀a∈f1,a∉fr)/\(∀d,ρ[i]?=some (some d)->∃v,σ[i]?=some (some v)/\Ow K ct F H k d v f1)/\(∀a∈fr,F a=none/\∃o,H a=some o/\jD o) /\
   ∀(F' H':Hp) (d':D) (v':V) (f':List af),bO F F'->bO B H'->bO F' H'->(∀a o,B a=some o->jD o->F0 a=none->F' a=none)->(∀a∈fr,H' a=H a/\F' a=none)->Ow K ct F' H' k d' v' f'->f'.Nodup->(∀a∈f',a∉fr)->(∀a∈f',B a=none) ->
    RS K ct F0 B ms F' H' (ρ.set i (some d')) (σ.set i (some v')):=by
 obtain⟨fp,sl,nd,hb⟩:=rs.sl
 obtain⟨f1,fr,i1,i2,i3,i4,i5⟩:=sl.put hm
 obtain⟨n1,n2,n3⟩:=i3 nd
 refine⟨f1,fr,n1,λa z=>hb a (i1 a z),n3,i4,λa z=>sl.cells a (i2 a z),λF' H' d' v' f' s1 s2 s3 s4 kf o OD dj NO=>?_⟩
 obtain⟨oz,q1,q2,q3⟩:=i5 F' H' d' v' f' s1 kf o
 exact⟨rs.f0.trans s1,s2,s3,s4,oz,q1,q3 OD n2 dj,λa z=>(q2 a z).elim (NO a) λz=>hb a (i2 a z)⟩
theorem RS.set {K:ae}{F0 B F H F' H':Hp}{ρ:Env}{σ:St}{i:Nat}{d:D}{v:V}{fp:List af}(rs:RS K ct F0 B ms F H ρ σ)(hm:ms[i]?=some (.ow k))(x:fv F H F' H')(o:Ow K ct F' H' k d v fp)(nd:fp.Nodup)(hf:∀a∈fp,H a=none) :
  RS K ct F0 B ms F' H' (ρ.set i (some d)) (σ.set i (some v)):=by
 have r:=rs.ext x
 obtain⟨f1,fr,n1,b1,n3,i4,cf,put⟩:=rs.put (F':=F') (H':=H') hm
 refine put F' H' d v fp x.ff r.bh x.fh r.nf (λa z=>?_) o nd (λa z zb=>?_) λa z=>rs.bh.free (hf a z)
 ·obtain⟨hn,o,ho,nt⟩:=cf a z
  exact⟨(x.hh _ _ ho).trans ho.symm,x.nf a o ho nt hn⟩
 ·obtain⟨hn,o,ho,nt⟩:=cf a zb
  rw[hf a z]at ho
  cases ho
theorem Va {i:Nat}{x:aR}{pos':cG}(hm:ms[i]?=some (.ow k))(hN:X.N.Nodup)(hi:X.N[i]?=some x)(hx:Loc X.env.scope x)(he:XO X ct ms k e f)(hs:eE e (some (.Name x pos')) pos.line X.env=pure false:=by rfl)
  (hf:X.fn x=true\/X.env.scope.names.lookup x=some .local:=by first|exact .inl rfl|exact .inr rfl|assumption):XS X ct ms rk (.Assign [.Name x pos'] e pos) (sSet i f):=by
 obtain⟨t,pt,qt⟩:=he
 refine⟨_,UD hN hi hx pt hs hf,λF0 B F H ρ σ o E rs e w=>?_⟩
 obtain⟨d,h1,h2⟩:=aW e
 cases h2
 exact qt F0 B F H ρ σ d _ rs h1 λv F' H' fp x l nd hf=>w _ F' H' (rs.set hm x l nd hf)
theorem SX (hc:XT X ct ms c p)(hb:qE X ct ms rk rest u)(hp:cC (aV X.prog X.w) X.A X.env X.xe):XS X ct ms rk (.While c rest [] pos) (oN p u):=by
 obtain⟨t,pt,qt⟩:=hc
 obtain⟨t1,qZ,rf⟩:=hb
 refine⟨_,Sd hp pt qZ,λF0 B F H ρ σ o E rs e z=>?_⟩
 refine⟨λm σ H=>∃F ρ,RS X.K ct F0 B ms F H ρ σ/\ke p u m ρ=some o,⟨og,F,ρ,rs,e⟩,?_⟩
 rintro m σ H ⟨F,ρ,rs,e⟩
 cases m with
 |zero=>cases e
 |succ m=>
  obtain⟨x,h1,h2⟩:=aW e
  refine qt F0 B F H ρ σ x _ rs h1 λF1 H1 x1=>?_
  cases x with
  |true=>
   rw[if_pos rfl]at h2 ⊢
   obtain⟨o1,h3,h4⟩:=aW h2
   refine⟨λσ H=>∃F ρ,RS X.K ct F0 B ms F H ρ σ/\ke p u m ρ=some o,λσ' H' h=>⟨m,ig m,h⟩,?_⟩
   refine rf F0 B F1 H1 ρ σ o1 _ (rs.ext x1) h3 ?_
   cases o1 with
   |nx ρ'=>exactλσ' F' H' r=>⟨F',ρ',r,h4⟩
   |ct ρ'=>exactλσ' F' H' r=>⟨F',ρ',r,h4⟩
   |bk ρ'=>cases h4;exact z
   |rt d=>cases h4;exact z
  |false=>
   rw[if_neg aY]at h2 ⊢
   cases h2
   exact z σ F1 H1 (rs.ext x1)
theorem RS.re {K:ae}{F0 B F H:Hp}{ρ:Env}{σ:St}(r:RS K ct F0 B ms F H ρ σ):RS K ct F B ms F H ρ σ:=⟨.refl _,r.bh,r.fh,λ_ _ _ _ h=>h,r.sl⟩
theorem RS.back {K:ae}{F0 B F H F' H':Hp}{ρ ρ':Env}{σ σ':St}(r:RS K ct F0 B ms F H ρ σ)(q:RS K ct F B ms F' H' ρ' σ'):RS K ct F0 B ms F' H' ρ' σ' :=
 ⟨r.f0.trans q.f0,q.bh,q.fh,λa o h t n=>q.nf a o h t (r.nf a o h t n),q.sl⟩
theorem lY.re {K:ae}{F0 B F H:Hp}{ρ:Env}{σ:St}{E:mC}{o:Out}(r:RS K ct F0 B ms F H ρ σ)(z:lY K ct F0 B ms rk E o):lY K ct F B ms rk E o:=by
 cases o with
 |nx ρ=>exactλσ' F' H' q=>z σ' F' H' (r.back q)
 |bk ρ=>exactλσ' F' H' q=>z σ' F' H' (r.back q)
 |ct ρ=>exactλσ' F' H' q=>z σ' F' H' (r.back q)
 |rt d=>exactλv F' H' fp s1 s2 s3 s4=>z v F' H' fp (r.f0.trans s1) s2 s3 λa o h t n=>s4 a o h t (r.nf a o h t n)
def pH (K:ae)(ct:Nat->af)(F B:Hp)(n:Nat)(J:It)(ds:List D):Prop :=
 ∀(i:Nat) (F' H':Hp),bO F F'->bO B H'->bO F' H'->(∀d,ds[i]?=some d->J.go i H'/\∀x H2,J.yld i H' x H2->∃F2,fv F' H' F2 H2/\Al K ct F2 B n d x)/\(ds.length<=i->J.stop i H')
def XI (X:Cx)(ct:Nat->af)(ms:List Mo)(n:Nat)(tg iter:Expr)(f:Env->Option (List D)):Prop:=∃wi,PI X tg iter wi/\∀(F0 B F H:Hp) (ρ:Env) (σ:St) (ds:List D) (R:It->Hp->Prop),RS X.K ct F0 B ms F H ρ σ->f ρ=some ds ->
 (∀J F' H',fv F H F' H'->pH X.K ct F' B n J ds->R J H')->wi σ H R
def rW (X:Cx)(ct:Nat->af)(ms:List Mo)(n:Nat)(tg iter:Expr)(f:Env->Option (List D)):Prop:=∃wi,PI X tg iter wi/\∀(F0 B F H:Hp) (ρ:Env) (σ:St) (ds:List D) (R:It->Hp->Prop),RS X.K ct F0 B ms F H ρ σ->f ρ=some ds ->
 (∀J F' H',fv F H F' H'->pH X.K ct F' H' n J ds->R J H')->wi σ H R
def XG (X:Cx)(ct:Nat->af)(ms:List Mo)(n:Nat)(tg:Expr)(g:D->Env->Option Env):Prop:=∃t,PG X tg t/\∀(F0 B F H:Hp) (ρ ρ':Env) (σ:St) (d:D) (v:V) (Q:St->Hp->Prop),RS X.K ct F0 B ms F H ρ σ->Al X.K ct F B n d v->g d ρ=some ρ' ->
 (∀σ',RS X.K ct F0 B ms F H ρ' σ'->Q σ' H)->t v σ H Q
theorem vo {tg iter:Expr}{fi:Env->Option (List D)}{gg:D->Env->Option Env}(hi:XI X ct ms n tg iter fi)(hg:XG X ct ms n tg gg)(hb:qE X ct ms rk rest u)(hp:cC (aV X.prog X.w) X.A X.env X.xe)(hc:X.calm=true)
  (hs:∀x,dB iter X.env x=pure x:=by intro _;rfl):XS X ct ms rk (.For tg iter rest [] pos) (sFor fi gg u):=by
 obtain⟨wi,pi,qi⟩:=hi
 obtain⟨JZ,pg,qg⟩:=hg
 obtain⟨t1,qZ,rf⟩:=hb
 refine⟨_,Vg hp hc pi pg qZ hs,λF0 B F H ρ σ o E rs e z=>?_⟩
 obtain⟨ds,h1,h2⟩:=aW e
 refine qi F0 B F H ρ σ ds _ rs h1 λJ F1 H1 x1 ok=>?_
 refine⟨λi m σ H=>m=ds.length-i/\i<=ds.length/\∃F ρ,bO F1 F/\RS X.K ct F0 B ms F H ρ σ/\gj gg u (ds.drop i) ρ=some o,⟨ds.length,rfl,cw _,F1,ρ,.refl _,rs.ext x1,h2⟩,?_⟩
 rintro i m σ H ⟨rfl,N7,F,ρ,s1,rs,e⟩
 obtain⟨k1,k2⟩:=ok i F H s1 rs.bh rs.fh
 by_cases kR:i<ds.length
 ·right
  have hd:ds[i]?=some ds[i]:=by simp[kR]
  obtain⟨go,yl⟩:=k1 _ hd
  rw[lT kR]at e
  obtain⟨ρ1,h3,h4⟩:=aW e
  obtain⟨o1,h5,h6⟩:=aW h4
  refine⟨go,λσ H=>i+1<=ds.length/\∃F ρ,bO F1 F/\RS X.K ct F0 B ms F H ρ σ/\gj gg u (ds.drop (i+1)) ρ=some o,λσ' H' h=>⟨ds.length-(i+1),by omega,rfl,h⟩,λx H2 y=>?_⟩
  obtain⟨F2,x2,l⟩:=yl x H2 y
  refine qg F0 B F2 H2 ρ ρ1 σ _ x _ (rs.ext x2) l h3 λσ' r=>?_
  have s2:=s1.trans x2.ff
  refine rf F2 B F2 H2 ρ1 σ' o1 _ r.re h5 ?_
  cases o1 with
  |nx ρ'=>exactλσ' F' H' q=>⟨kR,F',ρ',s2.trans q.f0,r.back q,h6⟩
  |ct ρ'=>exactλσ' F' H' q=>⟨kR,F',ρ',s2.trans q.f0,r.back q,h6⟩
  |bk ρ'=>cases h6;exactλσ' F' H' q=>z σ' F' H' (r.back q)
  |rt d=>cases h6;exact lY.re (o:=.rt d) r z
 ·left
  refine⟨k2 (by omega),?_⟩
  have:ds.drop i=[]:=nh (by omega)
  rw[this]at e
  cases e
  exact z σ F H rs
def gV (i:Nat):D->Env->Option Env:=λd ρ=>some (ρ.set i (some d))
theorem Uh {i:Nat}{x:aR}(hm:ms[i]?=some (.ow 0))(hN:X.N.Nodup)(hi:X.N[i]?=some x)(hx:Loc X.env.scope x)
  (hf:X.fn x=true\/X.env.scope.names.lookup x=some .local:=by first|exact .inl rfl|exact .inr rfl|assumption):XG X ct ms 0 (.Name x pos) (gV i):=by
 refine⟨_,LC hN hi hx hf,λF0 B F H ρ ρ' σ d v Q rs l e w=>?_⟩
 cases e
 exact w _ (rs.set hm (.refl rs.fh) (Ow.zero l) bD λa z=>(by cases z))
def C1 (X:Cx)(ct:Nat->af)(ms:List Mo)(n:Nat)(jK:List Expr)(g:List D->Env->Option Env):Prop:=∃t,xD X jK t/\(∀ds ρ ρ',g ds ρ=some ρ'->ds.length=jK.length)/\∀(F0 B F H:Hp) (ρ ρ':Env) (σ:St) (ds:List D) (vs:List V) (Q:St->Hp->Prop),RS X.K ct F0 B ms F H ρ σ->Pr (Al X.K ct F B n) ds vs->g ds ρ=some ρ' ->
 (∀σ',RS X.K ct F0 B ms F H ρ' σ'->Q σ' H)->t vs σ H Q
def gsNil:List D->Env->Option Env:=λds ρ=>match ds with
 |[]=>some ρ
 |_=>none
def gsCons (g:D->Env->Option Env)(gs:List D->Env->Option Env):List D->Env->Option Env:=λds ρ=>match ds with
 |d::ds=>(g d ρ).bind λρ'=>gs ds ρ'
 |[]=>none
theorem D4:C1 X ct ms n [] gsNil:=by
 refine⟨_,Ho,λds ρ ρ' e=>?_,λF0 B F H ρ ρ' σ ds vs Q rs l e w=>?_⟩
 ·cases ds with
  |nil=>rfl
  |cons d ds=>cases e
 ·cases l with
  |nil=>cases e;exact⟨rfl,w σ rs⟩
  |cons _ _=>cases e
theorem wv {tg:Expr}{jK:List Expr}{gg:D->Env->Option Env}{gs:List D->Env->Option Env}(h1:XG X ct ms n tg gg)(h2:C1 X ct ms n jK gs)
  (hs:(cn (tg::jK) X.env).map (·.2)=eQ tg X.env::(cn jK X.env).map (·.2):=by rfl):C1 X ct ms n (tg::jK) (gsCons gg gs):=by
 obtain⟨t,pt,qt⟩:=h1
 obtain⟨t2,kJ,BB,pQ⟩:=h2
 refine⟨_,DK pt kJ hs,λds ρ ρ' e=>?_,λF0 B F H ρ ρ' σ ds vs Q rs l e w=>?_⟩
 ·cases ds with
  |nil=>cases e
  |cons d ds=>
   obtain⟨ρ1,h3,h4⟩:=aW e
   rw[aP,aP,BB _ _ _ h4]
 ·cases l with
  |nil=>cases e
  |cons h t=>
   obtain⟨ρ1,h3,h4⟩:=aW e
   exact⟨_,_,rfl,qt F0 B F H ρ ρ1 σ _ _ _ rs h h3 λσ1 r1=>pQ F0 B F H ρ1 ρ' σ1 _ _ _ r1 t h4 w⟩
def gT (gs:List D->Env->Option Env):D->Env->Option Env:=λd ρ=>match d with
 |.tup ds=>gs ds ρ
 |_=>none
theorem Ed {jK:List Expr}{j:Nat}{gs:List D->Env->Option Env}(hc:X.calm=true)(h:C1 X ct ms (n-1) jK gs)(hl:(cn jK X.env).length=jK.length:=by rfl)(mQ:(cn jK X.env).findIdx? (·.1)=none:=by rfl):XG X ct ms n (.Tuple jK j pos) (gT gs):=by
 obtain⟨t,pt,lt,qt⟩:=h
 refine⟨_,HG (n:=jK.length) hc pt hl mQ,λF0 B F H ρ ρ' σ d v Q rs l e w=>?_⟩
 cases d with
 |tup ds=>
  have l':Al X.K ct F H n (.tup ds) v:=l.mono (.refl _) rs.bh
  have:∃a vs,v=.ref a/\jJ X.K H a vs/\Pr (Al X.K ct F B (n-1)) ds vs:=by
   cases n with
   |zero=>
    have l:Dt X.K ct F (.tup ds) v:=l
    cases l with
    |tup q t=>exact⟨_,_,rfl,jJ.of (rs.fh _ _ q),t.pr⟩
   |succ n=>
    rcases l with l|l
    ·cases l with
     |tup q t=>exact⟨_,_,rfl,jJ.of (rs.fh _ _ q),t.pr.mono λ_ _=>Al.of⟩
    ·cases l with
     |tup q t=>exact⟨_,_,rfl,jJ.of (rs.fh _ _ q),t⟩
  obtain⟨a,vs,rfl,ha,hp⟩:=this
  exact⟨a,vs,rfl,ha,hp.length.symm.trans (lt _ _ _ e),qt F0 B F H ρ ρ' σ ds vs Q rs hp e w⟩
 |_=>cases e
def startD (N:List aR)(ds:List D):Env:=ds.map some++aG (N.length-ds.length) none
def mOf (N:List aR)(b:SF)(ds:List D):Option D:=(b (startD N ds)).bind λo=>match o with
 |.rt d=>some d
 |.nx _=>some .non
 |_=>none
theorem SL.start {K:ae}{F B H:Hp}:∀{pm:List Nat} {ds:List D} {vs:List V} {ms:List Mo} (j:Nat),iZ K ct F B pm ds vs->(∀(i n:Nat),pm[i]?=some n->ms[i]?=some (Mo.al n)\/(n=0/\ms[i]?=some (Mo.ow 0)))->ms.length=pm.length+j ->
  SL K ct F B H ms (ds.map some++aG j none) (vs.map some++aG j none) []
 |_,_,_,ms,j,.nil,_,hl=>by
  have:∀(j:Nat) (ms:List Mo),ms.length=j->SL K ct F B H ms (aG j none) (aG j none) []:=by
   intro j
   induction j with
   |zero=>intro ms h;cases ms with
    |nil=>exact .nil
    |cons _ _=>simp at h
   |succ j ih=>intro ms h;cases ms with
    |nil=>simp at h
    |cons m ms=>exact .no (ih ms (by simpa using h))
  simpa using this j ms (by simpa using hl)
 |_,_,_,[],j,.cons h t,_,hl=>by simp at hl;omega
 |_,_,_,m::ms,j,.cons (n:=n) h t,hm,hl=>by
  have ih:=SL.start (ms:=ms) (H:=H) j t (λi n e=>by simpa using hm (i+1) n (by simpa using e)) (by simp at hl;omega)
  rcases hm 0 n rfl with e|⟨rfl,e⟩
  ·simp at e;subst e;exact .al h ih
  ·simp at e;subst e;exact SL.ow (f:=[]) (Ow.zero h) ih
structure Fun2 (K:ae)(x qual:aR)(st:cp)(f:af)(fd:aS):Prop where
 ex:∃(oc:aa) (od:Option af) (dV kV doc pm:aa) (an:Option af) (ik ct:aa) (wJ:Array (Option aa)),
  fd=gc x qual (kO st) (gG st) (bg st) dV kV doc pm an ik ct/\K.lookup f=some ⟨oc,od,.func fd,wJ⟩/\aH K ik qual=true
 kp:ax K (.ref f)=true
theorem Fun2.ok {P:bb}{w:bG}{K:ae}{mg:aR->Option aa}{base:aK}{x qual:aR}{st:cp}{f:af}{fd:aS}{N ps:List aR}{k:Nat}{sp:Sp}(F:Fun2 K x qual st f fd)(S:bK N ps (bg st))(len:∀vs H Q E,sp vs H Q E->vs.length=ps.length)
    (qJ:∀(ik:aa) (A:bz) (outer:List PySem.Env) (s:ao) (H:Hp) (vs:List V) (Q:VK) (E:XK),ed k (A.deeper (envOfC qual (bg st) s.heap.objs.size f ik))->sp vs H Q E ->
      ∃t,oX (mI fE P w K mg base N qual (bg st) f ik A outer s H E).nox (gG st) t/\t { nx:=λ_ H'=>Q .non H',rt:=Q } (L2.start N vs) H):cS P w K mg base fE (k+1) f fd ps sp:=by
  obtain⟨oc,od,dV,kV,doc,pm,an,ik,ct,wJ,rfl,lk,iX⟩:=F.ex
  refine Wj lk iX S len λA outer s H vs Q E hr tO=>?_
  obtain⟨t,h,q⟩:=qJ ik A outer s H vs Q E hr tO
  exact⟨t,h.nox,q⟩
theorem lift {P:bb}{w:bG}{K:ae}{mg:aR->Option aa}{base:aK}{x qual:aR}{st:cp}{fa:af}{fd:aS}{N ps:List aR}{kk:Nat}{pm:List Nat}{bf:SF}(Fn:Fun2 K x qual st fa fd)(S:bK N ps (bg st))(AY:pm.length=ps.length)(FV:ms.length=N.length)(mY:ps.length<=N.length)
  (AT:∀(i n:Nat),pm[i]?=some n->ms[i]?=some (Mo.al n)\/(n=0/\ms[i]?=some (Mo.ow 0)))
  (body:∀(ik:aa) (A:bz) (outer:List PySem.Env) (s:ao) (H:Hp) (E:XK),ed kk (A.deeper (envOfC qual (bg st) s.heap.objs.size fa ik))->qE (mI fE P w K mg base N qual (bg st) fa ik A outer s H E).nox ct ms rk (gG st) bf) :
  cS P w K mg base fE (kk+1) fa fd ps (hJ K ct pm rk (mOf N bf)):=by
 refine Fn.ok S (hJ.len AY) λik A outer s H vs Q E hr h=>?_
 obtain⟨F,ds,d,sF,l,hm,q⟩:=h
 obtain⟨t,pt,qt⟩:=body ik A outer s H E hr
 refine⟨t,pt,?_⟩
 obtain⟨o,h1,h2⟩:=aW hm
 have W2:vs.length=pm.length:=l.length
 have AN:ds.length=vs.length:=l.length'
 refine qt F H F H (startD N ds) (L2.start N vs) o _ ⟨.refl _,.refl _,sF,λ_ _ _ _ h=>h,[],?_,bD,λa z=>(by cases z)⟩ h1 ?_
 ·unfold startD L2.start
  rw[AN]
  exact SL.start _ l AT (by omega)
 ·cases o with
  |nx ρ=>
   cases h2
   exactλσ F' H' r=>q .non F' H' [] ⟨r.f0,r.bh,r.fh,r.nf⟩ (Ow.scal .non rfl) bD λa z=>(by cases z)
  |rt d'=>
   cases h2
   exactλv F' H' fp s1 s2 s3 s4 o nd hf=>q v F' H' fp ⟨s1,s2,s3,s4⟩ o nd hf
  |bk ρ=>cases h2
  |ct ρ=>cases h2
end
end L3
namespace L3
open PySem PySem.Spec L2
open PyProof.Rows hiding St
theorem fU.or {X:Cx}{f:aa->aa->nj aa}{r r':R2}(h:fU X f r)(h':fU X f r'):fU X f (λx y H Q=>r x y H Q\/r' x y H Q) :=
 λah s σ H x y v u Q I rx ry q=>q.elim (h ah s σ H x y v u Q I rx ry) (h' ah s σ H x y v u Q I rx ry)
section
variable {K:ae}{ct:Nat->af}{n m k:Nat}
def i2 (g:Int->Int->D):D->D->Option D
 |.int i,.int j=>some (g i j)
 |_,_=>none
def qR (C:Int->Int->Prop)[∀i j,Decidable (C i j)](g:Int->Int->D):D->D->Option D
 |.int i,.int j=>if C i j then some (g i j)else none
 |_,_=>none
theorem Em {g:Int->Int->D}{gv:Int->Int->V}(hg:∀i j F,Dt K ct F (g i j) (gv i j)):kY K ct n m k (nZ gv) (i2 g):=by
 intro F H x y d1 d2 d Q s l1 l2 e w
 cases d1 with
 |int i=>
  cases d2 with
  |int j=>cases e;exact⟨i,j,l1.int,l2.int,w _ F H (.refl s) (Al.of (hg i j F))⟩
  |_=>cases e
 |_=>cases e
theorem Ee {C C':Int->Int->Prop}[∀i j,Decidable (C i j)]{g:Int->Int->D}{gv:Int->Int->V}(hC:∀i j,C i j->C' i j)(hg:∀i j F,Dt K ct F (g i j) (gv i j)):kY K ct n m k (rI C' gv) (qR C g):=by
 intro F H x y d1 d2 d Q s l1 l2 e w
 cases d1 with
 |int i=>
  cases d2 with
  |int j=>
   unfold qR at e
   dsimp only at e
   by_cases h:C i j
   ·rw[if_pos h]at e;cases e;exact⟨i,j,l1.int,l2.int,hC i j h,w _ F H (.refl s) (Al.of (hg i j F))⟩
   ·rw[if_neg h]at e;cases e
  |_=>cases e
 |_=>cases e
def HZ:Nat:=2 ^ 9000
def yJ:Nat:=2 ^ 100000
def nI:D->D->Option D:=i2 λi j=>.int (i-j)
theorem xO:kY K ct n m k (nZ λi j=>.int (i-j)) nI:=Em λ_ _ _=>.int _
def kz (i j:Int):Prop:=(-18446744073709551616<i/\i<18446744073709551616)\/(-18446744073709551616<j/\j<18446744073709551616)\/(i.natAbs<yJ/\j.natAbs<yJ)
instance (i j:Int):Decidable (kz i j):=by unfold kz;infer_instance
def hV:D->D->Option D:=qR kz λi j=>.int (i*j)
theorem kz.ok {i j:Int}(h:kz i j):lX i j:=by
 rcases h with h|h|h
 ·exact .inl (.inl ⟨by have:=h.1;omega,by have:=h.2;omega⟩)
 ·exact .inl (.inr ⟨by have:=h.1;omega,by have:=h.2;omega⟩)
 ·exact .inr h
theorem Ui:kY K ct n m k (rI lX λi j=>.int (i*j)) hV:=Ee (λ_ _=>kz.ok) λ_ _ _=>.int _
def D.v:D->V
 |.bl b=>.bl b
 |.int i=>.int i
 |.str x=>.str x
 |_=>.non
theorem Dt.v {F:Hp}{d:D}{v:V}(h:Dt K ct F d v)(hs:d.sc=true):v=d.v:=by
 cases h<;>first|rfl|cases hs
theorem Al.v {F G:Hp}{d:D}{v:V}(h:Al K ct F G n d v)(hs:d.sc=true):v=d.v:=Dt.v (Al.scal (F':=F) h hs) hs
def iI:D->D->Option D
 |.int i,.int j=>if 0<j/\j<4611686018427387904 then some (.int (i/j))else if j≠0/\j.natAbs<HZ then some (.int (i.fdiv j))else none
 |_,_=>none
theorem q0:kY K ct n m k (rI (λ_ j=>j≠0/\Sz 9000 j) λi j=>.int (i.fdiv j)) iI:=by
 intro F H x y d1 d2 d Q s l1 l2 e w
 cases d1 with
 |int i=>
  cases d2 with
  |int j=>
   unfold iI at e
   dsimp only at e
   by_cases h:0<j/\j<4611686018427387904
   ·rw[if_pos h]at e
    cases e
    refine⟨i,j,l1.int,l2.int,⟨by omega,?_⟩,?_⟩
    ·have:Sz 62 j:=by unfold Sz;omega
     exact this.mono (by decide)
    ·show Q (.int (i.fdiv j)) H
     rw[lS i (by omega)]
     exact w _ F H (.refl s) (Al.of (.int _))
   ·rw[if_neg h]at e
    by_cases h:j≠0/\j.natAbs<HZ
    ·rw[if_pos h]at e
     cases e
     exact⟨i,j,l1.int,l2.int,h,w _ F H (.refl s) (Al.of (.int _))⟩
    ·rw[if_neg h]at e;cases e
  |_=>cases e
 |_=>cases e
def eO:D->D->Option D
 |.int i,.int j=>if 0<j then some (.int (i%j))else if j≠0 then some (.int (i.fmod j))else none
 |_,_=>none
theorem xj:kY K ct n m k (rI (λ_ j=>j≠0) λi j=>.int (i.fmod j)) eO:=by
 intro F H x y d1 d2 d Q s l1 l2 e w
 cases d1 with
 |int i=>
  cases d2 with
  |int j=>
   unfold eO at e
   dsimp only at e
   by_cases h:0<j
   ·rw[if_pos h]at e
    cases e
    refine⟨i,j,l1.int,l2.int,by omega,?_⟩
    show Q (.int (i.fmod j)) H
    rw[Int.fmod_eq_emod_of_nonneg i (by omega)]
    exact w _ F H (.refl s) (Al.of (.int _))
   ·rw[if_neg h]at e
    by_cases h:j≠0
    ·rw[if_pos h]at e
     cases e
     exact⟨i,j,l1.int,l2.int,h,w _ F H (.refl s) (Al.of (.int _))⟩
    ·rw[if_neg h]at e;cases e
  |_=>cases e
 |_=>cases e
def ml (i j:Int):Prop:=0<=j/\j<=1000000/\i.natAbs<18446744073709551616
instance (i j:Int):Decidable (ml i j):=by unfold ml;infer_instance
def sE:D->D->Option D:=qR ml λi j=>.int (i ^ j.toNat)
theorem Uj:kY K ct n m k (rI rS λi j=>.int (i ^ j.toNat)) sE:=Ee (λ_ _ h=>⟨h.1,h.2.1,by have:=h.2.2;omega⟩) λ_ _ _=>.int _
def sL:D->D->Option D:=qR ml λi j=>.int (i*2 ^ j.toNat)
theorem Uk:kY K ct n m k (rI rS λi j=>.int (i*2 ^ j.toNat)) sL:=Ee (λ_ _ h=>⟨h.1,h.2.1,by have:=h.2.2;omega⟩) λ_ _ _=>.int _
def pR:D->D->Option D:=qR (λ_ j=>0<=j) λi j=>.int (i/2 ^ j.toNat)
theorem LP:kY K ct n m k (rI (λ_ j=>0<=j) λi j=>.int (i/2 ^ j.toNat)) pR:=Ee (λ_ _ h=>h) λ_ _ _=>.int _
def sx:D->D->Option D:=i2 λi j=>.bl (decide (i<j))
def rG:D->D->Option D:=i2 λi j=>.bl (decide (j<i))
def Fw:D->D->Option D:=i2 λi j=>.bl (decide (j<=i))
theorem CM:kY K ct n m k (nZ λi j=>.bl (decide (i<j))) sx:=Em λ_ _ _=>.bl _
theorem uA:kY K ct n m k (nZ λi j=>.bl (decide (j<i))) rG:=Em λ_ _ _=>.bl _
theorem Vb:kY K ct n m k (nZ λi j=>.bl (decide (j<=i))) Fw:=Em λ_ _ _=>.bl _
def wN:R2:=λx y H Q=>∃i j,x=.str i/\y=.str j/\Q (.bl (!(decide (j.cps.toList<i.cps.toList)))) H
theorem Vc {X:Cx}:fU X (cx .LtE) wN:=by
 intro ah s σ H x y v u Q I rx ry h
 obtain⟨i,j,rfl,rfl,q⟩:=h
 obtain⟨t,rfl⟩:=rx
 obtain⟨t',rfl⟩:=ry
 exact PySem.P.le_str ⟨.bl _,H,I,rfl,q⟩
def tR:D->D->Option D
 |.int i,.int j=>some (.bl (decide (i<=j)))
 |.str i,.str j=>some (.bl (!(decide (j.cps.toList<i.cps.toList))))
 |_,_=>none
theorem xP:kY K ct n m k (λx y H Q=>nZ (λi j=>.bl (decide (i<=j))) x y H Q\/wN x y H Q) tR:=by
 intro F H x y d1 d2 d Q s l1 l2 e w
 cases d1 with
 |int i=>
  cases d2 with
  |int j=>cases e;exact .inl ⟨i,j,l1.int,l2.int,w _ F H (.refl s) (Al.of (.bl _))⟩
  |_=>cases e
 |str i=>
  cases d2 with
  |str j=>cases e;exact .inr ⟨i,j,l1.str,l2.str,w _ F H (.refl s) (Al.of (.bl _))⟩
  |_=>cases e
 |_=>cases e
theorem yA {X:Cx}:fU X (cx .LtE) (λx y H Q=>nZ (λi j=>.bl (decide (i<=j))) x y H Q\/wN x y H Q):=fU.or Wg Vc
def D.isN:D->Bool
 |.non=>true
 |_=>false
def D.isB (b:Bool):D->Bool
 |.bl c=>c==b
 |_=>false
def qS (neg:Bool):D->D->Option D
 |d,.non=>some (.bl (if neg then !d.isN else d.isN))
 |d,.bl b=>some (.bl (if neg then !d.isB b else d.isB b))
 |_,_=>none
theorem Al.ref {F G:Hp}{d:D}{v:V}(h:Al K ct F G n d v)(hs:d.sc=false):∃a,v=.ref a:=by
 cases n with
 |zero=>cases(show Dt K ct F d v from h)<;>first|cases hs;done|exact⟨_,rfl⟩
 |succ n=>rcases h with h|h<;>cases h<;>first|cases hs;done|exact⟨_,rfl⟩
theorem Al.isn {F G:Hp}{d:D}{v:V}(h:Al K ct F G n d v):decide (v=.non)=d.isN:=by
 cases hs:d.sc with
 |true=>
  have:=Al.v h hs
  subst this
  cases d<;>first|rfl|cases hs
 |false=>
  obtain⟨a,rfl⟩:=h.ref hs
  cases d<;>first|rfl|cases hs
theorem Al.isb {F G:Hp}{d:D}{v:V}{b:Bool}(h:Al K ct F G n d v):decide (v=.bl b)=d.isB b:=by
 cases hs:d.sc with
 |true=>
  have:=Al.v h hs
  subst this
  cases d<;>first|rfl|(cases hs;done)|(rename_i c;cases b<;>cases c<;>rfl)
 |false=>
  obtain⟨a,rfl⟩:=h.ref hs
  cases d<;>first|rfl|cases hs
def JS:R2:=λx y H Q=>(y=.non/\Q (.bl (decide (x=.non))) H)\/∃b,y=.bl b/\Q (.bl (decide (x=.bl b))) H
def rg:R2:=λx y H Q=>(y=.non/\Q (.bl (!decide (x=.non))) H)\/∃b,y=.bl b/\Q (.bl (!decide (x=.bl b))) H
theorem CU {X:Cx}:fU X (cx .Is) JS:=fU.or Vl Vy
theorem Le {X:Cx}:fU X (cx .IsNot) rg:=fU.or TU RV
theorem CN:kY K ct n m k JS (qS false):=by
 intro F H x y d1 d2 d Q s l1 l2 e w
 cases d2 with
 |non=>
  cases e
  refine .inl ⟨l2.non,?_⟩
  rw[l1.isn]
  exact w _ F H (.refl s) (Al.of (.bl _))
 |bl b=>
  cases e
  refine .inr ⟨b,l2.bl,?_⟩
  rw[l1.isb]
  exact w _ F H (.refl s) (Al.of (.bl _))
 |_=>cases e
theorem KW:kY K ct n m k rg (qS true):=by
 intro F H x y d1 d2 d Q s l1 l2 e w
 cases d2 with
 |non=>
  cases e
  refine .inl ⟨l2.non,?_⟩
  rw[l1.isn]
  exact w _ F H (.refl s) (Al.of (.bl _))
 |bl b=>
  cases e
  refine .inr ⟨b,l2.bl,?_⟩
  rw[l1.isb]
  exact w _ F H (.refl s) (Al.of (.bl _))
 |_=>cases e
mutual
def D.py:D->Option bE
 |.non=>some .none
 |.bl b=>some (.bool b)
 |.int i=>some (.int i)
 |.str x=>some (.str x)
 |.lst xs=>(D.pys xs).bind λys=>some (.list ys)
 |.tup xs=>(D.pys xs).bind λys=>some (.tuple ys)
 |_=>none
def D.pys:List D->Option (List bE)
 |[]=>some []
 |d::ds=>(D.py d).bind λx=>(D.pys ds).bind λxs=>some (x::xs)
end
theorem Dt.toPy {F H:Hp}(s:bO F H){d:D}{v:V}{e:bE}(h:Dt K ct F d v)(q:d.py=some e):L2.Dt K H v e:=by
 refine Dt.rec (motive_1:=λd v _=>∀e,d.py=some e->L2.Dt K H v e) (motive_2:=λds vs _=>∀es,D.pys ds=some es->L2.Dts K H vs es) ?_ ?_ ?_ ?_ ?_ ?_ ?_ ?_ ?_ ?_ ?_ ?_ ?_ h e q
 ·intro e h;rw[D.py]at h;cases h;exact .non
 ·intro b e h;rw[D.py]at h;cases h;exact .bl b
 ·intro b e h;rw[D.py]at h;cases h;exact .int b
 ·intro b e h;rw[D.py]at h;cases h;exact .str b
 ·intro _ _ _ q _ t e h
  rw[D.py]at h
  obtain⟨ys,h1,h2⟩:=aW h
  cases h2
  exact .lst (s.seq q) (t _ h1)
 ·intro _ _ _ q _ t e h
  rw[D.py]at h
  obtain⟨ys,h1,h2⟩:=aW h
  cases h2
  exact .tup (jJ.of (s _ _ q)) (t _ h1)
 ·intro _ _ _ _ _ _ _ _ e h;simp only[D.py]at h;cases h
 ·intro _ _ _ _ _ _ _ _ e h;simp only[D.py]at h;cases h
 ·intro _ _ _ _ _ _ _ _ _ _ e h;simp only[D.py]at h;cases h
 ·intro _ _ _ _ e h;simp only[D.py]at h;cases h
 ·intro _ _ _ _ _ _ _ _ _ _ _ _ e h;simp only[D.py]at h;cases h
 ·intro e h;rw[D.pys]at h;cases h;exact .nil
 ·intro _ _ _ _ _ _ p t e h
  rw[D.pys]at h
  obtain⟨y,ys,h1,h2,h3⟩:=dO h
  cases h3
  exact .cons (p _ h1) (t _ h2)
theorem Pr.toPy {H:Hp}{R:D->V->Prop}(f:∀d v e,R d v->d.py=some e->L2.Dt K H v e){ds:List D}{vs:List V}{es:List bE}(h:Pr R ds vs)(e:D.pys ds=some es):L2.Dts K H vs es:=by
 induction h generalizing es with
 |nil=>rw[D.pys]at e;cases e;exact .nil
 |cons h t ih=>
  rw[D.pys]at e
  obtain⟨y,ys,h1,h2,h3⟩:=dO e
  cases h3
  exact .cons (f _ _ _ h h1) (ih h2)
theorem Al.toPy {F H:Hp}(s:bO F H){n:Nat}{d:D}{v:V}{e:bE}(h:Al K ct F H n d v)(q:d.py=some e):L2.Dt K H v e:=by
 induction n generalizing d v e with
 |zero=>exact Dt.toPy s h q
 |succ n ih=>
  cases h with
  |inl h=>exact Dt.toPy s h q
  |inr h=>
   cases h with
   |lst h t=>
    rw[D.py]at q
    obtain⟨ys,h1,h2⟩:=aW q
    cases h2
    exact .lst (fw.of h) (Pr.toPy (λ_ _ _=>ih) t h1)
   |tup h t=>
    rw[D.py]at q
    obtain⟨ys,h1,h2⟩:=aW q
    cases h2
    exact .tup (jJ.of (s _ _ h)) (Pr.toPy (λ_ _ _=>ih) t h1)
   |_=>simp only[D.py]at q;cases q
def mR (a:bE):Bool:=a.canLay0&&decide (a.depth<=60)
def eqD (neg:Bool)(x y:D):Option D:=x.py.bind λa=>y.py.bind λb=>if mR a=true/\mR b=true then some (.bl (if neg then !bE.eqv a b else bE.eqv a b))else none
theorem wg {neg:Bool}:kY K ct n m k (wM K neg) (eqD neg):=by
 intro F H x y d1 d2 d Q s l1 l2 e w
 obtain⟨a,b,h1,h2,h3⟩:=dO e
 by_cases h:mR a=true/\mR b=true
 ·rw[if_pos h]at h3
  cases h3
  have o1:=h.1
  have o2:=h.2
  unfold mR at o1 o2
  rw[bN,decide_eq_true_iff]at o1 o2
  exact⟨a,b,Al.toPy s l1 h1,Al.toPy s l2 h2,o1.1,o2.1,cm (Nat.min_le_left _ _) o1.2,w _ F H (.refl s) (Al.of (.bl _))⟩
 ·rw[if_neg h]at h3;cases h3
end
end L3
namespace L3
open PySem PySem.Spec L2
open PyProof.Rows hiding St
section
variable {K:ae}{ct:Nat->af}{n m k:Nat}{X:Cx}
theorem Pr.atI {R:D->V->Prop}{ds:List D}{vs:List V}{i:Int}{d:D}(h:Pr R ds vs)(e:atI ds i=some d):∃v,atI vs i=some v/\R d v:=by
 unfold L2.atI at e ⊢
 rw[←h.length]
 obtain⟨j,h1,h2⟩:=aW e
 obtain⟨v,h3,h4⟩:=h.get' h2
 exact⟨v,by rw[h1];exact h3,h4⟩
def su:D->Option dw
 |.int i=>some (.inl i)
 |.str x=>some (.inr x)
 |_=>none
def lm:List D->Option (List dw)
 |[]=>some []
 |d::ds=>(su d).bind λk=>(lm ds).bind λks=>some (k::ks)
def gD {κ:Type}[DecidableEq κ](ks:List κ)(ds:List D)(k:κ):Option D:=((ks.zip ds).find? λp=>decide (p.1=k)).map (·.2)
def RO (R:D->V->Prop):Option D->Option V->Prop
 |some d,some u=>R d u
 |none,none=>True
 |_,_=>False
theorem RO.some_of {R:D->V->Prop}{d:D}{q:Option V}(h:RO R (some d) q):∃u,q=some u/\R d u:=by
 cases q with
 |none=>exact h.elim
 |some u=>exact⟨u,rfl,h⟩
theorem RO.none_of {R:D->V->Prop}{q:Option V}(h:RO R none q):q=none:=by
 cases q with
 |none=>rfl
 |some u=>exact h.elim
theorem Hi {κ:Type}[DecidableEq κ]{R:D->V->Prop}{k:κ}:∀{ks:List κ} {ds:List D} {vs:List V},Pr R ds vs->RO R (gD ks ds k) (hX (ks.zip vs) k)
 |[],_,_,_=>by simp[gD,hX,RO]
 |_::_,_,_,.nil=>by simp[gD,hX,RO]
 |y::ks,d::ds,v::vs,.cons h t=>by
  by_cases e:y=k
  ·have h1:gD (y::ks) (d::ds) k=some d:=by simp[gD,cX,e]
   have h2:hX ((y::ks).zip (v::vs)) k=some v:=by simp[hX,cX,e]
   rw[h1,h2]
   exact h
  ·have h1:gD (y::ks) (d::ds) k=gD ks ds k:=by simp[gD,cX,e]
   have h2:hX ((y::ks).zip (v::vs)) k=hX (ks.zip vs) k:=by simp[hX,cX,e]
   rw[h1,h2]
   exact Hi t
theorem HP {F G:Hp}{d:D}{v:V}{k:dw}(e:su d=some k)(h:Al K ct F G n d v):v=kV k:=by
 cases d with
 |int i=>cases e;exact h.int
 |str i=>cases e;exact h.str
 |_=>cases e
theorem LQ {F G:Hp}{ds:List D}{vs:List V}{ks:List dw}(e:lm ds=some ks)(h:Pr (Al K ct F G n) ds vs):vs=ks.map kV:=by
 induction h generalizing ks with
 |nil=>cases e;rfl
 |cons h t ih=>
  unfold lm at e
  obtain⟨k,ks,h1,h2,h3⟩:=dO e
  cases h3
  rw[HP h1 h,ih h2];rfl
def il (o y:D):Option (Option D):=match o with
 |.dK ks ds=>(su y).bind λk=>some (gD ks ds k)
 |.dT ks ds=>(match y with|.tup ys=>(lm ys).bind λk=>some (gD ks ds k)|_=>none)
 |_=>none
theorem LR {F G:Hp}{o y:D}{x v:V}(s:bO F G)(l1:Al K ct F G n o x)(l2:Al K ct F G m y v){r:Option D}(e:il o y=some r) :
  ∃a q,x=.ref a/\nr G a v q/\CW G a/\RO (Al K ct F G (n-1)) r q:=by
 cases o with
 |dK ks ds=>
  obtain⟨a,vs,rfl,ha,hl,hp⟩:=l1.dK s
  obtain⟨k,h1,h2⟩:=aW e
  cases h2
  have hv:=HP h1 l2
  subst hv
  exact⟨a,_,rfl,nr.k ha,.inl ⟨_,.inl ha⟩,Hi hp⟩
 |dT ks ds=>
  obtain⟨a,vs,rfl,ha,hl,hp⟩:=l1.dT s
  cases y with
  |tup ys=>
   obtain⟨k,h1,h2⟩:=aW e
   cases h2
   obtain⟨b,us,rfl,hb,Ga⟩:=l2.tup s
   have hv:=LQ h1 Ga
   subst hv
   exact⟨a,_,rfl,.inr ⟨_,_,_,ha,rfl,hb,rfl⟩,.inr ⟨_,ha⟩,Hi hp⟩
  |_=>cases e
 |_=>cases e
def eF:D->D->Option D
 |.lst ds,.int i=>atI ds i
 |.tup ds,.int i=>atI ds i
 |.str x,.int i=>if x.length<=16777216 then(atI x.cps.toList i).bind λc=>some (.str ⟨#[c]⟩)else none
 |_,_=>none
theorem je:kY K ct n m (n-1) (JT K) eF:=by
 intro F H x y d1 d2 d Q s l1 l2 e w
 cases d1 with
 |lst ds=>
  cases d2 with
  |int i=>
   obtain⟨a,vs,rfl,ha,hp⟩:=l1.lst s
   obtain⟨v,h1,h2⟩:=hp.atI e
   exact .inl ⟨a,vs,i,v,rfl,l2.int,ha,h1,w v F H (.refl s) h2⟩
  |_=>cases e
 |tup ds=>
  cases d2 with
  |int i=>
   obtain⟨a,vs,rfl,ha,hp⟩:=l1.tup s
   obtain⟨v,h1,h2⟩:=hp.atI e
   exact .inr (.inl ⟨a,vs,i,v,rfl,l2.int,jJ.of ha,h1,w v F H (.refl s) h2⟩)
  |_=>cases e
 |str z=>
  cases d2 with
  |int i=>
   unfold eF at e
   dsimp only at e
   by_cases h:z.length<=16777216
   ·rw[if_pos h]at e
    obtain⟨c,h1,h2⟩:=aW e
    cases h2
    exact .inr (.inr ⟨z,i,c,l1.str,l2.int,by rw[cr];exact h,h1,w _ F H (.refl s) (Al.of (.str _))⟩)
   ·rw[if_neg h]at e;cases e
  |_=>cases e
 |_=>cases e
theorem CI {ms:List Mo}{o e:Expr}{f g:EF}{dE d9:cG}(hu:X.A.units+1<gQ)(ho:XE X ct ms n o f)(he:XE X ct ms m e g)(h1:M1 X o "get" dE e d9):XE X ct ms (n-1) (.Call (.Attribute o "get" dE) [e] [] d9) (λρ=>(f ρ).bind λx=>(g ρ).bind λy=>(il x y).bind λr=>some (r.getD .non)):=by
 obtain⟨ta,pa,qa⟩:=ho
 obtain⟨tb,pb,qb⟩:=he
 refine⟨_,SM hu pa pb h1,λF0 B F H ρ σ d Q rs e w=>?_⟩
 obtain⟨d1,d2,e1,e2,e3⟩:=dO e
 obtain⟨r,e4,e5⟩:=aW e3
 cases e5
 refine qa F0 B F H ρ σ d1 _ rs e1 λx F1 H1 x1 l1=>?_
 have:∃a,x=.ref a/\CW H1 a:=by
  cases d1 with
  |dK ks ds=>obtain⟨a,vs,rfl,ha,_⟩:=l1.dK x1.fh;exact⟨a,rfl,.inl ⟨_,.inl ha⟩⟩
  |dT ks ds=>obtain⟨a,vs,rfl,ha,_⟩:=l1.dT x1.fh;exact⟨a,rfl,.inr ⟨_,ha⟩⟩
  |_=>cases e4
 obtain⟨a,rfl,Oy⟩:=this
 refine⟨a,rfl,Oy,qb F0 B F1 H1 ρ σ d2 _ (rs.ext x1) e2 λy F2 H2 x2 l2=>?_⟩
 obtain⟨a',o,ea,gg,_,h⟩:=LR (r:=r) x2.fh (l1.mono x2.ff x2.hh) l2 e4
 cases ea
 refine⟨o,gg,?_⟩
 cases r with
 |none=>rw[h.none_of];exact w _ F2 H2 (x1.trans x2) (Al.of .non)
 |some d=>obtain⟨u,rfl,Jm⟩:=h.some_of;exact w _ F2 H2 (x1.trans x2) Jm
def IK:D->D->Bool
 |.non,.non=>true
 |.bl a,.bl b=>a==b
 |.bl a,.int b=>(if a then 1 else 0)==b
 |.int a,.bl b=>a==(if b then 1 else 0)
 |.int a,.int b=>a==b
 |.str a,.str b=>a==b
 |_,_=>false
theorem Ws {x y:D}(hx:x.sc=true)(hy:y.sc=true):IL x.v y.v=IK x y:=by
 cases x<;>first|cases hx;done|(cases y<;>first|cases hy;done|rfl)
def d5:List D->Option D
 |[.lst ds]=>some (.int ds.length)
 |[.tup ds]=>some (.int ds.length)
 |[.dK ks _]=>some (.int ks.length)
 |[.str x]=>if x.length<=16777216 then some (.int x.length)else none
 |_=>none
def Cf (K:ae):List V->Hp->VK->Prop:=λxs H Q=>(∃p ys,xs=[.ref p]/\(fw K H p ys\/jJ K H p ys)/\Q (.int ys.length) H)\/(∃z,xs=[.str z]/\z.length<=sizeLine/\Q (.int z.length) H)\/∃a bT,xs=[V.ref a]/\H a=some (.dK bT)/\Q (.int bT.length) H
theorem RQ:ez X (.builtin "len") (Cf X.K):=QJ.or (QK.or Ry)
theorem Ul:uJ K ct [n] k (Cf K) d5:=by
 intro F H vs ds d Q s l e w
 cases l with
 |cons h t=>
  cases t
  rename_i d1 v
  cases d1 with
  |lst xs=>
   cases e
   obtain⟨a,us,rfl,ha,hp⟩:=h.lst s
   refine .inl ⟨a,us,rfl,.inl ha,?_⟩
   rw[←hp.length]
   exact w _ F H (.refl s) (Al.of (.int _))
  |tup xs=>
   cases e
   obtain⟨a,us,rfl,ha,hp⟩:=h.tup s
   refine .inl ⟨a,us,rfl,.inr (jJ.of ha),?_⟩
   rw[←hp.length]
   exact w _ F H (.refl s) (Al.of (.int _))
  |str x=>
   unfold d5 at e
   dsimp only at e
   by_cases hz:x.length<=16777216
   ·rw[if_pos hz]at e
    cases e
    exact .inr (.inl ⟨x,by rw[h.str],by rw[cr];exact hz,w _ F H (.refl s) (Al.of (.int _))⟩)
   ·rw[if_neg hz]at e;cases e
  |dK ks xs=>
   cases e
   obtain⟨a,us,rfl,ha,hl,hp⟩:=h.dK s
   refine .inr (.inr ⟨a,_,rfl,ha,?_⟩)
   rw[cY,←hl,km]
   exact w _ F H (.refl s) (Al.of (.int _))
  |_=>cases e
end
end L3
namespace L3
open PySem PySem.Spec L2
open PyProof.Rows hiding St
section
variable {ct:Nat->af}{K:ae}
theorem Wt {ι:Type}{Xs:ι->Cx}{ms:List Mo}{n:Nat}{e:Expr}{f:EF}(hK:∀i,(Xs i).K=K)(h:∀i,XO (Xs i) ct ms n e f):∃t,(∀i,PE (Xs i) e t)/\∀(F0 B F H:Hp) (ρ:Env) (σ:St) (d:D) (Q:VK),RS K ct F0 B ms F H ρ σ->f ρ=some d ->
  (∀v F' H' fp,fv F H F' H'->Ow K ct F' H' n d v fp->fp.Nodup->(∀a∈fp,H a=none)->Q v H')->t σ H Q:=by
 refine⟨λσ H Q=>∀i,(h i).choose σ H Q,λi ah s σ H Q I q=>(h i).choose_spec.1 ah s σ H Q I (q i),λF0 B F H ρ σ d Q rs e w i=>?_⟩
 exact(h i).choose_spec.2 F0 B F H ρ σ d Q (by rw[hK i];exact rs) e λv F' H' fp x l=>w v F' H' fp x (by rw[←hK i];exact l)
def uM (X:Cx)(ct:Nat->af)(ms:List Mo)(ifs:List Expr)(f:BF):Prop:=∃t,tq X ifs t/\∀(F0 B F H:Hp) (ρ:Env) (σ:St) (b:Bool) (Q:Bool->Hp->Prop),RS X.K ct F0 B ms F H ρ σ->f ρ=some b->(∀F' H',fv F H F' H'->Q b H')->t σ H Q
def gh:BF:=λ_=>some true
theorem wz {X:Cx}{ms:List Mo}:uM X ct ms [] gh:=⟨_,TC,λF0 B F H ρ σ b Q rs e w=>by cases e;exact w F H (.refl rs.fh)⟩
theorem D5 {X:Cx}{ms:List Mo}{c:Expr}{p:BF}(h:XT X ct ms c p):uM X ct ms [c] p:=by
 obtain⟨t,pt,qt⟩:=h
 exact⟨t,TD pt,qt⟩
theorem Wu {ι:Type}{Xs:ι->Cx}{ms:List Mo}{ifs:List Expr}{f:BF}(hK:∀i,(Xs i).K=K)(h:∀i,uM (Xs i) ct ms ifs f):∃t,(∀i,tq (Xs i) ifs t)/\∀(F0 B F H:Hp) (ρ:Env) (σ:St) (b:Bool) (Q:Bool->Hp->Prop),RS K ct F0 B ms F H ρ σ->f ρ=some b ->
  (∀F' H',fv F H F' H'->Q b H')->t σ H Q:=by
 refine⟨λσ H Q=>∀i,(h i).choose σ H Q,λi ah s σ H Q I q=>(h i).choose_spec.1 ah s σ H Q I (q i),λF0 B F H ρ σ d Q rs e w i=>?_⟩
 exact(h i).choose_spec.2 F0 B F H ρ σ d Q (by rw[hK i];exact rs) e w
def tS {α:Type}(g:α->St->Hp->(St->Hp->Prop)->Prop):Prop:=∀v σ H Q Q',(∀σ' H',Q σ' H'->Q' σ' H')->g v σ H Q->g v σ H Q'
def rT (X:Cx)(ct:Nat->af)(ms:List Mo)(own n:Nat)(tg:Expr)(g:D->Env->Option Env):Prop:=∃t,PG X tg t/\fI own t/\tS t/\∀(F0 B F H:Hp) (ρ ρ':Env) (σ:St) (d:D) (v:V) (Q:St->Hp->Prop),RS X.K ct F0 B ms F H ρ σ->Al X.K ct F B n d v->g d ρ=some ρ' ->
 (∀σ',RS X.K ct F0 B ms F H ρ' σ'->Q σ' H)->t v σ H Q
theorem Wv {ι:Type}{Xs:ι->Cx}{ms:List Mo}{own n:Nat}{tg:Expr}{g:D->Env->Option Env}(hK:∀i,(Xs i).K=K)(h:∀i,rT (Xs i) ct ms own n tg g):∃t,(∀i,PG (Xs i) tg t)/\fI own t/\∀(F0 B F H:Hp) (ρ ρ':Env) (σ:St) (d:D) (v:V) (Q:St->Hp->Prop),RS K ct F0 B ms F H ρ σ->Al K ct F B n d v->g d ρ=some ρ' ->
  (∀σ',RS K ct F0 B ms F H ρ' σ'->Q σ' H)->t v σ H Q:=by
 refine⟨λv σ H Q=>∀i,(h i).choose v σ H Q,λi ah s σ H v u Q I r q=>(h i).choose_spec.1 ah s σ H v u Q I r (q i),λv σ H Q q i=>(h i).choose_spec.2.1 v σ H Q (q i),λF0 B F H ρ ρ' σ d v Q rs l e w i=>?_⟩
 exact(h i).choose_spec.2.2.2 F0 B F H ρ ρ' σ d v Q (by rw[hK i];exact rs) (by rw[hK i];exact l) e λσ' r=>w σ' (by rw[←hK i];exact r)
theorem SY {X:Cx}{ms:List Mo}{own i:Nat}{x:aR}{pos:cG}(ho:i<own)(hm:ms[i]?=some (.ow 0))(hN:X.N.Nodup)(hi:X.N[i]?=some x)(hx:Loc X.env.scope x)
  (hf:X.fn x=true\/X.env.scope.names.lookup x=some .local:=by first|exact .inl rfl|exact .inr rfl|assumption):rT X ct ms own 0 (.Name x pos) (gV i):=by
 refine⟨_,LC hN hi hx hf,RA i own ho,λv σ H Q Q' m q=>m _ _ q,λF0 B F H ρ ρ' σ d v Q rs l e w=>?_⟩
 cases e
 exact w _ (rs.set hm (.refl rs.fh) (Ow.zero l) bD λa z=>(by cases z))
def wG (own:Nat)(g:tw):Prop:=∀v σ H Q,g v σ H Q->g v σ H λσ' H'=>Q σ' H'/\σ'.length = σ.length/\∀i,own<=i->σ'[i]? = σ[i]?
def rV (X:Cx)(ct:Nat->af)(ms:List Mo)(own n:Nat)(jK:List Expr)(g:List D->Env->Option Env):Prop:=∃t,xD X jK t/\wG own t/\tS t/\(∀ds ρ ρ',g ds ρ=some ρ'->ds.length=jK.length)/\∀(F0 B F H:Hp) (ρ ρ':Env) (σ:St) (ds:List D) (vs:List V) (Q:St->Hp->Prop),RS X.K ct F0 B ms F H ρ σ->Pr (Al X.K ct F B n) ds vs->g ds ρ=some ρ' ->
 (∀σ',RS X.K ct F0 B ms F H ρ' σ'->Q σ' H)->t vs σ H Q
theorem SZ {X:Cx}{ms:List Mo}{own n:Nat}:rV X ct ms own n [] gsNil:=by
 refine⟨_,Ho,λv σ H Q q=>⟨q.1,q.2,rfl,λ_ _=>rfl⟩,λv σ H Q Q' m q=>⟨q.1,m _ _ q.2⟩,λds ρ ρ' e=>?_,λF0 B F H ρ ρ' σ ds vs Q rs l e w=>?_⟩
 ·cases ds with
  |nil=>rfl
  |cons d ds=>cases e
 ·cases l with
  |nil=>cases e;exact⟨rfl,w σ rs⟩
  |cons _ _=>cases e
theorem KY {X:Cx}{ms:List Mo}{own n:Nat}{tg:Expr}{jK:List Expr}{gg:D->Env->Option Env}{gs:List D->Env->Option Env}(h1:rT X ct ms own n tg gg)(h2:rV X ct ms own n jK gs)
  (hs:(cn (tg::jK) X.env).map (·.2)=eQ tg X.env::(cn jK X.env).map (·.2):=by rfl):rV X ct ms own n (tg::jK) (gsCons gg gs):=by
 obtain⟨t,pt,kt,mt,qt⟩:=h1
 obtain⟨t2,kJ,OA,JC,BB,pQ⟩:=h2
 refine⟨_,DK pt kJ hs,λvs σ H Q q=>?_,λvs σ H Q Q' m q=>?_,λds ρ ρ' e=>?_,λF0 B F H ρ ρ' σ ds vs Q rs l e w=>?_⟩
 ·obtain⟨v,r,e,q⟩:=q
  refine⟨v,r,e,mt _ _ _ _ _ (λσ' H' z=>?_) (kt v σ H _ q)⟩
  obtain⟨z1,z2,z3⟩:=z
  refine JC _ _ _ _ _ (λσ2 H2 y=>?_) (OA r σ' H' Q z1)
  exact⟨y.1,y.2.1.trans z2,λi hi=>(y.2.2 i hi).trans (z3 i hi)⟩
 ·obtain⟨v,r,e,q⟩:=q
  exact⟨v,r,e,mt _ _ _ _ _ (λσ' H' z=>JC _ _ _ _ _ m z) q⟩
 ·cases ds with
  |nil=>cases e
  |cons d ds=>
   obtain⟨ρ1,h3,h4⟩:=aW e
   rw[aP,aP,BB _ _ _ h4]
 ·cases l with
  |nil=>cases e
  |cons h t'=>
   obtain⟨ρ1,h3,h4⟩:=aW e
   exact⟨_,_,rfl,qt F0 B F H ρ ρ1 σ _ _ _ rs h h3 λσ1 r1=>pQ F0 B F H ρ1 ρ' σ1 _ _ _ r1 t' h4 w⟩
theorem Um {X:Cx}{ms:List Mo}{own n:Nat}{jK:List Expr}{j:Nat}{pos:cG}{gs:List D->Env->Option Env}(hc:X.calm=true)(h:rV X ct ms own (n-1) jK gs)(hl:(cn jK X.env).length=jK.length:=by rfl)(mQ:(cn jK X.env).findIdx? (·.1)=none:=by rfl):rT X ct ms own n (.Tuple jK j pos) (gT gs):=by
 obtain⟨t,pt,kt,mt,lt,qt⟩:=h
 refine⟨_,HG (n:=jK.length) hc pt hl mQ,λv σ H Q q=>?_,λv σ H Q Q' m q=>?_,λF0 B F H ρ ρ' σ d v Q rs l e w=>?_⟩
 ·obtain⟨a,xs,e,h1,h2,q⟩:=q
  exact⟨a,xs,e,h1,h2,kt _ _ _ _ q⟩
 ·obtain⟨a,xs,e,h1,h2,q⟩:=q
  exact⟨a,xs,e,h1,h2,mt _ _ _ _ _ m q⟩
 cases d with
 |tup ds=>
  have:∃a vs,v=.ref a/\jJ X.K H a vs/\Pr (Al X.K ct F B (n-1)) ds vs:=by
   cases n with
   |zero=>
    have l:Dt X.K ct F (.tup ds) v:=l
    cases l with
    |tup q t=>exact⟨_,_,rfl,jJ.of (rs.fh _ _ q),t.pr⟩
   |succ n=>
    rcases l with l|l
    ·cases l with
     |tup q t=>exact⟨_,_,rfl,jJ.of (rs.fh _ _ q),t.pr.mono λ_ _=>Al.of⟩
    ·cases l with
     |tup q t=>exact⟨_,_,rfl,jJ.of (rs.fh _ _ q),t⟩
  obtain⟨a,vs,rfl,ha,hp⟩:=this
  exact⟨a,vs,rfl,ha,hp.length.symm.trans (lt _ _ _ e),qt F0 B F H ρ ρ' σ ds vs Q rs hp e w⟩
 |_=>cases e
def gx (ρ:Env)(cap:List Nat):Env:=cap.map λi=>(ρ[i]?).join
def gz (ms:List Mo)(cap:List Nat):List Mo:=cap.map λi=>.al (((ms[i]?).map Mo.lv).getD 0)
def lZ (g:D->Env->Option Env)(p:BF)(f:EF)(ρ0:Env):List D->Option (List D)
 |[]=>some []
 |d::ds=>(g d ρ0).bind λρ1=>(p ρ1).bind λb=>if b=true then(f ρ1).bind λy=>(lZ g p f ρ0 ds).bind λys=>some (y::ys)else lZ g p f ρ0 ds
def ee (fi:Env->Option (List D))(own:Nat)(cap:List Nat)(g:D->Env->Option Env)(p:BF)(f:EF):EF:=λρ=>(fi ρ).bind λds=>if ds.length<=16777216 then(lZ g p f (aG own none++gx ρ cap) ds).bind λys=>some (.lst ys)else none
theorem SL.caps {F B H:Hp}{ms:List Mo}{ρ:Env}{σ:St}(rs:RS K ct F0 B ms F H ρ σ):∀{cap:List Nat},(∀i∈cap,i<ms.length)->SL K ct F H H (gz ms cap) (gx ρ cap) (fH σ cap) []
 |[],_=>.nil
 |i::cap,h=>by
  have ih:=SL.caps rs (cap:=cap) λj hj=>h j (ap _ hj)
  have hi:i<ms.length:=h i am
  have hm:ms[i]?=some ms[i]:=by simp[hi]
  show SL K ct F H H (.al (((ms[i]?).map Mo.lv).getD 0)::gz ms cap) ((ρ[i]?).join::gx ρ cap) ((σ[i]?).join::fH σ cap) []
  cases e:(ρ[i]?).join with
  |none=>exact .no ih
  |some d=>
   obtain⟨v,hv,l⟩:=rs.get hm (xu e)
   rw[hv,hm]
   exact .al l ih
theorem SL.nones {F B H:Hp}{ms Gv:List Mo}{ρ:Env}{σ:St}{fp:List af}(t:SL K ct F B H ms ρ σ fp):∀{om:List Mo},SL K ct F B H (om++ms) (aG om.length none ++ ρ) (aG om.length none ++ σ) fp
 |[]=>t
 |m::om=>.no (SL.nones (Gv:=Gv) t)
theorem Lf {X:Cx}{ms om:List Mo}{n k:Nat}{iS iter tg:Expr}{ifs:List Expr}{scope:fF}{pos:cG}{N:List aR}{own:Nat}{cap:List Nat}{fi:Env->Option (List D)}{gg:D->Env->Option Env}{p:BF}{f:EF}
  (B:jN X scope N own cap) (hc:X.calm=true) (ho:om.length=own) (mM:∀i∈cap,i<ms.length) (hi:rW X ct ms n tg iter fi)
  (hg:∀cl C fp s₀ H₀,rT (gU X scope cl N C fp s₀ H₀) ct (om++gz ms cap) own n tg gg) (ht:∀cl C fp s₀ H₀,uM (gU X scope cl N C fp s₀ H₀) ct (om++gz ms cap) ifs p) (he:∀cl C fp s₀ H₀,XO (gU X scope cl N C fp s₀ H₀) ct (om++gz ms cap) k iS f)
  :
  ∃wi g tt te,PI X tg iter wi/\fI own g/\(∀cl C fp s₀ H₀,PG (gU X scope cl N C fp s₀ H₀) tg g)/\(∀cl C fp s₀ H₀,tq (gU X scope cl N C fp s₀ H₀) ifs tt)/\(∀cl C fp s₀ H₀,PE (gU X scope cl N C fp s₀ H₀) iS te) /\
   ∀(F0 B F H:Hp) (ρ:Env) (σ:St) (d:D) (Q:VK),RS X.K ct F0 B ms F H ρ σ->ee fi own cap gg p f ρ=some d->(∀v F' H' fp,fv F H F' H'->Ow X.K ct F' H' (k+1) d v fp->fp.Nodup->(∀a∈fp,H a=none)->Q v H')->pd wi own cap g tt te σ H Q:=by
 obtain⟨wi,pi,qi⟩:=hi
 obtain⟨JZ,pg,kg,qg⟩:=Wv (K:=X.K) (Xs:=λz:List (aR×af)×af×List af×ao×Hp=>gU X scope z.1 N z.2.1 z.2.2.1 z.2.2.2.1 z.2.2.2.2) (λ_=>rfl) (λz=>hg z.1 z.2.1 z.2.2.1 z.2.2.2.1 z.2.2.2.2)
 obtain⟨tt,pt,qt⟩:=Wu (K:=X.K) (Xs:=λz:List (aR×af)×af×List af×ao×Hp=>gU X scope z.1 N z.2.1 z.2.2.1 z.2.2.2.1 z.2.2.2.2) (λ_=>rfl) (λz=>ht z.1 z.2.1 z.2.2.1 z.2.2.2.1 z.2.2.2.2)
 obtain⟨te,pe,qe⟩:=Wt (K:=X.K) (Xs:=λz:List (aR×af)×af×List af×ao×Hp=>gU X scope z.1 N z.2.1 z.2.2.1 z.2.2.2.1 z.2.2.2.2) (λ_=>rfl) (λz=>he z.1 z.2.1 z.2.2.1 z.2.2.2.1 z.2.2.2.2)
 refine⟨wi,JZ,tt,te,pi,kg,(λcl C fp s₀ H₀=>pg (cl,C,fp,s₀,H₀)),(λcl C fp s₀ H₀=>pt (cl,C,fp,s₀,H₀)),(λcl C fp s₀ H₀=>pe (cl,C,fp,s₀,H₀)),λF0 B F H ρ σ r Q rs e w=>?_⟩
 obtain⟨ds,h1,h2⟩:=aW e
 by_cases hz:ds.length<=16777216
 case neg=>rw[if_neg hz]at h2;cases h2
 rw[if_pos hz]at h2
 obtain⟨ys,h3,h4⟩:=aW h2
 cases h4
 refine qi F0 B F H ρ σ ds _ rs h1 λJ F1 H1 x1 ok A hA=>?_
 have jW:=rs.ext x1
 refine⟨λi m us H2=>m=ds.length-i/\i<=ds.length/\us.length<=i/\H2 A=some (.lst us)/\∃F2 yd zd fp,fv F1 H1 F2 H2/\F2 A=none/\eG (Ow X.K ct F2 H2 k) yd us fp/\fp.Nodup/\(∀a∈fp,H1 a=none/\a≠A)/\lZ gg p f (aG own none++gx ρ cap) (ds.drop i)=some zd/\yd++zd=ys,
  ⟨ds.length,rfl,cw _,ar _,zw,F1,[],ys,[],fv.newO x1.fh hA _,x1.fh.free hA,.nil,bD,λa z=>(by cases z),h3,rfl⟩,?_⟩
 rintro i m us H2 ⟨rfl,N7,Ot,De,F2,yd,zd,fp,x2,fA,ol,nd,hf,iX,Dr⟩
 refine⟨De,?_⟩
 have Px:=jW.ext x2
 obtain⟨k1,k2⟩:=ok i F2 H2 x2.ff x2.hh x2.fh
 by_cases kR:i<ds.length
 ·right
  have hd:ds[i]?=some ds[i]:=by simp[kR]
  obtain⟨go,yl⟩:=k1 _ hd
  rw[lT kR]at iX
  obtain⟨ρ1,h5,h6⟩:=aW iX
  obtain⟨b,h7,h8⟩:=aW h6
  refine⟨go,by rw[cr];omega,λx H3 y=>?_⟩
  obtain⟨F3,x3,l⟩:=yl x H3 y
  have Py:=Px.ext x3
  have sl:=SL.nones (Gv:=[]) (SL.caps Py mM) (om:=om)
  rw[ho]at sl
  have Pz:RS X.K ct F3 H3 (om++gz ms cap) F3 H3 (aG own none++gx ρ cap) (aG own none++fH σ cap):=⟨.refl _,.refl _,x3.fh,λ_ _ _ _ h=>h,[],sl,bD,λa z=>(by cases z)⟩
  have A3:H3 A=some (.lst us):=x3.hh _ _ De
  have IN:F3 A=none:=x3.nf A _ De nofun fA
  refine qg F3 H3 F3 H3 _ ρ1 _ _ x _ Pz (l.mono (.refl _) (x2.trans x3).hh) h5 λσ1 r1=>?_
  refine qt F3 H3 F3 H3 ρ1 σ1 b _ r1 h7 λF4 H4 x4=>?_
  cases b with
  |false=>
   rw[if_neg aY]at h8 ⊢
   have J5:=x3.trans x4
   refine⟨ds.length-(i+1),by omega,rfl,kR,by omega,x4.hh _ _ A3,F4,yd,zd,fp,x2.trans J5,x4.nf A _ A3 nofun IN,ol.mono λ_ _ _ _ o=>o.ext J5,nd,hf,h8,Dr⟩
  |true=>
   rw[if_pos rfl]at h8 ⊢
   obtain⟨yv,h9,NA⟩:=aW h8
   obtain⟨zs,NB,NC⟩:=aW NA
   cases NC
   refine qe F3 H3 F4 H4 ρ1 σ1 yv _ (r1.ext x4) h9 λv F5 H5 f5 x5 o5 n5 FL=>?_
   have G2:=(x3.trans x4).trans x5
   have J6:=x4.trans x5
   have A5:H5 A=some (.lst us):=J6.hh _ _ A3
   have IP:F5 A=none:=J6.nf A _ A3 nofun IN
   have A4:H4 A=some (.lst us):=x4.hh _ _ A3
   have IT:∀a∈f5,a≠A:=λa z e=>by rw[e]at z;rw[FL A z]at A4;cases A4
   refine⟨A5,ds.length-(i+1),by omega,rfl,kR,by rw[bq,fK];omega,zw,F5,yd++[yv],zs,fp++(f5++[]),?_,IP,?_,?_,?_,NB,by rw[gJ];exact Dr⟩
   ·have DJ:=x2.trans G2
    refine⟨DJ.ff,λa o h=>?_,λa o h=>?_,DJ.nf⟩
    ·rw[zt (yr h hA)];exact DJ.hh _ _ h
    ·rw[zt (λz=>by rw[z]at h;rw[IP]at h;cases h)];exact DJ.fh _ _ h
   ·refine(ol.mono λ_ _ f NX o=>?_).append (.cons ?_ .nil)
    ·refine(o.ext G2).frame (.refl _) λa z=>⟨zt (hf a (NX a z)).2,((o.ext G2).cells a z).1⟩
    ·exact o5.frame (.refl _) λa z=>⟨zt (IT a z),(o5.cells a z).1⟩
   ·rw[bV]
    refine bu.mpr ⟨nd,n5,λa z c hc e=>?_⟩
    subst e
    have:∃o,H2 a=some o:=let⟨o,h,_⟩:=(eG.cellsOf ol a z).2;⟨o,h⟩
    obtain⟨o,ho⟩:=this
    have:=x4.hh _ _ (x3.hh _ _ ho)
    rw[FL a hc]at this
    cases this
   ·intro a z
    rw[bV]at z
    rcases aU.mp z with z|z
    ·exact hf a z
    ·refine⟨?_,IT a z⟩
     have Qq:=x2.trans (x3.trans x4)
     exact Qq.hh.free (FL a z)
 ·left
  refine⟨k2 (by omega),?_⟩
  have:ds.drop i=[]:=nh (by omega)
  rw[this]at iX
  cases iX
  rw[bV]at Dr
  subst Dr
  refine w _ F2 H2 (A::fp) (x1.trans x2) (.inr (.lst fA De ol)) (bW.mpr ⟨λz=>(hf A z).2 rfl,nd⟩) λa z=>?_
  rcases aA.mp z with rfl|z
  ·exact x1.hh.free hA
  ·exact x1.hh.free (hf a z).1
theorem Uo {X:Cx}{ms om:List Mo}{n k:Nat}{iS iter tg:Expr}{ifs:List Expr}{scope:fF}{pos:cG}{N:List aR}{own:Nat}{cap:List Nat}{fi:Env->Option (List D)}{gg:D->Env->Option Env}{p:BF}{f:EF}
  (B:jN X scope N own cap) (hc:X.calm=true) (ho:om.length=own) (mM:∀i∈cap,i<ms.length) (hi:rW X ct ms n tg iter fi)
  (hg:∀cl C fp s₀ H₀,rT (gU X scope cl N C fp s₀ H₀) ct (om++gz ms cap) own n tg gg) (ht:∀cl C fp s₀ H₀,uM (gU X scope cl N C fp s₀ H₀) ct (om++gz ms cap) ifs p) (he:∀cl C fp s₀ H₀,XO (gU X scope cl N C fp s₀ H₀) ct (om++gz ms cap) k iS f)
  (hs:∀x,dB iter X.env x=pure x:=by intro _;rfl):XO X ct ms (k+1) (.ListComp iS [⟨tg,iter,ifs,0⟩] scope pos) (ee fi own cap gg p f):=by
 obtain⟨wi,g,tt,te,pi,kg,pg,pt,pe,q⟩:=Lf (k:=k) (pos:=pos) B hc ho mM hi hg ht he
 exact⟨_,TH B hc pi kg pg pt pe hs,q⟩
end
end L3
namespace L3
open PySem PySem.Spec L2
open PyProof.Rows hiding St
section
variable {X:Cx}{ct:Nat->af}{ms:List Mo}{rk n m k:Nat}{st:cp}{rest:List cp}{a b c e tg:Expr}{f g h:EF}{p q:BF}{u w:SF}{pos:cG}
def C3:D->Option (List D)
 |.lst ds=>some ds
 |_=>none
theorem DT {d:D}{ds:List D}(h:C3 d=some ds):d=.lst ds:=by cases d<;>simp[C3]at h;subst h;rfl
def lsD (f:EF):Env->Option (List D):=λρ=>(f ρ).bind C3
theorem Mi {K:ae}{F B G:Hp}{a:af}{vs:List V}{ds:List D}(hp:Pr (Al K ct F B n) ds vs)(keep:∀F' H',bO F F'->bO B H'->bO F' H'->fw K H' a vs):pH K ct F B n (Eu K a) ds:=by
 intro i F' H' s1 s2 s3
 have hs:fw K H' a vs:=keep F' H' s1 s2 s3
 refine⟨λd hd=>?_,λhl=>⟨vs,hs,by rw[←hp.length];exact hl⟩⟩
 obtain⟨v,hv,l⟩:=hp.get' hd
 refine⟨⟨vs,v,hs,hv⟩,λx H2 y=>?_⟩
 obtain⟨e,y⟩:=y
 subst e
 have:=y vs hs
 rw[hv]at this
 cases this
 exact⟨F',.refl s3,l.mono s1 (.refl _)⟩
theorem Dt.lst_inv {K:ae}{F:Hp}{ds:List D}{v:V}(h:Dt K ct F (.lst ds) v):∃a vs,v=.ref a/\fw K F a vs/\Dts K ct F ds vs:=by
 cases h with
 |lst q t=>exact⟨_,_,rfl,q,t⟩
theorem vh (he:XE X ct ms 0 e f):XI X ct ms 0 tg e (lsD f):=by
 obtain⟨t,pt,qt⟩:=he
 refine⟨_,LD pt,λF0 B F H ρ σ ds R rs e w=>?_⟩
 obtain⟨d,h1,h2⟩:=aW e
 rw[DT h2]at h1
 refine qt F0 B F H ρ σ _ _ rs h1 λv F' H' x l=>?_
 obtain⟨a,vs,rfl,ha,hp⟩:=Dt.lst_inv l
 exact⟨a,rfl,⟨vs,x.fh.seq ha⟩,w _ F' H' x (Mi (G:=H') (n:=0) (hp.pr) λF2 H2 s1 s2 s3=>s3.seq (s1.seq ha))⟩
theorem jy (he:XE X ct ms n e f):rW X ct ms (n-1) tg e (lsD f):=by
 obtain⟨t,pt,qt⟩:=he
 refine⟨_,LD pt,λF0 B F H ρ σ ds R rs e w=>?_⟩
 obtain⟨d,h1,h2⟩:=aW e
 rw[DT h2]at h1
 refine qt F0 B F H ρ σ _ _ rs h1 λv F' H' x l=>?_
 obtain⟨a,vs,rfl,ha,hp⟩:=l.lst x.fh
 exact⟨a,rfl,⟨vs,ha⟩,w _ F' H' x (Mi (G:=H') hp λF2 H2 s1 s2 s3=>s2.seq ha)⟩
theorem XI.cc {fi:Env->Option (List D)}(h:XI X ct ms n tg e fi):rW X ct ms n tg e fi:=by
 obtain⟨t,pt,qt⟩:=h
 refine⟨t,pt,λF0 B F H ρ σ ds R rs e w=>qt F0 B F H ρ σ ds R rs e λJ F' H' x ok=>w J F' H' x λi F2 H2 s1 s2 s3=>?_⟩
 obtain⟨k1,k2⟩:=ok i F2 H2 s1 ((rs.ext x).bh.trans s2) s3
 refine⟨λd hd=>?_,k2⟩
 obtain⟨go,yl⟩:=k1 d hd
 refine⟨go,λv H3 y=>?_⟩
 obtain⟨F3,x3,l⟩:=yl v H3 y
 exact⟨F3,x3,l.mono (.refl _) (rs.ext x).bh⟩
def gP (lo:Int)(j:Nat):List D:=(az j).map λ(t:Nat)=>.int (lo+(t:Int))
def iL:List D->Option (List D)
 |[.int j]=>if -4611686018427387904<=j/\j<4611686018427387904 then some (gP 0 j.toNat)else none
 |_=>none
theorem Vd {K:ae}{F B:Hp}{lo:Int}{j:Nat}:pH K ct F B n (CY lo j) (gP lo j):=by
 intro i F' H' s1 s2 s3
 unfold gP
 refine⟨λd hd=>?_,λhl=>(show j<=i by simpa using hl)⟩
 rw[aM]at hd
 by_cases h:i<j
 ·rw[dz h]at hd
  cases hd
  refine⟨h,λx H2 y=>?_⟩
  obtain⟨e,y⟩:=y
  subst e
  subst y
  exact⟨F',.refl s3,Al.of (.int _)⟩
 ·rw[dc (by simpa using h)]at hd
  cases hd
theorem wj {fs:Env->Option (List D)}{pp:cG}(hm:X.mg "range"=none)(ha:XA X ct ms [a] [m] fs)(hg:Gl X "range":=by rfl)(hs:aw [a] X.env=[(false,bS a X.env)]:=by rfl):XI X ct ms n tg (.Call (.Name "range" pp) [a] [] pos) (λρ=>(fs ρ).bind iL):=by
 obtain⟨t,pt,_,qt⟩:=ha
 refine⟨_,RI hg hm pt hs,λF0 B F H ρ σ ds R rs e w=>?_⟩
 obtain⟨kP,h1,h2⟩:=aW e
 refine qt F0 B F H ρ σ _ _ rs h1 λvs F' H' x l=>?_
 cases l with
 |cons h t=>
  cases t
  rename_i d v
  cases d with
  |int j=>
   unfold iL at h2
   dsimp only at h2
   by_cases hj:-4611686018427387904<=j/\j<4611686018427387904
   ·rw[if_pos hj]at h2
    cases h2
    exact⟨j,by rw[h.int],by omega,by omega,w _ F' H' x Vd⟩
   ·rw[if_neg hj]at h2;cases h2
  |_=>cases h2
def eM (i:Nat):List D->List D
 |[]=>[]
 |d::ds=>.tup [.int i,d]::eM (i+1) ds
theorem G9:∀{ds:List D} {j i:Nat} {d:D},(eM j ds)[i]?=some d->∃x,ds[i]?=some x/\d=.tup [.int (j+i:Nat),x]
 |[],_,_,_,h=>by simp[eM]at h
 |x::ds,j,0,d,h=>by simp[eM]at h;subst h;exact⟨x,rfl,rfl⟩
 |x::ds,j,i+1,d,h=>by
  obtain⟨y,h1,h2⟩:=G9 (ds:=ds) (j:=j+1) (i:=i) (d:=d) (by simpa[eM]using h)
  exact⟨y,by simpa using h1,by rw[h2,Nat.add_assoc,Nat.add_comm 1 i]⟩
theorem KZ:∀{ds:List D} {j:Nat},(eM j ds).length=ds.length
 |[],_=>rfl
 |_::ds,j=>by simp[eM,KZ (ds:=ds)]
theorem Mj {K:ae}{F B:Hp}{a:af}{vs:List V}{ds:List D}(hp:Pr (Al K ct F B n) ds vs)(keep:∀F' H',bO F F'->bO B H'->bO F' H'->fw K H' a vs):pH K ct F B (n+1) (Et K a) (eM 0 ds):=by
 intro i F' H' s1 s2 s3
 have hs:fw K H' a vs:=keep F' H' s1 s2 s3
 refine⟨λd hd=>?_,λhl=>⟨vs,hs,by rw[←hp.length];rw[KZ]at hl;exact hl⟩⟩
 obtain⟨x,hx,rfl⟩:=G9 hd
 obtain⟨v,hv,l⟩:=hp.get' hx
 refine⟨⟨vs,v,hs,hv⟩,λz H2 y=>?_⟩
 obtain⟨r,y',hr,rfl,rfl,y⟩:=y
 have:=y vs hs
 rw[hv]at this
 cases this
 refine⟨_,fv.newS s3 hr _,.inr (.tup zw (.cons (Al.of ?_) (.cons (l.mono (s1.trans (qv (s3.free hr) _)) (.refl _)) .nil)))⟩
 rw[Nat.zero_add]
 exact .int _
theorem LF {fs:Env->Option (List D)}{mJ:List Expr}{kt:Nat}{pt pp:cG}(hm:X.mg "enumerate"=none)(ha:XA X ct ms [a] [0] fs)(hg:Gl X "enumerate":=by rfl)(hs:aw [a] X.env=[(false,bS a X.env)]:=by rfl) :
  XI X ct ms 1 (.Tuple mJ kt pt) (.Call (.Name "enumerate" pp) [a] [] pos) (λρ=>(fs ρ).bind λds=>match ds with|[.lst xs]=>some (eM 0 xs)|_=>none):=by
 obtain⟨t,pt,_,qt⟩:=ha
 refine⟨_,LJ hg hm pt hs,λF0 B F H ρ σ ds R rs e w=>?_⟩
 obtain⟨kP,h1,h2⟩:=aW e
 refine qt F0 B F H ρ σ _ _ rs h1 λvs F' H' x l=>?_
 cases l with
 |cons h t=>
  cases t
  rename_i d v
  cases d with
  |lst xs=>
   cases h2
   obtain⟨a,vs,rfl,ha,hp⟩:=Dt.lst_inv h
   exact⟨a,rfl,⟨vs,x.fh.seq ha⟩,w _ F' H' x (Mj (n:=0) hp.pr λF2 H2 s1 s2 s3=>s3.seq (s1.seq ha))⟩
  |_=>cases h2
theorem S1 {fs:Env->Option (List D)}{mJ:List Expr}{kt:Nat}{pt pp:cG}(hm:X.mg "enumerate"=none)(ha:XA X ct ms [a] [n] fs)(hg:Gl X "enumerate":=by rfl)(hs:aw [a] X.env=[(false,bS a X.env)]:=by rfl) :
  rW X ct ms (n-1+1) (.Tuple mJ kt pt) (.Call (.Name "enumerate" pp) [a] [] pos) (λρ=>(fs ρ).bind λds=>match ds with|[.lst xs]=>some (eM 0 xs)|_=>none):=by
 obtain⟨t,pt,_,qt⟩:=ha
 refine⟨_,LJ hg hm pt hs,λF0 B F H ρ σ ds R rs e w=>?_⟩
 obtain⟨kP,h1,h2⟩:=aW e
 refine qt F0 B F H ρ σ _ _ rs h1 λvs F' H' x l=>?_
 cases l with
 |cons h t=>
  cases t
  rename_i d v
  cases d with
  |lst xs=>
   cases h2
   obtain⟨a,vs,rfl,ha,hp⟩:=h.lst x.fh
   exact⟨a,rfl,⟨vs,ha⟩,w _ F' H' x (Mj hp λF2 H2 s1 s2 s3=>s2.seq ha)⟩
  |_=>cases h2
end
end L3
namespace L3
open PySem PySem.Spec L2
open PyProof.Rows hiding St
section
variable {X:Cx}{ct:Nat->af}{ms:List Mo}{rk n m k:Nat}{st:cp}{rest:List cp}{a b c e tg:Expr}{f g h:EF}{p q:BF}{u w:SF}{pos:cG}
theorem Ow.lst_inv {K:ae}{F H:Hp}{ds:List D}{v:V}{fp:List af}(h:Ow K ct F H (k+1) (.lst ds) v fp):∃a vs fr,v=.ref a/\fp=a::fr/\F a=none/\H a=some (.lst vs)/\eG (Ow K ct F H k) ds vs fr:=by
 rcases h with⟨h,_⟩|h
 ·cases h
 ·cases h with
  |lst h1 h2 h3=>exact⟨_,_,_,rfl,rfl,h1,h2,h3⟩
theorem Ow.dK_inv {K:ae}{F H:Hp}{ks:List dw}{ds:List D}{v:V}{fp:List af}(h:Ow K ct F H (k+1) (.dK ks ds) v fp):∃a vs fr,v=.ref a/\fp=a::fr/\F a=none/\H a=some (.dK (ks.zip vs))/\ks.length=vs.length/\eG (Ow K ct F H k) ds vs fr:=by
 rcases h with⟨h,_⟩|h
 ·cases h
 ·cases h with
  |dK h1 h2 h3 h4=>exact⟨_,_,_,rfl,rfl,h1,h2,h3,h4⟩
theorem Ow.dT_inv {K:ae}{F H:Hp}{ks:List (List dw)}{ds:List D}{v:V}{fp:List af}(h:Ow K ct F H (k+1) (.dT ks ds) v fp):∃a vs fr,v=.ref a/\fp=a::fr/\F a=none/\H a=some (.dT (ks.zip vs))/\ks.length=vs.length/\eG (Ow K ct F H k) ds vs fr:=by
 rcases h with⟨h,_⟩|h
 ·cases h
 ·cases h with
  |dT h1 h2 h3 h4=>exact⟨_,_,_,rfl,rfl,h1,h2,h3,h4⟩
theorem RS.change {K:ae}{F0 B F H F' H':Hp}{ρ:Env}{σ:St}{i:Nat}{d':D}{v:V}{f1 fr fn:List af}{ad:af}{o:HO}(rs:RS K ct F0 B ms F H ρ σ)(hm:ms[i]?=some (.ow k))(x:fv F H F' H')
  (hσ:σ[i]?=some (some v)) (b1:∀a∈f1,B a=none) (dj:∀a∈f1,a∉fr) (cf:∀a∈fr,F a=none/\∃o,H a=some o/\jD o)
  (put:∀(F' H':Hp) (d':D) (v':V) (f':List af),bO F F'->bO B H'->bO F' H'->(∀a o,B a=some o->jD o->F0 a=none->F' a=none)->(∀a∈fr,H' a=H a/\F' a=none)->Ow K ct F' H' k d' v' f'->f'.Nodup->(∀a∈f',a∉fr)->(∀a∈f',B a=none) ->
    RS K ct F0 B ms F' H' (ρ.set i (some d')) (σ.set i (some v')))
  (IW:ad∈f1) (Nt:F' ad=none) (o':Ow K ct F' (upd H' ad o) k d' v fn) (nd:fn.Nodup) (xH:∀a∈fn,a∈f1\/H a=none):RS K ct F0 B ms F' (upd H' ad o) (ρ.set i (some d')) σ:=by
 have r:=rs.ext x
 have hB:B ad=none:=b1 ad IW
 have res:=put F' (upd H' ad o) d' v fn x.ff (λz u h=>by rw[zt (λe=>by rw[e,hB]at h;cases h)];exact r.bh _ _ h) (λz u h=>by rw[zt (λe=>by rw[e,Nt]at h;cases h)];exact x.fh _ _ h) r.nf
  (λz hz=>by
   obtain⟨hn,o,ho,nt⟩:=cf z hz
   refine⟨?_,x.nf z o ho nt hn⟩
   have ne:z≠ad:=λe=>dj ad IW (by rw[←e];exact hz)
   rw[zt ne]
   exact(x.hh _ _ ho).trans ho.symm) o' nd
  (λz hz zr=>by
   rcases xH z hz with h|h
   ·exact dj z h zr
   ·obtain⟨_,o,ho,nt⟩:=cf z zr
    rw[h]at ho
    cases ho)
  (λz hz=>(xH z hz).elim (b1 z) λh=>rs.bh.free h)
 have e:σ.set i (some v) = σ:=by
  apply fz
  intro j
  by_cases hj:i=j
  ·subst hj
   rw[iq (by
    have:=aC.mp hσ
    exact this.1),hσ]
  ·rw[fV hj]
 rw[e]at res
 exact res
def sApp (i:Nat)(f:EF):SF:=λρ=>(eV i ρ).bind λo=>(f ρ).bind λd=>match o with
 |.lst ds=>if ds.length<16777216 then some (.nx (ρ.set i (some (.lst (ds++[d])))))else none
 |_=>none
theorem Ha (i:Nat){x:aR}{p1 dE d9:cG}(hm:ms[i]?=some (.ow (k+1)))(he:XO X ct ms k e f)(hN:X.N[i]?=some x:=by rfl)(hv:pK X.env.scope x:=by first|exact Or.inl rfl|exact Or.inr (Or.inl rfl)|exact Or.inr (Or.inr rfl))(hd:(x==("__debug__":aR))=false:=by decide)
  (iX:(x==("__classdict__":aR))=false:=by decide) (mQ:aw [e] X.env=(false,bS e X.env)::aw [] X.env:=by rfl)
  (qI:e9 (.Name x p1) "append" X.env (bS (.Name x p1) X.env)=bS (.Name x p1) X.env:=by rfl)
  (vT:((cD d9 (aw [e] X.env)).all (λx=>!x.1)&&(fk d9 (dH [] X.env)).all (λx=>x.1.isSome)
   && decide ([e].length+([]:List iu).length+(if([]:List iu).isEmpty then 0 else 1)<30))=true:=by rfl)
  (qO:(dE.endLine==d9.line)=true:=by rfl) (oF:(cD d9 (aw [] X.env)).any (·.1)=false:=by rfl)
  (wC:eE (.Call (.Attribute (.Name x p1) "append" dE) [e] [] d9) none pos.line X.env=pure false:=by rfl) :
  XS X ct ms rk (.Expr (.Call (.Attribute (.Name x p1) "append" dE) [e] [] d9) pos) (sApp i f):=by
 obtain⟨t,pt,qt⟩:=he
 refine⟨_,LB (Wk PySem.F.plainAttrs_list PySem.F.slot_list_append PySem.F.type_list_append G8 (j9 hN hv hd iX) (uz pt xU mQ) qI vT qO mQ oF) wC,λF0 B F H ρ σ o E rs e z=>?_⟩
 obtain⟨d1,d2,h1,h2,h3⟩:=dO e
 obtain⟨f1,fr,n1,b1,dj,i4,cf,put⟩:=rs.put (F':=F) (H':=H) hm
 obtain⟨v,hσ,ow⟩:=i4 d1 (xu h1)
 refine⟨v,hσ,?_⟩
 cases d1 with
 |lst ds=>
  dsimp only at h3
  by_cases hz:ds.length<16777216
  ·rw[if_pos hz]at h3
   cases h3
   obtain⟨ad,vs,sg,rfl,rfl,hF,hH,ol⟩:=ow.lst_inv
   refine⟨.inl ⟨rfl,_,fw.of hH⟩,qt F0 B F H ρ σ d2 _ rs h2 λv2 F' H' fp x1 o2 OC FK=>?_⟩
   have hA:H' ad=some (.lst vs):=x1.hh _ _ hH
   have fA:F' ad=none:=x1.nf ad _ hH nofun hF
   have nA:∀a∈fp,a≠ad:=λa hz e=>by rw[e]at hz;rw[FK ad hz]at hH;cases hH
   have xL:=bW.mp n1
   refine⟨ad,vs,v2,rfl,rfl,hA,by rw[←ol.length,cr];exact hz,?_⟩
   refine z σ F' _ (rs.change hm x1 hσ b1 dj cf put am fA (.inr (.lst fA zw ((ol.mono λ_ _ f' hi o'=>?_).append (.cons (f:=fp) ?_ .nil)))) (fn:=ad::(sg++(fp++[]))) ?_ ?_)
   ·refine(o'.ext x1).frame (.refl _) λa ha=>⟨zt λe=>xL.1 (e▸hi a ha),((o'.ext x1).cells a ha).1⟩
   ·exact o2.frame (.refl _) λa ha=>⟨zt (nA a ha),(o2.cells a ha).1⟩
   ·rw[bV]
    refine bW.mpr ⟨λhz=>?_,bu.mpr ⟨xL.2,OC,λa ha b hb e=>?_⟩⟩
    ·rcases aU.mp hz with hz|hz
     ·exact xL.1 hz
     ·exact nA ad hz rfl
    ·subst e
     obtain⟨_,o,ho,_⟩:=eG.cellsOf ol a ha
     rw[FK a hb]at ho
     cases ho
   ·intro a ha
    rw[bV]at ha
    rcases aA.mp ha with rfl|ha
    ·exact .inl am
    ·rcases aU.mp ha with ha|ha
     ·exact .inl (ap _ ha)
     ·exact .inr (FK a ha)
  ·rw[if_neg hz]at h3;cases h3
 |_=>cases h3
def iM (ds:List D)(i:Int)(d:D):Option (List D):=(ixN ds.length i).bind λj=>some (ds.set j d)
def ef {κ:Type}[DecidableEq κ](ks:List κ)(ds:List D)(k:κ)(d:D):List κ×List D:=if ks.contains k=true then(ks,(ks.zip ds).map λp=>if p.1=k then d else p.2)else(ks++[k],ds++[d])
def mn (i:Nat)(fj f:EF):SF:=λρ=>(f ρ).bind λd=>(eV i ρ).bind λo=>(fj ρ).bind λj=>match o,j with
 |.lst ds,.int z=>(iM ds z d).bind λkP=>some (.nx (ρ.set i (some (.lst kP))))
 |_,_=>none
theorem eG.set0 {R:D->V->List af->Prop}{d:D}{v:V}(r:R d v [])(z:∀d v f,R d v f->f=[]):∀{ds:List D} {vs:List V} {fp:List af} (i:Nat),eG R ds vs fp->eG R (ds.set i d) (vs.set i v) []
 |_,_,_,_,.nil=>.nil
 |_,_,_,0,.cons h t=>by
  have:=eG.cons (f:=[]) (g:=[]) r (eG.ofPr (t.pr λd v f _ q=>by have:=z _ _ _ q;subst this;exact q))
  exact this
 |_,_,_,i+1,.cons h t=>by
  have e:=z _ _ _ h
  subst e
  exact eG.cons (f:=[]) (g:=[]) h (eG.set0 r z i t)
theorem Ow.nil0 {K:ae}{F H:Hp}{d:D}{v:V}{fp:List af}(h:Ow K ct F H 0 d v fp):fp=[]:=h.2
theorem eG.nil0 {K:ae}{F H:Hp}{ds:List D}{vs:List V}{fp:List af}(h:eG (Ow K ct F H 0) ds vs fp):fp=[]:=by
 induction h with
 |nil=>rfl
 |cons h t ih=>rw[h.nil0,ih];rfl
theorem LG (i:Nat){x:aR}{j:Expr}{p1 fD:cG}{fj:EF}(hm:ms[i]?=some (.ow 1))(hj:XE X ct ms n j fj)(he:XE X ct ms 0 e f)(hN:X.N[i]?=some x:=by rfl)(hv:pK X.env.scope x:=by first|exact Or.inl rfl|exact Or.inr (Or.inl rfl)|exact Or.inr (Or.inr rfl))(hd:(x==("__debug__":aR))=false:=by decide)
  (iX:(x==("__classdict__":aR))=false:=by decide)
  (ha:∀v,eQ (.Subscript (.Name x p1) j fD) X.env v=(do
   let ov ← dm [v] (bS (.Name x p1) X.env)
   let iv ← dm [v,ov] (bS j X.env)
   fT fD
   dm [v,ov,iv] (ka ov iv v)
   nn [v,ov,iv] []):=by intro _;rfl)
  (hs:fu [.Subscript (.Name x p1) j fD] e pos.line X.env=pure false:=by rfl) (hw:fq [.Subscript (.Name x p1) j fD] e X.env=pure none:=by rfl)
  (h1:(cn [.Subscript (.Name x p1) j fD] X.env).map (·.2)=[eQ (.Subscript (.Name x p1) j fD) X.env]:=by rfl) :
  XS X ct ms rk (.Assign [.Subscript (.Name x p1) j fD] e pos) (mn i fj f):=by
 obtain⟨t,pt,qt⟩:=he
 obtain⟨tj,sI,sJ⟩:=hj
 refine⟨_,D7 pt (HH (j9 hN hv hd iX) sI DM ha) hs hw h1,λF0 B F H ρ σ o E rs e z=>?_⟩
 obtain⟨d,g1,g2⟩:=aW e
 obtain⟨d1,oZ,g3,g4,g5⟩:=dO g2
 refine qt F0 B F H ρ σ d _ rs g1 λv0 F1 H1 x1 l0=>?_
 have jW:=rs.ext x1
 obtain⟨f1,fr,n1,b1,dj,i4,cf,put⟩:=jW.put (F':=F) (H':=H) hm
 obtain⟨v,hσ,ow⟩:=i4 d1 (xu g3)
 refine⟨v,hσ,sJ F0 B F1 H1 ρ σ oZ _ jW g4 λvj F2 H2 x2 lj=>?_⟩
 cases d1 with
 |lst ds=>
  cases oZ with
  |int zi=>
   obtain⟨kP,g6,g7⟩:=aW g5
   cases g7
   obtain⟨jn,g8,g9⟩:=aW g6
   cases g9
   obtain⟨ad,vs,sg,rfl,rfl,hF,hH,ol⟩:=ow.lst_inv
   have hA:H2 ad=some (.lst vs):=x2.hh _ _ hH
   have fA:F2 ad=none:=x2.nf ad _ hH nofun hF
   have e0:=ol.nil0
   subst e0
   refine⟨ad,vs,zi,jn,rfl,lj.int,hA,by rw[←ol.length];exact g8,?_⟩
   refine z σ F2 _ (jW.change hm x2 hσ b1 dj cf put am fA (.inr (.lst fA zw (eG.set0 ⟨Dt.mono x2.ff l0,rfl⟩ (λ_ _ _ q=>q.2) jn (ol.mono λ_ _ _ _ q=>⟨q.1.mono x2.ff,q.2⟩)))) (fn:=[ad]) (by simp) ?_)
   intro a ha
   rw[aJ]at ha
   subst ha
   exact .inl am
  |_=>cases g5
 |_=>cases g5
end
end L3
namespace L3
open PySem PySem.Spec L2
open PyProof.Rows hiding St
section
variable {X:Cx}{ct:Nat->af}{ms:List Mo}{rk n m k:Nat}{st:cp}{rest:List cp}{a b c e tg:Expr}{f g h:EF}{p q:BF}{u w:SF}{pos:cG}{K:ae}
theorem Gu {ah:List (af×cP)}{σ:St}{H:Hp}{s:ao}{l:af}{xs:List V}(I:Inv X ah σ H s)(hH:Rd H l (.lst xs)):xs.length<=sizeLine/\∃(cq:List aa) (n:Nat),bR xs cq/\xs.length=cq.length/\s.heap.get? l=some { cls:=.type "list",data:=.seq cq.toArray n }:=by
  obtain⟨z,cq,n,r,e⟩:=hH.ok I.hok
  exact⟨z,cq,n,r,r.length,e⟩
def tV (K:ae):R2:=λx y H Q=>∃l b xs zs,x=.ref l/\y=.ref b/\fw K H l xs/\fw K H b zs/\xs.length+zs.length<=sizeLine/\∀p,H p=none->Q (.ref p) (upd H p (.lst (xs++zs)))
theorem Up:fU X (dQ .Add) (tV X.K):=by
 intro ah s σ H x y v u Q I rx ry h
 obtain⟨l,b,xs,zs,rfl,rfl,hH,hB,hz,q⟩:=h
 cases rx
 cases ry
 obtain⟨cq,r,⟨⟨cls,dd,data,sl⟩,n,e,c1,c2,c3⟩,z⟩:=I.list hH
 obtain⟨sk,r2,⟨⟨ES,tE,data2,Ck⟩,n2,e2,c4,c5,c6⟩,z2⟩:=I.list hB
 simp only at c1 c3 c4 c6
 subst c1 c3 c4 c6
 have hl:=r.length
 have sj:=r2.length
 refine pX ⟨_,e,rfl⟩ ⟨_,e2,rfl⟩ noFill_list_add seq_list_add PySem.F.slot_list_add PySem.F.entry_list_add (PySem.F.args_list_add_2 _ _) (list_addW l b cq.toArray sk.toArray n n2 dd tE sl Ck (by rw[aN,aN];omega)) ⟨e,e2,?_⟩
 have ea:cq.toArray++sk.toArray=(cq++sk).toArray:=by simp
 rw[ea]
 exact⟨.ref _,_,I.lnew (t':=s.toks) (r.append r2) (by rw[bq];omega),rfl,q _ I.fresh⟩
def Ca:R2:=λx y H Q=>∃i j,x=.str i/\y=.str j/\i.length+j.length<=sizeLine/\Q (.str (i++j)) H
def wL (K:ae):R2:=λx y H Q=>nZ (λi j=>.int (i+j)) x y H Q\/Ca x y H Q\/tV K x y H Q\/tW K x y H Q
theorem Uq:fU X (dQ .Add) (wL X.K):=fU.or Vh (fU.or Rk (fU.or Up Tv))
def eX:D->D->Option D
 |.int i,.int j=>some (.int (i+j))
 |.str x,.str y=>if x.length+y.length<=16777216 then some (.str (x++y))else none
 |.lst xs,.lst ys=>if xs.length+ys.length<=16777216 then some (.lst (xs++ys))else none
 |.tup xs,.tup ys=>if xs.isEmpty=false/\ys.isEmpty=false/\xs.length+ys.length<=1000000 then some (.tup (xs++ys))else none
 |_,_=>none
theorem Pr.ow0 {F G H:Hp}{ds:List D}{vs:List V}(h:Pr (Al K ct F G 0) ds vs):eG (Ow K ct F H 0) ds vs []:=eG.ofPr (h.mono λ_ _ q=>⟨q,rfl⟩)
theorem Al.lst1 {F G:Hp}{ds:List D}{v:V}(hn:n<=1)(h:Al K ct F G n (.lst ds) v)(s:bO F G):∃a vs,v=.ref a/\fw K G a vs/\Pr (Al K ct F G 0) ds vs:=by
 obtain⟨a,vs,e,h1,h2⟩:=h.lst s
 have:n-1=0:=by omega
 rw[this]at h2
 exact⟨a,vs,e,h1,h2⟩
theorem Al.tup1 {F G:Hp}{ds:List D}{v:V}(hn:n<=1)(h:Al K ct F G n (.tup ds) v)(s:bO F G):∃a vs,v=.ref a/\G a=some (.tup vs)/\Pr (Al K ct F G 0) ds vs:=by
 obtain⟨a,vs,e,h1,h2⟩:=h.tup s
 have:n-1=0:=by omega
 rw[this]at h2
 exact⟨a,vs,e,h1,h2⟩
theorem u0 {F H:Hp}{ds:List D}{vs:List V}{Q:VK}(s:bO F H)(hp:Pr (Al K ct F H 0) ds vs)(w:∀v F' H' fp,fv F H F' H'->Ow K ct F' H' 1 (.lst ds) v fp->fp.Nodup->(∀a∈fp,H a=none)->Q v H'):∀p,H p=none->Q (.ref p) (upd H p (.lst vs)):=λp h0=>by
 obtain⟨o,nd⟩:=LO s (hp.ow0 (H:=H)) h0
 exact w _ F _ [p] (fv.newO s h0 _) o (nd bD) λa z=>by rw[aJ]at z;subst z;exact h0
theorem Ur (hn:n<=1)(hm:m<=1):yL K ct n m 1 (wL K) eX:=by
 intro F H x y d1 d2 d Q s l1 l2 e w
 have ws:∀d v,d.sc=true->Dt K ct F d v->(∀v F' H' fp,fv F H F' H'->Ow K ct F' H' 1 d v fp->fp.Nodup->(∀a∈fp,H a=none)->Q v H')->Q v H:=λd v hs hd w=>w v F H [] (.refl s) (Ow.scal hd hs) bD λa z=>(by cases z)
 cases d1 with
 |int i=>
  cases d2 with
  |int j=>cases e;exact .inl ⟨i,j,l1.int,l2.int,ws _ _ rfl (.int _) w⟩
  |_=>cases e
 |str i=>
  cases d2 with
  |str j=>
   unfold eX at e
   dsimp only at e
   by_cases hz:i.length+j.length<=16777216
   ·rw[if_pos hz]at e
    cases e
    exact .inr (.inl ⟨i,j,l1.str,l2.str,by rw[cr];exact hz,ws _ _ rfl (.str _) w⟩)
   ·rw[if_neg hz]at e;cases e
  |_=>cases e
 |lst xs=>
  cases d2 with
  |lst ys=>
   unfold eX at e
   dsimp only at e
   by_cases hz:xs.length+ys.length<=16777216
   ·rw[if_pos hz]at e
    cases e
    obtain⟨a,vs,rfl,ha,hp⟩:=Al.lst1 hn l1 s
    obtain⟨b,us,rfl,hb,hq⟩:=Al.lst1 hm l2 s
    exact .inr (.inr (.inl ⟨a,b,vs,us,rfl,rfl,ha,hb,by rw[←hp.length,←hq.length,cr];exact hz,u0 s (hp.append hq) w⟩))
   ·rw[if_neg hz]at e;cases e
  |_=>cases e
 |tup xs=>
  cases d2 with
  |tup ys=>
   unfold eX at e
   dsimp only at e
   by_cases hz:xs.isEmpty=false/\ys.isEmpty=false/\xs.length+ys.length<=1000000
   ·rw[if_pos hz]at e
    cases e
    obtain⟨a,vs,rfl,ha,hp⟩:=Al.tup1 hn l1 s
    obtain⟨b,us,rfl,hb,hq⟩:=Al.tup1 hm l2 s
    have hl:=hp.length
    have sj:=hq.length
    have e1:vs≠[]:=λz=>by
     rw[z]at hl
     have:=dX.mp hl
     rw[this]at hz
     exact absurd hz.1 (by decide)
    have e2:us≠[]:=λz=>by
     rw[z]at sj
     have:=dX.mp sj
     rw[this]at hz
     exact absurd hz.2.1 (by decide)
    refine .inr (.inr (.inr ⟨a,b,vs,us,rfl,rfl,jJ.of ha,jJ.of hb,e1,by rw[←hl,←sj,cr];omega,λz=>absurd z e2,λ_ p h0=>?_⟩))
    have x2:=fv.newS s h0 (.tup (vs++us))
    exact w _ _ _ [] x2 (.inr (.tup zw (eG.ofPr ((hp.append hq).mono λ_ _ q=>⟨Dt.mono x2.ff q,rfl⟩)))) bD λa z=>(by cases z)
   ·rw[if_neg hz]at e;cases e
  |_=>cases e
 |_=>cases e
def Cg:R2:=λx y H Q=>∃l k xs,x=.ref l/\y=.int k/\Rd H l (.lst xs)/\-(2 ^ 63)<=k/\k<2 ^ 63/\xs.length*k.toNat<=sizeLine /\
 ∀p,H p=none->Q (.ref p) (upd H p (.lst (aG k.toNat xs).flatten))
theorem Us:fU X (dQ .Mult) Cg:=by
 intro ah s σ H x y v u Q I rx ry h
 obtain⟨l,k,xs,rfl,rfl,hH,h1,h2,hz,q⟩:=h
 cases rx
 obtain⟨t,rfl⟩:=ry
 obtain⟨z,cq,n,r,hl,e⟩:=Gu I hH
 have er:cq.toArray.size*k.toNat<=sizeLine:=by rw[aN,←hl];exact hz
 have mM:¬cq.toArray.size*k.toNat > (2 ^ 63-1)/8:=by
  have:(sizeLine:Nat)<=(2 ^ 63-1)/8:=by decide
  omega
 have FM:¬(!ck.List.listFitsIndex k)=true:=by
  rw[fitsIndex_both h1 h2]
  exact aY
 have AR:¬ck.List.listTooLong (cq.toArray.size*k.toNat)=true:=by
  rw[qX er]
  exact aY
 have FX:pv (λx1 x2=>x1++x2) #[] (aG (if cq.toArray.isEmpty=true then 0 else k.toNat) cq.toArray)=(aG k.toNat cq).flatten.toArray:=by
  have f0:∀m:Nat,pv (λx1 x2=>x1++x2) #[] (aG m cq.toArray)=(aG m cq).flatten.toArray:=λm=>by
   have:=foldl_rep cq m []
   rw[List.nil_append]at this
   exact this
  rw[f0]
  cases cq with
  |nil=>simp
  |cons a r'=>rw[if_neg (by simp)]
 refine wpAny_binaryOp_repeat_ref (T:="list") (U:="int") (by decide) ⟨_,e,rfl⟩ (λs'=>sY s' k t) noFill_list_mul F.fills_int_mul F.slot_int_rmul repeat_list F.slot_int_index.lookup
  (sX F.slot_int_rmul (sY s k t) F.entry_int_rmul (F.args_int_rmul_2 _ _) (int___rmul___int_list k t l cq.toArray n)
   ⟨e,rfl,⟨_,e,rfl⟩,sX F.slot_list_mul ⟨_,e,rfl⟩ F.entry_list_mul (F.args_list_mul_2 _ _) (AutoListH.list___mul___list_int_3 l cq.toArray n k t FM mM AR) ⟨e,?_⟩⟩)
 rw[FX]
 exact⟨.ref _,_,I.lnew (t':=s.toks) (r.rep k.toNat) (by rw[Tx,Nat.mul_comm];exact hz),rfl,q _ I.fresh⟩
theorem u4:kY K ct n m k (rI lX λi j=>.int (i*j)) hV:=Ui
def jS:D->D->Option D
 |.lst xs,.int j=>if -1000000<j/\j<1000000/\xs.length<=16 then some (.lst (aG j.toNat xs).flatten)else none
 |_,_=>none
theorem Ef (ha:XO X ct ms 1 a f)(hb:XE X ct ms m b g):XO X ct ms 1 (.BinOp a .Mult b pos) (e2 jS f g):=by
 obtain⟨ta,pa,qa⟩:=ha
 obtain⟨tb,pb,qb⟩:=hb
 refine⟨_,HU Us pa pb,λF0 B F H ρ σ d Q rs e w=>?_⟩
 obtain⟨d1,d2,h1,h2,h3⟩:=dO e
 refine qa F0 B F H ρ σ d1 _ rs h1 λv F1 H1 fp x1 o nd hf=>?_
 refine qb F0 B F1 H1 ρ σ d2 _ (rs.ext x1) h2 λv2 F2 H2 x2 l2=>?_
 cases d1 with
 |lst xs=>
  cases d2 with
  |int j=>
   unfold jS at h3
   dsimp only at h3
   by_cases hz:-1000000<j/\j<1000000/\xs.length<=16
   ·rw[if_pos hz]at h3
    cases h3
    obtain⟨ad,vs,fr,rfl,rfl,hF,hH,ol⟩:=(o.ext x2).lst_inv
    have hp:Pr (Al X.K ct F2 H2 0) xs vs:=ol.pr λ_ _ _ _ q=>q.1
    have J4:=x1.trans x2
    refine⟨ad,j,vs,rfl,l2.int,.inl hH,by omega,by omega,?_,u0 x2.fh (hp.rep _) λv F' H' fp x o nd hf=>w v F' H' fp (J4.trans x) o nd λz hz=>J4.hh.free (hf z hz)⟩
    rw[←hp.length,cr]
    have h1:j.toNat<=1000000:=by omega
    have h2:xs.length*j.toNat<=16*1000000:=lW hz.2.2 h1
    omega
   ·rw[if_neg hz]at h3;cases h3
  |_=>cases h3
 |_=>cases h3
def qV:D->Option D
 |.int i=>some (.int (-i))
 |_=>none
theorem HI (ha:XE X ct ms n a f):XE X ct ms k (.UnaryOp .USub a pos) (e1 qV f):=by
 refine Wq Vk (λF H x d1 d Q s l e w=>?_) ha
 cases d1 with
 |int i=>cases e;exact⟨i,l.int,w _ F H (.refl s) (Al.of (.int _))⟩
 |_=>cases e
theorem CJ {x:aR}{d:D}{u:aa}(hg:Gl X x)(hm:X.mg x=some u)(hs:d.sc=true)(r:RelV d.v u)(hd:(x==("__debug__":aR))=false:=by decide):XE X ct ms n (.Name x pos) (eC d):=by
 refine⟨_,LA hg hm r hd,λF0 B F H ρ σ d' Q rs e w=>?_⟩
 cases e
 refine w _ F H (.refl rs.fh) (Al.of ?_)
 cases d with
 |non=>exact .non
 |bl b=>exact .bl b
 |int b=>exact .int b
 |str b=>exact .str b
 |_=>cases hs
def jR:List D->Option D
 |[.lst ds]=>some (.lst ds)
 |[.tup ds]=>some (.lst ds)
 |_=>none
theorem DU (hn:n<=1):pJ K ct [n] 1 (λxs H Q=>∃p ys,xs=[.ref p]/\(fw K H p ys\/jJ K H p ys)/\∀l,H l=none->Q (.ref l) (upd H l (.lst ys))) jR:=by
 intro F H vs ds d Q s l e w
 cases l with
 |cons h t=>
  cases t
  rename_i d1 v
  cases d1 with
  |lst xs=>
   cases e
   obtain⟨a,us,rfl,ha,hp⟩:=Al.lst1 hn h s
   exact⟨a,us,rfl,.inl ha,u0 s hp w⟩
  |tup xs=>
   cases e
   obtain⟨a,us,rfl,ha,hp⟩:=Al.tup1 hn h s
   exact⟨a,us,rfl,.inr (jJ.of ha),u0 s hp w⟩
  |_=>cases e
abbrev PF:=Env->Option (Option Int)
def pNo:PF:=λ_=>some none
def pInt (f:EF):PF:=λρ=>(f ρ).bind λd=>match d with
 |.int i=>some (some i)
 |_=>none
def XP (X:Cx)(ct:Nat->af)(ms:List Mo)(e:Option Expr)(f:PF):Prop:=∃t,PO X e t/\∀(F0 B F H:Hp) (ρ:Env) (σ:St) (o:Option Int) (Q:Option Int->Hp->Prop),RS X.K ct F0 B ms F H ρ σ->f ρ=some o->(∀F' H',fv F H F' H'->Q o H')->t σ H Q
theorem HW:XP X ct ms none pNo:=⟨_,Tu,λF0 B F H ρ σ o Q rs e w=>by cases e;exact w F H (.refl rs.fh)⟩
theorem qh (h:XE X ct ms n e f):XP X ct ms (some e) (pInt f):=by
 obtain⟨t,pt,qt⟩:=h
 refine⟨_,Lw pt,λF0 B F H ρ σ o Q rs e w=>?_⟩
 obtain⟨d,h1,h2⟩:=aW e
 refine qt F0 B F H ρ σ d _ rs h1 λv F' H' x l=>?_
 cases d with
 |int i=>cases h2;exact⟨i,l.int,w F' H' x⟩
 |_=>cases h2
def cutD (xs:List D)(lo hi:Option Int):List D:=(xs.drop (HT.sIx xs.length 0 lo)).take (HT.sIx xs.length xs.length hi-HT.sIx xs.length 0 lo)
theorem LH {R:D->V->Prop}{ds:List D}{vs:List V}{lo hi:Option Int}(h:Pr R ds vs):Pr R (cutD ds lo hi) (mH vs lo hi):=by
 unfold cutD mH
 rw[h.length]
 exact(h.drop _).take _
def gB (d:D)(lo hi:Option Int):Option D:=match d with
 |.lst xs=>some (.lst (cutD xs lo hi))
 |_=>none
theorem DV {lo hi:Option Expr}{pl ph:PF}{p1}(hn:n<=1)(he:XE X ct ms n e f)(hl:XP X ct ms lo pl)(hh:XP X ct ms hi ph):XO X ct ms 1 (.Subscript e (.Slice lo hi none p1) pos) (λρ=>(f ρ).bind λd=>(pl ρ).bind λl=>(ph ρ).bind λh=>gB d l h):=by
 obtain⟨t,pt,qt⟩:=he
 obtain⟨t1,qZ,rf⟩:=hl
 obtain⟨t2,kJ,pQ⟩:=hh
 refine⟨_,K9 Tw pt qZ kJ,λF0 B F H ρ σ r Q rs e w=>?_⟩
 obtain⟨d,l,h1,h2,h3⟩:=dO e
 obtain⟨hh,h4,h5⟩:=aW h3
 refine qt F0 B F H ρ σ d _ rs h1 λv F1 H1 x1 l1=>?_
 refine rf F0 B F1 H1 ρ σ l _ (rs.ext x1) h2 λF2 H2 x2=>?_
 refine pQ F0 B F2 H2 ρ σ hh _ ((rs.ext x1).ext x2) h4 λF3 H3 x3=>?_
 cases d with
 |lst xs=>
  cases h5
  have kA:=x2.trans x3
  obtain⟨a,vs,rfl,ha,hp⟩:=Al.lst1 hn (l1.mono kA.ff kA.hh) kA.fh
  exact⟨a,vs,rfl,ha,u0 kA.fh (LH hp) λv F' H' fp x o nd hf=>w v F' H' fp ((x1.trans kA).trans x) o nd λz hz=>(x1.trans kA).hh.free (hf z hz)⟩
 |_=>cases h5
def EC:List D->Option D
 |[.int i]=>some (.int (if i<0 then -i else i))
 |_=>none
def ii (g:Int->Int->D):List D->Option D
 |[.int i,.int j]=>some (g i j)
 |_=>none
theorem Ml {g:Int->Int->D}{gv:Int->Int->V}(hg:∀i j F,Dt K ct F (g i j) (gv i j)):uJ K ct [n,m] k (λxs H Q=>∃i j,xs=[.int i,.int j]/\Q (gv i j) H) (ii g):=by
 intro F H vs ds d Q s l e w
 cases l with
 |cons h t=>
  cases t with
  |cons h' t=>
   cases t
   rename_i d1 v d2 v2
   cases d1 with
   |int i=>
    cases d2 with
    |int j=>cases e;exact⟨i,j,by rw[h.int,h'.int],w _ F H (.refl s) (Al.of (hg i j F))⟩
    |_=>cases e
   |_=>cases e
def iJ:List D->Option D:=ii λi j=>.int (if j > i then j else i)
def o7:List D->Option D:=ii λi j=>.int (if j<i then j else i)
theorem CB:uJ K ct [n,m] k (λxs H Q=>∃i j,xs=[.int i,.int j]/\Q (.int (if j > i then j else i)) H) iJ:=Ml λ_ _ _=>.int _
theorem S2:uJ K ct [n,m] k (λxs H Q=>∃i j,xs=[.int i,.int j]/\Q (.int (if j<i then j else i)) H) o7:=Ml λ_ _ _=>.int _
def wO (i:Nat)(o:D->D->Option D)(f:EF):SF:=λρ=>(eV i ρ).bind λx=>(f ρ).bind λy=>(o x y).bind λd=>some (.nx (ρ.set i (some d)))
theorem Ve {op:iO}{i:Nat}{x:aR}{pos':cG}{gi:Int->Int->Int}(ho:xE X op (Ds gi))(hm:ms[i]?=some (.ow k))(hN:X.N.Nodup)(hi:X.N[i]?=some x)(hx:Loc X.env.scope x)(he:XE X ct ms n e f)(hf:X.fn x=true\/X.env.scope.names.lookup x=some .local:=by first|exact .inl rfl|exact .inr rfl|assumption) :
  XS X ct ms rk (.AugAssign (.Name x pos') op e pos) (wO i (i2 λi j=>.int (gi i j)) f):=by
 obtain⟨t,pt,qt⟩:=he
 refine⟨_,UF hN hi hx pt ho hf,λF0 B F H ρ σ o E rs e z=>?_⟩
 obtain⟨d1,d2,h1,h2,h3⟩:=dO e
 obtain⟨d,h4,h5⟩:=aW h3
 cases h5
 obtain⟨v,hv,l⟩:=rs.get hm (xu h1)
 refine⟨v,hv,qt F0 B F H ρ σ d2 _ rs h2 λy F' H' x1 l2=>?_⟩
 cases d1 with
 |int i'=>
  cases d2 with
  |int j'=>
   cases h4
   exact⟨i',j',l.int,l2.int,z _ F' H' (rs.set hm x1 (Ow.scal (.int _) rfl) bD λa z=>(by cases z))⟩
  |_=>cases h4
 |_=>cases h4
def sPar (i j:Nat)(fs:Env->Option (List D)):SF:=λρ=>(fs ρ).bind λds=>match ds with
 |[x,y]=>some (.nx ((ρ.set i (some x)).set j (some y)))
 |_=>none
theorem Vf {i j:Nat}{x y:aR}{fs:Env->Option (List D)}{px py pt:cG}{kt k2 kJ}(Od:ms[i]?=some (.ow 0))(Oe:ms[j]?=some (.ow 0))(hc:X.calm=true)(hN:X.N.Nodup)(hi:X.N[i]?=some x)(hj:X.N[j]?=some y)(nX:i≠j)
  (hx:X.env.scope.names.lookup x=some .local) (hy:X.env.scope.names.lookup y=some .local) (ha:XA X ct ms [a,b] [0,0] fs)
  (hw:fq [.Tuple [.Name x px,.Name y py] kt pt] (.Tuple [a,b] k2 kJ) X.env=pure (some [x,y]))
  (hs:fu [.Tuple [.Name x px,.Name y py] kt pt] (.Tuple [a,b] k2 kJ) pos.line X.env=pure false:=by rfl) :
  XS X ct ms rk (.Assign [.Tuple [.Name x px,.Name y py] kt pt] (.Tuple [a,b] k2 kJ) pos) (sPar i j fs):=by
 obtain⟨t,pt,_,qt⟩:=ha
 refine⟨_,UE hc hN hi hj nX hx hy pt hw hs,λF0 B F H ρ σ o E rs e z=>?_⟩
 obtain⟨ds,h1,h2⟩:=aW e
 refine qt F0 B F H ρ σ ds _ rs h1 λvs F' H' x1 l=>?_
 cases l with
 |cons l1 l=>
  cases l with
  |cons l2 l=>
   cases l
   cases h2
   have r1:=rs.set Od x1 (Ow.zero l1) bD λa z=>(by cases z)
   exact⟨_,_,rfl,z _ F' H' (r1.set Oe (.refl x1.fh) (Ow.zero l2) bD λa z=>(by cases z))⟩
def sAsg (g:D->Env->Option Env)(f:EF):SF:=λρ=>(f ρ).bind λd=>(g d ρ).bind λρ'=>some (.nx ρ')
theorem VP {gg:D->Env->Option Env}(he:XE X ct ms 0 e f)(hg:XG X ct ms 0 tg gg)(hs:fu [tg] e pos.line X.env=pure false:=by rfl)(hw:fq [tg] e X.env=pure none:=by rfl)
  (h1:(cn [tg] X.env).map (·.2)=[eQ tg X.env]:=by rfl):XS X ct ms rk (.Assign [tg] e pos) (sAsg gg f):=by
 obtain⟨t,pt,qt⟩:=he
 obtain⟨t2,kJ,pQ⟩:=hg
 refine⟨_,D7 pt kJ hs hw h1,λF0 B F H ρ σ o E rs e z=>?_⟩
 obtain⟨d,h1,h2⟩:=aW e
 obtain⟨ρ',h3,h4⟩:=aW h2
 cases h4
 exact qt F0 B F H ρ σ d _ rs h1 λv F' H' x l=>pQ F0 B F' H' ρ ρ' σ d v _ (rs.ext x) l h3 λσ' r=>z σ' F' H' r
end
end L3
namespace L3
open PySem PySem.Spec L2
open PyProof.Rows hiding St
def gH:List Nat->List Mo->Bool
 |[],_=>true
 |n::ns,.al m::ms=>decide (n=m)&&gH ns ms
 |n::ns,.ow m::ms=>decide (n=0)&&decide (m=0)&&gH ns ms
 |_,_=>false
theorem ub:∀{pm:List Nat} {ms:List Mo},gH pm ms=true->∀(i n:Nat),pm[i]?=some n->ms[i]?=some (Mo.al n)\/(n=0/\ms[i]?=some (Mo.ow 0))
 |[],_,_,i,n,e=>by simp at e
 |x::ns,.al m::ms,h,i,n,e=>by
  simp only[gH,bN,decide_eq_true_eq]at h
  cases i with
  |zero=>simp at e;subst e;rw[h.1];exact .inl rfl
  |succ i=>simpa using ub h.2 i n (by simpa using e)
 |x::ns,.ow m::ms,h,i,n,e=>by
  simp only[gH,bN,decide_eq_true_eq]at h
  cases i with
  |zero=>simp at e;subst e;rw[h.1.1,h.1.2];exact .inr ⟨rfl,rfl⟩
  |succ i=>simpa using ub h.2 i n (by simpa using e)
 |_::_,[],h,_,_,_=>by simp[gH]at h
 |_::_,.px _::_,h,_,_,_=>by simp[gH]at h
 |_::_,.so _::_,h,_,_,_=>by simp[gH]at h
def tD (X:Cx)(scope:fF)(N:List aR)(own:Nat)(cap:List Nat):Bool :=
 decide (scope.kind=.function)&&scope.names.all (λx=>(decide (x.2≠.cell) || decide (scope.names.lookup x.1=some .cell))&&(decide (x.2≠.local) || decide (scope.names.lookup x.1=some .local))&&(decide (x.2≠.free) || (decide (X.env.kindOf x.1=some .cell) || decide (X.env.kindOf x.1=some .free)))) &&
 decide (N.length=own+cap.length)&&(az cap.length).all λj=>match N[own+j]?,cap[j]? with
  |some x,some i=>decide (X.N[i]?=some x)&&decide (scope.names.lookup x=some .free)
  |_,_=>false
theorem sR {X:Cx}{scope:fF}{N:List aR}{own:Nat}{cap:List Nat}(h:tD X scope N own cap=true):jN X scope N own cap:=by
 unfold tD at h
 simp only[bN,decide_eq_true_eq,gW,Bool.or_eq_true]at h
 obtain⟨⟨⟨h1,h2⟩,h3⟩,h4⟩:=h
 refine⟨h1,λx hx hl=>((h2 x hx).1.1).elim (λz=>absurd hl z) id,λx hx hl=>((h2 x hx).1.2).elim (λz=>absurd hl z) id,λx hx hf=>((h2 x hx).2).elim (λz=>absurd hf z) id,h3,λj x hj=>?_⟩
 have Jf:j<cap.length:=by
  have:=(aC.mp hj).1
  omega
 have q:=h4 j (aX.mpr Jf)
 rw[hj]at q
 have hc:cap[j]?=some cap[j]:=by simp[Jf]
 rw[hc]at q
 simp only[bN,decide_eq_true_eq]at q
 exact⟨_,hc,q.1,q.2⟩
def DI:D->Option String
 |.non=>some "NoneType"
 |.bl _=>some "bool"
 |.int _=>some "int"
 |.str _=>some "str"
 |.lst _=>some "list"
 |.tup _=>some "tuple"
 |.dK _ _=>some "dict"
 |_=>none
def J1 (K:ae)(H:Hp)(v:V)(t:String):Prop:=jF K H v (.type t)\/(t = "list"/\∃a xs,v=.ref a/\fw K H a xs)
theorem Al.ty {K:ae}{ct:Nat->af}{F H:Hp}{n:Nat}{d:D}{v:V}{t:String}(s:bO F H)(h:Al K ct F H n d v)(e:DI d=some t):J1 K H v t:=by
 cases d with
 |non=>cases e;rw[h.non];exact .inl .non
 |bl b=>cases e;rw[h.bl];exact .inl (.bl b)
 |int b=>cases e;rw[h.int];exact .inl (.int b)
 |str b=>cases e;rw[h.str];exact .inl (.str b)
 |lst xs=>
  cases e
  obtain⟨a,vs,rfl,ha,_⟩:=h.lst s
  exact .inr ⟨rfl,a,vs,rfl,ha⟩
 |tup xs=>
  cases e
  obtain⟨a,vs,rfl,ha,_⟩:=h.tup s
  exact .inl (.tup ha)
 |dK ks xs=>
  cases e
  obtain⟨a,vs,rfl,ha,_⟩:=h.dK s
  exact .inl (.dK ha)
 |_=>cases e
theorem RR {X:Cx}:ez X (.builtin "isinstance") (λxs H Q=>∃x c t b,xs=[x,.ty c]/\J1 X.K H x t/\bJ X.K (.type t) (.type c)=some b/\Q (.bl b) H):=by
 intro ah s σ H xs us Q I r h
 obtain⟨x,c,t,b,rfl,ty,e,q⟩:=h
 rcases ty with ty|⟨rfl,a,ys,rfl,hq⟩
 ·exact SN ah s σ H _ us Q I r ⟨x,c,_,b,rfl,ty,e,q⟩
 ·obtain⟨u,w',rfl,ru,oK⟩:=vals2 r
  cases(show w'=aa.type c from oK)
  cases(show u=aa.ref a from ru)
  obtain⟨cq,rv,⟨o,n,h1,h2,_⟩,_⟩:=I.list hq
  exact cu jH I.kIn ⟨o,h1,h2⟩ e (λz=>nomatch z) λtk=>⟨.bl b,H,I.tok tk,rfl,q⟩
def Be (t c:String):Bool:=t==c || (t == "bool" && c == "int")
theorem Ut {K:ae}:∀t∈(["NoneType","bool","int","str","list","tuple","dict"]:List String),∀c∈(["bool","int","str","list","tuple","dict"]:List String),bJ K (.type t) (.type c)=some (Be t c):=by
 intro t ht c hc
 simp only[aA,cL,or_false]at ht hc
 rcases ht with rfl|rfl|rfl|rfl|rfl|rfl|rfl<;>rcases hc with rfl|rfl|rfl|rfl|rfl|rfl<;>rfl
theorem Uu {d:D}{t:String}(e:DI d=some t):t∈(["NoneType","bool","int","str","list","tuple","dict"]:List String):=by
 cases d<;>simp[DI]at e<;>subst e<;>decide
section
variable {X:Cx}{ct:Nat->af}{ms:List Mo}{rk n m k:Nat}{a b c e tg:Expr}{f g h:EF}{pos:cG}
def oG (c:String)(d:D):Option D:=(DI d).bind λt=>some (.bl (Be t c))
theorem Eg {c:String}{pp p2:cG}(hc:c∈(["bool","int","str","list","tuple","dict"]:List String))(hm:X.mg "isinstance"=none)(rK:X.mg c=none)(hb:bU c=some (.type c))(he:XE X ct ms n e f)(hg:Gl X "isinstance":=by rfl)(o6:Gl X c:=by rfl)(tL:aR.ofString c≠"__name__":=by decide)(hd2:(aR.ofString c==("__debug__":aR))=false:=by decide)
  (tN:aw [e,.Name c p2] X.env=(false,bS e X.env)::aw [.Name c p2] X.env:=by rfl) (qP:aw [.Name c p2] X.env=(false,bS (.Name c p2) X.env)::aw [] X.env:=by rfl) (ip:(cD pos (aw [.Name c p2] X.env)).any (·.1)=false:=by rfl) :
  XE X ct ms k (.Call (.Name "isinstance" pp) [e,.Name c p2] [] pos) (e1 (oG c) f):=by
 obtain⟨t,pt,qt⟩:=he
 refine⟨_,DL RR hg hm qw (uz pt (uz (TK (v:=.ty c) o6 rK hb rfl tL hd2) xU qP) tN) (by decide) (by decide) tN ip,λF0 B F H ρ σ d Q rs e w=>?_⟩
 obtain⟨d1,h1,h2⟩:=aW e
 obtain⟨ty,h3,h4⟩:=aW h2
 cases h4
 exact qt F0 B F H ρ σ d1 _ rs h1 λv F' H' x l=>⟨v,c,ty,_,rfl,l.ty x.fh h3,Ut _ (Uu h3) _ hc,w _ F' H' x (Al.of (.bl _))⟩
end
end L3
namespace L3
open PySem PySem.Spec L2
open PyProof.Rows hiding St
def mq (K:ae):Sp:=λvs H Q _=>∃(a:af) (ns:List Int),vs=[.ref a]/\fw K H a (ns.map V.int)/\ns.length<=63/\∀H',Q (.bl true) H'
theorem Dts.ints {K:ae}{ct:Nat->af}{F:Hp}:∀ns:List Int,Dts K ct F (ns.map D.int) (ns.map V.int)
 |[]=>.nil
 |n::ns=>.cons (.int n) (Dts.ints ns)
theorem VQ {P:bb}{w:bG}{K:ae}{mg:aR->Option aa}{base:aK}{k:Nat}{f:af}{fd:aS}{ps:List aR}{ct:Nat->af}{m:List D->Option D}(Fn:cS P w K mg base fE k f fd ps (hJ K ct [0] 0 m))
  (h:∀ns:List Int,ns.length<=63->m [.lst (ns.map .int)]=some (.bl true)):cS P w K mg base fE k f fd ps (mq K):=by
 have to:∀vs H Q E,mq K vs H Q E->hJ K ct [0] 0 m vs H Q E:=by
  rintro vs H Q E ⟨a,ns,rfl,hS,hl,q⟩
  refine⟨H,[.lst (ns.map .int)],.bl true,.refl _,.cons (Dt.lst hS (Dts.ints ns)) .nil,h ns hl,λv F' H' fp x o nd hf=>?_⟩
  have hv:v=.bl true:=by
   have o:Dt K ct F' (.bl true) v/\fp=[]:=o
   cases o.1
   rfl
  subst hv
  exact q H'
 exact⟨λvs H Q E z=>Fn.len vs H Q E (to vs H Q E z),λA outer s H args us vs Q E hr e0 hb hv z=>Fn.run A outer s H args us vs Q E hr e0 hb hv (to vs H Q E z)⟩
theorem K0 {g:D->Env->Option Env}{b:SF}(I:List D->Env->Prop)(all:List D)(st:∀pre d post ρ,all=pre++d::post->I pre ρ->∃ρ1 ρ2,g d ρ=some ρ1/\(b ρ1=some (.nx ρ2)\/b ρ1=some (.ct ρ2))/\I (pre++[d]) ρ2):∀(ds pre:List D) (ρ:Env),all=pre++ds->I pre ρ ->
  ∃ρ',gj g b ds ρ=some (.nx ρ')/\I all ρ'
 |[],pre,ρ,e,h=>⟨ρ,rfl,by rw[e,bV];exact h⟩
 |d::ds,pre,ρ,e,h=>by
  obtain⟨ρ1,ρ2,h1,h2,h3⟩:=st pre d ds ρ e h
  obtain⟨ρ',h4,h5⟩:=K0 I all st ds (pre++[d]) ρ2 (by rw[e];simp) h3
  refine⟨ρ',?_,h5⟩
  show(g d ρ).bind _=_
  rw[h1]
  show(b ρ1).bind _=_
  rcases h2 with h2|h2<;>(rw[h2];exact h4)
theorem uc {g:D->Env->Option Env}{b:SF}(I:List D->Env->Prop){ds:List D}{ρ:Env}(h:I [] ρ)(st:∀pre d post ρ,ds=pre++d::post->I pre ρ->∃ρ1 ρ2,g d ρ=some ρ1/\(b ρ1=some (.nx ρ2)\/b ρ1=some (.ct ρ2))/\I (pre++[d]) ρ2) :
  ∃ρ',gj g b ds ρ=some (.nx ρ')/\I ds ρ':=K0 I ds st ds [] ρ rfl h
theorem yB {α:Type}{all pre post:List α}{d:α}(h:all=pre++d::post):all[pre.length]?=some d:=by subst h;simp
theorem Hb {α S:Type}{g:D->Env->Option Env}{b:SF}(enc:α->D)(st:S->Env)(f:S->α->S)(P:S->Prop):∀(xs:List α) (s:S),P s ->
  (∀s x,x∈xs->P s->∃ρ1,g (enc x) (st s)=some ρ1/\(b ρ1=some (.nx (st (f s x)))\/b ρ1=some (.ct (st (f s x))))/\P (f s x))->gj g b (xs.map enc) (st s)=some (.nx (st (xs.foldl f s)))/\P (xs.foldl f s)
 |[],s,hp,_=>⟨rfl,hp⟩
 |x::xs,s,hp,h=>by
  obtain⟨ρ1,h1,h2,h3⟩:=h s x am hp
  have ih:=Hb enc st f P xs (f s x) h3 λs y hy=>h s y (ap _ hy)
  refine⟨?_,ih.2⟩
  show(g (enc x) (st s)).bind _=_
  rw[h1]
  show(b ρ1).bind _=_
  rcases h2 with h2|h2<;>(rw[h2];exact ih.1)
theorem K1 {g:D->Env->Option Env}{b:SF}(I:Nat->Env->Prop)(lo:Int):∀(n k:Nat) (ρ:Env),I k ρ ->
  (∀j ρ,k<=j->j<k+n->I j ρ->∃ρ1 ρ2,g (.int (lo+(j:Int))) ρ=some ρ1/\(b ρ1=some (.nx ρ2)\/b ρ1=some (.ct ρ2))/\I (j+1) ρ2) ->
  ∃ρ',gj g b ((kK k n).map λ(t:Nat)=>D.int (lo+(t:Int))) ρ=some (.nx ρ')/\I (k+n) ρ'
 |0,k,ρ,h,_=>⟨ρ,rfl,h⟩
 |n+1,k,ρ,h,st=>by
  obtain⟨ρ1,ρ2,h1,h2,h3⟩:=st k ρ (ar _) (by omega) h
  obtain⟨ρ',h4,h5⟩:=K1 I lo n (k+1) ρ2 h3 λj ρ hj hl hI=>st j ρ (by omega) (by omega) hI
  refine⟨ρ',?_,by rw[show k+(n+1)=k+1+n by omega];exact h5⟩
  rw[kB,bC]
  show(g _ ρ).bind _=_
  rw[h1]
  show(b ρ1).bind _=_
  rcases h2 with h2|h2<;>(rw[h2];exact h4)
theorem Ky {g:D->Env->Option Env}{b:SF}(I:Nat->Env->Prop){lo:Int}{n:Nat}{ρ:Env}(h:I 0 ρ)
  (st:∀j ρ,j<n->I j ρ->∃ρ1 ρ2,g (.int (lo+(j:Int))) ρ=some ρ1/\(b ρ1=some (.nx ρ2)\/b ρ1=some (.ct ρ2))/\I (j+1) ρ2):∃ρ',gj g b (gP lo n) ρ=some (.nx ρ')/\I n ρ':=by
 obtain⟨ρ',h1,h2⟩:=K1 (g:=g) (b:=b) I lo n 0 ρ h λj ρ _ hj hI=>st j ρ (by omega) hI
 rw[Nat.zero_add]at h2
 exact⟨ρ',by unfold gP;rw[n8];exact h1,h2⟩
theorem Kz {c:BF}{b:SF}(I:Env->Prop)(μ:Env->Nat)(st:∀ρ,I ρ->∃t,c ρ=some t/\(t=true->∃ρ',(b ρ=some (.nx ρ')\/b ρ=some (.ct ρ'))/\I ρ'/\μ ρ' < μ ρ)) :
  ∀(n:Nat) (ρ:Env),I ρ->μ ρ<n->∃ρ',ke c b n ρ=some (.nx ρ')/\I ρ'/\c ρ'=some false
 |0,_,_,h=>absurd h (by omega)
 |n+1,ρ,hI,h=>by
  obtain⟨t,h1,h2⟩:=st ρ hI
  cases t with
  |false=>exact⟨ρ,by show(c ρ).bind _=_;rw[h1];rfl,hI,h1⟩
  |true=>
   obtain⟨ρ',h3,h4,h5⟩:=h2 rfl
   obtain⟨ρ2,h6,h7,h8⟩:=Kz I μ st n ρ' h4 (by omega)
   refine⟨ρ2,?_,h7,h8⟩
   show(c ρ).bind _=_
   rw[h1]
   show(b ρ).bind _=_
   rcases h3 with h3|h3<;>(rw[h3];exact h6)
theorem Uv {n k:Nat}(h:n<2 ^ k)(hk:k<=9000):n<og:=br h (oS (by decide) hk)
theorem Uw {n:Nat}(h:n<1048576):n<og:=Uv (k:=20) h (by decide)
theorem zi6 {i j:Int}(h1:0<j)(h2:j<4611686018427387904):iI (.int i) (.int j)=some (.int (i/j)):=by unfold iI;simp[h1,h2]
theorem zac {i j:Int}(h:0<j):eO (.int i) (.int j)=some (.int (i%j)):=by unfold eO;simp[h]
theorem zmc {i j:Int}(h1:-18446744073709551616<j)(h2:j<18446744073709551616):hV (.int i) (.int j)=some (.int (i*j)):=by simp[hV,qR,kz,h1,h2]
theorem zcv {i j:Int}(h1:-18446744073709551616<i)(h2:i<18446744073709551616):hV (.int i) (.int j)=some (.int (i*j)):=by simp[hV,qR,kz,h1,h2]
theorem zkz {i j:Int}(h1:0<=j)(h2:j<=1000000)(h3:i.natAbs<18446744073709551616):sE (.int i) (.int j)=some (.int (i ^ j.toNat)):=by simp[sE,qR,ml,h1,h2,h3]
theorem zk0 {i j:Int}(h1:0<=j)(h2:j<=1000000)(h3:i.natAbs<18446744073709551616):sL (.int i) (.int j)=some (.int (i*2 ^ j.toNat)):=by simp[sL,qR,ml,h1,h2,h3]
theorem zgj {i j:Int}(h1:0<=j):pR (.int i) (.int j)=some (.int (i/2 ^ j.toNat)):=by simp[pR,qR,h1]
theorem zk1 (i j:Int):eX (.int i) (.int j)=some (.int (i+j)):=rfl
theorem Su {xs ys:List D}(h:xs.length+ys.length<=16777216):eX (.lst xs) (.lst ys)=some (.lst (xs++ys)):=by simp[eX,h]
theorem zk3 (i j:Int):nI (.int i) (.int j)=some (.int (i-j)):=rfl
theorem zny (i j:Int):sx (.int i) (.int j)=some (.bl (decide (i<j))):=rfl
theorem znz (i j:Int):tR (.int i) (.int j)=some (.bl (decide (i<=j))):=rfl
theorem zn0 (i j:Int):rG (.int i) (.int j)=some (.bl (decide (j<i))):=rfl
theorem zn1 (i j:Int):Fw (.int i) (.int j)=some (.bl (decide (j<=i))):=rfl
theorem zk4 (i:Int):qV (.int i)=some (.int (-i)):=rfl
theorem u5 (ds:List D):d5 [.lst ds]=some (.int ds.length):=rfl
theorem zk5 (ds:List D):d5 [.tup ds]=some (.int ds.length):=rfl
theorem zk6 (i:Int):EC [.int i]=some (.int (if i<0 then -i else i)):=rfl
theorem jo (i j:Int):iJ [.int i,.int j]=some (.int (if j > i then j else i)):=rfl
theorem zeo (i j:Int):o7 [.int i,.int j]=some (.int (if j<i then j else i)):=rfl
theorem zn2 (neg:Bool)(d:D):qS neg d .non=some (.bl (if neg then !d.isN else d.isN)):=by cases d<;>rfl
theorem zqc (neg b:Bool)(d:D):qS neg d (.bl b)=some (.bl (if neg then !d.isB b else d.isB b)):=by cases d<;>rfl
theorem zqd (b:Bool):C2 (.bl b)=some b:=rfl
theorem zn3 (ds:List D):C3 (.lst ds)=some ds:=rfl
theorem jz (ds:List D)(l h:Option Int):gB (.lst ds) l h=some (.lst (cutD ds l h)):=rfl
theorem Hj {j:Int}(h1:-4611686018427387904<=j)(h2:j<4611686018427387904):iL [.int j]=some (gP 0 j.toNat):=by simp[iL,h1,h2]
theorem T4 {α:Type}(enc:α->D){xs:List α}{i:Int}{j:Nat}{x:α}(hi:i=(j:Int)\/i=(j:Int)-xs.length)(h:xs[j]?=some x):atI (xs.map enc) i=some (enc x):=by
 have hj:=(aC.mp h).1
 unfold L2.atI L2.ixN
 rw[aD]
 rcases hi with rfl|rfl
 ·rw[if_pos (by omega),if_pos (by omega)]
  simp[h]
 ·rw[if_neg (by omega),if_pos (by omega)]
  have:((j:Int)-(xs.length:Int)+(xs.length:Int)).toNat=j:=by omega
  simp[this,h]
theorem RT (xs:List D)(k:Nat):cutD xs none (some (k:Int))=xs.take k:=by
 unfold cutD
 rw[HT.sIx_none,HT.sIx_nat,nP,List.drop_zero]
 rcases kl k xs.length with h|h
 ·rw[gq h]
 ·rw[ij h,d8 (ar _),d8 h]
theorem RU (xs:List D)(k:Nat):cutD xs (some (k:Int)) none=xs.drop k:=by
 unfold cutD
 rw[HT.sIx_none,HT.sIx_nat]
 rcases kl k xs.length with h|h
 ·rw[gq h,d8 (by rw[fQ];omega)]
 ·rw[ij h,fy (ar _),fy h]
  simp
theorem Sv (xs:List D)(k l:Nat):cutD xs (some (k:Int)) (some (l:Int))=(xs.drop k).take (l-k):=by
 unfold cutD
 rw[HT.sIx_nat,HT.sIx_nat]
 rcases kl k xs.length with h|h
 ·rw[gq h]
  rcases kl l xs.length with g|g
  ·rw[gq g]
  ·rw[ij g,d8 (by rw[fQ];omega),d8 (by rw[fQ];omega)]
 ·rw[ij h,fy (ar _),fy h]
  simp
theorem K2 {α:Type}{g:D->Env->Option Env}{p:BF}{f:EF}{ρ0:Env}(enc:α->D)(q:α->Bool)(h:α->D):∀(xs:List α),(∀x∈xs,∃ρ1,g (enc x) ρ0=some ρ1/\p ρ1=some (q x)/\(q x=true->f ρ1=some (h x)))->lZ g p f ρ0 (xs.map enc)=some ((xs.filter q).map h)
 |[],_=>rfl
 |x::xs,H=>by
  obtain⟨ρ1,h1,h2,h3⟩:=H x am
  have ih:=K2 enc q h xs λy hy=>H y (ap _ hy)
  show(g (enc x) ρ0).bind _=_
  rw[h1]
  show(p ρ1).bind _=_
  rw[h2]
  cases hq:q x with
  |false=>
   rw[bM,if_neg aY,mW (by rw[hq];exact aY)]
   exact ih
  |true=>
   rw[bM,if_pos rfl,h3 hq,mX hq]
   show(lZ g p f ρ0 (xs.map enc)).bind _=_
   rw[ih]
   rfl
end L3
namespace L3
open PySem PySem.Spec L2
structure gN (α:Type)[DecidableEq α] where
 enc:α->D
 py:α->bE
 dep:Nat
 is:∀x,(enc x).py=some (py x)
 lay:∀x,(py x).canLay0=true
 dp:∀x,(py x).depth<=dep
 eqv:∀x y,bE.eqv (py x) (py y)=decide (x=y)
section
variable {α β γ δ ε:Type}[DecidableEq α][DecidableEq β][DecidableEq γ][DecidableEq δ][DecidableEq ε]
theorem gN.eq (E:gN α)(h:E.dep<=60){neg:Bool}(x y:α):eqD neg (E.enc x) (E.enc y)=some (.bl (if neg then !decide (x=y)else decide (x=y))):=by
 have h1:mR (E.py x)=true:=by unfold mR;rw[E.lay x,decide_eq_true (cm (E.dp x) h)];rfl
 have h2:mR (E.py y)=true:=by unfold mR;rw[E.lay y,decide_eq_true (cm (E.dp y) h)];rfl
 unfold eqD
 rw[E.is x,E.is y]
 simp only[bM]
 rw[if_pos ⟨h1,h2⟩,E.eqv]
def Ei:gN Int:=⟨.int,.int,0,λ_=>by simp[D.py],λ_=>rfl,λ_=>by simp[bE.depth],λx y=>by show(x==y)=_;by_cases h:x=y<;>simp[h]⟩
def Eb:gN Bool:=⟨.bl,.bool,0,λ_=>by simp[D.py],λ_=>rfl,λ_=>by simp[bE.depth],λx y=>by cases x<;>cases y<;>rfl⟩
def cK:Option Int->D
 |none=>.non
 |some i=>.int i
def GB:Option Int->bE
 |none=>.none
 |some i=>.int i
def Eo:gN (Option Int):=⟨cK,GB,0,λx=>by cases x<;>simp[cK,GB,D.py],λx=>by cases x<;>rfl,λx=>by cases x<;>simp[GB,bE.depth],λx y=>by
 cases x<;>cases y
 ·rfl
 ·rfl
 ·rfl
 ·rename_i a b;show(a==b)=_;by_cases h:a=b<;>simp[h]⟩
theorem LI (E:gN α):∀xs:List α,D.pys (xs.map E.enc)=some (xs.map E.py)
 |[]=>by simp[D.pys]
 |x::xs=>by simp[D.pys,E.is x,LI E xs]
theorem KA (E:gN α):∀xs:List α,bE.canLayAll0 (xs.map E.py)=true
 |[]=>by simp[bE.canLayAll0]
 |x::xs=>by simp[bE.canLayAll0,E.lay x,KA E xs]
theorem KB (E:gN α):∀xs:List α,bE.depthAll (xs.map E.py)<=E.dep
 |[]=>by simp[bE.depthAll]
 |x::xs=>by
  have:=KB E xs
  have:=E.dp x
  simp only[bC,bE.depthAll]
  omega
theorem KC (E:gN α):∀xs ys:List α,bE.eqvAll (xs.map E.py) (ys.map E.py)=decide (xs=ys)
 |[],[]=>by simp[bE.eqvAll]
 |[],_::_=>by simp[bE.eqvAll]
 |_::_,[]=>by simp[bE.eqvAll]
 |x::xs,y::ys=>by
  simp only[bC,bE.eqvAll,E.eqv,KC E xs ys]
  by_cases h:x=y<;>by_cases g:xs=ys<;>simp[h,g]
def El (E:gN α):gN (List α):=⟨λxs=>.lst (xs.map E.enc),λxs=>.list (xs.map E.py),E.dep+1,λxs=>by simp[D.py,LI],λxs=>by simp[bE.canLay0,KA],λxs=>by have:=KB E xs;simp only[bE.depth];omega,λxs ys=>by simp only[bE.eqv,KC]⟩
def E2 (A:gN α)(B:gN β):gN (α×β):=⟨λp=>.tup [A.enc p.1,B.enc p.2],λp=>.tuple [A.py p.1,B.py p.2],max A.dep B.dep+1,λp=>by simp[D.py,D.pys,A.is,B.is],λp=>by simp[bE.canLay0,bE.canLayAll0,A.lay,B.lay],
 λp=>by have:=A.dp p.1;have:=B.dp p.2;simp only[bE.depth,bE.depthAll];omega,λp q=>by
  simp only[bE.eqv,bE.eqvAll,A.eqv,B.eqv]
  obtain⟨a,b⟩:=p
  obtain⟨c,d⟩:=q
  by_cases h:a=c<;>by_cases g:b=d<;>simp[h,g]⟩
def E4 (A:gN α)(B:gN β)(C:gN γ)(M:gN δ):gN (α×β×γ×δ):=⟨λp=>.tup [A.enc p.1,B.enc p.2.1,C.enc p.2.2.1,M.enc p.2.2.2],λp=>.tuple [A.py p.1,B.py p.2.1,C.py p.2.2.1,M.py p.2.2.2],max (max A.dep B.dep) (max C.dep M.dep)+1,λp=>by simp[D.py,D.pys,A.is,B.is,C.is,M.is],λp=>by simp[bE.canLay0,bE.canLayAll0,A.lay,B.lay,C.lay,M.lay],
 λp=>by have:=A.dp p.1;have:=B.dp p.2.1;have:=C.dp p.2.2.1;have:=M.dp p.2.2.2;simp only[bE.depth,bE.depthAll];omega,λp q=>by
  simp only[bE.eqv,bE.eqvAll,A.eqv,B.eqv,C.eqv,M.eqv]
  obtain⟨a,b,c,d⟩:=p
  obtain⟨a',b',c',d'⟩:=q
  by_cases h:a=a'<;>by_cases g:b=b'<;>by_cases k:c=c'<;>by_cases l:d=d'<;>simp[h,g,k,l]⟩
end
theorem zn5 {neg:Bool}(a b:Int):eqD neg (.int a) (.int b)=some (.bl (if neg then !decide (a=b)else decide (a=b))):=Ei.eq (by decide) a b
theorem zqe {neg:Bool}(a b:Bool):eqD neg (.bl a) (.bl b)=some (.bl (if neg then !decide (a=b)else decide (a=b))):=Eb.eq (by decide) a b
theorem T5 {neg:Bool}(a b:Option Int):eqD neg (cK a) (cK b)=some (.bl (if neg then !decide (a=b)else decide (a=b))):=Eo.eq (by decide) a b
end L3
namespace L3
open PySem PySem.Spec L2
open PyProof.Rows hiding St
section
variable {X:Cx}{ct:Nat->af}{K:ae}{n m k:Nat}
theorem IntsAre.of {ns:List Int}{us:List aa}(h:bR (ns.map V.int) us):IntsAre us ns:=Rr h
theorem Sf (hc:X.calm=true):ez X (.builtin "max") (λxs H Q=>∃(a:af) (ns:List Int),xs=[.ref a]/\fw X.K H a (ns.map V.int)/\ns≠[]/\∀M,M∈ns->(∀z∈ns,z<=M)->Q (.int M) H):=by
 intro ah s σ H xs us Q I r h
 obtain⟨a,ns,rfl,hq,iY,q⟩:=h
 obtain⟨u,rfl,ru⟩:=r.one
 cases(show u=aa.ref a from ru)
 obtain⟨cq,rv,pl,hz⟩:=I.list hq
 have hi:=IntsAre.of rv
 obtain⟨ys,e⟩:=hi.allInts.items
 have p5:ns=ys.toList.map (·.1):=by rw[←hi.numsOf,←nums_intItems,←e]
 have hsz:0<ys.size:=by
  have h3:0<ns.length:=oR.mpr iY
  rw[p5,aD,dq]at h3;exact h3
 have vU:s.heap.IsList a (intItems ys):=e▸pl.isList
 refine max_intList (I.ok.hd hc) vU hsz λv h' tk hv hk=>?_
 obtain⟨t,rfl⟩:=intItems_at hv
 obtain⟨h1,h2⟩:=argBest_gt (numAt ys) (ys.size-1)
 refine⟨.int (numAt ys (argBest (λi j=>decide (numAt ys i > numAt ys j)) (ys.size-1))),H,I.kept (t':=tk) hk,⟨_,rfl⟩,q _ ?_ λz hz=>?_⟩
 ·rw[p5,numAt_eq];exact getD_mem (by rw[aD,dq];omega)
 ·rw[p5]at hz
  obtain⟨j,hj,rfl⟩:=mem_getD hz
  rw[aD,dq]at hj
  rw[←numAt_eq];exact h2 j (by omega)
theorem K3:∀{bs:List Bool} {us:List aa},bR (bs.map V.bl) us->us=bs.map aa.bool
 |[],_,.nil=>rfl
 |b::bs,_,.cons r t=>by rw[K3 t];cases(show _=aa.bool b from r);rfl
theorem Sg (hc:X.calm=true):ez X (.builtin "all") (λxs H Q=>∃(a:af) (bs:List Bool),xs=[.ref a]/\fw X.K H a (bs.map V.bl)/\Q (.bl (bs.all id)) H):=by
 intro ah s σ H xs us Q I r h
 obtain⟨a,bs,rfl,hq,q⟩:=h
 obtain⟨u,rfl,ru⟩:=r.one
 cases(show u=aa.ref a from ru)
 obtain⟨cq,rv,pl,hz⟩:=I.list hq
 have hb:=K3 rv
 subst hb
 have hl:=pl.isList
 have kR:a<s.heap.objs.size:=by obtain⟨_,e,_⟩:=hl;exact aI e
 refine PySem.call_all_walk (wpAny_pyIter_list hl ?_)
 refine⟨s.heap.objs.size,[s.heap.objs.size,a],[s.heap.objs.size],(bs.map aa.bool).toArray.size,_,_,λi=>(bs[i]?).getD true,rfl,Walks.list (A:=X.A.in1) (I.ok.hd hc) _ a (aZ kR) (bs.map aa.bool).toArray,
  ⟨⟨_,bo _ rfl,rfl,rfl⟩,hl.push _⟩,λi v s' Q' E' hP hQ=>?_,λh' tk hk=>?_⟩
 ·have hP:(bs.map aa.bool)[i]?=some v:=by simpa using hP
  rw[aM]at hP
  obtain⟨b,hb,rfl⟩:=bX.mp hP
  simp only[hb,pB]at hQ
  exact eL hQ
 ·have e:((az (bs.map aa.bool).toArray.size).all λi=>(bs[i]?).getD true)=bs.all id:=by
   rw[aN,aD];exact PyProof.Rows.LSm.range_all bs
  rw[e]
  refine⟨.bl (bs.all id),H,I.kept (t':=tk) λb o FC=>hk b o (λhm=>?_) (ay _ FC),rfl,q⟩
  rw[aJ.mp hm]at FC
  exact eh _ (aI FC)
def eI:List D->Option (List Int)
 |[]=>some []
 |.int i::ds=>(eI ds).bind λns=>some (i::ns)
 |_=>none
theorem ut:∀{ds:List D} {ns:List Int},eI ds=some ns->ds=ns.map .int
 |[],_,e=>by cases e;rfl
 |d::ds,ns,e=>by
  cases d with
  |int i=>
   obtain⟨ms,h1,h2⟩:=aW (show(eI ds).bind _=_ from e)
   cases h2
   rw[ut h1];rfl
  |_=>cases e
theorem gO:∀ns:List Int,eI (ns.map .int)=some ns
 |[]=>rfl
 |n::ns=>by show(eI (ns.map .int)).bind _=_;rw[gO ns];rfl
theorem Pr.intV {F G:Hp}:∀{ns:List Int} {vs:List V},Pr (Al K ct F G n) (ns.map .int) vs->vs=ns.map V.int
 |[],_,.nil=>rfl
 |i::ns,_,.cons h t=>by rw[Pr.intV t,h.int];rfl
def kZ:List D->Option (List Bool)
 |[]=>some []
 |.bl i::ds=>(kZ ds).bind λns=>some (i::ns)
 |_=>none
theorem Ko:∀{ds:List D} {ns:List Bool},kZ ds=some ns->ds=ns.map .bl
 |[],_,e=>by cases e;rfl
 |d::ds,ns,e=>by
  cases d with
  |bl i=>
   obtain⟨ms,h1,h2⟩:=aW (show(kZ ds).bind _=_ from e)
   cases h2
   rw[Ko h1];rfl
  |_=>cases e
theorem Pr.blV {F G:Hp}:∀{ns:List Bool} {vs:List V},Pr (Al K ct F G n) (ns.map .bl) vs->vs=ns.map V.bl
 |[],_,.nil=>rfl
 |i::ns,_,.cons h t=>by rw[Pr.blV t,h.bl];rfl
def BC:List Int->Option Int
 |[]=>none
 |x::xs=>some (xs.foldl max x)
theorem K4:∀(xs:List Int) (x:Int),(xs.foldl max x=x\/xs.foldl max x∈xs)/\x<=xs.foldl max x/\∀z∈xs,z<=xs.foldl max x
 |[],x=>⟨.inl rfl,fZ _,λz h=>by cases h⟩
 |y::xs,x=>by
  obtain⟨h1,h2,h3⟩:=K4 xs (max x y)
  refine⟨?_,by show x<=xs.foldl max (max x y);omega,λz hz=>?_⟩
  ·rcases h1 with h1|h1
   ·show xs.foldl max (max x y)=x\/xs.foldl max (max x y)∈y::xs
    rw[h1]
    rcases Int.le_total x y with h|h
    ·rw[Int.max_eq_right h];exact .inr am
    ·rw[Int.max_eq_left h];exact .inl rfl
   ·exact .inr (ap _ h1)
  ·rcases aA.mp hz with rfl|hz
   ·show z<=xs.foldl max (max x z);omega
   ·exact h3 z hz
theorem Sw {ns:List Int}{M:Int}(h:BC ns=some M):M∈ns/\∀z∈ns,z<=M:=by
 cases ns with
 |nil=>cases h
 |cons x xs=>
  cases h
  obtain⟨h1,h2,h3⟩:=K4 xs x
  refine⟨?_,λz hz=>?_⟩
  ·rcases h1 with h1|h1
   ·rw[h1];exact am
   ·exact ap _ h1
  ·rcases aA.mp hz with rfl|hz
   ·exact h2
   ·exact h3 z hz
def Qc:List D->Option D
 |[.lst ds]=>(eI ds).bind λns=>some (.int ns.sum)
 |_=>none
def sy:List D->Option D
 |[.lst ds]=>(eI ds).bind λns=>(BC ns).bind λM=>some (.int M)
 |_=>none
def yQ:List D->Option D
 |[.lst ds]=>(kZ ds).bind λbs=>some (.bl (bs.all id))
 |_=>none
theorem Sx {F H:Hp}{vs:List V}{ds:List D}{ns:List Int}(s:bO F H)(l:iZ K ct F H [n] [.lst ds] vs)(e:eI ds=some ns):∃a,vs=[.ref a]/\fw K H a (ns.map V.int):=by
 cases l with
 |cons h t=>
  cases t
  obtain⟨a,us,rfl,ha,hp⟩:=h.lst s
  have:=ut e
  subst this
  have:=hp.intV
  subst this
  exact⟨a,rfl,ha⟩
theorem T6:uJ K ct [n] k (λxs H Q=>∃(a:af) (ns:List Int),xs=[.ref a]/\fw K H a (ns.map V.int)/\ns≠[]/\∀M,M∈ns->(∀z∈ns,z<=M)->Q (.int M) H) sy:=by
 intro F H vs ds d Q s l e w
 match ds,l,e with
 |[.lst xs],l,e=>
  obtain⟨ns,h1,h2⟩:=aW (show(eI xs).bind _=_ from e)
  obtain⟨M,h3,h4⟩:=aW h2
  cases h4
  obtain⟨a,rfl,ha⟩:=Sx s l h1
  obtain⟨m1,m2⟩:=Sw h3
  refine⟨a,ns,rfl,ha,(λz=>by rw[z]at m1;cases m1),λM' h5 h6=>?_⟩
  have:M'=M:=Int.le_antisymm (m2 M' h5) (h6 M m1)
  subst this
  exact w _ F H (.refl s) (Al.of (.int _))
theorem T7:uJ K ct [n] k (λxs H Q=>∃(a:af) (bs:List Bool),xs=[.ref a]/\fw K H a (bs.map V.bl)/\Q (.bl (bs.all id)) H) yQ:=by
 intro F H vs ds d Q s l e w
 match ds,l,e with
 |[.lst xs],l,e=>
  obtain⟨bs,h1,h2⟩:=aW (show(kZ xs).bind _=_ from e)
  cases h2
  cases l with
  |cons h t=>
   cases t
   obtain⟨a,us,rfl,ha,hp⟩:=h.lst s
   have:=Ko h1
   subst this
   have:=hp.blV
   subst this
   exact⟨a,bs,rfl,ha,w _ F H (.refl s) (Al.of (.bl _))⟩
theorem Pr.ofInts {F H:Hp}:∀ns:List Int,Pr (Al K ct F H 0) (ns.map .int) (ns.map V.int)
 |[]=>.nil
 |n::ns=>.cons (show Dt K ct F (.int n) (.int n)from .int n) (Pr.ofInts ns)
end
end L3
namespace L3
open PySem PySem.Spec L2
open PyProof.Rows hiding St
def qM (H:Hp)(x:af):Hp:=λb=>if b=x then none else H b
theorem Lg (H:Hp)(x:af):bO (qM H x) H:=λb o h=>by
 unfold qM at h
 by_cases e:b=x
 ·rw[if_pos e]at h;cases h
 ·rw[if_neg e]at h;exact h
theorem VR (H:Hp)(x:af):qM H x x=none:=if_pos rfl
theorem CO {H:Hp}{x b:af}(h:b≠x):qM H x b=H b:=if_neg h
def qB (K:ae)(ct:Nat->af)(cs:List Nat)(pm:List Nat)(mi:Nat->List D->Option D):Sp:=λvs H Q _=>∃(F:Hp) (c:Nat) (ds:List D) (d:D) (x dx:af) (us:List V),c∈cs/\vs=.ref x::us/\H x=some (.ins (ct c) dx [])/\F x=none/\bO F H/\iZ K ct F (qM H x) pm ds us/\mi c ds=some d /\
 ∀F' H',bO F F'->bO (qM H x) H'->bO F' H'->(∀a o,qM H x a=some o->jD o->F a=none->F' a=none)->F' x=none->Ow K ct F' H' 1 d (.ref x) [x]->Q .non H'
theorem qB.len {K:ae}{ct:Nat->af}{cs pm:List Nat}{mi:Nat->List D->Option D}{ps:List aR}(h:pm.length+1=ps.length):∀vs H Q E,qB K ct cs pm mi vs H Q E->vs.length=ps.length:=by
 rintro vs H Q E ⟨F,c,ds,d,x,dx,us,_,rfl,_,_,_,l,_⟩
 rw[aP,l.length,h]
def wD (N:List aR)(b:SF)(c:Nat)(ds:List D):Option D:=(b (some (.obj c [] [])::startD N.tail ds)).bind λo=>match o with
 |.nx ρ=>(ρ[0]?).join
 |_=>none
section
variable {X:Cx}{ct:Nat->af}{ms:List Mo}{rk n m k:Nat}{a b c e tg:Expr}{f g h:EF}{u w:SF}{pos:cG}
theorem jp {P:bb}{w:bG}{K:ae}{mg:aR->Option aa}{base:aK}{x qual:aR}{st:cp}{fa:af}{fd:aS}{N0:aR}{N ps:List aR}{kk:Nat}{cs pm:List Nat}{bf:SF}(Fn:Fun2 K x qual st fa fd)(S:bK (N0::N) ps (bg st))(AY:pm.length+1=ps.length)(FV:ms.length=N.length)(mY:pm.length<=N.length)
  (AT:∀(i n:Nat),pm[i]?=some n->ms[i]?=some (Mo.al n)\/(n=0/\ms[i]?=some (Mo.ow 0)))
  (body:∀(x:af) (ik:aa) (A:bz) (outer:List PySem.Env) (s:ao) (H:Hp) (E:XK),ed kk (A.deeper (envOfC qual (bg st) s.heap.objs.size fa ik))->qE (mI fE P w K mg base (N0::N) qual (bg st) fa ik A outer s H E).nox ct (.so x::ms) rk (gG st) bf) :
  cS P w K mg base fE (kk+1) fa fd ps (qB K ct cs pm (wD (N0::N) bf)):=by
 refine Fn.ok S (qB.len AY) λik A outer s H vs Q E hr h=>?_
 obtain⟨F,c,ds,d,x,dx,us,hc,rfl,hx,hF,sF,l,hm,q⟩:=h
 obtain⟨t,pt,qt⟩:=body x ik A outer s H E hr
 refine⟨t,pt,?_⟩
 obtain⟨o,h1,h2⟩:=aW hm
 have AN:ds.length=us.length:=l.length'
 have Ot:us.length=pm.length:=l.length
 have ow:Ow K ct F H 1 (.obj c [] []) (.ref x) [x]:=.inr (rF.obj (vs:=[]) hF hx rfl .nil)
 have Xu:bO F (qM H x):=λb o hb=>by
  rw[CO (λe=>by rw[e,hF]at hb;cases hb)]
  exact sF _ _ hb
 refine qt F (qM H x) F H (some (.obj c [] [])::startD N ds) (L2.start (N0::N) (.ref x::us)) o _ ⟨.refl _,Lg H x,sF,λ_ _ _ _ h=>h,[x],?_,by simp,λa z=>by rw[aJ]at z;subst z;exact VR H _⟩ h1 ?_
 ·have e:L2.start (N0::N) (.ref x::us)=some (.ref x)::(us.map some++aG (N.length-us.length) none):=by
   unfold L2.start
   simp
  rw[e]
  unfold startD
  rw[AN]
  exact SL.so (fp:=[]) ow (SL.start _ l AT (by omega))
 ·cases o with
  |nx ρ=>
   intro σ F' H' r
   obtain⟨fp,sl,nd,hb⟩:=r.sl
   cases sl with
   |no _=>cases h2
   |so JI _=>
    cases h2
    exact q F' H' r.f0 r.bh r.fh r.nf (JI.cells x am).1 JI
  |rt d'=>cases h2
  |bk ρ=>cases h2
  |ct ρ=>cases h2
end
end L3
namespace L3
open PySem PySem.Spec L2
open PyProof.Rows hiding St
theorem Lh {f:aR}{y:V}:∀{ns:List aR} {vs:List V},ns.length=vs.length->ns.contains f=false->iy f y (ns.zip vs)=(ns++[f]).zip (vs++[y])
 |[],[],_,_=>rfl
 |[],_::_,h,_=>by simp at h
 |_::_,[],h,_=>by simp at h
 |n::ns,v::vs,h,hc=>by
  rw[pf,n4]at hc
  have hn:¬n=f:=λe=>by rw[e]at hc;simp at hc
  have ih:=Lh (f:=f) (y:=y) (ns:=ns) (vs:=vs) (by simpa using h) hc.2
  show iy f y ((n,v)::ns.zip vs)=(n,v)::(ns++[f]).zip (vs++[y])
  rw[←ih]
  show(if n=f then _ else _)=_
  rw[if_neg hn]
theorem Ow.obj_inv {ct:Nat->af}{K:ae}{F H:Hp}{c k:Nat}{ns:List aR}{ds:List D}{v:V}{fp:List af}(h:Ow K ct F H (k+1) (.obj c ns ds) v fp):∃a dx vs fr,v=.ref a/\fp=a::fr/\F a=none/\H a=some (.ins (ct c) dx (ns.zip vs))/\ns.length=vs.length/\eG (Ow K ct F H k) ds vs fr:=by
 rcases h with⟨h,_⟩|h
 ·cases h
 ·cases h with
  |obj h1 h2 h3 h4=>exact⟨_,_,_,_,rfl,rfl,h1,h2,h3,h4⟩
section
variable {X:Cx}{ct:Nat->af}{ms:List Mo}{rk n m k:Nat}{a b c e tg:Expr}{f g h:EF}{u w:SF}{pos:cG}{x0:af}
def jT (cs:List Nat)(x:aR)(f:EF):SF:=λρ=>(f ρ).bind λd=>(eV 0 ρ).bind λo=>match o with
 |.obj c ns ds=>if cs.contains c=true/\ns.contains x=false/\ns.length<900 then some (.nx (ρ.set 0 (some (.obj c (ns++[x]) (ds++[d])))))else none
 |_=>none
theorem RS.self {K:ae}{F0 B F H F' H':Hp}{ρ:Env}{σ:St}{d:D}(rs:RS K ct F0 B (.so x0::ms) F H ρ σ)(hd:ρ[0]?=some (some d)):σ[0]?=some (some (.ref x0))/\Ow K ct F H 1 d (.ref x0) [x0]/\B x0=none /\
  ∀(F' H':Hp) (d':D),bO F F'->bO B H'->bO F' H'->(∀a o,B a=some o->jD o->F0 a=none->F' a=none)->(∀a o,H a=some o->a≠x0->H' a=some o)->(∀a o,H a=some o->a≠x0->jD o->F a=none->F' a=none)->Ow K ct F' H' 1 d' (.ref x0) [x0]->RS K ct F0 B (.so x0::ms) F' H' (ρ.set 0 (some d')) σ:=by
 obtain⟨fp,sl,nd,hb⟩:=rs.sl
 cases sl with
 |no _=>simp at hd
 |so ow t=>
  simp at hd
  subst hd
  refine⟨rfl,ow,hb _ am,λF' H' d' s1 s2 s3 s4 k1 k2 o'=>⟨rs.f0.trans s1,s2,s3,s4,_,.so o' (t.frame s1 λa z=>?_),nd,hb⟩⟩
  obtain⟨hn,o,ho,nt⟩:=t.cells a z
  have ne:a≠x0:=λe=>(bW.mp nd).1 (by rw[←e];exact z)
  exact⟨(k1 a o ho ne).trans ho.symm,k2 a o ho ne nt hn⟩
theorem yC {x s:aR}{cs:List Nat}{p1 pos':cG}(hc:∀c∈cs,kX X.K (ct c)/\e8 X.K (ct c) x)(he:XE X ct (.so x0::ms) 0 e f)(hN:X.N[0]?=some s:=by rfl)(hv:pK X.env.scope s:=by first|exact Or.inl rfl|exact Or.inr (Or.inl rfl)|exact Or.inr (Or.inr rfl))(hd:(s==("__debug__":aR))=false:=by decide)
  (iX:(s==("__classdict__":aR))=false:=by decide) (hs:eE e (some (.Attribute (.Name s p1) x pos')) pos.line X.env=pure false:=by rfl):XS X ct (.so x0::ms) rk (.Assign [.Attribute (.Name s p1) x pos'] e pos) (jT cs x f):=by
 obtain⟨t,pt,qt⟩:=he
 refine⟨_,Vn (j9 hN hv hd iX) pt hs,λF0 B F H ρ σ o E rs e z=>?_⟩
 obtain⟨d,h1,h2⟩:=aW e
 obtain⟨ob,h3,h4⟩:=aW h2
 refine qt F0 B F H ρ σ d _ rs h1 λy F1 H1 x1 l=>?_
 have jW:=rs.ext x1
 obtain⟨hσ,ow,hB,put⟩:=jW.self (F':=F) (H':=H) (xu h3)
 refine⟨_,hσ,?_⟩
 cases ob with
 |obj c ns ds=>
  dsimp only at h4
  by_cases hz:cs.contains c=true/\ns.contains x=false/\ns.length<900
  ·rw[if_pos hz]at h4
   cases h4
   obtain⟨a,dx,vs,fr,e1,e2,hF,hH,hl,ol⟩:=ow.obj_inv
   cases e1
   cases e2
   have hh:=hc c (by simpa using hz.1)
   refine⟨x0,_,dx,_,rfl,hH,hh.1,hh.2,by rw[cY,←hl,km];omega,?_⟩
   rw[Lh hl hz.2.1]
   refine z σ F1 _ (put F1 _ _ (.refl _) (λb o h=>?_) (λb o h=>?_) jW.nf (λb o h ne=>by rw[zt ne];exact h) (λb o h ne _ hn=>hn) (.inr (rF.obj (vs:=vs++[y]) hF zw (by simp[hl]) ?_)))
   ·rw[zt (λe=>by rw[e,hB]at h;cases h)];exact jW.bh _ _ h
   ·rw[zt (λe=>by rw[e,hF]at h;cases h)];exact jW.fh _ _ h
   ·have o1:eG (Ow X.K ct F1 (upd H1 x0 (.ins (ct c) dx ((ns++[x]).zip (vs++[y])))) 0) ds vs []:=ol.mono λ_ _ _ _ q=>⟨q.1,q.2⟩
    have:=o1.append (eG.cons (f:=[]) (g:=[]) (R:=Ow X.K ct F1 (upd H1 x0 (.ins (ct c) dx ((ns++[x]).zip (vs++[y])))) 0) ⟨l,rfl⟩ .nil)
    exact this
  ·rw[if_neg hz]at h4;cases h4
 |_=>cases h4
variable {kk:Nat}{fa:af}{fd:aS}{ps:List aR}{pm cs:List Nat}{mi:Nat->List D->Option D}{x:aR}{pp:cG}
theorem CK {c0:Nat}{es:List Expr}{ns nd:List Nat}{fs:Env->Option (List D)}{hU:List V}{ky:List D}{lc:List aa}(M:Mk X.K (ct c0) fa)(rJ:c0∈cs)(Fn:cS X.prog X.w X.K X.mg X.base fE kk fa fd ps (qB X.K ct cs (ns++nd) mi))(hr:ed (kk+1) X.A)(hg:Gl X x)(hm:X.mg x=some (.ref (ct c0)))
  (hb:bY X.K fd ps lc) (hd:bR hU lc) (oA:∀F G,iZ X.K ct F G nd ky hU) (ha:XA X ct ms (e::es) ns fs)
  (lg:(x==("__debug__":aR))=false:=by decide) (he:aw (e::es) X.env=(false,bS e X.env)::aw es X.env:=by rfl) (ip:(cD pos (aw es X.env)).any (·.1)=false:=by rfl) :
  XO X ct ms 1 (.Call (.Name x pp) (e::es) [] pos) (λρ=>(fs ρ).bind λds=>mi c0 (ds++ky)):=by
 obtain⟨t,pt,_,qt⟩:=ha
 refine⟨_,Tt M Fn hr hg hm hb hd nE pt lg he ip,λF0 B F H ρ σ r Q rs e w=>?_⟩
 obtain⟨ds,h1,h2⟩:=aW e
 refine qt F0 B F H ρ σ ds _ rs h1 λvs F1 H1 x1 l y dy hy NS iY=>?_
 have sH:bO H1 (qM (upd (upd H1 dy (.own y)) y (.ins (ct c0) dy [])) y):=λb o h=>by
  have n1:b≠y:=yr h hy
  rw[CO n1,zt n1,zt (yr h NS)]
  exact h
 have PD:bO H1 (upd (upd H1 dy (.own y)) y (.ins (ct c0) dy [])):=sH.trans (Lg _ _)
 refine⟨F1,c0,ds++ky,r,y,dy,vs++hU,rJ,rfl,zw,x1.fh.free hy,x1.fh.trans PD,iZ.mono (.refl _) sH (iZ.append (oA F1 H1) l),h2,λF' H' s1 s2 s3 s4 hn ow=>⟨rfl,?_⟩⟩
 refine w _ F' H' [y] ⟨x1.ff.trans s1,(x1.hh.trans sH).trans s2,s3,λb o h t n=>s4 b o (sH _ _ (x1.hh _ _ h)) t (x1.nf b o h t n)⟩ ow (by simp) λb z=>?_
 rw[aJ]at z
 subst z
 exact x1.hh.free hy
theorem S3 {C:af}{sp:Sp}{hU:List V}{ds:List aa}{E:XK}{m:aR}{p dE:cG}{es:List Expr}{t:TA}{pl:nj Bool}{mc:aa}(Fn:cS X.prog X.w X.K X.mg X.base fE kk fa fd ps sp)(hr:ed kk X.A)(hg:Gl X x)(hm:X.mg x=some (.ref C))
  (h1:dg X.K (.ref C) "__getattribute__"=some (some (.builtin "type.__getattribute__"))) (h2:hE X.K C mc=true) (h3:gZ X.K (.ref C) mc m=some (.val (.ref fa))) (hk:ax X.K (.ref fa)=true) (hb:bY X.K fd ps ds) (hd:bR hU ds) (hx:iH fE X E) (ha:PA X (e::es) t)
  (lg:(x==("__debug__":aR))=false:=by decide) (mQ:aw (e::es) X.env=(false,bS e X.env)::aw es X.env:=by rfl) (ip:(cD pos (aw es X.env)).any (·.1)=false:=by rfl)
  (ht:bS (.Call (.Attribute (.Name x p) m dE) (e::es) [] pos) X.env=(do
   let ov ← bS (.Name x p) X.env
   fT dE.atName
   let(f,first) ← dm [ov] (gr ov m pl)
   iP pos f first (cD pos (aw (e::es) X.env)) (fk pos (dH [] X.env))):=by rfl) :
  PE X (.Call (.Attribute (.Name x p) m dE) (e::es) [] pos) (tZ sp hU E t):=by
 intro ah s σ H Q I h
 refine fC (pl:=pl) (DX I hg hm ?_ lg) ht
 refine PySem.W.method_cls I.kIn h1 (PySem.W.cls_value I.kIn h2 h3 rfl ?_)
 have I1:Inv X ah σ H { s with toks:=s.toks+1 }:=I.tok _
 refine gu (first:=[]) (h₀:=X.base) I.ok.mod.kin hk (di (ha pos ah _ σ H _ I1 h) λus s2 ⟨vs,H2,I2,r,q2⟩=>⟨I2.kIn,?_⟩) mQ ip
 exact D9 (us:=us) (vs:=vs) Fn hr hb hd hx I2 r q2
theorem iZ.flat {K:ae}{F G G':Hp}{ns:List Nat}{ds:List D}{vs:List V}(h:iZ K ct F G ns ds vs)(e:ns.all (· == 0)=true):iZ K ct F G' ns ds vs:=by
 induction h with
 |nil=>exact .nil
 |cons h t ih=>
  rw[mw,bN]at e
  cases eq_of_beq e.1
  exact .cons h (ih e.2)
def mS (cs:List Nat)(fs:Env->Option (List D))(mi:Nat->List D->Option D):SF:=λρ=>(eV 0 ρ).bind λo=>(fs ρ).bind λds=>match o with
 |.obj c [] []=>if cs.contains c=true then(mi c ds).bind λd=>some (.nx (ρ.set 0 (some d)))else none
 |_=>none
theorem Hu {C:af}{s m:aR}{p p1 d9 dE:cG}{es:List Expr}{ns:List Nat}{fs:Env->Option (List D)}{pl:nj Bool}{mc:aa}(Fn:cS X.prog X.w X.K X.mg X.base fE kk fa fd ps (qB X.K ct cs ns mi))(hr:ed kk X.A)(hm:X.mg x=some (.ref C))
  (h1:dg X.K (.ref C) "__getattribute__"=some (some (.builtin "type.__getattribute__"))) (h2:hE X.K C mc=true) (h3:gZ X.K (.ref C) mc m=some (.val (.ref fa))) (hk:ax X.K (.ref fa)=true) (hb:bY X.K fd ps []) (hz:ns.all (· == 0)=true) (ha:XA X ct (.so x0::ms) es ns fs)
  (hg:Gl X x:=by rfl) (hN:X.N[0]?=some s:=by rfl) (hv:pK X.env.scope s:=by first|exact Or.inl rfl|exact Or.inr (Or.inl rfl)|exact Or.inr (Or.inr rfl)) (hd:(s==("__debug__":aR))=false:=by decide)
  (iX:(s==("__classdict__":aR))=false:=by decide) (lg:(x==("__debug__":aR))=false:=by decide) (mQ:aw (.Name s p1::es) X.env=(false,bS (.Name s p1) X.env)::aw es X.env:=by rfl) (ip:(cD d9 (aw es X.env)).any (·.1)=false:=by rfl)
  (ht:bS (.Call (.Attribute (.Name x p) m dE) (.Name s p1::es) [] d9) X.env=(do
   let ov ← bS (.Name x p) X.env
   fT dE.atName
   let(f,first) ← dm [ov] (gr ov m pl)
   iP d9 f first (cD d9 (aw (.Name s p1::es) X.env)) (fk d9 (dH [] X.env))):=by rfl)
  (wC:eE (.Call (.Attribute (.Name x p) m dE) (.Name s p1::es) [] d9) none pos.line X.env=pure false:=by rfl) :
  XS X ct (.so x0::ms) rk (.Expr (.Call (.Attribute (.Name x p) m dE) (.Name s p1::es) [] d9) pos) (mS cs fs mi):=by
 obtain⟨t,pt,_,qt⟩:=ha
 refine⟨_,LB (S3 (E:=E0) Fn hr hg hm h1 h2 h3 hk hb .nil nE (uz (j9 hN hv hd iX) pt mQ) lg mQ ip ht) wC,λF0 B F H ρ σ o E rs e z=>?_⟩
 obtain⟨ob,ds,g1,g2,g3⟩:=dO e
 obtain⟨hσ,ow,hB,put⟩:=rs.self (F':=F) (H':=H) (xu g1)
 refine⟨_,hσ,qt F0 B F H ρ σ ds _ rs g2 λvs F1 H1 x1 l=>?_⟩
 have jW:=rs.ext x1
 obtain⟨hσ,ow,hB,put⟩:=jW.self (F':=F) (H':=H) (xu g1)
 match ob,g3,ow with
 |.obj c [] [],g3,ow=>
  dsimp only at g3
  by_cases hc:cs.contains c=true
  ·rw[if_pos hc]at g3
   obtain⟨d,g4,g5⟩:=aW g3
   cases g5
   obtain⟨a,dx,us,fr,e1,e2,hF,hH,hl,ol⟩:=ow.obj_inv
   cases e1
   cases e2
   refine⟨F1,c,ds,d,x0,dx,vs++[],by simpa using hc,rfl,hH,hF,x1.fh,?_,g4,λF' H' s1 s2 s3 s4 hn o'=>?_⟩
   ·rw[bV];exact l.flat hz
   ·have sB:bO B (qM H1 x0):=λb o h=>by
     rw[CO (λe=>by rw[e,hB]at h;cases h)]
     exact jW.bh _ _ h
    exact z σ F' H' (put F' H' d s1 (sB.trans s2) s3 (λb o h t n=>s4 b o (sB _ _ h) t (jW.nf b o h t n)) (λb o h ne=>s2 _ _ (by rw[CO ne];exact h)) (λb o h ne t FW=>s4 b o (by rw[CO ne];exact h) t FW) o')
  ·rw[if_neg hc]at g3;cases g3
end
end L3
namespace L3
open PySem PySem.Spec L2
open PyProof.Rows hiding St
structure kr (K:ae)(mg:aR->Option aa)(x:aR)(st:cp)(ps:List aR)(f:af)(fd:aS):Prop where
 fn:Fun2 K x x st f fd
 mgx:mg x=some (.ref f)
 bd:bY K fd ps []
structure Dm (K:ae)(C:af)(m qual:aR)(st:cp)(ps:List aR)(f:af)(fd:aS):Prop where
 fn:Fun2 K m qual st f fd
 me:ou K C m f
 bd:bY K fd ps []
structure Dc (K:ae)(mg:aR->Option aa)(x:aR)(C:af):Prop where
 cl:kX K C
 mgx:mg x=some (.ref C)
 mks:dJ K C=true
 kp:ax K (.ref C)=true
structure Dq (K:ae)(C:af)(m:aR)(f:af):Prop where
 sp:dg K (.ref C) "__getattribute__"=some (some (.builtin "type.__getattribute__"))
 rd:hE K C (.type "type")=true
 fc:gZ K (.ref C) (.type "type") m=some (.val (.ref f))
theorem zy {K:ae}{x qual:aR}{st:cp}{f:af}{oc:aa}{od an:Option af}{wJ:Array (Option aa)}{dV kV doc pm ik ct:aa}(l:K.lookup f=some ⟨oc,od,.func (gc x qual (kO st) (gG st) (bg st) dV kV doc pm an ik ct),wJ⟩)
  (c:aH K ik qual=true) (k:ax K (.ref f)=true):Fun2 K x qual st f (gc x qual (kO st) (gG st) (bg st) dV kV doc pm an ik ct):=⟨⟨oc,od,dV,kV,doc,pm,an,ik,ct,wJ,rfl,l,c⟩,k⟩
theorem T8 {K:ae}{fd:aS}{ps:List aR}{ds:List aa}{T:af}{o:cP}{items:Array aa}{n:Nat}(hd:fd.defaults=.ref T)(ho:K.lookup T=some o)(hs:o.data=.seq items n)
  (h:∀us:List aa,(us++ds).length=ps.length->∃k,bindArgs fd ⟨us,[]⟩=seqItems? fd.defaults >>= k/\k (some items)=pure (ps.zip (us++ds))):bY K fd ps ds:=λs us X hl=>by
 obtain⟨k,h1,h2⟩:=h us hl
 exact PySem.W.binds_K X hd ho hs h1 h2
theorem qj (m:Nat){K:ae}{fd:aS}{ps:List aR}{ds:List aa}{T:af}{o:cP}{items:Array aa}{n:Nat}(ho:K.lookup T=some o)(h:∀us:List aa,us.length=m->∃k,bindArgs fd ⟨us,[]⟩=seqItems? fd.defaults >>= k/\k (some items)=pure (ps.zip (us++ds)))(hd:fd.defaults=.ref T:=by rfl)(hs:o.data=.seq items n:=by rfl)(hm:m+ds.length=ps.length:=by rfl):bY K fd ps ds :=
 T8 hd ho hs λus hl=>h us (by rw[bq]at hl;omega)
end L3
namespace L3
open PySem PySem.Spec L2
open PyProof.Rows hiding St
def Ew (x:aR):It:=⟨λi _=>∃c,x.cps[i]?=some c,λi H v H'=>H'=H/\∃c,x.cps[i]?=some c/\v=.str ⟨#[c]⟩,λi _=>x.cps[i]?=none⟩
theorem S4 {P:bb}{w:bG}{K:ae}{tg:Expr}(x:aR)(t:Tok)(it:af):Turn P w K tg (Ew x) [it] it (λi h=>h.IsStrIter it (cI x) x t i) where
 mem:=by simp
 obj:=λi h st b hb=>by
  have e:b=it:=by simpa using hb
  subst e
  obtain⟨o,e,c,d⟩:=st
  exact⟨o,e,λv z=>by rw[d]at z;cases z⟩
 keep:=λi h h' st k=>by
  obtain⟨o,e,c,d⟩:=st
  exact⟨o,k it (by simp) o e,c,d⟩
 item:=by
  intro X hP hw hK hc i ah s σ H E I hf st hg
  subst hP hw hK
  obtain⟨c,hx⟩:=hg
  obtain⟨f0,f1,f2,f3,f4,f5⟩:=hf it (by simp)
  have fin:∀h':aK,h'.IsStrIter it (cI x) x t (i+1)->d6 it s.heap h'->aT (aV X.prog X.w) X.A (gF tg (.ref it) (.str ⟨#[c]⟩ s.toks)) (λ_ s2=>∃v H',Inv X ah σ H' s2/\RelV v (.str ⟨#[c]⟩ s.toks)/\(Ew x).yld i H v H'/\s2.heap.IsStrIter it (cI x) x t (i+1)/\∀b∈[it],H' b=none) E { s with heap:=h',toks:=s.toks+1 }:=λh' lA sb=>by
   have I1:Inv X ah σ H { s with heap:=h',toks:=s.toks+1 }:=I.turned (t':=s.toks+1) (λb o hb e=>(sb.2 b hb).trans e) f0 f1 f3 f4 f5
   obtain⟨o,e,cc,d⟩:=id lA
   refine Ej (s:={ s with heap:=h',toks:=s.toks+1 }) e cc d ?_ ⟨.str ⟨#[c]⟩,H,I1,⟨_,rfl⟩,⟨rfl,c,hx,rfl⟩,lA,λb hb=>(hf b hb).1⟩
   unfold cI
   split<;>decide
  cases ha:x.cps.all (·<128)with
  |true=>
   have e:cI x = "str_ascii_iterator":=by unfold cI;rw[ha];rfl
   rw[e]at st fin
   exact wpAny_pyNext_ascii_item st hx λh' lA sb=>⟨_,rfl,by rw[e];exact fin h' lA sb⟩
  |false=>
   have e:cI x = "str_iterator":=by unfold cI;rw[ha];rfl
   rw[e]at st fin
   exact wpAny_pyNext_wide_item st hx λh' lA sb=>⟨_,rfl,by rw[e];exact fin h' lA sb⟩
 done:=by
  intro X hP hw hK hc i ah s σ H E I hf st hg
  subst hP hw hK
  obtain⟨f0,f1,f2,f3,f4,f5⟩:=hf it (by simp)
  cases ha:x.cps.all (·<128)with
  |true=>
   have e:cI x = "str_ascii_iterator":=by unfold cI;rw[ha];rfl
   rw[e]at st
   exact wpAny_pyNext_ascii_end (I.ok.hd hc) st hg λh' eb=>⟨rfl,I.turned (t':=s.toks) (λb o hb e=>eb b o hb e) f0 f1 f3 f4 f5⟩
  |false=>
   have e:cI x = "str_iterator":=by unfold cI;rw[ha];rfl
   rw[e]at st
   exact wpAny_pyNext_wide_end (I.ok.hd hc) st hg λh' eb=>⟨rfl,I.turned (t':=s.toks) (λb o hb e=>eb b o hb e) f0 f1 f3 f4 f5⟩
 self:=λA i s Q E st h=>by
  cases ha:x.cps.all (·<128)with
  |true=>
   have e:cI x = "str_ascii_iterator":=by unfold cI;rw[ha];rfl
   rw[e]at st
   exact wpAny_pyIter_striter_ascii st h
  |false=>
   have e:cI x = "str_iterator":=by unfold cI;rw[ha];rfl
   rw[e]at st
   exact wpAny_pyIter_striter_wide st h
def Gk (tl:TE):TI:=λσ H R=>tl σ H λx H1=>∃z,x=.str z/\R (Ew z) H1
section
variable {X:Cx}{ct:Nat->af}{ms:List Mo}{rk n m k:Nat}{st:cp}{rest:List cp}{a b c e tg:Expr}{f g h:EF}{p q:BF}{u w:SF}{pos:cG}
theorem VS {l:Expr}{tl:TE}(hl:PE X l tl):PI X tg l (Gk tl):=by
 intro ah s σ H R I h
 refine di (hl ah s σ H _ I h) λv s1 dk=>?_
 obtain⟨x,H1,I1,r,z,e,q⟩:=dk
 subst e
 obtain⟨t,rfl⟩:=r
 refine wpAny_pyIter_strU ?_
 refine⟨s1.heap.objs.size,[s1.heap.objs.size],_,_,H1,rfl,I1.kept (t':=s1.toks) λb o e=>ay _ e,S4 z t _,⟨_,bo _ rfl,rfl,rfl⟩,λb hb=>?_,q⟩
 have e:b=s1.heap.objs.size:=by simpa using hb
 subst e
 exact I1.fpOk (ar _) (I1.hok.fresh (ar _))
def oO (x:aR):List D:=x.cps.toList.map λc=>.str ⟨#[c]⟩
def Io:D->Option (List D)
 |.str x=>some (oO x)
 |_=>none
theorem VT (he:XE X ct ms m e f):XI X ct ms n tg e (λρ=>(f ρ).bind Io):=by
 obtain⟨t,pt,qt⟩:=he
 refine⟨_,VS pt,λF0 B F H ρ σ ds R rs e w=>?_⟩
 obtain⟨d,h1,h2⟩:=aW e
 refine qt F0 B F H ρ σ _ _ rs h1 λv F' H' x l=>?_
 cases d with
 |str z=>
  cases h2
  refine⟨z,l.str,w _ F' H' x λi F2 H2 s1 s2 s3=>⟨λd hd=>?_,λhl=>?_⟩⟩
  ·unfold oO at hd
   rw[aM]at hd
   obtain⟨c,hc,rfl⟩:=bX.mp hd
   have tH:z.cps[i]?=some c:=by simpa using hc
   refine⟨⟨c,tH⟩,λy H3 hy=>?_⟩
   obtain⟨rfl,c2,h3,rfl⟩:=hy
   rw[tH]at h3
   cases h3
   exact⟨F2,.refl s3,Al.of (.str _)⟩
  ·unfold oO at hl
   rw[aD,dq]at hl
   exact ie hl
 |_=>cases h2
theorem S5 {κ:Type}[DecidableEq κ](k:κ)(v:V):∀{ks:List κ} {vs:List V},ks.length=vs.length->putK (ks.zip vs) k v=(if ks.contains k=true then ks.zip ((ks.zip vs).map λp=>if p.1=k then v else p.2)else(ks++[k]).zip (vs++[v])):=by
 intro ks vs hl
 unfold putK
 have e:((ks.zip vs).any λkv=>decide (kv.1=k))=ks.contains k:=by
  rw[Bool.eq_iff_iff,gX,nK]
  constructor
  ·rintro⟨p,hp,he⟩
   have:=decide_eq_true_iff.mp he
   rw[←this]
   exact(dn hp).1
  ·intro hk
   obtain⟨i,hi,rfl⟩:=List.getElem_of_mem hk
   exact⟨(ks[i],vs[i]'(by omega)),bB.mpr ⟨i,by simp;omega,by simp⟩,by simp⟩
 rw[e]
 by_cases h:ks.contains k=true
 ·rw[if_pos h,if_pos h]
  clear e h
  induction ks generalizing vs with
  |nil=>simp
  |cons y ks ih=>
   cases vs with
   |nil=>simp at hl
   |cons u vs=>
    simp only[eW,bC,ih (by simpa using hl)]
    by_cases hy:y=k<;>simp[hy]
 ·rw[if_neg h,if_neg h,rB hl]
  rfl
end
end L3
namespace L3
open PySem PySem.Spec L2
open PyProof.Rows hiding St
section
variable {X:Cx}{ct:Nat->af}{ms:List Mo}{rk n m k:Nat}{st:cp}{rest:List cp}{a b c e tg:Expr}{f g h:EF}{p q:BF}{u w:SF}{pos:cG}
def mm (i:Nat)(fj f:EF):SF:=λρ=>(f ρ).bind λd=>(eV i ρ).bind λo=>(fj ρ).bind λj=>match o with
 |.dK ks ds=>(su j).bind λk=>if ks.length<16777216 then some (.nx (ρ.set i (some (.dK (ef ks ds k d).1 (ef ks ds k d).2))))else none
 |.dT ks ds=>(match j with
  |.tup js=>(lm js).bind λk=>if ks.length<16777216 then some (.nx (ρ.set i (some (.dT (ef ks ds k d).1 (ef ks ds k d).2))))else none
  |_=>none)
 |_=>none
theorem Li {κ:Type}[DecidableEq κ]{R:D->V->Prop}{d:D}{v:V}(r:R d v)(k:κ){ks:List κ}{ds:List D}{vs:List V}(hl:ks.length=vs.length)(hp:Pr R ds vs) :
  ∃us,putK (ks.zip vs) k v=(ef ks ds k d).1.zip us/\(ef ks ds k d).1.length=us.length/\Pr R (ef ks ds k d).2 us:=by
 rw[S5 k v hl]
 unfold ef
 by_cases h:ks.contains k=true
 ·rw[if_pos h,if_pos h]
  refine⟨_,rfl,by simp[hl],?_⟩
  clear h
  induction ks generalizing ds vs with
  |nil=>simp;exact .nil
  |cons y ks ih=>
   cases hp with
   |nil=>simp at hl
   |cons h t=>
    simp only[eW,bC]
    refine .cons ?_ (ih (by simpa using hl) t)
    by_cases hy:y=k
    ·rw[if_pos hy,if_pos hy];exact r
    ·rw[if_neg hy,if_neg hy];exact h
 ·rw[if_neg h,if_neg h]
  exact⟨_,rfl,by simp[hl],hp.append (.cons r .nil)⟩
theorem Hv (i:Nat){x:aR}{j:Expr}{p1 fD:cG}{fj:EF}(hm:ms[i]?=some (.ow 1))(hu:X.A.units+1<gQ)(hj:XE X ct ms 0 j fj)(he:XE X ct ms 0 e f)(hN:X.N[i]?=some x:=by rfl)(hv:pK X.env.scope x:=by first|exact Or.inl rfl|exact Or.inr (Or.inl rfl)|exact Or.inr (Or.inr rfl))(hd:(x==("__debug__":aR))=false:=by decide)
  (iX:(x==("__classdict__":aR))=false:=by decide) (hs:eE e (some (.Subscript (.Name x p1) j fD)) pos.line X.env=pure false:=by rfl) :
  XS X ct ms rk (.Assign [.Subscript (.Name x p1) j fD] e pos) (mm i fj f):=by
 obtain⟨t,pt,qt⟩:=he
 obtain⟨tj,sI,sJ⟩:=hj
 refine⟨_,Tz hu (j9 hN hv hd iX) sI pt hs,λF0 B F H ρ σ o E rs e z=>?_⟩
 obtain⟨d,g1,g2⟩:=aW e
 obtain⟨d1,oZ,g3,g4,g5⟩:=dO g2
 refine qt F0 B F H ρ σ d _ rs g1 λv0 F1 H1 x1 l0=>?_
 have jW:=rs.ext x1
 obtain⟨f1,fr,n1,b1,dj,i4,cf,put⟩:=jW.put (F':=F) (H':=H) hm
 obtain⟨v,hσ,ow⟩:=i4 d1 (xu g3)
 refine⟨v,hσ,sJ F0 B F1 H1 ρ σ oZ _ jW g4 λvj F2 H2 x2 lj=>?_⟩
 have JA:Dt X.K ct F2 d v0:=Dt.mono x2.ff l0
 cases d1 with
 |dK ks ds=>
  dsimp only at g5
  obtain⟨key,g6,g7⟩:=aW g5
  by_cases hz:ks.length<16777216
  ·rw[if_pos hz]at g7
   cases g7
   obtain⟨ad,vs,sg,rfl,rfl,hF,hH,hl,ol⟩:=ow.dK_inv
   have hA:=x2.hh _ _ hH
   have fA:F2 ad=none:=x2.nf ad _ hH nofun hF
   have e0:=ol.nil0
   subst e0
   have hp:Pr (Dt X.K ct F2) ds vs:=ol.pr λ_ _ _ _ q=>q.1.mono x2.ff
   obtain⟨us,Gd,Ge,Gf⟩:=Li JA key hl hp
   have hk:=HP g6 lj
   subst hk
   refine⟨ad,_,rfl,nu.k hA (by rw[cY,←hl,km,cr];exact hz),?_⟩
   rw[Gd]
   refine z σ F2 _ (jW.change hm x2 hσ b1 dj cf put am fA (.inr (.dK fA zw Ge (eG.ofPr (Gf.mono λ_ _ q=>⟨q,rfl⟩)))) (fn:=[ad]) (by simp) ?_)
   intro a ha
   rw[aJ]at ha
   subst ha
   exact .inl am
  ·rw[if_neg hz]at g7;cases g7
 |dT ks ds=>
  cases oZ with
  |tup js=>
   dsimp only at g5
   obtain⟨key,g6,g7⟩:=aW g5
   by_cases hz:ks.length<16777216
   ·rw[if_pos hz]at g7
    cases g7
    obtain⟨ad,vs,sg,rfl,rfl,hF,hH,hl,ol⟩:=ow.dT_inv
    have hA:=x2.hh _ _ hH
    have fA:F2 ad=none:=x2.nf ad _ hH nofun hF
    have e0:=ol.nil0
    subst e0
    have hp:Pr (Dt X.K ct F2) ds vs:=ol.pr λ_ _ _ _ q=>q.1.mono x2.ff
    obtain⟨us,Gd,Ge,Gf⟩:=Li JA key hl hp
    obtain⟨bd,ws,rfl,hb,Ga⟩:=lj.tup x2.fh
    have hk:=LQ g6 Ga
    subst hk
    refine⟨ad,_,rfl,nu.t hA hb (by rw[cY,←hl,km,cr];exact hz),?_⟩
    rw[Gd]
    refine z σ F2 _ (jW.change hm x2 hσ b1 dj cf put am fA (.inr (.dT fA zw Ge (eG.ofPr (Gf.mono λ_ _ q=>⟨q,rfl⟩)))) (fn:=[ad]) (by simp) ?_)
    intro a ha
    rw[aJ]at ha
    subst ha
    exact .inl am
   ·rw[if_neg hz]at g7;cases g7
  |_=>cases g5
 |_=>cases g5
def Cb (K:ae):V->V->Hp->VK->Prop:=λo i H Q=>∃p xs k v,o=.ref p/\i=.int k/\fw K H p xs/\atI xs k=some v/\Q v H
theorem Sh:yM X (Cb X.K):=by
 intro ah s σ H o i ov iv Q I ro ri h
 obtain⟨p,xs,k,z,rfl,rfl,hq,he,q⟩:=h
 cases ro
 obtain⟨t,rfl⟩:=ri
 obtain⟨cq,r,pl,hz⟩:=I.list hq
 obtain⟨j,h1,h2,h3,h4,h5⟩:=DZ he
 obtain⟨w,ew,oK⟩:=r.get h2
 have hl:=r.length
 have hn:=jG
 have fin:EP X ah σ Q w s:=⟨z,H,I,oK,q⟩
 by_cases h0:0<=k
 ·have hj:k.toNat=j:=by
   rw[mz h0 h5]at h1
   exact Option.some.inj h1
  exact wpAny_getItem_list pl.isList h0 (by omega) (by rw[hj];simpa using ew) fin
 ·have hj:(k+(cq.toArray.size:Int)).toNat=j:=by
   rw[lI (by omega) h4]at h1
   rw[aN,←hl]
   exact Option.some.inj h1
  exact wpAny_getItem_list_neg pl.isList (by omega) (by rw[aN]<;>omega) (by omega) (by rw[hj];simpa using ew) fin
def nG (i:Nat)(fj:EF)(gi:Int->Int->Int)(f:EF):SF:=λρ=>(eV i ρ).bind λo=>(fj ρ).bind λj=>(f ρ).bind λy=>match o,j with
 |.lst ds,.int z=>(atI ds z).bind λx=>(match x,y with
  |.int a,.int b=>(iM ds z (.int (gi a b))).bind λkP=>some (.nx (ρ.set i (some (.lst kP))))
  |_,_=>none)
 |_,_=>none
theorem LV (i:Nat){x:aR}{op:iO}{j:Expr}{p1 fD:cG}{fj:EF}{gi:Int->Int->Int}(ho:xE X op (Ds gi))(hm:ms[i]?=some (.ow 1))(hj:XE X ct ms n j fj)(he:XE X ct ms m e f)(hN:X.N[i]?=some x:=by rfl)(hv:pK X.env.scope x:=by first|exact Or.inl rfl|exact Or.inr (Or.inl rfl)|exact Or.inr (Or.inr rfl))(hd:(x==("__debug__":aR))=false:=by decide)
  (iX:(x==("__classdict__":aR))=false:=by decide) (ha:∀ov iv new,augStore j ov iv new=(do dm [new,ov,iv] (ka ov iv new);nn [new,ov,iv] [];pure .next):=by intros;rfl) :
  XS X ct ms rk (.AugAssign (.Subscript (.Name x p1) j fD) op e pos) (nG i fj gi f):=by
 obtain⟨t,pt,qt⟩:=he
 obtain⟨tj,sI,sJ⟩:=hj
 refine⟨_,TR (j9 hN hv hd iX) sI Sh pt ho DM ha,λF0 B F H ρ σ o E rs e z=>?_⟩
 obtain⟨d1,oZ,g3,g4,g5⟩:=dO e
 obtain⟨d2,g6,g7⟩:=aW g5
 obtain⟨f1,fr,n1,b1,dj,i4,cf,put⟩:=rs.put (F':=F) (H':=H) hm
 obtain⟨v,hσ,ow⟩:=i4 d1 (xu g3)
 refine⟨v,hσ,sJ F0 B F H ρ σ oZ _ rs g4 λvj F2 H2 x2 lj=>?_⟩
 cases d1<;>try (cases g7;done)
 rename_i ds
 cases oZ<;>try (cases g7;done)
 rename_i zi
 ·skip
  dsimp only at g7
  obtain⟨da,g8,g9⟩:=aW g7
  obtain⟨ad,vs,sg,rfl,rfl,hF,hH,ol⟩:=ow.lst_inv
  have hA:H2 ad=some (.lst vs):=x2.hh _ _ hH
  have hp:Pr (Al X.K ct F2 H2 0) ds vs:=ol.pr λ_ _ _ _ q=>q.1.mono x2.ff
  obtain⟨va,Fz,FA⟩:=hp.atI g8
  refine⟨ad,vs,zi,va,rfl,lj.int,fw.of hA,Fz,qt F0 B F2 H2 ρ σ d2 _ (rs.ext x2) g6 λvy F3 H3 x3 ly=>?_⟩
  have kA:=x2.trans x3
  cases da<;>try (cases g9;done)
  rename_i ia
  cases d2<;>try (cases g9;done)
  rename_i ib
  ·skip
   dsimp only at g9
   obtain⟨kP,Nw,Nx⟩:=aW g9
   cases Nx
   obtain⟨jn,Ny,Nz⟩:=aW Nw
   cases Nz
   have NE:H3 ad=some (.lst vs):=x3.hh _ _ hA
   have fA:F3 ad=none:=kA.nf ad _ hH nofun hF
   have e0:=ol.nil0
   subst e0
   refine⟨ia,ib,FA.int,ly.int,ad,vs,zi,jn,rfl,lj.int,NE,by rw[←ol.length];exact Ny,?_⟩
   refine z σ F3 _ (rs.change hm kA hσ b1 dj cf put am fA (.inr (.lst fA zw (eG.set0 ⟨.int _,rfl⟩ (λ_ _ _ q=>q.2) jn (ol.mono λ_ _ _ _ q=>⟨q.1.mono kA.ff,q.2⟩)))) (fn:=[ad]) (by simp) ?_)
   intro a ha
   rw[aJ]at ha
   subst ha
   exact .inl am
structure Ic (K:ae)(C:af):Prop where
 cl:kX K C
 ha:av K (.ref C) "__class__"=some (some (.builtin "object.__class__"))
 hn:dg K (.builtin "object.__class__") "__get__"=some (some (.builtin "getset_descriptor.__get__"))
 ht:hG K (.builtin "object.__class__")=some true
 hm:dS K C (.type "object")=some true
def qT (all sub:List Nat):D->Option D
 |.obj c _ _=>if all.contains c=true then some (.bl (sub.contains c))else none
 |_=>none
theorem LW {C:af}{x:aR}{all sub:List Nat}{pp p2:cG}(hI:∀c∈all,Ic X.K (ct c)/\bJ X.K (.ref (ct c)) (.ref C)=some (sub.contains c))(hm:X.mg "isinstance"=none)(rK:X.mg x=some (.ref C))(he:XE X ct ms n e f)(hg:Gl X "isinstance":=by rfl)(o6:Gl X x:=by rfl)(hd2:(x==("__debug__":aR))=false:=by decide)
  (tN:aw [e,.Name x p2] X.env=(false,bS e X.env)::aw [.Name x p2] X.env:=by rfl) (qP:aw [.Name x p2] X.env=(false,bS (.Name x p2) X.env)::aw [] X.env:=by rfl) (ip:(cD pos (aw [.Name x p2] X.env)).any (·.1)=false:=by rfl) :
  XE X ct ms k (.Call (.Name "isinstance" pp) [e,.Name x p2] [] pos) (e1 (qT all sub) f):=by
 obtain⟨t,pt,qt⟩:=he
 refine⟨_,DL RW hg hm qw (uz pt (uz (LA (v:=.ref C) o6 rK rfl hd2) xU qP) tN) (by decide) (by decide) tN ip,λF0 B F H ρ σ d Q rs e w=>?_⟩
 obtain⟨d1,h1,h2⟩:=aW e
 refine qt F0 B F H ρ σ d1 _ rs h1 λv F' H' x l=>?_
 cases d1 with
 |obj c ns ds=>
  unfold qT at h2
  dsimp only at h2
  by_cases hc:all.contains c=true
  ·rw[if_pos hc]at h2
   cases h2
   obtain⟨a,dx,vs,rfl,ha,_⟩:=l.obj x.fh
   obtain⟨ic,Oz⟩:=hI c (by simpa using hc)
   exact⟨_,C,_,_,rfl,.ins ha ic.cl ic.ha ic.hn ic.ht ic.hm,Oz,w _ F' H' x (Al.of (.bl _))⟩
  ·rw[if_neg hc]at h2;cases h2
 |_=>cases h2
end
end L3
namespace L3
open PySem PySem.Spec L2
section
variable {K:ae}{ct:Nat->af}{n m k:Nat}
end
end L3
namespace PySem
section
variable {prog:bb}{w:bG}{A:bz}{R:Result->ao->Prop}{I:af}{fp wr:List af}{n:Nat}{P:Nat->aa->Prop}{St:Nat->aK->Prop}{kw:List (aR×aa)}
end
section
variable {prog:bb}{w:bG}{A:bz}{E:aa->ao->Prop}{s:ao}
end
end PySem
namespace L3
open PySem PySem.Spec L2
section
variable {X:Cx}{ct:Nat->af}{ms:List Mo}{e b:Expr}{f g:EF}{n m k:Nat}
end
end L3
namespace L3
open PySem PySem.Spec L2
open PyProof.Rows hiding St
section
variable {X:Cx}{ct:Nat->af}{ms:List Mo}{rk n m k:Nat}{a b c e o:Expr}{f g h:EF}{pos:cG}
theorem VU {x:D}(hx:x.sc=true):∀{ds:List D},ds.all D.sc=true->(ds.map D.v).findIdx? (λz=>IL z x.v)=ds.findIdx? λy=>IK y x
 |[],_=>rfl
 |d::ds,h=>by
  rw[mw,bN]at h
  rw[bC,pq,pq,Ws h.1 hx,VU hx h.2]
theorem LX:∀{xs:List V} {us:List aa},xs.length=us.length->(∀(i:Nat) (x:V) (u:aa),xs[i]?=some x->us[i]?=some u->L2.RelV x u)->bR xs us
 |[],[],_,_=>.nil
 |[],_::_,h,_=>by cases h
 |_::_,[],h,_=>by cases h
 |x::xs,u::us,h,r=>.cons (r 0 x u rfl rfl) (LX (by simpa using h) λi y w hy hw=>r (i+1) y w (by simpa using hy) (by simpa using hw))
def tY:List V->Hp->VK->Prop:=λvs H Q=>∃j:Int,vs=[.int j]/\0<=j/\j<=16777216/\∀l,H l=none->Q (.ref l) (upd H l (.lst ((gP 0 j.toNat).map D.v)))
def mj:List D->Option D
 |[.int j]=>if 0<=j/\j<=16777216 then some (.lst (gP 0 j.toNat))else none
 |_=>none
theorem S6 {lo:Int}{n i:Nat}{d:D}(h:(gP lo n)[i]?=some d):d=.int (lo+(i:Int)):=by
 unfold gP at h
 rw[aM]at h
 obtain⟨t,ht,rfl⟩:=bX.mp h
 have:=aC.mp ht
 obtain⟨h1,h2⟩:=this
 rw[d7]at h2
 rw[h2]
theorem UH {ta:TA}{p1 p2 lu:cG}(hc:X.calm=true)(hg:Gl X "list")(hm:X.mg "list"=none)(o6:Gl X "range")(rK:X.mg "range"=none)(ha:PA X [a] ta)(hs:aw [a] X.env=[(false,bS a X.env)]:=by rfl)
    (qP:aw [.Call (.Name "range" p2) [a] [] lu] X.env=[(false,bS (.Call (.Name "range" p2) [a] [] lu) X.env)]:=by rfl) :
    PE X (.Call (.Name "list" p1) [.Call (.Name "range" p2) [a] [] lu] [] pos) (GN tY ta):=by
  intro ah s σ H Q I h
  refine dR (t7 I hg hm ji ?_ (by decide) (by decide))
  refine cF ?_ qP rfl
  rw[qP]
  show aT _ _ (spliced ((false,bS (.Call (.Name "range" p2) [a] [] lu) X.env)::[])) _ _ s
  refine Calls.spliced_cons ?_
  refine dR (t7 I o6 rK boot_range ?_ (by decide) (by decide))
  refine cF (di (ha lu ah s σ H _ I h) λus s1 ⟨vs,H1,I1,r1,q1⟩=>?_) hs rfl
  obtain⟨j,rfl,h1,h2,q⟩:=q1
  obtain⟨u,rfl,t,rfl⟩:=mr r1
  refine call_range_1 (Calls.spliced_nil ?_)
  have I2:L2.Inv X ah σ H1 { s1 with heap:=s1.heap.push { cls:=.type "range",data:=.fields #[.int 0 s1.toks,.int j t,.int 1 (s1.toks+1)] },toks:=s1.toks+1+1 }:=I1.kept λb o e=>ay _ e
  have hsz:ck.Range.rangeSize 0 j 1=(j.toNat:Int):=by rw[rangeSize_one];split<;>omega
  refine call_list_range (n:=j.toNat) (I2.ok.hd hc) (IsRange.new ..) (small_one (by omega) (by omega) (by omega) (by omega)) hsz (by omega) λh' tk yP c' kp hS si=>?_
  have hv:bR ((gP 0 j.toNat).map D.v) yP.toList:=by
    obtain⟨e1,e2⟩:=si
    refine LX (by simp[gP,e1]) λi x u hx hu=>?_
    obtain⟨t,rfl⟩:=e2 i u (by simpa using hu)
    rw[aM]at hx
    obtain⟨d,hd,rfl⟩:=bX.mp hx
    have hd:=S6 hd
    subst hd
    exact⟨t,by rw[Int.mul_one]⟩
  have hl:((gP 0 j.toNat).map D.v).length<=sizeLine:=by rw[cr];simp[gP];omega
  exact⟨.ref _,_,I2.laid (t':=tk) kp (ar _) (show dA X.prog X.w _ h' _ (.lst _)from⟨hl,yP.toList,c',hv,hS⟩),rfl,q _ (I2.hok.fresh (ar _))⟩
theorem UI (lo:Int)(n:Nat):(gP lo n).all D.sc=true:=by
 rw[gW]
 intro d hd
 unfold gP at hd
 obtain⟨t,_,rfl⟩:=bH.mp hd
 rfl
theorem B9 {K:ae}{F G:Hp}:∀{ds:List D},ds.all D.sc=true->Pr (Al K ct F G 0) ds (ds.map D.v)
 |[],_=>.nil
 |d::ds,h=>by
  rw[mw,bN]at h
  refine .cons ?_ (B9 h.2)
  cases d with
  |non=>exact Al.of .non
  |bl b=>exact Al.of (.bl b)
  |int b=>exact Al.of (.int b)
  |str b=>exact Al.of (.str b)
  |_=>cases h.1
theorem S7 {K:ae}:pJ K ct [n] 1 tY mj:=by
 intro F H vs ds d Q s l e w
 cases l with
 |cons h t=>
  cases t
  rename_i d1 v
  cases d1 with
  |int j=>
   unfold mj at e
   dsimp only at e
   by_cases hz:0<=j/\j<=16777216
   ·rw[if_pos hz]at e
    cases e
    exact⟨j,by rw[h.int],hz.1,hz.2,u0 s (B9 (UI 0 j.toNat)) w⟩
   ·rw[if_neg hz]at e;cases e
  |_=>cases e
theorem UJ {fs:Env->Option (List D)}{p1 p2 lu:cG}(hc:X.calm=true)(hg:Gl X "list")(hm:X.mg "list"=none)(o6:Gl X "range")(rK:X.mg "range"=none)(ha:XA X ct ms [a] [n] fs)(hs:aw [a] X.env=[(false,bS a X.env)]:=by rfl)
  (qP:aw [.Call (.Name "range" p2) [a] [] lu] X.env=[(false,bS (.Call (.Name "range" p2) [a] [] lu) X.env)]:=by rfl) :
  XO X ct ms 1 (.Call (.Name "list" p1) [.Call (.Name "range" p2) [a] [] lu] [] pos) (eN mj fs):=by
 obtain⟨t,pt,_,qt⟩:=ha
 refine⟨_,UH hc hg hm o6 rK pt hs qP,λF0 B F H ρ σ r Q rs e w=>?_⟩
 obtain⟨ds,h1,h2⟩:=aW e
 exact qt F0 B F H ρ σ ds _ rs h1 λvs F1 H1 x1 l=>S7 F1 H1 vs ds r Q x1.fh l h2 λv F2 H2 fp x2 l2 nd hf=>w v F2 H2 fp (x1.trans x2) l2 nd λz hz=>x1.hh.free (hf z hz)
end
end L3
namespace L2
open PySem PyProof.Rows
theorem S8 {X:Cx}{ah:List (af×cP)}{σ:St}{H:Hp}{s:ao}{QV:VK}{use:Option (aa->nj Unit)}{Q0:aa->ao->Prop}{iS iter tg:Expr}{ifs:List Expr}{scope:fF}{pos lu:cG}{N:List aR}{own:Nat}{cap:List Nat}{wi:TI}{g:TG}{tt:TT}{te:TE}(B:jN X scope N own cap)(hc:X.calm=true)(hi:PI X tg iter wi)
    (kg:fI own g)
    (hg:∀cl C fp s₀ H₀,PG (gU X scope cl N C fp s₀ H₀) tg g) (ht:∀cl C fp s₀ H₀,tq (gU X scope cl N C fp s₀ H₀) ifs tt) (he:∀cl C fp s₀ H₀,PE (gU X scope cl N C fp s₀ H₀) iS te)
    (hs:∀x,dB iter X.env x=pure x) (I:Inv X ah σ H s) (h:pd wi own cap g tt te σ H QV)
    (fin:∀(D C:af) (H5:Hp) (s6:ao) (r:Flow),QV (.ref D) H5->Inv X ah σ H5 s6->jO X ah H5 C->(∃m,s6.heap.Ns C m)->nV (aV X.prog X.w) X.A X.xe use Q0 (.ref D) C (.ok r) s6) :
    aT (aV X.prog X.w) X.A (comprehension (.ListComp iS [⟨tg,iter,ifs,0⟩] scope pos) scope X.env lu (newList []) false (bS iter X.env) use) Q0 X.xe s:=by
  obtain⟨cl,FF,c1,c2,_⟩:=jw (env:=X.env) scope.names [] (λx hx hf=>I.ok.has x.1 (B.free x hx hf)) (λy c e=>by simp at e)
  have qK:nS scope X.env=pure cl:=by
    have e:nS scope X.env=(forIn scope.names ([]:List (aR×af)) (λ(x:aR×bp) (cs:List (aR×af))=>if(x.2==bp.free)=true then do let a ← cellOf X.env x.1;pure (ForInStep.yield ((x.1,a)::cs))else pure (ForInStep.yield cs)) >>= pure:nj (List (aR×af))):=rfl
    rw[e,FF]
    rfl
  refine wpAny_comprehension_free (use:=use) rfl hs qK B.kind B.locs (di (hi ah s σ H _ I h) λv s1 h1=>di h1 λDv s2 h2=>?_)
  obtain⟨it,fp,tn,J,H2,e,I2,T,rP,f2,W0⟩:=h2
  subst e
  obtain⟨W,⟨m0,w0⟩,mU⟩:=W0 s2.heap.objs.size (I2.hok.fresh (ar _))
  refine cJ ?_
  have I3:Inv X ah σ (upd H2 s2.heap.objs.size (.lst [])) { s2 with heap:=s2.heap.push { cls:=.type "list",data:=.seq ([]:List aa).toArray } }:=I2.lnew .nil (cw _)
  generalize A7:({ s2 with heap:=s2.heap.push { cls:=.type "list",data:=.seq ([]:List aa).toArray } }:ao)=s3 at I3
  have k3:∀b o,s2.heap.get? b=some o->s3.heap.get? b=some o:=λb o e=>by rw[←A7];exact ay _ e
  have z3:s3.heap.objs.size=s2.heap.objs.size+1:=by rw[←A7];exact fx _ _
  have oC:∀b∈fp,b<s2.heap.objs.size:=λb hb=>by
    obtain⟨o,e,_⟩:=T.obj _ _ rP b hb
    exact aI e
  have iY:∀b∈fp,b≠s2.heap.objs.size:=λb hb=>aZ (oC b hb)
  have f3:∀b∈fp,jO X ah (upd H2 s2.heap.objs.size (.lst [])) b:=λb hb=>⟨by rw[zt (iY b hb)];exact(f2 b hb).1,(f2 b hb).2⟩
  have DF:tn 0 s3.heap:=T.keep _ _ _ rP λb _ o e=>k3 b o e
  show aT _ _ (jU scope X.env.globals cl [] X.env.qual none .none (some X.env)) _ _ _
  refine Ke λh₁ kk vW vS=>?_
  have IB:=KQ (t':=s3.toks) B I3 c1 c2 f3 (λb hb=>by rw[z3];exact cV (oC b hb)) vW kk vS
  generalize cellsFrom (s3.heap.objs.size+1) scope.names cl=cl at IB ⊢
  generalize Gc:({ s3 with heap:=h₁,toks:=s3.toks }:ao)=s4 at IB
  have Cz:tn 0 s4.heap:=T.keep _ _ _ DF λb _ o e=>by rw[←Gc];exact kk b o e
  show gL (aV X.prog X.w) X.A (.compStart (.ListComp iS [⟨tg,iter,ifs,0⟩] scope pos) 0 (.ref it) (.ref s2.heap.objs.size) (nU scope cl s3.heap.objs.size X.env))
      (nV (aV X.prog X.w) X.A X.xe use Q0 (.ref s2.heap.objs.size) s3.heap.objs.size) s4
  have lB:∀{H':Hp},(∀b∈fp,H' b=none)->∀b∈fp,jO (gU X scope cl N s3.heap.objs.size fp s3 (upd H2 s2.heap.objs.size (.lst []))) [] H' b:=λhn b hb=>
    ⟨hn b hb,aZ (by show b<s3.heap.objs.size;rw[z3];exact cV (oC b hb)),IB.ok.exfs b hb,.inl hb,λx c e=>(IB.ok.exf b hb).2 x c e,λp hp=>(nomatch hp)⟩
  have loop:gL (aV X.prog X.w) X.A (.compLoop (.ListComp iS [⟨tg,iter,ifs,0⟩] scope pos) 0 (.ref it) (.ref s2.heap.objs.size) (nU scope cl s3.heap.objs.size X.env))
      (nV (aV X.prog X.w) X.A X.xe use Q0 (.ref s2.heap.objs.size) s3.heap.objs.size) s4:=by
    refine Kc (λn s'=>∃i ys H',Inv (gU X scope cl N s3.heap.objs.size fp s3 (upd H2 s2.heap.objs.size (.lst []))) [] (aG own none++fH σ cap) H' s'/\tn i s'.heap/\(∀b∈fp,H' b=none)/\W i n ys H') ?_ m0
      ⟨0,[],_,IB,Cz,λb hb=>(f3 b hb).1,w0⟩
    rintro n s5 ⟨i,ys,H5,I5,sM,vP,w5⟩
    obtain⟨hD,FO⟩:=mU i n ys H5 w5
    rcases FO with⟨stop,qn⟩|⟨go,kR,step⟩
    · refine di (T.done (gU X scope cl N s3.heap.objs.size fp s3 (upd H2 s2.heap.objs.size (.lst []))) rfl rfl rfl hc i [] s5 _ H5 (λ_ _=>False) I5 (lB vP) sM stop) λr s6 dk=>?_
      obtain⟨hr,I6⟩:=dk
      subst hr
      obtain⟨m,hm,_⟩:=id I6.loc
      refine fin s2.heap.objs.size s3.heap.objs.size H5 s6 _ qn ?_ (I3.fpOk (ar _) I6.free) ⟨m,hm⟩
      have sb:d6 s3.heap.objs.size s6.heap s6.heap:=⟨rfl,λ_ _=>rfl⟩
      have U:=I6.base
      have nC:∀b o,s3.heap.get? b=some o->b≠s3.heap.objs.size:=λb o e=>aZ (aI e)
      have nT:∀b o,H5 b=some o->b≠s3.heap.objs.size:=λb o e z=>by
        have q:H5 s3.heap.objs.size=none:=I6.free
        rw[z,q]at e
        cases e
      refine I3.call' (ch:=fp) I6.os ?_ (λa o e=>(I6.hok a o e).stay (λb u hb q=>sb.extBut b u ?_ q) (λ_ q=>q) λ_ _ q=>q) I6.bare (λb hb=>⟨(f3 b hb).2.2.2.1,(f3 b hb).2.1,(f3 b hb).2.2.2.2.1,(f3 b hb).2.2.2.2.2⟩)
      · exact{
          keep:=λb o e z hb he=>sb.extBut b o (nC b o e) (U.keep b o e z hb he)
          slot:=λb o e z hb he=>by
            obtain⟨sl,q⟩:=U.slot b o e z hb he
            exact⟨sl,sb.extBut b _ (nC b o e) q⟩
          free:=U.free
          there:=λb o e he=>by
            obtain⟨o',q⟩:=U.there b o e he
            exact⟨o',sb.extBut b o' (nC b o e) q⟩
          tups:=U.tups
          frzs:=U.frzs
          tbls:=U.tbls }
      · rcases hb with rfl|hb
        · exact nT _ _ e
        · exact nT _ _ hb
    · refine di (T.item (gU X scope cl N s3.heap.objs.size fp s3 (upd H2 s2.heap.objs.size (.lst []))) rfl rfl rfl hc i [] s5 _ H5 (λ_ _=>False) I5 (lB vP) sM go) λr s6 dk=>?_
      obtain⟨u,hr,h6⟩:=dk
      subst hr
      refine di h6 λ_ s7 dk=>?_
      obtain⟨x,H7,I7,r7,y7,wQ,Fs⟩:=dk
      have Es:=I7.pinned (lB Fs) (T.obj _ _ wQ)
      refine di (hg cl s3.heap.objs.size fp s3 _ _ s7 _ H7 x u _ Es r7 (kg _ _ _ _ (step x H7 y7))) λ_ s8 dk=>?_
      obtain⟨σ8,H8,I8,q8,l8,p8⟩:=dk
      have back:∀{H9:Hp} {s9:ao},Inv (gU X scope cl N s3.heap.objs.size fp s3 (upd H2 s2.heap.objs.size (.lst []))) ([]++kd fp s7.heap) σ8 H9 s9 ->
          Inv (gU X scope cl N s3.heap.objs.size fp s3 (upd H2 s2.heap.objs.size (.lst []))) [] (aG own none++fH σ cap) H9 s9/\tn (i+1) s9.heap/\∀b∈fp,H9 b=none:=λ{H9 s9} I9=>by
        refine⟨(I9.unpinned).weak l8.symm (λj v e=>?_),T.keep _ _ _ wQ λb hb o e=>(I9.pin (b,o) (aE _ (aE _ (vw hb e)))).1,λb hb=>?_⟩
        · by_cases hj:j<own
          · rw[cy (by rw[de];exact hj),eY,if_pos hj]at e
            cases e
          · rw[p8 j (by omega)];exact e
        · obtain⟨o,e,d⟩:=T.obj _ _ wQ b hb
          exact(I9.pin (b,o) (aE _ (aE _ (vw hb e)))).2.1
      refine di (ht cl s3.heap.objs.size fp s3 _ _ s8 σ8 H8 _ I8 q8) λok s9 dk=>?_
      obtain⟨H9,I9,q9⟩:=dk
      cases ok with
      |false=>
        rw[if_neg aY]
        rw[if_neg aY]at q9
        obtain⟨m',vV,w'⟩:=q9
        obtain⟨b1,b2,b3⟩:=back I9
        exact⟨m',vV,i+1,ys,H9,b1,b2,b3,w'⟩
      |true=>
        rw[if_pos rfl]
        rw[if_pos rfl]at q9
        refine di (he cl s3.heap.objs.size fp s3 _ _ s9 σ8 H9 _ I9 q9) λuy GH dk=>?_
        obtain⟨y,yH,Ep,r10,vQ,m',vV,w'⟩:=dk
        refine di (G8 _ GH σ8 yH (.ref s2.heap.objs.size) [y] (.ref s2.heap.objs.size) [uy] (λ_ yI=>yI=upd yH s2.heap.objs.size (.lst (ys++[y]))) Ep rfl (.cons r10 .nil) ⟨_,ys,y,rfl,rfl,vQ,kR,rfl⟩) λ_ PB dk=>?_
        obtain⟨_,yI,Er,_,EZ⟩:=dk
        subst EZ
        obtain⟨b1,b2,b3⟩:=back Er
        exact⟨m',vV,i+1,ys++[y],_,b1,b2,b3,w'⟩
  exact codeAny_compStart_list loop (T.self X.A 0 s4 _ _ Cz loop)
theorem RB {X:Cx}{i:Nat}{x:aR}{pos' rm:cG}{iS iter tg:Expr}{ifs:List Expr}{scope:fF}{pos:cG}{N:List aR}{own:Nat}{cap:List Nat}{wi:TI}{g:TG}{tt:TT}{te:TE}(B:jN X scope N own cap)(hc:X.calm=true)(hi:PI X tg iter wi)
  (kg:fI own g)
  (hg:∀cl C fp s₀ H₀,PG (gU X scope cl N C fp s₀ H₀) tg g) (ht:∀cl C fp s₀ H₀,tq (gU X scope cl N C fp s₀ H₀) ifs tt) (he:∀cl C fp s₀ H₀,PE (gU X scope cl N C fp s₀ H₀) iS te)
  (hN:X.N.Nodup) (AO:X.N[i]?=some x) (hx:Loc X.env.scope x) (wC:eE (.ListComp iS [⟨tg,iter,ifs,0⟩] scope pos) (some (.Name x pos')) rm.line X.env=pure true)
  (hs:∀x,dB iter X.env x=pure x:=by intro _;rfl) (hf:X.fn x=true\/X.env.scope.names.lookup x=some .local:=by first|exact .inl rfl|exact .inr rfl|assumption) :
  PS X (.Assign [.Name x pos'] (.ListComp iS [⟨tg,iter,ifs,0⟩] scope pos) rm) (wR (pd wi own cap g tt te) (o3 i)):=by
 intro ah s σ H D I h
 rw[exec_Assign_Name_used _ _ _ _ wC]
 refine ak (kG (ak ?_))
 show aT _ X.A (do let _ ← comprehension (.ListComp iS [⟨tg,iter,ifs,0⟩] scope pos) scope X.env _ (newList []) false (bS iter X.env) (some (eQ (.Name x pos') X.env))) _ _ s
 refine ak (dZ (S8 (use:=some (eQ (.Name x pos') X.env)) (Q0:=λ_ s'=>∃σ' H',Inv X ah σ' H' s'/\D.nx σ' H') B hc hi kg hg ht he hs I h λDa C H5 s6 r q I6 fo hm=>?_) (λ_ s' hq=>aq (aq hq)) λ_ _ e=>e)
 show aT _ X.A (eQ (.Name x pos') X.env (.ref Da)) _ _ _
 refine wpAny_assign_Name (KM (v:=.ref Da) I6 hN AO hx rfl (λs7 I7 Om=>?_) hf)
 obtain⟨m,hm⟩:=hm
 obtain⟨a,sb,ha⟩:=Om
 obtain⟨f0,f1,f2,f3,f4,f5⟩:=fo
 have iY:C≠a:=by
  rcases ha with rfl|ha
  ·exact f1
  ·exactλz=>f4 x a ha z.symm
 refine⟨m,hm.sameBut sb iY,λh' PH=>⟨_,H5,I7.turned (t':=s7.toks) (it:=C) (λb o hb e=>PH.extBut b o hb e) f0 f1 f3 f4 f5,q⟩⟩
end L2
namespace L3
open PySem PySem.Spec L2
open PyProof.Rows hiding St
section
variable {X:Cx}{ct:Nat->af}{ms:List Mo}{rk n m k:Nat}{a b c e o:Expr}{f g h:EF}{pos:cG}
theorem wu {om:List Mo}{iS iter tg:Expr}{ifs:List Expr}{scope:fF}{N:List aR}{own:Nat}{cap:List Nat}{fi:Env->Option (List D)}{gg:D->Env->Option Env}{p:BF}{i:Nat}{x:aR}{pos' rm:cG}
  (hm:ms[i]?=some (.ow k)) (hN:X.N.Nodup) (AO:X.N[i]?=some x) (hx:Loc X.env.scope x)
  (B:jN X scope N own cap) (hc:X.calm=true) (ho:om.length=own) (mM:∀i∈cap,i<ms.length) (hi:rW X ct ms n tg iter fi)
  (hg:∀cl C fp s₀ H₀,rT (gU X scope cl N C fp s₀ H₀) ct (om++gz ms cap) own n tg gg) (ht:∀cl C fp s₀ H₀,uM (gU X scope cl N C fp s₀ H₀) ct (om++gz ms cap) ifs p) (he:∀cl C fp s₀ H₀,XO (gU X scope cl N C fp s₀ H₀) ct (om++gz ms cap) (k-1) iS f)
  (wC:eE (.ListComp iS [⟨tg,iter,ifs,0⟩] scope pos) (some (.Name x pos')) rm.line X.env=pure true:=by rfl)
  (hs:∀x,dB iter X.env x=pure x:=by intro _;rfl) (hf:X.fn x=true\/X.env.scope.names.lookup x=some .local:=by first|exact .inl rfl|exact .inr rfl|assumption) :
  XS X ct ms rk (.Assign [.Name x pos'] (.ListComp iS [⟨tg,iter,ifs,0⟩] scope pos) rm) (sSet i (ee fi own cap gg p f)):=by
 obtain⟨wi,g,tt,te,pi,kg,pg,pt,pe,q⟩:=Lf (k:=k-1) (pos:=pos) B hc ho mM hi hg ht he
 refine⟨_,RB B hc pi kg pg pt pe hN AO hx wC hs hf,λF0 B F H ρ σ o E rs e w=>?_⟩
 obtain⟨d,h1,h2⟩:=aW e
 cases h2
 cases k with
 |succ k=>exact q F0 B F H ρ σ d _ rs h1 λv F' H' fp x l nd hf=>w _ F' H' (rs.set hm x l nd hf)
 |zero=>
  refine q F0 B F H ρ σ d _ rs h1 λv F' H' fp x l nd hf=>?_
  obtain⟨F2,x2,l2⟩:=l.freeze x hf
  exact w _ F2 H' (rs.set hm x2 (Ow.zero l2) bD λa z=>by cases z)
theorem xQ {i:Nat}{x:aR}{pos':cG}(hm:ms[i]?=some (.ow k))(hN:X.N[i]?=some x:=by rfl)(hv:pK X.env.scope x:=by first|exact Or.inl rfl|exact Or.inr (Or.inl rfl)|exact Or.inr (Or.inr rfl))(hd:(x==("__debug__":aR))=false:=by decide)
  (iX:(x==("__classdict__":aR))=false:=by decide):XS X ct ms 0 (.Return (some (.Name x pos')) pos) (sRet (eV i)):=by
 refine⟨_,L8 (j9 hN hv hd iX),λF0 B F H ρ σ o E rs e w=>?_⟩
 obtain⟨d,h1,h2⟩:=aW e
 cases h2
 obtain⟨fp,sl,nd,hb⟩:=rs.sl
 obtain⟨f1,fr,i1,i2,i3,i4,i5⟩:=sl.put hm
 obtain⟨v,Gg,l⟩:=i4 d (xu h1)
 obtain⟨F',x,l2⟩:=l.freeze (⟨rs.f0,rs.bh,rs.fh,rs.nf⟩:fv F0 B F H) (λz hz=>hb z (i1 z hz))
 exact⟨v,Gg,w v F' H [] x.ff x.hh x.fh x.nf (Ow.zero l2) bD λz hz=>by cases hz⟩
theorem VV (hu:X.A.units+1<gQ)(ha:XE X ct ms n a f)(hb:XE X ct ms m b g)(hm:dG .In b=false):XT X ct ms (.Compare a [.In] [b] pos) (tb λρ=>(f ρ).bind λx=>(g ρ).bind λy=>(il y x).bind λr=>some (.bl r.isSome)):=by
 obtain⟨ta,XJ,pa,pb,q⟩:=ha.bin hb
 refine⟨_,U5 (Vv hu pa pb) hm,λF0 B F H ρ σ t Q rs e w=>?_⟩
 obtain⟨d0,h0,h9⟩:=aW e
 obtain⟨d1,d2,h1,h2,h3⟩:=dO h0
 obtain⟨r,h4,h5⟩:=aW h3
 cases h5
 cases h9
 refine q F0 B F H ρ σ d1 d2 _ rs h1 h2 λx y F' H' x1 l1 l2=>?_
 obtain⟨a,o,rfl,g,_,h⟩:=LR (r:=r) x1.fh l2 l1 h4
 refine⟨a,o,rfl,g,?_⟩
 cases r with
 |none=>rw[h.none_of];exact⟨_,rfl,w F' H' x1⟩
 |some d=>obtain⟨u,rfl,Jm⟩:=h.some_of;exact⟨_,rfl,w F' H' x1⟩
end
end L3
namespace L2
open PySem PyProof.Rows
def CZ (K:ae)(a:af)(n:Nat):It :=
 ⟨λi H=>i<n/\∃xs,fw K H a xs/\xs.length=n,λi H x H'=>H'=H/\∀xs,fw K H a xs->xs[n-1-i]?=some x,λi _=>n<=i⟩
theorem S9 {P:bb}{w:bG}{K:ae}{tg:Expr}(a it:af)(n:Nat):Turn P w K tg (CZ K a n) [it] it (λi h=>i<=n/\h.IsRevIter it a ((n:Int)-1-(i:Int))) where
 mem:=by simp
 obj:=λi h st b hb=>by
  have e:b=it:=by simpa using hb
  subst e
  obtain⟨_,o,e,c,d⟩:=st
  exact⟨o,e,λv z=>by rw[d]at z;cases z⟩
 keep:=λi h h' st k=>⟨st.1,st.2.at λo e=>k it (by simp) o e⟩
 item:=by
  intro X hP hw hK hc i ah s σ H E I hf st hg
  subst hP hw hK
  obtain⟨hi,xs,hq,hx⟩:=hg
  obtain⟨cq,rv,p,hz⟩:=I.list hq
  have hl:=rv.length
  have Jo:xs[n-1-i]?=some (xs[n-1-i]'(by omega)):=by simp[show n-1-i<xs.length by omega]
  obtain⟨u,hu,ru⟩:=rv.get Jo
  obtain⟨f0,f1,f2,f3,f4,f5⟩:=hf it (by simp)
  have e:(n:Int)-1-(i:Int)=((n-1-i:Nat):Int):=by omega
  have st:=st.2
  rw[e]at st
  refine wpAny_pyNext_rev_item st p.isList (x:=u) (by simpa using hu) λh' lA sb=>?_
  have I1:Inv X ah σ H { s with heap:=h' }:=I.turned (t':=s.toks) (λb o hb e=>(sb.2 b hb).trans e) f0 f1 f3 f4 f5
  obtain⟨o,e',c,d⟩:=id lA
  have e2:((n-1-i:Nat):Int)-1=(n:Int)-1-((i+1:Nat):Int):=by omega
  rw[e2]at lA
  exact⟨u,rfl,Ej (s:={ s with heap:=h' }) e' c d (by decide) ⟨_,H,I1,ru,⟨rfl,λys hy=>by rw[I.list_inj hy hq];exact Jo⟩,⟨hi,lA⟩,λb hb=>(hf b hb).1⟩⟩
 done:=by
  intro X hP hw hK hc i ah s σ H E I hf st hg
  subst hP hw hK
  obtain⟨f0,f1,f2,f3,f4,f5⟩:=hf it (by simp)
  have e:(n:Int)-1-(i:Int) = -1:=by have:=st.1;have h2:n<=i:=hg;omega
  have st:=st.2
  rw[e]at st
  exact wpAny_pyNext_rev_end (I.ok.hd hc) st λh' eb=>⟨rfl,I.turned (t':=s.toks) (λb o hb e=>eb b o hb e) f0 f1 f3 f4 f5⟩
 self:=λ_ _ _ _ _ st h=>wpAny_pyIter_revIter st.2 h
def Gj (K:ae)(ta:TE):TI:=λσ H R=>ta σ H λv H1=>∃a xs,v=.ref a/\fw K H1 a xs/\R (CZ K a xs.length) H1
theorem VW {X:Cx}{tg e:Expr}{te:TE}{p pos:cG}(hg:Gl X "reversed")(hm:X.mg "reversed"=none)(he:PE X e te)(hs:aw [e] X.env=[(false,bS e X.env)]:=by rfl):PI X tg (.Call (.Name "reversed" p) [e] [] pos) (Gj X.K te):=by
 intro ah s σ H R I h
 refine dR (t7 (u:=.type "reversed") I hg hm (by rfl) ?_ (by decide) (by decide))
 refine cF (di ((uz he xU hs) pos ah s σ H (λvs H1=>match vs with|[x]=>∃a xs,x=.ref a/\fw X.K H1 a xs/\R (CZ X.K a xs.length) H1|_=>False) I h) λus s1 ⟨vs,H1,I1,r,q⟩=>?_) hs rfl
 match vs,q with
 |[x],q=>
  obtain⟨a,xs,rfl,hq,q⟩:=q
  obtain⟨u,rfl,ru⟩:=r.one
  cases ru
  obtain⟨cq,rv,pl,hz⟩:=I1.list hq
  have hl:=rv.length
  refine call_reversed_list pl.isList ?_
  have I2:Inv X ah σ H1 { s1 with heap:=s1.heap.push (revObj a ((cq.toArray.size:Int)-1)) }:=I1.kept (t':=s1.toks) λb o e=>ay _ e
  have st:(s1.heap.push (revObj a ((cq.toArray.size:Int)-1))).IsRevIter s1.heap.objs.size a ((xs.length:Int)-1-((0:Nat):Int)):=⟨_,bo _ rfl,rfl,by simp[revObj,hl]⟩
  refine wpAny_pyIter_revIter st ⟨s1.heap.objs.size,[s1.heap.objs.size],_,_,H1,rfl,I2,S9 a _ xs.length,⟨cw _,st⟩,λb hb=>?_,q⟩
  have e:b=s1.heap.objs.size:=by simpa using hb
  subst e
  exact I1.fpOk (ar _) (I1.hok.fresh (ar _))
end L2
namespace L3
open PySem PySem.Spec L2
open PyProof.Rows hiding St
section
variable {X:Cx}{ct:Nat->af}{ms:List Mo}{rk n m k:Nat}{st:cp}{rest:List cp}{a b c e tg:Expr}{f g h:EF}{p q:BF}{u w:SF}{pos:cG}
theorem VX {K:ae}{F B:Hp}{a:af}{vs:List V}{ds:List D}(hp:Pr (Al K ct F B n) ds vs)(keep:∀F' H',bO F F'->bO B H'->bO F' H'->fw K H' a vs):pH K ct F B n (CZ K a vs.length) ds.reverse:=by
 intro i F' H' s1 s2 s3
 have hs:fw K H' a vs:=keep F' H' s1 s2 s3
 have hl:=hp.length
 refine⟨λd hd=>?_,λsj=>by show vs.length<=i;rw[gp]at sj;omega⟩
 have hi:i<ds.length:=by
  have:=(aC.mp hd).1
  rwa[gp]at this
 rw[nM hi]at hd
 obtain⟨v,hv,l⟩:=hp.get' hd
 refine⟨⟨by omega,vs,hs,rfl⟩,λx H2 y=>?_⟩
 obtain⟨e,y⟩:=y
 subst e
 have:=y vs hs
 rw[←hl,hv]at this
 cases this
 exact⟨F',.refl s3,l.mono s1 (.refl _)⟩
theorem UK {pp:cG}(hm:X.mg "reversed"=none)(he:XE X ct ms n e f)(hg:Gl X "reversed":=by rfl)(hs:aw [e] X.env=[(false,bS e X.env)]:=by rfl):rW X ct ms (n-1) tg (.Call (.Name "reversed" pp) [e] [] pos) (λρ=>(lsD f ρ).bind λds=>some ds.reverse):=by
 obtain⟨t,pt,qt⟩:=he
 refine⟨_,VW hg hm pt hs,λF0 B F H ρ σ ds R rs e w=>?_⟩
 obtain⟨WE,h0,h9⟩:=aW e
 cases h9
 obtain⟨d,h1,h2⟩:=aW h0
 rw[DT h2]at h1
 refine qt F0 B F H ρ σ _ _ rs h1 λv F' H' x l=>?_
 obtain⟨a,vs,rfl,ha,hp⟩:=l.lst x.fh
 exact⟨a,vs,rfl,ha,w _ F' H' x (VX hp λF2 H2 s1 s2 s3=>s2.seq ha)⟩
end
end L3
namespace L3
open PySem PySem.Spec L2
open PyProof.Rows hiding St
theorem eG.upd {R R':D->V->List af->Prop}{d:D}{ds:List D}{vs:List V}{fp:List af}{i:Nat}(h:eG R ds vs fp)(e:ds[i]?=some d):∃v f,vs[i]?=some v/\R d v f/\(∀a∈f,a∈fp) /\
  ∀d',R' d' v f->fp.Nodup->(∀d v f',(∀a∈f',a∈fp)->(∀a∈f',a∉f)->R d v f'->R' d v f')->eG R' (ds.set i d') vs fp:=by
 induction h generalizing i with
 |nil=>cases e
 |@cons _ _ _ _ f g h t ih=>
  cases i with
  |zero=>
   cases e
   refine⟨_,f,rfl,h,λa ha=>aO _ ha,λd' hd nd ot=>?_⟩
   rw[bu]at nd
   exact .cons hd (t.mono λd v f' hi r=>ot d v f' (λa ha=>aE _ (hi a ha)) (λa ha hf=>nd.2.2 a hf a (hi a ha) rfl) r)
  |succ i=>
   obtain⟨v,f2,h1,h2,h3,h4⟩:=ih (i:=i) e
   refine⟨v,f2,h1,h2,λa ha=>aE _ (h3 a ha),λd' hd nd ot=>?_⟩
   rw[bu]at nd
   exact .cons (ot _ _ f (λa ha=>aO _ ha) (λa ha hf=>nd.2.2 a ha a (h3 a hf) rfl) h) (h4 d' hd nd.2.1 λd v f' hi hn r=>ot d v f' (λa ha=>aE _ (hi a ha)) hn r)
section
variable {X:Cx}{ct:Nat->af}{ms:List Mo}{rk n m k:Nat}{st:cp}{rest:List cp}{a b c e tg:Expr}{f g h:EF}{p q:BF}{u w:SF}{pos:cG}
def oM (i:Nat)(fj fl f:EF):SF:=λρ=>(f ρ).bind λd=>(eV i ρ).bind λo=>(fj ρ).bind λj=>(fl ρ).bind λl=>match o,j,l with
 |.lst rs,.int y,.int z=>(ixN rs.length y).bind λy'=>(rs[y']?).bind λr=>(match r with
  |.lst ds=>(iM ds z d).bind λkP=>some (.nx (ρ.set i (some (.lst (rs.set y' (.lst kP))))))
  |_=>none)
 |_,_,_=>none
theorem Ta (i:Nat){x:aR}{j l:Expr}{p1 p2 fD:cG}{fj fl:EF}(hm:ms[i]?=some (.ow 2))(hj:XE X ct ms n j fj)(hl:XE X ct ms m l fl)(hp:kN j)(he:XE X ct ms 0 e f)(hN:X.N[i]?=some x:=by rfl)(hv:pK X.env.scope x:=by first|exact Or.inl rfl|exact Or.inr (Or.inl rfl)|exact Or.inr (Or.inr rfl))(hd:(x==("__debug__":aR))=false:=by decide)
  (iX:(x==("__classdict__":aR))=false:=by decide)
  (ha:∀v,eQ (.Subscript (.Subscript (.Name x p1) j p2) l fD) X.env v=(do
   let ov ← dm [v] (bS (.Subscript (.Name x p1) j p2) X.env)
   let iv ← dm [v,ov] (bS l X.env)
   fT fD
   dm [v,ov,iv] (ka ov iv v)
   nn [v,ov,iv] []):=by intro _;rfl)
  (hs:fu [.Subscript (.Subscript (.Name x p1) j p2) l fD] e pos.line X.env=pure false:=by rfl) (hw:fq [.Subscript (.Subscript (.Name x p1) j p2) l fD] e X.env=pure none:=by rfl)
  (h1:(cn [.Subscript (.Subscript (.Name x p1) j p2) l fD] X.env).map (·.2)=[eQ (.Subscript (.Subscript (.Name x p1) j p2) l fD) X.env]:=by rfl) :
  XS X ct ms rk (.Assign [.Subscript (.Subscript (.Name x p1) j p2) l fD] e pos) (oM i fj fl f):=by
 obtain⟨t,pt,qt⟩:=he
 obtain⟨tj,sI,sJ⟩:=hj
 obtain⟨tl,Ps,Pv⟩:=hl
 refine⟨_,D7 pt (HH (Mu Ly (j9 hN hv hd iX) sI hp) Ps DM ha) hs hw h1,λF0 B F H ρ σ o E rs e z=>?_⟩
 obtain⟨d,g1,g2⟩:=aW e
 obtain⟨d1,oZ,g3,g4,g5⟩:=dO g2
 obtain⟨Nr,g6,g7⟩:=aW g5
 refine qt F0 B F H ρ σ d _ rs g1 λv0 F1 H1 x1 l0=>?_
 have jW:=rs.ext x1
 obtain⟨f1,fr,n1,b1,dj,i4,cf,put⟩:=jW.put (F':=F) (H':=H) hm
 obtain⟨v,hσ,ow⟩:=i4 d1 (xu g3)
 refine⟨v,hσ,sJ F0 B F1 H1 ρ σ oZ _ jW g4 λvj F2 H2 x2 lj=>?_⟩
 cases d1 with
 |lst Xt=>
  cases oZ with
  |int yi=>
   cases Nr with
   |int zi=>
    obtain⟨y',k1,k2⟩:=aW g7
    obtain⟨r,k3,k4⟩:=aW k2
    cases r with
    |lst ds=>
     obtain⟨kP,k5,k6⟩:=aW k4
     cases k6
     obtain⟨jn,k8,k9⟩:=aW k5
     cases k9
     obtain⟨ad,vs,sg,rfl,rfl,hF,hH,ol⟩:=ow.lst_inv
     obtain⟨vr,f2,q1,q2,q3,q4⟩:=eG.upd (R':=Ow X.K ct F2 (upd H2 0 (.lst [])) 1) ol k3
     obtain⟨bd,us,WK,rfl,rfl,NF,Fy,Gx⟩:=q2.lst_inv
     clear q4
     have hA:H2 ad=some (.lst vs):=x2.hh _ _ hH
     refine⟨ad,vs,yi,.ref bd,rfl,lj.int,fw.of hA,?_,?_⟩
     ·unfold atI
      rw[←ol.length,k1]
      exact q1
     ·refine Pv F0 B F2 H2 ρ σ _ _ (jW.ext x2) g6 λvl F3 H3 x3 ll=>?_
      have kA:=x2.trans x3
      have hB:H3 bd=some (.lst us):=kA.hh _ _ Fy
      have fB:F3 bd=none:=kA.nf bd _ Fy nofun NF
      have e0:=Gx.nil0
      subst e0
      have xL:=bW.mp n1
      have IY:bd∈sg:=q3 bd am
      have iY:ad≠bd:=λz=>xL.1 (z▸IY)
      refine⟨bd,us,zi,jn,rfl,ll.int,hB,by rw[←Gx.length];exact k8,?_⟩
      obtain⟨XX,WJ,JR,Pt,Xr,Pu⟩:=eG.upd (R':=Ow X.K ct F3 (upd H3 bd (.lst (us.set jn v0))) 1) ol k3
      rw[q1]at JR
      cases JR
      obtain⟨WD,XU,Nu,eb,rfl,_,IU,Gy⟩:=Pt.lst_inv
      cases eb
      have e1:=Gy.nil0
      subst e1
      rw[Fy]at IU
      cases IU
      refine z σ F3 _ (jW.change hm kA hσ b1 dj cf put (ap _ IY) fB (.inr (.lst (kA.nf ad _ hH nofun hF) (by rw[zt iY];exact kA.hh _ _ hH) (Pu (.lst (ds.set jn d)) (.inr (.lst fB zw (eG.set0 ⟨Dt.mono kA.ff l0,rfl⟩ (λ_ _ _ q=>q.2) jn (Gx.mono λ_ _ _ _ q=>⟨q.1.mono kA.ff,q.2⟩)))) xL.2 ?_))) (fn:=ad::sg) n1 λa ha=>.inl ha)
      intro d0 v1 f' Oo FI o'
      refine(o'.ext kA).frame (.refl _) λa' Df=>⟨zt λe=>FI a' Df (by rw[e];exact am),((o'.ext kA).cells a' Df).1⟩
    |_=>cases k4
   |_=>cases g7
  |_=>cases g7
 |_=>cases g7
end
end L3
namespace L3
open PySem PySem.Spec L2
open PyProof.Rows hiding St
section
variable {K:ae}{ct:Nat->af}{F F' H B F0:Hp}
end
def qY (i:Nat):Out->Out
 |.nx ρ=>.nx (ρ.set i none)
 |.rt d=>.rt d
 |.bk ρ=>.bk (ρ.set i none)
 |.ct ρ=>.ct (ρ.set i none)
def sFz (i:Nat)(u:SF):SF:=λρ=>(u ρ).bind λo=>some (qY i o)
section
variable {X:Cx}{ct:Nat->af}{ms:List Mo}{rk k:Nat}
theorem zli {i:Nat}{d:D}:qY i (.rt d)=.rt d:=rfl
theorem zlj {i:Nat}{ρ:Env}:qY i (.nx ρ)=.nx (ρ.set i none):=rfl
end
end L3
namespace L3
open PySem PySem.Spec L2
open PyProof.Rows hiding St
section
variable {X:Cx}{ct:Nat->af}{ms:List Mo}{rk n m k:Nat}{a b c tg:Expr}{pos:cG}
end
end L3
namespace L2
open PySem PySem.Spec PyProof.Rows
section
variable {X:Cx}{mJ:List Expr}{kt:Nat}{pt:cG}
end
end L2
namespace L3
open PySem PySem.Spec L2
open PyProof.Rows hiding St
section
variable {X:Cx}{ct:Nat->af}{ms:List Mo}{n:Nat}{a b:Expr}{pos:cG}
end
end L3
namespace L3
open PySem PySem.Spec L2
open PyProof.Rows hiding St
section
variable {K:ae}{ct:Nat->af}{n m k:Nat}
end
end L3
namespace L2
open PySem PySem.Spec PyProof.Rows
theorem Tb (cq:List aa):slicePick cq.toArray none none (some (-1))=cq.reverse.toArray:=by
 unfold slicePick fG sliceRange
 congr 1
 have h1:¬((-1:Int) > 0):=by decide
 simp only[pB,h1,if_false,aN]
 have hc:((if((cq.length:Int)-1) > -1 then((cq.length:Int)-1 - -1 - -1-1) / - -1 else 0)).toNat=cq.length:=by
  rw[show(- -1:Int)=1 from rfl,Int.ediv_one]
  split<;>omega
 rw[hc,pj]
 have e:∀k∈az cq.length,(((λx=>cq.toArray[x]?) ∘ λ(k:Nat)=>((cq.length:Int)-1 + -1*(k:Int)).toNat) k)=cq.reverse[k]?:=λk hk=>by
  have hk:=aX.mp hk
  show cq.toArray[((cq.length:Int)-1 + -1*(k:Int)).toNat]?=_
  rw[show((cq.length:Int)-1 + -1*(k:Int)).toNat=cq.length-1-k by omega,List.getElem?_toArray,nM hk]
 have fm:∀(F:Nat->Option aa) (l:List Nat),(∀k∈l,F k=cq.reverse[k]?/\k<cq.length)->l.filterMap F=l.map λk=>(cq.reverse[k]?).getD .none:=by
  intro F l
  induction l with
  |nil=>exactλ_=>rfl
  |cons k l ih=>
   intro h
   obtain⟨h2,h3⟩:=h k am
   have h4:cq.reverse[k]?=some (cq.reverse[k]'(by rw[gp];exact h3)):=bt _
   rw[gm,h2,h4,bC,ih λk hk=>h k (ap _ hk),h4]
   rfl
 rw[fm _ _ λk hk=>⟨e k hk,aX.mp hk⟩]
 apply eJ
 ·simp
 ·intro i h2 h3
  simp only[fP,d7]
  rw[bt h3]
  rfl
section
variable {X:Cx}{e sp:Expr}{te:TE}{tp:TO}{pos p2:cG}
def GC (K:ae):V->Hp->VK->Prop:=λx H Q=>∃a xs,x=.ref a/\fw K H a xs/\∀p,H p=none->Q (.ref p) (upd H p (.lst xs.reverse))
def GY (K:ae)(te:TE)(tp:TO):TE:=λσ H Q=>te σ H λx H1=>tp σ H1 λo H2=>o=some (-1)/\GC K x H2 Q
theorem VY (he:PE X e te)(hp:PO X (some sp) tp):PE X (.Subscript e (.Slice none none (some sp) p2) pos) (GY X.K te tp):=by
  intro ah s σ H Q I h
  refine Subscript_ (di (he ah s σ H _ I h) λv s1 dk=>?_)
  obtain⟨x,H1,I1,r1,q1⟩:=dk
  refine wpAny_Slice ?_
  rw[oV]
  refine aq ?_
  refine aq ?_
  refine di (hp ah s1 σ H1 _ I1 q1) λvp s3 dk=>?_
  obtain⟨o,H3,I3,pp,q3⟩:=dk
  obtain⟨rfl,a,xs,rfl,hx,q⟩:=q3
  cases r1
  have I4:Inv X ah σ H3 { s3 with heap:=s3.heap.push { cls:=.type "slice",data:=.fields #[.none,.none,vp] } }:=I3.kept (t':=s3.toks) λb ob q=>ay _ q
  obtain⟨cq,r,ht,hz⟩:=I4.list hx
  have er:=r.length
  refine tail_any (ops:=[.ref a,.ref s3.heap.objs.size]) (s:={ s3 with heap:=s3.heap.push { cls:=.type "slice",data:=.fields #[.none,.none,vp] } }) (T:="list") ht.isList.typeIs lJ.lookup ?_ (by with_unfolding_all rfl)
  refine wpAny_getItem_list_slice ht.isList (rQ.new ..) .none .none pp (by simp) ?_ (by rw[aN]<;>omega)
  rw[Tb]
  refine⟨.ref _,_,I4.laid (t':=s3.toks) (o:=.lst xs.reverse) (λb ob q=>ay _ q) (ar _) ?_,rfl,q _ (I4.hok.fresh (ar _))⟩
  exact⟨by rw[gp];exact hz,_,0,r.reverse,bo _ rfl⟩
end
end L2
namespace L3
open PySem PySem.Spec L2
open PyProof.Rows hiding St
section
variable {X:Cx}{ct:Nat->af}{ms:List Mo}{n m:Nat}{e sp:Expr}{f g:EF}{pos p1:cG}
theorem VZ (hn:n<=1)(he:XE X ct ms n e f)(hp:XE X ct ms m sp (e1 qV (eC (.int 1)))):XO X ct ms 1 (.Subscript e (.Slice none none (some sp) p1) pos) (λρ=>((lsD f) ρ).bind λds=>some (.lst ds.reverse)):=by
 obtain⟨t,pt,qt⟩:=he
 obtain⟨t1,qZ,rf⟩:=hp
 refine⟨_,VY pt (Lw qZ),λF0 B F H ρ σ r Q rs e w=>?_⟩
 obtain⟨ds,h1,h2⟩:=aW e
 cases h2
 obtain⟨d,h3,h4⟩:=aW h1
 rw[DT h4]at h3
 refine qt F0 B F H ρ σ _ _ rs h3 λv F1 H1 x1 l1=>?_
 refine rf F0 B F1 H1 ρ σ (.int (-1)) _ (rs.ext x1) rfl λu F2 H2 x2 l2=>⟨-1,l2.int,rfl,?_⟩
 obtain⟨a,vs,rfl,ha,hp⟩:=Al.lst1 hn (l1.mono x2.ff x2.hh) x2.fh
 refine⟨a,vs,rfl,ha,u0 x2.fh hp.reverse λv F' H' fp x o nd hf=>w v F' H' fp ((x1.trans x2).trans x) o nd λz hz=>(x1.trans x2).hh.free (hf z hz)⟩
end
end L3
namespace L3
open PySem PySem.Spec L2
open PyProof.Rows hiding St
def kg {α:Type}(p q:Nat)(rv:Bool)(us ws:List α):List α:=if us.length=p/\ws.length=q then us++(if rv then ws.reverse else ws)else[]
section
variable {X:Cx}{ct:Nat->af}{ms:List Mo}{rk n m k kk:Nat}{e a:Expr}{f:EF}{x:aR}{pp pos wH:cG}{fa:af}{fd:aS}{ps ks:List aR}{mf:List D->Option D}
end
end L3
namespace L3
open PySem PySem.Spec L2
open PyProof.Rows hiding St
section
variable {X:Cx}{ct:Nat->af}{ms:List Mo}{rk n m k:Nat}{st:cp}{rest:List cp}{a b c e tg:Expr}{f g h:EF}{p q:BF}{u w:SF}{pos:cG}
end
end L3
namespace L3
open PySem PySem.Spec L2
open PyProof.Rows hiding St
section
variable {X:Cx}{ct:Nat->af}{ms:List Mo}{rk n m k:Nat}{a e:Expr}{f:EF}{pos:cG}
end
end L3
namespace L3
open PySem PySem.Spec L2
open PyProof.Rows hiding St
section
variable {X:Cx}{ct:Nat->af}{ms:List Mo}{n m l k:Nat}{a b c:Expr}{f g h:EF}{pos:cG}
end
end L3
namespace L3
open PySem PySem.Spec L2
open PyProof.Rows hiding St
def mT (d:D)(lo hi:Option Int):Option D:=match d with
 |.tup xs=>if HT.sIx xs.length 0 lo=0/\HT.sIx xs.length xs.length hi=xs.length then none else some (.tup (cutD xs lo hi))
 |_=>none
section
variable {X:Cx}{ct:Nat->af}{ms:List Mo}{rk n m k:Nat}{a b c e tg:Expr}{f g h:EF}{pos:cG}
theorem Si {lo hi:Option Expr}{pl ph:PF}{p1}(hn:n<=1)(he:XE X ct ms n e f)(hl:XP X ct ms lo pl)(hh:XP X ct ms hi ph):XO X ct ms 1 (.Subscript e (.Slice lo hi none p1) pos) (λρ=>(f ρ).bind λd=>(pl ρ).bind λl=>(ph ρ).bind λh=>mT d l h):=by
 obtain⟨t,pt,qt⟩:=he
 obtain⟨t1,qZ,rf⟩:=hl
 obtain⟨t2,kJ,pQ⟩:=hh
 refine⟨_,K9 Vq pt qZ kJ,λF0 B F H ρ σ r Q rs e w=>?_⟩
 obtain⟨d,l,h1,h2,h3⟩:=dO e
 obtain⟨hh,h4,h5⟩:=aW h3
 refine qt F0 B F H ρ σ d _ rs h1 λv F1 H1 x1 l1=>?_
 refine rf F0 B F1 H1 ρ σ l _ (rs.ext x1) h2 λF2 H2 x2=>?_
 refine pQ F0 B F2 H2 ρ σ hh _ ((rs.ext x1).ext x2) h4 λF3 H3 x3=>?_
 cases d with
 |tup xs=>
  unfold mT at h5
  dsimp only at h5
  have kA:=x2.trans x3
  obtain⟨a,vs,rfl,ha,hp⟩:=Al.tup1 hn (l1.mono kA.ff kA.hh) kA.fh
  by_cases hz:HT.sIx xs.length 0 l=0/\HT.sIx xs.length xs.length hh=xs.length
  ·rw[if_pos hz]at h5;cases h5
  ·rw[if_neg hz]at h5
   cases h5
   refine⟨a,vs,rfl,jJ.of ha,by rw[←hp.length];exact hz,λp AX=>?_⟩
   have xn:=fv.newS kA.fh AX (.tup (mH vs l hh))
   refine w _ _ _ [] ((x1.trans kA).trans xn) (.inr (.tup zw (eG.ofPr ((LH hp).mono λ_ _ q=>⟨Dt.mono xn.ff q,rfl⟩)))) bD λz hz=>by cases hz
 |_=>cases h5
end
end L3
namespace L3
open PySem PySem.Spec L2
open PyProof.Rows hiding St
section
variable {X:Cx}{ct:Nat->af}{ms:List Mo}{n:Nat}{e tg:Expr}{f:EF}{pos:cG}
end
end L3
namespace L3
open PySem PySem.Spec L2
open PyProof.Rows hiding St
section
variable {X:Cx}{K:ae}{ct:Nat->af}{ms:List Mo}{n k:Nat}
end
end L3
namespace L3
open PySem PySem.Spec L2
open PyProof.Rows hiding St
section
variable {X:Cx}{ct:Nat->af}{ms:List Mo}{rk n m k:Nat}{a b c e:Expr}{f g h:EF}{pos:cG}
end
end L3
namespace L3
open PySem PySem.Spec L2
open PyProof.Rows hiding St
section
variable {K:ae}{ct:Nat->af}{F F' H H' B F0:Hp}
end
section
variable {X:Cx}{ct:Nat->af}{ms:List Mo}{rk n m k:Nat}{st:cp}{rest:List cp}{a b c e tg:Expr}{f g h:EF}{p q:BF}{u w:SF}{pos:cG}
end
section
variable {X:Cx}{ct:Nat->af}{ms:List Mo}{rk n m k:Nat}{st:cp}{rest:List cp}{a b c e tg:Expr}{f g h:EF}{p q:BF}{u w:SF}{pos:cG}{i j:Nat}
variable {kk:Nat}{fa:af}{fd:aS}{ps:List aR}{mf:List D->Option D}{x:aR}{pp:cG}
end
end L3
namespace L2
open PySem PySem.Spec
open PyProof.Rows hiding St
section
variable {X:Cx}{pos:cG}
end
end L2
namespace L3
open PySem PySem.Spec L2
open PyProof.Rows hiding St
section
variable {X:Cx}{ct:Nat->af}{ms:List Mo}{n:Nat}{pos:cG}
end
end L3
namespace L3
open PySem PySem.Spec L2
open PyProof.Rows hiding St
section
variable {X:Cx}{ct:Nat->af}{ms:List Mo}{rk n m k i:Nat}{a b c e:Expr}{f g h:EF}{pos:cG}
end
end L3
namespace L3
open PySem PySem.Spec L2
open PyProof.Rows hiding St
section
variable {X:Cx}{ct:Nat->af}{ms:List Mo}{rk n m k:Nat}{a b c e o:Expr}{f g h:EF}{pos:cG}
end
end L3
namespace L2
open PySem PySem.Spec
open PyProof.Rows hiding St
section
variable {X:Cx}{CX:p4}{k:Nat}{f C:af}{fd:aS}{ps ks:List aR}{sp:Sp}{E:XK}{x m:aR}{p pos dE wH:cG}{e o:Expr}{es:List Expr}{kws:List iu}{te ta:TE}{t tk:TA}{nm:Option aR}
variable {g:List aa->List aa->List aa}{gV:List V->List V->List V}
end
end L2
namespace L3
open PySem PySem.Spec L2
open PyProof.Rows hiding St
section
variable {X:Cx}{ct:Nat->af}{ms:List Mo}{rk n m k kk:Nat}{e a:Expr}{f:EF}{x:aR}{pp pos wH:cG}{fa:af}{fd:aS}{ps ks:List aR}{pm cs:List Nat}{mi:Nat->List D->Option D}
end
end L3
namespace L3
open PySem PySem.Spec L2
open PyProof.Rows hiding St
section
variable {X:Cx}{ct:Nat->af}{ms:List Mo}{rk n m k i j:Nat}{a b c e:Expr}{f g h:EF}{pos:cG}
variable {kk:Nat}{fa:af}{fd:aS}{ps:List aR}{mf:List D->Option D}{x y:aR}{pp:cG}
end
end L3
namespace L3
open PySem PySem.Spec L2
open PyProof.Rows hiding St
open Classical in
open Classical in
section
variable {X:Cx}
end
section
variable {K:ae}{ct:Nat->af}{n m k:Nat}
end
section
variable {α:Type}[DecidableEq α]
end
end L3
namespace L3
open PySem PySem.Spec L2
open PyProof.Rows hiding St
section
variable {X:Cx}{ct:Nat->af}{ms:List Mo}{rk n m k:Nat}{st:cp}{rest:List cp}{a b c e tg:Expr}{f g h:EF}{p q:BF}{u w:SF}{pos:cG}{K:ae}
end
end L3
namespace L3
open PySem PySem.Spec L2
open PyProof.Rows hiding St
section
variable {X:Cx}{ct:Nat->af}{ms:List Mo}{rk n m k kk kq:Nat}{st:cp}{rest:List cp}{a b c e tg:Expr}{f g h:EF}{p q:BF}{u w:SF}{pos pp:cG}{K:ae}{x:aR}{fa:af}{fd:aS}{ps:List aR}{mf:List D->Option D}
theorem mK (h:XO X ct ms k e f):XO X ct ms 0 e f:=XE.ow (XO.sh (n:=0) h)
theorem nc {own i:Nat}(hN:X.N.Nodup)(ho:i<own:=by decide)(hm:ms[i]?=some (.ow 0):=by rfl)(hi:X.N[i]?=some x:=by rfl)(hx:Loc X.env.scope x:=by first|exact Or.inl rfl|exact Or.inr rfl)
  (hf:X.fn x=true\/X.env.scope.names.lookup x=some .local:=by first|exact .inl rfl|exact .inr rfl|assumption):rT X ct ms own 0 (.Name x pos) (gV i):=SY ho hm hN hi hx hf
theorem gI {i:Nat}{pos':cG}(hN:X.N.Nodup)(he:XO X ct ms k e f)(hm:ms[i]?=some (.ow k):=by rfl)(hi:X.N[i]?=some x:=by rfl)(hx:Loc X.env.scope x:=by first|exact Or.inl rfl|exact Or.inr rfl)
  (hs:eE e (some (.Name x pos')) pos.line X.env=pure false:=by rfl)
  (hf:X.fn x=true\/X.env.scope.names.lookup x=some .local:=by first|exact .inl rfl|exact .inr rfl|assumption):XS X ct ms rk (.Assign [.Name x pos'] e pos) (sSet i f):=Va hm hN hi hx he hs hf
theorem kT {i:Nat}(hN:X.N.Nodup)(hm:ms[i]?=some (.ow 0):=by rfl)(hi:X.N[i]?=some x:=by rfl)(hx:Loc X.env.scope x:=by first|exact Or.inl rfl|exact Or.inr rfl)
  (hf:X.fn x=true\/X.env.scope.names.lookup x=some .local:=by first|exact .inl rfl|exact .inr rfl|assumption):XG X ct ms 0 (.Name x pos) (gV i):=Uh hm hN hi hx hf
theorem dL {es:List Expr}{ns:List Nat}{fs:Env->Option (List D)}(d:kr X.K X.mg x st ps fa fd)(Fn:cS X.prog X.w X.K X.mg X.base fE kk fa fd ps (hJ X.K ct ns rk mf))(hr:ed kq X.A)(ha:XA X ct ms (e::es) ns fs)(mY:kk<=kq:=by decide)(hg:Gl X x:=by rfl)
  (lg:(x==("__debug__":aR))=false:=by decide) (he:aw (e::es) X.env=(false,bS e X.env)::aw es X.env:=by rfl) (ip:(cD pos (aw es X.env)).any (·.1)=false:=by rfl) :
  XO X ct ms rk (.Call (.Name x pp) (e::es) [] pos) (λρ=>(fs ρ).bind λds=>mf (ds++[])) :=
 Ht (ns:=ns) (nd:=[]) (ky:=[]) (by rw[bV];exact Fn) (hr.mono mY) hg d.mgx d.fn.kp d.bd .nil (λ_ _=>.nil) ha lg he ip
theorem sT {om:List Mo}{iS iter:Expr}{ifs:List Expr}{scope:fF}{N:List aR}{own:Nat}{cap:List Nat}{fi:Env->Option (List D)}{gg:D->Env->Option Env}(hi:rW X ct ms n tg iter fi)
  (hg:∀cl C fp s₀ H₀,rT (gU X scope cl N C fp s₀ H₀) ct (om++gz ms cap) own n tg gg) (ht:∀cl C fp s₀ H₀,uM (gU X scope cl N C fp s₀ H₀) ct (om++gz ms cap) ifs p) (he:∀cl C fp s₀ H₀,XO (gU X scope cl N C fp s₀ H₀) ct (om++gz ms cap) k iS f)
  (B:jN X scope N own cap:=by exact sR (by rfl)) (hc:X.calm=true:=by rfl) (ho:om.length=own:=by rfl) (mM:∀i∈cap,i<ms.length:=by decide)
  (hs:∀x,dB iter X.env x=pure x:=by intro _;rfl):XO X ct ms (k+1) (.ListComp iS [⟨tg,iter,ifs,0⟩] scope pos) (ee fi own cap gg p f):=Uo B hc ho mM hi hg ht he hs
theorem jV {P:bb}{w:bG}{mg:aR->Option aa}{base:aK}{qual:aR}{N:List aR}{pm:List Nat}{bf:SF}(Fn:Fun2 K x qual st fa fd)(S:bK N ps (bg st))
  (body:∀(ik:aa) (A:bz) (outer:List PySem.Env) (s:ao) (H:Hp) (E:XK),ed kk (A.deeper (envOfC qual (bg st) s.heap.objs.size fa ik))->qE (mI fE P w K mg base N qual (bg st) fa ik A outer s H E).nox ct ms rk (gG st) bf)
  (AY:pm.length=ps.length:=by rfl) (FV:ms.length=N.length:=by rfl) (mY:ps.length<=N.length:=by decide) (AT:∀(i n:Nat),pm[i]?=some n->ms[i]?=some (Mo.al n)\/(n=0/\ms[i]?=some (Mo.ow 0)):=by exact ub (by decide)) :
  cS P w K mg base fE (kk+1) fa fd ps (hJ K ct pm rk (mOf N bf)):=lift Fn S AY FV mY AT body
theorem cO {i:Int}{j}:XE X ct ms 0 (.Constant (.int i) j pos) (eC (.int i)):=U8
theorem p6 {j}:XE X ct ms 0 (.Constant .none j pos) (eC .non):=U9
theorem m9 (ha:XE X ct ms 0 a f)(hb:XE X ct ms 0 b g):XO X ct ms 1 (.BinOp a .Add b pos) (e2 eX f g):=Wo Uq (Ur (by decide) (by decide)) ha hb
theorem lE (ha:XE X ct ms 0 a f)(hb:XE X ct ms 0 b g)(hp:kN b:=by exactλ_ _=>rfl):XE X ct ms 0 (.Subscript a b pos) (e2 eF f g):=p7 (n:=0) jd je ha hb hp
theorem lF {fs:Env->Option (List D)}(hm:X.mg "len"=none)(ha:XA X ct ms [e] [n] fs)(hg:Gl X "len":=by rfl)(he:aw [e] X.env=(false,bS e X.env)::aw [] X.env:=by rfl)(ip:(cD pos (aw [] X.env)).any (·.1)=false:=by rfl):XE X ct ms 0 (.Call (.Name "len" pp) [e] [] pos) (eN d5 fs):=vq (k:=0) RQ Ul hg hm VB ha (by decide) (by decide) he ip
theorem OB {P:List aa->Prop}(h:P [])(us:List aa)(e:us.length=0):P us:=by
 cases us with
 |nil=>exact h
 |cons a t=>cases e
theorem rM {P:List aa->Prop}(h:∀a1,P [a1])(us:List aa)(e:us.length=1):P us:=by
 cases us with
 |nil=>cases e
 |cons a t=>exact OB (P:=λt=>P (a::t)) (h a) t (Nat.succ.inj e)
theorem nY {P:List aa->Prop}(h:∀a1 a2,P [a1,a2])(us:List aa)(e:us.length=2):P us:=by
 cases us with
 |nil=>cases e
 |cons a t=>exact rM (P:=λt=>P (a::t)) (h a) t (Nat.succ.inj e)
theorem BA {P:List aa->Prop}(h:∀a1 a2 a3,P [a1,a2,a3])(us:List aa)(e:us.length=3):P us:=by
 cases us with
 |nil=>cases e
 |cons a t=>exact nY (P:=λt=>P (a::t)) (h a) t (Nat.succ.inj e)
theorem wI {P:List aa->Prop}(h:∀a1 a2 a3 a4,P [a1,a2,a3,a4])(us:List aa)(e:us.length=4):P us:=by
 cases us with
 |nil=>cases e
 |cons a t=>exact BA (P:=λt=>P (a::t)) (h a) t (Nat.succ.inj e)
theorem Gr {P:List aa->Prop}(h:∀a1 a2 a3 a4 a5,P [a1,a2,a3,a4,a5])(us:List aa)(e:us.length=5):P us:=by
 cases us with
 |nil=>cases e
 |cons a t=>exact wI (P:=λt=>P (a::t)) (h a) t (Nat.succ.inj e)
end
end L3
namespace L3
open PySem PySem.Spec L2
open PyProof.Rows hiding St
section
variable {K:ae}{ct:Nat->af}{F B H:Hp}
end
section
variable {X:Cx}{ct:Nat->af}{ms:List Mo}{rk n m k i j:Nat}{a b c e:Expr}{f g h:EF}{p q:BF}{pos:cG}{K:ae}
end
end L3
set_option maxHeartbeats 1000000
namespace L3
open PySem PySem.Spec L2
open PyProof.Rows hiding St
inductive Ey where
 |ok (d:D)|xc (d:D)
inductive Ex where
 |ok (o:Out)|xc (ρ:Env) (d:D)
abbrev Ib:=Env->Option Ex
section
variable (X:Cx)(G:GK)(ct:Nat->af)(ms:List Mo)(rk:Nat)
end
section
variable {X:Cx}{G:GK}{ct:Nat->af}{ms:List Mo}{rk n m k:Nat}{st:cp}{rest:List cp}{a b c e:Expr}{f g h:EF}{p q:BF}{u w:Ib}{pos:cG}
end
end L3
set_option maxHeartbeats 1000000
namespace L3
open PySem PySem.Spec L2
open PyProof.Rows hiding St
section
variable {X:Cx}{G:GK}{ct:Nat->af}{ms:List Mo}{rk n m k kk:Nat}{st:cp}{rest:List cp}{a b c e:Expr}{f g h:EF}{p q:BF}{u w:Ib}{pos pp:cG}{fa:af}{fd:aS}{ps:List aR}{mf:List D->Option Ey}{x:aR}
end
end L3
set_option maxHeartbeats 1000000
namespace L3
open PySem PySem.Spec L2
open PyProof.Rows hiding St
section
variable {X:Cx}{G:GK}{ct:Nat->af}{ms:List Mo}{rk n m k kk:Nat}{a b c e tg:Expr}{f g h:EF}{u w:SF}{pos pp:cG}{fa:af}{fd:aS}{ps:List aR}{x:aR}
end
end L3
set_option maxHeartbeats 1000000
namespace L2
open PySem PySem.Spec PyProof.Rows
section
variable {X:Cx}
end
end L2
namespace L3
open PySem PySem.Spec L2
open PyProof.Rows hiding St
section
variable {X:Cx}{ct:Nat->af}{ms:List Mo}{n m k:Nat}{e:Expr}{f:EF}{pos:cG}
end
end L3
set_option maxHeartbeats 1000000
namespace L3
open PySem PySem.Spec L2
open PyProof.Rows hiding St
end L3
set_option maxHeartbeats 1000000
namespace L3
open PySem PySem.Spec L2
open PyProof.Rows hiding St
end L3
set_option maxHeartbeats 1000000
namespace L2
open PySem PySem.Spec PyProof.Rows
section
variable {prog:bb}{w:bG}{A:bz}{E:aa->ao->Prop}{s:ao}{z TI TO i1 i2 i3 l1 l2 l3:af}{xs ys zs:Array aa}{k1 k2 k3:Nat}
end
end L2
set_option maxHeartbeats 1000000
namespace L2
open PySem PySem.Spec PyProof.Rows
section
variable {X:Cx}{mJ:List Expr}{kt:Nat}{pt:cG}
end
end L2
namespace L3
open PySem PySem.Spec L2
open PyProof.Rows hiding St
section
variable {X:Cx}{ct:Nat->af}{ms:List Mo}{n:Nat}{a b c:Expr}{pos:cG}
end
end L3
set_option maxHeartbeats 1000000
namespace L2
open PySem PySem.Spec PyProof.Rows
section
variable {X:Cx}{k:Nat}{f:af}{fd:aS}{ps:List aR}{sp:Sp}{ds:List aa}{hU:List V}{E:XK}{x:aR}{p pos:cG}{e:Expr}{es:List Expr}{t:TA}
end
end L2
namespace L3
open PySem PySem.Spec L2
open PyProof.Rows hiding St
section
variable {X:Cx}{ct:Nat->af}{ms:List Mo}{rk kk:Nat}{fa:af}{fd:aS}{ps:List aR}{mf:List D->Option D}{x:aR}{pp pos:cG}{e:Expr}
end
end L3
namespace PySem
section
variable {prog:bb}{w:bG}{A:bz}{R:Result->ao->Prop}{I:af}{fp wr:List af}{n:Nat}{P:Nat->aa->Prop}{St:Nat->aK->Prop}{kw:List (aR×aa)}
end
section
variable {prog:bb}{w:bG}{A:bz}{E:aa->ao->Prop}{s:ao}
end
end PySem
namespace L3
open PySem PySem.Spec L2
section
variable {X:Cx}{ct:Nat->af}{ms:List Mo}{e b:Expr}{f g:EF}{n m k:Nat}
end
end L3
set_option maxHeartbeats 1000000
namespace L3
open PySem PySem.Spec L2
open PyProof.Rows hiding St
section
variable {X:Cx}{ct:Nat->af}{ms:List Mo}{n:Nat}{a b c:Expr}{pos:cG}
end
end L3
set_option maxHeartbeats 1000000
namespace L3
open PySem PySem.Spec L2
open PyProof.Rows hiding St
section
variable {X:Cx}{ct:Nat->af}{ms:List Mo}{n m k:Nat}{e o:Expr}{f g:EF}{pos:cG}
end
end L3
set_option maxHeartbeats 1000000
namespace L3
open PySem PySem.Spec L2
open PyProof.Rows hiding St
theorem foldl_rep (c:Nat):∀(n:Nat) (fM:Array Nat),(aG n #[c]).foldl (· ++ ·) fM=fM++Array.replicate n c
 |0,fM=>by simp
 |n+1,fM=>by
  rw[cA,dP,foldl_rep c n,oP]
  congr 1
  apply Array.toList_inj.mp
  simp[cA]
section
variable {X:Cx}{ct:Nat->af}{K:ae}{ms:List Mo}{n m k:Nat}{e o:Expr}{f g:EF}{pos:cG}
end
end L3
set_option maxHeartbeats 1000000
namespace L3
open PySem PySem.Spec L2
open PyProof.Rows hiding St
section
variable {X:Cx}{ct:Nat->af}{ms:List Mo}{rk n m k i j:Nat}{e o:Expr}{f g:EF}{pos:cG}
end
end L3
set_option maxHeartbeats 1000000
namespace L3
open PySem PySem.Spec L2
open PyProof.Rows hiding St
section
variable {X:Cx}{ct:Nat->af}{ms:List Mo}{n m k rk:Nat}{a b e o:Expr}{f g:EF}{pos:cG}
def EB (X:Cx)(ct:Nat->af)(ms:List Mo)(tg:Expr)(g:D->Env->Option Env):Prop:=∃t,PG X tg t/\∀(F0 B F H:Hp) (ρ ρ':Env) (σ:St) (d:D) (v:V) (Q:St->Hp->Prop),RS X.K ct F0 B ms F H ρ σ->Dt X.K ct F d v->g d ρ=some ρ' ->
 (∀σ' F' H',bO F F'->RS X.K ct F0 B ms F' H' ρ' σ'->Q σ' H')->t v σ H Q
def tF (i:Nat)(fj:EF):D->Env->Option Env:=λd ρ=>(eV i ρ).bind λo=>(fj ρ).bind λj=>match o,j with
 |.lst ds,.int z=>(iM ds z d).bind λkP=>some (ρ.set i (some (.lst kP)))
 |_,_=>none
theorem LY (i:Nat){x:aR}{j:Expr}{p1 fD:cG}{fj:EF}(hm:ms[i]?=some (.ow 1))(hj:XE X ct ms n j fj)(hN:X.N[i]?=some x:=by rfl)(hv:pK X.env.scope x:=by first|exact Or.inl rfl|exact Or.inr (Or.inl rfl)|exact Or.inr (Or.inr rfl))(hd:(x==("__debug__":aR))=false:=by decide)
  (iX:(x==("__classdict__":aR))=false:=by decide)
  (ha:∀v,eQ (.Subscript (.Name x p1) j fD) X.env v=(do
   let ov ← dm [v] (bS (.Name x p1) X.env)
   let iv ← dm [v,ov] (bS j X.env)
   fT fD
   dm [v,ov,iv] (ka ov iv v)
   nn [v,ov,iv] []):=by intro _;rfl):EB X ct ms (.Subscript (.Name x p1) j fD) (tF i fj):=by
 obtain⟨tj,sI,sJ⟩:=hj
 refine⟨_,HH (j9 hN hv hd iX) sI DM ha,λF0 B F1 H1 ρ ρ' σ d v0 Q jW l0 g2 w=>?_⟩
 obtain⟨d1,oZ,g3,g4,g5⟩:=dO g2
 obtain⟨f1,fr,n1,b1,dj,i4,cf,put⟩:=jW.put (F':=F1) (H':=H1) hm
 obtain⟨v,hσ,ow⟩:=i4 d1 (xu g3)
 refine⟨v,hσ,sJ F0 B F1 H1 ρ σ oZ _ jW g4 λvj F2 H2 x2 lj=>?_⟩
 cases d1 with
 |lst ds=>
  cases oZ with
  |int zi=>
   obtain⟨kP,g6,g7⟩:=aW g5
   cases g7
   obtain⟨jn,g8,g9⟩:=aW g6
   cases g9
   obtain⟨ad,vs,sg,rfl,rfl,hF,hH,ol⟩:=ow.lst_inv
   have hA:H2 ad=some (.lst vs):=x2.hh _ _ hH
   have fA:F2 ad=none:=x2.nf ad _ hH nofun hF
   have e0:=ol.nil0
   subst e0
   refine⟨ad,vs,zi,jn,rfl,lj.int,hA,by rw[←ol.length];exact g8,?_⟩
   refine w σ F2 _ x2.ff (jW.change hm x2 hσ b1 dj cf put am fA (.inr (.lst fA zw (eG.set0 ⟨Dt.mono x2.ff l0,rfl⟩ (λ_ _ _ q=>q.2) jn (ol.mono λ_ _ _ _ q=>⟨q.1.mono x2.ff,q.2⟩)))) (fn:=[ad]) (by simp) ?_)
   intro a ha
   rw[aJ]at ha
   subst ha
   exact .inl am
  |_=>cases g5
 |_=>cases g5
def nH (g1 g2:D->Env->Option Env)(fs:Env->Option (List D)):SF:=λρ=>(fs ρ).bind λds=>match ds with
 |[d1,d2]=>(g1 d1 ρ).bind λρ1=>(g2 d2 ρ1).bind λρ2=>some (.nx ρ2)
 |_=>none
theorem UL {t1 t2:Expr}{g1 g2:D->Env->Option Env}{fs:Env->Option (List D)}{kt k2 pt kJ}(hc:X.calm=true)(h1:EB X ct ms t1 g1)(h2:EB X ct ms t2 g2)(hv:XA X ct ms [a,b] [0,0] fs)
  (hl:(cn [t1,t2] X.env).length=2:=by rfl) (mQ:(cn [t1,t2] X.env).findIdx? (·.1)=none:=by rfl)
  (Fz:(cn [t1,t2] X.env).map (·.2)=eQ t1 X.env::(cn [t2] X.env).map (·.2):=by rfl) (FA:(cn [t2] X.env).map (·.2)=eQ t2 X.env::(cn [] X.env).map (·.2):=by rfl)
  (hs:fu [.Tuple [t1,t2] kt pt] (.Tuple [a,b] k2 kJ) pos.line X.env=pure false:=by rfl) (hw:fq [.Tuple [t1,t2] kt pt] (.Tuple [a,b] k2 kJ) X.env=pure none:=by rfl)
  (ht:(cn [.Tuple [t1,t2] kt pt] X.env).map (·.2)=[eQ (.Tuple [t1,t2] kt pt) X.env]:=by rfl) :
  XS X ct ms rk (.Assign [.Tuple [t1,t2] kt pt] (.Tuple [a,b] k2 kJ) pos) (nH g1 g2 fs):=by
 obtain⟨u1,p1,q1⟩:=h1
 obtain⟨u2,p2,q2⟩:=h2
 obtain⟨t,Pq,_,qt⟩:=hv
 refine⟨_,D7 (Mc Pq) (HG (n:=2) hc (DK p1 (DK p2 Ho FA) Fz) hl mQ) hs hw ht,λF0 B F H ρ σ o E rs e z=>?_⟩
 obtain⟨ds,e1,e2⟩:=aW e
 refine qt F0 B F H ρ σ ds _ rs e1 λvs F1 H1 x1 l=>⟨?_,λp hp=>?_⟩
 ·rw[l.length];exact small (by decide)
 cases l with
 |cons l1 l=>
  cases l with
  |cons l2 l=>
   cases l
   obtain⟨ρ1,e3,e4⟩:=aW e2
   obtain⟨ρ2,e5,e6⟩:=aW e4
   cases e6
   refine⟨p,_,rfl,jJ.of zw,rfl,?_⟩
   refine⟨_,_,rfl,q1 F0 B F1 _ ρ ρ1 σ _ _ _ (rs.ext (x1.trans (fv.newO x1.fh hp (.tup _)))) l1 e3 λσ' F' H' s' r'=>?_⟩
   refine⟨_,_,rfl,q2 F0 B F' H' ρ1 ρ2 σ' _ _ _ r' (Dt.mono s' l2) e5 λσ2 F2 H2 s2 r2=>?_⟩
   exact⟨rfl,z σ2 F2 H2 r2⟩
end
end L3
set_option maxHeartbeats 1000000
namespace L2
open PySem PySem.Spec PyProof.Rows
section
variable {X:Cx}{e sl sp:Expr}{te:TE}{tl tp:TO}{pos p2:cG}
end
end L2
namespace L3
open PySem PySem.Spec L2
open PyProof.Rows hiding St
section
variable {X:Cx}{ct:Nat->af}{ms:List Mo}{n m k rk:Nat}{e o:Expr}{f g:EF}{pos:cG}
end
end L3
set_option maxHeartbeats 1000000
namespace L3
open PySem PySem.Spec L2
open PyProof.Rows hiding St
section
variable {K:ae}{ct:Nat->af}{a:af}{bT:List (List dw×V)}{u:HO}{F F' G H B F0:Hp}{ms:List Mo}{n rk:Nat}
end
def kD:dw->D
 |.inl i=>.int i
 |.inr x=>.str x
theorem Hw {K:ae}{ct:Nat->af}{F B:Hp}:∀k:List dw,Pr (Al K ct F B 0) (k.map kD) (k.map kV)
 |[]=>.nil
 |.inl i::k=>.cons (show Dt K ct F (.int i) (.int i)from .int i) (Hw k)
 |.inr x::k=>.cons (show Dt K ct F (.str x) (.str x)from .str x) (Hw k)
section
variable {X:Cx}{ct:Nat->af}{ms:List Mo}{rk n:Nat}{rest:List cp}{e ty:Expr}{jK:List Expr}{j jj:Nat}{pt p1 pos:cG}{f:EF}{u:SF}{gs:List D->Env->Option Env}{gy:D->Env->Option Env}
end
end L3
set_option maxHeartbeats 1000000
namespace L3
open PySem PySem.Spec L2
open PyProof.Rows hiding St
section
variable {K:ae}{ct:Nat->af}{F H:Hp}{n:Nat}
theorem fv.shT {b:af}{xs:List V}(s:bO F H)(h:H b=some (.tup xs)):fv F H (upd F b (.tup xs)) H:=by
 refine⟨λc o e=>?_,.refl _,λc o e=>?_,λc o e t n=>?_⟩
 ·by_cases z:c=b
  ·subst z;rw[zw];rw[s _ _ e]at h;exact h.symm
  ·rw[zt z];exact e
 ·by_cases z:c=b
  ·subst z;rw[zw]at e;cases e;exact h
  ·rw[zt z]at e;exact s _ _ e
 ·by_cases z:c=b
  ·subst z;rw[h]at e;cases e;exact absurd rfl (t xs)
  ·rw[zt z];exact n
theorem fv.shTs {bT:List (List dw×V)}{bs:List af}(s:bO F H)(pr:Paired (λ(q:List dw×V) (b:af)=>H b=some (.tup (q.1.map kV))) bT bs):∃F',fv F H F' H/\Pr (Dt K ct F') (bT.map λq=>D.tup (q.1.map kD)) (bs.map V.ref):=by
 induction pr with
 |nil=>exact⟨F,.refl s,.nil⟩
 |@cons q b bT bs h t ih=>
  obtain⟨F1,x1,p1⟩:=ih
  have x2:=fv.shT x1.fh h
  refine⟨_,x1.trans x2,.cons (.tup (zw) (Dts.of ((Hw (ct:=ct) (B:=H) q.1)))) (p1.mono λ_ _ z=>z.mono x2.ff)⟩
end
def nD:List D->Option D
 |[.dT ks ds]=>if ks.length=ds.length then some (.lst (ks.map λk=>.tup (k.map kD)))else none
 |_=>none
theorem K5 {K:ae}{ct:Nat->af}{n:Nat}:pJ K ct [n] 1 rh nD:=by
 intro F H vs ds d Q s l e w
 cases l with
 |cons h t=>
  cases t
  rename_i d1 v
  cases d1 with
  |dT ks ds=>
   obtain⟨a,vs,rfl,ha,hl,hp⟩:=h.dT s
   have hd:ks.length=ds.length:=hl.trans hp.length.symm
   unfold nD at e
   dsimp only at e
   rw[if_pos hd]at e
   cases e
   refine⟨a,_,rfl,ha,λl bs h0 pr=>?_⟩
   obtain⟨F',x,p⟩:=fv.shTs (K:=K) (ct:=ct) s pr
   have hk:((ks.zip vs).map λq=>D.tup (q.1.map kD))=ks.map λk=>D.tup (k.map kD):=by
    have:(ks.zip vs).map Prod.fst=ks:=List.map_fst_zip (by omega)
    conv=>rhs;rw[←this]
    rw[df];rfl
   rw[hk]at p
   exact u0 x.fh (p.mono λ_ _ z=>z) (λv F2 H2 fp x2 o nd hf=>w v F2 H2 fp (x.trans x2) o nd hf) l h0
  |_=>cases e
end L3
set_option maxHeartbeats 1000000
namespace L3
open PySem PySem.Spec L2
open PyProof.Rows hiding St
def pO (x:List Int):List (List Int)->List (List Int)
 |[]=>[x]
 |y::ys=>if fJ y x=true then y::pO x ys else x::y::ys
def i8:List (List Int)->List (List Int)
 |[]=>[]
 |x::xs=>pO x (i8 xs)
def yN (xs:List (List Int)):Prop:=xs.Pairwise λx y=>fJ y x=false
theorem Hc (x:List Int):∀ys,(pO x ys).Perm (x::ys)
 |[]=>.refl _
 |y::ys=>by
  unfold pO
  split
  ·exact((Hc x ys).cons y).trans (.swap ..)
  ·exact .refl _
theorem j4:∀xs,(i8 xs).Perm xs
 |[]=>.refl _
 |x::xs=>(Hc x _).trans ((j4 xs).cons x)
theorem Kp (x:List Int):∀{ys},yN ys->yN (pO x ys)
 |[],_=>List.pairwise_singleton _ _
 |y::ys,h=>by
  obtain⟨h1,h2⟩:=eU.mp h
  unfold pO
  by_cases c:fJ y x=true
  ·rw[if_pos c]
   refine eU.mpr ⟨λz hz=>?_,Kp x h2⟩
   rcases aA.mp ((Hc x ys).mem_iff.mp hz)with rfl|hz
   ·exact D3 _ _ c
   ·exact h1 z hz
  ·rw[if_neg c]
   have c:fJ y x=false:=by simpa using c
   refine eU.mpr ⟨λz hz=>?_,h⟩
   rcases aA.mp hz with rfl|hz
   ·exact c
   ·exact Hs _ _ _ c (h1 z hz)
theorem J8:∀xs,yN (i8 xs)
 |[]=>.nil
 |x::xs=>Kp x (J8 xs)
theorem Lj:∀{xs ys:List (List Int)},xs.Perm ys->yN xs->yN ys->xs=ys
 |[],ys,p,_,_=>(List.nil_perm.mp p).symm
 |x::xs,[],p,_,_=>absurd p.length_eq (by simp)
 |x::xs,y::ys,p,h,h'=>by
  obtain⟨h1,h2⟩:=eU.mp h
  obtain⟨h3,h4⟩:=eU.mp h'
  have irr:∀z,fJ z z=false:=λz=>by
   cases e:fJ z z with
   |false=>rfl
   |true=>have:=D3 _ _ e;rw[e]at this;cases this
  have e:x=y:=by
   have m1:x∈y::ys:=p.mem_iff.mp am
   have m2:y∈x::xs:=p.mem_iff.mpr am
   have a1:fJ x y=false:=by
    rcases aA.mp m1 with e|m
    ·rw[e];exact irr _
    ·exact h3 x m
   have a2:fJ y x=false:=by
    rcases aA.mp m2 with e|m
    ·rw[e];exact irr _
    ·exact h1 y m
   exact LN _ _ a1 a2
  subst e
  rw[Lj ((List.perm_cons x).mp p) h2 h4]
def dF (k:List Int):D:=.tup (k.map .int)
def lC:List D->Option (List (List Int))
 |[]=>some []
 |.tup ds::es=>(eI ds).bind λk=>(lC es).bind λks=>some (k::ks)
 |_=>none
theorem Kq:∀{ds:List D} {ks:List (List Int)},lC ds=some ks->ds=ks.map dF
 |[],_,e=>by cases e;rfl
 |d::ds,ks,e=>by
  cases d with
  |tup es=>
   obtain⟨k,ms,h1,h2,h3⟩:=dO (show(eI es).bind _=_ from e)
   cases h3
   rw[Kq h2,ut h1];rfl
  |_=>cases e
theorem K6:∀ks:List (List Int),lC (ks.map dF)=some ks
 |[]=>rfl
 |k::ks=>by
  show(eI (k.map .int)).bind _=_
  rw[gO,bM]
  show(lC (ks.map dF)).bind _=_
  rw[K6 ks];rfl
def rl:List D->Option D
 |[.lst xs]=>(lC xs).bind λks=>if ks.length<64/\∀k∈ks,k≠[]then some (.lst ((i8 ks).map dF))else none
 |_=>none
section
variable {K:ae}{ct:Nat->af}{n:Nat}
theorem Pr.intsV {R:D->V->Prop}(hR:∀i v,R (.int i) v->v=.int i):∀{k:List Int} {vs:List V},Pr R (k.map .int) vs->vs=k.map V.int
 |[],_,.nil=>rfl
 |i::k,_,.cons h t=>by rw[hR i _ h,Pr.intsV hR t];rfl
theorem LZ {F H:Hp}{m:Nat}(s:bO F H):∀{ks:List (List Int)} {vs:List V},Pr (Al K ct F H m) (ks.map dF) vs->∃qs:List (af×List Int),vs=qs.map (λq=>V.ref q.1)/\ks=qs.map (·.2)/\∀q∈qs,F q.1=some (.tup (q.2.map V.int))
 |[],_,.nil=>⟨[],rfl,rfl,nofun⟩
 |k::ks,_,.cons (v:=v) h t=>by
  obtain⟨qs,e1,e2,e3⟩:=LZ s t
  have:∃b,v=.ref b/\F b=some (.tup (k.map V.int)):=by
   cases m with
   |zero=>
    have h:Dt K ct F (.tup (k.map .int)) v:=h
    cases h with
    |tup q p=>exact⟨_,rfl,by rw[←Pr.intsV (R:=Dt K ct F) (λi v z=>by cases z;rfl) p.pr];exact q⟩
   |succ m=>
    rcases h with h|h
    ·have h:Dt K ct F (.tup (k.map .int)) v:=h
     cases h with
     |tup q p=>exact⟨_,rfl,by rw[←Pr.intsV (R:=Dt K ct F) (λi v z=>by cases z;rfl) p.pr];exact q⟩
    ·have h:uE K ct F H (Al K ct F H m) (.tup (k.map .int)) v:=h
     cases h with
     |tup q p=>exact⟨_,rfl,by rw[←Pr.intsV (R:=Al K ct F H m) (λi v z=>by rw[z.int]) p];exact q⟩
  obtain⟨b,rfl,hb⟩:=this
  exact⟨(b,k)::qs,by rw[e1];rfl,by rw[e2];rfl,λq hq=>by
   rcases aA.mp hq with rfl|hq
   ·exact hb
   ·exact e3 q hq⟩
theorem Sj:pJ K ct [n] 1 (rj K) rl:=by
 intro F H vs ds d Q s l e w
 match ds,l,e with
 |[.lst xs],l,e=>
  obtain⟨ks,h1,h2⟩:=aW (show(lC xs).bind _=_ from e)
  by_cases hz:ks.length<64/\∀k∈ks,k≠[]
  ·rw[if_pos hz]at h2
   cases h2
   have:=Kq h1
   subst this
   cases l with
   |cons h t=>
    cases t
    obtain⟨a,us,rfl,ha,hp⟩:=h.lst s
    obtain⟨qs,rfl,rfl,hq⟩:=LZ s hp
    refine⟨a,qs,rfl,ha,λq m=>⟨s _ _ (hq q m),hz.2 _ (List.mem_map_of_mem m)⟩,by have:=hz.1;rwa[aD]at this,λnF p1 p2=>?_⟩
    have e2:nF.map (·.2)=i8 (qs.map (·.2)):=Lj ((p1.map _).trans (j4 _).symm) (pV.mpr p2) (J8 _)
    rw[←e2,df]at w
    refine u0 s ?_ w
    have:∀l:List (af×List Int),(∀q∈l,F q.1=some (.tup (q.2.map V.int)))->Pr (Al K ct F H 0) (l.map (dF ∘ (·.2))) (l.map λq=>V.ref q.1):=by
     intro l
     induction l with
     |nil=>exactλ_=>.nil
     |cons q l ih=>
      intro hl
      exact .cons (show Dt K ct F (.tup (q.2.map .int)) (.ref q.1)from .tup (hl q am) (Dts.of (Pr.ofInts (H:=H) q.2))) (ih λx hx=>hl x (ap _ hx))
    exact this nF λq m=>hq q (p1.mem_iff.mp m)
  ·rw[if_neg hz]at h2;cases h2
end
end L3
set_option maxHeartbeats 4000000
namespace L3
open PySem L2
def sf (x y:D):Option D:=match x,y with
 |.dT ks ds,.dT sv kP=>(eI ds).bind λis=>(eI kP).bind λjs=>if ks.length=ds.length/\sv.length=kP.length then some (.bl (decide (ks.length=sv.length)&&(ks.zip is).all λp=>(sv.zip js).any λq=>decide (q.1=p.1)&&decide (q.2=p.2)))else none
 |_,_=>none
theorem Tc {K:ae}{ct:Nat->af}{n m k:Nat}:kY K ct n m k tX sf:=by
 intro F H x y d1 d2 d Q s l1 l2 e w
 unfold sf at e
 split at e
 ·rename_i ks ds sv kP
  obtain⟨a,vs,rfl,ha,hl,hp⟩:=l1.dT s
  obtain⟨b,ws,rfl,hb,vU,Dk⟩:=l2.dT s
  obtain⟨is,js,h1,h2,h3⟩:=dO e
  split at h3
  ·cases h3
   have e1:=ut h1
   have e2:=ut h2
   subst e1
   subst e2
   have v1:=Pr.intsV (λi v z=>by rw[z.int]) hp
   have v2:=Pr.intsV (λi v z=>by rw[z.int]) Dk
   subst v1
   subst v2
   refine⟨a,b,_,_,_,rfl,rfl,ha,hb,?_,?_,?_,w _ F H (.refl s) (Al.of (.bl _))⟩
   ·intro p hp
    obtain⟨_,h⟩:=dn hp
    obtain⟨i,_,e⟩:=bH.mp h
    exact⟨i,e.symm⟩
   ·intro p hp
    obtain⟨_,h⟩:=dn hp
    obtain⟨i,_,e⟩:=bH.mp h
    exact⟨i,e.symm⟩
   ·have z1:ks.zip (is.map V.int)=(ks.zip is).map λp=>(p.1,V.int p.2):=by rw[jM];rfl
    have z2:sv.zip (js.map V.int)=(sv.zip js).map λp=>(p.1,V.int p.2):=by rw[jM];rfl
    have y1:(ks.zip (is.map V.int)).length=ks.length:=by rw[cY];omega
    have y2:(sv.zip (js.map V.int)).length=sv.length:=by rw[cY];omega
    rw[y1,y2,z1,z2,bN,decide_eq_true_iff,gW]
    refine and_congr_right λ_=>⟨λh p hp=>?_,λh p hp=>?_⟩
    ·obtain⟨p,AX,rfl⟩:=bH.mp hp
     obtain⟨q,hq,e⟩:=gX.mp (h p AX)
     simp only[bN,decide_eq_true_iff]at e
     exact bH.mpr ⟨q,hq,by rw[e.1,e.2]⟩
    ·obtain⟨q,hq,e⟩:=bH.mp (h _ (bH.mpr ⟨p,hp,rfl⟩))
     refine gX.mpr ⟨q,hq,?_⟩
     obtain⟨e1,e2⟩:=Prod.mk.inj e
     cases WF:q.2
     all_goals simp_all
  ·cases h3
 ·cases e
end L3
namespace Fq
def dv (t b:Int):Int:=if b<0 then -((Int.gcd t b:Nat):Int)else((Int.gcd t b:Nat):Int)
def mk (t b:Int):Int×Int:=(t.fdiv (dv t b),b.fdiv (dv t b))
end Fq
set_option maxHeartbeats 4000000
namespace My
open PySem L2 L3
def top (i:Nat):cp:=PySem.Challenge.pw_ringbeat_k73_nets_alike.main.body.getD i (.Pass ⟨0,0,0,0⟩)
abbrev zu:cp:=inClass (top 14) 0
abbrev ya:cp:=inClass (top 15) 0
abbrev zn:cp:=inClass (top 16) 0
abbrev zo:cp:=inClass (top 17) 0
abbrev yu:cp:=top 24
abbrev yw:cp:=top 25
abbrev xz:cp:=top 26
abbrev yx:cp:=top 27
abbrev yb:cp:=top 28
abbrev xk:cp:=top 29
abbrev zp:cp:=top 30
abbrev yo:cp:=inClass (top 33) 0
abbrev zl:cp:=inClass (top 33) 1
abbrev xl:cp:=inClass (top 33) 2
abbrev yy:cp:=inClass (top 33) 3
abbrev vk:cp:=top 7
abbrev wm:cp:=top 8
abbrev zq:cp:=top 35
abbrev yp:cp:=top 36
abbrev zk:cp:=top 37
abbrev zm:cp:=top 38
abbrev jg:cp:=top 39
abbrev zj:cp:=top 10
abbrev vm:cp:=top 11
abbrev wn:cp:=top 12
abbrev yc:cp:=top 41
abbrev yz:cp:=top 42
abbrev yq:cp:=top 43
abbrev xm:cp:=top 44
abbrev y0:cp:=top 45
abbrev xo:cp:=top 46
abbrev xp:cp:=top 47
abbrev qk:cp:=top 48
theorem Qz:bK ["self","start","goal","time","behind"] ["self","start","goal","time","behind"] (bg zu):=⟨rfl,rfl,rfl,by decide +kernel,rfl,by decide +kernel,by decide +kernel⟩
theorem Qv:bK ["self","start","goal","time"] ["self","start","goal","time"] (bg ya):=⟨rfl,rfl,rfl,by decide +kernel,rfl,by decide +kernel,by decide +kernel⟩
theorem Qw:bK ["self","start","goal","time","behind"] ["self","start","goal","time","behind"] (bg zn):=⟨rfl,rfl,rfl,by decide +kernel,rfl,by decide +kernel,by decide +kernel⟩
theorem Qx:bK ["self","start","goal","time","behind"] ["self","start","goal","time","behind"] (bg zo):=⟨rfl,rfl,rfl,by decide +kernel,rfl,by decide +kernel,by decide +kernel⟩
theorem zev:bK ["sign"] ["sign"] (bg yu):=⟨rfl,rfl,rfl,by decide +kernel,rfl,by decide +kernel,by decide +kernel⟩
theorem QX:bK ["sign"] ["sign"] (bg yw):=⟨rfl,rfl,rfl,by decide +kernel,rfl,by decide +kernel,by decide +kernel⟩
theorem RC:bK ["word"] ["word"] (bg xz):=⟨rfl,rfl,rfl,by decide +kernel,rfl,by decide +kernel,by decide +kernel⟩
theorem jq:bK ["names","seen","name"] ["names"] (bg yx):=⟨rfl,rfl,rfl,by decide +kernel,rfl,by decide +kernel,by decide +kernel⟩
theorem QB:bK ["number","least","most"] ["number","least","most"] (bg yb):=⟨rfl,rfl,rfl,by decide +kernel,rfl,by decide +kernel,by decide +kernel⟩
theorem ql:bK ["arrow","many","least","most"] ["arrow","many"] (bg xk):=⟨rfl,rfl,rfl,by decide +kernel,rfl,by decide +kernel,by decide +kernel⟩
theorem ye:bK ["many","arrows","within","waited","arrow","placed","done","here"] ["many","arrows"] (bg zp):=⟨rfl,rfl,rfl,by decide +kernel,rfl,by decide +kernel,by decide +kernel⟩
theorem vt:bK ["self","names","arrows","number","arrow","placed"] ["self","names","arrows"] (bg yo):=⟨rfl,rfl,rfl,by decide +kernel,rfl,by decide +kernel,by decide +kernel⟩
theorem Qt:bK ["self"] ["self"] (bg zl):=⟨rfl,rfl,rfl,by decide +kernel,rfl,by decide +kernel,by decide +kernel⟩
theorem Q9:bK ["self","going"] ["self","going"] (bg xl):=⟨rfl,rfl,rfl,by decide +kernel,rfl,by decide +kernel,by decide +kernel⟩
theorem QY:bK ["self"] ["self"] (bg yy):=⟨rfl,rfl,rfl,by decide +kernel,rfl,by decide +kernel,by decide +kernel⟩
theorem Td:bK ["when","more"] ["when","more"] (bg vk):=⟨rfl,rfl,rfl,by decide +kernel,rfl,by decide +kernel,by decide +kernel⟩
theorem Sk:bK ["one","other"] ["one","other"] (bg wm):=⟨rfl,rfl,rfl,by decide +kernel,rfl,by decide +kernel,by decide +kernel⟩
theorem wa:bK ["told","greatest","going","number","amount"] ["told"] (bg zq):=⟨rfl,rfl,rfl,by decide +kernel,rfl,by decide +kernel,by decide +kernel⟩
theorem Ka:bK ["net","was","depth"] ["net","was"] (bg yp):=⟨rfl,rfl,rfl,by decide +kernel,rfl,by decide +kernel,by decide +kernel⟩
theorem xf:bK ["net","rows","numbers","floor","when","number","arrow"] ["net","rows","numbers","floor"] (bg zk):=⟨rfl,rfl,rfl,by decide +kernel,rfl,by decide +kernel,by decide +kernel⟩
theorem yh:bK ["net","rounds","was","floors","rows","greatest","numbers","order","number","going","floor"] ["net","rounds","was","floors"] (bg zm):=⟨rfl,rfl,rfl,by decide +kernel,rfl,by decide +kernel,by decide +kernel⟩
theorem V3:bK ["net","rounds","was","floors"] ["net","rounds","was","floors"] (bg jg):=⟨rfl,rfl,rfl,by decide +kernel,rfl,by decide +kernel,by decide +kernel⟩
theorem xt:bK ["net","going","order","sums","here","arrow"] ["net","going","order"] (bg zj):=⟨rfl,rfl,rfl,by decide +kernel,rfl,by decide +kernel,by decide +kernel⟩
theorem ud:bK ["net","order","sums","greatest","arrow","goal","more","key"] ["net"] (bg vm):=⟨rfl,rfl,rfl,by decide +kernel,rfl,by decide +kernel,by decide +kernel⟩
theorem DO:bK ["one","other","here","there","key"] ["one","other"] (bg wn):=⟨rfl,rfl,rfl,by decide +kernel,rfl,by decide +kernel,by decide +kernel⟩
theorem QC:bK ["_law_script","_law_k"] ["_law_script","_law_k"] (bg yc):=⟨rfl,rfl,rfl,by decide +kernel,rfl,by decide +kernel,by decide +kernel⟩
theorem jr:bK ["_law_cell","_law_k","_law_number"] ["_law_cell","_law_k"] (bg yz):=⟨rfl,rfl,rfl,by decide +kernel,rfl,by decide +kernel,by decide +kernel⟩
theorem vv:bK ["_law_many","_law_cell","_law_order","_law_k","_law_at"] ["_law_many","_law_cell"] (bg yq):=⟨rfl,rfl,rfl,by decide +kernel,rfl,by decide +kernel,by decide +kernel⟩
theorem wd:bK ["_law_cell","_law_order","_law_many","_law_one","_law_other","_law_behind","_law_time_here"] ["_law_cell","_law_order"] (bg xm):=⟨rfl,rfl,rfl,by decide +kernel,rfl,by decide +kernel,by decide +kernel⟩
theorem ve:bK ["_law_part_here","_law_kind","_law_start","_law_goal","_law_time_here","_law_behind"] ["_law_part_here","_law_kind"] (bg y0):=⟨rfl,rfl,rfl,by decide +kernel,rfl,by decide +kernel,by decide +kernel⟩
theorem v3:bK ["_law_parts","_law_cell","_law_one","_law_less","_law_onward","_law_other"] ["_law_parts","_law_cell"] (bg xo):=⟨rfl,rfl,rfl,by decide +kernel,rfl,by decide +kernel,by decide +kernel⟩
theorem Kg:bK ["_law_cell","_law_k","_law_number"] ["_law_cell","_law_k"] (bg xp):=⟨rfl,rfl,rfl,by decide +kernel,rfl,by decide +kernel,by decide +kernel⟩
theorem ue:bK ["_law_script","_law_cell","_law_many","_law_order","_law_parts","_law_wide","_law_one","_law_names","_law_other","_law_pair","_law_near","_law_was"] ["_law_script"] (bg qk):=⟨rfl,rfl,rfl,by decide +kernel,rfl,by decide +kernel,by decide +kernel⟩
set_option genInjectivity false
set_option genSizeOf false
structure yG where
 c_Arrow:af
 c_Ride:af
 c_Wait:af
 c_Back:af
 c_Net:af
 f_Arrow___init:af
 d_Arrow___init:aS
 f_Ride___init:af
 d_Ride___init:aS
 f_Wait___init:af
 d_Wait___init:aS
 f_Back___init:af
 d_Back___init:aS
 f_is_letter:af
 d_is_letter:aS
 f_is_figure:af
 d_is_figure:aS
 f_is_name:af
 d_is_name:aS
 f_are_names:af
 d_are_names:aS
 f_lies_within:af
 d_lies_within:aS
 f_is_right:af
 d_is_right:aS
 f_placed_goings:af
 d_placed_goings:aS
 f_Net___init:af
 d_Net___init:aS
 f_Net_most_behind:af
 d_Net_most_behind:aS
 f_Net_into:af
 d_Net_into:aS
 f_Net_order:af
 d_Net_order:aS
 f_later:af
 d_later:aS
 f_latest:af
 d_latest:aS
 f_greatest_told:af
 d_greatest_told:aS
 f_rows_ahead:af
 d_rows_ahead:aS
 f_time_in_last_row:af
 d_time_in_last_row:aS
 f_rows_with_past:af
 d_rows_with_past:aS
 f_run:af
 d_run:aS
 f_sums_within_round:af
 d_sums_within_round:aS
 f_steps:af
 d_steps:aS
 f_parted:af
 d_parted:aS
 f_law_cell_at:af
 d_law_cell_at:aS
 f_law_mixed:af
 d_law_mixed:aS
 f_law_turned:af
 d_law_turned:aS
 f_law_part:af
 d_law_part:aS
 f_law_arrow:af
 d_law_arrow:aS
 f_law_more:af
 d_law_more:aS
 f_law_time:af
 d_law_time:aS
 f_law:af
 d_law:aS
set_option genSizeOf true
set_option genInjectivity true
def yG.ct (a:yG):Nat->af
 |0=>a.c_Arrow
 |1=>a.c_Ride
 |2=>a.c_Wait
 |3=>a.c_Back
 |4=>a.c_Net
 |_=>0
structure Txt (K:ae)(mg:aR->Option aa)(a:yG):Prop where
 Arrow:Dc K mg "Arrow" a.c_Arrow
 Ride:Dc K mg "Ride" a.c_Ride
 Wait:Dc K mg "Wait" a.c_Wait
 Back:Dc K mg "Back" a.c_Back
 Net:Dc K mg "Net" a.c_Net
 Arrow___init:Dm K a.c_Arrow "__init__" "Arrow.__init__" zu ["self","start","goal","time","behind"] a.f_Arrow___init a.d_Arrow___init
 Ride___init:Dm K a.c_Ride "__init__" "Ride.__init__" ya ["self","start","goal","time"] a.f_Ride___init a.d_Ride___init
 Wait___init:Dm K a.c_Wait "__init__" "Wait.__init__" zn ["self","start","goal","time","behind"] a.f_Wait___init a.d_Wait___init
 Wait___init_d1:∃lc,True/\bR [(V.int 0)] lc/\bY K a.d_Wait___init ["self","start","goal","time","behind"] lc
 Back___init:Dm K a.c_Back "__init__" "Back.__init__" zo ["self","start","goal","time","behind"] a.f_Back___init a.d_Back___init
 Back___init_d1:∃lc,True/\bR [(V.int 1)] lc/\bY K a.d_Back___init ["self","start","goal","time","behind"] lc
 is_letter:kr K mg "is_letter" yu ["sign"] a.f_is_letter a.d_is_letter
 is_figure:kr K mg "is_figure" yw ["sign"] a.f_is_figure a.d_is_figure
 is_name:kr K mg "is_name" xz ["word"] a.f_is_name a.d_is_name
 are_names:kr K mg "are_names" yx ["names"] a.f_are_names a.d_are_names
 lies_within:kr K mg "lies_within" yb ["number","least","most"] a.f_lies_within a.d_lies_within
 is_right:kr K mg "is_right" xk ["arrow","many"] a.f_is_right a.d_is_right
 placed_goings:kr K mg "placed_goings" zp ["many","arrows"] a.f_placed_goings a.d_placed_goings
 Net___init:Dm K a.c_Net "__init__" "Net.__init__" yo ["self","names","arrows"] a.f_Net___init a.d_Net___init
 Net_most_behind:Dm K a.c_Net "most_behind" "Net.most_behind" zl ["self"] a.f_Net_most_behind a.d_Net_most_behind
 Net_into:Dm K a.c_Net "into" "Net.into" xl ["self","going"] a.f_Net_into a.d_Net_into
 Net_order:Dm K a.c_Net "order" "Net.order" yy ["self"] a.f_Net_order a.d_Net_order
 later:kr K mg "later" vk ["when","more"] a.f_later a.d_later
 latest:kr K mg "latest" wm ["one","other"] a.f_latest a.d_latest
 greatest_told:kr K mg "greatest_told" zq ["told"] a.f_greatest_told a.d_greatest_told
 rows_ahead:kr K mg "rows_ahead" yp ["net","was"] a.f_rows_ahead a.d_rows_ahead
 time_in_last_row:kr K mg "time_in_last_row" zk ["net","rows","numbers","floor"] a.f_time_in_last_row a.d_time_in_last_row
 rows_with_past:kr K mg "rows_with_past" zm ["net","rounds","was","floors"] a.f_rows_with_past a.d_rows_with_past
 run:kr K mg "run" jg ["net","rounds","was","floors"] a.f_run a.d_run
 run_d1:∃lc,True/\bR [V.non] lc/\bY K a.d_run ["net","rounds","was","floors"] lc
 run_d2:∃lc,True/\bR [V.non,V.non] lc/\bY K a.d_run ["net","rounds","was","floors"] lc
 sums_within_round:kr K mg "sums_within_round" zj ["net","going","order"] a.f_sums_within_round a.d_sums_within_round
 steps:kr K mg "steps" vm ["net"] a.f_steps a.d_steps
 parted:kr K mg "parted" wn ["one","other"] a.f_parted a.d_parted
 law_cell_at:kr K mg "_law_cell_at" yc ["_law_script","_law_k"] a.f_law_cell_at a.d_law_cell_at
 law_mixed:kr K mg "_law_mixed" yz ["_law_cell","_law_k"] a.f_law_mixed a.d_law_mixed
 law_turned:kr K mg "_law_turned" yq ["_law_many","_law_cell"] a.f_law_turned a.d_law_turned
 law_part:kr K mg "_law_part" xm ["_law_cell","_law_order"] a.f_law_part a.d_law_part
 law_arrow:kr K mg "_law_arrow" y0 ["_law_part_here","_law_kind"] a.f_law_arrow a.d_law_arrow
 law_more:kr K mg "_law_more" xo ["_law_parts","_law_cell"] a.f_law_more a.d_law_more
 law_time:kr K mg "_law_time" xp ["_law_cell","_law_k"] a.f_law_time a.d_law_time
 law:kr K mg "law" qk ["_law_script"] a.f_law a.d_law
 q_Arrow:Dq K a.c_Arrow "__init__" a.f_Arrow___init
 fld_arrows:∀c∈([4]:List Nat),kX K (a.ct c)/\e8 K (a.ct c) "arrows"
 fld_behind:∀c∈([0,1,2,3]:List Nat),kX K (a.ct c)/\e8 K (a.ct c) "behind"
 fld_goal:∀c∈([0,1,2,3]:List Nat),kX K (a.ct c)/\e8 K (a.ct c) "goal"
 fld_names:∀c∈([4]:List Nat),kX K (a.ct c)/\e8 K (a.ct c) "names"
 fld_start:∀c∈([0,1,2,3]:List Nat),kX K (a.ct c)/\e8 K (a.ct c) "start"
 fld_time:∀c∈([0,1,2,3]:List Nat),kX K (a.ct c)/\e8 K (a.ct c) "time"
 isi_Back:∀c∈([0,1,2,3,4]:List Nat),Ic K (a.ct c)/\bJ K (.ref (a.ct c)) (.ref a.c_Back)=some (sU [3] c)
 isi_Ride:∀c∈([0,1,2,3,4]:List Nat),Ic K (a.ct c)/\bJ K (.ref (a.ct c)) (.ref a.c_Ride)=some (sU [1] c)
 b_all:mg "all"=none
 b_bool:mg "bool"=none
 b_enumerate:mg "enumerate"=none
 b_int:mg "int"=none
 b_isinstance:mg "isinstance"=none
 b_len:mg "len"=none
 b_list:mg "list"=none
 b_max:mg "max"=none
 b_min:mg "min"=none
 b_range:mg "range"=none
 b_reversed:mg "reversed"=none
 b_sorted:mg "sorted"=none
 b_str:mg "str"=none
 g_MOST_ARROWS:∃t,mg "MOST_ARROWS"=some (.int 120 t)
 g_MOST_BEHIND:∃t,mg "MOST_BEHIND"=some (.int 4 t)
 g_MOST_NAMES:∃t,mg "MOST_NAMES"=some (.int 40 t)
 g_MOST_SIGNS:∃t,mg "MOST_SIGNS"=some (.int 8 t)
 g_MOST_TIME:∃t,mg "MOST_TIME"=some (.int 1000000000 t)
section
variable {P:bb}{w:bG}{K:ae}{mg:aR->Option aa}{base:aK}{a:yG}{ct:Nat->af}
def vd:Nat->List D->Option D:=wD ["self","start","goal","time","behind"]
  (sSeq (jT [0,1,2,3] "start" (eV 1))
  (sSeq (jT [0,1,2,3] "goal" (eV 2))
  (sSeq (jT [0,1,2,3] "time" (eV 3))
  (jT [0,1,2,3] "behind" (eV 4)))))
theorem v4 (T:Txt K mg a):cS P w K mg base fE 1 a.f_Arrow___init a.d_Arrow___init ["self","start","goal","time","behind"] (qB K a.ct [0,1,2,3] [0,0,0,0] vd):=by
 refine jp (ms:=[.ow 0,.ow 0,.ow 0,.ow 0]) (rk:=0) T.Arrow___init.fn Qz rfl rfl (by decide) (ub (by decide)) λx0 ik A outer s H E hr=>?_
 exact(ze (yC T.fld_start (za 1 0))
  (ze (yC T.fld_goal (za 2 0))
  (ze (yC T.fld_time (za 3 0))
  (zg (yC T.fld_behind (za 4 0))))))
def u7:Nat->List D->Option D:=wD ["self","start","goal","time"]
  (mS [0,1,2,3] (aCons (eV 1) (aCons (eV 2) (aCons (eV 3) (aCons (eC (.int 0)) aNil)))) vd)
theorem QD (T:Txt K mg a):cS P w K mg base fE 2 a.f_Ride___init a.d_Ride___init ["self","start","goal","time"] (qB K a.ct [1] [0,0,0] u7):=by
 have eA:=v4 (P:=P) (w:=w) (base:=base) T
 refine jp (ms:=[.ow 0,.ow 0,.ow 0]) (rk:=0) T.Ride___init.fn Qv rfl rfl (by decide) (ub (by decide)) λx0 ik A outer s H E hr=>?_
 exact(zg (Hu (ns:=[0,0,0,0]) eA (hr.mono (by decide)) T.Arrow.mgx T.q_Arrow.sp T.q_Arrow.rd T.q_Arrow.fc T.Arrow___init.fn.kp T.Arrow___init.bd (by decide) (zc (za 1 0) (zc (za 2 0) (zc (za 3 0) (zc cO zf))))))
def u9:Nat->List D->Option D:=wD ["self","start","goal","time","behind"]
  (mS [0,1,2,3] (aCons (eV 1) (aCons (eV 2) (aCons (eV 3) (aCons (eV 4) aNil)))) vd)
theorem QE (T:Txt K mg a):cS P w K mg base fE 2 a.f_Wait___init a.d_Wait___init ["self","start","goal","time","behind"] (qB K a.ct [2] [0,0,0,0] u9):=by
 have eA:=v4 (P:=P) (w:=w) (base:=base) T
 refine jp (ms:=[.ow 0,.ow 0,.ow 0,.ow 0]) (rk:=0) T.Wait___init.fn Qw rfl rfl (by decide) (ub (by decide)) λx0 ik A outer s H E hr=>?_
 exact(zg (Hu (ns:=[0,0,0,0]) eA (hr.mono (by decide)) T.Arrow.mgx T.q_Arrow.sp T.q_Arrow.rd T.q_Arrow.fc T.Arrow___init.fn.kp T.Arrow___init.bd (by decide) (zc (za 1 0) (zc (za 2 0) (zc (za 3 0) (zc (za 4 0) zf))))))
def ja:Nat->List D->Option D:=wD ["self","start","goal","time","behind"]
  (mS [0,1,2,3] (aCons (eV 1) (aCons (eV 2) (aCons (eV 3) (aCons (eV 4) aNil)))) vd)
theorem QF (T:Txt K mg a):cS P w K mg base fE 2 a.f_Back___init a.d_Back___init ["self","start","goal","time","behind"] (qB K a.ct [3] [0,0,0,0] ja):=by
 have eA:=v4 (P:=P) (w:=w) (base:=base) T
 refine jp (ms:=[.ow 0,.ow 0,.ow 0,.ow 0]) (rk:=0) T.Back___init.fn Qx rfl rfl (by decide) (ub (by decide)) λx0 ik A outer s H E hr=>?_
 exact(zg (Hu (ns:=[0,0,0,0]) eA (hr.mono (by decide)) T.Arrow.mgx T.q_Arrow.sp T.q_Arrow.rd T.q_Arrow.fc T.Arrow___init.fn.kp T.Arrow___init.bd (by decide) (zc (za 1 0) (zc (za 2 0) (zc (za 3 0) (zc (za 4 0) zf))))))
def qm:List D->Option D:=mOf ["sign"]
  (sRet (eB (bAnd (tb (e2 tR (eC (.str "a")) (eV 0))) (tb (e2 tR (eV 0) (eC (.str "z")))))))
theorem QZ (T:Txt K mg a):cS P w K mg base fE 1 a.f_is_letter a.d_is_letter ["sign"] (hJ K a.ct [0] 0 qm):=by
 refine jV (ms:=[.ow 0]) T.is_letter.fn zev λ_ _ _ _ _ _ hr=>?_
 exact(zg (yk (XE.ow (xZ (t8 (k:=0) yA xP (xW (n:=0)) (za 0 0) (bL _)) (xB (k:=0) (t8 (k:=0) yA xP (za 0 0) (xW (n:=0)) (bL _)))))))
def Kh:List D->Option D:=mOf ["sign"]
  (sRet (eB (bAnd (tb (e2 tR (eC (.str "0")) (eV 0))) (tb (e2 tR (eV 0) (eC (.str "9")))))))
theorem Q1 (T:Txt K mg a):cS P w K mg base fE 1 a.f_is_figure a.d_is_figure ["sign"] (hJ K a.ct [0] 0 Kh):=by
 refine jV (ms:=[.ow 0]) T.is_figure.fn QX λ_ _ _ _ _ _ hr=>?_
 exact(zg (yk (XE.ow (xZ (t8 (k:=0) yA xP (xW (n:=0)) (za 0 0) (bL _)) (xB (k:=0) (t8 (k:=0) yA xP (za 0 0) (xW (n:=0)) (bL _)))))))
def Ra:EF:=(ee (λρ=>((eV 0) ρ).bind Io) 1 [] (gV 0) gh (eB (bOr (tb (λρ=>((aCons (eV 0) aNil) ρ).bind λds=>qm (ds++[]))) (tb (λρ=>((aCons (eV 0) aNil) ρ).bind λds=>Kh (ds++[]))))))
def KN:List D->Option D:=mOf ["word"]
  (sSeq (sIf (bOr (bNot (tb (e1 (oG "str") (eV 0)))) (bOr (tb (e2 sx (eN d5 (aCons (eV 0) aNil)) (eC (.int 1)))) (tb (e2 rG (eN d5 (aCons (eV 0) aNil)) (eC (.int 8)))))) (sRet (eC (.bl false))) sSkip)
  (sRet (eB (bAnd (tb (λρ=>((aCons (e2 eF (eV 0) (eC (.int 0))) aNil) ρ).bind λds=>qm (ds++[]))) (tb (eN yQ (aCons Ra aNil)))))))
theorem RD (T:Txt K mg a):cS P w K mg base fE 2 a.f_is_name a.d_is_name ["word"] (hJ K a.ct [0] 0 KN):=by
 have ku:=QZ (P:=P) (w:=w) (base:=base) T
 have nw:=Q1 (P:=P) (w:=w) (base:=base) T
 refine jV (ms:=[.ow 0]) T.is_name.fn RC λ_ _ _ _ _ _ hr=>?_
 exact(ze (wt (XW.t (uD (t9 (jk (Eg (k:=0) (by decide) T.b_isinstance T.b_str VA (za 0 0)))) (uD (yg (k:=0) CQ CM (lF T.b_len (zc (za 0 0) zf)) cO (bL _)) (xX (yg (k:=0) uB uA (lF T.b_len (zc (za 0 0) zf)) (CJ (n:=0) (d:=(.int 8)) rfl T.g_MOST_SIGNS.choose_spec rfl ⟨_,rfl⟩) (bL _)))))) (zg (yk (XE.ow (uC (n:=0))))) yf)
  (zg (yk (XE.ow (xZ (XO.sh (n:=0) (dL T.is_letter ku hr (zc (lE (za 0 0) cO) zf))) (xB (k:=0) (vq (k:=0) (Sg rfl) T7 rfl T.b_all VD (zc (XO.sh (n:=0) (sT (N:=["sign"]) (om:=[.ow 0]) (cap:=[]) (own:=1) (XI.cc (VT (n:=0) (za 0 0))) (λ_ _ _ _ _=>(nc (show cz (["sign"]:List aR)from by decide +kernel))) (λ_ _ _ _ _=>wz) (λ_ _ _ _ _=>(XE.ow (Wr (XO.sh (n:=0) (dL T.is_letter ku hr (zc (za 0 0) zf))) (xB (k:=0) (XO.sh (n:=0) (dL T.is_figure nw hr (zc (za 0 0) zf))))))))) zf))))))))
def QL:SF:=(sSeq (sIf (bOr (bNot (tb (λρ=>((aCons (eV 2) aNil) ρ).bind λds=>KN (ds++[])))) (tb (λρ=>((eV 2) ρ).bind λx=>((eV 1) ρ).bind λy=>(il y x).bind λr=>some (.bl r.isSome)))) (sRet (eC (.bl false))) sSkip)
  (mm 1 (eV 2) (eC (.bl true))))
def v5:List D->Option D:=mOf ["names","seen","name"]
  (sSeq (sIf (bOr (bNot (tb (e1 (oG "list") (eV 0)))) (bOr (tb (e2 sx (eN d5 (aCons (eV 0) aNil)) (eC (.int 1)))) (tb (e2 rG (eN d5 (aCons (eV 0) aNil)) (eC (.int 40)))))) (sRet (eC (.bl false))) sSkip)
  (sSeq (sSet 1 (eC (.dK [] [])))
  (sSeq (sFor (lsD (eV 0)) (gV 2) QL)
  (sRet (eC (.bl true))))))
theorem QQ (T:Txt K mg a):cS P w K mg base fE 3 a.f_are_names a.d_are_names ["names"] (hJ K a.ct [0] 0 v5):=by
 have pG:=RD (P:=P) (w:=w) (base:=base) T
 refine jV (ms:=[.ow 0,.ow 1,.ow 0]) T.are_names.fn jq λ_ _ _ _ _ _ hr=>?_
 exact(ze (wt (XW.t (uD (t9 (jk (Eg (k:=0) (by decide) T.b_isinstance T.b_list ji (za 0 0)))) (uD (yg (k:=0) CQ CM (lF T.b_len (zc (za 0 0) zf)) cO (bL _)) (xX (yg (k:=0) uB uA (lF T.b_len (zc (za 0 0) zf)) (CJ (n:=0) (d:=(.int 40)) rfl T.g_MOST_NAMES.choose_spec rfl ⟨_,rfl⟩) (bL _)))))) (zg (yk (XE.ow (uC (n:=0))))) yf)
  (ze (gI jq.nd SU)
  (ze (vo (vh (za 0 0)) (kT jq.nd) (ze (wt (XW.t (uD (t9 (jk (XO.sh (n:=0) (dL T.is_name pG hr (zc (za 2 0) zf))))) (xX (VV (sS hr) (za 2 0) (za 1 1) (by with_unfolding_all rfl))))) (zg (yk (XE.ow (uC (n:=0))))) yf)
  (zg (Hv 1 rfl (sS hr) (za 2 0) (uC (n:=0))))) cC.never rfl)
  (zg (yk (XE.ow (uC (n:=0))))))))
def zx:List D->Option D:=mOf ["number","least","most"]
  (sSeq (sIf (bOr (bNot (tb (e1 (oG "int") (eV 0)))) (tb (e1 (oG "bool") (eV 0)))) (sRet (eC (.bl false))) sSkip)
  (sRet (eB (bAnd (tb (e2 tR (eV 1) (eV 0))) (tb (e2 tR (eV 0) (eV 2)))))))
theorem QG (T:Txt K mg a):cS P w K mg base fE 1 a.f_lies_within a.d_lies_within ["number","least","most"] (hJ K a.ct [0,0,0] 0 zx):=by
 refine jV (ms:=[.ow 0,.ow 0,.ow 0]) T.lies_within.fn QB λ_ _ _ _ _ _ hr=>?_
 exact(ze (wt (XW.t (uD (t9 (jk (Eg (k:=0) (by decide) T.b_isinstance T.b_int Vz (za 0 0)))) (xX (jk (Eg (k:=0) (by decide) T.b_isinstance T.b_bool TB (za 0 0)))))) (zg (yk (XE.ow (uC (n:=0))))) yf)
  (zg (yk (XE.ow (xZ (t8 (k:=0) yA xP (za 1 0) (za 0 0) (bL _)) (xB (k:=0) (t8 (k:=0) yA xP (za 0 0) (za 2 0) (bL _))))))))
def j5:List D->Option D:=mOf ["arrow","many","least","most"]
  (sSeq (sSet 2 (eIf (tb (e1 (qT [0,1,2,3,4] [3]) (eV 0))) (eC (.int 1)) (eC (.int 0))))
  (sSeq (sSet 3 (eIf (tb (e1 (qT [0,1,2,3,4] [1]) (eV 0))) (eC (.int 0)) (eC (.int 4))))
  (sSeq (sIf (bOr (bNot (tb (λρ=>((aCons (e1 (cT [0,1,2,3] "start") (eV 0)) (aCons (eC (.int 0)) (aCons (e2 nI (eV 1) (eC (.int 1))) aNil))) ρ).bind λds=>zx (ds++[])))) (bNot (tb (λρ=>((aCons (e1 (cT [0,1,2,3] "goal") (eV 0)) (aCons (eC (.int 0)) (aCons (e2 nI (eV 1) (eC (.int 1))) aNil))) ρ).bind λds=>zx (ds++[]))))) (sRet (eC (.bl false))) sSkip)
  (sRet (eB (bAnd (tb (λρ=>((aCons (e1 (cT [0,1,2,3] "time") (eV 0)) (aCons (eC (.int 0)) (aCons (eC (.int 1000000000)) aNil))) ρ).bind λds=>zx (ds++[]))) (tb (λρ=>((aCons (e1 (cT [0,1,2,3] "behind") (eV 0)) (aCons (eV 2) (aCons (eV 3) aNil))) ρ).bind λds=>zx (ds++[])))))))))
theorem Rb (T:Txt K mg a):cS P w K mg base fE 2 a.f_is_right a.d_is_right ["arrow","many"] (hJ K a.ct [0,0] 0 j5):=by
 have fL:=QG (P:=P) (w:=w) (base:=base) T
 refine jV (ms:=[.ow 0,.ow 0,.ow 0,.ow 0]) T.is_right.fn ql λ_ _ _ _ _ _ hr=>?_
 exact(ze (gI ql.nd (XE.ow (HV (jk (LW (k:=0) T.isi_Back T.b_isinstance T.Back.mgx (za 0 0))) cO cO)))
  (ze (gI ql.nd (XE.ow (HV (jk (LW (k:=0) T.isi_Ride T.b_isinstance T.Ride.mgx (za 0 0))) cO (CJ (n:=0) (d:=(.int 4)) rfl T.g_MOST_BEHIND.choose_spec rfl ⟨_,rfl⟩))))
  (ze (wt (XW.t (uD (t9 (jk (XO.sh (n:=0) (dL T.lies_within fL hr (zc (ym (n:=0) (za 0 0) T.fld_start rfl) (zc cO (zc (xq (k:=0) xT xO (za 1 0) cO) zf))))))) (xX (t9 (jk (XO.sh (n:=0) (dL T.lies_within fL hr (zc (ym (n:=0) (za 0 0) T.fld_goal rfl) (zc cO (zc (xq (k:=0) xT xO (za 1 0) cO) zf)))))))))) (zg (yk (XE.ow (uC (n:=0))))) yf)
  (zg (yk (XE.ow (xZ (XO.sh (n:=0) (dL T.lies_within fL hr (zc (ym (n:=0) (za 0 0) T.fld_time rfl) (zc cO (zc (CJ (n:=0) (d:=(.int 1000000000)) rfl T.g_MOST_TIME.choose_spec rfl ⟨_,rfl⟩) zf))))) (xB (k:=0) (XO.sh (n:=0) (dL T.lies_within fL hr (zc (ym (n:=0) (za 0 0) T.fld_behind rfl) (zc (za 2 0) (zc (za 3 0) zf)))))))))))))
def xv:SF:=(sIf (tb (e2 (eqD false) (e1 (cT [0,1,2,3] "start") (eV 4)) (eV 7))) (sSeq (nG 3 (e1 (cT [0,1,2,3] "goal") (eV 4)) (λi j=>i-j) (eC (.int 1)))
  (sIf (tb (e2 (eqD false) (e2 eF (eV 3) (e1 (cT [0,1,2,3] "goal") (eV 4))) (eC (.int 0)))) (sApp 5 (e1 (cT [0,1,2,3] "goal") (eV 4))) sSkip)) sSkip)
def w6:SF:=(sSeq (sSet 7 (e2 eF (eV 5) (eV 6)))
  (sSeq (sFor (lsD (eV 2)) (gV 4) xv)
  (wO 6 (i2 λi j=>.int (i+j)) (eC (.int 1)))))
def uu:EF:=(ee (λρ=>((aCons (eV 0) aNil) ρ).bind iL) 1 [3] (gV 0) (tb (e2 (eqD false) (e2 eF (eV 1) (eV 0)) (eC (.int 0)))) (eV 0))
def w8:SF:=(nG 3 (e1 (cT [0,1,2,3] "goal") (eV 4)) (λi j=>i+j) (eC (.int 1)))
def uv:EF:=(ee (lsD (eV 1)) 1 [] (gV 0) (tb (e2 (eqD false) (e1 (cT [0,1,2,3] "behind") (eV 0)) (eC (.int 0)))) (eV 0))
def xw:List D->Option D:=mOf ["many","arrows","within","waited","arrow","placed","done","here"]
  (sSeq (sSet 2 uv)
  (sSeq (sSet 3 (e2 jS (λρ=>((aCons (eC (.int 0)) aNil) ρ).bind λds=>some (.lst ds)) (eV 0)))
  (sSeq (sFor (lsD (eV 2)) (gV 4) w8)
  (sSeq (sSet 5 uu)
  (sSeq (sSet 6 (eC (.int 0)))
  (sSeq (oN (tb (e2 sx (eV 6) (eN d5 (aCons (eV 5) aNil)))) w6)
  (sRet (eV 5))))))))
theorem jf (T:Txt K mg a):cS P w K mg base fE 1 a.f_placed_goings a.d_placed_goings ["many","arrows"] (hJ K a.ct [0,0] 0 xw):=by
 refine jV (ms:=[.ow 0,.ow 0,.ow 0,.ow 1,.ow 0,.ow 1,.ow 0,.ow 0]) T.placed_goings.fn ye λ_ _ _ _ _ _ hr=>?_
 exact(ze (wu (k:=0) (N:=["arrow"]) (om:=[.ow 0]) (cap:=[]) (own:=1) rfl ye.nd rfl (Or.inl rfl) (sR (by rfl)) rfl rfl (by decide) (jy (n:=0) (za 1 0)) (λ_ _ _ _ _=>(nc (show cz (["arrow"]:List aR)from by decide +kernel))) (λ_ _ _ _ _=>(D5 (yg (k:=0) (wy hr.u64) wg (ym (n:=0) (za 0 0) T.fld_behind rfl) cO (bL _)))) (λ_ _ _ _ _=>(XE.ow (za 0 0))))
  (ze (gI ye.nd (Ef (jm (k:=0) (zh (XE.ow cO) xi)) (za 0 0)))
  (ze (vo (vh (za 2 0)) (kT ye.nd) (zg (LV 3 Ma rfl (ym (n:=0) (za 4 0) T.fld_goal rfl) cO)) cC.never rfl)
  (ze (wu (k:=1) (N:=["going","waited"]) (om:=[.ow 0]) (cap:=[3]) (own:=1) rfl ye.nd rfl (Or.inl rfl) (sR (by rfl)) rfl rfl (by decide) (XI.cc (wj (n:=0) T.b_range (zc (za 0 0) zf))) (λ_ _ _ _ _=>(nc (show cz (["going","waited"]:List aR)from by decide +kernel))) (λ_ _ _ _ _=>(D5 (yg (k:=0) (wy hr.u64) wg (p7 (n:=1) jd je (za 1 1) (za 0 0) (λ_ _=>rfl)) cO (bL _)))) (λ_ _ _ _ _=>(XE.ow (za 0 0))))
  (ze (gI ye.nd (XE.ow cO))
  (ze (SX (yg (k:=0) CQ CM (za 6 0) (lF T.b_len (zc (za 5 1) zf)) (bL _)) (ze (gI ye.nd (XE.ow (p7 (n:=1) jd je (za 5 1) (za 6 0) (λ_ _=>rfl))))
  (ze (vo (vh (za 2 0)) (kT ye.nd) (zg (wt (yg (k:=0) (wy hr.u64) wg (ym (n:=0) (za 4 0) T.fld_start rfl) (za 7 0) (bL _)) (ze (LV 3 UG rfl (ym (n:=0) (za 4 0) T.fld_goal rfl) cO)
  (zg (wt (yg (k:=0) (wy hr.u64) wg (p7 (n:=1) jd je (za 3 1) (ym (n:=0) (za 4 0) T.fld_goal rfl) (λ_ _=>rfl)) cO (bL _)) (zg (Ha 5 rfl (XE.ow (ym (n:=0) (za 4 0) T.fld_goal rfl)))) yf))) yf)) cC.never rfl)
  (zg (Ve Ma rfl ye.nd rfl (Or.inl rfl) cO)))) cC.never)
  (zg (xQ (i:=5) rfl))))))))
def uk:SF:=(sIf (bNot (tb (λρ=>((aCons (eV 4) (aCons (eN d5 (aCons (eV 1) aNil)) aNil)) ρ).bind λds=>j5 (ds++[])))) lz sSkip)
def vf:Nat->List D->Option D:=wD ["self","names","arrows","number","arrow","placed"]
  (sSeq (sIf (bOr (bNot (tb (λρ=>((aCons (eV 1) aNil) ρ).bind λds=>v5 (ds++[])))) (tb (e2 rG (eN d5 (aCons (eV 2) aNil)) (eC (.int 120))))) lz sSkip)
  (sSeq (sFor (λρ=>((aCons (eV 2) aNil) ρ).bind λds=>match ds with|[.lst xs]=>some (eM 0 xs)|_=>none) (gT (gsCons (gV 3) (gsCons (gV 4) gsNil))) uk)
  (sSeq (sSet 5 (λρ=>((aCons (eN d5 (aCons (eV 1) aNil)) (aCons (eV 2) aNil)) ρ).bind λds=>xw (ds++[])))
  (sSeq (sIf (tb (e2 sx (eN d5 (aCons (eV 5) aNil)) (eN d5 (aCons (eV 1) aNil)))) lz sSkip)
  (sSeq (jT [4] "names" (eN jR (aCons (eV 1) aNil)))
  (jT [4] "arrows" (eN jR (aCons (eV 2) aNil))))))))
theorem QM (T:Txt K mg a):cS P w K mg base fE 4 a.f_Net___init a.d_Net___init ["self","names","arrows"] (qB K a.ct [4] [0,0] vf):=by
 have nv:=QQ (P:=P) (w:=w) (base:=base) T
 have oi:=Rb (P:=P) (w:=w) (base:=base) T
 have fY:=jf (P:=P) (w:=w) (base:=base) T
 refine jp (ms:=[.ow 0,.ow 0,.ow 0,.ow 0,.ow 0]) (rk:=0) T.Net___init.fn vt rfl rfl (by decide) (ub (by decide)) λx0 ik A outer s H E hr=>?_
 exact(ze (wt (XW.t (uD (t9 (jk (XO.sh (n:=0) (dL T.are_names nv hr (zc (za 1 0) zf))))) (xX (yg (k:=0) uB uA (lF T.b_len (zc (za 2 0) zf)) (CJ (n:=0) (d:=(.int 120)) rfl T.g_MOST_ARROWS.choose_spec rfl ⟨_,rfl⟩) (bL _))))) (zg DS) yf)
  (ze (vo (LF T.b_enumerate (zc (za 2 0) zf)) (Ed (n:=1) rfl (wv (kT vt.nd) (wv (kT vt.nd) D4))) (zg (wt (t9 (jk (XO.sh (n:=0) (dL T.is_right oi hr (zc (za 4 0) (zc (lF T.b_len (zc (za 1 0) zf)) zf)))))) (zg DS) yf)) cC.never rfl)
  (ze (gI vt.nd (dL T.placed_goings fY hr (zc (lF T.b_len (zc (za 1 0) zf)) (zc (za 2 0) zf))))
  (ze (wt (yg (k:=0) CQ CM (lF T.b_len (zc (za 5 0) zf)) (lF T.b_len (zc (za 1 0) zf)) (bL _)) (zg DS) yf)
  (ze (yC T.fld_names (XO.sh (n:=0) (ur ua (DU (n:=0) (by decide)) rfl T.b_list ji (zc (za 1 0) zf))))
  (zg (yC T.fld_arrows (XO.sh (n:=0) (ur ua (DU (n:=0) (by decide)) rfl T.b_list ji (zc (za 2 0) zf))))))))))
def v6:EF:=(ee (lsD (e1 (cT [4] "arrows") (eV 0))) 1 [] (gV 0) gh (e1 (cT [0,1,2,3] "behind") (eV 0)))
def xa:List D->Option D:=mOf ["self"]
  (sRet (eN sy (aCons (e2 eX (λρ=>((aCons (eC (.int 1)) aNil) ρ).bind λds=>some (.lst ds)) v6) aNil)))
theorem uf (T:Txt K mg a):cS P w K mg base fE 1 a.f_Net_most_behind a.d_Net_most_behind ["self"] (hJ K a.ct [0] 0 xa):=by
 refine jV (ms:=[.ow 0]) T.Net_most_behind.fn Qt λ_ _ _ _ _ _ hr=>?_
 exact(zg (yk (XE.ow (vq (k:=0) (Sf rfl) T6 rfl T.b_max xV (zc (XO.sh (n:=0) (m9 (XO.sh (n:=0) (jm (k:=0) (zh (XE.ow cO) xi))) (XO.sh (n:=0) (sT (N:=["arrow"]) (om:=[.ow 0]) (cap:=[]) (own:=1) (jy (n:=0) (ym (n:=0) (za 0 0) T.fld_arrows rfl)) (λ_ _ _ _ _=>(nc (show cz (["arrow"]:List aR)from by decide +kernel))) (λ_ _ _ _ _=>wz) (λ_ _ _ _ _=>(XE.ow (ym (n:=0) (za 0 0) T.fld_behind rfl))))))) zf)))))
def jt:EF:=(ee (λρ=>((aCons (e1 (cT [4] "arrows") (eV 0)) aNil) ρ).bind λds=>match ds with|[.lst xs]=>some (eM 0 xs)|_=>none) 2 [1] (gT (gsCons (gV 0) (gsCons (gV 1) gsNil))) (tb (e2 (eqD false) (e1 (cT [0,1,2,3] "goal") (eV 1)) (eV 2))) (eV 0))
def uw:List D->Option D:=mOf ["self","going"]
  (sRet jt)
theorem Rc (T:Txt K mg a):cS P w K mg base fE 1 a.f_Net_into a.d_Net_into ["self","going"] (hJ K a.ct [0,0] 0 uw):=by
 refine jV (ms:=[.ow 0,.ow 0]) T.Net_into.fn Q9 λ_ _ _ _ _ _ hr=>?_
 exact(zg (yk (mK (sT (N:=["number","arrow","going"]) (om:=[.ow 0,.ow 0]) (cap:=[1]) (own:=2) (S1 (n:=0) T.b_enumerate (zc (ym (n:=0) (za 0 0) T.fld_arrows rfl) zf)) (λ_ _ _ _ _=>(Um (n:=1) rfl (KY (nc (show cz (["number","arrow","going"]:List aR)from by decide +kernel)) (KY (nc (show cz (["number","arrow","going"]:List aR)from by decide +kernel)) SZ)))) (λ_ _ _ _ _=>(D5 (yg (k:=0) (wy hr.u64) wg (ym (n:=0) (za 1 0) T.fld_goal rfl) (za 2 0) (bL _)))) (λ_ _ _ _ _=>(XE.ow (za 0 0)))))))
def v7:List D->Option D:=mOf ["self"]
  (sRet (λρ=>((aCons (eN d5 (aCons (e1 (cT [4] "names") (eV 0)) aNil)) (aCons (e1 (cT [4] "arrows") (eV 0)) aNil)) ρ).bind λds=>xw (ds++[])))
theorem J9 (T:Txt K mg a):cS P w K mg base fE 2 a.f_Net_order a.d_Net_order ["self"] (hJ K a.ct [0] 0 v7):=by
 have fY:=jf (P:=P) (w:=w) (base:=base) T
 refine jV (ms:=[.ow 0]) T.Net_order.fn QY λ_ _ _ _ _ _ hr=>?_
 exact(zg (yk (dL T.placed_goings fY hr (zc (lF T.b_len (zc (ym (n:=0) (za 0 0) T.fld_names rfl) zf)) (zc (ym (n:=0) (za 0 0) T.fld_arrows rfl) zf)))))
def CD:List D->Option D:=mOf ["when","more"]
  (sSeq (sIf (tb (e2 (qS false) (eV 0) (eC .non))) (sRet (eC .non)) sSkip)
  (sRet (e2 eX (eV 0) (eV 1))))
theorem Lk (T:Txt K mg a):cS P w K mg base fE 1 a.f_later a.d_later ["when","more"] (hJ K a.ct [0,0] 0 CD):=by
 refine jV (ms:=[.ow 0,.ow 0]) T.later.fn Td λ_ _ _ _ _ _ hr=>?_
 exact(ze (wt (yg (k:=0) CU CN (za 0 0) p6 (bL _)) (zg (yk (XE.ow p6))) yf)
  (zg (yk (mK (m9 (za 0 0) (za 1 0))))))
def jb:List D->Option D:=mOf ["one","other"]
  (sSeq (sIf (tb (e2 (qS false) (eV 0) (eC .non))) (sRet (eV 1)) sSkip)
  (sSeq (sIf (tb (e2 (qS false) (eV 1) (eC .non))) (sRet (eV 0)) sSkip)
  (sRet (eN iJ (aCons (eV 0) (aCons (eV 1) aNil))))))
theorem DP (T:Txt K mg a):cS P w K mg base fE 1 a.f_latest a.d_latest ["one","other"] (hJ K a.ct [0,0] 0 jb):=by
 refine jV (ms:=[.ow 0,.ow 0]) T.latest.fn Sk λ_ _ _ _ _ _ hr=>?_
 exact(ze (wt (yg (k:=0) CU CN (za 0 0) p6 (bL _)) (zg (yk (XE.ow (za 1 0)))) yf)
  (ze (wt (yg (k:=0) CU CN (za 1 0) p6 (bL _)) (zg (yk (XE.ow (za 0 0)))) yf)
  (zg (yk (XE.ow (vq (k:=0) (jh rfl) CB rfl T.b_max xV (zc (za 0 0) (zc (za 1 0) zf))))))))
def w9:SF:=(mm 1 (λρ=>((aCons (eV 2) (aCons (eV 3) aNil)) ρ).bind λds=>some (.tup ds)) (λρ=>((aCons (λρ=>((eV 1) ρ).bind λx=>((λρ=>((aCons (eV 2) (aCons (eV 3) aNil)) ρ).bind λds=>some (.tup ds)) ρ).bind λy=>(il x y).bind λr=>some (r.getD .non)) (aCons (eV 4) aNil)) ρ).bind λds=>jb (ds++[])))
def yt:List D->Option D:=mOf ["told","greatest","going","number","amount"]
  (sSeq (sSet 1 (eC (.dT [] [])))
  (sSeq (sFor (lsD (eV 0)) (gT (gsCons (gV 2) (gsCons (gV 3) (gsCons (gV 4) gsNil)))) w9)
  (sRet (eV 1))))
theorem Qs (T:Txt K mg a):cS P w K mg base fE 2 a.f_greatest_told a.d_greatest_told ["told"] (hJ K a.ct [0] 0 yt):=by
 have gw:=DP (P:=P) (w:=w) (base:=base) T
 refine jV (ms:=[.ow 0,.ow 1,.ow 0,.ow 0,.ow 0]) T.greatest_told.fn wa λ_ _ _ _ _ _ hr=>?_
 exact(ze (gI wa.nd Ld)
  (ze (vo (vh (za 0 0)) (Ed (n:=0) rfl (wv (kT wa.nd) (wv (kT wa.nd) (wv (kT wa.nd) D4)))) (zg (Hv 1 rfl (sS hr) (XO.sh (n:=0) (jl (zh (XE.ow (za 2 0)) (zh (XE.ow (za 3 0)) xi)))) (XO.sh (n:=0) (dL T.latest gw hr (zc (CI (n:=1) (sS hr) (za 1 1) (XO.sh (n:=0) (jl (zh (XE.ow (za 2 0)) (zh (XE.ow (za 3 0)) xi)))) ⟨rfl,rfl,rfl,rfl⟩) (zc (za 4 0) zf)))))) cC.never rfl)
  (zg (xQ (i:=1) rfl))))
def qc:EF:=(ee (λρ=>((lsD (λρ=>((eV 1) ρ).bind λd=>(pNo ρ).bind λl=>((pInt (eV 2)) ρ).bind λh=>gB d l h)) ρ).bind λds=>some ds.reverse) 1 [] (gV 0) gh (eN jR (aCons (eV 0) aNil)))
def qd:EF:=(ee (λρ=>((aCons (eV 2) aNil) ρ).bind iL) 1 [0] (gV 0) gh (e2 jS (λρ=>((aCons (eC (.int 0)) aNil) ρ).bind λds=>some (.lst ds)) (eN d5 (aCons (e1 (cT [4] "names") (eV 1)) aNil))))
def xx:List D->Option D:=mOf ["net","was","depth"]
  (sSeq (sSet 2 (λρ=>((eV 0) ρ).bind λo=>kc 4 "most_behind" xa o []))
  (sSeq (sIf (tb (e2 (qS false) (eV 1) (eC .non))) (sRet qd) sSkip)
  (sRet qc)))
theorem QN (T:Txt K mg a):cS P w K mg base fE 2 a.f_rows_ahead a.d_rows_ahead ["net","was"] (hJ K a.ct [0,0] 2 xx):=by
 have e7:=uf (P:=P) (w:=w) (base:=base) T
 refine jV (ms:=[.ow 0,.ow 0,.ow 0]) T.rows_ahead.fn Ka λ_ _ _ _ _ _ hr=>?_
 exact(ze (gI Ka.nd (DN (n:=0) (c0:=4) (nd:=[]) (ky:=[]) (za 0 0) T.Net.cl T.Net_most_behind.me e7 (hr.mono (by decide)) T.Net_most_behind.bd .nil (λ_ _=>.nil)))
  (ze (wt (yg (k:=0) CU CN (za 1 0) p6 (bL _)) (zg (yk (sT (N:=["number","net"]) (om:=[.ow 0]) (cap:=[0]) (own:=1) (XI.cc (wj (n:=0) T.b_range (zc (za 2 0) zf))) (λ_ _ _ _ _=>(nc (show cz (["number","net"]:List aR)from by decide +kernel))) (λ_ _ _ _ _=>wz) (λ_ _ _ _ _=>(Ef (jm (k:=0) (zh (XE.ow cO) xi)) (lF T.b_len (zc (ym (n:=0) (za 1 0) T.fld_names rfl) zf))))))) yf)
  (zg (yk (sT (N:=["row"]) (om:=[.ow 0]) (cap:=[]) (own:=1) (UK (n:=0) T.b_reversed (XO.sh (n:=0) (DV (n:=0) (by decide) (za 1 0) HW (qh (za 2 0))))) (λ_ _ _ _ _=>(nc (show cz (["row"]:List aR)from by decide +kernel))) (λ_ _ _ _ _=>wz) (λ_ _ _ _ _=>(ur ua (DU (n:=0) (by decide)) rfl T.b_list ji (zc (za 0 0) zf))))))))
def we:SF:=(sSeq (sSet 6 (e2 eF (e1 (cT [4] "arrows") (eV 0)) (eV 5)))
  (sSet 4 (λρ=>((aCons (eV 4) (aCons (λρ=>((aCons (e2 eF (e2 eF (eV 1) (e2 nI (e1 qV (eC (.int 1))) (e1 (cT [0,1,2,3] "behind") (eV 6)))) (e1 (cT [0,1,2,3] "start") (eV 6))) (aCons (e1 (cT [0,1,2,3] "time") (eV 6)) aNil)) ρ).bind λds=>CD (ds++[])) aNil)) ρ).bind λds=>jb (ds++[]))))
def wb:List D->Option D:=mOf ["net","rows","numbers","floor","when","number","arrow"]
  (sSeq (sSet 4 (eV 3))
  (sSeq (sFor (lsD (eV 2)) (gV 5) we)
  (sRet (eV 4))))
theorem qo (T:Txt K mg a):cS P w K mg base fE 2 a.f_time_in_last_row a.d_time_in_last_row ["net","rows","numbers","floor"] (hJ K a.ct [0,2,0,0] 0 wb):=by
 have gw:=DP (P:=P) (w:=w) (base:=base) T
 have mD:=Lk (P:=P) (w:=w) (base:=base) T
 refine jV (ms:=[.ow 0,.al 2,.ow 0,.ow 0,.ow 0,.ow 0,.ow 0]) T.time_in_last_row.fn xf λ_ _ _ _ _ _ hr=>?_
 exact(ze (gI xf.nd (XE.ow (za 3 0)))
  (ze (vo (vh (za 2 0)) (kT xf.nd) (ze (gI xf.nd (XE.ow (lE (ym (n:=0) (za 0 0) T.fld_arrows rfl) (za 5 0))))
  (zg (gI xf.nd (dL T.latest gw hr (zc (za 4 0) (zc (XO.sh (n:=0) (dL T.later mD hr (zc (p7 (n:=1) jd je (p7 (n:=2) jd je (za 1 2) (xq (k:=0) xT xO (HI (k:=0) cO) (ym (n:=0) (za 6 0) T.fld_behind rfl)) (λ_ _=>rfl)) (ym (n:=0) (za 6 0) T.fld_start rfl) (λ_ _=>rfl)) (zc (ym (n:=0) (za 6 0) T.fld_time rfl) zf)))) zf)))))) cC.never rfl)
  (zg (yk (XE.ow (za 4 0))))))
def wc:SF:=(sSeq (sSet 10 (λρ=>((eV 5) ρ).bind λx=>((λρ=>((aCons (eV 9) (aCons (eV 8) aNil)) ρ).bind λds=>some (.tup ds)) ρ).bind λy=>(il x y).bind λr=>some (r.getD .non)))
  (oM 4 (e1 qV (eC (.int 1))) (eV 9) (λρ=>((aCons (eV 0) (aCons (eV 4) (aCons (e2 eF (eV 6) (eV 9)) (aCons (eV 10) aNil)))) ρ).bind λds=>wb (ds++[]))))
def ww:SF:=(sSeq (sApp 4 (e2 jS (λρ=>((aCons (eC .non) aNil) ρ).bind λds=>some (.lst ds)) (eN d5 (aCons (e1 (cT [4] "names") (eV 0)) aNil))))
  (sFor (lsD (eV 7)) (gV 9) wc))
def ug:EF:=(ee (λρ=>((aCons (eN d5 (aCons (e1 (cT [4] "names") (eV 0)) aNil)) aNil) ρ).bind iL) 1 [0] (gV 0) gh (λρ=>((eV 1) ρ).bind λo=>((aCons (eV 0) aNil) ρ).bind λds=>kc 4 "into" uw o (ds++[])))
def wo:List D->Option D:=mOf ["net","rounds","was","floors","rows","greatest","numbers","order","number","going","floor"]
  (sSeq (sSet 4 (λρ=>((aCons (eV 0) (aCons (eV 2) aNil)) ρ).bind λds=>xx (ds++[])))
  (sSeq (sSet 5 (λρ=>((aCons (eIf (tb (e2 (qS false) (eV 3) (eC .non))) (λρ=>(aNil ρ).bind λds=>some (.lst ds)) (eV 3)) aNil) ρ).bind λds=>yt (ds++[])))
  (sSeq (sSet 6 ug)
  (sSeq (sSet 7 (λρ=>((eV 0) ρ).bind λo=>kc 4 "order" v7 o []))
  (sSeq (sFor (λρ=>((aCons (eV 1) aNil) ρ).bind iL) (gV 8) ww)
  (sRet (eV 4)))))))
theorem Qu (T:Txt K mg a):cS P w K mg base fE 3 a.f_rows_with_past a.d_rows_with_past ["net","rounds","was","floors"] (hJ K a.ct [0,0,0,0] 0 wo):=by
 have mF:=QN (P:=P) (w:=w) (base:=base) T
 have kH:=Qs (P:=P) (w:=w) (base:=base) T
 have oh:=Rc (P:=P) (w:=w) (base:=base) T
 have iF:=J9 (P:=P) (w:=w) (base:=base) T
 have jB:=qo (P:=P) (w:=w) (base:=base) T
 refine jV (ms:=[.ow 0,.ow 0,.ow 0,.ow 0,.ow 2,.ow 0,.ow 0,.ow 0,.ow 0,.ow 0,.ow 0]) T.rows_with_past.fn yh λ_ _ _ _ _ _ hr=>?_
 exact(ze (gI yh.nd (dL T.rows_ahead mF hr (zc (za 0 0) (zc (za 2 0) zf))))
  (ze (gI yh.nd (dL T.greatest_told kH hr (zc (HV (yg (k:=0) CU CN (za 3 0) p6 (bL _)) (XO.sh (n:=0) (jm (k:=0) xi)) (za 3 0)) zf)))
  (ze (wu (k:=0) (N:=["going","net"]) (om:=[.ow 0]) (cap:=[0]) (own:=1) rfl yh.nd rfl (Or.inl rfl) (sR (by rfl)) rfl rfl (by decide) (XI.cc (wj (n:=0) T.b_range (zc (lF T.b_len (zc (ym (n:=0) (za 0 0) T.fld_names rfl) zf)) zf))) (λ_ _ _ _ _=>(nc (show cz (["going","net"]:List aR)from by decide +kernel))) (λ_ _ _ _ _=>wz) (λ_ _ _ _ _=>(Ug (n:=0) (c0:=4) (ns:=[0]) (nd:=[]) (ky:=[]) (za 1 0) T.Net.cl T.Net_into.me oh (hr.mono (by decide)) T.Net_into.bd .nil (λ_ _=>.nil) (zc (za 0 0) zf))))
  (ze (gI yh.nd (DN (n:=0) (c0:=4) (nd:=[]) (ky:=[]) (za 0 0) T.Net.cl T.Net_order.me iF (hr.mono (by decide)) T.Net_order.bd .nil (λ_ _=>.nil)))
  (ze (vo (wj (n:=0) T.b_range (zc (za 1 0) zf)) (kT yh.nd) (ze (Ha 4 rfl (Ef (jm (k:=0) (zh (XE.ow p6) xi)) (lF T.b_len (zc (ym (n:=0) (za 0 0) T.fld_names rfl) zf))))
  (zg (vo (vh (za 7 0)) (kT yh.nd) (ze (gI yh.nd (XE.ow (CI (n:=0) (sS hr) (za 5 0) (XO.sh (n:=0) (jl (zh (XE.ow (za 9 0)) (zh (XE.ow (za 8 0)) xi)))) ⟨rfl,rfl,rfl,rfl⟩)))
  (zg (Ta 4 rfl (HI (k:=0) cO) (za 9 0) (λ_ _=>rfl) (XO.sh (n:=0) (dL T.time_in_last_row jB hr (zc (za 0 0) (zc (za 4 2) (zc (lE (za 6 0) (za 9 0)) (zc (za 10 0) zf))))))))) cC.never rfl))) cC.never rfl)
  (zg (xQ (i:=4) rfl)))))))
def xC:List D->Option D:=mOf ["net","rounds","was","floors"]
  (sRet (λρ=>((λρ=>((aCons (eV 0) (aCons (eV 1) (aCons (eV 2) (aCons (eV 3) aNil)))) ρ).bind λds=>wo (ds++[])) ρ).bind λd=>((pInt (λρ=>((eV 0) ρ).bind λo=>kc 4 "most_behind" xa o [])) ρ).bind λl=>(pNo ρ).bind λh=>gB d l h))
theorem V4 (T:Txt K mg a):cS P w K mg base fE 4 a.f_run a.d_run ["net","rounds","was","floors"] (hJ K a.ct [0,0,0,0] 0 xC):=by
 have kb:=Qu (P:=P) (w:=w) (base:=base) T
 have e7:=uf (P:=P) (w:=w) (base:=base) T
 refine jV (ms:=[.ow 0,.ow 0,.ow 0,.ow 0]) T.run.fn V3 λ_ _ _ _ _ _ hr=>?_
 exact(zg (yk (mK (DV (n:=0) (by decide) (XO.sh (n:=0) (dL T.rows_with_past kb hr (zc (za 0 0) (zc (za 1 0) (zc (za 2 0) (zc (za 3 0) zf)))))) (qh (XO.sh (n:=0) (DN (n:=0) (c0:=4) (nd:=[]) (ky:=[]) (za 0 0) T.Net.cl T.Net_most_behind.me e7 (hr.mono (by decide)) T.Net_most_behind.bd .nil (λ_ _=>.nil)))) HW))))
def yj:SF:=(sIf (bAnd (tb (e2 (eqD false) (e1 (cT [0,1,2,3] "behind") (eV 5)) (eC (.int 0)))) (tb (e2 (eqD false) (e1 (cT [0,1,2,3] "start") (eV 5)) (eV 4)))) (mn 3 (e1 (cT [0,1,2,3] "goal") (eV 5)) (λρ=>((aCons (e2 eF (eV 3) (e1 (cT [0,1,2,3] "goal") (eV 5))) (aCons (λρ=>((aCons (e2 eF (eV 3) (eV 4)) (aCons (e1 (cT [0,1,2,3] "time") (eV 5)) aNil)) ρ).bind λds=>CD (ds++[])) aNil)) ρ).bind λds=>jb (ds++[]))) sSkip)
def xr:SF:=(sFor (lsD (e1 (cT [4] "arrows") (eV 0))) (gV 5) yj)
def xg:List D->Option D:=mOf ["net","going","order","sums","here","arrow"]
  (sSeq (sSet 3 (e2 jS (λρ=>((aCons (eC .non) aNil) ρ).bind λds=>some (.lst ds)) (eN d5 (aCons (e1 (cT [4] "names") (eV 0)) aNil))))
  (sSeq (mn 3 (eV 1) (eC (.int 0)))
  (sSeq (sFor (lsD (eV 2)) (gV 4) xr)
  (sRet (eV 3)))))
theorem j8 (T:Txt K mg a):cS P w K mg base fE 2 a.f_sums_within_round a.d_sums_within_round ["net","going","order"] (hJ K a.ct [0,0,0] 0 xg):=by
 have gw:=DP (P:=P) (w:=w) (base:=base) T
 have mD:=Lk (P:=P) (w:=w) (base:=base) T
 refine jV (ms:=[.ow 0,.ow 0,.ow 0,.ow 1,.ow 0,.ow 0]) T.sums_within_round.fn xt λ_ _ _ _ _ _ hr=>?_
 exact(ze (gI xt.nd (Ef (jm (k:=0) (zh (XE.ow p6) xi)) (lF T.b_len (zc (ym (n:=0) (za 0 0) T.fld_names rfl) zf))))
  (ze (LG 3 rfl (za 1 0) cO)
  (ze (vo (vh (za 2 0)) (kT xt.nd) (zg (vo (vh (ym (n:=0) (za 0 0) T.fld_arrows rfl)) (kT xt.nd) (zg (wt (XW.t (xY (yg (k:=0) (wy hr.u64) wg (ym (n:=0) (za 5 0) T.fld_behind rfl) cO (bL _)) (CH (yg (k:=0) (wy hr.u64) wg (ym (n:=0) (za 5 0) T.fld_start rfl) (za 4 0) (bL _))))) (zg (LG 3 rfl (ym (n:=0) (za 5 0) T.fld_goal rfl) (XO.sh (n:=0) (dL T.latest gw hr (zc (p7 (n:=1) jd je (za 3 1) (ym (n:=0) (za 5 0) T.fld_goal rfl) (λ_ _=>rfl)) (zc (XO.sh (n:=0) (dL T.later mD hr (zc (p7 (n:=1) jd je (za 3 1) (za 4 0) (λ_ _=>rfl)) (zc (ym (n:=0) (za 5 0) T.fld_time rfl) zf)))) zf)))))) yf)) cC.never rfl)) cC.never rfl)
  (zg (xQ (i:=3) rfl)))))
def v8:SF:=(sIf (tb (e2 (qS true) (eV 6) (eC .non))) (sSeq (sSet 7 (λρ=>((aCons (e1 (cT [0,1,2,3] "behind") (eV 4)) (aCons (e1 (cT [0,1,2,3] "start") (eV 4)) (aCons (eV 5) aNil))) ρ).bind λds=>some (.tup ds)))
  (mm 3 (eV 7) (λρ=>((aCons (λρ=>((eV 3) ρ).bind λx=>((eV 7) ρ).bind λy=>(il x y).bind λr=>some (r.getD .non)) (aCons (e2 eX (e1 (cT [0,1,2,3] "time") (eV 4)) (eV 6)) aNil)) ρ).bind λds=>jb (ds++[])))) sSkip)
def ju:SF:=(sIf (tb (e2 rG (e1 (cT [0,1,2,3] "behind") (eV 4)) (eC (.int 0)))) (sFor (λρ=>((aCons (e2 eF (eV 2) (e1 (cT [0,1,2,3] "goal") (eV 4))) aNil) ρ).bind λds=>match ds with|[.lst xs]=>some (eM 0 xs)|_=>none) (gT (gsCons (gV 5) (gsCons (gV 6) gsNil))) v8) sSkip)
def G5:EF:=(ee (λρ=>((aCons (eN d5 (aCons (e1 (cT [4] "names") (eV 0)) aNil)) aNil) ρ).bind iL) 1 [0,1] (gV 0) gh (λρ=>((aCons (eV 1) (aCons (eV 0) (aCons (eV 2) aNil))) ρ).bind λds=>xg (ds++[])))
def vn:List D->Option D:=mOf ["net","order","sums","greatest","arrow","goal","more","key"]
  (sSeq (sSet 1 (λρ=>((eV 0) ρ).bind λo=>kc 4 "order" v7 o []))
  (sSeq (sSet 2 G5)
  (sSeq (sSet 3 (eC (.dT [] [])))
  (sSeq (sFor (lsD (e1 (cT [4] "arrows") (eV 0))) (gV 4) ju)
  (sRet (eV 3))))))
theorem Ll (T:Txt K mg a):cS P w K mg base fE 3 a.f_steps a.d_steps ["net"] (hJ K a.ct [0] 0 vn):=by
 have iF:=J9 (P:=P) (w:=w) (base:=base) T
 have iV:=j8 (P:=P) (w:=w) (base:=base) T
 have gw:=DP (P:=P) (w:=w) (base:=base) T
 refine jV (ms:=[.ow 0,.ow 0,.ow 0,.ow 1,.ow 0,.ow 0,.ow 0,.ow 0]) T.steps.fn ud λ_ _ _ _ _ _ hr=>?_
 exact(ze (gI ud.nd (DN (n:=0) (c0:=4) (nd:=[]) (ky:=[]) (za 0 0) T.Net.cl T.Net_order.me iF (hr.mono (by decide)) T.Net_order.bd .nil (λ_ _=>.nil)))
  (ze (wu (k:=0) (N:=["going","net","order"]) (om:=[.ow 0]) (cap:=[0,1]) (own:=1) rfl ud.nd rfl (Or.inl rfl) (sR (by rfl)) rfl rfl (by decide) (XI.cc (wj (n:=0) T.b_range (zc (lF T.b_len (zc (ym (n:=0) (za 0 0) T.fld_names rfl) zf)) zf))) (λ_ _ _ _ _=>(nc (show cz (["going","net","order"]:List aR)from by decide +kernel))) (λ_ _ _ _ _=>wz) (λ_ _ _ _ _=>(dL T.sums_within_round iV hr (zc (za 1 0) (zc (za 0 0) (zc (za 2 0) zf))))))
  (ze (gI ud.nd Ld)
  (ze (vo (vh (ym (n:=0) (za 0 0) T.fld_arrows rfl)) (kT ud.nd) (zg (wt (yg (k:=0) uB uA (ym (n:=0) (za 4 0) T.fld_behind rfl) cO (bL _)) (zg (vo (LF T.b_enumerate (zc (lE (za 2 0) (ym (n:=0) (za 4 0) T.fld_goal rfl)) zf)) (Ed (n:=1) rfl (wv (kT ud.nd) (wv (kT ud.nd) D4))) (zg (wt (yg (k:=0) Le KW (za 6 0) p6 (bL _)) (ze (gI ud.nd (mK (jl (zh (XE.ow (ym (n:=0) (za 4 0) T.fld_behind rfl)) (zh (XE.ow (ym (n:=0) (za 4 0) T.fld_start rfl)) (zh (XE.ow (za 5 0)) xi))))))
  (zg (Hv 3 rfl (sS hr) (za 7 0) (XO.sh (n:=0) (dL T.latest gw hr (zc (CI (n:=1) (sS hr) (za 3 1) (za 7 0) ⟨rfl,rfl,rfl,rfl⟩) (zc (XO.sh (n:=0) (m9 (ym (n:=0) (za 4 0) T.fld_time rfl) (za 6 0))) zf))))))) yf)) cC.never rfl)) yf)) cC.never rfl)
  (zg (xQ (i:=3) rfl))))))
def vx:SF:=(sIf (tb (e2 (eqD true) (λρ=>((eV 2) ρ).bind λx=>((eV 4) ρ).bind λy=>(il x y).bind λr=>some (r.getD .non)) (λρ=>((eV 3) ρ).bind λx=>((eV 4) ρ).bind λy=>(il x y).bind λr=>some (r.getD .non)))) (sRet (eV 4)) sSkip)
def CC:List D->Option D:=mOf ["one","other","here","there","key"]
  (sSeq (sIf (tb (e2 (eqD true) (eN d5 (aCons (e1 (cT [4] "names") (eV 0)) aNil)) (eN d5 (aCons (e1 (cT [4] "names") (eV 1)) aNil)))) lz sSkip)
  (sSeq (sSet 2 (λρ=>((aCons (eV 0) aNil) ρ).bind λds=>vn (ds++[])))
  (sSeq (sSet 3 (λρ=>((aCons (eV 1) aNil) ρ).bind λds=>vn (ds++[])))
  (sSeq (sFor (lsD (eN rl (aCons (e2 eX (eN nD (aCons (eV 2) aNil)) (eN nD (aCons (eV 3) aNil))) aNil))) (gV 4) vx)
  (sRet (eC .non))))))
theorem Sl (T:Txt K mg a):cS P w K mg base fE 4 a.f_parted a.d_parted ["one","other"] (hJ K a.ct [0,0] 0 CC):=by
 have jQ:=Ll (P:=P) (w:=w) (base:=base) T
 refine jV (ms:=[.ow 0,.ow 0,.ow 0,.ow 0,.ow 0]) T.parted.fn DO λ_ _ _ _ _ _ hr=>?_
 exact(ze (wt (yg (k:=0) (HJ hr.u64) wg (lF T.b_len (zc (ym (n:=0) (za 0 0) T.fld_names rfl) zf)) (lF T.b_len (zc (ym (n:=0) (za 1 0) T.fld_names rfl) zf)) (bL _)) (zg DS) yf)
  (ze (gI DO.nd (dL T.steps jQ hr (zc (za 0 0) zf)))
  (ze (gI DO.nd (dL T.steps jQ hr (zc (za 1 0) zf)))
  (ze (vo (vh (XO.sh (n:=0) (SV QW Sj rfl T.b_sorted RX (zc (XO.sh (n:=0) (m9 (XO.sh (n:=0) (ur (Kw rfl) (K5 (n:=0)) rfl T.b_list ji (zc (za 2 0) zf))) (XO.sh (n:=0) (ur (Kw rfl) (K5 (n:=0)) rfl T.b_list ji (zc (za 3 0) zf))))) zf)))) (kT DO.nd) (zg (wt (yg (k:=0) (HJ hr.u64) wg (CI (n:=0) (sS hr) (za 2 0) (za 4 0) ⟨rfl,rfl,rfl,rfl⟩) (CI (n:=0) (sS hr) (za 3 0) (za 4 0) ⟨rfl,rfl,rfl,rfl⟩) (bL _)) (zg (yk (XE.ow (za 4 0)))) yf)) cC.never rfl)
  (zg (yk (XE.ow p6)))))))
def wx:List D->Option D:=mOf ["_law_script","_law_k"]
  (sSeq (sIf (tb (e2 sx (eV 1) (eN d5 (aCons (eV 0) aNil)))) (sRet (e2 eF (eV 0) (eV 1))) sSkip)
  (sRet (eC (.int 0))))
theorem QH (T:Txt K mg a):cS P w K mg base fE 1 a.f_law_cell_at a.d_law_cell_at ["_law_script","_law_k"] (hJ K a.ct [0,0] 0 wx):=by
 refine jV (ms:=[.ow 0,.ow 0]) T.law_cell_at.fn QC λ_ _ _ _ _ _ hr=>?_
 exact(ze (wt (yg (k:=0) CQ CM (za 1 0) (lF T.b_len (zc (za 0 0) zf)) (bL _)) (zg (yk (XE.ow (lE (za 0 0) (za 1 0))))) yf)
  (zg (yk (XE.ow cO))))
def yn:List D->Option D:=mOf ["_law_cell","_law_k","_law_number"]
  (sSeq (sIf (bAnd (tb (e2 Fw (eV 0) (e2 sL (eC (.int 1)) (eC (.int 90))))) (bAnd (tb (e2 (eqD false) (e2 eO (eV 0) (eC (.int 2))) (eC (.int 1)))) (tb (e2 rG (e2 pR (eV 0) (e2 eX (eC (.int 1)) (e2 hV (eC (.int 31)) (eV 1)))) (eC (.int 0)))))) (sRet (e2 eO (e2 pR (eV 0) (e2 eX (eC (.int 1)) (e2 hV (eC (.int 31)) (eV 1)))) (eC (.int 2147483648)))) sSkip)
  (sSeq (sSet 2 (e2 eO (e2 hV (e2 eX (e2 eX (eV 0) (e2 hV (eC (.int 7919)) (eV 1))) (eC (.int 1))) (eC (.int 48271))) (eC (.int 2147483647))))
  (sSeq (sSet 2 (e2 eO (e2 hV (eV 2) (e2 eX (e2 iI (eV 2) (eC (.int 1009))) (eC (.int 69621)))) (eC (.int 2147483647))))
  (sRet (e2 eO (e2 hV (eV 2) (e2 eX (e2 eX (e2 iI (eV 2) (eC (.int 2003))) (eC (.int 39373))) (eV 1))) (eC (.int 2147483629)))))))
theorem uh (T:Txt K mg a):cS P w K mg base fE 1 a.f_law_mixed a.d_law_mixed ["_law_cell","_law_k"] (hJ K a.ct [0,0] 0 yn):=by
 refine jV (ms:=[.ow 0,.ow 0,.ow 0]) T.law_mixed.fn jr λ_ _ _ _ _ _ hr=>?_
 exact(ze (wt (XW.t (xY (yg (k:=0) Wi Vb (za 0 0) (xq (k:=0) Vj Uk cO cO) (bL _)) (xY (yg (k:=0) (wy hr.u64) wg (xq (k:=0) xh xj (za 0 0) cO) cO (bL _)) (CH (yg (k:=0) uB uA (xq (k:=0) Mb LP (za 0 0) (XO.sh (n:=0) (m9 cO (xq (k:=0) qf u4 cO (za 1 0))))) cO (bL _)))))) (zg (yk (XE.ow (xq (k:=0) xh xj (xq (k:=0) Mb LP (za 0 0) (XO.sh (n:=0) (m9 cO (xq (k:=0) qf u4 cO (za 1 0))))) cO)))) yf)
  (ze (gI jr.nd (XE.ow (xq (k:=0) xh xj (xq (k:=0) qf u4 (XO.sh (n:=0) (m9 (XO.sh (n:=0) (m9 (za 0 0) (xq (k:=0) qf u4 cO (za 1 0)))) cO)) cO) cO)))
  (ze (gI jr.nd (XE.ow (xq (k:=0) xh xj (xq (k:=0) qf u4 (za 2 0) (XO.sh (n:=0) (m9 (xq (k:=0) qr q0 (za 2 0) cO) cO))) cO)))
  (zg (yk (XE.ow (xq (k:=0) xh xj (xq (k:=0) qf u4 (za 2 0) (XO.sh (n:=0) (m9 (XO.sh (n:=0) (m9 (xq (k:=0) qr q0 (za 2 0) cO) cO)) (za 1 0)))) cO)))))))
def um:SF:=(sSeq (sSet 4 (e2 eO (λρ=>((aCons (eV 1) (aCons (e2 eX (eC (.int 50)) (eV 3)) aNil)) ρ).bind λds=>yn (ds++[])) (eV 0)))
  (nH (tF 2 (eV 3)) (tF 2 (eV 4)) (aCons (e2 eF (eV 2) (eV 4)) (aCons (e2 eF (eV 2) (eV 3)) aNil))))
def ui:List D->Option D:=mOf ["_law_many","_law_cell","_law_order","_law_k","_law_at"]
  (sSeq (sSet 2 (eN mj (aCons (eV 0) aNil)))
  (sSeq (sFor (λρ=>((aCons (eV 0) aNil) ρ).bind iL) (gV 3) um)
  (sRet (eV 2))))
theorem QO (T:Txt K mg a):cS P w K mg base fE 2 a.f_law_turned a.d_law_turned ["_law_many","_law_cell"] (hJ K a.ct [0,0] 0 ui):=by
 have cW:=uh (P:=P) (w:=w) (base:=base) T
 refine jV (ms:=[.ow 0,.ow 0,.ow 1,.ow 0,.ow 0]) T.law_turned.fn vv λ_ _ _ _ _ _ hr=>?_
 exact(ze (gI vv.nd (UJ rfl rfl T.b_list rfl T.b_range (zc (za 0 0) zf)))
  (ze (vo (wj (n:=0) T.b_range (zc (za 0 0) zf)) (kT vv.nd) (ze (gI vv.nd (XE.ow (xq (k:=0) xh xj (XO.sh (n:=0) (dL T.law_mixed cW hr (zc (za 1 0) (zc (XO.sh (n:=0) (m9 cO (za 3 0))) zf)))) (za 0 0))))
  (zg (UL rfl (LY 2 rfl (za 3 0)) (LY 2 rfl (za 4 0)) (zc (p7 (n:=1) jd je (za 2 1) (za 4 0) (λ_ _=>rfl)) (zc (p7 (n:=1) jd je (za 2 1) (za 3 0) (λ_ _=>rfl)) zf))))) cC.never rfl)
  (zg (xQ (i:=2) rfl))))
def vb:List D->Option D:=mOf ["_law_cell","_law_order","_law_many","_law_one","_law_other","_law_behind","_law_time_here"]
  (sSeq (sSet 2 (eN d5 (aCons (eV 1) aNil)))
  (sSeq (sSet 3 (e2 eO (λρ=>((aCons (eV 0) (aCons (eC (.int 1)) aNil)) ρ).bind λds=>yn (ds++[])) (eV 2)))
  (sSeq (sSet 4 (e2 eO (λρ=>((aCons (eV 0) (aCons (eC (.int 2)) aNil)) ρ).bind λds=>yn (ds++[])) (eV 2)))
  (sSeq (sSet 5 (e2 eF (λρ=>((aCons (eC (.int 0)) (aCons (eC (.int 0)) (aCons (eC (.int 0)) (aCons (eC (.int 1)) (aCons (eC (.int 1)) (aCons (eC (.int 2)) (aCons (eC (.int 3)) (aCons (eC (.int 4)) aNil)))))))) ρ).bind λds=>some (.lst ds)) (e2 eO (λρ=>((aCons (eV 0) (aCons (eC (.int 5)) aNil)) ρ).bind λds=>yn (ds++[])) (eC (.int 8)))))
  (sSeq (sIf (tb (e2 (eqD false) (eV 3) (eV 4))) (sSet 5 (eN iJ (aCons (eC (.int 1)) (aCons (eV 5) aNil)))) sSkip)
  (sSeq (sIf (tb (e2 (eqD false) (eV 5) (eC (.int 0)))) (sPar 3 4 (aCons (eN o7 (aCons (eV 3) (aCons (eV 4) aNil))) (aCons (eN iJ (aCons (eV 3) (aCons (eV 4) aNil))) aNil))) sSkip)
  (sSeq (sSet 6 (e2 eF (λρ=>((aCons (e2 eO (eV 0) (eC (.int 9))) (aCons (e2 eO (eV 0) (e2 sE (eC (.int 10)) (eC (.int 8)))) (aCons (eC (.int 0)) aNil))) ρ).bind λds=>some (.lst ds)) (e2 eO (λρ=>((aCons (eV 0) (aCons (eC (.int 3)) aNil)) ρ).bind λds=>yn (ds++[])) (eC (.int 3)))))
  (sRet (λρ=>((aCons (e2 eF (eV 1) (eV 3)) (aCons (e2 eF (eV 1) (eV 4)) (aCons (eV 6) (aCons (eV 5) aNil)))) ρ).bind λds=>some (.tup ds))))))))))
theorem Re (T:Txt K mg a):cS P w K mg base fE 2 a.f_law_part a.d_law_part ["_law_cell","_law_order"] (hJ K a.ct [0,0] 0 vb):=by
 have cW:=uh (P:=P) (w:=w) (base:=base) T
 refine jV (ms:=[.ow 0,.ow 0,.ow 0,.ow 0,.ow 0,.ow 0,.ow 0]) T.law_part.fn wd λ_ _ _ _ _ _ hr=>?_
 exact(ze (gI wd.nd (XE.ow (lF T.b_len (zc (za 1 0) zf))))
  (ze (gI wd.nd (XE.ow (xq (k:=0) xh xj (XO.sh (n:=0) (dL T.law_mixed cW hr (zc (za 0 0) (zc cO zf)))) (za 2 0))))
  (ze (gI wd.nd (XE.ow (xq (k:=0) xh xj (XO.sh (n:=0) (dL T.law_mixed cW hr (zc (za 0 0) (zc cO zf)))) (za 2 0))))
  (ze (gI wd.nd (XE.ow (lE (XO.sh (n:=0) (jm (k:=0) (zh (XE.ow cO) (zh (XE.ow cO) (zh (XE.ow cO) (zh (XE.ow cO) (zh (XE.ow cO) (zh (XE.ow cO) (zh (XE.ow cO) (zh (XE.ow cO) xi)))))))))) (xq (k:=0) xh xj (XO.sh (n:=0) (dL T.law_mixed cW hr (zc (za 0 0) (zc cO zf)))) cO))))
  (ze (wt (yg (k:=0) (wy hr.u64) wg (za 3 0) (za 4 0) (bL _)) (zg (gI wd.nd (XE.ow (vq (k:=0) (jh rfl) CB rfl T.b_max xV (zc cO (zc (za 5 0) zf)))))) yf)
  (ze (wt (yg (k:=0) (wy hr.u64) wg (za 5 0) cO (bL _)) (zg (Vf rfl rfl rfl wd.nd rfl rfl (by decide) rfl rfl (zc (vq (k:=0) (RK rfl) S2 rfl T.b_min VC (zc (za 3 0) (zc (za 4 0) zf))) (zc (vq (k:=0) (jh rfl) CB rfl T.b_max xV (zc (za 3 0) (zc (za 4 0) zf))) zf)) rfl)) yf)
  (ze (gI wd.nd (XE.ow (lE (XO.sh (n:=0) (jm (k:=0) (zh (XE.ow (xq (k:=0) xh xj (za 0 0) cO)) (zh (XE.ow (xq (k:=0) xh xj (za 0 0) (xq (k:=0) Vi Uj cO cO))) (zh (XE.ow cO) xi))))) (xq (k:=0) xh xj (XO.sh (n:=0) (dL T.law_mixed cW hr (zc (za 0 0) (zc cO zf)))) cO))))
  (zg (yk (mK (jl (zh (XE.ow (lE (za 1 0) (za 3 0))) (zh (XE.ow (lE (za 1 0) (za 4 0))) (zh (XE.ow (za 6 0)) (zh (XE.ow (za 5 0)) xi)))))))))))))))
def v9:List D->Option D:=mOf ["_law_part_here","_law_kind","_law_start","_law_goal","_law_time_here","_law_behind"]
  (sSeq (sAsg (gT (gsCons (gV 2) (gsCons (gV 3) (gsCons (gV 4) (gsCons (gV 5) gsNil))))) (eV 0))
  (sSeq (sIf (bAnd (tb (e2 (eqD false) (eV 5) (eC (.int 0)))) (tb (e2 rG (eV 1) (eC (.int 0))))) (sRet (λρ=>((aCons (eV 2) (aCons (eV 3) (aCons (eV 4) aNil))) ρ).bind λds=>u7 1 (ds++[]))) sSkip)
  (sSeq (sIf (bAnd (tb (e2 rG (eV 5) (eC (.int 0)))) (tb (e2 rG (eV 1) (eC (.int 0))))) (sRet (λρ=>((aCons (eV 2) (aCons (eV 3) (aCons (eV 4) (aCons (eV 5) aNil)))) ρ).bind λds=>ja 3 (ds++[]))) sSkip)
  (sRet (λρ=>((aCons (eV 2) (aCons (eV 3) (aCons (eV 4) (aCons (eV 5) aNil)))) ρ).bind λds=>u9 2 (ds++[]))))))
theorem QR (T:Txt K mg a):cS P w K mg base fE 4 a.f_law_arrow a.d_law_arrow ["_law_part_here","_law_kind"] (hJ K a.ct [0,0] 0 v9):=by
 have lN:=QD (P:=P) (w:=w) (base:=base) T
 have lM:=QF (P:=P) (w:=w) (base:=base) T
 have pZ:=T.Back___init_d1.choose_spec
 have lO:=QE (P:=P) (w:=w) (base:=base) T
 have p3:=T.Wait___init_d1.choose_spec
 refine jV (ms:=[.ow 0,.ow 0,.ow 0,.ow 0,.ow 0,.ow 0]) T.law_arrow.fn ve λ_ _ _ _ _ _ hr=>?_
 exact(ze (VP (za 0 0) (Ed (n:=0) rfl (wv (kT ve.nd) (wv (kT ve.nd) (wv (kT ve.nd) (wv (kT ve.nd) D4))))))
  (ze (wt (XW.t (xY (yg (k:=0) (wy hr.u64) wg (za 5 0) cO (bL _)) (CH (yg (k:=0) uB uA (za 1 0) cO (bL _))))) (zg (yk (mK (CK (c0:=1) (ky:=[]) (ns:=[0,0,0]) (nd:=[]) ⟨T.Ride.mks,T.Ride___init.me.at_,T.Ride___init.me.fn,T.Ride.kp⟩ (by decide) lN (hr.mono (by decide)) rfl T.Ride.mgx T.Ride___init.bd .nil (λ_ _=>.nil) (zc (za 2 0) (zc (za 3 0) (zc (za 4 0) zf))))))) yf)
  (ze (wt (XW.t (xY (yg (k:=0) uB uA (za 5 0) cO (bL _)) (CH (yg (k:=0) uB uA (za 1 0) cO (bL _))))) (zg (yk (mK (CK (c0:=3) (ky:=[]) (ns:=[0,0,0,0]) (nd:=[]) ⟨T.Back.mks,T.Back___init.me.at_,T.Back___init.me.fn,T.Back.kp⟩ (by decide) lM (hr.mono (by decide)) rfl T.Back.mgx T.Back___init.bd .nil (λ_ _=>.nil) (zc (za 2 0) (zc (za 3 0) (zc (za 4 0) (zc (za 5 0) zf)))))))) yf)
  (zg (yk (mK (CK (c0:=2) (ky:=[]) (ns:=[0,0,0,0]) (nd:=[]) ⟨T.Wait.mks,T.Wait___init.me.at_,T.Wait___init.me.fn,T.Wait.kp⟩ (by decide) lO (hr.mono (by decide)) rfl T.Wait.mgx T.Wait___init.bd .nil (λ_ _=>.nil) (zc (za 2 0) (zc (za 3 0) (zc (za 4 0) (zc (za 5 0) zf)))))))))))
def vg:EF:=(ee (lsD (eV 0)) 1 [2] (gV 0) (bAnd (tb (e2 (eqD false) (e2 eF (eV 0) (eC (.int 3))) (eC (.int 0)))) (tb (e2 (eqD false) (e2 eF (eV 0) (eC (.int 0))) (e2 eF (eV 1) (eC (.int 1)))))) (eV 0))
def vz:List D->Option D:=mOf ["_law_parts","_law_cell","_law_one","_law_less","_law_onward","_law_other"]
  (sSeq (sSet 2 (e2 eF (eV 0) (e2 eO (λρ=>((aCons (eV 1) (aCons (eC (.int 6)) aNil)) ρ).bind λds=>yn (ds++[])) (eN d5 (aCons (eV 0) aNil)))))
  (sSeq (sSet 3 (λρ=>((aCons (eV 1) (aCons (eC (.int 7)) aNil)) ρ).bind λds=>yn (ds++[])))
  (sSeq (sIf (tb (e2 (eqD false) (e2 eO (eV 1) (eC (.int 2))) (eC (.int 0)))) (sRet (e2 eX (λρ=>((eV 2) ρ).bind λd=>(pNo ρ).bind λl=>((pInt (eC (.int 2))) ρ).bind λh=>mT d l h) (λρ=>((aCons (eN iJ (aCons (eC (.int 0)) (aCons (e2 nI (e2 eF (eV 2) (eC (.int 2))) (e2 eO (eV 3) (eC (.int 7)))) aNil))) (aCons (e2 eF (eV 2) (eC (.int 3))) aNil)) ρ).bind λds=>some (.tup ds)))) sSkip)
  (sSeq (sSet 4 vg)
  (sSeq (sIf (tb (e2 (eqD false) (eV 4) (λρ=>(aNil ρ).bind λds=>some (.lst ds)))) (sRet (eV 2)) sSkip)
  (sSeq (sSet 5 (e2 eF (eV 4) (e2 eO (λρ=>((aCons (eV 1) (aCons (eC (.int 8)) aNil)) ρ).bind λds=>yn (ds++[])) (eN d5 (aCons (eV 4) aNil)))))
  (sRet (λρ=>((aCons (e2 eF (eV 2) (eC (.int 0))) (aCons (e2 eF (eV 5) (eC (.int 1))) (aCons (eN iJ (aCons (eC (.int 0)) (aCons (e2 nI (e2 eX (e2 eF (eV 2) (eC (.int 2))) (e2 eF (eV 5) (eC (.int 2)))) (e2 eO (eV 3) (eC (.int 3)))) aNil))) (aCons (e2 eF (eV 2) (eC (.int 3))) aNil)))) ρ).bind λds=>some (.tup ds)))))))))
theorem Rf (T:Txt K mg a):cS P w K mg base fE 2 a.f_law_more a.d_law_more ["_law_parts","_law_cell"] (hJ K a.ct [1,0] 0 vz):=by
 have cW:=uh (P:=P) (w:=w) (base:=base) T
 refine jV (ms:=[.al 1,.ow 0,.ow 0,.ow 0,.ow 0,.ow 0]) T.law_more.fn v3 λ_ _ _ _ _ _ hr=>?_
 exact(ze (gI v3.nd (XE.ow (p7 (n:=1) jd je (za 0 1) (xq (k:=0) xh xj (XO.sh (n:=0) (dL T.law_mixed cW hr (zc (za 1 0) (zc cO zf)))) (lF T.b_len (zc (za 0 1) zf))) (λ_ _=>rfl))))
  (ze (gI v3.nd (dL T.law_mixed cW hr (zc (za 1 0) (zc cO zf))))
  (ze (wt (yg (k:=0) (wy hr.u64) wg (xq (k:=0) xh xj (za 1 0) cO) cO (bL _)) (zg (yk (mK (m9 (XO.sh (n:=0) (Si (n:=0) (by decide) (za 2 0) HW (qh cO))) (XO.sh (n:=0) (jl (zh (XE.ow (vq (k:=0) (jh rfl) CB rfl T.b_max xV (zc cO (zc (xq (k:=0) xT xO (lE (za 2 0) cO) (xq (k:=0) xh xj (za 3 0) cO)) zf)))) (zh (XE.ow (lE (za 2 0) cO)) xi)))))))) yf)
  (ze (wu (k:=0) (N:=["_law_part_here","_law_one"]) (om:=[.ow 0]) (cap:=[2]) (own:=1) rfl v3.nd rfl (Or.inl rfl) (sR (by rfl)) rfl rfl (by decide) (jy (n:=1) (za 0 1)) (λ_ _ _ _ _=>(nc (show cz (["_law_part_here","_law_one"]:List aR)from by decide +kernel))) (λ_ _ _ _ _=>(D5 (XW.t (xY (yg (k:=0) (wy hr.u64) wg (lE (za 0 0) cO) cO (bL _)) (CH (yg (k:=0) (wy hr.u64) wg (lE (za 0 0) cO) (lE (za 1 0) cO) (bL _))))))) (λ_ _ _ _ _=>(XE.ow (za 0 0))))
  (ze (wt (yg (k:=0) (wy hr.u64) wg (za 4 0) (XO.sh (n:=0) (jm (k:=0) xi)) (bL _)) (zg (yk (XE.ow (za 2 0)))) yf)
  (ze (gI v3.nd (XE.ow (lE (za 4 0) (xq (k:=0) xh xj (XO.sh (n:=0) (dL T.law_mixed cW hr (zc (za 1 0) (zc cO zf)))) (lF T.b_len (zc (za 4 0) zf))))))
  (zg (yk (mK (jl (zh (XE.ow (lE (za 2 0) cO)) (zh (XE.ow (lE (za 5 0) cO)) (zh (XE.ow (vq (k:=0) (jh rfl) CB rfl T.b_max xV (zc cO (zc (xq (k:=0) xT xO (XO.sh (n:=0) (m9 (lE (za 2 0) cO) (lE (za 5 0) cO))) (xq (k:=0) xh xj (za 3 0) cO)) zf)))) (zh (XE.ow (lE (za 2 0) cO)) xi))))))))))))))
def vc:List D->Option D:=mOf ["_law_cell","_law_k","_law_number"]
  (sSeq (sSet 2 (λρ=>((aCons (eV 0) (aCons (eV 1) aNil)) ρ).bind λds=>yn (ds++[])))
  (sSeq (sIf (tb (e2 (eqD false) (e2 eO (eV 2) (eC (.int 4))) (eC (.int 0)))) (sRet (eC .non)) sSkip)
  (sRet (e2 nI (e2 eO (e2 iI (eV 2) (eC (.int 4))) (eC (.int 2000001))) (eC (.int 1000000))))))
theorem Rg (T:Txt K mg a):cS P w K mg base fE 2 a.f_law_time a.d_law_time ["_law_cell","_law_k"] (hJ K a.ct [0,0] 0 vc):=by
 have cW:=uh (P:=P) (w:=w) (base:=base) T
 refine jV (ms:=[.ow 0,.ow 0,.ow 0]) T.law_time.fn Kg λ_ _ _ _ _ _ hr=>?_
 exact(ze (gI Kg.nd (dL T.law_mixed cW hr (zc (za 0 0) (zc (za 1 0) zf))))
  (ze (wt (yg (k:=0) (wy hr.u64) wg (xq (k:=0) xh xj (za 2 0) cO) cO (bL _)) (zg (yk (XE.ow p6))) yf)
  (zg (yk (XE.ow (xq (k:=0) xT xO (xq (k:=0) xh xj (xq (k:=0) qr q0 (za 2 0) cO) cO) cO))))))
def UM:EF:=(ee (λρ=>((aCons (eV 1) aNil) ρ).bind iL) 1 [2,0] (gV 0) gh (λρ=>((aCons (eV 1) (aCons (e2 eX (e2 hV (eC (.int 10)) (eV 2)) (eV 0)) aNil)) ρ).bind λds=>vc (ds++[])))
def Hx:EF:=(ee (λρ=>((aCons (eC (.int 4)) aNil) ρ).bind iL) 1 [2,10] (gV 0) gh UM)
def jv:SF:=(sIf (tb (e2 (qS true) (λρ=>((aCons (e2 eF (eV 9) (eC (.int 0))) (aCons (e2 eF (eV 9) (eC (.int 1))) aNil)) ρ).bind λds=>CC (ds++[])) (eC .non))) (sRet (eC (.bl false))) sSkip)
def Hy:EF:=(ee (λρ=>((aCons (eN d5 (aCons (eV 5) aNil)) aNil) ρ).bind iL) 1 [5,1] (gV 0) gh (λρ=>((aCons (e2 eF (eV 1) (eV 0)) (aCons (e2 eO (e2 eX (eV 0) (eV 2)) (eC (.int 2))) aNil)) ρ).bind λds=>v9 (ds++[])))
def Hz:EF:=(ee (lsD (eV 7)) 1 [] (gV 0) gh (e2 eX (eV 0) (eC (.str "9"))))
def HA:EF:=(ee (lsD (eV 4)) 1 [] (gV 0) gh (λρ=>((aCons (eV 0) (aCons (eC (.int 1)) aNil)) ρ).bind λds=>v9 (ds++[])))
def HB:EF:=(ee (λρ=>((aCons (eV 2) aNil) ρ).bind iL) 1 [] (gV 0) gh (e2 eF (eC (.str "abcdef")) (eV 0)))
def xR:SF:=(sIf (tb (e2 (eqD true) (eV 5) (λρ=>(aNil ρ).bind λds=>some (.lst ds)))) (sApp 5 (λρ=>((aCons (eV 5) (aCons (eV 6) aNil)) ρ).bind λds=>vz (ds++[]))) sSkip)
def HC:EF:=(ee (lsD (λρ=>((eV 0) ρ).bind λd=>((pInt (eC (.int 2))) ρ).bind λl=>((pInt (eC (.int 10))) ρ).bind λh=>gB d l h)) 1 [3] (gV 0) gh (λρ=>((aCons (eV 0) (aCons (eV 1) aNil)) ρ).bind λds=>vb (ds++[])))
def HX:List D->Option D:=mOf ["_law_script","_law_cell","_law_many","_law_order","_law_parts","_law_wide","_law_one","_law_names","_law_other","_law_pair","_law_near","_law_was"]
  (sSeq (sSet 1 (λρ=>((aCons (eV 0) (aCons (eC (.int 0)) aNil)) ρ).bind λds=>wx (ds++[])))
  (sSeq (sSet 2 (e2 eX (eC (.int 1)) (e2 eO (eV 1) (eC (.int 6)))))
  (sSeq (sSet 3 (λρ=>((aCons (eV 2) (aCons (e2 iI (eV 1) (eC (.int 6))) aNil)) ρ).bind λds=>ui (ds++[])))
  (sSeq (sSet 4 HC)
  (sSeq (sSet 5 (eN jR (aCons (eV 4) aNil)))
  (sSeq (sFor (lsD (λρ=>((eV 0) ρ).bind λd=>((pInt (eC (.int 10))) ρ).bind λl=>((pInt (eC (.int 16))) ρ).bind λh=>gB d l h)) (gV 6) xR)
  (sSeq (sIf (tb (e2 (eqD false) (e2 eO (e2 iI (eV 1) (eC (.int 42))) (eC (.int 2))) (eC (.int 1)))) (sSet 5 (λρ=>((lsD (eV 5)) ρ).bind λds=>some (.lst ds.reverse))) sSkip)
  (sSeq (sSet 7 HB)
  (sSeq (sSet 6 (λρ=>((aCons (eV 7) (aCons HA aNil)) ρ).bind λds=>vf 4 (ds++[])))
  (sSeq (sSet 8 (λρ=>((aCons Hz (aCons Hy aNil)) ρ).bind λds=>vf 4 (ds++[])))
  (sSeq (sFor (lsD (λρ=>((aCons (λρ=>((aCons (eV 6) (aCons (eV 8) aNil)) ρ).bind λds=>some (.tup ds)) (aCons (λρ=>((aCons (eV 8) (aCons (eV 6) aNil)) ρ).bind λds=>some (.tup ds)) (aCons (λρ=>((aCons (eV 6) (aCons (eV 6) aNil)) ρ).bind λds=>some (.tup ds)) (aCons (λρ=>((aCons (eV 8) (aCons (eV 8) aNil)) ρ).bind λds=>some (.tup ds)) aNil)))) ρ).bind λds=>some (.lst ds))) (gV 9) jv)
  (sSeq (sSet 10 (λρ=>((aCons (eV 0) (aCons (eC (.int 1)) aNil)) ρ).bind λds=>wx (ds++[])))
  (sSeq (sSet 11 Hx)
  (sRet (eB (bAnd (tb (e2 sf (λρ=>((aCons (eV 6) aNil) ρ).bind λds=>vn (ds++[])) (λρ=>((aCons (eV 8) aNil) ρ).bind λds=>vn (ds++[])))) (tb (e2 (eqD false) (λρ=>((aCons (eV 6) (aCons (eC (.int 5)) (aCons (eV 11) aNil))) ρ).bind λds=>xC (ds++[.non])) (λρ=>((aCons (eV 8) (aCons (eC (.int 5)) (aCons (eV 11) aNil))) ρ).bind λds=>xC (ds++[.non]))))))))))))))))))))
theorem V5 (T:Txt K mg a):cS P w K mg base fE 6 a.f_law a.d_law ["_law_script"] (hJ K a.ct [0] 0 HX):=by
 have i6:=QH (P:=P) (w:=w) (base:=base) T
 have mE:=QO (P:=P) (w:=w) (base:=base) T
 have oo:=Re (P:=P) (w:=w) (base:=base) T
 have oj:=Rf (P:=P) (w:=w) (base:=base) T
 have jP:=QM (P:=P) (w:=w) (base:=base) T
 have kx:=QR (P:=P) (w:=w) (base:=base) T
 have qA:=Sl (P:=P) (w:=w) (base:=base) T
 have oq:=Rg (P:=P) (w:=w) (base:=base) T
 have jQ:=Ll (P:=P) (w:=w) (base:=base) T
 have tf:=V4 (P:=P) (w:=w) (base:=base) T
 have kM:=T.run_d1.choose_spec
 have CV:=T.run_d2.choose_spec
 refine jV (ms:=[.ow 0,.ow 0,.ow 0,.ow 0,.ow 0,.ow 1,.ow 0,.ow 0,.ow 0,.ow 0,.ow 0,.ow 0]) T.law.fn ue λ_ _ _ _ _ _ hr=>?_
 exact(ze (gI ue.nd (dL T.law_cell_at i6 hr (zc (za 0 0) (zc cO zf))))
  (ze (gI ue.nd (mK (m9 cO (xq (k:=0) xh xj (za 1 0) cO))))
  (ze (gI ue.nd (dL T.law_turned mE hr (zc (za 2 0) (zc (xq (k:=0) qr q0 (za 1 0) cO) zf))))
  (ze (wu (k:=0) (N:=["_law_one","_law_order"]) (om:=[.ow 0]) (cap:=[3]) (own:=1) rfl ue.nd rfl (Or.inl rfl) (sR (by rfl)) rfl rfl (by decide) (jy (n:=0) (XO.sh (n:=0) (DV (n:=0) (by decide) (za 0 0) (qh cO) (qh cO)))) (λ_ _ _ _ _=>(nc (show cz (["_law_one","_law_order"]:List aR)from by decide +kernel))) (λ_ _ _ _ _=>wz) (λ_ _ _ _ _=>(dL T.law_part oo hr (zc (za 0 0) (zc (za 1 0) zf)))))
  (ze (gI ue.nd (ur ua (DU (n:=0) (by decide)) rfl T.b_list ji (zc (za 4 0) zf)))
  (ze (vo (vh (XO.sh (n:=0) (DV (n:=0) (by decide) (za 0 0) (qh cO) (qh cO)))) (kT ue.nd) (zg (wt (yg (k:=0) (HJ hr.u64) wg (za 5 1) (XO.sh (n:=0) (jm (k:=0) xi)) (bL _)) (zg (Ha 5 rfl (dL T.law_more oj hr (zc (za 5 1) (zc (za 6 0) zf))))) yf)) cC.never rfl)
  (ze (wt (yg (k:=0) (wy hr.u64) wg (xq (k:=0) xh xj (xq (k:=0) qr q0 (za 1 0) cO) cO) cO (bL _)) (zg (gI ue.nd (VZ (n:=1) (by decide) (za 5 1) (HI (k:=0) cO)))) yf)
  (ze (wu (k:=0) (N:=["_law_k"]) (om:=[.ow 0]) (cap:=[]) (own:=1) rfl ue.nd rfl (Or.inl rfl) (sR (by rfl)) rfl rfl (by decide) (XI.cc (wj (n:=0) T.b_range (zc (za 2 0) zf))) (λ_ _ _ _ _=>(nc (show cz (["_law_k"]:List aR)from by decide +kernel))) (λ_ _ _ _ _=>wz) (λ_ _ _ _ _=>(XE.ow (lE (xW (n:=0)) (za 0 0)))))
  (ze (gI ue.nd (mK (CK (c0:=4) (ky:=[]) (ns:=[0,0]) (nd:=[]) ⟨T.Net.mks,T.Net___init.me.at_,T.Net___init.me.fn,T.Net.kp⟩ (by decide) jP (hr.mono (by decide)) rfl T.Net.mgx T.Net___init.bd .nil (λ_ _=>.nil) (zc (za 7 0) (zc (XO.sh (n:=0) (sT (N:=["_law_part_here"]) (om:=[.ow 0]) (cap:=[]) (own:=1) (jy (n:=0) (za 4 0)) (λ_ _ _ _ _=>(nc (show cz (["_law_part_here"]:List aR)from by decide +kernel))) (λ_ _ _ _ _=>wz) (λ_ _ _ _ _=>(dL T.law_arrow kx hr (zc (za 0 0) (zc cO zf)))))) zf)))))
  (ze (gI ue.nd (mK (CK (c0:=4) (ky:=[]) (ns:=[0,0]) (nd:=[]) ⟨T.Net.mks,T.Net___init.me.at_,T.Net___init.me.fn,T.Net.kp⟩ (by decide) jP (hr.mono (by decide)) rfl T.Net.mgx T.Net___init.bd .nil (λ_ _=>.nil) (zc (XO.sh (n:=0) (sT (N:=["_law_name"]) (om:=[.ow 0]) (cap:=[]) (own:=1) (jy (n:=0) (za 7 0)) (λ_ _ _ _ _=>(nc (show cz (["_law_name"]:List aR)from by decide +kernel))) (λ_ _ _ _ _=>wz) (λ_ _ _ _ _=>(mK (m9 (za 0 0) (xW (n:=0))))))) (zc (XO.sh (n:=0) (sT (N:=["_law_k","_law_wide","_law_cell"]) (om:=[.ow 0]) (cap:=[5,1]) (own:=1) (XI.cc (wj (n:=0) T.b_range (zc (lF T.b_len (zc (za 5 1) zf)) zf))) (λ_ _ _ _ _=>(nc (show cz (["_law_k","_law_wide","_law_cell"]:List aR)from by decide +kernel))) (λ_ _ _ _ _=>wz) (λ_ _ _ _ _=>(dL T.law_arrow kx hr (zc (p7 (n:=1) jd je (za 1 1) (za 0 0) (λ_ _=>rfl)) (zc (xq (k:=0) xh xj (XO.sh (n:=0) (m9 (za 0 0) (za 2 0))) cO) zf)))))) zf)))))
  (ze (vo (vh (XO.sh (n:=0) (jm (k:=0) (zh (mK (jl (zh (XE.ow (za 6 0)) (zh (XE.ow (za 8 0)) xi)))) (zh (mK (jl (zh (XE.ow (za 8 0)) (zh (XE.ow (za 6 0)) xi)))) (zh (mK (jl (zh (XE.ow (za 6 0)) (zh (XE.ow (za 6 0)) xi)))) (zh (mK (jl (zh (XE.ow (za 8 0)) (zh (XE.ow (za 8 0)) xi)))) xi))))))) (kT ue.nd) (zg (wt (yg (k:=0) Le KW (XO.sh (n:=0) (dL T.parted qA hr (zc (lE (za 9 0) cO) (zc (lE (za 9 0) cO) zf)))) p6 (bL _)) (zg (yk (XE.ow (uC (n:=0))))) yf)) cC.never rfl)
  (ze (gI ue.nd (dL T.law_cell_at i6 hr (zc (za 0 0) (zc cO zf))))
  (ze (wu (k:=0) (N:=["_law_row","_law_many","_law_near"]) (om:=[.ow 0]) (cap:=[2,10]) (own:=1) rfl ue.nd rfl (Or.inl rfl) (sR (by rfl)) rfl rfl (by decide) (XI.cc (wj (n:=0) T.b_range (zc cO zf))) (λ_ _ _ _ _=>(nc (show cz (["_law_row","_law_many","_law_near"]:List aR)from by decide +kernel))) (λ_ _ _ _ _=>wz) (λ_ _ _ _ _=>(mK (sT (N:=["_law_going","_law_near","_law_row"]) (om:=[.ow 0]) (cap:=[2,0]) (own:=1) (XI.cc (wj (n:=0) T.b_range (zc (za 1 0) zf))) (λ_ _ _ _ _=>(nc (show cz (["_law_going","_law_near","_law_row"]:List aR)from by decide +kernel))) (λ_ _ _ _ _=>wz) (λ_ _ _ _ _=>(dL T.law_time oq hr (zc (za 1 0) (zc (XO.sh (n:=0) (m9 (xq (k:=0) qf u4 cO (za 2 0)) (za 0 0))) zf))))))))
  (zg (yk (XE.ow (xZ (t8 (k:=0) (Ue hr.u64) Tc (XO.sh (n:=0) (dL T.steps jQ hr (zc (za 6 0) zf))) (XO.sh (n:=0) (dL T.steps jQ hr (zc (za 8 0) zf))) (bL _)) (xB (k:=0) (t8 (k:=0) (wy hr.u64) wg (XO.sh (n:=0) (Ht (ky:=[.non]) (ns:=[0,0,0]) (nd:=[0]) tf (hr.mono (by decide)) rfl T.run.mgx T.run.fn.kp (kM).2.2 (kM).2.1 (λ_ _=>(.cons (Al.of .non) .nil)) (zc (za 6 0) (zc cO (zc (za 11 0) zf))))) (XO.sh (n:=0) (Ht (ky:=[.non]) (ns:=[0,0,0]) (nd:=[0]) tf (hr.mono (by decide)) rfl T.run.mgx T.run.fn.kp (kM).2.2 (kM).2.1 (λ_ _=>(.cons (Al.of .non) .nil)) (zc (za 8 0) (zc cO (zc (za 11 0) zf))))) (bL _))))))))))))))))))))
end
local macro_rules| `(tactic|walk_at "mir")=>`(tactic|simp -implicitDefEqProofs [mOf,startD,sSeq,sIf,sSet,sRet,sRetN,sDrop,sPar,sAsg,sApp,sFor,lsD,zn3,sSkip,eV,eC,e1,e2,eN,aNil,aCons,pNo,pInt,jz,tb,zqd,bNot,bAnd,bOr,eB,eIf,gV,gT,gsCons,gsNil,zk1,zk3,zny,znz,zn0,zn1,u5,zk5,zk4,zk6,zn2,zqc,D.isN,D.isB,zn5,zqe,zi6,zac,zcv,zmc,zkz,zk0,zgj,jz,jo,zeo,sFz,zli,zlj, *])
def jX (n:Nat)(f:Nat->Int):List D:=(az n).map λg=>D.int (f g)
theorem UN (n:Nat)(f:Nat->Int):(jX n f).length=n:=by simp[jX]
theorem HQ {n:Nat}(f:Nat->Int){g:Nat}(h:g<n):atI (jX n f) (g:Int)=some (.int (f g)):=by
 refine uj ?_
 simp[jX,h]
theorem UO {n:Nat}(f:Nat->Int){g:Nat}(h:g<n)(v:Int):iM (jX n f) (g:Int) (.int v)=some (jX n λx=>if x=g then v else f x):=by
 unfold iM
 have hx:ixN (jX n f).length (g:Int)=some g:=by
  unfold ixN
  rw[UN]
  rw[if_pos (by omega),if_pos (by omega)]
  simp
 rw[hx]
 simp only[bM,Option.some.injEq]
 apply eJ
 ·simp[jX]
 ·intro i h1 h2
  simp[jX,kC]
  by_cases hi:g=i
  ·subst hi;simp
  ·rw[if_neg hi,if_neg (λz=>hi z.symm)]
theorem L0 {i:Nat}{fj f:EF}{gi:Int->Int->Int}{ρ:L3.Env}{n g:Nat}{w:Nat->Int}{y:Int}(h1:(ρ[i]?).join=some (.lst (jX n w)))(h2:fj ρ=some (.int (g:Int)))(h3:f ρ=some (.int y))(hg:g<n) :
  nG i fj gi f ρ=some (.nx (ρ.set i (some (.lst (jX n λx=>if x=g then gi (w g) y else w x))))):=by
 unfold nG
 have:eV i ρ=some (.lst (jX n w)):=h1
 rw[this,h2,h3]
 simp only[bM,HQ w hg,UO w hg]
def bv (p:List Nat):List D:=p.map λ(x:Nat)=>D.int (x:Int)
theorem t6 {f:EF}{r:L3.Env}{n:Nat}(h:f r=some (.int (n:Int)))(hn:n<=1000000):((aCons f aNil) r).bind iL=some ((az n).map λ(t:Nat)=>D.int (t:Int)):=by
 have e:(aCons f aNil) r=some [.int (n:Int)]:=by unfold aCons;rw[h];rfl
 rw[e,bM,Hj (by omega) (by omega)]
 unfold gP
 simp
theorem CF {α:Type}{fi:L3.Env->Option (List D)}{own:Nat}{cap:List Nat}{g:D->L3.Env->Option L3.Env}{p:BF}{f:EF}{r:L3.Env}(enc:α->D)(q:α->Bool)(h:α->D)(xs:List α)(hi:fi r=some (xs.map enc))(hl:xs.length<=16777216)
  (st:∀x∈xs,∃ρ1,g (enc x) (aG own none++gx r cap)=some ρ1/\p ρ1=some (q x)/\(q x=true->f ρ1=some (h x))):ee fi own cap g p f r=some (.lst ((xs.filter q).map h)):=by
 unfold ee
 rw[hi]
 simp only[bM,aD]
 rw[if_pos hl,K2 enc q h xs st]
 rfl
theorem L1 {n i:Nat}(h:i<n):ixN n (i:Int)=some i:=by
 unfold ixN
 rw[if_pos (by omega),if_pos (by omega)]
 simp
theorem wq {α:Type}{fi:L3.Env->Option (List D)}{own:Nat}{cap:List Nat}{g:D->L3.Env->Option L3.Env}{f:EF}{r:L3.Env}(enc:α->D)(h:α->D)(xs:List α)(hi:fi r=some (xs.map enc))(hl:xs.length<=16777216)
  (st:∀x∈xs,∃ρ1,g (enc x) (aG own none++gx r cap)=some ρ1/\f ρ1=some (h x)):ee fi own cap g gh f r=some (.lst (xs.map h)):=by
 have:=CF (p:=gh) enc (λ_=>true) h xs hi hl λx hx=>by
  obtain⟨ρ1,h1,h2⟩:=st x hx
  exact⟨ρ1,h1,rfl,λ_=>h2⟩
 rw[this,List.filter_eq_self.mpr λ_ _=>rfl]
theorem Hk {α:Type}(enc:α->D):∀(as:List α) (k:Nat),eM k (as.map enc)=(as.zipIdx k).map λ(p:α×Nat)=>D.tup [.int (p.2:Int),enc p.1]
 |[],_=>rfl
 |a::as,k=>by
  show _::eM (k+1) (as.map enc)=_::_
  rw[Hk enc as (k+1)]
theorem V6 {α:Type}{as:List α}{p:α×Nat}(h:p∈as.zipIdx):as[p.2]?=some p.1:=List.mem_zipIdx_iff_getElem?.mp h
theorem Kr {α:Type}(q:α->Bool):∀(as:List α) (k:Nat),((as.zipIdx k).filter λp=>q p.1).map (·.1)=as.filter q
 |[],_=>rfl
 |a::as,k=>by
  rw[List.zipIdx_cons,gY,gY]
  cases h:q a<;>simp[h,Kr q as (k+1)]
inductive Kd where
 |ride|wait|back
deriving DecidableEq
structure cB where
 c:Kd
 s:Nat
 g:Nat
 t:Int
 b:Nat
deriving DecidableEq
namespace Kahn
def cnt (W:List cB)(P:List Nat)(g:Nat):Nat:=W.countP λa=>decide (a.g=g/\a.s∉P)
structure Ok (W:List cB)(many:Nat)(p:List Nat):Prop where
 nd:p.Nodup
 lt:∀x∈p,x<many
 ord:∀(i x:Nat),p[i]?=some x->∀a∈W,a.g=x->a.s∈p.take i
theorem Ok.snoc {W:List cB}{many:Nat}{p:List Nat}{x:Nat}(h:Ok W many p)(hx:x∉p)(hl:x<many)(ho:∀a∈W,a.g=x->a.s∈p):Ok W many (p++[x]) where
 nd:=by
  rw[bu]
  exact⟨h.nd,by simp,λa ha b hb e=>by simp at hb;subst hb;subst e;exact hx ha⟩
 lt:=λy hy=>by
  rcases aU.mp hy with hy|hy
  ·exact h.lt y hy
  ·simp at hy;subst hy;exact hl
 ord:=λi y hy a ha e=>by
  by_cases hi:i<p.length
  ·rw[cy hi]at hy
   rw[fX (by omega)]
   exact h.ord i y hy a ha e
  ·rw[cR (by omega)]at hy
   have lQ:i-p.length=0:=by
    cases hq:i-p.length with
    |zero=>rfl
    |succ k=>rw[hq]at hy;simp at hy
   rw[lQ]at hy
   simp at hy
   subst hy
   have:i=p.length:=by omega
   rw[this,rA]
   ·exact ho a ha e
   ·rfl
def stp (here:Nat)(S:(Nat->Int)×List Nat)(a:cB):(Nat->Int)×List Nat :=
 if a.s=here then
  let f':Nat->Int:=λx=>if x=a.g then S.1 a.g-1 else S.1 x
  (f',if f' a.g=0 then S.2++[a.g]else S.2)
 else S
structure In (W:List cB)(many:Nat)(P:List Nat)(here:Nat)(pre:List cB)(S:(Nat->Int)×List Nat):Prop where
 ok:Ok W many S.2
 f:∀g,S.1 g=(cnt W P g:Int)-(pre.countP λa=>decide (a.g=g/\a.s=here):Nat)
 z:∀g,g<many->(g∈S.2↔S.1 g=0)
 sub:∀x,(x∈P\/x=here)->x∈S.2
theorem V7 {W pre post:List cB}{P:List Nat}{here:Nat}{a:cB}(e:W=pre++a::post)(hP:here∉P)(ha:a.s=here):(pre.countP λx=>decide (x.g=a.g/\x.s=here))+1<=cnt W P a.g:=by
 unfold cnt
 rw[e,gC,fO]
 have h1:(pre.countP λx=>decide (x.g=a.g/\x.s=here))<=pre.countP λx=>decide (x.g=a.g/\x.s∉P):=by
  apply List.countP_mono_left
  intro x _ hx
  simp at hx ⊢
  exact⟨hx.1,by rw[hx.2];exact hP⟩
 have h2:(decide (a.g=a.g/\a.s∉P))=true:=by simp[ha,hP]
 rw[h2]
 simp only[if_true]
 omega
theorem In.step {W pre post:List cB}{many:Nat}{P:List Nat}{here:Nat}{a:cB}{S:(Nat->Int)×List Nat}(h:In W many P here pre S)(e:W=pre++a::post)(hP:here∉P)(hl:a.g<many):In W many P here (pre++[a]) (stp here S a):=by
 by_cases ha:a.s=here
 ·have N3:=V7 e hP ha
  have hf:∀g,(if g=a.g then S.1 a.g-1 else S.1 g)=(cnt W P g:Int)-((pre++[a]).countP λx=>decide (x.g=g/\x.s=here):Nat):=λg=>by
   rw[gC,nL]
   by_cases hg:g=a.g
   ·subst hg
    rw[if_pos rfl,h.f]
    have:decide (a.g=a.g/\a.s=here)=true:=by simp[ha]
    rw[this]
    simp only[if_true]
    omega
   ·rw[if_neg hg,h.f]
    have:decide (a.g=g/\a.s=here)=false:=by simp;intro z;exact absurd z.symm hg
    rw[this]
    simp
  have iY:S.1 a.g≠0:=by rw[h.f];omega
  have AU:a.g∉S.2:=λz=>iY ((h.z a.g hl).mp z)
  by_cases h0:S.1 a.g-1=0
  ·have es:stp here S a=(λx=>if x=a.g then S.1 a.g-1 else S.1 x,S.2++[a.g]):=by unfold stp;simp[ha,h0]
   rw[es]
   refine⟨h.ok.snoc AU hl λb hb eb=>?_,hf,λg hg=>?_,λx hx=>aO _ (h.sub x hx)⟩
   ·
    refine h.sub _ (Classical.byContradiction λhc=>?_)
    have IZ:b.s∉P:=λz=>hc (.inl z)
    have tI:b.s≠here:=λz=>hc (.inr z)
    have h1:cnt W P a.g=(pre.countP λx=>decide (x.g=a.g/\x.s=here))+1:=by
     have:=h.f a.g
     omega
    have h2:(W.countP λx=>decide (x.g=a.g/\x.s=here))+(W.countP λx=>decide (x.g=a.g/\x.s∉P/\x.s≠here))<=cnt W P a.g:=by
     have:cnt W P a.g=(W.countP λx=>decide (x.g=a.g/\x.s=here))+(W.countP λx=>decide (x.g=a.g/\x.s∉P/\x.s≠here)):=by
      unfold cnt
      clear h1 hc IZ tI eb hb h0 hf N3 e h
      induction W with
      |nil=>rfl
      |cons x W ih=>
       simp only[fO]
       rw[ih]
       by_cases q1:x.g=a.g<;>by_cases q2:x.s=here<;>by_cases q3:x.s∈P<;>simp_all<;>omega
     omega
    have h3:(pre.countP λx=>decide (x.g=a.g/\x.s=here))+1<=W.countP λx=>decide (x.g=a.g/\x.s=here):=by
     rw[e,gC,fO]
     have:decide (a.g=a.g/\a.s=here)=true:=by simp[ha]
     rw[this]
     simp only[if_true]
     omega
    have h4:0<W.countP λx=>decide (x.g=a.g/\x.s∉P/\x.s≠here):=by
     rw[List.countP_pos_iff]
     exact⟨b,hb,by simp[eb,IZ,tI]⟩
    omega
   ·rw[aU,aJ]
    by_cases o6:g=a.g
    ·subst o6;simp[h0]
    ·dsimp only;rw[if_neg o6,h.z g hg];simp[o6]
  ·have es:stp here S a=(λx=>if x=a.g then S.1 a.g-1 else S.1 x,S.2):=by unfold stp;simp[ha,h0]
   rw[es]
   refine⟨h.ok,hf,λg hg=>?_,h.sub⟩
   by_cases o6:g=a.g
   ·subst o6
    dsimp only
    rw[if_pos rfl]
    exact⟨λz=>absurd z AU,λz=>absurd z h0⟩
   ·dsimp only;rw[if_neg o6];exact h.z g hg
 ·have:stp here S a=S:=by unfold stp;rw[if_neg ha]
  rw[this]
  refine⟨h.ok,λg=>?_,h.z,h.sub⟩
  rw[gC,nL]
  have:decide (a.g=g/\a.s=here)=false:=by simp[ha]
  rw[this,h.f]
  simp
theorem In.fold {W:List cB}{many:Nat}{P:List Nat}{here:Nat}(hP:here∉P)(hl:∀a∈W,a.g<many):∀(post pre:List cB) (S:(Nat->Int)×List Nat),W=pre++post->In W many P here pre S->In W many P here W (post.foldl (stp here) S)
 |[],pre,S,e,h=>by rw[e] ;simpa using(by rw[bV]at e;subst e;exact h)
 |a::post,pre,S,e,h=>by
  have:=In.fold hP hl post (pre++[a]) (stp here S a) (by rw[e];simp) (h.step e hP (hl a (by rw[e];simp)))
  exact this
theorem Te {W:List cB}{P:List Nat}{here g:Nat}(hP:here∉P):(cnt W P g:Int)-(W.countP λa=>decide (a.g=g/\a.s=here):Nat)=cnt W (P++[here]) g:=by
 have:cnt W P g=(W.countP λa=>decide (a.g=g/\a.s=here))+cnt W (P++[here]) g:=by
  unfold cnt
  induction W with
  |nil=>rfl
  |cons x W ih=>
   simp only[fO]
   rw[ih]
   by_cases q1:x.g=g<;>by_cases q2:x.s=here<;>by_cases q3:x.s∈P<;>simp_all<;>omega
 omega
structure Wh (W:List cB)(many:Nat)(f:Nat->Int)(p:List Nat)(d:Nat):Prop where
 ok:Ok W many p
 dl:d<=p.length
 fe:∀g,f g=cnt W (p.take d) g
 z:∀g,g<many->(g∈p↔f g=0)
theorem Wh.step {W:List cB}{many:Nat}{f:Nat->Int}{p:List Nat}{d here:Nat}(h:Wh W many f p d)(hl:∀a∈W,a.g<many)(hh:p[d]?=some here) :
  Wh W many (W.foldl (stp here) (f,p)).1 (W.foldl (stp here) (f,p)).2 (d+1)/\∃q,(W.foldl (stp here) (f,p)).2=p++q:=by
 have hd:d<p.length:=(aC.mp hh).1
 have hP:here∉p.take d:=λz=>by
  obtain⟨i,hi,e⟩:=bB.mp z
  have lQ:i<d:=by rw[dD]at hi;omega
  rw[pT]at e
  have e2:p[d]=here:=by have:=aC.mp hh;exact this.2
  have:=(eK (xs:=p) (h₀:=by omega) (h₁:=hd) h.ok.nd).mp (e.trans e2.symm)
  omega
 have FJ:∀(l:List cB) (S:(Nat->Int)×List Nat),∃q,(l.foldl (stp here) S).2=S.2++q:=by
  intro l
  induction l with
  |nil=>exactλS=>⟨[],by simp⟩
  |cons a l ih=>
   intro S
   obtain⟨q,hq⟩:=ih (stp here S a)
   have:∃r,(stp here S a).2=S.2++r:=by
    by_cases ha:a.s=here
    ·by_cases h0:S.1 a.g-1=0
     ·exact⟨[a.g],by unfold stp;simp[ha,h0]⟩
     ·exact⟨[],by unfold stp;simp[ha,h0]⟩
    ·exact⟨[],by unfold stp;simp[ha]⟩
   obtain⟨r,hr⟩:=this
   exact⟨r++q,by rw[dP,hq,hr,gJ]⟩
 obtain⟨q,hq⟩:=FJ W (f,p)
 have I:=In.fold hP hl W [] (f,p) rfl ⟨h.ok,λg=>by show f g=_;rw[h.fe];simp,h.z,λx hx=>by
  rcases hx with hx|rfl
  ·exact iU hx
  ·exact bI.mpr ⟨d,hh⟩⟩
 have md:(W.foldl (stp here) (f,p)).2.take (d+1)=p.take d++[here]:=by
  rw[hq]
  show(p++q).take (d+1)=_
  rw[fX (by omega),List.take_succ,hh]
  rfl
 refine⟨⟨I.ok,?_,λg=>?_,I.z⟩,q,hq⟩
 ·rw[hq]
  show d+1<=(p++q).length
  rw[bq];omega
 ·rw[I.f,md]
  exact Te hP
theorem cnt_zero {W:List cB}{P:List Nat}{g:Nat}:cnt W P g=0↔∀a∈W,a.g=g->a.s∈P:=by
 unfold cnt
 rw[List.countP_eq_zero]
 constructor
 ·intro h a ha e
  have:=h a ha
  simp at this
  exact Classical.byContradiction λz=>z (this e)
 ·intro h a ha
  simp
  exact h a ha
theorem Wh.all {W:List cB}{many:Nat}{f:Nat->Int}{p:List Nat}(h:Wh W many f p p.length)(rank:Nat->Nat)(hr:∀a∈W,rank a.s<rank a.g)(hs:∀a∈W,a.s<many):∀g,g<many->g∈p:=by
 have:∀n g,rank g<n->g<many->g∈p:=by
  intro n
  induction n with
  |zero=>intro g h;omega
  |succ n ih=>
   intro g hg hl
   rw[h.z g hl,h.fe,List.take_length]
   have:cnt W p g=0:=cnt_zero.mpr λa ha e=>ih a.s (by have:=hr a ha;rw[e]at this;omega) (hs a ha)
   rw[this];rfl
 exactλg hl=>this (rank g+1) g (by omega) hl
theorem len_of {many:Nat}{p:List Nat}(nd:p.Nodup)(lt:∀x∈p,x<many)(all:∀g,g<many->g∈p):p.length=many:=by
 have h1:p.Perm (az many):=by
  rw[lK nd fR]
  intro a
  rw[aX]
  exact⟨lt a,all a⟩
 simpa using h1.length_eq
theorem len_le {many:Nat}{p:List Nat}(nd:p.Nodup)(lt:∀x∈p,x<many):p.length<=many:=by
 have h1:(p++(az many).filter λx=>decide (x∉p)).Perm (az many):=by
  rw[lK (by
   rw[bu]
   refine⟨nd,fR.filter _,λa ha b hb e=>?_⟩
   subst e
   simp at hb
   exact hb.2 ha) fR]
  intro a
  rw[aU,bA,aX]
  constructor
  ·rintro(h|h)
   ·exact lt a h
   ·exact h.1
  ·intro h
   by_cases ha:a∈p
   ·exact .inl ha
   ·exact .inr ⟨h,by simpa using ha⟩
 have:=h1.length_eq
 rw[bq,bZ]at this
 omega
end Kahn
def Kd.n:Kd->Nat
 |.ride=>1|.wait=>2|.back=>3
def bQ (a:cB):D:=.obj a.c.n ["start","goal","time","behind"] [.int a.s,.int a.g,.int a.t,.int a.b]
theorem fs (a:cB):cT [0,1,2,3] "start" (bQ a)=some (.int a.s):=by obtain⟨c,_,_,_,_⟩:=a;cases c<;>rfl
theorem fg (a:cB):cT [0,1,2,3] "goal" (bQ a)=some (.int a.g):=by obtain⟨c,_,_,_,_⟩:=a;cases c<;>rfl
theorem ft (a:cB):cT [0,1,2,3] "time" (bQ a)=some (.int a.t):=by obtain⟨c,_,_,_,_⟩:=a;cases c<;>rfl
theorem fb (a:cB):cT [0,1,2,3] "behind" (bQ a)=some (.int a.b):=by obtain⟨c,_,_,_,_⟩:=a;cases c<;>rfl
structure Right (many:Nat)(a:cB):Prop where
 s:a.s<many
 g:a.g<many
 t0:0<=a.t
 t1:a.t<=1000000000
 b:a.b<=4
 r:a.c=.ride->a.b=0
 k:a.c=.back->1<=a.b
theorem j6 {n l m:Int}(h1:l<=n)(h2:n<=m):zx [.int n,.int l,.int m]=some (.bl true):=by
 unfold zx
 have q1 (i:Int):oG "int" (.int i)=some (.bl true):=rfl
 have q2 (i:Int):oG "bool" (.int i)=some (.bl false):=rfl
 walk_at "mir"
theorem isA (all sub:List Nat)(a:cB):qT all sub (bQ a)=if all.contains a.c.n=true then some (.bl (sub.contains a.c.n))else none:=rfl
theorem UP {many:Nat}{a:cB}(h:Right many a):j5 [bQ a,.int (many:Int)]=some (.bl true):=by
 have w1:zx [.int (a.s:Int),.int 0,.int ((many:Int)-1)]=some (.bl true):=j6 (by omega) (by have:=h.s;omega)
 have w2:zx [.int (a.g:Int),.int 0,.int ((many:Int)-1)]=some (.bl true):=j6 (by omega) (by have:=h.g;omega)
 have w3:zx [.int a.t,.int 0,.int 1000000000]=some (.bl true):=j6 h.t0 h.t1
 have f1:=fs a
 have f2:=fg a
 have f3:=ft a
 have f4:=fb a
 have hi:=λall sub=>isA all sub a
 have hb:=h.b
 have hr:=h.r
 have hk:=h.k
 clear h
 unfold j5
 cases hc:a.c with
 |ride=>
  have w4:zx [.int (a.b:Int),.int 0,.int 0]=some (.bl true):=j6 (by omega) (by have:=hr hc;omega)
  rw[hc]at hi
  clear hr hk hb
  have hn:Kd.ride.n=1:=rfl
  walk_at "mir"
 |wait=>
  have w4:zx [.int (a.b:Int),.int 0,.int 4]=some (.bl true):=j6 (by omega) (by omega)
  rw[hc]at hi
  clear hr hk hb
  have hn:Kd.wait.n=2:=rfl
  walk_at "mir"
 |back=>
  have w4:zx [.int (a.b:Int),.int 1,.int 4]=some (.bl true):=j6 (by have:=hk hc;omega) (by omega)
  rw[hc]at hi
  clear hr hk hb
  have hn:Kd.back.n=3:=rfl
  walk_at "mir"
def W0 (as:List cB):List cB:=as.filter λa=>decide (a.b=0)
theorem QP (as:List cB)(l:as.length<=16777216)(r:L3.Env)(h:r[1]?.join=some (.lst (as.map bQ))) :
  uv r=some (.lst ((W0 as).map bQ)):=by
 have e:lsD (eV 1) r=some (as.map bQ):=by unfold lsD;have:eV 1 r=some (.lst (as.map bQ)):=h;rw[this];rfl
 refine CF bQ (λa=>decide (a.b=0)) bQ as e l λa _=>⟨_,rfl,?_,λ_=>rfl⟩
 have:=fb a
 walk_at "mir"
def zO (s:(Nat->Int)×Option D)(a:cB):(Nat->Int)×Option D:=(λx=>if x=a.g then s.1 a.g+1 else s.1 x,some (bQ a))
theorem Lm:∀(W:List cB) (s:(Nat->Int)×Option D) (g:Nat),(W.foldl zO s).1 g=s.1 g+(W.countP λa=>decide (a.g=g):Nat)
 |[],s,g=>by simp
 |a::W,s,g=>by
  rw[dP,Lm W,fO]
  by_cases hg:g=a.g
  ·subst hg;simp[zO];omega
  ·have:decide (a.g=g)=false:=by simp;exactλz=>hg z.symm
   simp[zO,hg,this]
theorem Ln (p:List Nat)(x:Nat):bv p++[D.int (x:Int)]=bv (p++[x]):=by simp[bv]
theorem UQ {many:Nat}{as:List cB}{f:Nat->Int}{p:List Nat}{here d:Nat}{x4:Option D}(hm:many<=1000)(hW:∀a∈W0 as,a.s<many/\a.g<many)(h:Kahn.Wh (W0 as) many f p d)(hh:p[d]?=some here) :
  ∃x,gj (gV 4) xv ((W0 as).map bQ) [some (.int (many:Int)),some (.lst (as.map bQ)),some (.lst ((W0 as).map bQ)),some (.lst (jX many f)),x4,some (.lst (bv p)),some (.int (d:Int)),some (.int (here:Int))] =
   some (.nx [some (.int (many:Int)),some (.lst (as.map bQ)),some (.lst ((W0 as).map bQ)),some (.lst (jX many ((W0 as).foldl (Kahn.stp here) (f,p)).1)),x,some (.lst (bv ((W0 as).foldl (Kahn.stp here) (f,p)).2)),some (.int (d:Int)),some (.int (here:Int))]):=by
 have hd:d<p.length:=(aC.mp hh).1
 have hP:here∉p.take d:=λz=>by
  obtain⟨i,hi,e⟩:=bB.mp z
  have lQ:i<d:=by rw[dD]at hi;omega
  rw[pT]at e
  have e2:p[d]=here:=(aC.mp hh).2
  have:=(eK (xs:=p) (h₀:=by omega) (h₁:=hd) h.ok.nd).mp (e.trans e2.symm)
  omega
 obtain⟨ρ',h1,x,pre,e1,e2⟩:=uc (g:=gV 4) (b:=xv) (ds:=(W0 as).map bQ) (ρ:=[some (.int (many:Int)),some (.lst (as.map bQ)),some (.lst ((W0 as).map bQ)),some (.lst (jX many f)),x4,some (.lst (bv p)),some (.int (d:Int)),some (.int (here:Int))])
  (λds ρ=>∃x pre,ds=pre.map bQ/\(∃post,W0 as=pre++post)/\Kahn.In (W0 as) many (p.take d) here pre (pre.foldl (Kahn.stp here) (f,p))/\ρ=[some (.int (many:Int)),some (.lst (as.map bQ)),some (.lst ((W0 as).map bQ)),some (.lst (jX many (pre.foldl (Kahn.stp here) (f,p)).1)),x,some (.lst (bv (pre.foldl (Kahn.stp here) (f,p)).2)),some (.int (d:Int)),some (.int (here:Int))])
  ⟨x4,[],rfl,⟨_,rfl⟩,⟨h.ok,λg=>by show f g=_;rw[h.fe];simp,h.z,λx hx=>by
   rcases hx with hx|rfl
   ·exact iU hx
   ·exact bI.mpr ⟨d,hh⟩⟩,rfl⟩ (by
  rintro ds dd post ρ e ⟨x,pre,rfl,⟨eT,e'⟩,I,rfl⟩
  rw[e',iC]at e
  have e3:=mV e
  cases eT with
  |nil=>cases e3
  |cons a eT=>
   rw[bC]at e3
   cases e3
   have ha:a∈W0 as:=by rw[e'];simp
   have hl:=Kahn.len_le I.ok.nd I.ok.lt
   have I2:=I.step e' hP (hW a ha).2
   refine⟨_,_,rfl,.inl ?_,some (bQ a),pre++[a],by simp,⟨eT,by rw[e'];simp⟩,by rw[jY];exact I2,rfl⟩
   rw[jY]
   generalize pre.foldl (Kahn.stp here) (f,p)=S at hl
   show xv _=some (.nx [_,_,_,some (.lst (jX many (Kahn.stp here S a).1)),_,some (.lst (bv (Kahn.stp here S a).2)),_,_])
   have f1:=fs a
   have f2:=fg a
   have er:(bv S.2).length<16777216:=by simp[bv];omega
   unfold xv
   by_cases hs:a.s=here
   ·have Dp:((a.s:Nat):Int)=(here:Int):=by rw[hs]
    have au:=L0 (i:=3) (fj:=e1 (cT [0,1,2,3] "goal") (eV 4)) (f:=eC (.int 1)) (gi:=λi j=>i-j) (ρ:=[some (.int (many:Int)),some (.lst (as.map bQ)),some (.lst ((W0 as).map bQ)),some (.lst (jX many S.1)),some (bQ a),some (.lst (bv S.2)),some (.int (d:Int)),some (.int (here:Int))]) (n:=many) (g:=a.g) (w:=S.1) (y:=1) rfl (by walk_at "mir") rfl (hW a ha).2
    have va:eF (.lst (jX many λx=>if x=a.g then S.1 a.g-1 else S.1 x)) (.int (a.g:Int))=some (.int (S.1 a.g-1)):=by
     have:=HQ (λx=>if x=a.g then S.1 a.g-1 else S.1 x) (hW a ha).2
     rw[if_pos rfl]at this
     exact this
    by_cases h0:S.1 a.g-1=0
    ·have es:Kahn.stp here S a=(λx=>if x=a.g then S.1 a.g-1 else S.1 x,S.2++[a.g]):=by unfold Kahn.stp;simp[hs,h0]
     rw[es,←Ln]
     rw[h0]at va
     clear I I2 e' es
     walk_at "mir"
    ·have es:Kahn.stp here S a=(λx=>if x=a.g then S.1 a.g-1 else S.1 x,S.2):=by unfold Kahn.stp;simp[hs,h0]
     rw[es]
     clear I I2 e' es
     walk_at "mir"
   ·have es:Kahn.stp here S a=S:=by unfold Kahn.stp;rw[if_neg hs]
    rw[es]
    have Dp:¬((a.s:Nat):Int)=(here:Int):=by omega
    clear I I2 e' es
    walk_at "mir")
 obtain⟨⟨post,e2⟩,I,rfl⟩:=e2
 have:pre=W0 as:=by
  have:=congrArg eZ e1
  rw[aD,aD]at this
  rw[e2,bq]at this
  have hp:post=[]:=kL (by omega)
  rw[e2,hp,bV]
 rw[this]at h1
 exact⟨x,h1⟩
theorem Tf {many:Nat}(as:List cB)(l:as.length<=1000)(hm:many<=1000)(hs:∀a∈as,a.s<many/\a.g<many) :
  ∃(f:Nat->Int) (p:List Nat),xw [.int (many:Int),.lst (as.map bQ)]=some (.lst (bv p))/\Kahn.Wh (W0 as) many f p p.length:=by
 have hW:∀a∈W0 as,a.s<many/\a.g<many:=λa ha=>hs a (bA.mp ha).1
 obtain⟨c1,_⟩:=Hb (g:=gV 4) (b:=w8) bQ (λs:(Nat->Int)×Option D=>[some (.int (many:Int)),some (.lst (as.map bQ)),some (.lst ((W0 as).map bQ)),some (.lst (jX many s.1)),s.2,none,none,none])
  zO (λ_=>True) (W0 as) (λ_=>0,none) trivial (λs a ha _=>by
   refine⟨_,rfl,.inl ?_,trivial⟩
   unfold w8
   have f2:=fg a
   rw[L0 (n:=many) (g:=a.g) (w:=s.1) (y:=1) rfl (by walk_at "mir") rfl (hW a ha).2]
   rfl)
 have c2:=Lm (W0 as) (λ_=>0,none)
 generalize NG:(W0 as).foldl zO (λ_=>0,none)=S0 at c1 c2
 obtain⟨f0,y4⟩:=S0
 dsimp only at c1 c2
 have AX:∀r:L3.Env,r[0]?.join=some (.int (many:Int))->r[3]?.join=some (.lst (jX many f0))->uu r=some (.lst (bv ((az many).filter λg=>decide (f0 g=0)))):=by
  intro r h0 h3
  refine CF (λ(t:Nat)=>D.int (t:Int)) (λg=>decide (f0 g=0)) (λ(t:Nat)=>D.int (t:Int)) (az many) (t6 h0 (by omega)) (by rw[bZ];omega) ?_
  ·intro g hg
   refine⟨_,rfl,?_,λ_=>rfl⟩
   have hg:g<many:=aX.mp hg
   have hv:eF (.lst (jX many f0)) (.int (g:Int))=some (.int (f0 g)):=HQ f0 hg
   have hc:gx r [3]=[some (.lst (jX many f0))]:=by unfold gx;simp[h3]
   rw[hc]
   walk_at "mir"
 generalize hq:((az many).filter λg=>decide (f0 g=0))=p0 at AX
 have w0:Kahn.Wh (W0 as) many f0 p0 0:=by
  have hf:∀g,f0 g=Kahn.cnt (W0 as) [] g:=λg=>by
   rw[c2 g]
   unfold Kahn.cnt
   simp
  refine⟨⟨by rw[←hq];exact fR.filter _,λx hx=>by rw[←hq,bA,aX]at hx;exact hx.1,λi x hx a ha e=>?_⟩,by omega,hf,λg hg=>by rw[←hq,bA,aX];simp[hg]⟩
  have tP:x∈p0:=bI.mpr ⟨i,hx⟩
  rw[←hq,bA]at tP
  have h0:f0 x=0:=by simpa using tP.2
  rw[hf]at h0
  have:=Kahn.cnt_zero.mp (by exact_mod_cast h0) a ha e
  cases this
 obtain⟨ρ',h1,⟨f,p,d,x4,x7,rfl,wh⟩,h3⟩:=Kz (c:=tb (e2 sx (eV 6) (eN d5 (aCons (eV 5) aNil)))) (b:=w6)
  (λρ=>∃f p d x4 x7,ρ=[some (.int (many:Int)),some (.lst (as.map bQ)),some (.lst ((W0 as).map bQ)),some (.lst (jX many f)),x4,some (.lst (bv p)),some (.int ((d:Nat):Int)),x7]/\Kahn.Wh (W0 as) many f p d)
  (λρ:L3.Env=>match ρ[6]? with|some (some (D.int i))=>(1001-i).toNat|_=>0) (by
   rintro ρ ⟨f,p,d,x4,x7,rfl,wh⟩
   have hl:(bv p).length=p.length:=by simp[bv]
   refine⟨decide ((d:Int)<(p.length:Int)),by walk_at "mir",λht=>?_⟩
   have hd:d<p.length:=by simpa using ht
   have hh:p[d]?=some p[d]:=by simp[hd]
   obtain⟨x,WW⟩:=UQ (x4:=x4) hm hW wh hh
   obtain⟨CA,q,_⟩:=wh.step (λa ha=>(hW a ha).2) hh
   have mY:=Kahn.len_le CA.ok.nd CA.ok.lt
   have AN:=CA.dl
   refine⟨_,.inl ?_,⟨_,_,d+1,x,some (.int (p[d]:Int)),rfl,CA⟩,?_⟩
   ·have N8:eF (.lst (bv p)) (.int (d:Int))=some (.int (p[d]:Int)):=uj (by simp[bv,hd])
    have WR:i2 (λi j=>D.int (i+j)) (.int (d:Int)) (.int 1)=some (.int ((d+1:Nat):Int)):=by simp[i2]
    unfold w6 wO
    clear wh CA mY AN
    walk_at "mir"
   ·show(1001-((d+1:Nat):Int)).toNat<(1001-(d:Int)).toNat
    omega) og [some (.int (many:Int)),some (.lst (as.map bQ)),some (.lst ((W0 as).map bQ)),some (.lst (jX many f0)),y4,some (.lst (bv p0)),some (.int ((0:Nat):Int)),none] ⟨f0,p0,0,y4,none,rfl,w0⟩ (by
   show(1001-((0:Nat):Int)).toNat<og
   have:(1001:Nat)<og:=Uw (by decide)
   omega)
 have hd:d=p.length:=by
  have hl:(bv p).length=p.length:=by simp[bv]
  have h4:(tb (e2 sx (eV 6) (eN d5 (aCons (eV 5) aNil)))) [some (.int (many:Int)),some (.lst (as.map bQ)),some (.lst ((W0 as).map bQ)),some (.lst (jX many f)),x4,some (.lst (bv p)),some (.int (d:Int)),x7]=some (decide ((d:Int)<(p.length:Int))):=by walk_at "mir"
  rw[h4]at h3
  have:=wh.dl
  simp at h3
  omega
 subst hd
 refine⟨f,p,?_,wh⟩
 have r1:=QP as (by omega)
 have rp:jS (.lst [.int 0]) (.int (many:Int))=some (.lst (jX many λ_=>0)):=by
  unfold jS
  dsimp only
  rw[if_pos ⟨by omega,by omega,by simp⟩]
  congr 2
  unfold jX
  rw[iA,bZ]
  simp
 rw[show(((0:Nat):Int))=0 from rfl]at h1
 unfold xw oN
 clear hs hW c2 NG hq w0 wh h3 l hm
 walk_at "mir"
def bw (ns:List D)(as:List cB):D:=.obj 4 ["names","arrows"] [.lst ns,.lst (as.map bQ)]
structure fS (many:Nat)(as:List cB):Prop where
 pos:1<=many
 le:many<=40
 len:as.length<=120
 right:∀a∈as,Right many a
 rank:∃rank:Nat->Nat,∀a∈as,a.b=0->rank a.s<rank a.g
theorem fS.placed {many:Nat}{as:List cB}(h:fS many as):∃p:List Nat,xw [.int (many:Int),.lst (as.map bQ)]=some (.lst (bv p))/\Kahn.Ok (W0 as) many p/\p.length=many/\∀g,g<many->g∈p:=by
 obtain⟨f,p,h1,h2⟩:=Tf (many:=many) as (by have:=h.len;omega) (by have:=h.le;omega) (λa ha=>⟨(h.right a ha).s,(h.right a ha).g⟩)
 obtain⟨rank,hr⟩:=h.rank
 have all:=h2.all rank (λa ha=>by
  have:=bA.mp ha
  exact hr a this.1 (by simpa using this.2)) (λa ha=>(h.right a (bA.mp ha).1).s)
 exact⟨p,h1,h2.ok,Kahn.len_of h2.ok.nd h2.ok.lt all,all⟩
theorem Mw {many:Nat}{as:List cB}{ns:List D}(h:fS many as)(hn:ns.length=many)(WY:v5 [.lst ns]=some (.bl true)):vf 4 [.lst ns,.lst (as.map bQ)]=some (bw ns as):=by
 obtain⟨p,hp,_,hl,_⟩:=h.placed
 have er:=h.len
 obtain⟨ρ',h1,x3,x4,rfl⟩:=uc (g:=gT (gsCons (gV 3) (gsCons (gV 4) gsNil))) (b:=uk) (ds:=eM 0 (as.map bQ)) (ρ:=[some (.obj 4 [] []),some (.lst ns),some (.lst (as.map bQ)),none,none,none])
  (λ_ ρ=>∃x3 x4,ρ=[some (.obj 4 [] []),some (.lst ns),some (.lst (as.map bQ)),x3,x4,none]) ⟨none,none,rfl⟩ (by
   rintro pre d post ρ e ⟨x3,x4,rfl⟩
   obtain⟨x,hx,rfl⟩:=G9 (yB e)
   rw[aM]at hx
   obtain⟨a,ha,rfl⟩:=bX.mp hx
   have hr:=UP (h.right a (bI.mpr ⟨_,ha⟩))
   refine⟨_,_,rfl,.inl ?_,some (.int (0+pre.length:Nat)),some (bQ a),rfl⟩
   unfold uk
   rw[←hn]at hr
   clear hp hl hn er h
   walk_at "mir")
 have hz:(bv p).length=many:=by simp[bv,hl]
 have WV:¬((as.length:Int) > 120):=by omega
 rw[←hn]at hp hz
 have l1:∀ds:List D,jR [.lst ds]=some (.lst ds):=λ_=>rfl
 have s1:jT [4] "names" (eN jR (aCons (eV 1) aNil)) [some (D.obj 4 [] []),some (.lst ns),some (.lst (as.map bQ)),x3,x4,some (.lst (bv p))]=some (.nx [some (D.obj 4 ["names"] [.lst ns]),some (.lst ns),some (.lst (as.map bQ)),x3,x4,some (.lst (bv p))]):=rfl
 have s2:jT [4] "arrows" (eN jR (aCons (eV 2) aNil)) [some (D.obj 4 ["names"] [.lst ns]),some (.lst ns),some (.lst (as.map bQ)),x3,x4,some (.lst (bv p))]=some (.nx [some (bw ns as),some (.lst ns),some (.lst (as.map bQ)),x3,x4,some (.lst (bv p))]):=rfl
 clear h er hl hn
 unfold vf wD
 walk_at "mir"
abbrev T:=Option Int
def lt (m:Int):T->T
 |none=>none
 |some i=>some (i+m)
def mx:T->T->T
 |none,b=>b
 |a,none=>a
 |some i,some j=>some (if j > i then j else i)
theorem L4 (o:T)(m:Int):CD [cK o,.int m]=some (cK (lt m o)):=by
 unfold CD
 cases o<;>simp only[cK,lt]<;>walk_at "mir"
theorem DW (a b:T):jb [cK a,cK b]=some (cK (mx a b)):=by
 unfold jb
 cases a<;>cases b<;>simp only[cK,mx]<;>walk_at "mir"
theorem UR (a b:T):mx a b=mx b a:=by cases a<;>cases b<;>simp only[mx];congr 1;omega
theorem KO {κ:Type}(h:κ×D->D):∀(ks:List κ) (ds:List D),ks.zip ((ks.zip ds).map h)=(ks.zip ds).map λp=>(p.1,h p)
 |[],_=>rfl
 |_::_,[]=>rfl
 |k::ks,d::ds=>by
  show(k,h (k,d))::ks.zip ((ks.zip ds).map h)=(k,h (k,d))::(ks.zip ds).map _
  rw[KO h ks ds]
theorem Lo {κ:Type}[DecidableEq κ]{ks:List κ}{ds:List D}(hl:ks.length=ds.length)(k k':κ)(d:D):gD (ef ks ds k d).1 (ef ks ds k d).2 k'=if k'=k then some d else gD ks ds k':=by
 unfold ef
 by_cases hc:ks.contains k=true
 ·rw[if_pos hc]
  unfold gD
  dsimp only
  rw[KO,List.find?_map]
  by_cases hk:k'=k
  ·subst hk
   rw[if_pos rfl]
   have hm:k'∈ks:=by simpa using hc
   have:∃p∈ks.zip ds,p.1=k':=by
    obtain⟨i,hi,e⟩:=bB.mp hm
    refine⟨(ks[i],ds[i]),?_,e⟩
    rw[bB]
    exact⟨i,by rw[cY];omega,by simp⟩
   obtain⟨p,hp,he⟩:=this
   cases hf:(ks.zip ds).find? ((λp:κ×D=>decide (p.1=k')) ∘ λp:κ×D=>(p.1,if p.1=k' then d else p.2))with
   |none=>
    rw[jL]at hf
    have:=hf p hp
    simp[he]at this
   |some q=>
    have hq:=iB hf
    simp at hq
    simp[hq]
  ·rw[if_neg hk]
   have:((λp:κ×D=>decide (p.1=k')) ∘ λp:κ×D=>(p.1,if p.1=k then d else p.2))=λp:κ×D=>decide (p.1=k'):=rfl
   rw[this]
   cases hf:(ks.zip ds).find? λp=>decide (p.1=k')with
   |none=>rfl
   |some q=>
    have hq:=iB hf
    simp at hq
    have iY:¬q.1=k:=λz=>hk (hq▸z)
    simp[iY]
 ·rw[if_neg hc]
  unfold gD
  dsimp only
  have hz:(ks++[k]).zip (ds++[d])=ks.zip ds++[(k,d)]:=by
   rw[rB hl];rfl
  rw[hz,List.find?_append]
  by_cases hk:k'=k
  ·subst hk
   rw[if_pos rfl]
   have hn:(ks.zip ds).find? (λp=>decide (p.1=k'))=none:=by
    rw[jL]
    intro p hp
    have hm:=(dn (a:=p.1) (b:=p.2) hp).1
    have rK:¬k'∈ks:=by simpa using hc
    simp
    intro z
    exact rK (z▸hm)
   rw[hn]
   simp
  ·rw[if_neg hk]
   have:¬k=k':=λz=>hk z.symm
   cases hf:(ks.zip ds).find? (λp=>decide (p.1=k'))<;>simp[this]
theorem L5 {κ:Type}[DecidableEq κ]{ks:List κ}{ds:List D}(hl:ks.length=ds.length)(k:κ)(d:D):(ef ks ds k d).1.length=(ef ks ds k d).2.length/\(ef ks ds k d).1.length<=ks.length+1:=by
 unfold ef
 by_cases hc:ks.contains k=true
 ·rw[if_pos hc];simp;omega
 ·rw[if_neg hc];simp[hl]
abbrev Fl:=Nat×Nat×Int
def i7 (q:Fl):D:=.tup [.int (q.1:Int),.int (q.2.1:Int),.int q.2.2]
def fl (fs:List Fl)(g r:Nat):T:=(fs.filter λq=>decide (q.1=g/\q.2.1=r)).foldl (λw q=>mx w (some q.2.2)) none
structure jA (d:D)(n:Nat)(f:Nat->Nat->T):Prop where
 is:∃ks ds,d=.dT ks ds/\ks.length=ds.length/\ks.length<=n/\∀g r:Nat,gD ks ds [.inl (g:Int),.inl (r:Int)]=(f g r).map D.int
theorem jA.get {d:D}{n:Nat}{f:Nat->Nat->T}(h:jA d n f)(g r:Nat):((il d (.tup [.int (g:Int),.int (r:Int)])).bind λr=>some (r.getD .non))=some (cK (f g r)):=by
 obtain⟨ks,ds,rfl,h1,h2,h3⟩:=h.is
 show some ((gD ks ds [.inl (g:Int),.inl (r:Int)]).getD .non)=_
 rw[h3]
 cases f g r<;>rfl
theorem Mm (a:T)(t:Int):some (cK (mx a (some t)))=(mx a (some t)).map D.int:=by cases a<;>rfl
theorem Mn (fs:List Fl)(hl:fs.length<=1000):∃d,yt [.lst (fs.map i7)]=some d/\jA d 1000 (fl fs):=by
 obtain⟨ρ',h1,d,x2,x3,x4,pre,e1,rfl,hd⟩:=uc (g:=gT (gsCons (gV 2) (gsCons (gV 3) (gsCons (gV 4) gsNil)))) (b:=w9) (ds:=fs.map i7) (ρ:=[some (.lst (fs.map i7)),some (.dT [] []),none,none,none])
  (λds ρ=>∃d x2 x3 x4,∃pre:List Fl,ds=pre.map i7/\ρ=[some (.lst (fs.map i7)),some d,x2,x3,x4]/\jA d pre.length (fl pre))
  ⟨_,none,none,none,[],rfl,rfl,⟨[],[],rfl,rfl,by simp,λ_ _=>rfl⟩⟩ (by
   rintro ds dd post ρ e ⟨d,x2,x3,x4,pre,rfl,rfl,hd⟩
   obtain⟨q,hq,rfl⟩:∃q,fs[pre.length]?=some q/\i7 q=dd:=by
    have:=yB e
    rw[aM,aD]at this
    exact bX.mp this
   have er:pre.length<fs.length:=(aC.mp hq).1
   obtain⟨g,r,t⟩:=q
   have hg:=hd.get g r
   obtain⟨ks,ds,rfl,k1,k2,k3⟩:=hd.is
   have hm:=DW (fl pre g r) (some t)
   have kR:ks.length<16777216:=by omega
   refine⟨_,_,rfl,.inl ?_,.dT (ef ks ds [.inl (g:Int),.inl (r:Int)] (cK (mx (fl pre g r) (some t)))).1 (ef ks ds [.inl (g:Int),.inl (r:Int)] (cK (mx (fl pre g r) (some t)))).2,some (.int (g:Int)),some (.int (r:Int)),some (.int t),pre++[(g,r,t)],by simp,rfl,?_⟩
   ·have hk:lm [.int (g:Int),.int (r:Int)]=some [.inl (g:Int),.inl (r:Int)]:=rfl
    have he:cK (some t)=.int t:=rfl
    rw[he]at hm
    unfold w9 mm
    generalize cK (fl pre g r)=z at hg hm
    clear k1 k2 k3 e hq hd
    walk_at "mir"
   ·obtain⟨p1,p2⟩:=L5 k1 [.inl (g:Int),.inl (r:Int)] (cK (mx (fl pre g r) (some t)))
    refine⟨_,_,rfl,p1,by rw[bq,fK];omega,λg' r'=>?_⟩
    rw[Lo k1]
    have hf:fl (pre++[(g,r,t)]) g' r'=if g=g'/\r=r' then mx (fl pre g' r') (some t)else fl pre g' r':=by
     unfold fl
     rw[List.filter_append,jY]
     by_cases hc:g=g'/\r=r'
     ·rw[if_pos hc];simp[hc]
     ·rw[if_neg hc]
      have:([(g,r,t)]:List Fl).filter (λq=>decide (q.1=g'/\q.2.1=r'))=[]:=by
       rw[List.filter_eq_nil_iff]
       intro q hq
       rw[aJ]at hq
       subst hq
       simpa using hc
      rw[this];rfl
    rw[hf]
    by_cases hc:g=g'/\r=r'
    ·obtain⟨rfl,rfl⟩:=hc
     rw[if_pos rfl,if_pos ⟨rfl,rfl⟩,Mm]
    ·rw[if_neg hc,if_neg ?_]
     ·exact k3 g' r'
     ·intro z
      simp at z
      exact hc ⟨by omega,by omega⟩)
 have:pre=fs:=by
  have hi:∀(a b:List Fl),a.map i7=b.map i7->a=b:=by
   intro a
   induction a with
   |nil=>intro b h;cases b with|nil=>rfl|cons _ _=>cases h
   |cons x a ih=>
    intro b h
    cases b with
    |nil=>cases h
    |cons y b=>
     simp only[bC,List.cons.injEq]at h
     obtain⟨h1,h2⟩:=h
     rw[ih b h2]
     obtain⟨x1,x2,x3⟩:=x
     obtain⟨y1,y2,y3⟩:=y
     simp[i7]at h1
     obtain⟨e1,e2,e3⟩:=h1
     have e1:x1=y1:=by omega
     have e2:x2=y2:=by omega
     rw[e1,e2,e3]
  exact(hi _ _ e1).symm
 subst this
 refine⟨d,?_,?_⟩
 ·unfold yt
  walk_at "mir"
 ·obtain⟨ks,ds,a,b,c,f⟩:=hd.is
  exact⟨ks,ds,a,b,by omega,f⟩
def cE (n:Nat)(f:Nat->T):List D:=(az n).map λg=>cK (f g)
def bF (n m:Nat)(Y:Nat->Nat->T):List D:=(az m).map λi=>D.lst (cE n (Y i))
theorem Tg (n:Nat)(f:Nat->T):(cE n f).length=n:=by simp[cE]
theorem G6 (n m:Nat)(Y:Nat->Nat->T):(bF n m Y).length=m:=by simp[bF]
theorem HD {n:Nat}(f:Nat->T){g:Nat}(h:g<n):atI (cE n f) (g:Int)=some (cK (f g)):=uj (by simp[cE,h])
theorem ux {n:Nat}{f f':Nat->T}(h:∀g,g<n->f g=f' g):cE n f=cE n f':=by
 unfold cE
 apply cU
 intro g hg
 rw[h g (aX.mp hg)]
theorem Rh {n m:Nat}{Y Y':Nat->Nat->T}(h:∀i,i<m->∀g,g<n->Y i g=Y' i g):bF n m Y=bF n m Y':=by
 unfold bF
 apply cU
 intro i hi
 rw[ux (h i (aX.mp hi))]
theorem Hl {n:Nat}(f:Nat->T){g:Nat}(h:g<n)(v:T):iM (cE n f) (g:Int) (cK v)=some (cE n λx=>if x=g then v else f x):=by
 unfold iM
 have hx:ixN (cE n f).length (g:Int)=some g:=by rw[Tg];exact L1 h
 rw[hx]
 simp only[bM,Option.some.injEq]
 apply eJ
 ·simp[cE]
 ·intro i h1 h2
  simp[cE,kC]
  by_cases hi:g=i
  ·subst hi;simp
  ·rw[if_neg hi,if_neg (λz=>hi z.symm)]
def dep (as:List cB):Nat:=as.foldl (λm a=>max m a.b) 1
theorem Hm:∀(as:List cB) (m:Nat),m<=as.foldl (λm a=>max m a.b) m/\(∀a∈as,a.b<=as.foldl (λm a=>max m a.b) m)/\((∀a∈as,a.b<=4)->m<=4->as.foldl (λm a=>max m a.b) m<=4)
 |[],m=>⟨ar _,λa h=>(by cases h),λ_ h=>h⟩
 |x::as,m=>by
  obtain⟨h1,h2,h3⟩:=Hm as (max m x.b)
  refine⟨by show m<=as.foldl _ (max m x.b);omega,λa ha=>?_,λh4 hm=>h3 (λa ha=>h4 a (ap _ ha)) (by have:=h4 x am;omega)⟩
  show a.b<=as.foldl _ (max m x.b)
  rcases aA.mp ha with rfl|ha
  ·omega
  ·exact h2 a ha
theorem HR {as:List cB}{a:cB}(h:a∈as):a.b<=dep as:=(Hm as 1).2.1 a h
theorem CL {as:List cB}(h:∀a∈as,a.b<=4):dep as<=4:=(Hm as 1).2.2 h (by decide)
theorem Lp {α:Type}(f:α->Int):∀xs:List α,eI (xs.map λx=>D.int (f x))=some (xs.map f)
 |[]=>rfl
 |x::xs=>by
  show(eI (xs.map λx=>D.int (f x))).bind _=_
  rw[Lp f xs];rfl
theorem L6:∀(as:List cB) (m:Nat),(as.map λa=>(a.b:Int)).foldl max (m:Int)=((as.foldl (λm a=>max m a.b) m:Nat):Int)
 |[],m=>rfl
 |x::as,m=>by
  show(as.map λa=>(a.b:Int)).foldl max (max (m:Int) (x.b:Int))=_
  rw[show max (m:Int) (x.b:Int)=((max m x.b:Nat):Int)by omega,L6 as]
  rfl
theorem j7 (ns:List D)(as:List cB):cT [4] "names" (bw ns as)=some (.lst ns):=rfl
theorem DQ (ns:List D)(as:List cB):cT [4] "arrows" (bw ns as)=some (.lst (as.map bQ)):=rfl
theorem V8 {ns:List D}{as:List cB}(hl:as.length<=1000):xa [bw ns as]=some (.int (dep as:Int)):=by
 have q:∀r:L3.Env,r[0]?.join=some (bw ns as)->v6 r=some (.lst (as.map λa=>D.int (a.b:Int))):=λr hr=>by
  have e:lsD (e1 (cT [4] "arrows") (eV 0)) r=some (as.map bQ):=by
   have:eV 0 r=some (bw ns as):=hr
   unfold lsD e1
   rw[this];rfl
  exact wq bQ (λa=>D.int (a.b:Int)) as e (by omega) λa _=>⟨_,rfl,by have:=fb a;walk_at "mir"⟩
 have m1:sy [.lst ([.int 1]++as.map λa=>D.int (a.b:Int))]=some (.int (dep as:Int)):=by
  unfold sy
  dsimp only
  have:eI ([.int 1]++as.map λa=>D.int (a.b:Int))=some (1::as.map λa=>(a.b:Int)):=by
   show(eI (as.map λa=>D.int (a.b:Int))).bind _=_
   rw[Lp];rfl
  rw[this]
  show some (D.int ((as.map λa=>(a.b:Int)).foldl max ((1:Nat):Int)))=_
  rw[L6];rfl
 have m2:eX (.lst [.int 1]) (.lst (as.map λa=>D.int (a.b:Int)))=some (.lst ([.int 1]++as.map λa=>D.int (a.b:Int))):=Su (by simp;omega)
 generalize [D.int 1]++as.map (λa=>D.int (a.b:Int))=zs at m1 m2
 unfold xa
 clear hl
 walk_at "mir"
theorem HE {m:aR}{f:List D->Option D}{ns:List D}{as:List cB}{ds:List D}(h:(["names","arrows"]:List aR).contains m=false):kc 4 m f (bw ns as) ds=f (bw ns as::ds):=by
 show(if 4=4/\(["names","arrows"]:List aR).contains m=false then f (bw ns as::ds)else none)=_
 rw[if_pos ⟨rfl,h⟩]
theorem Hn {ns:List D}{as:List cB}(hl:as.length<=1000):kc 4 "most_behind" xa (bw ns as) []=some (.int (dep as:Int)):=by
 rw[HE (by decide +kernel)]
 exact V8 hl
def into (as:List cB)(g:Nat):List Nat:=(as.zipIdx.filter λp=>decide (p.1.g=g)).map (·.2)
theorem V9 {ns:List D}{as:List cB}(hl:as.length<=1000)(g:Nat):uw [bw ns as,.int (g:Int)]=some (.lst (bv (into as g))):=by
 have q:∀r:L3.Env,r[0]?.join=some (bw ns as)->r[1]?.join=some (.int (g:Int))->jt r=some (.lst (bv (into as g))):=λr hr wB=>by
  have e:(λρ=>((aCons (e1 (cT [4] "arrows") (eV 0)) aNil) ρ).bind λds=>match ds with|[.lst xs]=>some (eM 0 xs)|_=>none) r=some (as.zipIdx.map λp=>D.tup [.int (p.2:Int),bQ p.1]):=by
   have:eV 0 r=some (bw ns as):=hr
   have e2:e1 (cT [4] "arrows") (eV 0) r=some (.lst (as.map bQ)):=by unfold e1;rw[this];rfl
   show((aCons (e1 (cT [4] "arrows") (eV 0)) aNil) r).bind _=_
   unfold aCons
   rw[e2]
   show some (eM 0 (as.map bQ))=_
   rw[Hk bQ]
  have hc:gx r [1]=[some (.int (g:Int))]:=by unfold gx;simp[wB]
  have:=CF (own:=2) (cap:=[1]) (fi:=λρ=>((aCons (e1 (cT [4] "arrows") (eV 0)) aNil) ρ).bind λds=>match ds with|[.lst xs]=>some (eM 0 xs)|_=>none) (g:=gT (gsCons (gV 0) (gsCons (gV 1) gsNil))) (p:=tb (e2 (eqD false) (e1 (cT [0,1,2,3] "goal") (eV 1)) (eV 2))) (f:=eV 0) (λp:cB×Nat=>D.tup [.int (p.2:Int),bQ p.1]) (λp=>decide (p.1.g=g)) (λp=>D.int (p.2:Int)) as.zipIdx e (by simp;omega) (λp _=>by
    refine⟨_,rfl,?_,λ_=>rfl⟩
    rw[hc]
    have:=fg p.1
    have hd:decide ((p.1.g:Int)=(g:Int))=decide (p.1.g=g):=by
     by_cases h:p.1.g=g
     ·simp[h]
     ·have:¬(p.1.g:Int)=(g:Int):=by omega
      simp[h,this]
    rw[←hd]
    walk_at "mir")
  rw[show jt r=_ from this]
  unfold into bv
  rw[df]
  rfl
 unfold uw
 clear hl
 walk_at "mir"
def tm (as:List cB)(Y:Nat->Nat->T)(L g:Nat)(w:T):T:=(as.filter λa=>decide (a.g=g)).foldl (λw a=>mx w (lt a.t (Y (L-a.b) a.s))) w
theorem Th {xs:List D}{n b:Nat}(hn:xs.length=n+1)(hb:b<=n):atI xs (-1-(b:Int))=xs[n-b]?:=by
 unfold atI
 have:ixN xs.length (-1-(b:Int))=some (n-b):=by
  unfold ixN
  rw[if_neg (by omega),if_pos (by omega)]
  congr 1
  omega
 rw[this];rfl
def DH (Y:Nat->Nat->T)(L:Nat)(s:T×Option D×Option D)(p:cB×Nat):T×Option D×Option D:=(mx s.1 (lt p.1.t (Y (L-p.1.b) p.1.s)),some (D.int (p.2:Int)),some (bQ p.1))
theorem Wa {ns:List D}{as:List cB}{many L:Nat}{Y:Nat->Nat->T}(hb:∀a∈as,a.b<=L/\a.s<many)(g:Nat)(w:T) :
  wb [bw ns as,.lst (bF many (L+1) Y),.lst (bv (into as g)),cK w]=some (cK (tm as Y L g w)):=by
 have Dn:∀p∈as.zipIdx.filter (λp=>decide (p.1.g=g)),p∈as.zipIdx:=λp hp=>(bA.mp hp).1
 have hz:=Kr (λa:cB=>decide (a.g=g)) as 0
 have hn:bv (into as g)=(as.zipIdx.filter (λp=>decide (p.1.g=g))).map λp=>D.int (p.2:Int):=by unfold into bv;rw[df];rfl
 generalize hq:as.zipIdx.filter (λp=>decide (p.1.g=g))=ps at Dn hn hz
 obtain⟨e1,_⟩:=Hb (g:=gV 5) (b:=we) (λp:cB×Nat=>D.int (p.2:Int)) (λs:T×Option D×Option D=>[some (bw ns as),some (.lst (bF many (L+1) Y)),some (.lst (bv (into as g))),some (cK w),some (cK s.1),s.2.1,s.2.2])
  (DH Y L) (λ_=>True) ps (w,none,none) trivial (λs p hp _=>by
   refine⟨_,rfl,.inl ?_,trivial⟩
   unfold DH
   have hp:=V6 (Dn p hp)
   have hm:p.1∈as:=bI.mpr ⟨_,hp⟩
   have f1:=fs p.1
   have f2:=ft p.1
   have f3:=fb p.1
   have f4:=DQ ns as
   have i1:eF (.lst (as.map bQ)) (.int (p.2:Int))=some (bQ p.1):=uj (by rw[aM,hp];rfl)
   have i2:eF (.lst (bF many (L+1) Y)) (.int (-1-(p.1.b:Int)))=some (.lst (cE many (Y (L-p.1.b)))):=by
    show atI _ _=_
    rw[Th (n:=L) (by rw[G6]) (hb p.1 hm).1]
    unfold bF
    rw[aM,dz (by omega)]
    rfl
   have i3:eF (.lst (cE many (Y (L-p.1.b)))) (.int (p.1.s:Int))=some (cK (Y (L-p.1.b) p.1.s)):=HD _ (hb p.1 hm).2
   have l1:=L4 (Y (L-p.1.b) p.1.s) p.1.t
   have l2:=DW s.1 (lt p.1.t (Y (L-p.1.b) p.1.s))
   unfold we
   clear hp hm hb hn hz Dn hq
   walk_at "mir")
 have e2:∀(ps:List (cB×Nat)) (s:T×Option D×Option D),(ps.foldl (DH Y L) s).1=(ps.map (·.1)).foldl (λw a=>mx w (lt a.t (Y (L-a.b) a.s))) s.1:=by
  intro ps
  induction ps with
  |nil=>exactλs=>rfl
  |cons p ps ih=>intro s;rw[dP,ih];rfl
 have e3:=e2 ps (w,none,none)
 rw[hz]at e3
 generalize ps.foldl (DH Y L) (w,none,none)=S at e1 e3
 have e4:S.1=tm as Y L g w:=e3
 rw[e4,←hn]at e1
 unfold wb
 clear hn hz Dn hq e2 e3 e4 hb
 walk_at "mir"
def wr (Y:Nat->Nat->T)(L:Nat)(Z:Nat->T):Nat->Nat->T:=λi g=>if i=L then Z g else Y i g
theorem Lq {as:List cB}{Y Y':Nat->Nat->T}{L g:Nat}(w:T)(h:∀a∈as,a.g=g->Y (L-a.b) a.s=Y' (L-a.b) a.s):tm as Y L g w=tm as Y' L g w:=by
 unfold tm
 have h2:∀a∈as.filter (λa=>decide (a.g=g)),Y (L-a.b) a.s=Y' (L-a.b) a.s:=λa ha=>by
  have:=bA.mp ha
  exact h a this.1 (by simpa using this.2)
 generalize as.filter (λa=>decide (a.g=g))=bs at h2
 induction bs generalizing w with
 |nil=>rfl
 |cons b bs ih=>
  rw[dP,dP,h2 b am]
  exact ih _ λa ha=>h2 a (ap _ ha)
theorem Ti {many L x:Nat}{Y:Nat->Nat->T}(hx:x<many)(v:T):(bF many (L+1) Y).set L (.lst (cE many λy=>if y=x then v else Y L y))=bF many (L+1) (wr Y L λy=>if y=x then v else Y L y):=by
 apply eJ
 ·simp[bF]
 ·intro i h1 h2
  have hi:i<L+1:=by simpa[bF]using h2
  rw[kC]
  by_cases hL:L=i
  ·subst hL
   rw[if_pos rfl]
   simp only[bF,fP,d7]
   congr 1
   exact ux λg _=>by simp[wr]
  ·rw[if_neg hL]
   have:¬i=L:=λz=>hL z.symm
   simp only[bF,fP,d7]
   congr 1
   exact ux λg _=>by simp[wr,this]
theorem Ww {ns:List D}{as:List cB}{many L r depth rounds:Nat}{Y:Nat->Nat->T}{f:Nat->Nat->T}{d:D}{n:Nat}{iz ma x9 x10:Option D}{p:List Nat}(hd:jA d n f)(hb:∀a∈as,a.b<=L/\a.s<many)(ok:Kahn.Ok (W0 as) many p)(hn:ns.length=many)(hm:many<=1000)
  (lR:D) (li:∀g,g<many->eF lR (.int (g:Int))=some (.lst (bv (into as g)))) :
  ∃(Z:Nat->T) (y9 rq:Option D),gj (gV 9) wc (bv p) [some (bw ns as),some (.int (rounds:Int)),iz,ma,some (.lst (bF many (L+1) Y)),some d,some lR,some (.lst (bv p)),some (.int (r:Int)),x9,x10] =
   some (.nx [some (bw ns as),some (.int (rounds:Int)),iz,ma,some (.lst (bF many (L+1) (wr Y L Z))),some d,some lR,some (.lst (bv p)),some (.int (r:Int)),y9,rq])/\∀g∈p,Z g=tm as (wr Y L Z) L g (f g r):=by
 obtain⟨ρ',h1,pre,Z,y9,rq,e1,⟨post,e2⟩,hZ,rfl⟩:=uc (g:=gV 9) (b:=wc) (ds:=bv p) (ρ:=[some (bw ns as),some (.int (rounds:Int)),iz,ma,some (.lst (bF many (L+1) Y)),some d,some lR,some (.lst (bv p)),some (.int (r:Int)),x9,x10])
  (λds ρ=>∃(pre:List Nat) (Z:Nat->T) (y9 rq:Option D),ds=bv pre/\(∃post,p=pre++post)/\(∀g∈pre,Z g=tm as (wr Y L Z) L g (f g r))/\ρ=[some (bw ns as),some (.int (rounds:Int)),iz,ma,some (.lst (bF many (L+1) (wr Y L Z))),some d,some lR,some (.lst (bv p)),some (.int (r:Int)),y9,rq])
  ⟨[],Y L,x9,x10,rfl,⟨p,rfl⟩,λg hg=>(by cases hg),by
   have:wr Y L (Y L)=Y:=by
    funext i g
    unfold wr
    by_cases h:i=L
    ·rw[if_pos h,h]
    ·rw[if_neg h]
   rw[this]⟩ (by
  rintro ds dd post ρ e ⟨pre,Z,y9,rq,rfl,⟨eT,e'⟩,hZ,rfl⟩
  have e3:bv eT=dd::post:=by
   have:bv p=bv pre++bv eT:=by rw[e'];simp[bv]
   rw[this]at e
   exact mV e
  cases eT with
  |nil=>cases e3
  |cons x eT=>
   have oA:dd=.int (x:Int):=by
    have:bv (x::eT)=.int (x:Int)::bv eT:=rfl
    rw[this]at e3
    cases e3
    rfl
   subst oA
   have hx:x∈p:=by rw[e'];simp
   have xI:=ok.lt x hx
   have AZ:p[pre.length]?=some x:=by rw[e'];simp
   have qQ:∀a∈as,a.b=0->a.g=x->a.s∈pre:=λa ha h0 hg=>by
    have:=ok.ord pre.length x AZ a (bA.mpr ⟨ha,by simpa using h0⟩) hg
    rw[e',rA]at this
    ·exact this
    ·rfl
   have Dh:x∉pre:=λz=>by
    have:=ok.nd
    rw[e',bu]at this
    exact this.2.2 x z x am rfl
   have qL:∀g∈pre,∀a∈as,a.b=0->a.g=g->a.s≠x:=λg hg a ha h0 lf z=>by
    obtain⟨i,hi,ei⟩:=bB.mp hg
    have Oi:p[i]?=some g:=by rw[e',cy hi];simp[hi,ei]
    have:=ok.ord i g Oi a (bA.mpr ⟨ha,by simpa using h0⟩) lf
    rw[e',fX (by omega)]at this
    exact Dh (z▸iU this)
   have N4:=hd.get x r
   have Og:=li x xI
   have A8:=Wa (ns:=ns) (Y:=wr Y L Z) hb x (f x r)
   have key:∀g,(∀a∈as,a.g=g->a.b=0->a.s≠x)->∀(v w:T),tm as (wr Y L λy=>if y=x then v else Z y) L g w=tm as (wr Y L Z) L g w:=λg hg v w=>by
    refine Lq w λa ha lf=>?_
    unfold wr
    by_cases hL:L-a.b=L
    ·rw[if_pos hL,if_pos hL]
     dsimp only
     rw[if_neg ?_]
     by_cases h0:a.b=0
     ·exact hg a ha lf h0
     ·have:=(hb a ha).1
      omega
    ·rw[if_neg hL,if_neg hL]
   generalize hv:tm as (wr Y L Z) L x (f x r)=v at A8
   refine⟨_,_,rfl,.inl ?_,pre++[x],λy=>if y=x then v else Z y,some (.int (x:Int)),some (cK (f x r)),(Ln pre x).symm▸rfl,⟨eT,by rw[e'];simp⟩,?_,rfl⟩
   ·have A6:=Ti (many:=many) (L:=L) (x:=x) (Y:=wr Y L Z) xI v
    have hY:(wr (wr Y L Z) L λy=>if y=x then v else wr Y L Z L y)=wr Y L λy=>if y=x then v else Z y:=by
     funext i g
     unfold wr
     by_cases h:i=L<;>simp[h]
    have pN:iM (cE many (wr Y L Z L)) (x:Int) (cK v)=some (cE many λy=>if y=x then v else wr Y L Z L y):=Hl _ xI v
    rw[hY]at A6
    have N8:ixN (bF many (L+1) (wr Y L Z)).length (-1)=some L:=by
     rw[G6]
     unfold ixN
     rw[if_neg (by omega),if_pos (by omega)]
     congr 1
     omega
    have Ol:(bF many (L+1) (wr Y L Z))[L]?=some (.lst (cE many (wr Y L Z L))):=by
     unfold bF
     rw[aM,dz (by omega)]
     rfl
    unfold wc oM
    clear key qL qQ Dh AZ hx hv e e' e3 hZ ok hb hd li
    walk_at "mir"
   ·intro g hg
    rcases aU.mp hg with hg|hg
    ·have iY:g≠x:=λz=>Dh (z▸hg)
     dsimp only
     rw[if_neg iY,key g (λa ha lf h0=>qL g hg a ha h0 lf)]
     exact hZ g hg
    ·rw[aJ]at hg
     subst hg
     dsimp only
     rw[if_pos rfl,key g (λa ha lf h0 z=>Dh (z▸qQ a ha h0 lf)),hv])
 have mP:pre=p:=by
  have hl:=congrArg eZ e1
  simp[bv]at hl
  rw[e2,bq]at hl
  have:post=[]:=kL (by omega)
  rw[e2,this,bV]
 subst mP
 exact⟨Z,y9,rq,h1,hZ⟩
structure Run (as:List cB)(many depth rounds:Nat)(past:Nat->Nat->T)(f:Nat->Nat->T)(Y:Nat->Nat->T):Prop where
 past:∀i,i<depth->∀g,g<many->Y i g=past i g
 rc:∀r,r<rounds->∀g,g<many->Y (depth+r) g=tm as Y (depth+r) g (f g r)
theorem Sn {many m:Nat}(Y:Nat->Nat->T)(Z:Nat->T):bF many m Y++[D.lst (cE many Z)]=bF many (m+1) (wr Y m Z):=by
 unfold bF
 rw[List.range_succ,iC]
 congr 1
 ·apply cU
  intro i hi
  have:i≠m:=by have:=aX.mp hi;omega
  congr 1
  exact ux λg _=>by simp[wr,this]
 ·simp only[bC,jZ]
  congr 2
  exact ux λg _=>by simp[wr]
theorem KP {ns:List D}{as:List cB}{many:Nat}(h:fS many as)(hn:ns.length=many):∃p:List Nat,kc 4 "order" v7 (bw ns as) []=some (.lst (bv p))/\Kahn.Ok (W0 as) many p/\p.length=many/\∀g,g<many->g∈p:=by
 obtain⟨p,h1,h2⟩:=h.placed
 refine⟨p,?_,h2⟩
 rw[HE (by decide +kernel)]
 have f1:=j7 ns as
 have f2:=DQ ns as
 rw[←hn]at h1
 unfold v7
 clear hn h h2
 walk_at "mir"
theorem So {ns:List D}{as:List cB}{many:Nat}(hl:as.length<=1000)(hn:ns.length=many)(hm:many<=1000)(r:L3.Env)(hr:r[0]?.join=some (bw ns as)):ug r=some (.lst ((az many).map λg=>D.lst (bv (into as g)))):=by
 have e:eN d5 (aCons (e1 (cT [4] "names") (eV 0)) aNil) r=some (.int (many:Int)):=by
  have:eV 0 r=some (bw ns as):=hr
  have f1:=j7 ns as
  subst hn
  have e2:e1 (cT [4] "names") (eV 0) r=some (.lst ns):=by unfold e1;rw[this];exact f1
  unfold eN aCons
  rw[e2];rfl
 refine wq (λ(t:Nat)=>D.int (t:Int)) (λg=>D.lst (bv (into as g))) (az many) (t6 e (by omega)) (by rw[bZ];omega) λg _=>⟨_,rfl,?_⟩
 have hc:gx r [0]=[some (bw ns as)]:=by unfold gx;simp[hr]
 rw[hc]
 have h1:=V9 (ns:=ns) hl g
 have h2:kc 4 "into" uw (bw ns as) [.int (g:Int)]=some (.lst (bv (into as g))):=by rw[HE (by decide +kernel)];exact h1
 clear hn hl hm e
 walk_at "mir"
theorem Wb {ns:List D}{as:List cB}{many rounds:Nat}{d0 iz ma d:D}{past:Nat->Nat->T}{f:Nat->Nat->T}{n:Nat}(h:fS many as)(hn:ns.length=many)(hr:rounds<=1000)(ha:xx [bw ns as,iz]=some (.lst (bF many (dep as) past)))
  (hf:(ma=.non/\yt [.lst []]=some d)\/∃ds,ma=.lst ds/\yt [.lst ds]=some d) (hd:jA d n f) :
  ∃Y,wo [bw ns as,.int (rounds:Int),iz,ma]=some (.lst (bF many (dep as+rounds) Y))/\Run as many (dep as) rounds past f Y:=by
 obtain⟨p,hp,ok,ip,qH⟩:=KP h hn
 have er:=h.len
 have mY:=h.le
 have oB:=CL λa ha=>(h.right a ha).b
 have lR:=So (ns:=ns) (as:=as) (many:=many) (by omega) hn (by omega)
 have li:∀g,g<many->eF (.lst ((az many).map λg=>D.lst (bv (into as g)))) (.int (g:Int))=some (.lst (bv (into as g))):=λg hg=>uj (by simp[hg])
 generalize (D.lst ((az many).map λg=>D.lst (bv (into as g))))=N at lR li
 obtain⟨ρ',h1,Y,y8,y9,rq,rfl,run⟩:=Ky (g:=gV 8) (b:=ww) (lo:=0) (n:=rounds) (ρ:=[some (bw ns as),some (.int (rounds:Int)),some iz,some ma,some (.lst (bF many (dep as) past)),some d,some N,some (.lst (bv p)),none,none,none])
  (λr ρ=>∃Y y8 y9 rq,ρ=[some (bw ns as),some (.int (rounds:Int)),some iz,some ma,some (.lst (bF many (dep as+r) Y)),some d,some N,some (.lst (bv p)),y8,y9,rq]/\Run as many (dep as) r past f Y)
  ⟨past,none,none,none,rfl,λ_ _ _ _=>rfl,λr hr=>by omega⟩ (by
   rintro r ρ wA ⟨Y,y8,y9,rq,rfl,run⟩
   obtain⟨Z,z9,z10,hz,hZ⟩:=Ww (ns:=ns) (as:=as) (many:=many) (L:=dep as+r) (r:=r) (depth:=0) (rounds:=rounds) (Y:=wr Y (dep as+r) λ_=>none) (iz:=some iz) (ma:=some ma) (x9:=y9) (x10:=rq) (p:=p) hd (λa ha=>⟨by have:=HR ha;omega,(h.right a ha).s⟩) ok hn (by omega) N li
   have hw:wr (wr Y (dep as+r) λ_=>none) (dep as+r) Z=wr Y (dep as+r) Z:=by
    funext i g
    unfold wr
    by_cases hi:i=dep as+r<;>simp[hi]
   rw[hw]at hz hZ
   refine⟨_,_,rfl,.inl ?_,wr Y (dep as+r) Z,some (.int (r:Int)),z9,z10,rfl,?_,?_⟩
   ·have e0:(0:Int)+(r:Int)=(r:Int):=by omega
    have rp:jS (.lst [.non]) (.int (ns.length:Int))=some (.lst (cE many λ_=>none)):=by
     unfold jS
     dsimp only
     rw[if_pos ⟨by omega,by omega,by simp⟩]
     congr 2
     unfold cE
     rw[iA,bZ]
     simp[hn,cK]
    have sj:(bF many (dep as+r) Y).length<16777216:=by rw[G6];omega
    have W1:=Sn (many:=many) (m:=dep as+r) Y λ_=>none
    have f1:=j7 ns as
    rw[e0]
    unfold ww
    clear hZ hw li lR run qH ok hp h hn ha hf hd er mY oB hr wA
    walk_at "mir"
    rfl
   ·intro i hi g hg
    unfold wr
    rw[if_neg (by omega)]
    exact run.past i hi g hg
   ·intro r2 Gb g hg
    by_cases he:r2=r
    ·subst he
     have:wr Y (dep as+r2) Z (dep as+r2) g=Z g:=by simp[wr]
     rw[this]
     exact hZ g (qH g hg)
    ·have h3:wr Y (dep as+r) Z (dep as+r2) g=Y (dep as+r2) g:=by unfold wr;rw[if_neg (by omega)]
     rw[h3,run.rc r2 (by omega) g hg]
     refine Lq _ λa _ _=>?_
     unfold wr
     rw[if_neg (by omega)])
 refine⟨Y,?_,run⟩
 have r1:iL [.int (rounds:Int)]=some (gP 0 rounds):=by
  rw[Hj (by omega) (by omega)]
  simp
 have JH:=lR [some (bw ns as),some (.int (rounds:Int)),some iz,some ma,some (.lst (bF many (dep as) past)),some d,none,none,none,none,none] rfl
 unfold wo
 clear hd lR li run qH ok h hn er mY oB hr ip
 rcases hf with⟨rfl,hf⟩|⟨ds,rfl,hf⟩
 ·walk_at "mir"
 ·walk_at "mir"
theorem Sq {many k n:Nat}(Y:Nat->Nat->T)(h:n<=k):(bF many k Y).take n=bF many n Y:=by
 unfold bF
 rw[←sV,List.take_range,gq h]
theorem Sr {many k n:Nat}(Y:Nat->Nat->T):(bF many (n+k) Y).drop n=bF many k λr g=>Y (n+r) g:=by
 apply eJ
 ·simp[bF]
 ·intro i h1 h2
  simp only[bF,List.getElem_drop,fP,d7]
theorem Tj {many n:Nat}(Y:Nat->Nat->T):(bF many n Y).reverse=bF many n λi g=>Y (n-1-i) g:=by
 apply eJ
 ·simp[bF]
 ·intro i h1 h2
  simp only[bF,List.getElem_reverse,fP,d7,aD,bZ]
theorem QS {ns:List D}{as:List cB}{many:Nat}(h:fS many as)(hn:ns.length=many):xx [bw ns as,.non]=some (.lst (bF many (dep as) λ_ _=>some 0)):=by
 have er:=h.len
 have mY:=h.le
 have oB:=CL λa ha=>(h.right a ha).b
 have mo:=Hn (ns:=ns) (as:=as) (by omega)
 have q:∀r:L3.Env,r[0]?.join=some (bw ns as)->r[2]?.join=some (.int (dep as:Int))->qd r=some (.lst (bF many (dep as) λ_ _=>some 0)):=λr h0 h2=>by
  refine wq (λ(t:Nat)=>D.int (t:Int)) (λ_=>D.lst (cE many λ_=>some 0)) (az (dep as)) (t6 h2 (by omega)) (by rw[bZ];omega) λg _=>⟨_,rfl,?_⟩
  have hc:gx r [0]=[some (bw ns as)]:=by unfold gx;simp[h0]
  rw[hc]
  have rp:jS (.lst [.int 0]) (.int (ns.length:Int))=some (.lst (cE many λ_=>some 0)):=by
   unfold jS
   dsimp only
   rw[if_pos ⟨by omega,by omega,by simp⟩]
   congr 2
   unfold cE
   rw[iA,bZ]
   simp[hn,cK]
  have f1:=j7 ns as
  clear hn h er mY oB mo
  walk_at "mir"
 unfold xx
 clear h hn er mY oB
 walk_at "mir"
theorem Ri {ns:List D}{as:List cB}{many k:Nat}{w:Nat->Nat->T}(h:fS many as)(hk:dep as<=k):xx [bw ns as,.lst (bF many k w)]=some (.lst (bF many (dep as) λi g=>w (dep as-1-i) g)):=by
 have er:=h.len
 have oB:=CL λa ha=>(h.right a ha).b
 have mo:=Hn (ns:=ns) (as:=as) (by omega)
 have q:∀r:L3.Env,r[1]?.join=some (.lst (bF many k w))->r[2]?.join=some (.int (dep as:Int))->qc r=some (.lst (bF many (dep as) λi g=>w (dep as-1-i) g)):=λr h1 h2=>by
  refine wq (λ(i:Nat)=>D.lst (cE many λg=>w (dep as-1-i) g)) (λ(i:Nat)=>D.lst (cE many λg=>w (dep as-1-i) g)) (az (dep as)) ?_ (by rw[bZ];omega) λg _=>⟨_,rfl,rfl⟩
  have e1:eV 1 r=some (.lst (bF many k w)):=h1
  have e2:pInt (eV 2) r=some (some (dep as:Int)):=by unfold pInt;have:eV 2 r=some (.int (dep as:Int)):=h2;rw[this];rfl
  have e3:gB (.lst (bF many k w)) none (some (dep as:Int))=some (.lst (bF many (dep as) w)):=by
   rw[jz,RT _ (dep as),Sq w hk]
  have e4:(λρ=>((eV 1) ρ).bind λd=>(pNo ρ).bind λl=>((pInt (eV 2)) ρ).bind λh=>gB d l h) r=some (.lst (bF many (dep as) w)):=by
   show((eV 1) r).bind _=_
   rw[e1]
   show((pInt (eV 2)) r).bind _=_
   rw[e2]
   exact e3
  show((lsD _) r).bind _=_
  unfold lsD
  rw[e4]
  show some (bF many (dep as) w).reverse=_
  rw[Tj]
  rfl
 unfold xx
 clear h er oB hk
 walk_at "mir"
inductive qD (as:List cB)(many:Nat):D->(Nat->Nat->T)->Prop
 |no:qD as many .non λ_ _=>some 0
 |some (k:Nat) (w:Nat->Nat->T) (hk:dep as<=k):qD as many (.lst (bF many k w)) λi g=>w (dep as-1-i) g
inductive uG:D->(Nat->Nat->T)->Prop
 |no:uG .non λ_ _=>none
 |some (fs:List Fl) (h:fs.length<=1000):uG (.lst (fs.map i7)) (fl fs)
theorem Mx {ns:List D}{as:List cB}{many rounds:Nat}{iz ma:D}{past:Nat->Nat->T}{f:Nat->Nat->T}(h:fS many as)(hn:ns.length=many)(hr:rounds<=1000)(hw:qD as many iz past)(hf:uG ma f) :
  ∃Y,xC [bw ns as,.int (rounds:Int),iz,ma]=some (.lst (bF many rounds λr g=>Y (dep as+r) g))/\Run as many (dep as) rounds past f Y:=by
 have ha:xx [bw ns as,iz]=some (.lst (bF many (dep as) past)):=by
  cases hw with
  |no=>exact QS h hn
  |some k w hk=>exact Ri h hk
 obtain⟨d,Ja,hd2⟩:∃d,((ma=.non/\yt [.lst []]=some d)\/∃ds,ma=.lst ds/\yt [.lst ds]=some d)/\jA d 1000 f:=by
  cases hf with
  |no=>
   obtain⟨d,h1,h2⟩:=Mn [] (by simp)
   exact⟨d,.inl ⟨rfl,h1⟩,h2⟩
  |some fs hl=>
   obtain⟨d,h1,h2⟩:=Mn fs hl
   exact⟨d,.inr ⟨_,rfl,h1⟩,h2⟩
 obtain⟨Y,h1,h2⟩:=Wb (d0:=.non) h hn hr ha Ja hd2
 refine⟨Y,?_,h2⟩
 have mo:=Hn (ns:=ns) (as:=as) (by have:=h.len;omega)
 have e3:gB (.lst (bF many (dep as+rounds) Y)) (some (dep as:Int)) none=some (.lst (bF many rounds λr g=>Y (dep as+r) g)):=by
  rw[jz,RU _ (dep as),Sr]
 unfold xC
 clear h hn hr hw hf ha Ja hd2 h2
 walk_at "mir"
theorem Mp (ns:List Int)(i:Int)(hi:0<=i):∃c,wx [.lst (ns.map .int),.int i]=some (.int c):=by
 obtain⟨k,rfl⟩:∃k:Nat,i=k:=⟨i.toNat,by omega⟩
 unfold wx
 by_cases h:k<ns.length
 ·refine⟨ns[k],?_⟩
  have:eF (.lst (ns.map .int)) (.int (k:Int))=some (.int ns[k]):=T4 D.int (.inl rfl) (by simp[h])
  walk_at "mir"
 ·refine⟨0,?_⟩
  walk_at "mir"
theorem jc (c:Int){k:Int}(h0:0<=k)(h1:k<=1000000):∃r:Nat,yn [.int c,.int k]=some (.int (r:Int))/\r<2147483648:=by
 have m0:hV (.int 31) (.int k)=some (.int (31*k)):=zcv (by decide) (by decide)
 have s0:pR (.int c) (.int (1+31*k))=some (.int (c/2 ^ (1+31*k).toNat)):=zgj (by omega)
 have fin:∀z:Int,∀m:Int,0<m->m<=2147483648->∃r:Nat,(some (D.int (z%m)):Option D)=some (.int (r:Int))/\r<2147483648:=λz m hm rK=>by
  have a1:=Int.emod_nonneg z (by omega:m≠0)
  have a2:=Int.emod_lt_of_pos z hm
  exact⟨(z%m).toNat,by rw[Int.toNat_of_nonneg a1],by omega⟩
 generalize hn:(c+7919*k+1)*48271%2147483647=n1
 have b1:0<=n1/\n1<2147483647:=by omega
 have m1:hV (.int 7919) (.int k)=some (.int (7919*k)):=zcv (by decide) (by decide)
 have m2:hV (.int (c+7919*k+1)) (.int 48271)=some (.int ((c+7919*k+1)*48271)):=zmc (by decide) (by decide)
 have m3:hV (.int n1) (.int (n1/1009+69621))=some (.int (n1*(n1/1009+69621))):=zcv (by omega) (by omega)
 generalize tL:n1*(n1/1009+69621)%2147483647=n2
 have b2:0<=n2/\n2<2147483647:=by omega
 have m4:hV (.int n2) (.int (n2/2003+39373+k))=some (.int (n2*(n2/2003+39373+k))):=zcv (by omega) (by omega)
 unfold yn
 by_cases hr:(1237940039285380274899124224:Int)<=c
 ·by_cases tI:¬c%2=1
  ·obtain⟨r,e1,e2⟩:=fin (n2*(n2/2003+39373+k)) 2147483629 (by decide) (by decide)
   refine⟨r,?_,e2⟩
   rw[←e1]
   clear e1 e2 fin b1 b2 h0 h1 s0
   walk_at "mir"
  replace tI:c%2=1:=Classical.byContradiction tI
  by_cases hs:c/2 ^ (1+31*k).toNat > 0
  ·obtain⟨r,e1,e2⟩:=fin (c/2 ^ (1+31*k).toNat) 2147483648 (by decide) (by decide)
   refine⟨r,?_,e2⟩
   rw[←e1]
   generalize c/2 ^ (1+31*k).toNat=q at s0 hs
   clear e1 e2 fin hn tL b1 b2 h0 h1
   walk_at "mir"
  ·obtain⟨r,e1,e2⟩:=fin (n2*(n2/2003+39373+k)) 2147483629 (by decide) (by decide)
   refine⟨r,?_,e2⟩
   rw[←e1]
   generalize c/2 ^ (1+31*k).toNat=q at s0 hs
   clear e1 e2 fin b1 b2 h0 h1
   walk_at "mir"
 ·obtain⟨r,e1,e2⟩:=fin (n2*(n2/2003+39373+k)) 2147483629 (by decide) (by decide)
  refine⟨r,?_,e2⟩
  rw[←e1]
  clear e1 e2 fin b1 b2 h0 h1 s0
  walk_at "mir"
def sA (c k:Int):Nat:=match yn [.int c,.int k]with
 |some (.int r)=>r.toNat
 |_=>0
theorem UT (c:Int){k:Int}(h0:0<=k)(h1:k<=1000000):yn [.int c,.int k]=some (.int (sA c k:Int))/\sA c k<2147483648:=by
 obtain⟨r,h,hr⟩:=jc c h0 h1
 unfold sA
 rw[h]
 simpa using hr
theorem xS {p:List Nat}{i:Nat}(h:i<p.length):eF (.lst (bv p)) (.int (i:Int))=some (.int (p[i]:Int)):=uj (by simp[bv,h])
theorem Ks {p:List Nat}{i:Nat}(h:i<p.length)(x:Nat):iM (bv p) (i:Int) (.int (x:Int))=some (bv (p.set i x)):=by
 unfold iM bv
 rw[aD,L1 h]
 simp[List.map_set]
theorem Wc {many i j:Nat}{p:List Nat}{c:D}(hi:i<p.length)(hj:j<p.length):nH (tF 2 (eV 3)) (tF 2 (eV 4)) (aCons (e2 eF (eV 2) (eV 4)) (aCons (e2 eF (eV 2) (eV 3)) aNil)) [some (.int (many:Int)),some c,some (.lst (bv p)),some (.int (i:Int)),some (.int (j:Int))] =
  some (.nx [some (.int (many:Int)),some c,some (.lst (bv ((p.set i p[j]).set j p[i]))),some (.int (i:Int)),some (.int (j:Int))]):=by
 have a1:=xS hi
 have a2:=xS hj
 have s1:=Ks hi p[j]
 have s2:=Ks (p:=p.set i p[j]) (i:=j) (by rw[kW];exact hj) p[i]
 generalize bv ((p.set i p[j]).set j p[i])=u3,bv (p.set i p[j])=u2,bv p=u1 at *
 unfold nH tF
 walk_at "mir"
theorem Tl {many:Nat}(mZ:1<=many)(hm:many<=1000)(c:Int):∃p:List Nat,ui [.int (many:Int),.int c]=some (.lst (bv p))/\p.Perm (az many):=by
 have lr:mj [.int (many:Int)]=some (.lst (bv (az many))):=by
  unfold mj
  dsimp only
  rw[if_pos ⟨by omega,by omega⟩]
  unfold gP bv
  simp
 obtain⟨ρ',h1,p,x3,x4,rfl,hp⟩:=Ky (g:=gV 3) (b:=um) (lo:=0) (n:=many) (ρ:=[some (.int (many:Int)),some (.int c),some (.lst (bv (az many))),none,none])
  (λ_ ρ=>∃(p:List Nat) (x3 x4:Option D),ρ=[some (.int (many:Int)),some (.int c),some (.lst (bv p)),x3,x4]/\p.Perm (az many)) ⟨_,none,none,rfl,.refl _⟩ (by
   rintro j ρ hj ⟨p,x3,x4,rfl,hp⟩
   have hl:p.length=many:=by simpa using hp.length_eq
   obtain⟨m1,_⟩:=UT c (k:=50+(j:Int)) (by omega) (by omega)
   generalize sA c (50+(j:Int))=z at *
   have hz:z%many<many:=lV _ mZ
   have u1:eO (.int (z:Int)) (.int (many:Int))=some (.int ((z%many:Nat):Int)):=by rw[zac (by omega)];simp
   have oE:j<p.length:=by omega
   have A9:z%many<p.length:=by omega
   have sw:=Wc (many:=many) (c:=.int c) oE A9
   rw[Int.zero_add]
   refine⟨_,[some (.int (many:Int)),some (.int c),some (.lst (bv ((p.set j p[z%many]).set (z%many) p[j]))),some (.int (j:Int)),some (.int ((z%many:Nat):Int))],rfl,.inl ?_,_,_,_,rfl,(List.set_set_perm oE A9).trans hp⟩
   generalize bv ((p.set j p[z%many]).set (z%many) p[j])=u3,bv p=u1,((z%many:Nat):Int)=zz at *
   unfold um
   generalize nH (tF 2 (eV 3)) (tF 2 (eV 4)) (aCons (e2 eF (eV 2) (eV 4)) (aCons (e2 eF (eV 2) (eV 3)) aNil))=SW at *
   clear hp hl hz oE A9 hj
   walk_at "mir")
 refine⟨p,?_,hp⟩
 have r1:iL [.int (many:Int)]=some (gP 0 many):=by rw[Hj (by omega) (by omega)];simp
 generalize bv (az many)=u1,bv p=u2 at *
 unfold ui
 clear mZ hm hp
 walk_at "mir"
def ge (x:T)(v:Int):Prop:=∃y,x=some y/\v<=y
theorem Mq {a:T}(b:T){v:Int}(h:ge a v):ge (mx a b) v:=by
 obtain⟨y,rfl,hy⟩:=h
 cases b with
 |none=>exact⟨y,rfl,hy⟩
 |some j=>exact⟨_,rfl,by split<;>omega⟩
theorem VE (a:T){b:T}{v:Int}(h:ge b v):ge (mx a b) v:=by rw[UR];exact Mq a h
theorem Wx {x:T}{v:Int}(m:Int)(h:ge x v):ge (lt m x) (v+m):=by
 obtain⟨y,rfl,hy⟩:=h
 exact⟨y+m,rfl,by omega⟩
theorem HY {a b:T}{v:Int}:ge (mx a b) v↔ge a v\/ge b v:=by
 refine⟨λh=>?_,λh=>h.elim (Mq b) (VE a)⟩
 obtain⟨y,hy,hv⟩:=h
 cases a with
 |none=>exact .inr ⟨y,hy,hv⟩
 |some i=>
  cases b with
  |none=>exact .inl ⟨y,hy,hv⟩
  |some j=>
   simp only[mx,Option.some.injEq]at hy
   by_cases hj:j > i
   ·rw[if_pos hj]at hy;exact .inr ⟨j,rfl,by omega⟩
   ·rw[if_neg hj]at hy;exact .inl ⟨i,rfl,by omega⟩
theorem HS {x:T}{m v:Int}:ge (lt m x) v↔ge x (v-m):=by
 refine⟨λ⟨y,hy,hv⟩=>?_,λh=>?_⟩
 ·cases x with
  |none=>cases hy
  |some i=>cases hy;exact⟨i,rfl,by omega⟩
 ·have:=Wx m h
  rwa[show v-m+m=v by omega]at this
theorem Lr {α:Type}(F:α->T){v:Int}:∀(xs:List α) (w:T),ge (xs.foldl (λw a=>mx w (F a)) w) v↔ge w v\/∃a∈xs,ge (F a) v
 |[],w=>⟨.inl,λh=>h.elim id λ⟨a,ha,_⟩=>by cases ha⟩
 |x::xs,w=>by
  rw[dP,Lr F xs,HY]
  constructor
  ·rintro((h|h)|⟨a,ha,h⟩)
   ·exact .inl h
   ·exact .inr ⟨x,am,h⟩
   ·exact .inr ⟨a,ap _ ha,h⟩
  ·rintro(h|⟨a,ha,h⟩)
   ·exact .inl (.inl h)
   ·rcases aA.mp ha with rfl|ha
    ·exact .inl (.inr h)
    ·exact .inr ⟨a,ha,h⟩
theorem Eh {x y:T}(h:∀v,ge x v↔ge y v):x=y:=by
 cases x with
 |none=>
  cases y with
  |none=>rfl
  |some j=>obtain⟨_,z,_⟩:=(h j).mpr ⟨j,rfl,fZ _⟩;cases z
 |some i=>
  obtain⟨j,e1,h1⟩:=(h i).mp ⟨i,rfl,fZ _⟩
  subst e1
  obtain⟨k,e2,h2⟩:=(h j).mpr ⟨j,rfl,fZ _⟩
  cases e2
  congr 1;omega
theorem HF {i v:Int}:ge (some i) v↔v<=i:=⟨λ⟨_,e,h⟩=>by cases e;exact h,λh=>⟨i,rfl,h⟩⟩
theorem D6 {v:Int}:¬ge none v:=λ⟨_,e,_⟩=>by cases e
structure Sum (as:List cB)(many g0:Nat)(S:Nat->T):Prop where
 is:∀h,h<many->∀v,ge (S h) v↔(h=g0/\v<=0)\/∃a∈as,a.b=0/\a.g=h/\ge (S a.s) (v-a.t)
theorem UU {ns:List D}{as:List cB}{many x:Nat}{g0 od:D}{S:Nat->T}(hx:x<many)(hm:many<=1000)(hg:∀a∈as,a.g<many/\(a.b=0->a.s=x->a.g≠x))(y5:Option D):∃(S':Nat->T) (z5:Option D),
  gj (gV 5) yj (as.map bQ) [some (bw ns as),some g0,some od,some (.lst (cE many S)),some (.int (x:Int)),y5]=some (.nx [some (bw ns as),some g0,some od,some (.lst (cE many S')),some (.int (x:Int)),z5]) /\
  ∀h v,ge (S' h) v↔ge (S h) v\/∃a∈as,a.b=0/\a.s=x/\a.g=h/\ge (S x) (v-a.t):=by
 obtain⟨ρ',h1,pre,S',z5,e1,rfl,hS⟩:=uc (g:=gV 5) (b:=yj) (ds:=as.map bQ) (ρ:=[some (bw ns as),some g0,some od,some (.lst (cE many S)),some (.int (x:Int)),y5])
  (λds ρ=>∃(pre:List cB) (S':Nat->T) (z5:Option D),ds=pre.map bQ/\ρ=[some (bw ns as),some g0,some od,some (.lst (cE many S')),some (.int (x:Int)),z5]/\((∃post,as=pre++post)/\S' x=S x/\∀h v,ge (S' h) v↔ge (S h) v\/∃a∈pre,a.b=0/\a.s=x/\a.g=h/\ge (S x) (v-a.t)))
  ⟨[],S,y5,rfl,rfl,⟨as,rfl⟩,rfl,λh v=>⟨.inl,λz=>z.elim id λ⟨_,z,_⟩=>by cases z⟩⟩ (by
   rintro ds dd post ρ e ⟨pre,S',z5,rfl,rfl,⟨eT,e'⟩,AK,hS⟩
   obtain⟨a,ha,rfl⟩:∃a,as[pre.length]?=some a/\bQ a=dd:=by
    have:=yB e
    rw[aM,aD]at this
    exact bX.mp this
   have mL:a∈as:=bI.mpr ⟨_,ha⟩
   obtain⟨lf,iY⟩:=hg a mL
   have pM:∃lx,as=(pre++[a])++lx:=by
    refine⟨eT.tail,?_⟩
    rw[e']at ha
    rw[cR (ar _),nO]at ha
    cases eT with
    |nil=>cases ha
    |cons b p=>cases ha;rw[e'];simp
   have f1:=fs a
   have f2:=fg a
   have f3:=ft a
   have f4:=fb a
   by_cases hc:a.b=0/\a.s=x
   ·have q1:eF (.lst (cE many S')) (.int (a.g:Int))=some (cK (S' a.g)):=HD S' lf
    have q2:eF (.lst (cE many S')) (.int (x:Int))=some (cK (S x)):=by rw[←AK];exact HD S' hx
    have l1:=L4 (S x) a.t
    have l2:=DW (S' a.g) (lt a.t (S x))
    have st:=Hl S' lf (mx (S' a.g) (lt a.t (S x)))
    refine⟨_,[some (bw ns as),some g0,some od,some (.lst (cE many λy=>if y=a.g then mx (S' a.g) (lt a.t (S x))else S' y)),some (.int (x:Int)),some (bQ a)],rfl,.inl ?_,pre++[a],_,_,by simp,rfl,pM,?_,λh v=>?_⟩
    ·have c1:(a.b:Int)=0:=by omega
     have c2:(a.s:Int)=(x:Int):=by omega
     generalize cE many (λy=>if y=a.g then mx (S' a.g) (lt a.t (S x))else S' y)=V2,cE many S'=V1,cK (mx (S' a.g) (lt a.t (S x)))=m3,cK (lt a.t (S x))=m2,cK (S' a.g)=m1,cK (S x)=m0,bw ns as=nd,bQ a=ea at *
     unfold yj mn
     clear hS AK hg e e' pM ha mL lf iY hc
     rw[c1]at f4
     rw[c2]at f1
     walk_at "mir"
    ·rw[if_neg (λz=>iY hc.1 hc.2 z.symm)];exact AK
    ·by_cases hh:h=a.g
     ·subst hh
      rw[if_pos rfl,HY,hS,HS]
      constructor
      ·rintro((z|⟨b,hb,z⟩)|z)
       ·exact .inl z
       ·exact .inr ⟨b,aO _ hb,z⟩
       ·exact .inr ⟨a,by simp,hc.1,hc.2,rfl,z⟩
      ·rintro(z|⟨b,hb,z⟩)
       ·exact .inl (.inl z)
       ·rcases aU.mp hb with hb|hb
        ·exact .inl (.inr ⟨b,hb,z⟩)
        ·rw[aJ.mp hb]at z
         exact .inr z.2.2.2
     ·rw[if_neg hh,hS]
      constructor
      ·rintro(z|⟨b,hb,z⟩)
       ·exact .inl z
       ·exact .inr ⟨b,aO _ hb,z⟩
      ·rintro(z|⟨b,hb,z⟩)
       ·exact .inl z
       ·rcases aU.mp hb with hb|hb
        ·exact .inr ⟨b,hb,z⟩
        ·rw[aJ.mp hb]at z
         exact absurd z.2.2.1.symm hh
   ·refine⟨_,[some (bw ns as),some g0,some od,some (.lst (cE many S')),some (.int (x:Int)),some (bQ a)],rfl,.inl ?_,pre++[a],S',_,by simp,rfl,pM,AK,λh v=>?_⟩
    ·generalize cE many S'=V1 at *
     generalize bw ns as=nd,bQ a=ea at *
     unfold yj mn
     clear hS AK hg e e' pM ha mL lf iY
     by_cases c1:(a.b:Int)=0
     ·have c2:¬(a.s:Int)=(x:Int):=λz=>hc ⟨by omega,by omega⟩
      rw[c1]at f4
      clear hc
      generalize (a.s:Int)=sa at *
      walk_at "mir"
     ·clear hc
      generalize (a.b:Int)=ba at *
      walk_at "mir"
    ·rw[hS]
     constructor
     ·rintro(z|⟨b,hb,z⟩)
      ·exact .inl z
      ·exact .inr ⟨b,aO _ hb,z⟩
     ·rintro(z|⟨b,hb,z⟩)
      ·exact .inl z
      ·rcases aU.mp hb with hb|hb
       ·exact .inr ⟨b,hb,z⟩
       ·rw[aJ.mp hb]at z
        exact absurd ⟨z.1,z.2.1⟩ hc)
 have:pre=as:=by
  obtain⟨⟨post,e2⟩,_⟩:=hS
  have:as.length=pre.length:=by simpa using congrArg eZ e1
  rw[e2,bq]at this
  have:post=[]:=dX.mp (by omega)
  rw[e2,this,bV]
 rw[this]at hS
 exact⟨S',z5,h1,hS.2.2⟩
theorem VF {ns:List D}{as:List cB}{many g0:Nat}{p:List Nat}(hn:ns.length=many)(hm:many<=1000)(FN:g0<many)(hr:∀a∈as,a.g<many)(hs:∀a∈as,a.b=0->a.g≠a.s)(ok:Kahn.Ok (W0 as) many p)(all:∀g,g<many->g∈p)(hl:as.length<=1000)(Jk:∀a∈as,a.s<many) :
  ∃S,xg [bw ns as,.int (g0:Int),.lst (bv p)]=some (.lst (cE many S))/\Sum as many g0 S:=by
 obtain⟨ρ',h1,pre,S,z4,z5,e1,rfl,⟨post,e2⟩,hS⟩:=uc (g:=gV 4) (b:=xr) (ds:=bv p) (ρ:=[some (bw ns as),some (.int (g0:Int)),some (.lst (bv p)),some (.lst (cE many λy=>if y=g0 then some 0 else none)),none,none])
  (λds ρ=>∃(pre:List Nat) (S:Nat->T) (z4 z5:Option D),ds=bv pre/\ρ=[some (bw ns as),some (.int (g0:Int)),some (.lst (bv p)),some (.lst (cE many S)),z4,z5]/\(∃post,p=pre++post)/\∀h v,ge (S h) v↔(h=g0/\v<=0)\/∃a∈as,a.b=0/\a.g=h/\a.s∈pre/\ge (S a.s) (v-a.t))
  ⟨[],_,none,none,rfl,rfl,⟨p,rfl⟩,λh v=>by
   by_cases hh:h=g0
   ·rw[if_pos hh,HF]
    exact⟨λz=>.inl ⟨hh,z⟩,λz=>z.elim (·.2) λ⟨_,_,_,_,z,_⟩=>by cases z⟩
   ·rw[if_neg hh]
    exact⟨λz=>absurd z D6,λz=>z.elim (λz=>absurd z.1 hh) λ⟨_,_,_,_,z,_⟩=>by cases z⟩⟩ (by
   rintro ds dd post ρ e ⟨pre,S,z4,z5,rfl,rfl,⟨eT,e'⟩,hS⟩
   obtain⟨x,hx,rfl⟩:∃x,p[pre.length]?=some x/\D.int (x:Int)=dd:=by
    have:=yB e
    unfold bv at this
    rw[aM,aD]at this
    exact bX.mp this
   have xI:=ok.lt x (bI.mpr ⟨_,hx⟩)
   have mP:p.take pre.length=pre:=by rw[e',List.take_left]
   obtain⟨S',w5,h2,rH⟩:=UU (ns:=ns) (as:=as) (S:=S) (g0:=.int (g0:Int)) (od:=.lst (bv p)) xI hm (λa ha=>⟨hr a ha,λh0 h1=>by have:=hs a ha h0;omega⟩) z5
   have pM:∃lx,p=(pre++[x])++lx:=by
    refine⟨eT.tail,?_⟩
    rw[e']at hx
    rw[cR (ar _),nO]at hx
    cases eT with
    |nil=>cases hx
    |cons b p=>cases hx;rw[e'];simp
   have Jp:x∉pre:=λz=>by
    obtain⟨q,e3⟩:=pM
    have:=ok.nd
    rw[e3,bu,bu]at this
    exact this.1.2.2 x z x (by simp) rfl
   have old:∀y,y∈pre\/y=x->S' y=S y:=λy hy=>Eh λv=>by
    rw[rH]
    refine⟨λz=>z.elim id ?_,.inl⟩
    rintro⟨a,ha,hb,tN,Jd,_⟩
    exfalso
    rcases hy with hy|hy
    ·obtain⟨i,hi⟩:=bI.mp hy
     have AO:p[i]?=some y:=by rw[e',cy (aC.mp hi).1];exact hi
     have:=ok.ord i y AO a (bA.mpr ⟨ha,by simpa using hb⟩) Jd
     rw[tN]at this
     have mY:i<=pre.length:=iD (aC.mp hi).1
     have:x∈p.take pre.length:=(List.take_sublist_take_left mY).subset this
     rw[mP]at this
     exact Jp this
    ·exact hs a ha hb (by rw[Jd,tN,hy])
   refine⟨_,_,rfl,.inl ?_,pre++[x],S',some (.int (x:Int)),w5,by simp[bv],rfl,pM,λh v=>?_⟩
   ·have fa:=DQ ns as
    generalize cE many S'=V2 at *
    generalize cE many S=V1,bw ns as=nd,as.map bQ=EA at *
    unfold xr
    generalize yj=B1 at *
    clear hS rH old Jp pM mP xI hx e e' FN hn hm
    walk_at "mir"
   ·rw[rH,hS]
    constructor
    ·rintro((z|⟨a,ha,z1,z2,z3,z4⟩)|⟨a,ha,z1,z2,z3,z4⟩)
     ·exact .inl z
     ·exact .inr ⟨a,ha,z1,z2,aO _ z3,by rw[old _ (.inl z3)];exact z4⟩
     ·exact .inr ⟨a,ha,z1,z3,by rw[z2];simp,by rw[z2,old _ (.inr rfl)];exact z4⟩
    ·rintro(z|⟨a,ha,z1,z2,z3,z4⟩)
     ·exact .inl (.inl z)
     ·rcases aU.mp z3 with z3|z3
      ·exact .inl (.inr ⟨a,ha,z1,z2,z3,by rw[←old _ (.inl z3)];exact z4⟩)
      ·have z3:=aJ.mp z3
       exact .inr ⟨a,ha,z1,z3,z2,by rw[z3,old _ (.inr rfl)]at z4;exact z4⟩)
 have Dl:pre=p:=by
  have:p.length=pre.length:=by simpa[bv]using congrArg eZ e1
  rw[e2,bq]at this
  have:post=[]:=dX.mp (by omega)
  rw[e2,this,bV]
 refine⟨S,?_,⟨λh hh v=>?_⟩⟩
 ·have f1:=j7 ns as
  have l1:d5 [.lst ns]=some (.int (many:Int)):=(u5 _).trans (by rw[hn])
  have rp:jS (.lst [.non]) (.int (many:Int))=some (.lst (cE many λ_=>none)):=by
   unfold jS
   dsimp only
   rw[if_pos ⟨by omega,by omega,by simp⟩]
   congr 2
   unfold cE
   rw[iA,bZ]
   simp[hn,cK]
  have st:=Hl (n:=many) (λ_=>none) FN (some 0)
  have e0:cK (some 0)=.int 0:=rfl
  rw[e0]at st
  generalize cE many S=V2,cE many (λx=>if x=g0 then some 0 else none)=V1,cE many (λ_=>none)=V0,bw ns as=nd at *
  unfold xg mn
  generalize xr=B2,bv p=np at *
  clear hS e1 e2 Dl ok all FN hn hm hr hs hl Jk
  walk_at "mir"
 ·rw[hS]
  constructor
  ·rintro(z|⟨a,ha,z1,z2,_,z4⟩)
   ·exact .inl z
   ·exact .inr ⟨a,ha,z1,z2,z4⟩
  ·rintro(z|⟨a,ha,z1,z2,z4⟩)
   ·exact .inl z
   ·exact .inr ⟨a,ha,z1,z2,by rw[Dl];exact all _ (Jk a ha),z4⟩
def gE (b s h:Nat):List dw:=[.inl (b:Int),.inl (s:Int),.inl (h:Int)]
theorem Tn {b s h b' s' h':Nat}(e:gE b s h=gE b' s' h'):b=b'/\s=s'/\h=h':=by
 unfold gE at e
 simp only[List.cons.injEq,Sum.inl.injEq,and_true]at e
 omega
structure rD (d:D)(n:Nat)(f:Nat->Nat->Nat->T):Prop where
 is:∃ks ds,d=.dT ks ds/\ks.length=ds.length/\ks.length<=n/\ks.Nodup/\(∀k∈ks,∃b s h,k=gE b s h)/\∀b s h:Nat,gD ks ds (gE b s h)=(f b s h).map D.int
theorem rD.get {d:D}{n:Nat}{f:Nat->Nat->Nat->T}(h:rD d n f)(b s g:Nat):((il d (.tup [.int (b:Int),.int (s:Int),.int (g:Int)])).bind λr=>some (r.getD .non))=some (cK (f b s g)):=by
 obtain⟨ks,ds,rfl,h1,h2,h3,h4,h5⟩:=h.is
 show some ((gD ks ds (gE b s g)).getD .non)=_
 rw[h5]
 cases f b s g<;>rfl
theorem Ss {κ:Type}[DecidableEq κ]{ks:List κ}{ds:List D}(h:ks.Nodup)(k:κ)(d:D):(ef ks ds k d).1.Nodup/\∀x∈(ef ks ds k d).1,x∈ks\/x=k:=by
 unfold ef
 by_cases hc:ks.contains k=true
 ·rw[if_pos hc];exact⟨h,λx hx=>.inl hx⟩
 ·rw[if_neg hc]
  refine⟨bu.mpr ⟨h,by simp,λa ha b hb e=>hc (by rw[aJ]at hb;rw[nK,←hb,←e];exact ha)⟩,λx hx=>?_⟩
  rcases aU.mp hx with hx|hx
  ·exact .inl hx
  ·exact .inr (aJ.mp hx)
theorem rD.put {ks:List (List dw)}{ds:List D}{n:Nat}{f:Nat->Nat->Nat->T}(h:rD (.dT ks ds) n f)(b s g:Nat)(t:Int):rD (.dT (ef ks ds (gE b s g) (cK (mx (f b s g) (some t)))).1 (ef ks ds (gE b s g) (cK (mx (f b s g) (some t)))).2) (n+1) λb' s' g'=>if b'=b/\s'=s/\g'=g then mx (f b s g) (some t)else f b' s' g':=by
 obtain⟨sv,kP,e,h1,h2,h3,h4,h5⟩:=h.is
 cases e
 obtain⟨p1,p2⟩:=L5 h1 (gE b s g) (cK (mx (f b s g) (some t)))
 obtain⟨n1,n2⟩:=Ss (ds:=ds) h3 (gE b s g) (cK (mx (f b s g) (some t)))
 refine⟨_,_,rfl,p1,by omega,n1,λk hk=>?_,λb' s' g'=>?_⟩
 ·rcases n2 k hk with hk|hk
  ·exact h4 k hk
  ·exact⟨b,s,g,hk⟩
 ·rw[Lo h1]
  by_cases hc:b'=b/\s'=s/\g'=g
  ·obtain⟨rfl,rfl,rfl⟩:=hc
   rw[if_pos rfl,if_pos ⟨rfl,rfl,rfl⟩,Mm]
  ·rw[if_neg (λz=>hc (Tn z)),if_neg hc]
   exact h5 b' s' g'
theorem To (n:Nat)(f:Nat->T):eM 0 (cE n f)=(kK 0 n).map λ(h:Nat)=>D.tup [.int (h:Int),cK (f h)]:=by
 unfold cE
 rw[Hk,n8]
 apply fz
 intro i
 rw[aM,List.getElem?_zipIdx,aM]
 by_cases hi:i<n
 ·rw[List.getElem?_range' hi]
  simp
 ·rw[dc (by simpa using hi)]
  rfl
theorem L7 {g:D->L3.Env->Option L3.Env}{b:SF}{n:Nat}(enc:Nat->D)(I:Nat->L3.Env->Prop)(st:∀i ρ,i<n->I i ρ->∃ρ1 ρ2,g (enc i) ρ=some ρ1/\b ρ1=some (.nx ρ2)/\I (i+1) ρ2):∀(k j:Nat) (ρ:L3.Env),j+k=n->I j ρ->∃ρ',gj g b ((kK j k).map enc) ρ=some (.nx ρ')/\I n ρ'
 |0,j,ρ,e,h=>⟨ρ,rfl,by rw[←e];exact h⟩
 |k+1,j,ρ,e,h=>by
  obtain⟨ρ1,ρ2,h1,h2,h3⟩:=st j ρ (by omega) h
  obtain⟨ρ',h4,h5⟩:=L7 enc I st k (j+1) ρ2 (by omega) h3
  refine⟨ρ',?_,h5⟩
  rw[kB,bC]
  show((g (enc j) ρ).bind λρ1=>(b ρ1).bind _)=_
  rw[h1]
  show(b ρ1).bind _=_
  rw[h2]
  exact h4
theorem Tp {nd od sm d:D}{a:cB}{many n:Nat}{R:Nat->T}{f:Nat->Nat->Nat->T}(hd:rD d n f)(hn:n+many<16777216)(y5 y6 y7:Option D):∃(d':D) (f':Nat->Nat->Nat->T) (z5 z6 z7:Option D),
  gj (gT (gsCons (gV 5) (gsCons (gV 6) gsNil))) v8 (eM 0 (cE many R)) [some nd,some od,some sm,some d,some (bQ a),y5,y6,y7]=some (.nx [some nd,some od,some sm,some d',some (bQ a),z5,z6,z7])/\rD d' (n+many) f' /\
  ∀b s h v,ge (f' b s h) v↔ge (f b s h) v\/(b=a.b/\s=a.s/\h<many/\ge (R h) (v-a.t)):=by
 rw[To]
 obtain⟨ρ',h1,d',f',z5,z6,z7,rfl,nz,nB⟩:=L7 (g:=gT (gsCons (gV 5) (gsCons (gV 6) gsNil))) (b:=v8) (n:=many) (λ(h:Nat)=>D.tup [.int (h:Int),cK (R h)])
  (λi ρ=>∃(d':D) (f':Nat->Nat->Nat->T) (z5 z6 z7:Option D),ρ=[some nd,some od,some sm,some d',some (bQ a),z5,z6,z7]/\rD d' (n+i) f'/\∀b s h v,ge (f' b s h) v↔ge (f b s h) v\/(b=a.b/\s=a.s/\h<i/\ge (R h) (v-a.t))) (by
   rintro i ρ hi ⟨d',f',z5,z6,z7,rfl,nz,nB⟩
   have f1:=fs a
   have f3:=ft a
   have f4:=fb a
   cases hR:R i with
   |none=>
    refine⟨_,[some nd,some od,some sm,some d',some (bQ a),some (.int (i:Int)),some (cK (R i)),z7],rfl,?_,d',f',_,_,_,rfl,?_,λb s h v=>?_⟩
    ·rw[hR]
     generalize bQ a=ea at *
     unfold v8
     clear nz nB hd f1 f3 f4 hR
     simp only[cK]
     walk_at "mir"
    ·obtain⟨ks,ds,e,q1,q2,q3⟩:=nz.is
     exact⟨ks,ds,e,q1,by omega,q3⟩
    ·rw[nB]
     constructor
     ·rintro(z|z)
      ·exact .inl z
      ·exact .inr ⟨z.1,z.2.1,by omega,z.2.2.2⟩
     ·rintro(z|z)
      ·exact .inl z
      ·refine .inr ⟨z.1,z.2.1,?_,z.2.2.2⟩
       have:h≠i:=λe=>by rw[e,hR]at z;exact D6 z.2.2.2
       omega
   |some m=>
    have hg:=nz.get a.b a.s i
    obtain⟨ks,ds,rfl,k1,k2,k3,k4,k5⟩:=nz.is
    have hm:=DW (f' a.b a.s i) (some (a.t+m))
    have kR:ks.length<16777216:=by omega
    refine⟨_,[some nd,some od,some sm,some (.dT (ef ks ds (gE a.b a.s i) (cK (mx (f' a.b a.s i) (some (a.t+m))))).1 (ef ks ds (gE a.b a.s i) (cK (mx (f' a.b a.s i) (some (a.t+m))))).2),some (bQ a),some (.int (i:Int)),some (cK (R i)),some (.tup [.int (a.b:Int),.int (a.s:Int),.int (i:Int)])],rfl,?_,_,_,_,_,_,rfl,nz.put a.b a.s i (a.t+m),λb s h v=>?_⟩
    ·rw[hR]
     have he:cK (some (a.t+m))=.int (a.t+m):=rfl
     have Dg:cK (some m)=.int m:=rfl
     rw[he]at hm
     have hk:lm [.int (a.b:Int),.int (a.s:Int),.int (i:Int)]=some (gE a.b a.s i):=rfl
     rw[Dg]
     generalize cK (f' a.b a.s i)=z0,cK (mx (f' a.b a.s i) (some (a.t+m)))=z1,gE a.b a.s i=kk,bQ a=ea at *
     unfold v8 mm
     clear nz nB hd k1 k2 k3 k4 k5 hR he Dg
     walk_at "mir"
    ·show ge (if b=a.b/\s=a.s/\h=i then _ else _) v↔_
     by_cases hc:b=a.b/\s=a.s/\h=i
     ·obtain⟨rfl,rfl,rfl⟩:=hc
      rw[if_pos ⟨rfl,rfl,rfl⟩,HY,nB,HF,hR,HF]
      constructor
      ·rintro((z|z)|z)
       ·exact .inl z
       ·omega
       ·exact .inr ⟨rfl,rfl,by omega,by omega⟩
      ·rintro(z|z)
       ·exact .inl (.inl z)
       ·exact .inr (by omega)
     ·rw[if_neg hc,nB]
      constructor
      ·rintro(z|z)
       ·exact .inl z
       ·exact .inr ⟨z.1,z.2.1,by omega,z.2.2.2⟩
      ·rintro(z|z)
       ·exact .inl z
       ·exact .inr ⟨z.1,z.2.1,by have:h≠i:=λe=>hc ⟨z.1,z.2.1,e⟩;omega,z.2.2.2⟩)
  many 0 [some nd,some od,some sm,some d,some (bQ a),y5,y6,y7] (by omega) ⟨d,f,y5,y6,y7,rfl,hd,λb s h v=>⟨.inl,λz=>z.elim id λz=>by omega⟩⟩
 exact⟨d',f',z5,z6,z7,h1,nz,nB⟩
theorem UV {ns:List D}{as:List cB}{many:Nat}(h:fS many as)(hn:ns.length=many):∃(d:D) (f:Nat->Nat->Nat->T) (S:Nat->Nat->T),vn [bw ns as]=some d/\rD d 10000 f/\(∀g,g<many->Sum as many g (S g)) /\
  ∀b s h v,ge (f b s h) v↔∃a∈as,a.b=b/\0<b/\a.s=s/\h<many/\ge (S a.g h) (v-a.t):=by
 have mZ:=h.pos
 have hm:=h.le
 have NK:=h.len
 obtain⟨p,mo,ok,pl,all⟩:=KP h hn
 obtain⟨rank,tM⟩:=h.rank
 have key:∀g,∃S,g<many->xg [bw ns as,.int (g:Int),.lst (bv p)]=some (.lst (cE many S))/\Sum as many g S:=λg=>by
  by_cases hg:g<many
  ·obtain⟨S,h1,h2⟩:=VF (ns:=ns) (p:=p) hn (by omega) hg (λa ha=>(h.right a ha).g) (λa ha hb e=>by have:=tM a ha hb;rw[e]at this;omega) ok all (by omega) λa ha=>(h.right a ha).s
   exact⟨S,λ_=>⟨h1,h2⟩⟩
  ·exact⟨λ_=>none,λz=>absurd z hg⟩
 obtain⟨S,hS⟩:=Classical.axiomOfChoice key
 have f1:=j7 ns as
 have f2:=DQ ns as
 have l1:d5 [.lst ns]=some (.int (many:Int)):=(u5 _).trans (by rw[hn])
 have q:G5 [some (bw ns as),some (.lst (bv p)),none,none,none,none,none,none]=some (.lst ((az many).map λg=>D.lst (cE many (S g)))):=by
  refine wq (λ(t:Nat)=>D.int (t:Int)) _ (az many) (t6 ?_ (by omega)) (by simp;omega) λg hg=>⟨[some (.int (g:Int)),some (bw ns as),some (.lst (bv p))],rfl,?_⟩
  ·generalize bw ns as=nd at *
   clear hS key mo ok all
   walk_at "mir"
  ·have:=(hS g (aX.mp hg)).1
   generalize bw ns as=nd,cE many (S g)=V at *
   clear hS key mo ok all hg
   walk_at "mir"
 obtain⟨ρ',h1,pre,d,f,y4,y5,y6,y7,e1,rfl,⟨post,e2⟩,hd,hf⟩:=uc (g:=gV 4) (b:=ju) (ds:=as.map bQ) (ρ:=[some (bw ns as),some (.lst (bv p)),some (.lst ((az many).map λg=>D.lst (cE many (S g)))),some (.dT [] []),none,none,none,none])
  (λds ρ=>∃(pre:List cB) (d:D) (f:Nat->Nat->Nat->T) (y4 y5 y6 y7:Option D),ds=pre.map bQ/\ρ=[some (bw ns as),some (.lst (bv p)),some (.lst ((az many).map λg=>D.lst (cE many (S g)))),some d,y4,y5,y6,y7]/\(∃post,as=pre++post)/\rD d (pre.length*many) f /\
   ∀b s h v,ge (f b s h) v↔∃a∈pre,a.b=b/\0<b/\a.s=s/\h<many/\ge (S a.g h) (v-a.t))
  ⟨[],_,λ_ _ _=>none,none,none,none,none,rfl,rfl,⟨as,rfl⟩,⟨[],[],rfl,rfl,by simp,bD,nofun,λ_ _ _=>rfl⟩,λb s h v=>⟨λz=>absurd z D6,λ⟨_,z,_⟩=>by cases z⟩⟩ (by
   rintro ds dd post ρ e ⟨pre,d,f,y4,y5,y6,y7,rfl,rfl,⟨eT,e'⟩,hd,hf⟩
   obtain⟨a,ha,rfl⟩:∃a,as[pre.length]?=some a/\bQ a=dd:=by
    have:=yB e
    rw[aM,aD]at this
    exact bX.mp this
   have mL:a∈as:=bI.mpr ⟨_,ha⟩
   have ip:pre.length<as.length:=(aC.mp ha).1
   have lf:=(h.right a mL).g
   have pM:∃lx,as=(pre++[a])++lx:=by
    refine⟨eT.tail,?_⟩
    rw[e']at ha
    rw[cR (ar _),nO]at ha
    cases eT with
    |nil=>cases ha
    |cons b p=>cases ha;rw[e'];simp
   have g2:=fg a
   have g4:=fb a
   have bound:pre.length*many+many<=10000:=by
    have:pre.length*many<=119*40:=lW (by omega) hm
    omega
   have more:(pre++[a]).length*many=pre.length*many+many:=by rw[bq,fK,nQ]
   by_cases hb:0<a.b
   ·obtain⟨d',f',z5,z6,z7,lp,nz,nB⟩:=Tp (nd:=bw ns as) (od:=.lst (bv p)) (sm:=.lst ((az many).map λg=>D.lst (cE many (S g)))) (a:=a) (many:=many) (R:=S a.g) hd (by omega) y5 y6 y7
    have ix:eF (.lst ((az many).map λg=>D.lst (cE many (S g)))) (.int (a.g:Int))=some (.lst (cE many (S a.g))):=uj (by rw[aM,dz lf];rfl)
    refine⟨_,_,rfl,.inl ?_,pre++[a],d',f',some (bQ a),z5,z6,z7,by simp,rfl,pM,by rw[more];exact nz,λb s h v=>?_⟩
    ·have c1:(a.b:Int) > 0:=by omega
     generalize cE many (S a.g)=V,((az many).map λg=>D.lst (cE many (S g)))=SL,bw ns as=nd,bQ a=ea,(a.b:Int)=ab at *
     unfold ju
     generalize v8=B1 at *
     clear hd hf nz nB e e' pM ha mL lf bound more hb hS key mo ok all q
     walk_at "mir"
    ·rw[nB,hf]
     constructor
     ·rintro(⟨c,hc,z⟩|⟨z1,z2,z3,z4⟩)
      ·exact⟨c,aO _ hc,z⟩
      ·exact⟨a,by simp,z1.symm,by omega,z2.symm,z3,z4⟩
     ·rintro⟨c,hc,z⟩
      rcases aU.mp hc with hc|hc
      ·exact .inl ⟨c,hc,z⟩
      ·rw[aJ.mp hc]at z
       exact .inr ⟨z.1.symm,z.2.2.1.symm,z.2.2.2.1,z.2.2.2.2⟩
   ·refine⟨_,_,rfl,.inl ?_,pre++[a],d,f,some (bQ a),y5,y6,y7,by simp,rfl,pM,?_,λb s h v=>?_⟩
    ·have c1:¬(a.b:Int) > 0:=by omega
     generalize ((az many).map λg=>D.lst (cE many (S g)))=SL,bw ns as=nd,bQ a=ea,(a.b:Int)=ab at *
     unfold ju
     generalize v8=B1 at *
     clear hd hf e e' pM ha mL lf bound more hb hS key mo ok all q
     walk_at "mir"
    ·obtain⟨ks,ds,e,q1,q2,q3⟩:=hd.is
     exact⟨ks,ds,e,q1,by rw[more];omega,q3⟩
    ·rw[hf]
     constructor
     ·rintro⟨c,hc,z⟩
      exact⟨c,aO _ hc,z⟩
     ·rintro⟨c,hc,z⟩
      rcases aU.mp hc with hc|hc
      ·exact⟨c,hc,z⟩
      ·rw[aJ.mp hc]at z
       omega)
 have Dl:pre=as:=by
  have:as.length=pre.length:=by simpa using congrArg eZ e1
  rw[e2,bq]at this
  have:post=[]:=dX.mp (by omega)
  rw[e2,this,bV]
 subst Dl
 refine⟨d,f,S,?_,?_,λg hg=>(hS g hg).2,hf⟩
 ·generalize ((az many).map λg=>D.lst (cE many (S g)))=SL at *
  generalize bw ns pre=nd,pre.map bQ=EA at *
  unfold vn
  generalize ju=B2,G5=Q at *
  clear hd hf hS key ok all e1 e2 tM h
  walk_at "mir"
 ·obtain⟨ks,ds,e,q1,q2,q3⟩:=hd.is
  have:pre.length*many<=120*40:=lW NK hm
  exact⟨ks,ds,e,q1,by omega,q3⟩
theorem yF {x:T}{v w:Int}(h:ge x v)(hw:w<=v):ge x w:=by
 obtain⟨y,e,hy⟩:=h
 exact⟨y,e,by omega⟩
theorem Run.gei {as:List cB}{many rounds:Nat}{past Y:Nat->Nat->T}(hr:Run as many (dep as) rounds past (λ_ _=>none) Y){r g:Nat}(wA:r<rounds)(hg:g<many)(v:Int):ge (Y (dep as+r) g) v↔∃a∈as,a.g=g/\ge (Y (dep as+r-a.b) a.s) (v-a.t):=by
 rw[hr.rc r wA g hg]
 unfold tm
 rw[Lr (λa:cB=>lt a.t (Y (dep as+r-a.b) a.s))]
 constructor
 ·rintro(z|⟨a,ha,z⟩)
  ·exact absurd z D6
  ·obtain⟨h1,h2⟩:=bA.mp ha
   exact⟨a,h1,by simpa using h2,HS.mp z⟩
 ·rintro⟨a,ha,hg,z⟩
  exact .inr ⟨a,bA.mpr ⟨ha,by simpa using hg⟩,HS.mpr z⟩
theorem R4 {as:List cB}{many rounds:Nat}{past Y:Nat->Nat->T}(h:fS many as)(hr:Run as many (dep as) rounds past (λ_ _=>none) Y){S:Nat->Nat->T}(hS:∀g,g<many->Sum as many g (S g)){r:Nat}(wA:r<rounds) :
  ∀g,g<many->∀v,ge (Y (dep as+r) g) v↔∃a∈as,0<a.b/\∃u,ge (Y (dep as+r-a.b) a.s) u/\ge (S a.g g) (v-a.t-u):=by
 obtain⟨rank,tM⟩:=h.rank
 have main:∀k g,rank g<k->g<many->∀v,ge (Y (dep as+r) g) v↔∃a∈as,0<a.b/\∃u,ge (Y (dep as+r-a.b) a.s) u/\ge (S a.g g) (v-a.t-u):=by
  intro k
  induction k with
  |zero=>intro g hk;omega
  |succ k ih=>
   intro g hk hg v
   rw[hr.gei wA hg]
   constructor
   ·rintro⟨a,ha,lf,z⟩
    have Do:=h.right a ha
    by_cases hb:a.b=0
    ·have hs:rank a.s<k:=by have:=tM a ha hb;rw[lf]at this;omega
     rw[hb,nP,ih a.s hs Do.s]at z
     obtain⟨c,hc,FE,u,z1,z2⟩:=z
     refine⟨c,hc,FE,u,z1,((hS c.g (h.right c hc).g).is g hg _).mpr (.inr ⟨a,ha,hb,lf,?_⟩)⟩
     rwa[show v-c.t-u-a.t=v-a.t-c.t-u by omega]
    ·refine⟨a,ha,by omega,v-a.t,z,((hS a.g Do.g).is g hg _).mpr (.inl ⟨lf.symm,by omega⟩)⟩
   ·rintro⟨c,hc,FE,u,z1,z2⟩
    have Oj:=h.right c hc
    rcases((hS c.g Oj.g).is g hg _).mp z2 with⟨e,z⟩|⟨a,ha,hb,lf,z⟩
    ·exact⟨c,hc,e.symm,yF z1 (by omega)⟩
    ·have Do:=h.right a ha
     have hs:rank a.s<k:=by have:=tM a ha hb;rw[lf]at this;omega
     refine⟨a,ha,lf,?_⟩
     rw[hb,nP,ih a.s hs Do.s]
     refine⟨c,hc,FE,u,z1,?_⟩
     rwa[show v-a.t-c.t-u=v-c.t-u-a.t by omega]
 exactλg hg=>main (rank g+1) g (by omega) hg
theorem CG {ks:List (List dw)}{ds:List D}(nd:ks.Nodup){k:List dw}{d:D}:(k,d)∈ks.zip ds↔gD ks ds k=some d:=by
 unfold gD
 constructor
 ·intro hm
  cases hf:(ks.zip ds).find? λp=>decide (p.1=k)with
  |none=>
   have:=jL.mp hf _ hm
   simp at this
  |some q=>
   have h1:=iB hf
   have h2:=lU hf
   have h1:q.1=k:=by simpa using h1
   obtain⟨i,hi,e1⟩:=bB.mp hm
   obtain⟨j,hj,e2⟩:=bB.mp h2
   rw[cY]at hi hj
   have k1:ks[i]=k:=by have:=congrArg Prod.fst e1;simpa using this
   have k2:ks[j]=k:=by have:=congrArg Prod.fst e2;rw[h1]at this;simpa using this
   have:i=j:=(eK (xs:=ks) (h₀:=by omega) (h₁:=by omega) nd).mp (k1.trans k2.symm)
   subst this
   rw[e1]at e2
   rw[←e2];rfl
 ·intro h
  cases hf:(ks.zip ds).find? λp=>decide (p.1=k)with
  |none=>rw[hf]at h;cases h
  |some q=>
   rw[hf]at h
   have h1:=iB hf
   have h2:=lU hf
   have h1:q.1=k:=by simpa using h1
   have h:q.2=d:=by simpa using h
   rw[←h1,←h]
   exact h2
theorem oJ {α:Type}[DecidableEq α]:∀{xs ys:List α},xs.Nodup->(∀x∈xs,x∈ys)->xs.length<=ys.length
 |[],_,_,_=>cw _
 |x::xs,ys,nd,h=>by
  obtain⟨h1,h2⟩:=bW.mp nd
  have hx:=h x am
  have ih:=oJ (xs:=xs) (ys:=ys.erase x) h2 λy hy=>(List.mem_erase_of_ne (a:=y) (b:=x) (λz=>h1 (by rw[←z];exact hy))).mpr (h y (ap _ hy))
  rw[List.length_erase_of_mem hx]at ih
  have:=List.length_pos_of_mem hx
  rw[aP]
  omega
structure jE (as:List cB)(many:Nat)(ks:List (List dw))(ds:List D)(f:Nat->Nat->Nat->T):Prop where
 len:ks.length=ds.length
 nd:ks.Nodup
 key:∀k∈ks,∃b s h,k=gE b s h
 get:∀b s h:Nat,gD ks ds (gE b s h)=(f b s h).map D.int
 sum:∃S:Nat->Nat->T,(∀g,g<many->Sum as many g (S g))/\∀b s h v,ge (f b s h) v↔∃a∈as,a.b=b/\0<b/\a.s=s/\h<many/\ge (S a.g h) (v-a.t)
theorem Mr {ns:List D}{as:List cB}{many:Nat}(h:fS many as)(hn:ns.length=many):∃ks ds f,vn [bw ns as]=some (.dT ks ds)/\jE as many ks ds f:=by
 obtain⟨d,f,S,h1,h2,h3,h4⟩:=UV h hn
 obtain⟨ks,ds,rfl,k1,k2,k3,k4,k5⟩:=h2.is
 exact⟨ks,ds,f,h1,k1,k3,k4,k5,S,h3,h4⟩
theorem jE.mem {as:List cB}{many:Nat}{ks:List (List dw)}{ds:List D}{f:Nat->Nat->Nat->T}(h:jE as many ks ds f){b s g:Nat}:gE b s g∈ks↔∃m,f b s g=some m:=by
 constructor
 ·intro hm
  obtain⟨i,hi,e⟩:=bB.mp hm
  have hd:i<ds.length:=by rw[←h.len];exact hi
  have hz:(gE b s g,ds[i])∈ks.zip ds:=bB.mpr ⟨i,by rw[cY];omega,by simp[e]⟩
  have:=(CG h.nd).mp hz
  rw[h.get]at this
  cases hf:f b s g with
  |none=>rw[hf]at this;cases this
  |some m=>exact⟨m,rfl⟩
 ·rintro⟨m,e⟩
  have:=h.get b s g
  rw[e]at this
  exact(dn ((CG h.nd).mpr this)).1
theorem jE.few {as:List cB}{many:Nat}{ks:List (List dw)}{ds:List D}{f:Nat->Nat->Nat->T}(h:jE as many ks ds f)(hr:∀a∈as,a.g<many):ks.length<=(as.filter λa=>decide (0<a.b)).length*(1+(as.filter λa=>decide (a.b=0)).length):=by
 obtain⟨S,hS,hf⟩:=h.sum
 have key:=oJ (xs:=ks) (ys:=(as.filter λa=>decide (0<a.b)).flatMap λa=>(a.g::(as.filter λa=>decide (a.b=0)).map (·.g)).map λg=>gE a.b a.s g) h.nd λk hk=>by
  obtain⟨b,s,g,rfl⟩:=h.key k hk
  obtain⟨m,e⟩:=h.mem.mp hk
  obtain⟨a,ha,e1,e2,e3,e4,z⟩:=(hf b s g m).mp ⟨m,e,fZ _⟩
  refine List.mem_flatMap.mpr ⟨a,bA.mpr ⟨ha,by simp;omega⟩,bH.mpr ⟨g,?_,by rw[e1,e3]⟩⟩
  rcases((hS a.g (hr a ha)).is g e4 _).mp z with⟨e5,_⟩|⟨c,hc,c1,c2,_⟩
  ·rw[e5];exact am
  ·exact ap _ (bH.mpr ⟨c,bA.mpr ⟨hc,by simpa using c1⟩,c2⟩)
 refine cm key (nN ?_)
 generalize (as.filter λa=>decide (a.b=0))=zs
 induction (as.filter λa=>decide (0<a.b))with
 |nil=>simp
 |cons x xs ih=>
  rw[List.flatMap_cons,bq,ih,aD,aP,aD,aP,nQ]
  omega
theorem VG {as:List cB}{n:Nat}(h:as.length<=n)(hn:n<=9):(as.filter λa=>decide (0<a.b)).length*(1+(as.filter λa=>decide (a.b=0)).length)<=25:=by
 have e:(as.filter λa=>decide (0<a.b)).length+(as.filter λa=>decide (a.b=0)).length=as.length:=by
  clear h
  induction as with
  |nil=>rfl
  |cons a as ih=>
   rw[gY,gY]
   by_cases c:a.b=0
   ·rw[if_neg (by simp;omega),if_pos (by simpa using c),aP,aP];omega
   ·rw[if_pos (by simp;omega),if_neg (by simpa using c),aP,aP];omega
 have:∀x y:Nat,x<=9->y<=9->x+y<=9->x*(1+y)<=25:=by
  have:∀x,x<10->∀y,y<10->x+y<=9->x*(1+y)<=25:=by decide
  exactλx y hx hy=>this x (by omega) y (by omega)
 exact this _ _ (by omega) (by omega) (by omega)
theorem Kt {α:Type}{g:D->L3.Env->Option L3.Env}{b:SF}(enc:α->D)(I:L3.Env->Prop)(N:α->Prop)(R:α->D->Prop):∀(xs:List α) (ρ:L3.Env),I ρ->(∀x∈xs,∀ρ,I ρ->∃ρ1,g (enc x) ρ=some ρ1/\((N x/\∃ρ2,b ρ1=some (.nx ρ2)/\I ρ2)\/∃w,R x w/\b ρ1=some (.rt w))) ->
  ((∀x∈xs,N x)/\∃ρ',gj g b (xs.map enc) ρ=some (.nx ρ')/\I ρ')\/∃pre x post w,xs=pre++x::post/\(∀y∈pre,N y)/\R x w/\gj g b (xs.map enc) ρ=some (.rt w)
 |[],ρ,h,_=>.inl ⟨λ_ h=>(by cases h),ρ,rfl,h⟩
 |x::xs,ρ,h,st=>by
  obtain⟨ρ1,h1,h2⟩:=st x am ρ h
  have xN:gj g b ((x::xs).map enc) ρ=(g (enc x) ρ).bind λρ1=>(b ρ1).bind λo=>match o with
    |.nx ρ'=>gj g b (xs.map enc) ρ'
    |.ct ρ'=>gj g b (xs.map enc) ρ'
    |.bk ρ'=>some (.nx ρ')
    |.rt d=>some (.rt d):=rfl
  rw[xN,h1,bM]
  rcases h2 with⟨e,ρ2,h2,h3⟩|⟨w,e,h2⟩
  ·rw[h2,bM]
   rcases Kt enc I N R xs ρ2 h3 λy hy=>st y (ap _ hy)with⟨a1,ρ',a2,a3⟩|⟨pre,z,post,w,a1,a2,a3,a4⟩
   ·refine .inl ⟨λy hy=>?_,ρ',a2,a3⟩
    rcases aA.mp hy with rfl|hy
    ·exact e
    ·exact a1 y hy
   ·refine .inr ⟨x::pre,z,post,w,by rw[a1];rfl,λy hy=>?_,a3,a4⟩
    rcases aA.mp hy with rfl|hy
    ·exact e
    ·exact a2 y hy
  ·rw[h2]
   exact .inr ⟨[],x,xs,w,rfl,λ_ h=>(by cases h),e,rfl⟩
def kI:dw->Int
 |.inl i=>i
 |.inr _=>0
theorem jE.list {as:List cB}{many:Nat}{ks:List (List dw)}{ds:List D}{f:Nat->Nat->Nat->T}(h:jE as many ks ds f):nD [.dT ks ds]=some (.lst ((ks.map λk=>k.map kI).map dF)):=by
 show(if ks.length=ds.length then some (D.lst (ks.map λk=>.tup (k.map kD)))else none)=_
 rw[if_pos h.len,df]
 congr 2
 refine cU λk hk=>?_
 obtain⟨b,s,g,rfl⟩:=h.key k hk
 rfl
theorem jE.get1 {as:List cB}{many:Nat}{ks:List (List dw)}{ds:List D}{f:Nat->Nat->Nat->T}(h:jE as many ks ds f)(b s g:Nat):((il (.dT ks ds) (dF [(b:Int),s,g])).bind λr=>some (r.getD .non))=some (cK (f b s g)):=by
 show some ((gD ks ds (gE b s g)).getD .non)=_
 rw[h.get]
 cases f b s g<;>rfl
theorem jE.in{as:List cB}{many:Nat}{ks:List (List dw)}{ds:List D}{f:Nat->Nat->Nat->T}(h:jE as many ks ds f){k:List Int}(hk:k∈ks.map λk=>k.map kI):∃b s g:Nat,k=[(b:Int),s,g]/\∃m,f b s g=some m:=by
 obtain⟨k',FR,e⟩:=bH.mp hk
 obtain⟨b,s,g,rfl⟩:=h.key k' FR
 exact⟨b,s,g,e.symm,h.mem.mp FR⟩
theorem Tq {na nb:List D}{as bs:List cB}{many:Nat}{k1 k2:List (List dw)}{d1 d2:List D}{f1 f2:Nat->Nat->Nat->T}(ha:vn [bw na as]=some (.dT k1 d1))(hb:vn [bw nb bs]=some (.dT k2 d2))
  (s1:jE as many k1 d1 f1) (s2:jE bs many k2 d2 f2) (ln:na.length=nb.length) (few:k1.length+k2.length<64) :
  ∃w,CC [bw na as,bw nb bs]=some w/\((w=.non/\∀b s g,f1 b s g=f2 b s g)\/∃b s g:Nat,w=.tup [.int (b:Int),.int (s:Int),.int (g:Int)]/\f1 b s g≠f2 b s g):=by
 have q1:=s1.list
 have q2:=s2.list
 have vO:((k1.map λk=>k.map kI)++(k2.map λk=>k.map kI)).length<64:=by simpa using few
 have vN:((k1.map λk=>k.map kI).map dF).length+((k2.map λk=>k.map kI).map dF).length<=16777216:=by simp;omega
 have mem:∀k,k∈(k1.map λk=>k.map kI)++(k2.map λk=>k.map kI)->∃b s g:Nat,k=[(b:Int),s,g]:=by
  intro k hk
  rcases aU.mp hk with hk|hk
  ·obtain⟨b,s,g,e,_⟩:=s1.in hk;exact⟨b,s,g,e⟩
  ·obtain⟨b,s,g,e,_⟩:=s2.in hk;exact⟨b,s,g,e⟩
 have all:∀b s g,f1 b s g≠f2 b s g->[(b:Int),(s:Int),(g:Int)]∈(k1.map λk=>k.map kI)++(k2.map λk=>k.map kI):=by
  intro b s g iY
  cases e1:f1 b s g with
  |some m=>exact aO _ (bH.mpr ⟨gE b s g,s1.mem.mpr ⟨m,e1⟩,rfl⟩)
  |none=>
   cases e2:f2 b s g with
   |some m=>exact aE _ (bH.mpr ⟨gE b s g,s2.mem.mpr ⟨m,e2⟩,rfl⟩)
   |none=>exact absurd (e1.trans e2.symm) iY
 have aL:eX (.lst ((k1.map λk=>k.map kI).map dF)) (.lst ((k2.map λk=>k.map kI).map dF))=some (.lst (((k1.map λk=>k.map kI)++(k2.map λk=>k.map kI)).map dF)):=by
  show(if _ then some (D.lst _)else none)=_
  rw[if_pos vN,iC]
 generalize hK:(k1.map λk=>k.map kI)++(k2.map λk=>k.map kI)=ks at *
 have so:rl [.lst (ks.map dF)]=some (.lst ((i8 ks).map dF)):=by
  show((lC (ks.map dF)).bind λks=>if ks.length<64/\∀k∈ks,k≠[]then some (D.lst ((i8 ks).map dF))else none)=_
  rw[K6,bM,if_pos ⟨vO,λk hk=>by obtain⟨b,s,g,rfl⟩:=mem k hk;exact List.cons_ne_nil _ _⟩]
 have lp:=Kt (g:=gV 4) (b:=vx) dF (λρ=>∃y4,ρ=[some (bw na as),some (bw nb bs),some (.dT k1 d1),some (.dT k2 d2),y4])
  (λk=>∀b s g:Nat,k=[(b:Int),s,g]->f1 b s g=f2 b s g) (λk w=>∃b s g:Nat,k=[(b:Int),s,g]/\w=dF k/\f1 b s g≠f2 b s g) (i8 ks) [some (bw na as),some (bw nb bs),some (.dT k1 d1),some (.dT k2 d2),none] ⟨_,rfl⟩ (by
  rintro k hk ρ ⟨y4,rfl⟩
  obtain⟨b,s,g,rfl⟩:=mem k ((j4 ks).mem_iff.mp hk)
  refine⟨[some (bw na as),some (bw nb bs),some (.dT k1 d1),some (.dT k2 d2),some (dF [(b:Int),s,g])],rfl,?_⟩
  have g1:=s1.get1 b s g
  have g2:=s2.get1 b s g
  have q:=T5 (neg:=true) (f1 b s g) (f2 b s g)
  by_cases c:f1 b s g=f2 b s g
  ·refine .inl ⟨λb' s' g' e=>?_,_,?_,some (dF [(b:Int),s,g]),rfl⟩
   ·have e1:b'=b/\s'=s/\g'=g:=by simp only[List.cons.injEq,and_true]at e;omega
    rw[e1.1,e1.2.1,e1.2.2];exact c
   ·rw[c]at q
    rw[c]at g1
    generalize dF [(b:Int),s,g]=kk,cK (f2 b s g)=x,D.dT k1 d1=EY,D.dT k2 d2=tE,bw na as=n1,bw nb bs=n2 at *
    unfold vx
    walk_at "mir"
  ·refine .inr ⟨_,⟨b,s,g,rfl,rfl,c⟩,?_⟩
   rw[decide_eq_false c]at q
   generalize dF [(b:Int),s,g]=kk,cK (f2 b s g)=x,cK (f1 b s g)=y,D.dT k1 d1=EY,D.dT k2 d2=tE,bw na as=n1,bw nb bs=n2 at *
   unfold vx
   walk_at "mir")
 have n1:cT [4] "names" (bw na as)=some (.lst na):=rfl
 have n2:cT [4] "names" (bw nb bs)=some (.lst nb):=rfl
 rcases lp with⟨no,ρ',lp,y4,rfl⟩|⟨pre,k,post,w,e,_,⟨b,s,g,rfl,rfl,ne⟩,lp⟩
 ·refine⟨.non,?_,.inl ⟨rfl,λb s g=>?_⟩⟩
  ·generalize bw na as=x1 at *
   generalize bw nb bs=x2,D.dT k1 d1=EY,D.dT k2 d2=tE at *
   unfold CC
   generalize vx=B,(i8 ks).map dF=L,ks.map dF=M,(k1.map λk=>k.map kI).map dF=M1,(k2.map λk=>k.map kI).map dF=M2 at *
   clear no mem all vN vO hK few s1 s2
   walk_at "mir"
  ·by_cases c:f1 b s g=f2 b s g
   ·exact c
   ·exact no _ ((j4 ks).mem_iff.mpr (all b s g c)) b s g rfl
 ·refine⟨_,?_,.inr ⟨b,s,g,rfl,ne⟩⟩
  generalize bw na as=x1,bw nb bs=x2,D.dT k1 d1=EY,D.dT k2 d2=tE at *
  unfold CC
  generalize vx=B,(i8 ks).map dF=L,ks.map dF=M,(k1.map λk=>k.map kI).map dF=M1,(k2.map λk=>k.map kI).map dF=M2 at *
  clear mem all vN vO hK few s1 s2 e ne
  walk_at "mir"
  rfl
theorem jE.run {as:List cB}{many:Nat}{ks:List (List dw)}{ds:List D}{f:Nat->Nat->Nat->T}(h:jE as many ks ds f)(ok:fS many as){rounds:Nat}{past Y:Nat->Nat->T}(hr:Run as many (dep as) rounds past (λ_ _=>none) Y){r:Nat}(wA:r<rounds){g:Nat}(hg:g<many)(v:Int) :
  ge (Y (dep as+r) g) v↔∃b s u,0<b/\b<=dep as/\s<many/\ge (Y (dep as+r-b) s) u/\ge (f b s g) (v-u):=by
 obtain⟨S,hS,hf⟩:=h.sum
 rw[R4 ok hr hS wA g hg v]
 constructor
 ·rintro⟨a,ha,hb,u,z1,z2⟩
  exact⟨a.b,a.s,u,hb,HR ha,(ok.right a ha).s,z1,(hf _ _ _ _).mpr ⟨a,ha,rfl,hb,rfl,hg,by rwa[show v-u-a.t=v-a.t-u by omega]⟩⟩
 ·rintro⟨b,s,u,hb,_,_,z1,z2⟩
  obtain⟨a,ha,e1,_,e2,_,z⟩:=(hf _ _ _ _).mp z2
  exact⟨a,ha,by omega,u,by rw[e1,e2];exact z1,by rwa[show v-a.t-u=v-u-a.t by omega]⟩
theorem jE.deep {as:List cB}{many:Nat}{ks:List (List dw)}{ds:List D}{f:Nat->Nat->Nat->T}(h:jE as many ks ds f)(ok:fS many as){b s g:Nat}{m:Int}(e:f b s g=some m):0<b/\b<=dep as/\b<=4/\s<many/\g<many:=by
 obtain⟨S,hS,hf⟩:=h.sum
 obtain⟨a,ha,e1,e2,e3,e4,_⟩:=(hf b s g m).mp ⟨m,e,fZ _⟩
 have:=ok.right a ha
 exact⟨e2,by rw[←e1];exact HR ha,by rw[←e1];exact this.b,by rw[←e3];exact this.s,e4⟩
theorem R5 {as bs:List cB}{many:Nat}{k1 k2:List (List dw)}{d1 d2:List D}{f1 f2:Nat->Nat->Nat->T}(h1:jE as many k1 d1 f1)(h2:jE bs many k2 d2 f2)(o9:fS many as)(rN:fS many bs)(hf:∀b s g,f1 b s g=f2 b s g){w Y Z:Nat->Nat->T}{rounds:Nat}
  (r1:Run as many (dep as) rounds (λi g=>w (dep as-1-i) g) (λ_ _=>none) Y) (r2:Run bs many (dep bs) rounds (λi g=>w (dep bs-1-i) g) (λ_ _=>none) Z):∀r,r<rounds->∀g,g<many->Y (dep as+r) g=Z (dep bs+r) g:=by
 have key:∀n r,r<n->r<rounds->∀g,g<many->Y (dep as+r) g=Z (dep bs+r) g:=by
  intro n
  induction n with
  |zero=>intro r hr;omega
  |succ n ih=>
   intro r hn hr g hg
   have back:∀b s,0<b->b<=dep as->b<=dep bs->s<many->Y (dep as+r-b) s=Z (dep bs+r-b) s:=by
    intro b s hb tG IX hs
    by_cases c:b<=r
    ·rw[show dep as+r-b=dep as+(r-b)by omega,show dep bs+r-b=dep bs+(r-b)by omega]
     exact ih (r-b) (by omega) (by omega) s hs
    ·rw[r1.past _ (by omega) s hs,r2.past _ (by omega) s hs]
     show w _ s=w _ s
     rw[show dep as-1-(dep as+r-b)=dep bs-1-(dep bs+r-b)by omega]
   refine Eh λv=>?_
   rw[h1.run o9 r1 hr hg,h2.run rN r2 hr hg]
   constructor
   ·rintro⟨b,s,u,a1,a2,a3,z1,z2⟩
    rw[hf]at z2
    obtain⟨m,e,le⟩:=z2
    have dd:=(h2.deep rN e).2.1
    exact⟨b,s,u,a1,dd,a3,by rw[←back b s a1 a2 dd a3];exact z1,⟨m,e,le⟩⟩
   ·rintro⟨b,s,u,a1,a2,a3,z1,z2⟩
    rw[←hf]at z2
    obtain⟨m,e,le⟩:=z2
    have dd:=(h1.deep o9 e).2.1
    exact⟨b,s,u,a1,dd,a3,by rw[back b s a1 dd a2 a3];exact z1,⟨m,e,le⟩⟩
 exactλr=>key (r+1) r (by omega)
structure Sm (as:List cB)(many:Nat)(f:Nat->Nat->Nat->T):Prop where
 is:∃S:Nat->Nat->T,(∀g,g<many->Sum as many g (S g))/\∀b s h v,ge (f b s h) v↔∃a∈as,a.b=b/\0<b/\a.s=s/\h<many/\ge (S a.g h) (v-a.t)
def ny (as bs:List cB):Prop:=∀a∈as,∃b∈bs,b.s=a.s/\b.g=a.g/\b.t=a.t/\b.b=a.b
theorem Sum.like {as bs:List cB}{many g:Nat}{S:Nat->T}(h1:ny as bs)(h2:ny bs as)(h:Sum as many g S):Sum bs many g S:=by
 refine⟨λx hx v=>?_⟩
 rw[h.is x hx v]
 constructor
 ·rintro(z|⟨a,ha,z1,z2,z3⟩)
  ·exact .inl z
  ·obtain⟨b,hb,e1,e2,e3,e4⟩:=h1 a ha
   exact .inr ⟨b,hb,by omega,by omega,by rw[e1,e3];exact z3⟩
 ·rintro(z|⟨a,ha,z1,z2,z3⟩)
  ·exact .inl z
  ·obtain⟨b,hb,e1,e2,e3,e4⟩:=h2 a ha
   exact .inr ⟨b,hb,by omega,by omega,by rw[e1,e3];exact z3⟩
theorem Sm.like {as bs:List cB}{many:Nat}{f:Nat->Nat->Nat->T}(h1:ny as bs)(h2:ny bs as)(h:Sm as many f):Sm bs many f:=by
 obtain⟨S,hS,hf⟩:=h.is
 refine⟨S,λg hg=>(hS g hg).like h1 h2,λb s x v=>?_⟩
 rw[hf]
 constructor
 ·rintro⟨a,ha,z1,z2,z3,z4,z5⟩
  obtain⟨b,hb,e1,e2,e3,e4⟩:=h1 a ha
  exact⟨b,hb,by omega,z2,by omega,z4,by rw[e2,e3];exact z5⟩
 ·rintro⟨a,ha,z1,z2,z3,z4,z5⟩
  obtain⟨b,hb,e1,e2,e3,e4⟩:=h2 a ha
  exact⟨b,hb,by omega,z2,by omega,z4,by rw[e2,e3];exact z5⟩
def uH (as:List cB)(p:cB):Prop:=(∃a∈as,a.s=p.s/\a.g=p.g/\a.b=p.b/\p.t<=a.t)\/∃a∈as,∃c∈as,c.b=0/\c.s=a.g/\a.s=p.s/\c.g=p.g/\a.b=p.b/\p.t<=a.t+c.t
theorem Sum.drop {as:List cB}{many g:Nat}{p:cB}{S:Nat->T}(hg:∀a∈as,a.g<many)(hp:uH as p)(h:Sum (as++[p]) many g S):Sum as many g S:=by
 refine⟨λx hx v=>?_⟩
 rw[h.is x hx v]
 constructor
 ·rintro(z|⟨a,ha,z1,z2,z3⟩)
  ·exact .inl z
  ·rcases aU.mp ha with ha|ha
   ·exact .inr ⟨a,ha,z1,z2,z3⟩
   ·rw[aJ.mp ha]at z1 z2 z3
    rcases hp with⟨a,ha,e1,e2,e3,e4⟩|⟨a,ha,c,hc,e1,e2,e3,e4,e5,e6⟩
    ·exact .inr ⟨a,ha,by omega,by omega,by rw[e1];exact yF z3 (by omega)⟩
    ·refine .inr ⟨c,hc,e1,by omega,?_⟩
     rw[e2]
     exact(h.is a.g (hg a ha) _).mpr (.inr ⟨a,aO _ ha,by omega,rfl,by rw[e3];exact yF z3 (by omega)⟩)
 ·rintro(z|⟨a,ha,z⟩)
  ·exact .inl z
  ·exact .inr ⟨a,aO _ ha,z⟩
theorem Sum.over {as:List cB}{many:Nat}{rk:Nat->Nat}(hr:∀a∈as,a.b=0->rk a.s<rk a.g)(hs:∀a∈as,a.s<many){m g:Nat}{Sa Sb:Nat->T}(ha:Sum as many m Sa)(hb:Sum as many g Sb){c:cB}(hc:c∈as)(c0:c.b=0)(c1:c.s=m)(c2:c.g=g)(hm:m<many):∀k h,rk h<k->h<many->∀u,ge (Sb h) u->ge (Sa h) (u+c.t):=by
 intro k
 induction k with
 |zero=>intro h hk;omega
 |succ k ih=>
  intro h hk hh u z
  rcases(hb.is h hh u).mp z with⟨e,z⟩|⟨a,mL,z1,z2,z3⟩
  ·refine(ha.is h hh _).mpr (.inr ⟨c,hc,c0,by omega,?_⟩)
   rw[c1]
   exact(ha.is m hm _).mpr (.inl ⟨rfl,by omega⟩)
  ·have:=hr a mL z1
   rw[z2]at this
   have q:=ih a.s (by omega) (hs a mL) _ z3
   exact(ha.is h hh _).mpr (.inr ⟨a,mL,z1,z2,yF q (by omega)⟩)
theorem Sm.drop {as:List cB}{many:Nat}{p:cB}{f:Nat->Nat->Nat->T}{rk:Nat->Nat}(hr:∀a∈as,a.b=0->rk a.s<rk a.g)(hs:∀a∈as,a.s<many)(hg:∀a∈as,a.g<many)(hp:uH as p)(h:Sm (as++[p]) many f):Sm as many f:=by
 obtain⟨S,hS,hf⟩:=h.is
 have rH:=λg NZ=>(hS g NZ).drop hg hp
 refine⟨S,rH,λb s x v=>?_⟩
 rw[hf]
 constructor
 ·rintro⟨a,ha,z1,z2,z3,z4,z5⟩
  rcases aU.mp ha with ha|ha
  ·exact⟨a,ha,z1,z2,z3,z4,z5⟩
  ·rw[aJ.mp ha]at z1 z3 z5
   rcases hp with⟨a,ha,e1,e2,e3,e4⟩|⟨a,ha,c,hc,e1,e2,e3,e4,e5,e6⟩
   ·exact⟨a,ha,by omega,z2,by omega,z4,by rw[e2];exact yF z5 (by omega)⟩
   ·rw[←e4]at z5
    have q:=Sum.over hr hs (rH a.g (hg a ha)) (rH c.g (hg c hc)) hc e1 e2 rfl (hg a ha) (rk x+1) x (by omega) z4 _ z5
    exact⟨a,ha,by omega,z2,by omega,z4,yF q (by omega)⟩
 ·rintro⟨a,ha,z⟩
  exact⟨a,aO _ ha,z⟩
theorem Sum.uniq {as:List cB}{many:Nat}{rk:Nat->Nat}(hr:∀a∈as,a.b=0->rk a.s<rk a.g)(hs:∀a∈as,a.s<many){g:Nat}{Sa Sb:Nat->T}(ha:Sum as many g Sa)(hb:Sum as many g Sb):∀k h,rk h<k->h<many->Sa h=Sb h:=by
 intro k
 induction k with
 |zero=>intro h hk;omega
 |succ k ih=>
  intro h hk hh
  refine Eh λv=>?_
  rw[ha.is h hh,hb.is h hh]
  refine or_congr Iff.rfl ⟨?_,?_⟩
  ·rintro⟨a,mL,z1,z2,z3⟩
   have:=hr a mL z1
   rw[z2]at this
   exact⟨a,mL,z1,z2,by rw[←ih a.s (by omega) (hs a mL)];exact z3⟩
  ·rintro⟨a,mL,z1,z2,z3⟩
   have:=hr a mL z1
   rw[z2]at this
   exact⟨a,mL,z1,z2,by rw[ih a.s (by omega) (hs a mL)];exact z3⟩
theorem Sm.uniq {as:List cB}{many:Nat}{f f':Nat->Nat->Nat->T}{rk:Nat->Nat}(hr:∀a∈as,a.b=0->rk a.s<rk a.g)(hs:∀a∈as,a.s<many)(hg:∀a∈as,a.g<many)(h:Sm as many f)(h':Sm as many f')(b s g:Nat):f b s g=f' b s g:=by
 obtain⟨S,hS,hf⟩:=h.is
 obtain⟨S',rH,nB⟩:=h'.is
 refine Eh λv=>?_
 rw[hf,nB]
 constructor
 ·rintro⟨a,ha,z1,z2,z3,z4,z5⟩
  exact⟨a,ha,z1,z2,z3,z4,by rw[←Sum.uniq hr hs (hS a.g (hg a ha)) (rH a.g (hg a ha)) (rk g+1) g (by omega) z4];exact z5⟩
 ·rintro⟨a,ha,z1,z2,z3,z4,z5⟩
  exact⟨a,ha,z1,z2,z3,z4,by rw[Sum.uniq hr hs (hS a.g (hg a ha)) (rH a.g (hg a ha)) (rk g+1) g (by omega) z4];exact z5⟩
theorem jE.sm {as:List cB}{many:Nat}{ks:List (List dw)}{ds:List D}{f:Nat->Nat->Nat->T}(h:jE as many ks ds f):Sm as many f:=⟨h.sum⟩
theorem jE.ints {as:List cB}{many:Nat}{ks:List (List dw)}{ds:List D}{f:Nat->Nat->Nat->T}(h:jE as many ks ds f):∃is:List Int,ds=is.map .int:=by
 have:∀d∈ds,∃i,d=.int i:=λd hd=>by
  obtain⟨i,hi,e⟩:=bB.mp hd
  have hk:i<ks.length:=by rw[h.len];exact hi
  have hz:(ks[i],d)∈ks.zip ds:=bB.mpr ⟨i,by rw[cY];omega,by simp[e]⟩
  obtain⟨b,s,g,e2⟩:=h.key _ (dC hk)
  rw[e2]at hz
  have:=(CG h.nd).mp hz
  rw[h.get]at this
  cases hf:f b s g with
  |none=>rw[hf]at this;cases this
  |some m=>rw[hf]at this;cases this;exact⟨m,rfl⟩
 clear h
 induction ds with
 |nil=>exact⟨[],rfl⟩
 |cons d ds ih=>
  obtain⟨i,rfl⟩:=this d am
  obtain⟨is,rfl⟩:=ih λd hd=>this d (ap _ hd)
  exact⟨i::is,rfl⟩
theorem gO (is:List Int):eI (is.map .int)=some is:=by
 induction is with
 |nil=>rfl
 |cons i is ih=>show(eI (is.map .int)).bind _=_;rw[ih];rfl
theorem jE.sub {as bs:List cB}{many:Nat}{k1 k2:List (List dw)}{d1 d2:List D}{f1 f2:Nat->Nat->Nat->T}(h1:jE as many k1 d1 f1)(h2:jE bs many k2 d2 f2)(hf:∀b s g,f1 b s g=f2 b s g):k1.length<=k2.length:=by
 refine oJ h1.nd λk hk=>?_
 obtain⟨b,s,g,rfl⟩:=h1.key k hk
 rw[h2.mem,←hf]
 exact h1.mem.mp hk
theorem jE.eqD {as bs:List cB}{many:Nat}{k1 k2:List (List dw)}{d1 d2:List D}{f1 f2:Nat->Nat->Nat->T}(h1:jE as many k1 d1 f1)(h2:jE bs many k2 d2 f2)(hf:∀b s g,f1 b s g=f2 b s g):sf (.dT k1 d1) (.dT k2 d2)=some (.bl true):=by
 have l1:=h1.sub h2 hf
 have l2:=h2.sub h1 λb s g=>(hf b s g).symm
 obtain⟨is,e1⟩:=h1.ints
 obtain⟨js,e2⟩:=h2.ints
 have Oa:=h1.len
 have sj:=h2.len
 subst e1
 subst e2
 show((eI (is.map .int)).bind λW3=>(eI (js.map .int)).bind λW4=>_)=_
 rw[gO,gO,bM,bM,if_pos ⟨Oa,sj⟩]
 congr 2
 rw[bN,decide_eq_true_iff,gW]
 refine⟨by omega,λp hp=>?_⟩
 have mk:∀{ks:List (List dw)} {is:List Int} {k:List dw} {i:Int},(k,i)∈ks.zip is↔(k,D.int i)∈ks.zip (is.map .int):=by
  intro ks is k i
  rw[jM,bH]
  constructor
  ·intro h;exact⟨(k,i),h,rfl⟩
  ·rintro⟨⟨k',i'⟩,h,e⟩
   obtain⟨e1,e2⟩:=Prod.mk.inj e
   cases e2
   cases e1
   exact h
 obtain⟨k,i⟩:=p
 have hz:=mk.mp hp
 obtain⟨b,s,g,rfl⟩:=h1.key k (dn hz).1
 have q:=(CG h1.nd).mp hz
 rw[h1.get,hf,←h2.get]at q
 have:=mk.mpr ((CG h2.nd).mpr q)
 exact gX.mpr ⟨_,this,by simp⟩
def bc (a:cB):D:=.tup [.int (a.s:Int),.int (a.g:Int),.int a.t,.int (a.b:Int)]
def xK (a:cB)(k:Int):Kd:=if a.b=0/\0<k then .ride else if 0<a.b/\0<k then .back else .wait
def o8 (a:cB)(k:Int):cB:=⟨xK a k,a.s,a.g,a.t,a.b⟩
theorem Ls (a:cB)(k:Int):v9 [bc a,.int k]=some (bQ (o8 a k)):=by
 have r1:u7 1 [.int (a.s:Int),.int (a.g:Int),.int a.t]=some (.obj 1 ["start","goal","time","behind"] [.int (a.s:Int),.int (a.g:Int),.int a.t,.int 0]):=rfl
 have r2:u9 2 [.int (a.s:Int),.int (a.g:Int),.int a.t,.int (a.b:Int)]=some (.obj 2 ["start","goal","time","behind"] [.int (a.s:Int),.int (a.g:Int),.int a.t,.int (a.b:Int)]):=rfl
 have r3:ja 3 [.int (a.s:Int),.int (a.g:Int),.int a.t,.int (a.b:Int)]=some (.obj 3 ["start","goal","time","behind"] [.int (a.s:Int),.int (a.g:Int),.int a.t,.int (a.b:Int)]):=rfl
 obtain⟨c,s,g,t,b⟩:=a
 unfold bc bQ o8 xK v9
 dsimp only at *
 by_cases hk:0<k
 ·have N9:k > 0:=by omega
  by_cases hb:b=0
  ·rw[if_pos ⟨hb,hk⟩]
   have tG:(b:Int)=0:=by omega
   rw[tG]at *
   show _=some (D.obj 1 _ _)
   clear r2 r3 hb tG
   walk_at "mir"
  ·rw[if_neg (λz=>hb z.1),if_pos ⟨by omega,hk⟩]
   have tG:¬(b:Int)=0:=by omega
   have IX:(b:Int) > 0:=by omega
   show _=some (D.obj 3 _ _)
   clear r1 r2 hb
   generalize (b:Int)=bi at *
   walk_at "mir"
 ·rw[if_neg (λz=>hk z.2),if_neg (λz=>hk z.2)]
  have N9:¬k > 0:=by omega
  show _=some (D.obj 2 _ _)
  clear r1 r3
  by_cases hb:b=0
  ·have tG:(b:Int)=0:=by omega
   rw[tG]at r2 ⊢
   clear hb tG
   walk_at "mir"
  ·have tG:¬(b:Int)=0:=by omega
   have IX:(b:Int) > 0:=by omega
   clear hb
   generalize (b:Int)=bi at *
   walk_at "mir"
structure Wp (many:Nat)(rk:Nat->Nat)(a:cB):Prop where
 s:a.s<many
 g:a.g<many
 t0:0<=a.t
 t1:a.t<=(1+(rk a.g:Int))*100000000
 b:a.b<=4
 r:a.b=0->rk a.s<rk a.g/\a.t<=((rk a.g:Int)-(rk a.s:Int))*100000000
theorem Wp.right {many:Nat}{rk:Nat->Nat}{a:cB}(h:Wp many rk a)(h9:rk a.g<=5)(k:Int):Right many (o8 a k):=by
 refine⟨h.s,h.g,h.t0,by have:=h.t1;show a.t<=_;omega,h.b,λz=>?_,λz=>?_⟩
 ·show a.b=0
  have z:xK a k=.ride:=z
  unfold xK at z
  split at z
  ·rename_i q;exact q.1
  ·split at z<;>cases z
 ·show 1<=a.b
  have z:xK a k=.back:=z
  unfold xK at z
  split at z
  ·cases z
  ·split at z
   ·rename_i q;omega
   ·cases z
theorem BJ (ds:List D)(h:ds.length=8)(P:D->Prop)(hp:∀d∈ds,P d)(k:Int):∃d,atI ds (k%8)=some d/\P d:=by
 obtain⟨l,e⟩:∃l:Nat,k%8=(l:Int):=⟨(k%8).toNat,by omega⟩
 rw[e]
 have vU:l<ds.length:=by omega
 exact⟨ds[l],uj (bt vU),hp _ (dC vU)⟩
theorem UW (c:Int){many:Nat}{p:List Nat}(hm:1<=many)(hp:p.Perm (az many)):∃a:cB,vb [.int c,.lst (bv p)]=some (bc a)/\Wp many (λg=>p.findIdx (λx=>decide (x=g))) a:=by
 have hl:p.length=many:=by simpa using hp.length_eq
 obtain⟨z1,m1,_⟩:=jc c (k:=1) (by decide) (by decide)
 obtain⟨z2,m2,_⟩:=jc c (k:=2) (by decide) (by decide)
 obtain⟨z3,m3,_⟩:=jc c (k:=3) (by decide) (by decide)
 obtain⟨z5,m5,_⟩:=jc c (k:=5) (by decide) (by decide)
 have l1:d5 [.lst (bv p)]=some (.int (many:Int)):=(u5 _).trans (by unfold bv;rw[aD,hl])
 have u1:eO (.int (z1:Int)) (.int (many:Int))=some (.int ((z1%many:Nat):Int)):=by rw[zac (by omega)];simp
 have u2:eO (.int (z2:Int)) (.int (many:Int))=some (.int ((z2%many:Nat):Int)):=by rw[zac (by omega)];simp
 have g1:z1%many<many:=lV _ (by omega)
 have g2:z2%many<many:=lV _ (by omega)
 generalize z1%many=x,z2%many=y at *
 obtain⟨_,bx,b,rfl,b4⟩:=BJ [.int 0,.int 0,.int 0,.int 1,.int 1,.int 2,.int 3,.int 4] rfl (λd=>∃b:Nat,d=.int (b:Int)/\b<=4) (by
  intro d hd
  simp only[aA,cL,or_false]at hd
  rcases hd with rfl|rfl|rfl|rfl|rfl|rfl|rfl|rfl
  all_goals first|exact⟨0,rfl,by decide⟩|exact⟨1,rfl,by decide⟩|exact⟨2,rfl,by decide⟩|exact⟨3,rfl,by decide⟩|exact⟨4,rfl,by decide⟩) (z5:Int)
 have bx:eF (.lst [.int 0,.int 0,.int 0,.int 1,.int 1,.int 2,.int 3,.int 4]) (.int ((z5:Int)%8))=some (.int (b:Int)):=bx
 obtain⟨t,tx,t0,t1⟩:∃t:Int,eF (.lst [.int (c%9),.int (c%100000000),.int 0]) (.int ((z3:Int)%3))=some (.int t)/\0<=t/\t<=100000000:=by
  have:(z3:Int)%3=0\/(z3:Int)%3=1\/(z3:Int)%3=2:=by omega
  rcases this with e|e|e<;>rw[e]
  ·exact⟨_,rfl,by omega,by omega⟩
  ·exact⟨_,rfl,by omega,by omega⟩
  ·exact⟨_,rfl,by decide,by decide⟩
 have pw:(10:Int) ^ (8:Int).toNat=100000000:=by decide
 have fi:∀i (hi:i<p.length),p.findIdx (λx=>decide (x=p[i]))=i:=λi hi=>by
  rw[List.findIdx_eq hi]
  refine⟨by simp,λj hj=>?_⟩
  have oE:j<p.length:=by omega
  have nd:p.Nodup:=hp.nodup_iff.mpr fR
  have:p[j]≠p[i]:=λz=>by
   have:=(eK (xs:=p) (h₀:=oE) (h₁:=hi) nd).mp z
   omega
  simpa using this
 have lt:∀i (hi:i<p.length),p[i]<many:=λi hi=>aX.mp (hp.mem_iff.mp (dC hi))
 have big:∀b':Nat,1<=b'->b'<=4->((x:Int)=(y:Int)->iJ [.int 1,.int (b:Int)]=some (.int (b':Int)))->(¬(x:Int)=(y:Int)->b'=b)->∃a:cB,vb [.int c,.lst (bv p)]=some (bc a)/\Wp many (λg=>p.findIdx (λx=>decide (x=g))) a:=λb' hb NL he iY=>by
  have hx:x<p.length:=by omega
  have hy:y<p.length:=by omega
  have q1:=xS hx
  have q2:=xS hy
  refine⟨⟨.wait,p[x],p[y],t,b'⟩,?_,⟨lt x hx,lt y hy,t0,by show t<=(1+((p.findIdx _:Nat):Int))*100000000;omega,NL,λh=>absurd h (by show¬b'=0;omega)⟩⟩
  have WT:¬(b':Int)=0:=by omega
  have WU:¬b'=0:=by omega
  unfold vb bc
  dsimp only
  by_cases xJ:(x:Int)=(y:Int)
  ·have he:=he xJ
   have Gi:x=y:=by omega
   subst Gi
   generalize bv p=np,(p[x]:Int)=px at *
   clear iY t0 t1 g1 g2 hm b4 fi lt hl xJ
   walk_at "mir"
  ·have iY:=iY xJ
   subst iY
   generalize bv p=np,(p[x]:Int)=px,(p[y]:Int)=py at *
   clear he t0 t1 g1 g2 hm b4 fi lt hl
   walk_at "mir"
 by_cases xJ:(x:Int)=(y:Int)
 ·by_cases hb:b=0
  ·refine big 1 (by decide) (by decide) (λ_=>?_) λh=>absurd xJ h
   rw[hb];rfl
  ·refine big b (by omega) b4 (λ_=>?_) λ_=>rfl
   rw[jo]
   split
   ·rfl
   ·congr 2;omega
 ·by_cases hb:b=0
  ·clear big
   subst hb
   have n1:o7 [.int (x:Int),.int (y:Int)]=some (.int ((min x y:Nat):Int)):=(zeo _ _).trans (by congr 2;split<;>omega)
   have n2:iJ [.int (x:Int),.int (y:Int)]=some (.int ((max x y:Nat):Int)):=(jo _ _).trans (by congr 2;split<;>omega)
   have kR:min x y<max x y:=by omega
   have hx:min x y<p.length:=by omega
   have hy:max x y<p.length:=by omega
   generalize min x y=i,max x y=j at *
   have q1:=xS hx
   have q2:=xS hy
   refine⟨⟨.wait,p[i],p[j],t,0⟩,?_,⟨lt i hx,lt j hy,t0,by show t<=(1+((p.findIdx _:Nat):Int))*100000000;omega,cw _,λ_=>by show p.findIdx (λx=>decide (x=p[i]))<p.findIdx (λx=>decide (x=p[j]))/\t<=((p.findIdx (λx=>decide (x=p[j])):Nat)-(p.findIdx (λx=>decide (x=p[i])):Nat):Int)*100000000;rw[fi i hx,fi j hy];exact⟨kR,by omega⟩⟩⟩
   have z0:((0:Nat):Int)=0:=rfl
   rw[z0]at bx
   unfold vb bc
   dsimp only
   rw[z0]
   generalize bv p=np,(p[i]:Int)=px,(p[j]:Int)=py at *
   clear t0 t1 g1 g2 hm b4 fi lt hl
   walk_at "mir"
  ·exact big b (by omega) b4 (λh=>absurd h xJ) λ_=>rfl
def E4:gN (Int×Int×Int×Int):=⟨λp=>.tup [.int p.1,.int p.2.1,.int p.2.2.1,.int p.2.2.2],λp=>.tuple [.int p.1,.int p.2.1,.int p.2.2.1,.int p.2.2.2],1,λp=>by simp[D.py,D.pys],λp=>by simp[bE.canLay0,bE.canLayAll0],
 λp=>by simp only[bE.depth,bE.depthAll];omega,λp q=>by
  obtain⟨a,b,c,d⟩:=p
  obtain⟨a',b',c',d'⟩:=q
  simp only[bE.eqv,bE.eqvAll]
  by_cases h:a=a'<;>by_cases g:b=b'<;>by_cases k:c=c'<;>by_cases l:d=d'<;>simp[h,g,k,l]⟩
theorem LU (neg:Bool)(as:List cB):eqD neg (.lst (as.map bc)) (.lst [])=some (.bl (if neg then !decide (as=[])else decide (as=[]))):=by
 have:=(El E4).eq (by decide) (neg:=neg) (as.map λa=>((a.s:Int),(a.g:Int),a.t,(a.b:Int))) []
 have e:(El E4).enc (as.map λa=>((a.s:Int),(a.g:Int),a.t,(a.b:Int)))=.lst (as.map bc):=by
  show D.lst (List.map _ _)=_
  rw[df];rfl
 rw[e]at this
 have hd:decide ((as.map λa=>((a.s:Int),(a.g:Int),a.t,(a.b:Int)))=[])=decide (as=[]):=decide_eq_decide.mpr (by simp)
 rw[hd]at this
 exact this
theorem tT {as:List cB}(h:as≠[])(z:Nat):∃a∈as,∃i:Nat,eO (.int (z:Int)) (.int (as.length:Int))=some (.int (i:Int))/\eF (.lst (as.map bc)) (.int (i:Int))=some (bc a):=by
 have hp:0<as.length:=oR.mpr h
 have hl:z%as.length<as.length:=lV _ hp
 refine⟨as[z%as.length],dC hl,z%as.length,?_,?_⟩
 ·rw[zac (by omega)];simp
 ·exact uj (by rw[aM,bt hl];rfl)
theorem VH (c:Int){many:Nat}{rk:Nat->Nat}(h5:∀g,g<many->rk g<=5){as:List cB}(hl:as.length<=13)(iY:as≠[])(h:∀a∈as,Wp many rk a) :
  ∃p:cB,vz [.lst (as.map bc),.int c]=some (bc p)/\uH as p/\Wp many rk p:=by
 obtain⟨z6,m6,_⟩:=jc c (k:=6) (by decide) (by decide)
 obtain⟨z7,m7,_⟩:=jc c (k:=7) (by decide) (by decide)
 obtain⟨z8,m8,_⟩:=jc c (k:=8) (by decide) (by decide)
 obtain⟨a,ha,i,u6,x6⟩:=tT iY z6
 have l6:d5 [.lst (as.map bc)]=some (.int (as.length:Int)):=by rw[u5,aD]
 have pa:=h a ha
 have j0:eF (bc a) (.int 0)=some (.int (a.s:Int)):=rfl
 have j1:eF (bc a) (.int 1)=some (.int (a.g:Int)):=rfl
 have j2:eF (bc a) (.int 2)=some (.int a.t):=rfl
 have j3:eF (bc a) (.int 3)=some (.int (a.b:Int)):=rfl
 have t0:=pa.t0
 have t1:=pa.t1
 have tr:=pa.r
 by_cases c0:c%2=0
 ·obtain⟨m,em,m0,m1⟩:∃m:Int,iJ [.int 0,.int (a.t-(z7:Int)%7)]=some (.int m)/\0<=m/\m<=a.t:=by
   rw[jo]
   split
   ·exact⟨_,rfl,by omega,by omega⟩
   ·exact⟨_,rfl,by omega,by omega⟩
  refine⟨⟨.wait,a.s,a.g,m,a.b⟩,?_,.inl ⟨a,ha,rfl,rfl,rfl,m1⟩,pa.s,pa.g,m0,by show m<=(1+(rk a.g:Int))*100000000;omega,pa.b,λz=>⟨(tr z).1,by have:=(tr z).2;show m<=((rk a.g:Int)-(rk a.s:Int))*100000000;omega⟩⟩
  have sl:mT (bc a) none (some 2)=some (.tup [.int (a.s:Int),.int (a.g:Int)]):=rfl
  have ad:eX (.tup [.int (a.s:Int),.int (a.g:Int)]) (.tup [.int m,.int (a.b:Int)])=some (.tup [.int (a.s:Int),.int (a.g:Int),.int m,.int (a.b:Int)]):=rfl
  show _=some (D.tup [.int (a.s:Int),.int (a.g:Int),.int m,.int (a.b:Int)])
  generalize bc a=ea,as.map bc=AS,D.tup [.int (a.s:Int),.int (a.g:Int),.int m,.int (a.b:Int)]=R,D.tup [.int (a.s:Int),.int (a.g:Int)]=R2,(i:Int)=ii at *
  clear h hl iY pa ha t0 t1 tr m0 m1 m8
  unfold vz
  generalize vg=Q at *
  walk_at "mir"
 ·have Dz:∀y3 y4 y5:Option D,vg [some (.lst (as.map bc)),some (.int c),some (bc a),y3,y4,y5]=some (.lst ((as.filter λx=>decide (x.b=0)&&decide (x.s=a.g)).map bc)):=λy3 y4 y5=>by
   refine CF bc (λx=>decide (x.b=0)&&decide (x.s=a.g)) bc as rfl (by omega) λx _=>⟨[some (bc x),some (bc a)],rfl,?_,λ_=>rfl⟩
   have k0:eF (bc x) (.int 0)=some (.int (x.s:Int)):=rfl
   have k3:eF (bc x) (.int 3)=some (.int (x.b:Int)):=rfl
   have e1:decide ((x.b:Int)=0)=decide (x.b=0):=decide_eq_decide.mpr (by omega)
   have e2:decide ((x.s:Int)=(a.g:Int))=decide (x.s=a.g):=decide_eq_decide.mpr (by omega)
   rw[←e1,←e2]
   generalize bc x=ex,bc a=ea at *
   clear h hl iY pa ha t0 t1 tr m8 m7 m6 e1 e2 u6 x6 l6
   generalize (x.b:Int)=xb,(x.s:Int)=xs,(a.g:Int)=ag at *
   by_cases q1:xb=0
   ·by_cases q2:xs=ag
    ·walk_at "mir"
    ·walk_at "mir"
   ·walk_at "mir"
  generalize hB:(as.filter λx=>decide (x.b=0)&&decide (x.s=a.g))=bs at *
  have en:=LU false bs
  by_cases c1:bs=[]
  ·rw[decide_eq_true c1]at en
   refine⟨a,?_,.inl ⟨a,ha,rfl,rfl,rfl,fZ _⟩,pa⟩
   have Dz:=Dz (some (.int (z7:Int))) none none
   clear hB c1
   generalize bc a=ea,as.map bc=AS,bs.map bc=BS,(i:Int)=ii at *
   clear h hl iY pa ha t0 t1 tr m8
   unfold vz
   generalize vg=Q at *
   walk_at "mir"
  ·rw[decide_eq_false c1]at en
   obtain⟨o,ho,k,u8,x8⟩:=tT c1 z8
   have l8:d5 [.lst (bs.map bc)]=some (.int (bs.length:Int)):=by rw[u5,aD]
   rw[←hB]at ho
   obtain⟨ho,hc⟩:=bA.mp ho
   have hc:o.b=0/\o.s=a.g:=by simpa using hc
   have po:=h o ho
   have o0:=po.t0
   have o2:=po.r hc.1
   rw[hc.2]at o2
   have i1:eF (bc o) (.int 1)=some (.int (o.g:Int)):=rfl
   have i2:eF (bc o) (.int 2)=some (.int o.t):=rfl
   obtain⟨m,em,m0,m1⟩:∃m:Int,iJ [.int 0,.int (a.t+o.t-(z7:Int)%3)]=some (.int m)/\0<=m/\m<=a.t+o.t:=by
    rw[jo]
    split
    ·exact⟨_,rfl,by omega,by omega⟩
    ·exact⟨_,rfl,by omega,by omega⟩
   refine⟨⟨.wait,a.s,o.g,m,a.b⟩,?_,.inr ⟨a,ha,o,ho,hc.1,hc.2,rfl,rfl,rfl,m1⟩,pa.s,po.g,m0,by show m<=(1+(rk o.g:Int))*100000000;omega,pa.b,λz=>⟨by have:=(tr z).1;show rk a.s<rk o.g;omega,by have:=(tr z).2;show m<=((rk o.g:Int)-(rk a.s:Int))*100000000;omega⟩⟩
   show _=some (D.tup [.int (a.s:Int),.int (o.g:Int),.int m,.int (a.b:Int)])
   have Dz:=Dz (some (.int (z7:Int))) none none
   clear hB c1 hc
   generalize bc a=ea,bc o=eo,as.map bc=AS,bs.map bc=BS,(i:Int)=ii,(k:Int)=ki at *
   clear h hl iY pa ha t0 t1 tr o0 o2 po ho m0 m1
   unfold vz
   generalize vg=Q at *
   walk_at "mir"
theorem VI {ns:List Int}{many:Nat}{rk:Nat->Nat}(h5:∀g,g<many->rk g<=5){as:List cB}(hl:as.length<=8)(h:∀a∈as,Wp many rk a){cs:List Int}(hc:cs.length<=6){x0 x1 x2 x3 x4 x7 x8 x9 x10 x11:Option D} :
  ∃(ws:List cB) (y6:Option D),gj (gV 6) xR (cs.map .int) [x0,x1,x2,x3,x4,some (.lst (as.map bc)),none,x7,x8,x9,x10,x11]=some (.nx [x0,x1,x2,x3,x4,some (.lst (ws.map bc)),y6,x7,x8,x9,x10,x11])/\ws.length<=14/\(∀a∈ws,Wp many rk a)/\∀f,Sm ws many f->Sm as many f:=by
 obtain⟨ρ',lp,ws,y6,rfl,wl,hw,hf⟩:=uc (g:=gV 6) (b:=xR) (ds:=cs.map .int) (ρ:=[x0,x1,x2,x3,x4,some (.lst (as.map bc)),none,x7,x8,x9,x10,x11])
  (λds ρ=>∃(ws:List cB) (y6:Option D),ρ=[x0,x1,x2,x3,x4,some (.lst (ws.map bc)),y6,x7,x8,x9,x10,x11]/\ws.length<=8+ds.length/\(∀a∈ws,Wp many rk a)/\∀f,Sm ws many f->Sm as many f)
  ⟨as,none,rfl,by simpa using hl,h,λ_ z=>z⟩ (by
   rintro pre d post ρ e ⟨ws,y6,rfl,wl,hw,hf⟩
   have ip:pre.length<6:=by
    have:=congrArg eZ e
    simp at this
    omega
   have hd:=yB e
   rw[aM]at hd
   obtain⟨c,_,rfl⟩:=bX.mp hd
   have en:=LU true ws
   by_cases c0:ws=[]
   ·refine⟨_,[x0,x1,x2,x3,x4,some (.lst (ws.map bc)),some (.int c),x7,x8,x9,x10,x11],rfl,.inl ?_,ws,some (.int c),rfl,by simp;omega,hw,hf⟩
    rw[decide_eq_true c0]at en
    clear c0 hw hf
    generalize ws.map bc=WS at *
    unfold xR
    walk_at "mir"
   ·obtain⟨p,hp,id,pw⟩:=VH c h5 (by omega) c0 hw
    refine⟨_,[x0,x1,x2,x3,x4,some (.lst ((ws++[p]).map bc)),some (.int c),x7,x8,x9,x10,x11],rfl,.inl ?_,ws++[p],some (.int c),rfl,by simp;omega,λa ha=>?_,λf hs=>hf f (hs.drop (λa ha z=>((hw a ha).r z).1) (λa ha=>(hw a ha).s) (λa ha=>(hw a ha).g) id)⟩
    ·rw[decide_eq_false c0]at en
     have XY:(ws.map bc).length<16777216:=by rw[aD];omega
     rw[iC]
     show _=some (Out.nx [x0,x1,x2,x3,x4,some (.lst (ws.map bc++[bc p])),some (.int c),x7,x8,x9,x10,x11])
     clear c0 hw hf id pw
     generalize ws.map bc=WS,bc p=ep at *
     unfold xR
     walk_at "mir"
    ·rcases aU.mp ha with ha|ha
     ·exact hw a ha
     ·rw[aJ.mp ha];exact pw)
 exact⟨ws,y6,lp,by simp at wl;omega,hw,hf⟩
def oH (k:Nat):aR:=⟨#[97+k]⟩
def kS (n:Nat):List D:=(az n).map λ(k:Nat)=>D.str (oH k)
def Jq:Option D->Bool
 |some (.bl true)=>true
 |_=>false
theorem Ms {x:Option D}(h:Jq x=true):x=some (.bl true):=by
 unfold Jq at h
 split at h
 ·rfl
 ·cases h
theorem Wy {n:Nat}(h1:1<=n)(h2:n<=6):v5 [.lst (kS n)]=some (.bl true):=by
 have:n=1\/n=2\/n=3\/n=4\/n=5\/n=6:=by omega
 rcases this with rfl|rfl|rfl|rfl|rfl|rfl<;>exact Ms (by decide +kernel)
def Du (x:Option D)(c:aR):Bool:=match x with
 |some (.str a)=>decide (a=c)
 |_=>false
theorem Mt {x:Option D}{c:aR}(h:Du x c=true):x=some (.str c):=by
 unfold Du at h
 split at h
 ·rw[of_decide_eq_true h]
 ·cases h
theorem Gm:∀l,l<6->Du (eF (.str "abcdef") (.int ((l:Nat):Int))) (oH l)=true:=by decide +kernel
def qU (k:Nat):aR:=⟨#[97+k,57]⟩
def iw (n:Nat):List D:=(az n).map λ(k:Nat)=>D.str (qU k)
theorem VJ {n:Nat}(h1:1<=n)(h2:n<=6):v5 [.lst (iw n)]=some (.bl true):=by
 have:n=1\/n=2\/n=3\/n=4\/n=5\/n=6:=by omega
 rcases this with rfl|rfl|rfl|rfl|rfl|rfl<;>exact Ms (by decide +kernel)
theorem Wz:∀l,l<6->Du (eX (.str (oH l)) (.str "9")) (qU l)=true:=by decide +kernel
theorem Tr (neg:Bool)(many m:Nat)(Y Z:Nat->Nat->T):∃e:Bool,eqD neg (.lst (bF many m Y)) (.lst (bF many m Z))=some (.bl (if neg then !e else e))/\(e=true↔∀i,i<m->∀g,g<many->Y i g=Z i g):=by
 have:=(El (El Eo)).eq (by decide) (neg:=neg) ((az m).map λi=>(az many).map λg=>Y i g) ((az m).map λi=>(az many).map λg=>Z i g)
 have e:∀Y:Nat->Nat->T,(El (El Eo)).enc ((az m).map λi=>(az many).map λg=>Y i g)=.lst (bF many m Y):=by
  intro Y
  show D.lst _=_
  unfold bF cE
  rw[df]
  congr 1
  apply cU
  intro i _
  show D.lst _=_
  rw[df]
  rfl
 rw[e,e]at this
 refine⟨_,this,?_⟩
 rw[decide_eq_true_iff]
 constructor
 ·intro h i hi g hg
  have h1:=(pU.mp h) i (aX.mpr hi)
  exact(pU.mp h1) g (aX.mpr hg)
 ·intro h
  exact cU λi hi=>cU λg hg=>h i (aX.mp hi) g (aX.mp hg)
theorem Lu {ns:List Int}{r:L3.Env}(i a b:Nat)(h:r[i]?.join=some (.lst (ns.map .int))):lsD (λρ=>((eV i) ρ).bind λd=>((pInt (eC (.int a))) ρ).bind λl=>((pInt (eC (.int b))) ρ).bind λh=>gB d l h) r=some (((ns.drop a).take (b-a)).map .int):=by
 have e:eV i r=some (.lst (ns.map .int)):=h
 unfold lsD
 show(((eV i) r).bind _).bind _=_
 rw[e]
 show some (cutD (ns.map .int) (some (a:Int)) (some (b:Int)))=_
 rw[Sv,sV,List.map_drop]
theorem UX (c:Int){k:Int}(h0:0<=k)(h1:k<=1000000):∃t:T,vc [.int c,.int k]=some (cK t):=by
 obtain⟨z,hz,_⟩:=jc c h0 h1
 by_cases e0:(z:Int)%4=0
 ·refine⟨none,?_⟩
  show _=some D.non
  unfold vc
  walk_at "mir"
 ·refine⟨some ((z:Int)/4%2000001-1000000),?_⟩
  show _=some (D.int _)
  unfold vc
  walk_at "mir"
section
variable {na nb:List D}{as bs:List cB}{many:Nat}{k1 k2:List (List dw)}{d1 d2:List D}{f1 f2:Nat->Nat->Nat->T}
theorem DR (h1:jE as many k1 d1 f1)(h2:jE bs many k2 d2 f2)(s1:vn [bw na as]=some (.dT k1 d1))(s2:vn [bw nb bs]=some (.dT k2 d2))(la:na.length=many)(lb:nb.length=many)(few:k1.length+k2.length<64)(he:∀b s g,f1 b s g=f2 b s g)(x0 x1 x2 x3 x4 x5 x6 x7 x8 x10 x11:Option D) :
  jv [x0,x1,x2,x3,x4,x5,x6,x7,x8,some (.tup [bw na as,bw nb bs]),x10,x11]=some (.nx [x0,x1,x2,x3,x4,x5,x6,x7,x8,some (.tup [bw na as,bw nb bs]),x10,x11]):=by
 obtain⟨w,hw,r⟩:=Tq s1 s2 h1 h2 (la.trans lb.symm) few
 have j0:eF (.tup [bw na as,bw nb bs]) (.int 0)=some (bw na as):=rfl
 have j1:eF (.tup [bw na as,bw nb bs]) (.int 1)=some (bw nb bs):=rfl
 rcases r with⟨rfl,_⟩|⟨b,s,g,_,ne⟩
 ·generalize D.tup [bw na as,bw nb bs]=P at *
  generalize bw na as=n1,bw nb bs=n2 at *
  clear h1 h2 s1 s2 la lb few he
  unfold jv
  walk_at "mir"
 ·exact absurd (he b s g) ne
end
def pL (ws:List cB)(k:Nat):cB:=ws.getD k ⟨.wait,0,0,0,0⟩
theorem Hq {ws:List cB}{k:Nat}(h:k<ws.length):pL ws k∈ws:=by
 unfold pL
 rw[cQ,bt h]
 exact dC h
def lq (ws:List cB)(c:Int):List cB:=(az ws.length).map λk=>o8 (pL ws k) (((k:Int)+c)%2)
theorem Ku (ws:List cB)(c:Int):ny ws (lq ws c)/\ny (lq ws c) ws:=by
 constructor
 ·intro a ha
  obtain⟨i,hi,e⟩:=bB.mp ha
  have e':pL ws i=a:=by unfold pL;rw[cQ,bt hi];exact e
  exact⟨o8 (pL ws i) (((i:Int)+c)%2),bH.mpr ⟨i,aX.mpr hi,rfl⟩,by rw[e'];exact⟨rfl,rfl,rfl,rfl⟩⟩
 ·intro a ha
  obtain⟨i,hi,rfl⟩:=bH.mp ha
  exact⟨pL ws i,Hq (aX.mp hi),rfl,rfl,rfl,rfl⟩
theorem Ts (ns:List Int)(_:ns.length<=63):HX [.lst (ns.map .int)]=some (.bl true):=by
 obtain⟨c,c0⟩:=Mp ns 0 (by decide)
 obtain⟨near,c1⟩:=Mp ns 1 (by decide)
 obtain⟨many,lh,mZ,rL⟩:∃m:Nat,1+c%6=(m:Int)/\1<=m/\m<=6:=⟨(1+c%6).toNat,by omega,by omega,by omega⟩
 obtain⟨p,tu,hp⟩:=Tl mZ (by omega) (c/6)
 have pl:p.length=many:=by simpa using hp.length_eq
 have h5:∀g,g<many->(λg=>p.findIdx (λx=>decide (x=g))) g<=5:=λg hg=>by
  have:p.findIdx (λx=>decide (x=g))<p.length:=List.findIdx_lt_length_of_exists ⟨g,hp.mem_iff.mpr (aX.mpr hg),by simp⟩
  show p.findIdx (λx=>decide (x=g))<=5
  omega
 have key:∀z:Int,∃a:cB,vb [.int z,.lst (bv p)]=some (bc a)/\Wp many (λg=>p.findIdx (λx=>decide (x=g))) a:=λz=>UW z mZ hp
 generalize (λg=>p.findIdx (λx=>decide (x=g)))=rk at *
 obtain⟨Q,hQ⟩:=Classical.axiomOfChoice key
 have q7:∀r:L3.Env,r[0]?.join=some (.lst (ns.map .int))->r[3]?.join=some (.lst (bv p))->∃bs:List cB,HC r=some (.lst (bs.map bc))/\bs.length<=8/\∀a∈bs,Wp many rk a:=λr h0 h2=>by
  have ce:=Lu (ns:=ns) (r:=r) 0 2 10 h0
  refine⟨((ns.drop 2).take 8).map Q,?_,by rw[aD,dD];omega,λa ha=>?_⟩
  ·rw[df]
   refine wq D.int _ _ ce (by rw[dD];omega) λz _=>⟨[some (.int z),some (.lst (bv p))],by show some [some (D.int z),r[3]?.join]=_;rw[h2],?_⟩
   have:=(hQ z).1
   show _=some (bc (Q z))
   generalize bc (Q z)=R,bv p=np at *
   clear hQ key ce h0 h2
   walk_at "mir"
  ·obtain⟨z,_,rfl⟩:=bH.mp ha
   exact(hQ z).2
 clear key hQ
 obtain⟨ps,q7,rO,pp⟩:=q7 [some (.lst (ns.map .int)),some (.int c),some (.int (many:Int)),some (.lst (bv p)),none,none,none,none,none,none,none,none] rfl rfl
 have ls:jR [.lst (ps.map bc)]=some (.lst (ps.map bc)):=rfl
 have ce:=Lu (ns:=ns) (r:=[some (.lst (ns.map .int)),some (.int c),some (.int (many:Int)),some (.lst (bv p)),some (.lst (ps.map bc)),some (.lst (ps.map bc)),none,none,none,none,none,none]) 0 10 16 rfl
 obtain⟨ws,y6,lw,wl,wp,wf⟩:=VI (ns:=ns) h5 rO pp (cs:=(ns.drop 10).take (16-10)) (by rw[dD];omega) (x0:=some (.lst (ns.map .int))) (x1:=some (.int c)) (x2:=some (.int (many:Int))) (x3:=some (.lst (bv p))) (x4:=some (.lst (ps.map bc))) (x7:=none) (x8:=none) (x9:=none) (x10:=none) (x11:=none)
 obtain⟨us,ul,up,wZ,xA,pN⟩:∃us:List cB,us.length<=14/\(∀a∈us,Wp many rk a)/\ny ws us/\ny us ws/\(sIf (tb (e2 (eqD false) (e2 eO (e2 iI (eV 1) (eC (.int 42))) (eC (.int 2))) (eC (.int 1)))) (sSet 5 (λρ=>((lsD (eV 5)) ρ).bind λds=>some (.lst ds.reverse))) sSkip) [some (.lst (ns.map .int)),some (.int c),some (.int (many:Int)),some (.lst (bv p)),some (.lst (ps.map bc)),some (.lst (ws.map bc)),y6,none,none,none,none,none]=some (.nx [some (.lst (ns.map .int)),some (.int c),some (.int (many:Int)),some (.lst (bv p)),some (.lst (ps.map bc)),some (.lst (us.map bc)),y6,none,none,none,none,none]):=by
  by_cases g:c/42%2=1
  ·refine⟨ws.reverse,by simpa using wl,λa ha=>wp a (kE.mp ha),λa ha=>⟨a,kE.mpr ha,rfl,rfl,rfl,rfl⟩,λa ha=>⟨a,kE.mp ha,rfl,rfl,rfl,rfl⟩,?_⟩
   rw[List.map_reverse]
   generalize D.lst (ns.map .int)=S0,ps.map bc=PS,ws.map bc=WS,bv p=np at *
   clear q7 pp rO wl wp wf lw ce ls lh mZ rL c0 c1 tu hp pl h5
   walk_at "mir"
  ·refine⟨ws,wl,wp,λa ha=>⟨a,ha,rfl,rfl,rfl,rfl⟩,λa ha=>⟨a,ha,rfl,rfl,rfl,rfl⟩,?_⟩
   generalize D.lst (ns.map .int)=S0,ps.map bc=PS,ws.map bc=WS,bv p=np at *
   clear q7 pp rO wl wp wf lw ce ls lh mZ rL c0 c1 tu hp pl h5
   walk_at "mir"
 have nl:(kS many).length=many:=by unfold kS;rw[aD,bZ]
 have pP:(iw many).length=many:=by unfold iw;rw[aD,bZ]
 have q6:∀r:L3.Env,r[2]?.join=some (.int (many:Int))->HB r=some (.lst (kS many)):=λr hr=>by
  refine wq (λ(t:Nat)=>D.int (t:Int)) _ (az many) (t6 (by rw[←hr];rfl) (by omega)) (by simp;omega) λk hk=>⟨[some (.int (k:Int))],rfl,?_⟩
  have:=Mt (Gm k (by have:=aX.mp hk;omega))
  generalize oH k=L at *
  clear hk hr nl pP q7 pp rO wl wp wf lw ce ls lh mZ rL c0 c1 tu hp pl h5 pN up wZ xA ul
  walk_at "mir"
 have q4:∀r:L3.Env,r[7]?.join=some (.lst (kS many))->Hz r=some (.lst (iw many)):=λr hr=>by
  refine wq (λ(k:Nat)=>D.str (oH k)) _ (az many) (by unfold lsD;have:eV 7 r=some (.lst (kS many)):=hr;rw[this];rfl) (by simp;omega) λk hk=>⟨[some (.str (oH k))],rfl,?_⟩
  have:=Mt (Wz k (by have:=aX.mp hk;omega))
  generalize oH k=L,qU k=L9 at *
  clear hk hr nl pP q7 pp rO wl wp wf lw ce ls lh mZ rL c0 c1 tu hp pl h5 pN up wZ xA ul
  walk_at "mir"
 have q5:∀r:L3.Env,r[4]?.join=some (.lst (ps.map bc))->HA r=some (.lst ((ps.map λa=>o8 a 1).map bQ)):=λr hr=>by
  rw[df]
  refine wq bc _ ps (by unfold lsD;have:eV 4 r=some (.lst (ps.map bc)):=hr;rw[this];rfl) (by omega) λa _=>⟨[some (bc a)],rfl,?_⟩
  have:=Ls a 1
  show _=some (bQ (o8 a 1))
  generalize bQ (o8 a 1)=R,bc a=ea at *
  clear hr nl pP q7 pp rO wl wp wf lw ce ls lh mZ rL c0 c1 tu hp pl h5 pN up wZ xA ul
  walk_at "mir"
 have q3:∀r:L3.Env,r[5]?.join=some (.lst (us.map bc))->r[1]?.join=some (.int c)->Hy r=some (.lst ((lq us c).map bQ)):=λr hr wB=>by
  unfold lq
  rw[df]
  have e5:eV 5 r=some (.lst (us.map bc)):=hr
  have ln:(eN d5 (aCons (eV 5) aNil)) r=some (.int (us.length:Int)):=by
   show(((eV 5) r).bind λd=>(some []).bind λds=>some (d::ds)).bind d5=_
   rw[e5]
   show d5 [.lst (us.map bc)]=_
   rw[u5,aD]
  refine wq (λ(t:Nat)=>D.int (t:Int)) _ (az us.length) (t6 ln (by omega)) (by simp;omega) λk hk=>⟨[some (.int (k:Int)),some (.lst (us.map bc)),some (.int c)],by show some [some (D.int (k:Int)),r[5]?.join,r[1]?.join]=_;rw[hr,wB],?_⟩
  have hk:=aX.mp hk
  have ix:eF (.lst (us.map bc)) (.int (k:Int))=some (bc (pL us k)):=uj (by unfold pL;rw[aM,cQ,bt hk];rfl)
  have:=Ls (pL us k) (((k:Int)+c)%2)
  show _=some (bQ (o8 (pL us k) (((k:Int)+c)%2)))
  generalize bQ (o8 (pL us k) (((k:Int)+c)%2))=R,bc (pL us k)=ea,us.map bc=US at *
  generalize (k:Int)=ki at *
  clear e5 ln hr wB nl pP q7 pp rO wl wp wf lw ce ls lh mZ rL c0 c1 tu hp pl h5 pN up wZ xA ul q6 q4 q5
  walk_at "mir"
 have o9:fS many (ps.map λa=>o8 a 1):=⟨mZ,by omega,by rw[aD];omega,λa ha=>by
  obtain⟨b,hb,rfl⟩:=bH.mp ha
  exact(pp b hb).right (h5 _ (pp b hb).g) 1,rk,λa ha z=>by
  obtain⟨b,hb,rfl⟩:=bH.mp ha
  exact((pp b hb).r z).1⟩
 have rN:fS many (lq us c):=⟨mZ,by omega,by unfold lq;rw[aD,bZ];omega,λa ha=>by
  obtain⟨k,hk,rfl⟩:=bH.mp ha
  have pb:=up _ (Hq (aX.mp hk))
  exact pb.right (h5 _ pb.g) _,rk,λa ha z=>by
  obtain⟨k,hk,rfl⟩:=bH.mp ha
  exact((up _ (Hq (aX.mp hk))).r z).1⟩
 have n1:=Mw o9 nl (Wy mZ rL)
 have n2:=Mw rN pP (VJ mZ rL)
 obtain⟨k1,d1,f1,s1,h1⟩:=Mr o9 nl
 obtain⟨k2,d2,f2,s2,h2⟩:=Mr rN pP
 have hf:∀b s g,f1 b s g=f2 b s g:=λb s g=>by
  have g2:=(wf f2 ((h2.sm.like (Ku us c).2 (Ku us c).1).like xA wZ)).like (bs:=ps.map λa=>o8 a 1) (λa ha=>⟨o8 a 1,bH.mpr ⟨a,ha,rfl⟩,rfl,rfl,rfl,rfl⟩) (λa ha=>by
   obtain⟨b,hb,rfl⟩:=bH.mp ha
   exact⟨b,hb,rfl,rfl,rfl,rfl⟩)
  obtain⟨r,hr⟩:=o9.rank
  exact Sm.uniq hr (λa ha=>(o9.right a ha).s) (λa ha=>(o9.right a ha).g) h1.sm g2 b s g
 have nB:=λb s g=>(hf b s g).symm
 have vM:k1.length<=25:=cm (h1.few λa ha=>(o9.right a ha).g) (VG (n:=8) (by rw[aD];exact rO) (by decide))
 have AH:k2.length<=25:=cm (h2.sub h1 nB) vM
 have eq:=h1.eqD h2 hf
 generalize hA:(ps.map λa=>o8 a 1)=as at *
 generalize hB:lq us c=bs at *
 have lp:gj (gV 9) jv [.tup [bw (kS many) as,bw (iw many) bs],.tup [bw (iw many) bs,bw (kS many) as],.tup [bw (kS many) as,bw (kS many) as],.tup [bw (iw many) bs,bw (iw many) bs]] [some (.lst (ns.map .int)),some (.int c),some (.int (many:Int)),some (.lst (bv p)),some (.lst (ps.map bc)),some (.lst (us.map bc)),some (bw (kS many) as),some (.lst (kS many)),some (bw (iw many) bs),none,none,none]=some (.nx [some (.lst (ns.map .int)),some (.int c),some (.int (many:Int)),some (.lst (bv p)),some (.lst (ps.map bc)),some (.lst (us.map bc)),some (bw (kS many) as),some (.lst (kS many)),some (bw (iw many) bs),some (.tup [bw (iw many) bs,bw (iw many) bs]),none,none]):=by
  have xN:∀(d:D) (ds:List D) (ρ ρ1 ρ2:L3.Env),jv ρ1=some (.nx ρ2)->gV 9 d ρ=some ρ1->gj (gV 9) jv (d::ds) ρ=gj (gV 9) jv ds ρ2:=λd ds ρ ρ1 ρ2 b a=>by
   show(gV 9 d ρ).bind _=_
   rw[a,bM,b];rfl
  exact(xN _ _ _ _ _ (DR h1 h2 s1 s2 nl pP (by omega) hf _ _ _ _ _ _ _ _ _ _ _) rfl).trans ((xN _ _ _ _ _ (DR h2 h1 s2 s1 pP nl (by omega) nB _ _ _ _ _ _ _ _ _ _ _) rfl).trans ((xN _ _ _ _ _ (DR h1 h1 s1 s1 nl nl (by omega) (λ_ _ _=>rfl) _ _ _ _ _ _ _ _ _ _ _) rfl).trans ((xN _ _ _ _ _ (DR h2 h2 s2 s2 pP pP (by omega) (λ_ _ _=>rfl) _ _ _ _ _ _ _ _ _ _ _) rfl).trans rfl)))
 have wk:∀q:Nat×Nat,∃t:T,q.1<=100->q.2<=100->vc [.int near,.int (10*(q.1:Int)+(q.2:Int))]=some (cK t):=λq=>by
  by_cases h:q.1<=100/\q.2<=100
  ·obtain⟨t,ht⟩:=UX near (k:=10*(q.1:Int)+(q.2:Int)) (by omega) (by omega)
   exact⟨t,λ_ _=>ht⟩
  ·exact⟨none,λh1 h2=>absurd ⟨h1,h2⟩ h⟩
 obtain⟨w0,Jn⟩:=Classical.axiomOfChoice wk
 obtain⟨w,hw⟩:∃w:Nat->Nat->T,∀i g:Nat,i<=100->g<=100->vc [.int near,.int (10*(i:Int)+(g:Int))]=some (cK (w i g)):=⟨λi g=>w0 (i,g),λi g h1 h2=>Jn (i,g) h1 h2⟩
 clear Jn wk
 have q2:∀r:L3.Env,r[2]?.join=some (.int (many:Int))->r[10]?.join=some (.int near)->Hx r=some (.lst (bF many 4 w)):=λr wB Gb=>by
  refine wq (λ(t:Nat)=>D.int (t:Int)) (λi=>D.lst (cE many (w i))) (az 4) (t6 (n:=4) rfl (by decide)) (by simp) λi hi=>⟨[some (.int (i:Int)),some (.int (many:Int)),some (.int near)],by show some [some (D.int (i:Int)),r[2]?.join,r[10]?.join]=_;rw[wB,Gb],?_⟩
  have hi:=aX.mp hi
  refine wq (λ(t:Nat)=>D.int (t:Int)) _ (az many) (t6 rfl (by omega)) (by simp;omega) λg hg=>⟨[some (.int (g:Int)),some (.int near),some (.int (i:Int))],rfl,?_⟩
  have:=hw i g (by omega) (by have:=aX.mp hg;omega)
  have mu:hV (.int 10) (.int (i:Int))=some (.int (10*(i:Int))):=zcv (by decide) (by decide)
  generalize cK (w i g)=R,(10:Int)*(i:Int)=ti at *
  clear nl pP q7 pp rO wl wp wf lw ce ls lh mZ rL c0 c1 tu hp pl h5 pN up wZ xA ul q6 q4 q5 q3 o9 rN n1 n2 s1 s2 h1 h2 hf nB eq lp hw hg hi wB Gb vM AH hA hB
  walk_at "mir"
 have a4:dep as<=4:=CL λa ha=>(o9.right a ha).b
 have b4:dep bs<=4:=CL λa ha=>(rN.right a ha).b
 obtain⟨Y,JU,hY⟩:=Mx (rounds:=5) (iz:=.lst (bF many 4 w)) (ma:=.non) o9 nl (by decide) (.some 4 w a4) .no
 obtain⟨Z,GG,hZ⟩:=Mx (rounds:=5) (iz:=.lst (bF many 4 w)) (ma:=.non) rN pP (by decide) (.some 4 w b4) .no
 have same:=R5 h1 h2 o9 rN hf hY hZ
 rw[←Rh same]at GG
 replace JU:xC [bw (kS many) as,.int 5,.lst (bF many 4 w),.non]=some (.lst (bF many 5 λr g=>Y (dep as+r) g)):=JU
 replace GG:xC [bw (iw many) bs,.int 5,.lst (bF many 4 w),.non]=some (.lst (bF many 5 λr g=>Y (dep as+r) g)):=GG
 obtain⟨x,qq,hx⟩:=Tr false many 5 (λr g=>Y (dep as+r) g) (λr g=>Y (dep as+r) g)
 have hx:=hx.mpr λ_ _ _ _=>rfl
 subst hx
 have q6:=q6 [some (.lst (ns.map .int)),some (.int c),some (.int (many:Int)),some (.lst (bv p)),some (.lst (ps.map bc)),some (.lst (us.map bc)),y6,none,none,none,none,none] rfl
 have q5:=q5 [some (.lst (ns.map .int)),some (.int c),some (.int (many:Int)),some (.lst (bv p)),some (.lst (ps.map bc)),some (.lst (us.map bc)),y6,some (.lst (kS many)),none,none,none,none] rfl
 have q4:=q4 [some (.lst (ns.map .int)),some (.int c),some (.int (many:Int)),some (.lst (bv p)),some (.lst (ps.map bc)),some (.lst (us.map bc)),some (bw (kS many) as),some (.lst (kS many)),none,none,none,none] rfl
 have q3:=q3 [some (.lst (ns.map .int)),some (.int c),some (.int (many:Int)),some (.lst (bv p)),some (.lst (ps.map bc)),some (.lst (us.map bc)),some (bw (kS many) as),some (.lst (kS many)),none,none,none,none] rfl rfl
 have q2:=q2 [some (.lst (ns.map .int)),some (.int c),some (.int (many:Int)),some (.lst (bv p)),some (.lst (ps.map bc)),some (.lst (us.map bc)),some (bw (kS many) as),some (.lst (kS many)),some (bw (iw many) bs),some (.tup [bw (iw many) bs,bw (iw many) bs]),some (.int near),none] rfl rfl
 generalize bF many 5 (λr g=>Y (dep as+r) g)=RO,bF many 4 w=WO at *
 clear same hY hZ a4 b4
 generalize bw (kS many) as=N1,bw (iw many) bs=N2 at *
 generalize kS many=NM,iw many=WC,as.map bQ=AS,bs.map bQ=BS,ps.map bc=PS,us.map bc=US,ws.map bc=WS,bv p=np,D.lst (ns.map .int)=S0,((ns.drop 10).take (16-10)).map D.int=CS,D.dT k1 d1=WA,D.dT k2 d2=WB at *
 clear pp rO wl wp wf mZ rL hp pl h5 up wZ xA ul o9 rN h1 h2 hf nB hw vM AH hA hB nl pP
 unfold HX
 generalize (sIf (tb (e2 (eqD false) (e2 eO (e2 iI (eV 1) (eC (.int 42))) (eC (.int 2))) (eC (.int 1)))) (sSet 5 (λρ=>((lsD (eV 5)) ρ).bind λds=>some (.lst ds.reverse))) sSkip)=IF,(lsD (λρ=>((eV 0) ρ).bind λd=>((pInt (eC (.int 10))) ρ).bind λl=>((pInt (eC (.int 16))) ρ).bind λh=>gB d l h))=LS,jv=B1,xR=B2,Hx=Q2,Hy=Q3,Hz=Q4,HA=Q5,HB=Q6,HC=Q7 at *
 walk_at "mir"
section
variable {P:bb}{w:bG}{K:ae}{mg:aR->Option aa}{base:aK}{a:yG}
theorem VL (T:Txt K mg a):cS P w K mg base fE 6 a.f_law a.d_law ["_law_script"] (mq K):=VQ (V5 T) Ts
end
abbrev dh (x q:aR)(s:cp):=gc x q (kO s) (gG s) (bg s)
theorem all_mk {l:kn}{w:bG}{K:ae}{h:aK}{mg:aR->Option aa}(X:K.In h)(G:h.Ns aB mg)(NW:mg "law"=some (.ref fa))
  
  (aC_Arrow:aF K aB "Arrow"=some (some (.ref c_Arrow))) (pg_Arrow:cZ K c_Arrow aR.empty=true) (hd_Arrow:cN K c_Arrow=true) (po_Arrow:dN K c_Arrow=true) (sa_Arrow:av K (.ref c_Arrow) "__setattr__"=some (some (.builtin "object.__setattr__"))) (mk_Arrow:dJ K c_Arrow=true) (kc_Arrow:ax K (.ref c_Arrow)=true)
  (aC_Ride:aF K aB "Ride"=some (some (.ref c_Ride))) (pg_Ride:cZ K c_Ride aR.empty=true) (hd_Ride:cN K c_Ride=true) (po_Ride:dN K c_Ride=true) (sa_Ride:av K (.ref c_Ride) "__setattr__"=some (some (.builtin "object.__setattr__"))) (mk_Ride:dJ K c_Ride=true) (kc_Ride:ax K (.ref c_Ride)=true)
  (aC_Wait:aF K aB "Wait"=some (some (.ref c_Wait))) (pg_Wait:cZ K c_Wait aR.empty=true) (hd_Wait:cN K c_Wait=true) (po_Wait:dN K c_Wait=true) (sa_Wait:av K (.ref c_Wait) "__setattr__"=some (some (.builtin "object.__setattr__"))) (mk_Wait:dJ K c_Wait=true) (kc_Wait:ax K (.ref c_Wait)=true)
  (aC_Back:aF K aB "Back"=some (some (.ref c_Back))) (pg_Back:cZ K c_Back aR.empty=true) (hd_Back:cN K c_Back=true) (po_Back:dN K c_Back=true) (sa_Back:av K (.ref c_Back) "__setattr__"=some (some (.builtin "object.__setattr__"))) (mk_Back:dJ K c_Back=true) (kc_Back:ax K (.ref c_Back)=true)
  (aC_Net:aF K aB "Net"=some (some (.ref c_Net))) (pg_Net:cZ K c_Net aR.empty=true) (hd_Net:cN K c_Net=true) (po_Net:dN K c_Net=true) (sa_Net:av K (.ref c_Net) "__setattr__"=some (some (.builtin "object.__setattr__"))) (mk_Net:dJ K c_Net=true) (kc_Net:ax K (.ref c_Net)=true)
  (a0:av K (.ref c_Arrow) "__init__"=some (some (.ref f0))) (i0:dr K (.ref f0)=true)
  (l0:K.lookup f0=some ⟨W6,Xg,.func (dh "__init__" "Arrow.__init__" zu .none Js IA JJ Ie EJ Ip),Xv⟩) (c0:aH K EJ "Arrow.__init__"=true) (k0:ax K (.ref f0)=true)
  (a1:av K (.ref c_Ride) "__init__"=some (some (.ref f1))) (i1:dr K (.ref f1)=true)
  (l1:K.lookup f1=some ⟨W7,Xh,.func (dh "__init__" "Ride.__init__" ya .none Jt IC JK Ig EK Iq),Xw⟩) (c1:aH K EK "Ride.__init__"=true) (k1:ax K (.ref f1)=true)
  (a2:av K (.ref c_Wait) "__init__"=some (some (.ref f2))) (i2:dr K (.ref f2)=true)
  (l2:K.lookup f2=some ⟨W8,Xi,.func (dh "__init__" "Wait.__init__" zn (.ref DC) Gn EW Gz EE C4 ET),Ck⟩) (c2:aH K C4 "Wait.__init__"=true) (k2:ax K (.ref f2)=true)
  (t2:K.lookup DC=some ⟨XM,Qj,.seq #[.int 0 Cw] XR,Qm⟩)
  (a3:av K (.ref c_Back) "__init__"=some (some (.ref f3))) (i3:dr K (.ref f3)=true)
  (l3:K.lookup f3=some ⟨W9,Xj,.func (dh "__init__" "Back.__init__" zo (.ref DD) Gp EX GA EG C5 EU),Xx⟩) (c3:aH K C5 "Back.__init__"=true) (k3:ax K (.ref f3)=true)
  (t3:K.lookup DD=some ⟨XN,Qk,.seq #[.int 1 Cy] DF,Qn⟩)
  (a4:aF K aB "is_letter"=some (some (.ref f4)))
  (l4:K.lookup f4=some ⟨Xa,Xk,.func (dh "is_letter" "is_letter" yu .none Ju ID JL Ih EL Ir),Xy⟩) (c4:aH K EL "is_letter"=true) (k4:ax K (.ref f4)=true)
  (a5:aF K aB "is_figure"=some (some (.ref f5)))
  (l5:K.lookup f5=some ⟨Xb,Xl,.func (dh "is_figure" "is_figure" yw .none Jv IE JM Ii EM Iu),Xz⟩) (c5:aH K EM "is_figure"=true) (k5:ax K (.ref f5)=true)
  (a6:aF K aB "is_name"=some (some (.ref f6)))
  (l6:K.lookup f6=some ⟨Xc,Xm,.func (dh "is_name" "is_name" xz .none Jw IG JN Ij EN Iv),XB⟩) (c6:aH K EN "is_name"=true) (k6:ax K (.ref f6)=true)
  (a7:aF K aB "are_names"=some (some (.ref f7)))
  (l7:K.lookup f7=some ⟨Xd,Xn,.func (dh "are_names" "are_names" yx .none Jx IH JO Ik EO Iw),XC⟩) (c7:aH K EO "are_names"=true) (k7:ax K (.ref f7)=true)
  (a8:aF K aB "lies_within"=some (some (.ref f8)))
  (l8:K.lookup f8=some ⟨Xe,Xo,.func (dh "lies_within" "lies_within" yb .none Jy II JP Il EQ Iy),XD⟩) (c8:aH K EQ "lies_within"=true) (k8:ax K (.ref f8)=true)
  (a9:aF K aB "is_right"=some (some (.ref f9)))
  (l9:K.lookup f9=some ⟨Xf,Xp,.func (dh "is_right" "is_right" xk .none Jz IJ JQ Im ER Iz),XF⟩) (c9:aH K ER "is_right"=true) (k9:ax K (.ref f9)=true)
  (a10:aF K aB "placed_goings"=some (some (.ref E6)))
  (l10:K.lookup E6=some ⟨OE,O1,.func (dh "placed_goings" "placed_goings" zp .none Bf Ak BK yR uP zP),PK⟩) (c10:aH K uP "placed_goings"=true) (k10:ax K (.ref E6)=true)
  (a11:av K (.ref c_Net) "__init__"=some (some (.ref C7))) (i11:dr K (.ref C7)=true)
  (l11:K.lookup C7=some ⟨OF,O2,.func (dh "__init__" "Net.__init__" yo .none Bg Am BL yS uQ zQ),PL⟩) (c11:aH K uQ "Net.__init__"=true) (k11:ax K (.ref C7)=true)
  (a12:av K (.ref c_Net) "most_behind"=some (some (.ref C8))) (i12:dr K (.ref C8)=true)
  (l12:K.lookup C8=some ⟨OG,O3,.func (dh "most_behind" "Net.most_behind" zl .none Bh An BM yT uR zR),PM⟩) (c12:aH K uR "Net.most_behind"=true) (k12:ax K (.ref C8)=true)
  (a13:av K (.ref c_Net) "into"=some (some (.ref C9))) (i13:dr K (.ref C9)=true)
  (l13:K.lookup C9=some ⟨OH,O4,.func (dh "into" "Net.into" xl .none Bi Ao BN yU uS zS),PN⟩) (c13:aH K uS "Net.into"=true) (k13:ax K (.ref C9)=true)
  (a14:av K (.ref c_Net) "order"=some (some (.ref Dd))) (i14:dr K (.ref Dd)=true)
  (l14:K.lookup Dd=some ⟨OI,O5,.func (dh "order" "Net.order" yy .none Bj Ap BO yV uT zT),PP⟩) (c14:aH K uT "Net.order"=true) (k14:ax K (.ref Dd)=true)
  (a15:aF K aB "later"=some (some (.ref E7)))
  (l15:K.lookup E7=some ⟨OJ,O6,.func (dh "later" "later" vk .none Bk Aq BP yW uU zU),PQ⟩) (c15:aH K uU "later"=true) (k15:ax K (.ref E7)=true)
  (a16:aF K aB "latest"=some (some (.ref E8)))
  (l16:K.lookup E8=some ⟨OK,O7,.func (dh "latest" "latest" wm .none Bl Ar BQ yX uV zV),PR⟩) (c16:aH K uV "latest"=true) (k16:ax K (.ref E8)=true)
  (a17:aF K aB "greatest_told"=some (some (.ref E9)))
  (l17:K.lookup E9=some ⟨OL,O8,.func (dh "greatest_told" "greatest_told" zq .none Bm As BR yY uW zW),PU⟩) (c17:aH K uW "greatest_told"=true) (k17:ax K (.ref E9)=true)
  (a18:aF K aB "rows_ahead"=some (some (.ref Fa)))
  (l18:K.lookup Fa=some ⟨OM,O9,.func (dh "rows_ahead" "rows_ahead" yp .none Bn Au BU yZ uX zX),PV⟩) (c18:aH K uX "rows_ahead"=true) (k18:ax K (.ref Fa)=true)
  (a19:aF K aB "time_in_last_row"=some (some (.ref Fb)))
  (l19:K.lookup Fb=some ⟨ON,Pa,.func (dh "time_in_last_row" "time_in_last_row" zk .none Bo Av BV zA uY zY),PX⟩) (c19:aH K uY "time_in_last_row"=true) (k19:ax K (.ref Fb)=true)
  (a20:aF K aB "rows_with_past"=some (some (.ref Fc)))
  (l20:K.lookup Fc=some ⟨OO,Pb,.func (dh "rows_with_past" "rows_with_past" zm .none Bp Aw BW zB uZ zZ),PY⟩) (c20:aH K uZ "rows_with_past"=true) (k20:ax K (.ref Fc)=true)
  (a21:aF K aB "run"=some (some (.ref Fd)))
  (l21:K.lookup Fd=some ⟨OP,Pc,.func (dh "run" "run" jg (.ref rn) sr se sD rY qF sd),PZ⟩) (c21:aH K qF "run"=true) (k21:ax K (.ref Fd)=true)
  (t21:K.lookup rn=some ⟨Qi,JY,.seq #[.none,.none] Ql,J0⟩)
  (a22:aF K aB "sums_within_round"=some (some (.ref Fe)))
  (l22:K.lookup Fe=some ⟨OQ,Pd,.func (dh "sums_within_round" "sums_within_round" zj .none Bq Ax BX zC vA Aa),P0⟩) (c22:aH K vA "sums_within_round"=true) (k22:ax K (.ref Fe)=true)
  (a23:aF K aB "steps"=some (some (.ref Ff)))
  (l23:K.lookup Ff=some ⟨OR,Pe,.func (dh "steps" "steps" vm .none Br Ay BY zD vB Ab),P1⟩) (c23:aH K vB "steps"=true) (k23:ax K (.ref Ff)=true)
  (a24:aF K aB "parted"=some (some (.ref Fg)))
  (l24:K.lookup Fg=some ⟨OS,Pf,.func (dh "parted" "parted" wn .none Bs Az BZ zE vC Ac),P2⟩) (c24:aH K vC "parted"=true) (k24:ax K (.ref Fg)=true)
  (a25:aF K aB "_law_cell_at"=some (some (.ref Fh)))
  (l25:K.lookup Fh=some ⟨OT,Pg,.func (dh "_law_cell_at" "_law_cell_at" yc .none Bt AA B0 zF vD Ad),P3⟩) (c25:aH K vD "_law_cell_at"=true) (k25:ax K (.ref Fh)=true)
  (a26:aF K aB "_law_mixed"=some (some (.ref Fi)))
  (l26:K.lookup Fi=some ⟨OU,Ph,.func (dh "_law_mixed" "_law_mixed" yz .none Bu AB B3 zG vE Ae),P4⟩) (c26:aH K vE "_law_mixed"=true) (k26:ax K (.ref Fi)=true)
  (a27:aF K aB "_law_turned"=some (some (.ref Fj)))
  (l27:K.lookup Fj=some ⟨OV,Pj,.func (dh "_law_turned" "_law_turned" yq .none Bv AC B4 zH vF Af),P5⟩) (c27:aH K vF "_law_turned"=true) (k27:ax K (.ref Fj)=true)
  (a28:aF K aB "_law_part"=some (some (.ref Fk)))
  (l28:K.lookup Fk=some ⟨OW,Pk,.func (dh "_law_part" "_law_part" xm .none Bw AD B5 zI vG Ag),P6⟩) (c28:aH K vG "_law_part"=true) (k28:ax K (.ref Fk)=true)
  (a29:aF K aB "_law_arrow"=some (some (.ref Fm)))
  (l29:K.lookup Fm=some ⟨OX,Pl,.func (dh "_law_arrow" "_law_arrow" y0 .none Bx AE B6 zJ vH Ah),P7⟩) (c29:aH K vH "_law_arrow"=true) (k29:ax K (.ref Fm)=true)
  (a30:aF K aB "_law_more"=some (some (.ref Fo)))
  (l30:K.lookup Fo=some ⟨OY,Pm,.func (dh "_law_more" "_law_more" xo .none By AF B7 zK vI Ai),P8⟩) (c30:aH K vI "_law_more"=true) (k30:ax K (.ref Fo)=true)
  (a31:aF K aB "_law_time"=some (some (.ref Fp)))
  (l31:K.lookup Fp=some ⟨OZ,Pn,.func (dh "_law_time" "_law_time" xp .none Bz AG B8 zL vJ Aj),P9⟩) (c31:aH K vJ "_law_time"=true) (k31:ax K (.ref Fp)=true)
  (a32:aF K aB "law"=some (some (.ref IM)))
  (l32:K.lookup IM=some ⟨O0,Po,.func (dh "law" "law" qk .none wF vL wK uN rZ vK),Qa⟩) (c32:aH K rZ "law"=true) (k32:ax K (.ref IM)=true)
  (qs_Arrow:dg K (.ref c_Arrow) "__getattribute__"=some (some (.builtin "type.__getattribute__"))) (qr_Arrow:hE K c_Arrow (.type "type")=true) (qf_Arrow:gZ K (.ref c_Arrow) (.type "type") "__init__"=some (.val (.ref f0)))
  (n_Net_arrows:av K (.ref c_Net) "arrows"=some none)
  (n_Arrow_behind:av K (.ref c_Arrow) "behind"=some none)
  (n_Ride_behind:av K (.ref c_Ride) "behind"=some none)
  (n_Wait_behind:av K (.ref c_Wait) "behind"=some none)
  (n_Back_behind:av K (.ref c_Back) "behind"=some none)
  (n_Arrow_goal:av K (.ref c_Arrow) "goal"=some none)
  (n_Ride_goal:av K (.ref c_Ride) "goal"=some none)
  (n_Wait_goal:av K (.ref c_Wait) "goal"=some none)
  (n_Back_goal:av K (.ref c_Back) "goal"=some none)
  (n_Net_names:av K (.ref c_Net) "names"=some none)
  (n_Arrow_start:av K (.ref c_Arrow) "start"=some none)
  (n_Ride_start:av K (.ref c_Ride) "start"=some none)
  (n_Wait_start:av K (.ref c_Wait) "start"=some none)
  (n_Back_start:av K (.ref c_Back) "start"=some none)
  (n_Arrow_time:av K (.ref c_Arrow) "time"=some none)
  (n_Ride_time:av K (.ref c_Ride) "time"=some none)
  (n_Wait_time:av K (.ref c_Wait) "time"=some none)
  (n_Back_time:av K (.ref c_Back) "time"=some none)
  (ign:dg K (.builtin "object.__class__") "__get__"=some (some (.builtin "getset_descriptor.__get__"))) (igt:hG K (.builtin "object.__class__")=some true)
  (iga_Arrow:av K (.ref c_Arrow) "__class__"=some (some (.builtin "object.__class__"))) (igm_Arrow:dS K c_Arrow (.type "object")=some true)
  (kit_Arrow_Back:bJ K (.ref c_Arrow) (.ref c_Back)=some false)
  (kit_Arrow_Ride:bJ K (.ref c_Arrow) (.ref c_Ride)=some false)
  (iga_Ride:av K (.ref c_Ride) "__class__"=some (some (.builtin "object.__class__"))) (igm_Ride:dS K c_Ride (.type "object")=some true)
  (kit_Ride_Back:bJ K (.ref c_Ride) (.ref c_Back)=some false)
  (kit_Ride_Ride:bJ K (.ref c_Ride) (.ref c_Ride)=some true)
  (iga_Wait:av K (.ref c_Wait) "__class__"=some (some (.builtin "object.__class__"))) (igm_Wait:dS K c_Wait (.type "object")=some true)
  (kit_Wait_Back:bJ K (.ref c_Wait) (.ref c_Back)=some false)
  (kit_Wait_Ride:bJ K (.ref c_Wait) (.ref c_Ride)=some false)
  (iga_Back:av K (.ref c_Back) "__class__"=some (some (.builtin "object.__class__"))) (igm_Back:dS K c_Back (.type "object")=some true)
  (kit_Back_Back:bJ K (.ref c_Back) (.ref c_Back)=some true)
  (kit_Back_Ride:bJ K (.ref c_Back) (.ref c_Ride)=some false)
  (iga_Net:av K (.ref c_Net) "__class__"=some (some (.builtin "object.__class__"))) (igm_Net:dS K c_Net (.type "object")=some true)
  (kit_Net_Back:bJ K (.ref c_Net) (.ref c_Back)=some false)
  (kit_Net_Ride:bJ K (.ref c_Net) (.ref c_Ride)=some false)
  (z0:aF K aB "all"=some none)
  (z1:aF K aB "bool"=some none)
  (z2:aF K aB "enumerate"=some none)
  (z3:aF K aB "int"=some none)
  (z4:aF K aB "isinstance"=some none)
  (z5:aF K aB "len"=some none)
  (z6:aF K aB "list"=some none)
  (z7:aF K aB "max"=some none)
  (z8:aF K aB "min"=some none)
  (z9:aF K aB "range"=some none)
  (z10:aF K aB "reversed"=some none)
  (z11:aF K aB "sorted"=some none)
  (z12:aF K aB "str"=some none)
  (gc0:aF K aB "MOST_ARROWS"=some (some (.int 120 WL)))
  (gc1:aF K aB "MOST_BEHIND"=some (some (.int 4 WM)))
  (gc2:aF K aB "MOST_NAMES"=some (some (.int 40 WN)))
  (gc3:aF K aB "MOST_SIGNS"=some (some (.int 8 WP)))
  (gc4:aF K aB "MOST_TIME"=some (some (.int 1000000000 WQ))) :
  ∃fd:aS,(∀(s:ao) (v:aa),ni s fd ⟨[v],[]⟩ [("_law_script",v)])/\∀base:aK,K.In base->base.Ns aB mg->cS l.prog w K mg base fE 6 fa fd ["_law_script"] (mq K):=by
 have e:=NW.symm.trans (aQ X G a32)
 cases e
 have F0:=zy (st:=zu) l0 c0 k0
 have b0:bY K (dh "__init__" "Arrow.__init__" zu .none Js IA JJ Ie EJ Ip) ["self","start","goal","time","behind"] []:=.all (Gr λ_ _ _ _ _=>rfl)
 have F1:=zy (st:=ya) l1 c1 k1
 have b1:bY K (dh "__init__" "Ride.__init__" ya .none Jt IC JK Ig EK Iq) ["self","start","goal","time"] []:=.all (wI λ_ _ _ _=>rfl)
 have F2:=zy (st:=zn) l2 c2 k2
 have b2:bY K (dh "__init__" "Wait.__init__" zn (.ref DC) Gn EW Gz EE C4 ET) ["self","start","goal","time","behind"] []:=qj 5 t2 (Gr λ_ _ _ _ _=>⟨_,rfl,rfl⟩)
 have EH:bY K (dh "__init__" "Wait.__init__" zn (.ref DC) Gn EW Gz EE C4 ET) ["self","start","goal","time","behind"] [.int 0 Cw]:=qj 4 t2 (wI λ_ _ _ _=>⟨_,rfl,rfl⟩)
 have F3:=zy (st:=zo) l3 c3 k3
 have b3:bY K (dh "__init__" "Back.__init__" zo (.ref DD) Gp EX GA EG C5 EU) ["self","start","goal","time","behind"] []:=qj 5 t3 (Gr λ_ _ _ _ _=>⟨_,rfl,rfl⟩)
 have EI:bY K (dh "__init__" "Back.__init__" zo (.ref DD) Gp EX GA EG C5 EU) ["self","start","goal","time","behind"] [.int 1 Cy]:=qj 4 t3 (wI λ_ _ _ _=>⟨_,rfl,rfl⟩)
 have F4:=zy (st:=yu) l4 c4 k4
 have b4:bY K (dh "is_letter" "is_letter" yu .none Ju ID JL Ih EL Ir) ["sign"] []:=.all (rM λ_=>rfl)
 have F5:=zy (st:=yw) l5 c5 k5
 have b5:bY K (dh "is_figure" "is_figure" yw .none Jv IE JM Ii EM Iu) ["sign"] []:=.all (rM λ_=>rfl)
 have F6:=zy (st:=xz) l6 c6 k6
 have b6:bY K (dh "is_name" "is_name" xz .none Jw IG JN Ij EN Iv) ["word"] []:=.all (rM λ_=>rfl)
 have F7:=zy (st:=yx) l7 c7 k7
 have b7:bY K (dh "are_names" "are_names" yx .none Jx IH JO Ik EO Iw) ["names"] []:=.all (rM λ_=>rfl)
 have F8:=zy (st:=yb) l8 c8 k8
 have b8:bY K (dh "lies_within" "lies_within" yb .none Jy II JP Il EQ Iy) ["number","least","most"] []:=.all (BA λ_ _ _=>rfl)
 have F9:=zy (st:=xk) l9 c9 k9
 have b9:bY K (dh "is_right" "is_right" xk .none Jz IJ JQ Im ER Iz) ["arrow","many"] []:=.all (nY λ_ _=>rfl)
 have Mz:=zy (st:=zp) l10 c10 k10
 have M0:bY K (dh "placed_goings" "placed_goings" zp .none Bf Ak BK yR uP zP) ["many","arrows"] []:=.all (nY λ_ _=>rfl)
 have MA:=zy (st:=yo) l11 c11 k11
 have M3:bY K (dh "__init__" "Net.__init__" yo .none Bg Am BL yS uQ zQ) ["self","names","arrows"] []:=.all (BA λ_ _ _=>rfl)
 have MB:=zy (st:=zl) l12 c12 k12
 have M4:bY K (dh "most_behind" "Net.most_behind" zl .none Bh An BM yT uR zR) ["self"] []:=.all (rM λ_=>rfl)
 have MC:=zy (st:=xl) l13 c13 k13
 have M5:bY K (dh "into" "Net.into" xl .none Bi Ao BN yU uS zS) ["self","going"] []:=.all (nY λ_ _=>rfl)
 have MD:=zy (st:=yy) l14 c14 k14
 have M6:bY K (dh "order" "Net.order" yy .none Bj Ap BO yV uT zT) ["self"] []:=.all (rM λ_=>rfl)
 have ME:=zy (st:=vk) l15 c15 k15
 have M7:bY K (dh "later" "later" vk .none Bk Aq BP yW uU zU) ["when","more"] []:=.all (nY λ_ _=>rfl)
 have MF:=zy (st:=wm) l16 c16 k16
 have M8:bY K (dh "latest" "latest" wm .none Bl Ar BQ yX uV zV) ["one","other"] []:=.all (nY λ_ _=>rfl)
 have MG:=zy (st:=zq) l17 c17 k17
 have M9:bY K (dh "greatest_told" "greatest_told" zq .none Bm As BR yY uW zW) ["told"] []:=.all (rM λ_=>rfl)
 have MH:=zy (st:=yp) l18 c18 k18
 have Na:bY K (dh "rows_ahead" "rows_ahead" yp .none Bn Au BU yZ uX zX) ["net","was"] []:=.all (nY λ_ _=>rfl)
 have MI:=zy (st:=zk) l19 c19 k19
 have Nb:bY K (dh "time_in_last_row" "time_in_last_row" zk .none Bo Av BV zA uY zY) ["net","rows","numbers","floor"] []:=.all (wI λ_ _ _ _=>rfl)
 have MJ:=zy (st:=zm) l20 c20 k20
 have Nc:bY K (dh "rows_with_past" "rows_with_past" zm .none Bp Aw BW zB uZ zZ) ["net","rounds","was","floors"] []:=.all (wI λ_ _ _ _=>rfl)
 have MK:=zy (st:=jg) l21 c21 k21
 have Nd:bY K (dh "run" "run" jg (.ref rn) sr se sD rY qF sd) ["net","rounds","was","floors"] []:=qj 4 t21 (wI λ_ _ _ _=>⟨_,rfl,rfl⟩)
 have zM:bY K (dh "run" "run" jg (.ref rn) sr se sD rY qF sd) ["net","rounds","was","floors"] [.none]:=qj 3 t21 (BA λ_ _ _=>⟨_,rfl,rfl⟩)
 have zN:bY K (dh "run" "run" jg (.ref rn) sr se sD rY qF sd) ["net","rounds","was","floors"] [.none,.none]:=qj 2 t21 (nY λ_ _=>⟨_,rfl,rfl⟩)
 have ML:=zy (st:=zj) l22 c22 k22
 have Nf:bY K (dh "sums_within_round" "sums_within_round" zj .none Bq Ax BX zC vA Aa) ["net","going","order"] []:=.all (BA λ_ _ _=>rfl)
 have MM:=zy (st:=vm) l23 c23 k23
 have Ng:bY K (dh "steps" "steps" vm .none Br Ay BY zD vB Ab) ["net"] []:=.all (rM λ_=>rfl)
 have MN:=zy (st:=wn) l24 c24 k24
 have Nh:bY K (dh "parted" "parted" wn .none Bs Az BZ zE vC Ac) ["one","other"] []:=.all (nY λ_ _=>rfl)
 have MO:=zy (st:=yc) l25 c25 k25
 have Ni:bY K (dh "_law_cell_at" "_law_cell_at" yc .none Bt AA B0 zF vD Ad) ["_law_script","_law_k"] []:=.all (nY λ_ _=>rfl)
 have MP:=zy (st:=yz) l26 c26 k26
 have Nj:bY K (dh "_law_mixed" "_law_mixed" yz .none Bu AB B3 zG vE Ae) ["_law_cell","_law_k"] []:=.all (nY λ_ _=>rfl)
 have MQ:=zy (st:=yq) l27 c27 k27
 have Nk:bY K (dh "_law_turned" "_law_turned" yq .none Bv AC B4 zH vF Af) ["_law_many","_law_cell"] []:=.all (nY λ_ _=>rfl)
 have MR:=zy (st:=xm) l28 c28 k28
 have Nl:bY K (dh "_law_part" "_law_part" xm .none Bw AD B5 zI vG Ag) ["_law_cell","_law_order"] []:=.all (nY λ_ _=>rfl)
 have MS:=zy (st:=y0) l29 c29 k29
 have Nm:bY K (dh "_law_arrow" "_law_arrow" y0 .none Bx AE B6 zJ vH Ah) ["_law_part_here","_law_kind"] []:=.all (nY λ_ _=>rfl)
 have MT:=zy (st:=xo) l30 c30 k30
 have Nn:bY K (dh "_law_more" "_law_more" xo .none By AF B7 zK vI Ai) ["_law_parts","_law_cell"] []:=.all (nY λ_ _=>rfl)
 have MU:=zy (st:=xp) l31 c31 k31
 have Np:bY K (dh "_law_time" "_law_time" xp .none Bz AG B8 zL vJ Aj) ["_law_cell","_law_k"] []:=.all (nY λ_ _=>rfl)
 have MV:=zy (st:=qk) l32 c32 k32
 have Nq:bY K (dh "law" "law" qk .none wF vL wK uN rZ vK) ["_law_script"] []:=.all (rM λ_=>rfl)
 have T:Txt K mg ⟨c_Arrow,c_Ride,c_Wait,c_Back,c_Net,f0,dh "__init__" "Arrow.__init__" zu .none Js IA JJ Ie EJ Ip,f1,dh "__init__" "Ride.__init__" ya .none Jt IC JK Ig EK Iq,f2,dh "__init__" "Wait.__init__" zn (.ref DC) Gn EW Gz EE C4 ET,f3,dh "__init__" "Back.__init__" zo (.ref DD) Gp EX GA EG C5 EU,f4,dh "is_letter" "is_letter" yu .none Ju ID JL Ih EL Ir,f5,dh "is_figure" "is_figure" yw .none Jv IE JM Ii EM Iu,f6,dh "is_name" "is_name" xz .none Jw IG JN Ij EN Iv,f7,dh "are_names" "are_names" yx .none Jx IH JO Ik EO Iw,f8,dh "lies_within" "lies_within" yb .none Jy II JP Il EQ Iy,f9,dh "is_right" "is_right" xk .none Jz IJ JQ Im ER Iz,E6,dh "placed_goings" "placed_goings" zp .none Bf Ak BK yR uP zP,C7,dh "__init__" "Net.__init__" yo .none Bg Am BL yS uQ zQ,C8,dh "most_behind" "Net.most_behind" zl .none Bh An BM yT uR zR,C9,dh "into" "Net.into" xl .none Bi Ao BN yU uS zS,Dd,dh "order" "Net.order" yy .none Bj Ap BO yV uT zT,E7,dh "later" "later" vk .none Bk Aq BP yW uU zU,E8,dh "latest" "latest" wm .none Bl Ar BQ yX uV zV,E9,dh "greatest_told" "greatest_told" zq .none Bm As BR yY uW zW,Fa,dh "rows_ahead" "rows_ahead" yp .none Bn Au BU yZ uX zX,Fb,dh "time_in_last_row" "time_in_last_row" zk .none Bo Av BV zA uY zY,Fc,dh "rows_with_past" "rows_with_past" zm .none Bp Aw BW zB uZ zZ,Fd,dh "run" "run" jg (.ref rn) sr se sD rY qF sd,Fe,dh "sums_within_round" "sums_within_round" zj .none Bq Ax BX zC vA Aa,Ff,dh "steps" "steps" vm .none Br Ay BY zD vB Ab,Fg,dh "parted" "parted" wn .none Bs Az BZ zE vC Ac,Fh,dh "_law_cell_at" "_law_cell_at" yc .none Bt AA B0 zF vD Ad,Fi,dh "_law_mixed" "_law_mixed" yz .none Bu AB B3 zG vE Ae,Fj,dh "_law_turned" "_law_turned" yq .none Bv AC B4 zH vF Af,Fk,dh "_law_part" "_law_part" xm .none Bw AD B5 zI vG Ag,Fm,dh "_law_arrow" "_law_arrow" y0 .none Bx AE B6 zJ vH Ah,Fo,dh "_law_more" "_law_more" xo .none By AF B7 zK vI Ai,Fp,dh "_law_time" "_law_time" xp .none Bz AG B8 zL vJ Aj,fa,dh "law" "law" qk .none wF vL wK uN rZ vK⟩:=by
  constructor
  ·exact⟨⟨pg_Arrow,hd_Arrow,po_Arrow,sa_Arrow⟩,aQ X G aC_Arrow,mk_Arrow,kc_Arrow⟩
  ·exact⟨⟨pg_Ride,hd_Ride,po_Ride,sa_Ride⟩,aQ X G aC_Ride,mk_Ride,kc_Ride⟩
  ·exact⟨⟨pg_Wait,hd_Wait,po_Wait,sa_Wait⟩,aQ X G aC_Wait,mk_Wait,kc_Wait⟩
  ·exact⟨⟨pg_Back,hd_Back,po_Back,sa_Back⟩,aQ X G aC_Back,mk_Back,kc_Back⟩
  ·exact⟨⟨pg_Net,hd_Net,po_Net,sa_Net⟩,aQ X G aC_Net,mk_Net,kc_Net⟩
  ·exact⟨F0,⟨a0,i0,k0⟩,b0⟩
  ·exact⟨F1,⟨a1,i1,k1⟩,b1⟩
  ·exact⟨F2,⟨a2,i2,k2⟩,b2⟩
  ·exact⟨_,trivial,(.cons ⟨_,rfl⟩ .nil),EH⟩
  ·exact⟨F3,⟨a3,i3,k3⟩,b3⟩
  ·exact⟨_,trivial,(.cons ⟨_,rfl⟩ .nil),EI⟩
  ·exact⟨F4,aQ X G a4,b4⟩
  ·exact⟨F5,aQ X G a5,b5⟩
  ·exact⟨F6,aQ X G a6,b6⟩
  ·exact⟨F7,aQ X G a7,b7⟩
  ·exact⟨F8,aQ X G a8,b8⟩
  ·exact⟨F9,aQ X G a9,b9⟩
  ·exact⟨Mz,aQ X G a10,M0⟩
  ·exact⟨MA,⟨a11,i11,k11⟩,M3⟩
  ·exact⟨MB,⟨a12,i12,k12⟩,M4⟩
  ·exact⟨MC,⟨a13,i13,k13⟩,M5⟩
  ·exact⟨MD,⟨a14,i14,k14⟩,M6⟩
  ·exact⟨ME,aQ X G a15,M7⟩
  ·exact⟨MF,aQ X G a16,M8⟩
  ·exact⟨MG,aQ X G a17,M9⟩
  ·exact⟨MH,aQ X G a18,Na⟩
  ·exact⟨MI,aQ X G a19,Nb⟩
  ·exact⟨MJ,aQ X G a20,Nc⟩
  ·exact⟨MK,aQ X G a21,Nd⟩
  ·exact⟨_,trivial,(.cons rfl .nil),zM⟩
  ·exact⟨_,trivial,(.cons rfl (.cons rfl .nil)),zN⟩
  ·exact⟨ML,aQ X G a22,Nf⟩
  ·exact⟨MM,aQ X G a23,Ng⟩
  ·exact⟨MN,aQ X G a24,Nh⟩
  ·exact⟨MO,aQ X G a25,Ni⟩
  ·exact⟨MP,aQ X G a26,Nj⟩
  ·exact⟨MQ,aQ X G a27,Nk⟩
  ·exact⟨MR,aQ X G a28,Nl⟩
  ·exact⟨MS,aQ X G a29,Nm⟩
  ·exact⟨MT,aQ X G a30,Nn⟩
  ·exact⟨MU,aQ X G a31,Np⟩
  ·exact⟨MV,aQ X G a32,Nq⟩
  ·exact⟨qs_Arrow,qr_Arrow,qf_Arrow⟩
  ·exactλc hc=>by
    simp only[aA,cL,or_false]at hc
    rcases hc with rfl
    all_goals first|exact⟨⟨pg_Net,hd_Net,po_Net,sa_Net⟩,n_Net_arrows⟩
  ·exactλc hc=>by
    simp only[aA,cL,or_false]at hc
    rcases hc with rfl|rfl|rfl|rfl
    all_goals first|exact⟨⟨pg_Arrow,hd_Arrow,po_Arrow,sa_Arrow⟩,n_Arrow_behind⟩|exact⟨⟨pg_Ride,hd_Ride,po_Ride,sa_Ride⟩,n_Ride_behind⟩|exact⟨⟨pg_Wait,hd_Wait,po_Wait,sa_Wait⟩,n_Wait_behind⟩|exact⟨⟨pg_Back,hd_Back,po_Back,sa_Back⟩,n_Back_behind⟩
  ·exactλc hc=>by
    simp only[aA,cL,or_false]at hc
    rcases hc with rfl|rfl|rfl|rfl
    all_goals first|exact⟨⟨pg_Arrow,hd_Arrow,po_Arrow,sa_Arrow⟩,n_Arrow_goal⟩|exact⟨⟨pg_Ride,hd_Ride,po_Ride,sa_Ride⟩,n_Ride_goal⟩|exact⟨⟨pg_Wait,hd_Wait,po_Wait,sa_Wait⟩,n_Wait_goal⟩|exact⟨⟨pg_Back,hd_Back,po_Back,sa_Back⟩,n_Back_goal⟩
  ·exactλc hc=>by
    simp only[aA,cL,or_false]at hc
    rcases hc with rfl
    all_goals first|exact⟨⟨pg_Net,hd_Net,po_Net,sa_Net⟩,n_Net_names⟩
  ·exactλc hc=>by
    simp only[aA,cL,or_false]at hc
    rcases hc with rfl|rfl|rfl|rfl
    all_goals first|exact⟨⟨pg_Arrow,hd_Arrow,po_Arrow,sa_Arrow⟩,n_Arrow_start⟩|exact⟨⟨pg_Ride,hd_Ride,po_Ride,sa_Ride⟩,n_Ride_start⟩|exact⟨⟨pg_Wait,hd_Wait,po_Wait,sa_Wait⟩,n_Wait_start⟩|exact⟨⟨pg_Back,hd_Back,po_Back,sa_Back⟩,n_Back_start⟩
  ·exactλc hc=>by
    simp only[aA,cL,or_false]at hc
    rcases hc with rfl|rfl|rfl|rfl
    all_goals first|exact⟨⟨pg_Arrow,hd_Arrow,po_Arrow,sa_Arrow⟩,n_Arrow_time⟩|exact⟨⟨pg_Ride,hd_Ride,po_Ride,sa_Ride⟩,n_Ride_time⟩|exact⟨⟨pg_Wait,hd_Wait,po_Wait,sa_Wait⟩,n_Wait_time⟩|exact⟨⟨pg_Back,hd_Back,po_Back,sa_Back⟩,n_Back_time⟩
  ·exactλc hc=>by
    simp only[aA,cL,or_false]at hc
    rcases hc with rfl|rfl|rfl|rfl|rfl
    all_goals first|exact⟨⟨⟨pg_Arrow,hd_Arrow,po_Arrow,sa_Arrow⟩,iga_Arrow,ign,igt,igm_Arrow⟩,kit_Arrow_Back⟩|exact⟨⟨⟨pg_Ride,hd_Ride,po_Ride,sa_Ride⟩,iga_Ride,ign,igt,igm_Ride⟩,kit_Ride_Back⟩|exact⟨⟨⟨pg_Wait,hd_Wait,po_Wait,sa_Wait⟩,iga_Wait,ign,igt,igm_Wait⟩,kit_Wait_Back⟩|exact⟨⟨⟨pg_Back,hd_Back,po_Back,sa_Back⟩,iga_Back,ign,igt,igm_Back⟩,kit_Back_Back⟩|exact⟨⟨⟨pg_Net,hd_Net,po_Net,sa_Net⟩,iga_Net,ign,igt,igm_Net⟩,kit_Net_Back⟩
  ·exactλc hc=>by
    simp only[aA,cL,or_false]at hc
    rcases hc with rfl|rfl|rfl|rfl|rfl
    all_goals first|exact⟨⟨⟨pg_Arrow,hd_Arrow,po_Arrow,sa_Arrow⟩,iga_Arrow,ign,igt,igm_Arrow⟩,kit_Arrow_Ride⟩|exact⟨⟨⟨pg_Ride,hd_Ride,po_Ride,sa_Ride⟩,iga_Ride,ign,igt,igm_Ride⟩,kit_Ride_Ride⟩|exact⟨⟨⟨pg_Wait,hd_Wait,po_Wait,sa_Wait⟩,iga_Wait,ign,igt,igm_Wait⟩,kit_Wait_Ride⟩|exact⟨⟨⟨pg_Back,hd_Back,po_Back,sa_Back⟩,iga_Back,ign,igt,igm_Back⟩,kit_Back_Ride⟩|exact⟨⟨⟨pg_Net,hd_Net,po_Net,sa_Net⟩,iga_Net,ign,igt,igm_Net⟩,kit_Net_Ride⟩
  ·exact bP X G z0
  ·exact bP X G z1
  ·exact bP X G z2
  ·exact bP X G z3
  ·exact bP X G z4
  ·exact bP X G z5
  ·exact bP X G z6
  ·exact bP X G z7
  ·exact bP X G z8
  ·exact bP X G z9
  ·exact bP X G z10
  ·exact bP X G z11
  ·exact bP X G z12
  ·exact⟨_,aQ X G gc0⟩
  ·exact⟨_,aQ X G gc1⟩
  ·exact⟨_,aQ X G gc2⟩
  ·exact⟨_,aQ X G gc3⟩
  ·exact⟨_,aQ X G gc4⟩
 exact⟨dh "law" "law" qk .none wF vL wK uN rZ vK,λs v=>.of_eq rfl,λbase _ _=>VL T⟩
theorem walk {l:kn}{q:bb}{loose:List aR}{XP:(aR->Option aa)->aK->Prop}{YP:bG->aK->Prop}{d:DefRec}{K:Params->ae}(hn:l.most=some 63)(AM:d.params.defaults=[])
  (hY:∀(w:bG) (h:aK),YP w h->(K w.params).In h)
  (F:∀(w:bG) (mg:aR->Option aa) (fa:af) (h:aK),(K w.params).In h->h.Ns aB mg->mg d.name=some (.ref fa) ->
   ∃fd:aS,(∀(s:ao) (u:aa),ni s fd ⟨[u],[]⟩ [("_law_script",u)])/\∀base:aK,(K w.params).In base->base.Ns aB mg->cS l.prog w (K w.params) mg base fE 6 fa fd ["_law_script"] (mq (K w.params))) :
  p9 q loose XP YP l.row.toRowW d [] (λf vs=>PySem.call f vs) :=
 L2.walk_of (n:=63) (k:=6) (x:="_law_script") (CX:=λ_=>fE) (sp:=λw=>mq (K w.params)) hn (by decide) AM ⟨rfl,by decide,by decide,rfl⟩ hY F (λ_ _ a ns hl _ hS=>⟨a,ns,rfl,hS,hl,λ_=>rfl⟩) λ_ _ _ _ _ z=>z
end My
-- KEEP
namespace PySem.W.Fast
def tw902602260925544752:=0
def tw17390982805972367776:=0
def tw824902306126086350:=0
def tw13928353952398332485:=0
def tw9165372452936202627:=0
def tw12682675913927294625:=0
def tw6613922800265727874:=0
def tw43805244887278384:=0
def tw5100850880474074873:=0
def tw17427557103451533081:=0
def tw8517175243827639962:=0
def tw15918914630444000595:=0
def tw17078266829012082184:=0
def tw445572038316417903:=0
def tw3524413452601724496:=0
def tw12473818546233097930:=0
def tw10749614927363198599:=0
def tw7437152669104090951:=0
def tw13861452462611634436:=0
def tw9046872163376657799:=0
def tw14287568118409048450:=0
def tw13799737841432144331:=0
def tw18058736513757794957:=0
def tw9495640818461214521:=0
def tw3096444569638204094:=0
def tw10497394443638455376:=0
def tw10926368257779760166:=0
def tw7949028746045719757:=0
def tw13497963856063498587:=0
def tw14303976386193137162:=0
def tw7716898396807732089:=0
def tw16946566260540532311:=0
def tw15475353757476366519:=0
def tw3094480922750701204:=0
def tw17777777679866204409:=0
def tw15501764105290431281:=0
def tw14718775718672359120:=0
def tw1429031986117917625:=0
def tw4457805319798257052:=0
def tw18196453310669940153:=0
def tw1722838957731205882:=0
def tw13448951581538014036:=0
def tw13038609971267938150:=0
def tw16223903934674240997:=0
def tw1627199150220439221:=0
def tw1248574521614064846:=0
def tw9474034413522856926:=0
def tw11953774240277360252:=0
def tw12988493512728789204:=0
def tw1809173694921562049:=0
def tw3285675274921856851:=0
def tw9213295419020387118:=0
def tw16441175474153466581:=0
def tw16384307228405671320:=0
def tw4144287612883519011:=0
def tw1717458622493453482:=0
def tw2780060636018505413:=0
def tw5012827790230592182:=0
def tw14153946465518682610:=0
def tw4536360661128956080:=0
end PySem.W.Fast
open PySem PySem.W PyProof.Rows
set_option maxRecDepth 100000 in
set_option maxHeartbeats 0 in
theorem PySem.Challenge.cw_ringbeat_k73_nets_alike_holds : PySem.Challenge.rw_ringbeat_k73_nets_alike.Holds := by
  w_on; o_law; k_head; (case hw => w_witness2)
  k_fill
  refine My.walk (l := PySem.Challenge.rw_ringbeat_k73_nets_alike) rfl rfl (fun w h Y => PySem.W.kIn_of Y) ?F
  case F =>
    intro w mg fa h KX G hmg
    refine' My.all_mk KX G hmg ?aC_Arrow ?pg_Arrow ?hd_Arrow ?po_Arrow ?sa_Arrow ?mk_Arrow ?kc_Arrow ?aC_Ride ?pg_Ride ?hd_Ride ?po_Ride ?sa_Ride ?mk_Ride ?kc_Ride ?aC_Wait ?pg_Wait ?hd_Wait ?po_Wait ?sa_Wait ?mk_Wait ?kc_Wait ?aC_Back ?pg_Back ?hd_Back ?po_Back ?sa_Back ?mk_Back ?kc_Back ?aC_Net ?pg_Net ?hd_Net ?po_Net ?sa_Net ?mk_Net ?kc_Net ?a0 ?i0 ?l0 ?c0 ?k0 ?a1 ?i1 ?l1 ?c1 ?k1 ?a2 ?i2 ?l2 ?c2 ?k2 ?t2 ?a3 ?i3 ?l3 ?c3 ?k3 ?t3 ?a4 ?l4 ?c4 ?k4 ?a5 ?l5 ?c5 ?k5 ?a6 ?l6 ?c6 ?k6 ?a7 ?l7 ?c7 ?k7 ?a8 ?l8 ?c8 ?k8 ?a9 ?l9 ?c9 ?k9 ?a10 ?l10 ?c10 ?k10 ?a11 ?i11 ?l11 ?c11 ?k11 ?a12 ?i12 ?l12 ?c12 ?k12 ?a13 ?i13 ?l13 ?c13 ?k13 ?a14 ?i14 ?l14 ?c14 ?k14 ?a15 ?l15 ?c15 ?k15 ?a16 ?l16 ?c16 ?k16 ?a17 ?l17 ?c17 ?k17 ?a18 ?l18 ?c18 ?k18 ?a19 ?l19 ?c19 ?k19 ?a20 ?l20 ?c20 ?k20 ?a21 ?l21 ?c21 ?k21 ?t21 ?a22 ?l22 ?c22 ?k22 ?a23 ?l23 ?c23 ?k23 ?a24 ?l24 ?c24 ?k24 ?a25 ?l25 ?c25 ?k25 ?a26 ?l26 ?c26 ?k26 ?a27 ?l27 ?c27 ?k27 ?a28 ?l28 ?c28 ?k28 ?a29 ?l29 ?c29 ?k29 ?a30 ?l30 ?c30 ?k30 ?a31 ?l31 ?c31 ?k31 ?a32 ?l32 ?c32 ?k32 ?qs_Arrow ?qr_Arrow ?qf_Arrow ?n_Net_arrows ?n_Arrow_behind ?n_Ride_behind ?n_Wait_behind ?n_Back_behind ?n_Arrow_goal ?n_Ride_goal ?n_Wait_goal ?n_Back_goal ?n_Net_names ?n_Arrow_start ?n_Ride_start ?n_Wait_start ?n_Back_start ?n_Arrow_time ?n_Ride_time ?n_Wait_time ?n_Back_time ?ign ?igt ?iga_Arrow ?igm_Arrow ?kit_Arrow_Back ?kit_Arrow_Ride ?iga_Ride ?igm_Ride ?kit_Ride_Back ?kit_Ride_Ride ?iga_Wait ?igm_Wait ?kit_Wait_Back ?kit_Wait_Ride ?iga_Back ?igm_Back ?kit_Back_Back ?kit_Back_Ride ?iga_Net ?igm_Net ?kit_Net_Back ?kit_Net_Ride ?z0 ?z1 ?z2 ?z3 ?z4 ?z5 ?z6 ?z7 ?z8 ?z9 ?z10 ?z11 ?z12 ?gc0 ?gc1 ?gc2 ?gc3 ?gc4
    (case aC_Arrow => k_is)
    (case pg_Arrow => k_is)
    (case hd_Arrow => k_is)
    (case po_Arrow => k_is)
    (case sa_Arrow => k_is)
    (case mk_Arrow => k_is)
    (case kc_Arrow => k_is)
    (case aC_Ride => k_is)
    (case pg_Ride => k_is)
    (case hd_Ride => k_is)
    (case po_Ride => k_is)
    (case sa_Ride => k_is)
    (case mk_Ride => k_is)
    (case kc_Ride => k_is)
    (case aC_Wait => k_is)
    (case pg_Wait => k_is)
    (case hd_Wait => k_is)
    (case po_Wait => k_is)
    (case sa_Wait => k_is)
    (case mk_Wait => k_is)
    (case kc_Wait => k_is)
    (case aC_Back => k_is)
    (case pg_Back => k_is)
    (case hd_Back => k_is)
    (case po_Back => k_is)
    (case sa_Back => k_is)
    (case mk_Back => k_is)
    (case kc_Back => k_is)
    (case aC_Net => k_is)
    (case pg_Net => k_is)
    (case hd_Net => k_is)
    (case po_Net => k_is)
    (case sa_Net => k_is)
    (case mk_Net => k_is)
    (case kc_Net => k_is)
    (case a0 => k_is)
    (case i0 => k_is)
    (case l0 => k_is)
    (case c0 => k_is)
    (case k0 => k_is)
    (case a1 => k_is)
    (case i1 => k_is)
    (case l1 => k_is)
    (case c1 => k_is)
    (case k1 => k_is)
    (case a2 => k_is)
    (case i2 => k_is)
    (case l2 => k_is)
    (case c2 => k_is)
    (case k2 => k_is)
    (case t2 => k_is)
    (case a3 => k_is)
    (case i3 => k_is)
    (case l3 => k_is)
    (case c3 => k_is)
    (case k3 => k_is)
    (case t3 => k_is)
    (case a4 => k_is)
    (case l4 => k_is)
    (case c4 => k_is)
    (case k4 => k_is)
    (case a5 => k_is)
    (case l5 => k_is)
    (case c5 => k_is)
    (case k5 => k_is)
    (case a6 => k_is)
    (case l6 => k_is)
    (case c6 => k_is)
    (case k6 => k_is)
    (case a7 => k_is)
    (case l7 => k_is)
    (case c7 => k_is)
    (case k7 => k_is)
    (case a8 => k_is)
    (case l8 => k_is)
    (case c8 => k_is)
    (case k8 => k_is)
    (case a9 => k_is)
    (case l9 => k_is)
    (case c9 => k_is)
    (case k9 => k_is)
    (case a10 => k_is)
    (case l10 => k_is)
    (case c10 => k_is)
    (case k10 => k_is)
    (case a11 => k_is)
    (case i11 => k_is)
    (case l11 => k_is)
    (case c11 => k_is)
    (case k11 => k_is)
    (case a12 => k_is)
    (case i12 => k_is)
    (case l12 => k_is)
    (case c12 => k_is)
    (case k12 => k_is)
    (case a13 => k_is)
    (case i13 => k_is)
    (case l13 => k_is)
    (case c13 => k_is)
    (case k13 => k_is)
    (case a14 => k_is)
    (case i14 => k_is)
    (case l14 => k_is)
    (case c14 => k_is)
    (case k14 => k_is)
    (case a15 => k_is)
    (case l15 => k_is)
    (case c15 => k_is)
    (case k15 => k_is)
    (case a16 => k_is)
    (case l16 => k_is)
    (case c16 => k_is)
    (case k16 => k_is)
    (case a17 => k_is)
    (case l17 => k_is)
    (case c17 => k_is)
    (case k17 => k_is)
    (case a18 => k_is)
    (case l18 => k_is)
    (case c18 => k_is)
    (case k18 => k_is)
    (case a19 => k_is)
    (case l19 => k_is)
    (case c19 => k_is)
    (case k19 => k_is)
    (case a20 => k_is)
    (case l20 => k_is)
    (case c20 => k_is)
    (case k20 => k_is)
    (case a21 => k_is)
    (case l21 => k_is)
    (case c21 => k_is)
    (case k21 => k_is)
    (case t21 => k_is)
    (case a22 => k_is)
    (case l22 => k_is)
    (case c22 => k_is)
    (case k22 => k_is)
    (case a23 => k_is)
    (case l23 => k_is)
    (case c23 => k_is)
    (case k23 => k_is)
    (case a24 => k_is)
    (case l24 => k_is)
    (case c24 => k_is)
    (case k24 => k_is)
    (case a25 => k_is)
    (case l25 => k_is)
    (case c25 => k_is)
    (case k25 => k_is)
    (case a26 => k_is)
    (case l26 => k_is)
    (case c26 => k_is)
    (case k26 => k_is)
    (case a27 => k_is)
    (case l27 => k_is)
    (case c27 => k_is)
    (case k27 => k_is)
    (case a28 => k_is)
    (case l28 => k_is)
    (case c28 => k_is)
    (case k28 => k_is)
    (case a29 => k_is)
    (case l29 => k_is)
    (case c29 => k_is)
    (case k29 => k_is)
    (case a30 => k_is)
    (case l30 => k_is)
    (case c30 => k_is)
    (case k30 => k_is)
    (case a31 => k_is)
    (case l31 => k_is)
    (case c31 => k_is)
    (case k31 => k_is)
    (case a32 => k_is)
    (case l32 => k_is)
    (case c32 => k_is)
    (case k32 => k_is)
    (case qs_Arrow => k_is)
    (case qr_Arrow => k_is)
    (case qf_Arrow => k_is)
    (case n_Net_arrows => k_is)
    (case n_Arrow_behind => k_is)
    (case n_Ride_behind => k_is)
    (case n_Wait_behind => k_is)
    (case n_Back_behind => k_is)
    (case n_Arrow_goal => k_is)
    (case n_Ride_goal => k_is)
    (case n_Wait_goal => k_is)
    (case n_Back_goal => k_is)
    (case n_Net_names => k_is)
    (case n_Arrow_start => k_is)
    (case n_Ride_start => k_is)
    (case n_Wait_start => k_is)
    (case n_Back_start => k_is)
    (case n_Arrow_time => k_is)
    (case n_Ride_time => k_is)
    (case n_Wait_time => k_is)
    (case n_Back_time => k_is)
    (case ign => k_is)
    (case igt => k_is)
    (case iga_Arrow => k_is)
    (case igm_Arrow => k_is)
    (case kit_Arrow_Back => kit_is)
    (case kit_Arrow_Ride => kit_is)
    (case iga_Ride => k_is)
    (case igm_Ride => k_is)
    (case kit_Ride_Back => kit_is)
    (case kit_Ride_Ride => kit_is)
    (case iga_Wait => k_is)
    (case igm_Wait => k_is)
    (case kit_Wait_Back => kit_is)
    (case kit_Wait_Ride => kit_is)
    (case iga_Back => k_is)
    (case igm_Back => k_is)
    (case kit_Back_Back => kit_is)
    (case kit_Back_Ride => kit_is)
    (case iga_Net => k_is)
    (case igm_Net => k_is)
    (case kit_Net_Back => kit_is)
    (case kit_Net_Ride => kit_is)
    (case z0 => k_is)
    (case z1 => k_is)
    (case z2 => k_is)
    (case z3 => k_is)
    (case z4 => k_is)
    (case z5 => k_is)
    (case z6 => k_is)
    (case z7 => k_is)
    (case z8 => k_is)
    (case z9 => k_is)
    (case z10 => k_is)
    (case z11 => k_is)
    (case z12 => k_is)
    (case gc0 => k_is)
    (case gc1 => k_is)
    (case gc2 => k_is)
    (case gc3 => k_is)
    (case gc4 => k_is)
