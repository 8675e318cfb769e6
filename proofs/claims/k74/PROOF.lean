import PyProof.Rows.All
import Wide.All
import OpenK.AllK
import Wide.FinOn
import Lean
import PyProof.EqAt
import PyProof.EqKinds
import PyProof.TupleCall
import PyProof.ExcClass3
import PyProof.ExcBaseAll.ValueError
import KE.KTryMore
import PyProof.FString2
import PyProof.ReprRoads
import PyProof.ReprBulk
import PyProof.DictItems
import KE.KDictList
import KE.KSortTup
import KE.KDictList
import PyProof.StrCalls
import PyProof.StrBlock2
import PyProof.StrBlockI
import PyProof.StrCalls2
import KE.KIntText
import PySem.Challenge.RW_ringbeat_k74_whole_alike_or_parted
set_option Elab.async false
set_option linter.all false
set_option maxRecDepth 100000
open Array renaming length_toList→dm,getElem?_eq_getElem→dG,getD_eq_getD_getElem?→fU,getElem?_eq_none→hU,mem_toList_iff→iK,append_assoc→oe,size_map→qO,toList→sv
open Bool renaming false_ne_true→aX,false_eq_true→cu,and_eq_true→cH,or_eq_false_iff→nH
open Int renaming le_refl→fQ,toNat_natCast→kj,fdiv_eq_ediv_of_nonneg→lN,le_trans→nk
open List renaming mem_cons_self→am,mem_cons_of_mem→ap,mem_append_right→ay,mem_cons→aA,range→aE,length_map→aF,replicate→aG,mem_singleton→aH,mem_append→aM,length_cons→aP,getElem?_eq_some_iff→aQ,mem_append_left→aS,size_toArray→aT,getElem?_map→aW,length_append→bn,nodup_append→bo,lookup_cons→bp,mem_range→bw,nodup_nil→bz,mem_filter→bB,map_cons→bG,nodup_cons→bH,append_nil→bQ,mem_iff_getElem→bR,mem_iff_getElem?→bV,length_range→bW,Nodup→cv,getElem?_append_left→cz,replicate_succ→cA,not_mem_nil→cI,getElem?_append_right→cO,getElem?_range→cQ,map_congr_left→cR,find?_cons→cU,getElem?_eq_none→cX,length_replicate→cY,length_take→cZ,getElem?_eq_getElem→de,map_map→df,foldl_cons→dM,map_append→dN,length_eq_zero_iff→dS,take_of_length_le→dZ,length_zip→d7,ext_getElem?→eh,flatten_cons→ek,mem_of_mem_take→ez,mem_map→eD,of_mem_zip→eO,pairwise_cons→eQ,zip_cons_cons→eR,getElem?_replicate→eT,append_assoc→e8,drop_of_length_le→e9,length_singleton→fE,countP_cons→fI,ext_getElem→fJ,length_drop→fK,getElem?_set_ne→fL,length→fM,lookup→fN,take_append_of_le_length→fO,countP_append→gp,getD_eq_getElem?_getD→gq,getElem_range→gr,filter_cons→gN,getElem_inj→gO,getElem_map→gP,getElem_mem→gQ,nodup_range→gR,getElem?_set_self→ip,toArray→iq,map_const'→iy,find?_some→iz,filterMap_cons→iZ,find?_eq_none→jJ,foldl_append→jU,map_nil→jV,getElem_set→kF,eq_nil_of_length_eq_zero→kM,forIn_cons→kS,perm_ext_iff_of_nodup→lA,drop_eq_getElem_cons→lO,mem_of_find?_eq_some→lP,any_cons→ma,map_take→md,append_cancel_left→mH,filter_cons_of_neg→mI,filter_cons_of_pos→mJ,drop_eq_nil_of_le→mN,contains_iff_mem→nn,countP_singleton→nq,range'→nJ,range_eq_range'→nK,mem_of_mem_drop→nL,length_pos_iff→oh,length_reverse→oi,contains_cons→oI,foldl→oJ,mem_filterMap→oK,getElem_take→o6,map_inj_left→o7,pairwise_map→o8,range'_succ→pH,take_left'→qP,length_set→qQ,zip_append→qR,forIn_nil→rn,contains→sx,map_drop→sy
open Nat renaming le_refl→av,ne_of_lt→bc,lt_of_lt_of_le→bu,le_trans→bS,zero_le→cC,lt_succ_of_lt→cS,lt_irrefl→ee,min_eq_left→fV,le_succ→gJ,lt_succ_self→hV,min_eq_right→hX,le_of_lt→iA,le_of_succ_le→kl,le_total→km,min_self→kn,mul_le_mul→lQ,le_of_eq→nr,sub_self→nu,sub_zero→nv,succ_mul→nw,pow_le_pow_right→oj,lt_of_le_of_lt→o9,mod_lt→pd,le_add_right→qS
open Option renaming bind_some→bK,map_eq_some_iff→cw,map_some→eK,isSome_iff_exists→lB,isSome_map→oo,getD_none→oM
open PyProof.Rows renaming callWith_type1→dg,slot_tuple_getitem→eL
open PySem renaming Value→ae,Addr→af,Shared→ak,wpAny_bind→ao,mainGlobals→aw,starEach→ax,wpAny_pure→aB,Heap→aK,FuncData→aN,Str→aR,wpAny→aV,model→aZ,Program→bg,NameKind→br,Around→bv,PyData→bC,World→bE,bootBuiltins→bL,Stmt→bN,eval→bO,compareOp→cm,sizeLine_eq→cn,Builtin→cr,PassesOwn→cx,backTo→cB,Pos→cD,strIterType→cE,wpAny_newObj_type→cF,assignEach→cK,Obj→cN,wpAny_truthy_bool→cV,foldedSetIterable→dq,sysModules→dr,behindInMarks→dC,keywordEach→dD,binaryOp→dO,holding→dQ,wpAny_mono→dU,wpAny_passesOwn→eu,swapsWith→eA,attributeBase→eY,backToKw→eZ,wpAny_holding→e6,wpAny_Call_Name_kw→fq,Scope→fv,assign→fW,getMethod→fX,standAt→fZ,swappedStores→gb,swapsWithSole→gc,sliceBounds→gm,letOwnedTupleGo→gx,codeAny→gI,Keyword→ir,Operator→iL,cLine→iM,callWith→iN,CmpOp→i6,wpAny_execs_nil→i7,newFunctionEnv→jS,tupleKind→jW,wpAny_standAt→kG,tupleKind_room_in1→kN,callerA→lr,codeAny_mono→lu,seqIndex_neg→lw,setItem→lx,seqIndex_of→mh,BindsTo→mP,Sem→mQ,getItem→mR,valueAt→mS,Code→ny,closureFor→nz,compEnvC→nB,compPost→nD,Data→oq,atKey→oN,bindC→oO,bindL→oP,concat_meets→pf,isTrue→pq,release→pv,builtinsNs→sA,call_meets→sC,typeIs_int→sD,wpAny_Name→sE
open PySem.Heap renaming get?_push_of_some→aC,lt_size→aJ,get?_push_size→bq,SameBut→dY,get?_push_ne→ef,size_push→e7,size_update→fH,get?_update_other→mM,get?_update_self→nj,get?_none_of_le→nI,get?_update_ne→og
open PySem.W renaming Frag→aa,keepIn→aq,findIn→ar,nsIn→az,codeIn→aD,mg_of→aI,mg_none_of→bF,kitOne→bI,kia_one→cq,emptyDict→cL,hasDictIn→cM,plainGet→cW,specialIn→dh,isFn→dn,instObj→dE,makesIn→dF,plainOver→dH,mroIn→dP,methodCall_KW→fk,fnOf→fR,callWith_K→fY,cellsFrom_some→gL,findCls→gS,readsIn→gU,takesIn→gW,lookIn→iB,plainGet_of→iO,kitx_list→jF,methodObj→jG,OpenLaw→ko,takerIn→kr,kitx_dict→nM,handedIn→ou,KatTups→oQ,WalkO→pI
namespace L2
open PySem PySem.Spec PyProof.Rows
abbrev dv:=Sum Int aR
def lV:dv->ae->Bool
 |.inl k,v=>ae.isInt k v
 |.inr x,v=>ae.isStrOf x v
def GA (w:bE):dv->Int
 |.inl k=>hashInt k
 |.inr x=>hashStr w x
theorem we:∀{k:dv} {v:ae},lV k v=true->(∃i t,k=Sum.inl i/\v=ae.int i t)\/(∃x t,k=Sum.inr x/\v=ae.str x t)
 |.inl i,v,h=>by
  obtain⟨t,e⟩:=ae.isInt_shape (k:=i) (v:=v) h
  exact .inl ⟨i,t,rfl,e⟩
 |.inr x,v,h=>by
  obtain⟨t,e⟩:=ae.isStrOf_shape (x:=x) (v:=v) h
  exact .inr ⟨x,t,rfl,e⟩
theorem So (i:Int)(t:Tok):lV (.inl i) (.int i t)=true:=by simp[lV,ae.isInt]
theorem RW (x:aR)(t:Tok):lV (.inr x) (.str x t)=true:=by simp[lV,ae.isStrOf]
theorem U5 (a b:Int):decide ((Sum.inl a:dv)=Sum.inl b)=(a==b):=by
 by_cases e:a=b
 ·subst e;simp
 ·have h:¬(Sum.inl a:dv)=Sum.inl b:=λq=>e (Sum.inl.inj q)
  rw[decide_eq_false h]
  exact(beq_eq_false_iff_ne.mpr e).symm
theorem U6 (a b:aR):decide ((Sum.inr a:dv)=Sum.inr b)=decide (a=b):=by
 by_cases e:a=b
 ·subst e;simp
 ·have h:¬(Sum.inr a:dv)=Sum.inr b:=λq=>e (Sum.inr.inj q)
  rw[decide_eq_false h,decide_eq_false e]
theorem U7 (a:Int)(b:aR):decide ((Sum.inl a:dv)=Sum.inr b)=false:=decide_eq_false (λq=>nomatch q)
theorem Vx (a:aR)(b:Int):decide ((Sum.inr a:dv)=Sum.inl b)=false:=decide_eq_false (λq=>nomatch q)
def dX (prog:bg)(w:bE):PySem.KeyKind prog w dv where
 is:=lV
 hash:=GA w
 inj:=λv a b ha hb=>by
  rcases we ha with⟨i,t,rfl,rfl⟩|⟨x,t,rfl,rfl⟩
  ·rcases we hb with⟨j,u,rfl,e⟩|⟨y,u,rfl,e⟩
   ·injection e with e1 _;rw[e1]
   ·exact nomatch e
  ·rcases we hb with⟨j,u,rfl,e⟩|⟨y,u,rfl,e⟩
   ·exact nomatch e
   ·injection e with e1 _;rw[e1]
 byValue:=λk v h=>by
  rcases we h with⟨i,t,rfl,rfl⟩|⟨x,t,rfl,rfl⟩<;>rfl
 pyHash:=λhv h=>by
  rcases we hv with⟨i,t,rfl,rfl⟩|⟨x,t,rfl,rfl⟩
  ·exact wpAny_pyHash_int h
  ·exact wpAny_pyHash_str h
 eqBool:=λhu hv h=>by
  rcases we hu with⟨i,t,rfl,rfl⟩|⟨x,t,rfl,rfl⟩
  ·rcases we hv with⟨j,u,rfl,rfl⟩|⟨y,u,rfl,rfl⟩
   ·rw[U5]at h;exact wpAny_eqBool_int h
   ·rw[U7]at h;exact SeqAt.EqAt.int_str i t y u _ _ _ _ h
  ·rcases we hv with⟨j,u,rfl,rfl⟩|⟨y,u,rfl,rfl⟩
   ·rw[Vx]at h;exact SeqAt.EqAt.str_int x t j u _ _ _ _ h
   ·rw[U6]at h;exact wpAny_eqBool_str h
 «strs»:=λk x t v h=>by
  rcases we h with⟨i,u,rfl,e⟩|⟨y,u,rfl,e⟩
  ·exact nomatch e
  ·injection e with e1 _
   subst e1
   cases v<;>rfl
theorem RP (prog:bg)(w:bE)(i:Int)(t:Tok):(dX prog w).is (.inl i) (.int i t)=true:=So i t
theorem RQ (prog:bg)(w:bE)(x:aR)(t:Tok):(dX prog w).is (.inr x) (.str x t)=true:=RW x t
end L2
namespace L2
open PySem PySem.Spec PyProof.Rows
inductive V where
 |non|bl (b:Bool)|int (i:Int)|str (x:aR)|byt (b:Array UInt8)|flt (b:UInt64)|ref (a:af)|ty (n:String)
 deriving DecidableEq
def RelV:V->ae->Prop
 |.non,u=>u=ae.none
 |.bl b,u=>u=ae.bool b
 |.int i,u=>∃t,u=ae.int i t
 |.str x,u=>∃t,u=ae.str x t
 |.byt b,u=>∃t,u=ae.bytes b t
 |.flt b,u=>∃t,u=ae.float b t
 |.ref a,u=>u=ae.ref a
 |.ty n,u=>u=ae.type n
abbrev bT:List V->List ae->Prop:=Paired RelV
theorem bT.length {xs:List V}{us:List ae}(r:bT xs us):xs.length=us.length:=Paired.length r
theorem bT.get:∀{xs:List V} {us:List ae} {i:Nat} {x:V},bT xs us->xs[i]?=some x->∃u,us[i]?=some u/\RelV x u
 |_,_,_,_,.nil,e=>by simp at e
 |_,_,0,_,.cons r _,e=>by simp at e;subst e;exact⟨_,rfl,r⟩
 |_,_,i+1,x,.cons _ t,e=>by
  obtain⟨u,h1,h2⟩:=bT.get (i:=i) (x:=x) t (by simpa using e)
  exact⟨u,by simpa using h1,h2⟩
theorem bT.set {x:V}{u:ae}(r:RelV x u):∀{xs:List V} {us:List ae} (i:Nat),bT xs us->bT (xs.set i x) (us.set i u)
 |_,_,_,.nil=>.nil
 |_,_,0,.cons _ t=>.cons r t
 |_,_,i+1,.cons q t=>.cons q (bT.set r i t)
theorem bT.append:∀{xs ys:List V} {us ws:List ae},bT xs us->bT ys ws->bT (xs++ys) (us++ws)
 |_,_,_,_,.nil,s=>s
 |_,_,_,_,.cons r t,s=>.cons r (bT.append t s)
theorem bT.take:∀{xs:List V} {us:List ae} (n:Nat),bT xs us->bT (xs.take n) (us.take n)
 |_,_,0,_=>.nil
 |_,_,_+1,.nil=>.nil
 |_,_,n+1,.cons r t=>.cons r (bT.take n t)
theorem bT.drop:∀{xs:List V} {us:List ae} (n:Nat),bT xs us->bT (xs.drop n) (us.drop n)
 |_,_,0,r=>r
 |_,_,_+1,.nil=>.nil
 |_,_,n+1,.cons _ t=>bT.drop n t
def iR:Option V->Option ae->Prop
 |some v,some u=>RelV v u
 |none,none=>True
 |_,_=>False
def KV {κ:Type}:List (κ×V)->List (κ×ae)->Prop:=Paired λ(p:κ×V) (q:κ×ae)=>p.1=q.1/\RelV p.2 q.2
def kV:dv->V
 |.inl i=>.int i
 |.inr x=>.str x
inductive HO where
 |lst (xs:List V)
 |tup (xs:List V)
 |dK (bU:List (dv×V))|dT (bU:List (List dv×V))
 |set (S:Int->Bool) (n:Nat)
 |ins (C dx:af) (fs:List (aR×V))
 |own (x:af)
 |xd (fs:List (aR×V))
 |met (f x:af)
 |rng (lo hi:Int)
 |frz (o:cN) (u:HO)
 |tbl (ps:Array ae)
 |ext (φ:aK->Prop)
abbrev Hp:=af->Option HO
def upd (H:Hp)(a:af)(o:HO):Hp:=λb=>if b=a then some o else H b
theorem yf {H:Hp}{a:af}{o:HO}:upd H a o a=some o:=by unfold upd;rw[if_pos rfl]
theorem zy {H:Hp}{a b:af}{o:HO}(h:b≠a):upd H a o b=H b:=by unfold upd;rw[if_neg h]
theorem WK {H:Hp}{a b:af}{o u:HO}(h:H a=some o)(h':H b=some u)(d:o≠u):a≠b:=by
 intro e;subst e;rw[h]at h';exact d (Option.some.inj h')
theorem yw {H:Hp}{a b:af}{o:HO}(h:H a=some o)(h':H b=none):a≠b:=by
 intro e;subst e;rw[h]at h';cases h'
section
variable (P:bg)(w:bE)
def dw (H:Hp)(h:aK)(a:af):HO->Prop
  |.lst xs=>xs.length<=sizeLine/\∃(bZ:List ae) (n:Nat),bT xs bZ/\h.get? a=some { cls:=.type "list",data:=.seq bZ.toArray n }
  |.tup xs=>xs.length<=sizeLine/\∃bZ:List ae,bT xs bZ/\IsTup h a bZ.toArray
  |.dK bU=>bU.length<=sizeLine/\(a==dr)=false/\∃vs,KV bU vs/\h.DictOf (dX P w) a vs
  |.dT bU=>bU.length<=sizeLine/\(a==dr)=false/\∃xs:List (List dv×af×ae),
      Paired (λ(p:List dv×V) (q:List dv×af×ae)=>p.1=q.1/\H q.2.1=some (.tup (p.1.map kV))/\RelV p.2 q.2.2) bU xs /\
      ∃o es ep,h.get? a=some o/\o.ExactDict/\o.data=.dict es ep/\es.toList=xs.map (entryOfKey (jW (dX P w)))/\(xs.map (·.1)).Nodup
  |.set S n=>h.SetOf (intKind P w) a S n
  |.ins C dx fs=>H dx=some (.own a)/\fs.length<=1000/\dx≠a/\h.get? a=some (dE C dx) /\
      ∃mA,h.Ns1 dx mA/\(∀f,iR (fs.lookup f) (mA f))/\PySem.Within mA (fs.map (·.1))
  |.own _=>∃o,h.get? a=some o
  |.xd fs=>∃mA,h.Ns1 a mA/\∀f,iR (fs.lookup f) (mA f)
  |.rng lo hi=>∃t u v,h.get? a=some { cls:=.type "range",data:=.fields #[.int lo t,.int hi u,.int 1 v] }
  |.frz o u=>h.get? a=some o/\dw H h a u
  |.tbl ps=>h.get? a=some { cls:=.none,data:=.fields ps }
  |.met f x=>h.get? a=some (jG (.ref f) (.ref x))
  |.ext φ=>φ h/\(∃o,h.get? a=some o)/\∀h1 h2:aK,φ h1->(∀o,h1.get? a=some o->h2.get? a=some o)->φ h2
def jA (H:Hp)(h:aK):Prop:=∀a o,H a=some o->dw P w H h a o
end
section
variable {P:bg}{w:bE}{H H':Hp}{h h':aK}{a:af}{o:HO}
theorem dw.lt (x:dw P w H h a o):a<h.objs.size:=by
 cases o with
 |lst xs=>obtain⟨_,_,_,_,e⟩:=x;exact aJ e
 |tup xs=>obtain⟨_,_,_,p⟩:=x;exact p.lt
 |dK bU=>obtain⟨_,_,_,_,o,_,_,e,_⟩:=x;exact aJ e
 |dT bU=>obtain⟨_,_,_,_,o,_,_,e,_⟩:=x;exact aJ e
 |set S n=>obtain⟨o,_,_,_,e,_⟩:=x;exact aJ e
 |ins C dx fs=>obtain⟨_,_,_,e,_⟩:=x;exact aJ e
 |own y=>obtain⟨_,e⟩:=x;exact aJ e
 |xd fs=>obtain⟨_,⟨_,_,_,e,_⟩,_⟩:=x;exact aJ e
 |rng lo hi=>obtain⟨_,_,_,e⟩:=x;exact aJ e
 |frz ob u=>obtain⟨e,_⟩:=x;exact aJ e
 |tbl ps=>exact aJ (show h.get? a=some _ from x)
 |met f y=>exact aJ (show h.get? a=some _ from x)
 |ext φ=>obtain⟨_,⟨_,e⟩,_⟩:=x;exact aJ e
theorem Paired.mapP {α β:Type}{F G:α->β->Prop}:∀{l₁:List α} {l₂:List β},Paired F l₁ l₂->(∀a b,F a b->G a b)->Paired G l₁ l₂
 |_,_,.nil,_=>.nil
 |_,_,.cons r t,f=>.cons (f _ _ r) (Paired.mapP t f)
theorem dw.stay (x:dw P w H h a o)(k:∀b u,(b=a\/H b=some (.own a))->h.get? b=some u->h'.get? b=some u)
    (ho:∀b,H b=some (.own a)->H' b=some (.own a)) (ht:∀b xs,H b=some (.tup xs)->H' b=some (.tup xs)):dw P w H' h' a o:=by
  induction o with
  |lst xs=>obtain⟨z,bZ,n,r,e⟩:=x;exact⟨z,bZ,n,r,k _ _ (.inl rfl) e⟩
  |tup xs=>obtain⟨z,bZ,r,ob,e,c⟩:=x;exact⟨z,bZ,r,ob,k _ _ (.inl rfl) e,c⟩
  |dK bU=>obtain⟨z,y,vs,r,ob,es,ep,e,c⟩:=x;exact⟨z,y,vs,r,ob,es,ep,k _ _ (.inl rfl) e,c⟩
  |dT bU=>
    obtain⟨z,y,xs,r,ob,es,ep,e,c⟩:=x
    exact⟨z,y,xs,Paired.mapP r λp q z=>⟨z.1,ht _ _ z.2.1,z.2.2⟩,ob,es,ep,k _ _ (.inl rfl) e,c⟩
  |set S n=>obtain⟨ob,es,ep,t,e,c⟩:=x;exact⟨ob,es,ep,t,k _ _ (.inl rfl) e,c⟩
  |ins C dx fs=>
    obtain⟨d,z,ne,e,mA,⟨od,es,ep,e2,c⟩,r⟩:=x
    exact⟨ho _ d,z,ne,k _ _ (.inl rfl) e,mA,⟨od,es,ep,k _ _ (.inr d) e2,c⟩,r⟩
  |own y=>obtain⟨ob,e⟩:=x;exact⟨ob,k _ _ (.inl rfl) e⟩
  |xd fs=>obtain⟨mA,⟨od,es,ep,e,c⟩,r⟩:=x;exact⟨mA,⟨od,es,ep,k _ _ (.inl rfl) e,c⟩,r⟩
  |rng lo hi=>obtain⟨t,u,v,e⟩:=x;exact⟨t,u,v,k _ _ (.inl rfl) e⟩
  |frz ob u ih=>obtain⟨e,q⟩:=x;exact⟨k _ _ (.inl rfl) e,ih q⟩
  |tbl ps=>
    have e:h.get? a=some { cls:=.none,data:=.fields ps }:=x
    show h'.get? a=some { cls:=.none,data:=.fields ps }
    exact k a _ (.inl rfl) e
  |met f y=>
    have e:h.get? a=some (jG (.ref f) (.ref y)):=x
    show h'.get? a=some (jG (.ref f) (.ref y))
    exact k a _ (.inl rfl) e
  |ext φ=>obtain⟨p,⟨o,e⟩,st⟩:=x;exact⟨st _ _ p λo q=>k _ _ (.inl rfl) q,⟨o,k _ _ (.inl rfl) e⟩,st⟩
theorem jA.lt (x:jA P w H h)(e:H a=some o):a<h.objs.size:=(x a o e).lt
theorem jA.fresh (x:jA P w H h)(e:h.objs.size<=a):H a=none:=by
 cases q:H a with
 |none=>rfl
 |some u=>exact absurd (bu (x.lt q) e) (ee _)
theorem jA.kept (x:jA P w H h)(k:∀b u,h.get? b=some u->h'.get? b=some u):jA P w H h':=λa o e=>
 (x a o e).stay (λb u _ q=>k b u q) (λ_ q=>q) λ_ _ q=>q
theorem jA.laid (x:jA P w H h)(k:∀b u,h.get? b=some u->h'.get? b=some u)(hp:h.objs.size<=a)(new:dw P w (upd H a o) h' a o):jA P w (upd H a o) h':=λb u e=>by
 have hn:=x.fresh hp
 by_cases hb:b=a
 ·subst hb;rw[yf]at e;cases e;exact new
 ·rw[zy hb]at e
  exact(x b u e).stay (λc v _ q=>k c v q) (λc q=>by rw[zy (yw q hn)];exact q) λc xs q=>by rw[zy (yw q hn)];exact q
end
def Rd (H:Hp)(a:af)(u:HO):Prop:=H a=some u\/∃o,H a=some (.frz o u)
theorem Rd.ok {P:bg}{w:bE}{H:Hp}{h:aK}{a:af}{u:HO}(r:Rd H a u)(x:jA P w H h):dw P w H h a u:=by
 rcases r with r|⟨o,r⟩
 ·exact x a u r
 ·obtain⟨_,q⟩:=x a _ r
  exact q
def xO:Option HO->Prop
 |some (.lst _)=>True
 |some (.dK _)=>True
 |some (.dT _)=>True
 |some (.set _ _)=>True
 |some (.ins _ _ _)=>True
 |some (.ext _)=>True
 |_=>False
section
variable {P:bg}{w:bE}{H:Hp}{h h':aK}{x e:af}{o':HO}
theorem jA.write (ok:jA P w H h)(mu:xO (H x))(he:e=x\/H e=some (.own x))(k:∀b u,b≠e->h.get? b=some u->h'.get? b=some u)(wQ:∃u,h'.get? e=some u)
  (new:dw P w (upd H x o') h' x o'):jA P w (upd H x o') h':=λb u q=>by
 have By:∀c y,H c=some (.own y)->c≠x:=λc y r z=>by subst z;rw[r]at mu;exact mu
 have GG:∀c xs,H c=some (.tup xs)->c≠x:=λc xs r z=>by subst z;rw[r]at mu;exact mu
 by_cases hb:b=x
 ·subst hb;rw[yf]at q;cases q;exact new
 ·rw[zy hb]at q
  by_cases uY:b=e
  ·have q':H b=some (.own x):=by
    rcases he with z|z
    ·exact absurd (uY.trans z) hb
    ·rw[uY];exact z
   rw[q]at q';cases q'
   obtain⟨v,hv⟩:=wQ
   exact⟨v,by rw[uY];exact hv⟩
  ·refine(ok b u q).stay (λc v hc r=>k c v ?_ r) (λc r=>by rw[zy (By c b r)];exact r) λc xs r=>by rw[zy (GG c xs r)];exact r
   rcases hc with rfl|hc
   ·exact uY
   ·rintro rfl
    rcases he with z|z
    ·exact By c b hc z
    ·rw[hc]at z;cases z;exact hb rfl
end
structure Un (fs ex:List af)(H H':Hp)(h h':aK):Prop where
 keep:∀b o,h.get? b=some o->H b=none->b∉fs->b∉ex->h'.get? b=some o
 slot:∀b o,h.get? b=some o->H b=none->b∈fs->b∉ex->∃sl,h'.get? b=some { o with slots:=sl }
 free:∀b o,h.get? b=some o->H b=none->b∉ex->H' b=none
 there:∀b o,h.get? b=some o->b∉ex->∃o',h'.get? b=some o'
 tups:∀b xs,H b=some (.tup xs)->H' b=some (.tup xs)
 frzs:∀b o u,H b=some (.frz o u)->H' b=some (.frz o u)
 tbls:∀b ps,H b=some (.tbl ps)->∃more,H' b=some (.tbl (ps++more))
section
variable {fs NW ex Xa:List af}{H H1 H2:Hp}{h h1 h2 h':aK}{a x e:af}{o:HO}
theorem Un.any (u:Un fs ex H H1 h h1){b:af}{ob:cN}(q:h.get? b=some ob)(n:H b=none)(hx:b∉ex):∃sl,h1.get? b=some { ob with slots:=sl }:=by
 by_cases hb:b∈fs
 ·exact u.slot b ob q n hb hx
 ·exact⟨ob.slots,u.keep b ob q n hb hx⟩
theorem Un.kept (k:∀b u,h.get? b=some u->h'.get? b=some u):Un fs ex H H h h' :=
 ⟨λb ob q _ _ _=>k b ob q,λb ob q _ _ _=>⟨ob.slots,k b ob q⟩,λ_ _ _ n _=>n,λb ob q _=>⟨ob,k b ob q⟩,λ_ _ q=>q,λ_ _ _ q=>q,λ_ ps q=>⟨#[],by rw[q];simp⟩⟩
theorem Un.refl:Un fs ex H H h h:=Un.kept λ_ _ q=>q
theorem Un.laid (k:∀b u,h.get? b=some u->h'.get? b=some u)(hp:h.objs.size<=a)(hn:H a=none):Un fs ex H (upd H a o) h h' where
 keep:=λb u q _ _ _=>k b u q
 slot:=λb u q _ _ _=>⟨u.slots,k b u q⟩
 free:=λb u q n _=>by rw[zy (bc (bu (aJ q) hp))];exact n
 there:=λb u q _=>⟨u,k b u q⟩
 tups:=λb xs q=>by rw[zy (yw q hn)];exact q
 frzs:=λb u xs q=>by rw[zy (yw q hn)];exact q
 tbls:=λb ps q=>⟨#[],by rw[zy (yw q hn),q];simp⟩
theorem Un.write (mu:xO (H x))(he:e=x\/H e=some (.own x))(k:∀b u,b≠e->h.get? b=some u->h'.get? b=some u)(wQ:∃u,h'.get? e=some u):Un fs ex H (upd H x o) h h':=by
 have hx:∀b,H b=none->b≠x:=λb n z=>by subst z;rw[n]at mu;exact mu
 have hb:∀b,H b=none->b≠e:=λb n z=>by
  subst z
  rcases he with r|r
  ·exact hx b n r
  ·rw[n]at r;cases r
 have hm:∀b u,H b=some u->¬xO (some u)->b≠x:=λb u q nm z=>by subst z;rw[q]at mu;exact nm mu
 refine⟨λb u q n _ _=>k b u (hb b n) q,λb u q n _ _=>⟨u.slots,k b u (hb b n) q⟩,λb u q n _=>by rw[zy (hx b n)];exact n,λb u q _=>?_,
  λb xs q=>by rw[zy (hm b _ q λz=>z)];exact q,λb u xs q=>by rw[zy (hm b _ q λz=>z)];exact q,λb ps q=>⟨#[],by rw[zy (hm b _ q λz=>z),q];simp⟩⟩
 by_cases uY:b=e
 ·subst uY;exact wQ
 ·exact⟨u,k b u uY q⟩
end
def DI (h:aK)(H:Hp):List af:=(aE h.objs.size).filter λa=>(H a).isSome
def mz (h:aK)(H:Hp):aK:=PySem.W.hideAll h (DI h H)
theorem RX (h:aK)(H:Hp):(mz h H).objs.size=h.objs.size:=PySem.W.hideAll_size _ _
theorem Tf {h:aK}{H:Hp}{b:af}{o:cN}(e:h.get? b=some o)(n:H b=none):(mz h H).get? b=some o :=
 PySem.W.hideAll_get _ e λhm=>by
  have q:(H b).isSome=true:=(bB.mp hm).2
  rw[n]at q;simp at q
theorem Uc {h:aK}{H:Hp}{b:af}{o:cN}(e:(mz h H).get? b=some o):h.get? b=some o/\H b=none:=by
 have e':h.get? b=some o:=PySem.W.of_hideAll (DI h H) e
 refine⟨e',?_⟩
 cases q:H b with
 |none=>rfl
 |some x=>
  have hm:b∈DI h H:=bB.mpr ⟨bw.mpr (aJ e'),by simp[q]⟩
  have z:(mz h H).get? b=none:=PySem.W.hideAll_none (DI h H) hm
  rw[z]at e;cases e
def rD (g h:aK)(L:af):List (af×cN):=(aE h.objs.size).filterMap λa=>if a=L\/(g.get? a).isSome=true then none else(h.get? a).map λo=>(a,o)
def rest (g h:aK)(L d:af):List (af×cN):=(rD g h L).filter λp=>decide (p.1≠d)
end L2
namespace L2
open PySem PySem.Spec PyProof.Rows
structure Mod (K:aa)(mg:aR->Option ae)(base:aK):Prop where
 kin:K.In base
 glob:base.Ns aw mg
 blt:∃mb,base.Ns sA mb/\∀x:aR,x≠"__name__"->mb x=bL x
 nolimit:base.NoLimit
structure Cx where
 prog:bg
 w:bE
 K:aa
 mg:aR->Option ae
 base:aK
 A:bv
 N:List aR
 s₀:ak
 H₀:Hp
 env:Env
 outer:List Env
 stack:List Env
 ex:List af
 fn:aR->Bool
 calm:Bool
 pn:List (af×cN)
 xe:ae->ak->Prop
def pQ (l:List Env):List af:=l.filterMap (·.frame)
abbrev Cx.fs (X:Cx):List af:=pQ X.outer
def pC (sc:fv)(x:aR):Prop:=sc.names.lookup x=some .local\/sc.names.lookup x=some .cell\/sc.names.lookup x=some .free
def Loc (sc:fv)(x:aR):Prop:=sc.names.lookup x=some .local\/sc.names.lookup x=some .cell
def Look (env:Env)(h:aK)(m:aR->Option ae)(x:aR)(u:ae):Prop :=
 (env.kindOf x=some .local/\m x=some u)\/((env.kindOf x=some .cell\/env.kindOf x=some .free)/\∃c,env.cells.lookup x=some c/\h.IsCell c (some u))
structure Cx.Ok (X:Cx):Prop where
 mod:Mod X.K X.mg X.base
 kind:X.env.scope.kind=.function
 glob:X.env.globals=aw
 blt:X.env.builtins=sA
 above:X.s₀.heap.objs.size<=X.env.locals
 inj:∀x y c,X.env.cells.lookup x=some c->X.env.cells.lookup y=some c->x=y
 has:∀x,(X.env.kindOf x=some .cell\/X.env.kindOf x=some .free)->∃c,X.env.cells.lookup x=some c
 cab:∀x c,X.fn x=true->X.env.cells.lookup x=some c->X.s₀.heap.objs.size<=c
 hd:X.calm=true->X.A.handled=none
 frames:X.A.frames=some X.stack
 stk:X.stack=X.outer\/(X.stack=X.env::X.outer/\X.env.frame=some X.env.locals)
 exf:∀b∈X.ex,b≠X.env.locals/\∀x c,X.env.cells.lookup x=some c->c≠b
 bs:∀b o,X.base.get? b=some o->X.s₀.heap.get? b=some o/\X.H₀ b=none
 bsz:X.base.objs.size<=X.s₀.heap.objs.size
 noex:∀b o,X.base.get? b=some o->b∉X.ex
 exfs:∀b∈X.ex,b∉X.fs
 funs:X.s₀.heap.FunFrames X.base X.outer
 frf:∀b∈X.fs,X.H₀ b=none
structure Inv (X:Cx)(ah:List (af×cN))(σ:List (Option V))(H:Hp)(s:ak):Prop where
 ok:X.Ok
 os:s.os=X.s₀.os
 bare:AllBare s.gens
 base:Un X.fs X.ex X.H₀ H X.s₀.heap s.heap
 loc:∃m,s.heap.Ns X.env.locals m/\∀(i:Nat) (x:aR) (v:V),X.N[i]?=some x->σ[i]?=some (some v)->pC X.env.scope x->∃u,RelV v u/\Look X.env s.heap m x u
 cell:∀x c,X.env.cells.lookup x=some c->∃v,s.heap.IsCell c v
 free:H X.env.locals=none
 freeC:∀x c,X.env.cells.lookup x=some c->H c=none
 pin:∀p∈X.pn++ah,s.heap.get? p.1=some p.2/\H p.1=none/\p.1≠X.env.locals/\p.1∉X.fs/\∀v,p.2.data≠.cell v
 hok:jA X.prog X.w H s.heap
 len:σ.length=X.N.length
section
variable {X:Cx}{ah:List (af×cN)}{σ:List (Option V)}{H H':Hp}{s:ak}{h':aK}
theorem Cx.Ok.nofr (ok:X.Ok){b:af}{o:cN}(e:X.base.get? b=some o):b∉X.fs:=λhb=>by
 have:=(ok.funs.mem hb).1
 rw[e]at this;cases this
theorem Inv.bs (I:Inv X ah σ H s):∀b o,X.base.get? b=some o->s.heap.get? b=some o/\H b=none:=λb o e=>
 ⟨I.base.keep b o (I.ok.bs b o e).1 (I.ok.bs b o e).2 (I.ok.nofr e) (I.ok.noex b o e),I.base.free b o (I.ok.bs b o e).1 (I.ok.bs b o e).2 (I.ok.noex b o e)⟩
theorem Inv.bk (I:Inv X ah σ H s):∀b o,X.base.get? b=some o->s.heap.get? b=some o:=λb o e=>(I.bs b o e).1
theorem Inv.mod (I:Inv X ah σ H s):Mod X.K X.mg X.base:=I.ok.mod
theorem Inv.kIn (I:Inv X ah σ H s):X.K.In s.heap:=I.ok.mod.kin.keeps I.bk
theorem Inv.fr (I:Inv X ah σ H s):∃m,Fr X.base X.env.locals s.heap m :=
 let⟨m,hn,_⟩:=I.loc
 ⟨m,hn,I.bk,bS I.ok.bsz I.ok.above⟩
theorem Inv.lt (I:Inv X ah σ H s):X.env.locals<s.heap.objs.size:=let⟨_,hn,_⟩:=I.loc;hn.lt
theorem Inv.sz (I:Inv X ah σ H s):X.s₀.heap.objs.size<=s.heap.objs.size:=bS I.ok.above (iA I.lt)
theorem Inv.nofs (I:Inv X ah σ H s){a:af}(h:s.heap.objs.size<=a):a∉X.fs:=λhb=>by
 obtain⟨_,o,ho,_⟩:=I.ok.funs.mem hb
 exact absurd (bu (aJ ho) (bS I.sz h)) (ee _)
theorem Inv.cne (I:Inv X ah σ H s):∀x c,X.env.cells.lookup x=some c->c≠X.env.locals:=λx c e z=>by
 obtain⟨v,o,ho,hd⟩:=I.cell x c e
 obtain⟨m,⟨o',es,ep,pZ,mZ,_⟩,_⟩:=I.loc
 rw[z,pZ]at ho;cases ho;rw[mZ]at hd;cases hd
theorem Inv.funs (I:Inv X ah σ H s):s.heap.FunFrames X.base X.outer:=by
 have all:∀(l:List Env),(∀b∈pQ l,b∈X.fs)->X.s₀.heap.FunFrames X.base l->s.heap.FunFrames X.base l:=by
  intro l
  induction l with
  |nil=>intro _ _;trivial
  |cons env r ih=>
   intro hs hl
   obtain⟨hk,⟨L,o,hf,hn,ho,hd⟩,hr⟩:=hl
   have hL:L∈X.fs:=hs L (by unfold pQ;rw[iZ,hf];exact am)
   obtain⟨sl,e⟩:=I.base.slot L o ho (I.ok.frf L hL) hL λz=>I.ok.exfs L z hL
   exact⟨hk,⟨L,_,hf,hn,e,hd⟩,ih (λb hb=>hs b (by unfold pQ;rw[iZ,hf];exact ap _ hb)) hr⟩
 exact all X.outer (λ_ hb=>hb) I.ok.funs
theorem Inv.stack (I:Inv X ah σ H s):s.heap.FunFrames X.base X.stack:=by
 rcases I.ok.stk with e|⟨e,hf⟩
 ·rw[e];exact I.funs
 ·rw[e]
  obtain⟨m,hn,_⟩:=I.loc
  refine .cons (by rw[I.ok.kind];decide) hf hn ?_ I.funs
  exact nI (bS I.ok.bsz I.ok.above)
theorem Inv.stkSub (I:Inv X ah σ H s):∀b∈pQ X.stack,b∈X.env.locals::X.fs:=λb hb=>by
 rcases I.ok.stk with e|⟨e,hf⟩
 ·rw[e]at hb;exact ap _ hb
 ·rw[e]at hb
  unfold pQ at hb
  rw[iZ,hf]at hb
  exact hb
theorem Inv.stkFree (I:Inv X ah σ H s):∀b∈pQ X.stack,H b=none:=λb hb=>by
 rcases aA.mp (I.stkSub b hb)with e|hb
 ·rw[e];exact I.free
 ·obtain⟨_,o,ho,_⟩:=I.ok.funs.mem hb
  exact I.base.free b o ho (I.ok.frf b hb) λz=>I.ok.exfs b z hb
theorem Inv.step {g':Array GenState}{t':Nat}{d':Drawn}{ch:List af}(I:Inv X ah σ H s)
  (kQ:∀b∈ch,(b∈X.ex\/X.s₀.heap.objs.size<=b)/\b≠X.env.locals/\(∀x c,X.env.cells.lookup x=some c->c≠b)/\∀p∈X.pn++ah,p.1≠b)
  (keep:∀b o,b≠X.env.locals->b∉X.fs->b∉ch->s.heap.get? b=some o->H b=none->h'.get? b=some o)
  (slot:∀b o,b≠X.env.locals->b∈X.fs->b∉ch->s.heap.get? b=some o->H b=none->∃sl,h'.get? b=some { o with slots:=sl }) (free:∀b o,b∉ch->s.heap.get? b=some o->H b=none->H' b=none)
  (there:∀b o,b∉ch->s.heap.get? b=some o->∃o',h'.get? b=some o')
  (tups:∀b xs,H b=some (.tup xs)->H' b=some (.tup xs)) (frzs:∀b o u,H b=some (.frz o u)->H' b=some (.frz o u)) (tbls:∀b ps,H b=some (.tbl ps)->∃more,H' b=some (.tbl (ps++more)))
  (ns:∀m,s.heap.Ns X.env.locals m->h'.Ns X.env.locals m) (hok:jA X.prog X.w H' h') (hg:AllBare g') :
  Inv X ah σ H' { s with heap:=h',gens:=g',drawn:=d',toks:=t' }:=by
 have JE:∀b o,X.s₀.heap.get? b=some o->b≠X.env.locals:=λb o e=>bc (bu (aJ e) I.ok.above)
 have Dw:∀b o,X.s₀.heap.get? b=some o->b∉X.ex->b∉ch:=λb o e hx hb=>by
  rcases(kQ b hb).1 with z|z
  ·exact hx z
  ·exact absurd (bu (aJ e) z) (ee _)
 have cellK:∀x c,X.env.cells.lookup x=some c->∀v,s.heap.IsCell c v->h'.IsCell c v:=λx c e v ⟨o,ho,hd⟩=>by
  have Bv:c∉ch:=λz=>(kQ c z).2.2.1 x c e rfl
  by_cases hc:c∈X.fs
  ·obtain⟨sl,q⟩:=slot c o (I.cne x c e) hc Bv ho (I.freeC x c e)
   exact⟨_,q,hd⟩
  ·exact⟨o,keep c o (I.cne x c e) hc Bv ho (I.freeC x c e),hd⟩
 refine⟨I.ok,I.os,hg,⟨λb o e n hb hx=>?_,λb o e n hb hx=>?_,λb o e n hx=>?_,λb o e hx=>?_,λb xs e=>tups b xs (I.base.tups b xs e),λb o xs e=>frzs b o xs (I.base.frzs b o xs e),λb ps e=>?_⟩,?_,λx c e=>?_,?_,λx c e=>?_,λp hp=>?_,hok,I.len⟩
 ·exact keep b o (JE b o e) hb (Dw b o e hx) (I.base.keep b o e n hb hx) (I.base.free b o e n hx)
 ·obtain⟨sl,e1⟩:=I.base.slot b o e n hb hx
  obtain⟨Qe,e2⟩:=slot b _ (JE b o e) hb (Dw b o e hx) e1 (I.base.free b o e n hx)
  exact⟨Qe,e2⟩
 ·obtain⟨o',e1⟩:=I.base.there b o e hx
  exact free b o' (Dw b o e hx) e1 (I.base.free b o e n hx)
 ·obtain⟨o',e1⟩:=I.base.there b o e hx
  exact there b o' (Dw b o e hx) e1
 ·obtain⟨m1,e1⟩:=I.base.tbls b ps e
  obtain⟨m2,e2⟩:=tbls b _ e1
  exact⟨m1++m2,by rw[e2,oe]⟩
 ·obtain⟨m,hn,hl⟩:=I.loc
  refine⟨m,ns m hn,λi x v e1 e2 e3=>?_⟩
  obtain⟨u,r,l⟩:=hl i x v e1 e2 e3
  refine⟨u,r,?_⟩
  rcases l with l|⟨k,c,e,z⟩
  ·exact .inl l
  ·exact .inr ⟨k,c,e,cellK x c e _ z⟩
 ·obtain⟨v,z⟩:=I.cell x c e
  exact⟨v,cellK x c e v z⟩
 ·obtain⟨m,⟨o,_,_,ho,_⟩,_⟩:=I.loc
  exact free _ o (λz=>(kQ _ z).2.1 rfl) ho I.free
 ·obtain⟨v,o,ho,hd⟩:=I.cell x c e
  exact free c o (λz=>(kQ c z).2.2.1 x c e rfl) ho (I.freeC x c e)
 ·obtain⟨e,n,ne,nf,d⟩:=I.pin p hp
  have Bv:p.1∉ch:=λz=>(kQ p.1 z).2.2.2 p hp rfl
  exact⟨keep p.1 p.2 ne nf Bv e n,free p.1 p.2 Bv e n,ne,nf,d⟩
theorem Inv.un {t':Nat}(I:Inv X ah σ H s)(u:Un X.fs [] H H' s.heap h')(hok:jA X.prog X.w H' h'):Inv X ah σ H' { s with heap:=h',toks:=t' }:=by
 obtain⟨m,⟨o,es,ep,ho,r⟩,_⟩:=id I.loc
 obtain⟨sl,hL⟩:=u.any ho I.free (by simp)
 exact I.step (g':=s.gens) (d':=s.drawn) (ch:=[]) (λ_ z=>nomatch z) (λb o _ hb _ e n=>u.keep b o e n hb (by simp)) (λb o _ hb _ e n=>u.slot b o e n hb (by simp)) (λb o _ e n=>u.free b o e n (by simp)) (λb o _ e=>u.there b o e (by simp)) u.tups u.frzs u.tbls (λm' hm=>by
  obtain⟨o',E9,E8,pZ,r'⟩:=hm
  rw[ho]at pZ;cases pZ
  exact⟨_,E9,E8,hL,r'⟩) hok I.bare
theorem Inv.call {g':Array GenState}{t':Nat}{d':Drawn}{ch:List af}(I:Inv X ah σ H s)(u:Un (pQ X.stack) ch H H' s.heap h')(hok:jA X.prog X.w H' h')(hg:AllBare g')
  (kQ:∀b∈ch,(b∈X.ex\/X.s₀.heap.objs.size<=b)/\b≠X.env.locals/\(∀x c,X.env.cells.lookup x=some c->c≠b)/\∀p∈X.pn++ah,p.1≠b) :
  Inv X ah σ H' { s with heap:=h',gens:=g',drawn:=d',toks:=t' }:=by
 obtain⟨m,⟨o,es,ep,ho,r⟩,_⟩:=id I.loc
 obtain⟨sl,hL⟩:=u.any ho I.free λz=>(kQ _ z).2.1 rfl
 exact I.step (ch:=ch) kQ (λb o hL hb hc e n=>u.keep b o e n (λz=>(aA.mp (I.stkSub b z)).elim hL hb) hc) (λb o _ _ hc e n=>u.any e n hc) (λb o hc e n=>u.free b o e n hc) (λb o hc e=>u.there b o e hc) u.tups u.frzs u.tbls (λm' hm=>by
  obtain⟨o',E9,E8,pZ,r'⟩:=hm
  rw[ho]at pZ;cases pZ
  exact⟨_,E9,E8,hL,r'⟩) hok hg
theorem Inv.turned {t':Nat}{it:af}(I:Inv X ah σ H s)(k:∀b o,b≠it->s.heap.get? b=some o->h'.get? b=some o)(hn:H it=none)(hL:it≠X.env.locals)
  (h1:it∈X.ex\/X.s₀.heap.objs.size<=it) (h2:∀x c,X.env.cells.lookup x=some c->c≠it) (h3:∀p∈X.pn++ah,p.1≠it):Inv X ah σ H { s with heap:=h',toks:=t' }:=by
 have JF:∀b u,H b=some u->b≠it:=λb u e z=>by rw[z,hn]at e;cases e
 refine I.step (g':=s.gens) (d':=s.drawn) (ch:=[it]) (λb hb=>?_) (λb o _ _ hc e _=>k b o (λz=>hc (by simp[z])) e) (λb o _ _ hc e _=>⟨o.slots,k b o (λz=>hc (by simp[z])) e⟩) (λ_ _ _ _ n=>n)
  (λb o hc e=>⟨o,k b o (λz=>hc (by simp[z])) e⟩) (λ_ _ e=>e) (λ_ _ _ e=>e) (λb ps e=>⟨#[],by rw[e];simp⟩) (λm hm=>?_) (λb u e=>?_) I.bare
 ·have e:b=it:=by simpa using hb
  subst e
  exact⟨h1,hL,h2,h3⟩
 ·obtain⟨o,es,ep,ho,r⟩:=hm
  exact⟨o,es,ep,k _ o (Ne.symm hL) ho,r⟩
 ·refine(I.hok b u e).stay (λc v hc q=>k c v ?_ q) (λ_ q=>q) λ_ _ q=>q
  rcases hc with z|z
  ·rw[z];exact JF b u e
  ·exact JF c _ z
theorem Inv.tok (I:Inv X ah σ H s)(t:Nat):Inv X ah σ H { s with toks:=t }:=I.un (h':=s.heap) (t':=t) Un.refl I.hok
theorem Inv.kept {t':Nat}(I:Inv X ah σ H s)(k:∀b u,s.heap.get? b=some u->h'.get? b=some u):Inv X ah σ H { s with heap:=h',toks:=t' }:=I.un (Un.kept k) (I.hok.kept k)
theorem Inv.laid {a:af}{o:HO}{t':Nat}(I:Inv X ah σ H s)(k:∀b u,s.heap.get? b=some u->h'.get? b=some u)(hp:s.heap.objs.size<=a)(new:dw X.prog X.w (upd H a o) h' a o) :
  Inv X ah σ (upd H a o) { s with heap:=h',toks:=t' }:=I.un (Un.laid k hp (I.hok.fresh hp)) (I.hok.laid k hp new)
theorem Inv.write {x e:af}{o:HO}{t':Nat}(I:Inv X ah σ H s)(mu:xO (H x))(he:e=x\/H e=some (.own x))(k:∀b u,b≠e->s.heap.get? b=some u->h'.get? b=some u)(wQ:∃u,h'.get? e=some u)
  (new:dw X.prog X.w (upd H x o) h' x o):Inv X ah σ (upd H x o) { s with heap:=h',toks:=t' }:=I.un (Un.write mu he k wQ) (I.hok.write mu he k wQ new)
theorem Inv.weak {σ':List (Option V)}(I:Inv X ah σ H s)(hl:σ'.length = σ.length)(w:∀(i:Nat) v,σ'[i]?=some (some v)->σ[i]?=some (some v)):Inv X ah σ' H s :=
 ⟨I.ok,I.os,I.bare,I.base,let⟨m,hn,wU⟩:=I.loc;⟨m,hn,λi x v e1 e2 e3=>wU i x v e1 (w i v e2) e3⟩,I.cell,I.free,I.freeC,I.pin,I.hok,hl.trans I.len⟩
theorem Inv.pins_of {tq:List (af×cN)}(I:Inv X ah σ H s)(h:∀p∈tq,s.heap.get? p.1=some p.2/\H p.1=none/\p.1≠X.env.locals/\p.1∉X.fs/\∀v,p.2.data≠.cell v):Inv X tq σ H s :=
 ⟨I.ok,I.os,I.bare,I.base,I.loc,I.cell,I.free,I.freeC,λp hp=>(aM.mp hp).elim (λz=>I.pin p (aS _ z)) (h p),I.hok,I.len⟩
theorem Ls {N:List aR}(hN:N.Nodup){i j:Nat}{x:aR}(a:N[i]?=some x)(b:N[j]?=some x):i=j:=by
 obtain⟨h1,e1⟩:=aQ.mp a
 obtain⟨h2,e2⟩:=aQ.mp b
 exact(gO hN).mp (e1.trans e2.symm)
theorem KW {M:Model}{A:bv}{E:ae->ak->Prop}{i:Nat}{x:aR}{v:V}{u:ae}{Q:Unit->ak->Prop}(I:Inv X ah σ H s)(hN:X.N.Nodup)(hi:X.N[i]?=some x)(hx:Loc X.env.scope x)(r:RelV v u)
  (h:∀s',Inv X ah (σ.set i (some v)) H s'->(∃a,dY a s.heap s'.heap/\(a=X.env.locals\/X.env.cells.lookup x=some a))->Q () s') (hf:X.fn x=true\/X.env.scope.names.lookup x=some .local:=by first|exact .inl rfl|exact .inr rfl|assumption):aV M A (storeName X.env x u) Q E s:=by
 obtain⟨m,hn,hl⟩:=id I.loc
 have FN:(X.env.scope.kind==.class || (X.env.scope.kind==.module&&X.env.locals != X.env.globals))=false:=by rw[I.ok.kind];rfl
 have Jd:i < σ.length:=by rw[I.len];exact(aQ.mp hi).1
 have cne:=I.cne
 have tracked:∀{a:af} {h':aK},(∃o,s.heap.get? a=some o/\H a=none)->dY a s.heap h'->jA X.prog X.w H h':=λ{a h'} ha hs b ob e=>by
  obtain⟨_,_,sQ⟩:=ha
  refine(I.hok b ob e).stay (λc w' hc q=>(hs.2 c ?_).trans q) (λ_ q=>q) λ_ _ q=>q
  rintro rfl
  rcases hc with rfl|hc
  ·rw[sQ]at e;cases e
  ·rw[sQ]at hc;cases hc
 rcases hx with hk|hk
 ·refine wpAny_storeName_local hk hn (λh' Gc hs=>?_) FN
  obtain⟨oL,_,_,Di,_⟩:=id hn
  refine h _ ⟨I.ok,I.os,I.bare,⟨λb o e n hb hx=>?_,λb o e n hb hx=>?_,I.base.free,λb o e hx=>?_,I.base.tups,I.base.frzs,I.base.tbls⟩,⟨_,Gc,λj y v' e1 e2 e3=>?_⟩,λy c e=>?_,I.free,I.freeC,λp hp=>?_,tracked ⟨oL,Di,I.free⟩ hs,by simpa using I.len⟩ ⟨_,hs,.inl rfl⟩
  ·exact(hs.2 b (bc (bu (aJ e) I.ok.above))).trans (I.base.keep b o e n hb hx)
  ·obtain⟨sl,e1⟩:=I.base.slot b o e n hb hx
   exact⟨sl,(hs.2 b (bc (bu (aJ e) I.ok.above))).trans e1⟩
  ·obtain⟨o',e1⟩:=I.base.there b o e hx
   exact⟨o',(hs.2 b (bc (bu (aJ e) I.ok.above))).trans e1⟩
  ·by_cases hj:j=i
   ·subst hj
    rw[hi]at e1;cases e1
    rw[ip Jd]at e2
    cases e2
    exact⟨u,r,.inl ⟨hk,by simp⟩⟩
   ·rw[fL (Ne.symm hj)]at e2
    obtain⟨u',r',q⟩:=hl j y v' e1 e2 e3
    refine⟨u',r',?_⟩
    rcases q with⟨k,e⟩|⟨k,c,e,z⟩
    ·refine .inl ⟨k,?_⟩
     have:y≠x:=λe=>hj (Ls hN e1 (e▸hi))
     simp[this,e]
    ·exact .inr ⟨k,c,e,z.sameBut hs (cne y c e)⟩
  ·obtain⟨w',z⟩:=I.cell y c e
   exact⟨w',z.sameBut hs (cne y c e)⟩
  ·obtain⟨e,n,ne,nf,d⟩:=I.pin p hp
   exact⟨(hs.2 p.1 ne).trans e,n,ne,nf,d⟩
 ·have wR:X.fn x=true:=by
   rcases hf with z|z
   ·exact z
   ·rw[z]at hk;cases hk
  obtain⟨c,hc⟩:=I.ok.has x (.inl hk)
  obtain⟨w',z⟩:=I.cell x c hc
  refine wpAny_storeName_cell I.ok.kind hk hc z (λh' sN hs=>?_)
  obtain⟨oc,Ji,Ge⟩:=id z
  refine h { s with heap:=h' } ⟨I.ok,I.os,I.bare,⟨λb o e n hb hx=>?_,λb o e n hb hx=>?_,I.base.free,λb o e hx=>?_,I.base.tups,I.base.frzs,I.base.tbls⟩,⟨m,hn.sameBut hs (Ne.symm (cne x c hc)),λj y v' e1 e2 e3=>?_⟩,λy c' e=>?_,I.free,I.freeC,λp hp=>?_,tracked ⟨oc,Ji,I.freeC x c hc⟩ hs,by simpa using I.len⟩ ⟨c,hs,.inr hc⟩
  ·exact(hs.2 b (bc (bu (aJ e) (I.ok.cab x c wR hc)))).trans (I.base.keep b o e n hb hx)
  ·obtain⟨sl,e1⟩:=I.base.slot b o e n hb hx
   exact⟨sl,(hs.2 b (bc (bu (aJ e) (I.ok.cab x c wR hc)))).trans e1⟩
  ·obtain⟨o',e1⟩:=I.base.there b o e hx
   exact⟨o',(hs.2 b (bc (bu (aJ e) (I.ok.cab x c wR hc)))).trans e1⟩
  ·by_cases hj:j=i
   ·subst hj
    rw[hi]at e1;cases e1
    rw[ip Jd]at e2
    cases e2
    exact⟨u,r,.inr ⟨.inl hk,c,hc,sN⟩⟩
   ·rw[fL (Ne.symm hj)]at e2
    obtain⟨u',r',q⟩:=hl j y v' e1 e2 e3
    refine⟨u',r',?_⟩
    rcases q with q|⟨k,c',e,z'⟩
    ·exact .inl q
    ·refine .inr ⟨k,c',e,z'.sameBut hs ?_⟩
     rintro rfl
     exact hj (Ls hN e1 (I.ok.inj _ _ _ e hc▸hi))
  ·by_cases IZ:c'=c
   ·subst IZ;exact⟨_,sN⟩
   ·obtain⟨w2,z2⟩:=I.cell y c' e
    exact⟨w2,z2.sameBut hs IZ⟩
  ·obtain⟨e,n,ne,nf,d⟩:=I.pin p hp
   refine⟨(hs.2 p.1 ?_).trans e,n,ne,nf,d⟩
   intro q
   rw[q,Ji]at e
   have q':oc=p.2:=Option.some.inj e
   exact d w' (by rw[←q'];exact Ge)
theorem Cy {M:Model}{A:bv}{E:ae->ak->Prop}{i:Nat}{x:aR}{v:V}{u:ae}{Q:Unit->ak->Prop}(I:Inv X ah σ H s)(hN:X.N.Nodup)(hi:X.N[i]?=some x)(hx:Loc X.env.scope x)(r:RelV v u)
  (h:∀s',Inv X ah (σ.set i (some v)) H s'->Q () s') (hf:X.fn x=true\/X.env.scope.names.lookup x=some .local:=by first|exact .inl rfl|exact .inr rfl|assumption):aV M A (storeName X.env x u) Q E s :=
 KW I hN hi hx r (λs' I' _=>h s' I') hf
theorem Inv.call' {s':ak}{ch:List af}(I:Inv X ah σ H s)(ho:s'.os=s.os)(u:Un (pQ X.stack) ch H H' s.heap s'.heap)(hok:jA X.prog X.w H' s'.heap)(hg:AllBare s'.gens)
  (kQ:∀b∈ch,(b∈X.ex\/X.s₀.heap.objs.size<=b)/\b≠X.env.locals/\(∀x c,X.env.cells.lookup x=some c->c≠b)/\∀p∈X.pn++ah,p.1≠b):Inv X ah σ H' s':=by
 obtain⟨h',g',d',t',o'⟩:=s'
 have e:o'=s.os:=ho
 subst e
 exact I.call (g':=g') (t':=t') (d':=d') u hok hg kQ
end
abbrev XK:=ae->Option af->Hp->Prop
abbrev St:=List (Option V)
abbrev VK:=V->Hp->Prop
abbrev TE:=St->Hp->VK->Prop
abbrev TT:=St->Hp->(Bool->Hp->Prop)->Prop
abbrev TA:=St->Hp->(List V->Hp->Prop)->Prop
structure kH where
 nx:St->Hp->Prop
 rt:VK
 bk:St->Hp->Prop:=λ_ _=>False
 ct:St->Hp->Prop:=λ_ _=>False
abbrev TS:=kH->St->Hp->Prop
def EP (X:Cx)(ah:List (af×cN))(σ:St)(Q:VK)(u:ae)(s':ak):Prop:=∃v H',Inv X ah σ H' s'/\RelV v u/\Q v H'
def TP (X:Cx)(ah:List (af×cN))(σ:St)(Q:Bool->Hp->Prop)(b:Bool)(s':ak):Prop:=∃H',Inv X ah σ H' s'/\Q b H'
def AP (X:Cx)(ah:List (af×cN))(σ:St)(Q:List V->Hp->Prop)(us:List ae)(s':ak):Prop:=∃vs H',Inv X ah σ H' s'/\bT vs us/\Q vs H'
def SP (X:Cx)(ah:List (af×cN))(D:kH)(f:Flow)(s':ak):Prop :=
 match f with
 |.next=>∃σ' H',Inv X ah σ' H' s'/\D.nx σ' H'
 |.brk=>∃σ' H',Inv X ah σ' H' s'/\D.bk σ' H'
 |.cont=>∃σ' H',Inv X ah σ' H' s'/\D.ct σ' H'
 |.ret u=>∃v σ' H',Inv X ah σ' H' s'/\RelV v u/\D.rt v H'
def PE (X:Cx)(e:Expr)(t:TE):Prop :=
 ∀(ah:List (af×cN)) (s:ak) (σ:St) (H:Hp) (Q:VK),Inv X ah σ H s->t σ H Q->aV (aZ X.prog X.w) X.A (bO e X.env) (EP X ah σ Q) X.xe s
def PT (X:Cx)(e:Expr)(t:TT):Prop :=
 ∀(ah:List (af×cN)) (s:ak) (σ:St) (H:Hp) (Q:Bool->Hp->Prop),Inv X ah σ H s->t σ H Q->aV (aZ X.prog X.w) X.A (pq e X.env (bO e X.env)) (TP X ah σ Q) X.xe s
def PW (X:Cx)(e:Expr)(t:TT):Prop :=
 ∀(whole:mQ ae) (ah:List (af×cN)) (s:ak) (σ:St) (H:Hp) (Q:Bool->Hp->Prop),Inv X ah σ H s->t σ H Q->aV (aZ X.prog X.w) X.A (pq e X.env whole) (TP X ah σ Q) X.xe s
theorem PW.pt {X:Cx}{e:Expr}{t:TT}(h:PW X e t):PT X e t:=h _
def PA (X:Cx)(es:List Expr)(t:TA):Prop :=
 ∀(pos:cD) (ah:List (af×cN)) (s:ak) (σ:St) (H:Hp) (Q:List V->Hp->Prop),Inv X ah σ H s->t σ H Q->aV (aZ X.prog X.w) X.A (spliced (cB pos (ax es X.env))) (AP X ah σ Q) X.xe s
def PS (X:Cx)(st:bN)(t:TS):Prop :=
 ∀(ah:List (af×cN)) (s:ak) (σ:St) (H:Hp) (D:kH),Inv X ah σ H s->t D σ H->aV (aZ X.prog X.w) X.A (exec st X.env) (SP X ah D) X.xe s
def oA (X:Cx)(st:List bN)(t:TS):Prop :=
 ∀(ah:List (af×cN)) (s:ak) (σ:St) (H:Hp) (D:kH),Inv X ah σ H s->t D σ H->aV (aZ X.prog X.w) X.A (execs st X.env) (SP X ah D) X.xe s
theorem dc {α:Type}{t:mQ α}{Q Q':α->ak->Prop}{M:Model}{A:bv}{E:ae->ak->Prop}{s:ak}(h:aV M A t Q E s)(hQ:∀a s,Q a s->Q' a s):aV M A t Q' E s:=dU h hQ λ_ _ x=>x
end L2
namespace L2
open PySem PySem.Spec PyProof.Rows
section
variable {X:Cx}
theorem bin {a b:Expr}{ta tb:TE}(ha:PE X a ta)(hb:PE X b tb){ah:List (af×cN)}{s:ak}{σ:St}{H:Hp}{R:V->V->Hp->Prop}(I:Inv X ah σ H s)(h:ta σ H λx H1=>tb σ H1 λy H2=>R x y H2)
  {α:Type} {Q:α->ak->Prop} {f:ae->ae->mQ α}
  (hf:∀v u s2 x y H2,Inv X ah σ H2 s2->RelV x v->RelV y u->R x y H2->aV (aZ X.prog X.w) X.A (f v u) Q X.xe s2) :
  aV (aZ X.prog X.w) X.A (bO a X.env) (λv s₁=>aV (aZ X.prog X.w) X.A (bO b X.env) (λu s₂=>aV (aZ X.prog X.w) X.A (f v u) Q X.xe s₂) X.xe s₁) X.xe s:=by
 refine dc (ha ah s σ H _ I h) λv s1 di=>?_
 obtain⟨x,H1,I1,r1,q1⟩:=di
 refine dc (hb ah s1 σ H1 _ I1 q1) λu s2 di=>?_
 obtain⟨y,H2,I2,r2,q2⟩:=di
 exact hf v u s2 x y H2 I2 r1 r2 q2
def G8 (i:Nat):TE:=λσ H Q=>∃v,σ[i]?=some (some v)/\Q v H
def tC (v:V):TE:=λ_ H Q=>Q v H
theorem sg {i:Nat}{x:aR}{pos:cD}(hN:X.N[i]?=some x)(hv:pC X.env.scope x)(hd:(x==("__debug__":aR))=false:=by decide)(jD:(x==("__classdict__":aR))=false:=by decide):PE X (.Name x pos) (G8 i):=by
 intro ah s σ H Q I h
 obtain⟨v,e,h⟩:=h
 obtain⟨m,hn,hl⟩:=I.loc
 obtain⟨u,r,l⟩:=hl i x v hN e hv
 have fin:EP X ah σ Q u s:=⟨v,H,I,r,h⟩
 rcases l with⟨hk,hm⟩|⟨hk,c,hc,oE⟩
 ·exact sE (wpAny_loadName_local I.ok.kind hk hn hm fin) hd
 ·rcases hk with hk|hk
  ·exact sE (wpAny_loadName_cell I.ok.kind hk hc oE fin) hd
  ·exact sE (wpAny_loadName_free I.ok.kind hk hc oE fin jD) hd
theorem Vy {i j pos}:PE X (.Constant (.int i) j pos) (tC (.int i)):=λ_ _ _ H _ I h=>wpAny_Constant_int ⟨.int i,H,I.tok _,⟨_,rfl⟩,h⟩
theorem WL {b j pos}:PE X (.Constant (.bool b) j pos) (tC (.bl b)):=λ_ _ _ H _ I h=>Constant_bool ⟨.bl b,H,I,rfl,h⟩
theorem Vz {j pos}:PE X (.Constant .none j pos) (tC .non):=λ_ _ _ H _ I h=>Constant_none ⟨.non,H,I,rfl,h⟩
theorem VA {x j pos}:PE X (.Constant (.str x) j pos) (tC (.str x)):=λ_ _ _ H _ I h=>Calls.Constant_str ⟨.str x,H,I.tok _,⟨_,rfl⟩,h⟩
def Gl (X:Cx)(x:aR):Prop:=X.env.kindOf x=some .globalImplicit
theorem D2 {E:ae->ak->Prop}{ah:List (af×cN)}{s:ak}{σ:St}{H:Hp}{x:aR}{u:ae}{pos:cD}{Q:ae->ak->Prop}(I:Inv X ah σ H s)(hg:Gl X x)(hm:X.mg x=some u)(h:Q u s)
  (hd:(x==("__debug__":aR))=false:=by decide):aV (aZ X.prog X.w) X.A (bO (.Name x pos) X.env) Q E s :=
 Calls.Name_function_global I.ok.kind hg (Calls.loadGlobal_global (by rw[I.ok.glob];exact I.mod.glob.keeps I.bk) hm h) hd
theorem wI {E:ae->ak->Prop}{ah:List (af×cN)}{s:ak}{σ:St}{H:Hp}{x:aR}{u:ae}{pos:cD}{Q:ae->ak->Prop}(I:Inv X ah σ H s)(hg:Gl X x)(hm:X.mg x=none)(hv:bL x=some u)(h:Q u s)
  (hn:x≠"__name__":=by decide) (hd:(x==("__debug__":aR))=false:=by decide):aV (aZ X.prog X.w) X.A (bO (.Name x pos) X.env) Q E s:=by
 obtain⟨mb,h1,h2⟩:=I.mod.blt
 exact Calls.Name_function_global I.ok.kind hg (Calls.loadGlobal_builtin (by rw[I.ok.glob];exact I.mod.glob.keeps I.bk) hm (by rw[I.ok.blt];exact h1.keeps I.bk) ((h2 x hn).trans hv) h) hd
theorem LI {x:aR}{v:V}{u:ae}{pos:cD}(hg:Gl X x)(hm:X.mg x=some u)(r:RelV v u)(hd:(x==("__debug__":aR))=false:=by decide):PE X (.Name x pos) (tC v) :=
 λ_ _ _ H _ I h=>D2 I hg hm ⟨v,H,I,r,h⟩ hd
theorem Ud {x:aR}{v:V}{u:ae}{pos:cD}(hg:Gl X x)(hm:X.mg x=none)(hv:bL x=some u)(r:RelV v u)(hn:x≠"__name__":=by decide)(hd:(x==("__debug__":aR))=false:=by decide):PE X (.Name x pos) (tC v) :=
 λ_ _ _ H _ I h=>wI I hg hm hv ⟨v,H,I,r,h⟩ hn hd
variable {a b:Expr}{ta tb:TE}{pos:cD}
def PC (X:Cx)(op:i6)(a b:Expr)(t:TE):Prop :=
 ∀(ah:List (af×cN)) (s:ak) (σ:St) (H:Hp) (Q:VK),Inv X ah σ H s->t σ H Q ->
  aV (aZ X.prog X.w) X.A (bO a X.env) (λv s₁=>aV (aZ X.prog X.w) X.A (bO b X.env) (λu s₂=>aV (aZ X.prog X.w) X.A (cm op v u) (EP X ah σ Q) X.xe s₂) X.xe s₁) X.xe s
theorem qC (b:Expr){op:i6}(h:op≠.In)(h2:op≠.NotIn):dC op b=false:=by
 have e1:(op==i6.In)=false:=by cases op<;>first|rfl|exact absurd rfl h
 have e2:(op==i6.NotIn)=false:=by cases op<;>first|rfl|exact absurd rfl h2
 cases b<;>simp[dC,e1,e2]
def tB (t:TE):TT:=λσ H Q=>t σ H λx H1=>∃c,x=.bl c/\Q c H1
theorem VB {op:i6}{t:TE}(h:PC X op a b t)(h1:dC op b=false:=by first|exact qC _ (by decide) (by decide)|rfl):PT X (.Compare a [op] [b] pos) (tB t):=by
 intro ah s σ H Q I hw
 refine wpAny_isTrue_Compare1 (dc (h ah s σ H _ I hw) λv s1 h1=>dc h1 λu s2 h2=>dc h2 λc s3 ⟨x,H1,I1,r1,q1⟩=>?_) h1
 obtain⟨d,rfl,q⟩:=q1
 cases r1
 exact cV ⟨H1,I1,q⟩
theorem VC {e:Expr}{t:TE}(h:PE X e t)(he:∀whole,pq e X.env whole=(do let v ← whole;fZ e.pos;dQ [v] (truthy v)):=by intro _;rfl):PT X e (tB t):=by
 intro ah s σ H Q I hw
 refine isTrue_plain (dc (h ah s σ H _ I hw) λv s1 ⟨x,H1,I1,r1,q1⟩=>?_) (he _)
 obtain⟨d,rfl,q⟩:=q1
 cases r1
 exact cV ⟨H1,I1,q⟩
variable {tA Dz:TT}{rest:List Expr}
def GV (t u:TT):TT:=λσ H Q=>t σ H λc H1=>if c=true then u σ H1 Q else Q false H1
def QK (t u:TT):TT:=λσ H Q=>t σ H λc H1=>if c=true then Q true H1 else u σ H1 Q
def G2 (t:TT):TT:=λσ H Q=>t σ H λc H1=>Q (!c) H1
theorem Ue (ha:PT X a tA):PW X (.BoolOp .And [a] pos) tA:=by
 intro wh ah s σ H Q I h
 refine isTrue_and (dc (ha ah s σ H Q I h) λc s1 e=>?_)
 cases c with
 |true=>exact isTrue_and_nil e
 |false=>exact e
theorem VD (ha:PT X a tA):PW X (.BoolOp .Or [a] pos) tA:=by
 intro wh ah s σ H Q I h
 refine isTrue_or (dc (ha ah s σ H Q I h) λc s1 e=>?_)
 cases c with
 |false=>exact isTrue_or_nil e
 |true=>exact e
theorem VE (ha:PT X a tA)(hb:PW X (.BoolOp .And (b::rest) pos) Dz):PW X (.BoolOp .And (a::b::rest) pos) (GV tA Dz):=by
 intro wh ah s σ H Q I h
 refine isTrue_and (dc (ha ah s σ H _ I h) λc s1 di=>?_)
 obtain⟨H1,I1,q1⟩:=di
 cases c with
 |true=>exact hb wh ah s1 σ H1 Q I1 q1
 |false=>exact⟨H1,I1,q1⟩
theorem WM (ha:PT X a tA)(hb:PW X (.BoolOp .Or (b::rest) pos) Dz):PW X (.BoolOp .Or (a::b::rest) pos) (QK tA Dz):=by
 intro wh ah s σ H Q I h
 refine isTrue_or (dc (ha ah s σ H _ I h) λc s1 di=>?_)
 obtain⟨H1,I1,q1⟩:=di
 cases c with
 |true=>exact⟨H1,I1,q1⟩
 |false=>exact hb wh ah s1 σ H1 Q I1 q1
theorem VF (ha:PT X a tA):PT X (.UnaryOp .Not a pos) (G2 tA):=by
 intro ah s σ H Q I h
 exact isTrue_not (ha ah s σ H (λc H1=>Q (!c) H1) I h)
def Cf (ta tb:TE):TE:=λσ H Q=>ta σ H λx H1=>∃c,x=.bl c/\if c=true then tb σ H1 Q else Q (.bl false) H1
def G3 (ta tb:TE):TE:=λσ H Q=>ta σ H λx H1=>∃c,x=.bl c/\if c=true then Q (.bl true) H1 else tb σ H1 Q
def Cp (ta:TE):TE:=λσ H Q=>ta σ H λx H1=>∃c,x=.bl c/\Q (.bl (!c)) H1
theorem VG {op}{t:TE}(h:PE X a t):PE X (.BoolOp op [a] pos) t:=λah s σ H Q I hw=>BoolOp_one (h ah s σ H Q I hw)
theorem VH (ha:PE X a ta)(hb:PE X (.BoolOp .And (b::rest) pos) tb):PE X (.BoolOp .And (a::b::rest) pos) (Cf ta tb):=by
 intro ah s σ H Q I h
 refine BoolOp_and (dc (ha ah s σ H _ I h) λv s1 di=>?_)
 obtain⟨x,H1,I1,r1,q1⟩:=di
 obtain⟨c,rfl,q1⟩:=q1
 cases r1
 refine cV ?_
 cases c with
 |true=>exact hb ah s1 σ H1 Q I1 q1
 |false=>exact⟨.bl false,H1,I1,rfl,q1⟩
theorem WN (ha:PE X a ta)(hb:PE X (.BoolOp .Or (b::rest) pos) tb):PE X (.BoolOp .Or (a::b::rest) pos) (G3 ta tb):=by
 intro ah s σ H Q I h
 refine BoolOp_or (dc (ha ah s σ H _ I h) λv s1 di=>?_)
 obtain⟨x,H1,I1,r1,q1⟩:=di
 obtain⟨c,rfl,q1⟩:=q1
 cases r1
 refine cV ?_
 cases c with
 |false=>exact hb ah s1 σ H1 Q I1 q1
 |true=>exact⟨.bl true,H1,I1,rfl,q1⟩
theorem VI (ha:PE X a ta):PE X (.UnaryOp .Not a pos) (Cp ta):=by
 intro ah s σ H Q I h
 refine UnaryOp_ (dc (ha ah s σ H _ I h) λv s1 di=>?_)
 obtain⟨x,H1,I1,r1,q1⟩:=di
 obtain⟨c,rfl,q1⟩:=q1
 cases r1
 exact not_of (cV ⟨.bl (!c),H1,I1,rfl,q1⟩)
def QJ (t:TT)(ta tb:TE):TE:=λσ H Q=>t σ H λc H1=>if c=true then ta σ H1 Q else tb σ H1 Q
theorem Tg {c:Expr}(hc:PT X c tA)(ha:PE X a ta)(hb:PE X b tb):PE X (.IfExp c a b pos) (QJ tA ta tb):=by
 intro ah s σ H Q I h
 refine wpAny_IfExp (dc (hc ah s σ H _ I h) λd s1 di=>?_)
 obtain⟨H1,I1,q1⟩:=di
 cases d with
 |true=>exact ha ah s1 σ H1 Q I1 q1
 |false=>exact hb ah s1 σ H1 Q I1 q1
end
end L2
namespace L2
open PySem PySem.Spec PyProof.Rows
def fm (K:aa)(H:Hp)(a:af)(xs:List V):Prop :=
 Rd H a (.lst xs) \/
  ∃(o:cN) (bZ:Array ae) (n:Nat),K.lookup a=some o/\o.cls=.type "list"/\o.dict=none/\o.data=.seq bZ n/\bZ.size<=sizeLine/\bT xs bZ.toList
def gY (K:aa)(H:Hp)(a:af)(xs:List V):Prop :=
 Rd H a (.tup xs) \/
  ∃(o:cN) (bZ:Array ae) (n:Nat),K.lookup a=some o/\o.cls=.type "tuple"/\o.data=.seq bZ n/\bZ.size<=sizeLine/\bT xs bZ.toList
def EH:ae->Option V
 |.none=>some .non
 |.bool b=>some (.bl b)
 |.int i _=>some (.int i)
 |.str x _=>some (.str x)
 |.bytes b _=>some (.byt b)
 |.float b _=>some (.flt b)
 |.ref a=>some (.ref a)
 |.type n=>some (.ty n)
 |_=>none
theorem RelV.abs {x:V}{u:ae}(r:RelV x u):EH u=some x:=by
 cases x with
 |non=>cases r;rfl
 |bl _=>cases r;rfl
 |int _=>obtain⟨t,rfl⟩:=r;rfl
 |str _=>obtain⟨t,rfl⟩:=r;rfl
 |byt _=>obtain⟨t,rfl⟩:=r;rfl
 |flt _=>obtain⟨t,rfl⟩:=r;rfl
 |ref _=>cases r;rfl
 |ty _=>cases r;rfl
theorem RelV.inj {x y:V}{u:ae}(r:RelV x u)(q:RelV y u):x=y:=Option.some.inj (r.abs.symm.trans q.abs)
theorem bT.inj:∀{xs ys:List V} {us:List ae},bT xs us->bT ys us->xs=ys
 |_,_,_,.nil,.nil=>rfl
 |_,_,_,.cons r t,.cons r' t'=>by rw[r.inj r',bT.inj t t']
section
variable {X:Cx}{ah:List (af×cN)}{σ:St}{H:Hp}{s:ak}{a:af}{xs ys:List V}
theorem fm.of {K:aa}(h:H a=some (.lst xs)):fm K H a xs:=.inl (.inl h)
theorem gY.of {K:aa}(h:H a=some (.tup xs)):gY K H a xs:=.inl (.inl h)
theorem Inv.list (I:Inv X ah σ H s)(h:fm X.K H a xs):∃bZ:List ae,bT xs bZ/\PlainL s.heap a bZ.toArray/\xs.length<=sizeLine:=by
 rcases h with h|⟨o,bZ,n,hk,hc,hd,hs,hz,r⟩
 ·obtain⟨z,bZ,n,r,e⟩:=h.ok I.hok
  exact⟨bZ,r,⟨_,n,e,rfl,rfl,rfl⟩,z⟩
 ·refine⟨bZ.toList,r,⟨o,n,I.kIn a o hk,hc,hd,by simpa using hs⟩,?_⟩
  have e:=r.length
  simp only[dm]at e
  omega
theorem Inv.tuple (I:Inv X ah σ H s)(h:gY X.K H a xs):∃bZ:List ae,bT xs bZ/\IsTup s.heap a bZ.toArray/\xs.length<=sizeLine:=by
 rcases h with h|⟨o,bZ,n,hk,hc,hs,hz,r⟩
 ·obtain⟨z,bZ,r,p⟩:=h.ok I.hok
  exact⟨bZ,r,p,z⟩
 ·refine⟨bZ.toList,r,⟨o,I.kIn a o hk,hc,n,by simpa using hs⟩,?_⟩
  have e:=r.length
  simp only[dm]at e
  omega
theorem Inv.list_inj (I:Inv X ah σ H s)(h:fm X.K H a xs)(h':fm X.K H a ys):xs=ys:=by
 obtain⟨bZ,r,⟨o,n,e,_,_,d⟩,_⟩:=I.list h
 obtain⟨its',r',⟨o',n',e',_,_,d'⟩,_⟩:=I.list h'
 rw[e]at e';cases e'
 rw[d]at d'
 injection d' with d1 _
 have:bZ=its':=by simpa using congrArg sv d1
 subst this
 exact r.inj r'
theorem Inv.tuple_inj (I:Inv X ah σ H s)(h:gY X.K H a xs)(h':gY X.K H a ys):xs=ys:=by
 obtain⟨bZ,r,⟨o,e,_,n,d⟩,_⟩:=I.tuple h
 obtain⟨its',r',⟨o',e',_,n',d'⟩,_⟩:=I.tuple h'
 rw[e]at e';cases e'
 rw[d]at d'
 injection d' with d1 _
 have:bZ=its':=by simpa using congrArg sv d1
 subst this
 exact r.inj r'
end
abbrev Cx.wish (X:Cx)(E:ae->ak->Prop):Cx:={ X with xe:=E }
abbrev Cx.nox (X:Cx):Cx:=X.wish λ_ _=>False
theorem Cx.Ok.wish {X:Cx}(ok:X.Ok)(E:ae->ak->Prop):(X.wish E).Ok :=
 ⟨ok.mod,ok.kind,ok.glob,ok.blt,ok.above,ok.inj,ok.has,ok.cab,ok.hd,ok.frames,ok.stk,ok.exf,ok.bs,ok.bsz,ok.noex,ok.exfs,ok.funs,ok.frf⟩
theorem Cx.Ok.unwish {X:Cx}{E:ae->ak->Prop}(ok:(X.wish E).Ok):X.Ok :=
 ⟨ok.mod,ok.kind,ok.glob,ok.blt,ok.above,ok.inj,ok.has,ok.cab,ok.hd,ok.frames,ok.stk,ok.exf,ok.bs,ok.bsz,ok.noex,ok.exfs,ok.funs,ok.frf⟩
section
variable {X:Cx}{ah:List (af×cN)}{σ:St}{H:Hp}{s:ak}{E:ae->ak->Prop}
theorem Inv.wish (I:Inv X ah σ H s)(E:ae->ak->Prop):Inv (X.wish E) ah σ H s:=⟨I.ok.wish E,I.os,I.bare,I.base,I.loc,I.cell,I.free,I.freeC,I.pin,I.hok,I.len⟩
theorem Inv.unwish (I:Inv (X.wish E) ah σ H s):Inv X ah σ H s:=⟨I.ok.unwish,I.os,I.bare,I.base,I.loc,I.cell,I.free,I.freeC,I.pin,I.hok,I.len⟩
theorem SP.unwish {D:kH}{f:Flow}{s':ak}(h:SP (X.wish E) ah D f s'):SP X ah D f s':=by
 cases f with
 |next=>obtain⟨σ',H',I,q⟩:=h;exact⟨σ',H',I.unwish,q⟩
 |brk=>obtain⟨σ',H',I,q⟩:=h;exact⟨σ',H',I.unwish,q⟩
 |cont=>obtain⟨σ',H',I,q⟩:=h;exact⟨σ',H',I.unwish,q⟩
 |ret u=>obtain⟨v,σ',H',I,r,q⟩:=h;exact⟨v,σ',H',I.unwish,r,q⟩
theorem oA.nox {st:List bN}{t:TS}(h:oA X.nox st t):oA X st t:=λah s σ H D I hw=>
 dU (h ah s σ H D (I.wish _) hw) (λ_ _ q=>q.unwish) λ_ _ z=>False.elim z
end
section
variable {X:Cx}{st:bN}{rest:List bN}{t u:TS}{e:Expr}{te:TE}{pos:cD}
def Cm:TS:=λD σ H=>D.nx σ H
def G6 (t u:TS):TS:=λD σ H=>t { D with nx:=u D } σ H
theorem Ug:oA X [] Cm:=λ_ _ σ H _ I h=>i7 ⟨σ,H,I,h⟩
theorem Th (h1:PS X st t)(h2:oA X rest u):oA X (st::rest) (G6 t u):=by
 intro ah s σ H D I h
 refine wpAny_execs_cons (dc (h1 ah s σ H { D with nx:=u D } I h) λf s1 q=>?_)
 cases f with
 |next=>
  obtain⟨σ',H',I',q⟩:=q
  exact h2 ah s1 σ' H' D I' q
 |ret v=>exact q
 |brk=>exact q
 |cont=>exact q
theorem Uh (h1:PS X st t):oA X [st] t:=by
 intro ah s σ H D I h
 refine wpAny_execs_cons (dc (h1 ah s σ H D I h) λf s1 q=>?_)
 cases f with
 |next=>exact i7 q
 |ret v=>exact q
 |brk=>exact q
 |cont=>exact q
theorem Inv.quiet {ah:List (af×cN)}{σ:St}{H:Hp}{s:ak}(I:Inv X ah σ H s):interactive X.env=false:=by simp[interactive,I.ok.kind]
def Cj (te:TE):TS:=λD σ H=>te σ H λ_ H1=>D.nx σ H1
theorem LJ (he:PE X e te)(hs:eA e none pos.line X.env=pure false:=by rfl):PS X (.Expr e pos) (Cj te):=by
 intro ah s σ H D I h
 exact wpAny_Expr_any (dc (he ah s σ H _ I h) λv s1 ⟨x,H1,I1,r1,q1⟩=>⟨σ,H1,I1,q1⟩) I.quiet hs
def G5 (te:TE):TS:=λD σ H=>te σ H D.rt
theorem Mt (he:PE X e te):PS X (.Return (some e) pos) (G5 te):=by
 intro ah s σ H D I h
 exact wpAny_Return_some (dc (he ah s σ H _ I h) λv s1 ⟨x,H1,I1,r1,q1⟩=>⟨x,σ,H1,I1,r1,q1⟩)
def G0 (c:TT)(t u:TS):TS:=λD σ H=>c σ H λb H1=>if b=true then t D σ H1 else u D σ H1
theorem WP {c:Expr}{a b:List bN}{tc:TT}(hc:PT X c tc)(ha:oA X a t)(hb:oA X b u):PS X (.If c a b pos) (G0 tc t u):=by
 intro ah s σ H D I h
 refine wpAny_If (dc (hc ah s σ H _ I h) λd s1 di=>?_)
 obtain⟨H1,I1,q1⟩:=di
 cases d with
 |true=>exact ha ah s1 σ H1 D I1 q1
 |false=>exact hb ah s1 σ H1 D I1 q1
def wB:TS:=λ_ _ _=>False
theorem Ti:PS X st wB:=λ_ _ _ _ _ _ h=>h.elim
end
abbrev TG:=V->St->Hp->(St->Hp->Prop)->Prop
abbrev sJ:=List V->St->Hp->(St->Hp->Prop)->Prop
def PG (X:Cx)(target:Expr)(t:TG):Prop :=
 ∀(ah:List (af×cN)) (s:ak) (σ:St) (H:Hp) (v:V) (u:ae) (Q:St->Hp->Prop),Inv X ah σ H s->RelV v u->t v σ H Q ->
  aV (aZ X.prog X.w) X.A (fW target X.env u) (λ_ s'=>∃σ' H',Inv X ah σ' H' s'/\Q σ' H') X.xe s
def wK (X:Cx)(ts:List Expr)(t:sJ):Prop :=
 ∀(ah:List (af×cN)) (s:ak) (σ:St) (H:Hp) (vs:List V) (us:List ae) (Q:St->Hp->Prop),Inv X ah σ H s->bT vs us->t vs σ H Q ->
  aV (aZ X.prog X.w) X.A (assignInOrder ((cK ts X.env).map (·.2)) us) (λ_ s'=>∃σ' H',Inv X ah σ' H' s'/\Q σ' H') X.xe s
abbrev pM:=V->V->V->Hp->(Hp->Prop)->Prop
def tS (X:Cx)(t:pM):Prop :=
 ∀(ah:List (af×cN)) (s:ak) (σ:St) (H:Hp) (o i v:V) (ov iv u:ae) (Q:Hp->Prop),Inv X ah σ H s->RelV o ov->RelV i iv->RelV v u->t o i v H Q ->
  aV (aZ X.prog X.w) X.A (lx ov iv u) (λ_ s'=>∃H',Inv X ah σ H' s'/\Q H') X.xe s
abbrev wM:=V->V->Hp->VK->Prop
def wL (X:Cx)(op:iL)(t:wM):Prop :=
 ∀(ah:List (af×cN)) (s:ak) (σ:St) (H:Hp) (x y:V) (v u:ae) (Q:VK),Inv X ah σ H s->RelV x v->RelV y u->t x y H Q ->
  aV (aZ X.prog X.w) X.A (inplaceOp op v u) (EP X ah σ Q) X.xe s
section
variable {X:Cx}{pos:cD}
def oC (i:Nat):TG:=λv σ H Q=>Q (σ.set i (some v)) H
theorem LK {i:Nat}{x:aR}(hN:X.N.Nodup)(hi:X.N[i]?=some x)(hx:Loc X.env.scope x)(hf:X.fn x=true\/X.env.scope.names.lookup x=some .local:=by first|exact .inl rfl|exact .inr rfl|assumption):PG X (.Name x pos) (oC i):=by
 intro ah s σ H v u Q I r h
 exact wpAny_assign_Name (Cy I hN hi hx r (λs' I'=>⟨_,H,I',h⟩) hf)
def FB:sJ:=λvs σ H Q=>vs=[]/\Q σ H
def Av (t:TG)(u:sJ):sJ:=λvs σ H Q=>∃v r,vs=v::r/\t v σ H λσ' H'=>u r σ' H' Q
theorem LL:wK X [] FB:=by
 intro ah s σ H vs us Q I r h
 obtain⟨e,h⟩:=h
 subst e
 cases r
 exact assignInOrder_nil ⟨σ,H,I,h⟩
theorem Lu {e:Expr}{es:List Expr}{t:TG}{u:sJ}(h1:PG X e t)(h2:wK X es u)
  (hs:(cK (e::es) X.env).map (·.2)=fW e X.env::(cK es X.env).map (·.2):=by rfl):wK X (e::es) (Av t u):=by
 intro ah s σ H vs us Q I r h
 obtain⟨v,vr,e1,h⟩:=h
 subst e1
 cases r with
 |cons r rr=>
  rw[hs]
  refine assignInOrder_cons (dc (h1 ah s σ H _ _ _ I r h) λ_ s1 di=>?_)
  obtain⟨σ1,H1,I1,q1⟩:=di
  exact h2 ah s1 σ1 H1 _ _ Q I1 rr q1
def FD (K:aa)(n:Nat)(t:sJ):TG:=λv σ H Q=>∃a xs,v=.ref a/\gY K H a xs/\xs.length=n/\t xs σ H Q
theorem Mu {es:List Expr}{k:Nat}{t:sJ}{n:Nat}(hc:X.calm=true)(h:wK X es t)
  (hn:(cK es X.env).length=n:=by rfl) (m8:(cK es X.env).findIdx? (·.1)=none:=by rfl):PG X (.Tuple es k pos) (FD X.K n t):=by
 intro ah s σ H v u Q I r hw
 obtain⟨a,xs,e1,hq,hl,hw⟩:=hw
 subst e1
 cases r
 obtain⟨bZ,rv,ht,hz⟩:=I.tuple hq
 refine assign_Tuple_tuple (I.ok.hd hc) ht (by simp[hn,←hl,rv.length]) m8 λh' hx=>?_
 have I1:Inv X ah σ H { s with heap:=h' }:=I.kept (t':=s.toks) λb o e=>hx b o (bc (aJ e)) e
 exact h ah _ σ H xs _ Q I1 (by simpa using rv) hw
def FC (to ti:TE)(t:pM):TG:=λv σ H Q=>to σ H λo H1=>ti σ H1 λi H2=>t o i v H2 λH3=>Q σ H3
theorem Mv {o i:Expr}{to ti:TE}{t:pM}(ho:PE X o to)(hi:PE X i ti)(hs:tS X t)
  (ha:∀v,fW (.Subscript o i pos) X.env v=(do
   let ov ← dQ [v] (bO o X.env)
   let iv ← dQ [v,ov] (bO i X.env)
   fZ pos
   dQ [v,ov,iv] (lx ov iv v)
   pv [v,ov,iv] []):=by intro _;rfl):PG X (.Subscript o i pos) (FC to ti t):=by
 intro ah s σ H v u Q I r h
 rw[ha]
 refine ao (e6 (dc (ho ah s σ H _ I h) λov s1 di=>?_))
 obtain⟨x,H1,I1,r1,q1⟩:=di
 refine ao (e6 (dc (hi ah s1 σ H1 _ I1 q1) λiv s2 di=>?_))
 obtain⟨y,H2,I2,r2,q2⟩:=di
 refine ao (kG (ao (e6 (dc (hs ah s2 σ H2 x y v ov iv u _ I2 r1 r2 r q2) λ_ s3 di=>?_))))
 obtain⟨H3,I3,q3⟩:=di
 exact wpAny_release ⟨σ,H3,I3,q3⟩
def vX (te:TE)(g:TG):TS:=λD σ H=>te σ H λx H1=>g x σ H1 D.nx
theorem HI {tg e:Expr}{te:TE}{g:TG}(he:PE X e te)(hg:PG X tg g)(hs:gc [tg] e pos.line X.env=pure false:=by rfl)(hw:gb [tg] e X.env=pure none:=by rfl)
  (h1:(cK [tg] X.env).map (·.2)=[fW tg X.env]:=by rfl):PS X (.Assign [tg] e pos) (vX te g):=by
 intro ah s σ H D I h
 refine wpAny_Assign_stores (dc (he ah s σ H _ I h) λv s1 ⟨x,H1,I1,r1,q1⟩=>?_) hs hw
 rw[h1]
 exact dc (hg ah s1 σ H1 x v _ I1 r1 q1) λ_ s2 q=>q
theorem VJ {i:Nat}{x:aR}{e:Expr}{te:TE}{pos':cD}(hN:X.N.Nodup)(hi:X.N[i]?=some x)(hx:Loc X.env.scope x)(he:PE X e te)(hs:eA e (some (.Name x pos')) pos.line X.env=pure false:=by rfl)(hf:X.fn x=true\/X.env.scope.names.lookup x=some .local:=by first|exact .inl rfl|exact .inr rfl|assumption) :
  PS X (.Assign [.Name x pos'] e pos) (vX te (oC i)):=by
 intro ah s σ H D I h
 refine wpAny_Assign_Name (dc (he ah s σ H _ I h) λv s1 ⟨y,H1,I1,r1,q1⟩=>?_) hs
 exact Cy I1 hN hi hx r1 (λs2 I2=>⟨_,H1,I2,q1⟩) hf
def G4 (i j:Nat)(ta:TA):TS:=λD σ H=>ta σ H λvs H1=>∃v w,vs=[v,w]/\D.nx ((σ.set i (some v)).set j (some w)) H1
theorem VL {i j:Nat}{x y:aR}{a b:Expr}{ta:TA}{px py pt:cD}{kt k2 lK}(hc:X.calm=true)(hN:X.N.Nodup)(hi:X.N[i]?=some x)(hj:X.N[j]?=some y)(nF:i≠j)
    (hx:X.env.scope.names.lookup x=some .local) (hy:X.env.scope.names.lookup y=some .local) (ha:PA X [a,b] ta)
    (hw:gb [.Tuple [.Name x px,.Name y py] kt pt] (.Tuple [a,b] k2 lK) X.env=pure (some [x,y]))
    (hs:gc [.Tuple [.Name x px,.Name y py] kt pt] (.Tuple [a,b] k2 lK) pos.line X.env=pure false:=by rfl) :
    PS X (.Assign [.Tuple [.Name x px,.Name y py] kt pt] (.Tuple [a,b] k2 lK) pos) (G4 i j ta):=by
  intro ah s σ H D I h
  rw[exec_Assign_arm]
  refine ao (kG ?_)
  rw[hs]
  refine ao (aB ?_)
  rw[if_neg (by decide)]
  refine ao (Tuple_ (dc (ha _ ah s σ H _ I h) λus s1 di=>?_))
  obtain⟨vs,H1,I1,r1,q1⟩:=di
  obtain⟨v,w,e1,q1⟩:=q1
  subst e1
  obtain⟨u1,u2,rfl,rv,n8⟩:∃u1 u2,us=[u1,u2]/\RelV v u1/\RelV w u2:=by
    cases r1 with
    |cons p q=>
      cases q with
      |cons p' q'=>
        cases q'
        exact⟨_,_,rfl,p,p'⟩
  refine cF ?_ (by show 2<=sizeLine;decide)
  have I2:Inv X ah σ H1 { s1 with heap:=s1.heap.push { cls:=.type "tuple",data:=.seq [u1,u2].toArray } }:=I1.kept (t':=s1.toks) λb o e=>aC _ e
  rw[hw]
  refine ao (aB ?_)
  show aV (aZ X.prog X.w) X.A (do rule "assign.swapped-stores";let items ← unpackItems (.ref s1.heap.objs.size) 2 none;assignInOrder [λv=>bindName X.env y v,λv=>bindName X.env x v] items.reverse;pure Flow.next) _ _ _
  refine ao (wpAny_rule (ao (unpackItems_tuple (items:=#[u1,u2]) (I.ok.hd hc) (IsTup.new s1.heap _) λh' Dp=>?_)))
  have I3:=I2.kept (h':=h') (t':=s1.toks) λb o e=>Dp b o (bc (aJ e)) e
  show aV _ _ (assignInOrder [λv=>bindName X.env y v,λv=>bindName X.env x v] [u2,u1] >>= λ_=>pure Flow.next) _ _ _
  refine ao (assignInOrder_cons (wpAny_bindName (Cy I3 hN hj (.inl hy) n8 (λs2 I4=>?_) (.inr hy))))
  refine assignInOrder_cons (wpAny_bindName (Cy I4 hN hi (.inl hx) rv (λs3 I5=>assignInOrder_nil (aB ?_)) (.inr hx)))
  rw[List.set_comm _ _ (Ne.symm nF)]at I5
  exact⟨_,H1,I5,q1⟩
def GW (i:Nat)(te:TE)(ti:wM):TS:=λD σ H=>∃x,σ[i]?=some (some x)/\te σ H λy H1=>ti x y H1 λz H2=>D.nx (σ.set i (some z)) H2
theorem VM {i:Nat}{x:aR}{e:Expr}{te:TE}{op:iL}{ti:wM}{pos':cD}(hN:X.N.Nodup)(hi:X.N[i]?=some x)(hx:Loc X.env.scope x)(he:PE X e te)(ho:wL X op ti)(hf:X.fn x=true\/X.env.scope.names.lookup x=some .local:=by first|exact .inl rfl|exact .inr rfl|assumption) :
  PS X (.AugAssign (.Name x pos') op e pos) (GW i te ti):=by
 intro ah s σ H D I h
 obtain⟨v,e1,h⟩:=h
 obtain⟨m,hn,hl⟩:=I.loc
 have QX:pC X.env.scope x:=by rcases hx with k|k;exact .inl k;exact .inr (.inl k)
 obtain⟨u,r,l⟩:=hl i x v hi e1 QX
 refine wpAny_AugAssign_Name ?_
 have go:aV (aZ X.prog X.w) X.A (bO e X.env) (λw s₂=>aV (aZ X.prog X.w) X.A (inplaceOp op u w) (λr s₃=>aV (aZ X.prog X.w) X.A (storeName X.env x r) (λ_=>SP X ah D .next) X.xe s₃) X.xe s₂) X.xe s:=by
  refine dc (he ah s σ H _ I h) λw s1 di=>?_
  obtain⟨y,H1,I1,r1,q1⟩:=di
  refine dc (ho ah s1 σ H1 v y u w _ I1 r r1 q1) λz s2 di=>?_
  obtain⟨zv,H2,I2,r2,q2⟩:=di
  exact Cy I2 hN hi hx r2 (λs3 I3=>⟨_,H2,I3,q2⟩) hf
 rcases l with⟨hk,hm⟩|⟨hk,c,hc,oE⟩
 ·exact wpAny_loadName_local I.ok.kind hk hn hm go
 ·rcases hk with hk|hk
  ·exact wpAny_loadName_cell I.ok.kind hk hc oE go
  ·rcases hx with k|k
   ·have:X.env.scope.names.lookup x=some .free:=hk
    rw[k]at this;cases this
   ·have:X.env.scope.names.lookup x=some .free:=hk
    rw[k]at this;cases this
def Cg (to ti te:TE)(se:V->V->Hp->VK->Prop)(DE:wM)(sf:pM):TS:=λD σ H=>to σ H λo H1=>ti σ H1 λi H2=>se o i H2 λx H3=>te σ H3 λy H4=>DE x y H4 λz H5=>sf o i z H5 λH6=>D.nx σ H6
def xQ (X:Cx)(t:V->V->Hp->VK->Prop):Prop :=
 ∀(ah:List (af×cN)) (s:ak) (σ:St) (H:Hp) (o i:V) (ov iv:ae) (Q:VK),Inv X ah σ H s->RelV o ov->RelV i iv->t o i H Q ->
  aV (aZ X.prog X.w) X.A (mR ov iv) (EP X ah σ Q) X.xe s
theorem Ui {o i e:Expr}{to ti te:TE}{se:V->V->Hp->VK->Prop}{DE:wM}{sf:pM}{op:iL}{fT:cD}(ho:PE X o to)(hi:PE X i ti)(hg:xQ X se)(he:PE X e te)(hp:wL X op DE)(hs:tS X sf)
  (ha:∀ov iv new,augStore i ov iv new=(do dQ [new,ov,iv] (lx ov iv new);pv [new,ov,iv] [];pure .next):=by intros;rfl):PS X (.AugAssign (.Subscript o i fT) op e pos) (Cg to ti te se DE sf):=by
 intro ah s σ H D I h
 refine wpAny_AugAssign_SubscriptAny (dc (ho ah s σ H _ I h) λov s1 ⟨x1,H1,I1,r1,q1⟩=>?_) ha
 refine dc (hi ah s1 σ H1 _ I1 q1) λiv s2 di=>?_
 obtain⟨x2,H2,I2,r2,q2⟩:=di
 refine dc (hg ah s2 σ H2 x1 x2 ov iv _ I2 r1 r2 q2) λold s3 di=>?_
 obtain⟨x3,H3,I3,r3,q3⟩:=di
 refine dc (he ah s3 σ H3 _ I3 q3) λv s4 di=>?_
 obtain⟨x4,H4,I4,r4,q4⟩:=di
 refine dc (hp ah s4 σ H4 x3 x4 old v _ I4 r3 r4 q4) λnew s5 di=>?_
 obtain⟨x5,H5,I5,r5,q5⟩:=di
 exact dc (hs ah s5 σ H5 x1 x2 x5 ov iv new _ I5 r1 r2 r5 q5) λ_ s6 ⟨H6,I6,q6⟩=>⟨σ,H6,I6,q6⟩
def Ds (f:Int->Int->Int):wM:=λx y H Q=>∃i j,x=.int i/\y=.int j/\Q (.int (f i j)) H
theorem Mw:wL X .Add (Ds λi j=>i+j):=by
 intro ah s σ H x y v u Q I r1 r2 h
 obtain⟨i,j,e1,e2,q⟩:=h
 subst e1;subst e2
 obtain⟨t,rfl⟩:=r1
 obtain⟨t',rfl⟩:=r2
 exact iadd_int ⟨.int _,H,I.tok _,⟨_,rfl⟩,q⟩
theorem VN:wL X .Sub (Ds λi j=>i-j):=by
 intro ah s σ H x y v u Q I r1 r2 h
 obtain⟨i,j,e1,e2,q⟩:=h
 subst e1;subst e2
 obtain⟨t,rfl⟩:=r1
 obtain⟨t',rfl⟩:=r2
 exact isub_int ⟨.int _,H,I.tok _,⟨_,rfl⟩,q⟩
end
section
variable {X:Cx}{pos:cD}
def wC (c:TT)(tb:TS):TS:=λD σ H=>∃W:Nat->St->Hp->Prop,(∃m,W m σ H)/\∀m σ H,W m σ H ->
 c σ H λb H1=>if b=true then∃N:St->Hp->Prop,(∀σ' H',N σ' H'->∃m',m'<m/\W m' σ' H')/\tb { D with nx:=N,ct:=N,bk:=D.nx } σ H1 else D.nx σ H1
theorem Tj {c:Expr}{body:List bN}{tc:TT}{tb:TS}(hp:cx (aZ X.prog X.w) X.A X.env X.xe)(hc:PT X c tc)(hb:oA X body tb):PS X (.While c body [] pos) (wC tc tb):=by
 intro ah s σ H D I h
 obtain⟨W,⟨m0,w0⟩,mF⟩:=h
 refine wpAny_While (codeAny_whileLoop (λn s'=>∃σ' H',Inv X ah σ' H' s'/\W n σ' H') ?_ m0 ⟨σ,H,I,w0⟩)
 rintro n s1 ⟨σ1,H1,I1,w1⟩
 refine eu hp (dc (hc ah s1 σ1 H1 _ I1 (mF n σ1 H1 w1)) λb s2 di=>?_)
 obtain⟨H2,I2,q2⟩:=di
 cases b with
 |true=>
  obtain⟨N,hN,q2⟩:=q2
  rw[if_pos rfl]
  refine eu hp (dc (hb ah s2 σ1 H2 _ I2 q2) λf s3 q3=>?_)
  cases f with
  |next=>
   obtain⟨σ3,H3,I3,n3⟩:=q3
   obtain⟨m',hm,w3⟩:=hN σ3 H3 n3
   exact⟨m',hm,σ3,H3,I3,w3⟩
  |cont=>
   obtain⟨σ3,H3,I3,n3⟩:=q3
   obtain⟨m',hm,w3⟩:=hN σ3 H3 n3
   exact⟨m',hm,σ3,H3,I3,w3⟩
  |brk=>exact q3
  |ret v=>exact q3
 |false=>
  rw[if_neg aX]
  exact i7 ⟨σ1,H2,I2,q2⟩
end
structure It where
 go:Nat->Hp->Prop
 yld:Nat->Hp->V->Hp->Prop
 stop:Nat->Hp->Prop
def jL (X:Cx)(ah:List (af×cN))(H:Hp)(b:af):Prop :=
 H b=none/\b≠X.env.locals/\b∉X.fs/\(b∈X.ex\/X.s₀.heap.objs.size<=b)/\(∀x c,X.env.cells.lookup x=some c->c≠b)/\∀p∈X.pn++ah,p.1≠b
theorem Inv.fpOk {X:Cx}{ah:List (af×cN)}{σ:St}{H H':Hp}{s:ak}{b:af}(I:Inv X ah σ H s)(hb:s.heap.objs.size<=b)(hn:H' b=none):jL X ah H' b:=by
 refine⟨hn,Nat.ne_of_gt (bu I.lt hb),I.nofs hb,.inr (bS I.sz hb),λx c e z=>?_,λp hp z=>?_⟩
 ·obtain⟨v,q⟩:=I.cell x c e
  exact absurd (bu q.lt (by rw[z];exact hb)) (ee _)
 ·exact absurd (bu (aJ (I.pin p hp).1) (by rw[z];exact hb)) (ee _)
structure Turn (P:bg)(w:bE)(K:aa)(tg:Expr)(J:It)(fp:List af)(it:af)(tn:Nat->aK->Prop):Prop where
 mem:it∈fp
 obj:∀i h,tn i h->∀b∈fp,∃o,h.get? b=some o/\∀v,o.data≠.cell v
 keep:∀i h h',tn i h->(∀b∈fp,∀o,h.get? b=some o->h'.get? b=some o)->tn i h'
 item:∀(X:Cx),X.prog=P->X.w=w->X.K=K->X.calm=true->∀(i:Nat) (ah:List (af×cN)) (s:ak) (σ:St) (H:Hp) (E:ae->ak->Prop),Inv X ah σ H s->(∀b∈fp,jL X ah H b)->tn i s.heap->J.go i H ->
  aV (aZ P w) X.A (pyNext (.ref it)) (λr s1=>∃u,r=some u /\
   aV (aZ P w) X.A (gx tg (.ref it) u) (λ_ s2=>∃x H',Inv X ah σ H' s2/\RelV x u/\J.yld i H x H'/\tn (i+1) s2.heap/\∀b∈fp,H' b=none) E s1) E s
 done:∀(X:Cx),X.prog=P->X.w=w->X.K=K->X.calm=true->∀(i:Nat) (ah:List (af×cN)) (s:ak) (σ:St) (H:Hp) (E:ae->ak->Prop),Inv X ah σ H s->(∀b∈fp,jL X ah H b)->tn i s.heap->J.stop i H ->
  aV (aZ P w) X.A (pyNext (.ref it)) (λr s1=>r=none/\Inv X ah σ H s1) E s
 self:∀(A:bv) (i:Nat) (s:ak) (Q:ae->ak->Prop) (E:ae->ak->Prop),tn i s.heap->Q (.ref it) s->aV (aZ P w) A (pyIter (.ref it)) Q E s
abbrev TI:=St->Hp->(It->Hp->Prop)->Prop
def Ib (X:Cx)(ah:List (af×cN))(σ:St)(tg:Expr)(R:It->Hp->Prop)(Du:ae)(s2:ak):Prop :=
 ∃(it:af) (fp:List af) (tn:Nat->aK->Prop) (J:It) (H':Hp),Du=.ref it/\Inv X ah σ H' s2/\Turn X.prog X.w X.K tg J fp it tn/\tn 0 s2.heap/\(∀b∈fp,jL X ah H' b)/\R J H'
def PI (X:Cx)(tg iter:Expr)(wi:TI):Prop :=
 ∀(ah:List (af×cN)) (s:ak) (σ:St) (H:Hp) (R:It->Hp->Prop),Inv X ah σ H s->wi σ H R ->
  aV (aZ X.prog X.w) X.A (bO iter X.env) (λv s1=>aV (aZ X.prog X.w) X.A (pyIter v) (Ib X ah σ tg R) X.xe s1) X.xe s
theorem CO {M:Model}{A:bv}{E:ae->ak->Prop}{s:ak}{tg:Expr}{it:af}{u:ae}{o:cN}{n:String}{vs:Array ae}{Q:Unit->ak->Prop}(ho:s.heap.get? it=some o)(hc:o.cls=.type n)(hd:o.data=.fields vs)
    (hn:["enumerate","zip","dict_itemiterator","dict_reverseitemiterator","odict_iterator","itertools.zip_longest","itertools.pairwise"].contains n=false) (hQ:Q () s):aV M A (gx tg (.ref it) u) Q E s:=by
  unfold gx
  cases tg<;>first
    |exact aB hQ
    |(cases u<;>first
        |exact aB hQ
        |(refine ao (wpAny_load ho ?_)
          rw[hc,hd]
          show aV M A (if(["enumerate","zip","dict_itemiterator","dict_reverseitemiterator","odict_iterator","itertools.zip_longest","itertools.pairwise"].contains n&&vs[0]?==some (rawInt _))=true then _ else _) Q E s
          rw[if_neg (by intro h;rw[hn,Bool.false_and]at h;cases h)]
          exact aB hQ))
def Ey (K:aa)(a:af):It :=
 ⟨λi H=>∃xs x,fm K H a xs/\xs[i]?=some x,λi H x H'=>H'=H/\∀xs,fm K H a xs->xs[i]?=some x,λi H=>∃xs,fm K H a xs/\xs.length<=i⟩
def EB (K:aa)(a:af):It :=
 ⟨λi H=>∃xs x,gY K H a xs/\xs[i]?=some x,λi H x H'=>H'=H/\∀xs,gY K H a xs->xs[i]?=some x,λi H=>∃xs,gY K H a xs/\xs.length<=i⟩
def xN (lo:Int)(n:Nat):It:=⟨λi _=>i<n,λi H x H'=>H'=H/\x=.int (lo+i),λi _=>n<=i⟩
theorem RY {P:bg}{w:bE}{K:aa}{tg:Expr}(a it:af):Turn P w K tg (Ey K a) [it] it (λi h=>h.IsListIter it a i) where
 mem:=by simp
 obj:=λi h st b hb=>by
  have e:b=it:=by simpa using hb
  subst e
  obtain⟨o,e,c,d⟩:=st
  exact⟨o,e,λv z=>by rw[d]at z;cases z⟩
 keep:=λi h h' st k=>st.at λo e=>k it (by simp) o e
 item:=by
  intro X hP hw hK hc i ah s σ H E I hf st hg
  subst hP hw hK
  obtain⟨xs,x,hq,hx⟩:=hg
  obtain⟨bZ,rv,p,hz⟩:=I.list hq
  obtain⟨u,hu,ru⟩:=rv.get hx
  obtain⟨f0,f1,f2,f3,f4,f5⟩:=hf it (by simp)
  refine wpAny_pyNext_list_item st p.isList (x:=u) (by simpa using hu) λh' kC sb=>?_
  have I1:Inv X ah σ H { s with heap:=h' }:=I.turned (t':=s.toks) (λb o hb e=>(sb.2 b hb).trans e) f0 f1 f3 f4 f5
  obtain⟨o,e,c,d⟩:=id kC
  exact⟨u,rfl,CO (s:={ s with heap:=h' }) e c d (by decide) ⟨x,H,I1,ru,⟨rfl,λys hy=>by rw[I.list_inj hy hq];exact hx⟩,kC,λb hb=>(hf b hb).1⟩⟩
 done:=by
  intro X hP hw hK hc i ah s σ H E I hf st hg
  subst hP hw hK
  obtain⟨xs,hq,hx⟩:=hg
  obtain⟨bZ,rv,p,hz⟩:=I.list hq
  obtain⟨f0,f1,f2,f3,f4,f5⟩:=hf it (by simp)
  have hl:=rv.length
  exact wpAny_pyNext_list_end (I.ok.hd hc) st p.isList (by simp;omega) λh' eb=>⟨rfl,I.turned (t':=s.toks) (λb o hb e=>eb b o hb e) f0 f1 f3 f4 f5⟩
 self:=λ_ _ _ _ _ st h=>wpAny_pyIter_listiter st h
theorem RZ {P:bg}{w:bE}{K:aa}{tg:Expr}(a it:af):Turn P w K tg (EB K a) [it] it (λi h=>h.IsTupleIter it a i) where
 mem:=by simp
 obj:=λi h st b hb=>by
  have e:b=it:=by simpa using hb
  subst e
  obtain⟨o,e,c,d⟩:=st
  exact⟨o,e,λv z=>by rw[d]at z;cases z⟩
 keep:=λi h h' st k=>st.at λo e=>k it (by simp) o e
 item:=by
  intro X hP hw hK hc i ah s σ H E I hf st hg
  subst hP hw hK
  obtain⟨xs,x,hq,hx⟩:=hg
  obtain⟨bZ,rv,p,hz⟩:=I.tuple hq
  obtain⟨u,hu,ru⟩:=rv.get hx
  obtain⟨f0,f1,f2,f3,f4,f5⟩:=hf it (by simp)
  refine wpAny_pyNext_tuple_item st (show s.heap.IsTuple a bZ.toArray from p) (x:=u) (by simpa using hu) λh' kC sb=>?_
  have I1:Inv X ah σ H { s with heap:=h' }:=I.turned (t':=s.toks) (λb o hb e=>(sb.2 b hb).trans e) f0 f1 f3 f4 f5
  obtain⟨o,e,c,d⟩:=id kC
  exact⟨u,rfl,CO (s:={ s with heap:=h' }) e c d (by decide) ⟨x,H,I1,ru,⟨rfl,λys hy=>by rw[I.tuple_inj hy hq];exact hx⟩,kC,λb hb=>(hf b hb).1⟩⟩
 done:=by
  intro X hP hw hK hc i ah s σ H E I hf st hg
  subst hP hw hK
  obtain⟨xs,hq,hx⟩:=hg
  obtain⟨bZ,rv,p,hz⟩:=I.tuple hq
  obtain⟨f0,f1,f2,f3,f4,f5⟩:=hf it (by simp)
  have hl:=rv.length
  exact wpAny_pyNext_tuple_end (I.ok.hd hc) st (show s.heap.IsTuple a bZ.toArray from p) (by simp;omega) λh' eb=>⟨rfl,I.turned (t':=s.toks) (λb o hb e=>eb b o hb e) f0 f1 f3 f4 f5⟩
 self:=λ_ _ _ _ _ st h=>wpAny_pyIter_tupleiter st h
theorem R3 {P:bg}{w:bE}{K:aa}{tg:Expr}(it:af)(lo:Int)(n:Nat):Turn P w K tg (xN lo n) [it] it (λi h=>IsRangeIter h it (lo+(i:Nat)*1) ((n:Int)-(i:Nat)) 1) where
 mem:=by simp
 obj:=λi h st b hb=>by
  have e:b=it:=by simpa using hb
  subst e
  exact⟨_,st,λv z=>by
   have z':oq.fields _=oq.cell v:=z
   cases z'⟩
 keep:=λi h h' st k=>k it (by simp) _ st
 item:=by
  intro X hP hw hK hc i ah s σ H E I hf st hg
  subst hP hw hK
  obtain⟨f0,f1,f2,f3,f4,f5⟩:=hf it (by simp)
  have W:=Walks.range (prog:=X.prog) (w:=X.w) (I.ok.hd hc) it lo 1 n
  refine W.item i s _ _ hg st λv h' tk hv kC kk=>?_
  obtain⟨t,rfl⟩:=hv
  have I1:Inv X ah σ H { s with heap:=h',toks:=tk }:=I.turned (λb o hb e=>kk b o (by simpa using hb) e) f0 f1 f3 f4 f5
  refine⟨_,rfl,CO (s:={ s with heap:=h',toks:=tk }) (n:="range_iterator") kC rfl rfl (by decide) ⟨.int (lo+i),H,I1,⟨t,?_⟩,⟨rfl,rfl⟩,kC,λb hb=>(hf b hb).1⟩⟩
  rw[Int.mul_one]
 done:=by
  intro X hP hw hK hc i ah s σ H E I hf st hg
  subst hP hw hK
  obtain⟨f0,f1,f2,f3,f4,f5⟩:=hf it (by simp)
  exact wpAny_pyNext_range_end (I.ok.hd hc) st (by have:n<=i:=hg;omega) λh' eb=>⟨rfl,I.turned (t':=s.toks) (λb o hb e=>eb b o hb e) f0 f1 f3 f4 f5⟩
 self:=λ_ _ _ _ _ st h=>wpAny_pyIter_rangeiter st h
end L2
namespace L2
open PySem PySem.Spec PyProof.Rows
section
variable {X:Cx}{tg:Expr}
def AU (K:aa)(tl:TE):TI:=λσ H R=>tl σ H λx H1=>∃a,x=.ref a/\(∃xs,fm K H1 a xs)/\R (Ey K a) H1
def Gv (K:aa)(tl:TE):TI:=λσ H R=>tl σ H λx H1=>∃a,x=.ref a/\(∃xs,gY K H1 a xs)/\R (EB K a) H1
theorem LM {l:Expr}{tl:TE}(hl:PE X l tl):PI X tg l (AU X.K tl):=by
 intro ah s σ H R I h
 refine dc (hl ah s σ H _ I h) λv s1 di=>?_
 obtain⟨x,H1,I1,r1,q1⟩:=di
 obtain⟨a,e,⟨xs,hq⟩,q⟩:=q1
 subst e
 cases r1
 obtain⟨bZ,rv,p,hz⟩:=I1.list hq
 refine wpAny_pyIter_list p.isList ?_
 refine⟨s1.heap.objs.size,[s1.heap.objs.size],_,_,H1,rfl,I1.kept (t':=s1.toks) λb o e=>aC _ e,RY a _,⟨_,bq _ rfl,rfl,rfl⟩,λb hb=>?_,q⟩
 have e:b=s1.heap.objs.size:=by simpa using hb
 subst e
 exact I1.fpOk (av _) (I1.hok.fresh (av _))
theorem VO {l:Expr}{tl:TE}(hl:PE X l tl):PI X tg l (Gv X.K tl):=by
 intro ah s σ H R I h
 refine dc (hl ah s σ H _ I h) λv s1 di=>?_
 obtain⟨x,H1,I1,r1,q1⟩:=di
 obtain⟨a,e,⟨xs,hq⟩,q⟩:=q1
 subst e
 cases r1
 obtain⟨bZ,rv,p,hz⟩:=I1.tuple hq
 refine wpAny_pyIter_tuple (show s1.heap.IsTuple a bZ.toArray from p) ?_
 refine⟨s1.heap.objs.size,[s1.heap.objs.size],_,_,H1,rfl,I1.kept (t':=s1.toks) λb o e=>aC _ e,RZ a _,⟨_,bq _ rfl,rfl,rfl⟩,λb hb=>?_,q⟩
 have e:b=s1.heap.objs.size:=by simpa using hb
 subst e
 exact I1.fpOk (av _) (I1.hok.fresh (av _))
theorem Lv {ah:List (af×cN)}{σ:St}{H:Hp}{s:ak}{R:It->Hp->Prop}{E:ae->ak->Prop}{lo hi:Int}{t u v:Tok}{tk:Nat}(I:Inv X ah σ H s)(h1:-(2 ^ 62)<=lo)(h2:lo<2 ^ 62)(h3:-(2 ^ 62)<=hi)(h4:hi<2 ^ 62)
    (q:R (xN lo (hi-lo).toNat) H):aV (aZ X.prog X.w) X.A (pyIter (.ref s.heap.objs.size)) (Ib X ah σ tg R) E { s with heap:=s.heap.push { cls:=.type "range",data:=.fields #[.int lo t,.int hi u,.int 1 v] },toks:=tk }:=by
  refine wpAny_pyIter_range (IsRange.new ..) (small_one h1 h2 h3 h4) ?_
  have I1:Inv X ah σ H { s with heap:=s.heap.push { cls:=.type "range",data:=.fields #[.int lo t,.int hi u,.int 1 v] },toks:=tk }:=I.kept λb o e=>aC _ e
  refine⟨(s.heap.push { cls:=.type "range",data:=.fields #[.int lo t,.int hi u,.int 1 v] }).objs.size,[(s.heap.push { cls:=.type "range",data:=.fields #[.int lo t,.int hi u,.int 1 v] }).objs.size],_,_,H,rfl,
    I1.kept (t':=tk) λb o e=>aC _ e,R3 _ lo (hi-lo).toNat,?_,λb hb=>?_,q⟩
  · have e1:lo+((0:Nat):Int)*1=lo:=by simp
    have e2:(((hi-lo).toNat:Nat):Int)-((0:Nat):Int)=cr.Range.rangeSize lo hi 1:=by rw[rangeSize_one];split<;>omega
    show IsRangeIter _ _ (lo+((0:Nat):Int)*1) ((((hi-lo).toNat:Nat):Int)-((0:Nat):Int)) 1
    rw[e1,e2]
    exact bq _ rfl
  · have e:b=(s.heap.push { cls:=.type "range",data:=.fields #[.int lo t,.int hi u,.int 1 v] }).objs.size:=by simpa using hb
    subst e
    exact I1.fpOk (av _) (I1.hok.fresh (av _))
def AV (ta:TA):TI:=λσ H R=>ta σ H λvs H1=>∃j:Int,vs=[.int j]/\-(2 ^ 62)<=j/\j<2 ^ 62/\R (xN 0 j.toNat) H1
def AW (ta:TA):TI:=λσ H R=>ta σ H λvs H1=>∃i j:Int,vs=[.int i,.int j]/\(-(2 ^ 62)<=i/\i<2 ^ 62/\-(2 ^ 62)<=j/\j<2 ^ 62)/\R (xN i (j-i).toNat) H1
theorem Su {a:Expr}{ta:TA}{p pos:cD}(hg:Gl X "range")(hm:X.mg "range"=none)(ha:PA X [a] ta)(hs:ax [a] X.env=[(false,bO a X.env)]:=by rfl):PI X tg (.Call (.Name "range" p) [a] [] pos) (AV ta):=by
 intro ah s σ H R I h
 refine Call_ (wI I hg hm boot_range (dg (dc (ha pos ah s σ H _ I h) λus s1 ⟨vs,H1,I1,r1,q1⟩=>?_) hs rfl))
 obtain⟨j,e,q1,q2,q⟩:=q1
 subst e
 cases r1 with
 |cons r rr=>
  cases rr
  obtain⟨t,rfl⟩:=r
  exact call_range_1 (Lv I1 (by omega) (by omega) q1 q2 (by simpa using q))
theorem Sv {a b:Expr}{ta:TA}{p pos:cD}(hg:Gl X "range")(hm:X.mg "range"=none)(ha:PA X [a,b] ta)(hs:ax [a,b] X.env=[(false,bO a X.env),(false,bO b X.env)]:=by rfl)(p4:ax [b] X.env=[(false,bO b X.env)]:=by rfl) :
  PI X tg (.Call (.Name "range" p) [a,b] [] pos) (AW ta):=by
 intro ah s σ H R I h
 refine Call_ (wI I hg hm boot_range (dg (dc (ha pos ah s σ H _ I h) λus s1 ⟨vs,H1,I1,r1,q1⟩=>?_) (by rw[hs,p4]) (by rw[p4];rfl)))
 obtain⟨i,j,e,⟨q1,q2,q3,q4⟩,q⟩:=q1
 subst e
 cases r1 with
 |cons r rr=>
  cases rr with
  |cons r' rr=>
   cases rr
   obtain⟨t,rfl⟩:=r
   obtain⟨t',rfl⟩:=r'
   exact call_range_2 (Lv I1 q1 q2 q3 q4 q)
def GZ (wi:TI)(g:TG)(tb:TS):TS:=λD σ H=>wi σ H λJ H1=>∃W:Nat->Nat->St->Hp->Prop,(∃m,W 0 m σ H1)/\∀i m σ H,W i m σ H ->
 (J.stop i H/\D.nx σ H)\/(J.go i H/\∃N:St->Hp->Prop,(∀σ' H',N σ' H'->∃m',m'<m/\W (i+1) m' σ' H')/\∀x H',J.yld i H x H'->g x σ H' λσ2 H2=>tb { D with nx:=N,ct:=N,bk:=D.nx } σ2 H2)
def kb (fp:List af)(h:aK):List (af×cN):=fp.filterMap λb=>(h.get? b).map λo=>(b,o)
theorem v3 {fp:List af}{h:aK}{b:af}{o:cN}(hb:b∈fp)(e:h.get? b=some o):(b,o)∈kb fp h:=oK.mpr ⟨b,hb,by rw[e];rfl⟩
theorem Sw {fp:List af}{h:aK}{p:af×cN}(hp:p∈kb fp h):p.1∈fp/\h.get? p.1=some p.2:=by
 obtain⟨b,hb,e⟩:=oK.mp hp
 cases q:h.get? b with
 |none=>rw[q]at e;cases e
 |some o=>
  rw[q]at e
  have e':(b,o)=p:=Option.some.inj e
  subst e'
  exact⟨hb,q⟩
theorem Inv.pinned {ah:List (af×cN)}{σ:St}{H:Hp}{s:ak}{fp:List af}(I:Inv X ah σ H s)(hf:∀b∈fp,jL X ah H b)(ho:∀b∈fp,∃o,s.heap.get? b=some o/\∀v,o.data≠.cell v):Inv X (ah++kb fp s.heap) σ H s :=
 I.pins_of λp hp=>(aM.mp hp).elim (λz=>I.pin p (ay _ z)) λz=>by
  obtain⟨hb,e⟩:=Sw z
  obtain⟨f0,f1,f2,_⟩:=hf p.1 hb
  obtain⟨o,e',d⟩:=ho p.1 hb
  rw[e]at e';cases e'
  exact⟨e,f0,f1,f2,d⟩
theorem Inv.unpinned {ah pl:List (af×cN)}{σ:St}{H:Hp}{s:ak}(I:Inv X (ah++pl) σ H s):Inv X ah σ H s:=I.pins_of λp hp=>I.pin p (ay _ (aS _ hp))
theorem VP {iter:Expr}{body:List bN}{wi:TI}{g:TG}{tb:TS}{pos:cD}(hp:cx (aZ X.prog X.w) X.A X.env X.xe)(hc:X.calm=true)(hi:PI X tg iter wi)(hg:PG X tg g)(hb:oA X body tb)
  (hs:∀x,dq iter X.env x=pure x:=by intro _;rfl):PS X (.For tg iter body [] pos) (GZ wi g tb):=by
 intro ah s σ H D I h
 refine wpAny_For (dc (hi ah s σ H _ I h) λv s1 h1=>dc h1 λDu s2 h2=>?_) hs
 obtain⟨it,fp,tn,J,H2,e,I2,T,rj,f2,W,⟨m0,w0⟩,mF⟩:=h2
 subst e
 have lm:∀{H':Hp},(∀b∈fp,H' b=none)->∀b∈fp,jL X ah H' b:=λhn b hb=>⟨hn b hb,(f2 b hb).2⟩
 refine codeAny_forLoop_any (λn s'=>∃i σ' H',Inv X ah σ' H' s'/\tn i s'.heap/\(∀b∈fp,H' b=none)/\W i n σ' H') ?_ m0 ⟨0,σ,H2,I2,rj,λb hb=>(f2 b hb).1,w0⟩
 rintro n s3 ⟨i,σ3,H3,I3,JV,IQ,w3⟩
 rcases mF i n σ3 H3 w3 with⟨stop,qn⟩|⟨go,N,hN,step⟩
 ·refine eu hp (dc (T.done X rfl rfl rfl hc i ah s3 σ3 H3 X.xe I3 (lm IQ) JV stop) λr s4 di=>?_)
  obtain⟨hr,I4⟩:=di
  subst hr
  exact i7 ⟨σ3,H3,I4,qn⟩
 ·refine eu hp (dc (T.item X rfl rfl rfl hc i ah s3 σ3 H3 X.xe I3 (lm IQ) JV go) λr s4 di=>?_)
  obtain⟨u,hr,h4⟩:=di
  subst hr
  refine eu hp (dc h4 λ_ s5 di=>?_)
  obtain⟨x,H5,I5,r5,y5,rY,uV⟩:=di
  have Nm:=I5.pinned (lm uV) (T.obj _ _ rY)
  refine eu hp (dc (hg _ s5 σ3 H5 x u _ Nm r5 (step x H5 y5)) λ_ s6 di=>?_)
  obtain⟨σ6,H6,I6,q6⟩:=di
  refine eu hp (dc (hb _ s6 σ6 H6 _ I6 q6) λf s7 q7=>?_)
  have again:∀{σ7:St} {H7:Hp},Inv X (ah++kb fp s5.heap) σ7 H7 s7->N σ7 H7->∃m,m<n/\∃i σ' H',Inv X ah σ' H' s7/\tn i s7.heap/\(∀b∈fp,H' b=none)/\W i m σ' H':=λ{σ7 H7} I7 n7=>by
   obtain⟨m',hm,w7⟩:=hN σ7 H7 n7
   refine⟨m',hm,i+1,σ7,H7,I7.unpinned,T.keep _ _ _ rY λb hb o e=>(I7.pin (b,o) (ay _ (ay _ (v3 hb e)))).1,λb hb=>?_,w7⟩
   obtain⟨o,e,d⟩:=T.obj _ _ rY b hb
   exact(I7.pin (b,o) (ay _ (ay _ (v3 hb e)))).2.1
  cases f with
  |next=>obtain⟨σ7,H7,I7,n7⟩:=q7;exact again I7 n7
  |cont=>obtain⟨σ7,H7,I7,n7⟩:=q7;exact again I7 n7
  |brk=>obtain⟨σ7,H7,I7,q7⟩:=q7;exact⟨σ7,H7,I7.unpinned,q7⟩
  |ret v=>obtain⟨x7,σ7,H7,I7,r7,q7⟩:=q7;exact⟨x7,σ7,H7,I7.unpinned,r7,q7⟩
end
end L2
namespace L2
open PySem PySem.Spec PyProof.Rows
abbrev R2:=V->V->Hp->VK->Prop
def fw (X:Cx)(f:ae->ae->mQ ae)(r:R2):Prop :=
 ∀(ah:List (af×cN)) (s:ak) (σ:St) (H:Hp) (x y:V) (v u:ae) (Q:VK),Inv X ah σ H s->RelV x v->RelV y u->r x y H Q ->
  aV (aZ X.prog X.w) X.A (f v u) (EP X ah σ Q) X.xe s
def CY (X:Cx)(f:ae->mQ ae)(r:V->Hp->VK->Prop):Prop :=
 ∀(ah:List (af×cN)) (s:ak) (σ:St) (H:Hp) (x:V) (v:ae) (Q:VK),Inv X ah σ H s->RelV x v->r x H Q ->
  aV (aZ X.prog X.w) X.A (f v) (EP X ah σ Q) X.xe s
def eo (X:Cx)(f:ae)(r:List V->Hp->VK->Prop):Prop :=
 ∀(ah:List (af×cN)) (s:ak) (σ:St) (H:Hp) (xs:List V) (us:List ae) (Q:VK),Inv X ah σ H s->bT xs us->r xs H Q ->
  aV (aZ X.prog X.w) X.A (call f us) (EP X ah σ Q) X.xe s
def DA (r:R2)(ta tb:TE):TE:=λσ H Q=>ta σ H λx H1=>tb σ H1 λy H2=>r x y H2 Q
def QM (r:V->Hp->VK->Prop)(ta:TE):TE:=λσ H Q=>ta σ H λx H1=>r x H1 Q
def rI (C:Int->Int->Prop)(g:Int->Int->V):R2:=λx y H Q=>∃i j,x=.int i/\y=.int j/\C i j/\Q (g i j) H
def nG (g:Int->Int->V):R2:=λx y H Q=>∃i j,x=.int i/\y=.int j/\Q (g i j) H
def rU (g:Int->V):V->Hp->VK->Prop:=λx H Q=>∃i,x=.int i/\Q (g i) H
section
variable {X:Cx}{a b c:Expr}{ta tb tc:TE}{pos:cD}
theorem tW (ha:PE X a ta)(hb:PE X b tb){ah:List (af×cN)}{s:ak}{σ:St}{H:Hp}{R:V->V->Hp->Prop}(I:Inv X ah σ H s)
  (h:ta σ H λx H1=>tb σ H1 λy H2=>R x y H2) {Q:ae->ak->Prop} {f:ae->ae->mQ ae}
  (hf:∀v u s2 x y H2,Inv X ah σ H2 s2->RelV x v->RelV y u->R x y H2->aV (aZ X.prog X.w) X.A (f v u) Q X.xe s2) :
  aV (aZ X.prog X.w) X.A (bO a X.env) (λv s₁=>aV (aZ X.prog X.w) X.A (bO b X.env) (λu s₂=>aV (aZ X.prog X.w) X.A (f v u) Q X.xe s₂) X.xe s₁) X.xe s:=by
 refine dc (ha ah s σ H _ I h) λv s1 di=>?_
 obtain⟨x,H1,I1,r1,q1⟩:=di
 refine dc (hb ah s1 σ H1 _ I1 q1) λu s2 di=>?_
 obtain⟨y,H2,I2,r2,q2⟩:=di
 exact hf v u s2 x y H2 I2 r1 r2 q2
theorem HW {op:iL}{r:R2}(ho:fw X (dO op) r)(ha:PE X a ta)(hb:PE X b tb):PE X (.BinOp a op b pos) (DA r ta tb):=by
 intro ah s σ H Q I h
 exact wpAny_BinOp (tW ha hb I h λv u s2 x y H2 I2 rx ry q=>ho ah s2 σ H2 x y v u Q I2 rx ry q)
theorem WQ {op:UnaryOp}{r:V->Hp->VK->Prop}(ho:CY X (unaryOp op) r)(ha:PE X a ta):PE X (.UnaryOp op a pos) (QM r ta):=by
 intro ah s σ H Q I h
 exact UnaryOp_ (dc (ha ah s σ H _ I h) λv s1 ⟨x,H1,I1,r1,q1⟩=>ho ah s1 σ H1 x v Q I1 r1 q1)
theorem xA {f:ae->ae->mQ ae}{C:Int->Int->Prop}{g:Int->Int->Int}
  (rule:∀(i j:Int) (t u:Tok) (s:ak) (Q:ae->ak->Prop) (E:ae->ak->Prop),C i j->Q (.int (g i j) s.toks) { s with toks:=s.toks+1 }->aV (aZ X.prog X.w) X.A (f (.int i t) (.int j u)) Q E s) :
  fw X f (rI C λi j=>.int (g i j)):=by
 intro ah s σ H x y v u Q I rx ry h
 obtain⟨i,j,rfl,rfl,hc,q⟩:=h
 obtain⟨t,rfl⟩:=rx
 obtain⟨t',rfl⟩:=ry
 exact rule i j t t' s _ _ hc ⟨.int (g i j),H,I.tok _,⟨_,rfl⟩,q⟩
theorem Bz {f:ae->ae->mQ ae}{g:Int->Int->Int}
  (rule:∀(i j:Int) (t u:Tok) (s:ak) (Q:ae->ak->Prop) (E:ae->ak->Prop),Q (.int (g i j) s.toks) { s with toks:=s.toks+1 }->aV (aZ X.prog X.w) X.A (f (.int i t) (.int j u)) Q E s) :
  fw X f (nG λi j=>.int (g i j)):=by
 intro ah s σ H x y v u Q I rx ry h
 obtain⟨i,j,rfl,rfl,q⟩:=h
 obtain⟨t,rfl⟩:=rx
 obtain⟨t',rfl⟩:=ry
 exact rule i j t t' s _ _ ⟨.int (g i j),H,I.tok _,⟨_,rfl⟩,q⟩
theorem rQ {f:ae->ae->mQ ae}{g:Int->Int->Bool}
  (rule:∀(i j:Int) (t u:Tok) (s:ak) (Q:ae->ak->Prop) (E:ae->ak->Prop),Q (.bool (g i j)) s->aV (aZ X.prog X.w) X.A (f (.int i t) (.int j u)) Q E s) :
  fw X f (nG λi j=>.bl (g i j)):=by
 intro ah s σ H x y v u Q I rx ry h
 obtain⟨i,j,rfl,rfl,q⟩:=h
 obtain⟨t,rfl⟩:=rx
 obtain⟨t',rfl⟩:=ry
 exact rule i j t t' s _ _ ⟨.bl (g i j),H,I,rfl,q⟩
def rq (i j:Int):Prop:=0<=j/\j<=1000000/\i.natAbs<2 ^ 64
def tO (i j:Int):Prop:=(-(2 ^ 64)<i/\i<2 ^ 64)\/(-(2 ^ 64)<j/\j<2 ^ 64)
theorem tO.ok {i j:Int}(h:tO i j):IntMulOk i j:=by
 rcases h with⟨h1,h2⟩|⟨h1,h2⟩
 ·exact .of_left (intBits_le_64 h1 h2)
 ·exact .of_right (intBits_le_64 h1 h2)
theorem R4 (k:Nat):(0:Int)<=2 ^ k:=by
 rw[two_pow_cast]
 exact Int.natCast_nonneg _
theorem VQ:fw X (dO .Add) (nG λi j=>.int (i+j)):=Bz λ_ _ _ _ _ _ _ q=>add_int q
theorem sj:fw X (dO .Sub) (nG λi j=>.int (i-j)):=Bz λ_ _ _ _ _ _ _ q=>sub_int q
theorem xq:fw X (dO .Mod) (rI (λ_ j=>j≠0) λi j=>.int (i.fmod j)):=xA λ_ _ _ _ _ _ _ hc q=>mod_int' hc q
theorem VR:fw X (dO .Pow) (rI rq λi j=>.int (i ^ j.toNat)):=xA λ_ _ _ _ _ _ _ hc q=>pow_int_small hc.1 hc.2.1 hc.2.2 q
theorem VS:fw X (dO .LShift) (rI rq λi j=>.int (i*2 ^ j.toNat)):=xA λ_ _ _ _ _ _ _ hc q=>lshift_int_small hc.1 hc.2.1 hc.2.2 q
theorem Mx:fw X (dO .RShift) (rI (λ_ j=>0<=j) λi j=>.int (i/2 ^ j.toNat)):=xA λi j _ _ _ _ _ hc q=>
 rshift_int hc (by rw[lN i (R4 _)];exact q)
theorem QW {f:ae->mQ ae}{g:Int->Int}
  (rule:∀(i:Int) (t:Tok) (s:ak) (Q:ae->ak->Prop) (E:ae->ak->Prop),Q (.int (g i) s.toks) { s with toks:=s.toks+1 }->aV (aZ X.prog X.w) X.A (f (.int i t)) Q E s) :
  CY X f (rU λi=>.int (g i)):=by
 intro ah s σ H x v Q I rx h
 obtain⟨i,rfl,q⟩:=h
 obtain⟨t,rfl⟩:=rx
 exact rule i t s _ _ ⟨.int (g i),H,I.tok _,⟨_,rfl⟩,q⟩
theorem VT:CY X (unaryOp .USub) (rU λi=>.int (-i)):=QW λ_ _ _ _ _ q=>neg_int q
end
section
variable {X:Cx}{a b c:Expr}{ta tb tc:TE}{pos:cD}
theorem Ed {ah:List (af×cN)}{σ:St}{H:Hp}{s:ak}{Q:VK}{k k':Bool}(I:Inv X ah σ H s)(q:Q (.bl k) H)(e:k=k'):EP X ah σ Q (.bool k') s:=by
 subst e
 exact⟨.bl k,H,I,rfl,q⟩
theorem wJ:fw X (cm .Lt) (nG λi j=>.bl (decide (i<j))):=rQ λ_ _ _ _ _ _ _ q=>lt_int q
theorem WR:fw X (cm .LtE) (nG λi j=>.bl (decide (i<=j))):=rQ λ_ _ _ _ _ _ _ q=>le_int q
theorem tL:fw X (cm .Gt) (nG λi j=>.bl (decide (j<i))):=rQ λ_ _ _ _ _ _ _ q=>gt_int q
theorem WS:fw X (cm .GtE) (nG λi j=>.bl (decide (j<=i))):=rQ λ_ _ _ _ _ _ _ q=>ge_int q
theorem VU:fw X (cm .Is) (λx y H Q=>y=.non/\Q (.bl (decide (x=.non))) H):=by
 intro ah s σ H x y v u Q I rx ry h
 obtain⟨rfl,q⟩:=h
 cases ry
 refine is_none_gen (Ed I q ?_)
 cases x<;>first
  |(cases rx;rfl)
  |(obtain⟨t,rfl⟩:=rx;rfl)
theorem Uj:fw X (cm .IsNot) (λx y H Q=>y=.non/\Q (.bl (!decide (x=.non))) H):=by
 intro ah s σ H x y v u Q I rx ry h
 obtain⟨rfl,q⟩:=h
 cases ry
 refine isnot_none_gen (Ed I q ?_)
 cases x<;>first
  |(cases rx;rfl)
  |(obtain⟨t,rfl⟩:=rx;rfl)
theorem fw.or {f:ae->ae->mQ ae}{r r':R2}(h:fw X f r)(h':fw X f r'):fw X f (λx y H Q=>r x y H Q\/r' x y H Q):=by
 intro ah s σ H x y v u Q I rx ry q
 rcases q with q|q
 ·exact h ah s σ H x y v u Q I rx ry q
 ·exact h' ah s σ H x y v u Q I rx ry q
theorem bD (b:Expr){op:i6}(h:op≠.In:=by decide)(h2:op≠.NotIn:=by decide):dC op b=false:=by
 have e1:(op==i6.In)=false:=by cases op<;>first|rfl|exact absurd rfl h
 have e2:(op==i6.NotIn)=false:=by cases op<;>first|rfl|exact absurd rfl h2
 cases b<;>simp[dC,e1,e2]
theorem Uz {op:i6}{r:R2}(ho:fw X (cm op) r)(ha:PE X a ta)(hb:PE X b tb)(hm:dC op b=false):PE X (.Compare a [op] [b] pos) (DA r ta tb):=by
 intro ah s σ H Q I h
 exact wpAny_Compare1 (tW ha hb I h λv u s2 x y H2 I2 rx ry q=>ho ah s2 σ H2 x y v u Q I2 rx ry q) hm
def tF (t:TE):TT:=λσ H Q=>t σ H λx H'=>∃k,x=.bl k/\Q k H'
theorem UA {op:i6}{r:R2}(ho:fw X (cm op) r)(ha:PE X a ta)(hb:PE X b tb)(hm:dC op b=false):PT X (.Compare a [op] [b] pos) (tF (DA r ta tb)):=by
 intro ah s σ H Q I h
 refine wpAny_isTrue_Compare1 (dc (ha ah s σ H _ I h) λv s1 ⟨x,H1,I1,r1,q1⟩=>dc (hb ah s1 σ H1 _ I1 q1) λu s2 ⟨y,H2,I2,r2,q2⟩=>
  dc (ho ah s2 σ H2 x y v u _ I2 r1 r2 q2) λc s3 ⟨z,H3,I3,r3,k,e,q3⟩=>?_) hm
 subst e
 cases r3
 exact cV ⟨H3,I3,q3⟩
def qL (r r':R2)(ta tb tc:TE):TE:=λσ H Q=>ta σ H λx H1=>tb σ H1 λy H2=>r x y H2 λz H3=>∃k,z=.bl k /\
 (if k=true then tc σ H3 λw' H4=>r' y w' H4 Q else Q (.bl false) H3)
theorem Tl {op vN:i6}{r r':R2}(ho:fw X (cm op) r)(pZ:fw X (cm vN) r')(ha:PE X a ta)(hb:PE X b tb)(hc:PE X c tc)
  (hm:lastMarks [op,vN] [b,c]=false:=by with_unfolding_all rfl):PT X (.Compare a [op,vN] [b,c] pos) (tF (qL r r' ta tb tc)):=by
 intro ah s σ H Q I h
 refine isTrue_chain (dc (ha ah s σ H _ I h) λv s1 ⟨x,H1,I1,r1,q1⟩=>test_link (dc (hb ah s1 σ H1 _ I1 q1) λu s2 ⟨y,H2,I2,r2,q2⟩=>
  dc (ho ah s2 σ H2 x y v u _ I2 r1 r2 q2) λd s3 ⟨z,H3,I3,r3,k,e,q3⟩=>?_)) hm
 subst e
 cases r3
 refine cV ?_
 cases k with
 |false=>
  obtain⟨k',e',q'⟩:=q3
  cases e'
  exact ite_ff ⟨H3,I3,q'⟩
 |true=>
  refine ite_tt (test_last (dc (hc ah s3 σ H3 _ I3 q3) λw' s4 ⟨z',H4,I4,r4,q4⟩=>dc (pZ ah s4 σ H4 y z' u w' _ I4 r2 r4 q4) λd' s5 di=>?_))
  obtain⟨z2,H5,I5,r5,k2,e2,q5⟩:=di
  subst e2
  cases r5
  exact cV ⟨H5,I5,q5⟩
theorem jE:(sizeLine:Nat)<2 ^ 63:=by rw[cn];decide
theorem R5:fw X (dO .Add) (λx y H Q=>∃i j,x=.str i/\y=.str j/\i.length+j.length<=sizeLine/\Q (.str (i++j)) H):=by
 intro ah s σ H x y v u Q I rx ry h
 obtain⟨i,j,rfl,rfl,hz,q⟩:=h
 obtain⟨t,rfl⟩:=rx
 obtain⟨t',rfl⟩:=ry
 exact add_str (λt' tk=>⟨.str (i++j),H,I.tok _,⟨_,rfl⟩,q⟩) hz
theorem ni {x:V}{us:List ae}(r:bT [x] us):∃u,us=[u]/\RelV x u:=by
 cases r with
 |cons r1 r2=>cases r2;exact⟨_,rfl,r1⟩
theorem vals2 {x y:V}{us:List ae}(r:bT [x,y] us):∃u w',us=[u,w']/\RelV x u/\RelV y w':=by
 cases r with
 |cons r1 r2=>
  cases r2 with
  |cons r3 r4=>cases r4;exact⟨_,_,rfl,r1,r3⟩
theorem Hg (hc:X.calm=true):eo X (.builtin "max") (λxs H Q=>∃i j,xs=[.int i,.int j]/\Q (.int (if j > i then j else i)) H):=by
 intro ah s σ H xs us Q I r h
 obtain⟨i,j,rfl,q⟩:=h
 obtain⟨u,w',rfl,⟨t,rfl⟩,⟨t',rfl⟩⟩:=vals2 r
 refine max_two_ints (I.ok.hd hc) λh' tk k=>⟨_,H,I.kept k,?_,q⟩
 by_cases hj:j > i
 ·rw[if_pos hj,if_pos hj];exact⟨_,rfl⟩
 ·rw[if_neg hj,if_neg hj];exact⟨_,rfl⟩
theorem Sx (hc:X.calm=true):eo X (.builtin "min") (λxs H Q=>∃i j,xs=[.int i,.int j]/\Q (.int (if j<i then j else i)) H):=by
 intro ah s σ H xs us Q I r h
 obtain⟨i,j,rfl,q⟩:=h
 obtain⟨u,w',rfl,⟨t,rfl⟩,⟨t',rfl⟩⟩:=vals2 r
 refine min_two_ints (I.ok.hd hc) λh' tk k=>⟨_,H,I.kept k,?_,q⟩
 by_cases hj:j<i
 ·rw[if_pos hj,if_pos hj];exact⟨_,rfl⟩
 ·rw[if_neg hj,if_neg hj];exact⟨_,rfl⟩
end
end L2
namespace L2
open PySem PySem.Spec PyProof.Rows
structure nV (h:aK)(x dx C:af)(mA:aR->Option ae):Prop where
 obj:h.get? x=some (dE C dx)
 ns:h.Ns1 dx mA
 ne:dx≠x
theorem Sy {h:aK}{dx:af}{mA:aR->Option ae}(n:h.Ns1 dx mA):∃od,h.get? dx=some od/\∀name,iB name od=some (mA name):=by
 obtain⟨o,es,ep,ho,hd,hk,_,hm⟩:=n
 refine⟨o,ho,λname=>?_⟩
 have e:=hm name
 unfold nsFind findBy at e
 rw[←Array.find?_toList]at e
 unfold iB
 rw[hd]
 dsimp only
 split
 ·rename_i y q
  rw[q]at e
  exact congrArg some e
 ·rename_i q
  rw[q]at e
  have a:es.toList.any (·.refKey)=false:=by
   rw[List.any_eq_false]
   intro y hy
   obtain⟨z,t,FZ⟩:=hk y (iK.mp hy)
   simp[DictEntry.refKey,FZ]
  have a':¬es.toList.any (·.refKey)=true:=by rw[a];exact aX
  rw[if_neg a']
  exact congrArg some e
theorem nV.look {h:aK}{x dx C:af}{mA:aR->Option ae}(I:nV h x dx C mA):∃od,PySem.W.InstAt h x (dE C dx) C (some od)/\∀name,iB name od=some (mA name) :=
 let⟨od,ho,hl⟩:=Sy I.ns
 ⟨od,⟨I.obj,rfl,rfl,ho⟩,hl⟩
section
variable {prog:bg}{w:bE}{A:bv}{E:ae->ak->Prop}{s:ak}{K:aa}{x dx C f:af}{mA:aR->Option ae}{name:aR}{v:ae}
theorem UB {expr:Bool}{Q:ae->ak->Prop}(X:K.In s.heap)(I:nV s.heap x dx C mA)(hg:cW K C name=true)(hh:cM K C=true)
  (ha:ar K (.ref C) name=some none) (hv:mA name=some v) (Gp:ou v=true) (h:Q v { s with toks:=s.toks+1 }) :
  aV (aZ prog w) A (getAttr (.ref x) name expr) Q E s:=by
 obtain⟨od,J,hl⟩:=I.look
 exact PySem.W.get_value X J (iO hg).1 (PySem.W.findObj_own hh ha rfl (by rw[hl,hv])) Gp h
theorem Tn {pl:mQ Bool}{Q:ae×List ae->ak->Prop}(X:K.In s.heap)(I:nV s.heap x dx C mA)(hg:cW K C name=true)
  (hf:ar K (.ref C) name=some (some (.ref f))) (ht:dn K (.ref f)=true) (hv:mA name=none) (h:Q (.ref f,[.ref x]) s) :
  aV (aZ prog w) A (fX (.ref x) name pl) Q E s:=by
 obtain⟨od,J,hl⟩:=I.look
 exact PySem.W.method_fn X J (iO hg).1 (iO hg).2 hf (beq_iff_eq.mp ht) (by show(iB name od).map (·.isSome)=some false;rw[hl,hv];rfl) h
theorem UC {ns:List aR}{Q:Unit->ak->Prop}(X:K.In s.heap)(I:nV s.heap x dx C mA)
  (hs:ar K (.ref C) "__setattr__"=some (some (.builtin "object.__setattr__"))) (hp:dH K C=true) (ht:kr K C name=some none) (hh:cM K C=true)
  (hw:PySem.Within mA ns) (hsz:ns.length<=sizeLine)
  (h:∀h',nV h' x dx C (λy=>if y=name then some v else mA y)->dY dx s.heap h'->Q () { s with heap:=h',toks:=s.toks+2 }) :
  aV (aZ prog w) A (setAttr (.ref x) name v) Q E s:=by
 obtain⟨od,J,hl⟩:=I.look
 refine PySem.W.set_plain X J hs (PySem.W.osa_open (s:={ s with toks:=s.toks+1 }) (r:=none) X J hp ht λb=>?_)
 obtain⟨cd,hc,mZ⟩:=PySem.W.any_some hh
 have hx:s.heap.get? x=some ⟨.ref C,some dx,.plain,#[]⟩:=I.obj
 refine ao (aB (ao (ao (wpAny_loadPart hx (ao (PySem.W.Looks.here (s:={ s with toks:=s.toks+1 }) (PySem.W.looks_clsIn X hc) ?_))))))
 rw[mZ]
 refine aB (a:=some dx) (ao (aB (ao ?_)))
 refine wpAny_nsSet1 (s:={ s with toks:=s.toks+1 }) I.ns λh' sT p4=>?_
 obtain⟨oD,W9,W8,OD,Ol,Oi⟩:=sT.count (PySem.Within.cons name v hw)
 refine ao (wpAny_lookBehind OD (by rw[Ol];exact pastItsLine_dict (bS Oi (by rw[aP];omega))) ?_)
 exact aB (h _ ⟨(p4.2 _ (Ne.symm I.ne)).trans I.obj,sT,I.ne⟩ p4)
theorem To {R:Result->ak->Prop}{vs:List ae}{kw:List (aR×ae)}(X:K.In s.heap)(hm:dF K C=true)
  (hi:ar K (.ref C) "__init__"=some (some (.ref f))) (hf:PySem.W.typeIn K (.ref f)=some (.type "function"))
  (h:gI (aZ prog w) (A.under (.builtin "type.__call__" ⟨.ref C::vs,kw⟩)) (.call (.ref f) ⟨.ref (s.heap.objs.size+1)::vs,kw⟩) (PySem.W.InitBack (s.heap.objs.size+1) R)
   { s with heap:=(s.heap.push cL).push (dE C s.heap.objs.size) }) :
  gI (aZ prog w) A (.call (.ref C) ⟨vs,kw⟩) R s:=by
 obtain⟨hh,g,d,t,os⟩:=s
 exact PySem.W.make_core (PySem.W.makes_of X hm) (PySem.W.looks_findIn X hi) (λself=>PySem.W.bind_fn X self hf) (.inl rfl) h
end
def iw (f:aR)(v:V):List (aR×V)->List (aR×V)
 |[]=>[(f,v)]
 |(g,x)::r=>if g=f then(g,v)::r else(g,x)::iw f v r
theorem Kr (f g:aR)(v:V):∀fs:List (aR×V),(iw f v fs).lookup g=if g=f then some v else fs.lookup g
 |[]=>by
  show fN g [(f,v)]=_
  by_cases h:g=f
  ·have hb:(g==f)=true:=beq_iff_eq.mpr h
   simp only[fN,hb,if_pos h]
  ·have hb:(g==f)=false:=beq_eq_false_iff_ne.mpr h
   simp only[fN,hb,if_neg h]
 |(k,x)::r=>by
  have ih:=Kr f g v r
  rw[show iw f v ((k,x)::r)=(if k=f then(k,v)::r else(k,x)::iw f v r)from rfl]
  by_cases hk:k=f
  ·rw[if_pos hk]
   by_cases h:g=k
   ·have hb:(g==k)=true:=beq_iff_eq.mpr h
    simp only[fN,hb,if_pos (h.trans hk)]
   ·have hb:(g==k)=false:=beq_eq_false_iff_ne.mpr h
    simp only[fN,hb,if_neg (λe:g=f=>h (e.trans hk.symm))]
  ·rw[if_neg hk]
   by_cases h:g=k
   ·have hb:(g==k)=true:=beq_iff_eq.mpr h
    simp only[fN,hb,if_neg (λe:g=f=>hk (h.symm.trans e))]
   ·have hb:(g==k)=false:=beq_eq_false_iff_ne.mpr h
    simp only[fN,hb]
    exact ih
theorem Hh (f:aR)(v:V):∀fs:List (aR×V),f∈(iw f v fs).map (·.1)/\∀g,g∈fs.map (·.1)->g∈(iw f v fs).map (·.1)
 |[]=>⟨by simp[iw],λg h=>by simp at h⟩
 |(k,x)::r=>by
  obtain⟨i1,i2⟩:=Hh f v r
  rw[show iw f v ((k,x)::r)=(if k=f then(k,v)::r else(k,x)::iw f v r)from rfl]
  by_cases hk:k=f
  ·rw[if_pos hk]
   subst hk
   exact⟨by simp,λg h=>by simpa using h⟩
  ·rw[if_neg hk]
   refine⟨?_,λg h=>?_⟩
   ·rw[bG]
    exact ap _ i1
   ·rw[bG]at h ⊢
    rcases aA.mp h with e|e
    ·exact aA.mpr (.inl e)
    ·exact ap _ (i2 g e)
theorem Ks (f:aR)(v:V):∀fs:List (aR×V),(iw f v fs).length<=fs.length+1
 |[]=>by simp[iw]
 |(k,x)::r=>by
  have ih:=Ks f v r
  rw[show iw f v ((k,x)::r)=(if k=f then(k,v)::r else(k,x)::iw f v r)from rfl]
  by_cases hk:k=f
  ·rw[if_pos hk,aP,aP];omega
  ·rw[if_neg hk,aP,aP];omega
theorem iR.some_of {v:V}{o:Option ae}(r:iR (some v) o):∃u,o=some u/\RelV v u:=by
 cases o with
 |none=>exact(show False from r).elim
 |some u=>exact⟨u,rfl,r⟩
theorem iR.none_of {o:Option ae}(r:iR none o):o=none:=by
 cases o with
 |none=>rfl
 |some u=>exact(show False from r).elim
theorem SA {v:V}{u:ae}(r:RelV v u):ou u=true:=by
 cases v with
 |non=>cases(show u=ae.none from r);rfl
 |bl b=>cases(show u=ae.bool b from r);rfl
 |int i=>obtain⟨t,e⟩:=(show∃t,u=ae.int i t from r);cases e;rfl
 |str x=>obtain⟨t,e⟩:=(show∃t,u=ae.str x t from r);cases e;rfl
 |byt b=>obtain⟨t,e⟩:=(show∃t,u=ae.bytes b t from r);cases e;rfl
 |flt b=>obtain⟨t,e⟩:=(show∃t,u=ae.float b t from r);cases e;rfl
 |ref a=>cases(show u=ae.ref a from r);rfl
 |ty n=>cases(show u=ae.type n from r);rfl
section
variable {P:bg}{w:bE}{H H':Hp}{h h':aK}{a C dx:af}{fs NW:List (aR×V)}
theorem D3 (hok:jA P w H h)(e:H a=some (.ins C dx fs)):∃mA,nV h a dx C mA/\(∀f,iR (fs.lookup f) (mA f))/\PySem.Within mA (fs.map (·.1))/\fs.length<=1000/\H dx=some (.own a):=by
 obtain⟨d,z,ne,ob,mA,n,r,q⟩:=(show dw P w H h a (.ins C dx fs)from hok a _ e)
 exact⟨mA,⟨ob,n,ne⟩,r,q,z,d⟩
end
structure kT (K:aa)(C:af):Prop where
 pg:cW K C aR.empty=true
 hd:cM K C=true
 po:dH K C=true
 sa:ar K (.ref C) "__setattr__"=some (some (.builtin "object.__setattr__"))
theorem kT.get {K:aa}{C:af}(c:kT K C)(f:aR):cW K C f=true:=c.pg
def eX (K:aa)(C:af)(f:aR):Prop:=ar K (.ref C) f=some none
theorem eX.taker {K:aa}{C:af}{f:aR}(n:eX K C f):kr K C f=some none:=by
 unfold kr
 rw[show ar K (.ref C) f=some none from n]
 rfl
structure nU (K:aa)(C:af)(m:aR)(f:af):Prop where
 at_:ar K (.ref C) m=some (some (.ref f))
 fn:dn K (.ref f)=true
 kp:aq K (.ref f)=true
section
variable {X:Cx}{ah:List (af×cN)}{σ:St}{H:Hp}{s:ak}{a C dx:af}{fs:List (aR×V)}{f:aR}{v:V}{A:bv}{E:ae->ak->Prop}
theorem R6 {b:Bool}{Q:ae->ak->Prop}(I:Inv X ah σ H s)(e:H a=some (.ins C dx fs))(c:kT X.K C)(n:eX X.K C f)(l:fs.lookup f=some v)
  (h:∀u s',Inv X ah σ H s'->RelV v u->Q u s'):aV (aZ X.prog X.w) A (getAttr (.ref a) f b) Q E s:=by
 obtain⟨mA,O,r,_,_,_⟩:=D3 I.hok e
 obtain⟨u,hu,ru⟩:=iR.some_of (v:=v) (o:=mA f) (by rw[←l];exact r f)
 exact UB I.kIn O (c.get f) c.hd n hu (SA ru) (h u _ (I.tok _) ru)
theorem Hc {m:aR}{g:af}{pl:mQ Bool}{Q:ae×List ae->ak->Prop}(I:Inv X ah σ H s)(e:H a=some (.ins C dx fs))(c:kT X.K C)(k:nU X.K C m g)(l:fs.lookup m=none)
  (h:Q (.ref g,[.ref a]) s):aV (aZ X.prog X.w) A (fX (.ref a) m pl) Q E s:=by
 obtain⟨mA,O,r,_,_,_⟩:=D3 I.hok e
 have hn:mA m=none:=iR.none_of (by rw[←l];exact r m)
 exact Tn I.kIn O (c.get m) k.at_ k.fn hn h
theorem R7 {y:V}{u:ae}{Q:Unit->ak->Prop}(I:Inv X ah σ H s)(e:H a=some (.ins C dx fs))(c:kT X.K C)(n:eX X.K C f)(hl:fs.length<1000)(ry:RelV y u)
  (h:∀s',Inv X ah σ (upd H a (.ins C dx (iw f y fs))) s'->Q () s'):aV (aZ X.prog X.w) A (setAttr (.ref a) f u) Q E s:=by
 obtain⟨mA,O,r,wi,_,ho⟩:=D3 I.hok e
 have hz:(fs.map (·.1)).length<=sizeLine:=by rw[aF,cn];omega
 refine UC I.kIn O c.sa c.po n.taker c.hd wi hz λh' O' sb=>h _ ?_
 have hd:∃o,h'.get? dx=some o:=let⟨o,_,_,e',_⟩:=O'.ns;⟨o,e'⟩
 refine I.write (x:=a) (e:=dx) (by rw[e];exact True.intro) (.inr ho) (λb q hb z=>(sb.2 b hb).trans z) hd ?_
 refine⟨by rw[zy O.ne];exact ho,?_,O.ne,O'.obj,_,O'.ns,λg=>?_,λg hg=>?_⟩
 ·have:=Ks f y fs;omega
 ·show iR ((iw f y fs).lookup g) (if g=f then some u else mA g)
  rw[Kr]
  by_cases q:g=f
  ·rw[if_pos q,if_pos q];exact ry
  ·rw[if_neg q,if_neg q];exact r g
 ·by_cases q:g=f
  ·rw[q];exact(Hh f y fs).1
  ·refine(Hh f y fs).2 g (wi g λz=>hg ?_)
   show(if g=f then some u else mA g)=none
   rw[if_neg q];exact z
theorem Inv.made (I:Inv X ah σ H s):Inv X ah σ (upd (upd H s.heap.objs.size (.own (s.heap.objs.size+1))) (s.heap.objs.size+1) (.ins C s.heap.objs.size []))
  { s with heap:=(s.heap.push cL).push (dE C s.heap.objs.size) }:=by
 have e1:(s.heap.push cL).get? s.heap.objs.size=some cL:=bq s.heap rfl
 have e2:((s.heap.push cL).push (dE C s.heap.objs.size)).get? (s.heap.objs.size+1)=some (dE C s.heap.objs.size):=by
  have:=bq (s.heap.push cL) (o:=dE C s.heap.objs.size) rfl
  rwa[e7]at this
 have e3:(s.heap.push cL).Ns s.heap.objs.size (λ_=>none):=⟨cL,#[],_,e1,rfl,(λe he=>absurd he (by simp)),λ_=>rfl⟩
 have I1:=I.laid (a:=s.heap.objs.size) (o:=.own (s.heap.objs.size+1)) (h':=s.heap.push cL) (t':=s.toks) (λb u q=>aC _ q) (av _) ⟨_,e1⟩
 refine I1.laid (a:=s.heap.objs.size+1) (o:=.ins C s.heap.objs.size []) (t':=s.toks) (λb u q=>aC _ q) (nr (e7 _ _)) ?_
 have ne:s.heap.objs.size≠s.heap.objs.size+1:=bc (hV _)
 refine⟨by rw[zy ne,yf],cC _,ne,e2,λ_=>none,(aK.Ns1.of_empty e3).at λo q=>aC _ q,λ_=>True.intro,λy hy=>absurd rfl hy⟩
theorem UD {prog:bg}{w:bE}{env:Env}{e:Expr}{f:aR}{pos:cD}{s:ak}{Q:ae->ak->Prop}(hb:eY e f env (bO e env)=bO e env)
  (h:aV (aZ prog w) A (bO e env) (λo s₁=>aV (aZ prog w) A (getAttr o f true) Q E s₁) E s):aV (aZ prog w) A (bO (.Attribute e f pos) env) Q E s :=
 Attribute_any_ h (by rw[arm_eval_Attribute,hb])
end
def GY (K:aa)(ta:TE)(f:aR):TE:=λσ H Q=>ta σ H λx H1=>∃a C dx fs v,x=.ref a/\H1 a=some (.ins C dx fs)/\kT K C/\eX K C f/\fs.lookup f=some v/\Q v H1
def GS (K:aa)(ta tv:TE)(f:aR):TS:=λD σ H=>tv σ H λy H1=>ta σ H1 λx H2=>∃a C dx fs,x=.ref a/\H2 a=some (.ins C dx fs)/\kT K C/\eX K C f/\fs.length<1000 /\
 D.nx σ (upd H2 a (.ins C dx (iw f y fs)))
section
variable {X:Cx}{o e value:Expr}{f:aR}{pos pos' fT:cD}{ta tv:TE}
theorem VV (he:PE X e ta)(hb:eY e f X.env (bO e X.env)=bO e X.env):PE X (.Attribute e f pos) (GY X.K ta f):=by
 intro ah s σ H Q I h
 refine UD hb (dc (he ah s σ H _ I h) λu s1 di=>?_)
 obtain⟨x,H1,I1,rx,a,C,dx,fs,v,ex,ea,c,n,l,q⟩:=di
 subst ex
 obtain rfl:u=ae.ref a:=rx
 exact R6 I1 ea c n l λu' s2 I2 ru=>⟨v,H1,I2,ru,q⟩
theorem VW (ha:PE X o ta)(hv:PE X value tv)(hs:eA value (some (.Attribute o f pos')) pos.line X.env=pure false):PS X (.Assign [.Attribute o f pos'] value pos) (GS X.K ta tv f):=by
 intro ah s σ H D I h
 refine plainObj_wpAny_Assign_Attribute (dc (hv ah s σ H _ I h) λu s1 ⟨y,H1,I1,ry,q⟩=>dc (ha ah s1 σ H1 _ I1 q) λov s2 ⟨x,H2,I2,rx,a,C,dx,fs,ex,ea,c,n,l,q2⟩=>?_) hs
 subst ex
 obtain rfl:ov=ae.ref a:=rx
 exact R7 I2 ea c n l ry λs3 I3=>⟨σ,_,I3,q2⟩
def vS:V->V->Hp->VK->Prop:=λx y H Q=>∃i j,x=.int i/\y=.int j/\Q (.int (i+j)) H
theorem Yo {pl:mQ Bool}{m:aR}{dz:cD}{args:List Expr}{ah:List (af×cN)}{s:ak}{σ:St}{H:Hp}{Q:ae->ak->Prop}{te:TE}(he:PE X e te)(I:Inv X ah σ H s)
  (h:te σ H λx H1=>∃a C dx fs g,x=.ref a/\H1 a=some (.ins C dx fs)/\kT X.K C/\nU X.K C m g/\fs.lookup m=none /\
   ∀s1,Inv X ah σ H1 s1->aV (aZ X.prog X.w) X.A (iN pos (.ref g) [.ref a] (cB pos (ax args X.env)) (eZ pos (dD [] X.env))) Q X.xe s1)
  (ht:bO (.Call (.Attribute e m dz) args [] pos) X.env=(do
   let ov ← bO e X.env
   fZ dz.atName
   let(f,first) ← dQ [ov] (fX ov m pl)
   iN pos f first (cB pos (ax args X.env)) (eZ pos (dD [] X.env)))) :
  aV (aZ X.prog X.w) X.A (bO (.Call (.Attribute e m dz) args [] pos) X.env) Q X.xe s:=by
 refine fk (pl:=pl) (dc (he ah s σ H _ I h) λu s1 ⟨x,H1,I1,rx,a,C,dx,fs,g,ex,ea,c,k,l,q⟩=>?_) ht
 subst ex
 obtain rfl:u=ae.ref a:=rx
 exact Hc I1 ea c k l (q s1 I1)
end
section
variable {X:Cx}{ah:List (af×cN)}{σ:St}{H:Hp}{s:ak}{A:bv}{E:ae->ak->Prop}{Q:ae->ak->Prop}{c:ae}{b:Bool}
inductive jC (K:aa)(H:Hp):V->ae->Prop where
 |non:jC K H .non (.type "NoneType")
 |bl (x:Bool):jC K H (.bl x) (.type "bool")
 |int (i:Int):jC K H (.int i) (.type "int")
 |str (x:aR):jC K H (.str x) (.type "str")
 |flt (x:UInt64):jC K H (.flt x) (.type "float")
 |lst {a:af} {xs:List V} (e:H a=some (.lst xs)):jC K H (.ref a) (.type "list")
 |frz {a:af} {o:cN} {xs:List V} (e:H a=some (.frz o (.lst xs))):jC K H (.ref a) (.type "list")
 |tup {a:af} {xs:List V} (e:H a=some (.tup xs)):jC K H (.ref a) (.type "tuple")
 |dK {a:af} {bU:List (dv×V)} (e:H a=some (.dK bU)):jC K H (.ref a) (.type "dict")
 |dT {a:af} {bU:List (List dv×V)} (e:H a=some (.dT bU)):jC K H (.ref a) (.type "dict")
 |ins {a C dx:af} {fs:List (aR×V)} (e:H a=some (.ins C dx fs)) (cl:kT K C) (ha:ar K (.ref C) "__class__"=some (some (.builtin "object.__class__")))
   (hn:dh K (.builtin "object.__class__") "__get__"=some (some (.builtin "getset_descriptor.__get__"))) (Jl:gW K (.builtin "object.__class__")=some true)
   (hm:dP K C (.type "object")=some true):jC K H (.ref a) (.ref C)
theorem KY {x:V}{u t:ae}(I:Inv X ah σ H s)(rx:RelV x u)(ty:jC X.K H x t)(e:bI X.K t c=some b)(h:∀tk,Q (.bool b) { s with toks:=tk }) :
  aV (aZ X.prog X.w) A (call (.builtin "isinstance") [u,c]) Q E s:=by
 cases ty with
 |non=>cases(show u=ae.none from rx);exact cq PySem.W.kitx_none I.kIn True.intro e (λz=>nomatch z) h
 |bl y=>cases(show u=ae.bool y from rx);exact cq PySem.W.kitx_bool I.kIn True.intro e (λz=>nomatch z) h
 |int i=>obtain⟨t,q⟩:=(show∃t,u=ae.int i t from rx);cases q;exact cq PySem.W.kitx_int I.kIn True.intro e (λz=>nomatch z) h
 |str y=>obtain⟨t,q⟩:=(show∃t,u=ae.str y t from rx);cases q;exact cq PySem.W.kitx_str I.kIn True.intro e (λz=>nomatch z) h
 |flt y=>obtain⟨t,q⟩:=(show∃t,u=ae.float y t from rx);cases q;exact cq PySem.W.kitx_float I.kIn True.intro e (λz=>nomatch z) h
 |@lst a xs ea=>
  cases(show u=ae.ref a from rx)
  obtain⟨_,_,n,_,h1⟩:=(show dw X.prog X.w H s.heap a (.lst xs)from I.hok a _ ea)
  exact cq jF I.kIn ⟨_,h1,rfl⟩ e (λz=>nomatch z) h
 |@frz a ob xs ea=>
  cases(show u=ae.ref a from rx)
  obtain⟨_,_,_,n,_,h1⟩:=(show dw X.prog X.w H s.heap a (.frz ob (.lst xs))from I.hok a _ ea)
  exact cq jF I.kIn ⟨_,h1,rfl⟩ e (λz=>nomatch z) h
 |@tup a xs ea=>
  cases(show u=ae.ref a from rx)
  obtain⟨_,_,_,p⟩:=(show dw X.prog X.w H s.heap a (.tup xs)from I.hok a _ ea)
  obtain⟨o,h1,h2,_⟩:=p
  exact cq PySem.W.kitx_tuple I.kIn ⟨o,h1,h2⟩ e (λz=>nomatch z) h
 |@dK a bU ea=>
  cases(show u=ae.ref a from rx)
  obtain⟨_,_,vs,_,p⟩:=(show dw X.prog X.w H s.heap a (.dK bU)from I.hok a _ ea)
  obtain⟨o,es,ep,h1,h2,_⟩:=p
  exact cq nM I.kIn ⟨o,h1,h2.1⟩ e (λz=>nomatch z) h
 |@dT a bU ea=>
  cases(show u=ae.ref a from rx)
  obtain⟨_,_,xs,_,o,es,ep,h1,h2,_⟩:=(show dw X.prog X.w H s.heap a (.dT bU)from I.hok a _ ea)
  exact cq nM I.kIn ⟨o,h1,h2.1⟩ e (λz=>nomatch z) h
 |@ins a C dx fs ea cl ha hn Jl hm=>
  cases(show u=ae.ref a from rx)
  obtain⟨mA,O,_⟩:=D3 I.hok ea
  obtain⟨od,J,_⟩:=O.look
  exact cq (PySem.W.kitx_own (cl.get _) cl.hd ha hn Jl hm) I.kIn J e (λz=>nomatch z) h
end
end L2
namespace L2
open PySem PySem.Spec PyProof.Rows
structure d8 (k:Nat)(A:bv):Prop where
 hd:A.handled=none
 dp:A.depth+3*k+5<recursionLimit
 un:A.units+16*k+200<iM
 gd:A.guards=some []
theorem d8.mono {j k:Nat}{A:bv}(r:d8 k A)(h:j<=k):d8 j A:=⟨r.hd,by have:=r.dp;omega,by have:=r.un;omega,r.gd⟩
theorem d8.deeper {k:Nat}{A:bv}(r:d8 (k+1) A)(env:Env):d8 k (A.deeper env) :=
 ⟨r.hd,by have:=r.dp;show A.depth+1+3*k+5<_;omega,by have:=r.un;show A.units+3+16*k+200<_;omega,r.gd⟩
theorem R8 {A:bv}{C:af}{us:List ae}{kw:List (aR×ae)}:(A.under (.builtin "type.__call__" ⟨.ref C::us,kw⟩)).depth=A.depth+1:=by
 first|rfl|simp[bv.under,ny.weight,ny.isCreation,ny.isGuard,ny.isCaller,ny.frames,ny.isFrame,guardIds]
theorem R9 {A:bv}{C:af}{us:List ae}{kw:List (aR×ae)}:(A.under (.builtin "type.__call__" ⟨.ref C::us,kw⟩)).units=A.units+1:=by
 first|rfl|simp[bv.under,ny.cUnits,ny.frames,ny.isFrame]
theorem RR {A:bv}{C:af}{us:List ae}{kw:List (aR×ae)}:(A.under (.builtin "type.__call__" ⟨.ref C::us,kw⟩)).guards=A.guards:=by
 first|rfl|simp[bv.under,ny.guards,ny.isGuard,guardIds,pushGuards]
theorem d8.make {k:Nat}{A:bv}(r:d8 (k+1) A)(C:af)(us:List ae)(kw:List (aR×ae)):d8 k (A.under (.builtin "type.__call__" ⟨.ref C::us,kw⟩)) :=
 ⟨r.hd,by have:=r.dp;rw[R8];omega,by have:=r.un;rw[R9];omega,by rw[RR];exact r.gd⟩
theorem d8.depth {k:Nat}{A:bv}(r:d8 k A):A.depth<recursionLimit:=by have:=r.dp;omega
theorem d8.units {k:Nat}{A:bv}(r:d8 k A):A.units+64<iM:=by have:=r.un;omega
def Co:TA:=λ_ H Q=>Q [] H
def Ci (ta:TE)(tr:TA):TA:=λσ H Q=>ta σ H λx H1=>tr σ H1 λxs H2=>Q (x::xs) H2
section
variable {X:Cx}{e:Expr}{es:List Expr}{te:TE}{t:TA}{pos:cD}
theorem xD:PA X [] Co:=λ_ _ _ _ H Q I h=>Calls.spliced_nil ⟨[],H,I,.nil,h⟩
theorem u5 (ha:PE X e te)(hr:PA X es t)(hs:ax (e::es) X.env=(false,bO e X.env)::ax es X.env:=by rfl):PA X (e::es) (Ci te t):=by
 intro pos ah s σ H Q I h
 rw[hs]
 show aV _ _ (spliced ((false,bO e X.env)::cB pos (ax es X.env))) _ _ s
 refine Calls.spliced_cons (dc (ha ah s σ H _ I h) λu s1 di=>?_)
 obtain⟨x,H1,I1,r1,q1⟩:=di
 exact dc (hr pos ah s1 σ H1 _ I1 q1) λus s2 ⟨xs,H2,I2,r2,q2⟩=>⟨x::xs,H2,I2,.cons r1 r2,q2⟩
def G7 (t:TA):TE:=λσ H Q=>t σ H λxs H1=>xs.length<=sizeLine/\∀p,H1 p=none->Q (.ref p) (upd H1 p (.tup xs))
def G1 (t:TA):TE:=λσ H Q=>t σ H λxs H1=>xs.length<=sizeLine/\∀p,H1 p=none->Q (.ref p) (upd H1 p (.lst xs))
theorem VX {x1}(h:PA X es t):PE X (.Tuple es x1 pos) (G7 t):=by
 intro ah s σ H Q I hq
 refine wpAny_Tuple_spliced (dc (h pos ah s σ H _ I hq) λus s1 ⟨xs,H1,I1,r,z,q⟩=>⟨by rw[←r.length];exact z,?_⟩)
 have hf:H1 s1.heap.objs.size=none:=I1.hok.fresh (av _)
 refine⟨.ref s1.heap.objs.size,upd H1 s1.heap.objs.size (.tup xs),I1.laid (t':=s1.toks) (λb u e=>aC _ e) (av _) ?_,rfl,q _ hf⟩
 exact⟨z,us,r,⟨_,bq _ rfl,rfl,_,rfl⟩⟩
theorem Vp (h:PA X es t):PE X (.List es pos) (G1 t):=by
 intro ah s σ H Q I hq
 refine wpAny_List_spliced (dc (h pos ah s σ H _ I hq) λus s1 ⟨xs,H1,I1,r,z,q⟩=>⟨by rw[←r.length];exact z,?_⟩)
 have hf:H1 s1.heap.objs.size=none:=I1.hok.fresh (av _)
 refine⟨.ref s1.heap.objs.size,upd H1 s1.heap.objs.size (.lst xs),I1.laid (t':=s1.toks) (λb u e=>aC _ e) (av _) ?_,rfl,q _ hf⟩
 exact⟨z,us,0,r,bq _ rfl⟩
end
abbrev Sp:=List V->Hp->VK->XK->Prop
abbrev pB:=List Env->Hp->ak->XK->ae->ak->Prop
structure nN (P:bg)(w:bE)(K:aa)(mg:aR->Option ae)(base:aK)(A:bv)(outer:List Env)(s:ak)(H:Hp):Prop where
 frames:A.frames=some outer
 mod:Mod K mg base
 bs:∀b o,base.get? b=some o->s.heap.get? b=some o/\H b=none
 bsz:base.objs.size<=s.heap.objs.size
 funs:s.heap.FunFrames base outer
 frf:∀b∈pQ outer,H b=none
 hok:jA P w H s.heap
 bare:AllBare s.gens
def CE (outer:List Env)(P:bg)(w:bE)(H:Hp)(s:ak)(Q:VK)(u:ae)(s':ak):Prop :=
 ∃v H',s'.os=s.os/\AllBare s'.gens/\Un (pQ outer) [] H H' s.heap s'.heap/\jA P w H' s'.heap/\RelV v u/\Q v H'
def CR (CX:pB)(outer:List Env)(P:bg)(w:bE)(H:Hp)(s:ak)(Q:VK)(E:XK)(r:Result)(s':ak):Prop :=
 match r with
 |.ok (.ret u)=>CE outer P w H s Q u s'
 |.ok _=>False
 |.error e=>CX outer H s E e s'
structure cG (P:bg)(w:bE)(K:aa)(mg:aR->Option ae)(base:aK)(CX:pB)(k:Nat)(f:af)(fd:aN)(ps:List aR)(sp:Sp):Prop where
 len:∀vs H Q E,sp vs H Q E->vs.length=ps.length
 run:∀(A:bv) (outer:List Env) (s:ak) (H:Hp) (args:Args) (us:List ae) (vs:List V) (Q:VK) (E:XK),d8 k A->nN P w K mg base A outer s H->mP s fd args (ps.zip us)->bT vs us->sp vs H Q E ->
  gI (aZ P w) A (.call (.ref f) args) (CR CX outer P w H s Q E) s
theorem nN.make {P:bg}{w:bE}{K:aa}{mg:aR->Option ae}{base:aK}{A:bv}{outer:List Env}{s:ak}{H:Hp}(e:nN P w K mg base A outer s H)(C:af)(us:List ae)(kw:List (aR×ae)) :
  nN P w K mg base (A.under (.builtin "type.__call__" ⟨.ref C::us,kw⟩)) outer s H:=⟨by first|exact e.frames|(simpa[bv.under,ny.envs,ny.isFrame,pushEnvs]using e.frames),e.mod,e.bs,e.bsz,e.funs,e.frf,e.hok,e.bare⟩
section
variable {X:Cx}{ah:List (af×cN)}{σ:St}{H:Hp}{s s':ak}
theorem Inv.env0 (I:Inv X ah σ H s):nN X.prog X.w X.K X.mg X.base X.A X.stack s H :=
 ⟨I.ok.frames,I.ok.mod,I.bs,bS I.ok.bsz I.sz,I.stack,I.stkFree,I.hok,I.bare⟩
theorem Inv.after {Q:VK}{u:ae}(I:Inv X ah σ H s)(h:CE X.stack X.prog X.w H s Q u s'):EP X ah σ Q u s':=by
 obtain⟨v,H',os,bare,un,hok,r,q⟩:=h
 obtain⟨hh,g,d,t,P2⟩:=s'
 obtain rfl:P2=s.os:=os
 exact⟨v,H',I.call (h':=hh) (g':=g) (d':=d) (t':=t) (ch:=[]) un hok bare (λb z=>absurd z (by simp)),r,q⟩
end
def tD (sp:Sp)(gZ:List V)(E:XK)(t:TA):TE:=λσ H Q=>t σ H λvs H1=>sp (vs++gZ) H1 Q E
def tE (C:af)(m:aR)(sp:Sp)(gZ:List V)(E:XK)(ta:TE)(t:TA):TE:=λσ H Q=>ta σ H λx H1=>∃a dx fs,x=.ref a/\H1 a=some (.ins C dx fs)/\fs.lookup m=none /\
 t σ H1 λvs H2=>sp (x::(vs++gZ)) H2 Q E
def Ck (C:af)(sp:Sp)(gZ:List V)(E:XK)(t:TA):TE:=λσ H Q=>t σ H λvs H1=>∀x dx,H1 x=none->H1 dx=none->dx≠x ->
 sp (.ref x::(vs++gZ)) (upd (upd H1 dx (.own x)) x (.ins C dx [])) (λv H2=>v=.non/\Q (.ref x) H2) E
def bM (K:aa)(fd:aN)(ps:List aR)(ds:List ae):Prop :=
 ∀(s:ak) (us:List ae),K.In s.heap->(us++ds).length=ps.length->mP s fd ⟨us,[]⟩ (ps.zip (us++ds))
theorem bM.all {K:aa}{fd:aN}{ps:List aR}(h:∀us:List ae,us.length=ps.length->bindArgs fd ⟨us,[]⟩=pure (ps.zip us)):bM K fd ps []:=λs us _ hl=>by
 rw[bQ]at hl ⊢
 exact .of_eq (h us hl)
def iG (CX:pB)(X:Cx)(E:XK):Prop:=∀(ah:List (af×cN)) (σ:St) (H:Hp) (s:ak) (e:ae) (s':ak),Inv X ah σ H s->CX X.stack H s E e s'->X.xe e s'
section
variable {X:Cx}{CX:pB}{k:Nat}{f C:af}{fd:aN}{ps:List aR}{sp:Sp}{gZ:List V}{ds:List ae}{E:XK}{x m:aR}{p pos dz:cD}{e o:Expr}{es:List Expr}{ta:TE}{t:TA}
theorem Ee {ah:List (af×cN)}{σ:St}{H:Hp}{s:ak}{Q:VK}{us:List ae}{vs:List V}(F:cG X.prog X.w X.K X.mg X.base CX k f fd ps sp)(hr:d8 k X.A)(hb:bM X.K fd ps ds)(hd:bT gZ ds)(hx:iG CX X E)
  (I:Inv X ah σ H s) (r:bT vs us) (h:sp (vs++gZ) H Q E):aV (aZ X.prog X.w) X.A (call (.ref f) us) (EP X ah σ Q) X.xe s:=by
 have r2:bT (vs++gZ) (us++ds):=r.append hd
 have hl:(us++ds).length=ps.length:=by rw[←r2.length];exact F.len _ _ _ _ h
 refine wpAny_call (lu (F.run X.A X.stack s H ⟨us,[]⟩ (us++ds) (vs++gZ) Q E hr I.env0 (hb s us I.kIn hl) r2 h) λr s' hq=>?_)
 cases r with
 |error e=>exact hx ah σ H s e s' I hq
 |ok fl=>
  cases fl with
  |ret u=>exact I.after hq
  |next=>exact False.elim hq
  |brk=>exact False.elim hq
  |cont=>exact False.elim hq
theorem UE (F:cG X.prog X.w X.K X.mg X.base CX k f fd ps sp)(hr:d8 k X.A)(hg:Gl X x)(hm:X.mg x=some (.ref f))(hk:aq X.K (.ref f)=true)(hb:bM X.K fd ps ds)(hd:bT gZ ds)(hx:iG CX X E)
  (ha:PA X (e::es) t) (kY:(x==("__debug__":aR))=false:=by decide) (he:ax (e::es) X.env=(false,bO e X.env)::ax es X.env:=by rfl) (iu:(cB pos (ax es X.env)).any (·.1)=false:=by rfl) :
  PE X (.Call (.Name x p) (e::es) [] pos) (tD sp gZ E t):=by
 intro ah s σ H Q I h
 refine fq (D2 I hg hm ?_ kY)
 refine fY (h₀:=X.base) I.ok.mod.kin hk (dc (ha pos ah s σ H _ I h) λus s1 ⟨vs,H1,I1,r,q⟩=>⟨I1.kIn,?_⟩) he iu
 exact Ee F hr hb hd hx I1 r q
theorem UF {pl:mQ Bool}(he:PE X o ta)(c:kT X.K C)(hm:nU X.K C m f)(F:cG X.prog X.w X.K X.mg X.base CX k f fd ps sp)(hr:d8 k X.A)(hb:bM X.K fd ps ds)(hd:bT gZ ds)(hx:iG CX X E)(ha:PA X (e::es) t)
  (m8:ax (e::es) X.env=(false,bO e X.env)::ax es X.env:=by rfl) (iu:(cB pos (ax es X.env)).any (·.1)=false:=by rfl)
  (ht:bO (.Call (.Attribute o m dz) (e::es) [] pos) X.env=(do
   let ov ← bO o X.env
   fZ dz.atName
   let(f,first) ← dQ [ov] (fX ov m pl)
   iN pos f first (cB pos (ax (e::es) X.env)) (eZ pos (dD [] X.env))):=by rfl) :
  PE X (.Call (.Attribute o m dz) (e::es) [] pos) (tE C m sp gZ E ta t):=by
 intro ah s σ H Q I h
 refine fk (pl:=pl) (dc (he ah s σ H _ I h) λu s1 ⟨x,H1,I1,rx,a,dx,fs,ex,ea,l,q⟩=>?_) ht
 subst ex
 obtain rfl:u=ae.ref a:=rx
 refine Hc I1 ea c hm l ?_
 refine fY (first:=[.ref a]) (h₀:=X.base) I.ok.mod.kin hm.kp (dc (ha pos ah s1 σ H1 _ I1 q) λus s2 ⟨vs,H2,I2,r,q2⟩=>⟨I2.kIn,?_⟩) m8 iu
 exact Ee (us:=.ref a::us) (vs:=.ref a::vs) F hr hb hd hx I2 (.cons rfl r) q2
theorem Tp {pl:mQ Bool}(he:PE X o ta)(c:kT X.K C)(hm:nU X.K C m f)(F:cG X.prog X.w X.K X.mg X.base CX k f fd ps sp)(hr:d8 k X.A)(hb:bM X.K fd ps ds)(hd:bT gZ ds)(hx:iG CX X E)
  (ht:bO (.Call (.Attribute o m dz) [] [] pos) X.env=(do
   let ov ← bO o X.env
   fZ dz.atName
   let(f,first) ← dQ [ov] (fX ov m pl)
   iN pos f first (cB pos (ax [] X.env)) (eZ pos (dD [] X.env))):=by rfl) :
  PE X (.Call (.Attribute o m dz) [] [] pos) (tE C m sp gZ E ta Co):=by
 intro ah s σ H Q I h
 refine fk (pl:=pl) (dc (he ah s σ H _ I h) λu s1 ⟨x,H1,I1,rx,a,dx,fs,ex,ea,l,q⟩=>?_) ht
 subst ex
 obtain rfl:u=ae.ref a:=rx
 refine Hc I1 ea c hm l ?_
 exact PySem.W.callWith_K0 (first:=[.ref a]) I1.kIn hm.kp (Ee (us:=[.ref a]) (vs:=[.ref a]) F hr hb hd hx I1 (.cons rfl .nil) q)
structure Mk (K:aa)(C f:af):Prop where
 makes:dF K C=true
 init:ar K (.ref C) "__init__"=some (some (.ref f))
 fn:dn K (.ref f)=true
 kp:aq K (.ref C)=true
theorem Tq {ah:List (af×cN)}{σ:St}{H:Hp}{s:ak}{Q:VK}{us:List ae}{vs:List V}(M:Mk X.K C f)(F:cG X.prog X.w X.K X.mg X.base CX k f fd ps sp)(hr:d8 (k+1) X.A)(hb:bM X.K fd ps ds)(hd:bT gZ ds)
  (hx:iG CX X E) (I:Inv X ah σ H s) (r:bT vs us)
  (h:∀x dx,H x=none->H dx=none->dx≠x->sp (.ref x::(vs++gZ)) (upd (upd H dx (.own x)) x (.ins C dx [])) (λv H2=>v=.non/\Q (.ref x) H2) E) :
  aV (aZ X.prog X.w) X.A (call (.ref C) us) (EP X ah σ Q) X.xe s:=by
 have hq:=h (s.heap.objs.size+1) s.heap.objs.size (I.hok.fresh (gJ _)) (I.hok.fresh (av _)) (bc (hV _))
 have I2:=Inv.made (C:=C) I
 have r2:bT (V.ref (s.heap.objs.size+1)::(vs++gZ)) (ae.ref (s.heap.objs.size+1)::(us++ds)):=.cons rfl (r.append hd)
 have hl:(ae.ref (s.heap.objs.size+1)::us++ds).length=ps.length:=by
  have e:=r2.length
  rw[F.len _ _ _ _ hq]at e
  exact e.symm
 refine wpAny_call (To (f:=f) I.kIn M.makes M.init (beq_iff_eq.mp M.fn) (lu (F.run _ X.stack _ _ ⟨ae.ref (s.heap.objs.size+1)::us,[]⟩ (ae.ref (s.heap.objs.size+1)::(us++ds)) _ _ E (hr.make C us [])
  (I2.env0.make C us []) (hb _ (ae.ref (s.heap.objs.size+1)::us) I2.kIn hl) r2 hq) λr s' AM=>?_))
 cases r with
 |error e=>exact hx ah σ _ _ e s' I2 AM
 |ok fl=>
  cases fl with
  |ret u=>
   obtain⟨v,H',I3,rv,ev,q3⟩:=I2.after AM
   subst ev
   exact⟨rv,⟨V.ref (s.heap.objs.size+1),H',I3,rfl,q3⟩⟩
  |next=>exact False.elim AM
  |brk=>exact False.elim AM
  |cont=>exact False.elim AM
theorem UG (M:Mk X.K C f)(F:cG X.prog X.w X.K X.mg X.base CX k f fd ps sp)(hr:d8 (k+1) X.A)(hg:Gl X x)(hm:X.mg x=some (.ref C))(hb:bM X.K fd ps ds)(hd:bT gZ ds)(hx:iG CX X E)
  (ha:PA X (e::es) t) (kY:(x==("__debug__":aR))=false:=by decide) (he:ax (e::es) X.env=(false,bO e X.env)::ax es X.env:=by rfl) (iu:(cB pos (ax es X.env)).any (·.1)=false:=by rfl) :
  PE X (.Call (.Name x p) (e::es) [] pos) (Ck C sp gZ E t):=by
 intro ah s σ H Q I h
 refine fq (D2 I hg hm ?_ kY)
 refine fY (h₀:=X.base) I.ok.mod.kin M.kp (dc (ha pos ah s σ H _ I h) λus s1 ⟨vs,H1,I1,r,q⟩=>⟨I1.kIn,?_⟩) he iu
 exact Tq M F hr hb hd hx I1 r q
end
section
variable {X:Cx}{CX:pB}{k:Nat}{f C:af}{fd:aN}{ps ks:List aR}{sp:Sp}{E:XK}{x m:aR}{p pos dz vL:cD}{e o:Expr}{es:List Expr}{kws:List ir}{te ta:TE}{t tk:TA}{nm:Option aR}
variable {g:List ae->List ae->List ae}{gV:List V->List V->List V}
end
structure bA (N P:List aR)(sc:fv):Prop where
 kind:sc.kind=.function
 co:sc.isCoroutine=false
 gen:sc.isGenerator=false
 nd:N.Nodup
 pre:N.take P.length=P
 par:∀x∈P,sc.names.lookup x=some .local\/sc.names.lookup x=some .cell
 nofree:∀y∈sc.names,y.2≠.free
theorem KZ {kindOf:aR->Option br}{x:aR}:∀{binds:List (aR×ae)} {m:aR->Option ae},(∀v,(x,v)∉binds)->oP kindOf binds m x=m x
 |[],_,_=>rfl
 |(n,v)::r,m,h=>by
  unfold oP
  rw[KZ λw hw=>h w (ap _ hw)]
  split
  ·have:x≠n:=by rintro rfl;exact h v am
   simp[this]
  ·rfl
theorem K0 {kindOf:aR->Option br}{x:aR}:∀{binds:List (aR×ae)} {m:aR->Option ae},(∀v,(x,v)∉binds)->oO kindOf binds m x=m x
 |[],_,_=>rfl
 |(n,v)::r,m,h=>by
  unfold oO
  rw[K0 λw hw=>h w (ap _ hw)]
  split
  ·rfl
  ·have:x≠n:=by rintro rfl;exact h v am
   simp[this]
theorem K1 {kindOf:aR->Option br}{x:aR}{v:ae}:∀{P:List aR} {vs:List ae} {i:Nat} {m:aR->Option ae},P.Nodup->P[i]?=some x->vs[i]?=some v->kindOf x=some .local ->
  oP kindOf (P.zip vs) m x=some v
 |[],_,_,_,_,h,_,_=>by simp at h
 |_::_,[],_,_,_,_,h,_=>by simp at h
 |p::P,w::vs,0,m,nd,h1,h2,hk=>by
  simp at h1 h2;subst h1;subst h2
  show oP kindOf ((p,w)::P.zip vs) m p=_
  unfold oP
  rw[KZ λv hv=>(bH.mp nd).1 (eO hv).1,if_pos hk]
  simp
 |p::P,w::vs,i+1,m,nd,h1,h2,hk=>by
  show oP kindOf ((p,w)::P.zip vs) m x=_
  unfold oP
  exact K1 (i:=i) (bH.mp nd).2 (by simpa using h1) (by simpa using h2) hk
theorem K2 {kindOf:aR->Option br}{x:aR}{v:ae}:∀{P:List aR} {vs:List ae} {i:Nat} {m:aR->Option ae},P.Nodup->P[i]?=some x->vs[i]?=some v->kindOf x≠some .local ->
  oO kindOf (P.zip vs) m x=some v
 |[],_,_,_,_,h,_,_=>by simp at h
 |_::_,[],_,_,_,_,h,_=>by simp at h
 |p::P,w::vs,0,m,nd,h1,h2,hk=>by
  simp at h1 h2;subst h1;subst h2
  show oO kindOf ((p,w)::P.zip vs) m p=_
  unfold oO
  rw[K0 λv hv=>(bH.mp nd).1 (eO hv).1,if_neg hk]
  simp
 |p::P,w::vs,i+1,m,nd,h1,h2,hk=>by
  show oO kindOf ((p,w)::P.zip vs) m x=_
  unfold oO
  exact K2 (i:=i) (bH.mp nd).2 (by simpa using h1) (by simpa using h2) hk
def start (N:List aR)(vs:List V):St:=vs.map some++aG (N.length-vs.length) none
def mr (CX:pB)(P:bg)(w:bE)(K:aa)(mg:aR->Option ae)(base:aK)(N:List aR)(qual:aR)(scope:fv)(f:af)(cd:ae)(A:bv)(outer:List Env)(s:ak)(H:Hp)(E:XK):Cx where
 prog:=P
 w:=w
 K:=K
 mg:=mg
 base:=base
 A:=A.deeper (envOfC qual scope s.heap.objs.size f cd)
 N:=N
 s₀:=s
 H₀:=H
 env:=envOfC qual scope s.heap.objs.size f cd
 outer:=outer
 stack:=envOfC qual scope s.heap.objs.size f cd::outer
 ex:=[]
 calm:=true
 fn:=λ_=>true
 pn:=[]
 xe:=λe s'=>aV (aZ P w) (A.deeper (envOfC qual scope s.heap.objs.size f cd)) (leaving (envOfC qual scope s.heap.objs.size f cd) e) (λ_ s''=>CX outer H s E e s'') (λe' s''=>CX outer H s E e' s'') s'
theorem Lw {sc:fv}{n:Nat}{x:aR}(h:sc.names.lookup x=some .cell):∃c,(cellsFrom n sc.names []).lookup x=some c:=by
 have q:=gL sc.names n [] (.inl h)
 exact lB.mp q
theorem SC {CX:pB}{P:bg}{w:bE}{K:aa}{mg:aR->Option ae}{base:aK}{N ps:List aR}{qual:aR}{scope:fv}{f:af}{cd:ae}{A:bv}{outer:List Env}{s s1:ak}{H:Hp}{E:XK}{us:List ae}{vs:List V}
  (S:bA N ps scope) (hd:A.handled=none) (e0:nN P w K mg base A outer s H) (hl:vs.length=ps.length) (r:bT vs us)
  (x:InCallC s s.heap.objs.size (oP (envOfC qual scope s.heap.objs.size f cd).kindOf (ps.zip us) λ_=>none) (cellsFrom (s.heap.objs.size+1) scope.names []) (oO (envOfC qual scope s.heap.objs.size f cd).kindOf (ps.zip us) λ_=>none) s1) :
  Inv (mr CX P w K mg base N qual scope f cd A outer s H E) [] (start N vs) H s1:=by
 have iu:ps.length<=N.length:=by have:=congrArg fM S.pre;rw[cZ]at this;omega
 obtain⟨h1,tk,rfl,hk⟩:=x.done
 have Bx:∀b:af,b∉(mr CX P w K mg base N qual scope f cd A outer s H E).ex:=λb z=>absurd (show b∈([]:List af)from z) (by simp)
 refine⟨⟨e0.mod,S.kind,rfl,rfl,av _,λy z c h1 h2=>?_,λy hy=>?_,λy c _ h=>?_,λ_=>hd,bv.frames_deeper e0.frames,.inr ⟨rfl,rfl⟩,λb z=>absurd z (Bx b),e0.bs,e0.bsz,λb _ _=>Bx b,λb z=>absurd z (Bx b),e0.funs,e0.frf⟩,
  rfl,e0.bare,Un.kept hk,⟨_,x.toInCall.ns,λi y v h1 h2 h3=>?_⟩,λy c h=>⟨_,x.cell y c h⟩,e0.hok.fresh (av _),λy c h=>?_,λp hp=>absurd (show p∈([]:List (af×cN))from hp) (by simp),e0.hok.kept hk,?_⟩
 ·exact name_of_addr x.apart (PySem.mem_of_lookup h1) (PySem.mem_of_lookup h2)
 ·have hy:scope.names.lookup y=some .cell\/scope.names.lookup y=some .free:=hy
  rcases hy with hy|hy
  ·exact Lw hy
  ·exact absurd rfl (S.nofree _ (PySem.mem_of_lookup hy))
 ·exact iA (x.above y c (PySem.mem_of_lookup h))
 ·have hi:i<vs.length:=by
   unfold start at h2
   by_cases hi:i<vs.length
   ·exact hi
   ·rw[cO (by simpa using hi)]at h2
    rw[eT]at h2
    split at h2<;>cases h2
  have ha:vs[i]?=some v:=by
   unfold start at h2
   rw[cz (by simpa using hi),aW]at h2
   cases e:vs[i]? with
   |none=>rw[e]at h2;cases h2
   |some a=>rw[e]at h2;cases h2;rfl
  obtain⟨u,hu,rv⟩:=r.get ha
  have hp:ps[i]?=some y:=by
   rw[←S.pre,List.getElem?_take_of_lt (by omega)];exact h1
  have JD:ps.Nodup:=by rw[←S.pre];exact S.nd.sublist (List.take_sublist _ _)
  refine⟨u,rv,?_⟩
  rcases S.par y (List.mem_of_getElem? hp)with k|k
  ·exact .inl ⟨k,K1 JD hp hu k⟩
  ·obtain⟨c,e⟩:=Lw (n:=s.heap.objs.size+1) k
   refine .inr ⟨.inl k,c,e,?_⟩
   have q:=x.cell y c e
   rw[K2 JD hp hu (by show scope.names.lookup y≠_;rw[k];decide)]at q
   exact q
 ·exact e0.hok.fresh (iA (x.above y c (PySem.mem_of_lookup h)))
 ·unfold start
  show _=N.length
  rw[bn,aF,cY]
  omega
theorem WT {CX:pB}{P:bg}{w:bE}{K:aa}{mg:aR->Option ae}{base:aK}{k:Nat}{f:af}{name qual:aR}{params:Arguments}{body:List bN}{scope:fv}{dV kV doc pm ie ct oc:ae}{an od:Option af}
    {vO:Array (Option ae)} {N ps:List aR} {sp:Sp} (lk:K.lookup f=some ⟨oc,od,.func (fR name qual params body scope dV kV doc pm an ie ct),vO⟩) (jD:aD K ie qual=true) (S:bA N ps scope)
    (len:∀vs H Q E,sp vs H Q E->vs.length=ps.length)
    (pT:∀(A:bv) (outer:List Env) (s:ak) (H:Hp) (vs:List V) (Q:VK) (E:XK),d8 k (A.deeper (envOfC qual scope s.heap.objs.size f ie))->sp vs H Q E ->
      ∃t,oA (mr CX P w K mg base N qual scope f ie A outer s H E) body t/\t { nx:=λ_ H'=>Q .non H',rt:=Q } (start N vs) H) :
    cG P w K mg base CX (k+1) f (fR name qual params body scope dV kV doc pm an ie ct) ps sp:=by
  refine⟨len,λA outer s H args us vs Q E hr e0 hb r sX=>?_⟩
  have hl:=len _ _ _ _ sX
  have KX:K.In s.heap:=e0.mod.kin.keeps λb o e=>(e0.bs b o e).1
  have lim:s.heap.NoLimit:=e0.mod.nolimit.keeps λb o e=>(e0.bs b o e).1
  have AE:∀y∈ps.zip us,scope.names.lookup y.1=some .local\/(scope.names.lookup y.1=some .cell/\((cellsFrom (s.heap.objs.size+1) scope.names []).lookup y.1).isSome=true):=λ⟨n,v⟩ hy=>by
    rcases S.par n (eO hy).1 with q|q
    · exact .inl q
    · exact .inr ⟨q,gL _ _ _ (.inl q)⟩
  refine codeAny_call_function hr.depth (KX _ _ lk) rfl S.co S.gen rfl (PySem.W.codeRec_of KX jD) (hb _ _ _ _ ?_)
  refine wpAny_newFunctionEnv_cells S.kind AE λenv he s1 x=>?_
  subst he
  refine⟨lim.keeps x.toInCall.keep,codeAny_func ?_⟩
  obtain⟨t,ht,hq⟩:=pT A outer s H vs Q E (hr.deeper _) sX
  have I:Inv (mr CX P w K mg base N qual scope f ie A outer s H E) [] (start N vs) H s1:=SC S hr.hd e0 hl r x
  refine dU (ht [] s1 (start N vs) H _ I hq) (λfl s' hs=>?_) λe s' hs=>hs
  have fin:∀{σ':St} {H':Hp} {v:V} {u:ae},Inv (mr CX P w K mg base N qual scope f ie A outer s H E) [] σ' H' s'->RelV v u->Q v H'->CE outer P w H s Q u s' :=
    λ{σ' H' v u} J rv q=>⟨v,H',J.os,J.bare,J.base,J.hok,rv,q⟩
  cases fl with
  |ret u=>
    obtain⟨v,σ',H',J,rv,q⟩:=hs
    exact fin J rv q
  |next=>
    obtain⟨σ',H',J,q⟩:=hs
    exact fin (v:=V.non) (u:=ae.none) J rfl q
  |brk=>
    obtain⟨_,_,_,q⟩:=hs
    exact False.elim q
  |cont=>
    obtain⟨_,_,_,q⟩:=hs
    exact False.elim q
end L2
namespace L2
open PySem PySem.Spec PyProof.Rows
section
variable {X:Cx}{x:aR}{p pos:cD}{e:Expr}{es:List Expr}{t:TA}{id T:String}{r:List V->Hp->VK->Prop}
def JY (r:List V->Hp->VK->Prop)(t:TA):TE:=λσ H Q=>t σ H λvs H1=>r vs H1 Q
theorem DR (hc:eo X (.builtin id) r)(hg:Gl X x)(hm:X.mg x=none)(hv:bL x=some (.builtin id))(ha:PA X (e::es) t)(hn:x≠"__name__":=by decide)(kY:(x==("__debug__":aR))=false:=by decide)
  (he:ax (e::es) X.env=(false,bO e X.env)::ax es X.env:=by rfl) (iu:(cB pos (ax es X.env)).any (·.1)=false:=by rfl):PE X (.Call (.Name x p) (e::es) [] pos) (JY r t):=by
 intro ah s σ H Q I h
 refine fq (wI I hg hm hv ?_ hn kY)
 exact PyProof.Rows.callWith_builtin1 (dc (ha pos ah s σ H _ I h) λus s1 ⟨vs,H1,I1,r1,q1⟩=>hc ah s1 σ H1 vs us Q I1 r1 q1) he iu
theorem SD (hc:eo X (.type T) r)(hg:Gl X x)(hm:X.mg x=none)(hv:bL x=some (.type T))(ha:PA X (e::es) t)(hn:x≠"__name__":=by decide)(kY:(x==("__debug__":aR))=false:=by decide)
  (he:ax (e::es) X.env=(false,bO e X.env)::ax es X.env:=by rfl) (iu:(cB pos (ax es X.env)).any (·.1)=false:=by rfl):PE X (.Call (.Name x p) (e::es) [] pos) (JY r t):=by
 intro ah s σ H Q I h
 refine fq (wI I hg hm hv ?_ hn kY)
 exact dg (dc (ha pos ah s σ H _ I h) λus s1 ⟨vs,H1,I1,r1,q1⟩=>hc ah s1 σ H1 vs us Q I1 r1 q1) he iu
end
end L2
namespace HT
open PySem PyProof.Rows
section
open PySem.SeqAt
open PySem.AutoSeq1 (wpAny_loadPart')
open PySem.MeetsSeq PySem.MeetsSeq2 PySem.MeetsSeq3
end
section
variable {prog:bg}{w:bE}{A:bv}{E:ae->ak->Prop}{s:ak}
theorem cat_tup {t b:af}{vs ws:List ae}{Q:ae->ak->Prop}(ht:IsTup s.heap t vs.toArray)(hb:IsTup s.heap b ws.toArray)(hv:vs≠[])
    (h1:ws=[]->Q (.ref t) s) (h2:ws≠[]->Q (.ref s.heap.objs.size) { s with heap:=s.heap.push { cls:=.type "tuple",data:=.seq (vs++ws).toArray } })
    (hsz:vs.length+ws.length<=sizeLine):aV (aZ prog w) A (dO .Add (.ref t) (.ref b)) Q E s:=by
  obtain⟨⟨cls,dd,data,sl⟩,ho,hc,n,hd⟩:=id ht
  obtain⟨⟨EW,sL,data2,Ce⟩,Dh,sO,n2,hd2⟩:=id hb
  simp only at hc hd sO hd2
  subst hc hd sO hd2
  have e:vs.toArray++ws.toArray=(vs++ws).toArray:=by simp
  by_cases hw:ws=[]
  · exact pf ⟨_,ho,rfl⟩ ⟨_,Dh,rfl⟩ noFill_tuple_add seq_tuple_add PySem.F.slot_tuple_add PySem.F.entry_tuple_add (PySem.F.args_tuple_add_2 _ _)
      (tuple_addW1 t b vs.toArray ws.toArray n n2 dd sL sl Ce (by simpa using hv) (by simp[hw])) ⟨ho,Dh,h1 hw⟩
  · refine pf ⟨_,ho,rfl⟩ ⟨_,Dh,rfl⟩ noFill_tuple_add seq_tuple_add PySem.F.slot_tuple_add PySem.F.entry_tuple_add (PySem.F.args_tuple_add_2 _ _)
      (tuple_addW2 t b vs.toArray ws.toArray n n2 dd sL sl Ce (by simpa using hv) (by simpa using hw) (by rw[aT,aT];exact hsz)) ⟨ho,Dh,?_⟩
    rw[e]
    exact h2 hw
def sIx (n d:Nat):Option Int->Nat
 |none=>d
 |some v=>if v<0 then(v+(n:Int)).toNat else min v.toNat n
theorem sIx_none (n d:Nat):sIx n d none=d:=rfl
theorem sIx_nat (n d k:Nat):sIx n d (some (k:Int))=min k n:=by
 show(if(k:Int)<0 then((k:Int)+(n:Int)).toNat else min (k:Int).toNat n)=min k n
 rw[if_neg (by omega),kj]
theorem Vq (n d:Nat)(hd:d<=n)(o:Option Int):sIx n d o<=n:=by
 cases o with
 |none=>exact hd
 |some v=>
  show(if v<0 then(v+(n:Int)).toNat else min v.toNat n)<=n
  by_cases hv:v<0
  ·rw[if_pos hv];omega
  ·rw[if_neg hv];exact Nat.min_le_right _ _
theorem LV (v:Int)(n d:Nat):(if v<0 then max (v+(n:Int)) 0 else min v (n:Int))=((sIx n d (some v):Nat):Int):=by
 show(if v<0 then max (v+(n:Int)) 0 else min v (n:Int))=(((if v<0 then(v+(n:Int)).toNat else min v.toNat n):Nat):Int)
 by_cases hv:v<0
 ·simp only[if_pos hv];omega
 ·simp only[if_neg hv];omega
theorem Sa (lo hi:Option Int)(n:Nat):cr.Slice.sliceAdjust lo hi 1 (n:Int)=(((sIx n 0 lo:Nat):Int),((sIx n n hi:Nat):Int)):=by
 have h1:¬((1:Int)<0):=by omega
 unfold cr.Slice.sliceAdjust
 simp only[h1,if_false]
 refine Prod.ext ?_ ?_
 ·cases lo with
  |none=>rfl
  |some v=>exact LV v n 0
 ·cases hi with
  |none=>rfl
  |some v=>exact LV v n n
theorem Sb (i j:Nat):cr.Slice.slicePlaces (i:Int) (j:Int) 1=j-i:=by
 unfold cr.Slice.slicePlaces
 have h1:(1:Int) > 0:=by omega
 simp only[h1,if_true,Int.ediv_one]
 split<;>omega
theorem Kv {v:ae}{o:Option Int}{Q:Option Int->ak->Prop}(p:IsPart v o)(h:Q o s):aV (aZ prog w) A (cr.Slice.slicePartIndex v) Q E s:=by
 cases p with
 |none=>exact slicePart_none h
 |int i t=>exact slicePart_int h
theorem Q7 {sl:af}{vl vu:ae}{lo hi:Option Int}{n:Nat}{Q:Int×Int×Nat->ak->Prop}(hs:s.heap.IsSliceOf sl vl vu .none)(pl:IsPart vl lo)(pu:IsPart vu hi)
  (h:Q (((sIx n 0 lo:Nat):Int),1,sIx n n hi-sIx n 0 lo) s):aV (aZ prog w) A (cr.Slice.sliceApplied (.ref sl) (pure (n:Int))) Q E s:=by
 obtain⟨os,AJ,qX,sP⟩:=id hs
 unfold cr.Slice.sliceApplied cr.Slice.sliceFields
 refine ao (ao (wpAny_field AJ sP (x:=vl) rfl (ao (wpAny_field AJ sP (x:=vu) rfl (ao (wpAny_field AJ sP (x:=.none) rfl (aB ?_)))))))
 refine ao (slicePart_none ?_)
 show aV _ _ (if((1:Int)==0)=true then _ else _) _ _ s
 rw[if_neg (by decide)]
 refine ao (Kv pl (ao (Kv pu (ao (aB ?_)))))
 show aV _ _ (match cr.Slice.sliceAdjust lo hi 1 (n:Int)with|(lo,hi)=>pure (lo,(1:Int),cr.Slice.slicePlaces lo hi 1)) _ _ s
 rw[Sa lo hi n]
 show aV _ _ (pure (((sIx n 0 lo:Nat):Int),(1:Int),cr.Slice.slicePlaces ((sIx n 0 lo:Nat):Int) ((sIx n n hi:Nat):Int) 1)) _ _ s
 rw[Sb]
 exact aB h
theorem Tr (xs:Array ae)(i k:Nat):((aE k).filterMap λ(m:Nat)=>xs[((i:Int)+(m:Int)*1).toNat]?).toArray=((xs.toList.drop i).take k).toArray:=by
 have e:(λ(m:Nat)=>xs[((i:Int)+(m:Int)*1).toNat]?)=λm=>xs[i+m]?:=by
  funext m
  have:((i:Int)+(m:Int)*1).toNat=i+m:=by omega
  rw[this]
 rw[e]
 have:=pick_run xs i k
 rw[List.filterMap_map]at this
 have e2:((λx=>xs[x]?) ∘ λx=>i+x)=λm=>xs[i+m]?:=rfl
 rw[e2]at this
 rw[this]
theorem getItem_tuple_cut {t sl:af}{items:Array ae}{vl vu:ae}{lo hi:Option Int}{Q:ae->ak->Prop}(ht:IsTup s.heap t items)(hs:s.heap.IsSliceOf sl vl vu .none)(pl:IsPart vl lo)(pu:IsPart vu hi)
    (hw:¬(sIx items.size 0 lo=0/\sIx items.size items.size hi=items.size))
    (h:Q (.ref s.heap.objs.size) { s with heap:=s.heap.push { cls:=.type "tuple",data:=.seq ((items.toList.drop (sIx items.size 0 lo)).take (sIx items.size items.size hi-sIx items.size 0 lo)).toArray } })
    (hsz:items.size<=sizeLine):aV (aZ prog w) A (mR (.ref t) (.ref sl)) Q E s:=by
  have lU:sizeOk (.seq ((items.toList.drop (sIx items.size 0 lo)).take (sIx items.size items.size hi-sIx items.size 0 lo)).toArray):=by
    show((items.toList.drop (sIx items.size 0 lo)).take (sIx items.size items.size hi-sIx items.size 0 lo)).toArray.size<=sizeLine
    rw[aT,cZ,fK,dm]
    omega
  have hj:sIx items.size items.size hi<=items.size:=Vq _ _ (av _) hi
  obtain⟨os,AJ,qX,sP⟩:=id hs
  have Oc:s.TypeIs (.ref sl) "slice":=⟨os,AJ,qX⟩
  unfold mR
  try with_reducible refine e6 ?_
  first|refine ao (aB ?_)|skip
  refine ao (wpAny_sequenceKey ht.typeIs (by decide) ?_)
  refine ao (wpAny_callSpecial?_slot (name:=aR.ofString "__getitem__") ht.typeIs eL
    (wpAny_call_entry eL ht.typeIs entry_tuple_getitem ?_ (args_tuple_getitem _ _)))
  show aV _ _ (cr.Tuple.tupleItemsOf (.ref t) >>= _) _ _ s
  refine ao (tupleItemsOf_ ht ?_)
  refine ao (wpAny_typeOf Oc ?_)
  rw[if_pos (by decide)]
  refine ao (Q7 hs pl pu ?_)
  have OB:¬((((sIx items.size 0 lo:Nat):Int)==0&&(1:Int)==1&&(sIx items.size items.size hi-sIx items.size 0 lo)==items.size)=true):=by
    intro q
    rw[cH,cH]at q
    have q1:((sIx items.size 0 lo:Nat):Int)=0:=eq_of_beq q.1.1
    have q2:sIx items.size items.size hi-sIx items.size 0 lo=items.size:=eq_of_beq q.2
    exact hw ⟨by omega,by omega⟩
  show aV _ _ (if(((sIx items.size 0 lo:Nat):Int)==0&&(1:Int)==1&&(sIx items.size items.size hi-sIx items.size 0 lo)==items.size)=true then _ else _) _ _ s
  rw[if_neg OB,Tr]
  first
    |exact ao (m:=cr.Tuple.tupleExact _) (cF (aB ⟨_,rfl,aB h⟩) lU)
    |exact ao (m:=cr.Tuple.tupleExact _) (cF (ao (aB (aB ⟨_,rfl,aB h⟩))) lU)
    |exact ao (ao (m:=cr.Tuple.tupleExact _) (cF (aB (aB ⟨_,rfl,aB h⟩)) lU))
    |exact ao (ao (m:=cr.Tuple.tupleExact _) (cF (aB ⟨_,rfl,aB h⟩) lU))
end
end HT
namespace L2
open PySem PySem.Spec PyProof.Rows
abbrev TO:=St->Hp->(Option Int->Hp->Prop)->Prop
def PO (X:Cx)(e:Option Expr)(t:TO):Prop :=
 ∀(ah:List (af×cN)) (s:ak) (σ:St) (H:Hp) (Q:Option Int->Hp->Prop),Inv X ah σ H s->t σ H Q ->
  aV (aZ X.prog X.w) X.A (evalPart e X.env) (λu s'=>∃o H',Inv X ah σ H' s'/\IsPart u o/\Q o H') X.xe s
def rZ:TO:=λ_ H Q=>Q none H
def Cq (t:TE):TO:=λσ H Q=>t σ H λx H1=>∃i,x=.int i/\Q (some i) H1
theorem Sd {ns:List Int}:∀{us:List ae},bT (ns.map V.int) us->IntsAre us ns:=by
 induction ns with
 |nil=>intro us r;rw[jV]at r;cases r;exact .nil
 |cons n ns ih=>
  intro us r
  rw[bG]at r
  cases r with
  |cons r1 r2=>
   obtain⟨t,e⟩:=r1
   subst e
   exact .cons n t (ih r2)
section
variable {X:Cx}{e:Expr}{te:TE}{lo hi:Option Expr}{tl th:TO}{pos p2:cD}
theorem UH:PO X none rZ:=by
 intro ah s σ H Q I h
 rw[evalPart_none]
 exact aB ⟨none,H,I,.none,h⟩
theorem UI (h:PE X e te):PO X (some e) (Cq te):=by
 intro ah s σ H Q I hw
 rw[evalPart_some]
 refine dc (h ah s σ H _ I hw) λu s1 di=>?_
 obtain⟨x,H1,I1,r1,q1⟩:=di
 obtain⟨i,rfl,q⟩:=q1
 obtain⟨t,rfl⟩:=r1
 exact⟨some i,H1,I1,.int i t,q⟩
def EE (X:Cx)(r:V->Option Int->Option Int->Hp->VK->Prop):Prop :=
 ∀(ah:List (af×cN)) (s:ak) (σ:St) (H:Hp) (x:V) (v vl vu:ae) (lo hi:Option Int) (sl:af) (Q:VK),Inv X ah σ H s->RelV x v->s.heap.IsSliceOf sl vl vu .none->IsPart vl lo->IsPart vu hi->r x lo hi H Q ->
  ∃T id,typeLookup (.type T) "__getitem__"=pure (some (.builtin id))/\s.TypeIs v T/\aV (aZ X.prog X.w) X.A (mR v (.ref sl)) (EP X ah σ Q) X.xe s
def QL (r:V->Option Int->Option Int->Hp->VK->Prop)(te:TE)(tl th:TO):TE:=λσ H Q=>te σ H λx H1=>tl σ H1 λl H2=>th σ H2 λu H3=>r x l u H3 Q
theorem Lx {r:V->Option Int->Option Int->Hp->VK->Prop}(hr:EE X r)(he:PE X e te)(hl:PO X lo tl)(hu:PO X hi th):PE X (.Subscript e (.Slice lo hi none p2) pos) (QL r te tl th):=by
  intro ah s σ H Q I h
  refine Subscript_ (dc (he ah s σ H _ I h) λv s1 di=>?_)
  obtain⟨x,H1,I1,r1,q1⟩:=di
  refine wpAny_Slice (dc (hl ah s1 σ H1 _ I1 q1) λvl s2 ⟨l,H2,I2,pl,q2⟩=>dc (hu ah s2 σ H2 _ I2 q2) λvu s3 di=>?_)
  obtain⟨u,H3,I3,pu,q3⟩:=di
  rw[evalPart_none]
  refine aB ?_
  have I4:Inv X ah σ H3 { s3 with heap:=s3.heap.push { cls:=.type "slice",data:=.fields #[vl,vu,.none] } }:=I3.kept (t':=s3.toks) λb ob q=>aC _ q
  obtain⟨T,id,hT,ht,hg⟩:=hr ah { s3 with heap:=s3.heap.push { cls:=.type "slice",data:=.fields #[vl,vu,.none] } } σ H3 x v vl vu l u s3.heap.objs.size Q I4 r1 (aK.IsSliceOf.new ..) pl pu q3
  show aV (aZ X.prog X.w) X.A (subscriptTail e (.Slice lo hi none p2) v (.ref s3.heap.objs.size)) (EP X ah σ Q) X.xe { s3 with heap:=s3.heap.push { cls:=.type "slice",data:=.fields #[vl,vu,.none] } }
  exact tail_any (ops:=[.ref s3.heap.objs.size,v]) ht hT hg (by with_unfolding_all rfl)
def mq (xs:List V)(lo hi:Option Int):List V:=(xs.drop (HT.sIx xs.length 0 lo)).take (HT.sIx xs.length xs.length hi-HT.sIx xs.length 0 lo)
theorem Kt (xs:List V)(lo hi:Option Int):(mq xs lo hi).length<=xs.length:=by
 unfold mq
 rw[cZ,fK]
 omega
def GP (K:aa):V->Option Int->Option Int->Hp->VK->Prop:=λx lo hi H Q=>∃a xs,x=.ref a/\gY K H a xs /\
 ¬(HT.sIx xs.length 0 lo=0/\HT.sIx xs.length xs.length hi=xs.length)/\∀p,H p=none->Q (.ref p) (upd H p (.tup (mq xs lo hi)))
theorem Vr:EE X (GP X.K):=by
 intro ah s σ H x v vl vu lo hi sl Q I rx hs pl pu h
 obtain⟨a,xs,rfl,hx,hw,q⟩:=h
 cases rx
 obtain⟨bZ,r,ht,hz⟩:=I.tuple hx
 have eF:bZ.toArray.size=xs.length:=by rw[aT];exact r.length.symm
 refine⟨"tuple",_,eL.lookup,ht.typeIs,?_⟩
 refine HT.getItem_tuple_cut ht hs pl pu (by rw[eF];exact hw) ?_ (by rw[eF];exact hz)
 rw[eF]
 refine⟨.ref s.heap.objs.size,_,I.laid (t':=s.toks) (o:=.tup (mq xs lo hi)) (λb ob q=>aC _ q) (av _) ?_,rfl,q _ (I.hok.fresh (av _))⟩
 exact⟨bS (Kt xs lo hi) hz,_,(r.drop (HT.sIx xs.length 0 lo)).take (HT.sIx xs.length xs.length hi-HT.sIx xs.length 0 lo),IsTup.new _ _⟩
def tw (K:aa):R2:=λx y H Q=>∃a b xs ys,x=.ref a/\y=.ref b/\gY K H a xs/\gY K H b ys/\xs≠[]/\xs.length+ys.length<=sizeLine /\
 (ys=[]->Q (.ref a) H)/\(ys≠[]->∀p,H p=none->Q (.ref p) (upd H p (.tup (xs++ys))))
theorem bT.nil_iff {xs:List V}{us:List ae}(r:bT xs us):us=[]↔xs=[]:=by
 cases r with
 |nil=>simp
 |cons _ _=>simp
theorem UJ:fw X (dO .Add) (tw X.K):=by
 intro ah s σ H x y v u Q I rx ry h
 obtain⟨a,b,xs,ys,rfl,rfl,ha,hb,hx,hz,q1,q2⟩:=h
 cases rx
 cases ry
 obtain⟨bZ,r1,p1,_⟩:=I.tuple ha
 obtain⟨rL,r2,p2,_⟩:=I.tuple hb
 refine HT.cat_tup p1 p2 (λz=>hx (r1.nil_iff.mp z)) (λz=>⟨.ref a,H,I,rfl,q1 (r2.nil_iff.mp z)⟩) (λz=>?_) (by rw[←r1.length,←r2.length];exact hz)
 refine⟨.ref s.heap.objs.size,_,I.laid (t':=s.toks) (o:=.tup (xs++ys)) (λb ob q=>aC _ q) (av _) ?_,rfl,q2 (λw=>z (r2.nil_iff.mpr w)) _ (I.hok.fresh (av _))⟩
 exact⟨by rw[bn];exact hz,_,r1.append r2,IsTup.new _ _⟩
end
end L2
namespace L2
open PySem PySem.Spec PyProof.Rows
def ixN (n:Nat)(i:Int):Option Nat:=if 0<=i then(if i<n then some i.toNat else none)else if -(n:Int)<=i then some (i+n).toNat else none
def atI {α:Type}(xs:List α)(i:Int):Option α:=(ixN xs.length i).bind λj=>xs[j]?
theorem LW {n:Nat}{i:Int}{j:Nat}(h:ixN n i=some j):seqIndex? i n=some j/\j<n/\-(n:Int)<=i/\i<n:=by
 unfold ixN at h
 by_cases h0:0<=i
 ·rw[if_pos h0]at h
  by_cases h1:i<n
  ·rw[if_pos h1]at h
   have e:i.toNat=j:=Option.some.inj h
   exact⟨by rw[mh h0 h1,e],by omega,by omega,h1⟩
  ·rw[if_neg h1]at h;cases h
 ·rw[if_neg h0]at h
  by_cases h1:-(n:Int)<=i
  ·rw[if_pos h1]at h
   have e:(i+n).toNat=j:=Option.some.inj h
   exact⟨by rw[lw (by omega) h1,e],by omega,h1,by omega⟩
  ·rw[if_neg h1]at h;cases h
theorem D4 {α:Type}{xs:List α}{i:Int}{v:α}(h:atI xs i=some v):∃j,seqIndex? i xs.length=some j/\xs[j]?=some v/\j<xs.length/\-(xs.length:Int)<=i/\i<xs.length:=by
 unfold atI at h
 cases e:ixN xs.length i with
 |none=>rw[e]at h;cases h
 |some j=>
  rw[e]at h
  obtain⟨h1,h2,h3,h4⟩:=LW e
  exact⟨j,h1,h,h2,h3,h4⟩
theorem u6 {α:Type}{xs:List α}{j:Nat}{v:α}(h:xs[j]?=some v):atI xs (j:Int)=some v:=by
 have hj:j<xs.length:=(aQ.mp h).1
 have e:ixN xs.length (j:Int)=some j:=by
  unfold ixN
  rw[if_pos (by omega),if_pos (by omega)];simp
 unfold atI;rw[e];exact h
def kO (b:Expr):Prop:=∀o i,subscripted b false o i=operate [o,i] (mR o i)
def qU (X:Cx)(r:R2):Prop :=
 ∀(value slice:Expr) (ah:List (af×cN)) (s:ak) (σ:St) (H:Hp) (x y:V) (v u:ae) (Q:VK),Inv X ah σ H s->RelV x v->RelV y u->r x y H Q ->
  subscripted slice false v u=operate [v,u] (mR v u)->aV (aZ X.prog X.w) X.A (subscriptTail value slice v u) (EP X ah σ Q) X.xe s
def Np (X:Cx)(id:String)(r:V->List V->Hp->VK->Prop):Prop :=
 ∀(ah:List (af×cN)) (s:ak) (σ:St) (H:Hp) (x:V) (xs:List V) (v:ae) (us:List ae) (Q:VK),Inv X ah σ H s->RelV x v->bT xs us->r x xs H Q ->
  aV (aZ X.prog X.w) X.A (call (.builtin id) (v::us)) (EP X ah σ Q) X.xe s
section
variable {X:Cx}{a b:Expr}{ta tb:TE}{pos:cD}
theorem qU.or {r r':R2}(h:qU X r)(h':qU X r'):qU X (λx y H Q=>r x y H Q\/r' x y H Q):=by
 intro value slice ah s σ H x y v u Q I rx ry q hs
 rcases q with q|q
 ·exact h value slice ah s σ H x y v u Q I rx ry q hs
 ·exact h' value slice ah s σ H x y v u Q I rx ry q hs
theorem MP {r:R2}(hr:qU X r)(ha:PE X a ta)(hb:PE X b tb)(hs:kO b):PE X (.Subscript a b pos) (DA r ta tb):=by
 intro ah s σ H Q I h
 exact Subscript_ (tW ha hb I h λv u s2 x y H2 I2 rx ry q=>hr a b ah s2 σ H2 x y v u Q I2 rx ry q (hs _ _))
def B7 (K:aa):R2:=λx y H Q=>∃p xs i v,x=.ref p/\y=.int i/\fm K H p xs/\atI xs i=some v/\Q v H
def B9 (K:aa):R2:=λx y H Q=>∃p xs i v,x=.ref p/\y=.int i/\gY K H p xs/\atI xs i=some v/\Q v H
def B8:R2:=λx y H Q=>∃z i c,x=.str z/\y=.int i/\z.length<=sizeLine/\atI z.cps.toList i=some c/\Q (.str ⟨#[c]⟩) H
theorem LX:qU X (B7 X.K):=by
 intro value slice ah s σ H x y v u Q I rx ry h hs
 obtain⟨p,xs,i,z,rfl,rfl,hq,he,q⟩:=h
 cases rx
 obtain⟨t,rfl⟩:=ry
 obtain⟨bZ,r,pl,hz⟩:=I.list hq
 obtain⟨j,h1,h2,h3,h4,h5⟩:=D4 he
 obtain⟨w,ew,n8⟩:=r.get h2
 have hl:=r.length
 have hn:=jE
 have fin:EP X ah σ Q w s:=⟨z,H,I,n8,q⟩
 by_cases h0:0<=i
 ·have hj:i.toNat=j:=by
   rw[mh h0 h5]at h1
   exact Option.some.inj h1
  exact item_listR pl.isList h0 (by omega) (by rw[hj];simpa using ew) fin hs
 ·have hj:(i+(bZ.toArray.size:Int)).toNat=j:=by
   rw[lw (by omega) h4]at h1
   rw[aT,←hl]
   exact Option.some.inj h1
  exact subscriptTail_builtinR (x:=w) pl.isList.typeIs slot_list_getitem.lookup
   (wpAny_getItem_list_neg (Q:=λr s'=>r=w/\EP X ah σ Q r s') pl.isList (by omega) (by rw[aT]<;>omega) (by omega) (by rw[hj];simpa using ew) ⟨rfl,fin⟩) hs
theorem Vs:qU X (B9 X.K):=by
 intro value slice ah s σ H x y v u Q I rx ry h hs
 obtain⟨p,xs,i,z,rfl,rfl,hq,he,q⟩:=h
 cases rx
 obtain⟨t,rfl⟩:=ry
 obtain⟨bZ,r,pl,hz⟩:=I.tuple hq
 obtain⟨j,h1,h2,h3,h4,h5⟩:=D4 he
 obtain⟨w,ew,n8⟩:=r.get h2
 have hl:=r.length
 have hn:=jE
 have fin:EP X ah σ Q w s:=⟨z,H,I,n8,q⟩
 exact subscriptTail_builtinR (x:=w) pl.typeIs slot_tuple_getitem.lookup
  (getItem_tuple (j:=j) (Q:=λr s'=>r=w/\EP X ah σ Q r s') pl (by omega) (by omega) (by rw[aT,←hl];exact h1) (by simpa using ew) ⟨rfl,fin⟩) hs
theorem Vt:qU X B8:=by
 intro value slice ah s σ H x y v u Q I rx ry h hs
 obtain⟨z,i,c,rfl,rfl,hz,he,q⟩:=h
 obtain⟨t,rfl⟩:=rx
 obtain⟨t',rfl⟩:=ry
 obtain⟨j,h1,h2,h3,h4,h5⟩:=D4 he
 have hl:z.cps.toList.length=z.length:=by simp[aR.length]
 rw[hl]at h1 h4 h5
 have hn:=jE
 exact tail_any (typeIs_str s z t) slot_str_getitem.lookup (getItem_str (c:=c) (by
  have e1:decide (i < -(2 ^ 63:Int))=false:=decide_eq_false (by omega)
  have e2:decide (i >= 2 ^ 63)=false:=decide_eq_false (by omega)
  rw[e1,e2,Bool.or_false]) (by rw[h1];simpa using h2) ⟨.str ⟨#[c]⟩,H,I.tok _,⟨_,rfl⟩,q⟩) hs
def JS (K:aa):R2:=λx y H Q=>B7 K x y H Q\/B9 K x y H Q\/B8 x y H Q
theorem tG:qU X (JS X.K):=LX.or (Vs.or Vt)
theorem Se (bZ:List ae)(n j:Nat)(u:ae):cN.mapSeq (·.setIfInBounds j u) { cls:=.type "list",data:=.seq bZ.toArray n } = { cls:=.type "list",data:=.seq (bZ.set j u).toArray n }:=by
  simp[cN.mapSeq]
theorem Inv.lst {ah:List (af×cN)}{σ:St}{H:Hp}{s:ak}{p:af}{xs:List V}(I:Inv X ah σ H s)(h:H p=some (.lst xs)) :
    ∃(bZ:List ae) (n:Nat),bT xs bZ/\s.heap.get? p=some { cls:=.type "list",data:=.seq bZ.toArray n }/\xs.length<=sizeLine:=by
  obtain⟨z,bZ,n,r,e⟩:=I.hok p _ h
  exact⟨bZ,n,r,e,z⟩
theorem Inv.lstUpd {ah:List (af×cN)}{σ:St}{H:Hp}{s:ak}{p:af}{xs ys:List V}{bZ its':List ae}{n n':Nat}{f:cN->cN}(I:Inv X ah σ H s)(h:H p=some (.lst xs))
    (ho:s.heap.get? p=some { cls:=.type "list",data:=.seq bZ.toArray n }) (hf:f { cls:=.type "list",data:=.seq bZ.toArray n } = { cls:=.type "list",data:=.seq its'.toArray n' }) (r:bT ys its') (hz:ys.length<=sizeLine) (t:Nat) :
    Inv X ah σ (upd H p (.lst ys)) { s with heap:=s.heap.update p f,toks:=t }:=by
  have e:(s.heap.update p f).get? p=some { cls:=.type "list",data:=.seq its'.toArray n' }:=by
    rw[nj f ho (by rw[hf]<;>rfl),hf]
  refine I.write (x:=p) (e:=p) (by rw[h];trivial) (.inl rfl) (λb u hb q=>(mM _ _ (Ne.symm hb)).trans q) ⟨_,e⟩ ?_
  exact⟨hz,its',n',r,e⟩
def Cc:V->V->V->Hp->(Hp->Prop)->Prop:=λo i v H Q=>∃p xs k j,o=.ref p/\i=.int k/\H p=some (.lst xs)/\ixN xs.length k=some j/\Q (upd H p (.lst (xs.set j v)))
theorem Hn:tS X Cc:=by
 intro ah s σ H o i v ov iv u Q I ro ri rv h
 obtain⟨p,xs,k,j,rfl,rfl,hp,hj,q⟩:=h
 cases ro
 obtain⟨t,rfl⟩:=ri
 obtain⟨bZ,n,r,ho,hz⟩:=I.lst hp
 obtain⟨h1,h2,h3,h4⟩:=LW hj
 have hl:=r.length
 have hn:=jE
 have I':Inv X ah σ (upd H p (.lst (xs.set j v))) { s with heap:=s.heap.update p (cN.mapSeq (·.setIfInBounds j u)) } :=
  I.lstUpd hp ho (Se bZ n j u) (r.set rv j) (by rw[qQ];exact hz) s.toks
 by_cases h0:0<=k
 ·have hk:k.toNat=j:=by
   rw[mh h0 h4]at h1
   exact Option.some.inj h1
  exact PySem.W.ki_setAt ho h0 (by omega) (by rw[aT,←hl];exact h4) (by rw[hk];exact⟨_,I',q⟩)
 ·have hk:(k+(bZ.toArray.size:Int)).toNat=j:=by
   rw[lw (by omega) h3]at h1
   rw[aT,←hl]
   exact Option.some.inj h1
  exact PySem.W.ki_setBack ho (by omega) (by rw[aT,←hl];exact h3) (by omega) (by rw[hk];exact⟨_,I',q⟩)
theorem Rw (lo hi:Option Int)(n:Nat):(gm lo hi none n).1=((HT.sIx n 0 lo:Nat):Int)/\(gm lo hi none n).2.1=((HT.sIx n n hi:Nat):Int)/\(gm lo hi none n).2.2=1:=by
 refine⟨?_,?_,rfl⟩
 ·cases lo with
  |none=>simp[gm,HT.sIx]
  |some i=>
   simp only[gm,HT.sIx,oM,show(1:Int) > 0 by decide,if_true]
   by_cases h:i<0
   ·simp only[h,if_true]<;>omega
   ·simp only[h,if_false]<;>omega
 ·cases hi with
  |none=>simp[gm,HT.sIx]
  |some i=>
   simp only[gm,HT.sIx,oM,show(1:Int) > 0 by decide,if_true]
   by_cases h:i<0
   ·simp only[h,if_true]<;>omega
   ·simp only[h,if_false]<;>omega
theorem Rt (bZ:List ae)(lo hi:Option Int):slicePick bZ.toArray lo hi none=((bZ.drop (HT.sIx bZ.length 0 lo)).take (HT.sIx bZ.length bZ.length hi-HT.sIx bZ.length 0 lo)).toArray:=by
 obtain⟨h1,h2,h3⟩:=Rw lo hi bZ.toArray.size
 unfold slicePick
 rw[h1,h2,h3]
 simp only[sliceRange_one,pick_run,aT]<;>rfl
def GO (K:aa):V->Option Int->Option Int->Hp->VK->Prop:=λx lo hi H Q=>∃a xs,x=.ref a/\fm K H a xs/\∀p,H p=none->Q (.ref p) (upd H p (.lst (mq xs lo hi)))
theorem UK:EE X (GO X.K):=by
 intro ah s σ H x v vl vu lo hi sl Q I rx hs pl pu h
 obtain⟨a,xs,rfl,hx,q⟩:=h
 cases rx
 obtain⟨bZ,r,ht,hz⟩:=I.list hx
 have eF:=r.length
 refine⟨"list",_,slot_list_getitem.lookup,ht.isList.typeIs,?_⟩
 refine wpAny_getItem_list_slice ht.isList hs pl pu .none (by simp) ?_ (by rw[aT]<;>omega)
 rw[Rt,←eF]
 refine⟨.ref s.heap.objs.size,_,I.laid (t':=s.toks) (o:=.lst (mq xs lo hi)) (λb ob q=>aC _ q) (av _) ?_,rfl,q _ (I.hok.fresh (av _))⟩
 exact⟨bS (Kt xs lo hi) hz,_,0,(r.drop (HT.sIx xs.length 0 lo)).take (HT.sIx xs.length xs.length hi-HT.sIx xs.length 0 lo),bq _ rfl⟩
theorem Rx:eo X (.builtin "len") (λxs H Q=>∃p ys,xs=[.ref p]/\(fm X.K H p ys\/gY X.K H p ys)/\Q (.int ys.length) H):=by
 intro ah s σ H xs us Q I r h
 obtain⟨p,ys,rfl,hq,q⟩:=h
 obtain⟨u,rfl,rx⟩:=ni r
 cases rx
 have hn:=jE
 rcases hq with hq|hq
 ·obtain⟨bZ,r',pl,hz⟩:=I.list hq
  have eF:=r'.length
  exact Calls.call_len_list pl.isList (by simp only[aT]<;>omega) ⟨.int ys.length,H,I.tok _,⟨s.toks+1,by rw[aT,eF]⟩,q⟩
 ·obtain⟨bZ,r',pl,hz⟩:=I.tuple hq
  have eF:=r'.length
  exact len_tuple pl (by simp only[aT]<;>omega) ⟨.int ys.length,H,I.tok _,⟨s.toks+1,by rw[aT,eF]⟩,q⟩
theorem Ry:eo X (.builtin "len") (λxs H Q=>∃z,xs=[.str z]/\z.length<=sizeLine/\Q (.int z.length) H):=by
 intro ah s σ H xs us Q I r h
 obtain⟨z,rfl,hz,q⟩:=h
 obtain⟨u,rfl,t,rfl⟩:=ni r
 have hn:=jE
 exact len_str (by omega) ⟨.int z.length,H,I.tok _,⟨_,rfl⟩,q⟩
theorem eo.or {f:ae}{r r':List V->Hp->VK->Prop}(h:eo X f r)(h':eo X f r'):eo X f (λxs H Q=>r xs H Q\/r' xs H Q):=by
 intro ah s σ H xs us Q I rs q
 rcases q with q|q
 ·exact h ah s σ H xs us Q I rs q
 ·exact h' ah s σ H xs us Q I rs q
theorem ud:eo X (.type "list") (λxs H Q=>∃p ys,xs=[.ref p]/\(fm X.K H p ys\/gY X.K H p ys)/\∀l,H l=none->Q (.ref l) (upd H l (.lst ys))):=by
  intro ah s σ H xs us Q I r h
  obtain⟨p,ys,rfl,hq,q⟩:=h
  obtain⟨u,rfl,rx⟩:=ni r
  cases rx
  have fin:∀(bZ:List ae),bT ys bZ->ys.length<=sizeLine->∀(h':aK) (c':Nat),(∀b o',s.heap.get? b=some o'->h'.get? b=some o') ->
      h'.get? s.heap.objs.size=some { cls:=.type "list",dict:=none,data:=.seq bZ.toArray c',slots:=#[] }->EP X ah σ Q (.ref s.heap.objs.size) { s with heap:=h' }:=λbZ r' hz h' c' kp e=>
    ⟨.ref s.heap.objs.size,_,I.laid (t':=s.toks) kp (av _) (show dw X.prog X.w _ h' _ (.lst ys)from⟨hz,bZ,c',r',e⟩),rfl,q _ (I.hok.fresh (av _))⟩
  rcases hq with hq|hq
  · obtain⟨bZ,r',pl,hz⟩:=I.list hq
    have eF:=r'.length
    obtain⟨o,ho,hc,n,hd⟩:=pl.isList
    exact call_list_seq p (.inl rfl) ho hc hd (λh' c' kp e=>fin bZ r' hz h' c' kp e) (by simp only[aT]<;>omega)
  · obtain⟨bZ,r',pl,hz⟩:=I.tuple hq
    have eF:=r'.length
    obtain⟨o,ho,hc,n,hd⟩:=pl
    exact call_list_seq p (.inr rfl) ho hc hd (λh' c' kp e=>fin bZ r' hz h' c' kp e) (by simp only[aT]<;>omega)
def J6 (K:aa)(T:String)(x:V)(H:Hp):Prop:=match x with
 |.str _=>T = "str"
 |.int _=>T = "int"
 |.ref p=>(T = "list"/\∃xs,fm K H p xs)\/(T = "tuple"/\∃o,K.lookup p=some o/\o.cls=.type "tuple"/\o.dict=none) \/
   (T = "dict"/\((∃bU,H p=some (.dK bU))\/∃bU,H p=some (.dT bU)))\/(T = "set"/\∃S n,H p=some (.set S n))
 |_=>False
theorem Vu {ah:List (af×cN)}{σ:St}{H:Hp}{s:ak}{T:String}{x:V}{v:ae}(I:Inv X ah σ H s)(r:RelV x v)(ty:J6 X.K T x H) :
  s.TypeIs v T/\∀a,v=.ref a->∃ob,s.heap.get? a=some ob/\ob.dict=none:=by
 cases x with
 |str z=>
  obtain⟨t,rfl⟩:=r
  cases(show T = "str" from ty)
  exact⟨typeIs_str s z t,λ_ e=>nomatch e⟩
 |int i=>
  obtain⟨t,rfl⟩:=r
  cases(show T = "int" from ty)
  exact⟨sD s i t,λ_ e=>nomatch e⟩
 |ref p=>
  cases r
  rcases ty with⟨rfl,xs,hq⟩|⟨rfl,o,hk,hc,hd⟩|⟨rfl,hk⟩|⟨rfl,S,n,hk⟩
  ·obtain⟨bZ,_,pl,_⟩:=I.list hq
   refine⟨pl.isList.typeIs,λa e=>?_⟩
   cases e
   obtain⟨o,n,e,c,hd,_⟩:=pl
   exact⟨o,e,hd⟩
  ·refine⟨⟨o,I.kIn p o hk,hc⟩,λa e=>?_⟩
   cases e
   exact⟨o,I.kIn _ o hk,hd⟩
  ·have z:∃o,s.heap.get? p=some o/\o.ExactDict:=by
    rcases hk with⟨bU,hk⟩|⟨bU,hk⟩
    ·obtain⟨_,_,_,_,o,_,_,e,ex,_⟩:=I.hok p _ hk
     exact⟨o,e,ex⟩
    ·obtain⟨_,_,_,_,o,_,_,e,ex,_⟩:=I.hok p _ hk
     exact⟨o,e,ex⟩
   obtain⟨o,e,ex⟩:=z
   refine⟨⟨o,e,ex.1⟩,λa e2=>?_⟩
   cases e2
   exact⟨o,e,ex.2.1⟩
  ·obtain⟨o,_,_,_,e,ex,_⟩:=I.hok p _ hk
   refine⟨⟨o,e,ex.1⟩,λa e2=>?_⟩
   cases e2
   exact⟨o,e,ex.2.1⟩
 |_=>exact False.elim ty
def QI (K:aa)(T:String)(r:V->List V->Hp->VK->Prop)(to:TE)(t:TA):TE:=λσ H Q=>to σ H λx H1=>J6 K T x H1/\t σ H1 λxs H2=>r x xs H2 Q
variable {o e:Expr}{es:List Expr}{to:TE}{t:TA}{name:aR}{dz d5:cD}{T id:String}{r:V->List V->Hp->VK->Prop}
theorem WU (pa:PlainAttrs T)(slot:Slot T name id)(OK:typeOf (.builtin id)=pure (.type "method_descriptor"))(hm:Np X id r)(ho:PE X o to)(ha:PA X (e::es) t)
  (pS:eY o name X.env (bO o X.env)=bO o X.env:=by rfl)
  (vA:((cB d5 (ax (e::es) X.env)).all (λx=>!x.1)&&(eZ d5 (dD [] X.env)).all (λx=>x.1.isSome)
   && decide ((e::es).length+([]:List ir).length+(if([]:List ir).isEmpty then 0 else 1)<30))=true:=by rfl)
  (pY:(dz.endLine==d5.line)=true:=by rfl) (hs:ax (e::es) X.env=(false,bO e X.env)::ax es X.env:=by rfl) (nZ:(cB d5 (ax es X.env)).any (·.1)=false:=by rfl) :
  PE X (.Call (.Attribute o name dz) (e::es) [] d5) (QI X.K T r to t):=by
 intro ah s σ H Q I h
 refine wpAny_Call_method_late pS vA pY rfl (dc (ho ah s σ H _ I h) λv s1 di=>?_)
 obtain⟨x,H1,I1,r1,ty,q1⟩:=di
 obtain⟨h1,h2⟩:=Vu I1 r1 ty
 refine⟨T,id,pa,slot,OK,h1,h2,?_⟩
 have hA:=ha d5 ah s1 σ H1 _ I1 q1
 rw[hs]at hA ⊢
 refine Calls.callWith_builtin (by show(false || (cB d5 (ax es X.env)).any (·.1))=false;rw[nZ]<;>rfl) (Calls.evalArgs_plain ?_)
 exact dc hA λus s2 ⟨vs,H2,I2,r2,q2⟩=>hm ah s2 σ H2 x vs v us Q I2 r1 r2 q2
end
end L2
namespace L2
open PySem PySem.Spec PyProof.Rows
def Nn (X:Cx)(id:String)(r:V->List V->Hp->VK->Prop):Prop :=
 ∀(ah:List (af×cN)) (s:ak) (σ:St) (H:Hp) (x:V) (xs:List V) (v:ae) (us:List ae) (Q:VK),Inv X ah σ H s->RelV x v->bT xs us->r x xs H Q ->
  aV (aZ X.prog X.w) X.A (call (.builtin id) (v::us)) (EP X ah σ Q) X.xe s
theorem bT.one:∀{x:V} {us:List ae},bT [x] us->∃u,us=[u]/\RelV x u
 |_,_,.cons r .nil=>⟨_,rfl,r⟩
theorem bT.rep {xs:List V}{us:List ae}(h:bT xs us):∀k:Nat,bT (aG k xs).flatten (aG k us).flatten
 |0=>.nil
 |k+1=>by
  rw[cA,cA,ek,ek]
  exact bT.append h (bT.rep h k)
theorem foldl_rep (bZ:List ae):∀(k:Nat) (fG:List ae),
  oJ (λx1 x2=>x1++x2) fG.toArray (aG k bZ.toArray)=(fG++(aG k bZ).flatten).toArray
 |0,fG=>by simp
 |k+1,fG=>by
  have e:fG.toArray++bZ.toArray=(fG++bZ).toArray:=by simp
  have e2:(fG++bZ)++(aG k bZ).flatten=fG++(aG (k+1) bZ).flatten:=by
   rw[cA,ek,e8]
  rw[←e2,←foldl_rep bZ k (fG++bZ),←e,cA,dM]
section
variable {X:Cx}{ah:List (af×cN)}{σ:St}{H:Hp}{s:ak}{l b:af}{xs ys zs:List V}
theorem Inv.lset {bZ its':List ae}{n:Nat}{f:Array ae->Array ae}{t':Nat}(I:Inv X ah σ H s)(hH:H l=some (.lst xs))
    (e:s.heap.get? l=some { cls:=.type "list",data:=.seq bZ.toArray n }) (hf:f bZ.toArray=its'.toArray) (hv:bT ys its') (hz:ys.length<=sizeLine) :
    Inv X ah σ (upd H l (.lst ys)) { s with heap:=s.heap.update l (cN.mapSeq f),toks:=t' }:=by
  have q:=PySem.IsL.update e f
  rw[hf]at q
  refine I.write (x:=l) (e:=l) (by rw[hH];exact trivial) (.inl rfl) (λb' u hb hu=>(mM s.heap (cN.mapSeq f) (Ne.symm hb)).trans hu) ⟨_,q⟩ ?_
  exact⟨hz,its',_,hv,q⟩
theorem Inv.lnew {bZ:List ae}{t':Nat}(I:Inv X ah σ H s)(hv:bT ys bZ)(hz:ys.length<=sizeLine) :
    Inv X ah σ (upd H s.heap.objs.size (.lst ys)) { s with heap:=s.heap.push { cls:=.type "list",data:=.seq bZ.toArray },toks:=t' } :=
  I.laid (λ_ _ q=>aC _ q) (av _) ⟨hz,bZ,0,hv,bq _ rfl⟩
theorem Inv.fresh (I:Inv X ah σ H s):H s.heap.objs.size=none:=I.hok.fresh (av _)
theorem Inv.lstM (I:Inv X ah σ H s)(hH:H l=some (.lst xs)):xs.length<=sizeLine/\∃(bZ:List ae) (n:Nat),bT xs bZ/\xs.length=bZ.length/\s.heap.get? l=some { cls:=.type "list",data:=.seq bZ.toArray n }:=by
  obtain⟨z,bZ,n,r,e⟩:=I.hok l _ hH
  exact⟨z,bZ,n,r,r.length,e⟩
theorem qD {n:Nat}(h:n<=sizeLine):cr.List.listTooLong n=false:=by
 unfold cr.List.listTooLong
 exact decide_eq_false (by omega)
end
section
variable {X:Cx}
def rW:V->List V->Hp->VK->Prop:=λx vs H Q=>∃l xs y,x=.ref l/\vs=[y]/\H l=some (.lst xs)/\xs.length<sizeLine/\Q .non (upd H l (.lst (xs++[y])))
theorem Hi:Nn X "list.append" rW:=by
 intro ah s σ H x vs v us Q I rx rv h
 obtain⟨l,xs,y,rfl,rfl,hH,hz,q⟩:=h
 cases rx
 obtain⟨u,rfl,ru⟩:=rv.one
 obtain⟨z,bZ,n,r,hl,e⟩:=I.lstM hH
 refine sC F.slot_list_append ⟨_,e,rfl⟩ F.entry_list_append (F.args_list_append_2 _ _) (PySem.list_append l bZ.toArray n u (by rw[aT];omega)) ⟨e,?_⟩
 refine⟨.non,_,I.lset (its':=bZ++[u]) hH e (by simp) (r.append (.cons ru .nil)) ?_,rfl,q⟩
 rw[bn,fE]
 omega
theorem UL {α:Type}(xs:List α)(k:Nat):(aG k xs).flatten.length=k*xs.length:=by
 induction k with
 |zero=>simp
 |succ k ih=>rw[cA,ek,bn,ih,nw,Nat.add_comm]
end
section
variable {prog:bg}{w:bE}{A:bv}{E:ae->ak->Prop}{s:ak}
end
section
variable {X:Cx}
end
end L2
namespace Att
open PySem PySem.W PySem.Calls PyProof.Rows
theorem Q9 {P:Params}{h:aK}:∀(ns:List Int) (vs:List ae),WellAll P h vs (ns.map WData.int)->IntsAre vs ns:=by
 intro ns
 induction ns with
 |nil=>
  intro vs w
  rw[jV]at w
  cases w
  exact .nil
 |cons n ns ih=>
  intro vs w
  rw[bG]at w
  cases w with
  |cons a b=>
   cases a
   exact .cons _ _ (ih _ b)
theorem SE {l:OpenLaw}{n:Nat}(hn:l.most=some n){P:Params}{h:aK}{args:List WData}{vals:List ae}
    (mC:l.row.toRowW.claim.pre args=true) (Gq:WellAll P h vals args) :
    ∃a vs ns,vals=[ae.ref a]/\args=[WData.list (ns.map WData.int)]/\h.get? a=some { cls:=.type "list",data:=.seq vs.toArray }/\IntsAre vs ns/\ns.length<=n:=by
  have OI:WShape.hasAll [] args [.list .int]=true:=(pre_splitW mC).1
  have hc:l.pre.holds [] { args:=args }=true:=(pre_splitW mC).2
  obtain⟨d,r,rfl,h1,h2⟩:=hasAllW_cons OI
  obtain rfl:=hasAllW_nil h2
  obtain⟨xs,rfl,h3⟩:=hasW_list h1
  obtain⟨ns,rfl⟩:=items_int h3
  have eF:ns.length<=n:=by
    unfold OpenLaw.pre at hc
    have h4:(WTm.not (.lt (.lit (.int (n:Int))) (.len (.arg 0)))).holds [] { args:=[.list (ns.map .int)] }=true:=by
      have h4:=(holds_andW hc).1
      rw[hn]at h4
      exact h4
    have h5:=condW_of h4 (w_not (w_lt w_lit (w_len_list (w_arg rfl))))
    rw[aF]at h5
    refine Nat.le_of_not_lt λq=>?_
    have q':(n:Int)<((ns.length:Nat):Int):=by omega
    first
      |(rw[decide_eq_true q']at h5;exact absurd h5 (by decide))
      |(simp at h5;omega)
  cases Gq with
  |cons w1 w2=>
    cases w2
    cases w1 with
    |list ho pR=>exact⟨_,_,ns,rfl,rfl,ho,Q9 ns _ pR,eF⟩
theorem SG (l:OpenLaw)(args:List WData):l.row.toRowW.claim.post args (.bool true) args=true :=
  postW_of (r:=l.row.toRowW) (X:=(true==true))
    (show WShape.has [] (.bool true) .bool=true by first|rfl|decide|simp[WShape.has,WShape.arms,WShape.armsAll])
    (show(WTm.eq .res (.lit (.bool true))).value [] { args:=args,res:=some (.bool true),after:=args }=some (.bool (true==true))from w_eq_bool (w_res rfl) w_lit) rfl
theorem attach_call {l:OpenLaw}{n:Nat}{q:bg}{loose:List aR}{XP:(aR->Option ae)->aK->Prop}{YP:bE->aK->Prop}{d:DefRec}
    (hn:l.most=some n) (AB:d.params.defaults=[])
    (call:∀(w:bE) (s₀ s₁:ak) (mg mb:aR->Option ae) (fa:af) (o:cN) (pm cd doc:ae) (a:af) (vs:List ae) (ns:List Int),
      Ground q loose [] XP w s₀ mg mb s₁.heap->YP w s₁.heap ->
      s₁.heap.get? fa=some o->o.data=.func (docDef d.name d.params d.body d.scope pm cd doc)->s₁.heap.CodeRec cd d.name->mg d.name=some (.ref fa) ->
      s₁.heap.get? a=some { cls:=.type "list",data:=.seq vs.toArray }->IntsAre vs ns->ns.length<=n->s₁.gens = #[] ->
      gI (aZ l.prog w) lr (.call (.ref fa) ⟨[.ref a],[]⟩) (λr s'=>r=.ok (.ret (.bool true))/\OldK s₁.heap s'.heap/\s'.os=s₁.os/\AllBare s'.gens) s₁) :
    WalkO q loose XP YP l.row.toRowW d [] (λf vs=>PySem.call f vs):=by
  intro w s₀ s₁ mg mb G Y fa o pm cd doc dV kV ho hd jD hD hmg hg args vals as mC Ox Xp Gq Xn
  obtain rfl:dV=.none:=Dflts.none hD AB
  obtain rfl:kV=.none:=Dflts.noKw hD
  obtain⟨a,vs,ns,rfl,rfl,vE,pX,eF⟩:=SE hn mC Gq
  refine enter_call (lu (call w s₀ s₁ mg mb fa o pm cd doc a vs ns G Y ho (fd_plain hd) jD hmg vE pX eF hg) λr s' hq=>?_)
  obtain⟨rfl,h2,h3,h4⟩:=hq
  exact⟨.inl ⟨.bool true,.bool true,[],rfl,λ_=>rfl,.bool true,SG l _,λ_=>⟨List.Pairwise.nil,λ_ hm=>(nomatch hm)⟩⟩,h2,h3,h4⟩
section
variable {prog:bg}{w:bE}{A:bv}{E:ae->ak->Prop}{s:ak}{K:Frag}
end
end Att
namespace L2
open PySem PySem.Spec PyProof.Rows
theorem K3:∀{vs:List ae} {ns:List Int},IntsAre vs ns->bT (ns.map V.int) vs
 |_,_,.nil=>.nil
 |_,_,.cons n t h=>.cons ⟨t,rfl⟩ (K3 h)
def tQ (H:Hp):Prop:=∀b,H b=none\/∃o xs,H b=some (.frz o (.lst xs))
theorem Ts {P:bg}{w:bE}{K:aa}{mg mb:aR->Option ae}{CX:pB}{k:Nat}{fa a:af}{fd:aN}{x:aR}{sp:Sp}{s₁:ak}{vs:List ae}{ns:List Int}
    (KX:K.In s₁.heap) (pE:s₁.heap.Ns aw mg) (hb:s₁.heap.Ns sA mb) (Og:∀x:aR,x≠"__name__"->mb x=bL x) (Ga:s₁.heap.NoLimit) (hg:s₁.gens = #[])
    (ha:s₁.heap.get? a=some { cls:=.type "list",data:=.seq vs.toArray }) (hi:IntsAre vs ns) (hl:ns.length<=sizeLine) (hr:d8 k lr)
    (F:∀base:aK,K.In base->base.Ns aw mg->cG P w K mg base CX k fa fd [x] sp) (AA:∀(s:ak) (u:ae),mP s fd ⟨[u],[]⟩ [(x,u)])
    (sX:∀H:Hp,tQ H->fm K H a (ns.map V.int)->sp [.ref a] H (λv _=>v=.bl true) λ_ _ _=>False)
    (FF:∀H e s',CX [] H s₁ (λ_ _ _=>False) e s'->False) :
    gI (aZ P w) lr (.call (.ref fa) ⟨[.ref a],[]⟩) (λr s'=>r=.ok (.ret (.bool true))/\OldK s₁.heap s'.heap/\s'.os=s₁.os/\AllBare s'.gens) s₁:=by
  have rv:=K3 hi
  have GC:=hi.length
  have core:∀H:Hp,tQ H->fm K H a (ns.map V.int)->jA P w H s₁.heap->(∀b,H b≠none->b=a)->(H a≠none->K.lookup a=none) ->
      gI (aZ P w) lr (.call (.ref fa) ⟨[.ref a],[]⟩) (λr s'=>r=.ok (.ret (.bool true))/\OldK s₁.heap s'.heap/\s'.os=s₁.os/\AllBare s'.gens) s₁:=by
    intro H hO hS hok hA hK
    have oB:∀{b:af} {o:cN},s₁.heap.get? b=some o->H b=none->(mz s₁.heap H).get? b=some o:=λe n=>Tf e n
    have Bx:∀{b:af} {o:cN} {es:Array DictEntry} {ep:Nat},s₁.heap.get? b=some o->o.data=.dict es ep->H b=none:=λ{b o es ep} e d=>by
      cases q:H b with
      |none=>rfl
      |some u=>
        have e':b=a:=hA b (by rw[q];simp)
        subst e'
        rw[ha]at e;cases e
        have d':oq.seq vs.toArray _=oq.dict es ep:=d
        cases d'
    have Dy:∀{b:af} {m:aR->Option ae},s₁.heap.Ns b m->(mz s₁.heap H).Ns b m:=λ{b m} ⟨o,es,ep,e,d,r⟩=>⟨o,es,ep,oB e (Bx e d),d,r⟩
    have IU:K.In (mz s₁.heap H):=λb o e=>oB (KX b o e) (by
      cases q:H b with
      |none=>rfl
      |some u=>
        have e':b=a:=hA b (by rw[q];simp)
        subst e'
        rw[hK (by rw[q];simp)]at e;cases e)
    have hM:Mod K mg (mz s₁.heap H):=⟨IU,Dy pE,⟨mb,Dy hb,Og⟩,let⟨mc,h1,h2⟩:=Ga;⟨mc,Dy h1,h2⟩⟩
    have e0:nN P w K mg (mz s₁.heap H) lr [] s₁ H:=⟨rfl,hM,λb o e=>Uc e,nr (RX _ _),trivial,λb hb=>absurd (show b∈([]:List af)from hb) (by simp),hok,.of_eq hg⟩
    refine lu ((F _ IU (Dy pE)).run lr [] s₁ H ⟨[.ref a],[]⟩ [.ref a] [.ref a] _ _ hr e0 (AA s₁ (.ref a)) (.cons rfl .nil) (sX H hO hS)) λr s' h=>?_
    cases r with
    |error e=>exact(FF H e s' h).elim
    |ok fl=>
      cases fl with
      |next=>exact False.elim h
      |brk=>exact False.elim h
      |cont=>exact False.elim h
      |ret u=>
        obtain⟨v,H',os,bare,un,Gf,r',q⟩:=h
        have q':v=.bl true:=q
        subst q'
        obtain rfl:u=ae.bool true:=r'
        refine⟨rfl,OldK.of_keep λb o e=>?_,os,bare⟩
        cases q:H b with
        |none=>exact un.keep b o e q (by intro z;exact absurd (show b∈([]:List af)from z) (by simp)) (by simp)
        |some u=>
          rcases hO b with z|⟨ob,xs,z⟩
          · rw[q]at z;cases z
          · have z2:=un.frzs b ob _ z
            obtain⟨e1,_⟩:=hok b _ z
            obtain⟨e2,_⟩:=Gf b _ z2
            rw[e]at e1;cases e1
            exact e2
  cases hk:K.lookup a with
  |some o=>
    have e:=KX a o hk
    rw[ha]at e
    cases e
    refine core (λ_=>none) (λ_=>.inl rfl) (.inr ⟨_,vs.toArray,_,hk,rfl,rfl,rfl,by rw[aT,GC];exact hl,by simpa using rv⟩) (λb u z=>by have z':(none:Option HO)=some u:=z;cases z') (λb z=>absurd rfl z) λz=>absurd rfl z
  |none=>
    refine core (λb=>if b=a then some (.frz { cls:=.type "list",data:=.seq vs.toArray } (.lst (ns.map V.int)))else none) (λb=>?_) (.inl (.inr ⟨{ cls:=.type "list",data:=.seq vs.toArray },if_pos rfl⟩)) (λb u z=>?_) (λb z=>?_) λ_=>hk
    · by_cases hb:b=a
      · exact .inr ⟨_,_,if_pos hb⟩
      · exact .inl (if_neg hb)
    · by_cases hb:b=a
      · have z':=(if_pos hb).symm.trans z
        cases z'
        subst hb
        exact⟨ha,by rw[aF];exact hl,vs,_,rv,ha⟩
      · have z':=(if_neg hb).symm.trans z
        cases z'
    · by_cases hb:b=a
      · exact hb
      · exact absurd (if_neg hb) z
end L2
namespace L2
open PySem PySem.Spec PyProof.Rows
theorem walk_of {l:ko}{n k:Nat}{q:bg}{loose:List aR}{XP:(aR->Option ae)->aK->Prop}{YP:bE->aK->Prop}{d:DefRec}{K:Params->aa}{CX:bE->pB}{sp:bE->Sp}{x:aR}
  (hn:l.most=some n) (sT:n<=sizeLine) (AB:d.params.defaults=[]) (hr:d8 k lr)
  (hY:∀(w:bE) (h:aK),YP w h->(K w.params).In h)
  (F:∀(w:bE) (mg:aR->Option ae) (fa:af) (h:aK),(K w.params).In h->h.Ns aw mg->mg d.name=some (.ref fa) ->
   ∃fd:aN,(∀(s:ak) (u:ae),mP s fd ⟨[u],[]⟩ [(x,u)]) /\
    ∀base:aK,(K w.params).In base->base.Ns aw mg->cG l.prog w (K w.params) mg base (CX w) k fa fd [x] (sp w))
  (sX:∀(w:bE) (H:Hp) (a:af) (ns:List Int),ns.length<=n->tQ H->fm (K w.params) H a (ns.map V.int)->sp w [.ref a] H (λv _=>v=.bl true) λ_ _ _=>False)
  (FF:∀(w:bE) (H:Hp) (s:ak) (e:ae) (s':ak),CX w [] H s (λ_ _ _=>False) e s'->False) :
  pI q loose XP YP l.row.toRowW d [] (λf vs=>PySem.call f vs):=by
 refine Att.attach_call hn AB λw s₀ s₁ mg mb fa o pm cd doc a vs ns G Y ho hd jD hmg vE pX eF hg=>?_
 have KX:=hY w _ Y
 obtain⟨fd,hb,hF⟩:=F w mg fa _ KX G.T.g hmg
 exact Ts KX G.T.g G.T.b G.T.builtins G.T.nolimit hg vE pX (bS eF sT) hr hF hb (λH hO hS=>sX w H a ns eF hO hS) λH e s'=>FF w H s₁ e s'
end L2
namespace L2
open PySem PySem.Spec PyProof.Rows
def inClass (s:bN)(j:Nat):bN:=match s with
 |.ClassDef _ _ _ body _ _ _ _ _ _ _=>body.getD j (.Pass ⟨0,0,0,0⟩)
 |_=>.Pass ⟨0,0,0,0⟩
def kP (s:bN):Arguments:=match s with
  |.FunctionDef _ a _ _ _ _ _ _ _ _=>a
  |_=>{ posonlyargs:=[],args:=[],vararg:=none,kwonlyargs:=[],kw_defaults:=[],kwarg:=none,defaults:=[] }
def gz (s:bN):List bN:=match s with
 |.FunctionDef _ _ b _ _ _ _ _ _ _=>b
 |_=>[]
def bb (s:bN):fv:=match s with
  |.FunctionDef _ _ _ _ _ _ sc _ _ _=>sc
  |_=>{ kind:=.function,names:=[],isGenerator:=false,isCoroutine:=false }
abbrev eU:pB:=λ_ _ _ _ _ _=>False
abbrev E0:XK:=λ_ _ _=>False
theorem nc {X:Cx}:iG eU X E0:=λ_ _ _ _ _ _ _ h=>h.elim
section
variable {P:bg}{w:bE}{K:aa}{mg:aR->Option ae}{base:aK}
end
theorem su {A:bv}{k:Nat}(hr:d8 k A):A.units+1<iM:=o9 (Nat.add_le_add_left (by decide:1<=64) _) hr.units
theorem oZ {n:Nat}(h:n<=1000):n<sizeLine:=o9 h (by decide)
section
variable {X:Cx}
end
def bJ (H H':Hp):Prop:=∀b o,H b=some o->H' b=some o
theorem bJ.refl (H:Hp):bJ H H:=λ_ _ h=>h
theorem bJ.trans {H H1 H2:Hp}(a:bJ H H1)(b:bJ H1 H2):bJ H H2:=λc o h=>b c o (a c o h)
theorem bJ.free {H H':Hp}(e:bJ H H'){l:af}(h:H' l=Option.none):H l=Option.none:=by
 cases q:H l with
 |none=>rfl
 |some o=>
  rw[e l o q]at h
  cases h
theorem bJ.seq {K:aa}{H H':Hp}{a:af}{xs:List V}(e:bJ H H')(h:fm K H a xs):fm K H' a xs:=by
 rcases h with(h|⟨o,h⟩)|h
 ·exact .inl (.inl (e _ _ h))
 ·exact .inl (.inr ⟨o,e _ _ h⟩)
 ·exact .inr h
end L2
namespace L2
open PySem PySem.Spec PyProof.Rows
def Nq (a C:af)(dx tb:Option af)(h:aK):Prop :=
  ∃a0,h.get? a=some { cls:=.ref C,dict:=dx,data:=.fields #[a0,tb.elim ae.none .ref,.none,.none,.bool false,.none] }
abbrev Kb (a C:af)(dx tb:Option af):HO:=.ext (Nq a C dx tb)
section
variable {X:Cx}{ah:List (af×cN)}{σ:St}{H:Hp}{s:ak}{a C:af}{dx tb:Option af}{M:Model}{A1 A2:bv}{E1 E2:ae->ak->Prop}
end
abbrev GK:=St->af->Hp->Prop
section
variable {X:Cx}{k:Nat}{f C:af}{fd:aN}{ps:List aR}{sp:Sp}{gZ:List V}{ds:List ae}{G:GK}{x m:aR}{p pos dz:cD}{e o:Expr}{es:List Expr}{ta:TE}{t:TA}
end
end L2
namespace L2
open PySem PySem.Spec PyProof.Rows
section
variable {nm q:aR}{C N:af}{bs bm:List ae}{FO:Bool}{sn:List aR}{sub:List ae}{ab:Bool}{col:Option Bool}{dd:Option af}{k0 k1 k2 k3 k5:Option ae}
variable {prog:bg}{w:bE}{A:bv}{R:Result->ak->Prop}{h:aK}{g:Array GenState}{d:Drawn}{t:Nat}{os:OsState}
end
end L2
namespace L2
open PySem PySem.Spec PyProof.Rows
section
variable {nm q:aR}{C N:af}{bs bm:List ae}{FO:Bool}{sn:List aR}{sub:List ae}{ab:Bool}{col:Option Bool}{dd:Option af}{k0 k1 k2 k3 k5:Option ae}
variable {prog:bg}{w:bE}{A:bv}{E:ae->ak->Prop}{h:aK}{g:Array GenState}{d:Drawn}{t:Nat}{os:OsState}
end
section
variable {nm q:aR}{C N:af}{bs bm:List ae}{sn:List aR}{sub:List ae}{ab:Bool}{col:Option Bool}{dd:Option af}{k0 k1 k2 k3 k5:Option ae}
variable {prog:bg}{w:bE}{A:bv}{E:ae->ak->Prop}{s:ak}{K:aa}{x:af}{dt:oq}{sl:Array (Option ae)}{name:aR}{v:ae}
end
end L2
set_option maxHeartbeats 4000000
namespace L2
open PySem PySem.Spec PyProof.Rows
section
variable {X:Cx}{ah:List (af×cN)}{σ:St}{H:Hp}{s:ak}{C:af}
variable {k:Nat}{f:af}{fd:aN}{ps:List aR}{sp:Sp}{x:aR}{p pos:cD}{e:Expr}{es:List Expr}{t:TA}{te:TE}{G:GK}
end
end L2
set_option maxHeartbeats 4000000
namespace L2
open PySem PySem.Spec PyProof.Rows
section
variable {X:Cx}{e:Expr}{es:List Expr}{te:TE}{pos:cD}
abbrev TF:=St->Hp->(Hp->Prop)->Prop
def PF (X:Cx)(e:Expr)(n:Nat)(t:TF):Prop:=∀(ah:List (af×cN)) (s:ak) (σ:St) (H:Hp) (Q:Hp->Prop),Inv X ah σ H s->t σ H Q ->
 aV (aZ X.prog X.w) X.A (bO e X.env) (λv s1=>∃y tk H1,v=.str y tk/\y.length<=n/\Inv X ah σ H1 s1/\Q H1) X.xe s
end
structure qW (K:aa)(C:af):Prop where
 ga:ar K (.ref C) "__getattribute__"=some (some (.builtin "BaseException.__getattribute__"))
 gn:ar K (.ref C) "__getattr__"=some none
 mB:dP K C (.type "BaseException")=some true
 hd:cM K C=true
 ca:ar K (.ref C) "__class__"=some (some (.builtin "object.__class__"))
 cg:dh K (.builtin "object.__class__") "__get__"=some (some (.builtin "getset_descriptor.__get__"))
 ct:gW K (.builtin "object.__class__")=some true
 mO:dP K C (.type "object")=some true
section
variable {prog:bg}{w:bE}{A:bv}{E:ae->ak->Prop}{s:ak}{K:aa}{x C:af}{ox:cN}{od:Option cN}
end
end L2
set_option maxHeartbeats 4000000
namespace L2
open PySem PySem.Spec PyProof.Rows
section
variable {X:Cx}{ah:List (af×cN)}{σ:St}{H:Hp}{s:ak}{E:ae->ak->Prop}{a:af}
end
end L2
set_option maxHeartbeats 4000000
namespace L2
open PySem PySem.Spec PyProof.Rows
section
variable {X:Cx}{e:Expr}{es:List Expr}{te:TE}{pos:cD}
end
end L2
namespace L2
open PySem PySem.Spec PyProof.Rows
section
variable {κ:Type}[DecidableEq κ]
def hG (bU:List (κ×V))(k:κ):Option V:=(bU.find? λkv=>decide (kv.1=k)).map (·.2)
def putK (bU:List (κ×V))(k:κ)(v:V):List (κ×V) :=
 if(bU.any λkv=>decide (kv.1=k))=true then bU.map (λkv=>if kv.1=k then(kv.1,v)else kv)else bU++[(k,v)]
theorem Ho {p:κ×V}{r:List (κ×V)}{k:κ}(e:p.1=k):hG (p::r) k=some p.2:=by simp[hG,cU,e]
theorem Hq {p:κ×V}{r:List (κ×V)}{k:κ}(e:¬p.1=k):hG (p::r) k=hG r k:=by simp[hG,cU,e]
theorem Ly (k:κ):∀bU:List (κ×V),(bU.any λkv=>decide (kv.1=k))=(hG bU k).isSome
 |[]=>rfl
 |p::r=>by
  rw[ma]
  by_cases e:p.1=k
  ·simp only[Ho e,decide_eq_true e,Bool.true_or,Option.isSome_some]
  ·rw[Hq e,decide_eq_false e,Bool.false_or];exact Ly k r
theorem Ku (bU:List (κ×V))(k:κ)(v:V):(putK bU k v).length<=bU.length+1:=by
 unfold putK
 split
 ·rw[aF];omega
 ·rw[bn,aP,List.length_nil];omega
theorem iR.isSome_eq {o:Option V}{u:Option ae}(r:iR o u):o.isSome=u.isSome:=by
 cases o with
 |none=>cases u with
  |none=>rfl
  |some _=>exact(show False from r).elim
 |some _=>cases u with
  |none=>exact(show False from r).elim
  |some _=>rfl
theorem iR.getD {o:Option V}{u:Option ae}{d:V}{d':ae}(r:iR o u)(rd:RelV d d'):RelV (o.getD d) (u.getD d'):=by
 cases o with
 |none=>cases u with
  |none=>exact rd
  |some _=>exact(show False from r).elim
 |some _=>cases u with
  |none=>exact(show False from r).elim
  |some _=>exact r
theorem KV.val {bU:List (κ×V)}{vs:List (κ×ae)}(r:KV bU vs)(k:κ):iR (hG bU k) (mS vs k):=by
 unfold KV at r
 induction r with
 |nil=>exact True.intro
 |@cons p q ps qs h t ih=>
  obtain⟨h1,h2⟩:=h
  by_cases e:p.1=k
  ·have e':q.1=k:=h1.symm.trans e
   have b:mS (q::qs) k=some q.2:=by simp[mS,cU,e']
   rw[Ho e,b];exact h2
  ·have e':¬q.1=k:=λz=>e (h1.trans z)
   have b:mS (q::qs) k=mS qs k:=by simp[mS,cU,e']
   rw[Hq e,b];exact ih
theorem KV.any {bU:List (κ×V)}{vs:List (κ×ae)}(r:KV bU vs)(k:κ):(bU.any λkv=>decide (kv.1=k))=vs.any λkv=>decide (kv.1=k):=by
 unfold KV at r
 induction r with
 |nil=>rfl
 |cons h t ih=>rw[ma,ma,ih,h.1]
theorem KV.repl {bU:List (κ×V)}{vs:List (κ×ae)}(r:KV bU vs)(k:κ){y:V}{u:ae}(ry:RelV y u) :
  KV (bU.map λkv=>if kv.1=k then(kv.1,y)else kv) (vs.map λkv=>if kv.1=k then(kv.1,u)else kv):=by
 unfold KV at r ⊢
 induction r with
 |nil=>exact .nil
 |@cons p q ps qs h t ih=>
  rw[bG,bG]
  refine .cons ?_ ih
  obtain⟨h1,h2⟩:=h
  by_cases e:p.1=k
  ·rw[if_pos e,if_pos (h1.symm.trans e)];exact⟨h1,ry⟩
  ·rw[if_neg e,if_neg (λz=>e (h1.trans z))];exact⟨h1,h2⟩
theorem KV.put {bU:List (κ×V)}{vs:List (κ×ae)}(r:KV bU vs)(k:κ){y:V}{u:ae}(ry:RelV y u):KV (putK bU k y) (stored vs k u):=by
 unfold putK stored
 rw[r.any k]
 by_cases e:(vs.any λkv=>decide (kv.1=k))=true
 ·rw[if_pos e,if_pos e];exact r.repl k ry
 ·rw[if_neg e,if_neg e];exact Paired.snoc r ⟨rfl,ry⟩
theorem KV.length {bU:List (κ×V)}{vs:List (κ×ae)}(r:KV bU vs):bU.length=vs.length:=Paired.length r
end
theorem En {P:bg}{w:bE}{k:dv}{u:ae}(r:RelV (kV k) u):(dX P w).is k u=true:=by
 cases k with
 |inl i=>obtain⟨t,e⟩:=(show∃t,u=ae.int i t from r);subst e;exact RP P w i t
 |inr x=>obtain⟨t,e⟩:=(show∃t,u=ae.str x t from r);subst e;exact RQ P w x t
theorem K4 {P:bg}{w:bE}:∀{ks:List dv} {us:List ae},bT (ks.map kV) us->ItemsAre (dX P w) ks us
 |[],_,r=>by rw[jV]at r;cases r;exact .nil
 |k::ks,_,r=>by
  rw[bG]at r
  cases r with
  |cons h t=>exact .cons (En h) (K4 t)
abbrev KT (H:Hp):List (List dv×V)->List (List dv×af×ae)->Prop:=Paired λp q=>p.1=q.1/\H q.2.1=some (.tup (p.1.map kV))/\RelV p.2 q.2.2
theorem KT.val {H:Hp}{bU:List (List dv×V)}{xs:List (List dv×af×ae)}(r:KT H bU xs)(k:List dv):iR (hG bU k) ((oN xs k).map (·.2)):=by
 induction r with
 |nil=>exact True.intro
 |@cons p q ps qs h t ih=>
  obtain⟨h1,_,h2⟩:=h
  by_cases e:p.1=k
  ·have e':q.1=k:=h1.symm.trans e
   have b:oN (q::qs) k=some q.2:=by simp[oN,cU,e']
   rw[Ho e,b];exact h2
  ·have e':¬q.1=k:=λz=>e (h1.trans z)
   have b:oN (q::qs) k=oN qs k:=by simp[oN,cU,e']
   rw[Hq e,b];exact ih
theorem KT.repl {H:Hp}{bU:List (List dv×V)}{xs:List (List dv×af×ae)}(r:KT H bU xs)(k:List dv){y:V}{u:ae}(ry:RelV y u) :
  KT H (bU.map λkv=>if kv.1=k then(kv.1,y)else kv) (xs.map (putAt k u)):=by
 induction r with
 |nil=>exact .nil
 |@cons p q ps qs h t ih=>
  rw[bG,bG]
  refine .cons ?_ ih
  obtain⟨h1,h2,h3⟩:=h
  unfold putAt
  by_cases e:p.1=k
  ·rw[if_pos e,if_pos (h1.symm.trans e)];exact⟨h1,h2,ry⟩
  ·rw[if_neg e,if_neg (λz=>e (h1.trans z))];exact⟨h1,h2,h3⟩
theorem KT.put {H:Hp}{bU:List (List dv×V)}{xs:List (List dv×af×ae)}(r:KT H bU xs)(k:List dv){b:af}{y:V}{u:ae}(hb:H b=some (.tup (k.map kV)))(ry:RelV y u) :
  KT H (putK bU k y) (storedH xs k b u):=by
 have e:(bU.any λkv=>decide (kv.1=k))=(oN xs k).isSome:=by
  rw[Ly,(r.val k).isSome_eq,oo]
 unfold putK storedH
 rw[e]
 by_cases q:(oN xs k).isSome=true
 ·rw[if_pos q,if_pos q];exact r.repl k ry
 ·rw[if_neg q,if_neg q];exact Paired.snoc r ⟨rfl,hb,ry⟩
theorem KT.keeps {H H':Hp}{bU:List (List dv×V)}{xs:List (List dv×af×ae)}(r:KT H bU xs)(ht:∀b ys,H b=some (.tup ys)->H' b=some (.tup ys)):KT H' bU xs :=
 Paired.mapP r λ_ _ z=>⟨z.1,ht _ _ z.2.1,z.2.2⟩
section
variable {P:bg}{w:bE}{H:Hp}{h:aK}{a:af}
theorem MQ {u:HO}(ok:jA P w H h)(e:Rd H a u):dw P w H h a u:=e.ok ok
theorem CQ {bU:List (dv×V)}(ok:jA P w H h)(e:Rd H a (.dK bU)):bU.length<=sizeLine/\(a==dr)=false/\∃vs,KV bU vs/\h.DictOf (dX P w) a vs :=
 show dw P w H h a (.dK bU)from MQ ok e
theorem WV {bU:List (dv×V)}(ok:jA P w H h)(e:H a=some (.dK bU)):bU.length<=sizeLine/\(a==dr)=false/\∃vs,KV bU vs/\h.DictOf (dX P w) a vs:=CQ ok (.inl e)
theorem Ef {ks:List dv}(ok:jA P w H h)(e:H a=some (.tup (ks.map kV))):(jW (dX P w)).is h ks a:=by
 obtain⟨_,bZ,r,o,h1,h2,n,h3⟩:=(show dw P w H h a (.tup (ks.map kV))from ok a _ e)
 exact⟨o,bZ.toArray,n,h1,h2,h3,by simpa using K4 r⟩
theorem Ep {bU:List (List dv×V)}(ok:jA P w H h)(e:Rd H a (.dT bU)):bU.length<=sizeLine/\(a==dr)=false /\
  ∃xs,KT H bU xs/\h.DictOfH (jW (dX P w)) a xs:=by
 obtain⟨z,y,xs,r,o,es,ep,h1,h2,h3,h4,h5⟩:=(show dw P w H h a (.dT bU)from MQ ok e)
 refine⟨z,y,xs,r,o,es,ep,h1,h2,h3,h4,λx hx=>?_,h5⟩
 have all:∀{l:List (List dv×V)} {m:List (List dv×af×ae)},KT H l m->∀x∈m,(jW (dX P w)).is h x.1 x.2.1:=by
  intro l m q
  induction q with
  |nil=>intro x hx;exact nomatch hx
  |@cons p q ps qs hq t ih=>
   intro x hx
   rcases aA.mp hx with e|hx
   ·subst e
    exact Ef ok (by rw[←hq.1];exact hq.2.1)
   ·exact ih x hx
 exact all r x hx
theorem WW {bU:List (List dv×V)}(ok:jA P w H h)(e:H a=some (.dT bU)):bU.length<=sizeLine/\(a==dr)=false /\
  ∃xs,KT H bU xs/\h.DictOfH (jW (dX P w)) a xs:=Ep ok (.inl e)
end
def mT (H:Hp)(a:af)(y:V)(r:Option V):Prop :=
 (∃bU k,Rd H a (.dK bU)/\y=kV k/\r=hG bU k)\/∃bU k b,Rd H a (.dT bU)/\y=.ref b/\H b=some (.tup (k.map kV))/\r=hG bU k
def mU (H:Hp)(a:af)(y v:V)(H':Hp):Prop :=
 (∃bU k,H a=some (.dK bU)/\y=kV k/\bU.length<sizeLine/\H'=upd H a (.dK (putK bU k v))) \/
 ∃bU k b,H a=some (.dT bU)/\y=.ref b/\H b=some (.tup (k.map kV))/\bU.length<sizeLine/\H'=upd H a (.dT (putK bU k v))
theorem mT.k {H:Hp}{a:af}{bU:List (dv×V)}{k:dv}(e:H a=some (.dK bU)):mT H a (kV k) (hG bU k):=.inl ⟨bU,k,.inl e,rfl,rfl⟩
theorem mU.k {H:Hp}{a:af}{bU:List (dv×V)}{k:dv}{v:V}(e:H a=some (.dK bU))(hl:bU.length<sizeLine):mU H a (kV k) v (upd H a (.dK (putK bU k v))):=.inl ⟨bU,k,e,rfl,hl,rfl⟩
theorem mU.t {H:Hp}{a b:af}{bU:List (List dv×V)}{k:List dv}{v:V}(e:H a=some (.dT bU))(eb:H b=some (.tup (k.map kV)))(hl:bU.length<sizeLine) :
  mU H a (.ref b) v (upd H a (.dT (putK bU k v))):=.inr ⟨bU,k,b,e,rfl,eb,hl,rfl⟩
section
variable {X:Cx}{ah:List (af×cN)}{σ:St}{H:Hp}{s:ak}{a:af}{y v:V}{u r:ae}{o:Option V}{A:bv}{E:ae->ak->Prop}
theorem Inv.big (I:Inv X ah σ H s):dr<s.heap.objs.size:=by
 have h:aw<s.heap.objs.size:=(I.mod.glob.keeps I.bk).lt
 exact Nat.lt_trans (by decide) h
theorem EZ {Q:ae->ak->Prop}(hu:A.units+1<iM)(I:Inv X ah σ H s)(g:mT H a y o)(ry:RelV y u)(h:∀s',Inv X ah σ H s'->Q (.bool o.isSome) s') :
  aV (aZ X.prog X.w) A (cm .In u (.ref a)) Q E s:=by
 rcases g with⟨bU,k,e,ey,l⟩|⟨bU,k,b,e,ey,eb,l⟩
 ·subst ey
  obtain⟨z,hd,vs,rel,dd⟩:=CQ I.hok e
  refine wpAny_in_of (En ry) hd dd.mapOf ?_
  rw[←(rel.val k).isSome_eq,←l]
  exact h _ (I.tok _)
 ·subst ey
  cases(show u=ae.ref b from ry)
  obtain⟨z,hd,xs,rel,dd⟩:=Ep I.hok e
  refine wpAny_in_heap (kN hu) (Ef I.hok eb) hd dd ?_
  have q:=(rel.val k).isSome_eq
  rw[oo]at q
  rw[←q,←l]
  exact h _ (I.tok _)
theorem LY {h':aK}{t':Nat}{ob:HO}(I:Inv X ah σ H s)(mu:xO (H a))(hs:dY a s.heap h')(he:∃q,h'.get? a=some q)(new:dw X.prog X.w (upd H a ob) h' a ob) :
  Inv X ah σ (upd H a ob) { s with heap:=h',toks:=t' } :=
 I.write (x:=a) (e:=a) mu (.inl rfl) (λb q hb z=>(hs.2 b hb).trans z) he new
theorem Vv {P:bg}{w:bE}{H':Hp}{h':aK}{bU:List (dv×V)}{vs:List (dv×ae)}(z:bU.length<=sizeLine)(hd:(a==dr)=false)(rel:KV bU vs)(dd:h'.DictOf (dX P w) a vs) :
  dw P w H' h' a (.dK bU):=⟨z,hd,vs,rel,dd⟩
theorem SH {H':Hp}{Q:Unit->ak->Prop}(hu:A.units+1<iM)(I:Inv X ah σ H s)(g:mU H a y v H')(ry:RelV y u)(rv:RelV v r)(h:∀s',Inv X ah σ H' s'->Q () s') :
  aV (aZ X.prog X.w) A (lx (.ref a) u r) Q E s:=by
 rcases g with⟨bU,k,e,ey,l,eH⟩|⟨bU,k,b,e,ey,eb,l,eH⟩
 ·subst ey eH
  obtain⟨z,hd,vs,rel,dd⟩:=WV I.hok e
  have hz:vs.length<=sizeLine:=by rw[←rel.length];exact z
  have hl:(putK bU k v).length<=sizeLine:=by have:=Ku bU k v;omega
  refine wpAny_setItem_pairs (hsz:=hz) (En ry) dd λh' C4 hs=>h _ ?_
  have he:∃q,h'.get? a=some q:=let⟨q,_,_,hq,_⟩:=C4;⟨q,hq⟩
  exact LY I (by rw[e];exact True.intro) hs he (Vv hl hd (rel.put k rv) C4)
 ·subst ey eH
  cases(show u=ae.ref b from ry)
  obtain⟨z,hd,xs,rel,dd⟩:=WW I.hok e
  have hz:xs.length<=sizeLine:=by rw[←Paired.length rel];exact z
  have hl:(putK bU k v).length<=sizeLine:=by have:=Ku bU k v;omega
  refine wpAny_setItem_heap (hsz:=hz) (kN hu) (Ef I.hok eb) dd λh' C4 hs=>h _ ?_
  obtain⟨q,es,ep,hq,h2,h3,h4,_,h5⟩:=C4
  refine LY I (by rw[e];exact True.intro) hs ⟨q,hq⟩ ⟨hl,hd,_,(rel.put k eb rv).keeps λc ys ec=>?_,q,es,ep,hq,h2,h3,h4,h5⟩
  rw[zy (WK ec e (λz=>nomatch z))]
  exact ec
end
section
variable {X:Cx}{ah:List (af×cN)}{σ:St}{H:Hp}{s:ak}{a:af}{bU:List (dv×V)}{k:dv}{u:ae}{A:bv}{E:ae->ak->Prop}
theorem WX {Q:ae->ak->Prop}(I:Inv X ah σ H s)(e:Rd H a (.dK bU))(h:∀t s',Inv X ah σ H s'->Q (.int bU.length t) s'):aV (aZ X.prog X.w) A (call (.builtin "len") [.ref a]) Q E s:=by
 obtain⟨z,hd,vs,rel,dd⟩:=CQ I.hok e
 refine call_len_dict hd dd (by rw[←rel.length];rw[cn]at z;omega) ?_
 rw[←rel.length]
 exact h _ _ (I.tok _)
end
def GX (ty td:TE):TE:=λσ H Q=>ty σ H λy H1=>td σ H1 λx H2=>∃a o,x=.ref a/\mT H2 a y o/\Q (.bl o.isSome) H2
def Cd (td ty tv:TE):TS:=λD σ H=>tv σ H λv H1=>td σ H1 λx H2=>ty σ H2 λy H3=>∃a H4,x=.ref a/\mU H3 a y v H4/\D.nx σ H4
section
variable {X:Cx}{o i e value:Expr}{pos pos' fT:cD}{td ty tv:TE}
theorem Vw (hu:X.A.units+1<iM)(hi:PE X i ty)(ho:PE X o td):PC X .In i o (GX ty td):=by
 intro ah s σ H Q I h
 refine dc (hi ah s σ H _ I h) λiv s1 ⟨y,H1,I1,ry,q1⟩=>dc (ho ah s1 σ H1 _ I1 q1) λu s2 di=>?_
 obtain⟨x,H2,I2,rx,a,ov,ex,g,q2⟩:=di
 subst ex
 obtain rfl:u=ae.ref a:=rx
 exact EZ hu I2 g ry λs3 I3=>⟨.bl ov.isSome,H2,I3,rfl,q2⟩
theorem UM (hu:X.A.units+1<iM)(ho:PE X o td)(hi:PE X i ty)(hv:PE X value tv)(hs:eA value (some (.Subscript o i pos')) pos.line X.env=pure false) :
  PS X (.Assign [.Subscript o i pos'] value pos) (Cd td ty tv):=by
 intro ah s σ H D I h
 refine wpAny_Assign_Subscript (dc (hv ah s σ H _ I h) λr s1 ⟨v,H1,I1,rv,q1⟩=>dc (ho ah s1 σ H1 _ I1 q1) λu s2 ⟨x,H2,I2,rx,q2⟩=>dc (hi ah s2 σ H2 _ I2 q2) λiv s3 ⟨y,H3,I3,ry,a,H4,ex,g,q3⟩=>?_) hs
 subst ex
 obtain rfl:u=ae.ref a:=rx
 exact SH hu I3 g ry rv λs4 I4=>⟨σ,H4,I4,q3⟩
end
theorem Tt {P:bg}{w:bE}{H:Hp}(h:aK)(hb:dr<h.objs.size):dw P w H (h.push { cls:=.type "dict",data:=.dict #[] }) h.objs.size (.dK []) :=
  ⟨cC _,beq_eq_false_iff_ne.mpr (Ne.symm (bc hb)),[],.nil,aK.DictOf.new h⟩
theorem Tu {P:bg}{w:bE}{H:Hp}(h:aK)(hb:dr<h.objs.size):dw P w H (h.push { cls:=.type "dict",data:=.dict #[] }) h.objs.size (.dT []) :=
  ⟨cC _,beq_eq_false_iff_ne.mpr (Ne.symm (bc hb)),[],.nil,_,#[],0,bq _ rfl,⟨rfl,rfl,rfl⟩,rfl,rfl,bz⟩
def vZ:TE:=λ_ H Q=>∀p,H p=none->Q (.ref p) (upd H p (.dK []))
def wA:TE:=λ_ H Q=>∀p,H p=none->Q (.ref p) (upd H p (.dT []))
section
variable {X:Cx}{pos:cD}
theorem Tv:PE X (.Dict [] [] pos) vZ:=λah s σ H Q I h=>
 wpAny_Dict_empty ⟨.ref s.heap.objs.size,_,I.laid (a:=s.heap.objs.size) (o:=.dK []) (t':=s.toks) (λ_ _ q=>aC _ q) (av _) (Tt s.heap I.big),rfl,h _ (I.hok.fresh (av _))⟩
theorem Tw:PE X (.Dict [] [] pos) wA:=λah s σ H Q I h=>
 wpAny_Dict_empty ⟨.ref s.heap.objs.size,_,I.laid (a:=s.heap.objs.size) (o:=.dT []) (t':=s.toks) (λ_ _ q=>aC _ q) (av _) (Tu s.heap I.big),rfl,h _ (I.hok.fresh (av _))⟩
end
structure M1 (X:Cx)(o:Expr)(m:aR)(dz:cD)(e:Expr)(d5:cD):Prop where
 base:eY o m X.env (bO o X.env)=bO o X.env
 few:((cB d5 (ax [e] X.env)).all (λx=>!x.1)&&(eZ d5 (dD [] X.env)).all (λx=>x.1.isSome)
  && decide (([e]:List Expr).length+([]:List ir).length+(if([]:List ir).isEmpty then 0 else 1)<30))=true
 line:(dz.endLine==d5.line)=true
 trees:cB d5 (ax [e] X.env)=[(false,bO e X.env)]
structure M2 (X:Cx)(o:Expr)(m:aR)(dz:cD)(e f:Expr)(d5:cD):Prop where
 base:eY o m X.env (bO o X.env)=bO o X.env
 few:((cB d5 (ax [e,f] X.env)).all (λx=>!x.1)&&(eZ d5 (dD [] X.env)).all (λx=>x.1.isSome)
  && decide (([e,f]:List Expr).length+([]:List ir).length+(if([]:List ir).isEmpty then 0 else 1)<30))=true
 line:(dz.endLine==d5.line)=true
 trees:cB d5 (ax [e,f] X.env)=[(false,bO e X.env),(false,bO f X.env)]
def CU (H:Hp)(a:af):Prop:=(∃bU,Rd H a (.dK bU))\/∃bU,Rd H a (.dT bU)
theorem Wb {X:Cx}{ah:List (af×cN)}{σ:St}{H:Hp}{s:ak}{a:af}(I:Inv X ah σ H s)(d:CU H a) :
  s.TypeIs (.ref a) "dict"/\(∀b,ae.ref a=.ref b->∃ob,s.heap.get? b=some ob/\ob.dict=none)/\(a==dr)=false:=by
 rcases d with⟨bU,e⟩|⟨bU,e⟩
 ·obtain⟨_,hd,vs,_,dd⟩:=CQ I.hok e
  refine⟨dd.typeIs,λb q=>?_,hd⟩
  cases q
  obtain⟨ob,_,_,h1,h2,_⟩:=dd
  exact⟨ob,h1,h2.2.1⟩
 ·obtain⟨_,hd,xs,_,dd⟩:=Ep I.hok e
  refine⟨dd.typeIs,λb q=>?_,hd⟩
  cases q
  obtain⟨ob,_,_,h1,h2,_⟩:=dd
  exact⟨ob,h1,h2.2.1⟩
section
variable {X:Cx}{ah:List (af×cN)}{σ:St}{H:Hp}{s:ak}{a:af}{y d:V}{u r:ae}{o:Option V}{A:bv}{E:ae->ak->Prop}
theorem Wc {Q:ae->ak->Prop}(hu:A.units+1<iM)(I:Inv X ah σ H s)(g:mT H a y o)(ry:RelV y u)(h:∀w' s',Inv X ah σ H s'->RelV (o.getD .non) w'->Q w' s') :
  aV (aZ X.prog X.w) A (call (.builtin "dict.get") [.ref a,u]) Q E s:=by
 rcases g with⟨bU,k,e,ey,l⟩|⟨bU,k,b,e,ey,eb,l⟩
 ·subst ey
  obtain⟨z,hd,vs,rel,dd⟩:=CQ I.hok e
  refine call_meetsIn PySem.F.slot_dict_get dd.typeIs PySem.F.entry_dict_get (PySem.F.args_dict_get_2 _ _) (meets_dict_get (dX X.prog X.w) a (En ry) hd) ⟨_,dd.mapOf,h _ _ (I.tok _) ?_⟩
  rw[l]
  exact(rel.val k).getD rfl
 ·subst ey
  cases(show u=ae.ref b from ry)
  obtain⟨z,hd,xs,rel,dd⟩:=Ep I.hok e
  refine call_meetsIn PySem.F.slot_dict_get dd.typeIs PySem.F.entry_dict_get (PySem.F.args_dict_get_2 _ _) (meetsH_dict_get (jW (dX X.prog X.w)) a b hd) ⟨kN hu,k,xs,Ef I.hok eb,dd,h _ _ (I.tok _) ?_⟩
  rw[l]
  exact(rel.val k).getD rfl
end
def vY (td ty:TE):TE:=λσ H Q=>td σ H λx H1=>∃a,x=.ref a/\CU H1 a/\ty σ H1 λy H2=>∃o,mT H2 a y o/\Q (o.getD .non) H2
section
variable {X:Cx}{o e f:Expr}{dz d5:cD}{td ty tx:TE}
theorem S3 (hu:X.A.units+1<iM)(ho:PE X o td)(he:PE X e ty)(m:M1 X o "get" dz e d5):PE X (.Call (.Attribute o "get" dz) [e] [] d5) (vY td ty):=by
 intro ah s σ H Q I h
 refine wpAny_Call_method m.base m.few m.line PySem.F.plainAttrs_dict PySem.F.slot_dict_get PySem.F.type_dict_get (dc (ho ah s σ H _ I h) λu s1 di=>?_)
 obtain⟨x,H1,I1,rx,a,ex,d,q1⟩:=di
 subst ex
 obtain rfl:u=ae.ref a:=rx
 obtain⟨t1,t2,_⟩:=Wb I1 d
 refine⟨t1,t2,?_⟩
 rw[m.trees]
 refine Calls.callWith_builtin rfl (Calls.evalArgs_plain (Calls.spliced_cons (dc (he ah s1 σ H1 _ I1 q1) λiv s2 ⟨y,H2,I2,ry,ov,g,q2⟩=>Calls.spliced_nil ?_)))
 exact Wc hu I2 g ry λw' s3 I3 n8=>⟨_,H2,I3,n8,q2⟩
end
section
variable {X:Cx}{ah:List (af×cN)}{σ:St}{H:Hp}{s:ak}{a:af}{bU:List (dv×V)}{A:bv}{E:ae->ak->Prop}
end
section
variable {X:Cx}{ah:List (af×cN)}{σ:St}{H:Hp}{s:ak}{a:af}{y:V}{u:ae}{A:bv}{E:ae->ak->Prop}
end
end L2
namespace L2
open PySem PySem.Spec PyProof.Rows
section
variable {X:Cx}
theorem SI:eo X (.builtin "len") (λxs H Q=>∃a bU,xs=[V.ref a]/\H a=some (.dK bU)/\Q (.int bU.length) H):=by
 intro ah s σ H xs us Q I r h
 obtain⟨a,bU,rfl,ha,q⟩:=h
 obtain⟨u,rfl,ru⟩:=ni r
 cases ru
 exact WX I (.inl ha) λt s' I'=>⟨.int bU.length,H,I',⟨t,rfl⟩,q⟩
end
end L2
namespace L2
open PySem
section
variable {κ:Type}[DecidableEq κ]
end
end L2
namespace L2
open PySem PySem.Spec PyProof.Rows
def Sz (n:Nat)(i:Int):Prop:=i.natAbs<2 ^ n
theorem Sz.bits {n:Nat}{i:Int}(h:Sz n i):cr.Int.intBits i<=n:=by
 unfold cr.Int.intBits
 by_cases h0:(i==0)=true
 ·rw[if_pos h0];exact cC _
 ·rw[if_neg h0]
  have hi:i.natAbs≠0:=by
   have:i≠0:=by simpa using h0
   omega
  exact Nat.succ_le_of_lt ((Nat.log2_lt hi).mpr h)
theorem Sz.log {n:Nat}{i:Int}(h:Sz n i)(hn:0<n):i.natAbs.log2<n:=by
 by_cases hi:i.natAbs=0
 ·rw[hi];exact hn
 ·exact(Nat.log2_lt hi).mpr h
theorem Sz.mono {n m:Nat}{i:Int}(h:Sz n i)(hm:n<=m):Sz m i:=bu h (oj (by decide) hm)
def lR (i j:Int):Prop:=tO i j\/(Sz 100000 i/\Sz 100000 j)
theorem lR.ok {i j:Int}(h:lR i j):IntMulOk i j:=by
 rcases h with h|h
 ·exact h.ok
 ·exact IntMulOk.of_bits (bS h.1.bits (by decide)) (bS h.2.bits (by decide))
section
variable {X:Cx}
theorem qq:fw X (dO .Mult) (rI lR λi j=>.int (i*j)):=xA λ_ _ _ _ _ _ _ hc q=>mul_int q hc.ok
theorem u8:fw X (dO .FloorDiv) (rI (λ_ j=>j≠0/\Sz 9000 j) λi j=>.int (i.fdiv j)) :=
 xA λ_ _ _ _ _ _ _ hc q=>floordiv_int hc.1 q (.inl (PyProof.noPylong_of_log2 (hc.2.log (by decide))))
theorem RelV.bool_iff {x:V}{v:ae}{b:Bool}(r:RelV x v):(v==ae.bool b)=decide (x=.bl b):=by
 cases x with
 |bl c=>
  cases(show v=ae.bool c from r)
  by_cases h:c=b
  ·subst h;simp
  ·have h1:¬V.bl c=V.bl b:=λz=>h (V.bl.inj z)
   rw[decide_eq_false h1]
   exact beq_eq_false_iff_ne.mpr λz=>h (by injection z)
 |non=>cases(show v=ae.none from r);rw[decide_eq_false (λz=>nomatch z)];exact beq_eq_false_iff_ne.mpr λz=>nomatch z
 |int i=>obtain⟨t,rfl⟩:=(show∃t,v=ae.int i t from r);rw[decide_eq_false (λz=>nomatch z)];exact beq_eq_false_iff_ne.mpr λz=>nomatch z
 |str i=>obtain⟨t,rfl⟩:=(show∃t,v=ae.str i t from r);rw[decide_eq_false (λz=>nomatch z)];exact beq_eq_false_iff_ne.mpr λz=>nomatch z
 |byt i=>obtain⟨t,rfl⟩:=(show∃t,v=ae.bytes i t from r);rw[decide_eq_false (λz=>nomatch z)];exact beq_eq_false_iff_ne.mpr λz=>nomatch z
 |flt i=>obtain⟨t,rfl⟩:=(show∃t,v=ae.float i t from r);rw[decide_eq_false (λz=>nomatch z)];exact beq_eq_false_iff_ne.mpr λz=>nomatch z
 |ref i=>cases(show v=ae.ref i from r);rw[decide_eq_false (λz=>nomatch z)];exact beq_eq_false_iff_ne.mpr λz=>nomatch z
 |ty i=>cases(show v=ae.type i from r);rw[decide_eq_false (λz=>nomatch z)];exact beq_eq_false_iff_ne.mpr λz=>nomatch z
theorem Ke {x:V}{v:ae}{b:Bool}(r:RelV x v):plainIs v (.bool b)=true:=by
 cases x with
 |bl c=>cases(show v=ae.bool c from r);rfl
 |non=>cases(show v=ae.none from r);rfl
 |int i=>obtain⟨t,rfl⟩:=(show∃t,v=ae.int i t from r);rfl
 |str i=>obtain⟨t,rfl⟩:=(show∃t,v=ae.str i t from r);rfl
 |byt i=>obtain⟨t,rfl⟩:=(show∃t,v=ae.bytes i t from r);rfl
 |flt i=>obtain⟨t,rfl⟩:=(show∃t,v=ae.float i t from r);rfl
 |ref i=>cases(show v=ae.ref i from r);rfl
 |ty i=>cases(show v=ae.type i from r);rfl
theorem Wd:fw X (cm .Is) (λx y H Q=>∃b,y=.bl b/\Q (.bl (decide (x=.bl b))) H):=by
 intro ah s σ H x y v u Q I rx ry h
 obtain⟨b,rfl,q⟩:=h
 cases ry
 exact wpAny_is_plain (Ke rx) (Ed I q (RelV.bool_iff rx).symm)
theorem SJ:fw X (cm .IsNot) (λx y H Q=>∃b,y=.bl b/\Q (.bl (!decide (x=.bl b))) H):=by
 intro ah s σ H x y v u Q I rx ry h
 obtain⟨b,rfl,q⟩:=h
 cases ry
 exact wpAny_isNot_plain (Ke rx) (Ed I q (by rw[RelV.bool_iff rx]))
theorem S4:eo X (.builtin "isinstance") (λxs H Q=>∃x c t b,xs=[x,.ty c]/\jC X.K H x t/\bI X.K t (.type c)=some b/\Q (.bl b) H):=by
 intro ah s σ H xs us Q I r h
 obtain⟨x,c,t,b,rfl,ty,e,q⟩:=h
 obtain⟨u,w',rfl,ru,n8⟩:=vals2 r
 cases(show w'=ae.type c from n8)
 exact KY I ru ty e λtk=>⟨.bl b,H,I.tok tk,rfl,q⟩
theorem SK:eo X (.builtin "isinstance") (λxs H Q=>∃x C t b,xs=[x,.ref C]/\jC X.K H x t/\bI X.K t (.ref C)=some b/\Q (.bl b) H):=by
 intro ah s σ H xs us Q I r h
 obtain⟨x,c,t,b,rfl,ty,e,q⟩:=h
 obtain⟨u,w',rfl,ru,n8⟩:=vals2 r
 cases(show w'=ae.ref c from n8)
 exact KY I ru ty e λtk=>⟨.bl b,H,I.tok tk,rfl,q⟩
end
mutual
inductive Dt (K:aa)(H:Hp):V->bC->Prop
 |non:Dt K H .non .none
 |bl (b:Bool):Dt K H (.bl b) (.bool b)
 |int (i:Int):Dt K H (.int i) (.int i)
 |str (x:aR):Dt K H (.str x) (.str x)
 |lst {a:af} {xs:List V} {ds:List bC}:fm K H a xs->Dts K H xs ds->Dt K H (.ref a) (.list ds)
 |tup {a:af} {xs:List V} {ds:List bC}:gY K H a xs->Dts K H xs ds->Dt K H (.ref a) (.tuple ds)
inductive Dts (K:aa)(H:Hp):List V->List bC->Prop
 |nil:Dts K H [] []
 |cons {v:V} {d:bC} {vs:List V} {ds:List bC}:Dt K H v d->Dts K H vs ds->Dts K H (v::vs) (d::ds)
end
section
variable {X:Cx}{ah:List (af×cN)}{σ:St}{H:Hp}{s:ak}
mutual
theorem Dt.reads (I:Inv X ah σ H s):∀{v:V} {d:bC} {u:ae},Dt X.K H v d->RelV v u->∃as,Reads s.heap u d as
 |_,_,_,.non,r=>by cases r;exact⟨_,.none⟩
 |_,_,_,.bl b,r=>by cases r;exact⟨_,.bool b⟩
 |_,_,_,.int i,r=>by obtain⟨t,rfl⟩:=r;exact⟨_,.int i t⟩
 |_,_,_,.str x,r=>by obtain⟨t,rfl⟩:=r;exact⟨_,.str x t⟩
 |_,_,_,.lst hq ds,r=>by
  obtain⟨bZ,rv,⟨o,n,e,c,_,dd⟩,_⟩:=I.list hq
  obtain⟨as,ra⟩:=Dts.reads I ds rv
  cases r
  exact⟨_,.list e c dd (by simpa using ra)⟩
 |_,_,_,.tup hq ds,r=>by
  obtain⟨bZ,rv,⟨o,e,c,n,dd⟩,_⟩:=I.tuple hq
  obtain⟨as,ra⟩:=Dts.reads I ds rv
  cases r
  exact⟨_,.tuple e c dd (by simpa using ra)⟩
theorem Dts.reads (I:Inv X ah σ H s):∀{vs:List V} {ds:List bC} {us:List ae},Dts X.K H vs ds->bT vs us->∃as,ReadsAll s.heap us ds as
 |_,_,_,.nil,r=>by cases r;exact⟨_,.nil⟩
 |_,_,_,.cons h t,r=>by
  cases r with
  |cons p q=>
   obtain⟨as,ra⟩:=Dt.reads I h p
   obtain⟨bs,rb⟩:=Dts.reads I t q
   exact⟨_,.cons ra rb⟩
end
end
section
variable {X:Cx}
def vT (K:aa)(neg:Bool):R2:=λx y H Q=>∃d e,Dt K H x d/\Dt K H y e/\d.canLay0=true/\e.canLay0=true/\min d.depth e.depth<=60/\Q (.bl (if neg then !bC.eqv d e else bC.eqv d e)) H
theorem wv (hu:X.A.units+64<iM):fw X (cm .Eq) (vT X.K false):=by
 intro ah s σ H x y v u Q I rx ry h
 obtain⟨d,e,hd,he,c1,c2,dp,q⟩:=h
 obtain⟨as,ra⟩:=hd.reads I rx
 obtain⟨bs,rb⟩:=he.reads I ry
 exact SeqAt.compareEq_reads ra rb c1 c2 (by omega) ⟨.bl _,H,I,rfl,q⟩
theorem CK (hu:X.A.units+64<iM):fw X (cm .NotEq) (vT X.K true):=by
 intro ah s σ H x y v u Q I rx ry h
 obtain⟨d,e,hd,he,c1,c2,dp,q⟩:=h
 obtain⟨as,ra⟩:=hd.reads I rx
 obtain⟨bs,rb⟩:=he.reads I ry
 exact SeqAt.compareNe_reads ra rb c1 c2 (by omega) ⟨.bl _,H,I,rfl,q⟩
theorem Dts.ints (K:aa)(H:Hp):∀ns:List Int,Dts K H (ns.map V.int) (ns.map bC.int)
 |[]=>.nil
 |n::r=>.cons (.int n) (Dts.ints K H r)
end
theorem Cz {H:Hp}{p:af}(h:H p=none)(o:HO):bJ H (upd H p o):=λb u q=>by rw[zy (yw q h)];exact q
theorem d8.u64 {k:Nat}{A:bv}(r:d8 k A):A.units+64<iM:=r.units
theorem small {n:Nat}(h:n<=1000):n<=sizeLine:=iA (oZ h)
end L2
namespace L2
open PySem PySem.Spec PyProof.Rows
end L2
namespace L2
open PySem PySem.Spec PyProof.Rows
end L2
namespace L2
open PySem
theorem Mz:bL "int"=some (.type "int"):=by decide +kernel
theorem We:bL "str"=some (.type "str"):=by decide +kernel
theorem LZ:bL "bool"=some (.type "bool"):=by decide +kernel
theorem qr:bL "list"=some (.type "list"):=by decide +kernel
theorem S5:bL "tuple"=some (.type "tuple"):=by decide +kernel
theorem Wf:bL "len"=some (.builtin "len"):=by decide +kernel
theorem Eg:bL "max"=some (.builtin "max"):=by decide +kernel
theorem Wg:bL "min"=some (.builtin "min"):=by decide +kernel
theorem Ki:bL "isinstance"=some (.builtin "isinstance"):=by decide +kernel
theorem SM:bL "sorted"=some (.builtin "sorted"):=by decide +kernel
theorem MA:bL "all"=some (.builtin "all"):=by decide +kernel
end L2
namespace L2
open PySem PySem.Spec PyProof.Rows
section
variable {prog:bg}{w:bE}{A:bv}{R:Result->ak->Prop}{s:ak}
theorem Kf {iP target iter:Expr}{ifs:List Expr}{scope:fv}{pos:cD}{it fG:ae}{env:Env}(I:Nat->ak->Prop)
  (mF:∀n s,I n s->aV (aZ prog w) A (pyNext it) (λr s₁=>match r with
   |none=>R (.ok .next) s₁
   |some v=>aV (aZ prog w) A (gx target it v) (λ_ JX=>aV (aZ prog w) A (fW target env v) (λ_ s₂=>
     aV (aZ prog w) A (forIn ifs true λc r=>if r=true then do let ok ← pq c env (bO c env);pure (ForInStep.yield ok)else pure (ForInStep.yield r)) (λok s₃=>
      if ok=true then aV (aZ prog w) A (bO iP env) (λx s₄=>
       aV (aZ prog w) A (call (.builtin "list.append") [fG,x]) (λ_ s₅=>∃m,m<n/\I m s₅) (λ_ _=>False) s₄) (λ_ _=>False) s₃
      else∃m,m<n/\I m s₃) (λ_ _=>False) s₂) (λ_ _=>False) JX) (λ_ _=>False) s₁) (λ_ _=>False) s)
  (n:Nat) (h:I n s) :
  gI (aZ prog w) A (.compLoop (.ListComp iP [⟨target,iter,ifs,0⟩] scope pos) 0 it fG env) R s:=by
 have up:∀{α:Type} {m:mQ α} {Q:α->ak->Prop} {E:ae->ak->Prop} {s:ak},aV (aZ prog w) A m Q (λ_ _=>False) s->aV (aZ prog w) A m Q E s:=λh=>dU h (λ_ _ q=>q) λ_ _ f=>f.elim
 refine codeAny_loop rfl I (λn s hI=>?_) n h
 show aV _ A ((compTurn (.ListComp iP [⟨target,iter,ifs,0⟩] scope pos) 0 it fG env).onRaise (λx=>do noteFrame x env;theTreesLotGoes x)) _ _ s
 refine wpAny_noted ?_
 rw[compTurn_list]
 refine ao (kG (ao (dU (up (mF n s hI)) (λr s₁ h₁=>?_) λ_ _ h'=>h')))
 cases r with
 |none=>exact aB h₁
 |some v=>
  refine ao (dU (up h₁) (λ_ JX OO=>?_) λ_ _ h'=>h')
  refine ao (dU (up OO) (λ_ s₂ h₂=>ao (dU (up h₂) (λok s₃ h₃=>?_) λ_ _ h'=>h')) λ_ _ h'=>h')
  cases ok with
  |false=>exact aB ⟨rfl,h₃⟩
  |true=>
   exact ao (ao (dU (up h₃) (λx s₄ h₄=>ao (dU (up h₄) (λ_ s₅ h₅=>aB (aB ⟨rfl,h₅⟩)) λ_ _ h'=>h')) λ_ _ h'=>h'))
end
theorem j4 {env:Env}:∀(names:List (aR×br)) (fG:List (aR×af)),(∀x∈names,x.2=.free->∃c,env.cells.lookup x.1=some c)->(∀y c,fG.lookup y=some c->env.cells.lookup y=some c) ->
  ∃cl,(forIn names fG λ(x:aR×br) (cs:List (aR×af))=>if(x.2==br.free)=true then do let a ← cellOf env x.1;pure (ForInStep.yield ((x.1,a)::cs))else pure (ForInStep.yield cs):mQ (List (aR×af)))=pure cl /\
   (∀y c,cl.lookup y=some c->env.cells.lookup y=some c)/\(∀x∈names,x.2=.free->∃c,cl.lookup x.1=some c)/\∀y c,fG.lookup y=some c->∃c',cl.lookup y=some c'
 |[],fG,_,ha=>⟨fG,rfl,ha,λ_ h=>(nomatch h),λy c h=>⟨c,h⟩⟩
 |(n,k)::r,fG,hn,ha=>by
  by_cases hk:k=.free
  ·subst hk
   obtain⟨c,hc⟩:=hn (n,.free) am rfl
   have e1:cellOf env n=pure c:=by unfold cellOf;rw[hc]
   have Dd:∀y d,((n,c)::fG).lookup y=some d->env.cells.lookup y=some d:=λy d h=>by
    rw[bp]at h
    cases hy:y==n with
    |true=>
     rw[hy]at h
     have:y=n:=eq_of_beq hy
     subst this
     cases h
     exact hc
    |false=>rw[hy]at h;exact ha y d h
   obtain⟨cl,h1,h2,h3,h4⟩:=j4 r ((n,c)::fG) (λx hx=>hn x (ap _ hx)) Dd
   refine⟨cl,?_,h2,?_,?_⟩
   ·rw[kS]
    simp only[beq_self_eq_true,if_true,e1,pure_bind]
    exact h1
   ·intro x hx hf
    rcases aA.mp hx with rfl|hx
    ·exact h4 n c (by rw[bp,beq_self_eq_true])
    ·exact h3 x hx hf
   ·intro y d hy
    cases hb:y==n with
    |true=>exact h4 y c (by rw[bp,hb])
    |false=>exact h4 y d (by rw[bp,hb];exact hy)
  ·have hb:(k==br.free)=false:=by simpa using hk
   obtain⟨cl,h1,h2,h3,h4⟩:=j4 r fG (λx hx=>hn x (ap _ hx)) ha
   refine⟨cl,?_,h2,?_,h4⟩
   ·rw[kS]
    simp only[hb,cu,if_false,pure_bind]
    exact h1
   ·intro x hx hf
    rcases aA.mp hx with rfl|hx
    ·exact absurd hf hk
    ·exact h3 x hx hf
theorem D5 (n:Nat)(a:aR)(r:List (aR×br))(fG:List (aR×af)):cellsFrom n ((a,.cell)::r) fG=cellsFrom (n+1) r ((a,n)::fG):=rfl
theorem Eh {k:br}(hk:k≠.cell)(n:Nat)(a:aR)(r:List (aR×br))(fG:List (aR×af)):cellsFrom n ((a,k)::r) fG=cellsFrom n r fG:=by
 cases k<;>first|rfl|exact absurd rfl hk
def iI (names:List (aR×br)):Nat:=(names.filter λy=>y.2==br.cell).length
theorem HG (a:aR)(r:List (aR×br)):iI ((a,.cell)::r)=iI r+1:=by unfold iI;rw[mJ (by rfl),aP]
theorem MB {k:br}(hk:k≠.cell)(a:aR)(r:List (aR×br)):iI ((a,k)::r)=iI r:=by unfold iI;rw[mI (by simpa using hk)]
theorem xI:∀(names:List (aR×br)) (n:Nat) (fG:List (aR×af)) {x:aR} {c:Nat},(cellsFrom n names fG).lookup x=some c->(n<=c/\c<n+iI names/\(x,br.cell)∈names)\/(fG.lookup x=some c/\(x,br.cell)∉names)
 |[],_,_,_,_,h=>.inr ⟨h,by simp⟩
 |(a,k)::r,n,fG,x,c,h=>by
  by_cases hk:k=.cell
  ·subst hk
   rw[D5]at h
   rcases xI r (n+1) _ h with⟨h1,h2,h3⟩|⟨h1,h2⟩
   ·refine .inl ⟨by omega,?_,ap _ h3⟩
    rw[HG];omega
   ·rw[bp]at h1
    cases hx:x==a with
    |true=>
     rw[hx]at h1
     cases h1
     refine .inl ⟨av _,?_,by rw[eq_of_beq hx];exact am⟩
     rw[HG];omega
    |false=>
     rw[hx]at h1
     refine .inr ⟨h1,λz=>?_⟩
     rcases aA.mp z with z|z
     ·cases z;simp at hx
     ·exact h2 z
  ·rw[Eh hk]at h
   have hf:=MB hk a r
   rw[hf]
   rcases xI r n _ h with⟨h1,h2,h3⟩|⟨h1,h2⟩
   ·exact .inl ⟨h1,h2,ap _ h3⟩
   ·refine .inr ⟨h1,λz=>?_⟩
    rcases aA.mp z with z|z
    ·cases z;exact hk rfl
    ·exact h2 z
theorem HL:∀(names:List (aR×br)) (n:Nat) (fG:List (aR×af)) {x:aR},(x,br.cell)∉names->(cellsFrom n names fG).lookup x=fG.lookup x
 |[],_,_,_,_=>rfl
 |(a,k)::r,n,fG,x,h=>by
  have hr:(x,br.cell)∉r:=λz=>h (ap _ z)
  by_cases hk:k=.cell
  ·subst hk
   rw[D5,HL r _ _ hr,bp]
   cases hx:x==a with
   |true=>exact absurd (by rw[eq_of_beq hx];exact am) h
   |false=>rfl
  ·rw[Eh hk,HL r _ _ hr]
theorem HM:∀(names:List (aR×br)) (n:Nat) (fG:List (aR×af)),(∀x y c,fG.lookup x=some c->fG.lookup y=some c->x=y)->(∀x c,fG.lookup x=some c->c<n)->∀x y c,(cellsFrom n names fG).lookup x=some c->(cellsFrom n names fG).lookup y=some c->x=y
 |[],_,_,h,_=>h
 |(a,k)::r,n,fG,h,hb=>by
  by_cases hk:k=.cell
  ·subst hk
   rw[D5]
   refine HM r (n+1) _ (λx y c e e'=>?_) λx c e=>?_
   ·rw[bp]at e e'
    cases hx:x==a with
    |true=>
     rw[hx]at e
     cases e
     cases hy:y==a with
     |true=>rw[eq_of_beq hx,eq_of_beq hy]
     |false=>rw[hy]at e';exact absurd (hb _ _ e') (ee _)
    |false=>
     rw[hx]at e
     cases hy:y==a with
     |true=>rw[hy]at e';cases e';exact absurd (hb _ _ e) (ee _)
     |false=>rw[hy]at e';exact h x y c e e'
   ·rw[bp]at e
    cases hx:x==a with
    |true=>rw[hx]at e;cases e;exact hV _
    |false=>rw[hx]at e;exact cS (hb _ _ e)
  ·rw[Eh hk]
   exact HM r n fG h hb
theorem Hd {M:Model}{A:bv}{E:ae->ak->Prop}:∀(names:List (aR×br)) (cells:List (aR×af)) (s:ak) (Q:List (aR×af)->ak->Prop),
    (∀h':aK,(∀b o,s.heap.get? b=some o->h'.get? b=some o)->(∀c,s.heap.objs.size<=c->c<s.heap.objs.size+iI names->h'.IsCell c none)->Q (cellsFrom s.heap.objs.size names cells) { s with heap:=h' }) ->
    aV M A (forIn names cells λ(x:aR×br) (cells:List (aR×af))=>if(x.2==br.cell)=true then do let a ← alloc { cls:=ae.type "cell",data:=oq.cell none };pure (ForInStep.yield ((x.1,a)::cells))else pure (ForInStep.yield cells)) Q E s
  |[],cells,s,Q,h=>by
    have:=h s.heap (λ_ _ e=>e) (λc h1 h2=>by rw[show iI []=0 from rfl]at h2;omega)
    rw[rn]
    exact aB this
  |(a,k)::r,cells,s,Q,h=>by
    rw[kS]
    by_cases hk:k=.cell
    · subst hk
      simp only[beq_self_eq_true,if_true,bind_assoc,pure_bind]
      refine ao (wpAny_alloc ?_)
      have ih:=Hd (M:=M) (A:=A) (E:=E) r ((a,s.heap.objs.size)::cells) { s with heap:=s.heap.push { cls:=ae.type "cell",data:=oq.cell none } } Q (λh' k1 k2=>by
        have hz:(s.heap.push { cls:=ae.type "cell",data:=oq.cell none }).objs.size=s.heap.objs.size+1:=e7 _ _
        have:=h h' (λb o e=>k1 b o (aC _ e)) (λc h1 h2=>by
          rw[HG]at h2
          by_cases hc:c=s.heap.objs.size
          · subst hc
            exact⟨_,k1 _ _ (bq _ rfl),rfl⟩
          · exact k2 c (by show(s.heap.push _).objs.size<=c;rw[hz];omega) (by show c<(s.heap.push _).objs.size+_;rw[hz];omega))
        rw[D5]at this
        have e:(({ s with heap:=s.heap.push { cls:=ae.type "cell",data:=oq.cell none } }:ak)).heap.objs.size=s.heap.objs.size+1:=hz
        rw[e]
        exact this)
      exact ih
    · have hb:(k==br.cell)=false:=by simpa using hk
      simp only[hb,cu,if_false,pure_bind]
      refine Hd r cells s Q λh' k1 k2=>?_
      have hf:=MB hk a r
      have:=h h' k1 (by rw[hf];exact k2)
      rw[Eh hk]at this
      exact this
theorem Kg {M:Model}{A:bv}{E:ae->ak->Prop}{s:ak}{scope:fv}{globals:af}{closure:List (aR×af)}{qual:aR}{code:ae}{out:Env}{builtins:af}{Q:Env->ak->Prop}
    (h:∀h':aK,(∀b o,s.heap.get? b=some o->h'.get? b=some o)->h'.Ns s.heap.objs.size (λ_=>none)->(∀c,s.heap.objs.size+1<=c->c<s.heap.objs.size+1+iI scope.names->h'.IsCell c none) ->
      Q (newEnv scope s.heap.objs.size globals (cellsFrom (s.heap.objs.size+1) scope.names closure) qual none code (some out) builtins) { s with heap:=h' }) :
    aV M A (jS scope globals closure [] qual none code (some out) builtins) Q E s:=by
  unfold jS
  refine ao (wpAny_alloc ?_)
  have hz:(s.heap.push { cls:=ae.type "dict",data:=oq.dict #[] }).objs.size=s.heap.objs.size+1:=e7 _ _
  refine ao (Hd scope.names closure { s with heap:=s.heap.push { cls:=ae.type "dict",data:=oq.dict #[] } } _ λh' k1 k2=>?_)
  have OM:(({ s with heap:=s.heap.push { cls:=ae.type "dict",data:=oq.dict #[] } }:ak)).heap.objs.size=s.heap.objs.size+1:=hz
  rw[OM]at k2 ⊢
  dsimp only
  rw[rn]
  refine ao (aB (aB ?_))
  exact h h' (λb o e=>k1 b o (aC _ e)) ((aK.Ns.new s.heap _).keeps k1) k2
def gM (X:Cx)(scope:fv)(cl:List (aR×af))(N:List aR)(C:af)(fp:List af)(s₀:ak)(H₀:Hp):Cx :=
 { X with N:=N,s₀:=s₀,H₀:=H₀,env:=nB scope cl C X.env,outer:=X.stack,stack:=X.stack,ex:=fp,fn:=λx=>scope.names.lookup x==some .cell,pn:=[],xe:=λ_ _=>False }
structure jK (X:Cx)(scope:fv)(N:List aR)(own:Nat)(cap:List Nat):Prop where
 kind:scope.kind=.function
 cells:∀x∈scope.names,x.2=.cell->scope.names.lookup x.1=some .cell
 locs:∀x∈scope.names,x.2=.local->scope.names.lookup x.1=some .local
 free:∀x∈scope.names,x.2=.free->X.env.kindOf x.1=some .cell\/X.env.kindOf x.1=some .free
 len:N.length=own+cap.length
 caps:∀(j:Nat) (x:aR),N[own+j]?=some x->∃i,cap[j]?=some i/\X.N[i]?=some x/\(scope.names.lookup x=some .free)
theorem j5 {α β:Type}[BEq α][LawfulBEq α]{x:α}{y:β}:∀{l:List (α×β)},l.lookup x=some y->(x,y)∈l
 |[],h=>by simp at h
 |(a,b)::r,h=>by
  rw[bp]at h
  cases hb:x==a with
  |true=>rw[hb]at h;cases h;rw[eq_of_beq hb];exact am
  |false=>rw[hb]at h;exact ap _ (j5 h)
theorem Kh {env:Env}{x:aR}:∀{names:List (aR×br)},names.lookup x=some .free ->
  (names.map λ(n,k)=>if(k==br.free&&env.scope.kind==.function&&env.kindOf n==some .cell)then(n,br.cell)else(n,k)).lookup x=some .cell \/
  (names.map λ(n,k)=>if(k==br.free&&env.scope.kind==.function&&env.kindOf n==some .cell)then(n,br.cell)else(n,k)).lookup x=some .free
 |[],h=>by simp at h
 |(n,k)::r,h=>by
  rw[bp]at h
  rw[bG]
  cases hx:x==n with
  |true=>
   rw[hx]at h
   cases h
   by_cases hc:(br.free==br.free&&env.scope.kind==.function&&env.kindOf n==some .cell)=true
   ·left
    simp only[hc,if_true,bp,hx]
   ·right
    simp only[hc,if_false,bp,hx,cu]
  |false=>
   rw[hx]at h
   rcases Kh (env:=env) h with q|q
   ·left
    by_cases hc:(k==br.free&&env.scope.kind==.function&&env.kindOf n==some .cell)=true
    ·simp only[hc,if_true,bp,hx];exact q
    ·simp only[hc,if_false,bp,hx,cu];exact q
   ·right
    by_cases hc:(k==br.free&&env.scope.kind==.function&&env.kindOf n==some .cell)=true
    ·simp only[hc,if_true,bp,hx];exact q
    ·simp only[hc,if_false,bp,hx,cu];exact q
theorem Kj {env:Env}{x:aR}:∀{names:List (aR×br)},((names.map λ(n,k)=>if(k==br.free&&env.scope.kind==.function&&env.kindOf n==some .cell)then(n,br.cell)else(n,k)).lookup x=some .cell \/
  (names.map λ(n,k)=>if(k==br.free&&env.scope.kind==.function&&env.kindOf n==some .cell)then(n,br.cell)else(n,k)).lookup x=some .free)->(x,br.free)∈names\/(x,br.cell)∈names
 |[],h=>by simp at h
 |(n,k)::r,h=>by
  rw[bG]at h
  cases hx:x==n with
  |true=>
   have e:x=n:=eq_of_beq hx
   by_cases hc:(k==br.free&&env.scope.kind==.function&&env.kindOf n==some .cell)=true
   ·have:k=.free:=by
     rw[cH,cH]at hc
     exact eq_of_beq hc.1.1
    left
    rw[e,this];exact am
   ·simp only[hc,if_false,bp,hx,cu]at h
    rcases h with h|h
    ·cases h;right;rw[e];exact am
    ·cases h;left;rw[e];exact am
  |false=>
   refine(Kj (env:=env) (names:=r) ?_).imp (ap _) (ap _)
   by_cases hc:(k==br.free&&env.scope.kind==.function&&env.kindOf n==some .cell)=true
   ·simpa only[hc,if_true,bp,hx]using h
   ·simpa only[hc,if_false,bp,hx,cu]using h
def fx (σ:St)(cap:List Nat):St:=cap.map λi=>(σ[i]?).join
theorem Sf {σ:St}{cap:List Nat}{j i:Nat}{v:V}(hj:cap[j]?=some i)(h:(fx σ cap)[j]?=some (some v)):σ[i]?=some (some v):=by
 unfold fx at h
 rw[aW,hj]at h
 cases e:σ[i]? with
 |none=>rw[eK,e]at h;cases h
 |some o=>
  rw[eK,e]at h
  cases o with
  |none=>cases h
  |some u=>exact h
section
variable {X:Cx}{ah:List (af×cN)}{σ:St}{H:Hp}{s:ak}
theorem K5 {scope:fv}{cl:List (aR×af)}{N:List aR}{own:Nat}{cap:List Nat}{fp:List af}{h₁:aK}{t':Nat}{m₀:aR->Option ae}(B:jK X scope N own cap)(I:Inv X ah σ H s)
    (c1:∀y c,cl.lookup y=some c->X.env.cells.lookup y=some c) (c2:∀x∈scope.names,x.2=.free->∃c,cl.lookup x.1=some c)
    (hf:∀b∈fp,jL X ah H b) (Jb:∀b∈fp,b<s.heap.objs.size) (pE:h₁.Ns s.heap.objs.size m₀) (k:∀b o,s.heap.get? b=some o->h₁.get? b=some o)
    (qX:∀c,s.heap.objs.size+1<=c->c<s.heap.objs.size+1+iI scope.names->h₁.IsCell c none) :
    Inv (gM X scope (cellsFrom (s.heap.objs.size+1) scope.names cl) N s.heap.objs.size fp s H) [] (aG own none++fx σ cap) H { s with heap:=h₁,toks:=t' } :=
  have low:∀x c,cl.lookup x=some c->c<s.heap.objs.size:=λx c e=>by
    obtain⟨v,o,q,_⟩:=I.cell x c (c1 x c e)
    exact aJ q
  { ok:={
      mod:=I.mod
      kind:=B.kind
      glob:=I.ok.glob
      blt:=I.ok.blt
      above:=av _
      inj:=HM _ _ _ (λx y c e e'=>I.ok.inj x y c (c1 x c e) (c1 y c e')) λx c e=>cS (low x c e)
      has:=λx hx=>by
        refine lB.mp (gL scope.names _ _ ?_)
        rcases Kj hx with q|q
        · right
          obtain⟨c,e⟩:=c2 _ q rfl
          rw[e];rfl
        · exact .inl (B.cells _ q rfl)
      cab:=λx c e e'=>by
        have hx:scope.names.lookup x=some .cell:=eq_of_beq e
        rcases xI _ _ _ e' with⟨h1,_⟩|⟨_,h2⟩
        · exact kl h1
        · exact absurd (j5 hx) h2
      hd:=I.ok.hd
      frames:=I.ok.frames
      stk:=.inl rfl
      exf:=λb hb=>⟨bc (Jb b hb),λx c e=>by
        rcases xI _ _ _ e with⟨h1,_⟩|⟨h1,_⟩
        · exactλz=>absurd (Jb b hb) (by rw[←z];exact Nat.not_lt.mpr (kl h1))
        · exact(hf b hb).2.2.2.2.1 x c (c1 x c h1)⟩
      bs:=I.bs
      bsz:=bS I.ok.bsz I.sz
      noex:=λb o e hb=>by
        rcases(hf b hb).2.2.2.1 with q|q
        · exact I.ok.noex b o e q
        · exact absurd (bu (aJ e) I.ok.bsz) (Nat.not_lt.mpr q)
      exfs:=λb hb hz=>by
        rcases aA.mp (I.stkSub b hz)with q|q
        · exact(hf b hb).2.1 q
        · exact(hf b hb).2.2.1 q
      funs:=I.stack
      frf:=I.stkFree }
    os:=rfl
    bare:=I.bare
    base:=Un.kept k
    loc:=by
      refine⟨m₀,pE,λi x v hN hσ hv=>?_⟩
      by_cases hi:i<own
      · rw[cz (by rw[cY];exact hi),eT,if_pos hi]at hσ
        cases hσ
      · obtain⟨j,rfl⟩:∃j,i=own+j:=⟨i-own,by omega⟩
        obtain⟨i',e1,e2,e3⟩:=B.caps j x hN
        rw[cO (by rw[cY];omega),cY,Nat.add_sub_cancel_left]at hσ
        have ON:=Sf e1 hσ
        have hk:=B.free (x,.free) (j5 e3) rfl
        obtain⟨m,hm,hl⟩:=I.loc
        obtain⟨u,ru,hu⟩:=hl i' x v e2 ON (.inr hk)
        refine⟨u,ru,?_⟩
        rcases hu with⟨q,_⟩|⟨_,c,hc,ic⟩
        · rcases hk with hk|hk
          · rw[hk]at q;cases q
          · rw[hk]at q;cases q
        · obtain⟨c',sN⟩:=c2 (x,.free) (j5 e3) rfl
          have ec:=c1 x c' sN
          rw[hc]at ec
          cases ec
          have hn:(x,br.cell)∉scope.names:=λz=>by
            have:=B.cells _ z rfl
            rw[e3]at this
            cases this
          exact .inr ⟨Kh e3,c,by show(cellsFrom _ _ _).lookup x=_;rw[HL _ _ _ hn];exact sN,ic.keeps k⟩
    cell:=λx c e=>by
      rcases xI _ _ _ e with⟨h1,h2,_⟩|⟨h1,_⟩
      · exact⟨none,qX c h1 h2⟩
      · obtain⟨v,q⟩:=I.cell x c (c1 x c h1)
        exact⟨v,q.keeps k⟩
    free:=I.hok.fresh (av _)
    freeC:=λx c e=>by
      rcases xI _ _ _ e with⟨h1,_⟩|⟨h1,_⟩
      · exact I.hok.fresh (kl h1)
      · exact I.freeC x c (c1 x c h1)
    pin:=λp hp=>(nomatch hp)
    hok:=I.hok.kept k
    len:=by
      show(aG own none++fx σ cap).length=N.length
      rw[bn,cY,B.len]
      unfold fx
      rw[aF] }
end
def sd:TT:=λ_ H Q=>Q true H
def sI (X:Cx)(ifs:List Expr)(t:TT):Prop :=
 ∀(ah:List (af×cN)) (s:ak) (σ:St) (H:Hp) (Q:Bool->Hp->Prop),Inv X ah σ H s->t σ H Q ->
  aV (aZ X.prog X.w) X.A (forIn ifs true λc r=>if r=true then do let ok ← pq c X.env (bO c X.env);pure (ForInStep.yield ok)else pure (ForInStep.yield r)) (TP X ah σ Q) X.xe s
theorem UN {X:Cx}:sI X [] sd:=λ_ _ _ H _ I h=>wpAny_tests_nil ⟨H,I,h⟩
theorem UO {X:Cx}{c:Expr}{t:TT}(h:PT X c t):sI X [c] t:=λah s σ H Q I q=>wpAny_tests_one (h ah s σ H Q I q)
def oG (wi:TI)(own:Nat)(cap:List Nat)(g:TG)(tt:TT)(te:TE):TE:=λσ H Q=>wi σ H λJ H1=>∀D,H1 D=none->∃W:Nat->Nat->List V->Hp->Prop,(∃m,W 0 m [] (upd H1 D (.lst []))) /\
 ∀i m ys H2,W i m ys H2->H2 D=some (.lst ys)/\((J.stop i H2/\Q (.ref D) H2)\/(J.go i H2/\ys.length<sizeLine/\∀x H3,J.yld i H2 x H3->g x (aG own none++fx σ cap) H3 λσ2 H4=>tt σ2 H4 λb H5=>
  if b=true then te σ2 H5 λy H6=>H6 D=some (.lst ys)/\∃m',m'<m/\W (i+1) m' (ys++[y]) (upd H6 D (.lst (ys++[y])))else∃m',m'<m/\W (i+1) m' ys H5))
def fC (own:Nat)(g:TG):Prop:=∀v σ H Q,g v σ H Q->g v σ H λσ' H'=>Q σ' H'/\σ'.length = σ.length/\∀i,own<=i->σ'[i]? = σ[i]?
theorem Sg (i own:Nat)(h:i<own):fC own (oC i):=λv σ H Q q=>⟨q,by rw[qQ],λj hj=>by rw[fL (by omega)]⟩
theorem UP {X:Cx}{iP iter tg:Expr}{ifs:List Expr}{scope:fv}{pos:cD}{N:List aR}{own:Nat}{cap:List Nat}{wi:TI}{g:TG}{tt:TT}{te:TE}(B:jK X scope N own cap)(hc:X.calm=true)(hi:PI X tg iter wi)
    (kg:fC own g)
    (hg:∀cl C fp s₀ H₀,PG (gM X scope cl N C fp s₀ H₀) tg g) (ht:∀cl C fp s₀ H₀,sI (gM X scope cl N C fp s₀ H₀) ifs tt) (he:∀cl C fp s₀ H₀,PE (gM X scope cl N C fp s₀ H₀) iP te)
    (hs:∀x,dq iter X.env x=pure x:=by intro _;rfl):PE X (.ListComp iP [⟨tg,iter,ifs,0⟩] scope pos) (oG wi own cap g tt te):=by
  intro ah s σ H Q I h
  obtain⟨cl,FM,c1,c2,_⟩:=j4 (env:=X.env) scope.names [] (λx hx hf=>I.ok.has x.1 (B.free x hx hf)) (λy c e=>by simp at e)
  have pU:nz scope X.env=pure cl:=by
    have e:nz scope X.env=(forIn scope.names ([]:List (aR×af)) (λ(x:aR×br) (cs:List (aR×af))=>if(x.2==br.free)=true then do let a ← cellOf X.env x.1;pure (ForInStep.yield ((x.1,a)::cs))else pure (ForInStep.yield cs)) >>= pure:mQ (List (aR×af))):=rfl
    rw[e,FM]
    rfl
  rw[eval_ListComp]
  refine wpAny_comprehension_free (use:=none) rfl hs pU B.kind B.locs (dc (hi ah s σ H _ I h) λv s1 h1=>dc h1 λDu s2 h2=>?_)
  obtain⟨it,fp,tn,J,H2,e,I2,T,rj,f2,W0⟩:=h2
  subst e
  obtain⟨W,⟨m0,w0⟩,mF⟩:=W0 s2.heap.objs.size (I2.hok.fresh (av _))
  refine cF ?_
  have I3:Inv X ah σ (upd H2 s2.heap.objs.size (.lst [])) { s2 with heap:=s2.heap.push { cls:=.type "list",data:=.seq ([]:List ae).toArray } }:=I2.lnew .nil (cC _)
  generalize AO:({ s2 with heap:=s2.heap.push { cls:=.type "list",data:=.seq ([]:List ae).toArray } }:ak)=s3 at I3
  have k3:∀b o,s2.heap.get? b=some o->s3.heap.get? b=some o:=λb o e=>by rw[←AO];exact aC _ e
  have z3:s3.heap.objs.size=s2.heap.objs.size+1:=by rw[←AO];exact e7 _ _
  have nY:∀b∈fp,b<s2.heap.objs.size:=λb hb=>by
    obtain⟨o,e,_⟩:=T.obj _ _ rj b hb
    exact aJ e
  have jY:∀b∈fp,b≠s2.heap.objs.size:=λb hb=>bc (nY b hb)
  have f3:∀b∈fp,jL X ah (upd H2 s2.heap.objs.size (.lst [])) b:=λb hb=>⟨by rw[zy (jY b hb)];exact(f2 b hb).1,(f2 b hb).2⟩
  have DF:tn 0 s3.heap:=T.keep _ _ _ rj λb _ o e=>k3 b o e
  show aV _ _ (jS scope X.env.globals cl [] X.env.qual none .none (some X.env)) _ _ _
  refine Kg λh₁ kk vD uZ=>?_
  have IB:=K5 (t':=s3.toks) B I3 c1 c2 f3 (λb hb=>by rw[z3];exact cS (nY b hb)) vD kk uZ
  generalize cellsFrom (s3.heap.objs.size+1) scope.names cl=cl at IB ⊢
  generalize Gj:({ s3 with heap:=h₁,toks:=s3.toks }:ak)=s4 at IB
  have Ct:tn 0 s4.heap:=T.keep _ _ _ DF λb _ o e=>by rw[←Gj];exact kk b o e
  show gI (aZ X.prog X.w) X.A (.compStart (.ListComp iP [⟨tg,iter,ifs,0⟩] scope pos) 0 (.ref it) (.ref s2.heap.objs.size) (nB scope cl s3.heap.objs.size X.env))
      (nD (aZ X.prog X.w) X.A X.xe none (EP X ah σ Q) (.ref s2.heap.objs.size) s3.heap.objs.size) s4
  have lm:∀{H':Hp},(∀b∈fp,H' b=none)->∀b∈fp,jL (gM X scope cl N s3.heap.objs.size fp s3 (upd H2 s2.heap.objs.size (.lst []))) [] H' b:=λhn b hb=>
    ⟨hn b hb,bc (by show b<s3.heap.objs.size;rw[z3];exact cS (nY b hb)),IB.ok.exfs b hb,.inl hb,λx c e=>(IB.ok.exf b hb).2 x c e,λp hp=>(nomatch hp)⟩
  have loop:gI (aZ X.prog X.w) X.A (.compLoop (.ListComp iP [⟨tg,iter,ifs,0⟩] scope pos) 0 (.ref it) (.ref s2.heap.objs.size) (nB scope cl s3.heap.objs.size X.env))
      (nD (aZ X.prog X.w) X.A X.xe none (EP X ah σ Q) (.ref s2.heap.objs.size) s3.heap.objs.size) s4:=by
    refine Kf (λn s'=>∃i ys H',Inv (gM X scope cl N s3.heap.objs.size fp s3 (upd H2 s2.heap.objs.size (.lst []))) [] (aG own none++fx σ cap) H' s'/\tn i s'.heap/\(∀b∈fp,H' b=none)/\W i n ys H') ?_ m0
      ⟨0,[],_,IB,Ct,λb hb=>(f3 b hb).1,w0⟩
    rintro n s5 ⟨i,ys,H5,I5,rY,uV,w5⟩
    obtain⟨hD,FW⟩:=mF i n ys H5 w5
    rcases FW with⟨stop,qn⟩|⟨go,lz,step⟩
    · refine dc (T.done (gM X scope cl N s3.heap.objs.size fp s3 (upd H2 s2.heap.objs.size (.lst []))) rfl rfl rfl hc i [] s5 _ H5 (λ_ _=>False) I5 (lm uV) rY stop) λr s6 di=>?_
      obtain⟨hr,I6⟩:=di
      subst hr
      obtain⟨m,hm,_⟩:=id I6.loc
      refine⟨m,hm,λh' sb=>⟨.ref s2.heap.objs.size,H5,?_,rfl,qn⟩⟩
      have U:=I6.base
      have nC:∀b o,s3.heap.get? b=some o->b≠s3.heap.objs.size:=λb o e=>bc (aJ e)
      have nT:∀b o,H5 b=some o->b≠s3.heap.objs.size:=λb o e z=>by
        have q:H5 s3.heap.objs.size=none:=I6.free
        rw[z,q]at e
        cases e
      refine I3.call' (ch:=fp) I6.os ?_ (λa o e=>(I6.hok a o e).stay (λb u hb q=>sb.extBut b u ?_ q) (λ_ q=>q) λ_ _ q=>q) I6.bare (λb hb=>⟨(f3 b hb).2.2.2.1,(f3 b hb).2.1,(f3 b hb).2.2.2.2.1,(f3 b hb).2.2.2.2.2⟩)
      · exact{
          keep:=λb o e z hb he=>sb.extBut b o (nC b o e) (U.keep b o e z hb he)
          slot:=λb o e z hb he=>by
            obtain⟨sl,q⟩:=U.slot b o e z hb he
            exact⟨sl,sb.extBut b _ (nC b o e) q⟩
          free:=U.free
          there:=λb o e he=>by
            obtain⟨o',q⟩:=U.there b o e he
            exact⟨o',sb.extBut b o' (nC b o e) q⟩
          tups:=U.tups
          frzs:=U.frzs
          tbls:=U.tbls }
      · rcases hb with rfl|hb
        · exact nT _ _ e
        · exact nT _ _ hb
    · refine dc (T.item (gM X scope cl N s3.heap.objs.size fp s3 (upd H2 s2.heap.objs.size (.lst []))) rfl rfl rfl hc i [] s5 _ H5 (λ_ _=>False) I5 (lm uV) rY go) λr s6 di=>?_
      obtain⟨u,hr,h6⟩:=di
      subst hr
      refine dc h6 λ_ s7 di=>?_
      obtain⟨x,H7,I7,r7,y7,vW,FA⟩:=di
      have Ew:=I7.pinned (lm FA) (T.obj _ _ vW)
      refine dc (hg cl s3.heap.objs.size fp s3 _ _ s7 _ H7 x u _ Ew r7 (kg _ _ _ _ (step x H7 y7))) λ_ s8 di=>?_
      obtain⟨σ8,H8,I8,q8,l8,p8⟩:=di
      have back:∀{H9:Hp} {s9:ak},Inv (gM X scope cl N s3.heap.objs.size fp s3 (upd H2 s2.heap.objs.size (.lst []))) ([]++kb fp s7.heap) σ8 H9 s9 ->
          Inv (gM X scope cl N s3.heap.objs.size fp s3 (upd H2 s2.heap.objs.size (.lst []))) [] (aG own none++fx σ cap) H9 s9/\tn (i+1) s9.heap/\∀b∈fp,H9 b=none:=λ{H9 s9} I9=>by
        refine⟨(I9.unpinned).weak l8.symm (λj v e=>?_),T.keep _ _ _ vW λb hb o e=>(I9.pin (b,o) (ay _ (ay _ (v3 hb e)))).1,λb hb=>?_⟩
        · by_cases hj:j<own
          · rw[cz (by rw[cY];exact hj),eT,if_pos hj]at e
            cases e
          · rw[p8 j (by omega)];exact e
        · obtain⟨o,e,d⟩:=T.obj _ _ vW b hb
          exact(I9.pin (b,o) (ay _ (ay _ (v3 hb e)))).2.1
      refine dc (ht cl s3.heap.objs.size fp s3 _ _ s8 σ8 H8 _ I8 q8) λok s9 di=>?_
      obtain⟨H9,I9,q9⟩:=di
      cases ok with
      |false=>
        rw[if_neg aX]
        rw[if_neg aX]at q9
        obtain⟨m',vC,w'⟩:=q9
        obtain⟨b1,b2,b3⟩:=back I9
        exact⟨m',vC,i+1,ys,H9,b1,b2,b3,w'⟩
      |true=>
        rw[if_pos rfl]
        rw[if_pos rfl]at q9
        refine dc (he cl s3.heap.objs.size fp s3 _ _ s9 σ8 H9 _ I9 q9) λuy GR di=>?_
        obtain⟨y,xK,Et,r10,uW,m',vC,w'⟩:=di
        refine dc (Hi _ GR σ8 xK (.ref s2.heap.objs.size) [y] (.ref s2.heap.objs.size) [uy] (λ_ xL=>xL=upd xK s2.heap.objs.size (.lst (ys++[y]))) Et rfl (.cons r10 .nil) ⟨_,ys,y,rfl,rfl,uW,lz,rfl⟩) λ_ Qb di=>?_
        obtain⟨_,xL,Eu,_,E7⟩:=di
        subst E7
        obtain⟨b1,b2,b3⟩:=back Eu
        exact⟨m',vC,i+1,ys++[y],_,b1,b2,b3,w'⟩
  exact codeAny_compStart_list loop (T.self X.A 0 s4 _ _ Ct loop)
end L2
namespace L2
open PySem PySem.Spec PyProof.Rows
section
variable {X:Cx}{ah:List (af×cN)}{σ:St}{H:Hp}{s:ak}{h':aK}
theorem Inv.turnLay {ch:List af}{a:af}{o:HO}{t':Nat}(I:Inv X ah σ H s)(kQ:∀b∈ch,jL X ah H b)(k:∀b o,b∉ch->s.heap.get? b=some o->h'.get? b=some o)(hp:s.heap.objs.size<=a)
  (new:dw X.prog X.w (upd H a o) h' a o):Inv X ah σ (upd H a o) { s with heap:=h',toks:=t' }:=by
 have hn:H a=none:=I.hok.fresh hp
 have Bw:∀b u,H b=some u->b∉ch:=λb u e z=>by rw[(kQ b z).1]at e;cases e
 refine I.step (g':=s.gens) (d':=s.drawn) (ch:=ch) (λb hb=>⟨(kQ b hb).2.2.2.1,(kQ b hb).2.1,(kQ b hb).2.2.2.2.1,(kQ b hb).2.2.2.2.2⟩) (λb o _ _ hc e _=>k b o hc e) (λb o _ _ hc e _=>⟨o.slots,k b o hc e⟩)
  (λb o _ e n=>by rw[zy (bc (bu (aJ e) hp))];exact n) (λb o hc e=>⟨o,k b o hc e⟩) (λb xs q=>by rw[zy (yw q hn)];exact q) (λb u xs q=>by rw[zy (yw q hn)];exact q)
  (λb ps q=>⟨#[],by rw[zy (yw q hn),q];simp⟩) (λm hm=>?_) (λb u e=>?_) I.bare
 ·obtain⟨o',es,ep,ho,r⟩:=hm
  exact⟨o',es,ep,k _ o' (λz=>(kQ _ z).2.1 rfl) ho,r⟩
 ·by_cases hb:b=a
  ·subst hb
   rw[yf]at e
   cases e
   exact new
  ·rw[zy hb]at e
   refine(I.hok b u e).stay (λc v hc q=>k c v ?_ q) (λc q=>by rw[zy (yw q hn)];exact q) λc xs q=>by rw[zy (yw q hn)];exact q
   rcases hc with z|z
   ·rw[z];exact Bw b u e
   ·exact Bw c _ z
theorem Inv.turnedL {ch:List af}{t':Nat}(I:Inv X ah σ H s)(kQ:∀b∈ch,jL X ah H b)(k:∀b o,b∉ch->s.heap.get? b=some o->h'.get? b=some o):Inv X ah σ H { s with heap:=h',toks:=t' }:=by
 have Bw:∀b u,H b=some u->b∉ch:=λb u e z=>by rw[(kQ b z).1]at e;cases e
 refine I.step (g':=s.gens) (d':=s.drawn) (ch:=ch) (λb hb=>⟨(kQ b hb).2.2.2.1,(kQ b hb).2.1,(kQ b hb).2.2.2.2.1,(kQ b hb).2.2.2.2.2⟩) (λb o _ _ hc e _=>k b o hc e) (λb o _ _ hc e _=>⟨o.slots,k b o hc e⟩)
  (λ_ _ _ _ n=>n) (λb o hc e=>⟨o,k b o hc e⟩) (λ_ _ e=>e) (λ_ _ _ e=>e) (λb ps e=>⟨#[],by rw[e];simp⟩) (λm hm=>?_) (λb u e=>?_) I.bare
 ·obtain⟨o',es,ep,ho,r⟩:=hm
  exact⟨o',es,ep,k _ o' (λz=>(kQ _ z).2.1 rfl) ho,r⟩
 ·refine(I.hok b u e).stay (λc v hc q=>k c v ?_ q) (λ_ q=>q) λ_ _ q=>q
  rcases hc with z|z
  ·rw[z];exact Bw b u e
  ·exact Bw c _ z
end
def Ex (K:aa)(a:af):It :=
 ⟨λi H=>∃xs x,fm K H a xs/\xs[i]?=some x,λi H x H'=>∃p y,H p=none/\x=.ref p/\H'=upd H p (.tup [.int i,y])/\∀xs,fm K H a xs->xs[i]?=some y,λi H=>∃xs,fm K H a xs/\xs.length<=i⟩
theorem SN {P:bg}{w:bE}{K:aa}{mw:List Expr}{kt:Nat}{pt:cD}(a e it:af)(Ja:e≠it) :
    Turn P w K (.Tuple mw kt pt) (Ex K a) [e,it] e (λi h=>(∃old,IsEnum h e it i old)/\h.IsListIter it a i) where
  mem:=by simp
  obj:=λi h st b hb=>by
    obtain⟨⟨old,he⟩,o,e1,c,d⟩:=st
    rcases aA.mp hb with rfl|hb
    · exact⟨_,he,λv z=>by cases z⟩
    · have e2:b=it:=by simpa using hb
      subst e2
      exact⟨o,e1,λv z=>by rw[d]at z;cases z⟩
  keep:=λi h h' st k=>by
    obtain⟨⟨old,he⟩,hit⟩:=st
    exact⟨⟨old,k e (by simp) _ he⟩,hit.at λo x=>k it (by simp) o x⟩
  item:=by
    intro X hP hw hK hc i ah s σ H E I hf st hg
    subst hP hw hK
    obtain⟨xs,x,hq,hx⟩:=hg
    obtain⟨bZ,rv,p,hz⟩:=I.list hq
    obtain⟨u,hu,ru⟩:=rv.get hx
    obtain⟨⟨old,he⟩,hit⟩:=st
    refine wpAny_pyNext_enum_item he hit p.isList (x:=u) (by simpa using hu) Ja λh1 ho FY hT hsz hk=>?_
    refine⟨_,rfl,wpAny_letOwnedTupleGo_enum (s:={ s with heap:=h1,toks:=s.toks+1 }) ho λh2 De GU=>?_⟩
    have iP:e<s.heap.objs.size:=aJ he
    have OP:it<s.heap.objs.size:=by obtain⟨_,q,_⟩:=hit;exact aJ q
    have Ob:h2.get? s.heap.objs.size=some { cls:=.type "tuple",data:=.seq #[.int i s.toks,u] }:=(GU.2 _ (Nat.ne_of_gt iP)).trans hT
    have Oq:H s.heap.objs.size=none:=I.hok.fresh (av _)
    have I1:Inv X ah σ (upd H s.heap.objs.size (.tup [.int i,x])) { s with heap:=h2,toks:=s.toks+1 }:=by
      refine I.turnLay (ch:=[e,it]) hf (λb o hb q=>?_) (av _) ⟨by show 2<=sizeLine;decide,[.int i s.toks,u],.cons ⟨_,rfl⟩ (.cons ru .nil),_,Ob,rfl,_,rfl⟩
      have IR:b≠e:=λz=>hb (by simp[z])
      have N7:b≠it:=λz=>hb (by simp[z])
      exact(GU.2 b IR).trans (hk b o IR N7 q)
    refine⟨.ref s.heap.objs.size,_,I1,rfl,⟨_,x,Oq,rfl,rfl,λys hy=>by rw[I.list_inj hy hq];exact hx⟩,⟨⟨u,by simpa using De⟩,FY.at λo q=>(GU.2 it Ja.symm).trans q⟩,λb hb=>?_⟩
    rw[zy ?_]
    · exact(hf b hb).1
    · rcases aA.mp hb with rfl|hb
      · exact bc iP
      · have e2:b=it:=by simpa using hb
        rw[e2];exact bc OP
  done:=by
    intro X hP hw hK hc i ah s σ H E I hf st hg
    subst hP hw hK
    obtain⟨xs,hq,hx⟩:=hg
    obtain⟨bZ,rv,p,hz⟩:=I.list hq
    obtain⟨⟨old,he⟩,hit⟩:=st
    have hl:=rv.length
    exact wpAny_pyNext_enum_end (I.ok.hd hc) he hit p.isList (by simp;omega) λh' eb=>⟨rfl,I.turnedL (ch:=[e,it]) (t':=s.toks) hf λb o hb q=>eb b o (λz=>hb (by simp[z])) q⟩
  self:=λ_ _ _ _ _ st h=>wpAny_pyIter_enum st.1.choose_spec h
section
variable {X:Cx}{mw:List Expr}{kt:Nat}{pt:cD}
def AT (K:aa)(ta:TA):TI:=λσ H R=>ta σ H λvs H1=>∃a,vs=[.ref a]/\(∃xs,fm K H1 a xs)/\R (Ex K a) H1
theorem L0 {l:Expr}{ta:TA}{p pos:cD}(hg:Gl X "enumerate")(hm:X.mg "enumerate"=none)(ha:PA X [l] ta)(hs:ax [l] X.env=[(false,bO l X.env)]:=by rfl) :
  PI X (.Tuple mw kt pt) (.Call (.Name "enumerate" p) [l] [] pos) (AT X.K ta):=by
 intro ah s σ H R I h
 refine Call_ (wI I hg hm PyProof.Rows.boot_enumerate (dg (dc (ha pos ah s σ H _ I h) λus s1 ⟨vs,H1,I1,r1,q1⟩=>?_) hs rfl))
 obtain⟨a,e,⟨xs,hq⟩,q⟩:=q1
 subst e
 cases r1 with
 |cons r rr=>
  cases rr
  cases r
  obtain⟨bZ,rv,pl,hz⟩:=I1.list hq
  refine call_enumerate_list pl.isList λh' he hit hsz hk=>?_
  refine wpAny_pyIter_enum (s:={ s1 with heap:=h' }) he ?_
  refine⟨s1.heap.objs.size+1,[s1.heap.objs.size+1,s1.heap.objs.size],_,_,H1,rfl,I1.kept (t':=s1.toks) hk,SN a _ _ (Nat.succ_ne_self _),⟨⟨_,he⟩,hit⟩,λb hb=>?_,q⟩
  rcases aA.mp hb with rfl|hb
  ·exact I1.fpOk (gJ _) (I1.hok.fresh (gJ _))
  ·have e:b=s1.heap.objs.size:=by simpa using hb
   subst e
   exact I1.fpOk (av _) (I1.hok.fresh (av _))
end
end L2
set_option maxHeartbeats 4000000
namespace L2
open PySem PySem.Spec PyProof.Rows
section
variable {P:bg}{w:bE}{A:bv}{E:ae->ak->Prop}{s:ak}
end
section
variable {X:Cx}{ah:List (af×cN)}{σ:St}{H:Hp}{s:ak}{a:af}
theorem Paired.at {α β:Type}{R:α->β->Prop}:∀{l:List α} {m:List β},Paired R l m->∀{i:Nat} {x:α},l[i]?=some x->∃y,m[i]?=some y/\R x y
 |_,_,.cons r t,0,x,e=>by cases e;exact⟨_,rfl,r⟩
 |_,_,.cons r t,i+1,x,e=>Paired.at t (i:=i) e
end
end L2
set_option maxHeartbeats 4000000
namespace L2
open PySem PySem.Spec PyProof.Rows
section
variable {P:bg}{w:bE}{A:bv}{E:ae->ak->Prop}{s:ak}
theorem Sq {d:af}{o:cN}{es:Array DictEntry}{ep:Nat}{Q:ae->ak->Prop}(ns:(d==dr)=false)(ty:s.TypeIs (.ref d) "dict")(ho:s.heap.get? d=some o)(hd:o.data=.dict es ep)
    (q:Q (.ref s.heap.objs.size) { s with heap:=s.heap.push { cls:=.type "dict_keyiterator",data:=.fields #[.ref d,.int 0 0,.int es.size 0,.int ep 0] } }):aV (aZ P w) A (pyIter (.ref d)) Q E s:=by
  apply wpAny_pyIter_slot ty F.slot_dict_iter
  refine wpAny_call_entry F.slot_dict_iter ty F.entry_dict_iter ?_ (F.args_dict_iter_1 _)
  unfold cr.«dict.__iter__»
  apply ao
  unfold cr.Dict.dictSlotNone
  apply ao
  refine wpAny_notOrdered_dict ty ?_
  refine aB (a:=ae.ref d) ?_
  show aV _ _ (cr.Dict.showsAll d >>= _) _ _ _
  apply ao
  unfold cr.Dict.showsAll
  rw[if_neg (by rw[ns];decide)]
  apply aB
  apply ao
  refine wpAny_dictEntries ho hd ?_
  apply ao
  refine wpAny_dictEpoch ho hd ?_
  apply ao
  refine cF (aB ⟨_,rfl,"dict_keyiterator",_,⟨_,bq _ rfl,rfl⟩,F.slot_dict_keyiterator_next.lookup,?_⟩)
  simpa[rawInt]using q
theorem MC:cr.Dict_items.ownsTuple "dict_keyiterator"=false:=by decide
theorem Sr {it d:af}{od:cN}{es:Array DictEntry}{i ep:Nat}{Q:Option ae->ak->Prop}(hi:s.heap.IsKeyIter it d i es.size ep)(AI:s.heap.get? d=some od)(nW:od.data=.dict es ep)(hl:i<es.size)
  (q:∀h',h'.IsKeyIter it d (i+1) es.size ep->dY it s.heap h'->Q (some es[i].key) { s with heap:=h' }):aV (aZ P w) A (pyNext (.ref it)) Q E s:=by
 obtain⟨o,ho,hc,hd⟩:=id hi
 unfold pyNext
 apply ao
 apply wpAny_attempt
 refine wpAny_callSpecial?_slot (name:=aR.ofString "__next__") hi.typeIs F.slot_dict_keyiterator_next (wpAny_call_entry F.slot_dict_keyiterator_next hi.typeIs F.entry_dict_keyiterator_next ?_ (F.args_dict_keyiterator_next_1 _))
 apply ao
 apply aB
 apply ao
 apply ao
 apply ao
 first|refine wpAny_typeNameOfWhole_keyiter hi.typeIs (aB ?_)|refine wpAny_typeNameOf_keyiter hi.typeIs (aB ?_)
 apply ao
 refine wpAny_fieldsOf ho hd ?_
 simp only[MC,cu,if_false]
 show aV _ _ (if(ae.ref d==ae.none)=true then _ else _) _ _ s
 rw[if_neg (show¬((ae.ref d==ae.none)=true) fromλz=>aX z)]
 apply ao
 apply aB
 apply ao
 refine wpAny_dictEntries AI nW ?_
 rw[if_neg (by simp)]
 apply ao
 apply aB
 apply ao
 refine wpAny_dictEpoch AI nW ?_
 rw[if_neg (by simp)]
 apply aB
 simp only[show¬((i:Int)<0)by omega,if_false,kj,dG hl]
 apply ao
 apply ao
 first|refine wpAny_typeNameOfWhole_keyiter hi.typeIs (aB ?_)|refine wpAny_typeNameOf_keyiter hi.typeIs (aB ?_)
 apply ao
 refine wpAny_isOneOf_keyiter hi.typeIs ?_
 show aV _ _ (setField (.ref it) 1 (rawInt ((i:Int)+1)) >>= _) _ _ s
 apply ao
 refine wpAny_setField ho hd (by simp) ?_
 have lI:(s.heap.update it (cN.mapFields (·.setIfInBounds 1 (rawInt ((i:Int)+1))))).IsKeyIter it d (i+1) es.size ep :=
  ⟨_,nj _ ho (cN.isFreed_of_fields (cN.data_mapFields hd _)),(cN.cls_mapFields ..).trans hc,by rw[cN.data_mapFields hd];simp[rawInt]⟩
 apply ao
 apply e6
 apply ao
 refine wpAny_isOneOf_keyiter (s:={ s with heap:=s.heap.update it (cN.mapFields (·.setIfInBounds 1 (rawInt ((i:Int)+1)))) }) lI.typeIs ?_
 show aV _ _ (pure es[i].key) _ _ _
 exact aB (aB ⟨_,rfl,aB (q _ lI (dY.update ..))⟩)
theorem S6 {it d:af}{od:cN}{es:Array DictEntry}{i ep:Nat}{Q:Option ae->ak->Prop}(hh:A.handled=none)(hi:s.heap.IsKeyIter it d i es.size ep)(AI:s.heap.get? d=some od)(nW:od.data=.dict es ep)(hl:es.size<=i)
  (q:∀h',aK.ExtBut it s.heap h'->Q none { s with heap:=h' }):aV (aZ P w) A (pyNext (.ref it)) Q E s:=by
 obtain⟨o,ho,hc,hd⟩:=id hi
 unfold pyNext
 apply ao
 apply wpAny_attempt
 refine wpAny_callSpecial?_slot (name:=aR.ofString "__next__") hi.typeIs F.slot_dict_keyiterator_next (wpAny_call_entry F.slot_dict_keyiterator_next hi.typeIs F.entry_dict_keyiterator_next ?_ (F.args_dict_keyiterator_next_1 _))
 apply ao
 apply aB
 apply ao
 apply ao
 apply ao
 first|refine wpAny_typeNameOfWhole_keyiter hi.typeIs (aB ?_)|refine wpAny_typeNameOf_keyiter hi.typeIs (aB ?_)
 apply ao
 refine wpAny_fieldsOf ho hd ?_
 simp only[MC,cu,if_false]
 show aV _ _ (if(ae.ref d==ae.none)=true then _ else _) _ _ s
 rw[if_neg (show¬((ae.ref d==ae.none)=true) fromλz=>aX z)]
 apply ao
 apply aB
 apply ao
 refine wpAny_dictEntries AI nW ?_
 rw[if_neg (by simp)]
 apply ao
 apply aB
 apply ao
 refine wpAny_dictEpoch AI nW ?_
 rw[if_neg (by simp)]
 apply aB
 simp only[show¬((i:Int)<0)by omega,if_false,kj,hU hl]
 apply ao
 apply ao
 first|refine wpAny_typeNameOfWhole_keyiter hi.typeIs (aB ?_)|refine wpAny_typeNameOf_keyiter hi.typeIs (aB ?_)
 show aV _ _ (setField (.ref it) 0 .none >>= _) _ _ s
 apply ao
 refine wpAny_setField ho hd (by simp) ?_
 show aV _ _ (newExc (.type "StopIteration") [] >>= _) _ _ _
 apply ao
 simp only[newExc,newTuple]
 apply ao
 refine cF ?_ (by size_fits)
 refine ao (m:=firstArgMember _ _) ?_
 refine wpAny_of_eq (a:=ae.none) (by first|rfl|(simp only[firstArgMember];rfl)) ?_
 refine cF ?_ (by size_fits)
 simp only[raiseNew]
 apply ao
 apply wpAny_handled
 rw[show A.in1.handled=none from hh]
 refine ao (aB <|wpAny_throw ?_)
 apply ao
 refine wpAny_isInstance (T:="StopIteration") (b:=true) ⟨_,bq _ rfl,rfl⟩ isSubtype_stop ?_
 exact aB (q _ (((dY.update ..).extBut.push _).push _))
def tT (d:af)(o:cN)(es:Array DictEntry)(ep:Nat)(h:aK):Prop:=h.get? d=some o/\o.cls=.type "dict"/\o.data=.dict es ep
theorem UQ {d:af}{o:cN}{es:Array DictEntry}{ep:Nat}(ns:(d==dr)=false):PySem.W.KdlSrc P w "dict" d d es.size (λi v=>∃hl:i<es.size,v=es[i].key) (tT d o es ep) where
 type:=λ_ hm=>⟨o,hm.1,hm.2.1⟩
 there:=λ_ hm=>⟨aJ hm.1,aJ hm.1⟩
 keep:=λ_ _ hm hk=>⟨hk d (.inl rfl) o hm.1,hm.2⟩
 notList:=by decide
 notTuple:=by decide
 hint:=λ_ _ s _ hm hq=>PySem.W.kdl_hint_dict (s:=s) ⟨o,hm.1,hm.2.1⟩ hq
 iter:=λA s hh hm=>⟨_,λi h=>h.IsKeyIter s.heap.objs.size d i es.size ep/\tT d o es ep h,(λ_ _ hq=>Sq ns ⟨o,hm.1,hm.2.1⟩ hm.1 hm.2.2 hq),{
  sub:=λb hb=>by simp at hb;simp[hb]
  frame:=λ_ _ _ st hk=>⟨st.1.at λo e=>hk _ (by simp) o e,hk d (by simp) o st.2.1,st.2.2⟩
  item:=λi s' Q E hi st hQ=>Sr st.1 st.2.1 st.2.2.2 hi λh' FX sV=>hQ _ h' s'.toks ⟨hi,rfl⟩ ⟨FX,sV.extBut d o (bc (aJ hm.1)) st.2.1,st.2.2⟩ λb o hb e=>sV.extBut b o (λh=>hb (by simp[h])) e
  done:=λs' Q E st hQ=>S6 hh st.1 st.2.1 st.2.2.2 (av _) λh' wO=>hQ h' s'.toks λb o hb e=>wO b o (λh=>hb (by simp[h])) e
  self:=λ_ _ _ _ st hQ=>wpAny_pyIter_keyiter st.1 hQ },⟨⟨_,bq _ rfl,rfl,rfl⟩,aC _ hm.1,hm.2⟩⟩
end
section
variable {X:Cx}{ah:List (af×cN)}{σ:St}{H:Hp}{s:ak}{a:af}
theorem Wi {bU:List (List dv×V)}{P:bg}{w:bE}(ok:jA P w H s.heap)(h:Rd H a (.dT bU)):(a==dr)=false/\bU.length<=sizeLine/\∃(o:cN) (es:Array DictEntry) (ep:Nat),tT a o es ep s.heap/\es.size=bU.length /\
  ∀i k y,bU[i]?=some (k,y)->∃(hl:i<es.size) (b:af),es[i].key=.ref b/\H b=some (.tup (k.map kV))/\RelV y es[i].val:=by
 obtain⟨z1,z2,xs,r,o,es,ep,h1,h2,h3,h4,h5⟩:=(show dw P w H s.heap a (.dT bU)from h.ok ok)
 have hz:es.size=xs.length:=size_of_entries h4
 refine⟨z2,z1,o,es,ep,⟨h1,h2.1,h3⟩,by rw[hz,r.length],λi k y hk=>?_⟩
 obtain⟨⟨k',b,u⟩,hx,e1,e2,e3⟩:=Paired.at r hk
 have hi:=entry_at h4 i
 rw[hx]at hi
 obtain⟨hl,hi⟩:=Array.getElem?_eq_some_iff.mp hi
 exact⟨hl,b,by rw[hi];rfl,e2,by rw[hi];exact e3⟩
def qH:List V->Hp->VK->Prop:=λxs H Q=>∃p bU,xs=[.ref p]/\Rd H p (.dT bU)/\∀l bs,H l=none->Paired (λ(q:List dv×V) (b:af)=>H b=some (.tup (q.1.map kV))) bU bs->Q (.ref l) (upd H l (.lst (bs.map V.ref)))
theorem K6 {α β:Type}{R:α->β->Prop}:∀{l:List α} {m:List β},l.length=m.length->(∀(i:Nat) (x:α),l[i]?=some x->∃y,m[i]?=some y/\R x y)->Paired R l m
 |[],[],_,_=>.nil
 |x::l,[],h,_=>by simp at h
 |[],y::m,h,_=>by simp at h
 |x::l,y::m,h,f=>by
  obtain⟨z,e,r⟩:=f 0 x rfl
  cases e
  exact .cons r (K6 (by simpa using h) λi x' e=>f (i+1) x' e)
theorem Kw (Oj:X.calm=true):eo X (.type "list") qH:=by
 intro ah s σ H xs us Q I r h
 obtain⟨p,bU,rfl,hp,q⟩:=h
 obtain⟨u,rfl,rx⟩:=ni r
 cases rx
 obtain⟨ns,mL,o,es,ep,rd,hz,at_⟩:=Wi I.hok hp
 refine PySem.W.kdl_call (UQ ns) (I.ok.hd Oj) rd (by rw[hz];exact mL) λh' tk fG c kp e it=>?_
 obtain⟨hsz,hit⟩:=it
 have key:∀i (hi:i<bU.length),∃b,es[i]?.map (·.key)=some (.ref b)/\H b=some (.tup (bU[i].1.map kV)):=λi hi=>by
  obtain⟨hl,b,e1,e2,_⟩:=at_ i bU[i].1 bU[i].2 (by simp[hi])
  exact⟨b,by rw[dG hl,eK,e1],e2⟩
 obtain⟨bs,FI,FK⟩:∃bs:List af,bs.length=bU.length/\∀i (hi:i<bU.length),∃b,bs[i]?=some b/\es[i]?.map (·.key)=some (.ref b)/\H b=some (.tup (bU[i].1.map kV)):=by
  have:∀i:Nat,∃b:af,∀hi:i<bU.length,es[i]?.map (·.key)=some (.ref b)/\H b=some (.tup (bU[i].1.map kV)):=λi=>by
   by_cases hi:i<bU.length
   ·obtain⟨b,h1,h2⟩:=key i hi;exact⟨b,λ_=>⟨h1,h2⟩⟩
   ·exact⟨0,λh=>absurd h hi⟩
  obtain⟨f,hf⟩:=Classical.axiomOfChoice this
  refine⟨(aE bU.length).map f,by simp,λi hi=>⟨f i,by rw[aW,cQ hi];rfl,hf i hi⟩⟩
 have pr:Paired (λ(q:List dv×V) (b:af)=>H b=some (.tup (q.1.map kV))) bU bs:=K6 FI.symm λi x hx=>by
  obtain⟨hi,e⟩:=aQ.mp hx
  obtain⟨b,h1,_,h3⟩:=FK i hi
  exact⟨b,h1,by rw[←e];exact h3⟩
 have Ay:fG.toList=bs.map ae.ref:=by
  apply eh
  intro i
  rw[aW,Array.getElem?_toList]
  by_cases hi:i<bU.length
  ·obtain⟨b,h1,h2,_⟩:=FK i hi
   have lI:i<fG.size:=by rw[hsz,hz];exact hi
   obtain⟨hl,hv⟩:=hit i fG[i] (dG lI)
   rw[dG lI,h1,hv]
   rw[dG hl,eK]at h2
   exact h2
  ·rw[hU (by rw[hsz,hz];omega),cX (by omega)]
   rfl
 refine⟨.ref s.heap.objs.size,_,I.laid (t':=tk) kp (av _) (show dw X.prog X.w _ h' _ (.lst (bs.map V.ref))from⟨by rw[aF,FI];exact mL,bs.map ae.ref,c,?_,?_⟩),rfl,q _ bs (I.hok.fresh (av _)) pr⟩
 ·clear Ay FK pr FI
  induction bs with
  |nil=>exact .nil
  |cons b bs ih=>exact .cons rfl ih
 ·rw[e,←Ay]
end
end L2
namespace L2
open PySem PySem.W PyProof.Rows
def dR {α:Type}(lt:Nat->Nat->Bool):KasT α->α
 |.ret a=>a
 |.ask i j k=>dR lt (k (lt i j))
theorem uv {α β:Type}(lt:Nat->Nat->Bool)(f:α->KasT β):∀t:KasT α,dR lt (t.bind f)=dR lt (f (dR lt t))
 |.ret _=>rfl
 |.ask i j k=>uv lt f (k (lt i j))
def lG {α:Type}(n:Nat)(P:α->Prop):KasT α->Prop
 |.ret a=>P a
 |.ask i j k=>i<n/\j<n/\∀b,lG n P (k b)
theorem lG.bind {α β:Type}{n:Nat}{P:α->Prop}{R:β->Prop}{f:α->KasT β}:∀{t:KasT α},lG n P t->(∀a,P a->lG n R (f a))->lG n R (t.bind f)
 |.ret a,h,g=>g a h
 |.ask i j k,h,g=>⟨h.1,h.2.1,λb=>lG.bind (h.2.2 b) g⟩
theorem Lz {α:Type}{cmp:Nat->Nat->(Bool->ak->Prop)->ak->Prop}{lt:Nat->Nat->Bool}{s:ak}{n:Nat}{P:α->Prop}(hc:∀i j C,i<n->j<n->C (lt i j) s->cmp i j C s){Q:α->ak->Prop}:∀t:KasT α,lG n P t->Q (dR lt t) s->t.kasWp cmp Q s
 |.ret a,_,h=>h
 |.ask i j k,w,h=>hc i j _ w.1 w.2.1 (Lz hc (k (lt i j)) (w.2.2 _) h)
def Bd (n:Nat)(p:Array Nat):Prop:=∀x∈p.toList,x<n
theorem Bd.get {n:Nat}{p:Array Nat}(h:Bd n p)(h0:0<n)(i:Nat):p.getD i 0<n:=by
 rw[fU]
 cases e:p[i]? with
 |none=>exact h0
 |some x=>exact h x (iK.mpr (Array.mem_of_getElem? e))
theorem Bd.perm {n:Nat}{p q:Array Nat}(h:Bd n p)(e:q.Perm p):Bd n q:=λx hx=>h x (e.toList.mem_iff.mp hx)
theorem HJ {n:Nat}{p:Array Nat}(h:Bd n p)(h0:0<n):∀f m,lG n (λ_=>True) (kas_asc p f m)
 |0,_=>trivial
 |f+1,m=>⟨h.get h0 _,h.get h0 _,λb=>by cases b;exact HJ h h0 f (m+1);trivial⟩
theorem D6 {n:Nat}(h0:0<n):∀(f:Nat) (p:Array Nat) (m q:Nat),Bd n p->lG n (λr:Array Nat×Nat×Nat=>Bd n r.1) (kas_desc f p m q)
 |0,p,m,q,h=>h
 |f+1,p,m,q,h=>by
  refine⟨h.get h0 _,h.get h0 _,λb=>?_⟩
  cases b with
  |true=>
   show lG n _ (if q > 0 then _ else _)
   split
   ·exact D6 h0 f _ _ _ (h.perm (mirror_perm _ _ _ _))
   ·exact D6 h0 f _ _ _ h
  |false=>
   refine⟨h.get h0 _,h.get h0 _,λb=>?_⟩
   cases b with
   |true=>exact h
   |false=>exact D6 h0 f _ _ _ h
theorem LQ {n m eM:Nat}{p:Array Nat}(h:Bd n p)(h0:0<n):lG n (λr:Nat×Array Nat=>Bd n r.2) (kas_tail3 m eM p) :=
 lG.bind (HJ (h.perm (mirror_perm _ _ _ _)) h0 _ _) λ_ _=>h.perm (mirror_perm _ _ _ _)
theorem Kl {n m eM:Nat}{p:Array Nat}(h:Bd n p)(h0:0<n):lG n (λr:Nat×Array Nat=>Bd n r.2) (kas_descPart m eM p):=by
 refine lG.bind (D6 h0 _ _ _ _ h) λr hr=>?_
 split
 ·exact LQ (hr.perm (mirror_perm _ _ _ _)) h0
 ·exact LQ hr h0
theorem S7 {n eM:Nat}{p:Array Nat}(h:Bd n p)(h0:0<n):lG n (λr:Nat×Array Nat=>Bd n r.2) (kas_count eM p):=by
 refine lG.bind (HJ h h0 _ _) λm _=>?_
 split
 ·exact h
 ·split
  ·refine⟨h.get h0 _,h.get h0 _,λb=>?_⟩
   cases b with
   |true=>exact h
   |false=>exact Kl (h.perm (mirror_perm _ _ _ _)) h0
  ·exact Kl h h0
theorem Hr {n k:Nat}{p:Array Nat}(h:Bd n p)(h0:0<n):∀f l r,lG n (λ_=>True) (kas_place p k f l r)
 |0,_,_=>trivial
 |f+1,l,r=>by
  unfold kas_place
  split
  ·trivial
  ·refine⟨h.get h0 _,h.get h0 _,λb=>?_⟩
   cases b with
   |true=>exact Hr h h0 f _ _
   |false=>exact Hr h h0 f _ _
theorem MD {n:Nat}(h0:0<n):∀(f:Nat) (p:Array Nat) (k:Nat),Bd n p->lG n (λr=>Bd n r) (kas_bin f p k)
 |0,p,k,h=>h
 |f+1,p,k,h=>lG.bind (Hr h h0 _ _ _) λ_ _=>MD h0 f _ _ (h.perm (bubble_perm _ _ _))
theorem UR {n:Nat}(h0:0<n):lG n (λr=>Bd n r) (kas_sort n):=by
 refine lG.bind (S7 (p:=(aE n).toArray) (λx hx=>by simpa using hx) h0) λr hr=>?_
 split
 ·exact MD h0 _ _ _ hr
 ·exact hr
structure iF (lt:Nat->Nat->Bool):Prop where
 tr:∀i j k,lt j i=false->lt k j=false->lt k i=false
 as:∀i j,lt i j=true->lt j i=false
section
variable {lt:Nat->Nat->Bool}{p:Array Nat}
theorem iF.irr (h:iF lt)(i:Nat):lt i i=false:=by
 cases e:lt i i with
 |false=>rfl
 |true=>have:=h.as i i e;rw[e]at this;exact this
def gA (p:Array Nat)(i:Nat):Nat:=p.getD i 0
def mn (lt:Nat->Nat->Bool)(p:Array Nat)(k:Nat):Prop:=∀i j,i<=j->j<k->lt (gA p j) (gA p i)=false
def nE (lt:Nat->Nat->Bool)(p:Array Nat)(k:Nat):Prop:=∀i j,i<=j->j<k->lt (gA p i) (gA p j)=false
theorem CP {q:Array Nat}{i j:Nat}(h:q[i]?=p[j]?):gA q i=gA p j:=by
 unfold gA
 rw[fU,fU,h]
theorem sk {i j:Nat}(hj:j<=p.size)(k:Nat):gA (kas_rev p i j) k=if i<=k/\k<j then gA p (i+j-1-k)else gA p k:=by
 have:=getElem?_mirror_all (xs:=p) (i:=i) hj k
 unfold kas_rev
 split
 ·rename_i h;rw[if_pos h]at this;exact CP this
 ·rename_i h;rw[if_neg h]at this;exact CP this
theorem Wj {src d:Nat}(hs:src<p.size)(hd:d<=src)(k:Nat):gA (bubble p src d) k=if k=src-d then gA p src else if src-d<k/\k<=src then gA p (k-1)else gA p k:=by
 have:=getElem?_bubble hs d hd k
 split
 ·rename_i h;rw[if_pos h]at this;exact CP this
 ·rename_i h
  rw[if_neg h]at this
  split
  ·rename_i h2;rw[if_pos h2]at this;exact CP this
  ·rename_i h2;rw[if_neg h2]at this;exact CP this
theorem mn.snoc (o:iF lt){n:Nat}(h:mn lt p n)(hn:1<=n)(h1:lt (gA p n) (gA p (n-1))=false):mn lt p (n+1):=λi j nF hj=>by
 by_cases e:j=n
 ·subst e
  by_cases e2:i=j
  ·subst e2;exact o.irr _
  ·exact o.tr _ _ _ (h i (j-1) (by omega) (by omega)) h1
 ·exact h i j nF (by omega)
theorem nE.snoc (o:iF lt){n:Nat}(h:nE lt p n)(hn:1<=n)(h1:lt (gA p (n-1)) (gA p n)=false):nE lt p (n+1):=λi j nF hj=>by
 by_cases e:j=n
 ·subst e
  by_cases e2:i=j
  ·subst e2;exact o.irr _
  ·exact o.tr _ _ _ h1 (h i (j-1) (by omega) (by omega))
 ·exact h i j nF (by omega)
theorem HK (o:iF lt):∀(f n:Nat),1<=n->mn lt p n->n<=dR lt (kas_asc p f n)/\dR lt (kas_asc p f n)<=n+f/\mn lt p (dR lt (kas_asc p f n))
 |0,n,_,h=>⟨av _,av _,h⟩
 |f+1,n,hn,h=>by
  have st:dR lt (kas_asc p (f+1) n)=if lt (gA p n) (gA p (n-1))=true then n else dR lt (kas_asc p f (n+1)):=by
   show dR lt (if lt (gA p n) (gA p (n-1))=true then .ret n else kas_asc p f (n+1))=_
   split<;>rfl
  rw[st]
  cases e:lt (gA p n) (gA p (n-1))with
  |true=>rw[if_pos rfl];exact⟨av _,qS _ _,h⟩
  |false=>
   rw[if_neg (by decide)]
   obtain⟨h1,h2,h3⟩:=HK o f (n+1) (by omega) (h.snoc o hn e)
   exact⟨by omega,by omega,h3⟩
structure Es (lt:Nat->Nat->Bool)(p:Array Nat)(n q:Nat):Prop where
 d:nE lt p n
 q1:q<n
 e:∀i,n-1-q<=i->i<n->lt (gA p i) (gA p (n-1))=false/\lt (gA p (n-1)) (gA p i)=false
theorem nE.rev_eq (o:iF lt){n a:Nat}(hn:n<=p.size)(h:nE lt p n)(e:∀i,a<=i->i<n->lt (gA p i) (gA p (n-1))=false/\lt (gA p (n-1)) (gA p i)=false):nE lt (kas_rev p a n) n:=λi j nF hj=>by
 have pos:∀k,k<n->∃k',k'<n/\gA (kas_rev p a n) k=gA p k'/\(k<a->k'=k)/\(a<=k->a<=k'):=λk hk=>by
  rw[sk hn]
  by_cases c:a<=k/\k<n
  ·rw[if_pos c];exact⟨a+n-1-k,by omega,rfl,by omega,by omega⟩
  ·rw[if_neg c];exact⟨k,hk,rfl,λ_=>rfl,λz=>absurd ⟨z,hk⟩ c⟩
 obtain⟨i',lI,ei,ai,bi⟩:=pos i (by omega)
 obtain⟨j',Df,ej,aj,bj⟩:=pos j hj
 rw[ei,ej]
 by_cases ci:a<=i
 ·exact o.tr _ _ _ (e j' (bj (by omega)) Df).2 (e i' (bi ci) lI).1
 ·by_cases cj:a<=j
  ·have:=bj cj;have:=ai (by omega);exact h i' j' (by omega) Df
  ·rw[ai (by omega),aj (by omega)];exact h i j nF hj
theorem D7 (o:iF lt):∀(f:Nat) (p:Array Nat) (n q:Nat),Es lt p n q->n+f<=p.size->∀r,dR lt (kas_desc f p n q)=r->Es lt r.1 r.2.1 r.2.2/\n<=r.2.1/\r.2.1<=n+f/\r.1.Perm p
 |0,p,n,q,h,_,r,e=>by cases e;exact⟨h,av _,av _,.refl _⟩
 |f+1,p,n,q,h,hz,r,e=>by
  have hq:=h.q1
  change dR lt (if lt (gA p n) (gA p (n-1))=true then _ else _)=r at e
  cases c:lt (gA p n) (gA p (n-1))with
  |true=>
   rw[c,if_pos rfl]at e
   by_cases Jj:q > 0
   ·rw[if_pos Jj]at e
    have hd:nE lt (kas_rev p (n-(q+1)) n) n:=nE.rev_eq o (by omega) h.d λi hi lI=>h.e i (by omega) lI
    have en:gA (kas_rev p (n-(q+1)) n) n=gA p n:=by rw[sk (by omega),if_neg (by omega)]
    have el:gA (kas_rev p (n-(q+1)) n) (n-1)=gA p (n-(q+1)):=by rw[sk (by omega),if_pos (by omega)];congr 1;omega
    have c2:lt (gA p (n-(q+1))) (gA p n)=false:=by
     have:=h.e (n-(q+1)) (by omega) (by omega)
     exact o.tr _ _ _ (o.as _ _ c) this.1
    have mZ:nE lt (kas_rev p (n-(q+1)) n) (n+1):=hd.snoc o (by omega) (by rw[en,el];exact c2)
    have sz:(kas_rev p (n-(q+1)) n).size=p.size:=mirror_size _ _ _ _
    obtain⟨r1,r2,r3,r4⟩:=D7 o f _ (n+1) 0 ⟨mZ,by omega,λi hi lI=>by rw[show i=n+1-1 by omega];exact⟨o.irr _,o.irr _⟩⟩ (by omega) r e
    exact⟨r1,by omega,by omega,r4.trans (mirror_perm _ _ _ _)⟩
   ·rw[if_neg Jj]at e
    obtain⟨r1,r2,r3,r4⟩:=D7 o f p (n+1) 0 ⟨h.d.snoc o (by omega) (o.as _ _ c),by omega,λi hi lI=>by rw[show i=n+1-1 by omega];exact⟨o.irr _,o.irr _⟩⟩ (by omega) r e
    exact⟨r1,by omega,by omega,r4⟩
  |false=>
   rw[c,if_neg (by decide)]at e
   change dR lt (if lt (gA p (n-1)) (gA p n)=true then _ else _)=r at e
   cases c2:lt (gA p (n-1)) (gA p n)with
   |true=>
    rw[c2,if_pos rfl]at e
    cases e
    exact⟨h,av _,qS _ _,.refl _⟩
   |false=>
    rw[c2,if_neg (by decide)]at e
    obtain⟨r1,r2,r3,r4⟩:=D7 o f p (n+1) (q+1) ⟨h.d.snoc o (by omega) c2,by omega,λi hi lI=>by
     rw[show n+1-1=n by omega]
     by_cases ei:i=n
     ·subst ei;exact⟨o.irr _,o.irr _⟩
     ·obtain⟨u1,u2⟩:=h.e i (by omega) (by omega)
      exact⟨o.tr _ _ _ c2 u1,o.tr _ _ _ u2 c⟩⟩ (by omega) r e
    exact⟨r1,by omega,by omega,r4⟩
theorem nE.rev {n:Nat}(hn:n<=p.size)(h:nE lt p n):mn lt (kas_rev p 0 n) n:=λi j nF hj=>by
 rw[sk hn,sk hn,if_pos ⟨cC _,hj⟩,if_pos ⟨cC _,by omega⟩]
 exact h _ _ (by omega) (by omega)
theorem LR (o:iF lt){n eM:Nat}(h:nE lt p n)(h1:1<=n)(hn:n<=eM)(hz:eM<=p.size)(r:Nat×Array Nat)(e:dR lt (kas_tail3 n eM p)=r):1<=r.1/\r.1<=eM/\mn lt r.2 r.1/\r.2.Perm p:=by
 unfold kas_tail3 at e
 rw[uv]at e
 cases e
 obtain⟨a1,a2,a3⟩:=HK o (p:=kas_rev p 0 n) (eM-n) n h1 (h.rev (by omega))
 exact⟨by show 1<=dR lt (kas_asc _ _ _);omega,by show dR lt (kas_asc _ _ _)<=eM;omega,a3,mirror_perm _ _ _ _⟩
theorem Km (o:iF lt){n eM:Nat}(h:nE lt p n)(h1:1<=n)(lz:lt (gA p n) (gA p (n-1))=true)(hn:n<eM)(hz:eM<=p.size)(r:Nat×Array Nat)(e:dR lt (kas_descPart n eM p)=r):1<=r.1/\r.1<=eM/\mn lt r.2 r.1/\r.2.Perm p:=by
 unfold kas_descPart at e
 rw[uv]at e
 have hd:Es lt p (n+1) 0:=⟨h.snoc o h1 (o.as _ _ lz),by omega,λi hi lI=>by rw[show i=n+1-1 by omega];exact⟨o.irr _,o.irr _⟩⟩
 obtain⟨d1,d2,d3,d4⟩:=D7 o (eM-(n+1)) p (n+1) 0 hd (by omega) _ rfl
 generalize dR lt (kas_desc (eM-(n+1)) p (n+1) 0)=w at *
 obtain⟨p2,n2,q2⟩:=w
 dsimp only at *
 have sz:p2.size=p.size:=d4.size_eq
 by_cases hq:q2 > 0
 ·rw[if_pos hq]at e
  have hd2:nE lt (kas_rev p2 (n2-(q2+1)) n2) n2:=nE.rev_eq o (by omega) d1.d λi hi lI=>d1.e i (by omega) lI
  have Yg:(kas_rev p2 (n2-(q2+1)) n2).size=p2.size:=mirror_size _ _ _ _
  obtain⟨t1,t2,t3,t4⟩:=LR o hd2 (by omega) (by omega) (by omega) r e
  exact⟨t1,t2,t3,t4.trans ((mirror_perm _ _ _ _).trans d4)⟩
 ·rw[if_neg hq]at e
  obtain⟨t1,t2,t3,t4⟩:=LR o d1.d (by omega) (by omega) (by omega) r e
  exact⟨t1,t2,t3,t4.trans d4⟩
theorem LS (o:iF lt):∀(f n:Nat),1<=n->mn lt p n->∀m,dR lt (kas_asc p f n)=m->m=n+f\/lt (gA p m) (gA p (m-1))=true
 |0,n,_,_,m,e=>.inl e.symm
 |f+1,n,hn,h,m,e=>by
  have st:dR lt (kas_asc p (f+1) n)=if lt (gA p n) (gA p (n-1))=true then n else dR lt (kas_asc p f (n+1)):=by
   show dR lt (if lt (gA p n) (gA p (n-1))=true then .ret n else kas_asc p f (n+1))=_
   split<;>rfl
  rw[st]at e
  cases c:lt (gA p n) (gA p (n-1))with
  |true=>rw[c,if_pos rfl]at e;subst e;exact .inr c
  |false=>
   rw[c,if_neg (by decide)]at e
   rcases LS o f (n+1) (by omega) (h.snoc o hn c) m e with z|z
   ·exact .inl (by omega)
   ·exact .inr z
theorem S8 (o:iF lt){eM:Nat}(h1:1<=eM)(hz:eM<=p.size)(r:Nat×Array Nat)(e:dR lt (kas_count eM p)=r):1<=r.1/\r.1<=eM/\mn lt r.2 r.1/\r.2.Perm p:=by
 unfold kas_count at e
 rw[uv]at e
 have s1:mn lt p 1:=λi j nF hj=>by rw[show i=j by omega];exact o.irr _
 obtain⟨a1,a2,a3⟩:=HK o (p:=p) (eM-1) 1 (av _) s1
 have a4:=LS o (p:=p) (eM-1) 1 (av _) s1 _ rfl
 generalize dR lt (kas_asc p (eM-1) 1)=n at *
 by_cases hn:(n==eM)=true
 ·rw[if_pos hn]at e
  cases e
  exact⟨a1,by show n<=eM;omega,a3,.refl _⟩
 ·rw[if_neg hn]at e
  have hn:n≠eM:=λz=>hn (by rw[z];exact beq_self_eq_true _)
  have JB:=a4.resolve_left (by omega)
  by_cases h2:n > 1
  ·rw[if_pos h2]at e
   change dR lt (if lt (gA p 0) (gA p (n-1))=true then _ else _)=r at e
   cases c:lt (gA p 0) (gA p (n-1))with
   |true=>
    rw[c,if_pos rfl]at e
    cases e
    exact⟨a1,by show n<=eM;omega,a3,.refl _⟩
   |false=>
    rw[c,if_neg (by decide)]at e
    have eq:∀i j,i<n->j<n->lt (gA p i) (gA p j)=false:=λi j hi hj=>
     o.tr _ _ _ (o.tr _ _ _ (a3 j (n-1) (by omega) (by omega)) c) (a3 0 i (by omega) hi)
    have sz:(kas_rev p 0 n).size=p.size:=mirror_size _ _ _ _
    have Bt:lt (gA (kas_rev p 0 n) n) (gA (kas_rev p 0 n) (n-1))=true:=by
     rw[sk (by omega),if_neg (by omega),sk (by omega),if_pos (by omega),show 0+n-1-(n-1)=0 by omega]
     cases c2:lt (gA p n) (gA p 0)with
     |true=>rfl
     |false=>
      have:=o.tr _ _ _ c c2
      rw[JB]at this
      cases this
    obtain⟨t1,t2,t3,t4⟩:=Km o (p:=kas_rev p 0 n) (λi j nF hj=>by
     rw[sk (by omega),sk (by omega),if_pos ⟨cC _,by omega⟩,if_pos ⟨cC _,hj⟩]
     exact eq _ _ (by omega) (by omega)) a1 Bt (by omega) (by omega) r e
    exact⟨t1,t2,t3,t4.trans (mirror_perm _ _ _ _)⟩
  ·rw[if_neg h2]at e
   have:n=1:=by omega
   subst this
   exact Km o (λi j nF hj=>by rw[show i=j by omega];exact o.irr _) (av _) JB (by omega) hz r e
theorem Hs (o:iF lt){k:Nat}(hs:mn lt p k):∀(f l r:Nat),r-l<=f->l<=r->r<=k->(∀i,i<l->lt (gA p k) (gA p i)=false)->(∀i,r<=i->i<k->lt (gA p k) (gA p i)=true) ->
  ∀m,dR lt (kas_place p k f l r)=m->m<=k/\(∀i,i<m->lt (gA p k) (gA p i)=false)/\∀i,m<=i->i<k->lt (gA p k) (gA p i)=true
 |0,l,r,hf,Oy,sU,h1,h2,m,e=>by
  cases e
  exact⟨by show l<=k;omega,h1,λi hi hk=>h2 i (by show r<=i;have:l<=i:=hi;omega) hk⟩
 |f+1,l,r,hf,Oy,sU,h1,h2,m,e=>by
  have st:dR lt (kas_place p k (f+1) l r)=if l >= r then l else if lt (gA p k) (gA p ((l+r)/2))=true then dR lt (kas_place p k f l ((l+r)/2))else dR lt (kas_place p k f ((l+r)/2+1) r):=by
   show dR lt (if l >= r then .ret l else .ask (gA p k) (gA p ((l+r)/2)) λc=>if c=true then kas_place p k f l ((l+r)/2)else kas_place p k f ((l+r)/2+1) r)=_
   by_cases c:l >= r
   ·rw[if_pos c,if_pos c];rfl
   ·rw[if_neg c,if_neg c]
    show dR lt (if lt (gA p k) (gA p ((l+r)/2))=true then _ else _)=_
    split<;>rfl
  rw[st]at e
  by_cases c:l >= r
  ·rw[if_pos c]at e
   subst e
   exact⟨by omega,h1,λi hi hk=>h2 i (by omega) hk⟩
  ·rw[if_neg c]at e
   cases d:lt (gA p k) (gA p ((l+r)/2))with
   |true=>
    rw[d,if_pos rfl]at e
    refine Hs o hs f l ((l+r)/2) (by omega) (by omega) (by omega) h1 (λi hi hk=>?_) m e
    cases d2:lt (gA p k) (gA p i)with
    |true=>rfl
    |false=>
     have:=o.tr _ _ _ (hs ((l+r)/2) i hi hk) d2
     rw[d]at this
     cases this
   |false=>
    rw[d,if_neg (by decide)]at e
    refine Hs o hs f ((l+r)/2+1) r (by omega) (by omega) sU (λi hi=>?_) h2 m e
    exact o.tr _ _ _ (hs i ((l+r)/2) (by omega) (by omega)) d
theorem ME (o:iF lt):∀(f:Nat) (p:Array Nat) (k:Nat),mn lt p k->k+f<=p.size->∀r,dR lt (kas_bin f p k)=r->mn lt r (k+f)/\r.Perm p
 |0,p,k,h,_,r,e=>by cases e;exact⟨h,.refl _⟩
 |f+1,p,k,h,hz,r,e=>by
  have st:dR lt (kas_bin (f+1) p k)=dR lt (kas_bin f (bubble p k (k-dR lt (kas_place p k k 0 k))) (k+1)):=by
   show dR lt ((kas_place p k k 0 k).bind _)=_
   rw[uv]
  rw[st]at e
  obtain⟨m1,m2,m3⟩:=Hs o h k 0 k (by omega) (cC _) (av _) (λi hi=>by omega) (λi hi hk=>by omega) _ rfl
  generalize dR lt (kas_place p k k 0 k)=m at *
  have g:=Wj (p:=p) (src:=k) (d:=k-m) (by omega) (by omega)
  rw[show k-(k-m)=m by omega]at g
  have hs:mn lt (bubble p k (k-m)) (k+1):=λi j nF hj=>by
   rw[g,g]
   by_cases ei:i=m
   ·subst ei
    rw[if_pos rfl]
    by_cases ej:j=i
    ·rw[if_pos ej];exact o.irr _
    ·rw[if_neg ej,if_pos (by omega)];exact o.as _ _ (m3 (j-1) (by omega) (by omega))
   ·rw[if_neg ei]
    by_cases ej:j=m
    ·subst ej
     rw[if_pos rfl,if_neg (by omega)]
     exact m2 i (by omega)
    ·rw[if_neg ej]
     by_cases ci:m<i/\i<=k
     ·rw[if_pos ci,if_pos (by omega)];exact h _ _ (by omega) (by omega)
     ·rw[if_neg ci]
      by_cases cj:m<j/\j<=k
      ·rw[if_pos cj];exact h _ _ (by omega) (by omega)
      ·rw[if_neg cj];exact h _ _ (by omega) (by omega)
  have sz:(bubble p k (k-m)).size=p.size:=bubble_size _ _ _
  obtain⟨r1,r2⟩:=ME o f _ (k+1) hs (by omega) r e
  exact⟨by rw[show k+(f+1)=k+1+f by omega];exact r1,r2.trans (bubble_perm _ _ _)⟩
theorem UT (o:iF lt){n:Nat}(h1:1<=n):mn lt (dR lt (kas_sort n)) n/\(dR lt (kas_sort n)).Perm (aE n).toArray:=by
 have sz:(aE n).toArray.size=n:=by simp
 unfold kas_sort
 rw[uv]
 obtain⟨c1,c2,c3,c4⟩:=S8 o (p:=(aE n).toArray) h1 (by omega) _ rfl
 generalize dR lt (kas_count n (aE n).toArray)=w at *
 obtain⟨m,q⟩:=w
 dsimp only at *
 have sq:q.size=n:=by rw[c4.size_eq,sz]
 by_cases hm:m<n
 ·rw[if_pos hm,show max m 1=m by omega]
  obtain⟨b1,b2⟩:=ME o (n-m) q m c3 (by omega) _ rfl
  rw[show m+(n-m)=n by omega]at b1
  exact⟨b1,b2.trans c4⟩
 ·rw[if_neg hm]
  have:m=n:=by omega
  subst this
  exact⟨c3,c4⟩
end
section
variable {prog:bg}{w:bE}{A:bv}{E:ae->ak->Prop}{s:ak}{lt:Nat->Nat->Bool}{vs:List ae}{κ:SortKind}
structure Ord (prog:bg)(w:bE)(h:aK)(vs:List ae)(κ:SortKind)(lt:Nat->Nat->Bool):Prop where
 kind:∀(s:ak) (A:bv) (E:ae->ak->Prop) (Q:SortKind->ak->Prop),(∀b o,h.get? b=some o->s.heap.get? b=some o)->2<=vs.length->Q κ s->aV (aZ prog w) A (keyKind' vs.toArray) Q E s
 cmp:∀(s:ak) (A:bv) (i j:Nat) (C:Bool->ak->Prop),(∀b o,h.get? b=some o->s.heap.get? b=some o)->i<vs.length->j<vs.length->C (lt i j) s->aV (aZ prog w) A (keyLt' κ (vs.getD i ae.none) (vs.getD j ae.none)) C (λ_ _=>False) s
theorem UU {a:af}{n:Nat}{h0:aK}{P:PySem.Fin->ak->Prop}(ho:s.heap.get? a=some (seqObj "list" vs.toArray n))(keep:∀b o,h0.get? b=some o->s.heap.get? b=some o)(Od:h0.get? a=none)(Aw:vs.length<64)(O:Ord prog w h0 vs κ lt)(o:iF lt)
  (h:∀p:Array Nat,p.Perm (aE vs.length).toArray->mn lt p vs.length->P (.done (.ret .none)) { s with heap:=sortedHeap s.heap a vs (iq (p.toList.map λi=>vs.getD i ae.none)) }) :
  aV (aZ prog w) A (cr.«list.sort» ⟨[.ref a],[]⟩) P E s:=by
 rw[list_sort_plain]
 have lz:a<s.heap.objs.size:=aJ ho
 apply ao
 refine listItems_at ho rfl ?_
 apply ao
 refine listUpdate_at ho rfl ?_
 obtain⟨e1,Jg⟩:∃e1,(s.heap.update a (cN.mapSeq λ_=>#[])).get? a=some (seqObj "list" #[] e1):=⟨_,get?_update_seq ho (λ_=>#[])⟩
 apply ao
 refine seqEpoch_at Jg rfl ?_
 apply ao
 refine wpAny_newTuple ?_ (by rw[cn];simp;omega)
 apply ao
 refine wpAny_newList ?_
 apply e6
 have Jh:(((s.heap.update a (cN.mapSeq λ_=>#[])).push (seqObj "tuple" vs.toArray 0)).push (seqObj "list" #[] 0)).get? a=some (seqObj "list" #[] e1):=by
  rw[ef _ _ _ (by rw[size_push',fH];exact bc (cS lz)),ef _ _ _ (by rw[fH];exact bc lz)]
  exact Jg
 have sY:∀b o,h0.get? b=some o->(((s.heap.update a (cN.mapSeq λ_=>#[])).push (seqObj "tuple" vs.toArray 0)).push (seqObj "list" #[] 0)).get? b=some o:=λb o e=>by
  have ne:b≠a:=λz=>by rw[z,Od]at e;cases e
  have hb:=aJ (keep b o e)
  rw[ef _ _ _ (by rw[size_push',fH];exact bc (cS hb)),ef _ _ _ (by rw[fH];exact bc hb),og _ _ _ _ ne]
  exact keep b o e
 show aV (aZ prog w) A _ P E { s with heap:=((s.heap.update a (cN.mapSeq λ_=>#[])).push (seqObj "tuple" vs.toArray 0)).push (seqObj "list" #[] 0) }
 dsimp only
 have hsz:vs.toArray.size=vs.length:=by simp
 have fin:∀(p:Array Nat) (st:SortSt),p.Perm (aE vs.length).toArray->mn lt p vs.length->(arrOf st).map (·.2)=iq (p.toList.map λi=>vs.getD i ae.none)->failedOf st=none->(arrOf st).size<=sizeLine ->
   aV (aZ prog w) A (do
    let touched:=(← seqEpoch a) != e1
    cr.List.listUpdate (.ref a) λ_=>(arrOf st).map (·.2)
    if let some e:=failedOf st then rule "list.sort.comparison-raised";throw e
    if touched then rule "list.sort.modified";raiseError "ValueError" "list modified during sort"
    ret .none) P E { s with heap:=((s.heap.update a (cN.mapSeq λ_=>#[])).push (seqObj "tuple" vs.toArray 0)).push (seqObj "list" #[] 0) }:=λp st h1 h2 h3 h4 h5=>by
  apply ao
  refine seqEpoch_at Jh rfl ?_
  apply ao
  refine listUpdate_at Jh rfl ?_ (hsz2:=by rw[qO];exact Nat.le_succ_of_le h5)
  rw[h4]
  simp only[bne_self_eq_false,cu,if_false]
  have:=h p h1 h2
  unfold sortedHeap at this
  rw[h3]
  exact aB this
 have idx:(aE vs.length).map (λi=>vs.getD i ae.none)=vs:=by
  apply eh
  intro i
  rw[aW]
  by_cases hi:i<vs.length
  ·rw[cQ hi,de hi,eK,gq,de hi];rfl
  ·rw[cX (by simpa using hi),cX (by omega)];rfl
 by_cases h2:vs.toArray.size<2
 ·rw[if_pos h2,if_pos h2]
  apply ao
  apply aB
  rw[StateT.run_pure]
  apply ao
  apply aB
  refine fin (aE vs.length).toArray (SortSt.mk' general' (vs.toArray.zip vs.toArray) #[] 7 none) (.refl _) (λi j nF hj=>?_) ?_ rfl ?_
  ·rw[show i=j by omega];exact o.irr _
  ·show((vs.toArray.zip vs.toArray).map (·.2))=_
   rw[show(aE vs.length).toArray.toList.map (λi=>vs.getD i ae.none)=vs from idx]
   simp
   exact List.map_snd_zip (av _)
  ·show(vs.toArray.zip vs.toArray).size<=_
   rw[cn];simp;omega
 ·rw[if_neg h2,if_neg h2]
  apply ao
  refine O.kind _ _ _ _ sY (by omega) ?_
  apply ao
  obtain⟨k1,k2⟩:=UT o (n:=vs.length) (by omega)
  refine dU (kat_run (G:=λp s'=>p=dR lt (kas_sort vs.length)/\s' = { s with heap:=((s.heap.update a (cN.mapSeq λ_=>#[])).push (seqObj "tuple" vs.toArray 0)).push (seqObj "list" #[] 0) })
   (Q:=λkC s'=>s' = { s with heap:=((s.heap.update a (cN.mapSeq λ_=>#[])).push (seqObj "tuple" vs.toArray 0)).push (seqObj "list" #[] 0) }/\(arrOf kC).map (·.2)=iq ((dR lt (kas_sort vs.length)).toList.map λi=>vs.getD i ae.none)/\failedOf kC=none/\(arrOf kC).size<=sizeLine)
   rfl (by omega) Aw (λp kC s' q1 q2 q3 q4=>?_) (Lz (λi j C hi hj hC=>O.cmp _ _ i j C sY hi hj hC) _ (UR (by omega)) ⟨rfl,rfl⟩)) (λr s' hr=>?_) λ_ _ e=>e
  ·obtain⟨rfl,rfl⟩:=q4
   exact⟨rfl,kat_snds rfl q2,q3,by rw[q2,qO,q1,cn];omega⟩
  ·obtain⟨⟨⟩,kC⟩:=r
   obtain⟨rfl,q1,q2,q3⟩:=hr
   exact fin _ kC k2 k1 q1 q2 q3
theorem Ss {l:af}{Q:ae->ak->Prop}(hl:s.heap.IsList l vs.toArray)(Aw:vs.length<64)(O:Ord prog w s.heap vs κ lt)(o:iF lt)
  (h:∀p:Array Nat,p.Perm (aE vs.length).toArray->mn lt p vs.length->Q (.ref (s.heap.objs.size+1)) { s with heap:=sortedAll s.heap vs (iq (p.toList.map λi=>vs.getD i ae.none)) }) :
  aV (aZ prog w) A (call (.builtin "sorted") [.ref l]) Q E s:=by
 refine Calls.call_function_entry kind_sorted plain_sorted entry_sorted (args_sorted1 _) ?_
 unfold cr.«sorted»
 refine ao (m:=checkCount "sorted" 1 1 _) ?_
 apply aB
 apply ao
 refine collect_list hl ?_ (by rw[cn];omega)
 apply ao
 refine wpAny_newList ?_ (by rw[cn];omega)
 have hsz:((s.heap.push (seqObj "list" #[] 0)).update s.heap.objs.size (cN.mapSeq (·++vs.toArray))).objs.size=s.heap.objs.size+1:=by
  rw[fH,size_push']
 have Di:(((s.heap.push (seqObj "list" #[] 0)).update s.heap.objs.size (cN.mapSeq (·++vs.toArray))).push (seqObj "list" vs.toArray 0)).get? (s.heap.objs.size+1)=some (seqObj "list" vs.toArray 0):=by
  rw[←hsz];exact bq _ rfl
 have keep:∀b o,s.heap.get? b=some o->(((s.heap.push (seqObj "list" #[] 0)).update s.heap.objs.size (cN.mapSeq (·++vs.toArray))).push (seqObj "list" vs.toArray 0)).get? b=some o:=λb o q=>by
  have hb:b<s.heap.objs.size:=aJ q
  rw[ef _ _ _ (by rw[hsz];exact bc (cS hb)),og _ _ _ _ (bc hb),ef _ _ _ (bc hb)]
  exact q
 show aV _ _ _ _ _ { s with heap:=((s.heap.push (seqObj "list" #[] 0)).update s.heap.objs.size (cN.mapSeq (·++vs.toArray))).push (seqObj "list" vs.toArray 0) }
 rw[hsz]
 apply ao
 apply e6
 refine wpAny_call_entry slot_list_sort ⟨_,Di,rfl⟩ entry_list_sort (UU (h0:=s.heap) Di keep (nI (gJ _)) Aw O o λp a1 a2=>⟨_,rfl,?_⟩) (args_list_sort _)
 exact aB ⟨_,rfl,h p a1 a2⟩
end
end L2
set_option maxHeartbeats 4000000
namespace L2
open PySem PySem.Spec PyProof.Rows
def fD:List Int->List Int->Bool
 |[],[]=>false
 |[],_::_=>true
 |_::_,[]=>false
 |x::xs,y::ys=>if x=y then fD xs ys else decide (x<y)
theorem HA:∀x y z:List Int,fD y x=false->fD z y=false->fD z x=false
 |[],_,[],_,_=>rfl
 |[],[],_::_,_,h=>rfl
 |[],_::_,_::_,_,_=>rfl
 |_::_,[],_,h,_=>by cases h
 |_::_,_::_,[],_,h=>by cases h
 |x::xs,y::ys,z::zs,h1,h2=>by
  unfold fD at h1 h2 ⊢
  by_cases e1:y=x
  ·subst e1
   rw[if_pos rfl]at h1
   by_cases e2:z=y
   ·subst e2
    rw[if_pos rfl]at h2 ⊢
    exact HA xs ys zs h1 h2
   ·rw[if_neg e2]at h2 ⊢;exact h2
  ·rw[if_neg e1]at h1
   have h1:¬y<x:=of_decide_eq_false h1
   by_cases e2:z=y
   ·subst e2
    rw[if_neg e1];exact decide_eq_false h1
   ·rw[if_neg e2]at h2
    have h2:¬z<y:=of_decide_eq_false h2
    rw[if_neg (by omega)]
    exact decide_eq_false (by omega)
theorem D8:∀x y:List Int,fD x y=true->fD y x=false
 |[],[],h=>by cases h
 |[],_::_,_=>rfl
 |_::_,[],h=>by cases h
 |x::xs,y::ys,h=>by
  unfold fD at h ⊢
  by_cases e:x=y
  ·subst e
   rw[if_pos rfl]at h ⊢
   exact D8 xs ys h
  ·rw[if_neg e]at h
   have h:x<y:=of_decide_eq_true h
   rw[if_neg (by omega)]
   exact decide_eq_false (by omega)
theorem LU:∀x y:List Int,fD x y=false->fD y x=false->x=y
 |[],[],_,_=>rfl
 |[],_::_,h,_=>by cases h
 |_::_,[],_,h=>by cases h
 |x::xs,y::ys,h1,h2=>by
  unfold fD at h1 h2
  by_cases e:x=y
  ·subst e
   rw[if_pos rfl]at h1 h2
   rw[LU xs ys h1 h2]
  ·rw[if_neg e]at h1
   rw[if_neg (Ne.symm e)]at h2
   have h1:=of_decide_eq_false h1
   have h2:=of_decide_eq_false h2
   omega
def n4 (fin:Bool):List Int->List Int->Bool
 |x::xs,y::ys=>if x=y then n4 fin xs ys else decide (x<y)
 |_,_=>fin
theorem MF:∀xs ys:List Int,n4 (decide (xs.length<ys.length)) xs ys=fD xs ys
 |[],[]=>rfl
 |[],y::ys=>by simp[n4,fD]
 |x::xs,[]=>by simp[n4,fD]
 |x::xs,y::ys=>by
  unfold n4 fD
  rw[←MF xs ys]
  simp
section
variable {prog:bg}{w:bE}{A:bv}{E:ae->ak->Prop}{s:ak}{b fin:Bool}{Q:Bool->ak->Prop}
theorem LA:∀(xs ys:List Int) (bZ Jr:List ae) (i:Nat),bT (xs.map V.int) bZ->bT (ys.map V.int) Jr->Q (n4 fin xs ys) s->PySem.W.KatLex prog w A b fin Q (bZ.zip Jr) i s
 |[],_,_,_,_,.nil,_,h=>h
 |_::_,[],_::_,_,_,.cons _ _,.nil,h=>h
 |x::xs,y::ys,_,_,i,.cons r t,.cons r' t',h=>by
  obtain⟨tk,rfl⟩:=r
  obtain⟨Yj,rfl⟩:=r'
  refine PySem.W.kat_cons (wpAny_eqBool_int ?_)
  unfold n4 at h
  by_cases e:x=y
  ·subst e
   rw[if_pos rfl]at h
   rw[beq_self_eq_true]
   exact PySem.W.kat_yes (LA xs ys _ _ (i+1) t t' h)
  ·rw[if_neg e]at h
   have:(x==y)=false:=by simpa using e
   rw[this]
   refine PySem.W.kat_no ?_
   cases hb:(b&&i==0)with
   |true=>exact oneLt_int h
   |false=>exact PySem.W.kat_one _ _ (wpAny_lt_int h)
end
def qI (K:aa):List V->Hp->VK->Prop:=λxs H Q=>∃(a:af) (qs:List (af×List Int)),xs=[.ref a]/\fm K H a (qs.map λq=>V.ref q.1)/\(∀q∈qs,H q.1=some (.tup (q.2.map V.int))/\q.2≠[])/\qs.length<64 /\
 ∀ng:List (af×List Int),ng.Perm qs->ng.Pairwise (λx y=>fD y.2 x.2=false)->∀p,H p=none->Q (.ref p) (upd H p (.lst (ng.map λq=>V.ref q.1)))
theorem K7:∀{qs:List (af×List Int)} {bZ:List ae},bT (qs.map λq=>V.ref q.1) bZ->bZ=qs.map λq=>ae.ref q.1
 |[],_,.nil=>rfl
 |q::qs,_,.cons r t=>by cases r;rw[K7 t];rfl
theorem zev:∀qs:List (af×List Int),bT (qs.map λq=>V.ref q.1) (qs.map λq=>ae.ref q.1)
 |[]=>.nil
 |q::qs=>.cons rfl (zev qs)
theorem Rz {X:Cx}:eo X (.builtin "sorted") (qI X.K):=by
 intro ah s σ H xs us Q I r h
 obtain⟨a,qs,rfl,hq,hk,Aw,q⟩:=h
 obtain⟨u,rfl,ru⟩:=r.one
 cases(show u=ae.ref a from ru)
 obtain⟨bZ,rv,pl,hz⟩:=I.list hq
 have hits:=K7 rv
 subst hits
 have tup:∀q∈qs,∃(o:cN) (ts:List ae) (n:Nat),s.heap.get? q.1=some o/\o.cls=.type "tuple"/\o.data=.seq ts.toArray n/\bT (q.2.map V.int) ts:=λq hq=>by
  obtain⟨_,ts,v,o,h1,h2,n,h3⟩:=(show dw X.prog X.w H s.heap q.1 (.tup (q.2.map V.int))from I.hok _ _ (hk q hq).1)
  exact⟨o,ts,n,h1,h2,h3,v⟩
 have len:(qs.map λq=>ae.ref q.1).length=qs.length:=aF ..
 have gd:∀i (hi:i<qs.length),(qs.map λq=>ae.ref q.1).getD i ae.none=.ref qs[i].1/\qs.getD i (0,[])=qs[i]:=λi hi=>by
  rw[gq,gq,aW,de hi];exact⟨rfl,rfl⟩
 have O:Ord X.prog X.w s.heap (qs.map λq=>ae.ref q.1) (tuples' (ae.type "int" != ae.type "tuple")) (λi j=>fD (qs.getD i (0,[])).2 (qs.getD j (0,[])).2):={
  kind:=λs' A E Q keep h2 hQ=>by
   have key:∀l:List (af×List Int),(∀q∈l,q∈qs)->∃fs:List ae,fs.length=l.length/\oQ s'.heap (l.map λq=>ae.ref q.1) fs/\∀v∈fs,∃i t,v=.int i t:=by
    intro l
    induction l with
    |nil=>exactλ_=>⟨[],rfl,trivial,nofun⟩
    |cons p l ih=>
     intro hl
     obtain⟨fs,f1,f2,f3⟩:=ih λq hq=>hl q (ap _ hq)
     have hp:=hl p am
     obtain⟨o,ts,n,t1,t2,t3,t4⟩:=tup p hp
     have ne:=(hk p hp).2
     cases hx:p.2 with
     |nil=>exact absurd hx ne
     |cons y ys=>
      rw[hx]at t4
      cases t4 with
      |@cons _ u _ us r t=>
       refine⟨u::fs,by simp[f1],oQ.cons (keep _ _ t1) t2 t3 rfl f2,λv hv=>?_⟩
       rcases aA.mp hv with rfl|hv
       ·obtain⟨tk,e⟩:=r;exact⟨y,tk,e⟩
       ·exact f3 v hv
   obtain⟨fs,f1,f2,f3⟩:=key qs λ_ h=>h
   refine PySem.W.kat_kind (T:=.type "int") f2 (by rw[f1];rw[len]at h2;omega) (λv hv=>?_) (by decide) hQ
   obtain⟨i,t,rfl⟩:=f3 v hv
   exact .now
  cmp:=λs' A i j C keep hi hj hC=>by
   rw[len]at hi hj
   obtain⟨g1,g2⟩:=gd i hi
   obtain⟨g3,g4⟩:=gd j hj
   rw[g2,g4]at hC
   rw[g1,g3]
   obtain⟨o1,t1,n1,a1,_,a3,a4⟩:=tup qs[i] (gQ hi)
   obtain⟨o2,t2,n2,b1,_,b3,b4⟩:=tup qs[j] (gQ hj)
   refine PySem.W.kat_lt (keep _ _ a1) a3 (keep _ _ b1) b3 ?_
   refine LA qs[i].2 qs[j].2 t1 t2 0 a4 b4 ?_
   have e1:t1.toArray.size=qs[i].2.length:=by have:=a4.length;simp at this ⊢;omega
   have e2:t2.toArray.size=qs[j].2.length:=by have:=b4.length;simp at this ⊢;omega
   rw[e1,e2,MF]
   exact hC }
 have o:iF (λi j=>fD (qs.getD i (0,[])).2 (qs.getD j (0,[])).2):=⟨λi j k h1 h2=>HA _ _ _ h1 h2,λi j h=>D8 _ _ h⟩
 refine Ss pl.isList (by rw[len];exact Aw) O o λp p1 p2=>?_
 rw[len]at p1 p2
 have X1:p.size=qs.length:=by rw[p1.size_eq];simp
 have pb:∀i (hi:i<p.size),p[i]<qs.length:=λi hi=>by
  have:p[i]∈(aE qs.length).toArray.toList:=p1.toList.mem_iff.mp (iK.mpr (Array.getElem_mem hi))
  simpa using this
 obtain⟨ng,vF⟩:∃ng,ng=p.toList.map λi=>qs.getD i (0,[]):=⟨_,rfl⟩
 have out:p.toList.map (λi=>(qs.map λq=>ae.ref q.1).getD i ae.none)=ng.map λq=>ae.ref q.1:=by
  rw[vF,df]
  refine cR λi hi=>?_
  obtain⟨j,hj,rfl⟩:=bR.mp hi
  have:=pb j (by simpa using hj)
  obtain⟨g1,g2⟩:=gd p[j] this
  simp only[Array.getElem_toList]
  rw[g1]
  show _=ae.ref (qs.getD p[j] (0,[])).1
  rw[g2]
 have perm:ng.Perm qs:=by
  have e:(aE qs.length).map (λi=>qs.getD i (0,[]))=qs:=by
   apply eh
   intro i
   rw[aW]
   by_cases hi:i<qs.length
   ·rw[cQ hi,de hi,eK,(gd i hi).2]
   ·rw[cX (by simpa using hi),cX (by omega)];rfl
  rw[vF]
  conv=>rhs;rw[←e]
  exact(p1.toList).map _
 have QG:ng.Pairwise (λx y=>fD y.2 x.2=false):=by
  rw[vF,o8]
  refine List.pairwise_iff_getElem.mpr λi j hi hj nF=>?_
  have:=p2 i j (by omega) (by simp at hj;omega)
  unfold gA at this
  have lI:i<p.size:=by simpa using hi
  have Df:j<p.size:=by simpa using hj
  rw[show p.getD i 0=p[i]by simp[Array.getD,lI],show p.getD j 0=p[j]by simp[Array.getD,Df]]at this
  simpa using this
 rw[out]
 obtain⟨e,he⟩:=sortedAll_at s.heap (qs.map λq=>ae.ref q.1) (iq (ng.map λq=>ae.ref q.1))
 refine⟨.ref _,_,I.laid (a:=s.heap.objs.size+1) (o:=.lst (ng.map λq=>V.ref q.1)) (t':=s.toks) (λb u=>sortedAll_old) (gJ _) ?_,rfl,q ng perm QG _ (I.hok.fresh (gJ _))⟩
 exact⟨by rw[aF,perm.length_eq,←aF (f:=λq=>V.ref q.1)];exact hz,ng.map λq=>ae.ref q.1,e,zev ng,by simpa[seqObj]using he⟩
end L2
set_option maxHeartbeats 4000000
namespace L2
open PySem PySem.Spec PyProof.Rows
section
variable {P:bg}{w:bE}{A:bv}{E:ae->ak->Prop}{s:ak}{K:Type}[DecidableEq K]{Xt:HeapKind P w K}
end
section
variable {X:Cx}
end
end L2
namespace L2
open PySem
theorem bJ.rd {H H':Hp}{a:af}{u:HO}(e:bJ H H')(h:Rd H a u):Rd H' a u:=h.elim (λh=>.inl (e _ _ h)) λh=>.inr (h.elim λo h=>⟨o,e _ _ h⟩)
end L2
namespace L3
open PySem PySem.Spec L2
open PyProof.Rows hiding St
inductive D where
 |non|bl (b:Bool)|int (i:Int)|str (x:aR)
 |lst (xs:List D)|tup (xs:List D)|dK (ks:List dv) (ds:List D)|dT (ks:List (List dv)) (ds:List D)
 |obj (c:Nat) (ns:List aR) (ds:List D)
 |exc (c:Nat) (ns:List aR) (ds:List D)
 deriving Inhabited
inductive Pr (R:D->V->Prop):List D->List V->Prop
 |nil:Pr R [] []
 |cons {d:D} {v:V} {ds:List D} {vs:List V}:R d v->Pr R ds vs->Pr R (d::ds) (v::vs)
theorem Pr.mono {R R':D->V->Prop}(f:∀d v,R d v->R' d v){ds:List D}{vs:List V}(h:Pr R ds vs):Pr R' ds vs:=by
 induction h with
 |nil=>exact .nil
 |cons h t ih=>exact .cons (f _ _ h) ih
theorem Pr.length {R:D->V->Prop}{ds:List D}{vs:List V}(h:Pr R ds vs):ds.length=vs.length:=by
 induction h with
 |nil=>rfl
 |cons h t ih=>rw[aP,aP,ih]
theorem Pr.get' {R:D->V->Prop}{ds:List D}{vs:List V}{i:Nat}{d:D}(h:Pr R ds vs)(e:ds[i]?=some d):∃v,vs[i]?=some v/\R d v:=by
 induction h generalizing i with
 |nil=>cases e
 |cons h t ih=>
  cases i with
  |zero=>cases e;exact⟨_,rfl,h⟩
  |succ i=>exact ih e
theorem Pr.append {R:D->V->Prop}{ds es:List D}{vs us:List V}(h:Pr R ds vs)(s:Pr R es us):Pr R (ds++es) (vs++us):=by
 induction h with
 |nil=>exact s
 |cons h t ih=>exact .cons h ih
theorem Pr.take {R:D->V->Prop}{ds:List D}{vs:List V}(n:Nat)(h:Pr R ds vs):Pr R (ds.take n) (vs.take n):=by
 induction h generalizing n with
 |nil=>cases n<;>exact .nil
 |cons h t ih=>cases n with
  |zero=>exact .nil
  |succ n=>exact .cons h (ih n)
theorem Pr.drop {R:D->V->Prop}{ds:List D}{vs:List V}(n:Nat)(h:Pr R ds vs):Pr R (ds.drop n) (vs.drop n):=by
 induction h generalizing n with
 |nil=>cases n<;>exact .nil
 |cons h t ih=>cases n with
  |zero=>exact .cons h t
  |succ n=>exact ih n
theorem Pr.rep {R:D->V->Prop}{ds:List D}{vs:List V}(h:Pr R ds vs)(k:Nat):Pr R (aG k ds).flatten (aG k vs).flatten:=by
 induction k with
 |zero=>exact .nil
 |succ k ih=>rw[cA,ek,cA,ek];exact h.append ih
mutual
inductive Dt (K:aa)(ct:Nat->af)(F:Hp):D->V->Prop
 |non:Dt K ct F .non .non
 |bl (b:Bool):Dt K ct F (.bl b) (.bl b)
 |int (i:Int):Dt K ct F (.int i) (.int i)
 |str (x:aR):Dt K ct F (.str x) (.str x)
 |lst {a:af} {vs:List V} {ds:List D}:fm K F a vs->Dts K ct F ds vs->Dt K ct F (.lst ds) (.ref a)
 |tup {a:af} {vs:List V} {ds:List D}:F a=some (.tup vs)->Dts K ct F ds vs->Dt K ct F (.tup ds) (.ref a)
 |dK {a:af} {ks:List dv} {vs:List V} {ds:List D}:F a=some (.dK (ks.zip vs))->ks.length=vs.length->Dts K ct F ds vs->Dt K ct F (.dK ks ds) (.ref a)
 |dT {a:af} {ks:List (List dv)} {vs:List V} {ds:List D}:Rd F a (.dT (ks.zip vs))->ks.length=vs.length->Dts K ct F ds vs->Dt K ct F (.dT ks ds) (.ref a)
 |obj {a dx:af} {c:Nat} {ns:List aR} {vs:List V} {ds:List D}:F a=some (.ins (ct c) dx (ns.zip vs))->ns.length=vs.length->Dts K ct F ds vs->Dt K ct F (.obj c ns ds) (.ref a)
 |exc0 {a:af} {c:Nat} {tb:Option af}:F a=some (Kb a (ct c) none tb)->Dt K ct F (.exc c [] []) (.ref a)
 |exc {a dx:af} {c:Nat} {tb:Option af} {ns:List aR} {vs:List V} {ds:List D}:F a=some (Kb a (ct c) (some dx) tb)->F dx=some (.xd (ns.zip vs))->ns.length=vs.length->Dts K ct F ds vs->Dt K ct F (.exc c ns ds) (.ref a)
inductive Dts (K:aa)(ct:Nat->af)(F:Hp):List D->List V->Prop
 |nil:Dts K ct F [] []
 |cons {d:D} {v:V} {ds:List D} {vs:List V}:Dt K ct F d v->Dts K ct F ds vs->Dts K ct F (d::ds) (v::vs)
end
section
variable {K:aa}{ct:Nat->af}{F F' G G' H H' B B':Hp}
theorem Dts.pr {ds:List D}{vs:List V}(h:Dts K ct F ds vs):Pr (Dt K ct F) ds vs:=by
 induction ds generalizing vs with
 |nil=>cases h;exact .nil
 |cons d ds ih=>cases h with|cons h t=>exact .cons h (ih t)
theorem Dts.of {ds:List D}{vs:List V}(h:Pr (Dt K ct F) ds vs):Dts K ct F ds vs:=by
 induction h with
 |nil=>exact .nil
 |cons h t ih=>exact .cons h ih
theorem Dt.mono (s:bJ F F'){d:D}{v:V}(h:Dt K ct F d v):Dt K ct F' d v :=
 Dt.rec (motive_1:=λd v _=>Dt K ct F' d v) (motive_2:=λd v _=>Dts K ct F' d v) .non .bl .int .str (λh _ t=>.lst (s.seq h) t) (λh _ t=>.tup (s _ _ h) t) (λh l _ t=>.dK (s _ _ h) l t) (λh l _ t=>.dT (s.rd h) l t) (λh l _ t=>.obj (s _ _ h) l t) (λh=>.exc0 (s _ _ h)) (λh h' l _ t=>.exc (s _ _ h) (s _ _ h') l t) .nil (λ_ _ h t=>.cons h t) h
end
def D.sc:D->Bool
 |.non=>true|.bl _=>true|.int _=>true|.str _=>true|_=>false
inductive tN (K:aa)(ct:Nat->af)(F G:Hp)(R:D->V->Prop):D->V->Prop
 |lst {a:af} {vs:List V} {ds:List D}:G a=some (.lst vs)->Pr R ds vs->tN K ct F G R (.lst ds) (.ref a)
 |tup {a:af} {vs:List V} {ds:List D}:F a=some (.tup vs)->Pr R ds vs->tN K ct F G R (.tup ds) (.ref a)
 |dK {a:af} {ks:List dv} {vs:List V} {ds:List D}:G a=some (.dK (ks.zip vs))->ks.length=vs.length->Pr R ds vs->tN K ct F G R (.dK ks ds) (.ref a)
 |dT {a:af} {ks:List (List dv)} {vs:List V} {ds:List D}:Rd G a (.dT (ks.zip vs))->ks.length=vs.length->Pr R ds vs->tN K ct F G R (.dT ks ds) (.ref a)
 |obj {a dx:af} {c:Nat} {ns:List aR} {vs:List V} {ds:List D}:G a=some (.ins (ct c) dx (ns.zip vs))->ns.length=vs.length->Pr R ds vs->tN K ct F G R (.obj c ns ds) (.ref a)
def Al (K:aa)(ct:Nat->af)(F G:Hp):Nat->D->V->Prop
 |0,d,v=>Dt K ct F d v
 |n+1,d,v=>Dt K ct F d v\/tN K ct F G (Al K ct F G n) d v
inductive eE (R:D->V->List af->Prop):List D->List V->List af->Prop
 |nil:eE R [] [] []
 |cons {d:D} {v:V} {ds:List D} {vs:List V} {f g:List af}:R d v f->eE R ds vs g->eE R (d::ds) (v::vs) (f++g)
inductive qV (K:aa)(ct:Nat->af)(F H:Hp)(R:D->V->List af->Prop):D->V->List af->Prop
 |lst {a:af} {vs:List V} {ds:List D} {fp:List af}:F a=none->H a=some (.lst vs)->eE R ds vs fp->qV K ct F H R (.lst ds) (.ref a) (a::fp)
 |tup {a:af} {vs:List V} {ds:List D} {fp:List af}:F a=some (.tup vs)->eE R ds vs fp->qV K ct F H R (.tup ds) (.ref a) fp
 |dK {a:af} {ks:List dv} {vs:List V} {ds:List D} {fp:List af}:F a=none->H a=some (.dK (ks.zip vs))->ks.length=vs.length->eE R ds vs fp->qV K ct F H R (.dK ks ds) (.ref a) (a::fp)
 |dT {a:af} {ks:List (List dv)} {vs:List V} {ds:List D} {fp:List af}:F a=none->H a=some (.dT (ks.zip vs))->ks.length=vs.length->eE R ds vs fp->qV K ct F H R (.dT ks ds) (.ref a) (a::fp)
 |obj {a dx:af} {c:Nat} {ns:List aR} {vs:List V} {ds:List D} {fp:List af}:F a=none->H a=some (.ins (ct c) dx (ns.zip vs))->ns.length=vs.length->eE R ds vs fp->qV K ct F H R (.obj c ns ds) (.ref a) (a::fp)
def Ow (K:aa)(ct:Nat->af)(F H:Hp):Nat->D->V->List af->Prop
 |0,d,v,fp=>Dt K ct F d v/\fp=[]
 |n+1,d,v,fp=>(d.sc=true/\Dt K ct F d v/\fp=[])\/qV K ct F H (Ow K ct F H n) d v fp
def jB (o:HO):Prop:=∀xs,o≠.tup xs
structure eS (F H F' H':Hp):Prop where
 ff:bJ F F'
 hh:bJ H H'
 fh:bJ F' H'
 nf:∀a o,H a=some o->jB o->F a=none->F' a=none
theorem eS.refl {F H:Hp}(h:bJ F H):eS F H F H:=⟨.refl _,.refl _,h,λ_ _ _ _ h=>h⟩
theorem eS.trans {F H F1 H1 F2 H2:Hp}(a:eS F H F1 H1)(b:eS F1 H1 F2 H2):eS F H F2 H2 :=
 ⟨a.ff.trans b.ff,a.hh.trans b.hh,b.fh,λc o h t n=>b.nf c o (a.hh _ _ h) t (a.nf c o h t n)⟩
theorem eS.newO {F H:Hp}{p:af}(s:bJ F H)(h:H p=none)(o:HO):eS F H F (upd H p o) :=
 ⟨.refl _,Cz h o,s.trans (Cz h o),λ_ _ _ _ h=>h⟩
theorem eS.newS {F H:Hp}{p:af}(s:bJ F H)(h:H p=none)(o:HO):eS F H (upd F p o) (upd H p o) :=
  ⟨Cz (s.free h) o,Cz h o,λb u q=>by
    by_cases e:b=p
    · subst e;rw[yf]at q ⊢;exact q
    · rw[zy e]at q ⊢;exact s _ _ q,
   λb u q _ n=>by rw[zy (yw q h)];exact n⟩
section
variable {K:aa}{ct:Nat->af}{F F' G G' H H' B B':Hp}
theorem Al.mono (sF:bJ F F')(sG:bJ G G'){n:Nat}:∀{d:D} {v:V},Al K ct F G n d v->Al K ct F' G' n d v:=by
 induction n with
 |zero=>exactλh=>Dt.mono sF h
 |succ n ih=>
  intro d v h
  rcases h with h|h
  ·exact .inl (Dt.mono sF h)
  ·cases h with
   |lst h p=>exact .inr (.lst (sG _ _ h) (p.mono λ_ _ q=>ih q))
   |tup h p=>exact .inr (.tup (sF _ _ h) (p.mono λ_ _ q=>ih q))
   |dK h l p=>exact .inr (.dK (sG _ _ h) l (p.mono λ_ _ q=>ih q))
   |dT h l p=>exact .inr (.dT (sG.rd h) l (p.mono λ_ _ q=>ih q))
   |obj h l p=>exact .inr (.obj (sG _ _ h) l (p.mono λ_ _ q=>ih q))
theorem Al.of:∀{n:Nat} {d:D} {v:V},Dt K ct F d v->Al K ct F G n d v
 |0,_,_,h=>h
 |_+1,_,_,h=>.inl h
theorem Dt.scal {d:D}{v:V}(h:Dt K ct F d v)(hs:d.sc=true):Dt K ct F' d v:=by
 cases h with
 |non=>exact .non
 |bl b=>exact .bl b
 |int i=>exact .int i
 |str x=>exact .str x
 |lst _ _=>cases hs
 |tup _ _=>cases hs
 |dK _ _ _=>cases hs
 |dT _ _ _=>cases hs
 |obj _ _ _=>cases hs
 |exc0 _=>cases hs
 |exc _ _ _ _=>cases hs
theorem Al.scal {n:Nat}{d:D}{v:V}(h:Al K ct F G n d v)(hs:d.sc=true):Dt K ct F' d v:=by
 cases n with
 |zero=>exact Dt.scal h hs
 |succ n=>
  rcases h with h|h
  ·exact h.scal hs
  ·cases h<;>cases hs
theorem Al.int {n:Nat}{i:Int}{v:V}(h:Al K ct F G n (.int i) v):v=.int i:=by
 have q:=Al.scal (F':=F) h rfl
 cases q;rfl
theorem Al.bl {n:Nat}{b:Bool}{v:V}(h:Al K ct F G n (.bl b) v):v=.bl b:=by
 have q:=Al.scal (F':=F) h rfl
 cases q;rfl
theorem Al.str {n:Nat}{x:aR}{v:V}(h:Al K ct F G n (.str x) v):v=.str x:=by
 have q:=Al.scal (F':=F) h rfl
 cases q;rfl
theorem Al.non {n:Nat}{v:V}(h:Al K ct F G n .non v):v=.non:=by
 have q:=Al.scal (F':=F) h rfl
 cases q;rfl
theorem Al.lst {n:Nat}{ds:List D}{v:V}(h:Al K ct F G n (.lst ds) v)(s:bJ F G):∃a vs,v=.ref a/\fm K G a vs/\Pr (Al K ct F G (n-1)) ds vs:=by
 cases n with
 |zero=>
  have h:Dt K ct F (.lst ds) v:=h
  cases h with
  |lst q t=>exact⟨_,_,rfl,s.seq q,t.pr⟩
 |succ n=>
  rcases h with h|h
  ·cases h with
   |lst q t=>exact⟨_,_,rfl,s.seq q,t.pr.mono λ_ _=>Al.of⟩
  ·cases h with
   |lst q t=>exact⟨_,_,rfl,fm.of q,t⟩
theorem Al.tup {n:Nat}{ds:List D}{v:V}(h:Al K ct F G n (.tup ds) v)(s:bJ F G):∃a vs,v=.ref a/\G a=some (.tup vs)/\Pr (Al K ct F G (n-1)) ds vs:=by
 cases n with
 |zero=>
  have h:Dt K ct F (.tup ds) v:=h
  cases h with
  |tup q t=>exact⟨_,_,rfl,s _ _ q,t.pr⟩
 |succ n=>
  rcases h with h|h
  ·cases h with
   |tup q t=>exact⟨_,_,rfl,s _ _ q,t.pr.mono λ_ _=>Al.of⟩
  ·cases h with
   |tup q t=>exact⟨_,_,rfl,s _ _ q,t⟩
theorem Al.dK {n:Nat}{ks:List dv}{ds:List D}{v:V}(h:Al K ct F G n (.dK ks ds) v)(s:bJ F G):∃a vs,v=.ref a/\G a=some (.dK (ks.zip vs))/\ks.length=vs.length/\Pr (Al K ct F G (n-1)) ds vs:=by
 cases n with
 |zero=>
  have h:Dt K ct F (.dK ks ds) v:=h
  cases h with
  |dK q l t=>exact⟨_,_,rfl,s _ _ q,l,t.pr⟩
 |succ n=>
  rcases h with h|h
  ·cases h with
   |dK q l t=>exact⟨_,_,rfl,s _ _ q,l,t.pr.mono λ_ _=>Al.of⟩
  ·cases h with
   |dK q l t=>exact⟨_,_,rfl,q,l,t⟩
theorem Al.dT {n:Nat}{ks:List (List dv)}{ds:List D}{v:V}(h:Al K ct F G n (.dT ks ds) v)(s:bJ F G):∃a vs,v=.ref a/\Rd G a (.dT (ks.zip vs))/\ks.length=vs.length/\Pr (Al K ct F G (n-1)) ds vs:=by
 cases n with
 |zero=>
  have h:Dt K ct F (.dT ks ds) v:=h
  cases h with
  |dT q l t=>exact⟨_,_,rfl,s.rd q,l,t.pr⟩
 |succ n=>
  rcases h with h|h
  ·cases h with
   |dT q l t=>exact⟨_,_,rfl,s.rd q,l,t.pr.mono λ_ _=>Al.of⟩
  ·cases h with
   |dT q l t=>exact⟨_,_,rfl,q,l,t⟩
theorem Al.obj {n:Nat}{c:Nat}{ns:List aR}{ds:List D}{v:V}(h:Al K ct F G n (.obj c ns ds) v)(s:bJ F G):∃a dx vs,v=.ref a/\G a=some (.ins (ct c) dx (ns.zip vs))/\ns.length=vs.length/\Pr (Al K ct F G (n-1)) ds vs:=by
 cases n with
 |zero=>
  have h:Dt K ct F (.obj c ns ds) v:=h
  cases h with
  |obj q l t=>exact⟨_,_,_,rfl,s _ _ q,l,t.pr⟩
 |succ n=>
  rcases h with h|h
  ·cases h with
   |obj q l t=>exact⟨_,_,_,rfl,s _ _ q,l,t.pr.mono λ_ _=>Al.of⟩
  ·cases h with
   |obj q l t=>exact⟨_,_,_,rfl,q,l,t⟩
theorem eE.mono {R R':D->V->List af->Prop}{ds:List D}{vs:List V}{fp:List af}(h:eE R ds vs fp):(∀d v f,(∀a∈f,a∈fp)->R d v f->R' d v f)->eE R' ds vs fp:=by
 induction h with
 |nil=>exactλ_=>.nil
 |cons h t ih=>exactλq=>.cons (q _ _ _ (λa z=>aS _ z) h) (ih λd v f i r=>q d v f (λa z=>ay _ (i a z)) r)
theorem eE.pr {R:D->V->List af->Prop}{R':D->V->Prop}{ds:List D}{vs:List V}{fp:List af}(h:eE R ds vs fp):(∀d v f,(∀a∈f,a∈fp)->R d v f->R' d v)->Pr R' ds vs:=by
 induction h with
 |nil=>exactλ_=>.nil
 |cons h t ih=>exactλq=>.cons (q _ _ _ (λa z=>aS _ z) h) (ih λd v f i r=>q d v f (λa z=>ay _ (i a z)) r)
theorem eE.ofPr {R:D->V->List af->Prop}{ds:List D}{vs:List V}(h:Pr (λd v=>R d v []) ds vs):eE R ds vs []:=by
 induction h with
 |nil=>exact .nil
 |cons h t ih=>exact eE.cons (f:=[]) (g:=[]) h ih
theorem eE.append {R:D->V->List af->Prop}{ds es:List D}{vs us:List V}{f g:List af}(h:eE R ds vs f)(s:eE R es us g):eE R (ds++es) (vs++us) (f++g):=by
 induction h with
 |nil=>exact s
 |cons h t ih=>rw[e8];exact .cons h ih
theorem eE.length {R:D->V->List af->Prop}{ds:List D}{vs:List V}{fp:List af}(h:eE R ds vs fp):ds.length=vs.length:=by
 induction h with
 |nil=>rfl
 |cons _ t ih=>simp[ih]
theorem Ow.frame (sF:bJ F F'){n:Nat}:∀{d:D} {v:V} {fp:List af},Ow K ct F H n d v fp->(∀a∈fp,H' a=H a/\F' a=none)->Ow K ct F' H' n d v fp:=by
 induction n with
 |zero=>exactλh _=>⟨h.1.mono sF,h.2⟩
 |succ n ih=>
  intro d v fp h k
  rcases h with h|h
  ·exact .inl ⟨h.1,h.2.1.mono sF,h.2.2⟩
  ·cases h with
   |lst hn h p=>exact .inr (.lst (k _ am).2 ((k _ am).1.trans h) (p.mono λ_ _ _ i q=>ih q λa z=>k a (ap _ (i a z))))
   |tup h p=>exact .inr (.tup (sF _ _ h) (p.mono λ_ _ _ i q=>ih q λa z=>k a (i a z)))
   |dK hn h l p=>exact .inr (.dK (k _ am).2 ((k _ am).1.trans h) l (p.mono λ_ _ _ i q=>ih q λa z=>k a (ap _ (i a z))))
   |dT hn h l p=>exact .inr (.dT (k _ am).2 ((k _ am).1.trans h) l (p.mono λ_ _ _ i q=>ih q λa z=>k a (ap _ (i a z))))
   |obj hn h l p=>exact .inr (.obj (k _ am).2 ((k _ am).1.trans h) l (p.mono λ_ _ _ i q=>ih q λa z=>k a (ap _ (i a z))))
theorem eE.cells0 {R:D->V->List af->Prop}(k:∀d v f,R d v f->∀a∈f,F a=none/\∃o,H a=some o/\jB o){ds:List D}{vs:List V}{fp:List af}(h:eE R ds vs fp):∀a∈fp,F a=none/\∃o,H a=some o/\jB o:=by
 induction h with
 |nil=>exactλa z=>by cases z
 |cons h t ih=>exactλa z=>(aM.mp z).elim (λz=>k _ _ _ h a z) (ih a)
theorem Ow.cells {n:Nat}:∀{d:D} {v:V} {fp:List af},Ow K ct F H n d v fp->∀a∈fp,F a=none/\∃o,H a=some o/\jB o:=by
 induction n with
 |zero=>exactλh a z=>by rw[h.2]at z;cases z
 |succ n ih=>
  intro d v fp h a z
  rcases h with h|h
  ·rw[h.2.2]at z;cases z
  ·cases h with
   |lst hn h p=>exact(aA.mp z).elim (λe=>by rw[e];exact⟨hn,_,h,nofun⟩) (eE.cells0 (λd v f q=>ih q) p a)
   |tup h p=>exact eE.cells0 (λd v f q=>ih q) p a z
   |dK hn h l p=>exact(aA.mp z).elim (λe=>by rw[e];exact⟨hn,_,h,nofun⟩) (eE.cells0 (λd v f q=>ih q) p a)
   |dT hn h l p=>exact(aA.mp z).elim (λe=>by rw[e];exact⟨hn,_,h,nofun⟩) (eE.cells0 (λd v f q=>ih q) p a)
   |obj hn h l p=>exact(aA.mp z).elim (λe=>by rw[e];exact⟨hn,_,h,nofun⟩) (eE.cells0 (λd v f q=>ih q) p a)
theorem Ow.ext {n:Nat}{d:D}{v:V}{fp:List af}(h:Ow K ct F H n d v fp)(e:eS F H F' H'):Ow K ct F' H' n d v fp :=
 h.frame e.ff λa z=>by
  obtain⟨hn,o,ho,nt⟩:=h.cells a z
  exact⟨(e.hh _ _ ho).trans ho.symm,e.nf a o ho nt hn⟩
theorem Ow.al (s:bJ F H){n:Nat}:∀{d:D} {v:V} {fp:List af},Ow K ct F H n d v fp->Al K ct F H n d v:=by
 induction n with
 |zero=>exactλh=>h.1
 |succ n ih=>
  intro d v fp h
  rcases h with h|h
  ·exact .inl h.2.1
  ·cases h with
   |lst hn h p=>exact .inr (.lst h (p.pr λ_ _ _ _ q=>ih q))
   |tup h p=>exact .inr (.tup h (p.pr λ_ _ _ _ q=>ih q))
   |dK hn h l p=>exact .inr (.dK h l (p.pr λ_ _ _ _ q=>ih q))
   |dT hn h l p=>exact .inr (.dT (.inl h) l (p.pr λ_ _ _ _ q=>ih q))
   |obj hn h l p=>exact .inr (.obj h l (p.pr λ_ _ _ _ q=>ih q))
theorem Ow.dt (sF:bJ F F'){n:Nat}:∀{d:D} {v:V} {fp:List af},Ow K ct F H n d v fp->(∀a∈fp,F' a=H a)->Dt K ct F' d v:=by
 induction n with
 |zero=>exactλh _=>h.1.mono sF
 |succ n ih=>
  intro d v fp h k
  rcases h with h|h
  ·exact h.2.1.mono sF
  ·cases h with
   |lst hn h p=>exact .lst (fm.of ((k _ am).trans h)) (.of (p.pr λ_ _ _ i q=>ih q λa z=>k a (ap _ (i a z))))
   |tup h p=>exact .tup (sF _ _ h) (.of (p.pr λ_ _ _ i q=>ih q λa z=>k a (i a z)))
   |dK hn h l p=>exact .dK ((k _ am).trans h) l (.of (p.pr λ_ _ _ i q=>ih q λa z=>k a (ap _ (i a z))))
   |dT hn h l p=>exact .dT (.inl ((k _ am).trans h)) l (.of (p.pr λ_ _ _ i q=>ih q λa z=>k a (ap _ (i a z))))
   |obj hn h l p=>exact .obj ((k _ am).trans h) l (.of (p.pr λ_ _ _ i q=>ih q λa z=>k a (ap _ (i a z))))
def gE (F H:Hp)(fp:List af):Hp:=λa=>if a∈fp then H a else F a
theorem vp {fp:List af}(s:bJ F H)(hf:∀a∈fp,F a=none):bJ F (gE F H fp)/\bJ (gE F H fp) H/\∀a∈fp,gE F H fp a=H a:=by
 refine⟨λa o h=>?_,λa o h=>?_,λa z=>if_pos z⟩
 ·have:¬a∈fp:=λz=>by rw[hf a z]at h;cases h
  unfold gE;rw[if_neg this];exact h
 ·unfold gE at h
  by_cases z:a∈fp
  ·rw[if_pos z]at h;exact h
  ·rw[if_neg z]at h;exact s _ _ h
theorem Ow.freeze {n:Nat}{d:D}{v:V}{fp:List af}{F0 H0:Hp}(h:Ow K ct F H n d v fp)(e:eS F0 H0 F H)(hf:∀a∈fp,H0 a=none):∃F',eS F0 H0 F' H/\Dt K ct F' d v:=by
 obtain⟨w1,w2,w3⟩:=vp (fp:=fp) e.fh (λa z=>(h.cells a z).1)
 refine⟨gE F H fp,⟨e.ff.trans w1,e.hh,w2,λa o ho nt hn=>?_⟩,h.dt w1 w3⟩
 have:¬a∈fp:=λz=>by rw[hf a z]at ho;cases ho
 unfold gE;rw[if_neg this];exact e.nf a o ho nt hn
theorem Ow.zero {d:D}{v:V}(h:Dt K ct F d v):Ow K ct F H 0 d v []:=⟨h,rfl⟩
theorem Ow.scal {n:Nat}{d:D}{v:V}(h:Dt K ct F d v)(hs:d.sc=true):Ow K ct F H n d v []:=by
 cases n with
 |zero=>exact⟨h,rfl⟩
 |succ n=>exact .inl ⟨hs,h,rfl⟩
end
end L3
namespace L3
open PySem PySem.Spec L2
open PyProof.Rows hiding St
abbrev Env:=List (Option D)
inductive Mo where
 |al (n:Nat)|ow (n:Nat)|px (v:V)|so (x:af)
def Mo.lv:Mo->Nat
 |.al n=>n
 |.ow n=>n
 |.px _=>1
 |.so _=>1
section
variable (K:aa)(ct:Nat->af)
inductive SL (F B H:Hp):List Mo->Env->St->List af->Prop
 |nil:SL F B H [] [] [] []
 |no {m:Mo} {o:Option V} {ms:List Mo} {ρ:Env} {σ:St} {fp:List af}:SL F B H ms ρ σ fp->SL F B H (m::ms) (none::ρ) (o::σ) fp
 |al {n:Nat} {d:D} {v:V} {ms:List Mo} {ρ:Env} {σ:St} {fp:List af}:Al K ct F B n d v->SL F B H ms ρ σ fp->SL F B H (.al n::ms) (some d::ρ) (some v::σ) fp
 |px {d:D} {v:V} {ms:List Mo} {ρ:Env} {σ:St} {fp:List af}:Al K ct F B 1 d v->SL F B H ms ρ σ fp->SL F B H (.px v::ms) (some d::ρ) (some v::σ) fp
 |so {d:D} {x:af} {ms:List Mo} {ρ:Env} {σ:St} {fp:List af}:Ow K ct F H 1 d (.ref x) [x]->SL F B H ms ρ σ fp->SL F B H (.so x::ms) (some d::ρ) (some (.ref x)::σ) (x::fp)
 |ow {n:Nat} {d:D} {v:V} {ms:List Mo} {ρ:Env} {σ:St} {f fp:List af}:Ow K ct F H n d v f->SL F B H ms ρ σ fp->SL F B H (.ow n::ms) (some d::ρ) (some v::σ) (f++fp)
structure RS (F0 B:Hp)(ms:List Mo)(F H:Hp)(ρ:Env)(σ:St):Prop where
 f0:bJ F0 F
 bh:bJ B H
 fh:bJ F H
 nf:∀a o,B a=some o->jB o->F0 a=none->F a=none
 sl:∃fp,SL K ct F B H ms ρ σ fp/\fp.Nodup/\∀a∈fp,B a=none
end
section
variable {K:aa}{ct:Nat->af}{F F' G G' H H' B B' F0:Hp}{ms:List Mo}{ρ:Env}{σ:St}
theorem SL.cells {ms:List Mo}{ρ:Env}{σ:St}{fp:List af}(h:SL K ct F B H ms ρ σ fp):∀a∈fp,F a=none/\∃o,H a=some o/\jB o:=by
 induction h with
 |nil=>intro a z;cases z
 |no t ih=>exact ih
 |al _ t ih=>exact ih
 |px _ t ih=>exact ih
 |so h t ih=>exactλa z=>(aA.mp z).elim (λz=>h.cells a (by rw[z];exact am)) (ih a)
 |ow h t ih=>exactλa z=>(aM.mp z).elim (h.cells a) (ih a)
theorem SL.frame (sF:bJ F F'){ms:List Mo}{ρ:Env}{σ:St}{fp:List af}(h:SL K ct F B H ms ρ σ fp):(∀a∈fp,H' a=H a/\F' a=none)->SL K ct F' B H' ms ρ σ fp:=by
 induction h with
 |nil=>exactλ_=>.nil
 |no t ih=>exactλk=>.no (ih k)
 |al h t ih=>exactλk=>.al (h.mono sF (.refl _)) (ih k)
 |px h t ih=>exactλk=>.px (h.mono sF (.refl _)) (ih k)
 |so h t ih=>exactλk=>.so (h.frame sF λa z=>k a (by rw[aH]at z;rw[z];exact am)) (ih λa z=>k a (ap _ z))
 |ow h t ih=>exactλk=>.ow (h.frame sF λa z=>k a (aS _ z)) (ih λa z=>k a (ay _ z))
theorem RS.ext (r:RS K ct F0 B ms F H ρ σ)(e:eS F H F' H'):RS K ct F0 B ms F' H' ρ σ:=by
 obtain⟨fp,s,nd,hb⟩:=r.sl
 refine⟨r.f0.trans e.ff,r.bh.trans e.hh,e.fh,λa o h t n=>e.nf a o (r.bh _ _ h) t (r.nf a o h t n),fp,s.frame e.ff λa z=>?_,nd,hb⟩
 obtain⟨hn,o,ho,nt⟩:=s.cells a z
 exact⟨(e.hh _ _ ho).trans ho.symm,e.nf a o ho nt hn⟩
theorem SL.get {ms:List Mo}{ρ:Env}{σ:St}{fp:List af}{i:Nat}{m:Mo}{d:D}(h:SL K ct F B H ms ρ σ fp)(s:bJ F H)(s':bJ B H):ms[i]?=some m->ρ[i]?=some (some d)->∃v,σ[i]?=some (some v)/\Al K ct F H m.lv d v:=by
 induction h generalizing i with
 |nil=>intro e;simp at e
 |no t ih=>
  intro e e'
  cases i with
  |zero=>simp at e'
  |succ i=>simpa using ih (by simpa using e) (by simpa using e')
 |al h t ih=>
  intro e e'
  cases i with
  |zero=>
   simp at e e';subst e;subst e'
   exact⟨_,rfl,h.mono (.refl _) s'⟩
  |succ i=>simpa using ih (by simpa using e) (by simpa using e')
 |px h t ih=>
  intro e e'
  cases i with
  |zero=>
   simp at e e';subst e;subst e'
   exact⟨_,rfl,h.mono (.refl _) s'⟩
  |succ i=>simpa using ih (by simpa using e) (by simpa using e')
 |so h t ih=>
  intro e e'
  cases i with
  |zero=>
   simp at e e';subst e;subst e'
   exact⟨_,rfl,h.al s⟩
  |succ i=>simpa using ih (by simpa using e) (by simpa using e')
 |ow h t ih=>
  intro e e'
  cases i with
  |zero=>
   simp at e e';subst e;subst e'
   exact⟨_,rfl,h.al s⟩
  |succ i=>simpa using ih (by simpa using e) (by simpa using e')
theorem RS.get (r:RS K ct F0 B ms F H ρ σ){i:Nat}{m:Mo}{d:D}(hm:ms[i]?=some m)(e:ρ[i]?=some (some d)):∃v,σ[i]?=some (some v)/\Al K ct F H m.lv d v:=by
 obtain⟨fp,s,_,_⟩:=r.sl
 exact s.get r.fh r.bh hm e
theorem SL.put {ms:List Mo}{ρ:Env}{σ:St}{fp:List af}{i k:Nat}(h0:SL K ct F B H ms ρ σ fp):ms[i]?=some (.ow k) ->
  ∃f1 fr:List af,(∀a∈f1,a∈fp)/\(∀a∈fr,a∈fp)/\(fp.Nodup->f1.Nodup/\fr.Nodup/\∀a∈f1,a∉fr)/\(∀d,ρ[i]?=some (some d)->∃v,σ[i]?=some (some v)/\Ow K ct F H k d v f1) /\
   ∀(F' H':Hp) (d':D) (v':V) (f':List af),bJ F F'->(∀a∈fr,H' a=H a/\F' a=none)->Ow K ct F' H' k d' v' f' ->
    ∃gC,SL K ct F' B H' ms (ρ.set i (some d')) (σ.set i (some v')) gC/\(∀a∈gC,a∈f'\/a∈fr)/\(f'.Nodup->fr.Nodup->(∀a∈f',a∉fr)->gC.Nodup):=by
 induction h0 generalizing i with
 |nil=>
  intro e
  simp at e
 |@no m0 o0 ms ρ σ fp t ih=>
  intro e
  cases i with
  |zero=>
   simp at e;subst e
   refine⟨[],fp,λa z=>(by cases z),λa z=>z,λn=>⟨bz,n,λa z=>(by cases z)⟩,λd q=>(by simp at q),λF' H' d' v' f' s kf h=>⟨f'++fp,.ow h (t.frame s kf),λa z=>aM.mp z,λn1 n2 dj=>?_⟩⟩
   exact bo.mpr ⟨n1,n2,λa z b zb e=>dj a z (e▸zb)⟩
  |succ i=>
   obtain⟨f1,fr,h1,h2,h3,h4,h5⟩:=ih (i:=i) (by simpa using e)
   refine⟨f1,fr,h1,h2,h3,λd q=>by simpa using h4 d (by simpa using q),λF' H' d' v' f' s kf h=>?_⟩
   obtain⟨gC,q1,q2,q3⟩:=h5 F' H' d' v' f' s kf h
   exact⟨gC,.no q1,q2,q3⟩
 |@al n0 d0 v0 ms ρ σ fp h t ih=>
  intro e
  cases i with
  |zero=>
   simp at e
  |succ i=>
   obtain⟨f1,fr,h1,h2,h3,h4,h5⟩:=ih (i:=i) (by simpa using e)
   refine⟨f1,fr,h1,h2,h3,λd q=>by simpa using h4 d (by simpa using q),λF' H' d' v' f' s kf h'=>?_⟩
   obtain⟨gC,q1,q2,q3⟩:=h5 F' H' d' v' f' s kf h'
   exact⟨gC,.al (h.mono s (.refl _)) q1,q2,q3⟩
 |@px d0 v0 ms ρ σ fp h t ih=>
  intro e
  cases i with
  |zero=>
   simp at e
  |succ i=>
   obtain⟨f1,fr,h1,h2,h3,h4,h5⟩:=ih (i:=i) (by simpa using e)
   refine⟨f1,fr,h1,h2,h3,λd q=>by simpa using h4 d (by simpa using q),λF' H' d' v' f' s kf h'=>?_⟩
   obtain⟨gC,q1,q2,q3⟩:=h5 F' H' d' v' f' s kf h'
   exact⟨gC,.px (h.mono s (.refl _)) q1,q2,q3⟩
 |@so d0 x ms ρ σ fp h t ih=>
  intro e
  cases i with
  |zero=>
   simp at e
  |succ i=>
   obtain⟨f1,fr,h1,h2,h3,h4,h5⟩:=ih (i:=i) (by simpa using e)
   refine⟨f1,x::fr,λa z=>ap _ (h1 a z),λa z=>(aA.mp z).elim (λz=>by rw[z];exact am) λz=>ap _ (h2 a z),λn=>?_,λd q=>by simpa using h4 d (by simpa using q),λF' H' d' v' f' s kf h'=>?_⟩
   ·obtain⟨n1,n2⟩:=bH.mp n
    obtain⟨m1,m2,m3⟩:=h3 n2
    refine⟨m1,bH.mpr ⟨λz=>n1 (h2 x z),m2⟩,λa z zb=>?_⟩
    rcases aA.mp zb with zb|zb
    ·rw[zb]at z;exact n1 (h1 x z)
    ·exact m3 a z zb
   ·obtain⟨gC,q1,q2,q3⟩:=h5 F' H' d' v' f' s (λa z=>kf a (ap _ z)) h'
    refine⟨x::gC,.so (h.frame s λa z=>kf a (by rw[aH]at z;rw[z];exact am)) q1,λa z=>?_,λn1 n2 dj=>?_⟩
    ·rcases aA.mp z with z|z
     ·exact .inr (by rw[z];exact am)
     ·exact(q2 a z).imp id λz=>ap _ z
    ·obtain⟨m1,m2⟩:=bH.mp n2
     refine bH.mpr ⟨λz=>?_,q3 n1 m2 λa z zb=>dj a z (ap _ zb)⟩
     rcases q2 x z with z|z
     ·exact dj x z am
     ·exact m1 z
 |@ow n0 d0 v0 ms ρ σ f fp h t ih=>
  intro e
  cases i with
  |zero=>
   simp at e;subst e
   refine⟨f,fp,λa z=>aS _ z,λa z=>ay _ z,λn=>?_,λd q=>?_,λF' H' d' v' f' s kf h=>⟨f'++fp,.ow h (t.frame s kf),λa z=>aM.mp z,λn1 n2 dj=>?_⟩⟩
   ·obtain⟨n1,n2,n3⟩:=bo.mp n
    exact⟨n1,n2,λa z zb=>n3 a z a zb rfl⟩
   ·simp at q;subst q;exact⟨_,rfl,h⟩
   ·exact bo.mpr ⟨n1,n2,λa z b zb e=>dj a z (e▸zb)⟩
  |succ i=>
   obtain⟨f1,fr,h1,h2,h3,h4,h5⟩:=ih (i:=i) (by simpa using e)
   refine⟨f1,f++fr,λa z=>ay _ (h1 a z),λa z=>(aM.mp z).elim (λz=>aS _ z) λz=>ay _ (h2 a z),λn=>?_,λd q=>by simpa using h4 d (by simpa using q),λF' H' d' v' f' s kf h'=>?_⟩
   ·obtain⟨n1,n2,n3⟩:=bo.mp n
    obtain⟨m1,m2,m3⟩:=h3 n2
    refine⟨m1,bo.mpr ⟨n1,m2,λa z b zb=>n3 a z b (h2 b zb)⟩,λa z zb=>?_⟩
    rcases aM.mp zb with zb|zb
    ·exact n3 a zb a (h1 a z) rfl
    ·exact m3 a z zb
   ·obtain⟨gC,q1,q2,q3⟩:=h5 F' H' d' v' f' s (λa z=>kf a (ay _ z)) h'
    refine⟨f++gC,.ow (h.frame s λa z=>kf a (aS _ z)) q1,λa z=>?_,λn1 n2 dj=>?_⟩
    ·rcases aM.mp z with z|z
     ·exact .inr (aS _ z)
     ·exact(q2 a z).imp id λz=>ay _ z
    ·obtain⟨m1,m2,m3⟩:=bo.mp n2
     refine bo.mpr ⟨m1,q3 n1 m2 λa z zb=>dj a z (ay _ zb),λa z b zb e=>?_⟩
     subst e
     rcases q2 a zb with zb|zb
     ·exact dj a zb (aS _ z)
     ·exact m3 a z a zb rfl
end
abbrev EF:=Env->Option D
inductive iS (K:aa)(ct:Nat->af)(F G:Hp):List Nat->List D->List V->Prop
 |nil:iS K ct F G [] [] []
 |cons {n:Nat} {d:D} {v:V} {ns:List Nat} {ds:List D} {vs:List V}:Al K ct F G n d v->iS K ct F G ns ds vs->iS K ct F G (n::ns) (d::ds) (v::vs)
theorem iS.mono {K:aa}{ct:Nat->af}{F F' G G':Hp}(sF:bJ F F')(sG:bJ G G'){ns:List Nat}{ds:List D}{vs:List V}(h:iS K ct F G ns ds vs):iS K ct F' G' ns ds vs:=by
 induction h with
 |nil=>exact .nil
 |cons h t ih=>exact .cons (h.mono sF sG) ih
theorem iS.length {K:aa}{ct:Nat->af}{F G:Hp}{ns:List Nat}{ds:List D}{vs:List V}(h:iS K ct F G ns ds vs):vs.length=ns.length:=by
 induction h with
 |nil=>rfl
 |cons h t ih=>rw[aP,aP,ih]
theorem iS.length' {K:aa}{ct:Nat->af}{F G:Hp}{ns:List Nat}{ds:List D}{vs:List V}(h:iS K ct F G ns ds vs):ds.length=vs.length:=by
 induction h with
 |nil=>rfl
 |cons h t ih=>rw[aP,aP,ih]
theorem iS.append {K:aa}{ct:Nat->af}{F G:Hp}{Dx:List Nat}{kA:List D}{J7:List V}(q:iS K ct F G Dx kA J7){ns:List Nat}{ds:List D}{vs:List V}(h:iS K ct F G ns ds vs):iS K ct F G (ns++Dx) (ds++kA) (vs++J7):=by
 induction h with
 |nil=>exact q
 |cons h t ih=>exact .cons h ih
section
variable (X:Cx)(ct:Nat->af)(ms:List Mo)
def XE (n:Nat)(e:Expr)(f:EF):Prop:=∃t,PE X e t/\∀(F0 B F H:Hp) (ρ:Env) (σ:St) (d:D) (Q:VK),RS X.K ct F0 B ms F H ρ σ->f ρ=some d ->
 (∀v F' H',eS F H F' H'->Al X.K ct F' H' n d v->Q v H')->t σ H Q
def XO (k:Nat)(e:Expr)(f:EF):Prop:=∃t,PE X e t/\∀(F0 B F H:Hp) (ρ:Env) (σ:St) (d:D) (Q:VK),RS X.K ct F0 B ms F H ρ σ->f ρ=some d ->
 (∀v F' H' fp,eS F H F' H'->Ow X.K ct F' H' k d v fp->fp.Nodup->(∀a∈fp,H a=none)->Q v H')->t σ H Q
def XT (e:Expr)(f:Env->Option Bool):Prop:=∃t,PT X e t/\∀(F0 B F H:Hp) (ρ:Env) (σ:St) (b:Bool) (Q:Bool->Hp->Prop),RS X.K ct F0 B ms F H ρ σ->f ρ=some b ->
 (∀F' H',eS F H F' H'->Q b H')->t σ H Q
def XW (e:Expr)(f:Env->Option Bool):Prop:=∃t,PW X e t/\∀(F0 B F H:Hp) (ρ:Env) (σ:St) (b:Bool) (Q:Bool->Hp->Prop),RS X.K ct F0 B ms F H ρ σ->f ρ=some b ->
 (∀F' H',eS F H F' H'->Q b H')->t σ H Q
def XA (es:List Expr)(ns:List Nat)(f:Env->Option (List D)):Prop:=∃t,PA X es t/\(∀ρ ds,f ρ=some ds->ds.length=es.length)/\∀(F0 B F H:Hp) (ρ:Env) (σ:St) (ds:List D) (Q:List V->Hp->Prop),RS X.K ct F0 B ms F H ρ σ->f ρ=some ds ->
 (∀vs F' H',eS F H F' H'->iS X.K ct F' H' ns ds vs->Q vs H')->t σ H Q
end
def e2 (op:D->D->Option D)(f g:EF):EF:=λρ=>(f ρ).bind λx=>(g ρ).bind λy=>op x y
def e1 (op:D->Option D)(f:EF):EF:=λρ=>(f ρ).bind op
def eN (op:List D->Option D)(f:Env->Option (List D)):EF:=λρ=>(f ρ).bind op
def eC (d:D):EF:=λ_=>some d
def eV (i:Nat):EF:=λρ=>(ρ[i]?).join
def aNil:Env->Option (List D):=λ_=>some []
def aCons (f:EF)(g:Env->Option (List D)):Env->Option (List D):=λρ=>(f ρ).bind λx=>(g ρ).bind λxs=>some (x::xs)
theorem dL {α β γ:Type}{o:Option α}{p:Option β}{op:α->β->Option γ}{r:γ}(h:(o.bind λx=>p.bind λy=>op x y)=some r):∃x y,o=some x/\p=some y/\op x y=some r:=by
 cases o with
 |none=>cases h
 |some x=>
  cases p with
  |none=>cases h
  |some y=>exact⟨x,y,rfl,rfl,h⟩
theorem aY {α β:Type}{o:Option α}{op:α->Option β}{r:β}(h:o.bind op=some r):∃x,o=some x/\op x=some r:=by
 cases o with
 |none=>cases h
 |some x=>exact⟨x,rfl,h⟩
theorem wf {α:Type}{o:Option (Option α)}{x:α}(h:o.join=some x):o=some (some x):=by
 cases o with
 |none=>cases h
 |some y=>exact congrArg some h
def ky (K:aa)(ct:Nat->af)(n m k:Nat)(r:R2)(op:D->D->Option D):Prop :=
 ∀(F H:Hp) (x y:V) (d1 d2 d:D) (Q:VK),bJ F H->Al K ct F H n d1 x->Al K ct F H m d2 y->op d1 d2=some d->(∀v F' H',eS F H F' H'->Al K ct F' H' k d v->Q v H')->r x y H Q
def xP (K:aa)(ct:Nat->af)(n m k:Nat)(r:R2)(op:D->D->Option D):Prop :=
 ∀(F H:Hp) (x y:V) (d1 d2 d:D) (Q:VK),bJ F H->Al K ct F H n d1 x->Al K ct F H m d2 y->op d1 d2=some d ->
  (∀v F' H' fp,eS F H F' H'->Ow K ct F' H' k d v fp->fp.Nodup->(∀a∈fp,H a=none)->Q v H')->r x y H Q
def tR (K:aa)(ct:Nat->af)(ns:List Nat)(k:Nat)(r:List V->Hp->VK->Prop)(op:List D->Option D):Prop :=
 ∀(F H:Hp) (vs:List V) (ds:List D) (d:D) (Q:VK),bJ F H->iS K ct F H ns ds vs->op ds=some d->(∀v F' H',eS F H F' H'->Al K ct F' H' k d v->Q v H')->r vs H Q
def pL (K:aa)(ct:Nat->af)(ns:List Nat)(k:Nat)(r:List V->Hp->VK->Prop)(op:List D->Option D):Prop :=
 ∀(F H:Hp) (vs:List V) (ds:List D) (d:D) (Q:VK),bJ F H->iS K ct F H ns ds vs->op ds=some d ->
  (∀v F' H' fp,eS F H F' H'->Ow K ct F' H' k d v fp->fp.Nodup->(∀a∈fp,H a=none)->Q v H')->r vs H Q
section
variable {X:Cx}{ct:Nat->af}{ms:List Mo}{n m k:Nat}{a b c e:Expr}{f g h:EF}{pos:cD}
theorem XO.sh (he:XO X ct ms k e f):XE X ct ms n e f:=by
 obtain⟨t,p,q⟩:=he
 refine⟨t,p,λF0 B F H ρ σ d Q r e w=>q F0 B F H ρ σ d Q r e λv F' H' fp x o nd hf=>?_⟩
 obtain⟨F2,x2,h2⟩:=o.freeze x hf
 exact w v F2 H' x2 (Al.of h2)
theorem XE.ow (he:XE X ct ms 0 e f):XO X ct ms 0 e f:=by
 obtain⟨t,p,q⟩:=he
 exact⟨t,p,λF0 B F H ρ σ d Q r e w=>q F0 B F H ρ σ d Q r e λv F' H' x l=>w v F' H' [] x ⟨l,rfl⟩ bz λa z=>(by cases z)⟩
theorem za (i n:Nat){x:aR}{m:Mo}(hm:ms[i]?=some m:=by rfl)(hl:m.lv=n:=by rfl)(hN:X.N[i]?=some x:=by rfl)(hv:pC X.env.scope x:=by first|exact Or.inl rfl|exact Or.inr (Or.inl rfl)|exact Or.inr (Or.inr rfl))(hd:(x==("__debug__":aR))=false:=by decide)
  (jD:(x==("__classdict__":aR))=false:=by decide):XE X ct ms n (.Name x pos) (eV i):=by
 subst hl
 refine⟨_,sg hN hv hd jD,λF0 B F H ρ σ d Q r e w=>?_⟩
 obtain⟨v,hv,l⟩:=r.get hm (wf e)
 exact⟨v,hv,w v F H (.refl r.fh) l⟩
theorem Wk {i:Int}{j}:XE X ct ms n (.Constant (.int i) j pos) (eC (.int i)):=⟨_,Vy,λF0 B F H ρ σ d Q r e w=>by cases e;exact w _ F H (.refl r.fh) (Al.of (.int i))⟩
theorem o4 {i:Bool}{j}:XE X ct ms n (.Constant (.bool i) j pos) (eC (.bl i)):=⟨_,WL,λF0 B F H ρ σ d Q r e w=>by cases e;exact w _ F H (.refl r.fh) (Al.of (.bl i))⟩
theorem CL {i:aR}{j}:XE X ct ms n (.Constant (.str i) j pos) (eC (.str i)):=⟨_,VA,λF0 B F H ρ σ d Q r e w=>by cases e;exact w _ F H (.refl r.fh) (Al.of (.str i))⟩
theorem Wl {j}:XE X ct ms n (.Constant .none j pos) (eC .non):=⟨_,Vz,λF0 B F H ρ σ d Q r e w=>by cases e;exact w _ F H (.refl r.fh) (Al.of .non)⟩
theorem XE.bin (ha:XE X ct ms n a f)(hb:XE X ct ms m b g):∃ta tb,PE X a ta/\PE X b tb/\∀(F0 B F H:Hp) (ρ:Env) (σ:St) (d1 d2:D) (R:V->V->Hp->Prop),RS X.K ct F0 B ms F H ρ σ->f ρ=some d1->g ρ=some d2 ->
  (∀x y F' H',eS F H F' H'->Al X.K ct F' H' n d1 x->Al X.K ct F' H' m d2 y->R x y H')->ta σ H λx H1=>tb σ H1 λy H2=>R x y H2:=by
 obtain⟨ta,pa,qa⟩:=ha
 obtain⟨tb,pb,qb⟩:=hb
 refine⟨ta,tb,pa,pb,λF0 B F H ρ σ d1 d2 R r e1 e2 w=>qa F0 B F H ρ σ d1 _ r e1 λx F1 H1 x1 l1=>?_⟩
 exact qb F0 B F1 H1 ρ σ d2 _ (r.ext x1) e2 λy F2 H2 x2 l2=>w x y F2 H2 (x1.trans x2) (l1.mono x2.ff x2.hh) l2
theorem xk {op:iL}{r:R2}{o:D->D->Option D}(ho:fw X (dO op) r)(hs:ky X.K ct n m k r o)(ha:XE X ct ms n a f)(hb:XE X ct ms m b g):XE X ct ms k (.BinOp a op b pos) (e2 o f g):=by
 obtain⟨ta,tb,pa,pb,q⟩:=ha.bin hb
 refine⟨_,HW ho pa pb,λF0 B F H ρ σ d Q rs e w=>?_⟩
 obtain⟨d1,d2,h1,h2,h3⟩:=dL e
 exact q F0 B F H ρ σ d1 d2 _ rs h1 h2 λx y F' H' x1 l1 l2=>hs F' H' x y d1 d2 d Q x1.fh l1 l2 h3 λv F2 H2 x2 l=>w v F2 H2 (x1.trans x2) l
theorem WY {op:iL}{r:R2}{o:D->D->Option D}(ho:fw X (dO op) r)(hs:xP X.K ct n m k r o)(ha:XE X ct ms n a f)(hb:XE X ct ms m b g):XO X ct ms k (.BinOp a op b pos) (e2 o f g):=by
 obtain⟨ta,tb,pa,pb,q⟩:=ha.bin hb
 refine⟨_,HW ho pa pb,λF0 B F H ρ σ d Q rs e w=>?_⟩
 obtain⟨d1,d2,h1,h2,h3⟩:=dL e
 exact q F0 B F H ρ σ d1 d2 _ rs h1 h2 λx y F' H' x1 l1 l2=>hs F' H' x y d1 d2 d Q x1.fh l1 l2 h3 λv F2 H2 fp x2 l nd hf=>w v F2 H2 fp (x1.trans x2) l nd λz hz=>x1.hh.free (hf z hz)
theorem tH {op:i6}{r:R2}{o:D->D->Option D}(ho:fw X (cm op) r)(hs:ky X.K ct n m k r o)(ha:XE X ct ms n a f)(hb:XE X ct ms m b g)(hm:dC op b=false):XE X ct ms k (.Compare a [op] [b] pos) (e2 o f g):=by
 obtain⟨ta,tb,pa,pb,q⟩:=ha.bin hb
 refine⟨_,Uz ho pa pb hm,λF0 B F H ρ σ d Q rs e w=>?_⟩
 obtain⟨d1,d2,h1,h2,h3⟩:=dL e
 exact q F0 B F H ρ σ d1 d2 _ rs h1 h2 λx y F' H' x1 l1 l2=>hs F' H' x y d1 d2 d Q x1.fh l1 l2 h3 λv F2 H2 x2 l=>w v F2 H2 (x1.trans x2) l
theorem tM {r:R2}{o:D->D->Option D}(hr:qU X r)(hs:ky X.K ct n m k r o)(ha:XE X ct ms n a f)(hb:XE X ct ms m b g)(hp:kO b):XE X ct ms k (.Subscript a b pos) (e2 o f g):=by
 obtain⟨ta,tb,pa,pb,q⟩:=ha.bin hb
 refine⟨_,MP hr pa pb hp,λF0 B F H ρ σ d Q rs e w=>?_⟩
 obtain⟨d1,d2,h1,h2,h3⟩:=dL e
 exact q F0 B F H ρ σ d1 d2 _ rs h1 h2 λx y F' H' x1 l1 l2=>hs F' H' x y d1 d2 d Q x1.fh l1 l2 h3 λv F2 H2 x2 l=>w v F2 H2 (x1.trans x2) l
theorem WZ {op:UnaryOp}{r:V->Hp->VK->Prop}{o:D->Option D}(ho:CY X (unaryOp op) r)
  (hs:∀(F H:Hp) (x:V) (d1 d:D) (Q:VK),bJ F H->Al X.K ct F H n d1 x->o d1=some d->(∀v F' H',eS F H F' H'->Al X.K ct F' H' k d v->Q v H')->r x H Q) (ha:XE X ct ms n a f):XE X ct ms k (.UnaryOp op a pos) (e1 o f):=by
 obtain⟨ta,pa,qa⟩:=ha
 refine⟨_,WQ ho pa,λF0 B F H ρ σ d Q rs e w=>?_⟩
 obtain⟨d1,h1,h2⟩:=aY e
 exact qa F0 B F H ρ σ d1 _ rs h1 λx F' H' x1 l1=>hs F' H' x d1 d Q x1.fh l1 h2 λv F2 H2 x2 l=>w v F2 H2 (x1.trans x2) l
theorem zg:XA X ct ms [] [] aNil:=⟨_,xD,λρ ds e=>(by cases e;rfl),λF0 B F H ρ σ ds Q r e w=>by cases e;exact w [] F H (.refl r.fh) .nil⟩
theorem zc {es:List Expr}{ns:List Nat}{fs:Env->Option (List D)}(ha:XE X ct ms n a f)(hr:XA X ct ms es ns fs)(hs:ax (a::es) X.env=(false,bO a X.env)::ax es X.env:=by rfl):XA X ct ms (a::es) (n::ns) (aCons f fs):=by
 obtain⟨ta,pa,qa⟩:=ha
 obtain⟨tb,pb,lb,qb⟩:=hr
 refine⟨_,u5 pa pb hs,λρ ds e=>(by obtain⟨x,xs,h1,h2,h3⟩:=dL e;cases h3;rw[aP,aP,lb _ _ h2]),λF0 B F H ρ σ ds Q r e w=>?_⟩
 obtain⟨x,xs,h1,h2,h3⟩:=dL e
 cases h3
 refine qa F0 B F H ρ σ x _ r h1 λv F1 H1 x1 l1=>?_
 exact qb F0 B F1 H1 ρ σ xs _ (r.ext x1) h2 λvs F2 H2 x2 l2=>w (v::vs) F2 H2 (x1.trans x2) (.cons (l1.mono x2.ff x2.hh) l2)
def xS (X:Cx)(ct:Nat->af)(ms:List Mo)(k:Nat)(es:List Expr)(f:Env->Option (List D)):Prop:=∃t,PA X es t/\(∀ρ ds,f ρ=some ds->ds.length=es.length)/\∀(F0 B F H:Hp) (ρ:Env) (σ:St) (ds:List D) (Q:List V->Hp->Prop),RS X.K ct F0 B ms F H ρ σ->f ρ=some ds ->
 (∀vs F' H' fp,eS F H F' H'->eE (Ow X.K ct F' H' k) ds vs fp->fp.Nodup->(∀a∈fp,H a=none)->Q vs H')->t σ H Q
theorem yy:xS X ct ms k [] aNil:=⟨_,xD,λρ ds e=>(by cases e;rfl),λF0 B F H ρ σ ds Q r e w=>by cases e;exact w [] F H [] (.refl r.fh) .nil bz λa z=>(by cases z)⟩
theorem zh {es:List Expr}{fs:Env->Option (List D)}(ha:XO X ct ms k a f)(hr:xS X ct ms k es fs)(hs:ax (a::es) X.env=(false,bO a X.env)::ax es X.env:=by rfl):xS X ct ms k (a::es) (aCons f fs):=by
 obtain⟨ta,pa,qa⟩:=ha
 obtain⟨tb,pb,lb,qb⟩:=hr
 refine⟨_,u5 pa pb hs,λρ ds e=>(by obtain⟨x,xs,h1,h2,h3⟩:=dL e;cases h3;rw[aP,aP,lb _ _ h2]),λF0 B F H ρ σ ds Q r e w=>?_⟩
 obtain⟨x,xs,h1,h2,h3⟩:=dL e
 cases h3
 refine qa F0 B F H ρ σ x _ r h1 λv F1 H1 f1 x1 l1 n1 a1=>?_
 refine qb F0 B F1 H1 ρ σ xs _ (r.ext x1) h2 λvs F2 H2 f2 x2 l2 n2 a2=>w (v::vs) F2 H2 (f1++f2) (x1.trans x2) (.cons (l1.ext x2) l2) (bo.mpr ⟨n1,n2,λz hz y hy e=>?_⟩) λz hz=>?_
 ·subst e
  obtain⟨_,o,ho,_⟩:=l1.cells z hz
  rw[a2 z hy]at ho
  cases ho
 ·rcases aM.mp hz with hz|hz
  ·exact a1 z hz
  ·exact x1.hh.free (a2 z hz)
end
end L3
namespace L3
open PySem PySem.Spec L2
open PyProof.Rows hiding St
def C0:D->Option Bool
 |.bl b=>some b
 |_=>none
theorem ue {d:D}{b:Bool}(h:C0 d=some b):d=.bl b:=by cases d<;>simp[C0]at h;subst h;rfl
abbrev BF:=Env->Option Bool
def tb (f:EF):BF:=λρ=>(f ρ).bind C0
def bNot (f:BF):BF:=λρ=>(f ρ).bind λb=>some (!b)
def bAnd (f g:BF):BF:=λρ=>(f ρ).bind λb=>if b=true then g ρ else some false
def bOr (f g:BF):BF:=λρ=>(f ρ).bind λb=>if b=true then some true else g ρ
def eB (f:BF):EF:=λρ=>(f ρ).bind λb=>some (.bl b)
def eIf (c:BF)(f g:EF):EF:=λρ=>(c ρ).bind λb=>if b=true then f ρ else g ρ
section
variable {X:Cx}{ct:Nat->af}{ms:List Mo}{n m k:Nat}{a b c e:Expr}{f g h:EF}{p q:BF}{pos:cD}
theorem vq (he:XE X ct ms n e f)(hi:∀whole,pq e X.env whole=(do let v ← whole;fZ e.pos;dQ [v] (truthy v)):=by intro _;rfl):XT X ct ms e (tb f):=by
 obtain⟨t,pt,qt⟩:=he
 refine⟨_,VC pt hi,λF0 B F H ρ σ b Q r e w=>?_⟩
 obtain⟨d,h1,h2⟩:=aY e
 rw[ue h2]at h1
 exact qt F0 B F H ρ σ _ _ r h1 λv F' H' x l=>⟨b,l.bl,w F' H' x⟩
theorem ye {op:i6}{r:R2}{o:D->D->Option D}(ho:fw X (cm op) r)(hs:ky X.K ct n m k r o)(ha:XE X ct ms n a f)(hb:XE X ct ms m b g)(hm:dC op b=false):XT X ct ms (.Compare a [op] [b] pos) (tb (e2 o f g)):=by
 obtain⟨ta,tb,pa,pb,q⟩:=ha.bin hb
 refine⟨_,UA ho pa pb hm,λF0 B F H ρ σ b Q rs e w=>?_⟩
 obtain⟨d,h0,h4⟩:=aY e
 rw[ue h4]at h0
 obtain⟨d1,d2,h1,h2,h3⟩:=dL h0
 exact q F0 B F H ρ σ d1 d2 _ rs h1 h2 λx y F' H' x1 l1 l2=>hs F' H' x y d1 d2 _ _ x1.fh l1 l2 h3 λv F2 H2 x2 l=>⟨b,l.bl,w F2 H2 (x1.trans x2)⟩
theorem XW.t (h:XW X ct ms e p):XT X ct ms e p:=by
 obtain⟨t,pt,qt⟩:=h
 exact⟨t,pt.pt,qt⟩
theorem qv (ha:XT X ct ms a p):XW X ct ms (.BoolOp .And [a] pos) p:=by
 obtain⟨t,pt,qt⟩:=ha
 exact⟨t,Ue pt,qt⟩
theorem qk (ha:XT X ct ms a p):XW X ct ms (.BoolOp .Or [a] pos) p:=by
 obtain⟨t,pt,qt⟩:=ha
 exact⟨t,VD pt,qt⟩
theorem tI {rest:List Expr}(ha:XT X ct ms a p)(hb:XW X ct ms (.BoolOp .And (b::rest) pos) q):XW X ct ms (.BoolOp .And (a::b::rest) pos) (bAnd p q):=by
 obtain⟨t,pt,qt⟩:=ha
 obtain⟨u,pu,qu⟩:=hb
 refine⟨_,VE pt pu,λF0 B F H ρ σ r Q rs e w=>?_⟩
 obtain⟨x,h1,h2⟩:=aY e
 refine qt F0 B F H ρ σ x _ rs h1 λF1 H1 x1=>?_
 cases x with
 |true=>rw[if_pos rfl];exact qu F0 B F1 H1 ρ σ r _ (rs.ext x1) h2 λF2 H2 x2=>w F2 H2 (x1.trans x2)
 |false=>cases h2;rw[if_neg aX];exact w F1 H1 x1
theorem oH {rest:List Expr}(ha:XT X ct ms a p)(hb:XW X ct ms (.BoolOp .Or (b::rest) pos) q):XW X ct ms (.BoolOp .Or (a::b::rest) pos) (bOr p q):=by
 obtain⟨t,pt,qt⟩:=ha
 obtain⟨u,pu,qu⟩:=hb
 refine⟨_,WM pt pu,λF0 B F H ρ σ r Q rs e w=>?_⟩
 obtain⟨x,h1,h2⟩:=aY e
 refine qt F0 B F H ρ σ x _ rs h1 λF1 H1 x1=>?_
 cases x with
 |true=>cases h2;rw[if_pos rfl];exact w F1 H1 x1
 |false=>rw[if_neg aX];exact qu F0 B F1 H1 ρ σ r _ (rs.ext x1) h2 λF2 H2 x2=>w F2 H2 (x1.trans x2)
theorem v5 (ha:XT X ct ms a p):XT X ct ms (.UnaryOp .Not a pos) (bNot p):=by
 obtain⟨t,pt,qt⟩:=ha
 refine⟨_,VF pt,λF0 B F H ρ σ r Q rs e w=>?_⟩
 obtain⟨x,h1,h2⟩:=aY e
 cases h2
 exact qt F0 B F H ρ σ x _ rs h1 λF1 H1 x1=>w F1 H1 x1
theorem Wm (ha:XE X ct ms n a f):XE X ct ms k (.UnaryOp .Not a pos) (eB (bNot (tb f))):=by
 obtain⟨t,pt,qt⟩:=ha
 refine⟨_,VI pt,λF0 B F H ρ σ r Q rs e w=>?_⟩
 obtain⟨x,h1,h2⟩:=aY e
 obtain⟨y,h3,h4⟩:=aY h1
 obtain⟨z,h5,h6⟩:=aY h3
 cases h2;cases h4
 rw[ue h6]at h5
 exact qt F0 B F H ρ σ _ _ rs h5 λv F1 H1 x1 l=>⟨y,l.bl,w _ F1 H1 x1 (Al.of (.bl _))⟩
theorem wF {op}(ha:XE X ct ms n a f):XE X ct ms k (.BoolOp op [a] pos) (eB (tb f)):=by
 obtain⟨t,pt,qt⟩:=ha
 refine⟨_,VG pt,λF0 B F H ρ σ r Q rs e w=>?_⟩
 obtain⟨y,h3,h4⟩:=aY e
 obtain⟨z,h5,h6⟩:=aY h3
 cases h4
 rw[ue h6]at h5
 exact qt F0 B F H ρ σ _ _ rs h5 λv F1 H1 x1 l=>w _ F1 H1 x1 (by rw[l.bl];exact Al.of (.bl _))
theorem xE {rest:List Expr}(ha:XE X ct ms n a f)(hb:XE X ct ms k (.BoolOp .And (b::rest) pos) (eB q)):XE X ct ms k (.BoolOp .And (a::b::rest) pos) (eB (bAnd (tb f) q)):=by
 obtain⟨t,pt,qt⟩:=ha
 obtain⟨u,pu,qu⟩:=hb
 refine⟨_,VH pt pu,λF0 B F H ρ σ r Q rs e w=>?_⟩
 obtain⟨y,h3,h4⟩:=aY e
 obtain⟨x,h1,h2⟩:=aY h3
 obtain⟨z,h5,h6⟩:=aY h1
 cases h4
 rw[ue h6]at h5
 refine qt F0 B F H ρ σ _ _ rs h5 λv F1 H1 x1 l=>⟨x,l.bl,?_⟩
 cases x with
 |true=>rw[if_pos rfl];exact qu F0 B F1 H1 ρ σ _ _ (rs.ext x1) (show(q ρ).bind _=_ by rw[if_pos rfl]at h2;rw[h2];rfl) λv F2 H2 x2 l=>w v F2 H2 (x1.trans x2) l
 |false=>rw[if_neg aX]at h2 ⊢;cases h2;exact w _ F1 H1 x1 (Al.of (.bl _))
theorem W1 {rest:List Expr}(ha:XE X ct ms n a f)(hb:XE X ct ms k (.BoolOp .Or (b::rest) pos) (eB q)):XE X ct ms k (.BoolOp .Or (a::b::rest) pos) (eB (bOr (tb f) q)):=by
 obtain⟨t,pt,qt⟩:=ha
 obtain⟨u,pu,qu⟩:=hb
 refine⟨_,WN pt pu,λF0 B F H ρ σ r Q rs e w=>?_⟩
 obtain⟨y,h3,h4⟩:=aY e
 obtain⟨x,h1,h2⟩:=aY h3
 obtain⟨z,h5,h6⟩:=aY h1
 cases h4
 rw[ue h6]at h5
 refine qt F0 B F H ρ σ _ _ rs h5 λv F1 H1 x1 l=>⟨x,l.bl,?_⟩
 cases x with
 |true=>rw[if_pos rfl]at h2 ⊢;cases h2;exact w _ F1 H1 x1 (Al.of (.bl _))
 |false=>rw[if_neg aX];exact qu F0 B F1 H1 ρ σ _ _ (rs.ext x1) (show(q ρ).bind _=_ by rw[if_neg aX]at h2;rw[h2];rfl) λv F2 H2 x2 l=>w v F2 H2 (x1.trans x2) l
theorem HX (hc:XT X ct ms c p)(ha:XE X ct ms k a f)(hb:XE X ct ms k b g):XE X ct ms k (.IfExp c a b pos) (eIf p f g):=by
 obtain⟨s,ps,qs⟩:=hc
 obtain⟨t,pt,qt⟩:=ha
 obtain⟨u,pu,qu⟩:=hb
 refine⟨_,Tg ps pt pu,λF0 B F H ρ σ r Q rs e w=>?_⟩
 obtain⟨x,h1,h2⟩:=aY e
 refine qs F0 B F H ρ σ x _ rs h1 λF1 H1 x1=>?_
 cases x with
 |true=>rw[if_pos rfl]at h2 ⊢;exact qt F0 B F1 H1 ρ σ _ _ (rs.ext x1) h2 λv F2 H2 x2 l=>w v F2 H2 (x1.trans x2) l
 |false=>rw[if_neg aX]at h2 ⊢;exact qu F0 B F1 H1 ρ σ _ _ (rs.ext x1) h2 λv F2 H2 x2 l=>w v F2 H2 (x1.trans x2) l
theorem jp {es:List Expr}{fs:Env->Option (List D)}{x1}(h:xS X ct ms k es fs)(hl:es.length<=1000:=by decide):XO X ct ms (k+1) (.Tuple es x1 pos) (λρ=>(fs ρ).bind λds=>some (.tup ds)):=by
 obtain⟨t,pt,lt,qt⟩:=h
 refine⟨_,VX pt,λF0 B F H ρ σ r Q rs e w=>?_⟩
 obtain⟨ds,h1,h2⟩:=aY e
 cases h2
 refine qt F0 B F H ρ σ ds _ rs h1 λvs F1 H1 fp x1 l nd hf=>⟨?_,λp hp=>?_⟩
 ·rw[←l.length,lt _ _ h1];exact small hl
 ·have x2:=eS.newS x1.fh hp (.tup vs)
  exact w _ _ _ fp (x1.trans x2) (.inr (.tup yf (l.mono λ_ _ _ _ o=>o.ext x2))) nd hf
theorem eE.cellsOf {K:aa}{F H:Hp}{ds:List D}{vs:List V}{fp:List af}(l:eE (Ow K ct F H k) ds vs fp):∀a∈fp,F a=none/\∃o,H a=some o/\jB o:=eE.cells0 (λd v f q=>Ow.cells q) l
theorem L8 {K:aa}{F H:Hp}{ds:List D}{vs:List V}{fp:List af}{p:af}(s:bJ F H)(l:eE (Ow K ct F H k) ds vs fp)(hp:H p=none):Ow K ct F (upd H p (.lst vs)) (k+1) (.lst ds) (.ref p) (p::fp)/\(fp.Nodup->(p::fp).Nodup) :=
 ⟨.inr (.lst (s.free hp) yf (l.mono λ_ _ _ _ o=>o.ext (eS.newO s hp _))),λnd=>bH.mpr ⟨λz=>(by
  obtain⟨_,o,ho,_⟩:=eE.cellsOf l p z
  rw[hp]at ho
  cases ho),nd⟩⟩
theorem uf {es:List Expr}{fs:Env->Option (List D)}(h:xS X ct ms k es fs)(hl:es.length<=1000:=by decide):XO X ct ms (k+1) (.List es pos) (λρ=>(fs ρ).bind λds=>some (.lst ds)):=by
 obtain⟨t,pt,lt,qt⟩:=h
 refine⟨_,Vp pt,λF0 B F H ρ σ r Q rs e w=>?_⟩
 obtain⟨ds,h1,h2⟩:=aY e
 cases h2
 refine qt F0 B F H ρ σ ds _ rs h1 λvs F1 H1 fp x1 l nd hf=>⟨?_,λp hp=>?_⟩
 ·rw[←l.length,lt _ _ h1];exact small hl
 ·obtain⟨o,n2⟩:=L8 x1.fh l hp
  refine w _ _ _ (p::fp) (x1.trans (eS.newO x1.fh hp _)) o (n2 nd) λz hz=>?_
  rcases aA.mp hz with rfl|hz
  ·exact x1.hh.free hp
  ·exact hf z hz
theorem S9:XO X ct ms (k+1) (.Dict [] [] pos) (eC (.dK [] [])):=by
 refine⟨_,Tv,λF0 B F H ρ σ r Q rs e w p hp=>?_⟩
 cases e
 refine w _ F _ [p] (eS.newO rs.fh hp _) (.inr (qV.dK (vs:=[]) (rs.fh.free hp) yf rfl .nil)) (by simp) λz hz=>?_
 rw[aH]at hz;subst hz;exact hp
theorem LB:XO X ct ms (k+1) (.Dict [] [] pos) (eC (.dT [] [])):=by
 refine⟨_,Tw,λF0 B F H ρ σ r Q rs e w p hp=>?_⟩
 cases e
 refine w _ F _ [p] (eS.newO rs.fh hp _) (.inr (qV.dT (vs:=[]) (rs.fh.free hp) yf rfl .nil)) (by simp) λz hz=>?_
 rw[aH]at hz;subst hz;exact hp
def gH (K:aa)(ct:Nat->af)(pm:List Nat)(rk:Nat)(m:List D->Option D):Sp:=λvs H Q _=>∃(F:Hp) (ds:List D) (d:D),bJ F H/\iS K ct F H pm ds vs/\m ds=some d /\
 ∀v F' H' fp,eS F H F' H'->Ow K ct F' H' rk d v fp->fp.Nodup->(∀a∈fp,H a=none)->Q v H'
theorem gH.len {K:aa}{ct:Nat->af}{pm:List Nat}{rk:Nat}{m:List D->Option D}{ps:List aR}(h:pm.length=ps.length):∀vs H Q E,gH K ct pm rk m vs H Q E->vs.length=ps.length:=by
 rintro vs H Q E ⟨F,ds,d,_,l,_⟩
 rw[l.length,h]
variable {kk:Nat}{fa:af}{fd:aN}{ps:List aR}{pm:List Nat}{rk:Nat}{mf:List D->Option D}{x:aR}{pp:cD}
theorem qw {es:List Expr}{ns nd:List Nat}{fs:Env->Option (List D)}{gZ:List V}{jN:List D}{kW:List ae}(Fn:cG X.prog X.w X.K X.mg X.base eU kk fa fd ps (gH X.K ct (ns++nd) rk mf))(hr:d8 kk X.A)(hg:Gl X x)(hm:X.mg x=some (.ref fa))(hk:aq X.K (.ref fa)=true)
  (hb:bM X.K fd ps kW) (hd:bT gZ kW) (nW:∀F G,iS X.K ct F G nd jN gZ) (ha:XA X ct ms (e::es) ns fs)
  (kY:(x==("__debug__":aR))=false:=by decide) (he:ax (e::es) X.env=(false,bO e X.env)::ax es X.env:=by rfl) (iu:(cB pos (ax es X.env)).any (·.1)=false:=by rfl) :
  XO X ct ms rk (.Call (.Name x pp) (e::es) [] pos) (λρ=>(fs ρ).bind λds=>mf (ds++jN)):=by
 obtain⟨t,pt,_,qt⟩:=ha
 refine⟨_,UE Fn hr hg hm hk hb hd nc pt kY he iu,λF0 B F H ρ σ r Q rs e w=>?_⟩
 obtain⟨ds,h1,h2⟩:=aY e
 refine qt F0 B F H ρ σ ds _ rs h1 λvs F1 H1 x1 l=>⟨F1,ds++jN,r,x1.fh,iS.append (nW F1 H1) l,h2,λv F2 H2 fp x2 o nd hf=>?_⟩
 exact w v F2 H2 fp (x1.trans x2) o nd λz hz=>x1.hh.free (hf z hz)
theorem ug {es:List Expr}{ns:List Nat}{fs:Env->Option (List D)}{id:String}{r:List V->Hp->VK->Prop}{op:List D->Option D}(hc:eo X (.builtin id) r)(hs:tR X.K ct ns k r op)(hg:Gl X x)(hm:X.mg x=none)(hv:bL x=some (.builtin id))(ha:XA X ct ms (e::es) ns fs)
  (hn:x≠"__name__":=by decide) (kY:(x==("__debug__":aR))=false:=by decide) (he:ax (e::es) X.env=(false,bO e X.env)::ax es X.env:=by rfl) (iu:(cB pos (ax es X.env)).any (·.1)=false:=by rfl) :
  XE X ct ms k (.Call (.Name x pp) (e::es) [] pos) (eN op fs):=by
 obtain⟨t,pt,_,qt⟩:=ha
 refine⟨_,DR hc hg hm hv pt hn kY he iu,λF0 B F H ρ σ r Q rs e w=>?_⟩
 obtain⟨ds,h1,h2⟩:=aY e
 exact qt F0 B F H ρ σ ds _ rs h1 λvs F1 H1 x1 l=>hs F1 H1 vs ds r Q x1.fh l h2 λv F2 H2 x2 l2=>w v F2 H2 (x1.trans x2) l2
theorem Ta {es:List Expr}{ns:List Nat}{fs:Env->Option (List D)}{id:String}{r:List V->Hp->VK->Prop}{op:List D->Option D}(hc:eo X (.builtin id) r)(hs:pL X.K ct ns k r op)(hg:Gl X x)(hm:X.mg x=none)(hv:bL x=some (.builtin id))(ha:XA X ct ms (e::es) ns fs)
  (hn:x≠"__name__":=by decide) (kY:(x==("__debug__":aR))=false:=by decide) (he:ax (e::es) X.env=(false,bO e X.env)::ax es X.env:=by rfl) (iu:(cB pos (ax es X.env)).any (·.1)=false:=by rfl) :
  XO X ct ms k (.Call (.Name x pp) (e::es) [] pos) (eN op fs):=by
 obtain⟨t,pt,_,qt⟩:=ha
 refine⟨_,DR hc hg hm hv pt hn kY he iu,λF0 B F H ρ σ r Q rs e w=>?_⟩
 obtain⟨ds,h1,h2⟩:=aY e
 exact qt F0 B F H ρ σ ds _ rs h1 λvs F1 H1 x1 l=>hs F1 H1 vs ds r Q x1.fh l h2 λv F2 H2 fp x2 l2 nd hf=>w v F2 H2 fp (x1.trans x2) l2 nd λz hz=>x1.hh.free (hf z hz)
theorem uw {es:List Expr}{ns:List Nat}{fs:Env->Option (List D)}{id:String}{r:List V->Hp->VK->Prop}{op:List D->Option D}(hc:eo X (.type id) r)(hs:pL X.K ct ns k r op)(hg:Gl X x)(hm:X.mg x=none)(hv:bL x=some (.type id))(ha:XA X ct ms (e::es) ns fs)
  (hn:x≠"__name__":=by decide) (kY:(x==("__debug__":aR))=false:=by decide) (he:ax (e::es) X.env=(false,bO e X.env)::ax es X.env:=by rfl) (iu:(cB pos (ax es X.env)).any (·.1)=false:=by rfl) :
  XO X ct ms k (.Call (.Name x pp) (e::es) [] pos) (eN op fs):=by
 obtain⟨t,pt,_,qt⟩:=ha
 refine⟨_,SD hc hg hm hv pt hn kY he iu,λF0 B F H ρ σ r Q rs e w=>?_⟩
 obtain⟨ds,h1,h2⟩:=aY e
 exact qt F0 B F H ρ σ ds _ rs h1 λvs F1 H1 x1 l=>hs F1 H1 vs ds r Q x1.fh l h2 λv F2 H2 fp x2 l2 nd hf=>w v F2 H2 fp (x1.trans x2) l2 nd λz hz=>x1.hh.free (hf z hz)
def cP (cs:List Nat)(x:aR):D->Option D
 |.obj c ns ds=>if cs.contains c=true then(ns.zip ds).lookup x else none
 |_=>none
theorem Kx {R:D->V->Prop}{x:aR}{d:D}:∀{ns:List aR} {ds:List D} {vs:List V},Pr R ds vs->(ns.zip ds).lookup x=some d->∃v,(ns.zip vs).lookup x=some v/\R d v
 |[],_,_,_,e=>by simp at e
 |_::_,_,_,.nil,e=>by simp at e
 |y::ns,_,_,.cons h t,e=>by
  rw[eR,bp]at e
  rw[eR,bp]
  cases q:x==y with
  |true=>rw[q]at e;cases e;exact⟨_,rfl,h⟩
  |false=>rw[q]at e;exact Kx t e
theorem Ht {vs:List V}{x:aR}:∀{ns:List aR} {vs:List V},ns.contains x=false->(ns.zip vs).lookup x=none
 |[],_,_=>by simp
 |_::_,[],_=>by simp
 |y::ns,_::vs,h=>by
  rw[oI,nH]at h
  rw[eR,bp,h.1]
  exact Ht (vs:=vs) h.2
theorem yq {x:aR}{cs:List Nat}(he:XE X ct ms n e f)(hc:∀c∈cs,kT X.K (ct c)/\eX X.K (ct c) x)(hb:eY e x X.env (bO e X.env)=bO e X.env):XE X ct ms (n-1) (.Attribute e x pos) (e1 (cP cs x) f):=by
 obtain⟨t,pt,qt⟩:=he
 refine⟨_,VV pt hb,λF0 B F H ρ σ r Q rs e w=>?_⟩
 obtain⟨o,h1,h2⟩:=aY e
 refine qt F0 B F H ρ σ o _ rs h1 λv F1 H1 x1 l=>?_
 cases o with
 |obj c ns ds=>
  obtain⟨a,dx,vs,rfl,ha,hl,sP⟩:=l.obj x1.fh
  unfold cP at h2
  dsimp only at h2
  by_cases qX:cs.contains c=true
  ·rw[if_pos qX]at h2
   obtain⟨u,hu,du⟩:=Kx sP h2
   have hh:=hc c (by simpa using qX)
   exact⟨a,_,dx,_,u,rfl,ha,hh.1,hh.2,hu,w u F1 H1 x1 du⟩
  ·rw[if_neg qX]at h2;cases h2
 |_=>cases h2
def ka (c0:Nat)(m:aR)(mf:List D->Option D)(o:D)(ds:List D):Option D:=match o with
 |.obj c ns _=>if c=c0/\ns.contains m=false then mf (o::ds)else none
 |_=>none
theorem UV {o:Expr}{x:aR}{dz:cD}{pl:mQ Bool}{es:List Expr}{ns nd:List Nat}{fs:Env->Option (List D)}{gZ:List V}{jN:List D}{kW:List ae}{c0:Nat}(ho:XE X ct ms n o f)(c:kT X.K (ct c0))(hm:nU X.K (ct c0) x fa)(Fn:cG X.prog X.w X.K X.mg X.base eU kk fa fd ps (gH X.K ct (n::(ns++nd)) rk mf))(hr:d8 kk X.A)
  (hb:bM X.K fd ps kW) (hd:bT gZ kW) (nW:∀F G,iS X.K ct F G nd jN gZ) (ha:XA X ct ms (e::es) ns fs)
  (m8:ax (e::es) X.env=(false,bO e X.env)::ax es X.env:=by rfl) (iu:(cB pos (ax es X.env)).any (·.1)=false:=by rfl)
  (ht:bO (.Call (.Attribute o x dz) (e::es) [] pos) X.env=(do
   let ov ← bO o X.env
   fZ dz.atName
   let(f,first) ← dQ [ov] (fX ov x pl)
   iN pos f first (cB pos (ax (e::es) X.env)) (eZ pos (dD [] X.env))):=by rfl) :
  XO X ct ms rk (.Call (.Attribute o x dz) (e::es) [] pos) (λρ=>(f ρ).bind λo=>(fs ρ).bind λds=>ka c0 x mf o (ds++jN)):=by
 obtain⟨u,pu,qu⟩:=ho
 obtain⟨t,pt,_,qt⟩:=ha
 refine⟨_,UF pu c hm Fn hr hb hd nc pt m8 iu ht,λF0 B F H ρ σ r Q rs e w=>?_⟩
 obtain⟨o,ds,h1,h2,h3⟩:=dL e
 refine qu F0 B F H ρ σ o _ rs h1 λv F1 H1 x1 l=>?_
 cases o with
 |obj c1 Dx kA=>
  unfold ka at h3
  dsimp only at h3
  split at h3
  ·rename_i hc
   obtain⟨rfl,pE⟩:=hc
   obtain⟨a,dx,vs,rfl,ha,hl,sP⟩:=l.obj x1.fh
   refine⟨a,dx,_,rfl,ha,Ht (vs:=vs) pE,?_⟩
   refine qt F0 B F1 H1 ρ σ ds _ (rs.ext x1) h2 λus F2 H2 x2 l2=>⟨F2,_,r,x2.fh,.cons (l.mono x2.ff x2.hh) (iS.append (nW F2 H2) l2),h3,λv F3 H3 fp x3 o nd hf=>?_⟩
   exact w v F3 H3 fp ((x1.trans x2).trans x3) o nd λz hz=>(x1.trans x2).hh.free (hf z hz)
  ·cases h3
 |_=>cases h3
theorem DS {o:Expr}{x:aR}{dz:cD}{pl:mQ Bool}{nd:List Nat}{gZ:List V}{jN:List D}{kW:List ae}{c0:Nat}(ho:XE X ct ms n o f)(c:kT X.K (ct c0))(hm:nU X.K (ct c0) x fa)(Fn:cG X.prog X.w X.K X.mg X.base eU kk fa fd ps (gH X.K ct (n::nd) rk mf))(hr:d8 kk X.A)
  (hb:bM X.K fd ps kW) (hd:bT gZ kW) (nW:∀F G,iS X.K ct F G nd jN gZ)
  (ht:bO (.Call (.Attribute o x dz) [] [] pos) X.env=(do
   let ov ← bO o X.env
   fZ dz.atName
   let(f,first) ← dQ [ov] (fX ov x pl)
   iN pos f first (cB pos (ax [] X.env)) (eZ pos (dD [] X.env))):=by rfl) :
  XO X ct ms rk (.Call (.Attribute o x dz) [] [] pos) (λρ=>(f ρ).bind λo=>ka c0 x mf o jN):=by
 obtain⟨u,pu,qu⟩:=ho
 refine⟨_,Tp pu c hm Fn hr hb hd nc ht,λF0 B F H ρ σ r Q rs e w=>?_⟩
 obtain⟨o,h1,h3⟩:=aY e
 refine qu F0 B F H ρ σ o _ rs h1 λv F1 H1 x1 l=>?_
 cases o with
 |obj c1 Dx kA=>
  unfold ka at h3
  dsimp only at h3
  split at h3
  ·rename_i hc
   obtain⟨rfl,pE⟩:=hc
   obtain⟨a,dx,vs,rfl,ha,hl,sP⟩:=l.obj x1.fh
   refine⟨a,dx,_,rfl,ha,Ht (vs:=vs) pE,F1,_,r,x1.fh,.cons l (nW F1 H1),h3,λv F3 H3 fp x3 o nd hf=>?_⟩
   exact w v F3 H3 fp (x1.trans x3) o nd λz hz=>x1.hh.free (hf z hz)
  ·cases h3
 |_=>cases h3
end
end L3
namespace L3
open PySem PySem.Spec L2
open PyProof.Rows hiding St
inductive Out where
 |nx (ρ:Env)|rt (d:D)|bk (ρ:Env)|ct (ρ:Env)
abbrev SF:=Env->Option Out
def kz (K:aa)(cl:Nat->af)(F0 B:Hp)(ms:List Mo)(rk:Nat)(E:kH):Out->Prop
 |.nx ρ=>∀σ F H,RS K cl F0 B ms F H ρ σ->E.nx σ H
 |.bk ρ=>∀σ F H,RS K cl F0 B ms F H ρ σ->E.bk σ H
 |.ct ρ=>∀σ F H,RS K cl F0 B ms F H ρ σ->E.ct σ H
 |.rt d=>∀v F H fp,bJ F0 F->bJ B H->bJ F H->(∀a o,B a=some o->jB o->F0 a=none->F a=none)->Ow K cl F H rk d v fp->fp.Nodup->(∀a∈fp,B a=none)->E.rt v H
section
variable (X:Cx)(ct:Nat->af)(ms:List Mo)(rk:Nat)
def XS (st:bN)(f:SF):Prop:=∃t,PS X st t/\∀(F0 B F H:Hp) (ρ:Env) (σ:St) (o:Out) (E:kH),RS X.K ct F0 B ms F H ρ σ->f ρ=some o->kz X.K ct F0 B ms rk E o->t E σ H
def oS (st:List bN)(f:SF):Prop:=∃t,oA X st t/\∀(F0 B F H:Hp) (ρ:Env) (σ:St) (o:Out) (E:kH),RS X.K ct F0 B ms F H ρ σ->f ρ=some o->kz X.K ct F0 B ms rk E o->t E σ H
end
def sSkip:SF:=λρ=>some (.nx ρ)
def sSeq (f g:SF):SF:=λρ=>(f ρ).bind λo=>match o with
 |.nx ρ'=>g ρ'
 |o=>some o
def sIf (c:BF)(f g:SF):SF:=λρ=>(c ρ).bind λb=>if b=true then f ρ else g ρ
def sSet (i:Nat)(f:EF):SF:=λρ=>(f ρ).bind λd=>some (.nx (ρ.set i (some d)))
def sRet (f:EF):SF:=λρ=>(f ρ).bind λd=>some (.rt d)
def sRetN:SF:=λ_=>some (.rt .non)
def sDrop (f:EF):SF:=λρ=>(f ρ).bind λ_=>some (.nx ρ)
def lh:SF:=λ_=>none
def nO:Nat:=2 ^ 9000
def kh (c:BF)(b:SF):Nat->SF
 |0,_=>none
 |n+1,ρ=>(c ρ).bind λt=>if t=true then(b ρ).bind λo=>match o with
   |.nx ρ'=>kh c b n ρ'
   |.ct ρ'=>kh c b n ρ'
   |.bk ρ'=>some (.nx ρ')
   |.rt d=>some (.rt d)
  else some (.nx ρ)
def n9 (c:BF)(b:SF):SF:=kh c b nO
def fy (g:D->Env->Option Env)(b:SF):List D->SF
 |[],ρ=>some (.nx ρ)
 |d::ds,ρ=>(g d ρ).bind λρ1=>(b ρ1).bind λo=>match o with
   |.nx ρ'=>fy g b ds ρ'
   |.ct ρ'=>fy g b ds ρ'
   |.bk ρ'=>some (.nx ρ')
   |.rt d=>some (.rt d)
def sFor (f:Env->Option (List D))(g:D->Env->Option Env)(b:SF):SF:=λρ=>(f ρ).bind λds=>fy g b ds ρ
section
variable {X:Cx}{ct:Nat->af}{ms:List Mo}{rk n m k:Nat}{st:bN}{rest:List bN}{a b c e:Expr}{f g h:EF}{p q:BF}{u w:SF}{pos:cD}
theorem ya:oS X ct ms rk [] sSkip:=⟨_,Ug,λF0 B F H ρ σ o E rs e w=>by cases e;exact w σ F H rs⟩
theorem ze (h1:XS X ct ms rk st u)(h2:oS X ct ms rk rest w):oS X ct ms rk (st::rest) (sSeq u w):=by
 obtain⟨t,pt,qt⟩:=h1
 obtain⟨t2,lK,oX⟩:=h2
 refine⟨_,Th pt lK,λF0 B F H ρ σ o E rs e z=>?_⟩
 obtain⟨o1,e1,e2⟩:=aY e
 refine qt F0 B F H ρ σ o1 _ rs e1 ?_
 cases o1 with
 |nx ρ'=>exactλσ' F' H' P7=>oX F0 B F' H' ρ' σ' o E P7 e2 z
 |rt d=>cases e2;exact z
 |bk ρ'=>cases e2;exact z
 |ct ρ'=>cases e2;exact z
theorem zf (h1:XS X ct ms rk st u):oS X ct ms rk [st] u:=by
 obtain⟨t,pt,qt⟩:=h1
 exact⟨_,Uh pt,qt⟩
theorem DT:XS X ct ms rk st lh:=⟨_,Ti,λF0 B F H ρ σ o E rs e w=>by cases e⟩
theorem zz (he:XO X ct ms rk e f):XS X ct ms rk (.Return (some e) pos) (sRet f):=by
 obtain⟨t,pt,qt⟩:=he
 refine⟨_,Mt pt,λF0 B F H ρ σ o E rs e w=>?_⟩
 obtain⟨d,h1,h2⟩:=aY e
 cases h2
 refine qt F0 B F H ρ σ d _ rs h1 λv F' H' fp x l nd hf=>?_
 have r:=rs.ext x
 exact w v F' H' fp r.f0 r.bh r.fh r.nf l nd λz hz=>rs.bh.free (hf z hz)
theorem wm {JU rj:List bN}(hc:XT X ct ms c p)(h1:oS X ct ms rk JU u)(h2:oS X ct ms rk rj w):XS X ct ms rk (.If c JU rj pos) (sIf p u w):=by
 obtain⟨t,pt,qt⟩:=hc
 obtain⟨t1,rT,rV⟩:=h1
 obtain⟨t2,lK,oX⟩:=h2
 refine⟨_,WP pt rT lK,λF0 B F H ρ σ o E rs e z=>?_⟩
 obtain⟨x,h1,h2⟩:=aY e
 refine qt F0 B F H ρ σ x _ rs h1 λF1 H1 x1=>?_
 cases x with
 |true=>rw[if_pos rfl]at h2 ⊢;exact rV F0 B F1 H1 ρ σ o E (rs.ext x1) h2 z
 |false=>rw[if_neg aX]at h2 ⊢;exact oX F0 B F1 H1 ρ σ o E (rs.ext x1) h2 z
theorem RS.put {K:aa}{F0 B F H F' H':Hp}{ρ:Env}{σ:St}{i:Nat}(rs:RS K ct F0 B ms F H ρ σ)(hm:ms[i]?=some (.ow k)) :
  ∃f1 fr:List af,f1.Nodup/\(∀a∈f1,B a=none)/\(∀a∈f1,a∉fr)/\(∀d,ρ[i]?=some (some d)->∃v,σ[i]?=some (some v)/\Ow K ct F H k d v f1)/\(∀a∈fr,F a=none/\∃o,H a=some o/\jB o) /\
   ∀(F' H':Hp) (d':D) (v':V) (f':List af),bJ F F'->bJ B H'->bJ F' H'->(∀a o,B a=some o->jB o->F0 a=none->F' a=none)->(∀a∈fr,H' a=H a/\F' a=none)->Ow K ct F' H' k d' v' f'->f'.Nodup->(∀a∈f',a∉fr)->(∀a∈f',B a=none) ->
    RS K ct F0 B ms F' H' (ρ.set i (some d')) (σ.set i (some v')):=by
 obtain⟨fp,sl,nd,hb⟩:=rs.sl
 obtain⟨f1,fr,i1,i2,i3,i4,i5⟩:=sl.put hm
 obtain⟨n1,n2,n3⟩:=i3 nd
 refine⟨f1,fr,n1,λa z=>hb a (i1 a z),n3,i4,λa z=>sl.cells a (i2 a z),λF' H' d' v' f' s1 s2 s3 s4 kf o OW dj Oh=>?_⟩
 obtain⟨gC,q1,q2,q3⟩:=i5 F' H' d' v' f' s1 kf o
 exact⟨rs.f0.trans s1,s2,s3,s4,gC,q1,q3 OW n2 dj,λa z=>(q2 a z).elim (Oh a) λz=>hb a (i2 a z)⟩
theorem RS.set {K:aa}{F0 B F H F' H':Hp}{ρ:Env}{σ:St}{i:Nat}{d:D}{v:V}{fp:List af}(rs:RS K ct F0 B ms F H ρ σ)(hm:ms[i]?=some (.ow k))(x:eS F H F' H')(o:Ow K ct F' H' k d v fp)(nd:fp.Nodup)(hf:∀a∈fp,H a=none) :
  RS K ct F0 B ms F' H' (ρ.set i (some d)) (σ.set i (some v)):=by
 have r:=rs.ext x
 obtain⟨f1,fr,n1,b1,n3,i4,cf,put⟩:=rs.put (F':=F') (H':=H') hm
 refine put F' H' d v fp x.ff r.bh x.fh r.nf (λa z=>?_) o nd (λa z zb=>?_) λa z=>rs.bh.free (hf a z)
 ·obtain⟨hn,o,ho,nt⟩:=cf a z
  exact⟨(x.hh _ _ ho).trans ho.symm,x.nf a o ho nt hn⟩
 ·obtain⟨hn,o,ho,nt⟩:=cf a zb
  rw[hf a z]at ho
  cases ho
theorem Wn {i:Nat}{x:aR}{pos':cD}(hm:ms[i]?=some (.ow k))(hN:X.N.Nodup)(hi:X.N[i]?=some x)(hx:Loc X.env.scope x)(he:XO X ct ms k e f)(hs:eA e (some (.Name x pos')) pos.line X.env=pure false:=by rfl)
  (hf:X.fn x=true\/X.env.scope.names.lookup x=some .local:=by first|exact .inl rfl|exact .inr rfl|assumption):XS X ct ms rk (.Assign [.Name x pos'] e pos) (sSet i f):=by
 obtain⟨t,pt,qt⟩:=he
 refine⟨_,VJ hN hi hx pt hs hf,λF0 B F H ρ σ o E rs e w=>?_⟩
 obtain⟨d,h1,h2⟩:=aY e
 cases h2
 exact qt F0 B F H ρ σ d _ rs h1 λv F' H' fp x l nd hf=>w _ F' H' (rs.set hm x l nd hf)
theorem Tb (hc:XT X ct ms c p)(hb:oS X ct ms rk rest u)(hp:cx (aZ X.prog X.w) X.A X.env X.xe):XS X ct ms rk (.While c rest [] pos) (n9 p u):=by
 obtain⟨t,pt,qt⟩:=hc
 obtain⟨t1,rT,rV⟩:=hb
 refine⟨_,Tj hp pt rT,λF0 B F H ρ σ o E rs e z=>?_⟩
 refine⟨λm σ H=>∃F ρ,RS X.K ct F0 B ms F H ρ σ/\kh p u m ρ=some o,⟨nO,F,ρ,rs,e⟩,?_⟩
 rintro m σ H ⟨F,ρ,rs,e⟩
 cases m with
 |zero=>cases e
 |succ m=>
  obtain⟨x,h1,h2⟩:=aY e
  refine qt F0 B F H ρ σ x _ rs h1 λF1 H1 x1=>?_
  cases x with
  |true=>
   rw[if_pos rfl]at h2 ⊢
   obtain⟨o1,h3,h4⟩:=aY h2
   refine⟨λσ H=>∃F ρ,RS X.K ct F0 B ms F H ρ σ/\kh p u m ρ=some o,λσ' H' h=>⟨m,hV m,h⟩,?_⟩
   refine rV F0 B F1 H1 ρ σ o1 _ (rs.ext x1) h3 ?_
   cases o1 with
   |nx ρ'=>exactλσ' F' H' r=>⟨F',ρ',r,h4⟩
   |ct ρ'=>exactλσ' F' H' r=>⟨F',ρ',r,h4⟩
   |bk ρ'=>cases h4;exact z
   |rt d=>cases h4;exact z
  |false=>
   rw[if_neg aX]at h2 ⊢
   cases h2
   exact z σ F1 H1 (rs.ext x1)
theorem RS.re {K:aa}{F0 B F H:Hp}{ρ:Env}{σ:St}(r:RS K ct F0 B ms F H ρ σ):RS K ct F B ms F H ρ σ:=⟨.refl _,r.bh,r.fh,λ_ _ _ _ h=>h,r.sl⟩
theorem RS.back {K:aa}{F0 B F H F' H':Hp}{ρ ρ':Env}{σ σ':St}(r:RS K ct F0 B ms F H ρ σ)(q:RS K ct F B ms F' H' ρ' σ'):RS K ct F0 B ms F' H' ρ' σ' :=
 ⟨r.f0.trans q.f0,q.bh,q.fh,λa o h t n=>q.nf a o h t (r.nf a o h t n),q.sl⟩
theorem kz.re {K:aa}{F0 B F H:Hp}{ρ:Env}{σ:St}{E:kH}{o:Out}(r:RS K ct F0 B ms F H ρ σ)(z:kz K ct F0 B ms rk E o):kz K ct F B ms rk E o:=by
 cases o with
 |nx ρ=>exactλσ' F' H' q=>z σ' F' H' (r.back q)
 |bk ρ=>exactλσ' F' H' q=>z σ' F' H' (r.back q)
 |ct ρ=>exactλσ' F' H' q=>z σ' F' H' (r.back q)
 |rt d=>exactλv F' H' fp s1 s2 s3 s4=>z v F' H' fp (r.f0.trans s1) s2 s3 λa o h t n=>s4 a o h t (r.nf a o h t n)
def nS (K:aa)(ct:Nat->af)(F B:Hp)(n:Nat)(J:It)(ds:List D):Prop :=
 ∀(i:Nat) (F' H':Hp),bJ F F'->bJ B H'->bJ F' H'->(∀d,ds[i]?=some d->J.go i H'/\∀x H2,J.yld i H' x H2->∃F2,eS F' H' F2 H2/\Al K ct F2 B n d x)/\(ds.length<=i->J.stop i H')
def XI (X:Cx)(ct:Nat->af)(ms:List Mo)(n:Nat)(tg iter:Expr)(f:Env->Option (List D)):Prop:=∃wi,PI X tg iter wi/\∀(F0 B F H:Hp) (ρ:Env) (σ:St) (ds:List D) (R:It->Hp->Prop),RS X.K ct F0 B ms F H ρ σ->f ρ=some ds ->
 (∀J F' H',eS F H F' H'->nS X.K ct F' B n J ds->R J H')->wi σ H R
def qW (X:Cx)(ct:Nat->af)(ms:List Mo)(n:Nat)(tg iter:Expr)(f:Env->Option (List D)):Prop:=∃wi,PI X tg iter wi/\∀(F0 B F H:Hp) (ρ:Env) (σ:St) (ds:List D) (R:It->Hp->Prop),RS X.K ct F0 B ms F H ρ σ->f ρ=some ds ->
 (∀J F' H',eS F H F' H'->nS X.K ct F' H' n J ds->R J H')->wi σ H R
def XG (X:Cx)(ct:Nat->af)(ms:List Mo)(n:Nat)(tg:Expr)(g:D->Env->Option Env):Prop:=∃t,PG X tg t/\∀(F0 B F H:Hp) (ρ ρ':Env) (σ:St) (d:D) (v:V) (Q:St->Hp->Prop),RS X.K ct F0 B ms F H ρ σ->Al X.K ct F B n d v->g d ρ=some ρ' ->
 (∀σ',RS X.K ct F0 B ms F H ρ' σ'->Q σ' H)->t v σ H Q
theorem vt {tg iter:Expr}{fi:Env->Option (List D)}{gg:D->Env->Option Env}(hi:XI X ct ms n tg iter fi)(hg:XG X ct ms n tg gg)(hb:oS X ct ms rk rest u)(hp:cx (aZ X.prog X.w) X.A X.env X.xe)(hc:X.calm=true)
  (hs:∀x,dq iter X.env x=pure x:=by intro _;rfl):XS X ct ms rk (.For tg iter rest [] pos) (sFor fi gg u):=by
 obtain⟨wi,pi,qi⟩:=hi
 obtain⟨J0,pg,qg⟩:=hg
 obtain⟨t1,rT,rV⟩:=hb
 refine⟨_,VP hp hc pi pg rT hs,λF0 B F H ρ σ o E rs e z=>?_⟩
 obtain⟨ds,h1,h2⟩:=aY e
 refine qi F0 B F H ρ σ ds _ rs h1 λJ F1 H1 x1 ok=>?_
 refine⟨λi m σ H=>m=ds.length-i/\i<=ds.length/\∃F ρ,bJ F1 F/\RS X.K ct F0 B ms F H ρ σ/\fy gg u (ds.drop i) ρ=some o,⟨ds.length,rfl,cC _,F1,ρ,.refl _,rs.ext x1,h2⟩,?_⟩
 rintro i m σ H ⟨rfl,sR,F,ρ,s1,rs,e⟩
 obtain⟨k1,k2⟩:=ok i F H s1 rs.bh rs.fh
 by_cases lz:i<ds.length
 ·right
  have hd:ds[i]?=some ds[i]:=by simp[lz]
  obtain⟨go,yl⟩:=k1 _ hd
  rw[lO lz]at e
  obtain⟨ρ1,h3,h4⟩:=aY e
  obtain⟨o1,h5,h6⟩:=aY h4
  refine⟨go,λσ H=>i+1<=ds.length/\∃F ρ,bJ F1 F/\RS X.K ct F0 B ms F H ρ σ/\fy gg u (ds.drop (i+1)) ρ=some o,λσ' H' h=>⟨ds.length-(i+1),by omega,rfl,h⟩,λx H2 y=>?_⟩
  obtain⟨F2,x2,l⟩:=yl x H2 y
  refine qg F0 B F2 H2 ρ ρ1 σ _ x _ (rs.ext x2) l h3 λσ' r=>?_
  have s2:=s1.trans x2.ff
  refine rV F2 B F2 H2 ρ1 σ' o1 _ r.re h5 ?_
  cases o1 with
  |nx ρ'=>exactλσ' F' H' q=>⟨lz,F',ρ',s2.trans q.f0,r.back q,h6⟩
  |ct ρ'=>exactλσ' F' H' q=>⟨lz,F',ρ',s2.trans q.f0,r.back q,h6⟩
  |bk ρ'=>cases h6;exactλσ' F' H' q=>z σ' F' H' (r.back q)
  |rt d=>cases h6;exact kz.re (o:=.rt d) r z
 ·left
  refine⟨k2 (by omega),?_⟩
  have:ds.drop i=[]:=mN (by omega)
  rw[this]at e
  cases e
  exact z σ F H rs
def gV (i:Nat):D->Env->Option Env:=λd ρ=>some (ρ.set i (some d))
theorem UW {i:Nat}{x:aR}(hm:ms[i]?=some (.ow 0))(hN:X.N.Nodup)(hi:X.N[i]?=some x)(hx:Loc X.env.scope x)
  (hf:X.fn x=true\/X.env.scope.names.lookup x=some .local:=by first|exact .inl rfl|exact .inr rfl|assumption):XG X ct ms 0 (.Name x pos) (gV i):=by
 refine⟨_,LK hN hi hx hf,λF0 B F H ρ ρ' σ d v Q rs l e w=>?_⟩
 cases e
 exact w _ (rs.set hm (.refl rs.fh) (Ow.zero l) bz λa z=>(by cases z))
def CZ (X:Cx)(ct:Nat->af)(ms:List Mo)(n:Nat)(jI:List Expr)(g:List D->Env->Option Env):Prop:=∃t,wK X jI t/\(∀ds ρ ρ',g ds ρ=some ρ'->ds.length=jI.length)/\∀(F0 B F H:Hp) (ρ ρ':Env) (σ:St) (ds:List D) (vs:List V) (Q:St->Hp->Prop),RS X.K ct F0 B ms F H ρ σ->Pr (Al X.K ct F B n) ds vs->g ds ρ=some ρ' ->
 (∀σ',RS X.K ct F0 B ms F H ρ' σ'->Q σ' H)->t vs σ H Q
def gsNil:List D->Env->Option Env:=λds ρ=>match ds with
 |[]=>some ρ
 |_=>none
def gsCons (g:D->Env->Option Env)(gs:List D->Env->Option Env):List D->Env->Option Env:=λds ρ=>match ds with
 |d::ds=>(g d ρ).bind λρ'=>gs ds ρ'
 |[]=>none
theorem CC:CZ X ct ms n [] gsNil:=by
 refine⟨_,LL,λds ρ ρ' e=>?_,λF0 B F H ρ ρ' σ ds vs Q rs l e w=>?_⟩
 ·cases ds with
  |nil=>rfl
  |cons d ds=>cases e
 ·cases l with
  |nil=>cases e;exact⟨rfl,w σ rs⟩
  |cons _ _=>cases e
theorem ww {tg:Expr}{jI:List Expr}{gg:D->Env->Option Env}{gs:List D->Env->Option Env}(h1:XG X ct ms n tg gg)(h2:CZ X ct ms n jI gs)
  (hs:(cK (tg::jI) X.env).map (·.2)=fW tg X.env::(cK jI X.env).map (·.2):=by rfl):CZ X ct ms n (tg::jI) (gsCons gg gs):=by
 obtain⟨t,pt,qt⟩:=h1
 obtain⟨t2,lK,Bt,oX⟩:=h2
 refine⟨_,Lu pt lK hs,λds ρ ρ' e=>?_,λF0 B F H ρ ρ' σ ds vs Q rs l e w=>?_⟩
 ·cases ds with
  |nil=>cases e
  |cons d ds=>
   obtain⟨ρ1,h3,h4⟩:=aY e
   rw[aP,aP,Bt _ _ _ h4]
 ·cases l with
  |nil=>cases e
  |cons h t=>
   obtain⟨ρ1,h3,h4⟩:=aY e
   exact⟨_,_,rfl,qt F0 B F H ρ ρ1 σ _ _ _ rs h h3 λσ1 r1=>oX F0 B F H ρ1 ρ' σ1 _ _ _ r1 t h4 w⟩
def gT (gs:List D->Env->Option Env):D->Env->Option Env:=λd ρ=>match d with
 |.tup ds=>gs ds ρ
 |_=>none
theorem CM {jI:List Expr}{j:Nat}{gs:List D->Env->Option Env}(hc:X.calm=true)(h:CZ X ct ms (n-1) jI gs)(hl:(cK jI X.env).length=jI.length:=by rfl)(m8:(cK jI X.env).findIdx? (·.1)=none:=by rfl):XG X ct ms n (.Tuple jI j pos) (gT gs):=by
 obtain⟨t,pt,lt,qt⟩:=h
 refine⟨_,Mu (n:=jI.length) hc pt hl m8,λF0 B F H ρ ρ' σ d v Q rs l e w=>?_⟩
 cases d with
 |tup ds=>
  have l':Al X.K ct F H n (.tup ds) v:=l.mono (.refl _) rs.bh
  have:∃a vs,v=.ref a/\gY X.K H a vs/\Pr (Al X.K ct F B (n-1)) ds vs:=by
   cases n with
   |zero=>
    have l:Dt X.K ct F (.tup ds) v:=l
    cases l with
    |tup q t=>exact⟨_,_,rfl,gY.of (rs.fh _ _ q),t.pr⟩
   |succ n=>
    rcases l with l|l
    ·cases l with
     |tup q t=>exact⟨_,_,rfl,gY.of (rs.fh _ _ q),t.pr.mono λ_ _=>Al.of⟩
    ·cases l with
     |tup q t=>exact⟨_,_,rfl,gY.of (rs.fh _ _ q),t⟩
  obtain⟨a,vs,rfl,ha,hp⟩:=this
  exact⟨a,vs,rfl,ha,hp.length.symm.trans (lt _ _ _ e),qt F0 B F H ρ ρ' σ ds vs Q rs hp e w⟩
 |_=>cases e
def startD (N:List aR)(ds:List D):Env:=ds.map some++aG (N.length-ds.length) none
def mOf (N:List aR)(b:SF)(ds:List D):Option D:=(b (startD N ds)).bind λo=>match o with
 |.rt d=>some d
 |.nx _=>some .non
 |_=>none
theorem SL.start {K:aa}{F B H:Hp}:∀{pm:List Nat} {ds:List D} {vs:List V} {ms:List Mo} (j:Nat),iS K ct F B pm ds vs->(∀(i n:Nat),pm[i]?=some n->ms[i]?=some (Mo.al n)\/(n=0/\ms[i]?=some (Mo.ow 0)))->ms.length=pm.length+j ->
  SL K ct F B H ms (ds.map some++aG j none) (vs.map some++aG j none) []
 |_,_,_,ms,j,.nil,_,hl=>by
  have:∀(j:Nat) (ms:List Mo),ms.length=j->SL K ct F B H ms (aG j none) (aG j none) []:=by
   intro j
   induction j with
   |zero=>intro ms h;cases ms with
    |nil=>exact .nil
    |cons _ _=>simp at h
   |succ j ih=>intro ms h;cases ms with
    |nil=>simp at h
    |cons m ms=>exact .no (ih ms (by simpa using h))
  simpa using this j ms (by simpa using hl)
 |_,_,_,[],j,.cons h t,_,hl=>by simp at hl;omega
 |_,_,_,m::ms,j,.cons (n:=n) h t,hm,hl=>by
  have ih:=SL.start (ms:=ms) (H:=H) j t (λi n e=>by simpa using hm (i+1) n (by simpa using e)) (by simp at hl;omega)
  rcases hm 0 n rfl with e|⟨rfl,e⟩
  ·simp at e;subst e;exact .al h ih
  ·simp at e;subst e;exact SL.ow (f:=[]) (Ow.zero h) ih
structure Fun2 (K:aa)(x qual:aR)(st:bN)(f:af)(fd:aN):Prop where
 ex:∃(oc:ae) (od:Option af) (dV kV doc pm:ae) (an:Option af) (ie ct:ae) (vO:Array (Option ae)),
  fd=fR x qual (kP st) (gz st) (bb st) dV kV doc pm an ie ct/\K.lookup f=some ⟨oc,od,.func fd,vO⟩/\aD K ie qual=true
 kp:aq K (.ref f)=true
theorem Fun2.ok {P:bg}{w:bE}{K:aa}{mg:aR->Option ae}{base:aK}{x qual:aR}{st:bN}{f:af}{fd:aN}{N ps:List aR}{k:Nat}{sp:Sp}(F:Fun2 K x qual st f fd)(S:bA N ps (bb st))(len:∀vs H Q E,sp vs H Q E->vs.length=ps.length)
    (pT:∀(ie:ae) (A:bv) (outer:List PySem.Env) (s:ak) (H:Hp) (vs:List V) (Q:VK) (E:XK),d8 k (A.deeper (envOfC qual (bb st) s.heap.objs.size f ie))->sp vs H Q E ->
      ∃t,oA (mr eU P w K mg base N qual (bb st) f ie A outer s H E).nox (gz st) t/\t { nx:=λ_ H'=>Q .non H',rt:=Q } (L2.start N vs) H):cG P w K mg base eU (k+1) f fd ps sp:=by
  obtain⟨oc,od,dV,kV,doc,pm,an,ie,ct,vO,rfl,lk,jD⟩:=F.ex
  refine WT lk jD S len λA outer s H vs Q E hr sX=>?_
  obtain⟨t,h,q⟩:=pT ie A outer s H vs Q E hr sX
  exact⟨t,h.nox,q⟩
theorem lift {P:bg}{w:bE}{K:aa}{mg:aR->Option ae}{base:aK}{x qual:aR}{st:bN}{fa:af}{fd:aN}{N ps:List aR}{kk:Nat}{pm:List Nat}{bf:SF}(Fn:Fun2 K x qual st fa fd)(S:bA N ps (bb st))(AK:pm.length=ps.length)(Gb:ms.length=N.length)(mL:ps.length<=N.length)
  (AG:∀(i n:Nat),pm[i]?=some n->ms[i]?=some (Mo.al n)\/(n=0/\ms[i]?=some (Mo.ow 0)))
  (body:∀(ie:ae) (A:bv) (outer:List PySem.Env) (s:ak) (H:Hp) (E:XK),d8 kk (A.deeper (envOfC qual (bb st) s.heap.objs.size fa ie))->oS (mr eU P w K mg base N qual (bb st) fa ie A outer s H E).nox ct ms rk (gz st) bf) :
  cG P w K mg base eU (kk+1) fa fd ps (gH K ct pm rk (mOf N bf)):=by
 refine Fn.ok S (gH.len AK) λie A outer s H vs Q E hr h=>?_
 obtain⟨F,ds,d,sF,l,hm,q⟩:=h
 obtain⟨t,pt,qt⟩:=body ie A outer s H E hr
 refine⟨t,pt,?_⟩
 obtain⟨o,h1,h2⟩:=aY hm
 have Xr:vs.length=pm.length:=l.length
 have AC:ds.length=vs.length:=l.length'
 refine qt F H F H (startD N ds) (L2.start N vs) o _ ⟨.refl _,.refl _,sF,λ_ _ _ _ h=>h,[],?_,bz,λa z=>(by cases z)⟩ h1 ?_
 ·unfold startD L2.start
  rw[AC]
  exact SL.start _ l AG (by omega)
 ·cases o with
  |nx ρ=>
   cases h2
   exactλσ F' H' r=>q .non F' H' [] ⟨r.f0,r.bh,r.fh,r.nf⟩ (Ow.scal .non rfl) bz λa z=>(by cases z)
  |rt d'=>
   cases h2
   exactλv F' H' fp s1 s2 s3 s4 o nd hf=>q v F' H' fp ⟨s1,s2,s3,s4⟩ o nd hf
  |bk ρ=>cases h2
  |ct ρ=>cases h2
end
end L3
namespace L3
open PySem PySem.Spec L2
open PyProof.Rows hiding St
theorem fw.or {X:Cx}{f:ae->ae->mQ ae}{r r':R2}(h:fw X f r)(h':fw X f r'):fw X f (λx y H Q=>r x y H Q\/r' x y H Q) :=
 λah s σ H x y v u Q I rx ry q=>q.elim (h ah s σ H x y v u Q I rx ry) (h' ah s σ H x y v u Q I rx ry)
section
variable {K:aa}{ct:Nat->af}{n m k:Nat}
def i2 (g:Int->Int->D):D->D->Option D
 |.int i,.int j=>some (g i j)
 |_,_=>none
def p6 (C:Int->Int->Prop)[∀i j,Decidable (C i j)](g:Int->Int->D):D->D->Option D
 |.int i,.int j=>if C i j then some (g i j)else none
 |_,_=>none
theorem Em {g:Int->Int->D}{gv:Int->Int->V}(hg:∀i j F,Dt K ct F (g i j) (gv i j)):ky K ct n m k (nG gv) (i2 g):=by
 intro F H x y d1 d2 d Q s l1 l2 e w
 cases d1 with
 |int i=>
  cases d2 with
  |int j=>cases e;exact⟨i,j,l1.int,l2.int,w _ F H (.refl s) (Al.of (hg i j F))⟩
  |_=>cases e
 |_=>cases e
theorem Ej {C C':Int->Int->Prop}[∀i j,Decidable (C i j)]{g:Int->Int->D}{gv:Int->Int->V}(hC:∀i j,C i j->C' i j)(hg:∀i j F,Dt K ct F (g i j) (gv i j)):ky K ct n m k (rI C' gv) (p6 C g):=by
 intro F H x y d1 d2 d Q s l1 l2 e w
 cases d1 with
 |int i=>
  cases d2 with
  |int j=>
   unfold p6 at e
   dsimp only at e
   by_cases h:C i j
   ·rw[if_pos h]at e;cases e;exact⟨i,j,l1.int,l2.int,hC i j h,w _ F H (.refl s) (Al.of (hg i j F))⟩
   ·rw[if_neg h]at e;cases e
  |_=>cases e
 |_=>cases e
def Ia:Nat:=2 ^ 9000
def xM:Nat:=2 ^ 100000
def ke:D->D->Option D:=i2 λi j=>.int (i-j)
theorem u9:ky K ct n m k (nG λi j=>.int (i-j)) ke:=Em λ_ _ _=>.int _
def kB (i j:Int):Prop:=(-18446744073709551616<i/\i<18446744073709551616)\/(-18446744073709551616<j/\j<18446744073709551616)\/(i.natAbs<xM/\j.natAbs<xM)
instance (i j:Int):Decidable (kB i j):=by unfold kB;infer_instance
def hE:D->D->Option D:=p6 kB λi j=>.int (i*j)
theorem kB.ok {i j:Int}(h:kB i j):lR i j:=by
 rcases h with h|h|h
 ·exact .inl (.inl ⟨by have:=h.1;omega,by have:=h.2;omega⟩)
 ·exact .inl (.inr ⟨by have:=h.1;omega,by have:=h.2;omega⟩)
 ·exact .inr h
theorem UX:ky K ct n m k (rI lR λi j=>.int (i*j)) hE:=Ej (λ_ _=>kB.ok) λ_ _ _=>.int _
def D.v:D->V
 |.bl b=>.bl b
 |.int i=>.int i
 |.str x=>.str x
 |_=>.non
theorem Dt.v {F:Hp}{d:D}{v:V}(h:Dt K ct F d v)(hs:d.sc=true):v=d.v:=by
 cases h<;>first|rfl|cases hs
theorem Al.v {F G:Hp}{d:D}{v:V}(h:Al K ct F G n d v)(hs:d.sc=true):v=d.v:=Dt.v (Al.scal (F':=F) h hs) hs
def gB:D->D->Option D
 |.int i,.int j=>if 0<j/\j<4611686018427387904 then some (.int (i/j))else if j≠0/\j.natAbs<Ia then some (.int (i.fdiv j))else none
 |_,_=>none
theorem ja:ky K ct n m k (rI (λ_ j=>j≠0/\Sz 9000 j) λi j=>.int (i.fdiv j)) gB:=by
 intro F H x y d1 d2 d Q s l1 l2 e w
 cases d1 with
 |int i=>
  cases d2 with
  |int j=>
   unfold gB at e
   dsimp only at e
   by_cases h:0<j/\j<4611686018427387904
   ·rw[if_pos h]at e
    cases e
    refine⟨i,j,l1.int,l2.int,⟨by omega,?_⟩,?_⟩
    ·have:Sz 62 j:=by unfold Sz;omega
     exact this.mono (by decide)
    ·show Q (.int (i.fdiv j)) H
     rw[lN i (by omega)]
     exact w _ F H (.refl s) (Al.of (.int _))
   ·rw[if_neg h]at e
    by_cases h:j≠0/\j.natAbs<Ia
    ·rw[if_pos h]at e
     cases e
     exact⟨i,j,l1.int,l2.int,h,w _ F H (.refl s) (Al.of (.int _))⟩
    ·rw[if_neg h]at e;cases e
  |_=>cases e
 |_=>cases e
def eJ:D->D->Option D
 |.int i,.int j=>if 0<j then some (.int (i%j))else if j≠0 then some (.int (i.fmod j))else none
 |_,_=>none
theorem xr:ky K ct n m k (rI (λ_ j=>j≠0) λi j=>.int (i.fmod j)) eJ:=by
 intro F H x y d1 d2 d Q s l1 l2 e w
 cases d1 with
 |int i=>
  cases d2 with
  |int j=>
   unfold eJ at e
   dsimp only at e
   by_cases h:0<j
   ·rw[if_pos h]at e
    cases e
    refine⟨i,j,l1.int,l2.int,by omega,?_⟩
    show Q (.int (i.fmod j)) H
    rw[Int.fmod_eq_emod_of_nonneg i (by omega)]
    exact w _ F H (.refl s) (Al.of (.int _))
   ·rw[if_neg h]at e
    by_cases h:j≠0
    ·rw[if_pos h]at e
     cases e
     exact⟨i,j,l1.int,l2.int,h,w _ F H (.refl s) (Al.of (.int _))⟩
    ·rw[if_neg h]at e;cases e
  |_=>cases e
 |_=>cases e
def lW (i j:Int):Prop:=0<=j/\j<=1000000/\i.natAbs<18446744073709551616
instance (i j:Int):Decidable (lW i j):=by unfold lW;infer_instance
def rS:D->D->Option D:=p6 lW λi j=>.int (i ^ j.toNat)
theorem Up:ky K ct n m k (rI rq λi j=>.int (i ^ j.toNat)) rS:=Ej (λ_ _ h=>⟨h.1,h.2.1,by have:=h.2.2;omega⟩) λ_ _ _=>.int _
def rX:D->D->Option D:=p6 lW λi j=>.int (i*2 ^ j.toNat)
theorem Uq:ky K ct n m k (rI rq λi j=>.int (i*2 ^ j.toNat)) rX:=Ej (λ_ _ h=>⟨h.1,h.2.1,by have:=h.2.2;omega⟩) λ_ _ _=>.int _
def oY:D->D->Option D:=p6 (λ_ j=>0<=j) λi j=>.int (i/2 ^ j.toNat)
theorem L9:ky K ct n m k (rI (λ_ j=>0<=j) λi j=>.int (i/2 ^ j.toNat)) oY:=Ej (λ_ _ h=>h) λ_ _ _=>.int _
def qB:D->D->Option D:=i2 λi j=>.bl (decide (i<j))
def oU:D->D->Option D:=i2 λi j=>.bl (decide (j<i))
def FE:D->D->Option D:=i2 λi j=>.bl (decide (j<=i))
theorem wG:ky K ct n m k (nG λi j=>.bl (decide (i<j))) qB:=Em λ_ _ _=>.bl _
theorem tJ:ky K ct n m k (nG λi j=>.bl (decide (j<i))) oU:=Em λ_ _ _=>.bl _
theorem Wo:ky K ct n m k (nG λi j=>.bl (decide (j<=i))) FE:=Em λ_ _ _=>.bl _
def vU:R2:=λx y H Q=>∃i j,x=.str i/\y=.str j/\Q (.bl (!(decide (j.cps.toList<i.cps.toList)))) H
theorem Wp {X:Cx}:fw X (cm .LtE) vU:=by
 intro ah s σ H x y v u Q I rx ry h
 obtain⟨i,j,rfl,rfl,q⟩:=h
 obtain⟨t,rfl⟩:=rx
 obtain⟨t',rfl⟩:=ry
 exact PySem.P.le_str ⟨.bl _,H,I,rfl,q⟩
def pF:D->D->Option D
 |.int i,.int j=>some (.bl (decide (i<=j)))
 |.str i,.str j=>some (.bl (!(decide (j.cps.toList<i.cps.toList))))
 |_,_=>none
theorem uq:ky K ct n m k (λx y H Q=>nG (λi j=>.bl (decide (i<=j))) x y H Q\/vU x y H Q) pF:=by
 intro F H x y d1 d2 d Q s l1 l2 e w
 cases d1 with
 |int i=>
  cases d2 with
  |int j=>cases e;exact .inl ⟨i,j,l1.int,l2.int,w _ F H (.refl s) (Al.of (.bl _))⟩
  |_=>cases e
 |str i=>
  cases d2 with
  |str j=>cases e;exact .inr ⟨i,j,l1.str,l2.str,w _ F H (.refl s) (Al.of (.bl _))⟩
  |_=>cases e
 |_=>cases e
theorem ql {X:Cx}:fw X (cm .LtE) (λx y H Q=>nG (λi j=>.bl (decide (i<=j))) x y H Q\/vU x y H Q):=fw.or WR Wp
def D.isN:D->Bool
 |.non=>true
 |_=>false
def D.isB (b:Bool):D->Bool
 |.bl c=>c==b
 |_=>false
def p7 (neg:Bool):D->D->Option D
 |d,.non=>some (.bl (if neg then !d.isN else d.isN))
 |d,.bl b=>some (.bl (if neg then !d.isB b else d.isB b))
 |_,_=>none
theorem Al.ref {F G:Hp}{d:D}{v:V}(h:Al K ct F G n d v)(hs:d.sc=false):∃a,v=.ref a:=by
 cases n with
 |zero=>cases(show Dt K ct F d v from h)<;>first|cases hs;done|exact⟨_,rfl⟩
 |succ n=>rcases h with h|h<;>cases h<;>first|cases hs;done|exact⟨_,rfl⟩
theorem Al.isn {F G:Hp}{d:D}{v:V}(h:Al K ct F G n d v):decide (v=.non)=d.isN:=by
 cases hs:d.sc with
 |true=>
  have:=Al.v h hs
  subst this
  cases d<;>first|rfl|cases hs
 |false=>
  obtain⟨a,rfl⟩:=h.ref hs
  cases d<;>first|rfl|cases hs
theorem Al.isb {F G:Hp}{d:D}{v:V}{b:Bool}(h:Al K ct F G n d v):decide (v=.bl b)=d.isB b:=by
 cases hs:d.sc with
 |true=>
  have:=Al.v h hs
  subst this
  cases d<;>first|rfl|(cases hs;done)|(rename_i c;cases b<;>cases c<;>rfl)
 |false=>
  obtain⟨a,rfl⟩:=h.ref hs
  cases d<;>first|rfl|cases hs
def JR:R2:=λx y H Q=>(y=.non/\Q (.bl (decide (x=.non))) H)\/∃b,y=.bl b/\Q (.bl (decide (x=.bl b))) H
def qG:R2:=λx y H Q=>(y=.non/\Q (.bl (!decide (x=.non))) H)\/∃b,y=.bl b/\Q (.bl (!decide (x=.bl b))) H
theorem CT {X:Cx}:fw X (cm .Is) JR:=fw.or VU Wd
theorem LC {X:Cx}:fw X (cm .IsNot) qG:=fw.or Uj SJ
theorem CJ:ky K ct n m k JR (p7 false):=by
 intro F H x y d1 d2 d Q s l1 l2 e w
 cases d2 with
 |non=>
  cases e
  refine .inl ⟨l2.non,?_⟩
  rw[l1.isn]
  exact w _ F H (.refl s) (Al.of (.bl _))
 |bl b=>
  cases e
  refine .inr ⟨b,l2.bl,?_⟩
  rw[l1.isb]
  exact w _ F H (.refl s) (Al.of (.bl _))
 |_=>cases e
theorem KM:ky K ct n m k qG (p7 true):=by
 intro F H x y d1 d2 d Q s l1 l2 e w
 cases d2 with
 |non=>
  cases e
  refine .inl ⟨l2.non,?_⟩
  rw[l1.isn]
  exact w _ F H (.refl s) (Al.of (.bl _))
 |bl b=>
  cases e
  refine .inr ⟨b,l2.bl,?_⟩
  rw[l1.isb]
  exact w _ F H (.refl s) (Al.of (.bl _))
 |_=>cases e
mutual
def D.py:D->Option bC
 |.non=>some .none
 |.bl b=>some (.bool b)
 |.int i=>some (.int i)
 |.str x=>some (.str x)
 |.lst xs=>(D.pys xs).bind λys=>some (.list ys)
 |.tup xs=>(D.pys xs).bind λys=>some (.tuple ys)
 |_=>none
def D.pys:List D->Option (List bC)
 |[]=>some []
 |d::ds=>(D.py d).bind λx=>(D.pys ds).bind λxs=>some (x::xs)
end
theorem Dt.toPy {F H:Hp}(s:bJ F H){d:D}{v:V}{e:bC}(h:Dt K ct F d v)(q:d.py=some e):L2.Dt K H v e:=by
 refine Dt.rec (motive_1:=λd v _=>∀e,d.py=some e->L2.Dt K H v e) (motive_2:=λds vs _=>∀es,D.pys ds=some es->L2.Dts K H vs es) ?_ ?_ ?_ ?_ ?_ ?_ ?_ ?_ ?_ ?_ ?_ ?_ ?_ h e q
 ·intro e h;rw[D.py]at h;cases h;exact .non
 ·intro b e h;rw[D.py]at h;cases h;exact .bl b
 ·intro b e h;rw[D.py]at h;cases h;exact .int b
 ·intro b e h;rw[D.py]at h;cases h;exact .str b
 ·intro _ _ _ q _ t e h
  rw[D.py]at h
  obtain⟨ys,h1,h2⟩:=aY h
  cases h2
  exact .lst (s.seq q) (t _ h1)
 ·intro _ _ _ q _ t e h
  rw[D.py]at h
  obtain⟨ys,h1,h2⟩:=aY h
  cases h2
  exact .tup (gY.of (s _ _ q)) (t _ h1)
 ·intro _ _ _ _ _ _ _ _ e h;simp only[D.py]at h;cases h
 ·intro _ _ _ _ _ _ _ _ e h;simp only[D.py]at h;cases h
 ·intro _ _ _ _ _ _ _ _ _ _ e h;simp only[D.py]at h;cases h
 ·intro _ _ _ _ e h;simp only[D.py]at h;cases h
 ·intro _ _ _ _ _ _ _ _ _ _ _ _ e h;simp only[D.py]at h;cases h
 ·intro e h;rw[D.pys]at h;cases h;exact .nil
 ·intro _ _ _ _ _ _ p t e h
  rw[D.pys]at h
  obtain⟨y,ys,h1,h2,h3⟩:=dL h
  cases h3
  exact .cons (p _ h1) (t _ h2)
theorem Pr.toPy {H:Hp}{R:D->V->Prop}(f:∀d v e,R d v->d.py=some e->L2.Dt K H v e){ds:List D}{vs:List V}{es:List bC}(h:Pr R ds vs)(e:D.pys ds=some es):L2.Dts K H vs es:=by
 induction h generalizing es with
 |nil=>rw[D.pys]at e;cases e;exact .nil
 |cons h t ih=>
  rw[D.pys]at e
  obtain⟨y,ys,h1,h2,h3⟩:=dL e
  cases h3
  exact .cons (f _ _ _ h h1) (ih h2)
theorem Al.toPy {F H:Hp}(s:bJ F H){n:Nat}{d:D}{v:V}{e:bC}(h:Al K ct F H n d v)(q:d.py=some e):L2.Dt K H v e:=by
 induction n generalizing d v e with
 |zero=>exact Dt.toPy s h q
 |succ n ih=>
  cases h with
  |inl h=>exact Dt.toPy s h q
  |inr h=>
   cases h with
   |lst h t=>
    rw[D.py]at q
    obtain⟨ys,h1,h2⟩:=aY q
    cases h2
    exact .lst (fm.of h) (Pr.toPy (λ_ _ _=>ih) t h1)
   |tup h t=>
    rw[D.py]at q
    obtain⟨ys,h1,h2⟩:=aY q
    cases h2
    exact .tup (gY.of (s _ _ h)) (Pr.toPy (λ_ _ _=>ih) t h1)
   |_=>simp only[D.py]at q;cases q
def mD (a:bC):Bool:=a.canLay0&&decide (a.depth<=60)
def iH (neg:Bool)(x y:D):Option D:=x.py.bind λa=>y.py.bind λb=>if mD a=true/\mD b=true then some (.bl (if neg then !bC.eqv a b else bC.eqv a b))else none
theorem wc {neg:Bool}:ky K ct n m k (vT K neg) (iH neg):=by
 intro F H x y d1 d2 d Q s l1 l2 e w
 obtain⟨a,b,h1,h2,h3⟩:=dL e
 by_cases h:mD a=true/\mD b=true
 ·rw[if_pos h]at h3
  cases h3
  have o1:=h.1
  have o2:=h.2
  unfold mD at o1 o2
  rw[cH,decide_eq_true_iff]at o1 o2
  exact⟨a,b,Al.toPy s l1 h1,Al.toPy s l2 h2,o1.1,o2.1,bS (Nat.min_le_left _ _) o1.2,w _ F H (.refl s) (Al.of (.bl _))⟩
 ·rw[if_neg h]at h3;cases h3
end
end L3
namespace L3
open PySem PySem.Spec L2
open PyProof.Rows hiding St
section
variable {K:aa}{ct:Nat->af}{n m k:Nat}{X:Cx}
theorem Pr.atI {R:D->V->Prop}{ds:List D}{vs:List V}{i:Int}{d:D}(h:Pr R ds vs)(e:atI ds i=some d):∃v,atI vs i=some v/\R d v:=by
 unfold L2.atI at e ⊢
 rw[←h.length]
 obtain⟨j,h1,h2⟩:=aY e
 obtain⟨v,h3,h4⟩:=h.get' h2
 exact⟨v,by rw[h1];exact h3,h4⟩
def rN:D->Option dv
 |.int i=>some (.inl i)
 |.str x=>some (.inr x)
 |_=>none
def lc:List D->Option (List dv)
 |[]=>some []
 |d::ds=>(rN d).bind λk=>(lc ds).bind λks=>some (k::ks)
def gu {κ:Type}[DecidableEq κ](ks:List κ)(ds:List D)(k:κ):Option D:=((ks.zip ds).find? λp=>decide (p.1=k)).map (·.2)
def RO (R:D->V->Prop):Option D->Option V->Prop
 |some d,some u=>R d u
 |none,none=>True
 |_,_=>False
theorem RO.some_of {R:D->V->Prop}{d:D}{q:Option V}(h:RO R (some d) q):∃u,q=some u/\R d u:=by
 cases q with
 |none=>exact h.elim
 |some u=>exact⟨u,rfl,h⟩
theorem RO.none_of {R:D->V->Prop}{q:Option V}(h:RO R none q):q=none:=by
 cases q with
 |none=>rfl
 |some u=>exact h.elim
theorem Hu {κ:Type}[DecidableEq κ]{R:D->V->Prop}{k:κ}:∀{ks:List κ} {ds:List D} {vs:List V},Pr R ds vs->RO R (gu ks ds k) (hG (ks.zip vs) k)
 |[],_,_,_=>by simp[gu,hG,RO]
 |_::_,_,_,.nil=>by simp[gu,hG,RO]
 |y::ks,d::ds,v::vs,.cons h t=>by
  by_cases e:y=k
  ·have h1:gu (y::ks) (d::ds) k=some d:=by simp[gu,cU,e]
   have h2:hG ((y::ks).zip (v::vs)) k=some v:=by simp[hG,cU,e]
   rw[h1,h2]
   exact h
  ·have h1:gu (y::ks) (d::ds) k=gu ks ds k:=by simp[gu,cU,e]
   have h2:hG ((y::ks).zip (v::vs)) k=hG (ks.zip vs) k:=by simp[hG,cU,e]
   rw[h1,h2]
   exact Hu t
theorem HR {F G:Hp}{d:D}{v:V}{k:dv}(e:rN d=some k)(h:Al K ct F G n d v):v=kV k:=by
 cases d with
 |int i=>cases e;exact h.int
 |str i=>cases e;exact h.str
 |_=>cases e
theorem Ma {F G:Hp}{ds:List D}{vs:List V}{ks:List dv}(e:lc ds=some ks)(h:Pr (Al K ct F G n) ds vs):vs=ks.map kV:=by
 induction h generalizing ks with
 |nil=>cases e;rfl
 |cons h t ih=>
  unfold lc at e
  obtain⟨k,ks,h1,h2,h3⟩:=dL e
  cases h3
  rw[HR h1 h,ih h2];rfl
def ig (o y:D):Option (Option D):=match o with
 |.dK ks ds=>(rN y).bind λk=>some (gu ks ds k)
 |.dT ks ds=>(match y with|.tup ys=>(lc ys).bind λk=>some (gu ks ds k)|_=>none)
 |_=>none
theorem Mb {F G:Hp}{o y:D}{x v:V}(s:bJ F G)(l1:Al K ct F G n o x)(l2:Al K ct F G m y v){r:Option D}(e:ig o y=some r) :
  ∃a q,x=.ref a/\mT G a v q/\CU G a/\RO (Al K ct F G (n-1)) r q:=by
 cases o with
 |dK ks ds=>
  obtain⟨a,vs,rfl,ha,hl,hp⟩:=l1.dK s
  obtain⟨k,h1,h2⟩:=aY e
  cases h2
  have hv:=HR h1 l2
  subst hv
  exact⟨a,_,rfl,mT.k ha,.inl ⟨_,.inl ha⟩,Hu hp⟩
 |dT ks ds=>
  obtain⟨a,vs,rfl,ha,hl,hp⟩:=l1.dT s
  cases y with
  |tup ys=>
   obtain⟨k,h1,h2⟩:=aY e
   cases h2
   obtain⟨b,us,rfl,hb,Gh⟩:=l2.tup s
   have hv:=Ma h1 Gh
   subst hv
   exact⟨a,_,rfl,.inr ⟨_,_,_,ha,rfl,hb,rfl⟩,.inr ⟨_,ha⟩,Hu hp⟩
  |_=>cases e
 |_=>cases e
def dW:D->D->Option D
 |.lst ds,.int i=>atI ds i
 |.tup ds,.int i=>atI ds i
 |.str x,.int i=>if x.length<=16777216 then(atI x.cps.toList i).bind λc=>some (.str ⟨#[c]⟩)else none
 |_,_=>none
theorem tK:ky K ct n m (n-1) (JS K) dW:=by
 intro F H x y d1 d2 d Q s l1 l2 e w
 cases d1 with
 |lst ds=>
  cases d2 with
  |int i=>
   obtain⟨a,vs,rfl,ha,hp⟩:=l1.lst s
   obtain⟨v,h1,h2⟩:=hp.atI e
   exact .inl ⟨a,vs,i,v,rfl,l2.int,ha,h1,w v F H (.refl s) h2⟩
  |_=>cases e
 |tup ds=>
  cases d2 with
  |int i=>
   obtain⟨a,vs,rfl,ha,hp⟩:=l1.tup s
   obtain⟨v,h1,h2⟩:=hp.atI e
   exact .inr (.inl ⟨a,vs,i,v,rfl,l2.int,gY.of ha,h1,w v F H (.refl s) h2⟩)
  |_=>cases e
 |str z=>
  cases d2 with
  |int i=>
   unfold dW at e
   dsimp only at e
   by_cases h:z.length<=16777216
   ·rw[if_pos h]at e
    obtain⟨c,h1,h2⟩:=aY e
    cases h2
    exact .inr (.inr ⟨z,i,c,l1.str,l2.int,by rw[cn];exact h,h1,w _ F H (.refl s) (Al.of (.str _))⟩)
   ·rw[if_neg h]at e;cases e
  |_=>cases e
 |_=>cases e
theorem CD {ms:List Mo}{o e:Expr}{f g:EF}{dz d5:cD}(hu:X.A.units+1<iM)(ho:XE X ct ms n o f)(he:XE X ct ms m e g)(h1:M1 X o "get" dz e d5):XE X ct ms (n-1) (.Call (.Attribute o "get" dz) [e] [] d5) (λρ=>(f ρ).bind λx=>(g ρ).bind λy=>(ig x y).bind λr=>some (r.getD .non)):=by
 obtain⟨ta,pa,qa⟩:=ho
 obtain⟨tb,pb,qb⟩:=he
 refine⟨_,S3 hu pa pb h1,λF0 B F H ρ σ d Q rs e w=>?_⟩
 obtain⟨d1,d2,e1,e2,e3⟩:=dL e
 obtain⟨r,e4,e5⟩:=aY e3
 cases e5
 refine qa F0 B F H ρ σ d1 _ rs e1 λx F1 H1 x1 l1=>?_
 have:∃a,x=.ref a/\CU H1 a:=by
  cases d1 with
  |dK ks ds=>obtain⟨a,vs,rfl,ha,_⟩:=l1.dK x1.fh;exact⟨a,rfl,.inl ⟨_,.inl ha⟩⟩
  |dT ks ds=>obtain⟨a,vs,rfl,ha,_⟩:=l1.dT x1.fh;exact⟨a,rfl,.inr ⟨_,ha⟩⟩
  |_=>cases e4
 obtain⟨a,rfl,OQ⟩:=this
 refine⟨a,rfl,OQ,qb F0 B F1 H1 ρ σ d2 _ (rs.ext x1) e2 λy F2 H2 x2 l2=>?_⟩
 obtain⟨a',o,ea,gg,_,h⟩:=Mb (r:=r) x2.fh (l1.mono x2.ff x2.hh) l2 e4
 cases ea
 refine⟨o,gg,?_⟩
 cases r with
 |none=>rw[h.none_of];exact w _ F2 H2 (x1.trans x2) (Al.of .non)
 |some d=>obtain⟨u,rfl,Jm⟩:=h.some_of;exact w _ F2 H2 (x1.trans x2) Jm
def eG:List D->Option D
 |[.lst ds]=>some (.int ds.length)
 |[.tup ds]=>some (.int ds.length)
 |[.dK ks _]=>some (.int ks.length)
 |[.str x]=>if x.length<=16777216 then some (.int x.length)else none
 |_=>none
def Ca (K:aa):List V->Hp->VK->Prop:=λxs H Q=>(∃p ys,xs=[.ref p]/\(fm K H p ys\/gY K H p ys)/\Q (.int ys.length) H)\/(∃z,xs=[.str z]/\z.length<=sizeLine/\Q (.int z.length) H)\/∃a bU,xs=[V.ref a]/\H a=some (.dK bU)/\Q (.int bU.length) H
theorem SU:eo X (.builtin "len") (Ca X.K):=Rx.or (Ry.or SI)
theorem Ur:tR K ct [n] k (Ca K) eG:=by
 intro F H vs ds d Q s l e w
 cases l with
 |cons h t=>
  cases t
  rename_i d1 v
  cases d1 with
  |lst xs=>
   cases e
   obtain⟨a,us,rfl,ha,hp⟩:=h.lst s
   refine .inl ⟨a,us,rfl,.inl ha,?_⟩
   rw[←hp.length]
   exact w _ F H (.refl s) (Al.of (.int _))
  |tup xs=>
   cases e
   obtain⟨a,us,rfl,ha,hp⟩:=h.tup s
   refine .inl ⟨a,us,rfl,.inr (gY.of ha),?_⟩
   rw[←hp.length]
   exact w _ F H (.refl s) (Al.of (.int _))
  |str x=>
   unfold eG at e
   dsimp only at e
   by_cases hz:x.length<=16777216
   ·rw[if_pos hz]at e
    cases e
    exact .inr (.inl ⟨x,by rw[h.str],by rw[cn];exact hz,w _ F H (.refl s) (Al.of (.int _))⟩)
   ·rw[if_neg hz]at e;cases e
  |dK ks xs=>
   cases e
   obtain⟨a,us,rfl,ha,hl,hp⟩:=h.dK s
   refine .inr (.inr ⟨a,_,rfl,ha,?_⟩)
   rw[d7,←hl,kn]
   exact w _ F H (.refl s) (Al.of (.int _))
  |_=>cases e
end
end L3
namespace L3
open PySem PySem.Spec L2
open PyProof.Rows hiding St
section
variable {ct:Nat->af}{K:aa}
theorem W2 {ι:Type}{Xs:ι->Cx}{ms:List Mo}{n:Nat}{e:Expr}{f:EF}(hK:∀i,(Xs i).K=K)(h:∀i,XO (Xs i) ct ms n e f):∃t,(∀i,PE (Xs i) e t)/\∀(F0 B F H:Hp) (ρ:Env) (σ:St) (d:D) (Q:VK),RS K ct F0 B ms F H ρ σ->f ρ=some d ->
  (∀v F' H' fp,eS F H F' H'->Ow K ct F' H' n d v fp->fp.Nodup->(∀a∈fp,H a=none)->Q v H')->t σ H Q:=by
 refine⟨λσ H Q=>∀i,(h i).choose σ H Q,λi ah s σ H Q I q=>(h i).choose_spec.1 ah s σ H Q I (q i),λF0 B F H ρ σ d Q rs e w i=>?_⟩
 exact(h i).choose_spec.2 F0 B F H ρ σ d Q (by rw[hK i];exact rs) e λv F' H' fp x l=>w v F' H' fp x (by rw[←hK i];exact l)
def tU (X:Cx)(ct:Nat->af)(ms:List Mo)(ifs:List Expr)(f:BF):Prop:=∃t,sI X ifs t/\∀(F0 B F H:Hp) (ρ:Env) (σ:St) (b:Bool) (Q:Bool->Hp->Prop),RS X.K ct F0 B ms F H ρ σ->f ρ=some b->(∀F' H',eS F H F' H'->Q b H')->t σ H Q
def fu:BF:=λ_=>some true
theorem w6 {X:Cx}{ms:List Mo}:tU X ct ms [] fu:=⟨_,UN,λF0 B F H ρ σ b Q rs e w=>by cases e;exact w F H (.refl rs.fh)⟩
theorem HB {X:Cx}{ms:List Mo}{c:Expr}{p:BF}(h:XT X ct ms c p):tU X ct ms [c] p:=by
 obtain⟨t,pt,qt⟩:=h
 exact⟨t,UO pt,qt⟩
theorem W3 {ι:Type}{Xs:ι->Cx}{ms:List Mo}{ifs:List Expr}{f:BF}(hK:∀i,(Xs i).K=K)(h:∀i,tU (Xs i) ct ms ifs f):∃t,(∀i,sI (Xs i) ifs t)/\∀(F0 B F H:Hp) (ρ:Env) (σ:St) (b:Bool) (Q:Bool->Hp->Prop),RS K ct F0 B ms F H ρ σ->f ρ=some b ->
  (∀F' H',eS F H F' H'->Q b H')->t σ H Q:=by
 refine⟨λσ H Q=>∀i,(h i).choose σ H Q,λi ah s σ H Q I q=>(h i).choose_spec.1 ah s σ H Q I (q i),λF0 B F H ρ σ d Q rs e w i=>?_⟩
 exact(h i).choose_spec.2 F0 B F H ρ σ d Q (by rw[hK i];exact rs) e w
def tf {α:Type}(g:α->St->Hp->(St->Hp->Prop)->Prop):Prop:=∀v σ H Q Q',(∀σ' H',Q σ' H'->Q' σ' H')->g v σ H Q->g v σ H Q'
def rz (X:Cx)(ct:Nat->af)(ms:List Mo)(own n:Nat)(tg:Expr)(g:D->Env->Option Env):Prop:=∃t,PG X tg t/\fC own t/\tf t/\∀(F0 B F H:Hp) (ρ ρ':Env) (σ:St) (d:D) (v:V) (Q:St->Hp->Prop),RS X.K ct F0 B ms F H ρ σ->Al X.K ct F B n d v->g d ρ=some ρ' ->
 (∀σ',RS X.K ct F0 B ms F H ρ' σ'->Q σ' H)->t v σ H Q
theorem W4 {ι:Type}{Xs:ι->Cx}{ms:List Mo}{own n:Nat}{tg:Expr}{g:D->Env->Option Env}(hK:∀i,(Xs i).K=K)(h:∀i,rz (Xs i) ct ms own n tg g):∃t,(∀i,PG (Xs i) tg t)/\fC own t/\∀(F0 B F H:Hp) (ρ ρ':Env) (σ:St) (d:D) (v:V) (Q:St->Hp->Prop),RS K ct F0 B ms F H ρ σ->Al K ct F B n d v->g d ρ=some ρ' ->
  (∀σ',RS K ct F0 B ms F H ρ' σ'->Q σ' H)->t v σ H Q:=by
 refine⟨λv σ H Q=>∀i,(h i).choose v σ H Q,λi ah s σ H v u Q I r q=>(h i).choose_spec.1 ah s σ H v u Q I r (q i),λv σ H Q q i=>(h i).choose_spec.2.1 v σ H Q (q i),λF0 B F H ρ ρ' σ d v Q rs l e w i=>?_⟩
 exact(h i).choose_spec.2.2.2 F0 B F H ρ ρ' σ d v Q (by rw[hK i];exact rs) (by rw[hK i];exact l) e λσ' r=>w σ' (by rw[←hK i];exact r)
theorem TN {X:Cx}{ms:List Mo}{own i:Nat}{x:aR}{pos:cD}(ho:i<own)(hm:ms[i]?=some (.ow 0))(hN:X.N.Nodup)(hi:X.N[i]?=some x)(hx:Loc X.env.scope x)
  (hf:X.fn x=true\/X.env.scope.names.lookup x=some .local:=by first|exact .inl rfl|exact .inr rfl|assumption):rz X ct ms own 0 (.Name x pos) (gV i):=by
 refine⟨_,LK hN hi hx hf,Sg i own ho,λv σ H Q Q' m q=>m _ _ q,λF0 B F H ρ ρ' σ d v Q rs l e w=>?_⟩
 cases e
 exact w _ (rs.set hm (.refl rs.fh) (Ow.zero l) bz λa z=>(by cases z))
def vK (own:Nat)(g:sJ):Prop:=∀v σ H Q,g v σ H Q->g v σ H λσ' H'=>Q σ' H'/\σ'.length = σ.length/\∀i,own<=i->σ'[i]? = σ[i]?
def rA (X:Cx)(ct:Nat->af)(ms:List Mo)(own n:Nat)(jI:List Expr)(g:List D->Env->Option Env):Prop:=∃t,wK X jI t/\vK own t/\tf t/\(∀ds ρ ρ',g ds ρ=some ρ'->ds.length=jI.length)/\∀(F0 B F H:Hp) (ρ ρ':Env) (σ:St) (ds:List D) (vs:List V) (Q:St->Hp->Prop),RS X.K ct F0 B ms F H ρ σ->Pr (Al X.K ct F B n) ds vs->g ds ρ=some ρ' ->
 (∀σ',RS X.K ct F0 B ms F H ρ' σ'->Q σ' H)->t vs σ H Q
theorem TQ {X:Cx}{ms:List Mo}{own n:Nat}:rA X ct ms own n [] gsNil:=by
 refine⟨_,LL,λv σ H Q q=>⟨q.1,q.2,rfl,λ_ _=>rfl⟩,λv σ H Q Q' m q=>⟨q.1,m _ _ q.2⟩,λds ρ ρ' e=>?_,λF0 B F H ρ ρ' σ ds vs Q rs l e w=>?_⟩
 ·cases ds with
  |nil=>rfl
  |cons d ds=>cases e
 ·cases l with
  |nil=>cases e;exact⟨rfl,w σ rs⟩
  |cons _ _=>cases e
theorem KN {X:Cx}{ms:List Mo}{own n:Nat}{tg:Expr}{jI:List Expr}{gg:D->Env->Option Env}{gs:List D->Env->Option Env}(h1:rz X ct ms own n tg gg)(h2:rA X ct ms own n jI gs)
  (hs:(cK (tg::jI) X.env).map (·.2)=fW tg X.env::(cK jI X.env).map (·.2):=by rfl):rA X ct ms own n (tg::jI) (gsCons gg gs):=by
 obtain⟨t,pt,kt,mt,qt⟩:=h1
 obtain⟨t2,lK,OT,JC,Bt,oX⟩:=h2
 refine⟨_,Lu pt lK hs,λvs σ H Q q=>?_,λvs σ H Q Q' m q=>?_,λds ρ ρ' e=>?_,λF0 B F H ρ ρ' σ ds vs Q rs l e w=>?_⟩
 ·obtain⟨v,r,e,q⟩:=q
  refine⟨v,r,e,mt _ _ _ _ _ (λσ' H' z=>?_) (kt v σ H _ q)⟩
  obtain⟨z1,z2,z3⟩:=z
  refine JC _ _ _ _ _ (λσ2 H2 y=>?_) (OT r σ' H' Q z1)
  exact⟨y.1,y.2.1.trans z2,λi hi=>(y.2.2 i hi).trans (z3 i hi)⟩
 ·obtain⟨v,r,e,q⟩:=q
  exact⟨v,r,e,mt _ _ _ _ _ (λσ' H' z=>JC _ _ _ _ _ m z) q⟩
 ·cases ds with
  |nil=>cases e
  |cons d ds=>
   obtain⟨ρ1,h3,h4⟩:=aY e
   rw[aP,aP,Bt _ _ _ h4]
 ·cases l with
  |nil=>cases e
  |cons h t'=>
   obtain⟨ρ1,h3,h4⟩:=aY e
   exact⟨_,_,rfl,qt F0 B F H ρ ρ1 σ _ _ _ rs h h3 λσ1 r1=>oX F0 B F H ρ1 ρ' σ1 _ _ _ r1 t' h4 w⟩
theorem Us {X:Cx}{ms:List Mo}{own n:Nat}{jI:List Expr}{j:Nat}{pos:cD}{gs:List D->Env->Option Env}(hc:X.calm=true)(h:rA X ct ms own (n-1) jI gs)(hl:(cK jI X.env).length=jI.length:=by rfl)(m8:(cK jI X.env).findIdx? (·.1)=none:=by rfl):rz X ct ms own n (.Tuple jI j pos) (gT gs):=by
 obtain⟨t,pt,kt,mt,lt,qt⟩:=h
 refine⟨_,Mu (n:=jI.length) hc pt hl m8,λv σ H Q q=>?_,λv σ H Q Q' m q=>?_,λF0 B F H ρ ρ' σ d v Q rs l e w=>?_⟩
 ·obtain⟨a,xs,e,h1,h2,q⟩:=q
  exact⟨a,xs,e,h1,h2,kt _ _ _ _ q⟩
 ·obtain⟨a,xs,e,h1,h2,q⟩:=q
  exact⟨a,xs,e,h1,h2,mt _ _ _ _ _ m q⟩
 cases d with
 |tup ds=>
  have:∃a vs,v=.ref a/\gY X.K H a vs/\Pr (Al X.K ct F B (n-1)) ds vs:=by
   cases n with
   |zero=>
    have l:Dt X.K ct F (.tup ds) v:=l
    cases l with
    |tup q t=>exact⟨_,_,rfl,gY.of (rs.fh _ _ q),t.pr⟩
   |succ n=>
    rcases l with l|l
    ·cases l with
     |tup q t=>exact⟨_,_,rfl,gY.of (rs.fh _ _ q),t.pr.mono λ_ _=>Al.of⟩
    ·cases l with
     |tup q t=>exact⟨_,_,rfl,gY.of (rs.fh _ _ q),t⟩
  obtain⟨a,vs,rfl,ha,hp⟩:=this
  exact⟨a,vs,rfl,ha,hp.length.symm.trans (lt _ _ _ e),qt F0 B F H ρ ρ' σ ds vs Q rs hp e w⟩
 |_=>cases e
def gj (ρ:Env)(cap:List Nat):Env:=cap.map λi=>(ρ[i]?).join
def gk (ms:List Mo)(cap:List Nat):List Mo:=cap.map λi=>.al (((ms[i]?).map Mo.lv).getD 0)
def lT (g:D->Env->Option Env)(p:BF)(f:EF)(ρ0:Env):List D->Option (List D)
 |[]=>some []
 |d::ds=>(g d ρ0).bind λρ1=>(p ρ1).bind λb=>if b=true then(f ρ1).bind λy=>(lT g p f ρ0 ds).bind λys=>some (y::ys)else lT g p f ρ0 ds
def d6 (fi:Env->Option (List D))(own:Nat)(cap:List Nat)(g:D->Env->Option Env)(p:BF)(f:EF):EF:=λρ=>(fi ρ).bind λds=>if ds.length<=16777216 then(lT g p f (aG own none++gj ρ cap) ds).bind λys=>some (.lst ys)else none
theorem SL.caps {F B H:Hp}{ms:List Mo}{ρ:Env}{σ:St}(rs:RS K ct F0 B ms F H ρ σ):∀{cap:List Nat},(∀i∈cap,i<ms.length)->SL K ct F H H (gk ms cap) (gj ρ cap) (fx σ cap) []
 |[],_=>.nil
 |i::cap,h=>by
  have ih:=SL.caps rs (cap:=cap) λj hj=>h j (ap _ hj)
  have hi:i<ms.length:=h i am
  have hm:ms[i]?=some ms[i]:=by simp[hi]
  show SL K ct F H H (.al (((ms[i]?).map Mo.lv).getD 0)::gk ms cap) ((ρ[i]?).join::gj ρ cap) ((σ[i]?).join::fx σ cap) []
  cases e:(ρ[i]?).join with
  |none=>exact .no ih
  |some d=>
   obtain⟨v,hv,l⟩:=rs.get hm (wf e)
   rw[hv,hm]
   exact .al l ih
theorem SL.nones {F B H:Hp}{ms GF:List Mo}{ρ:Env}{σ:St}{fp:List af}(t:SL K ct F B H ms ρ σ fp):∀{om:List Mo},SL K ct F B H (om++ms) (aG om.length none ++ ρ) (aG om.length none ++ σ) fp
 |[]=>t
 |m::om=>.no (SL.nones (GF:=GF) t)
theorem LD {X:Cx}{ms om:List Mo}{n k:Nat}{iP iter tg:Expr}{ifs:List Expr}{scope:fv}{pos:cD}{N:List aR}{own:Nat}{cap:List Nat}{fi:Env->Option (List D)}{gg:D->Env->Option Env}{p:BF}{f:EF}
  (B:jK X scope N own cap) (hc:X.calm=true) (ho:om.length=own) (my:∀i∈cap,i<ms.length) (hi:qW X ct ms n tg iter fi)
  (hg:∀cl C fp s₀ H₀,rz (gM X scope cl N C fp s₀ H₀) ct (om++gk ms cap) own n tg gg) (ht:∀cl C fp s₀ H₀,tU (gM X scope cl N C fp s₀ H₀) ct (om++gk ms cap) ifs p) (he:∀cl C fp s₀ H₀,XO (gM X scope cl N C fp s₀ H₀) ct (om++gk ms cap) k iP f)
  :
  ∃wi g tt te,PI X tg iter wi/\fC own g/\(∀cl C fp s₀ H₀,PG (gM X scope cl N C fp s₀ H₀) tg g)/\(∀cl C fp s₀ H₀,sI (gM X scope cl N C fp s₀ H₀) ifs tt)/\(∀cl C fp s₀ H₀,PE (gM X scope cl N C fp s₀ H₀) iP te) /\
   ∀(F0 B F H:Hp) (ρ:Env) (σ:St) (d:D) (Q:VK),RS X.K ct F0 B ms F H ρ σ->d6 fi own cap gg p f ρ=some d->(∀v F' H' fp,eS F H F' H'->Ow X.K ct F' H' (k+1) d v fp->fp.Nodup->(∀a∈fp,H a=none)->Q v H')->oG wi own cap g tt te σ H Q:=by
 obtain⟨wi,pi,qi⟩:=hi
 obtain⟨J0,pg,kg,qg⟩:=W4 (K:=X.K) (Xs:=λz:List (aR×af)×af×List af×ak×Hp=>gM X scope z.1 N z.2.1 z.2.2.1 z.2.2.2.1 z.2.2.2.2) (λ_=>rfl) (λz=>hg z.1 z.2.1 z.2.2.1 z.2.2.2.1 z.2.2.2.2)
 obtain⟨tt,pt,qt⟩:=W3 (K:=X.K) (Xs:=λz:List (aR×af)×af×List af×ak×Hp=>gM X scope z.1 N z.2.1 z.2.2.1 z.2.2.2.1 z.2.2.2.2) (λ_=>rfl) (λz=>ht z.1 z.2.1 z.2.2.1 z.2.2.2.1 z.2.2.2.2)
 obtain⟨te,pe,qe⟩:=W2 (K:=X.K) (Xs:=λz:List (aR×af)×af×List af×ak×Hp=>gM X scope z.1 N z.2.1 z.2.2.1 z.2.2.2.1 z.2.2.2.2) (λ_=>rfl) (λz=>he z.1 z.2.1 z.2.2.1 z.2.2.2.1 z.2.2.2.2)
 refine⟨wi,J0,tt,te,pi,kg,(λcl C fp s₀ H₀=>pg (cl,C,fp,s₀,H₀)),(λcl C fp s₀ H₀=>pt (cl,C,fp,s₀,H₀)),(λcl C fp s₀ H₀=>pe (cl,C,fp,s₀,H₀)),λF0 B F H ρ σ r Q rs e w=>?_⟩
 obtain⟨ds,h1,h2⟩:=aY e
 by_cases hz:ds.length<=16777216
 case neg=>rw[if_neg hz]at h2;cases h2
 rw[if_pos hz]at h2
 obtain⟨ys,h3,h4⟩:=aY h2
 cases h4
 refine qi F0 B F H ρ σ ds _ rs h1 λJ F1 H1 x1 ok A hA=>?_
 have kR:=rs.ext x1
 refine⟨λi m us H2=>m=ds.length-i/\i<=ds.length/\us.length<=i/\H2 A=some (.lst us)/\∃F2 yd zd fp,eS F1 H1 F2 H2/\F2 A=none/\eE (Ow X.K ct F2 H2 k) yd us fp/\fp.Nodup/\(∀a∈fp,H1 a=none/\a≠A)/\lT gg p f (aG own none++gj ρ cap) (ds.drop i)=some zd/\yd++zd=ys,
  ⟨ds.length,rfl,cC _,av _,yf,F1,[],ys,[],eS.newO x1.fh hA _,x1.fh.free hA,.nil,bz,λa z=>(by cases z),h3,rfl⟩,?_⟩
 rintro i m us H2 ⟨rfl,sR,OL,C9,F2,yd,zd,fp,x2,fA,ol,nd,hf,jD,Dr⟩
 refine⟨C9,?_⟩
 have P8:=kR.ext x2
 obtain⟨k1,k2⟩:=ok i F2 H2 x2.ff x2.hh x2.fh
 by_cases lz:i<ds.length
 ·right
  have hd:ds[i]?=some ds[i]:=by simp[lz]
  obtain⟨go,yl⟩:=k1 _ hd
  rw[lO lz]at jD
  obtain⟨ρ1,h5,h6⟩:=aY jD
  obtain⟨b,h7,h8⟩:=aY h6
  refine⟨go,by rw[cn];omega,λx H3 y=>?_⟩
  obtain⟨F3,x3,l⟩:=yl x H3 y
  have P9:=P8.ext x3
  have sl:=SL.nones (GF:=[]) (SL.caps P9 my) (om:=om)
  rw[ho]at sl
  have Qa:RS X.K ct F3 H3 (om++gk ms cap) F3 H3 (aG own none++gj ρ cap) (aG own none++fx σ cap):=⟨.refl _,.refl _,x3.fh,λ_ _ _ _ h=>h,[],sl,bz,λa z=>(by cases z)⟩
  have A3:H3 A=some (.lst us):=x3.hh _ _ C9
  have IN:F3 A=none:=x3.nf A _ C9 nofun fA
  refine qg F3 H3 F3 H3 _ ρ1 _ _ x _ Qa (l.mono (.refl _) (x2.trans x3).hh) h5 λσ1 r1=>?_
  refine qt F3 H3 F3 H3 ρ1 σ1 b _ r1 h7 λF4 H4 x4=>?_
  cases b with
  |false=>
   rw[if_neg aX]at h8 ⊢
   have J9:=x3.trans x4
   refine⟨ds.length-(i+1),by omega,rfl,lz,by omega,x4.hh _ _ A3,F4,yd,zd,fp,x2.trans J9,x4.nf A _ A3 nofun IN,ol.mono λ_ _ _ _ o=>o.ext J9,nd,hf,h8,Dr⟩
  |true=>
   rw[if_pos rfl]at h8 ⊢
   obtain⟨yv,h9,N4⟩:=aY h8
   obtain⟨zs,N5,N6⟩:=aY N4
   cases N6
   refine qe F3 H3 F4 H4 ρ1 σ1 yv _ (r1.ext x4) h9 λv F5 H5 f5 x5 o5 n5 FT=>?_
   have G9:=(x3.trans x4).trans x5
   have Ka:=x4.trans x5
   have A5:H5 A=some (.lst us):=Ka.hh _ _ A3
   have IP:F5 A=none:=Ka.nf A _ A3 nofun IN
   have A4:H4 A=some (.lst us):=x4.hh _ _ A3
   have IS:∀a∈f5,a≠A:=λa z e=>by rw[e]at z;rw[FT A z]at A4;cases A4
   refine⟨A5,ds.length-(i+1),by omega,rfl,lz,by rw[bn,fE];omega,yf,F5,yd++[yv],zs,fp++(f5++[]),?_,IP,?_,?_,?_,N5,by rw[e8];exact Dr⟩
   ·have DL:=x2.trans G9
    refine⟨DL.ff,λa o h=>?_,λa o h=>?_,DL.nf⟩
    ·rw[zy (yw h hA)];exact DL.hh _ _ h
    ·rw[zy (λz=>by rw[z]at h;rw[IP]at h;cases h)];exact DL.fh _ _ h
   ·refine(ol.mono λ_ _ f Oo o=>?_).append (.cons ?_ .nil)
    ·refine(o.ext G9).frame (.refl _) λa z=>⟨zy (hf a (Oo a z)).2,((o.ext G9).cells a z).1⟩
    ·exact o5.frame (.refl _) λa z=>⟨zy (IS a z),(o5.cells a z).1⟩
   ·rw[bQ]
    refine bo.mpr ⟨nd,n5,λa z c hc e=>?_⟩
    subst e
    have:∃o,H2 a=some o:=let⟨o,h,_⟩:=(eE.cellsOf ol a z).2;⟨o,h⟩
    obtain⟨o,ho⟩:=this
    have:=x4.hh _ _ (x3.hh _ _ ho)
    rw[FT a hc]at this
    cases this
   ·intro a z
    rw[bQ]at z
    rcases aM.mp z with z|z
    ·exact hf a z
    ·refine⟨?_,IS a z⟩
     have QY:=x2.trans (x3.trans x4)
     exact QY.hh.free (FT a z)
 ·left
  refine⟨k2 (by omega),?_⟩
  have:ds.drop i=[]:=mN (by omega)
  rw[this]at jD
  cases jD
  rw[bQ]at Dr
  subst Dr
  refine w _ F2 H2 (A::fp) (x1.trans x2) (.inr (.lst fA C9 ol)) (bH.mpr ⟨λz=>(hf A z).2 rfl,nd⟩) λa z=>?_
  rcases aA.mp z with rfl|z
  ·exact x1.hh.free hA
  ·exact x1.hh.free (hf a z).1
theorem Ut {X:Cx}{ms om:List Mo}{n k:Nat}{iP iter tg:Expr}{ifs:List Expr}{scope:fv}{pos:cD}{N:List aR}{own:Nat}{cap:List Nat}{fi:Env->Option (List D)}{gg:D->Env->Option Env}{p:BF}{f:EF}
  (B:jK X scope N own cap) (hc:X.calm=true) (ho:om.length=own) (my:∀i∈cap,i<ms.length) (hi:qW X ct ms n tg iter fi)
  (hg:∀cl C fp s₀ H₀,rz (gM X scope cl N C fp s₀ H₀) ct (om++gk ms cap) own n tg gg) (ht:∀cl C fp s₀ H₀,tU (gM X scope cl N C fp s₀ H₀) ct (om++gk ms cap) ifs p) (he:∀cl C fp s₀ H₀,XO (gM X scope cl N C fp s₀ H₀) ct (om++gk ms cap) k iP f)
  (hs:∀x,dq iter X.env x=pure x:=by intro _;rfl):XO X ct ms (k+1) (.ListComp iP [⟨tg,iter,ifs,0⟩] scope pos) (d6 fi own cap gg p f):=by
 obtain⟨wi,g,tt,te,pi,kg,pg,pt,pe,q⟩:=LD (k:=k) (pos:=pos) B hc ho my hi hg ht he
 exact⟨_,UP B hc pi kg pg pt pe hs,q⟩
end
end L3
namespace L3
open PySem PySem.Spec L2
open PyProof.Rows hiding St
section
variable {X:Cx}{ct:Nat->af}{ms:List Mo}{rk n m k:Nat}{st:bN}{rest:List bN}{a b c e tg:Expr}{f g h:EF}{p q:BF}{u w:SF}{pos:cD}
def C1:D->Option (List D)
 |.lst ds=>some ds
 |_=>none
def EK:D->Option (List D)
 |.tup ds=>some ds
 |_=>none
theorem Hv {d:D}{ds:List D}(h:C1 d=some ds):d=.lst ds:=by cases d<;>simp[C1]at h;subst h;rfl
theorem TR {d:D}{ds:List D}(h:EK d=some ds):d=.tup ds:=by cases d<;>simp[EK]at h;subst h;rfl
def lsD (f:EF):Env->Option (List D):=λρ=>(f ρ).bind C1
def J3 (f:EF):Env->Option (List D):=λρ=>(f ρ).bind EK
theorem MG {K:aa}{F B G:Hp}{a:af}{vs:List V}{ds:List D}(hp:Pr (Al K ct F B n) ds vs)(keep:∀F' H',bJ F F'->bJ B H'->bJ F' H'->fm K H' a vs):nS K ct F B n (Ey K a) ds:=by
 intro i F' H' s1 s2 s3
 have hs:fm K H' a vs:=keep F' H' s1 s2 s3
 refine⟨λd hd=>?_,λhl=>⟨vs,hs,by rw[←hp.length];exact hl⟩⟩
 obtain⟨v,hv,l⟩:=hp.get' hd
 refine⟨⟨vs,v,hs,hv⟩,λx H2 y=>?_⟩
 obtain⟨e,y⟩:=y
 subst e
 have:=y vs hs
 rw[hv]at this
 cases this
 exact⟨F',.refl s3,l.mono s1 (.refl _)⟩
theorem Dt.lst_inv {K:aa}{F:Hp}{ds:List D}{v:V}(h:Dt K ct F (.lst ds) v):∃a vs,v=.ref a/\fm K F a vs/\Dts K ct F ds vs:=by
 cases h with
 |lst q t=>exact⟨_,_,rfl,q,t⟩
theorem v6 (he:XE X ct ms 0 e f):XI X ct ms 0 tg e (lsD f):=by
 obtain⟨t,pt,qt⟩:=he
 refine⟨_,LM pt,λF0 B F H ρ σ ds R rs e w=>?_⟩
 obtain⟨d,h1,h2⟩:=aY e
 rw[Hv h2]at h1
 refine qt F0 B F H ρ σ _ _ rs h1 λv F' H' x l=>?_
 obtain⟨a,vs,rfl,ha,hp⟩:=Dt.lst_inv l
 exact⟨a,rfl,⟨vs,x.fh.seq ha⟩,w _ F' H' x (MG (G:=H') (n:=0) (hp.pr) λF2 H2 s1 s2 s3=>s3.seq (s1.seq ha))⟩
theorem CA (he:XE X ct ms n e f):qW X ct ms (n-1) tg e (lsD f):=by
 obtain⟨t,pt,qt⟩:=he
 refine⟨_,LM pt,λF0 B F H ρ σ ds R rs e w=>?_⟩
 obtain⟨d,h1,h2⟩:=aY e
 rw[Hv h2]at h1
 refine qt F0 B F H ρ σ _ _ rs h1 λv F' H' x l=>?_
 obtain⟨a,vs,rfl,ha,hp⟩:=l.lst x.fh
 exact⟨a,rfl,⟨vs,ha⟩,w _ F' H' x (MG (G:=H') hp λF2 H2 s1 s2 s3=>s2.seq ha)⟩
theorem XI.cc {fi:Env->Option (List D)}(h:XI X ct ms n tg e fi):qW X ct ms n tg e fi:=by
 obtain⟨t,pt,qt⟩:=h
 refine⟨t,pt,λF0 B F H ρ σ ds R rs e w=>qt F0 B F H ρ σ ds R rs e λJ F' H' x ok=>w J F' H' x λi F2 H2 s1 s2 s3=>?_⟩
 obtain⟨k1,k2⟩:=ok i F2 H2 s1 ((rs.ext x).bh.trans s2) s3
 refine⟨λd hd=>?_,k2⟩
 obtain⟨go,yl⟩:=k1 d hd
 refine⟨go,λv H3 y=>?_⟩
 obtain⟨F3,x3,l⟩:=yl v H3 y
 exact⟨F3,x3,l.mono (.refl _) (rs.ext x).bh⟩
def lL (lo:Int)(j:Nat):List D:=(aE j).map λ(t:Nat)=>.int (lo+(t:Int))
def iJ:List D->Option (List D)
 |[.int j]=>if -4611686018427387904<=j/\j<4611686018427387904 then some (lL 0 j.toNat)else none
 |_=>none
def n6:List D->Option (List D)
 |[.int i,.int j]=>if -4611686018427387904<=i/\i<4611686018427387904/\-4611686018427387904<=j/\j<4611686018427387904 then some (lL i (j-i).toNat)else none
 |_=>none
theorem MH {K:aa}{F B:Hp}{lo:Int}{j:Nat}:nS K ct F B n (xN lo j) (lL lo j):=by
 intro i F' H' s1 s2 s3
 unfold lL
 refine⟨λd hd=>?_,λhl=>(show j<=i by simpa using hl)⟩
 rw[aW]at hd
 by_cases h:i<j
 ·rw[cQ h]at hd
  cases hd
  refine⟨h,λx H2 y=>?_⟩
  obtain⟨e,y⟩:=y
  subst e
  subst y
  exact⟨F',.refl s3,Al.of (.int _)⟩
 ·rw[cX (by simpa using h)]at hd
  cases hd
theorem wq {fs:Env->Option (List D)}{pp:cD}(hm:X.mg "range"=none)(ha:XA X ct ms [a] [m] fs)(hg:Gl X "range":=by rfl)(hs:ax [a] X.env=[(false,bO a X.env)]:=by rfl):XI X ct ms n tg (.Call (.Name "range" pp) [a] [] pos) (λρ=>(fs ρ).bind iJ):=by
 obtain⟨t,pt,_,qt⟩:=ha
 refine⟨_,Su hg hm pt hs,λF0 B F H ρ σ ds R rs e w=>?_⟩
 obtain⟨kA,h1,h2⟩:=aY e
 refine qt F0 B F H ρ σ _ _ rs h1 λvs F' H' x l=>?_
 cases l with
 |cons h t=>
  cases t
  rename_i d v
  cases d with
  |int j=>
   unfold iJ at h2
   dsimp only at h2
   by_cases hj:-4611686018427387904<=j/\j<4611686018427387904
   ·rw[if_pos hj]at h2
    cases h2
    exact⟨j,by rw[h.int],by omega,by omega,w _ F' H' x MH⟩
   ·rw[if_neg hj]at h2;cases h2
  |_=>cases h2
theorem SV {fs:Env->Option (List D)}{pp:cD}{m':Nat}(hm:X.mg "range"=none)(ha:XA X ct ms [a,b] [m,m'] fs)(hg:Gl X "range":=by rfl)(hs:ax [a,b] X.env=[(false,bO a X.env),(false,bO b X.env)]:=by rfl)(p4:ax [b] X.env=[(false,bO b X.env)]:=by rfl):XI X ct ms n tg (.Call (.Name "range" pp) [a,b] [] pos) (λρ=>(fs ρ).bind n6):=by
 obtain⟨t,pt,_,qt⟩:=ha
 refine⟨_,Sv hg hm pt hs p4,λF0 B F H ρ σ ds R rs e w=>?_⟩
 obtain⟨kA,h1,h2⟩:=aY e
 refine qt F0 B F H ρ σ _ _ rs h1 λvs F' H' x l=>?_
 cases l with
 |cons h t=>
  cases t with
  |cons h' t=>
   cases t
   rename_i d v d' v'
   cases d with
   |int i=>
    cases d' with
    |int j=>
     unfold n6 at h2
     dsimp only at h2
     by_cases hj:-4611686018427387904<=i/\i<4611686018427387904/\-4611686018427387904<=j/\j<4611686018427387904
     ·rw[if_pos hj]at h2
      cases h2
      exact⟨i,j,by rw[h.int,h'.int],⟨by omega,by omega,by omega,by omega⟩,w _ F' H' x MH⟩
     ·rw[if_neg hj]at h2;cases h2
    |_=>cases h2
   |_=>cases h2
def et (i:Nat):List D->List D
 |[]=>[]
 |d::ds=>.tup [.int i,d]::et (i+1) ds
theorem DM:∀{ds:List D} {j i:Nat} {d:D},(et j ds)[i]?=some d->∃x,ds[i]?=some x/\d=.tup [.int (j+i:Nat),x]
 |[],_,_,_,h=>by simp[et]at h
 |x::ds,j,0,d,h=>by simp[et]at h;subst h;exact⟨x,rfl,rfl⟩
 |x::ds,j,i+1,d,h=>by
  obtain⟨y,h1,h2⟩:=DM (ds:=ds) (j:=j+1) (i:=i) (d:=d) (by simpa[et]using h)
  exact⟨y,by simpa using h1,by rw[h2,Nat.add_assoc,Nat.add_comm 1 i]⟩
theorem DN:∀{ds:List D} {j:Nat},(et j ds).length=ds.length
 |[],_=>rfl
 |_::ds,j=>by simp[et,DN (ds:=ds)]
theorem MI {K:aa}{F B:Hp}{a:af}{vs:List V}{ds:List D}(hp:Pr (Al K ct F B n) ds vs)(keep:∀F' H',bJ F F'->bJ B H'->bJ F' H'->fm K H' a vs):nS K ct F B (n+1) (Ex K a) (et 0 ds):=by
 intro i F' H' s1 s2 s3
 have hs:fm K H' a vs:=keep F' H' s1 s2 s3
 refine⟨λd hd=>?_,λhl=>⟨vs,hs,by rw[←hp.length];rw[DN]at hl;exact hl⟩⟩
 obtain⟨x,hx,rfl⟩:=DM hd
 obtain⟨v,hv,l⟩:=hp.get' hx
 refine⟨⟨vs,v,hs,hv⟩,λz H2 y=>?_⟩
 obtain⟨r,y',hr,rfl,rfl,y⟩:=y
 have:=y vs hs
 rw[hv]at this
 cases this
 refine⟨_,eS.newS s3 hr _,.inr (.tup yf (.cons (Al.of ?_) (.cons (l.mono (s1.trans (Cz (s3.free hr) _)) (.refl _)) .nil)))⟩
 rw[Nat.zero_add]
 exact .int _
theorem HC {fs:Env->Option (List D)}{mw:List Expr}{kt:Nat}{pt pp:cD}(hm:X.mg "enumerate"=none)(ha:XA X ct ms [a] [0] fs)(hg:Gl X "enumerate":=by rfl)(hs:ax [a] X.env=[(false,bO a X.env)]:=by rfl) :
  XI X ct ms 1 (.Tuple mw kt pt) (.Call (.Name "enumerate" pp) [a] [] pos) (λρ=>(fs ρ).bind λds=>match ds with|[.lst xs]=>some (et 0 xs)|_=>none):=by
 obtain⟨t,pt,_,qt⟩:=ha
 refine⟨_,L0 hg hm pt hs,λF0 B F H ρ σ ds R rs e w=>?_⟩
 obtain⟨kA,h1,h2⟩:=aY e
 refine qt F0 B F H ρ σ _ _ rs h1 λvs F' H' x l=>?_
 cases l with
 |cons h t=>
  cases t
  rename_i d v
  cases d with
  |lst xs=>
   cases h2
   obtain⟨a,vs,rfl,ha,hp⟩:=Dt.lst_inv h
   exact⟨a,rfl,⟨vs,x.fh.seq ha⟩,w _ F' H' x (MI (n:=0) hp.pr λF2 H2 s1 s2 s3=>s3.seq (s1.seq ha))⟩
  |_=>cases h2
theorem TU {fs:Env->Option (List D)}{mw:List Expr}{kt:Nat}{pt pp:cD}(hm:X.mg "enumerate"=none)(ha:XA X ct ms [a] [n] fs)(hg:Gl X "enumerate":=by rfl)(hs:ax [a] X.env=[(false,bO a X.env)]:=by rfl) :
  qW X ct ms (n-1+1) (.Tuple mw kt pt) (.Call (.Name "enumerate" pp) [a] [] pos) (λρ=>(fs ρ).bind λds=>match ds with|[.lst xs]=>some (et 0 xs)|_=>none):=by
 obtain⟨t,pt,_,qt⟩:=ha
 refine⟨_,L0 hg hm pt hs,λF0 B F H ρ σ ds R rs e w=>?_⟩
 obtain⟨kA,h1,h2⟩:=aY e
 refine qt F0 B F H ρ σ _ _ rs h1 λvs F' H' x l=>?_
 cases l with
 |cons h t=>
  cases t
  rename_i d v
  cases d with
  |lst xs=>
   cases h2
   obtain⟨a,vs,rfl,ha,hp⟩:=h.lst x.fh
   exact⟨a,rfl,⟨vs,ha⟩,w _ F' H' x (MI hp λF2 H2 s1 s2 s3=>s2.seq ha)⟩
  |_=>cases h2
end
end L3
namespace L3
open PySem PySem.Spec L2
open PyProof.Rows hiding St
section
variable {X:Cx}{ct:Nat->af}{ms:List Mo}{rk n m k:Nat}{st:bN}{rest:List bN}{a b c e tg:Expr}{f g h:EF}{p q:BF}{u w:SF}{pos:cD}
theorem Ow.lst_inv {K:aa}{F H:Hp}{ds:List D}{v:V}{fp:List af}(h:Ow K ct F H (k+1) (.lst ds) v fp):∃a vs fr,v=.ref a/\fp=a::fr/\F a=none/\H a=some (.lst vs)/\eE (Ow K ct F H k) ds vs fr:=by
 rcases h with⟨h,_⟩|h
 ·cases h
 ·cases h with
  |lst h1 h2 h3=>exact⟨_,_,_,rfl,rfl,h1,h2,h3⟩
theorem Ow.dK_inv {K:aa}{F H:Hp}{ks:List dv}{ds:List D}{v:V}{fp:List af}(h:Ow K ct F H (k+1) (.dK ks ds) v fp):∃a vs fr,v=.ref a/\fp=a::fr/\F a=none/\H a=some (.dK (ks.zip vs))/\ks.length=vs.length/\eE (Ow K ct F H k) ds vs fr:=by
 rcases h with⟨h,_⟩|h
 ·cases h
 ·cases h with
  |dK h1 h2 h3 h4=>exact⟨_,_,_,rfl,rfl,h1,h2,h3,h4⟩
theorem Ow.dT_inv {K:aa}{F H:Hp}{ks:List (List dv)}{ds:List D}{v:V}{fp:List af}(h:Ow K ct F H (k+1) (.dT ks ds) v fp):∃a vs fr,v=.ref a/\fp=a::fr/\F a=none/\H a=some (.dT (ks.zip vs))/\ks.length=vs.length/\eE (Ow K ct F H k) ds vs fr:=by
 rcases h with⟨h,_⟩|h
 ·cases h
 ·cases h with
  |dT h1 h2 h3 h4=>exact⟨_,_,_,rfl,rfl,h1,h2,h3,h4⟩
theorem RS.change {K:aa}{F0 B F H F' H':Hp}{ρ:Env}{σ:St}{i:Nat}{d':D}{v:V}{f1 fr fn:List af}{ad:af}{o:HO}(rs:RS K ct F0 B ms F H ρ σ)(hm:ms[i]?=some (.ow k))(x:eS F H F' H')
  (hσ:σ[i]?=some (some v)) (b1:∀a∈f1,B a=none) (dj:∀a∈f1,a∉fr) (cf:∀a∈fr,F a=none/\∃o,H a=some o/\jB o)
  (put:∀(F' H':Hp) (d':D) (v':V) (f':List af),bJ F F'->bJ B H'->bJ F' H'->(∀a o,B a=some o->jB o->F0 a=none->F' a=none)->(∀a∈fr,H' a=H a/\F' a=none)->Ow K ct F' H' k d' v' f'->f'.Nodup->(∀a∈f',a∉fr)->(∀a∈f',B a=none) ->
    RS K ct F0 B ms F' H' (ρ.set i (some d')) (σ.set i (some v')))
  (IV:ad∈f1) (NU:F' ad=none) (o':Ow K ct F' (upd H' ad o) k d' v fn) (nd:fn.Nodup) (wR:∀a∈fn,a∈f1\/H a=none):RS K ct F0 B ms F' (upd H' ad o) (ρ.set i (some d')) σ:=by
 have r:=rs.ext x
 have hB:B ad=none:=b1 ad IV
 have res:=put F' (upd H' ad o) d' v fn x.ff (λz u h=>by rw[zy (λe=>by rw[e,hB]at h;cases h)];exact r.bh _ _ h) (λz u h=>by rw[zy (λe=>by rw[e,NU]at h;cases h)];exact x.fh _ _ h) r.nf
  (λz hz=>by
   obtain⟨hn,o,ho,nt⟩:=cf z hz
   refine⟨?_,x.nf z o ho nt hn⟩
   have ne:z≠ad:=λe=>dj ad IV (by rw[←e];exact hz)
   rw[zy ne]
   exact(x.hh _ _ ho).trans ho.symm) o' nd
  (λz hz zr=>by
   rcases wR z hz with h|h
   ·exact dj z h zr
   ·obtain⟨_,o,ho,nt⟩:=cf z zr
    rw[h]at ho
    cases ho)
  (λz hz=>(wR z hz).elim (b1 z) λh=>rs.bh.free h)
 have e:σ.set i (some v) = σ:=by
  apply eh
  intro j
  by_cases hj:i=j
  ·subst hj
   rw[ip (by
    have:=aQ.mp hσ
    exact this.1),hσ]
  ·rw[fL hj]
 rw[e]at res
 exact res
def sApp (i:Nat)(f:EF):SF:=λρ=>(eV i ρ).bind λo=>(f ρ).bind λd=>match o with
 |.lst ds=>if ds.length<16777216 then some (.nx (ρ.set i (some (.lst (ds++[d])))))else none
 |_=>none
theorem jq (i:Nat){x:aR}{p1 dz d5:cD}(hm:ms[i]?=some (.ow (k+1)))(he:XO X ct ms k e f)(hN:X.N[i]?=some x:=by rfl)(hv:pC X.env.scope x:=by first|exact Or.inl rfl|exact Or.inr (Or.inl rfl)|exact Or.inr (Or.inr rfl))(hd:(x==("__debug__":aR))=false:=by decide)
  (jD:(x==("__classdict__":aR))=false:=by decide) (m8:ax [e] X.env=(false,bO e X.env)::ax [] X.env:=by rfl)
  (pS:eY (.Name x p1) "append" X.env (bO (.Name x p1) X.env)=bO (.Name x p1) X.env:=by rfl)
  (vA:((cB d5 (ax [e] X.env)).all (λx=>!x.1)&&(eZ d5 (dD [] X.env)).all (λx=>x.1.isSome)
   && decide ([e].length+([]:List ir).length+(if([]:List ir).isEmpty then 0 else 1)<30))=true:=by rfl)
  (pY:(dz.endLine==d5.line)=true:=by rfl) (nZ:(cB d5 (ax [] X.env)).any (·.1)=false:=by rfl)
  (vH:eA (.Call (.Attribute (.Name x p1) "append" dz) [e] [] d5) none pos.line X.env=pure false:=by rfl) :
  XS X ct ms rk (.Expr (.Call (.Attribute (.Name x p1) "append" dz) [e] [] d5) pos) (sApp i f):=by
 obtain⟨t,pt,qt⟩:=he
 refine⟨_,LJ (WU PySem.F.plainAttrs_list PySem.F.slot_list_append PySem.F.type_list_append Hi (sg hN hv hd jD) (u5 pt xD m8) pS vA pY m8 nZ) vH,λF0 B F H ρ σ o E rs e z=>?_⟩
 obtain⟨d1,d2,h1,h2,h3⟩:=dL e
 obtain⟨f1,fr,n1,b1,dj,i4,cf,put⟩:=rs.put (F':=F) (H':=H) hm
 obtain⟨v,hσ,ow⟩:=i4 d1 (wf h1)
 refine⟨v,hσ,?_⟩
 cases d1 with
 |lst ds=>
  dsimp only at h3
  by_cases hz:ds.length<16777216
  ·rw[if_pos hz]at h3
   cases h3
   obtain⟨ad,vs,sM,rfl,rfl,hF,hH,ol⟩:=ow.lst_inv
   refine⟨.inl ⟨rfl,_,fm.of hH⟩,qt F0 B F H ρ σ d2 _ rs h2 λv2 F' H' fp x1 o2 OV FR=>?_⟩
   have hA:H' ad=some (.lst vs):=x1.hh _ _ hH
   have fA:F' ad=none:=x1.nf ad _ hH nofun hF
   have nA:∀a∈fp,a≠ad:=λa hz e=>by rw[e]at hz;rw[FR ad hz]at hH;cases hH
   have wZ:=bH.mp n1
   refine⟨ad,vs,v2,rfl,rfl,hA,by rw[←ol.length,cn];exact hz,?_⟩
   refine z σ F' _ (rs.change hm x1 hσ b1 dj cf put am fA (.inr (.lst fA yf ((ol.mono λ_ _ f' hi o'=>?_).append (.cons (f:=fp) ?_ .nil)))) (fn:=ad::(sM++(fp++[]))) ?_ ?_)
   ·refine(o'.ext x1).frame (.refl _) λa ha=>⟨zy λe=>wZ.1 (e▸hi a ha),((o'.ext x1).cells a ha).1⟩
   ·exact o2.frame (.refl _) λa ha=>⟨zy (nA a ha),(o2.cells a ha).1⟩
   ·rw[bQ]
    refine bH.mpr ⟨λhz=>?_,bo.mpr ⟨wZ.2,OV,λa ha b hb e=>?_⟩⟩
    ·rcases aM.mp hz with hz|hz
     ·exact wZ.1 hz
     ·exact nA ad hz rfl
    ·subst e
     obtain⟨_,o,ho,_⟩:=eE.cellsOf ol a ha
     rw[FR a hb]at ho
     cases ho
   ·intro a ha
    rw[bQ]at ha
    rcases aA.mp ha with rfl|ha
    ·exact .inl am
    ·rcases aM.mp ha with ha|ha
     ·exact .inl (ap _ ha)
     ·exact .inr (FR a ha)
  ·rw[if_neg hz]at h3;cases h3
 |_=>cases h3
def ik (ds:List D)(i:Int)(d:D):Option (List D):=(ixN ds.length i).bind λj=>some (ds.set j d)
def ed {κ:Type}[DecidableEq κ](ks:List κ)(ds:List D)(k:κ)(d:D):List κ×List D:=if ks.contains k=true then(ks,(ks.zip ds).map λp=>if p.1=k then d else p.2)else(ks++[k],ds++[d])
def lY (i:Nat)(fj f:EF):SF:=λρ=>(f ρ).bind λd=>(eV i ρ).bind λo=>(fj ρ).bind λj=>match o,j with
 |.lst ds,.int z=>(ik ds z d).bind λkA=>some (.nx (ρ.set i (some (.lst kA))))
 |_,_=>none
theorem eE.set0 {R:D->V->List af->Prop}{d:D}{v:V}(r:R d v [])(z:∀d v f,R d v f->f=[]):∀{ds:List D} {vs:List V} {fp:List af} (i:Nat),eE R ds vs fp->eE R (ds.set i d) (vs.set i v) []
 |_,_,_,_,.nil=>.nil
 |_,_,_,0,.cons h t=>by
  have:=eE.cons (f:=[]) (g:=[]) r (eE.ofPr (t.pr λd v f _ q=>by have:=z _ _ _ q;subst this;exact q))
  exact this
 |_,_,_,i+1,.cons h t=>by
  have e:=z _ _ _ h
  subst e
  exact eE.cons (f:=[]) (g:=[]) h (eE.set0 r z i t)
theorem Ow.nil0 {K:aa}{F H:Hp}{d:D}{v:V}{fp:List af}(h:Ow K ct F H 0 d v fp):fp=[]:=h.2
theorem eE.nil0 {K:aa}{F H:Hp}{ds:List D}{vs:List V}{fp:List af}(h:eE (Ow K ct F H 0) ds vs fp):fp=[]:=by
 induction h with
 |nil=>rfl
 |cons h t ih=>rw[h.nil0,ih];rfl
theorem Mc (i:Nat){x:aR}{j:Expr}{p1 fT:cD}{fj:EF}(hm:ms[i]?=some (.ow 1))(hj:XE X ct ms n j fj)(he:XE X ct ms 0 e f)(hN:X.N[i]?=some x:=by rfl)(hv:pC X.env.scope x:=by first|exact Or.inl rfl|exact Or.inr (Or.inl rfl)|exact Or.inr (Or.inr rfl))(hd:(x==("__debug__":aR))=false:=by decide)
  (jD:(x==("__classdict__":aR))=false:=by decide)
  (ha:∀v,fW (.Subscript (.Name x p1) j fT) X.env v=(do
   let ov ← dQ [v] (bO (.Name x p1) X.env)
   let iv ← dQ [v,ov] (bO j X.env)
   fZ fT
   dQ [v,ov,iv] (lx ov iv v)
   pv [v,ov,iv] []):=by intro _;rfl)
  (hs:gc [.Subscript (.Name x p1) j fT] e pos.line X.env=pure false:=by rfl) (hw:gb [.Subscript (.Name x p1) j fT] e X.env=pure none:=by rfl)
  (h1:(cK [.Subscript (.Name x p1) j fT] X.env).map (·.2)=[fW (.Subscript (.Name x p1) j fT) X.env]:=by rfl) :
  XS X ct ms rk (.Assign [.Subscript (.Name x p1) j fT] e pos) (lY i fj f):=by
 obtain⟨t,pt,qt⟩:=he
 obtain⟨tj,vQ,vR⟩:=hj
 refine⟨_,HI pt (Mv (sg hN hv hd jD) vQ Hn ha) hs hw h1,λF0 B F H ρ σ o E rs e z=>?_⟩
 obtain⟨d,g1,g2⟩:=aY e
 obtain⟨d1,pP,g3,g4,g5⟩:=dL g2
 refine qt F0 B F H ρ σ d _ rs g1 λv0 F1 H1 x1 l0=>?_
 have kR:=rs.ext x1
 obtain⟨f1,fr,n1,b1,dj,i4,cf,put⟩:=kR.put (F':=F) (H':=H) hm
 obtain⟨v,hσ,ow⟩:=i4 d1 (wf g3)
 refine⟨v,hσ,vR F0 B F1 H1 ρ σ pP _ kR g4 λvj F2 H2 x2 lj=>?_⟩
 cases d1 with
 |lst ds=>
  cases pP with
  |int zi=>
   obtain⟨kA,g6,g7⟩:=aY g5
   cases g7
   obtain⟨jn,g8,g9⟩:=aY g6
   cases g9
   obtain⟨ad,vs,sM,rfl,rfl,hF,hH,ol⟩:=ow.lst_inv
   have hA:H2 ad=some (.lst vs):=x2.hh _ _ hH
   have fA:F2 ad=none:=x2.nf ad _ hH nofun hF
   have e0:=ol.nil0
   subst e0
   refine⟨ad,vs,zi,jn,rfl,lj.int,hA,by rw[←ol.length];exact g8,?_⟩
   refine z σ F2 _ (kR.change hm x2 hσ b1 dj cf put am fA (.inr (.lst fA yf (eE.set0 ⟨Dt.mono x2.ff l0,rfl⟩ (λ_ _ _ q=>q.2) jn (ol.mono λ_ _ _ _ q=>⟨q.1.mono x2.ff,q.2⟩)))) (fn:=[ad]) (by simp) ?_)
   intro a ha
   rw[aH]at ha
   subst ha
   exact .inl am
  |_=>cases g5
 |_=>cases g5
end
end L3
namespace L3
open PySem PySem.Spec L2
open PyProof.Rows hiding St
section
variable {X:Cx}{ct:Nat->af}{ms:List Mo}{rk n m k:Nat}{st:bN}{rest:List bN}{a b c e tg:Expr}{f g h:EF}{p q:BF}{u w:SF}{pos:cD}{K:aa}
theorem GD {ah:List (af×cN)}{σ:St}{H:Hp}{s:ak}{l:af}{xs:List V}(I:Inv X ah σ H s)(hH:Rd H l (.lst xs)):xs.length<=sizeLine/\∃(bZ:List ae) (n:Nat),bT xs bZ/\xs.length=bZ.length/\s.heap.get? l=some { cls:=.type "list",data:=.seq bZ.toArray n }:=by
  obtain⟨z,bZ,n,r,e⟩:=hH.ok I.hok
  exact⟨z,bZ,n,r,r.length,e⟩
def tu (K:aa):R2:=λx y H Q=>∃l b xs zs,x=.ref l/\y=.ref b/\fm K H l xs/\fm K H b zs/\xs.length+zs.length<=sizeLine/\∀p,H p=none->Q (.ref p) (upd H p (.lst (xs++zs)))
theorem Uu:fw X (dO .Add) (tu X.K):=by
 intro ah s σ H x y v u Q I rx ry h
 obtain⟨l,b,xs,zs,rfl,rfl,hH,hB,hz,q⟩:=h
 cases rx
 cases ry
 obtain⟨bZ,r,⟨⟨cls,dd,data,sl⟩,n,e,c1,c2,c3⟩,z⟩:=I.list hH
 obtain⟨rL,r2,⟨⟨EW,sL,data2,Ce⟩,n2,e2,c4,c5,c6⟩,z2⟩:=I.list hB
 simp only at c1 c3 c4 c6
 subst c1 c3 c4 c6
 have hl:=r.length
 have vB:=r2.length
 refine pf ⟨_,e,rfl⟩ ⟨_,e2,rfl⟩ noFill_list_add seq_list_add PySem.F.slot_list_add PySem.F.entry_list_add (PySem.F.args_list_add_2 _ _) (list_addW l b bZ.toArray rL.toArray n n2 dd sL sl Ce (by rw[aT,aT];omega)) ⟨e,e2,?_⟩
 have ea:bZ.toArray++rL.toArray=(bZ++rL).toArray:=by simp
 rw[ea]
 exact⟨.ref _,_,I.lnew (t':=s.toks) (r.append r2) (by rw[bn];omega),rfl,q _ I.fresh⟩
def B5:R2:=λx y H Q=>∃i j,x=.str i/\y=.str j/\i.length+j.length<=sizeLine/\Q (.str (i++j)) H
def vS (K:aa):R2:=λx y H Q=>nG (λi j=>.int (i+j)) x y H Q\/B5 x y H Q\/tu K x y H Q\/tw K x y H Q
theorem Uv:fw X (dO .Add) (vS X.K):=fw.or VQ (fw.or R5 (fw.or Uu UJ))
def dB:D->D->Option D
 |.int i,.int j=>some (.int (i+j))
 |.str x,.str y=>if x.length+y.length<=16777216 then some (.str (x++y))else none
 |.lst xs,.lst ys=>if xs.length+ys.length<=16777216 then some (.lst (xs++ys))else none
 |.tup xs,.tup ys=>if xs.isEmpty=false/\ys.isEmpty=false/\xs.length+ys.length<=1000000 then some (.tup (xs++ys))else none
 |_,_=>none
theorem Pr.ow0 {F G H:Hp}{ds:List D}{vs:List V}(h:Pr (Al K ct F G 0) ds vs):eE (Ow K ct F H 0) ds vs []:=eE.ofPr (h.mono λ_ _ q=>⟨q,rfl⟩)
theorem Al.lst1 {F G:Hp}{ds:List D}{v:V}(hn:n<=1)(h:Al K ct F G n (.lst ds) v)(s:bJ F G):∃a vs,v=.ref a/\fm K G a vs/\Pr (Al K ct F G 0) ds vs:=by
 obtain⟨a,vs,e,h1,h2⟩:=h.lst s
 have:n-1=0:=by omega
 rw[this]at h2
 exact⟨a,vs,e,h1,h2⟩
theorem Al.tup1 {F G:Hp}{ds:List D}{v:V}(hn:n<=1)(h:Al K ct F G n (.tup ds) v)(s:bJ F G):∃a vs,v=.ref a/\G a=some (.tup vs)/\Pr (Al K ct F G 0) ds vs:=by
 obtain⟨a,vs,e,h1,h2⟩:=h.tup s
 have:n-1=0:=by omega
 rw[this]at h2
 exact⟨a,vs,e,h1,h2⟩
theorem qx {F H:Hp}{ds:List D}{vs:List V}{Q:VK}(s:bJ F H)(hp:Pr (Al K ct F H 0) ds vs)(w:∀v F' H' fp,eS F H F' H'->Ow K ct F' H' 1 (.lst ds) v fp->fp.Nodup->(∀a∈fp,H a=none)->Q v H'):∀p,H p=none->Q (.ref p) (upd H p (.lst vs)):=λp h0=>by
 obtain⟨o,nd⟩:=L8 s (hp.ow0 (H:=H)) h0
 exact w _ F _ [p] (eS.newO s h0 _) o (nd bz) λa z=>by rw[aH]at z;subst z;exact h0
theorem Uw (hn:n<=1)(hm:m<=1):xP K ct n m 1 (vS K) dB:=by
 intro F H x y d1 d2 d Q s l1 l2 e w
 have ws:∀d v,d.sc=true->Dt K ct F d v->(∀v F' H' fp,eS F H F' H'->Ow K ct F' H' 1 d v fp->fp.Nodup->(∀a∈fp,H a=none)->Q v H')->Q v H:=λd v hs hd w=>w v F H [] (.refl s) (Ow.scal hd hs) bz λa z=>(by cases z)
 cases d1 with
 |int i=>
  cases d2 with
  |int j=>cases e;exact .inl ⟨i,j,l1.int,l2.int,ws _ _ rfl (.int _) w⟩
  |_=>cases e
 |str i=>
  cases d2 with
  |str j=>
   unfold dB at e
   dsimp only at e
   by_cases hz:i.length+j.length<=16777216
   ·rw[if_pos hz]at e
    cases e
    exact .inr (.inl ⟨i,j,l1.str,l2.str,by rw[cn];exact hz,ws _ _ rfl (.str _) w⟩)
   ·rw[if_neg hz]at e;cases e
  |_=>cases e
 |lst xs=>
  cases d2 with
  |lst ys=>
   unfold dB at e
   dsimp only at e
   by_cases hz:xs.length+ys.length<=16777216
   ·rw[if_pos hz]at e
    cases e
    obtain⟨a,vs,rfl,ha,hp⟩:=Al.lst1 hn l1 s
    obtain⟨b,us,rfl,hb,hq⟩:=Al.lst1 hm l2 s
    exact .inr (.inr (.inl ⟨a,b,vs,us,rfl,rfl,ha,hb,by rw[←hp.length,←hq.length,cn];exact hz,qx s (hp.append hq) w⟩))
   ·rw[if_neg hz]at e;cases e
  |_=>cases e
 |tup xs=>
  cases d2 with
  |tup ys=>
   unfold dB at e
   dsimp only at e
   by_cases hz:xs.isEmpty=false/\ys.isEmpty=false/\xs.length+ys.length<=1000000
   ·rw[if_pos hz]at e
    cases e
    obtain⟨a,vs,rfl,ha,hp⟩:=Al.tup1 hn l1 s
    obtain⟨b,us,rfl,hb,hq⟩:=Al.tup1 hm l2 s
    have hl:=hp.length
    have vB:=hq.length
    have e1:vs≠[]:=λz=>by
     rw[z]at hl
     have:=dS.mp hl
     rw[this]at hz
     exact absurd hz.1 (by decide)
    have e2:us≠[]:=λz=>by
     rw[z]at vB
     have:=dS.mp vB
     rw[this]at hz
     exact absurd hz.2.1 (by decide)
    refine .inr (.inr (.inr ⟨a,b,vs,us,rfl,rfl,gY.of ha,gY.of hb,e1,by rw[←hl,←vB,cn];omega,λz=>absurd z e2,λ_ p h0=>?_⟩))
    have x2:=eS.newS s h0 (.tup (vs++us))
    exact w _ _ _ [] x2 (.inr (.tup yf (eE.ofPr ((hp.append hq).mono λ_ _ q=>⟨Dt.mono x2.ff q,rfl⟩)))) bz λa z=>(by cases z)
   ·rw[if_neg hz]at e;cases e
  |_=>cases e
 |_=>cases e
def Cb:R2:=λx y H Q=>∃l k xs,x=.ref l/\y=.int k/\Rd H l (.lst xs)/\-(2 ^ 63)<=k/\k<2 ^ 63/\xs.length*k.toNat<=sizeLine /\
 ∀p,H p=none->Q (.ref p) (upd H p (.lst (aG k.toNat xs).flatten))
theorem Ux:fw X (dO .Mult) Cb:=by
 intro ah s σ H x y v u Q I rx ry h
 obtain⟨l,k,xs,rfl,rfl,hH,h1,h2,hz,q⟩:=h
 cases rx
 obtain⟨t,rfl⟩:=ry
 obtain⟨z,bZ,n,r,hl,e⟩:=GD I hH
 have eF:bZ.toArray.size*k.toNat<=sizeLine:=by rw[aT,←hl];exact hz
 have my:¬bZ.toArray.size*k.toNat > (2 ^ 63-1)/8:=by
  have:(sizeLine:Nat)<=(2 ^ 63-1)/8:=by decide
  omega
 have FU:¬(!cr.List.listFitsIndex k)=true:=by
  rw[fitsIndex_both h1 h2]
  exact aX
 have AF:¬cr.List.listTooLong (bZ.toArray.size*k.toNat)=true:=by
  rw[qD eF]
  exact aX
 have Gd:oJ (λx1 x2=>x1++x2) #[] (aG (if bZ.toArray.isEmpty=true then 0 else k.toNat) bZ.toArray)=(aG k.toNat bZ).flatten.toArray:=by
  have f0:∀m:Nat,oJ (λx1 x2=>x1++x2) #[] (aG m bZ.toArray)=(aG m bZ).flatten.toArray:=λm=>by
   have:=foldl_rep bZ m []
   rw[List.nil_append]at this
   exact this
  rw[f0]
  cases bZ with
  |nil=>simp
  |cons a r'=>rw[if_neg (by simp)]
 refine wpAny_binaryOp_repeat_ref (T:="list") (U:="int") (by decide) ⟨_,e,rfl⟩ (λs'=>sD s' k t) noFill_list_mul F.fills_int_mul F.slot_int_rmul repeat_list F.slot_int_index.lookup
  (sC F.slot_int_rmul (sD s k t) F.entry_int_rmul (F.args_int_rmul_2 _ _) (int___rmul___int_list k t l bZ.toArray n)
   ⟨e,rfl,⟨_,e,rfl⟩,sC F.slot_list_mul ⟨_,e,rfl⟩ F.entry_list_mul (F.args_list_mul_2 _ _) (AutoListH.list___mul___list_int_3 l bZ.toArray n k t FU my AF) ⟨e,?_⟩⟩)
 rw[Gd]
 exact⟨.ref _,_,I.lnew (t':=s.toks) (r.rep k.toNat) (by rw[UL,Nat.mul_comm];exact hz),rfl,q _ I.fresh⟩
theorem jb:ky K ct n m k (rI lR λi j=>.int (i*j)) hE:=UX
def jP:D->D->Option D
 |.lst xs,.int j=>if -1000000<j/\j<1000000/\xs.length<=16 then some (.lst (aG j.toNat xs).flatten)else none
 |_,_=>none
theorem Ek (ha:XO X ct ms 1 a f)(hb:XE X ct ms m b g):XO X ct ms 1 (.BinOp a .Mult b pos) (e2 jP f g):=by
 obtain⟨ta,pa,qa⟩:=ha
 obtain⟨tb,pb,qb⟩:=hb
 refine⟨_,HW Ux pa pb,λF0 B F H ρ σ d Q rs e w=>?_⟩
 obtain⟨d1,d2,h1,h2,h3⟩:=dL e
 refine qa F0 B F H ρ σ d1 _ rs h1 λv F1 H1 fp x1 o nd hf=>?_
 refine qb F0 B F1 H1 ρ σ d2 _ (rs.ext x1) h2 λv2 F2 H2 x2 l2=>?_
 cases d1 with
 |lst xs=>
  cases d2 with
  |int j=>
   unfold jP at h3
   dsimp only at h3
   by_cases hz:-1000000<j/\j<1000000/\xs.length<=16
   ·rw[if_pos hz]at h3
    cases h3
    obtain⟨ad,vs,fr,rfl,rfl,hF,hH,ol⟩:=(o.ext x2).lst_inv
    have hp:Pr (Al X.K ct F2 H2 0) xs vs:=ol.pr λ_ _ _ _ q=>q.1
    have xB:=x1.trans x2
    refine⟨ad,j,vs,rfl,l2.int,.inl hH,by omega,by omega,?_,qx x2.fh (hp.rep _) λv F' H' fp x o nd hf=>w v F' H' fp (xB.trans x) o nd λz hz=>xB.hh.free (hf z hz)⟩
    rw[←hp.length,cn]
    have h1:j.toNat<=1000000:=by omega
    have h2:xs.length*j.toNat<=16*1000000:=lQ hz.2.2 h1
    omega
   ·rw[if_neg hz]at h3;cases h3
  |_=>cases h3
 |_=>cases h3
def rP:D->Option D
 |.int i=>some (.int (-i))
 |_=>none
theorem MJ (ha:XE X ct ms n a f):XE X ct ms k (.UnaryOp .USub a pos) (e1 rP f):=by
 refine WZ VT (λF H x d1 d Q s l e w=>?_) ha
 cases d1 with
 |int i=>cases e;exact⟨i,l.int,w _ F H (.refl s) (Al.of (.int _))⟩
 |_=>cases e
theorem CF {x:aR}{d:D}{u:ae}(hg:Gl X x)(hm:X.mg x=some u)(hs:d.sc=true)(r:RelV d.v u)(hd:(x==("__debug__":aR))=false:=by decide):XE X ct ms n (.Name x pos) (eC d):=by
 refine⟨_,LI hg hm r hd,λF0 B F H ρ σ d' Q rs e w=>?_⟩
 cases e
 refine w _ F H (.refl rs.fh) (Al.of ?_)
 cases d with
 |non=>exact .non
 |bl b=>exact .bl b
 |int b=>exact .int b
 |str b=>exact .str b
 |_=>cases hs
def jO:List D->Option D
 |[.lst ds]=>some (.lst ds)
 |[.tup ds]=>some (.lst ds)
 |_=>none
theorem DU (hn:n<=1):pL K ct [n] 1 (λxs H Q=>∃p ys,xs=[.ref p]/\(fm K H p ys\/gY K H p ys)/\∀l,H l=none->Q (.ref l) (upd H l (.lst ys))) jO:=by
 intro F H vs ds d Q s l e w
 cases l with
 |cons h t=>
  cases t
  rename_i d1 v
  cases d1 with
  |lst xs=>
   cases e
   obtain⟨a,us,rfl,ha,hp⟩:=Al.lst1 hn h s
   exact⟨a,us,rfl,.inl ha,qx s hp w⟩
  |tup xs=>
   cases e
   obtain⟨a,us,rfl,ha,hp⟩:=Al.tup1 hn h s
   exact⟨a,us,rfl,.inr (gY.of ha),qx s hp w⟩
  |_=>cases e
abbrev PF:=Env->Option (Option Int)
def pNo:PF:=λ_=>some none
def pInt (f:EF):PF:=λρ=>(f ρ).bind λd=>match d with
 |.int i=>some (some i)
 |_=>none
def XP (X:Cx)(ct:Nat->af)(ms:List Mo)(e:Option Expr)(f:PF):Prop:=∃t,PO X e t/\∀(F0 B F H:Hp) (ρ:Env) (σ:St) (o:Option Int) (Q:Option Int->Hp->Prop),RS X.K ct F0 B ms F H ρ σ->f ρ=some o->(∀F' H',eS F H F' H'->Q o H')->t σ H Q
theorem rl:XP X ct ms none pNo:=⟨_,UH,λF0 B F H ρ σ o Q rs e w=>by cases e;exact w F H (.refl rs.fh)⟩
theorem vc (h:XE X ct ms n e f):XP X ct ms (some e) (pInt f):=by
 obtain⟨t,pt,qt⟩:=h
 refine⟨_,UI pt,λF0 B F H ρ σ o Q rs e w=>?_⟩
 obtain⟨d,h1,h2⟩:=aY e
 refine qt F0 B F H ρ σ d _ rs h1 λv F' H' x l=>?_
 cases d with
 |int i=>cases h2;exact⟨i,l.int,w F' H' x⟩
 |_=>cases h2
def cutD (xs:List D)(lo hi:Option Int):List D:=(xs.drop (HT.sIx xs.length 0 lo)).take (HT.sIx xs.length xs.length hi-HT.sIx xs.length 0 lo)
theorem Md {R:D->V->Prop}{ds:List D}{vs:List V}{lo hi:Option Int}(h:Pr R ds vs):Pr R (cutD ds lo hi) (mq vs lo hi):=by
 unfold cutD mq
 rw[h.length]
 exact(h.drop _).take _
def eI (d:D)(lo hi:Option Int):Option D:=match d with
 |.lst xs=>some (.lst (cutD xs lo hi))
 |_=>none
theorem vk {lo hi:Option Expr}{pl ph:PF}{p1}(hn:n<=1)(he:XE X ct ms n e f)(hl:XP X ct ms lo pl)(hh:XP X ct ms hi ph):XO X ct ms 1 (.Subscript e (.Slice lo hi none p1) pos) (λρ=>(f ρ).bind λd=>(pl ρ).bind λl=>(ph ρ).bind λh=>eI d l h):=by
 obtain⟨t,pt,qt⟩:=he
 obtain⟨t1,rT,rV⟩:=hl
 obtain⟨t2,lK,oX⟩:=hh
 refine⟨_,Lx UK pt rT lK,λF0 B F H ρ σ r Q rs e w=>?_⟩
 obtain⟨d,l,h1,h2,h3⟩:=dL e
 obtain⟨hh,h4,h5⟩:=aY h3
 refine qt F0 B F H ρ σ d _ rs h1 λv F1 H1 x1 l1=>?_
 refine rV F0 B F1 H1 ρ σ l _ (rs.ext x1) h2 λF2 H2 x2=>?_
 refine oX F0 B F2 H2 ρ σ hh _ ((rs.ext x1).ext x2) h4 λF3 H3 x3=>?_
 cases d with
 |lst xs=>
  cases h5
  have kE:=x2.trans x3
  obtain⟨a,vs,rfl,ha,hp⟩:=Al.lst1 hn (l1.mono kE.ff kE.hh) kE.fh
  exact⟨a,vs,rfl,ha,qx kE.fh (Md hp) λv F' H' fp x o nd hf=>w v F' H' fp ((x1.trans kE).trans x) o nd λz hz=>(x1.trans kE).hh.free (hf z hz)⟩
 |_=>cases h5
def EG:List D->Option D
 |[.int i]=>some (.int (if i<0 then -i else i))
 |_=>none
def ii (g:Int->Int->D):List D->Option D
 |[.int i,.int j]=>some (g i j)
 |_=>none
theorem MK {g:Int->Int->D}{gv:Int->Int->V}(hg:∀i j F,Dt K ct F (g i j) (gv i j)):tR K ct [n,m] k (λxs H Q=>∃i j,xs=[.int i,.int j]/\Q (gv i j) H) (ii g):=by
 intro F H vs ds d Q s l e w
 cases l with
 |cons h t=>
  cases t with
  |cons h' t=>
   cases t
   rename_i d1 v d2 v2
   cases d1 with
   |int i=>
    cases d2 with
    |int j=>cases e;exact⟨i,j,by rw[h.int,h'.int],w _ F H (.refl s) (Al.of (hg i j F))⟩
    |_=>cases e
   |_=>cases e
def lf:List D->Option D:=ii λi j=>.int (if j > i then j else i)
def oF:List D->Option D:=ii λi j=>.int (if j<i then j else i)
theorem Hw:tR K ct [n,m] k (λxs H Q=>∃i j,xs=[.int i,.int j]/\Q (.int (if j > i then j else i)) H) lf:=MK λ_ _ _=>.int _
theorem TV:tR K ct [n,m] k (λxs H Q=>∃i j,xs=[.int i,.int j]/\Q (.int (if j<i then j else i)) H) oF:=MK λ_ _ _=>.int _
def vV (i:Nat)(o:D->D->Option D)(f:EF):SF:=λρ=>(eV i ρ).bind λx=>(f ρ).bind λy=>(o x y).bind λd=>some (.nx (ρ.set i (some d)))
theorem Wq {op:iL}{i:Nat}{x:aR}{pos':cD}{gi:Int->Int->Int}(ho:wL X op (Ds gi))(hm:ms[i]?=some (.ow k))(hN:X.N.Nodup)(hi:X.N[i]?=some x)(hx:Loc X.env.scope x)(he:XE X ct ms n e f)(hf:X.fn x=true\/X.env.scope.names.lookup x=some .local:=by first|exact .inl rfl|exact .inr rfl|assumption) :
  XS X ct ms rk (.AugAssign (.Name x pos') op e pos) (vV i (i2 λi j=>.int (gi i j)) f):=by
 obtain⟨t,pt,qt⟩:=he
 refine⟨_,VM hN hi hx pt ho hf,λF0 B F H ρ σ o E rs e z=>?_⟩
 obtain⟨d1,d2,h1,h2,h3⟩:=dL e
 obtain⟨d,h4,h5⟩:=aY h3
 cases h5
 obtain⟨v,hv,l⟩:=rs.get hm (wf h1)
 refine⟨v,hv,qt F0 B F H ρ σ d2 _ rs h2 λy F' H' x1 l2=>?_⟩
 cases d1 with
 |int i'=>
  cases d2 with
  |int j'=>
   cases h4
   exact⟨i',j',l.int,l2.int,z _ F' H' (rs.set hm x1 (Ow.scal (.int _) rfl) bz λa z=>(by cases z))⟩
  |_=>cases h4
 |_=>cases h4
def sPar (i j:Nat)(fs:Env->Option (List D)):SF:=λρ=>(fs ρ).bind λds=>match ds with
 |[x,y]=>some (.nx ((ρ.set i (some x)).set j (some y)))
 |_=>none
theorem Wr {i j:Nat}{x y:aR}{fs:Env->Option (List D)}{px py pt:cD}{kt k2 lK}(Oz:ms[i]?=some (.ow 0))(OA:ms[j]?=some (.ow 0))(hc:X.calm=true)(hN:X.N.Nodup)(hi:X.N[i]?=some x)(hj:X.N[j]?=some y)(nF:i≠j)
  (hx:X.env.scope.names.lookup x=some .local) (hy:X.env.scope.names.lookup y=some .local) (ha:XA X ct ms [a,b] [0,0] fs)
  (hw:gb [.Tuple [.Name x px,.Name y py] kt pt] (.Tuple [a,b] k2 lK) X.env=pure (some [x,y]))
  (hs:gc [.Tuple [.Name x px,.Name y py] kt pt] (.Tuple [a,b] k2 lK) pos.line X.env=pure false:=by rfl) :
  XS X ct ms rk (.Assign [.Tuple [.Name x px,.Name y py] kt pt] (.Tuple [a,b] k2 lK) pos) (sPar i j fs):=by
 obtain⟨t,pt,_,qt⟩:=ha
 refine⟨_,VL hc hN hi hj nF hx hy pt hw hs,λF0 B F H ρ σ o E rs e z=>?_⟩
 obtain⟨ds,h1,h2⟩:=aY e
 refine qt F0 B F H ρ σ ds _ rs h1 λvs F' H' x1 l=>?_
 cases l with
 |cons l1 l=>
  cases l with
  |cons l2 l=>
   cases l
   cases h2
   have r1:=rs.set Oz x1 (Ow.zero l1) bz λa z=>(by cases z)
   exact⟨_,_,rfl,z _ F' H' (r1.set OA (.refl x1.fh) (Ow.zero l2) bz λa z=>(by cases z))⟩
def sAsg (g:D->Env->Option Env)(f:EF):SF:=λρ=>(f ρ).bind λd=>(g d ρ).bind λρ'=>some (.nx ρ')
theorem Ws {gg:D->Env->Option Env}(he:XE X ct ms 0 e f)(hg:XG X ct ms 0 tg gg)(hs:gc [tg] e pos.line X.env=pure false:=by rfl)(hw:gb [tg] e X.env=pure none:=by rfl)
  (h1:(cK [tg] X.env).map (·.2)=[fW tg X.env]:=by rfl):XS X ct ms rk (.Assign [tg] e pos) (sAsg gg f):=by
 obtain⟨t,pt,qt⟩:=he
 obtain⟨t2,lK,oX⟩:=hg
 refine⟨_,HI pt lK hs hw h1,λF0 B F H ρ σ o E rs e z=>?_⟩
 obtain⟨d,h1,h2⟩:=aY e
 obtain⟨ρ',h3,h4⟩:=aY h2
 cases h4
 exact qt F0 B F H ρ σ d _ rs h1 λv F' H' x l=>oX F0 B F' H' ρ ρ' σ d v _ (rs.ext x) l h3 λσ' r=>z σ' F' H' r
end
end L3
namespace L3
open PySem PySem.Spec L2
open PyProof.Rows hiding St
def gD:List Nat->List Mo->Bool
 |[],_=>true
 |n::ns,.al m::ms=>decide (n=m)&&gD ns ms
 |n::ns,.ow m::ms=>decide (n=0)&&decide (m=0)&&gD ns ms
 |_,_=>false
theorem uh:∀{pm:List Nat} {ms:List Mo},gD pm ms=true->∀(i n:Nat),pm[i]?=some n->ms[i]?=some (Mo.al n)\/(n=0/\ms[i]?=some (Mo.ow 0))
 |[],_,_,i,n,e=>by simp at e
 |x::ns,.al m::ms,h,i,n,e=>by
  simp only[gD,cH,decide_eq_true_eq]at h
  cases i with
  |zero=>simp at e;subst e;rw[h.1];exact .inl rfl
  |succ i=>simpa using uh h.2 i n (by simpa using e)
 |x::ns,.ow m::ms,h,i,n,e=>by
  simp only[gD,cH,decide_eq_true_eq]at h
  cases i with
  |zero=>simp at e;subst e;rw[h.1.1,h.1.2];exact .inr ⟨rfl,rfl⟩
  |succ i=>simpa using uh h.2 i n (by simpa using e)
 |_::_,[],h,_,_,_=>by simp[gD]at h
 |_::_,.px _::_,h,_,_,_=>by simp[gD]at h
 |_::_,.so _::_,h,_,_,_=>by simp[gD]at h
def sK (X:Cx)(scope:fv)(N:List aR)(own:Nat)(cap:List Nat):Bool :=
 decide (scope.kind=.function)&&scope.names.all (λx=>(decide (x.2≠.cell) || decide (scope.names.lookup x.1=some .cell))&&(decide (x.2≠.local) || decide (scope.names.lookup x.1=some .local))&&(decide (x.2≠.free) || (decide (X.env.kindOf x.1=some .cell) || decide (X.env.kindOf x.1=some .free)))) &&
 decide (N.length=own+cap.length)&&(aE cap.length).all λj=>match N[own+j]?,cap[j]? with
  |some x,some i=>decide (X.N[i]?=some x)&&decide (scope.names.lookup x=some .free)
  |_,_=>false
theorem sr {X:Cx}{scope:fv}{N:List aR}{own:Nat}{cap:List Nat}(h:sK X scope N own cap=true):jK X scope N own cap:=by
 unfold sK at h
 simp only[cH,decide_eq_true_eq,List.all_eq_true,Bool.or_eq_true]at h
 obtain⟨⟨⟨h1,h2⟩,h3⟩,h4⟩:=h
 refine⟨h1,λx hx hl=>((h2 x hx).1.1).elim (λz=>absurd hl z) id,λx hx hl=>((h2 x hx).1.2).elim (λz=>absurd hl z) id,λx hx hf=>((h2 x hx).2).elim (λz=>absurd hf z) id,h3,λj x hj=>?_⟩
 have Je:j<cap.length:=by
  have:=(aQ.mp hj).1
  omega
 have q:=h4 j (bw.mpr Je)
 rw[hj]at q
 have hc:cap[j]?=some cap[j]:=by simp[Je]
 rw[hc]at q
 simp only[cH,decide_eq_true_eq]at q
 exact⟨_,hc,q.1,q.2⟩
def DK:D->Option String
 |.non=>some "NoneType"
 |.bl _=>some "bool"
 |.int _=>some "int"
 |.str _=>some "str"
 |.lst _=>some "list"
 |.tup _=>some "tuple"
 |.dK _ _=>some "dict"
 |_=>none
def J5 (K:aa)(H:Hp)(v:V)(t:String):Prop:=jC K H v (.type t)\/(t = "list"/\∃a xs,v=.ref a/\fm K H a xs)
theorem Al.ty {K:aa}{ct:Nat->af}{F H:Hp}{n:Nat}{d:D}{v:V}{t:String}(s:bJ F H)(h:Al K ct F H n d v)(e:DK d=some t):J5 K H v t:=by
 cases d with
 |non=>cases e;rw[h.non];exact .inl .non
 |bl b=>cases e;rw[h.bl];exact .inl (.bl b)
 |int b=>cases e;rw[h.int];exact .inl (.int b)
 |str b=>cases e;rw[h.str];exact .inl (.str b)
 |lst xs=>
  cases e
  obtain⟨a,vs,rfl,ha,_⟩:=h.lst s
  exact .inr ⟨rfl,a,vs,rfl,ha⟩
 |tup xs=>
  cases e
  obtain⟨a,vs,rfl,ha,_⟩:=h.tup s
  exact .inl (.tup ha)
 |dK ks xs=>
  cases e
  obtain⟨a,vs,rfl,ha,_⟩:=h.dK s
  exact .inl (.dK ha)
 |_=>cases e
theorem SW {X:Cx}:eo X (.builtin "isinstance") (λxs H Q=>∃x c t b,xs=[x,.ty c]/\J5 X.K H x t/\bI X.K (.type t) (.type c)=some b/\Q (.bl b) H):=by
 intro ah s σ H xs us Q I r h
 obtain⟨x,c,t,b,rfl,ty,e,q⟩:=h
 rcases ty with ty|⟨rfl,a,ys,rfl,hq⟩
 ·exact S4 ah s σ H _ us Q I r ⟨x,c,_,b,rfl,ty,e,q⟩
 ·obtain⟨u,w',rfl,ru,n8⟩:=vals2 r
  cases(show w'=ae.type c from n8)
  cases(show u=ae.ref a from ru)
  obtain⟨bZ,rv,⟨o,n,h1,h2,_⟩,_⟩:=I.list hq
  exact cq jF I.kIn ⟨o,h1,h2⟩ e (λz=>nomatch z) λtk=>⟨.bl b,H,I.tok tk,rfl,q⟩
def AX (t c:String):Bool:=t==c || (t == "bool" && c == "int")
theorem Uy {K:aa}:∀t∈(["NoneType","bool","int","str","list","tuple","dict"]:List String),∀c∈(["bool","int","str","list","tuple","dict"]:List String),bI K (.type t) (.type c)=some (AX t c):=by
 intro t ht c hc
 simp only[aA,cI,or_false]at ht hc
 rcases ht with rfl|rfl|rfl|rfl|rfl|rfl|rfl<;>rcases hc with rfl|rfl|rfl|rfl|rfl|rfl<;>rfl
theorem U8 {d:D}{t:String}(e:DK d=some t):t∈(["NoneType","bool","int","str","list","tuple","dict"]:List String):=by
 cases d<;>simp[DK]at e<;>subst e<;>decide
section
variable {X:Cx}{ct:Nat->af}{ms:List Mo}{rk n m k:Nat}{a b c e tg:Expr}{f g h:EF}{pos:cD}
def jZ (c:String)(d:D):Option D:=(DK d).bind λt=>some (.bl (AX t c))
theorem wH {c:String}{pp p2:cD}(hc:c∈(["bool","int","str","list","tuple","dict"]:List String))(hm:X.mg "isinstance"=none)(wV:X.mg c=none)(hb:bL c=some (.type c))(he:XE X ct ms n e f)(hg:Gl X "isinstance":=by rfl)(qZ:Gl X c:=by rfl)(sT:aR.ofString c≠"__name__":=by decide)(hd2:(aR.ofString c==("__debug__":aR))=false:=by decide)
  (sW:ax [e,.Name c p2] X.env=(false,bO e X.env)::ax [.Name c p2] X.env:=by rfl) (p4:ax [.Name c p2] X.env=(false,bO (.Name c p2) X.env)::ax [] X.env:=by rfl) (iu:(cB pos (ax [.Name c p2] X.env)).any (·.1)=false:=by rfl) :
  XE X ct ms k (.Call (.Name "isinstance" pp) [e,.Name c p2] [] pos) (e1 (jZ c) f):=by
 obtain⟨t,pt,qt⟩:=he
 refine⟨_,DR SW hg hm Ki (u5 pt (u5 (Ud (v:=.ty c) qZ wV hb rfl sT hd2) xD p4) sW) (by decide) (by decide) sW iu,λF0 B F H ρ σ d Q rs e w=>?_⟩
 obtain⟨d1,h1,h2⟩:=aY e
 obtain⟨ty,h3,h4⟩:=aY h2
 cases h4
 exact qt F0 B F H ρ σ d1 _ rs h1 λv F' H' x l=>⟨v,c,ty,_,rfl,l.ty x.fh h3,Uy _ (U8 h3) _ hc,w _ F' H' x (Al.of (.bl _))⟩
end
end L3
namespace L3
open PySem PySem.Spec L2
open PyProof.Rows hiding St
def lZ (K:aa):Sp:=λvs H Q _=>∃(a:af) (ns:List Int),vs=[.ref a]/\fm K H a (ns.map V.int)/\ns.length<=63/\∀H',Q (.bl true) H'
theorem Dts.ints {K:aa}{ct:Nat->af}{F:Hp}:∀ns:List Int,Dts K ct F (ns.map D.int) (ns.map V.int)
 |[]=>.nil
 |n::ns=>.cons (.int n) (Dts.ints ns)
theorem Wt {P:bg}{w:bE}{K:aa}{mg:aR->Option ae}{base:aK}{k:Nat}{f:af}{fd:aN}{ps:List aR}{ct:Nat->af}{m:List D->Option D}(Fn:cG P w K mg base eU k f fd ps (gH K ct [0] 0 m))
  (h:∀ns:List Int,ns.length<=63->m [.lst (ns.map .int)]=some (.bl true)):cG P w K mg base eU k f fd ps (lZ K):=by
 have to:∀vs H Q E,lZ K vs H Q E->gH K ct [0] 0 m vs H Q E:=by
  rintro vs H Q E ⟨a,ns,rfl,hS,hl,q⟩
  refine⟨H,[.lst (ns.map .int)],.bl true,.refl _,.cons (Dt.lst hS (Dts.ints ns)) .nil,h ns hl,λv F' H' fp x o nd hf=>?_⟩
  have hv:v=.bl true:=by
   have o:Dt K ct F' (.bl true) v/\fp=[]:=o
   cases o.1
   rfl
  subst hv
  exact q H'
 exact⟨λvs H Q E z=>Fn.len vs H Q E (to vs H Q E z),λA outer s H args us vs Q E hr e0 hb hv z=>Fn.run A outer s H args us vs Q E hr e0 hb hv (to vs H Q E z)⟩
theorem KO {g:D->Env->Option Env}{b:SF}(I:List D->Env->Prop)(all:List D)(st:∀pre d post ρ,all=pre++d::post->I pre ρ->∃ρ1 ρ2,g d ρ=some ρ1/\(b ρ1=some (.nx ρ2)\/b ρ1=some (.ct ρ2))/\I (pre++[d]) ρ2):∀(ds pre:List D) (ρ:Env),all=pre++ds->I pre ρ ->
  ∃ρ',fy g b ds ρ=some (.nx ρ')/\I all ρ'
 |[],pre,ρ,e,h=>⟨ρ,rfl,by rw[e,bQ];exact h⟩
 |d::ds,pre,ρ,e,h=>by
  obtain⟨ρ1,ρ2,h1,h2,h3⟩:=st pre d ds ρ e h
  obtain⟨ρ',h4,h5⟩:=KO I all st ds (pre++[d]) ρ2 (by rw[e];simp) h3
  refine⟨ρ',?_,h5⟩
  show(g d ρ).bind _=_
  rw[h1]
  show(b ρ1).bind _=_
  rcases h2 with h2|h2<;>(rw[h2];exact h4)
theorem ui {g:D->Env->Option Env}{b:SF}(I:List D->Env->Prop){ds:List D}{ρ:Env}(h:I [] ρ)(st:∀pre d post ρ,ds=pre++d::post->I pre ρ->∃ρ1 ρ2,g d ρ=some ρ1/\(b ρ1=some (.nx ρ2)\/b ρ1=some (.ct ρ2))/\I (pre++[d]) ρ2) :
  ∃ρ',fy g b ds ρ=some (.nx ρ')/\I ds ρ':=KO I ds st ds [] ρ rfl h
theorem xF {α:Type}{all pre post:List α}{d:α}(h:all=pre++d::post):all[pre.length]?=some d:=by subst h;simp
theorem Hf {α S:Type}{g:D->Env->Option Env}{b:SF}(enc:α->D)(st:S->Env)(f:S->α->S)(P:S->Prop):∀(xs:List α) (s:S),P s ->
  (∀s x,x∈xs->P s->∃ρ1,g (enc x) (st s)=some ρ1/\(b ρ1=some (.nx (st (f s x)))\/b ρ1=some (.ct (st (f s x))))/\P (f s x))->fy g b (xs.map enc) (st s)=some (.nx (st (xs.foldl f s)))/\P (xs.foldl f s)
 |[],s,hp,_=>⟨rfl,hp⟩
 |x::xs,s,hp,h=>by
  obtain⟨ρ1,h1,h2,h3⟩:=h s x am hp
  have ih:=Hf enc st f P xs (f s x) h3 λs y hy=>h s y (ap _ hy)
  refine⟨?_,ih.2⟩
  show(g (enc x) (st s)).bind _=_
  rw[h1]
  show(b ρ1).bind _=_
  rcases h2 with h2|h2<;>(rw[h2];exact ih.1)
theorem KP {g:D->Env->Option Env}{b:SF}(I:Nat->Env->Prop)(lo:Int):∀(n k:Nat) (ρ:Env),I k ρ ->
  (∀j ρ,k<=j->j<k+n->I j ρ->∃ρ1 ρ2,g (.int (lo+(j:Int))) ρ=some ρ1/\(b ρ1=some (.nx ρ2)\/b ρ1=some (.ct ρ2))/\I (j+1) ρ2) ->
  ∃ρ',fy g b ((nJ k n).map λ(t:Nat)=>D.int (lo+(t:Int))) ρ=some (.nx ρ')/\I (k+n) ρ'
 |0,k,ρ,h,_=>⟨ρ,rfl,h⟩
 |n+1,k,ρ,h,st=>by
  obtain⟨ρ1,ρ2,h1,h2,h3⟩:=st k ρ (av _) (by omega) h
  obtain⟨ρ',h4,h5⟩:=KP I lo n (k+1) ρ2 h3 λj ρ hj hl hI=>st j ρ (by omega) (by omega) hI
  refine⟨ρ',?_,by rw[show k+(n+1)=k+1+n by omega];exact h5⟩
  rw[pH,bG]
  show(g _ ρ).bind _=_
  rw[h1]
  show(b ρ1).bind _=_
  rcases h2 with h2|h2<;>(rw[h2];exact h4)
theorem Sh {g:D->Env->Option Env}{b:SF}(I:Nat->Env->Prop){lo:Int}{n:Nat}{ρ:Env}(h:I 0 ρ)
  (st:∀j ρ,j<n->I j ρ->∃ρ1 ρ2,g (.int (lo+(j:Int))) ρ=some ρ1/\(b ρ1=some (.nx ρ2)\/b ρ1=some (.ct ρ2))/\I (j+1) ρ2):∃ρ',fy g b (lL lo n) ρ=some (.nx ρ')/\I n ρ':=by
 obtain⟨ρ',h1,h2⟩:=KP (g:=g) (b:=b) I lo n 0 ρ h λj ρ _ hj hI=>st j ρ (by omega) hI
 rw[Nat.zero_add]at h2
 exact⟨ρ',by unfold lL;rw[nK];exact h1,h2⟩
theorem Ky {c:BF}{b:SF}(I:Env->Prop)(μ:Env->Nat)(st:∀ρ,I ρ->∃t,c ρ=some t/\(t=true->∃ρ',(b ρ=some (.nx ρ')\/b ρ=some (.ct ρ'))/\I ρ'/\μ ρ' < μ ρ)) :
  ∀(n:Nat) (ρ:Env),I ρ->μ ρ<n->∃ρ',kh c b n ρ=some (.nx ρ')/\I ρ'/\c ρ'=some false
 |0,_,_,h=>absurd h (by omega)
 |n+1,ρ,hI,h=>by
  obtain⟨t,h1,h2⟩:=st ρ hI
  cases t with
  |false=>exact⟨ρ,by show(c ρ).bind _=_;rw[h1];rfl,hI,h1⟩
  |true=>
   obtain⟨ρ',h3,h4,h5⟩:=h2 rfl
   obtain⟨ρ2,h6,h7,h8⟩:=Ky I μ st n ρ' h4 (by omega)
   refine⟨ρ2,?_,h7,h8⟩
   show(c ρ).bind _=_
   rw[h1]
   show(b ρ).bind _=_
   rcases h3 with h3|h3<;>(rw[h3];exact h6)
theorem U9 {n k:Nat}(h:n<2 ^ k)(hk:k<=9000):n<nO:=bu h (oj (by decide) hk)
theorem Va {n:Nat}(h:n<1048576):n<nO:=U9 (k:=20) h (by decide)
theorem zjl {i j:Int}(h1:0<j)(h2:j<4611686018427387904):gB (.int i) (.int j)=some (.int (i/j)):=by unfold gB;simp[h1,h2]
theorem zbm {i j:Int}(h:0<j):eJ (.int i) (.int j)=some (.int (i%j)):=by unfold eJ;simp[h]
theorem zmv {i j:Int}(h1:-18446744073709551616<j)(h2:j<18446744073709551616):hE (.int i) (.int j)=some (.int (i*j)):=by simp[hE,p6,kB,h1,h2]
theorem zc7 {i j:Int}(h1:-18446744073709551616<i)(h2:i<18446744073709551616):hE (.int i) (.int j)=some (.int (i*j)):=by simp[hE,p6,kB,h1,h2]
theorem zlf {i j:Int}(h1:0<=j)(h2:j<=1000000)(h3:i.natAbs<18446744073709551616):rS (.int i) (.int j)=some (.int (i ^ j.toNat)):=by simp[rS,p6,lW,h1,h2,h3]
theorem zlg {i j:Int}(h1:0<=j)(h2:j<=1000000)(h3:i.natAbs<18446744073709551616):rX (.int i) (.int j)=some (.int (i*2 ^ j.toNat)):=by simp[rX,p6,lW,h1,h2,h3]
theorem zgw {i j:Int}(h1:0<=j):oY (.int i) (.int j)=some (.int (i/2 ^ j.toNat)):=by simp[oY,p6,h1]
theorem zlh (i j:Int):dB (.int i) (.int j)=some (.int (i+j)):=rfl
theorem TX {xs ys:List D}(h:xs.length+ys.length<=16777216):dB (.lst xs) (.lst ys)=some (.lst (xs++ys)):=by simp[dB,h]
theorem zlj (i j:Int):ke (.int i) (.int j)=some (.int (i-j)):=rfl
theorem zod (i j:Int):qB (.int i) (.int j)=some (.bl (decide (i<j))):=rfl
theorem zoe (i j:Int):pF (.int i) (.int j)=some (.bl (decide (i<=j))):=rfl
theorem zof (i j:Int):oU (.int i) (.int j)=some (.bl (decide (j<i))):=rfl
theorem zog (i j:Int):FE (.int i) (.int j)=some (.bl (decide (j<=i))):=rfl
theorem zlk (i:Int):rP (.int i)=some (.int (-i)):=rfl
theorem zbn (ds:List D):eG [.lst ds]=some (.int ds.length):=rfl
theorem zll (ds:List D):eG [.tup ds]=some (.int ds.length):=rfl
theorem zlm (i:Int):EG [.int i]=some (.int (if i<0 then -i else i)):=rfl
theorem zb9 (i j:Int):lf [.int i,.int j]=some (.int (if j > i then j else i)):=rfl
theorem ze5 (i j:Int):oF [.int i,.int j]=some (.int (if j<i then j else i)):=rfl
theorem zoh (neg:Bool)(d:D):p7 neg d .non=some (.bl (if neg then !d.isN else d.isN)):=by cases d<;>rfl
theorem zqs (neg b:Bool)(d:D):p7 neg d (.bl b)=some (.bl (if neg then !d.isB b else d.isB b)):=by cases d<;>rfl
theorem zqt (b:Bool):C0 (.bl b)=some b:=rfl
theorem zoi (ds:List D):C1 (.lst ds)=some ds:=rfl
theorem j6 (ds:List D)(l h:Option Int):eI (.lst ds) l h=some (.lst (cutD ds l h)):=rfl
theorem LF {j:Int}(h1:-4611686018427387904<=j)(h2:j<4611686018427387904):iJ [.int j]=some (lL 0 j.toNat):=by simp[iJ,h1,h2]
theorem TY {i j:Int}(h1:-4611686018427387904<=i)(h2:i<4611686018427387904)(h3:-4611686018427387904<=j)(h4:j<4611686018427387904):n6 [.int i,.int j]=some (lL i (j-i).toNat):=by simp[n6,h1,h2,h3,h4]
theorem Vb {α:Type}(enc:α->D){xs:List α}{i:Int}{j:Nat}{x:α}(hi:i=(j:Int)\/i=(j:Int)-xs.length)(h:xs[j]?=some x):atI (xs.map enc) i=some (enc x):=by
 have hj:=(aQ.mp h).1
 unfold L2.atI L2.ixN
 rw[aF]
 rcases hi with rfl|rfl
 ·rw[if_pos (by omega),if_pos (by omega)]
  simp[h]
 ·rw[if_neg (by omega),if_pos (by omega)]
  have:((j:Int)-(xs.length:Int)+(xs.length:Int)).toNat=j:=by omega
  simp[this,h]
theorem KQ (xs:List D)(k:Nat):cutD xs none (some (k:Int))=xs.take k:=by
 unfold cutD
 rw[HT.sIx_none,HT.sIx_nat,nv,List.drop_zero]
 rcases km k xs.length with h|h
 ·rw[fV h]
 ·rw[hX h,dZ (av _),dZ h]
theorem KR (xs:List D)(k:Nat):cutD xs (some (k:Int)) none=xs.drop k:=by
 unfold cutD
 rw[HT.sIx_none,HT.sIx_nat]
 rcases km k xs.length with h|h
 ·rw[fV h,dZ (by rw[fK];omega)]
 ·rw[hX h,e9 (av _),e9 h]
  simp
theorem TZ (xs:List D)(k l:Nat):cutD xs (some (k:Int)) (some (l:Int))=(xs.drop k).take (l-k):=by
 unfold cutD
 rw[HT.sIx_nat,HT.sIx_nat]
 rcases km k xs.length with h|h
 ·rw[fV h]
  rcases km l xs.length with g|g
  ·rw[fV g]
  ·rw[hX g,dZ (by rw[fK];omega),dZ (by rw[fK];omega)]
 ·rw[hX h,e9 (av _),e9 h]
  simp
theorem KS {α:Type}{g:D->Env->Option Env}{p:BF}{f:EF}{ρ0:Env}(enc:α->D)(q:α->Bool)(h:α->D):∀(xs:List α),(∀x∈xs,∃ρ1,g (enc x) ρ0=some ρ1/\p ρ1=some (q x)/\(q x=true->f ρ1=some (h x)))->lT g p f ρ0 (xs.map enc)=some ((xs.filter q).map h)
 |[],_=>rfl
 |x::xs,H=>by
  obtain⟨ρ1,h1,h2,h3⟩:=H x am
  have ih:=KS enc q h xs λy hy=>H y (ap _ hy)
  show(g (enc x) ρ0).bind _=_
  rw[h1]
  show(p ρ1).bind _=_
  rw[h2]
  cases hq:q x with
  |false=>
   rw[bK,if_neg aX,mI (by rw[hq];exact aX)]
   exact ih
  |true=>
   rw[bK,if_pos rfl,h3 hq,mJ hq]
   show(lT g p f ρ0 (xs.map enc)).bind _=_
   rw[ih]
   rfl
end L3
namespace L3
open PySem PySem.Spec L2
structure gK (α:Type)[DecidableEq α] where
 enc:α->D
 py:α->bC
 dep:Nat
 is:∀x,(enc x).py=some (py x)
 lay:∀x,(py x).canLay0=true
 dp:∀x,(py x).depth<=dep
 eqv:∀x y,bC.eqv (py x) (py y)=decide (x=y)
section
variable {α β γ δ ε:Type}[DecidableEq α][DecidableEq β][DecidableEq γ][DecidableEq δ][DecidableEq ε]
theorem gK.eq (E:gK α)(h:E.dep<=60){neg:Bool}(x y:α):iH neg (E.enc x) (E.enc y)=some (.bl (if neg then !decide (x=y)else decide (x=y))):=by
 have h1:mD (E.py x)=true:=by unfold mD;rw[E.lay x,decide_eq_true (bS (E.dp x) h)];rfl
 have h2:mD (E.py y)=true:=by unfold mD;rw[E.lay y,decide_eq_true (bS (E.dp y) h)];rfl
 unfold iH
 rw[E.is x,E.is y]
 simp only[bK]
 rw[if_pos ⟨h1,h2⟩,E.eqv]
def Ei:gK Int:=⟨.int,.int,0,λ_=>by simp[D.py],λ_=>rfl,λ_=>by simp[bC.depth],λx y=>by show(x==y)=_;by_cases h:x=y<;>simp[h]⟩
def Eb:gK Bool:=⟨.bl,.bool,0,λ_=>by simp[D.py],λ_=>rfl,λ_=>by simp[bC.depth],λx y=>by cases x<;>cases y<;>rfl⟩
def cy:Option Int->D
 |none=>.non
 |some i=>.int i
def GN:Option Int->bC
 |none=>.none
 |some i=>.int i
def Eo:gK (Option Int):=⟨cy,GN,0,λx=>by cases x<;>simp[cy,GN,D.py],λx=>by cases x<;>rfl,λx=>by cases x<;>simp[GN,bC.depth],λx y=>by
 cases x<;>cases y
 ·rfl
 ·rfl
 ·rfl
 ·rename_i a b;show(a==b)=_;by_cases h:a=b<;>simp[h]⟩
theorem Me (E:gK α):∀xs:List α,D.pys (xs.map E.enc)=some (xs.map E.py)
 |[]=>by simp[D.pys]
 |x::xs=>by simp[D.pys,E.is x,Me E xs]
theorem Kz (E:gK α):∀xs:List α,bC.canLayAll0 (xs.map E.py)=true
 |[]=>by simp[bC.canLayAll0]
 |x::xs=>by simp[bC.canLayAll0,E.lay x,Kz E xs]
theorem KA (E:gK α):∀xs:List α,bC.depthAll (xs.map E.py)<=E.dep
 |[]=>by simp[bC.depthAll]
 |x::xs=>by
  have:=KA E xs
  have:=E.dp x
  simp only[bG,bC.depthAll]
  omega
theorem KI (E:gK α):∀xs ys:List α,bC.eqvAll (xs.map E.py) (ys.map E.py)=decide (xs=ys)
 |[],[]=>by simp[bC.eqvAll]
 |[],_::_=>by simp[bC.eqvAll]
 |_::_,[]=>by simp[bC.eqvAll]
 |x::xs,y::ys=>by
  simp only[bG,bC.eqvAll,E.eqv,KI E xs ys]
  by_cases h:x=y<;>by_cases g:xs=ys<;>simp[h,g]
def El (E:gK α):gK (List α):=⟨λxs=>.lst (xs.map E.enc),λxs=>.list (xs.map E.py),E.dep+1,λxs=>by simp[D.py,Me],λxs=>by simp[bC.canLay0,Kz],λxs=>by have:=KA E xs;simp only[bC.depth];omega,λxs ys=>by simp only[bC.eqv,KI]⟩
def E2 (A:gK α)(B:gK β):gK (α×β):=⟨λp=>.tup [A.enc p.1,B.enc p.2],λp=>.tuple [A.py p.1,B.py p.2],max A.dep B.dep+1,λp=>by simp[D.py,D.pys,A.is,B.is],λp=>by simp[bC.canLay0,bC.canLayAll0,A.lay,B.lay],
 λp=>by have:=A.dp p.1;have:=B.dp p.2;simp only[bC.depth,bC.depthAll];omega,λp q=>by
  simp only[bC.eqv,bC.eqvAll,A.eqv,B.eqv]
  obtain⟨a,b⟩:=p
  obtain⟨c,d⟩:=q
  by_cases h:a=c<;>by_cases g:b=d<;>simp[h,g]⟩
def E4 (A:gK α)(B:gK β)(C:gK γ)(M:gK δ):gK (α×β×γ×δ):=⟨λp=>.tup [A.enc p.1,B.enc p.2.1,C.enc p.2.2.1,M.enc p.2.2.2],λp=>.tuple [A.py p.1,B.py p.2.1,C.py p.2.2.1,M.py p.2.2.2],max (max A.dep B.dep) (max C.dep M.dep)+1,λp=>by simp[D.py,D.pys,A.is,B.is,C.is,M.is],λp=>by simp[bC.canLay0,bC.canLayAll0,A.lay,B.lay,C.lay,M.lay],
 λp=>by have:=A.dp p.1;have:=B.dp p.2.1;have:=C.dp p.2.2.1;have:=M.dp p.2.2.2;simp only[bC.depth,bC.depthAll];omega,λp q=>by
  simp only[bC.eqv,bC.eqvAll,A.eqv,B.eqv,C.eqv,M.eqv]
  obtain⟨a,b,c,d⟩:=p
  obtain⟨a',b',c',d'⟩:=q
  by_cases h:a=a'<;>by_cases g:b=b'<;>by_cases k:c=c'<;>by_cases l:d=d'<;>simp[h,g,k,l]⟩
end
theorem zok {neg:Bool}(a b:Int):iH neg (.int a) (.int b)=some (.bl (if neg then !decide (a=b)else decide (a=b))):=Ei.eq (by decide) a b
theorem zqu {neg:Bool}(a b:Bool):iH neg (.bl a) (.bl b)=some (.bl (if neg then !decide (a=b)else decide (a=b))):=Eb.eq (by decide) a b
theorem Mf {neg:Bool}(a b:Option Int):iH neg (cy a) (cy b)=some (.bl (if neg then !decide (a=b)else decide (a=b))):=Eo.eq (by decide) a b
end L3
namespace L3
open PySem PySem.Spec L2
open PyProof.Rows hiding St
section
variable {X:Cx}{ct:Nat->af}{K:aa}{n m k:Nat}
theorem IntsAre.of {ns:List Int}{us:List ae}(h:bT (ns.map V.int) us):IntsAre us ns:=Sd h
theorem SX (hc:X.calm=true):eo X (.builtin "max") (λxs H Q=>∃(a:af) (ns:List Int),xs=[.ref a]/\fm X.K H a (ns.map V.int)/\ns≠[]/\∀M,M∈ns->(∀z∈ns,z<=M)->Q (.int M) H):=by
 intro ah s σ H xs us Q I r h
 obtain⟨a,ns,rfl,hq,jY,q⟩:=h
 obtain⟨u,rfl,ru⟩:=r.one
 cases(show u=ae.ref a from ru)
 obtain⟨bZ,rv,pl,hz⟩:=I.list hq
 have hi:=IntsAre.of rv
 obtain⟨ys,e⟩:=hi.allInts.items
 have pE:ns=ys.toList.map (·.1):=by rw[←hi.numsOf,←nums_intItems,←e]
 have hsz:0<ys.size:=by
  have h3:0<ns.length:=oh.mpr jY
  rw[pE,aF,dm]at h3;exact h3
 have wU:s.heap.IsList a (intItems ys):=e▸pl.isList
 refine max_intList (I.ok.hd hc) wU hsz λv h' tk hv hk=>?_
 obtain⟨t,rfl⟩:=intItems_at hv
 obtain⟨h1,h2⟩:=argBest_gt (numAt ys) (ys.size-1)
 refine⟨.int (numAt ys (argBest (λi j=>decide (numAt ys i > numAt ys j)) (ys.size-1))),H,I.kept (t':=tk) hk,⟨_,rfl⟩,q _ ?_ λz hz=>?_⟩
 ·rw[pE,numAt_eq];exact getD_mem (by rw[aF,dm];omega)
 ·rw[pE]at hz
  obtain⟨j,hj,rfl⟩:=mem_getD hz
  rw[aF,dm]at hj
  rw[←numAt_eq];exact h2 j (by omega)
theorem KU:∀{bs:List Bool} {us:List ae},bT (bs.map V.bl) us->us=bs.map ae.bool
 |[],_,.nil=>rfl
 |b::bs,_,.cons r t=>by rw[KU t];cases(show _=ae.bool b from r);rfl
theorem K8 (hc:X.calm=true):eo X (.builtin "all") (λxs H Q=>∃(a:af) (bs:List Bool),xs=[.ref a]/\fm X.K H a (bs.map V.bl)/\Q (.bl (bs.all id)) H):=by
 intro ah s σ H xs us Q I r h
 obtain⟨a,bs,rfl,hq,q⟩:=h
 obtain⟨u,rfl,ru⟩:=r.one
 cases(show u=ae.ref a from ru)
 obtain⟨bZ,rv,pl,hz⟩:=I.list hq
 have hb:=KU rv
 subst hb
 have hl:=pl.isList
 have lz:a<s.heap.objs.size:=by obtain⟨_,e,_⟩:=hl;exact aJ e
 refine PySem.call_all_walk (wpAny_pyIter_list hl ?_)
 refine⟨s.heap.objs.size,[s.heap.objs.size,a],[s.heap.objs.size],(bs.map ae.bool).toArray.size,_,_,λi=>(bs[i]?).getD true,rfl,Walks.list (A:=X.A.in1) (I.ok.hd hc) _ a (bc lz) (bs.map ae.bool).toArray,
  ⟨⟨_,bq _ rfl,rfl,rfl⟩,hl.push _⟩,λi v s' Q' E' hP hQ=>?_,λh' tk hk=>?_⟩
 ·have hP:(bs.map ae.bool)[i]?=some v:=by simpa using hP
  rw[aW]at hP
  obtain⟨b,hb,rfl⟩:=cw.mp hP
  simp only[hb,Option.getD_some]at hQ
  exact cV hQ
 ·have e:((aE (bs.map ae.bool).toArray.size).all λi=>(bs[i]?).getD true)=bs.all id:=by
   rw[aT,aF];exact PyProof.Rows.LSm.range_all bs
  rw[e]
  refine⟨.bl (bs.all id),H,I.kept (t':=tk) λb o FJ=>hk b o (λhm=>?_) (aC _ FJ),rfl,q⟩
  rw[aH.mp hm]at FJ
  exact ee _ (aJ FJ)
def fS:List D->Option (List Int)
 |[]=>some []
 |.int i::ds=>(fS ds).bind λns=>some (i::ns)
 |_=>none
theorem He:∀{ds:List D} {ns:List Int},fS ds=some ns->ds=ns.map .int
 |[],_,e=>by cases e;rfl
 |d::ds,ns,e=>by
  cases d with
  |int i=>
   obtain⟨ms,h1,h2⟩:=aY (show(fS ds).bind _=_ from e)
   cases h2
   rw[He h1];rfl
  |_=>cases e
theorem K9:∀ns:List Int,fS (ns.map .int)=some ns
 |[]=>rfl
 |n::ns=>by show(fS (ns.map .int)).bind _=_;rw[K9 ns];rfl
theorem Pr.intV {F G:Hp}:∀{ns:List Int} {vs:List V},Pr (Al K ct F G n) (ns.map .int) vs->vs=ns.map V.int
 |[],_,.nil=>rfl
 |i::ns,_,.cons h t=>by rw[Pr.intV t,h.int];rfl
def kU:List D->Option (List Bool)
 |[]=>some []
 |.bl i::ds=>(kU ds).bind λns=>some (i::ns)
 |_=>none
theorem KB:∀{ds:List D} {ns:List Bool},kU ds=some ns->ds=ns.map .bl
 |[],_,e=>by cases e;rfl
 |d::ds,ns,e=>by
  cases d with
  |bl i=>
   obtain⟨ms,h1,h2⟩:=aY (show(kU ds).bind _=_ from e)
   cases h2
   rw[KB h1];rfl
  |_=>cases e
theorem Pr.blV {F G:Hp}:∀{ns:List Bool} {vs:List V},Pr (Al K ct F G n) (ns.map .bl) vs->vs=ns.map V.bl
 |[],_,.nil=>rfl
 |i::ns,_,.cons h t=>by rw[Pr.blV t,h.bl];rfl
def Bu:List Int->Option Int
 |[]=>none
 |x::xs=>some (xs.foldl max x)
theorem La:∀(xs:List Int) (x:Int),(xs.foldl max x=x\/xs.foldl max x∈xs)/\x<=xs.foldl max x/\∀z∈xs,z<=xs.foldl max x
 |[],x=>⟨.inl rfl,fQ _,λz h=>by cases h⟩
 |y::xs,x=>by
  obtain⟨h1,h2,h3⟩:=La xs (max x y)
  refine⟨?_,by show x<=xs.foldl max (max x y);omega,λz hz=>?_⟩
  ·rcases h1 with h1|h1
   ·show xs.foldl max (max x y)=x\/xs.foldl max (max x y)∈y::xs
    rw[h1]
    rcases Int.le_total x y with h|h
    ·rw[Int.max_eq_right h];exact .inr am
    ·rw[Int.max_eq_left h];exact .inl rfl
   ·exact .inr (ap _ h1)
  ·rcases aA.mp hz with rfl|hz
   ·show z<=xs.foldl max (max x z);omega
   ·exact h3 z hz
theorem T3 {ns:List Int}{M:Int}(h:Bu ns=some M):M∈ns/\∀z∈ns,z<=M:=by
 cases ns with
 |nil=>cases h
 |cons x xs=>
  cases h
  obtain⟨h1,h2,h3⟩:=La xs x
  refine⟨?_,λz hz=>?_⟩
  ·rcases h1 with h1|h1
   ·rw[h1];exact am
   ·exact ap _ h1
  ·rcases aA.mp hz with rfl|hz
   ·exact h2
   ·exact h3 z hz
def QH:List D->Option D
 |[.lst ds]=>(fS ds).bind λns=>some (.int ns.sum)
 |_=>none
def rO:List D->Option D
 |[.lst ds]=>(fS ds).bind λns=>(Bu ns).bind λM=>some (.int M)
 |_=>none
def rC:List D->Option D
 |[.lst ds]=>(kU ds).bind λbs=>some (.bl (bs.all id))
 |_=>none
theorem T4 {F H:Hp}{vs:List V}{ds:List D}{ns:List Int}(s:bJ F H)(l:iS K ct F H [n] [.lst ds] vs)(e:fS ds=some ns):∃a,vs=[.ref a]/\fm K H a (ns.map V.int):=by
 cases l with
 |cons h t=>
  cases t
  obtain⟨a,us,rfl,ha,hp⟩:=h.lst s
  have:=He e
  subst this
  have:=hp.intV
  subst this
  exact⟨a,rfl,ha⟩
theorem Vc:tR K ct [n] k (λxs H Q=>∃(a:af) (ns:List Int),xs=[.ref a]/\fm K H a (ns.map V.int)/\ns≠[]/\∀M,M∈ns->(∀z∈ns,z<=M)->Q (.int M) H) rO:=by
 intro F H vs ds d Q s l e w
 match ds,l,e with
 |[.lst xs],l,e=>
  obtain⟨ns,h1,h2⟩:=aY (show(fS xs).bind _=_ from e)
  obtain⟨M,h3,h4⟩:=aY h2
  cases h4
  obtain⟨a,rfl,ha⟩:=T4 s l h1
  obtain⟨m1,m2⟩:=T3 h3
  refine⟨a,ns,rfl,ha,(λz=>by rw[z]at m1;cases m1),λM' h5 h6=>?_⟩
  have:M'=M:=Int.le_antisymm (m2 M' h5) (h6 M m1)
  subst this
  exact w _ F H (.refl s) (Al.of (.int _))
theorem Mg:tR K ct [n] k (λxs H Q=>∃(a:af) (bs:List Bool),xs=[.ref a]/\fm K H a (bs.map V.bl)/\Q (.bl (bs.all id)) H) rC:=by
 intro F H vs ds d Q s l e w
 match ds,l,e with
 |[.lst xs],l,e=>
  obtain⟨bs,h1,h2⟩:=aY (show(kU xs).bind _=_ from e)
  cases h2
  cases l with
  |cons h t=>
   cases t
   obtain⟨a,us,rfl,ha,hp⟩:=h.lst s
   have:=KB h1
   subst this
   have:=hp.blV
   subst this
   exact⟨a,bs,rfl,ha,w _ F H (.refl s) (Al.of (.bl _))⟩
theorem Pr.ofInts {F H:Hp}:∀ns:List Int,Pr (Al K ct F H 0) (ns.map .int) (ns.map V.int)
 |[]=>.nil
 |n::ns=>.cons (show Dt K ct F (.int n) (.int n)from .int n) (Pr.ofInts ns)
end
end L3
namespace L3
open PySem PySem.Spec L2
open PyProof.Rows hiding St
def pW (H:Hp)(x:af):Hp:=λb=>if b=x then none else H b
theorem LG (H:Hp)(x:af):bJ (pW H x) H:=λb o h=>by
 unfold pW at h
 by_cases e:b=x
 ·rw[if_pos e]at h;cases h
 ·rw[if_neg e]at h;exact h
theorem Wu (H:Hp)(x:af):pW H x x=none:=if_pos rfl
theorem CN {H:Hp}{x b:af}(h:b≠x):pW H x b=H b:=if_neg h
def pK (K:aa)(ct:Nat->af)(cs:List Nat)(pm:List Nat)(mi:Nat->List D->Option D):Sp:=λvs H Q _=>∃(F:Hp) (c:Nat) (ds:List D) (d:D) (x dx:af) (us:List V),c∈cs/\vs=.ref x::us/\H x=some (.ins (ct c) dx [])/\F x=none/\bJ F H/\iS K ct F (pW H x) pm ds us/\mi c ds=some d /\
 ∀F' H',bJ F F'->bJ (pW H x) H'->bJ F' H'->(∀a o,pW H x a=some o->jB o->F a=none->F' a=none)->F' x=none->Ow K ct F' H' 1 d (.ref x) [x]->Q .non H'
theorem pK.len {K:aa}{ct:Nat->af}{cs pm:List Nat}{mi:Nat->List D->Option D}{ps:List aR}(h:pm.length+1=ps.length):∀vs H Q E,pK K ct cs pm mi vs H Q E->vs.length=ps.length:=by
 rintro vs H Q E ⟨F,c,ds,d,x,dx,us,_,rfl,_,_,_,l,_⟩
 rw[aP,l.length,h]
def vI (N:List aR)(b:SF)(c:Nat)(ds:List D):Option D:=(b (some (.obj c [] [])::startD N.tail ds)).bind λo=>match o with
 |.nx ρ=>(ρ[0]?).join
 |_=>none
section
variable {X:Cx}{ct:Nat->af}{ms:List Mo}{rk n m k:Nat}{a b c e tg:Expr}{f g h:EF}{u w:SF}{pos:cD}
theorem jr {P:bg}{w:bE}{K:aa}{mg:aR->Option ae}{base:aK}{x qual:aR}{st:bN}{fa:af}{fd:aN}{N0:aR}{N ps:List aR}{kk:Nat}{cs pm:List Nat}{bf:SF}(Fn:Fun2 K x qual st fa fd)(S:bA (N0::N) ps (bb st))(AK:pm.length+1=ps.length)(Gb:ms.length=N.length)(mL:pm.length<=N.length)
  (AG:∀(i n:Nat),pm[i]?=some n->ms[i]?=some (Mo.al n)\/(n=0/\ms[i]?=some (Mo.ow 0)))
  (body:∀(x:af) (ie:ae) (A:bv) (outer:List PySem.Env) (s:ak) (H:Hp) (E:XK),d8 kk (A.deeper (envOfC qual (bb st) s.heap.objs.size fa ie))->oS (mr eU P w K mg base (N0::N) qual (bb st) fa ie A outer s H E).nox ct (.so x::ms) rk (gz st) bf) :
  cG P w K mg base eU (kk+1) fa fd ps (pK K ct cs pm (vI (N0::N) bf)):=by
 refine Fn.ok S (pK.len AK) λie A outer s H vs Q E hr h=>?_
 obtain⟨F,c,ds,d,x,dx,us,hc,rfl,hx,hF,sF,l,hm,q⟩:=h
 obtain⟨t,pt,qt⟩:=body x ie A outer s H E hr
 refine⟨t,pt,?_⟩
 obtain⟨o,h1,h2⟩:=aY hm
 have AC:ds.length=us.length:=l.length'
 have OL:us.length=pm.length:=l.length
 have ow:Ow K ct F H 1 (.obj c [] []) (.ref x) [x]:=.inr (qV.obj (vs:=[]) hF hx rfl .nil)
 have X6:bJ F (pW H x):=λb o hb=>by
  rw[CN (λe=>by rw[e,hF]at hb;cases hb)]
  exact sF _ _ hb
 refine qt F (pW H x) F H (some (.obj c [] [])::startD N ds) (L2.start (N0::N) (.ref x::us)) o _ ⟨.refl _,LG H x,sF,λ_ _ _ _ h=>h,[x],?_,by simp,λa z=>by rw[aH]at z;subst z;exact Wu H _⟩ h1 ?_
 ·have e:L2.start (N0::N) (.ref x::us)=some (.ref x)::(us.map some++aG (N.length-us.length) none):=by
   unfold L2.start
   simp
  rw[e]
  unfold startD
  rw[AC]
  exact SL.so (fp:=[]) ow (SL.start _ l AG (by omega))
 ·cases o with
  |nx ρ=>
   intro σ F' H' r
   obtain⟨fp,sl,nd,hb⟩:=r.sl
   cases sl with
   |no _=>cases h2
   |so JH _=>
    cases h2
    exact q F' H' r.f0 r.bh r.fh r.nf (JH.cells x am).1 JH
  |rt d'=>cases h2
  |bk ρ=>cases h2
  |ct ρ=>cases h2
end
end L3
namespace L3
open PySem PySem.Spec L2
open PyProof.Rows hiding St
theorem LH {f:aR}{y:V}:∀{ns:List aR} {vs:List V},ns.length=vs.length->ns.contains f=false->iw f y (ns.zip vs)=(ns++[f]).zip (vs++[y])
 |[],[],_,_=>rfl
 |[],_::_,h,_=>by simp at h
 |_::_,[],h,_=>by simp at h
 |n::ns,v::vs,h,hc=>by
  rw[oI,nH]at hc
  have hn:¬n=f:=λe=>by rw[e]at hc;simp at hc
  have ih:=LH (f:=f) (y:=y) (ns:=ns) (vs:=vs) (by simpa using h) hc.2
  show iw f y ((n,v)::ns.zip vs)=(n,v)::(ns++[f]).zip (vs++[y])
  rw[←ih]
  show(if n=f then _ else _)=_
  rw[if_neg hn]
theorem Ow.obj_inv {ct:Nat->af}{K:aa}{F H:Hp}{c k:Nat}{ns:List aR}{ds:List D}{v:V}{fp:List af}(h:Ow K ct F H (k+1) (.obj c ns ds) v fp):∃a dx vs fr,v=.ref a/\fp=a::fr/\F a=none/\H a=some (.ins (ct c) dx (ns.zip vs))/\ns.length=vs.length/\eE (Ow K ct F H k) ds vs fr:=by
 rcases h with⟨h,_⟩|h
 ·cases h
 ·cases h with
  |obj h1 h2 h3 h4=>exact⟨_,_,_,_,rfl,rfl,h1,h2,h3,h4⟩
section
variable {X:Cx}{ct:Nat->af}{ms:List Mo}{rk n m k:Nat}{a b c e tg:Expr}{f g h:EF}{u w:SF}{pos:cD}{x0:af}
def jQ (cs:List Nat)(x:aR)(f:EF):SF:=λρ=>(f ρ).bind λd=>(eV 0 ρ).bind λo=>match o with
 |.obj c ns ds=>if cs.contains c=true/\ns.contains x=false/\ns.length<900 then some (.nx (ρ.set 0 (some (.obj c (ns++[x]) (ds++[d])))))else none
 |_=>none
theorem RS.self {K:aa}{F0 B F H F' H':Hp}{ρ:Env}{σ:St}{d:D}(rs:RS K ct F0 B (.so x0::ms) F H ρ σ)(hd:ρ[0]?=some (some d)):σ[0]?=some (some (.ref x0))/\Ow K ct F H 1 d (.ref x0) [x0]/\B x0=none /\
  ∀(F' H':Hp) (d':D),bJ F F'->bJ B H'->bJ F' H'->(∀a o,B a=some o->jB o->F0 a=none->F' a=none)->(∀a o,H a=some o->a≠x0->H' a=some o)->(∀a o,H a=some o->a≠x0->jB o->F a=none->F' a=none)->Ow K ct F' H' 1 d' (.ref x0) [x0]->RS K ct F0 B (.so x0::ms) F' H' (ρ.set 0 (some d')) σ:=by
 obtain⟨fp,sl,nd,hb⟩:=rs.sl
 cases sl with
 |no _=>simp at hd
 |so ow t=>
  simp at hd
  subst hd
  refine⟨rfl,ow,hb _ am,λF' H' d' s1 s2 s3 s4 k1 k2 o'=>⟨rs.f0.trans s1,s2,s3,s4,_,.so o' (t.frame s1 λa z=>?_),nd,hb⟩⟩
  obtain⟨hn,o,ho,nt⟩:=t.cells a z
  have ne:a≠x0:=λe=>(bH.mp nd).1 (by rw[←e];exact z)
  exact⟨(k1 a o ho ne).trans ho.symm,k2 a o ho ne nt hn⟩
theorem xG {x s:aR}{cs:List Nat}{p1 pos':cD}(hc:∀c∈cs,kT X.K (ct c)/\eX X.K (ct c) x)(he:XE X ct (.so x0::ms) 0 e f)(hN:X.N[0]?=some s:=by rfl)(hv:pC X.env.scope s:=by first|exact Or.inl rfl|exact Or.inr (Or.inl rfl)|exact Or.inr (Or.inr rfl))(hd:(s==("__debug__":aR))=false:=by decide)
  (jD:(s==("__classdict__":aR))=false:=by decide) (hs:eA e (some (.Attribute (.Name s p1) x pos')) pos.line X.env=pure false:=by rfl):XS X ct (.so x0::ms) rk (.Assign [.Attribute (.Name s p1) x pos'] e pos) (jQ cs x f):=by
 obtain⟨t,pt,qt⟩:=he
 refine⟨_,VW (sg hN hv hd jD) pt hs,λF0 B F H ρ σ o E rs e z=>?_⟩
 obtain⟨d,h1,h2⟩:=aY e
 obtain⟨ob,h3,h4⟩:=aY h2
 refine qt F0 B F H ρ σ d _ rs h1 λy F1 H1 x1 l=>?_
 have kR:=rs.ext x1
 obtain⟨hσ,ow,hB,put⟩:=kR.self (F':=F) (H':=H) (wf h3)
 refine⟨_,hσ,?_⟩
 cases ob with
 |obj c ns ds=>
  dsimp only at h4
  by_cases hz:cs.contains c=true/\ns.contains x=false/\ns.length<900
  ·rw[if_pos hz]at h4
   cases h4
   obtain⟨a,dx,vs,fr,e1,e2,hF,hH,hl,ol⟩:=ow.obj_inv
   cases e1
   cases e2
   have hh:=hc c (by simpa using hz.1)
   refine⟨x0,_,dx,_,rfl,hH,hh.1,hh.2,by rw[d7,←hl,kn];omega,?_⟩
   rw[LH hl hz.2.1]
   refine z σ F1 _ (put F1 _ _ (.refl _) (λb o h=>?_) (λb o h=>?_) kR.nf (λb o h ne=>by rw[zy ne];exact h) (λb o h ne _ hn=>hn) (.inr (qV.obj (vs:=vs++[y]) hF yf (by simp[hl]) ?_)))
   ·rw[zy (λe=>by rw[e,hB]at h;cases h)];exact kR.bh _ _ h
   ·rw[zy (λe=>by rw[e,hF]at h;cases h)];exact kR.fh _ _ h
   ·have o1:eE (Ow X.K ct F1 (upd H1 x0 (.ins (ct c) dx ((ns++[x]).zip (vs++[y])))) 0) ds vs []:=ol.mono λ_ _ _ _ q=>⟨q.1,q.2⟩
    have:=o1.append (eE.cons (f:=[]) (g:=[]) (R:=Ow X.K ct F1 (upd H1 x0 (.ins (ct c) dx ((ns++[x]).zip (vs++[y])))) 0) ⟨l,rfl⟩ .nil)
    exact this
  ·rw[if_neg hz]at h4;cases h4
 |_=>cases h4
variable {kk:Nat}{fa:af}{fd:aN}{ps:List aR}{pm cs:List Nat}{mi:Nat->List D->Option D}{x:aR}{pp:cD}
theorem D9 {c0:Nat}{es:List Expr}{ns nd:List Nat}{fs:Env->Option (List D)}{gZ:List V}{jN:List D}{kW:List ae}(M:Mk X.K (ct c0) fa)(qX:c0∈cs)(Fn:cG X.prog X.w X.K X.mg X.base eU kk fa fd ps (pK X.K ct cs (ns++nd) mi))(hr:d8 (kk+1) X.A)(hg:Gl X x)(hm:X.mg x=some (.ref (ct c0)))
  (hb:bM X.K fd ps kW) (hd:bT gZ kW) (nW:∀F G,iS X.K ct F G nd jN gZ) (ha:XA X ct ms (e::es) ns fs)
  (kY:(x==("__debug__":aR))=false:=by decide) (he:ax (e::es) X.env=(false,bO e X.env)::ax es X.env:=by rfl) (iu:(cB pos (ax es X.env)).any (·.1)=false:=by rfl) :
  XO X ct ms 1 (.Call (.Name x pp) (e::es) [] pos) (λρ=>(fs ρ).bind λds=>mi c0 (ds++jN)):=by
 obtain⟨t,pt,_,qt⟩:=ha
 refine⟨_,UG M Fn hr hg hm hb hd nc pt kY he iu,λF0 B F H ρ σ r Q rs e w=>?_⟩
 obtain⟨ds,h1,h2⟩:=aY e
 refine qt F0 B F H ρ σ ds _ rs h1 λvs F1 H1 x1 l y dy hy Om jY=>?_
 have sH:bJ H1 (pW (upd (upd H1 dy (.own y)) y (.ins (ct c0) dy [])) y):=λb o h=>by
  have n1:b≠y:=yw h hy
  rw[CN n1,zy n1,zy (yw h Om)]
  exact h
 have Qc:bJ H1 (upd (upd H1 dy (.own y)) y (.ins (ct c0) dy [])):=sH.trans (LG _ _)
 refine⟨F1,c0,ds++jN,r,y,dy,vs++gZ,qX,rfl,yf,x1.fh.free hy,x1.fh.trans Qc,iS.mono (.refl _) sH (iS.append (nW F1 H1) l),h2,λF' H' s1 s2 s3 s4 hn ow=>⟨rfl,?_⟩⟩
 refine w _ F' H' [y] ⟨x1.ff.trans s1,(x1.hh.trans sH).trans s2,s3,λb o h t n=>s4 b o (sH _ _ (x1.hh _ _ h)) t (x1.nf b o h t n)⟩ ow (by simp) λb z=>?_
 rw[aH]at z
 subst z
 exact x1.hh.free hy
theorem T5 {C:af}{sp:Sp}{gZ:List V}{ds:List ae}{E:XK}{m:aR}{p dz:cD}{es:List Expr}{t:TA}{pl:mQ Bool}{mc:ae}(Fn:cG X.prog X.w X.K X.mg X.base eU kk fa fd ps sp)(hr:d8 kk X.A)(hg:Gl X x)(hm:X.mg x=some (.ref C))
  (h1:dh X.K (.ref C) "__getattribute__"=some (some (.builtin "type.__getattribute__"))) (h2:gU X.K C mc=true) (h3:gS X.K (.ref C) mc m=some (.val (.ref fa))) (hk:aq X.K (.ref fa)=true) (hb:bM X.K fd ps ds) (hd:bT gZ ds) (hx:iG eU X E) (ha:PA X (e::es) t)
  (kY:(x==("__debug__":aR))=false:=by decide) (m8:ax (e::es) X.env=(false,bO e X.env)::ax es X.env:=by rfl) (iu:(cB pos (ax es X.env)).any (·.1)=false:=by rfl)
  (ht:bO (.Call (.Attribute (.Name x p) m dz) (e::es) [] pos) X.env=(do
   let ov ← bO (.Name x p) X.env
   fZ dz.atName
   let(f,first) ← dQ [ov] (fX ov m pl)
   iN pos f first (cB pos (ax (e::es) X.env)) (eZ pos (dD [] X.env))):=by rfl) :
  PE X (.Call (.Attribute (.Name x p) m dz) (e::es) [] pos) (tD sp gZ E t):=by
 intro ah s σ H Q I h
 refine fk (pl:=pl) (D2 I hg hm ?_ kY) ht
 refine PySem.W.method_cls I.kIn h1 (PySem.W.cls_value I.kIn h2 h3 rfl ?_)
 have I1:Inv X ah σ H { s with toks:=s.toks+1 }:=I.tok _
 refine fY (first:=[]) (h₀:=X.base) I.ok.mod.kin hk (dc (ha pos ah _ σ H _ I1 h) λus s2 ⟨vs,H2,I2,r,q2⟩=>⟨I2.kIn,?_⟩) m8 iu
 exact Ee (us:=us) (vs:=vs) Fn hr hb hd hx I2 r q2
theorem iS.flat {K:aa}{F G G':Hp}{ns:List Nat}{ds:List D}{vs:List V}(h:iS K ct F G ns ds vs)(e:ns.all (· == 0)=true):iS K ct F G' ns ds vs:=by
 induction h with
 |nil=>exact .nil
 |cons h t ih=>
  rw[List.all_cons,cH]at e
  cases eq_of_beq e.1
  exact .cons h (ih e.2)
def mE (cs:List Nat)(fs:Env->Option (List D))(mi:Nat->List D->Option D):SF:=λρ=>(eV 0 ρ).bind λo=>(fs ρ).bind λds=>match o with
 |.obj c [] []=>if cs.contains c=true then(mi c ds).bind λd=>some (.nx (ρ.set 0 (some d)))else none
 |_=>none
theorem HD {C:af}{s m:aR}{p p1 d5 dz:cD}{es:List Expr}{ns:List Nat}{fs:Env->Option (List D)}{pl:mQ Bool}{mc:ae}(Fn:cG X.prog X.w X.K X.mg X.base eU kk fa fd ps (pK X.K ct cs ns mi))(hr:d8 kk X.A)(hm:X.mg x=some (.ref C))
  (h1:dh X.K (.ref C) "__getattribute__"=some (some (.builtin "type.__getattribute__"))) (h2:gU X.K C mc=true) (h3:gS X.K (.ref C) mc m=some (.val (.ref fa))) (hk:aq X.K (.ref fa)=true) (hb:bM X.K fd ps []) (hz:ns.all (· == 0)=true) (ha:XA X ct (.so x0::ms) es ns fs)
  (hg:Gl X x:=by rfl) (hN:X.N[0]?=some s:=by rfl) (hv:pC X.env.scope s:=by first|exact Or.inl rfl|exact Or.inr (Or.inl rfl)|exact Or.inr (Or.inr rfl)) (hd:(s==("__debug__":aR))=false:=by decide)
  (jD:(s==("__classdict__":aR))=false:=by decide) (kY:(x==("__debug__":aR))=false:=by decide) (m8:ax (.Name s p1::es) X.env=(false,bO (.Name s p1) X.env)::ax es X.env:=by rfl) (iu:(cB d5 (ax es X.env)).any (·.1)=false:=by rfl)
  (ht:bO (.Call (.Attribute (.Name x p) m dz) (.Name s p1::es) [] d5) X.env=(do
   let ov ← bO (.Name x p) X.env
   fZ dz.atName
   let(f,first) ← dQ [ov] (fX ov m pl)
   iN d5 f first (cB d5 (ax (.Name s p1::es) X.env)) (eZ d5 (dD [] X.env))):=by rfl)
  (vH:eA (.Call (.Attribute (.Name x p) m dz) (.Name s p1::es) [] d5) none pos.line X.env=pure false:=by rfl) :
  XS X ct (.so x0::ms) rk (.Expr (.Call (.Attribute (.Name x p) m dz) (.Name s p1::es) [] d5) pos) (mE cs fs mi):=by
 obtain⟨t,pt,_,qt⟩:=ha
 refine⟨_,LJ (T5 (E:=E0) Fn hr hg hm h1 h2 h3 hk hb .nil nc (u5 (sg hN hv hd jD) pt m8) kY m8 iu ht) vH,λF0 B F H ρ σ o E rs e z=>?_⟩
 obtain⟨ob,ds,g1,g2,g3⟩:=dL e
 obtain⟨hσ,ow,hB,put⟩:=rs.self (F':=F) (H':=H) (wf g1)
 refine⟨_,hσ,qt F0 B F H ρ σ ds _ rs g2 λvs F1 H1 x1 l=>?_⟩
 have kR:=rs.ext x1
 obtain⟨hσ,ow,hB,put⟩:=kR.self (F':=F) (H':=H) (wf g1)
 match ob,g3,ow with
 |.obj c [] [],g3,ow=>
  dsimp only at g3
  by_cases hc:cs.contains c=true
  ·rw[if_pos hc]at g3
   obtain⟨d,g4,g5⟩:=aY g3
   cases g5
   obtain⟨a,dx,us,fr,e1,e2,hF,hH,hl,ol⟩:=ow.obj_inv
   cases e1
   cases e2
   refine⟨F1,c,ds,d,x0,dx,vs++[],by simpa using hc,rfl,hH,hF,x1.fh,?_,g4,λF' H' s1 s2 s3 s4 hn o'=>?_⟩
   ·rw[bQ];exact l.flat hz
   ·have sB:bJ B (pW H1 x0):=λb o h=>by
     rw[CN (λe=>by rw[e,hB]at h;cases h)]
     exact kR.bh _ _ h
    exact z σ F' H' (put F' H' d s1 (sB.trans s2) s3 (λb o h t n=>s4 b o (sB _ _ h) t (kR.nf b o h t n)) (λb o h ne=>s2 _ _ (by rw[CN ne];exact h)) (λb o h ne t Gc=>s4 b o (by rw[CN ne];exact h) t Gc) o')
  ·rw[if_neg hc]at g3;cases g3
end
end L3
namespace L3
open PySem PySem.Spec L2
open PyProof.Rows hiding St
structure jH (K:aa)(mg:aR->Option ae)(x:aR)(st:bN)(ps:List aR)(f:af)(fd:aN):Prop where
 fn:Fun2 K x x st f fd
 mgx:mg x=some (.ref f)
 bd:bM K fd ps []
structure Dm (K:aa)(C:af)(m qual:aR)(st:bN)(ps:List aR)(f:af)(fd:aN):Prop where
 fn:Fun2 K m qual st f fd
 me:nU K C m f
 bd:bM K fd ps []
structure Dc (K:aa)(mg:aR->Option ae)(x:aR)(C:af):Prop where
 cl:kT K C
 mgx:mg x=some (.ref C)
 mks:dF K C=true
 kp:aq K (.ref C)=true
structure Dq (K:aa)(C:af)(m:aR)(f:af):Prop where
 sp:dh K (.ref C) "__getattribute__"=some (some (.builtin "type.__getattribute__"))
 rd:gU K C (.type "type")=true
 fc:gS K (.ref C) (.type "type") m=some (.val (.ref f))
theorem zw {K:aa}{x qual:aR}{st:bN}{f:af}{oc:ae}{od an:Option af}{vO:Array (Option ae)}{dV kV doc pm ie ct:ae}(l:K.lookup f=some ⟨oc,od,.func (fR x qual (kP st) (gz st) (bb st) dV kV doc pm an ie ct),vO⟩)
  (c:aD K ie qual=true) (k:aq K (.ref f)=true):Fun2 K x qual st f (fR x qual (kP st) (gz st) (bb st) dV kV doc pm an ie ct):=⟨⟨oc,od,dV,kV,doc,pm,an,ie,ct,vO,rfl,l,c⟩,k⟩
theorem Vd {K:aa}{fd:aN}{ps:List aR}{ds:List ae}{T:af}{o:cN}{items:Array ae}{n:Nat}(hd:fd.defaults=.ref T)(ho:K.lookup T=some o)(hs:o.data=.seq items n)
  (h:∀us:List ae,(us++ds).length=ps.length->∃k,bindArgs fd ⟨us,[]⟩=seqItems? fd.defaults >>= k/\k (some items)=pure (ps.zip (us++ds))):bM K fd ps ds:=λs us X hl=>by
 obtain⟨k,h1,h2⟩:=h us hl
 exact PySem.W.binds_K X hd ho hs h1 h2
theorem qy (m:Nat){K:aa}{fd:aN}{ps:List aR}{ds:List ae}{T:af}{o:cN}{items:Array ae}{n:Nat}(ho:K.lookup T=some o)(h:∀us:List ae,us.length=m->∃k,bindArgs fd ⟨us,[]⟩=seqItems? fd.defaults >>= k/\k (some items)=pure (ps.zip (us++ds)))(hd:fd.defaults=.ref T:=by rfl)(hs:o.data=.seq items n:=by rfl)(hm:m+ds.length=ps.length:=by rfl):bM K fd ps ds :=
 Vd hd ho hs λus hl=>h us (by rw[bn]at hl;omega)
end L3
namespace L3
open PySem PySem.Spec L2
open PyProof.Rows hiding St
def Ez (x:aR):It:=⟨λi _=>∃c,x.cps[i]?=some c,λi H v H'=>H'=H/\∃c,x.cps[i]?=some c/\v=.str ⟨#[c]⟩,λi _=>x.cps[i]?=none⟩
theorem T6 {P:bg}{w:bE}{K:aa}{tg:Expr}(x:aR)(t:Tok)(it:af):Turn P w K tg (Ez x) [it] it (λi h=>h.IsStrIter it (cE x) x t i) where
 mem:=by simp
 obj:=λi h st b hb=>by
  have e:b=it:=by simpa using hb
  subst e
  obtain⟨o,e,c,d⟩:=st
  exact⟨o,e,λv z=>by rw[d]at z;cases z⟩
 keep:=λi h h' st k=>by
  obtain⟨o,e,c,d⟩:=st
  exact⟨o,k it (by simp) o e,c,d⟩
 item:=by
  intro X hP hw hK hc i ah s σ H E I hf st hg
  subst hP hw hK
  obtain⟨c,hx⟩:=hg
  obtain⟨f0,f1,f2,f3,f4,f5⟩:=hf it (by simp)
  have fin:∀h':aK,h'.IsStrIter it (cE x) x t (i+1)->dY it s.heap h'->aV (aZ X.prog X.w) X.A (gx tg (.ref it) (.str ⟨#[c]⟩ s.toks)) (λ_ s2=>∃v H',Inv X ah σ H' s2/\RelV v (.str ⟨#[c]⟩ s.toks)/\(Ez x).yld i H v H'/\s2.heap.IsStrIter it (cE x) x t (i+1)/\∀b∈[it],H' b=none) E { s with heap:=h',toks:=s.toks+1 }:=λh' kC sb=>by
   have I1:Inv X ah σ H { s with heap:=h',toks:=s.toks+1 }:=I.turned (t':=s.toks+1) (λb o hb e=>(sb.2 b hb).trans e) f0 f1 f3 f4 f5
   obtain⟨o,e,cc,d⟩:=id kC
   refine CO (s:={ s with heap:=h',toks:=s.toks+1 }) e cc d ?_ ⟨.str ⟨#[c]⟩,H,I1,⟨_,rfl⟩,⟨rfl,c,hx,rfl⟩,kC,λb hb=>(hf b hb).1⟩
   unfold cE
   split<;>decide
  cases ha:x.cps.all (·<128)with
  |true=>
   have e:cE x = "str_ascii_iterator":=by unfold cE;rw[ha];rfl
   rw[e]at st fin
   exact wpAny_pyNext_ascii_item st hx λh' kC sb=>⟨_,rfl,by rw[e];exact fin h' kC sb⟩
  |false=>
   have e:cE x = "str_iterator":=by unfold cE;rw[ha];rfl
   rw[e]at st fin
   exact wpAny_pyNext_wide_item st hx λh' kC sb=>⟨_,rfl,by rw[e];exact fin h' kC sb⟩
 done:=by
  intro X hP hw hK hc i ah s σ H E I hf st hg
  subst hP hw hK
  obtain⟨f0,f1,f2,f3,f4,f5⟩:=hf it (by simp)
  cases ha:x.cps.all (·<128)with
  |true=>
   have e:cE x = "str_ascii_iterator":=by unfold cE;rw[ha];rfl
   rw[e]at st
   exact wpAny_pyNext_ascii_end (I.ok.hd hc) st hg λh' eb=>⟨rfl,I.turned (t':=s.toks) (λb o hb e=>eb b o hb e) f0 f1 f3 f4 f5⟩
  |false=>
   have e:cE x = "str_iterator":=by unfold cE;rw[ha];rfl
   rw[e]at st
   exact wpAny_pyNext_wide_end (I.ok.hd hc) st hg λh' eb=>⟨rfl,I.turned (t':=s.toks) (λb o hb e=>eb b o hb e) f0 f1 f3 f4 f5⟩
 self:=λA i s Q E st h=>by
  cases ha:x.cps.all (·<128)with
  |true=>
   have e:cE x = "str_ascii_iterator":=by unfold cE;rw[ha];rfl
   rw[e]at st
   exact wpAny_pyIter_striter_ascii st h
  |false=>
   have e:cE x = "str_iterator":=by unfold cE;rw[ha];rfl
   rw[e]at st
   exact wpAny_pyIter_striter_wide st h
def Gu (tl:TE):TI:=λσ H R=>tl σ H λx H1=>∃z,x=.str z/\R (Ez z) H1
section
variable {X:Cx}{ct:Nat->af}{ms:List Mo}{rk n m k:Nat}{st:bN}{rest:List bN}{a b c e tg:Expr}{f g h:EF}{p q:BF}{u w:SF}{pos:cD}
theorem Wv {l:Expr}{tl:TE}(hl:PE X l tl):PI X tg l (Gu tl):=by
 intro ah s σ H R I h
 refine dc (hl ah s σ H _ I h) λv s1 di=>?_
 obtain⟨x,H1,I1,r,z,e,q⟩:=di
 subst e
 obtain⟨t,rfl⟩:=r
 refine wpAny_pyIter_strU ?_
 refine⟨s1.heap.objs.size,[s1.heap.objs.size],_,_,H1,rfl,I1.kept (t':=s1.toks) λb o e=>aC _ e,T6 z t _,⟨_,bq _ rfl,rfl,rfl⟩,λb hb=>?_,q⟩
 have e:b=s1.heap.objs.size:=by simpa using hb
 subst e
 exact I1.fpOk (av _) (I1.hok.fresh (av _))
def oa (x:aR):List D:=x.cps.toList.map λc=>.str ⟨#[c]⟩
def Iq:D->Option (List D)
 |.str x=>some (oa x)
 |_=>none
theorem Ww (he:XE X ct ms m e f):XI X ct ms n tg e (λρ=>(f ρ).bind Iq):=by
 obtain⟨t,pt,qt⟩:=he
 refine⟨_,Wv pt,λF0 B F H ρ σ ds R rs e w=>?_⟩
 obtain⟨d,h1,h2⟩:=aY e
 refine qt F0 B F H ρ σ _ _ rs h1 λv F' H' x l=>?_
 cases d with
 |str z=>
  cases h2
  refine⟨z,l.str,w _ F' H' x λi F2 H2 s1 s2 s3=>⟨λd hd=>?_,λhl=>?_⟩⟩
  ·unfold oa at hd
   rw[aW]at hd
   obtain⟨c,hc,rfl⟩:=cw.mp hd
   have sN:z.cps[i]?=some c:=by simpa using hc
   refine⟨⟨c,sN⟩,λy H3 hy=>?_⟩
   obtain⟨rfl,c2,h3,rfl⟩:=hy
   rw[sN]at h3
   cases h3
   exact⟨F2,.refl s3,Al.of (.str _)⟩
  ·unfold oa at hl
   rw[aF,dm]at hl
   exact hU hl
 |_=>cases h2
theorem T7 {κ:Type}[DecidableEq κ](k:κ)(v:V):∀{ks:List κ} {vs:List V},ks.length=vs.length->putK (ks.zip vs) k v=(if ks.contains k=true then ks.zip ((ks.zip vs).map λp=>if p.1=k then v else p.2)else(ks++[k]).zip (vs++[v])):=by
 intro ks vs hl
 unfold putK
 have e:((ks.zip vs).any λkv=>decide (kv.1=k))=ks.contains k:=by
  rw[Bool.eq_iff_iff,List.any_eq_true,nn]
  constructor
  ·rintro⟨p,hp,he⟩
   have:=decide_eq_true_iff.mp he
   rw[←this]
   exact(eO hp).1
  ·intro hk
   obtain⟨i,hi,rfl⟩:=List.getElem_of_mem hk
   exact⟨(ks[i],vs[i]'(by omega)),bR.mpr ⟨i,by simp;omega,by simp⟩,by simp⟩
 rw[e]
 by_cases h:ks.contains k=true
 ·rw[if_pos h,if_pos h]
  clear e h
  induction ks generalizing vs with
  |nil=>simp
  |cons y ks ih=>
   cases vs with
   |nil=>simp at hl
   |cons u vs=>
    simp only[eR,bG,ih (by simpa using hl)]
    by_cases hy:y=k<;>simp[hy]
 ·rw[if_neg h,if_neg h,qR hl]
  rfl
end
end L3
namespace L3
open PySem PySem.Spec L2
open PyProof.Rows hiding St
section
variable {X:Cx}{ct:Nat->af}{ms:List Mo}{rk n m k:Nat}{st:bN}{rest:List bN}{a b c e tg:Expr}{f g h:EF}{p q:BF}{u w:SF}{pos:cD}
def lX (i:Nat)(fj f:EF):SF:=λρ=>(f ρ).bind λd=>(eV i ρ).bind λo=>(fj ρ).bind λj=>match o with
 |.dK ks ds=>(rN j).bind λk=>if ks.length<16777216 then some (.nx (ρ.set i (some (.dK (ed ks ds k d).1 (ed ks ds k d).2))))else none
 |.dT ks ds=>(match j with
  |.tup js=>(lc js).bind λk=>if ks.length<16777216 then some (.nx (ρ.set i (some (.dT (ed ks ds k d).1 (ed ks ds k d).2))))else none
  |_=>none)
 |_=>none
theorem Li {κ:Type}[DecidableEq κ]{R:D->V->Prop}{d:D}{v:V}(r:R d v)(k:κ){ks:List κ}{ds:List D}{vs:List V}(hl:ks.length=vs.length)(hp:Pr R ds vs) :
  ∃us,putK (ks.zip vs) k v=(ed ks ds k d).1.zip us/\(ed ks ds k d).1.length=us.length/\Pr R (ed ks ds k d).2 us:=by
 rw[T7 k v hl]
 unfold ed
 by_cases h:ks.contains k=true
 ·rw[if_pos h,if_pos h]
  refine⟨_,rfl,by simp[hl],?_⟩
  clear h
  induction ks generalizing ds vs with
  |nil=>simp;exact .nil
  |cons y ks ih=>
   cases hp with
   |nil=>simp at hl
   |cons h t=>
    simp only[eR,bG]
    refine .cons ?_ (ih (by simpa using hl) t)
    by_cases hy:y=k
    ·rw[if_pos hy,if_pos hy];exact r
    ·rw[if_neg hy,if_neg hy];exact h
 ·rw[if_neg h,if_neg h]
  exact⟨_,rfl,by simp[hl],hp.append (.cons r .nil)⟩
theorem HE (i:Nat){x:aR}{j:Expr}{p1 fT:cD}{fj:EF}(hm:ms[i]?=some (.ow 1))(hu:X.A.units+1<iM)(hj:XE X ct ms 0 j fj)(he:XE X ct ms 0 e f)(hN:X.N[i]?=some x:=by rfl)(hv:pC X.env.scope x:=by first|exact Or.inl rfl|exact Or.inr (Or.inl rfl)|exact Or.inr (Or.inr rfl))(hd:(x==("__debug__":aR))=false:=by decide)
  (jD:(x==("__classdict__":aR))=false:=by decide) (hs:eA e (some (.Subscript (.Name x p1) j fT)) pos.line X.env=pure false:=by rfl) :
  XS X ct ms rk (.Assign [.Subscript (.Name x p1) j fT] e pos) (lX i fj f):=by
 obtain⟨t,pt,qt⟩:=he
 obtain⟨tj,vQ,vR⟩:=hj
 refine⟨_,UM hu (sg hN hv hd jD) vQ pt hs,λF0 B F H ρ σ o E rs e z=>?_⟩
 obtain⟨d,g1,g2⟩:=aY e
 obtain⟨d1,pP,g3,g4,g5⟩:=dL g2
 refine qt F0 B F H ρ σ d _ rs g1 λv0 F1 H1 x1 l0=>?_
 have kR:=rs.ext x1
 obtain⟨f1,fr,n1,b1,dj,i4,cf,put⟩:=kR.put (F':=F) (H':=H) hm
 obtain⟨v,hσ,ow⟩:=i4 d1 (wf g3)
 refine⟨v,hσ,vR F0 B F1 H1 ρ σ pP _ kR g4 λvj F2 H2 x2 lj=>?_⟩
 have JA:Dt X.K ct F2 d v0:=Dt.mono x2.ff l0
 cases d1 with
 |dK ks ds=>
  dsimp only at g5
  obtain⟨key,g6,g7⟩:=aY g5
  by_cases hz:ks.length<16777216
  ·rw[if_pos hz]at g7
   cases g7
   obtain⟨ad,vs,sM,rfl,rfl,hF,hH,hl,ol⟩:=ow.dK_inv
   have hA:=x2.hh _ _ hH
   have fA:F2 ad=none:=x2.nf ad _ hH nofun hF
   have e0:=ol.nil0
   subst e0
   have hp:Pr (Dt X.K ct F2) ds vs:=ol.pr λ_ _ _ _ q=>q.1.mono x2.ff
   obtain⟨us,Gk,Gm,Gn⟩:=Li JA key hl hp
   have hk:=HR g6 lj
   subst hk
   refine⟨ad,_,rfl,mU.k hA (by rw[d7,←hl,kn,cn];exact hz),?_⟩
   rw[Gk]
   refine z σ F2 _ (kR.change hm x2 hσ b1 dj cf put am fA (.inr (.dK fA yf Gm (eE.ofPr (Gn.mono λ_ _ q=>⟨q,rfl⟩)))) (fn:=[ad]) (by simp) ?_)
   intro a ha
   rw[aH]at ha
   subst ha
   exact .inl am
  ·rw[if_neg hz]at g7;cases g7
 |dT ks ds=>
  cases pP with
  |tup js=>
   dsimp only at g5
   obtain⟨key,g6,g7⟩:=aY g5
   by_cases hz:ks.length<16777216
   ·rw[if_pos hz]at g7
    cases g7
    obtain⟨ad,vs,sM,rfl,rfl,hF,hH,hl,ol⟩:=ow.dT_inv
    have hA:=x2.hh _ _ hH
    have fA:F2 ad=none:=x2.nf ad _ hH nofun hF
    have e0:=ol.nil0
    subst e0
    have hp:Pr (Dt X.K ct F2) ds vs:=ol.pr λ_ _ _ _ q=>q.1.mono x2.ff
    obtain⟨us,Gk,Gm,Gn⟩:=Li JA key hl hp
    obtain⟨bd,ws,rfl,hb,Gh⟩:=lj.tup x2.fh
    have hk:=Ma g6 Gh
    subst hk
    refine⟨ad,_,rfl,mU.t hA hb (by rw[d7,←hl,kn,cn];exact hz),?_⟩
    rw[Gk]
    refine z σ F2 _ (kR.change hm x2 hσ b1 dj cf put am fA (.inr (.dT fA yf Gm (eE.ofPr (Gn.mono λ_ _ q=>⟨q,rfl⟩)))) (fn:=[ad]) (by simp) ?_)
    intro a ha
    rw[aH]at ha
    subst ha
    exact .inl am
   ·rw[if_neg hz]at g7;cases g7
  |_=>cases g5
 |_=>cases g5
def B6 (K:aa):V->V->Hp->VK->Prop:=λo i H Q=>∃p xs k v,o=.ref p/\i=.int k/\fm K H p xs/\atI xs k=some v/\Q v H
theorem SY:xQ X (B6 X.K):=by
 intro ah s σ H o i ov iv Q I ro ri h
 obtain⟨p,xs,k,z,rfl,rfl,hq,he,q⟩:=h
 cases ro
 obtain⟨t,rfl⟩:=ri
 obtain⟨bZ,r,pl,hz⟩:=I.list hq
 obtain⟨j,h1,h2,h3,h4,h5⟩:=D4 he
 obtain⟨w,ew,n8⟩:=r.get h2
 have hl:=r.length
 have hn:=jE
 have fin:EP X ah σ Q w s:=⟨z,H,I,n8,q⟩
 by_cases h0:0<=k
 ·have hj:k.toNat=j:=by
   rw[mh h0 h5]at h1
   exact Option.some.inj h1
  exact wpAny_getItem_list pl.isList h0 (by omega) (by rw[hj];simpa using ew) fin
 ·have hj:(k+(bZ.toArray.size:Int)).toNat=j:=by
   rw[lw (by omega) h4]at h1
   rw[aT,←hl]
   exact Option.some.inj h1
  exact wpAny_getItem_list_neg pl.isList (by omega) (by rw[aT]<;>omega) (by omega) (by rw[hj];simpa using ew) fin
def nh (i:Nat)(fj:EF)(gi:Int->Int->Int)(f:EF):SF:=λρ=>(eV i ρ).bind λo=>(fj ρ).bind λj=>(f ρ).bind λy=>match o,j with
 |.lst ds,.int z=>(atI ds z).bind λx=>(match x,y with
  |.int a,.int b=>(ik ds z (.int (gi a b))).bind λkA=>some (.nx (ρ.set i (some (.lst kA))))
  |_,_=>none)
 |_,_=>none
theorem Mh (i:Nat){x:aR}{op:iL}{j:Expr}{p1 fT:cD}{fj:EF}{gi:Int->Int->Int}(ho:wL X op (Ds gi))(hm:ms[i]?=some (.ow 1))(hj:XE X ct ms n j fj)(he:XE X ct ms m e f)(hN:X.N[i]?=some x:=by rfl)(hv:pC X.env.scope x:=by first|exact Or.inl rfl|exact Or.inr (Or.inl rfl)|exact Or.inr (Or.inr rfl))(hd:(x==("__debug__":aR))=false:=by decide)
  (jD:(x==("__classdict__":aR))=false:=by decide) (ha:∀ov iv new,augStore j ov iv new=(do dQ [new,ov,iv] (lx ov iv new);pv [new,ov,iv] [];pure .next):=by intros;rfl) :
  XS X ct ms rk (.AugAssign (.Subscript (.Name x p1) j fT) op e pos) (nh i fj gi f):=by
 obtain⟨t,pt,qt⟩:=he
 obtain⟨tj,vQ,vR⟩:=hj
 refine⟨_,Ui (sg hN hv hd jD) vQ SY pt ho Hn ha,λF0 B F H ρ σ o E rs e z=>?_⟩
 obtain⟨d1,pP,g3,g4,g5⟩:=dL e
 obtain⟨d2,g6,g7⟩:=aY g5
 obtain⟨f1,fr,n1,b1,dj,i4,cf,put⟩:=rs.put (F':=F) (H':=H) hm
 obtain⟨v,hσ,ow⟩:=i4 d1 (wf g3)
 refine⟨v,hσ,vR F0 B F H ρ σ pP _ rs g4 λvj F2 H2 x2 lj=>?_⟩
 cases d1<;>try (cases g7;done)
 rename_i ds
 cases pP<;>try (cases g7;done)
 rename_i zi
 ·skip
  dsimp only at g7
  obtain⟨da,g8,g9⟩:=aY g7
  obtain⟨ad,vs,sM,rfl,rfl,hF,hH,ol⟩:=ow.lst_inv
  have hA:H2 ad=some (.lst vs):=x2.hh _ _ hH
  have hp:Pr (Al X.K ct F2 H2 0) ds vs:=ol.pr λ_ _ _ _ q=>q.1.mono x2.ff
  obtain⟨va,Oe,Of⟩:=hp.atI g8
  refine⟨ad,vs,zi,va,rfl,lj.int,fm.of hA,Oe,qt F0 B F2 H2 ρ σ d2 _ (rs.ext x2) g6 λvy F3 H3 x3 ly=>?_⟩
  have kE:=x2.trans x3
  cases da<;>try (cases g9;done)
  rename_i ia
  cases d2<;>try (cases g9;done)
  rename_i ib
  ·skip
   dsimp only at g9
   obtain⟨kA,NX,NY⟩:=aY g9
   cases NY
   obtain⟨jn,NZ,N3⟩:=aY NX
   cases N3
   have N8:H3 ad=some (.lst vs):=x3.hh _ _ hA
   have fA:F3 ad=none:=kE.nf ad _ hH nofun hF
   have e0:=ol.nil0
   subst e0
   refine⟨ia,ib,Of.int,ly.int,ad,vs,zi,jn,rfl,lj.int,N8,by rw[←ol.length];exact NZ,?_⟩
   refine z σ F3 _ (rs.change hm kE hσ b1 dj cf put am fA (.inr (.lst fA yf (eE.set0 ⟨.int _,rfl⟩ (λ_ _ _ q=>q.2) jn (ol.mono λ_ _ _ _ q=>⟨q.1.mono kE.ff,q.2⟩)))) (fn:=[ad]) (by simp) ?_)
   intro a ha
   rw[aH]at ha
   subst ha
   exact .inl am
structure Ic (K:aa)(C:af):Prop where
 cl:kT K C
 ha:ar K (.ref C) "__class__"=some (some (.builtin "object.__class__"))
 hn:dh K (.builtin "object.__class__") "__get__"=some (some (.builtin "getset_descriptor.__get__"))
 ht:gW K (.builtin "object.__class__")=some true
 hm:dP K C (.type "object")=some true
def p9 (all sub:List Nat):D->Option D
 |.obj c _ _=>if all.contains c=true then some (.bl (sub.contains c))else none
 |_=>none
theorem Mi {C:af}{x:aR}{all sub:List Nat}{pp p2:cD}(hI:∀c∈all,Ic X.K (ct c)/\bI X.K (.ref (ct c)) (.ref C)=some (sub.contains c))(hm:X.mg "isinstance"=none)(wV:X.mg x=some (.ref C))(he:XE X ct ms n e f)(hg:Gl X "isinstance":=by rfl)(qZ:Gl X x:=by rfl)(hd2:(x==("__debug__":aR))=false:=by decide)
  (sW:ax [e,.Name x p2] X.env=(false,bO e X.env)::ax [.Name x p2] X.env:=by rfl) (p4:ax [.Name x p2] X.env=(false,bO (.Name x p2) X.env)::ax [] X.env:=by rfl) (iu:(cB pos (ax [.Name x p2] X.env)).any (·.1)=false:=by rfl) :
  XE X ct ms k (.Call (.Name "isinstance" pp) [e,.Name x p2] [] pos) (e1 (p9 all sub) f):=by
 obtain⟨t,pt,qt⟩:=he
 refine⟨_,DR SK hg hm Ki (u5 pt (u5 (LI (v:=.ref C) qZ wV rfl hd2) xD p4) sW) (by decide) (by decide) sW iu,λF0 B F H ρ σ d Q rs e w=>?_⟩
 obtain⟨d1,h1,h2⟩:=aY e
 refine qt F0 B F H ρ σ d1 _ rs h1 λv F' H' x l=>?_
 cases d1 with
 |obj c ns ds=>
  unfold p9 at h2
  dsimp only at h2
  by_cases hc:all.contains c=true
  ·rw[if_pos hc]at h2
   cases h2
   obtain⟨a,dx,vs,rfl,ha,_⟩:=l.obj x.fh
   obtain⟨ic,OR⟩:=hI c (by simpa using hc)
   exact⟨_,C,_,_,rfl,.ins ha ic.cl ic.ha ic.hn ic.ht ic.hm,OR,w _ F' H' x (Al.of (.bl _))⟩
  ·rw[if_neg hc]at h2;cases h2
 |_=>cases h2
end
end L3
namespace L3
open PySem PySem.Spec L2
section
variable {K:aa}{ct:Nat->af}{n m k:Nat}
end
end L3
namespace PySem
section
variable {prog:bg}{w:bE}{A:bv}{R:Result->ak->Prop}{I:af}{fp wr:List af}{n:Nat}{P:Nat->ae->Prop}{St:Nat->aK->Prop}{kw:List (aR×ae)}
end
section
variable {prog:bg}{w:bE}{A:bv}{E:ae->ak->Prop}{s:ak}
end
end PySem
namespace L3
open PySem PySem.Spec L2
section
variable {X:Cx}{ct:Nat->af}{ms:List Mo}{e b:Expr}{f g:EF}{n m k:Nat}
end
end L3
namespace L3
open PySem PySem.Spec L2
open PyProof.Rows hiding St
section
variable {X:Cx}{ct:Nat->af}{ms:List Mo}{rk n m k:Nat}{a b c e o:Expr}{f g h:EF}{pos:cD}
end
end L3
namespace L2
open PySem PyProof.Rows
theorem T8 {X:Cx}{ah:List (af×cN)}{σ:St}{H:Hp}{s:ak}{QV:VK}{use:Option (ae->mQ Unit)}{Q0:ae->ak->Prop}{iP iter tg:Expr}{ifs:List Expr}{scope:fv}{pos GM:cD}{N:List aR}{own:Nat}{cap:List Nat}{wi:TI}{g:TG}{tt:TT}{te:TE}(B:jK X scope N own cap)(hc:X.calm=true)(hi:PI X tg iter wi)
    (kg:fC own g)
    (hg:∀cl C fp s₀ H₀,PG (gM X scope cl N C fp s₀ H₀) tg g) (ht:∀cl C fp s₀ H₀,sI (gM X scope cl N C fp s₀ H₀) ifs tt) (he:∀cl C fp s₀ H₀,PE (gM X scope cl N C fp s₀ H₀) iP te)
    (hs:∀x,dq iter X.env x=pure x) (I:Inv X ah σ H s) (h:oG wi own cap g tt te σ H QV)
    (fin:∀(D C:af) (H5:Hp) (s6:ak) (r:Flow),QV (.ref D) H5->Inv X ah σ H5 s6->jL X ah H5 C->(∃m,s6.heap.Ns C m)->nD (aZ X.prog X.w) X.A X.xe use Q0 (.ref D) C (.ok r) s6) :
    aV (aZ X.prog X.w) X.A (comprehension (.ListComp iP [⟨tg,iter,ifs,0⟩] scope pos) scope X.env GM (newList []) false (bO iter X.env) use) Q0 X.xe s:=by
  obtain⟨cl,FM,c1,c2,_⟩:=j4 (env:=X.env) scope.names [] (λx hx hf=>I.ok.has x.1 (B.free x hx hf)) (λy c e=>by simp at e)
  have pU:nz scope X.env=pure cl:=by
    have e:nz scope X.env=(forIn scope.names ([]:List (aR×af)) (λ(x:aR×br) (cs:List (aR×af))=>if(x.2==br.free)=true then do let a ← cellOf X.env x.1;pure (ForInStep.yield ((x.1,a)::cs))else pure (ForInStep.yield cs)) >>= pure:mQ (List (aR×af))):=rfl
    rw[e,FM]
    rfl
  refine wpAny_comprehension_free (use:=use) rfl hs pU B.kind B.locs (dc (hi ah s σ H _ I h) λv s1 h1=>dc h1 λDu s2 h2=>?_)
  obtain⟨it,fp,tn,J,H2,e,I2,T,rj,f2,W0⟩:=h2
  subst e
  obtain⟨W,⟨m0,w0⟩,mF⟩:=W0 s2.heap.objs.size (I2.hok.fresh (av _))
  refine cF ?_
  have I3:Inv X ah σ (upd H2 s2.heap.objs.size (.lst [])) { s2 with heap:=s2.heap.push { cls:=.type "list",data:=.seq ([]:List ae).toArray } }:=I2.lnew .nil (cC _)
  generalize AO:({ s2 with heap:=s2.heap.push { cls:=.type "list",data:=.seq ([]:List ae).toArray } }:ak)=s3 at I3
  have k3:∀b o,s2.heap.get? b=some o->s3.heap.get? b=some o:=λb o e=>by rw[←AO];exact aC _ e
  have z3:s3.heap.objs.size=s2.heap.objs.size+1:=by rw[←AO];exact e7 _ _
  have nY:∀b∈fp,b<s2.heap.objs.size:=λb hb=>by
    obtain⟨o,e,_⟩:=T.obj _ _ rj b hb
    exact aJ e
  have jY:∀b∈fp,b≠s2.heap.objs.size:=λb hb=>bc (nY b hb)
  have f3:∀b∈fp,jL X ah (upd H2 s2.heap.objs.size (.lst [])) b:=λb hb=>⟨by rw[zy (jY b hb)];exact(f2 b hb).1,(f2 b hb).2⟩
  have DF:tn 0 s3.heap:=T.keep _ _ _ rj λb _ o e=>k3 b o e
  show aV _ _ (jS scope X.env.globals cl [] X.env.qual none .none (some X.env)) _ _ _
  refine Kg λh₁ kk vD uZ=>?_
  have IB:=K5 (t':=s3.toks) B I3 c1 c2 f3 (λb hb=>by rw[z3];exact cS (nY b hb)) vD kk uZ
  generalize cellsFrom (s3.heap.objs.size+1) scope.names cl=cl at IB ⊢
  generalize Gj:({ s3 with heap:=h₁,toks:=s3.toks }:ak)=s4 at IB
  have Ct:tn 0 s4.heap:=T.keep _ _ _ DF λb _ o e=>by rw[←Gj];exact kk b o e
  show gI (aZ X.prog X.w) X.A (.compStart (.ListComp iP [⟨tg,iter,ifs,0⟩] scope pos) 0 (.ref it) (.ref s2.heap.objs.size) (nB scope cl s3.heap.objs.size X.env))
      (nD (aZ X.prog X.w) X.A X.xe use Q0 (.ref s2.heap.objs.size) s3.heap.objs.size) s4
  have lm:∀{H':Hp},(∀b∈fp,H' b=none)->∀b∈fp,jL (gM X scope cl N s3.heap.objs.size fp s3 (upd H2 s2.heap.objs.size (.lst []))) [] H' b:=λhn b hb=>
    ⟨hn b hb,bc (by show b<s3.heap.objs.size;rw[z3];exact cS (nY b hb)),IB.ok.exfs b hb,.inl hb,λx c e=>(IB.ok.exf b hb).2 x c e,λp hp=>(nomatch hp)⟩
  have loop:gI (aZ X.prog X.w) X.A (.compLoop (.ListComp iP [⟨tg,iter,ifs,0⟩] scope pos) 0 (.ref it) (.ref s2.heap.objs.size) (nB scope cl s3.heap.objs.size X.env))
      (nD (aZ X.prog X.w) X.A X.xe use Q0 (.ref s2.heap.objs.size) s3.heap.objs.size) s4:=by
    refine Kf (λn s'=>∃i ys H',Inv (gM X scope cl N s3.heap.objs.size fp s3 (upd H2 s2.heap.objs.size (.lst []))) [] (aG own none++fx σ cap) H' s'/\tn i s'.heap/\(∀b∈fp,H' b=none)/\W i n ys H') ?_ m0
      ⟨0,[],_,IB,Ct,λb hb=>(f3 b hb).1,w0⟩
    rintro n s5 ⟨i,ys,H5,I5,rY,uV,w5⟩
    obtain⟨hD,FW⟩:=mF i n ys H5 w5
    rcases FW with⟨stop,qn⟩|⟨go,lz,step⟩
    · refine dc (T.done (gM X scope cl N s3.heap.objs.size fp s3 (upd H2 s2.heap.objs.size (.lst []))) rfl rfl rfl hc i [] s5 _ H5 (λ_ _=>False) I5 (lm uV) rY stop) λr s6 di=>?_
      obtain⟨hr,I6⟩:=di
      subst hr
      obtain⟨m,hm,_⟩:=id I6.loc
      refine fin s2.heap.objs.size s3.heap.objs.size H5 s6 _ qn ?_ (I3.fpOk (av _) I6.free) ⟨m,hm⟩
      have sb:dY s3.heap.objs.size s6.heap s6.heap:=⟨rfl,λ_ _=>rfl⟩
      have U:=I6.base
      have nC:∀b o,s3.heap.get? b=some o->b≠s3.heap.objs.size:=λb o e=>bc (aJ e)
      have nT:∀b o,H5 b=some o->b≠s3.heap.objs.size:=λb o e z=>by
        have q:H5 s3.heap.objs.size=none:=I6.free
        rw[z,q]at e
        cases e
      refine I3.call' (ch:=fp) I6.os ?_ (λa o e=>(I6.hok a o e).stay (λb u hb q=>sb.extBut b u ?_ q) (λ_ q=>q) λ_ _ q=>q) I6.bare (λb hb=>⟨(f3 b hb).2.2.2.1,(f3 b hb).2.1,(f3 b hb).2.2.2.2.1,(f3 b hb).2.2.2.2.2⟩)
      · exact{
          keep:=λb o e z hb he=>sb.extBut b o (nC b o e) (U.keep b o e z hb he)
          slot:=λb o e z hb he=>by
            obtain⟨sl,q⟩:=U.slot b o e z hb he
            exact⟨sl,sb.extBut b _ (nC b o e) q⟩
          free:=U.free
          there:=λb o e he=>by
            obtain⟨o',q⟩:=U.there b o e he
            exact⟨o',sb.extBut b o' (nC b o e) q⟩
          tups:=U.tups
          frzs:=U.frzs
          tbls:=U.tbls }
      · rcases hb with rfl|hb
        · exact nT _ _ e
        · exact nT _ _ hb
    · refine dc (T.item (gM X scope cl N s3.heap.objs.size fp s3 (upd H2 s2.heap.objs.size (.lst []))) rfl rfl rfl hc i [] s5 _ H5 (λ_ _=>False) I5 (lm uV) rY go) λr s6 di=>?_
      obtain⟨u,hr,h6⟩:=di
      subst hr
      refine dc h6 λ_ s7 di=>?_
      obtain⟨x,H7,I7,r7,y7,vW,FA⟩:=di
      have Ew:=I7.pinned (lm FA) (T.obj _ _ vW)
      refine dc (hg cl s3.heap.objs.size fp s3 _ _ s7 _ H7 x u _ Ew r7 (kg _ _ _ _ (step x H7 y7))) λ_ s8 di=>?_
      obtain⟨σ8,H8,I8,q8,l8,p8⟩:=di
      have back:∀{H9:Hp} {s9:ak},Inv (gM X scope cl N s3.heap.objs.size fp s3 (upd H2 s2.heap.objs.size (.lst []))) ([]++kb fp s7.heap) σ8 H9 s9 ->
          Inv (gM X scope cl N s3.heap.objs.size fp s3 (upd H2 s2.heap.objs.size (.lst []))) [] (aG own none++fx σ cap) H9 s9/\tn (i+1) s9.heap/\∀b∈fp,H9 b=none:=λ{H9 s9} I9=>by
        refine⟨(I9.unpinned).weak l8.symm (λj v e=>?_),T.keep _ _ _ vW λb hb o e=>(I9.pin (b,o) (ay _ (ay _ (v3 hb e)))).1,λb hb=>?_⟩
        · by_cases hj:j<own
          · rw[cz (by rw[cY];exact hj),eT,if_pos hj]at e
            cases e
          · rw[p8 j (by omega)];exact e
        · obtain⟨o,e,d⟩:=T.obj _ _ vW b hb
          exact(I9.pin (b,o) (ay _ (ay _ (v3 hb e)))).2.1
      refine dc (ht cl s3.heap.objs.size fp s3 _ _ s8 σ8 H8 _ I8 q8) λok s9 di=>?_
      obtain⟨H9,I9,q9⟩:=di
      cases ok with
      |false=>
        rw[if_neg aX]
        rw[if_neg aX]at q9
        obtain⟨m',vC,w'⟩:=q9
        obtain⟨b1,b2,b3⟩:=back I9
        exact⟨m',vC,i+1,ys,H9,b1,b2,b3,w'⟩
      |true=>
        rw[if_pos rfl]
        rw[if_pos rfl]at q9
        refine dc (he cl s3.heap.objs.size fp s3 _ _ s9 σ8 H9 _ I9 q9) λuy GR di=>?_
        obtain⟨y,xK,Et,r10,uW,m',vC,w'⟩:=di
        refine dc (Hi _ GR σ8 xK (.ref s2.heap.objs.size) [y] (.ref s2.heap.objs.size) [uy] (λ_ xL=>xL=upd xK s2.heap.objs.size (.lst (ys++[y]))) Et rfl (.cons r10 .nil) ⟨_,ys,y,rfl,rfl,uW,lz,rfl⟩) λ_ Qb di=>?_
        obtain⟨_,xL,Eu,_,E7⟩:=di
        subst E7
        obtain⟨b1,b2,b3⟩:=back Eu
        exact⟨m',vC,i+1,ys++[y],_,b1,b2,b3,w'⟩
  exact codeAny_compStart_list loop (T.self X.A 0 s4 _ _ Ct loop)
theorem Si {X:Cx}{i:Nat}{x:aR}{pos' qK:cD}{iP iter tg:Expr}{ifs:List Expr}{scope:fv}{pos:cD}{N:List aR}{own:Nat}{cap:List Nat}{wi:TI}{g:TG}{tt:TT}{te:TE}(B:jK X scope N own cap)(hc:X.calm=true)(hi:PI X tg iter wi)
  (kg:fC own g)
  (hg:∀cl C fp s₀ H₀,PG (gM X scope cl N C fp s₀ H₀) tg g) (ht:∀cl C fp s₀ H₀,sI (gM X scope cl N C fp s₀ H₀) ifs tt) (he:∀cl C fp s₀ H₀,PE (gM X scope cl N C fp s₀ H₀) iP te)
  (hN:X.N.Nodup) (AD:X.N[i]?=some x) (hx:Loc X.env.scope x) (vH:eA (.ListComp iP [⟨tg,iter,ifs,0⟩] scope pos) (some (.Name x pos')) qK.line X.env=pure true)
  (hs:∀x,dq iter X.env x=pure x:=by intro _;rfl) (hf:X.fn x=true\/X.env.scope.names.lookup x=some .local:=by first|exact .inl rfl|exact .inr rfl|assumption) :
  PS X (.Assign [.Name x pos'] (.ListComp iP [⟨tg,iter,ifs,0⟩] scope pos) qK) (vX (oG wi own cap g tt te) (oC i)):=by
 intro ah s σ H D I h
 rw[exec_Assign_Name_used _ _ _ _ vH]
 refine ao (kG (ao ?_))
 show aV _ X.A (do let _ ← comprehension (.ListComp iP [⟨tg,iter,ifs,0⟩] scope pos) scope X.env _ (newList []) false (bO iter X.env) (some (fW (.Name x pos') X.env))) _ _ s
 refine ao (dU (T8 (use:=some (fW (.Name x pos') X.env)) (Q0:=λ_ s'=>∃σ' H',Inv X ah σ' H' s'/\D.nx σ' H') B hc hi kg hg ht he hs I h λDa C H5 s6 r q I6 fo hm=>?_) (λ_ s' hq=>aB (aB hq)) λ_ _ e=>e)
 show aV _ X.A (fW (.Name x pos') X.env (.ref Da)) _ _ _
 refine wpAny_assign_Name (KW (v:=.ref Da) I6 hN AD hx rfl (λs7 I7 OH=>?_) hf)
 obtain⟨m,hm⟩:=hm
 obtain⟨a,sb,ha⟩:=OH
 obtain⟨f0,f1,f2,f3,f4,f5⟩:=fo
 have jY:C≠a:=by
  rcases ha with rfl|ha
  ·exact f1
  ·exactλz=>f4 x a ha z.symm
 refine⟨m,hm.sameBut sb jY,λh' Qd=>⟨_,H5,I7.turned (t':=s7.toks) (it:=C) (λb o hb e=>Qd.extBut b o hb e) f0 f1 f3 f4 f5,q⟩⟩
end L2
namespace L3
open PySem PySem.Spec L2
open PyProof.Rows hiding St
section
variable {X:Cx}{ct:Nat->af}{ms:List Mo}{rk n m k:Nat}{a b c e o:Expr}{f g h:EF}{pos:cD}
theorem w9 {om:List Mo}{iP iter tg:Expr}{ifs:List Expr}{scope:fv}{N:List aR}{own:Nat}{cap:List Nat}{fi:Env->Option (List D)}{gg:D->Env->Option Env}{p:BF}{i:Nat}{x:aR}{pos' qK:cD}
  (hm:ms[i]?=some (.ow k)) (hN:X.N.Nodup) (AD:X.N[i]?=some x) (hx:Loc X.env.scope x)
  (B:jK X scope N own cap) (hc:X.calm=true) (ho:om.length=own) (my:∀i∈cap,i<ms.length) (hi:qW X ct ms n tg iter fi)
  (hg:∀cl C fp s₀ H₀,rz (gM X scope cl N C fp s₀ H₀) ct (om++gk ms cap) own n tg gg) (ht:∀cl C fp s₀ H₀,tU (gM X scope cl N C fp s₀ H₀) ct (om++gk ms cap) ifs p) (he:∀cl C fp s₀ H₀,XO (gM X scope cl N C fp s₀ H₀) ct (om++gk ms cap) (k-1) iP f)
  (vH:eA (.ListComp iP [⟨tg,iter,ifs,0⟩] scope pos) (some (.Name x pos')) qK.line X.env=pure true:=by rfl)
  (hs:∀x,dq iter X.env x=pure x:=by intro _;rfl) (hf:X.fn x=true\/X.env.scope.names.lookup x=some .local:=by first|exact .inl rfl|exact .inr rfl|assumption) :
  XS X ct ms rk (.Assign [.Name x pos'] (.ListComp iP [⟨tg,iter,ifs,0⟩] scope pos) qK) (sSet i (d6 fi own cap gg p f)):=by
 obtain⟨wi,g,tt,te,pi,kg,pg,pt,pe,q⟩:=LD (k:=k-1) (pos:=pos) B hc ho my hi hg ht he
 refine⟨_,Si B hc pi kg pg pt pe hN AD hx vH hs hf,λF0 B F H ρ σ o E rs e w=>?_⟩
 obtain⟨d,h1,h2⟩:=aY e
 cases h2
 cases k with
 |succ k=>exact q F0 B F H ρ σ d _ rs h1 λv F' H' fp x l nd hf=>w _ F' H' (rs.set hm x l nd hf)
 |zero=>
  refine q F0 B F H ρ σ d _ rs h1 λv F' H' fp x l nd hf=>?_
  obtain⟨F2,x2,l2⟩:=l.freeze x hf
  exact w _ F2 H' (rs.set hm x2 (Ow.zero l2) bz λa z=>by cases z)
theorem xC {i:Nat}{x:aR}{pos':cD}(hm:ms[i]?=some (.ow k))(hN:X.N[i]?=some x:=by rfl)(hv:pC X.env.scope x:=by first|exact Or.inl rfl|exact Or.inr (Or.inl rfl)|exact Or.inr (Or.inr rfl))(hd:(x==("__debug__":aR))=false:=by decide)
  (jD:(x==("__classdict__":aR))=false:=by decide):XS X ct ms 0 (.Return (some (.Name x pos')) pos) (sRet (eV i)):=by
 refine⟨_,Mt (sg hN hv hd jD),λF0 B F H ρ σ o E rs e w=>?_⟩
 obtain⟨d,h1,h2⟩:=aY e
 cases h2
 obtain⟨fp,sl,nd,hb⟩:=rs.sl
 obtain⟨f1,fr,i1,i2,i3,i4,i5⟩:=sl.put hm
 obtain⟨v,Gp,l⟩:=i4 d (wf h1)
 obtain⟨F',x,l2⟩:=l.freeze (⟨rs.f0,rs.bh,rs.fh,rs.nf⟩:eS F0 B F H) (λz hz=>hb z (i1 z hz))
 exact⟨v,Gp,w v F' H [] x.ff x.hh x.fh x.nf (Ow.zero l2) bz λz hz=>by cases hz⟩
theorem Wx (hu:X.A.units+1<iM)(ha:XE X ct ms n a f)(hb:XE X ct ms m b g)(hm:dC .In b=false):XT X ct ms (.Compare a [.In] [b] pos) (tb λρ=>(f ρ).bind λx=>(g ρ).bind λy=>(ig y x).bind λr=>some (.bl r.isSome)):=by
 obtain⟨ta,DB,pa,pb,q⟩:=ha.bin hb
 refine⟨_,VB (Vw hu pa pb) hm,λF0 B F H ρ σ t Q rs e w=>?_⟩
 obtain⟨d0,h0,h9⟩:=aY e
 obtain⟨d1,d2,h1,h2,h3⟩:=dL h0
 obtain⟨r,h4,h5⟩:=aY h3
 cases h5
 cases h9
 refine q F0 B F H ρ σ d1 d2 _ rs h1 h2 λx y F' H' x1 l1 l2=>?_
 obtain⟨a,o,rfl,g,_,h⟩:=Mb (r:=r) x1.fh l2 l1 h4
 refine⟨a,o,rfl,g,?_⟩
 cases r with
 |none=>rw[h.none_of];exact⟨_,rfl,w F' H' x1⟩
 |some d=>obtain⟨u,rfl,Jm⟩:=h.some_of;exact⟨_,rfl,w F' H' x1⟩
end
end L3
namespace L2
open PySem PyProof.Rows
def CV (K:aa)(a:af)(n:Nat):It :=
 ⟨λi H=>i<n/\∃xs,fm K H a xs/\xs.length=n,λi H x H'=>H'=H/\∀xs,fm K H a xs->xs[n-1-i]?=some x,λi _=>n<=i⟩
theorem T9 {P:bg}{w:bE}{K:aa}{tg:Expr}(a it:af)(n:Nat):Turn P w K tg (CV K a n) [it] it (λi h=>i<=n/\h.IsRevIter it a ((n:Int)-1-(i:Int))) where
 mem:=by simp
 obj:=λi h st b hb=>by
  have e:b=it:=by simpa using hb
  subst e
  obtain⟨_,o,e,c,d⟩:=st
  exact⟨o,e,λv z=>by rw[d]at z;cases z⟩
 keep:=λi h h' st k=>⟨st.1,st.2.at λo e=>k it (by simp) o e⟩
 item:=by
  intro X hP hw hK hc i ah s σ H E I hf st hg
  subst hP hw hK
  obtain⟨hi,xs,hq,hx⟩:=hg
  obtain⟨bZ,rv,p,hz⟩:=I.list hq
  have hl:=rv.length
  have Jn:xs[n-1-i]?=some (xs[n-1-i]'(by omega)):=by simp[show n-1-i<xs.length by omega]
  obtain⟨u,hu,ru⟩:=rv.get Jn
  obtain⟨f0,f1,f2,f3,f4,f5⟩:=hf it (by simp)
  have e:(n:Int)-1-(i:Int)=((n-1-i:Nat):Int):=by omega
  have st:=st.2
  rw[e]at st
  refine wpAny_pyNext_rev_item st p.isList (x:=u) (by simpa using hu) λh' kC sb=>?_
  have I1:Inv X ah σ H { s with heap:=h' }:=I.turned (t':=s.toks) (λb o hb e=>(sb.2 b hb).trans e) f0 f1 f3 f4 f5
  obtain⟨o,e',c,d⟩:=id kC
  have e2:((n-1-i:Nat):Int)-1=(n:Int)-1-((i+1:Nat):Int):=by omega
  rw[e2]at kC
  exact⟨u,rfl,CO (s:={ s with heap:=h' }) e' c d (by decide) ⟨_,H,I1,ru,⟨rfl,λys hy=>by rw[I.list_inj hy hq];exact Jn⟩,⟨hi,kC⟩,λb hb=>(hf b hb).1⟩⟩
 done:=by
  intro X hP hw hK hc i ah s σ H E I hf st hg
  subst hP hw hK
  obtain⟨f0,f1,f2,f3,f4,f5⟩:=hf it (by simp)
  have e:(n:Int)-1-(i:Int) = -1:=by have:=st.1;have h2:n<=i:=hg;omega
  have st:=st.2
  rw[e]at st
  exact wpAny_pyNext_rev_end (I.ok.hd hc) st λh' eb=>⟨rfl,I.turned (t':=s.toks) (λb o hb e=>eb b o hb e) f0 f1 f3 f4 f5⟩
 self:=λ_ _ _ _ _ st h=>wpAny_pyIter_revIter st.2 h
def Gs (K:aa)(ta:TE):TI:=λσ H R=>ta σ H λv H1=>∃a xs,v=.ref a/\fm K H1 a xs/\R (CV K a xs.length) H1
theorem Wy {X:Cx}{tg e:Expr}{te:TE}{p pos:cD}(hg:Gl X "reversed")(hm:X.mg "reversed"=none)(he:PE X e te)(hs:ax [e] X.env=[(false,bO e X.env)]:=by rfl):PI X tg (.Call (.Name "reversed" p) [e] [] pos) (Gs X.K te):=by
 intro ah s σ H R I h
 refine fq (wI (u:=.type "reversed") I hg hm (by rfl) ?_ (by decide) (by decide))
 refine dg (dc ((u5 he xD hs) pos ah s σ H (λvs H1=>match vs with|[x]=>∃a xs,x=.ref a/\fm X.K H1 a xs/\R (CV X.K a xs.length) H1|_=>False) I h) λus s1 ⟨vs,H1,I1,r,q⟩=>?_) hs rfl
 match vs,q with
 |[x],q=>
  obtain⟨a,xs,rfl,hq,q⟩:=q
  obtain⟨u,rfl,ru⟩:=r.one
  cases ru
  obtain⟨bZ,rv,pl,hz⟩:=I1.list hq
  have hl:=rv.length
  refine call_reversed_list pl.isList ?_
  have I2:Inv X ah σ H1 { s1 with heap:=s1.heap.push (revObj a ((bZ.toArray.size:Int)-1)) }:=I1.kept (t':=s1.toks) λb o e=>aC _ e
  have st:(s1.heap.push (revObj a ((bZ.toArray.size:Int)-1))).IsRevIter s1.heap.objs.size a ((xs.length:Int)-1-((0:Nat):Int)):=⟨_,bq _ rfl,rfl,by simp[revObj,hl]⟩
  refine wpAny_pyIter_revIter st ⟨s1.heap.objs.size,[s1.heap.objs.size],_,_,H1,rfl,I2,T9 a _ xs.length,⟨cC _,st⟩,λb hb=>?_,q⟩
  have e:b=s1.heap.objs.size:=by simpa using hb
  subst e
  exact I1.fpOk (av _) (I1.hok.fresh (av _))
end L2
namespace L3
open PySem PySem.Spec L2
open PyProof.Rows hiding St
section
variable {X:Cx}{ct:Nat->af}{ms:List Mo}{rk n m k:Nat}{st:bN}{rest:List bN}{a b c e tg:Expr}{f g h:EF}{p q:BF}{u w:SF}{pos:cD}
theorem VY {K:aa}{F B:Hp}{a:af}{vs:List V}{ds:List D}(hp:Pr (Al K ct F B n) ds vs)(keep:∀F' H',bJ F F'->bJ B H'->bJ F' H'->fm K H' a vs):nS K ct F B n (CV K a vs.length) ds.reverse:=by
 intro i F' H' s1 s2 s3
 have hs:fm K H' a vs:=keep F' H' s1 s2 s3
 have hl:=hp.length
 refine⟨λd hd=>?_,λvB=>by show vs.length<=i;rw[oi]at vB;omega⟩
 have hi:i<ds.length:=by
  have:=(aQ.mp hd).1
  rwa[oi]at this
 rw[List.getElem?_reverse hi]at hd
 obtain⟨v,hv,l⟩:=hp.get' hd
 refine⟨⟨by omega,vs,hs,rfl⟩,λx H2 y=>?_⟩
 obtain⟨e,y⟩:=y
 subst e
 have:=y vs hs
 rw[←hl,hv]at this
 cases this
 exact⟨F',.refl s3,l.mono s1 (.refl _)⟩
theorem Ve {pp:cD}(hm:X.mg "reversed"=none)(he:XE X ct ms n e f)(hg:Gl X "reversed":=by rfl)(hs:ax [e] X.env=[(false,bO e X.env)]:=by rfl):qW X ct ms (n-1) tg (.Call (.Name "reversed" pp) [e] [] pos) (λρ=>(lsD f ρ).bind λds=>some ds.reverse):=by
 obtain⟨t,pt,qt⟩:=he
 refine⟨_,Wy hg hm pt hs,λF0 B F H ρ σ ds R rs e w=>?_⟩
 obtain⟨W7,h0,h9⟩:=aY e
 cases h9
 obtain⟨d,h1,h2⟩:=aY h0
 rw[Hv h2]at h1
 refine qt F0 B F H ρ σ _ _ rs h1 λv F' H' x l=>?_
 obtain⟨a,vs,rfl,ha,hp⟩:=l.lst x.fh
 exact⟨a,vs,rfl,ha,w _ F' H' x (VY hp λF2 H2 s1 s2 s3=>s2.seq ha)⟩
end
end L3
namespace L3
open PySem PySem.Spec L2
open PyProof.Rows hiding St
theorem eE.upd {R R':D->V->List af->Prop}{d:D}{ds:List D}{vs:List V}{fp:List af}{i:Nat}(h:eE R ds vs fp)(e:ds[i]?=some d):∃v f,vs[i]?=some v/\R d v f/\(∀a∈f,a∈fp) /\
  ∀d',R' d' v f->fp.Nodup->(∀d v f',(∀a∈f',a∈fp)->(∀a∈f',a∉f)->R d v f'->R' d v f')->eE R' (ds.set i d') vs fp:=by
 induction h generalizing i with
 |nil=>cases e
 |@cons _ _ _ _ f g h t ih=>
  cases i with
  |zero=>
   cases e
   refine⟨_,f,rfl,h,λa ha=>aS _ ha,λd' hd nd ot=>?_⟩
   rw[bo]at nd
   exact .cons hd (t.mono λd v f' hi r=>ot d v f' (λa ha=>ay _ (hi a ha)) (λa ha hf=>nd.2.2 a hf a (hi a ha) rfl) r)
  |succ i=>
   obtain⟨v,f2,h1,h2,h3,h4⟩:=ih (i:=i) e
   refine⟨v,f2,h1,h2,λa ha=>ay _ (h3 a ha),λd' hd nd ot=>?_⟩
   rw[bo]at nd
   exact .cons (ot _ _ f (λa ha=>aS _ ha) (λa ha hf=>nd.2.2 a ha a (h3 a hf) rfl) h) (h4 d' hd nd.2.1 λd v f' hi hn r=>ot d v f' (λa ha=>ay _ (hi a ha)) hn r)
section
variable {X:Cx}{ct:Nat->af}{ms:List Mo}{rk n m k:Nat}{st:bN}{rest:List bN}{a b c e tg:Expr}{f g h:EF}{p q:BF}{u w:SF}{pos:cD}
def kc (i:Nat)(fj fl f:EF):SF:=λρ=>(f ρ).bind λd=>(eV i ρ).bind λo=>(fj ρ).bind λj=>(fl ρ).bind λl=>match o,j,l with
 |.lst rs,.int y,.int z=>(ixN rs.length y).bind λy'=>(rs[y']?).bind λr=>(match r with
  |.lst ds=>(ik ds z d).bind λkA=>some (.nx (ρ.set i (some (.lst (rs.set y' (.lst kA))))))
  |_=>none)
 |_,_,_=>none
theorem Lj (i:Nat){x:aR}{j l:Expr}{p1 p2 fT:cD}{fj fl:EF}(hm:ms[i]?=some (.ow 2))(hj:XE X ct ms n j fj)(hl:XE X ct ms m l fl)(hp:kO j)(he:XE X ct ms 0 e f)(hN:X.N[i]?=some x:=by rfl)(hv:pC X.env.scope x:=by first|exact Or.inl rfl|exact Or.inr (Or.inl rfl)|exact Or.inr (Or.inr rfl))(hd:(x==("__debug__":aR))=false:=by decide)
  (jD:(x==("__classdict__":aR))=false:=by decide)
  (ha:∀v,fW (.Subscript (.Subscript (.Name x p1) j p2) l fT) X.env v=(do
   let ov ← dQ [v] (bO (.Subscript (.Name x p1) j p2) X.env)
   let iv ← dQ [v,ov] (bO l X.env)
   fZ fT
   dQ [v,ov,iv] (lx ov iv v)
   pv [v,ov,iv] []):=by intro _;rfl)
  (hs:gc [.Subscript (.Subscript (.Name x p1) j p2) l fT] e pos.line X.env=pure false:=by rfl) (hw:gb [.Subscript (.Subscript (.Name x p1) j p2) l fT] e X.env=pure none:=by rfl)
  (h1:(cK [.Subscript (.Subscript (.Name x p1) j p2) l fT] X.env).map (·.2)=[fW (.Subscript (.Subscript (.Name x p1) j p2) l fT) X.env]:=by rfl) :
  XS X ct ms rk (.Assign [.Subscript (.Subscript (.Name x p1) j p2) l fT] e pos) (kc i fj fl f):=by
 obtain⟨t,pt,qt⟩:=he
 obtain⟨tj,vQ,vR⟩:=hj
 obtain⟨tl,P3,P6⟩:=hl
 refine⟨_,HI pt (Mv (MP LX (sg hN hv hd jD) vQ hp) P3 Hn ha) hs hw h1,λF0 B F H ρ σ o E rs e z=>?_⟩
 obtain⟨d,g1,g2⟩:=aY e
 obtain⟨d1,pP,g3,g4,g5⟩:=dL g2
 obtain⟨NT,g6,g7⟩:=aY g5
 refine qt F0 B F H ρ σ d _ rs g1 λv0 F1 H1 x1 l0=>?_
 have kR:=rs.ext x1
 obtain⟨f1,fr,n1,b1,dj,i4,cf,put⟩:=kR.put (F':=F) (H':=H) hm
 obtain⟨v,hσ,ow⟩:=i4 d1 (wf g3)
 refine⟨v,hσ,vR F0 B F1 H1 ρ σ pP _ kR g4 λvj F2 H2 x2 lj=>?_⟩
 cases d1 with
 |lst X5=>
  cases pP with
  |int yi=>
   cases NT with
   |int zi=>
    obtain⟨y',k1,k2⟩:=aY g7
    obtain⟨r,k3,k4⟩:=aY k2
    cases r with
    |lst ds=>
     obtain⟨kA,k5,k6⟩:=aY k4
     cases k6
     obtain⟨jn,k8,k9⟩:=aY k5
     cases k9
     obtain⟨ad,vs,sM,rfl,rfl,hF,hH,ol⟩:=ow.lst_inv
     obtain⟨vr,f2,q1,q2,q3,q4⟩:=eE.upd (R':=Ow X.K ct F2 (upd H2 0 (.lst [])) 1) ol k3
     obtain⟨bd,us,Xc,rfl,rfl,N9,FG,GH⟩:=q2.lst_inv
     clear q4
     have hA:H2 ad=some (.lst vs):=x2.hh _ _ hH
     refine⟨ad,vs,yi,.ref bd,rfl,lj.int,fm.of hA,?_,?_⟩
     ·unfold atI
      rw[←ol.length,k1]
      exact q1
     ·refine P6 F0 B F2 H2 ρ σ _ _ (kR.ext x2) g6 λvl F3 H3 x3 ll=>?_
      have kE:=x2.trans x3
      have hB:H3 bd=some (.lst us):=kE.hh _ _ FG
      have fB:F3 bd=none:=kE.nf bd _ FG nofun N9
      have e0:=GH.nil0
      subst e0
      have wZ:=bH.mp n1
      have IX:bd∈sM:=q3 bd am
      have jY:ad≠bd:=λz=>wZ.1 (z▸IX)
      refine⟨bd,us,zi,jn,rfl,ll.int,hB,by rw[←GH.length];exact k8,?_⟩
      obtain⟨Ym,Xb,JQ,P4,X2,P5⟩:=eE.upd (R':=Ow X.K ct F3 (upd H3 bd (.lst (us.set jn v0))) 1) ol k3
      rw[q1]at JQ
      cases JQ
      obtain⟨W5,Yl,NV,eb,rfl,_,IT,GI⟩:=P4.lst_inv
      cases eb
      have e1:=GI.nil0
      subst e1
      rw[FG]at IT
      cases IT
      refine z σ F3 _ (kR.change hm kE hσ b1 dj cf put (ap _ IX) fB (.inr (.lst (kE.nf ad _ hH nofun hF) (by rw[zy jY];exact kE.hh _ _ hH) (P5 (.lst (ds.set jn d)) (.inr (.lst fB yf (eE.set0 ⟨Dt.mono kE.ff l0,rfl⟩ (λ_ _ _ q=>q.2) jn (GH.mono λ_ _ _ _ q=>⟨q.1.mono kE.ff,q.2⟩)))) wZ.2 ?_))) (fn:=ad::sM) n1 λa ha=>.inl ha)
      intro d0 v1 f' OJ FP o'
      refine(o'.ext kE).frame (.refl _) λa' Dd=>⟨zy λe=>FP a' Dd (by rw[e];exact am),((o'.ext kE).cells a' Dd).1⟩
    |_=>cases k4
   |_=>cases g7
  |_=>cases g7
 |_=>cases g7
end
end L3
namespace L3
open PySem PySem.Spec L2
open PyProof.Rows hiding St
section
variable {K:aa}{ct:Nat->af}{F F' H B F0:Hp}
theorem SL.fz {ms:List Mo}{ρ:Env}{σ:St}{fp:List af}{i k:Nat}(h0:SL K ct F B H ms ρ σ fp)(s:bJ F H):fp.Nodup->ms[i]?=some (.ow k)->∃f1:List af,(∀a∈f1,a∈fp) /\
  ∃gC,SL K ct (gE F H f1) B H (ms.set i (.ow 0)) ρ σ gC/\gC.Nodup/\∀a∈gC,a∈fp/\a∉f1:=by
 induction h0 generalizing i with
 |nil=>
  intro _ e
  simp at e
 |@no m0 o0 ms ρ σ fp t ih=>
  intro nd e
  cases i with
  |zero=>
   obtain⟨w1,w2,w3⟩:=vp (F:=F) (H:=H) (fp:=[]) s (λa z=>by cases z)
   exact⟨[],λa z=>(by cases z),fp,.no (t.frame w1 λa z=>⟨rfl,by unfold gE;rw[if_neg (by simp)];exact(t.cells a z).1⟩),nd,λa z=>⟨z,by simp⟩⟩
  |succ i=>
   obtain⟨f1,h1,gC,q1,q2,q3⟩:=ih (i:=i) nd (by simpa using e)
   exact⟨f1,h1,gC,.no q1,q2,q3⟩
 |@al n0 d0 v0 ms ρ σ fp h t ih=>
  intro nd e
  cases i with
  |zero=>
   simp at e
  |succ i=>
   obtain⟨f1,h1,gC,q1,q2,q3⟩:=ih (i:=i) nd (by simpa using e)
   obtain⟨w1,w2,w3⟩:=vp (F:=F) (H:=H) (fp:=f1) s (λa z=>(t.cells a (h1 a z)).1)
   exact⟨f1,h1,gC,.al (h.mono w1 (.refl _)) q1,q2,q3⟩
 |@px d0 v0 ms ρ σ fp h t ih=>
  intro nd e
  cases i with
  |zero=>
   simp at e
  |succ i=>
   obtain⟨f1,h1,gC,q1,q2,q3⟩:=ih (i:=i) nd (by simpa using e)
   obtain⟨w1,w2,w3⟩:=vp (F:=F) (H:=H) (fp:=f1) s (λa z=>(t.cells a (h1 a z)).1)
   exact⟨f1,h1,gC,.px (h.mono w1 (.refl _)) q1,q2,q3⟩
 |@so d0 x ms ρ σ fp h t ih=>
  intro nd e
  cases i with
  |zero=>
   simp at e
  |succ i=>
   obtain⟨n1,n2⟩:=bH.mp nd
   obtain⟨f1,h1,gC,q1,q2,q3⟩:=ih (i:=i) n2 (by simpa using e)
   obtain⟨w1,w2,w3⟩:=vp (F:=F) (H:=H) (fp:=f1) s (λa z=>(t.cells a (h1 a z)).1)
   refine⟨f1,λa z=>ap _ (h1 a z),x::gC,.so (h.frame w1 λa z=>⟨rfl,?_⟩) q1,bH.mpr ⟨λz=>n1 (q3 x z).1,q2⟩,λa z=>?_⟩
   ·rw[aH]at z
    unfold gE
    rw[if_neg λq=>n1 (z▸h1 a q)]
    exact(h.cells a (by rw[z];exact am)).1
   ·rcases aA.mp z with z|z
    ·exact⟨z▸am,λq=>n1 (z▸h1 a q)⟩
    ·exact⟨ap _ (q3 a z).1,(q3 a z).2⟩
 |@ow n0 d0 v0 ms ρ σ f fp h t ih=>
  intro nd e
  cases i with
  |zero=>
   obtain⟨w1,w2,w3⟩:=vp (F:=F) (H:=H) (fp:=f) s (λa z=>(h.cells a z).1)
   obtain⟨n1,n2,n3⟩:=bo.mp nd
   refine⟨f,λa z=>aS _ z,[]++fp,.ow ⟨h.dt w1 w3,rfl⟩ (t.frame w1 λa z=>⟨rfl,?_⟩),n2,λa z=>⟨ay _ z,λq=>n3 a q a z rfl⟩⟩
   unfold gE
   rw[if_neg λq=>n3 a q a z rfl]
   exact(t.cells a z).1
  |succ i=>
   obtain⟨n1,n2,n3⟩:=bo.mp nd
   obtain⟨f1,h1,gC,q1,q2,q3⟩:=ih (i:=i) n2 (by simpa using e)
   obtain⟨w1,w2,w3⟩:=vp (F:=F) (H:=H) (fp:=f1) s (λa z=>(t.cells a (h1 a z)).1)
   refine⟨f1,λa z=>ay _ (h1 a z),f++gC,.ow (h.frame w1 λa z=>⟨rfl,?_⟩) q1,bo.mpr ⟨n1,q2,λa z b zb=>n3 a z b (q3 b zb).1⟩,λa z=>?_⟩
   ·unfold gE
    rw[if_neg λq=>n3 a z a (h1 a q) rfl]
    exact(h.cells a z).1
   ·rcases aM.mp z with z|z
    ·exact⟨aS _ z,λq=>n3 a z a (h1 a q) rfl⟩
    ·exact⟨ay _ (q3 a z).1,(q3 a z).2⟩
theorem SL.forget (m':Mo){ms:List Mo}{ρ:Env}{σ:St}{fp:List af}(i:Nat)(h0:SL K ct F B H ms ρ σ fp):∃gC,SL K ct F B H (ms.set i m') (ρ.set i none) σ gC/\gC.Sublist fp:=by
 induction h0 generalizing i with
 |nil=>
  exact⟨[],.nil,.refl _⟩
 |@no m0 o0 ms ρ σ fp t ih=>
  cases i with
  |zero=>
   exact⟨fp,.no t,.refl _⟩
  |succ i=>
   obtain⟨gC,q1,q2⟩:=ih i
   exact⟨gC,.no q1,q2⟩
 |@al n0 d0 v0 ms ρ σ fp h t ih=>
  cases i with
  |zero=>
   exact⟨fp,.no t,.refl _⟩
  |succ i=>
   obtain⟨gC,q1,q2⟩:=ih i
   exact⟨gC,.al h q1,q2⟩
 |@px d0 v0 ms ρ σ fp h t ih=>
  cases i with
  |zero=>
   exact⟨fp,.no t,.refl _⟩
  |succ i=>
   obtain⟨gC,q1,q2⟩:=ih i
   exact⟨gC,.px h q1,q2⟩
 |@so d0 x ms ρ σ fp h t ih=>
  cases i with
  |zero=>
   exact⟨fp,.no t,List.sublist_cons_self _ _⟩
  |succ i=>
   obtain⟨gC,q1,q2⟩:=ih i
   exact⟨_,.so h q1,q2.cons₂ _⟩
 |@ow n0 d0 v0 ms ρ σ f fp h t ih=>
  cases i with
  |zero=>
   exact⟨fp,.no t,List.sublist_append_right _ _⟩
  |succ i=>
   obtain⟨gC,q1,q2⟩:=ih i
   exact⟨_,.ow h q1,(List.Sublist.refl _).append q2⟩
theorem RS.fz {ms:List Mo}{ρ:Env}{σ:St}{i k:Nat}(rs:RS K ct F0 B ms F H ρ σ)(hm:ms[i]?=some (.ow k)):∃F',RS K ct F0 B (ms.set i (.ow 0)) F' H ρ σ:=by
 obtain⟨fp,sl,nd,hb⟩:=rs.sl
 obtain⟨f1,h1,gC,q1,q2,q3⟩:=sl.fz rs.fh nd hm
 obtain⟨w1,w2,w3⟩:=vp (F:=F) (H:=H) (fp:=f1) rs.fh (λa z=>(sl.cells a (h1 a z)).1)
 refine⟨gE F H f1,rs.f0.trans w1,rs.bh,w2,λa o ho nt hn=>?_,gC,q1,q2,λa z=>hb a (q3 a z).1⟩
 have:¬a∈f1:=λz=>by rw[hb a (h1 a z)]at ho;cases ho
 unfold gE;rw[if_neg this];exact rs.nf a o ho nt hn
theorem RS.forget {ms:List Mo}{ρ:Env}{σ:St}(m':Mo)(i:Nat)(rs:RS K ct F0 B ms F H ρ σ):RS K ct F0 B (ms.set i m') F H (ρ.set i none) σ:=by
 obtain⟨fp,sl,nd,hb⟩:=rs.sl
 obtain⟨gC,q1,q2⟩:=sl.forget m' i
 exact⟨rs.f0,rs.bh,rs.fh,rs.nf,gC,q1,q2.nodup nd,λa z=>hb a (q2.subset z)⟩
end
def qE (i:Nat):Out->Out
 |.nx ρ=>.nx (ρ.set i none)
 |.rt d=>.rt d
 |.bk ρ=>.bk (ρ.set i none)
 |.ct ρ=>.ct (ρ.set i none)
def sFz (i:Nat)(u:SF):SF:=λρ=>(u ρ).bind λo=>some (qE i o)
section
variable {X:Cx}{ct:Nat->af}{ms:List Mo}{rk k:Nat}
theorem Sj {ms:List Mo}{i k:Nat}(hm:ms[i]?=some (.ow k)):(ms.set i (.ow 0)).set i (.ow k)=ms:=by
 rw[List.set_set]
 apply eh
 intro j
 rw[List.getElem?_set]
 split
 ·next h=>
  subst h
  rw[hm]
  have:=(aQ.mp hm).1
  rw[if_pos this]
 ·rfl
theorem Wz {i:Nat}{t:kH->St->Hp->Prop}{w:SF}(hm:ms[i]?=some (.ow k))
  (q:∀(F0 B F H:Hp) (ρ:Env) (σ:St) (o:Out) (E:kH),RS X.K ct F0 B (ms.set i (.ow 0)) F H ρ σ->w ρ=some o->kz X.K ct F0 B (ms.set i (.ow 0)) rk E o->t E σ H)
  (F0 B F H:Hp) (ρ:Env) (σ:St) (o:Out) (E:kH) (rs:RS X.K ct F0 B ms F H ρ σ) (e:sFz i w ρ=some o) (z:kz X.K ct F0 B ms rk E o):t E σ H:=by
 obtain⟨F',r2⟩:=rs.fz hm
 obtain⟨o1,e1,e2⟩:=aY e
 refine q F0 B F' H ρ σ o1 E r2 e1 ?_
 have back:∀{ρ':Env} {σ':St} {F2 H2:Hp},RS X.K ct F0 B (ms.set i (.ow 0)) F2 H2 ρ' σ'->RS X.K ct F0 B ms F2 H2 (ρ'.set i none) σ':=λr=>by
  have:=r.forget (.ow k) i
  rw[Sj hm]at this
  exact this
 cases o1 with
 |nx ρ'=>cases e2;exactλσ' F2 H2 r=>z σ' F2 H2 (back r)
 |rt d=>cases e2;exact z
 |bk ρ'=>cases e2;exactλσ' F2 H2 r=>z σ' F2 H2 (back r)
 |ct ρ'=>cases e2;exactλσ' F2 H2 r=>z σ' F2 H2 (back r)
theorem VZ {JW:List bN}{w:SF}{i:Nat}(hm:ms[i]?=some (.ow k))(h:oS X ct (ms.set i (.ow 0)) rk JW w):oS X ct ms rk JW (sFz i w):=by
 obtain⟨t,pt,qt⟩:=h
 exact⟨t,pt,Wz hm qt⟩
theorem zlw {i:Nat}{d:D}:qE i (.rt d)=.rt d:=rfl
theorem zlx {i:Nat}{ρ:Env}:qE i (.nx ρ)=.nx (ρ.set i none):=rfl
end
end L3
namespace L3
open PySem PySem.Spec L2
open PyProof.Rows hiding St
section
variable {X:Cx}{ct:Nat->af}{ms:List Mo}{rk n m k:Nat}{a b c tg:Expr}{pos:cD}
end
end L3
namespace L2
open PySem PySem.Spec PyProof.Rows
section
variable {X:Cx}{mw:List Expr}{kt:Nat}{pt:cD}
end
end L2
namespace L3
open PySem PySem.Spec L2
open PyProof.Rows hiding St
section
variable {X:Cx}{ct:Nat->af}{ms:List Mo}{n:Nat}{a b:Expr}{pos:cD}
end
end L3
namespace L3
open PySem PySem.Spec L2
open PyProof.Rows hiding St
section
variable {K:aa}{ct:Nat->af}{n m k:Nat}
end
end L3
namespace L2
open PySem PySem.Spec PyProof.Rows
section
variable {X:Cx}{e sp:Expr}{te:TE}{tp:TO}{pos p2:cD}
end
end L2
namespace L3
open PySem PySem.Spec L2
open PyProof.Rows hiding St
section
variable {X:Cx}{ct:Nat->af}{ms:List Mo}{n m:Nat}{e sp:Expr}{f g:EF}{pos p1:cD}
end
end L3
namespace L3
open PySem PySem.Spec L2
open PyProof.Rows hiding St
def kg {α:Type}(p q:Nat)(rv:Bool)(us ws:List α):List α:=if us.length=p/\ws.length=q then us++(if rv then ws.reverse else ws)else[]
section
variable {X:Cx}{ct:Nat->af}{ms:List Mo}{rk n m k kk:Nat}{e a:Expr}{f:EF}{x:aR}{pp pos vL:cD}{fa:af}{fd:aN}{ps ks:List aR}{mf:List D->Option D}
end
end L3
namespace L3
open PySem PySem.Spec L2
open PyProof.Rows hiding St
section
variable {X:Cx}{ct:Nat->af}{ms:List Mo}{rk n m k:Nat}{st:bN}{rest:List bN}{a b c e tg:Expr}{f g h:EF}{p q:BF}{u w:SF}{pos:cD}
end
end L3
namespace L3
open PySem PySem.Spec L2
open PyProof.Rows hiding St
section
variable {X:Cx}{ct:Nat->af}{ms:List Mo}{rk n m k:Nat}{a e:Expr}{f:EF}{pos:cD}
end
end L3
namespace L3
open PySem PySem.Spec L2
open PyProof.Rows hiding St
section
variable {X:Cx}{ct:Nat->af}{ms:List Mo}{n m l k:Nat}{a b c:Expr}{f g h:EF}{pos:cD}
theorem Ua {r r':R2}{o o':D->D->Option D}{ta DB tc:TE}(hs:ky X.K ct n m k r o)(sV:ky X.K ct m l k r' o')
  (qa:∀(F0 B F H:Hp) (ρ:Env) (σ:St) (d:D) (Q:VK),RS X.K ct F0 B ms F H ρ σ->f ρ=some d->(∀v F' H',eS F H F' H'->Al X.K ct F' H' n d v->Q v H')->ta σ H Q)
  (qb:∀(F0 B F H:Hp) (ρ:Env) (σ:St) (d:D) (Q:VK),RS X.K ct F0 B ms F H ρ σ->g ρ=some d->(∀v F' H',eS F H F' H'->Al X.K ct F' H' m d v->Q v H')->DB σ H Q)
  (qc:∀(F0 B F H:Hp) (ρ:Env) (σ:St) (d:D) (Q:VK),RS X.K ct F0 B ms F H ρ σ->h ρ=some d->(∀v F' H',eS F H F' H'->Al X.K ct F' H' l d v->Q v H')->tc σ H Q)
  {F0 B F H:Hp} {ρ:Env} {σ:St} {t:Bool} {Q:VK} (rs:RS X.K ct F0 B ms F H ρ σ) (e:bAnd (tb (e2 o f g)) (tb (e2 o' g h)) ρ=some t) (w:∀F' H',eS F H F' H'->Q (.bl t) H'):qL r r' ta DB tc σ H Q:=by
 obtain⟨b1,e1,e3⟩:=aY e
 obtain⟨z1,z2,z3⟩:=aY e1
 rw[ue z3]at z2
 obtain⟨d1,d2,h1,h2,h3⟩:=dL z2
 refine qa F0 B F H ρ σ d1 _ rs h1 λx F1 H1 x1 l1=>?_
 refine qb F0 B F1 H1 ρ σ d2 _ (rs.ext x1) h2 λy F2 H2 x2 l2=>?_
 refine hs F2 H2 x y d1 d2 _ _ x2.fh (l1.mono x2.ff x2.hh) l2 h3 λv F3 H3 x3 l3=>⟨b1,l3.bl,?_⟩
 have xB:=x1.trans (x2.trans x3)
 cases b1 with
 |false=>
  rw[if_neg aX]at e3 ⊢
  cases e3
  exact w F3 H3 xB
 |true=>
  rw[if_pos rfl]at e3 ⊢
  obtain⟨Yn,Kc,QZ⟩:=aY e3
  rw[ue QZ]at Kc
  obtain⟨W6,d3,h4,h5,h6⟩:=dL Kc
  rw[h2]at h4
  cases h4
  refine qc F0 B F3 H3 ρ σ d3 _ (rs.ext xB) h5 λu F4 H4 x4 l4=>?_
  exact sV F4 H4 y u d2 d3 _ _ x4.fh ((l2.mono x3.ff x3.hh).mono x4.ff x4.hh) l4 h6 λv' F5 H5 x5 l5=>by
   rw[l5.bl]
   exact w F5 H5 (xB.trans (x4.trans x5))
theorem Hx {op vN:i6}{r r':R2}{o o':D->D->Option D}(ho:fw X (cm op) r)(hs:ky X.K ct n m k r o)(pZ:fw X (cm vN) r')(sV:ky X.K ct m l k r' o')(ha:XE X ct ms n a f)(hb:XE X ct ms m b g)(hc:XE X ct ms l c h)
  (hm:lastMarks [op,vN] [b,c]=false:=by with_unfolding_all rfl):XT X ct ms (.Compare a [op,vN] [b,c] pos) (bAnd (tb (e2 o f g)) (tb (e2 o' g h))):=by
 obtain⟨ta,pa,qa⟩:=ha
 obtain⟨DB,pb,qb⟩:=hb
 obtain⟨tc,pc,qc⟩:=hc
 refine⟨_,Tl ho pZ pa pb pc hm,λF0 B F H ρ σ t Q rs e w=>?_⟩
 exact Ua hs sV qa qb qc rs e λF' H' x=>⟨t,rfl,w F' H' x⟩
end
end L3
namespace L3
open PySem PySem.Spec L2
open PyProof.Rows hiding St
def kd (d:D)(lo hi:Option Int):Option D:=match d with
 |.tup xs=>if HT.sIx xs.length 0 lo=0/\HT.sIx xs.length xs.length hi=xs.length then none else some (.tup (cutD xs lo hi))
 |_=>none
section
variable {X:Cx}{ct:Nat->af}{ms:List Mo}{rk n m k:Nat}{a b c e tg:Expr}{f g h:EF}{pos:cD}
theorem Lb {lo hi:Option Expr}{pl ph:PF}{p1}(hn:n<=1)(he:XE X ct ms n e f)(hl:XP X ct ms lo pl)(hh:XP X ct ms hi ph):XO X ct ms 1 (.Subscript e (.Slice lo hi none p1) pos) (λρ=>(f ρ).bind λd=>(pl ρ).bind λl=>(ph ρ).bind λh=>kd d l h):=by
 obtain⟨t,pt,qt⟩:=he
 obtain⟨t1,rT,rV⟩:=hl
 obtain⟨t2,lK,oX⟩:=hh
 refine⟨_,Lx Vr pt rT lK,λF0 B F H ρ σ r Q rs e w=>?_⟩
 obtain⟨d,l,h1,h2,h3⟩:=dL e
 obtain⟨hh,h4,h5⟩:=aY h3
 refine qt F0 B F H ρ σ d _ rs h1 λv F1 H1 x1 l1=>?_
 refine rV F0 B F1 H1 ρ σ l _ (rs.ext x1) h2 λF2 H2 x2=>?_
 refine oX F0 B F2 H2 ρ σ hh _ ((rs.ext x1).ext x2) h4 λF3 H3 x3=>?_
 cases d with
 |tup xs=>
  unfold kd at h5
  dsimp only at h5
  have kE:=x2.trans x3
  obtain⟨a,vs,rfl,ha,hp⟩:=Al.tup1 hn (l1.mono kE.ff kE.hh) kE.fh
  by_cases hz:HT.sIx xs.length 0 l=0/\HT.sIx xs.length xs.length hh=xs.length
  ·rw[if_pos hz]at h5;cases h5
  ·rw[if_neg hz]at h5
   cases h5
   refine⟨a,vs,rfl,gY.of ha,by rw[←hp.length];exact hz,λp Gg=>?_⟩
   have xn:=eS.newS kE.fh Gg (.tup (mq vs l hh))
   refine w _ _ _ [] ((x1.trans kE).trans xn) (.inr (.tup yf (eE.ofPr ((Md hp).mono λ_ _ q=>⟨Dt.mono xn.ff q,rfl⟩)))) bz λz hz=>by cases hz
 |_=>cases h5
end
end L3
namespace L3
open PySem PySem.Spec L2
open PyProof.Rows hiding St
section
variable {X:Cx}{ct:Nat->af}{ms:List Mo}{n:Nat}{e tg:Expr}{f:EF}{pos:cD}
theorem V3 {K:aa}{F B G:Hp}{a:af}{vs:List V}{ds:List D}(hp:Pr (Al K ct F B n) ds vs)(keep:∀F' H',bJ F F'->bJ B H'->bJ F' H'->gY K H' a vs):nS K ct F B n (EB K a) ds:=by
 intro i F' H' s1 s2 s3
 have hs:gY K H' a vs:=keep F' H' s1 s2 s3
 refine⟨λd hd=>?_,λhl=>⟨vs,hs,by rw[←hp.length];exact hl⟩⟩
 obtain⟨v,hv,l⟩:=hp.get' hd
 refine⟨⟨vs,v,hs,hv⟩,λx H2 y=>?_⟩
 obtain⟨e,y⟩:=y
 subst e
 have:=y vs hs
 rw[hv]at this
 cases this
 exact⟨F',.refl s3,l.mono s1 (.refl _)⟩
theorem Vf (he:XE X ct ms n e f):qW X ct ms (n-1) tg e (J3 f):=by
 obtain⟨t,pt,qt⟩:=he
 refine⟨_,VO pt,λF0 B F H ρ σ ds R rs e w=>?_⟩
 obtain⟨d,h1,h2⟩:=aY e
 rw[TR h2]at h1
 refine qt F0 B F H ρ σ _ _ rs h1 λv F' H' x l=>?_
 obtain⟨a,vs,rfl,ha,hp⟩:=l.tup x.fh
 exact⟨a,rfl,⟨vs,gY.of ha⟩,w _ F' H' x (V3 (G:=H') hp λF2 H2 s1 s2 s3=>gY.of (s2 _ _ ha))⟩
end
end L3
namespace L3
open PySem PySem.Spec L2
open PyProof.Rows hiding St
section
variable {X:Cx}{K:aa}{ct:Nat->af}{ms:List Mo}{n k:Nat}
end
end L3
namespace L3
open PySem PySem.Spec L2
open PyProof.Rows hiding St
section
variable {X:Cx}{ct:Nat->af}{ms:List Mo}{rk n m k:Nat}{a b c e:Expr}{f g h:EF}{pos:cD}
end
end L3
namespace L3
open PySem PySem.Spec L2
open PyProof.Rows hiding St
section
variable {K:aa}{ct:Nat->af}{F F' H H' B F0:Hp}
end
section
variable {X:Cx}{ct:Nat->af}{ms:List Mo}{rk n m k:Nat}{st:bN}{rest:List bN}{a b c e tg:Expr}{f g h:EF}{p q:BF}{u w:SF}{pos:cD}
end
section
variable {X:Cx}{ct:Nat->af}{ms:List Mo}{rk n m k:Nat}{st:bN}{rest:List bN}{a b c e tg:Expr}{f g h:EF}{p q:BF}{u w:SF}{pos:cD}{i j:Nat}
variable {kk:Nat}{fa:af}{fd:aN}{ps:List aR}{mf:List D->Option D}{x:aR}{pp:cD}
end
end L3
namespace L2
open PySem PySem.Spec
open PyProof.Rows hiding St
section
variable {X:Cx}{pos:cD}
end
end L2
namespace L3
open PySem PySem.Spec L2
open PyProof.Rows hiding St
section
variable {X:Cx}{ct:Nat->af}{ms:List Mo}{n:Nat}{pos:cD}
end
end L3
namespace L3
open PySem PySem.Spec L2
open PyProof.Rows hiding St
section
variable {X:Cx}{ct:Nat->af}{ms:List Mo}{rk n m k i:Nat}{a b c e:Expr}{f g h:EF}{pos:cD}
end
end L3
namespace L3
open PySem PySem.Spec L2
open PyProof.Rows hiding St
section
variable {X:Cx}{ct:Nat->af}{ms:List Mo}{rk n m k:Nat}{a b c e o:Expr}{f g h:EF}{pos:cD}
end
end L3
namespace L2
open PySem PySem.Spec
open PyProof.Rows hiding St
section
variable {X:Cx}{CX:pB}{k:Nat}{f C:af}{fd:aN}{ps ks:List aR}{sp:Sp}{E:XK}{x m:aR}{p pos dz vL:cD}{e o:Expr}{es:List Expr}{kws:List ir}{te ta:TE}{t tk:TA}{nm:Option aR}
variable {g:List ae->List ae->List ae}{gV:List V->List V->List V}
end
end L2
namespace L3
open PySem PySem.Spec L2
open PyProof.Rows hiding St
section
variable {X:Cx}{ct:Nat->af}{ms:List Mo}{rk n m k kk:Nat}{e a:Expr}{f:EF}{x:aR}{pp pos vL:cD}{fa:af}{fd:aN}{ps ks:List aR}{pm cs:List Nat}{mi:Nat->List D->Option D}
end
end L3
namespace L3
open PySem PySem.Spec L2
open PyProof.Rows hiding St
section
variable {X:Cx}{ct:Nat->af}{ms:List Mo}{rk n m k i j:Nat}{a b c e:Expr}{f g h:EF}{pos:cD}
variable {kk:Nat}{fa:af}{fd:aN}{ps:List aR}{mf:List D->Option D}{x y:aR}{pp:cD}
end
end L3
namespace L3
open PySem PySem.Spec L2
open PyProof.Rows hiding St
open Classical in
open Classical in
section
variable {X:Cx}
end
section
variable {K:aa}{ct:Nat->af}{n m k:Nat}
end
section
variable {α:Type}[DecidableEq α]
end
end L3
namespace L3
open PySem PySem.Spec L2
open PyProof.Rows hiding St
section
variable {X:Cx}{ct:Nat->af}{ms:List Mo}{rk n m k:Nat}{st:bN}{rest:List bN}{a b c e tg:Expr}{f g h:EF}{p q:BF}{u w:SF}{pos:cD}{K:aa}
end
end L3
namespace L3
open PySem PySem.Spec L2
open PyProof.Rows hiding St
section
variable {X:Cx}{ct:Nat->af}{ms:List Mo}{rk n m k kk kq:Nat}{st:bN}{rest:List bN}{a b c e tg:Expr}{f g h:EF}{p q:BF}{u w:SF}{pos pp:cD}{K:aa}{x:aR}{fa:af}{fd:aN}{ps:List aR}{mf:List D->Option D}
theorem kK (h:XO X ct ms k e f):XO X ct ms 0 e f:=XE.ow (XO.sh (n:=0) h)
theorem mG {own i:Nat}(hN:X.N.Nodup)(ho:i<own:=by decide)(hm:ms[i]?=some (.ow 0):=by rfl)(hi:X.N[i]?=some x:=by rfl)(hx:Loc X.env.scope x:=by first|exact Or.inl rfl|exact Or.inr rfl)
  (hf:X.fn x=true\/X.env.scope.names.lookup x=some .local:=by first|exact .inl rfl|exact .inr rfl|assumption):rz X ct ms own 0 (.Name x pos) (gV i):=TN ho hm hN hi hx hf
theorem gF {i:Nat}{pos':cD}(hN:X.N.Nodup)(he:XO X ct ms k e f)(hm:ms[i]?=some (.ow k):=by rfl)(hi:X.N[i]?=some x:=by rfl)(hx:Loc X.env.scope x:=by first|exact Or.inl rfl|exact Or.inr rfl)
  (hs:eA e (some (.Name x pos')) pos.line X.env=pure false:=by rfl)
  (hf:X.fn x=true\/X.env.scope.names.lookup x=some .local:=by first|exact .inl rfl|exact .inr rfl|assumption):XS X ct ms rk (.Assign [.Name x pos'] e pos) (sSet i f):=Wn hm hN hi hx he hs hf
theorem kL {i:Nat}(hN:X.N.Nodup)(hm:ms[i]?=some (.ow 0):=by rfl)(hi:X.N[i]?=some x:=by rfl)(hx:Loc X.env.scope x:=by first|exact Or.inl rfl|exact Or.inr rfl)
  (hf:X.fn x=true\/X.env.scope.names.lookup x=some .local:=by first|exact .inl rfl|exact .inr rfl|assumption):XG X ct ms 0 (.Name x pos) (gV i):=UW hm hN hi hx hf
theorem dk {es:List Expr}{ns:List Nat}{fs:Env->Option (List D)}(d:jH X.K X.mg x st ps fa fd)(Fn:cG X.prog X.w X.K X.mg X.base eU kk fa fd ps (gH X.K ct ns rk mf))(hr:d8 kq X.A)(ha:XA X ct ms (e::es) ns fs)(mL:kk<=kq:=by decide)(hg:Gl X x:=by rfl)
  (kY:(x==("__debug__":aR))=false:=by decide) (he:ax (e::es) X.env=(false,bO e X.env)::ax es X.env:=by rfl) (iu:(cB pos (ax es X.env)).any (·.1)=false:=by rfl) :
  XO X ct ms rk (.Call (.Name x pp) (e::es) [] pos) (λρ=>(fs ρ).bind λds=>mf (ds++[])) :=
 qw (ns:=ns) (nd:=[]) (jN:=[]) (by rw[bQ];exact Fn) (hr.mono mL) hg d.mgx d.fn.kp d.bd .nil (λ_ _=>.nil) ha kY he iu
theorem rm {om:List Mo}{iP iter:Expr}{ifs:List Expr}{scope:fv}{N:List aR}{own:Nat}{cap:List Nat}{fi:Env->Option (List D)}{gg:D->Env->Option Env}(hi:qW X ct ms n tg iter fi)
  (hg:∀cl C fp s₀ H₀,rz (gM X scope cl N C fp s₀ H₀) ct (om++gk ms cap) own n tg gg) (ht:∀cl C fp s₀ H₀,tU (gM X scope cl N C fp s₀ H₀) ct (om++gk ms cap) ifs p) (he:∀cl C fp s₀ H₀,XO (gM X scope cl N C fp s₀ H₀) ct (om++gk ms cap) k iP f)
  (B:jK X scope N own cap:=by exact sr (by rfl)) (hc:X.calm=true:=by rfl) (ho:om.length=own:=by rfl) (my:∀i∈cap,i<ms.length:=by decide)
  (hs:∀x,dq iter X.env x=pure x:=by intro _;rfl):XO X ct ms (k+1) (.ListComp iP [⟨tg,iter,ifs,0⟩] scope pos) (d6 fi own cap gg p f):=Ut B hc ho my hi hg ht he hs
theorem iV {P:bg}{w:bE}{mg:aR->Option ae}{base:aK}{qual:aR}{N:List aR}{pm:List Nat}{bf:SF}(Fn:Fun2 K x qual st fa fd)(S:bA N ps (bb st))
  (body:∀(ie:ae) (A:bv) (outer:List PySem.Env) (s:ak) (H:Hp) (E:XK),d8 kk (A.deeper (envOfC qual (bb st) s.heap.objs.size fa ie))->oS (mr eU P w K mg base N qual (bb st) fa ie A outer s H E).nox ct ms rk (gz st) bf)
  (AK:pm.length=ps.length:=by rfl) (Gb:ms.length=N.length:=by rfl) (mL:ps.length<=N.length:=by decide) (AG:∀(i n:Nat),pm[i]?=some n->ms[i]?=some (Mo.al n)\/(n=0/\ms[i]?=some (Mo.ow 0)):=by exact uh (by decide)) :
  cG P w K mg base eU (kk+1) fa fd ps (gH K ct pm rk (mOf N bf)):=lift Fn S AK Gb mL AG body
theorem bX {i:Int}{j}:XE X ct ms 0 (.Constant (.int i) j pos) (eC (.int i)):=Wk
theorem o3 {j}:XE X ct ms 0 (.Constant .none j pos) (eC .non):=Wl
theorem jR (ha:XE X ct ms 0 a f)(hb:XE X ct ms 0 b g):XO X ct ms 1 (.BinOp a .Add b pos) (e2 dB f g):=WY Uv (Uw (by decide) (by decide)) ha hb
theorem il (ha:XE X ct ms 0 a f)(hb:XE X ct ms 0 b g)(hp:kO b:=by exactλ_ _=>rfl):XE X ct ms 0 (.Subscript a b pos) (e2 dW f g):=tM (n:=0) tG tK ha hb hp
theorem lM {fs:Env->Option (List D)}(hm:X.mg "len"=none)(ha:XA X ct ms [e] [n] fs)(hg:Gl X "len":=by rfl)(he:ax [e] X.env=(false,bO e X.env)::ax [] X.env:=by rfl)(iu:(cB pos (ax [] X.env)).any (·.1)=false:=by rfl):XE X ct ms 0 (.Call (.Name "len" pp) [e] [] pos) (eN eG fs):=ug (k:=0) SU Ur hg hm Wf ha (by decide) (by decide) he iu
theorem OU {P:List ae->Prop}(h:P [])(us:List ae)(e:us.length=0):P us:=by
 cases us with
 |nil=>exact h
 |cons a t=>cases e
theorem qA {P:List ae->Prop}(h:∀a1,P [a1])(us:List ae)(e:us.length=1):P us:=by
 cases us with
 |nil=>cases e
 |cons a t=>exact OU (P:=λt=>P (a::t)) (h a) t (Nat.succ.inj e)
theorem oW {P:List ae->Prop}(h:∀a1 a2,P [a1,a2])(us:List ae)(e:us.length=2):P us:=by
 cases us with
 |nil=>cases e
 |cons a t=>exact qA (P:=λt=>P (a::t)) (h a) t (Nat.succ.inj e)
theorem rh {P:List ae->Prop}(h:∀a1 a2 a3,P [a1,a2,a3])(us:List ae)(e:us.length=3):P us:=by
 cases us with
 |nil=>cases e
 |cons a t=>exact oW (P:=λt=>P (a::t)) (h a) t (Nat.succ.inj e)
theorem sZ {P:List ae->Prop}(h:∀a1 a2 a3 a4,P [a1,a2,a3,a4])(us:List ae)(e:us.length=4):P us:=by
 cases us with
 |nil=>cases e
 |cons a t=>exact rh (P:=λt=>P (a::t)) (h a) t (Nat.succ.inj e)
theorem GB {P:List ae->Prop}(h:∀a1 a2 a3 a4 a5,P [a1,a2,a3,a4,a5])(us:List ae)(e:us.length=5):P us:=by
 cases us with
 |nil=>cases e
 |cons a t=>exact sZ (P:=λt=>P (a::t)) (h a) t (Nat.succ.inj e)
end
end L3
namespace L3
open PySem PySem.Spec L2
open PyProof.Rows hiding St
section
variable {K:aa}{ct:Nat->af}{F B H:Hp}
end
section
variable {X:Cx}{ct:Nat->af}{ms:List Mo}{rk n m k i j:Nat}{a b c e:Expr}{f g h:EF}{p q:BF}{pos:cD}{K:aa}
end
end L3
set_option maxHeartbeats 1000000
namespace L3
open PySem PySem.Spec L2
open PyProof.Rows hiding St
inductive ED where
 |ok (d:D)|xc (d:D)
inductive EC where
 |ok (o:Out)|xc (ρ:Env) (d:D)
abbrev Ie:=Env->Option EC
section
variable (X:Cx)(G:GK)(ct:Nat->af)(ms:List Mo)(rk:Nat)
end
section
variable {X:Cx}{G:GK}{ct:Nat->af}{ms:List Mo}{rk n m k:Nat}{st:bN}{rest:List bN}{a b c e:Expr}{f g h:EF}{p q:BF}{u w:Ie}{pos:cD}
end
end L3
set_option maxHeartbeats 1000000
namespace L3
open PySem PySem.Spec L2
open PyProof.Rows hiding St
section
variable {X:Cx}{G:GK}{ct:Nat->af}{ms:List Mo}{rk n m k kk:Nat}{st:bN}{rest:List bN}{a b c e:Expr}{f g h:EF}{p q:BF}{u w:Ie}{pos pp:cD}{fa:af}{fd:aN}{ps:List aR}{mf:List D->Option ED}{x:aR}
end
end L3
set_option maxHeartbeats 1000000
namespace L3
open PySem PySem.Spec L2
open PyProof.Rows hiding St
section
variable {X:Cx}{G:GK}{ct:Nat->af}{ms:List Mo}{rk n m k kk:Nat}{a b c e tg:Expr}{f g h:EF}{u w:SF}{pos pp:cD}{fa:af}{fd:aN}{ps:List aR}{x:aR}
end
end L3
set_option maxHeartbeats 1000000
namespace L2
open PySem PySem.Spec PyProof.Rows
section
variable {X:Cx}
end
end L2
namespace L3
open PySem PySem.Spec L2
open PyProof.Rows hiding St
section
variable {X:Cx}{ct:Nat->af}{ms:List Mo}{n m k:Nat}{e:Expr}{f:EF}{pos:cD}
end
end L3
set_option maxHeartbeats 1000000
namespace L3
open PySem PySem.Spec L2
open PyProof.Rows hiding St
end L3
set_option maxHeartbeats 1000000
namespace L3
open PySem PySem.Spec L2
open PyProof.Rows hiding St
end L3
set_option maxHeartbeats 1000000
namespace L2
open PySem PySem.Spec PyProof.Rows
section
variable {prog:bg}{w:bE}{A:bv}{E:ae->ak->Prop}{s:ak}{z TI TO i1 i2 i3 l1 l2 l3:af}{xs ys zs:Array ae}{k1 k2 k3:Nat}
end
end L2
set_option maxHeartbeats 1000000
namespace L2
open PySem PySem.Spec PyProof.Rows
section
variable {X:Cx}{mw:List Expr}{kt:Nat}{pt:cD}
end
end L2
namespace L3
open PySem PySem.Spec L2
open PyProof.Rows hiding St
section
variable {X:Cx}{ct:Nat->af}{ms:List Mo}{n:Nat}{a b c:Expr}{pos:cD}
end
end L3
set_option maxHeartbeats 1000000
namespace L2
open PySem PySem.Spec PyProof.Rows
section
variable {X:Cx}{k:Nat}{f:af}{fd:aN}{ps:List aR}{sp:Sp}{ds:List ae}{gZ:List V}{E:XK}{x:aR}{p pos:cD}{e:Expr}{es:List Expr}{t:TA}
end
end L2
namespace L3
open PySem PySem.Spec L2
open PyProof.Rows hiding St
section
variable {X:Cx}{ct:Nat->af}{ms:List Mo}{rk kk:Nat}{fa:af}{fd:aN}{ps:List aR}{mf:List D->Option D}{x:aR}{pp pos:cD}{e:Expr}
end
end L3
namespace PySem
section
variable {prog:bg}{w:bE}{A:bv}{R:Result->ak->Prop}{I:af}{fp wr:List af}{n:Nat}{P:Nat->ae->Prop}{St:Nat->aK->Prop}{kw:List (aR×ae)}
end
section
variable {prog:bg}{w:bE}{A:bv}{E:ae->ak->Prop}{s:ak}
end
end PySem
namespace L3
open PySem PySem.Spec L2
section
variable {X:Cx}{ct:Nat->af}{ms:List Mo}{e b:Expr}{f g:EF}{n m k:Nat}
end
end L3
set_option maxHeartbeats 1000000
namespace L3
open PySem PySem.Spec L2
open PyProof.Rows hiding St
section
variable {X:Cx}{ct:Nat->af}{ms:List Mo}{n:Nat}{a b c:Expr}{pos:cD}
end
end L3
set_option maxHeartbeats 1000000
namespace L3
open PySem PySem.Spec L2
open PyProof.Rows hiding St
section
variable {X:Cx}{ct:Nat->af}{ms:List Mo}{n m k:Nat}{e o:Expr}{f g:EF}{pos:cD}
end
end L3
set_option maxHeartbeats 1000000
namespace L3
open PySem PySem.Spec L2
open PyProof.Rows hiding St
theorem foldl_rep (c:Nat):∀(n:Nat) (fG:Array Nat),(aG n #[c]).foldl (· ++ ·) fG=fG++Array.replicate n c
 |0,fG=>by simp
 |n+1,fG=>by
  rw[cA,dM,foldl_rep c n,oe]
  congr 1
  apply Array.toList_inj.mp
  simp[cA]
section
variable {X:Cx}{ct:Nat->af}{K:aa}{ms:List Mo}{n m k:Nat}{e o:Expr}{f g:EF}{pos:cD}
end
end L3
set_option maxHeartbeats 1000000
namespace L3
open PySem PySem.Spec L2
open PyProof.Rows hiding St
section
variable {X:Cx}{ct:Nat->af}{ms:List Mo}{rk n m k i j:Nat}{e o:Expr}{f g:EF}{pos:cD}
end
end L3
set_option maxHeartbeats 1000000
namespace L3
open PySem PySem.Spec L2
open PyProof.Rows hiding St
section
variable {X:Cx}{ct:Nat->af}{ms:List Mo}{n m k rk:Nat}{a b e o:Expr}{f g:EF}{pos:cD}
end
end L3
set_option maxHeartbeats 1000000
namespace L2
open PySem PySem.Spec PyProof.Rows
section
variable {X:Cx}{e sl sp:Expr}{te:TE}{tl tp:TO}{pos p2:cD}
end
end L2
namespace L3
open PySem PySem.Spec L2
open PyProof.Rows hiding St
section
variable {X:Cx}{ct:Nat->af}{ms:List Mo}{n m k rk:Nat}{e o:Expr}{f g:EF}{pos:cD}
end
end L3
set_option maxHeartbeats 1000000
namespace L3
open PySem PySem.Spec L2
open PyProof.Rows hiding St
section
variable {K:aa}{ct:Nat->af}{a:af}{bU:List (List dv×V)}{u:HO}{F F' G H B F0:Hp}{ms:List Mo}{n rk:Nat}
end
def kD:dv->D
 |.inl i=>.int i
 |.inr x=>.str x
theorem HF {K:aa}{ct:Nat->af}{F B:Hp}:∀k:List dv,Pr (Al K ct F B 0) (k.map kD) (k.map kV)
 |[]=>.nil
 |.inl i::k=>.cons (show Dt K ct F (.int i) (.int i)from .int i) (HF k)
 |.inr x::k=>.cons (show Dt K ct F (.str x) (.str x)from .str x) (HF k)
section
variable {X:Cx}{ct:Nat->af}{ms:List Mo}{rk n:Nat}{rest:List bN}{e ty:Expr}{jI:List Expr}{j jj:Nat}{pt p1 pos:cD}{f:EF}{u:SF}{gs:List D->Env->Option Env}{gy:D->Env->Option Env}
end
end L3
set_option maxHeartbeats 1000000
namespace L3
open PySem PySem.Spec L2
open PyProof.Rows hiding St
section
variable {K:aa}{ct:Nat->af}{F H:Hp}{n:Nat}
theorem eS.shT {b:af}{xs:List V}(s:bJ F H)(h:H b=some (.tup xs)):eS F H (upd F b (.tup xs)) H:=by
 refine⟨λc o e=>?_,.refl _,λc o e=>?_,λc o e t n=>?_⟩
 ·by_cases z:c=b
  ·subst z;rw[yf];rw[s _ _ e]at h;exact h.symm
  ·rw[zy z];exact e
 ·by_cases z:c=b
  ·subst z;rw[yf]at e;cases e;exact h
  ·rw[zy z]at e;exact s _ _ e
 ·by_cases z:c=b
  ·subst z;rw[h]at e;cases e;exact absurd rfl (t xs)
  ·rw[zy z];exact n
theorem eS.shTs {bU:List (List dv×V)}{bs:List af}(s:bJ F H)(pr:Paired (λ(q:List dv×V) (b:af)=>H b=some (.tup (q.1.map kV))) bU bs):∃F',eS F H F' H/\Pr (Dt K ct F') (bU.map λq=>D.tup (q.1.map kD)) (bs.map V.ref):=by
 induction pr with
 |nil=>exact⟨F,.refl s,.nil⟩
 |@cons q b bU bs h t ih=>
  obtain⟨F1,x1,p1⟩:=ih
  have x2:=eS.shT x1.fh h
  refine⟨_,x1.trans x2,.cons (.tup (yf) (Dts.of ((HF (ct:=ct) (B:=H) q.1)))) (p1.mono λ_ _ z=>z.mono x2.ff)⟩
end
def m9:List D->Option D
 |[.dT ks ds]=>if ks.length=ds.length then some (.lst (ks.map λk=>.tup (k.map kD)))else none
 |_=>none
theorem Lc {K:aa}{ct:Nat->af}{n:Nat}:pL K ct [n] 1 qH m9:=by
 intro F H vs ds d Q s l e w
 cases l with
 |cons h t=>
  cases t
  rename_i d1 v
  cases d1 with
  |dT ks ds=>
   obtain⟨a,vs,rfl,ha,hl,hp⟩:=h.dT s
   have hd:ks.length=ds.length:=hl.trans hp.length.symm
   unfold m9 at e
   dsimp only at e
   rw[if_pos hd]at e
   cases e
   refine⟨a,_,rfl,ha,λl bs h0 pr=>?_⟩
   obtain⟨F',x,p⟩:=eS.shTs (K:=K) (ct:=ct) s pr
   have hk:((ks.zip vs).map λq=>D.tup (q.1.map kD))=ks.map λk=>D.tup (k.map kD):=by
    have:(ks.zip vs).map Prod.fst=ks:=List.map_fst_zip (by omega)
    conv=>rhs;rw[←this]
    rw[df];rfl
   rw[hk]at p
   exact qx x.fh (p.mono λ_ _ z=>z) (λv F2 H2 fp x2 o nd hf=>w v F2 H2 fp (x.trans x2) o nd hf) l h0
  |_=>cases e
end L3
set_option maxHeartbeats 1000000
namespace L3
open PySem PySem.Spec L2
open PyProof.Rows hiding St
def oV (x:List Int):List (List Int)->List (List Int)
 |[]=>[x]
 |y::ys=>if fD y x=true then y::oV x ys else x::y::ys
def iY:List (List Int)->List (List Int)
 |[]=>[]
 |x::xs=>oV x (iY xs)
def xR (xs:List (List Int)):Prop:=xs.Pairwise λx y=>fD y x=false
theorem Hj (x:List Int):∀ys,(oV x ys).Perm (x::ys)
 |[]=>.refl _
 |y::ys=>by
  unfold oV
  split
  ·exact((Hj x ys).cons y).trans (.swap ..)
  ·exact .refl _
theorem j7:∀xs,(iY xs).Perm xs
 |[]=>.refl _
 |x::xs=>(Hj x _).trans ((j7 xs).cons x)
theorem KC (x:List Int):∀{ys},xR ys->xR (oV x ys)
 |[],_=>List.pairwise_singleton _ _
 |y::ys,h=>by
  obtain⟨h1,h2⟩:=eQ.mp h
  unfold oV
  by_cases c:fD y x=true
  ·rw[if_pos c]
   refine eQ.mpr ⟨λz hz=>?_,KC x h2⟩
   rcases aA.mp ((Hj x ys).mem_iff.mp hz)with rfl|hz
   ·exact D8 _ _ c
   ·exact h1 z hz
  ·rw[if_neg c]
   have c:fD y x=false:=by simpa using c
   refine eQ.mpr ⟨λz hz=>?_,h⟩
   rcases aA.mp hz with rfl|hz
   ·exact c
   ·exact HA _ _ _ c (h1 z hz)
theorem Kn:∀xs,xR (iY xs)
 |[]=>.nil
 |x::xs=>KC x (Kn xs)
theorem Lk:∀{xs ys:List (List Int)},xs.Perm ys->xR xs->xR ys->xs=ys
 |[],ys,p,_,_=>(List.nil_perm.mp p).symm
 |x::xs,[],p,_,_=>absurd p.length_eq (by simp)
 |x::xs,y::ys,p,h,h'=>by
  obtain⟨h1,h2⟩:=eQ.mp h
  obtain⟨h3,h4⟩:=eQ.mp h'
  have irr:∀z,fD z z=false:=λz=>by
   cases e:fD z z with
   |false=>rfl
   |true=>have:=D8 _ _ e;rw[e]at this;cases this
  have e:x=y:=by
   have m1:x∈y::ys:=p.mem_iff.mp am
   have m2:y∈x::xs:=p.mem_iff.mpr am
   have a1:fD x y=false:=by
    rcases aA.mp m1 with e|m
    ·rw[e];exact irr _
    ·exact h3 x m
   have a2:fD y x=false:=by
    rcases aA.mp m2 with e|m
    ·rw[e];exact irr _
    ·exact h1 y m
   exact LU _ _ a1 a2
  subst e
  rw[Lk ((List.perm_cons x).mp p) h2 h4]
def dA (k:List Int):D:=.tup (k.map .int)
def lq:List D->Option (List (List Int))
 |[]=>some []
 |.tup ds::es=>(fS ds).bind λk=>(lq es).bind λks=>some (k::ks)
 |_=>none
theorem KJ:∀{ds:List D} {ks:List (List Int)},lq ds=some ks->ds=ks.map dA
 |[],_,e=>by cases e;rfl
 |d::ds,ks,e=>by
  cases d with
  |tup es=>
   obtain⟨k,ms,h1,h2,h3⟩:=dL (show(fS es).bind _=_ from e)
   cases h3
   rw[KJ h2,He h1];rfl
  |_=>cases e
theorem Ld:∀ks:List (List Int),lq (ks.map dA)=some ks
 |[]=>rfl
 |k::ks=>by
  show(fS (k.map .int)).bind _=_
  rw[K9,bK]
  show(lq (ks.map dA)).bind _=_
  rw[Ld ks];rfl
def qJ:List D->Option D
 |[.lst xs]=>(lq xs).bind λks=>if ks.length<64/\∀k∈ks,k≠[]then some (.lst ((iY ks).map dA))else none
 |_=>none
section
variable {K:aa}{ct:Nat->af}{n:Nat}
theorem Pr.intsV {R:D->V->Prop}(hR:∀i v,R (.int i) v->v=.int i):∀{k:List Int} {vs:List V},Pr R (k.map .int) vs->vs=k.map V.int
 |[],_,.nil=>rfl
 |i::k,_,.cons h t=>by rw[hR i _ h,Pr.intsV hR t];rfl
theorem Mj {F H:Hp}{m:Nat}(s:bJ F H):∀{ks:List (List Int)} {vs:List V},Pr (Al K ct F H m) (ks.map dA) vs->∃qs:List (af×List Int),vs=qs.map (λq=>V.ref q.1)/\ks=qs.map (·.2)/\∀q∈qs,F q.1=some (.tup (q.2.map V.int))
 |[],_,.nil=>⟨[],rfl,rfl,nofun⟩
 |k::ks,_,.cons (v:=v) h t=>by
  obtain⟨qs,e1,e2,e3⟩:=Mj s t
  have:∃b,v=.ref b/\F b=some (.tup (k.map V.int)):=by
   cases m with
   |zero=>
    have h:Dt K ct F (.tup (k.map .int)) v:=h
    cases h with
    |tup q p=>exact⟨_,rfl,by rw[←Pr.intsV (R:=Dt K ct F) (λi v z=>by cases z;rfl) p.pr];exact q⟩
   |succ m=>
    rcases h with h|h
    ·have h:Dt K ct F (.tup (k.map .int)) v:=h
     cases h with
     |tup q p=>exact⟨_,rfl,by rw[←Pr.intsV (R:=Dt K ct F) (λi v z=>by cases z;rfl) p.pr];exact q⟩
    ·have h:tN K ct F H (Al K ct F H m) (.tup (k.map .int)) v:=h
     cases h with
     |tup q p=>exact⟨_,rfl,by rw[←Pr.intsV (R:=Al K ct F H m) (λi v z=>by rw[z.int]) p];exact q⟩
  obtain⟨b,rfl,hb⟩:=this
  exact⟨(b,k)::qs,by rw[e1];rfl,by rw[e2];rfl,λq hq=>by
   rcases aA.mp hq with rfl|hq
   ·exact hb
   ·exact e3 q hq⟩
theorem SZ:pL K ct [n] 1 (qI K) qJ:=by
 intro F H vs ds d Q s l e w
 match ds,l,e with
 |[.lst xs],l,e=>
  obtain⟨ks,h1,h2⟩:=aY (show(lq xs).bind _=_ from e)
  by_cases hz:ks.length<64/\∀k∈ks,k≠[]
  ·rw[if_pos hz]at h2
   cases h2
   have:=KJ h1
   subst this
   cases l with
   |cons h t=>
    cases t
    obtain⟨a,us,rfl,ha,hp⟩:=h.lst s
    obtain⟨qs,rfl,rfl,hq⟩:=Mj s hp
    refine⟨a,qs,rfl,ha,λq m=>⟨s _ _ (hq q m),hz.2 _ (List.mem_map_of_mem m)⟩,by have:=hz.1;rwa[aF]at this,λng p1 p2=>?_⟩
    have e2:ng.map (·.2)=iY (qs.map (·.2)):=Lk ((p1.map _).trans (j7 _).symm) (o8.mpr p2) (Kn _)
    rw[←e2,df]at w
    refine qx s ?_ w
    have:∀l:List (af×List Int),(∀q∈l,F q.1=some (.tup (q.2.map V.int)))->Pr (Al K ct F H 0) (l.map (dA ∘ (·.2))) (l.map λq=>V.ref q.1):=by
     intro l
     induction l with
     |nil=>exactλ_=>.nil
     |cons q l ih=>
      intro hl
      exact .cons (show Dt K ct F (.tup (q.2.map .int)) (.ref q.1)from .tup (hl q am) (Dts.of (Pr.ofInts (H:=H) q.2))) (ih λx hx=>hl x (ap _ hx))
    exact this ng λq m=>hq q (p1.mem_iff.mp m)
  ·rw[if_neg hz]at h2;cases h2
end
end L3
set_option maxHeartbeats 4000000
namespace L3
open PySem L2
end L3
namespace Fq
end Fq
set_option maxHeartbeats 4000000
namespace My
open PySem L2 L3
def top (i:Nat):bN:=PySem.Challenge.pw_ringbeat_k74_whole_alike_or_parted.main.body.getD i (.Pass ⟨0,0,0,0⟩)
abbrev yb:bN:=inClass (top 14) 0
abbrev yg:bN:=inClass (top 15) 0
abbrev zp:bN:=inClass (top 16) 0
abbrev zq:bN:=inClass (top 17) 0
abbrev yz:bN:=top 24
abbrev y0:bN:=top 25
abbrev wg:bN:=top 26
abbrev xa:bN:=top 27
abbrev yh:bN:=top 28
abbrev xt:bN:=top 29
abbrev zt:bN:=top 30
abbrev yr:bN:=inClass (top 33) 0
abbrev zm:bN:=inClass (top 33) 1
abbrev xu:bN:=inClass (top 33) 2
abbrev xb:bN:=inClass (top 33) 3
abbrev vw:bN:=top 7
abbrev wx:bN:=top 8
abbrev zu:bN:=top 35
abbrev yt:bN:=top 36
abbrev zl:bN:=top 37
abbrev zo:bN:=top 38
abbrev jo:bN:=top 39
abbrev zk:bN:=top 10
abbrev vx:bN:=top 11
abbrev wy:bN:=top 12
abbrev yj:bN:=top 41
abbrev xf:bN:=top 43
abbrev xg:bN:=top 42
abbrev xv:bN:=top 44
abbrev yu:bN:=top 45
abbrev yk:bN:=top 46
abbrev wj:bN:=top 47
abbrev xh:bN:=top 48
abbrev zj:bN:=top 49
abbrev xi:bN:=top 50
abbrev xw:bN:=top 51
abbrev qz:bN:=top 52
theorem Ra:bA ["self","start","goal","time","behind"] ["self","start","goal","time","behind"] (bb yb):=⟨rfl,rfl,rfl,by decide +kernel,rfl,by decide +kernel,by decide +kernel⟩
theorem Rb:bA ["self","start","goal","time"] ["self","start","goal","time"] (bb yg):=⟨rfl,rfl,rfl,by decide +kernel,rfl,by decide +kernel,by decide +kernel⟩
theorem Rc:bA ["self","start","goal","time","behind"] ["self","start","goal","time","behind"] (bb zp):=⟨rfl,rfl,rfl,by decide +kernel,rfl,by decide +kernel,by decide +kernel⟩
theorem Re:bA ["self","start","goal","time","behind"] ["self","start","goal","time","behind"] (bb zq):=⟨rfl,rfl,rfl,by decide +kernel,rfl,by decide +kernel,by decide +kernel⟩
theorem RE:bA ["sign"] ["sign"] (bb yz):=⟨rfl,rfl,rfl,by decide +kernel,rfl,by decide +kernel,by decide +kernel⟩
theorem RF:bA ["sign"] ["sign"] (bb y0):=⟨rfl,rfl,rfl,by decide +kernel,rfl,by decide +kernel,by decide +kernel⟩
theorem Sk:bA ["word"] ["word"] (bb wg):=⟨rfl,rfl,rfl,by decide +kernel,rfl,by decide +kernel,by decide +kernel⟩
theorem jt:bA ["names","seen","name"] ["names"] (bb xa):=⟨rfl,rfl,rfl,by decide +kernel,rfl,by decide +kernel,by decide +kernel⟩
theorem Rf:bA ["number","least","most"] ["number","least","most"] (bb yh):=⟨rfl,rfl,rfl,by decide +kernel,rfl,by decide +kernel,by decide +kernel⟩
theorem q0:bA ["arrow","many","least","most"] ["arrow","many"] (bb xt):=⟨rfl,rfl,rfl,by decide +kernel,rfl,by decide +kernel,by decide +kernel⟩
theorem ym:bA ["many","arrows","within","waited","arrow","placed","done","here"] ["many","arrows"] (bb zt):=⟨rfl,rfl,rfl,by decide +kernel,rfl,by decide +kernel,by decide +kernel⟩
theorem vz:bA ["self","names","arrows","number","arrow","placed"] ["self","names","arrows"] (bb yr):=⟨rfl,rfl,rfl,by decide +kernel,rfl,by decide +kernel,by decide +kernel⟩
theorem Q6:bA ["self"] ["self"] (bb zm):=⟨rfl,rfl,rfl,by decide +kernel,rfl,by decide +kernel,by decide +kernel⟩
theorem RA:bA ["self","going"] ["self","going"] (bb xu):=⟨rfl,rfl,rfl,by decide +kernel,rfl,by decide +kernel,by decide +kernel⟩
theorem RG:bA ["self"] ["self"] (bb xb):=⟨rfl,rfl,rfl,by decide +kernel,rfl,by decide +kernel,by decide +kernel⟩
theorem Ub:bA ["when","more"] ["when","more"] (bb vw):=⟨rfl,rfl,rfl,by decide +kernel,rfl,by decide +kernel,by decide +kernel⟩
theorem S1:bA ["one","other"] ["one","other"] (bb wx):=⟨rfl,rfl,rfl,by decide +kernel,rfl,by decide +kernel,by decide +kernel⟩
theorem wl:bA ["told","greatest","going","number","amount"] ["told"] (bb zu):=⟨rfl,rfl,rfl,by decide +kernel,rfl,by decide +kernel,by decide +kernel⟩
theorem Kk:bA ["net","was","depth"] ["net","was"] (bb yt):=⟨rfl,rfl,rfl,by decide +kernel,rfl,by decide +kernel,by decide +kernel⟩
theorem xo:bA ["net","rows","numbers","floor","when","number","arrow"] ["net","rows","numbers","floor"] (bb zl):=⟨rfl,rfl,rfl,by decide +kernel,rfl,by decide +kernel,by decide +kernel⟩
theorem yo:bA ["net","rounds","was","floors","rows","greatest","numbers","order","number","going","floor"] ["net","rounds","was","floors"] (bb zo):=⟨rfl,rfl,rfl,by decide +kernel,rfl,by decide +kernel,by decide +kernel⟩
theorem V4:bA ["net","rounds","was","floors"] ["net","rounds","was","floors"] (bb jo):=⟨rfl,rfl,rfl,by decide +kernel,rfl,by decide +kernel,by decide +kernel⟩
theorem x8:bA ["net","going","order","sums","here","arrow"] ["net","going","order"] (bb zk):=⟨rfl,rfl,rfl,by decide +kernel,rfl,by decide +kernel,by decide +kernel⟩
theorem uj:bA ["net","order","sums","greatest","arrow","goal","more","key"] ["net"] (bb vx):=⟨rfl,rfl,rfl,by decide +kernel,rfl,by decide +kernel,by decide +kernel⟩
theorem DO:bA ["one","other","here","there","key"] ["one","other"] (bb wy):=⟨rfl,rfl,rfl,by decide +kernel,rfl,by decide +kernel,by decide +kernel⟩
theorem Rg:bA ["_law_script","_law_k"] ["_law_script","_law_k"] (bb yj):=⟨rfl,rfl,rfl,by decide +kernel,rfl,by decide +kernel,by decide +kernel⟩
theorem ju:bA ["_law_cell","_law_k","_law_number"] ["_law_cell","_law_k"] (bb xf):=⟨rfl,rfl,rfl,by decide +kernel,rfl,by decide +kernel,by decide +kernel⟩
theorem RH:bA ["_law_found"] ["_law_found"] (bb xg):=⟨rfl,rfl,rfl,by decide +kernel,rfl,by decide +kernel,by decide +kernel⟩
theorem w8:bA ["_law_cell","_law_many","_law_one","_law_other","_law_behind","_law_time_here"] ["_law_cell","_law_many"] (bb xv):=⟨rfl,rfl,rfl,by decide +kernel,rfl,by decide +kernel,by decide +kernel⟩
theorem Ru:bA ["_law_parts","_law_many","_law_cell"] ["_law_parts","_law_many","_law_cell"] (bb yu):=⟨rfl,rfl,rfl,by decide +kernel,rfl,by decide +kernel,by decide +kernel⟩
theorem vm:bA ["_law_parts","_law_many","_law_cell","_law_way","_law_at","_law_one"] ["_law_parts","_law_many","_law_cell"] (bb yk):=⟨rfl,rfl,rfl,by decide +kernel,rfl,by decide +kernel,by decide +kernel⟩
theorem j8:bA ["_law_parts","_law_many","_law_start","_law_arrows","_law_k","_law_part_here"] ["_law_parts","_law_many","_law_start"] (bb wj):=⟨rfl,rfl,rfl,by decide +kernel,rfl,by decide +kernel,by decide +kernel⟩
theorem Ko:bA ["_law_many","_law_behind","_law_start","_law_was"] ["_law_many","_law_behind","_law_start"] (bb xh):=⟨rfl,rfl,rfl,by decide +kernel,rfl,by decide +kernel,by decide +kernel⟩
theorem xx:bA ["_law_one","_law_other","_law_many","_law_behind","_law_start","_law_was"] ["_law_one","_law_other","_law_many"] (bb zj):=⟨rfl,rfl,rfl,by decide +kernel,rfl,by decide +kernel,by decide +kernel⟩
theorem vv:bA ["_law_one","_law_other","_law_many","_law_key","_law_behind","_law_start","_law_goal","_law_was"] ["_law_one","_law_other","_law_many","_law_key"] (bb xi):=⟨rfl,rfl,rfl,by decide +kernel,rfl,by decide +kernel,by decide +kernel⟩
theorem KD:bA ["_law_cell","_law_k","_law_number"] ["_law_cell","_law_k"] (bb xw):=⟨rfl,rfl,rfl,by decide +kernel,rfl,by decide +kernel,by decide +kernel⟩
theorem ux:bA ["_law_script","_law_cell","_law_many","_law_parts","_law_others","_law_one","_law_other","_law_apart","_law_pair","_law_key","_law_near","_law_was"] ["_law_script"] (bb qz):=⟨rfl,rfl,rfl,by decide +kernel,rfl,by decide +kernel,by decide +kernel⟩
set_option genInjectivity false
set_option genSizeOf false
structure xJ where
 c_Arrow:af
 c_Ride:af
 c_Wait:af
 c_Back:af
 c_Net:af
 f_Arrow___init:af
 d_Arrow___init:aN
 f_Ride___init:af
 d_Ride___init:aN
 f_Wait___init:af
 d_Wait___init:aN
 f_Back___init:af
 d_Back___init:aN
 f_is_letter:af
 d_is_letter:aN
 f_is_figure:af
 d_is_figure:aN
 f_is_name:af
 d_is_name:aN
 f_are_names:af
 d_are_names:aN
 f_lies_within:af
 d_lies_within:aN
 f_is_right:af
 d_is_right:aN
 f_placed_goings:af
 d_placed_goings:aN
 f_Net___init:af
 d_Net___init:aN
 f_Net_most_behind:af
 d_Net_most_behind:aN
 f_Net_into:af
 d_Net_into:aN
 f_Net_order:af
 d_Net_order:aN
 f_later:af
 d_later:aN
 f_latest:af
 d_latest:aN
 f_greatest_told:af
 d_greatest_told:aN
 f_rows_ahead:af
 d_rows_ahead:aN
 f_time_in_last_row:af
 d_time_in_last_row:aN
 f_rows_with_past:af
 d_rows_with_past:aN
 f_run:af
 d_run:aN
 f_sums_within_round:af
 d_sums_within_round:aN
 f_steps:af
 d_steps:aN
 f_parted:af
 d_parted:aN
 f_law_cell_at:af
 d_law_cell_at:aN
 f_law_mixed:af
 d_law_mixed:aN
 f_law_whole:af
 d_law_whole:aN
 f_law_part:af
 d_law_part:aN
 f_law_turned:af
 d_law_turned:aN
 f_law_changed:af
 d_law_changed:aN
 f_law_net:af
 d_law_net:aN
 f_law_alone:af
 d_law_alone:aN
 f_law_part_somewhere:af
 d_law_part_somewhere:aN
 f_law_shows:af
 d_law_shows:aN
 f_law_time:af
 d_law_time:aN
 f_law:af
 d_law:aN
set_option genSizeOf true
set_option genInjectivity true
def xJ.ct (a:xJ):Nat->af
 |0=>a.c_Arrow
 |1=>a.c_Ride
 |2=>a.c_Wait
 |3=>a.c_Back
 |4=>a.c_Net
 |_=>0
structure Txt (K:aa)(mg:aR->Option ae)(a:xJ):Prop where
 Arrow:Dc K mg "Arrow" a.c_Arrow
 Ride:Dc K mg "Ride" a.c_Ride
 Wait:Dc K mg "Wait" a.c_Wait
 Back:Dc K mg "Back" a.c_Back
 Net:Dc K mg "Net" a.c_Net
 Arrow___init:Dm K a.c_Arrow "__init__" "Arrow.__init__" yb ["self","start","goal","time","behind"] a.f_Arrow___init a.d_Arrow___init
 Ride___init:Dm K a.c_Ride "__init__" "Ride.__init__" yg ["self","start","goal","time"] a.f_Ride___init a.d_Ride___init
 Wait___init:Dm K a.c_Wait "__init__" "Wait.__init__" zp ["self","start","goal","time","behind"] a.f_Wait___init a.d_Wait___init
 Wait___init_d1:∃kW,True/\bT [(V.int 0)] kW/\bM K a.d_Wait___init ["self","start","goal","time","behind"] kW
 Back___init:Dm K a.c_Back "__init__" "Back.__init__" zq ["self","start","goal","time","behind"] a.f_Back___init a.d_Back___init
 Back___init_d1:∃kW,True/\bT [(V.int 1)] kW/\bM K a.d_Back___init ["self","start","goal","time","behind"] kW
 is_letter:jH K mg "is_letter" yz ["sign"] a.f_is_letter a.d_is_letter
 is_figure:jH K mg "is_figure" y0 ["sign"] a.f_is_figure a.d_is_figure
 is_name:jH K mg "is_name" wg ["word"] a.f_is_name a.d_is_name
 are_names:jH K mg "are_names" xa ["names"] a.f_are_names a.d_are_names
 lies_within:jH K mg "lies_within" yh ["number","least","most"] a.f_lies_within a.d_lies_within
 is_right:jH K mg "is_right" xt ["arrow","many"] a.f_is_right a.d_is_right
 placed_goings:jH K mg "placed_goings" zt ["many","arrows"] a.f_placed_goings a.d_placed_goings
 Net___init:Dm K a.c_Net "__init__" "Net.__init__" yr ["self","names","arrows"] a.f_Net___init a.d_Net___init
 Net_most_behind:Dm K a.c_Net "most_behind" "Net.most_behind" zm ["self"] a.f_Net_most_behind a.d_Net_most_behind
 Net_into:Dm K a.c_Net "into" "Net.into" xu ["self","going"] a.f_Net_into a.d_Net_into
 Net_order:Dm K a.c_Net "order" "Net.order" xb ["self"] a.f_Net_order a.d_Net_order
 later:jH K mg "later" vw ["when","more"] a.f_later a.d_later
 latest:jH K mg "latest" wx ["one","other"] a.f_latest a.d_latest
 greatest_told:jH K mg "greatest_told" zu ["told"] a.f_greatest_told a.d_greatest_told
 rows_ahead:jH K mg "rows_ahead" yt ["net","was"] a.f_rows_ahead a.d_rows_ahead
 time_in_last_row:jH K mg "time_in_last_row" zl ["net","rows","numbers","floor"] a.f_time_in_last_row a.d_time_in_last_row
 rows_with_past:jH K mg "rows_with_past" zo ["net","rounds","was","floors"] a.f_rows_with_past a.d_rows_with_past
 run:jH K mg "run" jo ["net","rounds","was","floors"] a.f_run a.d_run
 run_d1:∃kW,True/\bT [V.non] kW/\bM K a.d_run ["net","rounds","was","floors"] kW
 run_d2:∃kW,True/\bT [V.non,V.non] kW/\bM K a.d_run ["net","rounds","was","floors"] kW
 sums_within_round:jH K mg "sums_within_round" zk ["net","going","order"] a.f_sums_within_round a.d_sums_within_round
 steps:jH K mg "steps" vx ["net"] a.f_steps a.d_steps
 parted:jH K mg "parted" wy ["one","other"] a.f_parted a.d_parted
 law_cell_at:jH K mg "_law_cell_at" yj ["_law_script","_law_k"] a.f_law_cell_at a.d_law_cell_at
 law_mixed:jH K mg "_law_mixed" xf ["_law_cell","_law_k"] a.f_law_mixed a.d_law_mixed
 law_whole:jH K mg "_law_whole" xg ["_law_found"] a.f_law_whole a.d_law_whole
 law_part:jH K mg "_law_part" xv ["_law_cell","_law_many"] a.f_law_part a.d_law_part
 law_turned:jH K mg "_law_turned" yu ["_law_parts","_law_many","_law_cell"] a.f_law_turned a.d_law_turned
 law_changed:jH K mg "_law_changed" yk ["_law_parts","_law_many","_law_cell"] a.f_law_changed a.d_law_changed
 law_net:jH K mg "_law_net" wj ["_law_parts","_law_many","_law_start"] a.f_law_net a.d_law_net
 law_alone:jH K mg "_law_alone" xh ["_law_many","_law_behind","_law_start"] a.f_law_alone a.d_law_alone
 law_part_somewhere:jH K mg "_law_part_somewhere" zj ["_law_one","_law_other","_law_many"] a.f_law_part_somewhere a.d_law_part_somewhere
 law_shows:jH K mg "_law_shows" xi ["_law_one","_law_other","_law_many","_law_key"] a.f_law_shows a.d_law_shows
 law_time:jH K mg "_law_time" xw ["_law_cell","_law_k"] a.f_law_time a.d_law_time
 law:jH K mg "law" qz ["_law_script"] a.f_law a.d_law
 q_Arrow:Dq K a.c_Arrow "__init__" a.f_Arrow___init
 fld_arrows:∀c∈([4]:List Nat),kT K (a.ct c)/\eX K (a.ct c) "arrows"
 fld_behind:∀c∈([0,1,2,3]:List Nat),kT K (a.ct c)/\eX K (a.ct c) "behind"
 fld_goal:∀c∈([0,1,2,3]:List Nat),kT K (a.ct c)/\eX K (a.ct c) "goal"
 fld_names:∀c∈([4]:List Nat),kT K (a.ct c)/\eX K (a.ct c) "names"
 fld_start:∀c∈([0,1,2,3]:List Nat),kT K (a.ct c)/\eX K (a.ct c) "start"
 fld_time:∀c∈([0,1,2,3]:List Nat),kT K (a.ct c)/\eX K (a.ct c) "time"
 isi_Back:∀c∈([0,1,2,3,4]:List Nat),Ic K (a.ct c)/\bI K (.ref (a.ct c)) (.ref a.c_Back)=some (sx [3] c)
 isi_Ride:∀c∈([0,1,2,3,4]:List Nat),Ic K (a.ct c)/\bI K (.ref (a.ct c)) (.ref a.c_Ride)=some (sx [1] c)
 b_all:mg "all"=none
 b_bool:mg "bool"=none
 b_enumerate:mg "enumerate"=none
 b_int:mg "int"=none
 b_isinstance:mg "isinstance"=none
 b_len:mg "len"=none
 b_list:mg "list"=none
 b_max:mg "max"=none
 b_min:mg "min"=none
 b_range:mg "range"=none
 b_reversed:mg "reversed"=none
 b_sorted:mg "sorted"=none
 b_str:mg "str"=none
 b_tuple:mg "tuple"=none
 g_MOST_ARROWS:∃t,mg "MOST_ARROWS"=some (.int 120 t)
 g_MOST_BEHIND:∃t,mg "MOST_BEHIND"=some (.int 4 t)
 g_MOST_NAMES:∃t,mg "MOST_NAMES"=some (.int 40 t)
 g_MOST_SIGNS:∃t,mg "MOST_SIGNS"=some (.int 8 t)
 g_MOST_TIME:∃t,mg "MOST_TIME"=some (.int 1000000000 t)
section
variable {P:bg}{w:bE}{K:aa}{mg:aR->Option ae}{base:aK}{a:xJ}{ct:Nat->af}
def vn:Nat->List D->Option D:=vI ["self","start","goal","time","behind"]
  (sSeq (jQ [0,1,2,3] "start" (eV 1))
  (sSeq (jQ [0,1,2,3] "goal" (eV 2))
  (sSeq (jQ [0,1,2,3] "time" (eV 3))
  (jQ [0,1,2,3] "behind" (eV 4)))))
theorem v7 (T:Txt K mg a):cG P w K mg base eU 1 a.f_Arrow___init a.d_Arrow___init ["self","start","goal","time","behind"] (pK K a.ct [0,1,2,3] [0,0,0,0] vn):=by
 refine jr (ms:=[.ow 0,.ow 0,.ow 0,.ow 0]) (rk:=0) T.Arrow___init.fn Ra rfl rfl (by decide) (uh (by decide)) λx0 ie A outer s H E hr=>?_
 exact(ze (xG T.fld_start (za 1 0))
  (ze (xG T.fld_goal (za 2 0))
  (ze (xG T.fld_time (za 3 0))
  (zf (xG T.fld_behind (za 4 0))))))
def jc:Nat->List D->Option D:=vI ["self","start","goal","time"]
  (mE [0,1,2,3] (aCons (eV 1) (aCons (eV 2) (aCons (eV 3) (aCons (eC (.int 0)) aNil)))) vn)
theorem Rh (T:Txt K mg a):cG P w K mg base eU 2 a.f_Ride___init a.d_Ride___init ["self","start","goal","time"] (pK K a.ct [1] [0,0,0] jc):=by
 have er:=v7 (P:=P) (w:=w) (base:=base) T
 refine jr (ms:=[.ow 0,.ow 0,.ow 0]) (rk:=0) T.Ride___init.fn Rb rfl rfl (by decide) (uh (by decide)) λx0 ie A outer s H E hr=>?_
 exact(zf (HD (ns:=[0,0,0,0]) er (hr.mono (by decide)) T.Arrow.mgx T.q_Arrow.sp T.q_Arrow.rd T.q_Arrow.fc T.Arrow___init.fn.kp T.Arrow___init.bd (by decide) (zc (za 1 0) (zc (za 2 0) (zc (za 3 0) (zc bX zg))))))
def jd:Nat->List D->Option D:=vI ["self","start","goal","time","behind"]
  (mE [0,1,2,3] (aCons (eV 1) (aCons (eV 2) (aCons (eV 3) (aCons (eV 4) aNil)))) vn)
theorem Ri (T:Txt K mg a):cG P w K mg base eU 2 a.f_Wait___init a.d_Wait___init ["self","start","goal","time","behind"] (pK K a.ct [2] [0,0,0,0] jd):=by
 have er:=v7 (P:=P) (w:=w) (base:=base) T
 refine jr (ms:=[.ow 0,.ow 0,.ow 0,.ow 0]) (rk:=0) T.Wait___init.fn Rc rfl rfl (by decide) (uh (by decide)) λx0 ie A outer s H E hr=>?_
 exact(zf (HD (ns:=[0,0,0,0]) er (hr.mono (by decide)) T.Arrow.mgx T.q_Arrow.sp T.q_Arrow.rd T.q_Arrow.fc T.Arrow___init.fn.kp T.Arrow___init.bd (by decide) (zc (za 1 0) (zc (za 2 0) (zc (za 3 0) (zc (za 4 0) zg))))))
def je:Nat->List D->Option D:=vI ["self","start","goal","time","behind"]
  (mE [0,1,2,3] (aCons (eV 1) (aCons (eV 2) (aCons (eV 3) (aCons (eV 4) aNil)))) vn)
theorem Rj (T:Txt K mg a):cG P w K mg base eU 2 a.f_Back___init a.d_Back___init ["self","start","goal","time","behind"] (pK K a.ct [3] [0,0,0,0] je):=by
 have er:=v7 (P:=P) (w:=w) (base:=base) T
 refine jr (ms:=[.ow 0,.ow 0,.ow 0,.ow 0]) (rk:=0) T.Back___init.fn Re rfl rfl (by decide) (uh (by decide)) λx0 ie A outer s H E hr=>?_
 exact(zf (HD (ns:=[0,0,0,0]) er (hr.mono (by decide)) T.Arrow.mgx T.q_Arrow.sp T.q_Arrow.rd T.q_Arrow.fc T.Arrow___init.fn.kp T.Arrow___init.bd (by decide) (zc (za 1 0) (zc (za 2 0) (zc (za 3 0) (zc (za 4 0) zg))))))
def Ha:List D->Option D:=mOf ["sign"]
  (sRet (eB (bAnd (tb (e2 pF (eC (.str "a")) (eV 0))) (tb (e2 pF (eV 0) (eC (.str "z")))))))
theorem RI (T:Txt K mg a):cG P w K mg base eU 1 a.f_is_letter a.d_is_letter ["sign"] (gH K a.ct [0] 0 Ha):=by
 refine iV (ms:=[.ow 0]) T.is_letter.fn RE λ_ _ _ _ _ _ hr=>?_
 exact(zf (zz (XE.ow (xE (tH (k:=0) ql uq (CL (n:=0)) (za 0 0) (bD _)) (wF (k:=0) (tH (k:=0) ql uq (za 0 0) (CL (n:=0)) (bD _)))))))
def KF:List D->Option D:=mOf ["sign"]
  (sRet (eB (bAnd (tb (e2 pF (eC (.str "0")) (eV 0))) (tb (e2 pF (eV 0) (eC (.str "9")))))))
theorem RJ (T:Txt K mg a):cG P w K mg base eU 1 a.f_is_figure a.d_is_figure ["sign"] (gH K a.ct [0] 0 KF):=by
 refine iV (ms:=[.ow 0]) T.is_figure.fn RF λ_ _ _ _ _ _ hr=>?_
 exact(zf (zz (XE.ow (xE (tH (k:=0) ql uq (CL (n:=0)) (za 0 0) (bD _)) (wF (k:=0) (tH (k:=0) ql uq (za 0 0) (CL (n:=0)) (bD _)))))))
def RB:EF:=(d6 (λρ=>((eV 0) ρ).bind Iq) 1 [] (gV 0) fu (eB (bOr (tb (λρ=>((aCons (eV 0) aNil) ρ).bind λds=>Ha (ds++[]))) (tb (λρ=>((aCons (eV 0) aNil) ρ).bind λds=>KF (ds++[]))))))
def Le:List D->Option D:=mOf ["word"]
  (sSeq (sIf (bOr (bNot (tb (e1 (jZ "str") (eV 0)))) (bOr (tb (e2 qB (eN eG (aCons (eV 0) aNil)) (eC (.int 1)))) (tb (e2 oU (eN eG (aCons (eV 0) aNil)) (eC (.int 8)))))) (sRet (eC (.bl false))) sSkip)
  (sRet (eB (bAnd (tb (λρ=>((aCons (e2 dW (eV 0) (eC (.int 0))) aNil) ρ).bind λds=>Ha (ds++[]))) (tb (eN rC (aCons RB aNil)))))))
theorem Sl (T:Txt K mg a):cG P w K mg base eU 2 a.f_is_name a.d_is_name ["word"] (gH K a.ct [0] 0 Le):=by
 have ku:=RI (P:=P) (w:=w) (base:=base) T
 have mW:=RJ (P:=P) (w:=w) (base:=base) T
 refine iV (ms:=[.ow 0]) T.is_name.fn Sk λ_ _ _ _ _ _ hr=>?_
 exact(ze (wm (XW.t (oH (v5 (vq (wH (k:=0) (by decide) T.b_isinstance T.b_str We (za 0 0)))) (oH (ye (k:=0) wJ wG (lM T.b_len (zc (za 0 0) zg)) bX (bD _)) (qk (ye (k:=0) tL tJ (lM T.b_len (zc (za 0 0) zg)) (CF (n:=0) (d:=(.int 8)) rfl T.g_MOST_SIGNS.choose_spec rfl ⟨_,rfl⟩) (bD _)))))) (zf (zz (XE.ow (o4 (n:=0))))) ya)
  (zf (zz (XE.ow (xE (XO.sh (n:=0) (dk T.is_letter ku hr (zc (il (za 0 0) bX) zg))) (wF (k:=0) (ug (k:=0) (K8 rfl) Mg rfl T.b_all MA (zc (XO.sh (n:=0) (rm (N:=["sign"]) (om:=[.ow 0]) (cap:=[]) (own:=1) (XI.cc (Ww (n:=0) (za 0 0))) (λ_ _ _ _ _=>(mG (show cv (["sign"]:List aR)from by decide +kernel))) (λ_ _ _ _ _=>w6) (λ_ _ _ _ _=>(XE.ow (W1 (XO.sh (n:=0) (dk T.is_letter ku hr (zc (za 0 0) zg))) (wF (k:=0) (XO.sh (n:=0) (dk T.is_figure mW hr (zc (za 0 0) zg))))))))) zg))))))))
def Rn:SF:=(sSeq (sIf (bOr (bNot (tb (λρ=>((aCons (eV 2) aNil) ρ).bind λds=>Le (ds++[])))) (tb (λρ=>((eV 2) ρ).bind λx=>((eV 1) ρ).bind λy=>(ig y x).bind λr=>some (.bl r.isSome)))) (sRet (eC (.bl false))) sSkip)
  (lX 1 (eV 2) (eC (.bl true))))
def jf:List D->Option D:=mOf ["names","seen","name"]
  (sSeq (sIf (bOr (bNot (tb (e1 (jZ "list") (eV 0)))) (bOr (tb (e2 qB (eN eG (aCons (eV 0) aNil)) (eC (.int 1)))) (tb (e2 oU (eN eG (aCons (eV 0) aNil)) (eC (.int 40)))))) (sRet (eC (.bl false))) sSkip)
  (sSeq (sSet 1 (eC (.dK [] [])))
  (sSeq (sFor (lsD (eV 0)) (gV 2) Rn)
  (sRet (eC (.bl true))))))
theorem RK (T:Txt K mg a):cG P w K mg base eU 3 a.f_are_names a.d_are_names ["names"] (gH K a.ct [0] 0 jf):=by
 have oR:=Sl (P:=P) (w:=w) (base:=base) T
 refine iV (ms:=[.ow 0,.ow 1,.ow 0]) T.are_names.fn jt λ_ _ _ _ _ _ hr=>?_
 exact(ze (wm (XW.t (oH (v5 (vq (wH (k:=0) (by decide) T.b_isinstance T.b_list qr (za 0 0)))) (oH (ye (k:=0) wJ wG (lM T.b_len (zc (za 0 0) zg)) bX (bD _)) (qk (ye (k:=0) tL tJ (lM T.b_len (zc (za 0 0) zg)) (CF (n:=0) (d:=(.int 40)) rfl T.g_MOST_NAMES.choose_spec rfl ⟨_,rfl⟩) (bD _)))))) (zf (zz (XE.ow (o4 (n:=0))))) ya)
  (ze (gF jt.nd S9)
  (ze (vt (v6 (za 0 0)) (kL jt.nd) (ze (wm (XW.t (oH (v5 (vq (XO.sh (n:=0) (dk T.is_name oR hr (zc (za 2 0) zg))))) (qk (Wx (su hr) (za 2 0) (za 1 1) (by with_unfolding_all rfl))))) (zf (zz (XE.ow (o4 (n:=0))))) ya)
  (zf (HE 1 rfl (su hr) (za 2 0) (o4 (n:=0))))) cx.never rfl)
  (zf (zz (XE.ow (o4 (n:=0))))))))
def yc:List D->Option D:=mOf ["number","least","most"]
  (sSeq (sIf (bOr (bNot (tb (e1 (jZ "int") (eV 0)))) (tb (e1 (jZ "bool") (eV 0)))) (sRet (eC (.bl false))) sSkip)
  (sRet (eB (bAnd (tb (e2 pF (eV 1) (eV 0))) (tb (e2 pF (eV 0) (eV 2)))))))
theorem Rk (T:Txt K mg a):cG P w K mg base eU 1 a.f_lies_within a.d_lies_within ["number","least","most"] (gH K a.ct [0,0,0] 0 yc):=by
 refine iV (ms:=[.ow 0,.ow 0,.ow 0]) T.lies_within.fn Rf λ_ _ _ _ _ _ hr=>?_
 exact(ze (wm (XW.t (oH (v5 (vq (wH (k:=0) (by decide) T.b_isinstance T.b_int Mz (za 0 0)))) (qk (vq (wH (k:=0) (by decide) T.b_isinstance T.b_bool LZ (za 0 0)))))) (zf (zz (XE.ow (o4 (n:=0))))) ya)
  (zf (zz (XE.ow (xE (tH (k:=0) ql uq (za 1 0) (za 0 0) (bD _)) (wF (k:=0) (tH (k:=0) ql uq (za 0 0) (za 2 0) (bD _))))))))
def j9:List D->Option D:=mOf ["arrow","many","least","most"]
  (sSeq (sSet 2 (eIf (tb (e1 (p9 [0,1,2,3,4] [3]) (eV 0))) (eC (.int 1)) (eC (.int 0))))
  (sSeq (sSet 3 (eIf (tb (e1 (p9 [0,1,2,3,4] [1]) (eV 0))) (eC (.int 0)) (eC (.int 4))))
  (sSeq (sIf (bOr (bNot (tb (λρ=>((aCons (e1 (cP [0,1,2,3] "start") (eV 0)) (aCons (eC (.int 0)) (aCons (e2 ke (eV 1) (eC (.int 1))) aNil))) ρ).bind λds=>yc (ds++[])))) (bNot (tb (λρ=>((aCons (e1 (cP [0,1,2,3] "goal") (eV 0)) (aCons (eC (.int 0)) (aCons (e2 ke (eV 1) (eC (.int 1))) aNil))) ρ).bind λds=>yc (ds++[]))))) (sRet (eC (.bl false))) sSkip)
  (sRet (eB (bAnd (tb (λρ=>((aCons (e1 (cP [0,1,2,3] "time") (eV 0)) (aCons (eC (.int 0)) (aCons (eC (.int 1000000000)) aNil))) ρ).bind λds=>yc (ds++[]))) (tb (λρ=>((aCons (e1 (cP [0,1,2,3] "behind") (eV 0)) (aCons (eV 2) (aCons (eV 3) aNil))) ρ).bind λds=>yc (ds++[])))))))))
theorem RC (T:Txt K mg a):cG P w K mg base eU 2 a.f_is_right a.d_is_right ["arrow","many"] (gH K a.ct [0,0] 0 j9):=by
 have fF:=Rk (P:=P) (w:=w) (base:=base) T
 refine iV (ms:=[.ow 0,.ow 0,.ow 0,.ow 0]) T.is_right.fn q0 λ_ _ _ _ _ _ hr=>?_
 exact(ze (gF q0.nd (XE.ow (HX (vq (Mi (k:=0) T.isi_Back T.b_isinstance T.Back.mgx (za 0 0))) bX bX)))
  (ze (gF q0.nd (XE.ow (HX (vq (Mi (k:=0) T.isi_Ride T.b_isinstance T.Ride.mgx (za 0 0))) bX (CF (n:=0) (d:=(.int 4)) rfl T.g_MOST_BEHIND.choose_spec rfl ⟨_,rfl⟩))))
  (ze (wm (XW.t (oH (v5 (vq (XO.sh (n:=0) (dk T.lies_within fF hr (zc (yq (n:=0) (za 0 0) T.fld_start rfl) (zc bX (zc (xk (k:=0) sj u9 (za 1 0) bX) zg))))))) (qk (v5 (vq (XO.sh (n:=0) (dk T.lies_within fF hr (zc (yq (n:=0) (za 0 0) T.fld_goal rfl) (zc bX (zc (xk (k:=0) sj u9 (za 1 0) bX) zg)))))))))) (zf (zz (XE.ow (o4 (n:=0))))) ya)
  (zf (zz (XE.ow (xE (XO.sh (n:=0) (dk T.lies_within fF hr (zc (yq (n:=0) (za 0 0) T.fld_time rfl) (zc bX (zc (CF (n:=0) (d:=(.int 1000000000)) rfl T.g_MOST_TIME.choose_spec rfl ⟨_,rfl⟩) zg))))) (wF (k:=0) (XO.sh (n:=0) (dk T.lies_within fF hr (zc (yq (n:=0) (za 0 0) T.fld_behind rfl) (zc (za 2 0) (zc (za 3 0) zg)))))))))))))
def wa:SF:=(sIf (tb (e2 (iH false) (e1 (cP [0,1,2,3] "start") (eV 4)) (eV 7))) (sSeq (nh 3 (e1 (cP [0,1,2,3] "goal") (eV 4)) (λi j=>i-j) (eC (.int 1)))
  (sIf (tb (e2 (iH false) (e2 dW (eV 3) (e1 (cP [0,1,2,3] "goal") (eV 4))) (eC (.int 0)))) (sApp 5 (e1 (cP [0,1,2,3] "goal") (eV 4))) sSkip)) sSkip)
def ve:SF:=(sSeq (sSet 7 (e2 dW (eV 5) (eV 6)))
  (sSeq (sFor (lsD (eV 2)) (gV 4) wa)
  (vV 6 (i2 λi j=>.int (i+j)) (eC (.int 1)))))
def uz:EF:=(d6 (λρ=>((aCons (eV 0) aNil) ρ).bind iJ) 1 [3] (gV 0) (tb (e2 (iH false) (e2 dW (eV 1) (eV 0)) (eC (.int 0)))) (eV 0))
def vf:SF:=(nh 3 (e1 (cP [0,1,2,3] "goal") (eV 4)) (λi j=>i+j) (eC (.int 1)))
def u0:EF:=(d6 (lsD (eV 1)) 1 [] (gV 0) (tb (e2 (iH false) (e1 (cP [0,1,2,3] "behind") (eV 0)) (eC (.int 0)))) (eV 0))
def wb:List D->Option D:=mOf ["many","arrows","within","waited","arrow","placed","done","here"]
  (sSeq (sSet 2 u0)
  (sSeq (sSet 3 (e2 jP (λρ=>((aCons (eC (.int 0)) aNil) ρ).bind λds=>some (.lst ds)) (eV 0)))
  (sSeq (sFor (lsD (eV 2)) (gV 4) vf)
  (sSeq (sSet 5 uz)
  (sSeq (sSet 6 (eC (.int 0)))
  (sSeq (n9 (tb (e2 qB (eV 6) (eN eG (aCons (eV 5) aNil)))) ve)
  (sRet (eV 5))))))))
theorem jm (T:Txt K mg a):cG P w K mg base eU 1 a.f_placed_goings a.d_placed_goings ["many","arrows"] (gH K a.ct [0,0] 0 wb):=by
 refine iV (ms:=[.ow 0,.ow 0,.ow 0,.ow 1,.ow 0,.ow 1,.ow 0,.ow 0]) T.placed_goings.fn ym λ_ _ _ _ _ _ hr=>?_
 exact(ze (w9 (k:=0) (N:=["arrow"]) (om:=[.ow 0]) (cap:=[]) (own:=1) rfl ym.nd rfl (Or.inl rfl) (sr (by rfl)) rfl rfl (by decide) (CA (n:=0) (za 1 0)) (λ_ _ _ _ _=>(mG (show cv (["arrow"]:List aR)from by decide +kernel))) (λ_ _ _ _ _=>(HB (ye (k:=0) (wv hr.u64) wc (yq (n:=0) (za 0 0) T.fld_behind rfl) bX (bD _)))) (λ_ _ _ _ _=>(XE.ow (za 0 0))))
  (ze (gF ym.nd (Ek (uf (k:=0) (zh (XE.ow bX) yy)) (za 0 0)))
  (ze (vt (v6 (za 2 0)) (kL ym.nd) (zf (Mh 3 Mw rfl (yq (n:=0) (za 4 0) T.fld_goal rfl) bX)) cx.never rfl)
  (ze (w9 (k:=1) (N:=["going","waited"]) (om:=[.ow 0]) (cap:=[3]) (own:=1) rfl ym.nd rfl (Or.inl rfl) (sr (by rfl)) rfl rfl (by decide) (XI.cc (wq (n:=0) T.b_range (zc (za 0 0) zg))) (λ_ _ _ _ _=>(mG (show cv (["going","waited"]:List aR)from by decide +kernel))) (λ_ _ _ _ _=>(HB (ye (k:=0) (wv hr.u64) wc (tM (n:=1) tG tK (za 1 1) (za 0 0) (λ_ _=>rfl)) bX (bD _)))) (λ_ _ _ _ _=>(XE.ow (za 0 0))))
  (ze (gF ym.nd (XE.ow bX))
  (ze (Tb (ye (k:=0) wJ wG (za 6 0) (lM T.b_len (zc (za 5 1) zg)) (bD _)) (ze (gF ym.nd (XE.ow (tM (n:=1) tG tK (za 5 1) (za 6 0) (λ_ _=>rfl))))
  (ze (vt (v6 (za 2 0)) (kL ym.nd) (zf (wm (ye (k:=0) (wv hr.u64) wc (yq (n:=0) (za 4 0) T.fld_start rfl) (za 7 0) (bD _)) (ze (Mh 3 VN rfl (yq (n:=0) (za 4 0) T.fld_goal rfl) bX)
  (zf (wm (ye (k:=0) (wv hr.u64) wc (tM (n:=1) tG tK (za 3 1) (yq (n:=0) (za 4 0) T.fld_goal rfl) (λ_ _=>rfl)) bX (bD _)) (zf (jq 5 rfl (XE.ow (yq (n:=0) (za 4 0) T.fld_goal rfl)))) ya))) ya)) cx.never rfl)
  (zf (Wq Mw rfl ym.nd rfl (Or.inl rfl) bX)))) cx.never)
  (zf (xC (i:=5) rfl))))))))
def ur:SF:=(sIf (bNot (tb (λρ=>((aCons (eV 4) (aCons (eN eG (aCons (eV 1) aNil)) aNil)) ρ).bind λds=>j9 (ds++[])))) lh sSkip)
def uk:Nat->List D->Option D:=vI ["self","names","arrows","number","arrow","placed"]
  (sSeq (sIf (bOr (bNot (tb (λρ=>((aCons (eV 1) aNil) ρ).bind λds=>jf (ds++[])))) (tb (e2 oU (eN eG (aCons (eV 2) aNil)) (eC (.int 120))))) lh sSkip)
  (sSeq (sFor (λρ=>((aCons (eV 2) aNil) ρ).bind λds=>match ds with|[.lst xs]=>some (et 0 xs)|_=>none) (gT (gsCons (gV 3) (gsCons (gV 4) gsNil))) ur)
  (sSeq (sSet 5 (λρ=>((aCons (eN eG (aCons (eV 1) aNil)) (aCons (eV 2) aNil)) ρ).bind λds=>wb (ds++[])))
  (sSeq (sIf (tb (e2 qB (eN eG (aCons (eV 5) aNil)) (eN eG (aCons (eV 1) aNil)))) lh sSkip)
  (sSeq (jQ [4] "names" (eN jO (aCons (eV 1) aNil)))
  (jQ [4] "arrows" (eN jO (aCons (eV 2) aNil))))))))
theorem Ro (T:Txt K mg a):cG P w K mg base eU 4 a.f_Net___init a.d_Net___init ["self","names","arrows"] (pK K a.ct [4] [0,0] uk):=by
 have mV:=RK (P:=P) (w:=w) (base:=base) T
 have nQ:=RC (P:=P) (w:=w) (base:=base) T
 have fP:=jm (P:=P) (w:=w) (base:=base) T
 refine jr (ms:=[.ow 0,.ow 0,.ow 0,.ow 0,.ow 0]) (rk:=0) T.Net___init.fn vz rfl rfl (by decide) (uh (by decide)) λx0 ie A outer s H E hr=>?_
 exact(ze (wm (XW.t (oH (v5 (vq (XO.sh (n:=0) (dk T.are_names mV hr (zc (za 1 0) zg))))) (qk (ye (k:=0) tL tJ (lM T.b_len (zc (za 2 0) zg)) (CF (n:=0) (d:=(.int 120)) rfl T.g_MOST_ARROWS.choose_spec rfl ⟨_,rfl⟩) (bD _))))) (zf DT) ya)
  (ze (vt (HC T.b_enumerate (zc (za 2 0) zg)) (CM (n:=1) rfl (ww (kL vz.nd) (ww (kL vz.nd) CC))) (zf (wm (v5 (vq (XO.sh (n:=0) (dk T.is_right nQ hr (zc (za 4 0) (zc (lM T.b_len (zc (za 1 0) zg)) zg)))))) (zf DT) ya)) cx.never rfl)
  (ze (gF vz.nd (dk T.placed_goings fP hr (zc (lM T.b_len (zc (za 1 0) zg)) (zc (za 2 0) zg))))
  (ze (wm (ye (k:=0) wJ wG (lM T.b_len (zc (za 5 0) zg)) (lM T.b_len (zc (za 1 0) zg)) (bD _)) (zf DT) ya)
  (ze (xG T.fld_names (XO.sh (n:=0) (uw ud (DU (n:=0) (by decide)) rfl T.b_list qr (zc (za 1 0) zg))))
  (zf (xG T.fld_arrows (XO.sh (n:=0) (uw ud (DU (n:=0) (by decide)) rfl T.b_list qr (zc (za 2 0) zg))))))))))
def v8:EF:=(d6 (lsD (e1 (cP [4] "arrows") (eV 0))) 1 [] (gV 0) fu (e1 (cP [0,1,2,3] "behind") (eV 0)))
def xm:List D->Option D:=mOf ["self"]
  (sRet (eN rO (aCons (e2 dB (λρ=>((aCons (eC (.int 1)) aNil) ρ).bind λds=>some (.lst ds)) v8) aNil)))
theorem um (T:Txt K mg a):cG P w K mg base eU 1 a.f_Net_most_behind a.d_Net_most_behind ["self"] (gH K a.ct [0] 0 xm):=by
 refine iV (ms:=[.ow 0]) T.Net_most_behind.fn Q6 λ_ _ _ _ _ _ hr=>?_
 exact(zf (zz (XE.ow (ug (k:=0) (SX rfl) Vc rfl T.b_max Eg (zc (XO.sh (n:=0) (jR (XO.sh (n:=0) (uf (k:=0) (zh (XE.ow bX) yy))) (XO.sh (n:=0) (rm (N:=["arrow"]) (om:=[.ow 0]) (cap:=[]) (own:=1) (CA (n:=0) (yq (n:=0) (za 0 0) T.fld_arrows rfl)) (λ_ _ _ _ _=>(mG (show cv (["arrow"]:List aR)from by decide +kernel))) (λ_ _ _ _ _=>w6) (λ_ _ _ _ _=>(XE.ow (yq (n:=0) (za 0 0) T.fld_behind rfl))))))) zg)))))
def jv:EF:=(d6 (λρ=>((aCons (e1 (cP [4] "arrows") (eV 0)) aNil) ρ).bind λds=>match ds with|[.lst xs]=>some (et 0 xs)|_=>none) 2 [1] (gT (gsCons (gV 0) (gsCons (gV 1) gsNil))) (tb (e2 (iH false) (e1 (cP [0,1,2,3] "goal") (eV 1)) (eV 2))) (eV 0))
def u4:List D->Option D:=mOf ["self","going"]
  (sRet jv)
theorem RD (T:Txt K mg a):cG P w K mg base eU 1 a.f_Net_into a.d_Net_into ["self","going"] (gH K a.ct [0,0] 0 u4):=by
 refine iV (ms:=[.ow 0,.ow 0]) T.Net_into.fn RA λ_ _ _ _ _ _ hr=>?_
 exact(zf (zz (kK (rm (N:=["number","arrow","going"]) (om:=[.ow 0,.ow 0]) (cap:=[1]) (own:=2) (TU (n:=0) T.b_enumerate (zc (yq (n:=0) (za 0 0) T.fld_arrows rfl) zg)) (λ_ _ _ _ _=>(Us (n:=1) rfl (KN (mG (show cv (["number","arrow","going"]:List aR)from by decide +kernel)) (KN (mG (show cv (["number","arrow","going"]:List aR)from by decide +kernel)) TQ)))) (λ_ _ _ _ _=>(HB (ye (k:=0) (wv hr.u64) wc (yq (n:=0) (za 1 0) T.fld_goal rfl) (za 2 0) (bD _)))) (λ_ _ _ _ _=>(XE.ow (za 0 0)))))))
def v9:List D->Option D:=mOf ["self"]
  (sRet (λρ=>((aCons (eN eG (aCons (e1 (cP [4] "names") (eV 0)) aNil)) (aCons (e1 (cP [4] "arrows") (eV 0)) aNil)) ρ).bind λds=>wb (ds++[])))
theorem Kp (T:Txt K mg a):cG P w K mg base eU 2 a.f_Net_order a.d_Net_order ["self"] (gH K a.ct [0] 0 v9):=by
 have fP:=jm (P:=P) (w:=w) (base:=base) T
 refine iV (ms:=[.ow 0]) T.Net_order.fn RG λ_ _ _ _ _ _ hr=>?_
 exact(zf (zz (dk T.placed_goings fP hr (zc (lM T.b_len (zc (yq (n:=0) (za 0 0) T.fld_names rfl) zg)) (zc (yq (n:=0) (za 0 0) T.fld_arrows rfl) zg)))))
def CG:List D->Option D:=mOf ["when","more"]
  (sSeq (sIf (tb (e2 (p7 false) (eV 0) (eC .non))) (sRet (eC .non)) sSkip)
  (sRet (e2 dB (eV 0) (eV 1))))
theorem Ll (T:Txt K mg a):cG P w K mg base eU 1 a.f_later a.d_later ["when","more"] (gH K a.ct [0,0] 0 CG):=by
 refine iV (ms:=[.ow 0,.ow 0]) T.later.fn Ub λ_ _ _ _ _ _ hr=>?_
 exact(ze (wm (ye (k:=0) CT CJ (za 0 0) o3 (bD _)) (zf (zz (XE.ow o3))) ya)
  (zf (zz (kK (jR (za 0 0) (za 1 0))))))
def jg:List D->Option D:=mOf ["one","other"]
  (sSeq (sIf (tb (e2 (p7 false) (eV 0) (eC .non))) (sRet (eV 1)) sSkip)
  (sSeq (sIf (tb (e2 (p7 false) (eV 1) (eC .non))) (sRet (eV 0)) sSkip)
  (sRet (eN lf (aCons (eV 0) (aCons (eV 1) aNil))))))
theorem DP (T:Txt K mg a):cG P w K mg base eU 1 a.f_latest a.d_latest ["one","other"] (gH K a.ct [0,0] 0 jg):=by
 refine iV (ms:=[.ow 0,.ow 0]) T.latest.fn S1 λ_ _ _ _ _ _ hr=>?_
 exact(ze (wm (ye (k:=0) CT CJ (za 0 0) o3 (bD _)) (zf (zz (XE.ow (za 1 0)))) ya)
  (ze (wm (ye (k:=0) CT CJ (za 1 0) o3 (bD _)) (zf (zz (XE.ow (za 0 0)))) ya)
  (zf (zz (XE.ow (ug (k:=0) (Hg rfl) Hw rfl T.b_max Eg (zc (za 0 0) (zc (za 1 0) zg))))))))
def vg:SF:=(lX 1 (λρ=>((aCons (eV 2) (aCons (eV 3) aNil)) ρ).bind λds=>some (.tup ds)) (λρ=>((aCons (λρ=>((eV 1) ρ).bind λx=>((λρ=>((aCons (eV 2) (aCons (eV 3) aNil)) ρ).bind λds=>some (.tup ds)) ρ).bind λy=>(ig x y).bind λr=>some (r.getD .non)) (aCons (eV 4) aNil)) ρ).bind λds=>jg (ds++[])))
def yx:List D->Option D:=mOf ["told","greatest","going","number","amount"]
  (sSeq (sSet 1 (eC (.dT [] [])))
  (sSeq (sFor (lsD (eV 0)) (gT (gsCons (gV 2) (gsCons (gV 3) (gsCons (gV 4) gsNil)))) vg)
  (sRet (eV 1))))
theorem Q8 (T:Txt K mg a):cG P w K mg base eU 2 a.f_greatest_told a.d_greatest_told ["told"] (gH K a.ct [0] 0 yx):=by
 have gh:=DP (P:=P) (w:=w) (base:=base) T
 refine iV (ms:=[.ow 0,.ow 1,.ow 0,.ow 0,.ow 0]) T.greatest_told.fn wl λ_ _ _ _ _ _ hr=>?_
 exact(ze (gF wl.nd LB)
  (ze (vt (v6 (za 0 0)) (CM (n:=0) rfl (ww (kL wl.nd) (ww (kL wl.nd) (ww (kL wl.nd) CC)))) (zf (HE 1 rfl (su hr) (XO.sh (n:=0) (jp (zh (XE.ow (za 2 0)) (zh (XE.ow (za 3 0)) yy)))) (XO.sh (n:=0) (dk T.latest gh hr (zc (CD (n:=1) (su hr) (za 1 1) (XO.sh (n:=0) (jp (zh (XE.ow (za 2 0)) (zh (XE.ow (za 3 0)) yy)))) ⟨rfl,rfl,rfl,rfl⟩) (zc (za 4 0) zg)))))) cx.never rfl)
  (zf (xC (i:=1) rfl))))
def qm:EF:=(d6 (λρ=>((lsD (λρ=>((eV 1) ρ).bind λd=>(pNo ρ).bind λl=>((pInt (eV 2)) ρ).bind λh=>eI d l h)) ρ).bind λds=>some ds.reverse) 1 [] (gV 0) fu (eN jO (aCons (eV 0) aNil)))
def qo:EF:=(d6 (λρ=>((aCons (eV 2) aNil) ρ).bind iJ) 1 [0] (gV 0) fu (e2 jP (λρ=>((aCons (eC (.int 0)) aNil) ρ).bind λds=>some (.lst ds)) (eN eG (aCons (e1 (cP [4] "names") (eV 1)) aNil))))
def wd:List D->Option D:=mOf ["net","was","depth"]
  (sSeq (sSet 2 (λρ=>((eV 0) ρ).bind λo=>ka 4 "most_behind" xm o []))
  (sSeq (sIf (tb (e2 (p7 false) (eV 1) (eC .non))) (sRet qo) sSkip)
  (sRet qm)))
theorem Rp (T:Txt K mg a):cG P w K mg base eU 2 a.f_rows_ahead a.d_rows_ahead ["net","was"] (gH K a.ct [0,0] 2 wd):=by
 have eW:=um (P:=P) (w:=w) (base:=base) T
 refine iV (ms:=[.ow 0,.ow 0,.ow 0]) T.rows_ahead.fn Kk λ_ _ _ _ _ _ hr=>?_
 exact(ze (gF Kk.nd (DS (n:=0) (c0:=4) (nd:=[]) (jN:=[]) (za 0 0) T.Net.cl T.Net_most_behind.me eW (hr.mono (by decide)) T.Net_most_behind.bd .nil (λ_ _=>.nil)))
  (ze (wm (ye (k:=0) CT CJ (za 1 0) o3 (bD _)) (zf (zz (rm (N:=["number","net"]) (om:=[.ow 0]) (cap:=[0]) (own:=1) (XI.cc (wq (n:=0) T.b_range (zc (za 2 0) zg))) (λ_ _ _ _ _=>(mG (show cv (["number","net"]:List aR)from by decide +kernel))) (λ_ _ _ _ _=>w6) (λ_ _ _ _ _=>(Ek (uf (k:=0) (zh (XE.ow bX) yy)) (lM T.b_len (zc (yq (n:=0) (za 1 0) T.fld_names rfl) zg))))))) ya)
  (zf (zz (rm (N:=["row"]) (om:=[.ow 0]) (cap:=[]) (own:=1) (Ve (n:=0) T.b_reversed (XO.sh (n:=0) (vk (n:=0) (by decide) (za 1 0) rl (vc (za 2 0))))) (λ_ _ _ _ _=>(mG (show cv (["row"]:List aR)from by decide +kernel))) (λ_ _ _ _ _=>w6) (λ_ _ _ _ _=>(uw ud (DU (n:=0) (by decide)) rfl T.b_list qr (zc (za 0 0) zg))))))))
def wu:SF:=(sSeq (sSet 6 (e2 dW (e1 (cP [4] "arrows") (eV 0)) (eV 5)))
  (sSet 4 (λρ=>((aCons (eV 4) (aCons (λρ=>((aCons (e2 dW (e2 dW (eV 1) (e2 ke (e1 rP (eC (.int 1))) (e1 (cP [0,1,2,3] "behind") (eV 6)))) (e1 (cP [0,1,2,3] "start") (eV 6))) (aCons (e1 (cP [0,1,2,3] "time") (eV 6)) aNil)) ρ).bind λds=>CG (ds++[])) aNil)) ρ).bind λds=>jg (ds++[]))))
def wn:List D->Option D:=mOf ["net","rows","numbers","floor","when","number","arrow"]
  (sSeq (sSet 4 (eV 3))
  (sSeq (sFor (lsD (eV 2)) (gV 5) wu)
  (sRet (eV 4))))
theorem Q5 (T:Txt K mg a):cG P w K mg base eU 2 a.f_time_in_last_row a.d_time_in_last_row ["net","rows","numbers","floor"] (gH K a.ct [0,2,0,0] 0 wn):=by
 have gh:=DP (P:=P) (w:=w) (base:=base) T
 have ml:=Ll (P:=P) (w:=w) (base:=base) T
 refine iV (ms:=[.ow 0,.al 2,.ow 0,.ow 0,.ow 0,.ow 0,.ow 0]) T.time_in_last_row.fn xo λ_ _ _ _ _ _ hr=>?_
 exact(ze (gF xo.nd (XE.ow (za 3 0)))
  (ze (vt (v6 (za 2 0)) (kL xo.nd) (ze (gF xo.nd (XE.ow (il (yq (n:=0) (za 0 0) T.fld_arrows rfl) (za 5 0))))
  (zf (gF xo.nd (dk T.latest gh hr (zc (za 4 0) (zc (XO.sh (n:=0) (dk T.later ml hr (zc (tM (n:=1) tG tK (tM (n:=2) tG tK (za 1 2) (xk (k:=0) sj u9 (MJ (k:=0) bX) (yq (n:=0) (za 6 0) T.fld_behind rfl)) (λ_ _=>rfl)) (yq (n:=0) (za 6 0) T.fld_start rfl) (λ_ _=>rfl)) (zc (yq (n:=0) (za 6 0) T.fld_time rfl) zg)))) zg)))))) cx.never rfl)
  (zf (zz (XE.ow (za 4 0))))))
def wo:SF:=(sSeq (sSet 10 (λρ=>((eV 5) ρ).bind λx=>((λρ=>((aCons (eV 9) (aCons (eV 8) aNil)) ρ).bind λds=>some (.tup ds)) ρ).bind λy=>(ig x y).bind λr=>some (r.getD .non)))
  (kc 4 (e1 rP (eC (.int 1))) (eV 9) (λρ=>((aCons (eV 0) (aCons (eV 4) (aCons (e2 dW (eV 6) (eV 9)) (aCons (eV 10) aNil)))) ρ).bind λds=>wn (ds++[]))))
def vd:SF:=(sSeq (sApp 4 (e2 jP (λρ=>((aCons (eC .non) aNil) ρ).bind λds=>some (.lst ds)) (eN eG (aCons (e1 (cP [4] "names") (eV 0)) aNil))))
  (sFor (lsD (eV 7)) (gV 9) wo))
def uo:EF:=(d6 (λρ=>((aCons (eN eG (aCons (e1 (cP [4] "names") (eV 0)) aNil)) aNil) ρ).bind iJ) 1 [0] (gV 0) fu (λρ=>((eV 1) ρ).bind λo=>((aCons (eV 0) aNil) ρ).bind λds=>ka 4 "into" u4 o (ds++[])))
def wz:List D->Option D:=mOf ["net","rounds","was","floors","rows","greatest","numbers","order","number","going","floor"]
  (sSeq (sSet 4 (λρ=>((aCons (eV 0) (aCons (eV 2) aNil)) ρ).bind λds=>wd (ds++[])))
  (sSeq (sSet 5 (λρ=>((aCons (eIf (tb (e2 (p7 false) (eV 3) (eC .non))) (λρ=>(aNil ρ).bind λds=>some (.lst ds)) (eV 3)) aNil) ρ).bind λds=>yx (ds++[])))
  (sSeq (sSet 6 uo)
  (sSeq (sSet 7 (λρ=>((eV 0) ρ).bind λo=>ka 4 "order" v9 o []))
  (sSeq (sFor (λρ=>((aCons (eV 1) aNil) ρ).bind iJ) (gV 8) vd)
  (sRet (eV 4)))))))
theorem Q1 (T:Txt K mg a):cG P w K mg base eU 3 a.f_rows_with_past a.d_rows_with_past ["net","rounds","was","floors"] (gH K a.ct [0,0,0,0] 0 wz):=by
 have mm:=Rp (P:=P) (w:=w) (base:=base) T
 have kJ:=Q8 (P:=P) (w:=w) (base:=base) T
 have nP:=RD (P:=P) (w:=w) (base:=base) T
 have iC:=Kp (P:=P) (w:=w) (base:=base) T
 have i9:=Q5 (P:=P) (w:=w) (base:=base) T
 refine iV (ms:=[.ow 0,.ow 0,.ow 0,.ow 0,.ow 2,.ow 0,.ow 0,.ow 0,.ow 0,.ow 0,.ow 0]) T.rows_with_past.fn yo λ_ _ _ _ _ _ hr=>?_
 exact(ze (gF yo.nd (dk T.rows_ahead mm hr (zc (za 0 0) (zc (za 2 0) zg))))
  (ze (gF yo.nd (dk T.greatest_told kJ hr (zc (HX (ye (k:=0) CT CJ (za 3 0) o3 (bD _)) (XO.sh (n:=0) (uf (k:=0) yy)) (za 3 0)) zg)))
  (ze (w9 (k:=0) (N:=["going","net"]) (om:=[.ow 0]) (cap:=[0]) (own:=1) rfl yo.nd rfl (Or.inl rfl) (sr (by rfl)) rfl rfl (by decide) (XI.cc (wq (n:=0) T.b_range (zc (lM T.b_len (zc (yq (n:=0) (za 0 0) T.fld_names rfl) zg)) zg))) (λ_ _ _ _ _=>(mG (show cv (["going","net"]:List aR)from by decide +kernel))) (λ_ _ _ _ _=>w6) (λ_ _ _ _ _=>(UV (n:=0) (c0:=4) (ns:=[0]) (nd:=[]) (jN:=[]) (za 1 0) T.Net.cl T.Net_into.me nP (hr.mono (by decide)) T.Net_into.bd .nil (λ_ _=>.nil) (zc (za 0 0) zg))))
  (ze (gF yo.nd (DS (n:=0) (c0:=4) (nd:=[]) (jN:=[]) (za 0 0) T.Net.cl T.Net_order.me iC (hr.mono (by decide)) T.Net_order.bd .nil (λ_ _=>.nil)))
  (ze (vt (wq (n:=0) T.b_range (zc (za 1 0) zg)) (kL yo.nd) (ze (jq 4 rfl (Ek (uf (k:=0) (zh (XE.ow o3) yy)) (lM T.b_len (zc (yq (n:=0) (za 0 0) T.fld_names rfl) zg))))
  (zf (vt (v6 (za 7 0)) (kL yo.nd) (ze (gF yo.nd (XE.ow (CD (n:=0) (su hr) (za 5 0) (XO.sh (n:=0) (jp (zh (XE.ow (za 9 0)) (zh (XE.ow (za 8 0)) yy)))) ⟨rfl,rfl,rfl,rfl⟩)))
  (zf (Lj 4 rfl (MJ (k:=0) bX) (za 9 0) (λ_ _=>rfl) (XO.sh (n:=0) (dk T.time_in_last_row i9 hr (zc (za 0 0) (zc (za 4 2) (zc (il (za 6 0) (za 9 0)) (zc (za 10 0) zg))))))))) cx.never rfl))) cx.never rfl)
  (zf (xC (i:=4) rfl)))))))
def pG:List D->Option D:=mOf ["net","rounds","was","floors"]
  (sRet (λρ=>((λρ=>((aCons (eV 0) (aCons (eV 1) (aCons (eV 2) (aCons (eV 3) aNil)))) ρ).bind λds=>wz (ds++[])) ρ).bind λd=>((pInt (λρ=>((eV 0) ρ).bind λo=>ka 4 "most_behind" xm o [])) ρ).bind λl=>(pNo ρ).bind λh=>eI d l h))
theorem HS (T:Txt K mg a):cG P w K mg base eU 4 a.f_run a.d_run ["net","rounds","was","floors"] (gH K a.ct [0,0,0,0] 0 pG):=by
 have jX:=Q1 (P:=P) (w:=w) (base:=base) T
 have eW:=um (P:=P) (w:=w) (base:=base) T
 refine iV (ms:=[.ow 0,.ow 0,.ow 0,.ow 0]) T.run.fn V4 λ_ _ _ _ _ _ hr=>?_
 exact(zf (zz (kK (vk (n:=0) (by decide) (XO.sh (n:=0) (dk T.rows_with_past jX hr (zc (za 0 0) (zc (za 1 0) (zc (za 2 0) (zc (za 3 0) zg)))))) (vc (XO.sh (n:=0) (DS (n:=0) (c0:=4) (nd:=[]) (jN:=[]) (za 0 0) T.Net.cl T.Net_most_behind.me eW (hr.mono (by decide)) T.Net_most_behind.bd .nil (λ_ _=>.nil)))) rl))))
def yp:SF:=(sIf (bAnd (tb (e2 (iH false) (e1 (cP [0,1,2,3] "behind") (eV 5)) (eC (.int 0)))) (tb (e2 (iH false) (e1 (cP [0,1,2,3] "start") (eV 5)) (eV 4)))) (lY 3 (e1 (cP [0,1,2,3] "goal") (eV 5)) (λρ=>((aCons (e2 dW (eV 3) (e1 (cP [0,1,2,3] "goal") (eV 5))) (aCons (λρ=>((aCons (e2 dW (eV 3) (eV 4)) (aCons (e1 (cP [0,1,2,3] "time") (eV 5)) aNil)) ρ).bind λds=>CG (ds++[])) aNil)) ρ).bind λds=>jg (ds++[]))) sSkip)
def xy:SF:=(sFor (lsD (e1 (cP [4] "arrows") (eV 0))) (gV 5) yp)
def xp:List D->Option D:=mOf ["net","going","order","sums","here","arrow"]
  (sSeq (sSet 3 (e2 jP (λρ=>((aCons (eC .non) aNil) ρ).bind λds=>some (.lst ds)) (eN eG (aCons (e1 (cP [4] "names") (eV 0)) aNil))))
  (sSeq (lY 3 (eV 1) (eC (.int 0)))
  (sSeq (sFor (lsD (eV 2)) (gV 4) xy)
  (sRet (eV 3)))))
theorem qj (T:Txt K mg a):cG P w K mg base eU 2 a.f_sums_within_round a.d_sums_within_round ["net","going","order"] (gH K a.ct [0,0,0] 0 xp):=by
 have gh:=DP (P:=P) (w:=w) (base:=base) T
 have ml:=Ll (P:=P) (w:=w) (base:=base) T
 refine iV (ms:=[.ow 0,.ow 0,.ow 0,.ow 1,.ow 0,.ow 0]) T.sums_within_round.fn x8 λ_ _ _ _ _ _ hr=>?_
 exact(ze (gF x8.nd (Ek (uf (k:=0) (zh (XE.ow o3) yy)) (lM T.b_len (zc (yq (n:=0) (za 0 0) T.fld_names rfl) zg))))
  (ze (Mc 3 rfl (za 1 0) bX)
  (ze (vt (v6 (za 2 0)) (kL x8.nd) (zf (vt (v6 (yq (n:=0) (za 0 0) T.fld_arrows rfl)) (kL x8.nd) (zf (wm (XW.t (tI (ye (k:=0) (wv hr.u64) wc (yq (n:=0) (za 5 0) T.fld_behind rfl) bX (bD _)) (qv (ye (k:=0) (wv hr.u64) wc (yq (n:=0) (za 5 0) T.fld_start rfl) (za 4 0) (bD _))))) (zf (Mc 3 rfl (yq (n:=0) (za 5 0) T.fld_goal rfl) (XO.sh (n:=0) (dk T.latest gh hr (zc (tM (n:=1) tG tK (za 3 1) (yq (n:=0) (za 5 0) T.fld_goal rfl) (λ_ _=>rfl)) (zc (XO.sh (n:=0) (dk T.later ml hr (zc (tM (n:=1) tG tK (za 3 1) (za 4 0) (λ_ _=>rfl)) (zc (yq (n:=0) (za 5 0) T.fld_time rfl) zg)))) zg)))))) ya)) cx.never rfl)) cx.never rfl)
  (zf (xC (i:=3) rfl)))))
def ua:SF:=(sIf (tb (e2 (p7 true) (eV 6) (eC .non))) (sSeq (sSet 7 (λρ=>((aCons (e1 (cP [0,1,2,3] "behind") (eV 4)) (aCons (e1 (cP [0,1,2,3] "start") (eV 4)) (aCons (eV 5) aNil))) ρ).bind λds=>some (.tup ds)))
  (lX 3 (eV 7) (λρ=>((aCons (λρ=>((eV 3) ρ).bind λx=>((eV 7) ρ).bind λy=>(ig x y).bind λr=>some (r.getD .non)) (aCons (e2 dB (e1 (cP [0,1,2,3] "time") (eV 4)) (eV 6)) aNil)) ρ).bind λds=>jg (ds++[])))) sSkip)
def jw:SF:=(sIf (tb (e2 oU (e1 (cP [0,1,2,3] "behind") (eV 4)) (eC (.int 0)))) (sFor (λρ=>((aCons (e2 dW (eV 2) (e1 (cP [0,1,2,3] "goal") (eV 4))) aNil) ρ).bind λds=>match ds with|[.lst xs]=>some (et 0 xs)|_=>none) (gT (gsCons (gV 5) (gsCons (gV 6) gsNil))) ua) sSkip)
def Hk:EF:=(d6 (λρ=>((aCons (eN eG (aCons (e1 (cP [4] "names") (eV 0)) aNil)) aNil) ρ).bind iJ) 1 [0,1] (gV 0) fu (λρ=>((aCons (eV 1) (aCons (eV 0) (aCons (eV 2) aNil))) ρ).bind λds=>xp (ds++[])))
def ut:List D->Option D:=mOf ["net","order","sums","greatest","arrow","goal","more","key"]
  (sSeq (sSet 1 (λρ=>((eV 0) ρ).bind λo=>ka 4 "order" v9 o []))
  (sSeq (sSet 2 Hk)
  (sSeq (sSet 3 (eC (.dT [] [])))
  (sSeq (sFor (lsD (e1 (cP [4] "arrows") (eV 0))) (gV 4) jw)
  (sRet (eV 3))))))
theorem Tx (T:Txt K mg a):cG P w K mg base eU 3 a.f_steps a.d_steps ["net"] (gH K a.ct [0] 0 ut):=by
 have iC:=Kp (P:=P) (w:=w) (base:=base) T
 have iQ:=qj (P:=P) (w:=w) (base:=base) T
 have gh:=DP (P:=P) (w:=w) (base:=base) T
 refine iV (ms:=[.ow 0,.ow 0,.ow 0,.ow 1,.ow 0,.ow 0,.ow 0,.ow 0]) T.steps.fn uj λ_ _ _ _ _ _ hr=>?_
 exact(ze (gF uj.nd (DS (n:=0) (c0:=4) (nd:=[]) (jN:=[]) (za 0 0) T.Net.cl T.Net_order.me iC (hr.mono (by decide)) T.Net_order.bd .nil (λ_ _=>.nil)))
  (ze (w9 (k:=0) (N:=["going","net","order"]) (om:=[.ow 0]) (cap:=[0,1]) (own:=1) rfl uj.nd rfl (Or.inl rfl) (sr (by rfl)) rfl rfl (by decide) (XI.cc (wq (n:=0) T.b_range (zc (lM T.b_len (zc (yq (n:=0) (za 0 0) T.fld_names rfl) zg)) zg))) (λ_ _ _ _ _=>(mG (show cv (["going","net","order"]:List aR)from by decide +kernel))) (λ_ _ _ _ _=>w6) (λ_ _ _ _ _=>(dk T.sums_within_round iQ hr (zc (za 1 0) (zc (za 0 0) (zc (za 2 0) zg))))))
  (ze (gF uj.nd LB)
  (ze (vt (v6 (yq (n:=0) (za 0 0) T.fld_arrows rfl)) (kL uj.nd) (zf (wm (ye (k:=0) tL tJ (yq (n:=0) (za 4 0) T.fld_behind rfl) bX (bD _)) (zf (vt (HC T.b_enumerate (zc (il (za 2 0) (yq (n:=0) (za 4 0) T.fld_goal rfl)) zg)) (CM (n:=1) rfl (ww (kL uj.nd) (ww (kL uj.nd) CC))) (zf (wm (ye (k:=0) LC KM (za 6 0) o3 (bD _)) (ze (gF uj.nd (kK (jp (zh (XE.ow (yq (n:=0) (za 4 0) T.fld_behind rfl)) (zh (XE.ow (yq (n:=0) (za 4 0) T.fld_start rfl)) (zh (XE.ow (za 5 0)) yy))))))
  (zf (HE 3 rfl (su hr) (za 7 0) (XO.sh (n:=0) (dk T.latest gh hr (zc (CD (n:=1) (su hr) (za 3 1) (za 7 0) ⟨rfl,rfl,rfl,rfl⟩) (zc (XO.sh (n:=0) (jR (yq (n:=0) (za 4 0) T.fld_time rfl) (za 6 0))) zg))))))) ya)) cx.never rfl)) ya)) cx.never rfl)
  (zf (xC (i:=3) rfl))))))
def v4:SF:=(sIf (tb (e2 (iH true) (λρ=>((eV 2) ρ).bind λx=>((eV 4) ρ).bind λy=>(ig x y).bind λr=>some (r.getD .non)) (λρ=>((eV 3) ρ).bind λx=>((eV 4) ρ).bind λy=>(ig x y).bind λr=>some (r.getD .non)))) (sRet (eV 4)) sSkip)
def CB:List D->Option D:=mOf ["one","other","here","there","key"]
  (sSeq (sIf (tb (e2 (iH true) (eN eG (aCons (e1 (cP [4] "names") (eV 0)) aNil)) (eN eG (aCons (e1 (cP [4] "names") (eV 1)) aNil)))) lh sSkip)
  (sSeq (sSet 2 (λρ=>((aCons (eV 0) aNil) ρ).bind λds=>ut (ds++[])))
  (sSeq (sSet 3 (λρ=>((aCons (eV 1) aNil) ρ).bind λds=>ut (ds++[])))
  (sSeq (sFor (lsD (eN qJ (aCons (e2 dB (eN m9 (aCons (eV 2) aNil)) (eN m9 (aCons (eV 3) aNil))) aNil))) (gV 4) v4)
  (sRet (eC .non))))))
theorem S2 (T:Txt K mg a):cG P w K mg base eU 4 a.f_parted a.d_parted ["one","other"] (gH K a.ct [0,0] 0 CB):=by
 have oz:=Tx (P:=P) (w:=w) (base:=base) T
 refine iV (ms:=[.ow 0,.ow 0,.ow 0,.ow 0,.ow 0]) T.parted.fn DO λ_ _ _ _ _ _ hr=>?_
 exact(ze (wm (ye (k:=0) (CK hr.u64) wc (lM T.b_len (zc (yq (n:=0) (za 0 0) T.fld_names rfl) zg)) (lM T.b_len (zc (yq (n:=0) (za 1 0) T.fld_names rfl) zg)) (bD _)) (zf DT) ya)
  (ze (gF DO.nd (dk T.steps oz hr (zc (za 0 0) zg)))
  (ze (gF DO.nd (dk T.steps oz hr (zc (za 1 0) zg)))
  (ze (vt (v6 (XO.sh (n:=0) (Ta Rz SZ rfl T.b_sorted SM (zc (XO.sh (n:=0) (jR (XO.sh (n:=0) (uw (Kw rfl) (Lc (n:=0)) rfl T.b_list qr (zc (za 2 0) zg))) (XO.sh (n:=0) (uw (Kw rfl) (Lc (n:=0)) rfl T.b_list qr (zc (za 3 0) zg))))) zg)))) (kL DO.nd) (zf (wm (ye (k:=0) (CK hr.u64) wc (CD (n:=0) (su hr) (za 2 0) (za 4 0) ⟨rfl,rfl,rfl,rfl⟩) (CD (n:=0) (su hr) (za 3 0) (za 4 0) ⟨rfl,rfl,rfl,rfl⟩) (bD _)) (zf (zz (XE.ow (za 4 0)))) ya)) cx.never rfl)
  (zf (zz (XE.ow o3)))))))
def xl:List D->Option D:=mOf ["_law_script","_law_k"]
  (sSeq (sIf (tb (e2 qB (eV 1) (eN eG (aCons (eV 0) aNil)))) (sRet (e2 dW (eV 0) (eV 1))) sSkip)
  (sRet (eC (.int 0))))
theorem Rl (T:Txt K mg a):cG P w K mg base eU 1 a.f_law_cell_at a.d_law_cell_at ["_law_script","_law_k"] (gH K a.ct [0,0] 0 xl):=by
 refine iV (ms:=[.ow 0,.ow 0]) T.law_cell_at.fn Rg λ_ _ _ _ _ _ hr=>?_
 exact(ze (wm (ye (k:=0) wJ wG (za 1 0) (lM T.b_len (zc (za 0 0) zg)) (bD _)) (zf (zz (XE.ow (il (za 0 0) (za 1 0))))) ya)
  (zf (zz (XE.ow bX))))
def xz:List D->Option D:=mOf ["_law_cell","_law_k","_law_number"]
  (sSeq (sIf (bAnd (tb (e2 FE (eV 0) (e2 rX (eC (.int 1)) (eC (.int 90))))) (bAnd (tb (e2 (iH false) (e2 eJ (eV 0) (eC (.int 2))) (eC (.int 1)))) (tb (e2 oU (e2 oY (eV 0) (e2 dB (eC (.int 1)) (e2 hE (eC (.int 31)) (eV 1)))) (eC (.int 0)))))) (sRet (e2 eJ (e2 oY (eV 0) (e2 dB (eC (.int 1)) (e2 hE (eC (.int 31)) (eV 1)))) (eC (.int 2147483648)))) sSkip)
  (sSeq (sSet 2 (e2 eJ (e2 hE (e2 dB (e2 dB (eV 0) (e2 hE (eC (.int 7919)) (eV 1))) (eC (.int 1))) (eC (.int 48271))) (eC (.int 2147483647))))
  (sSeq (sSet 2 (e2 eJ (e2 hE (eV 2) (e2 dB (e2 gB (eV 2) (eC (.int 1009))) (eC (.int 69621)))) (eC (.int 2147483647))))
  (sRet (e2 eJ (e2 hE (eV 2) (e2 dB (e2 dB (e2 gB (eV 2) (eC (.int 2003))) (eC (.int 39373))) (eV 1))) (eC (.int 2147483629)))))))
theorem jx (T:Txt K mg a):cG P w K mg base eU 1 a.f_law_mixed a.d_law_mixed ["_law_cell","_law_k"] (gH K a.ct [0,0] 0 xz):=by
 refine iV (ms:=[.ow 0,.ow 0,.ow 0]) T.law_mixed.fn ju λ_ _ _ _ _ _ hr=>?_
 exact(ze (wm (XW.t (tI (ye (k:=0) WS Wo (za 0 0) (xk (k:=0) VS Uq bX bX) (bD _)) (tI (ye (k:=0) (wv hr.u64) wc (xk (k:=0) xq xr (za 0 0) bX) bX (bD _)) (qv (ye (k:=0) tL tJ (xk (k:=0) Mx L9 (za 0 0) (XO.sh (n:=0) (jR bX (xk (k:=0) qq jb bX (za 1 0))))) bX (bD _)))))) (zf (zz (XE.ow (xk (k:=0) xq xr (xk (k:=0) Mx L9 (za 0 0) (XO.sh (n:=0) (jR bX (xk (k:=0) qq jb bX (za 1 0))))) bX)))) ya)
  (ze (gF ju.nd (XE.ow (xk (k:=0) xq xr (xk (k:=0) qq jb (XO.sh (n:=0) (jR (XO.sh (n:=0) (jR (za 0 0) (xk (k:=0) qq jb bX (za 1 0)))) bX)) bX) bX)))
  (ze (gF ju.nd (XE.ow (xk (k:=0) xq xr (xk (k:=0) qq jb (za 2 0) (XO.sh (n:=0) (jR (xk (k:=0) u8 ja (za 2 0) bX) bX))) bX)))
  (zf (zz (XE.ow (xk (k:=0) xq xr (xk (k:=0) qq jb (za 2 0) (XO.sh (n:=0) (jR (XO.sh (n:=0) (jR (xk (k:=0) u8 ja (za 2 0) bX) bX)) (za 1 0)))) bX)))))))
def jh:List D->Option D:=mOf ["_law_found"]
  (sRet (eB (bAnd (tb (e1 (jZ "int") (eV 0))) (tb (eB (bNot (tb (e1 (jZ "bool") (eV 0)))))))))
theorem RL (T:Txt K mg a):cG P w K mg base eU 1 a.f_law_whole a.d_law_whole ["_law_found"] (gH K a.ct [0] 0 jh):=by
 refine iV (ms:=[.ow 0]) T.law_whole.fn RH λ_ _ _ _ _ _ hr=>?_
 exact(zf (zz (XE.ow (xE (wH (k:=0) (by decide) T.b_isinstance T.b_int Mz (za 0 0)) (wF (k:=0) (Wm (k:=0) (wH (k:=0) (by decide) T.b_isinstance T.b_bool LZ (za 0 0))))))))
def wt:List D->Option D:=mOf ["_law_cell","_law_many","_law_one","_law_other","_law_behind","_law_time_here"]
  (sSeq (sSet 2 (e2 eJ (λρ=>((aCons (eV 0) (aCons (eC (.int 1)) aNil)) ρ).bind λds=>xz (ds++[])) (eV 1)))
  (sSeq (sSet 3 (e2 eJ (λρ=>((aCons (eV 0) (aCons (eC (.int 2)) aNil)) ρ).bind λds=>xz (ds++[])) (eV 1)))
  (sSeq (sSet 4 (e2 dW (λρ=>((aCons (eC (.int 0)) (aCons (eC (.int 0)) (aCons (eC (.int 0)) (aCons (eC (.int 1)) (aCons (eC (.int 1)) (aCons (eC (.int 2)) (aCons (eC (.int 3)) (aCons (eC (.int 4)) aNil)))))))) ρ).bind λds=>some (.lst ds)) (e2 eJ (λρ=>((aCons (eV 0) (aCons (eC (.int 5)) aNil)) ρ).bind λds=>xz (ds++[])) (eC (.int 8)))))
  (sSeq (sIf (tb (e2 (iH false) (eV 2) (eV 3))) (sSet 4 (eN lf (aCons (eC (.int 1)) (aCons (eV 4) aNil)))) sSkip)
  (sSeq (sIf (tb (e2 (iH false) (eV 4) (eC (.int 0)))) (sPar 2 3 (aCons (eN oF (aCons (eV 2) (aCons (eV 3) aNil))) (aCons (eN lf (aCons (eV 2) (aCons (eV 3) aNil))) aNil))) sSkip)
  (sSeq (sSet 5 (e2 dW (λρ=>((aCons (e2 eJ (eV 0) (eC (.int 9))) (aCons (e2 eJ (eV 0) (e2 rS (eC (.int 10)) (eC (.int 8)))) (aCons (eC (.int 0)) aNil))) ρ).bind λds=>some (.lst ds)) (e2 eJ (λρ=>((aCons (eV 0) (aCons (eC (.int 3)) aNil)) ρ).bind λds=>xz (ds++[])) (eC (.int 3)))))
  (sRet (λρ=>((aCons (eV 2) (aCons (eV 3) (aCons (eV 5) (aCons (eV 4) aNil)))) ρ).bind λds=>some (.tup ds)))))))))
theorem KG (T:Txt K mg a):cG P w K mg base eU 2 a.f_law_part a.d_law_part ["_law_cell","_law_many"] (gH K a.ct [0,0] 0 wt):=by
 have dI:=jx (P:=P) (w:=w) (base:=base) T
 refine iV (ms:=[.ow 0,.ow 0,.ow 0,.ow 0,.ow 0,.ow 0]) T.law_part.fn w8 λ_ _ _ _ _ _ hr=>?_
 exact(ze (gF w8.nd (XE.ow (xk (k:=0) xq xr (XO.sh (n:=0) (dk T.law_mixed dI hr (zc (za 0 0) (zc bX zg)))) (za 1 0))))
  (ze (gF w8.nd (XE.ow (xk (k:=0) xq xr (XO.sh (n:=0) (dk T.law_mixed dI hr (zc (za 0 0) (zc bX zg)))) (za 1 0))))
  (ze (gF w8.nd (XE.ow (il (XO.sh (n:=0) (uf (k:=0) (zh (XE.ow bX) (zh (XE.ow bX) (zh (XE.ow bX) (zh (XE.ow bX) (zh (XE.ow bX) (zh (XE.ow bX) (zh (XE.ow bX) (zh (XE.ow bX) yy)))))))))) (xk (k:=0) xq xr (XO.sh (n:=0) (dk T.law_mixed dI hr (zc (za 0 0) (zc bX zg)))) bX))))
  (ze (wm (ye (k:=0) (wv hr.u64) wc (za 2 0) (za 3 0) (bD _)) (zf (gF w8.nd (XE.ow (ug (k:=0) (Hg rfl) Hw rfl T.b_max Eg (zc bX (zc (za 4 0) zg)))))) ya)
  (ze (wm (ye (k:=0) (wv hr.u64) wc (za 4 0) bX (bD _)) (zf (Wr rfl rfl rfl w8.nd rfl rfl (by decide) rfl rfl (zc (ug (k:=0) (Sx rfl) TV rfl T.b_min Wg (zc (za 2 0) (zc (za 3 0) zg))) (zc (ug (k:=0) (Hg rfl) Hw rfl T.b_max Eg (zc (za 2 0) (zc (za 3 0) zg))) zg)) rfl)) ya)
  (ze (gF w8.nd (XE.ow (il (XO.sh (n:=0) (uf (k:=0) (zh (XE.ow (xk (k:=0) xq xr (za 0 0) bX)) (zh (XE.ow (xk (k:=0) xq xr (za 0 0) (xk (k:=0) VR Up bX bX))) (zh (XE.ow bX) yy))))) (xk (k:=0) xq xr (XO.sh (n:=0) (dk T.law_mixed dI hr (zc (za 0 0) (zc bX zg)))) bX))))
  (zf (zz (kK (jp (zh (XE.ow (za 2 0)) (zh (XE.ow (za 3 0)) (zh (XE.ow (za 5 0)) (zh (XE.ow (za 4 0)) yy))))))))))))))
def vo:EF:=(d6 (lsD (eV 0)) 1 [1] (gV 0) fu (λρ=>((aCons (e2 ke (e2 ke (eV 1) (eC (.int 1))) (e2 dW (eV 0) (eC (.int 0)))) (aCons (e2 ke (e2 ke (eV 1) (eC (.int 1))) (e2 dW (eV 0) (eC (.int 1)))) (aCons (e2 dW (eV 0) (eC (.int 2))) (aCons (e2 dW (eV 0) (eC (.int 3))) aNil)))) ρ).bind λds=>some (.tup ds)))
def vb:List D->Option D:=mOf ["_law_parts","_law_many","_law_cell"]
  (sSeq (sIf (tb (e2 (iH false) (e2 eJ (eV 2) (eC (.int 2))) (eC (.int 0)))) (sRet (eV 0)) sSkip)
  (sRet vo))
theorem Rq (T:Txt K mg a):cG P w K mg base eU 1 a.f_law_turned a.d_law_turned ["_law_parts","_law_many","_law_cell"] (gH K a.ct [0,0,0] 0 vb):=by
 refine iV (ms:=[.ow 0,.ow 0,.ow 0]) T.law_turned.fn Ru λ_ _ _ _ _ _ hr=>?_
 exact(ze (wm (ye (k:=0) (wv hr.u64) wc (xk (k:=0) xq xr (za 2 0) bX) bX (bD _)) (zf (zz (XE.ow (za 0 0)))) ya)
  (zf (zz (kK (rm (N:=["_law_part_here","_law_many"]) (om:=[.ow 0]) (cap:=[1]) (own:=1) (CA (n:=0) (za 0 0)) (λ_ _ _ _ _=>(mG (show cv (["_law_part_here","_law_many"]:List aR)from by decide +kernel))) (λ_ _ _ _ _=>w6) (λ_ _ _ _ _=>(kK (jp (zh (XE.ow (xk (k:=0) sj u9 (xk (k:=0) sj u9 (za 1 0) bX) (il (za 0 0) bX))) (zh (XE.ow (xk (k:=0) sj u9 (xk (k:=0) sj u9 (za 1 0) bX) (il (za 0 0) bX))) (zh (XE.ow (il (za 0 0) bX)) (zh (XE.ow (il (za 0 0) bX)) yy))))))))))))
def yn:List D->Option D:=mOf ["_law_parts","_law_many","_law_cell","_law_way","_law_at","_law_one"]
  (sSeq (sSet 3 (e2 eJ (λρ=>((aCons (eV 2) (aCons (eC (.int 6)) aNil)) ρ).bind λds=>xz (ds++[])) (eC (.int 5))))
  (sSeq (sIf (bOr (tb (e2 (iH false) (eV 0) (λρ=>(aNil ρ).bind λds=>some (.lst ds)))) (tb (e2 (iH false) (eV 3) (eC (.int 0))))) (sRet (e2 dB (eV 0) (λρ=>((aCons (λρ=>((aCons (eV 2) (aCons (eV 1) aNil)) ρ).bind λds=>wt (ds++[])) aNil) ρ).bind λds=>some (.lst ds)))) sSkip)
  (sSeq (sSet 4 (e2 eJ (λρ=>((aCons (eV 2) (aCons (eC (.int 7)) aNil)) ρ).bind λds=>xz (ds++[])) (eN eG (aCons (eV 0) aNil))))
  (sSeq (sSet 5 (e2 dW (eV 0) (eV 4)))
  (sSeq (sIf (tb (e2 (iH false) (eV 3) (eC (.int 1)))) (sRet (e2 dB (λρ=>((eV 0) ρ).bind λd=>(pNo ρ).bind λl=>((pInt (eV 4)) ρ).bind λh=>eI d l h) (λρ=>((eV 0) ρ).bind λd=>((pInt (e2 dB (eV 4) (eC (.int 1)))) ρ).bind λl=>(pNo ρ).bind λh=>eI d l h))) sSkip)
  (sSeq (sIf (tb (e2 (iH false) (eV 3) (eC (.int 2)))) (sRet (e2 dB (e2 dB (λρ=>((eV 0) ρ).bind λd=>(pNo ρ).bind λl=>((pInt (eV 4)) ρ).bind λh=>eI d l h) (λρ=>((aCons (e2 dB (λρ=>((eV 5) ρ).bind λd=>(pNo ρ).bind λl=>((pInt (eC (.int 2))) ρ).bind λh=>kd d l h) (λρ=>((aCons (e2 dB (e2 dB (e2 dW (eV 5) (eC (.int 2))) (eC (.int 1))) (e2 eJ (eV 2) (eC (.int 3)))) (aCons (e2 dW (eV 5) (eC (.int 3))) aNil)) ρ).bind λds=>some (.tup ds))) aNil) ρ).bind λds=>some (.lst ds))) (λρ=>((eV 0) ρ).bind λd=>((pInt (e2 dB (eV 4) (eC (.int 1)))) ρ).bind λl=>(pNo ρ).bind λh=>eI d l h))) sSkip)
  (sSeq (sIf (bAnd (tb (e2 (iH false) (eV 3) (eC (.int 3)))) (tb (e2 oU (e2 dW (eV 5) (eC (.int 3))) (eC (.int 0))))) (sRet (e2 dB (e2 dB (λρ=>((eV 0) ρ).bind λd=>(pNo ρ).bind λl=>((pInt (eV 4)) ρ).bind λh=>eI d l h) (λρ=>((aCons (e2 dB (λρ=>((eV 5) ρ).bind λd=>(pNo ρ).bind λl=>((pInt (eC (.int 3))) ρ).bind λh=>kd d l h) (λρ=>((aCons (e2 dB (eC (.int 1)) (e2 eJ (e2 dW (eV 5) (eC (.int 3))) (eC (.int 4)))) aNil) ρ).bind λds=>some (.tup ds))) aNil) ρ).bind λds=>some (.lst ds))) (λρ=>((eV 0) ρ).bind λd=>((pInt (e2 dB (eV 4) (eC (.int 1)))) ρ).bind λl=>(pNo ρ).bind λh=>eI d l h))) sSkip)
  (sRet (eN jO (aCons (eV 0) aNil))))))))))
theorem Rm (T:Txt K mg a):cG P w K mg base eU 3 a.f_law_changed a.d_law_changed ["_law_parts","_law_many","_law_cell"] (gH K a.ct [0,0,0] 0 yn):=by
 have dI:=jx (P:=P) (w:=w) (base:=base) T
 have gX:=KG (P:=P) (w:=w) (base:=base) T
 refine iV (ms:=[.ow 0,.ow 0,.ow 0,.ow 0,.ow 0,.ow 0]) T.law_changed.fn vm λ_ _ _ _ _ _ hr=>?_
 exact(ze (gF vm.nd (XE.ow (xk (k:=0) xq xr (XO.sh (n:=0) (dk T.law_mixed dI hr (zc (za 2 0) (zc bX zg)))) bX)))
  (ze (wm (XW.t (oH (ye (k:=0) (wv hr.u64) wc (za 0 0) (XO.sh (n:=0) (uf (k:=0) yy)) (bD _)) (qk (ye (k:=0) (wv hr.u64) wc (za 3 0) bX (bD _))))) (zf (zz (kK (jR (za 0 0) (XO.sh (n:=0) (uf (k:=0) (zh (dk T.law_part gX hr (zc (za 2 0) (zc (za 1 0) zg))) yy))))))) ya)
  (ze (gF vm.nd (XE.ow (xk (k:=0) xq xr (XO.sh (n:=0) (dk T.law_mixed dI hr (zc (za 2 0) (zc bX zg)))) (lM T.b_len (zc (za 0 0) zg)))))
  (ze (gF vm.nd (XE.ow (il (za 0 0) (za 4 0))))
  (ze (wm (ye (k:=0) (wv hr.u64) wc (za 3 0) bX (bD _)) (zf (zz (kK (jR (XO.sh (n:=0) (vk (n:=0) (by decide) (za 0 0) rl (vc (za 4 0)))) (XO.sh (n:=0) (vk (n:=0) (by decide) (za 0 0) (vc (XO.sh (n:=0) (jR (za 4 0) bX))) rl)))))) ya)
  (ze (wm (ye (k:=0) (wv hr.u64) wc (za 3 0) bX (bD _)) (zf (zz (kK (jR (XO.sh (n:=0) (jR (XO.sh (n:=0) (vk (n:=0) (by decide) (za 0 0) rl (vc (za 4 0)))) (XO.sh (n:=0) (uf (k:=0) (zh (kK (jR (XO.sh (n:=0) (Lb (n:=0) (by decide) (za 5 0) rl (vc bX))) (XO.sh (n:=0) (jp (zh (kK (jR (XO.sh (n:=0) (jR (il (za 5 0) bX) bX)) (xk (k:=0) xq xr (za 2 0) bX))) (zh (XE.ow (il (za 5 0) bX)) yy)))))) yy))))) (XO.sh (n:=0) (vk (n:=0) (by decide) (za 0 0) (vc (XO.sh (n:=0) (jR (za 4 0) bX))) rl)))))) ya)
  (ze (wm (XW.t (tI (ye (k:=0) (wv hr.u64) wc (za 3 0) bX (bD _)) (qv (ye (k:=0) tL tJ (il (za 5 0) bX) bX (bD _))))) (zf (zz (kK (jR (XO.sh (n:=0) (jR (XO.sh (n:=0) (vk (n:=0) (by decide) (za 0 0) rl (vc (za 4 0)))) (XO.sh (n:=0) (uf (k:=0) (zh (kK (jR (XO.sh (n:=0) (Lb (n:=0) (by decide) (za 5 0) rl (vc bX))) (XO.sh (n:=0) (jp (zh (kK (jR bX (xk (k:=0) xq xr (il (za 5 0) bX) bX))) yy))))) yy))))) (XO.sh (n:=0) (vk (n:=0) (by decide) (za 0 0) (vc (XO.sh (n:=0) (jR (za 4 0) bX))) rl)))))) ya)
  (zf (zz (kK (uw ud (DU (n:=0) (by decide)) rfl T.b_list qr (zc (za 0 0) zg))))))))))))
def Hb:EF:=(d6 (λρ=>((aCons (eV 1) aNil) ρ).bind iJ) 1 [] (gV 0) fu (e2 dW (eC (.str "abcdef")) (eV 0)))
def ub:SF:=(sIf (bAnd (tb (e2 (iH false) (e2 dW (eV 5) (eC (.int 3))) (eC (.int 0)))) (tb (e2 (iH false) (e2 eJ (e2 dB (eV 4) (eV 2)) (eC (.int 2))) (eC (.int 0))))) (sApp 3 (λρ=>((aCons (e2 dW (eV 5) (eC (.int 0))) (aCons (e2 dW (eV 5) (eC (.int 1))) (aCons (e2 dW (eV 5) (eC (.int 2))) aNil))) ρ).bind λds=>jc 1 (ds++[]))) (sIf (bAnd (tb (e2 oU (e2 dW (eV 5) (eC (.int 3))) (eC (.int 0)))) (tb (e2 (iH false) (e2 eJ (e2 dB (eV 4) (eV 2)) (eC (.int 2))) (eC (.int 0))))) (sApp 3 (λρ=>((aCons (e2 dW (eV 5) (eC (.int 0))) (aCons (e2 dW (eV 5) (eC (.int 1))) (aCons (e2 dW (eV 5) (eC (.int 2))) (aCons (e2 dW (eV 5) (eC (.int 3))) aNil)))) ρ).bind λds=>je 3 (ds++[]))) (sApp 3 (λρ=>((aCons (e2 dW (eV 5) (eC (.int 0))) (aCons (e2 dW (eV 5) (eC (.int 1))) (aCons (e2 dW (eV 5) (eC (.int 2))) (aCons (e2 dW (eV 5) (eC (.int 3))) aNil)))) ρ).bind λds=>jd 2 (ds++[])))))
def jy:List D->Option D:=mOf ["_law_parts","_law_many","_law_start","_law_arrows","_law_k","_law_part_here"]
  (sSeq (sSet 3 (λρ=>(aNil ρ).bind λds=>some (.lst ds)))
  (sSeq (sFor (λρ=>((aCons (eV 0) aNil) ρ).bind λds=>match ds with|[.lst xs]=>some (et 0 xs)|_=>none) (gT (gsCons (gV 4) (gsCons (gV 5) gsNil))) ub)
  (sFz 3 (sRet (λρ=>((aCons Hb (aCons (eV 3) aNil)) ρ).bind λds=>uk 4 (ds++[]))))))
theorem Sm (T:Txt K mg a):cG P w K mg base eU 6 a.f_law_net a.d_law_net ["_law_parts","_law_many","_law_start"] (gH K a.ct [0,0,0] 0 jy):=by
 have lD:=Rh (P:=P) (w:=w) (base:=base) T
 have lC:=Rj (P:=P) (w:=w) (base:=base) T
 have pz:=T.Back___init_d1.choose_spec
 have lE:=Ri (P:=P) (w:=w) (base:=base) T
 have pA:=T.Wait___init_d1.choose_spec
 have mj:=Ro (P:=P) (w:=w) (base:=base) T
 refine iV (ms:=[.ow 0,.ow 0,.ow 0,.ow 1,.ow 0,.ow 0]) T.law_net.fn j8 λ_ _ _ _ _ _ hr=>?_
 exact(ze (gF j8.nd (uf (k:=0) yy))
  (ze (vt (HC T.b_enumerate (zc (za 0 0) zg)) (CM (n:=1) rfl (ww (kL j8.nd) (ww (kL j8.nd) CC))) (zf (wm (XW.t (tI (ye (k:=0) (wv hr.u64) wc (il (za 5 0) bX) bX (bD _)) (qv (ye (k:=0) (wv hr.u64) wc (xk (k:=0) xq xr (XO.sh (n:=0) (jR (za 4 0) (za 2 0))) bX) bX (bD _))))) (zf (jq 3 rfl (kK (D9 (c0:=1) (jN:=[]) (ns:=[0,0,0]) (nd:=[]) ⟨T.Ride.mks,T.Ride___init.me.at_,T.Ride___init.me.fn,T.Ride.kp⟩ (by decide) lD (hr.mono (by decide)) rfl T.Ride.mgx T.Ride___init.bd .nil (λ_ _=>.nil) (zc (il (za 5 0) bX) (zc (il (za 5 0) bX) (zc (il (za 5 0) bX) zg))))))) (zf (wm (XW.t (tI (ye (k:=0) tL tJ (il (za 5 0) bX) bX (bD _)) (qv (ye (k:=0) (wv hr.u64) wc (xk (k:=0) xq xr (XO.sh (n:=0) (jR (za 4 0) (za 2 0))) bX) bX (bD _))))) (zf (jq 3 rfl (kK (D9 (c0:=3) (jN:=[]) (ns:=[0,0,0,0]) (nd:=[]) ⟨T.Back.mks,T.Back___init.me.at_,T.Back___init.me.fn,T.Back.kp⟩ (by decide) lC (hr.mono (by decide)) rfl T.Back.mgx T.Back___init.bd .nil (λ_ _=>.nil) (zc (il (za 5 0) bX) (zc (il (za 5 0) bX) (zc (il (za 5 0) bX) (zc (il (za 5 0) bX) zg)))))))) (zf (jq 3 rfl (kK (D9 (c0:=2) (jN:=[]) (ns:=[0,0,0,0]) (nd:=[]) ⟨T.Wait.mks,T.Wait___init.me.at_,T.Wait___init.me.fn,T.Wait.kp⟩ (by decide) lE (hr.mono (by decide)) rfl T.Wait.mgx T.Wait___init.bd .nil (λ_ _=>.nil) (zc (il (za 5 0) bX) (zc (il (za 5 0) bX) (zc (il (za 5 0) bX) (zc (il (za 5 0) bX) zg)))))))))))) cx.never rfl)
  (VZ (i:=3) rfl (zf (zz (kK (D9 (c0:=4) (jN:=[]) (ns:=[0,0]) (nd:=[]) ⟨T.Net.mks,T.Net___init.me.at_,T.Net___init.me.fn,T.Net.kp⟩ (by decide) mj (hr.mono (by decide)) rfl T.Net.mgx T.Net___init.bd .nil (λ_ _=>.nil) (zc (XO.sh (n:=0) (rm (N:=["_law_k"]) (om:=[.ow 0]) (cap:=[]) (own:=1) (XI.cc (wq (n:=0) T.b_range (zc (za 1 0) zg))) (λ_ _ _ _ _=>(mG (show cv (["_law_k"]:List aR)from by decide +kernel))) (λ_ _ _ _ _=>w6) (λ_ _ _ _ _=>(XE.ow (il (CL (n:=0)) (za 0 0)))))) (zc (za 3 0) zg)))))))))
def Rr:EF:=(d6 (λρ=>((aCons (eV 1) aNil) ρ).bind iJ) 1 [] (gV 0) fu (eC .non))
def ji:EF:=(d6 (λρ=>((aCons (eC (.int 4)) aNil) ρ).bind iJ) 1 [0] (gV 0) fu Rr)
def uc:List D->Option D:=mOf ["_law_many","_law_behind","_law_start","_law_was"]
  (sSeq (sSet 3 ji)
  (sSeq (kc 3 (e2 ke (eV 1) (eC (.int 1))) (eV 2) (eC (.int 0)))
  (sRet (eV 3))))
theorem Kq (T:Txt K mg a):cG P w K mg base eU 1 a.f_law_alone a.d_law_alone ["_law_many","_law_behind","_law_start"] (gH K a.ct [0,0,0] 0 uc):=by
 refine iV (ms:=[.ow 0,.ow 0,.ow 0,.ow 2]) T.law_alone.fn Ko λ_ _ _ _ _ _ hr=>?_
 exact(ze (w9 (k:=2) (N:=["_law_row","_law_many"]) (om:=[.ow 0]) (cap:=[0]) (own:=1) rfl Ko.nd rfl (Or.inl rfl) (sr (by rfl)) rfl rfl (by decide) (XI.cc (wq (n:=0) T.b_range (zc bX zg))) (λ_ _ _ _ _=>(mG (show cv (["_law_row","_law_many"]:List aR)from by decide +kernel))) (λ_ _ _ _ _=>w6) (λ_ _ _ _ _=>(rm (N:=["_law_going"]) (om:=[.ow 0]) (cap:=[]) (own:=1) (XI.cc (wq (n:=0) T.b_range (zc (za 1 0) zg))) (λ_ _ _ _ _=>(mG (show cv (["_law_going"]:List aR)from by decide +kernel))) (λ_ _ _ _ _=>w6) (λ_ _ _ _ _=>(XE.ow o3)))))
  (ze (Lj 3 rfl (xk (k:=0) sj u9 (za 1 0) bX) (za 2 0) (λ_ _=>rfl) bX)
  (zf (xC (i:=3) rfl))))
def zx:SF:=(sSeq (sSet 5 (λρ=>((aCons (eV 2) (aCons (eV 3) (aCons (eV 4) aNil))) ρ).bind λds=>uc (ds++[])))
  (sIf (tb (e2 (iH true) (λρ=>((aCons (eV 0) (aCons (eC (.int 1)) (aCons (eV 5) aNil))) ρ).bind λds=>pG (ds++[.non])) (λρ=>((aCons (eV 1) (aCons (eC (.int 1)) (aCons (eV 5) aNil))) ρ).bind λds=>pG (ds++[.non])))) (sRet (eC (.bl true))) sSkip))
def zn:SF:=(sFor (λρ=>((aCons (eV 2) aNil) ρ).bind iJ) (gV 4) zx)
def xj:List D->Option D:=mOf ["_law_one","_law_other","_law_many","_law_behind","_law_start","_law_was"]
  (sSeq (sFor (λρ=>((aCons (eC (.int 1)) (aCons (eC (.int 5)) aNil)) ρ).bind n6) (gV 3) zn)
  (sRet (eC (.bl false))))
theorem jz (T:Txt K mg a):cG P w K mg base eU 5 a.f_law_part_somewhere a.d_law_part_somewhere ["_law_one","_law_other","_law_many"] (gH K a.ct [0,0,0] 0 xj):=by
 have iD:=Kq (P:=P) (w:=w) (base:=base) T
 have kx:=HS (P:=P) (w:=w) (base:=base) T
 have d9:=T.run_d1.choose_spec
 have oy:=T.run_d2.choose_spec
 refine iV (ms:=[.ow 0,.ow 0,.ow 0,.ow 0,.ow 0,.ow 0]) T.law_part_somewhere.fn xx λ_ _ _ _ _ _ hr=>?_
 exact(ze (vt (SV (n:=0) T.b_range (zc bX (zc bX zg))) (kL xx.nd) (zf (vt (wq (n:=0) T.b_range (zc (za 2 0) zg)) (kL xx.nd) (ze (gF xx.nd (dk T.law_alone iD hr (zc (za 2 0) (zc (za 3 0) (zc (za 4 0) zg)))))
  (zf (wm (ye (k:=0) (CK hr.u64) wc (XO.sh (n:=0) (qw (jN:=[.non]) (ns:=[0,0,0]) (nd:=[0]) kx (hr.mono (by decide)) rfl T.run.mgx T.run.fn.kp (d9).2.2 (d9).2.1 (λ_ _=>(.cons (Al.of .non) .nil)) (zc (za 0 0) (zc bX (zc (za 5 0) zg))))) (XO.sh (n:=0) (qw (jN:=[.non]) (ns:=[0,0,0]) (nd:=[0]) kx (hr.mono (by decide)) rfl T.run.mgx T.run.fn.kp (d9).2.2 (d9).2.1 (λ_ _=>(.cons (Al.of .non) .nil)) (zc (za 1 0) (zc bX (zc (za 5 0) zg))))) (bD _)) (zf (zz (XE.ow (o4 (n:=0))))) ya))) cx.never rfl)) cx.never rfl)
  (zf (zz (XE.ow (o4 (n:=0))))))
def jk:EF:=(d6 (J3 (eV 3)) 1 [] (gV 0) fu (λρ=>((aCons (eV 0) aNil) ρ).bind λds=>jh (ds++[])))
def jl:List D->Option D:=mOf ["_law_one","_law_other","_law_many","_law_key","_law_behind","_law_start","_law_goal","_law_was"]
  (sSeq (sIf (bOr (bNot (tb (e1 (jZ "tuple") (eV 3)))) (bOr (tb (e2 (iH true) (eN eG (aCons (eV 3) aNil)) (eC (.int 3)))) (bNot (tb (eN rC (aCons jk aNil)))))) (sRet (eC (.bl false))) sSkip)
  (sSeq (sAsg (gT (gsCons (gV 4) (gsCons (gV 5) (gsCons (gV 6) gsNil)))) (eV 3))
  (sSeq (sIf (bOr (bNot (bAnd (tb (e2 pF (eC (.int 1)) (eV 4))) (tb (e2 pF (eV 4) (eC (.int 4)))))) (bOr (bNot (bAnd (tb (e2 pF (eC (.int 0)) (eV 5))) (tb (e2 qB (eV 5) (eV 2))))) (bNot (bAnd (tb (e2 pF (eC (.int 0)) (eV 6))) (tb (e2 qB (eV 6) (eV 2))))))) (sRet (eC (.bl false))) sSkip)
  (sSeq (sSet 7 (λρ=>((aCons (eV 2) (aCons (eV 4) (aCons (eV 5) aNil))) ρ).bind λds=>uc (ds++[])))
  (sRet (e2 (iH true) (e2 dW (e2 dW (λρ=>((aCons (eV 0) (aCons (eC (.int 1)) (aCons (eV 7) aNil))) ρ).bind λds=>pG (ds++[.non])) (eC (.int 0))) (eV 6)) (e2 dW (e2 dW (λρ=>((aCons (eV 1) (aCons (eC (.int 1)) (aCons (eV 7) aNil))) ρ).bind λds=>pG (ds++[.non])) (eC (.int 0))) (eV 6))))))))
theorem RM (T:Txt K mg a):cG P w K mg base eU 5 a.f_law_shows a.d_law_shows ["_law_one","_law_other","_law_many","_law_key"] (gH K a.ct [0,0,0,0] 0 jl):=by
 have mY:=RL (P:=P) (w:=w) (base:=base) T
 have iD:=Kq (P:=P) (w:=w) (base:=base) T
 have kx:=HS (P:=P) (w:=w) (base:=base) T
 have d9:=T.run_d1.choose_spec
 have oy:=T.run_d2.choose_spec
 refine iV (ms:=[.ow 0,.ow 0,.ow 0,.ow 0,.ow 0,.ow 0,.ow 0,.ow 0]) T.law_shows.fn vv λ_ _ _ _ _ _ hr=>?_
 exact(ze (wm (XW.t (oH (v5 (vq (wH (k:=0) (by decide) T.b_isinstance T.b_tuple S5 (za 3 0)))) (oH (ye (k:=0) (CK hr.u64) wc (lM T.b_len (zc (za 3 0) zg)) bX (bD _)) (qk (v5 (vq (ug (k:=0) (K8 rfl) Mg rfl T.b_all MA (zc (XO.sh (n:=0) (rm (N:=["_law_part_here"]) (om:=[.ow 0]) (cap:=[]) (own:=1) (Vf (n:=0) (za 3 0)) (λ_ _ _ _ _=>(mG (show cv (["_law_part_here"]:List aR)from by decide +kernel))) (λ_ _ _ _ _=>w6) (λ_ _ _ _ _=>(dk T.law_whole mY hr (zc (za 0 0) zg))))) zg)))))))) (zf (zz (XE.ow (o4 (n:=0))))) ya)
  (ze (Ws (za 3 0) (CM (n:=0) rfl (ww (kL vv.nd) (ww (kL vv.nd) (ww (kL vv.nd) CC)))))
  (ze (wm (XW.t (oH (v5 (Hx (k:=0) ql uq ql uq bX (za 4 0) bX)) (oH (v5 (Hx (k:=0) ql uq wJ wG bX (za 5 0) (za 2 0))) (qk (v5 (Hx (k:=0) ql uq wJ wG bX (za 6 0) (za 2 0))))))) (zf (zz (XE.ow (o4 (n:=0))))) ya)
  (ze (gF vv.nd (dk T.law_alone iD hr (zc (za 2 0) (zc (za 4 0) (zc (za 5 0) zg)))))
  (zf (zz (XE.ow (tH (k:=0) (CK hr.u64) wc (il (il (XO.sh (n:=0) (qw (jN:=[.non]) (ns:=[0,0,0]) (nd:=[0]) kx (hr.mono (by decide)) rfl T.run.mgx T.run.fn.kp (d9).2.2 (d9).2.1 (λ_ _=>(.cons (Al.of .non) .nil)) (zc (za 0 0) (zc bX (zc (za 7 0) zg))))) bX) (za 6 0)) (il (il (XO.sh (n:=0) (qw (jN:=[.non]) (ns:=[0,0,0]) (nd:=[0]) kx (hr.mono (by decide)) rfl T.run.mgx T.run.fn.kp (d9).2.2 (d9).2.1 (λ_ _=>(.cons (Al.of .non) .nil)) (zc (za 1 0) (zc bX (zc (za 7 0) zg))))) bX) (za 6 0)) (bD _)))))))))
def vh:List D->Option D:=mOf ["_law_cell","_law_k","_law_number"]
  (sSeq (sSet 2 (λρ=>((aCons (eV 0) (aCons (eV 1) aNil)) ρ).bind λds=>xz (ds++[])))
  (sSeq (sIf (tb (e2 (iH false) (e2 eJ (eV 2) (eC (.int 4))) (eC (.int 0)))) (sRet (eC .non)) sSkip)
  (sRet (e2 ke (e2 eJ (e2 gB (eV 2) (eC (.int 4))) (eC (.int 2000001))) (eC (.int 1000000))))))
theorem RT (T:Txt K mg a):cG P w K mg base eU 2 a.f_law_time a.d_law_time ["_law_cell","_law_k"] (gH K a.ct [0,0] 0 vh):=by
 have dI:=jx (P:=P) (w:=w) (base:=base) T
 refine iV (ms:=[.ow 0,.ow 0,.ow 0]) T.law_time.fn KD λ_ _ _ _ _ _ hr=>?_
 exact(ze (gF KD.nd (dk T.law_mixed dI hr (zc (za 0 0) (zc (za 1 0) zg))))
  (ze (wm (ye (k:=0) (wv hr.u64) wc (xk (k:=0) xq xr (za 2 0) bX) bX (bD _)) (zf (zz (XE.ow o3))) ya)
  (zf (zz (XE.ow (xk (k:=0) sj u9 (xk (k:=0) xq xr (xk (k:=0) u8 ja (za 2 0) bX) bX) bX))))))
def Vg:EF:=(d6 (λρ=>((aCons (eV 1) aNil) ρ).bind iJ) 1 [2,0] (gV 0) fu (λρ=>((aCons (eV 1) (aCons (e2 dB (e2 hE (eC (.int 10)) (eV 2)) (eV 0)) aNil)) ρ).bind λds=>vh (ds++[])))
def DY:EF:=(d6 (λρ=>((aCons (eC (.int 4)) aNil) ρ).bind iJ) 1 [2,10] (gV 0) fu Vg)
def uu:SF:=(sSeq (sSet 9 (λρ=>((aCons (e2 dW (eV 8) (eC (.int 0))) (aCons (e2 dW (eV 8) (eC (.int 1))) aNil)) ρ).bind λds=>CB (ds++[])))
  (sIf (bOr (bAnd (tb (eV 7)) (bNot (tb (λρ=>((aCons (e2 dW (eV 8) (eC (.int 0))) (aCons (e2 dW (eV 8) (eC (.int 1))) (aCons (eV 2) (aCons (eV 9) aNil)))) ρ).bind λds=>jl (ds++[]))))) (bAnd (bNot (tb (eV 7))) (tb (e2 (p7 true) (eV 9) (eC .non))))) (sRet (eC (.bl false))) sSkip))
def DZ:EF:=(d6 (lsD (λρ=>((eV 0) ρ).bind λd=>((pInt (eC (.int 11))) ρ).bind λl=>((pInt (eC (.int 19))) ρ).bind λh=>eI d l h)) 1 [2] (gV 0) fu (λρ=>((aCons (eV 0) (aCons (eV 1) aNil)) ρ).bind λds=>wt (ds++[])))
def D0:EF:=(d6 (lsD (λρ=>((eV 0) ρ).bind λd=>((pInt (eC (.int 3))) ρ).bind λl=>((pInt (eC (.int 11))) ρ).bind λh=>eI d l h)) 1 [2] (gV 0) fu (λρ=>((aCons (eV 0) (aCons (eV 1) aNil)) ρ).bind λds=>wt (ds++[])))
def Er:List D->Option D:=mOf ["_law_script","_law_cell","_law_many","_law_parts","_law_others","_law_one","_law_other","_law_apart","_law_pair","_law_key","_law_near","_law_was"]
  (sSeq (sSet 1 (λρ=>((aCons (eV 0) (aCons (eC (.int 0)) aNil)) ρ).bind λds=>xl (ds++[])))
  (sSeq (sSet 2 (e2 dB (eC (.int 1)) (e2 eJ (eV 1) (eC (.int 6)))))
  (sSeq (sSet 3 D0)
  (sSeq (sSet 4 DZ)
  (sSeq (sIf (tb (e2 oU (e2 eJ (e2 gB (eV 1) (eC (.int 6))) (eC (.int 3))) (eC (.int 0)))) (sSet 4 (λρ=>((aCons (eV 3) (aCons (eV 2) (aCons (λρ=>((aCons (eV 0) (aCons (eC (.int 1)) aNil)) ρ).bind λds=>xl (ds++[])) aNil))) ρ).bind λds=>yn (ds++[]))) sSkip)
  (sSeq (sSet 5 (λρ=>((aCons (λρ=>((aCons (eV 3) (aCons (eV 2) (aCons (e2 gB (eV 1) (eC (.int 18))) aNil))) ρ).bind λds=>vb (ds++[])) (aCons (eV 2) (aCons (eC (.int 0)) aNil))) ρ).bind λds=>jy (ds++[])))
  (sSeq (sSet 6 (λρ=>((aCons (λρ=>((aCons (eV 4) (aCons (eV 2) (aCons (e2 gB (eV 1) (eC (.int 18))) aNil))) ρ).bind λds=>vb (ds++[])) (aCons (eV 2) (aCons (e2 gB (eV 1) (eC (.int 36))) aNil))) ρ).bind λds=>jy (ds++[])))
  (sSeq (sSet 7 (λρ=>((aCons (eV 5) (aCons (eV 6) (aCons (eV 2) aNil))) ρ).bind λds=>xj (ds++[])))
  (sSeq (sFor (lsD (λρ=>((aCons (λρ=>((aCons (eV 5) (aCons (eV 6) aNil)) ρ).bind λds=>some (.tup ds)) (aCons (λρ=>((aCons (eV 6) (aCons (eV 5) aNil)) ρ).bind λds=>some (.tup ds)) (aCons (λρ=>((aCons (eV 5) (aCons (eV 6) aNil)) ρ).bind λds=>some (.tup ds)) aNil))) ρ).bind λds=>some (.lst ds))) (gV 8) uu)
  (sSeq (sIf (tb (eV 7)) (sRet (eC (.bl true))) sSkip)
  (sSeq (sSet 10 (λρ=>((aCons (eV 0) (aCons (eC (.int 2)) aNil)) ρ).bind λds=>xl (ds++[])))
  (sSeq (sSet 11 DY)
  (sRet (e2 (iH false) (λρ=>((aCons (eV 5) (aCons (eC (.int 5)) (aCons (eV 11) aNil))) ρ).bind λds=>pG (ds++[.non])) (λρ=>((aCons (eV 6) (aCons (eC (.int 5)) (aCons (eV 11) aNil))) ρ).bind λds=>pG (ds++[.non]))))))))))))))))
theorem V5 (T:Txt K mg a):cG P w K mg base eU 7 a.f_law a.d_law ["_law_script"] (gH K a.ct [0] 0 Er):=by
 have gG:=Rl (P:=P) (w:=w) (base:=base) T
 have gX:=KG (P:=P) (w:=w) (base:=base) T
 have lF:=Rm (P:=P) (w:=w) (base:=base) T
 have lS:=Sm (P:=P) (w:=w) (base:=base) T
 have jM:=Rq (P:=P) (w:=w) (base:=base) T
 have iE:=jz (P:=P) (w:=w) (base:=base) T
 have pJ:=S2 (P:=P) (w:=w) (base:=base) T
 have mX:=RM (P:=P) (w:=w) (base:=base) T
 have nR:=RT (P:=P) (w:=w) (base:=base) T
 have kx:=HS (P:=P) (w:=w) (base:=base) T
 have d9:=T.run_d1.choose_spec
 have oy:=T.run_d2.choose_spec
 refine iV (ms:=[.ow 0,.ow 0,.ow 0,.ow 0,.ow 0,.ow 0,.ow 0,.ow 0,.ow 0,.ow 0,.ow 0,.ow 0]) T.law.fn ux λ_ _ _ _ _ _ hr=>?_
 exact(ze (gF ux.nd (dk T.law_cell_at gG hr (zc (za 0 0) (zc bX zg))))
  (ze (gF ux.nd (kK (jR bX (xk (k:=0) xq xr (za 1 0) bX))))
  (ze (w9 (k:=0) (N:=["_law_part_here","_law_many"]) (om:=[.ow 0]) (cap:=[2]) (own:=1) rfl ux.nd rfl (Or.inl rfl) (sr (by rfl)) rfl rfl (by decide) (CA (n:=0) (XO.sh (n:=0) (vk (n:=0) (by decide) (za 0 0) (vc bX) (vc bX)))) (λ_ _ _ _ _=>(mG (show cv (["_law_part_here","_law_many"]:List aR)from by decide +kernel))) (λ_ _ _ _ _=>w6) (λ_ _ _ _ _=>(dk T.law_part gX hr (zc (za 0 0) (zc (za 1 0) zg)))))
  (ze (w9 (k:=0) (N:=["_law_part_here","_law_many"]) (om:=[.ow 0]) (cap:=[2]) (own:=1) rfl ux.nd rfl (Or.inl rfl) (sr (by rfl)) rfl rfl (by decide) (CA (n:=0) (XO.sh (n:=0) (vk (n:=0) (by decide) (za 0 0) (vc bX) (vc bX)))) (λ_ _ _ _ _=>(mG (show cv (["_law_part_here","_law_many"]:List aR)from by decide +kernel))) (λ_ _ _ _ _=>w6) (λ_ _ _ _ _=>(dk T.law_part gX hr (zc (za 0 0) (zc (za 1 0) zg)))))
  (ze (wm (ye (k:=0) tL tJ (xk (k:=0) xq xr (xk (k:=0) u8 ja (za 1 0) bX) bX) bX (bD _)) (zf (gF ux.nd (dk T.law_changed lF hr (zc (za 3 0) (zc (za 2 0) (zc (XO.sh (n:=0) (dk T.law_cell_at gG hr (zc (za 0 0) (zc bX zg)))) zg)))))) ya)
  (ze (gF ux.nd (dk T.law_net lS hr (zc (XO.sh (n:=0) (dk T.law_turned jM hr (zc (za 3 0) (zc (za 2 0) (zc (xk (k:=0) u8 ja (za 1 0) bX) zg))))) (zc (za 2 0) (zc bX zg)))))
  (ze (gF ux.nd (dk T.law_net lS hr (zc (XO.sh (n:=0) (dk T.law_turned jM hr (zc (za 4 0) (zc (za 2 0) (zc (xk (k:=0) u8 ja (za 1 0) bX) zg))))) (zc (za 2 0) (zc (xk (k:=0) u8 ja (za 1 0) bX) zg)))))
  (ze (gF ux.nd (dk T.law_part_somewhere iE hr (zc (za 5 0) (zc (za 6 0) (zc (za 2 0) zg)))))
  (ze (vt (v6 (XO.sh (n:=0) (uf (k:=0) (zh (kK (jp (zh (XE.ow (za 5 0)) (zh (XE.ow (za 6 0)) yy)))) (zh (kK (jp (zh (XE.ow (za 6 0)) (zh (XE.ow (za 5 0)) yy)))) (zh (kK (jp (zh (XE.ow (za 5 0)) (zh (XE.ow (za 6 0)) yy)))) yy)))))) (kL ux.nd) (ze (gF ux.nd (dk T.parted pJ hr (zc (il (za 8 0) bX) (zc (il (za 8 0) bX) zg))))
  (zf (wm (XW.t (oH (XW.t (tI (vq (za 7 0)) (qv (v5 (vq (XO.sh (n:=0) (dk T.law_shows mX hr (zc (il (za 8 0) bX) (zc (il (za 8 0) bX) (zc (za 2 0) (zc (za 9 0) zg))))))))))) (qk (XW.t (tI (v5 (vq (za 7 0))) (qv (ye (k:=0) LC KM (za 9 0) o3 (bD _)))))))) (zf (zz (XE.ow (o4 (n:=0))))) ya))) cx.never rfl)
  (ze (wm (vq (za 7 0)) (zf (zz (XE.ow (o4 (n:=0))))) ya)
  (ze (gF ux.nd (dk T.law_cell_at gG hr (zc (za 0 0) (zc bX zg))))
  (ze (w9 (k:=0) (N:=["_law_row","_law_many","_law_near"]) (om:=[.ow 0]) (cap:=[2,10]) (own:=1) rfl ux.nd rfl (Or.inl rfl) (sr (by rfl)) rfl rfl (by decide) (XI.cc (wq (n:=0) T.b_range (zc bX zg))) (λ_ _ _ _ _=>(mG (show cv (["_law_row","_law_many","_law_near"]:List aR)from by decide +kernel))) (λ_ _ _ _ _=>w6) (λ_ _ _ _ _=>(kK (rm (N:=["_law_going","_law_near","_law_row"]) (om:=[.ow 0]) (cap:=[2,0]) (own:=1) (XI.cc (wq (n:=0) T.b_range (zc (za 1 0) zg))) (λ_ _ _ _ _=>(mG (show cv (["_law_going","_law_near","_law_row"]:List aR)from by decide +kernel))) (λ_ _ _ _ _=>w6) (λ_ _ _ _ _=>(dk T.law_time nR hr (zc (za 1 0) (zc (XO.sh (n:=0) (jR (xk (k:=0) qq jb bX (za 2 0)) (za 0 0))) zg))))))))
  (zf (zz (XE.ow (tH (k:=0) (wv hr.u64) wc (XO.sh (n:=0) (qw (jN:=[.non]) (ns:=[0,0,0]) (nd:=[0]) kx (hr.mono (by decide)) rfl T.run.mgx T.run.fn.kp (d9).2.2 (d9).2.1 (λ_ _=>(.cons (Al.of .non) .nil)) (zc (za 5 0) (zc bX (zc (za 11 0) zg))))) (XO.sh (n:=0) (qw (jN:=[.non]) (ns:=[0,0,0]) (nd:=[0]) kx (hr.mono (by decide)) rfl T.run.mgx T.run.fn.kp (d9).2.2 (d9).2.1 (λ_ _=>(.cons (Al.of .non) .nil)) (zc (za 6 0) (zc bX (zc (za 11 0) zg))))) (bD _)))))))))))))))))
end
local macro_rules| `(tactic|walk_at "mir")=>`(tactic|simp -implicitDefEqProofs [mOf,startD,sSeq,sIf,sSet,sRet,sRetN,sDrop,sPar,sAsg,sApp,sFor,lsD,zoi,sSkip,eV,eC,e1,e2,eN,aNil,aCons,pNo,pInt,j6,tb,zqt,bNot,bAnd,bOr,eB,eIf,gV,gT,gsCons,gsNil,zlh,zlj,zod,zoe,zof,zog,zbn,zll,zlk,zlm,zoh,zqs,D.isN,D.isB,zok,zqu,zjl,zbm,zc7,zmv,zlf,zlg,zgw,j6,zb9,ze5,sFz,zlw,zlx, *])
def jT (n:Nat)(f:Nat->Int):List D:=(aE n).map λg=>D.int (f g)
theorem Vh (n:Nat)(f:Nat->Int):(jT n f).length=n:=by simp[jT]
theorem HU {n:Nat}(f:Nat->Int){g:Nat}(h:g<n):atI (jT n f) (g:Int)=some (.int (f g)):=by
 refine u6 ?_
 simp[jT,h]
theorem Vi {n:Nat}(f:Nat->Int){g:Nat}(h:g<n)(v:Int):ik (jT n f) (g:Int) (.int v)=some (jT n λx=>if x=g then v else f x):=by
 unfold ik
 have hx:ixN (jT n f).length (g:Int)=some g:=by
  unfold ixN
  rw[Vh]
  rw[if_pos (by omega),if_pos (by omega)]
  simp
 rw[hx]
 simp only[bK,Option.some.injEq]
 apply fJ
 ·simp[jT]
 ·intro i h1 h2
  simp[jT,kF]
  by_cases hi:g=i
  ·subst hi;simp
  ·rw[if_neg hi,if_neg (λz=>hi z.symm)]
theorem Ml {i:Nat}{fj f:EF}{gi:Int->Int->Int}{ρ:L3.Env}{n g:Nat}{w:Nat->Int}{y:Int}(h1:(ρ[i]?).join=some (.lst (jT n w)))(h2:fj ρ=some (.int (g:Int)))(h3:f ρ=some (.int y))(hg:g<n) :
  nh i fj gi f ρ=some (.nx (ρ.set i (some (.lst (jT n λx=>if x=g then gi (w g) y else w x))))):=by
 unfold nh
 have:eV i ρ=some (.lst (jT n w)):=h1
 rw[this,h2,h3]
 simp only[bK,HU w hg,Vi w hg]
def ck (p:List Nat):List D:=p.map λ(x:Nat)=>D.int (x:Int)
theorem qp {f:EF}{r:L3.Env}{n:Nat}(h:f r=some (.int (n:Int)))(hn:n<=1000000):((aCons f aNil) r).bind iJ=some ((aE n).map λ(t:Nat)=>D.int (t:Int)):=by
 have e:(aCons f aNil) r=some [.int (n:Int)]:=by unfold aCons;rw[h];rfl
 rw[e,bK,LF (by omega) (by omega)]
 unfold lL
 simp
theorem D1 {α:Type}{fi:L3.Env->Option (List D)}{own:Nat}{cap:List Nat}{g:D->L3.Env->Option L3.Env}{p:BF}{f:EF}{r:L3.Env}(enc:α->D)(q:α->Bool)(h:α->D)(xs:List α)(hi:fi r=some (xs.map enc))(hl:xs.length<=16777216)
  (st:∀x∈xs,∃ρ1,g (enc x) (aG own none++gj r cap)=some ρ1/\p ρ1=some (q x)/\(q x=true->f ρ1=some (h x))):d6 fi own cap g p f r=some (.lst ((xs.filter q).map h)):=by
 unfold d6
 rw[hi]
 simp only[bK,aF]
 rw[if_pos hl,KS enc q h xs st]
 rfl
theorem Vj {n i:Nat}(h:i<n):ixN n (i:Int)=some i:=by
 unfold ixN
 rw[if_pos (by omega),if_pos (by omega)]
 simp
theorem wp {α:Type}{fi:L3.Env->Option (List D)}{own:Nat}{cap:List Nat}{g:D->L3.Env->Option L3.Env}{f:EF}{r:L3.Env}(enc:α->D)(h:α->D)(xs:List α)(hi:fi r=some (xs.map enc))(hl:xs.length<=16777216)
  (st:∀x∈xs,∃ρ1,g (enc x) (aG own none++gj r cap)=some ρ1/\f ρ1=some (h x)):d6 fi own cap g fu f r=some (.lst (xs.map h)):=by
 have:=D1 (p:=fu) enc (λ_=>true) h xs hi hl λx hx=>by
  obtain⟨ρ1,h1,h2⟩:=st x hx
  exact⟨ρ1,h1,rfl,λ_=>h2⟩
 rw[this,List.filter_eq_self.mpr λ_ _=>rfl]
theorem Hm {α:Type}(enc:α->D):∀(as:List α) (k:Nat),et k (as.map enc)=(as.zipIdx k).map λ(p:α×Nat)=>D.tup [.int (p.2:Int),enc p.1]
 |[],_=>rfl
 |a::as,k=>by
  show _::et (k+1) (as.map enc)=_::_
  rw[Hm enc as (k+1)]
theorem V6 {α:Type}{as:List α}{p:α×Nat}(h:p∈as.zipIdx):as[p.2]?=some p.1:=List.mem_zipIdx_iff_getElem?.mp h
theorem KL {α:Type}(q:α->Bool):∀(as:List α) (k:Nat),((as.zipIdx k).filter λp=>q p.1).map (·.1)=as.filter q
 |[],_=>rfl
 |a::as,k=>by
  rw[List.zipIdx_cons,gN,gN]
  cases h:q a<;>simp[h,KL q as (k+1)]
inductive Kd where
 |ride|wait|back
deriving DecidableEq
structure cJ where
 c:Kd
 s:Nat
 g:Nat
 t:Int
 b:Nat
deriving DecidableEq
namespace Kahn
def cnt (W:List cJ)(P:List Nat)(g:Nat):Nat:=W.countP λa=>decide (a.g=g/\a.s∉P)
structure Ok (W:List cJ)(many:Nat)(p:List Nat):Prop where
 nd:p.Nodup
 lt:∀x∈p,x<many
 ord:∀(i x:Nat),p[i]?=some x->∀a∈W,a.g=x->a.s∈p.take i
theorem Ok.snoc {W:List cJ}{many:Nat}{p:List Nat}{x:Nat}(h:Ok W many p)(hx:x∉p)(hl:x<many)(ho:∀a∈W,a.g=x->a.s∈p):Ok W many (p++[x]) where
 nd:=by
  rw[bo]
  exact⟨h.nd,by simp,λa ha b hb e=>by simp at hb;subst hb;subst e;exact hx ha⟩
 lt:=λy hy=>by
  rcases aM.mp hy with hy|hy
  ·exact h.lt y hy
  ·simp at hy;subst hy;exact hl
 ord:=λi y hy a ha e=>by
  by_cases hi:i<p.length
  ·rw[cz hi]at hy
   rw[fO (by omega)]
   exact h.ord i y hy a ha e
  ·rw[cO (by omega)]at hy
   have lI:i-p.length=0:=by
    cases hq:i-p.length with
    |zero=>rfl
    |succ k=>rw[hq]at hy;simp at hy
   rw[lI]at hy
   simp at hy
   subst hy
   have:i=p.length:=by omega
   rw[this,qP]
   ·exact ho a ha e
   ·rfl
def stp (here:Nat)(S:(Nat->Int)×List Nat)(a:cJ):(Nat->Int)×List Nat :=
 if a.s=here then
  let f':Nat->Int:=λx=>if x=a.g then S.1 a.g-1 else S.1 x
  (f',if f' a.g=0 then S.2++[a.g]else S.2)
 else S
structure In (W:List cJ)(many:Nat)(P:List Nat)(here:Nat)(pre:List cJ)(S:(Nat->Int)×List Nat):Prop where
 ok:Ok W many S.2
 f:∀g,S.1 g=(cnt W P g:Int)-(pre.countP λa=>decide (a.g=g/\a.s=here):Nat)
 z:∀g,g<many->(g∈S.2↔S.1 g=0)
 sub:∀x,(x∈P\/x=here)->x∈S.2
theorem V7 {W pre post:List cJ}{P:List Nat}{here:Nat}{a:cJ}(e:W=pre++a::post)(hP:here∉P)(ha:a.s=here):(pre.countP λx=>decide (x.g=a.g/\x.s=here))+1<=cnt W P a.g:=by
 unfold cnt
 rw[e,gp,fI]
 have h1:(pre.countP λx=>decide (x.g=a.g/\x.s=here))<=pre.countP λx=>decide (x.g=a.g/\x.s∉P):=by
  apply List.countP_mono_left
  intro x _ hx
  simp at hx ⊢
  exact⟨hx.1,by rw[hx.2];exact hP⟩
 have h2:(decide (a.g=a.g/\a.s∉P))=true:=by simp[ha,hP]
 rw[h2]
 simp only[if_true]
 omega
theorem In.step {W pre post:List cJ}{many:Nat}{P:List Nat}{here:Nat}{a:cJ}{S:(Nat->Int)×List Nat}(h:In W many P here pre S)(e:W=pre++a::post)(hP:here∉P)(hl:a.g<many):In W many P here (pre++[a]) (stp here S a):=by
 by_cases ha:a.s=here
 ·have Ot:=V7 e hP ha
  have hf:∀g,(if g=a.g then S.1 a.g-1 else S.1 g)=(cnt W P g:Int)-((pre++[a]).countP λx=>decide (x.g=g/\x.s=here):Nat):=λg=>by
   rw[gp,nq]
   by_cases hg:g=a.g
   ·subst hg
    rw[if_pos rfl,h.f]
    have:decide (a.g=a.g/\a.s=here)=true:=by simp[ha]
    rw[this]
    simp only[if_true]
    omega
   ·rw[if_neg hg,h.f]
    have:decide (a.g=g/\a.s=here)=false:=by simp;intro z;exact absurd z.symm hg
    rw[this]
    simp
  have jY:S.1 a.g≠0:=by rw[h.f];omega
  have AH:a.g∉S.2:=λz=>jY ((h.z a.g hl).mp z)
  by_cases h0:S.1 a.g-1=0
  ·have es:stp here S a=(λx=>if x=a.g then S.1 a.g-1 else S.1 x,S.2++[a.g]):=by unfold stp;simp[ha,h0]
   rw[es]
   refine⟨h.ok.snoc AH hl λb hb eb=>?_,hf,λg hg=>?_,λx hx=>aS _ (h.sub x hx)⟩
   ·
    refine h.sub _ (Classical.byContradiction λhc=>?_)
    have IY:b.s∉P:=λz=>hc (.inl z)
    have sO:b.s≠here:=λz=>hc (.inr z)
    have h1:cnt W P a.g=(pre.countP λx=>decide (x.g=a.g/\x.s=here))+1:=by
     have:=h.f a.g
     omega
    have h2:(W.countP λx=>decide (x.g=a.g/\x.s=here))+(W.countP λx=>decide (x.g=a.g/\x.s∉P/\x.s≠here))<=cnt W P a.g:=by
     have:cnt W P a.g=(W.countP λx=>decide (x.g=a.g/\x.s=here))+(W.countP λx=>decide (x.g=a.g/\x.s∉P/\x.s≠here)):=by
      unfold cnt
      clear h1 hc IY sO eb hb h0 hf Ot e h
      induction W with
      |nil=>rfl
      |cons x W ih=>
       simp only[fI]
       rw[ih]
       by_cases q1:x.g=a.g<;>by_cases q2:x.s=here<;>by_cases q3:x.s∈P<;>simp_all<;>omega
     omega
    have h3:(pre.countP λx=>decide (x.g=a.g/\x.s=here))+1<=W.countP λx=>decide (x.g=a.g/\x.s=here):=by
     rw[e,gp,fI]
     have:decide (a.g=a.g/\a.s=here)=true:=by simp[ha]
     rw[this]
     simp only[if_true]
     omega
    have h4:0<W.countP λx=>decide (x.g=a.g/\x.s∉P/\x.s≠here):=by
     rw[List.countP_pos_iff]
     exact⟨b,hb,by simp[eb,IY,sO]⟩
    omega
   ·rw[aM,aH]
    by_cases qZ:g=a.g
    ·subst qZ;simp[h0]
    ·dsimp only;rw[if_neg qZ,h.z g hg];simp[qZ]
  ·have es:stp here S a=(λx=>if x=a.g then S.1 a.g-1 else S.1 x,S.2):=by unfold stp;simp[ha,h0]
   rw[es]
   refine⟨h.ok,hf,λg hg=>?_,h.sub⟩
   by_cases qZ:g=a.g
   ·subst qZ
    dsimp only
    rw[if_pos rfl]
    exact⟨λz=>absurd z AH,λz=>absurd z h0⟩
   ·dsimp only;rw[if_neg qZ];exact h.z g hg
 ·have:stp here S a=S:=by unfold stp;rw[if_neg ha]
  rw[this]
  refine⟨h.ok,λg=>?_,h.z,h.sub⟩
  rw[gp,nq]
  have:decide (a.g=g/\a.s=here)=false:=by simp[ha]
  rw[this,h.f]
  simp
theorem In.fold {W:List cJ}{many:Nat}{P:List Nat}{here:Nat}(hP:here∉P)(hl:∀a∈W,a.g<many):∀(post pre:List cJ) (S:(Nat->Int)×List Nat),W=pre++post->In W many P here pre S->In W many P here W (post.foldl (stp here) S)
 |[],pre,S,e,h=>by rw[e] ;simpa using(by rw[bQ]at e;subst e;exact h)
 |a::post,pre,S,e,h=>by
  have:=In.fold hP hl post (pre++[a]) (stp here S a) (by rw[e];simp) (h.step e hP (hl a (by rw[e];simp)))
  exact this
theorem Tz {W:List cJ}{P:List Nat}{here g:Nat}(hP:here∉P):(cnt W P g:Int)-(W.countP λa=>decide (a.g=g/\a.s=here):Nat)=cnt W (P++[here]) g:=by
 have:cnt W P g=(W.countP λa=>decide (a.g=g/\a.s=here))+cnt W (P++[here]) g:=by
  unfold cnt
  induction W with
  |nil=>rfl
  |cons x W ih=>
   simp only[fI]
   rw[ih]
   by_cases q1:x.g=g<;>by_cases q2:x.s=here<;>by_cases q3:x.s∈P<;>simp_all<;>omega
 omega
structure Wh (W:List cJ)(many:Nat)(f:Nat->Int)(p:List Nat)(d:Nat):Prop where
 ok:Ok W many p
 dl:d<=p.length
 fe:∀g,f g=cnt W (p.take d) g
 z:∀g,g<many->(g∈p↔f g=0)
theorem Wh.step {W:List cJ}{many:Nat}{f:Nat->Int}{p:List Nat}{d here:Nat}(h:Wh W many f p d)(hl:∀a∈W,a.g<many)(hh:p[d]?=some here) :
  Wh W many (W.foldl (stp here) (f,p)).1 (W.foldl (stp here) (f,p)).2 (d+1)/\∃q,(W.foldl (stp here) (f,p)).2=p++q:=by
 have hd:d<p.length:=(aQ.mp hh).1
 have hP:here∉p.take d:=λz=>by
  obtain⟨i,hi,e⟩:=bR.mp z
  have lI:i<d:=by rw[cZ]at hi;omega
  rw[o6]at e
  have e2:p[d]=here:=by have:=aQ.mp hh;exact this.2
  have:=(gO (xs:=p) (h₀:=by omega) (h₁:=hd) h.ok.nd).mp (e.trans e2.symm)
  omega
 have FQ:∀(l:List cJ) (S:(Nat->Int)×List Nat),∃q,(l.foldl (stp here) S).2=S.2++q:=by
  intro l
  induction l with
  |nil=>exactλS=>⟨[],by simp⟩
  |cons a l ih=>
   intro S
   obtain⟨q,hq⟩:=ih (stp here S a)
   have:∃r,(stp here S a).2=S.2++r:=by
    by_cases ha:a.s=here
    ·by_cases h0:S.1 a.g-1=0
     ·exact⟨[a.g],by unfold stp;simp[ha,h0]⟩
     ·exact⟨[],by unfold stp;simp[ha,h0]⟩
    ·exact⟨[],by unfold stp;simp[ha]⟩
   obtain⟨r,hr⟩:=this
   exact⟨r++q,by rw[dM,hq,hr,e8]⟩
 obtain⟨q,hq⟩:=FQ W (f,p)
 have I:=In.fold hP hl W [] (f,p) rfl ⟨h.ok,λg=>by show f g=_;rw[h.fe];simp,h.z,λx hx=>by
  rcases hx with hx|rfl
  ·exact ez hx
  ·exact bV.mpr ⟨d,hh⟩⟩
 have lU:(W.foldl (stp here) (f,p)).2.take (d+1)=p.take d++[here]:=by
  rw[hq]
  show(p++q).take (d+1)=_
  rw[fO (by omega),List.take_succ,hh]
  rfl
 refine⟨⟨I.ok,?_,λg=>?_,I.z⟩,q,hq⟩
 ·rw[hq]
  show d+1<=(p++q).length
  rw[bn];omega
 ·rw[I.f,lU]
  exact Tz hP
theorem cnt_zero {W:List cJ}{P:List Nat}{g:Nat}:cnt W P g=0↔∀a∈W,a.g=g->a.s∈P:=by
 unfold cnt
 rw[List.countP_eq_zero]
 constructor
 ·intro h a ha e
  have:=h a ha
  simp at this
  exact Classical.byContradiction λz=>z (this e)
 ·intro h a ha
  simp
  exact h a ha
theorem Wh.all {W:List cJ}{many:Nat}{f:Nat->Int}{p:List Nat}(h:Wh W many f p p.length)(rank:Nat->Nat)(hr:∀a∈W,rank a.s<rank a.g)(hs:∀a∈W,a.s<many):∀g,g<many->g∈p:=by
 have:∀n g,rank g<n->g<many->g∈p:=by
  intro n
  induction n with
  |zero=>intro g h;omega
  |succ n ih=>
   intro g hg hl
   rw[h.z g hl,h.fe,List.take_length]
   have:cnt W p g=0:=cnt_zero.mpr λa ha e=>ih a.s (by have:=hr a ha;rw[e]at this;omega) (hs a ha)
   rw[this];rfl
 exactλg hl=>this (rank g+1) g (by omega) hl
theorem len_of {many:Nat}{p:List Nat}(nd:p.Nodup)(lt:∀x∈p,x<many)(all:∀g,g<many->g∈p):p.length=many:=by
 have h1:p.Perm (aE many):=by
  rw[lA nd gR]
  intro a
  rw[bw]
  exact⟨lt a,all a⟩
 simpa using h1.length_eq
theorem len_le {many:Nat}{p:List Nat}(nd:p.Nodup)(lt:∀x∈p,x<many):p.length<=many:=by
 have h1:(p++(aE many).filter λx=>decide (x∉p)).Perm (aE many):=by
  rw[lA (by
   rw[bo]
   refine⟨nd,gR.filter _,λa ha b hb e=>?_⟩
   subst e
   simp at hb
   exact hb.2 ha) gR]
  intro a
  rw[aM,bB,bw]
  constructor
  ·rintro(h|h)
   ·exact lt a h
   ·exact h.1
  ·intro h
   by_cases ha:a∈p
   ·exact .inl ha
   ·exact .inr ⟨h,by simpa using ha⟩
 have:=h1.length_eq
 rw[bn,bW]at this
 omega
end Kahn
def Kd.n:Kd->Nat
 |.ride=>1|.wait=>2|.back=>3
def bP (a:cJ):D:=.obj a.c.n ["start","goal","time","behind"] [.int a.s,.int a.g,.int a.t,.int a.b]
theorem fs (a:cJ):cP [0,1,2,3] "start" (bP a)=some (.int a.s):=by obtain⟨c,_,_,_,_⟩:=a;cases c<;>rfl
theorem fg (a:cJ):cP [0,1,2,3] "goal" (bP a)=some (.int a.g):=by obtain⟨c,_,_,_,_⟩:=a;cases c<;>rfl
theorem ft (a:cJ):cP [0,1,2,3] "time" (bP a)=some (.int a.t):=by obtain⟨c,_,_,_,_⟩:=a;cases c<;>rfl
theorem fb (a:cJ):cP [0,1,2,3] "behind" (bP a)=some (.int a.b):=by obtain⟨c,_,_,_,_⟩:=a;cases c<;>rfl
structure Right (many:Nat)(a:cJ):Prop where
 s:a.s<many
 g:a.g<many
 t0:0<=a.t
 t1:a.t<=1000000000
 b:a.b<=4
 r:a.c=.ride->a.b=0
 k:a.c=.back->1<=a.b
theorem qd {n l m:Int}(h1:l<=n)(h2:n<=m):yc [.int n,.int l,.int m]=some (.bl true):=by
 unfold yc
 have q1 (i:Int):jZ "int" (.int i)=some (.bl true):=rfl
 have q2 (i:Int):jZ "bool" (.int i)=some (.bl false):=rfl
 walk_at "mir"
theorem isA (all sub:List Nat)(a:cJ):p9 all sub (bP a)=if all.contains a.c.n=true then some (.bl (sub.contains a.c.n))else none:=rfl
theorem Vk {many:Nat}{a:cJ}(h:Right many a):j9 [bP a,.int (many:Int)]=some (.bl true):=by
 have w1:yc [.int (a.s:Int),.int 0,.int ((many:Int)-1)]=some (.bl true):=qd (by omega) (by have:=h.s;omega)
 have w2:yc [.int (a.g:Int),.int 0,.int ((many:Int)-1)]=some (.bl true):=qd (by omega) (by have:=h.g;omega)
 have w3:yc [.int a.t,.int 0,.int 1000000000]=some (.bl true):=qd h.t0 h.t1
 have f1:=fs a
 have f2:=fg a
 have f3:=ft a
 have f4:=fb a
 have hi:=λall sub=>isA all sub a
 have hb:=h.b
 have hr:=h.r
 have hk:=h.k
 clear h
 unfold j9
 cases hc:a.c with
 |ride=>
  have w4:yc [.int (a.b:Int),.int 0,.int 0]=some (.bl true):=qd (by omega) (by have:=hr hc;omega)
  rw[hc]at hi
  clear hr hk hb
  have hn:Kd.ride.n=1:=rfl
  walk_at "mir"
 |wait=>
  have w4:yc [.int (a.b:Int),.int 0,.int 4]=some (.bl true):=qd (by omega) (by omega)
  rw[hc]at hi
  clear hr hk hb
  have hn:Kd.wait.n=2:=rfl
  walk_at "mir"
 |back=>
  have w4:yc [.int (a.b:Int),.int 1,.int 4]=some (.bl true):=qd (by have:=hk hc;omega) (by omega)
  rw[hc]at hi
  clear hr hk hb
  have hn:Kd.back.n=3:=rfl
  walk_at "mir"
def W0 (as:List cJ):List cJ:=as.filter λa=>decide (a.b=0)
theorem Rv (as:List cJ)(l:as.length<=16777216)(r:L3.Env)(h:r[1]?.join=some (.lst (as.map bP))) :
  u0 r=some (.lst ((W0 as).map bP)):=by
 have e:lsD (eV 1) r=some (as.map bP):=by unfold lsD;have:eV 1 r=some (.lst (as.map bP)):=h;rw[this];rfl
 refine D1 bP (λa=>decide (a.b=0)) bP as e l λa _=>⟨_,rfl,?_,λ_=>rfl⟩
 have:=fb a
 walk_at "mir"
def yU (s:(Nat->Int)×Option D)(a:cJ):(Nat->Int)×Option D:=(λx=>if x=a.g then s.1 a.g+1 else s.1 x,some (bP a))
theorem Lm:∀(W:List cJ) (s:(Nat->Int)×Option D) (g:Nat),(W.foldl yU s).1 g=s.1 g+(W.countP λa=>decide (a.g=g):Nat)
 |[],s,g=>by simp
 |a::W,s,g=>by
  rw[dM,Lm W,fI]
  by_cases hg:g=a.g
  ·subst hg;simp[yU];omega
  ·have:decide (a.g=g)=false:=by simp;exactλz=>hg z.symm
   simp[yU,hg,this]
theorem Ln (p:List Nat)(x:Nat):ck p++[D.int (x:Int)]=ck (p++[x]):=by simp[ck]
theorem Vl {many:Nat}{as:List cJ}{f:Nat->Int}{p:List Nat}{here d:Nat}{x4:Option D}(hm:many<=1000)(hW:∀a∈W0 as,a.s<many/\a.g<many)(h:Kahn.Wh (W0 as) many f p d)(hh:p[d]?=some here) :
  ∃x,fy (gV 4) wa ((W0 as).map bP) [some (.int (many:Int)),some (.lst (as.map bP)),some (.lst ((W0 as).map bP)),some (.lst (jT many f)),x4,some (.lst (ck p)),some (.int (d:Int)),some (.int (here:Int))] =
   some (.nx [some (.int (many:Int)),some (.lst (as.map bP)),some (.lst ((W0 as).map bP)),some (.lst (jT many ((W0 as).foldl (Kahn.stp here) (f,p)).1)),x,some (.lst (ck ((W0 as).foldl (Kahn.stp here) (f,p)).2)),some (.int (d:Int)),some (.int (here:Int))]):=by
 have hd:d<p.length:=(aQ.mp hh).1
 have hP:here∉p.take d:=λz=>by
  obtain⟨i,hi,e⟩:=bR.mp z
  have lI:i<d:=by rw[cZ]at hi;omega
  rw[o6]at e
  have e2:p[d]=here:=(aQ.mp hh).2
  have:=(gO (xs:=p) (h₀:=by omega) (h₁:=hd) h.ok.nd).mp (e.trans e2.symm)
  omega
 obtain⟨ρ',h1,x,pre,e1,e2⟩:=ui (g:=gV 4) (b:=wa) (ds:=(W0 as).map bP) (ρ:=[some (.int (many:Int)),some (.lst (as.map bP)),some (.lst ((W0 as).map bP)),some (.lst (jT many f)),x4,some (.lst (ck p)),some (.int (d:Int)),some (.int (here:Int))])
  (λds ρ=>∃x pre,ds=pre.map bP/\(∃post,W0 as=pre++post)/\Kahn.In (W0 as) many (p.take d) here pre (pre.foldl (Kahn.stp here) (f,p))/\ρ=[some (.int (many:Int)),some (.lst (as.map bP)),some (.lst ((W0 as).map bP)),some (.lst (jT many (pre.foldl (Kahn.stp here) (f,p)).1)),x,some (.lst (ck (pre.foldl (Kahn.stp here) (f,p)).2)),some (.int (d:Int)),some (.int (here:Int))])
  ⟨x4,[],rfl,⟨_,rfl⟩,⟨h.ok,λg=>by show f g=_;rw[h.fe];simp,h.z,λx hx=>by
   rcases hx with hx|rfl
   ·exact ez hx
   ·exact bV.mpr ⟨d,hh⟩⟩,rfl⟩ (by
  rintro ds dd post ρ e ⟨x,pre,rfl,⟨eP,e'⟩,I,rfl⟩
  rw[e',dN]at e
  have e3:=mH e
  cases eP with
  |nil=>cases e3
  |cons a eP=>
   rw[bG]at e3
   cases e3
   have ha:a∈W0 as:=by rw[e'];simp
   have hl:=Kahn.len_le I.ok.nd I.ok.lt
   have I2:=I.step e' hP (hW a ha).2
   refine⟨_,_,rfl,.inl ?_,some (bP a),pre++[a],by simp,⟨eP,by rw[e'];simp⟩,by rw[jU];exact I2,rfl⟩
   rw[jU]
   generalize pre.foldl (Kahn.stp here) (f,p)=S at hl
   show wa _=some (.nx [_,_,_,some (.lst (jT many (Kahn.stp here S a).1)),_,some (.lst (ck (Kahn.stp here S a).2)),_,_])
   have f1:=fs a
   have f2:=fg a
   have eF:(ck S.2).length<16777216:=by simp[ck];omega
   unfold wa
   by_cases hs:a.s=here
   ·have sV:((a.s:Nat):Int)=(here:Int):=by rw[hs]
    have au:=Ml (i:=3) (fj:=e1 (cP [0,1,2,3] "goal") (eV 4)) (f:=eC (.int 1)) (gi:=λi j=>i-j) (ρ:=[some (.int (many:Int)),some (.lst (as.map bP)),some (.lst ((W0 as).map bP)),some (.lst (jT many S.1)),some (bP a),some (.lst (ck S.2)),some (.int (d:Int)),some (.int (here:Int))]) (n:=many) (g:=a.g) (w:=S.1) (y:=1) rfl (by walk_at "mir") rfl (hW a ha).2
    have va:dW (.lst (jT many λx=>if x=a.g then S.1 a.g-1 else S.1 x)) (.int (a.g:Int))=some (.int (S.1 a.g-1)):=by
     have:=HU (λx=>if x=a.g then S.1 a.g-1 else S.1 x) (hW a ha).2
     rw[if_pos rfl]at this
     exact this
    by_cases h0:S.1 a.g-1=0
    ·have es:Kahn.stp here S a=(λx=>if x=a.g then S.1 a.g-1 else S.1 x,S.2++[a.g]):=by unfold Kahn.stp;simp[hs,h0]
     rw[es,←Ln]
     rw[h0]at va
     clear I I2 e' es
     walk_at "mir"
    ·have es:Kahn.stp here S a=(λx=>if x=a.g then S.1 a.g-1 else S.1 x,S.2):=by unfold Kahn.stp;simp[hs,h0]
     rw[es]
     clear I I2 e' es
     walk_at "mir"
   ·have es:Kahn.stp here S a=S:=by unfold Kahn.stp;rw[if_neg hs]
    rw[es]
    have sV:¬((a.s:Nat):Int)=(here:Int):=by omega
    clear I I2 e' es
    walk_at "mir")
 obtain⟨⟨post,e2⟩,I,rfl⟩:=e2
 have:pre=W0 as:=by
  have:=congrArg fM e1
  rw[aF,aF]at this
  rw[e2,bn]at this
  have hp:post=[]:=kM (by omega)
  rw[e2,hp,bQ]
 rw[this]at h1
 exact⟨x,h1⟩
theorem TB {many:Nat}(as:List cJ)(l:as.length<=1000)(hm:many<=1000)(hs:∀a∈as,a.s<many/\a.g<many) :
  ∃(f:Nat->Int) (p:List Nat),wb [.int (many:Int),.lst (as.map bP)]=some (.lst (ck p))/\Kahn.Wh (W0 as) many f p p.length:=by
 have hW:∀a∈W0 as,a.s<many/\a.g<many:=λa ha=>hs a (bB.mp ha).1
 obtain⟨c1,_⟩:=Hf (g:=gV 4) (b:=vf) bP (λs:(Nat->Int)×Option D=>[some (.int (many:Int)),some (.lst (as.map bP)),some (.lst ((W0 as).map bP)),some (.lst (jT many s.1)),s.2,none,none,none])
  yU (λ_=>True) (W0 as) (λ_=>0,none) trivial (λs a ha _=>by
   refine⟨_,rfl,.inl ?_,trivial⟩
   unfold vf
   have f2:=fg a
   rw[Ml (n:=many) (g:=a.g) (w:=s.1) (y:=1) rfl (by walk_at "mir") rfl (hW a ha).2]
   rfl)
 have c2:=Lm (W0 as) (λ_=>0,none)
 generalize Oa:(W0 as).foldl yU (λ_=>0,none)=S0 at c1 c2
 obtain⟨f0,y4⟩:=S0
 dsimp only at c1 c2
 have Gg:∀r:L3.Env,r[0]?.join=some (.int (many:Int))->r[3]?.join=some (.lst (jT many f0))->uz r=some (.lst (ck ((aE many).filter λg=>decide (f0 g=0)))):=by
  intro r h0 h3
  refine D1 (λ(t:Nat)=>D.int (t:Int)) (λg=>decide (f0 g=0)) (λ(t:Nat)=>D.int (t:Int)) (aE many) (qp h0 (by omega)) (by rw[bW];omega) ?_
  ·intro g hg
   refine⟨_,rfl,?_,λ_=>rfl⟩
   have hg:g<many:=bw.mp hg
   have hv:dW (.lst (jT many f0)) (.int (g:Int))=some (.int (f0 g)):=HU f0 hg
   have hc:gj r [3]=[some (.lst (jT many f0))]:=by unfold gj;simp[h3]
   rw[hc]
   walk_at "mir"
 generalize hq:((aE many).filter λg=>decide (f0 g=0))=p0 at Gg
 have w0:Kahn.Wh (W0 as) many f0 p0 0:=by
  have hf:∀g,f0 g=Kahn.cnt (W0 as) [] g:=λg=>by
   rw[c2 g]
   unfold Kahn.cnt
   simp
  refine⟨⟨by rw[←hq];exact gR.filter _,λx hx=>by rw[←hq,bB,bw]at hx;exact hx.1,λi x hx a ha e=>?_⟩,by omega,hf,λg hg=>by rw[←hq,bB,bw];simp[hg]⟩
  have Dp:x∈p0:=bV.mpr ⟨i,hx⟩
  rw[←hq,bB]at Dp
  have h0:f0 x=0:=by simpa using Dp.2
  rw[hf]at h0
  have:=Kahn.cnt_zero.mp (by exact_mod_cast h0) a ha e
  cases this
 obtain⟨ρ',h1,⟨f,p,d,x4,x7,rfl,wh⟩,h3⟩:=Ky (c:=tb (e2 qB (eV 6) (eN eG (aCons (eV 5) aNil)))) (b:=ve)
  (λρ=>∃f p d x4 x7,ρ=[some (.int (many:Int)),some (.lst (as.map bP)),some (.lst ((W0 as).map bP)),some (.lst (jT many f)),x4,some (.lst (ck p)),some (.int ((d:Nat):Int)),x7]/\Kahn.Wh (W0 as) many f p d)
  (λρ:L3.Env=>match ρ[6]? with|some (some (D.int i))=>(1001-i).toNat|_=>0) (by
   rintro ρ ⟨f,p,d,x4,x7,rfl,wh⟩
   have hl:(ck p).length=p.length:=by simp[ck]
   refine⟨decide ((d:Int)<(p.length:Int)),by walk_at "mir",λht=>?_⟩
   have hd:d<p.length:=by simpa using ht
   have hh:p[d]?=some p[d]:=by simp[hd]
   obtain⟨x,Xm⟩:=Vl (x4:=x4) hm hW wh hh
   obtain⟨Cw,q,_⟩:=wh.step (λa ha=>(hW a ha).2) hh
   have mL:=Kahn.len_le Cw.ok.nd Cw.ok.lt
   have AC:=Cw.dl
   refine⟨_,.inl ?_,⟨_,_,d+1,x,some (.int (p[d]:Int)),rfl,Cw⟩,?_⟩
   ·have Ov:dW (.lst (ck p)) (.int (d:Int))=some (.int (p[d]:Int)):=u6 (by simp[ck,hd])
    have Xi:i2 (λi j=>D.int (i+j)) (.int (d:Int)) (.int 1)=some (.int ((d+1:Nat):Int)):=by simp[i2]
    unfold ve vV
    clear wh Cw mL AC
    walk_at "mir"
   ·show(1001-((d+1:Nat):Int)).toNat<(1001-(d:Int)).toNat
    omega) nO [some (.int (many:Int)),some (.lst (as.map bP)),some (.lst ((W0 as).map bP)),some (.lst (jT many f0)),y4,some (.lst (ck p0)),some (.int ((0:Nat):Int)),none] ⟨f0,p0,0,y4,none,rfl,w0⟩ (by
   show(1001-((0:Nat):Int)).toNat<nO
   have:(1001:Nat)<nO:=Va (by decide)
   omega)
 have hd:d=p.length:=by
  have hl:(ck p).length=p.length:=by simp[ck]
  have h4:(tb (e2 qB (eV 6) (eN eG (aCons (eV 5) aNil)))) [some (.int (many:Int)),some (.lst (as.map bP)),some (.lst ((W0 as).map bP)),some (.lst (jT many f)),x4,some (.lst (ck p)),some (.int (d:Int)),x7]=some (decide ((d:Int)<(p.length:Int))):=by walk_at "mir"
  rw[h4]at h3
  have:=wh.dl
  simp at h3
  omega
 subst hd
 refine⟨f,p,?_,wh⟩
 have r1:=Rv as (by omega)
 have rp:jP (.lst [.int 0]) (.int (many:Int))=some (.lst (jT many λ_=>0)):=by
  unfold jP
  dsimp only
  rw[if_pos ⟨by omega,by omega,by simp⟩]
  congr 2
  unfold jT
  rw[iy,bW]
  simp
 rw[show(((0:Nat):Int))=0 from rfl]at h1
 unfold wb n9
 clear hs hW c2 Oa hq w0 wh h3 l hm
 walk_at "mir"
def aU (ns:List D)(as:List cJ):D:=.obj 4 ["names","arrows"] [.lst ns,.lst (as.map bP)]
structure dJ (many:Nat)(as:List cJ):Prop where
 pos:1<=many
 le:many<=40
 len:as.length<=120
 right:∀a∈as,Right many a
 rank:∃rank:Nat->Nat,∀a∈as,a.b=0->rank a.s<rank a.g
theorem dJ.placed {many:Nat}{as:List cJ}(h:dJ many as):∃p:List Nat,wb [.int (many:Int),.lst (as.map bP)]=some (.lst (ck p))/\Kahn.Ok (W0 as) many p/\p.length=many/\∀g,g<many->g∈p:=by
 obtain⟨f,p,h1,h2⟩:=TB (many:=many) as (by have:=h.len;omega) (by have:=h.le;omega) (λa ha=>⟨(h.right a ha).s,(h.right a ha).g⟩)
 obtain⟨rank,hr⟩:=h.rank
 have all:=h2.all rank (λa ha=>by
  have:=bB.mp ha
  exact hr a this.1 (by simpa using this.2)) (λa ha=>(h.right a (bB.mp ha).1).s)
 exact⟨p,h1,h2.ok,Kahn.len_of h2.ok.nd h2.ok.lt all,all⟩
theorem WA {many:Nat}{as:List cJ}{ns:List D}(h:dJ many as)(hn:ns.length=many)(Xo:jf [.lst ns]=some (.bl true)):uk 4 [.lst ns,.lst (as.map bP)]=some (aU ns as):=by
 obtain⟨p,hp,_,hl,_⟩:=h.placed
 have eF:=h.len
 obtain⟨ρ',h1,x3,x4,rfl⟩:=ui (g:=gT (gsCons (gV 3) (gsCons (gV 4) gsNil))) (b:=ur) (ds:=et 0 (as.map bP)) (ρ:=[some (.obj 4 [] []),some (.lst ns),some (.lst (as.map bP)),none,none,none])
  (λ_ ρ=>∃x3 x4,ρ=[some (.obj 4 [] []),some (.lst ns),some (.lst (as.map bP)),x3,x4,none]) ⟨none,none,rfl⟩ (by
   rintro pre d post ρ e ⟨x3,x4,rfl⟩
   obtain⟨x,hx,rfl⟩:=DM (xF e)
   rw[aW]at hx
   obtain⟨a,ha,rfl⟩:=cw.mp hx
   have hr:=Vk (h.right a (bV.mpr ⟨_,ha⟩))
   refine⟨_,_,rfl,.inl ?_,some (.int (0+pre.length:Nat)),some (bP a),rfl⟩
   unfold ur
   rw[←hn]at hr
   clear hp hl hn eF h
   walk_at "mir")
 have hz:(ck p).length=many:=by simp[ck,hl]
 have Xl:¬((as.length:Int) > 120):=by omega
 rw[←hn]at hp hz
 have l1:∀ds:List D,jO [.lst ds]=some (.lst ds):=λ_=>rfl
 have s1:jQ [4] "names" (eN jO (aCons (eV 1) aNil)) [some (D.obj 4 [] []),some (.lst ns),some (.lst (as.map bP)),x3,x4,some (.lst (ck p))]=some (.nx [some (D.obj 4 ["names"] [.lst ns]),some (.lst ns),some (.lst (as.map bP)),x3,x4,some (.lst (ck p))]):=rfl
 have s2:jQ [4] "arrows" (eN jO (aCons (eV 2) aNil)) [some (D.obj 4 ["names"] [.lst ns]),some (.lst ns),some (.lst (as.map bP)),x3,x4,some (.lst (ck p))]=some (.nx [some (aU ns as),some (.lst ns),some (.lst (as.map bP)),x3,x4,some (.lst (ck p))]):=rfl
 clear h eF hl hn
 unfold uk vI
 walk_at "mir"
abbrev T:=Option Int
def lt (m:Int):T->T
 |none=>none
 |some i=>some (i+m)
def mx:T->T->T
 |none,b=>b
 |a,none=>a
 |some i,some j=>some (if j > i then j else i)
theorem L5 (o:T)(m:Int):CG [cy o,.int m]=some (cy (lt m o)):=by
 unfold CG
 cases o<;>simp only[cy,lt]<;>walk_at "mir"
theorem DV (a b:T):jg [cy a,cy b]=some (cy (mx a b)):=by
 unfold jg
 cases a<;>cases b<;>simp only[cy,mx]<;>walk_at "mir"
theorem Vm (a b:T):mx a b=mx b a:=by cases a<;>cases b<;>simp only[mx];congr 1;omega
theorem Lf {κ:Type}(h:κ×D->D):∀(ks:List κ) (ds:List D),ks.zip ((ks.zip ds).map h)=(ks.zip ds).map λp=>(p.1,h p)
 |[],_=>rfl
 |_::_,[]=>rfl
 |k::ks,d::ds=>by
  show(k,h (k,d))::ks.zip ((ks.zip ds).map h)=(k,h (k,d))::(ks.zip ds).map _
  rw[Lf h ks ds]
theorem Lo {κ:Type}[DecidableEq κ]{ks:List κ}{ds:List D}(hl:ks.length=ds.length)(k k':κ)(d:D):gu (ed ks ds k d).1 (ed ks ds k d).2 k'=if k'=k then some d else gu ks ds k':=by
 unfold ed
 by_cases hc:ks.contains k=true
 ·rw[if_pos hc]
  unfold gu
  dsimp only
  rw[Lf,List.find?_map]
  by_cases hk:k'=k
  ·subst hk
   rw[if_pos rfl]
   have hm:k'∈ks:=by simpa using hc
   have:∃p∈ks.zip ds,p.1=k':=by
    obtain⟨i,hi,e⟩:=bR.mp hm
    refine⟨(ks[i],ds[i]),?_,e⟩
    rw[bR]
    exact⟨i,by rw[d7];omega,by simp⟩
   obtain⟨p,hp,he⟩:=this
   cases hf:(ks.zip ds).find? ((λp:κ×D=>decide (p.1=k')) ∘ λp:κ×D=>(p.1,if p.1=k' then d else p.2))with
   |none=>
    rw[jJ]at hf
    have:=hf p hp
    simp[he]at this
   |some q=>
    have hq:=iz hf
    simp at hq
    simp[hq]
  ·rw[if_neg hk]
   have:((λp:κ×D=>decide (p.1=k')) ∘ λp:κ×D=>(p.1,if p.1=k then d else p.2))=λp:κ×D=>decide (p.1=k'):=rfl
   rw[this]
   cases hf:(ks.zip ds).find? λp=>decide (p.1=k')with
   |none=>rfl
   |some q=>
    have hq:=iz hf
    simp at hq
    have jY:¬q.1=k:=λz=>hk (hq▸z)
    simp[jY]
 ·rw[if_neg hc]
  unfold gu
  dsimp only
  have hz:(ks++[k]).zip (ds++[d])=ks.zip ds++[(k,d)]:=by
   rw[qR hl];rfl
  rw[hz,List.find?_append]
  by_cases hk:k'=k
  ·subst hk
   rw[if_pos rfl]
   have hn:(ks.zip ds).find? (λp=>decide (p.1=k'))=none:=by
    rw[jJ]
    intro p hp
    have hm:=(eO (a:=p.1) (b:=p.2) hp).1
    have wV:¬k'∈ks:=by simpa using hc
    simp
    intro z
    exact wV (z▸hm)
   rw[hn]
   simp
  ·rw[if_neg hk]
   have:¬k=k':=λz=>hk z.symm
   cases hf:(ks.zip ds).find? (λp=>decide (p.1=k'))<;>simp[this]
theorem L6 {κ:Type}[DecidableEq κ]{ks:List κ}{ds:List D}(hl:ks.length=ds.length)(k:κ)(d:D):(ed ks ds k d).1.length=(ed ks ds k d).2.length/\(ed ks ds k d).1.length<=ks.length+1:=by
 unfold ed
 by_cases hc:ks.contains k=true
 ·rw[if_pos hc];simp;omega
 ·rw[if_neg hc];simp[hl]
abbrev Fl:=Nat×Nat×Int
def iU (q:Fl):D:=.tup [.int (q.1:Int),.int (q.2.1:Int),.int q.2.2]
def fl (fs:List Fl)(g r:Nat):T:=(fs.filter λq=>decide (q.1=g/\q.2.1=r)).foldl (λw q=>mx w (some q.2.2)) none
structure i8 (d:D)(n:Nat)(f:Nat->Nat->T):Prop where
 is:∃ks ds,d=.dT ks ds/\ks.length=ds.length/\ks.length<=n/\∀g r:Nat,gu ks ds [.inl (g:Int),.inl (r:Int)]=(f g r).map D.int
theorem i8.get {d:D}{n:Nat}{f:Nat->Nat->T}(h:i8 d n f)(g r:Nat):((ig d (.tup [.int (g:Int),.int (r:Int)])).bind λr=>some (r.getD .non))=some (cy (f g r)):=by
 obtain⟨ks,ds,rfl,h1,h2,h3⟩:=h.is
 show some ((gu ks ds [.inl (g:Int),.inl (r:Int)]).getD .non)=_
 rw[h3]
 cases f g r<;>rfl
theorem ML (a:T)(t:Int):some (cy (mx a (some t)))=(mx a (some t)).map D.int:=by cases a<;>rfl
theorem MM (fs:List Fl)(hl:fs.length<=1000):∃d,yx [.lst (fs.map iU)]=some d/\i8 d 1000 (fl fs):=by
 obtain⟨ρ',h1,d,x2,x3,x4,pre,e1,rfl,hd⟩:=ui (g:=gT (gsCons (gV 2) (gsCons (gV 3) (gsCons (gV 4) gsNil)))) (b:=vg) (ds:=fs.map iU) (ρ:=[some (.lst (fs.map iU)),some (.dT [] []),none,none,none])
  (λds ρ=>∃d x2 x3 x4,∃pre:List Fl,ds=pre.map iU/\ρ=[some (.lst (fs.map iU)),some d,x2,x3,x4]/\i8 d pre.length (fl pre))
  ⟨_,none,none,none,[],rfl,rfl,⟨[],[],rfl,rfl,by simp,λ_ _=>rfl⟩⟩ (by
   rintro ds dd post ρ e ⟨d,x2,x3,x4,pre,rfl,rfl,hd⟩
   obtain⟨q,hq,rfl⟩:∃q,fs[pre.length]?=some q/\iU q=dd:=by
    have:=xF e
    rw[aW,aF]at this
    exact cw.mp this
   have eF:pre.length<fs.length:=(aQ.mp hq).1
   obtain⟨g,r,t⟩:=q
   have hg:=hd.get g r
   obtain⟨ks,ds,rfl,k1,k2,k3⟩:=hd.is
   have hm:=DV (fl pre g r) (some t)
   have lz:ks.length<16777216:=by omega
   refine⟨_,_,rfl,.inl ?_,.dT (ed ks ds [.inl (g:Int),.inl (r:Int)] (cy (mx (fl pre g r) (some t)))).1 (ed ks ds [.inl (g:Int),.inl (r:Int)] (cy (mx (fl pre g r) (some t)))).2,some (.int (g:Int)),some (.int (r:Int)),some (.int t),pre++[(g,r,t)],by simp,rfl,?_⟩
   ·have hk:lc [.int (g:Int),.int (r:Int)]=some [.inl (g:Int),.inl (r:Int)]:=rfl
    have he:cy (some t)=.int t:=rfl
    rw[he]at hm
    unfold vg lX
    generalize cy (fl pre g r)=z at hg hm
    clear k1 k2 k3 e hq hd
    walk_at "mir"
   ·obtain⟨p1,p2⟩:=L6 k1 [.inl (g:Int),.inl (r:Int)] (cy (mx (fl pre g r) (some t)))
    refine⟨_,_,rfl,p1,by rw[bn,fE];omega,λg' r'=>?_⟩
    rw[Lo k1]
    have hf:fl (pre++[(g,r,t)]) g' r'=if g=g'/\r=r' then mx (fl pre g' r') (some t)else fl pre g' r':=by
     unfold fl
     rw[List.filter_append,jU]
     by_cases hc:g=g'/\r=r'
     ·rw[if_pos hc];simp[hc]
     ·rw[if_neg hc]
      have:([(g,r,t)]:List Fl).filter (λq=>decide (q.1=g'/\q.2.1=r'))=[]:=by
       rw[List.filter_eq_nil_iff]
       intro q hq
       rw[aH]at hq
       subst hq
       simpa using hc
      rw[this];rfl
    rw[hf]
    by_cases hc:g=g'/\r=r'
    ·obtain⟨rfl,rfl⟩:=hc
     rw[if_pos rfl,if_pos ⟨rfl,rfl⟩,ML]
    ·rw[if_neg hc,if_neg ?_]
     ·exact k3 g' r'
     ·intro z
      simp at z
      exact hc ⟨by omega,by omega⟩)
 have:pre=fs:=by
  have hi:∀(a b:List Fl),a.map iU=b.map iU->a=b:=by
   intro a
   induction a with
   |nil=>intro b h;cases b with|nil=>rfl|cons _ _=>cases h
   |cons x a ih=>
    intro b h
    cases b with
    |nil=>cases h
    |cons y b=>
     simp only[bG,List.cons.injEq]at h
     obtain⟨h1,h2⟩:=h
     rw[ih b h2]
     obtain⟨x1,x2,x3⟩:=x
     obtain⟨y1,y2,y3⟩:=y
     simp[iU]at h1
     obtain⟨e1,e2,e3⟩:=h1
     have e1:x1=y1:=by omega
     have e2:x2=y2:=by omega
     rw[e1,e2,e3]
  exact(hi _ _ e1).symm
 subst this
 refine⟨d,?_,?_⟩
 ·unfold yx
  walk_at "mir"
 ·obtain⟨ks,ds,a,b,c,f⟩:=hd.is
  exact⟨ks,ds,a,b,by omega,f⟩
def bY (n:Nat)(f:Nat->T):List D:=(aE n).map λg=>cy (f g)
def bt (n m:Nat)(Y:Nat->Nat->T):List D:=(aE m).map λi=>D.lst (bY n (Y i))
theorem TC (n:Nat)(f:Nat->T):(bY n f).length=n:=by simp[bY]
theorem Hl (n m:Nat)(Y:Nat->Nat->T):(bt n m Y).length=m:=by simp[bt]
theorem Ea {n:Nat}(f:Nat->T){g:Nat}(h:g<n):atI (bY n f) (g:Int)=some (cy (f g)):=u6 (by simp[bY,h])
theorem vi {n:Nat}{f f':Nat->T}(h:∀g,g<n->f g=f' g):bY n f=bY n f':=by
 unfold bY
 apply cR
 intro g hg
 rw[h g (bw.mp hg)]
theorem KH {n m:Nat}{Y Y':Nat->Nat->T}(h:∀i,i<m->∀g,g<n->Y i g=Y' i g):bt n m Y=bt n m Y':=by
 unfold bt
 apply cR
 intro i hi
 rw[vi (h i (bw.mp hi))]
theorem DW {n:Nat}(f:Nat->T){g:Nat}(h:g<n)(v:T):ik (bY n f) (g:Int) (cy v)=some (bY n λx=>if x=g then v else f x):=by
 unfold ik
 have hx:ixN (bY n f).length (g:Int)=some g:=by rw[TC];exact Vj h
 rw[hx]
 simp only[bK,Option.some.injEq]
 apply fJ
 ·simp[bY]
 ·intro i h1 h2
  simp[bY,kF]
  by_cases hi:g=i
  ·subst hi;simp
  ·rw[if_neg hi,if_neg (λz=>hi z.symm)]
def dep (as:List cJ):Nat:=as.foldl (λm a=>max m a.b) 1
theorem DX:∀(as:List cJ) (m:Nat),m<=as.foldl (λm a=>max m a.b) m/\(∀a∈as,a.b<=as.foldl (λm a=>max m a.b) m)/\((∀a∈as,a.b<=4)->m<=4->as.foldl (λm a=>max m a.b) m<=4)
 |[],m=>⟨av _,λa h=>(by cases h),λ_ h=>h⟩
 |x::as,m=>by
  obtain⟨h1,h2,h3⟩:=DX as (max m x.b)
  refine⟨by show m<=as.foldl _ (max m x.b);omega,λa ha=>?_,λh4 hm=>h3 (λa ha=>h4 a (ap _ ha)) (by have:=h4 x am;omega)⟩
  show a.b<=as.foldl _ (max m x.b)
  rcases aA.mp ha with rfl|ha
  ·omega
  ·exact h2 a ha
theorem Vn (as:List cJ):1<=dep as:=(DX as 1).1
theorem HN {as:List cJ}{a:cJ}(h:a∈as):a.b<=dep as:=(DX as 1).2.1 a h
theorem xH {as:List cJ}(h:∀a∈as,a.b<=4):dep as<=4:=(DX as 1).2.2 h (by decide)
theorem Lp {α:Type}(f:α->Int):∀xs:List α,fS (xs.map λx=>D.int (f x))=some (xs.map f)
 |[]=>rfl
 |x::xs=>by
  show(fS (xs.map λx=>D.int (f x))).bind _=_
  rw[Lp f xs];rfl
theorem L7:∀(as:List cJ) (m:Nat),(as.map λa=>(a.b:Int)).foldl max (m:Int)=((as.foldl (λm a=>max m a.b) m:Nat):Int)
 |[],m=>rfl
 |x::as,m=>by
  show(as.map λa=>(a.b:Int)).foldl max (max (m:Int) (x.b:Int))=_
  rw[show max (m:Int) (x.b:Int)=((max m x.b:Nat):Int)by omega,L7 as]
  rfl
theorem qf (ns:List D)(as:List cJ):cP [4] "names" (aU ns as)=some (.lst ns):=rfl
theorem DQ (ns:List D)(as:List cJ):cP [4] "arrows" (aU ns as)=some (.lst (as.map bP)):=rfl
theorem V8 {ns:List D}{as:List cJ}(hl:as.length<=1000):xm [aU ns as]=some (.int (dep as:Int)):=by
 have q:∀r:L3.Env,r[0]?.join=some (aU ns as)->v8 r=some (.lst (as.map λa=>D.int (a.b:Int))):=λr hr=>by
  have e:lsD (e1 (cP [4] "arrows") (eV 0)) r=some (as.map bP):=by
   have:eV 0 r=some (aU ns as):=hr
   unfold lsD e1
   rw[this];rfl
  exact wp bP (λa=>D.int (a.b:Int)) as e (by omega) λa _=>⟨_,rfl,by have:=fb a;walk_at "mir"⟩
 have m1:rO [.lst ([.int 1]++as.map λa=>D.int (a.b:Int))]=some (.int (dep as:Int)):=by
  unfold rO
  dsimp only
  have:fS ([.int 1]++as.map λa=>D.int (a.b:Int))=some (1::as.map λa=>(a.b:Int)):=by
   show(fS (as.map λa=>D.int (a.b:Int))).bind _=_
   rw[Lp];rfl
  rw[this]
  show some (D.int ((as.map λa=>(a.b:Int)).foldl max ((1:Nat):Int)))=_
  rw[L7];rfl
 have m2:dB (.lst [.int 1]) (.lst (as.map λa=>D.int (a.b:Int)))=some (.lst ([.int 1]++as.map λa=>D.int (a.b:Int))):=TX (by simp;omega)
 generalize [D.int 1]++as.map (λa=>D.int (a.b:Int))=zs at m1 m2
 unfold xm
 clear hl
 walk_at "mir"
theorem HH {m:aR}{f:List D->Option D}{ns:List D}{as:List cJ}{ds:List D}(h:(["names","arrows"]:List aR).contains m=false):ka 4 m f (aU ns as) ds=f (aU ns as::ds):=by
 show(if 4=4/\(["names","arrows"]:List aR).contains m=false then f (aU ns as::ds)else none)=_
 rw[if_pos ⟨rfl,h⟩]
theorem Hy {ns:List D}{as:List cJ}(hl:as.length<=1000):ka 4 "most_behind" xm (aU ns as) []=some (.int (dep as:Int)):=by
 rw[HH (by decide +kernel)]
 exact V8 hl
def into (as:List cJ)(g:Nat):List Nat:=(as.zipIdx.filter λp=>decide (p.1.g=g)).map (·.2)
theorem V9 {ns:List D}{as:List cJ}(hl:as.length<=1000)(g:Nat):u4 [aU ns as,.int (g:Int)]=some (.lst (ck (into as g))):=by
 have q:∀r:L3.Env,r[0]?.join=some (aU ns as)->r[1]?.join=some (.int (g:Int))->jv r=some (.lst (ck (into as g))):=λr hr Dl=>by
  have e:(λρ=>((aCons (e1 (cP [4] "arrows") (eV 0)) aNil) ρ).bind λds=>match ds with|[.lst xs]=>some (et 0 xs)|_=>none) r=some (as.zipIdx.map λp=>D.tup [.int (p.2:Int),bP p.1]):=by
   have:eV 0 r=some (aU ns as):=hr
   have e2:e1 (cP [4] "arrows") (eV 0) r=some (.lst (as.map bP)):=by unfold e1;rw[this];rfl
   show((aCons (e1 (cP [4] "arrows") (eV 0)) aNil) r).bind _=_
   unfold aCons
   rw[e2]
   show some (et 0 (as.map bP))=_
   rw[Hm bP]
  have hc:gj r [1]=[some (.int (g:Int))]:=by unfold gj;simp[Dl]
  have:=D1 (own:=2) (cap:=[1]) (fi:=λρ=>((aCons (e1 (cP [4] "arrows") (eV 0)) aNil) ρ).bind λds=>match ds with|[.lst xs]=>some (et 0 xs)|_=>none) (g:=gT (gsCons (gV 0) (gsCons (gV 1) gsNil))) (p:=tb (e2 (iH false) (e1 (cP [0,1,2,3] "goal") (eV 1)) (eV 2))) (f:=eV 0) (λp:cJ×Nat=>D.tup [.int (p.2:Int),bP p.1]) (λp=>decide (p.1.g=g)) (λp=>D.int (p.2:Int)) as.zipIdx e (by simp;omega) (λp _=>by
    refine⟨_,rfl,?_,λ_=>rfl⟩
    rw[hc]
    have:=fg p.1
    have hd:decide ((p.1.g:Int)=(g:Int))=decide (p.1.g=g):=by
     by_cases h:p.1.g=g
     ·simp[h]
     ·have:¬(p.1.g:Int)=(g:Int):=by omega
      simp[h,this]
    rw[←hd]
    walk_at "mir")
  rw[show jv r=_ from this]
  unfold into ck
  rw[df]
  rfl
 unfold u4
 clear hl
 walk_at "mir"
def tm (as:List cJ)(Y:Nat->Nat->T)(L g:Nat)(w:T):T:=(as.filter λa=>decide (a.g=g)).foldl (λw a=>mx w (lt a.t (Y (L-a.b) a.s))) w
theorem TD {xs:List D}{n b:Nat}(hn:xs.length=n+1)(hb:b<=n):atI xs (-1-(b:Int))=xs[n-b]?:=by
 unfold atI
 have:ixN xs.length (-1-(b:Int))=some (n-b):=by
  unfold ixN
  rw[if_neg (by omega),if_pos (by omega)]
  congr 1
  omega
 rw[this];rfl
def DJ (Y:Nat->Nat->T)(L:Nat)(s:T×Option D×Option D)(p:cJ×Nat):T×Option D×Option D:=(mx s.1 (lt p.1.t (Y (L-p.1.b) p.1.s)),some (D.int (p.2:Int)),some (bP p.1))
theorem Wa {ns:List D}{as:List cJ}{many L:Nat}{Y:Nat->Nat->T}(hb:∀a∈as,a.b<=L/\a.s<many)(g:Nat)(w:T) :
  wn [aU ns as,.lst (bt many (L+1) Y),.lst (ck (into as g)),cy w]=some (cy (tm as Y L g w)):=by
 have Dk:∀p∈as.zipIdx.filter (λp=>decide (p.1.g=g)),p∈as.zipIdx:=λp hp=>(bB.mp hp).1
 have hz:=KL (λa:cJ=>decide (a.g=g)) as 0
 have hn:ck (into as g)=(as.zipIdx.filter (λp=>decide (p.1.g=g))).map λp=>D.int (p.2:Int):=by unfold into ck;rw[df];rfl
 generalize hq:as.zipIdx.filter (λp=>decide (p.1.g=g))=ps at Dk hn hz
 obtain⟨e1,_⟩:=Hf (g:=gV 5) (b:=wu) (λp:cJ×Nat=>D.int (p.2:Int)) (λs:T×Option D×Option D=>[some (aU ns as),some (.lst (bt many (L+1) Y)),some (.lst (ck (into as g))),some (cy w),some (cy s.1),s.2.1,s.2.2])
  (DJ Y L) (λ_=>True) ps (w,none,none) trivial (λs p hp _=>by
   refine⟨_,rfl,.inl ?_,trivial⟩
   unfold DJ
   have hp:=V6 (Dk p hp)
   have hm:p.1∈as:=bV.mpr ⟨_,hp⟩
   have f1:=fs p.1
   have f2:=ft p.1
   have f3:=fb p.1
   have f4:=DQ ns as
   have i1:dW (.lst (as.map bP)) (.int (p.2:Int))=some (bP p.1):=u6 (by rw[aW,hp];rfl)
   have i2:dW (.lst (bt many (L+1) Y)) (.int (-1-(p.1.b:Int)))=some (.lst (bY many (Y (L-p.1.b)))):=by
    show atI _ _=_
    rw[TD (n:=L) (by rw[Hl]) (hb p.1 hm).1]
    unfold bt
    rw[aW,cQ (by omega)]
    rfl
   have i3:dW (.lst (bY many (Y (L-p.1.b)))) (.int (p.1.s:Int))=some (cy (Y (L-p.1.b) p.1.s)):=Ea _ (hb p.1 hm).2
   have l1:=L5 (Y (L-p.1.b) p.1.s) p.1.t
   have l2:=DV s.1 (lt p.1.t (Y (L-p.1.b) p.1.s))
   unfold wu
   clear hp hm hb hn hz Dk hq
   walk_at "mir")
 have e2:∀(ps:List (cJ×Nat)) (s:T×Option D×Option D),(ps.foldl (DJ Y L) s).1=(ps.map (·.1)).foldl (λw a=>mx w (lt a.t (Y (L-a.b) a.s))) s.1:=by
  intro ps
  induction ps with
  |nil=>exactλs=>rfl
  |cons p ps ih=>intro s;rw[dM,ih];rfl
 have e3:=e2 ps (w,none,none)
 rw[hz]at e3
 generalize ps.foldl (DJ Y L) (w,none,none)=S at e1 e3
 have e4:S.1=tm as Y L g w:=e3
 rw[e4,←hn]at e1
 unfold wn
 clear hn hz Dk hq e2 e3 e4 hb
 walk_at "mir"
def wr (Y:Nat->Nat->T)(L:Nat)(Z:Nat->T):Nat->Nat->T:=λi g=>if i=L then Z g else Y i g
theorem Lq {as:List cJ}{Y Y':Nat->Nat->T}{L g:Nat}(w:T)(h:∀a∈as,a.g=g->Y (L-a.b) a.s=Y' (L-a.b) a.s):tm as Y L g w=tm as Y' L g w:=by
 unfold tm
 have h2:∀a∈as.filter (λa=>decide (a.g=g)),Y (L-a.b) a.s=Y' (L-a.b) a.s:=λa ha=>by
  have:=bB.mp ha
  exact h a this.1 (by simpa using this.2)
 generalize as.filter (λa=>decide (a.g=g))=bs at h2
 induction bs generalizing w with
 |nil=>rfl
 |cons b bs ih=>
  rw[dM,dM,h2 b am]
  exact ih _ λa ha=>h2 a (ap _ ha)
theorem TH {many L x:Nat}{Y:Nat->Nat->T}(hx:x<many)(v:T):(bt many (L+1) Y).set L (.lst (bY many λy=>if y=x then v else Y L y))=bt many (L+1) (wr Y L λy=>if y=x then v else Y L y):=by
 apply fJ
 ·simp[bt]
 ·intro i h1 h2
  have hi:i<L+1:=by simpa[bt]using h2
  rw[kF]
  by_cases hL:L=i
  ·subst hL
   rw[if_pos rfl]
   simp only[bt,gP,gr]
   congr 1
   exact vi λg _=>by simp[wr]
  ·rw[if_neg hL]
   have:¬i=L:=λz=>hL z.symm
   simp only[bt,gP,gr]
   congr 1
   exact vi λg _=>by simp[wr,this]
theorem WB {ns:List D}{as:List cJ}{many L r depth rounds:Nat}{Y:Nat->Nat->T}{f:Nat->Nat->T}{d:D}{n:Nat}{hJ lH x9 x10:Option D}{p:List Nat}(hd:i8 d n f)(hb:∀a∈as,a.b<=L/\a.s<many)(ok:Kahn.Ok (W0 as) many p)(hn:ns.length=many)(hm:many<=1000)
  (lJ:D) (kZ:∀g,g<many->dW lJ (.int (g:Int))=some (.lst (ck (into as g)))) :
  ∃(Z:Nat->T) (y9 qN:Option D),fy (gV 9) wo (ck p) [some (aU ns as),some (.int (rounds:Int)),hJ,lH,some (.lst (bt many (L+1) Y)),some d,some lJ,some (.lst (ck p)),some (.int (r:Int)),x9,x10] =
   some (.nx [some (aU ns as),some (.int (rounds:Int)),hJ,lH,some (.lst (bt many (L+1) (wr Y L Z))),some d,some lJ,some (.lst (ck p)),some (.int (r:Int)),y9,qN])/\∀g∈p,Z g=tm as (wr Y L Z) L g (f g r):=by
 obtain⟨ρ',h1,pre,Z,y9,qN,e1,⟨post,e2⟩,hZ,rfl⟩:=ui (g:=gV 9) (b:=wo) (ds:=ck p) (ρ:=[some (aU ns as),some (.int (rounds:Int)),hJ,lH,some (.lst (bt many (L+1) Y)),some d,some lJ,some (.lst (ck p)),some (.int (r:Int)),x9,x10])
  (λds ρ=>∃(pre:List Nat) (Z:Nat->T) (y9 qN:Option D),ds=ck pre/\(∃post,p=pre++post)/\(∀g∈pre,Z g=tm as (wr Y L Z) L g (f g r))/\ρ=[some (aU ns as),some (.int (rounds:Int)),hJ,lH,some (.lst (bt many (L+1) (wr Y L Z))),some d,some lJ,some (.lst (ck p)),some (.int (r:Int)),y9,qN])
  ⟨[],Y L,x9,x10,rfl,⟨p,rfl⟩,λg hg=>(by cases hg),by
   have:wr Y L (Y L)=Y:=by
    funext i g
    unfold wr
    by_cases h:i=L
    ·rw[if_pos h,h]
    ·rw[if_neg h]
   rw[this]⟩ (by
  rintro ds dd post ρ e ⟨pre,Z,y9,qN,rfl,⟨eP,e'⟩,hZ,rfl⟩
  have e3:ck eP=dd::post:=by
   have:ck p=ck pre++ck eP:=by rw[e'];simp[ck]
   rw[this]at e
   exact mH e
  cases eP with
  |nil=>cases e3
  |cons x eP=>
   have nW:dd=.int (x:Int):=by
    have:ck (x::eP)=.int (x:Int)::ck eP:=rfl
    rw[this]at e3
    cases e3
    rfl
   subst nW
   have hx:x∈p:=by rw[e'];simp
   have wW:=ok.lt x hx
   have AL:p[pre.length]?=some x:=by rw[e'];simp
   have p5:∀a∈as,a.b=0->a.g=x->a.s∈pre:=λa ha h0 hg=>by
    have:=ok.ord pre.length x AL a (bB.mpr ⟨ha,by simpa using h0⟩) hg
    rw[e',qP]at this
    ·exact this
    ·rfl
   have Dg:x∉pre:=λz=>by
    have:=ok.nd
    rw[e',bo]at this
    exact this.2.2 x z x am rfl
   have pV:∀g∈pre,∀a∈as,a.b=0->a.g=g->a.s≠x:=λg hg a ha h0 kX z=>by
    obtain⟨i,hi,ei⟩:=bR.mp hg
    have OE:p[i]?=some g:=by rw[e',cz hi];simp[hi,ei]
    have:=ok.ord i g OE a (bB.mpr ⟨ha,by simpa using h0⟩) kX
    rw[e',fO (by omega)]at this
    exact Dg (z▸ez this)
   have Ou:=hd.get x r
   have OC:=kZ x wW
   have AR:=Wa (ns:=ns) (Y:=wr Y L Z) hb x (f x r)
   have key:∀g,(∀a∈as,a.g=g->a.b=0->a.s≠x)->∀(v w:T),tm as (wr Y L λy=>if y=x then v else Z y) L g w=tm as (wr Y L Z) L g w:=λg hg v w=>by
    refine Lq w λa ha kX=>?_
    unfold wr
    by_cases hL:L-a.b=L
    ·rw[if_pos hL,if_pos hL]
     dsimp only
     rw[if_neg ?_]
     by_cases h0:a.b=0
     ·exact hg a ha kX h0
     ·have:=(hb a ha).1
      omega
    ·rw[if_neg hL,if_neg hL]
   generalize hv:tm as (wr Y L Z) L x (f x r)=v at AR
   refine⟨_,_,rfl,.inl ?_,pre++[x],λy=>if y=x then v else Z y,some (.int (x:Int)),some (cy (f x r)),(Ln pre x).symm▸rfl,⟨eP,by rw[e'];simp⟩,?_,rfl⟩
   ·have AN:=TH (many:=many) (L:=L) (x:=x) (Y:=wr Y L Z) wW v
    have hY:(wr (wr Y L Z) L λy=>if y=x then v else wr Y L Z L y)=wr Y L λy=>if y=x then v else Z y:=by
     funext i g
     unfold wr
     by_cases h:i=L<;>simp[h]
    have AQ:ik (bY many (wr Y L Z L)) (x:Int) (cy v)=some (bY many λy=>if y=x then v else wr Y L Z L y):=DW _ wW v
    rw[hY]at AN
    have Ov:ixN (bt many (L+1) (wr Y L Z)).length (-1)=some L:=by
     rw[Hl]
     unfold ixN
     rw[if_neg (by omega),if_pos (by omega)]
     congr 1
     omega
    have OG:(bt many (L+1) (wr Y L Z))[L]?=some (.lst (bY many (wr Y L Z L))):=by
     unfold bt
     rw[aW,cQ (by omega)]
     rfl
    unfold wo kc
    clear key pV p5 Dg AL hx hv e e' e3 hZ ok hb hd kZ
    walk_at "mir"
   ·intro g hg
    rcases aM.mp hg with hg|hg
    ·have jY:g≠x:=λz=>Dg (z▸hg)
     dsimp only
     rw[if_neg jY,key g (λa ha kX h0=>pV g hg a ha h0 kX)]
     exact hZ g hg
    ·rw[aH]at hg
     subst hg
     dsimp only
     rw[if_pos rfl,key g (λa ha kX h0 z=>Dg (z▸p5 a ha h0 kX)),hv])
 have mC:pre=p:=by
  have hl:=congrArg fM e1
  simp[ck]at hl
  rw[e2,bn]at hl
  have:post=[]:=kM (by omega)
  rw[e2,this,bQ]
 subst mC
 exact⟨Z,y9,qN,h1,hZ⟩
structure Run (as:List cJ)(many depth rounds:Nat)(past:Nat->Nat->T)(f:Nat->Nat->T)(Y:Nat->Nat->T):Prop where
 past:∀i,i<depth->∀g,g<many->Y i g=past i g
 rc:∀r,r<rounds->∀g,g<many->Y (depth+r) g=tm as Y (depth+r) g (f g r)
theorem SO {many m:Nat}(Y:Nat->Nat->T)(Z:Nat->T):bt many m Y++[D.lst (bY many Z)]=bt many (m+1) (wr Y m Z):=by
 unfold bt
 rw[List.range_succ,dN]
 congr 1
 ·apply cR
  intro i hi
  have:i≠m:=by have:=bw.mp hi;omega
  congr 1
  exact vi λg _=>by simp[wr,this]
 ·simp only[bG,jV]
  congr 2
  exact vi λg _=>by simp[wr]
theorem Lg {ns:List D}{as:List cJ}{many:Nat}(h:dJ many as)(hn:ns.length=many):∃p:List Nat,ka 4 "order" v9 (aU ns as) []=some (.lst (ck p))/\Kahn.Ok (W0 as) many p/\p.length=many/\∀g,g<many->g∈p:=by
 obtain⟨p,h1,h2⟩:=h.placed
 refine⟨p,?_,h2⟩
 rw[HH (by decide +kernel)]
 have f1:=qf ns as
 have f2:=DQ ns as
 rw[←hn]at h1
 unfold v9
 clear hn h h2
 walk_at "mir"
theorem SQ {ns:List D}{as:List cJ}{many:Nat}(hl:as.length<=1000)(hn:ns.length=many)(hm:many<=1000)(r:L3.Env)(hr:r[0]?.join=some (aU ns as)):uo r=some (.lst ((aE many).map λg=>D.lst (ck (into as g)))):=by
 have e:eN eG (aCons (e1 (cP [4] "names") (eV 0)) aNil) r=some (.int (many:Int)):=by
  have:eV 0 r=some (aU ns as):=hr
  have f1:=qf ns as
  subst hn
  have e2:e1 (cP [4] "names") (eV 0) r=some (.lst ns):=by unfold e1;rw[this];exact f1
  unfold eN aCons
  rw[e2];rfl
 refine wp (λ(t:Nat)=>D.int (t:Int)) (λg=>D.lst (ck (into as g))) (aE many) (qp e (by omega)) (by rw[bW];omega) λg _=>⟨_,rfl,?_⟩
 have hc:gj r [0]=[some (aU ns as)]:=by unfold gj;simp[hr]
 rw[hc]
 have h1:=V9 (ns:=ns) hl g
 have h2:ka 4 "into" u4 (aU ns as) [.int (g:Int)]=some (.lst (ck (into as g))):=by rw[HH (by decide +kernel)];exact h1
 clear hn hl hm e
 walk_at "mir"
theorem WE {ns:List D}{as:List cJ}{many rounds:Nat}{d0 hJ lH d:D}{past:Nat->Nat->T}{f:Nat->Nat->T}{n:Nat}(h:dJ many as)(hn:ns.length=many)(hr:rounds<=1000)(ha:wd [aU ns as,hJ]=some (.lst (bt many (dep as) past)))
  (hf:(lH=.non/\yx [.lst []]=some d)\/∃ds,lH=.lst ds/\yx [.lst ds]=some d) (hd:i8 d n f) :
  ∃Y,wz [aU ns as,.int (rounds:Int),hJ,lH]=some (.lst (bt many (dep as+rounds) Y))/\Run as many (dep as) rounds past f Y:=by
 obtain⟨p,hp,ok,iu,pR⟩:=Lg h hn
 have eF:=h.len
 have mL:=h.le
 have nX:=xH λa ha=>(h.right a ha).b
 have lJ:=SQ (ns:=ns) (as:=as) (many:=many) (by omega) hn (by omega)
 have kZ:∀g,g<many->dW (.lst ((aE many).map λg=>D.lst (ck (into as g)))) (.int (g:Int))=some (.lst (ck (into as g))):=λg hg=>u6 (by simp[hg])
 generalize (D.lst ((aE many).map λg=>D.lst (ck (into as g))))=N at lJ kZ
 obtain⟨ρ',h1,Y,y8,y9,qN,rfl,run⟩:=Sh (g:=gV 8) (b:=vd) (lo:=0) (n:=rounds) (ρ:=[some (aU ns as),some (.int (rounds:Int)),some hJ,some lH,some (.lst (bt many (dep as) past)),some d,some N,some (.lst (ck p)),none,none,none])
  (λr ρ=>∃Y y8 y9 qN,ρ=[some (aU ns as),some (.int (rounds:Int)),some hJ,some lH,some (.lst (bt many (dep as+r) Y)),some d,some N,some (.lst (ck p)),y8,y9,qN]/\Run as many (dep as) r past f Y)
  ⟨past,none,none,none,rfl,λ_ _ _ _=>rfl,λr hr=>by omega⟩ (by
   rintro r ρ vG ⟨Y,y8,y9,qN,rfl,run⟩
   obtain⟨Z,z9,z10,hz,hZ⟩:=WB (ns:=ns) (as:=as) (many:=many) (L:=dep as+r) (r:=r) (depth:=0) (rounds:=rounds) (Y:=wr Y (dep as+r) λ_=>none) (hJ:=some hJ) (lH:=some lH) (x9:=y9) (x10:=qN) (p:=p) hd (λa ha=>⟨by have:=HN ha;omega,(h.right a ha).s⟩) ok hn (by omega) N kZ
   have hw:wr (wr Y (dep as+r) λ_=>none) (dep as+r) Z=wr Y (dep as+r) Z:=by
    funext i g
    unfold wr
    by_cases hi:i=dep as+r<;>simp[hi]
   rw[hw]at hz hZ
   refine⟨_,_,rfl,.inl ?_,wr Y (dep as+r) Z,some (.int (r:Int)),z9,z10,rfl,?_,?_⟩
   ·have e0:(0:Int)+(r:Int)=(r:Int):=by omega
    have rp:jP (.lst [.non]) (.int (ns.length:Int))=some (.lst (bY many λ_=>none)):=by
     unfold jP
     dsimp only
     rw[if_pos ⟨by omega,by omega,by simp⟩]
     congr 2
     unfold bY
     rw[iy,bW]
     simp[hn,cy]
    have vB:(bt many (dep as+r) Y).length<16777216:=by rw[Hl];omega
    have Xq:=SO (many:=many) (m:=dep as+r) Y λ_=>none
    have f1:=qf ns as
    rw[e0]
    unfold vd
    clear hZ hw kZ lJ run pR ok hp h hn ha hf hd eF mL nX hr vG
    walk_at "mir"
    rfl
   ·intro i hi g hg
    unfold wr
    rw[if_neg (by omega)]
    exact run.past i hi g hg
   ·intro r2 Gi g hg
    by_cases he:r2=r
    ·subst he
     have:wr Y (dep as+r2) Z (dep as+r2) g=Z g:=by simp[wr]
     rw[this]
     exact hZ g (pR g hg)
    ·have h3:wr Y (dep as+r) Z (dep as+r2) g=Y (dep as+r2) g:=by unfold wr;rw[if_neg (by omega)]
     rw[h3,run.rc r2 (by omega) g hg]
     refine Lq _ λa _ _=>?_
     unfold wr
     rw[if_neg (by omega)])
 refine⟨Y,?_,run⟩
 have r1:iJ [.int (rounds:Int)]=some (lL 0 rounds):=by
  rw[LF (by omega) (by omega)]
  simp
 have JG:=lJ [some (aU ns as),some (.int (rounds:Int)),some hJ,some lH,some (.lst (bt many (dep as) past)),some d,none,none,none,none,none] rfl
 unfold wz
 clear hd lJ kZ run pR ok h hn eF mL nX hr iu
 rcases hf with⟨rfl,hf⟩|⟨ds,rfl,hf⟩
 ·walk_at "mir"
 ·walk_at "mir"
theorem SR {many k n:Nat}(Y:Nat->Nat->T)(h:n<=k):(bt many k Y).take n=bt many n Y:=by
 unfold bt
 rw[←md,List.take_range,fV h]
theorem SS {many k n:Nat}(Y:Nat->Nat->T):(bt many (n+k) Y).drop n=bt many k λr g=>Y (n+r) g:=by
 apply fJ
 ·simp[bt]
 ·intro i h1 h2
  simp only[bt,List.getElem_drop,gP,gr]
theorem TJ {many n:Nat}(Y:Nat->Nat->T):(bt many n Y).reverse=bt many n λi g=>Y (n-1-i) g:=by
 apply fJ
 ·simp[bt]
 ·intro i h1 h2
  simp only[bt,List.getElem_reverse,gP,gr,aF,bW]
theorem RN {ns:List D}{as:List cJ}{many:Nat}(h:dJ many as)(hn:ns.length=many):wd [aU ns as,.non]=some (.lst (bt many (dep as) λ_ _=>some 0)):=by
 have eF:=h.len
 have mL:=h.le
 have nX:=xH λa ha=>(h.right a ha).b
 have mo:=Hy (ns:=ns) (as:=as) (by omega)
 have q:∀r:L3.Env,r[0]?.join=some (aU ns as)->r[2]?.join=some (.int (dep as:Int))->qo r=some (.lst (bt many (dep as) λ_ _=>some 0)):=λr h0 h2=>by
  refine wp (λ(t:Nat)=>D.int (t:Int)) (λ_=>D.lst (bY many λ_=>some 0)) (aE (dep as)) (qp h2 (by omega)) (by rw[bW];omega) λg _=>⟨_,rfl,?_⟩
  have hc:gj r [0]=[some (aU ns as)]:=by unfold gj;simp[h0]
  rw[hc]
  have rp:jP (.lst [.int 0]) (.int (ns.length:Int))=some (.lst (bY many λ_=>some 0)):=by
   unfold jP
   dsimp only
   rw[if_pos ⟨by omega,by omega,by simp⟩]
   congr 2
   unfold bY
   rw[iy,bW]
   simp[hn,cy]
  have f1:=qf ns as
  clear hn h eF mL nX mo
  walk_at "mir"
 unfold wd
 clear h hn eF mL nX
 walk_at "mir"
theorem RU {ns:List D}{as:List cJ}{many k:Nat}{w:Nat->Nat->T}(h:dJ many as)(hk:dep as<=k):wd [aU ns as,.lst (bt many k w)]=some (.lst (bt many (dep as) λi g=>w (dep as-1-i) g)):=by
 have eF:=h.len
 have nX:=xH λa ha=>(h.right a ha).b
 have mo:=Hy (ns:=ns) (as:=as) (by omega)
 have q:∀r:L3.Env,r[1]?.join=some (.lst (bt many k w))->r[2]?.join=some (.int (dep as:Int))->qm r=some (.lst (bt many (dep as) λi g=>w (dep as-1-i) g)):=λr h1 h2=>by
  refine wp (λ(i:Nat)=>D.lst (bY many λg=>w (dep as-1-i) g)) (λ(i:Nat)=>D.lst (bY many λg=>w (dep as-1-i) g)) (aE (dep as)) ?_ (by rw[bW];omega) λg _=>⟨_,rfl,rfl⟩
  have e1:eV 1 r=some (.lst (bt many k w)):=h1
  have e2:pInt (eV 2) r=some (some (dep as:Int)):=by unfold pInt;have:eV 2 r=some (.int (dep as:Int)):=h2;rw[this];rfl
  have e3:eI (.lst (bt many k w)) none (some (dep as:Int))=some (.lst (bt many (dep as) w)):=by
   rw[j6,KQ _ (dep as),SR w hk]
  have e4:(λρ=>((eV 1) ρ).bind λd=>(pNo ρ).bind λl=>((pInt (eV 2)) ρ).bind λh=>eI d l h) r=some (.lst (bt many (dep as) w)):=by
   show((eV 1) r).bind _=_
   rw[e1]
   show((pInt (eV 2)) r).bind _=_
   rw[e2]
   exact e3
  show((lsD _) r).bind _=_
  unfold lsD
  rw[e4]
  show some (bt many (dep as) w).reverse=_
  rw[TJ]
  rfl
 unfold wd
 clear h eF nX hk
 walk_at "mir"
inductive pN (as:List cJ)(many:Nat):D->(Nat->Nat->T)->Prop
 |no:pN as many .non λ_ _=>some 0
 |some (k:Nat) (w:Nat->Nat->T) (hk:dep as<=k):pN as many (.lst (bt many k w)) λi g=>w (dep as-1-i) g
inductive tP:D->(Nat->Nat->T)->Prop
 |no:tP .non λ_ _=>none
 |some (fs:List Fl) (h:fs.length<=1000):tP (.lst (fs.map iU)) (fl fs)
theorem HY {ns:List D}{as:List cJ}{many rounds:Nat}{hJ lH:D}{past:Nat->Nat->T}{f:Nat->Nat->T}(h:dJ many as)(hn:ns.length=many)(hr:rounds<=1000)(hw:pN as many hJ past)(hf:tP lH f) :
  ∃Y,pG [aU ns as,.int (rounds:Int),hJ,lH]=some (.lst (bt many rounds λr g=>Y (dep as+r) g))/\Run as many (dep as) rounds past f Y:=by
 have ha:wd [aU ns as,hJ]=some (.lst (bt many (dep as) past)):=by
  cases hw with
  |no=>exact RN h hn
  |some k w hk=>exact RU h hk
 obtain⟨d,I0,hd2⟩:∃d,((lH=.non/\yx [.lst []]=some d)\/∃ds,lH=.lst ds/\yx [.lst ds]=some d)/\i8 d 1000 f:=by
  cases hf with
  |no=>
   obtain⟨d,h1,h2⟩:=MM [] (by simp)
   exact⟨d,.inl ⟨rfl,h1⟩,h2⟩
  |some fs hl=>
   obtain⟨d,h1,h2⟩:=MM fs hl
   exact⟨d,.inr ⟨_,rfl,h1⟩,h2⟩
 obtain⟨Y,h1,h2⟩:=WE (d0:=.non) h hn hr ha I0 hd2
 refine⟨Y,?_,h2⟩
 have mo:=Hy (ns:=ns) (as:=as) (by have:=h.len;omega)
 have e3:eI (.lst (bt many (dep as+rounds) Y)) (some (dep as:Int)) none=some (.lst (bt many rounds λr g=>Y (dep as+r) g)):=by
  rw[j6,KR _ (dep as),SS]
 unfold pG
 clear h hn hr hw hf ha I0 hd2 h2
 walk_at "mir"
theorem HP (ns:List Int)(i:Int)(hi:0<=i):∃c,xl [.lst (ns.map .int),.int i]=some (.int c):=by
 obtain⟨k,rfl⟩:∃k:Nat,i=k:=⟨i.toNat,by omega⟩
 unfold xl
 by_cases h:k<ns.length
 ·refine⟨ns[k],?_⟩
  have:dW (.lst (ns.map .int)) (.int (k:Int))=some (.int ns[k]):=Vb D.int (.inl rfl) (by simp[h])
  walk_at "mir"
 ·refine⟨0,?_⟩
  walk_at "mir"
theorem wD (c:Int){k:Int}(h0:0<=k)(h1:k<=1000000):∃r:Nat,xz [.int c,.int k]=some (.int (r:Int))/\r<2147483648:=by
 have m0:hE (.int 31) (.int k)=some (.int (31*k)):=zc7 (by decide) (by decide)
 have s0:oY (.int c) (.int (1+31*k))=some (.int (c/2 ^ (1+31*k).toNat)):=zgw (by omega)
 have fin:∀z:Int,∀m:Int,0<m->m<=2147483648->∃r:Nat,(some (D.int (z%m)):Option D)=some (.int (r:Int))/\r<2147483648:=λz m hm wV=>by
  have a1:=Int.emod_nonneg z (by omega:m≠0)
  have a2:=Int.emod_lt_of_pos z hm
  exact⟨(z%m).toNat,by rw[Int.toNat_of_nonneg a1],by omega⟩
 generalize hn:(c+7919*k+1)*48271%2147483647=n1
 have b1:0<=n1/\n1<2147483647:=by omega
 have m1:hE (.int 7919) (.int k)=some (.int (7919*k)):=zc7 (by decide) (by decide)
 have m2:hE (.int (c+7919*k+1)) (.int 48271)=some (.int ((c+7919*k+1)*48271)):=zmv (by decide) (by decide)
 have m3:hE (.int n1) (.int (n1/1009+69621))=some (.int (n1*(n1/1009+69621))):=zc7 (by omega) (by omega)
 generalize sT:n1*(n1/1009+69621)%2147483647=n2
 have b2:0<=n2/\n2<2147483647:=by omega
 have m4:hE (.int n2) (.int (n2/2003+39373+k))=some (.int (n2*(n2/2003+39373+k))):=zc7 (by omega) (by omega)
 unfold xz
 by_cases hr:(1237940039285380274899124224:Int)<=c
 ·by_cases sO:¬c%2=1
  ·obtain⟨r,e1,e2⟩:=fin (n2*(n2/2003+39373+k)) 2147483629 (by decide) (by decide)
   refine⟨r,?_,e2⟩
   rw[←e1]
   clear e1 e2 fin b1 b2 h0 h1 s0
   walk_at "mir"
  replace sO:c%2=1:=Classical.byContradiction sO
  by_cases hs:c/2 ^ (1+31*k).toNat > 0
  ·obtain⟨r,e1,e2⟩:=fin (c/2 ^ (1+31*k).toNat) 2147483648 (by decide) (by decide)
   refine⟨r,?_,e2⟩
   rw[←e1]
   generalize c/2 ^ (1+31*k).toNat=q at s0 hs
   clear e1 e2 fin hn sT b1 b2 h0 h1
   walk_at "mir"
  ·obtain⟨r,e1,e2⟩:=fin (n2*(n2/2003+39373+k)) 2147483629 (by decide) (by decide)
   refine⟨r,?_,e2⟩
   rw[←e1]
   generalize c/2 ^ (1+31*k).toNat=q at s0 hs
   clear e1 e2 fin b1 b2 h0 h1
   walk_at "mir"
 ·obtain⟨r,e1,e2⟩:=fin (n2*(n2/2003+39373+k)) 2147483629 (by decide) (by decide)
  refine⟨r,?_,e2⟩
  rw[←e1]
  clear e1 e2 fin b1 b2 h0 h1 s0
  walk_at "mir"
def ge (x:T)(v:Int):Prop:=∃y,x=some y/\v<=y
theorem MN {a:T}(b:T){v:Int}(h:ge a v):ge (mx a b) v:=by
 obtain⟨y,rfl,hy⟩:=h
 cases b with
 |none=>exact⟨y,rfl,hy⟩
 |some j=>exact⟨_,rfl,by split<;>omega⟩
theorem WF (a:T){b:T}{v:Int}(h:ge b v):ge (mx a b) v:=by rw[Vm];exact MN a h
theorem WC {x:T}{v:Int}(m:Int)(h:ge x v):ge (lt m x) (v+m):=by
 obtain⟨y,rfl,hy⟩:=h
 exact⟨y+m,rfl,by omega⟩
theorem HZ {a b:T}{v:Int}:ge (mx a b) v↔ge a v\/ge b v:=by
 refine⟨λh=>?_,λh=>h.elim (MN b) (WF a)⟩
 obtain⟨y,hy,hv⟩:=h
 cases a with
 |none=>exact .inr ⟨y,hy,hv⟩
 |some i=>
  cases b with
  |none=>exact .inl ⟨y,hy,hv⟩
  |some j=>
   simp only[mx,Option.some.injEq]at hy
   by_cases hj:j > i
   ·rw[if_pos hj]at hy;exact .inr ⟨j,rfl,by omega⟩
   ·rw[if_neg hj]at hy;exact .inl ⟨i,rfl,by omega⟩
theorem HQ {x:T}{m v:Int}:ge (lt m x) v↔ge x (v-m):=by
 refine⟨λ⟨y,hy,hv⟩=>?_,λh=>?_⟩
 ·cases x with
  |none=>cases hy
  |some i=>cases hy;exact⟨i,rfl,by omega⟩
 ·have:=WC m h
  rwa[show v-m+m=v by omega]at this
theorem Lr {α:Type}(F:α->T){v:Int}:∀(xs:List α) (w:T),ge (xs.foldl (λw a=>mx w (F a)) w) v↔ge w v\/∃a∈xs,ge (F a) v
 |[],w=>⟨.inl,λh=>h.elim id λ⟨a,ha,_⟩=>by cases ha⟩
 |x::xs,w=>by
  rw[dM,Lr F xs,HZ]
  constructor
  ·rintro((h|h)|⟨a,ha,h⟩)
   ·exact .inl h
   ·exact .inr ⟨x,am,h⟩
   ·exact .inr ⟨a,ap _ ha,h⟩
  ·rintro(h|⟨a,ha,h⟩)
   ·exact .inl (.inl h)
   ·rcases aA.mp ha with rfl|ha
    ·exact .inl (.inr h)
    ·exact .inr ⟨a,ha,h⟩
theorem HV {x y:T}(h:∀v,ge x v↔ge y v):x=y:=by
 cases x with
 |none=>
  cases y with
  |none=>rfl
  |some j=>obtain⟨_,z,_⟩:=(h j).mpr ⟨j,rfl,fQ _⟩;cases z
 |some i=>
  obtain⟨j,e1,h1⟩:=(h i).mp ⟨i,rfl,fQ _⟩
  subst e1
  obtain⟨k,e2,h2⟩:=(h j).mpr ⟨j,rfl,fQ _⟩
  cases e2
  congr 1;omega
theorem CH {i v:Int}:ge (some i) v↔v<=i:=⟨λ⟨_,e,h⟩=>by cases e;exact h,λh=>⟨i,rfl,h⟩⟩
theorem CI {v:Int}:¬ge none v:=λ⟨_,e,_⟩=>by cases e
structure Sum (as:List cJ)(many g0:Nat)(S:Nat->T):Prop where
 is:∀h,h<many->∀v,ge (S h) v↔(h=g0/\v<=0)\/∃a∈as,a.b=0/\a.g=h/\ge (S a.s) (v-a.t)
theorem Vo {ns:List D}{as:List cJ}{many x:Nat}{g0 od:D}{S:Nat->T}(hx:x<many)(hm:many<=1000)(hg:∀a∈as,a.g<many/\(a.b=0->a.s=x->a.g≠x))(y5:Option D):∃(S':Nat->T) (z5:Option D),
  fy (gV 5) yp (as.map bP) [some (aU ns as),some g0,some od,some (.lst (bY many S)),some (.int (x:Int)),y5]=some (.nx [some (aU ns as),some g0,some od,some (.lst (bY many S')),some (.int (x:Int)),z5]) /\
  ∀h v,ge (S' h) v↔ge (S h) v\/∃a∈as,a.b=0/\a.s=x/\a.g=h/\ge (S x) (v-a.t):=by
 obtain⟨ρ',h1,pre,S',z5,e1,rfl,hS⟩:=ui (g:=gV 5) (b:=yp) (ds:=as.map bP) (ρ:=[some (aU ns as),some g0,some od,some (.lst (bY many S)),some (.int (x:Int)),y5])
  (λds ρ=>∃(pre:List cJ) (S':Nat->T) (z5:Option D),ds=pre.map bP/\ρ=[some (aU ns as),some g0,some od,some (.lst (bY many S')),some (.int (x:Int)),z5]/\((∃post,as=pre++post)/\S' x=S x/\∀h v,ge (S' h) v↔ge (S h) v\/∃a∈pre,a.b=0/\a.s=x/\a.g=h/\ge (S x) (v-a.t)))
  ⟨[],S,y5,rfl,rfl,⟨as,rfl⟩,rfl,λh v=>⟨.inl,λz=>z.elim id λ⟨_,z,_⟩=>by cases z⟩⟩ (by
   rintro ds dd post ρ e ⟨pre,S',z5,rfl,rfl,⟨eP,e'⟩,Ax,hS⟩
   obtain⟨a,ha,rfl⟩:∃a,as[pre.length]?=some a/\bP a=dd:=by
    have:=xF e
    rw[aW,aF]at this
    exact cw.mp this
   have uX:a∈as:=bV.mpr ⟨_,ha⟩
   obtain⟨kX,jY⟩:=hg a uX
   have oT:∃lg,as=(pre++[a])++lg:=by
    refine⟨eP.tail,?_⟩
    rw[e']at ha
    rw[cO (av _),nu]at ha
    cases eP with
    |nil=>cases ha
    |cons b p=>cases ha;rw[e'];simp
   have f1:=fs a
   have f2:=fg a
   have f3:=ft a
   have f4:=fb a
   by_cases hc:a.b=0/\a.s=x
   ·have q1:dW (.lst (bY many S')) (.int (a.g:Int))=some (cy (S' a.g)):=Ea S' kX
    have q2:dW (.lst (bY many S')) (.int (x:Int))=some (cy (S x)):=by rw[←Ax];exact Ea S' hx
    have l1:=L5 (S x) a.t
    have l2:=DV (S' a.g) (lt a.t (S x))
    have st:=DW S' kX (mx (S' a.g) (lt a.t (S x)))
    refine⟨_,[some (aU ns as),some g0,some od,some (.lst (bY many λy=>if y=a.g then mx (S' a.g) (lt a.t (S x))else S' y)),some (.int (x:Int)),some (bP a)],rfl,.inl ?_,pre++[a],_,_,by simp,rfl,oT,?_,λh v=>?_⟩
    ·have c1:(a.b:Int)=0:=by omega
     have c2:(a.s:Int)=(x:Int):=by omega
     generalize bY many (λy=>if y=a.g then mx (S' a.g) (lt a.t (S x))else S' y)=V2,bY many S'=V1,cy (mx (S' a.g) (lt a.t (S x)))=m3,cy (lt a.t (S x))=m2,cy (S' a.g)=m1,cy (S x)=m0,aU ns as=nd,bP a=ea at *
     unfold yp lY
     clear hS Ax hg e e' oT ha uX kX jY hc
     rw[c1]at f4
     rw[c2]at f1
     walk_at "mir"
    ·rw[if_neg (λz=>jY hc.1 hc.2 z.symm)];exact Ax
    ·by_cases hh:h=a.g
     ·subst hh
      rw[if_pos rfl,HZ,hS,HQ]
      constructor
      ·rintro((z|⟨b,hb,z⟩)|z)
       ·exact .inl z
       ·exact .inr ⟨b,aS _ hb,z⟩
       ·exact .inr ⟨a,by simp,hc.1,hc.2,rfl,z⟩
      ·rintro(z|⟨b,hb,z⟩)
       ·exact .inl (.inl z)
       ·rcases aM.mp hb with hb|hb
        ·exact .inl (.inr ⟨b,hb,z⟩)
        ·rw[aH.mp hb]at z
         exact .inr z.2.2.2
     ·rw[if_neg hh,hS]
      constructor
      ·rintro(z|⟨b,hb,z⟩)
       ·exact .inl z
       ·exact .inr ⟨b,aS _ hb,z⟩
      ·rintro(z|⟨b,hb,z⟩)
       ·exact .inl z
       ·rcases aM.mp hb with hb|hb
        ·exact .inr ⟨b,hb,z⟩
        ·rw[aH.mp hb]at z
         exact absurd z.2.2.1.symm hh
   ·refine⟨_,[some (aU ns as),some g0,some od,some (.lst (bY many S')),some (.int (x:Int)),some (bP a)],rfl,.inl ?_,pre++[a],S',_,by simp,rfl,oT,Ax,λh v=>?_⟩
    ·generalize bY many S'=V1 at *
     generalize aU ns as=nd,bP a=ea at *
     unfold yp lY
     clear hS Ax hg e e' oT ha uX kX jY
     by_cases c1:(a.b:Int)=0
     ·have c2:¬(a.s:Int)=(x:Int):=λz=>hc ⟨by omega,by omega⟩
      rw[c1]at f4
      clear hc
      generalize (a.s:Int)=sa at *
      walk_at "mir"
     ·clear hc
      generalize (a.b:Int)=ba at *
      walk_at "mir"
    ·rw[hS]
     constructor
     ·rintro(z|⟨b,hb,z⟩)
      ·exact .inl z
      ·exact .inr ⟨b,aS _ hb,z⟩
     ·rintro(z|⟨b,hb,z⟩)
      ·exact .inl z
      ·rcases aM.mp hb with hb|hb
       ·exact .inr ⟨b,hb,z⟩
       ·rw[aH.mp hb]at z
        exact absurd ⟨z.1,z.2.1⟩ hc)
 have:pre=as:=by
  obtain⟨⟨post,e2⟩,_⟩:=hS
  have:as.length=pre.length:=by simpa using congrArg fM e1
  rw[e2,bn]at this
  have:post=[]:=dS.mp (by omega)
  rw[e2,this,bQ]
 rw[this]at hS
 exact⟨S',z5,h1,hS.2.2⟩
theorem WG {ns:List D}{as:List cJ}{many g0:Nat}{p:List Nat}(hn:ns.length=many)(hm:many<=1000)(FV:g0<many)(hr:∀a∈as,a.g<many)(hs:∀a∈as,a.b=0->a.g≠a.s)(ok:Kahn.Ok (W0 as) many p)(all:∀g,g<many->g∈p)(hl:as.length<=1000)(Jk:∀a∈as,a.s<many) :
  ∃S,xp [aU ns as,.int (g0:Int),.lst (ck p)]=some (.lst (bY many S))/\Sum as many g0 S:=by
 obtain⟨ρ',h1,pre,S,z4,z5,e1,rfl,⟨post,e2⟩,hS⟩:=ui (g:=gV 4) (b:=xy) (ds:=ck p) (ρ:=[some (aU ns as),some (.int (g0:Int)),some (.lst (ck p)),some (.lst (bY many λy=>if y=g0 then some 0 else none)),none,none])
  (λds ρ=>∃(pre:List Nat) (S:Nat->T) (z4 z5:Option D),ds=ck pre/\ρ=[some (aU ns as),some (.int (g0:Int)),some (.lst (ck p)),some (.lst (bY many S)),z4,z5]/\(∃post,p=pre++post)/\∀h v,ge (S h) v↔(h=g0/\v<=0)\/∃a∈as,a.b=0/\a.g=h/\a.s∈pre/\ge (S a.s) (v-a.t))
  ⟨[],_,none,none,rfl,rfl,⟨p,rfl⟩,λh v=>by
   by_cases hh:h=g0
   ·rw[if_pos hh,CH]
    exact⟨λz=>.inl ⟨hh,z⟩,λz=>z.elim (·.2) λ⟨_,_,_,_,z,_⟩=>by cases z⟩
   ·rw[if_neg hh]
    exact⟨λz=>absurd z CI,λz=>z.elim (λz=>absurd z.1 hh) λ⟨_,_,_,_,z,_⟩=>by cases z⟩⟩ (by
   rintro ds dd post ρ e ⟨pre,S,z4,z5,rfl,rfl,⟨eP,e'⟩,hS⟩
   obtain⟨x,hx,rfl⟩:∃x,p[pre.length]?=some x/\D.int (x:Int)=dd:=by
    have:=xF e
    unfold ck at this
    rw[aW,aF]at this
    exact cw.mp this
   have wW:=ok.lt x (bV.mpr ⟨_,hx⟩)
   have mC:p.take pre.length=pre:=by rw[e',List.take_left]
   obtain⟨S',w5,h2,FH⟩:=Vo (ns:=ns) (as:=as) (S:=S) (g0:=.int (g0:Int)) (od:=.lst (ck p)) wW hm (λa ha=>⟨hr a ha,λh0 h1=>by have:=hs a ha h0;omega⟩) z5
   have oT:∃lg,p=(pre++[x])++lg:=by
    refine⟨eP.tail,?_⟩
    rw[e']at hx
    rw[cO (av _),nu]at hx
    cases eP with
    |nil=>cases hx
    |cons b p=>cases hx;rw[e'];simp
   have Jo:x∉pre:=λz=>by
    obtain⟨q,e3⟩:=oT
    have:=ok.nd
    rw[e3,bo,bo]at this
    exact this.1.2.2 x z x (by simp) rfl
   have old:∀y,y∈pre\/y=x->S' y=S y:=λy hy=>HV λv=>by
    rw[FH]
    refine⟨λz=>z.elim id ?_,.inl⟩
    rintro⟨a,ha,hb,sW,Jc,_⟩
    exfalso
    rcases hy with hy|hy
    ·obtain⟨i,hi⟩:=bV.mp hy
     have AD:p[i]?=some y:=by rw[e',cz (aQ.mp hi).1];exact hi
     have:=ok.ord i y AD a (bB.mpr ⟨ha,by simpa using hb⟩) Jc
     rw[sW]at this
     have mL:i<=pre.length:=iA (aQ.mp hi).1
     have:x∈p.take pre.length:=(List.take_sublist_take_left mL).subset this
     rw[mC]at this
     exact Jo this
    ·exact hs a ha hb (by rw[Jc,sW,hy])
   refine⟨_,_,rfl,.inl ?_,pre++[x],S',some (.int (x:Int)),w5,by simp[ck],rfl,oT,λh v=>?_⟩
   ·have fa:=DQ ns as
    generalize bY many S'=V2 at *
    generalize bY many S=V1,aU ns as=nd,as.map bP=EA at *
    unfold xy
    generalize yp=B1 at *
    clear hS FH old Jo oT mC wW hx e e' FV hn hm
    walk_at "mir"
   ·rw[FH,hS]
    constructor
    ·rintro((z|⟨a,ha,z1,z2,z3,z4⟩)|⟨a,ha,z1,z2,z3,z4⟩)
     ·exact .inl z
     ·exact .inr ⟨a,ha,z1,z2,aS _ z3,by rw[old _ (.inl z3)];exact z4⟩
     ·exact .inr ⟨a,ha,z1,z3,by rw[z2];simp,by rw[z2,old _ (.inr rfl)];exact z4⟩
    ·rintro(z|⟨a,ha,z1,z2,z3,z4⟩)
     ·exact .inl (.inl z)
     ·rcases aM.mp z3 with z3|z3
      ·exact .inl (.inr ⟨a,ha,z1,z2,z3,by rw[←old _ (.inl z3)];exact z4⟩)
      ·have z3:=aH.mp z3
       exact .inr ⟨a,ha,z1,z3,z2,by rw[z3,old _ (.inr rfl)]at z4;exact z4⟩)
 have Dj:pre=p:=by
  have:p.length=pre.length:=by simpa[ck]using congrArg fM e1
  rw[e2,bn]at this
  have:post=[]:=dS.mp (by omega)
  rw[e2,this,bQ]
 refine⟨S,?_,⟨λh hh v=>?_⟩⟩
 ·have f1:=qf ns as
  have l1:eG [.lst ns]=some (.int (many:Int)):=(zbn _).trans (by rw[hn])
  have rp:jP (.lst [.non]) (.int (many:Int))=some (.lst (bY many λ_=>none)):=by
   unfold jP
   dsimp only
   rw[if_pos ⟨by omega,by omega,by simp⟩]
   congr 2
   unfold bY
   rw[iy,bW]
   simp[hn,cy]
  have st:=DW (n:=many) (λ_=>none) FV (some 0)
  have e0:cy (some 0)=.int 0:=rfl
  rw[e0]at st
  generalize bY many S=V2,bY many (λx=>if x=g0 then some 0 else none)=V1,bY many (λ_=>none)=V0,aU ns as=nd at *
  unfold xp lY
  generalize xy=B2,ck p=np at *
  clear hS e1 e2 Dj ok all FV hn hm hr hs hl Jk
  walk_at "mir"
 ·rw[hS]
  constructor
  ·rintro(z|⟨a,ha,z1,z2,_,z4⟩)
   ·exact .inl z
   ·exact .inr ⟨a,ha,z1,z2,z4⟩
  ·rintro(z|⟨a,ha,z1,z2,z4⟩)
   ·exact .inl z
   ·exact .inr ⟨a,ha,z1,z2,by rw[Dj];exact all _ (Jk a ha),z4⟩
def gw (b s h:Nat):List dv:=[.inl (b:Int),.inl (s:Int),.inl (h:Int)]
theorem TK {b s h b' s' h':Nat}(e:gw b s h=gw b' s' h'):b=b'/\s=s'/\h=h':=by
 unfold gw at e
 simp only[List.cons.injEq,Sum.inl.injEq,and_true]at e
 omega
structure qT (d:D)(n:Nat)(f:Nat->Nat->Nat->T):Prop where
 is:∃ks ds,d=.dT ks ds/\ks.length=ds.length/\ks.length<=n/\ks.Nodup/\(∀k∈ks,∃b s h,k=gw b s h)/\∀b s h:Nat,gu ks ds (gw b s h)=(f b s h).map D.int
theorem qT.get {d:D}{n:Nat}{f:Nat->Nat->Nat->T}(h:qT d n f)(b s g:Nat):((ig d (.tup [.int (b:Int),.int (s:Int),.int (g:Int)])).bind λr=>some (r.getD .non))=some (cy (f b s g)):=by
 obtain⟨ks,ds,rfl,h1,h2,h3,h4,h5⟩:=h.is
 show some ((gu ks ds (gw b s g)).getD .non)=_
 rw[h5]
 cases f b s g<;>rfl
theorem Tc {κ:Type}[DecidableEq κ]{ks:List κ}{ds:List D}(h:ks.Nodup)(k:κ)(d:D):(ed ks ds k d).1.Nodup/\∀x∈(ed ks ds k d).1,x∈ks\/x=k:=by
 unfold ed
 by_cases hc:ks.contains k=true
 ·rw[if_pos hc];exact⟨h,λx hx=>.inl hx⟩
 ·rw[if_neg hc]
  refine⟨bo.mpr ⟨h,by simp,λa ha b hb e=>hc (by rw[aH]at hb;rw[nn,←hb,←e];exact ha)⟩,λx hx=>?_⟩
  rcases aM.mp hx with hx|hx
  ·exact .inl hx
  ·exact .inr (aH.mp hx)
theorem qT.put {ks:List (List dv)}{ds:List D}{n:Nat}{f:Nat->Nat->Nat->T}(h:qT (.dT ks ds) n f)(b s g:Nat)(t:Int):qT (.dT (ed ks ds (gw b s g) (cy (mx (f b s g) (some t)))).1 (ed ks ds (gw b s g) (cy (mx (f b s g) (some t)))).2) (n+1) λb' s' g'=>if b'=b/\s'=s/\g'=g then mx (f b s g) (some t)else f b' s' g':=by
 obtain⟨Xu,kA,e,h1,h2,h3,h4,h5⟩:=h.is
 cases e
 obtain⟨p1,p2⟩:=L6 h1 (gw b s g) (cy (mx (f b s g) (some t)))
 obtain⟨n1,n2⟩:=Tc (ds:=ds) h3 (gw b s g) (cy (mx (f b s g) (some t)))
 refine⟨_,_,rfl,p1,by omega,n1,λk hk=>?_,λb' s' g'=>?_⟩
 ·rcases n2 k hk with hk|hk
  ·exact h4 k hk
  ·exact⟨b,s,g,hk⟩
 ·rw[Lo h1]
  by_cases hc:b'=b/\s'=s/\g'=g
  ·obtain⟨rfl,rfl,rfl⟩:=hc
   rw[if_pos rfl,if_pos ⟨rfl,rfl,rfl⟩,ML]
  ·rw[if_neg (λz=>hc (TK z)),if_neg hc]
   exact h5 b' s' g'
theorem TL (n:Nat)(f:Nat->T):et 0 (bY n f)=(nJ 0 n).map λ(h:Nat)=>D.tup [.int (h:Int),cy (f h)]:=by
 unfold bY
 rw[Hm,nK]
 apply eh
 intro i
 rw[aW,List.getElem?_zipIdx,aW]
 by_cases hi:i<n
 ·rw[List.getElem?_range' hi]
  simp
 ·rw[cX (by simpa using hi)]
  rfl
theorem Mm {g:D->L3.Env->Option L3.Env}{b:SF}{n:Nat}(enc:Nat->D)(I:Nat->L3.Env->Prop)(st:∀i ρ,i<n->I i ρ->∃ρ1 ρ2,g (enc i) ρ=some ρ1/\b ρ1=some (.nx ρ2)/\I (i+1) ρ2):∀(k j:Nat) (ρ:L3.Env),j+k=n->I j ρ->∃ρ',fy g b ((nJ j k).map enc) ρ=some (.nx ρ')/\I n ρ'
 |0,j,ρ,e,h=>⟨ρ,rfl,by rw[←e];exact h⟩
 |k+1,j,ρ,e,h=>by
  obtain⟨ρ1,ρ2,h1,h2,h3⟩:=st j ρ (by omega) h
  obtain⟨ρ',h4,h5⟩:=Mm enc I st k (j+1) ρ2 (by omega) h3
  refine⟨ρ',?_,h5⟩
  rw[pH,bG]
  show((g (enc j) ρ).bind λρ1=>(b ρ1).bind _)=_
  rw[h1]
  show(b ρ1).bind _=_
  rw[h2]
  exact h4
theorem Uk {nd od sm d:D}{a:cJ}{many n:Nat}{R:Nat->T}{f:Nat->Nat->Nat->T}(hd:qT d n f)(hn:n+many<16777216)(y5 y6 y7:Option D):∃(d':D) (f':Nat->Nat->Nat->T) (z5 z6 z7:Option D),
  fy (gT (gsCons (gV 5) (gsCons (gV 6) gsNil))) ua (et 0 (bY many R)) [some nd,some od,some sm,some d,some (bP a),y5,y6,y7]=some (.nx [some nd,some od,some sm,some d',some (bP a),z5,z6,z7])/\qT d' (n+many) f' /\
  ∀b s h v,ge (f' b s h) v↔ge (f b s h) v\/(b=a.b/\s=a.s/\h<many/\ge (R h) (v-a.t)):=by
 rw[TL]
 obtain⟨ρ',h1,d',f',z5,z6,z7,rfl,mZ,qY⟩:=Mm (g:=gT (gsCons (gV 5) (gsCons (gV 6) gsNil))) (b:=ua) (n:=many) (λ(h:Nat)=>D.tup [.int (h:Int),cy (R h)])
  (λi ρ=>∃(d':D) (f':Nat->Nat->Nat->T) (z5 z6 z7:Option D),ρ=[some nd,some od,some sm,some d',some (bP a),z5,z6,z7]/\qT d' (n+i) f'/\∀b s h v,ge (f' b s h) v↔ge (f b s h) v\/(b=a.b/\s=a.s/\h<i/\ge (R h) (v-a.t))) (by
   rintro i ρ hi ⟨d',f',z5,z6,z7,rfl,mZ,qY⟩
   have f1:=fs a
   have f3:=ft a
   have f4:=fb a
   cases hR:R i with
   |none=>
    refine⟨_,[some nd,some od,some sm,some d',some (bP a),some (.int (i:Int)),some (cy (R i)),z7],rfl,?_,d',f',_,_,_,rfl,?_,λb s h v=>?_⟩
    ·rw[hR]
     generalize bP a=ea at *
     unfold ua
     clear mZ qY hd f1 f3 f4 hR
     simp only[cy]
     walk_at "mir"
    ·obtain⟨ks,ds,e,q1,q2,q3⟩:=mZ.is
     exact⟨ks,ds,e,q1,by omega,q3⟩
    ·rw[qY]
     constructor
     ·rintro(z|z)
      ·exact .inl z
      ·exact .inr ⟨z.1,z.2.1,by omega,z.2.2.2⟩
     ·rintro(z|z)
      ·exact .inl z
      ·refine .inr ⟨z.1,z.2.1,?_,z.2.2.2⟩
       have:h≠i:=λe=>by rw[e,hR]at z;exact CI z.2.2.2
       omega
   |some m=>
    have hg:=mZ.get a.b a.s i
    obtain⟨ks,ds,rfl,k1,k2,k3,k4,k5⟩:=mZ.is
    have hm:=DV (f' a.b a.s i) (some (a.t+m))
    have lz:ks.length<16777216:=by omega
    refine⟨_,[some nd,some od,some sm,some (.dT (ed ks ds (gw a.b a.s i) (cy (mx (f' a.b a.s i) (some (a.t+m))))).1 (ed ks ds (gw a.b a.s i) (cy (mx (f' a.b a.s i) (some (a.t+m))))).2),some (bP a),some (.int (i:Int)),some (cy (R i)),some (.tup [.int (a.b:Int),.int (a.s:Int),.int (i:Int)])],rfl,?_,_,_,_,_,_,rfl,mZ.put a.b a.s i (a.t+m),λb s h v=>?_⟩
    ·rw[hR]
     have he:cy (some (a.t+m))=.int (a.t+m):=rfl
     have De:cy (some m)=.int m:=rfl
     rw[he]at hm
     have hk:lc [.int (a.b:Int),.int (a.s:Int),.int (i:Int)]=some (gw a.b a.s i):=rfl
     rw[De]
     generalize cy (f' a.b a.s i)=z0,cy (mx (f' a.b a.s i) (some (a.t+m)))=z1,gw a.b a.s i=kk,bP a=ea at *
     unfold ua lX
     clear mZ qY hd k1 k2 k3 k4 k5 hR he De
     walk_at "mir"
    ·show ge (if b=a.b/\s=a.s/\h=i then _ else _) v↔_
     by_cases hc:b=a.b/\s=a.s/\h=i
     ·obtain⟨rfl,rfl,rfl⟩:=hc
      rw[if_pos ⟨rfl,rfl,rfl⟩,HZ,qY,CH,hR,CH]
      constructor
      ·rintro((z|z)|z)
       ·exact .inl z
       ·omega
       ·exact .inr ⟨rfl,rfl,by omega,by omega⟩
      ·rintro(z|z)
       ·exact .inl (.inl z)
       ·exact .inr (by omega)
     ·rw[if_neg hc,qY]
      constructor
      ·rintro(z|z)
       ·exact .inl z
       ·exact .inr ⟨z.1,z.2.1,by omega,z.2.2.2⟩
      ·rintro(z|z)
       ·exact .inl z
       ·exact .inr ⟨z.1,z.2.1,by have:h≠i:=λe=>hc ⟨z.1,z.2.1,e⟩;omega,z.2.2.2⟩)
  many 0 [some nd,some od,some sm,some d,some (bP a),y5,y6,y7] (by omega) ⟨d,f,y5,y6,y7,rfl,hd,λb s h v=>⟨.inl,λz=>z.elim id λz=>by omega⟩⟩
 exact⟨d',f',z5,z6,z7,h1,mZ,qY⟩
theorem UY {ns:List D}{as:List cJ}{many:Nat}(h:dJ many as)(hn:ns.length=many):∃(d:D) (f:Nat->Nat->Nat->T) (S:Nat->Nat->T),ut [aU ns as]=some d/\qT d 10000 f/\(∀g,g<many->Sum as many g (S g)) /\
  ∀b s h v,ge (f b s h) v↔∃a∈as,a.b=b/\0<b/\a.s=s/\h<many/\ge (S a.g h) (v-a.t):=by
 have rK:=h.pos
 have hm:=h.le
 have Az:=h.len
 obtain⟨p,mo,ok,pl,all⟩:=Lg h hn
 obtain⟨rank,sU⟩:=h.rank
 have key:∀g,∃S,g<many->xp [aU ns as,.int (g:Int),.lst (ck p)]=some (.lst (bY many S))/\Sum as many g S:=λg=>by
  by_cases hg:g<many
  ·obtain⟨S,h1,h2⟩:=WG (ns:=ns) (p:=p) hn (by omega) hg (λa ha=>(h.right a ha).g) (λa ha hb e=>by have:=sU a ha hb;rw[e]at this;omega) ok all (by omega) λa ha=>(h.right a ha).s
   exact⟨S,λ_=>⟨h1,h2⟩⟩
  ·exact⟨λ_=>none,λz=>absurd z hg⟩
 obtain⟨S,hS⟩:=Classical.axiomOfChoice key
 have f1:=qf ns as
 have f2:=DQ ns as
 have l1:eG [.lst ns]=some (.int (many:Int)):=(zbn _).trans (by rw[hn])
 have q:Hk [some (aU ns as),some (.lst (ck p)),none,none,none,none,none,none]=some (.lst ((aE many).map λg=>D.lst (bY many (S g)))):=by
  refine wp (λ(t:Nat)=>D.int (t:Int)) _ (aE many) (qp ?_ (by omega)) (by simp;omega) λg hg=>⟨[some (.int (g:Int)),some (aU ns as),some (.lst (ck p))],rfl,?_⟩
  ·generalize aU ns as=nd at *
   clear hS key mo ok all
   walk_at "mir"
  ·have:=(hS g (bw.mp hg)).1
   generalize aU ns as=nd,bY many (S g)=V at *
   clear hS key mo ok all hg
   walk_at "mir"
 obtain⟨ρ',h1,pre,d,f,y4,y5,y6,y7,e1,rfl,⟨post,e2⟩,hd,hf⟩:=ui (g:=gV 4) (b:=jw) (ds:=as.map bP) (ρ:=[some (aU ns as),some (.lst (ck p)),some (.lst ((aE many).map λg=>D.lst (bY many (S g)))),some (.dT [] []),none,none,none,none])
  (λds ρ=>∃(pre:List cJ) (d:D) (f:Nat->Nat->Nat->T) (y4 y5 y6 y7:Option D),ds=pre.map bP/\ρ=[some (aU ns as),some (.lst (ck p)),some (.lst ((aE many).map λg=>D.lst (bY many (S g)))),some d,y4,y5,y6,y7]/\(∃post,as=pre++post)/\qT d (pre.length*many) f /\
   ∀b s h v,ge (f b s h) v↔∃a∈pre,a.b=b/\0<b/\a.s=s/\h<many/\ge (S a.g h) (v-a.t))
  ⟨[],_,λ_ _ _=>none,none,none,none,none,rfl,rfl,⟨as,rfl⟩,⟨[],[],rfl,rfl,by simp,bz,nofun,λ_ _ _=>rfl⟩,λb s h v=>⟨λz=>absurd z CI,λ⟨_,z,_⟩=>by cases z⟩⟩ (by
   rintro ds dd post ρ e ⟨pre,d,f,y4,y5,y6,y7,rfl,rfl,⟨eP,e'⟩,hd,hf⟩
   obtain⟨a,ha,rfl⟩:∃a,as[pre.length]?=some a/\bP a=dd:=by
    have:=xF e
    rw[aW,aF]at this
    exact cw.mp this
   have uX:a∈as:=bV.mpr ⟨_,ha⟩
   have iu:pre.length<as.length:=(aQ.mp ha).1
   have kX:=(h.right a uX).g
   have oT:∃lg,as=(pre++[a])++lg:=by
    refine⟨eP.tail,?_⟩
    rw[e']at ha
    rw[cO (av _),nu]at ha
    cases eP with
    |nil=>cases ha
    |cons b p=>cases ha;rw[e'];simp
   have g2:=fg a
   have g4:=fb a
   have bound:pre.length*many+many<=10000:=by
    have:pre.length*many<=119*40:=lQ (by omega) hm
    omega
   have more:(pre++[a]).length*many=pre.length*many+many:=by rw[bn,fE,nw]
   by_cases hb:0<a.b
   ·obtain⟨d',f',z5,z6,z7,lp,mZ,qY⟩:=Uk (nd:=aU ns as) (od:=.lst (ck p)) (sm:=.lst ((aE many).map λg=>D.lst (bY many (S g)))) (a:=a) (many:=many) (R:=S a.g) hd (by omega) y5 y6 y7
    have ix:dW (.lst ((aE many).map λg=>D.lst (bY many (S g)))) (.int (a.g:Int))=some (.lst (bY many (S a.g))):=u6 (by rw[aW,cQ kX];rfl)
    refine⟨_,_,rfl,.inl ?_,pre++[a],d',f',some (bP a),z5,z6,z7,by simp,rfl,oT,by rw[more];exact mZ,λb s h v=>?_⟩
    ·have c1:(a.b:Int) > 0:=by omega
     generalize bY many (S a.g)=V,((aE many).map λg=>D.lst (bY many (S g)))=SL,aU ns as=nd,bP a=ea,(a.b:Int)=ab at *
     unfold jw
     generalize ua=B1 at *
     clear hd hf mZ qY e e' oT ha uX kX bound more hb hS key mo ok all q
     walk_at "mir"
    ·rw[qY,hf]
     constructor
     ·rintro(⟨c,hc,z⟩|⟨z1,z2,z3,z4⟩)
      ·exact⟨c,aS _ hc,z⟩
      ·exact⟨a,by simp,z1.symm,by omega,z2.symm,z3,z4⟩
     ·rintro⟨c,hc,z⟩
      rcases aM.mp hc with hc|hc
      ·exact .inl ⟨c,hc,z⟩
      ·rw[aH.mp hc]at z
       exact .inr ⟨z.1.symm,z.2.2.1.symm,z.2.2.2.1,z.2.2.2.2⟩
   ·refine⟨_,_,rfl,.inl ?_,pre++[a],d,f,some (bP a),y5,y6,y7,by simp,rfl,oT,?_,λb s h v=>?_⟩
    ·have c1:¬(a.b:Int) > 0:=by omega
     generalize ((aE many).map λg=>D.lst (bY many (S g)))=SL,aU ns as=nd,bP a=ea,(a.b:Int)=ab at *
     unfold jw
     generalize ua=B1 at *
     clear hd hf e e' oT ha uX kX bound more hb hS key mo ok all q
     walk_at "mir"
    ·obtain⟨ks,ds,e,q1,q2,q3⟩:=hd.is
     exact⟨ks,ds,e,q1,by rw[more];omega,q3⟩
    ·rw[hf]
     constructor
     ·rintro⟨c,hc,z⟩
      exact⟨c,aS _ hc,z⟩
     ·rintro⟨c,hc,z⟩
      rcases aM.mp hc with hc|hc
      ·exact⟨c,hc,z⟩
      ·rw[aH.mp hc]at z
       omega)
 have Dj:pre=as:=by
  have:as.length=pre.length:=by simpa using congrArg fM e1
  rw[e2,bn]at this
  have:post=[]:=dS.mp (by omega)
  rw[e2,this,bQ]
 subst Dj
 refine⟨d,f,S,?_,?_,λg hg=>(hS g hg).2,hf⟩
 ·generalize ((aE many).map λg=>D.lst (bY many (S g)))=SL at *
  generalize aU ns pre=nd,pre.map bP=EA at *
  unfold ut
  generalize jw=B2,Hk=Q at *
  clear hd hf hS key ok all e1 e2 sU h
  walk_at "mir"
 ·obtain⟨ks,ds,e,q1,q2,q3⟩:=hd.is
  have:pre.length*many<=120*40:=lQ Az hm
  exact⟨ks,ds,e,q1,by omega,q3⟩
theorem MR {x:T}{v w:Int}(h:ge x v)(hw:w<=v):ge x w:=by
 obtain⟨y,e,hy⟩:=h
 exact⟨y,e,by omega⟩
theorem Run.gei {as:List cJ}{many rounds:Nat}{past Y:Nat->Nat->T}(hr:Run as many (dep as) rounds past (λ_ _=>none) Y){r g:Nat}(vG:r<rounds)(hg:g<many)(v:Int):ge (Y (dep as+r) g) v↔∃a∈as,a.g=g/\ge (Y (dep as+r-a.b) a.s) (v-a.t):=by
 rw[hr.rc r vG g hg]
 unfold tm
 rw[Lr (λa:cJ=>lt a.t (Y (dep as+r-a.b) a.s))]
 constructor
 ·rintro(z|⟨a,ha,z⟩)
  ·exact absurd z CI
  ·obtain⟨h1,h2⟩:=bB.mp ha
   exact⟨a,h1,by simpa using h2,HQ.mp z⟩
 ·rintro⟨a,ha,hg,z⟩
  exact .inr ⟨a,bB.mpr ⟨ha,by simpa using hg⟩,HQ.mpr z⟩
theorem Td {as:List cJ}{many rounds:Nat}{past Y:Nat->Nat->T}(h:dJ many as)(hr:Run as many (dep as) rounds past (λ_ _=>none) Y){S:Nat->Nat->T}(hS:∀g,g<many->Sum as many g (S g)){r:Nat}(vG:r<rounds) :
  ∀g,g<many->∀v,ge (Y (dep as+r) g) v↔∃a∈as,0<a.b/\∃u,ge (Y (dep as+r-a.b) a.s) u/\ge (S a.g g) (v-a.t-u):=by
 obtain⟨rank,sU⟩:=h.rank
 have main:∀k g,rank g<k->g<many->∀v,ge (Y (dep as+r) g) v↔∃a∈as,0<a.b/\∃u,ge (Y (dep as+r-a.b) a.s) u/\ge (S a.g g) (v-a.t-u):=by
  intro k
  induction k with
  |zero=>intro g hk;omega
  |succ k ih=>
   intro g hk hg v
   rw[hr.gei vG hg]
   constructor
   ·rintro⟨a,ha,kX,z⟩
    have Dn:=h.right a ha
    by_cases hb:a.b=0
    ·have hs:rank a.s<k:=by have:=sU a ha hb;rw[kX]at this;omega
     rw[hb,nv,ih a.s hs Dn.s]at z
     obtain⟨c,hc,FL,u,z1,z2⟩:=z
     refine⟨c,hc,FL,u,z1,((hS c.g (h.right c hc).g).is g hg _).mpr (.inr ⟨a,ha,hb,kX,?_⟩)⟩
     rwa[show v-c.t-u-a.t=v-a.t-c.t-u by omega]
    ·refine⟨a,ha,by omega,v-a.t,z,((hS a.g Dn.g).is g hg _).mpr (.inl ⟨kX.symm,by omega⟩)⟩
   ·rintro⟨c,hc,FL,u,z1,z2⟩
    have OF:=h.right c hc
    rcases((hS c.g OF.g).is g hg _).mp z2 with⟨e,z⟩|⟨a,ha,hb,kX,z⟩
    ·exact⟨c,hc,e.symm,MR z1 (by omega)⟩
    ·have Dn:=h.right a ha
     have hs:rank a.s<k:=by have:=sU a ha hb;rw[kX]at this;omega
     refine⟨a,ha,kX,?_⟩
     rw[hb,nv,ih a.s hs Dn.s]
     refine⟨c,hc,FL,u,z1,?_⟩
     rwa[show v-a.t-c.t-u=v-c.t-u-a.t by omega]
 exactλg hg=>main (rank g+1) g (by omega) hg
theorem Mn {ks:List (List dv)}{ds:List D}(nd:ks.Nodup){k:List dv}{d:D}:(k,d)∈ks.zip ds↔gu ks ds k=some d:=by
 unfold gu
 constructor
 ·intro hm
  cases hf:(ks.zip ds).find? λp=>decide (p.1=k)with
  |none=>
   have:=jJ.mp hf _ hm
   simp at this
  |some q=>
   have h1:=iz hf
   have h2:=lP hf
   have h1:q.1=k:=by simpa using h1
   obtain⟨i,hi,e1⟩:=bR.mp hm
   obtain⟨j,hj,e2⟩:=bR.mp h2
   rw[d7]at hi hj
   have k1:ks[i]=k:=by have:=congrArg Prod.fst e1;simpa using this
   have k2:ks[j]=k:=by have:=congrArg Prod.fst e2;rw[h1]at this;simpa using this
   have:i=j:=(gO (xs:=ks) (h₀:=by omega) (h₁:=by omega) nd).mp (k1.trans k2.symm)
   subst this
   rw[e1]at e2
   rw[←e2];rfl
 ·intro h
  cases hf:(ks.zip ds).find? λp=>decide (p.1=k)with
  |none=>rw[hf]at h;cases h
  |some q=>
   rw[hf]at h
   have h1:=iz hf
   have h2:=lP hf
   have h1:q.1=k:=by simpa using h1
   have h:q.2=d:=by simpa using h
   rw[←h1,←h]
   exact h2
theorem qF {α:Type}[DecidableEq α]:∀{xs ys:List α},xs.Nodup->(∀x∈xs,x∈ys)->xs.length<=ys.length
 |[],_,_,_=>cC _
 |x::xs,ys,nd,h=>by
  obtain⟨h1,h2⟩:=bH.mp nd
  have hx:=h x am
  have ih:=qF (xs:=xs) (ys:=ys.erase x) h2 λy hy=>(List.mem_erase_of_ne (a:=y) (b:=x) (λz=>h1 (by rw[←z];exact hy))).mpr (h y (ap _ hy))
  rw[List.length_erase_of_mem hx]at ih
  have:=List.length_pos_of_mem hx
  rw[aP]
  omega
structure iT (as:List cJ)(many:Nat)(ks:List (List dv))(ds:List D)(f:Nat->Nat->Nat->T):Prop where
 len:ks.length=ds.length
 nd:ks.Nodup
 key:∀k∈ks,∃b s h,k=gw b s h
 get:∀b s h:Nat,gu ks ds (gw b s h)=(f b s h).map D.int
 sum:∃S:Nat->Nat->T,(∀g,g<many->Sum as many g (S g))/\∀b s h v,ge (f b s h) v↔∃a∈as,a.b=b/\0<b/\a.s=s/\h<many/\ge (S a.g h) (v-a.t)
theorem MO {ns:List D}{as:List cJ}{many:Nat}(h:dJ many as)(hn:ns.length=many):∃ks ds f,ut [aU ns as]=some (.dT ks ds)/\iT as many ks ds f:=by
 obtain⟨d,f,S,h1,h2,h3,h4⟩:=UY h hn
 obtain⟨ks,ds,rfl,k1,k2,k3,k4,k5⟩:=h2.is
 exact⟨ks,ds,f,h1,k1,k3,k4,k5,S,h3,h4⟩
theorem iT.mem {as:List cJ}{many:Nat}{ks:List (List dv)}{ds:List D}{f:Nat->Nat->Nat->T}(h:iT as many ks ds f){b s g:Nat}:gw b s g∈ks↔∃m,f b s g=some m:=by
 constructor
 ·intro hm
  obtain⟨i,hi,e⟩:=bR.mp hm
  have hd:i<ds.length:=by rw[←h.len];exact hi
  have hz:(gw b s g,ds[i])∈ks.zip ds:=bR.mpr ⟨i,by rw[d7];omega,by simp[e]⟩
  have:=(Mn h.nd).mp hz
  rw[h.get]at this
  cases hf:f b s g with
  |none=>rw[hf]at this;cases this
  |some m=>exact⟨m,rfl⟩
 ·rintro⟨m,e⟩
  have:=h.get b s g
  rw[e]at this
  exact(eO ((Mn h.nd).mpr this)).1
theorem iT.few {as:List cJ}{many:Nat}{ks:List (List dv)}{ds:List D}{f:Nat->Nat->Nat->T}(h:iT as many ks ds f)(hr:∀a∈as,a.g<many):ks.length<=(as.filter λa=>decide (0<a.b)).length*(1+(as.filter λa=>decide (a.b=0)).length):=by
 obtain⟨S,hS,hf⟩:=h.sum
 have key:=qF (xs:=ks) (ys:=(as.filter λa=>decide (0<a.b)).flatMap λa=>(a.g::(as.filter λa=>decide (a.b=0)).map (·.g)).map λg=>gw a.b a.s g) h.nd λk hk=>by
  obtain⟨b,s,g,rfl⟩:=h.key k hk
  obtain⟨m,e⟩:=h.mem.mp hk
  obtain⟨a,ha,e1,e2,e3,e4,z⟩:=(hf b s g m).mp ⟨m,e,fQ _⟩
  refine List.mem_flatMap.mpr ⟨a,bB.mpr ⟨ha,by simp;omega⟩,eD.mpr ⟨g,?_,by rw[e1,e3]⟩⟩
  rcases((hS a.g (hr a ha)).is g e4 _).mp z with⟨e5,_⟩|⟨c,hc,c1,c2,_⟩
  ·rw[e5];exact am
  ·exact ap _ (eD.mpr ⟨c,bB.mpr ⟨hc,by simpa using c1⟩,c2⟩)
 refine bS key (nr ?_)
 generalize (as.filter λa=>decide (a.b=0))=zs
 induction (as.filter λa=>decide (0<a.b))with
 |nil=>simp
 |cons x xs ih=>
  rw[List.flatMap_cons,bn,ih,aF,aP,aF,aP,nw]
  omega
theorem Mr {as:List cJ}{n:Nat}(h:as.length<=n)(hn:n<=9):(as.filter λa=>decide (0<a.b)).length*(1+(as.filter λa=>decide (a.b=0)).length)<=25:=by
 have e:(as.filter λa=>decide (0<a.b)).length+(as.filter λa=>decide (a.b=0)).length=as.length:=by
  clear h
  induction as with
  |nil=>rfl
  |cons a as ih=>
   rw[gN,gN]
   by_cases c:a.b=0
   ·rw[if_neg (by simp;omega),if_pos (by simpa using c),aP,aP];omega
   ·rw[if_pos (by simp;omega),if_neg (by simpa using c),aP,aP];omega
 have:∀x y:Nat,x<=9->y<=9->x+y<=9->x*(1+y)<=25:=by
  have:∀x,x<10->∀y,y<10->x+y<=9->x*(1+y)<=25:=by decide
  exactλx y hx hy=>this x (by omega) y (by omega)
 exact this _ _ (by omega) (by omega) (by omega)
theorem qh {α:Type}{g:D->L3.Env->Option L3.Env}{b:SF}(enc:α->D)(I:L3.Env->Prop)(N:α->Prop)(R:α->D->Prop):∀(xs:List α) (ρ:L3.Env),I ρ->(∀x∈xs,∀ρ,I ρ->∃ρ1,g (enc x) ρ=some ρ1/\((N x/\∃ρ2,b ρ1=some (.nx ρ2)/\I ρ2)\/∃w,R x w/\b ρ1=some (.rt w))) ->
  ((∀x∈xs,N x)/\∃ρ',fy g b (xs.map enc) ρ=some (.nx ρ')/\I ρ')\/∃pre x post w,xs=pre++x::post/\(∀y∈pre,N y)/\R x w/\fy g b (xs.map enc) ρ=some (.rt w)
 |[],ρ,h,_=>.inl ⟨λ_ h=>(by cases h),ρ,rfl,h⟩
 |x::xs,ρ,h,st=>by
  obtain⟨ρ1,h1,h2⟩:=st x am ρ h
  have Cv:fy g b ((x::xs).map enc) ρ=(g (enc x) ρ).bind λρ1=>(b ρ1).bind λo=>match o with
    |.nx ρ'=>fy g b (xs.map enc) ρ'
    |.ct ρ'=>fy g b (xs.map enc) ρ'
    |.bk ρ'=>some (.nx ρ')
    |.rt d=>some (.rt d):=rfl
  rw[Cv,h1,bK]
  rcases h2 with⟨e,ρ2,h2,h3⟩|⟨w,e,h2⟩
  ·rw[h2,bK]
   rcases qh enc I N R xs ρ2 h3 λy hy=>st y (ap _ hy)with⟨a1,ρ',a2,a3⟩|⟨pre,z,post,w,a1,a2,a3,a4⟩
   ·refine .inl ⟨λy hy=>?_,ρ',a2,a3⟩
    rcases aA.mp hy with rfl|hy
    ·exact e
    ·exact a1 y hy
   ·refine .inr ⟨x::pre,z,post,w,by rw[a1];rfl,λy hy=>?_,a3,a4⟩
    rcases aA.mp hy with rfl|hy
    ·exact e
    ·exact a2 y hy
  ·rw[h2]
   exact .inr ⟨[],x,xs,w,rfl,λ_ h=>(by cases h),e,rfl⟩
def kI:dv->Int
 |.inl i=>i
 |.inr _=>0
theorem iT.list {as:List cJ}{many:Nat}{ks:List (List dv)}{ds:List D}{f:Nat->Nat->Nat->T}(h:iT as many ks ds f):m9 [.dT ks ds]=some (.lst ((ks.map λk=>k.map kI).map dA)):=by
 show(if ks.length=ds.length then some (D.lst (ks.map λk=>.tup (k.map kD)))else none)=_
 rw[if_pos h.len,df]
 congr 2
 refine cR λk hk=>?_
 obtain⟨b,s,g,rfl⟩:=h.key k hk
 rfl
theorem iT.get1 {as:List cJ}{many:Nat}{ks:List (List dv)}{ds:List D}{f:Nat->Nat->Nat->T}(h:iT as many ks ds f)(b s g:Nat):((ig (.dT ks ds) (dA [(b:Int),s,g])).bind λr=>some (r.getD .non))=some (cy (f b s g)):=by
 show some ((gu ks ds (gw b s g)).getD .non)=_
 rw[h.get]
 cases f b s g<;>rfl
theorem iT.in{as:List cJ}{many:Nat}{ks:List (List dv)}{ds:List D}{f:Nat->Nat->Nat->T}(h:iT as many ks ds f){k:List Int}(hk:k∈ks.map λk=>k.map kI):∃b s g:Nat,k=[(b:Int),s,g]/\∃m,f b s g=some m:=by
 obtain⟨k',Jf,e⟩:=eD.mp hk
 obtain⟨b,s,g,rfl⟩:=h.key k' Jf
 exact⟨b,s,g,e.symm,h.mem.mp Jf⟩
theorem Ul {na nb:List D}{as bs:List cJ}{many:Nat}{k1 k2:List (List dv)}{d1 d2:List D}{f1 f2:Nat->Nat->Nat->T}(ha:ut [aU na as]=some (.dT k1 d1))(hb:ut [aU nb bs]=some (.dT k2 d2))
  (s1:iT as many k1 d1 f1) (s2:iT bs many k2 d2 f2) (ln:na.length=nb.length) (few:k1.length+k2.length<64) :
  ∃w,CB [aU na as,aU nb bs]=some w/\((w=.non/\∀b s g,f1 b s g=f2 b s g)\/∃b s g:Nat,w=.tup [.int (b:Int),.int (s:Int),.int (g:Int)]/\f1 b s g≠f2 b s g):=by
 have q1:=s1.list
 have q2:=s2.list
 have uU:((k1.map λk=>k.map kI)++(k2.map λk=>k.map kI)).length<64:=by simpa using few
 have uT:((k1.map λk=>k.map kI).map dA).length+((k2.map λk=>k.map kI).map dA).length<=16777216:=by simp;omega
 have mem:∀k,k∈(k1.map λk=>k.map kI)++(k2.map λk=>k.map kI)->∃b s g:Nat,k=[(b:Int),s,g]:=by
  intro k hk
  rcases aM.mp hk with hk|hk
  ·obtain⟨b,s,g,e,_⟩:=s1.in hk;exact⟨b,s,g,e⟩
  ·obtain⟨b,s,g,e,_⟩:=s2.in hk;exact⟨b,s,g,e⟩
 have all:∀b s g,f1 b s g≠f2 b s g->[(b:Int),(s:Int),(g:Int)]∈(k1.map λk=>k.map kI)++(k2.map λk=>k.map kI):=by
  intro b s g jY
  cases e1:f1 b s g with
  |some m=>exact aS _ (eD.mpr ⟨gw b s g,s1.mem.mpr ⟨m,e1⟩,rfl⟩)
  |none=>
   cases e2:f2 b s g with
   |some m=>exact ay _ (eD.mpr ⟨gw b s g,s2.mem.mpr ⟨m,e2⟩,rfl⟩)
   |none=>exact absurd (e1.trans e2.symm) jY
 have aL:dB (.lst ((k1.map λk=>k.map kI).map dA)) (.lst ((k2.map λk=>k.map kI).map dA))=some (.lst (((k1.map λk=>k.map kI)++(k2.map λk=>k.map kI)).map dA)):=by
  show(if _ then some (D.lst _)else none)=_
  rw[if_pos uT,dN]
 generalize hK:(k1.map λk=>k.map kI)++(k2.map λk=>k.map kI)=ks at *
 have so:qJ [.lst (ks.map dA)]=some (.lst ((iY ks).map dA)):=by
  show((lq (ks.map dA)).bind λks=>if ks.length<64/\∀k∈ks,k≠[]then some (D.lst ((iY ks).map dA))else none)=_
  rw[Ld,bK,if_pos ⟨uU,λk hk=>by obtain⟨b,s,g,rfl⟩:=mem k hk;exact List.cons_ne_nil _ _⟩]
 have lp:=qh (g:=gV 4) (b:=v4) dA (λρ=>∃y4,ρ=[some (aU na as),some (aU nb bs),some (.dT k1 d1),some (.dT k2 d2),y4])
  (λk=>∀b s g:Nat,k=[(b:Int),s,g]->f1 b s g=f2 b s g) (λk w=>∃b s g:Nat,k=[(b:Int),s,g]/\w=dA k/\f1 b s g≠f2 b s g) (iY ks) [some (aU na as),some (aU nb bs),some (.dT k1 d1),some (.dT k2 d2),none] ⟨_,rfl⟩ (by
  rintro k hk ρ ⟨y4,rfl⟩
  obtain⟨b,s,g,rfl⟩:=mem k ((j7 ks).mem_iff.mp hk)
  refine⟨[some (aU na as),some (aU nb bs),some (.dT k1 d1),some (.dT k2 d2),some (dA [(b:Int),s,g])],rfl,?_⟩
  have g1:=s1.get1 b s g
  have g2:=s2.get1 b s g
  have q:=Mf (neg:=true) (f1 b s g) (f2 b s g)
  by_cases c:f1 b s g=f2 b s g
  ·refine .inl ⟨λb' s' g' e=>?_,_,?_,some (dA [(b:Int),s,g]),rfl⟩
   ·have e1:b'=b/\s'=s/\g'=g:=by simp only[List.cons.injEq,and_true]at e;omega
    rw[e1.1,e1.2.1,e1.2.2];exact c
   ·rw[c]at q
    rw[c]at g1
    generalize dA [(b:Int),s,g]=kk,cy (f2 b s g)=x,D.dT k1 d1=E6,D.dT k2 d2=sL,aU na as=n1,aU nb bs=n2 at *
    unfold v4
    walk_at "mir"
  ·refine .inr ⟨_,⟨b,s,g,rfl,rfl,c⟩,?_⟩
   rw[decide_eq_false c]at q
   generalize dA [(b:Int),s,g]=kk,cy (f2 b s g)=x,cy (f1 b s g)=y,D.dT k1 d1=E6,D.dT k2 d2=sL,aU na as=n1,aU nb bs=n2 at *
   unfold v4
   walk_at "mir")
 have n1:cP [4] "names" (aU na as)=some (.lst na):=rfl
 have n2:cP [4] "names" (aU nb bs)=some (.lst nb):=rfl
 rcases lp with⟨no,ρ',lp,y4,rfl⟩|⟨pre,k,post,w,e,_,⟨b,s,g,rfl,rfl,ne⟩,lp⟩
 ·refine⟨.non,?_,.inl ⟨rfl,λb s g=>?_⟩⟩
  ·generalize aU na as=x1 at *
   generalize aU nb bs=x2,D.dT k1 d1=E6,D.dT k2 d2=sL at *
   unfold CB
   generalize v4=B,(iY ks).map dA=L,ks.map dA=M,(k1.map λk=>k.map kI).map dA=M1,(k2.map λk=>k.map kI).map dA=M2 at *
   clear no mem all uT uU hK few s1 s2
   walk_at "mir"
  ·by_cases c:f1 b s g=f2 b s g
   ·exact c
   ·exact no _ ((j7 ks).mem_iff.mpr (all b s g c)) b s g rfl
 ·refine⟨_,?_,.inr ⟨b,s,g,rfl,ne⟩⟩
  generalize aU na as=x1,aU nb bs=x2,D.dT k1 d1=E6,D.dT k2 d2=sL at *
  unfold CB
  generalize v4=B,(iY ks).map dA=L,ks.map dA=M,(k1.map λk=>k.map kI).map dA=M1,(k2.map λk=>k.map kI).map dA=M2 at *
  clear mem all uT uU hK few s1 s2 e ne
  walk_at "mir"
  rfl
theorem iT.run {as:List cJ}{many:Nat}{ks:List (List dv)}{ds:List D}{f:Nat->Nat->Nat->T}(h:iT as many ks ds f)(ok:dJ many as){rounds:Nat}{past Y:Nat->Nat->T}(hr:Run as many (dep as) rounds past (λ_ _=>none) Y){r:Nat}(vG:r<rounds){g:Nat}(hg:g<many)(v:Int) :
  ge (Y (dep as+r) g) v↔∃b s u,0<b/\b<=dep as/\s<many/\ge (Y (dep as+r-b) s) u/\ge (f b s g) (v-u):=by
 obtain⟨S,hS,hf⟩:=h.sum
 rw[Td ok hr hS vG g hg v]
 constructor
 ·rintro⟨a,ha,hb,u,z1,z2⟩
  exact⟨a.b,a.s,u,hb,HN ha,(ok.right a ha).s,z1,(hf _ _ _ _).mpr ⟨a,ha,rfl,hb,rfl,hg,by rwa[show v-u-a.t=v-a.t-u by omega]⟩⟩
 ·rintro⟨b,s,u,hb,_,_,z1,z2⟩
  obtain⟨a,ha,e1,_,e2,_,z⟩:=(hf _ _ _ _).mp z2
  exact⟨a,ha,by omega,u,by rw[e1,e2];exact z1,by rwa[show v-a.t-u=v-u-a.t by omega]⟩
theorem iT.deep {as:List cJ}{many:Nat}{ks:List (List dv)}{ds:List D}{f:Nat->Nat->Nat->T}(h:iT as many ks ds f)(ok:dJ many as){b s g:Nat}{m:Int}(e:f b s g=some m):0<b/\b<=dep as/\b<=4/\s<many/\g<many:=by
 obtain⟨S,hS,hf⟩:=h.sum
 obtain⟨a,ha,e1,e2,e3,e4,_⟩:=(hf b s g m).mp ⟨m,e,fQ _⟩
 have:=ok.right a ha
 exact⟨e2,by rw[←e1];exact HN ha,by rw[←e1];exact this.b,by rw[←e3];exact this.s,e4⟩
def alone (b s:Nat):Nat->Nat->T:=λi g=>if i+1=b/\g=s then some 0 else none
theorem iT.alone {as:List cJ}{many:Nat}{ks:List (List dv)}{ds:List D}{f:Nat->Nat->Nat->T}(h:iT as many ks ds f)(ok:dJ many as){Y:Nat->Nat->T}{b s:Nat}(hr:Run as many (dep as) 1 (λi g=>alone b s (dep as-1-i) g) (λ_ _=>none) Y)(hb:0<b){g:Nat}(hg:g<many):Y (dep as+0) g=f b s g:=by
 refine HV λv=>?_
 rw[h.run ok hr (by decide) hg]
 have dp:=Vn as
 constructor
 ·rintro⟨b',s',u,h1,h2,h3,z1,z2⟩
  rw[Nat.add_zero,hr.past _ (by omega) _ h3]at z1
  unfold My.alone at z1
  by_cases c:dep as-1-(dep as-b')+1=b/\s'=s
  ·rw[if_pos c]at z1
   have:=CH.mp z1
   have e:b'=b:=by omega
   rw[e,c.2]at z2
   exact MR z2 (by omega)
  ·rw[if_neg c]at z1;exact absurd z1 CI
 ·intro z
  obtain⟨m,e,hm⟩:=z
  obtain⟨k1,k2,k3,k4,k5⟩:=h.deep ok e
  refine⟨b,s,0,hb,k2,k4,?_,⟨m,e,by omega⟩⟩
  rw[Nat.add_zero,hr.past _ (by omega) _ k4]
  unfold My.alone
  rw[if_pos ⟨by omega,rfl⟩]
  exact CH.mpr (fQ _)
theorem Te {as bs:List cJ}{many:Nat}{k1 k2:List (List dv)}{d1 d2:List D}{f1 f2:Nat->Nat->Nat->T}(h1:iT as many k1 d1 f1)(h2:iT bs many k2 d2 f2)(iW:dJ many as)(iX:dJ many bs)(hf:∀b s g,f1 b s g=f2 b s g){w Y Z:Nat->Nat->T}{rounds:Nat}
  (r1:Run as many (dep as) rounds (λi g=>w (dep as-1-i) g) (λ_ _=>none) Y) (r2:Run bs many (dep bs) rounds (λi g=>w (dep bs-1-i) g) (λ_ _=>none) Z):∀r,r<rounds->∀g,g<many->Y (dep as+r) g=Z (dep bs+r) g:=by
 have key:∀n r,r<n->r<rounds->∀g,g<many->Y (dep as+r) g=Z (dep bs+r) g:=by
  intro n
  induction n with
  |zero=>intro r hr;omega
  |succ n ih=>
   intro r hn hr g hg
   have back:∀b s,0<b->b<=dep as->b<=dep bs->s<many->Y (dep as+r-b) s=Z (dep bs+r-b) s:=by
    intro b s hb rJ IW hs
    by_cases c:b<=r
    ·rw[show dep as+r-b=dep as+(r-b)by omega,show dep bs+r-b=dep bs+(r-b)by omega]
     exact ih (r-b) (by omega) (by omega) s hs
    ·rw[r1.past _ (by omega) s hs,r2.past _ (by omega) s hs]
     show w _ s=w _ s
     rw[show dep as-1-(dep as+r-b)=dep bs-1-(dep bs+r-b)by omega]
   refine HV λv=>?_
   rw[h1.run iW r1 hr hg,h2.run iX r2 hr hg]
   constructor
   ·rintro⟨b,s,u,a1,a2,a3,z1,z2⟩
    rw[hf]at z2
    obtain⟨m,e,le⟩:=z2
    have dd:=(h2.deep iX e).2.1
    exact⟨b,s,u,a1,dd,a3,by rw[←back b s a1 a2 dd a3];exact z1,⟨m,e,le⟩⟩
   ·rintro⟨b,s,u,a1,a2,a3,z1,z2⟩
    rw[←hf]at z2
    obtain⟨m,e,le⟩:=z2
    have dd:=(h1.deep iW e).2.1
    exact⟨b,s,u,a1,dd,a3,by rw[back b s a1 dd a2 a3];exact z1,⟨m,e,le⟩⟩
 exactλr=>key (r+1) r (by omega)
theorem Ec {as:List cJ}{ns:List D}{many:Nat}{ks:List (List dv)}{ds:List D}{f:Nat->Nat->Nat->T}(h:iT as many ks ds f)(ok:dJ many as)(hn:ns.length=many){b s:Nat}(hb:0<b):pG [aU ns as,.int 1,.lst (bt many 4 (alone b s)),.non]=some (.lst (bt many 1 λ_ g=>f b s g)):=by
 have d4:=xH λa ha=>(ok.right a ha).b
 obtain⟨Y,ru,hY⟩:=HY (rounds:=1) (hJ:=.lst (bt many 4 (alone b s))) (lH:=.non) ok hn (by decide) (.some 4 _ d4) .no
 rw[show((1:Nat):Int)=1 from rfl]at ru
 rw[ru]
 congr 2
 refine KH λi hi g hg=>?_
 have:i=0:=by omega
 subst this
 exact h.alone ok hY hb hg
def aO (a:cJ):D:=.tup [.int (a.s:Int),.int (a.g:Int),.int a.t,.int (a.b:Int)]
structure mK (many:Nat)(M:Int)(a:cJ):Prop where
 s:a.s<many
 g:a.g<many
 t0:0<=a.t
 t1:a.t<=M
 b:a.b<=4
 r:a.b=0->a.s<a.g
theorem BA (ds:List D)(h:ds.length=8)(P:D->Prop)(hp:∀d∈ds,P d)(k:Int):∃d,atI ds (k%8)=some d/\P d:=by
 obtain⟨l,e⟩:∃l:Nat,k%8=(l:Int):=⟨(k%8).toNat,by omega⟩
 rw[e]
 have wU:l<ds.length:=by omega
 exact⟨ds[l],u6 (de wU),hp _ (gQ wU)⟩
theorem Mp (c:Int){many:Nat}(hm:1<=many):∃a:cJ,wt [.int c,.int (many:Int)]=some (aO a)/\mK many 100000000 a:=by
 obtain⟨z1,m1,_⟩:=wD c (k:=1) (by decide) (by decide)
 obtain⟨z2,m2,_⟩:=wD c (k:=2) (by decide) (by decide)
 obtain⟨z3,m3,_⟩:=wD c (k:=3) (by decide) (by decide)
 obtain⟨z5,m5,_⟩:=wD c (k:=5) (by decide) (by decide)
 have u1:eJ (.int (z1:Int)) (.int (many:Int))=some (.int ((z1%many:Nat):Int)):=by rw[zbm (by omega)];simp
 have u2:eJ (.int (z2:Int)) (.int (many:Int))=some (.int ((z2%many:Nat):Int)):=by rw[zbm (by omega)];simp
 have g1:z1%many<many:=pd _ (by omega)
 have g2:z2%many<many:=pd _ (by omega)
 generalize z1%many=x,z2%many=y at *
 obtain⟨_,bx,b,rfl,b4⟩:=BA [.int 0,.int 0,.int 0,.int 1,.int 1,.int 2,.int 3,.int 4] rfl (λd=>∃b:Nat,d=.int (b:Int)/\b<=4) (by
  intro d hd
  simp only[aA,cI,or_false]at hd
  rcases hd with rfl|rfl|rfl|rfl|rfl|rfl|rfl|rfl
  all_goals first|exact⟨0,rfl,by decide⟩|exact⟨1,rfl,by decide⟩|exact⟨2,rfl,by decide⟩|exact⟨3,rfl,by decide⟩|exact⟨4,rfl,by decide⟩) (z5:Int)
 have bx:dW (.lst [.int 0,.int 0,.int 0,.int 1,.int 1,.int 2,.int 3,.int 4]) (.int ((z5:Int)%8))=some (.int (b:Int)):=bx
 obtain⟨t,tx,t0,t1⟩:∃t:Int,dW (.lst [.int (c%9),.int (c%100000000),.int 0]) (.int ((z3:Int)%3))=some (.int t)/\0<=t/\t<=100000000:=by
  have:(z3:Int)%3=0\/(z3:Int)%3=1\/(z3:Int)%3=2:=by omega
  rcases this with e|e|e<;>rw[e]
  ·exact⟨_,rfl,by omega,by omega⟩
  ·exact⟨_,rfl,by omega,by omega⟩
  ·exact⟨_,rfl,by decide,by decide⟩
 have pw:(10:Int) ^ (8:Int).toNat=100000000:=by decide
 have big:∀b':Nat,1<=b'->b'<=4->((x:Int)=(y:Int)->lf [.int 1,.int (b:Int)]=some (.int (b':Int)))->(¬(x:Int)=(y:Int)->b'=b)->∃a:cJ,wt [.int c,.int (many:Int)]=some (aO a)/\mK many 100000000 a:=by
  intro b' rJ pD he jY
  refine⟨⟨.wait,x,y,t,b'⟩,?_,⟨g1,g2,t0,t1,pD,λh=>absurd h (by show¬b'=0;omega)⟩⟩
  have Xj:¬(b':Int)=0:=by omega
  have Xk:¬b'=0:=by omega
  unfold wt aO
  dsimp only
  by_cases wX:(x:Int)=(y:Int)
  ·have he:=he wX
   have Gr:x=y:=by omega
   subst Gr
   generalize (x:Int)=px at *
   clear jY t0 t1 g1 g2 hm b4 wX
   walk_at "mir"
  ·have jY:=jY wX
   subst jY
   generalize (x:Int)=px,(y:Int)=py at *
   clear he t0 t1 g1 g2 hm b4
   walk_at "mir"
 by_cases wX:(x:Int)=(y:Int)
 ·by_cases hb:b=0
  ·refine big 1 (by decide) (by decide) (λ_=>?_) λh=>absurd wX h
   rw[hb];rfl
  ·refine big b (by omega) b4 (λ_=>?_) λ_=>rfl
   rw[zb9]
   split
   ·rfl
   ·congr 2;omega
 ·by_cases hb:b=0
  ·clear big
   subst hb
   have n1:oF [.int (x:Int),.int (y:Int)]=some (.int ((min x y:Nat):Int)):=(ze5 _ _).trans (by congr 2;split<;>omega)
   have n2:lf [.int (x:Int),.int (y:Int)]=some (.int ((max x y:Nat):Int)):=(zb9 _ _).trans (by congr 2;split<;>omega)
   refine⟨⟨.wait,min x y,max x y,t,0⟩,?_,⟨by show min x y<many;omega,by show max x y<many;omega,t0,t1,cC _,λ_=>by show min x y<max x y;omega⟩⟩
   generalize min x y=i,max x y=j at *
   have z0:((0:Nat):Int)=0:=rfl
   rw[z0]at bx
   unfold wt aO
   dsimp only
   rw[z0]
   generalize (x:Int)=px,(y:Int)=py,(i:Int)=pi,(j:Int)=pj at *
   clear t0 t1 g1 g2 hm b4
   walk_at "mir"
  ·exact big b (by omega) b4 (λh=>absurd h wX) λ_=>rfl
def E4:gK (Int×Int×Int×Int):=⟨λp=>.tup [.int p.1,.int p.2.1,.int p.2.2.1,.int p.2.2.2],λp=>.tuple [.int p.1,.int p.2.1,.int p.2.2.1,.int p.2.2.2],1,λp=>by simp[D.py,D.pys],λp=>by simp[bC.canLay0,bC.canLayAll0],
 λp=>by simp only[bC.depth,bC.depthAll];omega,λp q=>by
  obtain⟨a,b,c,d⟩:=p
  obtain⟨a',b',c',d'⟩:=q
  simp only[bC.eqv,bC.eqvAll]
  by_cases h:a=a'<;>by_cases g:b=b'<;>by_cases k:c=c'<;>by_cases l:d=d'<;>simp[h,g,k,l]⟩
theorem UZ (as:List cJ):iH false (.lst (as.map aO)) (.lst [])=some (.bl (decide (as=[]))):=by
 have:=(El E4).eq (by decide) (neg:=false) (as.map λa=>((a.s:Int),(a.g:Int),a.t,(a.b:Int))) []
 have e:(El E4).enc (as.map λa=>((a.s:Int),(a.g:Int),a.t,(a.b:Int)))=.lst (as.map aO):=by
  show D.lst (List.map _ _)=_
  rw[df];rfl
 rw[e]at this
 have hd:decide ((as.map λa=>((a.s:Int),(a.g:Int),a.t,(a.b:Int)))=[])=decide (as=[]):=decide_eq_decide.mpr (by simp)
 rw[hd]at this
 exact this
theorem rB {xs ys:List D}(h:xs.length+ys.length<=16777216):dB (.lst xs) (.lst ys)=some (.lst (xs++ys)):=by
 show(if _ then some (D.lst _)else none)=_
 rw[if_pos h]
theorem mK.up {many:Nat}{M N:Int}{a:cJ}(h:mK many M a)(hn:M<=N):mK many N a:=⟨h.s,h.g,h.t0,nk h.t1 hn,h.b,h.r⟩
theorem Sn (c:Int){many:Nat}(hm:1<=many){as:List cJ}(hl:as.length<=8)(h:∀a∈as,mK many 100000000 a) :
  ∃bs:List cJ,yn [.lst (as.map aO),.int (many:Int),.int c]=some (.lst (bs.map aO))/\bs.length<=9/\∀a∈bs,mK many 100000003 a:=by
 obtain⟨z6,m6,_⟩:=wD c (k:=6) (by decide) (by decide)
 obtain⟨z7,m7,_⟩:=wD c (k:=7) (by decide) (by decide)
 obtain⟨a',p1,p2⟩:=Mp c hm
 have en:=UZ as
 have up:∀a∈as,mK many 100000003 a:=λa ha=>(h a ha).up (by decide)
 by_cases c0:as=[]\/(z6:Int)%5=0
 ·refine⟨as++[a'],?_,by simp;omega,λa ha=>?_⟩
  ·have ad:dB (.lst (as.map aO)) (.lst [aO a'])=some (.lst ((as++[a']).map aO)):=by
    rw[rB (by simp;omega),dN];rfl
   generalize (as++[a']).map aO=L2,aO a'=e1 at *
   by_cases c1:as=[]
   ·rw[decide_eq_true c1]at en
    generalize as.map aO=L at *
    clear c1 c0 up h hl hm p2
    unfold yn
    walk_at "mir"
   ·rw[decide_eq_false c1]at en
    have c2:(z6:Int)%5=0:=c0.resolve_left c1
    generalize as.map aO=L at *
    clear c1 c0 up h hl hm p2
    unfold yn
    walk_at "mir"
  ·rcases aM.mp ha with ha|ha
   ·exact up a ha
   ·rw[aH.mp ha];exact p2.up (by decide)
 ·have c1:¬as=[]:=λz=>c0 (.inl z)
  have c2:¬(z6:Int)%5=0:=λz=>c0 (.inr z)
  clear c0 p1 p2
  rw[decide_eq_false c1]at en
  have hp:0<as.length:=oh.mpr c1
  obtain⟨i,hi⟩:∃i,i=z7%as.length:=⟨_,rfl⟩
  have sR:i<as.length:=by rw[hi];exact pd _ hp
  have u7:eJ (.int (z7:Int)) (.int (as.length:Int))=some (.int (i:Int)):=by rw[zbm (by omega),hi];simp
  have ln:eG [.lst (as.map aO)]=some (.int (as.length:Int)):=(zbn _).trans (by rw[aF])
  have ix:dW (.lst (as.map aO)) (.int (i:Int))=some (aO as[i]):=u6 (by rw[aW,de sR];rfl)
  have pa:=h _ (gQ sR)
  generalize as[i]=a at *
  have k1:cutD (as.map aO) none (some (i:Int))=(as.take i).map aO:=by rw[KQ,md]
  have k2:cutD (as.map aO) (some ((i:Int)+1)) none=(as.drop (i+1)).map aO:=by
   rw[show(i:Int)+1=((i+1:Nat):Int)by omega,KR,sy]
  have j2:dW (aO a) (.int 2)=some (.int a.t):=rfl
  have j3:dW (aO a) (.int 3)=some (.int (a.b:Int)):=rfl
  have s2:kd (aO a) none (some 2)=some (.tup [.int (a.s:Int),.int (a.g:Int)]):=rfl
  have s3:kd (aO a) none (some 3)=some (.tup [.int (a.s:Int),.int (a.g:Int),.int a.t]):=rfl
  have mem:∀x,mK many 100000003 x->∀y∈as.take i++[x]++as.drop (i+1),mK many 100000003 y:=by
   intro x hx y hy
   rw[e8,aM,aM,aH]at hy
   rcases hy with hy|rfl|hy
   ·exact up y (ez hy)
   ·exact hx
   ·exact up y (nL hy)
  have wN:∀x:cJ,dB (.lst ((as.take i).map aO)) (.lst [aO x])=some (.lst ((as.take i).map aO++[aO x]))/\dB (.lst ((as.take i).map aO++[aO x])) (.lst ((as.drop (i+1)).map aO))=some (.lst ((as.take i++[x]++as.drop (i+1)).map aO)):=by
   intro x
   refine⟨rB (by simp;omega),?_⟩
   rw[rB (by simp;omega),dN,dN];rfl
  have two:∀x:cJ,mK many 100000003 x->(as.take i++[x]++as.drop (i+1)).length<=9:=λx _=>by simp;omega
  by_cases c3:(z6:Int)%5=1
  ·refine⟨as.take i++as.drop (i+1),?_,by simp;omega,λy hy=>?_⟩
   ·have ad:dB (.lst ((as.take i).map aO)) (.lst ((as.drop (i+1)).map aO))=some (.lst ((as.take i++as.drop (i+1)).map aO)):=by
     rw[rB (by simp;omega),dN]
    generalize (as.take i++as.drop (i+1)).map aO=L3,(as.take i).map aO=L1 at *
    generalize (as.drop (i+1)).map aO=L2,as.map aO=L,aO a=ea,(as.length:Int)=ll at *
    clear c1 up h hl hm mem two wN sR hi hp pa
    unfold yn
    walk_at "mir"
   ·rcases aM.mp hy with hy|hy
    ·exact up y (ez hy)
    ·exact up y (nL hy)
  ·by_cases c4:(z6:Int)%5=2
   ·have hx:mK many 100000003 ⟨.wait,a.s,a.g,a.t+1+c%3,a.b⟩:=⟨pa.s,pa.g,by have:=pa.t0;show 0<=a.t+1+c%3;omega,by have:=pa.t1;show a.t+1+c%3<=_;omega,pa.b,pa.r⟩
    refine⟨_,?_,two _ hx,mem _ hx⟩
    obtain⟨q1,q2⟩:=wN ⟨.wait,a.s,a.g,a.t+1+c%3,a.b⟩
    have at':dB (.tup [.int (a.s:Int),.int (a.g:Int)]) (.tup [.int (a.t+1+c%3),.int (a.b:Int)])=some (aO ⟨.wait,a.s,a.g,a.t+1+c%3,a.b⟩):=rfl
    generalize (as.take i++[_]++as.drop (i+1)).map aO=L3,aO ⟨.wait,a.s,a.g,a.t+1+c%3,a.b⟩=ex at *
    generalize (as.take i).map aO++[ex]=L4 at *
    generalize (as.take i).map aO=L1,(as.drop (i+1)).map aO=L2,as.map aO=L,aO a=ea,(as.length:Int)=ll at *
    clear c1 up h hl hm mem two wN sR hi hp pa hx
    unfold yn
    walk_at "mir"
   ·by_cases c5:(z6:Int)%5=3/\(a.b:Int) > 0
    ·have hb:=pa.b
     have hx:mK many 100000003 ⟨.wait,a.s,a.g,a.t,1+a.b%4⟩:=⟨pa.s,pa.g,pa.t0,(pa.up (by decide)).t1,by show 1+a.b%4<=4;omega,λz=>absurd z (by show¬1+a.b%4=0;omega)⟩
     refine⟨_,?_,two _ hx,mem _ hx⟩
     obtain⟨q1,q2⟩:=wN ⟨.wait,a.s,a.g,a.t,1+a.b%4⟩
     have at':dB (.tup [.int (a.s:Int),.int (a.g:Int),.int a.t]) (.tup [.int (1+(a.b:Int)%4)])=some (aO ⟨.wait,a.s,a.g,a.t,1+a.b%4⟩):=by
      show some (D.tup _)=some (D.tup _)
      rw[show((1+a.b%4:Nat):Int)=1+(a.b:Int)%4 by omega];rfl
     obtain⟨c6,c7⟩:=c5
     generalize (as.take i++[_]++as.drop (i+1)).map aO=L3,aO ⟨.wait,a.s,a.g,a.t,1+a.b%4⟩=ex at *
     generalize (as.take i).map aO++[ex]=L4 at *
     generalize (as.take i).map aO=L1,(as.drop (i+1)).map aO=L2,as.map aO=L,aO a=ea,(as.length:Int)=ll,(a.b:Int)=ab at *
     clear c1 up h hl hm mem two wN sR hi hp pa hx hb c3 c4
     unfold yn
     walk_at "mir"
    ·refine⟨as,?_,by omega,up⟩
     have li:jO [.lst (as.map aO)]=some (.lst (as.map aO)):=rfl
     generalize as.map aO=L,aO a=ea,(as.length:Int)=ll,(a.b:Int)=ab at *
     clear c1 up h hl hm mem two wN sR hi hp pa k1 k2 s2 s3
     unfold yn
     by_cases c6:(z6:Int)%5=3
     ·have c7:¬ab > 0:=λz=>c5 ⟨c6,z⟩
      clear c5 c3 c4 c2
      walk_at "mir"
     ·clear c5
      walk_at "mir"
structure CW (many:Nat)(rk:Nat->Nat)(a:cJ):Prop where
 s:a.s<many
 g:a.g<many
 t0:0<=a.t
 t1:a.t<=1000000000
 b:a.b<=4
 r:a.b=0->rk a.s<rk a.g
def Cu (many:Nat)(a:cJ):cJ:=⟨.wait,many-1-a.s,many-1-a.g,a.t,a.b⟩
theorem Lh (c:Int){many:Nat}{as:List cJ}(hl:as.length<=9)(h:∀a∈as,mK many 100000003 a) :
  ∃(bs:List cJ) (rk:Nat->Nat),vb [.lst (as.map aO),.int (many:Int),.int c]=some (.lst (bs.map aO))/\bs.length=as.length/\∀a∈bs,CW many rk a:=by
 by_cases e:c%2=0
 ·refine⟨as,id,?_,rfl,λa ha=>?_⟩
  ·generalize as.map aO=L at *
   clear h hl
   unfold vb
   generalize vo=Q at *
   walk_at "mir"
  ·have:=h a ha
   exact⟨this.s,this.g,this.t0,nk this.t1 (by decide),this.b,this.r⟩
 ·refine⟨as.map (Cu many),λx=>many-1-x,?_,aF _,λa ha=>?_⟩
  ·have q:vo [some (.lst (as.map aO)),some (.int (many:Int)),some (.int c)]=some (.lst ((as.map (Cu many)).map aO)):=by
    rw[df]
    refine wp aO _ as rfl (by omega) λa ha=>⟨[some (aO a),some (.int (many:Int))],rfl,?_⟩
    have pa:=h a ha
    have j0:dW (aO a) (.int 0)=some (.int (a.s:Int)):=rfl
    have j1:dW (aO a) (.int 1)=some (.int (a.g:Int)):=rfl
    have j2:dW (aO a) (.int 2)=some (.int a.t):=rfl
    have j3:dW (aO a) (.int 3)=some (.int (a.b:Int)):=rfl
    have r:aO (Cu many a)=.tup [.int ((many:Int)-1-(a.s:Int)),.int ((many:Int)-1-(a.g:Int)),.int a.t,.int (a.b:Int)]:=by
     have h1:=pa.s
     have h2:=pa.g
     show D.tup [.int ((many-1-a.s:Nat):Int),.int ((many-1-a.g:Nat):Int),_,_]=_
     rw[show((many-1-a.s:Nat):Int)=(many:Int)-1-(a.s:Int)by omega,show((many-1-a.g:Nat):Int)=(many:Int)-1-(a.g:Int)by omega];rfl
    show _=some (aO (Cu many a))
    rw[r]
    generalize aO a=ea at *
    clear r pa h hl e ha
    walk_at "mir"
   generalize (as.map (Cu many)).map aO=L2,as.map aO=L at *
   clear h hl
   unfold vb
   generalize vo=Q at *
   walk_at "mir"
  ·obtain⟨b,hb,rfl⟩:=eD.mp ha
   have hb:=h b hb
   have h1:=hb.s
   have h2:=hb.g
   exact⟨by show many-1-b.s<many;omega,by show many-1-b.g<many;omega,hb.t0,nk hb.t1 (by decide),hb.b,λz=>by have:=hb.r z;show many-1-(many-1-b.s)<many-1-(many-1-b.g);omega⟩
def vM (k:Nat):aR:=⟨#[97+k]⟩
def ij (n:Nat):List D:=(aE n).map λ(k:Nat)=>D.str (vM k)
def Jq:Option D->Bool
 |some (.bl true)=>true
 |_=>false
theorem WH {x:Option D}(h:Jq x=true):x=some (.bl true):=by
 unfold Jq at h
 split at h
 ·rfl
 ·cases h
theorem WD {n:Nat}(h1:1<=n)(h2:n<=6):jf [.lst (ij n)]=some (.bl true):=by
 have:n=1\/n=2\/n=3\/n=4\/n=5\/n=6:=by omega
 rcases this with rfl|rfl|rfl|rfl|rfl|rfl<;>exact WH (by decide +kernel)
def Gw (x:Option D)(c:aR):Bool:=match x with
 |some (.str a)=>decide (a=c)
 |_=>false
theorem WI {x:Option D}{c:aR}(h:Gw x c=true):x=some (.str c):=by
 unfold Gw at h
 split at h
 ·rw[of_decide_eq_true h]
 ·cases h
theorem Gx:∀l,l<6->Gw (dW (.str "abcdef") (.int ((l:Nat):Int))) (vM l)=true:=by decide +kernel
def wY (b:Nat)(m:Int):Kd:=if m%2=0 then(if b=0 then .ride else .back)else .wait
def Dv (a:cJ)(m:Int):cJ:=⟨wY a.b m,a.s,a.g,a.t,a.b⟩
theorem CW.right {many:Nat}{rk:Nat->Nat}{a:cJ}(h:CW many rk a)(m:Int):Right many (Dv a m):=by
 refine⟨h.s,h.g,h.t0,h.t1,h.b,λz=>?_,λz=>?_⟩
 ·show a.b=0
  have z:wY a.b m=.ride:=z
  unfold wY at z
  split at z
  ·split at z
   ·assumption
   ·cases z
  ·cases z
 ·show 1<=a.b
  have z:wY a.b m=.back:=z
  unfold wY at z
  split at z
  ·split at z
   ·cases z
   ·omega
  ·cases z
theorem U0 (a:cJ)(k:Nat)(st:Int){AS:List D}(hA:AS.length<16777216)(P m:Option D):ub [P,m,some (.int st),some (.lst AS),some (.int (k:Int)),some (aO a)]=some (.nx [P,m,some (.int st),some (.lst (AS++[bP (Dv a ((k:Int)+st))])),some (.int (k:Int)),some (aO a)]):=by
 have r1:jc 1 [.int (a.s:Int),.int (a.g:Int),.int a.t]=some (.obj 1 ["start","goal","time","behind"] [.int (a.s:Int),.int (a.g:Int),.int a.t,.int 0]):=rfl
 have r2:jd 2 [.int (a.s:Int),.int (a.g:Int),.int a.t,.int (a.b:Int)]=some (.obj 2 ["start","goal","time","behind"] [.int (a.s:Int),.int (a.g:Int),.int a.t,.int (a.b:Int)]):=rfl
 have r3:je 3 [.int (a.s:Int),.int (a.g:Int),.int a.t,.int (a.b:Int)]=some (.obj 3 ["start","goal","time","behind"] [.int (a.s:Int),.int (a.g:Int),.int a.t,.int (a.b:Int)]):=rfl
 have j0:dW (aO a) (.int 0)=some (.int (a.s:Int)):=rfl
 have j1:dW (aO a) (.int 1)=some (.int (a.g:Int)):=rfl
 have j2:dW (aO a) (.int 2)=some (.int a.t):=rfl
 have j3:dW (aO a) (.int 3)=some (.int (a.b:Int)):=rfl
 generalize aO a=ea at *
 obtain⟨c,s,g,t,b⟩:=a
 unfold ub bP Dv wY
 dsimp only at *
 by_cases hk:((k:Int)+st)%2=0
 ·rw[if_pos hk]
  by_cases hb:b=0
  ·rw[if_pos hb]
   have rJ:(b:Int)=0:=by omega
   rw[rJ]at j3 ⊢
   show _=some (Out.nx [_,_,_,some (.lst (AS++[D.obj 1 _ _])),_,_])
   clear r2 r3 hb rJ
   generalize (k:Int)=ki at *
   walk_at "mir"
  ·rw[if_neg hb]
   have rJ:¬(b:Int)=0:=by omega
   have IW:(b:Int) > 0:=by omega
   show _=some (Out.nx [_,_,_,some (.lst (AS++[D.obj 3 _ _])),_,_])
   clear r1 r2 hb
   generalize (b:Int)=bi,(k:Int)=ki at *
   walk_at "mir"
 ·rw[if_neg hk]
  show _=some (Out.nx [_,_,_,some (.lst (AS++[D.obj 2 _ _])),_,_])
  clear r1 r3
  by_cases hb:b=0
  ·have rJ:(b:Int)=0:=by omega
   rw[rJ]at r2 j3 ⊢
   clear hb rJ
   generalize (k:Int)=ki at *
   walk_at "mir"
  ·have rJ:¬(b:Int)=0:=by omega
   have IW:(b:Int) > 0:=by omega
   clear hb
   generalize (b:Int)=bi,(k:Int)=ki at *
   walk_at "mir"
theorem Ms {many:Nat}(h1:1<=many)(h6:many<=6){bs:List cJ}{rk:Nat->Nat}(hl:bs.length<=9)(h:∀a∈bs,CW many rk a)(st:Int) :
  ∃as:List cJ,jy [.lst (bs.map aO),.int (many:Int),.int st]=some (aU (ij many) as)/\as.length<=9/\dJ many as:=by
 have nl:(ij many).length=many:=by unfold ij;rw[aF,bW]
 have q1:∀r:L3.Env,r[1]?.join=some (.int (many:Int))->Hb r=some (.lst (ij many)):=λr hr=>by
  refine wp (λ(t:Nat)=>D.int (t:Int)) _ (aE many) (qp (by rw[←hr];rfl) (by omega)) (by simp;omega) λk hk=>⟨[some (.int (k:Int))],rfl,?_⟩
  have:=WI (Gx k (by have:=bw.mp hk;omega))
  generalize vM k=L at *
  clear hk hr nl
  walk_at "mir"
 obtain⟨ρ',lp,as,y4,y5,e1,rfl,hr,hk⟩:=ui (g:=gT (gsCons (gV 4) (gsCons (gV 5) gsNil))) (b:=ub) (ds:=et 0 (bs.map aO)) (ρ:=[some (.lst (bs.map aO)),some (.int (many:Int)),some (.int st),some (.lst []),none,none])
  (λds ρ=>∃(as:List cJ) (y4 y5:Option D),ds.length=as.length/\ρ=[some (.lst (bs.map aO)),some (.int (many:Int)),some (.int st),some (.lst (as.map bP)),y4,y5]/\(∀a∈as,Right many a)/\∀a∈as,a.b=0->rk a.s<rk a.g)
  ⟨[],none,none,rfl,rfl,λ_ h=>(by cases h),λ_ h=>(by cases h)⟩ (by
   rintro pre d post ρ e ⟨as,y4,y5,e1,rfl,hr,hk⟩
   have Az:as.length<=9:=by
    have:=congrArg fM e
    rw[DN,aF,bn]at this
    omega
   obtain⟨x,hx,rfl⟩:=DM (xF e)
   rw[aW]at hx
   obtain⟨a,ha,rfl⟩:=cw.mp hx
   have pa:=h a (bV.mpr ⟨_,ha⟩)
   refine⟨_,_,rfl,.inl (U0 a _ st (by rw[aF];omega) _ _),as++[Dv a (((0+pre.length:Nat):Int)+st)],some (.int ((0+pre.length:Nat):Int)),some (aO a),by simp[e1],by rw[dN];rfl,λb hb=>?_,λb hb=>?_⟩
   ·rcases aM.mp hb with hb|hb
    ·exact hr b hb
    ·rw[aH.mp hb];exact pa.right _
   ·rcases aM.mp hb with hb|hb
    ·exact hk b hb
    ·rw[aH.mp hb];exact pa.r)
 have Az:as.length<=9:=by rw[←e1,DN,aF];exact hl
 have ok:dJ many as:=⟨h1,by omega,by omega,hr,rk,hk⟩
 refine⟨as,?_,Az,ok⟩
 have nt:=WA (ns:=ij many) ok nl (WD h1 h6)
 have q1:=q1 [some (.lst (bs.map aO)),some (.int (many:Int)),some (.int st),some (.lst (as.map bP)),y4,y5] rfl
 generalize aU (ij many) as=R at *
 generalize ij many=nm,as.map bP=AS,bs.map aO=BS at *
 clear nl hr hk ok Az h hl e1
 unfold jy
 generalize Hb=Q,ub=B at *
 walk_at "mir"
theorem LN (neg:Bool)(many m:Nat)(Y Z:Nat->Nat->T):∃e:Bool,iH neg (.lst (bt many m Y)) (.lst (bt many m Z))=some (.bl (if neg then !e else e))/\(e=true↔∀i,i<m->∀g,g<many->Y i g=Z i g):=by
 have:=(El (El Eo)).eq (by decide) (neg:=neg) ((aE m).map λi=>(aE many).map λg=>Y i g) ((aE m).map λi=>(aE many).map λg=>Z i g)
 have e:∀Y:Nat->Nat->T,(El (El Eo)).enc ((aE m).map λi=>(aE many).map λg=>Y i g)=.lst (bt many m Y):=by
  intro Y
  show D.lst _=_
  unfold bt bY
  rw[df]
  congr 1
  apply cR
  intro i _
  show D.lst _=_
  rw[df]
  rfl
 rw[e,e]at this
 refine⟨_,this,?_⟩
 rw[decide_eq_true_iff]
 constructor
 ·intro h i hi g hg
  have h1:=(o7.mp h) i (bw.mpr hi)
  exact(o7.mp h1) g (bw.mpr hg)
 ·intro h
  exact cR λi hi=>cR λg hg=>h i (bw.mp hi) g (bw.mp hg)
theorem LO {many b s:Nat}(hm:many<=6)(hb:1<=b)(pD:b<=4)(hs:s<many):uc [.int (many:Int),.int (b:Int),.int (s:Int)]=some (.lst (bt many 4 (alone b s))):=by
 have q2:ji [some (.int (many:Int)),some (.int (b:Int)),some (.int (s:Int)),none]=some (.lst (bt many 4 λ_ _=>none)):=by
  refine wp (λ(t:Nat)=>D.int (t:Int)) (λi=>D.lst (bY many λ_=>none)) (aE 4) (qp (n:=4) rfl (by decide)) (by simp) λi hi=>⟨[some (.int (i:Int)),some (.int (many:Int))],rfl,?_⟩
  exact wp (λ(t:Nat)=>D.int (t:Int)) _ (aE many) (qp rfl (by omega)) (by simp;omega) λg hg=>⟨[some (.int (g:Int))],rfl,rfl⟩
 have vs:=DW (λ_=>none) hs (some 0)
 have ro:∀Y:Nat->Nat->T,bt many 4 Y=[.lst (bY many (Y 0)),.lst (bY many (Y 1)),.lst (bY many (Y 2)),.lst (bY many (Y 3))]:=λ_=>rfl
 have al:∀i,bY many (alone b s i)=if i+1=b then bY many (λx=>if x=s then some 0 else none)else bY many λ_=>none:=by
  intro i
  by_cases c:i+1=b
  ·rw[if_pos c];exact vi λg _=>by unfold alone;simp only[c,true_and]
  ·rw[if_neg c];exact vi λg _=>by unfold alone;rw[if_neg λz=>c z.1]
 have pb:kc 3 (e2 ke (eV 1) (eC (.int 1))) (eV 2) (eC (.int 0)) [some (.int (many:Int)),some (.int (b:Int)),some (.int (s:Int)),some (.lst (bt many 4 λ_ _=>none))]=some (.nx [some (.int (many:Int)),some (.int (b:Int)),some (.int (s:Int)),some (.lst (bt many 4 (alone b s)))]):=by
  rw[ro,ro,al,al,al,al]
  generalize bY many (λ_=>none)=V,bY many (λx=>if x=s then some 0 else none)=W at *
  have hb:b=1\/b=2\/b=3\/b=4:=by omega
  rcases hb with rfl|rfl|rfl|rfl
  ·show((ik V (s:Int) (cy (some 0))).bind λkA=>some (Out.nx [_,_,_,some (.lst [.lst kA,.lst V,.lst V,.lst V])]))=_
   rw[vs];rfl
  ·show((ik V (s:Int) (cy (some 0))).bind λkA=>some (Out.nx [_,_,_,some (.lst [.lst V,.lst kA,.lst V,.lst V])]))=_
   rw[vs];rfl
  ·show((ik V (s:Int) (cy (some 0))).bind λkA=>some (Out.nx [_,_,_,some (.lst [.lst V,.lst V,.lst kA,.lst V])]))=_
   rw[vs];rfl
  ·show((ik V (s:Int) (cy (some 0))).bind λkA=>some (Out.nx [_,_,_,some (.lst [.lst V,.lst V,.lst V,.lst kA])]))=_
   rw[vs];rfl
 clear vs ro al
 generalize bt many 4 (alone b s)=R,bt many 4 (λ_ _=>none)=R0 at *
 unfold uc
 generalize ji=Q,kc 3 (e2 ke (eV 1) (eC (.int 1))) (eV 2) (eC (.int 0))=PU at *
 clear hs hb pD hm
 walk_at "mir"
section
variable {na nb:List D}{as bs:List cJ}{many:Nat}{k1 k2:List (List dv)}{d1 d2:List D}{f1 f2:Nat->Nat->Nat->T}
theorem U1 (h1:iT as many k1 d1 f1)(h2:iT bs many k2 d2 f2)(iW:dJ many as)(iX:dJ many bs)(la:na.length=many)(lb:nb.length=many)(hm:many<=6){b s:Nat}(hb:1<=b)(pD:b<=4)(hs:s<many)(y5:Option D) :
  ((∀g,g<many->f1 b s g=f2 b s g)/\∃z5,zx [some (aU na as),some (aU nb bs),some (.int (many:Int)),some (.int (b:Int)),some (.int (s:Int)),y5]=some (.nx [some (aU na as),some (aU nb bs),some (.int (many:Int)),some (.int (b:Int)),some (.int (s:Int)),z5])) \/
  ((∃g,f1 b s g≠f2 b s g)/\zx [some (aU na as),some (aU nb bs),some (.int (many:Int)),some (.int (b:Int)),some (.int (s:Int)),y5]=some (.rt (.bl true))):=by
 have al:=LO hm hb pD hs
 have r1:=Ec h1 iW la (s:=s) hb
 have r2:=Ec h2 iX lb (s:=s) hb
 obtain⟨e,q,he⟩:=LN true many 1 (λ_ g=>f1 b s g) (λ_ g=>f2 b s g)
 generalize aU na as=n1,aU nb bs=n2,bt many 4 (alone b s)=R,bt many 1 (λ_ g=>f1 b s g)=R1,bt many 1 (λ_ g=>f2 b s g)=R2 at *
 cases e with
 |true=>
  refine .inl ⟨he.mp rfl 0 (by decide),some (.lst R),?_⟩
  clear he h1 h2 iW iX la lb hm hb pD hs
  unfold zx
  walk_at "mir"
 |false=>
  refine .inr ⟨?_,?_⟩
  ·by_cases c:∃g,f1 b s g≠f2 b s g
   ·exact c
   ·have:false=true:=he.mpr λi hi g hg=>Classical.not_not.mp λz=>c ⟨g,z⟩
    cases this
  ·clear he h1 h2 iW iX la lb hm hb pD hs
   unfold zx
   walk_at "mir"
end
section
variable {na nb:List D}{as bs:List cJ}{many:Nat}{k1 k2:List (List dv)}{d1 d2:List D}{f1 f2:Nat->Nat->Nat->T}
theorem RV (h1:iT as many k1 d1 f1)(h2:iT bs many k2 d2 f2)(iW:dJ many as)(iX:dJ many bs)(la:na.length=many)(lb:nb.length=many)(hm:many<=6) :
    ∃e:Bool,xj [aU na as,aU nb bs,.int (many:Int)]=some (.bl e)/\(e=false↔∀b s g,f1 b s g=f2 b s g):=by
  have Jp:∀b,1<=b->b<=4->∀y4 y5:Option D,((∀s,s<many->∀g,g<many->f1 b s g=f2 b s g)/\∃z4 z5,zn [some (aU na as),some (aU nb bs),some (.int (many:Int)),some (.int ((b:Nat):Int)),y4,y5]=some (.nx [some (aU na as),some (aU nb bs),some (.int (many:Int)),some (.int (b:Int)),z4,z5])) \/
      ((∃s g,f1 b s g≠f2 b s g)/\zn [some (aU na as),some (aU nb bs),some (.int (many:Int)),some (.int (b:Int)),y4,y5]=some (.rt (.bl true))):=by
    intro b hb pD y4 y5
    have lp:=qh (g:=gV 4) (b:=zx) (λ(t:Nat)=>D.int (t:Int)) (λρ=>∃y4 y5,ρ=[some (aU na as),some (aU nb bs),some (.int (many:Int)),some (.int (b:Int)),y4,y5])
      (λs=>∀g,g<many->f1 b s g=f2 b s g) (λs w=>w=.bl true/\∃g,f1 b s g≠f2 b s g) (aE many) [some (aU na as),some (aU nb bs),some (.int (many:Int)),some (.int (b:Int)),y4,y5] ⟨_,_,rfl⟩ (by
      rintro s hs ρ ⟨y4,y5,rfl⟩
      refine⟨[some (aU na as),some (aU nb bs),some (.int (many:Int)),some (.int (b:Int)),some (.int (s:Int)),y5],rfl,?_⟩
      rcases U1 h1 h2 iW iX la lb hm hb pD (bw.mp hs) y5 with⟨a1,z5,a2⟩|⟨a1,a2⟩
      · exact .inl ⟨a1,_,a2,_,_,rfl⟩
      · exact .inr ⟨_,⟨rfl,a1⟩,a2⟩)
    have rg:=qp (f:=eV 2) (r:=[some (aU na as),some (aU nb bs),some (.int (many:Int)),some (.int (b:Int)),y4,y5]) (n:=many) rfl (by omega)
    have un:zn [some (aU na as),some (aU nb bs),some (.int (many:Int)),some (.int (b:Int)),y4,y5]=fy (gV 4) zx ((aE many).map λ(t:Nat)=>D.int (t:Int)) [some (aU na as),some (aU nb bs),some (.int (many:Int)),some (.int (b:Int)),y4,y5]:=by
      unfold zn sFor
      simp -implicitDefEqProofs only[rg,bK]
    rcases lp with⟨no,ρ',lp,z4,z5,rfl⟩|⟨pre,s,post,w,e,_,⟨rfl,ne⟩,lp⟩
    · exact .inl ⟨λs hs=>no s (bw.mpr hs),z4,z5,un.trans lp⟩
    · exact .inr ⟨⟨s,ne⟩,un.trans lp⟩
  have lp:=qh (g:=gV 3) (b:=zn) (λ(t:Nat)=>D.int (t:Int)) (λρ=>∃y3 y4 y5,ρ=[some (aU na as),some (aU nb bs),some (.int (many:Int)),y3,y4,y5])
    (λb=>∀s,s<many->∀g,g<many->f1 b s g=f2 b s g) (λb w=>w=.bl true/\∃s g,f1 b s g≠f2 b s g) [1,2,3,4] [some (aU na as),some (aU nb bs),some (.int (many:Int)),none,none,none] ⟨_,_,_,rfl⟩ (by
    rintro b hb ρ ⟨y3,y4,y5,rfl⟩
    refine⟨[some (aU na as),some (aU nb bs),some (.int (many:Int)),some (.int (b:Int)),y4,y5],rfl,?_⟩
    have hb:b=1\/b=2\/b=3\/b=4:=by simpa using hb
    rcases Jp b (by omega) (by omega) y4 y5 with⟨a1,z4,z5,a2⟩|⟨a1,a2⟩
    · exact .inl ⟨a1,_,a2,_,_,_,rfl⟩
    · exact .inr ⟨_,⟨rfl,a1⟩,a2⟩)
  have un:xj [aU na as,aU nb bs,.int (many:Int)]=((fy (gV 3) zn ([1,2,3,4].map λ(t:Nat)=>D.int (t:Int)) [some (aU na as),some (aU nb bs),some (.int (many:Int)),none,none,none]).bind λo=>match o with|.nx _=>some (.bl false)|.rt d=>some d|_=>none):=by
    generalize aU na as=n1,aU nb bs=n2 at *
    unfold xj
    generalize zn=B at *
    have rg:∀r:L3.Env,((aCons (eC (.int 1)) (aCons (eC (.int 5)) aNil)) r).bind n6=some ([1,2,3,4].map λ(t:Nat)=>D.int (t:Int)):=λr=>by
      show n6 [.int 1,.int 5]=_
      rw[TY (by decide) (by decide) (by decide) (by decide)];rfl
    unfold mOf startD sSeq sFor
    simp -implicitDefEqProofs only[rg,bK]
    show((fy (gV 3) B _ [some n1,some n2,some (.int (many:Int)),none,none,none]).bind _).bind _=_
    generalize fy (gV 3) B _ [some n1,some n2,some (.int (many:Int)),none,none,none]=O
    clear lp Jp rg
    rcases O with _|o
    · rfl
    · cases o<;>rfl
  rcases lp with⟨no,ρ',lp,z3,z4,z5,rfl⟩|⟨pre,b,post,w,e,_,⟨rfl,s,g,ne⟩,lp⟩
  · refine⟨false,(by rw[un,lp];rfl),λ_ b s g=>?_,λ_=>rfl⟩
    by_cases c:f1 b s g=f2 b s g
    · exact c
    · have:0<b/\b<=4/\s<many/\g<many:=by
        cases e1:f1 b s g with
        |some m=>have:=h1.deep iW e1;exact⟨this.1,this.2.2⟩
        |none=>
          cases e2:f2 b s g with
          |some m=>have:=h2.deep iX e2;exact⟨this.1,this.2.2⟩
          |none=>exact absurd (e1.trans e2.symm) c
      exact no b (by have:b=1\/b=2\/b=3\/b=4:=by omega
                     simpa using this) s this.2.2.1 g this.2.2.2
  · exact⟨true,(by rw[un,lp];rfl),λz=>(by cases z),λz=>absurd (z b s g) ne⟩
end
theorem Mq {many m:Nat}{Y:Nat->Nat->T}{i g:Nat}(hi:i<m)(hg:g<many):dW (.lst (bt many m Y)) (.int (i:Int))=some (.lst (bY many (Y i)))/\dW (.lst (bY many (Y i))) (.int (g:Int))=some (cy (Y i g)) :=
 ⟨u6 (by unfold bt;rw[aW,cQ hi];rfl),Ea _ hg⟩
theorem U2 (i:Int):jh [.int i]=some (.bl true):=by
 have h1:jZ "int" (.int i)=some (.bl true):=rfl
 have h2:jZ "bool" (.int i)=some (.bl false):=rfl
 unfold jh
 walk_at "mir"
section
variable {na nb:List D}{as bs:List cJ}{many:Nat}{k1 k2:List (List dv)}{d1 d2:List D}{f1 f2:Nat->Nat->Nat->T}
theorem Um (h1:iT as many k1 d1 f1)(h2:iT bs many k2 d2 f2)(iW:dJ many as)(iX:dJ many bs){b s g:Nat}(c:f1 b s g≠f2 b s g):1<=b/\b<=4/\s<many/\g<many:=by
 cases e1:f1 b s g with
 |some m=>have:=h1.deep iW e1;exact⟨this.1,this.2.2⟩
 |none=>
  cases e2:f2 b s g with
  |some m=>have:=h2.deep iX e2;exact⟨this.1,this.2.2⟩
  |none=>exact absurd (e1.trans e2.symm) c
theorem U3 (h1:iT as many k1 d1 f1)(h2:iT bs many k2 d2 f2)(iW:dJ many as)(iX:dJ many bs)(la:na.length=many)(lb:nb.length=many)(hm:many<=6){b s g:Nat}(ne:f1 b s g≠f2 b s g) :
  jl [aU na as,aU nb bs,.int (many:Int),.tup [.int (b:Int),.int (s:Int),.int (g:Int)]]=some (.bl true):=by
 obtain⟨hb,pD,hs,hg⟩:=Um h1 h2 iW iX ne
 have al:=LO hm hb pD hs
 have r1:=Ec h1 iW la (s:=s) hb
 have r2:=Ec h2 iX lb (s:=s) hb
 obtain⟨i1,i2⟩:=Mq (many:=many) (m:=1) (Y:=λ_ g=>f1 b s g) (i:=0) (by decide) hg
 obtain⟨i3,i4⟩:=Mq (many:=many) (m:=1) (Y:=λ_ g=>f2 b s g) (i:=0) (by decide) hg
 have i1:dW (.lst (bt many 1 λ_ g=>f1 b s g)) (.int 0)=_:=i1
 have i3:dW (.lst (bt many 1 λ_ g=>f2 b s g)) (.int 0)=_:=i3
 have q:=Mf (neg:=true) (f1 b s g) (f2 b s g)
 rw[decide_eq_false ne]at q
 have qs:jk [some (aU na as),some (aU nb bs),some (.int (many:Int)),some (.tup [.int (b:Int),.int (s:Int),.int (g:Int)]),none,none,none,none]=some (.lst [.bl true,.bl true,.bl true]):=by
  refine wp D.int (λ_=>D.bl true) [(b:Int),(s:Int),(g:Int)] rfl (by simp) λx hx=>⟨[some (.int x)],rfl,?_⟩
  have:=U2 x
  walk_at "mir"
 have ad:rC [.lst [.bl true,.bl true,.bl true]]=some (.bl true):=rfl
 have ty:jZ "tuple" (.tup [.int (b:Int),.int (s:Int),.int (g:Int)])=some (.bl true):=rfl
 have ln:eG [.tup [.int (b:Int),.int (s:Int),.int (g:Int)]]=some (.int 3):=rfl
 have c1:(1:Int)<=(b:Int):=by omega
 have c2:(b:Int)<=4:=by omega
 have c3:(0:Int)<=(s:Int):=by omega
 have c4:(s:Int)<(many:Int):=by omega
 have c5:(0:Int)<=(g:Int):=by omega
 have c6:(g:Int)<(many:Int):=by omega
 generalize aU na as=n1,aU nb bs=n2,bt many 4 (alone b s)=R,bt many 1 (λ_ g=>f1 b s g)=R1,bt many 1 (λ_ g=>f2 b s g)=R2,bY many (λg=>f1 b s g)=V1,bY many (λg=>f2 b s g)=V2,cy (f1 b s g)=x1,cy (f2 b s g)=x2,(b:Int)=bi,(s:Int)=si,(g:Int)=gi,(many:Int)=mi at *
 clear h1 h2 iW iX la lb hm hb pD hs hg
 unfold jl
 generalize jk=Q at *
 walk_at "mir"
end
theorem LP {ns:List Int}{r:L3.Env}(i a b:Nat)(h:r[i]?.join=some (.lst (ns.map .int))):lsD (λρ=>((eV i) ρ).bind λd=>((pInt (eC (.int a))) ρ).bind λl=>((pInt (eC (.int b))) ρ).bind λh=>eI d l h) r=some (((ns.drop a).take (b-a)).map .int):=by
 have e:eV i r=some (.lst (ns.map .int)):=h
 unfold lsD
 show(((eV i) r).bind _).bind _=_
 rw[e]
 show some (cutD (ns.map .int) (some (a:Int)) (some (b:Int)))=_
 rw[TZ,md,sy]
theorem U4 (c:Int){k:Int}(h0:0<=k)(h1:k<=1000000):∃t:T,vh [.int c,.int k]=some (cy t):=by
 obtain⟨z,hz,_⟩:=wD c h0 h1
 by_cases e0:(z:Int)%4=0
 ·refine⟨none,?_⟩
  show _=some D.non
  unfold vh
  walk_at "mir"
 ·refine⟨some ((z:Int)/4%2000001-1000000),?_⟩
  show _=some (D.int _)
  unfold vh
  walk_at "mir"
section
variable {na nb:List D}{as bs:List cJ}{many:Nat}{k1 k2:List (List dv)}{d1 d2:List D}{f1 f2:Nat->Nat->Nat->T}
theorem Hz (h1:iT as many k1 d1 f1)(h2:iT bs many k2 d2 f2)(s1:ut [aU na as]=some (.dT k1 d1))(s2:ut [aU nb bs]=some (.dT k2 d2))(iW:dJ many as)(iX:dJ many bs)(la:na.length=many)(lb:nb.length=many)(hm:many<=6)(l1:as.length<=9)(l2:bs.length<=9)
  {e:Bool} (he:e=false↔∀b s g,f1 b s g=f2 b s g) (x0 x1 x3 x4 x5 x6 y9 x10 J8:Option D) :
  ∃z9,uu [x0,x1,some (.int (many:Int)),x3,x4,x5,x6,some (.bl e),some (.tup [aU na as,aU nb bs]),y9,x10,J8]=some (.nx [x0,x1,some (.int (many:Int)),x3,x4,x5,x6,some (.bl e),some (.tup [aU na as,aU nb bs]),z9,x10,J8]):=by
 have q1:=bS (h1.few λa ha=>(iW.right a ha).g) (Mr l1 (by decide))
 have q2:=bS (h2.few λa ha=>(iX.right a ha).g) (Mr l2 (by decide))
 obtain⟨w,hw,r⟩:=Ul s1 s2 h1 h2 (la.trans lb.symm) (by omega)
 have j0:dW (.tup [aU na as,aU nb bs]) (.int 0)=some (aU na as):=rfl
 have j1:dW (.tup [aU na as,aU nb bs]) (.int 1)=some (aU nb bs):=rfl
 cases e with
 |false=>
  have al:=he.mp rfl
  rcases r with⟨rfl,_⟩|⟨b,s,g,_,ne⟩
  ·refine⟨some .non,?_⟩
   generalize D.tup [aU na as,aU nb bs]=P at *
   generalize aU na as=n1,aU nb bs=n2 at *
   clear h1 h2 s1 s2 iW iX la lb hm l1 l2 q1 q2 al he
   unfold uu
   walk_at "mir"
  ·exact absurd (al b s g) ne
 |true=>
  rcases r with⟨_,al⟩|⟨b,s,g,rfl,ne⟩
  ·exact absurd (he.mpr al) (by decide)
  ·have sh:=U3 h1 h2 iW iX la lb hm ne
   refine⟨some (.tup [.int (b:Int),.int (s:Int),.int (g:Int)]),?_⟩
   generalize D.tup [aU na as,aU nb bs]=P at *
   generalize aU na as=n1,aU nb bs=n2,D.tup [.int (b:Int),.int (s:Int),.int (g:Int)]=w at *
   clear h1 h2 s1 s2 iW iX la lb hm l1 l2 q1 q2 he ne
   unfold uu
   walk_at "mir"
end
theorem Uo (ns:List Int)(_:ns.length<=63):Er [.lst (ns.map .int)]=some (.bl true):=by
 obtain⟨c,c0⟩:=HP ns 0 (by decide)
 obtain⟨ch,c1⟩:=HP ns 1 (by decide)
 obtain⟨near,c2⟩:=HP ns 2 (by decide)
 obtain⟨many,sS,rK,rf⟩:∃m:Nat,1+c%6=(m:Int)/\1<=m/\m<=6:=⟨(1+c%6).toNat,by omega,by omega,by omega⟩
 have key:∀z:Int,∃a:cJ,wt [.int z,.int (many:Int)]=some (aO a)/\mK many 100000000 a:=λz=>Mp z rK
 obtain⟨Q,hQ⟩:=Classical.axiomOfChoice key
 have q4:∀r:L3.Env,r[0]?.join=some (.lst (ns.map .int))->r[2]?.join=some (.int (many:Int))->∃bs:List cJ,D0 r=some (.lst (bs.map aO))/\bs.length<=8/\∀a∈bs,mK many 100000000 a:=λr h0 h2=>by
  have ce:=LP (ns:=ns) (r:=r) 0 3 11 h0
  refine⟨((ns.drop 3).take 8).map Q,?_,by rw[aF,cZ];omega,λa ha=>?_⟩
  ·rw[df]
   refine wp D.int _ _ ce (by rw[cZ];omega) λz _=>⟨[some (.int z),some (.int (many:Int))],by show some [some (D.int z),r[2]?.join]=_;rw[h2],?_⟩
   have:=(hQ z).1
   show _=some (aO (Q z))
   generalize aO (Q z)=R at *
   clear hQ key ce h0 h2
   walk_at "mir"
  ·obtain⟨z,_,rfl⟩:=eD.mp ha
   exact(hQ z).2
 have q3:∀r:L3.Env,r[0]?.join=some (.lst (ns.map .int))->r[2]?.join=some (.int (many:Int))->∃bs:List cJ,DZ r=some (.lst (bs.map aO))/\bs.length<=8/\∀a∈bs,mK many 100000000 a:=λr h0 h2=>by
  have ce:=LP (ns:=ns) (r:=r) 0 11 19 h0
  refine⟨((ns.drop 11).take 8).map Q,?_,by rw[aF,cZ];omega,λa ha=>?_⟩
  ·rw[df]
   refine wp D.int _ _ ce (by rw[cZ];omega) λz _=>⟨[some (.int z),some (.int (many:Int))],by show some [some (D.int z),r[2]?.join]=_;rw[h2],?_⟩
   have:=(hQ z).1
   show _=some (aO (Q z))
   generalize aO (Q z)=R at *
   clear hQ key ce h0 h2
   walk_at "mir"
  ·obtain⟨z,_,rfl⟩:=eD.mp ha
   exact(hQ z).2
 clear key hQ
 obtain⟨ps,q4,pl,pp⟩:=q4 [some (.lst (ns.map .int)),some (.int c),some (.int (many:Int)),none,none,none,none,none,none,none,none,none] rfl rfl
 obtain⟨os,q3,ol,op⟩:=q3 [some (.lst (ns.map .int)),some (.int c),some (.int (many:Int)),some (.lst (ps.map aO)),none,none,none,none,none,none,none,none] rfl rfl
 obtain⟨cs,hc,cl,cp⟩:=Sn ch rK pl pp
 obtain⟨us,ul,up,AQ⟩:∃us:List cJ,us.length<=9/\(∀a∈us,mK many 100000003 a)/\(sIf (tb (e2 oU (e2 eJ (e2 gB (eV 1) (eC (.int 6))) (eC (.int 3))) (eC (.int 0)))) (sSet 4 (λρ=>((aCons (eV 3) (aCons (eV 2) (aCons (λρ=>((aCons (eV 0) (aCons (eC (.int 1)) aNil)) ρ).bind λds=>xl (ds++[])) aNil))) ρ).bind λds=>yn (ds++[]))) sSkip) [some (.lst (ns.map .int)),some (.int c),some (.int (many:Int)),some (.lst (ps.map aO)),some (.lst (os.map aO)),none,none,none,none,none,none,none]=some (.nx [some (.lst (ns.map .int)),some (.int c),some (.int (many:Int)),some (.lst (ps.map aO)),some (.lst (us.map aO)),none,none,none,none,none,none,none]):=by
  by_cases g:c/6%3 > 0
  ·refine⟨cs,cl,cp,?_⟩
   generalize D.lst (ns.map .int)=S0,ps.map aO=PS,os.map aO=OS,cs.map aO=CS at *
   clear q4 q3 pp op cp pl ol cl sS rK rf c0 c2
   walk_at "mir"
  ·refine⟨os,by omega,λa ha=>(op a ha).up (by decide),?_⟩
   generalize D.lst (ns.map .int)=S0,ps.map aO=PS,os.map aO=OS,cs.map aO=CS at *
   clear q4 q3 pp op cp pl ol cl sS rK rf c0 c2 c1 hc
   walk_at "mir"
 obtain⟨t1,X3,QT,J1,DG⟩:=Lh (c/18) (by omega) λa ha=>(pp a ha).up (by decide:(100000000:Int)<=100000003)
 obtain⟨t2,X4,QU,J2,DH⟩:=Lh (c/18) ul up
 obtain⟨as,n1,al,iW⟩:=Ms rK rf (by omega) DG 0
 obtain⟨bs,n2,bl,iX⟩:=Ms rK rf (by omega) DH (c/36)
 have nl:(ij many).length=many:=by unfold ij;rw[aF,bW]
 obtain⟨k1,d1,f1,s1,h1⟩:=MO iW nl
 obtain⟨k2,d2,f2,s2,h2⟩:=MO iX nl
 obtain⟨e,so,he⟩:=RV h1 h2 iW iX nl nl rf
 have wO:e=false↔∀b s g,f2 b s g=f1 b s g:=he.trans ⟨λh b s g=>(h b s g).symm,λh b s g=>(h b s g).symm⟩
 have wk:∀q:Nat×Nat,∃t:T,q.1<=100->q.2<=100->vh [.int near,.int (10*(q.1:Int)+(q.2:Int))]=some (cy t):=λq=>by
  by_cases h:q.1<=100/\q.2<=100
  ·obtain⟨t,ht⟩:=U4 near (k:=10*(q.1:Int)+(q.2:Int)) (by omega) (by omega)
   exact⟨t,λ_ _=>ht⟩
  ·exact⟨none,λh1 h2=>absurd ⟨h1,h2⟩ h⟩
 obtain⟨w0,Do⟩:=Classical.axiomOfChoice wk
 obtain⟨w,hw⟩:∃w:Nat->Nat->T,∀i g:Nat,i<=100->g<=100->vh [.int near,.int (10*(i:Int)+(g:Int))]=some (cy (w i g)):=⟨λi g=>w0 (i,g),λi g h1 h2=>Do (i,g) h1 h2⟩
 have q2:∀r:L3.Env,r[2]?.join=some (.int (many:Int))->r[10]?.join=some (.int near)->DY r=some (.lst (bt many 4 w)):=λr Dl Gi=>by
  refine wp (λ(t:Nat)=>D.int (t:Int)) (λi=>D.lst (bY many (w i))) (aE 4) (qp (n:=4) rfl (by decide)) (by simp) λi hi=>⟨[some (.int (i:Int)),some (.int (many:Int)),some (.int near)],by show some [some (D.int (i:Int)),r[2]?.join,r[10]?.join]=_;rw[Dl,Gi],?_⟩
  have hi:=bw.mp hi
  refine wp (λ(t:Nat)=>D.int (t:Int)) _ (aE many) (qp rfl (by omega)) (by simp;omega) λg hg=>⟨[some (.int (g:Int)),some (.int near),some (.int (i:Int))],rfl,?_⟩
  have:=hw i g (by omega) (by have:=bw.mp hg;omega)
  have mu:hE (.int 10) (.int (i:Int))=some (.int (10*(i:Int))):=zc7 (by decide) (by decide)
  generalize cy (w i g)=R,(10:Int)*(i:Int)=ti at *
  clear q4 q3 pp op cp AQ up DG DH QT QU n1 n2 iW iX h1 h2 s1 s2 he wO so hg hi hw Do wk Dl Gi c0 c1 c2 hc
  walk_at "mir"
 obtain⟨y9,lp⟩:∃y9,fy (gV 8) uu [.tup [aU (ij many) as,aU (ij many) bs],.tup [aU (ij many) bs,aU (ij many) as],.tup [aU (ij many) as,aU (ij many) bs]] [some (.lst (ns.map .int)),some (.int c),some (.int (many:Int)),some (.lst (ps.map aO)),some (.lst (us.map aO)),some (aU (ij many) as),some (aU (ij many) bs),some (.bl e),none,none,none,none]=some (.nx [some (.lst (ns.map .int)),some (.int c),some (.int (many:Int)),some (.lst (ps.map aO)),some (.lst (us.map aO)),some (aU (ij many) as),some (aU (ij many) bs),some (.bl e),some (.tup [aU (ij many) as,aU (ij many) bs]),y9,none,none]):=by
  obtain⟨u1,p1⟩:=Hz h1 h2 s1 s2 iW iX nl nl rf al bl he (some (.lst (ns.map .int))) (some (.int c)) (some (.lst (ps.map aO))) (some (.lst (us.map aO))) (some (aU (ij many) as)) (some (aU (ij many) bs)) none none none
  obtain⟨u2,p2⟩:=Hz h2 h1 s2 s1 iX iW nl nl rf bl al wO (some (.lst (ns.map .int))) (some (.int c)) (some (.lst (ps.map aO))) (some (.lst (us.map aO))) (some (aU (ij many) as)) (some (aU (ij many) bs)) u1 none none
  obtain⟨u3,p3⟩:=Hz h1 h2 s1 s2 iW iX nl nl rf al bl he (some (.lst (ns.map .int))) (some (.int c)) (some (.lst (ps.map aO))) (some (.lst (us.map aO))) (some (aU (ij many) as)) (some (aU (ij many) bs)) u2 none none
  refine⟨u3,?_⟩
  have Cv:∀(d:D) (ds:List D) (ρ ρ1 ρ2:L3.Env),uu ρ1=some (.nx ρ2)->gV 8 d ρ=some ρ1->fy (gV 8) uu (d::ds) ρ=fy (gV 8) uu ds ρ2:=λd ds ρ ρ1 ρ2 b a=>by
   show(gV 8 d ρ).bind _=_
   rw[a,bK,b];rfl
  exact(Cv _ _ _ _ _ p1 rfl).trans ((Cv _ _ _ _ _ p2 rfl).trans ((Cv _ _ _ _ _ p3 rfl).trans rfl))
 cases e with
 |true=>
  clear q2
  generalize aU (ij many) as=N1,aU (ij many) bs=N2,t1.map aO=T1,t2.map aO=T2,ps.map aO=PS,us.map aO=US,os.map aO=OS,D.lst (ns.map .int)=S0 at *
  clear pp op cp up DG DH iW iX h1 h2 s1 s2 he wO hw Do wk hc c1 pl ol cl ul J1 J2 al bl nl rK rf
  unfold Er
  generalize (sIf (tb (e2 oU (e2 eJ (e2 gB (eV 1) (eC (.int 6))) (eC (.int 3))) (eC (.int 0)))) (sSet 4 (λρ=>((aCons (eV 3) (aCons (eV 2) (aCons (λρ=>((aCons (eV 0) (aCons (eC (.int 1)) aNil)) ρ).bind λds=>xl (ds++[])) aNil))) ρ).bind λds=>yn (ds++[]))) sSkip)=IF,uu=B1,DY=Q2,DZ=Q3,D0=Q4 at *
  walk_at "mir"
 |false=>
  have Ig:=he.mp rfl
  have a4:dep as<=4:=xH λa ha=>(iW.right a ha).b
  have b4:dep bs<=4:=xH λa ha=>(iX.right a ha).b
  obtain⟨Y,JT,hY⟩:=HY (rounds:=5) (hJ:=.lst (bt many 4 w)) (lH:=.non) iW nl (by decide) (.some 4 w a4) .no
  obtain⟨Z,GQ,hZ⟩:=HY (rounds:=5) (hJ:=.lst (bt many 4 w)) (lH:=.non) iX nl (by decide) (.some 4 w b4) .no
  have same:=Te h1 h2 iW iX Ig hY hZ
  rw[←KH same]at GQ
  replace JT:pG [aU (ij many) as,.int 5,.lst (bt many 4 w),.non]=some (.lst (bt many 5 λr g=>Y (dep as+r) g)):=JT
  replace GQ:pG [aU (ij many) bs,.int 5,.lst (bt many 4 w),.non]=some (.lst (bt many 5 λr g=>Y (dep as+r) g)):=GQ
  obtain⟨x,q,hx⟩:=LN false many 5 (λr g=>Y (dep as+r) g) (λr g=>Y (dep as+r) g)
  have hx:=hx.mpr λ_ _ _ _=>rfl
  subst hx
  have q2:=q2 [some (.lst (ns.map .int)),some (.int c),some (.int (many:Int)),some (.lst (ps.map aO)),some (.lst (us.map aO)),some (aU (ij many) as),some (aU (ij many) bs),some (.bl false),some (.tup [aU (ij many) as,aU (ij many) bs]),y9,some (.int near),none] rfl rfl
  generalize bt many 5 (λr g=>Y (dep as+r) g)=RO,bt many 4 w=WO at *
  clear same hY hZ Ig a4 b4
  generalize aU (ij many) as=N1,aU (ij many) bs=N2,t1.map aO=T1,t2.map aO=T2,ps.map aO=PS,us.map aO=US,os.map aO=OS,D.lst (ns.map .int)=S0 at *
  clear pp op cp up DG DH iW iX h1 h2 s1 s2 he wO hw Do wk hc c1 pl ol cl ul J1 J2 al bl nl rK rf
  unfold Er
  generalize (sIf (tb (e2 oU (e2 eJ (e2 gB (eV 1) (eC (.int 6))) (eC (.int 3))) (eC (.int 0)))) (sSet 4 (λρ=>((aCons (eV 3) (aCons (eV 2) (aCons (λρ=>((aCons (eV 0) (aCons (eC (.int 1)) aNil)) ρ).bind λds=>xl (ds++[])) aNil))) ρ).bind λds=>yn (ds++[]))) sSkip)=IF,uu=B1,DY=Q2,DZ=Q3,D0=Q4 at *
  walk_at "mir"
section
variable {P:bg}{w:bE}{K:aa}{mg:aR->Option ae}{base:aK}{a:xJ}
theorem WJ (T:Txt K mg a):cG P w K mg base eU 7 a.f_law a.d_law ["_law_script"] (lZ K):=Wt (V5 T) Uo
end
abbrev cT (x q:aR)(s:bN):=fR x q (kP s) (gz s) (bb s)
theorem all_mk {l:ko}{w:bE}{K:aa}{h:aK}{mg:aR->Option ae}(X:K.In h)(G:h.Ns aw mg)(On:mg "law"=some (.ref fa))
  
  (aC_Arrow:az K aw "Arrow"=some (some (.ref c_Arrow))) (pg_Arrow:cW K c_Arrow aR.empty=true) (hd_Arrow:cM K c_Arrow=true) (po_Arrow:dH K c_Arrow=true) (sa_Arrow:ar K (.ref c_Arrow) "__setattr__"=some (some (.builtin "object.__setattr__"))) (mk_Arrow:dF K c_Arrow=true) (kc_Arrow:aq K (.ref c_Arrow)=true)
  (aC_Ride:az K aw "Ride"=some (some (.ref c_Ride))) (pg_Ride:cW K c_Ride aR.empty=true) (hd_Ride:cM K c_Ride=true) (po_Ride:dH K c_Ride=true) (sa_Ride:ar K (.ref c_Ride) "__setattr__"=some (some (.builtin "object.__setattr__"))) (mk_Ride:dF K c_Ride=true) (kc_Ride:aq K (.ref c_Ride)=true)
  (aC_Wait:az K aw "Wait"=some (some (.ref c_Wait))) (pg_Wait:cW K c_Wait aR.empty=true) (hd_Wait:cM K c_Wait=true) (po_Wait:dH K c_Wait=true) (sa_Wait:ar K (.ref c_Wait) "__setattr__"=some (some (.builtin "object.__setattr__"))) (mk_Wait:dF K c_Wait=true) (kc_Wait:aq K (.ref c_Wait)=true)
  (aC_Back:az K aw "Back"=some (some (.ref c_Back))) (pg_Back:cW K c_Back aR.empty=true) (hd_Back:cM K c_Back=true) (po_Back:dH K c_Back=true) (sa_Back:ar K (.ref c_Back) "__setattr__"=some (some (.builtin "object.__setattr__"))) (mk_Back:dF K c_Back=true) (kc_Back:aq K (.ref c_Back)=true)
  (aC_Net:az K aw "Net"=some (some (.ref c_Net))) (pg_Net:cW K c_Net aR.empty=true) (hd_Net:cM K c_Net=true) (po_Net:dH K c_Net=true) (sa_Net:ar K (.ref c_Net) "__setattr__"=some (some (.builtin "object.__setattr__"))) (mk_Net:dF K c_Net=true) (kc_Net:aq K (.ref c_Net)=true)
  (a0:ar K (.ref c_Arrow) "__init__"=some (some (.ref f0))) (i0:dn K (.ref f0)=true)
  (l0:K.lookup f0=some ⟨Xv,XJ,.func (cT "__init__" "Arrow.__init__" yb .none Js ID JI Ih EN Ir),X7⟩) (c0:aD K EN "Arrow.__init__"=true) (k0:aq K (.ref f0)=true)
  (a1:ar K (.ref c_Ride) "__init__"=some (some (.ref f1))) (i1:dn K (.ref f1)=true)
  (l1:K.lookup f1=some ⟨Xw,XM,.func (cT "__init__" "Ride.__init__" yg .none Jt IE JJ Ii EO Iu),X8⟩) (c1:aD K EO "Ride.__init__"=true) (k1:aq K (.ref f1)=true)
  (a2:ar K (.ref c_Wait) "__init__"=some (some (.ref f2))) (i2:dn K (.ref f2)=true)
  (l2:K.lookup f2=some ⟨Xx,XN,.func (cT "__init__" "Wait.__init__" zp (.ref DC) Gy E3 GJ EI C2 EX),Ce⟩) (c2:aD K C2 "Wait.__init__"=true) (k2:aq K (.ref f2)=true)
  (t2:K.lookup DC=some ⟨Yh,QO,.seq #[.int 0 Cr] Yk,QR⟩)
  (a3:ar K (.ref c_Back) "__init__"=some (some (.ref f3))) (i3:dn K (.ref f3)=true)
  (l3:K.lookup f3=some ⟨Xy,XQ,.func (cT "__init__" "Back.__init__" zq (.ref DD) Gz E5 GL EJ C3 EY),X9⟩) (c3:aD K C3 "Back.__init__"=true) (k3:aq K (.ref f3)=true)
  (t3:K.lookup DD=some ⟨Yi,QP,.seq #[.int 1 Cs] DF,QS⟩)
  (a4:az K aw "is_letter"=some (some (.ref f4)))
  (l4:K.lookup f4=some ⟨Xz,XR,.func (cT "is_letter" "is_letter" yz .none Ju IG JK Ij EQ Iv),Ya⟩) (c4:aD K EQ "is_letter"=true) (k4:aq K (.ref f4)=true)
  (a5:az K aw "is_figure"=some (some (.ref f5)))
  (l5:K.lookup f5=some ⟨XB,XU,.func (cT "is_figure" "is_figure" y0 .none Jv IH JL Ik ER Iw),Yb⟩) (c5:aD K ER "is_figure"=true) (k5:aq K (.ref f5)=true)
  (a6:az K aw "is_name"=some (some (.ref f6)))
  (l6:K.lookup f6=some ⟨XC,XX,.func (cT "is_name" "is_name" wg .none Jw II JM Il ES Iy),Yc⟩) (c6:aD K ES "is_name"=true) (k6:aq K (.ref f6)=true)
  (a7:az K aw "are_names"=some (some (.ref f7)))
  (l7:K.lookup f7=some ⟨XD,XY,.func (cT "are_names" "are_names" xa .none Jx IJ JN Im ET Iz),Yd⟩) (c7:aD K ET "are_names"=true) (k7:aq K (.ref f7)=true)
  (a8:az K aw "lies_within"=some (some (.ref f8)))
  (l8:K.lookup f8=some ⟨XF,XZ,.func (cT "lies_within" "lies_within" yh .none Jy IK JO Io EU IA),Ye⟩) (c8:aD K EU "lies_within"=true) (k8:aq K (.ref f8)=true)
  (a9:az K aw "is_right"=some (some (.ref f9)))
  (l9:K.lookup f9=some ⟨XH,X0,.func (cT "is_right" "is_right" xt .none Jz IL JP Ip EV IC),Yf⟩) (c9:aD K EV "is_right"=true) (k9:aq K (.ref f9)=true)
  (a10:az K aw "placed_goings"=some (some (.ref Fa)))
  (l10:K.lookup Fa=some ⟨OX,Pp,.func (cT "placed_goings" "placed_goings" zt .none AY zU BB xT tX yV),Qf⟩) (c10:aD K tX "placed_goings"=true) (k10:aq K (.ref Fa)=true)
  (a11:ar K (.ref c_Net) "__init__"=some (some (.ref C5))) (i11:dn K (.ref C5)=true)
  (l11:K.lookup C5=some ⟨OY,Pq,.func (cT "__init__" "Net.__init__" yr .none AZ zV BC xU tY yW),Qg⟩) (c11:aD K tY "Net.__init__"=true) (k11:aq K (.ref C5)=true)
  (a12:ar K (.ref c_Net) "most_behind"=some (some (.ref C6))) (i12:dn K (.ref C6)=true)
  (l12:K.lookup C6=some ⟨OZ,Ps,.func (cT "most_behind" "Net.most_behind" zm .none A0 zW BD xV tZ yX),Qh⟩) (c12:aD K tZ "Net.most_behind"=true) (k12:aq K (.ref C6)=true)
  (a13:ar K (.ref c_Net) "into"=some (some (.ref C7))) (i13:dn K (.ref C7)=true)
  (l13:K.lookup C7=some ⟨O0,Pt,.func (cT "into" "Net.into" xu .none A6 zX BE xW t5 yY),Qi⟩) (c13:aD K t5 "Net.into"=true) (k13:aq K (.ref C7)=true)
  (a14:ar K (.ref c_Net) "order"=some (some (.ref C8))) (i14:dn K (.ref C8)=true)
  (l14:K.lookup C8=some ⟨O1,Pu,.func (cT "order" "Net.order" xb .none A7 zY BG xX t6 yZ),Qj⟩) (c14:aD K t6 "Net.order"=true) (k14:aq K (.ref C8)=true)
  (a15:az K aw "later"=some (some (.ref Fb)))
  (l15:K.lookup Fb=some ⟨O2,Pv,.func (cT "later" "later" vw .none A8 zZ BH xY t7 zA),Qk⟩) (c15:aD K t7 "later"=true) (k15:aq K (.ref Fb)=true)
  (a16:az K aw "latest"=some (some (.ref Fc)))
  (l16:K.lookup Fc=some ⟨O3,Pw,.func (cT "latest" "latest" wx .none A9 Aa BI xZ t8 zB),Ql⟩) (c16:aD K t8 "latest"=true) (k16:aq K (.ref Fc)=true)
  (a17:az K aw "greatest_told"=some (some (.ref Fd)))
  (l17:K.lookup Fd=some ⟨O4,Px,.func (cT "greatest_told" "greatest_told" zu .none Ba Ab BJ yA t9 zC),Qm⟩) (c17:aD K t9 "greatest_told"=true) (k17:aq K (.ref Fd)=true)
  (a18:az K aw "rows_ahead"=some (some (.ref Fe)))
  (l18:K.lookup Fe=some ⟨O5,Py,.func (cT "rows_ahead" "rows_ahead" yt .none Bb Ac BK yB uA zD),Qn⟩) (c18:aD K uA "rows_ahead"=true) (k18:aq K (.ref Fe)=true)
  (a19:az K aw "time_in_last_row"=some (some (.ref Ff)))
  (l19:K.lookup Ff=some ⟨O6,Pz,.func (cT "time_in_last_row" "time_in_last_row" zl .none Bc Ad BL yC uB zE),Qo⟩) (c19:aD K uB "time_in_last_row"=true) (k19:aq K (.ref Ff)=true)
  (a20:az K aw "rows_with_past"=some (some (.ref Fg)))
  (l20:K.lookup Fg=some ⟨O7,PB,.func (cT "rows_with_past" "rows_with_past" zo .none Be Ae BM yD uC zF),Qp⟩) (c20:aD K uC "rows_with_past"=true) (k20:aq K (.ref Fg)=true)
  (a21:az K aw "run"=some (some (.ref Fh)))
  (l21:K.lookup Fh=some ⟨O8,PD,.func (cT "run" "run" jo (.ref qM) rM rH rR rE pO rG),Qq⟩) (c21:aD K pO "run"=true) (k21:aq K (.ref Fh)=true)
  (t21:K.lookup qM=some ⟨QN,JZ,.seq #[.none,.none] QQ,J4⟩)
  (a22:az K aw "sums_within_round"=some (some (.ref Fi)))
  (l22:K.lookup Fi=some ⟨O9,PH,.func (cT "sums_within_round" "sums_within_round" zk .none Bf Af BN yE uD zG),Qr⟩) (c22:aD K uD "sums_within_round"=true) (k22:aq K (.ref Fi)=true)
  (a23:az K aw "steps"=some (some (.ref Fj)))
  (l23:K.lookup Fj=some ⟨Pa,PJ,.func (cT "steps" "steps" vx .none Bg Ag BO yF uE zH),Qs⟩) (c23:aD K uE "steps"=true) (k23:aq K (.ref Fj)=true)
  (a24:az K aw "parted"=some (some (.ref Fk)))
  (l24:K.lookup Fk=some ⟨Pb,PK,.func (cT "parted" "parted" wy .none Bh Ah BP yG uF zI),Qt⟩) (c24:aD K uF "parted"=true) (k24:aq K (.ref Fk)=true)
  (a25:az K aw "_law_cell_at"=some (some (.ref Fm)))
  (l25:K.lookup Fm=some ⟨Pc,PL,.func (cT "_law_cell_at" "_law_cell_at" yj .none Bi Ai BQ yH uG zJ),Qu⟩) (c25:aD K uG "_law_cell_at"=true) (k25:aq K (.ref Fm)=true)
  (a26:az K aw "_law_mixed"=some (some (.ref Fo)))
  (l26:K.lookup Fo=some ⟨Pd,PM,.func (cT "_law_mixed" "_law_mixed" xf .none Bj Aj BR yI uH zK),Qv⟩) (c26:aD K uH "_law_mixed"=true) (k26:aq K (.ref Fo)=true)
  (a27:az K aw "_law_whole"=some (some (.ref Fp)))
  (l27:K.lookup Fp=some ⟨Pe,PN,.func (cT "_law_whole" "_law_whole" xg .none Bk Ak BU yJ uI zL),Qw⟩) (c27:aD K uI "_law_whole"=true) (k27:aq K (.ref Fp)=true)
  (a28:az K aw "_law_part"=some (some (.ref Fs)))
  (l28:K.lookup Fs=some ⟨Pf,PP,.func (cT "_law_part" "_law_part" xv .none Bl Am BV yK uJ zM),Qx⟩) (c28:aD K uJ "_law_part"=true) (k28:aq K (.ref Fs)=true)
  (a29:az K aw "_law_turned"=some (some (.ref Ft)))
  (l29:K.lookup Ft=some ⟨Pg,PQ,.func (cT "_law_turned" "_law_turned" yu .none Bm An BW yL uK zN),Qy⟩) (c29:aD K uK "_law_turned"=true) (k29:aq K (.ref Ft)=true)
  (a30:az K aw "_law_changed"=some (some (.ref Fu)))
  (l30:K.lookup Fu=some ⟨Ph,PR,.func (cT "_law_changed" "_law_changed" yk .none Bn Ao BX yM uL zO),Qz⟩) (c30:aD K uL "_law_changed"=true) (k30:aq K (.ref Fu)=true)
  (a31:az K aw "_law_net"=some (some (.ref Fv)))
  (l31:K.lookup Fv=some ⟨Pj,PV,.func (cT "_law_net" "_law_net" wj .none Bo Ap BY yN uM zP),QA⟩) (c31:aD K uM "_law_net"=true) (k31:aq K (.ref Fv)=true)
  (a32:az K aw "_law_alone"=some (some (.ref Fw)))
  (l32:K.lookup Fw=some ⟨Pk,PX,.func (cT "_law_alone" "_law_alone" xh .none Bp Aq BZ yO uN zQ),QB⟩) (c32:aD K uN "_law_alone"=true) (k32:aq K (.ref Fw)=true)
  (a33:az K aw "_law_part_somewhere"=some (some (.ref Fx)))
  (l33:K.lookup Fx=some ⟨Pl,PY,.func (cT "_law_part_somewhere" "_law_part_somewhere" zj .none Bq Ar B0 yP uO zR),QC⟩) (c33:aD K uO "_law_part_somewhere"=true) (k33:aq K (.ref Fx)=true)
  (a34:az K aw "_law_shows"=some (some (.ref Fy)))
  (l34:K.lookup Fy=some ⟨Pm,PZ,.func (cT "_law_shows" "_law_shows" xi .none Br As B3 yQ uP zS),QD⟩) (c34:aD K uP "_law_shows"=true) (k34:aq K (.ref Fy)=true)
  (a35:az K aw "_law_time"=some (some (.ref Fz)))
  (l35:K.lookup Fz=some ⟨Pn,P0,.func (cT "_law_time" "_law_time" xw .none Bs Au B4 yR uQ zT),QE⟩) (c35:aD K uQ "_law_time"=true) (k35:aq K (.ref Fz)=true)
  (a36:az K aw "law"=some (some (.ref IM)))
  (l36:K.lookup IM=some ⟨Po,P1,.func (cT "law" "law" qz .none vJ uS vP tV rF uR),QF⟩) (c36:aD K rF "law"=true) (k36:aq K (.ref IM)=true)
  (qs_Arrow:dh K (.ref c_Arrow) "__getattribute__"=some (some (.builtin "type.__getattribute__"))) (qr_Arrow:gU K c_Arrow (.type "type")=true) (qf_Arrow:gS K (.ref c_Arrow) (.type "type") "__init__"=some (.val (.ref f0)))
  (n_Net_arrows:ar K (.ref c_Net) "arrows"=some none)
  (n_Arrow_behind:ar K (.ref c_Arrow) "behind"=some none)
  (n_Ride_behind:ar K (.ref c_Ride) "behind"=some none)
  (n_Wait_behind:ar K (.ref c_Wait) "behind"=some none)
  (n_Back_behind:ar K (.ref c_Back) "behind"=some none)
  (n_Arrow_goal:ar K (.ref c_Arrow) "goal"=some none)
  (n_Ride_goal:ar K (.ref c_Ride) "goal"=some none)
  (n_Wait_goal:ar K (.ref c_Wait) "goal"=some none)
  (n_Back_goal:ar K (.ref c_Back) "goal"=some none)
  (n_Net_names:ar K (.ref c_Net) "names"=some none)
  (n_Arrow_start:ar K (.ref c_Arrow) "start"=some none)
  (n_Ride_start:ar K (.ref c_Ride) "start"=some none)
  (n_Wait_start:ar K (.ref c_Wait) "start"=some none)
  (n_Back_start:ar K (.ref c_Back) "start"=some none)
  (n_Arrow_time:ar K (.ref c_Arrow) "time"=some none)
  (n_Ride_time:ar K (.ref c_Ride) "time"=some none)
  (n_Wait_time:ar K (.ref c_Wait) "time"=some none)
  (n_Back_time:ar K (.ref c_Back) "time"=some none)
  (ign:dh K (.builtin "object.__class__") "__get__"=some (some (.builtin "getset_descriptor.__get__"))) (igt:gW K (.builtin "object.__class__")=some true)
  (iga_Arrow:ar K (.ref c_Arrow) "__class__"=some (some (.builtin "object.__class__"))) (igm_Arrow:dP K c_Arrow (.type "object")=some true)
  (kit_Arrow_Back:bI K (.ref c_Arrow) (.ref c_Back)=some false)
  (kit_Arrow_Ride:bI K (.ref c_Arrow) (.ref c_Ride)=some false)
  (iga_Ride:ar K (.ref c_Ride) "__class__"=some (some (.builtin "object.__class__"))) (igm_Ride:dP K c_Ride (.type "object")=some true)
  (kit_Ride_Back:bI K (.ref c_Ride) (.ref c_Back)=some false)
  (kit_Ride_Ride:bI K (.ref c_Ride) (.ref c_Ride)=some true)
  (iga_Wait:ar K (.ref c_Wait) "__class__"=some (some (.builtin "object.__class__"))) (igm_Wait:dP K c_Wait (.type "object")=some true)
  (kit_Wait_Back:bI K (.ref c_Wait) (.ref c_Back)=some false)
  (kit_Wait_Ride:bI K (.ref c_Wait) (.ref c_Ride)=some false)
  (iga_Back:ar K (.ref c_Back) "__class__"=some (some (.builtin "object.__class__"))) (igm_Back:dP K c_Back (.type "object")=some true)
  (kit_Back_Back:bI K (.ref c_Back) (.ref c_Back)=some true)
  (kit_Back_Ride:bI K (.ref c_Back) (.ref c_Ride)=some false)
  (iga_Net:ar K (.ref c_Net) "__class__"=some (some (.builtin "object.__class__"))) (igm_Net:dP K c_Net (.type "object")=some true)
  (kit_Net_Back:bI K (.ref c_Net) (.ref c_Back)=some false)
  (kit_Net_Ride:bI K (.ref c_Net) (.ref c_Ride)=some false)
  (z0:az K aw "all"=some none)
  (z1:az K aw "bool"=some none)
  (z2:az K aw "enumerate"=some none)
  (z3:az K aw "int"=some none)
  (z4:az K aw "isinstance"=some none)
  (z5:az K aw "len"=some none)
  (z6:az K aw "list"=some none)
  (z7:az K aw "max"=some none)
  (z8:az K aw "min"=some none)
  (z9:az K aw "range"=some none)
  (z10:az K aw "reversed"=some none)
  (z11:az K aw "sorted"=some none)
  (z12:az K aw "str"=some none)
  (z13:az K aw "tuple"=some none)
  (gc0:az K aw "MOST_ARROWS"=some (some (.int 120 Xd)))
  (gc1:az K aw "MOST_BEHIND"=some (some (.int 4 Xe)))
  (gc2:az K aw "MOST_NAMES"=some (some (.int 40 Xf)))
  (gc3:az K aw "MOST_SIGNS"=some (some (.int 8 Xg)))
  (gc4:az K aw "MOST_TIME"=some (some (.int 1000000000 Xh))) :
  ∃fd:aN,(∀(s:ak) (v:ae),mP s fd ⟨[v],[]⟩ [("_law_script",v)])/\∀base:aK,K.In base->base.Ns aw mg->cG l.prog w K mg base eU 7 fa fd ["_law_script"] (lZ K):=by
 have e:=On.symm.trans (aI X G a36)
 cases e
 have F0:=zw (st:=yb) l0 c0 k0
 have b0:bM K (cT "__init__" "Arrow.__init__" yb .none Js ID JI Ih EN Ir) ["self","start","goal","time","behind"] []:=.all (GB λ_ _ _ _ _=>rfl)
 have F1:=zw (st:=yg) l1 c1 k1
 have b1:bM K (cT "__init__" "Ride.__init__" yg .none Jt IE JJ Ii EO Iu) ["self","start","goal","time"] []:=.all (sZ λ_ _ _ _=>rfl)
 have F2:=zw (st:=zp) l2 c2 k2
 have b2:bM K (cT "__init__" "Wait.__init__" zp (.ref DC) Gy E3 GJ EI C2 EX) ["self","start","goal","time","behind"] []:=qy 5 t2 (GB λ_ _ _ _ _=>⟨_,rfl,rfl⟩)
 have EL:bM K (cT "__init__" "Wait.__init__" zp (.ref DC) Gy E3 GJ EI C2 EX) ["self","start","goal","time","behind"] [.int 0 Cr]:=qy 4 t2 (sZ λ_ _ _ _=>⟨_,rfl,rfl⟩)
 have F3:=zw (st:=zq) l3 c3 k3
 have b3:bM K (cT "__init__" "Back.__init__" zq (.ref DD) Gz E5 GL EJ C3 EY) ["self","start","goal","time","behind"] []:=qy 5 t3 (GB λ_ _ _ _ _=>⟨_,rfl,rfl⟩)
 have EM:bM K (cT "__init__" "Back.__init__" zq (.ref DD) Gz E5 GL EJ C3 EY) ["self","start","goal","time","behind"] [.int 1 Cs]:=qy 4 t3 (sZ λ_ _ _ _=>⟨_,rfl,rfl⟩)
 have F4:=zw (st:=yz) l4 c4 k4
 have b4:bM K (cT "is_letter" "is_letter" yz .none Ju IG JK Ij EQ Iv) ["sign"] []:=.all (qA λ_=>rfl)
 have F5:=zw (st:=y0) l5 c5 k5
 have b5:bM K (cT "is_figure" "is_figure" y0 .none Jv IH JL Ik ER Iw) ["sign"] []:=.all (qA λ_=>rfl)
 have F6:=zw (st:=wg) l6 c6 k6
 have b6:bM K (cT "is_name" "is_name" wg .none Jw II JM Il ES Iy) ["word"] []:=.all (qA λ_=>rfl)
 have F7:=zw (st:=xa) l7 c7 k7
 have b7:bM K (cT "are_names" "are_names" xa .none Jx IJ JN Im ET Iz) ["names"] []:=.all (qA λ_=>rfl)
 have F8:=zw (st:=yh) l8 c8 k8
 have b8:bM K (cT "lies_within" "lies_within" yh .none Jy IK JO Io EU IA) ["number","least","most"] []:=.all (rh λ_ _ _=>rfl)
 have F9:=zw (st:=xt) l9 c9 k9
 have b9:bM K (cT "is_right" "is_right" xt .none Jz IL JP Ip EV IC) ["arrow","many"] []:=.all (oW λ_ _=>rfl)
 have MS:=zw (st:=zt) l10 c10 k10
 have Nr:bM K (cT "placed_goings" "placed_goings" zt .none AY zU BB xT tX yV) ["many","arrows"] []:=.all (oW λ_ _=>rfl)
 have MT:=zw (st:=yr) l11 c11 k11
 have Nt:bM K (cT "__init__" "Net.__init__" yr .none AZ zV BC xU tY yW) ["self","names","arrows"] []:=.all (rh λ_ _ _=>rfl)
 have MU:=zw (st:=zm) l12 c12 k12
 have Nu:bM K (cT "most_behind" "Net.most_behind" zm .none A0 zW BD xV tZ yX) ["self"] []:=.all (qA λ_=>rfl)
 have MV:=zw (st:=xu) l13 c13 k13
 have Nv:bM K (cT "into" "Net.into" xu .none A6 zX BE xW t5 yY) ["self","going"] []:=.all (oW λ_ _=>rfl)
 have MW:=zw (st:=xb) l14 c14 k14
 have Nw:bM K (cT "order" "Net.order" xb .none A7 zY BG xX t6 yZ) ["self"] []:=.all (qA λ_=>rfl)
 have MX:=zw (st:=vw) l15 c15 k15
 have Nx:bM K (cT "later" "later" vw .none A8 zZ BH xY t7 zA) ["when","more"] []:=.all (oW λ_ _=>rfl)
 have MY:=zw (st:=wx) l16 c16 k16
 have Ny:bM K (cT "latest" "latest" wx .none A9 Aa BI xZ t8 zB) ["one","other"] []:=.all (oW λ_ _=>rfl)
 have MZ:=zw (st:=zu) l17 c17 k17
 have Nz:bM K (cT "greatest_told" "greatest_told" zu .none Ba Ab BJ yA t9 zC) ["told"] []:=.all (qA λ_=>rfl)
 have M0:=zw (st:=yt) l18 c18 k18
 have NA:bM K (cT "rows_ahead" "rows_ahead" yt .none Bb Ac BK yB uA zD) ["net","was"] []:=.all (oW λ_ _=>rfl)
 have M3:=zw (st:=zl) l19 c19 k19
 have NB:bM K (cT "time_in_last_row" "time_in_last_row" zl .none Bc Ad BL yC uB zE) ["net","rows","numbers","floor"] []:=.all (sZ λ_ _ _ _=>rfl)
 have M4:=zw (st:=zo) l20 c20 k20
 have NC:bM K (cT "rows_with_past" "rows_with_past" zo .none Be Ae BM yD uC zF) ["net","rounds","was","floors"] []:=.all (sZ λ_ _ _ _=>rfl)
 have M5:=zw (st:=jo) l21 c21 k21
 have ND:bM K (cT "run" "run" jo (.ref qM) rM rH rR rE pO rG) ["net","rounds","was","floors"] []:=qy 4 t21 (sZ λ_ _ _ _=>⟨_,rfl,rfl⟩)
 have yS:bM K (cT "run" "run" jo (.ref qM) rM rH rR rE pO rG) ["net","rounds","was","floors"] [.none]:=qy 3 t21 (rh λ_ _ _=>⟨_,rfl,rfl⟩)
 have yT:bM K (cT "run" "run" jo (.ref qM) rM rH rR rE pO rG) ["net","rounds","was","floors"] [.none,.none]:=qy 2 t21 (oW λ_ _=>⟨_,rfl,rfl⟩)
 have M6:=zw (st:=zk) l22 c22 k22
 have NE:bM K (cT "sums_within_round" "sums_within_round" zk .none Bf Af BN yE uD zG) ["net","going","order"] []:=.all (rh λ_ _ _=>rfl)
 have M7:=zw (st:=vx) l23 c23 k23
 have NF:bM K (cT "steps" "steps" vx .none Bg Ag BO yF uE zH) ["net"] []:=.all (qA λ_=>rfl)
 have M8:=zw (st:=wy) l24 c24 k24
 have NG:bM K (cT "parted" "parted" wy .none Bh Ah BP yG uF zI) ["one","other"] []:=.all (oW λ_ _=>rfl)
 have M9:=zw (st:=yj) l25 c25 k25
 have NH:bM K (cT "_law_cell_at" "_law_cell_at" yj .none Bi Ai BQ yH uG zJ) ["_law_script","_law_k"] []:=.all (oW λ_ _=>rfl)
 have Na:=zw (st:=xf) l26 c26 k26
 have NI:bM K (cT "_law_mixed" "_law_mixed" xf .none Bj Aj BR yI uH zK) ["_law_cell","_law_k"] []:=.all (oW λ_ _=>rfl)
 have Nb:=zw (st:=xg) l27 c27 k27
 have NJ:bM K (cT "_law_whole" "_law_whole" xg .none Bk Ak BU yJ uI zL) ["_law_found"] []:=.all (qA λ_=>rfl)
 have Nc:=zw (st:=xv) l28 c28 k28
 have NK:bM K (cT "_law_part" "_law_part" xv .none Bl Am BV yK uJ zM) ["_law_cell","_law_many"] []:=.all (oW λ_ _=>rfl)
 have Nd:=zw (st:=yu) l29 c29 k29
 have NL:bM K (cT "_law_turned" "_law_turned" yu .none Bm An BW yL uK zN) ["_law_parts","_law_many","_law_cell"] []:=.all (rh λ_ _ _=>rfl)
 have Nf:=zw (st:=yk) l30 c30 k30
 have NM:bM K (cT "_law_changed" "_law_changed" yk .none Bn Ao BX yM uL zO) ["_law_parts","_law_many","_law_cell"] []:=.all (rh λ_ _ _=>rfl)
 have Ng:=zw (st:=wj) l31 c31 k31
 have NN:bM K (cT "_law_net" "_law_net" wj .none Bo Ap BY yN uM zP) ["_law_parts","_law_many","_law_start"] []:=.all (rh λ_ _ _=>rfl)
 have Nh:=zw (st:=xh) l32 c32 k32
 have NO:bM K (cT "_law_alone" "_law_alone" xh .none Bp Aq BZ yO uN zQ) ["_law_many","_law_behind","_law_start"] []:=.all (rh λ_ _ _=>rfl)
 have Ni:=zw (st:=zj) l33 c33 k33
 have NP:bM K (cT "_law_part_somewhere" "_law_part_somewhere" zj .none Bq Ar B0 yP uO zR) ["_law_one","_law_other","_law_many"] []:=.all (rh λ_ _ _=>rfl)
 have Nj:=zw (st:=xi) l34 c34 k34
 have NQ:bM K (cT "_law_shows" "_law_shows" xi .none Br As B3 yQ uP zS) ["_law_one","_law_other","_law_many","_law_key"] []:=.all (sZ λ_ _ _ _=>rfl)
 have Nk:=zw (st:=xw) l35 c35 k35
 have NR:bM K (cT "_law_time" "_law_time" xw .none Bs Au B4 yR uQ zT) ["_law_cell","_law_k"] []:=.all (oW λ_ _=>rfl)
 have Nl:=zw (st:=qz) l36 c36 k36
 have NS:bM K (cT "law" "law" qz .none vJ uS vP tV rF uR) ["_law_script"] []:=.all (qA λ_=>rfl)
 have T:Txt K mg ⟨c_Arrow,c_Ride,c_Wait,c_Back,c_Net,f0,cT "__init__" "Arrow.__init__" yb .none Js ID JI Ih EN Ir,f1,cT "__init__" "Ride.__init__" yg .none Jt IE JJ Ii EO Iu,f2,cT "__init__" "Wait.__init__" zp (.ref DC) Gy E3 GJ EI C2 EX,f3,cT "__init__" "Back.__init__" zq (.ref DD) Gz E5 GL EJ C3 EY,f4,cT "is_letter" "is_letter" yz .none Ju IG JK Ij EQ Iv,f5,cT "is_figure" "is_figure" y0 .none Jv IH JL Ik ER Iw,f6,cT "is_name" "is_name" wg .none Jw II JM Il ES Iy,f7,cT "are_names" "are_names" xa .none Jx IJ JN Im ET Iz,f8,cT "lies_within" "lies_within" yh .none Jy IK JO Io EU IA,f9,cT "is_right" "is_right" xt .none Jz IL JP Ip EV IC,Fa,cT "placed_goings" "placed_goings" zt .none AY zU BB xT tX yV,C5,cT "__init__" "Net.__init__" yr .none AZ zV BC xU tY yW,C6,cT "most_behind" "Net.most_behind" zm .none A0 zW BD xV tZ yX,C7,cT "into" "Net.into" xu .none A6 zX BE xW t5 yY,C8,cT "order" "Net.order" xb .none A7 zY BG xX t6 yZ,Fb,cT "later" "later" vw .none A8 zZ BH xY t7 zA,Fc,cT "latest" "latest" wx .none A9 Aa BI xZ t8 zB,Fd,cT "greatest_told" "greatest_told" zu .none Ba Ab BJ yA t9 zC,Fe,cT "rows_ahead" "rows_ahead" yt .none Bb Ac BK yB uA zD,Ff,cT "time_in_last_row" "time_in_last_row" zl .none Bc Ad BL yC uB zE,Fg,cT "rows_with_past" "rows_with_past" zo .none Be Ae BM yD uC zF,Fh,cT "run" "run" jo (.ref qM) rM rH rR rE pO rG,Fi,cT "sums_within_round" "sums_within_round" zk .none Bf Af BN yE uD zG,Fj,cT "steps" "steps" vx .none Bg Ag BO yF uE zH,Fk,cT "parted" "parted" wy .none Bh Ah BP yG uF zI,Fm,cT "_law_cell_at" "_law_cell_at" yj .none Bi Ai BQ yH uG zJ,Fo,cT "_law_mixed" "_law_mixed" xf .none Bj Aj BR yI uH zK,Fp,cT "_law_whole" "_law_whole" xg .none Bk Ak BU yJ uI zL,Fs,cT "_law_part" "_law_part" xv .none Bl Am BV yK uJ zM,Ft,cT "_law_turned" "_law_turned" yu .none Bm An BW yL uK zN,Fu,cT "_law_changed" "_law_changed" yk .none Bn Ao BX yM uL zO,Fv,cT "_law_net" "_law_net" wj .none Bo Ap BY yN uM zP,Fw,cT "_law_alone" "_law_alone" xh .none Bp Aq BZ yO uN zQ,Fx,cT "_law_part_somewhere" "_law_part_somewhere" zj .none Bq Ar B0 yP uO zR,Fy,cT "_law_shows" "_law_shows" xi .none Br As B3 yQ uP zS,Fz,cT "_law_time" "_law_time" xw .none Bs Au B4 yR uQ zT,fa,cT "law" "law" qz .none vJ uS vP tV rF uR⟩:=by
  constructor
  ·exact⟨⟨pg_Arrow,hd_Arrow,po_Arrow,sa_Arrow⟩,aI X G aC_Arrow,mk_Arrow,kc_Arrow⟩
  ·exact⟨⟨pg_Ride,hd_Ride,po_Ride,sa_Ride⟩,aI X G aC_Ride,mk_Ride,kc_Ride⟩
  ·exact⟨⟨pg_Wait,hd_Wait,po_Wait,sa_Wait⟩,aI X G aC_Wait,mk_Wait,kc_Wait⟩
  ·exact⟨⟨pg_Back,hd_Back,po_Back,sa_Back⟩,aI X G aC_Back,mk_Back,kc_Back⟩
  ·exact⟨⟨pg_Net,hd_Net,po_Net,sa_Net⟩,aI X G aC_Net,mk_Net,kc_Net⟩
  ·exact⟨F0,⟨a0,i0,k0⟩,b0⟩
  ·exact⟨F1,⟨a1,i1,k1⟩,b1⟩
  ·exact⟨F2,⟨a2,i2,k2⟩,b2⟩
  ·exact⟨_,trivial,(.cons ⟨_,rfl⟩ .nil),EL⟩
  ·exact⟨F3,⟨a3,i3,k3⟩,b3⟩
  ·exact⟨_,trivial,(.cons ⟨_,rfl⟩ .nil),EM⟩
  ·exact⟨F4,aI X G a4,b4⟩
  ·exact⟨F5,aI X G a5,b5⟩
  ·exact⟨F6,aI X G a6,b6⟩
  ·exact⟨F7,aI X G a7,b7⟩
  ·exact⟨F8,aI X G a8,b8⟩
  ·exact⟨F9,aI X G a9,b9⟩
  ·exact⟨MS,aI X G a10,Nr⟩
  ·exact⟨MT,⟨a11,i11,k11⟩,Nt⟩
  ·exact⟨MU,⟨a12,i12,k12⟩,Nu⟩
  ·exact⟨MV,⟨a13,i13,k13⟩,Nv⟩
  ·exact⟨MW,⟨a14,i14,k14⟩,Nw⟩
  ·exact⟨MX,aI X G a15,Nx⟩
  ·exact⟨MY,aI X G a16,Ny⟩
  ·exact⟨MZ,aI X G a17,Nz⟩
  ·exact⟨M0,aI X G a18,NA⟩
  ·exact⟨M3,aI X G a19,NB⟩
  ·exact⟨M4,aI X G a20,NC⟩
  ·exact⟨M5,aI X G a21,ND⟩
  ·exact⟨_,trivial,(.cons rfl .nil),yS⟩
  ·exact⟨_,trivial,(.cons rfl (.cons rfl .nil)),yT⟩
  ·exact⟨M6,aI X G a22,NE⟩
  ·exact⟨M7,aI X G a23,NF⟩
  ·exact⟨M8,aI X G a24,NG⟩
  ·exact⟨M9,aI X G a25,NH⟩
  ·exact⟨Na,aI X G a26,NI⟩
  ·exact⟨Nb,aI X G a27,NJ⟩
  ·exact⟨Nc,aI X G a28,NK⟩
  ·exact⟨Nd,aI X G a29,NL⟩
  ·exact⟨Nf,aI X G a30,NM⟩
  ·exact⟨Ng,aI X G a31,NN⟩
  ·exact⟨Nh,aI X G a32,NO⟩
  ·exact⟨Ni,aI X G a33,NP⟩
  ·exact⟨Nj,aI X G a34,NQ⟩
  ·exact⟨Nk,aI X G a35,NR⟩
  ·exact⟨Nl,aI X G a36,NS⟩
  ·exact⟨qs_Arrow,qr_Arrow,qf_Arrow⟩
  ·exactλc hc=>by
    simp only[aA,cI,or_false]at hc
    rcases hc with rfl
    all_goals first|exact⟨⟨pg_Net,hd_Net,po_Net,sa_Net⟩,n_Net_arrows⟩
  ·exactλc hc=>by
    simp only[aA,cI,or_false]at hc
    rcases hc with rfl|rfl|rfl|rfl
    all_goals first|exact⟨⟨pg_Arrow,hd_Arrow,po_Arrow,sa_Arrow⟩,n_Arrow_behind⟩|exact⟨⟨pg_Ride,hd_Ride,po_Ride,sa_Ride⟩,n_Ride_behind⟩|exact⟨⟨pg_Wait,hd_Wait,po_Wait,sa_Wait⟩,n_Wait_behind⟩|exact⟨⟨pg_Back,hd_Back,po_Back,sa_Back⟩,n_Back_behind⟩
  ·exactλc hc=>by
    simp only[aA,cI,or_false]at hc
    rcases hc with rfl|rfl|rfl|rfl
    all_goals first|exact⟨⟨pg_Arrow,hd_Arrow,po_Arrow,sa_Arrow⟩,n_Arrow_goal⟩|exact⟨⟨pg_Ride,hd_Ride,po_Ride,sa_Ride⟩,n_Ride_goal⟩|exact⟨⟨pg_Wait,hd_Wait,po_Wait,sa_Wait⟩,n_Wait_goal⟩|exact⟨⟨pg_Back,hd_Back,po_Back,sa_Back⟩,n_Back_goal⟩
  ·exactλc hc=>by
    simp only[aA,cI,or_false]at hc
    rcases hc with rfl
    all_goals first|exact⟨⟨pg_Net,hd_Net,po_Net,sa_Net⟩,n_Net_names⟩
  ·exactλc hc=>by
    simp only[aA,cI,or_false]at hc
    rcases hc with rfl|rfl|rfl|rfl
    all_goals first|exact⟨⟨pg_Arrow,hd_Arrow,po_Arrow,sa_Arrow⟩,n_Arrow_start⟩|exact⟨⟨pg_Ride,hd_Ride,po_Ride,sa_Ride⟩,n_Ride_start⟩|exact⟨⟨pg_Wait,hd_Wait,po_Wait,sa_Wait⟩,n_Wait_start⟩|exact⟨⟨pg_Back,hd_Back,po_Back,sa_Back⟩,n_Back_start⟩
  ·exactλc hc=>by
    simp only[aA,cI,or_false]at hc
    rcases hc with rfl|rfl|rfl|rfl
    all_goals first|exact⟨⟨pg_Arrow,hd_Arrow,po_Arrow,sa_Arrow⟩,n_Arrow_time⟩|exact⟨⟨pg_Ride,hd_Ride,po_Ride,sa_Ride⟩,n_Ride_time⟩|exact⟨⟨pg_Wait,hd_Wait,po_Wait,sa_Wait⟩,n_Wait_time⟩|exact⟨⟨pg_Back,hd_Back,po_Back,sa_Back⟩,n_Back_time⟩
  ·exactλc hc=>by
    simp only[aA,cI,or_false]at hc
    rcases hc with rfl|rfl|rfl|rfl|rfl
    all_goals first|exact⟨⟨⟨pg_Arrow,hd_Arrow,po_Arrow,sa_Arrow⟩,iga_Arrow,ign,igt,igm_Arrow⟩,kit_Arrow_Back⟩|exact⟨⟨⟨pg_Ride,hd_Ride,po_Ride,sa_Ride⟩,iga_Ride,ign,igt,igm_Ride⟩,kit_Ride_Back⟩|exact⟨⟨⟨pg_Wait,hd_Wait,po_Wait,sa_Wait⟩,iga_Wait,ign,igt,igm_Wait⟩,kit_Wait_Back⟩|exact⟨⟨⟨pg_Back,hd_Back,po_Back,sa_Back⟩,iga_Back,ign,igt,igm_Back⟩,kit_Back_Back⟩|exact⟨⟨⟨pg_Net,hd_Net,po_Net,sa_Net⟩,iga_Net,ign,igt,igm_Net⟩,kit_Net_Back⟩
  ·exactλc hc=>by
    simp only[aA,cI,or_false]at hc
    rcases hc with rfl|rfl|rfl|rfl|rfl
    all_goals first|exact⟨⟨⟨pg_Arrow,hd_Arrow,po_Arrow,sa_Arrow⟩,iga_Arrow,ign,igt,igm_Arrow⟩,kit_Arrow_Ride⟩|exact⟨⟨⟨pg_Ride,hd_Ride,po_Ride,sa_Ride⟩,iga_Ride,ign,igt,igm_Ride⟩,kit_Ride_Ride⟩|exact⟨⟨⟨pg_Wait,hd_Wait,po_Wait,sa_Wait⟩,iga_Wait,ign,igt,igm_Wait⟩,kit_Wait_Ride⟩|exact⟨⟨⟨pg_Back,hd_Back,po_Back,sa_Back⟩,iga_Back,ign,igt,igm_Back⟩,kit_Back_Ride⟩|exact⟨⟨⟨pg_Net,hd_Net,po_Net,sa_Net⟩,iga_Net,ign,igt,igm_Net⟩,kit_Net_Ride⟩
  ·exact bF X G z0
  ·exact bF X G z1
  ·exact bF X G z2
  ·exact bF X G z3
  ·exact bF X G z4
  ·exact bF X G z5
  ·exact bF X G z6
  ·exact bF X G z7
  ·exact bF X G z8
  ·exact bF X G z9
  ·exact bF X G z10
  ·exact bF X G z11
  ·exact bF X G z12
  ·exact bF X G z13
  ·exact⟨_,aI X G gc0⟩
  ·exact⟨_,aI X G gc1⟩
  ·exact⟨_,aI X G gc2⟩
  ·exact⟨_,aI X G gc3⟩
  ·exact⟨_,aI X G gc4⟩
 exact⟨cT "law" "law" qz .none vJ uS vP tV rF uR,λs v=>.of_eq rfl,λbase _ _=>WJ T⟩
theorem walk {l:ko}{q:bg}{loose:List aR}{XP:(aR->Option ae)->aK->Prop}{YP:bE->aK->Prop}{d:DefRec}{K:Params->aa}(hn:l.most=some 63)(AB:d.params.defaults=[])
  (hY:∀(w:bE) (h:aK),YP w h->(K w.params).In h)
  (F:∀(w:bE) (mg:aR->Option ae) (fa:af) (h:aK),(K w.params).In h->h.Ns aw mg->mg d.name=some (.ref fa) ->
   ∃fd:aN,(∀(s:ak) (u:ae),mP s fd ⟨[u],[]⟩ [("_law_script",u)])/\∀base:aK,(K w.params).In base->base.Ns aw mg->cG l.prog w (K w.params) mg base eU 7 fa fd ["_law_script"] (lZ (K w.params))) :
  pI q loose XP YP l.row.toRowW d [] (λf vs=>PySem.call f vs) :=
 L2.walk_of (n:=63) (k:=7) (x:="_law_script") (CX:=λ_=>eU) (sp:=λw=>lZ (K w.params)) hn (by decide) AB ⟨rfl,by decide,by decide,rfl⟩ hY F (λ_ _ a ns hl _ hS=>⟨a,ns,rfl,hS,hl,λ_=>rfl⟩) λ_ _ _ _ _ z=>z
end My
-- KEEP
namespace PySem.W.Fast
def tw13727019543711682635:=0
def tw3004469517293676214:=0
def tw3303358390554245499:=0
def tw14894044683585529664:=0
def tw12019418073881337334:=0
def tw523561516620353760:=0
def tw10051032686300538515:=0
def tw8492196407810263064:=0
def tw2217621012075237537:=0
def tw16262889618879370486:=0
def tw7380338137972442243:=0
def tw10551491294513417225:=0
def tw14172081387519908169:=0
def tw7708315200089993504:=0
def tw5779518102256429577:=0
def tw4383302426449557957:=0
def tw7943871466138857925:=0
def tw724251207276010553:=0
def tw7875016266901163370:=0
def tw11048675510600558678:=0
def tw2598692188967867887:=0
def tw10019753567399606106:=0
def tw2971690805076802716:=0
def tw8081803781884196840:=0
def tw1709676823476028102:=0
def tw10197789997537272992:=0
def tw15456403109131963044:=0
def tw4508220465094679328:=0
def tw11364600438938517933:=0
def tw8098465579376553748:=0
def tw13494001274669902121:=0
def tw1690842929162722400:=0
def tw15890724508264181375:=0
def tw11020686988170430885:=0
def tw1367013780300789636:=0
def tw239325598747720789:=0
def tw2211614337068328827:=0
def tw17430976868013935621:=0
def tw15351199748473060900:=0
def tw12997463156471995400:=0
def tw4877370379755002282:=0
def tw392847060386511017:=0
def tw2042501578525361599:=0
def tw16286042143420679776:=0
def tw5506060497103044659:=0
def tw3035321012475917193:=0
def tw9753149105743449943:=0
def tw8448855775803840574:=0
def tw15516951363719891850:=0
def tw8424990788732908895:=0
def tw12978424497380569439:=0
def tw13462104019170573251:=0
def tw13542360692371156980:=0
def tw1684777539631584988:=0
def tw5510346237797979537:=0
def tw686245352294557859:=0
def tw3841435220648514531:=0
def tw15561616938893310615:=0
def tw10648340654079122214:=0
def tw11059563692115446818:=0
def tw16401779968965401485:=0
def tw5630043806697667399:=0
def tw9466281330173924137:=0
def tw1968670683228588387:=0
def tw6450843570801300984:=0
def tw1526710014214294874:=0
end PySem.W.Fast
open PySem PySem.W PyProof.Rows
set_option maxRecDepth 100000 in
set_option maxHeartbeats 0 in
theorem PySem.Challenge.cw_ringbeat_k74_whole_alike_or_parted_holds : PySem.Challenge.rw_ringbeat_k74_whole_alike_or_parted.Holds := by
  w_on; o_law; k_head; (case hw => w_witness2)
  k_fill
  refine My.walk (l := PySem.Challenge.rw_ringbeat_k74_whole_alike_or_parted) rfl rfl (fun w h Y => PySem.W.kIn_of Y) ?F
  case F =>
    intro w mg fa h KX G hmg
    refine' My.all_mk KX G hmg ?aC_Arrow ?pg_Arrow ?hd_Arrow ?po_Arrow ?sa_Arrow ?mk_Arrow ?kc_Arrow ?aC_Ride ?pg_Ride ?hd_Ride ?po_Ride ?sa_Ride ?mk_Ride ?kc_Ride ?aC_Wait ?pg_Wait ?hd_Wait ?po_Wait ?sa_Wait ?mk_Wait ?kc_Wait ?aC_Back ?pg_Back ?hd_Back ?po_Back ?sa_Back ?mk_Back ?kc_Back ?aC_Net ?pg_Net ?hd_Net ?po_Net ?sa_Net ?mk_Net ?kc_Net ?a0 ?i0 ?l0 ?c0 ?k0 ?a1 ?i1 ?l1 ?c1 ?k1 ?a2 ?i2 ?l2 ?c2 ?k2 ?t2 ?a3 ?i3 ?l3 ?c3 ?k3 ?t3 ?a4 ?l4 ?c4 ?k4 ?a5 ?l5 ?c5 ?k5 ?a6 ?l6 ?c6 ?k6 ?a7 ?l7 ?c7 ?k7 ?a8 ?l8 ?c8 ?k8 ?a9 ?l9 ?c9 ?k9 ?a10 ?l10 ?c10 ?k10 ?a11 ?i11 ?l11 ?c11 ?k11 ?a12 ?i12 ?l12 ?c12 ?k12 ?a13 ?i13 ?l13 ?c13 ?k13 ?a14 ?i14 ?l14 ?c14 ?k14 ?a15 ?l15 ?c15 ?k15 ?a16 ?l16 ?c16 ?k16 ?a17 ?l17 ?c17 ?k17 ?a18 ?l18 ?c18 ?k18 ?a19 ?l19 ?c19 ?k19 ?a20 ?l20 ?c20 ?k20 ?a21 ?l21 ?c21 ?k21 ?t21 ?a22 ?l22 ?c22 ?k22 ?a23 ?l23 ?c23 ?k23 ?a24 ?l24 ?c24 ?k24 ?a25 ?l25 ?c25 ?k25 ?a26 ?l26 ?c26 ?k26 ?a27 ?l27 ?c27 ?k27 ?a28 ?l28 ?c28 ?k28 ?a29 ?l29 ?c29 ?k29 ?a30 ?l30 ?c30 ?k30 ?a31 ?l31 ?c31 ?k31 ?a32 ?l32 ?c32 ?k32 ?a33 ?l33 ?c33 ?k33 ?a34 ?l34 ?c34 ?k34 ?a35 ?l35 ?c35 ?k35 ?a36 ?l36 ?c36 ?k36 ?qs_Arrow ?qr_Arrow ?qf_Arrow ?n_Net_arrows ?n_Arrow_behind ?n_Ride_behind ?n_Wait_behind ?n_Back_behind ?n_Arrow_goal ?n_Ride_goal ?n_Wait_goal ?n_Back_goal ?n_Net_names ?n_Arrow_start ?n_Ride_start ?n_Wait_start ?n_Back_start ?n_Arrow_time ?n_Ride_time ?n_Wait_time ?n_Back_time ?ign ?igt ?iga_Arrow ?igm_Arrow ?kit_Arrow_Back ?kit_Arrow_Ride ?iga_Ride ?igm_Ride ?kit_Ride_Back ?kit_Ride_Ride ?iga_Wait ?igm_Wait ?kit_Wait_Back ?kit_Wait_Ride ?iga_Back ?igm_Back ?kit_Back_Back ?kit_Back_Ride ?iga_Net ?igm_Net ?kit_Net_Back ?kit_Net_Ride ?z0 ?z1 ?z2 ?z3 ?z4 ?z5 ?z6 ?z7 ?z8 ?z9 ?z10 ?z11 ?z12 ?z13 ?gc0 ?gc1 ?gc2 ?gc3 ?gc4
    (case aC_Arrow => k_is)
    (case pg_Arrow => k_is)
    (case hd_Arrow => k_is)
    (case po_Arrow => k_is)
    (case sa_Arrow => k_is)
    (case mk_Arrow => k_is)
    (case kc_Arrow => k_is)
    (case aC_Ride => k_is)
    (case pg_Ride => k_is)
    (case hd_Ride => k_is)
    (case po_Ride => k_is)
    (case sa_Ride => k_is)
    (case mk_Ride => k_is)
    (case kc_Ride => k_is)
    (case aC_Wait => k_is)
    (case pg_Wait => k_is)
    (case hd_Wait => k_is)
    (case po_Wait => k_is)
    (case sa_Wait => k_is)
    (case mk_Wait => k_is)
    (case kc_Wait => k_is)
    (case aC_Back => k_is)
    (case pg_Back => k_is)
    (case hd_Back => k_is)
    (case po_Back => k_is)
    (case sa_Back => k_is)
    (case mk_Back => k_is)
    (case kc_Back => k_is)
    (case aC_Net => k_is)
    (case pg_Net => k_is)
    (case hd_Net => k_is)
    (case po_Net => k_is)
    (case sa_Net => k_is)
    (case mk_Net => k_is)
    (case kc_Net => k_is)
    (case a0 => k_is)
    (case i0 => k_is)
    (case l0 => k_is)
    (case c0 => k_is)
    (case k0 => k_is)
    (case a1 => k_is)
    (case i1 => k_is)
    (case l1 => k_is)
    (case c1 => k_is)
    (case k1 => k_is)
    (case a2 => k_is)
    (case i2 => k_is)
    (case l2 => k_is)
    (case c2 => k_is)
    (case k2 => k_is)
    (case t2 => k_is)
    (case a3 => k_is)
    (case i3 => k_is)
    (case l3 => k_is)
    (case c3 => k_is)
    (case k3 => k_is)
    (case t3 => k_is)
    (case a4 => k_is)
    (case l4 => k_is)
    (case c4 => k_is)
    (case k4 => k_is)
    (case a5 => k_is)
    (case l5 => k_is)
    (case c5 => k_is)
    (case k5 => k_is)
    (case a6 => k_is)
    (case l6 => k_is)
    (case c6 => k_is)
    (case k6 => k_is)
    (case a7 => k_is)
    (case l7 => k_is)
    (case c7 => k_is)
    (case k7 => k_is)
    (case a8 => k_is)
    (case l8 => k_is)
    (case c8 => k_is)
    (case k8 => k_is)
    (case a9 => k_is)
    (case l9 => k_is)
    (case c9 => k_is)
    (case k9 => k_is)
    (case a10 => k_is)
    (case l10 => k_is)
    (case c10 => k_is)
    (case k10 => k_is)
    (case a11 => k_is)
    (case i11 => k_is)
    (case l11 => k_is)
    (case c11 => k_is)
    (case k11 => k_is)
    (case a12 => k_is)
    (case i12 => k_is)
    (case l12 => k_is)
    (case c12 => k_is)
    (case k12 => k_is)
    (case a13 => k_is)
    (case i13 => k_is)
    (case l13 => k_is)
    (case c13 => k_is)
    (case k13 => k_is)
    (case a14 => k_is)
    (case i14 => k_is)
    (case l14 => k_is)
    (case c14 => k_is)
    (case k14 => k_is)
    (case a15 => k_is)
    (case l15 => k_is)
    (case c15 => k_is)
    (case k15 => k_is)
    (case a16 => k_is)
    (case l16 => k_is)
    (case c16 => k_is)
    (case k16 => k_is)
    (case a17 => k_is)
    (case l17 => k_is)
    (case c17 => k_is)
    (case k17 => k_is)
    (case a18 => k_is)
    (case l18 => k_is)
    (case c18 => k_is)
    (case k18 => k_is)
    (case a19 => k_is)
    (case l19 => k_is)
    (case c19 => k_is)
    (case k19 => k_is)
    (case a20 => k_is)
    (case l20 => k_is)
    (case c20 => k_is)
    (case k20 => k_is)
    (case a21 => k_is)
    (case l21 => k_is)
    (case c21 => k_is)
    (case k21 => k_is)
    (case t21 => k_is)
    (case a22 => k_is)
    (case l22 => k_is)
    (case c22 => k_is)
    (case k22 => k_is)
    (case a23 => k_is)
    (case l23 => k_is)
    (case c23 => k_is)
    (case k23 => k_is)
    (case a24 => k_is)
    (case l24 => k_is)
    (case c24 => k_is)
    (case k24 => k_is)
    (case a25 => k_is)
    (case l25 => k_is)
    (case c25 => k_is)
    (case k25 => k_is)
    (case a26 => k_is)
    (case l26 => k_is)
    (case c26 => k_is)
    (case k26 => k_is)
    (case a27 => k_is)
    (case l27 => k_is)
    (case c27 => k_is)
    (case k27 => k_is)
    (case a28 => k_is)
    (case l28 => k_is)
    (case c28 => k_is)
    (case k28 => k_is)
    (case a29 => k_is)
    (case l29 => k_is)
    (case c29 => k_is)
    (case k29 => k_is)
    (case a30 => k_is)
    (case l30 => k_is)
    (case c30 => k_is)
    (case k30 => k_is)
    (case a31 => k_is)
    (case l31 => k_is)
    (case c31 => k_is)
    (case k31 => k_is)
    (case a32 => k_is)
    (case l32 => k_is)
    (case c32 => k_is)
    (case k32 => k_is)
    (case a33 => k_is)
    (case l33 => k_is)
    (case c33 => k_is)
    (case k33 => k_is)
    (case a34 => k_is)
    (case l34 => k_is)
    (case c34 => k_is)
    (case k34 => k_is)
    (case a35 => k_is)
    (case l35 => k_is)
    (case c35 => k_is)
    (case k35 => k_is)
    (case a36 => k_is)
    (case l36 => k_is)
    (case c36 => k_is)
    (case k36 => k_is)
    (case qs_Arrow => k_is)
    (case qr_Arrow => k_is)
    (case qf_Arrow => k_is)
    (case n_Net_arrows => k_is)
    (case n_Arrow_behind => k_is)
    (case n_Ride_behind => k_is)
    (case n_Wait_behind => k_is)
    (case n_Back_behind => k_is)
    (case n_Arrow_goal => k_is)
    (case n_Ride_goal => k_is)
    (case n_Wait_goal => k_is)
    (case n_Back_goal => k_is)
    (case n_Net_names => k_is)
    (case n_Arrow_start => k_is)
    (case n_Ride_start => k_is)
    (case n_Wait_start => k_is)
    (case n_Back_start => k_is)
    (case n_Arrow_time => k_is)
    (case n_Ride_time => k_is)
    (case n_Wait_time => k_is)
    (case n_Back_time => k_is)
    (case ign => k_is)
    (case igt => k_is)
    (case iga_Arrow => k_is)
    (case igm_Arrow => k_is)
    (case kit_Arrow_Back => kit_is)
    (case kit_Arrow_Ride => kit_is)
    (case iga_Ride => k_is)
    (case igm_Ride => k_is)
    (case kit_Ride_Back => kit_is)
    (case kit_Ride_Ride => kit_is)
    (case iga_Wait => k_is)
    (case igm_Wait => k_is)
    (case kit_Wait_Back => kit_is)
    (case kit_Wait_Ride => kit_is)
    (case iga_Back => k_is)
    (case igm_Back => k_is)
    (case kit_Back_Back => kit_is)
    (case kit_Back_Ride => kit_is)
    (case iga_Net => k_is)
    (case igm_Net => k_is)
    (case kit_Net_Back => kit_is)
    (case kit_Net_Ride => kit_is)
    (case z0 => k_is)
    (case z1 => k_is)
    (case z2 => k_is)
    (case z3 => k_is)
    (case z4 => k_is)
    (case z5 => k_is)
    (case z6 => k_is)
    (case z7 => k_is)
    (case z8 => k_is)
    (case z9 => k_is)
    (case z10 => k_is)
    (case z11 => k_is)
    (case z12 => k_is)
    (case z13 => k_is)
    (case gc0 => k_is)
    (case gc1 => k_is)
    (case gc2 => k_is)
    (case gc3 => k_is)
    (case gc4 => k_is)
