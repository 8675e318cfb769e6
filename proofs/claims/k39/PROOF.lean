import PyProof.Rows.All
import Wide.All
import OpenK.AllK
import Wide.FinOn
import Lean
import PyProof.EqAt
import PyProof.EqKinds
import PyProof.TupleCall
import PySem.Challenge.RW_ringbeat_k39_whole_rounds_moved
set_option Elab.async false
set_option linter.all false
set_option maxRecDepth 100000
open Array renaming length_toList→cu
open Bool renaming false_ne_true→aH,and_eq_true→bq,false_eq_true→bZ,or_eq_false_iff→mG,or_false→sX
open Int renaming mul_le_mul_of_nonneg_right→aL,mul_le_mul_of_nonneg_left→bc,gcd→bF,le_of_lt→bO,mul_pos→bV,mul_comm→cA,mul_le_mul→cF,mul_assoc→cV,mul_nonneg→dc,eq_of_mul_eq_mul_right→dM,le_of_mul_le_mul_right→dN,le_refl→dO,add_mul→eO,emod_nonneg→eT,fdiv_eq_ediv_of_nonneg→fv,fmod_eq_emod_of_nonneg→fw,gcd_eq_one_iff→fC,eq_of_mul_eq_mul_left→fK,le_of_mul_le_mul_left→fL,gcd_dvd_right→fN,gcd_dvd_left→fZ,natAbs_dvd_natAbs→gO,emod_lt_of_pos→iM,mul_nonneg_of_nonpos_of_nonpos→iN,le_trans→i6,toNat_natCast→i7,mul_one→jS,nonneg_of_mul_nonneg_left→jT,one_mul→jU,natAbs_mul→kF,dvd_mul_of_dvd_right→lJ,mul_ediv_cancel_left→lK,pos_of_mul_pos_right→lL,fdiv_eq_ediv_of_dvd→lX,fmod_nonneg_of_pos→mB,mul_ediv_cancel'→nj,mul_add→nk,toNat_of_nonneg→nK,fmod_lt_of_pos→ox,gcd_zero_right→oy,gcd_mul_left→pU,mul_ne_zero→qM
open List renaming mem_cons_self→aa,mem_cons_of_mem→ai,replicate→ak,length_map→am,mem_singleton→ar,mem_append_right→ax,mem_cons→aA,range→aB,map_cons→aC,size_toArray→aD,length_append→aI,length_cons→aJ,getElem?_eq_some_iff→aK,mem_append→aM,getElem?_map→aP,lookup_cons→aQ,mem_map→aR,mem_append_left→aT,getElem?_eq_getElem→aU,length_range→aX,nodup_append→aY,mem_range→aZ,Nodup→ba,nodup_cons→bi,sum_cons→bj,nodup_nil→bm,map_map→br,mem_filter→bx,append_nil→bC,mem_iff_getElem?→bD,getElem?_append_left→bE,replicate_succ→bJ,length_singleton→bQ,getElem?_set_ne→bR,append_assoc→bT,find?_cons→bU,length_replicate→bY,not_mem_nil→ce,length_reverse→cv,map_congr_left→cw,take_of_length_le→cz,all_cons→cB,flatten_cons→cP,mem_iff_getElem→cQ,length_take→cZ,length_zip→dr,any_cons→dA,getElem?_append_right→dJ,length_drop→dP,nodup_range→dQ,pairwise_cons→dX,zip_cons_cons→dY,getElem?_replicate→d4,drop_of_length_le→eh,pairwise_map→ej,reverse_cons→ek,countP_cons→eF,Pairwise→eJ,eq_nil_of_length_eq_zero→eK,lookup→eL,map_append→eP,of_mem_zip→eQ,filterMap_cons→eU,map_nil→eY,countP_append→fq,range'→fM,all_eq_true→fU,getElem?_set_self→gq,nil_append→gD,getElem?_reverse→gG,length_filter_le→gH,range_eq_range'→gR,mem_of_mem_take→gS,map_drop→ik,findIdx?_cons→iw,ext_getElem?→iS,ext_getElem→jJ,getElem_inj→jK,map_reverse→jL,take_append_of_le_length→jR,map_const'→jV,foldl_cons→jW,forIn_cons→jX,mem_zipIdx_iff_getElem?→jY,perm_ext_iff_of_nodup→kr,drop_eq_getElem_cons→kG,pairwise_iff_getElem→kI,getElem?_take_of_lt→kX,filter_cons_of_neg→lM,filter_cons_of_pos→lN,length_eq_zero_iff→lO,drop_eq_nil_of_le→lY,countP_singleton→mC,getElem?_eq_none→mD,getElem_toArray→mH,length→mI,mem_of_mem_drop→mJ,perm_cons_erase→mK,length_pos_iff→nq,contains_cons→nL,find?_eq_none→nM,foldl→nN,getElem_range→nO,length_zipIdx→nP,map_singleton→nQ,mem_filterMap→nR,foldl_append→oz,getElem?_set→oA,getElem_take→oB,idxOf_append→oC,Perm→oQ,filter_cons→oR,mem_reverse→oS,find?_some→pV,length_set→pW,zip_append→pX,forIn_nil→qN,contains→sY,map_take→sZ
open Nat renaming le_refl→aE,lt_of_lt_of_le→aO,ne_of_lt→aV,le_trans→bG,zero_le→bW,pow_le_pow_right→cn,lt_irrefl→cW,lt_succ_of_lt→dE,min_self→e9,le_succ→fO,lt_succ_self→gc,min_eq_right→gd,min_eq_left→gI,lt_of_le_of_lt→iO,mod_lt→iP,le_of_lt→i8,le_of_succ_le→i9,le_total→jA,pow_succ→jB,log2_lt→jZ,eq_of_mul_eq_mul_left→kY,sub_self→mE,le_add_right→pY,mul_le_mul→tf
open Option renaming bind_some→bL,map_eq_some_iff→cx,map→cS,isSome_map→iy,isSome_iff_exists→ku,getD_none→nS,getD_some→nU,map_some→oE
open PyProof.Rows renaming callWith_type1→bH
open PySem.Heap renaming get?_push_of_some→ay,lt_size→aF,get?_push_size→bn,size_push→ed,SameBut→eX,get?_update_other→gk,get?_update_self→mz,IsSliceOf→qK
open PySem.W renaming Frag→ae,fnOf→af,keepIn→ao,nsIn→aq,codeIn→av,findIn→aw,mg_of→az,mg_none_of→bp,kitOne→bv,kia_one→bK,emptyDict→bS,plainGet→bX,hasDictIn→ck,instObj→cH,makesIn→cI,isFn→cK,plainOver→cL,specialIn→cM,mroIn→dS,methodCall_KW→el,callWith_K→eW,cellsFrom_some→fT,findCls→fV,readsIn→fW,lookIn→gE,plainGet_of→gP,kitx_list→ip,methodObj→iq,OpenLaw→jC,takerIn→jD,takesIn→jE,kitx_dict→mL,handedIn→nt,WalkO→oT
namespace L2
open PySem PySem.Spec PyProof.Rows
abbrev Key:=Sum Int Str
def kQ:Key->Value->Bool
 |.inl k,v=>Value.isInt k v
 |.inr x,v=>Value.isStrOf x v
def IR (w:World):Key->Int
 |.inl k=>hashInt k
 |.inr x=>hashStr w x
theorem vg:∀{k:Key} {v:Value},kQ k v=true->(∃i t,k=Sum.inl i/\v=Value.int i t)\/(∃x t,k=Sum.inr x/\v=Value.str x t)
 |.inl i,v,h=>by
  obtain⟨t,e⟩:=Value.isInt_shape (k:=i) (v:=v) h
  exact .inl ⟨i,t,rfl,e⟩
 |.inr x,v,h=>by
  obtain⟨t,e⟩:=Value.isStrOf_shape (x:=x) (v:=v) h
  exact .inr ⟨x,t,rfl,e⟩
theorem Wq (i:Int)(t:Tok):kQ (.inl i) (.int i t)=true:=by simp[kQ,Value.isInt]
theorem Wr (x:Str)(t:Tok):kQ (.inr x) (.str x t)=true:=by simp[kQ,Value.isStrOf]
theorem Zx (a b:Int):decide ((Sum.inl a:Key)=Sum.inl b)=(a == b):=by
 by_cases e:a=b
 ·subst e; simp
 ·have h:¬(Sum.inl a:Key)=Sum.inl b:=λq=>e (Sum.inl.inj q)
  rw[decide_eq_false h]
  exact(beq_eq_false_iff_ne.mpr e).symm
theorem Zy (a b:Str):decide ((Sum.inr a:Key)=Sum.inr b)=decide (a=b):=by
 by_cases e:a=b
 ·subst e; simp
 ·have h:¬(Sum.inr a:Key)=Sum.inr b:=λq=>e (Sum.inr.inj q)
  rw[decide_eq_false h,decide_eq_false e]
theorem Zz (a:Int)(b:Str):decide ((Sum.inl a:Key)=Sum.inr b)=false:=decide_eq_false (λq=>nomatch q)
theorem ZA (a:Str)(b:Int):decide ((Sum.inr a:Key)=Sum.inl b)=false:=decide_eq_false (λq=>nomatch q)
def dL (prog:Program)(w:World):PySem.KeyKind prog w Key where
 is:=kQ
 hash:=IR w
 inj:=λv a b ha hb=>by
  rcases vg ha with⟨i,t,rfl,rfl⟩|⟨x,t,rfl,rfl⟩
  ·rcases vg hb with⟨j,u,rfl,e⟩|⟨y,u,rfl,e⟩
   ·injection e with e1 _; rw[e1]
   ·exact nomatch e
  ·rcases vg hb with⟨j,u,rfl,e⟩|⟨y,u,rfl,e⟩
   ·exact nomatch e
   ·injection e with e1 _; rw[e1]
 byValue:=λk v h=>by
  rcases vg h with⟨i,t,rfl,rfl⟩|⟨x,t,rfl,rfl⟩ <;> rfl
 pyHash:=λhv h=>by
  rcases vg hv with⟨i,t,rfl,rfl⟩|⟨x,t,rfl,rfl⟩
  ·exact wpAny_pyHash_int h
  ·exact wpAny_pyHash_str h
 eqBool:=λhu hv h=>by
  rcases vg hu with⟨i,t,rfl,rfl⟩|⟨x,t,rfl,rfl⟩
  ·rcases vg hv with⟨j,u,rfl,rfl⟩|⟨y,u,rfl,rfl⟩
   ·rw[Zx]at h; exact wpAny_eqBool_int h
   ·rw[Zz]at h; exact SeqAt.EqAt.int_str i t y u _ _ _ _ h
  ·rcases vg hv with⟨j,u,rfl,rfl⟩|⟨y,u,rfl,rfl⟩
   ·rw[ZA]at h; exact SeqAt.EqAt.str_int x t j u _ _ _ _ h
   ·rw[Zy]at h; exact wpAny_eqBool_str h
 «strs»:=λk x t v h=>by
  rcases vg h with⟨i,u,rfl,e⟩|⟨y,u,rfl,e⟩
  ·exact nomatch e
  ·injection e with e1 _
   subst e1
   cases v <;> rfl
theorem VS (prog:Program)(w:World)(i:Int)(t:Tok):(dL prog w).is (.inl i) (.int i t)=true:=Wq i t
theorem VT (prog:Program)(w:World)(x:Str)(t:Tok):(dL prog w).is (.inr x) (.str x t)=true:=Wr x t
end L2
namespace L2
open PySem PySem.Spec PyProof.Rows
inductive V where
 |non|bl (b:Bool)|int (i:Int)|str (x:Str)|byt (b:Array UInt8)|flt (b:UInt64)|ref (a:Addr)|ty (n:String)
 deriving DecidableEq
def RelV:V->Value->Prop
 |.non,u=>u=Value.none
 |.bl b,u=>u=Value.bool b
 |.int i,u=>∃t,u=Value.int i t
 |.str x,u=>∃t,u=Value.str x t
 |.byt b,u=>∃t,u=Value.bytes b t
 |.flt b,u=>∃t,u=Value.float b t
 |.ref a,u=>u=Value.ref a
 |.ty n,u=>u=Value.type n
abbrev bA:List V->List Value->Prop:=Paired RelV
theorem bA.length {xs:List V}{us:List Value}(r:bA xs us):xs.length=us.length:=Paired.length r
theorem bA.get:∀{xs:List V} {us:List Value} {i:Nat} {x:V},bA xs us->xs[i]?=some x->∃u,us[i]?=some u/\RelV x u
 |_,_,_,_,.nil,e=>by simp at e
 |_,_,0,_,.cons r _,e=>by simp at e; subst e; exact⟨_,rfl,r⟩
 |_,_,i+1,x,.cons _ t,e=>by
  obtain⟨u,h1,h2⟩:=bA.get (i:=i) (x:=x) t (by simpa using e)
  exact⟨u,by simpa using h1,h2⟩
theorem bA.set {x:V}{u:Value}(r:RelV x u):∀{xs:List V} {us:List Value} (i:Nat),bA xs us->bA (xs.set i x) (us.set i u)
 |_,_,_,.nil=>.nil
 |_,_,0,.cons _ t=>.cons r t
 |_,_,i+1,.cons q t=>.cons q (bA.set r i t)
theorem bA.append:∀{xs ys:List V} {us ws:List Value},bA xs us->bA ys ws->bA (xs++ys) (us++ws)
 |_,_,_,_,.nil,s=>s
 |_,_,_,_,.cons r t,s=>.cons r (bA.append t s)
theorem bA.take:∀{xs:List V} {us:List Value} (n:Nat),bA xs us->bA (xs.take n) (us.take n)
 |_,_,0,_=>.nil
 |_,_,_+1,.nil=>.nil
 |_,_,n+1,.cons r t=>.cons r (bA.take n t)
theorem bA.drop:∀{xs:List V} {us:List Value} (n:Nat),bA xs us->bA (xs.drop n) (us.drop n)
 |_,_,0,r=>r
 |_,_,_+1,.nil=>.nil
 |_,_,n+1,.cons _ t=>bA.drop n t
def gU:Option V->Option Value->Prop
 |some v,some u=>RelV v u
 |none,none=>True
 |_,_=>False
def KV {κ:Type}:List (κ×V)->List (κ×Value)->Prop:=Paired λ(p:κ×V) (q:κ×Value)=>p.1=q.1/\RelV p.2 q.2
def kV:Key->V
 |.inl i=>.int i
 |.inr x=>.str x
inductive HO where
 |lst (xs:List V)
 |tup (xs:List V)
 |dK (kvs:List (Key×V))|dT (kvs:List (List Key×V))
 |set (S:Int->Bool) (n:Nat)
 |ins (C dx:Addr) (fs:List (Str×V))
 |own (x:Addr)
 |xd (fs:List (Str×V))
 |met (f x:Addr)
 |rng (lo hi:Int)
 |frz (o:Obj) (u:HO)
 |tbl (ps:Array Value)
 |ext (φ:Heap->Prop)
abbrev Hp:=Addr->Option HO
def cC (H:Hp)(a:Addr)(o:HO):Hp:=λb=>if b=a then some o else H b
theorem yu {H:Hp}{a:Addr}{o:HO}:cC H a o a=some o:=by unfold cC; rw[if_pos rfl]
theorem yp {H:Hp}{a b:Addr}{o:HO}(h:b≠a):cC H a o b=H b:=by unfold cC; rw[if_neg h]
theorem ztk {H:Hp}{a b:Addr}{o u:HO}(h:H a=some o)(h':H b=some u)(d:o≠u):a≠b:=by
 intro e; subst e; rw[h]at h'; exact d (Option.some.inj h')
theorem xu {H:Hp}{a b:Addr}{o:HO}(h:H a=some o)(h':H b=none):a≠b:=by
 intro e; subst e; rw[h]at h'; cases h'
section
variable (P:Program)(w:World)
def cN (H:Hp)(h:Heap)(a:Addr):HO->Prop
  |.lst xs=>xs.length<=sizeLine/\∃(its:List Value) (n:Nat),bA xs its/\h.get? a=some { cls:=.type "list",data:=.seq its.toArray n }
  |.tup xs=>xs.length<=sizeLine/\∃its:List Value,bA xs its/\IsTup h a its.toArray
  |.dK kvs=>kvs.length<=sizeLine/\(a == sysModules)=false/\∃vs,KV kvs vs/\h.DictOf (dL P w) a vs
  |.dT kvs=>kvs.length<=sizeLine/\(a == sysModules)=false/\∃xs:List (List Key×Addr×Value),
      Paired (λ(p:List Key×V) (q:List Key×Addr×Value)=>p.1=q.1/\H q.2.1=some (.tup (p.1.map kV))/\RelV p.2 q.2.2) kvs xs /\
      ∃o es ep,h.get? a=some o/\o.ExactDict/\o.data=.dict es ep/\es.toList=xs.map (entryOfKey (tupleKind (dL P w)))/\(xs.map (·.1)).Nodup
  |.set S n=>h.SetOf (intKind P w) a S n
  |.ins C dx fs=>H dx=some (.own a)/\fs.length<=1000/\dx≠a/\h.get? a=some (cH C dx) /\
      ∃mA,h.Ns1 dx mA/\(∀f,gU (fs.lookup f) (mA f))/\PySem.Within mA (fs.map (·.1))
  |.own _=>∃o,h.get? a=some o
  |.xd fs=>∃mA,h.Ns1 a mA/\∀f,gU (fs.lookup f) (mA f)
  |.rng lo hi=>∃t u v,h.get? a=some { cls:=.type "range",data:=.fields #[.int lo t,.int hi u,.int 1 v] }
  |.frz o u=>h.get? a=some o/\cN H h a u
  |.tbl ps=>h.get? a=some { cls:=.none,data:=.fields ps }
  |.met f x=>h.get? a=some (iq (.ref f) (.ref x))
  |.ext φ=>φ h/\(∃o,h.get? a=some o)/\∀h1 h2:Heap,φ h1->(∀o,h1.get? a=some o->h2.get? a=some o)->φ h2
def ir (H:Hp)(h:Heap):Prop:=∀a o,H a=some o->cN P w H h a o
end
section
variable {P:Program}{w:World}{H H':Hp}{h h':Heap}{a:Addr}{o:HO}
theorem cN.lt (x:cN P w H h a o):a<h.objs.size:=by
 cases o with
 |lst xs=>obtain⟨_,_,_,_,e⟩:=x; exact aF e
 |tup xs=>obtain⟨_,_,_,p⟩:=x; exact p.lt
 |dK kvs=>obtain⟨_,_,_,_,o,_,_,e,_⟩:=x; exact aF e
 |dT kvs=>obtain⟨_,_,_,_,o,_,_,e,_⟩:=x; exact aF e
 |set S n=>obtain⟨o,_,_,_,e,_⟩:=x; exact aF e
 |ins C dx fs=>obtain⟨_,_,_,e,_⟩:=x; exact aF e
 |own y=>obtain⟨_,e⟩:=x; exact aF e
 |xd fs=>obtain⟨_,⟨_,_,_,e,_⟩,_⟩:=x; exact aF e
 |rng lo hi=>obtain⟨_,_,_,e⟩:=x; exact aF e
 |frz ob u=>obtain⟨e,_⟩:=x; exact aF e
 |tbl ps=>exact aF (show h.get? a=some _ from x)
 |met f y=>exact aF (show h.get? a=some _ from x)
 |ext φ=>obtain⟨_,⟨_,e⟩,_⟩:=x; exact aF e
theorem Paired.mapP {α β:Type}{F G:α->β->Prop}:∀{l₁:List α} {l₂:List β},Paired F l₁ l₂->(∀a b,F a b->G a b)->Paired G l₁ l₂
 |_,_,.nil,_=>.nil
 |_,_,.cons r t,f=>.cons (f _ _ r) (Paired.mapP t f)
theorem cN.stay (x:cN P w H h a o)(k:∀b u,(b=a\/H b=some (.own a))->h.get? b=some u->h'.get? b=some u)
    (ho:∀b,H b=some (.own a)->H' b=some (.own a)) (ht:∀b xs,H b=some (.tup xs)->H' b=some (.tup xs)):cN P w H' h' a o:=by
  induction o with
  |lst xs=>obtain⟨z,its,n,r,e⟩:=x; exact⟨z,its,n,r,k _ _ (.inl rfl) e⟩
  |tup xs=>obtain⟨z,its,r,ob,e,c⟩:=x; exact⟨z,its,r,ob,k _ _ (.inl rfl) e,c⟩
  |dK kvs=>obtain⟨z,y,vs,r,ob,es,ep,e,c⟩:=x; exact⟨z,y,vs,r,ob,es,ep,k _ _ (.inl rfl) e,c⟩
  |dT kvs =>
    obtain⟨z,y,xs,r,ob,es,ep,e,c⟩:=x
    exact⟨z,y,xs,Paired.mapP r λp q z=>⟨z.1,ht _ _ z.2.1,z.2.2⟩,ob,es,ep,k _ _ (.inl rfl) e,c⟩
  |set S n=>obtain⟨ob,es,ep,t,e,c⟩:=x; exact⟨ob,es,ep,t,k _ _ (.inl rfl) e,c⟩
  |ins C dx fs =>
    obtain⟨d,z,ne,e,mA,⟨od,es,ep,e2,c⟩,r⟩:=x
    exact⟨ho _ d,z,ne,k _ _ (.inl rfl) e,mA,⟨od,es,ep,k _ _ (.inr d) e2,c⟩,r⟩
  |own y=>obtain⟨ob,e⟩:=x; exact⟨ob,k _ _ (.inl rfl) e⟩
  |xd fs=>obtain⟨mA,⟨od,es,ep,e,c⟩,r⟩:=x; exact⟨mA,⟨od,es,ep,k _ _ (.inl rfl) e,c⟩,r⟩
  |rng lo hi=>obtain⟨t,u,v,e⟩:=x; exact⟨t,u,v,k _ _ (.inl rfl) e⟩
  |frz ob u ih=>obtain⟨e,q⟩:=x; exact⟨k _ _ (.inl rfl) e,ih q⟩
  |tbl ps =>
    have e:h.get? a=some { cls:=.none,data:=.fields ps }:=x
    show h'.get? a=some { cls:=.none,data:=.fields ps }
    exact k a _ (.inl rfl) e
  |met f y =>
    have e:h.get? a=some (iq (.ref f) (.ref y)):=x
    show h'.get? a=some (iq (.ref f) (.ref y))
    exact k a _ (.inl rfl) e
  |ext φ=>obtain⟨p,⟨o,e⟩,st⟩:=x; exact⟨st _ _ p λo q=>k _ _ (.inl rfl) q,⟨o,k _ _ (.inl rfl) e⟩,st⟩
theorem ir.lt (x:ir P w H h)(e:H a=some o):a<h.objs.size:=(x a o e).lt
theorem ir.fresh (x:ir P w H h)(e:h.objs.size<=a):H a=none:=by
 cases q:H a with
 |none=>rfl
 |some u=>exact absurd (aO (x.lt q) e) (cW _)
theorem ir.kept (x:ir P w H h)(k:∀b u,h.get? b=some u->h'.get? b=some u):ir P w H h':=λa o e =>
 (x a o e).stay (λb u _ q=>k b u q) (λ_ q=>q) λ_ _ q=>q
theorem ir.laid (x:ir P w H h)(k:∀b u,h.get? b=some u->h'.get? b=some u)(hp:h.objs.size<=a)(new:cN P w (cC H a o) h' a o):ir P w (cC H a o) h':=λb u e=>by
 have hn:=x.fresh hp
 by_cases hb:b=a
 ·subst hb; rw[yu]at e; cases e; exact new
 ·rw[yp hb]at e
  exact(x b u e).stay (λc v _ q=>k c v q) (λc q=>by rw[yp (xu q hn)]; exact q) λc xs q=>by rw[yp (xu q hn)]; exact q
end
def Rd (H:Hp)(a:Addr)(u:HO):Prop:=H a=some u\/∃o,H a=some (.frz o u)
theorem Rd.ok {P:Program}{w:World}{H:Hp}{h:Heap}{a:Addr}{u:HO}(r:Rd H a u)(x:ir P w H h):cN P w H h a u:=by
 rcases r with r|⟨o,r⟩
 ·exact x a u r
 ·obtain⟨_,q⟩:=x a _ r
  exact q
def Ct:Option HO->Prop
 |some (.lst _)=>True
 |some (.dK _)=>True
 |some (.dT _)=>True
 |some (.set _ _)=>True
 |some (.ins _ _ _)=>True
 |some (.ext _)=>True
 |_=>False
section
variable {P:Program}{w:World}{H:Hp}{h h':Heap}{x e:Addr}{o':HO}
theorem ir.write (ok:ir P w H h)(mu:Ct (H x))(he:e=x\/H e=some (.own x))(k:∀b u,b≠e->h.get? b=some u->h'.get? b=some u)(BM:∃u,h'.get? e=some u)
  (new:cN P w (cC H x o') h' x o'):ir P w (cC H x o') h':=λb u q=>by
 have Dx:∀c y,H c=some (.own y)->c≠x:=λc y r z=>by subst z; rw[r]at mu; exact mu
 have IY:∀c xs,H c=some (.tup xs)->c≠x:=λc xs r z=>by subst z; rw[r]at mu; exact mu
 by_cases hb:b=x
 ·subst hb; rw[yu]at q; cases q; exact new
 ·rw[yp hb]at q
  by_cases zA:b=e
  ·have q':H b=some (.own x):=by
    rcases he with z|z
    ·exact absurd (zA.trans z) hb
    ·rw[zA]; exact z
   rw[q]at q'; cases q'
   obtain⟨v,hv⟩:=BM
   exact⟨v,by rw[zA]; exact hv⟩
  ·refine(ok b u q).stay (λc v hc r=>k c v ?_ r) (λc r=>by rw[yp (Dx c b r)]; exact r) λc xs r=>by rw[yp (IY c xs r)]; exact r
   rcases hc with rfl|hc
   ·exact zA
   ·rintro rfl
    rcases he with z|z
    ·exact Dx c b hc z
    ·rw[hc]at z; cases z; exact hb rfl
end
structure Un (fs ex:List Addr)(H H':Hp)(h h':Heap):Prop where
 keep:∀b o,h.get? b=some o->H b=none->b∉fs->b∉ex->h'.get? b=some o
 slot:∀b o,h.get? b=some o->H b=none->b∈fs->b∉ex->∃sl,h'.get? b=some { o with slots:=sl }
 free:∀b o,h.get? b=some o->H b=none->b∉ex->H' b=none
 there:∀b o,h.get? b=some o->b∉ex->∃o',h'.get? b=some o'
 tups:∀b xs,H b=some (.tup xs)->H' b=some (.tup xs)
 frzs:∀b o u,H b=some (.frz o u)->H' b=some (.frz o u)
 tbls:∀b ps,H b=some (.tbl ps)->∃more,H' b=some (.tbl (ps++more))
section
variable {fs Sy ex ex':List Addr}{H H1 H2:Hp}{h h1 h2 h':Heap}{a x e:Addr}{o:HO}
theorem Un.any (u:Un fs ex H H1 h h1){b:Addr}{ob:Obj}(q:h.get? b=some ob)(n:H b=none)(hx:b∉ex):∃sl,h1.get? b=some { ob with slots:=sl }:=by
 by_cases hb:b∈fs
 ·exact u.slot b ob q n hb hx
 ·exact⟨ob.slots,u.keep b ob q n hb hx⟩
theorem Un.kept (k:∀b u,h.get? b=some u->h'.get? b=some u):Un fs ex H H h h' :=
 ⟨λb ob q _ _ _=>k b ob q,λb ob q _ _ _=>⟨ob.slots,k b ob q⟩,λ_ _ _ n _=>n,λb ob q _=>⟨ob,k b ob q⟩,λ_ _ q=>q,λ_ _ _ q=>q,λ_ ps q=>⟨#[],by rw[q]; simp⟩⟩
theorem Un.refl:Un fs ex H H h h:=Un.kept λ_ _ q=>q
theorem Un.laid (k:∀b u,h.get? b=some u->h'.get? b=some u)(hp:h.objs.size<=a)(hn:H a=none):Un fs ex H (cC H a o) h h' where
 keep:=λb u q _ _ _=>k b u q
 slot:=λb u q _ _ _=>⟨u.slots,k b u q⟩
 free:=λb u q n _=>by rw[yp (aV (aO (aF q) hp))]; exact n
 there:=λb u q _=>⟨u,k b u q⟩
 tups:=λb xs q=>by rw[yp (xu q hn)]; exact q
 frzs:=λb u xs q=>by rw[yp (xu q hn)]; exact q
 tbls:=λb ps q=>⟨#[],by rw[yp (xu q hn),q]; simp⟩
theorem Un.write (mu:Ct (H x))(he:e=x\/H e=some (.own x))(k:∀b u,b≠e->h.get? b=some u->h'.get? b=some u)(BM:∃u,h'.get? e=some u):Un fs ex H (cC H x o) h h':=by
 have hx:∀b,H b=none->b≠x:=λb n z=>by subst z; rw[n]at mu; exact mu
 have hb:∀b,H b=none->b≠e:=λb n z=>by
  subst z
  rcases he with r|r
  ·exact hx b n r
  ·rw[n]at r; cases r
 have hm:∀b u,H b=some u->¬Ct (some u)->b≠x:=λb u q nm z=>by subst z; rw[q]at mu; exact nm mu
 refine⟨λb u q n _ _=>k b u (hb b n) q,λb u q n _ _=>⟨u.slots,k b u (hb b n) q⟩,λb u q n _=>by rw[yp (hx b n)]; exact n,λb u q _=>?_,
  λb xs q=>by rw[yp (hm b _ q λz=>z)]; exact q,λb u xs q=>by rw[yp (hm b _ q λz=>z)]; exact q,λb ps q=>⟨#[],by rw[yp (hm b _ q λz=>z),q]; simp⟩⟩
 by_cases zA:b=e
 ·subst zA; exact BM
 ·exact⟨u,k b u zA q⟩
end
def FQ (h:Heap)(H:Hp):List Addr:=(aB h.objs.size).filter λa=>(H a).isSome
def lA (h:Heap)(H:Hp):Heap:=PySem.W.hideAll h (FQ h H)
theorem Ws (h:Heap)(H:Hp):(lA h H).objs.size=h.objs.size:=PySem.W.hideAll_size _ _
theorem WQ {h:Heap}{H:Hp}{b:Addr}{o:Obj}(e:h.get? b=some o)(n:H b=none):(lA h H).get? b=some o :=
 PySem.W.hideAll_get _ e λhm=>by
  have q:(H b).isSome=true:=(bx.mp hm).2
  rw[n]at q; simp at q
theorem Yg {h:Heap}{H:Hp}{b:Addr}{o:Obj}(e:(lA h H).get? b=some o):h.get? b=some o/\H b=none:=by
 have e':h.get? b=some o:=PySem.W.of_hideAll (FQ h H) e
 refine⟨e',?_⟩
 cases q:H b with
 |none=>rfl
 |some x =>
  have hm:b∈FQ h H:=bx.mpr ⟨aZ.mpr (aF e'),by simp[q]⟩
  have z:(lA h H).get? b=none:=PySem.W.hideAll_none (FQ h H) hm
  rw[z]at e; cases e
def qU (g h:Heap)(L:Addr):List (Addr×Obj):=(aB h.objs.size).filterMap λa=>if a=L\/(g.get? a).isSome=true then none else(h.get? a).map λo=>(a,o)
def rest (g h:Heap)(L d:Addr):List (Addr×Obj):=(qU g h L).filter λp=>decide (p.1≠d)
end L2
namespace L2
open PySem PySem.Spec PyProof.Rows
structure Mod (K:ae)(mg:Str->Option Value)(base:Heap):Prop where
 kin:K.In base
 glob:base.Ns mainGlobals mg
 blt:∃mb,base.Ns builtinsNs mb/\∀x:Str,x≠"__name__"->mb x=bootBuiltins x
 nolimit:base.NoLimit
structure Cx where
 prog:Program
 w:World
 K:ae
 mg:Str->Option Value
 base:Heap
 A:Around
 N:List Str
 s₀:Shared
 H₀:Hp
 env:Env
 outer:List Env
 stack:List Env
 ex:List Addr
 fn:Str->Bool
 calm:Bool
 pn:List (Addr×Obj)
 xe:Value->Shared->Prop
def pd (l:List Env):List Addr:=l.filterMap (·.frame)
abbrev Cx.fs (X:Cx):List Addr:=pd X.outer
def lP (sc:Scope)(x:Str):Prop:=sc.names.lookup x=some .local\/sc.names.lookup x=some .cell\/sc.names.lookup x=some .free
def Loc (sc:Scope)(x:Str):Prop:=sc.names.lookup x=some .local\/sc.names.lookup x=some .cell
def Look (env:Env)(h:Heap)(m:Str->Option Value)(x:Str)(u:Value):Prop :=
 (env.kindOf x=some .local/\m x=some u)\/((env.kindOf x=some .cell\/env.kindOf x=some .free)/\∃c,env.cells.lookup x=some c/\h.IsCell c (some u))
structure Cx.Ok (X:Cx):Prop where
 mod:Mod X.K X.mg X.base
 kind:X.env.scope.kind=.function
 glob:X.env.globals=mainGlobals
 blt:X.env.builtins=builtinsNs
 above:X.s₀.heap.objs.size<=X.env.locals
 inj:∀x y c,X.env.cells.lookup x=some c->X.env.cells.lookup y=some c->x=y
 has:∀x,(X.env.kindOf x=some .cell\/X.env.kindOf x=some .free)->∃c,X.env.cells.lookup x=some c
 cab:∀x c,X.fn x=true->X.env.cells.lookup x=some c->X.s₀.heap.objs.size<=c
 hd:X.calm=true->X.A.handled=none
 frames:X.A.frames=some X.stack
 stk:X.stack=X.outer\/(X.stack=X.env::X.outer/\X.env.frame=some X.env.locals)
 exf:∀b∈X.ex,b≠X.env.locals/\∀x c,X.env.cells.lookup x=some c->c≠b
 bs:∀b o,X.base.get? b=some o->X.s₀.heap.get? b=some o/\X.H₀ b=none
 bsz:X.base.objs.size<=X.s₀.heap.objs.size
 noex:∀b o,X.base.get? b=some o->b∉X.ex
 exfs:∀b∈X.ex,b∉X.fs
 funs:X.s₀.heap.FunFrames X.base X.outer
 frf:∀b∈X.fs,X.H₀ b=none
structure Inv (X:Cx)(pins:List (Addr×Obj))(σ:List (Option V))(H:Hp)(s:Shared):Prop where
 ok:X.Ok
 os:s.os=X.s₀.os
 bare:AllBare s.gens
 base:Un X.fs X.ex X.H₀ H X.s₀.heap s.heap
 loc:∃m,s.heap.Ns X.env.locals m/\∀(i:Nat) (x:Str) (v:V),X.N[i]?=some x->σ[i]?=some (some v)->lP X.env.scope x->∃u,RelV v u/\Look X.env s.heap m x u
 cell:∀x c,X.env.cells.lookup x=some c->∃v,s.heap.IsCell c v
 free:H X.env.locals=none
 freeC:∀x c,X.env.cells.lookup x=some c->H c=none
 pin:∀p∈X.pn++pins,s.heap.get? p.1=some p.2/\H p.1=none/\p.1≠X.env.locals/\p.1∉X.fs/\∀v,p.2.data≠.cell v
 hok:ir X.prog X.w H s.heap
 len:σ.length=X.N.length
section
variable {X:Cx}{pins:List (Addr×Obj)}{σ:List (Option V)}{H H':Hp}{s:Shared}{h':Heap}
theorem Cx.Ok.nofr (ok:X.Ok){b:Addr}{o:Obj}(e:X.base.get? b=some o):b∉X.fs:=λhb=>by
 have:=(ok.funs.mem hb).1
 rw[e]at this; cases this
theorem Inv.bs (I:Inv X pins σ H s):∀b o,X.base.get? b=some o->s.heap.get? b=some o/\H b=none:=λb o e =>
 ⟨I.base.keep b o (I.ok.bs b o e).1 (I.ok.bs b o e).2 (I.ok.nofr e) (I.ok.noex b o e),I.base.free b o (I.ok.bs b o e).1 (I.ok.bs b o e).2 (I.ok.noex b o e)⟩
theorem Inv.bk (I:Inv X pins σ H s):∀b o,X.base.get? b=some o->s.heap.get? b=some o:=λb o e=>(I.bs b o e).1
theorem Inv.mod (I:Inv X pins σ H s):Mod X.K X.mg X.base:=I.ok.mod
theorem Inv.kIn (I:Inv X pins σ H s):X.K.In s.heap:=I.ok.mod.kin.keeps I.bk
theorem Inv.fr (I:Inv X pins σ H s):∃m,Fr X.base X.env.locals s.heap m :=
 let⟨m,hn,_⟩:=I.loc
 ⟨m,hn,I.bk,bG I.ok.bsz I.ok.above⟩
theorem Inv.lt (I:Inv X pins σ H s):X.env.locals<s.heap.objs.size:=let⟨_,hn,_⟩:=I.loc; hn.lt
theorem Inv.sz (I:Inv X pins σ H s):X.s₀.heap.objs.size<=s.heap.objs.size:=bG I.ok.above (i8 I.lt)
theorem Inv.nofs (I:Inv X pins σ H s){a:Addr}(h:s.heap.objs.size<=a):a∉X.fs:=λhb=>by
 obtain⟨_,o,ho,_⟩:=I.ok.funs.mem hb
 exact absurd (aO (aF ho) (bG I.sz h)) (cW _)
theorem Inv.cne (I:Inv X pins σ H s):∀x c,X.env.cells.lookup x=some c->c≠X.env.locals:=λx c e z=>by
 obtain⟨v,o,ho,hd⟩:=I.cell x c e
 obtain⟨m,⟨o',es,ep,zH,CN,_⟩,_⟩:=I.loc
 rw[z,zH]at ho; cases ho; rw[CN]at hd; cases hd
theorem Inv.funs (I:Inv X pins σ H s):s.heap.FunFrames X.base X.outer:=by
 have all:∀(l:List Env),(∀b∈pd l,b∈X.fs)->X.s₀.heap.FunFrames X.base l->s.heap.FunFrames X.base l:=by
  intro l
  induction l with
  |nil=>intro _ _; trivial
  |cons env r ih =>
   intro hs hl
   obtain⟨hk,⟨L,o,hf,hn,ho,hd⟩,hr⟩:=hl
   have hL:L∈X.fs:=hs L (by unfold pd; rw[eU,hf]; exact aa)
   obtain⟨sl,e⟩:=I.base.slot L o ho (I.ok.frf L hL) hL λz=>I.ok.exfs L z hL
   exact⟨hk,⟨L,_,hf,hn,e,hd⟩,ih (λb hb=>hs b (by unfold pd; rw[eU,hf]; exact ai _ hb)) hr⟩
 exact all X.outer (λ_ hb=>hb) I.ok.funs
theorem Inv.stack (I:Inv X pins σ H s):s.heap.FunFrames X.base X.stack:=by
 rcases I.ok.stk with e|⟨e,hf⟩
 ·rw[e]; exact I.funs
 ·rw[e]
  obtain⟨m,hn,_⟩:=I.loc
  refine .cons (by rw[I.ok.kind]; decide) hf hn ?_ I.funs
  exact Heap.get?_none_of_le (bG I.ok.bsz I.ok.above)
theorem Inv.stkSub (I:Inv X pins σ H s):∀b∈pd X.stack,b∈X.env.locals::X.fs:=λb hb=>by
 rcases I.ok.stk with e|⟨e,hf⟩
 ·rw[e]at hb; exact ai _ hb
 ·rw[e]at hb
  unfold pd at hb
  rw[eU,hf]at hb
  exact hb
theorem Inv.stkFree (I:Inv X pins σ H s):∀b∈pd X.stack,H b=none:=λb hb=>by
 rcases aA.mp (I.stkSub b hb)with e|hb
 ·rw[e]; exact I.free
 ·obtain⟨_,o,ho,_⟩:=I.ok.funs.mem hb
  exact I.base.free b o ho (I.ok.frf b hb) λz=>I.ok.exfs b z hb
theorem Inv.step {g':Array GenState}{t':Nat}{d':Drawn}{ch:List Addr}(I:Inv X pins σ H s)
  (iF:∀b∈ch,(b∈X.ex\/X.s₀.heap.objs.size<=b)/\b≠X.env.locals/\(∀x c,X.env.cells.lookup x=some c->c≠b)/\∀p∈X.pn++pins,p.1≠b)
  (keep:∀b o,b≠X.env.locals->b∉X.fs->b∉ch->s.heap.get? b=some o->H b=none->h'.get? b=some o)
  (slot:∀b o,b≠X.env.locals->b∈X.fs->b∉ch->s.heap.get? b=some o->H b=none->∃sl,h'.get? b=some { o with slots:=sl }) (free:∀b o,b∉ch->s.heap.get? b=some o->H b=none->H' b=none)
  (there:∀b o,b∉ch->s.heap.get? b=some o->∃o',h'.get? b=some o')
  (tups:∀b xs,H b=some (.tup xs)->H' b=some (.tup xs)) (frzs:∀b o u,H b=some (.frz o u)->H' b=some (.frz o u)) (tbls:∀b ps,H b=some (.tbl ps)->∃more,H' b=some (.tbl (ps++more)))
  (ns:∀m,s.heap.Ns X.env.locals m->h'.Ns X.env.locals m) (hok:ir X.prog X.w H' h') (hg:AllBare g') :
  Inv X pins σ H' { s with heap:=h',gens:=g',drawn:=d',toks:=t' }:=by
 have N5:∀b o,X.s₀.heap.get? b=some o->b≠X.env.locals:=λb o e=>aV (aO (aF e) I.ok.above)
 have FF:∀b o,X.s₀.heap.get? b=some o->b∉X.ex->b∉ch:=λb o e hx hb=>by
  rcases(iF b hb).1 with z|z
  ·exact hx z
  ·exact absurd (aO (aF e) z) (cW _)
 have cellK:∀x c,X.env.cells.lookup x=some c->∀v,s.heap.IsCell c v->h'.IsCell c v:=λx c e v ⟨o,ho,hd⟩=>by
  have Ds:c∉ch:=λz=>(iF c z).2.2.1 x c e rfl
  by_cases hc:c∈X.fs
  ·obtain⟨sl,q⟩:=slot c o (I.cne x c e) hc Ds ho (I.freeC x c e)
   exact⟨_,q,hd⟩
  ·exact⟨o,keep c o (I.cne x c e) hc Ds ho (I.freeC x c e),hd⟩
 refine⟨I.ok,I.os,hg,⟨λb o e n hb hx=>?_,λb o e n hb hx=>?_,λb o e n hx=>?_,λb o e hx=>?_,λb xs e=>tups b xs (I.base.tups b xs e),λb o xs e=>frzs b o xs (I.base.frzs b o xs e),λb ps e=>?_⟩,?_,λx c e=>?_,?_,λx c e=>?_,λp hp=>?_,hok,I.len⟩
 ·exact keep b o (N5 b o e) hb (FF b o e hx) (I.base.keep b o e n hb hx) (I.base.free b o e n hx)
 ·obtain⟨sl,e1⟩:=I.base.slot b o e n hb hx
  obtain⟨UI,e2⟩:=slot b _ (N5 b o e) hb (FF b o e hx) e1 (I.base.free b o e n hx)
  exact⟨UI,e2⟩
 ·obtain⟨o',e1⟩:=I.base.there b o e hx
  exact free b o' (FF b o e hx) e1 (I.base.free b o e n hx)
 ·obtain⟨o',e1⟩:=I.base.there b o e hx
  exact there b o' (FF b o e hx) e1
 ·obtain⟨m1,e1⟩:=I.base.tbls b ps e
  obtain⟨m2,e2⟩:=tbls b _ e1
  exact⟨m1++m2,by rw[e2,Array.append_assoc]⟩
 ·obtain⟨m,hn,hl⟩:=I.loc
  refine⟨m,ns m hn,λi x v e1 e2 e3=>?_⟩
  obtain⟨u,r,l⟩:=hl i x v e1 e2 e3
  refine⟨u,r,?_⟩
  rcases l with l|⟨k,c,e,z⟩
  ·exact .inl l
  ·exact .inr ⟨k,c,e,cellK x c e _ z⟩
 ·obtain⟨v,z⟩:=I.cell x c e
  exact⟨v,cellK x c e v z⟩
 ·obtain⟨m,⟨o,_,_,ho,_⟩,_⟩:=I.loc
  exact free _ o (λz=>(iF _ z).2.1 rfl) ho I.free
 ·obtain⟨v,o,ho,hd⟩:=I.cell x c e
  exact free c o (λz=>(iF c z).2.2.1 x c e rfl) ho (I.freeC x c e)
 ·obtain⟨e,n,ne,nf,d⟩:=I.pin p hp
  have Ds:p.1∉ch:=λz=>(iF p.1 z).2.2.2 p hp rfl
  exact⟨keep p.1 p.2 ne nf Ds e n,free p.1 p.2 Ds e n,ne,nf,d⟩
theorem Inv.un {t':Nat}(I:Inv X pins σ H s)(u:Un X.fs [] H H' s.heap h')(hok:ir X.prog X.w H' h'):Inv X pins σ H' { s with heap:=h',toks:=t' }:=by
 obtain⟨m,⟨o,es,ep,ho,r⟩,_⟩:=id I.loc
 obtain⟨sl,hL⟩:=u.any ho I.free (by simp)
 exact I.step (g':=s.gens) (d':=s.drawn) (ch:=[]) (λ_ z=>nomatch z) (λb o _ hb _ e n=>u.keep b o e n hb (by simp)) (λb o _ hb _ e n=>u.slot b o e n hb (by simp)) (λb o _ e n=>u.free b o e n (by simp)) (λb o _ e=>u.there b o e (by simp)) u.tups u.frzs u.tbls (λm' hm=>by
  obtain⟨o',HD,HC,zH,r'⟩:=hm
  rw[ho]at zH; cases zH
  exact⟨_,HD,HC,hL,r'⟩) hok I.bare
theorem Inv.call {g':Array GenState}{t':Nat}{d':Drawn}{ch:List Addr}(I:Inv X pins σ H s)(u:Un (pd X.stack) ch H H' s.heap h')(hok:ir X.prog X.w H' h')(hg:AllBare g')
  (iF:∀b∈ch,(b∈X.ex\/X.s₀.heap.objs.size<=b)/\b≠X.env.locals/\(∀x c,X.env.cells.lookup x=some c->c≠b)/\∀p∈X.pn++pins,p.1≠b) :
  Inv X pins σ H' { s with heap:=h',gens:=g',drawn:=d',toks:=t' }:=by
 obtain⟨m,⟨o,es,ep,ho,r⟩,_⟩:=id I.loc
 obtain⟨sl,hL⟩:=u.any ho I.free λz=>(iF _ z).2.1 rfl
 exact I.step (ch:=ch) iF (λb o hL hb hc e n=>u.keep b o e n (λz=>(aA.mp (I.stkSub b z)).elim hL hb) hc) (λb o _ _ hc e n=>u.any e n hc) (λb o hc e n=>u.free b o e n hc) (λb o hc e=>u.there b o e hc) u.tups u.frzs u.tbls (λm' hm=>by
  obtain⟨o',HD,HC,zH,r'⟩:=hm
  rw[ho]at zH; cases zH
  exact⟨_,HD,HC,hL,r'⟩) hok hg
theorem Inv.turned {t':Nat}{it:Addr}(I:Inv X pins σ H s)(k:∀b o,b≠it->s.heap.get? b=some o->h'.get? b=some o)(hn:H it=none)(hL:it≠X.env.locals)
  (h1:it∈X.ex\/X.s₀.heap.objs.size<=it) (h2:∀x c,X.env.cells.lookup x=some c->c≠it) (h3:∀p∈X.pn++pins,p.1≠it):Inv X pins σ H { s with heap:=h',toks:=t' }:=by
 have N6:∀b u,H b=some u->b≠it:=λb u e z=>by rw[z,hn]at e; cases e
 refine I.step (g':=s.gens) (d':=s.drawn) (ch:=[it]) (λb hb=>?_) (λb o _ _ hc e _=>k b o (λz=>hc (by simp[z])) e) (λb o _ _ hc e _=>⟨o.slots,k b o (λz=>hc (by simp[z])) e⟩) (λ_ _ _ _ n=>n)
  (λb o hc e=>⟨o,k b o (λz=>hc (by simp[z])) e⟩) (λ_ _ e=>e) (λ_ _ _ e=>e) (λb ps e=>⟨#[],by rw[e]; simp⟩) (λm hm=>?_) (λb u e=>?_) I.bare
 ·have e:b=it:=by simpa using hb
  subst e
  exact⟨h1,hL,h2,h3⟩
 ·obtain⟨o,es,ep,ho,r⟩:=hm
  exact⟨o,es,ep,k _ o (Ne.symm hL) ho,r⟩
 ·refine(I.hok b u e).stay (λc v hc q=>k c v ?_ q) (λ_ q=>q) λ_ _ q=>q
  rcases hc with z|z
  ·rw[z]; exact N6 b u e
  ·exact N6 c _ z
theorem Inv.tok (I:Inv X pins σ H s)(t:Nat):Inv X pins σ H { s with toks:=t }:=I.un (h':=s.heap) (t':=t) Un.refl I.hok
theorem Inv.kept {t':Nat}(I:Inv X pins σ H s)(k:∀b u,s.heap.get? b=some u->h'.get? b=some u):Inv X pins σ H { s with heap:=h',toks:=t' }:=I.un (Un.kept k) (I.hok.kept k)
theorem Inv.laid {a:Addr}{o:HO}{t':Nat}(I:Inv X pins σ H s)(k:∀b u,s.heap.get? b=some u->h'.get? b=some u)(hp:s.heap.objs.size<=a)(new:cN X.prog X.w (cC H a o) h' a o) :
  Inv X pins σ (cC H a o) { s with heap:=h',toks:=t' }:=I.un (Un.laid k hp (I.hok.fresh hp)) (I.hok.laid k hp new)
theorem Inv.write {x e:Addr}{o:HO}{t':Nat}(I:Inv X pins σ H s)(mu:Ct (H x))(he:e=x\/H e=some (.own x))(k:∀b u,b≠e->s.heap.get? b=some u->h'.get? b=some u)(BM:∃u,h'.get? e=some u)
  (new:cN X.prog X.w (cC H x o) h' x o):Inv X pins σ (cC H x o) { s with heap:=h',toks:=t' }:=I.un (Un.write mu he k BM) (I.hok.write mu he k BM new)
theorem Inv.weak {σ':List (Option V)}(I:Inv X pins σ H s)(hl:σ'.length = σ.length)(w:∀(i:Nat) v,σ'[i]?=some (some v)->σ[i]?=some (some v)):Inv X pins σ' H s :=
 ⟨I.ok,I.os,I.bare,I.base,let⟨m,hn,CT⟩:=I.loc; ⟨m,hn,λi x v e1 e2 e3=>CT i x v e1 (w i v e2) e3⟩,I.cell,I.free,I.freeC,I.pin,I.hok,hl.trans I.len⟩
theorem Inv.pins_of {tU:List (Addr×Obj)}(I:Inv X pins σ H s)(h:∀p∈tU,s.heap.get? p.1=some p.2/\H p.1=none/\p.1≠X.env.locals/\p.1∉X.fs/\∀v,p.2.data≠.cell v):Inv X tU σ H s :=
 ⟨I.ok,I.os,I.bare,I.base,I.loc,I.cell,I.free,I.freeC,λp hp=>(aM.mp hp).elim (λz=>I.pin p (aT _ z)) (h p),I.hok,I.len⟩
theorem PH {N:List Str}(hN:N.Nodup){i j:Nat}{x:Str}(a:N[i]?=some x)(b:N[j]?=some x):i=j:=by
 obtain⟨h1,e1⟩:=aK.mp a
 obtain⟨h2,e2⟩:=aK.mp b
 exact(jK hN).mp (e1.trans e2.symm)
theorem O1 {M:Model}{A:Around}{E:Value->Shared->Prop}{i:Nat}{x:Str}{v:V}{u:Value}{Q:Unit->Shared->Prop}(I:Inv X pins σ H s)(hN:X.N.Nodup)(hi:X.N[i]?=some x)(hx:Loc X.env.scope x)(r:RelV v u)
  (h:∀s',Inv X pins (σ.set i (some v)) H s'->(∃a,eX a s.heap s'.heap/\(a=X.env.locals\/X.env.cells.lookup x=some a))->Q () s') (hf:X.fn x=true\/X.env.scope.names.lookup x=some .local:=by first|exact .inl rfl|exact .inr rfl|assumption):wpAny M A (storeName X.env x u) Q E s:=by
 obtain⟨m,hn,hl⟩:=id I.loc
 have HZ:(X.env.scope.kind == .class || (X.env.scope.kind == .module && X.env.locals != X.env.globals))=false:=by rw[I.ok.kind]; rfl
 have NH:i < σ.length:=by rw[I.len]; exact(aK.mp hi).1
 have cne:=I.cne
 have tracked:∀{a:Addr} {h':Heap},(∃o,s.heap.get? a=some o/\H a=none)->eX a s.heap h'->ir X.prog X.w H h':=λ{a h'} ha hs b ob e=>by
  obtain⟨_,_,tF⟩:=ha
  refine(I.hok b ob e).stay (λc w' hc q=>(hs.2 c ?_).trans q) (λ_ q=>q) λ_ _ q=>q
  rintro rfl
  rcases hc with rfl|hc
  ·rw[tF]at e; cases e
  ·rw[tF]at hc; cases hc
 rcases hx with hk|hk
 ·refine wpAny_storeName_local hk hn (λh' m6 hs=>?_) HZ
  obtain⟨oL,_,_,Tt,_⟩:=id hn
  refine h _ ⟨I.ok,I.os,I.bare,⟨λb o e n hb hx=>?_,λb o e n hb hx=>?_,I.base.free,λb o e hx=>?_,I.base.tups,I.base.frzs,I.base.tbls⟩,⟨_,m6,λj y v' e1 e2 e3=>?_⟩,λy c e=>?_,I.free,I.freeC,λp hp=>?_,tracked ⟨oL,Tt,I.free⟩ hs,by simpa using I.len⟩ ⟨_,hs,.inl rfl⟩
  ·exact(hs.2 b (aV (aO (aF e) I.ok.above))).trans (I.base.keep b o e n hb hx)
  ·obtain⟨sl,e1⟩:=I.base.slot b o e n hb hx
   exact⟨sl,(hs.2 b (aV (aO (aF e) I.ok.above))).trans e1⟩
  ·obtain⟨o',e1⟩:=I.base.there b o e hx
   exact⟨o',(hs.2 b (aV (aO (aF e) I.ok.above))).trans e1⟩
  ·by_cases hj:j=i
   ·subst hj
    rw[hi]at e1; cases e1
    rw[gq NH]at e2
    cases e2
    exact⟨u,r,.inl ⟨hk,by simp⟩⟩
   ·rw[bR (Ne.symm hj)]at e2
    obtain⟨u',r',q⟩:=hl j y v' e1 e2 e3
    refine⟨u',r',?_⟩
    rcases q with⟨k,e⟩|⟨k,c,e,z⟩
    ·refine .inl ⟨k,?_⟩
     have:y≠x:=λe=>hj (PH hN e1 (e ▸ hi))
     simp[this,e]
    ·exact .inr ⟨k,c,e,z.sameBut hs (cne y c e)⟩
  ·obtain⟨w',z⟩:=I.cell y c e
   exact⟨w',z.sameBut hs (cne y c e)⟩
  ·obtain⟨e,n,ne,nf,d⟩:=I.pin p hp
   exact⟨(hs.2 p.1 ne).trans e,n,ne,nf,d⟩
 ·have BN:X.fn x=true:=by
   rcases hf with z|z
   ·exact z
   ·rw[z]at hk; cases hk
  obtain⟨c,hc⟩:=I.ok.has x (.inl hk)
  obtain⟨w',z⟩:=I.cell x c hc
  refine wpAny_storeName_cell I.ok.kind hk hc z (λh' tE hs=>?_)
  obtain⟨oc,NN,Iv⟩:=id z
  refine h { s with heap:=h' } ⟨I.ok,I.os,I.bare,⟨λb o e n hb hx=>?_,λb o e n hb hx=>?_,I.base.free,λb o e hx=>?_,I.base.tups,I.base.frzs,I.base.tbls⟩,⟨m,hn.sameBut hs (Ne.symm (cne x c hc)),λj y v' e1 e2 e3=>?_⟩,λy c' e=>?_,I.free,I.freeC,λp hp=>?_,tracked ⟨oc,NN,I.freeC x c hc⟩ hs,by simpa using I.len⟩ ⟨c,hs,.inr hc⟩
  ·exact(hs.2 b (aV (aO (aF e) (I.ok.cab x c BN hc)))).trans (I.base.keep b o e n hb hx)
  ·obtain⟨sl,e1⟩:=I.base.slot b o e n hb hx
   exact⟨sl,(hs.2 b (aV (aO (aF e) (I.ok.cab x c BN hc)))).trans e1⟩
  ·obtain⟨o',e1⟩:=I.base.there b o e hx
   exact⟨o',(hs.2 b (aV (aO (aF e) (I.ok.cab x c BN hc)))).trans e1⟩
  ·by_cases hj:j=i
   ·subst hj
    rw[hi]at e1; cases e1
    rw[gq NH]at e2
    cases e2
    exact⟨u,r,.inr ⟨.inl hk,c,hc,tE⟩⟩
   ·rw[bR (Ne.symm hj)]at e2
    obtain⟨u',r',q⟩:=hl j y v' e1 e2 e3
    refine⟨u',r',?_⟩
    rcases q with q|⟨k,c',e,z'⟩
    ·exact .inl q
    ·refine .inr ⟨k,c',e,z'.sameBut hs ?_⟩
     rintro rfl
     exact hj (PH hN e1 (I.ok.inj _ _ _ e hc ▸ hi))
  ·by_cases NC:c'=c
   ·subst NC; exact⟨_,tE⟩
   ·obtain⟨w2,z2⟩:=I.cell y c' e
    exact⟨w2,z2.sameBut hs NC⟩
  ·obtain⟨e,n,ne,nf,d⟩:=I.pin p hp
   refine⟨(hs.2 p.1 ?_).trans e,n,ne,nf,d⟩
   intro q
   rw[q,NN]at e
   have q':oc=p.2:=Option.some.inj e
   exact d w' (by rw[← q']; exact Iv)
theorem DY {M:Model}{A:Around}{E:Value->Shared->Prop}{i:Nat}{x:Str}{v:V}{u:Value}{Q:Unit->Shared->Prop}(I:Inv X pins σ H s)(hN:X.N.Nodup)(hi:X.N[i]?=some x)(hx:Loc X.env.scope x)(r:RelV v u)
  (h:∀s',Inv X pins (σ.set i (some v)) H s'->Q () s') (hf:X.fn x=true\/X.env.scope.names.lookup x=some .local:=by first|exact .inl rfl|exact .inr rfl|assumption):wpAny M A (storeName X.env x u) Q E s :=
 O1 I hN hi hx r (λs' I' _=>h s' I') hf
theorem Inv.call' {s':Shared}{ch:List Addr}(I:Inv X pins σ H s)(ho:s'.os=s.os)(u:Un (pd X.stack) ch H H' s.heap s'.heap)(hok:ir X.prog X.w H' s'.heap)(hg:AllBare s'.gens)
  (iF:∀b∈ch,(b∈X.ex\/X.s₀.heap.objs.size<=b)/\b≠X.env.locals/\(∀x c,X.env.cells.lookup x=some c->c≠b)/\∀p∈X.pn++pins,p.1≠b):Inv X pins σ H' s':=by
 obtain⟨h',g',d',t',o'⟩:=s'
 have e:o'=s.os:=ho
 subst e
 exact I.call (g':=g') (t':=t') (d':=d') u hok hg iF
end
abbrev XK:=Value->Option Addr->Hp->Prop
abbrev St:=List (Option V)
abbrev VK:=V->Hp->Prop
abbrev TE:=St->Hp->VK->Prop
abbrev TT:=St->Hp->(Bool->Hp->Prop)->Prop
abbrev TA:=St->Hp->(List V->Hp->Prop)->Prop
structure Ends where
 nx:St->Hp->Prop
 rt:VK
 bk:St->Hp->Prop:=λ_ _=>False
 ct:St->Hp->Prop:=λ_ _=>False
abbrev TS:=Ends->St->Hp->Prop
def EP (X:Cx)(pins:List (Addr×Obj))(σ:St)(Q:VK)(u:Value)(s':Shared):Prop:=∃v H',Inv X pins σ H' s'/\RelV v u/\Q v H'
def TP (X:Cx)(pins:List (Addr×Obj))(σ:St)(Q:Bool->Hp->Prop)(b:Bool)(s':Shared):Prop:=∃H',Inv X pins σ H' s'/\Q b H'
def AP (X:Cx)(pins:List (Addr×Obj))(σ:St)(Q:List V->Hp->Prop)(us:List Value)(s':Shared):Prop:=∃vs H',Inv X pins σ H' s'/\bA vs us/\Q vs H'
def SP (X:Cx)(pins:List (Addr×Obj))(D:Ends)(f:Flow)(s':Shared):Prop :=
 match f with
 |.next=>∃σ' H',Inv X pins σ' H' s'/\D.nx σ' H'
 |.brk=>∃σ' H',Inv X pins σ' H' s'/\D.bk σ' H'
 |.cont=>∃σ' H',Inv X pins σ' H' s'/\D.ct σ' H'
 |.ret u=>∃v σ' H',Inv X pins σ' H' s'/\RelV v u/\D.rt v H'
def PE (X:Cx)(e:Expr)(t:TE):Prop :=
 ∀(pins:List (Addr×Obj)) (s:Shared) (σ:St) (H:Hp) (Q:VK),Inv X pins σ H s->t σ H Q->wpAny (model X.prog X.w) X.A (eval e X.env) (EP X pins σ Q) X.xe s
def PT (X:Cx)(e:Expr)(t:TT):Prop :=
 ∀(pins:List (Addr×Obj)) (s:Shared) (σ:St) (H:Hp) (Q:Bool->Hp->Prop),Inv X pins σ H s->t σ H Q->wpAny (model X.prog X.w) X.A (isTrue e X.env (eval e X.env)) (TP X pins σ Q) X.xe s
def PW (X:Cx)(e:Expr)(t:TT):Prop :=
 ∀(whole:Sem Value) (pins:List (Addr×Obj)) (s:Shared) (σ:St) (H:Hp) (Q:Bool->Hp->Prop),Inv X pins σ H s->t σ H Q->wpAny (model X.prog X.w) X.A (isTrue e X.env whole) (TP X pins σ Q) X.xe s
theorem PW.pt {X:Cx}{e:Expr}{t:TT}(h:PW X e t):PT X e t:=h _
def PA (X:Cx)(es:List Expr)(t:TA):Prop :=
 ∀(pos:Pos) (pins:List (Addr×Obj)) (s:Shared) (σ:St) (H:Hp) (Q:List V->Hp->Prop),Inv X pins σ H s->t σ H Q->wpAny (model X.prog X.w) X.A (spliced (backTo pos (starEach es X.env))) (AP X pins σ Q) X.xe s
def PS (X:Cx)(st:Stmt)(t:TS):Prop :=
 ∀(pins:List (Addr×Obj)) (s:Shared) (σ:St) (H:Hp) (D:Ends),Inv X pins σ H s->t D σ H->wpAny (model X.prog X.w) X.A (exec st X.env) (SP X pins D) X.xe s
def mV (X:Cx)(st:List Stmt)(t:TS):Prop :=
 ∀(pins:List (Addr×Obj)) (s:Shared) (σ:St) (H:Hp) (D:Ends),Inv X pins σ H s->t D σ H->wpAny (model X.prog X.w) X.A (execs st X.env) (SP X pins D) X.xe s
theorem cj {α:Type}{t:Sem α}{Q Q':α->Shared->Prop}{M:Model}{A:Around}{E:Value->Shared->Prop}{s:Shared}(h:wpAny M A t Q E s)(hQ:∀a s,Q a s->Q' a s):wpAny M A t Q' E s:=wpAny_mono h hQ λ_ _ x=>x
end L2
namespace L2
open PySem PySem.Spec PyProof.Rows
section
variable {X:Cx}
theorem bin {a b:Expr}{ta tb:TE}(ha:PE X a ta)(hb:PE X b tb){pins:List (Addr×Obj)}{s:Shared}{σ:St}{H:Hp}{R:V->V->Hp->Prop}(I:Inv X pins σ H s)(h:ta σ H λx H1=>tb σ H1 λy H2=>R x y H2)
  {α:Type} {Q:α->Shared->Prop} {f:Value->Value->Sem α}
  (hf:∀v u s2 x y H2,Inv X pins σ H2 s2->RelV x v->RelV y u->R x y H2->wpAny (model X.prog X.w) X.A (f v u) Q X.xe s2) :
  wpAny (model X.prog X.w) X.A (eval a X.env) (λv s₁=>wpAny (model X.prog X.w) X.A (eval b X.env) (λu s₂=>wpAny (model X.prog X.w) X.A (f v u) Q X.xe s₂) X.xe s₁) X.xe s:=by
 refine cj (ha pins s σ H _ I h) λv s1 ⟨x,H1,I1,r1,q1⟩=>?_
 refine cj (hb pins s1 σ H1 _ I1 q1) λu s2 ⟨y,H2,I2,r2,q2⟩=>?_
 exact hf v u s2 x y H2 I2 r1 r2 q2
def Lq (i:Nat):TE:=λσ H Q=>∃v,σ[i]?=some (some v)/\Q v H
def tC (v:V):TE:=λ_ H Q=>Q v H
theorem jl {i:Nat}{x:Str}{pos:Pos}(hN:X.N[i]?=some x)(hv:lP X.env.scope x)(hd:(x == ("__debug__":Str))=false:=by decide)(gA:(x == ("__classdict__":Str))=false:=by decide):PE X (.Name x pos) (Lq i):=by
 intro pins s σ H Q I h
 obtain⟨v,e,h⟩:=h
 obtain⟨m,hn,hl⟩:=I.loc
 obtain⟨u,r,l⟩:=hl i x v hN e hv
 have fin:EP X pins σ Q u s:=⟨v,H,I,r,h⟩
 rcases l with⟨hk,hm⟩|⟨hk,c,hc,nE⟩
 ·exact wpAny_Name (wpAny_loadName_local I.ok.kind hk hn hm fin) hd
 ·rcases hk with hk|hk
  ·exact wpAny_Name (wpAny_loadName_cell I.ok.kind hk hc nE fin) hd
  ·exact wpAny_Name (wpAny_loadName_free I.ok.kind hk hc nE fin gA) hd
theorem ZC {i j pos}:PE X (.Constant (.int i) j pos) (tC (.int i)):=λ_ _ _ H _ I h=>wpAny_Constant_int ⟨.int i,H,I.tok _,⟨_,rfl⟩,h⟩
theorem ztl {b j pos}:PE X (.Constant (.bool b) j pos) (tC (.bl b)):=λ_ _ _ H _ I h=>Constant_bool ⟨.bl b,H,I,rfl,h⟩
theorem ZD {j pos}:PE X (.Constant .none j pos) (tC .non):=λ_ _ _ H _ I h=>Constant_none ⟨.non,H,I,rfl,h⟩
theorem ZE {x j pos}:PE X (.Constant (.str x) j pos) (tC (.str x)):=λ_ _ _ H _ I h=>Calls.Constant_str ⟨.str x,H,I.tok _,⟨_,rfl⟩,h⟩
def Gl (X:Cx)(x:Str):Prop:=X.env.kindOf x=some .globalImplicit
theorem Gn {E:Value->Shared->Prop}{pins:List (Addr×Obj)}{s:Shared}{σ:St}{H:Hp}{x:Str}{u:Value}{pos:Pos}{Q:Value->Shared->Prop}(I:Inv X pins σ H s)(hg:Gl X x)(hm:X.mg x=some u)(h:Q u s)
  (hd:(x == ("__debug__":Str))=false:=by decide):wpAny (model X.prog X.w) X.A (eval (.Name x pos) X.env) Q E s :=
 Calls.Name_function_global I.ok.kind hg (Calls.loadGlobal_global (by rw[I.ok.glob]; exact I.mod.glob.keeps I.bk) hm h) hd
theorem sU {E:Value->Shared->Prop}{pins:List (Addr×Obj)}{s:Shared}{σ:St}{H:Hp}{x:Str}{u:Value}{pos:Pos}{Q:Value->Shared->Prop}(I:Inv X pins σ H s)(hg:Gl X x)(hm:X.mg x=none)(hv:bootBuiltins x=some u)(h:Q u s)
  (hn:x≠"__name__":=by decide) (hd:(x == ("__debug__":Str))=false:=by decide):wpAny (model X.prog X.w) X.A (eval (.Name x pos) X.env) Q E s:=by
 obtain⟨mb,h1,h2⟩:=I.mod.blt
 exact Calls.Name_function_global I.ok.kind hg (Calls.loadGlobal_builtin (by rw[I.ok.glob]; exact I.mod.glob.keeps I.bk) hm (by rw[I.ok.blt]; exact h1.keeps I.bk) ((h2 x hn).trans hv) h) hd
theorem Qa {x:Str}{v:V}{u:Value}{pos:Pos}(hg:Gl X x)(hm:X.mg x=some u)(r:RelV v u)(hd:(x == ("__debug__":Str))=false:=by decide):PE X (.Name x pos) (tC v) :=
 λ_ _ _ H _ I h=>Gn I hg hm ⟨v,H,I,r,h⟩ hd
theorem Yh {x:Str}{v:V}{u:Value}{pos:Pos}(hg:Gl X x)(hm:X.mg x=none)(hv:bootBuiltins x=some u)(r:RelV v u)(hn:x≠"__name__":=by decide)(hd:(x == ("__debug__":Str))=false:=by decide):PE X (.Name x pos) (tC v) :=
 λ_ _ _ H _ I h=>sU I hg hm hv ⟨v,H,I,r,h⟩ hn hd
variable {a b:Expr}{ta tb:TE}{pos:Pos}
def PC (X:Cx)(op:CmpOp)(a b:Expr)(t:TE):Prop :=
 ∀(pins:List (Addr×Obj)) (s:Shared) (σ:St) (H:Hp) (Q:VK),Inv X pins σ H s->t σ H Q ->
  wpAny (model X.prog X.w) X.A (eval a X.env) (λv s₁=>wpAny (model X.prog X.w) X.A (eval b X.env) (λu s₂=>wpAny (model X.prog X.w) X.A (compareOp op v u) (EP X pins σ Q) X.xe s₂) X.xe s₁) X.xe s
theorem pI (b:Expr){op:CmpOp}(h:op≠.In)(h2:op≠.NotIn):behindInMarks op b=false:=by
 have e1:(op == CmpOp.In)=false:=by cases op <;> first|rfl|exact absurd rfl h
 have e2:(op == CmpOp.NotIn)=false:=by cases op <;> first|rfl|exact absurd rfl h2
 cases b <;> simp[behindInMarks,e1,e2]
def tB (t:TE):TT:=λσ H Q=>t σ H λx H1=>∃c,x=.bl c/\Q c H1
theorem QJ {op:CmpOp}{t:TE}(h:PC X op a b t)(h1:behindInMarks op b=false:=by first|exact pI _ (by decide) (by decide)|rfl):PT X (.Compare a [op] [b] pos) (tB t):=by
 intro pins s σ H Q I hw
 refine wpAny_isTrue_Compare1 (cj (h pins s σ H _ I hw) λv s1 h1=>cj h1 λu s2 h2=>cj h2 λc s3 ⟨x,H1,I1,r1,q1⟩=>?_) h1
 obtain⟨d,rfl,q⟩:=q1
 cases r1
 exact wpAny_truthy_bool ⟨H1,I1,q⟩
theorem ZF {e:Expr}{t:TE}(h:PE X e t)(he:∀whole,isTrue e X.env whole=(do let v ← whole; standAt e.pos; holding [v] (truthy v)):=by intro _; rfl):PT X e (tB t):=by
 intro pins s σ H Q I hw
 refine isTrue_plain (cj (h pins s σ H _ I hw) λv s1 ⟨x,H1,I1,r1,q1⟩=>?_) (he _)
 obtain⟨d,rfl,q⟩:=q1
 cases r1
 exact wpAny_truthy_bool ⟨H1,I1,q⟩
variable {tA FN:TT}{rest:List Expr}
def La (t u:TT):TT:=λσ H Q=>t σ H λc H1=>if c=true then u σ H1 Q else Q false H1
def UU (t u:TT):TT:=λσ H Q=>t σ H λc H1=>if c=true then Q true H1 else u σ H1 Q
def Lj (t:TT):TT:=λσ H Q=>t σ H λc H1=>Q (!c) H1
theorem Yi (ha:PT X a tA):PW X (.BoolOp .And [a] pos) tA:=by
 intro wh pins s σ H Q I h
 refine isTrue_and (cj (ha pins s σ H Q I h) λc s1 e=>?_)
 cases c with
 |true=>exact isTrue_and_nil e
 |false=>exact e
theorem ZG (ha:PT X a tA):PW X (.BoolOp .Or [a] pos) tA:=by
 intro wh pins s σ H Q I h
 refine isTrue_or (cj (ha pins s σ H Q I h) λc s1 e=>?_)
 cases c with
 |false=>exact isTrue_or_nil e
 |true=>exact e
theorem ZH (ha:PT X a tA)(hb:PW X (.BoolOp .And (b::rest) pos) FN):PW X (.BoolOp .And (a::b::rest) pos) (La tA FN):=by
 intro wh pins s σ H Q I h
 refine isTrue_and (cj (ha pins s σ H _ I h) λc s1 ⟨H1,I1,q1⟩=>?_)
 cases c with
 |true=>exact hb wh pins s1 σ H1 Q I1 q1
 |false=>exact⟨H1,I1,q1⟩
theorem ztm (ha:PT X a tA)(hb:PW X (.BoolOp .Or (b::rest) pos) FN):PW X (.BoolOp .Or (a::b::rest) pos) (UU tA FN):=by
 intro wh pins s σ H Q I h
 refine isTrue_or (cj (ha pins s σ H _ I h) λc s1 ⟨H1,I1,q1⟩=>?_)
 cases c with
 |true=>exact⟨H1,I1,q1⟩
 |false=>exact hb wh pins s1 σ H1 Q I1 q1
theorem ZI (ha:PT X a tA):PT X (.UnaryOp .Not a pos) (Lj tA):=by
 intro pins s σ H Q I h
 exact isTrue_not (ha pins s σ H (λc H1=>Q (!c) H1) I h)
def DK (ta tb:TE):TE:=λσ H Q=>ta σ H λx H1=>∃c,x=.bl c/\if c=true then tb σ H1 Q else Q (.bl false) H1
def Lk (ta tb:TE):TE:=λσ H Q=>ta σ H λx H1=>∃c,x=.bl c/\if c=true then Q (.bl true) H1 else tb σ H1 Q
theorem ZJ {op}{t:TE}(h:PE X a t):PE X (.BoolOp op [a] pos) t:=λpins s σ H Q I hw=>BoolOp_one (h pins s σ H Q I hw)
theorem ZK (ha:PE X a ta)(hb:PE X (.BoolOp .And (b::rest) pos) tb):PE X (.BoolOp .And (a::b::rest) pos) (DK ta tb):=by
 intro pins s σ H Q I h
 refine BoolOp_and (cj (ha pins s σ H _ I h) λv s1 ⟨x,H1,I1,r1,q1⟩=>?_)
 obtain⟨c,rfl,q1⟩:=q1
 cases r1
 refine wpAny_truthy_bool ?_
 cases c with
 |true=>exact hb pins s1 σ H1 Q I1 q1
 |false=>exact⟨.bl false,H1,I1,rfl,q1⟩
theorem ztn (ha:PE X a ta)(hb:PE X (.BoolOp .Or (b::rest) pos) tb):PE X (.BoolOp .Or (a::b::rest) pos) (Lk ta tb):=by
 intro pins s σ H Q I h
 refine BoolOp_or (cj (ha pins s σ H _ I h) λv s1 ⟨x,H1,I1,r1,q1⟩=>?_)
 obtain⟨c,rfl,q1⟩:=q1
 cases r1
 refine wpAny_truthy_bool ?_
 cases c with
 |false=>exact hb pins s1 σ H1 Q I1 q1
 |true=>exact⟨.bl true,H1,I1,rfl,q1⟩
def UT (t:TT)(ta tb:TE):TE:=λσ H Q=>t σ H λc H1=>if c=true then ta σ H1 Q else tb σ H1 Q
theorem WR {c:Expr}(hc:PT X c tA)(ha:PE X a ta)(hb:PE X b tb):PE X (.IfExp c a b pos) (UT tA ta tb):=by
 intro pins s σ H Q I h
 refine wpAny_IfExp (cj (hc pins s σ H _ I h) λd s1 ⟨H1,I1,q1⟩=>?_)
 cases d with
 |true=>exact ha pins s1 σ H1 Q I1 q1
 |false=>exact hb pins s1 σ H1 Q I1 q1
end
end L2
namespace L2
open PySem PySem.Spec PyProof.Rows
def d5 (K:ae)(H:Hp)(a:Addr)(xs:List V):Prop :=
 Rd H a (.lst xs) \/
  ∃(o:Obj) (its:Array Value) (n:Nat),K.lookup a=some o/\o.cls=.type "list"/\o.dict=none/\o.data=.seq its n/\its.size<=sizeLine/\bA xs its.toList
def iD (K:ae)(H:Hp)(a:Addr)(xs:List V):Prop :=
 Rd H a (.tup xs) \/
  ∃(o:Obj) (its:Array Value) (n:Nat),K.lookup a=some o/\o.cls=.type "tuple"/\o.data=.seq its n/\its.size<=sizeLine/\bA xs its.toList
def G6:Value->Option V
 |.none=>some .non
 |.bool b=>some (.bl b)
 |.int i _=>some (.int i)
 |.str x _=>some (.str x)
 |.bytes b _=>some (.byt b)
 |.float b _=>some (.flt b)
 |.ref a=>some (.ref a)
 |.type n=>some (.ty n)
 |_=>none
theorem RelV.abs {x:V}{u:Value}(r:RelV x u):G6 u=some x:=by
 cases x with
 |non=>cases r; rfl
 |bl _=>cases r; rfl
 |int _=>obtain⟨t,rfl⟩:=r; rfl
 |str _=>obtain⟨t,rfl⟩:=r; rfl
 |byt _=>obtain⟨t,rfl⟩:=r; rfl
 |flt _=>obtain⟨t,rfl⟩:=r; rfl
 |ref _=>cases r; rfl
 |ty _=>cases r; rfl
theorem RelV.inj {x y:V}{u:Value}(r:RelV x u)(q:RelV y u):x=y:=Option.some.inj (r.abs.symm.trans q.abs)
theorem bA.inj:∀{xs ys:List V} {us:List Value},bA xs us->bA ys us->xs=ys
 |_,_,_,.nil,.nil=>rfl
 |_,_,_,.cons r t,.cons r' t'=>by rw[r.inj r',bA.inj t t']
section
variable {X:Cx}{pins:List (Addr×Obj)}{σ:St}{H:Hp}{s:Shared}{a:Addr}{xs ys:List V}
theorem d5.of {K:ae}(h:H a=some (.lst xs)):d5 K H a xs:=.inl (.inl h)
theorem iD.of {K:ae}(h:H a=some (.tup xs)):iD K H a xs:=.inl (.inl h)
theorem Inv.list (I:Inv X pins σ H s)(h:d5 X.K H a xs):∃its:List Value,bA xs its/\PlainL s.heap a its.toArray/\xs.length<=sizeLine:=by
 rcases h with h|⟨o,its,n,hk,hc,hd,hs,hz,r⟩
 ·obtain⟨z,its,n,r,e⟩:=h.ok I.hok
  exact⟨its,r,⟨_,n,e,rfl,rfl,rfl⟩,z⟩
 ·refine⟨its.toList,r,⟨o,n,I.kIn a o hk,hc,hd,by simpa using hs⟩,?_⟩
  have e:=r.length
  simp only[cu]at e
  omega
theorem Inv.tuple (I:Inv X pins σ H s)(h:iD X.K H a xs):∃its:List Value,bA xs its/\IsTup s.heap a its.toArray/\xs.length<=sizeLine:=by
 rcases h with h|⟨o,its,n,hk,hc,hs,hz,r⟩
 ·obtain⟨z,its,r,p⟩:=h.ok I.hok
  exact⟨its,r,p,z⟩
 ·refine⟨its.toList,r,⟨o,I.kIn a o hk,hc,n,by simpa using hs⟩,?_⟩
  have e:=r.length
  simp only[cu]at e
  omega
theorem Inv.list_inj (I:Inv X pins σ H s)(h:d5 X.K H a xs)(h':d5 X.K H a ys):xs=ys:=by
 obtain⟨its,r,⟨o,n,e,_,_,d⟩,_⟩:=I.list h
 obtain⟨its',r',⟨o',n',e',_,_,d'⟩,_⟩:=I.list h'
 rw[e]at e'; cases e'
 rw[d]at d'
 injection d' with d1 _
 have:its=its':=by simpa using congrArg Array.toList d1
 subst this
 exact r.inj r'
end
abbrev Cx.wish (X:Cx)(E:Value->Shared->Prop):Cx:={ X with xe:=E }
abbrev Cx.nox (X:Cx):Cx:=X.wish λ_ _=>False
theorem Cx.Ok.wish {X:Cx}(ok:X.Ok)(E:Value->Shared->Prop):(X.wish E).Ok :=
 ⟨ok.mod,ok.kind,ok.glob,ok.blt,ok.above,ok.inj,ok.has,ok.cab,ok.hd,ok.frames,ok.stk,ok.exf,ok.bs,ok.bsz,ok.noex,ok.exfs,ok.funs,ok.frf⟩
theorem Cx.Ok.unwish {X:Cx}{E:Value->Shared->Prop}(ok:(X.wish E).Ok):X.Ok :=
 ⟨ok.mod,ok.kind,ok.glob,ok.blt,ok.above,ok.inj,ok.has,ok.cab,ok.hd,ok.frames,ok.stk,ok.exf,ok.bs,ok.bsz,ok.noex,ok.exfs,ok.funs,ok.frf⟩
section
variable {X:Cx}{pins:List (Addr×Obj)}{σ:St}{H:Hp}{s:Shared}{E:Value->Shared->Prop}
theorem Inv.wish (I:Inv X pins σ H s)(E:Value->Shared->Prop):Inv (X.wish E) pins σ H s:=⟨I.ok.wish E,I.os,I.bare,I.base,I.loc,I.cell,I.free,I.freeC,I.pin,I.hok,I.len⟩
theorem Inv.unwish (I:Inv (X.wish E) pins σ H s):Inv X pins σ H s:=⟨I.ok.unwish,I.os,I.bare,I.base,I.loc,I.cell,I.free,I.freeC,I.pin,I.hok,I.len⟩
theorem SP.unwish {D:Ends}{f:Flow}{s':Shared}(h:SP (X.wish E) pins D f s'):SP X pins D f s':=by
 cases f with
 |next=>obtain⟨σ',H',I,q⟩:=h; exact⟨σ',H',I.unwish,q⟩
 |brk=>obtain⟨σ',H',I,q⟩:=h; exact⟨σ',H',I.unwish,q⟩
 |cont=>obtain⟨σ',H',I,q⟩:=h; exact⟨σ',H',I.unwish,q⟩
 |ret u=>obtain⟨v,σ',H',I,r,q⟩:=h; exact⟨v,σ',H',I.unwish,r,q⟩
theorem mV.nox {st:List Stmt}{t:TS}(h:mV X.nox st t):mV X st t:=λpins s σ H D I hw =>
 wpAny_mono (h pins s σ H D (I.wish _) hw) (λ_ _ q=>q.unwish) λ_ _ z=>False.elim z
end
section
variable {X:Cx}{st:Stmt}{rest:List Stmt}{t u:TS}{e:Expr}{te:TE}{pos:Pos}
def DR:TS:=λD σ H=>D.nx σ H
def Lo (t u:TS):TS:=λD σ H=>t { D with nx:=u D } σ H
theorem Yj:mV X [] DR:=λ_ _ σ H _ I h=>wpAny_execs_nil ⟨σ,H,I,h⟩
theorem PJ (h1:PS X st t)(h2:mV X rest u):mV X (st::rest) (Lo t u):=by
 intro pins s σ H D I h
 refine wpAny_execs_cons (cj (h1 pins s σ H { D with nx:=u D } I h) λf s1 q=>?_)
 cases f with
 |next =>
  obtain⟨σ',H',I',q⟩:=q
  exact h2 pins s1 σ' H' D I' q
 |ret v=>exact q
 |brk=>exact q
 |cont=>exact q
theorem Qb (h1:PS X st t):mV X [st] t:=by
 intro pins s σ H D I h
 refine wpAny_execs_cons (cj (h1 pins s σ H D I h) λf s1 q=>?_)
 cases f with
 |next=>exact wpAny_execs_nil q
 |ret v=>exact q
 |brk=>exact q
 |cont=>exact q
theorem Inv.quiet {pins:List (Addr×Obj)}{σ:St}{H:Hp}{s:Shared}(I:Inv X pins σ H s):interactive X.env=false:=by simp[interactive,I.ok.kind]
def DO (te:TE):TS:=λD σ H=>te σ H λ_ H1=>D.nx σ H1
theorem Mn (he:PE X e te)(hs:swapsWith e none pos.line X.env=pure false:=by rfl):PS X (.Expr e pos) (DO te):=by
 intro pins s σ H D I h
 exact wpAny_Expr_any (cj (he pins s σ H _ I h) λv s1 ⟨x,H1,I1,r1,q1⟩=>⟨σ,H1,I1,q1⟩) I.quiet hs
def Lm (te:TE):TS:=λD σ H=>te σ H D.rt
theorem MG (he:PE X e te):PS X (.Return (some e) pos) (Lm te):=by
 intro pins s σ H D I h
 exact wpAny_Return_some (cj (he pins s σ H _ I h) λv s1 ⟨x,H1,I1,r1,q1⟩=>⟨x,σ,H1,I1,r1,q1⟩)
def Lh (c:TT)(t u:TS):TS:=λD σ H=>c σ H λb H1=>if b=true then t D σ H1 else u D σ H1
theorem zto {c:Expr}{a b:List Stmt}{tc:TT}(hc:PT X c tc)(ha:mV X a t)(hb:mV X b u):PS X (.If c a b pos) (Lh tc t u):=by
 intro pins s σ H D I h
 refine wpAny_If (cj (hc pins s σ H _ I h) λd s1 ⟨H1,I1,q1⟩=>?_)
 cases d with
 |true=>exact ha pins s1 σ H1 D I1 q1
 |false=>exact hb pins s1 σ H1 D I1 q1
def Br:TS:=λ_ _ _=>False
theorem WS:PS X st Br:=λ_ _ _ _ _ _ h=>h.elim
end
abbrev TG:=V->St->Hp->(St->Hp->Prop)->Prop
abbrev tw:=List V->St->Hp->(St->Hp->Prop)->Prop
def PG (X:Cx)(target:Expr)(t:TG):Prop :=
 ∀(pins:List (Addr×Obj)) (s:Shared) (σ:St) (H:Hp) (v:V) (u:Value) (Q:St->Hp->Prop),Inv X pins σ H s->RelV v u->t v σ H Q ->
  wpAny (model X.prog X.w) X.A (assign target X.env u) (λ_ s'=>∃σ' H',Inv X pins σ' H' s'/\Q σ' H') X.xe s
def Bz (X:Cx)(ts:List Expr)(t:tw):Prop :=
 ∀(pins:List (Addr×Obj)) (s:Shared) (σ:St) (H:Hp) (vs:List V) (us:List Value) (Q:St->Hp->Prop),Inv X pins σ H s->bA vs us->t vs σ H Q ->
  wpAny (model X.prog X.w) X.A (assignInOrder ((assignEach ts X.env).map (·.2)) us) (λ_ s'=>∃σ' H',Inv X pins σ' H' s'/\Q σ' H') X.xe s
abbrev oZ:=V->V->V->Hp->(Hp->Prop)->Prop
def uJ (X:Cx)(t:oZ):Prop :=
 ∀(pins:List (Addr×Obj)) (s:Shared) (σ:St) (H:Hp) (o i v:V) (ov iv u:Value) (Q:Hp->Prop),Inv X pins σ H s->RelV o ov->RelV i iv->RelV v u->t o i v H Q ->
  wpAny (model X.prog X.w) X.A (setItem ov iv u) (λ_ s'=>∃H',Inv X pins σ H' s'/\Q H') X.xe s
abbrev BB:=V->V->Hp->VK->Prop
def BA (X:Cx)(op:Operator)(t:BB):Prop :=
 ∀(pins:List (Addr×Obj)) (s:Shared) (σ:St) (H:Hp) (x y:V) (v u:Value) (Q:VK),Inv X pins σ H s->RelV x v->RelV y u->t x y H Q ->
  wpAny (model X.prog X.w) X.A (inplaceOp op v u) (EP X pins σ Q) X.xe s
section
variable {X:Cx}{pos:Pos}
def nB (i:Nat):TG:=λv σ H Q=>Q (σ.set i (some v)) H
theorem Qc {i:Nat}{x:Str}(hN:X.N.Nodup)(hi:X.N[i]?=some x)(hx:Loc X.env.scope x)(hf:X.fn x=true\/X.env.scope.names.lookup x=some .local:=by first|exact .inl rfl|exact .inr rfl|assumption):PG X (.Name x pos) (nB i):=by
 intro pins s σ H v u Q I r h
 exact wpAny_assign_Name (DY I hN hi hx r (λs' I'=>⟨_,H,I',h⟩) hf)
def HK:tw:=λvs σ H Q=>vs=[]/\Q σ H
def CH (t:TG)(u:tw):tw:=λvs σ H Q=>∃v r,vs=v::r/\t v σ H λσ' H'=>u r σ' H' Q
theorem Qd:Bz X [] HK:=by
 intro pins s σ H vs us Q I r h
 obtain⟨e,h⟩:=h
 subst e
 cases r
 exact assignInOrder_nil ⟨σ,H,I,h⟩
theorem PK {e:Expr}{es:List Expr}{t:TG}{u:tw}(h1:PG X e t)(h2:Bz X es u)
  (hs:(assignEach (e::es) X.env).map (·.2)=assign e X.env::(assignEach es X.env).map (·.2):=by rfl):Bz X (e::es) (CH t u):=by
 intro pins s σ H vs us Q I r h
 obtain⟨v,vr,e1,h⟩:=h
 subst e1
 cases r with
 |cons r rr =>
  rw[hs]
  refine assignInOrder_cons (cj (h1 pins s σ H _ _ _ I r h) λ_ s1 ⟨σ1,H1,I1,q1⟩=>?_)
  exact h2 pins s1 σ1 H1 _ _ Q I1 rr q1
def HM (K:ae)(n:Nat)(t:tw):TG:=λv σ H Q=>∃a xs,v=.ref a/\iD K H a xs/\xs.length=n/\t xs σ H Q
theorem QK {es:List Expr}{k:Nat}{t:tw}{n:Nat}(hc:X.calm=true)(h:Bz X es t)
  (hn:(assignEach es X.env).length=n:=by rfl) (iR:(assignEach es X.env).findIdx? (·.1)=none:=by rfl):PG X (.Tuple es k pos) (HM X.K n t):=by
 intro pins s σ H v u Q I r hw
 obtain⟨a,xs,e1,hq,hl,hw⟩:=hw
 subst e1
 cases r
 obtain⟨its,rv,ht,hz⟩:=I.tuple hq
 refine assign_Tuple_tuple (I.ok.hd hc) ht (by simp[hn,← hl,rv.length]) iR λh' hx=>?_
 have I1:Inv X pins σ H { s with heap:=h' }:=I.kept (t':=s.toks) λb o e=>hx b o (aV (aF e)) e
 exact h pins _ σ H xs _ Q I1 (by simpa using rv) hw
def HL (to ti:TE)(t:oZ):TG:=λv σ H Q=>to σ H λo H1=>ti σ H1 λi H2=>t o i v H2 λH3=>Q σ H3
theorem QL {o i:Expr}{to ti:TE}{t:oZ}(ho:PE X o to)(hi:PE X i ti)(hs:uJ X t)
  (ha:∀v,assign (.Subscript o i pos) X.env v=(do
   let ov ← holding [v] (eval o X.env)
   let iv ← holding [v,ov] (eval i X.env)
   standAt pos
   holding [v,ov,iv] (setItem ov iv v)
   release [v,ov,iv] []):=by intro _; rfl):PG X (.Subscript o i pos) (HL to ti t):=by
 intro pins s σ H v u Q I r h
 rw[ha]
 refine wpAny_bind (wpAny_holding (cj (ho pins s σ H _ I h) λov s1 ⟨x,H1,I1,r1,q1⟩=>?_))
 refine wpAny_bind (wpAny_holding (cj (hi pins s1 σ H1 _ I1 q1) λiv s2 ⟨y,H2,I2,r2,q2⟩=>?_))
 refine wpAny_bind (wpAny_standAt (wpAny_bind (wpAny_holding (cj (hs pins s2 σ H2 x y v ov iv u _ I2 r1 r2 r q2) λ_ s3 ⟨H3,I3,q3⟩=>?_))))
 exact wpAny_release ⟨σ,H3,I3,q3⟩
def Bp (te:TE)(g:TG):TS:=λD σ H=>te σ H λx H1=>g x σ H1 D.nx
theorem MH {tg e:Expr}{te:TE}{g:TG}(he:PE X e te)(hg:PG X tg g)(hs:swapsWithSole [tg] e pos.line X.env=pure false:=by rfl)(hw:swappedStores [tg] e X.env=pure none:=by rfl)
  (h1:(assignEach [tg] X.env).map (·.2)=[assign tg X.env]:=by rfl):PS X (.Assign [tg] e pos) (Bp te g):=by
 intro pins s σ H D I h
 refine wpAny_Assign_stores (cj (he pins s σ H _ I h) λv s1 ⟨x,H1,I1,r1,q1⟩=>?_) hs hw
 rw[h1]
 exact cj (hg pins s1 σ H1 x v _ I1 r1 q1) λ_ s2 q=>q
theorem QM {i:Nat}{x:Str}{e:Expr}{te:TE}{pos':Pos}(hN:X.N.Nodup)(hi:X.N[i]?=some x)(hx:Loc X.env.scope x)(he:PE X e te)(hs:swapsWith e (some (.Name x pos')) pos.line X.env=pure false:=by rfl)(hf:X.fn x=true\/X.env.scope.names.lookup x=some .local:=by first|exact .inl rfl|exact .inr rfl|assumption) :
  PS X (.Assign [.Name x pos'] e pos) (Bp te (nB i)):=by
 intro pins s σ H D I h
 refine wpAny_Assign_Name (cj (he pins s σ H _ I h) λv s1 ⟨y,H1,I1,r1,q1⟩=>?_) hs
 exact DY I1 hN hi hx r1 (λs2 I2=>⟨_,H1,I2,q1⟩) hf
def Ll (i j:Nat)(ta:TA):TS:=λD σ H=>ta σ H λvs H1=>∃v w,vs=[v,w]/\D.nx ((σ.set i (some v)).set j (some w)) H1
theorem ZL {i j:Nat}{x y:Str}{a b:Expr}{ta:TA}{px py pt:Pos}{kt k2 kl}(hc:X.calm=true)(hN:X.N.Nodup)(hi:X.N[i]?=some x)(hj:X.N[j]?=some y)(n8:i≠j)
    (hx:X.env.scope.names.lookup x=some .local) (hy:X.env.scope.names.lookup y=some .local) (ha:PA X [a,b] ta)
    (hw:swappedStores [.Tuple [.Name x px,.Name y py] kt pt] (.Tuple [a,b] k2 kl) X.env=pure (some [x,y]))
    (hs:swapsWithSole [.Tuple [.Name x px,.Name y py] kt pt] (.Tuple [a,b] k2 kl) pos.line X.env=pure false:=by rfl) :
    PS X (.Assign [.Tuple [.Name x px,.Name y py] kt pt] (.Tuple [a,b] k2 kl) pos) (Ll i j ta):=by
  intro pins s σ H D I h
  rw[exec_Assign_arm]
  refine wpAny_bind (wpAny_standAt ?_)
  rw[hs]
  refine wpAny_bind (wpAny_pure ?_)
  rw[if_neg (by decide)]
  refine wpAny_bind (Tuple_ (cj (ha _ pins s σ H _ I h) λus s1 ⟨vs,H1,I1,r1,q1⟩=>?_))
  obtain⟨v,w,e1,q1⟩:=q1
  subst e1
  obtain⟨u1,u2,rfl,rv,kE⟩:∃u1 u2,us=[u1,u2]/\RelV v u1/\RelV w u2:=by
    cases r1 with
    |cons p q =>
      cases q with
      |cons p' q' =>
        cases q'
        exact⟨_,_,rfl,p,p'⟩
  refine wpAny_newObj_type ?_ (by show 2<=sizeLine; decide)
  have I2:Inv X pins σ H1 { s1 with heap:=s1.heap.push { cls:=.type "tuple",data:=.seq [u1,u2].toArray } }:=I1.kept (t':=s1.toks) λb o e=>ay _ e
  rw[hw]
  refine wpAny_bind (wpAny_pure ?_)
  show wpAny (model X.prog X.w) X.A (do rule "assign.swapped-stores"; let items ← unpackItems (.ref s1.heap.objs.size) 2 none; assignInOrder [λv=>bindName X.env y v,λv=>bindName X.env x v] items.reverse; pure Flow.next) _ _ _
  refine wpAny_bind (wpAny_rule (wpAny_bind (unpackItems_tuple (items:=#[u1,u2]) (I.ok.hd hc) (IsTup.new s1.heap _) λh' tP=>?_)))
  have I3:=I2.kept (h':=h') (t':=s1.toks) λb o e=>tP b o (aV (aF e)) e
  show wpAny _ _ (assignInOrder [λv=>bindName X.env y v,λv=>bindName X.env x v] [u2,u1] >>= λ_=>pure Flow.next) _ _ _
  refine wpAny_bind (assignInOrder_cons (wpAny_bindName (DY I3 hN hj (.inl hy) kE (λs2 I4=>?_) (.inr hy))))
  refine assignInOrder_cons (wpAny_bindName (DY I4 hN hi (.inl hx) rv (λs3 I5=>assignInOrder_nil (wpAny_pure ?_)) (.inr hx)))
  rw[List.set_comm _ _ (Ne.symm n8)]at I5
  exact⟨_,H1,I5,q1⟩
def Lb (i:Nat)(te:TE)(ti:BB):TS:=λD σ H=>∃x,σ[i]?=some (some x)/\te σ H λy H1=>ti x y H1 λz H2=>D.nx (σ.set i (some z)) H2
theorem ZM {i:Nat}{x:Str}{e:Expr}{te:TE}{op:Operator}{ti:BB}{pos':Pos}(hN:X.N.Nodup)(hi:X.N[i]?=some x)(hx:Loc X.env.scope x)(he:PE X e te)(ho:BA X op ti)(hf:X.fn x=true\/X.env.scope.names.lookup x=some .local:=by first|exact .inl rfl|exact .inr rfl|assumption) :
  PS X (.AugAssign (.Name x pos') op e pos) (Lb i te ti):=by
 intro pins s σ H D I h
 obtain⟨v,e1,h⟩:=h
 obtain⟨m,hn,hl⟩:=I.loc
 have U2:lP X.env.scope x:=by rcases hx with k|k; exact .inl k; exact .inr (.inl k)
 obtain⟨u,r,l⟩:=hl i x v hi e1 U2
 refine wpAny_AugAssign_Name ?_
 have go:wpAny (model X.prog X.w) X.A (eval e X.env) (λw s₂=>wpAny (model X.prog X.w) X.A (inplaceOp op u w) (λr s₃=>wpAny (model X.prog X.w) X.A (storeName X.env x r) (λ_=>SP X pins D .next) X.xe s₃) X.xe s₂) X.xe s:=by
  refine cj (he pins s σ H _ I h) λw s1 ⟨y,H1,I1,r1,q1⟩=>?_
  refine cj (ho pins s1 σ H1 v y u w _ I1 r r1 q1) λz s2 ⟨zv,H2,I2,r2,q2⟩=>?_
  exact DY I2 hN hi hx r2 (λs3 I3=>⟨_,H2,I3,q2⟩) hf
 rcases l with⟨hk,hm⟩|⟨hk,c,hc,nE⟩
 ·exact wpAny_loadName_local I.ok.kind hk hn hm go
 ·rcases hk with hk|hk
  ·exact wpAny_loadName_cell I.ok.kind hk hc nE go
  ·rcases hx with k|k
   ·have:X.env.scope.names.lookup x=some .free:=hk
    rw[k]at this; cases this
   ·have:X.env.scope.names.lookup x=some .free:=hk
    rw[k]at this; cases this
def DL (to ti te:TE)(sR:V->V->Hp->VK->Prop)(FP:BB)(sS:oZ):TS:=λD σ H=>to σ H λo H1=>ti σ H1 λi H2=>sR o i H2 λx H3=>te σ H3 λy H4=>FP x y H4 λz H5=>sS o i z H5 λH6=>D.nx σ H6
def Cw (X:Cx)(t:V->V->Hp->VK->Prop):Prop :=
 ∀(pins:List (Addr×Obj)) (s:Shared) (σ:St) (H:Hp) (o i:V) (ov iv:Value) (Q:VK),Inv X pins σ H s->RelV o ov->RelV i iv->t o i H Q ->
  wpAny (model X.prog X.w) X.A (getItem ov iv) (EP X pins σ Q) X.xe s
theorem Yk {o i e:Expr}{to ti te:TE}{sR:V->V->Hp->VK->Prop}{FP:BB}{sS:oZ}{op:Operator}{eD:Pos}(ho:PE X o to)(hi:PE X i ti)(hg:Cw X sR)(he:PE X e te)(hp:BA X op FP)(hs:uJ X sS)
  (ha:∀ov iv new,augStore i ov iv new=(do holding [new,ov,iv] (setItem ov iv new); release [new,ov,iv] []; pure .next):=by intros; rfl):PS X (.AugAssign (.Subscript o i eD) op e pos) (DL to ti te sR FP sS):=by
 intro pins s σ H D I h
 refine wpAny_AugAssign_SubscriptAny (cj (ho pins s σ H _ I h) λov s1 ⟨x1,H1,I1,r1,q1⟩=>?_) ha
 refine cj (hi pins s1 σ H1 _ I1 q1) λiv s2 ⟨x2,H2,I2,r2,q2⟩=>?_
 refine cj (hg pins s2 σ H2 x1 x2 ov iv _ I2 r1 r2 q2) λold s3 ⟨x3,H3,I3,r3,q3⟩=>?_
 refine cj (he pins s3 σ H3 _ I3 q3) λv s4 ⟨x4,H4,I4,r4,q4⟩=>?_
 refine cj (hp pins s4 σ H4 x3 x4 old v _ I4 r3 r4 q4) λnew s5 ⟨x5,H5,I5,r5,q5⟩=>?_
 exact cj (hs pins s5 σ H5 x1 x2 x5 ov iv new _ I5 r1 r2 r5 q5) λ_ s6 ⟨H6,I6,q6⟩=>⟨σ,H6,I6,q6⟩
def FB (f:Int->Int->Int):BB:=λx y H Q=>∃i j,x=.int i/\y=.int j/\Q (.int (f i j)) H
theorem MI:BA X .Add (FB λi j=>i+j):=by
 intro pins s σ H x y v u Q I r1 r2 h
 obtain⟨i,j,e1,e2,q⟩:=h
 subst e1; subst e2
 obtain⟨t,rfl⟩:=r1
 obtain⟨t',rfl⟩:=r2
 exact iadd_int ⟨.int _,H,I.tok _,⟨_,rfl⟩,q⟩
theorem ZN:BA X .Sub (FB λi j=>i-j):=by
 intro pins s σ H x y v u Q I r1 r2 h
 obtain⟨i,j,e1,e2,q⟩:=h
 subst e1; subst e2
 obtain⟨t,rfl⟩:=r1
 obtain⟨t',rfl⟩:=r2
 exact isub_int ⟨.int _,H,I.tok _,⟨_,rfl⟩,q⟩
end
section
variable {X:Cx}{pos:Pos}
def Bs (c:TT)(tb:TS):TS:=λD σ H=>∃W:Nat->St->Hp->Prop,(∃m,W m σ H)/\∀m σ H,W m σ H ->
 c σ H λb H1=>if b=true then∃N:St->Hp->Prop,(∀σ' H',N σ' H'->∃m',m'<m/\W m' σ' H')/\tb { D with nx:=N,ct:=N,bk:=D.nx } σ H1 else D.nx σ H1
theorem WT {c:Expr}{body:List Stmt}{tc:TT}{tb:TS}(hp:PassesOwn (model X.prog X.w) X.A X.env X.xe)(hc:PT X c tc)(hb:mV X body tb):PS X (.While c body [] pos) (Bs tc tb):=by
 intro pins s σ H D I h
 obtain⟨W,⟨m0,w0⟩,turn⟩:=h
 refine wpAny_While (codeAny_whileLoop (λn s'=>∃σ' H',Inv X pins σ' H' s'/\W n σ' H') ?_ m0 ⟨σ,H,I,w0⟩)
 rintro n s1 ⟨σ1,H1,I1,w1⟩
 refine wpAny_passesOwn hp (cj (hc pins s1 σ1 H1 _ I1 (turn n σ1 H1 w1)) λb s2 ⟨H2,I2,q2⟩=>?_)
 cases b with
 |true =>
  obtain⟨N,hN,q2⟩:=q2
  rw[if_pos rfl]
  refine wpAny_passesOwn hp (cj (hb pins s2 σ1 H2 _ I2 q2) λf s3 q3=>?_)
  cases f with
  |next =>
   obtain⟨σ3,H3,I3,n3⟩:=q3
   obtain⟨m',hm,w3⟩:=hN σ3 H3 n3
   exact⟨m',hm,σ3,H3,I3,w3⟩
  |cont =>
   obtain⟨σ3,H3,I3,n3⟩:=q3
   obtain⟨m',hm,w3⟩:=hN σ3 H3 n3
   exact⟨m',hm,σ3,H3,I3,w3⟩
  |brk=>exact q3
  |ret v=>exact q3
 |false =>
  rw[if_neg aH]
  exact wpAny_execs_nil ⟨σ1,H2,I2,q2⟩
end
structure It where
 go:Nat->Hp->Prop
 yld:Nat->Hp->V->Hp->Prop
 stop:Nat->Hp->Prop
def iA (X:Cx)(pins:List (Addr×Obj))(H:Hp)(b:Addr):Prop :=
 H b=none/\b≠X.env.locals/\b∉X.fs/\(b∈X.ex\/X.s₀.heap.objs.size<=b)/\(∀x c,X.env.cells.lookup x=some c->c≠b)/\∀p∈X.pn++pins,p.1≠b
theorem Inv.fpOk {X:Cx}{pins:List (Addr×Obj)}{σ:St}{H H':Hp}{s:Shared}{b:Addr}(I:Inv X pins σ H s)(hb:s.heap.objs.size<=b)(hn:H' b=none):iA X pins H' b:=by
 refine⟨hn,Nat.ne_of_gt (aO I.lt hb),I.nofs hb,.inr (bG I.sz hb),λx c e z=>?_,λp hp z=>?_⟩
 ·obtain⟨v,q⟩:=I.cell x c e
  exact absurd (aO q.lt (by rw[z]; exact hb)) (cW _)
 ·exact absurd (aO (aF (I.pin p hp).1) (by rw[z]; exact hb)) (cW _)
structure Turn (P:Program)(w:World)(K:ae)(tg:Expr)(J:It)(fp:List Addr)(it:Addr)(tn:Nat->Heap->Prop):Prop where
 mem:it∈fp
 obj:∀i h,tn i h->∀b∈fp,∃o,h.get? b=some o/\∀v,o.data≠.cell v
 keep:∀i h h',tn i h->(∀b∈fp,∀o,h.get? b=some o->h'.get? b=some o)->tn i h'
 item:∀(X:Cx),X.prog=P->X.w=w->X.K=K->X.calm=true->∀(i:Nat) (pins:List (Addr×Obj)) (s:Shared) (σ:St) (H:Hp) (E:Value->Shared->Prop),Inv X pins σ H s->(∀b∈fp,iA X pins H b)->tn i s.heap->J.go i H ->
  wpAny (model P w) X.A (pyNext (.ref it)) (λr s1=>∃u,r=some u /\
   wpAny (model P w) X.A (letOwnedTupleGo tg (.ref it) u) (λ_ s2=>∃x H',Inv X pins σ H' s2/\RelV x u/\J.yld i H x H'/\tn (i+1) s2.heap/\∀b∈fp,H' b=none) E s1) E s
 done:∀(X:Cx),X.prog=P->X.w=w->X.K=K->X.calm=true->∀(i:Nat) (pins:List (Addr×Obj)) (s:Shared) (σ:St) (H:Hp) (E:Value->Shared->Prop),Inv X pins σ H s->(∀b∈fp,iA X pins H b)->tn i s.heap->J.stop i H ->
  wpAny (model P w) X.A (pyNext (.ref it)) (λr s1=>r=none/\Inv X pins σ H s1) E s
 self:∀(A:Around) (i:Nat) (s:Shared) (Q:Value->Shared->Prop) (E:Value->Shared->Prop),tn i s.heap->Q (.ref it) s->wpAny (model P w) A (pyIter (.ref it)) Q E s
abbrev TI:=St->Hp->(It->Hp->Prop)->Prop
def Na (X:Cx)(pins:List (Addr×Obj))(σ:St)(tg:Expr)(R:It->Hp->Prop)(FC:Value)(s2:Shared):Prop :=
 ∃(it:Addr) (fp:List Addr) (tn:Nat->Heap->Prop) (J:It) (H':Hp),FC=.ref it/\Inv X pins σ H' s2/\Turn X.prog X.w X.K tg J fp it tn/\tn 0 s2.heap/\(∀b∈fp,iA X pins H' b)/\R J H'
def PI (X:Cx)(tg iter:Expr)(wi:TI):Prop :=
 ∀(pins:List (Addr×Obj)) (s:Shared) (σ:St) (H:Hp) (R:It->Hp->Prop),Inv X pins σ H s->wi σ H R ->
  wpAny (model X.prog X.w) X.A (eval iter X.env) (λv s1=>wpAny (model X.prog X.w) X.A (pyIter v) (Na X pins σ tg R) X.xe s1) X.xe s
theorem MZ {M:Model}{A:Around}{E:Value->Shared->Prop}{s:Shared}{tg:Expr}{it:Addr}{u:Value}{o:Obj}{n:String}{vs:Array Value}{Q:Unit->Shared->Prop}(ho:s.heap.get? it=some o)(hc:o.cls=.type n)(hd:o.data=.fields vs)
    (hn:["enumerate","zip","dict_itemiterator","dict_reverseitemiterator","odict_iterator","itertools.zip_longest","itertools.pairwise"].contains n=false) (hQ:Q () s):wpAny M A (letOwnedTupleGo tg (.ref it) u) Q E s:=by
  unfold letOwnedTupleGo
  cases tg <;> first
    |exact wpAny_pure hQ
    |(cases u <;> first
        |exact wpAny_pure hQ
        |(refine wpAny_bind (wpAny_load ho ?_)
          rw[hc,hd]
          show wpAny M A (if(["enumerate","zip","dict_itemiterator","dict_reverseitemiterator","odict_iterator","itertools.zip_longest","itertools.pairwise"].contains n && vs[0]? == some (rawInt _))=true then _ else _) Q E s
          rw[if_neg (by intro h; rw[hn,Bool.false_and]at h; cases h)]
          exact wpAny_pure hQ))
def G4 (K:ae)(a:Addr):It :=
 ⟨λi H=>∃xs x,d5 K H a xs/\xs[i]?=some x,λi H x H'=>H'=H/\∀xs,d5 K H a xs->xs[i]?=some x,λi H=>∃xs,d5 K H a xs/\xs.length<=i⟩
def Eh (lo:Int)(n:Nat):It:=⟨λi _=>i<n,λi H x H'=>H'=H/\x=.int (lo+i),λi _=>n<=i⟩
theorem Wt {P:Program}{w:World}{K:ae}{tg:Expr}(a it:Addr):Turn P w K tg (G4 K a) [it] it (λi h=>h.IsListIter it a i) where
 mem:=by simp
 obj:=λi h st b hb=>by
  have e:b=it:=by simpa using hb
  subst e
  obtain⟨o,e,c,d⟩:=st
  exact⟨o,e,λv z=>by rw[d]at z; cases z⟩
 keep:=λi h h' st k=>st.at λo e=>k it (by simp) o e
 item:=by
  intro X hP hw hK hc i pins s σ H E I hf st hg
  subst hP hw hK
  obtain⟨xs,x,hq,hx⟩:=hg
  obtain⟨its,rv,p,hz⟩:=I.list hq
  obtain⟨u,hu,ru⟩:=rv.get hx
  obtain⟨f0,f1,f2,f3,f4,f5⟩:=hf it (by simp)
  refine wpAny_pyNext_list_item st p.isList (x:=u) (by simpa using hu) λh' oO sb=>?_
  have I1:Inv X pins σ H { s with heap:=h' }:=I.turned (t':=s.toks) (λb o hb e=>(sb.2 b hb).trans e) f0 f1 f3 f4 f5
  obtain⟨o,e,c,d⟩:=id oO
  exact⟨u,rfl,MZ (s:={ s with heap:=h' }) e c d (by decide) ⟨x,H,I1,ru,⟨rfl,λys hy=>by rw[I.list_inj hy hq]; exact hx⟩,oO,λb hb=>(hf b hb).1⟩⟩
 done:=by
  intro X hP hw hK hc i pins s σ H E I hf st hg
  subst hP hw hK
  obtain⟨xs,hq,hx⟩:=hg
  obtain⟨its,rv,p,hz⟩:=I.list hq
  obtain⟨f0,f1,f2,f3,f4,f5⟩:=hf it (by simp)
  have hl:=rv.length
  exact wpAny_pyNext_list_end (I.ok.hd hc) st p.isList (by simp; omega) λh' eb=>⟨rfl,I.turned (t':=s.toks) (λb o hb e=>eb b o hb e) f0 f1 f3 f4 f5⟩
 self:=λ_ _ _ _ _ st h=>wpAny_pyIter_listiter st h
theorem V8 {P:Program}{w:World}{K:ae}{tg:Expr}(it:Addr)(lo:Int)(n:Nat):Turn P w K tg (Eh lo n) [it] it (λi h=>IsRangeIter h it (lo+(i:Nat) * 1) ((n:Int)-(i:Nat)) 1) where
 mem:=by simp
 obj:=λi h st b hb=>by
  have e:b=it:=by simpa using hb
  subst e
  exact⟨_,st,λv z=>by
   have z':Data.fields _=Data.cell v:=z
   cases z'⟩
 keep:=λi h h' st k=>k it (by simp) _ st
 item:=by
  intro X hP hw hK hc i pins s σ H E I hf st hg
  subst hP hw hK
  obtain⟨f0,f1,f2,f3,f4,f5⟩:=hf it (by simp)
  have W:=Walks.range (prog:=X.prog) (w:=X.w) (I.ok.hd hc) it lo 1 n
  refine W.item i s _ _ hg st λv h' tk hv oO kk=>?_
  obtain⟨t,rfl⟩:=hv
  have I1:Inv X pins σ H { s with heap:=h',toks:=tk }:=I.turned (λb o hb e=>kk b o (by simpa using hb) e) f0 f1 f3 f4 f5
  refine⟨_,rfl,MZ (s:={ s with heap:=h',toks:=tk }) (n:="range_iterator") oO rfl rfl (by decide) ⟨.int (lo+i),H,I1,⟨t,?_⟩,⟨rfl,rfl⟩,oO,λb hb=>(hf b hb).1⟩⟩
  rw[jS]
 done:=by
  intro X hP hw hK hc i pins s σ H E I hf st hg
  subst hP hw hK
  obtain⟨f0,f1,f2,f3,f4,f5⟩:=hf it (by simp)
  exact wpAny_pyNext_range_end (I.ok.hd hc) st (by have:n<=i:=hg; omega) λh' eb=>⟨rfl,I.turned (t':=s.toks) (λb o hb e=>eb b o hb e) f0 f1 f3 f4 f5⟩
 self:=λ_ _ _ _ _ st h=>wpAny_pyIter_rangeiter st h
end L2
namespace L2
open PySem PySem.Spec PyProof.Rows
section
variable {X:Cx}{tg:Expr}
def Di (K:ae)(tl:TE):TI:=λσ H R=>tl σ H λx H1=>∃a,x=.ref a/\(∃xs,d5 K H1 a xs)/\R (G4 K a) H1
theorem Qe {l:Expr}{tl:TE}(hl:PE X l tl):PI X tg l (Di X.K tl):=by
 intro pins s σ H R I h
 refine cj (hl pins s σ H _ I h) λv s1 ⟨x,H1,I1,r1,q1⟩=>?_
 obtain⟨a,e,⟨xs,hq⟩,q⟩:=q1
 subst e
 cases r1
 obtain⟨its,rv,p,hz⟩:=I1.list hq
 refine wpAny_pyIter_list p.isList ?_
 refine⟨s1.heap.objs.size,[s1.heap.objs.size],_,_,H1,rfl,I1.kept (t':=s1.toks) λb o e=>ay _ e,Wt a _,⟨_,bn _ rfl,rfl,rfl⟩,λb hb=>?_,q⟩
 have e:b=s1.heap.objs.size:=by simpa using hb
 subst e
 exact I1.fpOk (aE _) (I1.hok.fresh (aE _))
theorem WU {pins:List (Addr×Obj)}{σ:St}{H:Hp}{s:Shared}{R:It->Hp->Prop}{E:Value->Shared->Prop}{lo hi:Int}{t u v:Tok}{tk:Nat}(I:Inv X pins σ H s)(h1:-(2 ^ 62)<=lo)(h2:lo<2 ^ 62)(h3:-(2 ^ 62)<=hi)(h4:hi<2 ^ 62)
    (q:R (Eh lo (hi-lo).toNat) H):wpAny (model X.prog X.w) X.A (pyIter (.ref s.heap.objs.size)) (Na X pins σ tg R) E { s with heap:=s.heap.push { cls:=.type "range",data:=.fields #[.int lo t,.int hi u,.int 1 v] },toks:=tk }:=by
  refine wpAny_pyIter_range (IsRange.new ..) (small_one h1 h2 h3 h4) ?_
  have I1:Inv X pins σ H { s with heap:=s.heap.push { cls:=.type "range",data:=.fields #[.int lo t,.int hi u,.int 1 v] },toks:=tk }:=I.kept λb o e=>ay _ e
  refine⟨(s.heap.push { cls:=.type "range",data:=.fields #[.int lo t,.int hi u,.int 1 v] }).objs.size,[(s.heap.push { cls:=.type "range",data:=.fields #[.int lo t,.int hi u,.int 1 v] }).objs.size],_,_,H,rfl,
    I1.kept (t':=tk) λb o e=>ay _ e,V8 _ lo (hi-lo).toNat,?_,λb hb=>?_,q⟩
  · have e1:lo+((0:Nat):Int) * 1=lo:=by simp
    have e2:(((hi-lo).toNat:Nat):Int)-((0:Nat):Int)=Builtin.Range.rangeSize lo hi 1:=by rw[rangeSize_one]; split <;> omega
    show IsRangeIter _ _ (lo+((0:Nat):Int) * 1) ((((hi-lo).toNat:Nat):Int)-((0:Nat):Int)) 1
    rw[e1,e2]
    exact bn _ rfl
  · have e:b=(s.heap.push { cls:=.type "range",data:=.fields #[.int lo t,.int hi u,.int 1 v] }).objs.size:=by simpa using hb
    subst e
    exact I1.fpOk (aE _) (I1.hok.fresh (aE _))
def Dj (ta:TA):TI:=λσ H R=>ta σ H λvs H1=>∃j:Int,vs=[.int j]/\-(2 ^ 62)<=j/\j<2 ^ 62/\R (Eh 0 j.toNat) H1
theorem Wu {a:Expr}{ta:TA}{p pos:Pos}(hg:Gl X "range")(hm:X.mg "range"=none)(ha:PA X [a] ta)(hs:starEach [a] X.env=[(false,eval a X.env)]:=by rfl):PI X tg (.Call (.Name "range" p) [a] [] pos) (Dj ta):=by
 intro pins s σ H R I h
 refine Call_ (sU I hg hm boot_range (bH (cj (ha pos pins s σ H _ I h) λus s1 ⟨vs,H1,I1,r1,q1⟩=>?_) hs rfl))
 obtain⟨j,e,q1,q2,q⟩:=q1
 subst e
 cases r1 with
 |cons r rr =>
  cases rr
  obtain⟨t,rfl⟩:=r
  exact call_range_1 (WU I1 (by omega) (by omega) q1 q2 (by simpa using q))
def Lg (wi:TI)(g:TG)(tb:TS):TS:=λD σ H=>wi σ H λJ H1=>∃W:Nat->Nat->St->Hp->Prop,(∃m,W 0 m σ H1)/\∀i m σ H,W i m σ H ->
 (J.stop i H/\D.nx σ H)\/(J.go i H/\∃N:St->Hp->Prop,(∀σ' H',N σ' H'->∃m',m'<m/\W (i+1) m' σ' H')/\∀x H',J.yld i H x H'->g x σ H' λσ2 H2=>tb { D with nx:=N,ct:=N,bk:=D.nx } σ2 H2)
def iY (fp:List Addr)(h:Heap):List (Addr×Obj):=fp.filterMap λb=>(h.get? b).map λo=>(b,o)
theorem jj {fp:List Addr}{h:Heap}{b:Addr}{o:Obj}(hb:b∈fp)(e:h.get? b=some o):(b,o)∈iY fp h:=nR.mpr ⟨b,hb,by rw[e]; rfl⟩
theorem Wv {fp:List Addr}{h:Heap}{p:Addr×Obj}(hp:p∈iY fp h):p.1∈fp/\h.get? p.1=some p.2:=by
 obtain⟨b,hb,e⟩:=nR.mp hp
 cases q:h.get? b with
 |none=>rw[q]at e; cases e
 |some o =>
  rw[q]at e
  have e':(b,o)=p:=Option.some.inj e
  subst e'
  exact⟨hb,q⟩
theorem Inv.pinned {pins:List (Addr×Obj)}{σ:St}{H:Hp}{s:Shared}{fp:List Addr}(I:Inv X pins σ H s)(hf:∀b∈fp,iA X pins H b)(ho:∀b∈fp,∃o,s.heap.get? b=some o/\∀v,o.data≠.cell v):Inv X (pins++iY fp s.heap) σ H s :=
 I.pins_of λp hp=>(aM.mp hp).elim (λz=>I.pin p (ax _ z)) λz=>by
  obtain⟨hb,e⟩:=Wv z
  obtain⟨f0,f1,f2,_⟩:=hf p.1 hb
  obtain⟨o,e',d⟩:=ho p.1 hb
  rw[e]at e'; cases e'
  exact⟨e,f0,f1,f2,d⟩
theorem Inv.unpinned {pins pl:List (Addr×Obj)}{σ:St}{H:Hp}{s:Shared}(I:Inv X (pins++pl) σ H s):Inv X pins σ H s:=I.pins_of λp hp=>I.pin p (ax _ (aT _ hp))
theorem ZO {iter:Expr}{body:List Stmt}{wi:TI}{g:TG}{tb:TS}{pos:Pos}(hp:PassesOwn (model X.prog X.w) X.A X.env X.xe)(hc:X.calm=true)(hi:PI X tg iter wi)(hg:PG X tg g)(hb:mV X body tb)
  (hs:∀x,foldedSetIterable iter X.env x=pure x:=by intro _; rfl):PS X (.For tg iter body [] pos) (Lg wi g tb):=by
 intro pins s σ H D I h
 refine wpAny_For (cj (hi pins s σ H _ I h) λv s1 h1=>cj h1 λFC s2 h2=>?_) hs
 obtain⟨it,fp,tn,J,H2,e,I2,T,qF,f2,W,⟨m0,w0⟩,turn⟩:=h2
 subst e
 have kn:∀{H':Hp},(∀b∈fp,H' b=none)->∀b∈fp,iA X pins H' b:=λhn b hb=>⟨hn b hb,(f2 b hb).2⟩
 refine codeAny_forLoop_any (λn s'=>∃i σ' H',Inv X pins σ' H' s'/\tn i s'.heap/\(∀b∈fp,H' b=none)/\W i n σ' H') ?_ m0 ⟨0,σ,H2,I2,qF,λb hb=>(f2 b hb).1,w0⟩
 rintro n s3 ⟨i,σ3,H3,I3,Of,Fi,w3⟩
 rcases turn i n σ3 H3 w3 with⟨stop,qn⟩|⟨go,N,hN,step⟩
 ·refine wpAny_passesOwn hp (cj (T.done X rfl rfl rfl hc i pins s3 σ3 H3 X.xe I3 (kn Fi) Of stop) λr s4 ⟨hr,I4⟩=>?_)
  subst hr
  exact wpAny_execs_nil ⟨σ3,H3,I4,qn⟩
 ·refine wpAny_passesOwn hp (cj (T.item X rfl rfl rfl hc i pins s3 σ3 H3 X.xe I3 (kn Fi) Of go) λr s4 ⟨u,hr,h4⟩=>?_)
  subst hr
  refine wpAny_passesOwn hp (cj h4 λ_ s5 ⟨x,H5,I5,r5,y5,sN,yO⟩=>?_)
  have RP:=I5.pinned (kn yO) (T.obj _ _ sN)
  refine wpAny_passesOwn hp (cj (hg _ s5 σ3 H5 x u _ RP r5 (step x H5 y5)) λ_ s6 ⟨σ6,H6,I6,q6⟩=>?_)
  refine wpAny_passesOwn hp (cj (hb _ s6 σ6 H6 _ I6 q6) λf s7 q7=>?_)
  have again:∀{σ7:St} {H7:Hp},Inv X (pins++iY fp s5.heap) σ7 H7 s7->N σ7 H7->∃m,m<n/\∃i σ' H',Inv X pins σ' H' s7/\tn i s7.heap/\(∀b∈fp,H' b=none)/\W i m σ' H':=λ{σ7 H7} I7 n7=>by
   obtain⟨m',hm,w7⟩:=hN σ7 H7 n7
   refine⟨m',hm,i+1,σ7,H7,I7.unpinned,T.keep _ _ _ sN λb hb o e=>(I7.pin (b,o) (ax _ (ax _ (jj hb e)))).1,λb hb=>?_,w7⟩
   obtain⟨o,e,d⟩:=T.obj _ _ sN b hb
   exact(I7.pin (b,o) (ax _ (ax _ (jj hb e)))).2.1
  cases f with
  |next=>obtain⟨σ7,H7,I7,n7⟩:=q7; exact again I7 n7
  |cont=>obtain⟨σ7,H7,I7,n7⟩:=q7; exact again I7 n7
  |brk=>obtain⟨σ7,H7,I7,q7⟩:=q7; exact⟨σ7,H7,I7.unpinned,q7⟩
  |ret v=>obtain⟨x7,σ7,H7,I7,r7,q7⟩:=q7; exact⟨x7,σ7,H7,I7.unpinned,r7,q7⟩
end
end L2
namespace L2
open PySem PySem.Spec PyProof.Rows
abbrev R2:=V->V->Hp->VK->Prop
def eR (X:Cx)(f:Value->Value->Sem Value)(r:R2):Prop :=
 ∀(pins:List (Addr×Obj)) (s:Shared) (σ:St) (H:Hp) (x y:V) (v u:Value) (Q:VK),Inv X pins σ H s->RelV x v->RelV y u->r x y H Q ->
  wpAny (model X.prog X.w) X.A (f v u) (EP X pins σ Q) X.xe s
def Ej (X:Cx)(f:Value->Sem Value)(r:V->Hp->VK->Prop):Prop :=
 ∀(pins:List (Addr×Obj)) (s:Shared) (σ:St) (H:Hp) (x:V) (v:Value) (Q:VK),Inv X pins σ H s->RelV x v->r x H Q ->
  wpAny (model X.prog X.w) X.A (f v) (EP X pins σ Q) X.xe s
def dB (X:Cx)(f:Value)(r:List V->Hp->VK->Prop):Prop :=
 ∀(pins:List (Addr×Obj)) (s:Shared) (σ:St) (H:Hp) (xs:List V) (us:List Value) (Q:VK),Inv X pins σ H s->bA xs us->r xs H Q ->
  wpAny (model X.prog X.w) X.A (call f us) (EP X pins σ Q) X.xe s
def FO (r:R2)(ta tb:TE):TE:=λσ H Q=>ta σ H λx H1=>tb σ H1 λy H2=>r x y H2 Q
def UW (r:V->Hp->VK->Prop)(ta:TE):TE:=λσ H Q=>ta σ H λx H1=>r x H1 Q
def rI (C:Int->Int->Prop)(g:Int->Int->V):R2:=λx y H Q=>∃i j,x=.int i/\y=.int j/\C i j/\Q (g i j) H
def mF (g:Int->Int->V):R2:=λx y H Q=>∃i j,x=.int i/\y=.int j/\Q (g i j) H
def rU (g:Int->V):V->Hp->VK->Prop:=λx H Q=>∃i,x=.int i/\Q (g i) H
section
variable {X:Cx}{a b c:Expr}{ta tb tc:TE}{pos:Pos}
theorem vT (ha:PE X a ta)(hb:PE X b tb){pins:List (Addr×Obj)}{s:Shared}{σ:St}{H:Hp}{R:V->V->Hp->Prop}(I:Inv X pins σ H s)
  (h:ta σ H λx H1=>tb σ H1 λy H2=>R x y H2) {Q:Value->Shared->Prop} {f:Value->Value->Sem Value}
  (hf:∀v u s2 x y H2,Inv X pins σ H2 s2->RelV x v->RelV y u->R x y H2->wpAny (model X.prog X.w) X.A (f v u) Q X.xe s2) :
  wpAny (model X.prog X.w) X.A (eval a X.env) (λv s₁=>wpAny (model X.prog X.w) X.A (eval b X.env) (λu s₂=>wpAny (model X.prog X.w) X.A (f v u) Q X.xe s₂) X.xe s₁) X.xe s:=by
 refine cj (ha pins s σ H _ I h) λv s1 ⟨x,H1,I1,r1,q1⟩=>?_
 refine cj (hb pins s1 σ H1 _ I1 q1) λu s2 ⟨y,H2,I2,r2,q2⟩=>?_
 exact hf v u s2 x y H2 I2 r1 r2 q2
theorem M0 {op:Operator}{r:R2}(ho:eR X (binaryOp op) r)(ha:PE X a ta)(hb:PE X b tb):PE X (.BinOp a op b pos) (FO r ta tb):=by
 intro pins s σ H Q I h
 exact wpAny_BinOp (vT ha hb I h λv u s2 x y H2 I2 rx ry q=>ho pins s2 σ H2 x y v u Q I2 rx ry q)
theorem ztp {op:UnaryOp}{r:V->Hp->VK->Prop}(ho:Ej X (unaryOp op) r)(ha:PE X a ta):PE X (.UnaryOp op a pos) (UW r ta):=by
 intro pins s σ H Q I h
 exact UnaryOp_ (cj (ha pins s σ H _ I h) λv s1 ⟨x,H1,I1,r1,q1⟩=>ho pins s1 σ H1 x v Q I1 r1 q1)
theorem BS {f:Value->Value->Sem Value}{C:Int->Int->Prop}{g:Int->Int->Int}
  (rule:∀(i j:Int) (t u:Tok) (s:Shared) (Q:Value->Shared->Prop) (E:Value->Shared->Prop),C i j->Q (.int (g i j) s.toks) { s with toks:=s.toks+1 }->wpAny (model X.prog X.w) X.A (f (.int i t) (.int j u)) Q E s) :
  eR X f (rI C λi j=>.int (g i j)):=by
 intro pins s σ H x y v u Q I rx ry h
 obtain⟨i,j,rfl,rfl,hc,q⟩:=h
 obtain⟨t,rfl⟩:=rx
 obtain⟨t',rfl⟩:=ry
 exact rule i j t t' s _ _ hc ⟨.int (g i j),H,I.tok _,⟨_,rfl⟩,q⟩
theorem Dy {f:Value->Value->Sem Value}{g:Int->Int->Int}
  (rule:∀(i j:Int) (t u:Tok) (s:Shared) (Q:Value->Shared->Prop) (E:Value->Shared->Prop),Q (.int (g i j) s.toks) { s with toks:=s.toks+1 }->wpAny (model X.prog X.w) X.A (f (.int i t) (.int j u)) Q E s) :
  eR X f (mF λi j=>.int (g i j)):=by
 intro pins s σ H x y v u Q I rx ry h
 obtain⟨i,j,rfl,rfl,q⟩:=h
 obtain⟨t,rfl⟩:=rx
 obtain⟨t',rfl⟩:=ry
 exact rule i j t t' s _ _ ⟨.int (g i j),H,I.tok _,⟨_,rfl⟩,q⟩
theorem sC {f:Value->Value->Sem Value}{g:Int->Int->Bool}
  (rule:∀(i j:Int) (t u:Tok) (s:Shared) (Q:Value->Shared->Prop) (E:Value->Shared->Prop),Q (.bool (g i j)) s->wpAny (model X.prog X.w) X.A (f (.int i t) (.int j u)) Q E s) :
  eR X f (mF λi j=>.bl (g i j)):=by
 intro pins s σ H x y v u Q I rx ry h
 obtain⟨i,j,rfl,rfl,q⟩:=h
 obtain⟨t,rfl⟩:=rx
 obtain⟨t',rfl⟩:=ry
 exact rule i j t t' s _ _ ⟨.bl (g i j),H,I,rfl,q⟩
def qO (i j:Int):Prop:=0<=j/\j<=1000000/\i.natAbs<2 ^ 64
def uF (i j:Int):Prop:=(-(2 ^ 64)<i/\i<2 ^ 64)\/(-(2 ^ 64)<j/\j<2 ^ 64)
theorem uF.ok {i j:Int}(h:uF i j):IntMulOk i j:=by
 rcases h with⟨h1,h2⟩|⟨h1,h2⟩
 ·exact .of_left (intBits_le_64 h1 h2)
 ·exact .of_right (intBits_le_64 h1 h2)
theorem V9 (k:Nat):(0:Int)<=2 ^ k:=by
 rw[two_pow_cast]
 exact Int.natCast_nonneg _
theorem ZP:eR X (binaryOp .Add) (mF λi j=>.int (i+j)):=Dy λ_ _ _ _ _ _ _ q=>add_int q
theorem MJ:eR X (binaryOp .Sub) (mF λi j=>.int (i-j)):=Dy λ_ _ _ _ _ _ _ q=>sub_int q
theorem xy:eR X (binaryOp .Mod) (rI (λ_ j=>j≠0) λi j=>.int (i.fmod j)):=BS λ_ _ _ _ _ _ _ hc q=>mod_int' hc q
theorem QN:eR X (binaryOp .Pow) (rI qO λi j=>.int (i ^ j.toNat)):=BS λ_ _ _ _ _ _ _ hc q=>pow_int_small hc.1 hc.2.1 hc.2.2 q
theorem ZQ:eR X (binaryOp .LShift) (rI qO λi j=>.int (i * 2 ^ j.toNat)):=BS λ_ _ _ _ _ _ _ hc q=>lshift_int_small hc.1 hc.2.1 hc.2.2 q
theorem QO:eR X (binaryOp .RShift) (rI (λ_ j=>0<=j) λi j=>.int (i / 2 ^ j.toNat)):=BS λi j _ _ _ _ _ hc q =>
 rshift_int hc (by rw[fv i (V9 _)]; exact q)
theorem U1 {f:Value->Sem Value}{g:Int->Int}
  (rule:∀(i:Int) (t:Tok) (s:Shared) (Q:Value->Shared->Prop) (E:Value->Shared->Prop),Q (.int (g i) s.toks) { s with toks:=s.toks+1 }->wpAny (model X.prog X.w) X.A (f (.int i t)) Q E s) :
  Ej X f (rU λi=>.int (g i)):=by
 intro pins s σ H x v Q I rx h
 obtain⟨i,rfl,q⟩:=h
 obtain⟨t,rfl⟩:=rx
 exact rule i t s _ _ ⟨.int (g i),H,I.tok _,⟨_,rfl⟩,q⟩
theorem ZR:Ej X (unaryOp .USub) (rU λi=>.int (-i)):=U1 λ_ _ _ _ _ q=>neg_int q
end
section
variable {X:Cx}{a b c:Expr}{ta tb tc:TE}{pos:Pos}
theorem QP {pins:List (Addr×Obj)}{σ:St}{H:Hp}{s:Shared}{Q:VK}{k k':Bool}(I:Inv X pins σ H s)(q:Q (.bl k) H)(e:k=k'):EP X pins σ Q (.bool k') s:=by
 subst e
 exact⟨.bl k,H,I,rfl,q⟩
theorem uB:eR X (compareOp .Lt) (mF λi j=>.bl (decide (i<j))):=sC λ_ _ _ _ _ _ _ q=>lt_int q
theorem ztq:eR X (compareOp .LtE) (mF λi j=>.bl (decide (i<=j))):=sC λ_ _ _ _ _ _ _ q=>le_int q
theorem Cj:eR X (compareOp .Gt) (mF λi j=>.bl (decide (j<i))):=sC λ_ _ _ _ _ _ _ q=>gt_int q
theorem Q9:eR X (compareOp .GtE) (mF λi j=>.bl (decide (j<=i))):=sC λ_ _ _ _ _ _ _ q=>ge_int q
theorem ZS:eR X (compareOp .Is) (λx y H Q=>y=.non/\Q (.bl (decide (x=.non))) H):=by
 intro pins s σ H x y v u Q I rx ry h
 obtain⟨rfl,q⟩:=h
 cases ry
 refine is_none_gen (QP I q ?_)
 cases x <;> first
  |(cases rx; rfl)
  |(obtain⟨t,rfl⟩:=rx; rfl)
theorem eR.or {f:Value->Value->Sem Value}{r r':R2}(h:eR X f r)(h':eR X f r'):eR X f (λx y H Q=>r x y H Q\/r' x y H Q):=by
 intro pins s σ H x y v u Q I rx ry q
 rcases q with q|q
 ·exact h pins s σ H x y v u Q I rx ry q
 ·exact h' pins s σ H x y v u Q I rx ry q
theorem bB (b:Expr){op:CmpOp}(h:op≠.In:=by decide)(h2:op≠.NotIn:=by decide):behindInMarks op b=false:=by
 have e1:(op == CmpOp.In)=false:=by cases op <;> first|rfl|exact absurd rfl h
 have e2:(op == CmpOp.NotIn)=false:=by cases op <;> first|rfl|exact absurd rfl h2
 cases b <;> simp[behindInMarks,e1,e2]
theorem X7 {op:CmpOp}{r:R2}(ho:eR X (compareOp op) r)(ha:PE X a ta)(hb:PE X b tb)(hm:behindInMarks op b=false):PE X (.Compare a [op] [b] pos) (FO r ta tb):=by
 intro pins s σ H Q I h
 exact wpAny_Compare1 (vT ha hb I h λv u s2 x y H2 I2 rx ry q=>ho pins s2 σ H2 x y v u Q I2 rx ry q) hm
def DU (t:TE):TT:=λσ H Q=>t σ H λx H'=>∃k,x=.bl k/\Q k H'
theorem X8 {op:CmpOp}{r:R2}(ho:eR X (compareOp op) r)(ha:PE X a ta)(hb:PE X b tb)(hm:behindInMarks op b=false):PT X (.Compare a [op] [b] pos) (DU (FO r ta tb)):=by
 intro pins s σ H Q I h
 refine wpAny_isTrue_Compare1 (cj (ha pins s σ H _ I h) λv s1 ⟨x,H1,I1,r1,q1⟩=>cj (hb pins s1 σ H1 _ I1 q1) λu s2 ⟨y,H2,I2,r2,q2⟩ =>
  cj (ho pins s2 σ H2 x y v u _ I2 r1 r2 q2) λc s3 ⟨z,H3,I3,r3,k,e,q3⟩=>?_) hm
 subst e
 cases r3
 exact wpAny_truthy_bool ⟨H3,I3,q3⟩
theorem hX:(sizeLine:Nat)<2 ^ 63:=by rw[sizeLine_eq]; decide
theorem Wa:eR X (binaryOp .Add) (λx y H Q=>∃i j,x=.str i/\y=.str j/\i.length+j.length<=sizeLine/\Q (.str (i++j)) H):=by
 intro pins s σ H x y v u Q I rx ry h
 obtain⟨i,j,rfl,rfl,hz,q⟩:=h
 obtain⟨t,rfl⟩:=rx
 obtain⟨t',rfl⟩:=ry
 exact add_str (λt' tk=>⟨.str (i++j),H,I.tok _,⟨_,rfl⟩,q⟩) hz
theorem vals1 {x:V}{us:List Value}(r:bA [x] us):∃u,us=[u]/\RelV x u:=by
 cases r with
 |cons r1 r2=>cases r2; exact⟨_,rfl,r1⟩
theorem vals2 {x y:V}{us:List Value}(r:bA [x,y] us):∃u w',us=[u,w']/\RelV x u/\RelV y w':=by
 cases r with
 |cons r1 r2 =>
  cases r2 with
  |cons r3 r4=>cases r4; exact⟨_,_,rfl,r1,r3⟩
theorem WV:dB X (.builtin "abs") (λxs H Q=>∃i,xs=[.int i]/\Q (.int (if i<0 then -i else i)) H):=by
 intro pins s σ H xs us Q I r h
 obtain⟨i,rfl,q⟩:=h
 obtain⟨u,rfl,t,rfl⟩:=vals1 r
 exact call_abs_int λu tk=>⟨.int (if i<0 then -i else i),H,I.tok _,⟨_,rfl⟩,q⟩
theorem VA:dB X (.type "str") (λxs H Q=>∃i,xs=[.int i]/\i.natAbs.log2<1920/\Q (.str (toString i)) H):=by
 intro pins s σ H xs us Q I r h
 obtain⟨i,rfl,hz,q⟩:=h
 obtain⟨u,rfl,t,rfl⟩:=vals1 r
 exact PySem.P.str_of_int hz ⟨.str _,H,I.tok _,⟨_,rfl⟩,q⟩
end
end L2
namespace L2
open PySem PySem.Spec PyProof.Rows
structure mU (h:Heap)(x dx C:Addr)(mA:Str->Option Value):Prop where
 obj:h.get? x=some (cH C dx)
 ns:h.Ns1 dx mA
 ne:dx≠x
theorem Ww {h:Heap}{dx:Addr}{mA:Str->Option Value}(n:h.Ns1 dx mA):∃od,h.get? dx=some od/\∀name,gE name od=some (mA name):=by
 obtain⟨o,es,ep,ho,hd,hk,_,hm⟩:=n
 refine⟨o,ho,λname=>?_⟩
 have e:=hm name
 unfold nsFind findBy at e
 rw[← Array.find?_toList]at e
 unfold gE
 rw[hd]
 dsimp only
 split
 ·rename_i y q
  rw[q]at e
  exact congrArg some e
 ·rename_i q
  rw[q]at e
  have a:es.toList.any (·.refKey)=false:=by
   rw[List.any_eq_false]
   intro y hy
   obtain⟨z,t,Io⟩:=hk y (Array.mem_toList_iff.mp hy)
   simp[DictEntry.refKey,Io]
  have a':¬es.toList.any (·.refKey)=true:=by rw[a]; exact aH
  rw[if_neg a']
  exact congrArg some e
theorem mU.look {h:Heap}{x dx C:Addr}{mA:Str->Option Value}(I:mU h x dx C mA):∃od,PySem.W.InstAt h x (cH C dx) C (some od)/\∀name,gE name od=some (mA name) :=
 let⟨od,ho,hl⟩:=Ww I.ns
 ⟨od,⟨I.obj,rfl,rfl,ho⟩,hl⟩
section
variable {prog:Program}{w:World}{A:Around}{E:Value->Shared->Prop}{s:Shared}{K:ae}{x dx C f:Addr}{mA:Str->Option Value}{name:Str}{v:Value}
theorem X9 {expr:Bool}{Q:Value->Shared->Prop}(X:K.In s.heap)(I:mU s.heap x dx C mA)(hg:bX K C name=true)(hh:ck K C=true)
  (ha:aw K (.ref C) name=some none) (hv:mA name=some v) (IC:nt v=true) (h:Q v { s with toks:=s.toks+1 }) :
  wpAny (model prog w) A (getAttr (.ref x) name expr) Q E s:=by
 obtain⟨od,J,hl⟩:=I.look
 exact PySem.W.get_value X J (gP hg).1 (PySem.W.findObj_own hh ha rfl (by rw[hl,hv])) IC h
theorem Xa {pl:Sem Bool}{Q:Value×List Value->Shared->Prop}(X:K.In s.heap)(I:mU s.heap x dx C mA)(hg:bX K C name=true)
  (hf:aw K (.ref C) name=some (some (.ref f))) (ht:cK K (.ref f)=true) (hv:mA name=none) (h:Q (.ref f,[.ref x]) s) :
  wpAny (model prog w) A (getMethod (.ref x) name pl) Q E s:=by
 obtain⟨od,J,hl⟩:=I.look
 exact PySem.W.method_fn X J (gP hg).1 (gP hg).2 hf (beq_iff_eq.mp ht) (by show(gE name od).map (·.isSome)=some false; rw[hl,hv]; rfl) h
theorem Ya {ns:List Str}{Q:Unit->Shared->Prop}(X:K.In s.heap)(I:mU s.heap x dx C mA)
  (hs:aw K (.ref C) "__setattr__"=some (some (.builtin "object.__setattr__"))) (hp:cL K C=true) (ht:jD K C name=some none) (hh:ck K C=true)
  (hw:PySem.Within mA ns) (hsz:ns.length<=sizeLine)
  (h:∀h',mU h' x dx C (λy=>if y=name then some v else mA y)->eX dx s.heap h'->Q () { s with heap:=h',toks:=s.toks+2 }) :
  wpAny (model prog w) A (setAttr (.ref x) name v) Q E s:=by
 obtain⟨od,J,hl⟩:=I.look
 refine PySem.W.set_plain X J hs (PySem.W.osa_open (s:={ s with toks:=s.toks+1 }) (r:=none) X J hp ht λb=>?_)
 obtain⟨cd,hc,CN⟩:=PySem.W.any_some hh
 have hx:s.heap.get? x=some ⟨.ref C,some dx,.plain,#[]⟩:=I.obj
 refine wpAny_bind (wpAny_pure (wpAny_bind (wpAny_bind (wpAny_loadPart hx (wpAny_bind (PySem.W.Looks.here (s:={ s with toks:=s.toks+1 }) (PySem.W.looks_clsIn X hc) ?_))))))
 rw[CN]
 refine wpAny_pure (a:=some dx) (wpAny_bind (wpAny_pure (wpAny_bind ?_)))
 refine wpAny_nsSet1 (s:={ s with toks:=s.toks+1 }) I.ns λh' tK lV=>?_
 obtain⟨oD,esD,epD,Ts,Td,Tc⟩:=tK.count (PySem.Within.cons name v hw)
 refine wpAny_bind (wpAny_lookBehind Ts (by rw[Td]; exact pastItsLine_dict (bG Tc (by rw[aJ]; omega))) ?_)
 exact wpAny_pure (h _ ⟨(lV.2 _ (Ne.symm I.ne)).trans I.obj,tK,I.ne⟩ lV)
theorem Xb {R:Result->Shared->Prop}{vs:List Value}{kw:List (Str×Value)}(X:K.In s.heap)(hm:cI K C=true)
  (hi:aw K (.ref C) "__init__"=some (some (.ref f))) (hf:PySem.W.typeIn K (.ref f)=some (.type "function"))
  (h:codeAny (model prog w) (A.under (.builtin "type.__call__" ⟨.ref C::vs,kw⟩)) (.call (.ref f) ⟨.ref (s.heap.objs.size+1)::vs,kw⟩) (PySem.W.InitBack (s.heap.objs.size+1) R)
   { s with heap:=(s.heap.push bS).push (cH C s.heap.objs.size) }) :
  codeAny (model prog w) A (.call (.ref C) ⟨vs,kw⟩) R s:=by
 obtain⟨hh,g,d,t,os⟩:=s
 exact PySem.W.make_core (PySem.W.makes_of X hm) (PySem.W.looks_findIn X hi) (λself=>PySem.W.bind_fn X self hf) (.inl rfl) h
end
def gC (f:Str)(v:V):List (Str×V)->List (Str×V)
 |[]=>[(f,v)]
 |(g,x)::r=>if g=f then(g,v)::r else(g,x)::gC f v r
theorem OO (f g:Str)(v:V):∀fs:List (Str×V),(gC f v fs).lookup g=if g=f then some v else fs.lookup g
 |[]=>by
  show eL g [(f,v)]=_
  by_cases h:g=f
  ·have hb:(g == f)=true:=beq_iff_eq.mpr h
   simp only[eL,hb,if_pos h]
  ·have hb:(g == f)=false:=beq_eq_false_iff_ne.mpr h
   simp only[eL,hb,if_neg h]
 |(k,x)::r=>by
  have ih:=OO f g v r
  rw[show gC f v ((k,x)::r)=(if k=f then(k,v)::r else(k,x)::gC f v r)from rfl]
  by_cases hk:k=f
  ·rw[if_pos hk]
   by_cases h:g=k
   ·have hb:(g == k)=true:=beq_iff_eq.mpr h
    simp only[eL,hb,if_pos (h.trans hk)]
   ·have hb:(g == k)=false:=beq_eq_false_iff_ne.mpr h
    simp only[eL,hb,if_neg (λe:g=f=>h (e.trans hk.symm))]
  ·rw[if_neg hk]
   by_cases h:g=k
   ·have hb:(g == k)=true:=beq_iff_eq.mpr h
    simp only[eL,hb,if_neg (λe:g=f=>hk (h.symm.trans e))]
   ·have hb:(g == k)=false:=beq_eq_false_iff_ne.mpr h
    simp only[eL,hb]
    exact ih
theorem LO (f:Str)(v:V):∀fs:List (Str×V),f∈(gC f v fs).map (·.1)/\∀g,g∈fs.map (·.1)->g∈(gC f v fs).map (·.1)
 |[]=>⟨by simp[gC],λg h=>by simp at h⟩
 |(k,x)::r=>by
  obtain⟨i1,i2⟩:=LO f v r
  rw[show gC f v ((k,x)::r)=(if k=f then(k,v)::r else(k,x)::gC f v r)from rfl]
  by_cases hk:k=f
  ·rw[if_pos hk]
   subst hk
   exact⟨by simp,λg h=>by simpa using h⟩
  ·rw[if_neg hk]
   refine⟨?_,λg h=>?_⟩
   ·rw[aC]
    exact ai _ i1
   ·rw[aC]at h ⊢
    rcases aA.mp h with e|e
    ·exact aA.mpr (.inl e)
    ·exact ai _ (i2 g e)
theorem OP (f:Str)(v:V):∀fs:List (Str×V),(gC f v fs).length<=fs.length+1
 |[]=>by simp[gC]
 |(k,x)::r=>by
  have ih:=OP f v r
  rw[show gC f v ((k,x)::r)=(if k=f then(k,v)::r else(k,x)::gC f v r)from rfl]
  by_cases hk:k=f
  ·rw[if_pos hk,aJ,aJ]; omega
  ·rw[if_neg hk,aJ,aJ]; omega
theorem gU.some_of {v:V}{o:Option Value}(r:gU (some v) o):∃u,o=some u/\RelV v u:=by
 cases o with
 |none=>exact(show False from r).elim
 |some u=>exact⟨u,rfl,r⟩
theorem gU.none_of {o:Option Value}(r:gU none o):o=none:=by
 cases o with
 |none=>rfl
 |some u=>exact(show False from r).elim
theorem Wx {v:V}{u:Value}(r:RelV v u):nt u=true:=by
 cases v with
 |non=>cases(show u=Value.none from r); rfl
 |bl b=>cases(show u=Value.bool b from r); rfl
 |int i=>obtain⟨t,e⟩:=(show∃t,u=Value.int i t from r); cases e; rfl
 |str x=>obtain⟨t,e⟩:=(show∃t,u=Value.str x t from r); cases e; rfl
 |byt b=>obtain⟨t,e⟩:=(show∃t,u=Value.bytes b t from r); cases e; rfl
 |flt b=>obtain⟨t,e⟩:=(show∃t,u=Value.float b t from r); cases e; rfl
 |ref a=>cases(show u=Value.ref a from r); rfl
 |ty n=>cases(show u=Value.type n from r); rfl
section
variable {P:Program}{w:World}{H H':Hp}{h h':Heap}{a C dx:Addr}{fs Sy:List (Str×V)}
theorem Gp (hok:ir P w H h)(e:H a=some (.ins C dx fs)):∃mA,mU h a dx C mA/\(∀f,gU (fs.lookup f) (mA f))/\PySem.Within mA (fs.map (·.1))/\fs.length<=1000/\H dx=some (.own a):=by
 obtain⟨d,z,ne,ob,mA,n,r,q⟩:=(show cN P w H h a (.ins C dx fs)from hok a _ e)
 exact⟨mA,⟨ob,n,ne⟩,r,q,z,d⟩
end
structure iQ (K:ae)(C:Addr):Prop where
 pg:bX K C Str.empty=true
 hd:ck K C=true
 po:cL K C=true
 sa:aw K (.ref C) "__setattr__"=some (some (.builtin "object.__setattr__"))
theorem iQ.get {K:ae}{C:Addr}(c:iQ K C)(f:Str):bX K C f=true:=c.pg
def d8 (K:ae)(C:Addr)(f:Str):Prop:=aw K (.ref C) f=some none
theorem d8.taker {K:ae}{C:Addr}{f:Str}(n:d8 K C f):jD K C f=some none:=by
 unfold jD
 rw[show aw K (.ref C) f=some none from n]
 rfl
structure mT (K:ae)(C:Addr)(m:Str)(f:Addr):Prop where
 at_:aw K (.ref C) m=some (some (.ref f))
 fn:cK K (.ref f)=true
 kp:ao K (.ref f)=true
section
variable {X:Cx}{pins:List (Addr×Obj)}{σ:St}{H:Hp}{s:Shared}{a C dx:Addr}{fs:List (Str×V)}{f:Str}{v:V}{A:Around}{E:Value->Shared->Prop}
theorem Wb {b:Bool}{Q:Value->Shared->Prop}(I:Inv X pins σ H s)(e:H a=some (.ins C dx fs))(c:iQ X.K C)(n:d8 X.K C f)(l:fs.lookup f=some v)
  (h:∀u s',Inv X pins σ H s'->RelV v u->Q u s'):wpAny (model X.prog X.w) A (getAttr (.ref a) f b) Q E s:=by
 obtain⟨mA,O,r,_,_,_⟩:=Gp I.hok e
 obtain⟨u,hu,ru⟩:=gU.some_of (v:=v) (o:=mA f) (by rw[← l]; exact r f)
 exact X9 I.kIn O (c.get f) c.hd n hu (Wx ru) (h u _ (I.tok _) ru)
theorem LH {m:Str}{g:Addr}{pl:Sem Bool}{Q:Value×List Value->Shared->Prop}(I:Inv X pins σ H s)(e:H a=some (.ins C dx fs))(c:iQ X.K C)(k:mT X.K C m g)(l:fs.lookup m=none)
  (h:Q (.ref g,[.ref a]) s):wpAny (model X.prog X.w) A (getMethod (.ref a) m pl) Q E s:=by
 obtain⟨mA,O,r,_,_,_⟩:=Gp I.hok e
 have hn:mA m=none:=gU.none_of (by rw[← l]; exact r m)
 exact Xa I.kIn O (c.get m) k.at_ k.fn hn h
theorem Wc {y:V}{u:Value}{Q:Unit->Shared->Prop}(I:Inv X pins σ H s)(e:H a=some (.ins C dx fs))(c:iQ X.K C)(n:d8 X.K C f)(hl:fs.length<1000)(ry:RelV y u)
  (h:∀s',Inv X pins σ (cC H a (.ins C dx (gC f y fs))) s'->Q () s'):wpAny (model X.prog X.w) A (setAttr (.ref a) f u) Q E s:=by
 obtain⟨mA,O,r,wi,_,ho⟩:=Gp I.hok e
 have hz:(fs.map (·.1)).length<=sizeLine:=by rw[am,sizeLine_eq]; omega
 refine Ya I.kIn O c.sa c.po n.taker c.hd wi hz λh' O' sb=>h _ ?_
 have hd:∃o,h'.get? dx=some o:=let⟨o,_,_,e',_⟩:=O'.ns; ⟨o,e'⟩
 refine I.write (x:=a) (e:=dx) (by rw[e]; exact True.intro) (.inr ho) (λb q hb z=>(sb.2 b hb).trans z) hd ?_
 refine⟨by rw[yp O.ne]; exact ho,?_,O.ne,O'.obj,_,O'.ns,λg=>?_,λg hg=>?_⟩
 ·have:=OP f y fs; omega
 ·show gU ((gC f y fs).lookup g) (if g=f then some u else mA g)
  rw[OO]
  by_cases q:g=f
  ·rw[if_pos q,if_pos q]; exact ry
  ·rw[if_neg q,if_neg q]; exact r g
 ·by_cases q:g=f
  ·rw[q]; exact(LO f y fs).1
  ·refine(LO f y fs).2 g (wi g λz=>hg ?_)
   show(if g=f then some u else mA g)=none
   rw[if_neg q]; exact z
theorem Inv.made (I:Inv X pins σ H s):Inv X pins σ (cC (cC H s.heap.objs.size (.own (s.heap.objs.size+1))) (s.heap.objs.size+1) (.ins C s.heap.objs.size []))
  { s with heap:=(s.heap.push bS).push (cH C s.heap.objs.size) }:=by
 have e1:(s.heap.push bS).get? s.heap.objs.size=some bS:=bn s.heap rfl
 have e2:((s.heap.push bS).push (cH C s.heap.objs.size)).get? (s.heap.objs.size+1)=some (cH C s.heap.objs.size):=by
  have:=bn (s.heap.push bS) (o:=cH C s.heap.objs.size) rfl
  rwa[ed]at this
 have e3:(s.heap.push bS).Ns s.heap.objs.size (λ_=>none):=⟨bS,#[],_,e1,rfl,(λe he=>absurd he (by simp)),λ_=>rfl⟩
 have I1:=I.laid (a:=s.heap.objs.size) (o:=.own (s.heap.objs.size+1)) (h':=s.heap.push bS) (t':=s.toks) (λb u q=>ay _ q) (aE _) ⟨_,e1⟩
 refine I1.laid (a:=s.heap.objs.size+1) (o:=.ins C s.heap.objs.size []) (t':=s.toks) (λb u q=>ay _ q) (Nat.le_of_eq (ed _ _)) ?_
 have ne:s.heap.objs.size≠s.heap.objs.size+1:=aV (gc _)
 refine⟨by rw[yp ne,yu],bW _,ne,e2,λ_=>none,(Heap.Ns1.of_empty e3).at λo q=>ay _ q,λ_=>True.intro,λy hy=>absurd rfl hy⟩
theorem Yb {prog:Program}{w:World}{env:Env}{e:Expr}{f:Str}{pos:Pos}{s:Shared}{Q:Value->Shared->Prop}(hb:attributeBase e f env (eval e env)=eval e env)
  (h:wpAny (model prog w) A (eval e env) (λo s₁=>wpAny (model prog w) A (getAttr o f true) Q E s₁) E s):wpAny (model prog w) A (eval (.Attribute e f pos) env) Q E s :=
 Attribute_any_ h (by rw[arm_eval_Attribute,hb])
end
def Lf (K:ae)(ta:TE)(f:Str):TE:=λσ H Q=>ta σ H λx H1=>∃a C dx fs v,x=.ref a/\H1 a=some (.ins C dx fs)/\iQ K C/\d8 K C f/\fs.lookup f=some v/\Q v H1
def Kw (K:ae)(ta tv:TE)(f:Str):TS:=λD σ H=>tv σ H λy H1=>ta σ H1 λx H2=>∃a C dx fs,x=.ref a/\H2 a=some (.ins C dx fs)/\iQ K C/\d8 K C f/\fs.length<1000 /\
 D.nx σ (cC H2 a (.ins C dx (gC f y fs)))
section
variable {X:Cx}{o e value:Expr}{f:Str}{pos pos' eD:Pos}{ta tv:TE}
theorem Zl (he:PE X e ta)(hb:attributeBase e f X.env (eval e X.env)=eval e X.env):PE X (.Attribute e f pos) (Lf X.K ta f):=by
 intro pins s σ H Q I h
 refine Yb hb (cj (he pins s σ H _ I h) λu s1 ⟨x,H1,I1,rx,a,C,dx,fs,v,ex,ea,c,n,l,q⟩=>?_)
 subst ex
 obtain rfl:u=Value.ref a:=rx
 exact Wb I1 ea c n l λu' s2 I2 ru=>⟨v,H1,I2,ru,q⟩
theorem Zm (ha:PE X o ta)(hv:PE X value tv)(hs:swapsWith value (some (.Attribute o f pos')) pos.line X.env=pure false):PS X (.Assign [.Attribute o f pos'] value pos) (Kw X.K ta tv f):=by
 intro pins s σ H D I h
 refine plainObj_wpAny_Assign_Attribute (cj (hv pins s σ H _ I h) λu s1 ⟨y,H1,I1,ry,q⟩=>cj (ha pins s1 σ H1 _ I1 q) λov s2 ⟨x,H2,I2,rx,a,C,dx,fs,ex,ea,c,n,l,q2⟩=>?_) hs
 subst ex
 obtain rfl:ov=Value.ref a:=rx
 exact Wc I2 ea c n l ry λs3 I3=>⟨σ,_,I3,q2⟩
def Bj:V->V->Hp->VK->Prop:=λx y H Q=>∃i j,x=.int i/\y=.int j/\Q (.int (i+j)) H
theorem zo5 {pl:Sem Bool}{m:Str}{cO:Pos}{args:List Expr}{pins:List (Addr×Obj)}{s:Shared}{σ:St}{H:Hp}{Q:Value->Shared->Prop}{te:TE}(he:PE X e te)(I:Inv X pins σ H s)
  (h:te σ H λx H1=>∃a C dx fs g,x=.ref a/\H1 a=some (.ins C dx fs)/\iQ X.K C/\mT X.K C m g/\fs.lookup m=none /\
   ∀s1,Inv X pins σ H1 s1->wpAny (model X.prog X.w) X.A (callWith pos (.ref g) [.ref a] (backTo pos (starEach args X.env)) (backToKw pos (keywordEach [] X.env))) Q X.xe s1)
  (ht:eval (.Call (.Attribute e m cO) args [] pos) X.env=(do
   let ov ← eval e X.env
   standAt cO.atName
   let(f,first) ← holding [ov] (getMethod ov m pl)
   callWith pos f first (backTo pos (starEach args X.env)) (backToKw pos (keywordEach [] X.env)))) :
  wpAny (model X.prog X.w) X.A (eval (.Call (.Attribute e m cO) args [] pos) X.env) Q X.xe s:=by
 refine el (pl:=pl) (cj (he pins s σ H _ I h) λu s1 ⟨x,H1,I1,rx,a,C,dx,fs,g,ex,ea,c,k,l,q⟩=>?_) ht
 subst ex
 obtain rfl:u=Value.ref a:=rx
 exact LH I1 ea c k l (q s1 I1)
end
section
variable {X:Cx}{pins:List (Addr×Obj)}{σ:St}{H:Hp}{s:Shared}{A:Around}{E:Value->Shared->Prop}{Q:Value->Shared->Prop}{c:Value}{b:Bool}
inductive hJ (K:ae)(H:Hp):V->Value->Prop where
 |non:hJ K H .non (.type "NoneType")
 |bl (x:Bool):hJ K H (.bl x) (.type "bool")
 |int (i:Int):hJ K H (.int i) (.type "int")
 |str (x:Str):hJ K H (.str x) (.type "str")
 |flt (x:UInt64):hJ K H (.flt x) (.type "float")
 |lst {a:Addr} {xs:List V} (e:H a=some (.lst xs)):hJ K H (.ref a) (.type "list")
 |frz {a:Addr} {o:Obj} {xs:List V} (e:H a=some (.frz o (.lst xs))):hJ K H (.ref a) (.type "list")
 |tup {a:Addr} {xs:List V} (e:H a=some (.tup xs)):hJ K H (.ref a) (.type "tuple")
 |dK {a:Addr} {kvs:List (Key×V)} (e:H a=some (.dK kvs)):hJ K H (.ref a) (.type "dict")
 |dT {a:Addr} {kvs:List (List Key×V)} (e:H a=some (.dT kvs)):hJ K H (.ref a) (.type "dict")
 |ins {a C dx:Addr} {fs:List (Str×V)} (e:H a=some (.ins C dx fs)) (cl:iQ K C) (ha:aw K (.ref C) "__class__"=some (some (.builtin "object.__class__")))
   (hn:cM K (.builtin "object.__class__") "__get__"=some (some (.builtin "getset_descriptor.__get__"))) (NQ:jE K (.builtin "object.__class__")=some true)
   (hm:dS K C (.type "object")=some true):hJ K H (.ref a) (.ref C)
theorem O8 {x:V}{u t:Value}(I:Inv X pins σ H s)(rx:RelV x u)(ty:hJ X.K H x t)(e:bv X.K t c=some b)(h:∀tk,Q (.bool b) { s with toks:=tk }) :
  wpAny (model X.prog X.w) A (call (.builtin "isinstance") [u,c]) Q E s:=by
 cases ty with
 |non=>cases(show u=Value.none from rx); exact bK PySem.W.kitx_none I.kIn True.intro e (λz=>nomatch z) h
 |bl y=>cases(show u=Value.bool y from rx); exact bK PySem.W.kitx_bool I.kIn True.intro e (λz=>nomatch z) h
 |int i=>obtain⟨t,q⟩:=(show∃t,u=Value.int i t from rx); cases q; exact bK PySem.W.kitx_int I.kIn True.intro e (λz=>nomatch z) h
 |str y=>obtain⟨t,q⟩:=(show∃t,u=Value.str y t from rx); cases q; exact bK PySem.W.kitx_str I.kIn True.intro e (λz=>nomatch z) h
 |flt y=>obtain⟨t,q⟩:=(show∃t,u=Value.float y t from rx); cases q; exact bK PySem.W.kitx_float I.kIn True.intro e (λz=>nomatch z) h
 |@lst a xs ea =>
  cases(show u=Value.ref a from rx)
  obtain⟨_,_,n,_,h1⟩:=(show cN X.prog X.w H s.heap a (.lst xs)from I.hok a _ ea)
  exact bK ip I.kIn ⟨_,h1,rfl⟩ e (λz=>nomatch z) h
 |@frz a ob xs ea =>
  cases(show u=Value.ref a from rx)
  obtain⟨_,_,_,n,_,h1⟩:=(show cN X.prog X.w H s.heap a (.frz ob (.lst xs))from I.hok a _ ea)
  exact bK ip I.kIn ⟨_,h1,rfl⟩ e (λz=>nomatch z) h
 |@tup a xs ea =>
  cases(show u=Value.ref a from rx)
  obtain⟨_,_,_,p⟩:=(show cN X.prog X.w H s.heap a (.tup xs)from I.hok a _ ea)
  obtain⟨o,h1,h2,_⟩:=p
  exact bK PySem.W.kitx_tuple I.kIn ⟨o,h1,h2⟩ e (λz=>nomatch z) h
 |@dK a kvs ea =>
  cases(show u=Value.ref a from rx)
  obtain⟨_,_,vs,_,p⟩:=(show cN X.prog X.w H s.heap a (.dK kvs)from I.hok a _ ea)
  obtain⟨o,es,ep,h1,h2,_⟩:=p
  exact bK mL I.kIn ⟨o,h1,h2.1⟩ e (λz=>nomatch z) h
 |@dT a kvs ea =>
  cases(show u=Value.ref a from rx)
  obtain⟨_,_,xs,_,o,es,ep,h1,h2,_⟩:=(show cN X.prog X.w H s.heap a (.dT kvs)from I.hok a _ ea)
  exact bK mL I.kIn ⟨o,h1,h2.1⟩ e (λz=>nomatch z) h
 |@ins a C dx fs ea cl ha hn NQ hm =>
  cases(show u=Value.ref a from rx)
  obtain⟨mA,O,_⟩:=Gp I.hok ea
  obtain⟨od,J,_⟩:=O.look
  exact bK (PySem.W.kitx_own (cl.get _) cl.hd ha hn NQ hm) I.kIn J e (λz=>nomatch z) h
end
end L2
namespace L2
open PySem PySem.Spec PyProof.Rows
structure dz (k:Nat)(A:Around):Prop where
 hd:A.handled=none
 dp:A.depth+3 * k+5<recursionLimit
 un:A.units+16 * k+200<cLine
theorem dz.mono {j k:Nat}{A:Around}(r:dz k A)(h:j<=k):dz j A:=⟨r.hd,by have:=r.dp; omega,by have:=r.un; omega⟩
theorem dz.deeper {k:Nat}{A:Around}(r:dz (k+1) A)(env:Env):dz k (A.deeper env) :=
 ⟨r.hd,by have:=r.dp; show A.depth+1+3 * k+5<_; omega,by have:=r.un; show A.units+3+16 * k+200<_; omega⟩
theorem Wd {A:Around}{C:Addr}{us:List Value}{kw:List (Str×Value)}:(A.under (.builtin "type.__call__" ⟨.ref C::us,kw⟩)).depth=A.depth+1:=by
 first|rfl|simp[Around.under,Code.weight,Code.isCreation,Code.isGuard,Code.isCaller,Code.frames,Code.isFrame,guardIds]
theorem We {A:Around}{C:Addr}{us:List Value}{kw:List (Str×Value)}:(A.under (.builtin "type.__call__" ⟨.ref C::us,kw⟩)).units=A.units+1:=by
 first|rfl|simp[Around.under,Code.cUnits,Code.frames,Code.isFrame]
theorem dz.make {k:Nat}{A:Around}(r:dz (k+1) A)(C:Addr)(us:List Value)(kw:List (Str×Value)):dz k (A.under (.builtin "type.__call__" ⟨.ref C::us,kw⟩)) :=
 ⟨r.hd,by have:=r.dp; rw[Wd]; omega,by have:=r.un; rw[We]; omega⟩
theorem dz.depth {k:Nat}{A:Around}(r:dz k A):A.depth<recursionLimit:=by have:=r.dp; omega
theorem dz.units {k:Nat}{A:Around}(r:dz k A):A.units+64<cLine:=by have:=r.un; omega
def DS:TA:=λ_ H Q=>Q [] H
def DM (ta:TE)(tr:TA):TA:=λσ H Q=>ta σ H λx H1=>tr σ H1 λxs H2=>Q (x::xs) H2
section
variable {X:Cx}{e:Expr}{es:List Expr}{te:TE}{t:TA}{pos:Pos}
theorem qz:PA X [] DS:=λ_ _ _ _ H Q I h=>Calls.spliced_nil ⟨[],H,I,.nil,h⟩
theorem v7 (ha:PE X e te)(hr:PA X es t)(hs:starEach (e::es) X.env=(false,eval e X.env)::starEach es X.env:=by rfl):PA X (e::es) (DM te t):=by
 intro pos pins s σ H Q I h
 rw[hs]
 show wpAny _ _ (spliced ((false,eval e X.env)::backTo pos (starEach es X.env))) _ _ s
 refine Calls.spliced_cons (cj (ha pins s σ H _ I h) λu s1 ⟨x,H1,I1,r1,q1⟩=>?_)
 exact cj (hr pos pins s1 σ H1 _ I1 q1) λus s2 ⟨xs,H2,I2,r2,q2⟩=>⟨x::xs,H2,I2,.cons r1 r2,q2⟩
def Lp (t:TA):TE:=λσ H Q=>t σ H λxs H1=>xs.length<=sizeLine/\∀p,H1 p=none->Q (.ref p) (cC H1 p (.tup xs))
def Li (t:TA):TE:=λσ H Q=>t σ H λxs H1=>xs.length<=sizeLine/\∀p,H1 p=none->Q (.ref p) (cC H1 p (.lst xs))
theorem Zn {x1}(h:PA X es t):PE X (.Tuple es x1 pos) (Lp t):=by
 intro pins s σ H Q I hq
 refine wpAny_Tuple_spliced (cj (h pos pins s σ H _ I hq) λus s1 ⟨xs,H1,I1,r,z,q⟩=>⟨by rw[← r.length]; exact z,?_⟩)
 have hf:H1 s1.heap.objs.size=none:=I1.hok.fresh (aE _)
 refine⟨.ref s1.heap.objs.size,cC H1 s1.heap.objs.size (.tup xs),I1.laid (t':=s1.toks) (λb u e=>ay _ e) (aE _) ?_,rfl,q _ hf⟩
 exact⟨z,us,r,⟨_,bn _ rfl,rfl,_,rfl⟩⟩
theorem Zo (h:PA X es t):PE X (.List es pos) (Li t):=by
 intro pins s σ H Q I hq
 refine wpAny_List_spliced (cj (h pos pins s σ H _ I hq) λus s1 ⟨xs,H1,I1,r,z,q⟩=>⟨by rw[← r.length]; exact z,?_⟩)
 have hf:H1 s1.heap.objs.size=none:=I1.hok.fresh (aE _)
 refine⟨.ref s1.heap.objs.size,cC H1 s1.heap.objs.size (.lst xs),I1.laid (t':=s1.toks) (λb u e=>ay _ e) (aE _) ?_,rfl,q _ hf⟩
 exact⟨z,us,0,r,bn _ rfl⟩
end
abbrev Sp:=List V->Hp->VK->XK->Prop
abbrev oH:=List Env->Hp->Shared->XK->Value->Shared->Prop
structure mM (P:Program)(w:World)(K:ae)(mg:Str->Option Value)(base:Heap)(A:Around)(outer:List Env)(s:Shared)(H:Hp):Prop where
 frames:A.frames=some outer
 mod:Mod K mg base
 bs:∀b o,base.get? b=some o->s.heap.get? b=some o/\H b=none
 bsz:base.objs.size<=s.heap.objs.size
 funs:s.heap.FunFrames base outer
 frf:∀b∈pd outer,H b=none
 hok:ir P w H s.heap
 bare:AllBare s.gens
def CE (outer:List Env)(P:Program)(w:World)(H:Hp)(s:Shared)(Q:VK)(u:Value)(s':Shared):Prop :=
 ∃v H',s'.os=s.os/\AllBare s'.gens/\Un (pd outer) [] H H' s.heap s'.heap/\ir P w H' s'.heap/\RelV v u/\Q v H'
def CR (CX:oH)(outer:List Env)(P:Program)(w:World)(H:Hp)(s:Shared)(Q:VK)(E:XK)(r:Result)(s':Shared):Prop :=
 match r with
 |.ok (.ret u)=>CE outer P w H s Q u s'
 |.ok _=>False
 |.error e=>CX outer H s E e s'
structure bM (P:Program)(w:World)(K:ae)(mg:Str->Option Value)(base:Heap)(CX:oH)(k:Nat)(f:Addr)(fd:FuncData)(ps:List Str)(sp:Sp):Prop where
 len:∀vs H Q E,sp vs H Q E->vs.length=ps.length
 run:∀(A:Around) (outer:List Env) (s:Shared) (H:Hp) (args:Args) (us:List Value) (vs:List V) (Q:VK) (E:XK),dz k A->mM P w K mg base A outer s H->BindsTo s fd args (ps.zip us)->bA vs us->sp vs H Q E ->
  codeAny (model P w) A (.call (.ref f) args) (CR CX outer P w H s Q E) s
theorem mM.make {P:Program}{w:World}{K:ae}{mg:Str->Option Value}{base:Heap}{A:Around}{outer:List Env}{s:Shared}{H:Hp}(e:mM P w K mg base A outer s H)(C:Addr)(us:List Value)(kw:List (Str×Value)) :
  mM P w K mg base (A.under (.builtin "type.__call__" ⟨.ref C::us,kw⟩)) outer s H:=⟨by first|exact e.frames|(simpa[Around.under,Code.envs,Code.isFrame,pushEnvs]using e.frames),e.mod,e.bs,e.bsz,e.funs,e.frf,e.hok,e.bare⟩
section
variable {X:Cx}{pins:List (Addr×Obj)}{σ:St}{H:Hp}{s s':Shared}
theorem Inv.env0 (I:Inv X pins σ H s):mM X.prog X.w X.K X.mg X.base X.A X.stack s H :=
 ⟨I.ok.frames,I.ok.mod,I.bs,bG I.ok.bsz I.sz,I.stack,I.stkFree,I.hok,I.bare⟩
theorem Inv.after {Q:VK}{u:Value}(I:Inv X pins σ H s)(h:CE X.stack X.prog X.w H s Q u s'):EP X pins σ Q u s':=by
 obtain⟨v,H',os,bare,un,hok,r,q⟩:=h
 obtain⟨hh,g,d,t,Uy⟩:=s'
 obtain rfl:Uy=s.os:=os
 exact⟨v,H',I.call (h':=hh) (g':=g) (d':=d) (t':=t) (ch:=[]) un hok bare (λb z=>absurd z (by simp)),r,q⟩
end
def tZ (sp:Sp)(gz:List V)(E:XK)(t:TA):TE:=λσ H Q=>t σ H λvs H1=>sp (vs++gz) H1 Q E
def t4 (C:Addr)(m:Str)(sp:Sp)(gz:List V)(E:XK)(ta:TE)(t:TA):TE:=λσ H Q=>ta σ H λx H1=>∃a dx fs,x=.ref a/\H1 a=some (.ins C dx fs)/\fs.lookup m=none /\
 t σ H1 λvs H2=>sp (x::(vs++gz)) H2 Q E
def DQ (C:Addr)(sp:Sp)(gz:List V)(E:XK)(t:TA):TE:=λσ H Q=>t σ H λvs H1=>∀x dx,H1 x=none->H1 dx=none->dx≠x ->
 sp (.ref x::(vs++gz)) (cC (cC H1 dx (.own x)) x (.ins C dx [])) (λv H2=>v=.non/\Q (.ref x) H2) E
def Binds (K:ae)(fd:FuncData)(ps:List Str)(ds:List Value):Prop :=
 ∀(s:Shared) (us:List Value),K.In s.heap->(us++ds).length=ps.length->BindsTo s fd ⟨us,[]⟩ (ps.zip (us++ds))
theorem Binds.all {K:ae}{fd:FuncData}{ps:List Str}(h:∀us:List Value,us.length=ps.length->bindArgs fd ⟨us,[]⟩=pure (ps.zip us)):Binds K fd ps []:=λs us _ hl=>by
 rw[bC]at hl ⊢
 exact .of_eq (h us hl)
def gJ (CX:oH)(X:Cx)(E:XK):Prop:=∀(pins:List (Addr×Obj)) (σ:St) (H:Hp) (s:Shared) (e:Value) (s':Shared),Inv X pins σ H s->CX X.stack H s E e s'->X.xe e s'
section
variable {X:Cx}{CX:oH}{k:Nat}{f C:Addr}{fd:FuncData}{ps:List Str}{sp:Sp}{gz:List V}{ds:List Value}{E:XK}{x m:Str}{p pos cO:Pos}{e o:Expr}{es:List Expr}{ta:TE}{t:TA}
theorem GJ {pins:List (Addr×Obj)}{σ:St}{H:Hp}{s:Shared}{Q:VK}{us:List Value}{vs:List V}(F:bM X.prog X.w X.K X.mg X.base CX k f fd ps sp)(hr:dz k X.A)(hb:Binds X.K fd ps ds)(hd:bA gz ds)(hx:gJ CX X E)
  (I:Inv X pins σ H s) (r:bA vs us) (h:sp (vs++gz) H Q E):wpAny (model X.prog X.w) X.A (call (.ref f) us) (EP X pins σ Q) X.xe s:=by
 have r2:bA (vs++gz) (us++ds):=r.append hd
 have hl:(us++ds).length=ps.length:=by rw[← r2.length]; exact F.len _ _ _ _ h
 refine wpAny_call (codeAny_mono (F.run X.A X.stack s H ⟨us,[]⟩ (us++ds) (vs++gz) Q E hr I.env0 (hb s us I.kIn hl) r2 h) λr s' hq=>?_)
 cases r with
 |error e=>exact hx pins σ H s e s' I hq
 |ok fl =>
  cases fl with
  |ret u=>exact I.after hq
  |next=>exact False.elim hq
  |brk=>exact False.elim hq
  |cont=>exact False.elim hq
theorem Qf (F:bM X.prog X.w X.K X.mg X.base CX k f fd ps sp)(hr:dz k X.A)(hg:Gl X x)(hm:X.mg x=some (.ref f))(hk:ao X.K (.ref f)=true)(hb:Binds X.K fd ps ds)(hd:bA gz ds)(hx:gJ CX X E)
  (ha:PA X (e::es) t) (jQ:(x == ("__debug__":Str))=false:=by decide) (he:starEach (e::es) X.env=(false,eval e X.env)::starEach es X.env:=by rfl) (gF:(backTo pos (starEach es X.env)).any (·.1)=false:=by rfl) :
  PE X (.Call (.Name x p) (e::es) [] pos) (tZ sp gz E t):=by
 intro pins s σ H Q I h
 refine wpAny_Call_Name_kw (Gn I hg hm ?_ jQ)
 refine eW (h₀:=X.base) I.ok.mod.kin hk (cj (ha pos pins s σ H _ I h) λus s1 ⟨vs,H1,I1,r,q⟩=>⟨I1.kIn,?_⟩) he gF
 exact GJ F hr hb hd hx I1 r q
theorem Yc {pl:Sem Bool}(he:PE X o ta)(c:iQ X.K C)(hm:mT X.K C m f)(F:bM X.prog X.w X.K X.mg X.base CX k f fd ps sp)(hr:dz k X.A)(hb:Binds X.K fd ps ds)(hd:bA gz ds)(hx:gJ CX X E)(ha:PA X (e::es) t)
  (iR:starEach (e::es) X.env=(false,eval e X.env)::starEach es X.env:=by rfl) (gF:(backTo pos (starEach es X.env)).any (·.1)=false:=by rfl)
  (ht:eval (.Call (.Attribute o m cO) (e::es) [] pos) X.env=(do
   let ov ← eval o X.env
   standAt cO.atName
   let(f,first) ← holding [ov] (getMethod ov m pl)
   callWith pos f first (backTo pos (starEach (e::es) X.env)) (backToKw pos (keywordEach [] X.env))):=by rfl) :
  PE X (.Call (.Attribute o m cO) (e::es) [] pos) (t4 C m sp gz E ta t):=by
 intro pins s σ H Q I h
 refine el (pl:=pl) (cj (he pins s σ H _ I h) λu s1 ⟨x,H1,I1,rx,a,dx,fs,ex,ea,l,q⟩=>?_) ht
 subst ex
 obtain rfl:u=Value.ref a:=rx
 refine LH I1 ea c hm l ?_
 refine eW (first:=[.ref a]) (h₀:=X.base) I.ok.mod.kin hm.kp (cj (ha pos pins s1 σ H1 _ I1 q) λus s2 ⟨vs,H2,I2,r,q2⟩=>⟨I2.kIn,?_⟩) iR gF
 exact GJ (us:=.ref a::us) (vs:=.ref a::vs) F hr hb hd hx I2 (.cons rfl r) q2
theorem Xc {pl:Sem Bool}(he:PE X o ta)(c:iQ X.K C)(hm:mT X.K C m f)(F:bM X.prog X.w X.K X.mg X.base CX k f fd ps sp)(hr:dz k X.A)(hb:Binds X.K fd ps ds)(hd:bA gz ds)(hx:gJ CX X E)
  (ht:eval (.Call (.Attribute o m cO) [] [] pos) X.env=(do
   let ov ← eval o X.env
   standAt cO.atName
   let(f,first) ← holding [ov] (getMethod ov m pl)
   callWith pos f first (backTo pos (starEach [] X.env)) (backToKw pos (keywordEach [] X.env))):=by rfl) :
  PE X (.Call (.Attribute o m cO) [] [] pos) (t4 C m sp gz E ta DS):=by
 intro pins s σ H Q I h
 refine el (pl:=pl) (cj (he pins s σ H _ I h) λu s1 ⟨x,H1,I1,rx,a,dx,fs,ex,ea,l,q⟩=>?_) ht
 subst ex
 obtain rfl:u=Value.ref a:=rx
 refine LH I1 ea c hm l ?_
 exact PySem.W.callWith_K0 (first:=[.ref a]) I1.kIn hm.kp (GJ (us:=[.ref a]) (vs:=[.ref a]) F hr hb hd hx I1 (.cons rfl .nil) q)
structure Mk (K:ae)(C f:Addr):Prop where
 makes:cI K C=true
 init:aw K (.ref C) "__init__"=some (some (.ref f))
 fn:cK K (.ref f)=true
 kp:ao K (.ref C)=true
theorem Xd {pins:List (Addr×Obj)}{σ:St}{H:Hp}{s:Shared}{Q:VK}{us:List Value}{vs:List V}(M:Mk X.K C f)(F:bM X.prog X.w X.K X.mg X.base CX k f fd ps sp)(hr:dz (k+1) X.A)(hb:Binds X.K fd ps ds)(hd:bA gz ds)
  (hx:gJ CX X E) (I:Inv X pins σ H s) (r:bA vs us)
  (h:∀x dx,H x=none->H dx=none->dx≠x->sp (.ref x::(vs++gz)) (cC (cC H dx (.own x)) x (.ins C dx [])) (λv H2=>v=.non/\Q (.ref x) H2) E) :
  wpAny (model X.prog X.w) X.A (call (.ref C) us) (EP X pins σ Q) X.xe s:=by
 have hq:=h (s.heap.objs.size+1) s.heap.objs.size (I.hok.fresh (fO _)) (I.hok.fresh (aE _)) (aV (gc _))
 have I2:=Inv.made (C:=C) I
 have r2:bA (V.ref (s.heap.objs.size+1)::(vs++gz)) (Value.ref (s.heap.objs.size+1)::(us++ds)):=.cons rfl (r.append hd)
 have hl:(Value.ref (s.heap.objs.size+1)::us++ds).length=ps.length:=by
  have e:=r2.length
  rw[F.len _ _ _ _ hq]at e
  exact e.symm
 refine wpAny_call (Xb (f:=f) I.kIn M.makes M.init (beq_iff_eq.mp M.fn) (codeAny_mono (F.run _ X.stack _ _ ⟨Value.ref (s.heap.objs.size+1)::us,[]⟩ (Value.ref (s.heap.objs.size+1)::(us++ds)) _ _ E (hr.make C us [])
  (I2.env0.make C us []) (hb _ (Value.ref (s.heap.objs.size+1)::us) I2.kIn hl) r2 hq) λr s' oK=>?_))
 cases r with
 |error e=>exact hx pins σ _ _ e s' I2 oK
 |ok fl =>
  cases fl with
  |ret u =>
   obtain⟨v,H',I3,rv,ev,q3⟩:=I2.after oK
   subst ev
   exact⟨rv,⟨V.ref (s.heap.objs.size+1),H',I3,rfl,q3⟩⟩
  |next=>exact False.elim oK
  |brk=>exact False.elim oK
  |cont=>exact False.elim oK
theorem Yd (M:Mk X.K C f)(F:bM X.prog X.w X.K X.mg X.base CX k f fd ps sp)(hr:dz (k+1) X.A)(hg:Gl X x)(hm:X.mg x=some (.ref C))(hb:Binds X.K fd ps ds)(hd:bA gz ds)(hx:gJ CX X E)
  (ha:PA X (e::es) t) (jQ:(x == ("__debug__":Str))=false:=by decide) (he:starEach (e::es) X.env=(false,eval e X.env)::starEach es X.env:=by rfl) (gF:(backTo pos (starEach es X.env)).any (·.1)=false:=by rfl) :
  PE X (.Call (.Name x p) (e::es) [] pos) (DQ C sp gz E t):=by
 intro pins s σ H Q I h
 refine wpAny_Call_Name_kw (Gn I hg hm ?_ jQ)
 refine eW (h₀:=X.base) I.ok.mod.kin M.kp (cj (ha pos pins s σ H _ I h) λus s1 ⟨vs,H1,I1,r,q⟩=>⟨I1.kIn,?_⟩) he gF
 exact Xd M F hr hb hd hx I1 r q
end
section
variable {X:Cx}{CX:oH}{k:Nat}{f C:Addr}{fd:FuncData}{ps ks:List Str}{sp:Sp}{E:XK}{x m:Str}{p pos cO Ay:Pos}{e o:Expr}{es:List Expr}{kws:List Keyword}{te ta:TE}{t tk:TA}{nm:Option Str}
variable {g:List Value->List Value->List Value}{gV:List V->List V->List V}
end
structure aW (N P:List Str)(sc:Scope):Prop where
 kind:sc.kind=.function
 co:sc.isCoroutine=false
 gen:sc.isGenerator=false
 nd:N.Nodup
 pre:N.take P.length=P
 par:∀x∈P,sc.names.lookup x=some .local\/sc.names.lookup x=some .cell
 nofree:∀y∈sc.names,y.2≠.free
theorem O9 {kindOf:Str->Option NameKind}{x:Str}:∀{binds:List (Str×Value)} {m:Str->Option Value},(∀v,(x,v)∉binds)->bindL kindOf binds m x=m x
 |[],_,_=>rfl
 |(n,v)::r,m,h=>by
  unfold bindL
  rw[O9 λw hw=>h w (ai _ hw)]
  split
  ·have:x≠n:=by rintro rfl; exact h v aa
   simp[this]
  ·rfl
theorem Pa {kindOf:Str->Option NameKind}{x:Str}:∀{binds:List (Str×Value)} {m:Str->Option Value},(∀v,(x,v)∉binds)->bindC kindOf binds m x=m x
 |[],_,_=>rfl
 |(n,v)::r,m,h=>by
  unfold bindC
  rw[Pa λw hw=>h w (ai _ hw)]
  split
  ·rfl
  ·have:x≠n:=by rintro rfl; exact h v aa
   simp[this]
theorem Pb {kindOf:Str->Option NameKind}{x:Str}{v:Value}:∀{P:List Str} {vs:List Value} {i:Nat} {m:Str->Option Value},P.Nodup->P[i]?=some x->vs[i]?=some v->kindOf x=some .local ->
  bindL kindOf (P.zip vs) m x=some v
 |[],_,_,_,_,h,_,_=>by simp at h
 |_::_,[],_,_,_,_,h,_=>by simp at h
 |p::P,w::vs,0,m,nd,h1,h2,hk=>by
  simp at h1 h2; subst h1; subst h2
  show bindL kindOf ((p,w)::P.zip vs) m p=_
  unfold bindL
  rw[O9 λv hv=>(bi.mp nd).1 (eQ hv).1,if_pos hk]
  simp
 |p::P,w::vs,i+1,m,nd,h1,h2,hk=>by
  show bindL kindOf ((p,w)::P.zip vs) m x=_
  unfold bindL
  exact Pb (i:=i) (bi.mp nd).2 (by simpa using h1) (by simpa using h2) hk
theorem Pc {kindOf:Str->Option NameKind}{x:Str}{v:Value}:∀{P:List Str} {vs:List Value} {i:Nat} {m:Str->Option Value},P.Nodup->P[i]?=some x->vs[i]?=some v->kindOf x≠some .local ->
  bindC kindOf (P.zip vs) m x=some v
 |[],_,_,_,_,h,_,_=>by simp at h
 |_::_,[],_,_,_,_,h,_=>by simp at h
 |p::P,w::vs,0,m,nd,h1,h2,hk=>by
  simp at h1 h2; subst h1; subst h2
  show bindC kindOf ((p,w)::P.zip vs) m p=_
  unfold bindC
  rw[Pa λv hv=>(bi.mp nd).1 (eQ hv).1,if_neg hk]
  simp
 |p::P,w::vs,i+1,m,nd,h1,h2,hk=>by
  show bindC kindOf ((p,w)::P.zip vs) m x=_
  unfold bindC
  exact Pc (i:=i) (bi.mp nd).2 (by simpa using h1) (by simpa using h2) hk
def start (N:List Str)(vs:List V):St:=vs.map some++ak (N.length-vs.length) none
def li (CX:oH)(P:Program)(w:World)(K:ae)(mg:Str->Option Value)(base:Heap)(N:List Str)(qual:Str)(scope:Scope)(f:Addr)(cd:Value)(A:Around)(outer:List Env)(s:Shared)(H:Hp)(E:XK):Cx where
 prog:=P
 w:=w
 K:=K
 mg:=mg
 base:=base
 A:=A.deeper (envOfC qual scope s.heap.objs.size f cd)
 N:=N
 s₀:=s
 H₀:=H
 env:=envOfC qual scope s.heap.objs.size f cd
 outer:=outer
 stack:=envOfC qual scope s.heap.objs.size f cd::outer
 ex:=[]
 calm:=true
 fn:=λ_=>true
 pn:=[]
 xe:=λe s'=>wpAny (model P w) (A.deeper (envOfC qual scope s.heap.objs.size f cd)) (leaving (envOfC qual scope s.heap.objs.size f cd) e) (λ_ s''=>CX outer H s E e s'') (λe' s''=>CX outer H s E e' s'') s'
theorem PM {sc:Scope}{n:Nat}{x:Str}(h:sc.names.lookup x=some .cell):∃c,(cellsFrom n sc.names []).lookup x=some c:=by
 have q:=fT sc.names n [] (.inl h)
 exact ku.mp q
theorem Wy {CX:oH}{P:Program}{w:World}{K:ae}{mg:Str->Option Value}{base:Heap}{N ps:List Str}{qual:Str}{scope:Scope}{f:Addr}{cd:Value}{A:Around}{outer:List Env}{s s1:Shared}{H:Hp}{E:XK}{us:List Value}{vs:List V}
  (S:aW N ps scope) (hd:A.handled=none) (e0:mM P w K mg base A outer s H) (hl:vs.length=ps.length) (r:bA vs us)
  (x:InCallC s s.heap.objs.size (bindL (envOfC qual scope s.heap.objs.size f cd).kindOf (ps.zip us) λ_=>none) (cellsFrom (s.heap.objs.size+1) scope.names []) (bindC (envOfC qual scope s.heap.objs.size f cd).kindOf (ps.zip us) λ_=>none) s1) :
  Inv (li CX P w K mg base N qual scope f cd A outer s H E) [] (start N vs) H s1:=by
 have gF:ps.length<=N.length:=by have:=congrArg mI S.pre; rw[cZ]at this; omega
 obtain⟨h1,tk,rfl,hk⟩:=x.done
 have Dw:∀b:Addr,b∉(li CX P w K mg base N qual scope f cd A outer s H E).ex:=λb z=>absurd (show b∈([]:List Addr)from z) (by simp)
 refine⟨⟨e0.mod,S.kind,rfl,rfl,aE _,λy z c h1 h2=>?_,λy hy=>?_,λy c _ h=>?_,λ_=>hd,Around.frames_deeper e0.frames,.inr ⟨rfl,rfl⟩,λb z=>absurd z (Dw b),e0.bs,e0.bsz,λb _ _=>Dw b,λb z=>absurd z (Dw b),e0.funs,e0.frf⟩,
  rfl,e0.bare,Un.kept hk,⟨_,x.toInCall.ns,λi y v h1 h2 h3=>?_⟩,λy c h=>⟨_,x.cell y c h⟩,e0.hok.fresh (aE _),λy c h=>?_,λp hp=>absurd (show p∈([]:List (Addr×Obj))from hp) (by simp),e0.hok.kept hk,?_⟩
 ·exact name_of_addr x.apart (PySem.mem_of_lookup h1) (PySem.mem_of_lookup h2)
 ·have hy:scope.names.lookup y=some .cell\/scope.names.lookup y=some .free:=hy
  rcases hy with hy|hy
  ·exact PM hy
  ·exact absurd rfl (S.nofree _ (PySem.mem_of_lookup hy))
 ·exact i8 (x.above y c (PySem.mem_of_lookup h))
 ·have hi:i<vs.length:=by
   unfold start at h2
   by_cases hi:i<vs.length
   ·exact hi
   ·rw[dJ (by simpa using hi)]at h2
    rw[d4]at h2
    split at h2 <;> cases h2
  have ha:vs[i]?=some v:=by
   unfold start at h2
   rw[bE (by simpa using hi),aP]at h2
   cases e:vs[i]? with
   |none=>rw[e]at h2; cases h2
   |some a=>rw[e]at h2; cases h2; rfl
  obtain⟨u,hu,rv⟩:=r.get ha
  have hp:ps[i]?=some y:=by
   rw[← S.pre,kX (by omega)]; exact h1
  have N4:ps.Nodup:=by rw[← S.pre]; exact S.nd.sublist (List.take_sublist _ _)
  refine⟨u,rv,?_⟩
  rcases S.par y (List.mem_of_getElem? hp)with k|k
  ·exact .inl ⟨k,Pb N4 hp hu k⟩
  ·obtain⟨c,e⟩:=PM (n:=s.heap.objs.size+1) k
   refine .inr ⟨.inl k,c,e,?_⟩
   have q:=x.cell y c e
   rw[Pc N4 hp hu (by show scope.names.lookup y≠_; rw[k]; decide)]at q
   exact q
 ·exact e0.hok.fresh (i8 (x.above y c (PySem.mem_of_lookup h)))
 ·unfold start
  show _=N.length
  rw[aI,am,bY]
  omega
theorem ztr {CX:oH}{P:Program}{w:World}{K:ae}{mg:Str->Option Value}{base:Heap}{k:Nat}{f:Addr}{name qual:Str}{params:Arguments}{body:List Stmt}{scope:Scope}{dV kV doc pm df ct oc:Value}{an od:Option Addr}
    {AD:Array (Option Value)} {N ps:List Str} {sp:Sp} (lk:K.lookup f=some ⟨oc,od,.func (af name qual params body scope dV kV doc pm an df ct),AD⟩) (gA:av K df qual=true) (S:aW N ps scope)
    (len:∀vs H Q E,sp vs H Q E->vs.length=ps.length)
    (pv:∀(A:Around) (outer:List Env) (s:Shared) (H:Hp) (vs:List V) (Q:VK) (E:XK),dz k (A.deeper (envOfC qual scope s.heap.objs.size f df))->sp vs H Q E ->
      ∃t,mV (li CX P w K mg base N qual scope f df A outer s H E) body t/\t { nx:=λ_ H'=>Q .non H',rt:=Q } (start N vs) H) :
    bM P w K mg base CX (k+1) f (af name qual params body scope dV kV doc pm an df ct) ps sp:=by
  refine⟨len,λA outer s H args us vs Q E hr e0 hb r tO=>?_⟩
  have hl:=len _ _ _ _ tO
  have KX:K.In s.heap:=e0.mod.kin.keeps λb o e=>(e0.bs b o e).1
  have lim:s.heap.NoLimit:=e0.mod.nolimit.keeps λb o e=>(e0.bs b o e).1
  have CS:∀y∈ps.zip us,scope.names.lookup y.1=some .local\/(scope.names.lookup y.1=some .cell/\((cellsFrom (s.heap.objs.size+1) scope.names []).lookup y.1).isSome=true):=λ⟨n,v⟩ hy=>by
    rcases S.par n (eQ hy).1 with q|q
    · exact .inl q
    · exact .inr ⟨q,fT _ _ _ (.inl q)⟩
  refine codeAny_call_function hr.depth (KX _ _ lk) rfl S.co S.gen rfl (PySem.W.codeRec_of KX gA) (hb _ _ _ _ ?_)
  refine wpAny_newFunctionEnv_cells S.kind CS λenv he s1 x=>?_
  subst he
  refine⟨lim.keeps x.toInCall.keep,codeAny_func ?_⟩
  obtain⟨t,ht,hq⟩:=pv A outer s H vs Q E (hr.deeper _) tO
  have I:Inv (li CX P w K mg base N qual scope f df A outer s H E) [] (start N vs) H s1:=Wy S hr.hd e0 hl r x
  refine wpAny_mono (ht [] s1 (start N vs) H _ I hq) (λfl s' hs=>?_) λe s' hs=>hs
  have fin:∀{σ':St} {H':Hp} {v:V} {u:Value},Inv (li CX P w K mg base N qual scope f df A outer s H E) [] σ' H' s'->RelV v u->Q v H'->CE outer P w H s Q u s' :=
    λ{σ' H' v u} J rv q=>⟨v,H',J.os,J.bare,J.base,J.hok,rv,q⟩
  cases fl with
  |ret u =>
    obtain⟨v,σ',H',J,rv,q⟩:=hs
    exact fin J rv q
  |next =>
    obtain⟨σ',H',J,q⟩:=hs
    exact fin (v:=V.non) (u:=Value.none) J rfl q
  |brk =>
    obtain⟨_,_,_,q⟩:=hs
    exact False.elim q
  |cont =>
    obtain⟨_,_,_,q⟩:=hs
    exact False.elim q
end L2
namespace L2
open PySem PySem.Spec PyProof.Rows
section
variable {X:Cx}{x:Str}{p pos:Pos}{e:Expr}{es:List Expr}{t:TA}{id T:String}{r:List V->Hp->VK->Prop}
def Lc (r:List V->Hp->VK->Prop)(t:TA):TE:=λσ H Q=>t σ H λvs H1=>r vs H1 Q
theorem Gd (hc:dB X (.builtin id) r)(hg:Gl X x)(hm:X.mg x=none)(hv:bootBuiltins x=some (.builtin id))(ha:PA X (e::es) t)(hn:x≠"__name__":=by decide)(jQ:(x == ("__debug__":Str))=false:=by decide)
  (he:starEach (e::es) X.env=(false,eval e X.env)::starEach es X.env:=by rfl) (gF:(backTo pos (starEach es X.env)).any (·.1)=false:=by rfl):PE X (.Call (.Name x p) (e::es) [] pos) (Lc r t):=by
 intro pins s σ H Q I h
 refine wpAny_Call_Name_kw (sU I hg hm hv ?_ hn jQ)
 exact PyProof.Rows.callWith_builtin1 (cj (ha pos pins s σ H _ I h) λus s1 ⟨vs,H1,I1,r1,q1⟩=>hc pins s1 σ H1 vs us Q I1 r1 q1) he gF
theorem Pd (hc:dB X (.type T) r)(hg:Gl X x)(hm:X.mg x=none)(hv:bootBuiltins x=some (.type T))(ha:PA X (e::es) t)(hn:x≠"__name__":=by decide)(jQ:(x == ("__debug__":Str))=false:=by decide)
  (he:starEach (e::es) X.env=(false,eval e X.env)::starEach es X.env:=by rfl) (gF:(backTo pos (starEach es X.env)).any (·.1)=false:=by rfl):PE X (.Call (.Name x p) (e::es) [] pos) (Lc r t):=by
 intro pins s σ H Q I h
 refine wpAny_Call_Name_kw (sU I hg hm hv ?_ hn jQ)
 exact bH (cj (ha pos pins s σ H _ I h) λus s1 ⟨vs,H1,I1,r1,q1⟩=>hc pins s1 σ H1 vs us Q I1 r1 q1) he gF
end
end L2
namespace HT
open PySem PyProof.Rows
section
open PySem.SeqAt
open PySem.AutoSeq1 (wpAny_loadPart')
open PySem.MeetsSeq PySem.MeetsSeq2 PySem.MeetsSeq3
end
section
variable {prog:Program}{w:World}{A:Around}{E:Value->Shared->Prop}{s:Shared}
theorem cat_tup {t b:Addr}{vs ws:List Value}{Q:Value->Shared->Prop}(ht:IsTup s.heap t vs.toArray)(hb:IsTup s.heap b ws.toArray)(hv:vs≠[])
    (h1:ws=[]->Q (.ref t) s) (h2:ws≠[]->Q (.ref s.heap.objs.size) { s with heap:=s.heap.push { cls:=.type "tuple",data:=.seq (vs++ws).toArray } })
    (hsz:vs.length+ws.length<=sizeLine):wpAny (model prog w) A (binaryOp .Add (.ref t) (.ref b)) Q E s:=by
  obtain⟨⟨cls,dd,data,sl⟩,ho,hc,n,hd⟩:=id ht
  obtain⟨⟨Hh,EH,data2,BV⟩,Ft,BL,n2,hd2⟩:=id hb
  simp only at hc hd BL hd2
  subst hc hd BL hd2
  have e:vs.toArray++ws.toArray=(vs++ws).toArray:=by simp
  by_cases hw:ws=[]
  · exact concat_meets ⟨_,ho,rfl⟩ ⟨_,Ft,rfl⟩ noFill_tuple_add seq_tuple_add PySem.F.slot_tuple_add PySem.F.entry_tuple_add (PySem.F.args_tuple_add_2 _ _)
      (tuple_addW1 t b vs.toArray ws.toArray n n2 dd EH sl BV (by simpa using hv) (by simp[hw])) ⟨ho,Ft,h1 hw⟩
  · refine concat_meets ⟨_,ho,rfl⟩ ⟨_,Ft,rfl⟩ noFill_tuple_add seq_tuple_add PySem.F.slot_tuple_add PySem.F.entry_tuple_add (PySem.F.args_tuple_add_2 _ _)
      (tuple_addW2 t b vs.toArray ws.toArray n n2 dd EH sl BV (by simpa using hv) (by simpa using hw) (by rw[aD,aD]; exact hsz)) ⟨ho,Ft,?_⟩
    rw[e]
    exact h2 hw
def sIx (n d:Nat):Option Int->Nat
 |none=>d
 |some v=>if v<0 then(v+(n:Int)).toNat else min v.toNat n
theorem sIx_none (n d:Nat):sIx n d none=d:=rfl
theorem sIx_nat (n d k:Nat):sIx n d (some (k:Int))=min k n:=by
 show(if(k:Int)<0 then((k:Int)+(n:Int)).toNat else min (k:Int).toNat n)=min k n
 rw[if_neg (by omega),i7]
end
end HT
namespace L2
open PySem PySem.Spec PyProof.Rows
abbrev TO:=St->Hp->(Option Int->Hp->Prop)->Prop
def PO (X:Cx)(e:Option Expr)(t:TO):Prop :=
 ∀(pins:List (Addr×Obj)) (s:Shared) (σ:St) (H:Hp) (Q:Option Int->Hp->Prop),Inv X pins σ H s->t σ H Q ->
  wpAny (model X.prog X.w) X.A (evalPart e X.env) (λu s'=>∃o H',Inv X pins σ H' s'/\IsPart u o/\Q o H') X.xe s
def sP:TO:=λ_ H Q=>Q none H
def DT (t:TE):TO:=λσ H Q=>t σ H λx H1=>∃i,x=.int i/\Q (some i) H1
theorem V1 {ns:List Int}:∀{us:List Value},bA (ns.map V.int) us->IntsAre us ns:=by
 induction ns with
 |nil=>intro us r; rw[eY]at r; cases r; exact .nil
 |cons n ns ih =>
  intro us r
  rw[aC]at r
  cases r with
  |cons r1 r2 =>
   obtain⟨t,e⟩:=r1
   subst e
   exact .cons n t (ih r2)
section
variable {X:Cx}{e:Expr}{te:TE}{lo hi:Option Expr}{tl th:TO}{pos p2:Pos}
theorem Ye:PO X none sP:=by
 intro pins s σ H Q I h
 rw[evalPart_none]
 exact wpAny_pure ⟨none,H,I,.none,h⟩
theorem P8 (h:PE X e te):PO X (some e) (DT te):=by
 intro pins s σ H Q I hw
 rw[evalPart_some]
 refine cj (h pins s σ H _ I hw) λu s1 ⟨x,H1,I1,r1,q1⟩=>?_
 obtain⟨i,rfl,q⟩:=q1
 obtain⟨t,rfl⟩:=r1
 exact⟨some i,H1,I1,.int i t,q⟩
def Nb (X:Cx)(r:V->Option Int->Option Int->Hp->VK->Prop):Prop :=
 ∀(pins:List (Addr×Obj)) (s:Shared) (σ:St) (H:Hp) (x:V) (v vl vu:Value) (lo hi:Option Int) (sl:Addr) (Q:VK),Inv X pins σ H s->RelV x v->s.heap.IsSliceOf sl vl vu .none->IsPart vl lo->IsPart vu hi->r x lo hi H Q ->
  ∃T id,typeLookup (.type T) "__getitem__"=pure (some (.builtin id))/\s.TypeIs v T/\wpAny (model X.prog X.w) X.A (getItem v (.ref sl)) (EP X pins σ Q) X.xe s
def UV (r:V->Option Int->Option Int->Hp->VK->Prop)(te:TE)(tl th:TO):TE:=λσ H Q=>te σ H λx H1=>tl σ H1 λl H2=>th σ H2 λu H3=>r x l u H3 Q
theorem Xe {r:V->Option Int->Option Int->Hp->VK->Prop}(hr:Nb X r)(he:PE X e te)(hl:PO X lo tl)(hu:PO X hi th):PE X (.Subscript e (.Slice lo hi none p2) pos) (UV r te tl th):=by
  intro pins s σ H Q I h
  refine Subscript_ (cj (he pins s σ H _ I h) λv s1 ⟨x,H1,I1,r1,q1⟩=>?_)
  refine wpAny_Slice (cj (hl pins s1 σ H1 _ I1 q1) λvl s2 ⟨l,H2,I2,pl,q2⟩=>cj (hu pins s2 σ H2 _ I2 q2) λvu s3 ⟨u,H3,I3,pu,q3⟩=>?_)
  rw[evalPart_none]
  refine wpAny_pure ?_
  have I4:Inv X pins σ H3 { s3 with heap:=s3.heap.push { cls:=.type "slice",data:=.fields #[vl,vu,.none] } }:=I3.kept (t':=s3.toks) λb ob q=>ay _ q
  obtain⟨T,id,hT,ht,hg⟩:=hr pins { s3 with heap:=s3.heap.push { cls:=.type "slice",data:=.fields #[vl,vu,.none] } } σ H3 x v vl vu l u s3.heap.objs.size Q I4 r1 (qK.new ..) pl pu q3
  show wpAny (model X.prog X.w) X.A (subscriptTail e (.Slice lo hi none p2) v (.ref s3.heap.objs.size)) (EP X pins σ Q) X.xe { s3 with heap:=s3.heap.push { cls:=.type "slice",data:=.fields #[vl,vu,.none] } }
  exact tail_any (ops:=[.ref s3.heap.objs.size,v]) ht hT hg (by with_unfolding_all rfl)
def nW (xs:List V)(lo hi:Option Int):List V:=(xs.drop (HT.sIx xs.length 0 lo)).take (HT.sIx xs.length xs.length hi-HT.sIx xs.length 0 lo)
theorem VU (xs:List V)(lo hi:Option Int):(nW xs lo hi).length<=xs.length:=by
 unfold nW
 rw[cZ,dP]
 omega
def tW (K:ae):R2:=λx y H Q=>∃a b xs ys,x=.ref a/\y=.ref b/\iD K H a xs/\iD K H b ys/\xs≠[]/\xs.length+ys.length<=sizeLine /\
 (ys=[]->Q (.ref a) H)/\(ys≠[]->∀p,H p=none->Q (.ref p) (cC H p (.tup (xs++ys))))
theorem bA.nil_iff {xs:List V}{us:List Value}(r:bA xs us):us=[]↔xs=[]:=by
 cases r with
 |nil=>simp
 |cons _ _=>simp
theorem Yf:eR X (binaryOp .Add) (tW X.K):=by
 intro pins s σ H x y v u Q I rx ry h
 obtain⟨a,b,xs,ys,rfl,rfl,ha,hb,hx,hz,q1,q2⟩:=h
 cases rx
 cases ry
 obtain⟨its,r1,p1,_⟩:=I.tuple ha
 obtain⟨sv,r2,p2,_⟩:=I.tuple hb
 refine HT.cat_tup p1 p2 (λz=>hx (r1.nil_iff.mp z)) (λz=>⟨.ref a,H,I,rfl,q1 (r2.nil_iff.mp z)⟩) (λz=>?_) (by rw[← r1.length,← r2.length]; exact hz)
 refine⟨.ref s.heap.objs.size,_,I.laid (t':=s.toks) (o:=.tup (xs++ys)) (λb ob q=>ay _ q) (aE _) ?_,rfl,q2 (λw=>z (r2.nil_iff.mpr w)) _ (I.hok.fresh (aE _))⟩
 exact⟨by rw[aI]; exact hz,_,r1.append r2,IsTup.new _ _⟩
end
end L2
namespace L2
open PySem PySem.Spec PyProof.Rows
def ixN (n:Nat)(i:Int):Option Nat:=if 0<=i then(if i<n then some i.toNat else none)else if -(n:Int)<=i then some (i+n).toNat else none
def atI {α:Type}(xs:List α)(i:Int):Option α:=(ixN xs.length i).bind λj=>xs[j]?
theorem Gq {n:Nat}{i:Int}{j:Nat}(h:ixN n i=some j):seqIndex? i n=some j/\j<n/\-(n:Int)<=i/\i<n:=by
 unfold ixN at h
 by_cases h0:0<=i
 ·rw[if_pos h0]at h
  by_cases h1:i<n
  ·rw[if_pos h1]at h
   have e:i.toNat=j:=Option.some.inj h
   exact⟨by rw[seqIndex_of h0 h1,e],by omega,by omega,h1⟩
  ·rw[if_neg h1]at h; cases h
 ·rw[if_neg h0]at h
  by_cases h1:-(n:Int)<=i
  ·rw[if_pos h1]at h
   have e:(i+n).toNat=j:=Option.some.inj h
   exact⟨by rw[seqIndex_neg (by omega) h1,e],by omega,h1,by omega⟩
  ·rw[if_neg h1]at h; cases h
theorem Gr {α:Type}{xs:List α}{i:Int}{v:α}(h:atI xs i=some v):∃j,seqIndex? i xs.length=some j/\xs[j]?=some v/\j<xs.length/\-(xs.length:Int)<=i/\i<xs.length:=by
 unfold atI at h
 cases e:ixN xs.length i with
 |none=>rw[e]at h; cases h
 |some j =>
  rw[e]at h
  obtain⟨h1,h2,h3,h4⟩:=Gq e
  exact⟨j,h1,h,h2,h3,h4⟩
theorem q0 {α:Type}{xs:List α}{j:Nat}{v:α}(h:xs[j]?=some v):atI xs (j:Int)=some v:=by
 have hj:j<xs.length:=(aK.mp h).1
 have e:ixN xs.length (j:Int)=some j:=by
  unfold ixN
  rw[if_pos (by omega),if_pos (by omega)]; simp
 unfold atI; rw[e]; exact h
def nw (b:Expr):Prop:=∀o i,subscripted b false o i=operate [o,i] (getItem o i)
def p5 (X:Cx)(r:R2):Prop :=
 ∀(value slice:Expr) (pins:List (Addr×Obj)) (s:Shared) (σ:St) (H:Hp) (x y:V) (v u:Value) (Q:VK),Inv X pins σ H s->RelV x v->RelV y u->r x y H Q ->
  subscripted slice false v u=operate [v,u] (getItem v u)->wpAny (model X.prog X.w) X.A (subscriptTail value slice v u) (EP X pins σ Q) X.xe s
def M9 (X:Cx)(id:String)(r:V->List V->Hp->VK->Prop):Prop :=
 ∀(pins:List (Addr×Obj)) (s:Shared) (σ:St) (H:Hp) (x:V) (xs:List V) (v:Value) (us:List Value) (Q:VK),Inv X pins σ H s->RelV x v->bA xs us->r x xs H Q ->
  wpAny (model X.prog X.w) X.A (call (.builtin id) (v::us)) (EP X pins σ Q) X.xe s
section
variable {X:Cx}{a b:Expr}{ta tb:TE}{pos:Pos}
theorem p5.or {r r':R2}(h:p5 X r)(h':p5 X r'):p5 X (λx y H Q=>r x y H Q\/r' x y H Q):=by
 intro value slice pins s σ H x y v u Q I rx ry q hs
 rcases q with q|q
 ·exact h value slice pins s σ H x y v u Q I rx ry q hs
 ·exact h' value slice pins s σ H x y v u Q I rx ry q hs
theorem zts {r:R2}(hr:p5 X r)(ha:PE X a ta)(hb:PE X b tb)(hs:nw b):PE X (.Subscript a b pos) (FO r ta tb):=by
 intro pins s σ H Q I h
 exact Subscript_ (vT ha hb I h λv u s2 x y H2 I2 rx ry q=>hr a b pins s2 σ H2 x y v u Q I2 rx ry q (hs _ _))
def DD (K:ae):R2:=λx y H Q=>∃p xs i v,x=.ref p/\y=.int i/\d5 K H p xs/\atI xs i=some v/\Q v H
def DF (K:ae):R2:=λx y H Q=>∃p xs i v,x=.ref p/\y=.int i/\iD K H p xs/\atI xs i=some v/\Q v H
def DE:R2:=λx y H Q=>∃z i c,x=.str z/\y=.int i/\z.length<=sizeLine/\atI z.cps.toList i=some c/\Q (.str ⟨#[c]⟩) H
theorem Yt:p5 X (DD X.K):=by
 intro value slice pins s σ H x y v u Q I rx ry h hs
 obtain⟨p,xs,i,z,rfl,rfl,hq,he,q⟩:=h
 cases rx
 obtain⟨t,rfl⟩:=ry
 obtain⟨its,r,pl,hz⟩:=I.list hq
 obtain⟨j,h1,h2,h3,h4,h5⟩:=Gr he
 obtain⟨w,ew,kE⟩:=r.get h2
 have hl:=r.length
 have hn:=hX
 have fin:EP X pins σ Q w s:=⟨z,H,I,kE,q⟩
 by_cases h0:0<=i
 ·have hj:i.toNat=j:=by
   rw[seqIndex_of h0 h5]at h1
   exact Option.some.inj h1
  exact item_listR pl.isList h0 (by omega) (by rw[hj]; simpa using ew) fin hs
 ·have hj:(i+(its.toArray.size:Int)).toNat=j:=by
   rw[seqIndex_neg (by omega) h4]at h1
   rw[aD,← hl]
   exact Option.some.inj h1
  exact subscriptTail_builtinR (x:=w) pl.isList.typeIs slot_list_getitem.lookup
   (wpAny_getItem_list_neg (Q:=λr s'=>r=w/\EP X pins σ Q r s') pl.isList (by omega) (by rw[aD] <;> omega) (by omega) (by rw[hj]; simpa using ew) ⟨rfl,fin⟩) hs
theorem Zp:p5 X (DF X.K):=by
 intro value slice pins s σ H x y v u Q I rx ry h hs
 obtain⟨p,xs,i,z,rfl,rfl,hq,he,q⟩:=h
 cases rx
 obtain⟨t,rfl⟩:=ry
 obtain⟨its,r,pl,hz⟩:=I.tuple hq
 obtain⟨j,h1,h2,h3,h4,h5⟩:=Gr he
 obtain⟨w,ew,kE⟩:=r.get h2
 have hl:=r.length
 have hn:=hX
 have fin:EP X pins σ Q w s:=⟨z,H,I,kE,q⟩
 exact subscriptTail_builtinR (x:=w) pl.typeIs slot_tuple_getitem.lookup
  (getItem_tuple (j:=j) (Q:=λr s'=>r=w/\EP X pins σ Q r s') pl (by omega) (by omega) (by rw[aD,← hl]; exact h1) (by simpa using ew) ⟨rfl,fin⟩) hs
theorem Zq:p5 X DE:=by
 intro value slice pins s σ H x y v u Q I rx ry h hs
 obtain⟨z,i,c,rfl,rfl,hz,he,q⟩:=h
 obtain⟨t,rfl⟩:=rx
 obtain⟨t',rfl⟩:=ry
 obtain⟨j,h1,h2,h3,h4,h5⟩:=Gr he
 have hl:z.cps.toList.length=z.length:=by simp[Str.length]
 rw[hl]at h1 h4 h5
 have hn:=hX
 exact tail_any (typeIs_str s z t) slot_str_getitem.lookup (getItem_str (c:=c) (by
  have e1:decide (i < -(2 ^ 63:Int))=false:=decide_eq_false (by omega)
  have e2:decide (i >= 2 ^ 63)=false:=decide_eq_false (by omega)
  rw[e1,e2,sX]) (by rw[h1]; simpa using h2) ⟨.str ⟨#[c]⟩,H,I.tok _,⟨_,rfl⟩,q⟩) hs
def Ob (K:ae):R2:=λx y H Q=>DD K x y H Q\/DF K x y H Q\/DE x y H Q
theorem yn:p5 X (Ob X.K):=Yt.or (Zp.or Zq)
theorem V2 (its:List Value)(n j:Nat)(u:Value):Obj.mapSeq (·.setIfInBounds j u) { cls:=.type "list",data:=.seq its.toArray n } = { cls:=.type "list",data:=.seq (its.set j u).toArray n }:=by
  simp[Obj.mapSeq]
theorem Inv.lst {pins:List (Addr×Obj)}{σ:St}{H:Hp}{s:Shared}{p:Addr}{xs:List V}(I:Inv X pins σ H s)(h:H p=some (.lst xs)) :
    ∃(its:List Value) (n:Nat),bA xs its/\s.heap.get? p=some { cls:=.type "list",data:=.seq its.toArray n }/\xs.length<=sizeLine:=by
  obtain⟨z,its,n,r,e⟩:=I.hok p _ h
  exact⟨its,n,r,e,z⟩
theorem Inv.lstUpd {pins:List (Addr×Obj)}{σ:St}{H:Hp}{s:Shared}{p:Addr}{xs ys:List V}{its its':List Value}{n n':Nat}{f:Obj->Obj}(I:Inv X pins σ H s)(h:H p=some (.lst xs))
    (ho:s.heap.get? p=some { cls:=.type "list",data:=.seq its.toArray n }) (hf:f { cls:=.type "list",data:=.seq its.toArray n } = { cls:=.type "list",data:=.seq its'.toArray n' }) (r:bA ys its') (hz:ys.length<=sizeLine) (t:Nat) :
    Inv X pins σ (cC H p (.lst ys)) { s with heap:=s.heap.update p f,toks:=t }:=by
  have e:(s.heap.update p f).get? p=some { cls:=.type "list",data:=.seq its'.toArray n' }:=by
    rw[mz f ho (by rw[hf] <;> rfl),hf]
  refine I.write (x:=p) (e:=p) (by rw[h]; trivial) (.inl rfl) (λb u hb q=>(gk _ _ (Ne.symm hb)).trans q) ⟨_,e⟩ ?_
  exact⟨hz,its',n',r,e⟩
def DI:V->V->V->Hp->(Hp->Prop)->Prop:=λo i v H Q=>∃p xs k j,o=.ref p/\i=.int k/\H p=some (.lst xs)/\ixN xs.length k=some j/\Q (cC H p (.lst (xs.set j v)))
theorem LV:uJ X DI:=by
 intro pins s σ H o i v ov iv u Q I ro ri rv h
 obtain⟨p,xs,k,j,rfl,rfl,hp,hj,q⟩:=h
 cases ro
 obtain⟨t,rfl⟩:=ri
 obtain⟨its,n,r,ho,hz⟩:=I.lst hp
 obtain⟨h1,h2,h3,h4⟩:=Gq hj
 have hl:=r.length
 have hn:=hX
 have I':Inv X pins σ (cC H p (.lst (xs.set j v))) { s with heap:=s.heap.update p (Obj.mapSeq (·.setIfInBounds j u)) } :=
  I.lstUpd hp ho (V2 its n j u) (r.set rv j) (by rw[pW]; exact hz) s.toks
 by_cases h0:0<=k
 ·have hk:k.toNat=j:=by
   rw[seqIndex_of h0 h4]at h1
   exact Option.some.inj h1
  exact PySem.W.ki_setAt ho h0 (by omega) (by rw[aD,← hl]; exact h4) (by rw[hk]; exact⟨_,I',q⟩)
 ·have hk:(k+(its.toArray.size:Int)).toNat=j:=by
   rw[seqIndex_neg (by omega) h3]at h1
   rw[aD,← hl]
   exact Option.some.inj h1
  exact PySem.W.ki_setBack ho (by omega) (by rw[aD,← hl]; exact h3) (by omega) (by rw[hk]; exact⟨_,I',q⟩)
theorem VB (lo hi:Option Int)(n:Nat):(sliceBounds lo hi none n).1=((HT.sIx n 0 lo:Nat):Int)/\(sliceBounds lo hi none n).2.1=((HT.sIx n n hi:Nat):Int)/\(sliceBounds lo hi none n).2.2=1:=by
 refine⟨?_,?_,rfl⟩
 ·cases lo with
  |none=>simp[sliceBounds,HT.sIx]
  |some i =>
   simp only[sliceBounds,HT.sIx,nS,show(1:Int) > 0 by decide,if_true]
   by_cases h:i<0
   ·simp only[h,if_true] <;> omega
   ·simp only[h,if_false] <;> omega
 ·cases hi with
  |none=>simp[sliceBounds,HT.sIx]
  |some i =>
   simp only[sliceBounds,HT.sIx,nS,show(1:Int) > 0 by decide,if_true]
   by_cases h:i<0
   ·simp only[h,if_true] <;> omega
   ·simp only[h,if_false] <;> omega
theorem Vd (its:List Value)(lo hi:Option Int):slicePick its.toArray lo hi none=((its.drop (HT.sIx its.length 0 lo)).take (HT.sIx its.length its.length hi-HT.sIx its.length 0 lo)).toArray:=by
 obtain⟨h1,h2,h3⟩:=VB lo hi its.toArray.size
 unfold slicePick
 rw[h1,h2,h3]
 simp only[sliceRange_one,pick_run,aD] <;> rfl
def Kt (K:ae):V->Option Int->Option Int->Hp->VK->Prop:=λx lo hi H Q=>∃a xs,x=.ref a/\d5 K H a xs/\∀p,H p=none->Q (.ref p) (cC H p (.lst (nW xs lo hi)))
theorem Yu:Nb X (Kt X.K):=by
 intro pins s σ H x v vl vu lo hi sl Q I rx hs pl pu h
 obtain⟨a,xs,rfl,hx,q⟩:=h
 cases rx
 obtain⟨its,r,ht,hz⟩:=I.list hx
 have dI:=r.length
 refine⟨"list",_,slot_list_getitem.lookup,ht.isList.typeIs,?_⟩
 refine wpAny_getItem_list_slice ht.isList hs pl pu .none (by simp) ?_ (by rw[aD] <;> omega)
 rw[Vd,← dI]
 refine⟨.ref s.heap.objs.size,_,I.laid (t':=s.toks) (o:=.lst (nW xs lo hi)) (λb ob q=>ay _ q) (aE _) ?_,rfl,q _ (I.hok.fresh (aE _))⟩
 exact⟨bG (VU xs lo hi) hz,_,0,(r.drop (HT.sIx xs.length 0 lo)).take (HT.sIx xs.length xs.length hi-HT.sIx xs.length 0 lo),bn _ rfl⟩
def fQ:V->Bool
 |.non=>true
 |.bl _=>true
 |.int _=>true
 |.str _=>true
 |_=>false
def nX:V->V->Bool
 |.non,.non=>true
 |.bl a,.bl b=>a == b
 |.bl a,.int b=>(if a then 1 else 0) == b
 |.int a,.bl b=>a == (if b then 1 else 0)
 |.int a,.int b=>a == b
 |.str a,.str b=>a == b
 |_,_=>false
theorem Zr {A:Around}{s:Shared}{y x:V}{u v:Value}(ry:RelV y u)(rx:RelV x v)(fy:fQ y=true)(fx:fQ x=true):SeqAt.EqAt A s u v (nX y x):=by
 cases y with
 |non =>
  cases ry
  cases x with
  |non=>cases rx; exact SeqAt.EqAt.same _
  |bl b=>cases rx; exact SeqAt.EqAt.none_bool b
  |int b=>obtain⟨t,rfl⟩:=rx; exact SeqAt.EqAt.none_int b t
  |str b=>obtain⟨t,rfl⟩:=rx; exact SeqAt.EqAt.none_str b t
  |_=>exact absurd (show false=true from fx) aH
 |bl a =>
  cases ry
  cases x with
  |non=>cases rx; exact SeqAt.EqAt.bool_none a
  |bl b=>cases rx; exact SeqAt.EqAt.bool_bool a b
  |int b=>obtain⟨t,rfl⟩:=rx; exact SeqAt.EqAt.bool_int a b t
  |str b=>obtain⟨t,rfl⟩:=rx; exact SeqAt.EqAt.bool_str a b t
  |_=>exact absurd (show false=true from fx) aH
 |int a =>
  obtain⟨t',rfl⟩:=ry
  cases x with
  |non=>cases rx; exact SeqAt.EqAt.int_none a t'
  |bl b=>cases rx; exact SeqAt.EqAt.int_bool a t' b
  |int b=>obtain⟨t,rfl⟩:=rx; exact SeqAt.EqAt.int_int a t' b t
  |str b=>obtain⟨t,rfl⟩:=rx; exact SeqAt.EqAt.int_str a t' b t
  |_=>exact absurd (show false=true from fx) aH
 |str a =>
  obtain⟨t',rfl⟩:=ry
  cases x with
  |non=>cases rx; exact SeqAt.EqAt.str_none a t'
  |bl b=>cases rx; exact SeqAt.EqAt.str_bool a t' b
  |int b=>obtain⟨t,rfl⟩:=rx; exact SeqAt.EqAt.str_int a t' b t
  |str b=>obtain⟨t,rfl⟩:=rx; exact SeqAt.EqAt.str_str a t' b t
  |_=>exact absurd (show false=true from fx) aH
 |_=>exact absurd (show false=true from fy) aH
def lR (x:V)(u:Value):Bool:=match u with
 |.none=>nX .non x
 |.bool b=>nX (.bl b) x
 |.int i _=>nX (.int i) x
 |.str z _=>nX (.str z) x
 |_=>false
theorem MF {x y:V}{u:Value}(r:RelV y u)(f:fQ y=true):lR x u=nX y x:=by
 cases y with
 |non=>cases r; rfl
 |bl b=>cases r; rfl
 |int i=>obtain⟨t,rfl⟩:=r; rfl
 |str z=>obtain⟨t,rfl⟩:=r; rfl
 |_=>exact absurd (show false=true from f) aH
theorem D5 {x:V}:∀{xs:List V} {us:List Value},bA xs us->xs.all fQ=true->us.any (lR x)=xs.any λy=>nX y x
 |_,_,.nil,_=>rfl
 |y::xs,u::us,.cons r t,f=>by
  rw[cB,bq]at f
  rw[dA,dA,MF r f.1,D5 t f.2]
theorem BX {A:Around}{s:Shared}{x:V}{v:Value}(rx:RelV x v)(fx:fQ x=true):∀{xs:List V} {us:List Value},bA xs us->xs.all fQ=true->∀u∈us,SeqAt.EqAt A s u v (lR x u)
 |_,_,.nil,_=>λu hu=>by cases hu
 |y::xs,u::us,.cons r t,f=>λu' hu=>by
  rw[cB,bq]at f
  rcases aA.mp hu with rfl|hu
  ·rw[MF r f.1]; exact Zr r rx f.1 fx
  ·exact BX rx fx t f.2 u' hu
def FA (x:V)(xs:List V):Bool:=xs.any λy=>nX y x
def Kr (K:ae)(neg:Bool):R2:=λx y H Q=>∃p xs,y=.ref p/\(d5 K H p xs\/iD K H p xs)/\fQ x=true/\xs.all fQ=true/\Q (.bl (if neg then !FA x xs else FA x xs)) H
theorem Pe:eR X (compareOp .In) (Kr X.K false):=by
 intro pins s σ H x y v u Q I rx ry h
 obtain⟨p,xs,rfl,hq,fx,fs,q⟩:=h
 cases ry
 rcases hq with hq|hq
 ·obtain⟨its,r,pl,hz⟩:=I.list hq
  refine SeqAt.in_listAt (lR x) pl.isList (λw hw=>BX rx fx r fs w (by simpa using hw)) ⟨.bl _,H,I,rfl,?_⟩
  rw[show its.toArray.any (lR x)=its.any (lR x)by simp,D5 r fs]
  exact q
 ·obtain⟨its,r,pl,hz⟩:=I.tuple hq
  refine SeqAt.in_tupleAt (lR x) pl (λw hw=>BX rx fx r fs w (by simpa using hw)) ⟨.bl _,H,I,rfl,?_⟩
  rw[show its.toArray.any (lR x)=its.any (lR x)by simp,D5 r fs]
  exact q
theorem VC:eR X (compareOp .NotIn) (Kr X.K true):=by
 intro pins s σ H x y v u Q I rx ry h
 obtain⟨p,xs,rfl,hq,fx,fs,q⟩:=h
 cases ry
 rcases hq with hq|hq
 ·obtain⟨its,r,pl,hz⟩:=I.list hq
  refine SeqAt.notIn_listAt (lR x) pl.isList (λw hw=>BX rx fx r fs w (by simpa using hw)) ⟨.bl _,H,I,rfl,?_⟩
  rw[show its.toArray.any (lR x)=its.any (lR x)by simp,D5 r fs]
  exact q
 ·obtain⟨its,r,pl,hz⟩:=I.tuple hq
  refine SeqAt.notIn_tupleAt (lR x) pl (λw hw=>BX rx fx r fs w (by simpa using hw)) ⟨.bl _,H,I,rfl,?_⟩
  rw[show its.toArray.any (lR x)=its.any (lR x)by simp,D5 r fs]
  exact q
theorem VD:dB X (.builtin "len") (λxs H Q=>∃p ys,xs=[.ref p]/\(d5 X.K H p ys\/iD X.K H p ys)/\Q (.int ys.length) H):=by
 intro pins s σ H xs us Q I r h
 obtain⟨p,ys,rfl,hq,q⟩:=h
 obtain⟨u,rfl,rx⟩:=vals1 r
 cases rx
 have hn:=hX
 rcases hq with hq|hq
 ·obtain⟨its,r',pl,hz⟩:=I.list hq
  have dI:=r'.length
  exact Calls.call_len_list pl.isList (by simp only[aD] <;> omega) ⟨.int ys.length,H,I.tok _,⟨s.toks+1,by rw[aD,dI]⟩,q⟩
 ·obtain⟨its,r',pl,hz⟩:=I.tuple hq
  have dI:=r'.length
  exact len_tuple pl (by simp only[aD] <;> omega) ⟨.int ys.length,H,I.tok _,⟨s.toks+1,by rw[aD,dI]⟩,q⟩
theorem VE:dB X (.builtin "len") (λxs H Q=>∃z,xs=[.str z]/\z.length<=sizeLine/\Q (.int z.length) H):=by
 intro pins s σ H xs us Q I r h
 obtain⟨z,rfl,hz,q⟩:=h
 obtain⟨u,rfl,t,rfl⟩:=vals1 r
 have hn:=hX
 exact len_str (by omega) ⟨.int z.length,H,I.tok _,⟨_,rfl⟩,q⟩
theorem dB.or {f:Value}{r r':List V->Hp->VK->Prop}(h:dB X f r)(h':dB X f r'):dB X f (λxs H Q=>r xs H Q\/r' xs H Q):=by
 intro pins s σ H xs us Q I rs q
 rcases q with q|q
 ·exact h pins s σ H xs us Q I rs q
 ·exact h' pins s σ H xs us Q I rs q
theorem OE:dB X (.type "list") (λxs H Q=>∃p ys,xs=[.ref p]/\(d5 X.K H p ys\/iD X.K H p ys)/\∀l,H l=none->Q (.ref l) (cC H l (.lst ys))):=by
  intro pins s σ H xs us Q I r h
  obtain⟨p,ys,rfl,hq,q⟩:=h
  obtain⟨u,rfl,rx⟩:=vals1 r
  cases rx
  have fin:∀(its:List Value),bA ys its->ys.length<=sizeLine->∀(h':Heap) (c':Nat),(∀b o',s.heap.get? b=some o'->h'.get? b=some o') ->
      h'.get? s.heap.objs.size=some { cls:=.type "list",dict:=none,data:=.seq its.toArray c',slots:=#[] }->EP X pins σ Q (.ref s.heap.objs.size) { s with heap:=h' }:=λits r' hz h' c' kp e =>
    ⟨.ref s.heap.objs.size,_,I.laid (t':=s.toks) kp (aE _) (show cN X.prog X.w _ h' _ (.lst ys)from⟨hz,its,c',r',e⟩),rfl,q _ (I.hok.fresh (aE _))⟩
  rcases hq with hq|hq
  · obtain⟨its,r',pl,hz⟩:=I.list hq
    have dI:=r'.length
    obtain⟨o,ho,hc,n,hd⟩:=pl.isList
    exact call_list_seq p (.inl rfl) ho hc hd (λh' c' kp e=>fin its r' hz h' c' kp e) (by simp only[aD] <;> omega)
  · obtain⟨its,r',pl,hz⟩:=I.tuple hq
    have dI:=r'.length
    obtain⟨o,ho,hc,n,hd⟩:=pl
    exact call_list_seq p (.inr rfl) ho hc hd (λh' c' kp e=>fin its r' hz h' c' kp e) (by simp only[aD] <;> omega)
def Ol (K:ae)(T:String)(x:V)(H:Hp):Prop:=match x with
 |.str _=>T = "str"
 |.int _=>T = "int"
 |.ref p=>(T = "list"/\∃xs,d5 K H p xs)\/(T = "tuple"/\∃o,K.lookup p=some o/\o.cls=.type "tuple"/\o.dict=none) \/
   (T = "dict"/\((∃kvs,H p=some (.dK kvs))\/∃kvs,H p=some (.dT kvs)))\/(T = "set"/\∃S n,H p=some (.set S n))
 |_=>False
theorem Zs {pins:List (Addr×Obj)}{σ:St}{H:Hp}{s:Shared}{T:String}{x:V}{v:Value}(I:Inv X pins σ H s)(r:RelV x v)(ty:Ol X.K T x H) :
  s.TypeIs v T/\∀a,v=.ref a->∃ob,s.heap.get? a=some ob/\ob.dict=none:=by
 cases x with
 |str z =>
  obtain⟨t,rfl⟩:=r
  cases(show T = "str" from ty)
  exact⟨typeIs_str s z t,λ_ e=>nomatch e⟩
 |int i =>
  obtain⟨t,rfl⟩:=r
  cases(show T = "int" from ty)
  exact⟨typeIs_int s i t,λ_ e=>nomatch e⟩
 |ref p =>
  cases r
  rcases ty with⟨rfl,xs,hq⟩|⟨rfl,o,hk,hc,hd⟩|⟨rfl,hk⟩|⟨rfl,S,n,hk⟩
  ·obtain⟨its,_,pl,_⟩:=I.list hq
   refine⟨pl.isList.typeIs,λa e=>?_⟩
   cases e
   obtain⟨o,n,e,c,hd,_⟩:=pl
   exact⟨o,e,hd⟩
  ·refine⟨⟨o,I.kIn p o hk,hc⟩,λa e=>?_⟩
   cases e
   exact⟨o,I.kIn _ o hk,hd⟩
  ·have z:∃o,s.heap.get? p=some o/\o.ExactDict:=by
    rcases hk with⟨kvs,hk⟩|⟨kvs,hk⟩
    ·obtain⟨_,_,_,_,o,_,_,e,ex,_⟩:=I.hok p _ hk
     exact⟨o,e,ex⟩
    ·obtain⟨_,_,_,_,o,_,_,e,ex,_⟩:=I.hok p _ hk
     exact⟨o,e,ex⟩
   obtain⟨o,e,ex⟩:=z
   refine⟨⟨o,e,ex.1⟩,λa e2=>?_⟩
   cases e2
   exact⟨o,e,ex.2.1⟩
  ·obtain⟨o,_,_,_,e,ex,_⟩:=I.hok p _ hk
   refine⟨⟨o,e,ex.1⟩,λa e2=>?_⟩
   cases e2
   exact⟨o,e,ex.2.1⟩
 |_=>exact False.elim ty
def US (K:ae)(T:String)(r:V->List V->Hp->VK->Prop)(to:TE)(t:TA):TE:=λσ H Q=>to σ H λx H1=>Ol K T x H1/\t σ H1 λxs H2=>r x xs H2 Q
variable {o e:Expr}{es:List Expr}{to:TE}{t:TA}{name:Str}{cO dD:Pos}{T id:String}{r:V->List V->Hp->VK->Prop}
theorem Ee (pa:PlainAttrs T)(slot:Slot T name id)(TD:typeOf (.builtin id)=pure (.type "method_descriptor"))(hm:M9 X id r)(ho:PE X o to)(ha:PA X (e::es) t)
  (ki:attributeBase o name X.env (eval o X.env)=eval o X.env:=by rfl)
  (mY:((backTo dD (starEach (e::es) X.env)).all (λx=>!x.1) && (backToKw dD (keywordEach [] X.env)).all (λx=>x.1.isSome)
   && decide ((e::es).length+([]:List Keyword).length+(if([]:List Keyword).isEmpty then 0 else 1)<30))=true:=by rfl)
  (kj:(cO.endLine == dD.line)=true:=by rfl) (hs:starEach (e::es) X.env=(false,eval e X.env)::starEach es X.env:=by rfl) (hV:(backTo dD (starEach es X.env)).any (·.1)=false:=by rfl) :
  PE X (.Call (.Attribute o name cO) (e::es) [] dD) (US X.K T r to t):=by
 intro pins s σ H Q I h
 refine wpAny_Call_method_late ki mY kj rfl (cj (ho pins s σ H _ I h) λv s1 ⟨x,H1,I1,r1,ty,q1⟩=>?_)
 obtain⟨h1,h2⟩:=Zs I1 r1 ty
 refine⟨T,id,pa,slot,TD,h1,h2,?_⟩
 have hA:=ha dD pins s1 σ H1 _ I1 q1
 rw[hs]at hA ⊢
 refine Calls.callWith_builtin (by show(false || (backTo dD (starEach es X.env)).any (·.1))=false; rw[hV] <;> rfl) (Calls.evalArgs_plain ?_)
 exact cj hA λus s2 ⟨vs,H2,I2,r2,q2⟩=>hm pins s2 σ H2 x vs v us Q I2 r1 r2 q2
end
end L2
namespace L2
open PySem PySem.Spec PyProof.Rows
def M8 (X:Cx)(id:String)(r:V->List V->Hp->VK->Prop):Prop :=
 ∀(pins:List (Addr×Obj)) (s:Shared) (σ:St) (H:Hp) (x:V) (xs:List V) (v:Value) (us:List Value) (Q:VK),Inv X pins σ H s->RelV x v->bA xs us->r x xs H Q ->
  wpAny (model X.prog X.w) X.A (call (.builtin id) (v::us)) (EP X pins σ Q) X.xe s
theorem bA.one:∀{x:V} {us:List Value},bA [x] us->∃u,us=[u]/\RelV x u
 |_,_,.cons r .nil=>⟨_,rfl,r⟩
theorem bA.eraseIdx:∀{xs:List V} {us:List Value} (i:Nat),bA xs us->bA (xs.eraseIdx i) (us.eraseIdx i)
 |_,_,_,.nil=>.nil
 |_,_,0,.cons _ t=>t
 |_,_,i+1,.cons r t=>.cons r (bA.eraseIdx i t)
theorem bA.reverse {xs:List V}{us:List Value}(h:bA xs us):bA xs.reverse us.reverse:=by
 induction h with
 |nil=>exact .nil
 |cons r t ih=>rw[ek,ek]; exact bA.append ih (.cons r .nil)
theorem bA.rep {xs:List V}{us:List Value}(h:bA xs us):∀k:Nat,bA (ak k xs).flatten (ak k us).flatten
 |0=>.nil
 |k+1=>by
  rw[bJ,bJ,cP,cP]
  exact bA.append h (bA.rep h k)
theorem Pf {α:Type}:∀(l:List α) (i:Nat),(l.eraseIdx i).length<=l.length
 |[],_=>aE _
 |_::_,0=>fO _
 |_::r,i+1=>Nat.succ_le_succ (Pf r i)
theorem Pg (its:List Value):∀(k:Nat) (acc:List Value),
  nN (λx1 x2=>x1++x2) acc.toArray (ak k its.toArray)=(acc++(ak k its).flatten).toArray
 |0,acc=>by simp
 |k+1,acc=>by
  have e:acc.toArray++its.toArray=(acc++its).toArray:=by simp
  have e2:(acc++its)++(ak k its).flatten=acc++(ak (k+1) its).flatten:=by
   rw[bJ,cP,bT]
  rw[← e2,← Pg its k (acc++its),← e,bJ,jW]
section
variable {X:Cx}{pins:List (Addr×Obj)}{σ:St}{H:Hp}{s:Shared}{l b:Addr}{xs ys zs:List V}
theorem Inv.lset {its its':List Value}{n:Nat}{f:Array Value->Array Value}{t':Nat}(I:Inv X pins σ H s)(hH:H l=some (.lst xs))
    (e:s.heap.get? l=some { cls:=.type "list",data:=.seq its.toArray n }) (hf:f its.toArray=its'.toArray) (hv:bA ys its') (hz:ys.length<=sizeLine) :
    Inv X pins σ (cC H l (.lst ys)) { s with heap:=s.heap.update l (Obj.mapSeq f),toks:=t' }:=by
  have q:=PySem.IsL.update e f
  rw[hf]at q
  refine I.write (x:=l) (e:=l) (by rw[hH]; exact trivial) (.inl rfl) (λb' u hb hu=>(gk s.heap (Obj.mapSeq f) (Ne.symm hb)).trans hu) ⟨_,q⟩ ?_
  exact⟨hz,its',_,hv,q⟩
theorem Inv.lnew {its:List Value}{t':Nat}(I:Inv X pins σ H s)(hv:bA ys its)(hz:ys.length<=sizeLine) :
    Inv X pins σ (cC H s.heap.objs.size (.lst ys)) { s with heap:=s.heap.push { cls:=.type "list",data:=.seq its.toArray },toks:=t' } :=
  I.laid (λ_ _ q=>ay _ q) (aE _) ⟨hz,its,0,hv,bn _ rfl⟩
theorem Inv.fresh (I:Inv X pins σ H s):H s.heap.objs.size=none:=I.hok.fresh (aE _)
theorem Inv.lstM (I:Inv X pins σ H s)(hH:H l=some (.lst xs)):xs.length<=sizeLine/\∃(its:List Value) (n:Nat),bA xs its/\xs.length=its.length/\s.heap.get? l=some { cls:=.type "list",data:=.seq its.toArray n }:=by
  obtain⟨z,its,n,r,e⟩:=I.hok l _ hH
  exact⟨z,its,n,r,r.length,e⟩
theorem pJ {n:Nat}(h:n<=sizeLine):Builtin.List.listTooLong n=false:=by
 unfold Builtin.List.listTooLong
 exact decide_eq_false (by omega)
end
section
variable {X:Cx}
def sL:V->List V->Hp->VK->Prop:=λx vs H Q=>∃l xs y,x=.ref l/\vs=[y]/\H l=some (.lst xs)/\xs.length<sizeLine/\Q .non (cC H l (.lst (xs++[y])))
theorem FV:M8 X "list.append" sL:=by
 intro pins s σ H x vs v us Q I rx rv h
 obtain⟨l,xs,y,rfl,rfl,hH,hz,q⟩:=h
 cases rx
 obtain⟨u,rfl,ru⟩:=rv.one
 obtain⟨z,its,n,r,hl,e⟩:=I.lstM hH
 refine call_meets F.slot_list_append ⟨_,e,rfl⟩ F.entry_list_append (F.args_list_append_2 _ _) (PySem.list_append l its.toArray n u (by rw[aD]; omega)) ⟨e,?_⟩
 refine⟨.non,_,I.lset (its':=its++[u]) hH e (by simp) (r.append (.cons ru .nil)) ?_,rfl,q⟩
 rw[aI,bQ]
 omega
def Bn:V->List V->Hp->VK->Prop:=λx vs H Q=>∃l xs i k y,x=.ref l/\vs=[.int i]/\H l=some (.lst xs)/\-(2 ^ 63)<=i/\i<2 ^ 63/\seqIndex? i xs.length=some k/\xs[k]?=some y/\Q y (cC H l (.lst (xs.eraseIdx k)))
theorem PN:M8 X "list.pop" Bn:=by
 intro pins s σ H x vs v us Q I rx rv h
 obtain⟨l,xs,i,k,y,rfl,rfl,hH,h1,h2,hk,hy,q⟩:=h
 cases rx
 obtain⟨u,rfl,ru⟩:=rv.one
 obtain⟨t,rfl⟩:=ru
 obtain⟨z,its,n,r,hl,e⟩:=I.lstM hH
 obtain⟨w,hw,kE⟩:=r.get hy
 refine call_meets F.slot_list_pop ⟨_,e,rfl⟩ F.entry_list_pop (F.args_list_pop_2 _ _)
  (MeetsSeq.list_pop_at l its.toArray n i t k w (fitsIndex_both h1 h2) (by rw[aD,← hl]; exact hk) (by rw[← Array.getElem?_toList]; exact hw) (by rw[aD]; omega)) ⟨e,?_⟩
 refine⟨y,_,I.lset (its':=its.eraseIdx k) hH e ?_ (r.eraseIdx k) ?_,kE,q⟩
 ·show its.toArray.eraseIdxIfInBounds k=(its.eraseIdx k).toArray
  rw[List.eraseIdxIfInBounds_toArray]
 ·have:=Pf xs k
  omega
theorem Yv {α:Type}(xs:List α)(k:Nat):(ak k xs).flatten.length=k * xs.length:=by
 induction k with
 |zero=>simp
 |succ k ih=>rw[bJ,cP,aI,ih,Nat.succ_mul,Nat.add_comm]
end
section
variable {prog:Program}{w:World}{A:Around}{E:Value->Shared->Prop}{s:Shared}
end
section
variable {X:Cx}
end
end L2
namespace Att
open PySem PySem.W PySem.Calls PyProof.Rows
theorem Vc {P:Params}{h:Heap}:∀(ns:List Int) (vs:List Value),WellAll P h vs (ns.map WData.int)->IntsAre vs ns:=by
 intro ns
 induction ns with
 |nil =>
  intro vs w
  rw[eY]at w
  cases w
  exact .nil
 |cons n ns ih =>
  intro vs w
  rw[aC]at w
  cases w with
  |cons a b =>
   cases a
   exact .cons _ _ (ih _ b)
theorem Wf {l:OpenLaw}{n:Nat}(hn:l.most=some n){P:Params}{h:Heap}{args:List WData}{vals:List Value}
    (sn:l.row.toRowW.claim.pre args=true) (De:WellAll P h vals args) :
    ∃a vs ns,vals=[Value.ref a]/\args=[WData.list (ns.map WData.int)]/\h.get? a=some { cls:=.type "list",data:=.seq vs.toArray }/\IntsAre vs ns/\ns.length<=n:=by
  have TC:WShape.hasAll [] args [.list .int]=true:=(pre_splitW sn).1
  have hc:l.pre.holds [] { args:=args }=true:=(pre_splitW sn).2
  obtain⟨d,r,rfl,h1,h2⟩:=hasAllW_cons TC
  obtain rfl:=hasAllW_nil h2
  obtain⟨xs,rfl,h3⟩:=hasW_list h1
  obtain⟨ns,rfl⟩:=items_int h3
  have dI:ns.length<=n:=by
    unfold OpenLaw.pre at hc
    have h4:(WTm.not (.lt (.lit (.int (n:Int))) (.len (.arg 0)))).holds [] { args:=[.list (ns.map .int)] }=true:=by
      have h4:=(holds_andW hc).1
      rw[hn]at h4
      exact h4
    have h5:=condW_of h4 (w_not (w_lt w_lit (w_len_list (w_arg rfl))))
    rw[am]at h5
    refine Nat.le_of_not_lt λq=>?_
    have q':(n:Int)<((ns.length:Nat):Int):=by omega
    first
      |(rw[decide_eq_true q']at h5; exact absurd h5 (by decide))
      |(simp at h5; omega)
  cases De with
  |cons w1 w2 =>
    cases w2
    cases w1 with
    |list ho sg=>exact⟨_,_,ns,rfl,rfl,ho,Vc ns _ sg,dI⟩
theorem Wg (l:OpenLaw)(args:List WData):l.row.toRowW.claim.post args (.bool true) args=true :=
  postW_of (r:=l.row.toRowW) (X:=(true == true))
    (show WShape.has [] (.bool true) .bool=true by first|rfl|decide|simp[WShape.has,WShape.arms,WShape.armsAll])
    (show(WTm.eq .res (.lit (.bool true))).value [] { args:=args,res:=some (.bool true),after:=args }=some (.bool (true == true))from w_eq_bool (w_res rfl) w_lit) rfl
theorem attach_call {l:OpenLaw}{n:Nat}{q:Program}{loose:List Str}{XP:(Str->Option Value)->Heap->Prop}{YP:World->Heap->Prop}{d:DefRec}
    (hn:l.most=some n) (CO:d.params.defaults=[])
    (call:∀(w:World) (s₀ s₁:Shared) (mg mb:Str->Option Value) (fa:Addr) (o:Obj) (pm cd doc:Value) (a:Addr) (vs:List Value) (ns:List Int),
      Ground q loose [] XP w s₀ mg mb s₁.heap->YP w s₁.heap ->
      s₁.heap.get? fa=some o->o.data=.func (docDef d.name d.params d.body d.scope pm cd doc)->s₁.heap.CodeRec cd d.name->mg d.name=some (.ref fa) ->
      s₁.heap.get? a=some { cls:=.type "list",data:=.seq vs.toArray }->IntsAre vs ns->ns.length<=n->s₁.gens = #[] ->
      codeAny (model l.prog w) callerA (.call (.ref fa) ⟨[.ref a],[]⟩) (λr s'=>r=.ok (.ret (.bool true))/\OldK s₁.heap s'.heap/\s'.os=s₁.os/\AllBare s'.gens) s₁) :
    WalkO q loose XP YP l.row.toRowW d [] (λf vs=>PySem.call f vs):=by
  intro w s₀ s₁ mg mb G Y fa o pm cd doc dV kV ho hd gA hD hmg hg args vals as sn Tq hrd De hlo
  obtain rfl:dV=.none:=Dflts.none hD CO
  obtain rfl:kV=.none:=Dflts.noKw hD
  obtain⟨a,vs,ns,rfl,rfl,zI,pB,dI⟩:=Wf hn sn De
  refine enter_call (codeAny_mono (call w s₀ s₁ mg mb fa o pm cd doc a vs ns G Y ho (fd_plain hd) gA hmg zI pB dI hg) λr s' hq=>?_)
  obtain⟨rfl,h2,h3,h4⟩:=hq
  exact⟨.inl ⟨.bool true,.bool true,[],rfl,λ_=>rfl,.bool true,Wg l _,λ_=>⟨eJ.nil,λ_ hm=>(nomatch hm)⟩⟩,h2,h3,h4⟩
section
variable {prog:Program}{w:World}{A:Around}{E:Value->Shared->Prop}{s:Shared}{K:Frag}
end
end Att
namespace L2
open PySem PySem.Spec PyProof.Rows
theorem LP:∀{vs:List Value} {ns:List Int},IntsAre vs ns->bA (ns.map V.int) vs
 |_,_,.nil=>.nil
 |_,_,.cons n t h=>.cons ⟨t,rfl⟩ (LP h)
def uI (H:Hp):Prop:=∀b,H b=none\/∃o xs,H b=some (.frz o (.lst xs))
theorem Xf {P:Program}{w:World}{K:ae}{mg mb:Str->Option Value}{CX:oH}{k:Nat}{fa a:Addr}{fd:FuncData}{x:Str}{sp:Sp}{s₁:Shared}{vs:List Value}{ns:List Int}
    (KX:K.In s₁.heap) (gB:s₁.heap.Ns mainGlobals mg) (hb:s₁.heap.Ns builtinsNs mb) (Ta:∀x:Str,x≠"__name__"->mb x=bootBuiltins x) (Ip:s₁.heap.NoLimit) (hg:s₁.gens = #[])
    (ha:s₁.heap.get? a=some { cls:=.type "list",data:=.seq vs.toArray }) (hi:IntsAre vs ns) (hl:ns.length<=sizeLine) (hr:dz k callerA)
    (F:∀base:Heap,K.In base->base.Ns mainGlobals mg->bM P w K mg base CX k fa fd [x] sp) (CM:∀(s:Shared) (u:Value),BindsTo s fd ⟨[u],[]⟩ [(x,u)])
    (tO:∀H:Hp,uI H->d5 K H a (ns.map V.int)->sp [.ref a] H (λv _=>v=.bl true) λ_ _ _=>False)
    (HR:∀H e s',CX [] H s₁ (λ_ _ _=>False) e s'->False) :
    codeAny (model P w) callerA (.call (.ref fa) ⟨[.ref a],[]⟩) (λr s'=>r=.ok (.ret (.bool true))/\OldK s₁.heap s'.heap/\s'.os=s₁.os/\AllBare s'.gens) s₁:=by
  have rv:=LP hi
  have IS:=hi.length
  have core:∀H:Hp,uI H->d5 K H a (ns.map V.int)->ir P w H s₁.heap->(∀b,H b≠none->b=a)->(H a≠none->K.lookup a=none) ->
      codeAny (model P w) callerA (.call (.ref fa) ⟨[.ref a],[]⟩) (λr s'=>r=.ok (.ret (.bool true))/\OldK s₁.heap s'.heap/\s'.os=s₁.os/\AllBare s'.gens) s₁:=by
    intro H hO hS hok hA hK
    have ny:∀{b:Addr} {o:Obj},s₁.heap.get? b=some o->H b=none->(lA s₁.heap H).get? b=some o:=λe n=>WQ e n
    have Dw:∀{b:Addr} {o:Obj} {es:Array DictEntry} {ep:Nat},s₁.heap.get? b=some o->o.data=.dict es ep->H b=none:=λ{b o es ep} e d=>by
      cases q:H b with
      |none=>rfl
      |some u =>
        have e':b=a:=hA b (by rw[q]; simp)
        subst e'
        rw[ha]at e; cases e
        have d':Data.seq vs.toArray _=Data.dict es ep:=d
        cases d'
    have FG:∀{b:Addr} {m:Str->Option Value},s₁.heap.Ns b m->(lA s₁.heap H).Ns b m:=λ{b m} ⟨o,es,ep,e,d,r⟩=>⟨o,es,ep,ny e (Dw e d),d,r⟩
    have Nu:K.In (lA s₁.heap H):=λb o e=>ny (KX b o e) (by
      cases q:H b with
      |none=>rfl
      |some u =>
        have e':b=a:=hA b (by rw[q]; simp)
        subst e'
        rw[hK (by rw[q]; simp)]at e; cases e)
    have hM:Mod K mg (lA s₁.heap H):=⟨Nu,FG gB,⟨mb,FG hb,Ta⟩,let⟨mc,h1,h2⟩:=Ip; ⟨mc,FG h1,h2⟩⟩
    have e0:mM P w K mg (lA s₁.heap H) callerA [] s₁ H:=⟨rfl,hM,λb o e=>Yg e,Nat.le_of_eq (Ws _ _),trivial,λb hb=>absurd (show b∈([]:List Addr)from hb) (by simp),hok,.of_eq hg⟩
    refine codeAny_mono ((F _ Nu (FG gB)).run callerA [] s₁ H ⟨[.ref a],[]⟩ [.ref a] [.ref a] _ _ hr e0 (CM s₁ (.ref a)) (.cons rfl .nil) (tO H hO hS)) λr s' h=>?_
    cases r with
    |error e=>exact(HR H e s' h).elim
    |ok fl =>
      cases fl with
      |next=>exact False.elim h
      |brk=>exact False.elim h
      |cont=>exact False.elim h
      |ret u =>
        obtain⟨v,H',os,bare,un,Iw,r',q⟩:=h
        have q':v=.bl true:=q
        subst q'
        obtain rfl:u=Value.bool true:=r'
        refine⟨rfl,OldK.of_keep λb o e=>?_,os,bare⟩
        cases q:H b with
        |none=>exact un.keep b o e q (by intro z; exact absurd (show b∈([]:List Addr)from z) (by simp)) (by simp)
        |some u =>
          rcases hO b with z|⟨ob,xs,z⟩
          · rw[q]at z; cases z
          · have z2:=un.frzs b ob _ z
            obtain⟨e1,_⟩:=hok b _ z
            obtain⟨e2,_⟩:=Iw b _ z2
            rw[e]at e1; cases e1
            exact e2
  cases hk:K.lookup a with
  |some o =>
    have e:=KX a o hk
    rw[ha]at e
    cases e
    refine core (λ_=>none) (λ_=>.inl rfl) (.inr ⟨_,vs.toArray,_,hk,rfl,rfl,rfl,by rw[aD,IS]; exact hl,by simpa using rv⟩) (λb u z=>by have z':(none:Option HO)=some u:=z; cases z') (λb z=>absurd rfl z) λz=>absurd rfl z
  |none =>
    refine core (λb=>if b=a then some (.frz { cls:=.type "list",data:=.seq vs.toArray } (.lst (ns.map V.int)))else none) (λb=>?_) (.inl (.inr ⟨{ cls:=.type "list",data:=.seq vs.toArray },if_pos rfl⟩)) (λb u z=>?_) (λb z=>?_) λ_=>hk
    · by_cases hb:b=a
      · exact .inr ⟨_,_,if_pos hb⟩
      · exact .inl (if_neg hb)
    · by_cases hb:b=a
      · have z':=(if_pos hb).symm.trans z
        cases z'
        subst hb
        exact⟨ha,by rw[am]; exact hl,vs,_,rv,ha⟩
      · have z':=(if_neg hb).symm.trans z
        cases z'
    · by_cases hb:b=a
      · exact hb
      · exact absurd (if_neg hb) z
end L2
namespace L2
open PySem PySem.Spec PyProof.Rows
theorem walk_of {l:jC}{n k:Nat}{q:Program}{loose:List Str}{XP:(Str->Option Value)->Heap->Prop}{YP:World->Heap->Prop}{d:DefRec}{K:Params->ae}{CX:World->oH}{sp:World->Sp}{x:Str}
  (hn:l.most=some n) (tK:n<=sizeLine) (CO:d.params.defaults=[]) (hr:dz k callerA)
  (hY:∀(w:World) (h:Heap),YP w h->(K w.params).In h)
  (F:∀(w:World) (mg:Str->Option Value) (fa:Addr) (h:Heap),(K w.params).In h->h.Ns mainGlobals mg->mg d.name=some (.ref fa) ->
   ∃fd:FuncData,(∀(s:Shared) (u:Value),BindsTo s fd ⟨[u],[]⟩ [(x,u)]) /\
    ∀base:Heap,(K w.params).In base->base.Ns mainGlobals mg->bM l.prog w (K w.params) mg base (CX w) k fa fd [x] (sp w))
  (tO:∀(w:World) (H:Hp) (a:Addr) (ns:List Int),ns.length<=n->uI H->d5 (K w.params) H a (ns.map V.int)->sp w [.ref a] H (λv _=>v=.bl true) λ_ _ _=>False)
  (HR:∀(w:World) (H:Hp) (s:Shared) (e:Value) (s':Shared),CX w [] H s (λ_ _ _=>False) e s'->False) :
  oT q loose XP YP l.row.toRowW d [] (λf vs=>PySem.call f vs):=by
 refine Att.attach_call hn CO λw s₀ s₁ mg mb fa o pm cd doc a vs ns G Y ho hd gA hmg zI pB dI hg=>?_
 have KX:=hY w _ Y
 obtain⟨fd,hb,hF⟩:=F w mg fa _ KX G.T.g hmg
 exact Xf KX G.T.g G.T.b G.T.builtins G.T.nolimit hg zI pB (bG dI tK) hr hF hb (λH hO hS=>tO w H a ns dI hO hS) λH e s'=>HR w H s₁ e s'
end L2
namespace L2
open PySem PySem.Spec PyProof.Rows
def inClass (s:Stmt)(j:Nat):Stmt:=match s with
 |.ClassDef _ _ _ body _ _ _ _ _ _ _=>body.getD j (.Pass ⟨0,0,0,0⟩)
 |_=>.Pass ⟨0,0,0,0⟩
def ap (s:Stmt):Arguments:=match s with
  |.FunctionDef _ a _ _ _ _ _ _ _ _=>a
  |_=>{ posonlyargs:=[],args:=[],vararg:=none,kwonlyargs:=[],kw_defaults:=[],kwarg:=none,defaults:=[] }
def aj (s:Stmt):List Stmt:=match s with
 |.FunctionDef _ _ b _ _ _ _ _ _ _=>b
 |_=>[]
def ah (s:Stmt):Scope:=match s with
  |.FunctionDef _ _ _ _ _ _ sc _ _ _=>sc
  |_=>{ kind:=.function,names:=[],isGenerator:=false,isCoroutine:=false }
abbrev dR:oH:=λ_ _ _ _ _ _=>False
abbrev E0:XK:=λ_ _ _=>False
theorem kS {X:Cx}:gJ dR X E0:=λ_ _ _ _ _ _ _ h=>h.elim
section
variable {P:Program}{w:World}{K:ae}{mg:Str->Option Value}{base:Heap}
end
theorem uC {A:Around}{k:Nat}(hr:dz k A):A.units+1<cLine:=iO (Nat.add_le_add_left (by decide:1<=64) _) hr.units
theorem ot {n:Nat}(h:n<=1000):n<sizeLine:=iO h (by decide)
section
variable {X:Cx}
end
def bw (H H':Hp):Prop:=∀b o,H b=some o->H' b=some o
theorem bw.refl (H:Hp):bw H H:=λ_ _ h=>h
theorem bw.trans {H H1 H2:Hp}(a:bw H H1)(b:bw H1 H2):bw H H2:=λc o h=>b c o (a c o h)
theorem bw.free {H H':Hp}(e:bw H H'){l:Addr}(h:H' l=Option.none):H l=Option.none:=by
 cases q:H l with
 |none=>rfl
 |some o =>
  rw[e l o q]at h
  cases h
theorem bw.seq {K:ae}{H H':Hp}{a:Addr}{xs:List V}(e:bw H H')(h:d5 K H a xs):d5 K H' a xs:=by
 rcases h with(h|⟨o,h⟩)|h
 ·exact .inl (.inl (e _ _ h))
 ·exact .inl (.inr ⟨o,e _ _ h⟩)
 ·exact .inr h
end L2
namespace L2
open PySem PySem.Spec PyProof.Rows
section
variable {κ:Type}[DecidableEq κ]
def fS (kvs:List (κ×V))(k:κ):Option V:=(kvs.find? λkv=>decide (kv.1=k)).map (·.2)
def putK (kvs:List (κ×V))(k:κ)(v:V):List (κ×V) :=
 if(kvs.any λkv=>decide (kv.1=k))=true then kvs.map (λkv=>if kv.1=k then(kv.1,v)else kv)else kvs++[(k,v)]
theorem LW {p:κ×V}{r:List (κ×V)}{k:κ}(e:p.1=k):fS (p::r) k=some p.2:=by simp[fS,bU,e]
theorem L5 {p:κ×V}{r:List (κ×V)}{k:κ}(e:¬p.1=k):fS (p::r) k=fS r k:=by simp[fS,bU,e]
theorem PQ (k:κ):∀kvs:List (κ×V),(kvs.any λkv=>decide (kv.1=k))=(fS kvs k).isSome
 |[]=>rfl
 |p::r=>by
  rw[dA]
  by_cases e:p.1=k
  ·simp only[LW e,decide_eq_true e,Bool.true_or,Option.isSome_some]
  ·rw[L5 e,decide_eq_false e,Bool.false_or]; exact PQ k r
theorem OQ (kvs:List (κ×V))(k:κ)(v:V):(putK kvs k v).length<=kvs.length+1:=by
 unfold putK
 split
 ·rw[am]; omega
 ·rw[aI,aJ,List.length_nil]; omega
theorem gU.isSome_eq {o:Option V}{u:Option Value}(r:gU o u):o.isSome=u.isSome:=by
 cases o with
 |none=>cases u with
  |none=>rfl
  |some _=>exact(show False from r).elim
 |some _=>cases u with
  |none=>exact(show False from r).elim
  |some _=>rfl
theorem KV.val {kvs:List (κ×V)}{vs:List (κ×Value)}(r:KV kvs vs)(k:κ):gU (fS kvs k) (valueAt vs k):=by
 unfold KV at r
 induction r with
 |nil=>exact True.intro
 |@cons p q ps qs h t ih =>
  obtain⟨h1,h2⟩:=h
  by_cases e:p.1=k
  ·have e':q.1=k:=h1.symm.trans e
   have b:valueAt (q::qs) k=some q.2:=by simp[valueAt,bU,e']
   rw[LW e,b]; exact h2
  ·have e':¬q.1=k:=λz=>e (h1.trans z)
   have b:valueAt (q::qs) k=valueAt qs k:=by simp[valueAt,bU,e']
   rw[L5 e,b]; exact ih
theorem KV.any {kvs:List (κ×V)}{vs:List (κ×Value)}(r:KV kvs vs)(k:κ):(kvs.any λkv=>decide (kv.1=k))=vs.any λkv=>decide (kv.1=k):=by
 unfold KV at r
 induction r with
 |nil=>rfl
 |cons h t ih=>rw[dA,dA,ih,h.1]
theorem KV.repl {kvs:List (κ×V)}{vs:List (κ×Value)}(r:KV kvs vs)(k:κ){y:V}{u:Value}(ry:RelV y u) :
  KV (kvs.map λkv=>if kv.1=k then(kv.1,y)else kv) (vs.map λkv=>if kv.1=k then(kv.1,u)else kv):=by
 unfold KV at r ⊢
 induction r with
 |nil=>exact .nil
 |@cons p q ps qs h t ih =>
  rw[aC,aC]
  refine .cons ?_ ih
  obtain⟨h1,h2⟩:=h
  by_cases e:p.1=k
  ·rw[if_pos e,if_pos (h1.symm.trans e)]; exact⟨h1,ry⟩
  ·rw[if_neg e,if_neg (λz=>e (h1.trans z))]; exact⟨h1,h2⟩
theorem KV.put {kvs:List (κ×V)}{vs:List (κ×Value)}(r:KV kvs vs)(k:κ){y:V}{u:Value}(ry:RelV y u):KV (putK kvs k y) (stored vs k u):=by
 unfold putK stored
 rw[r.any k]
 by_cases e:(vs.any λkv=>decide (kv.1=k))=true
 ·rw[if_pos e,if_pos e]; exact r.repl k ry
 ·rw[if_neg e,if_neg e]; exact Paired.snoc r ⟨rfl,ry⟩
theorem KV.length {kvs:List (κ×V)}{vs:List (κ×Value)}(r:KV kvs vs):kvs.length=vs.length:=Paired.length r
end
theorem Ef {P:Program}{w:World}{k:Key}{u:Value}(r:RelV (kV k) u):(dL P w).is k u=true:=by
 cases k with
 |inl i=>obtain⟨t,e⟩:=(show∃t,u=Value.int i t from r); subst e; exact VS P w i t
 |inr x=>obtain⟨t,e⟩:=(show∃t,u=Value.str x t from r); subst e; exact VT P w x t
theorem Ph {P:Program}{w:World}:∀{ks:List Key} {us:List Value},bA (ks.map kV) us->ItemsAre (dL P w) ks us
 |[],_,r=>by rw[eY]at r; cases r; exact .nil
 |k::ks,_,r=>by
  rw[aC]at r
  cases r with
  |cons h t=>exact .cons (Ef h) (Ph t)
abbrev KT (H:Hp):List (List Key×V)->List (List Key×Addr×Value)->Prop:=Paired λp q=>p.1=q.1/\H q.2.1=some (.tup (p.1.map kV))/\RelV p.2 q.2.2
theorem KT.val {H:Hp}{kvs:List (List Key×V)}{xs:List (List Key×Addr×Value)}(r:KT H kvs xs)(k:List Key):gU (fS kvs k) ((atKey xs k).map (·.2)):=by
 induction r with
 |nil=>exact True.intro
 |@cons p q ps qs h t ih =>
  obtain⟨h1,_,h2⟩:=h
  by_cases e:p.1=k
  ·have e':q.1=k:=h1.symm.trans e
   have b:atKey (q::qs) k=some q.2:=by simp[atKey,bU,e']
   rw[LW e,b]; exact h2
  ·have e':¬q.1=k:=λz=>e (h1.trans z)
   have b:atKey (q::qs) k=atKey qs k:=by simp[atKey,bU,e']
   rw[L5 e,b]; exact ih
theorem KT.repl {H:Hp}{kvs:List (List Key×V)}{xs:List (List Key×Addr×Value)}(r:KT H kvs xs)(k:List Key){y:V}{u:Value}(ry:RelV y u) :
  KT H (kvs.map λkv=>if kv.1=k then(kv.1,y)else kv) (xs.map (putAt k u)):=by
 induction r with
 |nil=>exact .nil
 |@cons p q ps qs h t ih =>
  rw[aC,aC]
  refine .cons ?_ ih
  obtain⟨h1,h2,h3⟩:=h
  unfold putAt
  by_cases e:p.1=k
  ·rw[if_pos e,if_pos (h1.symm.trans e)]; exact⟨h1,h2,ry⟩
  ·rw[if_neg e,if_neg (λz=>e (h1.trans z))]; exact⟨h1,h2,h3⟩
theorem KT.put {H:Hp}{kvs:List (List Key×V)}{xs:List (List Key×Addr×Value)}(r:KT H kvs xs)(k:List Key){b:Addr}{y:V}{u:Value}(hb:H b=some (.tup (k.map kV)))(ry:RelV y u) :
  KT H (putK kvs k y) (storedH xs k b u):=by
 have e:(kvs.any λkv=>decide (kv.1=k))=(atKey xs k).isSome:=by
  rw[PQ,(r.val k).isSome_eq,iy]
 unfold putK storedH
 rw[e]
 by_cases q:(atKey xs k).isSome=true
 ·rw[if_pos q,if_pos q]; exact r.repl k ry
 ·rw[if_neg q,if_neg q]; exact Paired.snoc r ⟨rfl,hb,ry⟩
theorem KT.keeps {H H':Hp}{kvs:List (List Key×V)}{xs:List (List Key×Addr×Value)}(r:KT H kvs xs)(ht:∀b ys,H b=some (.tup ys)->H' b=some (.tup ys)):KT H' kvs xs :=
 Paired.mapP r λ_ _ z=>⟨z.1,ht _ _ z.2.1,z.2.2⟩
section
variable {P:Program}{w:World}{H:Hp}{h:Heap}{a:Addr}
theorem Q8 {u:HO}(ok:ir P w H h)(e:Rd H a u):cN P w H h a u:=e.ok ok
theorem Cf {kvs:List (Key×V)}(ok:ir P w H h)(e:Rd H a (.dK kvs)):kvs.length<=sizeLine/\(a == sysModules)=false/\∃vs,KV kvs vs/\h.DictOf (dL P w) a vs :=
 show cN P w H h a (.dK kvs)from Q8 ok e
theorem ztt {kvs:List (Key×V)}(ok:ir P w H h)(e:H a=some (.dK kvs)):kvs.length<=sizeLine/\(a == sysModules)=false/\∃vs,KV kvs vs/\h.DictOf (dL P w) a vs:=Cf ok (.inl e)
theorem D9 {ks:List Key}(ok:ir P w H h)(e:H a=some (.tup (ks.map kV))):(tupleKind (dL P w)).is h ks a:=by
 obtain⟨_,its,r,o,h1,h2,n,h3⟩:=(show cN P w H h a (.tup (ks.map kV))from ok a _ e)
 exact⟨o,its.toArray,n,h1,h2,h3,by simpa using Ph r⟩
theorem Eg {kvs:List (List Key×V)}(ok:ir P w H h)(e:Rd H a (.dT kvs)):kvs.length<=sizeLine/\(a == sysModules)=false /\
  ∃xs,KT H kvs xs/\h.DictOfH (tupleKind (dL P w)) a xs:=by
 obtain⟨z,y,xs,r,o,es,ep,h1,h2,h3,h4,h5⟩:=(show cN P w H h a (.dT kvs)from Q8 ok e)
 refine⟨z,y,xs,r,o,es,ep,h1,h2,h3,h4,λx hx=>?_,h5⟩
 have all:∀{l:List (List Key×V)} {m:List (List Key×Addr×Value)},KT H l m->∀x∈m,(tupleKind (dL P w)).is h x.1 x.2.1:=by
  intro l m q
  induction q with
  |nil=>intro x hx; exact nomatch hx
  |@cons p q ps qs hq t ih =>
   intro x hx
   rcases aA.mp hx with e|hx
   ·subst e
    exact D9 ok (by rw[← hq.1]; exact hq.2.1)
   ·exact ih x hx
 exact all r x hx
theorem ztu {kvs:List (List Key×V)}(ok:ir P w H h)(e:H a=some (.dT kvs)):kvs.length<=sizeLine/\(a == sysModules)=false /\
  ∃xs,KT H kvs xs/\h.DictOfH (tupleKind (dL P w)) a xs:=Eg ok (.inl e)
end
def iz (H:Hp)(a:Addr)(y:V)(r:Option V):Prop :=
 (∃kvs k,Rd H a (.dK kvs)/\y=kV k/\r=fS kvs k)\/∃kvs k b,Rd H a (.dT kvs)/\y=.ref b/\H b=some (.tup (k.map kV))/\r=fS kvs k
def ky (H:Hp)(a:Addr)(y v:V)(H':Hp):Prop :=
 (∃kvs k,H a=some (.dK kvs)/\y=kV k/\kvs.length<sizeLine/\H'=cC H a (.dK (putK kvs k v))) \/
 ∃kvs k b,H a=some (.dT kvs)/\y=.ref b/\H b=some (.tup (k.map kV))/\kvs.length<sizeLine/\H'=cC H a (.dT (putK kvs k v))
theorem iz.k {H:Hp}{a:Addr}{kvs:List (Key×V)}{k:Key}(e:H a=some (.dK kvs)):iz H a (kV k) (fS kvs k):=.inl ⟨kvs,k,.inl e,rfl,rfl⟩
theorem iz.t {H:Hp}{a b:Addr}{kvs:List (List Key×V)}{k:List Key}(e:H a=some (.dT kvs))(eb:H b=some (.tup (k.map kV))):iz H a (.ref b) (fS kvs k):=.inr ⟨kvs,k,b,.inl e,rfl,eb,rfl⟩
theorem ky.k {H:Hp}{a:Addr}{kvs:List (Key×V)}{k:Key}{v:V}(e:H a=some (.dK kvs))(hl:kvs.length<sizeLine):ky H a (kV k) v (cC H a (.dK (putK kvs k v))):=.inl ⟨kvs,k,e,rfl,hl,rfl⟩
theorem ky.t {H:Hp}{a b:Addr}{kvs:List (List Key×V)}{k:List Key}{v:V}(e:H a=some (.dT kvs))(eb:H b=some (.tup (k.map kV)))(hl:kvs.length<sizeLine) :
  ky H a (.ref b) v (cC H a (.dT (putK kvs k v))):=.inr ⟨kvs,k,b,e,rfl,eb,hl,rfl⟩
section
variable {X:Cx}{pins:List (Addr×Obj)}{σ:St}{H:Hp}{s:Shared}{a:Addr}{y v:V}{u r:Value}{o:Option V}{A:Around}{E:Value->Shared->Prop}
theorem Inv.big (I:Inv X pins σ H s):sysModules<s.heap.objs.size:=by
 have h:mainGlobals<s.heap.objs.size:=(I.mod.glob.keeps I.bk).lt
 exact Nat.lt_trans (by decide) h
theorem Wi {Q:Value->Shared->Prop}(hu:A.units+1<cLine)(I:Inv X pins σ H s)(g:iz H a y (some v))(ry:RelV y u)(h:∀w' s',Inv X pins σ H s'->RelV v w'->Q w' s') :
  wpAny (model X.prog X.w) A (getItem (.ref a) u) Q E s:=by
 rcases g with⟨kvs,k,e,ey,l⟩|⟨kvs,k,b,e,ey,eb,l⟩
 ·subst ey
  obtain⟨z,hd,vs,rel,dd⟩:=Cf I.hok e
  obtain⟨w',hw,kE⟩:=gU.some_of (v:=v) (o:=valueAt vs k) (by rw[l]; exact rel.val k)
  exact wpAny_getItem_of (Ef ry) dd.mapOf hw (h w' _ (I.tok _) kE)
 ·subst ey
  cases(show u=Value.ref b from ry)
  obtain⟨z,hd,xs,rel,dd⟩:=Eg I.hok e
  obtain⟨w',hw,kE⟩:=gU.some_of (v:=v) (o:=(atKey xs k).map (·.2)) (by rw[l]; exact rel.val k)
  obtain⟨p,hp,zJ⟩:=cx.mp hw
  refine wpAny_getItem_heap (tupleKind_room_in1 hu) (D9 I.hok eb) dd hp ?_
  rw[zJ]
  exact h w' _ (I.tok _) kE
theorem Hr {Q:Value->Shared->Prop}(hu:A.units+1<cLine)(I:Inv X pins σ H s)(g:iz H a y o)(ry:RelV y u)(h:∀s',Inv X pins σ H s'->Q (.bool o.isSome) s') :
  wpAny (model X.prog X.w) A (compareOp .In u (.ref a)) Q E s:=by
 rcases g with⟨kvs,k,e,ey,l⟩|⟨kvs,k,b,e,ey,eb,l⟩
 ·subst ey
  obtain⟨z,hd,vs,rel,dd⟩:=Cf I.hok e
  refine wpAny_in_of (Ef ry) hd dd.mapOf ?_
  rw[← (rel.val k).isSome_eq,← l]
  exact h _ (I.tok _)
 ·subst ey
  cases(show u=Value.ref b from ry)
  obtain⟨z,hd,xs,rel,dd⟩:=Eg I.hok e
  refine wpAny_in_heap (tupleKind_room_in1 hu) (D9 I.hok eb) hd dd ?_
  have q:=(rel.val k).isSome_eq
  rw[iy]at q
  rw[← q,← l]
  exact h _ (I.tok _)
theorem Yw {Q:Value->Shared->Prop}(hu:A.units+1<cLine)(I:Inv X pins σ H s)(g:iz H a y o)(ry:RelV y u)(h:∀s',Inv X pins σ H s'->Q (.bool (!o.isSome)) s') :
  wpAny (model X.prog X.w) A (compareOp .NotIn u (.ref a)) Q E s:=by
 rcases g with⟨kvs,k,e,ey,l⟩|⟨kvs,k,b,e,ey,eb,l⟩
 ·subst ey
  obtain⟨z,hd,vs,rel,dd⟩:=Cf I.hok e
  refine wpAny_notIn_of (Ef ry) hd dd.mapOf ?_
  rw[← (rel.val k).isSome_eq,← l]
  exact h _ (I.tok _)
 ·subst ey
  cases(show u=Value.ref b from ry)
  obtain⟨z,hd,xs,rel,dd⟩:=Eg I.hok e
  refine wpAny_notIn_heap (tupleKind_room_in1 hu) (D9 I.hok eb) hd dd ?_
  have q:=(rel.val k).isSome_eq
  rw[iy]at q
  rw[← q,← l]
  exact h _ (I.tok _)
theorem P9 {h':Heap}{t':Nat}{ob:HO}(I:Inv X pins σ H s)(mu:Ct (H a))(hs:eX a s.heap h')(he:∃q,h'.get? a=some q)(new:cN X.prog X.w (cC H a ob) h' a ob) :
  Inv X pins σ (cC H a ob) { s with heap:=h',toks:=t' } :=
 I.write (x:=a) (e:=a) mu (.inl rfl) (λb q hb z=>(hs.2 b hb).trans z) he new
theorem Zt {P:Program}{w:World}{H':Hp}{h':Heap}{kvs:List (Key×V)}{vs:List (Key×Value)}(z:kvs.length<=sizeLine)(hd:(a == sysModules)=false)(rel:KV kvs vs)(dd:h'.DictOf (dL P w) a vs) :
  cN P w H' h' a (.dK kvs):=⟨z,hd,vs,rel,dd⟩
theorem Wj {H':Hp}{Q:Unit->Shared->Prop}(hu:A.units+1<cLine)(I:Inv X pins σ H s)(g:ky H a y v H')(ry:RelV y u)(rv:RelV v r)(h:∀s',Inv X pins σ H' s'->Q () s') :
  wpAny (model X.prog X.w) A (setItem (.ref a) u r) Q E s:=by
 rcases g with⟨kvs,k,e,ey,l,eH⟩|⟨kvs,k,b,e,ey,eb,l,eH⟩
 ·subst ey eH
  obtain⟨z,hd,vs,rel,dd⟩:=ztt I.hok e
  have hz:vs.length<=sizeLine:=by rw[← rel.length]; exact z
  have hl:(putK kvs k v).length<=sizeLine:=by have:=OQ kvs k v; omega
  refine wpAny_setItem_pairs (hsz:=hz) (Ef ry) dd λh' EG hs=>h _ ?_
  have he:∃q,h'.get? a=some q:=let⟨q,_,_,hq,_⟩:=EG; ⟨q,hq⟩
  exact P9 I (by rw[e]; exact True.intro) hs he (Zt hl hd (rel.put k rv) EG)
 ·subst ey eH
  cases(show u=Value.ref b from ry)
  obtain⟨z,hd,xs,rel,dd⟩:=ztu I.hok e
  have hz:xs.length<=sizeLine:=by rw[← Paired.length rel]; exact z
  have hl:(putK kvs k v).length<=sizeLine:=by have:=OQ kvs k v; omega
  refine wpAny_setItem_heap (hsz:=hz) (tupleKind_room_in1 hu) (D9 I.hok eb) dd λh' EG hs=>h _ ?_
  obtain⟨q,es,ep,hq,h2,h3,h4,_,h5⟩:=EG
  refine P9 I (by rw[e]; exact True.intro) hs ⟨q,hq⟩ ⟨hl,hd,_,(rel.put k eb rv).keeps λc ys ec=>?_,q,es,ep,hq,h2,h3,h4,h5⟩
  rw[yp (ztk ec e (λz=>nomatch z))]
  exact ec
end
section
variable {X:Cx}{pins:List (Addr×Obj)}{σ:St}{H:Hp}{s:Shared}{a:Addr}{kvs:List (Key×V)}{k:Key}{u:Value}{A:Around}{E:Value->Shared->Prop}
theorem ztv {Q:Value->Shared->Prop}(I:Inv X pins σ H s)(e:Rd H a (.dK kvs))(h:∀t s',Inv X pins σ H s'->Q (.int kvs.length t) s'):wpAny (model X.prog X.w) A (call (.builtin "len") [.ref a]) Q E s:=by
 obtain⟨z,hd,vs,rel,dd⟩:=Cf I.hok e
 refine call_len_dict hd dd (by rw[← rel.length]; rw[sizeLine_eq]at z; omega) ?_
 rw[← rel.length]
 exact h _ _ (I.tok _)
end
def uH (i:Expr):Prop:=∀ov iv,subscripted i false ov iv=operate [ov,iv] (getItem ov iv)
theorem Yx {prog:Program}{w:World}{A:Around}{E:Value->Shared->Prop}{s:Shared}{env:Env}{value slice:Expr}{pos:Pos}{T id:String}{Q:Value->Shared->Prop}
  (hl:typeLookup (.type T) "__getitem__"=pure (some (.builtin id))) (hs:uH slice)
  (h:wpAny (model prog w) A (eval value env) (λo s₁=>wpAny (model prog w) A (eval slice env) (λi s₂=>s₂.TypeIs o T/\wpAny (model prog w) A (getItem o i) Q E s₂) E s₁) E s) :
  wpAny (model prog w) A (eval (.Subscript value slice pos) env) Q E s:=by
 refine Subscript_ (wpAny_mono h (λo s₁ h₁=>wpAny_mono h₁ (λi s₂ h₂=>?_) λ_ _ x=>x) λ_ _ x=>x)
 obtain⟨hT,h₂⟩:=h₂
 unfold subscriptTail
 refine wpAny_bind ?_
 rw[getitemInPython_of_ne hT.not_modules]
 refine wpAny_bind (wpAny_specialOf hT hl ?_)
 have fin:wpAny (model prog w) A (subscripted slice false o i) (λr s₃=>wpAny (model prog w) A (letTemporaryGo value o r >>= λ_=>pure r) Q E s₃) E s₂:=by
  rw[hs o i]
  exact wpAny_operating (wpAny_mono h₂ (λr s₃ h₃=>wpAny_bind (wpAny_letTemporaryGo (wpAny_pure h₃))) λ_ _ x=>x)
 first
  |exact wpAny_pure (wpAny_bind fin)
  |exact wpAny_bind (wpAny_pure (wpAny_bind fin))
  |exact wpAny_bind fin
theorem VV {X:Cx}{pins:List (Addr×Obj)}{σ:St}{H:Hp}{s:Shared}{a:Addr}{y:V}{o:Option V}(I:Inv X pins σ H s)(g:iz H a y o):s.TypeIs (.ref a) "dict":=by
 rcases g with⟨kvs,k,e,_,_⟩|⟨kvs,k,b,e,_,_,_⟩
 ·obtain⟨_,_,vs,_,dd⟩:=Cf I.hok e
  exact dd.typeIs
 ·obtain⟨_,_,xs,_,dd⟩:=Eg I.hok e
  exact dd.typeIs
def DN (td ty:TE):TE:=λσ H Q=>td σ H λx H1=>ty σ H1 λy H2=>∃a v,x=.ref a/\iz H2 a y (some v)/\Q v H2
def Le (ty td:TE):TE:=λσ H Q=>ty σ H λy H1=>td σ H1 λx H2=>∃a o,x=.ref a/\iz H2 a y o/\Q (.bl o.isSome) H2
def sO (ty td:TE):TE:=λσ H Q=>ty σ H λy H1=>td σ H1 λx H2=>∃a o,x=.ref a/\iz H2 a y o/\Q (.bl (!o.isSome)) H2
def DJ (td ty tv:TE):TS:=λD σ H=>tv σ H λv H1=>td σ H1 λx H2=>ty σ H2 λy H3=>∃a H4,x=.ref a/\ky H3 a y v H4/\D.nx σ H4
section
variable {X:Cx}{o i e value:Expr}{pos pos' eD:Pos}{td ty tv:TE}
theorem Yy (hu:X.A.units+1<cLine)(ho:PE X o td)(hi:PE X i ty)(hs:uH i):PE X (.Subscript o i pos) (DN td ty):=by
 intro pins s σ H Q I h
 refine Yx PySem.F.slot_dict_getitem.lookup hs (cj (ho pins s σ H _ I h) λu s1 ⟨x,H1,I1,rx,q1⟩=>cj (hi pins s1 σ H1 _ I1 q1) λiv s2 ⟨y,H2,I2,ry,a,v,ex,g,q2⟩=>?_)
 subst ex
 obtain rfl:u=Value.ref a:=rx
 exact⟨VV I2 g,Wi hu I2 g ry λw' s3 I3 kE=>⟨v,H2,I3,kE,q2⟩⟩
theorem Z3 (hu:X.A.units+1<cLine)(hi:PE X i ty)(ho:PE X o td):PC X .In i o (Le ty td):=by
 intro pins s σ H Q I h
 refine cj (hi pins s σ H _ I h) λiv s1 ⟨y,H1,I1,ry,q1⟩=>cj (ho pins s1 σ H1 _ I1 q1) λu s2 ⟨x,H2,I2,rx,a,ov,ex,g,q2⟩=>?_
 subst ex
 obtain rfl:u=Value.ref a:=rx
 exact Hr hu I2 g ry λs3 I3=>⟨.bl ov.isSome,H2,I3,rfl,q2⟩
theorem WD (hu:X.A.units+1<cLine)(hi:PE X i ty)(ho:PE X o td):PC X .NotIn i o (sO ty td):=by
 intro pins s σ H Q I h
 refine cj (hi pins s σ H _ I h) λiv s1 ⟨y,H1,I1,ry,q1⟩=>cj (ho pins s1 σ H1 _ I1 q1) λu s2 ⟨x,H2,I2,rx,a,ov,ex,g,q2⟩=>?_
 subst ex
 obtain rfl:u=Value.ref a:=rx
 exact Yw hu I2 g ry λs3 I3=>⟨.bl (!ov.isSome),H2,I3,rfl,q2⟩
theorem Ql (hu:X.A.units+1<cLine)(ho:PE X o td)(hi:PE X i ty)(hv:PE X value tv)(hs:swapsWith value (some (.Subscript o i pos')) pos.line X.env=pure false) :
  PS X (.Assign [.Subscript o i pos'] value pos) (DJ td ty tv):=by
 intro pins s σ H D I h
 refine wpAny_Assign_Subscript (cj (hv pins s σ H _ I h) λr s1 ⟨v,H1,I1,rv,q1⟩=>cj (ho pins s1 σ H1 _ I1 q1) λu s2 ⟨x,H2,I2,rx,q2⟩=>cj (hi pins s2 σ H2 _ I2 q2) λiv s3 ⟨y,H3,I3,ry,a,H4,ex,g,q3⟩=>?_) hs
 subst ex
 obtain rfl:u=Value.ref a:=rx
 exact Wj hu I3 g ry rv λs4 I4=>⟨σ,H4,I4,q3⟩
end
theorem Xg {P:Program}{w:World}{H:Hp}(h:Heap)(hb:sysModules<h.objs.size):cN P w H (h.push { cls:=.type "dict",data:=.dict #[] }) h.objs.size (.dK []) :=
  ⟨bW _,beq_eq_false_iff_ne.mpr (Ne.symm (aV hb)),[],.nil,Heap.DictOf.new h⟩
def Bq:TE:=λ_ H Q=>∀p,H p=none->Q (.ref p) (cC H p (.dK []))
section
variable {X:Cx}{pos:Pos}
theorem Xh:PE X (.Dict [] [] pos) Bq:=λpins s σ H Q I h =>
 wpAny_Dict_empty ⟨.ref s.heap.objs.size,_,I.laid (a:=s.heap.objs.size) (o:=.dK []) (t':=s.toks) (λ_ _ q=>ay _ q) (aE _) (Xg s.heap I.big),rfl,h _ (I.hok.fresh (aE _))⟩
end
def RQ (H:Hp)(a:Addr):Prop:=(∃kvs,Rd H a (.dK kvs))\/∃kvs,Rd H a (.dT kvs)
section
variable {X:Cx}{pins:List (Addr×Obj)}{σ:St}{H:Hp}{s:Shared}{a:Addr}{y d:V}{u r:Value}{o:Option V}{A:Around}{E:Value->Shared->Prop}
end
section
variable {X:Cx}{o e f:Expr}{cO dD:Pos}{td ty tx:TE}
end
section
variable {X:Cx}{pins:List (Addr×Obj)}{σ:St}{H:Hp}{s:Shared}{a:Addr}{kvs:List (Key×V)}{A:Around}{E:Value->Shared->Prop}
end
section
variable {X:Cx}{pins:List (Addr×Obj)}{σ:St}{H:Hp}{s:Shared}{a:Addr}{y:V}{u:Value}{A:Around}{E:Value->Shared->Prop}
end
end L2
namespace L2
open PySem PySem.Spec PyProof.Rows
section
variable {X:Cx}
theorem WE:dB X (.builtin "len") (λxs H Q=>∃a kvs,xs=[V.ref a]/\H a=some (.dK kvs)/\Q (.int kvs.length) H):=by
 intro pins s σ H xs us Q I r h
 obtain⟨a,kvs,rfl,ha,q⟩:=h
 obtain⟨u,rfl,ru⟩:=vals1 r
 cases ru
 exact ztv I (.inl ha) λt s' I'=>⟨.int kvs.length,H,I',⟨t,rfl⟩,q⟩
end
end L2
namespace L2
open PySem
section
variable {κ:Type}[DecidableEq κ]
end
end L2
namespace L2
open PySem PySem.Spec PyProof.Rows
def Sz (n:Nat)(i:Int):Prop:=i.natAbs<2 ^ n
theorem Sz.bits {n:Nat}{i:Int}(h:Sz n i):Builtin.Int.intBits i<=n:=by
 unfold Builtin.Int.intBits
 by_cases h0:(i == 0)=true
 ·rw[if_pos h0]; exact bW _
 ·rw[if_neg h0]
  have hi:i.natAbs≠0:=by
   have:i≠0:=by simpa using h0
   omega
  exact Nat.succ_le_of_lt ((jZ hi).mpr h)
theorem Sz.log {n:Nat}{i:Int}(h:Sz n i)(hn:0<n):i.natAbs.log2<n:=by
 by_cases hi:i.natAbs=0
 ·rw[hi]; exact hn
 ·exact(jZ hi).mpr h
theorem Sz.mono {n m:Nat}{i:Int}(h:Sz n i)(hm:n<=m):Sz m i:=aO h (cn (by decide) hm)
theorem Sz.le {n:Nat}{i j:Int}(h:Sz n i)(hj:j.natAbs<=i.natAbs):Sz n j:=iO hj h
theorem Sz.mul {n m:Nat}{i j:Int}(h:Sz n i)(h':Sz m j):Sz (n+m) (i * j):=by
 unfold Sz at *
 rw[kF,Nat.pow_add]
 exact Nat.mul_lt_mul'' h h'
theorem Sz.add {n:Nat}{i j:Int}(h:Sz n i)(h':Sz n j):Sz (n+1) (i+j):=by
 unfold Sz at *
 rw[jB]
 omega
def kJ (i j:Int):Prop:=uF i j\/(Sz 100000 i/\Sz 100000 j)
theorem kJ.ok {i j:Int}(h:kJ i j):IntMulOk i j:=by
 rcases h with h|h
 ·exact h.ok
 ·exact IntMulOk.of_bits (bG h.1.bits (by decide)) (bG h.2.bits (by decide))
section
variable {X:Cx}
theorem wn:eR X (binaryOp .Mult) (rI kJ λi j=>.int (i * j)):=BS λ_ _ _ _ _ _ _ hc q=>mul_int q hc.ok
theorem vw:eR X (binaryOp .FloorDiv) (rI (λ_ j=>j≠0/\Sz 9000 j) λi j=>.int (i.fdiv j)) :=
 BS λ_ _ _ _ _ _ _ hc q=>floordiv_int hc.1 q (.inl (PyProof.noPylong_of_log2 (hc.2.log (by decide))))
theorem RelV.bool_iff {x:V}{v:Value}{b:Bool}(r:RelV x v):(v == Value.bool b)=decide (x=.bl b):=by
 cases x with
 |bl c =>
  cases(show v=Value.bool c from r)
  by_cases h:c=b
  ·subst h; simp
  ·have h1:¬V.bl c=V.bl b:=λz=>h (V.bl.inj z)
   rw[decide_eq_false h1]
   exact beq_eq_false_iff_ne.mpr λz=>h (by injection z)
 |non=>cases(show v=Value.none from r); rw[decide_eq_false (λz=>nomatch z)]; exact beq_eq_false_iff_ne.mpr λz=>nomatch z
 |int i=>obtain⟨t,rfl⟩:=(show∃t,v=Value.int i t from r); rw[decide_eq_false (λz=>nomatch z)]; exact beq_eq_false_iff_ne.mpr λz=>nomatch z
 |str i=>obtain⟨t,rfl⟩:=(show∃t,v=Value.str i t from r); rw[decide_eq_false (λz=>nomatch z)]; exact beq_eq_false_iff_ne.mpr λz=>nomatch z
 |byt i=>obtain⟨t,rfl⟩:=(show∃t,v=Value.bytes i t from r); rw[decide_eq_false (λz=>nomatch z)]; exact beq_eq_false_iff_ne.mpr λz=>nomatch z
 |flt i=>obtain⟨t,rfl⟩:=(show∃t,v=Value.float i t from r); rw[decide_eq_false (λz=>nomatch z)]; exact beq_eq_false_iff_ne.mpr λz=>nomatch z
 |ref i=>cases(show v=Value.ref i from r); rw[decide_eq_false (λz=>nomatch z)]; exact beq_eq_false_iff_ne.mpr λz=>nomatch z
 |ty i=>cases(show v=Value.type i from r); rw[decide_eq_false (λz=>nomatch z)]; exact beq_eq_false_iff_ne.mpr λz=>nomatch z
theorem VF {x:V}{v:Value}{b:Bool}(r:RelV x v):plainIs v (.bool b)=true:=by
 cases x with
 |bl c=>cases(show v=Value.bool c from r); rfl
 |non=>cases(show v=Value.none from r); rfl
 |int i=>obtain⟨t,rfl⟩:=(show∃t,v=Value.int i t from r); rfl
 |str i=>obtain⟨t,rfl⟩:=(show∃t,v=Value.str i t from r); rfl
 |byt i=>obtain⟨t,rfl⟩:=(show∃t,v=Value.bytes i t from r); rfl
 |flt i=>obtain⟨t,rfl⟩:=(show∃t,v=Value.float i t from r); rfl
 |ref i=>cases(show v=Value.ref i from r); rfl
 |ty i=>cases(show v=Value.type i from r); rfl
theorem Z4:eR X (compareOp .Is) (λx y H Q=>∃b,y=.bl b/\Q (.bl (decide (x=.bl b))) H):=by
 intro pins s σ H x y v u Q I rx ry h
 obtain⟨b,rfl,q⟩:=h
 cases ry
 exact wpAny_is_plain (VF rx) (QP I q (RelV.bool_iff rx).symm)
theorem Xi:dB X (.builtin "isinstance") (λxs H Q=>∃x c t b,xs=[x,.ty c]/\hJ X.K H x t/\bv X.K t (.type c)=some b/\Q (.bl b) H):=by
 intro pins s σ H xs us Q I r h
 obtain⟨x,c,t,b,rfl,ty,e,q⟩:=h
 obtain⟨u,w',rfl,ru,kE⟩:=vals2 r
 cases(show w'=Value.type c from kE)
 exact O8 I ru ty e λtk=>⟨.bl b,H,I.tok tk,rfl,q⟩
theorem WF:dB X (.builtin "isinstance") (λxs H Q=>∃x C t b,xs=[x,.ref C]/\hJ X.K H x t/\bv X.K t (.ref C)=some b/\Q (.bl b) H):=by
 intro pins s σ H xs us Q I r h
 obtain⟨x,c,t,b,rfl,ty,e,q⟩:=h
 obtain⟨u,w',rfl,ru,kE⟩:=vals2 r
 cases(show w'=Value.ref c from kE)
 exact O8 I ru ty e λtk=>⟨.bl b,H,I.tok tk,rfl,q⟩
end
mutual
inductive Dt (K:ae)(H:Hp):V->PyData->Prop
 |non:Dt K H .non .none
 |bl (b:Bool):Dt K H (.bl b) (.bool b)
 |int (i:Int):Dt K H (.int i) (.int i)
 |str (x:Str):Dt K H (.str x) (.str x)
 |lst {a:Addr} {xs:List V} {ds:List PyData}:d5 K H a xs->Dts K H xs ds->Dt K H (.ref a) (.list ds)
 |tup {a:Addr} {xs:List V} {ds:List PyData}:iD K H a xs->Dts K H xs ds->Dt K H (.ref a) (.tuple ds)
inductive Dts (K:ae)(H:Hp):List V->List PyData->Prop
 |nil:Dts K H [] []
 |cons {v:V} {d:PyData} {vs:List V} {ds:List PyData}:Dt K H v d->Dts K H vs ds->Dts K H (v::vs) (d::ds)
end
section
variable {X:Cx}{pins:List (Addr×Obj)}{σ:St}{H:Hp}{s:Shared}
mutual
theorem Dt.reads (I:Inv X pins σ H s):∀{v:V} {d:PyData} {u:Value},Dt X.K H v d->RelV v u->∃as,Reads s.heap u d as
 |_,_,_,.non,r=>by cases r; exact⟨_,.none⟩
 |_,_,_,.bl b,r=>by cases r; exact⟨_,.bool b⟩
 |_,_,_,.int i,r=>by obtain⟨t,rfl⟩:=r; exact⟨_,.int i t⟩
 |_,_,_,.str x,r=>by obtain⟨t,rfl⟩:=r; exact⟨_,.str x t⟩
 |_,_,_,.lst hq ds,r=>by
  obtain⟨its,rv,⟨o,n,e,c,_,dd⟩,_⟩:=I.list hq
  obtain⟨as,ra⟩:=Dts.reads I ds rv
  cases r
  exact⟨_,.list e c dd (by simpa using ra)⟩
 |_,_,_,.tup hq ds,r=>by
  obtain⟨its,rv,⟨o,e,c,n,dd⟩,_⟩:=I.tuple hq
  obtain⟨as,ra⟩:=Dts.reads I ds rv
  cases r
  exact⟨_,.tuple e c dd (by simpa using ra)⟩
theorem Dts.reads (I:Inv X pins σ H s):∀{vs:List V} {ds:List PyData} {us:List Value},Dts X.K H vs ds->bA vs us->∃as,ReadsAll s.heap us ds as
 |_,_,_,.nil,r=>by cases r; exact⟨_,.nil⟩
 |_,_,_,.cons h t,r=>by
  cases r with
  |cons p q =>
   obtain⟨as,ra⟩:=Dt.reads I h p
   obtain⟨bs,rb⟩:=Dts.reads I t q
   exact⟨_,.cons ra rb⟩
end
end
section
variable {X:Cx}
def Bk (K:ae)(neg:Bool):R2:=λx y H Q=>∃d e,Dt K H x d/\Dt K H y e/\d.canLay0=true/\e.canLay0=true/\min d.depth e.depth<=60/\Q (.bl (if neg then !PyData.eqv d e else PyData.eqv d e)) H
theorem j5 (hu:X.A.units+64<cLine):eR X (compareOp .Eq) (Bk X.K false):=by
 intro pins s σ H x y v u Q I rx ry h
 obtain⟨d,e,hd,he,c1,c2,dp,q⟩:=h
 obtain⟨as,ra⟩:=hd.reads I rx
 obtain⟨bs,rb⟩:=he.reads I ry
 exact SeqAt.compareEq_reads ra rb c1 c2 (by omega) ⟨.bl _,H,I,rfl,q⟩
theorem GK (hu:X.A.units+64<cLine):eR X (compareOp .NotEq) (Bk X.K true):=by
 intro pins s σ H x y v u Q I rx ry h
 obtain⟨d,e,hd,he,c1,c2,dp,q⟩:=h
 obtain⟨as,ra⟩:=hd.reads I rx
 obtain⟨bs,rb⟩:=he.reads I ry
 exact SeqAt.compareNe_reads ra rb c1 c2 (by omega) ⟨.bl _,H,I,rfl,q⟩
theorem Dts.ints (K:ae)(H:Hp):∀ns:List Int,Dts K H (ns.map V.int) (ns.map PyData.int)
 |[]=>.nil
 |n::r=>.cons (.int n) (Dts.ints K H r)
end
theorem DZ {H:Hp}{p:Addr}(h:H p=none)(o:HO):bw H (cC H p o):=λb u q=>by rw[yp (xu q h)]; exact q
theorem dz.u64 {k:Nat}{A:Around}(r:dz k A):A.units+64<cLine:=r.units
theorem small {n:Nat}(h:n<=1000):n<=sizeLine:=i8 (ot h)
end L2
namespace L2
open PySem PySem.Spec PyProof.Rows
end L2
namespace L2
open PySem PySem.Spec PyProof.Rows
end L2
namespace L2
open PySem
theorem Z5:bootBuiltins "int"=some (.type "int"):=by decide +kernel
theorem QQ:bootBuiltins "str"=some (.type "str"):=by decide +kernel
theorem Yz:bootBuiltins "bool"=some (.type "bool"):=by decide +kernel
theorem D6:bootBuiltins "list"=some (.type "list"):=by decide +kernel
theorem ue:bootBuiltins "len"=some (.builtin "len"):=by decide +kernel
theorem Z6:bootBuiltins "abs"=some (.builtin "abs"):=by decide +kernel
theorem Z7:bootBuiltins "max"=some (.builtin "max"):=by decide +kernel
theorem ML:bootBuiltins "sum"=some (.builtin "sum"):=by decide +kernel
theorem Ot:bootBuiltins "isinstance"=some (.builtin "isinstance"):=by decide +kernel
theorem WG:bootBuiltins "sorted"=some (.builtin "sorted"):=by decide +kernel
theorem Z8:bootBuiltins "all"=some (.builtin "all"):=by decide +kernel
end L2
namespace L2
open PySem PySem.Spec PyProof.Rows
section
variable {prog:Program}{w:World}{A:Around}{R:Result->Shared->Prop}{s:Shared}
theorem OF {hU target iter:Expr}{ifs:List Expr}{scope:Scope}{pos:Pos}{it acc:Value}{env:Env}(I:Nat->Shared->Prop)
  (turn:∀n s,I n s->wpAny (model prog w) A (pyNext it) (λr s₁=>match r with
   |none=>R (.ok .next) s₁
   |some v=>wpAny (model prog w) A (letOwnedTupleGo target it v) (λ_ Oh=>wpAny (model prog w) A (assign target env v) (λ_ s₂ =>
     wpAny (model prog w) A (forIn ifs true λc r=>if r=true then do let ok ← isTrue c env (eval c env); pure (ForInStep.yield ok)else pure (ForInStep.yield r)) (λok s₃ =>
      if ok=true then wpAny (model prog w) A (eval hU env) (λx s₄ =>
       wpAny (model prog w) A (call (.builtin "list.append") [acc,x]) (λ_ s₅=>∃m,m<n/\I m s₅) (λ_ _=>False) s₄) (λ_ _=>False) s₃
      else∃m,m<n/\I m s₃) (λ_ _=>False) s₂) (λ_ _=>False) Oh) (λ_ _=>False) s₁) (λ_ _=>False) s)
  (n:Nat) (h:I n s) :
  codeAny (model prog w) A (.compLoop (.ListComp hU [⟨target,iter,ifs,0⟩] scope pos) 0 it acc env) R s:=by
 have up:∀{α:Type} {m:Sem α} {Q:α->Shared->Prop} {E:Value->Shared->Prop} {s:Shared},wpAny (model prog w) A m Q (λ_ _=>False) s->wpAny (model prog w) A m Q E s:=λh=>wpAny_mono h (λ_ _ q=>q) λ_ _ f=>f.elim
 refine codeAny_loop rfl I (λn s hI=>?_) n h
 show wpAny _ A ((compTurn (.ListComp hU [⟨target,iter,ifs,0⟩] scope pos) 0 it acc env).onRaise (λx=>do noteFrame x env; theTreesLotGoes x)) _ _ s
 refine wpAny_noted ?_
 rw[compTurn_list]
 refine wpAny_bind (wpAny_standAt (wpAny_bind (wpAny_mono (up (turn n s hI)) (λr s₁ h₁=>?_) λ_ _ h'=>h')))
 cases r with
 |none=>exact wpAny_pure h₁
 |some v =>
  refine wpAny_bind (wpAny_mono (up h₁) (λ_ Oh TR=>?_) λ_ _ h'=>h')
  refine wpAny_bind (wpAny_mono (up TR) (λ_ s₂ h₂=>wpAny_bind (wpAny_mono (up h₂) (λok s₃ h₃=>?_) λ_ _ h'=>h')) λ_ _ h'=>h')
  cases ok with
  |false=>exact wpAny_pure ⟨rfl,h₃⟩
  |true =>
   exact wpAny_bind (wpAny_bind (wpAny_mono (up h₃) (λx s₄ h₄=>wpAny_bind (wpAny_mono (up h₄) (λ_ s₅ h₅=>wpAny_pure (wpAny_pure ⟨rfl,h₅⟩)) λ_ _ h'=>h')) λ_ _ h'=>h'))
end
theorem FW {env:Env}:∀(names:List (Str×NameKind)) (acc:List (Str×Addr)),(∀x∈names,x.2=.free->∃c,env.cells.lookup x.1=some c)->(∀y c,acc.lookup y=some c->env.cells.lookup y=some c) ->
  ∃cl,(forIn names acc λ(x:Str×NameKind) (cs:List (Str×Addr))=>if(x.2 == NameKind.free)=true then do let a ← cellOf env x.1; pure (ForInStep.yield ((x.1,a)::cs))else pure (ForInStep.yield cs):Sem (List (Str×Addr)))=pure cl /\
   (∀y c,cl.lookup y=some c->env.cells.lookup y=some c)/\(∀x∈names,x.2=.free->∃c,cl.lookup x.1=some c)/\∀y c,acc.lookup y=some c->∃c',cl.lookup y=some c'
 |[],acc,_,ha=>⟨acc,rfl,ha,λ_ h=>(nomatch h),λy c h=>⟨c,h⟩⟩
 |(n,k)::r,acc,hn,ha=>by
  by_cases hk:k=.free
  ·subst hk
   obtain⟨c,hc⟩:=hn (n,.free) aa rfl
   have e1:cellOf env n=pure c:=by unfold cellOf; rw[hc]
   have nY:∀y d,((n,c)::acc).lookup y=some d->env.cells.lookup y=some d:=λy d h=>by
    rw[aQ]at h
    cases hy:y == n with
    |true =>
     rw[hy]at h
     have:y=n:=eq_of_beq hy
     subst this
     cases h
     exact hc
    |false=>rw[hy]at h; exact ha y d h
   obtain⟨cl,h1,h2,h3,h4⟩:=FW r ((n,c)::acc) (λx hx=>hn x (ai _ hx)) nY
   refine⟨cl,?_,h2,?_,?_⟩
   ·rw[jX]
    simp only[beq_self_eq_true,if_true,e1,pure_bind]
    exact h1
   ·intro x hx hf
    rcases aA.mp hx with rfl|hx
    ·exact h4 n c (by rw[aQ,beq_self_eq_true])
    ·exact h3 x hx hf
   ·intro y d hy
    cases hb:y == n with
    |true=>exact h4 y c (by rw[aQ,hb])
    |false=>exact h4 y d (by rw[aQ,hb]; exact hy)
  ·have hb:(k == NameKind.free)=false:=by simpa using hk
   obtain⟨cl,h1,h2,h3,h4⟩:=FW r acc (λx hx=>hn x (ai _ hx)) ha
   refine⟨cl,?_,h2,?_,h4⟩
   ·rw[jX]
    simp only[hb,bZ,if_false,pure_bind]
    exact h1
   ·intro x hx hf
    rcases aA.mp hx with rfl|hx
    ·exact absurd hf hk
    ·exact h3 x hx hf
theorem Gw (n:Nat)(a:Str)(r:List (Str×NameKind))(acc:List (Str×Addr)):cellsFrom n ((a,.cell)::r) acc=cellsFrom (n+1) r ((a,n)::acc):=rfl
theorem GL {k:NameKind}(hk:k≠.cell)(n:Nat)(a:Str)(r:List (Str×NameKind))(acc:List (Str×Addr)):cellsFrom n ((a,k)::r) acc=cellsFrom n r acc:=by
 cases k <;> first|rfl|exact absurd rfl hk
def gL (names:List (Str×NameKind)):Nat:=(names.filter λy=>y.2 == NameKind.cell).length
theorem Mp (a:Str)(r:List (Str×NameKind)):gL ((a,.cell)::r)=gL r+1:=by unfold gL; rw[lN (by rfl),aJ]
theorem QR {k:NameKind}(hk:k≠.cell)(a:Str)(r:List (Str×NameKind)):gL ((a,k)::r)=gL r:=by unfold gL; rw[lM (by simpa using hk)]
theorem Cg:∀(names:List (Str×NameKind)) (n:Nat) (acc:List (Str×Addr)) {x:Str} {c:Nat},(cellsFrom n names acc).lookup x=some c->(n<=c/\c<n+gL names/\(x,NameKind.cell)∈names)\/(acc.lookup x=some c/\(x,NameKind.cell)∉names)
 |[],_,_,_,_,h=>.inr ⟨h,by simp⟩
 |(a,k)::r,n,acc,x,c,h=>by
  by_cases hk:k=.cell
  ·subst hk
   rw[Gw]at h
   rcases Cg r (n+1) _ h with⟨h1,h2,h3⟩|⟨h1,h2⟩
   ·refine .inl ⟨by omega,?_,ai _ h3⟩
    rw[Mp]; omega
   ·rw[aQ]at h1
    cases hx:x == a with
    |true =>
     rw[hx]at h1
     cases h1
     refine .inl ⟨aE _,?_,by rw[eq_of_beq hx]; exact aa⟩
     rw[Mp]; omega
    |false =>
     rw[hx]at h1
     refine .inr ⟨h1,λz=>?_⟩
     rcases aA.mp z with z|z
     ·cases z; simp at hx
     ·exact h2 z
  ·rw[GL hk]at h
   have hf:=QR hk a r
   rw[hf]
   rcases Cg r n _ h with⟨h1,h2,h3⟩|⟨h1,h2⟩
   ·exact .inl ⟨h1,h2,ai _ h3⟩
   ·refine .inr ⟨h1,λz=>?_⟩
    rcases aA.mp z with z|z
    ·cases z; exact hk rfl
    ·exact h2 z
theorem MM:∀(names:List (Str×NameKind)) (n:Nat) (acc:List (Str×Addr)) {x:Str},(x,NameKind.cell)∉names->(cellsFrom n names acc).lookup x=acc.lookup x
 |[],_,_,_,_=>rfl
 |(a,k)::r,n,acc,x,h=>by
  have hr:(x,NameKind.cell)∉r:=λz=>h (ai _ z)
  by_cases hk:k=.cell
  ·subst hk
   rw[Gw,MM r _ _ hr,aQ]
   cases hx:x == a with
   |true=>exact absurd (by rw[eq_of_beq hx]; exact aa) h
   |false=>rfl
  ·rw[GL hk,MM r _ _ hr]
theorem MN:∀(names:List (Str×NameKind)) (n:Nat) (acc:List (Str×Addr)),(∀x y c,acc.lookup x=some c->acc.lookup y=some c->x=y)->(∀x c,acc.lookup x=some c->c<n)->∀x y c,(cellsFrom n names acc).lookup x=some c->(cellsFrom n names acc).lookup y=some c->x=y
 |[],_,_,h,_=>h
 |(a,k)::r,n,acc,h,hb=>by
  by_cases hk:k=.cell
  ·subst hk
   rw[Gw]
   refine MN r (n+1) _ (λx y c e e'=>?_) λx c e=>?_
   ·rw[aQ]at e e'
    cases hx:x == a with
    |true =>
     rw[hx]at e
     cases e
     cases hy:y == a with
     |true=>rw[eq_of_beq hx,eq_of_beq hy]
     |false=>rw[hy]at e'; exact absurd (hb _ _ e') (cW _)
    |false =>
     rw[hx]at e
     cases hy:y == a with
     |true=>rw[hy]at e'; cases e'; exact absurd (hb _ _ e) (cW _)
     |false=>rw[hy]at e'; exact h x y c e e'
   ·rw[aQ]at e
    cases hx:x == a with
    |true=>rw[hx]at e; cases e; exact gc _
    |false=>rw[hx]at e; exact dE (hb _ _ e)
  ·rw[GL hk]
   exact MN r n acc h hb
theorem LI {M:Model}{A:Around}{E:Value->Shared->Prop}:∀(names:List (Str×NameKind)) (cells:List (Str×Addr)) (s:Shared) (Q:List (Str×Addr)->Shared->Prop),
    (∀h':Heap,(∀b o,s.heap.get? b=some o->h'.get? b=some o)->(∀c,s.heap.objs.size<=c->c<s.heap.objs.size+gL names->h'.IsCell c none)->Q (cellsFrom s.heap.objs.size names cells) { s with heap:=h' }) ->
    wpAny M A (forIn names cells λ(x:Str×NameKind) (cells:List (Str×Addr))=>if(x.2 == NameKind.cell)=true then do let a ← alloc { cls:=Value.type "cell",data:=Data.cell none }; pure (ForInStep.yield ((x.1,a)::cells))else pure (ForInStep.yield cells)) Q E s
  |[],cells,s,Q,h=>by
    have:=h s.heap (λ_ _ e=>e) (λc h1 h2=>by rw[show gL []=0 from rfl]at h2; omega)
    rw[qN]
    exact wpAny_pure this
  |(a,k)::r,cells,s,Q,h=>by
    rw[jX]
    by_cases hk:k=.cell
    · subst hk
      simp only[beq_self_eq_true,if_true,bind_assoc,pure_bind]
      refine wpAny_bind (wpAny_alloc ?_)
      have ih:=LI (M:=M) (A:=A) (E:=E) r ((a,s.heap.objs.size)::cells) { s with heap:=s.heap.push { cls:=Value.type "cell",data:=Data.cell none } } Q (λh' k1 k2=>by
        have hz:(s.heap.push { cls:=Value.type "cell",data:=Data.cell none }).objs.size=s.heap.objs.size+1:=ed _ _
        have:=h h' (λb o e=>k1 b o (ay _ e)) (λc h1 h2=>by
          rw[Mp]at h2
          by_cases hc:c=s.heap.objs.size
          · subst hc
            exact⟨_,k1 _ _ (bn _ rfl),rfl⟩
          · exact k2 c (by show(s.heap.push _).objs.size<=c; rw[hz]; omega) (by show c<(s.heap.push _).objs.size+_; rw[hz]; omega))
        rw[Gw]at this
        have e:(({ s with heap:=s.heap.push { cls:=Value.type "cell",data:=Data.cell none } }:Shared)).heap.objs.size=s.heap.objs.size+1:=hz
        rw[e]
        exact this)
      exact ih
    · have hb:(k == NameKind.cell)=false:=by simpa using hk
      simp only[hb,bZ,if_false,pure_bind]
      refine LI r cells s Q λh' k1 k2=>?_
      have hf:=QR hk a r
      have:=h h' k1 (by rw[hf]; exact k2)
      rw[GL hk]at this
      exact this
theorem OG {M:Model}{A:Around}{E:Value->Shared->Prop}{s:Shared}{scope:Scope}{globals:Addr}{closure:List (Str×Addr)}{qual:Str}{code:Value}{out:Env}{builtins:Addr}{Q:Env->Shared->Prop}
    (h:∀h':Heap,(∀b o,s.heap.get? b=some o->h'.get? b=some o)->h'.Ns s.heap.objs.size (λ_=>none)->(∀c,s.heap.objs.size+1<=c->c<s.heap.objs.size+1+gL scope.names->h'.IsCell c none) ->
      Q (newEnv scope s.heap.objs.size globals (cellsFrom (s.heap.objs.size+1) scope.names closure) qual none code (some out) builtins) { s with heap:=h' }) :
    wpAny M A (newFunctionEnv scope globals closure [] qual none code (some out) builtins) Q E s:=by
  unfold newFunctionEnv
  refine wpAny_bind (wpAny_alloc ?_)
  have hz:(s.heap.push { cls:=Value.type "dict",data:=Data.dict #[] }).objs.size=s.heap.objs.size+1:=ed _ _
  refine wpAny_bind (LI scope.names closure { s with heap:=s.heap.push { cls:=Value.type "dict",data:=Data.dict #[] } } _ λh' k1 k2=>?_)
  have TL:(({ s with heap:=s.heap.push { cls:=Value.type "dict",data:=Data.dict #[] } }:Shared)).heap.objs.size=s.heap.objs.size+1:=hz
  rw[TL]at k2 ⊢
  dsimp only
  rw[qN]
  refine wpAny_bind (wpAny_pure (wpAny_pure ?_))
  exact h h' (λb o e=>k1 b o (ay _ e)) ((Heap.Ns.new s.heap _).keeps k1) k2
def gx (X:Cx)(scope:Scope)(cl:List (Str×Addr))(N:List Str)(C:Addr)(fp:List Addr)(s₀:Shared)(H₀:Hp):Cx :=
 { X with N:=N,s₀:=s₀,H₀:=H₀,env:=compEnvC scope cl C X.env,outer:=X.stack,stack:=X.stack,ex:=fp,fn:=λx=>scope.names.lookup x == some .cell,pn:=[],xe:=λ_ _=>False }
structure jF (X:Cx)(scope:Scope)(N:List Str)(own:Nat)(cap:List Nat):Prop where
 kind:scope.kind=.function
 cells:∀x∈scope.names,x.2=.cell->scope.names.lookup x.1=some .cell
 locs:∀x∈scope.names,x.2=.local->scope.names.lookup x.1=some .local
 free:∀x∈scope.names,x.2=.free->X.env.kindOf x.1=some .cell\/X.env.kindOf x.1=some .free
 len:N.length=own+cap.length
 caps:∀(j:Nat) (x:Str),N[own+j]?=some x->∃i,cap[j]?=some i/\X.N[i]?=some x/\(scope.names.lookup x=some .free)
theorem FX {α β:Type}[BEq α][LawfulBEq α]{x:α}{y:β}:∀{l:List (α×β)},l.lookup x=some y->(x,y)∈l
 |[],h=>by simp at h
 |(a,b)::r,h=>by
  rw[aQ]at h
  cases hb:x == a with
  |true=>rw[hb]at h; cases h; rw[eq_of_beq hb]; exact aa
  |false=>rw[hb]at h; exact ai _ (FX h)
theorem OH {env:Env}{x:Str}:∀{names:List (Str×NameKind)},names.lookup x=some .free ->
  (names.map λ(n,k)=>if(k == NameKind.free && env.scope.kind == .function && env.kindOf n == some .cell)then(n,NameKind.cell)else(n,k)).lookup x=some .cell \/
  (names.map λ(n,k)=>if(k == NameKind.free && env.scope.kind == .function && env.kindOf n == some .cell)then(n,NameKind.cell)else(n,k)).lookup x=some .free
 |[],h=>by simp at h
 |(n,k)::r,h=>by
  rw[aQ]at h
  rw[aC]
  cases hx:x == n with
  |true =>
   rw[hx]at h
   cases h
   by_cases hc:(NameKind.free == NameKind.free && env.scope.kind == .function && env.kindOf n == some .cell)=true
   ·left
    simp only[hc,if_true,aQ,hx]
   ·right
    simp only[hc,if_false,aQ,hx,bZ]
  |false =>
   rw[hx]at h
   rcases OH (env:=env) h with q|q
   ·left
    by_cases hc:(k == NameKind.free && env.scope.kind == .function && env.kindOf n == some .cell)=true
    ·simp only[hc,if_true,aQ,hx]; exact q
    ·simp only[hc,if_false,aQ,hx,bZ]; exact q
   ·right
    by_cases hc:(k == NameKind.free && env.scope.kind == .function && env.kindOf n == some .cell)=true
    ·simp only[hc,if_true,aQ,hx]; exact q
    ·simp only[hc,if_false,aQ,hx,bZ]; exact q
theorem Ou {env:Env}{x:Str}:∀{names:List (Str×NameKind)},((names.map λ(n,k)=>if(k == NameKind.free && env.scope.kind == .function && env.kindOf n == some .cell)then(n,NameKind.cell)else(n,k)).lookup x=some .cell \/
  (names.map λ(n,k)=>if(k == NameKind.free && env.scope.kind == .function && env.kindOf n == some .cell)then(n,NameKind.cell)else(n,k)).lookup x=some .free)->(x,NameKind.free)∈names\/(x,NameKind.cell)∈names
 |[],h=>by simp at h
 |(n,k)::r,h=>by
  rw[aC]at h
  cases hx:x == n with
  |true =>
   have e:x=n:=eq_of_beq hx
   by_cases hc:(k == NameKind.free && env.scope.kind == .function && env.kindOf n == some .cell)=true
   ·have:k=.free:=by
     rw[bq,bq]at hc
     exact eq_of_beq hc.1.1
    left
    rw[e,this]; exact aa
   ·simp only[hc,if_false,aQ,hx,bZ]at h
    rcases h with h|h
    ·cases h; right; rw[e]; exact aa
    ·cases h; left; rw[e]; exact aa
  |false =>
   refine(Ou (env:=env) (names:=r) ?_).imp (ai _) (ai _)
   by_cases hc:(k == NameKind.free && env.scope.kind == .function && env.kindOf n == some .cell)=true
   ·simpa only[hc,if_true,aQ,hx]using h
   ·simpa only[hc,if_false,aQ,hx,bZ]using h
def eu (σ:St)(cap:List Nat):St:=cap.map λi=>(σ[i]?).join
theorem V3 {σ:St}{cap:List Nat}{j i:Nat}{v:V}(hj:cap[j]?=some i)(h:(eu σ cap)[j]?=some (some v)):σ[i]?=some (some v):=by
 unfold eu at h
 rw[aP,hj]at h
 cases e:σ[i]? with
 |none=>rw[oE,e]at h; cases h
 |some o =>
  rw[oE,e]at h
  cases o with
  |none=>cases h
  |some u=>exact h
section
variable {X:Cx}{pins:List (Addr×Obj)}{σ:St}{H:Hp}{s:Shared}
theorem Pj {scope:Scope}{cl:List (Str×Addr)}{N:List Str}{own:Nat}{cap:List Nat}{fp:List Addr}{h₁:Heap}{t':Nat}{m₀:Str->Option Value}(B:jF X scope N own cap)(I:Inv X pins σ H s)
    (c1:∀y c,cl.lookup y=some c->X.env.cells.lookup y=some c) (c2:∀x∈scope.names,x.2=.free->∃c,cl.lookup x.1=some c)
    (hf:∀b∈fp,iA X pins H b) (NG:∀b∈fp,b<s.heap.objs.size) (gB:h₁.Ns s.heap.objs.size m₀) (k:∀b o,s.heap.get? b=some o->h₁.get? b=some o)
    (zC:∀c,s.heap.objs.size+1<=c->c<s.heap.objs.size+1+gL scope.names->h₁.IsCell c none) :
    Inv (gx X scope (cellsFrom (s.heap.objs.size+1) scope.names cl) N s.heap.objs.size fp s H) [] (ak own none++eu σ cap) H { s with heap:=h₁,toks:=t' } :=
  have low:∀x c,cl.lookup x=some c->c<s.heap.objs.size:=λx c e=>by
    obtain⟨v,o,q,_⟩:=I.cell x c (c1 x c e)
    exact aF q
  { ok:={
      mod:=I.mod
      kind:=B.kind
      glob:=I.ok.glob
      blt:=I.ok.blt
      above:=aE _
      inj:=MN _ _ _ (λx y c e e'=>I.ok.inj x y c (c1 x c e) (c1 y c e')) λx c e=>dE (low x c e)
      has:=λx hx=>by
        refine ku.mp (fT scope.names _ _ ?_)
        rcases Ou hx with q|q
        · right
          obtain⟨c,e⟩:=c2 _ q rfl
          rw[e]; rfl
        · exact .inl (B.cells _ q rfl)
      cab:=λx c e e'=>by
        have hx:scope.names.lookup x=some .cell:=eq_of_beq e
        rcases Cg _ _ _ e' with⟨h1,_⟩|⟨_,h2⟩
        · exact i9 h1
        · exact absurd (FX hx) h2
      hd:=I.ok.hd
      frames:=I.ok.frames
      stk:=.inl rfl
      exf:=λb hb=>⟨aV (NG b hb),λx c e=>by
        rcases Cg _ _ _ e with⟨h1,_⟩|⟨h1,_⟩
        · exactλz=>absurd (NG b hb) (by rw[← z]; exact Nat.not_lt.mpr (i9 h1))
        · exact(hf b hb).2.2.2.2.1 x c (c1 x c h1)⟩
      bs:=I.bs
      bsz:=bG I.ok.bsz I.sz
      noex:=λb o e hb=>by
        rcases(hf b hb).2.2.2.1 with q|q
        · exact I.ok.noex b o e q
        · exact absurd (aO (aF e) I.ok.bsz) (Nat.not_lt.mpr q)
      exfs:=λb hb hz=>by
        rcases aA.mp (I.stkSub b hz)with q|q
        · exact(hf b hb).2.1 q
        · exact(hf b hb).2.2.1 q
      funs:=I.stack
      frf:=I.stkFree }
    os:=rfl
    bare:=I.bare
    base:=Un.kept k
    loc:=by
      refine⟨m₀,gB,λi x v hN hσ hv=>?_⟩
      by_cases hi:i<own
      · rw[bE (by rw[bY]; exact hi),d4,if_pos hi]at hσ
        cases hσ
      · obtain⟨j,rfl⟩:∃j,i=own+j:=⟨i-own,by omega⟩
        obtain⟨i',e1,e2,e3⟩:=B.caps j x hN
        rw[dJ (by rw[bY]; omega),bY,Nat.add_sub_cancel_left]at hσ
        have qE:=V3 e1 hσ
        have hk:=B.free (x,.free) (FX e3) rfl
        obtain⟨m,hm,hl⟩:=I.loc
        obtain⟨u,ru,hu⟩:=hl i' x v e2 qE (.inr hk)
        refine⟨u,ru,?_⟩
        rcases hu with⟨q,_⟩|⟨_,c,hc,ic⟩
        · rcases hk with hk|hk
          · rw[hk]at q; cases q
          · rw[hk]at q; cases q
        · obtain⟨c',tE⟩:=c2 (x,.free) (FX e3) rfl
          have ec:=c1 x c' tE
          rw[hc]at ec
          cases ec
          have hn:(x,NameKind.cell)∉scope.names:=λz=>by
            have:=B.cells _ z rfl
            rw[e3]at this
            cases this
          exact .inr ⟨OH e3,c,by show(cellsFrom _ _ _).lookup x=_; rw[MM _ _ _ hn]; exact tE,ic.keeps k⟩
    cell:=λx c e=>by
      rcases Cg _ _ _ e with⟨h1,h2,_⟩|⟨h1,_⟩
      · exact⟨none,zC c h1 h2⟩
      · obtain⟨v,q⟩:=I.cell x c (c1 x c h1)
        exact⟨v,q.keeps k⟩
    free:=I.hok.fresh (aE _)
    freeC:=λx c e=>by
      rcases Cg _ _ _ e with⟨h1,_⟩|⟨h1,_⟩
      · exact I.hok.fresh (i9 h1)
      · exact I.freeC x c (c1 x c h1)
    pin:=λp hp=>(nomatch hp)
    hok:=I.hok.kept k
    len:=by
      show(ak own none++eu σ cap).length=N.length
      rw[aI,bY,B.len]
      unfold eu
      rw[am] }
end
def sQ:TT:=λ_ H Q=>Q true H
def tu (X:Cx)(ifs:List Expr)(t:TT):Prop :=
 ∀(pins:List (Addr×Obj)) (s:Shared) (σ:St) (H:Hp) (Q:Bool->Hp->Prop),Inv X pins σ H s->t σ H Q ->
  wpAny (model X.prog X.w) X.A (forIn ifs true λc r=>if r=true then do let ok ← isTrue c X.env (eval c X.env); pure (ForInStep.yield ok)else pure (ForInStep.yield r)) (TP X pins σ Q) X.xe s
theorem YA {X:Cx}:tu X [] sQ:=λ_ _ _ H _ I h=>wpAny_tests_nil ⟨H,I,h⟩
theorem YB {X:Cx}{c:Expr}{t:TT}(h:PT X c t):tu X [c] t:=λpins s σ H Q I q=>wpAny_tests_one (h pins s σ H Q I q)
def nI (wi:TI)(own:Nat)(cap:List Nat)(g:TG)(tt:TT)(te:TE):TE:=λσ H Q=>wi σ H λJ H1=>∀D,H1 D=none->∃W:Nat->Nat->List V->Hp->Prop,(∃m,W 0 m [] (cC H1 D (.lst []))) /\
 ∀i m ys H2,W i m ys H2->H2 D=some (.lst ys)/\((J.stop i H2/\Q (.ref D) H2)\/(J.go i H2/\ys.length<sizeLine/\∀x H3,J.yld i H2 x H3->g x (ak own none++eu σ cap) H3 λσ2 H4=>tt σ2 H4 λb H5 =>
  if b=true then te σ2 H5 λy H6=>H6 D=some (.lst ys)/\∃m',m'<m/\W (i+1) m' (ys++[y]) (cC H6 D (.lst (ys++[y])))else∃m',m'<m/\W (i+1) m' ys H5))
def ez (own:Nat)(g:TG):Prop:=∀v σ H Q,g v σ H Q->g v σ H λσ' H'=>Q σ' H'/\σ'.length = σ.length/\∀i,own<=i->σ'[i]? = σ[i]?
theorem V4 (i own:Nat)(h:i<own):ez own (nB i):=λv σ H Q q=>⟨q,by rw[pW],λj hj=>by rw[bR (by omega)]⟩
theorem YC {X:Cx}{hU iter tg:Expr}{ifs:List Expr}{scope:Scope}{pos:Pos}{N:List Str}{own:Nat}{cap:List Nat}{wi:TI}{g:TG}{tt:TT}{te:TE}(B:jF X scope N own cap)(hc:X.calm=true)(hi:PI X tg iter wi)
    (kg:ez own g)
    (hg:∀cl C fp s₀ H₀,PG (gx X scope cl N C fp s₀ H₀) tg g) (ht:∀cl C fp s₀ H₀,tu (gx X scope cl N C fp s₀ H₀) ifs tt) (he:∀cl C fp s₀ H₀,PE (gx X scope cl N C fp s₀ H₀) hU te)
    (hs:∀x,foldedSetIterable iter X.env x=pure x:=by intro _; rfl):PE X (.ListComp hU [⟨tg,iter,ifs,0⟩] scope pos) (nI wi own cap g tt te):=by
  intro pins s σ H Q I h
  obtain⟨cl,zB,c1,c2,_⟩:=FW (env:=X.env) scope.names [] (λx hx hf=>I.ok.has x.1 (B.free x hx hf)) (λy c e=>by simp at e)
  have pz:closureFor scope X.env=pure cl:=by
    have e:closureFor scope X.env=(forIn scope.names ([]:List (Str×Addr)) (λ(x:Str×NameKind) (cs:List (Str×Addr))=>if(x.2 == NameKind.free)=true then do let a ← cellOf X.env x.1; pure (ForInStep.yield ((x.1,a)::cs))else pure (ForInStep.yield cs)) >>= pure:Sem (List (Str×Addr))):=rfl
    rw[e,zB]
    rfl
  rw[eval_ListComp]
  refine wpAny_comprehension_free (use:=none) rfl hs pz B.kind B.locs (cj (hi pins s σ H _ I h) λv s1 h1=>cj h1 λFC s2 h2=>?_)
  obtain⟨it,fp,tn,J,H2,e,I2,T,qF,f2,W0⟩:=h2
  subst e
  obtain⟨W,⟨m0,w0⟩,turn⟩:=W0 s2.heap.objs.size (I2.hok.fresh (aE _))
  refine wpAny_newObj_type ?_
  have I3:Inv X pins σ (cC H2 s2.heap.objs.size (.lst [])) { s2 with heap:=s2.heap.push { cls:=.type "list",data:=.seq ([]:List Value).toArray } }:=I2.lnew .nil (bW _)
  generalize C6:({ s2 with heap:=s2.heap.push { cls:=.type "list",data:=.seq ([]:List Value).toArray } }:Shared)=s3 at I3
  have k3:∀b o,s2.heap.get? b=some o->s3.heap.get? b=some o:=λb o e=>by rw[← C6]; exact ay _ e
  have z3:s3.heap.objs.size=s2.heap.objs.size+1:=by rw[← C6]; exact ed _ _
  have mZ:∀b∈fp,b<s2.heap.objs.size:=λb hb=>by
    obtain⟨o,e,_⟩:=T.obj _ _ qF b hb
    exact aF e
  have kq:∀b∈fp,b≠s2.heap.objs.size:=λb hb=>aV (mZ b hb)
  have f3:∀b∈fp,iA X pins (cC H2 s2.heap.objs.size (.lst [])) b:=λb hb=>⟨by rw[yp (kq b hb)]; exact(f2 b hb).1,(f2 b hb).2⟩
  have DV:tn 0 s3.heap:=T.keep _ _ _ qF λb _ o e=>k3 b o e
  show wpAny _ _ (newFunctionEnv scope X.env.globals cl [] X.env.qual none .none (some X.env)) _ _ _
  refine OG λh₁ kk zG zD=>?_
  have IB:=Pj (t':=s3.toks) B I3 c1 c2 f3 (λb hb=>by rw[z3]; exact dE (mZ b hb)) zG kk zD
  generalize cellsFrom (s3.heap.objs.size+1) scope.names cl=cl at IB ⊢
  generalize IA:({ s3 with heap:=h₁,toks:=s3.toks }:Shared)=s4 at IB
  have DW:tn 0 s4.heap:=T.keep _ _ _ DV λb _ o e=>by rw[← IA]; exact kk b o e
  show codeAny (model X.prog X.w) X.A (.compStart (.ListComp hU [⟨tg,iter,ifs,0⟩] scope pos) 0 (.ref it) (.ref s2.heap.objs.size) (compEnvC scope cl s3.heap.objs.size X.env))
      (compPost (model X.prog X.w) X.A X.xe none (EP X pins σ Q) (.ref s2.heap.objs.size) s3.heap.objs.size) s4
  have kn:∀{H':Hp},(∀b∈fp,H' b=none)->∀b∈fp,iA (gx X scope cl N s3.heap.objs.size fp s3 (cC H2 s2.heap.objs.size (.lst []))) [] H' b:=λhn b hb =>
    ⟨hn b hb,aV (by show b<s3.heap.objs.size; rw[z3]; exact dE (mZ b hb)),IB.ok.exfs b hb,.inl hb,λx c e=>(IB.ok.exf b hb).2 x c e,λp hp=>(nomatch hp)⟩
  have loop:codeAny (model X.prog X.w) X.A (.compLoop (.ListComp hU [⟨tg,iter,ifs,0⟩] scope pos) 0 (.ref it) (.ref s2.heap.objs.size) (compEnvC scope cl s3.heap.objs.size X.env))
      (compPost (model X.prog X.w) X.A X.xe none (EP X pins σ Q) (.ref s2.heap.objs.size) s3.heap.objs.size) s4:=by
    refine OF (λn s'=>∃i ys H',Inv (gx X scope cl N s3.heap.objs.size fp s3 (cC H2 s2.heap.objs.size (.lst []))) [] (ak own none++eu σ cap) H' s'/\tn i s'.heap/\(∀b∈fp,H' b=none)/\W i n ys H') ?_ m0
      ⟨0,[],_,IB,DW,λb hb=>(f3 b hb).1,w0⟩
    rintro n s5 ⟨i,ys,H5,I5,sN,yO,w5⟩
    obtain⟨hD,Ii⟩:=turn i n ys H5 w5
    rcases Ii with⟨stop,qn⟩|⟨go,gY,step⟩
    · refine cj (T.done (gx X scope cl N s3.heap.objs.size fp s3 (cC H2 s2.heap.objs.size (.lst []))) rfl rfl rfl hc i [] s5 _ H5 (λ_ _=>False) I5 (kn yO) sN stop) λr s6 ⟨hr,I6⟩=>?_
      subst hr
      obtain⟨m,hm,_⟩:=id I6.loc
      refine⟨m,hm,λh' sb=>⟨.ref s2.heap.objs.size,H5,?_,rfl,qn⟩⟩
      have U:=I6.base
      have nC:∀b o,s3.heap.get? b=some o->b≠s3.heap.objs.size:=λb o e=>aV (aF e)
      have nT:∀b o,H5 b=some o->b≠s3.heap.objs.size:=λb o e z=>by
        have q:H5 s3.heap.objs.size=none:=I6.free
        rw[z,q]at e
        cases e
      refine I3.call' (ch:=fp) I6.os ?_ (λa o e=>(I6.hok a o e).stay (λb u hb q=>sb.extBut b u ?_ q) (λ_ q=>q) λ_ _ q=>q) I6.bare (λb hb=>⟨(f3 b hb).2.2.2.1,(f3 b hb).2.1,(f3 b hb).2.2.2.2.1,(f3 b hb).2.2.2.2.2⟩)
      · exact{
          keep:=λb o e z hb he=>sb.extBut b o (nC b o e) (U.keep b o e z hb he)
          slot:=λb o e z hb he=>by
            obtain⟨sl,q⟩:=U.slot b o e z hb he
            exact⟨sl,sb.extBut b _ (nC b o e) q⟩
          free:=U.free
          there:=λb o e he=>by
            obtain⟨o',q⟩:=U.there b o e he
            exact⟨o',sb.extBut b o' (nC b o e) q⟩
          tups:=U.tups
          frzs:=U.frzs
          tbls:=U.tbls }
      · rcases hb with rfl|hb
        · exact nT _ _ e
        · exact nT _ _ hb
    · refine cj (T.item (gx X scope cl N s3.heap.objs.size fp s3 (cC H2 s2.heap.objs.size (.lst []))) rfl rfl rfl hc i [] s5 _ H5 (λ_ _=>False) I5 (kn yO) sN go) λr s6 ⟨u,hr,h6⟩=>?_
      subst hr
      refine cj h6 λ_ s7 ⟨x,H7,I7,r7,y7,Bo,HJ⟩=>?_
      have G2:=I7.pinned (kn HJ) (T.obj _ _ Bo)
      refine cj (hg cl s3.heap.objs.size fp s3 _ _ s7 _ H7 x u _ G2 r7 (kg _ _ _ _ (step x H7 y7))) λ_ s8 ⟨σ8,H8,I8,q8,l8,p8⟩=>?_
      have back:∀{H9:Hp} {s9:Shared},Inv (gx X scope cl N s3.heap.objs.size fp s3 (cC H2 s2.heap.objs.size (.lst []))) ([]++iY fp s7.heap) σ8 H9 s9 ->
          Inv (gx X scope cl N s3.heap.objs.size fp s3 (cC H2 s2.heap.objs.size (.lst []))) [] (ak own none++eu σ cap) H9 s9/\tn (i+1) s9.heap/\∀b∈fp,H9 b=none:=λ{H9 s9} I9=>by
        refine⟨(I9.unpinned).weak l8.symm (λj v e=>?_),T.keep _ _ _ Bo λb hb o e=>(I9.pin (b,o) (ax _ (ax _ (jj hb e)))).1,λb hb=>?_⟩
        · by_cases hj:j<own
          · rw[bE (by rw[bY]; exact hj),d4,if_pos hj]at e
            cases e
          · rw[p8 j (by omega)]; exact e
        · obtain⟨o,e,d⟩:=T.obj _ _ Bo b hb
          exact(I9.pin (b,o) (ax _ (ax _ (jj hb e)))).2.1
      refine cj (ht cl s3.heap.objs.size fp s3 _ _ s8 σ8 H8 _ I8 q8) λok s9 ⟨H9,I9,q9⟩=>?_
      cases ok with
      |false =>
        rw[if_neg aH]
        rw[if_neg aH]at q9
        obtain⟨m',n9,w'⟩:=q9
        obtain⟨b1,b2,b3⟩:=back I9
        exact⟨m',n9,i+1,ys,H9,b1,b2,b3,w'⟩
      |true =>
        rw[if_pos rfl]
        rw[if_pos rfl]at q9
        refine cj (he cl s3.heap.objs.size fp s3 _ _ s9 σ8 H9 _ I9 q9) λuy Kv ⟨y,Cq,G0,r10,yT,m',n9,w'⟩=>?_
        refine cj (FV _ Kv σ8 Cq (.ref s2.heap.objs.size) [y] (.ref s2.heap.objs.size) [uy] (λ_ Cr=>Cr=cC Cq s2.heap.objs.size (.lst (ys++[y]))) G0 rfl (.cons r10 .nil) ⟨_,ys,y,rfl,rfl,yT,gY,rfl⟩) λ_ UE ⟨_,Cr,G1,_,HB⟩=>?_
        subst HB
        obtain⟨b1,b2,b3⟩:=back G1
        exact⟨m',n9,i+1,ys++[y],_,b1,b2,b3,w'⟩
  exact codeAny_compStart_list loop (T.self X.A 0 s4 _ _ DW loop)
end L2
namespace L2
open PySem PySem.Spec PyProof.Rows
section
variable {X:Cx}{pins:List (Addr×Obj)}{σ:St}{H:Hp}{s:Shared}{h':Heap}
theorem Inv.turnLay {ch:List Addr}{a:Addr}{o:HO}{t':Nat}(I:Inv X pins σ H s)(iF:∀b∈ch,iA X pins H b)(k:∀b o,b∉ch->s.heap.get? b=some o->h'.get? b=some o)(hp:s.heap.objs.size<=a)
  (new:cN X.prog X.w (cC H a o) h' a o):Inv X pins σ (cC H a o) { s with heap:=h',toks:=t' }:=by
 have hn:H a=none:=I.hok.fresh hp
 have Dv:∀b u,H b=some u->b∉ch:=λb u e z=>by rw[(iF b z).1]at e; cases e
 refine I.step (g':=s.gens) (d':=s.drawn) (ch:=ch) (λb hb=>⟨(iF b hb).2.2.2.1,(iF b hb).2.1,(iF b hb).2.2.2.2.1,(iF b hb).2.2.2.2.2⟩) (λb o _ _ hc e _=>k b o hc e) (λb o _ _ hc e _=>⟨o.slots,k b o hc e⟩)
  (λb o _ e n=>by rw[yp (aV (aO (aF e) hp))]; exact n) (λb o hc e=>⟨o,k b o hc e⟩) (λb xs q=>by rw[yp (xu q hn)]; exact q) (λb u xs q=>by rw[yp (xu q hn)]; exact q)
  (λb ps q=>⟨#[],by rw[yp (xu q hn),q]; simp⟩) (λm hm=>?_) (λb u e=>?_) I.bare
 ·obtain⟨o',es,ep,ho,r⟩:=hm
  exact⟨o',es,ep,k _ o' (λz=>(iF _ z).2.1 rfl) ho,r⟩
 ·by_cases hb:b=a
  ·subst hb
   rw[yu]at e
   cases e
   exact new
  ·rw[yp hb]at e
   refine(I.hok b u e).stay (λc v hc q=>k c v ?_ q) (λc q=>by rw[yp (xu q hn)]; exact q) λc xs q=>by rw[yp (xu q hn)]; exact q
   rcases hc with z|z
   ·rw[z]; exact Dv b u e
   ·exact Dv c _ z
theorem Inv.turnedL {ch:List Addr}{t':Nat}(I:Inv X pins σ H s)(iF:∀b∈ch,iA X pins H b)(k:∀b o,b∉ch->s.heap.get? b=some o->h'.get? b=some o):Inv X pins σ H { s with heap:=h',toks:=t' }:=by
 have Dv:∀b u,H b=some u->b∉ch:=λb u e z=>by rw[(iF b z).1]at e; cases e
 refine I.step (g':=s.gens) (d':=s.drawn) (ch:=ch) (λb hb=>⟨(iF b hb).2.2.2.1,(iF b hb).2.1,(iF b hb).2.2.2.2.1,(iF b hb).2.2.2.2.2⟩) (λb o _ _ hc e _=>k b o hc e) (λb o _ _ hc e _=>⟨o.slots,k b o hc e⟩)
  (λ_ _ _ _ n=>n) (λb o hc e=>⟨o,k b o hc e⟩) (λ_ _ e=>e) (λ_ _ _ e=>e) (λb ps e=>⟨#[],by rw[e]; simp⟩) (λm hm=>?_) (λb u e=>?_) I.bare
 ·obtain⟨o',es,ep,ho,r⟩:=hm
  exact⟨o',es,ep,k _ o' (λz=>(iF _ z).2.1 rfl) ho,r⟩
 ·refine(I.hok b u e).stay (λc v hc q=>k c v ?_ q) (λ_ q=>q) λ_ _ q=>q
  rcases hc with z|z
  ·rw[z]; exact Dv b u e
  ·exact Dv c _ z
end
def G3 (K:ae)(a:Addr):It :=
 ⟨λi H=>∃xs x,d5 K H a xs/\xs[i]?=some x,λi H x H'=>∃p y,H p=none/\x=.ref p/\H'=cC H p (.tup [.int i,y])/\∀xs,d5 K H a xs->xs[i]?=some y,λi H=>∃xs,d5 K H a xs/\xs.length<=i⟩
theorem WH {P:Program}{w:World}{K:ae}{mn:List Expr}{kt:Nat}{pt:Pos}(a e it:Addr)(NF:e≠it) :
    Turn P w K (.Tuple mn kt pt) (G3 K a) [e,it] e (λi h=>(∃old,IsEnum h e it i old)/\h.IsListIter it a i) where
  mem:=by simp
  obj:=λi h st b hb=>by
    obtain⟨⟨old,he⟩,o,e1,c,d⟩:=st
    rcases aA.mp hb with rfl|hb
    · exact⟨_,he,λv z=>by cases z⟩
    · have e2:b=it:=by simpa using hb
      subst e2
      exact⟨o,e1,λv z=>by rw[d]at z; cases z⟩
  keep:=λi h h' st k=>by
    obtain⟨⟨old,he⟩,hit⟩:=st
    exact⟨⟨old,k e (by simp) _ he⟩,hit.at λo x=>k it (by simp) o x⟩
  item:=by
    intro X hP hw hK hc i pins s σ H E I hf st hg
    subst hP hw hK
    obtain⟨xs,x,hq,hx⟩:=hg
    obtain⟨its,rv,p,hz⟩:=I.list hq
    obtain⟨u,hu,ru⟩:=rv.get hx
    obtain⟨⟨old,he⟩,hit⟩:=st
    refine wpAny_pyNext_enum_item he hit p.isList (x:=u) (by simpa using hu) NF λh1 ho Im hT hsz hk=>?_
    refine⟨_,rfl,wpAny_letOwnedTupleGo_enum (s:={ s with heap:=h1,toks:=s.toks+1 }) ho λh2 Tg Kx=>?_⟩
    have hU:e<s.heap.objs.size:=aF he
    have TY:it<s.heap.objs.size:=by obtain⟨_,q,_⟩:=hit; exact aF q
    have S7:h2.get? s.heap.objs.size=some { cls:=.type "tuple",data:=.seq #[.int i s.toks,u] }:=(Kx.2 _ (Nat.ne_of_gt hU)).trans hT
    have Tl:H s.heap.objs.size=none:=I.hok.fresh (aE _)
    have I1:Inv X pins σ (cC H s.heap.objs.size (.tup [.int i,x])) { s with heap:=h2,toks:=s.toks+1 }:=by
      refine I.turnLay (ch:=[e,it]) hf (λb o hb q=>?_) (aE _) ⟨by show 2<=sizeLine; decide,[.int i s.toks,u],.cons ⟨_,rfl⟩ (.cons ru .nil),_,S7,rfl,_,rfl⟩
      have Np:b≠e:=λz=>hb (by simp[z])
      have SX:b≠it:=λz=>hb (by simp[z])
      exact(Kx.2 b Np).trans (hk b o Np SX q)
    refine⟨.ref s.heap.objs.size,_,I1,rfl,⟨_,x,Tl,rfl,rfl,λys hy=>by rw[I.list_inj hy hq]; exact hx⟩,⟨⟨u,by simpa using Tg⟩,Im.at λo q=>(Kx.2 it NF.symm).trans q⟩,λb hb=>?_⟩
    rw[yp ?_]
    · exact(hf b hb).1
    · rcases aA.mp hb with rfl|hb
      · exact aV hU
      · have e2:b=it:=by simpa using hb
        rw[e2]; exact aV TY
  done:=by
    intro X hP hw hK hc i pins s σ H E I hf st hg
    subst hP hw hK
    obtain⟨xs,hq,hx⟩:=hg
    obtain⟨its,rv,p,hz⟩:=I.list hq
    obtain⟨⟨old,he⟩,hit⟩:=st
    have hl:=rv.length
    exact wpAny_pyNext_enum_end (I.ok.hd hc) he hit p.isList (by simp; omega) λh' eb=>⟨rfl,I.turnedL (ch:=[e,it]) (t':=s.toks) hf λb o hb q=>eb b o (λz=>hb (by simp[z])) q⟩
  self:=λ_ _ _ _ _ st h=>wpAny_pyIter_enum st.1.choose_spec h
section
variable {X:Cx}{mn:List Expr}{kt:Nat}{pt:Pos}
def Dh (K:ae)(ta:TA):TI:=λσ H R=>ta σ H λvs H1=>∃a,vs=[.ref a]/\(∃xs,d5 K H1 a xs)/\R (G3 K a) H1
theorem Qm {l:Expr}{ta:TA}{p pos:Pos}(hg:Gl X "enumerate")(hm:X.mg "enumerate"=none)(ha:PA X [l] ta)(hs:starEach [l] X.env=[(false,eval l X.env)]:=by rfl) :
  PI X (.Tuple mn kt pt) (.Call (.Name "enumerate" p) [l] [] pos) (Dh X.K ta):=by
 intro pins s σ H R I h
 refine Call_ (sU I hg hm PyProof.Rows.boot_enumerate (bH (cj (ha pos pins s σ H _ I h) λus s1 ⟨vs,H1,I1,r1,q1⟩=>?_) hs rfl))
 obtain⟨a,e,⟨xs,hq⟩,q⟩:=q1
 subst e
 cases r1 with
 |cons r rr =>
  cases rr
  cases r
  obtain⟨its,rv,pl,hz⟩:=I1.list hq
  refine call_enumerate_list pl.isList λh' he hit hsz hk=>?_
  refine wpAny_pyIter_enum (s:={ s1 with heap:=h' }) he ?_
  refine⟨s1.heap.objs.size+1,[s1.heap.objs.size+1,s1.heap.objs.size],_,_,H1,rfl,I1.kept (t':=s1.toks) hk,WH a _ _ (Nat.succ_ne_self _),⟨⟨_,he⟩,hit⟩,λb hb=>?_,q⟩
  rcases aA.mp hb with rfl|hb
  ·exact I1.fpOk (fO _) (I1.hok.fresh (fO _))
  ·have e:b=s1.heap.objs.size:=by simpa using hb
   subst e
   exact I1.fpOk (aE _) (I1.hok.fresh (aE _))
end
end L2
namespace L3
open PySem PySem.Spec L2
open PyProof.Rows hiding St
inductive D where
 |non|bl (b:Bool)|int (i:Int)|str (x:Str)
 |lst (xs:List D)|tup (xs:List D)|dK (ks:List Key) (ds:List D)|dT (ks:List (List Key)) (ds:List D)
 |obj (c:Nat) (ns:List Str) (ds:List D)
 deriving Inhabited
inductive Pr (R:D->V->Prop):List D->List V->Prop
 |nil:Pr R [] []
 |cons {d:D} {v:V} {ds:List D} {vs:List V}:R d v->Pr R ds vs->Pr R (d::ds) (v::vs)
theorem Pr.mono {R R':D->V->Prop}(f:∀d v,R d v->R' d v):∀{ds:List D} {vs:List V},Pr R ds vs->Pr R' ds vs
 |_,_,.nil=>.nil
 |_,_,.cons h t=>.cons (f _ _ h) (Pr.mono f t)
theorem Pr.length {R:D->V->Prop}:∀{ds:List D} {vs:List V},Pr R ds vs->ds.length=vs.length
 |_,_,.nil=>rfl
 |_,_,.cons _ t=>by simp[Pr.length t]
theorem Pr.get' {R:D->V->Prop}:∀{ds:List D} {vs:List V} {i:Nat} {d:D},Pr R ds vs->ds[i]?=some d->∃v,vs[i]?=some v/\R d v
 |_,_,_,_,.nil,e=>by simp at e
 |_,_,0,_,.cons h _,e=>by simp at e; subst e; exact⟨_,rfl,h⟩
 |_,_,i+1,v,.cons _ t,e=>by
  obtain⟨d,h1,h2⟩:=Pr.get' (i:=i) (d:=v) t (by simpa using e)
  exact⟨d,by simpa using h1,h2⟩
theorem Pr.append {R:D->V->Prop}:∀{ds es:List D} {vs us:List V},Pr R ds vs->Pr R es us->Pr R (ds++es) (vs++us)
 |_,_,_,_,.nil,s=>s
 |_,_,_,_,.cons h t,s=>.cons h (Pr.append t s)
theorem Pr.take {R:D->V->Prop}:∀{ds:List D} {vs:List V} (n:Nat),Pr R ds vs->Pr R (ds.take n) (vs.take n)
 |_,_,0,_=>.nil
 |_,_,_+1,.nil=>.nil
 |_,_,n+1,.cons h t=>.cons h (Pr.take n t)
theorem Pr.drop {R:D->V->Prop}:∀{ds:List D} {vs:List V} (n:Nat),Pr R ds vs->Pr R (ds.drop n) (vs.drop n)
 |_,_,0,r=>r
 |_,_,_+1,.nil=>.nil
 |_,_,n+1,.cons _ t=>Pr.drop n t
theorem Pr.reverse {R:D->V->Prop}{ds:List D}{vs:List V}(h:Pr R ds vs):Pr R ds.reverse vs.reverse:=by
 induction h with
 |nil=>exact .nil
 |cons h t ih=>rw[ek,ek]; exact ih.append (.cons h .nil)
theorem Pr.rep {R:D->V->Prop}{ds:List D}{vs:List V}(h:Pr R ds vs):∀k:Nat,Pr R (ak k ds).flatten (ak k vs).flatten
 |0=>.nil
 |k+1=>by rw[bJ,cP,bJ,cP]; exact h.append (Pr.rep h k)
mutual
inductive Dt (K:ae)(ct:Nat->Addr)(F:Hp):D->V->Prop
 |non:Dt K ct F .non .non
 |bl (b:Bool):Dt K ct F (.bl b) (.bl b)
 |int (i:Int):Dt K ct F (.int i) (.int i)
 |str (x:Str):Dt K ct F (.str x) (.str x)
 |lst {a:Addr} {vs:List V} {ds:List D}:d5 K F a vs->Dts K ct F ds vs->Dt K ct F (.lst ds) (.ref a)
 |tup {a:Addr} {vs:List V} {ds:List D}:F a=some (.tup vs)->Dts K ct F ds vs->Dt K ct F (.tup ds) (.ref a)
 |dK {a:Addr} {ks:List Key} {vs:List V} {ds:List D}:F a=some (.dK (ks.zip vs))->ks.length=vs.length->Dts K ct F ds vs->Dt K ct F (.dK ks ds) (.ref a)
 |dT {a:Addr} {ks:List (List Key)} {vs:List V} {ds:List D}:F a=some (.dT (ks.zip vs))->ks.length=vs.length->Dts K ct F ds vs->Dt K ct F (.dT ks ds) (.ref a)
 |obj {a dx:Addr} {c:Nat} {ns:List Str} {vs:List V} {ds:List D}:F a=some (.ins (ct c) dx (ns.zip vs))->ns.length=vs.length->Dts K ct F ds vs->Dt K ct F (.obj c ns ds) (.ref a)
inductive Dts (K:ae)(ct:Nat->Addr)(F:Hp):List D->List V->Prop
 |nil:Dts K ct F [] []
 |cons {d:D} {v:V} {ds:List D} {vs:List V}:Dt K ct F d v->Dts K ct F ds vs->Dts K ct F (d::ds) (v::vs)
end
section
variable {K:ae}{ct:Nat->Addr}{F F' G G' H H' B B':Hp}
theorem Dts.pr:∀{ds:List D} {vs:List V},Dts K ct F ds vs->Pr (Dt K ct F) ds vs
 |_,_,.nil=>.nil
 |_,_,.cons h t=>.cons h (Dts.pr t)
theorem Dts.of:∀{ds:List D} {vs:List V},Pr (Dt K ct F) ds vs->Dts K ct F ds vs
 |_,_,.nil=>.nil
 |_,_,.cons h t=>.cons h (Dts.of t)
mutual
theorem Dt.mono (s:bw F F'):∀{d:D} {v:V},Dt K ct F d v->Dt K ct F' d v
 |_,_,.non=>.non
 |_,_,.bl b=>.bl b
 |_,_,.int i=>.int i
 |_,_,.str x=>.str x
 |_,_,.lst h t=>.lst (s.seq h) (Dts.mono s t)
 |_,_,.tup h t=>.tup (s _ _ h) (Dts.mono s t)
 |_,_,.dK h l t=>.dK (s _ _ h) l (Dts.mono s t)
 |_,_,.dT h l t=>.dT (s _ _ h) l (Dts.mono s t)
 |_,_,.obj h l t=>.obj (s _ _ h) l (Dts.mono s t)
theorem Dts.mono (s:bw F F'):∀{ds:List D} {vs:List V},Dts K ct F ds vs->Dts K ct F' ds vs
 |_,_,.nil=>.nil
 |_,_,.cons h t=>.cons (Dt.mono s h) (Dts.mono s t)
end
end
def D.sc:D->Bool
 |.non=>true|.bl _=>true|.int _=>true|.str _=>true|_=>false
inductive Bx (K:ae)(ct:Nat->Addr)(F G:Hp)(R:D->V->Prop):D->V->Prop
 |lst {a:Addr} {vs:List V} {ds:List D}:G a=some (.lst vs)->Pr R ds vs->Bx K ct F G R (.lst ds) (.ref a)
 |tup {a:Addr} {vs:List V} {ds:List D}:F a=some (.tup vs)->Pr R ds vs->Bx K ct F G R (.tup ds) (.ref a)
 |dK {a:Addr} {ks:List Key} {vs:List V} {ds:List D}:G a=some (.dK (ks.zip vs))->ks.length=vs.length->Pr R ds vs->Bx K ct F G R (.dK ks ds) (.ref a)
 |dT {a:Addr} {ks:List (List Key)} {vs:List V} {ds:List D}:G a=some (.dT (ks.zip vs))->ks.length=vs.length->Pr R ds vs->Bx K ct F G R (.dT ks ds) (.ref a)
 |obj {a dx:Addr} {c:Nat} {ns:List Str} {vs:List V} {ds:List D}:G a=some (.ins (ct c) dx (ns.zip vs))->ns.length=vs.length->Pr R ds vs->Bx K ct F G R (.obj c ns ds) (.ref a)
def Al (K:ae)(ct:Nat->Addr)(F G:Hp):Nat->D->V->Prop
 |0,d,v=>Dt K ct F d v
 |n+1,d,v=>Dt K ct F d v\/Bx K ct F G (Al K ct F G n) d v
inductive OwL (R:D->V->List Addr->Prop):List D->List V->List Addr->Prop
 |nil:OwL R [] [] []
 |cons {d:D} {v:V} {ds:List D} {vs:List V} {f g:List Addr}:R d v f->OwL R ds vs g->OwL R (d::ds) (v::vs) (f++g)
inductive qR (K:ae)(ct:Nat->Addr)(F H:Hp)(R:D->V->List Addr->Prop):D->V->List Addr->Prop
 |lst {a:Addr} {vs:List V} {ds:List D} {fp:List Addr}:F a=none->H a=some (.lst vs)->OwL R ds vs fp->qR K ct F H R (.lst ds) (.ref a) (a::fp)
 |tup {a:Addr} {vs:List V} {ds:List D} {fp:List Addr}:F a=some (.tup vs)->OwL R ds vs fp->qR K ct F H R (.tup ds) (.ref a) fp
 |dK {a:Addr} {ks:List Key} {vs:List V} {ds:List D} {fp:List Addr}:F a=none->H a=some (.dK (ks.zip vs))->ks.length=vs.length->OwL R ds vs fp->qR K ct F H R (.dK ks ds) (.ref a) (a::fp)
 |dT {a:Addr} {ks:List (List Key)} {vs:List V} {ds:List D} {fp:List Addr}:F a=none->H a=some (.dT (ks.zip vs))->ks.length=vs.length->OwL R ds vs fp->qR K ct F H R (.dT ks ds) (.ref a) (a::fp)
 |obj {a dx:Addr} {c:Nat} {ns:List Str} {vs:List V} {ds:List D} {fp:List Addr}:F a=none->H a=some (.ins (ct c) dx (ns.zip vs))->ns.length=vs.length->OwL R ds vs fp->qR K ct F H R (.obj c ns ds) (.ref a) (a::fp)
def Ow (K:ae)(ct:Nat->Addr)(F H:Hp):Nat->D->V->List Addr->Prop
 |0,d,v,fp=>Dt K ct F d v/\fp=[]
 |n+1,d,v,fp=>(d.sc=true/\Dt K ct F d v/\fp=[])\/qR K ct F H (Ow K ct F H n) d v fp
structure eM (F H F' H':Hp):Prop where
 ff:bw F F'
 hh:bw H H'
 fh:bw F' H'
 nf:∀a o,H a=some o->F a=none->F' a=none
theorem eM.refl {F H:Hp}(h:bw F H):eM F H F H:=⟨.refl _,.refl _,h,λ_ _ _ h=>h⟩
theorem eM.trans {F H F1 H1 F2 H2:Hp}(a:eM F H F1 H1)(b:eM F1 H1 F2 H2):eM F H F2 H2 :=
 ⟨a.ff.trans b.ff,a.hh.trans b.hh,b.fh,λc o h n=>b.nf c o (a.hh _ _ h) (a.nf c o h n)⟩
theorem eM.newO {F H:Hp}{p:Addr}(s:bw F H)(h:H p=none)(o:HO):eM F H F (cC H p o) :=
 ⟨.refl _,DZ h o,s.trans (DZ h o),λ_ _ _ h=>h⟩
theorem eM.newS {F H:Hp}{p:Addr}(s:bw F H)(h:H p=none)(o:HO):eM F H (cC F p o) (cC H p o) :=
  ⟨DZ (s.free h) o,DZ h o,λb u q=>by
    by_cases e:b=p
    · subst e; rw[yu]at q ⊢; exact q
    · rw[yp e]at q ⊢; exact s _ _ q,
   λb u q n=>by rw[yp (xu q h)]; exact n⟩
section
variable {K:ae}{ct:Nat->Addr}{F F' G G' H H' B B':Hp}
theorem Al.mono (sF:bw F F')(sG:bw G G'):∀{n:Nat} {d:D} {v:V},Al K ct F G n d v->Al K ct F' G' n d v
 |0,_,_,h=>Dt.mono sF h
 |n+1,_,_,.inl h=>.inl (Dt.mono sF h)
 |n+1,_,_,.inr (.lst h p)=>.inr (.lst (sG _ _ h) (p.mono λ_ _ q=>Al.mono sF sG q))
 |n+1,_,_,.inr (.tup h p)=>.inr (.tup (sF _ _ h) (p.mono λ_ _ q=>Al.mono sF sG q))
 |n+1,_,_,.inr (.dK h l p)=>.inr (.dK (sG _ _ h) l (p.mono λ_ _ q=>Al.mono sF sG q))
 |n+1,_,_,.inr (.dT h l p)=>.inr (.dT (sG _ _ h) l (p.mono λ_ _ q=>Al.mono sF sG q))
 |n+1,_,_,.inr (.obj h l p)=>.inr (.obj (sG _ _ h) l (p.mono λ_ _ q=>Al.mono sF sG q))
theorem Al.of:∀{n:Nat} {d:D} {v:V},Dt K ct F d v->Al K ct F G n d v
 |0,_,_,h=>h
 |_+1,_,_,h=>.inl h
theorem Dt.scal {d:D}{v:V}(h:Dt K ct F d v)(hs:d.sc=true):Dt K ct F' d v:=by
 cases h with
 |non=>exact .non
 |bl b=>exact .bl b
 |int i=>exact .int i
 |str x=>exact .str x
 |lst _ _=>cases hs
 |tup _ _=>cases hs
 |dK _ _ _=>cases hs
 |dT _ _ _=>cases hs
 |obj _ _ _=>cases hs
theorem Al.scal {n:Nat}{d:D}{v:V}(h:Al K ct F G n d v)(hs:d.sc=true):Dt K ct F' d v:=by
 cases n with
 |zero=>exact Dt.scal h hs
 |succ n =>
  rcases h with h|h
  ·exact h.scal hs
  ·cases h <;> cases hs
theorem Al.int {n:Nat}{i:Int}{v:V}(h:Al K ct F G n (.int i) v):v=.int i:=by
 have q:=Al.scal (F':=F) h rfl
 cases q; rfl
theorem Al.bl {n:Nat}{b:Bool}{v:V}(h:Al K ct F G n (.bl b) v):v=.bl b:=by
 have q:=Al.scal (F':=F) h rfl
 cases q; rfl
theorem Al.str {n:Nat}{x:Str}{v:V}(h:Al K ct F G n (.str x) v):v=.str x:=by
 have q:=Al.scal (F':=F) h rfl
 cases q; rfl
theorem Al.non {n:Nat}{v:V}(h:Al K ct F G n .non v):v=.non:=by
 have q:=Al.scal (F':=F) h rfl
 cases q; rfl
theorem Al.lst {n:Nat}{ds:List D}{v:V}(h:Al K ct F G n (.lst ds) v)(s:bw F G):∃a vs,v=.ref a/\d5 K G a vs/\Pr (Al K ct F G (n-1)) ds vs:=by
 cases n with
 |zero =>
  have h:Dt K ct F (.lst ds) v:=h
  cases h with
  |lst q t=>exact⟨_,_,rfl,s.seq q,t.pr⟩
 |succ n =>
  rcases h with h|h
  ·cases h with
   |lst q t=>exact⟨_,_,rfl,s.seq q,t.pr.mono λ_ _=>Al.of⟩
  ·cases h with
   |lst q t=>exact⟨_,_,rfl,d5.of q,t⟩
theorem Al.tup {n:Nat}{ds:List D}{v:V}(h:Al K ct F G n (.tup ds) v)(s:bw F G):∃a vs,v=.ref a/\G a=some (.tup vs)/\Pr (Al K ct F G (n-1)) ds vs:=by
 cases n with
 |zero =>
  have h:Dt K ct F (.tup ds) v:=h
  cases h with
  |tup q t=>exact⟨_,_,rfl,s _ _ q,t.pr⟩
 |succ n =>
  rcases h with h|h
  ·cases h with
   |tup q t=>exact⟨_,_,rfl,s _ _ q,t.pr.mono λ_ _=>Al.of⟩
  ·cases h with
   |tup q t=>exact⟨_,_,rfl,s _ _ q,t⟩
theorem Al.dK {n:Nat}{ks:List Key}{ds:List D}{v:V}(h:Al K ct F G n (.dK ks ds) v)(s:bw F G):∃a vs,v=.ref a/\G a=some (.dK (ks.zip vs))/\ks.length=vs.length/\Pr (Al K ct F G (n-1)) ds vs:=by
 cases n with
 |zero =>
  have h:Dt K ct F (.dK ks ds) v:=h
  cases h with
  |dK q l t=>exact⟨_,_,rfl,s _ _ q,l,t.pr⟩
 |succ n =>
  rcases h with h|h
  ·cases h with
   |dK q l t=>exact⟨_,_,rfl,s _ _ q,l,t.pr.mono λ_ _=>Al.of⟩
  ·cases h with
   |dK q l t=>exact⟨_,_,rfl,q,l,t⟩
theorem Al.dT {n:Nat}{ks:List (List Key)}{ds:List D}{v:V}(h:Al K ct F G n (.dT ks ds) v)(s:bw F G):∃a vs,v=.ref a/\G a=some (.dT (ks.zip vs))/\ks.length=vs.length/\Pr (Al K ct F G (n-1)) ds vs:=by
 cases n with
 |zero =>
  have h:Dt K ct F (.dT ks ds) v:=h
  cases h with
  |dT q l t=>exact⟨_,_,rfl,s _ _ q,l,t.pr⟩
 |succ n =>
  rcases h with h|h
  ·cases h with
   |dT q l t=>exact⟨_,_,rfl,s _ _ q,l,t.pr.mono λ_ _=>Al.of⟩
  ·cases h with
   |dT q l t=>exact⟨_,_,rfl,q,l,t⟩
theorem Al.obj {n:Nat}{c:Nat}{ns:List Str}{ds:List D}{v:V}(h:Al K ct F G n (.obj c ns ds) v)(s:bw F G):∃a dx vs,v=.ref a/\G a=some (.ins (ct c) dx (ns.zip vs))/\ns.length=vs.length/\Pr (Al K ct F G (n-1)) ds vs:=by
 cases n with
 |zero =>
  have h:Dt K ct F (.obj c ns ds) v:=h
  cases h with
  |obj q l t=>exact⟨_,_,_,rfl,s _ _ q,l,t.pr⟩
 |succ n =>
  rcases h with h|h
  ·cases h with
   |obj q l t=>exact⟨_,_,_,rfl,s _ _ q,l,t.pr.mono λ_ _=>Al.of⟩
  ·cases h with
   |obj q l t=>exact⟨_,_,_,rfl,q,l,t⟩
theorem OwL.mono {R R':D->V->List Addr->Prop}:∀{ds:List D} {vs:List V} {fp:List Addr},OwL R ds vs fp->(∀d v f,(∀a∈f,a∈fp)->R d v f->R' d v f)->OwL R' ds vs fp
 |_,_,_,.nil,_=>.nil
 |_,_,_,.cons h t,q=>.cons (q _ _ _ (λa z=>aT _ z) h) (OwL.mono t λd v f i r=>q d v f (λa z=>ax _ (i a z)) r)
theorem OwL.pr {R:D->V->List Addr->Prop}{R':D->V->Prop}:∀{ds:List D} {vs:List V} {fp:List Addr},OwL R ds vs fp->(∀d v f,(∀a∈f,a∈fp)->R d v f->R' d v)->Pr R' ds vs
 |_,_,_,.nil,_=>.nil
 |_,_,_,.cons h t,q=>.cons (q _ _ _ (λa z=>aT _ z) h) (OwL.pr t λd v f i r=>q d v f (λa z=>ax _ (i a z)) r)
theorem OwL.ofPr {R:D->V->List Addr->Prop}:∀{ds:List D} {vs:List V},Pr (λd v=>R d v []) ds vs->OwL R ds vs []
 |_,_,.nil=>.nil
 |_,_,.cons h t=>OwL.cons (f:=[]) (g:=[]) h (OwL.ofPr t)
theorem OwL.append {R:D->V->List Addr->Prop}:∀{ds es:List D} {vs us:List V} {f g:List Addr},OwL R ds vs f->OwL R es us g->OwL R (ds++es) (vs++us) (f++g)
 |_,_,_,_,_,_,.nil,s=>s
 |_,_,_,_,_,_,.cons h t,s=>by rw[bT]; exact .cons h (OwL.append t s)
theorem OwL.length {R:D->V->List Addr->Prop}:∀{ds:List D} {vs:List V} {fp:List Addr},OwL R ds vs fp->ds.length=vs.length
 |_,_,_,.nil=>rfl
 |_,_,_,.cons _ t=>by simp[OwL.length t]
theorem Ow.frame (sF:bw F F'):∀{n:Nat} {d:D} {v:V} {fp:List Addr},Ow K ct F H n d v fp->(∀a∈fp,H' a=H a/\F' a=none)->Ow K ct F' H' n d v fp
 |0,_,_,_,⟨h,e⟩,_=>⟨h.mono sF,e⟩
 |n+1,_,_,_,.inl ⟨c,h,e⟩,_=>.inl ⟨c,h.mono sF,e⟩
 |n+1,_,_,_,.inr (.lst hn h p),k=>.inr (.lst (k _ aa).2 ((k _ aa).1.trans h) (p.mono λ_ _ _ i q=>Ow.frame sF q λa z=>k a (ai _ (i a z))))
 |n+1,_,_,_,.inr (.tup h p),k=>.inr (.tup (sF _ _ h) (p.mono λ_ _ _ i q=>Ow.frame sF q λa z=>k a (i a z)))
 |n+1,_,_,_,.inr (.dK hn h l p),k=>.inr (.dK (k _ aa).2 ((k _ aa).1.trans h) l (p.mono λ_ _ _ i q=>Ow.frame sF q λa z=>k a (ai _ (i a z))))
 |n+1,_,_,_,.inr (.obj hn h l p),k=>.inr (.obj (k _ aa).2 ((k _ aa).1.trans h) l (p.mono λ_ _ _ i q=>Ow.frame sF q λa z=>k a (ai _ (i a z))))
 |n+1,_,_,_,.inr (.dT hn h l p),k=>.inr (.dT (k _ aa).2 ((k _ aa).1.trans h) l (p.mono λ_ _ _ i q=>Ow.frame sF q λa z=>k a (ai _ (i a z))))
theorem Ow.cells:∀{n:Nat} {d:D} {v:V} {fp:List Addr},Ow K ct F H n d v fp->∀a∈fp,F a=none/\∃o,H a=some o
 |0,_,_,_,⟨_,e⟩,a,z=>by subst e; cases z
 |n+1,_,_,_,.inl ⟨_,_,e⟩,a,z=>by subst e; cases z
 |n+1,_,_,_,.inr (.lst hn h p),a,z=>by
  rcases aA.mp z with rfl|z
  ·exact⟨hn,_,h⟩
  ·exact OwL.cells (λd v f q=>Ow.cells q) p a z
 |n+1,_,_,_,.inr (.tup h p),a,z=>OwL.cells (λd v f q=>Ow.cells q) p a z
 |n+1,_,_,_,.inr (.dK hn h l p),a,z=>by
  rcases aA.mp z with rfl|z
  ·exact⟨hn,_,h⟩
  ·exact OwL.cells (λd v f q=>Ow.cells q) p a z
 |n+1,_,_,_,.inr (.obj hn h l p),a,z=>by
  rcases aA.mp z with rfl|z
  ·exact⟨hn,_,h⟩
  ·exact OwL.cells (λd v f q=>Ow.cells q) p a z
 |n+1,_,_,_,.inr (.dT hn h l p),a,z=>by
  rcases aA.mp z with rfl|z
  ·exact⟨hn,_,h⟩
  ·exact OwL.cells (λd v f q=>Ow.cells q) p a z
where
 OwL.cells {R:D->V->List Addr->Prop} (k:∀d v f,R d v f->∀a∈f,F a=none/\∃o,H a=some o):∀{ds:List D} {vs:List V} {fp:List Addr},OwL R ds vs fp->∀a∈fp,F a=none/\∃o,H a=some o
 |_,_,_,.nil,a,z=>by cases z
 |_,_,_,.cons h t,a,z=>(aM.mp z).elim (λz=>k _ _ _ h a z) λz=>OwL.cells k t a z
theorem Ow.ext {n:Nat}{d:D}{v:V}{fp:List Addr}(h:Ow K ct F H n d v fp)(e:eM F H F' H'):Ow K ct F' H' n d v fp :=
 h.frame e.ff λa z=>by
  obtain⟨hn,o,ho⟩:=h.cells a z
  exact⟨(e.hh _ _ ho).trans ho.symm,e.nf a o ho hn⟩
theorem Ow.al (s:bw F H):∀{n:Nat} {d:D} {v:V} {fp:List Addr},Ow K ct F H n d v fp->Al K ct F H n d v
 |0,_,_,_,⟨h,_⟩=>h
 |n+1,_,_,_,.inl ⟨_,h,_⟩=>.inl h
 |n+1,_,_,_,.inr (.lst hn h p)=>.inr (.lst h (p.pr λ_ _ _ _ q=>Ow.al s q))
 |n+1,_,_,_,.inr (.tup h p)=>.inr (.tup h (p.pr λ_ _ _ _ q=>Ow.al s q))
 |n+1,_,_,_,.inr (.dK hn h l p)=>.inr (.dK h l (p.pr λ_ _ _ _ q=>Ow.al s q))
 |n+1,_,_,_,.inr (.obj hn h l p)=>.inr (.obj h l (p.pr λ_ _ _ _ q=>Ow.al s q))
 |n+1,_,_,_,.inr (.dT hn h l p)=>.inr (.dT h l (p.pr λ_ _ _ _ q=>Ow.al s q))
theorem Ow.dt (sF:bw F F'):∀{n:Nat} {d:D} {v:V} {fp:List Addr},Ow K ct F H n d v fp->(∀a∈fp,F' a=H a)->Dt K ct F' d v
 |0,_,_,_,⟨h,_⟩,_=>h.mono sF
 |n+1,_,_,_,.inl ⟨_,h,_⟩,_=>h.mono sF
 |n+1,_,_,_,.inr (.lst hn h p),k=>.lst (d5.of ((k _ aa).trans h)) (.of (p.pr λ_ _ _ i q=>Ow.dt sF q λa z=>k a (ai _ (i a z))))
 |n+1,_,_,_,.inr (.tup h p),k=>.tup (sF _ _ h) (.of (p.pr λ_ _ _ i q=>Ow.dt sF q λa z=>k a (i a z)))
 |n+1,_,_,_,.inr (.dK hn h l p),k=>.dK ((k _ aa).trans h) l (.of (p.pr λ_ _ _ i q=>Ow.dt sF q λa z=>k a (ai _ (i a z))))
 |n+1,_,_,_,.inr (.obj hn h l p),k=>.obj ((k _ aa).trans h) l (.of (p.pr λ_ _ _ i q=>Ow.dt sF q λa z=>k a (ai _ (i a z))))
 |n+1,_,_,_,.inr (.dT hn h l p),k=>.dT ((k _ aa).trans h) l (.of (p.pr λ_ _ _ i q=>Ow.dt sF q λa z=>k a (ai _ (i a z))))
def fG (F H:Hp)(fp:List Addr):Hp:=λa=>if a∈fp then H a else F a
theorem u9 {fp:List Addr}(s:bw F H)(hf:∀a∈fp,F a=none):bw F (fG F H fp)/\bw (fG F H fp) H/\∀a∈fp,fG F H fp a=H a:=by
 refine⟨λa o h=>?_,λa o h=>?_,λa z=>if_pos z⟩
 ·have:¬a∈fp:=λz=>by rw[hf a z]at h; cases h
  unfold fG; rw[if_neg this]; exact h
 ·unfold fG at h
  by_cases z:a∈fp
  ·rw[if_pos z]at h; exact h
  ·rw[if_neg z]at h; exact s _ _ h
theorem Ow.freeze {n:Nat}{d:D}{v:V}{fp:List Addr}{F0 H0:Hp}(h:Ow K ct F H n d v fp)(e:eM F0 H0 F H)(hf:∀a∈fp,H0 a=none):∃F',eM F0 H0 F' H/\Dt K ct F' d v:=by
 obtain⟨w1,w2,w3⟩:=u9 (fp:=fp) e.fh (λa z=>(h.cells a z).1)
 refine⟨fG F H fp,⟨e.ff.trans w1,e.hh,w2,λa o ho hn=>?_⟩,h.dt w1 w3⟩
 have:¬a∈fp:=λz=>by rw[hf a z]at ho; cases ho
 unfold fG; rw[if_neg this]; exact e.nf a o ho hn
theorem Ow.zero {d:D}{v:V}(h:Dt K ct F d v):Ow K ct F H 0 d v []:=⟨h,rfl⟩
theorem Ow.scal {n:Nat}{d:D}{v:V}(h:Dt K ct F d v)(hs:d.sc=true):Ow K ct F H n d v []:=by
 cases n with
 |zero=>exact⟨h,rfl⟩
 |succ n=>exact .inl ⟨hs,h,rfl⟩
end
end L3
namespace L3
open PySem PySem.Spec L2
open PyProof.Rows hiding St
abbrev Env:=List (Option D)
inductive Mo where
 |al (n:Nat)|ow (n:Nat)|px (v:V)|so (x:Addr)
def Mo.lv:Mo->Nat
 |.al n=>n
 |.ow n=>n
 |.px _=>1
 |.so _=>1
section
variable (K:ae)(ct:Nat->Addr)
inductive SL (F B H:Hp):List Mo->Env->St->List Addr->Prop
 |nil:SL F B H [] [] [] []
 |no {m:Mo} {o:Option V} {ms:List Mo} {ρ:Env} {σ:St} {fp:List Addr}:SL F B H ms ρ σ fp->SL F B H (m::ms) (none::ρ) (o::σ) fp
 |al {n:Nat} {d:D} {v:V} {ms:List Mo} {ρ:Env} {σ:St} {fp:List Addr}:Al K ct F B n d v->SL F B H ms ρ σ fp->SL F B H (.al n::ms) (some d::ρ) (some v::σ) fp
 |px {d:D} {v:V} {ms:List Mo} {ρ:Env} {σ:St} {fp:List Addr}:Al K ct F B 1 d v->SL F B H ms ρ σ fp->SL F B H (.px v::ms) (some d::ρ) (some v::σ) fp
 |so {d:D} {x:Addr} {ms:List Mo} {ρ:Env} {σ:St} {fp:List Addr}:Ow K ct F H 1 d (.ref x) [x]->SL F B H ms ρ σ fp->SL F B H (.so x::ms) (some d::ρ) (some (.ref x)::σ) (x::fp)
 |ow {n:Nat} {d:D} {v:V} {ms:List Mo} {ρ:Env} {σ:St} {f fp:List Addr}:Ow K ct F H n d v f->SL F B H ms ρ σ fp->SL F B H (.ow n::ms) (some d::ρ) (some v::σ) (f++fp)
structure RS (F0 B:Hp)(ms:List Mo)(F H:Hp)(ρ:Env)(σ:St):Prop where
 f0:bw F0 F
 bh:bw B H
 fh:bw F H
 nf:∀a o,B a=some o->F0 a=none->F a=none
 sl:∃fp,SL K ct F B H ms ρ σ fp/\fp.Nodup/\∀a∈fp,B a=none
end
section
variable {K:ae}{ct:Nat->Addr}{F F' G G' H H' B B' F0:Hp}{ms:List Mo}{ρ:Env}{σ:St}
theorem SL.cells:∀{ms:List Mo} {ρ:Env} {σ:St} {fp:List Addr},SL K ct F B H ms ρ σ fp->∀a∈fp,F a=none/\∃o,H a=some o
 |_,_,_,_,.nil,_,z=>by cases z
 |_,_,_,_,.no t,a,z=>SL.cells t a z
 |_,_,_,_,.al _ t,a,z=>SL.cells t a z
 |_,_,_,_,.px _ t,a,z=>SL.cells t a z
 |_,_,_,_,.so h t,a,z=>(aA.mp z).elim (λz=>h.cells a (by rw[z]; exact aa)) λz=>SL.cells t a z
 |_,_,_,_,.ow h t,a,z=>(aM.mp z).elim (λz=>h.cells a z) λz=>SL.cells t a z
theorem SL.frame (sF:bw F F'):∀{ms:List Mo} {ρ:Env} {σ:St} {fp:List Addr},SL K ct F B H ms ρ σ fp->(∀a∈fp,H' a=H a/\F' a=none)->SL K ct F' B H' ms ρ σ fp
 |_,_,_,_,.nil,_=>.nil
 |_,_,_,_,.no t,k=>.no (SL.frame sF t k)
 |_,_,_,_,.al h t,k=>.al (h.mono sF (.refl _)) (SL.frame sF t k)
 |_,_,_,_,.px h t,k=>.px (h.mono sF (.refl _)) (SL.frame sF t k)
 |_,_,_,_,.so h t,k=>.so (h.frame sF λa z=>k a (by rw[ar]at z; rw[z]; exact aa)) (SL.frame sF t λa z=>k a (ai _ z))
 |_,_,_,_,.ow h t,k=>.ow (h.frame sF λa z=>k a (aT _ z)) (SL.frame sF t λa z=>k a (ax _ z))
theorem RS.ext (r:RS K ct F0 B ms F H ρ σ)(e:eM F H F' H'):RS K ct F0 B ms F' H' ρ σ:=by
 obtain⟨fp,s,nd,hb⟩:=r.sl
 refine⟨r.f0.trans e.ff,r.bh.trans e.hh,e.fh,λa o h n=>e.nf a o (r.bh _ _ h) (r.nf a o h n),fp,s.frame e.ff λa z=>?_,nd,hb⟩
 obtain⟨hn,o,ho⟩:=s.cells a z
 exact⟨(e.hh _ _ ho).trans ho.symm,e.nf a o ho hn⟩
theorem SL.get:∀{ms:List Mo} {ρ:Env} {σ:St} {fp:List Addr} {i:Nat} {m:Mo} {d:D},SL K ct F B H ms ρ σ fp->bw F H->bw B H->ms[i]?=some m->ρ[i]?=some (some d)->∃v,σ[i]?=some (some v)/\Al K ct F H m.lv d v
 |_,_,_,_,_,_,_,.nil,_,_,e,_=>by simp at e
 |_,_,_,_,0,_,_,.no t,_,_,_,e=>by simp at e
 |_,_,_,_,0,_,_,.al h t,_,s,e,e'=>by
  simp at e e'; subst e; subst e'
  exact⟨_,rfl,h.mono (.refl _) s⟩
 |_,_,_,_,0,_,_,.px h t,_,s,e,e'=>by
  simp at e e'; subst e; subst e'
  exact⟨_,rfl,h.mono (.refl _) s⟩
 |_,_,_,_,0,_,_,.so h t,s,_,e,e'=>by
  simp at e e'; subst e; subst e'
  exact⟨_,rfl,h.al s⟩
 |_,_,_,_,0,_,_,.ow h t,s,_,e,e'=>by
  simp at e e'; subst e; subst e'
  exact⟨_,rfl,h.al s⟩
 |_,_,_,_,i+1,_,_,.no t,s,s',e,e'=>by simpa using SL.get (i:=i) t s s' (by simpa using e) (by simpa using e')
 |_,_,_,_,i+1,_,_,.al h t,s,s',e,e'=>by simpa using SL.get (i:=i) t s s' (by simpa using e) (by simpa using e')
 |_,_,_,_,i+1,_,_,.px h t,s,s',e,e'=>by simpa using SL.get (i:=i) t s s' (by simpa using e) (by simpa using e')
 |_,_,_,_,i+1,_,_,.so h t,s,s',e,e'=>by simpa using SL.get (i:=i) t s s' (by simpa using e) (by simpa using e')
 |_,_,_,_,i+1,_,_,.ow h t,s,s',e,e'=>by simpa using SL.get (i:=i) t s s' (by simpa using e) (by simpa using e')
theorem RS.get (r:RS K ct F0 B ms F H ρ σ){i:Nat}{m:Mo}{d:D}(hm:ms[i]?=some m)(e:ρ[i]?=some (some d)):∃v,σ[i]?=some (some v)/\Al K ct F H m.lv d v:=by
 obtain⟨fp,s,_,_⟩:=r.sl
 exact s.get r.fh r.bh hm e
theorem SL.put:∀{ms:List Mo} {ρ:Env} {σ:St} {fp:List Addr} {i k:Nat},SL K ct F B H ms ρ σ fp->ms[i]?=some (.ow k) ->
  ∃f1 fr:List Addr,(∀a∈f1,a∈fp)/\(∀a∈fr,a∈fp)/\(fp.Nodup->f1.Nodup/\fr.Nodup/\∀a∈f1,a∉fr)/\(∀d,ρ[i]?=some (some d)->∃v,σ[i]?=some (some v)/\Ow K ct F H k d v f1) /\
   ∀(F' H':Hp) (d':D) (v':V) (f':List Addr),bw F F'->(∀a∈fr,H' a=H a/\F' a=none)->Ow K ct F' H' k d' v' f' ->
    ∃fE,SL K ct F' B H' ms (ρ.set i (some d')) (σ.set i (some v')) fE/\(∀a∈fE,a∈f'\/a∈fr)/\(f'.Nodup->fr.Nodup->(∀a∈f',a∉fr)->fE.Nodup)
 |_,_,_,_,_,_,.nil,e=>by simp at e
 |_,_,_,fp,0,k,.no t,e=>by
  simp at e; subst e
  refine⟨[],fp,λa z=>(by cases z),λa z=>z,λn=>⟨bm,n,λa z=>(by cases z)⟩,λd q=>(by simp at q),λF' H' d' v' f' s kf h=>⟨f'++fp,.ow h (t.frame s kf),λa z=>aM.mp z,λn1 n2 dj=>?_⟩⟩
  exact aY.mpr ⟨n1,n2,λa z b zb e=>dj a z (e ▸ zb)⟩
 |_,_,_,_,0,k,.al h t,e=>by simp at e
 |_,_,_,_,0,k,.px h t,e=>by simp at e
 |_,_,_,_,0,k,.so h t,e=>by simp at e
 |_,_,_,_,0,k,.ow (f:=f) (fp:=fp) h t,e=>by
  simp at e; subst e
  refine⟨f,fp,λa z=>aT _ z,λa z=>ax _ z,λn=>?_,λd q=>?_,λF' H' d' v' f' s kf h=>⟨f'++fp,.ow h (t.frame s kf),λa z=>aM.mp z,λn1 n2 dj=>?_⟩⟩
  ·obtain⟨n1,n2,n3⟩:=aY.mp n
   exact⟨n1,n2,λa z zb=>n3 a z a zb rfl⟩
  ·simp at q; subst q; exact⟨_,rfl,h⟩
  ·exact aY.mpr ⟨n1,n2,λa z b zb e=>dj a z (e ▸ zb)⟩
 |_,_,_,_,i+1,k,.no t,e=>by
  obtain⟨f1,fr,h1,h2,h3,h4,h5⟩:=SL.put (i:=i) (k:=k) t (by simpa using e)
  refine⟨f1,fr,h1,h2,h3,λd q=>by simpa using h4 d (by simpa using q),λF' H' d' v' f' s kf h=>?_⟩
  obtain⟨fE,q1,q2,q3⟩:=h5 F' H' d' v' f' s kf h
  exact⟨fE,.no q1,q2,q3⟩
 |_,_,_,_,i+1,k,.al h t,e=>by
  obtain⟨f1,fr,h1,h2,h3,h4,h5⟩:=SL.put (i:=i) (k:=k) t (by simpa using e)
  refine⟨f1,fr,h1,h2,h3,λd q=>by simpa using h4 d (by simpa using q),λF' H' d' v' f' s kf h'=>?_⟩
  obtain⟨fE,q1,q2,q3⟩:=h5 F' H' d' v' f' s kf h'
  exact⟨fE,.al (h.mono s (.refl _)) q1,q2,q3⟩
 |_,_,_,_,i+1,k,.px h t,e=>by
  obtain⟨f1,fr,h1,h2,h3,h4,h5⟩:=SL.put (i:=i) (k:=k) t (by simpa using e)
  refine⟨f1,fr,h1,h2,h3,λd q=>by simpa using h4 d (by simpa using q),λF' H' d' v' f' s kf h'=>?_⟩
  obtain⟨fE,q1,q2,q3⟩:=h5 F' H' d' v' f' s kf h'
  exact⟨fE,.px (h.mono s (.refl _)) q1,q2,q3⟩
 |_,_,_,_,i+1,k,.so (x:=x) (fp:=fp) h t,e=>by
  obtain⟨f1,fr,h1,h2,h3,h4,h5⟩:=SL.put (i:=i) (k:=k) t (by simpa using e)
  refine⟨f1,x::fr,λa z=>ai _ (h1 a z),λa z=>(aA.mp z).elim (λz=>by rw[z]; exact aa) λz=>ai _ (h2 a z),λn=>?_,λd q=>by simpa using h4 d (by simpa using q),λF' H' d' v' f' s kf h'=>?_⟩
  ·obtain⟨n1,n2⟩:=bi.mp n
   obtain⟨m1,m2,m3⟩:=h3 n2
   refine⟨m1,bi.mpr ⟨λz=>n1 (h2 x z),m2⟩,λa z zb=>?_⟩
   rcases aA.mp zb with zb|zb
   ·rw[zb]at z; exact n1 (h1 x z)
   ·exact m3 a z zb
  ·obtain⟨fE,q1,q2,q3⟩:=h5 F' H' d' v' f' s (λa z=>kf a (ai _ z)) h'
   refine⟨x::fE,.so (h.frame s λa z=>kf a (by rw[ar]at z; rw[z]; exact aa)) q1,λa z=>?_,λn1 n2 dj=>?_⟩
   ·rcases aA.mp z with z|z
    ·exact .inr (by rw[z]; exact aa)
    ·exact(q2 a z).imp id λz=>ai _ z
   ·obtain⟨m1,m2⟩:=bi.mp n2
    refine bi.mpr ⟨λz=>?_,q3 n1 m2 λa z zb=>dj a z (ai _ zb)⟩
    rcases q2 x z with z|z
    ·exact dj x z aa
    ·exact m1 z
 |_,_,_,_,i+1,k,.ow (f:=f) (fp:=fp) h t,e=>by
  obtain⟨f1,fr,h1,h2,h3,h4,h5⟩:=SL.put (i:=i) (k:=k) t (by simpa using e)
  refine⟨f1,f++fr,λa z=>ax _ (h1 a z),λa z=>(aM.mp z).elim (λz=>aT _ z) λz=>ax _ (h2 a z),λn=>?_,λd q=>by simpa using h4 d (by simpa using q),λF' H' d' v' f' s kf h'=>?_⟩
  ·obtain⟨n1,n2,n3⟩:=aY.mp n
   obtain⟨m1,m2,m3⟩:=h3 n2
   refine⟨m1,aY.mpr ⟨n1,m2,λa z b zb=>n3 a z b (h2 b zb)⟩,λa z zb=>?_⟩
   rcases aM.mp zb with zb|zb
   ·exact n3 a zb a (h1 a z) rfl
   ·exact m3 a z zb
  ·obtain⟨fE,q1,q2,q3⟩:=h5 F' H' d' v' f' s (λa z=>kf a (ax _ z)) h'
   refine⟨f++fE,.ow (h.frame s λa z=>kf a (aT _ z)) q1,λa z=>?_,λn1 n2 dj=>?_⟩
   ·rcases aM.mp z with z|z
    ·exact .inr (aT _ z)
    ·exact(q2 a z).imp id λz=>ax _ z
   ·obtain⟨m1,m2,m3⟩:=aY.mp n2
    refine aY.mpr ⟨m1,q3 n1 m2 λa z zb=>dj a z (ax _ zb),λa z b zb e=>?_⟩
    subst e
    rcases q2 a zb with zb|zb
    ·exact dj a zb (aT _ z)
    ·exact m3 a z a zb rfl
end
abbrev EF:=Env->Option D
inductive gu (K:ae)(ct:Nat->Addr)(F G:Hp):List Nat->List D->List V->Prop
 |nil:gu K ct F G [] [] []
 |cons {n:Nat} {d:D} {v:V} {ns:List Nat} {ds:List D} {vs:List V}:Al K ct F G n d v->gu K ct F G ns ds vs->gu K ct F G (n::ns) (d::ds) (v::vs)
theorem gu.mono {K:ae}{ct:Nat->Addr}{F F' G G':Hp}(sF:bw F F')(sG:bw G G'):∀{ns:List Nat} {ds:List D} {vs:List V},gu K ct F G ns ds vs->gu K ct F' G' ns ds vs
 |_,_,_,.nil=>.nil
 |_,_,_,.cons h t=>.cons (h.mono sF sG) (gu.mono sF sG t)
theorem gu.length {K:ae}{ct:Nat->Addr}{F G:Hp}:∀{ns:List Nat} {ds:List D} {vs:List V},gu K ct F G ns ds vs->vs.length=ns.length
 |_,_,_,.nil=>rfl
 |_,_,_,.cons _ t=>by simp[gu.length t]
theorem gu.length' {K:ae}{ct:Nat->Addr}{F G:Hp}:∀{ns:List Nat} {ds:List D} {vs:List V},gu K ct F G ns ds vs->ds.length=vs.length
 |_,_,_,.nil=>rfl
 |_,_,_,.cons _ t=>by simp[gu.length' t]
theorem gu.append {K:ae}{ct:Nat->Addr}{F G:Hp}{lW:List Nat}{lQ:List D}{FT:List V}(q:gu K ct F G lW lQ FT):∀{ns:List Nat} {ds:List D} {vs:List V},gu K ct F G ns ds vs->gu K ct F G (ns++lW) (ds++lQ) (vs++FT)
 |_,_,_,.nil=>q
 |_,_,_,.cons h t=>.cons h (gu.append q t)
section
variable (X:Cx)(ct:Nat->Addr)(ms:List Mo)
def XE (n:Nat)(e:Expr)(f:EF):Prop:=∃t,PE X e t/\∀(F0 B F H:Hp) (ρ:Env) (σ:St) (d:D) (Q:VK),RS X.K ct F0 B ms F H ρ σ->f ρ=some d ->
 (∀v F' H',eM F H F' H'->Al X.K ct F' H' n d v->Q v H')->t σ H Q
def XO (k:Nat)(e:Expr)(f:EF):Prop:=∃t,PE X e t/\∀(F0 B F H:Hp) (ρ:Env) (σ:St) (d:D) (Q:VK),RS X.K ct F0 B ms F H ρ σ->f ρ=some d ->
 (∀v F' H' fp,eM F H F' H'->Ow X.K ct F' H' k d v fp->fp.Nodup->(∀a∈fp,H a=none)->Q v H')->t σ H Q
def XT (e:Expr)(f:Env->Option Bool):Prop:=∃t,PT X e t/\∀(F0 B F H:Hp) (ρ:Env) (σ:St) (b:Bool) (Q:Bool->Hp->Prop),RS X.K ct F0 B ms F H ρ σ->f ρ=some b ->
 (∀F' H',eM F H F' H'->Q b H')->t σ H Q
def XW (e:Expr)(f:Env->Option Bool):Prop:=∃t,PW X e t/\∀(F0 B F H:Hp) (ρ:Env) (σ:St) (b:Bool) (Q:Bool->Hp->Prop),RS X.K ct F0 B ms F H ρ σ->f ρ=some b ->
 (∀F' H',eM F H F' H'->Q b H')->t σ H Q
def XA (es:List Expr)(ns:List Nat)(f:Env->Option (List D)):Prop:=∃t,PA X es t/\(∀ρ ds,f ρ=some ds->ds.length=es.length)/\∀(F0 B F H:Hp) (ρ:Env) (σ:St) (ds:List D) (Q:List V->Hp->Prop),RS X.K ct F0 B ms F H ρ σ->f ρ=some ds ->
 (∀vs F' H',eM F H F' H'->gu X.K ct F' H' ns ds vs->Q vs H')->t σ H Q
end
def e2 (op:D->D->Option D)(f g:EF):EF:=λρ=>(f ρ).bind λx=>(g ρ).bind λy=>op x y
def e1 (op:D->Option D)(f:EF):EF:=λρ=>(f ρ).bind op
def eN (op:List D->Option D)(f:Env->Option (List D)):EF:=λρ=>(f ρ).bind op
def eC (d:D):EF:=λ_=>some d
def eV (i:Nat):EF:=λρ=>(ρ[i]?).join
def aNil:Env->Option (List D):=λ_=>some []
def aCons (f:EF)(g:Env->Option (List D)):Env->Option (List D):=λρ=>(f ρ).bind λx=>(g ρ).bind λxs=>some (x::xs)
theorem cy {α β γ:Type}{o:Option α}{p:Option β}{op:α->β->Option γ}{r:γ}(h:(o.bind λx=>p.bind λy=>op x y)=some r):∃x y,o=some x/\p=some y/\op x y=some r:=by
 cases o with
 |none=>cases h
 |some x =>
  cases p with
  |none=>cases h
  |some y=>exact⟨x,y,rfl,rfl,h⟩
theorem bind1 {α β:Type}{o:Option α}{op:α->Option β}{r:β}(h:o.bind op=some r):∃x,o=some x/\op x=some r:=by
 cases o with
 |none=>cases h
 |some x=>exact⟨x,rfl,h⟩
theorem ye {α:Type}{o:Option (Option α)}{x:α}(h:o.join=some x):o=some (some x):=by
 cases o with
 |none=>cases h
 |some y=>exact congrArg some h
def ko (K:ae)(ct:Nat->Addr)(n m k:Nat)(r:R2)(op:D->D->Option D):Prop :=
 ∀(F H:Hp) (x y:V) (d1 d2 d:D) (Q:VK),bw F H->Al K ct F H n d1 x->Al K ct F H m d2 y->op d1 d2=some d->(∀v F' H',eM F H F' H'->Al K ct F' H' k d v->Q v H')->r x y H Q
def Cv (K:ae)(ct:Nat->Addr)(n m k:Nat)(r:R2)(op:D->D->Option D):Prop :=
 ∀(F H:Hp) (x y:V) (d1 d2 d:D) (Q:VK),bw F H->Al K ct F H n d1 x->Al K ct F H m d2 y->op d1 d2=some d ->
  (∀v F' H' fp,eM F H F' H'->Ow K ct F' H' k d v fp->fp.Nodup->(∀a∈fp,H a=none)->Q v H')->r x y H Q
def tq (K:ae)(ct:Nat->Addr)(ns:List Nat)(k:Nat)(r:List V->Hp->VK->Prop)(op:List D->Option D):Prop :=
 ∀(F H:Hp) (vs:List V) (ds:List D) (d:D) (Q:VK),bw F H->gu K ct F H ns ds vs->op ds=some d->(∀v F' H',eM F H F' H'->Al K ct F' H' k d v->Q v H')->r vs H Q
def oY (K:ae)(ct:Nat->Addr)(ns:List Nat)(k:Nat)(r:List V->Hp->VK->Prop)(op:List D->Option D):Prop :=
 ∀(F H:Hp) (vs:List V) (ds:List D) (d:D) (Q:VK),bw F H->gu K ct F H ns ds vs->op ds=some d ->
  (∀v F' H' fp,eM F H F' H'->Ow K ct F' H' k d v fp->fp.Nodup->(∀a∈fp,H a=none)->Q v H')->r vs H Q
section
variable {X:Cx}{ct:Nat->Addr}{ms:List Mo}{n m k:Nat}{a b c e:Expr}{f g h:EF}{pos:Pos}
theorem XO.sh (he:XO X ct ms k e f):XE X ct ms n e f:=by
 obtain⟨t,p,q⟩:=he
 refine⟨t,p,λF0 B F H ρ σ d Q r e w=>q F0 B F H ρ σ d Q r e λv F' H' fp x o nd hf=>?_⟩
 obtain⟨F2,x2,h2⟩:=o.freeze x hf
 exact w v F2 H' x2 (Al.of h2)
theorem XE.ow (he:XE X ct ms 0 e f):XO X ct ms 0 e f:=by
 obtain⟨t,p,q⟩:=he
 exact⟨t,p,λF0 B F H ρ σ d Q r e w=>q F0 B F H ρ σ d Q r e λv F' H' x l=>w v F' H' [] x ⟨l,rfl⟩ bm λa z=>(by cases z)⟩
theorem za (i n:Nat){x:Str}{m:Mo}(hm:ms[i]?=some m:=by rfl)(hl:m.lv=n:=by rfl)(hN:X.N[i]?=some x:=by rfl)(hv:lP X.env.scope x:=by first|exact Or.inl rfl|exact Or.inr (Or.inl rfl)|exact Or.inr (Or.inr rfl))(hd:(x == ("__debug__":Str))=false:=by decide)
  (gA:(x == ("__classdict__":Str))=false:=by decide):XE X ct ms n (.Name x pos) (eV i):=by
 subst hl
 refine⟨_,jl hN hv hd gA,λF0 B F H ρ σ d Q r e w=>?_⟩
 obtain⟨v,hv,l⟩:=r.get hm (ye e)
 exact⟨v,hv,w v F H (.refl r.fh) l⟩
theorem zh {i:Int}{j}:XE X ct ms n (.Constant (.int i) j pos) (eC (.int i)):=⟨_,ZC,λF0 B F H ρ σ d Q r e w=>by cases e; exact w _ F H (.refl r.fh) (Al.of (.int i))⟩
theorem sW {i:Bool}{j}:XE X ct ms n (.Constant (.bool i) j pos) (eC (.bl i)):=⟨_,ztl,λF0 B F H ρ σ d Q r e w=>by cases e; exact w _ F H (.refl r.fh) (Al.of (.bl i))⟩
theorem uA {i:Str}{j}:XE X ct ms n (.Constant (.str i) j pos) (eC (.str i)):=⟨_,ZE,λF0 B F H ρ σ d Q r e w=>by cases e; exact w _ F H (.refl r.fh) (Al.of (.str i))⟩
theorem uv {j}:XE X ct ms n (.Constant .none j pos) (eC .non):=⟨_,ZD,λF0 B F H ρ σ d Q r e w=>by cases e; exact w _ F H (.refl r.fh) (Al.of .non)⟩
theorem XE.bin (ha:XE X ct ms n a f)(hb:XE X ct ms m b g):∃ta tb,PE X a ta/\PE X b tb/\∀(F0 B F H:Hp) (ρ:Env) (σ:St) (d1 d2:D) (R:V->V->Hp->Prop),RS X.K ct F0 B ms F H ρ σ->f ρ=some d1->g ρ=some d2 ->
  (∀x y F' H',eM F H F' H'->Al X.K ct F' H' n d1 x->Al X.K ct F' H' m d2 y->R x y H')->ta σ H λx H1=>tb σ H1 λy H2=>R x y H2:=by
 obtain⟨ta,pa,qa⟩:=ha
 obtain⟨tb,pb,qb⟩:=hb
 refine⟨ta,tb,pa,pb,λF0 B F H ρ σ d1 d2 R r e1 e2 w=>qa F0 B F H ρ σ d1 _ r e1 λx F1 H1 x1 l1=>?_⟩
 exact qb F0 B F1 H1 ρ σ d2 _ (r.ext x1) e2 λy F2 H2 x2 l2=>w x y F2 H2 (x1.trans x2) (l1.mono x2.ff x2.hh) l2
theorem yr {op:Operator}{r:R2}{o:D->D->Option D}(ho:eR X (binaryOp op) r)(hs:ko X.K ct n m k r o)(ha:XE X ct ms n a f)(hb:XE X ct ms m b g):XE X ct ms k (.BinOp a op b pos) (e2 o f g):=by
 obtain⟨ta,tb,pa,pb,q⟩:=ha.bin hb
 refine⟨_,M0 ho pa pb,λF0 B F H ρ σ d Q rs e w=>?_⟩
 obtain⟨d1,d2,h1,h2,h3⟩:=cy e
 exact q F0 B F H ρ σ d1 d2 _ rs h1 h2 λx y F' H' x1 l1 l2=>hs F' H' x y d1 d2 d Q x1.fh l1 l2 h3 λv F2 H2 x2 l=>w v F2 H2 (x1.trans x2) l
theorem jv {op:Operator}{r:R2}{o:D->D->Option D}(ho:eR X (binaryOp op) r)(hs:Cv X.K ct n m k r o)(ha:XE X ct ms n a f)(hb:XE X ct ms m b g):XO X ct ms k (.BinOp a op b pos) (e2 o f g):=by
 obtain⟨ta,tb,pa,pb,q⟩:=ha.bin hb
 refine⟨_,M0 ho pa pb,λF0 B F H ρ σ d Q rs e w=>?_⟩
 obtain⟨d1,d2,h1,h2,h3⟩:=cy e
 exact q F0 B F H ρ σ d1 d2 _ rs h1 h2 λx y F' H' x1 l1 l2=>hs F' H' x y d1 d2 d Q x1.fh l1 l2 h3 λv F2 H2 fp x2 l nd hf=>w v F2 H2 fp (x1.trans x2) l nd λz hz=>x1.hh.free (hf z hz)
theorem qH {op:CmpOp}{r:R2}{o:D->D->Option D}(ho:eR X (compareOp op) r)(hs:ko X.K ct n m k r o)(ha:XE X ct ms n a f)(hb:XE X ct ms m b g)(hm:behindInMarks op b=false):XE X ct ms k (.Compare a [op] [b] pos) (e2 o f g):=by
 obtain⟨ta,tb,pa,pb,q⟩:=ha.bin hb
 refine⟨_,X7 ho pa pb hm,λF0 B F H ρ σ d Q rs e w=>?_⟩
 obtain⟨d1,d2,h1,h2,h3⟩:=cy e
 exact q F0 B F H ρ σ d1 d2 _ rs h1 h2 λx y F' H' x1 l1 l2=>hs F' H' x y d1 d2 d Q x1.fh l1 l2 h3 λv F2 H2 x2 l=>w v F2 H2 (x1.trans x2) l
theorem wj {r:R2}{o:D->D->Option D}(hr:p5 X r)(hs:ko X.K ct n m k r o)(ha:XE X ct ms n a f)(hb:XE X ct ms m b g)(hp:nw b):XE X ct ms k (.Subscript a b pos) (e2 o f g):=by
 obtain⟨ta,tb,pa,pb,q⟩:=ha.bin hb
 refine⟨_,zts hr pa pb hp,λF0 B F H ρ σ d Q rs e w=>?_⟩
 obtain⟨d1,d2,h1,h2,h3⟩:=cy e
 exact q F0 B F H ρ σ d1 d2 _ rs h1 h2 λx y F' H' x1 l1 l2=>hs F' H' x y d1 d2 d Q x1.fh l1 l2 h3 λv F2 H2 x2 l=>w v F2 H2 (x1.trans x2) l
theorem ztw {op:UnaryOp}{r:V->Hp->VK->Prop}{o:D->Option D}(ho:Ej X (unaryOp op) r)
  (hs:∀(F H:Hp) (x:V) (d1 d:D) (Q:VK),bw F H->Al X.K ct F H n d1 x->o d1=some d->(∀v F' H',eM F H F' H'->Al X.K ct F' H' k d v->Q v H')->r x H Q) (ha:XE X ct ms n a f):XE X ct ms k (.UnaryOp op a pos) (e1 o f):=by
 obtain⟨ta,pa,qa⟩:=ha
 refine⟨_,ztp ho pa,λF0 B F H ρ σ d Q rs e w=>?_⟩
 obtain⟨d1,h1,h2⟩:=bind1 e
 exact qa F0 B F H ρ σ d1 _ rs h1 λx F' H' x1 l1=>hs F' H' x d1 d Q x1.fh l1 h2 λv F2 H2 x2 l=>w v F2 H2 (x1.trans x2) l
theorem zk:XA X ct ms [] [] aNil:=⟨_,qz,λρ ds e=>(by cases e; rfl),λF0 B F H ρ σ ds Q r e w=>by cases e; exact w [] F H (.refl r.fh) .nil⟩
theorem ze {es:List Expr}{ns:List Nat}{fs:Env->Option (List D)}(ha:XE X ct ms n a f)(hr:XA X ct ms es ns fs)(hs:starEach (a::es) X.env=(false,eval a X.env)::starEach es X.env:=by rfl):XA X ct ms (a::es) (n::ns) (aCons f fs):=by
 obtain⟨ta,pa,qa⟩:=ha
 obtain⟨tb,pb,lb,qb⟩:=hr
 refine⟨_,v7 pa pb hs,λρ ds e=>(by obtain⟨x,xs,h1,h2,h3⟩:=cy e; cases h3; rw[aJ,aJ,lb _ _ h2]),λF0 B F H ρ σ ds Q r e w=>?_⟩
 obtain⟨x,xs,h1,h2,h3⟩:=cy e
 cases h3
 refine qa F0 B F H ρ σ x _ r h1 λv F1 H1 x1 l1=>?_
 exact qb F0 B F1 H1 ρ σ xs _ (r.ext x1) h2 λvs F2 H2 x2 l2=>w (v::vs) F2 H2 (x1.trans x2) (.cons (l1.mono x2.ff x2.hh) l2)
def Cy (X:Cx)(ct:Nat->Addr)(ms:List Mo)(k:Nat)(es:List Expr)(f:Env->Option (List D)):Prop:=∃t,PA X es t/\(∀ρ ds,f ρ=some ds->ds.length=es.length)/\∀(F0 B F H:Hp) (ρ:Env) (σ:St) (ds:List D) (Q:List V->Hp->Prop),RS X.K ct F0 B ms F H ρ σ->f ρ=some ds ->
 (∀vs F' H' fp,eM F H F' H'->OwL (Ow X.K ct F' H' k) ds vs fp->fp.Nodup->(∀a∈fp,H a=none)->Q vs H')->t σ H Q
theorem wo:Cy X ct ms k [] aNil:=⟨_,qz,λρ ds e=>(by cases e; rfl),λF0 B F H ρ σ ds Q r e w=>by cases e; exact w [] F H [] (.refl r.fh) .nil bm λa z=>(by cases z)⟩
theorem zu {es:List Expr}{fs:Env->Option (List D)}(ha:XO X ct ms k a f)(hr:Cy X ct ms k es fs)(hs:starEach (a::es) X.env=(false,eval a X.env)::starEach es X.env:=by rfl):Cy X ct ms k (a::es) (aCons f fs):=by
 obtain⟨ta,pa,qa⟩:=ha
 obtain⟨tb,pb,lb,qb⟩:=hr
 refine⟨_,v7 pa pb hs,λρ ds e=>(by obtain⟨x,xs,h1,h2,h3⟩:=cy e; cases h3; rw[aJ,aJ,lb _ _ h2]),λF0 B F H ρ σ ds Q r e w=>?_⟩
 obtain⟨x,xs,h1,h2,h3⟩:=cy e
 cases h3
 refine qa F0 B F H ρ σ x _ r h1 λv F1 H1 f1 x1 l1 n1 a1=>?_
 refine qb F0 B F1 H1 ρ σ xs _ (r.ext x1) h2 λvs F2 H2 f2 x2 l2 n2 a2=>w (v::vs) F2 H2 (f1++f2) (x1.trans x2) (.cons (l1.ext x2) l2) (aY.mpr ⟨n1,n2,λz hz y hy e=>?_⟩) λz hz=>?_
 ·subst e
  obtain⟨_,o,ho⟩:=l1.cells z hz
  rw[a2 z hy]at ho
  cases ho
 ·rcases aM.mp hz with hz|hz
  ·exact a1 z hz
  ·exact x1.hh.free (a2 z hz)
end
end L3
namespace L3
open PySem PySem.Spec L2
open PyProof.Rows hiding St
def Ep:D->Option Bool
 |.bl b=>some b
 |_=>none
theorem D1 {d:D}{b:Bool}(h:Ep d=some b):d=.bl b:=by cases d <;> simp[Ep]at h; subst h; rfl
abbrev BF:=Env->Option Bool
def tb (f:EF):BF:=λρ=>(f ρ).bind Ep
def bNot (f:BF):BF:=λρ=>(f ρ).bind λb=>some (!b)
def bAnd (f g:BF):BF:=λρ=>(f ρ).bind λb=>if b=true then g ρ else some false
def bOr (f g:BF):BF:=λρ=>(f ρ).bind λb=>if b=true then some true else g ρ
def eB (f:BF):EF:=λρ=>(f ρ).bind λb=>some (.bl b)
def eIf (c:BF)(f g:EF):EF:=λρ=>(c ρ).bind λb=>if b=true then f ρ else g ρ
section
variable {X:Cx}{ct:Nat->Addr}{ms:List Mo}{n m k:Nat}{a b c e:Expr}{f g h:EF}{p q:BF}{pos:Pos}
theorem jm (he:XE X ct ms n e f)(hi:∀whole,isTrue e X.env whole=(do let v ← whole; standAt e.pos; holding [v] (truthy v)):=by intro _; rfl):XT X ct ms e (tb f):=by
 obtain⟨t,pt,qt⟩:=he
 refine⟨_,ZF pt hi,λF0 B F H ρ σ b Q r e w=>?_⟩
 obtain⟨d,h1,h2⟩:=bind1 e
 rw[D1 h2]at h1
 exact qt F0 B F H ρ σ _ _ r h1 λv F' H' x l=>⟨b,l.bl,w F' H' x⟩
theorem xk {op:CmpOp}{r:R2}{o:D->D->Option D}(ho:eR X (compareOp op) r)(hs:ko X.K ct n m k r o)(ha:XE X ct ms n a f)(hb:XE X ct ms m b g)(hm:behindInMarks op b=false):XT X ct ms (.Compare a [op] [b] pos) (tb (e2 o f g)):=by
 obtain⟨ta,tb,pa,pb,q⟩:=ha.bin hb
 refine⟨_,X8 ho pa pb hm,λF0 B F H ρ σ b Q rs e w=>?_⟩
 obtain⟨d,h0,h4⟩:=bind1 e
 rw[D1 h4]at h0
 obtain⟨d1,d2,h1,h2,h3⟩:=cy h0
 exact q F0 B F H ρ σ d1 d2 _ rs h1 h2 λx y F' H' x1 l1 l2=>hs F' H' x y d1 d2 _ _ x1.fh l1 l2 h3 λv F2 H2 x2 l=>⟨b,l.bl,w F2 H2 (x1.trans x2)⟩
theorem XW.t (h:XW X ct ms e p):XT X ct ms e p:=by
 obtain⟨t,pt,qt⟩:=h
 exact⟨t,pt.pt,qt⟩
theorem Gx (ha:XT X ct ms a p):XW X ct ms (.BoolOp .And [a] pos) p:=by
 obtain⟨t,pt,qt⟩:=ha
 exact⟨t,Yi pt,qt⟩
theorem Ca (ha:XT X ct ms a p):XW X ct ms (.BoolOp .Or [a] pos) p:=by
 obtain⟨t,pt,qt⟩:=ha
 exact⟨t,ZG pt,qt⟩
theorem GM {rest:List Expr}(ha:XT X ct ms a p)(hb:XW X ct ms (.BoolOp .And (b::rest) pos) q):XW X ct ms (.BoolOp .And (a::b::rest) pos) (bAnd p q):=by
 obtain⟨t,pt,qt⟩:=ha
 obtain⟨u,pu,qu⟩:=hb
 refine⟨_,ZH pt pu,λF0 B F H ρ σ r Q rs e w=>?_⟩
 obtain⟨x,h1,h2⟩:=bind1 e
 refine qt F0 B F H ρ σ x _ rs h1 λF1 H1 x1=>?_
 cases x with
 |true=>rw[if_pos rfl]; exact qu F0 B F1 H1 ρ σ r _ (rs.ext x1) h2 λF2 H2 x2=>w F2 H2 (x1.trans x2)
 |false=>cases h2; rw[if_neg aH]; exact w F1 H1 x1
theorem uD {rest:List Expr}(ha:XT X ct ms a p)(hb:XW X ct ms (.BoolOp .Or (b::rest) pos) q):XW X ct ms (.BoolOp .Or (a::b::rest) pos) (bOr p q):=by
 obtain⟨t,pt,qt⟩:=ha
 obtain⟨u,pu,qu⟩:=hb
 refine⟨_,ztm pt pu,λF0 B F H ρ σ r Q rs e w=>?_⟩
 obtain⟨x,h1,h2⟩:=bind1 e
 refine qt F0 B F H ρ σ x _ rs h1 λF1 H1 x1=>?_
 cases x with
 |true=>cases h2; rw[if_pos rfl]; exact w F1 H1 x1
 |false=>rw[if_neg aH]; exact qu F0 B F1 H1 ρ σ r _ (rs.ext x1) h2 λF2 H2 x2=>w F2 H2 (x1.trans x2)
theorem qI (ha:XT X ct ms a p):XT X ct ms (.UnaryOp .Not a pos) (bNot p):=by
 obtain⟨t,pt,qt⟩:=ha
 refine⟨_,ZI pt,λF0 B F H ρ σ r Q rs e w=>?_⟩
 obtain⟨x,h1,h2⟩:=bind1 e
 cases h2
 exact qt F0 B F H ρ σ x _ rs h1 λF1 H1 x1=>w F1 H1 x1
theorem Bw {op}(ha:XE X ct ms n a f):XE X ct ms k (.BoolOp op [a] pos) (eB (tb f)):=by
 obtain⟨t,pt,qt⟩:=ha
 refine⟨_,ZJ pt,λF0 B F H ρ σ r Q rs e w=>?_⟩
 obtain⟨y,h3,h4⟩:=bind1 e
 obtain⟨z,h5,h6⟩:=bind1 h3
 cases h4
 rw[D1 h6]at h5
 exact qt F0 B F H ρ σ _ _ rs h5 λv F1 H1 x1 l=>w _ F1 H1 x1 (by rw[l.bl]; exact Al.of (.bl _))
theorem Cb {rest:List Expr}(ha:XE X ct ms n a f)(hb:XE X ct ms k (.BoolOp .And (b::rest) pos) (eB q)):XE X ct ms k (.BoolOp .And (a::b::rest) pos) (eB (bAnd (tb f) q)):=by
 obtain⟨t,pt,qt⟩:=ha
 obtain⟨u,pu,qu⟩:=hb
 refine⟨_,ZK pt pu,λF0 B F H ρ σ r Q rs e w=>?_⟩
 obtain⟨y,h3,h4⟩:=bind1 e
 obtain⟨x,h1,h2⟩:=bind1 h3
 obtain⟨z,h5,h6⟩:=bind1 h1
 cases h4
 rw[D1 h6]at h5
 refine qt F0 B F H ρ σ _ _ rs h5 λv F1 H1 x1 l=>⟨x,l.bl,?_⟩
 cases x with
 |true=>rw[if_pos rfl]; exact qu F0 B F1 H1 ρ σ _ _ (rs.ext x1) (show(q ρ).bind _=_ by rw[if_pos rfl]at h2; rw[h2]; rfl) λv F2 H2 x2 l=>w v F2 H2 (x1.trans x2) l
 |false=>rw[if_neg aH]at h2 ⊢; cases h2; exact w _ F1 H1 x1 (Al.of (.bl _))
theorem ztx {rest:List Expr}(ha:XE X ct ms n a f)(hb:XE X ct ms k (.BoolOp .Or (b::rest) pos) (eB q)):XE X ct ms k (.BoolOp .Or (a::b::rest) pos) (eB (bOr (tb f) q)):=by
 obtain⟨t,pt,qt⟩:=ha
 obtain⟨u,pu,qu⟩:=hb
 refine⟨_,ztn pt pu,λF0 B F H ρ σ r Q rs e w=>?_⟩
 obtain⟨y,h3,h4⟩:=bind1 e
 obtain⟨x,h1,h2⟩:=bind1 h3
 obtain⟨z,h5,h6⟩:=bind1 h1
 cases h4
 rw[D1 h6]at h5
 refine qt F0 B F H ρ σ _ _ rs h5 λv F1 H1 x1 l=>⟨x,l.bl,?_⟩
 cases x with
 |true=>rw[if_pos rfl]at h2 ⊢; cases h2; exact w _ F1 H1 x1 (Al.of (.bl _))
 |false=>rw[if_neg aH]; exact qu F0 B F1 H1 ρ σ _ _ (rs.ext x1) (show(q ρ).bind _=_ by rw[if_neg aH]at h2; rw[h2]; rfl) λv F2 H2 x2 l=>w v F2 H2 (x1.trans x2) l
theorem Ci (hc:XT X ct ms c p)(ha:XE X ct ms k a f)(hb:XE X ct ms k b g):XE X ct ms k (.IfExp c a b pos) (eIf p f g):=by
 obtain⟨s,ps,qs⟩:=hc
 obtain⟨t,pt,qt⟩:=ha
 obtain⟨u,pu,qu⟩:=hb
 refine⟨_,WR ps pt pu,λF0 B F H ρ σ r Q rs e w=>?_⟩
 obtain⟨x,h1,h2⟩:=bind1 e
 refine qs F0 B F H ρ σ x _ rs h1 λF1 H1 x1=>?_
 cases x with
 |true=>rw[if_pos rfl]at h2 ⊢; exact qt F0 B F1 H1 ρ σ _ _ (rs.ext x1) h2 λv F2 H2 x2 l=>w v F2 H2 (x1.trans x2) l
 |false=>rw[if_neg aH]at h2 ⊢; exact qu F0 B F1 H1 ρ σ _ _ (rs.ext x1) h2 λv F2 H2 x2 l=>w v F2 H2 (x1.trans x2) l
theorem jw {es:List Expr}{fs:Env->Option (List D)}{x1}(h:Cy X ct ms k es fs)(hl:es.length<=1000:=by decide):XO X ct ms (k+1) (.Tuple es x1 pos) (λρ=>(fs ρ).bind λds=>some (.tup ds)):=by
 obtain⟨t,pt,lt,qt⟩:=h
 refine⟨_,Zn pt,λF0 B F H ρ σ r Q rs e w=>?_⟩
 obtain⟨ds,h1,h2⟩:=bind1 e
 cases h2
 refine qt F0 B F H ρ σ ds _ rs h1 λvs F1 H1 fp x1 l nd hf=>⟨?_,λp hp=>?_⟩
 ·rw[← l.length,lt _ _ h1]; exact small hl
 ·have x2:=eM.newS x1.fh hp (.tup vs)
  exact w _ _ _ fp (x1.trans x2) (.inr (.tup yu (l.mono λ_ _ _ _ o=>o.ext x2))) nd hf
theorem OwL.cellsOf {K:ae}{F H:Hp}{ds:List D}{vs:List V}{fp:List Addr}(l:OwL (Ow K ct F H k) ds vs fp):∀a∈fp,F a=none/\∃o,H a=some o:=Ow.cells.OwL.cells (λd v f q=>Ow.cells q) l
theorem Qn {K:ae}{F H:Hp}{ds:List D}{vs:List V}{fp:List Addr}{p:Addr}(s:bw F H)(l:OwL (Ow K ct F H k) ds vs fp)(hp:H p=none):Ow K ct F (cC H p (.lst vs)) (k+1) (.lst ds) (.ref p) (p::fp)/\(fp.Nodup->(p::fp).Nodup) :=
 ⟨.inr (.lst (s.free hp) yu (l.mono λ_ _ _ _ o=>o.ext (eM.newO s hp _))),λnd=>bi.mpr ⟨λz=>(by
  obtain⟨_,o,ho⟩:=OwL.cellsOf l p z
  rw[hp]at ho
  cases ho),nd⟩⟩
theorem t7 {es:List Expr}{fs:Env->Option (List D)}(h:Cy X ct ms k es fs)(hl:es.length<=1000:=by decide):XO X ct ms (k+1) (.List es pos) (λρ=>(fs ρ).bind λds=>some (.lst ds)):=by
 obtain⟨t,pt,lt,qt⟩:=h
 refine⟨_,Zo pt,λF0 B F H ρ σ r Q rs e w=>?_⟩
 obtain⟨ds,h1,h2⟩:=bind1 e
 cases h2
 refine qt F0 B F H ρ σ ds _ rs h1 λvs F1 H1 fp x1 l nd hf=>⟨?_,λp hp=>?_⟩
 ·rw[← l.length,lt _ _ h1]; exact small hl
 ·obtain⟨o,n2⟩:=Qn x1.fh l hp
  refine w _ _ _ (p::fp) (x1.trans (eM.newO x1.fh hp _)) o (n2 nd) λz hz=>?_
  rcases aA.mp hz with rfl|hz
  ·exact x1.hh.free hp
  ·exact hf z hz
theorem L6:XO X ct ms (k+1) (.Dict [] [] pos) (eC (.dK [] [])):=by
 refine⟨_,Xh,λF0 B F H ρ σ r Q rs e w p hp=>?_⟩
 cases e
 refine w _ F _ [p] (eM.newO rs.fh hp _) (.inr (qR.dK (vs:=[]) (rs.fh.free hp) yu rfl .nil)) (by simp) λz hz=>?_
 rw[ar]at hz; subst hz; exact hp
def eZ (K:ae)(ct:Nat->Addr)(pm:List Nat)(rk:Nat)(m:List D->Option D):Sp:=λvs H Q _=>∃(F:Hp) (ds:List D) (d:D),bw F H/\gu K ct F H pm ds vs/\m ds=some d /\
 ∀v F' H' fp,eM F H F' H'->Ow K ct F' H' rk d v fp->fp.Nodup->(∀a∈fp,H a=none)->Q v H'
theorem eZ.len {K:ae}{ct:Nat->Addr}{pm:List Nat}{rk:Nat}{m:List D->Option D}{ps:List Str}(h:pm.length=ps.length):∀vs H Q E,eZ K ct pm rk m vs H Q E->vs.length=ps.length:=by
 rintro vs H Q E ⟨F,ds,d,_,l,_⟩
 rw[l.length,h]
variable {kk:Nat}{fa:Addr}{fd:FuncData}{ps:List Str}{pm:List Nat}{rk:Nat}{mf:List D->Option D}{x:Str}{pp:Pos}
theorem zl {es:List Expr}{ns nd:List Nat}{fs:Env->Option (List D)}{gz:List V}{cU:List D}{kM:List Value}(Fn:bM X.prog X.w X.K X.mg X.base dR kk fa fd ps (eZ X.K ct (ns++nd) rk mf))(hr:dz kk X.A)(hg:Gl X x)(hm:X.mg x=some (.ref fa))(hk:ao X.K (.ref fa)=true)
  (hb:Binds X.K fd ps kM) (hd:bA gz kM) (zE:∀F G,gu X.K ct F G nd cU gz) (ha:XA X ct ms (e::es) ns fs)
  (jQ:(x == ("__debug__":Str))=false:=by decide) (he:starEach (e::es) X.env=(false,eval e X.env)::starEach es X.env:=by rfl) (gF:(backTo pos (starEach es X.env)).any (·.1)=false:=by rfl) :
  XO X ct ms rk (.Call (.Name x pp) (e::es) [] pos) (λρ=>(fs ρ).bind λds=>mf (ds++cU)):=by
 obtain⟨t,pt,_,qt⟩:=ha
 refine⟨_,Qf Fn hr hg hm hk hb hd kS pt jQ he gF,λF0 B F H ρ σ r Q rs e w=>?_⟩
 obtain⟨ds,h1,h2⟩:=bind1 e
 refine qt F0 B F H ρ σ ds _ rs h1 λvs F1 H1 x1 l=>⟨F1,ds++cU,r,x1.fh,gu.append (zE F1 H1) l,h2,λv F2 H2 fp x2 o nd hf=>?_⟩
 exact w v F2 H2 fp (x1.trans x2) o nd λz hz=>x1.hh.free (hf z hz)
theorem yw {es:List Expr}{ns:List Nat}{fs:Env->Option (List D)}{id:String}{r:List V->Hp->VK->Prop}{op:List D->Option D}(hc:dB X (.builtin id) r)(hs:tq X.K ct ns k r op)(hg:Gl X x)(hm:X.mg x=none)(hv:bootBuiltins x=some (.builtin id))(ha:XA X ct ms (e::es) ns fs)
  (hn:x≠"__name__":=by decide) (jQ:(x == ("__debug__":Str))=false:=by decide) (he:starEach (e::es) X.env=(false,eval e X.env)::starEach es X.env:=by rfl) (gF:(backTo pos (starEach es X.env)).any (·.1)=false:=by rfl) :
  XE X ct ms k (.Call (.Name x pp) (e::es) [] pos) (eN op fs):=by
 obtain⟨t,pt,_,qt⟩:=ha
 refine⟨_,Gd hc hg hm hv pt hn jQ he gF,λF0 B F H ρ σ r Q rs e w=>?_⟩
 obtain⟨ds,h1,h2⟩:=bind1 e
 exact qt F0 B F H ρ σ ds _ rs h1 λvs F1 H1 x1 l=>hs F1 H1 vs ds r Q x1.fh l h2 λv F2 H2 x2 l2=>w v F2 H2 (x1.trans x2) l2
theorem Xj {es:List Expr}{ns:List Nat}{fs:Env->Option (List D)}{id:String}{r:List V->Hp->VK->Prop}{op:List D->Option D}(hc:dB X (.builtin id) r)(hs:oY X.K ct ns k r op)(hg:Gl X x)(hm:X.mg x=none)(hv:bootBuiltins x=some (.builtin id))(ha:XA X ct ms (e::es) ns fs)
  (hn:x≠"__name__":=by decide) (jQ:(x == ("__debug__":Str))=false:=by decide) (he:starEach (e::es) X.env=(false,eval e X.env)::starEach es X.env:=by rfl) (gF:(backTo pos (starEach es X.env)).any (·.1)=false:=by rfl) :
  XO X ct ms k (.Call (.Name x pp) (e::es) [] pos) (eN op fs):=by
 obtain⟨t,pt,_,qt⟩:=ha
 refine⟨_,Gd hc hg hm hv pt hn jQ he gF,λF0 B F H ρ σ r Q rs e w=>?_⟩
 obtain⟨ds,h1,h2⟩:=bind1 e
 exact qt F0 B F H ρ σ ds _ rs h1 λvs F1 H1 x1 l=>hs F1 H1 vs ds r Q x1.fh l h2 λv F2 H2 fp x2 l2 nd hf=>w v F2 H2 fp (x1.trans x2) l2 nd λz hz=>x1.hh.free (hf z hz)
theorem WI {es:List Expr}{ns:List Nat}{fs:Env->Option (List D)}{id:String}{r:List V->Hp->VK->Prop}{op:List D->Option D}(hc:dB X (.type id) r)(hs:tq X.K ct ns k r op)(hg:Gl X x)(hm:X.mg x=none)(hv:bootBuiltins x=some (.type id))(ha:XA X ct ms (e::es) ns fs)
  (hn:x≠"__name__":=by decide) (jQ:(x == ("__debug__":Str))=false:=by decide) (he:starEach (e::es) X.env=(false,eval e X.env)::starEach es X.env:=by rfl) (gF:(backTo pos (starEach es X.env)).any (·.1)=false:=by rfl) :
  XE X ct ms k (.Call (.Name x pp) (e::es) [] pos) (eN op fs):=by
 obtain⟨t,pt,_,qt⟩:=ha
 refine⟨_,Pd hc hg hm hv pt hn jQ he gF,λF0 B F H ρ σ r Q rs e w=>?_⟩
 obtain⟨ds,h1,h2⟩:=bind1 e
 exact qt F0 B F H ρ σ ds _ rs h1 λvs F1 H1 x1 l=>hs F1 H1 vs ds r Q x1.fh l h2 λv F2 H2 x2 l2=>w v F2 H2 (x1.trans x2) l2
theorem Pk {es:List Expr}{ns:List Nat}{fs:Env->Option (List D)}{id:String}{r:List V->Hp->VK->Prop}{op:List D->Option D}(hc:dB X (.type id) r)(hs:oY X.K ct ns k r op)(hg:Gl X x)(hm:X.mg x=none)(hv:bootBuiltins x=some (.type id))(ha:XA X ct ms (e::es) ns fs)
  (hn:x≠"__name__":=by decide) (jQ:(x == ("__debug__":Str))=false:=by decide) (he:starEach (e::es) X.env=(false,eval e X.env)::starEach es X.env:=by rfl) (gF:(backTo pos (starEach es X.env)).any (·.1)=false:=by rfl) :
  XO X ct ms k (.Call (.Name x pp) (e::es) [] pos) (eN op fs):=by
 obtain⟨t,pt,_,qt⟩:=ha
 refine⟨_,Pd hc hg hm hv pt hn jQ he gF,λF0 B F H ρ σ r Q rs e w=>?_⟩
 obtain⟨ds,h1,h2⟩:=bind1 e
 exact qt F0 B F H ρ σ ds _ rs h1 λvs F1 H1 x1 l=>hs F1 H1 vs ds r Q x1.fh l h2 λv F2 H2 fp x2 l2 nd hf=>w v F2 H2 fp (x1.trans x2) l2 nd λz hz=>x1.hh.free (hf z hz)
def bP (cs:List Nat)(x:Str):D->Option D
 |.obj c ns ds=>if cs.contains c=true then(ns.zip ds).lookup x else none
 |_=>none
theorem OV {R:D->V->Prop}{x:Str}{d:D}:∀{ns:List Str} {ds:List D} {vs:List V},Pr R ds vs->(ns.zip ds).lookup x=some d->∃v,(ns.zip vs).lookup x=some v/\R d v
 |[],_,_,_,e=>by simp at e
 |_::_,_,_,.nil,e=>by simp at e
 |y::ns,_,_,.cons h t,e=>by
  rw[dY,aQ]at e
  rw[dY,aQ]
  cases q:x == y with
  |true=>rw[q]at e; cases e; exact⟨_,rfl,h⟩
  |false=>rw[q]at e; exact OV t e
theorem L7 {vs:List V}{x:Str}:∀{ns:List Str} {vs:List V},ns.contains x=false->(ns.zip vs).lookup x=none
 |[],_,_=>by simp
 |_::_,[],_=>by simp
 |y::ns,_::vs,h=>by
  rw[nL,mG]at h
  rw[dY,aQ,h.1]
  exact L7 (vs:=vs) h.2
theorem xl {x:Str}{cs:List Nat}(he:XE X ct ms n e f)(hc:∀c∈cs,iQ X.K (ct c)/\d8 X.K (ct c) x)(hb:attributeBase e x X.env (eval e X.env)=eval e X.env):XE X ct ms (n-1) (.Attribute e x pos) (e1 (bP cs x) f):=by
 obtain⟨t,pt,qt⟩:=he
 refine⟨_,Zl pt hb,λF0 B F H ρ σ r Q rs e w=>?_⟩
 obtain⟨o,h1,h2⟩:=bind1 e
 refine qt F0 B F H ρ σ o _ rs h1 λv F1 H1 x1 l=>?_
 cases o with
 |obj c ns ds =>
  obtain⟨a,dx,vs,rfl,ha,hl,Ib⟩:=l.obj x1.fh
  unfold bP at h2
  dsimp only at h2
  by_cases zC:cs.contains c=true
  ·rw[if_pos zC]at h2
   obtain⟨u,hu,du⟩:=OV Ib h2
   have hh:=hc c (by simpa using zC)
   exact⟨a,_,dx,_,u,rfl,ha,hh.1,hh.2,hu,w u F1 H1 x1 du⟩
  ·rw[if_neg zC]at h2; cases h2
 |_=>cases h2
def iX (c0:Nat)(m:Str)(mf:List D->Option D)(o:D)(ds:List D):Option D:=match o with
 |.obj c ns _=>if c=c0/\ns.contains m=false then mf (o::ds)else none
 |_=>none
theorem YD {o:Expr}{x:Str}{cO:Pos}{pl:Sem Bool}{es:List Expr}{ns nd:List Nat}{fs:Env->Option (List D)}{gz:List V}{cU:List D}{kM:List Value}{c0:Nat}(ho:XE X ct ms n o f)(c:iQ X.K (ct c0))(hm:mT X.K (ct c0) x fa)(Fn:bM X.prog X.w X.K X.mg X.base dR kk fa fd ps (eZ X.K ct (n::(ns++nd)) rk mf))(hr:dz kk X.A)
  (hb:Binds X.K fd ps kM) (hd:bA gz kM) (zE:∀F G,gu X.K ct F G nd cU gz) (ha:XA X ct ms (e::es) ns fs)
  (iR:starEach (e::es) X.env=(false,eval e X.env)::starEach es X.env:=by rfl) (gF:(backTo pos (starEach es X.env)).any (·.1)=false:=by rfl)
  (ht:eval (.Call (.Attribute o x cO) (e::es) [] pos) X.env=(do
   let ov ← eval o X.env
   standAt cO.atName
   let(f,first) ← holding [ov] (getMethod ov x pl)
   callWith pos f first (backTo pos (starEach (e::es) X.env)) (backToKw pos (keywordEach [] X.env))):=by rfl) :
  XO X ct ms rk (.Call (.Attribute o x cO) (e::es) [] pos) (λρ=>(f ρ).bind λo=>(fs ρ).bind λds=>iX c0 x mf o (ds++cU)):=by
 obtain⟨u,pu,qu⟩:=ho
 obtain⟨t,pt,_,qt⟩:=ha
 refine⟨_,Yc pu c hm Fn hr hb hd kS pt iR gF ht,λF0 B F H ρ σ r Q rs e w=>?_⟩
 obtain⟨o,ds,h1,h2,h3⟩:=cy e
 refine qu F0 B F H ρ σ o _ rs h1 λv F1 H1 x1 l=>?_
 cases o with
 |obj c1 lW lQ =>
  unfold iX at h3
  dsimp only at h3
  split at h3
  ·rename_i hc
   obtain⟨rfl,gB⟩:=hc
   obtain⟨a,dx,vs,rfl,ha,hl,Ib⟩:=l.obj x1.fh
   refine⟨a,dx,_,rfl,ha,L7 (vs:=vs) gB,?_⟩
   refine qt F0 B F1 H1 ρ σ ds _ (rs.ext x1) h2 λus F2 H2 x2 l2=>⟨F2,_,r,x2.fh,.cons (l.mono x2.ff x2.hh) (gu.append (zE F2 H2) l2),h3,λv F3 H3 fp x3 o nd hf=>?_⟩
   exact w v F3 H3 fp ((x1.trans x2).trans x3) o nd λz hz=>(x1.trans x2).hh.free (hf z hz)
  ·cases h3
 |_=>cases h3
theorem Xk {o:Expr}{x:Str}{cO:Pos}{pl:Sem Bool}{nd:List Nat}{gz:List V}{cU:List D}{kM:List Value}{c0:Nat}(ho:XE X ct ms n o f)(c:iQ X.K (ct c0))(hm:mT X.K (ct c0) x fa)(Fn:bM X.prog X.w X.K X.mg X.base dR kk fa fd ps (eZ X.K ct (n::nd) rk mf))(hr:dz kk X.A)
  (hb:Binds X.K fd ps kM) (hd:bA gz kM) (zE:∀F G,gu X.K ct F G nd cU gz)
  (ht:eval (.Call (.Attribute o x cO) [] [] pos) X.env=(do
   let ov ← eval o X.env
   standAt cO.atName
   let(f,first) ← holding [ov] (getMethod ov x pl)
   callWith pos f first (backTo pos (starEach [] X.env)) (backToKw pos (keywordEach [] X.env))):=by rfl) :
  XO X ct ms rk (.Call (.Attribute o x cO) [] [] pos) (λρ=>(f ρ).bind λo=>iX c0 x mf o cU):=by
 obtain⟨u,pu,qu⟩:=ho
 refine⟨_,Xc pu c hm Fn hr hb hd kS ht,λF0 B F H ρ σ r Q rs e w=>?_⟩
 obtain⟨o,h1,h3⟩:=bind1 e
 refine qu F0 B F H ρ σ o _ rs h1 λv F1 H1 x1 l=>?_
 cases o with
 |obj c1 lW lQ =>
  unfold iX at h3
  dsimp only at h3
  split at h3
  ·rename_i hc
   obtain⟨rfl,gB⟩:=hc
   obtain⟨a,dx,vs,rfl,ha,hl,Ib⟩:=l.obj x1.fh
   refine⟨a,dx,_,rfl,ha,L7 (vs:=vs) gB,F1,_,r,x1.fh,.cons l (zE F1 H1),h3,λv F3 H3 fp x3 o nd hf=>?_⟩
   exact w v F3 H3 fp (x1.trans x3) o nd λz hz=>x1.hh.free (hf z hz)
  ·cases h3
 |_=>cases h3
end
end L3
namespace L3
open PySem PySem.Spec L2
open PyProof.Rows hiding St
inductive Out where
 |nx (ρ:Env)|rt (d:D)|bk (ρ:Env)|ct (ρ:Env)
abbrev SF:=Env->Option Out
def jH (K:ae)(cl:Nat->Addr)(F0 B:Hp)(ms:List Mo)(rk:Nat)(E:Ends):Out->Prop
 |.nx ρ=>∀σ F H,RS K cl F0 B ms F H ρ σ->E.nx σ H
 |.bk ρ=>∀σ F H,RS K cl F0 B ms F H ρ σ->E.bk σ H
 |.ct ρ=>∀σ F H,RS K cl F0 B ms F H ρ σ->E.ct σ H
 |.rt d=>∀v F H fp,bw F0 F->bw B H->bw F H->(∀a o,B a=some o->F0 a=none->F a=none)->Ow K cl F H rk d v fp->fp.Nodup->(∀a∈fp,B a=none)->E.rt v H
section
variable (X:Cx)(ct:Nat->Addr)(ms:List Mo)(rk:Nat)
def XS (st:Stmt)(f:SF):Prop:=∃t,PS X st t/\∀(F0 B F H:Hp) (ρ:Env) (σ:St) (o:Out) (E:Ends),RS X.K ct F0 B ms F H ρ σ->f ρ=some o->jH X.K ct F0 B ms rk E o->t E σ H
def oI (st:List Stmt)(f:SF):Prop:=∃t,mV X st t/\∀(F0 B F H:Hp) (ρ:Env) (σ:St) (o:Out) (E:Ends),RS X.K ct F0 B ms F H ρ σ->f ρ=some o->jH X.K ct F0 B ms rk E o->t E σ H
end
def sSkip:SF:=λρ=>some (.nx ρ)
def sSeq (f g:SF):SF:=λρ=>(f ρ).bind λo=>match o with
 |.nx ρ'=>g ρ'
 |o=>some o
def sIf (c:BF)(f g:SF):SF:=λρ=>(c ρ).bind λb=>if b=true then f ρ else g ρ
def sSet (i:Nat)(f:EF):SF:=λρ=>(f ρ).bind λd=>some (.nx (ρ.set i (some d)))
def sRet (f:EF):SF:=λρ=>(f ρ).bind λd=>some (.rt d)
def sRetN:SF:=λ_=>some (.rt .non)
def sDrop (f:EF):SF:=λρ=>(f ρ).bind λ_=>some (.nx ρ)
def lH:SF:=λ_=>none
def jM:Nat:=2 ^ 9000
def fJ (c:BF)(b:SF):Nat->SF
 |0,_=>none
 |n+1,ρ=>(c ρ).bind λt=>if t=true then(b ρ).bind λo=>match o with
   |.nx ρ'=>fJ c b n ρ'
   |.ct ρ'=>fJ c b n ρ'
   |.bk ρ'=>some (.nx ρ')
   |.rt d=>some (.rt d)
  else some (.nx ρ)
def eA (c:BF)(b:SF):SF:=fJ c b jM
def eI (g:D->Env->Option Env)(b:SF):List D->SF
 |[],ρ=>some (.nx ρ)
 |d::ds,ρ=>(g d ρ).bind λρ1=>(b ρ1).bind λo=>match o with
   |.nx ρ'=>eI g b ds ρ'
   |.ct ρ'=>eI g b ds ρ'
   |.bk ρ'=>some (.nx ρ')
   |.rt d=>some (.rt d)
def sFor (f:Env->Option (List D))(g:D->Env->Option Env)(b:SF):SF:=λρ=>(f ρ).bind λds=>eI g b ds ρ
section
variable {X:Cx}{ct:Nat->Addr}{ms:List Mo}{rk n m k:Nat}{st:Stmt}{rest:List Stmt}{a b c e:Expr}{f g h:EF}{p q:BF}{u w:SF}{pos:Pos}
theorem xv:oI X ct ms rk [] sSkip:=⟨_,Yj,λF0 B F H ρ σ o E rs e w=>by cases e; exact w σ F H rs⟩
theorem zf (h1:XS X ct ms rk st u)(h2:oI X ct ms rk rest w):oI X ct ms rk (st::rest) (sSeq u w):=by
 obtain⟨t,pt,qt⟩:=h1
 obtain⟨t2,kl,nc⟩:=h2
 refine⟨_,PJ pt kl,λF0 B F H ρ σ o E rs e z=>?_⟩
 obtain⟨o1,e1,e2⟩:=bind1 e
 refine qt F0 B F H ρ σ o1 _ rs e1 ?_
 cases o1 with
 |nx ρ'=>exactλσ' F' H' Ku=>nc F0 B F' H' ρ' σ' o E Ku e2 z
 |rt d=>cases e2; exact z
 |bk ρ'=>cases e2; exact z
 |ct ρ'=>cases e2; exact z
theorem zj (h1:XS X ct ms rk st u):oI X ct ms rk [st] u:=by
 obtain⟨t,pt,qt⟩:=h1
 exact⟨_,Qb pt,qt⟩
theorem L8:XS X ct ms rk st lH:=⟨_,WS,λF0 B F H ρ σ o E rs e w=>by cases e⟩
theorem yi (he:XO X ct ms rk e f):XS X ct ms rk (.Return (some e) pos) (sRet f):=by
 obtain⟨t,pt,qt⟩:=he
 refine⟨_,MG pt,λF0 B F H ρ σ o E rs e w=>?_⟩
 obtain⟨d,h1,h2⟩:=bind1 e
 cases h2
 refine qt F0 B F H ρ σ d _ rs h1 λv F' H' fp x l nd hf=>?_
 have r:=rs.ext x
 exact w v F' H' fp r.f0 r.bh r.fh r.nf l nd λz hz=>rs.bh.free (hf z hz)
theorem uj {Oe qF:List Stmt}(hc:XT X ct ms c p)(h1:oI X ct ms rk Oe u)(h2:oI X ct ms rk qF w):XS X ct ms rk (.If c Oe qF pos) (sIf p u w):=by
 obtain⟨t,pt,qt⟩:=hc
 obtain⟨t1,sE,sJ⟩:=h1
 obtain⟨t2,kl,nc⟩:=h2
 refine⟨_,zto pt sE kl,λF0 B F H ρ σ o E rs e z=>?_⟩
 obtain⟨x,h1,h2⟩:=bind1 e
 refine qt F0 B F H ρ σ x _ rs h1 λF1 H1 x1=>?_
 cases x with
 |true=>rw[if_pos rfl]at h2 ⊢; exact sJ F0 B F1 H1 ρ σ o E (rs.ext x1) h2 z
 |false=>rw[if_neg aH]at h2 ⊢; exact nc F0 B F1 H1 ρ σ o E (rs.ext x1) h2 z
theorem RS.put {K:ae}{F0 B F H F' H':Hp}{ρ:Env}{σ:St}{i:Nat}(rs:RS K ct F0 B ms F H ρ σ)(hm:ms[i]?=some (.ow k)) :
  ∃f1 fr:List Addr,f1.Nodup/\(∀a∈f1,B a=none)/\(∀a∈f1,a∉fr)/\(∀d,ρ[i]?=some (some d)->∃v,σ[i]?=some (some v)/\Ow K ct F H k d v f1)/\(∀a∈fr,F a=none/\∃o,H a=some o) /\
   ∀(F' H':Hp) (d':D) (v':V) (f':List Addr),bw F F'->bw B H'->bw F' H'->(∀a o,B a=some o->F0 a=none->F' a=none)->(∀a∈fr,H' a=H a/\F' a=none)->Ow K ct F' H' k d' v' f'->f'.Nodup->(∀a∈f',a∉fr)->(∀a∈f',B a=none) ->
    RS K ct F0 B ms F' H' (ρ.set i (some d')) (σ.set i (some v')):=by
 obtain⟨fp,sl,nd,hb⟩:=rs.sl
 obtain⟨f1,fr,i1,i2,i3,i4,i5⟩:=sl.put hm
 obtain⟨n1,n2,n3⟩:=i3 nd
 refine⟨f1,fr,n1,λa z=>hb a (i1 a z),n3,i4,λa z=>sl.cells a (i2 a z),λF' H' d' v' f' s1 s2 s3 s4 kf o T7 dj Tb=>?_⟩
 obtain⟨fE,q1,q2,q3⟩:=i5 F' H' d' v' f' s1 kf o
 exact⟨rs.f0.trans s1,s2,s3,s4,fE,q1,q3 T7 n2 dj,λa z=>(q2 a z).elim (Tb a) λz=>hb a (i2 a z)⟩
theorem RS.set {K:ae}{F0 B F H F' H':Hp}{ρ:Env}{σ:St}{i:Nat}{d:D}{v:V}{fp:List Addr}(rs:RS K ct F0 B ms F H ρ σ)(hm:ms[i]?=some (.ow k))(x:eM F H F' H')(o:Ow K ct F' H' k d v fp)(nd:fp.Nodup)(hf:∀a∈fp,H a=none) :
  RS K ct F0 B ms F' H' (ρ.set i (some d)) (σ.set i (some v)):=by
 have r:=rs.ext x
 obtain⟨f1,fr,n1,b1,n3,i4,cf,put⟩:=rs.put (F':=F') (H':=H') hm
 refine put F' H' d v fp x.ff r.bh x.fh r.nf (λa z=>?_) o nd (λa z zb=>?_) λa z=>rs.bh.free (hf a z)
 ·obtain⟨hn,o,ho⟩:=cf a z
  exact⟨(x.hh _ _ ho).trans ho.symm,x.nf a o ho hn⟩
 ·obtain⟨hn,o,ho⟩:=cf a zb
  rw[hf a z]at ho
  cases ho
theorem zw {i:Nat}{x:Str}{pos':Pos}(hm:ms[i]?=some (.ow k))(hN:X.N.Nodup)(hi:X.N[i]?=some x)(hx:Loc X.env.scope x)(he:XO X ct ms k e f)(hs:swapsWith e (some (.Name x pos')) pos.line X.env=pure false:=by rfl)
  (hf:X.fn x=true\/X.env.scope.names.lookup x=some .local:=by first|exact .inl rfl|exact .inr rfl|assumption):XS X ct ms rk (.Assign [.Name x pos'] e pos) (sSet i f):=by
 obtain⟨t,pt,qt⟩:=he
 refine⟨_,QM hN hi hx pt hs hf,λF0 B F H ρ σ o E rs e w=>?_⟩
 obtain⟨d,h1,h2⟩:=bind1 e
 cases h2
 exact qt F0 B F H ρ σ d _ rs h1 λv F' H' fp x l nd hf=>w _ F' H' (rs.set hm x l nd hf)
theorem BY (hc:XT X ct ms c p)(hb:oI X ct ms rk rest u)(hp:PassesOwn (model X.prog X.w) X.A X.env X.xe):XS X ct ms rk (.While c rest [] pos) (eA p u):=by
 obtain⟨t,pt,qt⟩:=hc
 obtain⟨t1,sE,sJ⟩:=hb
 refine⟨_,WT hp pt sE,λF0 B F H ρ σ o E rs e z=>?_⟩
 refine⟨λm σ H=>∃F ρ,RS X.K ct F0 B ms F H ρ σ/\fJ p u m ρ=some o,⟨jM,F,ρ,rs,e⟩,?_⟩
 rintro m σ H ⟨F,ρ,rs,e⟩
 cases m with
 |zero=>cases e
 |succ m =>
  obtain⟨x,h1,h2⟩:=bind1 e
  refine qt F0 B F H ρ σ x _ rs h1 λF1 H1 x1=>?_
  cases x with
  |true =>
   rw[if_pos rfl]at h2 ⊢
   obtain⟨o1,h3,h4⟩:=bind1 h2
   refine⟨λσ H=>∃F ρ,RS X.K ct F0 B ms F H ρ σ/\fJ p u m ρ=some o,λσ' H' h=>⟨m,gc m,h⟩,?_⟩
   refine sJ F0 B F1 H1 ρ σ o1 _ (rs.ext x1) h3 ?_
   cases o1 with
   |nx ρ'=>exactλσ' F' H' r=>⟨F',ρ',r,h4⟩
   |ct ρ'=>exactλσ' F' H' r=>⟨F',ρ',r,h4⟩
   |bk ρ'=>cases h4; exact z
   |rt d=>cases h4; exact z
  |false =>
   rw[if_neg aH]at h2 ⊢
   cases h2
   exact z σ F1 H1 (rs.ext x1)
theorem RS.re {K:ae}{F0 B F H:Hp}{ρ:Env}{σ:St}(r:RS K ct F0 B ms F H ρ σ):RS K ct F B ms F H ρ σ:=⟨.refl _,r.bh,r.fh,λ_ _ _ h=>h,r.sl⟩
theorem RS.back {K:ae}{F0 B F H F' H':Hp}{ρ ρ':Env}{σ σ':St}(r:RS K ct F0 B ms F H ρ σ)(q:RS K ct F B ms F' H' ρ' σ'):RS K ct F0 B ms F' H' ρ' σ' :=
 ⟨r.f0.trans q.f0,q.bh,q.fh,λa o h n=>q.nf a o h (r.nf a o h n),q.sl⟩
theorem jH.re {K:ae}{F0 B F H:Hp}{ρ:Env}{σ:St}{E:Ends}{o:Out}(r:RS K ct F0 B ms F H ρ σ)(z:jH K ct F0 B ms rk E o):jH K ct F B ms rk E o:=by
 cases o with
 |nx ρ=>exactλσ' F' H' q=>z σ' F' H' (r.back q)
 |bk ρ=>exactλσ' F' H' q=>z σ' F' H' (r.back q)
 |ct ρ=>exactλσ' F' H' q=>z σ' F' H' (r.back q)
 |rt d=>exactλv F' H' fp s1 s2 s3 s4=>z v F' H' fp (r.f0.trans s1) s2 s3 λa o h n=>s4 a o h (r.nf a o h n)
def oX (K:ae)(ct:Nat->Addr)(F B:Hp)(n:Nat)(J:It)(ds:List D):Prop :=
 ∀(i:Nat) (F' H':Hp),bw F F'->bw B H'->bw F' H'->(∀d,ds[i]?=some d->J.go i H'/\∀x H2,J.yld i H' x H2->∃F2,eM F' H' F2 H2/\Al K ct F2 B n d x)/\(ds.length<=i->J.stop i H')
def XI (X:Cx)(ct:Nat->Addr)(ms:List Mo)(n:Nat)(tg iter:Expr)(f:Env->Option (List D)):Prop:=∃wi,PI X tg iter wi/\∀(F0 B F H:Hp) (ρ:Env) (σ:St) (ds:List D) (R:It->Hp->Prop),RS X.K ct F0 B ms F H ρ σ->f ρ=some ds ->
 (∀J F' H',eM F H F' H'->oX X.K ct F' B n J ds->R J H')->wi σ H R
def BC (X:Cx)(ct:Nat->Addr)(ms:List Mo)(n:Nat)(tg iter:Expr)(f:Env->Option (List D)):Prop:=∃wi,PI X tg iter wi/\∀(F0 B F H:Hp) (ρ:Env) (σ:St) (ds:List D) (R:It->Hp->Prop),RS X.K ct F0 B ms F H ρ σ->f ρ=some ds ->
 (∀J F' H',eM F H F' H'->oX X.K ct F' H' n J ds->R J H')->wi σ H R
def XG (X:Cx)(ct:Nat->Addr)(ms:List Mo)(n:Nat)(tg:Expr)(g:D->Env->Option Env):Prop:=∃t,PG X tg t/\∀(F0 B F H:Hp) (ρ ρ':Env) (σ:St) (d:D) (v:V) (Q:St->Hp->Prop),RS X.K ct F0 B ms F H ρ σ->Al X.K ct F B n d v->g d ρ=some ρ' ->
 (∀σ',RS X.K ct F0 B ms F H ρ' σ'->Q σ' H)->t v σ H Q
theorem qJ {tg iter:Expr}{fi:Env->Option (List D)}{gg:D->Env->Option Env}(hi:XI X ct ms n tg iter fi)(hg:XG X ct ms n tg gg)(hb:oI X ct ms rk rest u)(hp:PassesOwn (model X.prog X.w) X.A X.env X.xe)(hc:X.calm=true)
  (hs:∀x,foldedSetIterable iter X.env x=pure x:=by intro _; rfl):XS X ct ms rk (.For tg iter rest [] pos) (sFor fi gg u):=by
 obtain⟨wi,pi,qi⟩:=hi
 obtain⟨Oi,pg,qg⟩:=hg
 obtain⟨t1,sE,sJ⟩:=hb
 refine⟨_,ZO hp hc pi pg sE hs,λF0 B F H ρ σ o E rs e z=>?_⟩
 obtain⟨ds,h1,h2⟩:=bind1 e
 refine qi F0 B F H ρ σ ds _ rs h1 λJ F1 H1 x1 ok=>?_
 refine⟨λi m σ H=>m=ds.length-i/\i<=ds.length/\∃F ρ,bw F1 F/\RS X.K ct F0 B ms F H ρ σ/\eI gg u (ds.drop i) ρ=some o,⟨ds.length,rfl,bW _,F1,ρ,.refl _,rs.ext x1,h2⟩,?_⟩
 rintro i m σ H ⟨rfl,BO,F,ρ,s1,rs,e⟩
 obtain⟨k1,k2⟩:=ok i F H s1 rs.bh rs.fh
 by_cases gY:i<ds.length
 ·right
  have hd:ds[i]?=some ds[i]:=by simp[gY]
  obtain⟨go,yl⟩:=k1 _ hd
  rw[kG gY]at e
  obtain⟨ρ1,h3,h4⟩:=bind1 e
  obtain⟨o1,h5,h6⟩:=bind1 h4
  refine⟨go,λσ H=>i+1<=ds.length/\∃F ρ,bw F1 F/\RS X.K ct F0 B ms F H ρ σ/\eI gg u (ds.drop (i+1)) ρ=some o,λσ' H' h=>⟨ds.length-(i+1),by omega,rfl,h⟩,λx H2 y=>?_⟩
  obtain⟨F2,x2,l⟩:=yl x H2 y
  refine qg F0 B F2 H2 ρ ρ1 σ _ x _ (rs.ext x2) l h3 λσ' r=>?_
  have s2:=s1.trans x2.ff
  refine sJ F2 B F2 H2 ρ1 σ' o1 _ r.re h5 ?_
  cases o1 with
  |nx ρ'=>exactλσ' F' H' q=>⟨gY,F',ρ',s2.trans q.f0,r.back q,h6⟩
  |ct ρ'=>exactλσ' F' H' q=>⟨gY,F',ρ',s2.trans q.f0,r.back q,h6⟩
  |bk ρ'=>cases h6; exactλσ' F' H' q=>z σ' F' H' (r.back q)
  |rt d=>cases h6; exact jH.re (o:=.rt d) r z
 ·left
  refine⟨k2 (by omega),?_⟩
  have:ds.drop i=[]:=lY (by omega)
  rw[this]at e
  cases e
  exact z σ F H rs
def gV (i:Nat):D->Env->Option Env:=λd ρ=>some (ρ.set i (some d))
theorem vn {i:Nat}{x:Str}(hm:ms[i]?=some (.ow 0))(hN:X.N.Nodup)(hi:X.N[i]?=some x)(hx:Loc X.env.scope x)
  (hf:X.fn x=true\/X.env.scope.names.lookup x=some .local:=by first|exact .inl rfl|exact .inr rfl|assumption):XG X ct ms 0 (.Name x pos) (gV i):=by
 refine⟨_,Qc hN hi hx hf,λF0 B F H ρ ρ' σ d v Q rs l e w=>?_⟩
 cases e
 exact w _ (rs.set hm (.refl rs.fh) (Ow.zero l) bm λa z=>(by cases z))
def Em (X:Cx)(ct:Nat->Addr)(ms:List Mo)(n:Nat)(iK:List Expr)(g:List D->Env->Option Env):Prop:=∃t,Bz X iK t/\(∀ds ρ ρ',g ds ρ=some ρ'->ds.length=iK.length)/\∀(F0 B F H:Hp) (ρ ρ':Env) (σ:St) (ds:List D) (vs:List V) (Q:St->Hp->Prop),RS X.K ct F0 B ms F H ρ σ->Pr (Al X.K ct F B n) ds vs->g ds ρ=some ρ' ->
 (∀σ',RS X.K ct F0 B ms F H ρ' σ'->Q σ' H)->t vs σ H Q
def gsNil:List D->Env->Option Env:=λds ρ=>match ds with
 |[]=>some ρ
 |_=>none
def gsCons (g:D->Env->Option Env)(gs:List D->Env->Option Env):List D->Env->Option Env:=λds ρ=>match ds with
 |d::ds=>(g d ρ).bind λρ'=>gs ds ρ'
 |[]=>none
theorem Mq:Em X ct ms n [] gsNil:=by
 refine⟨_,Qd,λds ρ ρ' e=>?_,λF0 B F H ρ ρ' σ ds vs Q rs l e w=>?_⟩
 ·cases ds with
  |nil=>rfl
  |cons d ds=>cases e
 ·cases l with
  |nil=>cases e; exact⟨rfl,w σ rs⟩
  |cons _ _=>cases e
theorem jx {tg:Expr}{iK:List Expr}{gg:D->Env->Option Env}{gs:List D->Env->Option Env}(h1:XG X ct ms n tg gg)(h2:Em X ct ms n iK gs)
  (hs:(assignEach (tg::iK) X.env).map (·.2)=assign tg X.env::(assignEach iK X.env).map (·.2):=by rfl):Em X ct ms n (tg::iK) (gsCons gg gs):=by
 obtain⟨t,pt,qt⟩:=h1
 obtain⟨t2,kl,IU,nc⟩:=h2
 refine⟨_,PK pt kl hs,λds ρ ρ' e=>?_,λF0 B F H ρ ρ' σ ds vs Q rs l e w=>?_⟩
 ·cases ds with
  |nil=>cases e
  |cons d ds =>
   obtain⟨ρ1,h3,h4⟩:=bind1 e
   rw[aJ,aJ,IU _ _ _ h4]
 ·cases l with
  |nil=>cases e
  |cons h t =>
   obtain⟨ρ1,h3,h4⟩:=bind1 e
   exact⟨_,_,rfl,qt F0 B F H ρ ρ1 σ _ _ _ rs h h3 λσ1 r1=>nc F0 B F H ρ1 ρ' σ1 _ _ _ r1 t h4 w⟩
def gT (gs:List D->Env->Option Env):D->Env->Option Env:=λd ρ=>match d with
 |.tup ds=>gs ds ρ
 |_=>none
theorem MO {iK:List Expr}{j:Nat}{gs:List D->Env->Option Env}(hc:X.calm=true)(h:Em X ct ms (n-1) iK gs)(hl:(assignEach iK X.env).length=iK.length:=by rfl)(iR:(assignEach iK X.env).findIdx? (·.1)=none:=by rfl):XG X ct ms n (.Tuple iK j pos) (gT gs):=by
 obtain⟨t,pt,lt,qt⟩:=h
 refine⟨_,QK (n:=iK.length) hc pt hl iR,λF0 B F H ρ ρ' σ d v Q rs l e w=>?_⟩
 cases d with
 |tup ds =>
  have l':Al X.K ct F H n (.tup ds) v:=l.mono (.refl _) rs.bh
  have:∃a vs,v=.ref a/\iD X.K H a vs/\Pr (Al X.K ct F B (n-1)) ds vs:=by
   cases n with
   |zero =>
    have l:Dt X.K ct F (.tup ds) v:=l
    cases l with
    |tup q t=>exact⟨_,_,rfl,iD.of (rs.fh _ _ q),t.pr⟩
   |succ n =>
    rcases l with l|l
    ·cases l with
     |tup q t=>exact⟨_,_,rfl,iD.of (rs.fh _ _ q),t.pr.mono λ_ _=>Al.of⟩
    ·cases l with
     |tup q t=>exact⟨_,_,rfl,iD.of (rs.fh _ _ q),t⟩
  obtain⟨a,vs,rfl,ha,hp⟩:=this
  exact⟨a,vs,rfl,ha,hp.length.symm.trans (lt _ _ _ e),qt F0 B F H ρ ρ' σ ds vs Q rs hp e w⟩
 |_=>cases e
def startD (N:List Str)(ds:List D):Env:=ds.map some++ak (N.length-ds.length) none
def mOf (N:List Str)(b:SF)(ds:List D):Option D:=(b (startD N ds)).bind λo=>match o with
 |.rt d=>some d
 |.nx _=>some .non
 |_=>none
theorem SL.start {K:ae}{F B H:Hp}:∀{pm:List Nat} {ds:List D} {vs:List V} {ms:List Mo} (j:Nat),gu K ct F B pm ds vs->(∀(i n:Nat),pm[i]?=some n->ms[i]?=some (Mo.al n)\/(n=0/\ms[i]?=some (Mo.ow 0)))->ms.length=pm.length+j ->
  SL K ct F B H ms (ds.map some++ak j none) (vs.map some++ak j none) []
 |_,_,_,ms,j,.nil,_,hl=>by
  have:∀(j:Nat) (ms:List Mo),ms.length=j->SL K ct F B H ms (ak j none) (ak j none) []:=by
   intro j
   induction j with
   |zero=>intro ms h; cases ms with
    |nil=>exact .nil
    |cons _ _=>simp at h
   |succ j ih=>intro ms h; cases ms with
    |nil=>simp at h
    |cons m ms=>exact .no (ih ms (by simpa using h))
  simpa using this j ms (by simpa using hl)
 |_,_,_,[],j,.cons h t,_,hl=>by simp at hl; omega
 |_,_,_,m::ms,j,.cons (n:=n) h t,hm,hl=>by
  have ih:=SL.start (ms:=ms) (H:=H) j t (λi n e=>by simpa using hm (i+1) n (by simpa using e)) (by simp at hl; omega)
  rcases hm 0 n rfl with e|⟨rfl,e⟩
  ·simp at e; subst e; exact .al h ih
  ·simp at e; subst e; exact SL.ow (f:=[]) (Ow.zero h) ih
structure Fun2 (K:ae)(x qual:Str)(st:Stmt)(f:Addr)(fd:FuncData):Prop where
 ex:∃(oc:Value) (od:Option Addr) (dV kV doc pm:Value) (an:Option Addr) (df ct:Value) (AD:Array (Option Value)),
  fd=af x qual (ap st) (aj st) (ah st) dV kV doc pm an df ct/\K.lookup f=some ⟨oc,od,.func fd,AD⟩/\av K df qual=true
 kp:ao K (.ref f)=true
theorem Fun2.ok {P:Program}{w:World}{K:ae}{mg:Str->Option Value}{base:Heap}{x qual:Str}{st:Stmt}{f:Addr}{fd:FuncData}{N ps:List Str}{k:Nat}{sp:Sp}(F:Fun2 K x qual st f fd)(S:aW N ps (ah st))(len:∀vs H Q E,sp vs H Q E->vs.length=ps.length)
    (pv:∀(df:Value) (A:Around) (outer:List PySem.Env) (s:Shared) (H:Hp) (vs:List V) (Q:VK) (E:XK),dz k (A.deeper (envOfC qual (ah st) s.heap.objs.size f df))->sp vs H Q E ->
      ∃t,mV (li dR P w K mg base N qual (ah st) f df A outer s H E).nox (aj st) t/\t { nx:=λ_ H'=>Q .non H',rt:=Q } (L2.start N vs) H):bM P w K mg base dR (k+1) f fd ps sp:=by
  obtain⟨oc,od,dV,kV,doc,pm,an,df,ct,AD,rfl,lk,gA⟩:=F.ex
  refine ztr lk gA S len λA outer s H vs Q E hr tO=>?_
  obtain⟨t,h,q⟩:=pv df A outer s H vs Q E hr tO
  exact⟨t,h.nox,q⟩
theorem lift {P:Program}{w:World}{K:ae}{mg:Str->Option Value}{base:Heap}{x qual:Str}{st:Stmt}{fa:Addr}{fd:FuncData}{N ps:List Str}{kk:Nat}{pm:List Nat}{bf:SF}(Fn:Fun2 K x qual st fa fd)(S:aW N ps (ah st))(C3:pm.length=ps.length)(NL:ms.length=N.length)(sj:ps.length<=N.length)
  (Iq:∀(i n:Nat),pm[i]?=some n->ms[i]?=some (Mo.al n)\/(n=0/\ms[i]?=some (Mo.ow 0)))
  (body:∀(df:Value) (A:Around) (outer:List PySem.Env) (s:Shared) (H:Hp) (E:XK),dz kk (A.deeper (envOfC qual (ah st) s.heap.objs.size fa df))->oI (li dR P w K mg base N qual (ah st) fa df A outer s H E).nox ct ms rk (aj st) bf) :
  bM P w K mg base dR (kk+1) fa fd ps (eZ K ct pm rk (mOf N bf)):=by
 refine Fn.ok S (eZ.len C3) λdf A outer s H vs Q E hr h=>?_
 obtain⟨F,ds,d,sF,l,hm,q⟩:=h
 obtain⟨t,pt,qt⟩:=body df A outer s H E hr
 refine⟨t,pt,?_⟩
 obtain⟨o,h1,h2⟩:=bind1 hm
 have hvl:vs.length=pm.length:=l.length
 have lT:ds.length=vs.length:=l.length'
 refine qt F H F H (startD N ds) (L2.start N vs) o _ ⟨.refl _,.refl _,sF,λ_ _ _ h=>h,[],?_,bm,λa z=>(by cases z)⟩ h1 ?_
 ·unfold startD L2.start
  rw[lT]
  exact SL.start _ l Iq (by omega)
 ·cases o with
  |nx ρ =>
   cases h2
   exactλσ F' H' r=>q .non F' H' [] ⟨r.f0,r.bh,r.fh,r.nf⟩ (Ow.scal .non rfl) bm λa z=>(by cases z)
  |rt d' =>
   cases h2
   exactλv F' H' fp s1 s2 s3 s4 o nd hf=>q v F' H' fp ⟨s1,s2,s3,s4⟩ o nd hf
  |bk ρ=>cases h2
  |ct ρ=>cases h2
end
end L3
namespace L3
open PySem PySem.Spec L2
open PyProof.Rows hiding St
theorem eR.or {X:Cx}{f:Value->Value->Sem Value}{r r':R2}(h:eR X f r)(h':eR X f r'):eR X f (λx y H Q=>r x y H Q\/r' x y H Q) :=
 λpins s σ H x y v u Q I rx ry q=>q.elim (h pins s σ H x y v u Q I rx ry) (h' pins s σ H x y v u Q I rx ry)
section
variable {K:ae}{ct:Nat->Addr}{n m k:Nat}
def i2 (g:Int->Int->D):D->D->Option D
 |.int i,.int j=>some (g i j)
 |_,_=>none
def oN (C:Int->Int->Prop)[∀i j,Decidable (C i j)](g:Int->Int->D):D->D->Option D
 |.int i,.int j=>if C i j then some (g i j)else none
 |_,_=>none
theorem GU {g:Int->Int->D}{gv:Int->Int->V}(hg:∀i j F,Dt K ct F (g i j) (gv i j)):ko K ct n m k (mF gv) (i2 g):=by
 intro F H x y d1 d2 d Q s l1 l2 e w
 cases d1 with
 |int i =>
  cases d2 with
  |int j=>cases e; exact⟨i,j,l1.int,l2.int,w _ F H (.refl s) (Al.of (hg i j F))⟩
  |_=>cases e
 |_=>cases e
theorem GO {C C':Int->Int->Prop}[∀i j,Decidable (C i j)]{g:Int->Int->D}{gv:Int->Int->V}(hC:∀i j,C i j->C' i j)(hg:∀i j F,Dt K ct F (g i j) (gv i j)):ko K ct n m k (rI C' gv) (oN C g):=by
 intro F H x y d1 d2 d Q s l1 l2 e w
 cases d1 with
 |int i =>
  cases d2 with
  |int j =>
   unfold oN at e
   dsimp only at e
   by_cases h:C i j
   ·rw[if_pos h]at e; cases e; exact⟨i,j,l1.int,l2.int,hC i j h,w _ F H (.refl s) (Al.of (hg i j F))⟩
   ·rw[if_neg h]at e; cases e
  |_=>cases e
 |_=>cases e
def GZ:Nat:=2 ^ 9000
def Cs:Nat:=2 ^ 100000
def pQ:D->D->Option D:=i2 λi j=>.int (i-j)
theorem Mr:ko K ct n m k (mF λi j=>.int (i-j)) pQ:=GU λ_ _ _=>.int _
def iH (i j:Int):Prop:=(-18446744073709551616<i/\i<18446744073709551616)\/(-18446744073709551616<j/\j<18446744073709551616)\/(i.natAbs<Cs/\j.natAbs<Cs)
instance (i j:Int):Decidable (iH i j):=by unfold iH; infer_instance
def cE:D->D->Option D:=oN iH λi j=>.int (i * j)
theorem iH.ok {i j:Int}(h:iH i j):kJ i j:=by
 rcases h with h|h|h
 ·exact .inl (.inl ⟨by have:=h.1; omega,by have:=h.2; omega⟩)
 ·exact .inl (.inr ⟨by have:=h.1; omega,by have:=h.2; omega⟩)
 ·exact .inr h
theorem YE:ko K ct n m k (rI kJ λi j=>.int (i * j)) cE:=GO (λ_ _=>iH.ok) λ_ _ _=>.int _
def D.v:D->V
 |.bl b=>.bl b
 |.int i=>.int i
 |.str x=>.str x
 |_=>.non
theorem Dt.v {F:Hp}{d:D}{v:V}(h:Dt K ct F d v)(hs:d.sc=true):v=d.v:=by
 cases h <;> first|rfl|cases hs
theorem Al.v {F G:Hp}{d:D}{v:V}(h:Al K ct F G n d v)(hs:d.sc=true):v=d.v:=Dt.v (Al.scal (F':=F) h hs) hs
theorem D.flat {d:D}(hs:d.sc=true):fQ d.v=true:=by cases d <;> first|rfl|cases hs
theorem Pr.vs {F G:Hp}:∀{ds:List D} {vs:List V},Pr (Al K ct F G n) ds vs->ds.all D.sc=true->vs=ds.map D.v
 |_,_,.nil,_=>rfl
 |d::ds,v::vs,.cons h t,e=>by
  rw[cB,bq]at e
  rw[aC,Al.v h e.1,Pr.vs t e.2]
def dH:D->D->Option D
 |.int i,.int j=>if 0<j/\j<4611686018427387904 then some (.int (i / j))else if j≠0/\j.natAbs<GZ then some (.int (i.fdiv j))else none
 |_,_=>none
theorem vx:ko K ct n m k (rI (λ_ j=>j≠0/\Sz 9000 j) λi j=>.int (i.fdiv j)) dH:=by
 intro F H x y d1 d2 d Q s l1 l2 e w
 cases d1 with
 |int i =>
  cases d2 with
  |int j =>
   unfold dH at e
   dsimp only at e
   by_cases h:0<j/\j<4611686018427387904
   ·rw[if_pos h]at e
    cases e
    refine⟨i,j,l1.int,l2.int,⟨by omega,?_⟩,?_⟩
    ·have:Sz 62 j:=by unfold Sz; omega
     exact this.mono (by decide)
    ·show Q (.int (i.fdiv j)) H
     rw[fv i (by omega)]
     exact w _ F H (.refl s) (Al.of (.int _))
   ·rw[if_neg h]at e
    by_cases h:j≠0/\j.natAbs<GZ
    ·rw[if_pos h]at e
     cases e
     exact⟨i,j,l1.int,l2.int,h,w _ F H (.refl s) (Al.of (.int _))⟩
    ·rw[if_neg h]at e; cases e
  |_=>cases e
 |_=>cases e
def cY:D->D->Option D
 |.int i,.int j=>if 0<j then some (.int (i % j))else if j≠0 then some (.int (i.fmod j))else none
 |_,_=>none
theorem xz:ko K ct n m k (rI (λ_ j=>j≠0) λi j=>.int (i.fmod j)) cY:=by
 intro F H x y d1 d2 d Q s l1 l2 e w
 cases d1 with
 |int i =>
  cases d2 with
  |int j =>
   unfold cY at e
   dsimp only at e
   by_cases h:0<j
   ·rw[if_pos h]at e
    cases e
    refine⟨i,j,l1.int,l2.int,by omega,?_⟩
    show Q (.int (i.fmod j)) H
    rw[fw i (by omega)]
    exact w _ F H (.refl s) (Al.of (.int _))
   ·rw[if_neg h]at e
    by_cases h:j≠0
    ·rw[if_pos h]at e
     cases e
     exact⟨i,j,l1.int,l2.int,h,w _ F H (.refl s) (Al.of (.int _))⟩
    ·rw[if_neg h]at e; cases e
  |_=>cases e
 |_=>cases e
def kT (i j:Int):Prop:=0<=j/\j<=1000000/\i.natAbs<18446744073709551616
instance (i j:Int):Decidable (kT i j):=by unfold kT; infer_instance
def pN:D->D->Option D:=oN kT λi j=>.int (i ^ j.toNat)
theorem Qo:ko K ct n m k (rI qO λi j=>.int (i ^ j.toNat)) pN:=GO (λ_ _ h=>⟨h.1,h.2.1,by have:=h.2.2; omega⟩) λ_ _ _=>.int _
def sM:D->D->Option D:=oN kT λi j=>.int (i * 2 ^ j.toNat)
theorem YF:ko K ct n m k (rI qO λi j=>.int (i * 2 ^ j.toNat)) sM:=GO (λ_ _ h=>⟨h.1,h.2.1,by have:=h.2.2; omega⟩) λ_ _ _=>.int _
def oq:D->D->Option D:=oN (λ_ j=>0<=j) λi j=>.int (i / 2 ^ j.toNat)
theorem Qp:ko K ct n m k (rI (λ_ j=>0<=j) λi j=>.int (i / 2 ^ j.toNat)) oq:=GO (λ_ _ h=>h) λ_ _ _=>.int _
def nF:D->D->Option D:=i2 λi j=>.bl (decide (i<j))
def qA:D->D->Option D:=i2 λi j=>.bl (decide (j<i))
def Fj:D->D->Option D:=i2 λi j=>.bl (decide (j<=i))
theorem t8:ko K ct n m k (mF λi j=>.bl (decide (i<j))) nF:=GU λ_ _ _=>.bl _
theorem Cc:ko K ct n m k (mF λi j=>.bl (decide (j<i))) qA:=GU λ_ _ _=>.bl _
theorem QS:ko K ct n m k (mF λi j=>.bl (decide (j<=i))) Fj:=GU λ_ _ _=>.bl _
def Bm:R2:=λx y H Q=>∃i j,x=.str i/\y=.str j/\Q (.bl (!(decide (j.cps.toList<i.cps.toList)))) H
theorem Z9 {X:Cx}:eR X (compareOp .LtE) Bm:=by
 intro pins s σ H x y v u Q I rx ry h
 obtain⟨i,j,rfl,rfl,q⟩:=h
 obtain⟨t,rfl⟩:=rx
 obtain⟨t',rfl⟩:=ry
 exact PySem.P.le_str ⟨.bl _,H,I,rfl,q⟩
def tS:D->D->Option D
 |.int i,.int j=>some (.bl (decide (i<=j)))
 |.str i,.str j=>some (.bl (!(decide (j.cps.toList<i.cps.toList))))
 |_,_=>none
theorem B3:ko K ct n m k (λx y H Q=>mF (λi j=>.bl (decide (i<=j))) x y H Q\/Bm x y H Q) tS:=by
 intro F H x y d1 d2 d Q s l1 l2 e w
 cases d1 with
 |int i =>
  cases d2 with
  |int j=>cases e; exact .inl ⟨i,j,l1.int,l2.int,w _ F H (.refl s) (Al.of (.bl _))⟩
  |_=>cases e
 |str i =>
  cases d2 with
  |str j=>cases e; exact .inr ⟨i,j,l1.str,l2.str,w _ F H (.refl s) (Al.of (.bl _))⟩
  |_=>cases e
 |_=>cases e
theorem Cd {X:Cx}:eR X (compareOp .LtE) (λx y H Q=>mF (λi j=>.bl (decide (i<=j))) x y H Q\/Bm x y H Q):=eR.or ztq Z9
def D.isN:D->Bool
 |.non=>true
 |_=>false
def D.isB (b:Bool):D->Bool
 |.bl c=>c == b
 |_=>false
def m7 (neg:Bool):D->D->Option D
 |d,.non=>some (.bl (if neg then !d.isN else d.isN))
 |d,.bl b=>some (.bl (if neg then !d.isB b else d.isB b))
 |_,_=>none
theorem Al.ref {F G:Hp}{d:D}{v:V}(h:Al K ct F G n d v)(hs:d.sc=false):∃a,v=.ref a:=by
 cases n with
 |zero=>cases(show Dt K ct F d v from h) <;> first|cases hs; done|exact⟨_,rfl⟩
 |succ n=>rcases h with h|h <;> cases h <;> first|cases hs; done|exact⟨_,rfl⟩
theorem Al.isn {F G:Hp}{d:D}{v:V}(h:Al K ct F G n d v):decide (v=.non)=d.isN:=by
 cases hs:d.sc with
 |true =>
  have:=Al.v h hs
  subst this
  cases d <;> first|rfl|cases hs
 |false =>
  obtain⟨a,rfl⟩:=h.ref hs
  cases d <;> first|rfl|cases hs
theorem Al.isb {F G:Hp}{d:D}{v:V}{b:Bool}(h:Al K ct F G n d v):decide (v=.bl b)=d.isB b:=by
 cases hs:d.sc with
 |true =>
  have:=Al.v h hs
  subst this
  cases d <;> first|rfl|(cases hs; done)|(rename_i c; cases b <;> cases c <;> rfl)
 |false =>
  obtain⟨a,rfl⟩:=h.ref hs
  cases d <;> first|rfl|cases hs
def Oa:R2:=λx y H Q=>(y=.non/\Q (.bl (decide (x=.non))) H)\/∃b,y=.bl b/\Q (.bl (decide (x=.bl b))) H
theorem uE {X:Cx}:eR X (compareOp .Is) Oa:=eR.or ZS Z4
theorem t9:ko K ct n m k Oa (m7 false):=by
 intro F H x y d1 d2 d Q s l1 l2 e w
 cases d2 with
 |non =>
  cases e
  refine .inl ⟨l2.non,?_⟩
  rw[l1.isn]
  exact w _ F H (.refl s) (Al.of (.bl _))
 |bl b =>
  cases e
  refine .inr ⟨b,l2.bl,?_⟩
  rw[l1.isb]
  exact w _ F H (.refl s) (Al.of (.bl _))
 |_=>cases e
mutual
def D.py:D->Option PyData
 |.non=>some .none
 |.bl b=>some (.bool b)
 |.int i=>some (.int i)
 |.str x=>some (.str x)
 |.lst xs=>(D.pys xs).bind λys=>some (.list ys)
 |.tup xs=>(D.pys xs).bind λys=>some (.tuple ys)
 |_=>none
def D.pys:List D->Option (List PyData)
 |[]=>some []
 |d::ds=>(D.py d).bind λx=>(D.pys ds).bind λxs=>some (x::xs)
end
mutual
theorem Dt.toPy {F H:Hp}(s:bw F H):∀{d:D} {v:V} {e:PyData},Dt K ct F d v->d.py=some e->L2.Dt K H v e
 |_,_,_,.non,h=>by simp only[D.py]at h; cases h; exact .non
 |_,_,_,.bl b,h=>by simp only[D.py]at h; cases h; exact .bl b
 |_,_,_,.int b,h=>by simp only[D.py]at h; cases h; exact .int b
 |_,_,_,.str b,h=>by simp only[D.py]at h; cases h; exact .str b
 |_,_,_,.lst q t,h=>by
  simp only[D.py]at h
  obtain⟨ys,h1,h2⟩:=bind1 h
  cases h2
  exact .lst (s.seq q) (Dts.toPy s t h1)
 |_,_,_,.tup q t,h=>by
  simp only[D.py]at h
  obtain⟨ys,h1,h2⟩:=bind1 h
  cases h2
  exact .tup (iD.of (s _ _ q)) (Dts.toPy s t h1)
 |_,_,_,.dK _ _ _,h=>by simp only[D.py]at h; cases h
 |_,_,_,.dT _ _ _,h=>by simp only[D.py]at h; cases h
 |_,_,_,.obj _ _ _,h=>by simp only[D.py]at h; cases h
theorem Dts.toPy {F H:Hp}(s:bw F H):∀{ds:List D} {vs:List V} {es:List PyData},Dts K ct F ds vs->D.pys ds=some es->L2.Dts K H vs es
 |_,_,_,.nil,h=>by simp only[D.pys]at h; cases h; exact .nil
 |_,_,_,.cons h t,e=>by
  simp only[D.pys]at e
  obtain⟨y,ys,h1,h2,h3⟩:=cy e
  cases h3
  exact .cons (Dt.toPy s h h1) (Dts.toPy s t h2)
end
theorem Pr.toPy {H:Hp}{R:D->V->Prop}(f:∀d v e,R d v->d.py=some e->L2.Dt K H v e):∀{ds:List D} {vs:List V} {es:List PyData},Pr R ds vs->D.pys ds=some es->L2.Dts K H vs es
 |_,_,_,.nil,h=>by simp only[D.pys]at h; cases h; exact .nil
 |_,_,_,.cons h t,e=>by
  simp only[D.pys]at e
  obtain⟨y,ys,h1,h2,h3⟩:=cy e
  cases h3
  exact .cons (f _ _ _ h h1) (Pr.toPy f t h2)
theorem Al.toPy {F H:Hp}(s:bw F H):∀{n:Nat} {d:D} {v:V} {e:PyData},Al K ct F H n d v->d.py=some e->L2.Dt K H v e
 |0,_,_,_,h,q=>Dt.toPy s h q
 |n+1,_,_,_,.inl h,q=>Dt.toPy s h q
 |n+1,_,_,_,.inr (.lst h t),q=>by
  simp only[D.py]at q
  obtain⟨ys,h1,h2⟩:=bind1 q
  cases h2
  exact .lst (d5.of h) (Pr.toPy (λ_ _ _=>Al.toPy s) t h1)
 |n+1,_,_,_,.inr (.tup h t),q=>by
  simp only[D.py]at q
  obtain⟨ys,h1,h2⟩:=bind1 q
  cases h2
  exact .tup (iD.of (s _ _ h)) (Pr.toPy (λ_ _ _=>Al.toPy s) t h1)
 |n+1,_,_,_,.inr (.dK _ _ _),q=>by simp only[D.py]at q; cases q
 |n+1,_,_,_,.inr (.dT _ _ _),q=>by simp only[D.py]at q; cases q
 |n+1,_,_,_,.inr (.obj _ _ _),q=>by simp only[D.py]at q; cases q
def lE (a:PyData):Bool:=a.canLay0 && decide (a.depth<=60)
def iE (neg:Bool)(x y:D):Option D:=x.py.bind λa=>y.py.bind λb=>if lE a=true/\lE b=true then some (.bl (if neg then !PyData.eqv a b else PyData.eqv a b))else none
theorem ja {neg:Bool}:ko K ct n m k (Bk K neg) (iE neg):=by
 intro F H x y d1 d2 d Q s l1 l2 e w
 obtain⟨a,b,h1,h2,h3⟩:=cy e
 by_cases h:lE a=true/\lE b=true
 ·rw[if_pos h]at h3
  cases h3
  have o1:=h.1
  have o2:=h.2
  unfold lE at o1 o2
  rw[bq,decide_eq_true_iff]at o1 o2
  exact⟨a,b,Al.toPy s l1 h1,Al.toPy s l2 h2,o1.1,o2.1,bG (Nat.min_le_left _ _) o1.2,w _ F H (.refl s) (Al.of (.bl _))⟩
 ·rw[if_neg h]at h3; cases h3
end
end L3
namespace L3
open PySem PySem.Spec L2
open PyProof.Rows hiding St
section
variable {K:ae}{ct:Nat->Addr}{n m k:Nat}{X:Cx}
theorem Pr.atI {R:D->V->Prop}{ds:List D}{vs:List V}{i:Int}{d:D}(h:Pr R ds vs)(e:atI ds i=some d):∃v,atI vs i=some v/\R d v:=by
 unfold L2.atI at e ⊢
 rw[← h.length]
 obtain⟨j,h1,h2⟩:=bind1 e
 obtain⟨v,h3,h4⟩:=h.get' h2
 exact⟨v,by rw[h1]; exact h3,h4⟩
def sy:D->Option Key
 |.int i=>some (.inl i)
 |.str x=>some (.inr x)
 |_=>none
def mr:List D->Option (List Key)
 |[]=>some []
 |d::ds=>(sy d).bind λk=>(mr ds).bind λks=>some (k::ks)
def gK {κ:Type}[DecidableEq κ](ks:List κ)(ds:List D)(k:κ):Option D:=((ks.zip ds).find? λp=>decide (p.1=k)).map (·.2)
def RO (R:D->V->Prop):Option D->Option V->Prop
 |some d,some u=>R d u
 |none,none=>True
 |_,_=>False
theorem RO.some_of {R:D->V->Prop}{d:D}{q:Option V}(h:RO R (some d) q):∃u,q=some u/\R d u:=by
 cases q with
 |none=>exact h.elim
 |some u=>exact⟨u,rfl,h⟩
theorem RO.none_of {R:D->V->Prop}{q:Option V}(h:RO R none q):q=none:=by
 cases q with
 |none=>rfl
 |some u=>exact h.elim
theorem L9 {κ:Type}[DecidableEq κ]{R:D->V->Prop}{k:κ}:∀{ks:List κ} {ds:List D} {vs:List V},Pr R ds vs->RO R (gK ks ds k) (fS (ks.zip vs) k)
 |[],_,_,_=>by simp[gK,fS,RO]
 |_::_,_,_,.nil=>by simp[gK,fS,RO]
 |y::ks,d::ds,v::vs,.cons h t=>by
  by_cases e:y=k
  ·have h1:gK (y::ks) (d::ds) k=some d:=by simp[gK,bU,e]
   have h2:fS ((y::ks).zip (v::vs)) k=some v:=by simp[fS,bU,e]
   rw[h1,h2]
   exact h
  ·have h1:gK (y::ks) (d::ds) k=gK ks ds k:=by simp[gK,bU,e]
   have h2:fS ((y::ks).zip (v::vs)) k=fS (ks.zip vs) k:=by simp[fS,bU,e]
   rw[h1,h2]
   exact L9 t
theorem GP {F G:Hp}{d:D}{v:V}{k:Key}(e:sy d=some k)(h:Al K ct F G n d v):v=kV k:=by
 cases d with
 |int i=>cases e; exact h.int
 |str i=>cases e; exact h.str
 |_=>cases e
theorem Gy {F G:Hp}:∀{ds:List D} {vs:List V} {ks:List Key},mr ds=some ks->Pr (Al K ct F G n) ds vs->vs=ks.map kV
 |[],_,_,e,.nil=>by cases e; rfl
 |d::ds,_,_,e,.cons h t=>by
  unfold mr at e
  obtain⟨k,ks,h1,h2,h3⟩:=cy e
  cases h3
  rw[GP h1 h,Gy h2 t]; rfl
def fP (o y:D):Option (Option D):=match o with
 |.dK ks ds=>(sy y).bind λk=>some (gK ks ds k)
 |.dT ks ds=>(match y with|.tup ys=>(mr ys).bind λk=>some (gK ks ds k)|_=>none)
 |_=>none
theorem Ms {F G:Hp}{o y:D}{x v:V}(s:bw F G)(l1:Al K ct F G n o x)(l2:Al K ct F G m y v){r:Option D}(e:fP o y=some r) :
  ∃a q,x=.ref a/\iz G a v q/\RQ G a/\RO (Al K ct F G (n-1)) r q:=by
 cases o with
 |dK ks ds =>
  obtain⟨a,vs,rfl,ha,hl,hp⟩:=l1.dK s
  obtain⟨k,h1,h2⟩:=bind1 e
  cases h2
  have hv:=GP h1 l2
  subst hv
  exact⟨a,_,rfl,iz.k ha,.inl ⟨_,.inl ha⟩,L9 hp⟩
 |dT ks ds =>
  obtain⟨a,vs,rfl,ha,hl,hp⟩:=l1.dT s
  cases y with
  |tup ys =>
   obtain⟨k,h1,h2⟩:=bind1 e
   cases h2
   obtain⟨b,us,rfl,hb,C2⟩:=l2.tup s
   have hv:=Gy h1 C2
   subst hv
   exact⟨a,_,rfl,iz.t ha hb,.inr ⟨_,.inl ha⟩,L9 hp⟩
  |_=>cases e
 |_=>cases e
def dh:D->D->Option D
 |.lst ds,.int i=>atI ds i
 |.tup ds,.int i=>atI ds i
 |.str x,.int i=>if x.length<=16777216 then(atI x.cps.toList i).bind λc=>some (.str ⟨#[c]⟩)else none
 |_,_=>none
theorem yo:ko K ct n m (n-1) (Ob K) dh:=by
 intro F H x y d1 d2 d Q s l1 l2 e w
 cases d1 with
 |lst ds =>
  cases d2 with
  |int i =>
   obtain⟨a,vs,rfl,ha,hp⟩:=l1.lst s
   obtain⟨v,h1,h2⟩:=hp.atI e
   exact .inl ⟨a,vs,i,v,rfl,l2.int,ha,h1,w v F H (.refl s) h2⟩
  |_=>cases e
 |tup ds =>
  cases d2 with
  |int i =>
   obtain⟨a,vs,rfl,ha,hp⟩:=l1.tup s
   obtain⟨v,h1,h2⟩:=hp.atI e
   exact .inr (.inl ⟨a,vs,i,v,rfl,l2.int,iD.of ha,h1,w v F H (.refl s) h2⟩)
  |_=>cases e
 |str z =>
  cases d2 with
  |int i =>
   unfold dh at e
   dsimp only at e
   by_cases h:z.length<=16777216
   ·rw[if_pos h]at e
    obtain⟨c,h1,h2⟩:=bind1 e
    cases h2
    exact .inr (.inr ⟨z,i,c,l1.str,l2.int,by rw[sizeLine_eq]; exact h,h1,w _ F H (.refl s) (Al.of (.str _))⟩)
   ·rw[if_neg h]at e; cases e
  |_=>cases e
 |_=>cases e
theorem MP {ms:List Mo}{a b:Expr}{f g:EF}{pos:Pos}(hu:X.A.units+1<cLine)(ha:XE X ct ms n a f)(hb:XE X ct ms m b g)(hs:uH b):XE X ct ms (n-1) (.Subscript a b pos) (λρ=>(f ρ).bind λx=>(g ρ).bind λy=>(fP x y).join):=by
 obtain⟨ta,tb,pa,pb,q⟩:=ha.bin hb
 refine⟨_,Yy hu pa pb hs,λF0 B F H ρ σ d Q rs e w=>?_⟩
 obtain⟨d1,d2,h1,h2,h3⟩:=cy e
 refine q F0 B F H ρ σ d1 d2 _ rs h1 h2 λx y F' H' x1 l1 l2=>?_
 obtain⟨a,o,rfl,g,_,h⟩:=Ms (r:=some d) x1.fh l1 l2 (ye h3)
 obtain⟨u,rfl,C9⟩:=h.some_of
 exact⟨a,u,rfl,g,w u F' H' x1 C9⟩
def p9:D->D->Bool
 |.non,.non=>true
 |.bl a,.bl b=>a == b
 |.bl a,.int b=>(if a then 1 else 0) == b
 |.int a,.bl b=>a == (if b then 1 else 0)
 |.int a,.int b=>a == b
 |.str a,.str b=>a == b
 |_,_=>false
theorem Ra {x y:D}(hx:x.sc=true)(hy:y.sc=true):nX x.v y.v=p9 x y:=by
 cases x <;> first|cases hx; done|(cases y <;> first|cases hy; done|rfl)
def tQ (x:D)(ds:List D):Bool:=ds.any λy=>p9 y x
theorem M1 {x:D}(hx:x.sc=true):∀{ds:List D},ds.all D.sc=true->FA x.v (ds.map D.v)=tQ x ds
 |[],_=>rfl
 |d::ds,h=>by
  rw[cB,bq]at h
  have ih:=M1 hx h.2
  unfold FA tQ at ih ⊢
  rw[aC,dA,dA,ih,Ra h.1 hx]
theorem Ge:∀{ds:List D},ds.all D.sc=true->(ds.map D.v).all fQ=true
 |[],_=>rfl
 |d::ds,h=>by
  rw[cB,bq]at h
  rw[aC,cB,D.flat h.1,Ge h.2]; rfl
def inD (neg:Bool)(x y:D):Option D:=match y with
 |.lst ds=>if x.sc=true/\ds.all D.sc=true then some (.bl (if neg then !tQ x ds else tQ x ds))else none
 |.tup ds=>if x.sc=true/\ds.all D.sc=true then some (.bl (if neg then !tQ x ds else tQ x ds))else none
 |_=>none
theorem MQ {neg:Bool}:ko K ct n m k (Kr K neg) (inD neg):=by
 intro F H x y d1 d2 d Q s l1 l2 e w
 cases d2 with
 |lst ds =>
  unfold inD at e
  dsimp only at e
  by_cases h:d1.sc=true/\ds.all D.sc=true
  ·rw[if_pos h]at e
   cases e
   obtain⟨a,vs,rfl,ha,hp⟩:=l2.lst s
   have hv:=hp.vs h.2
   subst hv
   have hx:=Al.v l1 h.1
   subst hx
   refine⟨a,_,rfl,.inl ha,D.flat h.1,Ge h.2,?_⟩
   rw[M1 h.1 h.2]
   exact w _ F H (.refl s) (Al.of (.bl _))
  ·rw[if_neg h]at e; cases e
 |tup ds =>
  unfold inD at e
  dsimp only at e
  by_cases h:d1.sc=true/\ds.all D.sc=true
  ·rw[if_pos h]at e
   cases e
   obtain⟨a,vs,rfl,ha,hp⟩:=l2.tup s
   have hv:=hp.vs h.2
   subst hv
   have hx:=Al.v l1 h.1
   subst hx
   refine⟨a,_,rfl,.inr (iD.of ha),D.flat h.1,Ge h.2,?_⟩
   rw[M1 h.1 h.2]
   exact w _ F H (.refl s) (Al.of (.bl _))
  ·rw[if_neg h]at e; cases e
 |_=>cases e
def dg:List D->Option D
 |[.lst ds]=>some (.int ds.length)
 |[.tup ds]=>some (.int ds.length)
 |[.dK ks _]=>some (.int ks.length)
 |[.str x]=>if x.length<=16777216 then some (.int x.length)else none
 |_=>none
def DG (K:ae):List V->Hp->VK->Prop:=λxs H Q=>(∃p ys,xs=[.ref p]/\(d5 K H p ys\/iD K H p ys)/\Q (.int ys.length) H)\/(∃z,xs=[.str z]/\z.length<=sizeLine/\Q (.int z.length) H)\/∃a kvs,xs=[V.ref a]/\H a=some (.dK kvs)/\Q (.int kvs.length) H
theorem xi:dB X (.builtin "len") (DG X.K):=VD.or (VE.or WE)
theorem vc:tq K ct [n] k (DG K) dg:=by
 intro F H vs ds d Q s l e w
 cases l with
 |cons h t =>
  cases t
  rename_i d1 v
  cases d1 with
  |lst xs =>
   cases e
   obtain⟨a,us,rfl,ha,hp⟩:=h.lst s
   refine .inl ⟨a,us,rfl,.inl ha,?_⟩
   rw[← hp.length]
   exact w _ F H (.refl s) (Al.of (.int _))
  |tup xs =>
   cases e
   obtain⟨a,us,rfl,ha,hp⟩:=h.tup s
   refine .inl ⟨a,us,rfl,.inr (iD.of ha),?_⟩
   rw[← hp.length]
   exact w _ F H (.refl s) (Al.of (.int _))
  |str x =>
   unfold dg at e
   dsimp only at e
   by_cases hz:x.length<=16777216
   ·rw[if_pos hz]at e
    cases e
    exact .inr (.inl ⟨x,by rw[h.str],by rw[sizeLine_eq]; exact hz,w _ F H (.refl s) (Al.of (.int _))⟩)
   ·rw[if_neg hz]at e; cases e
  |dK ks xs =>
   cases e
   obtain⟨a,us,rfl,ha,hl,hp⟩:=h.dK s
   refine .inr (.inr ⟨a,_,rfl,ha,?_⟩)
   rw[dr,← hl,e9]
   exact w _ F H (.refl s) (Al.of (.int _))
  |_=>cases e
end
end L3
namespace L3
open PySem PySem.Spec L2
open PyProof.Rows hiding St
section
variable {ct:Nat->Addr}{K:ae}
theorem zty {ι:Type}{Xs:ι->Cx}{ms:List Mo}{n:Nat}{e:Expr}{f:EF}(hK:∀i,(Xs i).K=K)(h:∀i,XO (Xs i) ct ms n e f):∃t,(∀i,PE (Xs i) e t)/\∀(F0 B F H:Hp) (ρ:Env) (σ:St) (d:D) (Q:VK),RS K ct F0 B ms F H ρ σ->f ρ=some d ->
  (∀v F' H' fp,eM F H F' H'->Ow K ct F' H' n d v fp->fp.Nodup->(∀a∈fp,H a=none)->Q v H')->t σ H Q:=by
 refine⟨λσ H Q=>∀i,(h i).choose σ H Q,λi pins s σ H Q I q=>(h i).choose_spec.1 pins s σ H Q I (q i),λF0 B F H ρ σ d Q rs e w i=>?_⟩
 exact(h i).choose_spec.2 F0 B F H ρ σ d Q (by rw[hK i]; exact rs) e λv F' H' fp x l=>w v F' H' fp x (by rw[← hK i]; exact l)
def BD (X:Cx)(ct:Nat->Addr)(ms:List Mo)(ifs:List Expr)(f:BF):Prop:=∃t,tu X ifs t/\∀(F0 B F H:Hp) (ρ:Env) (σ:St) (b:Bool) (Q:Bool->Hp->Prop),RS X.K ct F0 B ms F H ρ σ->f ρ=some b->(∀F' H',eM F H F' H'->Q b H')->t σ H Q
def dU:BF:=λ_=>some true
theorem v8 {X:Cx}{ms:List Mo}:BD X ct ms [] dU:=⟨_,YA,λF0 B F H ρ σ b Q rs e w=>by cases e; exact w F H (.refl rs.fh)⟩
theorem Gz {X:Cx}{ms:List Mo}{c:Expr}{p:BF}(h:XT X ct ms c p):BD X ct ms [c] p:=by
 obtain⟨t,pt,qt⟩:=h
 exact⟨t,YB pt,qt⟩
theorem ztz {ι:Type}{Xs:ι->Cx}{ms:List Mo}{ifs:List Expr}{f:BF}(hK:∀i,(Xs i).K=K)(h:∀i,BD (Xs i) ct ms ifs f):∃t,(∀i,tu (Xs i) ifs t)/\∀(F0 B F H:Hp) (ρ:Env) (σ:St) (b:Bool) (Q:Bool->Hp->Prop),RS K ct F0 B ms F H ρ σ->f ρ=some b ->
  (∀F' H',eM F H F' H'->Q b H')->t σ H Q:=by
 refine⟨λσ H Q=>∀i,(h i).choose σ H Q,λi pins s σ H Q I q=>(h i).choose_spec.1 pins s σ H Q I (q i),λF0 B F H ρ σ d Q rs e w i=>?_⟩
 exact(h i).choose_spec.2 F0 B F H ρ σ d Q (by rw[hK i]; exact rs) e w
def tT {α:Type}(g:α->St->Hp->(St->Hp->Prop)->Prop):Prop:=∀v σ H Q Q',(∀σ' H',Q σ' H'->Q' σ' H')->g v σ H Q->g v σ H Q'
def uK (X:Cx)(ct:Nat->Addr)(ms:List Mo)(own n:Nat)(tg:Expr)(g:D->Env->Option Env):Prop:=∃t,PG X tg t/\ez own t/\tT t/\∀(F0 B F H:Hp) (ρ ρ':Env) (σ:St) (d:D) (v:V) (Q:St->Hp->Prop),RS X.K ct F0 B ms F H ρ σ->Al X.K ct F B n d v->g d ρ=some ρ' ->
 (∀σ',RS X.K ct F0 B ms F H ρ' σ'->Q σ' H)->t v σ H Q
theorem zt0 {ι:Type}{Xs:ι->Cx}{ms:List Mo}{own n:Nat}{tg:Expr}{g:D->Env->Option Env}(hK:∀i,(Xs i).K=K)(h:∀i,uK (Xs i) ct ms own n tg g):∃t,(∀i,PG (Xs i) tg t)/\ez own t/\∀(F0 B F H:Hp) (ρ ρ':Env) (σ:St) (d:D) (v:V) (Q:St->Hp->Prop),RS K ct F0 B ms F H ρ σ->Al K ct F B n d v->g d ρ=some ρ' ->
  (∀σ',RS K ct F0 B ms F H ρ' σ'->Q σ' H)->t v σ H Q:=by
 refine⟨λv σ H Q=>∀i,(h i).choose v σ H Q,λi pins s σ H v u Q I r q=>(h i).choose_spec.1 pins s σ H v u Q I r (q i),λv σ H Q q i=>(h i).choose_spec.2.1 v σ H Q (q i),λF0 B F H ρ ρ' σ d v Q rs l e w i=>?_⟩
 exact(h i).choose_spec.2.2.2 F0 B F H ρ ρ' σ d v Q (by rw[hK i]; exact rs) (by rw[hK i]; exact l) e λσ' r=>w σ' (by rw[← hK i]; exact r)
theorem yf {X:Cx}{ms:List Mo}{own i:Nat}{x:Str}{pos:Pos}(ho:i<own)(hm:ms[i]?=some (.ow 0))(hN:X.N.Nodup)(hi:X.N[i]?=some x)(hx:Loc X.env.scope x)
  (hf:X.fn x=true\/X.env.scope.names.lookup x=some .local:=by first|exact .inl rfl|exact .inr rfl|assumption):uK X ct ms own 0 (.Name x pos) (gV i):=by
 refine⟨_,Qc hN hi hx hf,V4 i own ho,λv σ H Q Q' m q=>m _ _ q,λF0 B F H ρ ρ' σ d v Q rs l e w=>?_⟩
 cases e
 exact w _ (rs.set hm (.refl rs.fh) (Ow.zero l) bm λa z=>(by cases z))
def Ax (own:Nat)(g:tw):Prop:=∀v σ H Q,g v σ H Q->g v σ H λσ' H'=>Q σ' H'/\σ'.length = σ.length/\∀i,own<=i->σ'[i]? = σ[i]?
def qS (X:Cx)(ct:Nat->Addr)(ms:List Mo)(own n:Nat)(iK:List Expr)(g:List D->Env->Option Env):Prop:=∃t,Bz X iK t/\Ax own t/\tT t/\(∀ds ρ ρ',g ds ρ=some ρ'->ds.length=iK.length)/\∀(F0 B F H:Hp) (ρ ρ':Env) (σ:St) (ds:List D) (vs:List V) (Q:St->Hp->Prop),RS X.K ct F0 B ms F H ρ σ->Pr (Al X.K ct F B n) ds vs->g ds ρ=some ρ' ->
 (∀σ',RS X.K ct F0 B ms F H ρ' σ'->Q σ' H)->t vs σ H Q
theorem BZ {X:Cx}{ms:List Mo}{own n:Nat}:qS X ct ms own n [] gsNil:=by
 refine⟨_,Qd,λv σ H Q q=>⟨q.1,q.2,rfl,λ_ _=>rfl⟩,λv σ H Q Q' m q=>⟨q.1,m _ _ q.2⟩,λds ρ ρ' e=>?_,λF0 B F H ρ ρ' σ ds vs Q rs l e w=>?_⟩
 ·cases ds with
  |nil=>rfl
  |cons d ds=>cases e
 ·cases l with
  |nil=>cases e; exact⟨rfl,w σ rs⟩
  |cons _ _=>cases e
theorem xt {X:Cx}{ms:List Mo}{own n:Nat}{tg:Expr}{iK:List Expr}{gg:D->Env->Option Env}{gs:List D->Env->Option Env}(h1:uK X ct ms own n tg gg)(h2:qS X ct ms own n iK gs)
  (hs:(assignEach (tg::iK) X.env).map (·.2)=assign tg X.env::(assignEach iK X.env).map (·.2):=by rfl):qS X ct ms own n (tg::iK) (gsCons gg gs):=by
 obtain⟨t,pt,kt,mt,qt⟩:=h1
 obtain⟨t2,kl,T3,N3,IU,nc⟩:=h2
 refine⟨_,PK pt kl hs,λvs σ H Q q=>?_,λvs σ H Q Q' m q=>?_,λds ρ ρ' e=>?_,λF0 B F H ρ ρ' σ ds vs Q rs l e w=>?_⟩
 ·obtain⟨v,r,e,q⟩:=q
  refine⟨v,r,e,mt _ _ _ _ _ (λσ' H' z=>?_) (kt v σ H _ q)⟩
  obtain⟨z1,z2,z3⟩:=z
  refine N3 _ _ _ _ _ (λσ2 H2 y=>?_) (T3 r σ' H' Q z1)
  exact⟨y.1,y.2.1.trans z2,λi hi=>(y.2.2 i hi).trans (z3 i hi)⟩
 ·obtain⟨v,r,e,q⟩:=q
  exact⟨v,r,e,mt _ _ _ _ _ (λσ' H' z=>N3 _ _ _ _ _ m z) q⟩
 ·cases ds with
  |nil=>cases e
  |cons d ds =>
   obtain⟨ρ1,h3,h4⟩:=bind1 e
   rw[aJ,aJ,IU _ _ _ h4]
 ·cases l with
  |nil=>cases e
  |cons h t' =>
   obtain⟨ρ1,h3,h4⟩:=bind1 e
   exact⟨_,_,rfl,qt F0 B F H ρ ρ1 σ _ _ _ rs h h3 λσ1 r1=>nc F0 B F H ρ1 ρ' σ1 _ _ _ r1 t' h4 w⟩
theorem B4 {X:Cx}{ms:List Mo}{own n:Nat}{iK:List Expr}{j:Nat}{pos:Pos}{gs:List D->Env->Option Env}(hc:X.calm=true)(h:qS X ct ms own (n-1) iK gs)(hl:(assignEach iK X.env).length=iK.length:=by rfl)(iR:(assignEach iK X.env).findIdx? (·.1)=none:=by rfl):uK X ct ms own n (.Tuple iK j pos) (gT gs):=by
 obtain⟨t,pt,kt,mt,lt,qt⟩:=h
 refine⟨_,QK (n:=iK.length) hc pt hl iR,λv σ H Q q=>?_,λv σ H Q Q' m q=>?_,λF0 B F H ρ ρ' σ d v Q rs l e w=>?_⟩
 ·obtain⟨a,xs,e,h1,h2,q⟩:=q
  exact⟨a,xs,e,h1,h2,kt _ _ _ _ q⟩
 ·obtain⟨a,xs,e,h1,h2,q⟩:=q
  exact⟨a,xs,e,h1,h2,mt _ _ _ _ _ m q⟩
 cases d with
 |tup ds =>
  have:∃a vs,v=.ref a/\iD X.K H a vs/\Pr (Al X.K ct F B (n-1)) ds vs:=by
   cases n with
   |zero =>
    have l:Dt X.K ct F (.tup ds) v:=l
    cases l with
    |tup q t=>exact⟨_,_,rfl,iD.of (rs.fh _ _ q),t.pr⟩
   |succ n =>
    rcases l with l|l
    ·cases l with
     |tup q t=>exact⟨_,_,rfl,iD.of (rs.fh _ _ q),t.pr.mono λ_ _=>Al.of⟩
    ·cases l with
     |tup q t=>exact⟨_,_,rfl,iD.of (rs.fh _ _ q),t⟩
  obtain⟨a,vs,rfl,ha,hp⟩:=this
  exact⟨a,vs,rfl,ha,hp.length.symm.trans (lt _ _ _ e),qt F0 B F H ρ ρ' σ ds vs Q rs hp e w⟩
 |_=>cases e
def dm (ρ:Env)(cap:List Nat):Env:=cap.map λi=>(ρ[i]?).join
def gj (ms:List Mo)(cap:List Nat):List Mo:=cap.map λi=>.al (((ms[i]?).map Mo.lv).getD 0)
def kL (g:D->Env->Option Env)(p:BF)(f:EF)(ρ0:Env):List D->Option (List D)
 |[]=>some []
 |d::ds=>(g d ρ0).bind λρ1=>(p ρ1).bind λb=>if b=true then(f ρ1).bind λy=>(kL g p f ρ0 ds).bind λys=>some (y::ys)else kL g p f ρ0 ds
def cX (fi:Env->Option (List D))(own:Nat)(cap:List Nat)(g:D->Env->Option Env)(p:BF)(f:EF):EF:=λρ=>(fi ρ).bind λds=>if ds.length<=16777216 then(kL g p f (ak own none++dm ρ cap) ds).bind λys=>some (.lst ys)else none
theorem SL.caps {F B H:Hp}{ms:List Mo}{ρ:Env}{σ:St}(rs:RS K ct F0 B ms F H ρ σ):∀{cap:List Nat},(∀i∈cap,i<ms.length)->SL K ct F H H (gj ms cap) (dm ρ cap) (eu σ cap) []
 |[],_=>.nil
 |i::cap,h=>by
  have ih:=SL.caps rs (cap:=cap) λj hj=>h j (ai _ hj)
  have hi:i<ms.length:=h i aa
  have hm:ms[i]?=some ms[i]:=by simp[hi]
  show SL K ct F H H (.al (((ms[i]?).map Mo.lv).getD 0)::gj ms cap) ((ρ[i]?).join::dm ρ cap) ((σ[i]?).join::eu σ cap) []
  cases e:(ρ[i]?).join with
  |none=>exact .no ih
  |some d =>
   obtain⟨v,hv,l⟩:=rs.get hm (ye e)
   rw[hv,hm]
   exact .al l ih
theorem SL.nones {F B H:Hp}{ms IV:List Mo}{ρ:Env}{σ:St}{fp:List Addr}(t:SL K ct F B H ms ρ σ fp):∀{om:List Mo},SL K ct F B H (om++ms) (ak om.length none ++ ρ) (ak om.length none ++ σ) fp
 |[]=>t
 |m::om=>.no (SL.nones (IV:=IV) t)
theorem Pv {X:Cx}{ms om:List Mo}{n k:Nat}{hU iter tg:Expr}{ifs:List Expr}{scope:Scope}{pos:Pos}{N:List Str}{own:Nat}{cap:List Nat}{fi:Env->Option (List D)}{gg:D->Env->Option Env}{p:BF}{f:EF}
  (B:jF X scope N own cap) (hc:X.calm=true) (ho:om.length=own) (fu:∀i∈cap,i<ms.length) (hi:BC X ct ms n tg iter fi)
  (hg:∀cl C fp s₀ H₀,uK (gx X scope cl N C fp s₀ H₀) ct (om++gj ms cap) own n tg gg) (ht:∀cl C fp s₀ H₀,BD (gx X scope cl N C fp s₀ H₀) ct (om++gj ms cap) ifs p) (he:∀cl C fp s₀ H₀,XO (gx X scope cl N C fp s₀ H₀) ct (om++gj ms cap) k hU f)
  :
  ∃wi g tt te,PI X tg iter wi/\ez own g/\(∀cl C fp s₀ H₀,PG (gx X scope cl N C fp s₀ H₀) tg g)/\(∀cl C fp s₀ H₀,tu (gx X scope cl N C fp s₀ H₀) ifs tt)/\(∀cl C fp s₀ H₀,PE (gx X scope cl N C fp s₀ H₀) hU te) /\
   ∀(F0 B F H:Hp) (ρ:Env) (σ:St) (d:D) (Q:VK),RS X.K ct F0 B ms F H ρ σ->cX fi own cap gg p f ρ=some d->(∀v F' H' fp,eM F H F' H'->Ow X.K ct F' H' (k+1) d v fp->fp.Nodup->(∀a∈fp,H a=none)->Q v H')->nI wi own cap g tt te σ H Q:=by
 obtain⟨wi,pi,qi⟩:=hi
 obtain⟨Oi,pg,kg,qg⟩:=zt0 (K:=X.K) (Xs:=λz:List (Str×Addr)×Addr×List Addr×Shared×Hp=>gx X scope z.1 N z.2.1 z.2.2.1 z.2.2.2.1 z.2.2.2.2) (λ_=>rfl) (λz=>hg z.1 z.2.1 z.2.2.1 z.2.2.2.1 z.2.2.2.2)
 obtain⟨tt,pt,qt⟩:=ztz (K:=X.K) (Xs:=λz:List (Str×Addr)×Addr×List Addr×Shared×Hp=>gx X scope z.1 N z.2.1 z.2.2.1 z.2.2.2.1 z.2.2.2.2) (λ_=>rfl) (λz=>ht z.1 z.2.1 z.2.2.1 z.2.2.2.1 z.2.2.2.2)
 obtain⟨te,pe,qe⟩:=zty (K:=X.K) (Xs:=λz:List (Str×Addr)×Addr×List Addr×Shared×Hp=>gx X scope z.1 N z.2.1 z.2.2.1 z.2.2.2.1 z.2.2.2.2) (λ_=>rfl) (λz=>he z.1 z.2.1 z.2.2.1 z.2.2.2.1 z.2.2.2.2)
 refine⟨wi,Oi,tt,te,pi,kg,(λcl C fp s₀ H₀=>pg (cl,C,fp,s₀,H₀)),(λcl C fp s₀ H₀=>pt (cl,C,fp,s₀,H₀)),(λcl C fp s₀ H₀=>pe (cl,C,fp,s₀,H₀)),λF0 B F H ρ σ r Q rs e w=>?_⟩
 obtain⟨ds,h1,h2⟩:=bind1 e
 by_cases hz:ds.length<=16777216
 case neg=>rw[if_neg hz]at h2; cases h2
 rw[if_pos hz]at h2
 obtain⟨ys,h3,h4⟩:=bind1 h2
 cases h4
 refine qi F0 B F H ρ σ ds _ rs h1 λJ F1 H1 x1 ok A hA=>?_
 have hE:=rs.ext x1
 refine⟨λi m us H2=>m=ds.length-i/\i<=ds.length/\us.length<=i/\H2 A=some (.lst us)/\∃F2 yd zd fp,eM F1 H1 F2 H2/\F2 A=none/\OwL (Ow X.K ct F2 H2 k) yd us fp/\fp.Nodup/\(∀a∈fp,H1 a=none/\a≠A)/\kL gg p f (ak own none++dm ρ cap) (ds.drop i)=some zd/\yd++zd=ys,
  ⟨ds.length,rfl,bW _,aE _,yu,F1,[],ys,[],eM.newO x1.fh hA _,x1.fh.free hA,.nil,bm,λa z=>(by cases z),h3,rfl⟩,?_⟩
 rintro i m us H2 ⟨rfl,BO,NR,Fk,F2,yd,zd,fp,x2,fA,ol,nd,hf,gA,Fw⟩
 refine⟨Fk,?_⟩
 have UB:=hE.ext x2
 obtain⟨k1,k2⟩:=ok i F2 H2 x2.ff x2.hh x2.fh
 by_cases gY:i<ds.length
 ·right
  have hd:ds[i]?=some ds[i]:=by simp[gY]
  obtain⟨go,yl⟩:=k1 _ hd
  rw[kG gY]at gA
  obtain⟨ρ1,h5,h6⟩:=bind1 gA
  obtain⟨b,h7,h8⟩:=bind1 h6
  refine⟨go,by rw[sizeLine_eq]; omega,λx H3 y=>?_⟩
  obtain⟨F3,x3,l⟩:=yl x H3 y
  have UC:=UB.ext x3
  have sl:=SL.nones (IV:=[]) (SL.caps UC fu) (om:=om)
  rw[ho]at sl
  have UD:RS X.K ct F3 H3 (om++gj ms cap) F3 H3 (ak own none++dm ρ cap) (ak own none++eu σ cap):=⟨.refl _,.refl _,x3.fh,λ_ _ _ h=>h,[],sl,bm,λa z=>(by cases z)⟩
  have A3:H3 A=some (.lst us):=x3.hh _ _ Fk
  have Nj:F3 A=none:=x3.nf A _ Fk fA
  refine qg F3 H3 F3 H3 _ ρ1 _ _ x _ UD (l.mono (.refl _) (x2.trans x3).hh) h5 λσ1 r1=>?_
  refine qt F3 H3 F3 H3 ρ1 σ1 b _ r1 h7 λF4 H4 x4=>?_
  cases b with
  |false =>
   rw[if_neg aH]at h8 ⊢
   have Oo:=x3.trans x4
   refine⟨ds.length-(i+1),by omega,rfl,gY,by omega,x4.hh _ _ A3,F4,yd,zd,fp,x2.trans Oo,x4.nf A _ A3 Nj,ol.mono λ_ _ _ _ o=>o.ext Oo,nd,hf,h8,Fw⟩
  |true =>
   rw[if_pos rfl]at h8 ⊢
   obtain⟨yv,h9,SU⟩:=bind1 h8
   obtain⟨zs,SV,SW⟩:=bind1 SU
   cases SW
   refine qe F3 H3 F4 H4 ρ1 σ1 yv _ (r1.ext x4) h9 λv F5 H5 f5 x5 o5 n5 Ie=>?_
   have Ly:=(x3.trans x4).trans x5
   have Oq:=x4.trans x5
   have A5:H5 A=some (.lst us):=Oq.hh _ _ A3
   have Nk:F5 A=none:=Oq.nf A _ A3 Nj
   have A4:H4 A=some (.lst us):=x4.hh _ _ A3
   have Nq:∀a∈f5,a≠A:=λa z e=>by rw[e]at z; rw[Ie A z]at A4; cases A4
   refine⟨A5,ds.length-(i+1),by omega,rfl,gY,by rw[aI,bQ]; omega,yu,F5,yd++[yv],zs,fp++(f5++[]),?_,Nk,?_,?_,?_,SV,by rw[bT]; exact Fw⟩
   ·have FU:=x2.trans Ly
    refine⟨FU.ff,λa o h=>?_,λa o h=>?_,FU.nf⟩
    ·rw[yp (xu h hA)]; exact FU.hh _ _ h
    ·rw[yp (λz=>by rw[z]at h; rw[Nk]at h; cases h)]; exact FU.fh _ _ h
   ·refine(ol.mono λ_ _ f Tj o=>?_).append (.cons ?_ .nil)
    ·refine(o.ext Ly).frame (.refl _) λa z=>⟨yp (hf a (Tj a z)).2,((o.ext Ly).cells a z).1⟩
    ·exact o5.frame (.refl _) λa z=>⟨yp (Nq a z),(o5.cells a z).1⟩
   ·rw[bC]
    refine aY.mpr ⟨nd,n5,λa z c hc e=>?_⟩
    subst e
    have:∃o,H2 a=some o:=(OwL.cellsOf ol a z).2
    obtain⟨o,ho⟩:=this
    have:=x4.hh _ _ (x3.hh _ _ ho)
    rw[Ie a hc]at this
    cases this
   ·intro a z
    rw[bC]at z
    rcases aM.mp z with z|z
    ·exact hf a z
    ·refine⟨?_,Nq a z⟩
     have U3:=x2.trans (x3.trans x4)
     exact U3.hh.free (Ie a z)
 ·left
  refine⟨k2 (by omega),?_⟩
  have:ds.drop i=[]:=lY (by omega)
  rw[this]at gA
  cases gA
  rw[bC]at Fw
  subst Fw
  refine w _ F2 H2 (A::fp) (x1.trans x2) (.inr (.lst fA Fk ol)) (bi.mpr ⟨λz=>(hf A z).2 rfl,nd⟩) λa z=>?_
  rcases aA.mp z with rfl|z
  ·exact x1.hh.free hA
  ·exact x1.hh.free (hf a z).1
theorem ux {X:Cx}{ms om:List Mo}{n k:Nat}{hU iter tg:Expr}{ifs:List Expr}{scope:Scope}{pos:Pos}{N:List Str}{own:Nat}{cap:List Nat}{fi:Env->Option (List D)}{gg:D->Env->Option Env}{p:BF}{f:EF}
  (B:jF X scope N own cap) (hc:X.calm=true) (ho:om.length=own) (fu:∀i∈cap,i<ms.length) (hi:BC X ct ms n tg iter fi)
  (hg:∀cl C fp s₀ H₀,uK (gx X scope cl N C fp s₀ H₀) ct (om++gj ms cap) own n tg gg) (ht:∀cl C fp s₀ H₀,BD (gx X scope cl N C fp s₀ H₀) ct (om++gj ms cap) ifs p) (he:∀cl C fp s₀ H₀,XO (gx X scope cl N C fp s₀ H₀) ct (om++gj ms cap) k hU f)
  (hs:∀x,foldedSetIterable iter X.env x=pure x:=by intro _; rfl):XO X ct ms (k+1) (.ListComp hU [⟨tg,iter,ifs,0⟩] scope pos) (cX fi own cap gg p f):=by
 obtain⟨wi,g,tt,te,pi,kg,pg,pt,pe,q⟩:=Pv (k:=k) (pos:=pos) B hc ho fu hi hg ht he
 exact⟨_,YC B hc pi kg pg pt pe hs,q⟩
end
end L3
namespace L3
open PySem PySem.Spec L2
open PyProof.Rows hiding St
section
variable {X:Cx}{ct:Nat->Addr}{ms:List Mo}{rk n m k:Nat}{st:Stmt}{rest:List Stmt}{a b c e tg:Expr}{f g h:EF}{p q:BF}{u w:SF}{pos:Pos}
def Er:D->Option (List D)
 |.lst ds=>some ds
 |_=>none
theorem Ma {d:D}{ds:List D}(h:Er d=some ds):d=.lst ds:=by cases d <;> simp[Er]at h; subst h; rfl
def lsD (f:EF):Env->Option (List D):=λρ=>(f ρ).bind Er
theorem QT {K:ae}{F B G:Hp}{a:Addr}{vs:List V}{ds:List D}(hp:Pr (Al K ct F B n) ds vs)(keep:∀F' H',bw F F'->bw B H'->bw F' H'->d5 K H' a vs):oX K ct F B n (G4 K a) ds:=by
 intro i F' H' s1 s2 s3
 have hs:d5 K H' a vs:=keep F' H' s1 s2 s3
 refine⟨λd hd=>?_,λhl=>⟨vs,hs,by rw[← hp.length]; exact hl⟩⟩
 obtain⟨v,hv,l⟩:=hp.get' hd
 refine⟨⟨vs,v,hs,hv⟩,λx H2 y=>?_⟩
 obtain⟨e,y⟩:=y
 subst e
 have:=y vs hs
 rw[hv]at this
 cases this
 exact⟨F',.refl s3,l.mono s1 (.refl _)⟩
theorem Dt.lst_inv {K:ae}{F:Hp}{ds:List D}{v:V}(h:Dt K ct F (.lst ds) v):∃a vs,v=.ref a/\d5 K F a vs/\Dts K ct F ds vs:=by
 cases h with
 |lst q t=>exact⟨_,_,rfl,q,t⟩
theorem B5 (he:XE X ct ms 0 e f):XI X ct ms 0 tg e (lsD f):=by
 obtain⟨t,pt,qt⟩:=he
 refine⟨_,Qe pt,λF0 B F H ρ σ ds R rs e w=>?_⟩
 obtain⟨d,h1,h2⟩:=bind1 e
 rw[Ma h2]at h1
 refine qt F0 B F H ρ σ _ _ rs h1 λv F' H' x l=>?_
 obtain⟨a,vs,rfl,ha,hp⟩:=Dt.lst_inv l
 exact⟨a,rfl,⟨vs,x.fh.seq ha⟩,w _ F' H' x (QT (G:=H') (n:=0) (hp.pr) λF2 H2 s1 s2 s3=>s3.seq (s1.seq ha))⟩
theorem vz (he:XE X ct ms n e f):BC X ct ms (n-1) tg e (lsD f):=by
 obtain⟨t,pt,qt⟩:=he
 refine⟨_,Qe pt,λF0 B F H ρ σ ds R rs e w=>?_⟩
 obtain⟨d,h1,h2⟩:=bind1 e
 rw[Ma h2]at h1
 refine qt F0 B F H ρ σ _ _ rs h1 λv F' H' x l=>?_
 obtain⟨a,vs,rfl,ha,hp⟩:=l.lst x.fh
 exact⟨a,rfl,⟨vs,ha⟩,w _ F' H' x (QT (G:=H') hp λF2 H2 s1 s2 s3=>s2.seq ha)⟩
theorem XI.cc {fi:Env->Option (List D)}(h:XI X ct ms n tg e fi):BC X ct ms n tg e fi:=by
 obtain⟨t,pt,qt⟩:=h
 refine⟨t,pt,λF0 B F H ρ σ ds R rs e w=>qt F0 B F H ρ σ ds R rs e λJ F' H' x ok=>w J F' H' x λi F2 H2 s1 s2 s3=>?_⟩
 obtain⟨k1,k2⟩:=ok i F2 H2 s1 ((rs.ext x).bh.trans s2) s3
 refine⟨λd hd=>?_,k2⟩
 obtain⟨go,yl⟩:=k1 d hd
 refine⟨go,λv H3 y=>?_⟩
 obtain⟨F3,x3,l⟩:=yl v H3 y
 exact⟨F3,x3,l.mono (.refl _) (rs.ext x).bh⟩
def dZ (lo:Int)(j:Nat):List D:=(aB j).map λ(t:Nat)=>.int (lo+(t:Int))
def ig:List D->Option (List D)
 |[.int j]=>if -4611686018427387904<=j/\j<4611686018427387904 then some (dZ 0 j.toNat)else none
 |_=>none
theorem zsi {K:ae}{F B:Hp}{lo:Int}{j:Nat}:oX K ct F B n (Eh lo j) (dZ lo j):=by
 intro i F' H' s1 s2 s3
 unfold dZ
 refine⟨λd hd=>?_,λhl=>(show j<=i by simpa using hl)⟩
 rw[aP]at hd
 by_cases h:i<j
 ·rw[List.getElem?_range h]at hd
  cases hd
  refine⟨h,λx H2 y=>?_⟩
  obtain⟨e,y⟩:=y
  subst e
  subst y
  exact⟨F',.refl s3,Al.of (.int _)⟩
 ·rw[mD (by simpa using h)]at hd
  cases hd
theorem j6 {fs:Env->Option (List D)}{pp:Pos}(hm:X.mg "range"=none)(ha:XA X ct ms [a] [m] fs)(hg:Gl X "range":=by rfl)(hs:starEach [a] X.env=[(false,eval a X.env)]:=by rfl):XI X ct ms n tg (.Call (.Name "range" pp) [a] [] pos) (λρ=>(fs ρ).bind ig):=by
 obtain⟨t,pt,_,qt⟩:=ha
 refine⟨_,Wu hg hm pt hs,λF0 B F H ρ σ ds R rs e w=>?_⟩
 obtain⟨lQ,h1,h2⟩:=bind1 e
 refine qt F0 B F H ρ σ _ _ rs h1 λvs F' H' x l=>?_
 cases l with
 |cons h t =>
  cases t
  rename_i d v
  cases d with
  |int j =>
   unfold ig at h2
   dsimp only at h2
   by_cases hj:-4611686018427387904<=j/\j<4611686018427387904
   ·rw[if_pos hj]at h2
    cases h2
    exact⟨j,by rw[h.int],by omega,by omega,w _ F' H' x zsi⟩
   ·rw[if_neg hj]at h2; cases h2
  |_=>cases h2
def de (i:Nat):List D->List D
 |[]=>[]
 |d::ds=>.tup [.int i,d]::de (i+1) ds
theorem LQ:∀{ds:List D} {j i:Nat} {d:D},(de j ds)[i]?=some d->∃x,ds[i]?=some x/\d=.tup [.int (j+i:Nat),x]
 |[],_,_,_,h=>by simp[de]at h
 |x::ds,j,0,d,h=>by simp[de]at h; subst h; exact⟨x,rfl,rfl⟩
 |x::ds,j,i+1,d,h=>by
  obtain⟨y,h1,h2⟩:=LQ (ds:=ds) (j:=j+1) (i:=i) (d:=d) (by simpa[de]using h)
  exact⟨y,by simpa using h1,by rw[h2,Nat.add_assoc,Nat.add_comm 1 i]⟩
theorem Pl:∀{ds:List D} {j:Nat},(de j ds).length=ds.length
 |[],_=>rfl
 |_::ds,j=>by simp[de,Pl (ds:=ds)]
theorem QU {K:ae}{F B:Hp}{a:Addr}{vs:List V}{ds:List D}(hp:Pr (Al K ct F B n) ds vs)(keep:∀F' H',bw F F'->bw B H'->bw F' H'->d5 K H' a vs):oX K ct F B (n+1) (G3 K a) (de 0 ds):=by
 intro i F' H' s1 s2 s3
 have hs:d5 K H' a vs:=keep F' H' s1 s2 s3
 refine⟨λd hd=>?_,λhl=>⟨vs,hs,by rw[← hp.length]; rw[Pl]at hl; exact hl⟩⟩
 obtain⟨x,hx,rfl⟩:=LQ hd
 obtain⟨v,hv,l⟩:=hp.get' hx
 refine⟨⟨vs,v,hs,hv⟩,λz H2 y=>?_⟩
 obtain⟨r,y',hr,rfl,rfl,y⟩:=y
 have:=y vs hs
 rw[hv]at this
 cases this
 refine⟨_,eM.newS s3 hr _,.inr (.tup yu (.cons (Al.of ?_) (.cons (l.mono (s1.trans (DZ (s3.free hr) _)) (.refl _)) .nil)))⟩
 rw[Nat.zero_add]
 exact .int _
theorem YG {fs:Env->Option (List D)}{mn:List Expr}{kt:Nat}{pt pp:Pos}(hm:X.mg "enumerate"=none)(ha:XA X ct ms [a] [0] fs)(hg:Gl X "enumerate":=by rfl)(hs:starEach [a] X.env=[(false,eval a X.env)]:=by rfl) :
  XI X ct ms 1 (.Tuple mn kt pt) (.Call (.Name "enumerate" pp) [a] [] pos) (λρ=>(fs ρ).bind λds=>match ds with|[.lst xs]=>some (de 0 xs)|_=>none):=by
 obtain⟨t,pt,_,qt⟩:=ha
 refine⟨_,Qm hg hm pt hs,λF0 B F H ρ σ ds R rs e w=>?_⟩
 obtain⟨lQ,h1,h2⟩:=bind1 e
 refine qt F0 B F H ρ σ _ _ rs h1 λvs F' H' x l=>?_
 cases l with
 |cons h t =>
  cases t
  rename_i d v
  cases d with
  |lst xs =>
   cases h2
   obtain⟨a,vs,rfl,ha,hp⟩:=Dt.lst_inv h
   exact⟨a,rfl,⟨vs,x.fh.seq ha⟩,w _ F' H' x (QU (n:=0) hp.pr λF2 H2 s1 s2 s3=>s3.seq (s1.seq ha))⟩
  |_=>cases h2
theorem Mb {fs:Env->Option (List D)}{mn:List Expr}{kt:Nat}{pt pp:Pos}(hm:X.mg "enumerate"=none)(ha:XA X ct ms [a] [n] fs)(hg:Gl X "enumerate":=by rfl)(hs:starEach [a] X.env=[(false,eval a X.env)]:=by rfl) :
  BC X ct ms (n-1+1) (.Tuple mn kt pt) (.Call (.Name "enumerate" pp) [a] [] pos) (λρ=>(fs ρ).bind λds=>match ds with|[.lst xs]=>some (de 0 xs)|_=>none):=by
 obtain⟨t,pt,_,qt⟩:=ha
 refine⟨_,Qm hg hm pt hs,λF0 B F H ρ σ ds R rs e w=>?_⟩
 obtain⟨lQ,h1,h2⟩:=bind1 e
 refine qt F0 B F H ρ σ _ _ rs h1 λvs F' H' x l=>?_
 cases l with
 |cons h t =>
  cases t
  rename_i d v
  cases d with
  |lst xs =>
   cases h2
   obtain⟨a,vs,rfl,ha,hp⟩:=h.lst x.fh
   exact⟨a,rfl,⟨vs,ha⟩,w _ F' H' x (QU hp λF2 H2 s1 s2 s3=>s2.seq ha)⟩
  |_=>cases h2
end
end L3
namespace L3
open PySem PySem.Spec L2
open PyProof.Rows hiding St
section
variable {X:Cx}{ct:Nat->Addr}{ms:List Mo}{rk n m k:Nat}{st:Stmt}{rest:List Stmt}{a b c e tg:Expr}{f g h:EF}{p q:BF}{u w:SF}{pos:Pos}
theorem Ow.lst_inv {K:ae}{F H:Hp}{ds:List D}{v:V}{fp:List Addr}(h:Ow K ct F H (k+1) (.lst ds) v fp):∃a vs fr,v=.ref a/\fp=a::fr/\F a=none/\H a=some (.lst vs)/\OwL (Ow K ct F H k) ds vs fr:=by
 rcases h with⟨h,_⟩|h
 ·cases h
 ·cases h with
  |lst h1 h2 h3=>exact⟨_,_,_,rfl,rfl,h1,h2,h3⟩
theorem Ow.dK_inv {K:ae}{F H:Hp}{ks:List Key}{ds:List D}{v:V}{fp:List Addr}(h:Ow K ct F H (k+1) (.dK ks ds) v fp):∃a vs fr,v=.ref a/\fp=a::fr/\F a=none/\H a=some (.dK (ks.zip vs))/\ks.length=vs.length/\OwL (Ow K ct F H k) ds vs fr:=by
 rcases h with⟨h,_⟩|h
 ·cases h
 ·cases h with
  |dK h1 h2 h3 h4=>exact⟨_,_,_,rfl,rfl,h1,h2,h3,h4⟩
theorem Ow.dT_inv {K:ae}{F H:Hp}{ks:List (List Key)}{ds:List D}{v:V}{fp:List Addr}(h:Ow K ct F H (k+1) (.dT ks ds) v fp):∃a vs fr,v=.ref a/\fp=a::fr/\F a=none/\H a=some (.dT (ks.zip vs))/\ks.length=vs.length/\OwL (Ow K ct F H k) ds vs fr:=by
 rcases h with⟨h,_⟩|h
 ·cases h
 ·cases h with
  |dT h1 h2 h3 h4=>exact⟨_,_,_,rfl,rfl,h1,h2,h3,h4⟩
theorem RS.change {K:ae}{F0 B F H F' H':Hp}{ρ:Env}{σ:St}{i:Nat}{d':D}{v:V}{f1 fr fn:List Addr}{ad:Addr}{o:HO}(rs:RS K ct F0 B ms F H ρ σ)(hm:ms[i]?=some (.ow k))(x:eM F H F' H')
  (hσ:σ[i]?=some (some v)) (b1:∀a∈f1,B a=none) (dj:∀a∈f1,a∉fr) (cf:∀a∈fr,F a=none/\∃o,H a=some o)
  (put:∀(F' H':Hp) (d':D) (v':V) (f':List Addr),bw F F'->bw B H'->bw F' H'->(∀a o,B a=some o->F0 a=none->F' a=none)->(∀a∈fr,H' a=H a/\F' a=none)->Ow K ct F' H' k d' v' f'->f'.Nodup->(∀a∈f',a∉fr)->(∀a∈f',B a=none) ->
    RS K ct F0 B ms F' H' (ρ.set i (some d')) (σ.set i (some v')))
  (gX:ad∈f1) (HG:F' ad=none) (o':Ow K ct F' (cC H' ad o) k d' v fn) (nd:fn.Nodup) (BN:∀a∈fn,a∈f1\/H a=none):RS K ct F0 B ms F' (cC H' ad o) (ρ.set i (some d')) σ:=by
 have r:=rs.ext x
 have hB:B ad=none:=b1 ad gX
 have res:=put F' (cC H' ad o) d' v fn x.ff (λz u h=>by rw[yp (λe=>by rw[e,hB]at h; cases h)]; exact r.bh _ _ h) (λz u h=>by rw[yp (λe=>by rw[e,HG]at h; cases h)]; exact x.fh _ _ h) r.nf
  (λz hz=>by
   obtain⟨hn,o,ho⟩:=cf z hz
   refine⟨?_,x.nf z o ho hn⟩
   have ne:z≠ad:=λe=>dj ad gX (by rw[← e]; exact hz)
   rw[yp ne]
   exact(x.hh _ _ ho).trans ho.symm) o' nd
  (λz hz zr=>by
   rcases BN z hz with h|h
   ·exact dj z h zr
   ·obtain⟨_,o,ho⟩:=cf z zr
    rw[h]at ho
    cases ho)
  (λz hz=>(BN z hz).elim (b1 z) λh=>rs.bh.free h)
 have e:σ.set i (some v) = σ:=by
  apply iS
  intro j
  by_cases hj:i=j
  ·subst hj
   rw[gq (by
    have:=aK.mp hσ
    exact this.1),hσ]
  ·rw[bR hj]
 rw[e]at res
 exact res
def sApp (i:Nat)(f:EF):SF:=λρ=>(eV i ρ).bind λo=>(f ρ).bind λd=>match o with
 |.lst ds=>if ds.length<16777216 then some (.nx (ρ.set i (some (.lst (ds++[d])))))else none
 |_=>none
theorem D2 (i:Nat){x:Str}{p1 cO dD:Pos}(hm:ms[i]?=some (.ow (k+1)))(he:XO X ct ms k e f)(hN:X.N[i]?=some x:=by rfl)(hv:lP X.env.scope x:=by first|exact Or.inl rfl|exact Or.inr (Or.inl rfl)|exact Or.inr (Or.inr rfl))(hd:(x == ("__debug__":Str))=false:=by decide)
  (gA:(x == ("__classdict__":Str))=false:=by decide) (iR:starEach [e] X.env=(false,eval e X.env)::starEach [] X.env:=by rfl)
  (ki:attributeBase (.Name x p1) "append" X.env (eval (.Name x p1) X.env)=eval (.Name x p1) X.env:=by rfl)
  (mY:((backTo dD (starEach [e] X.env)).all (λx=>!x.1) && (backToKw dD (keywordEach [] X.env)).all (λx=>x.1.isSome)
   && decide ([e].length+([]:List Keyword).length+(if([]:List Keyword).isEmpty then 0 else 1)<30))=true:=by rfl)
  (kj:(cO.endLine == dD.line)=true:=by rfl) (hV:(backTo dD (starEach [] X.env)).any (·.1)=false:=by rfl)
  (su:swapsWith (.Call (.Attribute (.Name x p1) "append" cO) [e] [] dD) none pos.line X.env=pure false:=by rfl) :
  XS X ct ms rk (.Expr (.Call (.Attribute (.Name x p1) "append" cO) [e] [] dD) pos) (sApp i f):=by
 obtain⟨t,pt,qt⟩:=he
 refine⟨_,Mn (Ee PySem.F.plainAttrs_list PySem.F.slot_list_append PySem.F.type_list_append FV (jl hN hv hd gA) (v7 pt qz iR) ki mY kj iR hV) su,λF0 B F H ρ σ o E rs e z=>?_⟩
 obtain⟨d1,d2,h1,h2,h3⟩:=cy e
 obtain⟨f1,fr,n1,b1,dj,i4,cf,put⟩:=rs.put (F':=F) (H':=H) hm
 obtain⟨v,hσ,ow⟩:=i4 d1 (ye h1)
 refine⟨v,hσ,?_⟩
 cases d1 with
 |lst ds =>
  dsimp only at h3
  by_cases hz:ds.length<16777216
  ·rw[if_pos hz]at h3
   cases h3
   obtain⟨ad,vs,lS,rfl,rfl,hF,hH,ol⟩:=ow.lst_inv
   refine⟨.inl ⟨rfl,_,d5.of hH⟩,qt F0 B F H ρ σ d2 _ rs h2 λv2 F' H' fp x1 o2 Du CP=>?_⟩
   have hA:H' ad=some (.lst vs):=x1.hh _ _ hH
   have fA:F' ad=none:=x1.nf ad _ hH hF
   have nA:∀a∈fp,a≠ad:=λa hz e=>by rw[e]at hz; rw[CP ad hz]at hH; cases hH
   have IX:=bi.mp n1
   refine⟨ad,vs,v2,rfl,rfl,hA,by rw[← ol.length,sizeLine_eq]; exact hz,?_⟩
   refine z σ F' _ (rs.change hm x1 hσ b1 dj cf put aa fA (.inr (.lst fA yu ((ol.mono λ_ _ f' hi o'=>?_).append (.cons (f:=fp) ?_ .nil)))) (fn:=ad::(lS++(fp++[]))) ?_ ?_)
   ·refine(o'.ext x1).frame (.refl _) λa ha=>⟨yp λe=>IX.1 (e ▸ hi a ha),((o'.ext x1).cells a ha).1⟩
   ·exact o2.frame (.refl _) λa ha=>⟨yp (nA a ha),(o2.cells a ha).1⟩
   ·rw[bC]
    refine bi.mpr ⟨λhz=>?_,aY.mpr ⟨IX.2,Du,λa ha b hb e=>?_⟩⟩
    ·rcases aM.mp hz with hz|hz
     ·exact IX.1 hz
     ·exact nA ad hz rfl
    ·subst e
     obtain⟨_,o,ho⟩:=OwL.cellsOf ol a ha
     rw[CP a hb]at ho
     cases ho
   ·intro a ha
    rw[bC]at ha
    rcases aA.mp ha with rfl|ha
    ·exact .inl aa
    ·rcases aM.mp ha with ha|ha
     ·exact .inl (ai _ ha)
     ·exact .inr (CP a ha)
  ·rw[if_neg hz]at h3; cases h3
 |_=>cases h3
def setAt (ds:List D)(i:Int)(d:D):Option (List D):=(ixN ds.length i).bind λj=>some (ds.set j d)
def d9 {κ:Type}[DecidableEq κ](ks:List κ)(ds:List D)(k:κ)(d:D):List κ×List D:=if ks.contains k=true then(ks,(ks.zip ds).map λp=>if p.1=k then d else p.2)else(ks++[k],ds++[d])
def my (i:Nat)(fj f:EF):SF:=λρ=>(f ρ).bind λd=>(eV i ρ).bind λo=>(fj ρ).bind λj=>match o,j with
 |.lst ds,.int z=>(setAt ds z d).bind λlQ=>some (.nx (ρ.set i (some (.lst lQ))))
 |_,_=>none
theorem OwL.set0 {R:D->V->List Addr->Prop}{d:D}{v:V}(r:R d v [])(z:∀d v f,R d v f->f=[]):∀{ds:List D} {vs:List V} {fp:List Addr} (i:Nat),OwL R ds vs fp->OwL R (ds.set i d) (vs.set i v) []
 |_,_,_,_,.nil=>.nil
 |_,_,_,0,.cons h t=>by
  have:=OwL.cons (f:=[]) (g:=[]) r (OwL.ofPr (t.pr λd v f _ q=>by have:=z _ _ _ q; subst this; exact q))
  exact this
 |_,_,_,i+1,.cons h t=>by
  have e:=z _ _ _ h
  subst e
  exact OwL.cons (f:=[]) (g:=[]) h (OwL.set0 r z i t)
theorem Ow.nil0 {K:ae}{F H:Hp}{d:D}{v:V}{fp:List Addr}(h:Ow K ct F H 0 d v fp):fp=[]:=h.2
theorem OwL.nil0 {K:ae}{F H:Hp}:∀{ds:List D} {vs:List V} {fp:List Addr},OwL (Ow K ct F H 0) ds vs fp->fp=[]
 |_,_,_,.nil=>rfl
 |_,_,_,.cons h t=>by rw[h.nil0,OwL.nil0 t]; rfl
end
end L3
namespace L3
open PySem PySem.Spec L2
open PyProof.Rows hiding St
section
variable {X:Cx}{ct:Nat->Addr}{ms:List Mo}{rk n m k:Nat}{st:Stmt}{rest:List Stmt}{a b c e tg:Expr}{f g h:EF}{p q:BF}{u w:SF}{pos:Pos}{K:ae}
theorem IT {pins:List (Addr×Obj)}{σ:St}{H:Hp}{s:Shared}{l:Addr}{xs:List V}(I:Inv X pins σ H s)(hH:Rd H l (.lst xs)):xs.length<=sizeLine/\∃(its:List Value) (n:Nat),bA xs its/\xs.length=its.length/\s.heap.get? l=some { cls:=.type "list",data:=.seq its.toArray n }:=by
  obtain⟨z,its,n,r,e⟩:=hH.ok I.hok
  exact⟨z,its,n,r,r.length,e⟩
def tV (K:ae):R2:=λx y H Q=>∃l b xs zs,x=.ref l/\y=.ref b/\d5 K H l xs/\d5 K H b zs/\xs.length+zs.length<=sizeLine/\∀p,H p=none->Q (.ref p) (cC H p (.lst (xs++zs)))
theorem YH:eR X (binaryOp .Add) (tV X.K):=by
 intro pins s σ H x y v u Q I rx ry h
 obtain⟨l,b,xs,zs,rfl,rfl,hH,hB,hz,q⟩:=h
 cases rx
 cases ry
 obtain⟨its,r,⟨⟨cls,dd,data,sl⟩,n,e,c1,c2,c3⟩,z⟩:=I.list hH
 obtain⟨sv,r2,⟨⟨Hh,EH,data2,BV⟩,n2,e2,c4,c5,c6⟩,z2⟩:=I.list hB
 simp only at c1 c3 c4 c6
 subst c1 c3 c4 c6
 have hl:=r.length
 have si:=r2.length
 refine concat_meets ⟨_,e,rfl⟩ ⟨_,e2,rfl⟩ noFill_list_add seq_list_add PySem.F.slot_list_add PySem.F.entry_list_add (PySem.F.args_list_add_2 _ _) (list_addW l b its.toArray sv.toArray n n2 dd EH sl BV (by rw[aD,aD]; omega)) ⟨e,e2,?_⟩
 have ea:its.toArray++sv.toArray=(its++sv).toArray:=by simp
 rw[ea]
 exact⟨.ref _,_,I.lnew (t':=s.toks) (r.append r2) (by rw[aI]; omega),rfl,q _ I.fresh⟩
def DB:R2:=λx y H Q=>∃i j,x=.str i/\y=.str j/\i.length+j.length<=sizeLine/\Q (.str (i++j)) H
def Bj (K:ae):R2:=λx y H Q=>mF (λi j=>.int (i+j)) x y H Q\/DB x y H Q\/tV K x y H Q\/tW K x y H Q
theorem wp:eR X (binaryOp .Add) (Bj X.K):=eR.or ZP (eR.or Wa (eR.or YH Yf))
def dG:D->D->Option D
 |.int i,.int j=>some (.int (i+j))
 |.str x,.str y=>if x.length+y.length<=16777216 then some (.str (x++y))else none
 |.lst xs,.lst ys=>if xs.length+ys.length<=16777216 then some (.lst (xs++ys))else none
 |.tup xs,.tup ys=>if xs.isEmpty=false/\ys.isEmpty=false/\xs.length+ys.length<=1000000 then some (.tup (xs++ys))else none
 |_,_=>none
theorem Pr.ow0 {F G H:Hp}{ds:List D}{vs:List V}(h:Pr (Al K ct F G 0) ds vs):OwL (Ow K ct F H 0) ds vs []:=OwL.ofPr (h.mono λ_ _ q=>⟨q,rfl⟩)
theorem Al.lst1 {F G:Hp}{ds:List D}{v:V}(hn:n<=1)(h:Al K ct F G n (.lst ds) v)(s:bw F G):∃a vs,v=.ref a/\d5 K G a vs/\Pr (Al K ct F G 0) ds vs:=by
 obtain⟨a,vs,e,h1,h2⟩:=h.lst s
 have:n-1=0:=by omega
 rw[this]at h2
 exact⟨a,vs,e,h1,h2⟩
theorem Al.tup1 {F G:Hp}{ds:List D}{v:V}(hn:n<=1)(h:Al K ct F G n (.tup ds) v)(s:bw F G):∃a vs,v=.ref a/\G a=some (.tup vs)/\Pr (Al K ct F G 0) ds vs:=by
 obtain⟨a,vs,e,h1,h2⟩:=h.tup s
 have:n-1=0:=by omega
 rw[this]at h2
 exact⟨a,vs,e,h1,h2⟩
theorem qf {F H:Hp}{ds:List D}{vs:List V}{Q:VK}(s:bw F H)(hp:Pr (Al K ct F H 0) ds vs)(w:∀v F' H' fp,eM F H F' H'->Ow K ct F' H' 1 (.lst ds) v fp->fp.Nodup->(∀a∈fp,H a=none)->Q v H'):∀p,H p=none->Q (.ref p) (cC H p (.lst vs)):=λp h0=>by
 obtain⟨o,nd⟩:=Qn s (hp.ow0 (H:=H)) h0
 exact w _ F _ [p] (eM.newO s h0 _) o (nd bm) λa z=>by rw[ar]at z; subst z; exact h0
theorem wt (hn:n<=1)(hm:m<=1):Cv K ct n m 1 (Bj K) dG:=by
 intro F H x y d1 d2 d Q s l1 l2 e w
 have ws:∀d v,d.sc=true->Dt K ct F d v->(∀v F' H' fp,eM F H F' H'->Ow K ct F' H' 1 d v fp->fp.Nodup->(∀a∈fp,H a=none)->Q v H')->Q v H:=λd v hs hd w=>w v F H [] (.refl s) (Ow.scal hd hs) bm λa z=>(by cases z)
 cases d1 with
 |int i =>
  cases d2 with
  |int j=>cases e; exact .inl ⟨i,j,l1.int,l2.int,ws _ _ rfl (.int _) w⟩
  |_=>cases e
 |str i =>
  cases d2 with
  |str j =>
   unfold dG at e
   dsimp only at e
   by_cases hz:i.length+j.length<=16777216
   ·rw[if_pos hz]at e
    cases e
    exact .inr (.inl ⟨i,j,l1.str,l2.str,by rw[sizeLine_eq]; exact hz,ws _ _ rfl (.str _) w⟩)
   ·rw[if_neg hz]at e; cases e
  |_=>cases e
 |lst xs =>
  cases d2 with
  |lst ys =>
   unfold dG at e
   dsimp only at e
   by_cases hz:xs.length+ys.length<=16777216
   ·rw[if_pos hz]at e
    cases e
    obtain⟨a,vs,rfl,ha,hp⟩:=Al.lst1 hn l1 s
    obtain⟨b,us,rfl,hb,hq⟩:=Al.lst1 hm l2 s
    exact .inr (.inr (.inl ⟨a,b,vs,us,rfl,rfl,ha,hb,by rw[← hp.length,← hq.length,sizeLine_eq]; exact hz,qf s (hp.append hq) w⟩))
   ·rw[if_neg hz]at e; cases e
  |_=>cases e
 |tup xs =>
  cases d2 with
  |tup ys =>
   unfold dG at e
   dsimp only at e
   by_cases hz:xs.isEmpty=false/\ys.isEmpty=false/\xs.length+ys.length<=1000000
   ·rw[if_pos hz]at e
    cases e
    obtain⟨a,vs,rfl,ha,hp⟩:=Al.tup1 hn l1 s
    obtain⟨b,us,rfl,hb,hq⟩:=Al.tup1 hm l2 s
    have hl:=hp.length
    have si:=hq.length
    have e1:vs≠[]:=λz=>by
     rw[z]at hl
     have:=lO.mp hl
     rw[this]at hz
     exact absurd hz.1 (by decide)
    have e2:us≠[]:=λz=>by
     rw[z]at si
     have:=lO.mp si
     rw[this]at hz
     exact absurd hz.2.1 (by decide)
    refine .inr (.inr (.inr ⟨a,b,vs,us,rfl,rfl,iD.of ha,iD.of hb,e1,by rw[← hl,← si,sizeLine_eq]; omega,λz=>absurd z e2,λ_ p h0=>?_⟩))
    have x2:=eM.newS s h0 (.tup (vs++us))
    exact w _ _ _ [] x2 (.inr (.tup yu (OwL.ofPr ((hp.append hq).mono λ_ _ q=>⟨Dt.mono x2.ff q,rfl⟩)))) bm λa z=>(by cases z)
   ·rw[if_neg hz]at e; cases e
  |_=>cases e
 |_=>cases e
def DH:R2:=λx y H Q=>∃l k xs,x=.ref l/\y=.int k/\Rd H l (.lst xs)/\-(2 ^ 63)<=k/\k<2 ^ 63/\xs.length * k.toNat<=sizeLine /\
 ∀p,H p=none->Q (.ref p) (cC H p (.lst (ak k.toNat xs).flatten))
theorem YI:eR X (binaryOp .Mult) DH:=by
 intro pins s σ H x y v u Q I rx ry h
 obtain⟨l,k,xs,rfl,rfl,hH,h1,h2,hz,q⟩:=h
 cases rx
 obtain⟨t,rfl⟩:=ry
 obtain⟨z,its,n,r,hl,e⟩:=IT I hH
 have dI:its.toArray.size * k.toNat<=sizeLine:=by rw[aD,← hl]; exact hz
 have fu:¬its.toArray.size * k.toNat > (2 ^ 63-1) / 8:=by
  have:(sizeLine:Nat)<=(2 ^ 63-1) / 8:=by decide
  omega
 have Ig:¬(!Builtin.List.listFitsIndex k)=true:=by
  rw[fitsIndex_both h1 h2]
  exact aH
 have CV:¬Builtin.List.listTooLong (its.toArray.size * k.toNat)=true:=by
  rw[pJ dI]
  exact aH
 have Ir:nN (λx1 x2=>x1++x2) #[] (ak (if its.toArray.isEmpty=true then 0 else k.toNat) its.toArray)=(ak k.toNat its).flatten.toArray:=by
  have f0:∀m:Nat,nN (λx1 x2=>x1++x2) #[] (ak m its.toArray)=(ak m its).flatten.toArray:=λm=>by
   have:=Pg its m []
   rw[gD]at this
   exact this
  rw[f0]
  cases its with
  |nil=>simp
  |cons a r'=>rw[if_neg (by simp)]
 refine wpAny_binaryOp_repeat_ref (T:="list") (U:="int") (by decide) ⟨_,e,rfl⟩ (λs'=>typeIs_int s' k t) noFill_list_mul F.fills_int_mul F.slot_int_rmul repeat_list F.slot_int_index.lookup
  (call_meets F.slot_int_rmul (typeIs_int s k t) F.entry_int_rmul (F.args_int_rmul_2 _ _) (int___rmul___int_list k t l its.toArray n)
   ⟨e,rfl,⟨_,e,rfl⟩,call_meets F.slot_list_mul ⟨_,e,rfl⟩ F.entry_list_mul (F.args_list_mul_2 _ _) (AutoListH.list___mul___list_int_3 l its.toArray n k t Ig fu CV) ⟨e,?_⟩⟩)
 rw[Ir]
 exact⟨.ref _,_,I.lnew (t':=s.toks) (r.rep k.toNat) (by rw[Yv,Nat.mul_comm]; exact hz),rfl,q _ I.fresh⟩
theorem xr:ko K ct n m k (rI kJ λi j=>.int (i * j)) cE:=YE
def ng:D->D->Option D
 |.lst xs,.int j=>if -1000000<j/\j<1000000/\xs.length<=16 then some (.lst (ak j.toNat xs).flatten)else none
 |_,_=>none
theorem QW (ha:XO X ct ms 1 a f)(hb:XE X ct ms m b g):XO X ct ms 1 (.BinOp a .Mult b pos) (e2 ng f g):=by
 obtain⟨ta,pa,qa⟩:=ha
 obtain⟨tb,pb,qb⟩:=hb
 refine⟨_,M0 YI pa pb,λF0 B F H ρ σ d Q rs e w=>?_⟩
 obtain⟨d1,d2,h1,h2,h3⟩:=cy e
 refine qa F0 B F H ρ σ d1 _ rs h1 λv F1 H1 fp x1 o nd hf=>?_
 refine qb F0 B F1 H1 ρ σ d2 _ (rs.ext x1) h2 λv2 F2 H2 x2 l2=>?_
 cases d1 with
 |lst xs =>
  cases d2 with
  |int j =>
   unfold ng at h3
   dsimp only at h3
   by_cases hz:-1000000<j/\j<1000000/\xs.length<=16
   ·rw[if_pos hz]at h3
    cases h3
    obtain⟨ad,vs,fr,rfl,rfl,hF,hH,ol⟩:=(o.ext x2).lst_inv
    have hp:Pr (Al X.K ct F2 H2 0) xs vs:=ol.pr λ_ _ _ _ q=>q.1
    have On:=x1.trans x2
    refine⟨ad,j,vs,rfl,l2.int,.inl hH,by omega,by omega,?_,qf x2.fh (hp.rep _) λv F' H' fp x o nd hf=>w v F' H' fp (On.trans x) o nd λz hz=>On.hh.free (hf z hz)⟩
    rw[← hp.length,sizeLine_eq]
    have h1:j.toNat<=1000000:=by omega
    have h2:xs.length * j.toNat<=16 * 1000000:=tf hz.2.2 h1
    omega
   ·rw[if_neg hz]at h3; cases h3
  |_=>cases h3
 |_=>cases h3
def oo:D->Option D
 |.int i=>some (.int (-i))
 |_=>none
theorem GF (ha:XE X ct ms n a f):XE X ct ms k (.UnaryOp .USub a pos) (e1 oo f):=by
 refine ztw ZR (λF H x d1 d Q s l e w=>?_) ha
 cases d1 with
 |int i=>cases e; exact⟨i,l.int,w _ F H (.refl s) (Al.of (.int _))⟩
 |_=>cases e
theorem D7 {x:Str}{d:D}{u:Value}(hg:Gl X x)(hm:X.mg x=some u)(hs:d.sc=true)(r:RelV d.v u)(hd:(x == ("__debug__":Str))=false:=by decide):XE X ct ms n (.Name x pos) (eC d):=by
 refine⟨_,Qa hg hm r hd,λF0 B F H ρ σ d' Q rs e w=>?_⟩
 cases e
 refine w _ F H (.refl rs.fh) (Al.of ?_)
 cases d with
 |non=>exact .non
 |bl b=>exact .bl b
 |int b=>exact .int b
 |str b=>exact .str b
 |_=>cases hs
def kR:List D->Option D
 |[.lst ds]=>some (.lst ds)
 |[.tup ds]=>some (.lst ds)
 |_=>none
theorem Pw (hn:n<=1):oY K ct [n] 1 (λxs H Q=>∃p ys,xs=[.ref p]/\(d5 K H p ys\/iD K H p ys)/\∀l,H l=none->Q (.ref l) (cC H l (.lst ys))) kR:=by
 intro F H vs ds d Q s l e w
 cases l with
 |cons h t =>
  cases t
  rename_i d1 v
  cases d1 with
  |lst xs =>
   cases e
   obtain⟨a,us,rfl,ha,hp⟩:=Al.lst1 hn h s
   exact⟨a,us,rfl,.inl ha,qf s hp w⟩
  |tup xs =>
   cases e
   obtain⟨a,us,rfl,ha,hp⟩:=Al.tup1 hn h s
   exact⟨a,us,rfl,.inr (iD.of ha),qf s hp w⟩
  |_=>cases e
abbrev PF:=Env->Option (Option Int)
def pNo:PF:=λ_=>some none
def pInt (f:EF):PF:=λρ=>(f ρ).bind λd=>match d with
 |.int i=>some (some i)
 |_=>none
def XP (X:Cx)(ct:Nat->Addr)(ms:List Mo)(e:Option Expr)(f:PF):Prop:=∃t,PO X e t/\∀(F0 B F H:Hp) (ρ:Env) (σ:St) (o:Option Int) (Q:Option Int->Hp->Prop),RS X.K ct F0 B ms F H ρ σ->f ρ=some o->(∀F' H',eM F H F' H'->Q o H')->t σ H Q
theorem M2:XP X ct ms none pNo:=⟨_,Ye,λF0 B F H ρ σ o Q rs e w=>by cases e; exact w F H (.refl rs.fh)⟩
theorem D8 (h:XE X ct ms n e f):XP X ct ms (some e) (pInt f):=by
 obtain⟨t,pt,qt⟩:=h
 refine⟨_,P8 pt,λF0 B F H ρ σ o Q rs e w=>?_⟩
 obtain⟨d,h1,h2⟩:=bind1 e
 refine qt F0 B F H ρ σ d _ rs h1 λv F' H' x l=>?_
 cases d with
 |int i=>cases h2; exact⟨i,l.int,w F' H' x⟩
 |_=>cases h2
def cutD (xs:List D)(lo hi:Option Int):List D:=(xs.drop (HT.sIx xs.length 0 lo)).take (HT.sIx xs.length xs.length hi-HT.sIx xs.length 0 lo)
theorem YJ {R:D->V->Prop}{ds:List D}{vs:List V}{lo hi:Option Int}(h:Pr R ds vs):Pr R (cutD ds lo hi) (nW vs lo hi):=by
 unfold cutD nW
 rw[h.length]
 exact(h.drop _).take _
def ij (d:D)(lo hi:Option Int):Option D:=match d with
 |.lst xs=>some (.lst (cutD xs lo hi))
 |_=>none
theorem Gf {lo hi:Option Expr}{pl ph:PF}{p1}(hn:n<=1)(he:XE X ct ms n e f)(hl:XP X ct ms lo pl)(hh:XP X ct ms hi ph):XO X ct ms 1 (.Subscript e (.Slice lo hi none p1) pos) (λρ=>(f ρ).bind λd=>(pl ρ).bind λl=>(ph ρ).bind λh=>ij d l h):=by
 obtain⟨t,pt,qt⟩:=he
 obtain⟨t1,sE,sJ⟩:=hl
 obtain⟨t2,kl,nc⟩:=hh
 refine⟨_,Xe Yu pt sE kl,λF0 B F H ρ σ r Q rs e w=>?_⟩
 obtain⟨d,l,h1,h2,h3⟩:=cy e
 obtain⟨hh,h4,h5⟩:=bind1 h3
 refine qt F0 B F H ρ σ d _ rs h1 λv F1 H1 x1 l1=>?_
 refine sJ F0 B F1 H1 ρ σ l _ (rs.ext x1) h2 λF2 H2 x2=>?_
 refine nc F0 B F2 H2 ρ σ hh _ ((rs.ext x1).ext x2) h4 λF3 H3 x3=>?_
 cases d with
 |lst xs =>
  cases h5
  have qG:=x2.trans x3
  obtain⟨a,vs,rfl,ha,hp⟩:=Al.lst1 hn (l1.mono qG.ff qG.hh) qG.fh
  exact⟨a,vs,rfl,ha,qf qG.fh (YJ hp) λv F' H' fp x o nd hf=>w v F' H' fp ((x1.trans qG).trans x) o nd λz hz=>(x1.trans qG).hh.free (hf z hz)⟩
 |_=>cases h5
def uL:List D->Option D
 |[.int i]=>some (.int (if i<0 then -i else i))
 |_=>none
theorem YK:tq K ct [n] k (λxs H Q=>∃i,xs=[.int i]/\Q (.int (if i<0 then -i else i)) H) uL:=by
 intro F H vs ds d Q s l e w
 cases l with
 |cons h t =>
  cases t
  rename_i d1 v
  cases d1 with
  |int i=>cases e; exact⟨i,by rw[h.int],w _ F H (.refl s) (Al.of (.int _))⟩
  |_=>cases e
def ii (g:Int->Int->D):List D->Option D
 |[.int i,.int j]=>some (g i j)
 |_=>none
def Do:List D->Option D:=ii λi j=>.int (if j > i then j else i)
def Dr:List D->Option D:=ii λi j=>.int (if j<i then j else i)
def pO (i:Nat)(o:D->D->Option D)(f:EF):SF:=λρ=>(eV i ρ).bind λx=>(f ρ).bind λy=>(o x y).bind λd=>some (.nx (ρ.set i (some d)))
theorem QX {op:Operator}{i:Nat}{x:Str}{pos':Pos}{gi:Int->Int->Int}(ho:BA X op (FB gi))(hm:ms[i]?=some (.ow k))(hN:X.N.Nodup)(hi:X.N[i]?=some x)(hx:Loc X.env.scope x)(he:XE X ct ms n e f)(hf:X.fn x=true\/X.env.scope.names.lookup x=some .local:=by first|exact .inl rfl|exact .inr rfl|assumption) :
  XS X ct ms rk (.AugAssign (.Name x pos') op e pos) (pO i (i2 λi j=>.int (gi i j)) f):=by
 obtain⟨t,pt,qt⟩:=he
 refine⟨_,ZM hN hi hx pt ho hf,λF0 B F H ρ σ o E rs e z=>?_⟩
 obtain⟨d1,d2,h1,h2,h3⟩:=cy e
 obtain⟨d,h4,h5⟩:=bind1 h3
 cases h5
 obtain⟨v,hv,l⟩:=rs.get hm (ye h1)
 refine⟨v,hv,qt F0 B F H ρ σ d2 _ rs h2 λy F' H' x1 l2=>?_⟩
 cases d1 with
 |int i' =>
  cases d2 with
  |int j' =>
   cases h4
   exact⟨i',j',l.int,l2.int,z _ F' H' (rs.set hm x1 (Ow.scal (.int _) rfl) bm λa z=>(by cases z))⟩
  |_=>cases h4
 |_=>cases h4
def sPar (i j:Nat)(fs:Env->Option (List D)):SF:=λρ=>(fs ρ).bind λds=>match ds with
 |[x,y]=>some (.nx ((ρ.set i (some x)).set j (some y)))
 |_=>none
theorem zsj {i j:Nat}{x y:Str}{fs:Env->Option (List D)}{px py pt:Pos}{kt k2 kl}(BP:ms[i]?=some (.ow 0))(tJ:ms[j]?=some (.ow 0))(hc:X.calm=true)(hN:X.N.Nodup)(hi:X.N[i]?=some x)(hj:X.N[j]?=some y)(n8:i≠j)
  (hx:X.env.scope.names.lookup x=some .local) (hy:X.env.scope.names.lookup y=some .local) (ha:XA X ct ms [a,b] [0,0] fs)
  (hw:swappedStores [.Tuple [.Name x px,.Name y py] kt pt] (.Tuple [a,b] k2 kl) X.env=pure (some [x,y]))
  (hs:swapsWithSole [.Tuple [.Name x px,.Name y py] kt pt] (.Tuple [a,b] k2 kl) pos.line X.env=pure false:=by rfl) :
  XS X ct ms rk (.Assign [.Tuple [.Name x px,.Name y py] kt pt] (.Tuple [a,b] k2 kl) pos) (sPar i j fs):=by
 obtain⟨t,pt,_,qt⟩:=ha
 refine⟨_,ZL hc hN hi hj n8 hx hy pt hw hs,λF0 B F H ρ σ o E rs e z=>?_⟩
 obtain⟨ds,h1,h2⟩:=bind1 e
 refine qt F0 B F H ρ σ ds _ rs h1 λvs F' H' x1 l=>?_
 cases l with
 |cons l1 l =>
  cases l with
  |cons l2 l =>
   cases l
   cases h2
   have r1:=rs.set BP x1 (Ow.zero l1) bm λa z=>(by cases z)
   exact⟨_,_,rfl,z _ F' H' (r1.set tJ (.refl x1.fh) (Ow.zero l2) bm λa z=>(by cases z))⟩
def sAsg (g:D->Env->Option Env)(f:EF):SF:=λρ=>(f ρ).bind λd=>(g d ρ).bind λρ'=>some (.nx ρ')
theorem QY {gg:D->Env->Option Env}(he:XE X ct ms 0 e f)(hg:XG X ct ms 0 tg gg)(hs:swapsWithSole [tg] e pos.line X.env=pure false:=by rfl)(hw:swappedStores [tg] e X.env=pure none:=by rfl)
  (h1:(assignEach [tg] X.env).map (·.2)=[assign tg X.env]:=by rfl):XS X ct ms rk (.Assign [tg] e pos) (sAsg gg f):=by
 obtain⟨t,pt,qt⟩:=he
 obtain⟨t2,kl,nc⟩:=hg
 refine⟨_,MH pt kl hs hw h1,λF0 B F H ρ σ o E rs e z=>?_⟩
 obtain⟨d,h1,h2⟩:=bind1 e
 obtain⟨ρ',h3,h4⟩:=bind1 h2
 cases h4
 exact qt F0 B F H ρ σ d _ rs h1 λv F' H' x l=>nc F0 B F' H' ρ ρ' σ d v _ (rs.ext x) l h3 λσ' r=>z σ' F' H' r
end
end L3
namespace L3
open PySem PySem.Spec L2
open PyProof.Rows hiding St
def fF:List Nat->List Mo->Bool
 |[],_=>true
 |n::ns,.al m::ms=>decide (n=m) && fF ns ms
 |n::ns,.ow m::ms=>decide (n=0) && decide (m=0) && fF ns ms
 |_,_=>false
theorem zt:∀{pm:List Nat} {ms:List Mo},fF pm ms=true->∀(i n:Nat),pm[i]?=some n->ms[i]?=some (Mo.al n)\/(n=0/\ms[i]?=some (Mo.ow 0))
 |[],_,_,i,n,e=>by simp at e
 |x::ns,.al m::ms,h,i,n,e=>by
  simp only[fF,bq,decide_eq_true_eq]at h
  cases i with
  |zero=>simp at e; subst e; rw[h.1]; exact .inl rfl
  |succ i=>simpa using zt h.2 i n (by simpa using e)
 |x::ns,.ow m::ms,h,i,n,e=>by
  simp only[fF,bq,decide_eq_true_eq]at h
  cases i with
  |zero=>simp at e; subst e; rw[h.1.1,h.1.2]; exact .inr ⟨rfl,rfl⟩
  |succ i=>simpa using zt h.2 i n (by simpa using e)
 |_::_,[],h,_,_,_=>by simp[fF]at h
 |_::_,.px _::_,h,_,_,_=>by simp[fF]at h
 |_::_,.so _::_,h,_,_,_=>by simp[fF]at h
def tD (X:Cx)(scope:Scope)(N:List Str)(own:Nat)(cap:List Nat):Bool :=
 decide (scope.kind=.function) && scope.names.all (λx=>(decide (x.2≠.cell) || decide (scope.names.lookup x.1=some .cell)) && (decide (x.2≠.local) || decide (scope.names.lookup x.1=some .local)) && (decide (x.2≠.free) || (decide (X.env.kindOf x.1=some .cell) || decide (X.env.kindOf x.1=some .free)))) &&
 decide (N.length=own+cap.length) && (aB cap.length).all λj=>match N[own+j]?,cap[j]? with
  |some x,some i=>decide (X.N[i]?=some x) && decide (scope.names.lookup x=some .free)
  |_,_=>false
theorem uf {X:Cx}{scope:Scope}{N:List Str}{own:Nat}{cap:List Nat}(h:tD X scope N own cap=true):jF X scope N own cap:=by
 unfold tD at h
 simp only[bq,decide_eq_true_eq,fU,Bool.or_eq_true]at h
 obtain⟨⟨⟨h1,h2⟩,h3⟩,h4⟩:=h
 refine⟨h1,λx hx hl=>((h2 x hx).1.1).elim (λz=>absurd hl z) id,λx hx hl=>((h2 x hx).1.2).elim (λz=>absurd hl z) id,λx hx hf=>((h2 x hx).2).elim (λz=>absurd hf z) id,h3,λj x hj=>?_⟩
 have tH:j<cap.length:=by
  have:=(aK.mp hj).1
  omega
 have q:=h4 j (aZ.mpr tH)
 rw[hj]at q
 have hc:cap[j]?=some cap[j]:=by simp[tH]
 rw[hc]at q
 simp only[bq,decide_eq_true_eq]at q
 exact⟨_,hc,q.1,q.2⟩
def FR:D->Option String
 |.non=>some "NoneType"
 |.bl _=>some "bool"
 |.int _=>some "int"
 |.str _=>some "str"
 |.lst _=>some "list"
 |.tup _=>some "tuple"
 |.dK _ _=>some "dict"
 |_=>none
def Oj (K:ae)(H:Hp)(v:V)(t:String):Prop:=hJ K H v (.type t)\/(t = "list"/\∃a xs,v=.ref a/\d5 K H a xs)
theorem Al.ty {K:ae}{ct:Nat->Addr}{F H:Hp}{n:Nat}{d:D}{v:V}{t:String}(s:bw F H)(h:Al K ct F H n d v)(e:FR d=some t):Oj K H v t:=by
 cases d with
 |non=>cases e; rw[h.non]; exact .inl .non
 |bl b=>cases e; rw[h.bl]; exact .inl (.bl b)
 |int b=>cases e; rw[h.int]; exact .inl (.int b)
 |str b=>cases e; rw[h.str]; exact .inl (.str b)
 |lst xs =>
  cases e
  obtain⟨a,vs,rfl,ha,_⟩:=h.lst s
  exact .inr ⟨rfl,a,vs,rfl,ha⟩
 |tup xs =>
  cases e
  obtain⟨a,vs,rfl,ha,_⟩:=h.tup s
  exact .inl (.tup ha)
 |dK ks xs =>
  cases e
  obtain⟨a,vs,rfl,ha,_⟩:=h.dK s
  exact .inl (.dK ha)
 |_=>cases e
theorem WJ {X:Cx}:dB X (.builtin "isinstance") (λxs H Q=>∃x c t b,xs=[x,.ty c]/\Oj X.K H x t/\bv X.K (.type t) (.type c)=some b/\Q (.bl b) H):=by
 intro pins s σ H xs us Q I r h
 obtain⟨x,c,t,b,rfl,ty,e,q⟩:=h
 rcases ty with ty|⟨rfl,a,ys,rfl,hq⟩
 ·exact Xi pins s σ H _ us Q I r ⟨x,c,_,b,rfl,ty,e,q⟩
 ·obtain⟨u,w',rfl,ru,kE⟩:=vals2 r
  cases(show w'=Value.type c from kE)
  cases(show u=Value.ref a from ru)
  obtain⟨its,rv,⟨o,n,h1,h2,_⟩,_⟩:=I.list hq
  exact bK ip I.kIn ⟨o,h1,h2⟩ e (λz=>nomatch z) λtk=>⟨.bl b,H,I.tok tk,rfl,q⟩
def Dk (t c:String):Bool:=t == c || (t == "bool" && c == "int")
theorem YL {K:ae}:∀t∈(["NoneType","bool","int","str","list","tuple","dict"]:List String),∀c∈(["bool","int","str","list","tuple","dict"]:List String),bv K (.type t) (.type c)=some (Dk t c):=by
 intro t ht c hc
 simp only[aA,ce,or_false]at ht hc
 rcases ht with rfl|rfl|rfl|rfl|rfl|rfl|rfl <;> rcases hc with rfl|rfl|rfl|rfl|rfl|rfl <;> rfl
theorem YM {d:D}{t:String}(e:FR d=some t):t∈(["NoneType","bool","int","str","list","tuple","dict"]:List String):=by
 cases d <;> simp[FR]at e <;> subst e <;> decide
section
variable {X:Cx}{ct:Nat->Addr}{ms:List Mo}{rk n m k:Nat}{a b c e tg:Expr}{f g h:EF}{pos:Pos}
def m8 (c:String)(d:D):Option D:=(FR d).bind λt=>some (.bl (Dk t c))
theorem GG {c:String}{pp p2:Pos}(hc:c∈(["bool","int","str","list","tuple","dict"]:List String))(hm:X.mg "isinstance"=none)(kP:X.mg c=none)(hb:bootBuiltins c=some (.type c))(he:XE X ct ms n e f)(hg:Gl X "isinstance":=by rfl)(lU:Gl X c:=by rfl)(tK:Str.ofString c≠"__name__":=by decide)(hd2:(Str.ofString c == ("__debug__":Str))=false:=by decide)
  (C5:starEach [e,.Name c p2] X.env=(false,eval e X.env)::starEach [.Name c p2] X.env:=by rfl) (lV:starEach [.Name c p2] X.env=(false,eval (.Name c p2) X.env)::starEach [] X.env:=by rfl) (gF:(backTo pos (starEach [.Name c p2] X.env)).any (·.1)=false:=by rfl) :
  XE X ct ms k (.Call (.Name "isinstance" pp) [e,.Name c p2] [] pos) (e1 (m8 c) f):=by
 obtain⟨t,pt,qt⟩:=he
 refine⟨_,Gd WJ hg hm Ot (v7 pt (v7 (Yh (v:=.ty c) lU kP hb rfl tK hd2) qz lV) C5) (by decide) (by decide) C5 gF,λF0 B F H ρ σ d Q rs e w=>?_⟩
 obtain⟨d1,h1,h2⟩:=bind1 e
 obtain⟨ty,h3,h4⟩:=bind1 h2
 cases h4
 exact qt F0 B F H ρ σ d1 _ rs h1 λv F' H' x l=>⟨v,c,ty,_,rfl,l.ty x.fh h3,YL _ (YM h3) _ hc,w _ F' H' x (Al.of (.bl _))⟩
end
end L3
namespace L3
open PySem PySem.Spec L2
open PyProof.Rows hiding St
def kW (K:ae):Sp:=λvs H Q _=>∃(a:Addr) (ns:List Int),vs=[.ref a]/\d5 K H a (ns.map V.int)/\ns.length<=63/\∀H',Q (.bl true) H'
theorem Dts.ints {K:ae}{ct:Nat->Addr}{F:Hp}:∀ns:List Int,Dts K ct F (ns.map D.int) (ns.map V.int)
 |[]=>.nil
 |n::ns=>.cons (.int n) (Dts.ints ns)
theorem zsk {P:Program}{w:World}{K:ae}{mg:Str->Option Value}{base:Heap}{k:Nat}{f:Addr}{fd:FuncData}{ps:List Str}{ct:Nat->Addr}{m:List D->Option D}(Fn:bM P w K mg base dR k f fd ps (eZ K ct [0] 0 m))
  (h:∀ns:List Int,ns.length<=63->m [.lst (ns.map .int)]=some (.bl true)):bM P w K mg base dR k f fd ps (kW K):=by
 have to:∀vs H Q E,kW K vs H Q E->eZ K ct [0] 0 m vs H Q E:=by
  rintro vs H Q E ⟨a,ns,rfl,hS,hl,q⟩
  refine⟨H,[.lst (ns.map .int)],.bl true,.refl _,.cons (Dt.lst hS (Dts.ints ns)) .nil,h ns hl,λv F' H' fp x o nd hf=>?_⟩
  have hv:v=.bl true:=by
   have o:Dt K ct F' (.bl true) v/\fp=[]:=o
   cases o.1
   rfl
  subst hv
  exact q H'
 exact⟨λvs H Q E z=>Fn.len vs H Q E (to vs H Q E z),λA outer s H args us vs Q E hr e0 hb hv z=>Fn.run A outer s H args us vs Q E hr e0 hb hv (to vs H Q E z)⟩
theorem Pm {g:D->Env->Option Env}{b:SF}(I:List D->Env->Prop)(all:List D)(st:∀pre d post ρ,all=pre++d::post->I pre ρ->∃ρ1 ρ2,g d ρ=some ρ1/\(b ρ1=some (.nx ρ2)\/b ρ1=some (.ct ρ2))/\I (pre++[d]) ρ2):∀(ds pre:List D) (ρ:Env),all=pre++ds->I pre ρ ->
  ∃ρ',eI g b ds ρ=some (.nx ρ')/\I all ρ'
 |[],pre,ρ,e,h=>⟨ρ,rfl,by rw[e,bC]; exact h⟩
 |d::ds,pre,ρ,e,h=>by
  obtain⟨ρ1,ρ2,h1,h2,h3⟩:=st pre d ds ρ e h
  obtain⟨ρ',h4,h5⟩:=Pm I all st ds (pre++[d]) ρ2 (by rw[e]; simp) h3
  refine⟨ρ',?_,h5⟩
  show(g d ρ).bind _=_
  rw[h1]
  show(b ρ1).bind _=_
  rcases h2 with h2|h2 <;> (rw[h2]; exact h4)
theorem Px {g:D->Env->Option Env}{b:SF}(I:List D->Env->Prop){ds:List D}{ρ:Env}(h:I [] ρ)(st:∀pre d post ρ,ds=pre++d::post->I pre ρ->∃ρ1 ρ2,g d ρ=some ρ1/\(b ρ1=some (.nx ρ2)\/b ρ1=some (.ct ρ2))/\I (pre++[d]) ρ2) :
  ∃ρ',eI g b ds ρ=some (.nx ρ')/\I ds ρ':=Pm I ds st ds [] ρ rfl h
theorem zsl {α:Type}{all pre post:List α}{d:α}(h:all=pre++d::post):all[pre.length]?=some d:=by subst h; simp
theorem Pn {α S:Type}{g:D->Env->Option Env}{b:SF}(enc:α->D)(st:S->Env)(f:S->α->S)(P:S->Prop):∀(xs:List α) (s:S),P s ->
  (∀s x,x∈xs->P s->∃ρ1,g (enc x) (st s)=some ρ1/\(b ρ1=some (.nx (st (f s x)))\/b ρ1=some (.ct (st (f s x))))/\P (f s x))->eI g b (xs.map enc) (st s)=some (.nx (st (xs.foldl f s)))/\P (xs.foldl f s)
 |[],s,hp,_=>⟨rfl,hp⟩
 |x::xs,s,hp,h=>by
  obtain⟨ρ1,h1,h2,h3⟩:=h s x aa hp
  have ih:=Pn enc st f P xs (f s x) h3 λs y hy=>h s y (ai _ hy)
  refine⟨?_,ih.2⟩
  show(g (enc x) (st s)).bind _=_
  rw[h1]
  show(b ρ1).bind _=_
  rcases h2 with h2|h2 <;> (rw[h2]; exact ih.1)
theorem O2 {g:D->Env->Option Env}{b:SF}(I:Nat->Env->Prop)(lo:Int):∀(n k:Nat) (ρ:Env),I k ρ ->
  (∀j ρ,k<=j->j<k+n->I j ρ->∃ρ1 ρ2,g (.int (lo+(j:Int))) ρ=some ρ1/\(b ρ1=some (.nx ρ2)\/b ρ1=some (.ct ρ2))/\I (j+1) ρ2) ->
  ∃ρ',eI g b ((fM k n).map λ(t:Nat)=>D.int (lo+(t:Int))) ρ=some (.nx ρ')/\I (k+n) ρ'
 |0,k,ρ,h,_=>⟨ρ,rfl,h⟩
 |n+1,k,ρ,h,st=>by
  obtain⟨ρ1,ρ2,h1,h2,h3⟩:=st k ρ (aE _) (by omega) h
  obtain⟨ρ',h4,h5⟩:=O2 I lo n (k+1) ρ2 h3 λj ρ hj hl hI=>st j ρ (by omega) (by omega) hI
  refine⟨ρ',?_,by rw[show k+(n+1)=k+1+n by omega]; exact h5⟩
  rw[List.range'_succ,aC]
  show(g _ ρ).bind _=_
  rw[h1]
  show(b ρ1).bind _=_
  rcases h2 with h2|h2 <;> (rw[h2]; exact h4)
theorem V5 {g:D->Env->Option Env}{b:SF}(I:Nat->Env->Prop){lo:Int}{n:Nat}{ρ:Env}(h:I 0 ρ)
  (st:∀j ρ,j<n->I j ρ->∃ρ1 ρ2,g (.int (lo+(j:Int))) ρ=some ρ1/\(b ρ1=some (.nx ρ2)\/b ρ1=some (.ct ρ2))/\I (j+1) ρ2):∃ρ',eI g b (dZ lo n) ρ=some (.nx ρ')/\I n ρ':=by
 obtain⟨ρ',h1,h2⟩:=O2 (g:=g) (b:=b) I lo n 0 ρ h λj ρ _ hj hI=>st j ρ (by omega) hI
 rw[Nat.zero_add]at h2
 exact⟨ρ',by unfold dZ; rw[gR]; exact h1,h2⟩
theorem LG {S:Type}{c:BF}{b:SF}(st:S->Env)(t:S->Bool)(f:S->S)(μ:S->Nat)(P:S->Prop)(hc:∀s,P s->c (st s)=some (t s))(hb:∀s,P s->t s=true->(b (st s)=some (.nx (st (f s)))\/b (st s)=some (.ct (st (f s))))/\P (f s)/\μ (f s) < μ s) :
  ∀(n:Nat) (s:S),P s->μ s<n->∃s',fJ c b n (st s)=some (.nx (st s'))/\P s'/\t s'=false/\∃j,s'=Nat.repeat f j s
 |0,s,_,h=>absurd h (by omega)
 |n+1,s,hp,h=>by
  cases ht:t s with
  |false =>
   refine⟨s,?_,hp,ht,0,rfl⟩
   show(c (st s)).bind _=_
   rw[hc s hp,ht]
   rfl
  |true =>
   obtain⟨h1,h2,h3⟩:=hb s hp ht
   obtain⟨s',h4,h5,h6,j,h7⟩:=LG st t f μ P hc hb n (f s) h2 (by omega)
   refine⟨s',?_,h5,h6,j+1,?_⟩
   ·show(c (st s)).bind _=_
    rw[hc s hp,ht]
    show(b (st s)).bind _=_
    rcases h1 with h1|h1 <;> (rw[h1]; exact h4)
   ·rw[h7]
    clear h4 h5 h6 h7
    induction j with
    |zero=>rfl
    |succ j ih=>show f (Nat.repeat f j (f s))=f (Nat.repeat f (j+1) s); rw[ih]
theorem LJ {c:BF}{b:SF}(I:Env->Prop)(μ:Env->Nat)(st:∀ρ,I ρ->∃t,c ρ=some t/\(t=true->∃ρ',(b ρ=some (.nx ρ')\/b ρ=some (.ct ρ'))/\I ρ'/\μ ρ' < μ ρ)) :
  ∀(n:Nat) (ρ:Env),I ρ->μ ρ<n->∃ρ',fJ c b n ρ=some (.nx ρ')/\I ρ'/\c ρ'=some false
 |0,_,_,h=>absurd h (by omega)
 |n+1,ρ,hI,h=>by
  obtain⟨t,h1,h2⟩:=st ρ hI
  cases t with
  |false=>exact⟨ρ,by show(c ρ).bind _=_; rw[h1]; rfl,hI,h1⟩
  |true =>
   obtain⟨ρ',h3,h4,h5⟩:=h2 rfl
   obtain⟨ρ2,h6,h7,h8⟩:=LJ I μ st n ρ' h4 (by omega)
   refine⟨ρ2,?_,h7,h8⟩
   show(c ρ).bind _=_
   rw[h1]
   show(b ρ).bind _=_
   rcases h3 with h3|h3 <;> (rw[h3]; exact h6)
theorem Mt {n k:Nat}(h:n<2 ^ k)(hk:k<=9000):n<jM:=aO h (cn (by decide) hk)
theorem GA {n:Nat}(h:n<1048576):n<jM:=Mt (k:=20) h (by decide)
theorem Qq {i j:Int}(h:j≠0):cY (.int i) (.int j)=some (.int (i.fmod j)):=by
 unfold cY
 by_cases h0:0<j
 ·simp[h0,fw i (by omega:0<=j)]
 ·simp[h0,h]
theorem Py {i j:Int}(h:j≠0)(hz:Sz 9000 j):dH (.int i) (.int j)=some (.int (i.fdiv j)):=by
 unfold dH
 by_cases h0:0<j/\j<4611686018427387904
 ·simp[h0,fv i (by omega:0<=j)]
 ·have hz:j.natAbs<GZ:=hz
  simp[h0,h,hz]
theorem zab {i j:Int}(h1:0<j)(h2:j<4611686018427387904):dH (.int i) (.int j)=some (.int (i / j)):=by unfold dH; simp[h1,h2]
theorem jy {i j:Int}(h:0<j):cY (.int i) (.int j)=some (.int (i % j)):=by unfold cY; simp[h]
theorem zds {i j:Int}(h1:-18446744073709551616<j)(h2:j<18446744073709551616):cE (.int i) (.int j)=some (.int (i * j)):=by simp[cE,oN,iH,h1,h2]
theorem zac {i j:Int}(h1:-18446744073709551616<i)(h2:i<18446744073709551616):cE (.int i) (.int j)=some (.int (i * j)):=by simp[cE,oN,iH,h1,h2]
theorem zmn {i j:Int}(h1:0<=j)(h2:j<=1000000)(h3:i.natAbs<18446744073709551616):pN (.int i) (.int j)=some (.int (i ^ j.toNat)):=by simp[pN,oN,kT,h1,h2,h3]
theorem zmo {i j:Int}(h1:0<=j)(h2:j<=1000000)(h3:i.natAbs<18446744073709551616):sM (.int i) (.int j)=some (.int (i * 2 ^ j.toNat)):=by simp[sM,oN,kT,h1,h2,h3]
theorem zh6 {i j:Int}(h1:0<=j):oq (.int i) (.int j)=some (.int (i / 2 ^ j.toNat)):=by simp[oq,oN,h1]
theorem zmp (i j:Int):dG (.int i) (.int j)=some (.int (i+j)):=rfl
theorem Pz {xs ys:List D}(h:xs.length+ys.length<=16777216):dG (.lst xs) (.lst ys)=some (.lst (xs++ys)):=by simp[dG,h]
theorem Xl {x y:Str}(h:x.length+y.length<=16777216):dG (.str x) (.str y)=some (.str (x++y)):=by simp[dG,h]
theorem zmr (i j:Int):pQ (.int i) (.int j)=some (.int (i-j)):=rfl
theorem zpw (i j:Int):nF (.int i) (.int j)=some (.bl (decide (i<j))):=rfl
theorem zpx (i j:Int):tS (.int i) (.int j)=some (.bl (decide (i<=j))):=rfl
theorem zgy (i j:Int):qA (.int i) (.int j)=some (.bl (decide (j<i))):=rfl
theorem zpy (i j:Int):Fj (.int i) (.int j)=some (.bl (decide (j<=i))):=rfl
theorem zms (i:Int):oo (.int i)=some (.int (-i)):=rfl
theorem za9 (ds:List D):dg [.lst ds]=some (.int ds.length):=rfl
theorem zmt (ds:List D):dg [.tup ds]=some (.int ds.length):=rfl
theorem zmu (i:Int):uL [.int i]=some (.int (if i<0 then -i else i)):=rfl
theorem zkt (i j:Int):Do [.int i,.int j]=some (.int (if j > i then j else i)):=rfl
theorem zku (i j:Int):Dr [.int i,.int j]=some (.int (if j<i then j else i)):=rfl
theorem zpz (neg:Bool)(d:D):m7 neg d .non=some (.bl (if neg then !d.isN else d.isN)):=by cases d <;> rfl
theorem zsm (neg b:Bool)(d:D):m7 neg d (.bl b)=some (.bl (if neg then !d.isB b else d.isB b)):=by cases d <;> rfl
theorem zsn (b:Bool):Ep (.bl b)=some b:=rfl
theorem zp0 (ds:List D):Er (.lst ds)=some ds:=rfl
theorem zdt (ds:List D)(l h:Option Int):ij (.lst ds) l h=some (.lst (cutD ds l h)):=rfl
theorem Gg {j:Int}(h1:-4611686018427387904<=j)(h2:j<4611686018427387904):ig [.int j]=some (dZ 0 j.toNat):=by simp[ig,h1,h2]
theorem Yl {α:Type}(enc:α->D){xs:List α}{i:Int}{j:Nat}{x:α}(hi:i=(j:Int)\/i=(j:Int)-xs.length)(h:xs[j]?=some x):atI (xs.map enc) i=some (enc x):=by
 have hj:=(aK.mp h).1
 unfold L2.atI L2.ixN
 rw[am]
 rcases hi with rfl|rfl
 ·rw[if_pos (by omega),if_pos (by omega)]
  simp[h]
 ·rw[if_neg (by omega),if_pos (by omega)]
  have:((j:Int)-(xs.length:Int)+(xs.length:Int)).toNat=j:=by omega
  simp[this,h]
theorem WK (xs:List D)(k:Nat):cutD xs none (some (k:Int))=xs.take k:=by
 unfold cutD
 rw[HT.sIx_none,HT.sIx_nat,Nat.sub_zero,List.drop_zero]
 rcases jA k xs.length with h|h
 ·rw[gI h]
 ·rw[gd h,cz (aE _),cz h]
theorem O3 (xs:List D)(k:Nat):cutD xs (some (k:Int)) none=xs.drop k:=by
 unfold cutD
 rw[HT.sIx_none,HT.sIx_nat]
 rcases jA k xs.length with h|h
 ·rw[gI h,cz (by rw[dP]; omega)]
 ·rw[gd h,eh (aE _),eh h]
  simp
theorem Xm (xs:List D)(k l:Nat):cutD xs (some (k:Int)) (some (l:Int))=(xs.drop k).take (l-k):=by
 unfold cutD
 rw[HT.sIx_nat,HT.sIx_nat]
 rcases jA k xs.length with h|h
 ·rw[gI h]
  rcases jA l xs.length with g|g
  ·rw[gI g]
  ·rw[gd g,cz (by rw[dP]; omega),cz (by rw[dP]; omega)]
 ·rw[gd h,eh (aE _),eh h]
  simp
theorem Xn {i j:Int}{n m:Nat}(h:Sz n i)(h':Sz m j)(hn:n<=100000)(hm:m<=100000):iH i j:=.inr (.inr ⟨h.mono hn,h'.mono hm⟩)
theorem B6 {i j:Int}{n m:Nat}(h:Sz n i)(h':Sz m j)(hn:n<=100000)(hm:m<=100000):cE (.int i) (.int j)=some (.int (i * j)):=by
 have:=Xn h h' hn hm
 simp[cE,oN,this]
theorem O4 {α:Type}{g:D->Env->Option Env}{p:BF}{f:EF}{ρ0:Env}(enc:α->D)(q:α->Bool)(h:α->D):∀(xs:List α),(∀x∈xs,∃ρ1,g (enc x) ρ0=some ρ1/\p ρ1=some (q x)/\(q x=true->f ρ1=some (h x)))->kL g p f ρ0 (xs.map enc)=some ((xs.filter q).map h)
 |[],_=>rfl
 |x::xs,H=>by
  obtain⟨ρ1,h1,h2,h3⟩:=H x aa
  have ih:=O4 enc q h xs λy hy=>H y (ai _ hy)
  show(g (enc x) ρ0).bind _=_
  rw[h1]
  show(p ρ1).bind _=_
  rw[h2]
  cases hq:q x with
  |false =>
   rw[bL,if_neg aH,lM (by rw[hq]; exact aH)]
   exact ih
  |true =>
   rw[bL,if_pos rfl,h3 hq,lN hq]
   show(kL g p f ρ0 (xs.map enc)).bind _=_
   rw[ih]
   rfl
end L3
namespace L3
open PySem PySem.Spec L2
structure EncD (α:Type)[DecidableEq α] where
 enc:α->D
 py:α->PyData
 dep:Nat
 is:∀x,(enc x).py=some (py x)
 lay:∀x,(py x).canLay0=true
 dp:∀x,(py x).depth<=dep
 eqv:∀x y,PyData.eqv (py x) (py y)=decide (x=y)
section
variable {α β γ δ ε:Type}[DecidableEq α][DecidableEq β][DecidableEq γ][DecidableEq δ][DecidableEq ε]
theorem EncD.eq (E:EncD α)(h:E.dep<=60){neg:Bool}(x y:α):iE neg (E.enc x) (E.enc y)=some (.bl (if neg then !decide (x=y)else decide (x=y))):=by
 have h1:lE (E.py x)=true:=by unfold lE; rw[E.lay x,decide_eq_true (bG (E.dp x) h)]; rfl
 have h2:lE (E.py y)=true:=by unfold lE; rw[E.lay y,decide_eq_true (bG (E.dp y) h)]; rfl
 unfold iE
 rw[E.is x,E.is y]
 simp only[bL]
 rw[if_pos ⟨h1,h2⟩,E.eqv]
def Ei:EncD Int:=⟨.int,.int,0,λ_=>by simp[D.py],λ_=>rfl,λ_=>by simp[PyData.depth],λx y=>by show(x == y)=_; by_cases h:x=y <;> simp[h]⟩
def Eb:EncD Bool:=⟨.bl,.bool,0,λ_=>by simp[D.py],λ_=>rfl,λ_=>by simp[PyData.depth],λx y=>by cases x <;> cases y <;> rfl⟩
theorem Qr (E:EncD α):∀xs:List α,D.pys (xs.map E.enc)=some (xs.map E.py)
 |[]=>by simp[D.pys]
 |x::xs=>by simp[D.pys,E.is x,Qr E xs]
theorem OW (E:EncD α):∀xs:List α,PyData.canLayAll0 (xs.map E.py)=true
 |[]=>by simp[PyData.canLayAll0]
 |x::xs=>by simp[PyData.canLayAll0,E.lay x,OW E xs]
theorem OX (E:EncD α):∀xs:List α,PyData.depthAll (xs.map E.py)<=E.dep
 |[]=>by simp[PyData.depthAll]
 |x::xs=>by
  have:=OX E xs
  have:=E.dp x
  simp only[aC,PyData.depthAll]
  omega
theorem OY (E:EncD α):∀xs ys:List α,PyData.eqvAll (xs.map E.py) (ys.map E.py)=decide (xs=ys)
 |[],[]=>by simp[PyData.eqvAll]
 |[],_::_=>by simp[PyData.eqvAll]
 |_::_,[]=>by simp[PyData.eqvAll]
 |x::xs,y::ys=>by
  simp only[aC,PyData.eqvAll,E.eqv,OY E xs ys]
  by_cases h:x=y <;> by_cases g:xs=ys <;> simp[h,g]
def El (E:EncD α):EncD (List α):=⟨λxs=>.lst (xs.map E.enc),λxs=>.list (xs.map E.py),E.dep+1,λxs=>by simp[D.py,Qr],λxs=>by simp[PyData.canLay0,OW],λxs=>by have:=OX E xs; simp only[PyData.depth]; omega,λxs ys=>by simp only[PyData.eqv,OY]⟩
def E2 (A:EncD α)(B:EncD β):EncD (α×β):=⟨λp=>.tup [A.enc p.1,B.enc p.2],λp=>.tuple [A.py p.1,B.py p.2],max A.dep B.dep+1,λp=>by simp[D.py,D.pys,A.is,B.is],λp=>by simp[PyData.canLay0,PyData.canLayAll0,A.lay,B.lay],
 λp=>by have:=A.dp p.1; have:=B.dp p.2; simp only[PyData.depth,PyData.depthAll]; omega,λp q=>by
  simp only[PyData.eqv,PyData.eqvAll,A.eqv,B.eqv]
  obtain⟨a,b⟩:=p
  obtain⟨c,d⟩:=q
  by_cases h:a=c <;> by_cases g:b=d <;> simp[h,g]⟩
end
theorem zp2 {neg:Bool}(a b:Int):iE neg (.int a) (.int b)=some (.bl (if neg then !decide (a=b)else decide (a=b))):=Ei.eq (by decide) a b
theorem zso {neg:Bool}(a b:Bool):iE neg (.bl a) (.bl b)=some (.bl (if neg then !decide (a=b)else decide (a=b))):=Eb.eq (by decide) a b
end L3
namespace L3
open PySem PySem.Spec L2
open PyProof.Rows hiding St
section
variable {X:Cx}{ct:Nat->Addr}{K:ae}{n m k:Nat}
theorem IntsAre.of {ns:List Int}{us:List Value}(h:bA (ns.map V.int) us):IntsAre us ns:=V1 h
theorem LR (hc:X.calm=true):dB X (.builtin "sum") (λxs H Q=>∃(a:Addr) (ns:List Int),xs=[.ref a]/\d5 X.K H a (ns.map V.int)/\Q (.int ns.sum) H):=by
 intro pins s σ H xs us Q I r h
 obtain⟨a,ns,rfl,hq,q⟩:=h
 obtain⟨u,rfl,ru⟩:=r.one
 cases(show u=Value.ref a from ru)
 obtain⟨its,rv,pl,hz⟩:=I.list hq
 have hi:=IntsAre.of rv
 obtain⟨ys,hx⟩:=hi.allInts.items
 have CT:s.heap.IsList a (intItems ys):=hx ▸ pl.isList
 refine sum_intListG (I.ok.hd hc) CT λh' tk t' hk=>?_
 have e1:ns=ys.toList.map (·.1):=by
  rw[← nums_intItems,← hx]
  exact(show numsOf its.toArray.toList=ns from hi.numsOf).symm
 have e2:preSum (numAt ys) ys.size=ns.sum:=by
  rw[preSum_eq,cz (by simp),e1]
 rw[e2]
 exact⟨.int ns.sum,H,I.kept (t':=tk) hk,⟨_,rfl⟩,q⟩
theorem WL (hc:X.calm=true):dB X (.builtin "max") (λxs H Q=>∃(a:Addr) (ns:List Int),xs=[.ref a]/\d5 X.K H a (ns.map V.int)/\ns≠[]/\∀M,M∈ns->(∀z∈ns,z<=M)->Q (.int M) H):=by
 intro pins s σ H xs us Q I r h
 obtain⟨a,ns,rfl,hq,kq,q⟩:=h
 obtain⟨u,rfl,ru⟩:=r.one
 cases(show u=Value.ref a from ru)
 obtain⟨its,rv,pl,hz⟩:=I.list hq
 have hi:=IntsAre.of rv
 obtain⟨ys,e⟩:=hi.allInts.items
 have gB:ns=ys.toList.map (·.1):=by rw[← hi.numsOf,← nums_intItems,← e]
 have hsz:0<ys.size:=by
  have h3:0<ns.length:=nq.mpr kq
  rw[gB,am,cu]at h3; exact h3
 have CT:s.heap.IsList a (intItems ys):=e ▸ pl.isList
 refine max_intList (I.ok.hd hc) CT hsz λv h' tk hv hk=>?_
 obtain⟨t,rfl⟩:=intItems_at hv
 obtain⟨h1,h2⟩:=argBest_gt (numAt ys) (ys.size-1)
 refine⟨.int (numAt ys (argBest (λi j=>decide (numAt ys i > numAt ys j)) (ys.size-1))),H,I.kept (t':=tk) hk,⟨_,rfl⟩,q _ ?_ λz hz=>?_⟩
 ·rw[gB,numAt_eq]; exact getD_mem (by rw[am,cu]; omega)
 ·rw[gB]at hz
  obtain⟨j,hj,rfl⟩:=mem_getD hz
  rw[am,cu]at hj
  rw[← numAt_eq]; exact h2 j (by omega)
theorem O5:∀{bs:List Bool} {us:List Value},bA (bs.map V.bl) us->us=bs.map Value.bool
 |[],_,.nil=>rfl
 |b::bs,_,.cons r t=>by rw[O5 t]; cases(show _=Value.bool b from r); rfl
theorem WM (hc:X.calm=true):dB X (.builtin "all") (λxs H Q=>∃(a:Addr) (bs:List Bool),xs=[.ref a]/\d5 X.K H a (bs.map V.bl)/\Q (.bl (bs.all id)) H):=by
 intro pins s σ H xs us Q I r h
 obtain⟨a,bs,rfl,hq,q⟩:=h
 obtain⟨u,rfl,ru⟩:=r.one
 cases(show u=Value.ref a from ru)
 obtain⟨its,rv,pl,hz⟩:=I.list hq
 have hb:=O5 rv
 subst hb
 have hl:=pl.isList
 have gY:a<s.heap.objs.size:=by obtain⟨_,e,_⟩:=hl; exact aF e
 refine PySem.call_all_walk (wpAny_pyIter_list hl ?_)
 refine⟨s.heap.objs.size,[s.heap.objs.size,a],[s.heap.objs.size],(bs.map Value.bool).toArray.size,_,_,λi=>(bs[i]?).getD true,rfl,Walks.list (A:=X.A.in1) (I.ok.hd hc) _ a (aV gY) (bs.map Value.bool).toArray,
  ⟨⟨_,bn _ rfl,rfl,rfl⟩,hl.push _⟩,λi v s' Q' E' hP hQ=>?_,λh' tk hk=>?_⟩
 ·have hP:(bs.map Value.bool)[i]?=some v:=by simpa using hP
  rw[aP]at hP
  obtain⟨b,hb,rfl⟩:=cx.mp hP
  simp only[hb,nU]at hQ
  exact wpAny_truthy_bool hQ
 ·have e:((aB (bs.map Value.bool).toArray.size).all λi=>(bs[i]?).getD true)=bs.all id:=by
   rw[aD,am]; exact PyProof.Rows.LSm.range_all bs
  rw[e]
  refine⟨.bl (bs.all id),H,I.kept (t':=tk) λb o HX=>hk b o (λhm=>?_) (ay _ HX),rfl,q⟩
  rw[ar.mp hm]at HX
  exact cW _ (aF HX)
theorem Vw:dB X (.builtin "sorted") (λxs H Q=>∃(a:Addr) (ns:List Int),xs=[.ref a]/\d5 X.K H a (ns.map V.int)/\ns.length<64/\∀lW:List Int,lW.Perm ns->lW.Pairwise (·<=·)->∀p,H p=none->Q (.ref p) (cC H p (.lst (lW.map V.int)))):=by
 intro pins s σ H xs us Q I r h
 obtain⟨a,ns,rfl,hq,h64,q⟩:=h
 obtain⟨u,rfl,ru⟩:=r.one
 cases(show u=Value.ref a from ru)
 obtain⟨its,rv,pl,hz⟩:=I.list hq
 have hi:=IntsAre.of rv
 have dI:its.length=ns.length:=by rw[← rv.length,am]
 refine sorted_ints pl.isList hi (by omega) λout lW a1 a2 a3=>?_
 obtain⟨e,he⟩:=sortedAll_at s.heap its out
 have si:lW.length<=sizeLine:=by
  rw[a2.length_eq,← am (f:=V.int)]; exact hz
 refine⟨.ref _,_,I.laid (a:=s.heap.objs.size+1) (o:=.lst (lW.map V.int)) (t':=s.toks) (λb u=>sortedAll_old) (fO _) ?_,rfl,q lW a2 a3 _ (I.hok.fresh (fO _))⟩
 exact⟨by rw[am]; exact si,out.toList,e,LP a1,by simpa[seqObj]using he⟩
def dW:List D->Option (List Int)
 |[]=>some []
 |.int i::ds=>(dW ds).bind λns=>some (i::ns)
 |_=>none
theorem OZ:∀{ds:List D} {ns:List Int},dW ds=some ns->ds=ns.map .int
 |[],_,e=>by cases e; rfl
 |d::ds,ns,e=>by
  cases d with
  |int i =>
   obtain⟨ms,h1,h2⟩:=bind1 (show(dW ds).bind _=_ from e)
   cases h2
   rw[OZ h1]; rfl
  |_=>cases e
theorem LS:∀ns:List Int,dW (ns.map .int)=some ns
 |[]=>rfl
 |n::ns=>by show(dW (ns.map .int)).bind _=_; rw[LS ns]; rfl
theorem Pr.intV {F G:Hp}:∀{ns:List Int} {vs:List V},Pr (Al K ct F G n) (ns.map .int) vs->vs=ns.map V.int
 |[],_,.nil=>rfl
 |i::ns,_,.cons h t=>by rw[Pr.intV t,h.int]; rfl
def kd:List D->Option (List Bool)
 |[]=>some []
 |.bl i::ds=>(kd ds).bind λns=>some (i::ns)
 |_=>none
theorem OR:∀{ds:List D} {ns:List Bool},kd ds=some ns->ds=ns.map .bl
 |[],_,e=>by cases e; rfl
 |d::ds,ns,e=>by
  cases d with
  |bl i =>
   obtain⟨ms,h1,h2⟩:=bind1 (show(kd ds).bind _=_ from e)
   cases h2
   rw[OR h1]; rfl
  |_=>cases e
theorem Pr.blV {F G:Hp}:∀{ns:List Bool} {vs:List V},Pr (Al K ct F G n) (ns.map .bl) vs->vs=ns.map V.bl
 |[],_,.nil=>rfl
 |i::ns,_,.cons h t=>by rw[Pr.blV t,h.bl]; rfl
def Dp:List Int->Option Int
 |[]=>none
 |x::xs=>some (xs.foldl max x)
theorem O6:∀(xs:List Int) (x:Int),(xs.foldl max x=x\/xs.foldl max x∈xs)/\x<=xs.foldl max x/\∀z∈xs,z<=xs.foldl max x
 |[],x=>⟨.inl rfl,dO _,λz h=>by cases h⟩
 |y::xs,x=>by
  obtain⟨h1,h2,h3⟩:=O6 xs (max x y)
  refine⟨?_,by show x<=xs.foldl max (max x y); omega,λz hz=>?_⟩
  ·rcases h1 with h1|h1
   ·show xs.foldl max (max x y)=x\/xs.foldl max (max x y)∈y::xs
    rw[h1]
    rcases Int.le_total x y with h|h
    ·rw[Int.max_eq_right h]; exact .inr aa
    ·rw[Int.max_eq_left h]; exact .inl rfl
   ·exact .inr (ai _ h1)
  ·rcases aA.mp hz with rfl|hz
   ·show z<=xs.foldl max (max x z); omega
   ·exact h3 z hz
theorem PB {ns:List Int}{M:Int}(h:Dp ns=some M):M∈ns/\∀z∈ns,z<=M:=by
 cases ns with
 |nil=>cases h
 |cons x xs =>
  cases h
  obtain⟨h1,h2,h3⟩:=O6 xs x
  refine⟨?_,λz hz=>?_⟩
  ·rcases h1 with h1|h1
   ·rw[h1]; exact aa
   ·exact ai _ h1
  ·rcases aA.mp hz with rfl|hz
   ·exact h2
   ·exact h3 z hz
def pR:List D->Option D
 |[.lst ds]=>(dW ds).bind λns=>some (.int ns.sum)
 |_=>none
def AB:List D->Option D
 |[.lst ds]=>(dW ds).bind λns=>(Dp ns).bind λM=>some (.int M)
 |_=>none
def Cz:List D->Option D
 |[.lst ds]=>(kd ds).bind λbs=>some (.bl (bs.all id))
 |_=>none
def insI (x:Int):List Int->List Int
 |[]=>[x]
 |y::ys=>if x<=y then x::y::ys else y::insI x ys
def sortI:List Int->List Int
 |[]=>[]
 |x::xs=>insI x (sortI xs)
theorem LU (x:Int):∀ys,(insI x ys).Perm (x::ys)
 |[]=>.refl _
 |y::ys=>by
  unfold insI
  by_cases h:x<=y
  ·rw[if_pos h]
  ·rw[if_neg h]
   exact((LU x ys).cons y).trans (.swap x y ys)
theorem j7:∀xs,(sortI xs).Perm xs
 |[]=>.refl _
 |x::xs=>(LU x _).trans ((j7 xs).cons x)
theorem OI (x:Int):∀{ys:List Int},ys.Pairwise (·<=·)->(insI x ys).Pairwise (·<=·)
 |[],_=>List.pairwise_singleton _ _
 |y::ys,h=>by
  obtain⟨h1,h2⟩:=dX.mp h
  unfold insI
  by_cases hx:x<=y
  ·rw[if_pos hx]
   exact dX.mpr ⟨λz hz=>by
    rcases aA.mp hz with rfl|hz
    ·exact hx
    ·exact i6 hx (h1 z hz),h⟩
  ·rw[if_neg hx]
   refine dX.mpr ⟨λz hz=>?_,OI x h2⟩
   have:=(LU x ys).mem_iff.mp hz
   rcases aA.mp this with rfl|hz
   ·omega
   ·exact h1 z hz
theorem jb:∀xs,(sortI xs).Pairwise (·<=·)
 |[]=>eJ.nil
 |x::xs=>OI x (jb xs)
theorem qh:∀{xs ys:List Int},xs.Perm ys->xs.Pairwise (·<=·)->ys.Pairwise (·<=·)->xs=ys
 |[],ys,p,_,_=>(p.nil_eq).symm ▸ rfl
 |x::xs,[],p,_,_=>absurd p.symm.nil_eq (by simp)
 |x::xs,y::ys,p,hx,hy=>by
  obtain⟨h1,h2⟩:=dX.mp hx
  obtain⟨h3,h4⟩:=dX.mp hy
  have e:x=y:=by
   have a:=p.mem_iff.mp (aa:x∈x::xs)
   have b:=p.mem_iff.mpr (aa:y∈y::ys)
   have a':y<=x:=by
    rcases aA.mp a with rfl|a
    ·exact dO _
    ·exact h3 x a
   have b':x<=y:=by
    rcases aA.mp b with rfl|b
    ·exact dO _
    ·exact h1 y b
   omega
  subst e
  rw[qh ((List.perm_cons x).mp p) h2 h4]
def km:List D->Option D
 |[.lst ds]=>(dW ds).bind λns=>if ns.length<64 then some (.lst ((sortI ns).map .int))else none
 |_=>none
theorem Mc {F H:Hp}{vs:List V}{ds:List D}{ns:List Int}(s:bw F H)(l:gu K ct F H [n] [.lst ds] vs)(e:dW ds=some ns):∃a,vs=[.ref a]/\d5 K H a (ns.map V.int):=by
 cases l with
 |cons h t =>
  cases t
  obtain⟨a,us,rfl,ha,hp⟩:=h.lst s
  have:=OZ e
  subst this
  have:=hp.intV
  subst this
  exact⟨a,rfl,ha⟩
theorem Mu:tq K ct [n] k (λxs H Q=>∃(a:Addr) (ns:List Int),xs=[.ref a]/\d5 K H a (ns.map V.int)/\Q (.int ns.sum) H) pR:=by
 intro F H vs ds d Q s l e w
 match ds,l,e with
 |[.lst xs],l,e =>
  obtain⟨ns,h1,h2⟩:=bind1 (show(dW xs).bind _=_ from e)
  cases h2
  obtain⟨a,rfl,ha⟩:=Mc s l h1
  exact⟨a,ns,rfl,ha,w _ F H (.refl s) (Al.of (.int _))⟩
theorem Ym:tq K ct [n] k (λxs H Q=>∃(a:Addr) (ns:List Int),xs=[.ref a]/\d5 K H a (ns.map V.int)/\ns≠[]/\∀M,M∈ns->(∀z∈ns,z<=M)->Q (.int M) H) AB:=by
 intro F H vs ds d Q s l e w
 match ds,l,e with
 |[.lst xs],l,e =>
  obtain⟨ns,h1,h2⟩:=bind1 (show(dW xs).bind _=_ from e)
  obtain⟨M,h3,h4⟩:=bind1 h2
  cases h4
  obtain⟨a,rfl,ha⟩:=Mc s l h1
  obtain⟨m1,m2⟩:=PB h3
  refine⟨a,ns,rfl,ha,(λz=>by rw[z]at m1; cases m1),λM' h5 h6=>?_⟩
  have:M'=M:=Int.le_antisymm (m2 M' h5) (h6 M m1)
  subst this
  exact w _ F H (.refl s) (Al.of (.int _))
theorem Yn:tq K ct [n] k (λxs H Q=>∃(a:Addr) (bs:List Bool),xs=[.ref a]/\d5 K H a (bs.map V.bl)/\Q (.bl (bs.all id)) H) Cz:=by
 intro F H vs ds d Q s l e w
 match ds,l,e with
 |[.lst xs],l,e =>
  obtain⟨bs,h1,h2⟩:=bind1 (show(kd xs).bind _=_ from e)
  cases h2
  cases l with
  |cons h t =>
   cases t
   obtain⟨a,us,rfl,ha,hp⟩:=h.lst s
   have:=OR h1
   subst this
   have:=hp.blV
   subst this
   exact⟨a,bs,rfl,ha,w _ F H (.refl s) (Al.of (.bl _))⟩
theorem Pr.ofInts {F H:Hp}:∀ns:List Int,Pr (Al K ct F H 0) (ns.map .int) (ns.map V.int)
 |[]=>.nil
 |n::ns=>.cons (show Dt K ct F (.int n) (.int n)from .int n) (Pr.ofInts ns)
theorem Xo:oY K ct [n] 1 (λxs H Q=>∃(a:Addr) (ns:List Int),xs=[.ref a]/\d5 K H a (ns.map V.int)/\ns.length<64/\∀lW:List Int,lW.Perm ns->lW.Pairwise (·<=·)->∀p,H p=none->Q (.ref p) (cC H p (.lst (lW.map V.int)))) km:=by
 intro F H vs ds d Q s l e w
 match ds,l,e with
 |[.lst xs],l,e =>
  obtain⟨ns,h1,h2⟩:=bind1 (show(dW xs).bind _=_ from e)
  by_cases hz:ns.length<64
  ·rw[if_pos hz]at h2
   cases h2
   obtain⟨a,rfl,ha⟩:=Mc s l h1
   refine⟨a,ns,rfl,ha,hz,λlW p1 p2=>?_⟩
   have:lW=sortI ns:=qh (p1.trans (j7 ns).symm) p2 (jb ns)
   subst this
   exact qf s (Pr.ofInts _) w
  ·rw[if_neg hz]at h2; cases h2
end
end L3
namespace L3
open PySem PySem.Spec L2
open PyProof.Rows hiding St
def jI (H:Hp)(x:Addr):Hp:=λb=>if b=x then none else H b
theorem Gh (H:Hp)(x:Addr):bw (jI H x) H:=λb o h=>by
 unfold jI at h
 by_cases e:b=x
 ·rw[if_pos e]at h; cases h
 ·rw[if_neg e]at h; exact h
theorem GH (H:Hp)(x:Addr):jI H x x=none:=if_pos rfl
theorem jo {H:Hp}{x b:Addr}(h:b≠x):jI H x b=H b:=if_neg h
def oW (K:ae)(ct:Nat->Addr)(cs:List Nat)(pm:List Nat)(mi:Nat->List D->Option D):Sp:=λvs H Q _=>∃(F:Hp) (c:Nat) (ds:List D) (d:D) (x dx:Addr) (us:List V),c∈cs/\vs=.ref x::us/\H x=some (.ins (ct c) dx [])/\F x=none/\bw F H/\gu K ct F (jI H x) pm ds us/\mi c ds=some d /\
 ∀F' H',bw F F'->bw (jI H x) H'->bw F' H'->(∀a o,jI H x a=some o->F a=none->F' a=none)->F' x=none->Ow K ct F' H' 1 d (.ref x) [x]->Q .non H'
theorem oW.len {K:ae}{ct:Nat->Addr}{cs pm:List Nat}{mi:Nat->List D->Option D}{ps:List Str}(h:pm.length+1=ps.length):∀vs H Q E,oW K ct cs pm mi vs H Q E->vs.length=ps.length:=by
 rintro vs H Q E ⟨F,c,ds,d,x,dx,us,_,rfl,_,_,_,l,_⟩
 rw[aJ,l.length,h]
def zN (N:List Str)(b:SF)(c:Nat)(ds:List D):Option D:=(b (some (.obj c [] [])::startD N.tail ds)).bind λo=>match o with
 |.nx ρ=>(ρ[0]?).join
 |_=>none
section
variable {X:Cx}{ct:Nat->Addr}{ms:List Mo}{rk n m k:Nat}{a b c e tg:Expr}{f g h:EF}{u w:SF}{pos:Pos}
theorem D3 {P:Program}{w:World}{K:ae}{mg:Str->Option Value}{base:Heap}{x qual:Str}{st:Stmt}{fa:Addr}{fd:FuncData}{N0:Str}{N ps:List Str}{kk:Nat}{cs pm:List Nat}{bf:SF}(Fn:Fun2 K x qual st fa fd)(S:aW (N0::N) ps (ah st))(C3:pm.length+1=ps.length)(NL:ms.length=N.length)(sj:pm.length<=N.length)
  (Iq:∀(i n:Nat),pm[i]?=some n->ms[i]?=some (Mo.al n)\/(n=0/\ms[i]?=some (Mo.ow 0)))
  (body:∀(x:Addr) (df:Value) (A:Around) (outer:List PySem.Env) (s:Shared) (H:Hp) (E:XK),dz kk (A.deeper (envOfC qual (ah st) s.heap.objs.size fa df))->oI (li dR P w K mg base (N0::N) qual (ah st) fa df A outer s H E).nox ct (.so x::ms) rk (aj st) bf) :
  bM P w K mg base dR (kk+1) fa fd ps (oW K ct cs pm (zN (N0::N) bf)):=by
 refine Fn.ok S (oW.len C3) λdf A outer s H vs Q E hr h=>?_
 obtain⟨F,c,ds,d,x,dx,us,hc,rfl,hx,hF,sF,l,hm,q⟩:=h
 obtain⟨t,pt,qt⟩:=body x df A outer s H E hr
 refine⟨t,pt,?_⟩
 obtain⟨o,h1,h2⟩:=bind1 hm
 have lT:ds.length=us.length:=l.length'
 have NR:us.length=pm.length:=l.length
 have ow:Ow K ct F H 1 (.obj c [] []) (.ref x) [x]:=.inr (qR.obj (vs:=[]) hF hx rfl .nil)
 have UF:bw F (jI H x):=λb o hb=>by
  rw[jo (λe=>by rw[e,hF]at hb; cases hb)]
  exact sF _ _ hb
 refine qt F (jI H x) F H (some (.obj c [] [])::startD N ds) (L2.start (N0::N) (.ref x::us)) o _ ⟨.refl _,Gh H x,sF,λ_ _ _ h=>h,[x],?_,by simp,λa z=>by rw[ar]at z; subst z; exact GH H _⟩ h1 ?_
 ·have e:L2.start (N0::N) (.ref x::us)=some (.ref x)::(us.map some++ak (N.length-us.length) none):=by
   unfold L2.start
   simp
  rw[e]
  unfold startD
  rw[lT]
  exact SL.so (fp:=[]) ow (SL.start _ l Iq (by omega))
 ·cases o with
  |nx ρ =>
   intro σ F' H' r
   obtain⟨fp,sl,nd,hb⟩:=r.sl
   cases sl with
   |no _=>cases h2
   |so BU _ =>
    cases h2
    exact q F' H' r.f0 r.bh r.fh r.nf (BU.cells x aa).1 BU
  |rt d'=>cases h2
  |bk ρ=>cases h2
  |ct ρ=>cases h2
end
end L3
namespace L3
open PySem PySem.Spec L2
open PyProof.Rows hiding St
theorem PR {f:Str}{y:V}:∀{ns:List Str} {vs:List V},ns.length=vs.length->ns.contains f=false->gC f y (ns.zip vs)=(ns++[f]).zip (vs++[y])
 |[],[],_,_=>rfl
 |[],_::_,h,_=>by simp at h
 |_::_,[],h,_=>by simp at h
 |n::ns,v::vs,h,hc=>by
  rw[nL,mG]at hc
  have hn:¬n=f:=λe=>by rw[e]at hc; simp at hc
  have ih:=PR (f:=f) (y:=y) (ns:=ns) (vs:=vs) (by simpa using h) hc.2
  show gC f y ((n,v)::ns.zip vs)=(n,v)::(ns++[f]).zip (vs++[y])
  rw[← ih]
  show(if n=f then _ else _)=_
  rw[if_neg hn]
theorem Ow.obj_inv {ct:Nat->Addr}{K:ae}{F H:Hp}{c k:Nat}{ns:List Str}{ds:List D}{v:V}{fp:List Addr}(h:Ow K ct F H (k+1) (.obj c ns ds) v fp):∃a dx vs fr,v=.ref a/\fp=a::fr/\F a=none/\H a=some (.ins (ct c) dx (ns.zip vs))/\ns.length=vs.length/\OwL (Ow K ct F H k) ds vs fr:=by
 rcases h with⟨h,_⟩|h
 ·cases h
 ·cases h with
  |obj h1 h2 h3 h4=>exact⟨_,_,_,_,rfl,rfl,h1,h2,h3,h4⟩
section
variable {X:Cx}{ct:Nat->Addr}{ms:List Mo}{rk n m k:Nat}{a b c e tg:Expr}{f g h:EF}{u w:SF}{pos:Pos}{x0:Addr}
def iI (cs:List Nat)(x:Str)(f:EF):SF:=λρ=>(f ρ).bind λd=>(eV 0 ρ).bind λo=>match o with
 |.obj c ns ds=>if cs.contains c=true/\ns.contains x=false/\ns.length<900 then some (.nx (ρ.set 0 (some (.obj c (ns++[x]) (ds++[d])))))else none
 |_=>none
theorem RS.self {K:ae}{F0 B F H F' H':Hp}{ρ:Env}{σ:St}{d:D}(rs:RS K ct F0 B (.so x0::ms) F H ρ σ)(hd:ρ[0]?=some (some d)):σ[0]?=some (some (.ref x0))/\Ow K ct F H 1 d (.ref x0) [x0]/\B x0=none /\
  ∀(F' H':Hp) (d':D),bw F F'->bw B H'->bw F' H'->(∀a o,B a=some o->F0 a=none->F' a=none)->(∀a o,H a=some o->a≠x0->H' a=some o)->(∀a o,H a=some o->a≠x0->F a=none->F' a=none)->Ow K ct F' H' 1 d' (.ref x0) [x0]->RS K ct F0 B (.so x0::ms) F' H' (ρ.set 0 (some d')) σ:=by
 obtain⟨fp,sl,nd,hb⟩:=rs.sl
 cases sl with
 |no _=>simp at hd
 |so ow t =>
  simp at hd
  subst hd
  refine⟨rfl,ow,hb _ aa,λF' H' d' s1 s2 s3 s4 k1 k2 o'=>⟨rs.f0.trans s1,s2,s3,s4,_,.so o' (t.frame s1 λa z=>?_),nd,hb⟩⟩
  obtain⟨hn,o,ho⟩:=t.cells a z
  have ne:a≠x0:=λe=>(bi.mp nd).1 (by rw[← e]; exact z)
  exact⟨(k1 a o ho ne).trans ho.symm,k2 a o ho ne hn⟩
theorem Ce {x s:Str}{cs:List Nat}{p1 pos':Pos}(hc:∀c∈cs,iQ X.K (ct c)/\d8 X.K (ct c) x)(he:XE X ct (.so x0::ms) 0 e f)(hN:X.N[0]?=some s:=by rfl)(hv:lP X.env.scope s:=by first|exact Or.inl rfl|exact Or.inr (Or.inl rfl)|exact Or.inr (Or.inr rfl))(hd:(s == ("__debug__":Str))=false:=by decide)
  (gA:(s == ("__classdict__":Str))=false:=by decide) (hs:swapsWith e (some (.Attribute (.Name s p1) x pos')) pos.line X.env=pure false:=by rfl):XS X ct (.so x0::ms) rk (.Assign [.Attribute (.Name s p1) x pos'] e pos) (iI cs x f):=by
 obtain⟨t,pt,qt⟩:=he
 refine⟨_,Zm (jl hN hv hd gA) pt hs,λF0 B F H ρ σ o E rs e z=>?_⟩
 obtain⟨d,h1,h2⟩:=bind1 e
 obtain⟨ob,h3,h4⟩:=bind1 h2
 refine qt F0 B F H ρ σ d _ rs h1 λy F1 H1 x1 l=>?_
 have hE:=rs.ext x1
 obtain⟨hσ,ow,hB,put⟩:=hE.self (F':=F) (H':=H) (ye h3)
 refine⟨_,hσ,?_⟩
 cases ob with
 |obj c ns ds =>
  dsimp only at h4
  by_cases hz:cs.contains c=true/\ns.contains x=false/\ns.length<900
  ·rw[if_pos hz]at h4
   cases h4
   obtain⟨a,dx,vs,fr,e1,e2,hF,hH,hl,ol⟩:=ow.obj_inv
   cases e1
   cases e2
   have hh:=hc c (by simpa using hz.1)
   refine⟨x0,_,dx,_,rfl,hH,hh.1,hh.2,by rw[dr,← hl,e9]; omega,?_⟩
   rw[PR hl hz.2.1]
   refine z σ F1 _ (put F1 _ _ (.refl _) (λb o h=>?_) (λb o h=>?_) hE.nf (λb o h ne=>by rw[yp ne]; exact h) (λb o h ne hn=>hn) (.inr (qR.obj (vs:=vs++[y]) hF yu (by simp[hl]) ?_)))
   ·rw[yp (λe=>by rw[e,hB]at h; cases h)]; exact hE.bh _ _ h
   ·rw[yp (λe=>by rw[e,hF]at h; cases h)]; exact hE.fh _ _ h
   ·have o1:OwL (Ow X.K ct F1 (cC H1 x0 (.ins (ct c) dx ((ns++[x]).zip (vs++[y])))) 0) ds vs []:=ol.mono λ_ _ _ _ q=>⟨q.1,q.2⟩
    have:=o1.append (OwL.cons (f:=[]) (g:=[]) (R:=Ow X.K ct F1 (cC H1 x0 (.ins (ct c) dx ((ns++[x]).zip (vs++[y])))) 0) ⟨l,rfl⟩ .nil)
    exact this
  ·rw[if_neg hz]at h4; cases h4
 |_=>cases h4
variable {kk:Nat}{fa:Addr}{fd:FuncData}{ps:List Str}{pm cs:List Nat}{mi:Nat->List D->Option D}{x:Str}{pp:Pos}
theorem GB {c0:Nat}{es:List Expr}{ns nd:List Nat}{fs:Env->Option (List D)}{gz:List V}{cU:List D}{kM:List Value}(M:Mk X.K (ct c0) fa)(zC:c0∈cs)(Fn:bM X.prog X.w X.K X.mg X.base dR kk fa fd ps (oW X.K ct cs (ns++nd) mi))(hr:dz (kk+1) X.A)(hg:Gl X x)(hm:X.mg x=some (.ref (ct c0)))
  (hb:Binds X.K fd ps kM) (hd:bA gz kM) (zE:∀F G,gu X.K ct F G nd cU gz) (ha:XA X ct ms (e::es) ns fs)
  (jQ:(x == ("__debug__":Str))=false:=by decide) (he:starEach (e::es) X.env=(false,eval e X.env)::starEach es X.env:=by rfl) (gF:(backTo pos (starEach es X.env)).any (·.1)=false:=by rfl) :
  XO X ct ms 1 (.Call (.Name x pp) (e::es) [] pos) (λρ=>(fs ρ).bind λds=>mi c0 (ds++cU)):=by
 obtain⟨t,pt,_,qt⟩:=ha
 refine⟨_,Yd M Fn hr hg hm hb hd kS pt jQ he gF,λF0 B F H ρ σ r Q rs e w=>?_⟩
 obtain⟨ds,h1,h2⟩:=bind1 e
 refine qt F0 B F H ρ σ ds _ rs h1 λvs F1 H1 x1 l y dy hy Te kq=>?_
 have sH:bw H1 (jI (cC (cC H1 dy (.own y)) y (.ins (ct c0) dy [])) y):=λb o h=>by
  have n1:b≠y:=xu h hy
  rw[jo n1,yp n1,yp (xu h Te)]
  exact h
 have UG:bw H1 (cC (cC H1 dy (.own y)) y (.ins (ct c0) dy [])):=sH.trans (Gh _ _)
 refine⟨F1,c0,ds++cU,r,y,dy,vs++gz,zC,rfl,yu,x1.fh.free hy,x1.fh.trans UG,gu.mono (.refl _) sH (gu.append (zE F1 H1) l),h2,λF' H' s1 s2 s3 s4 hn ow=>⟨rfl,?_⟩⟩
 refine w _ F' H' [y] ⟨x1.ff.trans s1,(x1.hh.trans sH).trans s2,s3,λb o h n=>s4 b o (sH _ _ (x1.hh _ _ h)) (x1.nf b o h n)⟩ ow (by simp) λb z=>?_
 rw[ar]at z
 subst z
 exact x1.hh.free hy
theorem Xp {C:Addr}{sp:Sp}{gz:List V}{ds:List Value}{E:XK}{m:Str}{p cO:Pos}{es:List Expr}{t:TA}{pl:Sem Bool}{mc:Value}(Fn:bM X.prog X.w X.K X.mg X.base dR kk fa fd ps sp)(hr:dz kk X.A)(hg:Gl X x)(hm:X.mg x=some (.ref C))
  (h1:cM X.K (.ref C) "__getattribute__"=some (some (.builtin "type.__getattribute__"))) (h2:fW X.K C mc=true) (h3:fV X.K (.ref C) mc m=some (.val (.ref fa))) (hk:ao X.K (.ref fa)=true) (hb:Binds X.K fd ps ds) (hd:bA gz ds) (hx:gJ dR X E) (ha:PA X (e::es) t)
  (jQ:(x == ("__debug__":Str))=false:=by decide) (iR:starEach (e::es) X.env=(false,eval e X.env)::starEach es X.env:=by rfl) (gF:(backTo pos (starEach es X.env)).any (·.1)=false:=by rfl)
  (ht:eval (.Call (.Attribute (.Name x p) m cO) (e::es) [] pos) X.env=(do
   let ov ← eval (.Name x p) X.env
   standAt cO.atName
   let(f,first) ← holding [ov] (getMethod ov m pl)
   callWith pos f first (backTo pos (starEach (e::es) X.env)) (backToKw pos (keywordEach [] X.env))):=by rfl) :
  PE X (.Call (.Attribute (.Name x p) m cO) (e::es) [] pos) (tZ sp gz E t):=by
 intro pins s σ H Q I h
 refine el (pl:=pl) (Gn I hg hm ?_ jQ) ht
 refine PySem.W.method_cls I.kIn h1 (PySem.W.cls_value I.kIn h2 h3 rfl ?_)
 have I1:Inv X pins σ H { s with toks:=s.toks+1 }:=I.tok _
 refine eW (first:=[]) (h₀:=X.base) I.ok.mod.kin hk (cj (ha pos pins _ σ H _ I1 h) λus s2 ⟨vs,H2,I2,r,q2⟩=>⟨I2.kIn,?_⟩) iR gF
 exact GJ (us:=us) (vs:=vs) Fn hr hb hd hx I2 r q2
theorem gu.flat {K:ae}{F G G':Hp}:∀{ns:List Nat} {ds:List D} {vs:List V},gu K ct F G ns ds vs->ns.all (· == 0)=true->gu K ct F G' ns ds vs
 |_,_,_,.nil,_=>.nil
 |n::_,_,_,.cons h t,e=>by
  rw[cB,bq]at e
  have:n=0:=by simpa using e.1
  subst this
  exact .cons h (gu.flat t e.2)
def lG (cs:List Nat)(fs:Env->Option (List D))(mi:Nat->List D->Option D):SF:=λρ=>(eV 0 ρ).bind λo=>(fs ρ).bind λds=>match o with
 |.obj c [] []=>if cs.contains c=true then(mi c ds).bind λd=>some (.nx (ρ.set 0 (some d)))else none
 |_=>none
theorem Mh {C:Addr}{s m:Str}{p p1 dD cO:Pos}{es:List Expr}{ns:List Nat}{fs:Env->Option (List D)}{pl:Sem Bool}{mc:Value}(Fn:bM X.prog X.w X.K X.mg X.base dR kk fa fd ps (oW X.K ct cs ns mi))(hr:dz kk X.A)(hm:X.mg x=some (.ref C))
  (h1:cM X.K (.ref C) "__getattribute__"=some (some (.builtin "type.__getattribute__"))) (h2:fW X.K C mc=true) (h3:fV X.K (.ref C) mc m=some (.val (.ref fa))) (hk:ao X.K (.ref fa)=true) (hb:Binds X.K fd ps []) (hz:ns.all (· == 0)=true) (ha:XA X ct (.so x0::ms) es ns fs)
  (hg:Gl X x:=by rfl) (hN:X.N[0]?=some s:=by rfl) (hv:lP X.env.scope s:=by first|exact Or.inl rfl|exact Or.inr (Or.inl rfl)|exact Or.inr (Or.inr rfl)) (hd:(s == ("__debug__":Str))=false:=by decide)
  (gA:(s == ("__classdict__":Str))=false:=by decide) (jQ:(x == ("__debug__":Str))=false:=by decide) (iR:starEach (.Name s p1::es) X.env=(false,eval (.Name s p1) X.env)::starEach es X.env:=by rfl) (gF:(backTo dD (starEach es X.env)).any (·.1)=false:=by rfl)
  (ht:eval (.Call (.Attribute (.Name x p) m cO) (.Name s p1::es) [] dD) X.env=(do
   let ov ← eval (.Name x p) X.env
   standAt cO.atName
   let(f,first) ← holding [ov] (getMethod ov m pl)
   callWith dD f first (backTo dD (starEach (.Name s p1::es) X.env)) (backToKw dD (keywordEach [] X.env))):=by rfl)
  (su:swapsWith (.Call (.Attribute (.Name x p) m cO) (.Name s p1::es) [] dD) none pos.line X.env=pure false:=by rfl) :
  XS X ct (.so x0::ms) rk (.Expr (.Call (.Attribute (.Name x p) m cO) (.Name s p1::es) [] dD) pos) (lG cs fs mi):=by
 obtain⟨t,pt,_,qt⟩:=ha
 refine⟨_,Mn (Xp (E:=E0) Fn hr hg hm h1 h2 h3 hk hb .nil kS (v7 (jl hN hv hd gA) pt iR) jQ iR gF ht) su,λF0 B F H ρ σ o E rs e z=>?_⟩
 obtain⟨ob,ds,g1,g2,g3⟩:=cy e
 obtain⟨hσ,ow,hB,put⟩:=rs.self (F':=F) (H':=H) (ye g1)
 refine⟨_,hσ,qt F0 B F H ρ σ ds _ rs g2 λvs F1 H1 x1 l=>?_⟩
 have hE:=rs.ext x1
 obtain⟨hσ,ow,hB,put⟩:=hE.self (F':=F) (H':=H) (ye g1)
 match ob,g3,ow with
 |.obj c [] [],g3,ow =>
  dsimp only at g3
  by_cases hc:cs.contains c=true
  ·rw[if_pos hc]at g3
   obtain⟨d,g4,g5⟩:=bind1 g3
   cases g5
   obtain⟨a,dx,us,fr,e1,e2,hF,hH,hl,ol⟩:=ow.obj_inv
   cases e1
   cases e2
   refine⟨F1,c,ds,d,x0,dx,vs++[],by simpa using hc,rfl,hH,hF,x1.fh,?_,g4,λF' H' s1 s2 s3 s4 hn o'=>?_⟩
   ·rw[bC]; exact l.flat hz
   ·have sB:bw B (jI H1 x0):=λb o h=>by
     rw[jo (λe=>by rw[e,hB]at h; cases h)]
     exact hE.bh _ _ h
    exact z σ F' H' (put F' H' d s1 (sB.trans s2) s3 (λb o h n=>s4 b o (sB _ _ h) (hE.nf b o h n)) (λb o h ne=>s2 _ _ (by rw[jo ne]; exact h)) (λb o h ne m6=>s4 b o (by rw[jo ne]; exact h) m6) o')
  ·rw[if_neg hc]at g3; cases g3
end
end L3
namespace L3
open PySem PySem.Spec L2
open PyProof.Rows hiding St
structure gw (K:ae)(mg:Str->Option Value)(x:Str)(st:Stmt)(ps:List Str)(f:Addr)(fd:FuncData):Prop where
 fn:Fun2 K x x st f fd
 mgx:mg x=some (.ref f)
 bd:Binds K fd ps []
structure Dm (K:ae)(C:Addr)(m qual:Str)(st:Stmt)(ps:List Str)(f:Addr)(fd:FuncData):Prop where
 fn:Fun2 K m qual st f fd
 me:mT K C m f
 bd:Binds K fd ps []
structure Dc (K:ae)(mg:Str->Option Value)(x:Str)(C:Addr):Prop where
 cl:iQ K C
 mgx:mg x=some (.ref C)
 mks:cI K C=true
 kp:ao K (.ref C)=true
structure Dq (K:ae)(C:Addr)(m:Str)(f:Addr):Prop where
 sp:cM K (.ref C) "__getattribute__"=some (some (.builtin "type.__getattribute__"))
 rd:fW K C (.type "type")=true
 fc:fV K (.ref C) (.type "type") m=some (.val (.ref f))
theorem zy {K:ae}{x qual:Str}{st:Stmt}{f:Addr}{oc:Value}{od an:Option Addr}{AD:Array (Option Value)}{dV kV doc pm df ct:Value}(l:K.lookup f=some ⟨oc,od,.func (af x qual (ap st) (aj st) (ah st) dV kV doc pm an df ct),AD⟩)
  (c:av K df qual=true) (k:ao K (.ref f)=true):Fun2 K x qual st f (af x qual (ap st) (aj st) (ah st) dV kV doc pm an df ct):=⟨⟨oc,od,dV,kV,doc,pm,an,df,ct,AD,rfl,l,c⟩,k⟩
theorem GC {K:ae}{fd:FuncData}{ps:List Str}{ds:List Value}{T:Addr}{o:Obj}{items:Array Value}{n:Nat}(hd:fd.defaults=.ref T)(ho:K.lookup T=some o)(hs:o.data=.seq items n)
  (h:∀us:List Value,(us++ds).length=ps.length->∃k,bindArgs fd ⟨us,[]⟩=seqItems? fd.defaults >>= k/\k (some items)=pure (ps.zip (us++ds))):Binds K fd ps ds:=λs us X hl=>by
 obtain⟨k,h1,h2⟩:=h us hl
 exact PySem.W.binds_K X hd ho hs h1 h2
end L3
namespace L3
open PySem PySem.Spec L2
open PyProof.Rows hiding St
def G5 (x:Str):It:=⟨λi _=>∃c,x.cps[i]?=some c,λi H v H'=>H'=H/\∃c,x.cps[i]?=some c/\v=.str ⟨#[c]⟩,λi _=>x.cps[i]?=none⟩
theorem Xq {P:Program}{w:World}{K:ae}{tg:Expr}(x:Str)(t:Tok)(it:Addr):Turn P w K tg (G5 x) [it] it (λi h=>h.IsStrIter it (strIterType x) x t i) where
 mem:=by simp
 obj:=λi h st b hb=>by
  have e:b=it:=by simpa using hb
  subst e
  obtain⟨o,e,c,d⟩:=st
  exact⟨o,e,λv z=>by rw[d]at z; cases z⟩
 keep:=λi h h' st k=>by
  obtain⟨o,e,c,d⟩:=st
  exact⟨o,k it (by simp) o e,c,d⟩
 item:=by
  intro X hP hw hK hc i pins s σ H E I hf st hg
  subst hP hw hK
  obtain⟨c,hx⟩:=hg
  obtain⟨f0,f1,f2,f3,f4,f5⟩:=hf it (by simp)
  have fin:∀h':Heap,h'.IsStrIter it (strIterType x) x t (i+1)->eX it s.heap h'->wpAny (model X.prog X.w) X.A (letOwnedTupleGo tg (.ref it) (.str ⟨#[c]⟩ s.toks)) (λ_ s2=>∃v H',Inv X pins σ H' s2/\RelV v (.str ⟨#[c]⟩ s.toks)/\(G5 x).yld i H v H'/\s2.heap.IsStrIter it (strIterType x) x t (i+1)/\∀b∈[it],H' b=none) E { s with heap:=h',toks:=s.toks+1 }:=λh' oO sb=>by
   have I1:Inv X pins σ H { s with heap:=h',toks:=s.toks+1 }:=I.turned (t':=s.toks+1) (λb o hb e=>(sb.2 b hb).trans e) f0 f1 f3 f4 f5
   obtain⟨o,e,cc,d⟩:=id oO
   refine MZ (s:={ s with heap:=h',toks:=s.toks+1 }) e cc d ?_ ⟨.str ⟨#[c]⟩,H,I1,⟨_,rfl⟩,⟨rfl,c,hx,rfl⟩,oO,λb hb=>(hf b hb).1⟩
   unfold strIterType
   split <;> decide
  cases ha:x.cps.all (·<128)with
  |true =>
   have e:strIterType x = "str_ascii_iterator":=by unfold strIterType; rw[ha]; rfl
   rw[e]at st fin
   exact wpAny_pyNext_ascii_item st hx λh' oO sb=>⟨_,rfl,by rw[e]; exact fin h' oO sb⟩
  |false =>
   have e:strIterType x = "str_iterator":=by unfold strIterType; rw[ha]; rfl
   rw[e]at st fin
   exact wpAny_pyNext_wide_item st hx λh' oO sb=>⟨_,rfl,by rw[e]; exact fin h' oO sb⟩
 done:=by
  intro X hP hw hK hc i pins s σ H E I hf st hg
  subst hP hw hK
  obtain⟨f0,f1,f2,f3,f4,f5⟩:=hf it (by simp)
  cases ha:x.cps.all (·<128)with
  |true =>
   have e:strIterType x = "str_ascii_iterator":=by unfold strIterType; rw[ha]; rfl
   rw[e]at st
   exact wpAny_pyNext_ascii_end (I.ok.hd hc) st hg λh' eb=>⟨rfl,I.turned (t':=s.toks) (λb o hb e=>eb b o hb e) f0 f1 f3 f4 f5⟩
  |false =>
   have e:strIterType x = "str_iterator":=by unfold strIterType; rw[ha]; rfl
   rw[e]at st
   exact wpAny_pyNext_wide_end (I.ok.hd hc) st hg λh' eb=>⟨rfl,I.turned (t':=s.toks) (λb o hb e=>eb b o hb e) f0 f1 f3 f4 f5⟩
 self:=λA i s Q E st h=>by
  cases ha:x.cps.all (·<128)with
  |true =>
   have e:strIterType x = "str_ascii_iterator":=by unfold strIterType; rw[ha]; rfl
   rw[e]at st
   exact wpAny_pyIter_striter_ascii st h
  |false =>
   have e:strIterType x = "str_iterator":=by unfold strIterType; rw[ha]; rfl
   rw[e]at st
   exact wpAny_pyIter_striter_wide st h
def IG (tl:TE):TI:=λσ H R=>tl σ H λx H1=>∃z,x=.str z/\R (G5 z) H1
section
variable {X:Cx}{ct:Nat->Addr}{ms:List Mo}{rk n m k:Nat}{st:Stmt}{rest:List Stmt}{a b c e tg:Expr}{f g h:EF}{p q:BF}{u w:SF}{pos:Pos}
theorem zsp {l:Expr}{tl:TE}(hl:PE X l tl):PI X tg l (IG tl):=by
 intro pins s σ H R I h
 refine cj (hl pins s σ H _ I h) λv s1 ⟨x,H1,I1,r,z,e,q⟩=>?_
 subst e
 obtain⟨t,rfl⟩:=r
 refine wpAny_pyIter_strU ?_
 refine⟨s1.heap.objs.size,[s1.heap.objs.size],_,_,H1,rfl,I1.kept (t':=s1.toks) λb o e=>ay _ e,Xq z t _,⟨_,bn _ rfl,rfl,rfl⟩,λb hb=>?_,q⟩
 have e:b=s1.heap.objs.size:=by simpa using hb
 subst e
 exact I1.fpOk (aE _) (I1.hok.fresh (aE _))
def nh (x:Str):List D:=x.cps.toList.map λc=>.str ⟨#[c]⟩
def Nd:D->Option (List D)
 |.str x=>some (nh x)
 |_=>none
theorem zsq (he:XE X ct ms m e f):XI X ct ms n tg e (λρ=>(f ρ).bind Nd):=by
 obtain⟨t,pt,qt⟩:=he
 refine⟨_,zsp pt,λF0 B F H ρ σ ds R rs e w=>?_⟩
 obtain⟨d,h1,h2⟩:=bind1 e
 refine qt F0 B F H ρ σ _ _ rs h1 λv F' H' x l=>?_
 cases d with
 |str z =>
  cases h2
  refine⟨z,l.str,w _ F' H' x λi F2 H2 s1 s2 s3=>⟨λd hd=>?_,λhl=>?_⟩⟩
  ·unfold nh at hd
   rw[aP]at hd
   obtain⟨c,hc,rfl⟩:=cx.mp hd
   have tE:z.cps[i]?=some c:=by simpa using hc
   refine⟨⟨c,tE⟩,λy H3 hy=>?_⟩
   obtain⟨rfl,c2,h3,rfl⟩:=hy
   rw[tE]at h3
   cases h3
   exact⟨F2,.refl s3,Al.of (.str _)⟩
  ·unfold nh at hl
   rw[am,cu]at hl
   exact Array.getElem?_eq_none hl
 |_=>cases h2
theorem W2 {κ:Type}[DecidableEq κ](k:κ)(v:V):∀{ks:List κ} {vs:List V},ks.length=vs.length->putK (ks.zip vs) k v=(if ks.contains k=true then ks.zip ((ks.zip vs).map λp=>if p.1=k then v else p.2)else(ks++[k]).zip (vs++[v])):=by
 intro ks vs hl
 unfold putK
 have e:((ks.zip vs).any λkv=>decide (kv.1=k))=ks.contains k:=by
  rw[Bool.eq_iff_iff,List.any_eq_true,List.contains_iff_mem]
  constructor
  ·rintro⟨p,hp,he⟩
   have:=decide_eq_true_iff.mp he
   rw[← this]
   exact(eQ hp).1
  ·intro hk
   obtain⟨i,hi,rfl⟩:=List.getElem_of_mem hk
   exact⟨(ks[i],vs[i]'(by omega)),cQ.mpr ⟨i,by simp; omega,by simp⟩,by simp⟩
 rw[e]
 by_cases h:ks.contains k=true
 ·rw[if_pos h,if_pos h]
  clear e h
  induction ks generalizing vs with
  |nil=>simp
  |cons y ks ih =>
   cases vs with
   |nil=>simp at hl
   |cons u vs =>
    simp only[dY,aC,ih (by simpa using hl)]
    by_cases hy:y=k <;> simp[hy]
 ·rw[if_neg h,if_neg h,pX hl]
  rfl
end
end L3
namespace L3
open PySem PySem.Spec L2
open PyProof.Rows hiding St
section
variable {X:Cx}{ct:Nat->Addr}{ms:List Mo}{rk n m k:Nat}{st:Stmt}{rest:List Stmt}{a b c e tg:Expr}{f g h:EF}{p q:BF}{u w:SF}{pos:Pos}
def iJ (i:Nat)(fj f:EF):SF:=λρ=>(f ρ).bind λd=>(eV i ρ).bind λo=>(fj ρ).bind λj=>match o with
 |.dK ks ds=>(sy j).bind λk=>if ks.length<16777216 then some (.nx (ρ.set i (some (.dK (d9 ks ds k d).1 (d9 ks ds k d).2))))else none
 |.dT ks ds=>(match j with
  |.tup js=>(mr js).bind λk=>if ks.length<16777216 then some (.nx (ρ.set i (some (.dT (d9 ks ds k d).1 (d9 ks ds k d).2))))else none
  |_=>none)
 |_=>none
theorem Gi {κ:Type}[DecidableEq κ]{R:D->V->Prop}{d:D}{v:V}(r:R d v)(k:κ){ks:List κ}{ds:List D}{vs:List V}(hl:ks.length=vs.length)(hp:Pr R ds vs) :
  ∃us,putK (ks.zip vs) k v=(d9 ks ds k d).1.zip us/\(d9 ks ds k d).1.length=us.length/\Pr R (d9 ks ds k d).2 us:=by
 rw[W2 k v hl]
 unfold d9
 by_cases h:ks.contains k=true
 ·rw[if_pos h,if_pos h]
  refine⟨_,rfl,by simp[hl],?_⟩
  clear h
  induction ks generalizing ds vs with
  |nil=>simp; exact .nil
  |cons y ks ih =>
   cases hp with
   |nil=>simp at hl
   |cons h t =>
    simp only[dY,aC]
    refine .cons ?_ (ih (by simpa using hl) t)
    by_cases hy:y=k
    ·rw[if_pos hy,if_pos hy]; exact r
    ·rw[if_neg hy,if_neg hy]; exact h
 ·rw[if_neg h,if_neg h]
  exact⟨_,rfl,by simp[hl],hp.append (.cons r .nil)⟩
theorem Qs (i:Nat){x:Str}{j:Expr}{p1 eD:Pos}{fj:EF}(hm:ms[i]?=some (.ow 1))(hu:X.A.units+1<cLine)(hj:XE X ct ms 0 j fj)(he:XE X ct ms 0 e f)(hN:X.N[i]?=some x:=by rfl)(hv:lP X.env.scope x:=by first|exact Or.inl rfl|exact Or.inr (Or.inl rfl)|exact Or.inr (Or.inr rfl))(hd:(x == ("__debug__":Str))=false:=by decide)
  (gA:(x == ("__classdict__":Str))=false:=by decide) (hs:swapsWith e (some (.Subscript (.Name x p1) j eD)) pos.line X.env=pure false:=by rfl) :
  XS X ct ms rk (.Assign [.Subscript (.Name x p1) j eD] e pos) (iJ i fj f):=by
 obtain⟨t,pt,qt⟩:=he
 obtain⟨tj,sI,sK⟩:=hj
 refine⟨_,Ql hu (jl hN hv hd gA) sI pt hs,λF0 B F H ρ σ o E rs e z=>?_⟩
 obtain⟨d,g1,g2⟩:=bind1 e
 obtain⟨d1,o9,g3,g4,g5⟩:=cy g2
 refine qt F0 B F H ρ σ d _ rs g1 λv0 F1 H1 x1 l0=>?_
 have hE:=rs.ext x1
 obtain⟨f1,fr,n1,b1,dj,i4,cf,put⟩:=hE.put (F':=F) (H':=H) hm
 obtain⟨v,hσ,ow⟩:=i4 d1 (ye g3)
 refine⟨v,hσ,sK F0 B F1 H1 ρ σ o9 _ hE g4 λvj F2 H2 x2 lj=>?_⟩
 have Dl:Dt X.K ct F2 d v0:=Dt.mono x2.ff l0
 cases d1 with
 |dK ks ds =>
  dsimp only at g5
  obtain⟨key,g6,g7⟩:=bind1 g5
  by_cases hz:ks.length<16777216
  ·rw[if_pos hz]at g7
   cases g7
   obtain⟨ad,vs,lS,rfl,rfl,hF,hH,hl,ol⟩:=ow.dK_inv
   have hA:=x2.hh _ _ hH
   have fA:F2 ad=none:=x2.nf ad _ hH hF
   have e0:=ol.nil0
   subst e0
   have hp:Pr (Dt X.K ct F2) ds vs:=ol.pr λ_ _ _ _ q=>q.1.mono x2.ff
   obtain⟨us,zK,zL,zM⟩:=Gi Dl key hl hp
   have hk:=GP g6 lj
   subst hk
   refine⟨ad,_,rfl,ky.k hA (by rw[dr,← hl,e9,sizeLine_eq]; exact hz),?_⟩
   rw[zK]
   refine z σ F2 _ (hE.change hm x2 hσ b1 dj cf put aa fA (.inr (.dK fA yu zL (OwL.ofPr (zM.mono λ_ _ q=>⟨q,rfl⟩)))) (fn:=[ad]) (by simp) ?_)
   intro a ha
   rw[ar]at ha
   subst ha
   exact .inl aa
  ·rw[if_neg hz]at g7; cases g7
 |dT ks ds =>
  cases o9 with
  |tup js =>
   dsimp only at g5
   obtain⟨key,g6,g7⟩:=bind1 g5
   by_cases hz:ks.length<16777216
   ·rw[if_pos hz]at g7
    cases g7
    obtain⟨ad,vs,lS,rfl,rfl,hF,hH,hl,ol⟩:=ow.dT_inv
    have hA:=x2.hh _ _ hH
    have fA:F2 ad=none:=x2.nf ad _ hH hF
    have e0:=ol.nil0
    subst e0
    have hp:Pr (Dt X.K ct F2) ds vs:=ol.pr λ_ _ _ _ q=>q.1.mono x2.ff
    obtain⟨us,zK,zL,zM⟩:=Gi Dl key hl hp
    obtain⟨bd,ws,rfl,hb,C2⟩:=lj.tup x2.fh
    have hk:=Gy g6 C2
    subst hk
    refine⟨ad,_,rfl,ky.t hA hb (by rw[dr,← hl,e9,sizeLine_eq]; exact hz),?_⟩
    rw[zK]
    refine z σ F2 _ (hE.change hm x2 hσ b1 dj cf put aa fA (.inr (.dT fA yu zL (OwL.ofPr (zM.mono λ_ _ q=>⟨q,rfl⟩)))) (fn:=[ad]) (by simp) ?_)
    intro a ha
    rw[ar]at ha
    subst ha
    exact .inl aa
   ·rw[if_neg hz]at g7; cases g7
  |_=>cases g5
 |_=>cases g5
def DC (K:ae):V->V->Hp->VK->Prop:=λo i H Q=>∃p xs k v,o=.ref p/\i=.int k/\d5 K H p xs/\atI xs k=some v/\Q v H
theorem Wz:Cw X (DC X.K):=by
 intro pins s σ H o i ov iv Q I ro ri h
 obtain⟨p,xs,k,z,rfl,rfl,hq,he,q⟩:=h
 cases ro
 obtain⟨t,rfl⟩:=ri
 obtain⟨its,r,pl,hz⟩:=I.list hq
 obtain⟨j,h1,h2,h3,h4,h5⟩:=Gr he
 obtain⟨w,ew,kE⟩:=r.get h2
 have hl:=r.length
 have hn:=hX
 have fin:EP X pins σ Q w s:=⟨z,H,I,kE,q⟩
 by_cases h0:0<=k
 ·have hj:k.toNat=j:=by
   rw[seqIndex_of h0 h5]at h1
   exact Option.some.inj h1
  exact wpAny_getItem_list pl.isList h0 (by omega) (by rw[hj]; simpa using ew) fin
 ·have hj:(k+(its.toArray.size:Int)).toNat=j:=by
   rw[seqIndex_neg (by omega) h4]at h1
   rw[aD,← hl]
   exact Option.some.inj h1
  exact wpAny_getItem_list_neg pl.isList (by omega) (by rw[aD] <;> omega) (by omega) (by rw[hj]; simpa using ew) fin
def mw (i:Nat)(fj:EF)(gi:Int->Int->Int)(f:EF):SF:=λρ=>(eV i ρ).bind λo=>(fj ρ).bind λj=>(f ρ).bind λy=>match o,j with
 |.lst ds,.int z=>(atI ds z).bind λx=>(match x,y with
  |.int a,.int b=>(setAt ds z (.int (gi a b))).bind λlQ=>some (.nx (ρ.set i (some (.lst lQ))))
  |_,_=>none)
 |_,_=>none
theorem Qg (i:Nat){x:Str}{op:Operator}{j:Expr}{p1 eD:Pos}{fj:EF}{gi:Int->Int->Int}(ho:BA X op (FB gi))(hm:ms[i]?=some (.ow 1))(hj:XE X ct ms n j fj)(he:XE X ct ms m e f)(hN:X.N[i]?=some x:=by rfl)(hv:lP X.env.scope x:=by first|exact Or.inl rfl|exact Or.inr (Or.inl rfl)|exact Or.inr (Or.inr rfl))(hd:(x == ("__debug__":Str))=false:=by decide)
  (gA:(x == ("__classdict__":Str))=false:=by decide) (ha:∀ov iv new,augStore j ov iv new=(do holding [new,ov,iv] (setItem ov iv new); release [new,ov,iv] []; pure .next):=by intros; rfl) :
  XS X ct ms rk (.AugAssign (.Subscript (.Name x p1) j eD) op e pos) (mw i fj gi f):=by
 obtain⟨t,pt,qt⟩:=he
 obtain⟨tj,sI,sK⟩:=hj
 refine⟨_,Yk (jl hN hv hd gA) sI Wz pt ho LV ha,λF0 B F H ρ σ o E rs e z=>?_⟩
 obtain⟨d1,o9,g3,g4,g5⟩:=cy e
 obtain⟨d2,g6,g7⟩:=bind1 g5
 obtain⟨f1,fr,n1,b1,dj,i4,cf,put⟩:=rs.put (F':=F) (H':=H) hm
 obtain⟨v,hσ,ow⟩:=i4 d1 (ye g3)
 refine⟨v,hσ,sK F0 B F H ρ σ o9 _ rs g4 λvj F2 H2 x2 lj=>?_⟩
 match d1,o9,g7,ow,lj with
 |.lst ds,.int zi,g7,ow,lj =>
  dsimp only at g7
  obtain⟨da,g8,g9⟩:=bind1 g7
  obtain⟨ad,vs,lS,rfl,rfl,hF,hH,ol⟩:=ow.lst_inv
  have hA:H2 ad=some (.lst vs):=x2.hh _ _ hH
  have hp:Pr (Al X.K ct F2 H2 0) ds vs:=ol.pr λ_ _ _ _ q=>q.1.mono x2.ff
  obtain⟨va,S8,HW⟩:=hp.atI g8
  refine⟨ad,vs,zi,va,rfl,lj.int,d5.of hA,S8,qt F0 B F2 H2 ρ σ d2 _ (rs.ext x2) g6 λvy F3 H3 x3 ly=>?_⟩
  have qG:=x2.trans x3
  match da,d2,g9,HW,ly with
  |.int ia,.int ib,g9,HW,ly =>
   dsimp only at g9
   obtain⟨lQ,SC,SD⟩:=bind1 g9
   cases SD
   obtain⟨jn,SE,SG⟩:=bind1 SC
   cases SG
   have SY:H3 ad=some (.lst vs):=x3.hh _ _ hA
   have fA:F3 ad=none:=qG.nf ad _ hH hF
   have e0:=ol.nil0
   subst e0
   refine⟨ia,ib,HW.int,ly.int,ad,vs,zi,jn,rfl,lj.int,SY,by rw[← ol.length]; exact SE,?_⟩
   refine z σ F3 _ (rs.change hm qG hσ b1 dj cf put aa fA (.inr (.lst fA yu (OwL.set0 ⟨.int _,rfl⟩ (λ_ _ _ q=>q.2) jn (ol.mono λ_ _ _ _ q=>⟨q.1.mono qG.ff,q.2⟩)))) (fn:=[ad]) (by simp) ?_)
   intro a ha
   rw[ar]at ha
   subst ha
   exact .inl aa
structure Ic (K:ae)(C:Addr):Prop where
 cl:iQ K C
 ha:aw K (.ref C) "__class__"=some (some (.builtin "object.__class__"))
 hn:cM K (.builtin "object.__class__") "__get__"=some (some (.builtin "getset_descriptor.__get__"))
 ht:jE K (.builtin "object.__class__")=some true
 hm:dS K C (.type "object")=some true
def pF (all sub:List Nat):D->Option D
 |.obj c _ _=>if all.contains c=true then some (.bl (sub.contains c))else none
 |_=>none
theorem Qh {C:Addr}{x:Str}{all sub:List Nat}{pp p2:Pos}(hI:∀c∈all,Ic X.K (ct c)/\bv X.K (.ref (ct c)) (.ref C)=some (sub.contains c))(hm:X.mg "isinstance"=none)(kP:X.mg x=some (.ref C))(he:XE X ct ms n e f)(hg:Gl X "isinstance":=by rfl)(lU:Gl X x:=by rfl)(hd2:(x == ("__debug__":Str))=false:=by decide)
  (C5:starEach [e,.Name x p2] X.env=(false,eval e X.env)::starEach [.Name x p2] X.env:=by rfl) (lV:starEach [.Name x p2] X.env=(false,eval (.Name x p2) X.env)::starEach [] X.env:=by rfl) (gF:(backTo pos (starEach [.Name x p2] X.env)).any (·.1)=false:=by rfl) :
  XE X ct ms k (.Call (.Name "isinstance" pp) [e,.Name x p2] [] pos) (e1 (pF all sub) f):=by
 obtain⟨t,pt,qt⟩:=he
 refine⟨_,Gd WF hg hm Ot (v7 pt (v7 (Qa (v:=.ref C) lU kP rfl hd2) qz lV) C5) (by decide) (by decide) C5 gF,λF0 B F H ρ σ d Q rs e w=>?_⟩
 obtain⟨d1,h1,h2⟩:=bind1 e
 refine qt F0 B F H ρ σ d1 _ rs h1 λv F' H' x l=>?_
 cases d1 with
 |obj c ns ds =>
  unfold pF at h2
  dsimp only at h2
  by_cases hc:all.contains c=true
  ·rw[if_pos hc]at h2
   cases h2
   obtain⟨a,dx,vs,rfl,ha,_⟩:=l.obj x.fh
   obtain⟨ic,T1⟩:=hI c (by simpa using hc)
   exact⟨_,C,_,_,rfl,.ins ha ic.cl ic.ha ic.hn ic.ht ic.hm,T1,w _ F' H' x (Al.of (.bl _))⟩
  ·rw[if_neg hc]at h2; cases h2
 |_=>cases h2
end
end L3
namespace L3
open PySem PySem.Spec L2
section
variable {K:ae}{ct:Nat->Addr}{n m k:Nat}
def tR (i:Int):Str:=((toString i:String):Str)
def ou:List D->Option D
 |[.int i]=>if i.natAbs.log2<1920 then some (.str (tR i))else none
 |_=>none
theorem Yo:tq K ct [n] k (λxs H Q=>∃i,xs=[.int i]/\i.natAbs.log2<1920/\Q (.str (toString i)) H) ou:=by
 intro F H vs ds d Q s l e w
 cases l with
 |cons h t =>
  cases t
  rename_i d1 v
  cases d1 with
  |int i =>
   unfold ou at e
   dsimp only at e
   by_cases hz:i.natAbs.log2<1920
   ·rw[if_pos hz]at e
    cases e
    exact⟨i,by rw[h.int],hz,w _ F H (.refl s) (Al.of (.str _))⟩
   ·rw[if_neg hz]at e; cases e
  |_=>cases e
end
theorem W3 {i:Int}(h:Sz 1900 i):ou [.int i]=some (.str (tR i)):=by
 unfold ou
 dsimp only
 rw[if_pos]
 by_cases h0:i.natAbs=0
 ·rw[h0]; decide
 ·rw[jZ h0]
  exact aO h (cn (by decide) (by decide))
theorem Yp {i:Int}(h:Sz 1900 i):(tR i).length<=1921:=by
 refine PyProof.Rows.int_text_len_1921 ?_
 by_cases h0:i.natAbs=0
 ·rw[h0]; decide
 ·rw[jZ h0]
  exact aO h (cn (by decide) (by decide))
end L3
namespace PySem
section
variable {prog:Program}{w:World}{A:Around}{R:Result->Shared->Prop}{I:Addr}{fp wr:List Addr}{n:Nat}{P:Nat->Value->Prop}{St:Nat->Heap->Prop}{kw:List (Str×Value)}
end
section
variable {prog:Program}{w:World}{A:Around}{E:Value->Shared->Prop}{s:Shared}
end
end PySem
namespace L3
open PySem PySem.Spec L2
section
variable {X:Cx}{ct:Nat->Addr}{ms:List Mo}{e b:Expr}{f g:EF}{n m k:Nat}
end
end L3
namespace L3
open PySem PySem.Spec L2
open PyProof.Rows hiding St
section
variable {X:Cx}{ct:Nat->Addr}{ms:List Mo}{rk n m k:Nat}{a b c e o:Expr}{f g h:EF}{pos:Pos}
def Bl (K:ae):V->List V->Hp->VK->Prop:=λx vs H Q=>∃p ys y j,x=.ref p/\vs=[y]/\d5 K H p ys/\fQ y=true/\ys.all fQ=true/\ys.findIdx? (λz=>nX z y)=some j/\Q (.int (j:Nat)) H
theorem Qi:∀{xs:List V} {us:List Value} {x:V},bA xs us->xs.all fQ=true->us.map (lR x)=xs.map λy=>nX y x
 |_,_,_,.nil,_=>rfl
 |y::xs,u::us,x,.cons r t,f=>by
  rw[cB,bq]at f
  rw[aC,aC,MF r f.1,Qi t f.2]
theorem W4:M9 X "list.index" (Bl X.K):=by
 intro pins s σ H x vs v us Q I rx rv h
 obtain⟨p,ys,y,j,rfl,rfl,hq,fy,fs,hj,q⟩:=h
 cases rx
 obtain⟨u,rfl,ru⟩:=rv.one
 obtain⟨its,r,pl,hz⟩:=I.list hq
 obtain⟨⟨cls,dd,data,sl⟩,ho,hc,n,hd⟩:=pl.isList
 simp only at hc hd
 subst hc hd
 have hm:=Qi (x:=y) r fs
 have dI:=r.length
 obtain⟨j1,j2,j3⟩:=List.findIdx?_eq_some_iff_getElem.mp hj
 have Ny:∀i (hi:i<its.length),lR y its[i]=nX (ys[i]'(by omega)) y:=λi hi=>by
  have:=congrArg (λl=>l[i]?) hm
  simp only[aP]at this
  rw[aU hi,aU (by omega)]at this
  simpa using this
 have hzl:ys.length<=16777216:=hz
 refine call_meets PySem.F.slot_list_index ⟨_,ho,rfl⟩ PySem.F.entry_list_index (PySem.F.args_list_index_2 _ _)
  (SeqAt.list_indexAt p its.toArray n dd sl u (lR y) j (by simp; omega) (by omega) ?_ ?_) ⟨ho,λw hw=>BX ru fy r fs w (by simpa using hw),.int (j:Nat),H,I.tok _,⟨_,rfl⟩,q⟩
 ·simp only[mH]; rw[Ny j (by omega)]; exact j2
 ·intro i hi gY
  simp only[mH]
  rw[Ny i (by simpa using hi)]
  simpa using j3 i gY
def pE:D->D->Option D
 |.lst ds,x=>if x.sc=true/\ds.all D.sc=true then(ds.findIdx? λy=>p9 y x).bind λj=>some (.int (j:Nat))else none
 |_,_=>none
theorem QZ {x:D}(hx:x.sc=true):∀{ds:List D},ds.all D.sc=true->(ds.map D.v).findIdx? (λz=>nX z x.v)=ds.findIdx? λy=>p9 y x
 |[],_=>rfl
 |d::ds,h=>by
  rw[cB,bq]at h
  rw[aC,iw,iw,Ra h.1 hx,QZ hx h.2]
theorem W5 {cO dD:Pos}(ho:XE X ct ms n o f)(he:XE X ct ms m e g)(iR:starEach [e] X.env=(false,eval e X.env)::starEach [] X.env:=by rfl)
  (ki:attributeBase o "index" X.env (eval o X.env)=eval o X.env:=by rfl)
  (mY:((backTo dD (starEach [e] X.env)).all (λx=>!x.1) && (backToKw dD (keywordEach [] X.env)).all (λx=>x.1.isSome)
   && decide ([e].length+([]:List Keyword).length+(if([]:List Keyword).isEmpty then 0 else 1)<30))=true:=by rfl)
  (kj:(cO.endLine == dD.line)=true:=by rfl) (hV:(backTo dD (starEach [] X.env)).any (·.1)=false:=by rfl) :
  XE X ct ms k (.Call (.Attribute o "index" cO) [e] [] dD) (e2 pE f g):=by
 obtain⟨ta,pa,qa⟩:=ho
 obtain⟨tb,pb,qb⟩:=he
 refine⟨_,Ee PySem.F.plainAttrs_list PySem.F.slot_list_index PySem.F.type_list_index W4 pa (v7 pb qz iR) ki mY kj iR hV,λF0 B F H ρ σ d Q rs e w=>?_⟩
 obtain⟨d1,d2,h1,h2,h3⟩:=cy e
 refine qa F0 B F H ρ σ d1 _ rs h1 λv1 F1 H1 x1 l1=>?_
 cases d1 with
 |lst ds =>
  unfold pE at h3
  dsimp only at h3
  by_cases hz:d2.sc=true/\ds.all D.sc=true
  ·rw[if_pos hz]at h3
   obtain⟨j,hj,h4⟩:=bind1 h3
   cases h4
   obtain⟨p,vs,rfl,hp,TF⟩:=l1.lst x1.fh
   refine⟨.inl ⟨rfl,_,hp⟩,qb F0 B F1 H1 ρ σ d2 _ (rs.ext x1) h2 λv2 F2 H2 x2 l2=>?_⟩
   have hv:=TF.vs hz.2
   subst hv
   have hx:=Al.v l2 hz.1
   subst hx
   exact⟨p,_,_,j,rfl,rfl,x2.hh.seq hp,D.flat hz.1,Ge hz.2,by rw[QZ hz.1 hz.2]; exact hj,w _ F2 H2 (x1.trans x2) (Al.of (.int _))⟩
  ·rw[if_neg hz]at h3; cases h3
 |_=>cases h3
theorem Mi:∀{xs:List V} {us:List Value},xs.length=us.length->(∀(i:Nat) (x:V) (u:Value),xs[i]?=some x->us[i]?=some u->L2.RelV x u)->bA xs us
 |[],[],_,_=>.nil
 |[],_::_,h,_=>by cases h
 |_::_,[],h,_=>by cases h
 |x::xs,u::us,h,r=>.cons (r 0 x u rfl rfl) (Mi (by simpa using h) λi y w hy hw=>r (i+1) y w (by simpa using hy) (by simpa using hw))
def tY:List V->Hp->VK->Prop:=λvs H Q=>∃j:Int,vs=[.int j]/\0<=j/\j<=16777216/\∀l,H l=none->Q (.ref l) (cC H l (.lst ((dZ 0 j.toNat).map D.v)))
def gZ:List D->Option D
 |[.int j]=>if 0<=j/\j<=16777216 then some (.lst (dZ 0 j.toNat))else none
 |_=>none
theorem W6 {lo:Int}{n i:Nat}{d:D}(h:(dZ lo n)[i]?=some d):d=.int (lo+(i:Int)):=by
 unfold dZ at h
 rw[aP]at h
 obtain⟨t,ht,rfl⟩:=cx.mp h
 have:=aK.mp ht
 obtain⟨h1,h2⟩:=this
 rw[nO]at h2
 rw[h2]
theorem Yq {ta:TA}{p1 p2 fI:Pos}(hc:X.calm=true)(hg:Gl X "list")(hm:X.mg "list"=none)(lU:Gl X "range")(kP:X.mg "range"=none)(ha:PA X [a] ta)(hs:starEach [a] X.env=[(false,eval a X.env)]:=by rfl)
    (lV:starEach [.Call (.Name "range" p2) [a] [] fI] X.env=[(false,eval (.Call (.Name "range" p2) [a] [] fI) X.env)]:=by rfl) :
    PE X (.Call (.Name "list" p1) [.Call (.Name "range" p2) [a] [] fI] [] pos) (Lc tY ta):=by
  intro pins s σ H Q I h
  refine wpAny_Call_Name_kw (sU I hg hm D6 ?_ (by decide) (by decide))
  refine bH ?_ lV rfl
  rw[lV]
  show wpAny _ _ (spliced ((false,eval (.Call (.Name "range" p2) [a] [] fI) X.env)::[])) _ _ s
  refine Calls.spliced_cons ?_
  refine wpAny_Call_Name_kw (sU I lU kP boot_range ?_ (by decide) (by decide))
  refine bH (cj (ha fI pins s σ H _ I h) λus s1 ⟨vs,H1,I1,r1,q1⟩=>?_) hs rfl
  obtain⟨j,rfl,h1,h2,q⟩:=q1
  obtain⟨u,rfl,t,rfl⟩:=vals1 r1
  refine call_range_1 (Calls.spliced_nil ?_)
  have I2:L2.Inv X pins σ H1 { s1 with heap:=s1.heap.push { cls:=.type "range",data:=.fields #[.int 0 s1.toks,.int j t,.int 1 (s1.toks+1)] },toks:=s1.toks+1+1 }:=I1.kept λb o e=>ay _ e
  have hsz:Builtin.Range.rangeSize 0 j 1=(j.toNat:Int):=by rw[rangeSize_one]; split <;> omega
  refine call_list_range (n:=j.toNat) (I2.ok.hd hc) (IsRange.new ..) (small_one (by omega) (by omega) (by omega) (by omega)) hsz (by omega) λh' tk gW c' kp hS mW=>?_
  have hv:bA ((dZ 0 j.toNat).map D.v) gW.toList:=by
    obtain⟨e1,e2⟩:=mW
    refine Mi (by simp[dZ,e1]) λi x u hx hu=>?_
    obtain⟨t,rfl⟩:=e2 i u (by simpa using hu)
    rw[aP]at hx
    obtain⟨d,hd,rfl⟩:=cx.mp hx
    have hd:=W6 hd
    subst hd
    exact⟨t,by rw[jS]⟩
  have hl:((dZ 0 j.toNat).map D.v).length<=sizeLine:=by rw[sizeLine_eq]; simp[dZ]; omega
  exact⟨.ref _,_,I2.laid (t':=tk) kp (aE _) (show cN X.prog X.w _ h' _ (.lst _)from⟨hl,gW.toList,c',hv,hS⟩),rfl,q _ (I2.hok.fresh (aE _))⟩
theorem Yr (lo:Int)(n:Nat):(dZ lo n).all D.sc=true:=by
 rw[fU]
 intro d hd
 unfold dZ at hd
 obtain⟨t,_,rfl⟩:=aR.mp hd
 rfl
theorem DA {K:ae}{F G:Hp}:∀{ds:List D},ds.all D.sc=true->Pr (Al K ct F G 0) ds (ds.map D.v)
 |[],_=>.nil
 |d::ds,h=>by
  rw[cB,bq]at h
  refine .cons ?_ (DA h.2)
  cases d with
  |non=>exact Al.of .non
  |bl b=>exact Al.of (.bl b)
  |int b=>exact Al.of (.int b)
  |str b=>exact Al.of (.str b)
  |_=>cases h.1
theorem W7 {K:ae}:oY K ct [n] 1 tY gZ:=by
 intro F H vs ds d Q s l e w
 cases l with
 |cons h t =>
  cases t
  rename_i d1 v
  cases d1 with
  |int j =>
   unfold gZ at e
   dsimp only at e
   by_cases hz:0<=j/\j<=16777216
   ·rw[if_pos hz]at e
    cases e
    exact⟨j,by rw[h.int],hz.1,hz.2,qf s (DA (Yr 0 j.toNat)) w⟩
   ·rw[if_neg hz]at e; cases e
  |_=>cases e
theorem Mj {fs:Env->Option (List D)}{p1 p2 fI:Pos}(hc:X.calm=true)(hg:Gl X "list")(hm:X.mg "list"=none)(lU:Gl X "range")(kP:X.mg "range"=none)(ha:XA X ct ms [a] [n] fs)(hs:starEach [a] X.env=[(false,eval a X.env)]:=by rfl)
  (lV:starEach [.Call (.Name "range" p2) [a] [] fI] X.env=[(false,eval (.Call (.Name "range" p2) [a] [] fI) X.env)]:=by rfl) :
  XO X ct ms 1 (.Call (.Name "list" p1) [.Call (.Name "range" p2) [a] [] fI] [] pos) (eN gZ fs):=by
 obtain⟨t,pt,_,qt⟩:=ha
 refine⟨_,Yq hc hg hm lU kP pt hs lV,λF0 B F H ρ σ r Q rs e w=>?_⟩
 obtain⟨ds,h1,h2⟩:=bind1 e
 exact qt F0 B F H ρ σ ds _ rs h1 λvs F1 H1 x1 l=>W7 F1 H1 vs ds r Q x1.fh l h2 λv F2 H2 fp x2 l2 nd hf=>w v F2 H2 fp (x1.trans x2) l2 nd λz hz=>x1.hh.free (hf z hz)
def lF (i j:Nat)(f:EF):SF:=λρ=>(eV i ρ).bind λo=>(eV j ρ).bind λq=>(f ρ).bind λz=>match o,q,z with
 |.lst ds,.lst es,.int y=>if ds.length<16777216/\es.length<=16777216 then(ixN es.length y).bind λt=>es[t]?.bind λd=>some (.nx ((ρ.set j (some (.lst (es.eraseIdx t)))).set i (some (.lst (ds++[d])))))else none
 |_,_,_=>none
theorem Pr.erase {R:D->V->Prop}:∀{ds:List D} {vs:List V} (i:Nat),Pr R ds vs->Pr R (ds.eraseIdx i) (vs.eraseIdx i)
 |_,_,_,.nil=>.nil
 |_,_,0,.cons h t=>t
 |_,_,i+1,.cons h t=>.cons h (t.erase i)
theorem WA (i j:Nat){x y:Str}{p1 p2 cO dD gh et:Pos}(hm:ms[i]?=some (.ow 1))(kP:ms[j]?=some (.ow 1))(n8:i≠j)(he:XE X ct ms n e f)
  (hN:X.N[i]?=some x:=by rfl) (hv:lP X.env.scope x:=by first|exact Or.inl rfl|exact Or.inr (Or.inl rfl)|exact Or.inr (Or.inr rfl)) (hd:(x == ("__debug__":Str))=false:=by decide) (gA:(x == ("__classdict__":Str))=false:=by decide)
  (CK:X.N[j]?=some y:=by rfl) (Dd:lP X.env.scope y:=by first|exact Or.inl rfl|exact Or.inr (Or.inl rfl)|exact Or.inr (Or.inr rfl)) (hd2:(y == ("__debug__":Str))=false:=by decide) (pw:(y == ("__classdict__":Str))=false:=by decide)
  (iR:starEach [e] X.env=(false,eval e X.env)::starEach [] X.env:=by rfl)
  (mX:attributeBase (.Name y p2) "pop" X.env (eval (.Name y p2) X.env)=eval (.Name y p2) X.env:=by rfl)
  (pA:((backTo et (starEach [e] X.env)).all (λx=>!x.1) && (backToKw et (keywordEach [] X.env)).all (λx=>x.1.isSome)
   && decide ([e].length+([]:List Keyword).length+(if([]:List Keyword).isEmpty then 0 else 1)<30))=true:=by rfl)
  (m5:(gh.endLine == et.line)=true:=by rfl) (lC:(backTo et (starEach [] X.env)).any (·.1)=false:=by rfl)
  (C7:starEach [.Call (.Attribute (.Name y p2) "pop" gh) [e] [] et] X.env=(false,eval (.Call (.Attribute (.Name y p2) "pop" gh) [e] [] et) X.env)::starEach [] X.env:=by rfl)
  (ki:attributeBase (.Name x p1) "append" X.env (eval (.Name x p1) X.env)=eval (.Name x p1) X.env:=by rfl)
  (mY:((backTo dD (starEach [.Call (.Attribute (.Name y p2) "pop" gh) [e] [] et] X.env)).all (λx=>!x.1) && (backToKw dD (keywordEach [] X.env)).all (λx=>x.1.isSome)
   && decide ([Expr.Call (.Attribute (.Name y p2) "pop" gh) [e] [] et].length+([]:List Keyword).length+(if([]:List Keyword).isEmpty then 0 else 1)<30))=true:=by rfl)
  (kj:(cO.endLine == dD.line)=true:=by rfl) (hV:(backTo dD (starEach [] X.env)).any (·.1)=false:=by rfl)
  (su:swapsWith (.Call (.Attribute (.Name x p1) "append" cO) [.Call (.Attribute (.Name y p2) "pop" gh) [e] [] et] [] dD) none pos.line X.env=pure false:=by rfl) :
  XS X ct ms rk (.Expr (.Call (.Attribute (.Name x p1) "append" cO) [.Call (.Attribute (.Name y p2) "pop" gh) [e] [] et] [] dD) pos) (lF i j f):=by
 obtain⟨t,pt,qt⟩:=he
 refine⟨_,Mn (Ee PySem.F.plainAttrs_list PySem.F.slot_list_append PySem.F.type_list_append FV (jl hN hv hd gA)
  (v7 (Ee PySem.F.plainAttrs_list PySem.F.slot_list_pop PySem.F.type_list_pop PN (jl CK Dd hd2 pw) (v7 pt qz iR) mX pA m5 iR lC) qz C7) ki mY kj C7 hV) su,λF0 B F H ρ σ o E rs e z=>?_⟩
 obtain⟨d1,d2,h1,h2,h3⟩:=cy e
 obtain⟨d3,h4,h5⟩:=bind1 h3
 cases d1 with
 |lst ds =>
  cases d2 with
  |lst es =>
   cases d3 with
   |int w =>
    dsimp only at h5
    by_cases hz:ds.length<16777216/\es.length<=16777216
    ·rw[if_pos hz]at h5
     obtain⟨t2,h6,h7⟩:=bind1 h5
     obtain⟨d,h8,h9⟩:=bind1 h7
     cases h9
     obtain⟨g1,gr,gn1,gb1,gdj,SI,gcf,SJ⟩:=rs.put (F':=F) (H':=H) hm
     obtain⟨v,hσ,ow⟩:=SI _ (ye h1)
     obtain⟨ad,vs,lS,rfl,rfl,hF,hH,ol⟩:=ow.lst_inv
     obtain⟨f1,fr,n1,b1,dj,i4,cf,put⟩:=rs.put (F':=F) (H':=H) kP
     obtain⟨v2,oh,AE⟩:=i4 _ (ye h2)
     obtain⟨bd,us,Nm,rfl,rfl,HS,yV,AC⟩:=AE.lst_inv
     have z2:=OwL.nil0 AC
     subst z2
     refine⟨_,hσ,.inl ⟨rfl,_,d5.of hH⟩,_,oh,.inl ⟨rfl,_,d5.of yV⟩,qt F0 B F H ρ σ _ _ rs h4 λv3 F' H' x1 l3=>?_⟩
     have ID:=l3.int
     subst ID
     obtain⟨s1,s2,s3,s4⟩:=Gq h6
     have CI:H' bd=some (.lst us):=x1.hh _ _ yV
     have fB:F' bd=none:=x1.nf bd _ yV HS
     have lu:=AC.length
     have Dz:Pr (λd v=>Dt X.K ct F' d v) es us:=AC.pr λd v f _ q=>q.1.mono x1.ff
     obtain⟨u,hu,ru⟩:=Dz.get' h8
     refine⟨bd,us,w,t2,u,rfl,rfl,CI,by omega,by omega,by rw[← lu]; exact s1,hu,?_⟩
     have hE:=rs.change kP x1 oh b1 dj cf put aa fB (d':=.lst (es.eraseIdx t2)) (o:=.lst (us.eraseIdx t2)) (.inr (.lst fB yu (OwL.ofPr ((Dz.erase t2).mono λ_ _ q=>Ow.zero q)))) (fn:=[bd]) (by simp) (λa ha=>by
      rw[ar]at ha; subst ha; exact .inl aa)
     obtain⟨SA,SK,HN,yP,yR,yS,yQ,pf⟩:=hE.put (F':=F') (H':=cC H' bd (.lst (us.eraseIdx t2))) hm
     have kq:(ρ.set j (some (D.lst (es.eraseIdx t2))))[i]? = ρ[i]?:=bR (λe=>n8 e.symm)
     obtain⟨v',qE,BU⟩:=yS (.lst ds) (by rw[kq]; exact ye h1)
     rw[hσ]at qE
     cases qE
     obtain⟨ad',FT,Sx,e1,rfl,Nr,S2,Kf⟩:=BU.lst_inv
     cases e1
     have zn:=OwL.nil0 Kf
     subst zn
     refine⟨ad,FT,u,rfl,rfl,S2,by rw[← Kf.length,sizeLine_eq]; exact hz.1,?_⟩
     refine z σ F' _ (hE.change hm (.refl hE.fh) hσ yP yR yQ pf aa Nr (.inr (.lst Nr yu ((Kf.mono λ_ _ f' hi o'=>?_).append (.cons (f:=[]) (Ow.zero ru) .nil)))) (fn:=[ad]) (by simp) λa ha=>by
      rw[ar]at ha; subst ha; exact .inl aa)
     exact o'
    ·rw[if_neg hz]at h5; cases h5
   |_=>cases h5
  |_=>cases h5
 |_=>cases h5
end
end L3
namespace L2
open PySem PyProof.Rows
theorem W8 {X:Cx}{pins:List (Addr×Obj)}{σ:St}{H:Hp}{s:Shared}{QV:VK}{use:Option (Value->Sem Unit)}{Q0:Value->Shared->Prop}{hU iter tg:Expr}{ifs:List Expr}{scope:Scope}{pos fI:Pos}{N:List Str}{own:Nat}{cap:List Nat}{wi:TI}{g:TG}{tt:TT}{te:TE}(B:jF X scope N own cap)(hc:X.calm=true)(hi:PI X tg iter wi)
    (kg:ez own g)
    (hg:∀cl C fp s₀ H₀,PG (gx X scope cl N C fp s₀ H₀) tg g) (ht:∀cl C fp s₀ H₀,tu (gx X scope cl N C fp s₀ H₀) ifs tt) (he:∀cl C fp s₀ H₀,PE (gx X scope cl N C fp s₀ H₀) hU te)
    (hs:∀x,foldedSetIterable iter X.env x=pure x) (I:Inv X pins σ H s) (h:nI wi own cap g tt te σ H QV)
    (fin:∀(D C:Addr) (H5:Hp) (s6:Shared) (r:Flow),QV (.ref D) H5->Inv X pins σ H5 s6->iA X pins H5 C->(∃m,s6.heap.Ns C m)->compPost (model X.prog X.w) X.A X.xe use Q0 (.ref D) C (.ok r) s6) :
    wpAny (model X.prog X.w) X.A (comprehension (.ListComp hU [⟨tg,iter,ifs,0⟩] scope pos) scope X.env fI (newList []) false (eval iter X.env) use) Q0 X.xe s:=by
  obtain⟨cl,zB,c1,c2,_⟩:=FW (env:=X.env) scope.names [] (λx hx hf=>I.ok.has x.1 (B.free x hx hf)) (λy c e=>by simp at e)
  have pz:closureFor scope X.env=pure cl:=by
    have e:closureFor scope X.env=(forIn scope.names ([]:List (Str×Addr)) (λ(x:Str×NameKind) (cs:List (Str×Addr))=>if(x.2 == NameKind.free)=true then do let a ← cellOf X.env x.1; pure (ForInStep.yield ((x.1,a)::cs))else pure (ForInStep.yield cs)) >>= pure:Sem (List (Str×Addr))):=rfl
    rw[e,zB]
    rfl
  refine wpAny_comprehension_free (use:=use) rfl hs pz B.kind B.locs (cj (hi pins s σ H _ I h) λv s1 h1=>cj h1 λFC s2 h2=>?_)
  obtain⟨it,fp,tn,J,H2,e,I2,T,qF,f2,W0⟩:=h2
  subst e
  obtain⟨W,⟨m0,w0⟩,turn⟩:=W0 s2.heap.objs.size (I2.hok.fresh (aE _))
  refine wpAny_newObj_type ?_
  have I3:Inv X pins σ (cC H2 s2.heap.objs.size (.lst [])) { s2 with heap:=s2.heap.push { cls:=.type "list",data:=.seq ([]:List Value).toArray } }:=I2.lnew .nil (bW _)
  generalize C6:({ s2 with heap:=s2.heap.push { cls:=.type "list",data:=.seq ([]:List Value).toArray } }:Shared)=s3 at I3
  have k3:∀b o,s2.heap.get? b=some o->s3.heap.get? b=some o:=λb o e=>by rw[← C6]; exact ay _ e
  have z3:s3.heap.objs.size=s2.heap.objs.size+1:=by rw[← C6]; exact ed _ _
  have mZ:∀b∈fp,b<s2.heap.objs.size:=λb hb=>by
    obtain⟨o,e,_⟩:=T.obj _ _ qF b hb
    exact aF e
  have kq:∀b∈fp,b≠s2.heap.objs.size:=λb hb=>aV (mZ b hb)
  have f3:∀b∈fp,iA X pins (cC H2 s2.heap.objs.size (.lst [])) b:=λb hb=>⟨by rw[yp (kq b hb)]; exact(f2 b hb).1,(f2 b hb).2⟩
  have DV:tn 0 s3.heap:=T.keep _ _ _ qF λb _ o e=>k3 b o e
  show wpAny _ _ (newFunctionEnv scope X.env.globals cl [] X.env.qual none .none (some X.env)) _ _ _
  refine OG λh₁ kk zG zD=>?_
  have IB:=Pj (t':=s3.toks) B I3 c1 c2 f3 (λb hb=>by rw[z3]; exact dE (mZ b hb)) zG kk zD
  generalize cellsFrom (s3.heap.objs.size+1) scope.names cl=cl at IB ⊢
  generalize IA:({ s3 with heap:=h₁,toks:=s3.toks }:Shared)=s4 at IB
  have DW:tn 0 s4.heap:=T.keep _ _ _ DV λb _ o e=>by rw[← IA]; exact kk b o e
  show codeAny (model X.prog X.w) X.A (.compStart (.ListComp hU [⟨tg,iter,ifs,0⟩] scope pos) 0 (.ref it) (.ref s2.heap.objs.size) (compEnvC scope cl s3.heap.objs.size X.env))
      (compPost (model X.prog X.w) X.A X.xe use Q0 (.ref s2.heap.objs.size) s3.heap.objs.size) s4
  have kn:∀{H':Hp},(∀b∈fp,H' b=none)->∀b∈fp,iA (gx X scope cl N s3.heap.objs.size fp s3 (cC H2 s2.heap.objs.size (.lst []))) [] H' b:=λhn b hb =>
    ⟨hn b hb,aV (by show b<s3.heap.objs.size; rw[z3]; exact dE (mZ b hb)),IB.ok.exfs b hb,.inl hb,λx c e=>(IB.ok.exf b hb).2 x c e,λp hp=>(nomatch hp)⟩
  have loop:codeAny (model X.prog X.w) X.A (.compLoop (.ListComp hU [⟨tg,iter,ifs,0⟩] scope pos) 0 (.ref it) (.ref s2.heap.objs.size) (compEnvC scope cl s3.heap.objs.size X.env))
      (compPost (model X.prog X.w) X.A X.xe use Q0 (.ref s2.heap.objs.size) s3.heap.objs.size) s4:=by
    refine OF (λn s'=>∃i ys H',Inv (gx X scope cl N s3.heap.objs.size fp s3 (cC H2 s2.heap.objs.size (.lst []))) [] (ak own none++eu σ cap) H' s'/\tn i s'.heap/\(∀b∈fp,H' b=none)/\W i n ys H') ?_ m0
      ⟨0,[],_,IB,DW,λb hb=>(f3 b hb).1,w0⟩
    rintro n s5 ⟨i,ys,H5,I5,sN,yO,w5⟩
    obtain⟨hD,Ii⟩:=turn i n ys H5 w5
    rcases Ii with⟨stop,qn⟩|⟨go,gY,step⟩
    · refine cj (T.done (gx X scope cl N s3.heap.objs.size fp s3 (cC H2 s2.heap.objs.size (.lst []))) rfl rfl rfl hc i [] s5 _ H5 (λ_ _=>False) I5 (kn yO) sN stop) λr s6 ⟨hr,I6⟩=>?_
      subst hr
      obtain⟨m,hm,_⟩:=id I6.loc
      refine fin s2.heap.objs.size s3.heap.objs.size H5 s6 _ qn ?_ (I3.fpOk (aE _) I6.free) ⟨m,hm⟩
      have sb:eX s3.heap.objs.size s6.heap s6.heap:=⟨rfl,λ_ _=>rfl⟩
      have U:=I6.base
      have nC:∀b o,s3.heap.get? b=some o->b≠s3.heap.objs.size:=λb o e=>aV (aF e)
      have nT:∀b o,H5 b=some o->b≠s3.heap.objs.size:=λb o e z=>by
        have q:H5 s3.heap.objs.size=none:=I6.free
        rw[z,q]at e
        cases e
      refine I3.call' (ch:=fp) I6.os ?_ (λa o e=>(I6.hok a o e).stay (λb u hb q=>sb.extBut b u ?_ q) (λ_ q=>q) λ_ _ q=>q) I6.bare (λb hb=>⟨(f3 b hb).2.2.2.1,(f3 b hb).2.1,(f3 b hb).2.2.2.2.1,(f3 b hb).2.2.2.2.2⟩)
      · exact{
          keep:=λb o e z hb he=>sb.extBut b o (nC b o e) (U.keep b o e z hb he)
          slot:=λb o e z hb he=>by
            obtain⟨sl,q⟩:=U.slot b o e z hb he
            exact⟨sl,sb.extBut b _ (nC b o e) q⟩
          free:=U.free
          there:=λb o e he=>by
            obtain⟨o',q⟩:=U.there b o e he
            exact⟨o',sb.extBut b o' (nC b o e) q⟩
          tups:=U.tups
          frzs:=U.frzs
          tbls:=U.tbls }
      · rcases hb with rfl|hb
        · exact nT _ _ e
        · exact nT _ _ hb
    · refine cj (T.item (gx X scope cl N s3.heap.objs.size fp s3 (cC H2 s2.heap.objs.size (.lst []))) rfl rfl rfl hc i [] s5 _ H5 (λ_ _=>False) I5 (kn yO) sN go) λr s6 ⟨u,hr,h6⟩=>?_
      subst hr
      refine cj h6 λ_ s7 ⟨x,H7,I7,r7,y7,Bo,HJ⟩=>?_
      have G2:=I7.pinned (kn HJ) (T.obj _ _ Bo)
      refine cj (hg cl s3.heap.objs.size fp s3 _ _ s7 _ H7 x u _ G2 r7 (kg _ _ _ _ (step x H7 y7))) λ_ s8 ⟨σ8,H8,I8,q8,l8,p8⟩=>?_
      have back:∀{H9:Hp} {s9:Shared},Inv (gx X scope cl N s3.heap.objs.size fp s3 (cC H2 s2.heap.objs.size (.lst []))) ([]++iY fp s7.heap) σ8 H9 s9 ->
          Inv (gx X scope cl N s3.heap.objs.size fp s3 (cC H2 s2.heap.objs.size (.lst []))) [] (ak own none++eu σ cap) H9 s9/\tn (i+1) s9.heap/\∀b∈fp,H9 b=none:=λ{H9 s9} I9=>by
        refine⟨(I9.unpinned).weak l8.symm (λj v e=>?_),T.keep _ _ _ Bo λb hb o e=>(I9.pin (b,o) (ax _ (ax _ (jj hb e)))).1,λb hb=>?_⟩
        · by_cases hj:j<own
          · rw[bE (by rw[bY]; exact hj),d4,if_pos hj]at e
            cases e
          · rw[p8 j (by omega)]; exact e
        · obtain⟨o,e,d⟩:=T.obj _ _ Bo b hb
          exact(I9.pin (b,o) (ax _ (ax _ (jj hb e)))).2.1
      refine cj (ht cl s3.heap.objs.size fp s3 _ _ s8 σ8 H8 _ I8 q8) λok s9 ⟨H9,I9,q9⟩=>?_
      cases ok with
      |false =>
        rw[if_neg aH]
        rw[if_neg aH]at q9
        obtain⟨m',n9,w'⟩:=q9
        obtain⟨b1,b2,b3⟩:=back I9
        exact⟨m',n9,i+1,ys,H9,b1,b2,b3,w'⟩
      |true =>
        rw[if_pos rfl]
        rw[if_pos rfl]at q9
        refine cj (he cl s3.heap.objs.size fp s3 _ _ s9 σ8 H9 _ I9 q9) λuy Kv ⟨y,Cq,G0,r10,yT,m',n9,w'⟩=>?_
        refine cj (FV _ Kv σ8 Cq (.ref s2.heap.objs.size) [y] (.ref s2.heap.objs.size) [uy] (λ_ Cr=>Cr=cC Cq s2.heap.objs.size (.lst (ys++[y]))) G0 rfl (.cons r10 .nil) ⟨_,ys,y,rfl,rfl,yT,gY,rfl⟩) λ_ UE ⟨_,Cr,G1,_,HB⟩=>?_
        subst HB
        obtain⟨b1,b2,b3⟩:=back G1
        exact⟨m',n9,i+1,ys++[y],_,b1,b2,b3,w'⟩
  exact codeAny_compStart_list loop (T.self X.A 0 s4 _ _ DW loop)
theorem V6 {X:Cx}{i:Nat}{x:Str}{pos' pP:Pos}{hU iter tg:Expr}{ifs:List Expr}{scope:Scope}{pos:Pos}{N:List Str}{own:Nat}{cap:List Nat}{wi:TI}{g:TG}{tt:TT}{te:TE}(B:jF X scope N own cap)(hc:X.calm=true)(hi:PI X tg iter wi)
  (kg:ez own g)
  (hg:∀cl C fp s₀ H₀,PG (gx X scope cl N C fp s₀ H₀) tg g) (ht:∀cl C fp s₀ H₀,tu (gx X scope cl N C fp s₀ H₀) ifs tt) (he:∀cl C fp s₀ H₀,PE (gx X scope cl N C fp s₀ H₀) hU te)
  (hN:X.N.Nodup) (tG:X.N[i]?=some x) (hx:Loc X.env.scope x) (su:swapsWith (.ListComp hU [⟨tg,iter,ifs,0⟩] scope pos) (some (.Name x pos')) pP.line X.env=pure true)
  (hs:∀x,foldedSetIterable iter X.env x=pure x:=by intro _; rfl) (hf:X.fn x=true\/X.env.scope.names.lookup x=some .local:=by first|exact .inl rfl|exact .inr rfl|assumption) :
  PS X (.Assign [.Name x pos'] (.ListComp hU [⟨tg,iter,ifs,0⟩] scope pos) pP) (Bp (nI wi own cap g tt te) (nB i)):=by
 intro pins s σ H D I h
 rw[exec_Assign_Name_used _ _ _ _ su]
 refine wpAny_bind (wpAny_standAt (wpAny_bind ?_))
 show wpAny _ X.A (do let _ ← comprehension (.ListComp hU [⟨tg,iter,ifs,0⟩] scope pos) scope X.env _ (newList []) false (eval iter X.env) (some (assign (.Name x pos') X.env))) _ _ s
 refine wpAny_bind (wpAny_mono (W8 (use:=some (assign (.Name x pos') X.env)) (Q0:=λ_ s'=>∃σ' H',Inv X pins σ' H' s'/\D.nx σ' H') B hc hi kg hg ht he hs I h λDa C H5 s6 r q I6 fo hm=>?_) (λ_ s' hq=>wpAny_pure (wpAny_pure hq)) λ_ _ e=>e)
 show wpAny _ X.A (assign (.Name x pos') X.env (.ref Da)) _ _ _
 refine wpAny_assign_Name (O1 (v:=.ref Da) I6 hN tG hx rfl (λs7 I7 TB=>?_) hf)
 obtain⟨m,hm⟩:=hm
 obtain⟨a,sb,ha⟩:=TB
 obtain⟨f0,f1,f2,f3,f4,f5⟩:=fo
 have kq:C≠a:=by
  rcases ha with rfl|ha
  ·exact f1
  ·exactλz=>f4 x a ha z.symm
 refine⟨m,hm.sameBut sb kq,λh' UH=>⟨_,H5,I7.turned (t':=s7.toks) (it:=C) (λb o hb e=>UH.extBut b o hb e) f0 f1 f3 f4 f5,q⟩⟩
end L2
namespace L3
open PySem PySem.Spec L2
open PyProof.Rows hiding St
section
variable {X:Cx}{ct:Nat->Addr}{ms:List Mo}{rk n m k:Nat}{a b c e o:Expr}{f g h:EF}{pos:Pos}
theorem uz {om:List Mo}{hU iter tg:Expr}{ifs:List Expr}{scope:Scope}{N:List Str}{own:Nat}{cap:List Nat}{fi:Env->Option (List D)}{gg:D->Env->Option Env}{p:BF}{i:Nat}{x:Str}{pos' pP:Pos}
  (hm:ms[i]?=some (.ow k)) (hN:X.N.Nodup) (tG:X.N[i]?=some x) (hx:Loc X.env.scope x)
  (B:jF X scope N own cap) (hc:X.calm=true) (ho:om.length=own) (fu:∀i∈cap,i<ms.length) (hi:BC X ct ms n tg iter fi)
  (hg:∀cl C fp s₀ H₀,uK (gx X scope cl N C fp s₀ H₀) ct (om++gj ms cap) own n tg gg) (ht:∀cl C fp s₀ H₀,BD (gx X scope cl N C fp s₀ H₀) ct (om++gj ms cap) ifs p) (he:∀cl C fp s₀ H₀,XO (gx X scope cl N C fp s₀ H₀) ct (om++gj ms cap) (k-1) hU f)
  (su:swapsWith (.ListComp hU [⟨tg,iter,ifs,0⟩] scope pos) (some (.Name x pos')) pP.line X.env=pure true:=by rfl)
  (hs:∀x,foldedSetIterable iter X.env x=pure x:=by intro _; rfl) (hf:X.fn x=true\/X.env.scope.names.lookup x=some .local:=by first|exact .inl rfl|exact .inr rfl|assumption) :
  XS X ct ms rk (.Assign [.Name x pos'] (.ListComp hU [⟨tg,iter,ifs,0⟩] scope pos) pP) (sSet i (cX fi own cap gg p f)):=by
 obtain⟨wi,g,tt,te,pi,kg,pg,pt,pe,q⟩:=Pv (k:=k-1) (pos:=pos) B hc ho fu hi hg ht he
 refine⟨_,V6 B hc pi kg pg pt pe hN tG hx su hs hf,λF0 B F H ρ σ o E rs e w=>?_⟩
 obtain⟨d,h1,h2⟩:=bind1 e
 cases h2
 cases k with
 |succ k=>exact q F0 B F H ρ σ d _ rs h1 λv F' H' fp x l nd hf=>w _ F' H' (rs.set hm x l nd hf)
 |zero =>
  refine q F0 B F H ρ σ d _ rs h1 λv F' H' fp x l nd hf=>?_
  obtain⟨F2,x2,l2⟩:=l.freeze x hf
  exact w _ F2 H' (rs.set hm x2 (Ow.zero l2) bm λa z=>by cases z)
theorem Qj {i:Nat}{x:Str}{pos':Pos}(hm:ms[i]?=some (.ow k))(hN:X.N[i]?=some x:=by rfl)(hv:lP X.env.scope x:=by first|exact Or.inl rfl|exact Or.inr (Or.inl rfl)|exact Or.inr (Or.inr rfl))(hd:(x == ("__debug__":Str))=false:=by decide)
  (gA:(x == ("__classdict__":Str))=false:=by decide):XS X ct ms 0 (.Return (some (.Name x pos')) pos) (sRet (eV i)):=by
 refine⟨_,MG (jl hN hv hd gA),λF0 B F H ρ σ o E rs e w=>?_⟩
 obtain⟨d,h1,h2⟩:=bind1 e
 cases h2
 obtain⟨fp,sl,nd,hb⟩:=rs.sl
 obtain⟨f1,fr,i1,i2,i3,i4,i5⟩:=sl.put hm
 obtain⟨v,IC,l⟩:=i4 d (ye h1)
 obtain⟨F',x,l2⟩:=l.freeze (⟨rs.f0,rs.bh,rs.fh,rs.nf⟩:eM F0 B F H) (λz hz=>hb z (i1 z hz))
 exact⟨v,IC,w v F' H [] x.ff x.hh x.fh x.nf (Ow.zero l2) bm λz hz=>by cases hz⟩
theorem zsr (hu:X.A.units+1<cLine)(ha:XE X ct ms n a f)(hb:XE X ct ms m b g)(hm:behindInMarks .In b=false):XT X ct ms (.Compare a [.In] [b] pos) (tb λρ=>(f ρ).bind λx=>(g ρ).bind λy=>(fP y x).bind λr=>some (.bl r.isSome)):=by
 obtain⟨ta,UX,pa,pb,q⟩:=ha.bin hb
 refine⟨_,QJ (Z3 hu pa pb) hm,λF0 B F H ρ σ t Q rs e w=>?_⟩
 obtain⟨d0,h0,h9⟩:=bind1 e
 obtain⟨d1,d2,h1,h2,h3⟩:=cy h0
 obtain⟨r,h4,h5⟩:=bind1 h3
 cases h5
 cases h9
 refine q F0 B F H ρ σ d1 d2 _ rs h1 h2 λx y F' H' x1 l1 l2=>?_
 obtain⟨a,o,rfl,g,_,h⟩:=Ms (r:=r) x1.fh l2 l1 h4
 refine⟨a,o,rfl,g,?_⟩
 cases r with
 |none=>rw[h.none_of]; exact⟨_,rfl,w F' H' x1⟩
 |some d=>obtain⟨u,rfl,C9⟩:=h.some_of; exact⟨_,rfl,w F' H' x1⟩
theorem WB (hu:X.A.units+1<cLine)(ha:XE X ct ms n a f)(hb:XE X ct ms m b g)(hm:behindInMarks .NotIn b=false):XT X ct ms (.Compare a [.NotIn] [b] pos) (tb λρ=>(f ρ).bind λx=>(g ρ).bind λy=>(fP y x).bind λr=>some (.bl (!r.isSome))):=by
 obtain⟨ta,UX,pa,pb,q⟩:=ha.bin hb
 refine⟨_,QJ (WD hu pa pb) hm,λF0 B F H ρ σ t Q rs e w=>?_⟩
 obtain⟨d0,h0,h9⟩:=bind1 e
 obtain⟨d1,d2,h1,h2,h3⟩:=cy h0
 obtain⟨r,h4,h5⟩:=bind1 h3
 cases h5
 cases h9
 refine q F0 B F H ρ σ d1 d2 _ rs h1 h2 λx y F' H' x1 l1 l2=>?_
 obtain⟨a,o,rfl,g,_,h⟩:=Ms (r:=r) x1.fh l2 l1 h4
 refine⟨a,o,rfl,g,?_⟩
 cases r with
 |none=>rw[h.none_of]; exact⟨_,rfl,w F' H' x1⟩
 |some d=>obtain⟨u,rfl,C9⟩:=h.some_of; exact⟨_,rfl,w F' H' x1⟩
end
end L3
namespace L2
open PySem PyProof.Rows
end L2
namespace L3
open PySem PySem.Spec L2
open PyProof.Rows hiding St
section
variable {X:Cx}{ct:Nat->Addr}{ms:List Mo}{rk n m k:Nat}{st:Stmt}{rest:List Stmt}{a b c e tg:Expr}{f g h:EF}{p q:BF}{u w:SF}{pos:Pos}
end
end L3
namespace L3
open PySem PySem.Spec L2
open PyProof.Rows hiding St
section
variable {X:Cx}{ct:Nat->Addr}{ms:List Mo}{rk n m k:Nat}{st:Stmt}{rest:List Stmt}{a b c e tg:Expr}{f g h:EF}{p q:BF}{u w:SF}{pos:Pos}
end
end L3
namespace L3
open PySem PySem.Spec L2
open PyProof.Rows hiding St
section
variable {K:ae}{ct:Nat->Addr}{F F' H B F0:Hp}
theorem SL.fz:∀{ms:List Mo} {ρ:Env} {σ:St} {fp:List Addr} {i k:Nat},SL K ct F B H ms ρ σ fp->bw F H->fp.Nodup->ms[i]?=some (.ow k)->∃f1:List Addr,(∀a∈f1,a∈fp) /\
  ∃fE,SL K ct (fG F H f1) B H (ms.set i (.ow 0)) ρ σ fE/\fE.Nodup/\∀a∈fE,a∈fp/\a∉f1
 |_,_,_,_,_,_,.nil,_,_,e=>by simp at e
 |_,_,_,fp,0,k,.no t,s,nd,e=>by
  obtain⟨w1,w2,w3⟩:=u9 (F:=F) (H:=H) (fp:=[]) s (λa z=>by cases z)
  exact⟨[],λa z=>(by cases z),fp,.no (t.frame w1 λa z=>⟨rfl,by unfold fG; rw[if_neg (by simp)]; exact(t.cells a z).1⟩),nd,λa z=>⟨z,by simp⟩⟩
 |_,_,_,_,0,k,.al h t,_,_,e=>by simp at e
 |_,_,_,_,0,k,.px h t,_,_,e=>by simp at e
 |_,_,_,_,0,k,.so h t,_,_,e=>by simp at e
 |_,_,_,_,0,k,.ow (f:=f) (fp:=fp) h t,s,nd,e=>by
  obtain⟨w1,w2,w3⟩:=u9 (F:=F) (H:=H) (fp:=f) s (λa z=>(h.cells a z).1)
  obtain⟨n1,n2,n3⟩:=aY.mp nd
  refine⟨f,λa z=>aT _ z,[]++fp,.ow ⟨h.dt w1 w3,rfl⟩ (t.frame w1 λa z=>⟨rfl,?_⟩),n2,λa z=>⟨ax _ z,λq=>n3 a q a z rfl⟩⟩
  unfold fG
  rw[if_neg λq=>n3 a q a z rfl]
  exact(t.cells a z).1
 |_,_,_,_,i+1,k,.no t,s,nd,e=>by
  obtain⟨f1,h1,fE,q1,q2,q3⟩:=SL.fz (i:=i) (k:=k) t s nd (by simpa using e)
  exact⟨f1,h1,fE,.no q1,q2,q3⟩
 |_,_,_,_,i+1,k,.al h t,s,nd,e=>by
  obtain⟨f1,h1,fE,q1,q2,q3⟩:=SL.fz (i:=i) (k:=k) t s nd (by simpa using e)
  obtain⟨w1,w2,w3⟩:=u9 (F:=F) (H:=H) (fp:=f1) s (λa z=>(t.cells a (h1 a z)).1)
  exact⟨f1,h1,fE,.al (h.mono w1 (.refl _)) q1,q2,q3⟩
 |_,_,_,_,i+1,k,.px h t,s,nd,e=>by
  obtain⟨f1,h1,fE,q1,q2,q3⟩:=SL.fz (i:=i) (k:=k) t s nd (by simpa using e)
  obtain⟨w1,w2,w3⟩:=u9 (F:=F) (H:=H) (fp:=f1) s (λa z=>(t.cells a (h1 a z)).1)
  exact⟨f1,h1,fE,.px (h.mono w1 (.refl _)) q1,q2,q3⟩
 |_,_,_,_,i+1,k,.so (x:=x) (fp:=fp) h t,s,nd,e=>by
  obtain⟨n1,n2⟩:=bi.mp nd
  obtain⟨f1,h1,fE,q1,q2,q3⟩:=SL.fz (i:=i) (k:=k) t s n2 (by simpa using e)
  obtain⟨w1,w2,w3⟩:=u9 (F:=F) (H:=H) (fp:=f1) s (λa z=>(t.cells a (h1 a z)).1)
  refine⟨f1,λa z=>ai _ (h1 a z),x::fE,.so (h.frame w1 λa z=>⟨rfl,?_⟩) q1,bi.mpr ⟨λz=>n1 (q3 x z).1,q2⟩,λa z=>?_⟩
  ·rw[ar]at z
   unfold fG
   rw[if_neg λq=>n1 (z ▸ h1 a q)]
   exact(h.cells a (by rw[z]; exact aa)).1
  ·rcases aA.mp z with z|z
   ·exact⟨z ▸ aa,λq=>n1 (z ▸ h1 a q)⟩
   ·exact⟨ai _ (q3 a z).1,(q3 a z).2⟩
 |_,_,_,_,i+1,k,.ow (f:=f) (fp:=fp) h t,s,nd,e=>by
  obtain⟨n1,n2,n3⟩:=aY.mp nd
  obtain⟨f1,h1,fE,q1,q2,q3⟩:=SL.fz (i:=i) (k:=k) t s n2 (by simpa using e)
  obtain⟨w1,w2,w3⟩:=u9 (F:=F) (H:=H) (fp:=f1) s (λa z=>(t.cells a (h1 a z)).1)
  refine⟨f1,λa z=>ax _ (h1 a z),f++fE,.ow (h.frame w1 λa z=>⟨rfl,?_⟩) q1,aY.mpr ⟨n1,q2,λa z b zb=>n3 a z b (q3 b zb).1⟩,λa z=>?_⟩
  ·unfold fG
   rw[if_neg λq=>n3 a z a (h1 a q) rfl]
   exact(h.cells a z).1
  ·rcases aM.mp z with z|z
   ·exact⟨aT _ z,λq=>n3 a z a (h1 a q) rfl⟩
   ·exact⟨ax _ (q3 a z).1,(q3 a z).2⟩
theorem SL.forget (m':Mo):∀{ms:List Mo} {ρ:Env} {σ:St} {fp:List Addr} (i:Nat),SL K ct F B H ms ρ σ fp->∃fE,SL K ct F B H (ms.set i m') (ρ.set i none) σ fE/\fE.Sublist fp
 |_,_,_,_,_,.nil=>⟨[],.nil,.refl _⟩
 |_,_,_,fp,0,.no t=>⟨fp,.no t,.refl _⟩
 |_,_,_,fp,0,.al h t=>⟨fp,.no t,.refl _⟩
 |_,_,_,fp,0,.px h t=>⟨fp,.no t,.refl _⟩
 |_,_,_,_,0,.so (x:=x) (fp:=fp) h t=>⟨fp,.no t,List.sublist_cons_self _ _⟩
 |_,_,_,_,0,.ow (f:=f) (fp:=fp) h t=>⟨fp,.no t,List.sublist_append_right _ _⟩
 |_,_,_,_,i+1,.no t=>by
  obtain⟨fE,q1,q2⟩:=SL.forget m' i t
  exact⟨fE,.no q1,q2⟩
 |_,_,_,_,i+1,.al h t=>by
  obtain⟨fE,q1,q2⟩:=SL.forget m' i t
  exact⟨fE,.al h q1,q2⟩
 |_,_,_,_,i+1,.px h t=>by
  obtain⟨fE,q1,q2⟩:=SL.forget m' i t
  exact⟨fE,.px h q1,q2⟩
 |_,_,_,_,i+1,.so h t=>by
  obtain⟨fE,q1,q2⟩:=SL.forget m' i t
  exact⟨_,.so h q1,q2.cons₂ _⟩
 |_,_,_,_,i+1,.ow h t=>by
  obtain⟨fE,q1,q2⟩:=SL.forget m' i t
  exact⟨_,.ow h q1,(List.Sublist.refl _).append q2⟩
theorem RS.fz {ms:List Mo}{ρ:Env}{σ:St}{i k:Nat}(rs:RS K ct F0 B ms F H ρ σ)(hm:ms[i]?=some (.ow k)):∃F',RS K ct F0 B (ms.set i (.ow 0)) F' H ρ σ:=by
 obtain⟨fp,sl,nd,hb⟩:=rs.sl
 obtain⟨f1,h1,fE,q1,q2,q3⟩:=sl.fz rs.fh nd hm
 obtain⟨w1,w2,w3⟩:=u9 (F:=F) (H:=H) (fp:=f1) rs.fh (λa z=>(sl.cells a (h1 a z)).1)
 refine⟨fG F H f1,rs.f0.trans w1,rs.bh,w2,λa o ho hn=>?_,fE,q1,q2,λa z=>hb a (q3 a z).1⟩
 have:¬a∈f1:=λz=>by rw[hb a (h1 a z)]at ho; cases ho
 unfold fG; rw[if_neg this]; exact rs.nf a o ho hn
theorem RS.forget {ms:List Mo}{ρ:Env}{σ:St}(m':Mo)(i:Nat)(rs:RS K ct F0 B ms F H ρ σ):RS K ct F0 B (ms.set i m') F H (ρ.set i none) σ:=by
 obtain⟨fp,sl,nd,hb⟩:=rs.sl
 obtain⟨fE,q1,q2⟩:=sl.forget m' i
 exact⟨rs.f0,rs.bh,rs.fh,rs.nf,fE,q1,q2.nodup nd,λa z=>hb a (q2.subset z)⟩
end
def pK (i:Nat):Out->Out
 |.nx ρ=>.nx (ρ.set i none)
 |.rt d=>.rt d
 |.bk ρ=>.bk (ρ.set i none)
 |.ct ρ=>.ct (ρ.set i none)
def sFz (i:Nat)(u:SF):SF:=λρ=>(u ρ).bind λo=>some (pK i o)
section
variable {X:Cx}{ct:Nat->Addr}{ms:List Mo}{rk k:Nat}
theorem V7 {ms:List Mo}{i k:Nat}(hm:ms[i]?=some (.ow k)):(ms.set i (.ow 0)).set i (.ow k)=ms:=by
 rw[List.set_set]
 apply iS
 intro j
 rw[oA]
 split
 ·next h =>
  subst h
  rw[hm]
  have:=(aK.mp hm).1
  rw[if_pos this]
 ·rfl
theorem zt1 {i:Nat}{t:Ends->St->Hp->Prop}{w:SF}(hm:ms[i]?=some (.ow k))
  (q:∀(F0 B F H:Hp) (ρ:Env) (σ:St) (o:Out) (E:Ends),RS X.K ct F0 B (ms.set i (.ow 0)) F H ρ σ->w ρ=some o->jH X.K ct F0 B (ms.set i (.ow 0)) rk E o->t E σ H)
  (F0 B F H:Hp) (ρ:Env) (σ:St) (o:Out) (E:Ends) (rs:RS X.K ct F0 B ms F H ρ σ) (e:sFz i w ρ=some o) (z:jH X.K ct F0 B ms rk E o):t E σ H:=by
 obtain⟨F',r2⟩:=rs.fz hm
 obtain⟨o1,e1,e2⟩:=bind1 e
 refine q F0 B F' H ρ σ o1 E r2 e1 ?_
 have back:∀{ρ':Env} {σ':St} {F2 H2:Hp},RS X.K ct F0 B (ms.set i (.ow 0)) F2 H2 ρ' σ'->RS X.K ct F0 B ms F2 H2 (ρ'.set i none) σ':=λr=>by
  have:=r.forget (.ow k) i
  rw[V7 hm]at this
  exact this
 cases o1 with
 |nx ρ'=>cases e2; exactλσ' F2 H2 r=>z σ' F2 H2 (back r)
 |rt d=>cases e2; exact z
 |bk ρ'=>cases e2; exactλσ' F2 H2 r=>z σ' F2 H2 (back r)
 |ct ρ'=>cases e2; exactλσ' F2 H2 r=>z σ' F2 H2 (back r)
theorem MK {Og:List Stmt}{w:SF}{i:Nat}(hm:ms[i]?=some (.ow k))(h:oI X ct (ms.set i (.ow 0)) rk Og w):oI X ct ms rk Og (sFz i w):=by
 obtain⟨t,pt,qt⟩:=h
 exact⟨t,pt,zt1 hm qt⟩
theorem zm7 {i:Nat}{d:D}:pK i (.rt d)=.rt d:=rfl
theorem zm8 {i:Nat}{ρ:Env}:pK i (.nx ρ)=.nx (ρ.set i none):=rfl
end
end L3
namespace L3
open PySem PySem.Spec L2
open PyProof.Rows hiding St
section
variable {X:Cx}{ct:Nat->Addr}{ms:List Mo}{rk n m k:Nat}{a b c tg:Expr}{pos:Pos}
end
end L3
namespace L2
open PySem PySem.Spec PyProof.Rows
section
variable {X:Cx}{mn:List Expr}{kt:Nat}{pt:Pos}
end
end L2
namespace L3
open PySem PySem.Spec L2
open PyProof.Rows hiding St
section
variable {X:Cx}{ct:Nat->Addr}{ms:List Mo}{n:Nat}{a b:Expr}{pos:Pos}
end
end L3
namespace L3
open PySem PySem.Spec L2
open PyProof.Rows hiding St
section
variable {K:ae}{ct:Nat->Addr}{n m k:Nat}
end
end L3
namespace L2
open PySem PySem.Spec PyProof.Rows
theorem W9 (its:List Value):slicePick its.toArray none none (some (-1))=its.reverse.toArray:=by
 unfold slicePick sliceBounds sliceRange
 congr 1
 have h1:¬((-1:Int) > 0):=by decide
 simp only[nU,h1,if_false,aD]
 have hc:((if((its.length:Int)-1) > -1 then((its.length:Int)-1 - -1 - -1-1) / - -1 else 0)).toNat=its.length:=by
  rw[show(- -1:Int)=1 from rfl,Int.ediv_one]
  split <;> omega
 rw[hc,List.filterMap_map]
 have e:∀k∈aB its.length,(((λx=>its.toArray[x]?) ∘ λ(k:Nat)=>((its.length:Int)-1 + -1 * (k:Int)).toNat) k)=its.reverse[k]?:=λk hk=>by
  have hk:=aZ.mp hk
  show its.toArray[((its.length:Int)-1 + -1 * (k:Int)).toNat]?=_
  rw[show((its.length:Int)-1 + -1 * (k:Int)).toNat=its.length-1-k by omega,List.getElem?_toArray,gG hk]
 have fm:∀(F:Nat->Option Value) (l:List Nat),(∀k∈l,F k=its.reverse[k]?/\k<its.length)->l.filterMap F=l.map λk=>(its.reverse[k]?).getD .none:=by
  intro F l
  induction l with
  |nil=>exactλ_=>rfl
  |cons k l ih =>
   intro h
   obtain⟨h2,h3⟩:=h k aa
   have h4:its.reverse[k]?=some (its.reverse[k]'(by rw[cv]; exact h3)):=aU _
   rw[eU,h2,h4,aC,ih λk hk=>h k (ai _ hk),h4]
   rfl
 rw[fm _ _ λk hk=>⟨e k hk,aZ.mp hk⟩]
 apply jJ
 ·simp
 ·intro i h2 h3
  simp only[List.getElem_map,nO]
  rw[aU h3]
  rfl
section
variable {X:Cx}{e sp:Expr}{te:TE}{tp:TO}{pos p2:Pos}
def Ks (K:ae):V->Hp->VK->Prop:=λx H Q=>∃a xs,x=.ref a/\d5 K H a xs/\∀p,H p=none->Q (.ref p) (cC H p (.lst xs.reverse))
def Ln (K:ae)(te:TE)(tp:TO):TE:=λσ H Q=>te σ H λx H1=>tp σ H1 λo H2=>o=some (-1)/\Ks K x H2 Q
theorem zss (he:PE X e te)(hp:PO X (some sp) tp):PE X (.Subscript e (.Slice none none (some sp) p2) pos) (Ln X.K te tp):=by
  intro pins s σ H Q I h
  refine Subscript_ (cj (he pins s σ H _ I h) λv s1 ⟨x,H1,I1,r1,q1⟩=>?_)
  refine wpAny_Slice ?_
  rw[evalPart_none]
  refine wpAny_pure ?_
  refine wpAny_pure ?_
  refine cj (hp pins s1 σ H1 _ I1 q1) λvp s3 ⟨o,H3,I3,pp,q3⟩=>?_
  obtain⟨rfl,a,xs,rfl,hx,q⟩:=q3
  cases r1
  have I4:Inv X pins σ H3 { s3 with heap:=s3.heap.push { cls:=.type "slice",data:=.fields #[.none,.none,vp] } }:=I3.kept (t':=s3.toks) λb ob q=>ay _ q
  obtain⟨its,r,ht,hz⟩:=I4.list hx
  have dI:=r.length
  refine tail_any (ops:=[.ref a,.ref s3.heap.objs.size]) (s:={ s3 with heap:=s3.heap.push { cls:=.type "slice",data:=.fields #[.none,.none,vp] } }) (T:="list") ht.isList.typeIs slot_list_getitem.lookup ?_ (by with_unfolding_all rfl)
  refine wpAny_getItem_list_slice ht.isList (qK.new ..) .none .none pp (by simp) ?_ (by rw[aD] <;> omega)
  rw[W9]
  refine⟨.ref _,_,I4.laid (t':=s3.toks) (o:=.lst xs.reverse) (λb ob q=>ay _ q) (aE _) ?_,rfl,q _ (I4.hok.fresh (aE _))⟩
  exact⟨by rw[cv]; exact hz,_,0,r.reverse,bn _ rfl⟩
end
end L2
namespace L3
open PySem PySem.Spec L2
open PyProof.Rows hiding St
section
variable {X:Cx}{ct:Nat->Addr}{ms:List Mo}{n m:Nat}{e sp:Expr}{f g:EF}{pos p1:Pos}
theorem zst (hn:n<=1)(he:XE X ct ms n e f)(hp:XE X ct ms m sp (e1 oo (eC (.int 1)))):XO X ct ms 1 (.Subscript e (.Slice none none (some sp) p1) pos) (λρ=>((lsD f) ρ).bind λds=>some (.lst ds.reverse)):=by
 obtain⟨t,pt,qt⟩:=he
 obtain⟨t1,sE,sJ⟩:=hp
 refine⟨_,zss pt (P8 sE),λF0 B F H ρ σ r Q rs e w=>?_⟩
 obtain⟨ds,h1,h2⟩:=bind1 e
 cases h2
 obtain⟨d,h3,h4⟩:=bind1 h1
 rw[Ma h4]at h3
 refine qt F0 B F H ρ σ _ _ rs h3 λv F1 H1 x1 l1=>?_
 refine sJ F0 B F1 H1 ρ σ (.int (-1)) _ (rs.ext x1) rfl λu F2 H2 x2 l2=>⟨-1,l2.int,rfl,?_⟩
 obtain⟨a,vs,rfl,ha,hp⟩:=Al.lst1 hn (l1.mono x2.ff x2.hh) x2.fh
 refine⟨a,vs,rfl,ha,qf x2.fh hp.reverse λv F' H' fp x o nd hf=>w v F' H' fp ((x1.trans x2).trans x) o nd λz hz=>(x1.trans x2).hh.free (hf z hz)⟩
end
end L3
namespace L3
open PySem PySem.Spec L2
open PyProof.Rows hiding St
def kg {α:Type}(p q:Nat)(rv:Bool)(us ws:List α):List α:=if us.length=p/\ws.length=q then us++(if rv then ws.reverse else ws)else[]
section
variable {X:Cx}{ct:Nat->Addr}{ms:List Mo}{rk n m k kk:Nat}{e a:Expr}{f:EF}{x:Str}{pp pos Ay:Pos}{fa:Addr}{fd:FuncData}{ps ks:List Str}{mf:List D->Option D}
end
end L3
namespace L3
open PySem PySem.Spec L2
open PyProof.Rows hiding St
section
variable {X:Cx}{ct:Nat->Addr}{ms:List Mo}{rk n m k:Nat}{st:Stmt}{rest:List Stmt}{a b c e tg:Expr}{f g h:EF}{p q:BF}{u w:SF}{pos:Pos}
end
end L3
namespace L3
open PySem PySem.Spec L2
open PyProof.Rows hiding St
theorem Ys:typeLookup (Value.type "list_reverseiterator") (Str.ofString "__len__")=pure none:=by with_unfolding_all rfl
theorem Xx:typeLookup (Value.type "list_reverseiterator") (Str.ofString "__length_hint__")=pure (some (Value.builtin "list_reverseiterator.__length_hint__")):=by with_unfolding_all rfl
theorem WC:splitId "list_reverseiterator.__length_hint__"=some ("list_reverseiterator","__length_hint__"):=by with_unfolding_all rfl
theorem YX:isSubtype (Value.type "list_reverseiterator") (Value.type "list_reverseiterator")=pure true:=by with_unfolding_all rfl
theorem Xy {prog:Program}{w:World}{A:Around}{E:Value->Shared->Prop}{s:Shared}{it l:Addr}{i:Int}{Q:Bool->Shared->Prop}(st:s.heap.IsRevIter it l i)(h:Q false s):wpAny (model prog w) A (Builtin.List.listLengthHint (Value.ref it)) Q E s:=by
 unfold Builtin.List.listLengthHint
 refine wpAny_bind (wpAny_specialOf st.typeIs Ys ?_)
 simp only[]
 refine wpAny_bind (wpAny_specialOf st.typeIs Xx ?_)
 simp only[WC]
 refine wpAny_bind (wpAny_isInstance st.typeIs YX ?_)
 rw[if_neg (by decide)]
 rw[if_pos (by with_unfolding_all decide),if_neg (by decide)]
 exact wpAny_pure h
theorem Wl {prog:Program}{w:World}{A:Around}{s:Shared}{R:Result->Shared->Prop}{it l:Addr}{items:Array Value}(hh:A.handled=none)(st:s.heap.IsRevIter it l ((items.size:Int)-1))(hl:s.heap.IsList l items)(kq:l≠it)(hsz:items.size<=sizeLine)(S:Addr)(res:Value)(c₀:Nat)(hS:s.heap.get? S=some { cls:=Value.type "list",data:=Data.seq #[] c₀ })(S5:S≠l)
    (hR:∀(h':Heap) (tk:Nat) (gW:Array Value) (c':Nat),(∀(b:Addr) (o:Obj),b≠S->b≠it->s.heap.get? b=some o->h'.get? b=some o)->h'.get? S=some { cls:=Value.type "list",data:=Data.seq gW c' }->ItemsOf (λi v=>items[items.size-1-i]?=some v) gW items.size->R (Except.ok (Flow.ret res)) { s with heap:=h',toks:=tk }) :
    wpAny (model prog w) A.in1 (Builtin.List.listExtendWith (Value.ref S) (Value.ref it) res) (λfin s'=>match fin with|Fin.done f=>R (Except.ok f) s'|Fin.again c'=>c'.quiet=true/\codeAny (model prog w) A c' R s') (λe s'=>R (Except.error e) s') s:=by
  have CL:S≠it:=λe=>by
    obtain⟨o,h1,h2,h3⟩:=st
    rw[← e,hS]at h1
    cases h1
    simp at h2
  have W:=(Walks.listRev (prog:=prog) (w:=w) (A:=A.in1) hh it l kq items).toS
  have key:codeAny (model prog w) A (Code.builtin "list.extend.loop" { pos:=[Value.ref S,Value.ref it,res] }) R s:=by
    refine codeAny_extend_loopS W hsz S (by simp[CL,S5]) res items.size 0 s #[] c₀ rfl (bW _) ⟨bW _,by simpa using st,hl⟩ hS (ItemsOf.nil _) λs' gW c' hm nD mW=>?_
    rw[Moved.eq_with hm]
    exact hR s'.heap s'.toks gW c' (λb o hb hi e=>hm.heap b o (by simp[hb,hi]) e) nD mW
  unfold Builtin.List.listExtendWith
  refine wpAny_bind (wpAny_typeOf st.typeIs ?_)
  have h1:Builtin.List.listSameRef (Value.ref S) (Value.ref it)=false:=by simp[Builtin.List.listSameRef,CL]
  have h2:(Value.type "list_reverseiterator" == Value.type "list")=false:=by decide
  have h3:(Value.type "list_reverseiterator" == Value.type "tuple")=false:=by decide
  simp only[h1,h2,h3,sX,bZ,if_false]
  refine wpAny_bind (wpAny_pyIter_revIter st ?_)
  refine wpAny_bind (wpAny_holding (Xy st ?_))
  rw[if_neg (by with_unfolding_all decide)]
  exact wpAny_pure ⟨plainId_quiet F.plain_extend_loop _,key⟩
theorem Vs {prog:Program}{w:World}{A:Around}{E:Value->Shared->Prop}{s:Shared}{Q:Value->Shared->Prop}{it l:Addr}{items:Array Value}(hh:A.handled=none)(st:s.heap.IsRevIter it l ((items.size:Int)-1))(hl:s.heap.IsList l items)(kq:l≠it)(hsz:items.size<=sizeLine)
    (hQ:∀(h':Heap) (tk:Nat) (gW:Array Value) (c':Nat),(∀(b:Addr) (o:Obj),b≠it->s.heap.get? b=some o->h'.get? b=some o)->h'.get? s.heap.objs.size=some { cls:=Value.type "list",data:=Data.seq gW c' }->ItemsOf (λi v=>items[items.size-1-i]?=some v) gW items.size->Q (Value.ref s.heap.objs.size) { s with heap:=h',toks:=tk }) :
    wpAny (model prog w) A (call (Value.type "list") [Value.ref it]) Q E s:=by
  refine callType_codes (Q₁:=λobj s₁=>obj=Value.ref s.heap.objs.size/\s₁ = { s with heap:=s.heap.push { cls:=Value.type "list",data:=Data.seq #[] } }) F.called_list (F.typeCall_list_1 (Value.ref it)) F.entry_list_init (code_list_new (Value.ref it) ⟨rfl,rfl⟩) λobj s₁ h₁=>?_
  obtain⟨rfl,rfl⟩:=h₁
  have hS:=bn s.heap (o:={ cls:=Value.type "list",data:=Data.seq #[] }) rfl
  refine⟨⟨_,hS,rfl⟩,F.args_list_init_2 (Value.ref s.heap.objs.size) (Value.ref it),?_⟩
  have Dn:∀b o,s.heap.get? b=some o->b≠s.heap.objs.size:=λb o e=>aV (aF e)
  have Tp:s.heap.objs.size≠l:=λe=>by
    obtain⟨o,h1,_⟩:=hl
    exact Dn l o h1 e.symm
  have TN:(#[]:Array Value).size<=sizeLine:=bW _
  have TQ:(#[]:Array Value).size<=sizeLine+1:=bW _
  show wpAny _ _ (Builtin.List.listItems (Value.ref s.heap.objs.size) >>= _) _ _ _
  refine wpAny_bind ?_
  show wpAny _ _ (seqItems? (Value.ref s.heap.objs.size) >>= _) _ _ _
  refine wpAny_bind (wpAny_seqItems hS rfl ?_)
  refine wpAny_pure ?_
  show wpAny _ _ (updateSeq s.heap.objs.size (λ_=>#[]) >>= _) _ _ _
  refine wpAny_bind (wpAny_updateSeq hS rfl ?_ TN TQ)
  have S6:((s.heap.push { cls:=Value.type "list",data:=Data.seq #[] }).update s.heap.objs.size (Obj.mapSeq λ_=>#[])).get? s.heap.objs.size=some { cls:=Value.type "list",data:=Data.seq #[] 0 }:=mz (Obj.mapSeq λ_=>#[]) hS rfl
  have Kg:∀(b:Addr) (o:Obj),b≠s.heap.objs.size->s.heap.get? b=some o->((s.heap.push { cls:=Value.type "list",data:=Data.seq #[] }).update s.heap.objs.size (Obj.mapSeq λ_=>#[])).get? b=some o:=λb o hb e=>(gk _ _ (Ne.symm hb)).trans (ay _ e)
  refine wpAny_bind (wpAny_letGo ?_)
  obtain⟨oi,i1,i2,i3⟩:=st
  obtain⟨ol,l1,l2,l3⟩:=hl
  refine Wl (A:=A.in1) (R:=wants (λr s₂=>r=Value.none/\Q (Value.ref s.heap.objs.size) s₂) E) (s:={ s with heap:=(s.heap.push { cls:=Value.type "list",data:=Data.seq #[] }).update s.heap.objs.size (Obj.mapSeq λ_=>#[]) }) (l:=l) (items:=items) hh ⟨oi,Kg it oi (Dn it oi i1) i1,i2,i3⟩ ⟨ol,Kg l ol (Dn l ol l1) l1,l2,l3⟩ kq hsz s.heap.objs.size Value.none _ S6 Tp λh' tk gW c' hk nD mW=>⟨rfl,hQ h' tk gW c' (λb o hb e=>hk b o (Dn b o e) hb (Kg b o (Dn b o e) e)) nD mW⟩
section
variable {X:Cx}{ct:Nat->Addr}{ms:List Mo}{rk n m k:Nat}{a e:Expr}{f:EF}{pos:Pos}
def tX (K:ae):V->Hp->VK->Prop:=λx H Q=>∃a xs,x=.ref a/\d5 K H a xs/\∀p,H p=none->Q (.ref p) (cC H p (.lst xs.reverse))
def DP (K:ae)(te:TE):TE:=λσ H Q=>te σ H λx H1=>tX K x H1 Q
theorem YY {te:TE}{p1 p2 fI:Pos}(hc:X.calm=true)(hg:Gl X "list")(hm:X.mg "list"=none)(lU:Gl X "reversed")(kP:X.mg "reversed"=none)(he:PE X e te)(hs:starEach [e] X.env=[(false,eval e X.env)]:=by rfl)
  (lV:starEach [.Call (.Name "reversed" p2) [e] [] fI] X.env=[(false,eval (.Call (.Name "reversed" p2) [e] [] fI) X.env)]:=by rfl) :
  PE X (.Call (.Name "list" p1) [.Call (.Name "reversed" p2) [e] [] fI] [] pos) (DP X.K te):=by
 intro pins s σ H Q I h
 refine wpAny_Call_Name_kw (sU I hg hm D6 ?_ (by decide) (by decide))
 refine bH ?_ lV rfl
 rw[lV]
 show wpAny _ _ (spliced ((false,eval (.Call (.Name "reversed" p2) [e] [] fI) X.env)::[])) _ _ s
 refine Calls.spliced_cons ?_
 refine wpAny_Call_Name_kw (sU (u:=.type "reversed") I lU kP (by rfl) ?_ (by decide) (by decide))
 refine bH (cj ((v7 he qz hs) fI pins s σ H (λvs H1=>match vs with|[x]=>tX X.K x H1 Q|_=>False) I h) λus s1 ⟨vs,H1,I1,r,q⟩=>?_) hs rfl
 match vs,q with
 |[x],q =>
  obtain⟨a,xs,rfl,hq,q⟩:=q
  obtain⟨u,rfl,ru⟩:=r.one
  cases ru
  obtain⟨its,rv,pl,hz⟩:=I1.list hq
  have hl:=rv.length
  refine call_reversed_list pl.isList (Calls.spliced_nil ?_)
  have I2:L2.Inv X pins σ H1 { s1 with heap:=s1.heap.push (revObj a ((its.toArray.size:Int)-1)) }:=I1.kept (t':=s1.toks) λb o e=>ay _ e
  have st:(s1.heap.push (revObj a ((its.toArray.size:Int)-1))).IsRevIter s1.heap.objs.size a ((its.toArray.size:Int)-1):=⟨_,bn _ rfl,rfl,by simp[revObj]⟩
  have Uz:(s1.heap.push (revObj a ((its.toArray.size:Int)-1))).IsList a its.toArray:=by
   obtain⟨o,h1,h2⟩:=pl.isList
   exact⟨o,ay _ h1,h2⟩
  have RR:a≠s1.heap.objs.size:=by
   obtain⟨o,h1,h2⟩:=pl.isList
   exact aV (aF h1)
  refine Vs (I2.ok.hd hc) st Uz RR (by rw[aD,← hl]; exact hz) λh' tk gW c' kp hS mW=>?_
  have tM:(s1.heap.push (revObj a ((its.toArray.size:Int)-1))).objs.size=s1.heap.objs.size+1:=by simp[Heap.push]
  have hv:bA xs.reverse gW.toList:=by
   obtain⟨e1,e2⟩:=mW
   have e3:gW.size=its.length:=by rw[e1,aD]
   refine Mi ((cv).trans (hl.trans (e3.symm.trans cu.symm))) λi x u hx hu=>?_
   have hi:i<xs.length:=by
    have:=(aK.mp hx).1
    rwa[cv]at this
   rw[gG hi]at hx
   obtain⟨u',C9,ru⟩:=rv.get hx
   have:=e2 i u (by simpa using hu)
   rw[aD,← hl]at this
   have h3:its[xs.length-1-i]?=some u:=by simpa using this
   rw[C9]at h3
   cases h3
   exact ru
  have dI:xs.reverse.length<=sizeLine:=by rw[cv]; exact hz
  refine⟨.ref _,_,I1.laid (t':=tk) (λb o e=>kp b o (aV (aF e)) (ay _ e)) (by rw[tM]; omega) (show cN X.prog X.w _ h' _ (.lst _)from⟨dI,gW.toList,c',hv,hS⟩),rfl,q _ (I1.hok.fresh (by rw[tM]; omega))⟩
def pH:D->Option D
 |.lst ds=>some (.lst ds.reverse)
 |_=>none
theorem YZ {p1 p2 fI:Pos}(hn:n<=1)(hc:X.calm=true)(hg:Gl X "list")(hm:X.mg "list"=none)(lU:Gl X "reversed")(kP:X.mg "reversed"=none)(he:XE X ct ms n e f)(hs:starEach [e] X.env=[(false,eval e X.env)]:=by rfl)
  (lV:starEach [.Call (.Name "reversed" p2) [e] [] fI] X.env=[(false,eval (.Call (.Name "reversed" p2) [e] [] fI) X.env)]:=by rfl) :
  XO X ct ms 1 (.Call (.Name "list" p1) [.Call (.Name "reversed" p2) [e] [] fI] [] pos) (e1 pH f):=by
 obtain⟨t,pt,qt⟩:=he
 refine⟨_,YY hc hg hm lU kP pt hs lV,λF0 B F H ρ σ r Q rs e w=>?_⟩
 obtain⟨d,h1,h2⟩:=bind1 e
 refine qt F0 B F H ρ σ d _ rs h1 λv F1 H1 x1 l=>?_
 cases d with
 |lst ds =>
  cases h2
  obtain⟨a,vs,rfl,ha,hp⟩:=Al.lst1 hn l x1.fh
  exact⟨a,vs,rfl,ha,qf x1.fh (Pr.reverse hp) λv F2 H2 fp x2 l2 nd hf=>w v F2 H2 fp (x1.trans x2) l2 nd λz hz=>x1.hh.free (hf z hz)⟩
 |_=>cases h2
end
end L3
namespace L3
open PySem PySem.Spec L2
open PyProof.Rows hiding St
section
variable {X:Cx}{ct:Nat->Addr}{ms:List Mo}{n m l k:Nat}{a b c:Expr}{f g h:EF}{pos:Pos}
end
end L3
namespace L3
open PySem PySem.Spec L2
open PyProof.Rows hiding St
def BG (f:EF):EF:=λρ=>(f ρ).bind λd=>if d.sc=true then some d else none
section
variable {X:Cx}{ct:Nat->Addr}{ms:List Mo}{rk n m k:Nat}{a b c e tg:Expr}{f g h:EF}{pos:Pos}
theorem Rb (he:XE X ct ms n e f):XO X ct ms k e (BG f):=by
 obtain⟨t,p,q⟩:=he
 refine⟨t,p,λF0 B F H ρ σ d Q r e w=>?_⟩
 obtain⟨d0,h1,h2⟩:=bind1 e
 by_cases hs:d0.sc=true
 ·rw[if_pos hs]at h2
  cases h2
  exact q F0 B F H ρ σ d Q r h1 λv F' H' x l=>w v F' H' [] x (Ow.scal (Al.scal l hs) hs) bm λa z=>(by cases z)
 ·rw[if_neg hs]at h2; cases h2
end
end L3
namespace L3
open PySem PySem.Spec L2
open PyProof.Rows hiding St
section
variable {X:Cx}{ct:Nat->Addr}{ms:List Mo}{n:Nat}{e tg:Expr}{f:EF}{pos:Pos}
end
end L3
namespace L3
open PySem PySem.Spec L2
open PyProof.Rows hiding St
section
variable {X:Cx}{K:ae}{ct:Nat->Addr}{ms:List Mo}{n k:Nat}
end
end L3
namespace L3
open PySem PySem.Spec L2
open PyProof.Rows hiding St
section
variable {X:Cx}{ct:Nat->Addr}{ms:List Mo}{rk n m k:Nat}{a b c e:Expr}{f g h:EF}{pos:Pos}
end
end L3
namespace L3
open PySem PySem.Spec L2
open PyProof.Rows hiding St
def fY:D->Bool
 |.lst _=>true
 |.dK _ _=>true
 |.dT _ _=>true
 |_=>false
theorem Ow.cell {K:ae}{ct:Nat->Addr}{F H:Hp}{d:D}{v:V}{fp:List Addr}(h:Ow K ct F H 1 d v fp)(hc:fY d=true):∃a,v=.ref a/\fp=[a]:=by
 cases d with
 |lst ds=>obtain⟨a,vs,fr,rfl,rfl,_,_,ol⟩:=h.lst_inv; have e0:=ol.nil0; subst e0; exact⟨_,rfl,rfl⟩
 |dK ks ds=>obtain⟨a,vs,fr,rfl,rfl,_,_,_,ol⟩:=h.dK_inv; have e0:=ol.nil0; subst e0; exact⟨_,rfl,rfl⟩
 |dT ks ds=>obtain⟨a,vs,fr,rfl,rfl,_,_,_,ol⟩:=h.dT_inv; have e0:=ol.nil0; subst e0; exact⟨_,rfl,rfl⟩
 |_=>cases hc
section
variable {K:ae}{ct:Nat->Addr}{F F' H H' B F0:Hp}
theorem SL.putS {x:Addr}{d:D}:∀{ms:List Mo} {ρ:Env} {σ:St} {fp:List Addr} {i:Nat},SL K ct F B H ms ρ σ fp->fp.Nodup->ms[i]?=some (.so x)->ρ[i]?=some (some d) ->
  σ[i]?=some (some (.ref x))/\Ow K ct F H 1 d (.ref x) [x]/\x∈fp/\∀(F' H':Hp) (d':D),bw F F'->(∀a∈fp,a≠x->H' a=H a/\F' a=none)->Ow K ct F' H' 1 d' (.ref x) [x]->SL K ct F' B H' ms (ρ.set i (some d')) σ fp
 |_,_,_,_,_,.nil,_,e,_=>by simp at e
 |_,_,_,_,0,.no t,_,_,e=>by simp at e
 |_,_,_,_,0,.al h t,_,e,_=>by simp at e
 |_,_,_,_,0,.px h t,_,e,_=>by simp at e
 |_,_,_,_,0,.ow h t,_,e,_=>by simp at e
 |_,_,_,_,0,.so h t,nd,e,e'=>by
  simp at e e'
  subst e
  subst e'
  obtain⟨n1,n2⟩:=bi.mp nd
  exact⟨rfl,h,aa,λF' H' d' s k o=>.so o (t.frame s λa z=>k a (ai _ z) λe=>n1 (e ▸ z))⟩
 |_,_,_,_,i+1,.no t,nd,e,e'=>by
  obtain⟨h1,h2,h3,h4⟩:=SL.putS (i:=i) t nd (by simpa using e) (by simpa using e')
  exact⟨by simpa using h1,h2,h3,λF' H' d' s k o=>.no (h4 F' H' d' s k o)⟩
 |_,_,_,_,i+1,.al h t,nd,e,e'=>by
  obtain⟨h1,h2,h3,h4⟩:=SL.putS (i:=i) t nd (by simpa using e) (by simpa using e')
  exact⟨by simpa using h1,h2,h3,λF' H' d' s k o=>.al (h.mono s (.refl _)) (h4 F' H' d' s k o)⟩
 |_,_,_,_,i+1,.px h t,nd,e,e'=>by
  obtain⟨h1,h2,h3,h4⟩:=SL.putS (i:=i) t nd (by simpa using e) (by simpa using e')
  exact⟨by simpa using h1,h2,h3,λF' H' d' s k o=>.px (h.mono s (.refl _)) (h4 F' H' d' s k o)⟩
 |_,_,_,_,i+1,.so (x:=y) h t,nd,e,e'=>by
  obtain⟨n1,n2⟩:=bi.mp nd
  obtain⟨h1,h2,h3,h4⟩:=SL.putS (i:=i) t n2 (by simpa using e) (by simpa using e')
  refine⟨by simpa using h1,h2,ai _ h3,λF' H' d' s k o=>.so (h.frame s λa z=>?_) (h4 F' H' d' s (λa z=>k a (ai _ z)) o)⟩
  rw[ar]at z
  subst z
  exact k a aa λe=>n1 (e ▸ h3)
 |_,_,_,_,i+1,.ow (f:=f) h t,nd,e,e'=>by
  obtain⟨n1,n2,n3⟩:=aY.mp nd
  obtain⟨h1,h2,h3,h4⟩:=SL.putS (i:=i) t n2 (by simpa using e) (by simpa using e')
  refine⟨by simpa using h1,h2,ax _ h3,λF' H' d' s k o=>.ow (h.frame s λa z=>?_) (h4 F' H' d' s (λa z=>k a (ax _ z)) o)⟩
  exact k a (aT _ z) λe=>n3 a z x h3 e
theorem RS.changeS {ms:List Mo}{ρ:Env}{σ:St}{i:Nat}{d d':D}{ad:Addr}{o:HO}(rs:RS K ct F0 B ms F H ρ σ)(hm:ms[i]?=some (.so ad))(hρ:ρ[i]?=some (some d))(x:eM F H F' H')(HG:F' ad=none)(o':Ow K ct F' (cC H' ad o) 1 d' (.ref ad) [ad]) :
  RS K ct F0 B ms F' (cC H' ad o) (ρ.set i (some d')) σ:=by
 have r:=rs.ext x
 obtain⟨fp,sl,nd,hb⟩:=rs.sl
 obtain⟨h1,h2,h3,h4⟩:=sl.putS nd hm hρ
 have hB:B ad=none:=hb ad h3
 refine⟨r.f0,λz u h=>?_,λz u h=>?_,r.nf,fp,h4 F' _ d' x.ff (λa z ne=>?_) o',nd,hb⟩
 ·rw[yp (λe=>by rw[e,hB]at h; cases h)]; exact r.bh _ _ h
 ·rw[yp (λe=>by rw[e,HG]at h; cases h)]; exact x.fh _ _ h
 ·obtain⟨hn,o,ho⟩:=sl.cells a z
  rw[yp ne]
  exact⟨(x.hh _ _ ho).trans ho.symm,x.nf a o ho hn⟩
theorem RS.so_at {ms:List Mo}{ρ:Env}{σ:St}{i:Nat}{d:D}{ad:Addr}(rs:RS K ct F0 B ms F H ρ σ)(hm:ms[i]?=some (.so ad))(hρ:ρ[i]?=some (some d)):σ[i]?=some (some (.ref ad))/\Ow K ct F H 1 d (.ref ad) [ad]/\B ad=none:=by
 obtain⟨fp,sl,nd,hb⟩:=rs.sl
 obtain⟨h1,h2,h3,h4⟩:=sl.putS nd hm hρ
 exact⟨h1,h2,hb _ h3⟩
end
section
variable {X:Cx}{ct:Nat->Addr}{ms:List Mo}{rk n m k:Nat}{st:Stmt}{rest:List Stmt}{a b c e tg:Expr}{f g h:EF}{p q:BF}{u w:SF}{pos:Pos}
theorem Xz (i:Nat){xa:Addr}{x:Str}{j:Expr}{p1 eD:Pos}{fj:EF}(hm:ms[i]?=some (.so xa))(hj:XE X ct ms n j fj)(he:XE X ct ms 0 e f)(hN:X.N[i]?=some x:=by rfl)(hv:lP X.env.scope x:=by first|exact Or.inl rfl|exact Or.inr (Or.inl rfl)|exact Or.inr (Or.inr rfl))(hd:(x == ("__debug__":Str))=false:=by decide)
  (gA:(x == ("__classdict__":Str))=false:=by decide)
  (ha:∀v,assign (.Subscript (.Name x p1) j eD) X.env v=(do
   let ov ← holding [v] (eval (.Name x p1) X.env)
   let iv ← holding [v,ov] (eval j X.env)
   standAt eD
   holding [v,ov,iv] (setItem ov iv v)
   release [v,ov,iv] []):=by intro _; rfl)
  (hs:swapsWithSole [.Subscript (.Name x p1) j eD] e pos.line X.env=pure false:=by rfl) (hw:swappedStores [.Subscript (.Name x p1) j eD] e X.env=pure none:=by rfl)
  (h1:(assignEach [.Subscript (.Name x p1) j eD] X.env).map (·.2)=[assign (.Subscript (.Name x p1) j eD) X.env]:=by rfl) :
  XS X ct ms rk (.Assign [.Subscript (.Name x p1) j eD] e pos) (my i fj f):=by
 obtain⟨t,pt,qt⟩:=he
 obtain⟨tj,sI,sK⟩:=hj
 refine⟨_,MH pt (QL (jl hN hv hd gA) sI LV ha) hs hw h1,λF0 B F H ρ σ o E rs e z=>?_⟩
 obtain⟨d,g1,g2⟩:=bind1 e
 obtain⟨d1,o9,g3,g4,g5⟩:=cy g2
 refine qt F0 B F H ρ σ d _ rs g1 λv0 F1 H1 x1 l0=>?_
 have hE:=rs.ext x1
 obtain⟨hσ,ow,hB⟩:=hE.so_at hm (ye g3)
 refine⟨_,hσ,sK F0 B F1 H1 ρ σ o9 _ hE g4 λvj F2 H2 x2 lj=>?_⟩
 cases d1 with
 |lst ds =>
  cases o9 with
  |int zi =>
   obtain⟨lQ,g6,g7⟩:=bind1 g5
   cases g7
   obtain⟨jn,g8,g9⟩:=bind1 g6
   cases g9
   obtain⟨ad,vs,lS,ea,ef,hF,hH,ol⟩:=ow.lst_inv
   cases ea
   cases ef
   have hA:H2 xa=some (.lst vs):=x2.hh _ _ hH
   have fA:F2 xa=none:=x2.nf xa _ hH hF
   refine⟨xa,vs,zi,jn,rfl,lj.int,hA,by rw[← ol.length]; exact g8,?_⟩
   exact z σ F2 _ (hE.changeS hm (ye g3) x2 fA (.inr (.lst fA yu (OwL.set0 ⟨Dt.mono x2.ff l0,rfl⟩ (λ_ _ _ q=>q.2) jn (ol.mono λ_ _ _ _ q=>⟨q.1.mono x2.ff,q.2⟩)))))
  |_=>cases g5
 |_=>cases g5
theorem XB (i:Nat){xa:Addr}{x:Str}{j:Expr}{p1 eD:Pos}{fj:EF}(hm:ms[i]?=some (.so xa))(hu:X.A.units+1<cLine)(hj:XE X ct ms 0 j fj)(he:XE X ct ms 0 e f)(hN:X.N[i]?=some x:=by rfl)(hv:lP X.env.scope x:=by first|exact Or.inl rfl|exact Or.inr (Or.inl rfl)|exact Or.inr (Or.inr rfl))(hd:(x == ("__debug__":Str))=false:=by decide)
  (gA:(x == ("__classdict__":Str))=false:=by decide) (hs:swapsWith e (some (.Subscript (.Name x p1) j eD)) pos.line X.env=pure false:=by rfl) :
  XS X ct ms rk (.Assign [.Subscript (.Name x p1) j eD] e pos) (iJ i fj f):=by
 obtain⟨t,pt,qt⟩:=he
 obtain⟨tj,sI,sK⟩:=hj
 refine⟨_,Ql hu (jl hN hv hd gA) sI pt hs,λF0 B F H ρ σ o E rs e z=>?_⟩
 obtain⟨d,g1,g2⟩:=bind1 e
 obtain⟨d1,o9,g3,g4,g5⟩:=cy g2
 refine qt F0 B F H ρ σ d _ rs g1 λv0 F1 H1 x1 l0=>?_
 have hE:=rs.ext x1
 obtain⟨hσ,ow,hB⟩:=hE.so_at hm (ye g3)
 refine⟨_,hσ,sK F0 B F1 H1 ρ σ o9 _ hE g4 λvj F2 H2 x2 lj=>?_⟩
 have Dl:Dt X.K ct F2 d v0:=Dt.mono x2.ff l0
 cases d1 with
 |dK ks ds =>
  dsimp only at g5
  obtain⟨key,g6,g7⟩:=bind1 g5
  by_cases hz:ks.length<16777216
  ·rw[if_pos hz]at g7
   cases g7
   obtain⟨ad,vs,lS,ea,ef,hF,hH,hl,ol⟩:=ow.dK_inv
   cases ea
   cases ef
   have hA:=x2.hh _ _ hH
   have fA:F2 xa=none:=x2.nf xa _ hH hF
   have hp:Pr (Dt X.K ct F2) ds vs:=ol.pr λ_ _ _ _ q=>q.1.mono x2.ff
   obtain⟨us,zK,zL,zM⟩:=Gi Dl key hl hp
   have hk:=GP g6 lj
   subst hk
   refine⟨xa,_,rfl,ky.k hA (by rw[dr,← hl,e9,sizeLine_eq]; exact hz),?_⟩
   rw[zK]
   exact z σ F2 _ (hE.changeS hm (ye g3) x2 fA (.inr (.dK fA yu zL (OwL.ofPr (zM.mono λ_ _ q=>⟨q,rfl⟩)))))
  ·rw[if_neg hz]at g7; cases g7
 |dT ks ds =>
  cases o9 with
  |tup js =>
   dsimp only at g5
   obtain⟨key,g6,g7⟩:=bind1 g5
   by_cases hz:ks.length<16777216
   ·rw[if_pos hz]at g7
    cases g7
    obtain⟨ad,vs,lS,ea,ef,hF,hH,hl,ol⟩:=ow.dT_inv
    cases ea
    cases ef
    have hA:=x2.hh _ _ hH
    have fA:F2 xa=none:=x2.nf xa _ hH hF
    have hp:Pr (Dt X.K ct F2) ds vs:=ol.pr λ_ _ _ _ q=>q.1.mono x2.ff
    obtain⟨us,zK,zL,zM⟩:=Gi Dl key hl hp
    obtain⟨bd,ws,rfl,hb,C2⟩:=lj.tup x2.fh
    have hk:=Gy g6 C2
    subst hk
    refine⟨xa,_,rfl,ky.t hA hb (by rw[dr,← hl,e9,sizeLine_eq]; exact hz),?_⟩
    rw[zK]
    exact z σ F2 _ (hE.changeS hm (ye g3) x2 fA (.inr (.dT fA yu zL (OwL.ofPr (zM.mono λ_ _ q=>⟨q,rfl⟩)))))
   ·rw[if_neg hz]at g7; cases g7
  |_=>cases g5
 |_=>cases g5
abbrev EM:=Env->Option (D×Env)
def qT (X:Cx)(ct:Nat->Addr)(ms:List Mo)(st:List Stmt)(f:EM):Prop:=∃t,mV X st t/\∀(F0 B F H:Hp) (ρ ρ':Env) (σ:St) (d:D) (E:Ends),RS X.K ct F0 B ms F H ρ σ->f ρ=some (d,ρ')->(∀v σ' F' H',RS X.K ct F0 B ms F' H' ρ' σ'->Dt X.K ct F' d v->E.rt v H')->t E σ H
def sA (f:SF)(g:EM):EM:=λρ=>(f ρ).bind λo=>match o with
 |.nx ρ'=>g ρ'
 |_=>none
def AA (f:EF):EM:=λρ=>(f ρ).bind λd=>some (d,ρ)
theorem zsv (he:XE X ct ms 0 e f):qT X ct ms [.Return (some e) pos] (AA f):=by
 obtain⟨t,pt,qt⟩:=he
 refine⟨_,Qb (MG pt),λF0 B F H ρ ρ' σ d E rs e z=>?_⟩
 obtain⟨d',h1,h2⟩:=bind1 e
 cases h2
 exact qt F0 B F H ρ σ _ _ rs h1 λv F' H' x l=>z v σ F' H' (rs.ext x) l
theorem Qk {gm:EM}(h1:XS X ct ms 0 st u)(h2:qT X ct ms rest gm):qT X ct ms (st::rest) (sA u gm):=by
 obtain⟨t,pt,qt⟩:=h1
 obtain⟨t2,kl,nc⟩:=h2
 refine⟨_,PJ pt kl,λF0 B F H ρ ρ' σ d E rs e z=>?_⟩
 obtain⟨o1,e1,e2⟩:=bind1 e
 refine qt F0 B F H ρ σ o1 _ rs e1 ?_
 cases o1 with
 |nx ρ1=>exactλσ' F' H' Ku=>nc F0 B F' H' ρ1 ρ' σ' d E Ku e2 z
 |rt d=>cases e2
 |bk ρ'=>cases e2
 |ct ρ'=>cases e2
end
theorem SL.app {K:ae}{ct:Nat->Addr}{F B H:Hp}{N2:List Mo}{ρ2:Env}{σ2:St}{Nl:List Addr}(h2:SL K ct F B H N2 ρ2 σ2 Nl):∀{ms:List Mo} {ρ:Env} {σ:St} {fp:List Addr},SL K ct F B H ms ρ σ fp->SL K ct F B H (ms++N2) (ρ ++ ρ2) (σ ++ σ2) (fp++Nl)
 |_,_,_,_,.nil=>h2
 |_,_,_,_,.no t=>.no (SL.app h2 t)
 |_,_,_,_,.al h t=>.al h (SL.app h2 t)
 |_,_,_,_,.px h t=>.px h (SL.app h2 t)
 |_,_,_,_,.so h t=>.so h (SL.app h2 t)
 |_,_,_,_,.ow h t=>by
  rw[bT]
  exact .ow h (SL.app h2 t)
theorem SL.none {K:ae}{ct:Nat->Addr}{F B H:Hp}:∀(ms:List Mo),SL K ct F B H ms (ak ms.length none) (ak ms.length none) []
 |[]=>.nil
 |m::ms=>.no (SL.none ms)
theorem SL.start0 {K:ae}{ct:Nat->Addr}{F B H:Hp}:∀{ds:List D} {us:List V},Pr (Dt K ct F) ds us->SL K ct F B H (ak ds.length (Mo.ow 0)) (ds.map some) (us.map some) []
 |_,_,.nil=>.nil
 |_,_,.cons h t=>SL.ow (f:=[]) (Ow.zero h) (SL.start0 t)
def By (K:ae)(ct:Nat->Addr)(n:Nat)(mf:List D->Option D):Sp:=λvs H Q _=>∃(F:Hp) (ds:List D) (us:List V) (d p q p' q':D) (a b:Addr),vs=us++[.ref a,.ref b]/\ds.length=n/\bw F H/\Pr (Dt K ct F) ds us/\a≠b/\Ow K ct F H 1 p (.ref a) [a]/\Ow K ct F H 1 q (.ref b) [b]/\mf (ds++[p,q])=some (.tup [d,p',q']) /\
 ∀v F' H',bw F F'->(∀x o,H x=some o->x≠a->x≠b->H' x=some o)->bw F' H'->(∀x o,H x=some o->F x=none->F' x=none)->Ow K ct F' H' 1 p' (.ref a) [a]->Ow K ct F' H' 1 q' (.ref b) [b]->Dt K ct F' d v->Q v H'
theorem By.len {K:ae}{ct:Nat->Addr}{n:Nat}{mf:List D->Option D}{ps:List Str}(h:n+2=ps.length):∀vs H Q E,By K ct n mf vs H Q E->vs.length=ps.length:=by
 rintro vs H Q E ⟨F,ds,us,d,p,q,p',q',a,b,rfl,hn,_,l,_⟩
 rw[← h,← hn,l.length,aI]
 rfl
def Az (n:Nat)(N:List Str)(bf:EM)(ds:List D):Option D:=(bf (startD N ds)).bind λr=>(r.2[n]?).join.bind λp=>(r.2[n+1]?).join.bind λq=>some (.tup [r.1,p,q])
theorem XC {ct:Nat->Addr}{P:Program}{w:World}{K:ae}{mg:Str->Option Value}{base:Heap}{x qual:Str}{st:Stmt}{fa:Addr}{fd:FuncData}{N ps:List Str}{kk n:Nat}{ms:List Mo}{bf:EM}(Fn:Fun2 K x qual st fa fd)(S:aW N ps (ah st))(C3:n+2=ps.length)(NL:n+2+ms.length=N.length)
  (body:∀(a b:Addr) (df:Value) (A:Around) (outer:List PySem.Env) (s:Shared) (H:Hp) (E:XK),dz kk (A.deeper (envOfC qual (ah st) s.heap.objs.size fa df))->qT (li dR P w K mg base N qual (ah st) fa df A outer s H E).nox ct (ak n (Mo.ow 0) ++ .so a::.so b::ms) (aj st) bf) :
  bM P w K mg base dR (kk+1) fa fd ps (By K ct n (Az n N bf)):=by
 refine Fn.ok S (By.len C3) λdf A outer s H vs Q E hr h=>?_
 obtain⟨F,ds,us,d,p,q,p',q',a,b,rfl,hn,sF,l,nZ,oa,ob,hm,z⟩:=h
 subst hn
 obtain⟨t,pt,qt⟩:=body a b df A outer s H E hr
 refine⟨t,pt,?_⟩
 obtain⟨⟨d1,ρ'⟩,h1,h2⟩:=bind1 hm
 obtain⟨p1,h3,h4⟩:=bind1 h2
 obtain⟨q1,h5,h6⟩:=bind1 h4
 cases h6
 have NR:us.length=ds.length:=l.length.symm
 have HF:=(oa.cells a aa).1
 have HH:=(ob.cells b aa).1
 have UF:bw F (jI (jI H a) b):=λy o hy=>by
  rw[jo (λe=>by rw[e,HH]at hy; cases hy),jo (λe=>by rw[e,HF]at hy; cases hy)]
  exact sF _ _ hy
 have hB:bw (jI (jI H a) b) H:=(Gh _ _).trans (Gh _ _)
 refine qt F (jI (jI H a) b) F H (startD N (ds++[p,q])) ρ' (L2.start N (us++[.ref a,.ref b])) d1 _ ⟨.refl _,hB,sF,λ_ _ _ h=>h,[a,b],?_,by simp[nZ],λy hy=>?_⟩ h1 ?_
 ·have e1:startD N (ds++[p,q])=ds.map some++(some p::some q::ak ms.length none):=by
   unfold startD
   rw[show N.length-(ds++[p,q]).length=ms.length by rw[aI]; simp; omega]
   simp
  have e2:L2.start N (us++[.ref a,.ref b])=us.map some++(some (.ref a)::some (.ref b)::ak ms.length none):=by
   unfold L2.start
   rw[show N.length-(us++[V.ref a,V.ref b]).length=ms.length by rw[aI]; simp; omega]
   simp
  rw[e1,e2]
  have:=SL.app (.so oa (.so ob (SL.none (K:=K) (ct:=ct) (F:=F) (B:=jI (jI H a) b) (H:=H) ms))) (SL.start0 (B:=jI (jI H a) b) (H:=H) l)
  have h7:SL K ct F (jI (jI H a) b) H (ak ds.length (Mo.ow 0)++Mo.so a::Mo.so b::ms) (ds.map some++(some p::some q::ak ms.length none)) (us.map some++(some (.ref a)::some (.ref b)::ak ms.length none)) [a,b]:=by simpa using this
  exact h7
 ·simp at hy
  rcases hy with rfl|rfl
  ·rw[jo nZ]; exact GH _ _
  ·exact GH _ _
 ·intro v σ' F' H' r dt
  obtain⟨_,o1,_⟩:=r.so_at (i:=ds.length) (ad:=a) (by simp) (ye h3)
  obtain⟨_,o2,_⟩:=r.so_at (i:=ds.length+1) (ad:=b) (by simp) (ye h5)
  refine z v F' H' r.f0 (λy o hy n1 n2=>r.bh _ _ (by rw[jo n2,jo n1]; exact hy)) r.fh (λy o hy hn=>?_) o1 o2 dt
  by_cases ea:y=a
  ·subst ea; exact(o1.cells _ aa).1
  by_cases eb:y=b
  ·subst eb; exact(o2.cells _ aa).1
  exact r.nf y o (by rw[jo eb,jo ea]; exact hy) hn
section
variable {X:Cx}{ct:Nat->Addr}{ms:List Mo}{rk n m k:Nat}{st:Stmt}{rest:List Stmt}{a b c e tg:Expr}{f g h:EF}{p q:BF}{u w:SF}{pos:Pos}{i j:Nat}
def Ek (X:Cx)(ct:Nat->Addr)(ms:List Mo)(i j:Nat)(es:List Expr)(f:Env->Option (List D)):Prop:=∃t,PA X es t/\∀(F0 B F H:Hp) (ρ:Env) (σ:St) (ds:List D) (a b:Addr) (Q:List V->Hp->Prop),RS X.K ct F0 B ms F H ρ σ->f ρ=some ds->σ[i]?=some (some (.ref a))->σ[j]?=some (some (.ref b)) ->
 (∀us F' H',eM F H F' H'->Pr (Dt X.K ct F') ds us->Q (us++[.ref a,.ref b]) H')->t σ H Q
theorem Y0 {x y:Str}{p1 p2:Pos}(hN:X.N[i]?=some x:=by rfl)(hv:lP X.env.scope x:=by first|exact Or.inl rfl|exact Or.inr (Or.inl rfl)|exact Or.inr (Or.inr rfl))(hd:(x == ("__debug__":Str))=false:=by decide)(gA:(x == ("__classdict__":Str))=false:=by decide)
  (CK:X.N[j]?=some y:=by rfl) (Dd:lP X.env.scope y:=by first|exact Or.inl rfl|exact Or.inr (Or.inl rfl)|exact Or.inr (Or.inr rfl)) (hd2:(y == ("__debug__":Str))=false:=by decide) (pw:(y == ("__classdict__":Str))=false:=by decide) :
  Ek X ct ms i j [.Name x p1,.Name y p2] aNil:=by
 refine⟨_,v7 (jl hN hv hd gA) (v7 (jl CK Dd hd2 pw) qz),λF0 B F H ρ σ ds a b Q rs e ha hb z=>?_⟩
 cases e
 exact⟨_,ha,_,hb,z [] F H (.refl rs.fh) .nil⟩
theorem Md {es:List Expr}{fs:Env->Option (List D)}(h1:XE X ct ms 0 a f)(h2:Ek X ct ms i j es fs)(hs:starEach (a::es) X.env=(false,eval a X.env)::starEach es X.env:=by rfl):Ek X ct ms i j (a::es) (aCons f fs):=by
 obtain⟨t,pt,qt⟩:=h1
 obtain⟨t2,kl,nc⟩:=h2
 refine⟨_,v7 pt kl hs,λF0 B F H ρ σ ds xa xb Q rs e ha hb z=>?_⟩
 obtain⟨d,lQ,g1,g2,g3⟩:=cy e
 cases g3
 refine qt F0 B F H ρ σ d _ rs g1 λv F1 H1 x1 l=>?_
 exact nc F0 B F1 H1 ρ σ lQ xa xb _ (rs.ext x1) g2 ha hb λus F2 H2 x2 l2=>z (v::us) F2 H2 (x1.trans x2) (.cons (Dt.mono x2.ff l) l2)
def XM (X:Cx)(ct:Nat->Addr)(ms:List Mo)(e:Expr)(g:EM):Prop:=∃t,PE X e t/\∀(F0 B F H:Hp) (ρ ρ':Env) (σ:St) (d:D) (Q:VK),RS X.K ct F0 B ms F H ρ σ->g ρ=some (d,ρ')->(∀v F' H',RS X.K ct F0 B ms F' H' ρ' σ->Dt X.K ct F' d v->Q v H')->t σ H Q
def ke (i j:Nat)(fs:Env->Option (List D))(mf:List D->Option D):EM:=λρ=>(fs ρ).bind λds=>(eV i ρ).bind λp=>(eV j ρ).bind λq=>if fY p=true/\fY q=true then(mf (ds++[p,q])).bind λr=>match r with
 |.tup [d,p',q']=>some (d,(ρ.set i (some p')).set j (some q'))
 |_=>none else none
theorem PU {σ:St}{i:Nat}{v:V}(h:σ[i]?=some (some v)):σ.set i (some v) = σ:=by
 apply iS
 intro k
 rw[oA]
 by_cases e:i=k
 ·subst e
  rw[if_pos rfl]
  by_cases hl:i < σ.length
  ·rw[if_pos hl,h]
  ·rw[if_neg hl,mD (by omega)]
 ·rw[if_neg e]
theorem RS.two {K:ae}{F0 B F H:Hp}{ρ:Env}{σ:St}{p q:D}(rs:RS K ct F0 B ms F H ρ σ)(n8:i≠j)(BP:ms[i]?=some (.ow 1))(tJ:ms[j]?=some (.ow 1))(hp:ρ[i]?=some (some p))(hq:ρ[j]?=some (some q))(cp:fY p=true)(cq:fY q=true) :
  ∃a b,σ[i]?=some (some (.ref a))/\σ[j]?=some (some (.ref b))/\a≠b/\Ow K ct F H 1 p (.ref a) [a]/\Ow K ct F H 1 q (.ref b) [b]/\B a=none/\B b=none /\
   ∀(F' H':Hp) (p' q':D),bw F F'->(∀x o,H x=some o->x≠a->x≠b->H' x=some o)->bw F' H'->(∀x o,H x=some o->F x=none->F' x=none)->Ow K ct F' H' 1 p' (.ref a) [a]->Ow K ct F' H' 1 q' (.ref b) [b]->RS K ct F0 B ms F' H' ((ρ.set i (some p')).set j (some q')) σ:=by
 obtain⟨f1,fr,n1,b1,dj,i4,cf,put⟩:=rs.put (F':=F) (H':=H) BP
 obtain⟨v,hσ,ow⟩:=i4 p hp
 obtain⟨a,rfl,rfl⟩:=ow.cell cp
 obtain⟨f2,Nm,n2,b2,dj2,TU,cf2,put2⟩:=rs.put (F':=F) (H':=H) tJ
 obtain⟨v2,oh,AE⟩:=TU q hq
 obtain⟨b,rfl,rfl⟩:=AE.cell cq
 have ca:=ow.cells a aa
 have cb:=AE.cells b aa
 have nZ:a≠b:=by
  intro e
  subst e
  have r1:=put F (jI H a) (.non) .non [] (.refl _) (λy o hy=>by rw[jo (λe=>by rw[e,b1 a aa]at hy; cases hy)]; exact rs.bh _ _ hy) (λy o hy=>by rw[jo (λe=>by rw[e,ca.1]at hy; cases hy)]; exact rs.fh _ _ hy) rs.nf
   (λy hy=>⟨jo (λe=>dj a aa (e ▸ hy)),(cf y hy).1⟩) (Ow.scal .non rfl) bm (λy hy=>by cases hy) (λy hy=>by cases hy)
  obtain⟨f3,Fi,n3,b3,HA,IF,Nf,put3⟩:=r1.put (F':=F) (H':=H) tJ
  obtain⟨v3,Dg,FH⟩:=IF q (by rw[bR n8]; exact hq)
  obtain⟨a3,rfl,rfl⟩:=FH.cell cq
  rw[bR n8,oh]at Dg
  cases Dg
  obtain⟨o,ho⟩:=(FH.cells a aa).2
  rw[GH]at ho
  cases ho
 refine⟨a,b,hσ,oh,nZ,ow,AE,b1 a aa,b2 b aa,λF' H' p' q' s1 kH s3 nf o1 o2=>?_⟩
 have Ba:=b1 a aa
 have Bb:=b2 b aa
 have HF:=(o1.cells a aa).1
 have HH:=(o2.cells b aa).1
 obtain⟨ob,Tu⟩:=cb.2
 have hm:∀y,y≠b->cC H' b ob y=H' y:=λy ne=>yp ne
 have r1:=put F' (cC H' b ob) p' (.ref a) [a] s1 (λy o hy=>by
   have na:y≠a:=λe=>by rw[e,Ba]at hy; cases hy
   have nb:y≠b:=λe=>by rw[e,Bb]at hy; cases hy
   rw[hm y nb]
   exact kH y o (rs.bh _ _ hy) na nb) (λy o hy=>by
   rw[hm y (λe=>by rw[e,HH]at hy; cases hy)]
   exact s3 _ _ hy) (λy o hy hn=>nf y o (rs.bh _ _ hy) (rs.nf y o hy hn)) (λy hy=>by
   obtain⟨hn,o,ho⟩:=cf y hy
   refine⟨?_,nf y o ho hn⟩
   have na:y≠a:=λe=>dj a aa (e ▸ hy)
   by_cases nb:y=b
   ·subst nb; rw[yu,Tu]
   ·rw[hm y nb,kH y o ho na nb,ho]) (o1.frame (.refl _) λy hy=>by
   rw[ar]at hy
   subst hy
   exact⟨hm _ nZ,HF⟩) (by simp) (λy hy=>by
   rw[ar]at hy
   subst hy
   exact dj _ aa) (λy hy=>by
   rw[ar]at hy
   subst hy
   exact Ba)
 rw[PU hσ]at r1
 obtain⟨f3,Fi,n3,b3,HA,IF,Nf,put3⟩:=r1.put (F':=F) (H':=H) tJ
 obtain⟨v3,Dg,FH⟩:=IF q (by rw[bR n8]; exact hq)
 obtain⟨a3,rfl,rfl⟩:=FH.cell cq
 rw[oh]at Dg
 cases Dg
 have r2:=put3 F' H' q' (.ref b) [b] (.refl _) (λy o hy=>by
   have na:y≠a:=λe=>by rw[e,Ba]at hy; cases hy
   have nb:y≠b:=λe=>by rw[e,Bb]at hy; cases hy
   exact kH y o (rs.bh _ _ hy) na nb) s3 r1.nf (λy hy=>by
   have nb:y≠b:=λe=>HA b aa (e ▸ hy)
   exact⟨(hm y nb).symm,(Nf y hy).1⟩) o2 (by simp) (λy hy=>by
   rw[ar]at hy
   subst hy
   exact HA _ aa) (λy hy=>by
   rw[ar]at hy
   subst hy
   exact Bb)
 rw[PU oh]at r2
 exact r2
variable {kk:Nat}{fa:Addr}{fd:FuncData}{ps:List Str}{mf:List D->Option D}{x:Str}{pp:Pos}
theorem Y1 {es:List Expr}{fs:Env->Option (List D)}{kM:List Value}(n8:i≠j)(BP:ms[i]?=some (.ow 1))(tJ:ms[j]?=some (.ow 1))(Fn:bM X.prog X.w X.K X.mg X.base dR kk fa fd ps (By X.K ct n mf))(hr:dz kk X.A)(hg:Gl X x)(hm:X.mg x=some (.ref fa))(hk:ao X.K (.ref fa)=true)
  (hb:Binds X.K fd ps kM) (hd:bA [] kM) (hn:∀ρ ds,fs ρ=some ds->ds.length=n) (ha:Ek X ct ms i j (e::es) fs)
  (jQ:(x == ("__debug__":Str))=false:=by decide) (he:starEach (e::es) X.env=(false,eval e X.env)::starEach es X.env:=by rfl) (gF:(backTo pos (starEach es X.env)).any (·.1)=false:=by rfl) :
  XM X ct ms (.Call (.Name x pp) (e::es) [] pos) (ke i j fs mf):=by
 obtain⟨t,pt,qt⟩:=ha
 refine⟨_,Qf Fn hr hg hm hk hb hd kS pt jQ he gF,λF0 B F H ρ ρ' σ d Q rs e z=>?_⟩
 obtain⟨ds,h1,h2⟩:=bind1 e
 obtain⟨p,h3,h4⟩:=bind1 h2
 obtain⟨q,h5,h6⟩:=bind1 h4
 by_cases hc:fY p=true/\fY q=true
 ·rw[if_pos hc]at h6
  obtain⟨r,h7,h8⟩:=bind1 h6
  have:∃p' q',r=.tup [d,p',q']/\ρ'=(ρ.set i (some p')).set j (some q'):=by
   split at h8
   ·cases h8; exact⟨_,_,rfl,rfl⟩
   ·cases h8
  obtain⟨p',q',rfl,rfl⟩:=this
  obtain⟨a0,b0,hσ,oh,_⟩:=rs.two n8 BP tJ (ye h3) (ye h5) hc.1 hc.2
  refine qt F0 B F H ρ σ ds a0 b0 _ rs h1 hσ oh λus F1 H1 x1 l=>?_
  obtain⟨a,b,qE,Df,nZ,oa,ob,Ba,Bb,put⟩:=(rs.ext x1).two n8 BP tJ (ye h3) (ye h5) hc.1 hc.2
  rw[hσ]at qE
  rw[oh]at Df
  cases qE
  cases Df
  refine⟨F1,ds,us,d,p,q,p',q',a0,b0,by simp,hn _ _ h1,x1.fh,l,nZ,oa,ob,h7,λv F' H' s1 kH s3 nf o1 o2 dt=>?_⟩
  exact z v F' H' (put F' H' p' q' s1 kH s3 nf o1 o2) dt
 ·rw[if_neg hc]at h6; cases h6
theorem zsw:∀(ρ:Env) (ds:List D),aNil ρ=some ds->ds.length=0:=λρ ds e=>by cases e; rfl
theorem Ml {fs:Env->Option (List D)}(h:∀(ρ:Env) (ds:List D),fs ρ=some ds->ds.length=n):∀(ρ:Env) (ds:List D),aCons f fs ρ=some ds->ds.length=n+1:=λρ ds e=>by
 obtain⟨x,xs,h1,h2,h3⟩:=cy e
 cases h3
 rw[aJ,h ρ xs h2]
def kU (i:Nat)(g:EM):SF:=λρ=>(g ρ).bind λr=>some (.nx (r.2.set i (some r.1)))
theorem Y2 {i:Nat}{x:Str}{pos':Pos}{gm:EM}(hm:ms[i]?=some (.ow 0))(hN:X.N.Nodup)(hi:X.N[i]?=some x)(hx:Loc X.env.scope x)(he:XM X ct ms e gm)(hs:swapsWith e (some (.Name x pos')) pos.line X.env=pure false:=by rfl)
  (hf:X.fn x=true\/X.env.scope.names.lookup x=some .local:=by first|exact .inl rfl|exact .inr rfl|assumption):XS X ct ms rk (.Assign [.Name x pos'] e pos) (kU i gm):=by
 obtain⟨t,pt,qt⟩:=he
 refine⟨_,QM hN hi hx pt hs hf,λF0 B F H ρ σ o E rs e w=>?_⟩
 obtain⟨⟨d,ρ'⟩,h1,h2⟩:=bind1 e
 cases h2
 exact qt F0 B F H ρ ρ' σ d _ rs h1 λv F' H' r l=>w _ F' H' (r.set hm (.refl r.fh) (Ow.zero l) bm λa z=>(by cases z))
end
end L3
namespace L2
open PySem PySem.Spec
open PyProof.Rows hiding St
section
variable {X:Cx}{pos:Pos}
end
end L2
namespace L3
open PySem PySem.Spec L2
open PyProof.Rows hiding St
section
variable {X:Cx}{ct:Nat->Addr}{ms:List Mo}{n:Nat}{pos:Pos}
end
end L3
namespace L3
open PySem PySem.Spec L2
open PyProof.Rows hiding St
section
variable {X:Cx}{ct:Nat->Addr}{ms:List Mo}{rk n m k i:Nat}{a b c e:Expr}{f g h:EF}{pos:Pos}
end
end L3
namespace L3
open PySem PySem.Spec L2
open PyProof.Rows hiding St
section
variable {X:Cx}{ct:Nat->Addr}{ms:List Mo}{rk n m k:Nat}{a b c e o:Expr}{f g h:EF}{pos:Pos}
end
end L3
namespace L2
open PySem PySem.Spec
open PyProof.Rows hiding St
section
variable {X:Cx}{CX:oH}{k:Nat}{f C:Addr}{fd:FuncData}{ps ks:List Str}{sp:Sp}{E:XK}{x m:Str}{p pos cO Ay:Pos}{e o:Expr}{es:List Expr}{kws:List Keyword}{te ta:TE}{t tk:TA}{nm:Option Str}
variable {g:List Value->List Value->List Value}{gV:List V->List V->List V}
end
end L2
namespace L3
open PySem PySem.Spec L2
open PyProof.Rows hiding St
section
variable {X:Cx}{ct:Nat->Addr}{ms:List Mo}{rk n m k kk:Nat}{e a:Expr}{f:EF}{x:Str}{pp pos Ay:Pos}{fa:Addr}{fd:FuncData}{ps ks:List Str}{pm cs:List Nat}{mi:Nat->List D->Option D}
end
end L3
namespace L3
open PySem PySem.Spec L2
open PyProof.Rows hiding St
section
variable {X:Cx}{ct:Nat->Addr}{ms:List Mo}{rk n m k i j:Nat}{a b c e:Expr}{f g h:EF}{pos:Pos}
variable {kk:Nat}{fa:Addr}{fd:FuncData}{ps:List Str}{mf:List D->Option D}{x y:Str}{pp:Pos}
end
end L3
namespace L3
open PySem PySem.Spec L2
open PyProof.Rows hiding St
open Classical in
open Classical in
section
variable {X:Cx}
end
section
variable {K:ae}{ct:Nat->Addr}{n m k:Nat}
end
section
variable {α:Type}[DecidableEq α]
end
end L3
namespace L3
open PySem PySem.Spec L2
open PyProof.Rows hiding St
section
variable {X:Cx}{ct:Nat->Addr}{ms:List Mo}{rk n m k:Nat}{st:Stmt}{rest:List Stmt}{a b c e tg:Expr}{f g h:EF}{p q:BF}{u w:SF}{pos:Pos}{K:ae}
def lI (i j:Nat)(fk f:EF):SF:=λρ=>(eV j ρ).bind λq=>(f ρ).bind λz=>match q,z with
 |.lst es,.int y=>if es.length<=16777216 then(ixN es.length y).bind λt=>es[t]?.bind λd=>(eV i (ρ.set j (some (.lst (es.eraseIdx t))))).bind λo=>(fk (ρ.set j (some (.lst (es.eraseIdx t))))).bind λz2=>match o,z2 with
  |.lst ds,.int zi=>(setAt ds zi d).bind λlQ=>some (.nx ((ρ.set j (some (.lst (es.eraseIdx t)))).set i (some (.lst lQ))))
  |_,_=>none
  else none
 |_,_=>none
theorem WW (i j:Nat){x y:Str}{kx:Expr}{fk:EF}{p1 p2 eD gh et:Pos}(hm:ms[i]?=some (.ow 1))(kP:ms[j]?=some (.ow 1))(n8:i≠j)(hk:XE X ct ms m kx fk)(he:XE X ct ms n e f)
  (hN:X.N[i]?=some x:=by rfl) (hv:lP X.env.scope x:=by first|exact Or.inl rfl|exact Or.inr (Or.inl rfl)|exact Or.inr (Or.inr rfl)) (hd:(x == ("__debug__":Str))=false:=by decide) (gA:(x == ("__classdict__":Str))=false:=by decide)
  (CK:X.N[j]?=some y:=by rfl) (Dd:lP X.env.scope y:=by first|exact Or.inl rfl|exact Or.inr (Or.inl rfl)|exact Or.inr (Or.inr rfl)) (hd2:(y == ("__debug__":Str))=false:=by decide) (pw:(y == ("__classdict__":Str))=false:=by decide)
  (iR:starEach [e] X.env=(false,eval e X.env)::starEach [] X.env:=by rfl)
  (mX:attributeBase (.Name y p2) "pop" X.env (eval (.Name y p2) X.env)=eval (.Name y p2) X.env:=by rfl)
  (pA:((backTo et (starEach [e] X.env)).all (λx=>!x.1) && (backToKw et (keywordEach [] X.env)).all (λx=>x.1.isSome)
   && decide ([e].length+([]:List Keyword).length+(if([]:List Keyword).isEmpty then 0 else 1)<30))=true:=by rfl)
  (m5:(gh.endLine == et.line)=true:=by rfl) (lC:(backTo et (starEach [] X.env)).any (·.1)=false:=by rfl)
  (ha:∀v,assign (.Subscript (.Name x p1) kx eD) X.env v=(do
   let ov ← holding [v] (eval (.Name x p1) X.env)
   let iv ← holding [v,ov] (eval kx X.env)
   standAt eD
   holding [v,ov,iv] (setItem ov iv v)
   release [v,ov,iv] []):=by intro _; rfl)
  (hs:swapsWithSole [.Subscript (.Name x p1) kx eD] (.Call (.Attribute (.Name y p2) "pop" gh) [e] [] et) pos.line X.env=pure false:=by rfl) (hw:swappedStores [.Subscript (.Name x p1) kx eD] (.Call (.Attribute (.Name y p2) "pop" gh) [e] [] et) X.env=pure none:=by rfl)
  (h1:(assignEach [.Subscript (.Name x p1) kx eD] X.env).map (·.2)=[assign (.Subscript (.Name x p1) kx eD) X.env]:=by rfl) :
  XS X ct ms rk (.Assign [.Subscript (.Name x p1) kx eD] (.Call (.Attribute (.Name y p2) "pop" gh) [e] [] et) pos) (lI i j fk f):=by
 obtain⟨t,pt,qt⟩:=he
 obtain⟨tj,sI,sK⟩:=hk
 refine⟨_,MH (Ee PySem.F.plainAttrs_list PySem.F.slot_list_pop PySem.F.type_list_pop PN (jl CK Dd hd2 pw) (v7 pt qz iR) mX pA m5 iR lC) (QL (jl hN hv hd gA) sI LV ha) hs hw h1,λF0 B F H ρ σ o E rs e z=>?_⟩
 obtain⟨d2,d3,h2,h4,h5⟩:=cy e
 cases d2 with
 |lst es =>
  cases d3 with
  |int w =>
   dsimp only at h5
   by_cases hz:es.length<=16777216
   ·rw[if_pos hz]at h5
    obtain⟨t2,h6,h7⟩:=bind1 h5
    obtain⟨d,h8,h9⟩:=bind1 h7
    obtain⟨d1,dk,g3,g4,g5⟩:=cy h9
    obtain⟨f1,fr,n1,b1,dj,i4,cf,put⟩:=rs.put (F':=F) (H':=H) kP
    obtain⟨v2,oh,AE⟩:=i4 _ (ye h2)
    obtain⟨bd,us,Nm,rfl,rfl,HS,yV,AC⟩:=AE.lst_inv
    have z2:=OwL.nil0 AC
    subst z2
    refine⟨_,oh,.inl ⟨rfl,_,d5.of yV⟩,qt F0 B F H ρ σ _ _ rs h4 λv3 F' H' x1 l3=>?_⟩
    have ID:=l3.int
    subst ID
    obtain⟨s1,s2,s3,s4⟩:=Gq h6
    have CI:H' bd=some (.lst us):=x1.hh _ _ yV
    have fB:F' bd=none:=x1.nf bd _ yV HS
    have lu:=AC.length
    have Dz:Pr (λd v=>Dt X.K ct F' d v) es us:=AC.pr λd v f _ q=>q.1.mono x1.ff
    obtain⟨u,hu,ru⟩:=Dz.get' h8
    refine⟨bd,us,w,t2,u,rfl,rfl,CI,by omega,by omega,by rw[← lu]; exact s1,hu,?_⟩
    have hE:=rs.change kP x1 oh b1 dj cf put aa fB (d':=.lst (es.eraseIdx t2)) (o:=.lst (us.eraseIdx t2)) (.inr (.lst fB yu (OwL.ofPr ((Dz.erase t2).mono λ_ _ q=>Ow.zero q)))) (fn:=[bd]) (by simp) (λa ha=>by
     rw[ar]at ha; subst ha; exact .inl aa)
    obtain⟨SA,SK,HN,yP,yR,yS,yQ,pf⟩:=hE.put (F':=F') (H':=cC H' bd (.lst (us.eraseIdx t2))) hm
    obtain⟨v',qE,BU⟩:=yS d1 (ye g3)
    refine⟨v',qE,sK F0 B _ _ _ σ dk _ hE g4 λvj F2 H2 x2 lj=>?_⟩
    cases d1 with
    |lst ds =>
     cases dk with
     |int zi =>
      obtain⟨lQ,g6,g7⟩:=bind1 g5
      cases g7
      obtain⟨jn,g8,g9⟩:=bind1 g6
      cases g9
      obtain⟨ad,vs,lS,rfl,rfl,hF,hH,ol⟩:=BU.lst_inv
      have hA:H2 ad=some (.lst vs):=x2.hh _ _ hH
      have fA:F2 ad=none:=x2.nf ad _ hH hF
      have e0:=ol.nil0
      subst e0
      refine⟨ad,vs,zi,jn,rfl,lj.int,hA,by rw[← ol.length]; exact g8,?_⟩
      refine z σ F2 _ (hE.change hm x2 qE yP yR yQ pf aa fA (.inr (.lst fA yu (OwL.set0 ⟨Dt.mono x2.ff ru,rfl⟩ (λ_ _ _ q=>q.2) jn (ol.mono λ_ _ _ _ q=>⟨q.1.mono x2.ff,q.2⟩)))) (fn:=[ad]) (by simp) ?_)
      intro a ha
      rw[ar]at ha
      subst ha
      exact .inl aa
     |_=>cases g5
    |_=>cases g5
   ·rw[if_neg hz]at h5; cases h5
  |_=>cases h5
 |_=>cases h5
end
end L3
namespace Fq
theorem gcd_step (a b:Int):bF b (a.fmod b)=bF a b:=by
 rw[Int.fmod_def,Int.gcd_sub_mul_left_right,Int.gcd_comm]
theorem fmod_less (a:Int){b:Int}(hb:b≠0):(a.fmod b).natAbs<b.natAbs:=by
 rcases Int.lt_or_gt_of_ne hb with h|h
 ·have h1:=ox (-a) (b:=-b) (by omega)
  have h2:=mB (-a) (b:=-b) (by omega)
  have e:(-a).fmod (-b) = -(a.fmod b):=Int.neg_fmod_neg ..
  omega
 ·have h1:=ox a h
  have h2:=mB a h
  omega
theorem gcd_end (a:Int):(if a<0 then -a else a)=((bF a 0:Nat):Int):=by
 rw[oy]
 split <;> omega
def dv (t b:Int):Int:=if b<0 then -((bF t b:Nat):Int)else((bF t b:Nat):Int)
def mk (t b:Int):Int×Int:=(t.fdiv (dv t b),b.fdiv (dv t b))
structure Low (q:Int×Int):Prop where
 pos:1<=q.2
 cop:bF q.1 q.2=1
theorem gcd_pos {t b:Int}(hb:b≠0):0<bF t b:=Int.gcd_pos_of_ne_zero_right t hb
theorem M4 {t b:Int}(hb:b≠0):dv t b≠0:=by
 have:=gcd_pos (t:=t) hb
 unfold dv; split <;> omega
theorem Q1 (t b:Int):(dv t b).natAbs=bF t b:=by
 unfold dv; split <;> omega
theorem dv_le {t b:Int}(hb:b≠0):(dv t b).natAbs<=b.natAbs:=by
 rw[Q1]
 exact Nat.le_of_dvd (by omega) (gO.mpr (fN t b)|> λh=>by simpa using h)
theorem OJ (t b:Int):dv t b ∣ t:=by
 unfold dv; split
 ·exact Int.neg_dvd.mpr (fZ t b)
 ·exact fZ t b
theorem Oy (t b:Int):dv t b ∣ b:=by
 unfold dv; split
 ·exact Int.neg_dvd.mpr (fN t b)
 ·exact fN t b
theorem MS (t b:Int):t=dv t b * (mk t b).1:=by
 show t=dv t b * t.fdiv (dv t b)
 rw[lX (OJ t b),nj (OJ t b)]
theorem MT (t b:Int):b=dv t b * (mk t b).2:=by
 show b=dv t b * b.fdiv (dv t b)
 rw[lX (Oy t b),nj (Oy t b)]
theorem mk_low {t b:Int}(hb:b≠0):Low (mk t b):=by
 have e1:=MS t b
 have e2:=MT t b
 have hd:=M4 (t:=t) hb
 have hg:=gcd_pos (t:=t) hb
 constructor
 ·have hs:(b<0/\dv t b<0)\/(0<b/\0<dv t b):=by
   unfold dv; split <;> omega
  rcases hs with⟨h1,h2⟩|⟨h1,h2⟩
  ·rcases Int.lt_or_le (mk t b).2 1 with h|h
   ·have:0<=dv t b * (mk t b).2:=iN (by omega) (by omega)
    omega
   ·exact h
  ·rcases Int.lt_or_le (mk t b).2 1 with h|h
   ·have:dv t b * (mk t b).2<=0:=Int.mul_nonpos_of_nonneg_of_nonpos (by omega) (by omega)
    omega
   ·exact h
 ·have h:bF (dv t b * (mk t b).1) (dv t b * (mk t b).2)=bF t b:=by rw[← e1,← e2]
  rw[pU,Q1]at h
  exact kY hg (by rw[h,Nat.mul_one])
theorem mk_cross (t b:Int):(mk t b).1 * b=t * (mk t b).2:=by
 have e1:=MS t b
 have e2:=MT t b
 generalize (mk t b).1=x at *
 generalize (mk t b).2=y at *
 generalize dv t b=d at *
 subst e1
 rw[e2]
 grind
theorem O0 {d x:Int}(hd:d≠0):x.natAbs<=(d * x).natAbs:=by
 rw[kF]
 exact Nat.le_mul_of_pos_left _ (by omega)
theorem mk_le_one {t b:Int}(hb:b≠0):(mk t b).1.natAbs<=t.natAbs:=by
 have h:=O0 (x:=(mk t b).1) (M4 (t:=t) hb)
 rwa[← MS]at h
theorem mk_le_two {t b:Int}(hb:b≠0):(mk t b).2.natAbs<=b.natAbs:=by
 have h:=O0 (x:=(mk t b).2) (M4 (t:=t) hb)
 rwa[← MT]at h
theorem OS {a b c:Int}(h:a ∣ b * c)(g:bF b a=1):a ∣ c:=by
 have h1:a.natAbs ∣ b.natAbs * c.natAbs:=by
  rw[← kF]; exact gO.mpr h
 have h2:Nat.Coprime a.natAbs b.natAbs:=by
  rw[Nat.coprime_comm]; exact g
 exact gO.mp (h2.dvd_of_dvd_mul_left h1)
theorem uniq {p q:Int×Int}(hp:Low p)(hq:Low q)(h:p.1 * q.2=q.1 * p.2):p=q:=by
 obtain⟨p1,p2⟩:=p
 obtain⟨q1,q2⟩:=q
 obtain⟨a1,a2⟩:=hp
 obtain⟨b1,b2⟩:=hq
 simp only at *
 have d1:p2 ∣ q2:=OS (b:=p1) ⟨q1,by rw[h,cA]⟩ a2
 have d2:q2 ∣ p2:=OS (b:=q1) ⟨p1,by rw[← h,cA]⟩ b2
 have e:p2=q2:=Int.dvd_antisymm (by omega) (by omega) d1 d2
 subst e
 have:p1=q1:=dM (by omega) h
 rw[this]
theorem Y3 {t b u c:Int}(hb:b≠0)(hc:c≠0)(h:t * c=u * b):mk t b=mk u c:=by
 refine uniq (mk_low hb) (mk_low hc) ?_
 have e1:=mk_cross t b
 have e2:=mk_cross u c
 have k:(b * c) * ((mk t b).1 * (mk u c).2)=(b * c) * ((mk u c).1 * (mk t b).2):=by grind
 exact fK (qM hb hc) k
theorem Y4 {q:Int×Int}(h:Low q):mk q.1 q.2=q :=
 uniq (mk_low (by have:=h.pos; omega)) h (mk_cross _ _)
def plus (p q:Int×Int):Int×Int:=mk (p.1 * q.2+q.1 * p.2) (p.2 * q.2)
def scaled (p:Int×Int)(n:Int):Int×Int:=mk (p.1 * n) p.2
def minus (p q:Int×Int):Int×Int:=plus p (scaled q (-1))
def under (p q:Int×Int):Bool:=decide (p.1 * q.2<q.1 * p.2)
theorem Low.ne {q:Int×Int}(h:Low q):q.2≠0:=by have:=h.pos; omega
theorem Low.mul_ne {p q:Int×Int}(h:Low p)(h':Low q):p.2 * q.2≠0:=qM h.ne h'.ne
theorem plus_low {p q:Int×Int}(h:Low p)(h':Low q):Low (plus p q):=mk_low (h.mul_ne h')
theorem scaled_low {p:Int×Int}(h:Low p)(n:Int):Low (scaled p n):=mk_low h.ne
theorem minus_low {p q:Int×Int}(h:Low p)(h':Low q):Low (minus p q):=plus_low h (scaled_low h' _)
theorem plus_v (p q:Int×Int):(plus p q).1 * (p.2 * q.2)=(p.1 * q.2+q.1 * p.2) * (plus p q).2:=mk_cross _ _
theorem XD (p:Int×Int)(n:Int):(scaled p n).1 * p.2=(p.1 * n) * (scaled p n).2:=mk_cross _ _
theorem minus_v {p q:Int×Int}(h':Low q):(minus p q).1 * (p.2 * q.2)=(p.1 * q.2-q.1 * p.2) * (minus p q).2:=by
 have e1:=plus_v p (scaled q (-1))
 have e2:=XD q (-1)
 have hs:=(scaled_low h' (-1)).ne
 show(plus p (scaled q (-1))).1 * (p.2 * q.2)=(p.1 * q.2-q.1 * p.2) * (plus p (scaled q (-1))).2
 have k:(scaled q (-1)).2 * ((plus p (scaled q (-1))).1 * (p.2 * q.2))=(scaled q (-1)).2 * ((p.1 * q.2-q.1 * p.2) * (plus p (scaled q (-1))).2):=by grind
 exact fK hs k
theorem eq_mk {p:Int×Int}{t b:Int}(h:Low p)(hb:b≠0)(e:p.1 * b=t * p.2):p=mk t b:=by
 rw[← Y4 h]
 exact Y3 h.ne hb e
theorem lt_congr {n d m e n' d' m' e':Int}(hd:0<d)(he:0<e)(CN:0<d')(Tf:0<e')(h:n * e=m * d)(h':n' * e'=m' * d'):(n * d'<n' * d↔m * e'<m' * e):=by
 have p1:0<e * e':=bV he Tf
 have p2:0<d * d':=bV hd CN
 have k:(e * e') * (n' * d-n * d')=(d * d') * (m' * e-m * e'):=by grind
 constructor
 ·intro q
  have:0<(d * d') * (m' * e-m * e'):=by rw[← k]; exact bV p1 (by omega)
  have:=lL this (by omega)
  omega
 ·intro q
  have:0<(e * e') * (n' * d-n * d'):=by rw[k]; exact bV p2 (by omega)
  have:=lL this (by omega)
  omega
theorem Low.gt {q:Int×Int}(h:Low q):0<q.2:=by have:=h.pos; omega
end Fq
set_option maxHeartbeats 4000000
namespace My
open PySem L2 L3
def top (i:Nat):Stmt:=PySem.Challenge.pw_ringbeat_k39_whole_rounds_moved.main.body.getD i (.Pass ⟨0,0,0,0⟩)
abbrev yq:Stmt:=inClass (top 2) 0
abbrev yy:Stmt:=inClass (top 3) 0
abbrev yg:Stmt:=inClass (top 4) 0
abbrev yh:Stmt:=inClass (top 5) 0
abbrev x8:Stmt:=top 16
abbrev x9:Stmt:=top 17
abbrev vi:Stmt:=top 18
abbrev wa:Stmt:=top 19
abbrev yz:Stmt:=top 20
abbrev wu:Stmt:=top 21
abbrev yj:Stmt:=top 22
abbrev ya:Stmt:=top 23
abbrev xn:Stmt:=inClass (top 25) 0
abbrev zx:Stmt:=inClass (top 25) 1
abbrev wv:Stmt:=inClass (top 25) 2
abbrev ww:Stmt:=top 26
abbrev yb:Stmt:=top 28
abbrev jd:Stmt:=top 29
abbrev v9:Stmt:=top 32
abbrev qw:Stmt:=top 30
abbrev je:Stmt:=top 31
abbrev jf:Stmt:=top 33
abbrev qx:Stmt:=top 35
abbrev wc:Stmt:=top 36
abbrev zo:Stmt:=top 37
abbrev xo:Stmt:=top 39
abbrev ua:Stmt:=top 40
abbrev we:Stmt:=top 41
abbrev yk:Stmt:=top 42
abbrev y9:Stmt:=top 43
abbrev xc:Stmt:=top 44
abbrev qy:Stmt:=top 45
abbrev xf:Stmt:=top 47
abbrev xp:Stmt:=top 48
abbrev wf:Stmt:=top 49
abbrev wx:Stmt:=top 50
abbrev wg:Stmt:=top 51
abbrev wy:Stmt:=top 52
abbrev vk:Stmt:=top 53
abbrev wz:Stmt:=top 54
abbrev w6:Stmt:=top 55
abbrev yc:Stmt:=top 56
abbrev xg:Stmt:=top 57
abbrev ni:Stmt:=top 58
theorem Vb:aW ["self","start","goal","time","behind"] ["self","start","goal","time","behind"] (ah yq):=⟨rfl,rfl,rfl,by decide +kernel,rfl,by decide +kernel,by decide +kernel⟩
theorem Ve:aW ["self","start","goal","time"] ["self","start","goal","time"] (ah yy):=⟨rfl,rfl,rfl,by decide +kernel,rfl,by decide +kernel,by decide +kernel⟩
theorem Vf:aW ["self","start","goal","time","behind"] ["self","start","goal","time","behind"] (ah yg):=⟨rfl,rfl,rfl,by decide +kernel,rfl,by decide +kernel,by decide +kernel⟩
theorem Vg:aW ["self","start","goal","time","behind"] ["self","start","goal","time","behind"] (ah yh):=⟨rfl,rfl,rfl,by decide +kernel,rfl,by decide +kernel,by decide +kernel⟩
theorem Vx:aW ["sign"] ["sign"] (ah x8):=⟨rfl,rfl,rfl,by decide +kernel,rfl,by decide +kernel,by decide +kernel⟩
theorem Vy:aW ["sign"] ["sign"] (ah x9):=⟨rfl,rfl,rfl,by decide +kernel,rfl,by decide +kernel,by decide +kernel⟩
theorem Wm:aW ["word"] ["word"] (ah vi):=⟨rfl,rfl,rfl,by decide +kernel,rfl,by decide +kernel,by decide +kernel⟩
theorem LB:aW ["names","seen","name"] ["names"] (ah wa):=⟨rfl,rfl,rfl,by decide +kernel,rfl,by decide +kernel,by decide +kernel⟩
theorem Vh:aW ["number","least","most"] ["number","least","most"] (ah yz):=⟨rfl,rfl,rfl,by decide +kernel,rfl,by decide +kernel,by decide +kernel⟩
theorem Lz:aW ["arrow","many","least","most"] ["arrow","many"] (ah wu):=⟨rfl,rfl,rfl,by decide +kernel,rfl,by decide +kernel,by decide +kernel⟩
theorem xh:aW ["many","arrows","within","waited","arrow","placed","done","here"] ["many","arrows"] (ah yj):=⟨rfl,rfl,rfl,by decide +kernel,rfl,by decide +kernel,by decide +kernel⟩
theorem vd:aW ["arrows","chosen","going","here","seen","way"] ["arrows","chosen","going"] (ah ya):=⟨rfl,rfl,rfl,by decide +kernel,rfl,by decide +kernel,by decide +kernel⟩
theorem jg:aW ["self","names","arrows","number","arrow","placed"] ["self","names","arrows"] (ah xn):=⟨rfl,rfl,rfl,by decide +kernel,rfl,by decide +kernel,by decide +kernel⟩
theorem U6:aW ["self"] ["self"] (ah zx):=⟨rfl,rfl,rfl,by decide +kernel,rfl,by decide +kernel,by decide +kernel⟩
theorem VG:aW ["self","going"] ["self","going"] (ah wv):=⟨rfl,rfl,rfl,by decide +kernel,rfl,by decide +kernel,by decide +kernel⟩
theorem u0:aW ["net","going","found","done","here","number"] ["net","going"] (ah ww):=⟨rfl,rfl,rfl,by decide +kernel,rfl,by decide +kernel,by decide +kernel⟩
theorem v4:aW ["one","other","rest"] ["one","other"] (ah yb):=⟨rfl,rfl,rfl,by decide +kernel,rfl,by decide +kernel,by decide +kernel⟩
theorem Me:aW ["top","bottom","divisor"] ["top","bottom"] (ah jd):=⟨rfl,rfl,rfl,by decide +kernel,rfl,by decide +kernel,by decide +kernel⟩
theorem WX:aW ["one","whole"] ["one","whole"] (ah v9):=⟨rfl,rfl,rfl,by decide +kernel,rfl,by decide +kernel,by decide +kernel⟩
theorem Y5:aW ["one","other"] ["one","other"] (ah qw):=⟨rfl,rfl,rfl,by decide +kernel,rfl,by decide +kernel,by decide +kernel⟩
theorem XF:aW ["one","other"] ["one","other"] (ah je):=⟨rfl,rfl,rfl,by decide +kernel,rfl,by decide +kernel,by decide +kernel⟩
theorem XH:aW ["one","other"] ["one","other"] (ah jf):=⟨rfl,rfl,rfl,by decide +kernel,rfl,by decide +kernel,by decide +kernel⟩
theorem Mm:aW ["net","ring","times","behinds"] ["net","ring"] (ah qx):=⟨rfl,rfl,rfl,by decide +kernel,rfl,by decide +kernel,by decide +kernel⟩
theorem ug:aW ["net","pace","numbers","times","chosen","pushed","number","arrow","earliest"] ["net","pace","numbers","times","chosen"] (ah wc):=⟨rfl,rfl,rfl,by decide +kernel,rfl,by decide +kernel,by decide +kernel⟩
theorem yx:aW ["net","pace","numbers","times","chosen","pushed","count"] ["net","pace","numbers"] (ah zo):=⟨rfl,rfl,rfl,by decide +kernel,rfl,by decide +kernel,by decide +kernel⟩
theorem OD:aW ["net","pace","numbers","found"] ["net","pace","numbers"] (ah xo):=⟨rfl,rfl,rfl,by decide +kernel,rfl,by decide +kernel,by decide +kernel⟩
theorem O7:aW ["one","other","total"] ["one","other"] (ah ua):=⟨rfl,rfl,rfl,by decide +kernel,rfl,by decide +kernel,by decide +kernel⟩
theorem Oz:aW ["net","most"] ["net"] (ah we):=⟨rfl,rfl,rfl,by decide +kernel,rfl,by decide +kernel,by decide +kernel⟩
theorem xq:aW ["net","numbers","ring","ceiling","gap","middle","better"] ["net","numbers"] (ah yk):=⟨rfl,rfl,rfl,by decide +kernel,rfl,by decide +kernel,by decide +kernel⟩
theorem j0:aW ["net","numbers","ring","pace"] ["net","numbers"] (ah y9):=⟨rfl,rfl,rfl,by decide +kernel,rfl,by decide +kernel,by decide +kernel⟩
theorem Vi:aW ["net"] ["net"] (ah xc):=⟨rfl,rfl,rfl,by decide +kernel,rfl,by decide +kernel,by decide +kernel⟩
theorem GD:aW ["net","going","leading","paper","times"] ["net","going"] (ah qy):=⟨rfl,rfl,rfl,by decide +kernel,rfl,by decide +kernel,by decide +kernel⟩
theorem Vj:aW ["_law_script","_law_k"] ["_law_script","_law_k"] (ah xf):=⟨rfl,rfl,rfl,by decide +kernel,rfl,by decide +kernel,by decide +kernel⟩
theorem Vt:aW ["_law_cell"] ["_law_cell"] (ah xp):=⟨rfl,rfl,rfl,by decide +kernel,rfl,by decide +kernel,by decide +kernel⟩
theorem LC:aW ["_law_cell","_law_k","_law_number"] ["_law_cell","_law_k"] (ah wf):=⟨rfl,rfl,rfl,by decide +kernel,rfl,by decide +kernel,by decide +kernel⟩
theorem qj:aW ["_law_turn","_law_many","_law_going","_law_order","_law_left","_law_k"] ["_law_turn","_law_many","_law_going"] (ah wx):=⟨rfl,rfl,rfl,by decide +kernel,rfl,by decide +kernel,by decide +kernel⟩
theorem w8:aW ["_law_cell","_law_many","_law_turn","_law_number","_law_start","_law_goal","_law_behind","_law_time"] ["_law_cell","_law_many","_law_turn"] (ah wg):=⟨rfl,rfl,rfl,by decide +kernel,rfl,by decide +kernel,by decide +kernel⟩
theorem jp:aW ["_law_arrow_here","_law_kind","_law_start","_law_goal","_law_time","_law_behind"] ["_law_arrow_here","_law_kind"] (ah wy):=⟨rfl,rfl,rfl,by decide +kernel,rfl,by decide +kernel,by decide +kernel⟩
theorem Wn:aW ["_law_arrows","_law_many"] ["_law_arrows","_law_many"] (ah vk):=⟨rfl,rfl,rfl,by decide +kernel,rfl,by decide +kernel,by decide +kernel⟩
theorem OK:aW ["_law_net_here","_law_going","_law_found"] ["_law_net_here","_law_going"] (ah wz):=⟨rfl,rfl,rfl,by decide +kernel,rfl,by decide +kernel,by decide +kernel⟩
theorem VH:aW ["_law_beats","_law_whole"] ["_law_beats","_law_whole"] (ah w6):=⟨rfl,rfl,rfl,by decide +kernel,rfl,by decide +kernel,by decide +kernel⟩
theorem wm:aW ["_law_beats","_law_whole","_law_found","_law_beat","_law_one","_law_other"] ["_law_beats","_law_whole"] (ah yc):=⟨rfl,rfl,rfl,by decide +kernel,rfl,by decide +kernel,by decide +kernel⟩
theorem vm:aW ["_law_arrows","_law_many","_law_step","_law_place","_law_left","_law_k","_law_found","_law_at"] ["_law_arrows","_law_many","_law_step"] (ah xg):=⟨rfl,rfl,rfl,by decide +kernel,rfl,by decide +kernel,by decide +kernel⟩
theorem pT:aW ["_law_script","_law_many","_law_arrows","_law_going","_law_found","_law_whole","_law_more_here","_law_larger","_law_place","_law_others"] ["_law_script"] (ah ni):=⟨rfl,rfl,rfl,by decide +kernel,rfl,by decide +kernel,by decide +kernel⟩
structure Cp where
 c_Arrow:Addr
 c_Ride:Addr
 c_Wait:Addr
 c_Back:Addr
 c_Net:Addr
 f_Arrow___init:Addr
 d_Arrow___init:FuncData
 f_Ride___init:Addr
 d_Ride___init:FuncData
 f_Wait___init:Addr
 d_Wait___init:FuncData
 f_Back___init:Addr
 d_Back___init:FuncData
 f_is_letter:Addr
 d_is_letter:FuncData
 f_is_figure:Addr
 d_is_figure:FuncData
 f_is_name:Addr
 d_is_name:FuncData
 f_are_names:Addr
 d_are_names:FuncData
 f_lies_within:Addr
 d_lies_within:FuncData
 f_is_right:Addr
 d_is_right:FuncData
 f_placed_goings:Addr
 d_placed_goings:FuncData
 f_ring_back_from:Addr
 d_ring_back_from:FuncData
 f_Net___init:Addr
 d_Net___init:FuncData
 f_Net_most_behind:Addr
 d_Net_most_behind:FuncData
 f_Net_into:Addr
 d_Net_into:FuncData
 f_leads_to:Addr
 d_leads_to:FuncData
 f_common_divisor:Addr
 d_common_divisor:FuncData
 f_ratio:Addr
 d_ratio:FuncData
 f_scaled:Addr
 d_scaled:FuncData
 f_plus:Addr
 d_plus:FuncData
 f_minus:Addr
 d_minus:FuncData
 f_under:Addr
 d_under:FuncData
 f_mean:Addr
 d_mean:FuncData
 f_push_once:Addr
 d_push_once:FuncData
 f_times_or_ring_along:Addr
 d_times_or_ring_along:FuncData
 f_ring_above:Addr
 d_ring_above:FuncData
 f_midway:Addr
 d_midway:FuncData
 f_least_gap:Addr
 d_least_gap:FuncData
 f_greatest_ring:Addr
 d_greatest_ring:FuncData
 f_paper_along:Addr
 d_paper_along:FuncData
 f_least_round:Addr
 d_least_round:FuncData
 f_rate:Addr
 d_rate:FuncData
 f_law_cell_at:Addr
 d_law_cell_at:FuncData
 f_law_is_row:Addr
 d_law_is_row:FuncData
 f_law_mixed:Addr
 d_law_mixed:FuncData
 f_law_rank:Addr
 d_law_rank:FuncData
 f_law_arrow:Addr
 d_law_arrow:FuncData
 f_law_made:Addr
 d_law_made:FuncData
 f_law_net:Addr
 d_law_net:FuncData
 f_law_both:Addr
 d_law_both:FuncData
 f_law_more:Addr
 d_law_more:FuncData
 f_law_many_times:Addr
 d_law_many_times:FuncData
 f_law_renamed:Addr
 d_law_renamed:FuncData
 f_law:Addr
 d_law:FuncData
def Cp.ct (a:Cp):Nat->Addr
 |0=>a.c_Arrow
 |1=>a.c_Ride
 |2=>a.c_Wait
 |3=>a.c_Back
 |4=>a.c_Net
 |_=>0
structure Txt (K:ae)(mg:Str->Option Value)(a:Cp):Prop where
 Arrow:Dc K mg "Arrow" a.c_Arrow
 Ride:Dc K mg "Ride" a.c_Ride
 Wait:Dc K mg "Wait" a.c_Wait
 Back:Dc K mg "Back" a.c_Back
 Net:Dc K mg "Net" a.c_Net
 Arrow___init:Dm K a.c_Arrow "__init__" "Arrow.__init__" yq ["self","start","goal","time","behind"] a.f_Arrow___init a.d_Arrow___init
 Ride___init:Dm K a.c_Ride "__init__" "Ride.__init__" yy ["self","start","goal","time"] a.f_Ride___init a.d_Ride___init
 Wait___init:Dm K a.c_Wait "__init__" "Wait.__init__" yg ["self","start","goal","time","behind"] a.f_Wait___init a.d_Wait___init
 Wait___init_d1:∃kM,True/\bA [(V.int 0)] kM/\Binds K a.d_Wait___init ["self","start","goal","time","behind"] kM
 Back___init:Dm K a.c_Back "__init__" "Back.__init__" yh ["self","start","goal","time","behind"] a.f_Back___init a.d_Back___init
 Back___init_d1:∃kM,True/\bA [(V.int 1)] kM/\Binds K a.d_Back___init ["self","start","goal","time","behind"] kM
 is_letter:gw K mg "is_letter" x8 ["sign"] a.f_is_letter a.d_is_letter
 is_figure:gw K mg "is_figure" x9 ["sign"] a.f_is_figure a.d_is_figure
 is_name:gw K mg "is_name" vi ["word"] a.f_is_name a.d_is_name
 are_names:gw K mg "are_names" wa ["names"] a.f_are_names a.d_are_names
 lies_within:gw K mg "lies_within" yz ["number","least","most"] a.f_lies_within a.d_lies_within
 is_right:gw K mg "is_right" wu ["arrow","many"] a.f_is_right a.d_is_right
 placed_goings:gw K mg "placed_goings" yj ["many","arrows"] a.f_placed_goings a.d_placed_goings
 ring_back_from:gw K mg "ring_back_from" ya ["arrows","chosen","going"] a.f_ring_back_from a.d_ring_back_from
 Net___init:Dm K a.c_Net "__init__" "Net.__init__" xn ["self","names","arrows"] a.f_Net___init a.d_Net___init
 Net_most_behind:Dm K a.c_Net "most_behind" "Net.most_behind" zx ["self"] a.f_Net_most_behind a.d_Net_most_behind
 Net_into:Dm K a.c_Net "into" "Net.into" wv ["self","going"] a.f_Net_into a.d_Net_into
 leads_to:gw K mg "leads_to" ww ["net","going"] a.f_leads_to a.d_leads_to
 common_divisor:gw K mg "common_divisor" yb ["one","other"] a.f_common_divisor a.d_common_divisor
 ratio:gw K mg "ratio" jd ["top","bottom"] a.f_ratio a.d_ratio
 scaled:gw K mg "scaled" v9 ["one","whole"] a.f_scaled a.d_scaled
 plus:gw K mg "plus" qw ["one","other"] a.f_plus a.d_plus
 minus:gw K mg "minus" je ["one","other"] a.f_minus a.d_minus
 under:gw K mg "under" jf ["one","other"] a.f_under a.d_under
 mean:gw K mg "mean" qx ["net","ring"] a.f_mean a.d_mean
 push_once:gw K mg "push_once" wc ["net","pace","numbers","times","chosen"] a.f_push_once a.d_push_once
 times_or_ring_along:gw K mg "times_or_ring_along" zo ["net","pace","numbers"] a.f_times_or_ring_along a.d_times_or_ring_along
 ring_above:gw K mg "ring_above" xo ["net","pace","numbers"] a.f_ring_above a.d_ring_above
 midway:gw K mg "midway" ua ["one","other"] a.f_midway a.d_midway
 least_gap:gw K mg "least_gap" we ["net"] a.f_least_gap a.d_least_gap
 greatest_ring:gw K mg "greatest_ring" yk ["net","numbers"] a.f_greatest_ring a.d_greatest_ring
 paper_along:gw K mg "paper_along" y9 ["net","numbers"] a.f_paper_along a.d_paper_along
 least_round:gw K mg "least_round" xc ["net"] a.f_least_round a.d_least_round
 rate:gw K mg "rate" qy ["net","going"] a.f_rate a.d_rate
 law_cell_at:gw K mg "_law_cell_at" xf ["_law_script","_law_k"] a.f_law_cell_at a.d_law_cell_at
 law_is_row:gw K mg "_law_is_row" xp ["_law_cell"] a.f_law_is_row a.d_law_is_row
 law_mixed:gw K mg "_law_mixed" wf ["_law_cell","_law_k"] a.f_law_mixed a.d_law_mixed
 law_rank:gw K mg "_law_rank" wx ["_law_turn","_law_many","_law_going"] a.f_law_rank a.d_law_rank
 law_arrow:gw K mg "_law_arrow" wg ["_law_cell","_law_many","_law_turn"] a.f_law_arrow a.d_law_arrow
 law_made:gw K mg "_law_made" wy ["_law_arrow_here","_law_kind"] a.f_law_made a.d_law_made
 law_net:gw K mg "_law_net" vk ["_law_arrows","_law_many"] a.f_law_net a.d_law_net
 law_both:gw K mg "_law_both" wz ["_law_net_here","_law_going"] a.f_law_both a.d_law_both
 law_more:gw K mg "_law_more" w6 ["_law_beats","_law_whole"] a.f_law_more a.d_law_more
 law_many_times:gw K mg "_law_many_times" yc ["_law_beats","_law_whole"] a.f_law_many_times a.d_law_many_times
 law_renamed:gw K mg "_law_renamed" xg ["_law_arrows","_law_many","_law_step"] a.f_law_renamed a.d_law_renamed
 law:gw K mg "law" ni ["_law_script"] a.f_law a.d_law
 q_Arrow:Dq K a.c_Arrow "__init__" a.f_Arrow___init
 fld_arrows:∀c∈([4]:List Nat),iQ K (a.ct c)/\d8 K (a.ct c) "arrows"
 fld_behind:∀c∈([0,1,2,3]:List Nat),iQ K (a.ct c)/\d8 K (a.ct c) "behind"
 fld_goal:∀c∈([0,1,2,3]:List Nat),iQ K (a.ct c)/\d8 K (a.ct c) "goal"
 fld_names:∀c∈([4]:List Nat),iQ K (a.ct c)/\d8 K (a.ct c) "names"
 fld_start:∀c∈([0,1,2,3]:List Nat),iQ K (a.ct c)/\d8 K (a.ct c) "start"
 fld_time:∀c∈([0,1,2,3]:List Nat),iQ K (a.ct c)/\d8 K (a.ct c) "time"
 isi_Back:∀c∈([0,1,2,3,4]:List Nat),Ic K (a.ct c)/\bv K (.ref (a.ct c)) (.ref a.c_Back)=some (sY [3] c)
 isi_Ride:∀c∈([0,1,2,3,4]:List Nat),Ic K (a.ct c)/\bv K (.ref (a.ct c)) (.ref a.c_Ride)=some (sY [1] c)
 b_abs:mg "abs"=none
 b_all:mg "all"=none
 b_bool:mg "bool"=none
 b_enumerate:mg "enumerate"=none
 b_int:mg "int"=none
 b_isinstance:mg "isinstance"=none
 b_len:mg "len"=none
 b_list:mg "list"=none
 b_max:mg "max"=none
 b_range:mg "range"=none
 b_reversed:mg "reversed"=none
 b_sorted:mg "sorted"=none
 b_str:mg "str"=none
 b_sum:mg "sum"=none
 g_MOST_ARROWS:∃t,mg "MOST_ARROWS"=some (.int 120 t)
 g_MOST_BEHIND:∃t,mg "MOST_BEHIND"=some (.int 4 t)
 g_MOST_NAMES:∃t,mg "MOST_NAMES"=some (.int 40 t)
 g_MOST_SIGNS:∃t,mg "MOST_SIGNS"=some (.int 8 t)
 g_MOST_TIME:∃t,mg "MOST_TIME"=some (.int 1000000000 t)
section
variable {P:Program}{w:World}{K:ae}{mg:Str->Option Value}{base:Heap}{a:Cp}{ct:Nat->Addr}
def u8:Nat->List D->Option D:=zN ["self","start","goal","time","behind"]
  (sSeq (iI [0,1,2,3] "start" (eV 1))
  (sSeq (iI [0,1,2,3] "goal" (eV 2))
  (sSeq (iI [0,1,2,3] "time" (eV 3))
  (iI [0,1,2,3] "behind" (eV 4)))))
theorem jq (T:Txt K mg a):bM P w K mg base dR 1 a.f_Arrow___init a.d_Arrow___init ["self","start","goal","time","behind"] (oW K a.ct [0,1,2,3] [0,0,0,0] u8):=by
 refine D3 (ms:=[.ow 0,.ow 0,.ow 0,.ow 0]) (rk:=0) T.Arrow___init.fn Vb rfl rfl (by decide) (zt (by decide)) λx0 df A outer s H E hr=>?_
 exact(zf (Ce T.fld_start (za 1 0))
  (zf (Ce T.fld_goal (za 2 0))
  (zf (Ce T.fld_time (za 3 0))
  (zj (Ce T.fld_behind (za 4 0))))))
def qk:Nat->List D->Option D:=zN ["self","start","goal","time"]
  (lG [0,1,2,3] (aCons (eV 1) (aCons (eV 2) (aCons (eV 3) (aCons (eC (.int 0)) aNil)))) u8)
theorem Vk (T:Txt K mg a):bM P w K mg base dR 2 a.f_Ride___init a.d_Ride___init ["self","start","goal","time"] (oW K a.ct [1] [0,0,0] qk):=by
 have dF:=jq (P:=P) (w:=w) (base:=base) T
 refine D3 (ms:=[.ow 0,.ow 0,.ow 0]) (rk:=0) T.Ride___init.fn Ve rfl rfl (by decide) (zt (by decide)) λx0 df A outer s H E hr=>?_
 exact(zj (Mh (ns:=[0,0,0,0]) dF (hr.mono (by decide)) T.Arrow.mgx T.q_Arrow.sp T.q_Arrow.rd T.q_Arrow.fc T.Arrow___init.fn.kp T.Arrow___init.bd (by decide) (ze (za 1 0) (ze (za 2 0) (ze (za 3 0) (ze (zh (n:=0)) zk))))))
def ql:Nat->List D->Option D:=zN ["self","start","goal","time","behind"]
  (lG [0,1,2,3] (aCons (eV 1) (aCons (eV 2) (aCons (eV 3) (aCons (eV 4) aNil)))) u8)
theorem Vl (T:Txt K mg a):bM P w K mg base dR 2 a.f_Wait___init a.d_Wait___init ["self","start","goal","time","behind"] (oW K a.ct [2] [0,0,0,0] ql):=by
 have dF:=jq (P:=P) (w:=w) (base:=base) T
 refine D3 (ms:=[.ow 0,.ow 0,.ow 0,.ow 0]) (rk:=0) T.Wait___init.fn Vf rfl rfl (by decide) (zt (by decide)) λx0 df A outer s H E hr=>?_
 exact(zj (Mh (ns:=[0,0,0,0]) dF (hr.mono (by decide)) T.Arrow.mgx T.q_Arrow.sp T.q_Arrow.rd T.q_Arrow.fc T.Arrow___init.fn.kp T.Arrow___init.bd (by decide) (ze (za 1 0) (ze (za 2 0) (ze (za 3 0) (ze (za 4 0) zk))))))
def qm:Nat->List D->Option D:=zN ["self","start","goal","time","behind"]
  (lG [0,1,2,3] (aCons (eV 1) (aCons (eV 2) (aCons (eV 3) (aCons (eV 4) aNil)))) u8)
theorem Vm (T:Txt K mg a):bM P w K mg base dR 2 a.f_Back___init a.d_Back___init ["self","start","goal","time","behind"] (oW K a.ct [3] [0,0,0,0] qm):=by
 have dF:=jq (P:=P) (w:=w) (base:=base) T
 refine D3 (ms:=[.ow 0,.ow 0,.ow 0,.ow 0]) (rk:=0) T.Back___init.fn Vg rfl rfl (by decide) (zt (by decide)) λx0 df A outer s H E hr=>?_
 exact(zj (Mh (ns:=[0,0,0,0]) dF (hr.mono (by decide)) T.Arrow.mgx T.q_Arrow.sp T.q_Arrow.rd T.q_Arrow.fc T.Arrow___init.fn.kp T.Arrow___init.bd (by decide) (ze (za 1 0) (ze (za 2 0) (ze (za 3 0) (ze (za 4 0) zk))))))
def LA:List D->Option D:=mOf ["sign"]
  (sRet (eB (bAnd (tb (e2 tS (eC (.str "a")) (eV 0))) (tb (e2 tS (eV 0) (eC (.str "z")))))))
theorem Vz (T:Txt K mg a):bM P w K mg base dR 1 a.f_is_letter a.d_is_letter ["sign"] (eZ K a.ct [0] 0 LA):=by
 refine lift (ms:=[.ow 0]) T.is_letter.fn Vx rfl rfl (by decide) (zt (by decide)) λdf A outer s H E hr=>?_
 exact(zj (yi (XE.ow (Cb (qH (k:=0) Cd B3 (uA (n:=0)) (za 0 0) (bB _)) (Bw (k:=0) (qH (k:=0) Cd B3 (za 0 0) (uA (n:=0)) (bB _)))))))
def OL:List D->Option D:=mOf ["sign"]
  (sRet (eB (bAnd (tb (e2 tS (eC (.str "0")) (eV 0))) (tb (e2 tS (eV 0) (eC (.str "9")))))))
theorem VM (T:Txt K mg a):bM P w K mg base dR 1 a.f_is_figure a.d_is_figure ["sign"] (eZ K a.ct [0] 0 OL):=by
 refine lift (ms:=[.ow 0]) T.is_figure.fn Vy rfl rfl (by decide) (zt (by decide)) λdf A outer s H E hr=>?_
 exact(zj (yi (XE.ow (Cb (qH (k:=0) Cd B3 (uA (n:=0)) (za 0 0) (bB _)) (Bw (k:=0) (qH (k:=0) Cd B3 (za 0 0) (uA (n:=0)) (bB _)))))))
def VI:EF:=(cX (λρ=>((eV 0) ρ).bind Nd) 1 [] (gV 0) dU (eB (bOr (tb (λρ=>((aCons (eV 0) aNil) ρ).bind λds=>LA (ds++[]))) (tb (λρ=>((aCons (eV 0) aNil) ρ).bind λds=>OL (ds++[]))))))
def Po:List D->Option D:=mOf ["word"]
  (sSeq (sIf (bOr (bNot (tb (e1 (m8 "str") (eV 0)))) (bOr (tb (e2 nF (eN dg (aCons (eV 0) aNil)) (eC (.int 1)))) (tb (e2 qA (eN dg (aCons (eV 0) aNil)) (eC (.int 8)))))) (sRet (eC (.bl false))) sSkip)
  (sRet (eB (bAnd (tb (λρ=>((aCons (e2 dh (eV 0) (eC (.int 0))) aNil) ρ).bind λds=>LA (ds++[]))) (tb (eN Cz (aCons VI aNil)))))))
theorem Wo (T:Txt K mg a):bM P w K mg base dR 2 a.f_is_name a.d_is_name ["word"] (eZ K a.ct [0] 0 Po):=by
 have jG:=Vz (P:=P) (w:=w) (base:=base) T
 have ma:=VM (P:=P) (w:=w) (base:=base) T
 refine lift (ms:=[.ow 0]) T.is_name.fn Wm rfl rfl (by decide) (zt (by decide)) λdf A outer s H E hr=>?_
 exact(zf (uj (XW.t (uD (qI (jm (GG (k:=0) (by decide) T.b_isinstance T.b_str QQ (za 0 0)))) (uD (xk (k:=0) uB t8 (yw (k:=0) xi vc rfl T.b_len ue (ze (za 0 0) zk)) (zh (n:=0)) (bB _)) (Ca (xk (k:=0) Cj Cc (yw (k:=0) xi vc rfl T.b_len ue (ze (za 0 0) zk)) (D7 (n:=0) (d:=(.int 8)) rfl T.g_MOST_SIGNS.choose_spec rfl ⟨_,rfl⟩) (bB _)))))) (zj (yi (XE.ow (sW (n:=0))))) xv)
  (zj (yi (XE.ow (Cb (XO.sh (n:=0) (zl (cU:=[]) (ns:=[0]) (nd:=[]) jG (hr.mono (by decide)) rfl T.is_letter.mgx T.is_letter.fn.kp T.is_letter.bd .nil (λ_ _=>.nil) (ze (wj (n:=0) yn yo (za 0 0) (zh (n:=0)) (λ_ _=>rfl)) zk))) (Bw (k:=0) (yw (k:=0) (WM rfl) Yn rfl T.b_all Z8 (ze (XO.sh (n:=0) (ux (N:=["sign"]) (om:=[.ow 0]) (cap:=[]) (own:=1) (uf (by rfl)) rfl rfl (by decide) (XI.cc (zsq (n:=0) (za 0 0))) (λ_ _ _ _ _=>(yf (by decide) rfl (show ba (["sign"]:List Str)from by decide +kernel) rfl (by first|exact Or.inl rfl|exact Or.inr rfl))) (λ_ _ _ _ _=>v8) (λ_ _ _ _ _=>(XE.ow (ztx (XO.sh (n:=0) (zl (cU:=[]) (ns:=[0]) (nd:=[]) jG (hr.mono (by decide)) rfl T.is_letter.mgx T.is_letter.fn.kp T.is_letter.bd .nil (λ_ _=>.nil) (ze (za 0 0) zk))) (Bw (k:=0) (XO.sh (n:=0) (zl (cU:=[]) (ns:=[0]) (nd:=[]) ma (hr.mono (by decide)) rfl T.is_figure.mgx T.is_figure.fn.kp T.is_figure.bd .nil (λ_ _=>.nil) (ze (za 0 0) zk))))))))) zk))))))))
def zev:SF:=(sSeq (sIf (bOr (bNot (tb (λρ=>((aCons (eV 2) aNil) ρ).bind λds=>Po (ds++[])))) (tb (λρ=>((eV 2) ρ).bind λx=>((eV 1) ρ).bind λy=>(fP y x).bind λr=>some (.bl r.isSome)))) (sRet (eC (.bl false))) sSkip)
  (iJ 1 (eV 2) (eC (.bl true))))
def qo:List D->Option D:=mOf ["names","seen","name"]
  (sSeq (sIf (bOr (bNot (tb (e1 (m8 "list") (eV 0)))) (bOr (tb (e2 nF (eN dg (aCons (eV 0) aNil)) (eC (.int 1)))) (tb (e2 qA (eN dg (aCons (eV 0) aNil)) (eC (.int 40)))))) (sRet (eC (.bl false))) sSkip)
  (sSeq (sSet 1 (eC (.dK [] [])))
  (sSeq (sFor (lsD (eV 0)) (gV 2) zev)
  (sRet (eC (.bl true))))))
theorem VN (T:Txt K mg a):bM P w K mg base dR 3 a.f_are_names a.d_are_names ["names"] (eZ K a.ct [0] 0 qo):=by
 have nV:=Wo (P:=P) (w:=w) (base:=base) T
 refine lift (ms:=[.ow 0,.ow 1,.ow 0]) T.are_names.fn LB rfl rfl (by decide) (zt (by decide)) λdf A outer s H E hr=>?_
 exact(zf (uj (XW.t (uD (qI (jm (GG (k:=0) (by decide) T.b_isinstance T.b_list D6 (za 0 0)))) (uD (xk (k:=0) uB t8 (yw (k:=0) xi vc rfl T.b_len ue (ze (za 0 0) zk)) (zh (n:=0)) (bB _)) (Ca (xk (k:=0) Cj Cc (yw (k:=0) xi vc rfl T.b_len ue (ze (za 0 0) zk)) (D7 (n:=0) (d:=(.int 40)) rfl T.g_MOST_NAMES.choose_spec rfl ⟨_,rfl⟩) (bB _)))))) (zj (yi (XE.ow (sW (n:=0))))) xv)
  (zf (zw rfl LB.nd rfl (Or.inl rfl) L6)
  (zf (qJ (B5 (za 0 0)) (vn rfl LB.nd rfl (Or.inl rfl)) (zf (uj (XW.t (uD (qI (jm (XO.sh (n:=0) (zl (cU:=[]) (ns:=[0]) (nd:=[]) nV (hr.mono (by decide)) rfl T.is_name.mgx T.is_name.fn.kp T.is_name.bd .nil (λ_ _=>.nil) (ze (za 2 0) zk))))) (Ca (zsr (uC hr) (za 2 0) (za 1 1) (by with_unfolding_all rfl))))) (zj (yi (XE.ow (sW (n:=0))))) xv)
  (zj (Qs 1 rfl (uC hr) (za 2 0) (sW (n:=0))))) PassesOwn.never rfl)
  (zj (yi (XE.ow (sW (n:=0))))))))
def yt:List D->Option D:=mOf ["number","least","most"]
  (sSeq (sIf (bOr (bNot (tb (e1 (m8 "int") (eV 0)))) (tb (e1 (m8 "bool") (eV 0)))) (sRet (eC (.bl false))) sSkip)
  (sRet (eB (bAnd (tb (e2 tS (eV 1) (eV 0))) (tb (e2 tS (eV 0) (eV 2)))))))
theorem Vn (T:Txt K mg a):bM P w K mg base dR 1 a.f_lies_within a.d_lies_within ["number","least","most"] (eZ K a.ct [0,0,0] 0 yt):=by
 refine lift (ms:=[.ow 0,.ow 0,.ow 0]) T.lies_within.fn Vh rfl rfl (by decide) (zt (by decide)) λdf A outer s H E hr=>?_
 exact(zf (uj (XW.t (uD (qI (jm (GG (k:=0) (by decide) T.b_isinstance T.b_int Z5 (za 0 0)))) (Ca (jm (GG (k:=0) (by decide) T.b_isinstance T.b_bool Yz (za 0 0)))))) (zj (yi (XE.ow (sW (n:=0))))) xv)
  (zj (yi (XE.ow (Cb (qH (k:=0) Cd B3 (za 1 0) (za 0 0) (bB _)) (Bw (k:=0) (qH (k:=0) Cd B3 (za 0 0) (za 2 0) (bB _))))))))
def FY:List D->Option D:=mOf ["arrow","many","least","most"]
  (sSeq (sSet 2 (eIf (tb (e1 (pF [0,1,2,3,4] [3]) (eV 0))) (eC (.int 1)) (eC (.int 0))))
  (sSeq (sSet 3 (eIf (tb (e1 (pF [0,1,2,3,4] [1]) (eV 0))) (eC (.int 0)) (eC (.int 4))))
  (sSeq (sIf (bOr (bNot (tb (λρ=>((aCons (e1 (bP [0,1,2,3] "start") (eV 0)) (aCons (eC (.int 0)) (aCons (e2 pQ (eV 1) (eC (.int 1))) aNil))) ρ).bind λds=>yt (ds++[])))) (bNot (tb (λρ=>((aCons (e1 (bP [0,1,2,3] "goal") (eV 0)) (aCons (eC (.int 0)) (aCons (e2 pQ (eV 1) (eC (.int 1))) aNil))) ρ).bind λds=>yt (ds++[]))))) (sRet (eC (.bl false))) sSkip)
  (sRet (eB (bAnd (tb (λρ=>((aCons (e1 (bP [0,1,2,3] "time") (eV 0)) (aCons (eC (.int 0)) (aCons (eC (.int 1000000000)) aNil))) ρ).bind λds=>yt (ds++[]))) (tb (λρ=>((aCons (e1 (bP [0,1,2,3] "behind") (eV 0)) (aCons (eV 2) (aCons (eV 3) aNil))) ρ).bind λds=>yt (ds++[])))))))))
theorem VJ (T:Txt K mg a):bM P w K mg base dR 2 a.f_is_right a.d_is_right ["arrow","many"] (eZ K a.ct [0,0] 0 FY):=by
 have eE:=Vn (P:=P) (w:=w) (base:=base) T
 refine lift (ms:=[.ow 0,.ow 0,.ow 0,.ow 0]) T.is_right.fn Lz rfl rfl (by decide) (zt (by decide)) λdf A outer s H E hr=>?_
 exact(zf (zw rfl Lz.nd rfl (Or.inl rfl) (XE.ow (Ci (jm (Qh (k:=0) T.isi_Back T.b_isinstance T.Back.mgx (za 0 0))) (zh (n:=0)) (zh (n:=0)))))
  (zf (zw rfl Lz.nd rfl (Or.inl rfl) (XE.ow (Ci (jm (Qh (k:=0) T.isi_Ride T.b_isinstance T.Ride.mgx (za 0 0))) (zh (n:=0)) (D7 (n:=0) (d:=(.int 4)) rfl T.g_MOST_BEHIND.choose_spec rfl ⟨_,rfl⟩))))
  (zf (uj (XW.t (uD (qI (jm (XO.sh (n:=0) (zl (cU:=[]) (ns:=[0,0,0]) (nd:=[]) eE (hr.mono (by decide)) rfl T.lies_within.mgx T.lies_within.fn.kp T.lies_within.bd .nil (λ_ _=>.nil) (ze (xl (n:=0) (za 0 0) T.fld_start rfl) (ze (zh (n:=0)) (ze (yr (k:=0) MJ Mr (za 1 0) (zh (n:=0))) zk))))))) (Ca (qI (jm (XO.sh (n:=0) (zl (cU:=[]) (ns:=[0,0,0]) (nd:=[]) eE (hr.mono (by decide)) rfl T.lies_within.mgx T.lies_within.fn.kp T.lies_within.bd .nil (λ_ _=>.nil) (ze (xl (n:=0) (za 0 0) T.fld_goal rfl) (ze (zh (n:=0)) (ze (yr (k:=0) MJ Mr (za 1 0) (zh (n:=0))) zk)))))))))) (zj (yi (XE.ow (sW (n:=0))))) xv)
  (zj (yi (XE.ow (Cb (XO.sh (n:=0) (zl (cU:=[]) (ns:=[0,0,0]) (nd:=[]) eE (hr.mono (by decide)) rfl T.lies_within.mgx T.lies_within.fn.kp T.lies_within.bd .nil (λ_ _=>.nil) (ze (xl (n:=0) (za 0 0) T.fld_time rfl) (ze (zh (n:=0)) (ze (D7 (n:=0) (d:=(.int 1000000000)) rfl T.g_MOST_TIME.choose_spec rfl ⟨_,rfl⟩) zk))))) (Bw (k:=0) (XO.sh (n:=0) (zl (cU:=[]) (ns:=[0,0,0]) (nd:=[]) eE (hr.mono (by decide)) rfl T.lies_within.mgx T.lies_within.fn.kp T.lies_within.bd .nil (λ_ _=>.nil) (ze (xl (n:=0) (za 0 0) T.fld_behind rfl) (ze (za 2 0) (ze (za 3 0) zk)))))))))))))
def ve:SF:=(sIf (tb (e2 (iE false) (e1 (bP [0,1,2,3] "start") (eV 4)) (eV 7))) (sSeq (mw 3 (e1 (bP [0,1,2,3] "goal") (eV 4)) (λi j=>i-j) (eC (.int 1)))
  (sIf (tb (e2 (iE false) (e2 dh (eV 3) (e1 (bP [0,1,2,3] "goal") (eV 4))) (eC (.int 0)))) (sApp 5 (e1 (bP [0,1,2,3] "goal") (eV 4))) sSkip)) sSkip)
def u4:SF:=(sSeq (sSet 7 (e2 dh (eV 5) (eV 6)))
  (sSeq (sFor (lsD (eV 2)) (gV 4) ve)
  (pO 6 (i2 λi j=>.int (i+j)) (eC (.int 1)))))
def j8:EF:=(cX (λρ=>((aCons (eV 0) aNil) ρ).bind ig) 1 [3] (gV 0) (tb (e2 (iE false) (e2 dh (eV 1) (eV 0)) (eC (.int 0)))) (eV 0))
def u5:SF:=(mw 3 (e1 (bP [0,1,2,3] "goal") (eV 4)) (λi j=>i+j) (eC (.int 1)))
def j9:EF:=(cX (lsD (eV 1)) 1 [] (gV 0) (tb (e2 (iE false) (e1 (bP [0,1,2,3] "behind") (eV 0)) (eC (.int 0)))) (eV 0))
def vo:List D->Option D:=mOf ["many","arrows","within","waited","arrow","placed","done","here"]
  (sSeq (sSet 2 j9)
  (sSeq (sSet 3 (e2 ng (λρ=>((aCons (eC (.int 0)) aNil) ρ).bind λds=>some (.lst ds)) (eV 0)))
  (sSeq (sFor (lsD (eV 2)) (gV 4) u5)
  (sSeq (sSet 5 j8)
  (sSeq (sSet 6 (eC (.int 0)))
  (sSeq (eA (tb (e2 nF (eV 6) (eN dg (aCons (eV 5) aNil)))) u4)
  (sRet (eV 5))))))))
theorem U4 (T:Txt K mg a):bM P w K mg base dR 1 a.f_placed_goings a.d_placed_goings ["many","arrows"] (eZ K a.ct [0,0] 0 vo):=by
 refine lift (ms:=[.ow 0,.ow 0,.ow 0,.ow 1,.ow 0,.ow 1,.ow 0,.ow 0]) T.placed_goings.fn xh rfl rfl (by decide) (zt (by decide)) λdf A outer s H E hr=>?_
 exact(zf (uz (k:=0) (N:=["arrow"]) (om:=[.ow 0]) (cap:=[]) (own:=1) rfl xh.nd rfl (Or.inl rfl) (uf (by rfl)) rfl rfl (by decide) (vz (n:=0) (za 1 0)) (λ_ _ _ _ _=>(yf (by decide) rfl (show ba (["arrow"]:List Str)from by decide +kernel) rfl (by first|exact Or.inl rfl|exact Or.inr rfl))) (λ_ _ _ _ _=>(Gz (xk (k:=0) (j5 hr.u64) ja (xl (n:=0) (za 0 0) T.fld_behind rfl) (zh (n:=0)) (bB _)))) (λ_ _ _ _ _=>(XE.ow (za 0 0))))
  (zf (zw rfl xh.nd rfl (Or.inr rfl) (QW (t7 (k:=0) (zu (XE.ow (zh (n:=0))) wo)) (za 0 0)))
  (zf (qJ (B5 (za 2 0)) (vn rfl xh.nd rfl (Or.inl rfl)) (zj (Qg 3 MI rfl (xl (n:=0) (za 4 0) T.fld_goal rfl) (zh (n:=0)))) PassesOwn.never rfl)
  (zf (uz (k:=1) (N:=["going","waited"]) (om:=[.ow 0]) (cap:=[3]) (own:=1) rfl xh.nd rfl (Or.inl rfl) (uf (by rfl)) rfl rfl (by decide) (XI.cc (j6 (n:=0) T.b_range (ze (za 0 0) zk))) (λ_ _ _ _ _=>(yf (by decide) rfl (show ba (["going","waited"]:List Str)from by decide +kernel) rfl (by first|exact Or.inl rfl|exact Or.inr rfl))) (λ_ _ _ _ _=>(Gz (xk (k:=0) (j5 hr.u64) ja (wj (n:=1) yn yo (za 1 1) (za 0 0) (λ_ _=>rfl)) (zh (n:=0)) (bB _)))) (λ_ _ _ _ _=>(XE.ow (za 0 0))))
  (zf (zw rfl xh.nd rfl (Or.inl rfl) (XE.ow (zh (n:=0))))
  (zf (BY (xk (k:=0) uB t8 (za 6 0) (yw (k:=0) xi vc rfl T.b_len ue (ze (za 5 1) zk)) (bB _)) (zf (zw rfl xh.nd rfl (Or.inl rfl) (XE.ow (wj (n:=1) yn yo (za 5 1) (za 6 0) (λ_ _=>rfl))))
  (zf (qJ (B5 (za 2 0)) (vn rfl xh.nd rfl (Or.inl rfl)) (zj (uj (xk (k:=0) (j5 hr.u64) ja (xl (n:=0) (za 4 0) T.fld_start rfl) (za 7 0) (bB _)) (zf (Qg 3 ZN rfl (xl (n:=0) (za 4 0) T.fld_goal rfl) (zh (n:=0)))
  (zj (uj (xk (k:=0) (j5 hr.u64) ja (wj (n:=1) yn yo (za 3 1) (xl (n:=0) (za 4 0) T.fld_goal rfl) (λ_ _=>rfl)) (zh (n:=0)) (bB _)) (zj (D2 5 rfl (XE.ow (xl (n:=0) (za 4 0) T.fld_goal rfl)))) xv))) xv)) PassesOwn.never rfl)
  (zj (QX MI rfl xh.nd rfl (Or.inl rfl) (zh (n:=0)))))) PassesOwn.never)
  (zj (Qj (i:=5) rfl))))))))
def uk:SF:=(sSeq (iJ 4 (eV 3) (eN dg (aCons (eV 5) aNil)))
  (sSeq (sApp 5 (λρ=>((eV 1) ρ).bind λx=>((eV 3) ρ).bind λy=>(fP x y).join))
  (sSet 3 (e1 (bP [0,1,2,3] "start") (e2 dh (eV 0) (λρ=>((eV 1) ρ).bind λx=>((eV 3) ρ).bind λy=>(fP x y).join))))))
def ub:List D->Option D:=mOf ["arrows","chosen","going","here","seen","way"]
  (sSeq (sSet 3 (eV 2))
  (sSeq (sSet 4 (eC (.dK [] [])))
  (sSeq (sSet 5 (λρ=>(aNil ρ).bind λds=>some (.lst ds)))
  (sSeq (eA (tb (λρ=>((eV 3) ρ).bind λx=>((eV 4) ρ).bind λy=>(fP y x).bind λr=>some (.bl (!r.isSome)))) uk)
  (sRet (e1 pH (λρ=>((eV 5) ρ).bind λd=>((pInt (λρ=>((eV 4) ρ).bind λx=>((eV 3) ρ).bind λy=>(fP x y).join)) ρ).bind λl=>(pNo ρ).bind λh=>ij d l h)))))))
theorem U8 (T:Txt K mg a):bM P w K mg base dR 1 a.f_ring_back_from a.d_ring_back_from ["arrows","chosen","going"] (eZ K a.ct [0,0,0] 1 ub):=by
 refine lift (ms:=[.ow 0,.ow 0,.ow 0,.ow 0,.ow 1,.ow 1]) T.ring_back_from.fn vd rfl rfl (by decide) (zt (by decide)) λdf A outer s H E hr=>?_
 exact(zf (zw rfl vd.nd rfl (Or.inl rfl) (XE.ow (za 2 0)))
  (zf (zw rfl vd.nd rfl (Or.inl rfl) L6)
  (zf (zw rfl vd.nd rfl (Or.inl rfl) (t7 (k:=0) wo))
  (zf (BY (WB (uC hr) (za 3 0) (za 4 1) (by with_unfolding_all rfl)) (zf (Qs 4 rfl (uC hr) (za 3 0) (yw (k:=0) xi vc rfl T.b_len ue (ze (za 5 1) zk)))
  (zf (D2 5 rfl (XE.ow (MP (uC hr) (za 1 0) (za 3 0) (λ_ _=>rfl))))
  (zj (zw rfl vd.nd rfl (Or.inl rfl) (XE.ow (xl (n:=0) (wj (n:=0) yn yo (za 0 0) (MP (uC hr) (za 1 0) (za 3 0) (λ_ _=>rfl)) (λ_ _=>rfl)) T.fld_start rfl)))))) PassesOwn.never)
  (zj (yi (YZ (n:=0) (by decide) rfl rfl T.b_list rfl T.b_reversed (XO.sh (n:=0) (Gf (n:=1) (by decide) (za 5 1) (D8 (MP (uC hr) (za 4 1) (za 3 0) (λ_ _=>rfl))) M2)))))))))
def j4:SF:=(sIf (bNot (tb (λρ=>((aCons (eV 4) (aCons (eN dg (aCons (eV 1) aNil)) aNil)) ρ).bind λds=>FY (ds++[])))) lH sSkip)
def jz:Nat->List D->Option D:=zN ["self","names","arrows","number","arrow","placed"]
  (sSeq (sIf (bOr (bNot (tb (λρ=>((aCons (eV 1) aNil) ρ).bind λds=>qo (ds++[])))) (tb (e2 qA (eN dg (aCons (eV 2) aNil)) (eC (.int 120))))) lH sSkip)
  (sSeq (sFor (λρ=>((aCons (eV 2) aNil) ρ).bind λds=>match ds with|[.lst xs]=>some (de 0 xs)|_=>none) (gT (gsCons (gV 3) (gsCons (gV 4) gsNil))) j4)
  (sSeq (sSet 5 (λρ=>((aCons (eN dg (aCons (eV 1) aNil)) (aCons (eV 2) aNil)) ρ).bind λds=>vo (ds++[])))
  (sSeq (sIf (tb (e2 nF (eN dg (aCons (eV 5) aNil)) (eN dg (aCons (eV 1) aNil)))) lH sSkip)
  (sSeq (iI [4] "names" (eN kR (aCons (eV 1) aNil)))
  (iI [4] "arrows" (eN kR (aCons (eV 2) aNil))))))))
theorem Vu (T:Txt K mg a):bM P w K mg base dR 4 a.f_Net___init a.d_Net___init ["self","names","arrows"] (oW K a.ct [4] [0,0] jz):=by
 have lZ:=VN (P:=P) (w:=w) (base:=base) T
 have mO:=VJ (P:=P) (w:=w) (base:=base) T
 have jO:=U4 (P:=P) (w:=w) (base:=base) T
 refine D3 (ms:=[.ow 0,.ow 0,.ow 0,.ow 0,.ow 0]) (rk:=0) T.Net___init.fn jg rfl rfl (by decide) (zt (by decide)) λx0 df A outer s H E hr=>?_
 exact(zf (uj (XW.t (uD (qI (jm (XO.sh (n:=0) (zl (cU:=[]) (ns:=[0]) (nd:=[]) lZ (hr.mono (by decide)) rfl T.are_names.mgx T.are_names.fn.kp T.are_names.bd .nil (λ_ _=>.nil) (ze (za 1 0) zk))))) (Ca (xk (k:=0) Cj Cc (yw (k:=0) xi vc rfl T.b_len ue (ze (za 2 0) zk)) (D7 (n:=0) (d:=(.int 120)) rfl T.g_MOST_ARROWS.choose_spec rfl ⟨_,rfl⟩) (bB _))))) (zj L8) xv)
  (zf (qJ (YG T.b_enumerate (ze (za 2 0) zk)) (MO (n:=1) rfl (jx (vn rfl jg.nd rfl (Or.inl rfl)) (jx (vn rfl jg.nd rfl (Or.inl rfl)) Mq))) (zj (uj (qI (jm (XO.sh (n:=0) (zl (cU:=[]) (ns:=[0,0]) (nd:=[]) mO (hr.mono (by decide)) rfl T.is_right.mgx T.is_right.fn.kp T.is_right.bd .nil (λ_ _=>.nil) (ze (za 4 0) (ze (yw (k:=0) xi vc rfl T.b_len ue (ze (za 1 0) zk)) zk)))))) (zj L8) xv)) PassesOwn.never rfl)
  (zf (zw rfl jg.nd rfl (Or.inl rfl) (zl (cU:=[]) (ns:=[0,0]) (nd:=[]) jO (hr.mono (by decide)) rfl T.placed_goings.mgx T.placed_goings.fn.kp T.placed_goings.bd .nil (λ_ _=>.nil) (ze (yw (k:=0) xi vc rfl T.b_len ue (ze (za 1 0) zk)) (ze (za 2 0) zk))))
  (zf (uj (xk (k:=0) uB t8 (yw (k:=0) xi vc rfl T.b_len ue (ze (za 5 0) zk)) (yw (k:=0) xi vc rfl T.b_len ue (ze (za 1 0) zk)) (bB _)) (zj L8) xv)
  (zf (Ce T.fld_names (XO.sh (n:=0) (Pk OE (Pw (n:=0) (by decide)) rfl T.b_list D6 (ze (za 1 0) zk))))
  (zj (Ce T.fld_arrows (XO.sh (n:=0) (Pk OE (Pw (n:=0) (by decide)) rfl T.b_list D6 (ze (za 2 0) zk))))))))))
def jr:EF:=(cX (lsD (e1 (bP [4] "arrows") (eV 0))) 1 [] (gV 0) dU (e1 (bP [0,1,2,3] "behind") (eV 0)))
def ym:List D->Option D:=mOf ["self"]
  (sRet (eN AB (aCons (e2 dG (λρ=>((aCons (eC (.int 1)) aNil) ρ).bind λds=>some (.lst ds)) jr) aNil)))
theorem U7 (T:Txt K mg a):bM P w K mg base dR 1 a.f_Net_most_behind a.d_Net_most_behind ["self"] (eZ K a.ct [0] 0 ym):=by
 refine lift (ms:=[.ow 0]) T.Net_most_behind.fn U6 rfl rfl (by decide) (zt (by decide)) λdf A outer s H E hr=>?_
 exact(zj (yi (XE.ow (yw (k:=0) (WL rfl) Ym rfl T.b_max Z7 (ze (XO.sh (n:=0) (jv wp (wt (n:=0) (m:=0) (by decide) (by decide)) (XO.sh (n:=0) (t7 (k:=0) (zu (XE.ow (zh (n:=0))) wo))) (XO.sh (n:=0) (ux (N:=["arrow"]) (om:=[.ow 0]) (cap:=[]) (own:=1) (uf (by rfl)) rfl rfl (by decide) (vz (n:=0) (xl (n:=0) (za 0 0) T.fld_arrows rfl)) (λ_ _ _ _ _=>(yf (by decide) rfl (show ba (["arrow"]:List Str)from by decide +kernel) rfl (by first|exact Or.inl rfl|exact Or.inr rfl))) (λ_ _ _ _ _=>v8) (λ_ _ _ _ _=>(XE.ow (xl (n:=0) (za 0 0) T.fld_behind rfl))))))) zk)))))
def LD:EF:=(cX (λρ=>((aCons (e1 (bP [4] "arrows") (eV 0)) aNil) ρ).bind λds=>match ds with|[.lst xs]=>some (de 0 xs)|_=>none) 2 [1] (gT (gsCons (gV 0) (gsCons (gV 1) gsNil))) (tb (e2 (iE false) (e1 (bP [0,1,2,3] "goal") (eV 1)) (eV 2))) (eV 0))
def qc:List D->Option D:=mOf ["self","going"]
  (sRet LD)
theorem VL (T:Txt K mg a):bM P w K mg base dR 1 a.f_Net_into a.d_Net_into ["self","going"] (eZ K a.ct [0,0] 0 qc):=by
 refine lift (ms:=[.ow 0,.ow 0]) T.Net_into.fn VG rfl rfl (by decide) (zt (by decide)) λdf A outer s H E hr=>?_
 exact(zj (yi (XE.ow (XO.sh (n:=0) (ux (N:=["number","arrow","going"]) (om:=[.ow 0,.ow 0]) (cap:=[1]) (own:=2) (uf (by rfl)) rfl rfl (by decide) (Mb (n:=0) T.b_enumerate (ze (xl (n:=0) (za 0 0) T.fld_arrows rfl) zk)) (λ_ _ _ _ _=>(B4 (n:=1) rfl (xt (yf (by decide) rfl (show ba (["number","arrow","going"]:List Str)from by decide +kernel) rfl (by first|exact Or.inl rfl|exact Or.inr rfl)) (xt (yf (by decide) rfl (show ba (["number","arrow","going"]:List Str)from by decide +kernel) rfl (by first|exact Or.inl rfl|exact Or.inr rfl)) BZ)))) (λ_ _ _ _ _=>(Gz (xk (k:=0) (j5 hr.u64) ja (xl (n:=0) (za 1 0) T.fld_goal rfl) (za 2 0) (bB _)))) (λ_ _ _ _ _=>(XE.ow (za 0 0))))))))
def uh:SF:=(sIf (tb (e2 (inD true) (e1 (bP [0,1,2,3] "start") (e2 dh (e1 (bP [4] "arrows") (eV 0)) (eV 5))) (eV 2))) (sApp 2 (e1 (bP [0,1,2,3] "start") (e2 dh (e1 (bP [4] "arrows") (eV 0)) (eV 5)))) sSkip)
def LF:SF:=(sSeq (sSet 4 (e2 dh (eV 2) (eV 3)))
  (sSeq (sFor (lsD (λρ=>((eV 0) ρ).bind λo=>((aCons (eV 4) aNil) ρ).bind λds=>iX 4 "into" qc o (ds++[]))) (gV 5) uh)
  (pO 3 (i2 λi j=>.int (i+j)) (eC (.int 1)))))
def jk:List D->Option D:=mOf ["net","going","found","done","here","number"]
  (sSeq (sSet 2 (λρ=>((aCons (eV 1) aNil) ρ).bind λds=>some (.lst ds)))
  (sSeq (sSet 3 (eC (.int 0)))
  (sSeq (eA (tb (e2 nF (eV 3) (eN dg (aCons (eV 2) aNil)))) LF)
  (sRet (eN km (aCons (eV 2) aNil))))))
theorem VW (T:Txt K mg a):bM P w K mg base dR 2 a.f_leads_to a.d_leads_to ["net","going"] (eZ K a.ct [0,0] 1 jk):=by
 have mN:=VL (P:=P) (w:=w) (base:=base) T
 refine lift (ms:=[.ow 0,.ow 0,.ow 1,.ow 0,.ow 0,.ow 0]) T.leads_to.fn u0 rfl rfl (by decide) (zt (by decide)) λdf A outer s H E hr=>?_
 exact(zf (zw rfl u0.nd rfl (Or.inl rfl) (t7 (k:=0) (zu (XE.ow (za 1 0)) wo)))
  (zf (zw rfl u0.nd rfl (Or.inl rfl) (XE.ow (zh (n:=0))))
  (zf (BY (xk (k:=0) uB t8 (za 3 0) (yw (k:=0) xi vc rfl T.b_len ue (ze (za 2 1) zk)) (bB _)) (zf (zw rfl u0.nd rfl (Or.inl rfl) (XE.ow (wj (n:=1) yn yo (za 2 1) (za 3 0) (λ_ _=>rfl))))
  (zf (qJ (B5 (XO.sh (n:=0) (YD (n:=0) (c0:=4) (ns:=[0]) (nd:=[]) (cU:=[]) (za 0 0) T.Net.cl T.Net_into.me mN (hr.mono (by decide)) T.Net_into.bd .nil (λ_ _=>.nil) (ze (za 4 0) zk)))) (vn rfl u0.nd rfl (Or.inl rfl)) (zj (uj (xk (k:=0) VC MQ (xl (n:=0) (wj (n:=0) yn yo (xl (n:=0) (za 0 0) T.fld_arrows rfl) (za 5 0) (λ_ _=>rfl)) T.fld_start rfl) (za 2 1) (by with_unfolding_all rfl)) (zj (D2 2 rfl (XE.ow (xl (n:=0) (wj (n:=0) yn yo (xl (n:=0) (za 0 0) T.fld_arrows rfl) (za 5 0) (λ_ _=>rfl)) T.fld_start rfl)))) xv)) PassesOwn.never rfl)
  (zj (QX MI rfl u0.nd rfl (Or.inl rfl) (zh (n:=0)))))) PassesOwn.never)
  (zj (yi (Xj Vw Xo rfl T.b_sorted WG (ze (za 2 1) zk)))))))
def um:SF:=(sSeq (sSet 2 (e2 cY (eV 0) (eV 1)))
  (sSeq (sSet 0 (eV 1))
  (sSet 1 (eV 2))))
def uc:List D->Option D:=mOf ["one","other","rest"]
  (sSeq (eA (tb (e2 (iE true) (eV 1) (eC (.int 0)))) um)
  (sRet (eN uL (aCons (eV 0) aNil))))
theorem U9 (T:Txt K mg a):bM P w K mg base dR 1 a.f_common_divisor a.d_common_divisor ["one","other"] (eZ K a.ct [0,0] 0 uc):=by
 refine lift (ms:=[.ow 0,.ow 0,.ow 0]) T.common_divisor.fn v4 rfl rfl (by decide) (zt (by decide)) λdf A outer s H E hr=>?_
 exact(zf (BY (xk (k:=0) (GK hr.u64) ja (za 1 0) (zh (n:=0)) (bB _)) (zf (zw rfl v4.nd rfl (Or.inl rfl) (XE.ow (yr (k:=0) xy xz (za 0 0) (za 1 0))))
  (zf (zw rfl v4.nd rfl (Or.inl rfl) (XE.ow (za 1 0)))
  (zj (zw rfl v4.nd rfl (Or.inl rfl) (XE.ow (za 2 0)))))) PassesOwn.never)
  (zj (yi (XE.ow (yw (k:=0) WV YK rfl T.b_abs Z6 (ze (za 0 0) zk))))))
def qp:List D->Option D:=mOf ["top","bottom","divisor"]
  (sSeq (sSet 2 (λρ=>((aCons (eV 0) (aCons (eV 1) aNil)) ρ).bind λds=>uc (ds++[])))
  (sSeq (sIf (tb (e2 nF (eV 1) (eC (.int 0)))) (sSet 2 (e1 oo (eV 2))) sSkip)
  (sRet (λρ=>((aCons (e2 dH (eV 0) (eV 2)) (aCons (e2 dH (eV 1) (eV 2)) aNil)) ρ).bind λds=>some (.tup ds)))))
theorem B0 (T:Txt K mg a):bM P w K mg base dR 2 a.f_ratio a.d_ratio ["top","bottom"] (eZ K a.ct [0,0] 0 qp):=by
 have iT:=U9 (P:=P) (w:=w) (base:=base) T
 refine lift (ms:=[.ow 0,.ow 0,.ow 0]) T.ratio.fn Me rfl rfl (by decide) (zt (by decide)) λdf A outer s H E hr=>?_
 exact(zf (zw rfl Me.nd rfl (Or.inl rfl) (zl (cU:=[]) (ns:=[0,0]) (nd:=[]) iT (hr.mono (by decide)) rfl T.common_divisor.mgx T.common_divisor.fn.kp T.common_divisor.bd .nil (λ_ _=>.nil) (ze (za 0 0) (ze (za 1 0) zk))))
  (zf (uj (xk (k:=0) uB t8 (za 1 0) (zh (n:=0)) (bB _)) (zj (zw rfl Me.nd rfl (Or.inl rfl) (XE.ow (GF (k:=0) (za 2 0))))) xv)
  (zj (yi (XE.ow (XO.sh (n:=0) (jw (zu (XE.ow (yr (k:=0) vw vx (za 0 0) (za 2 0))) (zu (XE.ow (yr (k:=0) vw vx (za 1 0) (za 2 0))) wo)))))))))
def Gj:List D->Option D:=mOf ["one","whole"]
  (sRet (λρ=>((aCons (e2 cE (e2 dh (eV 0) (eC (.int 0))) (eV 1)) (aCons (e2 dh (eV 0) (eC (.int 1))) aNil)) ρ).bind λds=>qp (ds++[])))
theorem WY (T:Txt K mg a):bM P w K mg base dR 3 a.f_scaled a.d_scaled ["one","whole"] (eZ K a.ct [0,0] 0 Gj):=by
 have d7:=B0 (P:=P) (w:=w) (base:=base) T
 refine lift (ms:=[.ow 0,.ow 0]) T.scaled.fn WX rfl rfl (by decide) (zt (by decide)) λdf A outer s H E hr=>?_
 exact(zj (yi (zl (cU:=[]) (ns:=[0,0]) (nd:=[]) d7 (hr.mono (by decide)) rfl T.ratio.mgx T.ratio.fn.kp T.ratio.bd .nil (λ_ _=>.nil) (ze (yr (k:=0) wn xr (wj (n:=0) yn yo (za 0 0) (zh (n:=0)) (λ_ _=>rfl)) (za 1 0)) (ze (wj (n:=0) yn yo (za 0 0) (zh (n:=0)) (λ_ _=>rfl)) zk)))))
def Ea:List D->Option D:=mOf ["one","other"]
  (sRet (λρ=>((aCons (e2 dG (e2 cE (e2 dh (eV 0) (eC (.int 0))) (e2 dh (eV 1) (eC (.int 1)))) (e2 cE (e2 dh (eV 1) (eC (.int 0))) (e2 dh (eV 0) (eC (.int 1))))) (aCons (e2 cE (e2 dh (eV 0) (eC (.int 1))) (e2 dh (eV 1) (eC (.int 1)))) aNil)) ρ).bind λds=>qp (ds++[])))
theorem Qt (T:Txt K mg a):bM P w K mg base dR 3 a.f_plus a.d_plus ["one","other"] (eZ K a.ct [0,0] 0 Ea):=by
 have d7:=B0 (P:=P) (w:=w) (base:=base) T
 refine lift (ms:=[.ow 0,.ow 0]) T.plus.fn Y5 rfl rfl (by decide) (zt (by decide)) λdf A outer s H E hr=>?_
 exact(zj (yi (zl (cU:=[]) (ns:=[0,0]) (nd:=[]) d7 (hr.mono (by decide)) rfl T.ratio.mgx T.ratio.fn.kp T.ratio.bd .nil (λ_ _=>.nil) (ze (XO.sh (n:=0) (jv wp (wt (n:=0) (m:=0) (by decide) (by decide)) (yr (k:=0) wn xr (wj (n:=0) yn yo (za 0 0) (zh (n:=0)) (λ_ _=>rfl)) (wj (n:=0) yn yo (za 1 0) (zh (n:=0)) (λ_ _=>rfl))) (yr (k:=0) wn xr (wj (n:=0) yn yo (za 1 0) (zh (n:=0)) (λ_ _=>rfl)) (wj (n:=0) yn yo (za 0 0) (zh (n:=0)) (λ_ _=>rfl))))) (ze (yr (k:=0) wn xr (wj (n:=0) yn yo (za 0 0) (zh (n:=0)) (λ_ _=>rfl)) (wj (n:=0) yn yo (za 1 0) (zh (n:=0)) (λ_ _=>rfl))) zk)))))
def B7:List D->Option D:=mOf ["one","other"]
  (sRet (λρ=>((aCons (eV 0) (aCons (λρ=>((aCons (eV 1) (aCons (e1 oo (eC (.int 1))) aNil)) ρ).bind λds=>Gj (ds++[])) aNil)) ρ).bind λds=>Ea (ds++[])))
theorem XJ (T:Txt K mg a):bM P w K mg base dR 4 a.f_minus a.d_minus ["one","other"] (eZ K a.ct [0,0] 0 B7):=by
 have mS:=Qt (P:=P) (w:=w) (base:=base) T
 have oV:=WY (P:=P) (w:=w) (base:=base) T
 refine lift (ms:=[.ow 0,.ow 0]) T.minus.fn XF rfl rfl (by decide) (zt (by decide)) λdf A outer s H E hr=>?_
 exact(zj (yi (zl (cU:=[]) (ns:=[0,0]) (nd:=[]) mS (hr.mono (by decide)) rfl T.plus.mgx T.plus.fn.kp T.plus.bd .nil (λ_ _=>.nil) (ze (za 0 0) (ze (XO.sh (n:=0) (zl (cU:=[]) (ns:=[0,0]) (nd:=[]) oV (hr.mono (by decide)) rfl T.scaled.mgx T.scaled.fn.kp T.scaled.bd .nil (λ_ _=>.nil) (ze (za 1 0) (ze (GF (k:=0) (zh (n:=0))) zk)))) zk)))))
def B8:List D->Option D:=mOf ["one","other"]
  (sRet (e2 nF (e2 cE (e2 dh (eV 0) (eC (.int 0))) (e2 dh (eV 1) (eC (.int 1)))) (e2 cE (e2 dh (eV 1) (eC (.int 0))) (e2 dh (eV 0) (eC (.int 1))))))
theorem XN (T:Txt K mg a):bM P w K mg base dR 1 a.f_under a.d_under ["one","other"] (eZ K a.ct [0,0] 0 B8):=by
 refine lift (ms:=[.ow 0,.ow 0]) T.under.fn XH rfl rfl (by decide) (zt (by decide)) λdf A outer s H E hr=>?_
 exact(zj (yi (XE.ow (qH (k:=0) uB t8 (yr (k:=0) wn xr (wj (n:=0) yn yo (za 0 0) (zh (n:=0)) (λ_ _=>rfl)) (wj (n:=0) yn yo (za 1 0) (zh (n:=0)) (λ_ _=>rfl))) (yr (k:=0) wn xr (wj (n:=0) yn yo (za 1 0) (zh (n:=0)) (λ_ _=>rfl)) (wj (n:=0) yn yo (za 0 0) (zh (n:=0)) (λ_ _=>rfl))) (bB _)))))
def Mf:EF:=(cX (lsD (eV 1)) 1 [0] (gV 0) dU (e1 (bP [0,1,2,3] "behind") (e2 dh (e1 (bP [4] "arrows") (eV 1)) (eV 0))))
def Mg:EF:=(cX (lsD (eV 1)) 1 [0] (gV 0) dU (e1 (bP [0,1,2,3] "time") (e2 dh (e1 (bP [4] "arrows") (eV 1)) (eV 0))))
def sV:List D->Option D:=mOf ["net","ring","times","behinds"]
  (sSeq (sSet 2 (eN pR (aCons Mg aNil)))
  (sSeq (sSet 3 (eN pR (aCons Mf aNil)))
  (sRet (λρ=>((aCons (eV 2) (aCons (eV 3) aNil)) ρ).bind λds=>qp (ds++[])))))
theorem Qu (T:Txt K mg a):bM P w K mg base dR 3 a.f_mean a.d_mean ["net","ring"] (eZ K a.ct [0,0] 0 sV):=by
 have d7:=B0 (P:=P) (w:=w) (base:=base) T
 refine lift (ms:=[.ow 0,.ow 0,.ow 0,.ow 0]) T.mean.fn Mm rfl rfl (by decide) (zt (by decide)) λdf A outer s H E hr=>?_
 exact(zf (zw rfl Mm.nd rfl (Or.inl rfl) (XE.ow (yw (k:=0) (LR rfl) Mu rfl T.b_sum ML (ze (XO.sh (n:=0) (ux (N:=["number","net"]) (om:=[.ow 0]) (cap:=[0]) (own:=1) (uf (by rfl)) rfl rfl (by decide) (vz (n:=0) (za 1 0)) (λ_ _ _ _ _=>(yf (by decide) rfl (show ba (["number","net"]:List Str)from by decide +kernel) rfl (by first|exact Or.inl rfl|exact Or.inr rfl))) (λ_ _ _ _ _=>v8) (λ_ _ _ _ _=>(XE.ow (xl (n:=0) (wj (n:=0) yn yo (xl (n:=0) (za 1 0) T.fld_arrows rfl) (za 0 0) (λ_ _=>rfl)) T.fld_time rfl))))) zk))))
  (zf (zw rfl Mm.nd rfl (Or.inl rfl) (XE.ow (yw (k:=0) (LR rfl) Mu rfl T.b_sum ML (ze (XO.sh (n:=0) (ux (N:=["number","net"]) (om:=[.ow 0]) (cap:=[0]) (own:=1) (uf (by rfl)) rfl rfl (by decide) (vz (n:=0) (za 1 0)) (λ_ _ _ _ _=>(yf (by decide) rfl (show ba (["number","net"]:List Str)from by decide +kernel) rfl (by first|exact Or.inl rfl|exact Or.inr rfl))) (λ_ _ _ _ _=>v8) (λ_ _ _ _ _=>(XE.ow (xl (n:=0) (wj (n:=0) yn yo (xl (n:=0) (za 1 0) T.fld_arrows rfl) (za 0 0) (λ_ _=>rfl)) T.fld_behind rfl))))) zk))))
  (zj (yi (zl (cU:=[]) (ns:=[0,0]) (nd:=[]) d7 (hr.mono (by decide)) rfl T.ratio.mgx T.ratio.fn.kp T.ratio.bd .nil (λ_ _=>.nil) (ze (za 2 0) (ze (za 3 0) zk)))))))
def xw:SF:=(sSeq (sSet 7 (e2 dh (e1 (bP [4] "arrows") (eV 0)) (eV 6)))
  (sSeq (sSet 8 (e2 pQ (e2 dG (e2 dh (eV 3) (e1 (bP [0,1,2,3] "start") (eV 7))) (e2 cE (e1 (bP [0,1,2,3] "time") (eV 7)) (e2 dh (eV 1) (eC (.int 1))))) (e2 cE (e1 (bP [0,1,2,3] "behind") (eV 7)) (e2 dh (eV 1) (eC (.int 0))))))
  (sIf (tb (e2 qA (eV 8) (e2 dh (eV 3) (e1 (bP [0,1,2,3] "goal") (eV 7))))) (sSeq (my 3 (e1 (bP [0,1,2,3] "goal") (eV 7)) (eV 8))
  (sSeq (iJ 4 (e1 (bP [0,1,2,3] "goal") (eV 7)) (eV 6))
  (sSet 5 (e1 (bP [0,1,2,3] "goal") (eV 7))))) sSkip)))
def vq:List D->Option D:=Az 3 ["net","pace","numbers","times","chosen","pushed","number","arrow","earliest"]
  (sA (sSet 5 (eC .non))
  (sA (sFor (lsD (eV 2)) (gV 6) xw)
  (AA (eV 5))))
theorem VO (T:Txt K mg a):bM P w K mg base dR 1 a.f_push_once a.d_push_once ["net","pace","numbers","times","chosen"] (By K a.ct 3 vq):=by
 refine XC (n:=3) (ms:=[.ow 0,.ow 0,.ow 0,.ow 0]) T.push_once.fn ug rfl rfl λxa xb df A outer s H E hr=>?_
 exact(Qk (zw rfl ug.nd rfl (Or.inl rfl) (XE.ow (uv (n:=0))))
  (Qk (qJ (B5 (za 2 0)) (vn rfl ug.nd rfl (Or.inl rfl)) (zf (zw rfl ug.nd rfl (Or.inl rfl) (XE.ow (wj (n:=0) yn yo (xl (n:=0) (za 0 0) T.fld_arrows rfl) (za 6 0) (λ_ _=>rfl))))
  (zf (zw rfl ug.nd rfl (Or.inl rfl) (XE.ow (yr (k:=0) MJ Mr (XO.sh (n:=0) (jv wp (wt (n:=0) (m:=0) (by decide) (by decide)) (wj (n:=1) yn yo (za 3 1) (xl (n:=0) (za 7 0) T.fld_start rfl) (λ_ _=>rfl)) (yr (k:=0) wn xr (xl (n:=0) (za 7 0) T.fld_time rfl) (wj (n:=0) yn yo (za 1 0) (zh (n:=0)) (λ_ _=>rfl))))) (yr (k:=0) wn xr (xl (n:=0) (za 7 0) T.fld_behind rfl) (wj (n:=0) yn yo (za 1 0) (zh (n:=0)) (λ_ _=>rfl))))))
  (zj (uj (xk (k:=0) Cj Cc (za 8 0) (wj (n:=1) yn yo (za 3 1) (xl (n:=0) (za 7 0) T.fld_goal rfl) (λ_ _=>rfl)) (bB _)) (zf (Xz 3 rfl (xl (n:=0) (za 7 0) T.fld_goal rfl) (za 8 0))
  (zf (XB 4 rfl (uC hr) (xl (n:=0) (za 7 0) T.fld_goal rfl) (za 6 0))
  (zj (zw rfl ug.nd rfl (Or.inl rfl) (XE.ow (xl (n:=0) (za 7 0) T.fld_goal rfl)))))) xv)))) PassesOwn.never rfl)
  (zsv (za 5 0))))
def uo:EF:=(cX (lsD (eV 3)) 1 [1] (gV 0) dU (λρ=>((aCons (eV 0) (aCons (e2 dh (eV 1) (eC (.int 1))) aNil)) ρ).bind λds=>qp (ds++[])))
def wk:SF:=(sSeq (kU 5 (ke 3 4 (aCons (eV 0) (aCons (eV 1) (aCons (eV 2) aNil))) vq))
  (sIf (tb (e2 (m7 false) (eV 5) (eC .non))) (sFz 3 (sRet (λρ=>((aCons (BG (eC (.str "times"))) (aCons uo aNil)) ρ).bind λds=>some (.tup ds)))) sSkip))
def xj:List D->Option D:=mOf ["net","pace","numbers","times","chosen","pushed","count"]
  (sSeq (sSet 3 (e2 ng (λρ=>((aCons (eC (.int 0)) aNil) ρ).bind λds=>some (.lst ds)) (eN dg (aCons (e1 (bP [4] "names") (eV 0)) aNil))))
  (sSeq (sSet 4 (eC (.dK [] [])))
  (sSeq (sSet 5 (eC .non))
  (sSeq (sFor (λρ=>((aCons (eN dg (aCons (e1 (bP [4] "names") (eV 0)) aNil)) aNil) ρ).bind ig) (gV 6) wk)
  (sFz 4 (sRet (λρ=>((aCons (BG (eC (.str "ring"))) (aCons (λρ=>((aCons (e1 (bP [4] "arrows") (eV 0)) (aCons (eV 4) (aCons (eV 5) aNil))) ρ).bind λds=>ub (ds++[])) aNil)) ρ).bind λds=>some (.tup ds))))))))
theorem uw (T:Txt K mg a):bM P w K mg base dR 3 a.f_times_or_ring_along a.d_times_or_ring_along ["net","pace","numbers"] (eZ K a.ct [0,0,0] 2 xj):=by
 have ml:=VO (P:=P) (w:=w) (base:=base) T
 have d7:=B0 (P:=P) (w:=w) (base:=base) T
 have iV:=U8 (P:=P) (w:=w) (base:=base) T
 refine lift (ms:=[.ow 0,.ow 0,.ow 0,.ow 1,.ow 1,.ow 0,.ow 0]) T.times_or_ring_along.fn yx rfl rfl (by decide) (zt (by decide)) λdf A outer s H E hr=>?_
 exact(zf (zw rfl yx.nd rfl (Or.inl rfl) (QW (t7 (k:=0) (zu (XE.ow (zh (n:=0))) wo)) (yw (k:=0) xi vc rfl T.b_len ue (ze (xl (n:=0) (za 0 0) T.fld_names rfl) zk))))
  (zf (zw rfl yx.nd rfl (Or.inl rfl) L6)
  (zf (zw rfl yx.nd rfl (Or.inl rfl) (XE.ow (uv (n:=0))))
  (zf (qJ (j6 (n:=0) T.b_range (ze (yw (k:=0) xi vc rfl T.b_len ue (ze (xl (n:=0) (za 0 0) T.fld_names rfl) zk)) zk)) (vn rfl yx.nd rfl (Or.inl rfl)) (zf (Y2 rfl yx.nd rfl (Or.inl rfl) (Y1 (i:=3) (j:=4) (by decide) rfl rfl ml (hr.mono (by decide)) rfl T.push_once.mgx T.push_once.fn.kp T.push_once.bd .nil (Ml (Ml (Ml zsw))) (Md (za 0 0) (Md (za 1 0) (Md (za 2 0) (Y0 (i:=3) (j:=4)))))))
  (zj (uj (xk (k:=0) uE t9 (za 5 0) (uv (n:=0)) (bB _)) (MK (i:=3) rfl (zj (yi (jw (zu (Rb (uA (n:=0))) (zu (ux (N:=["time","pace"]) (om:=[.ow 0]) (cap:=[1]) (own:=1) (uf (by rfl)) rfl rfl (by decide) (vz (n:=0) (za 3 0)) (λ_ _ _ _ _=>(yf (by decide) rfl (show ba (["time","pace"]:List Str)from by decide +kernel) rfl (by first|exact Or.inl rfl|exact Or.inr rfl))) (λ_ _ _ _ _=>v8) (λ_ _ _ _ _=>(zl (cU:=[]) (ns:=[0,0]) (nd:=[]) d7 (hr.mono (by decide)) rfl T.ratio.mgx T.ratio.fn.kp T.ratio.bd .nil (λ_ _=>.nil) (ze (za 0 0) (ze (wj (n:=0) yn yo (za 1 0) (zh (n:=0)) (λ_ _=>rfl)) zk))))) wo)))))) xv))) PassesOwn.never rfl)
  (MK (i:=4) rfl (zj (yi (jw (zu (Rb (uA (n:=0))) (zu (zl (cU:=[]) (ns:=[0,0,0]) (nd:=[]) iV (hr.mono (by decide)) rfl T.ring_back_from.mgx T.ring_back_from.fn.kp T.ring_back_from.bd .nil (λ_ _=>.nil) (ze (xl (n:=0) (za 0 0) T.fld_arrows rfl) (ze (za 4 0) (ze (za 5 0) zk)))) wo))))))))))
def vt:List D->Option D:=mOf ["net","pace","numbers","found"]
  (sSeq (sSet 3 (λρ=>((aCons (eV 0) (aCons (eV 1) (aCons (eV 2) aNil))) ρ).bind λds=>xj (ds++[])))
  (sRet (eIf (tb (e2 (iE false) (e2 dh (eV 3) (eC (.int 0))) (eC (.str "ring")))) (e2 dh (eV 3) (eC (.int 1))) (eC .non))))
theorem Vv (T:Txt K mg a):bM P w K mg base dR 4 a.f_ring_above a.d_ring_above ["net","pace","numbers"] (eZ K a.ct [0,0,0] 0 vt):=by
 have dw:=uw (P:=P) (w:=w) (base:=base) T
 refine lift (ms:=[.ow 0,.ow 0,.ow 0,.ow 0]) T.ring_above.fn OD rfl rfl (by decide) (zt (by decide)) λdf A outer s H E hr=>?_
 exact(zf (zw rfl OD.nd rfl (Or.inl rfl) (XE.ow (XO.sh (n:=0) (zl (cU:=[]) (ns:=[0,0,0]) (nd:=[]) dw (hr.mono (by decide)) rfl T.times_or_ring_along.mgx T.times_or_ring_along.fn.kp T.times_or_ring_along.bd .nil (λ_ _=>.nil) (ze (za 0 0) (ze (za 1 0) (ze (za 2 0) zk)))))))
  (zj (yi (XE.ow (Ci (xk (k:=0) (j5 hr.u64) ja (wj (n:=0) yn yo (za 3 0) (zh (n:=0)) (λ_ _=>rfl)) (uA (n:=0)) (bB _)) (wj (n:=0) yn yo (za 3 0) (zh (n:=0)) (λ_ _=>rfl)) (uv (n:=0)))))))
def Gk:List D->Option D:=mOf ["one","other","total"]
  (sSeq (sSet 2 (λρ=>((aCons (eV 0) (aCons (eV 1) aNil)) ρ).bind λds=>Ea (ds++[])))
  (sRet (λρ=>((aCons (e2 dh (eV 2) (eC (.int 0))) (aCons (e2 cE (e2 dh (eV 2) (eC (.int 1))) (eC (.int 2))) aNil)) ρ).bind λds=>qp (ds++[]))))
theorem WZ (T:Txt K mg a):bM P w K mg base dR 4 a.f_midway a.d_midway ["one","other"] (eZ K a.ct [0,0] 0 Gk):=by
 have mS:=Qt (P:=P) (w:=w) (base:=base) T
 have d7:=B0 (P:=P) (w:=w) (base:=base) T
 refine lift (ms:=[.ow 0,.ow 0,.ow 0]) T.midway.fn O7 rfl rfl (by decide) (zt (by decide)) λdf A outer s H E hr=>?_
 exact(zf (zw rfl O7.nd rfl (Or.inl rfl) (zl (cU:=[]) (ns:=[0,0]) (nd:=[]) mS (hr.mono (by decide)) rfl T.plus.mgx T.plus.fn.kp T.plus.bd .nil (λ_ _=>.nil) (ze (za 0 0) (ze (za 1 0) zk))))
  (zj (yi (zl (cU:=[]) (ns:=[0,0]) (nd:=[]) d7 (hr.mono (by decide)) rfl T.ratio.mgx T.ratio.fn.kp T.ratio.bd .nil (λ_ _=>.nil) (ze (wj (n:=0) yn yo (za 2 0) (zh (n:=0)) (λ_ _=>rfl)) (ze (yr (k:=0) wn xr (wj (n:=0) yn yo (za 2 0) (zh (n:=0)) (λ_ _=>rfl)) (zh (n:=0))) zk))))))
def qr:List D->Option D:=mOf ["net","most"]
  (sSeq (sSet 1 (e2 cE (eN dg (aCons (e1 (bP [4] "names") (eV 0)) aNil)) (λρ=>((eV 0) ρ).bind λo=>iX 4 "most_behind" ym o [])))
  (sRet (λρ=>((aCons (eC (.int 1)) (aCons (e2 cE (eV 1) (eV 1)) aNil)) ρ).bind λds=>qp (ds++[]))))
theorem VP (T:Txt K mg a):bM P w K mg base dR 3 a.f_least_gap a.d_least_gap ["net"] (eZ K a.ct [0] 0 qr):=by
 have iB:=U7 (P:=P) (w:=w) (base:=base) T
 have d7:=B0 (P:=P) (w:=w) (base:=base) T
 refine lift (ms:=[.ow 0,.ow 0]) T.least_gap.fn Oz rfl rfl (by decide) (zt (by decide)) λdf A outer s H E hr=>?_
 exact(zf (zw rfl Oz.nd rfl (Or.inl rfl) (XE.ow (yr (k:=0) wn xr (yw (k:=0) xi vc rfl T.b_len ue (ze (xl (n:=0) (za 0 0) T.fld_names rfl) zk)) (XO.sh (n:=0) (Xk (n:=0) (c0:=4) (nd:=[]) (cU:=[]) (za 0 0) T.Net.cl T.Net_most_behind.me iB (hr.mono (by decide)) T.Net_most_behind.bd .nil (λ_ _=>.nil))))))
  (zj (yi (zl (cU:=[]) (ns:=[0,0]) (nd:=[]) d7 (hr.mono (by decide)) rfl T.ratio.mgx T.ratio.fn.kp T.ratio.bd .nil (λ_ _=>.nil) (ze (zh (n:=0)) (ze (yr (k:=0) wn xr (za 1 0) (za 1 0)) zk))))))
def v5:SF:=(sSeq (sSet 5 (λρ=>((aCons (λρ=>((aCons (eV 0) (aCons (eV 2) aNil)) ρ).bind λds=>sV (ds++[])) (aCons (eV 3) aNil)) ρ).bind λds=>Gk (ds++[])))
  (sSeq (sSet 6 (λρ=>((aCons (eV 0) (aCons (eV 5) (aCons (eV 1) aNil))) ρ).bind λds=>vt (ds++[])))
  (sIf (tb (e2 (m7 false) (eV 6) (eC .non))) (sSet 3 (eV 5)) (sSet 2 (eV 6)))))
def qd:EF:=(cX (lsD (eV 1)) 1 [0] (gV 0) dU (e1 (bP [0,1,2,3] "time") (e2 dh (e1 (bP [4] "arrows") (eV 1)) (eV 0))))
def vv:List D->Option D:=mOf ["net","numbers","ring","ceiling","gap","middle","better"]
  (sSeq (sSet 2 (λρ=>((aCons (eV 0) (aCons (λρ=>((aCons (e1 oo (eC (.int 1))) (aCons (eC (.int 1)) aNil)) ρ).bind λds=>some (.tup ds)) (aCons (eV 1) aNil))) ρ).bind λds=>vt (ds++[])))
  (sSeq (sIf (tb (e2 (m7 false) (eV 2) (eC .non))) (sRet (eC .non)) sSkip)
  (sSeq (sSet 3 (λρ=>((aCons (eN pR (aCons qd aNil)) (aCons (eC (.int 1)) aNil)) ρ).bind λds=>some (.tup ds)))
  (sSeq (sSet 4 (λρ=>((aCons (eV 0) aNil) ρ).bind λds=>qr (ds++[])))
  (sSeq (eA (bNot (tb (λρ=>((aCons (λρ=>((aCons (eV 3) (aCons (λρ=>((aCons (eV 0) (aCons (eV 2) aNil)) ρ).bind λds=>sV (ds++[])) aNil)) ρ).bind λds=>B7 (ds++[])) (aCons (eV 4) aNil)) ρ).bind λds=>B8 (ds++[])))) v5)
  (sRet (eV 2)))))))
theorem U5 (T:Txt K mg a):bM P w K mg base dR 5 a.f_greatest_ring a.d_greatest_ring ["net","numbers"] (eZ K a.ct [0,0] 0 vv):=by
 have iC:=Vv (P:=P) (w:=w) (base:=base) T
 have mj:=VP (P:=P) (w:=w) (base:=base) T
 have qQ:=XN (P:=P) (w:=w) (base:=base) T
 have qP:=XJ (P:=P) (w:=w) (base:=base) T
 have lf:=Qu (P:=P) (w:=w) (base:=base) T
 have oU:=WZ (P:=P) (w:=w) (base:=base) T
 refine lift (ms:=[.ow 0,.ow 0,.ow 0,.ow 0,.ow 0,.ow 0,.ow 0]) T.greatest_ring.fn xq rfl rfl (by decide) (zt (by decide)) λdf A outer s H E hr=>?_
 exact(zf (zw rfl xq.nd rfl (Or.inl rfl) (zl (cU:=[]) (ns:=[0,0,0]) (nd:=[]) iC (hr.mono (by decide)) rfl T.ring_above.mgx T.ring_above.fn.kp T.ring_above.bd .nil (λ_ _=>.nil) (ze (za 0 0) (ze (XO.sh (n:=0) (jw (zu (XE.ow (GF (k:=0) (zh (n:=0)))) (zu (XE.ow (zh (n:=0))) wo)))) (ze (za 1 0) zk)))))
  (zf (uj (xk (k:=0) uE t9 (za 2 0) (uv (n:=0)) (bB _)) (zj (yi (XE.ow (uv (n:=0))))) xv)
  (zf (zw rfl xq.nd rfl (Or.inl rfl) (XE.ow (XO.sh (n:=0) (jw (zu (XE.ow (yw (k:=0) (LR rfl) Mu rfl T.b_sum ML (ze (XO.sh (n:=0) (ux (N:=["number","net"]) (om:=[.ow 0]) (cap:=[0]) (own:=1) (uf (by rfl)) rfl rfl (by decide) (vz (n:=0) (za 1 0)) (λ_ _ _ _ _=>(yf (by decide) rfl (show ba (["number","net"]:List Str)from by decide +kernel) rfl (by first|exact Or.inl rfl|exact Or.inr rfl))) (λ_ _ _ _ _=>v8) (λ_ _ _ _ _=>(XE.ow (xl (n:=0) (wj (n:=0) yn yo (xl (n:=0) (za 1 0) T.fld_arrows rfl) (za 0 0) (λ_ _=>rfl)) T.fld_time rfl))))) zk))) (zu (XE.ow (zh (n:=0))) wo))))))
  (zf (zw rfl xq.nd rfl (Or.inl rfl) (zl (cU:=[]) (ns:=[0]) (nd:=[]) mj (hr.mono (by decide)) rfl T.least_gap.mgx T.least_gap.fn.kp T.least_gap.bd .nil (λ_ _=>.nil) (ze (za 0 0) zk)))
  (zf (BY (qI (jm (XO.sh (n:=0) (zl (cU:=[]) (ns:=[0,0]) (nd:=[]) qQ (hr.mono (by decide)) rfl T.under.mgx T.under.fn.kp T.under.bd .nil (λ_ _=>.nil) (ze (XO.sh (n:=0) (zl (cU:=[]) (ns:=[0,0]) (nd:=[]) qP (hr.mono (by decide)) rfl T.minus.mgx T.minus.fn.kp T.minus.bd .nil (λ_ _=>.nil) (ze (za 3 0) (ze (XO.sh (n:=0) (zl (cU:=[]) (ns:=[0,0]) (nd:=[]) lf (hr.mono (by decide)) rfl T.mean.mgx T.mean.fn.kp T.mean.bd .nil (λ_ _=>.nil) (ze (za 0 0) (ze (za 2 0) zk)))) zk)))) (ze (za 4 0) zk)))))) (zf (zw rfl xq.nd rfl (Or.inl rfl) (zl (cU:=[]) (ns:=[0,0]) (nd:=[]) oU (hr.mono (by decide)) rfl T.midway.mgx T.midway.fn.kp T.midway.bd .nil (λ_ _=>.nil) (ze (XO.sh (n:=0) (zl (cU:=[]) (ns:=[0,0]) (nd:=[]) lf (hr.mono (by decide)) rfl T.mean.mgx T.mean.fn.kp T.mean.bd .nil (λ_ _=>.nil) (ze (za 0 0) (ze (za 2 0) zk)))) (ze (za 3 0) zk))))
  (zf (zw rfl xq.nd rfl (Or.inl rfl) (zl (cU:=[]) (ns:=[0,0,0]) (nd:=[]) iC (hr.mono (by decide)) rfl T.ring_above.mgx T.ring_above.fn.kp T.ring_above.bd .nil (λ_ _=>.nil) (ze (za 0 0) (ze (za 5 0) (ze (za 1 0) zk)))))
  (zj (uj (xk (k:=0) uE t9 (za 6 0) (uv (n:=0)) (bB _)) (zj (zw rfl xq.nd rfl (Or.inl rfl) (XE.ow (za 5 0)))) (zj (zw rfl xq.nd rfl (Or.inl rfl) (XE.ow (za 6 0)))))))) PassesOwn.never)
  (zj (yi (XE.ow (za 2 0)))))))))
def vh:List D->Option D:=mOf ["net","numbers","ring","pace"]
  (sSeq (sSet 2 (λρ=>((aCons (eV 0) (aCons (eV 1) aNil)) ρ).bind λds=>vv (ds++[])))
  (sSeq (sIf (tb (e2 (m7 false) (eV 2) (eC .non))) (sRet (eC .non)) sSkip)
  (sSeq (sSet 3 (λρ=>((aCons (eV 0) (aCons (eV 2) aNil)) ρ).bind λds=>sV (ds++[])))
  (sRet (λρ=>((aCons (eV 3) (aCons (eV 2) (aCons (e2 dh (λρ=>((aCons (eV 0) (aCons (eV 3) (aCons (eV 1) aNil))) ρ).bind λds=>xj (ds++[])) (eC (.int 1))) aNil))) ρ).bind λds=>some (.tup ds))))))
theorem Ox (T:Txt K mg a):bM P w K mg base dR 6 a.f_paper_along a.d_paper_along ["net","numbers"] (eZ K a.ct [0,0] 0 vh):=by
 have jN:=U5 (P:=P) (w:=w) (base:=base) T
 have lf:=Qu (P:=P) (w:=w) (base:=base) T
 have dw:=uw (P:=P) (w:=w) (base:=base) T
 refine lift (ms:=[.ow 0,.ow 0,.ow 0,.ow 0]) T.paper_along.fn j0 rfl rfl (by decide) (zt (by decide)) λdf A outer s H E hr=>?_
 exact(zf (zw rfl j0.nd rfl (Or.inl rfl) (zl (cU:=[]) (ns:=[0,0]) (nd:=[]) jN (hr.mono (by decide)) rfl T.greatest_ring.mgx T.greatest_ring.fn.kp T.greatest_ring.bd .nil (λ_ _=>.nil) (ze (za 0 0) (ze (za 1 0) zk))))
  (zf (uj (xk (k:=0) uE t9 (za 2 0) (uv (n:=0)) (bB _)) (zj (yi (XE.ow (uv (n:=0))))) xv)
  (zf (zw rfl j0.nd rfl (Or.inl rfl) (zl (cU:=[]) (ns:=[0,0]) (nd:=[]) lf (hr.mono (by decide)) rfl T.mean.mgx T.mean.fn.kp T.mean.bd .nil (λ_ _=>.nil) (ze (za 0 0) (ze (za 2 0) zk))))
  (zj (yi (XE.ow (XO.sh (n:=0) (jw (zu (XE.ow (za 3 0)) (zu (XE.ow (za 2 0)) (zu (XE.ow (wj (n:=0) yn yo (XO.sh (n:=0) (zl (cU:=[]) (ns:=[0,0,0]) (nd:=[]) dw (hr.mono (by decide)) rfl T.times_or_ring_along.mgx T.times_or_ring_along.fn.kp T.times_or_ring_along.bd .nil (λ_ _=>.nil) (ze (za 0 0) (ze (za 3 0) (ze (za 1 0) zk))))) (zh (n:=0)) (λ_ _=>rfl))) wo)))))))))))
def uq:List D->Option D:=mOf ["net"]
  (sRet (λρ=>((aCons (eV 0) (aCons (eN gZ (aCons (eN dg (aCons (e1 (bP [4] "arrows") (eV 0)) aNil)) aNil)) aNil)) ρ).bind λds=>vh (ds++[])))
theorem Vo (T:Txt K mg a):bM P w K mg base dR 7 a.f_least_round a.d_least_round ["net"] (eZ K a.ct [0] 0 uq):=by
 have fH:=Ox (P:=P) (w:=w) (base:=base) T
 refine lift (ms:=[.ow 0]) T.least_round.fn Vi rfl rfl (by decide) (zt (by decide)) λdf A outer s H E hr=>?_
 exact(zj (yi (zl (cU:=[]) (ns:=[0,0]) (nd:=[]) fH (hr.mono (by decide)) rfl T.paper_along.mgx T.paper_along.fn.kp T.paper_along.bd .nil (λ_ _=>.nil) (ze (za 0 0) (ze (XO.sh (n:=0) (Mj rfl rfl T.b_list rfl T.b_range (ze (yw (k:=0) xi vc rfl T.b_len ue (ze (xl (n:=0) (za 0 0) T.fld_arrows rfl) zk)) zk))) zk)))))
def LX:EF:=(cX (λρ=>((aCons (e2 dh (eV 3) (eC (.int 2))) aNil) ρ).bind λds=>match ds with|[.lst xs]=>some (de 0 xs)|_=>none) 2 [2] (gT (gsCons (gV 0) (gsCons (gV 1) gsNil))) dU (eIf (tb (e2 (inD false) (eV 0) (eV 2))) (eV 1) (eC .non)))
def LY:EF:=(cX (λρ=>((aCons (e1 (bP [4] "arrows") (eV 0)) aNil) ρ).bind λds=>match ds with|[.lst xs]=>some (de 0 xs)|_=>none) 2 [2] (gT (gsCons (gV 0) (gsCons (gV 1) gsNil))) (tb (e2 (inD false) (e1 (bP [0,1,2,3] "goal") (eV 1)) (eV 2))) (eV 0))
def Ec:List D->Option D:=mOf ["net","going","leading","paper","times"]
  (sSeq (sSet 2 (λρ=>((aCons (eV 0) (aCons (eV 1) aNil)) ρ).bind λds=>jk (ds++[])))
  (sSeq (sSet 3 (λρ=>((aCons (eV 0) (aCons LY aNil)) ρ).bind λds=>vh (ds++[])))
  (sSeq (sIf (tb (e2 (m7 false) (eV 3) (eC .non))) (sRet (eC .non)) sSkip)
  (sSeq (sSet 4 LX)
  (sRet (λρ=>((aCons (e2 dh (eV 3) (eC (.int 0))) (aCons (e2 dh (eV 3) (eC (.int 1))) (aCons (eV 4) aNil))) ρ).bind λds=>some (.tup ds)))))))
theorem Y6 (T:Txt K mg a):bM P w K mg base dR 7 a.f_rate a.d_rate ["net","going"] (eZ K a.ct [0,0] 0 Ec):=by
 have mR:=VW (P:=P) (w:=w) (base:=base) T
 have fH:=Ox (P:=P) (w:=w) (base:=base) T
 refine lift (ms:=[.ow 0,.ow 0,.ow 0,.ow 0,.ow 0]) T.rate.fn GD rfl rfl (by decide) (zt (by decide)) λdf A outer s H E hr=>?_
 exact(zf (zw rfl GD.nd rfl (Or.inr rfl) (XE.ow (XO.sh (n:=0) (zl (cU:=[]) (ns:=[0,0]) (nd:=[]) mR (hr.mono (by decide)) rfl T.leads_to.mgx T.leads_to.fn.kp T.leads_to.bd .nil (λ_ _=>.nil) (ze (za 0 0) (ze (za 1 0) zk))))))
  (zf (zw rfl GD.nd rfl (Or.inl rfl) (zl (cU:=[]) (ns:=[0,0]) (nd:=[]) fH (hr.mono (by decide)) rfl T.paper_along.mgx T.paper_along.fn.kp T.paper_along.bd .nil (λ_ _=>.nil) (ze (za 0 0) (ze (XO.sh (n:=0) (ux (N:=["number","arrow","leading"]) (om:=[.ow 0,.ow 0]) (cap:=[2]) (own:=2) (uf (by rfl)) rfl rfl (by decide) (Mb (n:=0) T.b_enumerate (ze (xl (n:=0) (za 0 0) T.fld_arrows rfl) zk)) (λ_ _ _ _ _=>(B4 (n:=1) rfl (xt (yf (by decide) rfl (show ba (["number","arrow","leading"]:List Str)from by decide +kernel) rfl (by first|exact Or.inl rfl|exact Or.inr rfl)) (xt (yf (by decide) rfl (show ba (["number","arrow","leading"]:List Str)from by decide +kernel) rfl (by first|exact Or.inl rfl|exact Or.inr rfl)) BZ)))) (λ_ _ _ _ _=>(Gz (xk (k:=0) Pe MQ (xl (n:=0) (za 1 0) T.fld_goal rfl) (za 2 0) (by with_unfolding_all rfl)))) (λ_ _ _ _ _=>(XE.ow (za 0 0))))) zk))))
  (zf (uj (xk (k:=0) uE t9 (za 3 0) (uv (n:=0)) (bB _)) (zj (yi (XE.ow (uv (n:=0))))) xv)
  (zf (uz (k:=0) (N:=["place","time","leading"]) (om:=[.ow 0,.ow 0]) (cap:=[2]) (own:=2) rfl GD.nd rfl (Or.inl rfl) (uf (by rfl)) rfl rfl (by decide) (Mb (n:=0) T.b_enumerate (ze (wj (n:=0) yn yo (za 3 0) (zh (n:=0)) (λ_ _=>rfl)) zk)) (λ_ _ _ _ _=>(B4 (n:=1) rfl (xt (yf (by decide) rfl (show ba (["place","time","leading"]:List Str)from by decide +kernel) rfl (by first|exact Or.inl rfl|exact Or.inr rfl)) (xt (yf (by decide) rfl (show ba (["place","time","leading"]:List Str)from by decide +kernel) rfl (by first|exact Or.inl rfl|exact Or.inr rfl)) BZ)))) (λ_ _ _ _ _=>v8) (λ_ _ _ _ _=>(XE.ow (Ci (xk (k:=0) Pe MQ (za 0 0) (za 2 0) (by with_unfolding_all rfl)) (za 1 0) (uv (n:=0))))))
  (zj (yi (XE.ow (XO.sh (n:=0) (jw (zu (XE.ow (wj (n:=0) yn yo (za 3 0) (zh (n:=0)) (λ_ _=>rfl))) (zu (XE.ow (wj (n:=0) yn yo (za 3 0) (zh (n:=0)) (λ_ _=>rfl))) (zu (XE.ow (za 4 0)) wo))))))))))))
def xx:List D->Option D:=mOf ["_law_script","_law_k"]
  (sSeq (sIf (tb (e2 nF (eV 1) (eN dg (aCons (eV 0) aNil)))) (sRet (e2 dh (eV 0) (eV 1))) sSkip)
  (sRet (eC (.int 0))))
theorem Vp (T:Txt K mg a):bM P w K mg base dR 1 a.f_law_cell_at a.d_law_cell_at ["_law_script","_law_k"] (eZ K a.ct [0,0] 0 xx):=by
 refine lift (ms:=[.ow 0,.ow 0]) T.law_cell_at.fn Vj rfl rfl (by decide) (zt (by decide)) λdf A outer s H E hr=>?_
 exact(zf (uj (xk (k:=0) uB t8 (za 1 0) (yw (k:=0) xi vc rfl T.b_len ue (ze (za 0 0) zk)) (bB _)) (zj (yi (XE.ow (wj (n:=0) yn yo (za 0 0) (za 1 0) (λ_ _=>rfl))))) xv)
  (zj (yi (XE.ow (zh (n:=0))))))
def ui:List D->Option D:=mOf ["_law_cell"]
  (sRet (eB (bAnd (tb (e2 Fj (eV 0) (e2 sM (eC (.int 1)) (eC (.int 90))))) (tb (e2 (iE false) (e2 cY (eV 0) (eC (.int 2))) (eC (.int 1)))))))
theorem qv (T:Txt K mg a):bM P w K mg base dR 1 a.f_law_is_row a.d_law_is_row ["_law_cell"] (eZ K a.ct [0] 0 ui):=by
 refine lift (ms:=[.ow 0]) T.law_is_row.fn Vt rfl rfl (by decide) (zt (by decide)) λdf A outer s H E hr=>?_
 exact(zj (yi (XE.ow (Cb (qH (k:=0) Q9 QS (za 0 0) (yr (k:=0) ZQ YF (zh (n:=0)) (zh (n:=0))) (bB _)) (Bw (k:=0) (qH (k:=0) (j5 hr.u64) ja (yr (k:=0) xy xz (za 0 0) (zh (n:=0))) (zh (n:=0)) (bB _)))))))
def w9:List D->Option D:=mOf ["_law_cell","_law_k","_law_number"]
  (sSeq (sIf (bAnd (tb (λρ=>((aCons (eV 0) aNil) ρ).bind λds=>ui (ds++[]))) (tb (e2 qA (e2 oq (eV 0) (e2 dG (eC (.int 1)) (e2 cE (eC (.int 31)) (eV 1)))) (eC (.int 0))))) (sRet (e2 cY (e2 oq (eV 0) (e2 dG (eC (.int 1)) (e2 cE (eC (.int 31)) (eV 1)))) (eC (.int 2147483648)))) sSkip)
  (sSeq (sSet 2 (e2 cY (e2 cE (e2 dG (e2 dG (eV 0) (e2 cE (eC (.int 7919)) (eV 1))) (eC (.int 1))) (eC (.int 48271))) (eC (.int 2147483647))))
  (sSeq (sSet 2 (e2 cY (e2 cE (eV 2) (e2 dG (e2 dH (eV 2) (eC (.int 1009))) (eC (.int 69621)))) (eC (.int 2147483647))))
  (sRet (e2 cY (e2 cE (eV 2) (e2 dG (e2 dG (e2 dH (eV 2) (eC (.int 2003))) (eC (.int 39373))) (eV 1))) (eC (.int 2147483629)))))))
theorem OA (T:Txt K mg a):bM P w K mg base dR 2 a.f_law_mixed a.d_law_mixed ["_law_cell","_law_k"] (eZ K a.ct [0,0] 0 w9):=by
 have d6:=qv (P:=P) (w:=w) (base:=base) T
 refine lift (ms:=[.ow 0,.ow 0,.ow 0]) T.law_mixed.fn LC rfl rfl (by decide) (zt (by decide)) λdf A outer s H E hr=>?_
 exact(zf (uj (XW.t (GM (jm (XO.sh (n:=0) (zl (cU:=[]) (ns:=[0]) (nd:=[]) d6 (hr.mono (by decide)) rfl T.law_is_row.mgx T.law_is_row.fn.kp T.law_is_row.bd .nil (λ_ _=>.nil) (ze (za 0 0) zk)))) (Gx (xk (k:=0) Cj Cc (yr (k:=0) QO Qp (za 0 0) (XO.sh (n:=0) (jv wp (wt (n:=0) (m:=0) (by decide) (by decide)) (zh (n:=0)) (yr (k:=0) wn xr (zh (n:=0)) (za 1 0))))) (zh (n:=0)) (bB _))))) (zj (yi (XE.ow (yr (k:=0) xy xz (yr (k:=0) QO Qp (za 0 0) (XO.sh (n:=0) (jv wp (wt (n:=0) (m:=0) (by decide) (by decide)) (zh (n:=0)) (yr (k:=0) wn xr (zh (n:=0)) (za 1 0))))) (zh (n:=0)))))) xv)
  (zf (zw rfl LC.nd rfl (Or.inl rfl) (XE.ow (yr (k:=0) xy xz (yr (k:=0) wn xr (XO.sh (n:=0) (jv wp (wt (n:=0) (m:=0) (by decide) (by decide)) (XO.sh (n:=0) (jv wp (wt (n:=0) (m:=0) (by decide) (by decide)) (za 0 0) (yr (k:=0) wn xr (zh (n:=0)) (za 1 0)))) (zh (n:=0)))) (zh (n:=0))) (zh (n:=0)))))
  (zf (zw rfl LC.nd rfl (Or.inl rfl) (XE.ow (yr (k:=0) xy xz (yr (k:=0) wn xr (za 2 0) (XO.sh (n:=0) (jv wp (wt (n:=0) (m:=0) (by decide) (by decide)) (yr (k:=0) vw vx (za 2 0) (zh (n:=0))) (zh (n:=0))))) (zh (n:=0)))))
  (zj (yi (XE.ow (yr (k:=0) xy xz (yr (k:=0) wn xr (za 2 0) (XO.sh (n:=0) (jv wp (wt (n:=0) (m:=0) (by decide) (by decide)) (XO.sh (n:=0) (jv wp (wt (n:=0) (m:=0) (by decide) (by decide)) (yr (k:=0) vw vx (za 2 0) (zh (n:=0))) (zh (n:=0)))) (za 1 0)))) (zh (n:=0)))))))))
def jc:SF:=(lF 3 4 (e2 cY (λρ=>((aCons (eV 0) (aCons (eV 5) aNil)) ρ).bind λds=>w9 (ds++[])) (eN dg (aCons (eV 4) aNil))))
def u6:List D->Option D:=mOf ["_law_turn","_law_many","_law_going","_law_order","_law_left","_law_k"]
  (sSeq (sIf (bNot (tb (λρ=>((aCons (eV 0) aNil) ρ).bind λds=>ui (ds++[])))) (sRet (e2 cY (e2 dG (eV 2) (eV 0)) (eV 1))) sSkip)
  (sSeq (sSet 3 (λρ=>(aNil ρ).bind λds=>some (.lst ds)))
  (sSeq (sSet 4 (eN gZ (aCons (eV 1) aNil)))
  (sSeq (sFor (λρ=>((aCons (eV 1) aNil) ρ).bind ig) (gV 5) jc)
  (sRet (e2 pE (eV 3) (eV 2)))))))
theorem VX (T:Txt K mg a):bM P w K mg base dR 3 a.f_law_rank a.d_law_rank ["_law_turn","_law_many","_law_going"] (eZ K a.ct [0,0,0] 0 u6):=by
 have d6:=qv (P:=P) (w:=w) (base:=base) T
 have fD:=OA (P:=P) (w:=w) (base:=base) T
 refine lift (ms:=[.ow 0,.ow 0,.ow 0,.ow 1,.ow 1,.ow 0]) T.law_rank.fn qj rfl rfl (by decide) (zt (by decide)) λdf A outer s H E hr=>?_
 exact(zf (uj (qI (jm (XO.sh (n:=0) (zl (cU:=[]) (ns:=[0]) (nd:=[]) d6 (hr.mono (by decide)) rfl T.law_is_row.mgx T.law_is_row.fn.kp T.law_is_row.bd .nil (λ_ _=>.nil) (ze (za 0 0) zk))))) (zj (yi (XE.ow (yr (k:=0) xy xz (XO.sh (n:=0) (jv wp (wt (n:=0) (m:=0) (by decide) (by decide)) (za 2 0) (za 0 0))) (za 1 0))))) xv)
  (zf (zw rfl qj.nd rfl (Or.inl rfl) (t7 (k:=0) wo))
  (zf (zw rfl qj.nd rfl (Or.inl rfl) (Mj rfl rfl T.b_list rfl T.b_range (ze (za 1 0) zk)))
  (zf (qJ (j6 (n:=0) T.b_range (ze (za 1 0) zk)) (vn rfl qj.nd rfl (Or.inl rfl)) (zj (WA 3 4 rfl rfl (by decide) (yr (k:=0) xy xz (XO.sh (n:=0) (zl (cU:=[]) (ns:=[0,0]) (nd:=[]) fD (hr.mono (by decide)) rfl T.law_mixed.mgx T.law_mixed.fn.kp T.law_mixed.bd .nil (λ_ _=>.nil) (ze (za 0 0) (ze (za 5 0) zk)))) (yw (k:=0) xi vc rfl T.b_len ue (ze (za 4 1) zk))))) PassesOwn.never rfl)
  (zj (yi (XE.ow (W5 (k:=0) (za 3 1) (za 2 0)))))))))
def jh:SF:=(sSeq (sSet 7 (e2 cY (e2 dH (eV 3) (eC (.int 1000))) (eC (.int 10))))
  (sSeq (sIf (tb (e2 (iE false) (e2 cY (eV 0) (eC (.int 3))) (eC (.int 2)))) (sSet 7 (e2 cY (e2 dH (eV 0) (eC (.int 3))) (e2 dG (e2 pN (eC (.int 10)) (eC (.int 6))) (eC (.int 1))))) sSkip)
  (sSeq (sIf (tb (λρ=>((aCons (eV 0) aNil) ρ).bind λds=>ui (ds++[]))) (sSet 7 (e2 cY (λρ=>((aCons (eV 0) (aCons (eC (.int 30)) aNil)) ρ).bind λds=>w9 (ds++[])) (e2 dG (e2 pN (eC (.int 10)) (eC (.int 6))) (eC (.int 1))))) sSkip)
  (sRet (λρ=>((aCons (eV 4) (aCons (eV 5) (aCons (eV 7) (aCons (eV 6) aNil)))) ρ).bind λds=>some (.tup ds))))))
def vb:List D->Option D:=mOf ["_law_cell","_law_many","_law_turn","_law_number","_law_start","_law_goal","_law_behind","_law_time"]
  (sSeq (sSet 3 (λρ=>((aCons (eV 0) (aCons (eC (.int 1)) aNil)) ρ).bind λds=>w9 (ds++[])))
  (sSeq (sSet 4 (e2 cY (eV 3) (eV 1)))
  (sSeq (sSet 5 (e2 cY (e2 dH (eV 3) (eC (.int 8))) (eV 1)))
  (sSeq (sSet 6 (e2 cY (e2 dH (eV 3) (eC (.int 64))) (eC (.int 5))))
  (sSeq (sIf (bAnd (tb (e2 (iE false) (eV 6) (eC (.int 0)))) (tb (e2 Fj (λρ=>((aCons (eV 2) (aCons (eV 1) (aCons (eV 4) aNil))) ρ).bind λds=>u6 (ds++[])) (λρ=>((aCons (eV 2) (aCons (eV 1) (aCons (eV 5) aNil))) ρ).bind λds=>u6 (ds++[]))))) (sSet 6 (e2 dG (eC (.int 1)) (e2 cY (e2 dH (eV 3) (eC (.int 320))) (eC (.int 2))))) sSkip)
  jh)))))
theorem VQ (T:Txt K mg a):bM P w K mg base dR 4 a.f_law_arrow a.d_law_arrow ["_law_cell","_law_many","_law_turn"] (eZ K a.ct [0,0,0] 0 vb):=by
 have fD:=OA (P:=P) (w:=w) (base:=base) T
 have ka:=VX (P:=P) (w:=w) (base:=base) T
 have d6:=qv (P:=P) (w:=w) (base:=base) T
 refine lift (ms:=[.ow 0,.ow 0,.ow 0,.ow 0,.ow 0,.ow 0,.ow 0,.ow 0]) T.law_arrow.fn w8 rfl rfl (by decide) (zt (by decide)) λdf A outer s H E hr=>?_
 exact(zf (zw rfl w8.nd rfl (Or.inl rfl) (zl (cU:=[]) (ns:=[0,0]) (nd:=[]) fD (hr.mono (by decide)) rfl T.law_mixed.mgx T.law_mixed.fn.kp T.law_mixed.bd .nil (λ_ _=>.nil) (ze (za 0 0) (ze (zh (n:=0)) zk))))
  (zf (zw rfl w8.nd rfl (Or.inl rfl) (XE.ow (yr (k:=0) xy xz (za 3 0) (za 1 0))))
  (zf (zw rfl w8.nd rfl (Or.inl rfl) (XE.ow (yr (k:=0) xy xz (yr (k:=0) vw vx (za 3 0) (zh (n:=0))) (za 1 0))))
  (zf (zw rfl w8.nd rfl (Or.inl rfl) (XE.ow (yr (k:=0) xy xz (yr (k:=0) vw vx (za 3 0) (zh (n:=0))) (zh (n:=0)))))
  (zf (uj (XW.t (GM (xk (k:=0) (j5 hr.u64) ja (za 6 0) (zh (n:=0)) (bB _)) (Gx (xk (k:=0) Q9 QS (XO.sh (n:=0) (zl (cU:=[]) (ns:=[0,0,0]) (nd:=[]) ka (hr.mono (by decide)) rfl T.law_rank.mgx T.law_rank.fn.kp T.law_rank.bd .nil (λ_ _=>.nil) (ze (za 2 0) (ze (za 1 0) (ze (za 4 0) zk))))) (XO.sh (n:=0) (zl (cU:=[]) (ns:=[0,0,0]) (nd:=[]) ka (hr.mono (by decide)) rfl T.law_rank.mgx T.law_rank.fn.kp T.law_rank.bd .nil (λ_ _=>.nil) (ze (za 2 0) (ze (za 1 0) (ze (za 5 0) zk))))) (bB _))))) (zj (zw rfl w8.nd rfl (Or.inl rfl) (XE.ow (XO.sh (n:=0) (jv wp (wt (n:=0) (m:=0) (by decide) (by decide)) (zh (n:=0)) (yr (k:=0) xy xz (yr (k:=0) vw vx (za 3 0) (zh (n:=0))) (zh (n:=0)))))))) xv)
  (zf (zw rfl w8.nd rfl (Or.inl rfl) (XE.ow (yr (k:=0) xy xz (yr (k:=0) vw vx (za 3 0) (zh (n:=0))) (zh (n:=0)))))
  (zf (uj (xk (k:=0) (j5 hr.u64) ja (yr (k:=0) xy xz (za 0 0) (zh (n:=0))) (zh (n:=0)) (bB _)) (zj (zw rfl w8.nd rfl (Or.inl rfl) (XE.ow (yr (k:=0) xy xz (yr (k:=0) vw vx (za 0 0) (zh (n:=0))) (XO.sh (n:=0) (jv wp (wt (n:=0) (m:=0) (by decide) (by decide)) (yr (k:=0) QN Qo (zh (n:=0)) (zh (n:=0))) (zh (n:=0)))))))) xv)
  (zf (uj (jm (XO.sh (n:=0) (zl (cU:=[]) (ns:=[0]) (nd:=[]) d6 (hr.mono (by decide)) rfl T.law_is_row.mgx T.law_is_row.fn.kp T.law_is_row.bd .nil (λ_ _=>.nil) (ze (za 0 0) zk)))) (zj (zw rfl w8.nd rfl (Or.inl rfl) (XE.ow (yr (k:=0) xy xz (XO.sh (n:=0) (zl (cU:=[]) (ns:=[0,0]) (nd:=[]) fD (hr.mono (by decide)) rfl T.law_mixed.mgx T.law_mixed.fn.kp T.law_mixed.bd .nil (λ_ _=>.nil) (ze (za 0 0) (ze (zh (n:=0)) zk)))) (XO.sh (n:=0) (jv wp (wt (n:=0) (m:=0) (by decide) (by decide)) (yr (k:=0) QN Qo (zh (n:=0)) (zh (n:=0))) (zh (n:=0)))))))) xv)
  (zj (yi (XE.ow (XO.sh (n:=0) (jw (zu (XE.ow (za 4 0)) (zu (XE.ow (za 5 0)) (zu (XE.ow (za 7 0)) (zu (XE.ow (za 6 0)) wo)))))))))))))))))
def FZ:List D->Option D:=mOf ["_law_arrow_here","_law_kind","_law_start","_law_goal","_law_time","_law_behind"]
  (sSeq (sAsg (gT (gsCons (gV 2) (gsCons (gV 3) (gsCons (gV 4) (gsCons (gV 5) gsNil))))) (eV 0))
  (sSeq (sIf (bAnd (tb (e2 (iE false) (eV 5) (eC (.int 0)))) (tb (e2 (iE false) (e2 cY (eV 1) (eC (.int 2))) (eC (.int 0))))) (sRet (λρ=>((aCons (eV 2) (aCons (eV 3) (aCons (eV 4) aNil))) ρ).bind λds=>qk 1 (ds++[]))) sSkip)
  (sSeq (sIf (bAnd (tb (e2 qA (eV 5) (eC (.int 0)))) (tb (e2 (iE false) (e2 cY (eV 1) (eC (.int 2))) (eC (.int 0))))) (sRet (λρ=>((aCons (eV 2) (aCons (eV 3) (aCons (eV 4) (aCons (eV 5) aNil)))) ρ).bind λds=>qm 3 (ds++[]))) sSkip)
  (sRet (λρ=>((aCons (eV 2) (aCons (eV 3) (aCons (eV 4) (aCons (eV 5) aNil)))) ρ).bind λds=>ql 2 (ds++[]))))))
theorem VY (T:Txt K mg a):bM P w K mg base dR 4 a.f_law_made a.d_law_made ["_law_arrow_here","_law_kind"] (eZ K a.ct [0,0] 0 FZ):=by
 have kA:=Vk (P:=P) (w:=w) (base:=base) T
 have kz:=Vm (P:=P) (w:=w) (base:=base) T
 have oF:=T.Back___init_d1.choose_spec
 have kB:=Vl (P:=P) (w:=w) (base:=base) T
 have oG:=T.Wait___init_d1.choose_spec
 refine lift (ms:=[.ow 0,.ow 0,.ow 0,.ow 0,.ow 0,.ow 0]) T.law_made.fn jp rfl rfl (by decide) (zt (by decide)) λdf A outer s H E hr=>?_
 exact(zf (QY (za 0 0) (MO (n:=0) rfl (jx (vn rfl jp.nd rfl (Or.inl rfl)) (jx (vn rfl jp.nd rfl (Or.inl rfl)) (jx (vn rfl jp.nd rfl (Or.inl rfl)) (jx (vn rfl jp.nd rfl (Or.inl rfl)) Mq))))))
  (zf (uj (XW.t (GM (xk (k:=0) (j5 hr.u64) ja (za 5 0) (zh (n:=0)) (bB _)) (Gx (xk (k:=0) (j5 hr.u64) ja (yr (k:=0) xy xz (za 1 0) (zh (n:=0))) (zh (n:=0)) (bB _))))) (zj (yi (XE.ow (XO.sh (n:=0) (GB (c0:=1) (cU:=[]) (ns:=[0,0,0]) (nd:=[]) ⟨T.Ride.mks,T.Ride___init.me.at_,T.Ride___init.me.fn,T.Ride.kp⟩ (by decide) kA (hr.mono (by decide)) rfl T.Ride.mgx T.Ride___init.bd .nil (λ_ _=>.nil) (ze (za 2 0) (ze (za 3 0) (ze (za 4 0) zk)))))))) xv)
  (zf (uj (XW.t (GM (xk (k:=0) Cj Cc (za 5 0) (zh (n:=0)) (bB _)) (Gx (xk (k:=0) (j5 hr.u64) ja (yr (k:=0) xy xz (za 1 0) (zh (n:=0))) (zh (n:=0)) (bB _))))) (zj (yi (XE.ow (XO.sh (n:=0) (GB (c0:=3) (cU:=[]) (ns:=[0,0,0,0]) (nd:=[]) ⟨T.Back.mks,T.Back___init.me.at_,T.Back___init.me.fn,T.Back.kp⟩ (by decide) kz (hr.mono (by decide)) rfl T.Back.mgx T.Back___init.bd .nil (λ_ _=>.nil) (ze (za 2 0) (ze (za 3 0) (ze (za 4 0) (ze (za 5 0) zk))))))))) xv)
  (zj (yi (XE.ow (XO.sh (n:=0) (GB (c0:=2) (cU:=[]) (ns:=[0,0,0,0]) (nd:=[]) ⟨T.Wait.mks,T.Wait___init.me.at_,T.Wait___init.me.fn,T.Wait.kp⟩ (by decide) kB (hr.mono (by decide)) rfl T.Wait.mgx T.Wait___init.bd .nil (λ_ _=>.nil) (ze (za 2 0) (ze (za 3 0) (ze (za 4 0) (ze (za 5 0) zk))))))))))))
def OM:EF:=(cX (lsD (eV 0)) 1 [] (gV 0) dU (λρ=>((aCons (eV 0) (aCons (e2 dh (eV 0) (eC (.int 0))) aNil)) ρ).bind λds=>FZ (ds++[])))
def ON:EF:=(cX (λρ=>((aCons (eV 1) aNil) ρ).bind ig) 1 [] (gV 0) dU (e2 dG (eC (.str "a")) (eN ou (aCons (eV 0) aNil))))
def jt:List D->Option D:=mOf ["_law_arrows","_law_many"]
  (sRet (λρ=>((aCons ON (aCons OM aNil)) ρ).bind λds=>jz 4 (ds++[])))
theorem Wp (T:Txt K mg a):bM P w K mg base dR 6 a.f_law_net a.d_law_net ["_law_arrows","_law_many"] (eZ K a.ct [0,0] 0 jt):=by
 have kZ:=Vu (P:=P) (w:=w) (base:=base) T
 have mP:=VY (P:=P) (w:=w) (base:=base) T
 refine lift (ms:=[.ow 0,.ow 0]) T.law_net.fn Wn rfl rfl (by decide) (zt (by decide)) λdf A outer s H E hr=>?_
 exact(zj (yi (XE.ow (XO.sh (n:=0) (GB (c0:=4) (cU:=[]) (ns:=[0,0]) (nd:=[]) ⟨T.Net.mks,T.Net___init.me.at_,T.Net___init.me.fn,T.Net.kp⟩ (by decide) kZ (hr.mono (by decide)) rfl T.Net.mgx T.Net___init.bd .nil (λ_ _=>.nil) (ze (XO.sh (n:=0) (ux (N:=["_law_k"]) (om:=[.ow 0]) (cap:=[]) (own:=1) (uf (by rfl)) rfl rfl (by decide) (XI.cc (j6 (n:=0) T.b_range (ze (za 1 0) zk))) (λ_ _ _ _ _=>(yf (by decide) rfl (show ba (["_law_k"]:List Str)from by decide +kernel) rfl (by first|exact Or.inl rfl|exact Or.inr rfl))) (λ_ _ _ _ _=>v8) (λ_ _ _ _ _=>(XE.ow (XO.sh (n:=0) (jv wp (wt (n:=0) (m:=0) (by decide) (by decide)) (uA (n:=0)) (WI (k:=0) VA Yo rfl T.b_str QQ (ze (za 0 0) zk)))))))) (ze (XO.sh (n:=0) (ux (N:=["_law_arrow_here"]) (om:=[.ow 0]) (cap:=[]) (own:=1) (uf (by rfl)) rfl rfl (by decide) (vz (n:=0) (za 0 0)) (λ_ _ _ _ _=>(yf (by decide) rfl (show ba (["_law_arrow_here"]:List Str)from by decide +kernel) rfl (by first|exact Or.inl rfl|exact Or.inr rfl))) (λ_ _ _ _ _=>v8) (λ_ _ _ _ _=>(zl (cU:=[]) (ns:=[0,0]) (nd:=[]) mP (hr.mono (by decide)) rfl T.law_made.mgx T.law_made.fn.kp T.law_made.bd .nil (λ_ _=>.nil) (ze (za 0 0) (ze (wj (n:=0) yn yo (za 0 0) (zh (n:=0)) (λ_ _=>rfl)) zk)))))) zk)))))))
def OB:EF:=(cX (lsD (eV 2)) 1 [] (gV 0) dU (eIf (tb (e2 (m7 false) (eV 0) (eC .non))) (eC .non) (e2 dh (eV 0) (eC (.int 0)))))
def u7:List D->Option D:=mOf ["_law_net_here","_law_going","_law_found"]
  (sSeq (sSet 2 (λρ=>((aCons (λρ=>((aCons (eV 0) aNil) ρ).bind λds=>uq (ds++[])) (aCons (λρ=>((aCons (eV 0) (aCons (eV 1) aNil)) ρ).bind λds=>Ec (ds++[])) aNil)) ρ).bind λds=>some (.lst ds)))
  (sRet OB))
theorem VZ (T:Txt K mg a):bM P w K mg base dR 8 a.f_law_both a.d_law_both ["_law_net_here","_law_going"] (eZ K a.ct [0,0] 0 u7):=by
 have kD:=Vo (P:=P) (w:=w) (base:=base) T
 have uG:=Y6 (P:=P) (w:=w) (base:=base) T
 refine lift (ms:=[.ow 0,.ow 0,.ow 0]) T.law_both.fn OK rfl rfl (by decide) (zt (by decide)) λdf A outer s H E hr=>?_
 exact(zf (zw rfl OK.nd rfl (Or.inl rfl) (XE.ow (XO.sh (n:=0) (t7 (k:=0) (zu (zl (cU:=[]) (ns:=[0]) (nd:=[]) kD (hr.mono (by decide)) rfl T.least_round.mgx T.least_round.fn.kp T.least_round.bd .nil (λ_ _=>.nil) (ze (za 0 0) zk)) (zu (zl (cU:=[]) (ns:=[0,0]) (nd:=[]) uG (hr.mono (by decide)) rfl T.rate.mgx T.rate.fn.kp T.rate.bd .nil (λ_ _=>.nil) (ze (za 0 0) (ze (za 1 0) zk))) wo))))))
  (zj (yi (XE.ow (XO.sh (n:=0) (ux (N:=["_law_paper"]) (om:=[.ow 0]) (cap:=[]) (own:=1) (uf (by rfl)) rfl rfl (by decide) (vz (n:=0) (za 2 0)) (λ_ _ _ _ _=>(yf (by decide) rfl (show ba (["_law_paper"]:List Str)from by decide +kernel) rfl (by first|exact Or.inl rfl|exact Or.inr rfl))) (λ_ _ _ _ _=>v8) (λ_ _ _ _ _=>(XE.ow (Ci (xk (k:=0) uE t9 (za 0 0) (uv (n:=0)) (bB _)) (uv (n:=0)) (wj (n:=0) yn yo (za 0 0) (zh (n:=0)) (λ_ _=>rfl)))))))))))
def OC:EF:=(cX (lsD (eV 0)) 1 [1] (gV 0) dU (eIf (tb (e2 (m7 false) (eV 0) (eC .non))) (eC .non) (λρ=>((aCons (e2 dG (e2 dh (eV 0) (eC (.int 0))) (e2 cE (eV 1) (e2 dh (eV 0) (eC (.int 1))))) (aCons (e2 dh (eV 0) (eC (.int 1))) aNil)) ρ).bind λds=>some (.tup ds))))
def Ga:List D->Option D:=mOf ["_law_beats","_law_whole"]
  (sRet OC)
theorem V0 (T:Txt K mg a):bM P w K mg base dR 1 a.f_law_more a.d_law_more ["_law_beats","_law_whole"] (eZ K a.ct [0,0] 0 Ga):=by
 refine lift (ms:=[.ow 0,.ow 0]) T.law_more.fn VH rfl rfl (by decide) (zt (by decide)) λdf A outer s H E hr=>?_
 exact(zj (yi (XE.ow (XO.sh (n:=0) (ux (N:=["_law_beat","_law_whole"]) (om:=[.ow 0]) (cap:=[1]) (own:=1) (uf (by rfl)) rfl rfl (by decide) (vz (n:=0) (za 0 0)) (λ_ _ _ _ _=>(yf (by decide) rfl (show ba (["_law_beat","_law_whole"]:List Str)from by decide +kernel) rfl (by first|exact Or.inl rfl|exact Or.inr rfl))) (λ_ _ _ _ _=>v8) (λ_ _ _ _ _=>(XE.ow (Ci (xk (k:=0) uE t9 (za 0 0) (uv (n:=0)) (bB _)) (uv (n:=0)) (XO.sh (n:=0) (jw (zu (XE.ow (XO.sh (n:=0) (jv wp (wt (n:=0) (m:=0) (by decide) (by decide)) (wj (n:=0) yn yo (za 0 0) (zh (n:=0)) (λ_ _=>rfl)) (yr (k:=0) wn xr (za 1 0) (wj (n:=0) yn yo (za 0 0) (zh (n:=0)) (λ_ _=>rfl)))))) (zu (XE.ow (wj (n:=0) yn yo (za 0 0) (zh (n:=0)) (λ_ _=>rfl))) wo))))))))))))
def ur:SF:=(sPar 4 5 (aCons (eV 5) (aCons (e2 cY (eV 4) (eV 5)) aNil)))
def xm:SF:=(sIf (tb (e2 (m7 false) (eV 3) (eC .non))) (sApp 2 (eC .non)) (sSeq (sSet 4 (e2 dh (eV 3) (eC (.int 1))))
  (sSeq (sSet 5 (eV 1))
  (sSeq (eA (tb (e2 (iE true) (eV 5) (eC (.int 0)))) ur)
  (sApp 2 (λρ=>((aCons (e2 cE (e2 dh (eV 3) (eC (.int 0))) (e2 dH (eV 1) (eV 4))) (aCons (e2 dH (e2 dh (eV 3) (eC (.int 1))) (eV 4)) aNil)) ρ).bind λds=>some (.tup ds)))))))
def ud:List D->Option D:=mOf ["_law_beats","_law_whole","_law_found","_law_beat","_law_one","_law_other"]
  (sSeq (sSet 2 (λρ=>(aNil ρ).bind λds=>some (.lst ds)))
  (sSeq (sFor (lsD (eV 0)) (gV 3) xm)
  (sRet (eV 2))))
theorem Va (T:Txt K mg a):bM P w K mg base dR 1 a.f_law_many_times a.d_law_many_times ["_law_beats","_law_whole"] (eZ K a.ct [0,0] 0 ud):=by
 refine lift (ms:=[.ow 0,.ow 0,.ow 1,.ow 0,.ow 0,.ow 0]) T.law_many_times.fn wm rfl rfl (by decide) (zt (by decide)) λdf A outer s H E hr=>?_
 exact(zf (zw rfl wm.nd rfl (Or.inl rfl) (t7 (k:=0) wo))
  (zf (qJ (B5 (za 0 0)) (vn rfl wm.nd rfl (Or.inl rfl)) (zj (uj (xk (k:=0) uE t9 (za 3 0) (uv (n:=0)) (bB _)) (zj (D2 2 rfl (XE.ow (uv (n:=0))))) (zf (zw rfl wm.nd rfl (Or.inl rfl) (XE.ow (wj (n:=0) yn yo (za 3 0) (zh (n:=0)) (λ_ _=>rfl))))
  (zf (zw rfl wm.nd rfl (Or.inl rfl) (XE.ow (za 1 0)))
  (zf (BY (xk (k:=0) (GK hr.u64) ja (za 5 0) (zh (n:=0)) (bB _)) (zj (zsj rfl rfl rfl wm.nd rfl rfl (by decide) rfl rfl (ze (za 5 0) (ze (yr (k:=0) xy xz (za 4 0) (za 5 0)) zk)) rfl)) PassesOwn.never)
  (zj (D2 2 rfl (XE.ow (XO.sh (n:=0) (jw (zu (XE.ow (yr (k:=0) wn xr (wj (n:=0) yn yo (za 3 0) (zh (n:=0)) (λ_ _=>rfl)) (yr (k:=0) vw vx (za 1 0) (za 4 0)))) (zu (XE.ow (yr (k:=0) vw vx (wj (n:=0) yn yo (za 3 0) (zh (n:=0)) (λ_ _=>rfl)) (za 4 0))) wo)))))))))))) PassesOwn.never rfl)
  (zj (Qj (i:=2) rfl))))
def Ov:EF:=(cX (lsD (eV 0)) 4 [3] (gT (gsCons (gV 0) (gsCons (gV 1) (gsCons (gV 2) (gsCons (gV 3) gsNil))))) dU (λρ=>((aCons (e2 dh (eV 4) (eV 0)) (aCons (e2 dh (eV 4) (eV 1)) (aCons (eV 2) (aCons (eV 3) aNil)))) ρ).bind λds=>some (.tup ds)))
def ut:SF:=(lI 3 4 (eV 5) (e2 cY (e2 dG (eV 2) (e2 cE (eV 5) (eV 5))) (eN dg (aCons (eV 4) aNil))))
def ju:EF:=(cX (λρ=>((aCons (eV 1) aNil) ρ).bind ig) 1 [] (gV 0) dU (eC (.int 0)))
def ji:List D->Option D:=mOf ["_law_arrows","_law_many","_law_step","_law_place","_law_left","_law_k","_law_found","_law_at"]
  (sSeq (sSet 3 ju)
  (sSeq (sSet 4 (eN gZ (aCons (eV 1) aNil)))
  (sSeq (sFor (λρ=>((aCons (eV 1) aNil) ρ).bind ig) (gV 5) ut)
  (sFz 3 (sSeq (sSet 6 Ov)
  (sSeq (sSet 7 (e2 cY (eV 2) (e2 dG (eN dg (aCons (eV 6) aNil)) (eC (.int 1)))))
  (sRet (λρ=>((aCons (eV 3) (aCons (e2 dG (λρ=>((eV 6) ρ).bind λd=>((pInt (eV 7)) ρ).bind λl=>(pNo ρ).bind λh=>ij d l h) (λρ=>((lsD (λρ=>((eV 6) ρ).bind λd=>(pNo ρ).bind λl=>((pInt (eV 7)) ρ).bind λh=>ij d l h)) ρ).bind λds=>some (.lst ds.reverse))) aNil)) ρ).bind λds=>some (.tup ds)))))))))
theorem Vq (T:Txt K mg a):bM P w K mg base dR 1 a.f_law_renamed a.d_law_renamed ["_law_arrows","_law_many","_law_step"] (eZ K a.ct [0,0,0] 0 ji):=by
 refine lift (ms:=[.ow 0,.ow 0,.ow 0,.ow 1,.ow 1,.ow 0,.ow 0,.ow 0]) T.law_renamed.fn vm rfl rfl (by decide) (zt (by decide)) λdf A outer s H E hr=>?_
 exact(zf (zw rfl vm.nd rfl (Or.inr rfl) (ux (N:=["_law_k"]) (om:=[.ow 0]) (cap:=[]) (own:=1) (uf (by rfl)) rfl rfl (by decide) (XI.cc (j6 (n:=0) T.b_range (ze (za 1 0) zk))) (λ_ _ _ _ _=>(yf (by decide) rfl (show ba (["_law_k"]:List Str)from by decide +kernel) rfl (by first|exact Or.inl rfl|exact Or.inr rfl))) (λ_ _ _ _ _=>v8) (λ_ _ _ _ _=>(XE.ow (zh (n:=0))))))
  (zf (zw rfl vm.nd rfl (Or.inl rfl) (Mj rfl rfl T.b_list rfl T.b_range (ze (za 1 0) zk)))
  (zf (qJ (j6 (n:=0) T.b_range (ze (za 1 0) zk)) (vn rfl vm.nd rfl (Or.inl rfl)) (zj (WW 3 4 rfl rfl (by decide) (za 5 0) (yr (k:=0) xy xz (XO.sh (n:=0) (jv wp (wt (n:=0) (m:=0) (by decide) (by decide)) (za 2 0) (yr (k:=0) wn xr (za 5 0) (za 5 0)))) (yw (k:=0) xi vc rfl T.b_len ue (ze (za 4 1) zk))))) PassesOwn.never rfl)
  (MK (i:=3) rfl (zf (uz (k:=0) (N:=["_law_start","_law_goal","_law_time","_law_behind","_law_place"]) (om:=[.ow 0,.ow 0,.ow 0,.ow 0]) (cap:=[3]) (own:=4) rfl vm.nd rfl (Or.inl rfl) (uf (by rfl)) rfl rfl (by decide) (vz (n:=0) (za 0 0)) (λ_ _ _ _ _=>(B4 (n:=0) rfl (xt (yf (by decide) rfl (show ba (["_law_start","_law_goal","_law_time","_law_behind","_law_place"]:List Str)from by decide +kernel) rfl (by first|exact Or.inl rfl|exact Or.inr rfl)) (xt (yf (by decide) rfl (show ba (["_law_start","_law_goal","_law_time","_law_behind","_law_place"]:List Str)from by decide +kernel) rfl (by first|exact Or.inl rfl|exact Or.inr rfl)) (xt (yf (by decide) rfl (show ba (["_law_start","_law_goal","_law_time","_law_behind","_law_place"]:List Str)from by decide +kernel) rfl (by first|exact Or.inl rfl|exact Or.inr rfl)) (xt (yf (by decide) rfl (show ba (["_law_start","_law_goal","_law_time","_law_behind","_law_place"]:List Str)from by decide +kernel) rfl (by first|exact Or.inl rfl|exact Or.inr rfl)) BZ)))))) (λ_ _ _ _ _=>v8) (λ_ _ _ _ _=>(XE.ow (XO.sh (n:=0) (jw (zu (XE.ow (wj (n:=0) yn yo (za 4 0) (za 0 0) (λ_ _=>rfl))) (zu (XE.ow (wj (n:=0) yn yo (za 4 0) (za 1 0) (λ_ _=>rfl))) (zu (XE.ow (za 2 0)) (zu (XE.ow (za 3 0)) wo)))))))))
  (zf (zw rfl vm.nd rfl (Or.inl rfl) (XE.ow (yr (k:=0) xy xz (za 2 0) (XO.sh (n:=0) (jv wp (wt (n:=0) (m:=0) (by decide) (by decide)) (yw (k:=0) xi vc rfl T.b_len ue (ze (za 6 0) zk)) (zh (n:=0)))))))
  (zj (yi (XE.ow (XO.sh (n:=0) (jw (zu (XE.ow (za 3 0)) (zu (XE.ow (XO.sh (n:=0) (jv wp (wt (n:=0) (m:=0) (by decide) (by decide)) (XO.sh (n:=0) (Gf (n:=0) (by decide) (za 6 0) (D8 (za 7 0)) M2)) (XO.sh (n:=0) (zst (n:=0) (by decide) (XO.sh (n:=0) (Gf (n:=0) (by decide) (za 6 0) M2 (D8 (za 7 0)))) (GF (k:=0) (zh (n:=0)))))))) wo)))))))))))))
def Qv:EF:=(cX (lsD (eV 2)) 4 [5] (gT (gsCons (gV 0) (gsCons (gV 1) (gsCons (gV 2) (gsCons (gV 3) gsNil))))) dU (λρ=>((aCons (eV 0) (aCons (eV 1) (aCons (e2 cE (eV 2) (eV 4)) (aCons (eV 3) aNil)))) ρ).bind λds=>some (.tup ds)))
def Qw:EF:=(cX (lsD (eV 2)) 4 [5] (gT (gsCons (gV 0) (gsCons (gV 1) (gsCons (gV 2) (gsCons (gV 3) gsNil))))) dU (λρ=>((aCons (eV 0) (aCons (eV 1) (aCons (e2 dG (eV 2) (e2 cE (eV 4) (eV 3))) (aCons (eV 3) aNil)))) ρ).bind λds=>some (.tup ds)))
def Qx:EF:=(cX (lsD (λρ=>((eV 0) ρ).bind λd=>((pInt (eC (.int 4))) ρ).bind λl=>((pInt (eC (.int 20))) ρ).bind λh=>ij d l h)) 1 [1,0] (gV 0) dU (λρ=>((aCons (eV 0) (aCons (eV 1) (aCons (e2 dH (λρ=>((aCons (eV 2) (aCons (eC (.int 0)) aNil)) ρ).bind λds=>xx (ds++[])) (eC (.int 8))) aNil))) ρ).bind λds=>vb (ds++[])))
def M5:List D->Option D:=mOf ["_law_script","_law_many","_law_arrows","_law_going","_law_found","_law_whole","_law_more_here","_law_larger","_law_place","_law_others"]
  (sSeq (sSet 1 (e2 dG (eC (.int 1)) (e2 cY (λρ=>((aCons (eV 0) (aCons (eC (.int 0)) aNil)) ρ).bind λds=>xx (ds++[])) (eC (.int 8)))))
  (sSeq (sSet 2 Qx)
  (sSeq (sSet 3 (e2 cY (λρ=>((aCons (eV 0) (aCons (eC (.int 1)) aNil)) ρ).bind λds=>xx (ds++[])) (eV 1)))
  (sSeq (sSet 4 (λρ=>((aCons (λρ=>((aCons (eV 2) (aCons (eV 1) aNil)) ρ).bind λds=>jt (ds++[])) (aCons (eV 3) aNil)) ρ).bind λds=>u7 (ds++[])))
  (sSeq (sSet 5 (e2 cY (λρ=>((aCons (eV 0) (aCons (eC (.int 2)) aNil)) ρ).bind λds=>xx (ds++[])) (eC (.int 1001))))
  (sSeq (sSet 6 Qw)
  (sSeq (sIf (tb (e2 (iE true) (λρ=>((aCons (λρ=>((aCons (eV 6) (aCons (eV 1) aNil)) ρ).bind λds=>jt (ds++[])) (aCons (eV 3) aNil)) ρ).bind λds=>u7 (ds++[])) (λρ=>((aCons (eV 4) (aCons (eV 5) aNil)) ρ).bind λds=>Ga (ds++[])))) (sRet (eC (.bl false))) sSkip)
  (sSeq (sSet 5 (e2 dG (eC (.int 1)) (e2 cY (e2 dH (λρ=>((aCons (eV 0) (aCons (eC (.int 2)) aNil)) ρ).bind λds=>xx (ds++[])) (eC (.int 1001))) (eC (.int 900)))))
  (sSeq (sSet 7 Qv)
  (sSeq (sIf (tb (e2 (iE true) (λρ=>((aCons (λρ=>((aCons (eV 7) (aCons (eV 1) aNil)) ρ).bind λds=>jt (ds++[])) (aCons (eV 3) aNil)) ρ).bind λds=>u7 (ds++[])) (λρ=>((aCons (eV 4) (aCons (eV 5) aNil)) ρ).bind λds=>ud (ds++[])))) (sRet (eC (.bl false))) sSkip)
  (sSeq (sAsg (gT (gsCons (gV 8) (gsCons (gV 9) gsNil))) (λρ=>((aCons (eV 2) (aCons (eV 1) (aCons (e2 cY (λρ=>((aCons (eV 0) (aCons (eC (.int 3)) aNil)) ρ).bind λds=>xx (ds++[])) (eC (.int 10007))) aNil))) ρ).bind λds=>ji (ds++[])))
  (sRet (e2 (iE false) (λρ=>((aCons (λρ=>((aCons (eV 9) (aCons (eV 1) aNil)) ρ).bind λds=>jt (ds++[])) (aCons (e2 dh (eV 8) (eV 3)) aNil)) ρ).bind λds=>u7 (ds++[])) (eV 4))))))))))))))
theorem zsx (T:Txt K mg a):bM P w K mg base dR 9 a.f_law a.d_law ["_law_script"] (eZ K a.ct [0] 0 M5):=by
 have dq:=Vp (P:=P) (w:=w) (base:=base) T
 have mh:=VQ (P:=P) (w:=w) (base:=base) T
 have fX:=VZ (P:=P) (w:=w) (base:=base) T
 have gQ:=Wp (P:=P) (w:=w) (base:=base) T
 have mQ:=V0 (P:=P) (w:=w) (base:=base) T
 have iU:=Va (P:=P) (w:=w) (base:=base) T
 have kC:=Vq (P:=P) (w:=w) (base:=base) T
 refine lift (ms:=[.ow 0,.ow 0,.ow 0,.ow 0,.ow 0,.ow 0,.ow 0,.ow 0,.ow 0,.ow 0]) T.law.fn pT rfl rfl (by decide) (zt (by decide)) λdf A outer s H E hr=>?_
 exact(zf (zw rfl pT.nd rfl (Or.inr rfl) (XE.ow (XO.sh (n:=0) (jv wp (wt (n:=0) (m:=0) (by decide) (by decide)) (zh (n:=0)) (yr (k:=0) xy xz (XO.sh (n:=0) (zl (cU:=[]) (ns:=[0,0]) (nd:=[]) dq (hr.mono (by decide)) rfl T.law_cell_at.mgx T.law_cell_at.fn.kp T.law_cell_at.bd .nil (λ_ _=>.nil) (ze (za 0 0) (ze (zh (n:=0)) zk)))) (zh (n:=0)))))))
  (zf (uz (k:=0) (N:=["_law_cell","_law_many","_law_script"]) (om:=[.ow 0]) (cap:=[1,0]) (own:=1) rfl pT.nd rfl (Or.inl rfl) (uf (by rfl)) rfl rfl (by decide) (vz (n:=0) (XO.sh (n:=0) (Gf (n:=0) (by decide) (za 0 0) (D8 (zh (n:=0))) (D8 (zh (n:=0)))))) (λ_ _ _ _ _=>(yf (by decide) rfl (show ba (["_law_cell","_law_many","_law_script"]:List Str)from by decide +kernel) rfl (by first|exact Or.inl rfl|exact Or.inr rfl))) (λ_ _ _ _ _=>v8) (λ_ _ _ _ _=>(zl (cU:=[]) (ns:=[0,0,0]) (nd:=[]) mh (hr.mono (by decide)) rfl T.law_arrow.mgx T.law_arrow.fn.kp T.law_arrow.bd .nil (λ_ _=>.nil) (ze (za 0 0) (ze (za 1 0) (ze (yr (k:=0) vw vx (XO.sh (n:=0) (zl (cU:=[]) (ns:=[0,0]) (nd:=[]) dq (hr.mono (by decide)) rfl T.law_cell_at.mgx T.law_cell_at.fn.kp T.law_cell_at.bd .nil (λ_ _=>.nil) (ze (za 2 0) (ze (zh (n:=0)) zk)))) (zh (n:=0))) zk))))))
  (zf (zw rfl pT.nd rfl (Or.inl rfl) (XE.ow (yr (k:=0) xy xz (XO.sh (n:=0) (zl (cU:=[]) (ns:=[0,0]) (nd:=[]) dq (hr.mono (by decide)) rfl T.law_cell_at.mgx T.law_cell_at.fn.kp T.law_cell_at.bd .nil (λ_ _=>.nil) (ze (za 0 0) (ze (zh (n:=0)) zk)))) (za 1 0))))
  (zf (zw rfl pT.nd rfl (Or.inl rfl) (zl (cU:=[]) (ns:=[0,0]) (nd:=[]) fX (hr.mono (by decide)) rfl T.law_both.mgx T.law_both.fn.kp T.law_both.bd .nil (λ_ _=>.nil) (ze (XO.sh (n:=0) (zl (cU:=[]) (ns:=[0,0]) (nd:=[]) gQ (hr.mono (by decide)) rfl T.law_net.mgx T.law_net.fn.kp T.law_net.bd .nil (λ_ _=>.nil) (ze (za 2 0) (ze (za 1 0) zk)))) (ze (za 3 0) zk))))
  (zf (zw rfl pT.nd rfl (Or.inr rfl) (XE.ow (yr (k:=0) xy xz (XO.sh (n:=0) (zl (cU:=[]) (ns:=[0,0]) (nd:=[]) dq (hr.mono (by decide)) rfl T.law_cell_at.mgx T.law_cell_at.fn.kp T.law_cell_at.bd .nil (λ_ _=>.nil) (ze (za 0 0) (ze (zh (n:=0)) zk)))) (zh (n:=0)))))
  (zf (uz (k:=0) (N:=["_law_start","_law_goal","_law_time","_law_behind","_law_whole"]) (om:=[.ow 0,.ow 0,.ow 0,.ow 0]) (cap:=[5]) (own:=4) rfl pT.nd rfl (Or.inl rfl) (uf (by rfl)) rfl rfl (by decide) (vz (n:=0) (za 2 0)) (λ_ _ _ _ _=>(B4 (n:=0) rfl (xt (yf (by decide) rfl (show ba (["_law_start","_law_goal","_law_time","_law_behind","_law_whole"]:List Str)from by decide +kernel) rfl (by first|exact Or.inl rfl|exact Or.inr rfl)) (xt (yf (by decide) rfl (show ba (["_law_start","_law_goal","_law_time","_law_behind","_law_whole"]:List Str)from by decide +kernel) rfl (by first|exact Or.inl rfl|exact Or.inr rfl)) (xt (yf (by decide) rfl (show ba (["_law_start","_law_goal","_law_time","_law_behind","_law_whole"]:List Str)from by decide +kernel) rfl (by first|exact Or.inl rfl|exact Or.inr rfl)) (xt (yf (by decide) rfl (show ba (["_law_start","_law_goal","_law_time","_law_behind","_law_whole"]:List Str)from by decide +kernel) rfl (by first|exact Or.inl rfl|exact Or.inr rfl)) BZ)))))) (λ_ _ _ _ _=>v8) (λ_ _ _ _ _=>(XE.ow (XO.sh (n:=0) (jw (zu (XE.ow (za 0 0)) (zu (XE.ow (za 1 0)) (zu (XE.ow (XO.sh (n:=0) (jv wp (wt (n:=0) (m:=0) (by decide) (by decide)) (za 2 0) (yr (k:=0) wn xr (za 4 0) (za 3 0))))) (zu (XE.ow (za 3 0)) wo)))))))))
  (zf (uj (xk (k:=0) (GK hr.u64) ja (XO.sh (n:=0) (zl (cU:=[]) (ns:=[0,0]) (nd:=[]) fX (hr.mono (by decide)) rfl T.law_both.mgx T.law_both.fn.kp T.law_both.bd .nil (λ_ _=>.nil) (ze (XO.sh (n:=0) (zl (cU:=[]) (ns:=[0,0]) (nd:=[]) gQ (hr.mono (by decide)) rfl T.law_net.mgx T.law_net.fn.kp T.law_net.bd .nil (λ_ _=>.nil) (ze (za 6 0) (ze (za 1 0) zk)))) (ze (za 3 0) zk)))) (XO.sh (n:=0) (zl (cU:=[]) (ns:=[0,0]) (nd:=[]) mQ (hr.mono (by decide)) rfl T.law_more.mgx T.law_more.fn.kp T.law_more.bd .nil (λ_ _=>.nil) (ze (za 4 0) (ze (za 5 0) zk)))) (bB _)) (zj (yi (XE.ow (sW (n:=0))))) xv)
  (zf (zw rfl pT.nd rfl (Or.inr rfl) (XE.ow (XO.sh (n:=0) (jv wp (wt (n:=0) (m:=0) (by decide) (by decide)) (zh (n:=0)) (yr (k:=0) xy xz (yr (k:=0) vw vx (XO.sh (n:=0) (zl (cU:=[]) (ns:=[0,0]) (nd:=[]) dq (hr.mono (by decide)) rfl T.law_cell_at.mgx T.law_cell_at.fn.kp T.law_cell_at.bd .nil (λ_ _=>.nil) (ze (za 0 0) (ze (zh (n:=0)) zk)))) (zh (n:=0))) (zh (n:=0)))))))
  (zf (uz (k:=0) (N:=["_law_start","_law_goal","_law_time","_law_behind","_law_whole"]) (om:=[.ow 0,.ow 0,.ow 0,.ow 0]) (cap:=[5]) (own:=4) rfl pT.nd rfl (Or.inl rfl) (uf (by rfl)) rfl rfl (by decide) (vz (n:=0) (za 2 0)) (λ_ _ _ _ _=>(B4 (n:=0) rfl (xt (yf (by decide) rfl (show ba (["_law_start","_law_goal","_law_time","_law_behind","_law_whole"]:List Str)from by decide +kernel) rfl (by first|exact Or.inl rfl|exact Or.inr rfl)) (xt (yf (by decide) rfl (show ba (["_law_start","_law_goal","_law_time","_law_behind","_law_whole"]:List Str)from by decide +kernel) rfl (by first|exact Or.inl rfl|exact Or.inr rfl)) (xt (yf (by decide) rfl (show ba (["_law_start","_law_goal","_law_time","_law_behind","_law_whole"]:List Str)from by decide +kernel) rfl (by first|exact Or.inl rfl|exact Or.inr rfl)) (xt (yf (by decide) rfl (show ba (["_law_start","_law_goal","_law_time","_law_behind","_law_whole"]:List Str)from by decide +kernel) rfl (by first|exact Or.inl rfl|exact Or.inr rfl)) BZ)))))) (λ_ _ _ _ _=>v8) (λ_ _ _ _ _=>(XE.ow (XO.sh (n:=0) (jw (zu (XE.ow (za 0 0)) (zu (XE.ow (za 1 0)) (zu (XE.ow (yr (k:=0) wn xr (za 2 0) (za 4 0))) (zu (XE.ow (za 3 0)) wo)))))))))
  (zf (uj (xk (k:=0) (GK hr.u64) ja (XO.sh (n:=0) (zl (cU:=[]) (ns:=[0,0]) (nd:=[]) fX (hr.mono (by decide)) rfl T.law_both.mgx T.law_both.fn.kp T.law_both.bd .nil (λ_ _=>.nil) (ze (XO.sh (n:=0) (zl (cU:=[]) (ns:=[0,0]) (nd:=[]) gQ (hr.mono (by decide)) rfl T.law_net.mgx T.law_net.fn.kp T.law_net.bd .nil (λ_ _=>.nil) (ze (za 7 0) (ze (za 1 0) zk)))) (ze (za 3 0) zk)))) (XO.sh (n:=0) (zl (cU:=[]) (ns:=[0,0]) (nd:=[]) iU (hr.mono (by decide)) rfl T.law_many_times.mgx T.law_many_times.fn.kp T.law_many_times.bd .nil (λ_ _=>.nil) (ze (za 4 0) (ze (za 5 0) zk)))) (bB _)) (zj (yi (XE.ow (sW (n:=0))))) xv)
  (zf (QY (XO.sh (n:=0) (zl (cU:=[]) (ns:=[0,0,0]) (nd:=[]) kC (hr.mono (by decide)) rfl T.law_renamed.mgx T.law_renamed.fn.kp T.law_renamed.bd .nil (λ_ _=>.nil) (ze (za 2 0) (ze (za 1 0) (ze (yr (k:=0) xy xz (XO.sh (n:=0) (zl (cU:=[]) (ns:=[0,0]) (nd:=[]) dq (hr.mono (by decide)) rfl T.law_cell_at.mgx T.law_cell_at.fn.kp T.law_cell_at.bd .nil (λ_ _=>.nil) (ze (za 0 0) (ze (zh (n:=0)) zk)))) (zh (n:=0))) zk))))) (MO (n:=0) rfl (jx (vn rfl pT.nd rfl (Or.inl rfl)) (jx (vn rfl pT.nd rfl (Or.inl rfl)) Mq))))
  (zj (yi (XE.ow (qH (k:=0) (j5 hr.u64) ja (XO.sh (n:=0) (zl (cU:=[]) (ns:=[0,0]) (nd:=[]) fX (hr.mono (by decide)) rfl T.law_both.mgx T.law_both.fn.kp T.law_both.bd .nil (λ_ _=>.nil) (ze (XO.sh (n:=0) (zl (cU:=[]) (ns:=[0,0]) (nd:=[]) gQ (hr.mono (by decide)) rfl T.law_net.mgx T.law_net.fn.kp T.law_net.bd .nil (λ_ _=>.nil) (ze (za 9 0) (ze (za 1 0) zk)))) (ze (wj (n:=0) yn yo (za 8 0) (za 3 0) (λ_ _=>rfl)) zk)))) (za 4 0) (bB _))))))))))))))))
end
local macro_rules| `(tactic|walk_at "mir")=>`(tactic|simp -implicitDefEqProofs [mOf,startD,sSeq,sIf,sSet,sRet,sRetN,sDrop,sPar,sAsg,sApp,sFor,lsD,zp0,sSkip,eV,eC,e1,e2,eN,aNil,aCons,pNo,pInt,zdt,tb,zsn,bNot,bAnd,bOr,eB,eIf,gV,gT,gsCons,gsNil,zmp,zmr,zpw,zpx,zgy,zpy,za9,zmt,zms,zmu,zpz,zsm,D.isN,D.isB,zp2,zso,zab,jy,zac,zds,zmn,zmo,zh6,zdt,zkt,zku,sFz,zm7,zm8, *])
def vec (n:Nat)(f:Nat->Int):List D:=(aB n).map λg=>D.int (f g)
theorem Y7 (n:Nat)(f:Nat->Int):(vec n f).length=n:=by simp[vec]
theorem Ed {n:Nat}(f:Nat->Int){g:Nat}(h:g<n):atI (vec n f) (g:Int)=some (.int (f g)):=by
 refine q0 ?_
 simp[vec,h]
theorem Qy {n:Nat}(f:Nat->Int){g:Nat}(h:g<n)(v:Int):setAt (vec n f) (g:Int) (.int v)=some (vec n λx=>if x=g then v else f x):=by
 unfold setAt
 have hx:ixN (vec n f).length (g:Int)=some g:=by
  unfold ixN
  rw[Y7]
  rw[if_pos (by omega),if_pos (by omega)]
  simp
 rw[hx]
 simp only[bL,Option.some.injEq]
 apply jJ
 ·simp[vec]
 ·intro i h1 h2
  simp[vec,List.getElem_set]
  by_cases hi:g=i
  ·subst hi; simp
  ·rw[if_neg hi,if_neg (λz=>hi z.symm)]
theorem Qz {i:Nat}{fj f:EF}{gi:Int->Int->Int}{ρ:L3.Env}{n g:Nat}{w:Nat->Int}{y:Int}(h1:(ρ[i]?).join=some (.lst (vec n w)))(h2:fj ρ=some (.int (g:Int)))(h3:f ρ=some (.int y))(hg:g<n) :
  mw i fj gi f ρ=some (.nx (ρ.set i (some (.lst (vec n λx=>if x=g then gi (w g) y else w x))))):=by
 unfold mw
 have:eV i ρ=some (.lst (vec n w)):=h1
 rw[this,h2,h3]
 simp only[bL,Ed w hg,Qy w hg]
def nats (p:List Nat):List D:=p.map λ(x:Nat)=>D.int (x:Int)
theorem MU {f:EF}{r:L3.Env}{n:Nat}(h:f r=some (.int (n:Int)))(hn:n<=1000000):((aCons f aNil) r).bind ig=some ((aB n).map λ(t:Nat)=>D.int (t:Int)):=by
 have e:(aCons f aNil) r=some [.int (n:Int)]:=by unfold aCons; rw[h]; rfl
 rw[e,bL,Gg (by omega) (by omega)]
 unfold dZ
 simp
theorem D4 {α:Type}{fi:L3.Env->Option (List D)}{own:Nat}{cap:List Nat}{g:D->L3.Env->Option L3.Env}{p:BF}{f:EF}{r:L3.Env}(enc:α->D)(q:α->Bool)(h:α->D)(xs:List α)(hi:fi r=some (xs.map enc))(hl:xs.length<=16777216)
  (st:∀x∈xs,∃ρ1,g (enc x) (ak own none++dm r cap)=some ρ1/\p ρ1=some (q x)/\(q x=true->f ρ1=some (h x))):cX fi own cap g p f r=some (.lst ((xs.filter q).map h)):=by
 unfold cX
 rw[hi]
 simp only[bL,am]
 rw[if_pos hl,O4 enc q h xs st]
 rfl
theorem Mv {n i:Nat}(h:i<n):ixN n (i:Int)=some i:=by
 unfold ixN
 rw[if_pos (by omega),if_pos (by omega)]
 simp
theorem v6 {α:Type}{fi:L3.Env->Option (List D)}{own:Nat}{cap:List Nat}{g:D->L3.Env->Option L3.Env}{f:EF}{r:L3.Env}(enc:α->D)(h:α->D)(xs:List α)(hi:fi r=some (xs.map enc))(hl:xs.length<=16777216)
  (st:∀x∈xs,∃ρ1,g (enc x) (ak own none++dm r cap)=some ρ1/\f ρ1=some (h x)):cX fi own cap g dU f r=some (.lst (xs.map h)):=by
 have:=D4 (p:=dU) enc (λ_=>true) h xs hi hl λx hx=>by
  obtain⟨ρ1,h1,h2⟩:=st x hx
  exact⟨ρ1,h1,rfl,λ_=>h2⟩
 rw[this,List.filter_eq_self.mpr λ_ _=>rfl]
theorem Gm {α:Type}(enc:α->D):∀(as:List α) (k:Nat),de k (as.map enc)=(as.zipIdx k).map λ(p:α×Nat)=>D.tup [.int (p.2:Int),enc p.1]
 |[],_=>rfl
 |a::as,k=>by
  show _::de (k+1) (as.map enc)=_::_
  rw[Gm enc as (k+1)]
theorem Q2 {α:Type}{as:List α}{p:α×Nat}(h:p∈as.zipIdx):as[p.2]?=some p.1:=jY.mp h
theorem OT {α:Type}(q:α->Bool):∀(as:List α) (k:Nat),((as.zipIdx k).filter λp=>q p.1).map (·.1)=as.filter q
 |[],_=>rfl
 |a::as,k=>by
  rw[List.zipIdx_cons,oR,oR]
  cases h:q a <;> simp[h,OT q as (k+1)]
inductive Kd where
 |ride|wait|back
deriving DecidableEq
structure bz where
 c:Kd
 s:Nat
 g:Nat
 t:Int
 b:Nat
deriving DecidableEq
namespace Kahn
def cnt (W:List bz)(P:List Nat)(g:Nat):Nat:=W.countP λa=>decide (a.g=g/\a.s∉P)
structure Ok (W:List bz)(many:Nat)(p:List Nat):Prop where
 nd:p.Nodup
 lt:∀x∈p,x<many
 ord:∀(i x:Nat),p[i]?=some x->∀a∈W,a.g=x->a.s∈p.take i
theorem Ok.snoc {W:List bz}{many:Nat}{p:List Nat}{x:Nat}(h:Ok W many p)(hx:x∉p)(hl:x<many)(ho:∀a∈W,a.g=x->a.s∈p):Ok W many (p++[x]) where
 nd:=by
  rw[aY]
  exact⟨h.nd,by simp,λa ha b hb e=>by simp at hb; subst hb; subst e; exact hx ha⟩
 lt:=λy hy=>by
  rcases aM.mp hy with hy|hy
  ·exact h.lt y hy
  ·simp at hy; subst hy; exact hl
 ord:=λi y hy a ha e=>by
  by_cases hi:i<p.length
  ·rw[bE hi]at hy
   rw[jR (by omega)]
   exact h.ord i y hy a ha e
  ·rw[dJ (by omega)]at hy
   have Ik:i-p.length=0:=by
    cases hq:i-p.length with
    |zero=>rfl
    |succ k=>rw[hq]at hy; simp at hy
   rw[Ik]at hy
   simp at hy
   subst hy
   have:i=p.length:=by omega
   rw[this,List.take_left']
   ·exact ho a ha e
   ·rfl
def stp (here:Nat)(S:(Nat->Int)×List Nat)(a:bz):(Nat->Int)×List Nat :=
 if a.s=here then
  let f':Nat->Int:=λx=>if x=a.g then S.1 a.g-1 else S.1 x
  (f',if f' a.g=0 then S.2++[a.g]else S.2)
 else S
structure In (W:List bz)(many:Nat)(P:List Nat)(here:Nat)(pre:List bz)(S:(Nat->Int)×List Nat):Prop where
 ok:Ok W many S.2
 f:∀g,S.1 g=(cnt W P g:Int)-(pre.countP λa=>decide (a.g=g/\a.s=here):Nat)
 z:∀g,g<many->(g∈S.2↔S.1 g=0)
 sub:∀x,(x∈P\/x=here)->x∈S.2
theorem zsy {W pre post:List bz}{P:List Nat}{here:Nat}{a:bz}(e:W=pre++a::post)(hP:here∉P)(ha:a.s=here):(pre.countP λx=>decide (x.g=a.g/\x.s=here))+1<=cnt W P a.g:=by
 unfold cnt
 rw[e,fq,eF]
 have h1:(pre.countP λx=>decide (x.g=a.g/\x.s=here))<=pre.countP λx=>decide (x.g=a.g/\x.s∉P):=by
  apply List.countP_mono_left
  intro x _ hx
  simp at hx ⊢
  exact⟨hx.1,by rw[hx.2]; exact hP⟩
 have h2:(decide (a.g=a.g/\a.s∉P))=true:=by simp[ha,hP]
 rw[h2]
 simp only[if_true]
 omega
theorem In.step {W pre post:List bz}{many:Nat}{P:List Nat}{here:Nat}{a:bz}{S:(Nat->Int)×List Nat}(h:In W many P here pre S)(e:W=pre++a::post)(hP:here∉P)(hl:a.g<many):In W many P here (pre++[a]) (stp here S a):=by
 by_cases ha:a.s=here
 ·have Tn:=zsy e hP ha
  have hf:∀g,(if g=a.g then S.1 a.g-1 else S.1 g)=(cnt W P g:Int)-((pre++[a]).countP λx=>decide (x.g=g/\x.s=here):Nat):=λg=>by
   rw[fq,mC]
   by_cases hg:g=a.g
   ·subst hg
    rw[if_pos rfl,h.f]
    have:decide (a.g=a.g/\a.s=here)=true:=by simp[ha]
    rw[this]
    simp only[if_true]
    omega
   ·rw[if_neg hg,h.f]
    have:decide (a.g=g/\a.s=here)=false:=by simp; intro z; exact absurd z.symm hg
    rw[this]
    simp
  have kq:S.1 a.g≠0:=by rw[h.f]; omega
  have oe:a.g∉S.2:=λz=>kq ((h.z a.g hl).mp z)
  by_cases h0:S.1 a.g-1=0
  ·have es:stp here S a=(λx=>if x=a.g then S.1 a.g-1 else S.1 x,S.2++[a.g]):=by unfold stp; simp[ha,h0]
   rw[es]
   refine⟨h.ok.snoc oe hl λb hb eb=>?_,hf,λg hg=>?_,λx hx=>aT _ (h.sub x hx)⟩
   ·
    refine h.sub _ (Classical.byContradiction λhc=>?_)
    have HY:b.s∉P:=λz=>hc (.inl z)
    have BL:b.s≠here:=λz=>hc (.inr z)
    have h1:cnt W P a.g=(pre.countP λx=>decide (x.g=a.g/\x.s=here))+1:=by
     have:=h.f a.g
     omega
    have h2:(W.countP λx=>decide (x.g=a.g/\x.s=here))+(W.countP λx=>decide (x.g=a.g/\x.s∉P/\x.s≠here))<=cnt W P a.g:=by
     have:cnt W P a.g=(W.countP λx=>decide (x.g=a.g/\x.s=here))+(W.countP λx=>decide (x.g=a.g/\x.s∉P/\x.s≠here)):=by
      unfold cnt
      clear h1 hc HY BL eb hb h0 hf Tn e h
      induction W with
      |nil=>rfl
      |cons x W ih =>
       simp only[eF]
       rw[ih]
       by_cases q1:x.g=a.g <;> by_cases q2:x.s=here <;> by_cases q3:x.s∈P <;> simp_all <;> omega
     omega
    have h3:(pre.countP λx=>decide (x.g=a.g/\x.s=here))+1<=W.countP λx=>decide (x.g=a.g/\x.s=here):=by
     rw[e,fq,eF]
     have:decide (a.g=a.g/\a.s=here)=true:=by simp[ha]
     rw[this]
     simp only[if_true]
     omega
    have h4:0<W.countP λx=>decide (x.g=a.g/\x.s∉P/\x.s≠here):=by
     rw[List.countP_pos_iff]
     exact⟨b,hb,by simp[eb,HY,BL]⟩
    omega
   ·rw[aM,ar]
    by_cases lU:g=a.g
    ·subst lU; simp[h0]
    ·dsimp only; rw[if_neg lU,h.z g hg]; simp[lU]
  ·have es:stp here S a=(λx=>if x=a.g then S.1 a.g-1 else S.1 x,S.2):=by unfold stp; simp[ha,h0]
   rw[es]
   refine⟨h.ok,hf,λg hg=>?_,h.sub⟩
   by_cases lU:g=a.g
   ·subst lU
    dsimp only
    rw[if_pos rfl]
    exact⟨λz=>absurd z oe,λz=>absurd z h0⟩
   ·dsimp only; rw[if_neg lU]; exact h.z g hg
 ·have:stp here S a=S:=by unfold stp; rw[if_neg ha]
  rw[this]
  refine⟨h.ok,λg=>?_,h.z,h.sub⟩
  rw[fq,mC]
  have:decide (a.g=g/\a.s=here)=false:=by simp[ha]
  rw[this,h.f]
  simp
theorem In.fold {W:List bz}{many:Nat}{P:List Nat}{here:Nat}(hP:here∉P)(hl:∀a∈W,a.g<many):∀(post pre:List bz) (S:(Nat->Int)×List Nat),W=pre++post->In W many P here pre S->In W many P here W (post.foldl (stp here) S)
 |[],pre,S,e,h=>by rw[e] ; simpa using(by rw[bC]at e; subst e; exact h)
 |a::post,pre,S,e,h=>by
  have:=In.fold hP hl post (pre++[a]) (stp here S a) (by rw[e]; simp) (h.step e hP (hl a (by rw[e]; simp)))
  exact this
theorem XQ {W:List bz}{P:List Nat}{here g:Nat}(hP:here∉P):(cnt W P g:Int)-(W.countP λa=>decide (a.g=g/\a.s=here):Nat)=cnt W (P++[here]) g:=by
 have:cnt W P g=(W.countP λa=>decide (a.g=g/\a.s=here))+cnt W (P++[here]) g:=by
  unfold cnt
  induction W with
  |nil=>rfl
  |cons x W ih =>
   simp only[eF]
   rw[ih]
   by_cases q1:x.g=g <;> by_cases q2:x.s=here <;> by_cases q3:x.s∈P <;> simp_all <;> omega
 omega
structure Wh (W:List bz)(many:Nat)(f:Nat->Int)(p:List Nat)(d:Nat):Prop where
 ok:Ok W many p
 dl:d<=p.length
 fe:∀g,f g=cnt W (p.take d) g
 z:∀g,g<many->(g∈p↔f g=0)
theorem Wh.step {W:List bz}{many:Nat}{f:Nat->Int}{p:List Nat}{d here:Nat}(h:Wh W many f p d)(hl:∀a∈W,a.g<many)(hh:p[d]?=some here) :
  Wh W many (W.foldl (stp here) (f,p)).1 (W.foldl (stp here) (f,p)).2 (d+1)/\∃q,(W.foldl (stp here) (f,p)).2=p++q:=by
 have hd:d<p.length:=(aK.mp hh).1
 have hP:here∉p.take d:=λz=>by
  obtain⟨i,hi,e⟩:=cQ.mp z
  have Ik:i<d:=by rw[cZ]at hi; omega
  rw[oB]at e
  have e2:p[d]=here:=by have:=aK.mp hh; exact this.2
  have:=(jK (xs:=p) (h₀:=by omega) (h₁:=hd) h.ok.nd).mp (e.trans e2.symm)
  omega
 have n6:∀(l:List bz) (S:(Nat->Int)×List Nat),∃q,(l.foldl (stp here) S).2=S.2++q:=by
  intro l
  induction l with
  |nil=>exactλS=>⟨[],by simp⟩
  |cons a l ih =>
   intro S
   obtain⟨q,hq⟩:=ih (stp here S a)
   have:∃r,(stp here S a).2=S.2++r:=by
    by_cases ha:a.s=here
    ·by_cases h0:S.1 a.g-1=0
     ·exact⟨[a.g],by unfold stp; simp[ha,h0]⟩
     ·exact⟨[],by unfold stp; simp[ha,h0]⟩
    ·exact⟨[],by unfold stp; simp[ha]⟩
   obtain⟨r,hr⟩:=this
   exact⟨r++q,by rw[jW,hq,hr,bT]⟩
 obtain⟨q,hq⟩:=n6 W (f,p)
 have I:=In.fold hP hl W [] (f,p) rfl ⟨h.ok,λg=>by show f g=_; rw[h.fe]; simp,h.z,λx hx=>by
  rcases hx with hx|rfl
  ·exact gS hx
  ·exact bD.mpr ⟨d,hh⟩⟩
 have C8:(W.foldl (stp here) (f,p)).2.take (d+1)=p.take d++[here]:=by
  rw[hq]
  show(p++q).take (d+1)=_
  rw[jR (by omega),List.take_succ,hh]
  rfl
 refine⟨⟨I.ok,?_,λg=>?_,I.z⟩,q,hq⟩
 ·rw[hq]
  show d+1<=(p++q).length
  rw[aI]; omega
 ·rw[I.f,C8]
  exact XQ hP
theorem cnt_zero {W:List bz}{P:List Nat}{g:Nat}:cnt W P g=0↔∀a∈W,a.g=g->a.s∈P:=by
 unfold cnt
 rw[List.countP_eq_zero]
 constructor
 ·intro h a ha e
  have:=h a ha
  simp at this
  exact Classical.byContradiction λz=>z (this e)
 ·intro h a ha
  simp
  exact h a ha
theorem Wh.all {W:List bz}{many:Nat}{f:Nat->Int}{p:List Nat}(h:Wh W many f p p.length)(rank:Nat->Nat)(hr:∀a∈W,rank a.s<rank a.g)(hs:∀a∈W,a.s<many):∀g,g<many->g∈p:=by
 have:∀n g,rank g<n->g<many->g∈p:=by
  intro n
  induction n with
  |zero=>intro g h; omega
  |succ n ih =>
   intro g hg hl
   rw[h.z g hl,h.fe,List.take_length]
   have:cnt W p g=0:=cnt_zero.mpr λa ha e=>ih a.s (by have:=hr a ha; rw[e]at this; omega) (hs a ha)
   rw[this]; rfl
 exactλg hl=>this (rank g+1) g (by omega) hl
theorem len_of {many:Nat}{p:List Nat}(nd:p.Nodup)(lt:∀x∈p,x<many)(all:∀g,g<many->g∈p):p.length=many:=by
 have h1:p.Perm (aB many):=by
  rw[kr nd dQ]
  intro a
  rw[aZ]
  exact⟨lt a,all a⟩
 simpa using h1.length_eq
theorem len_le {many:Nat}{p:List Nat}(nd:p.Nodup)(lt:∀x∈p,x<many):p.length<=many:=by
 have h1:(p++(aB many).filter λx=>decide (x∉p)).Perm (aB many):=by
  rw[kr (by
   rw[aY]
   refine⟨nd,dQ.filter _,λa ha b hb e=>?_⟩
   subst e
   simp at hb
   exact hb.2 ha) dQ]
  intro a
  rw[aM,bx,aZ]
  constructor
  ·rintro(h|h)
   ·exact lt a h
   ·exact h.1
  ·intro h
   by_cases ha:a∈p
   ·exact .inl ha
   ·exact .inr ⟨h,by simpa using ha⟩
 have:=h1.length_eq
 rw[aI,aX]at this
 omega
end Kahn
def Kd.n:Kd->Nat
 |.ride=>1|.wait=>2|.back=>3
def bu (a:bz):D:=.obj a.c.n ["start","goal","time","behind"] [.int a.s,.int a.g,.int a.t,.int a.b]
theorem fs (a:bz):bP [0,1,2,3] "start" (bu a)=some (.int a.s):=by obtain⟨c,_,_,_,_⟩:=a; cases c <;> rfl
theorem fg (a:bz):bP [0,1,2,3] "goal" (bu a)=some (.int a.g):=by obtain⟨c,_,_,_,_⟩:=a; cases c <;> rfl
theorem ft (a:bz):bP [0,1,2,3] "time" (bu a)=some (.int a.t):=by obtain⟨c,_,_,_,_⟩:=a; cases c <;> rfl
theorem fb (a:bz):bP [0,1,2,3] "behind" (bu a)=some (.int a.b):=by obtain⟨c,_,_,_,_⟩:=a; cases c <;> rfl
structure Right (many:Nat)(a:bz):Prop where
 s:a.s<many
 g:a.g<many
 t0:0<=a.t
 t1:a.t<=1000000000
 b:a.b<=4
 r:a.c=.ride->a.b=0
 k:a.c=.back->1<=a.b
theorem B1 {n l m:Int}(h1:l<=n)(h2:n<=m):yt [.int n,.int l,.int m]=some (.bl true):=by
 unfold yt
 have q1 (i:Int):m8 "int" (.int i)=some (.bl true):=rfl
 have q2 (i:Int):m8 "bool" (.int i)=some (.bl false):=rfl
 walk_at "mir"
theorem isA (all sub:List Nat)(a:bz):pF all sub (bu a)=if all.contains a.c.n=true then some (.bl (sub.contains a.c.n))else none:=rfl
theorem Y8 {many:Nat}{a:bz}(h:Right many a):FY [bu a,.int (many:Int)]=some (.bl true):=by
 have w1:yt [.int (a.s:Int),.int 0,.int ((many:Int)-1)]=some (.bl true):=B1 (by omega) (by have:=h.s; omega)
 have w2:yt [.int (a.g:Int),.int 0,.int ((many:Int)-1)]=some (.bl true):=B1 (by omega) (by have:=h.g; omega)
 have w3:yt [.int a.t,.int 0,.int 1000000000]=some (.bl true):=B1 h.t0 h.t1
 have f1:=fs a
 have f2:=fg a
 have f3:=ft a
 have f4:=fb a
 have hi:=λall sub=>isA all sub a
 have hb:=h.b
 have hr:=h.r
 have hk:=h.k
 clear h
 unfold FY
 cases hc:a.c with
 |ride =>
  have w4:yt [.int (a.b:Int),.int 0,.int 0]=some (.bl true):=B1 (by omega) (by have:=hr hc; omega)
  rw[hc]at hi
  clear hr hk hb
  have hn:Kd.ride.n=1:=rfl
  walk_at "mir"
 |wait =>
  have w4:yt [.int (a.b:Int),.int 0,.int 4]=some (.bl true):=B1 (by omega) (by omega)
  rw[hc]at hi
  clear hr hk hb
  have hn:Kd.wait.n=2:=rfl
  walk_at "mir"
 |back =>
  have w4:yt [.int (a.b:Int),.int 1,.int 4]=some (.bl true):=B1 (by have:=hk hc; omega) (by omega)
  rw[hc]at hi
  clear hr hk hb
  have hn:Kd.back.n=3:=rfl
  walk_at "mir"
def W0 (as:List bz):List bz:=as.filter λa=>decide (a.b=0)
theorem Vr (as:List bz)(l:as.length<=16777216)(r:L3.Env)(h:r[1]?.join=some (.lst (as.map bu))) :
  j9 r=some (.lst ((W0 as).map bu)):=by
 have e:lsD (eV 1) r=some (as.map bu):=by unfold lsD; have:eV 1 r=some (.lst (as.map bu)):=h; rw[this]; rfl
 refine D4 bu (λa=>decide (a.b=0)) bu as e l λa _=>⟨_,rfl,?_,λ_=>rfl⟩
 have:=fb a
 walk_at "mir"
def CC (s:(Nat->Int)×Option D)(a:bz):(Nat->Int)×Option D:=(λx=>if x=a.g then s.1 a.g+1 else s.1 x,some (bu a))
theorem PV:∀(W:List bz) (s:(Nat->Int)×Option D) (g:Nat),(W.foldl CC s).1 g=s.1 g+(W.countP λa=>decide (a.g=g):Nat)
 |[],s,g=>by simp
 |a::W,s,g=>by
  rw[jW,PV W,eF]
  by_cases hg:g=a.g
  ·subst hg; simp[CC]; omega
  ·have:decide (a.g=g)=false:=by simp; exactλz=>hg z.symm
   simp[CC,hg,this]
theorem PX (p:List Nat)(x:Nat):nats p++[D.int (x:Int)]=nats (p++[x]):=by simp[nats]
theorem Y9 {many:Nat}{as:List bz}{f:Nat->Int}{p:List Nat}{here d:Nat}{x4:Option D}(hm:many<=1000)(hW:∀a∈W0 as,a.s<many/\a.g<many)(h:Kahn.Wh (W0 as) many f p d)(hh:p[d]?=some here) :
  ∃x,eI (gV 4) ve ((W0 as).map bu) [some (.int (many:Int)),some (.lst (as.map bu)),some (.lst ((W0 as).map bu)),some (.lst (vec many f)),x4,some (.lst (nats p)),some (.int (d:Int)),some (.int (here:Int))] =
   some (.nx [some (.int (many:Int)),some (.lst (as.map bu)),some (.lst ((W0 as).map bu)),some (.lst (vec many ((W0 as).foldl (Kahn.stp here) (f,p)).1)),x,some (.lst (nats ((W0 as).foldl (Kahn.stp here) (f,p)).2)),some (.int (d:Int)),some (.int (here:Int))]):=by
 have hd:d<p.length:=(aK.mp hh).1
 have hP:here∉p.take d:=λz=>by
  obtain⟨i,hi,e⟩:=cQ.mp z
  have Ik:i<d:=by rw[cZ]at hi; omega
  rw[oB]at e
  have e2:p[d]=here:=(aK.mp hh).2
  have:=(jK (xs:=p) (h₀:=by omega) (h₁:=hd) h.ok.nd).mp (e.trans e2.symm)
  omega
 obtain⟨ρ',h1,x,pre,e1,e2⟩:=Px (g:=gV 4) (b:=ve) (ds:=(W0 as).map bu) (ρ:=[some (.int (many:Int)),some (.lst (as.map bu)),some (.lst ((W0 as).map bu)),some (.lst (vec many f)),x4,some (.lst (nats p)),some (.int (d:Int)),some (.int (here:Int))])
  (λds ρ=>∃x pre,ds=pre.map bu/\(∃post,W0 as=pre++post)/\Kahn.In (W0 as) many (p.take d) here pre (pre.foldl (Kahn.stp here) (f,p))/\ρ=[some (.int (many:Int)),some (.lst (as.map bu)),some (.lst ((W0 as).map bu)),some (.lst (vec many (pre.foldl (Kahn.stp here) (f,p)).1)),x,some (.lst (nats (pre.foldl (Kahn.stp here) (f,p)).2)),some (.int (d:Int)),some (.int (here:Int))])
  ⟨x4,[],rfl,⟨_,rfl⟩,⟨h.ok,λg=>by show f g=_; rw[h.fe]; simp,h.z,λx hx=>by
   rcases hx with hx|rfl
   ·exact gS hx
   ·exact bD.mpr ⟨d,hh⟩⟩,rfl⟩ (by
  rintro ds dd post ρ e ⟨x,pre,rfl,⟨pL,e'⟩,I,rfl⟩
  rw[e',eP]at e
  have e3:=List.append_cancel_left e
  cases pL with
  |nil=>cases e3
  |cons a pL =>
   rw[aC]at e3
   cases e3
   have ha:a∈W0 as:=by rw[e']; simp
   have hl:=Kahn.len_le I.ok.nd I.ok.lt
   have I2:=I.step e' hP (hW a ha).2
   refine⟨_,_,rfl,.inl ?_,some (bu a),pre++[a],by simp,⟨pL,by rw[e']; simp⟩,by rw[oz]; exact I2,rfl⟩
   rw[oz]
   generalize pre.foldl (Kahn.stp here) (f,p)=S at hl
   show ve _=some (.nx [_,_,_,some (.lst (vec many (Kahn.stp here S a).1)),_,some (.lst (nats (Kahn.stp here S a).2)),_,_])
   have f1:=fs a
   have f2:=fg a
   have dI:(nats S.2).length<16777216:=by simp[nats]; omega
   unfold ve
   by_cases hs:a.s=here
   ·have Tz:((a.s:Nat):Int)=(here:Int):=by rw[hs]
    have au:=Qz (i:=3) (fj:=e1 (bP [0,1,2,3] "goal") (eV 4)) (f:=eC (.int 1)) (gi:=λi j=>i-j) (ρ:=[some (.int (many:Int)),some (.lst (as.map bu)),some (.lst ((W0 as).map bu)),some (.lst (vec many S.1)),some (bu a),some (.lst (nats S.2)),some (.int (d:Int)),some (.int (here:Int))]) (n:=many) (g:=a.g) (w:=S.1) (y:=1) rfl (by walk_at "mir") rfl (hW a ha).2
    have va:dh (.lst (vec many λx=>if x=a.g then S.1 a.g-1 else S.1 x)) (.int (a.g:Int))=some (.int (S.1 a.g-1)):=by
     have:=Ed (λx=>if x=a.g then S.1 a.g-1 else S.1 x) (hW a ha).2
     rw[if_pos rfl]at this
     exact this
    by_cases h0:S.1 a.g-1=0
    ·have es:Kahn.stp here S a=(λx=>if x=a.g then S.1 a.g-1 else S.1 x,S.2++[a.g]):=by unfold Kahn.stp; simp[hs,h0]
     rw[es,← PX]
     rw[h0]at va
     clear I I2 e' es
     walk_at "mir"
    ·have es:Kahn.stp here S a=(λx=>if x=a.g then S.1 a.g-1 else S.1 x,S.2):=by unfold Kahn.stp; simp[hs,h0]
     rw[es]
     clear I I2 e' es
     walk_at "mir"
   ·have es:Kahn.stp here S a=S:=by unfold Kahn.stp; rw[if_neg hs]
    rw[es]
    have Tz:¬((a.s:Nat):Int)=(here:Int):=by omega
    clear I I2 e' es
    walk_at "mir")
 obtain⟨⟨post,e2⟩,I,rfl⟩:=e2
 have:pre=W0 as:=by
  have:=congrArg mI e1
  rw[am,am]at this
  rw[e2,aI]at this
  have hp:post=[]:=eK (by omega)
  rw[e2,hp,bC]
 rw[this]at h1
 exact⟨x,h1⟩
theorem XR {many:Nat}(as:List bz)(l:as.length<=1000)(hm:many<=1000)(hs:∀a∈as,a.s<many/\a.g<many) :
  ∃(f:Nat->Int) (p:List Nat),vo [.int (many:Int),.lst (as.map bu)]=some (.lst (nats p))/\Kahn.Wh (W0 as) many f p p.length:=by
 have hW:∀a∈W0 as,a.s<many/\a.g<many:=λa ha=>hs a (bx.mp ha).1
 obtain⟨c1,_⟩:=Pn (g:=gV 4) (b:=u5) bu (λs:(Nat->Int)×Option D=>[some (.int (many:Int)),some (.lst (as.map bu)),some (.lst ((W0 as).map bu)),some (.lst (vec many s.1)),s.2,none,none,none])
  CC (λ_=>True) (W0 as) (λ_=>0,none) trivial (λs a ha _=>by
   refine⟨_,rfl,.inl ?_,trivial⟩
   unfold u5
   have f2:=fg a
   rw[Qz (n:=many) (g:=a.g) (w:=s.1) (y:=1) rfl (by walk_at "mir") rfl (hW a ha).2]
   rfl)
 have c2:=PV (W0 as) (λ_=>0,none)
 generalize S3:(W0 as).foldl CC (λ_=>0,none)=S0 at c1 c2
 obtain⟨f0,y4⟩:=S0
 dsimp only at c1 c2
 have Tv:∀r:L3.Env,r[0]?.join=some (.int (many:Int))->r[3]?.join=some (.lst (vec many f0))->j8 r=some (.lst (nats ((aB many).filter λg=>decide (f0 g=0)))):=by
  intro r h0 h3
  refine D4 (λ(t:Nat)=>D.int (t:Int)) (λg=>decide (f0 g=0)) (λ(t:Nat)=>D.int (t:Int)) (aB many) (MU h0 (by omega)) (by rw[aX]; omega) ?_
  ·intro g hg
   refine⟨_,rfl,?_,λ_=>rfl⟩
   have hg:g<many:=aZ.mp hg
   have hv:dh (.lst (vec many f0)) (.int (g:Int))=some (.int (f0 g)):=Ed f0 hg
   have hc:dm r [3]=[some (.lst (vec many f0))]:=by unfold dm; simp[h3]
   rw[hc]
   walk_at "mir"
 generalize hq:((aB many).filter λg=>decide (f0 g=0))=p0 at Tv
 have w0:Kahn.Wh (W0 as) many f0 p0 0:=by
  have hf:∀g,f0 g=Kahn.cnt (W0 as) [] g:=λg=>by
   rw[c2 g]
   unfold Kahn.cnt
   simp
  refine⟨⟨by rw[← hq]; exact dQ.filter _,λx hx=>by rw[← hq,bx,aZ]at hx; exact hx.1,λi x hx a ha e=>?_⟩,by omega,hf,λg hg=>by rw[← hq,bx,aZ]; simp[hg]⟩
  have tP:x∈p0:=bD.mpr ⟨i,hx⟩
  rw[← hq,bx]at tP
  have h0:f0 x=0:=by simpa using tP.2
  rw[hf]at h0
  have:=Kahn.cnt_zero.mp (by exact_mod_cast h0) a ha e
  cases this
 obtain⟨ρ',h1,⟨f,p,d,x4,x7,rfl,wh⟩,h3⟩:=LJ (c:=tb (e2 nF (eV 6) (eN dg (aCons (eV 5) aNil)))) (b:=u4)
  (λρ=>∃f p d x4 x7,ρ=[some (.int (many:Int)),some (.lst (as.map bu)),some (.lst ((W0 as).map bu)),some (.lst (vec many f)),x4,some (.lst (nats p)),some (.int ((d:Nat):Int)),x7]/\Kahn.Wh (W0 as) many f p d)
  (λρ:L3.Env=>match ρ[6]? with|some (some (D.int i))=>(1001-i).toNat|_=>0) (by
   rintro ρ ⟨f,p,d,x4,x7,rfl,wh⟩
   have hl:(nats p).length=p.length:=by simp[nats]
   refine⟨decide ((d:Int)<(p.length:Int)),by walk_at "mir",λht=>?_⟩
   have hd:d<p.length:=by simpa using ht
   have hh:p[d]?=some p[d]:=by simp[hd]
   obtain⟨x,Fm⟩:=Y9 (x4:=x4) hm hW wh hh
   obtain⟨DX,q,_⟩:=wh.step (λa ha=>(hW a ha).2) hh
   have sj:=Kahn.len_le DX.ok.nd DX.ok.lt
   have lT:=DX.dl
   refine⟨_,.inl ?_,⟨_,_,d+1,x,some (.int (p[d]:Int)),rfl,DX⟩,?_⟩
   ·have hix:dh (.lst (nats p)) (.int (d:Int))=some (.int (p[d]:Int)):=q0 (by simp[nats,hd])
    have hau:i2 (λi j=>D.int (i+j)) (.int (d:Int)) (.int 1)=some (.int ((d+1:Nat):Int)):=by simp[i2]
    unfold u4 pO
    clear wh DX sj lT
    walk_at "mir"
   ·show(1001-((d+1:Nat):Int)).toNat<(1001-(d:Int)).toNat
    omega) jM [some (.int (many:Int)),some (.lst (as.map bu)),some (.lst ((W0 as).map bu)),some (.lst (vec many f0)),y4,some (.lst (nats p0)),some (.int ((0:Nat):Int)),none] ⟨f0,p0,0,y4,none,rfl,w0⟩ (by
   show(1001-((0:Nat):Int)).toNat<jM
   have:(1001:Nat)<jM:=GA (by decide)
   omega)
 have hd:d=p.length:=by
  have hl:(nats p).length=p.length:=by simp[nats]
  have h4:(tb (e2 nF (eV 6) (eN dg (aCons (eV 5) aNil)))) [some (.int (many:Int)),some (.lst (as.map bu)),some (.lst ((W0 as).map bu)),some (.lst (vec many f)),x4,some (.lst (nats p)),some (.int (d:Int)),x7]=some (decide ((d:Int)<(p.length:Int))):=by walk_at "mir"
  rw[h4]at h3
  have:=wh.dl
  simp at h3
  omega
 subst hd
 refine⟨f,p,?_,wh⟩
 have r1:=Vr as (by omega)
 have rp:ng (.lst [.int 0]) (.int (many:Int))=some (.lst (vec many λ_=>0)):=by
  unfold ng
  dsimp only
  rw[if_pos ⟨by omega,by omega,by simp⟩]
  congr 2
  unfold vec
  rw[jV,aX]
  simp
 rw[show(((0:Nat):Int))=0 from rfl]at h1
 unfold vo eA
 clear hs hW c2 S3 hq w0 wh h3 l hm
 walk_at "mir"
def bg (ns:List D)(as:List bz):D:=.obj 4 ["names","arrows"] [.lst ns,.lst (as.map bu)]
structure nv (many:Nat)(as:List bz):Prop where
 pos:1<=many
 le:many<=40
 len:as.length<=120
 right:∀a∈as,Right many a
 rank:∃rank:Nat->Nat,∀a∈as,a.b=0->rank a.s<rank a.g
theorem nv.placed {many:Nat}{as:List bz}(h:nv many as):∃p:List Nat,vo [.int (many:Int),.lst (as.map bu)]=some (.lst (nats p))/\Kahn.Ok (W0 as) many p/\p.length=many/\∀g,g<many->g∈p:=by
 obtain⟨f,p,h1,h2⟩:=XR (many:=many) as (by have:=h.len; omega) (by have:=h.le; omega) (λa ha=>⟨(h.right a ha).s,(h.right a ha).g⟩)
 obtain⟨rank,hr⟩:=h.rank
 have all:=h2.all rank (λa ha=>by
  have:=bx.mp ha
  exact hr a this.1 (by simpa using this.2)) (λa ha=>(h.right a (bx.mp ha).1).s)
 exact⟨p,h1,h2.ok,Kahn.len_of h2.ok.nd h2.ok.lt all,all⟩
theorem zt2 {many:Nat}{as:List bz}{ns:List D}(h:nv many as)(hn:ns.length=many)(sk:qo [.lst ns]=some (.bl true)):jz 4 [.lst ns,.lst (as.map bu)]=some (bg ns as):=by
 obtain⟨p,hp,_,hl,_⟩:=h.placed
 have dI:=h.len
 obtain⟨ρ',h1,x3,x4,rfl⟩:=Px (g:=gT (gsCons (gV 3) (gsCons (gV 4) gsNil))) (b:=j4) (ds:=de 0 (as.map bu)) (ρ:=[some (.obj 4 [] []),some (.lst ns),some (.lst (as.map bu)),none,none,none])
  (λ_ ρ=>∃x3 x4,ρ=[some (.obj 4 [] []),some (.lst ns),some (.lst (as.map bu)),x3,x4,none]) ⟨none,none,rfl⟩ (by
   rintro pre d post ρ e ⟨x3,x4,rfl⟩
   obtain⟨x,hx,rfl⟩:=LQ (zsl e)
   rw[aP]at hx
   obtain⟨a,ha,rfl⟩:=cx.mp hx
   have hr:=Y8 (h.right a (bD.mpr ⟨_,ha⟩))
   refine⟨_,_,rfl,.inl ?_,some (.int (0+pre.length:Nat)),some (bu a),rfl⟩
   unfold j4
   rw[← hn]at hr
   clear hp hl hn dI h
   walk_at "mir")
 have hz:(nats p).length=many:=by simp[nats,hl]
 have hgt:¬((as.length:Int) > 120):=by omega
 rw[← hn]at hp hz
 have l1:∀ds:List D,kR [.lst ds]=some (.lst ds):=λ_=>rfl
 have s1:iI [4] "names" (eN kR (aCons (eV 1) aNil)) [some (D.obj 4 [] []),some (.lst ns),some (.lst (as.map bu)),x3,x4,some (.lst (nats p))]=some (.nx [some (D.obj 4 ["names"] [.lst ns]),some (.lst ns),some (.lst (as.map bu)),x3,x4,some (.lst (nats p))]):=rfl
 have s2:iI [4] "arrows" (eN kR (aCons (eV 2) aNil)) [some (D.obj 4 ["names"] [.lst ns]),some (.lst ns),some (.lst (as.map bu)),x3,x4,some (.lst (nats p))]=some (.nx [some (bg ns as),some (.lst ns),some (.lst (as.map bu)),x3,x4,some (.lst (nats p))]):=rfl
 clear h dI hl hn
 unfold jz zN
 walk_at "mir"
theorem GQ (ns:List Int)(i:Int)(hi:0<=i):∃c,xx [.lst (ns.map .int),.int i]=some (.int c):=by
 obtain⟨k,rfl⟩:∃k:Nat,i=k:=⟨i.toNat,by omega⟩
 unfold xx
 by_cases h:k<ns.length
 ·refine⟨ns[k],?_⟩
  have:dh (.lst (ns.map .int)) (.int (k:Int))=some (.int ns[k]):=Yl D.int (.inl rfl) (by simp[h])
  walk_at "mir"
 ·refine⟨0,?_⟩
  walk_at "mir"
def mq (c:Int):Bool:=decide (1237940039285380274899124224<=c) && decide (c % 2=1)
theorem Mw (c:Int):ui [.int c]=some (.bl (mq c)):=by
 unfold ui mq
 by_cases h1:(1237940039285380274899124224:Int)<=c <;> by_cases h2:c % 2=1 <;> walk_at "mir"
theorem Za (c:Int){k:Int}(h0:0<=k)(h1:k<=1000000):∃r:Nat,w9 [.int c,.int k]=some (.int (r:Int))/\r<2147483648:=by
 have m0:cE (.int 31) (.int k)=some (.int (31 * k)):=zac (by decide) (by decide)
 have s0:oq (.int c) (.int (1+31 * k))=some (.int (c / 2 ^ (1+31 * k).toNat)):=zh6 (by omega)
 have r0:=Mw c
 have fin:∀z:Int,∀m:Int,0<m->m<=2147483648->∃r:Nat,(some (D.int (z % m)):Option D)=some (.int (r:Int))/\r<2147483648:=λz m hm kP=>by
  have a1:=eT z (by omega:m≠0)
  have a2:=iM z hm
  exact⟨(z % m).toNat,by rw[nK a1],by omega⟩
 generalize hn:(c+7919 * k+1) * 48271 % 2147483647=n1
 have b1:0<=n1/\n1<2147483647:=by omega
 have m1:cE (.int 7919) (.int k)=some (.int (7919 * k)):=zac (by decide) (by decide)
 have m2:cE (.int (c+7919 * k+1)) (.int 48271)=some (.int ((c+7919 * k+1) * 48271)):=zds (by decide) (by decide)
 have m3:cE (.int n1) (.int (n1 / 1009+69621))=some (.int (n1 * (n1 / 1009+69621))):=zac (by omega) (by omega)
 generalize tK:n1 * (n1 / 1009+69621) % 2147483647=n2
 have b2:0<=n2/\n2<2147483647:=by omega
 have m4:cE (.int n2) (.int (n2 / 2003+39373+k))=some (.int (n2 * (n2 / 2003+39373+k))):=zac (by omega) (by omega)
 unfold w9
 by_cases hr:mq c=true
 ·by_cases hs:c / 2 ^ (1+31 * k).toNat > 0
  ·obtain⟨r,e1,e2⟩:=fin (c / 2 ^ (1+31 * k).toNat) 2147483648 (by decide) (by decide)
   refine⟨r,?_,e2⟩
   rw[← e1]
   generalize c / 2 ^ (1+31 * k).toNat=q at s0 hs
   clear e1 e2 fin hn tK b1 b2 h0 h1
   walk_at "mir"
  ·obtain⟨r,e1,e2⟩:=fin (n2 * (n2 / 2003+39373+k)) 2147483629 (by decide) (by decide)
   refine⟨r,?_,e2⟩
   rw[← e1]
   generalize c / 2 ^ (1+31 * k).toNat=q at s0 hs
   clear e1 e2 fin b1 b2 h0 h1
   walk_at "mir"
 ·obtain⟨r,e1,e2⟩:=fin (n2 * (n2 / 2003+39373+k)) 2147483629 (by decide) (by decide)
  refine⟨r,?_,e2⟩
  rw[← e1]
  clear e1 e2 fin b1 b2 h0 h1 s0
  walk_at "mir"
theorem PY (g:Nat):∀O:List Nat,g∈O->∃j:Nat,(nats O).findIdx? (λy=>p9 y (.int (g:Int)))=some j
 |[],h=>by cases h
 |x::O,h=>by
  have hc:nats (x::O)=.int (x:Int)::nats O:=rfl
  rw[hc,iw]
  by_cases hx:x=g
  ·refine⟨0,?_⟩
   have:p9 (.int (x:Int)) (.int (g:Int))=true:=by simp[p9,hx]
   rw[this]; rfl
  ·have:p9 (.int (x:Int)) (.int (g:Int))=false:=by simp[p9]; omega
   rw[this]
   obtain⟨j,hj⟩:=PY g O (by
    rcases aA.mp h with e|e
    ·exact absurd e.symm hx
    ·exact e)
   exact⟨j+1,by rw[hj]; rfl⟩
theorem Zb (O:List Nat):(nats O).all D.sc=true:=by
 rw[fU]
 intro d hd
 obtain⟨t,_,rfl⟩:=aR.mp hd
 rfl
def IH (O:List Nat)(g:Nat):Nat:=((nats O).findIdx? (λy=>p9 y (.int (g:Int)))).getD 0
theorem XU {g:Nat}{O:List Nat}(h:g∈O):pE (.lst (nats O)) (.int (g:Int))=some (.int (IH O g:Int)):=by
 obtain⟨j,hj⟩:=PY g O h
 unfold pE IH
 dsimp only
 rw[if_pos ⟨rfl,Zb O⟩,hj]
 rfl
theorem Mx {p:List Nat}{i:Nat}(h:i<p.length):dh (.lst (nats p)) (.int (i:Int))=some (.int (p[i]:Int)):=q0 (by simp[nats,h])
def hZ (c k:Int):Nat:=match w9 [.int c,.int k]with
 |some (.int r)=>r.toNat
 |_=>0
theorem Mz (c:Int){k:Int}(h0:0<=k)(h1:k<=1000000):w9 [.int c,.int k]=some (.int (hZ c k:Int))/\hZ c k<2147483648:=by
 obtain⟨r,h,hr⟩:=Za c h0 h1
 unfold hZ
 rw[h]
 simpa using hr
def kh (turn:Int)(many:Nat):Nat->List Nat×List Nat
 |0=>([],aB many)
 |k+1 =>
  let S:=kh turn many k
  let i:=hZ turn (k:Int) % S.2.length
  (S.1++[S.2.getD i 0],S.2.eraseIdx i)
theorem LK {α:Type}:∀(l:List α) (i:Nat) (h:i<l.length),(l[i]::l.eraseIdx i).Perm l
 |[],_,h=>by simp at h
 |x::l,0,_=>by simp
 |x::l,i+1,h=>by
  have ih:=LK l i (by simpa using h)
  simp only[List.getElem_cons_succ,List.eraseIdx_cons_succ]
  exact(oQ.swap x _ _).trans (ih.cons x)
theorem MV (turn:Int)(many:Nat):∀k,k<=many->(kh turn many k).2.length=many-k/\((kh turn many k).1++(kh turn many k).2).Perm (aB many)
 |0,_=>by simp[kh]
 |k+1,h=>by
  obtain⟨h1,h2⟩:=MV turn many k (by omega)
  unfold kh
  dsimp only
  generalize kh turn many k=S at h1 h2
  have hi:hZ turn (k:Int) % S.2.length<S.2.length:=iP _ (by omega)
  generalize hZ turn (k:Int) % S.2.length=i at hi
  refine⟨by rw[List.length_eraseIdx_of_lt hi]; omega,?_⟩
  have e:=LK S.2 i hi
  have hg:S.2.getD i 0=S.2[i]:=by simp[hi]
  rw[hg,bT]
  exact(oQ.append_left S.1 e).trans h2
theorem LL:∀(L:List Nat) (i:Nat),(nats L).eraseIdx i=nats (L.eraseIdx i)
 |[],_=>rfl
 |_::_,0=>rfl
 |x::L,i+1=>by
  have ih:=LL L i
  show D.int (x:Int)::(nats L).eraseIdx i=D.int (x:Int)::nats (L.eraseIdx i)
  rw[ih]
theorem XX (turn:Int){many:Nat}(h2:many<=1000)(g:Nat):∃x5:Option D,eI (gV 5) jc (dZ 0 many) [some (.int turn),some (.int (many:Int)),some (.int (g:Int)),some (.lst []),some (.lst (dZ 0 many)),none] =
  some (.nx [some (.int turn),some (.int (many:Int)),some (.int (g:Int)),some (.lst (nats (kh turn many many).1)),some (.lst (nats (kh turn many many).2)),x5]):=by
 have hu:dZ 0 many=nats (aB many):=by simp[dZ,nats]
 obtain⟨ρ',h1,x5,rfl⟩:=V5 (g:=gV 5) (b:=jc) (lo:=0) (n:=many) (ρ:=[some (.int turn),some (.int (many:Int)),some (.int (g:Int)),some (.lst []),some (.lst (dZ 0 many)),none])
  (λk ρ=>∃x5,ρ=[some (.int turn),some (.int (many:Int)),some (.int (g:Int)),some (.lst (nats (kh turn many k).1)),some (.lst (nats (kh turn many k).2)),x5]) ⟨none,by rw[hu]; rfl⟩ (by
   rintro k ρ hk ⟨x5,rfl⟩
   obtain⟨o1,o2⟩:=MV turn many k (by omega)
   have o3:=o2.length_eq
   rw[aI,aX]at o3
   obtain⟨mx,mb⟩:=Mz turn (k:=0+(k:Int)) (by omega) (by omega)
   refine⟨_,_,rfl,.inl ?_,some (.int (0+(k:Int))),rfl⟩
   have e0:(0:Int)+(k:Int)=(k:Int):=by omega
   rw[e0]at mx ⊢
   show jc [some (.int turn),some (.int (many:Int)),some (.int (g:Int)),some (.lst (nats (kh turn many k).1)),some (.lst (nats (kh turn many k).2)),some (.int (k:Int))]=some (.nx [some (.int turn),some (.int (many:Int)),some (.int (g:Int)),some (.lst (nats ((kh turn many k).1++[(kh turn many k).2.getD (hZ turn (k:Int) % (kh turn many k).2.length) 0]))),some (.lst (nats ((kh turn many k).2.eraseIdx (hZ turn (k:Int) % (kh turn many k).2.length)))),some (.int (k:Int))])
   generalize kh turn many k=S at o1 o3
   have hi:hZ turn (k:Int) % S.2.length<S.2.length:=iP _ (by omega)
   have md:cY (.int (hZ turn (k:Int):Int)) (.int ((nats S.2).length:Int))=some (.int ((hZ turn (k:Int) % S.2.length:Nat):Int)):=by
    rw[jy (by simp[nats]; omega)]
    simp[nats]
   generalize hZ turn (k:Int) % S.2.length=i at hi md
   have hg:S.2.getD i 0=S.2[i]:=by simp[hi]
   have l1:(nats S.1).length<16777216:=by simp[nats]; omega
   have l2:(nats S.2).length<=16777216:=by simp[nats]; omega
   have ix:ixN (nats S.2).length (i:Int)=some i:=Mv (by simp[nats]; exact hi)
   have gt:(nats S.2)[i]?=some (.int (S.2[i]:Int)):=by simp[nats,hi]
   have ev:eN dg (aCons (eV 4) aNil) [some (.int turn),some (.int (many:Int)),some (.int (g:Int)),some (.lst (nats S.1)),some (.lst (nats S.2)),some (.int (k:Int))]=some (.int ((nats S.2).length:Int)):=rfl
   have em:(aCons (eV 0) (aCons (eV 5) aNil) [some (.int turn),some (.int (many:Int)),some (.int (g:Int)),some (.lst (nats S.1)),some (.lst (nats S.2)),some (.int (k:Int))]).bind (λds=>w9 (ds++[]))=some (.int (hZ turn (k:Int):Int)):=mx
   have ee:e2 cY (λρ=>((aCons (eV 0) (aCons (eV 5) aNil)) ρ).bind λds=>w9 (ds++[])) (eN dg (aCons (eV 4) aNil)) [some (.int turn),some (.int (many:Int)),some (.int (g:Int)),some (.lst (nats S.1)),some (.lst (nats S.2)),some (.int (k:Int))]=some (.int (i:Int)):=by
    unfold e2
    dsimp only
    rw[em,ev]
    exact md
   unfold jc lF
   rw[ee]
   show(if(nats S.1).length<16777216/\(nats S.2).length<=16777216 then _ else _)=_
   rw[if_pos ⟨l1,l2⟩,ix]
   show((nats S.2)[i]?).bind _=_
   rw[gt,hg,← PX,← LL]
   rfl)
 exact⟨x5,h1⟩
theorem zsz (turn:Int){many:Nat}(h1:1<=many)(h2:many<=1000):∃rk:Nat->Nat,∀g,g<many->u6 [.int turn,.int (many:Int),.int (g:Int)]=some (.int (rk g:Int)):=by
 have hr:=Mw turn
 cases Tx:mq turn with
 |false =>
  refine⟨λg=>(((g:Int)+turn) % (many:Int)).toNat,λg hg=>?_⟩
  have a1:=eT ((g:Int)+turn) (by omega:(many:Int)≠0)
  have a2:cY (.int ((g:Int)+turn)) (.int (many:Int))=some (.int (((g:Int)+turn) % (many:Int))):=jy (by omega)
  rw[nK a1]
  unfold u6
  clear a1
  walk_at "mir"
 |true =>
  obtain⟨o1,o2⟩:=MV turn many many (aE _)
  rw[mE]at o1
  have o3:(kh turn many many).2=[]:=eK o1
  rw[o3,bC]at o2
  refine⟨IH (kh turn many many).1,λg hg=>?_⟩
  obtain⟨x5,lp⟩:=XX turn h2 g
  have ix:=XU (g:=g) (O:=(kh turn many many).1) (o2.mem_iff.mpr (aZ.mpr hg))
  have lr:gZ [.int (many:Int)]=some (.lst (dZ 0 many)):=by
   unfold gZ
   dsimp only
   rw[if_pos ⟨by omega,by omega⟩]
   simp
  have r1:ig [.int (many:Int)]=some (dZ 0 many):=by
   rw[Gg (by omega) (by omega)]
   simp
  unfold u6
  generalize kh turn many many=S at lp ix
  clear o1 o2 o3
  walk_at "mir"
def cD (a:bz):D:=.tup [.int a.s,.int a.g,.int a.t,.int a.b]
theorem VR (c many turn n s g b:Int):∃t:Int,0<=t/\t<=1000000/\jh [some (.int c),some (.int many),some (.int turn),some (.int n),some (.int s),some (.int g),some (.int b),none]=some (.rt (.tup [.int s,.int g,.int t,.int b])):=by
 obtain⟨m2,_⟩:=Mz c (k:=30) (by decide) (by decide)
 generalize hZ c 30=u at m2
 have row:=Mw c
 unfold jh
 by_cases hr:mq c=true
 ·refine⟨(u:Int) % 1000001,by omega,by omega,?_⟩
  by_cases h3:c % 3=2 <;> walk_at "mir"
 ·by_cases h3:c % 3=2
  ·refine⟨c / 3 % 1000001,by omega,by omega,?_⟩
   walk_at "mir"
  ·refine⟨n / 1000 % 10,by omega,by omega,?_⟩
   walk_at "mir"
theorem Zc (c turn:Int){many:Nat}(h1:1<=many)(h2:many<=1000)(rk:Nat->Nat)(qD:∀g,g<many->u6 [.int turn,.int (many:Int),.int (g:Int)]=some (.int (rk g:Int))) :
  ∃a:bz,vb [.int c,.int (many:Int),.int turn]=some (cD a)/\a.s<many/\a.g<many/\0<=a.t/\a.t<=1000000/\a.b<=4/\(a.b=0->rk a.s<rk a.g):=by
 obtain⟨m1,_⟩:=Mz c (k:=1) (by decide) (by decide)
 generalize hZ c 1=n at m1
 have hs:n % many<many:=iP _ (by omega)
 have hg:n / 8 % many<many:=iP _ (by omega)
 have e1:cY (.int (n:Int)) (.int (many:Int))=some (.int ((n % many:Nat):Int)):=by rw[jy (by omega)]; simp
 have e2:cY (.int ((n:Int) / 8)) (.int (many:Int))=some (.int ((n / 8 % many:Nat):Int)):=by rw[jy (by omega)]; simp
 have k1:=qD _ hs
 have k2:=qD _ hg
 generalize n % many=s0 at *
 generalize n / 8 % many=g0 at *
 have fin:∀b:Nat,b<=4->(b=0->rk s0<rk g0)->(∀t:Int,jh [some (.int c),some (.int (many:Int)),some (.int turn),some (.int (n:Int)),some (.int (s0:Int)),some (.int (g0:Int)),some (.int (b:Int)),none]=some (.rt (.tup [.int s0,.int g0,.int t,.int b]))->vb [.int c,.int (many:Int),.int turn]=some (.tup [.int s0,.int g0,.int t,.int b])) ->
   ∃a:bz,vb [.int c,.int (many:Int),.int turn]=some (cD a)/\a.s<many/\a.g<many/\0<=a.t/\a.t<=1000000/\a.b<=4/\(a.b=0->rk a.s<rk a.g):=by
  intro b hb yZ h
  obtain⟨t,t0,t1,ht⟩:=VR c many turn n s0 g0 b
  exact⟨⟨.wait,s0,g0,t,b⟩,h t ht,hs,hg,t0,t1,hb,yZ⟩
 have eb:((n:Int) / 64) % 5=((n / 64 % 5:Nat):Int):=by omega
 have EI:(1:Int)+(n:Int) / 320 % 2=((1+n / 320 % 2:Nat):Int):=by omega
 by_cases q:n / 64 % 5=0
 ·have q':((n:Int) / 64) % 5=0:=by omega
  by_cases q2:rk g0<=rk s0
  ·have UA:((rk g0:Nat):Int)<=(rk s0:Int):=by omega
   refine fin (1+n / 320 % 2) (by omega) (by omega) λt ht=>?_
   rw[← EI]at ht ⊢
   unfold vb
   clear eb EI q hs hg q2 qD fin
   walk_at "mir"
  ·have UA:¬((rk g0:Nat):Int)<=(rk s0:Int):=by omega
   refine fin 0 (by omega) (by omega) λt ht=>?_
   rw[show((0:Nat):Int)=0 from rfl]at ht ⊢
   unfold vb
   clear eb EI q hs hg q2 qD fin
   walk_at "mir"
 ·have q':¬((n:Int) / 64) % 5=0:=by omega
  refine fin (n / 64 % 5) (by omega) (by omega) λt ht=>?_
  rw[← eb]at ht ⊢
  unfold vb
  clear eb EI q hs hg qD fin
  walk_at "mir"
def kdOf (b:Nat)(kind:Int):Kd:=if b=0/\kind % 2=0 then .ride else if 0<b/\kind % 2=0 then .back else .wait
def fR (a:bz)(kind:Int):bz:={ a with c:=kdOf a.b kind }
theorem ZT (s g t:Int):qk 1 [.int s,.int g,.int t]=some (.obj 1 ["start","goal","time","behind"] [.int s,.int g,.int t,.int 0]):=rfl
theorem ZU (s g t b:Int):ql 2 [.int s,.int g,.int t,.int b]=some (.obj 2 ["start","goal","time","behind"] [.int s,.int g,.int t,.int b]):=rfl
theorem ZV (s g t b:Int):qm 3 [.int s,.int g,.int t,.int b]=some (.obj 3 ["start","goal","time","behind"] [.int s,.int g,.int t,.int b]):=rfl
theorem ZW (a:bz)(kind:Int):FZ [cD a,.int kind]=some (bu (fR a kind)):=by
 obtain⟨c,s,g,t,b⟩:=a
 have r1:=ZT
 have r2:=ZU
 have r3:=ZV
 unfold FZ cD fR bu
 dsimp only
 by_cases hb:b=0
 ·by_cases hk:kind % 2=0
  ·subst hb
   have:kdOf 0 kind=.ride:=by unfold kdOf; rw[if_pos ⟨rfl,hk⟩]
   rw[this]
   have e:(((0:Nat)):Int)=0:=rfl
   have hn:Kd.ride.n=1:=rfl
   walk_at "mir"
  ·have:kdOf b kind=.wait:=by unfold kdOf; rw[if_neg (λz=>hk z.2),if_neg (λz=>hk z.2)]
   rw[this]
   have hn:Kd.wait.n=2:=rfl
   have BJ:(b:Int)=0:=by omega
   walk_at "mir"
 ·have BJ:¬(b:Int)=0:=by omega
  have S9:0<b:=by omega
  by_cases hk:kind % 2=0
  ·have:kdOf b kind=.back:=by unfold kdOf; rw[if_neg (λz=>hb z.1),if_pos ⟨by omega,hk⟩]
   rw[this]
   have hn:Kd.back.n=3:=rfl
   clear BJ
   walk_at "mir"
  ·have:kdOf b kind=.wait:=by unfold kdOf; rw[if_neg (λz=>hk z.2),if_neg (λz=>hk z.2)]
   rw[this]
   have hn:Kd.wait.n=2:=rfl
   clear BJ
   walk_at "mir"
def nm (n:Nat):List D:=(aB n).map λ(k:Nat)=>D.str ("a"++tR (k:Int))
def NY:Option D->Bool
 |some (.bl true)=>true
 |_=>false
theorem ZX {x:Option D}(h:NY x=true):x=some (.bl true):=by
 unfold NY at h
 split at h
 ·rfl
 ·cases h
theorem Zd {n:Nat}(h1:1<=n)(h2:n<=8):qo [.lst (nm n)]=some (.bl true):=by
 have:n=1\/n=2\/n=3\/n=4\/n=5\/n=6\/n=7\/n=8:=by omega
 rcases this with rfl|rfl|rfl|rfl|rfl|rfl|rfl|rfl <;> exact ZX (by decide +kernel)
structure Drawn (many:Nat)(rk:Nat->Nat)(a:bz):Prop where
 s:a.s<many
 g:a.g<many
 t0:0<=a.t
 t1:a.t<=1000000000
 b:a.b<=4
 r:a.b=0->rk a.s<rk a.g
theorem Drawn.right {many:Nat}{rk:Nat->Nat}{a:bz}(h:Drawn many rk a)(kind:Int):Right many (fR a kind):=by
 refine⟨h.s,h.g,h.t0,h.t1,h.b,λz=>?_,λz=>?_⟩
 ·change kdOf a.b kind=.ride at z
  unfold kdOf at z
  split at z
  ·next q=>exact q.1
  ·split at z <;> cases z
 ·change kdOf a.b kind=.back at z
  unfold kdOf at z
  split at z
  ·cases z
  ·split at z
   ·next q=>exact q.1
   ·cases z
theorem ZY {many:Nat}{rk:Nat->Nat}{as:List bz}(k:bz->Int)(h1:1<=many)(h2:many<=8)(h3:as.length<=120)(h:∀a∈as,Drawn many rk a):nv many (as.map λa=>fR a (k a)):=by
 refine⟨h1,by omega,by rw[am]; exact h3,λb hb=>?_,rk,λb hb yZ=>?_⟩
 ·obtain⟨a,ha,rfl⟩:=aR.mp hb
  exact(h a ha).right _
 ·obtain⟨a,ha,rfl⟩:=aR.mp hb
  exact(h a ha).r yZ
theorem Pp {κ:Type}(h:κ×D->D):∀(ks:List κ) (ds:List D),ks.zip ((ks.zip ds).map h)=(ks.zip ds).map λp=>(p.1,h p)
 |[],_=>rfl
 |_::_,[]=>rfl
 |k::ks,d::ds=>by
  show(k,h (k,d))::ks.zip ((ks.zip ds).map h)=(k,h (k,d))::(ks.zip ds).map _
  rw[Pp h ks ds]
theorem XY {κ:Type}[DecidableEq κ]{ks:List κ}{ds:List D}(hl:ks.length=ds.length)(k k':κ)(d:D):gK (d9 ks ds k d).1 (d9 ks ds k d).2 k'=if k'=k then some d else gK ks ds k':=by
 unfold d9
 by_cases hc:ks.contains k=true
 ·rw[if_pos hc]
  unfold gK
  dsimp only
  rw[Pp,List.find?_map]
  by_cases hk:k'=k
  ·subst hk
   rw[if_pos rfl]
   have hm:k'∈ks:=by simpa using hc
   have:∃p∈ks.zip ds,p.1=k':=by
    obtain⟨i,hi,e⟩:=cQ.mp hm
    refine⟨(ks[i],ds[i]),?_,e⟩
    rw[cQ]
    exact⟨i,by rw[dr]; omega,by simp⟩
   obtain⟨p,hp,he⟩:=this
   cases hf:(ks.zip ds).find? ((λp:κ×D=>decide (p.1=k')) ∘ λp:κ×D=>(p.1,if p.1=k' then d else p.2))with
   |none =>
    rw[nM]at hf
    have:=hf p hp
    simp[he]at this
   |some q =>
    have hq:=pV hf
    simp at hq
    simp[hq]
  ·rw[if_neg hk]
   have:((λp:κ×D=>decide (p.1=k')) ∘ λp:κ×D=>(p.1,if p.1=k then d else p.2))=λp:κ×D=>decide (p.1=k'):=rfl
   rw[this]
   cases hf:(ks.zip ds).find? λp=>decide (p.1=k')with
   |none=>rfl
   |some q =>
    have hq:=pV hf
    simp at hq
    have kq:¬q.1=k:=λz=>hk (hq ▸ z)
    simp[kq]
 ·rw[if_neg hc]
  unfold gK
  dsimp only
  have hz:(ks++[k]).zip (ds++[d])=ks.zip ds++[(k,d)]:=by
   rw[pX hl]; rfl
  rw[hz,List.find?_append]
  by_cases hk:k'=k
  ·subst hk
   rw[if_pos rfl]
   have hn:(ks.zip ds).find? (λp=>decide (p.1=k'))=none:=by
    rw[nM]
    intro p hp
    have hm:=(eQ (a:=p.1) (b:=p.2) hp).1
    have kP:¬k'∈ks:=by simpa using hc
    simp
    intro z
    exact kP (z ▸ hm)
   rw[hn]
   simp
  ·rw[if_neg hk]
   have:¬k=k':=λz=>hk z.symm
   cases hf:(ks.zip ds).find? (λp=>decide (p.1=k')) <;> simp[this]
theorem QA {κ:Type}[DecidableEq κ]{ks:List κ}{ds:List D}(hl:ks.length=ds.length)(k:κ)(d:D):(d9 ks ds k d).1.length=(d9 ks ds k d).2.length/\(d9 ks ds k d).1.length<=ks.length+1:=by
 unfold d9
 by_cases hc:ks.contains k=true
 ·rw[if_pos hc]; simp; omega
 ·rw[if_neg hc]; simp[hl]
theorem PZ (ns:List D)(as:List bz):bP [4] "names" (bg ns as)=some (.lst ns):=rfl
theorem Gb (ns:List D)(as:List bz):bP [4] "arrows" (bg ns as)=some (.lst (as.map bu)):=rfl
theorem XZ {ns:List Int}{r:L3.Env}(i a b:Nat)(h:r[i]?.join=some (.lst (ns.map .int))):lsD (λρ=>((eV i) ρ).bind λd=>((pInt (eC (.int a))) ρ).bind λl=>((pInt (eC (.int b))) ρ).bind λh=>ij d l h) r=some (((ns.drop a).take (b-a)).map .int):=by
 have e:eV i r=some (.lst (ns.map .int)):=h
 unfold lsD
 show(((eV i) r).bind _).bind _=_
 rw[e]
 show some (cutD (ns.map .int) (some (a:Int)) (some (b:Int)))=_
 rw[Xm,sZ,ik]
theorem Ze (g:Nat)(hg:g<=1000000):ou [.int (g:Int)]=some (.str (tR (g:Int)))/\dG (.str "a") (.str (tR (g:Int)))=some (.str ("a"++tR (g:Int))):=by
 have h:Sz 1900 (g:Int):=by
  show(g:Int).natAbs<2 ^ 1900
  have:(2:Nat) ^ 20<=2 ^ 1900:=cn (by decide) (by decide)
  omega
 have h2:=Yp h
 have h3:("a":Str).length=1:=by decide
 exact⟨W3 h,Xl (by omega)⟩
def fr (q:Int×Int):D:=.tup [.int q.1,.int q.2]
theorem yN (q:Int×Int):dh (fr q) (.int 0)=some (.int q.1):=rfl
theorem lS (q:Int×Int):dh (fr q) (.int 1)=some (.int q.2):=rfl
def Fz (n:Nat)(q:Int×Int):Prop:=Sz n q.1/\Sz n q.2
theorem Fz.mono {n m:Nat}{q:Int×Int}(h:Fz n q)(hm:n<=m):Fz m q:=⟨h.1.mono hm,h.2.mono hm⟩
theorem oP {n:Nat}{i w:Int}(h1:-w<=i)(h2:i<=w)(hw:w<2 ^ n):Sz n i:=by
 unfold Sz
 have:(i.natAbs:Int)<2 ^ n:=by omega
 exact_mod_cast this
theorem Lr {x y:Int}(hy:Sz 8000 y):uc [.int x,.int y]=some (.int ((bF x y:Nat):Int)):=by
 obtain⟨s',h1,h2,h3,r,h5⟩:=LG (c:=tb (e2 (iE true) (eV 1) (eC (D.int 0)))) (b:=um) (λs:Int×Int×Option D=>[some (.int s.1),some (.int s.2.1),s.2.2]) (λs=>!decide (s.2.1=0)) (λs=>(s.2.1,s.1.fmod s.2.1,some (.int (s.1.fmod s.2.1)))) (λs=>s.2.1.natAbs) (λs=>bF s.1 s.2.1=bF x y)
  (λs hp=>by walk_at "mir") (λs hp ht=>by
   have hs:s.2.1≠0:=by simpa using ht
   refine⟨.inl ?_,(Fq.gcd_step s.1 s.2.1).trans hp,Fq.fmod_less s.1 hs⟩
   unfold um
   have:=Qq (i:=s.1) hs
   walk_at "mir") jM (x,y,none) rfl (Mt hy (by decide))
 have h3:s'.2.1=0:=by simpa using h3
 have h4:=Fq.gcd_end s'.1
 rw[h3]at h2
 rw[h2]at h4
 clear h5
 unfold uc eA
 walk_at "mir"
theorem B9 {t b:Int}(hb:b≠0)(hz:Sz 8000 b):qp [.int t,.int b]=some (fr (Fq.mk t b)):=by
 have e:=Lr (x:=t) hz
 have hg:=Fq.gcd_pos (t:=t) (b:=b) hb
 have hd:Fq.dv t b≠0:=by unfold Fq.dv; split <;> omega
 have oM:Sz 9000 (Fq.dv t b):=(hz.le (Fq.dv_le hb)).mono (by decide)
 have e1:=Py (i:=t) hd oM
 have e2:=Py (i:=b) hd oM
 unfold qp fr Fq.mk
 by_cases hn:b<0
 ·have hd:Fq.dv t b = -((bF t b:Nat):Int):=by unfold Fq.dv; rw[if_pos hn]
  rw[hd]at e1 e2 ⊢
  walk_at "mir"
 ·have hd:Fq.dv t b=((bF t b:Nat):Int):=by unfold Fq.dv; rw[if_neg hn]
  rw[hd]at e1 e2 ⊢
  walk_at "mir"
theorem GW {n:Nat}{t b:Int}(hb:b≠0)(ht:Sz n t)(hz:Sz n b):Fz n (Fq.mk t b):=⟨ht.le (Fq.mk_le_one hb),hz.le (Fq.mk_le_two hb)⟩
def kc (S G:Nat->Nat):Nat->List Nat->Nat->Prop
 |a,[],b=>a=b
 |a,n::l,b=>S n=a/\kc S G (G n) l b
theorem kc.app {S G:Nat->Nat}{b c:Nat}{m:List Nat}(h2:kc S G b m c):∀{a:Nat} {l:List Nat},kc S G a l b->kc S G a (l++m) c
 |a,[],h=>by
  have h:a=b:=h
  rw[h]; exact h2
 |a,n::l,h=>⟨h.1,kc.app h2 h.2⟩
theorem kc.one (S G:Nat->Nat)(n:Nat):kc S G (S n) [n] (G n):=⟨rfl,rfl⟩
structure M7 (ts:List Nat)(S G:Nat->Nat)(going:Nat)(re:List Nat)(ch:Nat->Option Nat)(done:Nat):Prop where
 nd:re.Nodup
 hd:going∈re
 le:done<=re.length
 way:∀x∈re,x≠going->∃n,ch x=some n/\n∈ts/\G n=x/\∃j,re[j]?=some x/\S n∈re.take j
 cl:∀i,i<done->∀x,re[i]?=some x->∀n∈ts,S n=x->G n≠going/\G n∈re
section
variable {ts:List Nat}{S G:Nat->Nat}{going:Nat}{re:List Nat}{ch:Nat->Option Nat}{done:Nat}
theorem M7.start:M7 ts S G going [going] (λ_=>none) 0 :=
 ⟨by simp,by simp,bW _,λx hx h=>absurd (ar.mp hx) h,λi hi=>absurd hi (by omega)⟩
end
theorem LM {g:D->L3.Env->Option L3.Env}{b:SF}{n:Nat}(I:Nat->L3.Env->Prop)(R:D->Prop)(st:∀i ρ,i<n->I i ρ->∃ρ1,g (.int (i:Int)) ρ=some ρ1/\((∃ρ2,b ρ1=some (.nx ρ2)/\I (i+1) ρ2)\/∃w,b ρ1=some (.rt w)/\R w)) :
  ∀(m k:Nat) (ρ:L3.Env),k+m=n->I k ρ->(∃ρ',eI g b ((fM k m).map λ(i:Nat)=>D.int (i:Int)) ρ=some (.nx ρ')/\I n ρ')\/∃w,eI g b ((fM k m).map λ(i:Nat)=>D.int (i:Int)) ρ=some (.rt w)/\R w
 |0,k,ρ,hk,hI=>by
  have:k=n:=by omega
  subst this
  exact .inl ⟨ρ,rfl,hI⟩
 |m+1,k,ρ,hk,hI=>by
  obtain⟨ρ1,h1,h2⟩:=st k ρ (by omega) hI
  have BW:eI g b ((fM k (m+1)).map λ(i:Nat)=>D.int (i:Int)) ρ=(g (.int (k:Int)) ρ).bind λρ1=>(b ρ1).bind λo=>match o with
    |.nx ρ'=>eI g b ((fM (k+1) m).map λ(i:Nat)=>D.int (i:Int)) ρ'
    |.ct ρ'=>eI g b ((fM (k+1) m).map λ(i:Nat)=>D.int (i:Int)) ρ'
    |.bk ρ'=>some (.nx ρ')
    |.rt d=>some (.rt d):=rfl
  rw[BW,h1,bL]
  rcases h2 with⟨ρ2,h2,h3⟩|⟨w,h2,h3⟩
  ·rw[h2]
   exact LM I R st m (k+1) ρ2 (by omega) h3
  ·rw[h2]
   exact .inr ⟨w,rfl,h3⟩
def aN (as:List bz)(n:Nat):bz:=(as[n]?).getD ⟨.wait,0,0,0,0⟩
theorem Ck {as:List bz}{n:Nat}(h:n<as.length):as[n]?=some (aN as n):=by
 unfold aN
 rw[aU h]
 rfl
theorem ZZ {as:List bz}{i:Int}(h0:0<=i)(h1:i<(as.length:Int)):dh (.lst (as.map bu)) (.int i)=some (bu (aN as i.toNat)):=by
 obtain⟨n,rfl⟩:∃n:Nat,i=(n:Int):=⟨i.toNat,by omega⟩
 rw[i7]
 exact q0 (by rw[aP,Ck (by omega)]; rfl)
theorem MW {ns:List D}{as:List bz}{is:List Int}{fld:Str}{f:bz->Int}{q:EF}(hq:q=cX (lsD (eV 1)) 1 [0] (gV 0) dU (e1 (bP [0,1,2,3] fld) (e2 dh (e1 (bP [4] "arrows") (eV 1)) (eV 0))))(hf:∀a,bP [0,1,2,3] fld (bu a)=some (.int (f a)))(hl:is.length<=1000)(hr:∀i∈is,0<=i/\i<(as.length:Int))(r:L3.Env)(h0:r[0]?.join=some (bg ns as))(h1:r[1]?.join=some (.lst (is.map .int))) :
  q r=some (.lst ((is.map λi=>f (aN as i.toNat)).map .int)):=by
 rw[hq,br]
 refine v6 D.int (λi=>D.int (f (aN as i.toNat))) is (by unfold lsD; have:eV 1 r=_:=h1; rw[this]; rfl) (by omega) λi hi=>⟨_,rfl,?_⟩
 have fu:dm r [0]=[some (bg ns as)]:=by unfold dm; simp[h0]
 rw[fu]
 have i1:=ZZ (hr i hi).1 (hr i hi).2
 have f1:=hf (aN as i.toNat)
 have f4:=Gb ns as
 generalize f (aN as i.toNat)=v at *
 generalize bu (aN as i.toNat)=ea at *
 generalize as.map bu=al at *
 generalize bg ns as=net at *
 clear fu h0 h1 hr hi hl hf hq
 walk_at "mir"
theorem MX (xs:List Int):pR [.lst (xs.map .int)]=some (.int xs.sum):=by
 show(dW (xs.map .int)).bind _=_
 rw[LS]
 rfl
theorem Zf {g:D->L3.Env->Option L3.Env}{b:SF}{d:D}{ds:List D}{ρ ρ1 ρ2:L3.Env}(h1:g d ρ=some ρ1)(h2:b ρ1=some (.nx ρ2)):eI g b (d::ds) ρ=eI g b ds ρ2:=by
 show(g d ρ).bind _=_
 rw[h1]
 show(b ρ1).bind _=_
 rw[h2]
 rfl
def tI (as:List bz)(i:Int):Int:=(aN as i.toNat).t
def bI (as:List bz)(i:Int):Int:=((aN as i.toNat).b:Int)
theorem Q3 {f:Int->Int}{m:Int}(hm:0<=m):∀is:List Int,(∀i∈is,0<=f i/\f i<=m)->0<=(is.map f).sum/\(is.map f).sum<=m * (is.length:Int)
 |[],_=>by simp
 |i::is,h=>by
  obtain⟨h1,h2⟩:=Q3 hm is λj hj=>h j (ai _ hj)
  obtain⟨h3,h4⟩:=h i aa
  rw[aC,bj,aJ]
  refine⟨by omega,?_⟩
  rw[show((is.length+1:Nat):Int)=(is.length:Int)+1 by omega,nk,jS]
  omega
theorem Z0 {ns:List D}{as:List bz}{is:List Int}(hl:is.length<=1000)(hb:∀a∈as,a.b<=4)(hr:∀i∈is,0<=i/\i<(as.length:Int))(h0:(is.map (bI as)).sum≠0):sV [bg ns as,.lst (is.map .int)]=some (fr (Fq.mk (is.map (tI as)).sum (is.map (bI as)).sum)):=by
 have k1:=MW (ns:=ns) (as:=as) (is:=is) (fld:="time") (f:=λa=>a.t) (q:=Mg) rfl ft hl hr [some (bg ns as),some (.lst (is.map .int)),none,none] rfl rfl
 have k2:=MW (ns:=ns) (as:=as) (is:=is) (fld:="behind") (f:=λa=>(a.b:Int)) (q:=Mf) rfl fb hl hr [some (bg ns as),some (.lst (is.map .int)),some (.int (is.map (tI as)).sum),none] rfl rfl
 have s1:=MX (is.map (tI as))
 have s2:=MX (is.map (bI as))
 have bd:=Q3 (f:=bI as) (m:=4) (by decide) is λi hi=>by
  have:=hb (aN as i.toNat) (bD.mpr ⟨i.toNat,Ck (by have:=hr i hi; omega)⟩)
  unfold bI
  omega
 have ra:=B9 (t:=(is.map (tI as)).sum) h0 (oP (w:=4000) (by omega) (by omega) (by decide))
 replace k1:Mg _=some (.lst ((is.map (tI as)).map .int)):=k1
 replace k2:Mf _=some (.lst ((is.map (bI as)).map .int)):=k2
 generalize fr (Fq.mk (is.map (tI as)).sum (is.map (bI as)).sum)=F at *
 generalize (is.map (tI as)).map D.int=tl at *
 generalize (is.map (bI as)).map D.int=bl at *
 generalize (is.map (tI as)).sum=T at *
 generalize (is.map (bI as)).sum=Bh at *
 generalize bg ns as=net at *
 generalize is.map D.int=il at *
 unfold sV
 clear bd hl hb hr h0
 walk_at "mir"
structure di (d:D)(ch:Nat->Option Nat)(m:Nat):Prop where
 is:∃ks ds,d=.dK ks ds/\ks.length=ds.length/\ks.length<=m/\∀x:Nat,gK ks ds (.inl (x:Int))=(ch x).map λ(n:Nat)=>D.int (n:Int)
theorem di.get {d:D}{ch:Nat->Option Nat}{m:Nat}(h:di d ch m){x n:Nat}(e:ch x=some n):(fP d (.int (x:Int))).join=some (.int (n:Int)):=by
 obtain⟨ks,ds,rfl,_,_,h3⟩:=h.is
 show gK ks ds (.inl (x:Int))=_
 rw[h3,e]
 rfl
theorem di.put {d:D}{ch:Nat->Option Nat}{m:Nat}(h:di d ch m)(hm:m<16777216)(x n:Nat):∃d',(∀(ρ:L3.Env) (i:Nat) (fj f:EF),f ρ=some (.int (n:Int))->eV i ρ=some d->fj ρ=some (.int (x:Int))->iJ i fj f ρ=some (.nx (ρ.set i (some d'))))/\di d' (λy=>if y=x then some n else ch y) (m+1):=by
 obtain⟨ks,ds,rfl,h1,h2,h3⟩:=h.is
 refine⟨.dK (d9 ks ds (.inl (x:Int)) (.int (n:Int))).1 (d9 ks ds (.inl (x:Int)) (.int (n:Int))).2,λρ i fj f e1 e2 e3=>?_,⟨_,_,rfl,(QA h1 _ _).1,by have:=(QA h1 (.inl (x:Int)) (.int (n:Int))).2; omega,λy=>?_⟩⟩
 ·unfold iJ
  rw[e1]
  show(eV i ρ).bind _=_
  rw[e2]
  show(fj ρ).bind _=_
  rw[e3]
  show(if ks.length<16777216 then some (Out.nx (ρ.set i (some (.dK (d9 ks ds (.inl (x:Int)) (.int (n:Int))).1 (d9 ks ds (.inl (x:Int)) (.int (n:Int))).2))))else none)=_
  rw[if_pos (by omega)]
 ·rw[XY h1]
  by_cases e:y=x
  ·subst e
   rw[if_pos rfl,if_pos rfl]
   rfl
  ·rw[if_neg (λz=>e (by have:=Sum.inl.inj z; omega)),if_neg e]
   exact h3 y
theorem Pq {c:BF}{b:SF}(I:L3.Env->Prop)(μ:L3.Env->Nat)(R:D->Prop)(st:∀ρ,I ρ->∃t,c ρ=some t/\(t=true->(∃ρ',b ρ=some (.nx ρ')/\I ρ'/\μ ρ' < μ ρ)\/∃d,b ρ=some (.rt d)/\R d)) :
  ∀(n:Nat) (ρ:L3.Env),I ρ->μ ρ<n->(∃ρ',fJ c b n ρ=some (.nx ρ')/\I ρ'/\c ρ'=some false)\/∃d,fJ c b n ρ=some (.rt d)/\R d
 |0,_,_,h=>absurd h (by omega)
 |n+1,ρ,hI,h=>by
  obtain⟨t,h1,h2⟩:=st ρ hI
  cases t with
  |false=>exact .inl ⟨ρ,by show(c ρ).bind _=_; rw[h1]; rfl,hI,h1⟩
  |true =>
   rcases h2 rfl with⟨ρ',h3,h4,h5⟩|⟨d,h3,h4⟩
   ·rcases Pq I μ R st n ρ' h4 (by omega)with⟨ρ2,h6,h7,h8⟩|⟨d,h6,h7⟩
    ·refine .inl ⟨ρ2,?_,h7,h8⟩
     show(c ρ).bind _=_
     rw[h1]
     show(b ρ).bind _=_
     rw[h3]; exact h6
    ·refine .inr ⟨d,?_,h7⟩
     show(c ρ).bind _=_
     rw[h1]
     show(b ρ).bind _=_
     rw[h3]; exact h6
   ·refine .inr ⟨d,?_,h4⟩
    show(c ρ).bind _=_
    rw[h1]
    show(b ρ).bind _=_
    rw[h3]; rfl
theorem Zg {p q:Int×Int}(h1:Fz 9000 p)(h2:Fz 9000 q):B8 [fr p,fr q]=some (.bl (Fq.under p q)):=by
 have e1:=B6 h1.1 h2.2 (by decide) (by decide)
 have e2:=B6 h2.1 h1.2 (by decide) (by decide)
 unfold B8
 have f0:=yN
 have f1:=lS
 walk_at "mir"
 rfl
theorem QC {n:Nat}{x y:Int×Int}(lx:Fq.Low x)(ly:Fq.Low y)(hx:Fz n x)(hy:Fz n y):Fz (n+n+1) (Fq.plus x y) :=
 GW (lx.mul_ne ly) (Sz.add (hx.1.mul hy.2) (hy.1.mul hx.2)) ((hx.2.mul hy.2).mono (by omega))
theorem Ps {n m:Nat}{x:Int×Int}{k:Int}(lx:Fq.Low x)(hx:Fz n x)(hk:Sz m k):Fz (n+m) (Fq.scaled x k):=GW lx.ne (hx.1.mul hk) (hx.2.mono (pY _ _))
theorem Q4 {n:Nat}{p q:Int×Int}(hn:n<=2000)(lp:Fq.Low p)(lq:Fq.Low q)(h1:Fz n p)(h2:Fz n q):Ea [fr p,fr q]=some (fr (Fq.plus p q)):=by
 have e1:=B6 h1.1 h2.2 (by omega) (by omega)
 have e2:=B6 h2.1 h1.2 (by omega) (by omega)
 have e3:=B6 h1.2 h2.2 (by omega) (by omega)
 have r:=B9 (t:=p.1 * q.2+q.1 * p.2) (lp.mul_ne lq) ((h1.2.mul h2.2).mono (by omega))
 have f0:=yN
 have f1:=lS
 unfold Ea Fq.plus
 clear h1 h2 lp lq hn
 generalize fr (Fq.mk (p.1 * q.2+q.1 * p.2) (p.2 * q.2))=rr at *
 walk_at "mir"
theorem X0 {n m:Nat}{p:Int×Int}{k:Int}(hn:n<=2000)(hm:m<=2000)(lp:Fq.Low p)(h1:Fz n p)(hk:Sz m k):Gj [fr p,.int k]=some (fr (Fq.scaled p k)):=by
 have e1:=B6 h1.1 hk (by omega) (by omega)
 have r:=B9 (t:=p.1 * k) lp.ne (h1.2.mono (by omega))
 have f0:=yN
 have f1:=lS
 unfold Gj Fq.scaled
 clear h1 hk lp hn hm
 generalize fr (Fq.mk (p.1 * k) p.2)=rr at *
 walk_at "mir"
theorem MY:Sz 1 (-1):=by unfold Sz; decide
theorem Zh {n:Nat}{p q:Int×Int}(hn:n<=1000)(lp:Fq.Low p)(lq:Fq.Low q)(h1:Fz n p)(h2:Fz n q):B7 [fr p,fr q]=some (fr (Fq.minus p q)):=by
 have e1:=X0 (by omega) (by decide) lq h2 MY
 have e2:=Q4 (n:=n+1) (by omega) lp (Fq.scaled_low lq (-1)) (h1.mono (by omega)) (Ps lq h2 MY)
 unfold B7 Fq.minus
 clear h1 h2 lp lq hn
 generalize fr (Fq.plus p (Fq.scaled q (-1)))=rr at *
 generalize fr (Fq.scaled q (-1))=sq at *
 walk_at "mir"
theorem X1 {n:Nat}{x y:Int×Int}(lx:Fq.Low x)(ly:Fq.Low y)(hx:Fz n x)(hy:Fz n y):Fz (n+1+(n+1)+1) (Fq.minus x y) :=
 QC lx (Fq.scaled_low ly (-1)) (hx.mono (by omega)) (Ps ly hy MY)
theorem Zi (t:Int):Fq.Low (t,1):=⟨dO 1,by show bF t 1=1; simp⟩
theorem di.has {d:D}{ch:Nat->Option Nat}{m:Nat}(h:di d ch m)(x:Nat):fP d (.int (x:Int))=some ((ch x).map λ(n:Nat)=>D.int (n:Int)):=by
 obtain⟨ks,ds,rfl,_,_,h3⟩:=h.is
 show some (gK ks ds (.inl (x:Int)))=_
 rw[h3]
def cJ (as:List bz)(p:Int×Int)(n:Nat):Int:=(aN as n).t * p.2-((aN as n).b:Int) * p.1
def aS (as:List bz)(n:Nat):Nat:=(aN as n).s
def aG (as:List bz)(n:Nat):Nat:=(aN as n).g
structure Co (many:Nat)(a:bz):Prop where
 s:a.s<many
 g:a.g<many
 t0:0<=a.t
 t1:a.t<=1000000000
 b:a.b<=4
theorem uu {as:List bz}{n:Nat}(hn:n<as.length):aN as n∈as:=bD.mpr ⟨n,Ck hn⟩
def iu (T:Nat->Int)(x:Nat)(v:Int):Nat->Int:=λy=>if y=x then v else T y
def Lx (T:Nat->Option Nat)(x v:Nat):Nat->Option Nat:=λy=>if y=x then some v else T y
def iZ (T:Nat->Nat)(x v:Nat):Nat->Nat:=λy=>if y=x then v else T y
structure kK (nums:List Nat)(S G:Nat->Nat)(c:Nat->Int)(r:Nat)(dn:List Nat)(T:Nat->Int)(ch:Nat->Option Nat)(lr ts:Nat->Nat)(k:Nat):Prop where
 le:∀x,lr x<=r
 st:∀x,ts x<k
 ch:∀x,0<lr x->∃n,ch x=some n/\n∈nums/\G n=x/\lr x<=lr (S n)+1/\T x<=T (S n)+c n/\(T x<T (S n)+c n\/ts (S n)<ts x)
 old:∀n∈nums,lr (S n)+1<r->T (S n)+c n<=T (G n)
 dn:∀n∈dn,lr (S n)<r->T (S n)+c n<=T (G n)
 pos:∀x,0<=T x
section
variable {nums:List Nat}{S G:Nat->Nat}{c:Nat->Int}{r:Nat}{dn:List Nat}{T:Nat->Int}{ch:Nat->Option Nat}{lr ts:Nat->Nat}{k:Nat}
theorem kK.start:kK nums S G c 1 [] (λ_=>0) (λ_=>none) (λ_=>0) (λ_=>0) 1 where
 le:=λ_=>bW _
 st:=λ_=>Nat.zero_lt_one
 ch:=λ_ h=>absurd h (cW 0)
 old:=λ_ _ h=>absurd h (by omega)
 dn:=λ_ h=>by cases h
 pos:=λ_=>dO 0
theorem kK.next (h:kK nums S G c r nums T ch lr ts k):kK nums S G c (r+1) [] T ch lr ts k where
 le:=λx=>Nat.le_succ_of_le (h.le x)
 st:=h.st
 ch:=h.ch
 old:=λn hn h1=>h.dn n hn (by omega)
 dn:=λ_ h=>by cases h
 pos:=h.pos
theorem kK.stay (h:kK nums S G c r dn T ch lr ts k){n:Nat}(hn:T (S n)+c n<=T (G n)):kK nums S G c r (dn++[n]) T ch lr ts k where
 le:=h.le
 st:=h.st
 ch:=h.ch
 old:=h.old
 dn:=λm hm h1=>by
  rcases aM.mp hm with hm|hm
  ·exact h.dn m hm h1
  ·rw[ar.mp hm]; exact hn
 pos:=h.pos
theorem kK.push (h:kK nums S G c r dn T ch lr ts k){n:Nat}(hn:n∈nums)(hp:T (G n)<T (S n)+c n) :
  kK nums S G c r (dn++[n]) (iu T (G n) (T (S n)+c n)) (Lx ch (G n) n) (iZ lr (G n) r) (iZ ts (G n) k) (k+1) where
 le:=λx=>by
  unfold iZ
  split
  ·exact aE _
  ·exact h.le x
 st:=λx=>by
  unfold iZ
  have:=h.st x
  split <;> omega
 ch:=λx hx=>by
  have up:∀y,T y<=iu T (G n) (T (S n)+c n) y:=λy=>by
   unfold iu
   split
   ·rename_i e; rw[e]; omega
   ·exact dO _
  have ul:∀y,lr y<=iZ lr (G n) r y:=λy=>by
   unfold iZ
   split
   ·exact h.le y
   ·exact aE _
  by_cases e:x=G n
  ·subst e
   refine⟨n,by simp[Lx],hn,rfl,?_,?_,?_⟩
   ·have h1:¬lr (S n)+1<r:=λz=>by have:=h.old n hn z; omega
    have h2:=ul (S n)
    have h3:iZ lr (G n) r (G n)=r:=by simp[iZ]
    omega
   ·have h2:=up (S n)
    have h3:iu T (G n) (T (S n)+c n) (G n)=T (S n)+c n:=by simp[iu]
    omega
   ·have h3:iu T (G n) (T (S n)+c n) (G n)=T (S n)+c n:=by simp[iu]
    by_cases e2:S n=G n
    ·left
     rw[e2]at hp h3 ⊢
     omega
    ·right
     have h4:iZ ts (G n) k (G n)=k:=by simp[iZ]
     have h5:iZ ts (G n) k (S n)=ts (S n):=by simp[iZ,e2]
     have:=h.st (S n)
     omega
  ·have tP:iZ lr (G n) r x=lr x:=by simp[iZ,e]
   have ht:iu T (G n) (T (S n)+c n) x=T x:=by simp[iu,e]
   rw[tP]at hx
   obtain⟨m,h1,h2,h3,h4,h5,h6⟩:=h.ch x hx
   refine⟨m,by simp[Lx,e,h1],h2,h3,?_,?_,?_⟩
   ·have:=ul (S m); omega
   ·have:=up (S m); omega
   ·by_cases e2:S m=G n
    ·left
     have h7:iu T (G n) (T (S n)+c n) (S m)=T (S n)+c n:=by simp[iu,e2]
     rw[e2]at h5
     omega
    ·have h7:iu T (G n) (T (S n)+c n) (S m)=T (S m):=by simp[iu,e2]
     have h8:iZ ts (G n) k (S m)=ts (S m):=by simp[iZ,e2]
     have h9:iZ ts (G n) k x=ts x:=by simp[iZ,e]
     rw[h7,h8,h9,ht]
     exact h6
 old:=λm hm h1=>by
  have e2:S m≠G n:=λe=>by
   have:iZ lr (G n) r (S m)=r:=by simp[iZ,e]
   omega
  have h7:iu T (G n) (T (S n)+c n) (S m)=T (S m):=by simp[iu,e2]
  have h8:iZ lr (G n) r (S m)=lr (S m):=by simp[iZ,e2]
  rw[h8]at h1
  have h9:=h.old m hm h1
  have:T (G m)<=iu T (G n) (T (S n)+c n) (G m):=by
   unfold iu
   split
   ·rename_i e; rw[e]; omega
   ·exact dO _
  omega
 dn:=λm hm h1=>by
  have e2:S m≠G n:=λe=>by
   have:iZ lr (G n) r (S m)=r:=by simp[iZ,e]
   omega
  have h7:iu T (G n) (T (S n)+c n) (S m)=T (S m):=by simp[iu,e2]
  have h8:iZ lr (G n) r (S m)=lr (S m):=by simp[iZ,e2]
  rw[h8]at h1
  rcases aM.mp hm with hm|hm
  ·have h9:=h.dn m hm h1
   have:T (G m)<=iu T (G n) (T (S n)+c n) (G m):=by
    unfold iu
    split
    ·rename_i e; rw[e]; omega
    ·exact dO _
   omega
  ·have hm:=ar.mp hm
   subst hm
   have h3:iu T (G m) (T (S m)+c m) (G m)=T (S m)+c m:=by simp[iu]
   omega
 pos:=λx=>by
  unfold iu
  split
  ·have:=h.pos (G n); omega
  ·exact h.pos x
theorem kK.cost {Q:Nat->Prop}(h:∀n,Q n->T (G n)<=T (S n)+c n/\(T (G n)<T (S n)+c n\/ts (S n)<ts (G n))):∀{w:List Nat} {a b:Nat},kc S G a w b->(∀n∈w,Q n)->T b<=T a+(w.map c).sum/\(w=[]\/T b<T a+(w.map c).sum\/ts a<ts b)
 |[],a,b,hw,_=>by
  have hw:a=b:=hw
  subst hw
  simp
 |n::w,a,b,hw,hq=>by
  obtain⟨h1,h2⟩:=hw
  obtain⟨i1,i2⟩:=kK.cost h h2 λm hm=>hq m (ai _ hm)
  obtain⟨j1,j2⟩:=h n (hq n aa)
  rw[aC,bj]
  rw[← h1]
  refine⟨by omega,.inr ?_⟩
  rcases i2 with i2|i2|i2
  ·subst i2
   have h2:G n=b:=h2
   subst h2
   simp at i1 ⊢
   rcases j2 with j2|j2
   ·left; omega
   ·right; exact j2
  ·left; omega
  ·rcases j2 with j2|j2
   ·left; omega
   ·right; omega
end
def nu (S G:Nat->Nat):Nat->List Nat->Nat->Prop
 |a,[],b=>a=b
 |a,n::l,b=>G n=a/\nu S G (S n) l b
theorem nu.snoc {S G:Nat->Nat}{n:Nat}:∀{w:List Nat} {a b:Nat},nu S G a w b->G n=b->nu S G a (w++[n]) (S n)
 |[],a,b,h,e=>by
  have h:a=b:=h
  exact⟨by rw[e,h],rfl⟩
 |m::w,a,b,h,e=>⟨h.1,nu.snoc h.2 e⟩
theorem nu.wlk {S G:Nat->Nat}:∀{w:List Nat} {a b:Nat},nu S G a w b->kc S G b w.reverse a
 |[],a,b,h=>by
  have h:a=b:=h
  exact h.symm
 |n::w,a,b,h=>by
  rw[ek]
  exact kc.app (h.1 ▸ kc.one S G n) (nu.wlk h.2)
theorem nu.drop {S G:Nat->Nat}:∀{w:List Nat} {a b:Nat} {j n:Nat},nu S G a w b->w[j]?=some n->nu S G (G n) (w.drop j) b
 |[],a,b,j,n,h,e=>by simp at e
 |m::w,a,b,0,n,h,e=>by
  have e:m=n:=by simpa using e
  subst e
  exact⟨rfl,h.2⟩
 |m::w,a,b,j+1,n,h,e=>by
  rw[List.drop_succ_cons]
  exact nu.drop h.2 (by simpa using e)
structure Wk (ch:Nat->Option Nat)(S G:Nat->Nat)(lr:Nat->Nat)(v here:Nat)(ws:List Nat):Prop where
 ch:∀n∈ws,ch (G n)=some n/\0<lr (G n)
 way:nu S G v ws here
 nd:(ws.map G).Nodup
 lr:lr v<=lr here+ws.length
def Pu (many:Nat)(lr:Nat->Nat)(r:Nat)(pu:D):Prop:=(pu=.non/\∀x,lr x<r)\/∃v:Nat,pu=.int (v:Int)/\v<many/\lr v=r
theorem MA {many:Nat}{as:List bz}{ns:List D}{p:Int×Int}{nums:List Nat}{r:Nat}{M:Int}(jP:∀a∈as,Co many a)(hM:∀n,n<as.length->cJ as p n<=M)(lz:0<=M)(hr:0<r)(hn:∀n∈nums,n<as.length){e2:Option D} :
  ∀(post pre:List Nat) (T:Nat->Int) (d:D) (ch:Nat->Option Nat) (lr ts:Nat->Nat) (k m:Nat) (C:Int) (pu:D) (y6 y7 y8:Option D),nums=pre++post->kK nums (aS as) (aG as) (cJ as p) r pre T ch lr ts k->di d ch m->m+post.length<=1000000->(∀x,T x<=C)->Pu many lr r pu ->
  ∃(T':Nat->Int) (d':D) (mm:Nat->Option Nat) (oj pS:Nat->Nat) (k':Nat) (nH:D) (z6 z7 z8:Option D),eI (gV 6) xw (nats post) [some (bg ns as),some (fr p),e2,some (.lst (vec many T)),some d,some pu,y6,y7,y8]=some (.nx [some (bg ns as),some (fr p),e2,some (.lst (vec many T')),some d',some nH,z6,z7,z8]) /\
   kK nums (aS as) (aG as) (cJ as p) r nums T' mm oj pS k'/\di d' mm (m+post.length)/\(∀x,T' x<=C+(post.length:Int) * M)/\Pu many oj r nH
 |[],pre,T,d,ch,lr,ts,k,m,C,pu,y6,y7,y8,e,hP,hD,_,hC,hu=>by
  rw[bC]at e
  subst e
  exact⟨T,d,ch,lr,ts,k,pu,y6,y7,y8,rfl,hP,hD,λx=>by have:=hC x; simp; omega,hu⟩
 |n::post,pre,T,d,ch,lr,ts,k,m,C,pu,y6,y7,y8,e,hP,hD,hm,hC,hu=>by
  rw[aJ]at hm
  have Fs:n∈nums:=by rw[e]; simp
  have C0:=hn n Fs
  have ok:=jP _ (uu C0)
  have f4:=Gb ns as
  have i1:dh (.lst (as.map bu)) (.int (n:Int))=some (bu (aN as n)):=q0 (by rw[aP,Ck C0]; rfl)
  have f1:=fs (aN as n)
  have f2:=fg (aN as n)
  have f3:=ft (aN as n)
  have f5:=fb (aN as n)
  have v1:dh (.lst (vec many T)) (.int ((aN as n).s:Int))=some (.int (T (aN as n).s)):=Ed T ok.s
  have v2:dh (.lst (vec many T)) (.int ((aN as n).g:Int))=some (.int (T (aN as n).g)):=Ed T ok.g
  have m1:cE (.int (aN as n).t) (.int p.2)=some (.int ((aN as n).t * p.2)):=zac (by have:=ok.t0; omega) (by have:=ok.t1; omega)
  have m2:cE (.int ((aN as n).b:Int)) (.int p.1)=some (.int (((aN as n).b:Int) * p.1)):=zac (by omega) (by have:=ok.b; omega)
  have e8:T (aN as n).s+(aN as n).t * p.2-((aN as n).b:Int) * p.1=T (aS as n)+cJ as p n:=by unfold cJ aS; omega
  have eg:(aN as n).g=aG as n:=rfl
  have p0:=yN p
  have p1:=lS p
  have BW:eI (gV 6) xw (nats (n::post)) [some (bg ns as),some (fr p),e2,some (.lst (vec many T)),some d,some pu,y6,y7,y8]=(xw [some (bg ns as),some (fr p),e2,some (.lst (vec many T)),some d,some pu,some (.int (n:Int)),y7,y8]).bind λo=>match o with
    |.nx ρ'=>eI (gV 6) xw (nats post) ρ'
    |.ct ρ'=>eI (gV 6) xw (nats post) ρ'
    |.bk ρ'=>some (.nx ρ')
    |.rt d=>some (.rt d):=rfl
  have pe:nums=(pre++[n])++post:=by rw[e]; simp
  by_cases hg:T (aG as n)<T (aS as n)+cJ as p n
  ·obtain⟨d2,put,hd2⟩:=hD.put (by omega) (aG as n) n
   have gt:qA (.int (T (aS as n)+cJ as p n)) (.int (T (aN as n).g))=some (.bl true):=(zgy _ _).trans (by rw[decide_eq_true (by rw[eg]; omega)])
   have ps:setAt (vec many T) ((aN as n).g:Int) (.int (T (aS as n)+cJ as p n))=some (vec many (iu T (aG as n) (T (aS as n)+cJ as p n))):=Qy T ok.g _
   have st:xw [some (bg ns as),some (fr p),e2,some (.lst (vec many T)),some d,some pu,some (.int (n:Int)),y7,y8]=some (.nx [some (bg ns as),some (fr p),e2,some (.lst (vec many (iu T (aG as n) (T (aS as n)+cJ as p n)))),some d2,some (.int ((aG as n:Nat):Int)),some (.int (n:Int)),some (bu (aN as n)),some (.int (T (aS as n)+cJ as p n))]):=by
    have put:=put [some (bg ns as),some (fr p),e2,some (.lst (vec many (iu T (aG as n) (T (aS as n)+cJ as p n)))),some d,some pu,some (.int (n:Int)),some (bu (aN as n)),some (.int (T (aS as n)+cJ as p n))] 4 (e1 (bP [0,1,2,3] "goal") (eV 7)) (eV 6) rfl rfl f2
    have pl:my 3 (e1 (bP [0,1,2,3] "goal") (eV 7)) (eV 8) [some (bg ns as),some (fr p),e2,some (.lst (vec many T)),some d,some pu,some (.int (n:Int)),some (bu (aN as n)),some (.int (T (aS as n)+cJ as p n))]=some (.nx [some (bg ns as),some (fr p),e2,some (.lst (vec many (iu T (aG as n) (T (aS as n)+cJ as p n)))),some d,some pu,some (.int (n:Int)),some (bu (aN as n)),some (.int (T (aS as n)+cJ as p n))]):=by
     unfold my e1 eV
     generalize bu (aN as n)=ea at *
     simp[f2,ps]
    have gY:T (aN as n).g<T (aS as n)+cJ as p n:=hg
    generalize T (aS as n)+cJ as p n=w at *
    generalize vec many (iu T (aG as n) w)=v' at *
    generalize T (aN as n).g=tg at *
    rw[← eg]
    generalize vec many T=v0 at *
    generalize fr p=F at *
    generalize as.map bu=al at *
    generalize bg ns as=net at *
    generalize bu (aN as n)=ea at *
    unfold xw
    generalize my 3 (e1 (bP [0,1,2,3] "goal") (eV 7)) (eV 8)=PL at *
    generalize iJ 4 (e1 (bP [0,1,2,3] "goal") (eV 7)) (eV 6)=PD at *
    clear BW pe hP hD hm hC hu e Fs C0 ok hg hd2 eg jP hM lz hn ps
    walk_at "mir"
   obtain⟨T',d',mm,oj,pS,k',nH,z6,z7,z8,h1,h2,h3,h4,h5⟩:=MA (ns:=ns) jP hM lz hr hn (e2:=e2) post (pre++[n]) _ d2 _ _ _ _ (m+1) (C+M) (.int ((aG as n:Nat):Int)) (some (.int (n:Int))) (some (bu (aN as n))) (some (.int (T (aS as n)+cJ as p n))) pe (hP.push Fs hg) hd2 (by omega) (λx=>by
     unfold iu
     have h1:=hC x
     have h2:=hC (aS as n)
     have h3:=hM n C0
     split <;> omega) (.inr ⟨aG as n,rfl,ok.g,by simp[iZ]⟩)
   refine⟨T',d',mm,oj,pS,k',nH,z6,z7,z8,?_,h2,?_,λx=>?_,h5⟩
   ·rw[BW,st]
    exact h1
   ·rw[aJ,show m+(post.length+1)=m+1+post.length by omega]; exact h3
   ·have:=h4 x
    rw[aJ,show((post.length+1:Nat):Int)=(post.length:Int)+1 by omega,eO,jU]
    omega
  ·have gt:qA (.int (T (aS as n)+cJ as p n)) (.int (T (aN as n).g))=some (.bl false):=(zgy _ _).trans (by rw[decide_eq_false (by rw[eg]; omega)])
   have st:xw [some (bg ns as),some (fr p),e2,some (.lst (vec many T)),some d,some pu,some (.int (n:Int)),y7,y8]=some (.nx [some (bg ns as),some (fr p),e2,some (.lst (vec many T)),some d,some pu,some (.int (n:Int)),some (bu (aN as n)),some (.int (T (aS as n)+cJ as p n))]):=by
    have gY:¬T (aN as n).g<T (aS as n)+cJ as p n:=hg
    generalize T (aS as n)+cJ as p n=w at *
    generalize T (aN as n).g=tg at *
    generalize vec many T=v0 at *
    generalize fr p=F at *
    generalize as.map bu=al at *
    generalize bg ns as=net at *
    generalize bu (aN as n)=ea at *
    unfold xw
    clear BW pe hP hD hm hC hu e Fs C0 ok hg eg jP hM lz hn
    walk_at "mir"
   obtain⟨T',d',mm,oj,pS,k',nH,z6,z7,z8,h1,h2,h3,h4,h5⟩:=MA (ns:=ns) jP hM lz hr hn (e2:=e2) post (pre++[n]) T d ch lr ts k m C pu (some (.int (n:Int))) (some (bu (aN as n))) (some (.int (T (aS as n)+cJ as p n))) pe (hP.stay (by omega)) hD (by omega) hC hu
   refine⟨T',d',mm,oj,pS,k',nH,z6,z7,z8,?_,h2,?_,λx=>?_,h5⟩
   ·rw[BW,st]
    exact h1
   ·obtain⟨ks,ds,q1,q2,q3,q4⟩:=h3.is
    exact⟨ks,ds,q1,q2,by rw[aJ]; omega,q4⟩
   ·have:=h4 x
    rw[aJ,show((post.length+1:Nat):Int)=(post.length:Int)+1 by omega,eO,jU]
    omega
theorem Z1 {many:Nat}{as:List bz}{ns:List D}{p:Int×Int}{nums:List Nat}{r:Nat}{M:Int}(jP:∀a∈as,Co many a)(hM:∀n,n<as.length->cJ as p n<=M)(lz:0<=M)(hr:0<r)(hn:∀n∈nums,n<as.length){T:Nat->Int}{d:D}{ch:Nat->Option Nat}{lr ts:Nat->Nat}{k m:Nat}{C:Int}(hP:kK nums (aS as) (aG as) (cJ as p) r [] T ch lr ts k)(hD:di d ch m)(hm:m+nums.length<=1000000)(hC:∀x,T x<=C)(hl:∀x,lr x<r) :
  ∃(T':Nat->Int) (d':D) (mm:Nat->Option Nat) (oj pS:Nat->Nat) (k':Nat) (nH:D),vq [bg ns as,fr p,.lst (nats nums),.lst (vec many T),d]=some (.tup [nH,.lst (vec many T'),d']) /\
   kK nums (aS as) (aG as) (cJ as p) r nums T' mm oj pS k'/\di d' mm (m+nums.length)/\(∀x,T' x<=C+(nums.length:Int) * M)/\Pu many oj r nH:=by
 obtain⟨T',d',mm,oj,pS,k',nH,z6,z7,z8,h1,h2,h3,h4,h5⟩:=MA (ns:=ns) jP hM lz hr hn (e2:=some (.lst (nats nums))) nums [] T d ch lr ts k m C .non none none none rfl hP hD hm hC (.inl ⟨rfl,hl⟩)
 refine⟨T',d',mm,oj,pS,k',nH,?_,h2,h3,h4,h5⟩
 unfold vq Az sA AA
 generalize vec many T=v0 at *
 generalize vec many T'=v1 at *
 generalize fr p=F at *
 generalize bg ns as=net at *
 generalize nats nums=nl at *
 clear hP hD hm hC hl jP hM lz hn h2 h3 h4 h5
 walk_at "mir"
theorem di.congr {d:D}{ch mm:Nat->Option Nat}{m:Nat}(h:di d ch m)(e:∀x,ch x=mm x):di d mm m:=by
 have:ch=mm:=funext e
 rw[← this]; exact h
theorem di.mono {d:D}{ch:Nat->Option Nat}{m m':Nat}(h:di d ch m)(e:m<=m'):di d ch m':=by
 obtain⟨ks,ds,q1,q2,q3,q4⟩:=h.is
 exact⟨ks,ds,q1,q2,by omega,q4⟩
theorem di.nil:di (.dK [] []) (λ_=>none) 0:=⟨[],[],rfl,rfl,by simp,λ_=>rfl⟩
def pG (us:List Nat)(y:Nat):Option Nat:=if y∈us then some (us.idxOf y)else none
theorem Zj (us:List Nat){x:Nat}(h:x∉us)(y:Nat):(if y=x then some us.length else pG us y)=pG (us++[x]) y:=by
 unfold pG
 by_cases e:y=x
 ·subst e
  rw[if_pos rfl,if_pos (by simp),oC,if_neg h]
  simp
 ·rw[if_neg e]
  by_cases hy:y∈us
  ·rw[if_pos hy,if_pos (by simp[hy]),oC,if_pos hy]
  ·rw[if_neg hy,if_neg (by simp[hy,e])]
def T5 (ρ:L3.Env):Nat:=match ρ[5]?.join with
 |some (D.lst ds)=>1000-ds.length
 |_=>0
def cR:BF:=tb (λρ=>((eV 3) ρ).bind λx=>((eV 4) ρ).bind λy=>(fP y x).bind λr=>some (.bl (!r.isSome)))
theorem zt3 {as:List bz}{many m v:Nat}{d:D}{ch:Nat->Option Nat}{lr:Nat->Nat}(hD:di d ch m)(iF:∀x,0<lr x->∃n,ch x=some n/\n<as.length/\aG as n=x/\lr x<=lr (aS as n)+1)(jP:∀a∈as,Co many a)(hv:v<many)(NJ:many<=lr v)(hm:many<=900) :
  ∃(R:List Nat) (x:Nat),ub [.lst (as.map bu),d,.int (v:Int)]=some (.lst (nats R))/\R≠[]/\kc (aS as) (aG as) x R x/\(R.map (aG as)).Nodup/\∀n∈R,ch (aG as n)=some n/\0<lr (aG as n):=by
 have p6:∀(here:Nat) (us:List Nat) (d2:D) (k:Nat) (y0 y1 y2 y5:Option D),di d2 (pG us) k->cR [y0,y1,y2,some (.int (here:Int)),some d2,y5]=some (!decide (here∈us)):=by
  intro here us d2 k y0 y1 y2 y5 h
  have g1:=h.has here
  have p7:((pG us here).map λ(n:Nat)=>D.int (n:Int)).isSome=decide (here∈us):=by
   unfold pG
   by_cases hh:here∈us
   ·rw[if_pos hh,decide_eq_true hh]; rfl
   ·rw[if_neg hh,decide_eq_false hh]; rfl
  rw[← p7]
  generalize (pG us here).map (λ(n:Nat)=>D.int (n:Int))=o at *
  unfold cR
  clear h p7 iF jP hD
  walk_at "mir"
 have lp:=Pq (c:=cR) (b:=uk)
  (λρ=>∃(ws:List Nat) (here:Nat) (d2:D),ρ=[some (.lst (as.map bu)),some d,some (.int (v:Int)),some (.int (here:Int)),some d2,some (.lst (nats ws))]/\Wk ch (aS as) (aG as) lr v here ws/\here<many/\(∀n∈ws,n<as.length)/\di d2 (pG (ws.map (aG as))) ws.length) T5
  (λ_=>False) (by
   rintro ρ ⟨ws,here,d2,rfl,hw,hh,hn,h2⟩
   have De:ws.length<=many:=by
    rw[← am (f:=aG as)]
    refine Kahn.len_le hw.nd λx hx=>?_
    obtain⟨n,h1,rfl⟩:=aR.mp hx
    exact(jP _ (uu (hn n h1))).g
   refine⟨_,p6 here _ d2 _ _ _ _ _ h2,λht=>.inl ?_⟩
   have oe:here∉ws.map (aG as):=by simpa using ht
   have Du:(ws.map (aG as)++[here]).Nodup:=aY.mpr ⟨hw.nd,by simp,λa ha b hb e=>oe (by rw[← ar.mp hb,← e]; exact ha)⟩
   have si:=Kahn.len_le (many:=many) Du λx hx=>by
    rcases aM.mp hx with hx|hx
    ·obtain⟨n,h1,rfl⟩:=aR.mp hx
     exact(jP _ (uu (hn n h1))).g
    ·rw[ar.mp hx]; exact hh
   rw[aI,am,bQ]at si
   have hl:=hw.lr
   obtain⟨n,c1,c2,c3,c4⟩:=iF here (by omega)
   obtain⟨d3,put,ND⟩:=h2.put (by omega) here ws.length
   have put:=put [some (.lst (as.map bu)),some d,some (.int (v:Int)),some (.int (here:Int)),some d2,some (.lst (nats ws))] 4 (eV 3) (eN dg (aCons (eV 5) aNil)) (by
    show dg [.lst (nats ws)]=_
    rw[za9]; unfold nats; rw[am]) rfl rfl
   have g1:=hD.get c1
   have f1:=fs (aN as n)
   have i1:dh (.lst (as.map bu)) (.int (n:Int))=some (bu (aN as n)):=q0 (by rw[aP,Ck c2]; rfl)
   refine⟨[some (.lst (as.map bu)),some d,some (.int (v:Int)),some (.int ((aN as n).s:Int)),some d3,some (.lst (nats (ws++[n])))],?_,⟨ws++[n],(aN as n).s,d3,rfl,⟨λk hk=>?_,hw.way.snoc c3,?_,?_⟩,(jP _ (uu c2)).s,λk hk=>?_,?_⟩,?_⟩
   ·have e3:nats (ws++[n])=nats ws++[.int (n:Int)]:=by unfold nats; rw[eP]; rfl
    have hz:(nats ws).length<16777216:=by unfold nats; rw[am]; omega
    rw[e3]
    generalize as.map bu=al at *
    generalize nats ws=wl at *
    generalize bu (aN as n)=ea at *
    unfold uk
    generalize iJ 4 (eV 3) (eN dg (aCons (eV 5) aNil))=PP at *
    clear e3 ND c1 c2 c3 c4 hl si Du oe ht De h2 hn hh hw p6 hD iF jP hv NJ hm
    walk_at "mir"
   ·rcases aM.mp hk with hk|hk
    ·exact hw.ch k hk
    ·rw[ar.mp hk,c3]; exact⟨c1,by omega⟩
   ·rw[eP,nQ,c3]; exact Du
   ·rw[aI,bQ]
    have:(aN as n).s=aS as n:=rfl
    rw[this]
    omega
   ·rcases aM.mp hk with hk|hk
    ·exact hn k hk
    ·rw[ar.mp hk]; exact c2
   ·rw[aI,bQ,eP,nQ,c3]
    refine ND.congr λy=>?_
    have:=Zj (ws.map (aG as)) oe y
    rw[am]at this
    exact this
   ·show 1000-(nats (ws++[n])).length<1000-(nats ws).length
    unfold nats
    rw[am,am,aI,bQ]
    omega) jM [some (.lst (as.map bu)),some d,some (.int (v:Int)),some (.int (v:Int)),some (.dK [] []),some (.lst (nats []))]
  ⟨[],v,.dK [] [],rfl,⟨λn hn=>(by cases hn),rfl,by simp,by simp⟩,hv,λn hn=>(by cases hn),di.nil.congr λ_=>by simp[pG]⟩ (GA (by show 1000-(nats []).length<1048576; omega))
 have n0:nats []=[]:=rfl
 rw[n0]at lp
 rcases lp with⟨ρ',l1,⟨ws,here,d2,rfl,hw,hh,hn,h2⟩,hc⟩|⟨_,_,f⟩
 ·rw[p6 here _ d2 _ _ _ _ _ h2]at hc
  have Fm:here∈ws.map (aG as):=by simpa using hc
  have hj:pG (ws.map (aG as)) here=some ((ws.map (aG as)).idxOf here):=by unfold pG; rw[if_pos Fm]
  have tH:=List.idxOf_lt_length_iff.mpr Fm
  have CQ:(ws.map (aG as))[(ws.map (aG as)).idxOf here]?=some here:=by
   rw[aU tH,List.getElem_idxOf]
  generalize (ws.map (aG as)).idxOf here=j at *
  rw[am]at tH
  rw[aP,aU tH]at CQ
  replace CQ:aG as ws[j]=here:=by simpa using CQ
  have wlk:nu (aS as) (aG as) here (ws.drop j) here:=by
   have:=hw.way.drop (j:=j) (n:=ws[j]) (aU tH)
   rw[CQ]at this
   exact this
  refine⟨(ws.drop j).reverse,here,?_,?_,wlk.wlk,?_,λn m6=>?_⟩
  ·have gv:=h2.get hj
   have ct:cutD (nats ws) (some (j:Int)) none=nats (ws.drop j):=by
    rw[O3]
    unfold nats
    rw[ik]
   have lv:pH (.lst (nats (ws.drop j)))=some (.lst (nats (ws.drop j).reverse)):=by
    show some (D.lst (nats (ws.drop j)).reverse)=_
    unfold nats
    rw[← jL]
   unfold cR at l1
   generalize nats (ws.drop j).reverse=wr at *
   generalize nats (ws.drop j)=wd at *
   generalize as.map bu=al at *
   generalize nats ws=wl at *
   unfold ub eA
   generalize (tb (λρ=>((eV 3) ρ).bind λx=>((eV 4) ρ).bind λy=>(fP y x).bind λr=>some (.bl (!r.isSome))))=cc at *
   clear wlk CQ tH hj Fm hc h2 hn hh hw p6 hD iF jP hv NJ hm
   walk_at "mir"
  ·intro e
   have:=congrArg mI e
   rw[cv,dP]at this
   simp at this
   omega
  ·rw[jL,ik]
   exact List.pairwise_reverse.mpr ((eJ.sublist (List.drop_sublist _ _) hw.nd).imp λh e=>h e.symm)
  ·exact hw.ch n (mJ (oS.mp m6))
 ·exact f.elim
def nJ (many:Nat)(p:Int×Int)(T:Nat->Int):D:=.lst ((aB many).map λg=>fr (Fq.mk (T g) p.2))
def Nc (many:Nat)(as:List bz)(p:Int×Int)(nums:List Nat)(B:Int)(d:D):Prop :=
 (∃T:Nat->Int,d=.tup [.str "times",nJ many p T]/\(∀n∈nums,T (aS as n)+cJ as p n<=T (aG as n))/\∀x,0<=T x/\T x<=B) \/
 ∃(R:List Nat) (x:Nat),d=.tup [.str "ring",.lst (nats R)]/\R≠[]/\kc (aS as) (aG as) x R x/\(R.map (aG as)).Nodup/\(∀n∈R,n∈nums)/\0<(R.map (cJ as p)).sum
theorem Zk (many:Nat):(ak many [D.int 0]).flatten=vec many λ_=>0:=by
 unfold vec
 rw[jV,aX]
 induction many with
 |zero=>rfl
 |succ n ih=>rw[bJ,cP,ih,bJ]; rfl
theorem X2 {many:Nat}{p:Int×Int}{T:Nat->Int}(hm:many<=1000)(hp:p.2≠0)(oM:Sz 8000 p.2)(r:L3.Env)(h1:r[1]?.join=some (fr p))(h3:r[3]?.join=some (.lst (vec many T))):uo r=some (nJ many p T):=by
 unfold nJ
 refine v6 (λ(g:Nat)=>D.int (T g)) (λg=>fr (Fq.mk (T g) p.2)) (aB many) (by unfold lsD; have:eV 3 r=_:=h3; rw[this]; rfl) (by rw[aX]; omega) λg _=>⟨_,rfl,?_⟩
 have fu:dm r [1]=[some (fr p)]:=by unfold dm; simp[h1]
 rw[fu]
 have p1:=lS p
 have ra:=B9 (t:=T g) hp oM
 generalize fr (Fq.mk (T g) p.2)=F at *
 generalize fr p=fp at *
 clear fu h1 h3 hm oM
 walk_at "mir"
theorem P0 {many:Nat}{as:List bz}{ns:List D}{p:Int×Int}{nums:List Nat}{M:Int}(gB:ns.length=many)(oJ:1<=many)(hm:many<=900)(Iu:nums.length<=1000)(jP:∀a∈as,Co many a)(hp:p.2≠0)(oM:Sz 8000 p.2)(hM:∀n,n<as.length->cJ as p n<=M)(lz:0<=M)(hn:∀n∈nums,n<as.length) :
  ∃d,xj [bg ns as,fr p,.lst (nats nums)]=some d/\Nc many as p nums ((many:Int) * ((nums.length:Int) * M)) d:=by
 have ln:dg [.lst ns]=some (.int (many:Int)):=(za9 _).trans (by rw[gB])
 have HI:=PZ ns as
 have Fh:=Gb ns as
 have BH:0<=(nums.length:Int) * M:=dc (by omega) lz
 have lp:=LM (g:=gV 6) (b:=wk) (n:=many)
  (λi ρ=>∃(T:Nat->Int) (d:D) (ch:Nat->Option Nat) (lr ts:Nat->Nat) (k:Nat) (pu:D) (y6:Option D),ρ=[some (bg ns as),some (fr p),some (.lst (nats nums)),some (.lst (vec many T)),some d,some pu,y6]/\kK nums (aS as) (aG as) (cJ as p) (i+1) [] T ch lr ts k/\di d ch (i * nums.length)/\(∀x,T x<=(i:Int) * ((nums.length:Int) * M))/\(∀x,lr x<=i)/\(i=0\/∃v:Nat,pu=.int (v:Int)/\v<many/\lr v=i))
  (Nc many as p nums ((many:Int) * ((nums.length:Int) * M))) (by
   rintro i ρ hi ⟨T,d,ch,lr,ts,k,pu,y6,rfl,hP,hD,hC,hl,_⟩
   have BO:i * nums.length+nums.length<=1000000:=by
    have:i * nums.length<=900 * 1000:=tf (by omega) Iu
    omega
   obtain⟨T',d',mm,oj,pS,k',nH,h1,h2,h3,h4,h5⟩:=Z1 (ns:=ns) (nums:=nums) jP hM lz (Nat.succ_pos i) hn hP hD BO hC (λx=>by have:=hl x; omega)
   have zB:fY d=true/\fY (.lst (vec many T))=true:=by
    obtain⟨ks,ds,rfl,_⟩:=hD.is
    exact⟨rfl,rfl⟩
   have hB:∀x,T' x<=((i+1:Nat):Int) * ((nums.length:Int) * M):=λx=>by
    have:=h4 x
    rw[show((i+1:Nat):Int)=(i:Int)+1 by omega,eO,jU]
    omega
   have Ia:ke 3 4 (aCons (eV 0) (aCons (eV 1) (aCons (eV 2) aNil))) vq [some (bg ns as),some (fr p),some (.lst (nats nums)),some (.lst (vec many T)),some d,some pu,some (.int (i:Int))]=some (nH,[some (bg ns as),some (fr p),some (.lst (nats nums)),some (.lst (vec many T')),some d',some pu,some (.int (i:Int))]):=by
    obtain⟨c1,c2⟩:=zB
    generalize vec many T=v0 at *
    generalize vec many T'=v1 at *
    generalize fr p=F at *
    generalize bg ns as=net at *
    generalize nats nums=nl at *
    unfold ke
    clear hP hD hC hl BO h2 h3 h4 h5 hB jP oM hM lz hn BH ln HI Fh
    walk_at "mir"
   have ss:kU 5 (ke 3 4 (aCons (eV 0) (aCons (eV 1) (aCons (eV 2) aNil))) vq) [some (bg ns as),some (fr p),some (.lst (nats nums)),some (.lst (vec many T)),some d,some pu,some (.int (i:Int))]=some (.nx [some (bg ns as),some (fr p),some (.lst (nats nums)),some (.lst (vec many T')),some d',some nH,some (.int (i:Int))]):=by
    unfold kU
    rw[Ia]
    rfl
   refine⟨[some (bg ns as),some (fr p),some (.lst (nats nums)),some (.lst (vec many T)),some d,some pu,some (.int (i:Int))],rfl,?_⟩
   rcases h5 with⟨rfl,NM⟩|⟨v,rfl,hv,Fo⟩
   ·refine .inr ⟨.tup [.str "times",nJ many p T'],?_,.inl ⟨T',rfl,λn hn=>h2.dn n hn (NM _),λx=>⟨h2.pos x,?_⟩⟩⟩
    ·have q:=X2 (T:=T') (p:=p) (many:=many) (by omega) hp oM [some (bg ns as),some (fr p),some (.lst (nats nums)),some (.lst (vec many T')),some d',some .non,some (.int (i:Int))] rfl rfl
     have sc:(D.str "times").sc=true:=rfl
     generalize vec many T=v0 at *
     generalize vec many T'=v1 at *
     generalize fr p=F at *
     generalize bg ns as=net at *
     generalize nats nums=nl at *
     generalize nJ many p T'=TM at *
     unfold wk BG
     generalize kU 5 (ke 3 4 (aCons (eV 0) (aCons (eV 1) (aCons (eV 2) aNil))) vq)=SM at *
     clear hP hD hC hl BO h1 h2 h3 h4 NM hB jP oM hM lz hn BH ln HI Fh zB Ia
     walk_at "mir"
    ·have h6:=hB x
     have h7:((i+1:Nat):Int) * ((nums.length:Int) * M)<=(many:Int) * ((nums.length:Int) * M):=aL (by omega) BH
     omega
   ·refine .inl ⟨[some (bg ns as),some (fr p),some (.lst (nats nums)),some (.lst (vec many T')),some d',some (.int (v:Int)),some (.int (i:Int))],?_,⟨T',d',mm,oj,pS,k',_,_,rfl,h2.next,?_,hB,h2.le,.inr ⟨v,rfl,hv,Fo⟩⟩⟩
    ·generalize vec many T=v0 at *
     generalize vec many T'=v1 at *
     generalize fr p=F at *
     generalize bg ns as=net at *
     generalize nats nums=nl at *
     unfold wk
     generalize kU 5 (ke 3 4 (aCons (eV 0) (aCons (eV 1) (aCons (eV 2) aNil))) vq)=SM at *
     clear hP hD hC hl BO h1 h2 h3 h4 Fo hB jP oM hM lz hn BH ln HI Fh zB Ia hv
     walk_at "mir"
    ·rw[Nat.add_mul,Nat.one_mul]; exact h3)
  many 0 [some (bg ns as),some (fr p),some (.lst (nats nums)),some (.lst (vec many λ_=>0)),some (.dK [] []),some .non,none] (by omega)
  ⟨λ_=>0,.dK [] [],λ_=>none,λ_=>0,λ_=>0,1,.non,none,rfl,kK.start,di.nil.mono (by omega),λx=>by simp,λx=>aE 0,.inl rfl⟩
 have hrg:ig [.int (many:Int)]=some ((aB many).map λ(t:Nat)=>D.int (t:Int)):=by
  rw[Gg (by omega) (by omega)]
  unfold dZ
  simp
 have rp:ng (.lst [.int 0]) (.int (many:Int))=some (.lst (vec many λ_=>0)):=by
  show(if -1000000<(many:Int)/\(many:Int)<1000000/\[D.int 0].length<=16 then some (D.lst (ak (many:Int).toNat [D.int 0]).flatten)else none)=_
  rw[if_pos ⟨by omega,by omega,by simp⟩,i7,Zk many]
 rw[← gR]at lp
 rcases lp with⟨ρ',l1,⟨T,d,ch,lr,ts,k,pu,y6,rfl,hP,hD,hC,hl,hv⟩⟩|⟨w,l1,hw⟩
 ·rcases hv with hv|⟨v,rfl,hv,Fo⟩
  ·omega
  obtain⟨R,x,r1,r2,r3,r4,r5⟩:=zt3 (as:=as) (many:=many) (v:=v) hD (λx hx=>by
   obtain⟨n,c1,c2,c3,c4,_⟩:=hP.ch x hx
   exact⟨n,c1,hn n c2,c3,c4⟩) jP hv (by omega) hm
  have key:∀n∈R,n∈nums/\T (aG as n)<=T (aS as n)+cJ as p n/\(T (aG as n)<T (aS as n)+cJ as p n\/ts (aS as n)<ts (aG as n)):=λn Tr=>by
   obtain⟨q1,q2⟩:=r5 n Tr
   obtain⟨n',c1,c2,c3,c4,c5,c6⟩:=hP.ch _ q2
   rw[q1]at c1
   have:=Option.some.inj c1
   subst this
   exact⟨c2,c5,c6⟩
  obtain⟨_,k2⟩:=kK.cost (T:=T) (ts:=ts) (S:=aS as) (G:=aG as) (c:=cJ as p) (Q:=λn=>n∈R) (λn h=>(key n h).2) r3 (λn h=>h)
  refine⟨.tup [.str "ring",.lst (nats R)],?_,.inr ⟨R,x,rfl,r2,r3,r4,λn h=>(key n h).1,?_⟩⟩
  ·have sc:(D.str "ring").sc=true:=rfl
   clear hP hD hC hl Fo hv key k2 r2 r3 r4 r5 jP oM hM lz hn BH
   generalize vec many T=v0 at *
   generalize (vec many λ_=>0)=v1 at *
   generalize fr p=F at *
   generalize as.map bu=al at *
   generalize bg ns as=net at *
   generalize nats nums=nl at *
   generalize nats R=rl at *
   generalize (aB many).map (λ(t:Nat)=>D.int (t:Int))=Oc at *
   unfold xj BG
   walk_at "mir"
  ·rcases k2 with k2|k2|k2
   ·exact absurd k2 r2
   ·omega
   ·omega
 ·refine⟨w,?_,hw⟩
  clear hw jP oM hM lz hn BH
  generalize (vec many λ_=>0)=v1 at *
  generalize fr p=F at *
  generalize as.map bu=al at *
  generalize bg ns as=net at *
  generalize nats nums=nl at *
  generalize (aB many).map (λ(t:Nat)=>D.int (t:Int))=Oc at *
  unfold xj BG
  walk_at "mir"
theorem GX (as:List bz)(f:bz->Int)(n:Nat):(aN (as.map λa=>fR a (f a)) n).s=(aN as n).s/\(aN (as.map λa=>fR a (f a)) n).g=(aN as n).g/\(aN (as.map λa=>fR a (f a)) n).t=(aN as n).t/\(aN (as.map λa=>fR a (f a)) n).b=(aN as n).b:=by
 unfold aN
 rw[aP]
 cases as[n]? <;> exact⟨rfl,rfl,rfl,rfl⟩
theorem M3 (as:List bz)(f:bz->Int):aS (as.map λa=>fR a (f a))=aS as:=funext λn=>(GX as f n).1
theorem Cm (as:List bz)(f:bz->Int):aG (as.map λa=>fR a (f a))=aG as:=funext λn=>(GX as f n).2.1
def tN (as:List bz)(n:Nat):Int:=(aN as n).t
def bN (as:List bz)(n:Nat):Int:=((aN as n).b:Int)
theorem Gs {as:List bz}{p:Int×Int}:∀w:List Nat,(w.map (cJ as p)).sum=(w.map (tN as)).sum * p.2-(w.map (bN as)).sum * p.1
 |[]=>by simp
 |n::w=>by
  rw[aC,aC,aC,bj,bj,bj,Gs w]
  unfold cJ tN bN
  grind
theorem Gu {f:Nat->Int}{m:Int}(hm:0<=m):∀is:List Nat,(∀i∈is,0<=f i/\f i<=m)->0<=(is.map f).sum/\(is.map f).sum<=m * (is.length:Int)
 |[],_=>by simp
 |i::is,h=>by
  obtain⟨h1,h2⟩:=Gu hm is λj hj=>h j (ai _ hj)
  obtain⟨h3,h4⟩:=h i aa
  rw[aC,bj,aJ]
  refine⟨by omega,?_⟩
  rw[show((is.length+1:Nat):Int)=(is.length:Int)+1 by omega,nk,jS]
  omega
theorem P1 {as:List bz}{rank:Nat->Nat}(qD:∀a∈as,a.b=0->rank a.s<rank a.g):∀{w:List Nat} {a b:Nat},kc (aS as) (aG as) a w b->(∀n∈w,n<as.length)->0<=(w.map (bN as)).sum/\((w.map (bN as)).sum=0->rank a+w.length<=rank b)
 |[],a,b,h,_=>by
  have h:a=b:=h
  subst h
  simp
 |n::w,a,b,h,hn=>by
  obtain⟨i1,i2⟩:=P1 qD h.2 λm hm=>hn m (ai _ hm)
  rw[aC,bj,aJ]
  have h0:0<=bN as n:=by unfold bN; omega
  refine⟨by omega,λe=>?_⟩
  have h1:bN as n=0:=by omega
  have h2:=qD _ (uu (hn n aa)) (by unfold bN at h1; omega)
  have h3:=i2 (by omega)
  have e1:a=(aN as n).s:=h.1.symm
  have e2:aG as n=(aN as n).g:=rfl
  rw[e2]at h3
  rw[e1]
  omega
theorem YN {T B c1 c2 m1 m2 S P:Int}(hc:0<c2)(hm:0<m2)(v:m1 * (2 * B * c2)=(T * c2+c1 * B) * m2)(h:(c1 * B-T * c2) * P<=S * c2 * B):(m1 * B-T * m2) * (2 * P)<=S * m2 * B:=by
 have e:(m1 * B-T * m2) * (2 * P) * c2=(c1 * B-T * c2) * P * m2:=by
  have:(m1 * B-T * m2) * (2 * P) * c2=(m1 * (2 * B * c2)-2 * T * c2 * m2) * P:=by grind
  rw[this,v]; grind
 have h1:=aL h (bO hm)
 rw[← e]at h1
 have e2:S * c2 * B * m2=S * m2 * B * c2:=by grind
 rw[e2]at h1
 exact dN h1 hc
theorem zt4 {T B T2 B2 c1 c2 m1 m2 S P:Int}(hc:0<c2)(hm:0<m2)(hB:0<B)(SZ:0<B2)(hP:0<P)(v:m1 * (2 * B * c2)=(T * c2+c1 * B) * m2)(ha:m1 * B2<T2 * m2)(h:(c1 * B-T * c2) * P<=S * c2 * B):(c1 * B2-T2 * c2) * (2 * P)<=S * c2 * B2:=by
 have k1:(c1 * B2-T2 * c2) * m2<=B2 * (c1 * m2-m1 * c2):=by
  have:=aL (bO ha) (bO hc)
  grind
 have k2:(c1 * m2-m1 * c2) * (2 * B)=m2 * (c1 * B-T * c2):=by grind
 have k3:(c1 * B2-T2 * c2) * m2 * (2 * B)<=B2 * (m2 * (c1 * B-T * c2)):=by
  have:=aL k1 (show(0:Int)<=2 * B by omega)
  rw[cV B2,k2]at this
  exact this
 have k4:=aL k3 (bO hP)
 have k5:=bc h (bO (bV SZ hm))
 have k6:(c1 * B2-T2 * c2) * (2 * P) * (m2 * B)<=S * c2 * B2 * (m2 * B):=by
  have e1:(c1 * B2-T2 * c2) * (2 * P) * (m2 * B)=(c1 * B2-T2 * c2) * m2 * (2 * B) * P:=by grind
  have e2:B2 * (m2 * (c1 * B-T * c2)) * P=B2 * m2 * ((c1 * B-T * c2) * P):=by grind
  have e3:B2 * m2 * (S * c2 * B)=S * c2 * B2 * (m2 * B):=by grind
  rw[e1]
  rw[e2]at k4
  rw[e3]at k5
  exact i6 k4 k5
 exact dN k6 (bV hm hB)
theorem Z2 {T B T' B' c1 c2 D:Int}(hc:0<c2)(hB:0<B)(S1:B<=D)(CI:0<B')(HQ:B'<=D)(h:(c1 * B-T * c2) * (D * D)<c2 * B)(hu:T' * c2<=c1 * B'):T' * B<=T * B':=by
 apply Int.not_lt.mp
 intro hn
 have k1:c2<=B' * (c1 * B-T * c2):=by
  have a1:c2<=(T' * B-T * B') * c2:=by
   have:1 * c2<=(T' * B-T * B') * c2:=aL (by omega) (bO hc)
   omega
  have a2:=bc hu (bO hB)
  grind
 have hx:0<=c1 * B-T * c2:=by
  apply Int.not_lt.mp
  intro z
  have:=Int.mul_lt_mul_of_pos_left z CI
  omega
 generalize c1 * B-T * c2=x at *
 have k2:=aL k1 (bO hB)
 have k3:B' * x * B<=x * (D * D):=by
  have b1:B' * B<=D * D:=cF HQ S1 (bO hB) (by omega)
  have b2:=bc b1 hx
  have e:B' * x * B=x * (B' * B):=by grind
  rw[e]; exact b2
 omega
theorem YO {T B c1 c2 S P D:Int}(hx:c2 * B<=(c1 * B-T * c2) * (D * D))(hc:0<c2)(hB:0<B)(hS:0<=S)(hP:0<P)(h:(c1 * B-T * c2) * P<=S * c2 * B):P<=S * (D * D):=by
 have pos:0<c2 * B:=bV hc hB
 have TK:0<c1 * B-T * c2:=by
  apply Int.not_le.mp
  intro z
  have hD:0<=D * D:=by
   rcases Int.le_total 0 D with h|h
   ·exact dc h h
   ·exact iN h h
  have:(c1 * B-T * c2) * (D * D)<=0:=Int.mul_nonpos_of_nonpos_of_nonneg z hD
  omega
 generalize c1 * B-T * c2=x at *
 have k1:=bc hx hS
 have e1:S * (c2 * B)=S * c2 * B:=by grind
 rw[e1]at k1
 have k2:x * P<=x * (S * (D * D)):=by
  have e2:S * (x * (D * D))=x * (S * (D * D)):=by grind
  rw[e2]at k1
  exact i6 h k1
 exact fL k2 TK
theorem zta {T B c1 c2 m1 m2 S:Int}(hc:0<c2)(hB:0<B)(hm:0<m2)(hT:T<=S * B)(h:c1<=S * c2)(v:m1 * (2 * B * c2)=(T * c2+c1 * B) * m2):m1<=S * m2:=by
 have k1:=aL hT (bO hc)
 have k2:=aL h (bO hB)
 have k3:T * c2+c1 * B<=S * (2 * B * c2):=by grind
 have k4:=aL k3 (bO hm)
 rw[← v]at k4
 have e:S * (2 * B * c2) * m2=S * m2 * (2 * B * c2):=by grind
 rw[e]at k4
 have pos:0<2 * B * c2:=bV (by omega) hc
 exact dN k4 pos
theorem ztb {T B T' B' q1 q2:Int}(hB:0<B)(hq:0<q2)(e:q1 * B=T * q2)(h:T' * B<=T * B'):T' * q2<=q1 * B':=by
 have k:=aL h (bO hq)
 have e1:T' * B * q2=T' * q2 * B:=by grind
 have e2:T * B' * q2=q1 * B' * B:=by
  have:T * B' * q2=T * q2 * B':=by grind
  rw[this,← e]; grind
 rw[e1,e2]at k
 exact dN k hB
def sT (as:List bz)(R:List Nat):Int:=(R.map (tN as)).sum
def sB (as:List bz)(R:List Nat):Int:=(R.map (bN as)).sum
structure RG (as:List bz)(nums:List Nat)(R:List Nat):Prop where
 ne:R≠[]
 w:∃x,kc (aS as) (aG as) x R x
 nd:(R.map (aG as)).Nodup
 m:∀n∈R,n∈nums
structure GN (many:Nat)(as:List bz)(nums:List Nat)(rk:Nat->Nat)(mb:Nat):Prop where
 m1:1<=many
 m:many<=40
 al:as.length<=120
 ok:∀a∈as,Co many a
 n:∀n∈nums,n<as.length
 nl:nums.length<=120
 r:∀a∈as,a.b=0->rk a.s<rk a.g
 b1:1<=mb
 b4:mb<=4
 b:∀a∈as,a.b<=mb
theorem Q5 {f:Nat->Int}:∀nums:List Nat,(∀n∈nums,0<=f n)->0<=(nums.map f).sum
 |[],_=>by simp
 |n::nums,h0=>by
  rw[aC,bj]
  have:=Q5 nums λm hm=>h0 m (ai _ hm)
  have:=h0 n aa
  omega
theorem X3 {l1 l2:List Int}(p:l1.Perm l2):l1.sum=l2.sum:=by
 induction p with
 |nil=>rfl
 |cons x _ ih=>rw[bj,bj,ih]
 |swap x y l=>rw[bj,bj,bj,bj]; omega
 |trans _ _ TV TX=>exact TV.trans TX
theorem P2 {f:Nat->Int}:∀(R nums:List Nat),(∀n∈nums,0<=f n)->R.Nodup->(∀n∈R,n∈nums)->(R.map f).sum<=(nums.map f).sum
 |[],nums,h0,_,_=>by
  have:=Q5 nums h0
  simpa using this
 |n::R,nums,h0,nd,hs=>by
  have hn:=hs n aa
  have p:=mK hn
  have e:(nums.map f).sum=f n+((nums.erase n).map f).sum:=by
   have p2:=p.map f
   rw[aC]at p2
   rw[X3 p2,bj]
  obtain⟨n1,n2⟩:=bi.mp nd
  have ih:=P2 R (nums.erase n) (λm hm=>h0 m (List.mem_of_mem_erase hm)) n2 λm hm=>(List.mem_erase_of_ne (λ(z:m=n)=>n1 (by rw[← z]; exact hm))).mpr (hs m (ai _ hm))
  rw[aC,bj,e]
  omega
section
variable {many:Nat}{as:List bz}{nums:List Nat}{rk:Nat->Nat}{mb:Nat}
theorem RG.lt (h:RG as nums R)(g:GN many as nums rk mb):∀n∈R,n<as.length:=λn hn=>g.n n (h.m n hn)
theorem RG.len {R:List Nat}(h:RG as nums R)(g:GN many as nums rk mb):R.length<=many:=by
 rw[← am (f:=aG as)]
 refine Kahn.len_le h.nd λy hy=>?_
 obtain⟨n,q1,rfl⟩:=aR.mp hy
 exact(g.ok _ (uu (h.lt g n q1))).g
theorem RG.bds {R:List Nat}(h:RG as nums R)(g:GN many as nums rk mb):(0<=sT as R/\sT as R<=sT as nums)/\1<=sB as R/\sB as R<=(many:Int) * (mb:Int):=by
 have hn:=h.lt g
 have hl:=h.len g
 obtain⟨x,hx⟩:=h.w
 obtain⟨r1,r2⟩:=P1 (rank:=rk) g.r hx hn
 have hwp:=nq.mpr h.ne
 have bt:=Gu (f:=tN as) (m:=1000000000) (by decide) R λn h=>⟨(g.ok _ (uu (hn n h))).t0,(g.ok _ (uu (hn n h))).t1⟩
 have bb:=Gu (f:=bN as) (m:=(mb:Int)) (by omega) R λn h=>by
  have:=g.b _ (uu (hn n h))
  unfold bN
  omega
 have yZ:1<=(R.map (bN as)).sum:=by
  by_cases e:(R.map (bN as)).sum=0
  ·have:=r2 e; omega
  ·omega
 have nd:R.Nodup:=eJ.of_map (S:=(·≠·)) (aG as) (λa b h e=>h (by rw[e])) h.nd
 refine⟨⟨bt.1,?_⟩,yZ,?_⟩
 ·exact P2 R nums (λn hn=>(g.ok _ (uu (g.n n hn))).t0) nd h.m
 ·have:(mb:Int) * (R.length:Int)<=(mb:Int) * (many:Int):=bc (by omega) (by omega)
  have e:(mb:Int) * (many:Int)=(many:Int) * (mb:Int):=cA _ _
  have:=bb.2
  unfold sB
  omega
theorem GN.st (g:GN many as nums rk mb):0<=sT as nums/\sT as nums<=120000000000:=by
 have bt:=Gu (f:=tN as) (m:=1000000000) (by decide) nums λn h=>⟨(g.ok _ (uu (g.n n h))).t0,(g.ok _ (uu (g.n n h))).t1⟩
 have:=g.nl
 exact⟨bt.1,by have:=bt.2; unfold sT; omega⟩
theorem GN.D (g:GN many as nums rk mb):1<=(many:Int) * (mb:Int)/\(many:Int) * (mb:Int)<=160:=by
 have h1:=g.m1
 have h2:=g.b1
 have a:(1:Int) * 1<=(many:Int) * (mb:Int):=cF (by omega) (by omega) (by decide) (by omega)
 have b:(many:Int) * (mb:Int)<=40 * 4:=cF (by have:=g.m; omega) (by have:=g.b4; omega) (by omega) (by decide)
 omega
theorem Pt {p:Int×Int}{T:Nat->Int}(hk:∀n∈nums,T (aS as n)+cJ as p n<=T (aG as n)):∀{w:List Nat} {a b:Nat},kc (aS as) (aG as) a w b->(∀n∈w,n∈nums)->T a+(w.map (cJ as p)).sum<=T b
 |[],a,b,h,_=>by
  have h:a=b:=h
  subst h
  simp
 |n::w,a,b,h,hn=>by
  have i1:=Pt hk h.2 λm hm=>hn m (ai _ hm)
  have i2:=hk n (hn n aa)
  rw[h.1]at i2
  rw[aC,bj]
  omega
def Kp (as:List bz)(nums:List Nat)(p:Int×Int):Prop:=∃T:Nat->Int,∀n∈nums,T (aS as n)+cJ as p n<=T (aG as n)
theorem Kp.le {p:Int×Int}(h:Kp as nums p){R:List Nat}(hR:RG as nums R):sT as R * p.2<=p.1 * sB as R:=by
 obtain⟨T,hT⟩:=h
 obtain⟨x,hx⟩:=hR.w
 have:=Pt hT hx hR.m
 rw[Gs]at this
 unfold sT sB
 rw[cA p.1]
 omega
theorem QD (as:List bz)(p:Int×Int):∀k:Nat,∃M:Int,0<=M/\∀n,n<k->cJ as p n<=M
 |0=>⟨0,dO 0,λn h=>absurd h (by omega)⟩
 |k+1=>by
  obtain⟨M,h1,h2⟩:=QD as p k
  refine⟨max M (cJ as p k),by omega,λn hn=>?_⟩
  by_cases e:n=k
  ·rw[e]; omega
  ·have:=h2 n (by omega); omega
theorem QE {ns:List D}{p:Int×Int}(g:GN many as nums rk mb)(gB:ns.length=many)(hp:0<p.2)(hz:Sz 8000 p.2) :
  ∃d,vt [bg ns as,fr p,.lst (nats nums)]=some d/\((d=.non/\Kp as nums p)\/∃R,d=.lst (nats R)/\RG as nums R/\p.1 * sB as R<sT as R * p.2):=by
 obtain⟨M,lz,hM⟩:=QD as p as.length
 obtain⟨d,h1,h2⟩:=P0 (ns:=ns) (nums:=nums) (p:=p) gB g.m1 (by have:=g.m; omega) (by have:=g.nl; omega) g.ok (by omega) hz hM lz g.n
 have i0:∀(a b:D),dh (.tup [a,b]) (.int 0)=some a:=λ_ _=>rfl
 have i1:∀(a b:D),dh (.tup [a,b]) (.int 1)=some b:=λ_ _=>rfl
 rcases h2 with⟨T,rfl,h3,_⟩|⟨R,x,rfl,r1,r2,r3,r4,r5⟩
 ·refine⟨.non,?_,.inl ⟨rfl,T,h3⟩⟩
  have e1:iE false (.str "times") (.str "ring")=some (.bl false):=by with_unfolding_all rfl
  generalize nJ many p T=TM at *
  clear h3 hM lz hz hp g
  generalize fr p=F at *
  generalize bg ns as=net at *
  generalize nats nums=nl at *
  unfold vt
  walk_at "mir"
 ·refine⟨.lst (nats R),?_,.inr ⟨R,rfl,⟨r1,⟨x,r2⟩,r3,r4⟩,?_⟩⟩
  ·have e1:iE false (.str "ring") (.str "ring")=some (.bl true):=by with_unfolding_all rfl
   generalize nats R=rl at *
   clear r1 r2 r3 r4 r5 hM lz hz hp g
   generalize fr p=F at *
   generalize bg ns as=net at *
   generalize nats nums=nl at *
   unfold vt
   walk_at "mir"
  ·rw[Gs]at r5
   unfold sT sB
   rw[cA p.1]
   omega
theorem MB {ns:List D}{R:List Nat}(g:GN many as nums rk mb)(h:RG as nums R):sV [bg ns as,.lst (nats R)]=some (fr (Fq.mk (sT as R) (sB as R))):=by
 have hb:=h.bds g
 have e1:((R.map λ(n:Nat)=>(n:Int)).map (tI as))=R.map (tN as):=by rw[br]; exact cw λn _=>by simp[tI,tN]
 have e2:((R.map λ(n:Nat)=>(n:Int)).map (bI as))=R.map (bN as):=by rw[br]; exact cw λn _=>by simp[bI,bN]
 have en:(R.map λ(n:Nat)=>(n:Int)).map D.int=nats R:=by rw[br]; rfl
 have m:=Z0 (ns:=ns) (as:=as) (is:=R.map λ(n:Nat)=>(n:Int)) (by rw[am]; have:=h.len g; have:=g.m; omega) (λa ha=>(g.ok a ha).b) (λi hi=>by
  obtain⟨n,h1,rfl⟩:=aR.mp hi
  have:=h.lt g n h1
  omega) (by rw[e2]; have:=hb.2.1; unfold sB at this; omega)
 rw[e1,e2,en]at m
 exact m
theorem YQ {ns:List D}(hl:as.length<=120):∃mb:Nat,iX 4 "most_behind" ym (bg ns as) []=some (.int (mb:Int))/\1<=mb/\(∀a∈as,a.b<=mb)/\∀k:Nat,1<=k->(∀a∈as,a.b<=k)->mb<=k:=by
 have q:jr [some (bg ns as)]=some (.lst ((as.map λa=>(a.b:Int)).map .int)):=by
  rw[br]
  refine v6 (own:=1) (cap:=[]) (g:=gV 0) bu (λa=>D.int (a.b:Int)) as (by rfl) (by omega) λa _=>⟨_,rfl,?_⟩
  exact fb a
 have ad:dG (.lst [.int 1]) (.lst ((as.map λa=>(a.b:Int)).map .int))=some (.lst ((1::as.map λa=>(a.b:Int)).map .int)):=by rw[Pz (by simp; omega)]; rfl
 have mx:∃v:Int,AB [.lst ((1::as.map λa=>(a.b:Int)).map .int)]=some (.int v)/\v∈(1::as.map λa=>(a.b:Int))/\∀z∈(1::as.map λa=>(a.b:Int)),z<=v:=by
  refine⟨_,?_,PB (ns:=1::as.map λa=>(a.b:Int)) rfl⟩
  show(dW ((1::as.map λa=>(a.b:Int)).map .int)).bind _=_
  rw[LS]
  rfl
 obtain⟨v,v1,v2,v3⟩:=mx
 have Fv:=v3 1 aa
 refine⟨v.toNat,?_,by omega,λa ha=>?_,λk hk To=>?_⟩
 ·have e:((v.toNat:Nat):Int)=v:=by omega
  rw[e]
  show ym [bg ns as]=_
  generalize (1::as.map λa=>(a.b:Int)).map D.int=l1 at *
  generalize (as.map λa=>(a.b:Int)).map D.int=l2 at *
  generalize bg ns as=net at *
  clear hl v2 v3 Fv e
  unfold ym
  walk_at "mir"
 ·have:=v3 (a.b:Int) (ai _ (aR.mpr ⟨a,ha,rfl⟩))
  omega
 ·rcases aA.mp v2 with h|h
  ·omega
  ·obtain⟨a,ha,e⟩:=aR.mp h
   have:=To a ha
   omega
theorem zt5 {ns:List D}(gB:ns.length=many){mb:Nat}(lB:iX 4 "most_behind" ym (bg ns as) []=some (.int (mb:Int)))(h1:1<=(many:Int) * (mb:Int))(h2:(many:Int) * (mb:Int)<=160)(h3:mb<=4):qr [bg ns as]=some (fr (Fq.mk 1 ((many:Int) * (mb:Int) * ((many:Int) * (mb:Int))))):=by
 have ln:dg [.lst ns]=some (.int (many:Int)):=(za9 _).trans (by rw[gB])
 have f5:=PZ ns as
 have m1:cE (.int (many:Int)) (.int (mb:Int))=some (.int ((many:Int) * (mb:Int))):=zds (by omega) (by omega)
 have hD:0<(many:Int) * (mb:Int) * ((many:Int) * (mb:Int))/\(many:Int) * (mb:Int) * ((many:Int) * (mb:Int))<=160 * 160:=⟨bV (by omega) (by omega),cF h2 h2 (by omega) (by decide)⟩
 generalize (many:Int) * (mb:Int)=D0 at *
 have m2:cE (.int D0) (.int D0)=some (.int (D0 * D0)):=zds (by omega) (by omega)
 have ra:=B9 (t:=1) (b:=D0 * D0) (by omega) (oP (w:=25600) (by omega) (by omega) (by decide))
 generalize fr (Fq.mk 1 (D0 * D0))=F at *
 generalize bg ns as=net at *
 clear hD h1 h2 h3
 unfold qr
 walk_at "mir"
theorem ztc {p q:Int×Int}{a b c d:Int}(lp:Fq.Low p)(lq:Fq.Low q)(h1:p.1 * b=a * p.2)(h2:q.1 * d=c * q.2):(Fq.plus p q).1 * (b * d)=(a * d+c * b) * (Fq.plus p q).2:=by
 have v:=Fq.plus_v p q
 generalize Fq.plus p q=s at *
 have kq:p.2 * q.2≠0:=lp.mul_ne lq
 obtain⟨p1,p2⟩:=p
 obtain⟨q1,q2⟩:=q
 obtain⟨s1,s2⟩:=s
 dsimp only at *
 apply dM kq
 have e:(a * d+c * b) * s2 * (p2 * q2)=(a * p2 * (d * q2)+c * q2 * (b * p2)) * s2:=by grind
 rw[e,← h1,← h2]
 have e2:(p1 * b * (d * q2)+q1 * d * (b * p2)) * s2=(p1 * q2+q1 * p2) * s2 * (b * d):=by grind
 rw[e2,← v]
 grind
def lD (p q:Int×Int):Int×Int:=Fq.mk (Fq.plus p q).1 ((Fq.plus p q).2 * 2)
theorem X4 {p q:Int×Int}{n:Nat}(hn:n<=2000)(lp:Fq.Low p)(lq:Fq.Low q)(zp:Fz n p)(zq:Fz n q):Gk [fr p,fr q]=some (fr (lD p q)):=by
 have pl:=Q4 hn lp lq zp zq
 have zz:=QC lp lq zp zq
 have ll:=Fq.plus_low lp lq
 unfold lD
 generalize Fq.plus p q=s at *
 have f0:=yN s
 have f1:=lS s
 have m1:cE (.int s.2) (.int 2)=some (.int (s.2 * 2)):=zds (by decide) (by decide)
 have two:Sz 2 (2:Int):=oP (w:=2) (by decide) (by decide) (by decide)
 have ra:=B9 (t:=s.1) (b:=s.2 * 2) (by have:=ll.gt; omega) ((zz.2.mul two).mono (by omega))
 generalize fr (Fq.mk s.1 (s.2 * 2))=F at *
 generalize fr s=S at *
 generalize fr p=Fp at *
 generalize fr q=Fq' at *
 clear zz ll lp lq zp zq two hn
 unfold Gk
 walk_at "mir"
theorem ztd {p q:Int×Int}{a b c d:Int}(lp:Fq.Low p)(lq:Fq.Low q)(h1:p.1 * b=a * p.2)(h2:q.1 * d=c * q.2):(lD p q).1 * (2 * b * d)=(a * d+c * b) * (lD p q).2:=by
 have v:=ztc lp lq h1 h2
 have m:=Fq.mk_cross (Fq.plus p q).1 ((Fq.plus p q).2 * 2)
 have g:=(Fq.plus_low lp lq).gt
 unfold lD
 generalize Fq.mk (Fq.plus p q).1 ((Fq.plus p q).2 * 2)=m' at *
 generalize Fq.plus p q=s at *
 obtain⟨m1,m2⟩:=m'
 obtain⟨s1,s2⟩:=s
 dsimp only at *
 apply dM (show s2≠0 by omega)
 have e1:m1 * (2 * b * d) * s2=m1 * (s2 * 2) * (b * d):=by grind
 have e2:(a * d+c * b) * m2 * s2=(a * d+c * b) * s2 * m2:=by grind
 rw[e1,e2,← v,m]
 grind
theorem P3 {p q:Int×Int}(lp:Fq.Low p)(lq:Fq.Low q):Fq.Low (lD p q):=Fq.mk_low (by have:=(Fq.plus_low lp lq).gt; omega)
theorem YR {p q:Int×Int}(lp:Fq.Low p)(lq:Fq.Low q):(lD p q).2<=p.2 * q.2 * 2:=by
 have h1:=Fq.mk_le_two (t:=(Fq.plus p q).1) (b:=(Fq.plus p q).2 * 2) (by have:=(Fq.plus_low lp lq).gt; omega)
 have h2:=Fq.mk_le_two (t:=p.1 * q.2+q.1 * p.2) (b:=p.2 * q.2) (lp.mul_ne lq)
 have g1:=(Fq.plus_low lp lq).gt
 have g2:=(P3 lp lq).gt
 have g3:=bV lp.gt lq.gt
 have e:(Fq.mk (p.1 * q.2+q.1 * p.2) (p.2 * q.2))=Fq.plus p q:=rfl
 rw[e]at h2
 have e2:Fq.mk (Fq.plus p q).1 ((Fq.plus p q).2 * 2)=lD p q:=rfl
 rw[e2]at h1
 omega
end
theorem OU {c:BF}{b:SF}(N:Nat)(I:Nat->L3.Env->Prop)(st:∀i ρ,I i ρ->∃t,c ρ=some t/\(t=true->i<N/\∃ρ',b ρ=some (.nx ρ')/\I (i+1) ρ')) :
  ∀(k i:Nat) (ρ:L3.Env),I i ρ->i<=N->N<i+k->∃i' ρ',fJ c b k ρ=some (.nx ρ')/\I i' ρ'/\c ρ'=some false
 |0,i,ρ,_,h1,h2=>absurd h2 (by omega)
 |k+1,i,ρ,hI,hi,h=>by
  obtain⟨t,h1,h2⟩:=st i ρ hI
  cases t with
  |false=>exact⟨i,ρ,by show(c ρ).bind _=_; rw[h1]; rfl,hI,h1⟩
  |true =>
   obtain⟨tG,ρ',h3,h4⟩:=h2 rfl
   obtain⟨i',ρ2,h6,h7,h8⟩:=OU N I st k (i+1) ρ' h4 (by omega) (by omega)
   refine⟨i',ρ2,?_,h7,h8⟩
   show(c ρ).bind _=_
   rw[h1]
   show(b ρ).bind _=_
   rw[h3]
   exact h6
def cG:BF:=bNot (tb (λρ=>((aCons (λρ=>((aCons (eV 3) (aCons (λρ=>((aCons (eV 0) (aCons (eV 2) aNil)) ρ).bind λds=>sV (ds++[])) aNil)) ρ).bind λds=>B7 (ds++[])) (aCons (eV 4) aNil)) ρ).bind λds=>B8 (ds++[])))
section
variable {many:Nat}{as:List bz}{nums:List Nat}{rk:Nat->Nat}{mb:Nat}
structure GI (as:List bz)(nums:List Nat)(i:Nat)(R:List Nat)(c:Int×Int):Prop where
 r:RG as nums R
 low:Fq.Low c
 up:∀R',RG as nums R'->sT as R' * c.2<=c.1 * sB as R'
 le:c.1<=sT as nums * c.2
 sz:c.2<=((320 ^ i:Nat):Int)
 d:(c.1 * sB as R-sT as R * c.2) * ((2 ^ i:Nat):Int)<=sT as nums * c.2 * sB as R
theorem GI.pos {i:Nat}{R:List Nat}{c:Int×Int}(h:GI as nums i R c)(g:GN many as nums rk mb):0<=c.1:=by
 have hb:=h.r.bds g
 have h1:=h.up R h.r
 have h2:0<=sT as R * c.2:=dc hb.1.1 (by have:=h.low.gt; omega)
 exact jT (b:=sB as R) (by omega) (by omega)
theorem pM {i:Nat}(h:i<=60):((320 ^ i:Nat):Int)<=((320 ^ 60:Nat):Int):=by
 have:=cn (n:=320) (by decide) h
 exact Int.ofNat_le.mpr this
theorem nG:120000000000 * ((320 ^ 60:Nat):Int)<2 ^ 700:=by decide +kernel
theorem GI.fz {i:Nat}{R:List Nat}{c:Int×Int}(h:GI as nums i R c)(g:GN many as nums rk mb)(hi:i<=60):Fz 700 c:=by
 have h0:=h.pos g
 have h1:=h.low.gt
 have h2:=h.sz
 have h3:=pM hi
 have h4:=nG
 have h5:=h.le
 have h6:sT as nums * c.2<=120000000000 * ((320 ^ 60:Nat):Int):=cF g.st.2 (by omega) (by omega) (by decide)
 generalize ((320 ^ 60:Nat):Int)=K at *
 exact⟨oP (w:=120000000000 * K) (by omega) (by omega) h4,oP (w:=120000000000 * K) (by omega) (by omega) h4⟩
theorem Gv {R:List Nat}(h:RG as nums R)(g:GN many as nums rk mb):Fq.Low (Fq.mk (sT as R) (sB as R))/\Fz 700 (Fq.mk (sT as R) (sB as R))/\(Fq.mk (sT as R) (sB as R)).2<=160/\(0<=(Fq.mk (sT as R) (sB as R)).1/\(Fq.mk (sT as R) (sB as R)).1<=120000000000):=by
 obtain⟨⟨t1,t2⟩,b1,b2⟩:=h.bds g
 have hD:=g.D
 have hS:=g.st
 have l:=Fq.mk_low (t:=sT as R) (b:=sB as R) (by omega)
 have k1:=Fq.mk_le_one (t:=sT as R) (b:=sB as R) (by omega)
 have k2:=Fq.mk_le_two (t:=sT as R) (b:=sB as R) (by omega)
 have c:=Fq.mk_cross (sT as R) (sB as R)
 have gg:=l.gt
 have n0:0<=(Fq.mk (sT as R) (sB as R)).1:=by
  refine jT (b:=sB as R) ?_ (by omega)
  rw[c]
  exact dc t1 (by omega)
 exact⟨l,GW (by omega) (oP (w:=120000000000) (by omega) (by omega) (by decide)) (oP (w:=160) (by omega) (by omega) (by decide)),by omega,n0,by omega⟩
theorem zte {T B D0:Int}{c:Int×Int}(lc:Fq.Low c)(hB:0<B)(hD:0<D0):Fq.under (Fq.minus c (Fq.mk T B)) (Fq.mk 1 (D0 * D0))=decide ((c.1 * B-T * c.2) * (D0 * D0)<c.2 * B):=by
 have lm:=Fq.mk_low (t:=T) (b:=B) (by omega)
 have yU:0<D0 * D0:=bV hD hD
 have lg:=Fq.mk_low (t:=1) (b:=D0 * D0) (by omega)
 have cm:=Fq.mk_cross T B
 have cg:=Fq.mk_cross 1 (D0 * D0)
 have v:=Fq.minus_v (p:=c) (q:=Fq.mk T B) lm
 have ll:=Fq.minus_low lc lm
 generalize Fq.mk T B=m at *
 generalize Fq.mk 1 (D0 * D0)=gp at *
 generalize Fq.minus c m=d at *
 have hm:=lm.gt
 have hc:=lc.gt
 have v2:d.1 * (c.2 * B)=(c.1 * B-T * c.2) * d.2:=by
  obtain⟨d1,d2⟩:=d
  obtain⟨m1,m2⟩:=m
  obtain⟨c1,c2⟩:=c
  dsimp only at *
  apply dM (show m2≠0 by omega)
  have e1:d1 * (c2 * B) * m2=d1 * (c2 * m2) * B:=by grind
  have e2:(c1 * B-T * c2) * d2 * m2=(c1 * m2 * B-T * m2 * c2) * d2:=by grind
  rw[e1,v,e2,← cm]
  grind
 have e:=Fq.lt_congr (n:=d.1) (d:=d.2) (m:=c.1 * B-T * c.2) (e:=c.2 * B) (n':=gp.1) (d':=gp.2) (m':=1) (e':=D0 * D0) ll.gt (bV hc hB) lg.gt yU v2 cg
 unfold Fq.under
 refine decide_eq_decide.mpr (e.trans ?_)
 rw[jU]
theorem YS {ns:List D}(g:GN many as nums rk mb)(gB:ns.length=many)(lB:iX 4 "most_behind" ym (bg ns as) []=some (.int (mb:Int))) :
  ∃d,vv [bg ns as,.lst (nats nums)]=some d/\((d=.non/\∀R,¬RG as nums R)\/∃R,d=.lst (nats R)/\RG as nums R/\∀R',RG as nums R'->sT as R' * sB as R<=sT as R * sB as R'):=by
 obtain⟨d0,a1,a2⟩:=QE (ns:=ns) (p:=(-1,1)) g gB (by decide) (oP (w:=1) (by decide) (by decide) (by decide))
 replace a1:vt [bg ns as,.tup [.int (-1),.int 1],.lst (nats nums)]=some d0:=a1
 have hD:=g.D
 have hS:=g.st
 rcases a2 with⟨rfl,hK⟩|⟨R0,rfl,BI,_⟩
 ·refine⟨.non,?_,.inl ⟨rfl,λR hR=>?_⟩⟩
  ·generalize bg ns as=net at *
   generalize nats nums=nl at *
   clear g hK hD hS gB lB
   unfold vv
   walk_at "mir"
  ·have h1:=hK.le hR
   have h2:=hR.bds g
   dsimp only at h1
   omega
 ·have gp:=zt5 (as:=as) gB lB hD.1 hD.2 g.b4
  obtain⟨D0,CJ⟩:∃D0:Int,D0=(many:Int) * (mb:Int):=⟨_,rfl⟩
  rw[← CJ]at gp hD
  have yU:0<D0 * D0/\D0 * D0<=160 * 160:=⟨bV (by omega) (by omega),cF hD.2 hD.2 (by omega) (by decide)⟩
  have zg:Fz 700 (Fq.mk 1 (D0 * D0)):=GW (by omega) (oP (w:=1) (by decide) (by decide) (by decide)) (oP (w:=25600) (by omega) (by omega) (by decide))
  have p6:∀(i:Nat) (R:List Nat) (c:Int×Int) (y1 y5 y6:Option D),GI as nums i R c->i<=60->cG [some (bg ns as),y1,some (.lst (nats R)),some (fr c),some (fr (Fq.mk 1 (D0 * D0))),y5,y6]=some (!decide ((c.1 * sB as R-sT as R * c.2) * (D0 * D0)<c.2 * sB as R)):=by
   intro i R c y1 y5 y6 h hi
   have hb:=h.r.bds g
   obtain⟨lm,zm,_⟩:=Gv h.r g
   have me:=MB (ns:=ns) g h.r
   have zc:=h.fz g hi
   have mi:=Zh (n:=700) (by decide) h.low lm zc zm
   have QI:=X1 h.low lm zc zm
   have un:=Zg (p:=Fq.minus c (Fq.mk (sT as R) (sB as R))) (q:=Fq.mk 1 (D0 * D0)) (QI.mono (by decide)) (zg.mono (by decide))
   rw[zte h.low (by omega) (by omega)]at un
   generalize decide ((c.1 * sB as R-sT as R * c.2) * (D0 * D0)<c.2 * sB as R)=bb at *
   generalize fr (Fq.minus c (Fq.mk (sT as R) (sB as R)))=F1 at *
   generalize fr (Fq.mk (sT as R) (sB as R))=F2 at *
   generalize fr (Fq.mk 1 (D0 * D0))=F3 at *
   generalize fr c=F4 at *
   generalize nats R=rl at *
   generalize bg ns as=net at *
   clear QI zc zm lm hb h hi gp zg yU hD CJ BI a1 hS g lB gB
   unfold cG
   walk_at "mir"
  have lp:=OU (c:=cG) (b:=v5) 55
   (λi ρ=>i<=55/\∃(R:List Nat) (c:Int×Int) (y5 y6:Option D),ρ=[some (bg ns as),some (.lst (nats nums)),some (.lst (nats R)),some (fr c),some (fr (Fq.mk 1 (D0 * D0))),y5,y6]/\GI as nums i R c) (by
    rintro i ρ ⟨hi,R,c,y5,y6,rfl,h⟩
    refine⟨_,p6 i R c _ y5 y6 h (by omega),λht=>?_⟩
    obtain⟨⟨t1,t2⟩,b1,b2⟩:=h.r.bds g
    have hc:=h.low.gt
    have N7:¬(c.1 * sB as R-sT as R * c.2) * (D0 * D0)<c.2 * sB as R:=by simpa using ht
    have stop:=YO (D:=D0) (P:=((2 ^ i:Nat):Int)) (by omega) hc (by omega) hS.1 (by have:=Nat.pow_pos (n:=i) (show 0<2 by decide); omega) h.d
    have tG:i<55:=by
     apply Nat.not_le.mp
     intro z
     have h1:=cn (n:=2) (by decide) z
     have h2:sT as nums * (D0 * D0)<=120000000000 * (160 * 160):=cF hS.2 yU.2 (by omega) (by decide)
     have h3:(2:Nat) ^ 55=36028797018963968:=by decide
     omega
    refine⟨tG,?_⟩
    obtain⟨lm,zm,m9,_⟩:=Gv h.r g
    have me:=MB (ns:=ns) g h.r
    have zc:=h.fz g (by omega)
    have md:=X4 (n:=700) (by decide) lm h.low zm zc
    have cm:=Fq.mk_cross (sT as R) (sB as R)
    have v:=ztd (a:=sT as R) (b:=sB as R) (c:=c.1) (d:=c.2) lm h.low cm rfl
    have lw:=P3 lm h.low
    have Om:=YR lm h.low
    have NZ:=lm.gt
    generalize Fq.mk (sT as R) (sB as R)=m at *
    generalize lD m c=w at *
    have hw:=lw.gt
    have Bv:w.2<=((320 ^ (i+1):Nat):Int):=by
     have e1:m.2 * c.2 * 2<=160 * c.2 * 2:=by
      have:=aL m9 (bO hc)
      omega
     have e2:=h.sz
     rw[jB]
     omega
    have vU:c.2<=((320 ^ (i+1):Nat):Int):=by
     have e2:=h.sz
     rw[jB]
     omega
    have p2:((2 ^ (i+1):Nat):Int)=2 * ((2 ^ i:Nat):Int):=by rw[jB]; omega
    have IE:Sz 8000 w.2:=by
     have h3:=pM (i:=i+1) (by omega)
     have h4:=nG
     generalize ((320 ^ 60:Nat):Int)=K at *
     exact(oP (n:=700) (w:=120000000000 * K) (by omega) (by omega) h4).mono (by decide)
    obtain⟨d,ab,nZ⟩:=QE (ns:=ns) (p:=w) g gB hw IE
    rcases nZ with⟨rfl,hK⟩|⟨R2,rfl,HV,pj⟩
    ·refine⟨[some (bg ns as),some (.lst (nats nums)),some (.lst (nats R)),some (fr w),some (fr (Fq.mk 1 (D0 * D0))),some (fr w),some .non],?_,by omega,R,w,_,_,rfl,⟨h.r,lw,λR' kN=>hK.le kN,?_,Bv,?_⟩⟩
     ·generalize fr (Fq.mk 1 (D0 * D0))=F3 at *
      generalize fr c=F4 at *
      generalize fr w=F5 at *
      generalize fr m=F6 at *
      generalize nats R=rl at *
      generalize nats nums=nl at *
      generalize bg ns as=net at *
      clear IE p2 vU Bv hw Om lw v cm NZ zc m9 zm lm tG stop N7 hc t1 t2 b1 b2 ht h hi p6 zg yU CJ gp BI a1 hS g lB gB hD hK
      unfold v5
      walk_at "mir"
     ·refine zta (T:=sT as R) (B:=sB as R) hc (by omega) hw ?_ h.le v
      have:sT as nums * 1<=sT as nums * sB as R:=bc (by omega) hS.1
      omega
     ·rw[p2]
      exact YN hc hw v h.d
    ·refine⟨[some (bg ns as),some (.lst (nats nums)),some (.lst (nats R2)),some (fr c),some (fr (Fq.mk 1 (D0 * D0))),some (fr w),some (.lst (nats R2))],?_,by omega,R2,c,_,_,rfl,⟨HV,h.low,h.up,h.le,vU,?_⟩⟩
     ·generalize fr (Fq.mk 1 (D0 * D0))=F3 at *
      generalize fr c=F4 at *
      generalize fr w=F5 at *
      generalize fr m=F6 at *
      generalize nats R=rl at *
      generalize nats R2=rl2 at *
      generalize nats nums=nl at *
      generalize bg ns as=net at *
      clear IE p2 vU Bv hw Om lw v cm NZ zc m9 zm lm tG stop N7 hc t1 t2 b1 b2 ht h hi p6 zg yU CJ gp BI a1 hS g lB gB hD pj HV
      unfold v5
      walk_at "mir"
     ·rw[p2]
      have S9:=HV.bds g
      exact zt4 hc hw (by omega) (by omega) (by have:=Nat.pow_pos (n:=i) (show 0<2 by decide); omega) v pj h.d) jM 0 [some (bg ns as),some (.lst (nats nums)),some (.lst (nats R0)),some (fr (sT as nums,1)),some (fr (Fq.mk 1 (D0 * D0))),none,none]
   ⟨by omega,R0,(sT as nums,1),none,none,rfl,⟨BI,Zi _,λR' kN=>by
    have hb:=kN.bds g
    have:sT as nums * 1<=sT as nums * sB as R':=bc (by omega) hS.1
    dsimp only
    omega,by dsimp only; omega,by simp,by
    have hb:=BI.bds g
    dsimp only
    simp
    omega⟩⟩ (by omega) (by have:=GA (n:=60) (by omega); omega)
  obtain⟨i,ρ',l1,⟨hi,R,c,y5,y6,rfl,h⟩,hc⟩:=lp
  rw[p6 i R c _ y5 y6 h (by omega)]at hc
  have lt:(c.1 * sB as R-sT as R * c.2) * (D0 * D0)<c.2 * sB as R:=by simpa using hc
  have hb:=h.r.bds g
  refine⟨.lst (nats R),?_,.inr ⟨R,rfl,h.r,λR' kN=>?_⟩⟩
  ·have sm:=MX (nums.map (tN as))
   have en:(nums.map λ(n:Nat)=>(n:Int)).map D.int=nats nums:=by rw[br]; rfl
   have e1:((nums.map λ(n:Nat)=>(n:Int)).map λi=>(aN as i.toNat).t)=nums.map (tN as):=by rw[br]; exact cw λn _=>by simp[tN]
   have q1:=MW (ns:=ns) (as:=as) (is:=nums.map λ(n:Nat)=>(n:Int)) (fld:="time") (f:=λa=>a.t) (q:=qd) rfl ft (by rw[am]; have:=g.nl; omega) (λi hi=>by
    obtain⟨n,h1,rfl⟩:=aR.mp hi
    have:=g.n n h1
    omega) [some (bg ns as),some (.lst (nats nums)),some (.lst (nats R0)),none,none,none,none] rfl (by rw[en]; rfl)
   rw[e1]at q1
   have es:(nums.map (tN as)).sum=sT as nums:=rfl
   rw[es]at sm
   have ef:fr (sT as nums,1)=.tup [.int (sT as nums),.int 1]:=rfl
   rw[ef]at l1
   unfold cG at l1
   clear e1 en es ef hb lt hc h hi p6 zg yU CJ BI hS g lB gB hD
   generalize fr (Fq.mk 1 (D0 * D0))=F3 at *
   generalize fr c=F4 at *
   generalize sT as nums=S at *
   generalize (nums.map (tN as)).map D.int=tl at *
   generalize nats R=rl at *
   generalize nats R0=rl0 at *
   generalize nats nums=nl at *
   generalize bg ns as=net at *
   unfold vv eA
   generalize (bNot (tb (λρ=>((aCons (λρ=>((aCons (eV 3) (aCons (λρ=>((aCons (eV 0) (aCons (eV 2) aNil)) ρ).bind λds=>sV (ds++[])) aNil)) ρ).bind λds=>B7 (ds++[])) (aCons (eV 4) aNil)) ρ).bind λds=>B8 (ds++[]))))=cc at *
   walk_at "mir"
  ·have BJ:=kN.bds g
   exact Z2 (D:=D0) h.low.gt (by omega) (by omega) (by omega) (by omega) lt (h.up R' kN)
theorem QF {ns:List D}(g:GN many as nums rk mb)(gB:ns.length=many)(lB:iX 4 "most_behind" ym (bg ns as) []=some (.int (mb:Int))) :
  ∃d,vh [bg ns as,.lst (nats nums)]=some d/\((d=.non/\∀R,¬RG as nums R)\/∃(R:List Nat) (q:Int×Int) (T:Nat->Int),d=.tup [fr q,.lst (nats R),nJ many q T]/\RG as nums R/\q=Fq.mk (sT as R) (sB as R)/\(∀R',RG as nums R'->sT as R' * q.2<=q.1 * sB as R')/\(∀n∈nums,T (aS as n)+cJ as q n<=T (aG as n))/\∀x,0<=T x/\T x<=1000000000000000):=by
 obtain⟨d0,a1,a2⟩:=YS g gB lB
 rcases a2 with⟨rfl,hN⟩|⟨R,rfl,hR,CY⟩
 ·refine⟨.non,?_,.inl ⟨rfl,hN⟩⟩
  generalize bg ns as=net at *
  generalize nats nums=nl at *
  clear g hN gB lB
  unfold vh
  walk_at "mir"
 ·have me:=MB (ns:=ns) g hR
  obtain⟨lm,zm,m9,n0,n1⟩:=Gv hR g
  have cm:=Fq.mk_cross (sT as R) (sB as R)
  have hb:=hR.bds g
  obtain⟨q,hq⟩:∃q,q=Fq.mk (sT as R) (sB as R):=⟨_,rfl⟩
  rw[← hq]at me lm zm m9 n0 n1 cm
  have lg:=lm.gt
  have hM:∀n,n<as.length->cJ as q n<=160000000000:=λn hn=>by
   have o:=g.ok _ (uu hn)
   unfold cJ
   have g1:(aN as n).t * q.2<=1000000000 * 160:=cF o.t1 m9 (by omega) (by decide)
   have g2:0<=((aN as n).b:Int) * q.1:=dc (by omega) n0
   omega
  obtain⟨d,t1,t2⟩:=P0 (ns:=ns) (nums:=nums) (p:=q) gB g.m1 (by have:=g.m; omega) (by have:=g.nl; omega) g.ok (by omega) (zm.2.mono (by decide)) hM (by decide) g.n
  have sj:∀R',RG as nums R'->sT as R' * q.2<=q.1 * sB as R':=λR' kN=>ztb (by omega) lg cm (CY R' kN)
  rcases t2 with⟨T,rfl,k1,k2⟩|⟨R2,x,rfl,r1,r2,r3,r4,r5⟩
  ·refine⟨.tup [fr q,.lst (nats R),nJ many q T],?_,.inr ⟨R,q,T,rfl,hR,hq,sj,k1,λx=>⟨(k2 x).1,?_⟩⟩⟩
   ·have i1:∀(a b:D),dh (.tup [a,b]) (.int 1)=some b:=λ_ _=>rfl
    generalize nJ many q T=TM at *
    generalize fr q=F at *
    generalize nats R=rl at *
    generalize nats nums=nl at *
    generalize bg ns as=net at *
    clear k1 k2 sj hM lg hb cm n0 n1 m9 zm lm CY hR hq g lB gB
    unfold vh
    walk_at "mir"
   ·have:=(k2 x).2
    have b1:(nums.length:Int) * 160000000000<=120 * 160000000000:=by have:=g.nl; omega
    have b2:(many:Int) * ((nums.length:Int) * 160000000000)<=40 * (120 * 160000000000):=cF (by have:=g.m; omega) b1 (by omega) (by decide)
    omega
  ·exfalso
   rw[Gs]at r5
   have:=sj R2 ⟨r1,⟨x,r2⟩,r3,r4⟩
   unfold sT sB at this
   rw[cA q.1]at this
   omega
theorem YT {ns:List D}{as:List bz}(g:GN many as (aB as.length) rk mb)(gB:ns.length=many){d:D}(h:vh [bg ns as,.lst (nats (aB as.length))]=some d):uq [bg ns as]=some d:=by
 have la:dg [.lst (as.map bu)]=some (.int (as.length:Int)):=(za9 _).trans (by rw[am])
 have Fh:=Gb ns as
 have lr:gZ [.int (as.length:Int)]=some (.lst (nats (aB as.length))):=by
  show(if 0<=(as.length:Int)/\(as.length:Int)<=16777216 then some (D.lst (dZ 0 (as.length:Int).toNat))else none)=_
  rw[if_pos ⟨by omega,by have:=g.al; omega⟩]
  unfold dZ nats
  simp
 generalize as.map bu=al at *
 generalize bg ns as=net at *
 generalize nats (aB as.length)=nl at *
 clear g
 unfold uq
 walk_at "mir"
end
theorem QG {α:Type}[DecidableEq α]:∀{F L:List α},F.Nodup->L.Nodup->(∀x,x∈F↔x∈L)->F.Perm L
 |[],L,_,_,h=>by
  cases L with
  |nil=>exact .refl _
  |cons y L=>exact absurd ((h y).mpr aa) (by simp)
 |x::F,L,n1,n2,h=>by
  obtain⟨m1,m2⟩:=bi.mp n1
  have hx:=(h x).mp aa
  refine .trans (.cons x (QG m2 (n2.erase x) λy=>?_)) (mK hx).symm
  rw[n2.mem_erase_iff]
  constructor
  ·exactλhy=>⟨λz=>m1 (z ▸ hy),(h y).mp (ai _ hy)⟩
  ·rintro⟨h1,h2⟩
   rcases aA.mp ((h y).mpr h2)with z|z
   ·exact absurd z h1
   ·exact z
inductive kb (as:List bz)(g:Nat):Nat->Prop
 |self:kb as g g
 |step {a:bz}:a∈as->kb as g a.g->kb as g a.s
structure pZ (as:List bz)(g:Nat)(F:List Nat):Prop where
 nd:F.Nodup
 st:g∈F
 ok:∀x∈F,kb as g x
def iQ (as:List bz)(F:List Nat):Prop:=∀a∈as,a.g∈F->a.s∈F
theorem pZ.all {as:List bz}{g:Nat}{F:List Nat}(h:pZ as g F)(hc:iQ as F)(x:Nat):x∈F↔kb as g x:=by
 refine⟨h.ok x,λr=>?_⟩
 induction r with
 |self=>exact h.st
 |step ha _ ih=>exact hc _ ha ih
theorem Gc (F:List Nat):dW (nats F)=some (F.map λ(x:Nat)=>(x:Int)):=by
 unfold nats
 induction F with
 |nil=>rfl
 |cons x F ih=>show(dW _).bind _=_; rw[ih]; rfl
theorem W1 {F L:List Nat}(h:F.Perm L)(hl:L.length<64):km [.lst (nats F)]=km [.lst (nats L)]:=by
 show(dW (nats F)).bind _=(dW (nats L)).bind _
 rw[Gc,Gc]
 simp only[bL,am]
 rw[h.length_eq]
 have e:sortI (F.map λ(x:Nat)=>(x:Int))=sortI (L.map λ(x:Nat)=>(x:Int)):=qh ((j7 _).trans ((h.map _).trans (j7 _).symm)) (jb _) (jb _)
 rw[e]
def eo (F:List Nat)(a:bz):List Nat:=if a.g∈F/\a.s∉F then F++[a.s]else F
theorem QH {as:List bz}{g:Nat}{F:List Nat}{a:bz}(h:pZ as g F)(ha:a∈as):pZ as g (eo F a):=by
 unfold eo
 split
 ·next hc =>
  refine⟨aY.mpr ⟨h.nd,by simp,λx hx y hy=>?_⟩,aT _ h.st,λx hx=>?_⟩
  ·rw[ar.mp hy]
   exactλz=>hc.2 (z ▸ hx)
  ·rcases aM.mp hx with hx|hx
   ·exact h.ok x hx
   ·rw[ar.mp hx]; exact .step ha (h.ok _ hc.1)
 ·exact h
theorem LZ {F:List Nat}{a:bz}:∀x∈F,x∈eo F a:=λx hx=>by
 unfold eo
 split
 ·exact aT _ hx
 ·exact hx
def pass (as:List bz)(F:List Nat):List Nat:=as.foldl eo F
theorem MC {BE:List bz}{g:Nat}:∀(as:List bz) (F:List Nat),(∀a∈as,a∈BE)->pZ BE g F->pZ BE g (pass as F)/\(∀x∈F,x∈pass as F)/\(∀x∈pass as F,x∈F\/∃a∈as,a.s=x)
 |[],F,_,h=>⟨h,λ_ hx=>hx,λ_ hx=>.inl hx⟩
 |a::as,F,hs,h=>by
  obtain⟨i1,i2,i3⟩:=MC as (eo F a) (λb hb=>hs b (ai _ hb)) (QH h (hs a aa))
  refine⟨i1,λx hx=>i2 x (LZ x hx),λx hx=>?_⟩
  rcases i3 x hx with h1|⟨b,hb,h1⟩
  ·unfold eo at h1
   split at h1
   ·rcases aM.mp h1 with h1|h1
    ·exact .inl h1
    ·exact .inr ⟨a,aa,(ar.mp h1).symm⟩
   ·exact .inl h1
  ·exact .inr ⟨b,ai _ hb,h1⟩
theorem X5 (F:List Nat)(a:bz):F.length<=(eo F a).length/\((eo F a).length=F.length->eo F a=F/\(a.g∈F->a.s∈F)):=by
 unfold eo
 split
 ·rw[aI]; exact⟨pY _ _,λh=>absurd h (by simp)⟩
 ·next hc=>exact⟨aE _,λ_=>⟨rfl,λh=>Classical.byContradiction λz=>hc ⟨h,z⟩⟩⟩
theorem X6:∀(as:List bz) (F:List Nat),F.length<=(pass as F).length/\((pass as F).length=F.length->pass as F=F/\iQ as F)
 |[],F=>⟨aE _,λ_=>⟨rfl,λa ha=>(by cases ha)⟩⟩
 |a::as,F=>by
  obtain⟨l1,l2⟩:=X5 F a
  obtain⟨i1,i2⟩:=X6 as (eo F a)
  refine⟨bG l1 i1,λh=>?_⟩
  have h:(pass as (eo F a)).length=F.length:=h
  obtain⟨e1,e2⟩:=l2 (by omega)
  rw[e1]at i2 h
  obtain⟨e3,e4⟩:=i2 h
  refine⟨by show pass as (eo F a)=F; rw[e1,e3],λb hb=>?_⟩
  rcases aA.mp hb with rfl|hb
  ·exact e2
  ·exact e4 b hb
theorem P4 {g:Nat}{BE:List bz}:∀(bs:List bz) (F:List Nat),(∀a∈bs,a∈BE)->pZ BE g F->∀a∈bs,a.g∈F->a.s∈pass bs F
 |b::bs,F,hs,h,a,ha,hg=>by
  have h1:=QH h (hs b aa)
  obtain⟨_,p2,_⟩:=MC bs (eo F b) (λc hc=>hs c (ai _ hc)) h1
  rcases aA.mp ha with rfl|ha
  ·refine p2 _ ?_
   unfold eo
   by_cases hc:a.s∈F
   ·rw[if_neg (λz=>z.2 hc)]; exact hc
   ·rw[if_pos ⟨hg,hc⟩]; exact ax _ (ar.mpr rfl)
  ·exact P4 bs (eo F b) (λc hc=>hs c (ai _ hc)) h1 a ha (LZ _ hg)
theorem P5:∀(bs:List bz) (F:List Nat),∃e,pass bs F=F++e
 |[],F=>⟨[],by simp[pass]⟩
 |b::bs,F=>by
  obtain⟨e,he⟩:=P5 bs (eo F b)
  show∃e,pass bs (eo F b)=F++e
  rw[he]
  unfold eo
  split
  ·exact⟨[b.s]++e,by simp⟩
  ·exact⟨e,rfl⟩
theorem L0 (neg:Bool)(n:Nat)(out:List Nat):inD neg (.int (n:Int)) (.lst (nats out))=some (.bl (if neg then !decide (n∈out)else decide (n∈out))):=by
 have hs:(nats out).all D.sc=true:=by
  unfold nats
  rw[List.all_map]
  exact fU.mpr λx _=>rfl
 have hi:tQ (.int (n:Int)) (nats out)=decide (n∈out):=by
  unfold tQ nats
  rw[List.any_map]
  clear hs
  induction out with
  |nil=>rfl
  |cons x out ih =>
   rw[dA,ih]
   show(((x:Int) == (n:Int)) || decide (n∈out))=_
   by_cases h:x=n
   ·subst h; simp
   ·have h':¬(x:Int)=(n:Int):=by omega
    have h2:¬n=x:=λz=>h z.symm
    simp[h',h2]
 show(if _ then _ else _)=_
 rw[if_pos ⟨rfl,hs⟩,hi]
def into (as:List bz)(g:Nat):List Nat:=(as.zipIdx.filter λp=>decide (p.1.g=g)).map (·.2)
theorem ztf {ns:List D}{as:List bz}(hl:as.length<=1000)(g:Nat):qc [bg ns as,.int (g:Int)]=some (.lst (nats (into as g))):=by
 have q:∀r:L3.Env,r[0]?.join=some (bg ns as)->r[1]?.join=some (.int (g:Int))->LD r=some (.lst (nats (into as g))):=λr hr Tw=>by
  have e:(λρ=>((aCons (e1 (bP [4] "arrows") (eV 0)) aNil) ρ).bind λds=>match ds with|[.lst xs]=>some (de 0 xs)|_=>none) r=some (as.zipIdx.map λp=>D.tup [.int (p.2:Int),bu p.1]):=by
   have:eV 0 r=some (bg ns as):=hr
   have e2:e1 (bP [4] "arrows") (eV 0) r=some (.lst (as.map bu)):=by unfold e1; rw[this]; rfl
   show((aCons (e1 (bP [4] "arrows") (eV 0)) aNil) r).bind _=_
   unfold aCons
   rw[e2]
   show some (de 0 (as.map bu))=_
   rw[Gm bu]
  have hc:dm r [1]=[some (.int (g:Int))]:=by unfold dm; simp[Tw]
  have:=D4 (own:=2) (cap:=[1]) (fi:=λρ=>((aCons (e1 (bP [4] "arrows") (eV 0)) aNil) ρ).bind λds=>match ds with|[.lst xs]=>some (de 0 xs)|_=>none) (g:=gT (gsCons (gV 0) (gsCons (gV 1) gsNil))) (p:=tb (e2 (iE false) (e1 (bP [0,1,2,3] "goal") (eV 1)) (eV 2))) (f:=eV 0) (λp:bz×Nat=>D.tup [.int (p.2:Int),bu p.1]) (λp=>decide (p.1.g=g)) (λp=>D.int (p.2:Int)) as.zipIdx e (by simp; omega) (λp _=>by
    refine⟨_,rfl,?_,λ_=>rfl⟩
    rw[hc]
    have:=fg p.1
    have hd:decide ((p.1.g:Int)=(g:Int))=decide (p.1.g=g):=by
     by_cases h:p.1.g=g
     ·simp[h]
     ·have:¬(p.1.g:Int)=(g:Int):=by omega
      simp[h,this]
    rw[← hd]
    walk_at "mir")
  rw[show LD r=_ from this]
  unfold into nats
  rw[br]
  rfl
 unfold qc
 clear hl
 walk_at "mir"
theorem YU {m:Str}{f:List D->Option D}{ns:List D}{as:List bz}{ds:List D}(h:(["names","arrows"]:List Str).contains m=false):iX 4 m f (bg ns as) ds=f (bg ns as::ds):=by
 show(if 4=4/\(["names","arrows"]:List Str).contains m=false then f (bg ns as::ds)else none)=_
 rw[if_pos ⟨rfl,h⟩]
theorem Q6 {ns:List D}{as:List bz}{g d here:Nat}:∀(qs:List (bz×Nat)) (F:List Nat) (x5:Option D),here∈F->(∀p∈qs,as[p.2]?=some p.1/\p.1.g=here)->F.length+qs.length<=10000 ->
  ∃y5,eI (gV 5) uh (qs.map λp=>D.int (p.2:Int)) [some (bg ns as),some (.int (g:Int)),some (.lst (nats F)),some (.int (d:Int)),some (.int (here:Int)),x5]=some (.nx [some (bg ns as),some (.int (g:Int)),some (.lst (nats (pass (qs.map (·.1)) F))),some (.int (d:Int)),some (.int (here:Int)),y5])
 |[],F,x5,_,_,_=>⟨x5,rfl⟩
 |p::qs,F,x5,hh,hq,hl=>by
  obtain⟨tL,zJ⟩:=hq p aa
  have dI:(eo F p.1).length<=F.length+1:=by unfold eo; split <;> simp
  obtain⟨y5,hy⟩:=Q6 (ns:=ns) (g:=g) (d:=d) qs (eo F p.1) (some (.int (p.2:Int))) (LZ _ hh) (λq oK=>hq q (ai _ oK)) (by rw[aJ]at hl; omega)
  refine⟨y5,?_⟩
  have step:uh [some (bg ns as),some (.int (g:Int)),some (.lst (nats F)),some (.int (d:Int)),some (.int (here:Int)),some (.int (p.2:Int))]=some (.nx [some (bg ns as),some (.int (g:Int)),some (.lst (nats (eo F p.1))),some (.int (d:Int)),some (.int (here:Int)),some (.int (p.2:Int))]):=by
   have n1:=L0 true p.1.s F
   have f4:bP [4] "arrows" (bg ns as)=some (.lst (as.map bu)):=rfl
   have i1:dh (.lst (as.map bu)) (.int (p.2:Int))=some (bu p.1):=q0 (by rw[aP,tL]; rfl)
   have g1:=fs p.1
   have hz:(nats F).length<16777216:=by unfold nats; rw[am]; rw[aJ]at hl; omega
   by_cases hs:p.1.s∈F
   ·have e:eo F p.1=F:=by unfold eo; rw[if_neg λz=>z.2 hs]
    rw[e]
    rw[decide_eq_true hs]at n1
    generalize bg ns as=net at *
    generalize nats F=fs at *
    unfold uh
    clear hy hq hl tL zJ dI hs hh e
    walk_at "mir"
   ·have e:nats (eo F p.1)=nats F++[.int (p.1.s:Int)]:=by
     unfold eo
     rw[if_pos ⟨by rw[zJ]; exact hh,hs⟩]
     simp[nats]
    rw[e]
    rw[decide_eq_false hs]at n1
    generalize bg ns as=net at *
    generalize nats F=fs at *
    unfold uh
    clear hy hq hl tL zJ dI hs hh e
    walk_at "mir"
  show(uh [some (bg ns as),some (.int (g:Int)),some (.lst (nats F)),some (.int (d:Int)),some (.int (here:Int)),some (.int (p.2:Int))]).bind _=_
  rw[step]
  exact hy
def IW (ρ:L3.Env):Nat:=match ρ with
 |[_,_,_,some (.int d),_,_]=>(1000-d).toNat
 |_=>0
theorem YV {ns:List D}{as:List bz}{many g:Nat}(hm:many<=40)(hl:as.length<=120)(hs:∀a∈as,a.s<many)(hg:g<many):∃F:List Nat,pZ as g F/\iQ as F/\(∀x∈F,x<many)/\jk [bg ns as,.int (g:Int)]=km [.lst (nats F)]:=by
 obtain⟨ρ',h1,hI,hc⟩:=LJ (c:=tb (e2 nF (eV 3) (eN dg (aCons (eV 2) aNil)))) (b:=LF)
  (λρ=>∃(F:List Nat) (d:Nat) (x4 x5:Option D),ρ=[some (bg ns as),some (.int (g:Int)),some (.lst (nats F)),some (.int (d:Int)),x4,x5]/\pZ as g F/\(∀x∈F,x<many)/\d<=F.length/\∀i,i<d->∀a∈as,F[i]?=some a.g->a.s∈F) IW (by
   rintro ρ ⟨F,d,x4,x5,rfl,hF,gY,hd,kO⟩
   have Nt:=Kahn.len_le hF.nd gY
   have dI:(nats F).length=F.length:=by simp[nats]
   refine⟨decide (d<F.length),?_,λCW=>?_⟩
   ·have e:decide ((d:Int)<((nats F).length:Int))=decide (d<F.length):=by rw[dI]; by_cases h:d<F.length <;> simp[h] <;> omega
    rw[← e]
    generalize bg ns as=net at *
    generalize nats F=fs at *
    clear hF gY hd kO Nt dI e
    walk_at "mir"
   ·have lT:d<F.length:=by simpa using CW
    obtain⟨here,hh⟩:∃here,F[d]?=some here:=⟨_,aU lT⟩
    have Ij:here∈F:=bD.mpr ⟨_,hh⟩
    have in1:=ztf (ns:=ns) (as:=as) (by omega) here
    have TZ:=YU (m:="into") (f:=qc) (ns:=ns) (as:=as) (ds:=[.int (here:Int)]) (by decide +kernel)
    rw[in1]at TZ
    have Iy:∀p∈as.zipIdx.filter (λp=>decide (p.1.g=here)),as[p.2]?=some p.1/\p.1.g=here:=λp hp=>⟨Q2 (bx.mp hp).1,by simpa using(bx.mp hp).2⟩
    have gF:(as.zipIdx.filter (λp=>decide (p.1.g=here))).length<=120:=bG (gH _ _) (by rw[nP]; exact hl)
    have hn:nats (into as here)=(as.zipIdx.filter (λp=>decide (p.1.g=here))).map λp=>D.int (p.2:Int):=by unfold into nats; rw[br]; rfl
    have sr:∀a∈(as.zipIdx.filter (λp=>decide (p.1.g=here))).map (·.1),a∈as:=λa ha=>by
     obtain⟨p,hp,rfl⟩:=aR.mp ha
     exact bD.mpr ⟨_,(Iy p hp).1⟩
    have sg:∀a∈as,a.g=here->a∈(as.zipIdx.filter (λp=>decide (p.1.g=here))).map (·.1):=λa ha pq=>by
     have:=OT (λa:bz=>decide (a.g=here)) as 0
     rw[this]
     exact bx.mpr ⟨ha,by simpa using pq⟩
    obtain⟨y5,hy⟩:=Q6 (ns:=ns) (as:=as) (g:=g) (d:=d) (here:=here) _ F x5 Ij Iy (by omega)
    generalize (as.zipIdx.filter (λp=>decide (p.1.g=here))).map (·.1)=bs at *
    obtain⟨p1,p2,p3⟩:=MC bs F sr hF
    obtain⟨ext,n6⟩:=P5 bs F
    rw[← hn]at hy
    refine⟨[some (bg ns as),some (.int (g:Int)),some (.lst (nats (pass bs F))),some (.int ((d+1:Nat):Int)),some (.int (here:Int)),y5],.inl ?_,⟨pass bs F,d+1,_,_,rfl,p1,λx hx=>?_,?_,λi hi a ha pq=>?_⟩,?_⟩
    ·have i1:dh (.lst (nats F)) (.int (d:Int))=some (.int (here:Int)):=q0 (by unfold nats; rw[aP,hh]; rfl)
     have e1:((d+1:Nat):Int)=(d:Int)+1:=by omega
     rw[e1]
     generalize nats (pass bs F)=f2 at *
     generalize nats F=f1 at *
     generalize nats (into as here)=ms at *
     generalize bg ns as=net at *
     unfold LF pO i2
     clear hF gY hd kO Nt dI CW lT hh Ij in1 Iy gF hn sr sg p1 p2 p3 n6 e1
     walk_at "mir"
    ·rcases p3 x hx with h|⟨a,ha,rfl⟩
     ·exact gY x h
     ·exact hs a (sr a ha)
    ·rw[n6,aI]; omega
    ·by_cases jI:i<d
     ·refine p2 _ (kO i jI a ha ?_)
      rw[n6,bE (by omega)]at pq
      exact pq
     ·obtain rfl:i=d:=by omega
      rw[n6,bE lT,hh]at pq
      have pq:here=a.g:=by simpa using pq
      exact P4 bs F sr hF a (sg a ha pq.symm) (by rw[← pq]; exact Ij)
    ·show(1000-((d+1:Nat):Int)).toNat<(1000-(d:Int)).toNat
     omega) jM [some (bg ns as),some (.int (g:Int)),some (.lst (nats [g])),some (.int ((0:Nat):Int)),none,none]
  ⟨[g],0,_,_,rfl,⟨by simp,by simp,λx hx=>by rw[ar.mp hx]; exact .self⟩,λx hx=>by rw[ar.mp hx]; exact hg,bW _,λi hi=>by omega⟩ (GA (by show(1000-((0:Nat):Int)).toNat<1048576; omega))
 obtain⟨F,d,x4,x5,rfl,hF,gY,hd,kO⟩:=hI
 have dI:(nats F).length=F.length:=by simp[nats]
 have lT:d=F.length:=by
  have e:tb (e2 nF (eV 3) (eN dg (aCons (eV 2) aNil))) [some (bg ns as),some (.int (g:Int)),some (.lst (nats F)),some (.int (d:Int)),x4,x5]=some (decide ((d:Int)<((nats F).length:Int))):=rfl
  rw[e,dI]at hc
  have:¬(d:Int)<(F.length:Int):=by simpa using hc
  omega
 refine⟨F,hF,λa ha pq=>?_,gY,?_⟩
 ·obtain⟨i,hi,ei⟩:=cQ.mp pq
  exact kO i (by omega) a ha (by rw[aU hi,ei])
 ·obtain⟨v,hv⟩:∃v,km [.lst (nats F)]=some v:=by
   show∃v,(dW (nats F)).bind _=some v
   rw[Gc]
   have:=Kahn.len_le hF.nd gY
   simp only[bL,am]
   rw[if_pos (by omega)]
   exact⟨_,rfl⟩
  rw[hv]
  have e0:((0:Nat):Int)=0:=rfl
  have e1:nats [g]=[.int (g:Int)]:=rfl
  rw[e0,e1]at h1
  generalize bg ns as=net at *
  generalize nats F=fs at *
  unfold jk eA
  clear hc hF gY hd kO dI lT hg hs hl hm
  walk_at "mir"
structure Ld (many:Nat)(as:List bz)(g:Nat)(L:List Nat):Prop where
 Od:L=(aB many).filter λx=>decide (x∈L)
 mem:∀x,x∈L↔kb as g x
theorem WN {many:Nat}{F:List Nat}(nd:F.Nodup)(lt:∀x∈F,x<many)(hm:many<64):km [.lst (nats F)]=some (.lst (nats ((aB many).filter λx=>decide (x∈F)))):=by
 have T6:((aB many).filter λx=>decide (x∈F)).Nodup:=eJ.filter _ dQ
 have hl:((aB many).filter λx=>decide (x∈F)).length<64:=by
  have:=gH (λx=>decide (x∈F)) (aB many)
  rw[aX]at this
  omega
 have Od:((aB many).filter λx=>decide (x∈F)).Pairwise (· < ·):=eJ.filter _ List.pairwise_lt_range
 have p:=QG (F:=F) (L:=(aB many).filter λx=>decide (x∈F)) nd T6 λx=>by
  rw[bx,decide_eq_true_iff,aZ]
  exact⟨λh=>⟨lt x h,h⟩,λh=>h.2⟩
 rw[W1 p hl]
 generalize (aB many).filter (λx=>decide (x∈F))=L at *
 show(dW (nats L)).bind _=_
 rw[Gc]
 simp only[bL,am]
 rw[if_pos hl]
 have e:sortI (L.map λ(x:Nat)=>(x:Int))=L.map λ(x:Nat)=>(x:Int):=qh (j7 _) (jb _) (ej.mpr (Od.imp λh=>by omega))
 rw[e,br]
 rfl
theorem zt6 {many:Nat}{as:List bz}{g:Nat}{F:List Nat}(h:pZ as g F)(hc:iQ as F)(lt:∀x∈F,x<many):Ld many as g ((aB many).filter λx=>decide (x∈F)):=by
 have m:∀x,x∈(aB many).filter (λx=>decide (x∈F))↔x∈F:=λx=>by
  rw[bx,decide_eq_true_iff,aZ]
  exact⟨λh=>h.2,λh=>⟨lt x h,h⟩⟩
 refine⟨?_,λx=>(m x).trans (h.all hc x)⟩
 exact List.filter_congr λx _=>decide_eq_decide.mpr (m x).symm
theorem YW {ns:List D}{as:List bz}{many g:Nat}(hm:many<=40)(hl:as.length<=120)(hs:∀a∈as,a.s<many)(hg:g<many):∃L:List Nat,jk [bg ns as,.int (g:Int)]=some (.lst (nats L))/\Ld many as g L:=by
 obtain⟨F,h1,h2,h3,h4⟩:=YV (ns:=ns) hm hl hs hg
 exact⟨_,h4.trans (WN h1.nd h3 (by omega)),zt6 h1 h2 h3⟩
theorem ztg (as:List bz)(f:bz->Int)(g x:Nat):kb (as.map λa=>fR a (f a)) g x↔kb as g x:=by
 constructor
 ·intro h
  induction h with
  |self=>exact .self
  |step ha _ ih =>
   obtain⟨a,h1,rfl⟩:=aR.mp ha
   exact kb.step (a:=a) h1 ih
 ·intro h
  induction h with
  |self=>exact .self
  |@step a ha _ ih=>exact kb.step (a:=fR a (f a)) (aR.mpr ⟨a,ha,rfl⟩) ih
def cT:Option (Int×Int)->D
 |none=>.non
 |some q=>fr q
def Kq:Option (Int×Int)->PyData
 |none=>.none
 |some q=>.tuple [.int q.1,.int q.2]
def Rc:EncD (Option (Int×Int)):=⟨cT,Kq,1,λx=>by cases x <;> simp[cT,Kq,fr,D.py,D.pys],λx=>by cases x <;> rfl,λx=>by cases x <;> simp[Kq,PyData.depth,PyData.depthAll],λx y=>by
 cases x with
 |none=>cases y <;> rfl
 |some a =>
  cases y with
  |none=>rfl
  |some b =>
   have:=(E2 Ei Ei).eqv a b
   show PyData.eqv (.tuple [.int a.1,.int a.2]) (.tuple [.int b.1,.int b.2])=_
   exact this.trans (decide_eq_decide.mpr (by simp))⟩
def qL (L:List (Option (Int×Int))):D:=.lst (L.map cT)
def Cu (many:Nat)(P:List Nat)(tp:Nat->Int)(W:Int):List (Option (Int×Int)):=(aB many).map λg=>if g∈P then some (Fq.mk (tp g) W)else none
def numsL (as:List bz)(L:List Nat):List Nat:=(as.zipIdx.filter λp=>decide (p.1.g∈L)).map (·.2)
theorem vf {as:List bz}{L:List Nat}{n:Nat}:n∈numsL as L↔n<as.length/\aG as n∈L:=by
 unfold numsL
 rw[aR]
 constructor
 ·rintro⟨p,hp,rfl⟩
  obtain⟨h1,h2⟩:=bx.mp hp
  have h3:=Q2 h1
  have h4:=(aK.mp h3).1
  refine⟨h4,?_⟩
  have e:aN as p.2=p.1:=by unfold aN; rw[h3]; rfl
  unfold aG
  rw[e]
  exact of_decide_eq_true h2
 ·rintro⟨h1,h2⟩
  refine⟨(aN as n,n),bx.mpr ⟨jY.mpr (Ck h1),decide_eq_true h2⟩,rfl⟩
theorem LN (as:List bz)(L:List Nat):(numsL as L).length<=as.length:=by
 unfold numsL
 rw[am]
 have:=gH (λp:bz×Nat=>decide (p.1.g∈L)) as.zipIdx
 rw[nP]at this
 exact this
theorem GN.along {many:Nat}{as:List bz}{nums dC:List Nat}{rk:Nat->Nat}{mb:Nat}(g:GN many as nums rk mb)(h1:∀n∈dC,n<as.length)(h2:dC.length<=120):GN many as dC rk mb:=⟨g.m1,g.m,g.al,g.ok,h1,h2,g.r,g.b1,g.b4,g.b⟩
theorem zth {ns:List D}{as:List bz}{L:List Nat}(hl:as.length<=1000)(r:L3.Env)(hr:r[0]?.join=some (bg ns as))(BR:r[2]?.join=some (.lst (nats L))):LY r=some (.lst (nats (numsL as L))):=by
 have e:(λρ=>((aCons (e1 (bP [4] "arrows") (eV 0)) aNil) ρ).bind λds=>match ds with|[.lst xs]=>some (de 0 xs)|_=>none) r=some (as.zipIdx.map λp=>D.tup [.int (p.2:Int),bu p.1]):=by
  have:eV 0 r=some (bg ns as):=hr
  have e2:e1 (bP [4] "arrows") (eV 0) r=some (.lst (as.map bu)):=by unfold e1; rw[this]; rfl
  show((aCons (e1 (bP [4] "arrows") (eV 0)) aNil) r).bind _=_
  unfold aCons
  rw[e2]
  show some (de 0 (as.map bu))=_
  rw[Gm bu]
 have hc:dm r [2]=[some (.lst (nats L))]:=by unfold dm; simp[BR]
 have:=D4 (own:=2) (cap:=[2]) (fi:=λρ=>((aCons (e1 (bP [4] "arrows") (eV 0)) aNil) ρ).bind λds=>match ds with|[.lst xs]=>some (de 0 xs)|_=>none) (g:=gT (gsCons (gV 0) (gsCons (gV 1) gsNil))) (p:=tb (e2 (inD false) (e1 (bP [0,1,2,3] "goal") (eV 1)) (eV 2))) (f:=eV 0) (λp:bz×Nat=>D.tup [.int (p.2:Int),bu p.1]) (λp=>decide (p.1.g∈L)) (λp=>D.int (p.2:Int)) as.zipIdx e (by simp; omega) (λp _=>by
   refine⟨_,rfl,?_,λ_=>rfl⟩
   rw[hc]
   have f1:=fg p.1
   have q:=L0 false p.1.g L
   rw[if_neg (by decide)]at q
   generalize decide (p.1.g∈L)=bb at *
   generalize bu p.1=ea at *
   generalize nats L=nl at *
   clear hc e hr BR hl
   walk_at "mir")
 rw[show LY r=_ from this]
 unfold numsL nats
 rw[br]
 rfl
theorem Zu {many:Nat}{L:List Nat}{q:Int×Int}{T:Nat->Int}{x y:D}(hm:many<=1000)(r:L3.Env)(BR:r[2]?.join=some (.lst (nats L)))(Iz:r[3]?.join=some (.tup [x,y,nJ many q T])):LX r=some (qL (Cu many L T q.2)):=by
 have e:(λρ=>((aCons (e2 dh (eV 3) (eC (.int 2))) aNil) ρ).bind λds=>match ds with|[.lst xs]=>some (de 0 xs)|_=>none) r=some ((aB many).zipIdx.map λp=>D.tup [.int (p.2:Int),fr (Fq.mk (T p.1) q.2)]):=by
  have:eV 3 r=some (.tup [x,y,nJ many q T]):=Iz
  have p7:e2 dh (eV 3) (eC (.int 2)) r=some (nJ many q T):=by unfold e2; rw[this]; rfl
  show((aCons (e2 dh (eV 3) (eC (.int 2))) aNil) r).bind _=_
  unfold aCons
  rw[p7]
  show some (de 0 ((aB many).map λg=>fr (Fq.mk (T g) q.2)))=_
  rw[Gm (λg=>fr (Fq.mk (T g) q.2))]
 have hc:dm r [2]=[some (.lst (nats L))]:=by unfold dm; simp[BR]
 have:=v6 (own:=2) (cap:=[2]) (fi:=λρ=>((aCons (e2 dh (eV 3) (eC (.int 2))) aNil) ρ).bind λds=>match ds with|[.lst xs]=>some (de 0 xs)|_=>none) (g:=gT (gsCons (gV 0) (gsCons (gV 1) gsNil))) (f:=eIf (tb (e2 (inD false) (eV 0) (eV 2))) (eV 1) (eC .non)) (λp:Nat×Nat=>D.tup [.int (p.2:Int),fr (Fq.mk (T p.1) q.2)]) (λp=>cT (if p.2∈L then some (Fq.mk (T p.1) q.2)else none)) (aB many).zipIdx e (by simp; omega) (λp _=>by
   refine⟨_,rfl,?_⟩
   rw[hc]
   have qq:=L0 false p.2 L
   rw[if_neg (by decide)]at qq
   by_cases h:p.2∈L
   ·rw[if_pos h]
    rw[decide_eq_true h]at qq
    show _=some (fr (Fq.mk (T p.1) q.2))
    generalize fr (Fq.mk (T p.1) q.2)=F at *
    generalize nats L=nl at *
    clear hc e BR Iz hm h
    walk_at "mir"
   ·rw[if_neg h]
    rw[decide_eq_false h]at qq
    show _=some D.non
    generalize fr (Fq.mk (T p.1) q.2)=F at *
    generalize nats L=nl at *
    clear hc e BR Iz hm h
    walk_at "mir")
 rw[show LX r=_ from this]
 unfold qL Cu
 congr 2
 apply jJ
 ·simp
 ·intro i h1 h2
  simp
theorem zti {ns:List D}{many:Nat}{as:List bz}{rk:Nat->Nat}{mb g:Nat}{L:List Nat}(gn:GN many as (aB as.length) rk mb)(gB:ns.length=many)(lB:iX 4 "most_behind" ym (bg ns as) []=some (.int (mb:Int)))(pC:jk [bg ns as,.int (g:Int)]=some (.lst (nats L))) :
  ∃d,Ec [bg ns as,.int (g:Int)]=some d/\((d=.non/\∀R,¬RG as (numsL as L) R)\/∃(R:List Nat) (q:Int×Int) (T:Nat->Int),d=.tup [fr q,.lst (nats R),qL (Cu many L T q.2)]/\RG as (numsL as L) R/\q=Fq.mk (sT as R) (sB as R)/\(∀R',RG as (numsL as L) R'->sT as R' * q.2<=q.1 * sB as R')/\(∀n∈numsL as L,T (aS as n)+cJ as q n<=T (aG as n))/\∀x,0<=T x/\T x<=1000000000000000):=by
 have g2:=gn.along (dC:=numsL as L) (λn hn=>(vf.mp hn).1) (by have:=LN as L; have:=gn.al; omega)
 obtain⟨d,h1,h2⟩:=QF g2 gB lB
 have qn:=zth (ns:=ns) (as:=as) (L:=L) (by have:=gn.al; omega) [some (bg ns as),some (.int (g:Int)),some (.lst (nats L)),none,none] rfl rfl
 rcases h2 with⟨rfl,hN⟩|⟨R,q,T,rfl,hR⟩
 ·refine⟨.non,?_,.inl ⟨rfl,hN⟩⟩
  generalize nats (numsL as L)=nn at *
  generalize nats L=nl at *
  generalize bg ns as=net at *
  clear hN g2 gn lB gB
  unfold Ec
  walk_at "mir"
 ·refine⟨.tup [fr q,.lst (nats R),qL (Cu many L T q.2)],?_,.inr ⟨R,q,T,rfl,hR⟩⟩
  have qt:=Zu (many:=many) (L:=L) (q:=q) (T:=T) (x:=fr q) (y:=.lst (nats R)) (by have:=gn.m; omega) [some (bg ns as),some (.int (g:Int)),some (.lst (nats L)),some (.tup [fr q,.lst (nats R),nJ many q T]),none] rfl rfl
  have i0:∀a b c:D,dh (.tup [a,b,c]) (.int 0)=some a:=λ_ _ _=>rfl
  have i1:∀a b c:D,dh (.tup [a,b,c]) (.int 1)=some b:=λ_ _ _=>rfl
  generalize nats (numsL as L)=nn at *
  generalize nats L=nl at *
  generalize nats R=rl at *
  generalize bg ns as=net at *
  generalize qL (Cu many L T q.2)=ol at *
  generalize nJ many q T=tm at *
  generalize fr q=F at *
  clear hR g2 gn lB gB
  unfold Ec
  walk_at "mir"
theorem zt7 {many:Nat}{rk:Nat->Nat}{as:List bz}{ns:List D}(h1:1<=many)(h2:many<=40)(h3:as.length<=120)(gX:∀a∈as,Drawn many rk a):∃mb:Nat,iX 4 "most_behind" ym (bg ns (as.map λa=>fR a (a.s:Int))) []=some (.int (mb:Int))/\(∀nums:List Nat,(∀n∈nums,n<as.length)->nums.length<=120->GN many (as.map λa=>fR a (a.s:Int)) nums rk mb)/\∀nums:List Nat,(∀n∈nums,n<as.length)->nums.length<=120->GN many as nums rk mb:=by
 obtain⟨mb,m1,m2,m3,m4⟩:=YQ (ns:=ns) (as:=as.map λa=>fR a (a.s:Int)) (by rw[am]; exact h3)
 have Nz:mb<=4:=m4 4 (by decide) λa ha=>by
  obtain⟨a',h,rfl⟩:=aR.mp ha
  exact(gX a' h).b
 refine⟨mb,m1,λnums hn hl=>⟨h1,h2,by rw[am]; exact h3,λa ha=>?_,λn hx=>by rw[am]; exact hn n hx,hl,λa ha=>?_,m2,Nz,m3⟩,λnums hn hl=>⟨h1,h2,h3,λa ha=>⟨(gX a ha).s,(gX a ha).g,(gX a ha).t0,(gX a ha).t1,(gX a ha).b⟩,hn,hl,λa ha=>(gX a ha).r,m2,Nz,λa ha=>m3 (fR a (a.s:Int)) (aR.mpr ⟨a,ha,rfl⟩)⟩⟩
 ·obtain⟨a',h,rfl⟩:=aR.mp ha
  exact⟨(gX a' h).s,(gX a' h).g,(gX a' h).t0,(gX a' h).t1,(gX a' h).b⟩
 ·obtain⟨a',h,rfl⟩:=aR.mp ha
  exact(gX a' h).r
theorem P6 {as:List bz}{f:bz->Int}{L:List Nat}{n:Nat}:n∈numsL (as.map λa=>fR a (f a)) L↔n∈numsL as L:=by
 rw[vf,vf,am,Cm]
theorem M6 {as:List bz}{f:bz->Int}{L R:List Nat}:RG (as.map λa=>fR a (f a)) (numsL (as.map λa=>fR a (f a)) L) R↔RG as (numsL as L) R:=by
 constructor
 ·intro h
  have w:=h.w
  have nd:=h.nd
  rw[M3,Cm]at w
  rw[Cm]at nd
  exact⟨h.ne,w,nd,λn hn=>P6.mp (h.m n hn)⟩
 ·intro h
  refine⟨h.ne,?_,?_,λn hn=>P6.mpr (h.m n hn)⟩
  ·rw[M3,Cm]; exact h.w
  ·rw[Cm]; exact h.nd
theorem GY (as:List bz)(f:bz->Int)(R:List Nat):sT (as.map λa=>fR a (f a)) R=sT as R:=by
 unfold sT
 have:tN (as.map λa=>fR a (f a))=tN as:=funext λn=>(GX as f n).2.2.1
 rw[this]
theorem GV (as:List bz)(f:bz->Int)(R:List Nat):sB (as.map λa=>fR a (f a)) R=sB as R:=by
 unfold sB
 have:bN (as.map λa=>fR a (f a))=bN as:=funext λn=>by unfold bN; rw[(GX as f n).2.2.2]
 rw[this]
structure lh (S:Int->Int->Prop)(o:Option (Int×Int)):Prop where
 pos:∀t b,S t b->1<=b
 is:(o=none/\∀t b,¬S t b)\/∃(t b:Int) (q:Int×Int),o=some q/\S t b/\q=Fq.mk t b/\∀t' b',S t' b'->t' * q.2<=q.1 * b'
theorem P7 {t b:Int}(hb:1<=b){q:Int×Int}(hq:0<q.2){p:Int×Int}(hp:p=Fq.mk t b)(h:t * q.2<=q.1 * b):p.1 * q.2<=q.1 * p.2:=by
 have cr:=Fq.mk_cross t b
 rw[← hp]at cr
 have lo:Fq.Low p:=by rw[hp]; exact Fq.mk_low (by omega)
 have hg:=lo.gt
 have h1:b * (p.1 * q.2)<=b * (q.1 * p.2):=by
  have e1:b * (p.1 * q.2)=t * q.2 * p.2:=by
   rw[← cV,cA b p.1,cr,cV,cV,cA p.2 q.2]
  have e2:b * (q.1 * p.2)=q.1 * b * p.2:=by
   rw[← cV,cA b q.1]
  rw[e1,e2]
  exact aL h (by omega)
 exact fL h1 (by omega)
theorem lh.uniq {S:Int->Int->Prop}{o o':Option (Int×Int)}(h:lh S o)(h':lh S o'):o=o':=by
 rcases h.is with⟨rfl,hn⟩|⟨t,b,q,rfl,hS,hq,hm⟩
 ·rcases h'.is with⟨rfl,_⟩|⟨t,b,q,rfl,hS,_,_⟩
  ·rfl
  ·exact absurd hS (hn t b)
 ·rcases h'.is with⟨rfl,hn⟩|⟨t',b',q',rfl,nD,oK,n9⟩
  ·exact absurd hS (hn t b)
  ·have hb:=h.pos t b hS
   have BJ:=h.pos t' b' nD
   have lo:Fq.Low q:=by rw[hq]; exact Fq.mk_low (by omega)
   have N1:Fq.Low q':=by rw[oK]; exact Fq.mk_low (by omega)
   have h1:=P7 hb N1.gt hq (n9 t b hS)
   have h2:=P7 BJ lo.gt oK (hm t' b' nD)
   exact congrArg some (Fq.uniq lo N1 (by omega))
theorem lh.congr {S S':Int->Int->Prop}{o:Option (Int×Int)}(h:lh S o)(e:∀t b,S t b↔S' t b):lh S' o:=by
 have:S=S':=funext λt=>funext λb=>propext (e t b)
 rw[← this]
 exact h
theorem lh.more {S S':Int->Int->Prop}{o:Option (Int×Int)}(w:Int)(h:lh S o)(e1:∀t b,S t b->S' (t+w * b) b)(e2:∀t b,S' t b->S (t-w * b) b):lh S' (o.map λq=>(q.1+w * q.2,q.2)):=by
 refine⟨λt b hS=>h.pos _ _ (e2 t b hS),?_⟩
 rcases h.is with⟨rfl,hn⟩|⟨t,b,q,rfl,hS,hq,hm⟩
 ·exact .inl ⟨rfl,λt b hS=>hn _ _ (e2 t b hS)⟩
 ·have hb:=h.pos t b hS
  have lo:Fq.Low q:=by rw[hq]; exact Fq.mk_low (by omega)
  have cr:=Fq.mk_cross t b
  rw[← hq]at cr
  refine .inr ⟨t+w * b,b,(q.1+w * q.2,q.2),rfl,e1 t b hS,?_,λt' b' nD=>?_⟩
  ·refine Fq.eq_mk ⟨lo.pos,?_⟩ (by omega) ?_
   ·show bF (q.1+w * q.2) q.2=1
    refine fC.mpr λc h1 h2=>fC.mp lo.cop c ?_ h2
    have h3:=Int.dvd_sub h1 (lJ (b:=w) h2)
    rwa[Int.add_sub_cancel]at h3
   ·show(q.1+w * q.2) * b=(t+w * b) * q.2
    rw[eO,eO,cr,cV,cV,cA q.2 b]
  ·have:=hm _ _ (e2 t' b' nD)
   show t' * q.2<=(q.1+w * q.2) * b'
   rw[eO]
   rw[Int.sub_mul]at this
   have e:w * q.2 * b'=w * b' * q.2:=by rw[cV,cV,cA q.2 b']
   omega
theorem lh.times {S S':Int->Int->Prop}{o:Option (Int×Int)}{w:Int}(hw:1<=w)(h:lh S o)(e1:∀t b,S t b->S' (t * w) b)(e2:∀t b,S' t b->∃t',t=t' * w/\S t' b):lh S' (o.map λq=>(q.1 * (w / (bF q.2 w:Nat)),q.2 / (bF q.2 w:Nat))):=by
 refine⟨λt b hS=>by obtain⟨t',_,nD⟩:=e2 t b hS; exact h.pos _ _ nD,?_⟩
 rcases h.is with⟨rfl,hn⟩|⟨t,b,q,rfl,hS,hq,hm⟩
 ·exact .inl ⟨rfl,λt b hS=>by obtain⟨t',_,nD⟩:=e2 t b hS; exact hn _ _ nD⟩
 ·have hb:=h.pos t b hS
  have lo:Fq.Low q:=by rw[hq]; exact Fq.mk_low (by omega)
  have hg:=lo.gt
  have cr:=Fq.mk_cross t b
  rw[← hq]at cr
  obtain⟨d,hd,hd1⟩:∃d:Int,((bF q.2 w:Nat):Int)=d/\1<=d:=⟨_,rfl,by
   have:=Int.gcd_pos_of_ne_zero_left w (a:=q.2) (by omega)
   omega⟩
  obtain⟨x,hx⟩:d ∣ q.2:=by rw[← hd]; exact fZ ..
  obtain⟨y,hy⟩:d ∣ w:=by rw[← hd]; exact fN ..
  have ex:q.2 / d=x:=by rw[hx]; exact lK x (by omega)
  have ey:w / d=y:=by rw[hy]; exact lK y (by omega)
  have TJ:0<x:=by
   have:0<d * x:=by rw[← hx]; exact hg
   apply Classical.byContradiction
   intro hn
   have h2:=bc (show x<=0 by omega) (show 0<=d by omega)
   rw[Int.mul_zero]at h2
   omega
  have Ni:q.1 * y * q.2=q.1 * w * x:=by rw[hx,hy]; grind
  have T4:Fq.Low (q.1 * y,x):=by
   refine⟨by show 1<=x; omega,?_⟩
   show bF (q.1 * y) x=1
   have c1:bF q.1 x=1:=by
    exact fC.mpr λc h1 h2=>fC.mp lo.cop c h1 (by rw[hx]; exact lJ h2)
   have c2:bF y x=1:=by
    have:=hd
    rw[hx,hy,pU]at this
    have h2:(d.natAbs * bF x y:Nat)=d.natAbs:=by omega
    have h3:bF x y=1:=by
     have hp:0<d.natAbs:=by omega
     exact kY hp (by omega)
    rw[Int.gcd_comm]; exact h3
   rw[Int.gcd_mul_right_left_of_gcd_eq_one c1]
   exact c2
  refine .inr ⟨t * w,b,(q.1 * y,x),?_,e1 t b hS,Fq.eq_mk T4 (by omega) ?_,λt' b' nD=>?_⟩
  ·show some (q.1 * (w / ((bF q.2 w:Nat):Int)),q.2 / ((bF q.2 w:Nat):Int))=_
   rw[hd,ex,ey]
  ·show q.1 * y * b=t * w * x
   have h1:q.2 * (q.1 * y * b)=q.2 * (t * w * x):=by
    have e3:q.2 * (q.1 * y * b)=(q.1 * y * q.2) * b:=by grind
    have e4:q.2 * (t * w * x)=(t * q.2) * (w * x):=by grind
    rw[e3,Ni,e4,← cr]
    grind
   exact fK (by omega) h1
  ·obtain⟨t1,rfl,S4⟩:=e2 t' b' nD
   have h1:=hm _ _ S4
   show t1 * w * x<=q.1 * y * b'
   have h2:q.2 * (t1 * w * x)<=q.2 * (q.1 * y * b'):=by
    have e3:q.2 * (t1 * w * x)=(t1 * q.2) * (w * x):=by grind
    have e4:q.2 * (q.1 * y * b')=(q.1 * b') * (w * x):=by
     have:q.2 * (q.1 * y * b')=(q.1 * y * q.2) * b':=by grind
     rw[this,Ni]
     grind
    rw[e3,e4]
    exact aL h1 (bO (bV (by omega) TJ))
   exact fL h2 (by omega)
structure iW (as er:List bz)(p:Nat->Nat)(many:Nat)(π σ:Nat->Nat):Prop where
 len:er.length=as.length
 inj:∀x y,x<many->y<many->p x=p y->x=y
 lt:∀a∈as,a.s<many/\a.g<many
 to:∀n,n<as.length->π n<as.length
 fro:∀n,n<as.length->σ n<as.length
 rs:∀n,n<as.length->π (σ n)=n
 at_:∀n,n<as.length->(aN er n).s=p (aN as (π n)).s/\(aN er n).g=p (aN as (π n)).g/\(aN er n).t=(aN as (π n)).t/\(aN er n).b=(aN as (π n)).b
section
variable {as er:List bz}{p:Nat->Nat}{many:Nat}{π σ:Nat->Nat}
theorem iW.sl (h:iW as er p many π σ){n:Nat}(hn:n<as.length):aS as (π n)<many:=(h.lt _ (uu (h.to n hn))).1
theorem iW.gl (h:iW as er p many π σ){n:Nat}(hn:n<as.length):aG as (π n)<many:=(h.lt _ (uu (h.to n hn))).2
theorem iW.wlk (h:iW as er p many π σ):∀{w:List Nat} {a b':Nat},a<many->(∀n∈w,n<as.length)->kc (aS er) (aG er) (p a) w b'->∃b,b<many/\b'=p b/\kc (aS as) (aG as) a (w.map π) b
 |[],a,b',ha,_,hw=>⟨a,ha,hw.symm,rfl⟩
 |n::w,a,b',ha,hn,hw=>by
  have qC:=hn n aa
  obtain⟨e1,e2,_,_⟩:=h.at_ n qC
  have h1:aS er n=p a:=hw.1
  have h2:aS as (π n)=a:=h.inj _ _ (h.sl qC) ha (e1.symm.trans h1)
  have h3:kc (aS er) (aG er) (p (aG as (π n))) w b':=by
   have:=hw.2
   rw[show aG er n=p (aG as (π n))from e2]at this
   exact this
  obtain⟨b,hb,e,TH⟩:=iW.wlk h (h.gl qC) (λm hm=>hn m (ai _ hm)) h3
  exact⟨b,hb,e,h2,TH⟩
theorem iW.wlkB (h:iW as er p many π σ):∀{w:List Nat} {a b:Nat},(∀n∈w,n<as.length)->kc (aS as) (aG as) a w b->kc (aS er) (aG er) (p a) (w.map σ) (p b)
 |[],a,b,_,hw=>congrArg p hw
 |n::w,a,b,hn,hw=>by
  have qC:=hn n aa
  obtain⟨e1,e2,_,_⟩:=h.at_ (σ n) (h.fro n qC)
  rw[h.rs n qC]at e1 e2
  have ih:=iW.wlkB h (λm hm=>hn m (ai _ hm)) hw.2
  refine⟨?_,?_⟩
  ·show(aN er (σ n)).s=p a
   rw[e1]
   exact congrArg p hw.1
  ·show kc (aS er) (aG er) (aG er (σ n)) (w.map σ) (p b)
   rw[show aG er (σ n)=p (aG as n)from e2]
   exact ih
theorem iW.sums (h:iW as er p many π σ){w:List Nat}(hn:∀n∈w,n<as.length):sT er w=sT as (w.map π)/\sB er w=sB as (w.map π):=by
 unfold sT sB
 rw[br,br]
 constructor
 ·congr 1
  exact cw λn m6=>(h.at_ n (hn n m6)).2.2.1
 ·congr 1
  refine cw λn m6=>?_
  show((aN er n).b:Int)=((aN as (π n)).b:Int)
  rw[(h.at_ n (hn n m6)).2.2.2]
theorem iW.ring (h:iW as er p many π σ){nums dC R:List Nat}(hl:∀n∈dC,n<as.length)(hm:∀n∈dC,π n∈nums)(hR:RG er dC R):RG as nums (R.map π):=by
 have hn:∀n∈R,n<as.length:=λn hn=>hl n (hR.m n hn)
 refine⟨by simpa using hR.ne,?_,?_,λm n9=>?_⟩
 ·obtain⟨x',hx⟩:=hR.w
  obtain⟨n,w,rfl⟩:∃n w,R=n::w:=by
   cases R with
   |nil=>exact absurd rfl hR.ne
   |cons n w=>exact⟨n,w,rfl⟩
  have qC:=hn n aa
  have e:x'=p (aS as (π n)):=(show aS er n=x' from hx.1).symm.trans (h.at_ n qC).1
  rw[e]at hx
  obtain⟨b,hb,e2,hw⟩:=h.wlk (h.sl qC) hn hx
  have:aS as (π n)=b:=h.inj _ _ (h.sl qC) hb e2
  rw[← this]at hw
  exact⟨_,hw⟩
 ·have nd:=hR.nd
  rw[br]
  refine ej.mpr ((ej.mp nd).imp_of_mem λ{a b} ha hb nZ e=>nZ ?_)
  show(aN er a).g=(aN er b).g
  rw[(h.at_ a (hn a ha)).2.1,(h.at_ b (hn b hb)).2.1]
  exact congrArg p e
 ·obtain⟨n,h1,rfl⟩:=aR.mp n9
  exact hm n (hR.m n h1)
theorem iW.ringB (h:iW as er p many π σ){nums dC R:List Nat}(hl:∀n∈nums,n<as.length)(hm:∀n∈nums,σ n∈dC)(hR:RG as nums R):RG er dC (R.map σ):=by
 have hn:∀n∈R,n<as.length:=λn hn=>hl n (hR.m n hn)
 refine⟨by simpa using hR.ne,?_,?_,λm n9=>?_⟩
 ·obtain⟨x,hx⟩:=hR.w
  exact⟨_,h.wlkB hn hx⟩
 ·rw[br]
  refine ej.mpr ((ej.mp hR.nd).imp_of_mem λ{a b} ha hb nZ e=>nZ ?_)
  have e:(aN er (σ a)).g=(aN er (σ b)).g:=e
  rw[(h.at_ _ (h.fro a (hn a ha))).2.1,(h.at_ _ (h.fro b (hn b hb))).2.1,h.rs a (hn a ha),h.rs b (hn b hb)]at e
  exact h.inj _ _ (h.lt _ (uu (hn a ha))).2 (h.lt _ (uu (hn b hb))).2 e
 ·obtain⟨n,h1,rfl⟩:=aR.mp n9
  exact hm n (hR.m n h1)
def Rs (as:List bz)(nums:List Nat)(t b:Int):Prop:=∃R,RG as nums R/\sT as R=t/\sB as R=b
theorem iW.same (h:iW as er p many π σ){nums dC:List Nat}(h1:∀n∈dC,n<as.length/\π n∈nums)(h2:∀n∈nums,n<as.length/\σ n∈dC)(t b:Int):Rs as nums t b↔Rs er dC t b:=by
 constructor
 ·rintro⟨R,hR,rfl,rfl⟩
  have hn:∀n∈R,n<as.length:=λn hn=>(h2 n (hR.m n hn)).1
  have hs:=h.sums (w:=R.map σ) (λm hm=>by
   obtain⟨n,m6,rfl⟩:=aR.mp hm
   exact h.fro n (hn n m6))
  have e:(R.map σ).map π=R:=by
   rw[br]
   exact(cw λn m6=>h.rs n (hn n m6)).trans (List.map_id R)
  rw[e]at hs
  exact⟨R.map σ,h.ringB (λn hn=>(h2 n hn).1) (λn hn=>(h2 n hn).2) hR,hs.1,hs.2⟩
 ·rintro⟨R,hR,rfl,rfl⟩
  have hs:=h.sums (w:=R) λn hn=>(h1 n (hR.m n hn)).1
  exact⟨R.map π,h.ring (λn hn=>(h1 n hn).1) (λn hn=>(h1 n hn).2) hR,hs.1.symm,hs.2.symm⟩
theorem iW.rch (h:iW as er p many π σ){g x':Nat}(hg:g<many)(hr:kb er (p g) x'):∃x,x<many/\x'=p x/\kb as g x:=by
 induction hr with
 |self=>exact⟨g,hg,rfl,.self⟩
 |@step a' nY _ ih =>
  obtain⟨x,hx,e,hR⟩:=ih
  obtain⟨n,hn⟩:=bD.mp nY
  have hl:n<as.length:=by rw[← h.len]; exact(aK.mp hn).1
  have ea:aN er n=a':=by unfold aN; rw[hn]; rfl
  obtain⟨e1,e2,_,_⟩:=h.at_ n hl
  rw[ea]at e1 e2
  have:(aN as (π n)).g=x:=h.inj _ _ (h.gl hl) hx (e2.symm.trans e)
  exact⟨_,h.sl hl,e1,.step (a:=aN as (π n)) (uu (h.to n hl)) (by rw[this]; exact hR)⟩
theorem iW.rchB (h:iW as er p many π σ){g x:Nat}(hr:kb as g x):kb er (p g) (p x):=by
 induction hr with
 |self=>exact .self
 |@step a ha _ ih =>
  obtain⟨n,hn⟩:=bD.mp ha
  have hl:=(aK.mp hn).1
  have ea:aN as n=a:=by unfold aN; rw[hn]; rfl
  obtain⟨e1,e2,_,_⟩:=h.at_ (σ n) (h.fro n hl)
  rw[h.rs n hl,ea]at e1 e2
  rw[← e1]
  exact .step (uu (by rw[h.len]; exact h.fro n hl)) (by rw[e2]; exact ih)
theorem iW.sameL (h:iW as er p many π σ){g:Nat}{L L':List Nat}(hg:g<many)(hL:∀x,x∈L↔kb as g x)(Fl:∀x,x∈L'↔kb er (p g) x)(t b:Int):Rs as (numsL as L) t b↔Rs er (numsL er L') t b:=by
 refine h.same (λn hn=>?_) (λn hn=>?_) t b
 ·obtain⟨h1,h2⟩:=vf.mp hn
  rw[h.len]at h1
  refine⟨h1,vf.mpr ⟨h.to n h1,(hL _).mpr ?_⟩⟩
  obtain⟨x,hx,e,hR⟩:=h.rch hg ((Fl _).mp h2)
  have:aG as (π n)=x:=h.inj _ _ (h.gl h1) hx ((h.at_ n h1).2.1.symm.trans e)
  rw[this]
  exact hR
 ·obtain⟨h1,h2⟩:=vf.mp hn
  refine⟨h1,vf.mpr ⟨by rw[h.len]; exact h.fro n h1,(Fl _).mpr ?_⟩⟩
  have e:=(h.at_ (σ n) (h.fro n h1)).2.1
  rw[h.rs n h1]at e
  show kb er (p g) (aN er (σ n)).g
  rw[e]
  exact h.rchB ((hL _).mp h2)
theorem iW.sameA (h:iW as er p many π σ)(t b:Int):Rs as (aB as.length) t b↔Rs er (aB er.length) t b:=by
 refine h.same (λn hn=>?_) (λn hn=>?_) t b
 ·have:=aZ.mp hn
  rw[h.len]at this
  exact⟨this,aZ.mpr (h.to n this)⟩
 ·have:=aZ.mp hn
  exact⟨this,aZ.mpr (by rw[h.len]; exact h.fro n this)⟩
end
theorem Xr {as:List bz}{many k:Nat}{p:Nat->Nat}{f:bz->bz}(Il:∀x y,x<many->y<many->p x=p y->x=y)(gY:∀a∈as,a.s<many/\a.g<many)(hf:∀a,(f a).s=p a.s/\(f a).g=p a.g/\(f a).t=a.t/\(f a).b=a.b)(hk:k<=as.length) :
  iW as ((as.map f).drop k++((as.map f).take k).reverse) p many (λn=>if n<as.length-k then k+n else as.length-1-n) (λn=>if k<=n then n-k else as.length-1-n):=by
 refine⟨by simp; omega,Il,gY,λn hn=>?_,λn hn=>?_,λn hn=>?_,λn hn=>?_⟩
 ·split <;> omega
 ·split <;> omega
 ·by_cases h:k<=n
  ·rw[if_pos h,if_pos (by omega)]; omega
  ·rw[if_neg h,if_neg (by omega)]; omega
 ·have e:aN ((as.map f).drop k++((as.map f).take k).reverse) n=f (aN as (if n<as.length-k then k+n else as.length-1-n)):=by
   by_cases h:n<as.length-k
   ·rw[if_pos h]
    unfold aN
    rw[bE (by simp; omega),List.getElem?_drop,aP,aU (by omega)]
    rfl
   ·rw[if_neg h]
    unfold aN
    rw[dJ (by simp; omega),gG (by simp; omega),kX (by simp; omega),aP]
    have e2:((as.map f).take k).length-1-(n-((as.map f).drop k).length)=as.length-1-n:=by simp; omega
    rw[e2,aU (by omega)]
    rfl
  rw[e]
  exact hf _
theorem MD {as er:List bz}(hS:aS er=aS as)(hG:aG er=aG as){nums R:List Nat}:RG er nums R↔RG as nums R:=by
 constructor
 ·intro h
  have w:=h.w
  have nd:=h.nd
  rw[hS,hG]at w
  rw[hG]at nd
  exact⟨h.ne,w,nd,h.m⟩
 ·intro h
  refine⟨h.ne,?_,?_,h.m⟩
  ·rw[hS,hG]; exact h.w
  ·rw[hG]; exact h.nd
theorem GR {many:Nat}{rk:Nat->Nat}{as:List bz}(h1:1<=many)(h2:many<=8)(h3:as.length<=120)(gX:∀a∈as,Drawn many rk a):jt [.lst (as.map cD),.int (many:Int)]=some (bg (nm many) (as.map λa=>fR a (a.s:Int))):=by
 have ok:=ZY (rk:=rk) (λa=>(a.s:Int)) h1 h2 (as:=as) h3 gX
 have sk:(nm many).length=many:=by unfold nm; rw[am,aX]
 have C1:=zt2 ok sk (Zd h1 h2)
 have k1:OM [some (.lst (as.map cD)),some (.int (many:Int))]=some (.lst ((as.map λa=>fR a (a.s:Int)).map bu)):=by
  rw[br]
  refine v6 cD (λa=>bu (fR a (a.s:Int))) as rfl (by omega) λa _=>⟨_,rfl,?_⟩
  have i0:dh (cD a) (.int 0)=some (.int (a.s:Int)):=rfl
  have:=ZW a a.s
  clear ok sk C1
  walk_at "mir"
 have k2:ON [some (.lst (as.map cD)),some (.int (many:Int))]=some (.lst (nm many)):=by
  refine v6 (λ(t:Nat)=>D.int (t:Int)) (λ(k:Nat)=>D.str ("a"++tR (k:Int))) (aB many) (MU rfl (by omega)) (by rw[aX]; omega) λg hg=>⟨_,rfl,?_⟩
  have hg:=aZ.mp hg
  obtain⟨s1,s2⟩:=Ze g (by omega)
  clear hg ok sk C1 k1
  walk_at "mir"
 generalize (as.map λa=>fR a (a.s:Int)).map bu=mks at *
 generalize bg (nm many) (as.map λa=>fR a (a.s:Int))=net at *
 generalize as.map cD=ps at *
 generalize nm many=nml at *
 clear ok sk gX
 unfold jt
 walk_at "mir"
theorem Q7 {many:Nat}{as:List bz}{nums:List Nat}{rk:Nat->Nat}{mb:Nat}(g:GN many as nums rk mb)(t b:Int)(h:Rs as nums t b):1<=b:=by
 obtain⟨R,hR,_,rfl⟩:=h
 exact(hR.bds g).2.1
def QB (o:Option (Int×Int)):Prop:=∀q,o=some q->0<q.2/\q.2<=160/\0<=q.1/\q.1<=120000000000
theorem GS {many g:Nat}{rk:Nat->Nat}{as:List bz}(h1:1<=many)(h2:many<=8)(h3:as.length<=120)(gX:∀a∈as,Drawn many rk a)(hg:g<many):∃(o1 o2:Option (Int×Int)) (L:List Nat),u7 [bg (nm many) (as.map λa=>fR a (a.s:Int)),.int (g:Int)]=some (.lst ([o1,o2].map cT))/\QB o1/\QB o2/\lh (Rs as (aB as.length)) o1/\(∀x,x∈L↔kb as g x)/\lh (Rs as (numsL as L)) o2:=by
 have sk:(nm many).length=many:=by unfold nm; rw[am,aX]
 obtain⟨mb,lB,gn,HP⟩:=zt7 (ns:=nm many) h1 (by omega) h3 gX
 have BK:(as.map λa=>fR a (a.s:Int)).length=as.length:=am ..
 have ga:=gn (aB as.length) (λn hn=>aZ.mp hn) (by rw[aX]; exact h3)
 have gb:=HP (aB as.length) (λn hn=>aZ.mp hn) (by rw[aX]; exact h3)
 obtain⟨d1,p1,p2⟩:=QF ga sk lB
 have q1:uq [bg (nm many) (as.map λa=>fR a (a.s:Int))]=some d1:=YT (by rw[BK]; exact ga) sk (by rw[BK]; exact p1)
 obtain⟨L,pC,hL⟩:=YW (ns:=nm many) (as:=as.map λa=>fR a (a.s:Int)) (many:=many) (g:=g) (by omega) (by rw[BK]; exact h3) (λa ha=>by
  obtain⟨a',nY,rfl⟩:=aR.mp ha
  exact(gX a' nY).s) hg
 obtain⟨d2,r1,r2⟩:=zti (g:=g) (L:=L) (by rw[BK]; exact ga) sk lB pC
 have SH:=gn (numsL as L) (λn hn=>(vf.mp hn).1) (by have:=LN as L; omega)
 have Nn:=HP (numsL as L) (λn hn=>(vf.mp hn).1) (by have:=LN as L; omega)
 have eS:=M3 as (λa=>(a.s:Int))
 have eG:=Cm as (λa=>(a.s:Int))
 have FK:∀{nums R:List Nat},RG (as.map λa=>fR a (a.s:Int)) nums R↔RG as nums R:=λ{nums R}=>MD eS eG
 have Iu:numsL (as.map λa=>fR a (a.s:Int)) L=numsL (as.map λa=>fR a (a.s:Int)) L:=rfl
 have one:∀(nums:List Nat) (d:D),GN many as nums rk mb->((d=.non/\∀R,¬RG as nums R)\/∃(R:List Nat) (q:Int×Int) (z:D),d=.tup [fr q,.lst (nats R),z]/\RG as nums R/\q=Fq.mk (sT as R) (sB as R)/\∀R',RG as nums R'->sT as R' * q.2<=q.1 * sB as R')->∃o:Option (Int×Int),QB o/\lh (Rs as nums) o/\∀ρ:L3.Env,eIf (tb (e2 (m7 false) (eV 0) (eC .non))) (eC .non) (e2 dh (eV 0) (eC (.int 0))) (some d::ρ)=some (cT o):=by
  intro nums d gN h
  rcases h with⟨rfl,hN⟩|⟨R,q,z,rfl,hR,hq,hm⟩
  ·exact⟨none,λq hq=>(by cases hq),⟨Q7 gN,.inl ⟨rfl,λt b ⟨R,hR,_⟩=>hN R hR⟩⟩,λ_=>rfl⟩
  ·obtain⟨lq,_,z2,n0,n1⟩:=Gv hR gN
   rw[← hq]at lq z2 n0 n1
   refine⟨some q,λq' oK=>?_,⟨Q7 gN,.inr ⟨sT as R,sB as R,q,rfl,⟨R,hR,rfl,rfl⟩,hq,?_⟩⟩,λ_=>rfl⟩
   ·cases oK
    exact⟨lq.gt,z2,n0,n1⟩
   ·rintro t' b' ⟨R',kN,rfl,rfl⟩
    exact hm R' kN
 obtain⟨o1,b1,i1,e1⟩:=one (aB as.length) d1 gb (by
  rcases p2 with⟨h,hN⟩|⟨R,q,T,h,hR,hq,hm,_⟩
  ·exact .inl ⟨h,λR hR=>hN R (FK.mpr hR)⟩
  ·rw[GY,GV]at hq
   refine .inr ⟨R,q,_,h,FK.mp hR,hq,λR' kN=>?_⟩
   have:=hm R' (FK.mpr kN)
   rw[GY,GV]at this
   exact this)
 obtain⟨o2,b2,i2,p7⟩:=one (numsL as L) d2 Nn (by
  rcases r2 with⟨h,hN⟩|⟨R,q,T,h,hR,hq,hm,_⟩
  ·exact .inl ⟨h,λR hR=>hN R (M6.mpr hR)⟩
  ·rw[GY,GV]at hq
   refine .inr ⟨R,q,_,h,M6.mp hR,hq,λR' kN=>?_⟩
   have:=hm R' (M6.mpr kN)
   rw[GY,GV]at this
   exact this)
 refine⟨o1,o2,L,?_,b1,b2,i1,λx=>(hL.mem x).trans (ztg as _ g x),i2⟩
 have k:OB [some (bg (nm many) (as.map λa=>fR a (a.s:Int))),some (.int (g:Int)),some (.lst [d1,d2])]=some (.lst ([o1,o2].map cT)):=by
  refine v6 (λp:D×Option (Int×Int)=>p.1) (λp=>cT p.2) [(d1,o1),(d2,o2)] rfl (by simp) λp hp=>⟨_,rfl,?_⟩
  rcases aA.mp hp with rfl|hp
  ·exact e1 _
  ·rw[ar.mp hp]
   exact p7 _
 generalize bg (nm many) (as.map λa=>fR a (a.s:Int))=net at *
 generalize [o1,o2].map cT=os at *
 clear one FK eS eG SH Nn r2 p2 ga gb gn HP hL pC lB p1 i1 i2 e1 p7 b1 b2 Iu
 unfold u7
 walk_at "mir"
theorem Zv {os:List (Option (Int×Int))}{w:Int}(og:0<=w)(pD:w<=1000)(hl:os.length<=1000):Ga [.lst (os.map cT),.int w]=some (.lst ((os.map (cS λq=>(q.1+w * q.2,q.2))).map cT)):=by
 have k:OC [some (.lst (os.map cT)),some (.int w)]=some (.lst ((os.map (cS λq=>(q.1+w * q.2,q.2))).map cT)):=by
  rw[br]
  refine v6 (own:=1) (cap:=[1]) (g:=gV 0) (fi:=lsD (eV 0)) (r:=[some (.lst (os.map cT)),some (.int w)]) cT (λo=>cT (o.map λq=>(q.1+w * q.2,q.2))) os rfl (by omega) λo ho=>⟨[some (cT o),some (.int w)],rfl,?_⟩
  cases o with
  |none=>rfl
  |some q =>
   have m1:cE (.int w) (.int q.2)=some (.int (w * q.2)):=zac (by omega) (by omega)
   have p0:=yN q
   have p1:=lS q
   have e:m7 false (fr q) .non=some (.bl false):=rfl
   show eIf _ _ _ [some (fr q),some (.int w)]=some (fr (q.1+w * q.2,q.2))
   have e3:fr (q.1+w * q.2,q.2)=.tup [.int (q.1+w * q.2),.int q.2]:=rfl
   rw[e3]
   unfold fr at *
   generalize w * q.2=wq at *
   clear e3 ho hl
   walk_at "mir"
 generalize os.map cT=o1 at *
 generalize (os.map (cS λq=>(q.1+w * q.2,q.2))).map cT=o2 at *
 clear hl og pD
 unfold Ga
 walk_at "mir"
def iL (w:Int)(q:Int×Int):Int×Int:=(q.1 * (w / (bF q.2 w:Nat)),q.2 / (bF q.2 w:Nat))
theorem Xt {os:List (Option (Int×Int))}{w:Int}(og:1<=w)(pD:w<=1000)(hl:os.length<=1000)(BQ:∀o∈os,QB o):ud [.lst (os.map cT),.int w]=some (.lst ((os.map (cS (iL w))).map cT)):=by
 have lp:∀(xs:List (Option (Int×Int))) (O:D) (done:List D) (y3 y4 y5:Option D),(∀o∈xs,QB o)->done.length+xs.length<=1000->∃z3 z4 z5,eI (gV 3) xm (xs.map cT) [some O,some (.int w),some (.lst done),y3,y4,y5]=some (.nx [some O,some (.int w),some (.lst (done++(xs.map (cS (iL w))).map cT)),z3,z4,z5]):=by
  intro xs
  induction xs with
  |nil=>intro O done y3 y4 y5 _ _; exact⟨y3,y4,y5,by rw[eY,eY,eY,bC]; rfl⟩
  |cons o xs ih =>
   intro O done y3 y4 y5 hx CU
   rw[aJ]at CU
   have lT:done.length<16777216:=by omega
   have step:∃z4 z5,xm [some O,some (.int w),some (.lst done),some (cT o),y4,y5]=some (.nx [some O,some (.int w),some (.lst (done++[cT (o.map (iL w))])),some (cT o),z4,z5]):=by
    cases o with
    |none =>
     refine⟨y4,y5,?_⟩
     show xm [some O,some (.int w),some (.lst done),some .non,y4,y5]=some (.nx [some O,some (.int w),some (.lst (done++[.non])),some .non,y4,y5])
     have e:m7 false .non .non=some (.bl true):=rfl
     unfold xm
     clear ih hx CU BQ hl
     walk_at "mir"
    |some q =>
     obtain⟨b1,b2,b3,b4⟩:=hx (some q) aa q rfl
     obtain⟨s',h1,⟨h2,tL,zJ⟩,h3,_⟩:=LG (c:=tb (e2 (iE true) (eV 5) (eC (D.int 0)))) (b:=ur) (λs:Int×Int=>[some O,some (.int w),some (.lst done),some (fr q),some (.int s.1),some (.int s.2)]) (λs=>!decide (s.2=0)) (λs=>(s.2,s.1.fmod s.2)) (λs=>s.2.natAbs) (λs=>bF s.1 s.2=bF q.2 w/\0<s.1/\0<=s.2)
      (λs hp=>by
       generalize fr q=F
       clear ih hx CU BQ hl lT
       walk_at "mir") (λs hp ht=>by
       have hs:s.2≠0:=by simpa using ht
       have lV:0<s.2:=by have:=hp.2.2; omega
       refine⟨.inl ?_,⟨(Fq.gcd_step s.1 s.2).trans hp.1,lV,?_⟩,Fq.fmod_less s.1 hs⟩
       ·unfold ur
        have:=Qq (i:=s.1) hs
        generalize fr q=F
        clear ih hx CU BQ hl lT hp ht
        walk_at "mir"
       ·show 0<=s.1.fmod s.2
        rw[fw _ (by omega)]
        exact eT _ (by omega)) jM (q.2,w) ⟨rfl,b1,by show 0<=w; omega⟩ (Mt (oP (n:=8000) (w:=1000) (by show -1000<=w; omega) (by show w<=1000; omega) (by decide)) (by decide))
     have h3:s'.2=0:=by simpa using h3
     obtain⟨s1,s2⟩:=s'
     dsimp only at h1 h2 h3 tL
     subst h3
     have Ih:((bF q.2 w:Nat):Int)=s1:=by
      rw[← h2,oy]
      omega
     have sj:s1<=q.2:=by
      rw[← Ih]
      exact Int.le_of_dvd b1 (fZ ..)
     have d1:dH (.int w) (.int s1)=some (.int (w / s1)):=zab tL (by omega)
     have d2:dH (.int q.2) (.int s1)=some (.int (q.2 / s1)):=zab tL (by omega)
     have m1:cE (.int q.1) (.int (w / s1))=some (.int (q.1 * (w / s1))):=zac (by omega) (by omega)
     have p0:=yN q
     have p1:=lS q
     have e:m7 false (fr q) .non=some (.bl false):=rfl
     have e3:cT ((some q).map (iL w))=.tup [.int (q.1 * (w / s1)),.int (q.2 / s1)]:=by
      show fr (iL w q)=_
      unfold iL
      rw[Ih]
      rfl
     rw[e3]
     refine⟨some (.int s1),some (.int 0),?_⟩
     show xm [some O,some (.int w),some (.lst done),some (fr q),y4,y5]=some (.nx [some O,some (.int w),some (.lst (done++[.tup [.int (q.1 * (w / s1)),.int (q.2 / s1)]])),some (fr q),some (.int s1),some (.int 0)])
     unfold xm eA
     unfold fr at *
     generalize (tb (e2 (iE true) (eV 5) (eC (D.int 0))))=cc at *
     generalize q.1 * (w / s1)=u1 at *
     generalize q.2 / s1=u2 at *
     generalize w / s1=u3 at *
     clear ih hx CU BQ hl h2 Ih sj e3 b1 b2 b3 b4 tL zJ
     walk_at "mir"
   obtain⟨z4,z5,iR⟩:=step
   obtain⟨w3,w4,w5,C4⟩:=ih O (done++[cT (o.map (iL w))]) (some (cT o)) z4 z5 (λx tP=>hx x (ai _ tP)) (by rw[aI,bQ]; omega)
   refine⟨w3,w4,w5,?_⟩
   rw[aC,aC,aC]
   refine(Zf (ρ1:=[some O,some (.int w),some (.lst done),some (cT o),y4,y5]) rfl iR).trans ?_
   rw[C4,bT]
   rfl
 obtain⟨z3,z4,z5,hz⟩:=lp os (.lst (os.map cT)) [] none none none BQ (by simpa using hl)
 rw[gD]at hz
 generalize (os.map (cS (iL w))).map cT=o2 at *
 generalize os.map cT=o1 at *
 clear lp BQ hl og pD
 unfold ud
 walk_at "mir"
theorem MR {as:List bz}{f:bz->bz}{n:Nat}(hn:n<as.length):aN (as.map f) n=f (aN as n):=by
 unfold aN
 rw[aP,aU hn]
 rfl
structure Sw (f:bz->bz):Prop where
 s:∀a,(f a).s=a.s
 g:∀a,(f a).g=a.g
 b:∀a,(f a).b=a.b
theorem Sw.S {f:bz->bz}(h:Sw f)(as:List bz):aS (as.map f)=aS as:=funext λn=>by
 unfold aS aN
 rw[aP]
 cases as[n]? with
 |none=>rfl
 |some a=>exact h.s a
theorem Sw.G {f:bz->bz}(h:Sw f)(as:List bz):aG (as.map f)=aG as:=funext λn=>by
 unfold aG aN
 rw[aP]
 cases as[n]? with
 |none=>rfl
 |some a=>exact h.g a
theorem Sw.rch {f:bz->bz}(h:Sw f){as:List bz}{g x:Nat}:kb (as.map f) g x↔kb as g x:=by
 constructor
 ·intro hr
  induction hr with
  |self=>exact .self
  |@step a' nY _ ih =>
   obtain⟨a,ha,rfl⟩:=aR.mp nY
   rw[h.s]
   rw[h.g]at ih
   exact .step ha ih
 ·intro hr
  induction hr with
  |self=>exact .self
  |@step a ha _ ih =>
   have:=kb.step (as:=as.map f) (g:=g) (a:=f a) (aR.mpr ⟨a,ha,rfl⟩) (by rw[h.g]; exact ih)
   rw[h.s]at this
   exact this
theorem Sw.sB {f:bz->bz}(h:Sw f){as:List bz}{R:List Nat}(hn:∀n∈R,n<as.length):sB (as.map f) R=sB as R:=by
 unfold My.sB
 congr 1
 refine cw λn m6=>?_
 unfold bN
 rw[MR (hn n m6),h.b]
theorem ME {f:bz->bz}{w:Int}(hf:∀a,(f a).t=a.t+w * (a.b:Int)){as:List bz}:∀R:List Nat,(∀n∈R,n<as.length)->sT (as.map f) R=sT as R+w * sB as R
 |[],_=>by unfold sT sB; simp
 |n::R,h=>by
  have ih:=ME hf R λm hm=>h m (ai _ hm)
  have e1:sT (as.map f) (n::R)=(aN (as.map f) n).t+sT (as.map f) R:=by unfold sT; rw[aC,bj]; rfl
  have e2:sT as (n::R)=(aN as n).t+sT as R:=by unfold sT; rw[aC,bj]; rfl
  have e3:sB as (n::R)=((aN as n).b:Int)+sB as R:=by unfold sB; rw[aC,bj]; rfl
  rw[e1,e2,e3,ih,MR (h n aa),hf,nk]
  omega
theorem L1 {f:bz->bz}{w:Int}(hf:∀a,(f a).t=a.t * w){as:List bz}:∀R:List Nat,(∀n∈R,n<as.length)->sT (as.map f) R=sT as R * w
 |[],_=>by unfold sT; simp
 |n::R,h=>by
  have ih:=L1 hf R λm hm=>h m (ai _ hm)
  have e1:sT (as.map f) (n::R)=(aN (as.map f) n).t+sT (as.map f) R:=by unfold sT; rw[aC,bj]; rfl
  have e2:sT as (n::R)=(aN as n).t+sT as R:=by unfold sT; rw[aC,bj]; rfl
  rw[e1,e2,ih,MR (h n aa),hf,eO]
theorem Sw.ring {f:bz->bz}(h:Sw f){as:List bz}{nums dC R:List Nat}(hm:∀n,n∈dC↔n∈nums):RG (as.map f) dC R↔RG as nums R:=by
 constructor
 ·intro hR
  have:=(MD (h.S as) (h.G as)).mp hR
  exact⟨this.ne,this.w,this.nd,λn hn=>(hm n).mp (this.m n hn)⟩
 ·intro hR
  exact(MD (h.S as) (h.G as)).mpr ⟨hR.ne,hR.w,hR.nd,λn hn=>(hm n).mpr (hR.m n hn)⟩
theorem Sw.more {f:bz->bz}{w:Int}(h:Sw f)(hf:∀a,(f a).t=a.t+w * (a.b:Int)){as:List bz}{nums dC:List Nat}{o:Option (Int×Int)}(hm:∀n,n∈dC↔n∈nums)(hl:∀n∈nums,n<as.length)(ho:lh (Rs as nums) o):lh (Rs (as.map f) dC) (o.map λq=>(q.1+w * q.2,q.2)):=by
 refine ho.more w (λt b hS=>?_) (λt b hS=>?_)
 ·obtain⟨R,hR,rfl,rfl⟩:=hS
  have hn:∀n∈R,n<as.length:=λn hn=>hl n (hR.m n hn)
  exact⟨R,(h.ring hm).mpr hR,ME hf R hn,h.sB hn⟩
 ·obtain⟨R,hR,rfl,rfl⟩:=hS
  have kN:=(h.ring hm).mp hR
  have hn:∀n∈R,n<as.length:=λn hn=>hl n (kN.m n hn)
  exact⟨R,kN,by rw[ME hf R hn,h.sB hn]; omega,(h.sB hn).symm⟩
theorem Sw.times {f:bz->bz}{w:Int}(hw:1<=w)(h:Sw f)(hf:∀a,(f a).t=a.t * w){as:List bz}{nums dC:List Nat}{o:Option (Int×Int)}(hm:∀n,n∈dC↔n∈nums)(hl:∀n∈nums,n<as.length)(ho:lh (Rs as nums) o):lh (Rs (as.map f) dC) (o.map (iL w)):=by
 refine ho.times hw (λt b hS=>?_) (λt b hS=>?_)
 ·obtain⟨R,hR,rfl,rfl⟩:=hS
  have hn:∀n∈R,n<as.length:=λn hn=>hl n (hR.m n hn)
  exact⟨R,(h.ring hm).mpr hR,L1 hf R hn,h.sB hn⟩
 ·obtain⟨R,hR,rfl,rfl⟩:=hS
  have kN:=(h.ring hm).mp hR
  have hn:∀n∈R,n<as.length:=λn hn=>hl n (kN.m n hn)
  exact⟨sT as R,L1 hf R hn,R,kN,rfl,(h.sB hn).symm⟩
theorem Sw.numsL {f:bz->bz}(h:Sw f){as:List bz}{g:Nat}{L L':List Nat}(hL:∀x,x∈L↔kb as g x)(Fl:∀x,x∈L'↔kb (as.map f) g x)(n:Nat):n∈My.numsL (as.map f) L'↔n∈My.numsL as L:=by
 rw[vf,vf,am,h.G as,hL,Fl,h.rch]
def ie (P:List Nat)(a:bz):bz:={ a with s:=P.getD a.s 0,g:=P.getD a.g 0 }
theorem Xu (p:List Nat)(i x:Nat):(nats p).set i (.int (x:Int))=nats (p.set i x):=by
 unfold nats
 rw[List.map_set]
theorem Zw {many:Nat}{step:Int}{A:List D}(h2:many<=8)(hs:0<=step):∃(P:List Nat) (y4 y5:Option D),eI (gV 5) ut ((aB many).map λ(t:Nat)=>D.int (t:Int)) [some (.lst A),some (.int (many:Int)),some (.int step),some (.lst (nats (ak many 0))),some (.lst (nats (aB many))),none,none,none]=some (.nx [some (.lst A),some (.int (many:Int)),some (.int step),some (.lst (nats P)),y4,y5,none,none])/\P.Perm (aB many):=by
 have lp:=LM (g:=gV 5) (b:=ut) (n:=many)
  (λk ρ=>∃(done left:List Nat) (y5:Option D),ρ=[some (.lst A),some (.int (many:Int)),some (.int step),some (.lst (nats (done++ak (many-k) 0))),some (.lst (nats left)),y5,none,none]/\done.length=k/\(done++left).Perm (aB many)) (λ_=>False) (by
  rintro k ρ hk ⟨done,left,y5,rfl,lT,hp⟩
  have hll:left.length=many-k:=by
   have:=hp.length_eq
   rw[aI,aX]at this
   omega
  obtain⟨z,hz⟩:∃z:Nat,step+(k:Int) * (k:Int)=(z:Int):=⟨(step+(k:Int) * (k:Int)).toNat,by have:0<=(k:Int) * (k:Int):=dc (by omega) (by omega); omega⟩
  have hi:z % left.length<left.length:=iP _ (by omega)
  have md:cY (.int (step+(k:Int) * (k:Int))) (.int ((nats left).length:Int))=some (.int ((z % left.length:Nat):Int)):=by
   rw[hz,jy (by simp[nats]; omega)]
   simp[nats]
  generalize z % left.length=i at hi md
  have mu:cE (.int (k:Int)) (.int (k:Int))=some (.int ((k:Int) * (k:Int))):=zac (by omega) (by omega)
  have l2:(nats left).length<=16777216:=by simp[nats]; omega
  have ix:ixN (nats left).length (i:Int)=some i:=Mv (by simp[nats]; exact hi)
  have gt:(nats left)[i]?=some (.int (left[i]:Int)):=by simp[nats,hi]
  refine⟨[some (.lst A),some (.int (many:Int)),some (.int step),some (.lst (nats (done++ak (many-k) 0))),some (.lst (nats left)),some (.int (k:Int)),none,none],rfl,.inl ⟨[some (.lst A),some (.int (many:Int)),some (.int step),some (.lst (nats ((done++[left[i]])++ak (many-(k+1)) 0))),some (.lst (nats (left.eraseIdx i))),some (.int (k:Int)),none,none],?_,done++[left[i]],left.eraseIdx i,_,rfl,by rw[aI,bQ,lT],?_⟩⟩
  ·have sa:setAt (nats (done++ak (many-k) 0)) (k:Int) (.int (left[i]:Int))=some (nats ((done++[left[i]])++ak (many-(k+1)) 0)):=by
    unfold setAt
    rw[Mv (by simp[nats]; omega)]
    show some ((nats (done++ak (many-k) 0)).set k (.int (left[i]:Int)))=_
    rw[Xu]
    refine congrArg (λl=>some (nats l)) ?_
    rw[List.set_append_right k left[i] (by omega),lT,mE,show many-k=(many-(k+1))+1 by omega,bJ,bT]
    rfl
   have ev:(e2 cY (e2 dG (eV 2) (e2 cE (eV 5) (eV 5))) (eN dg (aCons (eV 4) aNil))) [some (.lst A),some (.int (many:Int)),some (.int step),some (.lst (nats (done++ak (many-k) 0))),some (.lst (nats left)),some (.int (k:Int)),none,none]=some (.int (i:Int)):=by
    have ln:dg [.lst (nats left)]=some (.int ((nats left).length:Int)):=rfl
    generalize (nats left).length=ll at *
    generalize nats left=nl at *
    generalize (k:Int) * (k:Int)=kk at *
    clear sa ix gt hz hp
    walk_at "mir"
   have e4:∀a b c d e f g h:Option D,eV 4 [a,b,c,d,e,f,g,h]=e:=λ_ _ _ _ _ _ _ _=>rfl
   unfold ut lI
   rw[e4,ev]
   show(if(nats left).length<=16777216 then _ else _)=_
   rw[if_pos l2,ix]
   show((nats left)[i]?).bind _=_
   rw[gt]
   show(setAt (nats (done++ak (many-k) 0)) (k:Int) (.int (left[i]:Int))).bind _=_
   rw[sa,LL]
   rfl
  ·rw[bT]
   exact(oQ.append_left done (LK left i hi)).trans hp) many 0 [some (.lst A),some (.int (many:Int)),some (.int step),some (.lst (nats (ak many 0))),some (.lst (nats (aB many))),none,none,none] (by omega) ⟨[],aB many,none,by rw[gD,Nat.sub_zero],rfl,by rw[gD]⟩
 rw[← gR]at lp
 rcases lp with⟨ρ',l1,done,left,y5,rfl,lT,hp⟩|⟨_,_,f⟩
 ·refine⟨done,some (.lst (nats left)),y5,?_,?_⟩
  ·rw[l1,mE,List.replicate_zero,bC]
  ·have:left=[]:=eK (by
    have:=hp.length_eq
    rw[aI,aX]at this
    omega)
   rw[this,bC]at hp
   exact hp
 ·exact f.elim
theorem WO {as:List bz}{many:Nat}{step:Int}(h1:1<=many)(h2:many<=8)(hl:as.length<=100)(hs:0<=step)(gY:∀a∈as,a.s<many/\a.g<many):∃(P:List Nat) (k:Nat),ji [.lst (as.map cD),.int (many:Int),.int step]=some (.tup [.lst (nats P),.lst (((as.map (ie P)).drop k++((as.map (ie P)).take k).reverse).map cD)])/\P.Perm (aB many)/\k<=as.length:=by
 obtain⟨P,y4,y5,lp,hP⟩:=Zw (many:=many) (step:=step) (A:=as.map cD) h2 hs
 have se:P.length=many:=by rw[hP.length_eq,aX]
 obtain⟨k,hk,NI⟩:∃k:Nat,cY (.int step) (.int (((as.map (ie P)).map cD).length+1:Int))=some (.int (k:Int))/\k<=as.length:=by
  have h3:=eT step (b:=(as.length:Int)+1) (by omega)
  have h4:=iM step (b:=(as.length:Int)+1) (by omega)
  refine⟨(step % ((as.length:Int)+1)).toNat,?_,by omega⟩
  rw[am,am,jy (by omega)]
  congr 2
  omega
 refine⟨P,k,?_,hP,NI⟩
 have q2:ju [some (.lst (as.map cD)),some (.int (many:Int)),some (.int step),none,none,none,none,none]=some (.lst (nats (ak many 0))):=by
  have:=v6 (own:=1) (cap:=[]) (g:=gV 0) (f:=eC (.int 0)) (fi:=λρ=>((aCons (eV 1) aNil) ρ).bind ig) (r:=[some (.lst (as.map cD)),some (.int (many:Int)),some (.int step),none,none,none,none,none]) (λ(g:Nat)=>D.int (g:Int)) (λ_=>D.int 0) (aB many) (MU rfl (by omega)) (by rw[aX]; omega) λg hg=>⟨_,rfl,rfl⟩
  rw[show ju _=_ from this]
  refine congrArg (λl=>some (D.lst l)) ?_
  unfold nats
  rw[jV,aX,List.map_replicate]
  rfl
 have lr:gZ [.int (many:Int)]=some (.lst (nats (aB many))):=by
  show(if 0<=(many:Int)/\(many:Int)<=16777216 then some (D.lst (dZ 0 (many:Int).toNat))else none)=_
  rw[if_pos ⟨by omega,by omega⟩]
  unfold dZ nats
  simp
 have rg:ig [.int (many:Int)]=some ((aB many).map λ(t:Nat)=>D.int (t:Int)):=by
  rw[Gg (by omega) (by omega)]
  unfold dZ
  simp
 have q1:∀z4 z5 z7:Option D,Ov [some (.lst (as.map cD)),some (.int (many:Int)),some (.int step),some (.lst (nats P)),z4,z5,none,z7]=some (.lst ((as.map (ie P)).map cD)):=λz4 z5 z7=>by
  rw[br]
  refine v6 (own:=4) (cap:=[3]) (g:=gT (gsCons (gV 0) (gsCons (gV 1) (gsCons (gV 2) (gsCons (gV 3) gsNil))))) cD (λa=>cD (ie P a)) as rfl (by omega) λa ha=>⟨[some (.int (a.s:Int)),some (.int (a.g:Int)),some (.int a.t),some (.int (a.b:Int)),some (.lst (nats P))],rfl,?_⟩
  obtain⟨b1,b2⟩:=gY a ha
  have i1:=Mx (p:=P) (i:=a.s) (by omega)
  have i2:=Mx (p:=P) (i:=a.g) (by omega)
  have e1:P.getD a.s 0=P[a.s]'(by omega):=by simp[se,b1]
  have p7:P.getD a.g 0=P[a.g]'(by omega):=by simp[se,b2]
  show _=some (D.tup [.int ((P.getD a.s 0:Nat):Int),.int ((P.getD a.g 0:Nat):Int),.int a.t,.int (a.b:Int)])
  rw[e1,p7]
  generalize (P[a.s]'(by omega):Nat)=ps at *
  generalize (P[a.g]'(by omega):Nat)=pg at *
  generalize nats P=np at *
  clear lp e1 p7 hP q2 hk
  walk_at "mir"
 have em:((as.map (ie P)).drop k++((as.map (ie P)).take k).reverse).map cD=((as.map (ie P)).map cD).drop k++(((as.map (ie P)).map cD).take k).reverse:=by
  rw[eP,ik,jL,sZ]
 rw[em]
 have ll:((as.map (ie P)).map cD).length<=100:=by rw[am,am]; exact hl
 generalize (as.map (ie P)).map cD=fo at *
 have c1:=O3 fo k
 have c2:=WK fo k
 have ad:dG (.lst (fo.drop k)) (.lst ((fo.take k).reverse))=some (.lst (fo.drop k++(fo.take k).reverse)):=Pz (by rw[dP,cv,cZ]; omega)
 have ln:dg [.lst fo]=some (.int (fo.length:Int)):=rfl
 have q1':=q1 y4 y5 none
 generalize (aB many).map (λ(t:Nat)=>D.int (t:Int))=Oc at *
 generalize fo.drop k++(fo.take k).reverse=f3 at *
 generalize Th:fo.drop k=f1 at *
 generalize CP:fo.take k=f2 at *
 generalize (fo.length:Int)=fl at *
 generalize nats P=np at *
 generalize nats (aB many)=nr at *
 generalize nats (ak many 0)=nz at *
 generalize as.map cD=al at *
 clear hP se q1 em ll hl gY NI Th CP h1 h2 hs
 unfold ji
 walk_at "mir"
theorem sd (turn:Int){many:Nat}(h1:1<=many)(h2:many<=1000):∃(mk:Int->bz) (rk:Nat->Nat),(∀c,vb [.int c,.int (many:Int),.int turn]=some (cD (mk c)))/\∀c,Drawn many rk (mk c)/\(mk c).t<=1000000:=by
 obtain⟨rk,qD⟩:=zsz turn h1 h2
 have:=λc=>Zc c turn h1 h2 rk qD
 refine⟨λc=>Classical.choose (this c),rk,λc=>(Classical.choose_spec (this c)).1,λc=>?_⟩
 obtain⟨_,a,b,c,d,e,f⟩:=Classical.choose_spec (this c)
 exact⟨⟨a,b,c,i6 d (by decide),e,f⟩,d⟩
theorem zt8 {ns:List Int}{c0:Int}{many:Nat}{mk:Int->bz}(NB:xx [.lst (ns.map .int),.int 0]=some (.int c0))(CZ:∀c,vb [.int c,.int (many:Int),.int (c0 / 8)]=some (cD (mk c)))(r:L3.Env)(h0:r[0]?.join=some (.lst (ns.map .int)))(h1:r[1]?.join=some (.int (many:Int))):Qx r=some (.lst ((((ns.drop 4).take 16).map mk).map cD)):=by
 rw[br]
 refine v6 D.int (λc=>cD (mk c)) ((ns.drop 4).take 16) (XZ 0 4 20 h0) (by rw[cZ]; omega) λc _=>⟨_,rfl,?_⟩
 have fu:dm r [1,0]=[some (.int (many:Int)),some (.lst (ns.map .int))]:=by unfold dm; simp[h0,h1]
 rw[fu]
 have:=CZ c
 clear fu CZ h0 h1
 walk_at "mir"
def iG (w:Int)(a:bz):bz:={ a with t:=a.t+w * (a.b:Int) }
def gM (w:Int)(a:bz):bz:={ a with t:=a.t * w }
theorem Xv {as:List bz}{w:Int}(og:0<=w)(pD:w<=1000)(hl:as.length<=1000)(r:L3.Env)(h2:r[2]?.join=some (.lst (as.map cD)))(h5:r[5]?.join=some (.int w)):Qw r=some (.lst ((as.map (iG w)).map cD)):=by
 rw[br]
 have fu:dm r [5]=[some (.int w)]:=by unfold dm; simp[h5]
 refine v6 (own:=4) (cap:=[5]) (g:=gT (gsCons (gV 0) (gsCons (gV 1) (gsCons (gV 2) (gsCons (gV 3) gsNil))))) cD (λa=>cD (iG w a)) as (by unfold lsD; have:eV 2 r=_:=h2; rw[this]; rfl) (by omega) λa _=>⟨[some (.int (a.s:Int)),some (.int (a.g:Int)),some (.int a.t),some (.int (a.b:Int)),some (.int w)],by rw[fu]; rfl,?_⟩
 have m1:cE (.int w) (.int (a.b:Int))=some (.int (w * (a.b:Int))):=zac (by omega) (by omega)
 show _=some (D.tup [.int (a.s:Int),.int (a.g:Int),.int (a.t+w * (a.b:Int)),.int (a.b:Int)])
 generalize w * (a.b:Int)=wb at *
 clear fu h2 h5 hl og pD
 walk_at "mir"
theorem WP {as:List bz}{w:Int}(og:0<=w)(pD:w<=1000)(hl:as.length<=1000)(r:L3.Env)(h2:r[2]?.join=some (.lst (as.map cD)))(h5:r[5]?.join=some (.int w)):Qv r=some (.lst ((as.map (gM w)).map cD)):=by
 rw[br]
 have fu:dm r [5]=[some (.int w)]:=by unfold dm; simp[h5]
 refine v6 (own:=4) (cap:=[5]) (g:=gT (gsCons (gV 0) (gsCons (gV 1) (gsCons (gV 2) (gsCons (gV 3) gsNil))))) cD (λa=>cD (gM w a)) as (by unfold lsD; have:eV 2 r=_:=h2; rw[this]; rfl) (by omega) λa _=>⟨[some (.int (a.s:Int)),some (.int (a.g:Int)),some (.int a.t),some (.int (a.b:Int)),some (.int w)],by rw[fu]; rfl,?_⟩
 have m1:cE (.int a.t) (.int w)=some (.int (a.t * w)):=zds (by omega) (by omega)
 show _=some (D.tup [.int (a.s:Int),.int (a.g:Int),.int (a.t * w),.int (a.b:Int)])
 generalize a.t * w=wb at *
 clear fu h2 h5 hl og pD
 walk_at "mir"
theorem eqQ (neg:Bool)(a b:List (Option (Int×Int))):iE neg (.lst (a.map cT)) (.lst (b.map cT))=some (.bl (if neg then !decide (a=b)else decide (a=b))):=(El Rc).eq (by decide) a b
theorem Xw (ns:List Int)(hl:ns.length<=63):M5 [.lst (ns.map .int)]=some (.bl true):=by
 obtain⟨c0,NB⟩:=GQ ns 0 (by decide)
 obtain⟨c1,HY⟩:=GQ ns 1 (by decide)
 obtain⟨c2,BL⟩:=GQ ns 2 (by decide)
 obtain⟨c3,hc3⟩:=GQ ns 3 (by decide)
 obtain⟨many,NK,oJ,qB⟩:∃m:Nat,1+c0 % 8=(m:Int)/\1<=m/\m<=8:=⟨(1+c0 % 8).toNat,by omega,by omega,by omega⟩
 obtain⟨gg,hgg,zF⟩:∃g:Nat,cY (.int c1) (.int (many:Int))=some (.int (g:Int))/\g<many:=by
  have h1:=eT c1 (b:=(many:Int)) (by omega)
  have h2:=iM c1 (b:=(many:Int)) (by omega)
  refine⟨(c1 % (many:Int)).toNat,?_,by omega⟩
  rw[jy (by omega)]
  congr 2
  omega
 obtain⟨mk,rk,CZ,NE⟩:=sd (c0 / 8) oJ (by omega:many<=1000)
 generalize has:((ns.drop 4).take 16).map mk=as
 have jP:as.length<=16:=by rw[← has,am,cZ]; omega
 have gX:∀a∈as,Drawn many rk a/\a.t<=1000000:=λa ha=>by
  rw[← has]at ha
  obtain⟨c,_,rfl⟩:=aR.mp ha
  exact NE c
 have k3:=zt8 (ns:=ns) (many:=many) NB CZ [some (.lst (ns.map .int)),some (.int (many:Int)),none,none,none,none,none,none,none,none] rfl rfl
 rw[has]at k3
 have n1:=GR oJ qB (as:=as) (by omega) (λa ha=>(gX a ha).1)
 obtain⟨o1,o2,L,bo,N8,N9,Fx,hL,Fy⟩:=GS oJ qB (as:=as) (by omega) (λa ha=>(gX a ha).1) zF
 obtain⟨w,hw,og,pD⟩:∃w:Int,c2 % 1001=w/\0<=w/\w<=1000:=⟨_,rfl,by omega,by omega⟩
 have FL:Sw (iG w):=⟨λ_=>rfl,λ_=>rfl,λ_=>rfl⟩
 have yW:∀a∈as.map (iG w),Drawn many rk a:=λa ha=>by
  obtain⟨a',nY,rfl⟩:=aR.mp ha
  obtain⟨h,h6⟩:=gX a' nY
  have hb:=h.b
  have hp:0<=w * (a'.b:Int):=dc og (by omega)
  have hq:w * (a'.b:Int)<=w * 4:=bc (by omega) og
  exact⟨h.s,h.g,by show 0<=a'.t+w * (a'.b:Int); have:=h.t0; omega,by show a'.t+w * (a'.b:Int)<=1000000000; omega,h.b,h.r⟩
 have n2:=GR oJ qB (as:=as.map (iG w)) (by rw[am]; omega) yW
 obtain⟨o3,o4,L2,bo2,_,_,NS,Nv,NT⟩:=GS oJ qB (as:=as.map (iG w)) (by rw[am]; omega) yW zF
 have e3:o3=o1.map λq=>(q.1+w * q.2,q.2):=NS.uniq (FL.more (λ_=>rfl) (λn=>by rw[am]) (λn hn=>aZ.mp hn) Fx)
 have e4:o4=o2.map λq=>(q.1+w * q.2,q.2):=NT.uniq (FL.more (λ_=>rfl) (FL.numsL hL Nv) (λn hn=>(vf.mp hn).1) Fy)
 have lm:=Zv (os:=[o1,o2]) og pD (by simp)
 have q2:=Xv (as:=as) og pD (by omega) [some (.lst (ns.map .int)),some (.int (many:Int)),some (.lst (as.map cD)),some (.int (gg:Int)),some (.lst ([o1,o2].map cT)),some (.int w),none,none,none,none] rfl rfl
 have Ng:[o3,o4]=[o1,o2].map (cS λq=>(q.1+w * q.2,q.2)):=by rw[e3,e4]; rfl
 have eq2:=eqQ true [o3,o4] ([o1,o2].map (cS λq=>(q.1+w * q.2,q.2)))
 rw[if_pos rfl,decide_eq_true Ng]at eq2
 obtain⟨v,hv,Fu,Fv⟩:∃v:Int,1+c2 / 1001 % 900=v/\1<=v/\v<=900:=⟨_,rfl,by omega,by omega⟩
 have FM:Sw (gM v):=⟨λ_=>rfl,λ_=>rfl,λ_=>rfl⟩
 have yX:∀a∈as.map (gM v),Drawn many rk a:=λa ha=>by
  obtain⟨a',nY,rfl⟩:=aR.mp ha
  obtain⟨h,h6⟩:=gX a' nY
  have NP:=h.t0
  have hp:0<=a'.t * v:=dc NP (by omega)
  have hq:a'.t * v<=a'.t * 900:=bc Fv NP
  exact⟨h.s,h.g,hp,by show a'.t * v<=1000000000; omega,h.b,h.r⟩
 have n3:=GR oJ qB (as:=as.map (gM v)) (by rw[am]; omega) yX
 obtain⟨o5,o6,L3',bo3,_,_,NU,Nw,NV⟩:=GS oJ qB (as:=as.map (gM v)) (by rw[am]; omega) yX zF
 have e5:o5=o1.map (iL v):=NU.uniq (FM.times Fu (λ_=>rfl) (λn=>by rw[am]) (λn hn=>aZ.mp hn) Fx)
 have e6:o6=o2.map (iL v):=NV.uniq (FM.times Fu (λ_=>rfl) (FM.numsL hL Nw) (λn hn=>(vf.mp hn).1) Fy)
 have lt:=Xt (os:=[o1,o2]) Fu (by omega) (by simp) (λo ho=>by
  rcases aA.mp ho with rfl|ho
  ·exact N8
  ·rw[ar.mp ho]; exact N9)
 have q3:=WP (as:=as) (by omega:0<=v) (by omega) (by omega) [some (.lst (ns.map .int)),some (.int (many:Int)),some (.lst (as.map cD)),some (.int (gg:Int)),some (.lst ([o1,o2].map cT)),some (.int v),some (.lst ((as.map (iG w)).map cD)),none,none,none] rfl rfl
 have Nh:[o5,o6]=[o1,o2].map (cS (iL v)):=by rw[e5,e6]; rfl
 have eq3:=eqQ true [o5,o6] ([o1,o2].map (cS (iL v)))
 rw[if_pos rfl,decide_eq_true Nh]at eq3
 obtain⟨s,hs,NO⟩:∃s:Int,c3 % 10007=s/\0<=s:=⟨_,rfl,by omega⟩
 obtain⟨P,k,hre,hP,hk⟩:=WO (as:=as) (step:=s) oJ qB (by omega) NO (λa ha=>⟨(gX a ha).1.s,(gX a ha).1.g⟩)
 have se:P.length=many:=by rw[hP.length_eq,aX]
 have HU:P.Nodup:=hP.nodup_iff.mpr dQ
 have sf:∀x,x<many->P.getD x 0<many:=λx hx=>by
  have e:P.getD x 0=P[x]'(by omega):=by simp[se,hx]
  rw[e]
  exact aZ.mp (hP.mem_iff.mp (List.getElem_mem _))
 have inj:∀x y,x<many->y<many->P.getD x 0=P.getD y 0->x=y:=λx y hx hy e=>by
  have e1:P.getD x 0=P[x]'(by omega):=by simp[se,hx]
  have e2:P.getD y 0=P[y]'(by omega):=by simp[se,hy]
  rw[e1,e2]at e
  apply Classical.byContradiction
  intro kq
  rcases Nat.lt_or_gt_of_ne kq with h|h
  ·exact kI.mp HU x y (by omega) (by omega) h e
  ·exact kI.mp HU y x (by omega) (by omega) h e.symm
 obtain⟨inv,hinv⟩:∃inv:Nat->Nat,∀x,x<many->inv (P.getD x 0)=x:=by
  refine⟨λy=>if h:∃x,x<many/\P.getD x 0=y then Classical.choose h else 0,λx hx=>?_⟩
  have h:∃x',x'<many/\P.getD x' 0=P.getD x 0:=⟨x,hx,rfl⟩
  show(if h:∃x',x'<many/\P.getD x' 0=P.getD x 0 then Classical.choose h else 0)=x
  rw[dif_pos h]
  exact inj _ _ (Classical.choose_spec h).1 hx (Classical.choose_spec h).2
 have rn:=Xr (as:=as) (k:=k) (f:=ie P) inj (λa ha=>⟨(gX a ha).1.s,(gX a ha).1.g⟩) (λa=>⟨rfl,rfl,rfl,rfl⟩) hk
 generalize NA:(as.map (ie P)).drop k++((as.map (ie P)).take k).reverse=bs at *
 have BK:bs.length=as.length:=rn.len
 have yY:∀a∈bs,Drawn many (λy=>rk (inv y)) a:=λa ha=>by
  have nY:a∈as.map (ie P):=by
   rw[← NA]at ha
   rcases aM.mp ha with h|h
   ·exact mJ h
   ·exact gS (oS.mp h)
  obtain⟨b,hb,rfl⟩:=aR.mp nY
  obtain⟨h,_⟩:=gX b hb
  refine⟨sf _ h.s,sf _ h.g,h.t0,h.t1,h.b,λyZ=>?_⟩
  show rk (inv (P.getD b.s 0))<rk (inv (P.getD b.g 0))
  rw[hinv _ h.s,hinv _ h.g]
  exact h.r yZ
 have n4:=GR oJ qB (as:=bs) (by omega) yY
 obtain⟨o7,o8,L4,bo4,_,_,NW,Nx,NX⟩:=GS oJ qB (as:=bs) (by omega) yY (sf gg zF)
 have e7:o7=o1:=NW.uniq (Fx.congr λt b=>rn.sameA t b)
 have e8:o8=o2:=NX.uniq (Fy.congr λt b=>rn.sameL zF hL Nx t b)
 have eq4:=eqQ false [o7,o8] [o1,o2]
 rw[if_neg (by decide),decide_eq_true (by rw[e7,e8])]at eq4
 have ixp:dh (.lst (nats P)) (.int (gg:Int))=some (.int (P.getD gg 0:Int)):=by
  have e:P.getD gg 0=P[gg]'(by omega):=by simp[se,zF]
  rw[e]
  exact Mx (p:=P) (i:=gg) (by omega)
 have asg:∀(a0 a1 a2 a3 a4 a5 a6 a7:Option D) (f:EF),f [a0,a1,a2,a3,a4,a5,a6,a7,none,none]=some (.tup [.lst (nats P),.lst (bs.map cD)])->sAsg (gT (gsCons (gV 8) (gsCons (gV 9) gsNil))) f [a0,a1,a2,a3,a4,a5,a6,a7,none,none]=some (.nx [a0,a1,a2,a3,a4,a5,a6,a7,some (.lst (nats P)),some (.lst (bs.map cD))]):=by
  intro a0 a1 a2 a3 a4 a5 a6 a7 f h
  unfold sAsg
  rw[h]
  rfl
 have fd8:∀z:Int,dH (.int z) (.int 8)=some (.int (z / 8)):=λz=>zab (by decide) (by decide)
 have fd1:∀z:Int,dH (.int z) (.int 1001)=some (.int (z / 1001)):=λz=>zab (by decide) (by decide)
 subst hw hv hs
 clear hl CZ NE has jP gX yW yX yY FL FM e3 e4 e5 e6 e7 e8 Fx Fy NS NT NU NV NW NX hL Nv Nw Nx N8 N9 rn NA BK inj hinv sf HU se hP hk oJ qB zF Ng Nh og pD Fu Fv NO
 generalize (P.getD gg 0:Int)=pg at *
 generalize bg (nm many) ((as.map (iG (c2 % 1001))).map λa=>fR a (a.s:Int))=T9 at *
 generalize bg (nm many) ((as.map (gM (1+c2 / 1001 % 900))).map λa=>fR a (a.s:Int))=Ua at *
 generalize bg (nm many) (bs.map λa=>fR a (a.s:Int))=Ub at *
 generalize bg (nm many) (as.map λa=>fR a (a.s:Int))=T8 at *
 generalize (as.map (iG (c2 % 1001))).map cD=p2 at *
 generalize (as.map (gM (1+c2 / 1001 % 900))).map cD=p3 at *
 generalize bs.map cD=p4 at *
 generalize as.map cD=p1 at *
 generalize ([o1,o2].map (cS λq=>(q.1+c2 % 1001 * q.2,q.2))).map cT=x2 at *
 generalize ([o1,o2].map (cS (iL (1+c2 / 1001 % 900)))).map cT=x3 at *
 generalize [o3,o4].map cT=x4 at *
 generalize [o5,o6].map cT=x5 at *
 generalize [o7,o8].map cT=x6 at *
 generalize [o1,o2].map cT=x1 at *
 generalize nats P=np at *
 unfold M5
 walk_at "mir"
section
variable {P:Program}{w:World}{K:ae}{mg:Str->Option Value}{base:Heap}{a:Cp}
theorem ztj (T:Txt K mg a):bM P w K mg base dR 9 a.f_law a.d_law ["_law_script"] (kW K):=zsk (zsx T) Xw
end
theorem all_mk {l:jC}{w:World}{K:ae}{h:Heap}{mg:Str->Option Value}{fa f0 f1 f2 f3 f4 f5 f6 f7 f8 f9 EJ EK CD CF CG EL EN EO EQ ER ES ET EU EV EW EX EY EZ E1 E3 E4 E5 E6 E7 E8 E9 Fa Fb Fc Fd Fe Ff Fg HE c_Arrow c_Ride c_Wait c_Back c_Net Bt Bu:Addr}(X:K.In h)(G:h.Ns mainGlobals mg)(Ti:mg "law"=some (.ref fa))
  {Uo G7 Up G8 Uq En Ur Eo Us G9 Ut Ha Uu Hb Uv Hc Uw Hd Ux He JG uM JH uN JI uO JJ uP JK uQ JL uR JM uS JN uT JO uU JP uV JQ uW JR uX JS uY JT uZ JU vA JV vB JW vC JX vD JY vE JZ vF J0 vG J1 vH J2 vI J3 vJ J4 vK J5 vL J6 vM J7 vN J8 vO J9 vP Ka vQ Kb vR Kc vS Ke qV Ls Lu:Option Addr} {UJ UK BV UL UM UN UO UP UQ UR Ky Kz KA KB KC KD KE KF KG KH KI KJ KL KM KN KO KP KQ KR KS KU KW KY KZ K0 K1 K2 K3 K4 K5 K6 K7 K8 K9 Lv Lw:Array (Option Value)} {Uc II Hs Kh Es Hi Ud IJ Ht Ki Et Hj Ue FD ED FI CA EB Ug FE EE FJ CB EC Uh IK Hu Kj Eu Hk Ui IL Hv Kk Ew Hl Uj IM Hw Kl Ex Hm Uk IN Hx Km Ey Hn Ul IP Hy Kn Ez Ho Um IQ Hz Ko EA Hq IZ zO xG AF qW vV I0 zP xH AG qX vW Ja zQ xI AH qY vX Jb zR xJ AI qZ vY Jc zS xK AJ rc vZ Jd zT xL AK rf wA Je zU xM AL rh wB Jf zV xN AM rj wC Jg zW xO AN rm wD Jh zX xP AO rq wF Ji zY xQ AQ rz wG Jj zZ xR AR rA wH Jk Aa xS AS rB wI Jl Ab xT AT rC wJ Jm Ac xU AU rD wK Jn Ad xV AV rE wL Jo Ae xW AW rF wM Jp Af xX AX rG wN Jq Ag xY AY rH wO Jr Ah xZ AZ rJ wQ Js Ai yA A0 rK wR Jt Aj yB A1 rL wU Ju Ak yC A2 rM wV Jv Am yD A6 rN wW Jw An yE A7 rO wX Jx Ao yF A8 rP wY Jy Ap yG A9 rQ wZ Jz Aq yH Bc rR xA JA Ar yI Bd rS xB JB As yJ Be rT xC JC Au yK Bf rV xD JD Av yL Bg rW xE JE Aw yM Bi rX xF JF sx rZ sD o0 rY UY UZ:Value} {t5 t6 SN SO SQ SR SS:Tok} {U0 DV:Nat}
  (aC_Arrow:aq K mainGlobals "Arrow"=some (some (.ref c_Arrow))) (pg_Arrow:bX K c_Arrow Str.empty=true) (hd_Arrow:ck K c_Arrow=true) (po_Arrow:cL K c_Arrow=true) (sa_Arrow:aw K (.ref c_Arrow) "__setattr__"=some (some (.builtin "object.__setattr__"))) (mk_Arrow:cI K c_Arrow=true) (kc_Arrow:ao K (.ref c_Arrow)=true)
  (aC_Ride:aq K mainGlobals "Ride"=some (some (.ref c_Ride))) (pg_Ride:bX K c_Ride Str.empty=true) (hd_Ride:ck K c_Ride=true) (po_Ride:cL K c_Ride=true) (sa_Ride:aw K (.ref c_Ride) "__setattr__"=some (some (.builtin "object.__setattr__"))) (mk_Ride:cI K c_Ride=true) (kc_Ride:ao K (.ref c_Ride)=true)
  (aC_Wait:aq K mainGlobals "Wait"=some (some (.ref c_Wait))) (pg_Wait:bX K c_Wait Str.empty=true) (hd_Wait:ck K c_Wait=true) (po_Wait:cL K c_Wait=true) (sa_Wait:aw K (.ref c_Wait) "__setattr__"=some (some (.builtin "object.__setattr__"))) (mk_Wait:cI K c_Wait=true) (kc_Wait:ao K (.ref c_Wait)=true)
  (aC_Back:aq K mainGlobals "Back"=some (some (.ref c_Back))) (pg_Back:bX K c_Back Str.empty=true) (hd_Back:ck K c_Back=true) (po_Back:cL K c_Back=true) (sa_Back:aw K (.ref c_Back) "__setattr__"=some (some (.builtin "object.__setattr__"))) (mk_Back:cI K c_Back=true) (kc_Back:ao K (.ref c_Back)=true)
  (aC_Net:aq K mainGlobals "Net"=some (some (.ref c_Net))) (pg_Net:bX K c_Net Str.empty=true) (hd_Net:ck K c_Net=true) (po_Net:cL K c_Net=true) (sa_Net:aw K (.ref c_Net) "__setattr__"=some (some (.builtin "object.__setattr__"))) (mk_Net:cI K c_Net=true) (kc_Net:ao K (.ref c_Net)=true)
  (a0:aw K (.ref c_Arrow) "__init__"=some (some (.ref f0))) (i0:cK K (.ref f0)=true)
  (l0:K.lookup f0=some ⟨Uc,Uo,.func (af "__init__" "Arrow.__init__" (ap yq) (aj yq) (ah yq) .none II Hs Kh G7 Es Hi),UJ⟩) (c0:av K Es "Arrow.__init__"=true) (k0:ao K (.ref f0)=true)
  (a1:aw K (.ref c_Ride) "__init__"=some (some (.ref f1))) (i1:cK K (.ref f1)=true)
  (l1:K.lookup f1=some ⟨Ud,Up,.func (af "__init__" "Ride.__init__" (ap yy) (aj yy) (ah yy) .none IJ Ht Ki G8 Et Hj),UK⟩) (c1:av K Et "Ride.__init__"=true) (k1:ao K (.ref f1)=true)
  (a2:aw K (.ref c_Wait) "__init__"=some (some (.ref f2))) (i2:cK K (.ref f2)=true)
  (l2:K.lookup f2=some ⟨Ue,Uq,.func (af "__init__" "Wait.__init__" (ap yg) (aj yg) (ah yg) (.ref Bt) FD ED FI En CA EB),BV⟩) (c2:av K CA "Wait.__init__"=true) (k2:ao K (.ref f2)=true)
  (t2:K.lookup Bt=some ⟨UY,Ls,.seq #[.int 0 t5] U0,Lv⟩)
  (a3:aw K (.ref c_Back) "__init__"=some (some (.ref f3))) (i3:cK K (.ref f3)=true)
  (l3:K.lookup f3=some ⟨Ug,Ur,.func (af "__init__" "Back.__init__" (ap yh) (aj yh) (ah yh) (.ref Bu) FE EE FJ Eo CB EC),UL⟩) (c3:av K CB "Back.__init__"=true) (k3:ao K (.ref f3)=true)
  (t3:K.lookup Bu=some ⟨UZ,Lu,.seq #[.int 1 t6] DV,Lw⟩)
  (a4:aq K mainGlobals "is_letter"=some (some (.ref f4)))
  (l4:K.lookup f4=some ⟨Uh,Us,.func (af "is_letter" "is_letter" (ap x8) (aj x8) (ah x8) .none IK Hu Kj G9 Eu Hk),UM⟩) (c4:av K Eu "is_letter"=true) (k4:ao K (.ref f4)=true)
  (a5:aq K mainGlobals "is_figure"=some (some (.ref f5)))
  (l5:K.lookup f5=some ⟨Ui,Ut,.func (af "is_figure" "is_figure" (ap x9) (aj x9) (ah x9) .none IL Hv Kk Ha Ew Hl),UN⟩) (c5:av K Ew "is_figure"=true) (k5:ao K (.ref f5)=true)
  (a6:aq K mainGlobals "is_name"=some (some (.ref f6)))
  (l6:K.lookup f6=some ⟨Uj,Uu,.func (af "is_name" "is_name" (ap vi) (aj vi) (ah vi) .none IM Hw Kl Hb Ex Hm),UO⟩) (c6:av K Ex "is_name"=true) (k6:ao K (.ref f6)=true)
  (a7:aq K mainGlobals "are_names"=some (some (.ref f7)))
  (l7:K.lookup f7=some ⟨Uk,Uv,.func (af "are_names" "are_names" (ap wa) (aj wa) (ah wa) .none IN Hx Km Hc Ey Hn),UP⟩) (c7:av K Ey "are_names"=true) (k7:ao K (.ref f7)=true)
  (a8:aq K mainGlobals "lies_within"=some (some (.ref f8)))
  (l8:K.lookup f8=some ⟨Ul,Uw,.func (af "lies_within" "lies_within" (ap yz) (aj yz) (ah yz) .none IP Hy Kn Hd Ez Ho),UQ⟩) (c8:av K Ez "lies_within"=true) (k8:ao K (.ref f8)=true)
  (a9:aq K mainGlobals "is_right"=some (some (.ref f9)))
  (l9:K.lookup f9=some ⟨Um,Ux,.func (af "is_right" "is_right" (ap wu) (aj wu) (ah wu) .none IQ Hz Ko He EA Hq),UR⟩) (c9:av K EA "is_right"=true) (k9:ao K (.ref f9)=true)
  (a10:aq K mainGlobals "placed_goings"=some (some (.ref EJ)))
  (l10:K.lookup EJ=some ⟨IZ,JG,.func (af "placed_goings" "placed_goings" (ap yj) (aj yj) (ah yj) .none zO xG AF uM qW vV),Ky⟩) (c10:av K qW "placed_goings"=true) (k10:ao K (.ref EJ)=true)
  (a11:aq K mainGlobals "ring_back_from"=some (some (.ref EK)))
  (l11:K.lookup EK=some ⟨I0,JH,.func (af "ring_back_from" "ring_back_from" (ap ya) (aj ya) (ah ya) .none zP xH AG uN qX vW),Kz⟩) (c11:av K qX "ring_back_from"=true) (k11:ao K (.ref EK)=true)
  (a12:aw K (.ref c_Net) "__init__"=some (some (.ref CD))) (i12:cK K (.ref CD)=true)
  (l12:K.lookup CD=some ⟨Ja,JI,.func (af "__init__" "Net.__init__" (ap xn) (aj xn) (ah xn) .none zQ xI AH uO qY vX),KA⟩) (c12:av K qY "Net.__init__"=true) (k12:ao K (.ref CD)=true)
  (a13:aw K (.ref c_Net) "most_behind"=some (some (.ref CF))) (i13:cK K (.ref CF)=true)
  (l13:K.lookup CF=some ⟨Jb,JJ,.func (af "most_behind" "Net.most_behind" (ap zx) (aj zx) (ah zx) .none zR xJ AI uP qZ vY),KB⟩) (c13:av K qZ "Net.most_behind"=true) (k13:ao K (.ref CF)=true)
  (a14:aw K (.ref c_Net) "into"=some (some (.ref CG))) (i14:cK K (.ref CG)=true)
  (l14:K.lookup CG=some ⟨Jc,JK,.func (af "into" "Net.into" (ap wv) (aj wv) (ah wv) .none zS xK AJ uQ rc vZ),KC⟩) (c14:av K rc "Net.into"=true) (k14:ao K (.ref CG)=true)
  (a15:aq K mainGlobals "leads_to"=some (some (.ref EL)))
  (l15:K.lookup EL=some ⟨Jd,JL,.func (af "leads_to" "leads_to" (ap ww) (aj ww) (ah ww) .none zT xL AK uR rf wA),KD⟩) (c15:av K rf "leads_to"=true) (k15:ao K (.ref EL)=true)
  (a16:aq K mainGlobals "common_divisor"=some (some (.ref EN)))
  (l16:K.lookup EN=some ⟨Je,JM,.func (af "common_divisor" "common_divisor" (ap yb) (aj yb) (ah yb) .none zU xM AL uS rh wB),KE⟩) (c16:av K rh "common_divisor"=true) (k16:ao K (.ref EN)=true)
  (a17:aq K mainGlobals "ratio"=some (some (.ref EO)))
  (l17:K.lookup EO=some ⟨Jf,JN,.func (af "ratio" "ratio" (ap jd) (aj jd) (ah jd) .none zV xN AM uT rj wC),KF⟩) (c17:av K rj "ratio"=true) (k17:ao K (.ref EO)=true)
  (a18:aq K mainGlobals "scaled"=some (some (.ref EQ)))
  (l18:K.lookup EQ=some ⟨Jg,JO,.func (af "scaled" "scaled" (ap v9) (aj v9) (ah v9) .none zW xO AN uU rm wD),KG⟩) (c18:av K rm "scaled"=true) (k18:ao K (.ref EQ)=true)
  (a19:aq K mainGlobals "plus"=some (some (.ref ER)))
  (l19:K.lookup ER=some ⟨Jh,JP,.func (af "plus" "plus" (ap qw) (aj qw) (ah qw) .none zX xP AO uV rq wF),KH⟩) (c19:av K rq "plus"=true) (k19:ao K (.ref ER)=true)
  (a20:aq K mainGlobals "minus"=some (some (.ref ES)))
  (l20:K.lookup ES=some ⟨Ji,JQ,.func (af "minus" "minus" (ap je) (aj je) (ah je) .none zY xQ AQ uW rz wG),KI⟩) (c20:av K rz "minus"=true) (k20:ao K (.ref ES)=true)
  (a21:aq K mainGlobals "under"=some (some (.ref ET)))
  (l21:K.lookup ET=some ⟨Jj,JR,.func (af "under" "under" (ap jf) (aj jf) (ah jf) .none zZ xR AR uX rA wH),KJ⟩) (c21:av K rA "under"=true) (k21:ao K (.ref ET)=true)
  (a22:aq K mainGlobals "mean"=some (some (.ref EU)))
  (l22:K.lookup EU=some ⟨Jk,JS,.func (af "mean" "mean" (ap qx) (aj qx) (ah qx) .none Aa xS AS uY rB wI),KL⟩) (c22:av K rB "mean"=true) (k22:ao K (.ref EU)=true)
  (a23:aq K mainGlobals "push_once"=some (some (.ref EV)))
  (l23:K.lookup EV=some ⟨Jl,JT,.func (af "push_once" "push_once" (ap wc) (aj wc) (ah wc) .none Ab xT AT uZ rC wJ),KM⟩) (c23:av K rC "push_once"=true) (k23:ao K (.ref EV)=true)
  (a24:aq K mainGlobals "times_or_ring_along"=some (some (.ref EW)))
  (l24:K.lookup EW=some ⟨Jm,JU,.func (af "times_or_ring_along" "times_or_ring_along" (ap zo) (aj zo) (ah zo) .none Ac xU AU vA rD wK),KN⟩) (c24:av K rD "times_or_ring_along"=true) (k24:ao K (.ref EW)=true)
  (a25:aq K mainGlobals "ring_above"=some (some (.ref EX)))
  (l25:K.lookup EX=some ⟨Jn,JV,.func (af "ring_above" "ring_above" (ap xo) (aj xo) (ah xo) .none Ad xV AV vB rE wL),KO⟩) (c25:av K rE "ring_above"=true) (k25:ao K (.ref EX)=true)
  (a26:aq K mainGlobals "midway"=some (some (.ref EY)))
  (l26:K.lookup EY=some ⟨Jo,JW,.func (af "midway" "midway" (ap ua) (aj ua) (ah ua) .none Ae xW AW vC rF wM),KP⟩) (c26:av K rF "midway"=true) (k26:ao K (.ref EY)=true)
  (a27:aq K mainGlobals "least_gap"=some (some (.ref EZ)))
  (l27:K.lookup EZ=some ⟨Jp,JX,.func (af "least_gap" "least_gap" (ap we) (aj we) (ah we) .none Af xX AX vD rG wN),KQ⟩) (c27:av K rG "least_gap"=true) (k27:ao K (.ref EZ)=true)
  (a28:aq K mainGlobals "greatest_ring"=some (some (.ref E1)))
  (l28:K.lookup E1=some ⟨Jq,JY,.func (af "greatest_ring" "greatest_ring" (ap yk) (aj yk) (ah yk) .none Ag xY AY vE rH wO),KR⟩) (c28:av K rH "greatest_ring"=true) (k28:ao K (.ref E1)=true)
  (a29:aq K mainGlobals "paper_along"=some (some (.ref E3)))
  (l29:K.lookup E3=some ⟨Jr,JZ,.func (af "paper_along" "paper_along" (ap y9) (aj y9) (ah y9) .none Ah xZ AZ vF rJ wQ),KS⟩) (c29:av K rJ "paper_along"=true) (k29:ao K (.ref E3)=true)
  (a30:aq K mainGlobals "least_round"=some (some (.ref E4)))
  (l30:K.lookup E4=some ⟨Js,J0,.func (af "least_round" "least_round" (ap xc) (aj xc) (ah xc) .none Ai yA A0 vG rK wR),KU⟩) (c30:av K rK "least_round"=true) (k30:ao K (.ref E4)=true)
  (a31:aq K mainGlobals "rate"=some (some (.ref E5)))
  (l31:K.lookup E5=some ⟨Jt,J1,.func (af "rate" "rate" (ap qy) (aj qy) (ah qy) .none Aj yB A1 vH rL wU),KW⟩) (c31:av K rL "rate"=true) (k31:ao K (.ref E5)=true)
  (a32:aq K mainGlobals "_law_cell_at"=some (some (.ref E6)))
  (l32:K.lookup E6=some ⟨Ju,J2,.func (af "_law_cell_at" "_law_cell_at" (ap xf) (aj xf) (ah xf) .none Ak yC A2 vI rM wV),KY⟩) (c32:av K rM "_law_cell_at"=true) (k32:ao K (.ref E6)=true)
  (a33:aq K mainGlobals "_law_is_row"=some (some (.ref E7)))
  (l33:K.lookup E7=some ⟨Jv,J3,.func (af "_law_is_row" "_law_is_row" (ap xp) (aj xp) (ah xp) .none Am yD A6 vJ rN wW),KZ⟩) (c33:av K rN "_law_is_row"=true) (k33:ao K (.ref E7)=true)
  (a34:aq K mainGlobals "_law_mixed"=some (some (.ref E8)))
  (l34:K.lookup E8=some ⟨Jw,J4,.func (af "_law_mixed" "_law_mixed" (ap wf) (aj wf) (ah wf) .none An yE A7 vK rO wX),K0⟩) (c34:av K rO "_law_mixed"=true) (k34:ao K (.ref E8)=true)
  (a35:aq K mainGlobals "_law_rank"=some (some (.ref E9)))
  (l35:K.lookup E9=some ⟨Jx,J5,.func (af "_law_rank" "_law_rank" (ap wx) (aj wx) (ah wx) .none Ao yF A8 vL rP wY),K1⟩) (c35:av K rP "_law_rank"=true) (k35:ao K (.ref E9)=true)
  (a36:aq K mainGlobals "_law_arrow"=some (some (.ref Fa)))
  (l36:K.lookup Fa=some ⟨Jy,J6,.func (af "_law_arrow" "_law_arrow" (ap wg) (aj wg) (ah wg) .none Ap yG A9 vM rQ wZ),K2⟩) (c36:av K rQ "_law_arrow"=true) (k36:ao K (.ref Fa)=true)
  (a37:aq K mainGlobals "_law_made"=some (some (.ref Fb)))
  (l37:K.lookup Fb=some ⟨Jz,J7,.func (af "_law_made" "_law_made" (ap wy) (aj wy) (ah wy) .none Aq yH Bc vN rR xA),K3⟩) (c37:av K rR "_law_made"=true) (k37:ao K (.ref Fb)=true)
  (a38:aq K mainGlobals "_law_net"=some (some (.ref Fc)))
  (l38:K.lookup Fc=some ⟨JA,J8,.func (af "_law_net" "_law_net" (ap vk) (aj vk) (ah vk) .none Ar yI Bd vO rS xB),K4⟩) (c38:av K rS "_law_net"=true) (k38:ao K (.ref Fc)=true)
  (a39:aq K mainGlobals "_law_both"=some (some (.ref Fd)))
  (l39:K.lookup Fd=some ⟨JB,J9,.func (af "_law_both" "_law_both" (ap wz) (aj wz) (ah wz) .none As yJ Be vP rT xC),K5⟩) (c39:av K rT "_law_both"=true) (k39:ao K (.ref Fd)=true)
  (a40:aq K mainGlobals "_law_more"=some (some (.ref Fe)))
  (l40:K.lookup Fe=some ⟨JC,Ka,.func (af "_law_more" "_law_more" (ap w6) (aj w6) (ah w6) .none Au yK Bf vQ rV xD),K6⟩) (c40:av K rV "_law_more"=true) (k40:ao K (.ref Fe)=true)
  (a41:aq K mainGlobals "_law_many_times"=some (some (.ref Ff)))
  (l41:K.lookup Ff=some ⟨JD,Kb,.func (af "_law_many_times" "_law_many_times" (ap yc) (aj yc) (ah yc) .none Av yL Bg vR rW xE),K7⟩) (c41:av K rW "_law_many_times"=true) (k41:ao K (.ref Ff)=true)
  (a42:aq K mainGlobals "_law_renamed"=some (some (.ref Fg)))
  (l42:K.lookup Fg=some ⟨JE,Kc,.func (af "_law_renamed" "_law_renamed" (ap xg) (aj xg) (ah xg) .none Aw yM Bi vS rX xF),K8⟩) (c42:av K rX "_law_renamed"=true) (k42:ao K (.ref Fg)=true)
  (a43:aq K mainGlobals "law"=some (some (.ref HE)))
  (l43:K.lookup HE=some ⟨JF,Ke,.func (af "law" "law" (ap ni) (aj ni) (ah ni) .none sx rZ sD qV o0 rY),K9⟩) (c43:av K o0 "law"=true) (k43:ao K (.ref HE)=true)
  (qs_Arrow:cM K (.ref c_Arrow) "__getattribute__"=some (some (.builtin "type.__getattribute__"))) (qr_Arrow:fW K c_Arrow (.type "type")=true) (qf_Arrow:fV K (.ref c_Arrow) (.type "type") "__init__"=some (.val (.ref f0)))
  (n_Net_arrows:aw K (.ref c_Net) "arrows"=some none)
  (n_Arrow_behind:aw K (.ref c_Arrow) "behind"=some none)
  (n_Ride_behind:aw K (.ref c_Ride) "behind"=some none)
  (n_Wait_behind:aw K (.ref c_Wait) "behind"=some none)
  (n_Back_behind:aw K (.ref c_Back) "behind"=some none)
  (n_Arrow_goal:aw K (.ref c_Arrow) "goal"=some none)
  (n_Ride_goal:aw K (.ref c_Ride) "goal"=some none)
  (n_Wait_goal:aw K (.ref c_Wait) "goal"=some none)
  (n_Back_goal:aw K (.ref c_Back) "goal"=some none)
  (n_Net_names:aw K (.ref c_Net) "names"=some none)
  (n_Arrow_start:aw K (.ref c_Arrow) "start"=some none)
  (n_Ride_start:aw K (.ref c_Ride) "start"=some none)
  (n_Wait_start:aw K (.ref c_Wait) "start"=some none)
  (n_Back_start:aw K (.ref c_Back) "start"=some none)
  (n_Arrow_time:aw K (.ref c_Arrow) "time"=some none)
  (n_Ride_time:aw K (.ref c_Ride) "time"=some none)
  (n_Wait_time:aw K (.ref c_Wait) "time"=some none)
  (n_Back_time:aw K (.ref c_Back) "time"=some none)
  (ign:cM K (.builtin "object.__class__") "__get__"=some (some (.builtin "getset_descriptor.__get__"))) (igt:jE K (.builtin "object.__class__")=some true)
  (iga_Arrow:aw K (.ref c_Arrow) "__class__"=some (some (.builtin "object.__class__"))) (igm_Arrow:dS K c_Arrow (.type "object")=some true)
  (kit_Arrow_Back:bv K (.ref c_Arrow) (.ref c_Back)=some false)
  (kit_Arrow_Ride:bv K (.ref c_Arrow) (.ref c_Ride)=some false)
  (iga_Ride:aw K (.ref c_Ride) "__class__"=some (some (.builtin "object.__class__"))) (igm_Ride:dS K c_Ride (.type "object")=some true)
  (kit_Ride_Back:bv K (.ref c_Ride) (.ref c_Back)=some false)
  (kit_Ride_Ride:bv K (.ref c_Ride) (.ref c_Ride)=some true)
  (iga_Wait:aw K (.ref c_Wait) "__class__"=some (some (.builtin "object.__class__"))) (igm_Wait:dS K c_Wait (.type "object")=some true)
  (kit_Wait_Back:bv K (.ref c_Wait) (.ref c_Back)=some false)
  (kit_Wait_Ride:bv K (.ref c_Wait) (.ref c_Ride)=some false)
  (iga_Back:aw K (.ref c_Back) "__class__"=some (some (.builtin "object.__class__"))) (igm_Back:dS K c_Back (.type "object")=some true)
  (kit_Back_Back:bv K (.ref c_Back) (.ref c_Back)=some true)
  (kit_Back_Ride:bv K (.ref c_Back) (.ref c_Ride)=some false)
  (iga_Net:aw K (.ref c_Net) "__class__"=some (some (.builtin "object.__class__"))) (igm_Net:dS K c_Net (.type "object")=some true)
  (kit_Net_Back:bv K (.ref c_Net) (.ref c_Back)=some false)
  (kit_Net_Ride:bv K (.ref c_Net) (.ref c_Ride)=some false)
  (z0:aq K mainGlobals "abs"=some none)
  (z1:aq K mainGlobals "all"=some none)
  (z2:aq K mainGlobals "bool"=some none)
  (z3:aq K mainGlobals "enumerate"=some none)
  (z4:aq K mainGlobals "int"=some none)
  (z5:aq K mainGlobals "isinstance"=some none)
  (z6:aq K mainGlobals "len"=some none)
  (z7:aq K mainGlobals "list"=some none)
  (z8:aq K mainGlobals "max"=some none)
  (z9:aq K mainGlobals "range"=some none)
  (z10:aq K mainGlobals "reversed"=some none)
  (z11:aq K mainGlobals "sorted"=some none)
  (z12:aq K mainGlobals "str"=some none)
  (z13:aq K mainGlobals "sum"=some none)
  (gc0:aq K mainGlobals "MOST_ARROWS"=some (some (.int 120 SN)))
  (gc1:aq K mainGlobals "MOST_BEHIND"=some (some (.int 4 SO)))
  (gc2:aq K mainGlobals "MOST_NAMES"=some (some (.int 40 SQ)))
  (gc3:aq K mainGlobals "MOST_SIGNS"=some (some (.int 8 SR)))
  (gc4:aq K mainGlobals "MOST_TIME"=some (some (.int 1000000000 SS))) :
  ∃fd:FuncData,(∀(s:Shared) (v:Value),BindsTo s fd ⟨[v],[]⟩ [("_law_script",v)])/\∀base:Heap,K.In base->base.Ns mainGlobals mg->bM l.prog w K mg base dR 9 fa fd ["_law_script"] (kW K):=by
 have e:=Ti.symm.trans (az X G a43)
 cases e
 have F0:=zy (st:=yq) l0 c0 k0
 have b0:Binds K (af "__init__" "Arrow.__init__" (ap yq) (aj yq) (ah yq) .none II Hs Kh G7 Es Hi) ["self","start","goal","time","behind"] []:=.all λus hl=>match us,hl with|[_,_,_,_,_],_=>rfl
 have F1:=zy (st:=yy) l1 c1 k1
 have b1:Binds K (af "__init__" "Ride.__init__" (ap yy) (aj yy) (ah yy) .none IJ Ht Ki G8 Et Hj) ["self","start","goal","time"] []:=.all λus hl=>match us,hl with|[_,_,_,_],_=>rfl
 have F2:=zy (st:=yg) l2 c2 k2
 have b2:Binds K (af "__init__" "Wait.__init__" (ap yg) (aj yg) (ah yg) (.ref Bt) FD ED FI En CA EB) ["self","start","goal","time","behind"] []:=GC (T:=Bt) rfl t2 rfl λus hl=>by
  have hl:us.length=5:=by simpa using hl
  exact match us,hl with|[_,_,_,_,_],_=>⟨_,rfl,rfl⟩
 have Hf:Binds K (af "__init__" "Wait.__init__" (ap yg) (aj yg) (ah yg) (.ref Bt) FD ED FI En CA EB) ["self","start","goal","time","behind"] [.int 0 t5]:=GC (T:=Bt) rfl t2 rfl λus hl=>by
  have hl:us.length=4:=by simpa using hl
  exact match us,hl with|[_,_,_,_],_=>⟨_,rfl,rfl⟩
 have F3:=zy (st:=yh) l3 c3 k3
 have b3:Binds K (af "__init__" "Back.__init__" (ap yh) (aj yh) (ah yh) (.ref Bu) FE EE FJ Eo CB EC) ["self","start","goal","time","behind"] []:=GC (T:=Bu) rfl t3 rfl λus hl=>by
  have hl:us.length=5:=by simpa using hl
  exact match us,hl with|[_,_,_,_,_],_=>⟨_,rfl,rfl⟩
 have Hg:Binds K (af "__init__" "Back.__init__" (ap yh) (aj yh) (ah yh) (.ref Bu) FE EE FJ Eo CB EC) ["self","start","goal","time","behind"] [.int 1 t6]:=GC (T:=Bu) rfl t3 rfl λus hl=>by
  have hl:us.length=4:=by simpa using hl
  exact match us,hl with|[_,_,_,_],_=>⟨_,rfl,rfl⟩
 have F4:=zy (st:=x8) l4 c4 k4
 have b4:Binds K (af "is_letter" "is_letter" (ap x8) (aj x8) (ah x8) .none IK Hu Kj G9 Eu Hk) ["sign"] []:=.all λus hl=>match us,hl with|[_],_=>rfl
 have F5:=zy (st:=x9) l5 c5 k5
 have b5:Binds K (af "is_figure" "is_figure" (ap x9) (aj x9) (ah x9) .none IL Hv Kk Ha Ew Hl) ["sign"] []:=.all λus hl=>match us,hl with|[_],_=>rfl
 have F6:=zy (st:=vi) l6 c6 k6
 have b6:Binds K (af "is_name" "is_name" (ap vi) (aj vi) (ah vi) .none IM Hw Kl Hb Ex Hm) ["word"] []:=.all λus hl=>match us,hl with|[_],_=>rfl
 have F7:=zy (st:=wa) l7 c7 k7
 have b7:Binds K (af "are_names" "are_names" (ap wa) (aj wa) (ah wa) .none IN Hx Km Hc Ey Hn) ["names"] []:=.all λus hl=>match us,hl with|[_],_=>rfl
 have F8:=zy (st:=yz) l8 c8 k8
 have b8:Binds K (af "lies_within" "lies_within" (ap yz) (aj yz) (ah yz) .none IP Hy Kn Hd Ez Ho) ["number","least","most"] []:=.all λus hl=>match us,hl with|[_,_,_],_=>rfl
 have F9:=zy (st:=wu) l9 c9 k9
 have b9:Binds K (af "is_right" "is_right" (ap wu) (aj wu) (ah wu) .none IQ Hz Ko He EA Hq) ["arrow","many"] []:=.all λus hl=>match us,hl with|[_,_],_=>rfl
 have Re:=zy (st:=yj) l10 c10 k10
 have RT:Binds K (af "placed_goings" "placed_goings" (ap yj) (aj yj) (ah yj) .none zO xG AF uM qW vV) ["many","arrows"] []:=.all λus hl=>match us,hl with|[_,_],_=>rfl
 have Rf:=zy (st:=ya) l11 c11 k11
 have RU:Binds K (af "ring_back_from" "ring_back_from" (ap ya) (aj ya) (ah ya) .none zP xH AG uN qX vW) ["arrows","chosen","going"] []:=.all λus hl=>match us,hl with|[_,_,_],_=>rfl
 have Rg:=zy (st:=xn) l12 c12 k12
 have RV:Binds K (af "__init__" "Net.__init__" (ap xn) (aj xn) (ah xn) .none zQ xI AH uO qY vX) ["self","names","arrows"] []:=.all λus hl=>match us,hl with|[_,_,_],_=>rfl
 have Rh:=zy (st:=zx) l13 c13 k13
 have RW:Binds K (af "most_behind" "Net.most_behind" (ap zx) (aj zx) (ah zx) .none zR xJ AI uP qZ vY) ["self"] []:=.all λus hl=>match us,hl with|[_],_=>rfl
 have Ri:=zy (st:=wv) l14 c14 k14
 have RX:Binds K (af "into" "Net.into" (ap wv) (aj wv) (ah wv) .none zS xK AJ uQ rc vZ) ["self","going"] []:=.all λus hl=>match us,hl with|[_,_],_=>rfl
 have Rj:=zy (st:=ww) l15 c15 k15
 have RY:Binds K (af "leads_to" "leads_to" (ap ww) (aj ww) (ah ww) .none zT xL AK uR rf wA) ["net","going"] []:=.all λus hl=>match us,hl with|[_,_],_=>rfl
 have Rk:=zy (st:=yb) l16 c16 k16
 have RZ:Binds K (af "common_divisor" "common_divisor" (ap yb) (aj yb) (ah yb) .none zU xM AL uS rh wB) ["one","other"] []:=.all λus hl=>match us,hl with|[_,_],_=>rfl
 have Rl:=zy (st:=jd) l17 c17 k17
 have R1:Binds K (af "ratio" "ratio" (ap jd) (aj jd) (ah jd) .none zV xN AM uT rj wC) ["top","bottom"] []:=.all λus hl=>match us,hl with|[_,_],_=>rfl
 have Rm:=zy (st:=v9) l18 c18 k18
 have R3:Binds K (af "scaled" "scaled" (ap v9) (aj v9) (ah v9) .none zW xO AN uU rm wD) ["one","whole"] []:=.all λus hl=>match us,hl with|[_,_],_=>rfl
 have Rn:=zy (st:=qw) l19 c19 k19
 have R4:Binds K (af "plus" "plus" (ap qw) (aj qw) (ah qw) .none zX xP AO uV rq wF) ["one","other"] []:=.all λus hl=>match us,hl with|[_,_],_=>rfl
 have Ro:=zy (st:=je) l20 c20 k20
 have R5:Binds K (af "minus" "minus" (ap je) (aj je) (ah je) .none zY xQ AQ uW rz wG) ["one","other"] []:=.all λus hl=>match us,hl with|[_,_],_=>rfl
 have Rp:=zy (st:=jf) l21 c21 k21
 have R6:Binds K (af "under" "under" (ap jf) (aj jf) (ah jf) .none zZ xR AR uX rA wH) ["one","other"] []:=.all λus hl=>match us,hl with|[_,_],_=>rfl
 have Rq:=zy (st:=qx) l22 c22 k22
 have R7:Binds K (af "mean" "mean" (ap qx) (aj qx) (ah qx) .none Aa xS AS uY rB wI) ["net","ring"] []:=.all λus hl=>match us,hl with|[_,_],_=>rfl
 have Rr:=zy (st:=wc) l23 c23 k23
 have R8:Binds K (af "push_once" "push_once" (ap wc) (aj wc) (ah wc) .none Ab xT AT uZ rC wJ) ["net","pace","numbers","times","chosen"] []:=.all λus hl=>match us,hl with|[_,_,_,_,_],_=>rfl
 have Rt:=zy (st:=zo) l24 c24 k24
 have R9:Binds K (af "times_or_ring_along" "times_or_ring_along" (ap zo) (aj zo) (ah zo) .none Ac xU AU vA rD wK) ["net","pace","numbers"] []:=.all λus hl=>match us,hl with|[_,_,_],_=>rfl
 have Ru:=zy (st:=xo) l25 c25 k25
 have Sa:Binds K (af "ring_above" "ring_above" (ap xo) (aj xo) (ah xo) .none Ad xV AV vB rE wL) ["net","pace","numbers"] []:=.all λus hl=>match us,hl with|[_,_,_],_=>rfl
 have Rv:=zy (st:=ua) l26 c26 k26
 have Sb:Binds K (af "midway" "midway" (ap ua) (aj ua) (ah ua) .none Ae xW AW vC rF wM) ["one","other"] []:=.all λus hl=>match us,hl with|[_,_],_=>rfl
 have Rw:=zy (st:=we) l27 c27 k27
 have Sd:Binds K (af "least_gap" "least_gap" (ap we) (aj we) (ah we) .none Af xX AX vD rG wN) ["net"] []:=.all λus hl=>match us,hl with|[_],_=>rfl
 have Rx:=zy (st:=yk) l28 c28 k28
 have Se:Binds K (af "greatest_ring" "greatest_ring" (ap yk) (aj yk) (ah yk) .none Ag xY AY vE rH wO) ["net","numbers"] []:=.all λus hl=>match us,hl with|[_,_],_=>rfl
 have Ry:=zy (st:=y9) l29 c29 k29
 have Sf:Binds K (af "paper_along" "paper_along" (ap y9) (aj y9) (ah y9) .none Ah xZ AZ vF rJ wQ) ["net","numbers"] []:=.all λus hl=>match us,hl with|[_,_],_=>rfl
 have Rz:=zy (st:=xc) l30 c30 k30
 have Sg:Binds K (af "least_round" "least_round" (ap xc) (aj xc) (ah xc) .none Ai yA A0 vG rK wR) ["net"] []:=.all λus hl=>match us,hl with|[_],_=>rfl
 have RA:=zy (st:=qy) l31 c31 k31
 have Sh:Binds K (af "rate" "rate" (ap qy) (aj qy) (ah qy) .none Aj yB A1 vH rL wU) ["net","going"] []:=.all λus hl=>match us,hl with|[_,_],_=>rfl
 have RB:=zy (st:=xf) l32 c32 k32
 have Si:Binds K (af "_law_cell_at" "_law_cell_at" (ap xf) (aj xf) (ah xf) .none Ak yC A2 vI rM wV) ["_law_script","_law_k"] []:=.all λus hl=>match us,hl with|[_,_],_=>rfl
 have RC:=zy (st:=xp) l33 c33 k33
 have Sj:Binds K (af "_law_is_row" "_law_is_row" (ap xp) (aj xp) (ah xp) .none Am yD A6 vJ rN wW) ["_law_cell"] []:=.all λus hl=>match us,hl with|[_],_=>rfl
 have RD:=zy (st:=wf) l34 c34 k34
 have Sk:Binds K (af "_law_mixed" "_law_mixed" (ap wf) (aj wf) (ah wf) .none An yE A7 vK rO wX) ["_law_cell","_law_k"] []:=.all λus hl=>match us,hl with|[_,_],_=>rfl
 have RE:=zy (st:=wx) l35 c35 k35
 have Sl:Binds K (af "_law_rank" "_law_rank" (ap wx) (aj wx) (ah wx) .none Ao yF A8 vL rP wY) ["_law_turn","_law_many","_law_going"] []:=.all λus hl=>match us,hl with|[_,_,_],_=>rfl
 have RF:=zy (st:=wg) l36 c36 k36
 have Sm:Binds K (af "_law_arrow" "_law_arrow" (ap wg) (aj wg) (ah wg) .none Ap yG A9 vM rQ wZ) ["_law_cell","_law_many","_law_turn"] []:=.all λus hl=>match us,hl with|[_,_,_],_=>rfl
 have RH:=zy (st:=wy) l37 c37 k37
 have Sn:Binds K (af "_law_made" "_law_made" (ap wy) (aj wy) (ah wy) .none Aq yH Bc vN rR xA) ["_law_arrow_here","_law_kind"] []:=.all λus hl=>match us,hl with|[_,_],_=>rfl
 have RI:=zy (st:=vk) l38 c38 k38
 have So:Binds K (af "_law_net" "_law_net" (ap vk) (aj vk) (ah vk) .none Ar yI Bd vO rS xB) ["_law_arrows","_law_many"] []:=.all λus hl=>match us,hl with|[_,_],_=>rfl
 have RJ:=zy (st:=wz) l39 c39 k39
 have Sq:Binds K (af "_law_both" "_law_both" (ap wz) (aj wz) (ah wz) .none As yJ Be vP rT xC) ["_law_net_here","_law_going"] []:=.all λus hl=>match us,hl with|[_,_],_=>rfl
 have RK:=zy (st:=w6) l40 c40 k40
 have Sr:Binds K (af "_law_more" "_law_more" (ap w6) (aj w6) (ah w6) .none Au yK Bf vQ rV xD) ["_law_beats","_law_whole"] []:=.all λus hl=>match us,hl with|[_,_],_=>rfl
 have RL:=zy (st:=yc) l41 c41 k41
 have Ss:Binds K (af "_law_many_times" "_law_many_times" (ap yc) (aj yc) (ah yc) .none Av yL Bg vR rW xE) ["_law_beats","_law_whole"] []:=.all λus hl=>match us,hl with|[_,_],_=>rfl
 have RM:=zy (st:=xg) l42 c42 k42
 have Su:Binds K (af "_law_renamed" "_law_renamed" (ap xg) (aj xg) (ah xg) .none Aw yM Bi vS rX xF) ["_law_arrows","_law_many","_law_step"] []:=.all λus hl=>match us,hl with|[_,_,_],_=>rfl
 have RN:=zy (st:=ni) l43 c43 k43
 have Sv:Binds K (af "law" "law" (ap ni) (aj ni) (ah ni) .none sx rZ sD qV o0 rY) ["_law_script"] []:=.all λus hl=>match us,hl with|[_],_=>rfl
 have T:Txt K mg ⟨c_Arrow,c_Ride,c_Wait,c_Back,c_Net,f0,af "__init__" "Arrow.__init__" (ap yq) (aj yq) (ah yq) .none II Hs Kh G7 Es Hi,f1,af "__init__" "Ride.__init__" (ap yy) (aj yy) (ah yy) .none IJ Ht Ki G8 Et Hj,f2,af "__init__" "Wait.__init__" (ap yg) (aj yg) (ah yg) (.ref Bt) FD ED FI En CA EB,f3,af "__init__" "Back.__init__" (ap yh) (aj yh) (ah yh) (.ref Bu) FE EE FJ Eo CB EC,f4,af "is_letter" "is_letter" (ap x8) (aj x8) (ah x8) .none IK Hu Kj G9 Eu Hk,f5,af "is_figure" "is_figure" (ap x9) (aj x9) (ah x9) .none IL Hv Kk Ha Ew Hl,f6,af "is_name" "is_name" (ap vi) (aj vi) (ah vi) .none IM Hw Kl Hb Ex Hm,f7,af "are_names" "are_names" (ap wa) (aj wa) (ah wa) .none IN Hx Km Hc Ey Hn,f8,af "lies_within" "lies_within" (ap yz) (aj yz) (ah yz) .none IP Hy Kn Hd Ez Ho,f9,af "is_right" "is_right" (ap wu) (aj wu) (ah wu) .none IQ Hz Ko He EA Hq,EJ,af "placed_goings" "placed_goings" (ap yj) (aj yj) (ah yj) .none zO xG AF uM qW vV,EK,af "ring_back_from" "ring_back_from" (ap ya) (aj ya) (ah ya) .none zP xH AG uN qX vW,CD,af "__init__" "Net.__init__" (ap xn) (aj xn) (ah xn) .none zQ xI AH uO qY vX,CF,af "most_behind" "Net.most_behind" (ap zx) (aj zx) (ah zx) .none zR xJ AI uP qZ vY,CG,af "into" "Net.into" (ap wv) (aj wv) (ah wv) .none zS xK AJ uQ rc vZ,EL,af "leads_to" "leads_to" (ap ww) (aj ww) (ah ww) .none zT xL AK uR rf wA,EN,af "common_divisor" "common_divisor" (ap yb) (aj yb) (ah yb) .none zU xM AL uS rh wB,EO,af "ratio" "ratio" (ap jd) (aj jd) (ah jd) .none zV xN AM uT rj wC,EQ,af "scaled" "scaled" (ap v9) (aj v9) (ah v9) .none zW xO AN uU rm wD,ER,af "plus" "plus" (ap qw) (aj qw) (ah qw) .none zX xP AO uV rq wF,ES,af "minus" "minus" (ap je) (aj je) (ah je) .none zY xQ AQ uW rz wG,ET,af "under" "under" (ap jf) (aj jf) (ah jf) .none zZ xR AR uX rA wH,EU,af "mean" "mean" (ap qx) (aj qx) (ah qx) .none Aa xS AS uY rB wI,EV,af "push_once" "push_once" (ap wc) (aj wc) (ah wc) .none Ab xT AT uZ rC wJ,EW,af "times_or_ring_along" "times_or_ring_along" (ap zo) (aj zo) (ah zo) .none Ac xU AU vA rD wK,EX,af "ring_above" "ring_above" (ap xo) (aj xo) (ah xo) .none Ad xV AV vB rE wL,EY,af "midway" "midway" (ap ua) (aj ua) (ah ua) .none Ae xW AW vC rF wM,EZ,af "least_gap" "least_gap" (ap we) (aj we) (ah we) .none Af xX AX vD rG wN,E1,af "greatest_ring" "greatest_ring" (ap yk) (aj yk) (ah yk) .none Ag xY AY vE rH wO,E3,af "paper_along" "paper_along" (ap y9) (aj y9) (ah y9) .none Ah xZ AZ vF rJ wQ,E4,af "least_round" "least_round" (ap xc) (aj xc) (ah xc) .none Ai yA A0 vG rK wR,E5,af "rate" "rate" (ap qy) (aj qy) (ah qy) .none Aj yB A1 vH rL wU,E6,af "_law_cell_at" "_law_cell_at" (ap xf) (aj xf) (ah xf) .none Ak yC A2 vI rM wV,E7,af "_law_is_row" "_law_is_row" (ap xp) (aj xp) (ah xp) .none Am yD A6 vJ rN wW,E8,af "_law_mixed" "_law_mixed" (ap wf) (aj wf) (ah wf) .none An yE A7 vK rO wX,E9,af "_law_rank" "_law_rank" (ap wx) (aj wx) (ah wx) .none Ao yF A8 vL rP wY,Fa,af "_law_arrow" "_law_arrow" (ap wg) (aj wg) (ah wg) .none Ap yG A9 vM rQ wZ,Fb,af "_law_made" "_law_made" (ap wy) (aj wy) (ah wy) .none Aq yH Bc vN rR xA,Fc,af "_law_net" "_law_net" (ap vk) (aj vk) (ah vk) .none Ar yI Bd vO rS xB,Fd,af "_law_both" "_law_both" (ap wz) (aj wz) (ah wz) .none As yJ Be vP rT xC,Fe,af "_law_more" "_law_more" (ap w6) (aj w6) (ah w6) .none Au yK Bf vQ rV xD,Ff,af "_law_many_times" "_law_many_times" (ap yc) (aj yc) (ah yc) .none Av yL Bg vR rW xE,Fg,af "_law_renamed" "_law_renamed" (ap xg) (aj xg) (ah xg) .none Aw yM Bi vS rX xF,fa,af "law" "law" (ap ni) (aj ni) (ah ni) .none sx rZ sD qV o0 rY⟩:=by
  constructor
  ·exact⟨⟨pg_Arrow,hd_Arrow,po_Arrow,sa_Arrow⟩,az X G aC_Arrow,mk_Arrow,kc_Arrow⟩
  ·exact⟨⟨pg_Ride,hd_Ride,po_Ride,sa_Ride⟩,az X G aC_Ride,mk_Ride,kc_Ride⟩
  ·exact⟨⟨pg_Wait,hd_Wait,po_Wait,sa_Wait⟩,az X G aC_Wait,mk_Wait,kc_Wait⟩
  ·exact⟨⟨pg_Back,hd_Back,po_Back,sa_Back⟩,az X G aC_Back,mk_Back,kc_Back⟩
  ·exact⟨⟨pg_Net,hd_Net,po_Net,sa_Net⟩,az X G aC_Net,mk_Net,kc_Net⟩
  ·exact⟨F0,⟨a0,i0,k0⟩,b0⟩
  ·exact⟨F1,⟨a1,i1,k1⟩,b1⟩
  ·exact⟨F2,⟨a2,i2,k2⟩,b2⟩
  ·exact⟨_,trivial,(.cons ⟨_,rfl⟩ .nil),Hf⟩
  ·exact⟨F3,⟨a3,i3,k3⟩,b3⟩
  ·exact⟨_,trivial,(.cons ⟨_,rfl⟩ .nil),Hg⟩
  ·exact⟨F4,az X G a4,b4⟩
  ·exact⟨F5,az X G a5,b5⟩
  ·exact⟨F6,az X G a6,b6⟩
  ·exact⟨F7,az X G a7,b7⟩
  ·exact⟨F8,az X G a8,b8⟩
  ·exact⟨F9,az X G a9,b9⟩
  ·exact⟨Re,az X G a10,RT⟩
  ·exact⟨Rf,az X G a11,RU⟩
  ·exact⟨Rg,⟨a12,i12,k12⟩,RV⟩
  ·exact⟨Rh,⟨a13,i13,k13⟩,RW⟩
  ·exact⟨Ri,⟨a14,i14,k14⟩,RX⟩
  ·exact⟨Rj,az X G a15,RY⟩
  ·exact⟨Rk,az X G a16,RZ⟩
  ·exact⟨Rl,az X G a17,R1⟩
  ·exact⟨Rm,az X G a18,R3⟩
  ·exact⟨Rn,az X G a19,R4⟩
  ·exact⟨Ro,az X G a20,R5⟩
  ·exact⟨Rp,az X G a21,R6⟩
  ·exact⟨Rq,az X G a22,R7⟩
  ·exact⟨Rr,az X G a23,R8⟩
  ·exact⟨Rt,az X G a24,R9⟩
  ·exact⟨Ru,az X G a25,Sa⟩
  ·exact⟨Rv,az X G a26,Sb⟩
  ·exact⟨Rw,az X G a27,Sd⟩
  ·exact⟨Rx,az X G a28,Se⟩
  ·exact⟨Ry,az X G a29,Sf⟩
  ·exact⟨Rz,az X G a30,Sg⟩
  ·exact⟨RA,az X G a31,Sh⟩
  ·exact⟨RB,az X G a32,Si⟩
  ·exact⟨RC,az X G a33,Sj⟩
  ·exact⟨RD,az X G a34,Sk⟩
  ·exact⟨RE,az X G a35,Sl⟩
  ·exact⟨RF,az X G a36,Sm⟩
  ·exact⟨RH,az X G a37,Sn⟩
  ·exact⟨RI,az X G a38,So⟩
  ·exact⟨RJ,az X G a39,Sq⟩
  ·exact⟨RK,az X G a40,Sr⟩
  ·exact⟨RL,az X G a41,Ss⟩
  ·exact⟨RM,az X G a42,Su⟩
  ·exact⟨RN,az X G a43,Sv⟩
  ·exact⟨qs_Arrow,qr_Arrow,qf_Arrow⟩
  ·exactλc hc=>by
    simp only[aA,ce,or_false]at hc
    rcases hc with rfl
    all_goals first|exact⟨⟨pg_Net,hd_Net,po_Net,sa_Net⟩,n_Net_arrows⟩
  ·exactλc hc=>by
    simp only[aA,ce,or_false]at hc
    rcases hc with rfl|rfl|rfl|rfl
    all_goals first|exact⟨⟨pg_Arrow,hd_Arrow,po_Arrow,sa_Arrow⟩,n_Arrow_behind⟩|exact⟨⟨pg_Ride,hd_Ride,po_Ride,sa_Ride⟩,n_Ride_behind⟩|exact⟨⟨pg_Wait,hd_Wait,po_Wait,sa_Wait⟩,n_Wait_behind⟩|exact⟨⟨pg_Back,hd_Back,po_Back,sa_Back⟩,n_Back_behind⟩
  ·exactλc hc=>by
    simp only[aA,ce,or_false]at hc
    rcases hc with rfl|rfl|rfl|rfl
    all_goals first|exact⟨⟨pg_Arrow,hd_Arrow,po_Arrow,sa_Arrow⟩,n_Arrow_goal⟩|exact⟨⟨pg_Ride,hd_Ride,po_Ride,sa_Ride⟩,n_Ride_goal⟩|exact⟨⟨pg_Wait,hd_Wait,po_Wait,sa_Wait⟩,n_Wait_goal⟩|exact⟨⟨pg_Back,hd_Back,po_Back,sa_Back⟩,n_Back_goal⟩
  ·exactλc hc=>by
    simp only[aA,ce,or_false]at hc
    rcases hc with rfl
    all_goals first|exact⟨⟨pg_Net,hd_Net,po_Net,sa_Net⟩,n_Net_names⟩
  ·exactλc hc=>by
    simp only[aA,ce,or_false]at hc
    rcases hc with rfl|rfl|rfl|rfl
    all_goals first|exact⟨⟨pg_Arrow,hd_Arrow,po_Arrow,sa_Arrow⟩,n_Arrow_start⟩|exact⟨⟨pg_Ride,hd_Ride,po_Ride,sa_Ride⟩,n_Ride_start⟩|exact⟨⟨pg_Wait,hd_Wait,po_Wait,sa_Wait⟩,n_Wait_start⟩|exact⟨⟨pg_Back,hd_Back,po_Back,sa_Back⟩,n_Back_start⟩
  ·exactλc hc=>by
    simp only[aA,ce,or_false]at hc
    rcases hc with rfl|rfl|rfl|rfl
    all_goals first|exact⟨⟨pg_Arrow,hd_Arrow,po_Arrow,sa_Arrow⟩,n_Arrow_time⟩|exact⟨⟨pg_Ride,hd_Ride,po_Ride,sa_Ride⟩,n_Ride_time⟩|exact⟨⟨pg_Wait,hd_Wait,po_Wait,sa_Wait⟩,n_Wait_time⟩|exact⟨⟨pg_Back,hd_Back,po_Back,sa_Back⟩,n_Back_time⟩
  ·exactλc hc=>by
    simp only[aA,ce,or_false]at hc
    rcases hc with rfl|rfl|rfl|rfl|rfl
    all_goals first|exact⟨⟨⟨pg_Arrow,hd_Arrow,po_Arrow,sa_Arrow⟩,iga_Arrow,ign,igt,igm_Arrow⟩,kit_Arrow_Back⟩|exact⟨⟨⟨pg_Ride,hd_Ride,po_Ride,sa_Ride⟩,iga_Ride,ign,igt,igm_Ride⟩,kit_Ride_Back⟩|exact⟨⟨⟨pg_Wait,hd_Wait,po_Wait,sa_Wait⟩,iga_Wait,ign,igt,igm_Wait⟩,kit_Wait_Back⟩|exact⟨⟨⟨pg_Back,hd_Back,po_Back,sa_Back⟩,iga_Back,ign,igt,igm_Back⟩,kit_Back_Back⟩|exact⟨⟨⟨pg_Net,hd_Net,po_Net,sa_Net⟩,iga_Net,ign,igt,igm_Net⟩,kit_Net_Back⟩
  ·exactλc hc=>by
    simp only[aA,ce,or_false]at hc
    rcases hc with rfl|rfl|rfl|rfl|rfl
    all_goals first|exact⟨⟨⟨pg_Arrow,hd_Arrow,po_Arrow,sa_Arrow⟩,iga_Arrow,ign,igt,igm_Arrow⟩,kit_Arrow_Ride⟩|exact⟨⟨⟨pg_Ride,hd_Ride,po_Ride,sa_Ride⟩,iga_Ride,ign,igt,igm_Ride⟩,kit_Ride_Ride⟩|exact⟨⟨⟨pg_Wait,hd_Wait,po_Wait,sa_Wait⟩,iga_Wait,ign,igt,igm_Wait⟩,kit_Wait_Ride⟩|exact⟨⟨⟨pg_Back,hd_Back,po_Back,sa_Back⟩,iga_Back,ign,igt,igm_Back⟩,kit_Back_Ride⟩|exact⟨⟨⟨pg_Net,hd_Net,po_Net,sa_Net⟩,iga_Net,ign,igt,igm_Net⟩,kit_Net_Ride⟩
  ·exact bp X G z0
  ·exact bp X G z1
  ·exact bp X G z2
  ·exact bp X G z3
  ·exact bp X G z4
  ·exact bp X G z5
  ·exact bp X G z6
  ·exact bp X G z7
  ·exact bp X G z8
  ·exact bp X G z9
  ·exact bp X G z10
  ·exact bp X G z11
  ·exact bp X G z12
  ·exact bp X G z13
  ·exact⟨_,az X G gc0⟩
  ·exact⟨_,az X G gc1⟩
  ·exact⟨_,az X G gc2⟩
  ·exact⟨_,az X G gc3⟩
  ·exact⟨_,az X G gc4⟩
 exact⟨af "law" "law" (ap ni) (aj ni) (ah ni) .none sx rZ sD qV o0 rY,λs v=>.of_eq rfl,λbase _ _=>ztj T⟩
theorem walk {l:jC}{q:Program}{loose:List Str}{XP:(Str->Option Value)->Heap->Prop}{YP:World->Heap->Prop}{d:DefRec}{K:Params->ae}(hn:l.most=some 63)(CO:d.params.defaults=[])
  (hY:∀(w:World) (h:Heap),YP w h->(K w.params).In h)
  (F:∀(w:World) (mg:Str->Option Value) (fa:Addr) (h:Heap),(K w.params).In h->h.Ns mainGlobals mg->mg d.name=some (.ref fa) ->
   ∃fd:FuncData,(∀(s:Shared) (u:Value),BindsTo s fd ⟨[u],[]⟩ [("_law_script",u)])/\∀base:Heap,(K w.params).In base->base.Ns mainGlobals mg->bM l.prog w (K w.params) mg base dR 9 fa fd ["_law_script"] (kW (K w.params))) :
  oT q loose XP YP l.row.toRowW d [] (λf vs=>PySem.call f vs) :=
 L2.walk_of (n:=63) (k:=9) (x:="_law_script") (CX:=λ_=>dR) (sp:=λw=>kW (K w.params)) hn (by decide) CO ⟨rfl,by decide,by decide⟩ hY F (λ_ _ a ns hl _ hS=>⟨a,ns,rfl,hS,hl,λ_=>rfl⟩) λ_ _ _ _ _ z=>z
end My
-- KEEP
def PySem.W.Fast.tw5646366295006446496 : Nat := 0
def PySem.W.Fast.tw5180707385820572943 : Nat := 0
def PySem.W.Fast.tw13132825064524618186 : Nat := 0
def PySem.W.Fast.tw6899832990425523654 : Nat := 0
def PySem.W.Fast.tw17828768563101406164 : Nat := 0
def PySem.W.Fast.tw12638502740844849572 : Nat := 0
def PySem.W.Fast.tw9649698462377622005 : Nat := 0
def PySem.W.Fast.tw12346240045228545652 : Nat := 0
def PySem.W.Fast.tw4470184005124447457 : Nat := 0
def PySem.W.Fast.tw13016467307015264767 : Nat := 0
def PySem.W.Fast.tw15880753959658253193 : Nat := 0
def PySem.W.Fast.tw12776258801857076305 : Nat := 0
def PySem.W.Fast.tw290332477690549724 : Nat := 0
def PySem.W.Fast.tw6446759692896355221 : Nat := 0
def PySem.W.Fast.tw9748084956001108836 : Nat := 0
def PySem.W.Fast.tw14774262743371664152 : Nat := 0
def PySem.W.Fast.tw3063894045332995360 : Nat := 0
def PySem.W.Fast.tw1529797009736852331 : Nat := 0
def PySem.W.Fast.tw2513521537642972443 : Nat := 0
def PySem.W.Fast.tw13345374589059867590 : Nat := 0
def PySem.W.Fast.tw3803717092772967026 : Nat := 0
def PySem.W.Fast.tw15407064439407653781 : Nat := 0
def PySem.W.Fast.tw18146338454357583255 : Nat := 0
def PySem.W.Fast.tw1658852834826161076 : Nat := 0
def PySem.W.Fast.tw16145080210206185168 : Nat := 0
def PySem.W.Fast.tw1167512871756034599 : Nat := 0
def PySem.W.Fast.tw5387464863393275365 : Nat := 0
def PySem.W.Fast.tw15192762157345916119 : Nat := 0
def PySem.W.Fast.tw2882927292070066877 : Nat := 0
def PySem.W.Fast.tw3079433931194709559 : Nat := 0
def PySem.W.Fast.tw17376351089440117199 : Nat := 0
def PySem.W.Fast.tw6468945935072807332 : Nat := 0
def PySem.W.Fast.tw7321345203517827314 : Nat := 0
def PySem.W.Fast.tw8922152039908273078 : Nat := 0
def PySem.W.Fast.tw18239825560787315593 : Nat := 0
def PySem.W.Fast.tw12700340605700382963 : Nat := 0
def PySem.W.Fast.tw11621135165807327321 : Nat := 0
def PySem.W.Fast.tw4635696902614188018 : Nat := 0
def PySem.W.Fast.tw11573194649007277965 : Nat := 0
def PySem.W.Fast.tw11167850468409418420 : Nat := 0
def PySem.W.Fast.tw169759991471346002 : Nat := 0
def PySem.W.Fast.tw14613994515233160218 : Nat := 0
def PySem.W.Fast.tw9859413093989034020 : Nat := 0
def PySem.W.Fast.tw14809464071885786605 : Nat := 0
def PySem.W.Fast.tw11038469545673817181 : Nat := 0
def PySem.W.Fast.tw15211754223817085000 : Nat := 0
def PySem.W.Fast.tw15945110899487033287 : Nat := 0
def PySem.W.Fast.tw13363118340747355584 : Nat := 0
def PySem.W.Fast.tw2682209048335201366 : Nat := 0
def PySem.W.Fast.tw5247524169165281123 : Nat := 0
def PySem.W.Fast.tw12578627697560488008 : Nat := 0
def PySem.W.Fast.tw4056382780270250756 : Nat := 0
def PySem.W.Fast.tw13225039362841511936 : Nat := 0
def PySem.W.Fast.tw10786639527306586753 : Nat := 0
def PySem.W.Fast.tw12684108473196785646 : Nat := 0
def PySem.W.Fast.tw17939465875458401224 : Nat := 0
def PySem.W.Fast.tw14252333187803121471 : Nat := 0
def PySem.W.Fast.tw2779260784545533955 : Nat := 0
def PySem.W.Fast.tw14718643887448493981 : Nat := 0
def PySem.W.Fast.tw16980716425955542192 : Nat := 0
def PySem.W.Fast.tw9130024869398877752 : Nat := 0
def PySem.W.Fast.tw13424300579609813448 : Nat := 0
open PySem PySem.W PyProof.Rows
set_option maxRecDepth 100000 in
set_option maxHeartbeats 0 in
theorem PySem.Challenge.cw_ringbeat_k39_whole_rounds_moved_holds : PySem.Challenge.rw_ringbeat_k39_whole_rounds_moved.Holds := by
  w_on; o_law; k_head; (case hw => w_witness2)
  k_fill
  refine My.walk (l := PySem.Challenge.rw_ringbeat_k39_whole_rounds_moved) rfl rfl (fun w h Y => PySem.W.kIn_of Y) ?F
  case F =>
    intro w mg fa h KX G hmg
    refine' My.all_mk KX G hmg ?aC_Arrow ?pg_Arrow ?hd_Arrow ?po_Arrow ?sa_Arrow ?mk_Arrow ?kc_Arrow ?aC_Ride ?pg_Ride ?hd_Ride ?po_Ride ?sa_Ride ?mk_Ride ?kc_Ride ?aC_Wait ?pg_Wait ?hd_Wait ?po_Wait ?sa_Wait ?mk_Wait ?kc_Wait ?aC_Back ?pg_Back ?hd_Back ?po_Back ?sa_Back ?mk_Back ?kc_Back ?aC_Net ?pg_Net ?hd_Net ?po_Net ?sa_Net ?mk_Net ?kc_Net ?a0 ?i0 ?l0 ?c0 ?k0 ?a1 ?i1 ?l1 ?c1 ?k1 ?a2 ?i2 ?l2 ?c2 ?k2 ?t2 ?a3 ?i3 ?l3 ?c3 ?k3 ?t3 ?a4 ?l4 ?c4 ?k4 ?a5 ?l5 ?c5 ?k5 ?a6 ?l6 ?c6 ?k6 ?a7 ?l7 ?c7 ?k7 ?a8 ?l8 ?c8 ?k8 ?a9 ?l9 ?c9 ?k9 ?a10 ?l10 ?c10 ?k10 ?a11 ?l11 ?c11 ?k11 ?a12 ?i12 ?l12 ?c12 ?k12 ?a13 ?i13 ?l13 ?c13 ?k13 ?a14 ?i14 ?l14 ?c14 ?k14 ?a15 ?l15 ?c15 ?k15 ?a16 ?l16 ?c16 ?k16 ?a17 ?l17 ?c17 ?k17 ?a18 ?l18 ?c18 ?k18 ?a19 ?l19 ?c19 ?k19 ?a20 ?l20 ?c20 ?k20 ?a21 ?l21 ?c21 ?k21 ?a22 ?l22 ?c22 ?k22 ?a23 ?l23 ?c23 ?k23 ?a24 ?l24 ?c24 ?k24 ?a25 ?l25 ?c25 ?k25 ?a26 ?l26 ?c26 ?k26 ?a27 ?l27 ?c27 ?k27 ?a28 ?l28 ?c28 ?k28 ?a29 ?l29 ?c29 ?k29 ?a30 ?l30 ?c30 ?k30 ?a31 ?l31 ?c31 ?k31 ?a32 ?l32 ?c32 ?k32 ?a33 ?l33 ?c33 ?k33 ?a34 ?l34 ?c34 ?k34 ?a35 ?l35 ?c35 ?k35 ?a36 ?l36 ?c36 ?k36 ?a37 ?l37 ?c37 ?k37 ?a38 ?l38 ?c38 ?k38 ?a39 ?l39 ?c39 ?k39 ?a40 ?l40 ?c40 ?k40 ?a41 ?l41 ?c41 ?k41 ?a42 ?l42 ?c42 ?k42 ?a43 ?l43 ?c43 ?k43 ?qs_Arrow ?qr_Arrow ?qf_Arrow ?n_Net_arrows ?n_Arrow_behind ?n_Ride_behind ?n_Wait_behind ?n_Back_behind ?n_Arrow_goal ?n_Ride_goal ?n_Wait_goal ?n_Back_goal ?n_Net_names ?n_Arrow_start ?n_Ride_start ?n_Wait_start ?n_Back_start ?n_Arrow_time ?n_Ride_time ?n_Wait_time ?n_Back_time ?ign ?igt ?iga_Arrow ?igm_Arrow ?kit_Arrow_Back ?kit_Arrow_Ride ?iga_Ride ?igm_Ride ?kit_Ride_Back ?kit_Ride_Ride ?iga_Wait ?igm_Wait ?kit_Wait_Back ?kit_Wait_Ride ?iga_Back ?igm_Back ?kit_Back_Back ?kit_Back_Ride ?iga_Net ?igm_Net ?kit_Net_Back ?kit_Net_Ride ?z0 ?z1 ?z2 ?z3 ?z4 ?z5 ?z6 ?z7 ?z8 ?z9 ?z10 ?z11 ?z12 ?z13 ?gc0 ?gc1 ?gc2 ?gc3 ?gc4
    (case aC_Arrow => k_is)
    (case pg_Arrow => k_is)
    (case hd_Arrow => k_is)
    (case po_Arrow => k_is)
    (case sa_Arrow => k_is)
    (case mk_Arrow => k_is)
    (case kc_Arrow => k_is)
    (case aC_Ride => k_is)
    (case pg_Ride => k_is)
    (case hd_Ride => k_is)
    (case po_Ride => k_is)
    (case sa_Ride => k_is)
    (case mk_Ride => k_is)
    (case kc_Ride => k_is)
    (case aC_Wait => k_is)
    (case pg_Wait => k_is)
    (case hd_Wait => k_is)
    (case po_Wait => k_is)
    (case sa_Wait => k_is)
    (case mk_Wait => k_is)
    (case kc_Wait => k_is)
    (case aC_Back => k_is)
    (case pg_Back => k_is)
    (case hd_Back => k_is)
    (case po_Back => k_is)
    (case sa_Back => k_is)
    (case mk_Back => k_is)
    (case kc_Back => k_is)
    (case aC_Net => k_is)
    (case pg_Net => k_is)
    (case hd_Net => k_is)
    (case po_Net => k_is)
    (case sa_Net => k_is)
    (case mk_Net => k_is)
    (case kc_Net => k_is)
    (case a0 => k_is)
    (case i0 => k_is)
    (case l0 => k_is)
    (case c0 => k_is)
    (case k0 => k_is)
    (case a1 => k_is)
    (case i1 => k_is)
    (case l1 => k_is)
    (case c1 => k_is)
    (case k1 => k_is)
    (case a2 => k_is)
    (case i2 => k_is)
    (case l2 => k_is)
    (case c2 => k_is)
    (case k2 => k_is)
    (case t2 => k_is)
    (case a3 => k_is)
    (case i3 => k_is)
    (case l3 => k_is)
    (case c3 => k_is)
    (case k3 => k_is)
    (case t3 => k_is)
    (case a4 => k_is)
    (case l4 => k_is)
    (case c4 => k_is)
    (case k4 => k_is)
    (case a5 => k_is)
    (case l5 => k_is)
    (case c5 => k_is)
    (case k5 => k_is)
    (case a6 => k_is)
    (case l6 => k_is)
    (case c6 => k_is)
    (case k6 => k_is)
    (case a7 => k_is)
    (case l7 => k_is)
    (case c7 => k_is)
    (case k7 => k_is)
    (case a8 => k_is)
    (case l8 => k_is)
    (case c8 => k_is)
    (case k8 => k_is)
    (case a9 => k_is)
    (case l9 => k_is)
    (case c9 => k_is)
    (case k9 => k_is)
    (case a10 => k_is)
    (case l10 => k_is)
    (case c10 => k_is)
    (case k10 => k_is)
    (case a11 => k_is)
    (case l11 => k_is)
    (case c11 => k_is)
    (case k11 => k_is)
    (case a12 => k_is)
    (case i12 => k_is)
    (case l12 => k_is)
    (case c12 => k_is)
    (case k12 => k_is)
    (case a13 => k_is)
    (case i13 => k_is)
    (case l13 => k_is)
    (case c13 => k_is)
    (case k13 => k_is)
    (case a14 => k_is)
    (case i14 => k_is)
    (case l14 => k_is)
    (case c14 => k_is)
    (case k14 => k_is)
    (case a15 => k_is)
    (case l15 => k_is)
    (case c15 => k_is)
    (case k15 => k_is)
    (case a16 => k_is)
    (case l16 => k_is)
    (case c16 => k_is)
    (case k16 => k_is)
    (case a17 => k_is)
    (case l17 => k_is)
    (case c17 => k_is)
    (case k17 => k_is)
    (case a18 => k_is)
    (case l18 => k_is)
    (case c18 => k_is)
    (case k18 => k_is)
    (case a19 => k_is)
    (case l19 => k_is)
    (case c19 => k_is)
    (case k19 => k_is)
    (case a20 => k_is)
    (case l20 => k_is)
    (case c20 => k_is)
    (case k20 => k_is)
    (case a21 => k_is)
    (case l21 => k_is)
    (case c21 => k_is)
    (case k21 => k_is)
    (case a22 => k_is)
    (case l22 => k_is)
    (case c22 => k_is)
    (case k22 => k_is)
    (case a23 => k_is)
    (case l23 => k_is)
    (case c23 => k_is)
    (case k23 => k_is)
    (case a24 => k_is)
    (case l24 => k_is)
    (case c24 => k_is)
    (case k24 => k_is)
    (case a25 => k_is)
    (case l25 => k_is)
    (case c25 => k_is)
    (case k25 => k_is)
    (case a26 => k_is)
    (case l26 => k_is)
    (case c26 => k_is)
    (case k26 => k_is)
    (case a27 => k_is)
    (case l27 => k_is)
    (case c27 => k_is)
    (case k27 => k_is)
    (case a28 => k_is)
    (case l28 => k_is)
    (case c28 => k_is)
    (case k28 => k_is)
    (case a29 => k_is)
    (case l29 => k_is)
    (case c29 => k_is)
    (case k29 => k_is)
    (case a30 => k_is)
    (case l30 => k_is)
    (case c30 => k_is)
    (case k30 => k_is)
    (case a31 => k_is)
    (case l31 => k_is)
    (case c31 => k_is)
    (case k31 => k_is)
    (case a32 => k_is)
    (case l32 => k_is)
    (case c32 => k_is)
    (case k32 => k_is)
    (case a33 => k_is)
    (case l33 => k_is)
    (case c33 => k_is)
    (case k33 => k_is)
    (case a34 => k_is)
    (case l34 => k_is)
    (case c34 => k_is)
    (case k34 => k_is)
    (case a35 => k_is)
    (case l35 => k_is)
    (case c35 => k_is)
    (case k35 => k_is)
    (case a36 => k_is)
    (case l36 => k_is)
    (case c36 => k_is)
    (case k36 => k_is)
    (case a37 => k_is)
    (case l37 => k_is)
    (case c37 => k_is)
    (case k37 => k_is)
    (case a38 => k_is)
    (case l38 => k_is)
    (case c38 => k_is)
    (case k38 => k_is)
    (case a39 => k_is)
    (case l39 => k_is)
    (case c39 => k_is)
    (case k39 => k_is)
    (case a40 => k_is)
    (case l40 => k_is)
    (case c40 => k_is)
    (case k40 => k_is)
    (case a41 => k_is)
    (case l41 => k_is)
    (case c41 => k_is)
    (case k41 => k_is)
    (case a42 => k_is)
    (case l42 => k_is)
    (case c42 => k_is)
    (case k42 => k_is)
    (case a43 => k_is)
    (case l43 => k_is)
    (case c43 => k_is)
    (case k43 => k_is)
    (case qs_Arrow => k_is)
    (case qr_Arrow => k_is)
    (case qf_Arrow => k_is)
    (case n_Net_arrows => k_is)
    (case n_Arrow_behind => k_is)
    (case n_Ride_behind => k_is)
    (case n_Wait_behind => k_is)
    (case n_Back_behind => k_is)
    (case n_Arrow_goal => k_is)
    (case n_Ride_goal => k_is)
    (case n_Wait_goal => k_is)
    (case n_Back_goal => k_is)
    (case n_Net_names => k_is)
    (case n_Arrow_start => k_is)
    (case n_Ride_start => k_is)
    (case n_Wait_start => k_is)
    (case n_Back_start => k_is)
    (case n_Arrow_time => k_is)
    (case n_Ride_time => k_is)
    (case n_Wait_time => k_is)
    (case n_Back_time => k_is)
    (case ign => k_is)
    (case igt => k_is)
    (case iga_Arrow => k_is)
    (case igm_Arrow => k_is)
    (case kit_Arrow_Back => kit_is)
    (case kit_Arrow_Ride => kit_is)
    (case iga_Ride => k_is)
    (case igm_Ride => k_is)
    (case kit_Ride_Back => kit_is)
    (case kit_Ride_Ride => kit_is)
    (case iga_Wait => k_is)
    (case igm_Wait => k_is)
    (case kit_Wait_Back => kit_is)
    (case kit_Wait_Ride => kit_is)
    (case iga_Back => k_is)
    (case igm_Back => k_is)
    (case kit_Back_Back => kit_is)
    (case kit_Back_Ride => kit_is)
    (case iga_Net => k_is)
    (case igm_Net => k_is)
    (case kit_Net_Back => kit_is)
    (case kit_Net_Ride => kit_is)
    (case z0 => k_is)
    (case z1 => k_is)
    (case z2 => k_is)
    (case z3 => k_is)
    (case z4 => k_is)
    (case z5 => k_is)
    (case z6 => k_is)
    (case z7 => k_is)
    (case z8 => k_is)
    (case z9 => k_is)
    (case z10 => k_is)
    (case z11 => k_is)
    (case z12 => k_is)
    (case z13 => k_is)
    (case gc0 => k_is)
    (case gc1 => k_is)
    (case gc2 => k_is)
    (case gc3 => k_is)
    (case gc4 => k_is)
