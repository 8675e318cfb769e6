import PyProof.Rows.All
import Wide.All
import KE.KDictOf
import KE.LcSums
import KE.KRevIter
import KE.KDictList
import KE.KUnpack
import KE.KSortTup
import KE.KIntText
import KE.KTryMore
import KE.KFromBytes
import Wide.FinOn
import KE.RegKIsAll
import Lean
import PySem.Challenge.RW_ringbeat_k71_steps_by_arrows
set_option Elab.async false
set_option linter.all false
set_option maxRecDepth 100000
set_option maxHeartbeats 4000000
namespace L2
open PySem PySem.Spec PyProof.Rows
abbrev Key:=Sum Int Str
def keyIs:Key→Value→Bool
 | .inl k,v=>Value.isInt k v
 | .inr x,v=>Value.isStrOf x v
def keyH (w:World):Key→Int
 | .inl k=>hashInt k
 | .inr x=>hashStr w x
theorem keyIs_shape:∀{k:Key} {v:Value},keyIs k v=true→(∃i t,k=Sum.inl i∧v=Value.int i t)∨(∃x t,k=Sum.inr x∧v=Value.str x t)
 | .inl i,v,h=>by obtain ⟨t,e⟩:=Value.isInt_shape (k:=i) (v:=v) h;exact .inl ⟨i,t,rfl,e⟩
 | .inr x,v,h=>by obtain ⟨t,e⟩:=Value.isStrOf_shape (x:=x) (v:=v) h;exact .inr ⟨x,t,rfl,e⟩
theorem keyIs_int (i:Int) (t:Tok):keyIs (.inl i) (.int i t)=true:=by simp [keyIs,Value.isInt]
theorem keyIs_str (x:Str) (t:Tok):keyIs (.inr x) (.str x t)=true:=by simp [keyIs,Value.isStrOf]
theorem key_ll (a b:Int):decide ((Sum.inl a:Key)=Sum.inl b)=(a == b):=by
 by_cases e:a=b
 ·subst e; simp
 ·have h:¬(Sum.inl a:Key)=Sum.inl b:=fun q=>e (Sum.inl.inj q);rw [decide_eq_false h];exact (beq_eq_false_iff_ne.mpr e).symm
theorem key_rr (a b:Str):decide ((Sum.inr a:Key)=Sum.inr b)=decide (a=b):=by
 by_cases e:a=b
 ·subst e; simp
 ·have h:¬(Sum.inr a:Key)=Sum.inr b:=fun q=>e (Sum.inr.inj q);rw [decide_eq_false h,decide_eq_false e]
theorem key_lr (a:Int) (b:Str):decide ((Sum.inl a:Key)=Sum.inr b)=false:=decide_eq_false (fun q=>nomatch q)
theorem key_rl (a:Str) (b:Int):decide ((Sum.inr a:Key)=Sum.inl b)=false:=decide_eq_false (fun q=>nomatch q)
def mixKind (prog:Program) (w:World):PySem.KeyKind prog w Key where
 is:=keyIs
 hash:=keyH w
 inj:=fun v a b ha hb=>by
  rcases keyIs_shape ha with ⟨i,t,rfl,rfl⟩ | ⟨x,t,rfl,rfl⟩
  ·rcases keyIs_shape hb with ⟨j,u,rfl,e⟩ | ⟨y,u,rfl,e⟩
   ·injection e with e1 _; rw [e1]
   ·exact nomatch e
  ·rcases keyIs_shape hb with ⟨j,u,rfl,e⟩ | ⟨y,u,rfl,e⟩
   ·exact nomatch e
   ·injection e with e1 _; rw [e1]
 byValue:=fun k v h=>by rcases keyIs_shape h with ⟨i,t,rfl,rfl⟩ | ⟨x,t,rfl,rfl⟩ <;> rfl
 pyHash:=fun hv h=>by
  rcases keyIs_shape hv with ⟨i,t,rfl,rfl⟩ | ⟨x,t,rfl,rfl⟩
  ·exact wpAny_pyHash_int h
  ·exact wpAny_pyHash_str h
 eqBool:=fun hu hv h=>by
  rcases keyIs_shape hu with ⟨i,t,rfl,rfl⟩ | ⟨x,t,rfl,rfl⟩
  ·rcases keyIs_shape hv with ⟨j,u,rfl,rfl⟩ | ⟨y,u,rfl,rfl⟩
   ·rw [key_ll] at h; exact wpAny_eqBool_int h
   ·rw [key_lr] at h; exact SeqAt.EqAt.int_str i t y u _ _ _ _ h
  ·rcases keyIs_shape hv with ⟨j,u,rfl,rfl⟩ | ⟨y,u,rfl,rfl⟩
   ·rw [key_rl] at h; exact SeqAt.EqAt.str_int x t j u _ _ _ _ h
   ·rw [key_rr] at h; exact wpAny_eqBool_str h
 «strs»:=fun k x t v h=>by
  rcases keyIs_shape h with ⟨i,u,rfl,e⟩ | ⟨y,u,rfl,e⟩
  ·exact nomatch e
  ·injection e with e1 _;subst e1;cases v <;> rfl
theorem mixKind_int (prog:Program) (w:World) (i:Int) (t:Tok):(mixKind prog w).is (.inl i) (.int i t)=true:=keyIs_int i t
theorem mixKind_str (prog:Program) (w:World) (x:Str) (t:Tok):(mixKind prog w).is (.inr x) (.str x t)=true:=keyIs_str x t
inductive V where
 | non | bl (b:Bool) | int (i:Int) | str (x:Str) | byt (b:Array UInt8) | flt (b:UInt64) | ref (a:Addr) | ty (n:String)
 deriving DecidableEq
def RelV:V→Value→Prop
 | .non,u=>u=Value.none
 | .bl b,u=>u=Value.bool b
 | .int i,u=>∃t,u=Value.int i t
 | .str x,u=>∃t,u=Value.str x t
 | .byt b,u=>∃t,u=Value.bytes b t
 | .flt b,u=>∃t,u=Value.float b t
 | .ref a,u=>u=Value.ref a
 | .ty n,u=>u=Value.type n
abbrev Vals:List V→List Value→Prop:=Paired RelV
variable {us:List Value} {xs:List V}
theorem Vals.length (r:Vals xs us):xs.length=us.length:=Paired.length r
theorem Vals.get:∀{xs:List V} {us:List Value} {i:Nat} {x:V},Vals xs us→xs[i]?=some x→∃u,us[i]?=some u∧RelV x u
 | _,_,_,_,.nil,e=>by simp at e
 | _,_,0,_,.cons r _,e=>by simp at e; subst e; exact ⟨_,rfl,r⟩
 | _,_,i+1,x,.cons _ t,e=>by obtain ⟨u,h1,h2⟩:=Vals.get (i:=i) (x:=x) t (by simpa using e);exact ⟨u,by simpa using h1,h2⟩
variable {u:Value}
theorem Vals.set {x:V} {u:Value} (r:RelV x u):∀{xs:List V} {us:List Value} (i:Nat),Vals xs us→Vals (xs.set i x) (us.set i u)
 | _,_,_,.nil=>.nil
 | _,_,0,.cons _ t=>.cons r t
 | _,_,i+1,.cons q t=>.cons q (Vals.set r i t)
theorem Vals.append:∀{xs ys:List V} {us ws:List Value},Vals xs us→Vals ys ws→Vals (xs++ys) (us++ws)
 | _,_,_,_,.nil,s=>s
 | _,_,_,_,.cons r t,s=>.cons r (Vals.append t s)
theorem Vals.take:∀{xs:List V} {us:List Value} (n:Nat),Vals xs us→Vals (xs.take n) (us.take n)
 | _,_,0,_=>.nil
 | _,_,_+1,.nil=>.nil
 | _,_,n+1,.cons r t=>.cons r (Vals.take n t)
theorem Vals.drop:∀{xs:List V} {us:List Value} (n:Nat),Vals xs us→Vals (xs.drop n) (us.drop n)
 | _,_,0,r=>r
 | _,_,_+1,.nil=>.nil
 | _,_,n+1,.cons _ t=>Vals.drop n t
def RelO:Option V→Option Value→Prop
 | some v,some u=>RelV v u
 | none,none=>True
 | _,_=>False
variable {κ:Type}
def KV:List (κ×V)→List (κ×Value)→Prop:=Paired fun (p:κ×V) (q:κ×Value)=>p.1=q.1∧RelV p.2 q.2
def kV:Key→V
 | .inl i=>.int i
 | .inr x=>.str x
inductive HO where
 | lst (xs:List V)
 | tup (xs:List V)
 | dK (kvs:List (Key×V)) | dT (kvs:List (List Key×V))
 | set (S:Int→Bool) (n:Nat)
 | ins (C dx:Addr) (fs:List (Str×V))
 | own (x:Addr)
 | xd (fs:List (Str×V))
 | met (f x:Addr)
 | rng (lo hi:Int)
 | frz (o:Obj) (u:HO)
 | tbl (ps:Array Value)
 | ext (φ:Heap→Prop)
abbrev Hp:=Addr→Option HO
def upd (H:Hp) (a:Addr) (o:HO):Hp:=fun b=>if b=a then some o else H b
variable {H:Hp} {a:Addr}
theorem upd_same {o:HO}:upd H a o a=some o:=by unfold upd; rw [if_pos rfl]
variable {b:Addr}
theorem upd_ne {o:HO} (h:b≠a):upd H a o b=H b:=by unfold upd; rw [if_neg h]
theorem upd_upd {o u:HO}:upd (upd H a o) a u=upd H a u:=by funext b; unfold upd; split <;> rfl
theorem ne_of {o u:HO} (h:H a=some o) (h':H b=some u) (d:o≠u):a≠b:=by intro e; subst e; rw [h] at h'; exact d (Option.some.inj h')
theorem ne_of_none {o:HO} (h:H a=some o) (h':H b=none):a≠b:=by intro e; subst e; rw [h] at h'; cases h'
section
variable (P:Program) (w:World)
def ObjOk (H:Hp) (h:Heap) (a:Addr):HO→Prop
  | .lst xs=>xs.length≤sizeLine∧∃(its:List Value) (n:Nat),Vals xs its∧h.get? a=some { cls:=.type "list",data:=.seq its.toArray n }
  | .tup xs=>xs.length≤sizeLine∧∃its:List Value,Vals xs its∧IsTup h a its.toArray
  | .dK kvs=>kvs.length≤sizeLine∧(a == sysModules)=false∧∃vs,KV kvs vs∧h.DictOf (mixKind P w) a vs
  | .dT kvs=>kvs.length≤sizeLine∧(a == sysModules)=false∧∃xs:List (List Key×Addr×Value),
      Paired (fun (p:List Key×V) (q:List Key×Addr×Value)=>p.1=q.1∧H q.2.1=some (.tup (p.1.map kV))∧RelV p.2 q.2.2) kvs xs ∧
      ∃o es ep,h.get? a=some o∧o.ExactDict∧o.data=.dict es ep∧es.toList=xs.map (entryOfKey (tupleKind (mixKind P w)))∧(xs.map (·.1)).Nodup
  | .set S n=>h.SetOf (intKind P w) a S n
  | .ins C dx fs=>H dx=some (.own a)∧fs.length≤1000∧dx≠a∧h.get? a=some (PySem.W.instObj C dx) ∧
      ∃mA,h.Ns1 dx mA∧(∀f,RelO (fs.lookup f) (mA f))∧PySem.Within mA (fs.map (·.1))
  | .own _=>∃o,h.get? a=some o
  | .xd fs=>∃mA,h.Ns1 a mA∧∀f,RelO (fs.lookup f) (mA f)
  | .rng lo hi=>∃t u v,h.get? a=some { cls:=.type "range",data:=.fields #[.int lo t,.int hi u,.int 1 v] }
  | .frz o u=>h.get? a=some o∧ObjOk H h a u
  | .tbl ps=>h.get? a=some { cls:=.none,data:=.fields ps }
  | .met f x=>h.get? a=some (PySem.W.methodObj (.ref f) (.ref x))
  | .ext φ=>φ h∧(∃o,h.get? a=some o)∧∀h1 h2:Heap,φ h1→(∀o,h1.get? a=some o→h2.get? a=some o)→φ h2
def HOk (H:Hp) (h:Heap):Prop:=∀a o,H a=some o→ObjOk P w H h a o
end
variable {α β:Type} {H':Hp} {P:Program} {h h':Heap}
section
variable {w:World} {o:HO}
theorem ObjOk.lt (x:ObjOk P w H h a o):a<h.objs.size:=by
 cases o with
 | lst xs=>obtain ⟨_,_,_,_,e⟩:=x; exact Heap.lt_size e
 | tup xs=>obtain ⟨_,_,_,p⟩:=x; exact p.lt
 | dK kvs=>obtain ⟨_,_,_,_,o,_,_,e,_⟩:=x; exact Heap.lt_size e
 | dT kvs=>obtain ⟨_,_,_,_,o,_,_,e,_⟩:=x; exact Heap.lt_size e
 | set S n=>obtain ⟨o,_,_,_,e,_⟩:=x; exact Heap.lt_size e
 | ins C dx fs=>obtain ⟨_,_,_,e,_⟩:=x; exact Heap.lt_size e
 | own y=>obtain ⟨_,e⟩:=x; exact Heap.lt_size e
 | xd fs=>obtain ⟨_,⟨_,_,_,e,_⟩,_⟩:=x; exact Heap.lt_size e
 | rng lo hi=>obtain ⟨_,_,_,e⟩:=x; exact Heap.lt_size e
 | frz ob u=>obtain ⟨e,_⟩:=x; exact Heap.lt_size e
 | tbl ps=>exact Heap.lt_size (show h.get? a=some _ from x)
 | met f y=>exact Heap.lt_size (show h.get? a=some _ from x)
 | ext φ=>obtain ⟨_,⟨_,e⟩,_⟩:=x; exact Heap.lt_size e
theorem Paired.mapP {α β:Type} {F G:α→β→Prop}:∀{l₁:List α} {l₂:List β},Paired F l₁ l₂→(∀a b,F a b→G a b)→Paired G l₁ l₂
 | _,_,.nil,_=>.nil
 | _,_,.cons r t,f=>.cons (f _ _ r) (Paired.mapP t f)
theorem ObjOk.stay (x:ObjOk P w H h a o) (k:∀b u,(b=a∨H b=some (.own a))→h.get? b=some u→h'.get? b=some u)
    (ho:∀b,H b=some (.own a)→H' b=some (.own a)) (ht:∀b xs,H b=some (.tup xs)→H' b=some (.tup xs)):ObjOk P w H' h' a o:=by
  induction o with
  | lst xs=>obtain ⟨z,its,n,r,e⟩:=x; exact ⟨z,its,n,r,k _ _ (.inl rfl) e⟩
  | tup xs=>obtain ⟨z,its,r,ob,e,c⟩:=x; exact ⟨z,its,r,ob,k _ _ (.inl rfl) e,c⟩
  | dK kvs=>obtain ⟨z,y,vs,r,ob,es,ep,e,c⟩:=x; exact ⟨z,y,vs,r,ob,es,ep,k _ _ (.inl rfl) e,c⟩
  | dT kvs =>obtain ⟨z,y,xs,r,ob,es,ep,e,c⟩:=x;exact ⟨z,y,xs,Paired.mapP r fun p q z=>⟨z.1,ht _ _ z.2.1,z.2.2⟩,ob,es,ep,k _ _ (.inl rfl) e,c⟩
  | set S n=>obtain ⟨ob,es,ep,t,e,c⟩:=x; exact ⟨ob,es,ep,t,k _ _ (.inl rfl) e,c⟩
  | ins C dx fs =>obtain ⟨d,z,ne,e,mA,⟨od,es,ep,e2,c⟩,r⟩:=x;exact ⟨ho _ d,z,ne,k _ _ (.inl rfl) e,mA,⟨od,es,ep,k _ _ (.inr d) e2,c⟩,r⟩
  | own y=>obtain ⟨ob,e⟩:=x; exact ⟨ob,k _ _ (.inl rfl) e⟩
  | xd fs=>obtain ⟨mA,⟨od,es,ep,e,c⟩,r⟩:=x; exact ⟨mA,⟨od,es,ep,k _ _ (.inl rfl) e,c⟩,r⟩
  | rng lo hi=>obtain ⟨t,u,v,e⟩:=x; exact ⟨t,u,v,k _ _ (.inl rfl) e⟩
  | frz ob u ih=>obtain ⟨e,q⟩:=x; exact ⟨k _ _ (.inl rfl) e,ih q⟩
  | tbl ps =>have e:h.get? a=some { cls:=.none,data:=.fields ps }:=x;show h'.get? a=some { cls:=.none,data:=.fields ps };exact k a _ (.inl rfl) e
  | met f y =>have e:h.get? a=some (PySem.W.methodObj (.ref f) (.ref y)):=x;show h'.get? a=some (PySem.W.methodObj (.ref f) (.ref y));exact k a _ (.inl rfl) e
  | ext φ=>obtain ⟨p,⟨o,e⟩,st⟩:=x; exact ⟨st _ _ p fun o q=>k _ _ (.inl rfl) q,⟨o,k _ _ (.inl rfl) e⟩,st⟩
theorem HOk.lt (x:HOk P w H h) (e:H a=some o):a<h.objs.size:=(x a o e).lt
theorem HOk.fresh (x:HOk P w H h) (e:h.objs.size≤a):H a=none:=by
 cases q:H a with
 | none=>rfl
 | some u=>exact absurd (Nat.lt_of_lt_of_le (x.lt q) e) (Nat.lt_irrefl _)
theorem HOk.kept (x:HOk P w H h) (k:∀b u,h.get? b=some u→h'.get? b=some u):HOk P w H h':=fun a o e =>(x a o e).stay (fun b u _ q=>k b u q) (fun _ q=>q) fun _ _ q=>q
theorem HOk.laid (x:HOk P w H h) (k:∀b u,h.get? b=some u→h'.get? b=some u) (hp:h.objs.size≤a) (new:ObjOk P w (upd H a o) h' a o):HOk P w (upd H a o) h':=fun b u e=>by
 have hn:=x.fresh hp;by_cases hb:b=a
 ·subst hb; rw [upd_same] at e; cases e; exact new
 ·rw [upd_ne hb] at e;exact (x b u e).stay (fun c v _ q=>k c v q) (fun c q=>by rw [upd_ne (ne_of_none q hn)]; exact q) fun c xs q=>by rw [upd_ne (ne_of_none q hn)]; exact q
end
def Rd (H:Hp) (a:Addr) (u:HO):Prop:=H a=some u∨∃o,H a=some (.frz o u)
theorem Rd.ok {w:World} {u:HO} (r:Rd H a u) (x:HOk P w H h):ObjOk P w H h a u:=by
 rcases r with r | ⟨o,r⟩
 ·exact x a u r
 ·obtain ⟨_,q⟩:=x a _ r;exact q
def Mut:Option HO→Prop
 | some (.lst _)=>True
 | some (.dK _)=>True
 | some (.dT _)=>True
 | some (.set _ _)=>True
 | some (.ins _ _ _)=>True
 | some (.ext _)=>True
 | _=>False
section
variable {w:World} {x e:Addr} {o':HO}
theorem HOk.write (ok:HOk P w H h) (mu:Mut (H x)) (he:e=x∨H e=some (.own x)) (k:∀b u,b≠e→h.get? b=some u→h'.get? b=some u) (heo:∃u,h'.get? e=some u)
  (new:ObjOk P w (upd H x o') h' x o'):HOk P w (upd H x o') h':=fun b u q=>by
 have nown:∀c y,H c=some (.own y)→c≠x:=fun c y r z=>by subst z; rw [r] at mu; exact mu
 have ntup:∀c xs,H c=some (.tup xs)→c≠x:=fun c xs r z=>by subst z; rw [r] at mu; exact mu
 by_cases hb:b=x
 ·subst hb; rw [upd_same] at q; cases q; exact new
 ·rw [upd_ne hb] at q;by_cases hbe:b=e
  ·have q':H b=some (.own x):=by
    rcases he with z | z
    ·exact absurd (hbe.trans z) hb
    ·rw [hbe]; exact z
   rw [q] at q'; cases q';obtain ⟨v,hv⟩:=heo;exact ⟨v,by rw [hbe]; exact hv⟩
  ·refine (ok b u q).stay (fun c v hc r=>k c v ?_ r) (fun c r=>by rw [upd_ne (nown c b r)]; exact r) fun c xs r=>by rw [upd_ne (ntup c xs r)]; exact r
   rcases hc with rfl | hc
   ·exact hbe
   ·rintro rfl;rcases he with z | z
    ·exact nown c b hc z
    ·rw [hc] at z; cases z; exact hb rfl
end
structure Un (fs ex:List Addr) (H H':Hp) (h h':Heap):Prop where
 keep:∀b o,h.get? b=some o→H b=none→b∉fs→b∉ex→h'.get? b=some o
 slot:∀b o,h.get? b=some o→H b=none→b∈fs→b∉ex→∃sl,h'.get? b=some { o with slots:=sl }
 free:∀b o,h.get? b=some o→H b=none→b∉ex→H' b=none
 there:∀b o,h.get? b=some o→b∉ex→∃o',h'.get? b=some o'
 tups:∀b xs,H b=some (.tup xs)→H' b=some (.tup xs)
 frzs:∀b o u,H b=some (.frz o u)→H' b=some (.frz o u)
 tbls:∀b ps,H b=some (.tbl ps)→∃more,H' b=some (.tbl (ps++more))
variable {H1:Hp}
section
variable {fs fs' ex ex':List Addr} {H2:Hp} {h1 h2:Heap} {x e:Addr} {o:HO}
theorem Un.any (u:Un fs ex H H1 h h1) {ob:Obj} (q:h.get? b=some ob) (n:H b=none) (hx:b∉ex):∃sl,h1.get? b=some { ob with slots:=sl }:=by
 by_cases hb:b∈fs
 ·exact u.slot b ob q n hb hx
 ·exact ⟨ob.slots,u.keep b ob q n hb hx⟩
theorem Un.kept (k:∀b u,h.get? b=some u→h'.get? b=some u):Un fs ex H H h h' :=
 ⟨fun b ob q _ _ _=>k b ob q,fun b ob q _ _ _=>⟨ob.slots,k b ob q⟩,fun _ _ _ n _=>n,fun b ob q _=>⟨ob,k b ob q⟩,fun _ _ q=>q,fun _ _ _ q=>q,fun _ ps q=>⟨#[],by rw [q]; simp⟩⟩
theorem Un.refl:Un fs ex H H h h:=Un.kept fun _ _ q=>q
theorem Un.laid (k:∀b u,h.get? b=some u→h'.get? b=some u) (hp:h.objs.size≤a) (hn:H a=none):Un fs ex H (upd H a o) h h' where
 keep:=fun b u q _ _ _=>k b u q
 slot:=fun b u q _ _ _=>⟨u.slots,k b u q⟩
 free:=fun b u q n _=>by rw [upd_ne (Nat.ne_of_lt (Nat.lt_of_lt_of_le (Heap.lt_size q) hp))]; exact n
 there:=fun b u q _=>⟨u,k b u q⟩
 tups:=fun b xs q=>by rw [upd_ne (ne_of_none q hn)]; exact q
 frzs:=fun b u xs q=>by rw [upd_ne (ne_of_none q hn)]; exact q
 tbls:=fun b ps q=>⟨#[],by rw [upd_ne (ne_of_none q hn),q]; simp⟩
theorem Un.write (mu:Mut (H x)) (he:e=x∨H e=some (.own x)) (k:∀b u,b≠e→h.get? b=some u→h'.get? b=some u) (heo:∃u,h'.get? e=some u):Un fs ex H (upd H x o) h h':=by
 have hx:∀b,H b=none→b≠x:=fun b n z=>by subst z; rw [n] at mu; exact mu
 have hb:∀b,H b=none→b≠e:=fun b n z=>by
  subst z;rcases he with r | r
  ·exact hx b n r
  ·rw [n] at r; cases r
 have hm:∀b u,H b=some u→¬Mut (some u)→b≠x:=fun b u q nm z=>by subst z; rw [q] at mu; exact nm mu
 refine ⟨fun b u q n _ _=>k b u (hb b n) q,fun b u q n _ _=>⟨u.slots,k b u (hb b n) q⟩,fun b u q n _=>by rw [upd_ne (hx b n)]; exact n,fun b u q _=>?_,
  fun b xs q=>by rw [upd_ne (hm b _ q fun z=>z)]; exact q,fun b u xs q=>by rw [upd_ne (hm b _ q fun z=>z)]; exact q,fun b ps q=>⟨#[],by rw [upd_ne (hm b _ q fun z=>z),q]; simp⟩⟩
 by_cases hbe:b=e
 ·subst hbe; exact heo
 ·exact ⟨u,k b u hbe q⟩
end
def trk (h:Heap) (H:Hp):List Addr:=(List.range h.objs.size).filter fun a=>(H a).isSome
def hidT (h:Heap) (H:Hp):Heap:=PySem.W.hideAll h (trk h H)
theorem hidT_size (h:Heap) (H:Hp):(hidT h H).objs.size=h.objs.size:=PySem.W.hideAll_size _ _
variable {o:Obj}
theorem hidT_get (e:h.get? b=some o) (n:H b=none):(hidT h H).get? b=some o :=
 PySem.W.hideAll_get _ e fun hm=>by have q:(H b).isSome=true:=(List.mem_filter.mp hm).2;rw [n] at q; simp at q
theorem of_hidT (e:(hidT h H).get? b=some o):h.get? b=some o∧H b=none:=by
 have e':h.get? b=some o:=PySem.W.of_hideAll (trk h H) e;refine ⟨e',?_⟩;cases q:H b with
 | none=>rfl
 | some x =>have hm:b∈trk h H:=List.mem_filter.mpr ⟨List.mem_range.mpr (Heap.lt_size e'),by simp [q]⟩;have z:(hidT h H).get? b=none:=PySem.W.hideAll_none (trk h H) hm;rw [z] at e; cases e
def allNews (g h:Heap) (L:Addr):List (Addr×Obj):=(List.range h.objs.size).filterMap fun a=>if a=L∨(g.get? a).isSome=true then none else (h.get? a).map fun o=>(a,o)
def rest (g h:Heap) (L d:Addr):List (Addr×Obj):=(allNews g h L).filter fun p=>decide (p.1≠d)
structure Mod (K:PySem.W.Frag) (mg:Str→Option Value) (base:Heap):Prop where
 kin:K.In base
 glob:base.Ns mainGlobals mg
 blt:∃mb,base.Ns builtinsNs mb∧∀x:Str,x≠"__name__"→mb x=bootBuiltins x
 nolimit:base.NoLimit
structure Cx where
 prog:Program
 w:World
 K:PySem.W.Frag
 mg:Str→Option Value
 base:Heap
 A:Around
 N:List Str
 s₀:Shared
 H₀:Hp
 env:Env
 outer:List Env
 stack:List Env
 ex:List Addr
 fn:Str→Bool
 calm:Bool
 pn:List (Addr×Obj)
 xe:Value→Shared→Prop
def frs (l:List Env):List Addr:=l.filterMap (·.frame)
abbrev Cx.fs (X:Cx):List Addr:=frs X.outer
def Vis (sc:Scope) (x:Str):Prop:=sc.names.lookup x=some .local∨sc.names.lookup x=some .cell∨sc.names.lookup x=some .free
def Loc (sc:Scope) (x:Str):Prop:=sc.names.lookup x=some .local∨sc.names.lookup x=some .cell
def Look (env:Env) (h:Heap) (m:Str→Option Value) (x:Str) (u:Value):Prop :=
 (env.kindOf x=some .local∧m x=some u)∨((env.kindOf x=some .cell∨env.kindOf x=some .free)∧∃c,env.cells.lookup x=some c∧h.IsCell c (some u))
structure Cx.Ok (X:Cx):Prop where
 mod:Mod X.K X.mg X.base
 kind:X.env.scope.kind=.function
 glob:X.env.globals=mainGlobals
 blt:X.env.builtins=builtinsNs
 above:X.s₀.heap.objs.size≤X.env.locals
 inj:∀x y c,X.env.cells.lookup x=some c→X.env.cells.lookup y=some c→x=y
 has:∀x,(X.env.kindOf x=some .cell∨X.env.kindOf x=some .free)→∃c,X.env.cells.lookup x=some c
 cab:∀x c,X.fn x=true→X.env.cells.lookup x=some c→X.s₀.heap.objs.size≤c
 hd:X.calm=true→X.A.handled=none
 frames:X.A.frames=some X.stack
 stk:X.stack=X.outer∨(X.stack=X.env::X.outer∧X.env.frame=some X.env.locals)
 exf:∀b∈X.ex,b≠X.env.locals∧∀x c,X.env.cells.lookup x=some c→c≠b
 bs:∀b o,X.base.get? b=some o→X.s₀.heap.get? b=some o∧X.H₀ b=none
 bsz:X.base.objs.size≤X.s₀.heap.objs.size
 noex:∀b o,X.base.get? b=some o→b∉X.ex
 exfs:∀b∈X.ex,b∉X.fs
 funs:X.s₀.heap.FunFrames X.base X.outer
 frf:∀b∈X.fs,X.H₀ b=none
structure Inv (X:Cx) (pins:List (Addr×Obj)) (σ:List (Option V)) (H:Hp) (s:Shared):Prop where
 ok:X.Ok
 os:s.os=X.s₀.os
 bare:AllBare s.gens
 base:Un X.fs X.ex X.H₀ H X.s₀.heap s.heap
 loc:∃m,s.heap.Ns X.env.locals m∧∀(i:Nat) (x:Str) (v:V),X.N[i]?=some x→σ[i]?=some (some v)→Vis X.env.scope x→∃u,RelV v u∧Look X.env s.heap m x u
 cell:∀x c,X.env.cells.lookup x=some c→∃v,s.heap.IsCell c v
 free:H X.env.locals=none
 freeC:∀x c,X.env.cells.lookup x=some c→H c=none
 pin:∀p∈X.pn++pins,s.heap.get? p.1=some p.2∧H p.1=none∧p.1≠X.env.locals∧p.1∉X.fs∧∀v,p.2.data≠.cell v
 hok:HOk X.prog X.w H s.heap
 len:σ.length=X.N.length
variable {E:Value→Shared→Prop} {M:Model} {X:Cx} {ch:List Addr} {i j t':Nat} {it:Addr} {pins:List (Addr×Obj)} {s s':Shared} {v:V} {x:Str}
section
variable {σ:List (Option V)}
theorem Cx.Ok.nofr (ok:X.Ok) (e:X.base.get? b=some o):b∉X.fs:=fun hb=>by have:=(ok.funs.mem hb).1;rw [e] at this; cases this
theorem Inv.bs (I:Inv X pins σ H s):∀b o,X.base.get? b=some o→s.heap.get? b=some o∧H b=none:=fun b o e =>⟨I.base.keep b o (I.ok.bs b o e).1 (I.ok.bs b o e).2 (I.ok.nofr e) (I.ok.noex b o e),I.base.free b o (I.ok.bs b o e).1 (I.ok.bs b o e).2 (I.ok.noex b o e)⟩
theorem Inv.bk (I:Inv X pins σ H s):∀b o,X.base.get? b=some o→s.heap.get? b=some o:=fun b o e=>(I.bs b o e).1
theorem Inv.mod (I:Inv X pins σ H s):Mod X.K X.mg X.base:=I.ok.mod
theorem Inv.kIn (I:Inv X pins σ H s):X.K.In s.heap:=I.ok.mod.kin.keeps I.bk
theorem Inv.fr (I:Inv X pins σ H s):∃m,Fr X.base X.env.locals s.heap m :=
 let ⟨m,hn,_⟩:=I.loc
 ⟨m,hn,I.bk,Nat.le_trans I.ok.bsz I.ok.above⟩
theorem Inv.lt (I:Inv X pins σ H s):X.env.locals<s.heap.objs.size:=let ⟨_,hn,_⟩:=I.loc; hn.lt
theorem Inv.sz (I:Inv X pins σ H s):X.s₀.heap.objs.size≤s.heap.objs.size:=Nat.le_trans I.ok.above (Nat.le_of_lt I.lt)
theorem Inv.nofs (I:Inv X pins σ H s) (h:s.heap.objs.size≤a):a∉X.fs:=fun hb=>by obtain ⟨_,o,ho,_⟩:=I.ok.funs.mem hb;exact absurd (Nat.lt_of_lt_of_le (Heap.lt_size ho) (Nat.le_trans I.sz h)) (Nat.lt_irrefl _)
theorem Inv.cne (I:Inv X pins σ H s):∀x c,X.env.cells.lookup x=some c→c≠X.env.locals:=fun x c e z=>by obtain ⟨v,o,ho,hd⟩:=I.cell x c e;obtain ⟨m,⟨o',es,ep,ho',hd',_⟩,_⟩:=I.loc;rw [z,ho'] at ho; cases ho; rw [hd'] at hd; cases hd
theorem Inv.funs (I:Inv X pins σ H s):s.heap.FunFrames X.base X.outer:=by
 have all:∀(l:List Env),(∀b∈frs l,b∈X.fs)→X.s₀.heap.FunFrames X.base l→s.heap.FunFrames X.base l:=by
  intro l;induction l with
  | nil=>intro _ _; trivial
  | cons env r ih =>intro hs hl;obtain ⟨hk,⟨L,o,hf,hn,ho,hd⟩,hr⟩:=hl;have hL:L∈X.fs:=hs L (by unfold frs; rw [List.filterMap_cons,hf]; exact List.mem_cons_self);obtain ⟨sl,e⟩:=I.base.slot L o ho (I.ok.frf L hL) hL fun z=>I.ok.exfs L z hL;exact ⟨hk,⟨L,_,hf,hn,e,hd⟩,ih (fun b hb=>hs b (by unfold frs; rw [List.filterMap_cons,hf]; exact List.mem_cons_of_mem _ hb)) hr⟩
 exact all X.outer (fun _ hb=>hb) I.ok.funs
theorem Inv.stack (I:Inv X pins σ H s):s.heap.FunFrames X.base X.stack:=by
 rcases I.ok.stk with e | ⟨e,hf⟩
 ·rw [e]; exact I.funs
 ·rw [e];obtain ⟨m,hn,_⟩:=I.loc;refine .cons (by rw [I.ok.kind]; decide) hf hn ?_ I.funs;exact Heap.get?_none_of_le (Nat.le_trans I.ok.bsz I.ok.above)
theorem Inv.stkSub (I:Inv X pins σ H s):∀b∈frs X.stack,b∈X.env.locals::X.fs:=fun b hb=>by
 rcases I.ok.stk with e | ⟨e,hf⟩
 ·rw [e] at hb; exact List.mem_cons_of_mem _ hb
 ·rw [e] at hb;unfold frs at hb;rw [List.filterMap_cons,hf] at hb;exact hb
theorem Inv.stkFree (I:Inv X pins σ H s):∀b∈frs X.stack,H b=none:=fun b hb=>by
 rcases List.mem_cons.mp (I.stkSub b hb) with e | hb
 ·rw [e]; exact I.free
 ·obtain ⟨_,o,ho,_⟩:=I.ok.funs.mem hb;exact I.base.free b o ho (I.ok.frf b hb) fun z=>I.ok.exfs b z hb
theorem Inv.step {g':Array GenState} {d':Drawn} (I:Inv X pins σ H s)
  (hch:∀b∈ch,(b∈X.ex∨X.s₀.heap.objs.size≤b)∧b≠X.env.locals∧(∀x c,X.env.cells.lookup x=some c→c≠b)∧∀p∈X.pn++pins,p.1≠b)
  (keep:∀b o,b≠X.env.locals→b∉X.fs→b∉ch→s.heap.get? b=some o→H b=none→h'.get? b=some o)
  (slot:∀b o,b≠X.env.locals→b∈X.fs→b∉ch→s.heap.get? b=some o→H b=none→∃sl,h'.get? b=some { o with slots:=sl }) (free:∀b o,b∉ch→s.heap.get? b=some o→H b=none→H' b=none)
  (there:∀b o,b∉ch→s.heap.get? b=some o→∃o',h'.get? b=some o')
  (tups:∀b xs,H b=some (.tup xs)→H' b=some (.tup xs)) (frzs:∀b o u,H b=some (.frz o u)→H' b=some (.frz o u)) (tbls:∀b ps,H b=some (.tbl ps)→∃more,H' b=some (.tbl (ps++more)))
  (ns:∀m,s.heap.Ns X.env.locals m→h'.Ns X.env.locals m) (hok:HOk X.prog X.w H' h') (hg:AllBare g') :
  Inv X pins σ H' { s with heap:=h',gens:=g',drawn:=d',toks:=t' }:=by
 have neL:∀b o,X.s₀.heap.get? b=some o→b≠X.env.locals:=fun b o e=>Nat.ne_of_lt (Nat.lt_of_lt_of_le (Heap.lt_size e) I.ok.above);have neC:∀b o,X.s₀.heap.get? b=some o→b∉X.ex→b∉ch:=fun b o e hx hb=>by
  rcases (hch b hb).1 with z | z
  ·exact hx z
  ·exact absurd (Nat.lt_of_lt_of_le (Heap.lt_size e) z) (Nat.lt_irrefl _)
 have cellK:∀x c,X.env.cells.lookup x=some c→∀v,s.heap.IsCell c v→h'.IsCell c v:=fun x c e v ⟨o,ho,hd⟩=>by
  have nch:c∉ch:=fun z=>(hch c z).2.2.1 x c e rfl;by_cases hc:c∈X.fs
  ·obtain ⟨sl,q⟩:=slot c o (I.cne x c e) hc nch ho (I.freeC x c e);exact ⟨_,q,hd⟩
  ·exact ⟨o,keep c o (I.cne x c e) hc nch ho (I.freeC x c e),hd⟩
 refine ⟨I.ok,I.os,hg,⟨fun b o e n hb hx=>?_,fun b o e n hb hx=>?_,fun b o e n hx=>?_,fun b o e hx=>?_,fun b xs e=>tups b xs (I.base.tups b xs e),fun b o xs e=>frzs b o xs (I.base.frzs b o xs e),fun b ps e=>?_⟩,?_,fun x c e=>?_,?_,fun x c e=>?_,fun p hp=>?_,hok,I.len⟩
 ·exact keep b o (neL b o e) hb (neC b o e hx) (I.base.keep b o e n hb hx) (I.base.free b o e n hx)
 ·obtain ⟨sl,e1⟩:=I.base.slot b o e n hb hx;obtain ⟨sl',e2⟩:=slot b _ (neL b o e) hb (neC b o e hx) e1 (I.base.free b o e n hx);exact ⟨sl',e2⟩
 ·obtain ⟨o',e1⟩:=I.base.there b o e hx;exact free b o' (neC b o e hx) e1 (I.base.free b o e n hx)
 ·obtain ⟨o',e1⟩:=I.base.there b o e hx;exact there b o' (neC b o e hx) e1
 ·obtain ⟨m1,e1⟩:=I.base.tbls b ps e;obtain ⟨m2,e2⟩:=tbls b _ e1;exact ⟨m1++m2,by rw [e2,Array.append_assoc]⟩
 ·obtain ⟨m,hn,hl⟩:=I.loc;refine ⟨m,ns m hn,fun i x v e1 e2 e3=>?_⟩;obtain ⟨u,r,l⟩:=hl i x v e1 e2 e3;refine ⟨u,r,?_⟩;rcases l with l | ⟨k,c,e,z⟩
  ·exact .inl l
  ·exact .inr ⟨k,c,e,cellK x c e _ z⟩
 ·obtain ⟨v,z⟩:=I.cell x c e;exact ⟨v,cellK x c e v z⟩
 ·obtain ⟨m,⟨o,_,_,ho,_⟩,_⟩:=I.loc;exact free _ o (fun z=>(hch _ z).2.1 rfl) ho I.free
 ·obtain ⟨v,o,ho,hd⟩:=I.cell x c e;exact free c o (fun z=>(hch c z).2.2.1 x c e rfl) ho (I.freeC x c e)
 ·obtain ⟨e,n,ne,nf,d⟩:=I.pin p hp;have nch:p.1∉ch:=fun z=>(hch p.1 z).2.2.2 p hp rfl;exact ⟨keep p.1 p.2 ne nf nch e n,free p.1 p.2 nch e n,ne,nf,d⟩
theorem Inv.un (I:Inv X pins σ H s) (u:Un X.fs [] H H' s.heap h') (hok:HOk X.prog X.w H' h'):Inv X pins σ H' { s with heap:=h',toks:=t' }:=by obtain ⟨m,⟨o,es,ep,ho,r⟩,_⟩:=id I.loc;obtain ⟨sl,hL⟩:=u.any ho I.free (by simp);exact I.step (g':=s.gens) (d':=s.drawn) (ch:=[]) (fun _ z=>nomatch z) (fun b o _ hb _ e n=>u.keep b o e n hb (by simp)) (fun b o _ hb _ e n=>u.slot b o e n hb (by simp)) (fun b o _ e n=>u.free b o e n (by simp)) (fun b o _ e=>u.there b o e (by simp)) u.tups u.frzs u.tbls (fun m' hm=>by obtain ⟨o',es',ep',ho',r'⟩:=hm;rw [ho] at ho'; cases ho';exact ⟨_,es',ep',hL,r'⟩) hok I.bare
theorem Inv.call {g':Array GenState} {d':Drawn} (I:Inv X pins σ H s) (u:Un (frs X.stack) ch H H' s.heap h') (hok:HOk X.prog X.w H' h') (hg:AllBare g')
  (hch:∀b∈ch,(b∈X.ex∨X.s₀.heap.objs.size≤b)∧b≠X.env.locals∧(∀x c,X.env.cells.lookup x=some c→c≠b)∧∀p∈X.pn++pins,p.1≠b) :
  Inv X pins σ H' { s with heap:=h',gens:=g',drawn:=d',toks:=t' }:=by
 obtain ⟨m,⟨o,es,ep,ho,r⟩,_⟩:=id I.loc;obtain ⟨sl,hL⟩:=u.any ho I.free fun z=>(hch _ z).2.1 rfl;exact I.step (ch:=ch) hch (fun b o hL hb hc e n=>u.keep b o e n (fun z=>(List.mem_cons.mp (I.stkSub b z)).elim hL hb) hc) (fun b o _ _ hc e n=>u.any e n hc) (fun b o hc e n=>u.free b o e n hc) (fun b o hc e=>u.there b o e hc) u.tups u.frzs u.tbls (fun m' hm=>by obtain ⟨o',es',ep',ho',r'⟩:=hm;rw [ho] at ho'; cases ho';exact ⟨_,es',ep',hL,r'⟩) hok hg
theorem Inv.turned (I:Inv X pins σ H s) (k:∀b o,b≠it→s.heap.get? b=some o→h'.get? b=some o) (hn:H it=none) (hL:it≠X.env.locals)
  (h1:it∈X.ex∨X.s₀.heap.objs.size≤it) (h2:∀x c,X.env.cells.lookup x=some c→c≠it) (h3:∀p∈X.pn++pins,p.1≠it):Inv X pins σ H { s with heap:=h',toks:=t' }:=by
 have nit:∀b u,H b=some u→b≠it:=fun b u e z=>by rw [z,hn] at e; cases e
 refine I.step (g':=s.gens) (d':=s.drawn) (ch:=[it]) (fun b hb=>?_) (fun b o _ _ hc e _=>k b o (fun z=>hc (by simp [z])) e) (fun b o _ _ hc e _=>⟨o.slots,k b o (fun z=>hc (by simp [z])) e⟩) (fun _ _ _ _ n=>n)
  (fun b o hc e=>⟨o,k b o (fun z=>hc (by simp [z])) e⟩) (fun _ _ e=>e) (fun _ _ _ e=>e) (fun b ps e=>⟨#[],by rw [e]; simp⟩) (fun m hm=>?_) (fun b u e=>?_) I.bare
 ·have e:b=it:=by simpa using hb
  subst e;exact ⟨h1,hL,h2,h3⟩
 ·obtain ⟨o,es,ep,ho,r⟩:=hm;exact ⟨o,es,ep,k _ o (Ne.symm hL) ho,r⟩
 ·refine (I.hok b u e).stay (fun c v hc q=>k c v ?_ q) (fun _ q=>q) fun _ _ q=>q;rcases hc with z | z
  ·rw [z]; exact nit b u e
  ·exact nit c _ z
theorem Inv.tok (I:Inv X pins σ H s) (t:Nat):Inv X pins σ H { s with toks:=t }:=I.un (h':=s.heap) (t':=t) Un.refl I.hok
theorem Inv.kept (I:Inv X pins σ H s) (k:∀b u,s.heap.get? b=some u→h'.get? b=some u):Inv X pins σ H { s with heap:=h',toks:=t' }:=I.un (Un.kept k) (I.hok.kept k)
theorem Inv.laid {o:HO} (I:Inv X pins σ H s) (k:∀b u,s.heap.get? b=some u→h'.get? b=some u) (hp:s.heap.objs.size≤a) (new:ObjOk X.prog X.w (upd H a o) h' a o) :
  Inv X pins σ (upd H a o) { s with heap:=h',toks:=t' }:=I.un (Un.laid k hp (I.hok.fresh hp)) (I.hok.laid k hp new)
theorem Inv.write {x e:Addr} {o:HO} (I:Inv X pins σ H s) (mu:Mut (H x)) (he:e=x∨H e=some (.own x)) (k:∀b u,b≠e→s.heap.get? b=some u→h'.get? b=some u) (heo:∃u,h'.get? e=some u)
  (new:ObjOk X.prog X.w (upd H x o) h' x o):Inv X pins σ (upd H x o) { s with heap:=h',toks:=t' }:=I.un (Un.write mu he k heo) (I.hok.write mu he k heo new)
theorem Inv.weak {σ':List (Option V)} (I:Inv X pins σ H s) (hl:σ'.length = σ.length) (w:∀(i:Nat) v,σ'[i]?=some (some v)→σ[i]?=some (some v)):Inv X pins σ' H s :=
 ⟨I.ok,I.os,I.bare,I.base,let ⟨m,hn,hl'⟩:=I.loc; ⟨m,hn,fun i x v e1 e2 e3=>hl' i x v e1 (w i v e2) e3⟩,I.cell,I.free,I.freeC,I.pin,I.hok,hl.trans I.len⟩
theorem Inv.pins_of {pins':List (Addr×Obj)} (I:Inv X pins σ H s) (h:∀p∈pins',s.heap.get? p.1=some p.2∧H p.1=none∧p.1≠X.env.locals∧p.1∉X.fs∧∀v,p.2.data≠.cell v):Inv X pins' σ H s :=
 ⟨I.ok,I.os,I.bare,I.base,I.loc,I.cell,I.free,I.freeC,fun p hp=>(List.mem_append.mp hp).elim (fun z=>I.pin p (List.mem_append_left _ z)) (h p),I.hok,I.len⟩
theorem nodup_ix {N:List Str} (hN:N.Nodup) (a:N[i]?=some x) (b:N[j]?=some x):i=j:=by obtain ⟨h1,e1⟩:=List.getElem?_eq_some_iff.mp a;obtain ⟨h2,e2⟩:=List.getElem?_eq_some_iff.mp b;exact (List.getElem_inj hN).mp (e1.trans e2.symm)
theorem store_ok2 {A:Around} {Q:Unit→Shared→Prop} (I:Inv X pins σ H s) (hN:X.N.Nodup) (hi:X.N[i]?=some x) (hx:Loc X.env.scope x) (r:RelV v u)
  (h:∀s',Inv X pins (σ.set i (some v)) H s'→(∃a,Heap.SameBut a s.heap s'.heap∧(a=X.env.locals∨X.env.cells.lookup x=some a))→Q () s') (hf:X.fn x=true∨X.env.scope.names.lookup x=some .local:=by first | exact .inl rfl | exact .inr rfl | assumption):wpAny M A (storeName X.env x u) Q E s:=by
 obtain ⟨m,hn,hl⟩:=id I.loc;have hcls:(X.env.scope.kind == .class || (X.env.scope.kind == .module && X.env.locals != X.env.globals))=false:=by rw [I.ok.kind]; rfl
 have hiσ:i < σ.length:=by rw [I.len]; exact (List.getElem?_eq_some_iff.mp hi).1
 have cne:=I.cne;have tracked:∀{a:Addr} {h':Heap},(∃o,s.heap.get? a=some o∧H a=none)→Heap.SameBut a s.heap h'→HOk X.prog X.w H h':=fun {a h'} ha hs b ob e=>by
  obtain ⟨_,_,hfree⟩:=ha;refine (I.hok b ob e).stay (fun c w' hc q=>(hs.2 c ?_).trans q) (fun _ q=>q) fun _ _ q=>q;rintro rfl;rcases hc with rfl | hc
  ·rw [hfree] at e; cases e
  ·rw [hfree] at hc; cases hc
 rcases hx with hk | hk
 ·refine wpAny_storeName_local hk hn (fun h' hn' hs=>?_) hcls;obtain ⟨oL,_,_,hoL,_⟩:=id hn;refine h _ ⟨I.ok,I.os,I.bare,⟨fun b o e n hb hx=>?_,fun b o e n hb hx=>?_,I.base.free,fun b o e hx=>?_,I.base.tups,I.base.frzs,I.base.tbls⟩,⟨_,hn',fun j y v' e1 e2 e3=>?_⟩,fun y c e=>?_,I.free,I.freeC,fun p hp=>?_,tracked ⟨oL,hoL,I.free⟩ hs,by simpa using I.len⟩ ⟨_,hs,.inl rfl⟩
  ·exact (hs.2 b (Nat.ne_of_lt (Nat.lt_of_lt_of_le (Heap.lt_size e) I.ok.above))).trans (I.base.keep b o e n hb hx)
  ·obtain ⟨sl,e1⟩:=I.base.slot b o e n hb hx;exact ⟨sl,(hs.2 b (Nat.ne_of_lt (Nat.lt_of_lt_of_le (Heap.lt_size e) I.ok.above))).trans e1⟩
  ·obtain ⟨o',e1⟩:=I.base.there b o e hx;exact ⟨o',(hs.2 b (Nat.ne_of_lt (Nat.lt_of_lt_of_le (Heap.lt_size e) I.ok.above))).trans e1⟩
  ·by_cases hj:j=i
   ·subst hj;rw [hi] at e1; cases e1;rw [List.getElem?_set_self hiσ] at e2;cases e2;exact ⟨u,r,.inl ⟨hk,by simp⟩⟩
   ·rw [List.getElem?_set_ne (Ne.symm hj)] at e2;obtain ⟨u',r',q⟩:=hl j y v' e1 e2 e3;refine ⟨u',r',?_⟩;rcases q with ⟨k,e⟩ | ⟨k,c,e,z⟩
    ·refine .inl ⟨k,?_⟩;have:y≠x:=fun e=>hj (nodup_ix hN e1 (e ▸ hi));simp [this,e]
    ·exact .inr ⟨k,c,e,z.sameBut hs (cne y c e)⟩
  ·obtain ⟨w',z⟩:=I.cell y c e;exact ⟨w',z.sameBut hs (cne y c e)⟩
  ·obtain ⟨e,n,ne,nf,d⟩:=I.pin p hp;exact ⟨(hs.2 p.1 ne).trans e,n,ne,nf,d⟩
 ·have hfn:X.fn x=true:=by
   rcases hf with z | z
   ·exact z
   ·rw [z] at hk; cases hk
  obtain ⟨c,hc⟩:=I.ok.has x (.inl hk);obtain ⟨w',z⟩:=I.cell x c hc;refine wpAny_storeName_cell I.ok.kind hk hc z (fun h' hc' hs=>?_);obtain ⟨oc,hoc,hocd⟩:=id z;refine h { s with heap:=h' } ⟨I.ok,I.os,I.bare,⟨fun b o e n hb hx=>?_,fun b o e n hb hx=>?_,I.base.free,fun b o e hx=>?_,I.base.tups,I.base.frzs,I.base.tbls⟩,⟨m,hn.sameBut hs (Ne.symm (cne x c hc)),fun j y v' e1 e2 e3=>?_⟩,fun y c' e=>?_,I.free,I.freeC,fun p hp=>?_,tracked ⟨oc,hoc,I.freeC x c hc⟩ hs,by simpa using I.len⟩ ⟨c,hs,.inr hc⟩
  ·exact (hs.2 b (Nat.ne_of_lt (Nat.lt_of_lt_of_le (Heap.lt_size e) (I.ok.cab x c hfn hc)))).trans (I.base.keep b o e n hb hx)
  ·obtain ⟨sl,e1⟩:=I.base.slot b o e n hb hx;exact ⟨sl,(hs.2 b (Nat.ne_of_lt (Nat.lt_of_lt_of_le (Heap.lt_size e) (I.ok.cab x c hfn hc)))).trans e1⟩
  ·obtain ⟨o',e1⟩:=I.base.there b o e hx;exact ⟨o',(hs.2 b (Nat.ne_of_lt (Nat.lt_of_lt_of_le (Heap.lt_size e) (I.ok.cab x c hfn hc)))).trans e1⟩
  ·by_cases hj:j=i
   ·subst hj;rw [hi] at e1; cases e1;rw [List.getElem?_set_self hiσ] at e2;cases e2;exact ⟨u,r,.inr ⟨.inl hk,c,hc,hc'⟩⟩
   ·rw [List.getElem?_set_ne (Ne.symm hj)] at e2;obtain ⟨u',r',q⟩:=hl j y v' e1 e2 e3;refine ⟨u',r',?_⟩;rcases q with q | ⟨k,c',e,z'⟩
    ·exact .inl q
    ·refine .inr ⟨k,c',e,z'.sameBut hs ?_⟩;rintro rfl;exact hj (nodup_ix hN e1 (I.ok.inj _ _ _ e hc ▸ hi))
  ·by_cases hcc:c'=c
   ·subst hcc; exact ⟨_,hc'⟩
   ·obtain ⟨w2,z2⟩:=I.cell y c' e;exact ⟨w2,z2.sameBut hs hcc⟩
  ·obtain ⟨e,n,ne,nf,d⟩:=I.pin p hp;refine ⟨(hs.2 p.1 ?_).trans e,n,ne,nf,d⟩;intro q;rw [q,hoc] at e;have q':oc=p.2:=Option.some.inj e;exact d w' (by rw [← q']; exact hocd)
theorem store_ok {A:Around} {Q:Unit→Shared→Prop} (I:Inv X pins σ H s) (hN:X.N.Nodup) (hi:X.N[i]?=some x) (hx:Loc X.env.scope x) (r:RelV v u)
  (h:∀s',Inv X pins (σ.set i (some v)) H s'→Q () s') (hf:X.fn x=true∨X.env.scope.names.lookup x=some .local:=by first | exact .inl rfl | exact .inr rfl | assumption):wpAny M A (storeName X.env x u) Q E s :=
 store_ok2 I hN hi hx r (fun s' I' _=>h s' I') hf
theorem Inv.call' (I:Inv X pins σ H s) (ho:s'.os=s.os) (u:Un (frs X.stack) ch H H' s.heap s'.heap) (hok:HOk X.prog X.w H' s'.heap) (hg:AllBare s'.gens)
  (hch:∀b∈ch,(b∈X.ex∨X.s₀.heap.objs.size≤b)∧b≠X.env.locals∧(∀x c,X.env.cells.lookup x=some c→c≠b)∧∀p∈X.pn++pins,p.1≠b):Inv X pins σ H' s':=by
 obtain ⟨h',g',d',t',o'⟩:=s';have e:o'=s.os:=ho;subst e;exact I.call (g':=g') (t':=t') (d':=d') u hok hg hch
end
abbrev XK:=Value→Option Addr→Hp→Prop
abbrev St:=List (Option V)
abbrev VK:=V→Hp→Prop
abbrev TE:=St→Hp→VK→Prop
abbrev TT:=St→Hp→(Bool→Hp→Prop)→Prop
abbrev TA:=St→Hp→(List V→Hp→Prop)→Prop
structure Ends where
 nx:St→Hp→Prop
 rt:VK
 bk:St→Hp→Prop:=fun _ _=>False
 ct:St→Hp→Prop:=fun _ _=>False
abbrev TS:=Ends→St→Hp→Prop
def EP (X:Cx) (pins:List (Addr×Obj)) (σ:St) (Q:VK) (u:Value) (s':Shared):Prop:=∃v H',Inv X pins σ H' s'∧RelV v u∧Q v H'
def TP (X:Cx) (pins:List (Addr×Obj)) (σ:St) (Q:Bool→Hp→Prop) (b:Bool) (s':Shared):Prop:=∃H',Inv X pins σ H' s'∧Q b H'
def AP (X:Cx) (pins:List (Addr×Obj)) (σ:St) (Q:List V→Hp→Prop) (us:List Value) (s':Shared):Prop:=∃vs H',Inv X pins σ H' s'∧Vals vs us∧Q vs H'
def SP (X:Cx) (pins:List (Addr×Obj)) (D:Ends) (f:Flow) (s':Shared):Prop :=
 match f with
 | .next=>∃σ' H',Inv X pins σ' H' s'∧D.nx σ' H'
 | .brk=>∃σ' H',Inv X pins σ' H' s'∧D.bk σ' H'
 | .cont=>∃σ' H',Inv X pins σ' H' s'∧D.ct σ' H'
 | .ret u=>∃v σ' H',Inv X pins σ' H' s'∧RelV v u∧D.rt v H'
def PE (X:Cx) (e:Expr) (t:TE):Prop :=
 ∀(pins:List (Addr×Obj)) (s:Shared) (σ:St) (H:Hp) (Q:VK),Inv X pins σ H s→t σ H Q→wpAny (model X.prog X.w) X.A (eval e X.env) (EP X pins σ Q) X.xe s
def PT (X:Cx) (e:Expr) (t:TT):Prop :=
 ∀(pins:List (Addr×Obj)) (s:Shared) (σ:St) (H:Hp) (Q:Bool→Hp→Prop),Inv X pins σ H s→t σ H Q→wpAny (model X.prog X.w) X.A (isTrue e X.env (eval e X.env)) (TP X pins σ Q) X.xe s
def PW (X:Cx) (e:Expr) (t:TT):Prop :=
 ∀(whole:Sem Value) (pins:List (Addr×Obj)) (s:Shared) (σ:St) (H:Hp) (Q:Bool→Hp→Prop),Inv X pins σ H s→t σ H Q→wpAny (model X.prog X.w) X.A (isTrue e X.env whole) (TP X pins σ Q) X.xe s
theorem PW.pt {e:Expr} {t:TT} (h:PW X e t):PT X e t:=h _
def PA (X:Cx) (es:List Expr) (t:TA):Prop :=
 ∀(pos:Pos) (pins:List (Addr×Obj)) (s:Shared) (σ:St) (H:Hp) (Q:List V→Hp→Prop),Inv X pins σ H s→t σ H Q→wpAny (model X.prog X.w) X.A (spliced (backTo pos (starEach es X.env))) (AP X pins σ Q) X.xe s
def PS (X:Cx) (st:Stmt) (t:TS):Prop :=
 ∀(pins:List (Addr×Obj)) (s:Shared) (σ:St) (H:Hp) (D:Ends),Inv X pins σ H s→t D σ H→wpAny (model X.prog X.w) X.A (exec st X.env) (SP X pins D) X.xe s
def PSs (X:Cx) (st:List Stmt) (t:TS):Prop :=
 ∀(pins:List (Addr×Obj)) (s:Shared) (σ:St) (H:Hp) (D:Ends),Inv X pins σ H s→t D σ H→wpAny (model X.prog X.w) X.A (execs st X.env) (SP X pins D) X.xe s
theorem thn {t:Sem α} {Q Q':α→Shared→Prop} {A:Around} (h:wpAny M A t Q E s) (hQ:∀a s,Q a s→Q' a s):wpAny M A t Q' E s:=wpAny_mono h hQ fun _ _ x=>x
variable {Q:Value→Shared→Prop} {c:Expr} {op:CmpOp} {pos:Pos} {ta:TE} {σ:St}
section
theorem bin {a b:Expr} {tb:TE} (ha:PE X a ta) (hb:PE X b tb) {R:V→V→Hp→Prop} (I:Inv X pins σ H s) (h:ta σ H fun x H1=>tb σ H1 fun y H2=>R x y H2)
 {Q:α→Shared→Prop} {f:Value→Value→Sem α}
    (hf:∀v u s2 x y H2,Inv X pins σ H2 s2→RelV x v→RelV y u→R x y H2→wpAny (model X.prog X.w) X.A (f v u) Q X.xe s2) :
    wpAny (model X.prog X.w) X.A (eval a X.env) (fun v s₁=>wpAny (model X.prog X.w) X.A (eval b X.env) (fun u s₂=>wpAny (model X.prog X.w) X.A (f v u) Q X.xe s₂) X.xe s₁) X.xe s:=by
  refine thn (ha pins s σ H _ I h) fun v s1 hq9=>?_;obtain ⟨x,H1,I1,r1,q1⟩:=hq9;refine thn (hb pins s1 σ H1 _ I1 q1) fun u s2 hq9=>?_;obtain ⟨y,H2,I2,r2,q2⟩:=hq9;exact hf v u s2 x y H2 I2 r1 r2 q2
def tVar (i:Nat):TE:=fun σ H Q=>∃v,σ[i]?=some (some v)∧Q v H
def tC (v:V):TE:=fun _ H Q=>Q v H
theorem pe_var (hN:X.N[i]?=some x) (hv:Vis X.env.scope x) (hd:(x == ("__debug__":Str))=false:=by decide) (hcd:(x == ("__classdict__":Str))=false:=by decide):PE X (.Name x pos) (tVar i):=by
 intro pins s σ H Q I h;obtain ⟨v,e,h⟩:=h;obtain ⟨m,hn,hl⟩:=I.loc;obtain ⟨u,r,l⟩:=hl i x v hN e hv;have fin:EP X pins σ Q u s:=⟨v,H,I,r,h⟩;rcases l with ⟨hk,hm⟩ | ⟨hk,c,hc,hcell⟩
 ·exact wpAny_Name (wpAny_loadName_local I.ok.kind hk hn hm fin) hd
 ·rcases hk with hk | hk
  ·exact wpAny_Name (wpAny_loadName_cell I.ok.kind hk hc hcell fin) hd
  ·exact wpAny_Name (wpAny_loadName_free I.ok.kind hk hc hcell fin hcd) hd
theorem pe_int {i j pos}:PE X (.Constant (.int i) j pos) (tC (.int i)):=fun _ _ _ H _ I h=>wpAny_Constant_int ⟨.int i,H,I.tok _,⟨_,rfl⟩,h⟩
theorem pe_bl {b j pos}:PE X (.Constant (.bool b) j pos) (tC (.bl b)):=fun _ _ _ H _ I h=>Constant_bool ⟨.bl b,H,I,rfl,h⟩
theorem pe_non {j pos}:PE X (.Constant .none j pos) (tC .non):=fun _ _ _ H _ I h=>Constant_none ⟨.non,H,I,rfl,h⟩
theorem pe_str {x j pos}:PE X (.Constant (.str x) j pos) (tC (.str x)):=fun _ _ _ H _ I h=>Calls.Constant_str ⟨.str x,H,I.tok _,⟨_,rfl⟩,h⟩
def Gl (X:Cx) (x:Str):Prop:=X.env.kindOf x=some .globalImplicit
theorem ld_glob (I:Inv X pins σ H s) (hg:Gl X x) (hm:X.mg x=some u) (h:Q u s)
  (hd:(x == ("__debug__":Str))=false:=by decide):wpAny (model X.prog X.w) X.A (eval (.Name x pos) X.env) Q E s :=
 Calls.Name_function_global I.ok.kind hg (Calls.loadGlobal_global (by rw [I.ok.glob]; exact I.mod.glob.keeps I.bk) hm h) hd
theorem ld_blt (I:Inv X pins σ H s) (hg:Gl X x) (hm:X.mg x=none) (hv:bootBuiltins x=some u) (h:Q u s)
  (hn:x≠"__name__":=by decide) (hd:(x == ("__debug__":Str))=false:=by decide):wpAny (model X.prog X.w) X.A (eval (.Name x pos) X.env) Q E s:=by
 obtain ⟨mb,h1,h2⟩:=I.mod.blt;exact Calls.Name_function_global I.ok.kind hg (Calls.loadGlobal_builtin (by rw [I.ok.glob]; exact I.mod.glob.keeps I.bk) hm (by rw [I.ok.blt]; exact h1.keeps I.bk) ((h2 x hn).trans hv) h) hd
theorem pe_glob (hg:Gl X x) (hm:X.mg x=some u) (r:RelV v u) (hd:(x == ("__debug__":Str))=false:=by decide):PE X (.Name x pos) (tC v) :=
 fun _ _ _ H _ I h=>ld_glob I hg hm ⟨v,H,I,r,h⟩ hd
theorem pe_bltn (hg:Gl X x) (hm:X.mg x=none) (hv:bootBuiltins x=some u) (r:RelV v u) (hn:x≠"__name__":=by decide) (hd:(x == ("__debug__":Str))=false:=by decide):PE X (.Name x pos) (tC v) :=
 fun _ _ _ H _ I h=>ld_blt I hg hm hv ⟨v,H,I,r,h⟩ hn hd
def t2I (ta tb:TE) (k:Int→Int→Hp→Prop):St→Hp→Prop:=fun σ H=>ta σ H fun x H1=>tb σ H1 fun y H2=>∃i j,x=.int i∧y=.int j∧k i j H2
variable {a b:Expr} {tb:TE}
def PC (X:Cx) (op:CmpOp) (a b:Expr) (t:TE):Prop :=
 ∀(pins:List (Addr×Obj)) (s:Shared) (σ:St) (H:Hp) (Q:VK),Inv X pins σ H s→t σ H Q →
  wpAny (model X.prog X.w) X.A (eval a X.env) (fun v s₁=>wpAny (model X.prog X.w) X.A (eval b X.env) (fun u s₂=>wpAny (model X.prog X.w) X.A (compareOp op v u) (EP X pins σ Q) X.xe s₂) X.xe s₁) X.xe s
theorem nobehind (b:Expr) (h:op≠.In) (h2:op≠.NotIn):behindInMarks op b=false:=by
 have e1:(op == CmpOp.In)=false:=by cases op <;> first | rfl | exact absurd rfl h
 have e2:(op == CmpOp.NotIn)=false:=by cases op <;> first | rfl | exact absurd rfl h2
 cases b <;> simp [behindInMarks,e1,e2]
def tCmp (p:Int→Int→Bool) (ta tb:TE):TE:=fun σ H Q=>t2I ta tb (fun i j H2=>Q (.bl (p i j)) H2) σ H
abbrev tLt:TE→TE→TE:=tCmp fun i j=>decide (i<j)
abbrev tGt:TE→TE→TE:=tCmp fun i j=>decide (j<i)
abbrev tGe:TE→TE→TE:=tCmp fun i j=>decide (j≤i)
def tB (t:TE):TT:=fun σ H Q=>t σ H fun x H1=>∃c,x=.bl c∧Q c H1
theorem pt_cmp {t:TE} (h:PC X op a b t) (h1:behindInMarks op b=false:=by first | exact nobehind _ (by decide) (by decide) | rfl):PT X (.Compare a [op] [b] pos) (tB t):=by intro pins s σ H Q I hw;refine wpAny_isTrue_Compare1 (thn (h pins s σ H _ I hw) fun v s1 h1=>thn h1 fun u s2 h2=>thn h2 fun c s3 ⟨x,H1,I1,r1,q1⟩=>?_) h1;obtain ⟨d,rfl,q⟩:=q1;cases r1;exact wpAny_truthy_bool ⟨H1,I1,q⟩
theorem pt_val {e:Expr} {t:TE} (h:PE X e t) (he:∀whole,isTrue e X.env whole=(do let v ← whole; standAt e.pos; holding [v] (truthy v)):=by intro _; rfl):PT X e (tB t):=by intro pins s σ H Q I hw;refine isTrue_plain (thn (h pins s σ H _ I hw) fun v s1 ⟨x,H1,I1,r1,q1⟩=>?_) (he _);obtain ⟨d,rfl,q⟩:=q1;cases r1;exact wpAny_truthy_bool ⟨H1,I1,q⟩
variable {tA tB':TT} {rest:List Expr}
def tAnd (t u:TT):TT:=fun σ H Q=>t σ H fun c H1=>if c=true then u σ H1 Q else Q false H1
def tOr (t u:TT):TT:=fun σ H Q=>t σ H fun c H1=>if c=true then Q true H1 else u σ H1 Q
def tNot (t:TT):TT:=fun σ H Q=>t σ H fun c H1=>Q (!c) H1
theorem pw_and1 (ha:PT X a tA):PW X (.BoolOp .And [a] pos) tA:=by
 intro wh pins s σ H Q I h;refine isTrue_and (thn (ha pins s σ H Q I h) fun c s1 e=>?_);cases c with
 | true=>exact isTrue_and_nil e
 | false=>exact e
theorem pw_or1 (ha:PT X a tA):PW X (.BoolOp .Or [a] pos) tA:=by
 intro wh pins s σ H Q I h;refine isTrue_or (thn (ha pins s σ H Q I h) fun c s1 e=>?_);cases c with
 | false=>exact isTrue_or_nil e
 | true=>exact e
theorem pw_and (ha:PT X a tA) (hb:PW X (.BoolOp .And (b::rest) pos) tB'):PW X (.BoolOp .And (a::b::rest) pos) (tAnd tA tB'):=by
 intro wh pins s σ H Q I h;refine isTrue_and (thn (ha pins s σ H _ I h) fun c s1 hq9=>?_);obtain ⟨H1,I1,q1⟩:=hq9;cases c with
 | true=>exact hb wh pins s1 σ H1 Q I1 q1
 | false=>exact ⟨H1,I1,q1⟩
theorem pw_or (ha:PT X a tA) (hb:PW X (.BoolOp .Or (b::rest) pos) tB'):PW X (.BoolOp .Or (a::b::rest) pos) (tOr tA tB'):=by
 intro wh pins s σ H Q I h;refine isTrue_or (thn (ha pins s σ H _ I h) fun c s1 hq9=>?_);obtain ⟨H1,I1,q1⟩:=hq9;cases c with
 | true=>exact ⟨H1,I1,q1⟩
 | false=>exact hb wh pins s1 σ H1 Q I1 q1
theorem pt_not (ha:PT X a tA):PT X (.UnaryOp .Not a pos) (tNot tA):=by intro pins s σ H Q I h;exact isTrue_not (ha pins s σ H (fun c H1=>Q (!c) H1) I h)
def tAndV (ta tb:TE):TE:=fun σ H Q=>ta σ H fun x H1=>∃c,x=.bl c∧if c=true then tb σ H1 Q else Q (.bl false) H1
def tOrV (ta tb:TE):TE:=fun σ H Q=>ta σ H fun x H1=>∃c,x=.bl c∧if c=true then Q (.bl true) H1 else tb σ H1 Q
def tNotV (ta:TE):TE:=fun σ H Q=>ta σ H fun x H1=>∃c,x=.bl c∧Q (.bl (!c)) H1
theorem pe_one {op} {t:TE} (h:PE X a t):PE X (.BoolOp op [a] pos) t:=fun pins s σ H Q I hw=>BoolOp_one (h pins s σ H Q I hw)
theorem pe_and (ha:PE X a ta) (hb:PE X (.BoolOp .And (b::rest) pos) tb):PE X (.BoolOp .And (a::b::rest) pos) (tAndV ta tb):=by
 intro pins s σ H Q I h;refine BoolOp_and (thn (ha pins s σ H _ I h) fun v s1 hq9=>?_);obtain ⟨x,H1,I1,r1,q1⟩:=hq9;obtain ⟨c,rfl,q1⟩:=q1;cases r1;refine wpAny_truthy_bool ?_;cases c with
 | true=>exact hb pins s1 σ H1 Q I1 q1
 | false=>exact ⟨.bl false,H1,I1,rfl,q1⟩
theorem pe_or (ha:PE X a ta) (hb:PE X (.BoolOp .Or (b::rest) pos) tb):PE X (.BoolOp .Or (a::b::rest) pos) (tOrV ta tb):=by
 intro pins s σ H Q I h;refine BoolOp_or (thn (ha pins s σ H _ I h) fun v s1 hq9=>?_);obtain ⟨x,H1,I1,r1,q1⟩:=hq9;obtain ⟨c,rfl,q1⟩:=q1;cases r1;refine wpAny_truthy_bool ?_;cases c with
 | false=>exact hb pins s1 σ H1 Q I1 q1
 | true=>exact ⟨.bl true,H1,I1,rfl,q1⟩
theorem pe_not (ha:PE X a ta):PE X (.UnaryOp .Not a pos) (tNotV ta):=by intro pins s σ H Q I h;refine UnaryOp_ (thn (ha pins s σ H _ I h) fun v s1 hq9=>?_);obtain ⟨x,H1,I1,r1,q1⟩:=hq9;obtain ⟨c,rfl,q1⟩:=q1;cases r1;exact not_of (wpAny_truthy_bool ⟨.bl (!c),H1,I1,rfl,q1⟩)
def tIf (t:TT) (ta tb:TE):TE:=fun σ H Q=>t σ H fun c H1=>if c=true then ta σ H1 Q else tb σ H1 Q
theorem pe_ifExp (hc:PT X c tA) (ha:PE X a ta) (hb:PE X b tb):PE X (.IfExp c a b pos) (tIf tA ta tb):=by
 intro pins s σ H Q I h;refine wpAny_IfExp (thn (hc pins s σ H _ I h) fun d s1 hq9=>?_);obtain ⟨H1,I1,q1⟩:=hq9;cases d with
 | true=>exact ha pins s1 σ H1 Q I1 q1
 | false=>exact hb pins s1 σ H1 Q I1 q1
end
def SqL (K:PySem.W.Frag) (H:Hp) (a:Addr) (xs:List V):Prop :=
 Rd H a (.lst xs) ∨
  ∃(o:Obj) (its:Array Value) (n:Nat),K.lookup a=some o∧o.cls=.type "list"∧o.dict=none∧o.data=.seq its n∧its.size≤sizeLine∧Vals xs its.toList
def SqT (K:PySem.W.Frag) (H:Hp) (a:Addr) (xs:List V):Prop :=
 Rd H a (.tup xs) ∨
  ∃(o:Obj) (its:Array Value) (n:Nat),K.lookup a=some o∧o.cls=.type "tuple"∧o.data=.seq its n∧its.size≤sizeLine∧Vals xs its.toList
def absV:Value→Option V
 | .none=>some .non
 | .bool b=>some (.bl b)
 | .int i _=>some (.int i)
 | .str x _=>some (.str x)
 | .bytes b _=>some (.byt b)
 | .float b _=>some (.flt b)
 | .ref a=>some (.ref a)
 | .type n=>some (.ty n)
 | _=>none
theorem RelV.abs {x:V} (r:RelV x u):absV u=some x:=by
 cases x with
 | non=>cases r; rfl
 | bl _=>cases r; rfl
 | int _=>obtain ⟨t,rfl⟩:=r; rfl
 | str _=>obtain ⟨t,rfl⟩:=r; rfl
 | byt _=>obtain ⟨t,rfl⟩:=r; rfl
 | flt _=>obtain ⟨t,rfl⟩:=r; rfl
 | ref _=>cases r; rfl
 | ty _=>cases r; rfl
variable {y:V}
theorem RelV.inj {x:V} (r:RelV x u) (q:RelV y u):x=y:=Option.some.inj (r.abs.symm.trans q.abs)
theorem Vals.inj:∀{xs ys:List V} {us:List Value},Vals xs us→Vals ys us→xs=ys
 | _,_,_,.nil,.nil=>rfl
 | _,_,_,.cons r t,.cons r' t'=>by rw [r.inj r',Vals.inj t t']
variable {ys:List V}
theorem SqL.of {K:PySem.W.Frag} (h:H a=some (.lst xs)):SqL K H a xs:=.inl (.inl h)
theorem SqT.of {K:PySem.W.Frag} (h:H a=some (.tup xs)):SqT K H a xs:=.inl (.inl h)
theorem Inv.list (I:Inv X pins σ H s) (h:SqL X.K H a xs):∃its:List Value,Vals xs its∧PlainL s.heap a its.toArray∧xs.length≤sizeLine:=by
 rcases h with h | ⟨o,its,n,hk,hc,hd,hs,hz,r⟩
 ·obtain ⟨z,its,n,r,e⟩:=h.ok I.hok;exact ⟨its,r,⟨_,n,e,rfl,rfl,rfl⟩,z⟩
 ·refine ⟨its.toList,r,⟨o,n,I.kIn a o hk,hc,hd,by simpa using hs⟩,?_⟩;have e:=r.length;simp only [Array.length_toList] at e;omega
theorem Inv.tuple (I:Inv X pins σ H s) (h:SqT X.K H a xs):∃its:List Value,Vals xs its∧IsTup s.heap a its.toArray∧xs.length≤sizeLine:=by
 rcases h with h | ⟨o,its,n,hk,hc,hs,hz,r⟩
 ·obtain ⟨z,its,r,p⟩:=h.ok I.hok;exact ⟨its,r,p,z⟩
 ·refine ⟨its.toList,r,⟨o,I.kIn a o hk,hc,n,by simpa using hs⟩,?_⟩;have e:=r.length;simp only [Array.length_toList] at e;omega
theorem Inv.list_inj (I:Inv X pins σ H s) (h:SqL X.K H a xs) (h':SqL X.K H a ys):xs=ys:=by
 obtain ⟨its,r,⟨o,n,e,_,_,d⟩,_⟩:=I.list h;obtain ⟨its',r',⟨o',n',e',_,_,d'⟩,_⟩:=I.list h';rw [e] at e'; cases e';rw [d] at d';injection d' with d1 _;have:its=its':=by simpa using congrArg Array.toList d1
 subst this;exact r.inj r'
theorem Inv.tuple_inj (I:Inv X pins σ H s) (h:SqT X.K H a xs) (h':SqT X.K H a ys):xs=ys:=by
 obtain ⟨its,r,⟨o,e,_,n,d⟩,_⟩:=I.tuple h;obtain ⟨its',r',⟨o',e',_,n',d'⟩,_⟩:=I.tuple h';rw [e] at e'; cases e';rw [d] at d';injection d' with d1 _;have:its=its':=by simpa using congrArg Array.toList d1
 subst this;exact r.inj r'
abbrev Cx.wish (X:Cx) (E:Value→Shared→Prop):Cx:={ X with xe:=E }
abbrev Cx.nox (X:Cx):Cx:=X.wish fun _ _=>False
theorem Cx.Ok.wish (ok:X.Ok) (E:Value→Shared→Prop):(X.wish E).Ok :=
 ⟨ok.mod,ok.kind,ok.glob,ok.blt,ok.above,ok.inj,ok.has,ok.cab,ok.hd,ok.frames,ok.stk,ok.exf,ok.bs,ok.bsz,ok.noex,ok.exfs,ok.funs,ok.frf⟩
theorem Cx.Ok.unwish (ok:(X.wish E).Ok):X.Ok :=
 ⟨ok.mod,ok.kind,ok.glob,ok.blt,ok.above,ok.inj,ok.has,ok.cab,ok.hd,ok.frames,ok.stk,ok.exf,ok.bs,ok.bsz,ok.noex,ok.exfs,ok.funs,ok.frf⟩
theorem Inv.wish (I:Inv X pins σ H s) (E:Value→Shared→Prop):Inv (X.wish E) pins σ H s:=⟨I.ok.wish E,I.os,I.bare,I.base,I.loc,I.cell,I.free,I.freeC,I.pin,I.hok,I.len⟩
theorem Inv.unwish (I:Inv (X.wish E) pins σ H s):Inv X pins σ H s:=⟨I.ok.unwish,I.os,I.bare,I.base,I.loc,I.cell,I.free,I.freeC,I.pin,I.hok,I.len⟩
theorem SP.unwish {D:Ends} {f:Flow} (h:SP (X.wish E) pins D f s'):SP X pins D f s':=by
 cases f with
 | next=>obtain ⟨σ',H',I,q⟩:=h; exact ⟨σ',H',I.unwish,q⟩
 | brk=>obtain ⟨σ',H',I,q⟩:=h; exact ⟨σ',H',I.unwish,q⟩
 | cont=>obtain ⟨σ',H',I,q⟩:=h; exact ⟨σ',H',I.unwish,q⟩
 | ret u=>obtain ⟨v,σ',H',I,r,q⟩:=h; exact ⟨v,σ',H',I.unwish,r,q⟩
theorem PSs.nox {st:List Stmt} {t:TS} (h:PSs X.nox st t):PSs X st t:=fun pins s σ H D I hw =>wpAny_mono (h pins s σ H D (I.wish _) hw) (fun _ _ q=>q.unwish) fun _ _ z=>False.elim z
variable {te:TE}
section
variable {st:Stmt} {rest:List Stmt} {t u:TS} {e:Expr}
def tNext:TS:=fun D σ H=>D.nx σ H
def tSeq (t u:TS):TS:=fun D σ H=>t { D with nx:=u D } σ H
theorem pss_nil:PSs X [] tNext:=fun _ _ σ H _ I h=>wpAny_execs_nil ⟨σ,H,I,h⟩
theorem pss_cons (h1:PS X st t) (h2:PSs X rest u):PSs X (st::rest) (tSeq t u):=by
 intro pins s σ H D I h;refine wpAny_execs_cons (thn (h1 pins s σ H { D with nx:=u D } I h) fun f s1 q=>?_);cases f with
 | next =>obtain ⟨σ',H',I',q⟩:=q;exact h2 pins s1 σ' H' D I' q
 | ret v=>exact q
 | brk=>exact q
 | cont=>exact q
theorem pss_one (h1:PS X st t):PSs X [st] t:=by
 intro pins s σ H D I h;refine wpAny_execs_cons (thn (h1 pins s σ H D I h) fun f s1 q=>?_);cases f with
 | next=>exact wpAny_execs_nil q
 | ret v=>exact q
 | brk=>exact q
 | cont=>exact q
theorem Inv.quiet (I:Inv X pins σ H s):interactive X.env=false:=by simp [interactive,I.ok.kind]
def tDrop (te:TE):TS:=fun D σ H=>te σ H fun _ H1=>D.nx σ H1
theorem ps_expr (he:PE X e te) (hs:swapsWith e none pos.line X.env=pure false:=by rfl):PS X (.Expr e pos) (tDrop te):=by intro pins s σ H D I h;exact wpAny_Expr_any (thn (he pins s σ H _ I h) fun v s1 ⟨x,H1,I1,r1,q1⟩=>⟨σ,H1,I1,q1⟩) I.quiet hs
def tRet (te:TE):TS:=fun D σ H=>te σ H D.rt
theorem ps_ret (he:PE X e te):PS X (.Return (some e) pos) (tRet te):=by intro pins s σ H D I h;exact wpAny_Return_some (thn (he pins s σ H _ I h) fun v s1 ⟨x,H1,I1,r1,q1⟩=>⟨x,σ,H1,I1,r1,q1⟩)
def tIfS (c:TT) (t u:TS):TS:=fun D σ H=>c σ H fun b H1=>if b=true then t D σ H1 else u D σ H1
theorem ps_if {a b:List Stmt} {tc:TT} (hc:PT X c tc) (ha:PSs X a t) (hb:PSs X b u):PS X (.If c a b pos) (tIfS tc t u):=by
 intro pins s σ H D I h;refine wpAny_If (thn (hc pins s σ H _ I h) fun d s1 hq9=>?_);obtain ⟨H1,I1,q1⟩:=hq9;cases d with
 | true=>exact ha pins s1 σ H1 D I1 q1
 | false=>exact hb pins s1 σ H1 D I1 q1
def tNever:TS:=fun _ _ _=>False
theorem ps_never:PS X st tNever:=fun _ _ _ _ _ _ h=>h.elim
end
abbrev TG:=V→St→Hp→(St→Hp→Prop)→Prop
abbrev TGs:=List V→St→Hp→(St→Hp→Prop)→Prop
def PG (X:Cx) (target:Expr) (t:TG):Prop :=
 ∀(pins:List (Addr×Obj)) (s:Shared) (σ:St) (H:Hp) (v:V) (u:Value) (Q:St→Hp→Prop),Inv X pins σ H s→RelV v u→t v σ H Q →
  wpAny (model X.prog X.w) X.A (assign target X.env u) (fun _ s'=>∃σ' H',Inv X pins σ' H' s'∧Q σ' H') X.xe s
def PGs (X:Cx) (ts:List Expr) (t:TGs):Prop :=
 ∀(pins:List (Addr×Obj)) (s:Shared) (σ:St) (H:Hp) (vs:List V) (us:List Value) (Q:St→Hp→Prop),Inv X pins σ H s→Vals vs us→t vs σ H Q →
  wpAny (model X.prog X.w) X.A (assignInOrder ((assignEach ts X.env).map (·.2)) us) (fun _ s'=>∃σ' H',Inv X pins σ' H' s'∧Q σ' H') X.xe s
abbrev TSet:=V→V→V→Hp→(Hp→Prop)→Prop
def PSet (X:Cx) (t:TSet):Prop :=
 ∀(pins:List (Addr×Obj)) (s:Shared) (σ:St) (H:Hp) (o i v:V) (ov iv u:Value) (Q:Hp→Prop),Inv X pins σ H s→RelV o ov→RelV i iv→RelV v u→t o i v H Q →
  wpAny (model X.prog X.w) X.A (setItem ov iv u) (fun _ s'=>∃H',Inv X pins σ H' s'∧Q H') X.xe s
abbrev TIp:=V→V→Hp→VK→Prop
def PIp (X:Cx) (op:Operator) (t:TIp):Prop :=
 ∀(pins:List (Addr×Obj)) (s:Shared) (σ:St) (H:Hp) (x y:V) (v u:Value) (Q:VK),Inv X pins σ H s→RelV x v→RelV y u→t x y H Q →
  wpAny (model X.prog X.w) X.A (inplaceOp op v u) (EP X pins σ Q) X.xe s
variable {es:List Expr} {g:TG} {n:Nat} {pos' tpos:Pos} {tg:Expr} {to:TE}
def gName (i:Nat):TG:=fun v σ H Q=>Q (σ.set i (some v)) H
theorem pg_name (hN:X.N.Nodup) (hi:X.N[i]?=some x) (hx:Loc X.env.scope x) (hf:X.fn x=true∨X.env.scope.names.lookup x=some .local:=by first | exact .inl rfl | exact .inr rfl | assumption):PG X (.Name x pos) (gName i):=by intro pins s σ H v u Q I r h;exact wpAny_assign_Name (store_ok I hN hi hx r (fun s' I'=>⟨_,H,I',h⟩) hf)
def gNil:TGs:=fun vs σ H Q=>vs=[]∧Q σ H
def gCons (t:TG) (u:TGs):TGs:=fun vs σ H Q=>∃v r,vs=v::r∧t v σ H fun σ' H'=>u r σ' H' Q
theorem pgs_nil:PGs X [] gNil:=by intro pins s σ H vs us Q I r h;obtain ⟨e,h⟩:=h;subst e;cases r;exact assignInOrder_nil ⟨σ,H,I,h⟩
theorem pgs_cons {e:Expr} {t:TG} {u:TGs} (h1:PG X e t) (h2:PGs X es u)
  (hs:(assignEach (e::es) X.env).map (·.2)=assign e X.env::(assignEach es X.env).map (·.2):=by rfl):PGs X (e::es) (gCons t u):=by
 intro pins s σ H vs us Q I r h;obtain ⟨v,vr,e1,h⟩:=h;subst e1;cases r with
 | cons r rr =>rw [hs];refine assignInOrder_cons (thn (h1 pins s σ H _ _ _ I r h) fun _ s1 hq9=>?_);obtain ⟨σ1,H1,I1,q1⟩:=hq9;exact h2 pins s1 σ1 H1 _ _ Q I1 rr q1
def gTup (K:PySem.W.Frag) (n:Nat) (t:TGs):TG:=fun v σ H Q=>∃a xs,v=.ref a∧SqT K H a xs∧xs.length=n∧t xs σ H Q
theorem pg_tup {k:Nat} {t:TGs} (hc:X.calm=true) (h:PGs X es t)
  (hn:(assignEach es X.env).length=n:=by rfl) (hst:(assignEach es X.env).findIdx? (·.1)=none:=by rfl):PG X (.Tuple es k pos) (gTup X.K n t):=by
 intro pins s σ H v u Q I r hw;obtain ⟨a,xs,e1,hq,hl,hw⟩:=hw;subst e1;cases r;obtain ⟨its,rv,ht,hz⟩:=I.tuple hq;refine assign_Tuple_tuple (I.ok.hd hc) ht (by simp [hn,← hl,rv.length]) hst fun h' hx=>?_;have I1:Inv X pins σ H { s with heap:=h' }:=I.kept (t':=s.toks) fun b o e=>hx b o (Nat.ne_of_lt (Heap.lt_size e)) e;exact h pins _ σ H xs _ Q I1 (by simpa using rv) hw
def gSub (to ti:TE) (t:TSet):TG:=fun v σ H Q=>to σ H fun o H1=>ti σ H1 fun i H2=>t o i v H2 fun H3=>Q σ H3
theorem pg_sub {o i:Expr} {ti:TE} {t:TSet} (ho:PE X o to) (hi:PE X i ti) (hs:PSet X t)
  (ha:∀v,assign (.Subscript o i pos) X.env v=(do
   let ov ← holding [v] (eval o X.env)
   let iv ← holding [v,ov] (eval i X.env)
   standAt pos
   holding [v,ov,iv] (setItem ov iv v)
   release [v,ov,iv] []):=by intro _; rfl):PG X (.Subscript o i pos) (gSub to ti t):=by
 intro pins s σ H v u Q I r h;rw [ha];refine wpAny_bind (wpAny_holding (thn (ho pins s σ H _ I h) fun ov s1 hq9=>?_));obtain ⟨x,H1,I1,r1,q1⟩:=hq9;refine wpAny_bind (wpAny_holding (thn (hi pins s1 σ H1 _ I1 q1) fun iv s2 hq9=>?_));obtain ⟨y,H2,I2,r2,q2⟩:=hq9;refine wpAny_bind (wpAny_standAt (wpAny_bind (wpAny_holding (thn (hs pins s2 σ H2 x y v ov iv u _ I2 r1 r2 r q2) fun _ s3 hq9=>?_))));obtain ⟨H3,I3,q3⟩:=hq9;exact wpAny_release ⟨σ,H3,I3,q3⟩
def tAsg (te:TE) (g:TG):TS:=fun D σ H=>te σ H fun x H1=>g x σ H1 D.nx
theorem ps_asg {e:Expr} (he:PE X e te) (hg:PG X tg g) (hs:swapsWithSole [tg] e pos.line X.env=pure false:=by rfl) (hw:swappedStores [tg] e X.env=pure none:=by rfl)
  (h1:(assignEach [tg] X.env).map (·.2)=[assign tg X.env]:=by rfl):PS X (.Assign [tg] e pos) (tAsg te g):=by
 intro pins s σ H D I h;refine wpAny_Assign_stores (thn (he pins s σ H _ I h) fun v s1 ⟨x,H1,I1,r1,q1⟩=>?_) hs hw;rw [h1];exact thn (hg pins s1 σ H1 x v _ I1 r1 q1) fun _ s2 q=>q
theorem ps_set {e:Expr} (hN:X.N.Nodup) (hi:X.N[i]?=some x) (hx:Loc X.env.scope x) (he:PE X e te) (hs:swapsWith e (some (.Name x pos')) pos.line X.env=pure false:=by rfl) (hf:X.fn x=true∨X.env.scope.names.lookup x=some .local:=by first | exact .inl rfl | exact .inr rfl | assumption) :
  PS X (.Assign [.Name x pos'] e pos) (tAsg te (gName i)):=by
 intro pins s σ H D I h;refine wpAny_Assign_Name (thn (he pins s σ H _ I h) fun v s1 ⟨y,H1,I1,r1,q1⟩=>?_) hs;exact store_ok I1 hN hi hx r1 (fun s2 I2=>⟨_,H1,I2,q1⟩) hf
def tPar (i j:Nat) (ta:TA):TS:=fun D σ H=>ta σ H fun vs H1=>∃v w,vs=[v,w]∧D.nx ((σ.set i (some v)).set j (some w)) H1
theorem ps_par {y:Str} {a b:Expr} {ta:TA} {px py pt:Pos} {kt k2 pt2} (hc:X.calm=true) (hN:X.N.Nodup) (hi:X.N[i]?=some x) (hj:X.N[j]?=some y) (hij:i≠j)
    (hx:X.env.scope.names.lookup x=some .local) (hy:X.env.scope.names.lookup y=some .local) (ha:PA X [a,b] ta)
    (hw:swappedStores [.Tuple [.Name x px,.Name y py] kt pt] (.Tuple [a,b] k2 pt2) X.env=pure (some [x,y]))
    (hs:swapsWithSole [.Tuple [.Name x px,.Name y py] kt pt] (.Tuple [a,b] k2 pt2) pos.line X.env=pure false:=by rfl) :
    PS X (.Assign [.Tuple [.Name x px,.Name y py] kt pt] (.Tuple [a,b] k2 pt2) pos) (tPar i j ta):=by
  intro pins s σ H D I h;rw [exec_Assign_arm];refine wpAny_bind (wpAny_standAt ?_);rw [hs];refine wpAny_bind (wpAny_pure ?_);rw [if_neg (by decide)];refine wpAny_bind (Tuple_ (thn (ha _ pins s σ H _ I h) fun us s1 hq9=>?_));obtain ⟨vs,H1,I1,r1,q1⟩:=hq9;obtain ⟨v,w,e1,q1⟩:=q1;subst e1;obtain ⟨u1,u2,rfl,rv,rw'⟩:∃u1 u2,us=[u1,u2]∧RelV v u1∧RelV w u2:=by
    cases r1 with
    | cons p q =>
      cases q with
      | cons p' q' =>cases q';exact ⟨_,_,rfl,p,p'⟩
  refine wpAny_newObj_type ?_ (by show 2≤sizeLine; decide);have I2:Inv X pins σ H1 { s1 with heap:=s1.heap.push { cls:=.type "tuple",data:=.seq [u1,u2].toArray } }:=I1.kept (t':=s1.toks) fun b o e=>Heap.get?_push_of_some _ e;rw [hw];refine wpAny_bind (wpAny_pure ?_);show wpAny (model X.prog X.w) X.A (do rule "assign.swapped-stores"; let items ← unpackItems (.ref s1.heap.objs.size) 2 none; assignInOrder [fun v=>bindName X.env y v,fun v=>bindName X.env x v] items.reverse; pure Flow.next) _ _ _;refine wpAny_bind (wpAny_rule (wpAny_bind (unpackItems_tuple (items:=#[u1,u2]) (I.ok.hd hc) (IsTup.new s1.heap _) fun h' hx'=>?_)));have I3:=I2.kept (h':=h') (t':=s1.toks) fun b o e=>hx' b o (Nat.ne_of_lt (Heap.lt_size e)) e;show wpAny _ _ (assignInOrder [fun v=>bindName X.env y v,fun v=>bindName X.env x v] [u2,u1] >>= fun _=>pure Flow.next) _ _ _;refine wpAny_bind (assignInOrder_cons (wpAny_bindName (store_ok I3 hN hj (.inl hy) rw' (fun s2 I4=>?_) (.inr hy))));refine assignInOrder_cons (wpAny_bindName (store_ok I4 hN hi (.inl hx) rv (fun s3 I5=>assignInOrder_nil (wpAny_pure ?_)) (.inr hx)));rw [List.set_comm _ _ (Ne.symm hij)] at I5;exact ⟨_,H1,I5,q1⟩
def tAug (i:Nat) (te:TE) (ti:TIp):TS:=fun D σ H=>∃x,σ[i]?=some (some x)∧te σ H fun y H1=>ti x y H1 fun z H2=>D.nx (σ.set i (some z)) H2
theorem ps_aug {e:Expr} {op:Operator} {ti:TIp} (hN:X.N.Nodup) (hi:X.N[i]?=some x) (hx:Loc X.env.scope x) (he:PE X e te) (ho:PIp X op ti) (hf:X.fn x=true∨X.env.scope.names.lookup x=some .local:=by first | exact .inl rfl | exact .inr rfl | assumption) :
  PS X (.AugAssign (.Name x pos') op e pos) (tAug i te ti):=by
 intro pins s σ H D I h;obtain ⟨v,e1,h⟩:=h;obtain ⟨m,hn,hl⟩:=I.loc;have vis:Vis X.env.scope x:=by rcases hx with k | k; exact .inl k; exact .inr (.inl k)
 obtain ⟨u,r,l⟩:=hl i x v hi e1 vis;refine wpAny_AugAssign_Name ?_;have go:wpAny (model X.prog X.w) X.A (eval e X.env) (fun w s₂=>wpAny (model X.prog X.w) X.A (inplaceOp op u w) (fun r s₃=>wpAny (model X.prog X.w) X.A (storeName X.env x r) (fun _=>SP X pins D .next) X.xe s₃) X.xe s₂) X.xe s:=by refine thn (he pins s σ H _ I h) fun w s1 hq9=>?_;obtain ⟨y,H1,I1,r1,q1⟩:=hq9;refine thn (ho pins s1 σ H1 v y u w _ I1 r r1 q1) fun z s2 hq9=>?_;obtain ⟨zv,H2,I2,r2,q2⟩:=hq9;exact store_ok I2 hN hi hx r2 (fun s3 I3=>⟨_,H2,I3,q2⟩) hf
 rcases l with ⟨hk,hm⟩ | ⟨hk,c,hc,hcell⟩
 ·exact wpAny_loadName_local I.ok.kind hk hn hm go
 ·rcases hk with hk | hk
  ·exact wpAny_loadName_cell I.ok.kind hk hc hcell go
  ·rcases hx with k | k
   ·have:X.env.scope.names.lookup x=some .free:=hk;rw [k] at this; cases this
   ·have:X.env.scope.names.lookup x=some .free:=hk;rw [k] at this; cases this
def tAugS (to ti te:TE) (tget:V→V→Hp→VK→Prop) (tip:TIp) (tset:TSet):TS:=fun D σ H=>to σ H fun o H1=>ti σ H1 fun i H2=>tget o i H2 fun x H3=>te σ H3 fun y H4=>tip x y H4 fun z H5=>tset o i z H5 fun H6=>D.nx σ H6
def PGet (X:Cx) (t:V→V→Hp→VK→Prop):Prop :=
 ∀(pins:List (Addr×Obj)) (s:Shared) (σ:St) (H:Hp) (o i:V) (ov iv:Value) (Q:VK),Inv X pins σ H s→RelV o ov→RelV i iv→t o i H Q →
  wpAny (model X.prog X.w) X.A (getItem ov iv) (EP X pins σ Q) X.xe s
theorem ps_augS {o i e:Expr} {ti:TE} {tget:V→V→Hp→VK→Prop} {tip:TIp} {tset:TSet} {op:Operator} (ho:PE X o to) (hi:PE X i ti) (hg:PGet X tget) (he:PE X e te) (hp:PIp X op tip) (hs:PSet X tset)
  (ha:∀ov iv new,augStore i ov iv new=(do holding [new,ov,iv] (setItem ov iv new); release [new,ov,iv] []; pure .next):=by intros; rfl):PS X (.AugAssign (.Subscript o i tpos) op e pos) (tAugS to ti te tget tip tset):=by
 intro pins s σ H D I h;refine wpAny_AugAssign_SubscriptAny (thn (ho pins s σ H _ I h) fun ov s1 ⟨x1,H1,I1,r1,q1⟩=>?_) ha;refine thn (hi pins s1 σ H1 _ I1 q1) fun iv s2 hq9=>?_;obtain ⟨x2,H2,I2,r2,q2⟩:=hq9;refine thn (hg pins s2 σ H2 x1 x2 ov iv _ I2 r1 r2 q2) fun old s3 hq9=>?_;obtain ⟨x3,H3,I3,r3,q3⟩:=hq9;refine thn (he pins s3 σ H3 _ I3 q3) fun v s4 hq9=>?_;obtain ⟨x4,H4,I4,r4,q4⟩:=hq9;refine thn (hp pins s4 σ H4 x3 x4 old v _ I4 r3 r4 q4) fun new s5 hq9=>?_;obtain ⟨x5,H5,I5,r5,q5⟩:=hq9;exact thn (hs pins s5 σ H5 x1 x2 x5 ov iv new _ I5 r1 r2 r5 q5) fun _ s6 ⟨H6,I6,q6⟩=>⟨σ,H6,I6,q6⟩
def ipI (f:Int→Int→Int):TIp:=fun x y H Q=>∃i j,x=.int i∧y=.int j∧Q (.int (f i j)) H
theorem ip_add:PIp X .Add (ipI fun i j=>i+j):=by intro pins s σ H x y v u Q I r1 r2 h;obtain ⟨i,j,e1,e2,q⟩:=h;subst e1; subst e2;obtain ⟨t,rfl⟩:=r1;obtain ⟨t',rfl⟩:=r2;exact iadd_int ⟨.int _,H,I.tok _,⟨_,rfl⟩,q⟩
theorem ip_sub:PIp X .Sub (ipI fun i j=>i-j):=by intro pins s σ H x y v u Q I r1 r2 h;obtain ⟨i,j,e1,e2,q⟩:=h;subst e1; subst e2;obtain ⟨t,rfl⟩:=r1;obtain ⟨t',rfl⟩:=r2;exact isub_int ⟨.int _,H,I.tok _,⟨_,rfl⟩,q⟩
variable {body:List Stmt}
def tWhile (c:TT) (tb:TS):TS:=fun D σ H=>∃W:Nat→St→Hp→Prop,(∃m,W m σ H)∧∀m σ H,W m σ H →
 c σ H fun b H1=>if b=true then ∃N:St→Hp→Prop,(∀σ' H',N σ' H'→∃m',m'<m∧W m' σ' H')∧tb { D with nx:=N,ct:=N,bk:=D.nx } σ H1 else D.nx σ H1
theorem ps_while {tc:TT} {tb:TS} (hp:PassesOwn (model X.prog X.w) X.A X.env X.xe) (hc:PT X c tc) (hb:PSs X body tb):PS X (.While c body [] pos) (tWhile tc tb):=by
 intro pins s σ H D I h;obtain ⟨W,⟨m0,w0⟩,turn⟩:=h;refine wpAny_While (codeAny_whileLoop (fun n s'=>∃σ' H',Inv X pins σ' H' s'∧W n σ' H') ?_ m0 ⟨σ,H,I,w0⟩);rintro n s1 ⟨σ1,H1,I1,w1⟩;refine wpAny_passesOwn hp (thn (hc pins s1 σ1 H1 _ I1 (turn n σ1 H1 w1)) fun b s2 hq9=>?_);obtain ⟨H2,I2,q2⟩:=hq9;cases b with
 | true =>
  obtain ⟨N,hN,q2⟩:=q2;rw [if_pos rfl];refine wpAny_passesOwn hp (thn (hb pins s2 σ1 H2 _ I2 q2) fun f s3 q3=>?_);cases f with
  | next =>obtain ⟨σ3,H3,I3,n3⟩:=q3;obtain ⟨m',hm,w3⟩:=hN σ3 H3 n3;exact ⟨m',hm,σ3,H3,I3,w3⟩
  | cont =>obtain ⟨σ3,H3,I3,n3⟩:=q3;obtain ⟨m',hm,w3⟩:=hN σ3 H3 n3;exact ⟨m',hm,σ3,H3,I3,w3⟩
  | brk=>exact q3
  | ret v=>exact q3
 | false =>rw [if_neg Bool.false_ne_true];exact wpAny_execs_nil ⟨σ1,H2,I2,q2⟩
structure It where
 go:Nat→Hp→Prop
 yld:Nat→Hp→V→Hp→Prop
 stop:Nat→Hp→Prop
def FpOk (X:Cx) (pins:List (Addr×Obj)) (H:Hp) (b:Addr):Prop :=
 H b=none∧b≠X.env.locals∧b∉X.fs∧(b∈X.ex∨X.s₀.heap.objs.size≤b)∧(∀x c,X.env.cells.lookup x=some c→c≠b)∧∀p∈X.pn++pins,p.1≠b
theorem Inv.fpOk (I:Inv X pins σ H s) (hb:s.heap.objs.size≤b) (hn:H' b=none):FpOk X pins H' b:=by
 refine ⟨hn,Nat.ne_of_gt (Nat.lt_of_lt_of_le I.lt hb),I.nofs hb,.inr (Nat.le_trans I.sz hb),fun x c e z=>?_,fun p hp z=>?_⟩
 ·obtain ⟨v,q⟩:=I.cell x c e;exact absurd (Nat.lt_of_lt_of_le q.lt (by rw [z]; exact hb)) (Nat.lt_irrefl _)
 ·exact absurd (Nat.lt_of_lt_of_le (Heap.lt_size (I.pin p hp).1) (by rw [z]; exact hb)) (Nat.lt_irrefl _)
structure TurnC (P:Program) (w:World) (K:PySem.W.Frag) (tg:Expr) (J:It) (fp:List Addr) (it:Addr) (tn:Nat→Heap→Prop) (Cs:Cx→Prop):Prop where
 mem:it∈fp
 obj:∀i h,tn i h→∀b∈fp,∃o,h.get? b=some o∧∀v,o.data≠.cell v
 keep:∀i h h',tn i h→(∀b∈fp,∀o,h.get? b=some o→h'.get? b=some o)→tn i h'
 item:∀(X:Cx),X.prog=P→X.w=w→X.K=K→Cs X→∀(i:Nat) (pins:List (Addr×Obj)) (s:Shared) (σ:St) (H:Hp) (E:Value→Shared→Prop),Inv X pins σ H s→(∀b∈fp,FpOk X pins H b)→tn i s.heap→J.go i H →
  wpAny (model P w) X.A (pyNext (.ref it)) (fun r s1=>∃u,r=some u ∧
   wpAny (model P w) X.A (letOwnedTupleGo tg (.ref it) u) (fun _ s2=>∃x H',Inv X pins σ H' s2∧RelV x u∧J.yld i H x H'∧tn (i+1) s2.heap∧∀b∈fp,H' b=none) E s1) E s
 done:∀(X:Cx),X.prog=P→X.w=w→X.K=K→Cs X→∀(i:Nat) (pins:List (Addr×Obj)) (s:Shared) (σ:St) (H:Hp) (E:Value→Shared→Prop),Inv X pins σ H s→(∀b∈fp,FpOk X pins H b)→tn i s.heap→J.stop i H →
  wpAny (model P w) X.A (pyNext (.ref it)) (fun r s1=>r=none∧Inv X pins σ H s1) E s
 self:∀(A:Around) (i:Nat) (s:Shared) (Q:Value→Shared→Prop) (E:Value→Shared→Prop),tn i s.heap→Q (.ref it) s→wpAny (model P w) A (pyIter (.ref it)) Q E s
abbrev Turn (P:Program) (w:World) (K:PySem.W.Frag) (tg:Expr) (J:It) (fp:List Addr) (it:Addr) (tn:Nat→Heap→Prop):Prop:=TurnC P w K tg J fp it tn fun X=>X.calm=true
abbrev TI:=St→Hp→(It→Hp→Prop)→Prop
def TurnOk (X:Cx) (c:Prop) (tg:Expr) (J:It) (fp:List Addr) (it:Addr) (tn:Nat→Heap→Prop):Prop:=∃Cs,TurnC X.prog X.w X.K tg J fp it tn Cs∧(c→∀Y:Cx,Y.A=X.A→Y.calm=X.calm→Cs Y)
variable {fp:List Addr}
theorem Turn.ok {J:It} {tn:Nat→Heap→Prop} (T:Turn X.prog X.w X.K tg J fp it tn):TurnOk X (X.calm=true) tg J fp it tn:=⟨_,T,fun hc _ _ e=>e.trans hc⟩
def PIEc (X:Cx) (c:Prop) (pins:List (Addr×Obj)) (σ:St) (tg:Expr) (R:It→Hp→Prop) (itv:Value) (s2:Shared):Prop :=
 ∃(it:Addr) (fp:List Addr) (tn:Nat→Heap→Prop) (J:It) (H':Hp),itv=.ref it∧Inv X pins σ H' s2∧TurnOk X c tg J fp it tn∧tn 0 s2.heap∧(∀b∈fp,FpOk X pins H' b)∧R J H'
abbrev PIE (X:Cx):=PIEc X (X.calm=true)
def PIc (X:Cx) (c:Prop) (tg iter:Expr) (wi:TI):Prop :=
 ∀(pins:List (Addr×Obj)) (s:Shared) (σ:St) (H:Hp) (R:It→Hp→Prop),Inv X pins σ H s→wi σ H R →
  wpAny (model X.prog X.w) X.A (eval iter X.env) (fun v s1=>wpAny (model X.prog X.w) X.A (pyIter v) (PIEc X c pins σ tg R) X.xe s1) X.xe s
abbrev PI (X:Cx):=PIc X (X.calm=true)
theorem go_of {A:Around} {n:String} {vs:Array Value} {Q:Unit→Shared→Prop} (ho:s.heap.get? it=some o) (hc:o.cls=.type n) (hd:o.data=.fields vs)
    (hn:["enumerate","zip","dict_itemiterator","dict_reverseitemiterator","odict_iterator","itertools.zip_longest","itertools.pairwise"].contains n=false) (hQ:Q () s):wpAny M A (letOwnedTupleGo tg (.ref it) u) Q E s:=by
  unfold letOwnedTupleGo;cases tg <;> first
    | exact wpAny_pure hQ
    | (cases u <;> first
        | exact wpAny_pure hQ
        | (refine wpAny_bind (wpAny_load ho ?_)
           rw [hc,hd];show wpAny M A (if (["enumerate","zip","dict_itemiterator","dict_reverseitemiterator","odict_iterator","itertools.zip_longest","itertools.pairwise"].contains n && vs[0]? == some (rawInt _))=true then _ else _) Q E s;rw [if_neg (by intro h; rw [hn,Bool.false_and] at h; cases h)];exact wpAny_pure hQ))
def Itl (K:PySem.W.Frag) (a:Addr):It :=
 ⟨fun i H=>∃xs x,SqL K H a xs∧xs[i]?=some x,fun i H x H'=>H'=H∧∀xs,SqL K H a xs→xs[i]?=some x,fun i H=>∃xs,SqL K H a xs∧xs.length≤i⟩
def Itt (K:PySem.W.Frag) (a:Addr):It :=
 ⟨fun i H=>∃xs x,SqT K H a xs∧xs[i]?=some x,fun i H x H'=>H'=H∧∀xs,SqT K H a xs→xs[i]?=some x,fun i H=>∃xs,SqT K H a xs∧xs.length≤i⟩
def Itr (lo:Int) (n:Nat):It:=⟨fun i _=>i<n,fun i H x H'=>H'=H∧x=.int (lo+i),fun i _=>n≤i⟩
theorem turn_list {w:World} {K:PySem.W.Frag} (a it:Addr):Turn P w K tg (Itl K a) [it] it (fun i h=>h.IsListIter it a i) where
 mem:=by simp
 obj:=fun i h st b hb=>by
  have e:b=it:=by simpa using hb
  subst e;obtain ⟨o,e,c,d⟩:=st;exact ⟨o,e,fun v z=>by rw [d] at z; cases z⟩
 keep:=fun i h h' st k=>st.at fun o e=>k it (by simp) o e
 item:=by intro X hP hw hK hc i pins s σ H E I hf st hg;subst hP hw hK;obtain ⟨xs,x,hq,hx⟩:=hg;obtain ⟨its,rv,p,hz⟩:=I.list hq;obtain ⟨u,hu,ru⟩:=rv.get hx;obtain ⟨f0,f1,f2,f3,f4,f5⟩:=hf it (by simp);refine wpAny_pyNext_list_item st p.isList (x:=u) (by simpa using hu) fun h' st' sb=>?_;have I1:Inv X pins σ H { s with heap:=h' }:=I.turned (t':=s.toks) (fun b o hb e=>(sb.2 b hb).trans e) f0 f1 f3 f4 f5;obtain ⟨o,e,c,d⟩:=id st';exact ⟨u,rfl,go_of (s:={ s with heap:=h' }) e c d (by decide) ⟨x,H,I1,ru,⟨rfl,fun ys hy=>by rw [I.list_inj hy hq]; exact hx⟩,st',fun b hb=>(hf b hb).1⟩⟩
 done:=by intro X hP hw hK hc i pins s σ H E I hf st hg;subst hP hw hK;obtain ⟨xs,hq,hx⟩:=hg;obtain ⟨its,rv,p,hz⟩:=I.list hq;obtain ⟨f0,f1,f2,f3,f4,f5⟩:=hf it (by simp);have hl:=rv.length;exact wpAny_pyNext_list_end (I.ok.hd hc) st p.isList (by simp; omega) fun h' eb=>⟨rfl,I.turned (t':=s.toks) (fun b o hb e=>eb b o hb e) f0 f1 f3 f4 f5⟩
 self:=fun _ _ _ _ _ st h=>wpAny_pyIter_listiter st h
theorem turn_tuple {w:World} {K:PySem.W.Frag} (a it:Addr):Turn P w K tg (Itt K a) [it] it (fun i h=>h.IsTupleIter it a i) where
 mem:=by simp
 obj:=fun i h st b hb=>by
  have e:b=it:=by simpa using hb
  subst e;obtain ⟨o,e,c,d⟩:=st;exact ⟨o,e,fun v z=>by rw [d] at z; cases z⟩
 keep:=fun i h h' st k=>st.at fun o e=>k it (by simp) o e
 item:=by intro X hP hw hK hc i pins s σ H E I hf st hg;subst hP hw hK;obtain ⟨xs,x,hq,hx⟩:=hg;obtain ⟨its,rv,p,hz⟩:=I.tuple hq;obtain ⟨u,hu,ru⟩:=rv.get hx;obtain ⟨f0,f1,f2,f3,f4,f5⟩:=hf it (by simp);refine wpAny_pyNext_tuple_item st (show s.heap.IsTuple a its.toArray from p) (x:=u) (by simpa using hu) fun h' st' sb=>?_;have I1:Inv X pins σ H { s with heap:=h' }:=I.turned (t':=s.toks) (fun b o hb e=>(sb.2 b hb).trans e) f0 f1 f3 f4 f5;obtain ⟨o,e,c,d⟩:=id st';exact ⟨u,rfl,go_of (s:={ s with heap:=h' }) e c d (by decide) ⟨x,H,I1,ru,⟨rfl,fun ys hy=>by rw [I.tuple_inj hy hq]; exact hx⟩,st',fun b hb=>(hf b hb).1⟩⟩
 done:=by intro X hP hw hK hc i pins s σ H E I hf st hg;subst hP hw hK;obtain ⟨xs,hq,hx⟩:=hg;obtain ⟨its,rv,p,hz⟩:=I.tuple hq;obtain ⟨f0,f1,f2,f3,f4,f5⟩:=hf it (by simp);have hl:=rv.length;exact wpAny_pyNext_tuple_end (I.ok.hd hc) st (show s.heap.IsTuple a its.toArray from p) (by simp; omega) fun h' eb=>⟨rfl,I.turned (t':=s.toks) (fun b o hb e=>eb b o hb e) f0 f1 f3 f4 f5⟩
 self:=fun _ _ _ _ _ st h=>wpAny_pyIter_tupleiter st h
theorem turn_range {w:World} {K:PySem.W.Frag} (it:Addr) (lo:Int) (n:Nat):Turn P w K tg (Itr lo n) [it] it (fun i h=>IsRangeIter h it (lo+(i:Nat) * 1) ((n:Int)-(i:Nat)) 1) where
 mem:=by simp
 obj:=fun i h st b hb=>by
  have e:b=it:=by simpa using hb
  subst e;exact ⟨_,st,fun v z=>by have z':Data.fields _=Data.cell v:=z;cases z'⟩
 keep:=fun i h h' st k=>k it (by simp) _ st
 item:=by intro X hP hw hK hc i pins s σ H E I hf st hg;subst hP hw hK;obtain ⟨f0,f1,f2,f3,f4,f5⟩:=hf it (by simp);have W:=Walks.range (prog:=X.prog) (w:=X.w) (I.ok.hd hc) it lo 1 n;refine W.item i s _ _ hg st fun v h' tk hv st' kk=>?_;obtain ⟨t,rfl⟩:=hv;have I1:Inv X pins σ H { s with heap:=h',toks:=tk }:=I.turned (fun b o hb e=>kk b o (by simpa using hb) e) f0 f1 f3 f4 f5;refine ⟨_,rfl,go_of (s:={ s with heap:=h',toks:=tk }) (n:="range_iterator") st' rfl rfl (by decide) ⟨.int (lo+i),H,I1,⟨t,?_⟩,⟨rfl,rfl⟩,st',fun b hb=>(hf b hb).1⟩⟩;rw [Int.mul_one]
 done:=by intro X hP hw hK hc i pins s σ H E I hf st hg;subst hP hw hK;obtain ⟨f0,f1,f2,f3,f4,f5⟩:=hf it (by simp);exact wpAny_pyNext_range_end (I.ok.hd hc) st (by have:n≤i:=hg; omega) fun h' eb=>⟨rfl,I.turned (t':=s.toks) (fun b o hb e=>eb b o hb e) f0 f1 f3 f4 f5⟩
 self:=fun _ _ _ _ _ st h=>wpAny_pyIter_rangeiter st h
variable {iter l:Expr} {p:Pos} {wi:TI}
def iList (K:PySem.W.Frag) (tl:TE):TI:=fun σ H R=>tl σ H fun x H1=>∃a,x=.ref a∧(∃xs,SqL K H1 a xs)∧R (Itl K a) H1
def iTup (K:PySem.W.Frag) (tl:TE):TI:=fun σ H R=>tl σ H fun x H1=>∃a,x=.ref a∧(∃xs,SqT K H1 a xs)∧R (Itt K a) H1
theorem pi_list {tl:TE} (hl:PE X l tl):PI X tg l (iList X.K tl):=by
 intro pins s σ H R I h;refine thn (hl pins s σ H _ I h) fun v s1 hq9=>?_;obtain ⟨x,H1,I1,r1,q1⟩:=hq9;obtain ⟨a,e,⟨xs,hq⟩,q⟩:=q1;subst e;cases r1;obtain ⟨its,rv,p,hz⟩:=I1.list hq;refine wpAny_pyIter_list p.isList ?_;refine ⟨s1.heap.objs.size,[s1.heap.objs.size],_,_,H1,rfl,I1.kept (t':=s1.toks) fun b o e=>Heap.get?_push_of_some _ e,(turn_list a _).ok,⟨_,Heap.get?_push_size _ rfl,rfl,rfl⟩,fun b hb=>?_,q⟩;have e:b=s1.heap.objs.size:=by simpa using hb
 subst e;exact I1.fpOk (Nat.le_refl _) (I1.hok.fresh (Nat.le_refl _))
theorem pi_tup {tl:TE} (hl:PE X l tl):PI X tg l (iTup X.K tl):=by
 intro pins s σ H R I h;refine thn (hl pins s σ H _ I h) fun v s1 hq9=>?_;obtain ⟨x,H1,I1,r1,q1⟩:=hq9;obtain ⟨a,e,⟨xs,hq⟩,q⟩:=q1;subst e;cases r1;obtain ⟨its,rv,p,hz⟩:=I1.tuple hq;refine wpAny_pyIter_tuple (show s1.heap.IsTuple a its.toArray from p) ?_;refine ⟨s1.heap.objs.size,[s1.heap.objs.size],_,_,H1,rfl,I1.kept (t':=s1.toks) fun b o e=>Heap.get?_push_of_some _ e,(turn_tuple a _).ok,⟨_,Heap.get?_push_size _ rfl,rfl,rfl⟩,fun b hb=>?_,q⟩;have e:b=s1.heap.objs.size:=by simpa using hb
 subst e;exact I1.fpOk (Nat.le_refl _) (I1.hok.fresh (Nat.le_refl _))
theorem range_it {R:It→Hp→Prop} {lo hi:Int} {t u v:Tok} {tk:Nat} (I:Inv X pins σ H s) (h1:-(2 ^ 62)≤lo) (h2:lo<2 ^ 62) (h3:-(2 ^ 62)≤hi) (h4:hi<2 ^ 62)
    (q:R (Itr lo (hi-lo).toNat) H):wpAny (model X.prog X.w) X.A (pyIter (.ref s.heap.objs.size)) (PIE X pins σ tg R) E { s with heap:=s.heap.push { cls:=.type "range",data:=.fields #[.int lo t,.int hi u,.int 1 v] },toks:=tk }:=by
  refine wpAny_pyIter_range (IsRange.new ..) (small_one h1 h2 h3 h4) ?_;have I1:Inv X pins σ H { s with heap:=s.heap.push { cls:=.type "range",data:=.fields #[.int lo t,.int hi u,.int 1 v] },toks:=tk }:=I.kept fun b o e=>Heap.get?_push_of_some _ e;refine ⟨(s.heap.push { cls:=.type "range",data:=.fields #[.int lo t,.int hi u,.int 1 v] }).objs.size,[(s.heap.push { cls:=.type "range",data:=.fields #[.int lo t,.int hi u,.int 1 v] }).objs.size],_,_,H,rfl,
    I1.kept (t':=tk) fun b o e=>Heap.get?_push_of_some _ e,(turn_range _ lo (hi-lo).toNat).ok,?_,fun b hb=>?_,q⟩
  · have e1:lo+((0:Nat):Int) * 1=lo:=by simp
    have e2:(((hi-lo).toNat:Nat):Int)-((0:Nat):Int)=Builtin.Range.rangeSize lo hi 1:=by rw [rangeSize_one]; split <;> omega
    show IsRangeIter _ _ (lo+((0:Nat):Int) * 1) ((((hi-lo).toNat:Nat):Int)-((0:Nat):Int)) 1;rw [e1,e2];exact Heap.get?_push_size _ rfl
  · have e:b=(s.heap.push { cls:=.type "range",data:=.fields #[.int lo t,.int hi u,.int 1 v] }).objs.size:=by simpa using hb
    subst e;exact I1.fpOk (Nat.le_refl _) (I1.hok.fresh (Nat.le_refl _))
def iRng1 (ta:TA):TI:=fun σ H R=>ta σ H fun vs H1=>∃j:Int,vs=[.int j]∧-(2 ^ 62)≤j∧j<2 ^ 62∧R (Itr 0 j.toNat) H1
theorem pi_range1 {a:Expr} {ta:TA} (hg:Gl X "range") (hm:X.mg "range"=none) (ha:PA X [a] ta) (hs:starEach [a] X.env=[(false,eval a X.env)]:=by rfl):PI X tg (.Call (.Name "range" p) [a] [] pos) (iRng1 ta):=by
 intro pins s σ H R I h;refine Call_ (ld_blt I hg hm boot_range (PyProof.Rows.callWith_type1 (thn (ha pos pins s σ H _ I h) fun us s1 ⟨vs,H1,I1,r1,q1⟩=>?_) hs rfl));obtain ⟨j,e,q1,q2,q⟩:=q1;subst e;cases r1 with
 | cons r rr =>cases rr;obtain ⟨t,rfl⟩:=r;exact call_range_1 (range_it I1 (by omega) (by omega) q1 q2 (by simpa using q))
def tFor (wi:TI) (g:TG) (tb:TS):TS:=fun D σ H=>wi σ H fun J H1=>∃W:Nat→Nat→St→Hp→Prop,(∃m,W 0 m σ H1)∧∀i m σ H,W i m σ H →
 (J.stop i H∧D.nx σ H)∨(J.go i H∧∃N:St→Hp→Prop,(∀σ' H',N σ' H'→∃m',m'<m∧W (i+1) m' σ' H')∧∀x H',J.yld i H x H'→g x σ H' fun σ2 H2=>tb { D with nx:=N,ct:=N,bk:=D.nx } σ2 H2)
def pinsAt (fp:List Addr) (h:Heap):List (Addr×Obj):=fp.filterMap fun b=>(h.get? b).map fun o=>(b,o)
theorem mem_pinsAt (hb:b∈fp) (e:h.get? b=some o):(b,o)∈pinsAt fp h:=List.mem_filterMap.mpr ⟨b,hb,by rw [e]; rfl⟩
theorem of_pinsAt {p:Addr×Obj} (hp:p∈pinsAt fp h):p.1∈fp∧h.get? p.1=some p.2:=by
 obtain ⟨b,hb,e⟩:=List.mem_filterMap.mp hp;cases q:h.get? b with
 | none=>rw [q] at e; cases e
 | some o =>rw [q] at e;have e':(b,o)=p:=Option.some.inj e;subst e';exact ⟨hb,q⟩
theorem Inv.pinned (I:Inv X pins σ H s) (hf:∀b∈fp,FpOk X pins H b) (ho:∀b∈fp,∃o,s.heap.get? b=some o∧∀v,o.data≠.cell v):Inv X (pins++pinsAt fp s.heap) σ H s :=
 I.pins_of fun p hp=>(List.mem_append.mp hp).elim (fun z=>I.pin p (List.mem_append_right _ z)) fun z=>by obtain ⟨hb,e⟩:=of_pinsAt z;obtain ⟨f0,f1,f2,_⟩:=hf p.1 hb;obtain ⟨o,e',d⟩:=ho p.1 hb;rw [e] at e'; cases e';exact ⟨e,f0,f1,f2,d⟩
theorem Inv.unpinned {pl:List (Addr×Obj)} (I:Inv X (pins++pl) σ H s):Inv X pins σ H s:=I.pins_of fun p hp=>I.pin p (List.mem_append_right _ (List.mem_append_left _ hp))
theorem ps_for {tb:TS} (hp:PassesOwn (model X.prog X.w) X.A X.env X.xe) (hc:X.calm=true) (hi:PI X tg iter wi) (hg:PG X tg g) (hb:PSs X body tb)
  (hs:∀x,foldedSetIterable iter X.env x=pure x:=by intro _; rfl):PS X (.For tg iter body [] pos) (tFor wi g tb):=by
 intro pins s σ H D I h;refine wpAny_For (thn (hi pins s σ H _ I h) fun v s1 h1=>thn h1 fun itv s2 h2=>?_) hs;obtain ⟨it,fp,tn,J,H2,e,I2,T,st2,f2,W,⟨m0,w0⟩,turn⟩:=h2;obtain ⟨Cs,T,hT⟩:=T;have hc:=hT hc X rfl rfl;subst e;have stat:∀{H':Hp},(∀b∈fp,H' b=none)→∀b∈fp,FpOk X pins H' b:=fun hn b hb=>⟨hn b hb,(f2 b hb).2⟩;refine codeAny_forLoop_any (fun n s'=>∃i σ' H',Inv X pins σ' H' s'∧tn i s'.heap∧(∀b∈fp,H' b=none)∧W i n σ' H') ?_ m0 ⟨0,σ,H2,I2,st2,fun b hb=>(f2 b hb).1,w0⟩;rintro n s3 ⟨i,σ3,H3,I3,st3,fr3,w3⟩;rcases turn i n σ3 H3 w3 with ⟨stop,qn⟩ | ⟨go,N,hN,step⟩
 ·refine wpAny_passesOwn hp (thn (T.done X rfl rfl rfl hc i pins s3 σ3 H3 X.xe I3 (stat fr3) st3 stop) fun r s4 hq9=>?_);obtain ⟨hr,I4⟩:=hq9;subst hr;exact wpAny_execs_nil ⟨σ3,H3,I4,qn⟩
 ·refine wpAny_passesOwn hp (thn (T.item X rfl rfl rfl hc i pins s3 σ3 H3 X.xe I3 (stat fr3) st3 go) fun r s4 hq9=>?_);obtain ⟨u,hr,h4⟩:=hq9;subst hr;refine wpAny_passesOwn hp (thn h4 fun _ s5 hq9=>?_);obtain ⟨x,H5,I5,r5,y5,st5,fr5⟩:=hq9;have I5':=I5.pinned (stat fr5) (T.obj _ _ st5);refine wpAny_passesOwn hp (thn (hg _ s5 σ3 H5 x u _ I5' r5 (step x H5 y5)) fun _ s6 hq9=>?_);obtain ⟨σ6,H6,I6,q6⟩:=hq9;refine wpAny_passesOwn hp (thn (hb _ s6 σ6 H6 _ I6 q6) fun f s7 q7=>?_);have again:∀{σ7:St} {H7:Hp},Inv X (pins++pinsAt fp s5.heap) σ7 H7 s7→N σ7 H7→∃m,m<n∧∃i σ' H',Inv X pins σ' H' s7∧tn i s7.heap∧(∀b∈fp,H' b=none)∧W i m σ' H':=fun {σ7 H7} I7 n7=>by obtain ⟨m',hm,w7⟩:=hN σ7 H7 n7;refine ⟨m',hm,i+1,σ7,H7,I7.unpinned,T.keep _ _ _ st5 fun b hb o e=>(I7.pin (b,o) (List.mem_append_right _ (List.mem_append_right _ (mem_pinsAt hb e)))).1,fun b hb=>?_,w7⟩;obtain ⟨o,e,d⟩:=T.obj _ _ st5 b hb;exact (I7.pin (b,o) (List.mem_append_right _ (List.mem_append_right _ (mem_pinsAt hb e)))).2.1
  cases f with
  | next=>obtain ⟨σ7,H7,I7,n7⟩:=q7; exact again I7 n7
  | cont=>obtain ⟨σ7,H7,I7,n7⟩:=q7; exact again I7 n7
  | brk=>obtain ⟨σ7,H7,I7,q7⟩:=q7; exact ⟨σ7,H7,I7.unpinned,q7⟩
  | ret v=>obtain ⟨x7,σ7,H7,I7,r7,q7⟩:=q7; exact ⟨x7,σ7,H7,I7.unpinned,r7,q7⟩
abbrev R2:=V→V→Hp→VK→Prop
def OpR (X:Cx) (f:Value→Value→Sem Value) (r:R2):Prop :=
 ∀(pins:List (Addr×Obj)) (s:Shared) (σ:St) (H:Hp) (x y:V) (v u:Value) (Q:VK),Inv X pins σ H s→RelV x v→RelV y u→r x y H Q →
  wpAny (model X.prog X.w) X.A (f v u) (EP X pins σ Q) X.xe s
def CallR (X:Cx) (f:Value) (r:List V→Hp→VK→Prop):Prop :=
 ∀(pins:List (Addr×Obj)) (s:Shared) (σ:St) (H:Hp) (xs:List V) (us:List Value) (Q:VK),Inv X pins σ H s→Vals xs us→r xs H Q →
  wpAny (model X.prog X.w) X.A (call f us) (EP X pins σ Q) X.xe s
def tOp (r:R2) (ta tb:TE):TE:=fun σ H Q=>ta σ H fun x H1=>tb σ H1 fun y H2=>r x y H2 Q
def rI (C:Int→Int→Prop) (g:Int→Int→V):R2:=fun x y H Q=>∃i j,x=.int i∧y=.int j∧C i j∧Q (g i j) H
def rI0 (g:Int→Int→V):R2:=fun x y H Q=>∃i j,x=.int i∧y=.int j∧Q (g i j) H
variable {r:R2}
section
variable {a b:Expr} {tb tc:TE}
theorem binT (ha:PE X a ta) (hb:PE X b tb) {R:V→V→Hp→Prop} (I:Inv X pins σ H s)
  (h:ta σ H fun x H1=>tb σ H1 fun y H2=>R x y H2) {f:Value→Value→Sem Value}
  (hf:∀v u s2 x y H2,Inv X pins σ H2 s2→RelV x v→RelV y u→R x y H2→wpAny (model X.prog X.w) X.A (f v u) Q X.xe s2) :
  wpAny (model X.prog X.w) X.A (eval a X.env) (fun v s₁=>wpAny (model X.prog X.w) X.A (eval b X.env) (fun u s₂=>wpAny (model X.prog X.w) X.A (f v u) Q X.xe s₂) X.xe s₁) X.xe s:=by
 refine thn (ha pins s σ H _ I h) fun v s1 hq9=>?_;obtain ⟨x,H1,I1,r1,q1⟩:=hq9;refine thn (hb pins s1 σ H1 _ I1 q1) fun u s2 hq9=>?_;obtain ⟨y,H2,I2,r2,q2⟩:=hq9;exact hf v u s2 x y H2 I2 r1 r2 q2
theorem pe_op {op:Operator} (ho:OpR X (binaryOp op) r) (ha:PE X a ta) (hb:PE X b tb):PE X (.BinOp a op b pos) (tOp r ta tb):=by intro pins s σ H Q I h;exact wpAny_BinOp (binT ha hb I h fun v u s2 x y H2 I2 rx ry q=>ho pins s2 σ H2 x y v u Q I2 rx ry q)
theorem opI {f:Value→Value→Sem Value} {C:Int→Int→Prop} {g:Int→Int→Int}
  (rule:∀(i j:Int) (t u:Tok) (s:Shared) (Q:Value→Shared→Prop) (E:Value→Shared→Prop),C i j→Q (.int (g i j) s.toks) { s with toks:=s.toks+1 }→wpAny (model X.prog X.w) X.A (f (.int i t) (.int j u)) Q E s) :
  OpR X f (rI C fun i j=>.int (g i j)):=by
 intro pins s σ H x y v u Q I rx ry h;obtain ⟨i,j,rfl,rfl,hc,q⟩:=h;obtain ⟨t,rfl⟩:=rx;obtain ⟨t',rfl⟩:=ry;exact rule i j t t' s _ _ hc ⟨.int (g i j),H,I.tok _,⟨_,rfl⟩,q⟩
theorem opI0 {f:Value→Value→Sem Value} {g:Int→Int→Int}
  (rule:∀(i j:Int) (t u:Tok) (s:Shared) (Q:Value→Shared→Prop) (E:Value→Shared→Prop),Q (.int (g i j) s.toks) { s with toks:=s.toks+1 }→wpAny (model X.prog X.w) X.A (f (.int i t) (.int j u)) Q E s) :
  OpR X f (rI0 fun i j=>.int (g i j)):=by
 intro pins s σ H x y v u Q I rx ry h;obtain ⟨i,j,rfl,rfl,q⟩:=h;obtain ⟨t,rfl⟩:=rx;obtain ⟨t',rfl⟩:=ry;exact rule i j t t' s _ _ ⟨.int (g i j),H,I.tok _,⟨_,rfl⟩,q⟩
theorem opB0 {f:Value→Value→Sem Value} {g:Int→Int→Bool}
  (rule:∀(i j:Int) (t u:Tok) (s:Shared) (Q:Value→Shared→Prop) (E:Value→Shared→Prop),Q (.bool (g i j)) s→wpAny (model X.prog X.w) X.A (f (.int i t) (.int j u)) Q E s) :
  OpR X f (rI0 fun i j=>.bl (g i j)):=by
 intro pins s σ H x y v u Q I rx ry h;obtain ⟨i,j,rfl,rfl,q⟩:=h;obtain ⟨t,rfl⟩:=rx;obtain ⟨t',rfl⟩:=ry;exact rule i j t t' s _ _ ⟨.bl (g i j),H,I,rfl,q⟩
def CPow (i j:Int):Prop:=0≤j∧j≤1000000∧i.natAbs<2 ^ 64
def CMul (i j:Int):Prop:=(-(2 ^ 64)<i∧i<2 ^ 64)∨(-(2 ^ 64)<j∧j<2 ^ 64)
theorem CMul.ok {i j:Int} (h:CMul i j):IntMulOk i j:=by
 rcases h with ⟨h1,h2⟩ | ⟨h1,h2⟩
 ·exact .of_left (intBits_le_64 h1 h2)
 ·exact .of_right (intBits_le_64 h1 h2)
theorem two_pow_nn (k:Nat):(0:Int)≤2 ^ k:=by rw [two_pow_cast];exact Int.natCast_nonneg _
theorem op_add:OpR X (binaryOp .Add) (rI0 fun i j=>.int (i+j)):=opI0 fun _ _ _ _ _ _ _ q=>add_int q
theorem op_sub:OpR X (binaryOp .Sub) (rI0 fun i j=>.int (i-j)):=opI0 fun _ _ _ _ _ _ _ q=>sub_int q
theorem op_modN:OpR X (binaryOp .Mod) (rI (fun _ j=>j≠0) fun i j=>.int (i.fmod j)):=opI fun _ _ _ _ _ _ _ hc q=>mod_int' hc q
theorem op_pow:OpR X (binaryOp .Pow) (rI CPow fun i j=>.int (i ^ j.toNat)):=opI fun _ _ _ _ _ _ _ hc q=>pow_int_small hc.1 hc.2.1 hc.2.2 q
theorem op_shl:OpR X (binaryOp .LShift) (rI CPow fun i j=>.int (i * 2 ^ j.toNat)):=opI fun _ _ _ _ _ _ _ hc q=>lshift_int_small hc.1 hc.2.1 hc.2.2 q
theorem op_shr:OpR X (binaryOp .RShift) (rI (fun _ j=>0≤j) fun i j=>.int (i / 2 ^ j.toNat)):=opI fun i j _ _ _ _ _ hc q =>rshift_int hc (by rw [Int.fdiv_eq_ediv_of_nonneg i (two_pow_nn _)]; exact q)
end
section
variable {a b:Expr} {tb tc:TE}
theorem fin_bl {Q:VK} {k k':Bool} (I:Inv X pins σ H s) (q:Q (.bl k) H) (e:k=k'):EP X pins σ Q (.bool k') s:=by subst e;exact ⟨.bl k,H,I,rfl,q⟩
theorem op_lt:OpR X (compareOp .Lt) (rI0 fun i j=>.bl (decide (i<j))):=opB0 fun _ _ _ _ _ _ _ q=>lt_int q
theorem op_le:OpR X (compareOp .LtE) (rI0 fun i j=>.bl (decide (i≤j))):=opB0 fun _ _ _ _ _ _ _ q=>le_int q
theorem op_gt:OpR X (compareOp .Gt) (rI0 fun i j=>.bl (decide (j<i))):=opB0 fun _ _ _ _ _ _ _ q=>gt_int q
theorem op_ge:OpR X (compareOp .GtE) (rI0 fun i j=>.bl (decide (j≤i))):=opB0 fun _ _ _ _ _ _ _ q=>ge_int q
theorem op_isN:OpR X (compareOp .Is) (fun x y H Q=>y=.non∧Q (.bl (decide (x=.non))) H):=by
 intro pins s σ H x y v u Q I rx ry h;obtain ⟨rfl,q⟩:=h;cases ry;refine is_none_gen (fin_bl I q ?_);cases x <;> first
  | (cases rx; rfl)
  | (obtain ⟨t,rfl⟩:=rx; rfl)
theorem op_notN:OpR X (compareOp .IsNot) (fun x y H Q=>y=.non∧Q (.bl (!decide (x=.non))) H):=by
 intro pins s σ H x y v u Q I rx ry h;obtain ⟨rfl,q⟩:=h;cases ry;refine isnot_none_gen (fin_bl I q ?_);cases x <;> first
  | (cases rx; rfl)
  | (obtain ⟨t,rfl⟩:=rx; rfl)
theorem OpR.or {f:Value→Value→Sem Value} {r':R2} (h:OpR X f r) (h':OpR X f r'):OpR X f (fun x y H Q=>r x y H Q∨r' x y H Q):=by
 intro pins s σ H x y v u Q I rx ry q;rcases q with q | q
 ·exact h pins s σ H x y v u Q I rx ry q
 ·exact h' pins s σ H x y v u Q I rx ry q
theorem nomark (b:Expr) (h:op≠.In:=by decide) (h2:op≠.NotIn:=by decide):behindInMarks op b=false:=by
 have e1:(op == CmpOp.In)=false:=by cases op <;> first | rfl | exact absurd rfl h
 have e2:(op == CmpOp.NotIn)=false:=by cases op <;> first | rfl | exact absurd rfl h2
 cases b <;> simp [behindInMarks,e1,e2]
theorem pe_cmpR (ho:OpR X (compareOp op) r) (ha:PE X a ta) (hb:PE X b tb) (hm:behindInMarks op b=false):PE X (.Compare a [op] [b] pos) (tOp r ta tb):=by intro pins s σ H Q I h;exact wpAny_Compare1 (binT ha hb I h fun v u s2 x y H2 I2 rx ry q=>ho pins s2 σ H2 x y v u Q I2 rx ry q) hm
def tTest (t:TE):TT:=fun σ H Q=>t σ H fun x H'=>∃k,x=.bl k∧Q k H'
theorem pt_cmpR (ho:OpR X (compareOp op) r) (ha:PE X a ta) (hb:PE X b tb) (hm:behindInMarks op b=false):PT X (.Compare a [op] [b] pos) (tTest (tOp r ta tb)):=by intro pins s σ H Q I h;refine wpAny_isTrue_Compare1 (thn (ha pins s σ H _ I h) fun v s1 ⟨x,H1,I1,r1,q1⟩=>thn (hb pins s1 σ H1 _ I1 q1) fun u s2 ⟨y,H2,I2,r2,q2⟩ =>thn (ho pins s2 σ H2 x y v u _ I2 r1 r2 q2) fun c s3 ⟨z,H3,I3,r3,k,e,q3⟩=>?_) hm;subst e;cases r3;exact wpAny_truthy_bool ⟨H3,I3,q3⟩
theorem line63:(sizeLine:Nat)<2 ^ 63:=by rw [sizeLine_eq]; decide
theorem op_add_str:OpR X (binaryOp .Add) (fun x y H Q=>∃i j,x=.str i∧y=.str j∧i.length+j.length≤sizeLine∧Q (.str (i++j)) H):=by intro pins s σ H x y v u Q I rx ry h;obtain ⟨i,j,rfl,rfl,hz,q⟩:=h;obtain ⟨t,rfl⟩:=rx;obtain ⟨t',rfl⟩:=ry;exact add_str (fun t' tk=>⟨.str (i++j),H,I.tok _,⟨_,rfl⟩,q⟩) hz
theorem vals1 {x:V} (r:Vals [x] us):∃u,us=[u]∧RelV x u:=by
 cases r with
 | cons r1 r2=>cases r2; exact ⟨_,rfl,r1⟩
theorem vals2 {x:V} (r:Vals [x,y] us):∃u w',us=[u,w']∧RelV x u∧RelV y w':=by
 cases r with
 | cons r1 r2 =>
  cases r2 with
  | cons r3 r4=>cases r4; exact ⟨_,_,rfl,r1,r3⟩
theorem call_max2 (hc:X.calm=true):CallR X (.builtin "max") (fun xs H Q=>∃i j,xs=[.int i,.int j]∧Q (.int (if j > i then j else i)) H):=by
 intro pins s σ H xs us Q I r h;obtain ⟨i,j,rfl,q⟩:=h;obtain ⟨u,w',rfl,⟨t,rfl⟩,⟨t',rfl⟩⟩:=vals2 r;refine max_two_ints (I.ok.hd hc) fun h' tk k=>⟨_,H,I.kept k,?_,q⟩;by_cases hj:j > i
 ·rw [if_pos hj,if_pos hj]; exact ⟨_,rfl⟩
 ·rw [if_neg hj,if_neg hj]; exact ⟨_,rfl⟩
theorem call_min2 (hc:X.calm=true):CallR X (.builtin "min") (fun xs H Q=>∃i j,xs=[.int i,.int j]∧Q (.int (if j<i then j else i)) H):=by
 intro pins s σ H xs us Q I r h;obtain ⟨i,j,rfl,q⟩:=h;obtain ⟨u,w',rfl,⟨t,rfl⟩,⟨t',rfl⟩⟩:=vals2 r;refine min_two_ints (I.ok.hd hc) fun h' tk k=>⟨_,H,I.kept k,?_,q⟩;by_cases hj:j<i
 ·rw [if_pos hj,if_pos hj]; exact ⟨_,rfl⟩
 ·rw [if_neg hj,if_neg hj]; exact ⟨_,rfl⟩
theorem call_int1:CallR X (.type "int") (fun xs H Q=>(∃i,xs=[.int i]∧Q (.int i) H)∨∃k,xs=[.bl k]∧Q (.int (if k then 1 else 0)) H):=by
 intro pins s σ H xs us Q I r h;rcases h with ⟨i,rfl,q⟩ | ⟨k,rfl,q⟩
 ·obtain ⟨u,rfl,t,rfl⟩:=vals1 r;exact call_int_int ⟨.int i,H,I,⟨_,rfl⟩,q⟩
 ·obtain ⟨u,rfl,r1⟩:=vals1 r;cases r1;exact call_int_bool ⟨.int (if k then 1 else 0),H,I.tok _,⟨_,rfl⟩,q⟩
end
structure ObjM (h:Heap) (x dx C:Addr) (mA:Str→Option Value):Prop where
 obj:h.get? x=some (PySem.W.instObj C dx)
 ns:h.Ns1 dx mA
 ne:dx≠x
variable {dx:Addr} {mA:Str→Option Value}
theorem lookIn_ns (n:h.Ns1 dx mA):∃od,h.get? dx=some od∧∀name,PySem.W.lookIn name od=some (mA name):=by
 obtain ⟨o,es,ep,ho,hd,hk,_,hm⟩:=n;refine ⟨o,ho,fun name=>?_⟩;have e:=hm name;unfold nsFind findBy at e;rw [← Array.find?_toList] at e;unfold PySem.W.lookIn;rw [hd];dsimp only;split
 ·rename_i y q;rw [q] at e;exact congrArg some e
 ·rename_i q;rw [q] at e;have a:es.toList.any (·.refKey)=false:=by rw [List.any_eq_false];intro y hy;obtain ⟨z,t,hkey⟩:=hk y (Array.mem_toList_iff.mp hy);simp [DictEntry.refKey,hkey]
  have a':¬es.toList.any (·.refKey)=true:=by rw [a]; exact Bool.false_ne_true
  rw [if_neg a'];exact congrArg some e
variable {C:Addr}
theorem ObjM.look {x:Addr} (I:ObjM h x dx C mA):∃od,PySem.W.InstAt h x (PySem.W.instObj C dx) C (some od)∧∀name,PySem.W.lookIn name od=some (mA name) :=
 let ⟨od,ho,hl⟩:=lookIn_ns I.ns
 ⟨od,⟨I.obj,rfl,rfl,ho⟩,hl⟩
variable {R:Result→Shared→Prop} {f:Addr} {kw:List (Str×Value)} {name:Str}
section
variable {prog:Program} {w:World} {A:Around} {K:PySem.W.Frag} {x:Addr} {v:Value}
theorem get_map {expr:Bool} (X:K.In s.heap) (I:ObjM s.heap x dx C mA) (hg:PySem.W.plainGet K C name=true) (hh:PySem.W.hasDictIn K C=true)
  (ha:PySem.W.findIn K (.ref C) name=some none) (hv:mA name=some v) (hv':PySem.W.handedIn v=true) (h:Q v { s with toks:=s.toks+1 }) :
  wpAny (model prog w) A (getAttr (.ref x) name expr) Q E s:=by
 obtain ⟨od,J,hl⟩:=I.look;exact PySem.W.get_value X J (PySem.W.plainGet_of hg).1 (PySem.W.findObj_own hh ha rfl (by rw [hl,hv])) hv' h
theorem get_meth {pl:Sem Bool} {Q:Value×List Value→Shared→Prop} (X:K.In s.heap) (I:ObjM s.heap x dx C mA) (hg:PySem.W.plainGet K C name=true)
  (hf:PySem.W.findIn K (.ref C) name=some (some (.ref f))) (ht:PySem.W.isFn K (.ref f)=true) (hv:mA name=none) (h:Q (.ref f,[.ref x]) s) :
  wpAny (model prog w) A (getMethod (.ref x) name pl) Q E s:=by
 obtain ⟨od,J,hl⟩:=I.look;exact PySem.W.method_fn X J (PySem.W.plainGet_of hg).1 (PySem.W.plainGet_of hg).2 hf (beq_iff_eq.mp ht) (by show (PySem.W.lookIn name od).map (·.isSome)=some false; rw [hl,hv]; rfl) h
theorem set_map {ns:List Str} {Q:Unit→Shared→Prop} (X:K.In s.heap) (I:ObjM s.heap x dx C mA)
  (hs:PySem.W.findIn K (.ref C) "__setattr__"=some (some (.builtin "object.__setattr__"))) (hp:PySem.W.plainOver K C=true) (ht:PySem.W.takerIn K C name=some none) (hh:PySem.W.hasDictIn K C=true)
  (hw:PySem.Within mA ns) (hsz:ns.length≤sizeLine)
  (h:∀h',ObjM h' x dx C (fun y=>if y=name then some v else mA y)→Heap.SameBut dx s.heap h'→Q () { s with heap:=h',toks:=s.toks+2 }) :
  wpAny (model prog w) A (setAttr (.ref x) name v) Q E s:=by
 obtain ⟨od,J,hl⟩:=I.look;refine PySem.W.set_plain X J hs (PySem.W.osa_open (s:={ s with toks:=s.toks+1 }) (r:=none) X J hp ht fun b=>?_);obtain ⟨cd,hc,hd'⟩:=PySem.W.any_some hh;have hx:s.heap.get? x=some ⟨.ref C,some dx,.plain,#[]⟩:=I.obj;refine wpAny_bind (wpAny_pure (wpAny_bind (wpAny_bind (wpAny_loadPart hx (wpAny_bind (PySem.W.Looks.here (s:={ s with toks:=s.toks+1 }) (PySem.W.looks_clsIn X hc) ?_))))));rw [hd'];refine wpAny_pure (a:=some dx) (wpAny_bind (wpAny_pure (wpAny_bind ?_)));refine wpAny_nsSet1 (s:={ s with toks:=s.toks+1 }) I.ns fun h' hn2 hs2=>?_;obtain ⟨oD,esD,epD,hoD,hdD,hcD⟩:=hn2.count (PySem.Within.cons name v hw);refine wpAny_bind (wpAny_lookBehind hoD (by rw [hdD]; exact pastItsLine_dict (Nat.le_trans hcD (by rw [List.length_cons]; omega))) ?_);exact wpAny_pure (h _ ⟨(hs2.2 _ (Ne.symm I.ne)).trans I.obj,hn2,I.ne⟩ hs2)
theorem make_map {vs:List Value} (X:K.In s.heap) (hm:PySem.W.makesIn K C=true)
  (hi:PySem.W.findIn K (.ref C) "__init__"=some (some (.ref f))) (hf:PySem.W.typeIn K (.ref f)=some (.type "function"))
  (h:codeAny (model prog w) (A.under (.builtin "type.__call__" ⟨.ref C::vs,kw⟩)) (.call (.ref f) ⟨.ref (s.heap.objs.size+1)::vs,kw⟩) (PySem.W.InitBack (s.heap.objs.size+1) R)
   { s with heap:=(s.heap.push PySem.W.emptyDict).push (PySem.W.instObj C s.heap.objs.size) }) :
  codeAny (model prog w) A (.call (.ref C) ⟨vs,kw⟩) R s:=by
 obtain ⟨hh,g,d,t,os⟩:=s;exact PySem.W.make_core (PySem.W.makes_of X hm) (PySem.W.looks_findIn X hi) (fun self=>PySem.W.bind_fn X self hf) (.inl rfl) h
end
def putF (f:Str) (v:V):List (Str×V)→List (Str×V)
 | []=>[(f,v)]
 | (g,x)::r=>if g=f then (g,v)::r else (g,x)::putF f v r
theorem lookup_putF (f g:Str) (v:V):∀fs:List (Str×V),(putF f v fs).lookup g=if g=f then some v else fs.lookup g
 | []=>by
  show List.lookup g [(f,v)]=_;by_cases h:g=f
  ·have hb:(g == f)=true:=beq_iff_eq.mpr h;simp only [List.lookup,hb,if_pos h]
  ·have hb:(g == f)=false:=beq_eq_false_iff_ne.mpr h;simp only [List.lookup,hb,if_neg h]
 | (k,x)::r=>by
  have ih:=lookup_putF f g v r;rw [show putF f v ((k,x)::r)=(if k=f then (k,v)::r else (k,x)::putF f v r) from rfl];by_cases hk:k=f
  ·rw [if_pos hk];by_cases h:g=k
   ·have hb:(g == k)=true:=beq_iff_eq.mpr h;simp only [List.lookup,hb,if_pos (h.trans hk)]
   ·have hb:(g == k)=false:=beq_eq_false_iff_ne.mpr h;simp only [List.lookup,hb,if_neg (fun e:g=f=>h (e.trans hk.symm))]
  ·rw [if_neg hk];by_cases h:g=k
   ·have hb:(g == k)=true:=beq_iff_eq.mpr h;simp only [List.lookup,hb,if_neg (fun e:g=f=>hk (h.symm.trans e))]
   ·have hb:(g == k)=false:=beq_eq_false_iff_ne.mpr h;simp only [List.lookup,hb];exact ih
theorem keys_putF (f:Str) (v:V):∀fs:List (Str×V),f∈(putF f v fs).map (·.1)∧∀g,g∈fs.map (·.1)→g∈(putF f v fs).map (·.1)
 | []=>⟨by simp [putF],fun g h=>by simp at h⟩
 | (k,x)::r=>by
  obtain ⟨i1,i2⟩:=keys_putF f v r;rw [show putF f v ((k,x)::r)=(if k=f then (k,v)::r else (k,x)::putF f v r) from rfl];by_cases hk:k=f
  ·rw [if_pos hk];subst hk;exact ⟨by simp,fun g h=>by simpa using h⟩
  ·rw [if_neg hk];refine ⟨?_,fun g h=>?_⟩
   ·rw [List.map_cons];exact List.mem_cons_of_mem _ i1
   ·rw [List.map_cons] at h ⊢;rcases List.mem_cons.mp h with e | e
    ·exact List.mem_cons.mpr (.inl e)
    ·exact List.mem_cons_of_mem _ (i2 g e)
theorem length_putF (f:Str) (v:V):∀fs:List (Str×V),(putF f v fs).length≤fs.length+1
 | []=>by simp [putF]
 | (k,x)::r=>by
  have ih:=length_putF f v r;rw [show putF f v ((k,x)::r)=(if k=f then (k,v)::r else (k,x)::putF f v r) from rfl];by_cases hk:k=f
  ·rw [if_pos hk,List.length_cons,List.length_cons]; omega
  ·rw [if_neg hk,List.length_cons,List.length_cons]; omega
theorem RelO.some_of {o:Option Value} (r:RelO (some v) o):∃u,o=some u∧RelV v u:=by
 cases o with
 | none=>exact (show False from r).elim
 | some u=>exact ⟨u,rfl,r⟩
theorem RelO.none_of {o:Option Value} (r:RelO none o):o=none:=by
 cases o with
 | none=>rfl
 | some u=>exact (show False from r).elim
theorem handed_of (r:RelV v u):PySem.W.handedIn u=true:=by
 cases v with
 | non=>cases (show u=Value.none from r); rfl
 | bl b=>cases (show u=Value.bool b from r); rfl
 | int i=>obtain ⟨t,e⟩:=(show ∃t,u=Value.int i t from r); cases e; rfl
 | str x=>obtain ⟨t,e⟩:=(show ∃t,u=Value.str x t from r); cases e; rfl
 | byt b=>obtain ⟨t,e⟩:=(show ∃t,u=Value.bytes b t from r); cases e; rfl
 | flt b=>obtain ⟨t,e⟩:=(show ∃t,u=Value.float b t from r); cases e; rfl
 | ref a=>cases (show u=Value.ref a from r); rfl
 | ty n=>cases (show u=Value.type n from r); rfl
section
variable {w:World} {fs fs':List (Str×V)}
theorem ins_get (hok:HOk P w H h) (e:H a=some (.ins C dx fs)):∃mA,ObjM h a dx C mA∧(∀f,RelO (fs.lookup f) (mA f))∧PySem.Within mA (fs.map (·.1))∧fs.length≤1000∧H dx=some (.own a):=by obtain ⟨d,z,ne,ob,mA,n,r,q⟩:=(show ObjOk P w H h a (.ins C dx fs) from hok a _ e);exact ⟨mA,⟨ob,n,ne⟩,r,q,z,d⟩
end
structure Cls (K:PySem.W.Frag) (C:Addr):Prop where
 pg:PySem.W.plainGet K C Str.empty=true
 hd:PySem.W.hasDictIn K C=true
 po:PySem.W.plainOver K C=true
 sa:PySem.W.findIn K (.ref C) "__setattr__"=some (some (.builtin "object.__setattr__"))
theorem Cls.get {K:PySem.W.Frag} (c:Cls K C) (f:Str):PySem.W.plainGet K C f=true:=c.pg
def NoAttr (K:PySem.W.Frag) (C:Addr) (f:Str):Prop:=PySem.W.findIn K (.ref C) f=some none
theorem NoAttr.taker {K:PySem.W.Frag} {f:Str} (n:NoAttr K C f):PySem.W.takerIn K C f=some none:=by unfold PySem.W.takerIn;rw [show PySem.W.findIn K (.ref C) f=some none from n];rfl
structure Meth (K:PySem.W.Frag) (C:Addr) (m:Str) (f:Addr):Prop where
 at_:PySem.W.findIn K (.ref C) m=some (some (.ref f))
 fn:PySem.W.isFn K (.ref f)=true
 kp:PySem.W.keepIn K (.ref f)=true
variable {m:Str}
section
variable {fs:List (Str×V)} {f:Str} {A:Around}
theorem getattr_ok {b:Bool} (I:Inv X pins σ H s) (e:H a=some (.ins C dx fs)) (c:Cls X.K C) (n:NoAttr X.K C f) (l:fs.lookup f=some v)
  (h:∀u s',Inv X pins σ H s'→RelV v u→Q u s'):wpAny (model X.prog X.w) A (getAttr (.ref a) f b) Q E s:=by
 obtain ⟨mA,O,r,_,_,_⟩:=ins_get I.hok e;obtain ⟨u,hu,ru⟩:=RelO.some_of (v:=v) (o:=mA f) (by rw [← l]; exact r f);exact get_map I.kIn O (c.get f) c.hd n hu (handed_of ru) (h u _ (I.tok _) ru)
theorem getmeth_ok {g:Addr} {pl:Sem Bool} {Q:Value×List Value→Shared→Prop} (I:Inv X pins σ H s) (e:H a=some (.ins C dx fs)) (c:Cls X.K C) (k:Meth X.K C m g) (l:fs.lookup m=none)
  (h:Q (.ref g,[.ref a]) s):wpAny (model X.prog X.w) A (getMethod (.ref a) m pl) Q E s:=by
 obtain ⟨mA,O,r,_,_,_⟩:=ins_get I.hok e;have hn:mA m=none:=RelO.none_of (by rw [← l]; exact r m);exact get_meth I.kIn O (c.get m) k.at_ k.fn hn h
theorem setattr_ok {Q:Unit→Shared→Prop} (I:Inv X pins σ H s) (e:H a=some (.ins C dx fs)) (c:Cls X.K C) (n:NoAttr X.K C f) (hl:fs.length<1000) (ry:RelV y u)
  (h:∀s',Inv X pins σ (upd H a (.ins C dx (putF f y fs))) s'→Q () s'):wpAny (model X.prog X.w) A (setAttr (.ref a) f u) Q E s:=by
 obtain ⟨mA,O,r,wi,_,ho⟩:=ins_get I.hok e;have hz:(fs.map (·.1)).length≤sizeLine:=by rw [List.length_map,sizeLine_eq]; omega
 refine set_map I.kIn O c.sa c.po n.taker c.hd wi hz fun h' O' sb=>h _ ?_;have hd:∃o,h'.get? dx=some o:=let ⟨o,_,_,e',_⟩:=O'.ns; ⟨o,e'⟩;refine I.write (x:=a) (e:=dx) (by rw [e]; exact True.intro) (.inr ho) (fun b q hb z=>(sb.2 b hb).trans z) hd ?_;refine ⟨by rw [upd_ne O.ne]; exact ho,?_,O.ne,O'.obj,_,O'.ns,fun g=>?_,fun g hg=>?_⟩
 ·have:=length_putF f y fs; omega
 ·show RelO ((putF f y fs).lookup g) (if g=f then some u else mA g);rw [lookup_putF];by_cases q:g=f
  ·rw [if_pos q,if_pos q]; exact ry
  ·rw [if_neg q,if_neg q]; exact r g
 ·by_cases q:g=f
  ·rw [q]; exact (keys_putF f y fs).1
  ·refine (keys_putF f y fs).2 g (wi g fun z=>hg ?_);show (if g=f then some u else mA g)=none;rw [if_neg q]; exact z
theorem Inv.made (I:Inv X pins σ H s):Inv X pins σ (upd (upd H s.heap.objs.size (.own (s.heap.objs.size+1))) (s.heap.objs.size+1) (.ins C s.heap.objs.size []))
  { s with heap:=(s.heap.push PySem.W.emptyDict).push (PySem.W.instObj C s.heap.objs.size) }:=by
 have e1:(s.heap.push PySem.W.emptyDict).get? s.heap.objs.size=some PySem.W.emptyDict:=Heap.get?_push_size s.heap rfl;have e2:((s.heap.push PySem.W.emptyDict).push (PySem.W.instObj C s.heap.objs.size)).get? (s.heap.objs.size+1)=some (PySem.W.instObj C s.heap.objs.size):=by have:=Heap.get?_push_size (s.heap.push PySem.W.emptyDict) (o:=PySem.W.instObj C s.heap.objs.size) rfl;rwa [Heap.size_push] at this
 have e3:(s.heap.push PySem.W.emptyDict).Ns s.heap.objs.size (fun _=>none):=⟨PySem.W.emptyDict,#[],_,e1,rfl,(fun e he=>absurd he (by simp)),fun _=>rfl⟩;have I1:=I.laid (a:=s.heap.objs.size) (o:=.own (s.heap.objs.size+1)) (h':=s.heap.push PySem.W.emptyDict) (t':=s.toks) (fun b u q=>Heap.get?_push_of_some _ q) (Nat.le_refl _) ⟨_,e1⟩;refine I1.laid (a:=s.heap.objs.size+1) (o:=.ins C s.heap.objs.size []) (t':=s.toks) (fun b u q=>Heap.get?_push_of_some _ q) (Nat.le_of_eq (Heap.size_push _ _)) ?_;have ne:s.heap.objs.size≠s.heap.objs.size+1:=Nat.ne_of_lt (Nat.lt_succ_self _);refine ⟨by rw [upd_ne ne,upd_same],Nat.zero_le _,ne,e2,fun _=>none,(Heap.Ns1.of_empty e3).at fun o q=>Heap.get?_push_of_some _ q,fun _=>True.intro,fun y hy=>absurd rfl hy⟩
theorem attr_of {prog:Program} {w:World} {env:Env} {e:Expr} {f:Str} (hb:attributeBase e f env (eval e env)=eval e env)
  (h:wpAny (model prog w) A (eval e env) (fun o s₁=>wpAny (model prog w) A (getAttr o f true) Q E s₁) E s):wpAny (model prog w) A (eval (.Attribute e f pos) env) Q E s :=
 Attribute_any_ h (by rw [arm_eval_Attribute,hb])
end
def tFld (K:PySem.W.Frag) (ta:TE) (f:Str):TE:=fun σ H Q=>ta σ H fun x H1=>∃a C dx fs v,x=.ref a∧H1 a=some (.ins C dx fs)∧Cls K C∧NoAttr K C f∧fs.lookup f=some v∧Q v H1
def sFld (K:PySem.W.Frag) (ta tv:TE) (f:Str):TS:=fun D σ H=>tv σ H fun y H1=>ta σ H1 fun x H2=>∃a C dx fs,x=.ref a∧H2 a=some (.ins C dx fs)∧Cls K C∧NoAttr K C f∧fs.length<1000 ∧
 D.nx σ (upd H2 a (.ins C dx (putF f y fs)))
variable {apos:Pos} {value:Expr}
section
variable {o e:Expr} {f:Str} {tv:TE}
theorem pe_fld (he:PE X e ta) (hb:attributeBase e f X.env (eval e X.env)=eval e X.env):PE X (.Attribute e f pos) (tFld X.K ta f):=by intro pins s σ H Q I h;refine attr_of hb (thn (he pins s σ H _ I h) fun u s1 hq9=>?_);obtain ⟨x,H1,I1,rx,a,C,dx,fs,v,ex,ea,c,n,l,q⟩:=hq9;subst ex;obtain rfl:u=Value.ref a:=rx;exact getattr_ok I1 ea c n l fun u' s2 I2 ru=>⟨v,H1,I2,ru,q⟩
theorem ps_fld (ha:PE X o ta) (hv:PE X value tv) (hs:swapsWith value (some (.Attribute o f pos')) pos.line X.env=pure false):PS X (.Assign [.Attribute o f pos'] value pos) (sFld X.K ta tv f):=by intro pins s σ H D I h;refine plainObj_wpAny_Assign_Attribute (thn (hv pins s σ H _ I h) fun u s1 ⟨y,H1,I1,ry,q⟩=>thn (ha pins s1 σ H1 _ I1 q) fun ov s2 ⟨x,H2,I2,rx,a,C,dx,fs,ex,ea,c,n,l,q2⟩=>?_) hs;subst ex;obtain rfl:ov=Value.ref a:=rx;exact setattr_ok I2 ea c n l ry fun s3 I3=>⟨σ,_,I3,q2⟩
def rAdd:V→V→Hp→VK→Prop:=fun x y H Q=>∃i j,x=.int i∧y=.int j∧Q (.int (i+j)) H
theorem methcall_of {pl:Sem Bool} {args:List Expr} (he:PE X e te) (I:Inv X pins σ H s)
  (h:te σ H fun x H1=>∃a C dx fs g,x=.ref a∧H1 a=some (.ins C dx fs)∧Cls X.K C∧Meth X.K C m g∧fs.lookup m=none ∧
   ∀s1,Inv X pins σ H1 s1→wpAny (model X.prog X.w) X.A (callWith pos (.ref g) [.ref a] (backTo pos (starEach args X.env)) (backToKw pos (keywordEach [] X.env))) Q X.xe s1)
  (ht:eval (.Call (.Attribute e m apos) args [] pos) X.env=(do
   let ov ← eval e X.env
   standAt apos.atName
   let (f,first) ← holding [ov] (getMethod ov m pl)
   callWith pos f first (backTo pos (starEach args X.env)) (backToKw pos (keywordEach [] X.env)))) :
  wpAny (model X.prog X.w) X.A (eval (.Call (.Attribute e m apos) args [] pos) X.env) Q X.xe s:=by
 refine PySem.W.methodCall_KW (pl:=pl) (thn (he pins s σ H _ I h) fun u s1 ⟨x,H1,I1,rx,a,C,dx,fs,g,ex,ea,c,k,l,q⟩=>?_) ht;subst ex;obtain rfl:u=Value.ref a:=rx;exact getmeth_ok I1 ea c k l (q s1 I1)
end
section
variable {A:Around} {c:Value} {b:Bool}
inductive TyOf (K:PySem.W.Frag) (H:Hp):V→Value→Prop where
 | non:TyOf K H .non (.type "NoneType")
 | bl (x:Bool):TyOf K H (.bl x) (.type "bool")
 | int (i:Int):TyOf K H (.int i) (.type "int")
 | str (x:Str):TyOf K H (.str x) (.type "str")
 | flt (x:UInt64):TyOf K H (.flt x) (.type "float")
 | lst {a:Addr} {xs:List V} (e:H a=some (.lst xs)):TyOf K H (.ref a) (.type "list")
 | frz {a:Addr} {o:Obj} {xs:List V} (e:H a=some (.frz o (.lst xs))):TyOf K H (.ref a) (.type "list")
 | tup {a:Addr} {xs:List V} (e:H a=some (.tup xs)):TyOf K H (.ref a) (.type "tuple")
 | dK {a:Addr} {kvs:List (Key×V)} (e:H a=some (.dK kvs)):TyOf K H (.ref a) (.type "dict")
 | dT {a:Addr} {kvs:List (List Key×V)} (e:H a=some (.dT kvs)):TyOf K H (.ref a) (.type "dict")
 | ins {a C dx:Addr} {fs:List (Str×V)} (e:H a=some (.ins C dx fs)) (cl:Cls K C) (ha:PySem.W.findIn K (.ref C) "__class__"=some (some (.builtin "object.__class__")))
   (hn:PySem.W.specialIn K (.builtin "object.__class__") "__get__"=some (some (.builtin "getset_descriptor.__get__"))) (htk:PySem.W.takesIn K (.builtin "object.__class__")=some true)
   (hm:PySem.W.mroIn K C (.type "object")=some true):TyOf K H (.ref a) (.ref C)
theorem isinst_ok {x:V} {t:Value} (I:Inv X pins σ H s) (rx:RelV x u) (ty:TyOf X.K H x t) (e:PySem.W.kitOne X.K t c=some b) (h:∀tk,Q (.bool b) { s with toks:=tk }) :
  wpAny (model X.prog X.w) A (call (.builtin "isinstance") [u,c]) Q E s:=by
 cases ty with
 | non=>cases (show u=Value.none from rx); exact PySem.W.kia_one PySem.W.kitx_none I.kIn True.intro e (fun z=>nomatch z) h
 | bl y=>cases (show u=Value.bool y from rx); exact PySem.W.kia_one PySem.W.kitx_bool I.kIn True.intro e (fun z=>nomatch z) h
 | int i=>obtain ⟨t,q⟩:=(show ∃t,u=Value.int i t from rx); cases q; exact PySem.W.kia_one PySem.W.kitx_int I.kIn True.intro e (fun z=>nomatch z) h
 | str y=>obtain ⟨t,q⟩:=(show ∃t,u=Value.str y t from rx); cases q; exact PySem.W.kia_one PySem.W.kitx_str I.kIn True.intro e (fun z=>nomatch z) h
 | flt y=>obtain ⟨t,q⟩:=(show ∃t,u=Value.float y t from rx); cases q; exact PySem.W.kia_one PySem.W.kitx_float I.kIn True.intro e (fun z=>nomatch z) h
 | @lst a xs ea =>cases (show u=Value.ref a from rx);obtain ⟨_,_,n,_,h1⟩:=(show ObjOk X.prog X.w H s.heap a (.lst xs) from I.hok a _ ea);exact PySem.W.kia_one PySem.W.kitx_list I.kIn ⟨_,h1,rfl⟩ e (fun z=>nomatch z) h
 | @frz a ob xs ea =>cases (show u=Value.ref a from rx);obtain ⟨_,_,_,n,_,h1⟩:=(show ObjOk X.prog X.w H s.heap a (.frz ob (.lst xs)) from I.hok a _ ea);exact PySem.W.kia_one PySem.W.kitx_list I.kIn ⟨_,h1,rfl⟩ e (fun z=>nomatch z) h
 | @tup a xs ea =>cases (show u=Value.ref a from rx);obtain ⟨_,_,_,p⟩:=(show ObjOk X.prog X.w H s.heap a (.tup xs) from I.hok a _ ea);obtain ⟨o,h1,h2,_⟩:=p;exact PySem.W.kia_one PySem.W.kitx_tuple I.kIn ⟨o,h1,h2⟩ e (fun z=>nomatch z) h
 | @dK a kvs ea =>cases (show u=Value.ref a from rx);obtain ⟨_,_,vs,_,p⟩:=(show ObjOk X.prog X.w H s.heap a (.dK kvs) from I.hok a _ ea);obtain ⟨o,es,ep,h1,h2,_⟩:=p;exact PySem.W.kia_one PySem.W.kitx_dict I.kIn ⟨o,h1,h2.1⟩ e (fun z=>nomatch z) h
 | @dT a kvs ea =>cases (show u=Value.ref a from rx);obtain ⟨_,_,xs,_,o,es,ep,h1,h2,_⟩:=(show ObjOk X.prog X.w H s.heap a (.dT kvs) from I.hok a _ ea);exact PySem.W.kia_one PySem.W.kitx_dict I.kIn ⟨o,h1,h2.1⟩ e (fun z=>nomatch z) h
 | @ins a C dx fs ea cl ha hn htk hm =>cases (show u=Value.ref a from rx);obtain ⟨mA,O,_⟩:=ins_get I.hok ea;obtain ⟨od,J,_⟩:=O.look;exact PySem.W.kia_one (PySem.W.kitx_own (cl.get _) cl.hd ha hn htk hm) I.kIn J e (fun z=>nomatch z) h
end
structure Room (k:Nat) (A:Around):Prop where
 hd:A.handled=none
 dp:A.depth+3 * k+5<recursionLimit
 un:A.units+16 * k+200<cLine
 gd:A.guards=some []
theorem Room.mono {k:Nat} {A:Around} (r:Room k A) (h:j≤k):Room j A:=⟨r.hd,by have:=r.dp; omega,by have:=r.un; omega,r.gd⟩
theorem Room.deeper {k:Nat} {A:Around} (r:Room (k+1) A) (env:Env):Room k (A.deeper env) :=
 ⟨r.hd,by have:=r.dp; show A.depth+1+3 * k+5<_; omega,by have:=r.un; show A.units+3+16 * k+200<_; omega,r.gd⟩
theorem make_depth {A:Around}:(A.under (.builtin "type.__call__" ⟨.ref C::us,kw⟩)).depth=A.depth+1:=by first | rfl | simp [Around.under,Code.weight,Code.isCreation,Code.isGuard,Code.isCaller,Code.frames,Code.isFrame,guardIds]
theorem make_units {A:Around}:(A.under (.builtin "type.__call__" ⟨.ref C::us,kw⟩)).units=A.units+1:=by first | rfl | simp [Around.under,Code.cUnits,Code.frames,Code.isFrame]
theorem make_guards {A:Around}:(A.under (.builtin "type.__call__" ⟨.ref C::us,kw⟩)).guards=A.guards:=by first | rfl | simp [Around.under,Code.guards,Code.isGuard,guardIds,pushGuards]
theorem Room.make {k:Nat} {A:Around} (r:Room (k+1) A) (C:Addr) (us:List Value) (kw:List (Str×Value)):Room k (A.under (.builtin "type.__call__" ⟨.ref C::us,kw⟩)) :=
 ⟨r.hd,by have:=r.dp; rw [make_depth]; omega,by have:=r.un; rw [make_units]; omega,by rw [make_guards]; exact r.gd⟩
theorem Room.depth {k:Nat} {A:Around} (r:Room k A):A.depth<recursionLimit:=by have:=r.dp; omega
theorem Room.units {k:Nat} {A:Around} (r:Room k A):A.units+64<cLine:=by have:=r.un; omega
def tNil:TA:=fun _ H Q=>Q [] H
def tCons (ta:TE) (tr:TA):TA:=fun σ H Q=>ta σ H fun x H1=>tr σ H1 fun xs H2=>Q (x::xs) H2
section
variable {e:Expr} {t:TA}
theorem pa_nil:PA X [] tNil:=fun _ _ _ _ H Q I h=>Calls.spliced_nil ⟨[],H,I,.nil,h⟩
theorem pa_cons (ha:PE X e te) (hr:PA X es t) (hs:starEach (e::es) X.env=(false,eval e X.env)::starEach es X.env:=by rfl):PA X (e::es) (tCons te t):=by intro pos pins s σ H Q I h;rw [hs];show wpAny _ _ (spliced ((false,eval e X.env)::backTo pos (starEach es X.env))) _ _ s;refine Calls.spliced_cons (thn (ha pins s σ H _ I h) fun u s1 hq9=>?_);obtain ⟨x,H1,I1,r1,q1⟩:=hq9;exact thn (hr pos pins s1 σ H1 _ I1 q1) fun us s2 ⟨xs,H2,I2,r2,q2⟩=>⟨x::xs,H2,I2,.cons r1 r2,q2⟩
def tTup (t:TA):TE:=fun σ H Q=>t σ H fun xs H1=>xs.length≤sizeLine∧∀p,H1 p=none→Q (.ref p) (upd H1 p (.tup xs))
def tLst (t:TA):TE:=fun σ H Q=>t σ H fun xs H1=>xs.length≤sizeLine∧∀p,H1 p=none→Q (.ref p) (upd H1 p (.lst xs))
theorem pe_tup {x1} (h:PA X es t):PE X (.Tuple es x1 pos) (tTup t):=by intro pins s σ H Q I hq;refine wpAny_Tuple_spliced (thn (h pos pins s σ H _ I hq) fun us s1 ⟨xs,H1,I1,r,z,q⟩=>⟨by rw [← r.length]; exact z,?_⟩);have hf:H1 s1.heap.objs.size=none:=I1.hok.fresh (Nat.le_refl _);refine ⟨.ref s1.heap.objs.size,upd H1 s1.heap.objs.size (.tup xs),I1.laid (t':=s1.toks) (fun b u e=>Heap.get?_push_of_some _ e) (Nat.le_refl _) ?_,rfl,q _ hf⟩;exact ⟨z,us,r,⟨_,Heap.get?_push_size _ rfl,rfl,_,rfl⟩⟩
theorem pe_lst (h:PA X es t):PE X (.List es pos) (tLst t):=by intro pins s σ H Q I hq;refine wpAny_List_spliced (thn (h pos pins s σ H _ I hq) fun us s1 ⟨xs,H1,I1,r,z,q⟩=>⟨by rw [← r.length]; exact z,?_⟩);have hf:H1 s1.heap.objs.size=none:=I1.hok.fresh (Nat.le_refl _);refine ⟨.ref s1.heap.objs.size,upd H1 s1.heap.objs.size (.lst xs),I1.laid (t':=s1.toks) (fun b u e=>Heap.get?_push_of_some _ e) (Nat.le_refl _) ?_,rfl,q _ hf⟩;exact ⟨z,us,0,r,Heap.get?_push_size _ rfl⟩
end
abbrev Sp:=List V→Hp→VK→XK→Prop
abbrev CXT:=List Env→Hp→Shared→XK→Value→Shared→Prop
structure Env0 (P:Program) (w:World) (K:PySem.W.Frag) (mg:Str→Option Value) (base:Heap) (A:Around) (outer:List Env) (s:Shared) (H:Hp):Prop where
 frames:A.frames=some outer
 mod:Mod K mg base
 bs:∀b o,base.get? b=some o→s.heap.get? b=some o∧H b=none
 bsz:base.objs.size≤s.heap.objs.size
 funs:s.heap.FunFrames base outer
 frf:∀b∈frs outer,H b=none
 hok:HOk P w H s.heap
 bare:AllBare s.gens
def CE (outer:List Env) (P:Program) (w:World) (H:Hp) (s:Shared) (Q:VK) (u:Value) (s':Shared):Prop :=
 ∃v H',s'.os=s.os∧AllBare s'.gens∧Un (frs outer) [] H H' s.heap s'.heap∧HOk P w H' s'.heap∧RelV v u∧Q v H'
def CR (CX:CXT) (outer:List Env) (P:Program) (w:World) (H:Hp) (s:Shared) (Q:VK) (E:XK) (r:Result) (s':Shared):Prop :=
 match r with
 | .ok (.ret u)=>CE outer P w H s Q u s'
 | .ok _=>False
 | .error e=>CX outer H s E e s'
structure FnOk (P:Program) (w:World) (K:PySem.W.Frag) (mg:Str→Option Value) (base:Heap) (CX:CXT) (k:Nat) (f:Addr) (fd:FuncData) (ps:List Str) (sp:Sp):Prop where
 len:∀vs H Q E,sp vs H Q E→vs.length=ps.length
 run:∀(A:Around) (outer:List Env) (s:Shared) (H:Hp) (args:Args) (us:List Value) (vs:List V) (Q:VK) (E:XK),Room k A→Env0 P w K mg base A outer s H→BindsTo s fd args (ps.zip us)→Vals vs us→sp vs H Q E →
  codeAny (model P w) A (.call (.ref f) args) (CR CX outer P w H s Q E) s
theorem Env0.make {w:World} {K:PySem.W.Frag} {mg:Str→Option Value} {base:Heap} {A:Around} {outer:List Env} (e:Env0 P w K mg base A outer s H) (C:Addr) (us:List Value) (kw:List (Str×Value)) :
  Env0 P w K mg base (A.under (.builtin "type.__call__" ⟨.ref C::us,kw⟩)) outer s H:=⟨by first | exact e.frames | (simpa [Around.under,Code.envs,Code.isFrame,pushEnvs] using e.frames),e.mod,e.bs,e.bsz,e.funs,e.frf,e.hok,e.bare⟩
theorem Inv.env0 (I:Inv X pins σ H s):Env0 X.prog X.w X.K X.mg X.base X.A X.stack s H :=
 ⟨I.ok.frames,I.ok.mod,I.bs,Nat.le_trans I.ok.bsz I.sz,I.stack,I.stkFree,I.hok,I.bare⟩
theorem Inv.after {Q:VK} (I:Inv X pins σ H s) (h:CE X.stack X.prog X.w H s Q u s'):EP X pins σ Q u s':=by obtain ⟨v,H',os,bare,un,hok,r,q⟩:=h;obtain ⟨hh,g,d,t,os'⟩:=s';obtain rfl:os'=s.os:=os;exact ⟨v,H',I.call (h':=hh) (g':=g) (d':=d) (t':=t) (ch:=[]) un hok bare (fun b z=>absurd z (by simp)),r,q⟩
def tCall (sp:Sp) (dvs:List V) (E:XK) (t:TA):TE:=fun σ H Q=>t σ H fun vs H1=>sp (vs++dvs) H1 Q E
def tMeth (C:Addr) (m:Str) (sp:Sp) (dvs:List V) (E:XK) (ta:TE) (t:TA):TE:=fun σ H Q=>ta σ H fun x H1=>∃a dx fs,x=.ref a∧H1 a=some (.ins C dx fs)∧fs.lookup m=none ∧
 t σ H1 fun vs H2=>sp (x::(vs++dvs)) H2 Q E
def tMake (C:Addr) (sp:Sp) (dvs:List V) (E:XK) (t:TA):TE:=fun σ H Q=>t σ H fun vs H1=>∀x dx,H1 x=none→H1 dx=none→dx≠x →
 sp (.ref x::(vs++dvs)) (upd (upd H1 dx (.own x)) x (.ins C dx [])) (fun v H2=>v=.non∧Q (.ref x) H2) E
def Binds (K:PySem.W.Frag) (fd:FuncData) (ps:List Str) (ds:List Value):Prop :=
 ∀(s:Shared) (us:List Value),K.In s.heap→(us++ds).length=ps.length→BindsTo s fd ⟨us,[]⟩ (ps.zip (us++ds))
variable {fd:FuncData} {ps:List Str}
theorem Binds.all {K:PySem.W.Frag} (h:∀us:List Value,us.length=ps.length→bindArgs fd ⟨us,[]⟩=pure (ps.zip us)):Binds K fd ps []:=fun s us _ hl=>by rw [List.append_nil] at hl ⊢;exact .of_eq (h us hl)
def Passes (CX:CXT) (X:Cx) (E:XK):Prop:=∀(pins:List (Addr×Obj)) (σ:St) (H:Hp) (s:Shared) (e:Value) (s':Shared),Inv X pins σ H s→CX X.stack H s E e s'→X.xe e s'
variable {CX:CXT} {ds:List Value} {dvs:List V} {sp:Sp}
section
variable {k:Nat} {E:XK} {e o:Expr} {t:TA}
theorem run_fn {Q:VK} {vs:List V} (F:FnOk X.prog X.w X.K X.mg X.base CX k f fd ps sp) (hr:Room k X.A) (hb:Binds X.K fd ps ds) (hd:Vals dvs ds) (hx:Passes CX X E)
  (I:Inv X pins σ H s) (r:Vals vs us) (h:sp (vs++dvs) H Q E):wpAny (model X.prog X.w) X.A (call (.ref f) us) (EP X pins σ Q) X.xe s:=by
 have r2:Vals (vs++dvs) (us++ds):=r.append hd;have hl:(us++ds).length=ps.length:=by rw [← r2.length]; exact F.len _ _ _ _ h
 refine wpAny_call (codeAny_mono (F.run X.A X.stack s H ⟨us,[]⟩ (us++ds) (vs++dvs) Q E hr I.env0 (hb s us I.kIn hl) r2 h) fun r s' hq=>?_);cases r with
 | error e=>exact hx pins σ H s e s' I hq
 | ok fl =>
  cases fl with
  | ret u=>exact I.after hq
  | next=>exact False.elim hq
  | brk=>exact False.elim hq
  | cont=>exact False.elim hq
theorem pe_call (F:FnOk X.prog X.w X.K X.mg X.base CX k f fd ps sp) (hr:Room k X.A) (hg:Gl X x) (hm:X.mg x=some (.ref f)) (hk:PySem.W.keepIn X.K (.ref f)=true) (hb:Binds X.K fd ps ds) (hd:Vals dvs ds) (hx:Passes CX X E)
  (ha:PA X (e::es) t) (hdb:(x == ("__debug__":Str))=false:=by decide) (he:starEach (e::es) X.env=(false,eval e X.env)::starEach es X.env:=by rfl) (hpl:(backTo pos (starEach es X.env)).any (·.1)=false:=by rfl) :
  PE X (.Call (.Name x p) (e::es) [] pos) (tCall sp dvs E t):=by
 intro pins s σ H Q I h;refine wpAny_Call_Name_kw (ld_glob I hg hm ?_ hdb);refine PySem.W.callWith_K (h₀:=X.base) I.ok.mod.kin hk (thn (ha pos pins s σ H _ I h) fun us s1 ⟨vs,H1,I1,r,q⟩=>⟨I1.kIn,?_⟩) he hpl;exact run_fn F hr hb hd hx I1 r q
theorem pe_meth {pl:Sem Bool} (he:PE X o ta) (c:Cls X.K C) (hm:Meth X.K C m f) (F:FnOk X.prog X.w X.K X.mg X.base CX k f fd ps sp) (hr:Room k X.A) (hb:Binds X.K fd ps ds) (hd:Vals dvs ds) (hx:Passes CX X E) (ha:PA X (e::es) t)
  (hst:starEach (e::es) X.env=(false,eval e X.env)::starEach es X.env:=by rfl) (hpl:(backTo pos (starEach es X.env)).any (·.1)=false:=by rfl)
  (ht:eval (.Call (.Attribute o m apos) (e::es) [] pos) X.env=(do
   let ov ← eval o X.env
   standAt apos.atName
   let (f,first) ← holding [ov] (getMethod ov m pl)
   callWith pos f first (backTo pos (starEach (e::es) X.env)) (backToKw pos (keywordEach [] X.env))):=by rfl) :
  PE X (.Call (.Attribute o m apos) (e::es) [] pos) (tMeth C m sp dvs E ta t):=by
 intro pins s σ H Q I h;refine PySem.W.methodCall_KW (pl:=pl) (thn (he pins s σ H _ I h) fun u s1 ⟨x,H1,I1,rx,a,dx,fs,ex,ea,l,q⟩=>?_) ht;subst ex;obtain rfl:u=Value.ref a:=rx;refine getmeth_ok I1 ea c hm l ?_;refine PySem.W.callWith_K (first:=[.ref a]) (h₀:=X.base) I.ok.mod.kin hm.kp (thn (ha pos pins s1 σ H1 _ I1 q) fun us s2 ⟨vs,H2,I2,r,q2⟩=>⟨I2.kIn,?_⟩) hst hpl;exact run_fn (us:=.ref a::us) (vs:=.ref a::vs) F hr hb hd hx I2 (.cons rfl r) q2
theorem pe_meth0 {pl:Sem Bool} (he:PE X o ta) (c:Cls X.K C) (hm:Meth X.K C m f) (F:FnOk X.prog X.w X.K X.mg X.base CX k f fd ps sp) (hr:Room k X.A) (hb:Binds X.K fd ps ds) (hd:Vals dvs ds) (hx:Passes CX X E)
  (ht:eval (.Call (.Attribute o m apos) [] [] pos) X.env=(do
   let ov ← eval o X.env
   standAt apos.atName
   let (f,first) ← holding [ov] (getMethod ov m pl)
   callWith pos f first (backTo pos (starEach [] X.env)) (backToKw pos (keywordEach [] X.env))):=by rfl) :
  PE X (.Call (.Attribute o m apos) [] [] pos) (tMeth C m sp dvs E ta tNil):=by
 intro pins s σ H Q I h;refine PySem.W.methodCall_KW (pl:=pl) (thn (he pins s σ H _ I h) fun u s1 ⟨x,H1,I1,rx,a,dx,fs,ex,ea,l,q⟩=>?_) ht;subst ex;obtain rfl:u=Value.ref a:=rx;refine getmeth_ok I1 ea c hm l ?_;exact PySem.W.callWith_K0 (first:=[.ref a]) I1.kIn hm.kp (run_fn (us:=[.ref a]) (vs:=[.ref a]) F hr hb hd hx I1 (.cons rfl .nil) q)
structure Mk (K:PySem.W.Frag) (C f:Addr):Prop where
 makes:PySem.W.makesIn K C=true
 init:PySem.W.findIn K (.ref C) "__init__"=some (some (.ref f))
 fn:PySem.W.isFn K (.ref f)=true
 kp:PySem.W.keepIn K (.ref C)=true
theorem run_make {Q:VK} {vs:List V} (M:Mk X.K C f) (F:FnOk X.prog X.w X.K X.mg X.base CX k f fd ps sp) (hr:Room (k+1) X.A) (hb:Binds X.K fd ps ds) (hd:Vals dvs ds)
  (hx:Passes CX X E) (I:Inv X pins σ H s) (r:Vals vs us)
  (h:∀x dx,H x=none→H dx=none→dx≠x→sp (.ref x::(vs++dvs)) (upd (upd H dx (.own x)) x (.ins C dx [])) (fun v H2=>v=.non∧Q (.ref x) H2) E) :
  wpAny (model X.prog X.w) X.A (call (.ref C) us) (EP X pins σ Q) X.xe s:=by
 have hq:=h (s.heap.objs.size+1) s.heap.objs.size (I.hok.fresh (Nat.le_succ _)) (I.hok.fresh (Nat.le_refl _)) (Nat.ne_of_lt (Nat.lt_succ_self _));have I2:=Inv.made (C:=C) I;have r2:Vals (V.ref (s.heap.objs.size+1)::(vs++dvs)) (Value.ref (s.heap.objs.size+1)::(us++ds)):=.cons rfl (r.append hd);have hl:(Value.ref (s.heap.objs.size+1)::us++ds).length=ps.length:=by have e:=r2.length;rw [F.len _ _ _ _ hq] at e;exact e.symm
 refine wpAny_call (make_map (f:=f) I.kIn M.makes M.init (beq_iff_eq.mp M.fn) (codeAny_mono (F.run _ X.stack _ _ ⟨Value.ref (s.heap.objs.size+1)::us,[]⟩ (Value.ref (s.heap.objs.size+1)::(us++ds)) _ _ E (hr.make C us [])
  (I2.env0.make C us []) (hb _ (Value.ref (s.heap.objs.size+1)::us) I2.kIn hl) r2 hq) fun r s' hq'=>?_))
 cases r with
 | error e=>exact hx pins σ _ _ e s' I2 hq'
 | ok fl =>
  cases fl with
  | ret u =>obtain ⟨v,H',I3,rv,ev,q3⟩:=I2.after hq';subst ev;exact ⟨rv,⟨V.ref (s.heap.objs.size+1),H',I3,rfl,q3⟩⟩
  | next=>exact False.elim hq'
  | brk=>exact False.elim hq'
  | cont=>exact False.elim hq'
theorem pe_make (M:Mk X.K C f) (F:FnOk X.prog X.w X.K X.mg X.base CX k f fd ps sp) (hr:Room (k+1) X.A) (hg:Gl X x) (hm:X.mg x=some (.ref C)) (hb:Binds X.K fd ps ds) (hd:Vals dvs ds) (hx:Passes CX X E)
  (ha:PA X (e::es) t) (hdb:(x == ("__debug__":Str))=false:=by decide) (he:starEach (e::es) X.env=(false,eval e X.env)::starEach es X.env:=by rfl) (hpl:(backTo pos (starEach es X.env)).any (·.1)=false:=by rfl) :
  PE X (.Call (.Name x p) (e::es) [] pos) (tMake C sp dvs E t):=by
 intro pins s σ H Q I h;refine wpAny_Call_Name_kw (ld_glob I hg hm ?_ hdb);refine PySem.W.callWith_K (h₀:=X.base) I.ok.mod.kin M.kp (thn (ha pos pins s σ H _ I h) fun us s1 ⟨vs,H1,I1,r,q⟩=>⟨I1.kIn,?_⟩) he hpl;exact run_make M F hr hb hd hx I1 r q
end
def PK (X:Cx) (kws:List Keyword) (t:TA):Prop :=
 ∀(pos:Pos) (pins:List (Addr×Obj)) (s:Shared) (σ:St) (H:Hp) (Q:List V→Hp→Prop),Inv X pins σ H s→t σ H Q→wpAny (model X.prog X.w) X.A (evalAll ((backToKw pos (keywordEach kws X.env)).map (·.2))) (AP X pins σ Q) X.xe s
section
variable {k:Nat} {ks:List Str} {E:XK} {kpos:Pos} {e o:Expr} {kws:List Keyword} {t tk:TA} {nm:Option Str}
theorem pk_nil:PK X [] tNil:=fun _ _ _ _ H Q I h=>wpAny_evalAll_nil ⟨[],H,I,.nil,h⟩
theorem pk_cons (ha:PE X e te) (hr:PK X kws t):PK X (⟨nm,e,kpos⟩::kws) (tCons te t):=by intro pos pins s σ H Q I h;show wpAny _ _ (evalAll ((do let v ← eval e X.env; standAt pos; pure v)::(backToKw pos (keywordEach kws X.env)).map (·.2))) _ _ s;refine wpAny_evalAll_cons (wpAny_bind (thn (ha pins s σ H _ I h) fun u s1 ⟨x,H1,I1,r1,q1⟩=>wpAny_bind (wpAny_standAt (wpAny_pure ?_))));exact thn (hr pos pins s1 σ H1 _ I1 q1) fun us s2 ⟨xs,H2,I2,r2,q2⟩=>⟨x::xs,H2,I2,.cons r1 r2,q2⟩
variable {g:List Value→List Value→List Value} {gV:List V→List V→List V}
end
structure FnScope (N P:List Str) (sc:Scope):Prop where
 kind:sc.kind=.function
 co:sc.isCoroutine=false
 gen:sc.isGenerator=false
 nd:N.Nodup
 pre:N.take P.length=P
 par:∀x∈P,sc.names.lookup x=some .local∨sc.names.lookup x=some .cell
 nofree:∀y∈sc.names,y.2≠.free
variable {kindOf:Str→Option NameKind}
theorem bindL_out {kindOf:Str→Option NameKind} {x:Str}:∀{binds:List (Str×Value)} {m:Str→Option Value},(∀v,(x,v)∉binds)→bindL kindOf binds m x=m x
 | [],_,_=>rfl
 | (n,v)::r,m,h=>by
  unfold bindL;rw [bindL_out fun w hw=>h w (List.mem_cons_of_mem _ hw)];split
  ·have:x≠n:=by rintro rfl; exact h v List.mem_cons_self
   simp [this]
  ·rfl
theorem bindC_out {kindOf:Str→Option NameKind} {x:Str}:∀{binds:List (Str×Value)} {m:Str→Option Value},(∀v,(x,v)∉binds)→bindC kindOf binds m x=m x
 | [],_,_=>rfl
 | (n,v)::r,m,h=>by
  unfold bindC;rw [bindC_out fun w hw=>h w (List.mem_cons_of_mem _ hw)];split
  ·rfl
  ·have:x≠n:=by rintro rfl; exact h v List.mem_cons_self
   simp [this]
theorem bindL_get {kindOf:Str→Option NameKind} {x:Str} {v:Value}:∀{P:List Str} {vs:List Value} {i:Nat} {m:Str→Option Value},P.Nodup→P[i]?=some x→vs[i]?=some v→kindOf x=some .local →
  bindL kindOf (P.zip vs) m x=some v
 | [],_,_,_,_,h,_,_=>by simp at h
 | _::_,[],_,_,_,_,h,_=>by simp at h
 | p::P,w::vs,0,m,nd,h1,h2,hk=>by simp at h1 h2; subst h1; subst h2;show bindL kindOf ((p,w)::P.zip vs) m p=_;unfold bindL;rw [bindL_out fun v hv=>(List.nodup_cons.mp nd).1 (List.of_mem_zip hv).1,if_pos hk];simp
 | p::P,w::vs,i+1,m,nd,h1,h2,hk=>by show bindL kindOf ((p,w)::P.zip vs) m x=_;unfold bindL;exact bindL_get (i:=i) (List.nodup_cons.mp nd).2 (by simpa using h1) (by simpa using h2) hk
theorem bindC_get {kindOf:Str→Option NameKind} {x:Str} {v:Value}:∀{P:List Str} {vs:List Value} {i:Nat} {m:Str→Option Value},P.Nodup→P[i]?=some x→vs[i]?=some v→kindOf x≠some .local →
  bindC kindOf (P.zip vs) m x=some v
 | [],_,_,_,_,h,_,_=>by simp at h
 | _::_,[],_,_,_,_,h,_=>by simp at h
 | p::P,w::vs,0,m,nd,h1,h2,hk=>by simp at h1 h2; subst h1; subst h2;show bindC kindOf ((p,w)::P.zip vs) m p=_;unfold bindC;rw [bindC_out fun v hv=>(List.nodup_cons.mp nd).1 (List.of_mem_zip hv).1,if_neg hk];simp
 | p::P,w::vs,i+1,m,nd,h1,h2,hk=>by show bindC kindOf ((p,w)::P.zip vs) m x=_;unfold bindC;exact bindC_get (i:=i) (List.nodup_cons.mp nd).2 (by simpa using h1) (by simpa using h2) hk
def start (N:List Str) (vs:List V):St:=vs.map some++List.replicate (N.length-vs.length) none
def cxOf (CX:CXT) (P:Program) (w:World) (K:PySem.W.Frag) (mg:Str→Option Value) (base:Heap) (N:List Str) (qual:Str) (scope:Scope) (f:Addr) (cd:Value) (A:Around) (outer:List Env) (s:Shared) (H:Hp) (E:XK):Cx where
 prog:=P
 w:=w
 K:=K
 mg:=mg
 base:=base
 A:=A.deeper (envOfC qual scope s.heap.objs.size f cd)
 N:=N
 s₀:=s
 H₀:=H
 env:=envOfC qual scope s.heap.objs.size f cd
 outer:=outer
 stack:=envOfC qual scope s.heap.objs.size f cd::outer
 ex:=[]
 calm:=true
 fn:=fun _=>true
 pn:=[]
 xe:=fun e s'=>wpAny (model P w) (A.deeper (envOfC qual scope s.heap.objs.size f cd)) (leaving (envOfC qual scope s.heap.objs.size f cd) e) (fun _ s''=>CX outer H s E e s'') (fun e' s''=>CX outer H s E e' s'') s'
theorem cell_has {sc:Scope} (h:sc.names.lookup x=some .cell):∃c,(cellsFrom n sc.names []).lookup x=some c:=by have q:=PySem.W.cellsFrom_some sc.names n [] (.inl h);exact Option.isSome_iff_exists.mp q
variable {qual:Str} {scope:Scope}
theorem inv_start {w:World} {K:PySem.W.Frag} {mg:Str→Option Value} {base:Heap} {N:List Str} {cd:Value} {A:Around} {outer:List Env} {s1:Shared} {E:XK} {vs:List V}
  (S:FnScope N ps scope) (hd:A.handled=none) (e0:Env0 P w K mg base A outer s H) (hl:vs.length=ps.length) (r:Vals vs us)
  (x:InCallC s s.heap.objs.size (bindL (envOfC qual scope s.heap.objs.size f cd).kindOf (ps.zip us) fun _=>none) (cellsFrom (s.heap.objs.size+1) scope.names []) (bindC (envOfC qual scope s.heap.objs.size f cd).kindOf (ps.zip us) fun _=>none) s1) :
  Inv (cxOf CX P w K mg base N qual scope f cd A outer s H E) [] (start N vs) H s1:=by
 have hpl:ps.length≤N.length:=by have:=congrArg List.length S.pre; rw [List.length_take] at this; omega
 obtain ⟨h1,tk,rfl,hk⟩:=x.done;have noA:∀b:Addr,b∉(cxOf CX P w K mg base N qual scope f cd A outer s H E).ex:=fun b z=>absurd (show b∈([]:List Addr) from z) (by simp);refine ⟨⟨e0.mod,S.kind,rfl,rfl,Nat.le_refl _,fun y z c h1 h2=>?_,fun y hy=>?_,fun y c _ h=>?_,fun _=>hd,Around.frames_deeper e0.frames,.inr ⟨rfl,rfl⟩,fun b z=>absurd z (noA b),e0.bs,e0.bsz,fun b _ _=>noA b,fun b z=>absurd z (noA b),e0.funs,e0.frf⟩,
  rfl,e0.bare,Un.kept hk,⟨_,x.toInCall.ns,fun i y v h1 h2 h3=>?_⟩,fun y c h=>⟨_,x.cell y c h⟩,e0.hok.fresh (Nat.le_refl _),fun y c h=>?_,fun p hp=>absurd (show p∈([]:List (Addr×Obj)) from hp) (by simp),e0.hok.kept hk,?_⟩
 ·exact name_of_addr x.apart (PySem.mem_of_lookup h1) (PySem.mem_of_lookup h2)
 ·have hy:scope.names.lookup y=some .cell∨scope.names.lookup y=some .free:=hy;rcases hy with hy | hy
  ·exact cell_has hy
  ·exact absurd rfl (S.nofree _ (PySem.mem_of_lookup hy))
 ·exact Nat.le_of_lt (x.above y c (PySem.mem_of_lookup h))
 ·have hi:i<vs.length:=by
   unfold start at h2;by_cases hi:i<vs.length
   ·exact hi
   ·rw [List.getElem?_append_right (by simpa using hi)] at h2;rw [List.getElem?_replicate] at h2
    split at h2 <;> cases h2
  have ha:vs[i]?=some v:=by
   unfold start at h2;rw [List.getElem?_append_left (by simpa using hi),List.getElem?_map] at h2;cases e:vs[i]? with
   | none=>rw [e] at h2; cases h2
   | some a=>rw [e] at h2; cases h2; rfl
  obtain ⟨u,hu,rv⟩:=r.get ha;have hp:ps[i]?=some y:=by rw [← S.pre,List.getElem?_take_of_lt (by omega)]; exact h1
  have ndP:ps.Nodup:=by rw [← S.pre]; exact S.nd.sublist (List.take_sublist _ _)
  refine ⟨u,rv,?_⟩;rcases S.par y (List.mem_of_getElem? hp) with k | k
  ·exact .inl ⟨k,bindL_get ndP hp hu k⟩
  ·obtain ⟨c,e⟩:=cell_has (n:=s.heap.objs.size+1) k;refine .inr ⟨.inl k,c,e,?_⟩;have q:=x.cell y c e;rw [bindC_get ndP hp hu (by show scope.names.lookup y≠_; rw [k]; decide)] at q;exact q
 ·exact e0.hok.fresh (Nat.le_of_lt (x.above y c (PySem.mem_of_lookup h)))
 ·unfold start;show _=N.length;rw [List.length_append,List.length_map,List.length_replicate];omega
theorem fn_of {w:World} {K:PySem.W.Frag} {mg:Str→Option Value} {base:Heap} {k:Nat} {params:Arguments} {dV kV doc pm cdv ct oc:Value} {an od:Option Addr}
    {osl:Array (Option Value)} {N:List Str} (lk:K.lookup f=some ⟨oc,od,.func (PySem.W.fnOf name qual params body scope dV kV doc pm an cdv ct),osl⟩) (hcd:PySem.W.codeIn K cdv qual=true) (S:FnScope N ps scope)
    (len:∀vs H Q E,sp vs H Q E→vs.length=ps.length)
    (hbody:∀(A:Around) (outer:List Env) (s:Shared) (H:Hp) (vs:List V) (Q:VK) (E:XK),Room k (A.deeper (envOfC qual scope s.heap.objs.size f cdv))→sp vs H Q E →
      ∃t,PSs (cxOf CX P w K mg base N qual scope f cdv A outer s H E) body t∧t { nx:=fun _ H'=>Q .non H',rt:=Q } (start N vs) H) :
    FnOk P w K mg base CX (k+1) f (PySem.W.fnOf name qual params body scope dV kV doc pm an cdv ct) ps sp:=by
  refine ⟨len,fun A outer s H args us vs Q E hr e0 hb r hsp=>?_⟩;have hl:=len _ _ _ _ hsp;have KX:K.In s.heap:=e0.mod.kin.keeps fun b o e=>(e0.bs b o e).1;have lim:s.heap.NoLimit:=e0.mod.nolimit.keeps fun b o e=>(e0.bs b o e).1;have hkind:∀y∈ps.zip us,scope.names.lookup y.1=some .local∨(scope.names.lookup y.1=some .cell∧((cellsFrom (s.heap.objs.size+1) scope.names []).lookup y.1).isSome=true):=fun ⟨n,v⟩ hy=>by
    rcases S.par n (List.of_mem_zip hy).1 with q | q
    · exact .inl q
    · exact .inr ⟨q,PySem.W.cellsFrom_some _ _ _ (.inl q)⟩
  refine codeAny_call_function hr.depth (KX _ _ lk) rfl S.co S.gen rfl (PySem.W.codeRec_of KX hcd) (hb _ _ _ _ ?_);refine wpAny_newFunctionEnv_cells S.kind hkind fun env he s1 x=>?_;subst he;refine ⟨lim.keeps x.toInCall.keep,codeAny_func ?_⟩;obtain ⟨t,ht,hq⟩:=hbody A outer s H vs Q E (hr.deeper _) hsp;have I:Inv (cxOf CX P w K mg base N qual scope f cdv A outer s H E) [] (start N vs) H s1:=inv_start S hr.hd e0 hl r x;refine wpAny_mono (ht [] s1 (start N vs) H _ I hq) (fun fl s' hs=>?_) fun e s' hs=>hs;have fin:∀{σ':St} {H':Hp} {v:V} {u:Value},Inv (cxOf CX P w K mg base N qual scope f cdv A outer s H E) [] σ' H' s'→RelV v u→Q v H'→CE outer P w H s Q u s' :=
    fun {σ' H' v u} J rv q=>⟨v,H',J.os,J.bare,J.base,J.hok,rv,q⟩
  cases fl with
  | ret u =>obtain ⟨v,σ',H',J,rv,q⟩:=hs;exact fin J rv q
  | next =>obtain ⟨σ',H',J,q⟩:=hs;exact fin (v:=V.non) (u:=Value.none) J rfl q
  | brk =>obtain ⟨_,_,_,q⟩:=hs;exact False.elim q
  | cont =>obtain ⟨_,_,_,q⟩:=hs;exact False.elim q
variable {T:String}
section
variable {e:Expr} {t:TA} {id:String} {r:List V→Hp→VK→Prop}
def tCB (r:List V→Hp→VK→Prop) (t:TA):TE:=fun σ H Q=>t σ H fun vs H1=>r vs H1 Q
theorem pe_callB (hc:CallR X (.builtin id) r) (hg:Gl X x) (hm:X.mg x=none) (hv:bootBuiltins x=some (.builtin id)) (ha:PA X (e::es) t) (hn:x≠"__name__":=by decide) (hdb:(x == ("__debug__":Str))=false:=by decide)
  (he:starEach (e::es) X.env=(false,eval e X.env)::starEach es X.env:=by rfl) (hpl:(backTo pos (starEach es X.env)).any (·.1)=false:=by rfl):PE X (.Call (.Name x p) (e::es) [] pos) (tCB r t):=by
 intro pins s σ H Q I h;refine wpAny_Call_Name_kw (ld_blt I hg hm hv ?_ hn hdb);exact PyProof.Rows.callWith_builtin1 (thn (ha pos pins s σ H _ I h) fun us s1 ⟨vs,H1,I1,r1,q1⟩=>hc pins s1 σ H1 vs us Q I1 r1 q1) he hpl
theorem pe_callTy (hc:CallR X (.type T) r) (hg:Gl X x) (hm:X.mg x=none) (hv:bootBuiltins x=some (.type T)) (ha:PA X (e::es) t) (hn:x≠"__name__":=by decide) (hdb:(x == ("__debug__":Str))=false:=by decide)
  (he:starEach (e::es) X.env=(false,eval e X.env)::starEach es X.env:=by rfl) (hpl:(backTo pos (starEach es X.env)).any (·.1)=false:=by rfl):PE X (.Call (.Name x p) (e::es) [] pos) (tCB r t):=by
 intro pins s σ H Q I h;refine wpAny_Call_Name_kw (ld_blt I hg hm hv ?_ hn hdb);exact PyProof.Rows.callWith_type1 (thn (ha pos pins s σ H _ I h) fun us s1 ⟨vs,H1,I1,r1,q1⟩=>hc pins s1 σ H1 vs us Q I1 r1 q1) he hpl
end
end L2
namespace HT
open PySem PyProof.Rows
open PySem.SeqAt
open PySem.AutoSeq1 (wpAny_loadPart')
open PySem.MeetsSeq PySem.MeetsSeq2 PySem.MeetsSeq3
section
variable {prog:Program} {w:World} {A:Around} {E:Value→Shared→Prop} {s:Shared}
theorem cat_tup {t b:Addr} {vs ws:List Value} {Q:Value→Shared→Prop} (ht:IsTup s.heap t vs.toArray) (hb:IsTup s.heap b ws.toArray) (hv:vs≠[])
    (h1:ws=[]→Q (.ref t) s) (h2:ws≠[]→Q (.ref s.heap.objs.size) { s with heap:=s.heap.push { cls:=.type "tuple",data:=.seq (vs++ws).toArray } })
    (hsz:vs.length+ws.length≤sizeLine):wpAny (model prog w) A (binaryOp .Add (.ref t) (.ref b)) Q E s:=by
  obtain ⟨⟨cls,dd,data,sl⟩,ho,hc,n,hd⟩:=id ht;obtain ⟨⟨cls2,dd2,data2,sl2⟩,ho2,hc2,n2,hd2⟩:=id hb;simp only at hc hd hc2 hd2;subst hc hd hc2 hd2;have e:vs.toArray++ws.toArray=(vs++ws).toArray:=by simp
  by_cases hw:ws=[]
  · exact concat_meets ⟨_,ho,rfl⟩ ⟨_,ho2,rfl⟩ noFill_tuple_add seq_tuple_add PySem.F.slot_tuple_add PySem.F.entry_tuple_add (PySem.F.args_tuple_add_2 _ _)
      (tuple_addW1 t b vs.toArray ws.toArray n n2 dd dd2 sl sl2 (by simpa using hv) (by simp [hw])) ⟨ho,ho2,h1 hw⟩
  · refine concat_meets ⟨_,ho,rfl⟩ ⟨_,ho2,rfl⟩ noFill_tuple_add seq_tuple_add PySem.F.slot_tuple_add PySem.F.entry_tuple_add (PySem.F.args_tuple_add_2 _ _)
      (tuple_addW2 t b vs.toArray ws.toArray n n2 dd dd2 sl sl2 (by simpa using hv) (by simpa using hw) (by rw [List.size_toArray,List.size_toArray]; exact hsz)) ⟨ho,ho2,?_⟩
    rw [e];exact h2 hw
def sIx (n d:Nat):Option Int→Nat
 | none=>d
 | some v=>if v<0 then (v+(n:Int)).toNat else min v.toNat n
theorem sIx_nat (n d k:Nat):sIx n d (some (k:Int))=min k n:=by show (if (k:Int)<0 then ((k:Int)+(n:Int)).toNat else min (k:Int).toNat n)=min k n;rw [if_neg (by omega),Int.toNat_natCast]
end
end HT
namespace L2
open PySem PySem.Spec PyProof.Rows
abbrev TO:=St→Hp→(Option Int→Hp→Prop)→Prop
def PO (X:Cx) (e:Option Expr) (t:TO):Prop :=
 ∀(pins:List (Addr×Obj)) (s:Shared) (σ:St) (H:Hp) (Q:Option Int→Hp→Prop),Inv X pins σ H s→t σ H Q →
  wpAny (model X.prog X.w) X.A (evalPart e X.env) (fun u s'=>∃o H',Inv X pins σ H' s'∧IsPart u o∧Q o H') X.xe s
def tPart (t:TE):TO:=fun σ H Q=>t σ H fun x H1=>∃i,x=.int i∧Q (some i) H1
theorem intsAre_of {ns:List Int}:∀{us:List Value},Vals (ns.map V.int) us→IntsAre us ns:=by
 induction ns with
 | nil=>intro us r; rw [List.map_nil] at r; cases r; exact .nil
 | cons n ns ih =>
  intro us r;rw [List.map_cons] at r;cases r with
  | cons r1 r2 =>obtain ⟨t,e⟩:=r1;subst e;exact .cons n t (ih r2)
variable {X:Cx} {p2 pos:Pos} {te:TE} {us:List Value} {xs:List V}
section
variable {e:Expr} {lo hi:Option Expr} {tl th:TO}
theorem po_some (h:PE X e te):PO X (some e) (tPart te):=by intro pins s σ H Q I hw;rw [evalPart_some];refine thn (h pins s σ H _ I hw) fun u s1 hq9=>?_;obtain ⟨x,H1,I1,r1,q1⟩:=hq9;obtain ⟨i,rfl,q⟩:=q1;obtain ⟨t,rfl⟩:=r1;exact ⟨some i,H1,I1,.int i t,q⟩
def SlR (X:Cx) (r:V→Option Int→Option Int→Hp→VK→Prop):Prop :=
 ∀(pins:List (Addr×Obj)) (s:Shared) (σ:St) (H:Hp) (x:V) (v vl vu:Value) (lo hi:Option Int) (sl:Addr) (Q:VK),Inv X pins σ H s→RelV x v→s.heap.IsSliceOf sl vl vu .none→IsPart vl lo→IsPart vu hi→r x lo hi H Q →
  ∃T id,typeLookup (.type T) "__getitem__"=pure (some (.builtin id))∧s.TypeIs v T∧wpAny (model X.prog X.w) X.A (getItem v (.ref sl)) (EP X pins σ Q) X.xe s
def tSl (r:V→Option Int→Option Int→Hp→VK→Prop) (te:TE) (tl th:TO):TE:=fun σ H Q=>te σ H fun x H1=>tl σ H1 fun l H2=>th σ H2 fun u H3=>r x l u H3 Q
theorem pe_slice {r:V→Option Int→Option Int→Hp→VK→Prop} (hr:SlR X r) (he:PE X e te) (hl:PO X lo tl) (hu:PO X hi th):PE X (.Subscript e (.Slice lo hi none p2) pos) (tSl r te tl th):=by intro pins s σ H Q I h;refine Subscript_ (thn (he pins s σ H _ I h) fun v s1 hq9=>?_);obtain ⟨x,H1,I1,r1,q1⟩:=hq9;refine wpAny_Slice (thn (hl pins s1 σ H1 _ I1 q1) fun vl s2 ⟨l,H2,I2,pl,q2⟩=>thn (hu pins s2 σ H2 _ I2 q2) fun vu s3 hq9=>?_);obtain ⟨u,H3,I3,pu,q3⟩:=hq9;rw [evalPart_none];refine wpAny_pure ?_;have I4:Inv X pins σ H3 { s3 with heap:=s3.heap.push { cls:=.type "slice",data:=.fields #[vl,vu,.none] } }:=I3.kept (t':=s3.toks) fun b ob q=>Heap.get?_push_of_some _ q;obtain ⟨T,id,hT,ht,hg⟩:=hr pins { s3 with heap:=s3.heap.push { cls:=.type "slice",data:=.fields #[vl,vu,.none] } } σ H3 x v vl vu l u s3.heap.objs.size Q I4 r1 (Heap.IsSliceOf.new ..) pl pu q3;show wpAny (model X.prog X.w) X.A (subscriptTail e (.Slice lo hi none p2) v (.ref s3.heap.objs.size)) (EP X pins σ Q) X.xe { s3 with heap:=s3.heap.push { cls:=.type "slice",data:=.fields #[vl,vu,.none] } };exact tail_any (ops:=[.ref s3.heap.objs.size,v]) ht hT hg (by with_unfolding_all rfl)
def cutV (xs:List V) (lo hi:Option Int):List V:=(xs.drop (HT.sIx xs.length 0 lo)).take (HT.sIx xs.length xs.length hi-HT.sIx xs.length 0 lo)
theorem cutV_length (xs:List V) (lo hi:Option Int):(cutV xs lo hi).length≤xs.length:=by unfold cutV;rw [List.length_take,List.length_drop];omega
def rCatT (K:PySem.W.Frag):R2:=fun x y H Q=>∃a b xs ys,x=.ref a∧y=.ref b∧SqT K H a xs∧SqT K H b ys∧xs≠[]∧xs.length+ys.length≤sizeLine ∧
 (ys=[]→Q (.ref a) H)∧(ys≠[]→∀p,H p=none→Q (.ref p) (upd H p (.tup (xs++ys))))
theorem Vals.nil_iff (r:Vals xs us):us=[]↔xs=[]:=by
 cases r with
 | nil=>simp
 | cons _ _=>simp
theorem op_catT:OpR X (binaryOp .Add) (rCatT X.K):=by intro pins s σ H x y v u Q I rx ry h;obtain ⟨a,b,xs,ys,rfl,rfl,ha,hb,hx,hz,q1,q2⟩:=h;cases rx;cases ry;obtain ⟨its,r1,p1,_⟩:=I.tuple ha;obtain ⟨its2,r2,p2,_⟩:=I.tuple hb;refine HT.cat_tup p1 p2 (fun z=>hx (r1.nil_iff.mp z)) (fun z=>⟨.ref a,H,I,rfl,q1 (r2.nil_iff.mp z)⟩) (fun z=>?_) (by rw [← r1.length,← r2.length]; exact hz);refine ⟨.ref s.heap.objs.size,_,I.laid (t':=s.toks) (o:=.tup (xs++ys)) (fun b ob q=>Heap.get?_push_of_some _ q) (Nat.le_refl _) ?_,rfl,q2 (fun w=>z (r2.nil_iff.mpr w)) _ (I.hok.fresh (Nat.le_refl _))⟩;exact ⟨by rw [List.length_append]; exact hz,_,r1.append r2,IsTup.new _ _⟩
end
def ixN (n:Nat) (i:Int):Option Nat:=if 0≤i then (if i<n then some i.toNat else none) else if -(n:Int)≤i then some (i+n).toNat else none
variable {α:Type}
def atI (xs:List α) (i:Int):Option α:=(ixN xs.length i).bind fun j=>xs[j]?
variable {j n:Nat}
theorem ixN_seq {i:Int} (h:ixN n i=some j):seqIndex? i n=some j∧j<n∧-(n:Int)≤i∧i<n:=by
 unfold ixN at h;by_cases h0:0≤i
 ·rw [if_pos h0] at h;by_cases h1:i<n
  ·rw [if_pos h1] at h;have e:i.toNat=j:=Option.some.inj h;exact ⟨by rw [seqIndex_of h0 h1,e],by omega,by omega,h1⟩
  ·rw [if_neg h1] at h; cases h
 ·rw [if_neg h0] at h;by_cases h1:-(n:Int)≤i
  ·rw [if_pos h1] at h;have e:(i+n).toNat=j:=Option.some.inj h;exact ⟨by rw [seqIndex_neg (by omega) h1,e],by omega,h1,by omega⟩
  ·rw [if_neg h1] at h; cases h
theorem atI_get {xs:List α} {i:Int} {v:α} (h:atI xs i=some v):∃j,seqIndex? i xs.length=some j∧xs[j]?=some v∧j<xs.length∧-(xs.length:Int)≤i∧i<xs.length:=by
 unfold atI at h;cases e:ixN xs.length i with
 | none=>rw [e] at h; cases h
 | some j =>rw [e] at h;obtain ⟨h1,h2,h3,h4⟩:=ixN_seq e;exact ⟨j,h1,h,h2,h3,h4⟩
theorem atI_nat {xs:List α} {v:α} (h:xs[j]?=some v):atI xs (j:Int)=some v:=by
 have hj:j<xs.length:=(List.getElem?_eq_some_iff.mp h).1;have e:ixN xs.length (j:Int)=some j:=by unfold ixN;rw [if_pos (by omega),if_pos (by omega)]; simp
 unfold atI; rw [e]; exact h
def PlainIx (b:Expr):Prop:=∀o i,subscripted b false o i=operate [o,i] (getItem o i)
def IxR (X:Cx) (r:R2):Prop :=
 ∀(value slice:Expr) (pins:List (Addr×Obj)) (s:Shared) (σ:St) (H:Hp) (x y:V) (v u:Value) (Q:VK),Inv X pins σ H s→RelV x v→RelV y u→r x y H Q →
  subscripted slice false v u=operate [v,u] (getItem v u)→wpAny (model X.prog X.w) X.A (subscriptTail value slice v u) (EP X pins σ Q) X.xe s
def MtR (X:Cx) (id:String) (r:V→List V→Hp→VK→Prop):Prop :=
 ∀(pins:List (Addr×Obj)) (s:Shared) (σ:St) (H:Hp) (x:V) (xs:List V) (v:Value) (us:List Value) (Q:VK),Inv X pins σ H s→RelV x v→Vals xs us→r x xs H Q →
  wpAny (model X.prog X.w) X.A (call (.builtin id) (v::us)) (EP X pins σ Q) X.xe s
variable {H:Hp} {T:String} {apos cpos:Pos} {es:List Expr} {its:List Value} {name:Str} {pins:List (Addr×Obj)} {r:R2} {s:Shared} {ta to:TE} {ys:List V} {σ:St}
section
variable {a b:Expr} {tb:TE}
theorem IxR.or {r':R2} (h:IxR X r) (h':IxR X r'):IxR X (fun x y H Q=>r x y H Q∨r' x y H Q):=by
 intro value slice pins s σ H x y v u Q I rx ry q hs;rcases q with q | q
 ·exact h value slice pins s σ H x y v u Q I rx ry q hs
 ·exact h' value slice pins s σ H x y v u Q I rx ry q hs
theorem pe_ix (hr:IxR X r) (ha:PE X a ta) (hb:PE X b tb) (hs:PlainIx b):PE X (.Subscript a b pos) (tOp r ta tb):=by intro pins s σ H Q I h;exact Subscript_ (binT ha hb I h fun v u s2 x y H2 I2 rx ry q=>hr a b pins s2 σ H2 x y v u Q I2 rx ry q (hs _ _))
def rIxL (K:PySem.W.Frag):R2:=fun x y H Q=>∃p xs i v,x=.ref p∧y=.int i∧SqL K H p xs∧atI xs i=some v∧Q v H
def rIxT (K:PySem.W.Frag):R2:=fun x y H Q=>∃p xs i v,x=.ref p∧y=.int i∧SqT K H p xs∧atI xs i=some v∧Q v H
def rIxS:R2:=fun x y H Q=>∃z i c,x=.str z∧y=.int i∧z.length≤sizeLine∧atI z.cps.toList i=some c∧Q (.str ⟨#[c]⟩) H
theorem ix_list:IxR X (rIxL X.K):=by
 intro value slice pins s σ H x y v u Q I rx ry h hs;obtain ⟨p,xs,i,z,rfl,rfl,hq,he,q⟩:=h;cases rx;obtain ⟨t,rfl⟩:=ry;obtain ⟨its,r,pl,hz⟩:=I.list hq;obtain ⟨j,h1,h2,h3,h4,h5⟩:=atI_get he;obtain ⟨w,ew,rw'⟩:=r.get h2;have hl:=r.length;have hn:=line63;have fin:EP X pins σ Q w s:=⟨z,H,I,rw',q⟩;by_cases h0:0≤i
 ·have hj:i.toNat=j:=by rw [seqIndex_of h0 h5] at h1;exact Option.some.inj h1
  exact item_listR pl.isList h0 (by omega) (by rw [hj]; simpa using ew) fin hs
 ·have hj:(i+(its.toArray.size:Int)).toNat=j:=by rw [seqIndex_neg (by omega) h4] at h1;rw [List.size_toArray,← hl];exact Option.some.inj h1
  exact subscriptTail_builtinR (x:=w) pl.isList.typeIs slot_list_getitem.lookup
   (wpAny_getItem_list_neg (Q:=fun r s'=>r=w∧EP X pins σ Q r s') pl.isList (by omega) (by rw [List.size_toArray] <;> omega) (by omega) (by rw [hj]; simpa using ew) ⟨rfl,fin⟩) hs
theorem ix_tup:IxR X (rIxT X.K):=by
 intro value slice pins s σ H x y v u Q I rx ry h hs;obtain ⟨p,xs,i,z,rfl,rfl,hq,he,q⟩:=h;cases rx;obtain ⟨t,rfl⟩:=ry;obtain ⟨its,r,pl,hz⟩:=I.tuple hq;obtain ⟨j,h1,h2,h3,h4,h5⟩:=atI_get he;obtain ⟨w,ew,rw'⟩:=r.get h2;have hl:=r.length;have hn:=line63;have fin:EP X pins σ Q w s:=⟨z,H,I,rw',q⟩;exact subscriptTail_builtinR (x:=w) pl.typeIs slot_tuple_getitem.lookup
  (getItem_tuple (j:=j) (Q:=fun r s'=>r=w∧EP X pins σ Q r s') pl (by omega) (by omega) (by rw [List.size_toArray,← hl]; exact h1) (by simpa using ew) ⟨rfl,fin⟩) hs
theorem ix_str:IxR X rIxS:=by
 intro value slice pins s σ H x y v u Q I rx ry h hs;obtain ⟨z,i,c,rfl,rfl,hz,he,q⟩:=h;obtain ⟨t,rfl⟩:=rx;obtain ⟨t',rfl⟩:=ry;obtain ⟨j,h1,h2,h3,h4,h5⟩:=atI_get he;have hl:z.cps.toList.length=z.length:=by simp [Str.length]
 rw [hl] at h1 h4 h5;have hn:=line63;exact tail_any (typeIs_str s z t) slot_str_getitem.lookup (getItem_str (c:=c) (by have e1:decide (i < -(2 ^ 63:Int))=false:=decide_eq_false (by omega);have e2:decide (i ≥ 2 ^ 63)=false:=decide_eq_false (by omega);rw [e1,e2,Bool.or_false]) (by rw [h1]; simpa using h2) ⟨.str ⟨#[c]⟩,H,I.tok _,⟨_,rfl⟩,q⟩) hs
def rIx (K:PySem.W.Frag):R2:=fun x y H Q=>rIxL K x y H Q∨rIxT K x y H Q∨rIxS x y H Q
theorem ix_seq:IxR X (rIx X.K):=ix_list.or (ix_tup.or ix_str)
theorem mapSeq_set (its:List Value) (n j:Nat) (u:Value):Obj.mapSeq (·.setIfInBounds j u) { cls:=.type "list",data:=.seq its.toArray n } = { cls:=.type "list",data:=.seq (its.set j u).toArray n }:=by simp [Obj.mapSeq]
theorem Inv.lst {p:Addr} (I:Inv X pins σ H s) (h:H p=some (.lst xs)) :
    ∃(its:List Value) (n:Nat),Vals xs its∧s.heap.get? p=some { cls:=.type "list",data:=.seq its.toArray n }∧xs.length≤sizeLine:=by
  obtain ⟨z,its,n,r,e⟩:=I.hok p _ h;exact ⟨its,n,r,e,z⟩
theorem Inv.lstUpd {p:Addr} {its':List Value} {n':Nat} {f:Obj→Obj} (I:Inv X pins σ H s) (h:H p=some (.lst xs))
    (ho:s.heap.get? p=some { cls:=.type "list",data:=.seq its.toArray n }) (hf:f { cls:=.type "list",data:=.seq its.toArray n } = { cls:=.type "list",data:=.seq its'.toArray n' }) (r:Vals ys its') (hz:ys.length≤sizeLine) (t:Nat) :
    Inv X pins σ (upd H p (.lst ys)) { s with heap:=s.heap.update p f,toks:=t }:=by
  have e:(s.heap.update p f).get? p=some { cls:=.type "list",data:=.seq its'.toArray n' }:=by rw [Heap.get?_update_self f ho (by rw [hf] <;> rfl),hf]
  refine I.write (x:=p) (e:=p) (by rw [h]; trivial) (.inl rfl) (fun b u hb q=>(Heap.get?_update_other _ _ (Ne.symm hb)).trans q) ⟨_,e⟩ ?_;exact ⟨hz,its',n',r,e⟩
def rSetL:V→V→V→Hp→(Hp→Prop)→Prop:=fun o i v H Q=>∃p xs k j,o=.ref p∧i=.int k∧H p=some (.lst xs)∧ixN xs.length k=some j∧Q (upd H p (.lst (xs.set j v)))
theorem set_list:PSet X rSetL:=by
 intro pins s σ H o i v ov iv u Q I ro ri rv h;obtain ⟨p,xs,k,j,rfl,rfl,hp,hj,q⟩:=h;cases ro;obtain ⟨t,rfl⟩:=ri;obtain ⟨its,n,r,ho,hz⟩:=I.lst hp;obtain ⟨h1,h2,h3,h4⟩:=ixN_seq hj;have hl:=r.length;have hn:=line63;have I':Inv X pins σ (upd H p (.lst (xs.set j v))) { s with heap:=s.heap.update p (Obj.mapSeq (·.setIfInBounds j u)) } :=
  I.lstUpd hp ho (mapSeq_set its n j u) (r.set rv j) (by rw [List.length_set]; exact hz) s.toks
 by_cases h0:0≤k
 ·have hk:k.toNat=j:=by rw [seqIndex_of h0 h4] at h1;exact Option.some.inj h1
  exact PySem.W.ki_setAt ho h0 (by omega) (by rw [List.size_toArray,← hl]; exact h4) (by rw [hk]; exact ⟨_,I',q⟩)
 ·have hk:(k+(its.toArray.size:Int)).toNat=j:=by rw [seqIndex_neg (by omega) h3] at h1;rw [List.size_toArray,← hl];exact Option.some.inj h1
  exact PySem.W.ki_setBack ho (by omega) (by rw [List.size_toArray,← hl]; exact h3) (by omega) (by rw [hk]; exact ⟨_,I',q⟩)
theorem slice_bounds (lo hi:Option Int) (n:Nat):(sliceBounds lo hi none n).1=((HT.sIx n 0 lo:Nat):Int)∧(sliceBounds lo hi none n).2.1=((HT.sIx n n hi:Nat):Int)∧(sliceBounds lo hi none n).2.2=1:=by
 refine ⟨?_,?_,rfl⟩
 ·cases lo with
  | none=>simp [sliceBounds,HT.sIx]
  | some i =>
   simp only [sliceBounds,HT.sIx,Option.getD_none,show (1:Int) > 0 by decide,if_true];by_cases h:i<0
   ·simp only [h,if_true] <;> omega
   ·simp only [h,if_false] <;> omega
 ·cases hi with
  | none=>simp [sliceBounds,HT.sIx]
  | some i =>
   simp only [sliceBounds,HT.sIx,Option.getD_none,show (1:Int) > 0 by decide,if_true];by_cases h:i<0
   ·simp only [h,if_true] <;> omega
   ·simp only [h,if_false] <;> omega
theorem slicePick_cut (its:List Value) (lo hi:Option Int):slicePick its.toArray lo hi none=((its.drop (HT.sIx its.length 0 lo)).take (HT.sIx its.length its.length hi-HT.sIx its.length 0 lo)).toArray:=by obtain ⟨h1,h2,h3⟩:=slice_bounds lo hi its.toArray.size;unfold slicePick;rw [h1,h2,h3];simp only [sliceRange_one,pick_run,List.size_toArray] <;> rfl
def rSlL (K:PySem.W.Frag):V→Option Int→Option Int→Hp→VK→Prop:=fun x lo hi H Q=>∃a xs,x=.ref a∧SqL K H a xs∧∀p,H p=none→Q (.ref p) (upd H p (.lst (cutV xs lo hi)))
theorem sl_list:SlR X (rSlL X.K):=by intro pins s σ H x v vl vu lo hi sl Q I rx hs pl pu h;obtain ⟨a,xs,rfl,hx,q⟩:=h;cases rx;obtain ⟨its,r,ht,hz⟩:=I.list hx;have hlen:=r.length;refine ⟨"list",_,slot_list_getitem.lookup,ht.isList.typeIs,?_⟩;refine wpAny_getItem_list_slice ht.isList hs pl pu .none (by simp) ?_ (by rw [List.size_toArray] <;> omega);rw [slicePick_cut,← hlen];refine ⟨.ref s.heap.objs.size,_,I.laid (t':=s.toks) (o:=.lst (cutV xs lo hi)) (fun b ob q=>Heap.get?_push_of_some _ q) (Nat.le_refl _) ?_,rfl,q _ (I.hok.fresh (Nat.le_refl _))⟩;exact ⟨Nat.le_trans (cutV_length xs lo hi) hz,_,0,(r.drop (HT.sIx xs.length 0 lo)).take (HT.sIx xs.length xs.length hi-HT.sIx xs.length 0 lo),Heap.get?_push_size _ rfl⟩
def flatV:V→Bool
 | .non=>true
 | .bl _=>true
 | .int _=>true
 | .str _=>true
 | _=>false
def eqV:V→V→Bool
 | .non,.non=>true
 | .bl a,.bl b=>a == b
 | .bl a,.int b=>(if a then 1 else 0) == b
 | .int a,.bl b=>a == (if b then 1 else 0)
 | .int a,.int b=>a == b
 | .str a,.str b=>a == b
 | _,_=>false
theorem call_len_seq:CallR X (.builtin "len") (fun xs H Q=>∃p ys,xs=[.ref p]∧(SqL X.K H p ys∨SqT X.K H p ys)∧Q (.int ys.length) H):=by
 intro pins s σ H xs us Q I r h;obtain ⟨p,ys,rfl,hq,q⟩:=h;obtain ⟨u,rfl,rx⟩:=vals1 r;cases rx;have hn:=line63;rcases hq with hq | hq
 ·obtain ⟨its,r',pl,hz⟩:=I.list hq;have hlen:=r'.length;exact Calls.call_len_list pl.isList (by simp only [List.size_toArray] <;> omega) ⟨.int ys.length,H,I.tok _,⟨s.toks+1,by rw [List.size_toArray,hlen]⟩,q⟩
 ·obtain ⟨its,r',pl,hz⟩:=I.tuple hq;have hlen:=r'.length;exact len_tuple pl (by simp only [List.size_toArray] <;> omega) ⟨.int ys.length,H,I.tok _,⟨s.toks+1,by rw [List.size_toArray,hlen]⟩,q⟩
theorem call_len_str:CallR X (.builtin "len") (fun xs H Q=>∃z,xs=[.str z]∧z.length≤sizeLine∧Q (.int z.length) H):=by intro pins s σ H xs us Q I r h;obtain ⟨z,rfl,hz,q⟩:=h;obtain ⟨u,rfl,t,rfl⟩:=vals1 r;have hn:=line63;exact len_str (by omega) ⟨.int z.length,H,I.tok _,⟨_,rfl⟩,q⟩
theorem CallR.or {f:Value} {r r':List V→Hp→VK→Prop} (h:CallR X f r) (h':CallR X f r'):CallR X f (fun xs H Q=>r xs H Q∨r' xs H Q):=by
 intro pins s σ H xs us Q I rs q;rcases q with q | q
 ·exact h pins s σ H xs us Q I rs q
 ·exact h' pins s σ H xs us Q I rs q
theorem call_list_of:CallR X (.type "list") (fun xs H Q=>∃p ys,xs=[.ref p]∧(SqL X.K H p ys∨SqT X.K H p ys)∧∀l,H l=none→Q (.ref l) (upd H l (.lst ys))):=by
  intro pins s σ H xs us Q I r h;obtain ⟨p,ys,rfl,hq,q⟩:=h;obtain ⟨u,rfl,rx⟩:=vals1 r;cases rx;have fin:∀(its:List Value),Vals ys its→ys.length≤sizeLine→∀(h':Heap) (c':Nat),(∀b o',s.heap.get? b=some o'→h'.get? b=some o') →
      h'.get? s.heap.objs.size=some { cls:=.type "list",dict:=none,data:=.seq its.toArray c',slots:=#[] }→EP X pins σ Q (.ref s.heap.objs.size) { s with heap:=h' }:=fun its r' hz h' c' kp e =>
    ⟨.ref s.heap.objs.size,_,I.laid (t':=s.toks) kp (Nat.le_refl _) (show ObjOk X.prog X.w _ h' _ (.lst ys) from ⟨hz,its,c',r',e⟩),rfl,q _ (I.hok.fresh (Nat.le_refl _))⟩
  rcases hq with hq | hq
  · obtain ⟨its,r',pl,hz⟩:=I.list hq;have hlen:=r'.length;obtain ⟨o,ho,hc,n,hd⟩:=pl.isList;exact call_list_seq p (.inl rfl) ho hc hd (fun h' c' kp e=>fin its r' hz h' c' kp e) (by simp only [List.size_toArray] <;> omega)
  · obtain ⟨its,r',pl,hz⟩:=I.tuple hq;have hlen:=r'.length;obtain ⟨o,ho,hc,n,hd⟩:=pl;exact call_list_seq p (.inr rfl) ho hc hd (fun h' c' kp e=>fin its r' hz h' c' kp e) (by simp only [List.size_toArray] <;> omega)
def tyV (K:PySem.W.Frag) (T:String) (x:V) (H:Hp):Prop:=match x with
 | .str _=>T = "str"
 | .int _=>T = "int"
 | .ref p=>(T = "list"∧∃xs,SqL K H p xs)∨(T = "tuple"∧∃o,K.lookup p=some o∧o.cls=.type "tuple"∧o.dict=none) ∨
   (T = "dict"∧((∃kvs,H p=some (.dK kvs))∨∃kvs,H p=some (.dT kvs)))∨(T = "set"∧∃S n,H p=some (.set S n))
 | _=>False
theorem tyV_is {x:V} {v:Value} (I:Inv X pins σ H s) (r:RelV x v) (ty:tyV X.K T x H) :
  s.TypeIs v T∧∀a,v=.ref a→∃ob,s.heap.get? a=some ob∧ob.dict=none:=by
 cases x with
 | str z =>obtain ⟨t,rfl⟩:=r;cases (show T = "str" from ty);exact ⟨typeIs_str s z t,fun _ e=>nomatch e⟩
 | int i =>obtain ⟨t,rfl⟩:=r;cases (show T = "int" from ty);exact ⟨typeIs_int s i t,fun _ e=>nomatch e⟩
 | ref p =>
  cases r;rcases ty with ⟨rfl,xs,hq⟩ | ⟨rfl,o,hk,hc,hd⟩ | ⟨rfl,hk⟩ | ⟨rfl,S,n,hk⟩
  ·obtain ⟨its,_,pl,_⟩:=I.list hq;refine ⟨pl.isList.typeIs,fun a e=>?_⟩;cases e;obtain ⟨o,n,e,c,hd,_⟩:=pl;exact ⟨o,e,hd⟩
  ·refine ⟨⟨o,I.kIn p o hk,hc⟩,fun a e=>?_⟩;cases e;exact ⟨o,I.kIn _ o hk,hd⟩
  ·have z:∃o,s.heap.get? p=some o∧o.ExactDict:=by
    rcases hk with ⟨kvs,hk⟩ | ⟨kvs,hk⟩
    ·obtain ⟨_,_,_,_,o,_,_,e,ex,_⟩:=I.hok p _ hk;exact ⟨o,e,ex⟩
    ·obtain ⟨_,_,_,_,o,_,_,e,ex,_⟩:=I.hok p _ hk;exact ⟨o,e,ex⟩
   obtain ⟨o,e,ex⟩:=z;refine ⟨⟨o,e,ex.1⟩,fun a e2=>?_⟩;cases e2;exact ⟨o,e,ex.2.1⟩
  ·obtain ⟨o,_,_,_,e,ex,_⟩:=I.hok p _ hk;refine ⟨⟨o,e,ex.1⟩,fun a e2=>?_⟩;cases e2;exact ⟨o,e,ex.2.1⟩
 | _=>exact False.elim ty
def tBM (K:PySem.W.Frag) (T:String) (r:V→List V→Hp→VK→Prop) (to:TE) (t:TA):TE:=fun σ H Q=>to σ H fun x H1=>tyV K T x H1∧t σ H1 fun xs H2=>r x xs H2 Q
variable {o e:Expr} {t:TA} {id:String} {r:V→List V→Hp→VK→Prop}
theorem pe_bm (pa:PlainAttrs T) (slot:Slot T name id) (hty:typeOf (.builtin id)=pure (.type "method_descriptor")) (hm:MtR X id r) (ho:PE X o to) (ha:PA X (e::es) t)
  (hbase:attributeBase o name X.env (eval o X.env)=eval o X.env:=by rfl)
  (hfew:((backTo cpos (starEach (e::es) X.env)).all (fun x=>!x.1) && (backToKw cpos (keywordEach [] X.env)).all (fun x=>x.1.isSome)
   && decide ((e::es).length+([]:List Keyword).length+(if ([]:List Keyword).isEmpty then 0 else 1)<30))=true:=by rfl)
  (hline:(apos.endLine == cpos.line)=true:=by rfl) (hs:starEach (e::es) X.env=(false,eval e X.env)::starEach es X.env:=by rfl) (hplain:(backTo cpos (starEach es X.env)).any (·.1)=false:=by rfl) :
  PE X (.Call (.Attribute o name apos) (e::es) [] cpos) (tBM X.K T r to t):=by
 intro pins s σ H Q I h;refine wpAny_Call_method_late hbase hfew hline rfl (thn (ho pins s σ H _ I h) fun v s1 hq9=>?_);obtain ⟨x,H1,I1,r1,ty,q1⟩:=hq9;obtain ⟨h1,h2⟩:=tyV_is I1 r1 ty;refine ⟨T,id,pa,slot,hty,h1,h2,?_⟩;have hA:=ha cpos pins s1 σ H1 _ I1 q1;rw [hs] at hA ⊢;refine Calls.callWith_builtin (by show (false || (backTo cpos (starEach es X.env)).any (·.1))=false; rw [hplain] <;> rfl) (Calls.evalArgs_plain ?_);exact thn hA fun us s2 ⟨vs,H2,I2,r2,q2⟩=>hm pins s2 σ H2 x vs v us Q I2 r1 r2 q2
end
def MtM (X:Cx) (id:String) (r:V→List V→Hp→VK→Prop):Prop :=
 ∀(pins:List (Addr×Obj)) (s:Shared) (σ:St) (H:Hp) (x:V) (xs:List V) (v:Value) (us:List Value) (Q:VK),Inv X pins σ H s→RelV x v→Vals xs us→r x xs H Q →
  wpAny (model X.prog X.w) X.A (call (.builtin id) (v::us)) (EP X pins σ Q) X.xe s
theorem Vals.one:∀{x:V} {us:List Value},Vals [x] us→∃u,us=[u]∧RelV x u
 | _,_,.cons r .nil=>⟨_,rfl,r⟩
theorem Vals.rep {xs:List V} {us:List Value} (h:Vals xs us):∀k:Nat,Vals (List.replicate k xs).flatten (List.replicate k us).flatten
 | 0=>.nil
 | k+1=>by rw [List.replicate_succ,List.replicate_succ,List.flatten_cons,List.flatten_cons];exact Vals.append h (Vals.rep h k)
theorem foldl_rep (its:List Value):∀(k:Nat) (acc:List Value),
  List.foldl (fun x1 x2=>x1++x2) acc.toArray (List.replicate k its.toArray)=(acc++(List.replicate k its).flatten).toArray
 | 0,acc=>by simp
 | k+1,acc=>by
  have e:acc.toArray++its.toArray=(acc++its).toArray:=by simp
  have e2:(acc++its)++(List.replicate k its).flatten=acc++(List.replicate (k+1) its).flatten:=by rw [List.replicate_succ,List.flatten_cons,List.append_assoc]
  rw [← e2,← foldl_rep its k (acc++its),← e,List.replicate_succ,List.foldl_cons]
variable {b:Addr} {t':Nat}
section
variable {l:Addr} {zs:List V}
theorem Inv.lset {its':List Value} {f:Array Value→Array Value} (I:Inv X pins σ H s) (hH:H l=some (.lst xs))
    (e:s.heap.get? l=some { cls:=.type "list",data:=.seq its.toArray n }) (hf:f its.toArray=its'.toArray) (hv:Vals ys its') (hz:ys.length≤sizeLine) :
    Inv X pins σ (upd H l (.lst ys)) { s with heap:=s.heap.update l (Obj.mapSeq f),toks:=t' }:=by
  have q:=PySem.IsL.update e f;rw [hf] at q;refine I.write (x:=l) (e:=l) (by rw [hH]; exact trivial) (.inl rfl) (fun b' u hb hu=>(Heap.get?_update_other s.heap (Obj.mapSeq f) (Ne.symm hb)).trans hu) ⟨_,q⟩ ?_;exact ⟨hz,its',_,hv,q⟩
theorem Inv.lnew (I:Inv X pins σ H s) (hv:Vals ys its) (hz:ys.length≤sizeLine) :
    Inv X pins σ (upd H s.heap.objs.size (.lst ys)) { s with heap:=s.heap.push { cls:=.type "list",data:=.seq its.toArray },toks:=t' } :=
  I.laid (fun _ _ q=>Heap.get?_push_of_some _ q) (Nat.le_refl _) ⟨hz,its,0,hv,Heap.get?_push_size _ rfl⟩
theorem Inv.fresh (I:Inv X pins σ H s):H s.heap.objs.size=none:=I.hok.fresh (Nat.le_refl _)
theorem Inv.lstM (I:Inv X pins σ H s) (hH:H l=some (.lst xs)):xs.length≤sizeLine∧∃(its:List Value) (n:Nat),Vals xs its∧xs.length=its.length∧s.heap.get? l=some { cls:=.type "list",data:=.seq its.toArray n }:=by obtain ⟨z,its,n,r,e⟩:=I.hok l _ hH;exact ⟨z,its,n,r,r.length,e⟩
theorem notLongL (h:n≤sizeLine):Builtin.List.listTooLong n=false:=by unfold Builtin.List.listTooLong;exact decide_eq_false (by omega)
end
def rAppend:V→List V→Hp→VK→Prop:=fun x vs H Q=>∃l xs y,x=.ref l∧vs=[y]∧H l=some (.lst xs)∧xs.length<sizeLine∧Q .non (upd H l (.lst (xs++[y])))
theorem mt_append:MtM X "list.append" rAppend:=by intro pins s σ H x vs v us Q I rx rv h;obtain ⟨l,xs,y,rfl,rfl,hH,hz,q⟩:=h;cases rx;obtain ⟨u,rfl,ru⟩:=rv.one;obtain ⟨z,its,n,r,hl,e⟩:=I.lstM hH;refine call_meets F.slot_list_append ⟨_,e,rfl⟩ F.entry_list_append (F.args_list_append_2 _ _) (PySem.list_append l its.toArray n u (by rw [List.size_toArray]; omega)) ⟨e,?_⟩;refine ⟨.non,_,I.lset (its':=its++[u]) hH e (by simp) (r.append (.cons ru .nil)) ?_,rfl,q⟩;rw [List.length_append,List.length_singleton];omega
theorem len_rep (xs:List α) (k:Nat):(List.replicate k xs).flatten.length=k * xs.length:=by
 induction k with
 | zero=>simp
 | succ k ih=>rw [List.replicate_succ,List.flatten_cons,List.length_append,ih,Nat.succ_mul,Nat.add_comm]
variable {E:Value→Shared→Prop}
end L2
namespace Att
open PySem PySem.W PySem.Calls PyProof.Rows
theorem ints_of_wellAll {P:Params} {h:Heap}:∀(ns:List Int) (vs:List Value),WellAll P h vs (ns.map WData.int)→IntsAre vs ns:=by
 intro ns;induction ns with
 | nil =>intro vs w;rw [List.map_nil] at w;cases w;exact .nil
 | cons n ns ih =>
  intro vs w;rw [List.map_cons] at w;cases w with
  | cons a b =>cases a;exact .cons _ _ (ih _ b)
theorem script_of {l:OpenLaw} {n:Nat} (hn:l.most=some n) {P:Params} {h:Heap} {args:List WData} {vals:List Value}
    (hpre:l.row.toRowW.claim.pre args=true) (hwl:WellAll P h vals args) :
    ∃a vs ns,vals=[Value.ref a]∧args=[WData.list (ns.map WData.int)]∧h.get? a=some { cls:=.type "list",data:=.seq vs.toArray }∧IntsAre vs ns∧ns.length≤n:=by
  have hsh:WShape.hasAll [] args [.list .int]=true:=(pre_splitW hpre).1;have hc:l.pre.holds [] { args:=args }=true:=(pre_splitW hpre).2;obtain ⟨d,r,rfl,h1,h2⟩:=hasAllW_cons hsh;obtain rfl:=hasAllW_nil h2;obtain ⟨xs,rfl,h3⟩:=hasW_list h1;obtain ⟨ns,rfl⟩:=items_int h3;have hlen:ns.length≤n:=by
    unfold OpenLaw.pre at hc;have h4:(WTm.not (.lt (.lit (.int (n:Int))) (.len (.arg 0)))).holds [] { args:=[.list (ns.map .int)] }=true:=by have h4:=(holds_andW hc).1;rw [hn] at h4;exact h4
    have h5:=condW_of h4 (w_not (w_lt w_lit (w_len_list (w_arg rfl))));rw [List.length_map] at h5;refine Nat.le_of_not_lt fun q=>?_;have q':(n:Int)<((ns.length:Nat):Int):=by omega
    first
      | (rw [decide_eq_true q'] at h5; exact absurd h5 (by decide))
      | (simp at h5; omega)
  cases hwl with
  | cons w1 w2 =>
    cases w2;cases w1 with
    | list ho hall=>exact ⟨_,_,ns,rfl,rfl,ho,ints_of_wellAll ns _ hall,hlen⟩
theorem post_true (l:OpenLaw) (args:List WData):l.row.toRowW.claim.post args (.bool true) args=true :=
  postW_of (r:=l.row.toRowW) (X:=(true == true))
    (show WShape.has [] (.bool true) .bool=true by first | rfl | decide | simp [WShape.has,WShape.arms,WShape.armsAll])
    (show (WTm.eq .res (.lit (.bool true))).value [] { args:=args,res:=some (.bool true),after:=args }=some (.bool (true == true)) from w_eq_bool (w_res rfl) w_lit) rfl
theorem attach_call {l:OpenLaw} {n:Nat} {q:Program} {loose:List Str} {XP:(Str→Option Value)→Heap→Prop} {YP:World→Heap→Prop} {d:DefRec}
    (hn:l.most=some n) (hdf:d.params.defaults=[])
    (call:∀(w:World) (s₀ s₁:Shared) (mg mb:Str→Option Value) (fa:Addr) (o:Obj) (pm cd doc:Value) (a:Addr) (vs:List Value) (ns:List Int),
      Ground q loose [] XP w s₀ mg mb s₁.heap→YP w s₁.heap →
      s₁.heap.get? fa=some o→o.data=.func (docDef d.name d.params d.body d.scope pm cd doc)→s₁.heap.CodeRec cd d.name→mg d.name=some (.ref fa) →
      s₁.heap.get? a=some { cls:=.type "list",data:=.seq vs.toArray }→IntsAre vs ns→ns.length≤n→s₁.gens = #[] →
      codeAny (model l.prog w) callerA (.call (.ref fa) ⟨[.ref a],[]⟩) (fun r s'=>r=.ok (.ret (.bool true))∧OldK s₁.heap s'.heap∧s'.os=s₁.os∧AllBare s'.gens) s₁) :
    WalkO q loose XP YP l.row.toRowW d [] (fun f vs=>PySem.call f vs):=by
  intro w s₀ s₁ mg mb G Y fa o pm cd doc dV kV ho hd hcd hD hmg hg args vals as hpre hlay hrd hwl hlo;obtain rfl:dV=.none:=Dflts.none hD hdf;obtain rfl:kV=.none:=Dflts.noKw hD;obtain ⟨a,vs,ns,rfl,rfl,hobj,hints,hlen⟩:=script_of hn hpre hwl;refine enter_call (codeAny_mono (call w s₀ s₁ mg mb fa o pm cd doc a vs ns G Y ho (fd_plain hd) hcd hmg hobj hints hlen hg) fun r s' hq=>?_);obtain ⟨rfl,h2,h3,h4⟩:=hq;exact ⟨.inl ⟨.bool true,.bool true,[],rfl,fun _=>rfl,.bool true,post_true l _,fun _=>⟨List.Pairwise.nil,fun _ hm=>(nomatch hm)⟩⟩,h2,h3,h4⟩
end Att
namespace L2
open PySem PySem.Spec PyProof.Rows
theorem vals_ints:∀{vs:List Value} {ns:List Int},IntsAre vs ns→Vals (ns.map V.int) vs
 | _,_,.nil=>.nil
 | _,_,.cons n t h=>.cons ⟨t,rfl⟩ (vals_ints h)
def Only (H:Hp):Prop:=∀b,H b=none∨∃o xs,H b=some (.frz o (.lst xs))
variable {CX:CXT} {P:Program} {a:Addr} {fd:FuncData} {sp:Sp} {x:Str}
theorem law_call {w:World} {K:PySem.W.Frag} {mg mb:Str→Option Value} {k:Nat} {fa:Addr} {s₁:Shared} {vs:List Value} {ns:List Int}
    (KX:K.In s₁.heap) (hns:s₁.heap.Ns mainGlobals mg) (hb:s₁.heap.Ns builtinsNs mb) (hbb:∀x:Str,x≠"__name__"→mb x=bootBuiltins x) (hlim:s₁.heap.NoLimit) (hg:s₁.gens = #[])
    (ha:s₁.heap.get? a=some { cls:=.type "list",data:=.seq vs.toArray }) (hi:IntsAre vs ns) (hl:ns.length≤sizeLine) (hr:Room k callerA)
    (F:∀base:Heap,K.In base→base.Ns mainGlobals mg→FnOk P w K mg base CX k fa fd [x] sp) (hbind:∀(s:Shared) (u:Value),BindsTo s fd ⟨[u],[]⟩ [(x,u)])
    (hsp:∀H:Hp,Only H→SqL K H a (ns.map V.int)→sp [.ref a] H (fun v _=>v=.bl true) fun _ _ _=>False)
    (hCX:∀H e s',CX [] H s₁ (fun _ _ _=>False) e s'→False) :
    codeAny (model P w) callerA (.call (.ref fa) ⟨[.ref a],[]⟩) (fun r s'=>r=.ok (.ret (.bool true))∧OldK s₁.heap s'.heap∧s'.os=s₁.os∧AllBare s'.gens) s₁:=by
  have rv:=vals_ints hi;have lenV:=hi.length;have core:∀H:Hp,Only H→SqL K H a (ns.map V.int)→HOk P w H s₁.heap→(∀b,H b≠none→b=a)→(H a≠none→K.lookup a=none) →
      codeAny (model P w) callerA (.call (.ref fa) ⟨[.ref a],[]⟩) (fun r s'=>r=.ok (.ret (.bool true))∧OldK s₁.heap s'.heap∧s'.os=s₁.os∧AllBare s'.gens) s₁:=by
    intro H hO hS hok hA hK;have base_of:∀{b:Addr} {o:Obj},s₁.heap.get? b=some o→H b=none→(hidT s₁.heap H).get? b=some o:=fun e n=>hidT_get e n;have noA:∀{b:Addr} {o:Obj} {es:Array DictEntry} {ep:Nat},s₁.heap.get? b=some o→o.data=.dict es ep→H b=none:=fun {b o es ep} e d=>by
      cases q:H b with
      | none=>rfl
      | some u =>have e':b=a:=hA b (by rw [q]; simp);subst e';rw [ha] at e; cases e;have d':Data.seq vs.toArray _=Data.dict es ep:=d;cases d'
    have nsK:∀{b:Addr} {m:Str→Option Value},s₁.heap.Ns b m→(hidT s₁.heap H).Ns b m:=fun {b m} ⟨o,es,ep,e,d,r⟩=>⟨o,es,ep,base_of e (noA e d),d,r⟩;have hKb:K.In (hidT s₁.heap H):=fun b o e=>base_of (KX b o e) (by
      cases q:H b with
      | none=>rfl
      | some u =>have e':b=a:=hA b (by rw [q]; simp);subst e';rw [hK (by rw [q]; simp)] at e; cases e)
    have hM:Mod K mg (hidT s₁.heap H):=⟨hKb,nsK hns,⟨mb,nsK hb,hbb⟩,let ⟨mc,h1,h2⟩:=hlim; ⟨mc,nsK h1,h2⟩⟩;have e0:Env0 P w K mg (hidT s₁.heap H) callerA [] s₁ H:=⟨rfl,hM,fun b o e=>of_hidT e,Nat.le_of_eq (hidT_size _ _),trivial,fun b hb=>absurd (show b∈([]:List Addr) from hb) (by simp),hok,.of_eq hg⟩;refine codeAny_mono ((F _ hKb (nsK hns)).run callerA [] s₁ H ⟨[.ref a],[]⟩ [.ref a] [.ref a] _ _ hr e0 (hbind s₁ (.ref a)) (.cons rfl .nil) (hsp H hO hS)) fun r s' h=>?_;cases r with
    | error e=>exact (hCX H e s' h).elim
    | ok fl =>
      cases fl with
      | next=>exact False.elim h
      | brk=>exact False.elim h
      | cont=>exact False.elim h
      | ret u =>
        obtain ⟨v,H',os,bare,un,hok',r',q⟩:=h;have q':v=.bl true:=q;subst q';obtain rfl:u=Value.bool true:=r';refine ⟨rfl,OldK.of_keep fun b o e=>?_,os,bare⟩;cases q:H b with
        | none=>exact un.keep b o e q (by intro z; exact absurd (show b∈([]:List Addr) from z) (by simp)) (by simp)
        | some u =>
          rcases hO b with z | ⟨ob,xs,z⟩
          · rw [q] at z; cases z
          · have z2:=un.frzs b ob _ z;obtain ⟨e1,_⟩:=hok b _ z;obtain ⟨e2,_⟩:=hok' b _ z2;rw [e] at e1; cases e1;exact e2
  cases hk:K.lookup a with
  | some o =>have e:=KX a o hk;rw [ha] at e;cases e;refine core (fun _=>none) (fun _=>.inl rfl) (.inr ⟨_,vs.toArray,_,hk,rfl,rfl,rfl,by rw [List.size_toArray,lenV]; exact hl,by simpa using rv⟩) (fun b u z=>by have z':(none:Option HO)=some u:=z; cases z') (fun b z=>absurd rfl z) fun z=>absurd rfl z
  | none =>
    refine core (fun b=>if b=a then some (.frz { cls:=.type "list",data:=.seq vs.toArray } (.lst (ns.map V.int))) else none) (fun b=>?_) (.inl (.inr ⟨{ cls:=.type "list",data:=.seq vs.toArray },if_pos rfl⟩)) (fun b u z=>?_) (fun b z=>?_) fun _=>hk
    · by_cases hb:b=a
      · exact .inr ⟨_,_,if_pos hb⟩
      · exact .inl (if_neg hb)
    · by_cases hb:b=a
      · have z':=(if_pos hb).symm.trans z;cases z';subst hb;exact ⟨ha,by rw [List.length_map]; exact hl,vs,_,rv,ha⟩
      · have z':=(if_neg hb).symm.trans z;cases z'
    · by_cases hb:b=a
      · exact hb
      · exact absurd (if_neg hb) z
variable {n:Nat}
theorem walk_of {l:PySem.W.OpenLaw} {k:Nat} {q:Program} {loose:List Str} {XP:(Str→Option Value)→Heap→Prop} {YP:World→Heap→Prop} {d:DefRec} {K:Params→PySem.W.Frag} {CX:World→CXT} {sp:World→Sp}
  (hn:l.most=some n) (hn2:n≤sizeLine) (hdf:d.params.defaults=[]) (hr:Room k callerA)
  (hY:∀(w:World) (h:Heap),YP w h→(K w.params).In h)
  (F:∀(w:World) (mg:Str→Option Value) (fa:Addr) (h:Heap),(K w.params).In h→h.Ns mainGlobals mg→mg d.name=some (.ref fa) →
   ∃fd:FuncData,(∀(s:Shared) (u:Value),BindsTo s fd ⟨[u],[]⟩ [(x,u)]) ∧
    ∀base:Heap,(K w.params).In base→base.Ns mainGlobals mg→FnOk l.prog w (K w.params) mg base (CX w) k fa fd [x] (sp w))
  (hsp:∀(w:World) (H:Hp) (a:Addr) (ns:List Int),ns.length≤n→Only H→SqL (K w.params) H a (ns.map V.int)→sp w [.ref a] H (fun v _=>v=.bl true) fun _ _ _=>False)
  (hCX:∀(w:World) (H:Hp) (s:Shared) (e:Value) (s':Shared),CX w [] H s (fun _ _ _=>False) e s'→False) :
  PySem.W.WalkO q loose XP YP l.row.toRowW d [] (fun f vs=>PySem.call f vs):=by
 refine Att.attach_call hn hdf fun w s₀ s₁ mg mb fa o pm cd doc a vs ns G Y ho hd hcd hmg hobj hints hlen hg=>?_;have KX:=hY w _ Y;obtain ⟨fd,hb,hF⟩:=F w mg fa _ KX G.T.g hmg;exact law_call KX G.T.g G.T.b G.T.builtins G.T.nolimit hg hobj hints (Nat.le_trans hlen hn2) hr hF hb (fun H hO hS=>hsp w H a ns hlen hO hS) fun H e s'=>hCX w H s₁ e s'
def inClass (s:Stmt) (j:Nat):Stmt:=match s with
 | .ClassDef _ _ _ body _ _ _ _ _ _ _=>body.getD j (.Pass ⟨0,0,0,0⟩)
 | _=>.Pass ⟨0,0,0,0⟩
def defArgs (s:Stmt):Arguments:=match s with
  | .FunctionDef _ a _ _ _ _ _ _ _ _=>a
  | _=>{ posonlyargs:=[],args:=[],vararg:=none,kwonlyargs:=[],kw_defaults:=[],kwarg:=none,defaults:=[] }
def defBody (s:Stmt):List Stmt:=match s with
 | .FunctionDef _ _ b _ _ _ _ _ _ _=>b
 | _=>[]
def defScope (s:Stmt):Scope:=match s with
  | .FunctionDef _ _ _ _ _ _ sc _ _ _=>sc
  | _=>{ kind:=.function,names:=[],isGenerator:=false,isCoroutine:=false }
abbrev CX0:CXT:=fun _ _ _ _ _ _=>False
abbrev E0:XK:=fun _ _ _=>False
variable {X:Cx}
theorem pass0:Passes CX0 X E0:=fun _ _ _ _ _ _ _ h=>h.elim
theorem hu_of {A:Around} {k:Nat} (hr:Room k A):A.units+1<cLine:=Nat.lt_of_le_of_lt (Nat.add_le_add_left (by decide:1≤64) _) hr.units
theorem small1000 (h:n≤1000):n<sizeLine:=Nat.lt_of_le_of_lt h (by decide)
def Same (H H':Hp):Prop:=∀b o,H b=some o→H' b=some o
theorem Same.refl (H:Hp):Same H H:=fun _ _ h=>h
variable {H H1:Hp}
theorem Same.trans {H2:Hp} (a:Same H H1) (b:Same H1 H2):Same H H2:=fun c o h=>b c o (a c o h)
variable {H':Hp}
theorem Same.free (e:Same H H') {l:Addr} (h:H' l=Option.none):H l=Option.none:=by
 cases q:H l with
 | none=>rfl
 | some o =>rw [e l o q] at h;cases h
variable {xs:List V}
theorem Same.seq {K:PySem.W.Frag} (e:Same H H') (h:SqL K H a xs):SqL K H' a xs:=by
 rcases h with (h | ⟨o,h⟩) | h
 ·exact .inl (.inl (e _ _ h))
 ·exact .inl (.inr ⟨o,e _ _ h⟩)
 ·exact .inr h
def XcO (a C:Addr) (dx tb:Option Addr) (h:Heap):Prop :=
  ∃a0,h.get? a=some { cls:=.ref C,dict:=dx,data:=.fields #[a0,tb.elim Value.none .ref,.none,.none,.bool false,.none] }
def TbO (T:Addr) (h:Heap):Prop:=∃ts,h.get? T=some { cls:=.type "traceback",data:=.fields ts }∧ts[3]?=some .none
abbrev xcH (a C:Addr) (dx tb:Option Addr):HO:=.ext (XcO a C dx tb)
abbrev tbH (T:Addr):HO:=.ext (TbO T)
def XcR (H:Hp) (a C:Addr) (dx tb:Option Addr):Prop:=H a=some (xcH a C dx tb)∧∀T,tb=some T→H T=some (tbH T)∧T≠a
def noted (H:Hp) (a C:Addr) (dx:Option Addr) (T:Addr):Hp:=upd (upd H T (tbH T)) a (xcH a C dx (some T))
variable {C:Addr} {M:Model} {pins:List (Addr×Obj)} {s:Shared} {σ:St}
abbrev GK:=St→Addr→Hp→Prop
def EX (G:GK) (σ:St):XK:=fun u _ H'=>∃a C dx T,u=.ref a∧XcR H' a C dx (some T)∧∀T',H' T'=none→G σ a (noted H' a C dx T')
variable {apos p pos:Pos} {ds:List Value} {dvs:List V} {es:List Expr} {f:Addr} {m:Str} {ps:List Str} {ta:TE}
variable {R:Result→Shared→Prop} {ab:Bool} {bm sub:List Value} {col:Option Bool} {dd:Option Addr} {h:Heap} {k0 k1 k2 k3 k5:Option Value} {nm q:Str} {sn:List Str}
variable {E:Value→Shared→Prop}
variable {name:Str}
variable {te:TE}
section
variable {e:Expr}
abbrev TF:=St→Hp→(Hp→Prop)→Prop
def PF (X:Cx) (e:Expr) (n:Nat) (t:TF):Prop:=∀(pins:List (Addr×Obj)) (s:Shared) (σ:St) (H:Hp) (Q:Hp→Prop),Inv X pins σ H s→t σ H Q →
 wpAny (model X.prog X.w) X.A (eval e X.env) (fun v s1=>∃y tk H1,v=.str y tk∧y.length≤n∧Inv X pins σ H1 s1∧Q H1) X.xe s
end
structure XIc (K:PySem.W.Frag) (C:Addr):Prop where
 ga:PySem.W.findIn K (.ref C) "__getattribute__"=some (some (.builtin "BaseException.__getattribute__"))
 gn:PySem.W.findIn K (.ref C) "__getattr__"=some none
 mB:PySem.W.mroIn K C (.type "BaseException")=some true
 hd:PySem.W.hasDictIn K C=true
 ca:PySem.W.findIn K (.ref C) "__class__"=some (some (.builtin "object.__class__"))
 cg:PySem.W.specialIn K (.builtin "object.__class__") "__get__"=some (some (.builtin "getset_descriptor.__get__"))
 ct:PySem.W.takesIn K (.builtin "object.__class__")=some true
 mO:PySem.W.mroIn K C (.type "object")=some true
variable {κ:Type} {u:Value} {vs:List (κ×Value)} {y:V}
section
variable [DecidableEq κ]
def valV (kvs:List (κ×V)) (k:κ):Option V:=(kvs.find? fun kv=>decide (kv.1=k)).map (·.2)
def putK (kvs:List (κ×V)) (k:κ) (v:V):List (κ×V) :=
 if (kvs.any fun kv=>decide (kv.1=k))=true then kvs.map (fun kv=>if kv.1=k then (kv.1,v) else kv) else kvs++[(k,v)]
theorem valV_pos {p:κ×V} {r:List (κ×V)} {k:κ} (e:p.1=k):valV (p::r) k=some p.2:=by simp [valV,List.find?_cons,e]
theorem valV_neg {p:κ×V} {r:List (κ×V)} {k:κ} (e:¬p.1=k):valV (p::r) k=valV r k:=by simp [valV,List.find?_cons,e]
theorem valV_any (k:κ):∀kvs:List (κ×V),(kvs.any fun kv=>decide (kv.1=k))=(valV kvs k).isSome
 | []=>rfl
 | p::r=>by
  rw [List.any_cons];by_cases e:p.1=k
  ·simp only [valV_pos e,decide_eq_true e,Bool.true_or,Option.isSome_some]
  ·rw [valV_neg e,decide_eq_false e,Bool.false_or]; exact valV_any k r
theorem length_putK (kvs:List (κ×V)) (k:κ) (v:V):(putK kvs k v).length≤kvs.length+1:=by
 unfold putK;split
 ·rw [List.length_map]; omega
 ·rw [List.length_append,List.length_cons,List.length_nil]; omega
theorem RelO.isSome_eq {o:Option V} {u:Option Value} (r:RelO o u):o.isSome=u.isSome:=by
 cases o with
 | none=>cases u with
  | none=>rfl
  | some _=>exact (show False from r).elim
 | some _=>cases u with
  | none=>exact (show False from r).elim
  | some _=>rfl
theorem RelO.getD {o:Option V} {u:Option Value} {d:V} {d':Value} (r:RelO o u) (rd:RelV d d'):RelV (o.getD d) (u.getD d'):=by
 cases o with
 | none=>cases u with
  | none=>exact rd
  | some _=>exact (show False from r).elim
 | some _=>cases u with
  | none=>exact (show False from r).elim
  | some _=>exact r
theorem KV.val {kvs:List (κ×V)} (r:KV kvs vs) (k:κ):RelO (valV kvs k) (valueAt vs k):=by
 unfold KV at r;induction r with
 | nil=>exact True.intro
 | @cons p q ps qs h t ih =>
  obtain ⟨h1,h2⟩:=h;by_cases e:p.1=k
  ·have e':q.1=k:=h1.symm.trans e;have b:valueAt (q::qs) k=some q.2:=by simp [valueAt,List.find?_cons,e']
   rw [valV_pos e,b]; exact h2
  ·have e':¬q.1=k:=fun z=>e (h1.trans z);have b:valueAt (q::qs) k=valueAt qs k:=by simp [valueAt,List.find?_cons,e']
   rw [valV_neg e,b]; exact ih
theorem KV.any {kvs:List (κ×V)} (r:KV kvs vs) (k:κ):(kvs.any fun kv=>decide (kv.1=k))=vs.any fun kv=>decide (kv.1=k):=by
 unfold KV at r;induction r with
 | nil=>rfl
 | cons h t ih=>rw [List.any_cons,List.any_cons,ih,h.1]
theorem KV.repl {kvs:List (κ×V)} (r:KV kvs vs) (k:κ) (ry:RelV y u) :
  KV (kvs.map fun kv=>if kv.1=k then (kv.1,y) else kv) (vs.map fun kv=>if kv.1=k then (kv.1,u) else kv):=by
 unfold KV at r ⊢;induction r with
 | nil=>exact .nil
 | @cons p q ps qs h t ih =>
  rw [List.map_cons,List.map_cons];refine .cons ?_ ih;obtain ⟨h1,h2⟩:=h;by_cases e:p.1=k
  ·rw [if_pos e,if_pos (h1.symm.trans e)]; exact ⟨h1,ry⟩
  ·rw [if_neg e,if_neg (fun z=>e (h1.trans z))]; exact ⟨h1,h2⟩
theorem KV.put {kvs:List (κ×V)} (r:KV kvs vs) (k:κ) (ry:RelV y u):KV (putK kvs k y) (stored vs k u):=by
 unfold putK stored;rw [r.any k];by_cases e:(vs.any fun kv=>decide (kv.1=k))=true
 ·rw [if_pos e,if_pos e]; exact r.repl k ry
 ·rw [if_neg e,if_neg e]; exact Paired.snoc r ⟨rfl,ry⟩
theorem KV.length {kvs:List (κ×V)} (r:KV kvs vs):kvs.length=vs.length:=Paired.length r
end
theorem kV_is {w:World} {k:Key} (r:RelV (kV k) u):(mixKind P w).is k u=true:=by
 cases k with
 | inl i=>obtain ⟨t,e⟩:=(show ∃t,u=Value.int i t from r); subst e; exact mixKind_int P w i t
 | inr x=>obtain ⟨t,e⟩:=(show ∃t,u=Value.str x t from r); subst e; exact mixKind_str P w x t
theorem items_are {P:Program} {w:World}:∀{ks:List Key} {us:List Value},Vals (ks.map kV) us→ItemsAre (mixKind P w) ks us
 | [],_,r=>by rw [List.map_nil] at r; cases r; exact .nil
 | k::ks,_,r=>by
  rw [List.map_cons] at r;cases r with
  | cons h t=>exact .cons (kV_is h) (items_are t)
abbrev KT (H:Hp):List (List Key×V)→List (List Key×Addr×Value)→Prop:=Paired fun p q=>p.1=q.1∧H q.2.1=some (.tup (p.1.map kV))∧RelV p.2 q.2.2
variable {kvs:List (List Key×V)}
theorem KT.val {xs:List (List Key×Addr×Value)} (r:KT H kvs xs) (k:List Key):RelO (valV kvs k) ((atKey xs k).map (·.2)):=by
 induction r with
 | nil=>exact True.intro
 | @cons p q ps qs h t ih =>
  obtain ⟨h1,_,h2⟩:=h;by_cases e:p.1=k
  ·have e':q.1=k:=h1.symm.trans e;have b:atKey (q::qs) k=some q.2:=by simp [atKey,List.find?_cons,e']
   rw [valV_pos e,b]; exact h2
  ·have e':¬q.1=k:=fun z=>e (h1.trans z);have b:atKey (q::qs) k=atKey qs k:=by simp [atKey,List.find?_cons,e']
   rw [valV_neg e,b]; exact ih
theorem KT.repl {xs:List (List Key×Addr×Value)} (r:KT H kvs xs) (k:List Key) (ry:RelV y u) :
  KT H (kvs.map fun kv=>if kv.1=k then (kv.1,y) else kv) (xs.map (putAt k u)):=by
 induction r with
 | nil=>exact .nil
 | @cons p q ps qs h t ih =>
  rw [List.map_cons,List.map_cons];refine .cons ?_ ih;obtain ⟨h1,h2,h3⟩:=h;unfold putAt;by_cases e:p.1=k
  ·rw [if_pos e,if_pos (h1.symm.trans e)]; exact ⟨h1,h2,ry⟩
  ·rw [if_neg e,if_neg (fun z=>e (h1.trans z))]; exact ⟨h1,h2,h3⟩
variable {b:Addr}
theorem KT.put {xs:List (List Key×Addr×Value)} (r:KT H kvs xs) (k:List Key) (hb:H b=some (.tup (k.map kV))) (ry:RelV y u) :
  KT H (putK kvs k y) (storedH xs k b u):=by
 have e:(kvs.any fun kv=>decide (kv.1=k))=(atKey xs k).isSome:=by rw [valV_any,(r.val k).isSome_eq,Option.isSome_map]
 unfold putK storedH;rw [e];by_cases q:(atKey xs k).isSome=true
 ·rw [if_pos q,if_pos q]; exact r.repl k ry
 ·rw [if_neg q,if_neg q]; exact Paired.snoc r ⟨rfl,hb,ry⟩
theorem KT.keeps {xs:List (List Key×Addr×Value)} (r:KT H kvs xs) (ht:∀b ys,H b=some (.tup ys)→H' b=some (.tup ys)):KT H' kvs xs :=
 Paired.mapP r fun _ _ z=>⟨z.1,ht _ _ z.2.1,z.2.2⟩
section
variable {w:World}
theorem rd_of {u:HO} (ok:HOk P w H h) (e:Rd H a u):ObjOk P w H h a u:=e.ok ok
theorem dk_rd {kvs:List (Key×V)} (ok:HOk P w H h) (e:Rd H a (.dK kvs)):kvs.length≤sizeLine∧(a == sysModules)=false∧∃vs,KV kvs vs∧h.DictOf (mixKind P w) a vs :=
 show ObjOk P w H h a (.dK kvs) from rd_of ok e
theorem dk_of {kvs:List (Key×V)} (ok:HOk P w H h) (e:H a=some (.dK kvs)):kvs.length≤sizeLine∧(a == sysModules)=false∧∃vs,KV kvs vs∧h.DictOf (mixKind P w) a vs:=dk_rd ok (.inl e)
theorem key_of {ks:List Key} (ok:HOk P w H h) (e:H a=some (.tup (ks.map kV))):(tupleKind (mixKind P w)).is h ks a:=by obtain ⟨_,its,r,o,h1,h2,n,h3⟩:=(show ObjOk P w H h a (.tup (ks.map kV)) from ok a _ e);exact ⟨o,its.toArray,n,h1,h2,h3,by simpa using items_are r⟩
theorem dt_rd (ok:HOk P w H h) (e:Rd H a (.dT kvs)):kvs.length≤sizeLine∧(a == sysModules)=false ∧
  ∃xs,KT H kvs xs∧h.DictOfH (tupleKind (mixKind P w)) a xs:=by
 obtain ⟨z,y,xs,r,o,es,ep,h1,h2,h3,h4,h5⟩:=(show ObjOk P w H h a (.dT kvs) from rd_of ok e);refine ⟨z,y,xs,r,o,es,ep,h1,h2,h3,h4,fun x hx=>?_,h5⟩;have all:∀{l:List (List Key×V)} {m:List (List Key×Addr×Value)},KT H l m→∀x∈m,(tupleKind (mixKind P w)).is h x.1 x.2.1:=by
  intro l m q;induction q with
  | nil=>intro x hx; exact nomatch hx
  | @cons p q ps qs hq t ih =>
   intro x hx;rcases List.mem_cons.mp hx with e | hx
   ·subst e;exact key_of ok (by rw [← hq.1]; exact hq.2.1)
   ·exact ih x hx
 exact all r x hx
theorem dt_of (ok:HOk P w H h) (e:H a=some (.dT kvs)):kvs.length≤sizeLine∧(a == sysModules)=false ∧
  ∃xs,KT H kvs xs∧h.DictOfH (tupleKind (mixKind P w)) a xs:=dt_rd ok (.inl e)
end
def DGet (H:Hp) (a:Addr) (y:V) (r:Option V):Prop :=
 (∃kvs k,Rd H a (.dK kvs)∧y=kV k∧r=valV kvs k)∨∃kvs k b,Rd H a (.dT kvs)∧y=.ref b∧H b=some (.tup (k.map kV))∧r=valV kvs k
def DPut (H:Hp) (a:Addr) (y v:V) (H':Hp):Prop :=
 (∃kvs k,H a=some (.dK kvs)∧y=kV k∧kvs.length<sizeLine∧H'=upd H a (.dK (putK kvs k v))) ∨
 ∃kvs k b,H a=some (.dT kvs)∧y=.ref b∧H b=some (.tup (k.map kV))∧kvs.length<sizeLine∧H'=upd H a (.dT (putK kvs k v))
theorem DGet.k {kvs:List (Key×V)} {k:Key} (e:H a=some (.dK kvs)):DGet H a (kV k) (valV kvs k):=.inl ⟨kvs,k,.inl e,rfl,rfl⟩
variable {v:V}
theorem DPut.k {kvs:List (Key×V)} {k:Key} (e:H a=some (.dK kvs)) (hl:kvs.length<sizeLine):DPut H a (kV k) v (upd H a (.dK (putK kvs k v))):=.inl ⟨kvs,k,e,rfl,hl,rfl⟩
theorem DPut.t {k:List Key} (e:H a=some (.dT kvs)) (eb:H b=some (.tup (k.map kV))) (hl:kvs.length<sizeLine) :
  DPut H a (.ref b) v (upd H a (.dT (putK kvs k v))):=.inr ⟨kvs,k,b,e,rfl,eb,hl,rfl⟩
variable {Q:Value→Shared→Prop} {h':Heap} {t':Nat}
section
variable {r:Value} {o:Option V} {A:Around}
theorem Inv.big (I:Inv X pins σ H s):sysModules<s.heap.objs.size:=by have h:mainGlobals<s.heap.objs.size:=(I.mod.glob.keeps I.bk).lt;exact Nat.lt_trans (by decide) h
theorem d_getItem (hu:A.units+1<cLine) (I:Inv X pins σ H s) (g:DGet H a y (some v)) (ry:RelV y u) (h:∀w' s',Inv X pins σ H s'→RelV v w'→Q w' s') :
  wpAny (model X.prog X.w) A (getItem (.ref a) u) Q E s:=by
 rcases g with ⟨kvs,k,e,ey,l⟩ | ⟨kvs,k,b,e,ey,eb,l⟩
 ·subst ey;obtain ⟨z,hd,vs,rel,dd⟩:=dk_rd I.hok e;obtain ⟨w',hw,rw'⟩:=RelO.some_of (v:=v) (o:=valueAt vs k) (by rw [l]; exact rel.val k);exact wpAny_getItem_of (kV_is ry) dd.mapOf hw (h w' _ (I.tok _) rw')
 ·subst ey;cases (show u=Value.ref b from ry);obtain ⟨z,hd,xs,rel,dd⟩:=dt_rd I.hok e;obtain ⟨w',hw,rw'⟩:=RelO.some_of (v:=v) (o:=(atKey xs k).map (·.2)) (by rw [l]; exact rel.val k);obtain ⟨p,hp,hp2⟩:=Option.map_eq_some_iff.mp hw;refine wpAny_getItem_heap (tupleKind_room_in1 hu) (key_of I.hok eb) dd hp ?_;rw [hp2];exact h w' _ (I.tok _) rw'
theorem d_in (hu:A.units+1<cLine) (I:Inv X pins σ H s) (g:DGet H a y o) (ry:RelV y u) (h:∀s',Inv X pins σ H s'→Q (.bool o.isSome) s') :
  wpAny (model X.prog X.w) A (compareOp .In u (.ref a)) Q E s:=by
 rcases g with ⟨kvs,k,e,ey,l⟩ | ⟨kvs,k,b,e,ey,eb,l⟩
 ·subst ey;obtain ⟨z,hd,vs,rel,dd⟩:=dk_rd I.hok e;refine wpAny_in_of (kV_is ry) hd dd.mapOf ?_;rw [← (rel.val k).isSome_eq,← l];exact h _ (I.tok _)
 ·subst ey;cases (show u=Value.ref b from ry);obtain ⟨z,hd,xs,rel,dd⟩:=dt_rd I.hok e;refine wpAny_in_heap (tupleKind_room_in1 hu) (key_of I.hok eb) hd dd ?_;have q:=(rel.val k).isSome_eq;rw [Option.isSome_map] at q;rw [← q,← l];exact h _ (I.tok _)
theorem d_write {ob:HO} (I:Inv X pins σ H s) (mu:Mut (H a)) (hs:Heap.SameBut a s.heap h') (he:∃q,h'.get? a=some q) (new:ObjOk X.prog X.w (upd H a ob) h' a ob) :
  Inv X pins σ (upd H a ob) { s with heap:=h',toks:=t' } :=
 I.write (x:=a) (e:=a) mu (.inl rfl) (fun b q hb z=>(hs.2 b hb).trans z) he new
theorem dk_new {w:World} {kvs:List (Key×V)} {vs:List (Key×Value)} (z:kvs.length≤sizeLine) (hd:(a == sysModules)=false) (rel:KV kvs vs) (dd:h'.DictOf (mixKind P w) a vs) :
  ObjOk P w H' h' a (.dK kvs):=⟨z,hd,vs,rel,dd⟩
theorem d_setItem {Q:Unit→Shared→Prop} (hu:A.units+1<cLine) (I:Inv X pins σ H s) (g:DPut H a y v H') (ry:RelV y u) (rv:RelV v r) (h:∀s',Inv X pins σ H' s'→Q () s') :
  wpAny (model X.prog X.w) A (setItem (.ref a) u r) Q E s:=by
 rcases g with ⟨kvs,k,e,ey,l,eH⟩ | ⟨kvs,k,b,e,ey,eb,l,eH⟩
 ·subst ey eH;obtain ⟨z,hd,vs,rel,dd⟩:=dk_of I.hok e;have hz:vs.length≤sizeLine:=by rw [← rel.length]; exact z
  have hl:(putK kvs k v).length≤sizeLine:=by have:=length_putK kvs k v; omega
  refine wpAny_setItem_pairs (hsz:=hz) (kV_is ry) dd fun h' dd' hs=>h _ ?_;have he:∃q,h'.get? a=some q:=let ⟨q,_,_,hq,_⟩:=dd'; ⟨q,hq⟩;exact d_write I (by rw [e]; exact True.intro) hs he (dk_new hl hd (rel.put k rv) dd')
 ·subst ey eH;cases (show u=Value.ref b from ry);obtain ⟨z,hd,xs,rel,dd⟩:=dt_of I.hok e;have hz:xs.length≤sizeLine:=by rw [← Paired.length rel]; exact z
  have hl:(putK kvs k v).length≤sizeLine:=by have:=length_putK kvs k v; omega
  refine wpAny_setItem_heap (hsz:=hz) (tupleKind_room_in1 hu) (key_of I.hok eb) dd fun h' dd' hs=>h _ ?_;obtain ⟨q,es,ep,hq,h2,h3,h4,_,h5⟩:=dd';refine d_write I (by rw [e]; exact True.intro) hs ⟨q,hq⟩ ⟨hl,hd,_,(rel.put k eb rv).keeps fun c ys ec=>?_,q,es,ep,hq,h2,h3,h4,h5⟩;rw [upd_ne (ne_of ec e (fun z=>nomatch z))];exact ec
end
section
variable {kvs:List (Key×V)} {k:Key} {A:Around}
theorem d_len (I:Inv X pins σ H s) (e:Rd H a (.dK kvs)) (h:∀t s',Inv X pins σ H s'→Q (.int kvs.length t) s'):wpAny (model X.prog X.w) A (call (.builtin "len") [.ref a]) Q E s:=by obtain ⟨z,hd,vs,rel,dd⟩:=dk_rd I.hok e;refine call_len_dict hd dd (by rw [← rel.length]; rw [sizeLine_eq] at z; omega) ?_;rw [← rel.length];exact h _ _ (I.tok _)
end
def NoSl (i:Expr):Prop:=∀ov iv,subscripted i false ov iv=operate [ov,iv] (getItem ov iv)
variable {T:String} {value:Expr}
theorem subD_of {prog:Program} {w:World} {A:Around} {env:Env} {slice:Expr} {id:String}
  (hl:typeLookup (.type T) "__getitem__"=pure (some (.builtin id))) (hs:NoSl slice)
  (h:wpAny (model prog w) A (eval value env) (fun o s₁=>wpAny (model prog w) A (eval slice env) (fun i s₂=>s₂.TypeIs o T∧wpAny (model prog w) A (getItem o i) Q E s₂) E s₁) E s) :
  wpAny (model prog w) A (eval (.Subscript value slice pos) env) Q E s:=by
 refine Subscript_ (wpAny_mono h (fun o s₁ h₁=>wpAny_mono h₁ (fun i s₂ h₂=>?_) fun _ _ x=>x) fun _ _ x=>x);obtain ⟨hT,h₂⟩:=h₂;unfold subscriptTail;refine wpAny_bind ?_;rw [getitemInPython_of_ne hT.not_modules];refine wpAny_bind (wpAny_specialOf hT hl ?_);have fin:wpAny (model prog w) A (subscripted slice false o i) (fun r s₃=>wpAny (model prog w) A (letTemporaryGo value o r >>= fun _=>pure r) Q E s₃) E s₂:=by rw [hs o i];exact wpAny_operating (wpAny_mono h₂ (fun r s₃ h₃=>wpAny_bind (wpAny_letTemporaryGo (wpAny_pure h₃))) fun _ _ x=>x)
 first
  | exact wpAny_pure (wpAny_bind fin)
  | exact wpAny_bind (wpAny_pure (wpAny_bind fin))
  | exact wpAny_bind fin
theorem dict_typeIs {o:Option V} (I:Inv X pins σ H s) (g:DGet H a y o):s.TypeIs (.ref a) "dict":=by
 rcases g with ⟨kvs,k,e,_,_⟩ | ⟨kvs,k,b,e,_,_,_⟩
 ·obtain ⟨_,_,vs,_,dd⟩:=dk_rd I.hok e;exact dd.typeIs
 ·obtain ⟨_,_,xs,_,dd⟩:=dt_rd I.hok e;exact dd.typeIs
def tDGet (td ty:TE):TE:=fun σ H Q=>td σ H fun x H1=>ty σ H1 fun y H2=>∃a v,x=.ref a∧DGet H2 a y (some v)∧Q v H2
def tDIn (ty td:TE):TE:=fun σ H Q=>ty σ H fun y H1=>td σ H1 fun x H2=>∃a o,x=.ref a∧DGet H2 a y o∧Q (.bl o.isSome) H2
def sDPut (td ty tv:TE):TS:=fun D σ H=>tv σ H fun v H1=>td σ H1 fun x H2=>ty σ H2 fun y H3=>∃a H4,x=.ref a∧DPut H3 a y v H4∧D.nx σ H4
variable {pos' tpos:Pos} {td ty:TE}
section
variable {o i e:Expr} {tv:TE}
theorem pe_dget (hu:X.A.units+1<cLine) (ho:PE X o td) (hi:PE X i ty) (hs:NoSl i):PE X (.Subscript o i pos) (tDGet td ty):=by intro pins s σ H Q I h;refine subD_of PySem.F.slot_dict_getitem.lookup hs (thn (ho pins s σ H _ I h) fun u s1 ⟨x,H1,I1,rx,q1⟩=>thn (hi pins s1 σ H1 _ I1 q1) fun iv s2 hq9=>?_);obtain ⟨y,H2,I2,ry,a,v,ex,g,q2⟩:=hq9;subst ex;obtain rfl:u=Value.ref a:=rx;exact ⟨dict_typeIs I2 g,d_getItem hu I2 g ry fun w' s3 I3 rw'=>⟨v,H2,I3,rw',q2⟩⟩
theorem pc_din (hu:X.A.units+1<cLine) (hi:PE X i ty) (ho:PE X o td):PC X .In i o (tDIn ty td):=by intro pins s σ H Q I h;refine thn (hi pins s σ H _ I h) fun iv s1 ⟨y,H1,I1,ry,q1⟩=>thn (ho pins s1 σ H1 _ I1 q1) fun u s2 hq9=>?_;obtain ⟨x,H2,I2,rx,a,ov,ex,g,q2⟩:=hq9;subst ex;obtain rfl:u=Value.ref a:=rx;exact d_in hu I2 g ry fun s3 I3=>⟨.bl ov.isSome,H2,I3,rfl,q2⟩
theorem ps_dput (hu:X.A.units+1<cLine) (ho:PE X o td) (hi:PE X i ty) (hv:PE X value tv) (hs:swapsWith value (some (.Subscript o i pos')) pos.line X.env=pure false) :
  PS X (.Assign [.Subscript o i pos'] value pos) (sDPut td ty tv):=by
 intro pins s σ H D I h;refine wpAny_Assign_Subscript (thn (hv pins s σ H _ I h) fun r s1 ⟨v,H1,I1,rv,q1⟩=>thn (ho pins s1 σ H1 _ I1 q1) fun u s2 ⟨x,H2,I2,rx,q2⟩=>thn (hi pins s2 σ H2 _ I2 q2) fun iv s3 ⟨y,H3,I3,ry,a,H4,ex,g,q3⟩=>?_) hs;subst ex;obtain rfl:u=Value.ref a:=rx;exact d_setItem hu I3 g ry rv fun s4 I4=>⟨σ,H4,I4,q3⟩
end
theorem dk_empty {w:World} (h:Heap) (hb:sysModules<h.objs.size):ObjOk P w H (h.push { cls:=.type "dict",data:=.dict #[] }) h.objs.size (.dK []) :=
  ⟨Nat.zero_le _,beq_eq_false_iff_ne.mpr (Ne.symm (Nat.ne_of_lt hb)),[],.nil,Heap.DictOf.new h⟩
theorem dt_empty {w:World} (h:Heap) (hb:sysModules<h.objs.size):ObjOk P w H (h.push { cls:=.type "dict",data:=.dict #[] }) h.objs.size (.dT []) :=
  ⟨Nat.zero_le _,beq_eq_false_iff_ne.mpr (Ne.symm (Nat.ne_of_lt hb)),[],.nil,_,#[],0,Heap.get?_push_size _ rfl,⟨rfl,rfl,rfl⟩,rfl,rfl,List.nodup_nil⟩
def tDNewK:TE:=fun _ H Q=>∀p,H p=none→Q (.ref p) (upd H p (.dK []))
def tDNewT:TE:=fun _ H Q=>∀p,H p=none→Q (.ref p) (upd H p (.dT []))
theorem pe_dnewK:PE X (.Dict [] [] pos) tDNewK:=fun pins s σ H Q I h =>wpAny_Dict_empty ⟨.ref s.heap.objs.size,_,I.laid (a:=s.heap.objs.size) (o:=.dK []) (t':=s.toks) (fun _ _ q=>Heap.get?_push_of_some _ q) (Nat.le_refl _) (dk_empty s.heap I.big),rfl,h _ (I.hok.fresh (Nat.le_refl _))⟩
theorem pe_dnewT:PE X (.Dict [] [] pos) tDNewT:=fun pins s σ H Q I h =>wpAny_Dict_empty ⟨.ref s.heap.objs.size,_,I.laid (a:=s.heap.objs.size) (o:=.dT []) (t':=s.toks) (fun _ _ q=>Heap.get?_push_of_some _ q) (Nat.le_refl _) (dt_empty s.heap I.big),rfl,h _ (I.hok.fresh (Nat.le_refl _))⟩
structure M1 (X:Cx) (o:Expr) (m:Str) (apos:Pos) (e:Expr) (cpos:Pos):Prop where
 base:attributeBase o m X.env (eval o X.env)=eval o X.env
 few:((backTo cpos (starEach [e] X.env)).all (fun x=>!x.1) && (backToKw cpos (keywordEach [] X.env)).all (fun x=>x.1.isSome)
  && decide (([e]:List Expr).length+([]:List Keyword).length+(if ([]:List Keyword).isEmpty then 0 else 1)<30))=true
 line:(apos.endLine == cpos.line)=true
 trees:backTo cpos (starEach [e] X.env)=[(false,eval e X.env)]
def IsD (H:Hp) (a:Addr):Prop:=(∃kvs,Rd H a (.dK kvs))∨∃kvs,Rd H a (.dT kvs)
theorem isD_at (I:Inv X pins σ H s) (d:IsD H a) :
  s.TypeIs (.ref a) "dict"∧(∀b,Value.ref a=.ref b→∃ob,s.heap.get? b=some ob∧ob.dict=none)∧(a == sysModules)=false:=by
 rcases d with ⟨kvs,e⟩ | ⟨kvs,e⟩
 ·obtain ⟨_,hd,vs,_,dd⟩:=dk_rd I.hok e;refine ⟨dd.typeIs,fun b q=>?_,hd⟩;cases q;obtain ⟨ob,_,_,h1,h2,_⟩:=dd;exact ⟨ob,h1,h2.2.1⟩
 ·obtain ⟨_,hd,xs,_,dd⟩:=dt_rd I.hok e;refine ⟨dd.typeIs,fun b q=>?_,hd⟩;cases q;obtain ⟨ob,_,_,h1,h2,_⟩:=dd;exact ⟨ob,h1,h2.2.1⟩
section
variable {d:V} {r:Value} {o:Option V} {A:Around}
theorem d_get1 (hu:A.units+1<cLine) (I:Inv X pins σ H s) (g:DGet H a y o) (ry:RelV y u) (h:∀w' s',Inv X pins σ H s'→RelV (o.getD .non) w'→Q w' s') :
  wpAny (model X.prog X.w) A (call (.builtin "dict.get") [.ref a,u]) Q E s:=by
 rcases g with ⟨kvs,k,e,ey,l⟩ | ⟨kvs,k,b,e,ey,eb,l⟩
 ·subst ey;obtain ⟨z,hd,vs,rel,dd⟩:=dk_rd I.hok e;refine call_meetsIn PySem.F.slot_dict_get dd.typeIs PySem.F.entry_dict_get (PySem.F.args_dict_get_2 _ _) (meets_dict_get (mixKind X.prog X.w) a (kV_is ry) hd) ⟨_,dd.mapOf,h _ _ (I.tok _) ?_⟩;rw [l];exact (rel.val k).getD rfl
 ·subst ey;cases (show u=Value.ref b from ry);obtain ⟨z,hd,xs,rel,dd⟩:=dt_rd I.hok e;refine call_meetsIn PySem.F.slot_dict_get dd.typeIs PySem.F.entry_dict_get (PySem.F.args_dict_get_2 _ _) (meetsH_dict_get (tupleKind (mixKind X.prog X.w)) a b hd) ⟨tupleKind_room_in1 hu,k,xs,key_of I.hok eb,dd,h _ _ (I.tok _) ?_⟩;rw [l];exact (rel.val k).getD rfl
end
def tDGet1 (td ty:TE):TE:=fun σ H Q=>td σ H fun x H1=>∃a,x=.ref a∧IsD H1 a∧ty σ H1 fun y H2=>∃o,DGet H2 a y o∧Q (o.getD .non) H2
variable {cpos:Pos}
section
variable {o e f:Expr} {tx:TE}
theorem pe_dget1 (hu:X.A.units+1<cLine) (ho:PE X o td) (he:PE X e ty) (m:M1 X o "get" apos e cpos):PE X (.Call (.Attribute o "get" apos) [e] [] cpos) (tDGet1 td ty):=by intro pins s σ H Q I h;refine wpAny_Call_method m.base m.few m.line PySem.F.plainAttrs_dict PySem.F.slot_dict_get PySem.F.type_dict_get (thn (ho pins s σ H _ I h) fun u s1 hq9=>?_);obtain ⟨x,H1,I1,rx,a,ex,d,q1⟩:=hq9;subst ex;obtain rfl:u=Value.ref a:=rx;obtain ⟨t1,t2,_⟩:=isD_at I1 d;refine ⟨t1,t2,?_⟩;rw [m.trees];refine Calls.callWith_builtin rfl (Calls.evalArgs_plain (Calls.spliced_cons (thn (he pins s1 σ H1 _ I1 q1) fun iv s2 ⟨y,H2,I2,ry,ov,g,q2⟩=>Calls.spliced_nil ?_)));exact d_get1 hu I2 g ry fun w' s3 I3 rw'=>⟨_,H2,I3,rw',q2⟩
end
theorem call_lenD:CallR X (.builtin "len") (fun xs H Q=>∃a kvs,xs=[V.ref a]∧H a=some (.dK kvs)∧Q (.int kvs.length) H):=by intro pins s σ H xs us Q I r h;obtain ⟨a,kvs,rfl,ha,q⟩:=h;obtain ⟨u,rfl,ru⟩:=vals1 r;cases ru;exact d_len I (.inl ha) fun t s' I'=>⟨.int kvs.length,H,I',⟨t,rfl⟩,q⟩
def Sz (n:Nat) (i:Int):Prop:=i.natAbs<2 ^ n
theorem Sz.bits {i:Int} (h:Sz n i):Builtin.Int.intBits i≤n:=by
 unfold Builtin.Int.intBits;by_cases h0:(i == 0)=true
 ·rw [if_pos h0]; exact Nat.zero_le _
 ·rw [if_neg h0];have hi:i.natAbs≠0:=by
   have:i≠0:=by simpa using h0
   omega
  exact Nat.succ_le_of_lt ((Nat.log2_lt hi).mpr h)
theorem Sz.log {i:Int} (h:Sz n i) (hn:0<n):i.natAbs.log2<n:=by
 by_cases hi:i.natAbs=0
 ·rw [hi]; exact hn
 ·exact (Nat.log2_lt hi).mpr h
theorem Sz.mono {m:Nat} {i:Int} (h:Sz n i) (hm:n≤m):Sz m i:=Nat.lt_of_lt_of_le h (Nat.pow_le_pow_right (by decide) hm)
def CMulS (i j:Int):Prop:=CMul i j∨(Sz 100000 i∧Sz 100000 j)
theorem CMulS.ok {i j:Int} (h:CMulS i j):IntMulOk i j:=by
 rcases h with h | h
 ·exact h.ok
 ·exact IntMulOk.of_bits (Nat.le_trans h.1.bits (by decide)) (Nat.le_trans h.2.bits (by decide))
theorem op_mulS:OpR X (binaryOp .Mult) (rI CMulS fun i j=>.int (i * j)):=opI fun _ _ _ _ _ _ _ hc q=>mul_int q hc.ok
theorem op_fdivS:OpR X (binaryOp .FloorDiv) (rI (fun _ j=>j≠0∧Sz 9000 j) fun i j=>.int (i.fdiv j)) :=
 opI fun _ _ _ _ _ _ _ hc q=>floordiv_int hc.1 q (.inl (PyProof.noPylong_of_log2 (hc.2.log (by decide))))
theorem RelV.bool_iff {x:V} {v:Value} {b:Bool} (r:RelV x v):(v == Value.bool b)=decide (x=.bl b):=by
 cases x with
 | bl c =>
  cases (show v=Value.bool c from r);by_cases h:c=b
  ·subst h; simp
  ·have h1:¬V.bl c=V.bl b:=fun z=>h (V.bl.inj z);rw [decide_eq_false h1];exact beq_eq_false_iff_ne.mpr fun z=>h (by injection z)
 | non=>cases (show v=Value.none from r); rw [decide_eq_false (fun z=>nomatch z)]; exact beq_eq_false_iff_ne.mpr fun z=>nomatch z
 | int i=>obtain ⟨t,rfl⟩:=(show ∃t,v=Value.int i t from r); rw [decide_eq_false (fun z=>nomatch z)]; exact beq_eq_false_iff_ne.mpr fun z=>nomatch z
 | str i=>obtain ⟨t,rfl⟩:=(show ∃t,v=Value.str i t from r); rw [decide_eq_false (fun z=>nomatch z)]; exact beq_eq_false_iff_ne.mpr fun z=>nomatch z
 | byt i=>obtain ⟨t,rfl⟩:=(show ∃t,v=Value.bytes i t from r); rw [decide_eq_false (fun z=>nomatch z)]; exact beq_eq_false_iff_ne.mpr fun z=>nomatch z
 | flt i=>obtain ⟨t,rfl⟩:=(show ∃t,v=Value.float i t from r); rw [decide_eq_false (fun z=>nomatch z)]; exact beq_eq_false_iff_ne.mpr fun z=>nomatch z
 | ref i=>cases (show v=Value.ref i from r); rw [decide_eq_false (fun z=>nomatch z)]; exact beq_eq_false_iff_ne.mpr fun z=>nomatch z
 | ty i=>cases (show v=Value.type i from r); rw [decide_eq_false (fun z=>nomatch z)]; exact beq_eq_false_iff_ne.mpr fun z=>nomatch z
theorem plainIs_bool {x:V} {v:Value} {b:Bool} (r:RelV x v):plainIs v (.bool b)=true:=by
 cases x with
 | bl c=>cases (show v=Value.bool c from r); rfl
 | non=>cases (show v=Value.none from r); rfl
 | int i=>obtain ⟨t,rfl⟩:=(show ∃t,v=Value.int i t from r); rfl
 | str i=>obtain ⟨t,rfl⟩:=(show ∃t,v=Value.str i t from r); rfl
 | byt i=>obtain ⟨t,rfl⟩:=(show ∃t,v=Value.bytes i t from r); rfl
 | flt i=>obtain ⟨t,rfl⟩:=(show ∃t,v=Value.float i t from r); rfl
 | ref i=>cases (show v=Value.ref i from r); rfl
 | ty i=>cases (show v=Value.type i from r); rfl
theorem op_isB:OpR X (compareOp .Is) (fun x y H Q=>∃b,y=.bl b∧Q (.bl (decide (x=.bl b))) H):=by intro pins s σ H x y v u Q I rx ry h;obtain ⟨b,rfl,q⟩:=h;cases ry;exact wpAny_is_plain (plainIs_bool rx) (fin_bl I q (RelV.bool_iff rx).symm)
theorem op_isnotB:OpR X (compareOp .IsNot) (fun x y H Q=>∃b,y=.bl b∧Q (.bl (!decide (x=.bl b))) H):=by intro pins s σ H x y v u Q I rx ry h;obtain ⟨b,rfl,q⟩:=h;cases ry;exact wpAny_isNot_plain (plainIs_bool rx) (fin_bl I q (by rw [RelV.bool_iff rx]))
theorem call_isi:CallR X (.builtin "isinstance") (fun xs H Q=>∃x c t b,xs=[x,.ty c]∧TyOf X.K H x t∧PySem.W.kitOne X.K t (.type c)=some b∧Q (.bl b) H):=by intro pins s σ H xs us Q I r h;obtain ⟨x,c,t,b,rfl,ty,e,q⟩:=h;obtain ⟨u,w',rfl,ru,rw'⟩:=vals2 r;cases (show w'=Value.type c from rw');exact isinst_ok I ru ty e fun tk=>⟨.bl b,H,I.tok tk,rfl,q⟩
theorem call_isiC:CallR X (.builtin "isinstance") (fun xs H Q=>∃x C t b,xs=[x,.ref C]∧TyOf X.K H x t∧PySem.W.kitOne X.K t (.ref C)=some b∧Q (.bl b) H):=by intro pins s σ H xs us Q I r h;obtain ⟨x,c,t,b,rfl,ty,e,q⟩:=h;obtain ⟨u,w',rfl,ru,rw'⟩:=vals2 r;cases (show w'=Value.ref c from rw');exact isinst_ok I ru ty e fun tk=>⟨.bl b,H,I.tok tk,rfl,q⟩
mutual
inductive Dt (K:PySem.W.Frag) (H:Hp):V→PyData→Prop
 | non:Dt K H .non .none
 | bl (b:Bool):Dt K H (.bl b) (.bool b)
 | int (i:Int):Dt K H (.int i) (.int i)
 | str (x:Str):Dt K H (.str x) (.str x)
 | lst {a:Addr} {xs:List V} {ds:List PyData}:SqL K H a xs→Dts K H xs ds→Dt K H (.ref a) (.list ds)
 | tup {a:Addr} {xs:List V} {ds:List PyData}:SqT K H a xs→Dts K H xs ds→Dt K H (.ref a) (.tuple ds)
inductive Dts (K:PySem.W.Frag) (H:Hp):List V→List PyData→Prop
 | nil:Dts K H [] []
 | cons {v:V} {d:PyData} {vs:List V} {ds:List PyData}:Dt K H v d→Dts K H vs ds→Dts K H (v::vs) (d::ds)
end
mutual
theorem Dt.reads (I:Inv X pins σ H s):∀{v:V} {d:PyData} {u:Value},Dt X.K H v d→RelV v u→∃as,Reads s.heap u d as
 | _,_,_,.non,r=>by cases r; exact ⟨_,.none⟩
 | _,_,_,.bl b,r=>by cases r; exact ⟨_,.bool b⟩
 | _,_,_,.int i,r=>by obtain ⟨t,rfl⟩:=r; exact ⟨_,.int i t⟩
 | _,_,_,.str x,r=>by obtain ⟨t,rfl⟩:=r; exact ⟨_,.str x t⟩
 | _,_,_,.lst hq ds,r=>by obtain ⟨its,rv,⟨o,n,e,c,_,dd⟩,_⟩:=I.list hq;obtain ⟨as,ra⟩:=Dts.reads I ds rv;cases r;exact ⟨_,.list e c dd (by simpa using ra)⟩
 | _,_,_,.tup hq ds,r=>by obtain ⟨its,rv,⟨o,e,c,n,dd⟩,_⟩:=I.tuple hq;obtain ⟨as,ra⟩:=Dts.reads I ds rv;cases r;exact ⟨_,.tuple e c dd (by simpa using ra)⟩
theorem Dts.reads (I:Inv X pins σ H s):∀{vs:List V} {ds:List PyData} {us:List Value},Dts X.K H vs ds→Vals vs us→∃as,ReadsAll s.heap us ds as
 | _,_,_,.nil,r=>by cases r; exact ⟨_,.nil⟩
 | _,_,_,.cons h t,r=>by
  cases r with
  | cons p q =>obtain ⟨as,ra⟩:=Dt.reads I h p;obtain ⟨bs,rb⟩:=Dts.reads I t q;exact ⟨_,.cons ra rb⟩
end
def rEqD (K:PySem.W.Frag) (neg:Bool):R2:=fun x y H Q=>∃d e,Dt K H x d∧Dt K H y e∧d.canLay0=true∧e.canLay0=true∧min d.depth e.depth≤60∧Q (.bl (if neg then !PyData.eqv d e else PyData.eqv d e)) H
theorem op_eqD (hu:X.A.units+64<cLine):OpR X (compareOp .Eq) (rEqD X.K false):=by intro pins s σ H x y v u Q I rx ry h;obtain ⟨d,e,hd,he,c1,c2,dp,q⟩:=h;obtain ⟨as,ra⟩:=hd.reads I rx;obtain ⟨bs,rb⟩:=he.reads I ry;exact SeqAt.compareEq_reads ra rb c1 c2 (by omega) ⟨.bl _,H,I,rfl,q⟩
theorem op_neD (hu:X.A.units+64<cLine):OpR X (compareOp .NotEq) (rEqD X.K true):=by intro pins s σ H x y v u Q I rx ry h;obtain ⟨d,e,hd,he,c1,c2,dp,q⟩:=h;obtain ⟨as,ra⟩:=hd.reads I rx;obtain ⟨bs,rb⟩:=he.reads I ry;exact SeqAt.compareNe_reads ra rb c1 c2 (by omega) ⟨.bl _,H,I,rfl,q⟩
theorem Dts.ints (K:PySem.W.Frag) (H:Hp):∀ns:List Int,Dts K H (ns.map V.int) (ns.map PyData.int)
 | []=>.nil
 | n::r=>.cons (.int n) (Dts.ints K H r)
theorem same_new {p:Addr} (h:H p=none) (o:HO):Same H (upd H p o):=fun b u q=>by rw [upd_ne (ne_of_none q h)]; exact q
theorem Room.u64 {k:Nat} {A:Around} (r:Room k A):A.units+64<cLine:=r.units
theorem small (h:n≤1000):n≤sizeLine:=Nat.le_of_lt (small1000 h)
section
open PySem
theorem bt_int:bootBuiltins "int"=some (.type "int"):=by decide +kernel
theorem bt_str:bootBuiltins "str"=some (.type "str"):=by decide +kernel
theorem bt_bool:bootBuiltins "bool"=some (.type "bool"):=by decide +kernel
theorem bt_list:bootBuiltins "list"=some (.type "list"):=by decide +kernel
theorem bt_tuple:bootBuiltins "tuple"=some (.type "tuple"):=by decide +kernel
theorem bt_dict:bootBuiltins "dict"=some (.type "dict"):=by decide +kernel
theorem bt_set:bootBuiltins "set"=some (.type "set"):=by decide +kernel
theorem bt_len:bootBuiltins "len"=some (.builtin "len"):=by decide +kernel
theorem bt_max:bootBuiltins "max"=some (.builtin "max"):=by decide +kernel
theorem bt_min:bootBuiltins "min"=some (.builtin "min"):=by decide +kernel
theorem bt_isinstance:bootBuiltins "isinstance"=some (.builtin "isinstance"):=by decide +kernel
theorem bt_sorted:bootBuiltins "sorted"=some (.builtin "sorted"):=by decide +kernel
theorem bt_all:bootBuiltins "all"=some (.builtin "all"):=by decide +kernel
end
variable {elt iter:Expr} {ifs:List Expr} {scope:Scope}
section
variable {prog:Program} {w:World} {A:Around}
theorem compLoop_any {target:Expr} {it acc:Value} {env:Env} (I:Nat→Shared→Prop)
  (turn:∀n s,I n s→wpAny (model prog w) A (pyNext it) (fun r s₁=>match r with
   | none=>R (.ok .next) s₁
   | some v=>wpAny (model prog w) A (letOwnedTupleGo target it v) (fun _ s₁'=>wpAny (model prog w) A (assign target env v) (fun _ s₂ =>
     wpAny (model prog w) A (forIn ifs true fun c r=>if r=true then do let ok ← isTrue c env (eval c env); pure (ForInStep.yield ok) else pure (ForInStep.yield r)) (fun ok s₃ =>
      if ok=true then wpAny (model prog w) A (eval elt env) (fun x s₄ =>wpAny (model prog w) A (call (.builtin "list.append") [acc,x]) (fun _ s₅=>∃m,m<n∧I m s₅) (fun _ _=>False) s₄) (fun _ _=>False) s₃
      else ∃m,m<n∧I m s₃) (fun _ _=>False) s₂) (fun _ _=>False) s₁') (fun _ _=>False) s₁) (fun _ _=>False) s)
  (n:Nat) (h:I n s) :
  codeAny (model prog w) A (.compLoop (.ListComp elt [⟨target,iter,ifs,0⟩] scope pos) 0 it acc env) R s:=by
 have up:∀{α:Type} {m:Sem α} {Q:α→Shared→Prop} {E:Value→Shared→Prop} {s:Shared},wpAny (model prog w) A m Q (fun _ _=>False) s→wpAny (model prog w) A m Q E s:=fun h=>wpAny_mono h (fun _ _ q=>q) fun _ _ f=>f.elim;refine codeAny_loop rfl I (fun n s hI=>?_) n h;show wpAny _ A ((compTurn (.ListComp elt [⟨target,iter,ifs,0⟩] scope pos) 0 it acc env).onRaise (fun x=>do noteFrame x env; theTreesLotGoes x)) _ _ s;refine wpAny_noted ?_;rw [compTurn_list];refine wpAny_bind (wpAny_standAt (wpAny_bind (wpAny_mono (up (turn n s hI)) (fun r s₁ h₁=>?_) fun _ _ h'=>h')));cases r with
 | none=>exact wpAny_pure h₁
 | some v =>
  refine wpAny_bind (wpAny_mono (up h₁) (fun _ s₁' h₁'=>?_) fun _ _ h'=>h');refine wpAny_bind (wpAny_mono (up h₁') (fun _ s₂ h₂=>wpAny_bind (wpAny_mono (up h₂) (fun ok s₃ h₃=>?_) fun _ _ h'=>h')) fun _ _ h'=>h');cases ok with
  | false=>exact wpAny_pure ⟨rfl,h₃⟩
  | true =>exact wpAny_bind (wpAny_bind (wpAny_mono (up h₃) (fun x s₄ h₄=>wpAny_bind (wpAny_mono (up h₄) (fun _ s₅ h₅=>wpAny_pure (wpAny_pure ⟨rfl,h₅⟩)) fun _ _ h'=>h')) fun _ _ h'=>h'))
end
theorem closure_ex {env:Env}:∀(names:List (Str×NameKind)) (acc:List (Str×Addr)),(∀x∈names,x.2=.free→∃c,env.cells.lookup x.1=some c)→(∀y c,acc.lookup y=some c→env.cells.lookup y=some c) →
  ∃cl,(forIn names acc fun (x:Str×NameKind) (cs:List (Str×Addr))=>if (x.2 == NameKind.free)=true then do let a ← cellOf env x.1; pure (ForInStep.yield ((x.1,a)::cs)) else pure (ForInStep.yield cs):Sem (List (Str×Addr)))=pure cl ∧
   (∀y c,cl.lookup y=some c→env.cells.lookup y=some c)∧(∀x∈names,x.2=.free→∃c,cl.lookup x.1=some c)∧∀y c,acc.lookup y=some c→∃c',cl.lookup y=some c'
 | [],acc,_,ha=>⟨acc,rfl,ha,fun _ h=>(nomatch h),fun y c h=>⟨c,h⟩⟩
 | (n,k)::r,acc,hn,ha=>by
  by_cases hk:k=.free
  ·subst hk;obtain ⟨c,hc⟩:=hn (n,.free) List.mem_cons_self rfl;have e1:cellOf env n=pure c:=by unfold cellOf; rw [hc]
   have ha':∀y d,((n,c)::acc).lookup y=some d→env.cells.lookup y=some d:=fun y d h=>by
    rw [List.lookup_cons] at h;cases hy:y == n with
    | true =>rw [hy] at h;have:y=n:=eq_of_beq hy;subst this;cases h;exact hc
    | false=>rw [hy] at h; exact ha y d h
   obtain ⟨cl,h1,h2,h3,h4⟩:=closure_ex r ((n,c)::acc) (fun x hx=>hn x (List.mem_cons_of_mem _ hx)) ha';refine ⟨cl,?_,h2,?_,?_⟩
   ·rw [List.forIn_cons];simp only [beq_self_eq_true,if_true,e1,pure_bind];exact h1
   ·intro x hx hf;rcases List.mem_cons.mp hx with rfl | hx
    ·exact h4 n c (by rw [List.lookup_cons,beq_self_eq_true])
    ·exact h3 x hx hf
   ·intro y d hy;cases hb:y == n with
    | true=>exact h4 y c (by rw [List.lookup_cons,hb])
    | false=>exact h4 y d (by rw [List.lookup_cons,hb]; exact hy)
  ·have hb:(k == NameKind.free)=false:=by simpa using hk
   obtain ⟨cl,h1,h2,h3,h4⟩:=closure_ex r acc (fun x hx=>hn x (List.mem_cons_of_mem _ hx)) ha;refine ⟨cl,?_,h2,?_,h4⟩
   ·rw [List.forIn_cons];simp only [hb,Bool.false_eq_true,if_false,pure_bind];exact h1
   ·intro x hx hf;rcases List.mem_cons.mp hx with rfl | hx
    ·exact absurd hf hk
    ·exact h3 x hx hf
theorem cf_cell (n:Nat) (a:Str) (r:List (Str×NameKind)) (acc:List (Str×Addr)):cellsFrom n ((a,.cell)::r) acc=cellsFrom (n+1) r ((a,n)::acc):=rfl
theorem cf_not {k:NameKind} (hk:k≠.cell) (n:Nat) (a:Str) (r:List (Str×NameKind)) (acc:List (Str×Addr)):cellsFrom n ((a,k)::r) acc=cellsFrom n r acc:=by cases k <;> first | rfl | exact absurd rfl hk
def ncell (names:List (Str×NameKind)):Nat:=(names.filter fun y=>y.2 == NameKind.cell).length
theorem nc_cell (a:Str) (r:List (Str×NameKind)):ncell ((a,.cell)::r)=ncell r+1:=by unfold ncell; rw [List.filter_cons_of_pos (by rfl),List.length_cons]
theorem nc_not {k:NameKind} (hk:k≠.cell) (a:Str) (r:List (Str×NameKind)):ncell ((a,k)::r)=ncell r:=by unfold ncell; rw [List.filter_cons_of_neg (by simpa using hk)]
theorem cf_at:∀(names:List (Str×NameKind)) (n:Nat) (acc:List (Str×Addr)) {x:Str} {c:Nat},(cellsFrom n names acc).lookup x=some c→(n≤c∧c<n+ncell names∧(x,NameKind.cell)∈names)∨(acc.lookup x=some c∧(x,NameKind.cell)∉names)
 | [],_,_,_,_,h=>.inr ⟨h,by simp⟩
 | (a,k)::r,n,acc,x,c,h=>by
  by_cases hk:k=.cell
  ·subst hk;rw [cf_cell] at h;rcases cf_at r (n+1) _ h with ⟨h1,h2,h3⟩ | ⟨h1,h2⟩
   ·refine .inl ⟨by omega,?_,List.mem_cons_of_mem _ h3⟩;rw [nc_cell]; omega
   ·rw [List.lookup_cons] at h1;cases hx:x == a with
    | true =>rw [hx] at h1;cases h1;refine .inl ⟨Nat.le_refl _,?_,by rw [eq_of_beq hx]; exact List.mem_cons_self⟩;rw [nc_cell]; omega
    | false =>
     rw [hx] at h1;refine .inr ⟨h1,fun z=>?_⟩;rcases List.mem_cons.mp z with z | z
     ·cases z; simp at hx
     ·exact h2 z
  ·rw [cf_not hk] at h;have hf:=nc_not hk a r;rw [hf];rcases cf_at r n _ h with ⟨h1,h2,h3⟩ | ⟨h1,h2⟩
   ·exact .inl ⟨h1,h2,List.mem_cons_of_mem _ h3⟩
   ·refine .inr ⟨h1,fun z=>?_⟩;rcases List.mem_cons.mp z with z | z
    ·cases z; exact hk rfl
    ·exact h2 z
theorem cf_out:∀(names:List (Str×NameKind)) (n:Nat) (acc:List (Str×Addr)) {x:Str},(x,NameKind.cell)∉names→(cellsFrom n names acc).lookup x=acc.lookup x
 | [],_,_,_,_=>rfl
 | (a,k)::r,n,acc,x,h=>by
  have hr:(x,NameKind.cell)∉r:=fun z=>h (List.mem_cons_of_mem _ z);by_cases hk:k=.cell
  ·subst hk;rw [cf_cell,cf_out r _ _ hr,List.lookup_cons];cases hx:x == a with
   | true=>exact absurd (by rw [eq_of_beq hx]; exact List.mem_cons_self) h
   | false=>rfl
  ·rw [cf_not hk,cf_out r _ _ hr]
theorem cf_inj:∀(names:List (Str×NameKind)) (n:Nat) (acc:List (Str×Addr)),(∀x y c,acc.lookup x=some c→acc.lookup y=some c→x=y)→(∀x c,acc.lookup x=some c→c<n)→∀x y c,(cellsFrom n names acc).lookup x=some c→(cellsFrom n names acc).lookup y=some c→x=y
 | [],_,_,h,_=>h
 | (a,k)::r,n,acc,h,hb=>by
  by_cases hk:k=.cell
  ·subst hk;rw [cf_cell];refine cf_inj r (n+1) _ (fun x y c e e'=>?_) fun x c e=>?_
   ·rw [List.lookup_cons] at e e';cases hx:x == a with
    | true =>
     rw [hx] at e;cases e;cases hy:y == a with
     | true=>rw [eq_of_beq hx,eq_of_beq hy]
     | false=>rw [hy] at e'; exact absurd (hb _ _ e') (Nat.lt_irrefl _)
    | false =>
     rw [hx] at e;cases hy:y == a with
     | true=>rw [hy] at e'; cases e'; exact absurd (hb _ _ e) (Nat.lt_irrefl _)
     | false=>rw [hy] at e'; exact h x y c e e'
   ·rw [List.lookup_cons] at e;cases hx:x == a with
    | true=>rw [hx] at e; cases e; exact Nat.lt_succ_self _
    | false=>rw [hx] at e; exact Nat.lt_succ_of_lt (hb _ _ e)
  ·rw [cf_not hk];exact cf_inj r n acc h hb
theorem cells_make {M:Model} {A:Around} {E:Value→Shared→Prop}:∀(names:List (Str×NameKind)) (cells:List (Str×Addr)) (s:Shared) (Q:List (Str×Addr)→Shared→Prop),
    (∀h':Heap,(∀b o,s.heap.get? b=some o→h'.get? b=some o)→(∀c,s.heap.objs.size≤c→c<s.heap.objs.size+ncell names→h'.IsCell c none)→Q (cellsFrom s.heap.objs.size names cells) { s with heap:=h' }) →
    wpAny M A (forIn names cells fun (x:Str×NameKind) (cells:List (Str×Addr))=>if (x.2 == NameKind.cell)=true then do let a ← alloc { cls:=Value.type "cell",data:=Data.cell none }; pure (ForInStep.yield ((x.1,a)::cells)) else pure (ForInStep.yield cells)) Q E s
  | [],cells,s,Q,h=>by have:=h s.heap (fun _ _ e=>e) (fun c h1 h2=>by rw [show ncell []=0 from rfl] at h2; omega);rw [List.forIn_nil];exact wpAny_pure this
  | (a,k)::r,cells,s,Q,h=>by
    rw [List.forIn_cons];by_cases hk:k=.cell
    · subst hk;simp only [beq_self_eq_true,if_true,bind_assoc,pure_bind];refine wpAny_bind (wpAny_alloc ?_);have ih:=cells_make (M:=M) (A:=A) (E:=E) r ((a,s.heap.objs.size)::cells) { s with heap:=s.heap.push { cls:=Value.type "cell",data:=Data.cell none } } Q (fun h' k1 k2=>by
        have hz:(s.heap.push { cls:=Value.type "cell",data:=Data.cell none }).objs.size=s.heap.objs.size+1:=Heap.size_push _ _;have:=h h' (fun b o e=>k1 b o (Heap.get?_push_of_some _ e)) (fun c h1 h2=>by
          rw [nc_cell] at h2;by_cases hc:c=s.heap.objs.size
          · subst hc;exact ⟨_,k1 _ _ (Heap.get?_push_size _ rfl),rfl⟩
          · exact k2 c (by show (s.heap.push _).objs.size≤c; rw [hz]; omega) (by show c<(s.heap.push _).objs.size+_; rw [hz]; omega))
        rw [cf_cell] at this;have e:(({ s with heap:=s.heap.push { cls:=Value.type "cell",data:=Data.cell none } }:Shared)).heap.objs.size=s.heap.objs.size+1:=hz;rw [e];exact this)
      exact ih
    · have hb:(k == NameKind.cell)=false:=by simpa using hk
      simp only [hb,Bool.false_eq_true,if_false,pure_bind];refine cells_make r cells s Q fun h' k1 k2=>?_;have hf:=nc_not hk a r;have:=h h' k1 (by rw [hf]; exact k2);rw [cf_not hk] at this;exact this
variable {qual:Str}
theorem newEnv_cells {A:Around} {globals:Addr} {closure:List (Str×Addr)} {code:Value} {out:Env} {builtins:Addr} {Q:Env→Shared→Prop}
    (h:∀h':Heap,(∀b o,s.heap.get? b=some o→h'.get? b=some o)→h'.Ns s.heap.objs.size (fun _=>none)→(∀c,s.heap.objs.size+1≤c→c<s.heap.objs.size+1+ncell scope.names→h'.IsCell c none) →
      Q (newEnv scope s.heap.objs.size globals (cellsFrom (s.heap.objs.size+1) scope.names closure) qual none code (some out) builtins) { s with heap:=h' }) :
    wpAny M A (newFunctionEnv scope globals closure [] qual none code (some out) builtins) Q E s:=by
  unfold newFunctionEnv;refine wpAny_bind (wpAny_alloc ?_);have hz:(s.heap.push { cls:=Value.type "dict",data:=Data.dict #[] }).objs.size=s.heap.objs.size+1:=Heap.size_push _ _;refine wpAny_bind (cells_make scope.names closure { s with heap:=s.heap.push { cls:=Value.type "dict",data:=Data.dict #[] } } _ fun h' k1 k2=>?_);have hz':(({ s with heap:=s.heap.push { cls:=Value.type "dict",data:=Data.dict #[] } }:Shared)).heap.objs.size=s.heap.objs.size+1:=hz;rw [hz'] at k2 ⊢;dsimp only;rw [List.forIn_nil];refine wpAny_bind (wpAny_pure (wpAny_pure ?_));exact h h' (fun b o e=>k1 b o (Heap.get?_push_of_some _ e)) ((Heap.Ns.new s.heap _).keeps k1) k2
def cxB (X:Cx) (scope:Scope) (cl:List (Str×Addr)) (N:List Str) (C:Addr) (fp:List Addr) (s₀:Shared) (H₀:Hp):Cx :=
 { X with N:=N,s₀:=s₀,H₀:=H₀,env:=compEnvC scope cl C X.env,outer:=X.stack,stack:=X.stack,ex:=fp,fn:=fun x=>scope.names.lookup x == some .cell,pn:=[],xe:=fun _ _=>False }
structure BlkOk (X:Cx) (scope:Scope) (N:List Str) (own:Nat) (cap:List Nat):Prop where
 kind:scope.kind=.function
 cells:∀x∈scope.names,x.2=.cell→scope.names.lookup x.1=some .cell
 locs:∀x∈scope.names,x.2=.local→scope.names.lookup x.1=some .local
 free:∀x∈scope.names,x.2=.free→X.env.kindOf x.1=some .cell∨X.env.kindOf x.1=some .free
 len:N.length=own+cap.length
 caps:∀(j:Nat) (x:Str),N[own+j]?=some x→∃i,cap[j]?=some i∧X.N[i]?=some x∧(scope.names.lookup x=some .free)
variable {α β:Type}
theorem lookup_mem {α β:Type} [BEq α] [LawfulBEq α] {x:α} {y:β}:∀{l:List (α×β)},l.lookup x=some y→(x,y)∈l
 | [],h=>by simp at h
 | (a,b)::r,h=>by
  rw [List.lookup_cons] at h;cases hb:x == a with
  | true=>rw [hb] at h; cases h; rw [eq_of_beq hb]; exact List.mem_cons_self
  | false=>rw [hb] at h; exact List.mem_cons_of_mem _ (lookup_mem h)
theorem relabel_free {env:Env} {x:Str}:∀{names:List (Str×NameKind)},names.lookup x=some .free →
  (names.map fun (n,k)=>if (k == NameKind.free && env.scope.kind == .function && env.kindOf n == some .cell) then (n,NameKind.cell) else (n,k)).lookup x=some .cell ∨
  (names.map fun (n,k)=>if (k == NameKind.free && env.scope.kind == .function && env.kindOf n == some .cell) then (n,NameKind.cell) else (n,k)).lookup x=some .free
 | [],h=>by simp at h
 | (n,k)::r,h=>by
  rw [List.lookup_cons] at h;rw [List.map_cons];cases hx:x == n with
  | true =>
   rw [hx] at h;cases h;by_cases hc:(NameKind.free == NameKind.free && env.scope.kind == .function && env.kindOf n == some .cell)=true
   ·left;simp only [hc,if_true,List.lookup_cons,hx]
   ·right;simp only [hc,if_false,List.lookup_cons,hx,Bool.false_eq_true]
  | false =>
   rw [hx] at h;rcases relabel_free (env:=env) h with q | q
   ·left;by_cases hc:(k == NameKind.free && env.scope.kind == .function && env.kindOf n == some .cell)=true
    ·simp only [hc,if_true,List.lookup_cons,hx]; exact q
    ·simp only [hc,if_false,List.lookup_cons,hx,Bool.false_eq_true]; exact q
   ·right;by_cases hc:(k == NameKind.free && env.scope.kind == .function && env.kindOf n == some .cell)=true
    ·simp only [hc,if_true,List.lookup_cons,hx]; exact q
    ·simp only [hc,if_false,List.lookup_cons,hx,Bool.false_eq_true]; exact q
theorem relabel_backC {env:Env} {x:Str}:∀{names:List (Str×NameKind)},((names.map fun (n,k)=>if (k == NameKind.free && env.scope.kind == .function && env.kindOf n == some .cell) then (n,NameKind.cell) else (n,k)).lookup x=some .cell ∨
  (names.map fun (n,k)=>if (k == NameKind.free && env.scope.kind == .function && env.kindOf n == some .cell) then (n,NameKind.cell) else (n,k)).lookup x=some .free)→(x,NameKind.free)∈names∨(x,NameKind.cell)∈names
 | [],h=>by simp at h
 | (n,k)::r,h=>by
  rw [List.map_cons] at h;cases hx:x == n with
  | true =>
   have e:x=n:=eq_of_beq hx;by_cases hc:(k == NameKind.free && env.scope.kind == .function && env.kindOf n == some .cell)=true
   ·have:k=.free:=by rw [Bool.and_eq_true,Bool.and_eq_true] at hc;exact eq_of_beq hc.1.1
    left;rw [e,this]; exact List.mem_cons_self
   ·simp only [hc,if_false,List.lookup_cons,hx,Bool.false_eq_true] at h;rcases h with h | h
    ·cases h; right; rw [e]; exact List.mem_cons_self
    ·cases h; left; rw [e]; exact List.mem_cons_self
  | false =>
   refine (relabel_backC (env:=env) (names:=r) ?_).imp (List.mem_cons_of_mem _) (List.mem_cons_of_mem _);by_cases hc:(k == NameKind.free && env.scope.kind == .function && env.kindOf n == some .cell)=true
   ·simpa only [hc,if_true,List.lookup_cons,hx] using h
   ·simpa only [hc,if_false,List.lookup_cons,hx,Bool.false_eq_true] using h
def capsOf (σ:St) (cap:List Nat):St:=cap.map fun i=>(σ[i]?).join
variable {cap:List Nat} {i j:Nat}
theorem capsOf_get (hj:cap[j]?=some i) (h:(capsOf σ cap)[j]?=some (some v)):σ[i]?=some (some v):=by
 unfold capsOf at h;rw [List.getElem?_map,hj] at h;cases e:σ[i]? with
 | none=>rw [Option.map_some,e] at h; cases h
 | some o =>
  rw [Option.map_some,e] at h;cases o with
  | none=>cases h
  | some u=>exact h
variable {fp:List Addr}
theorem blk_start {cl:List (Str×Addr)} {N:List Str} {own:Nat} {h₁:Heap} {m₀:Str→Option Value} (B:BlkOk X scope N own cap) (I:Inv X pins σ H s)
    (c1:∀y c,cl.lookup y=some c→X.env.cells.lookup y=some c) (c2:∀x∈scope.names,x.2=.free→∃c,cl.lookup x.1=some c)
    (hf:∀b∈fp,FpOk X pins H b) (hfo:∀b∈fp,b<s.heap.objs.size) (hns:h₁.Ns s.heap.objs.size m₀) (k:∀b o,s.heap.get? b=some o→h₁.get? b=some o)
    (hcs:∀c,s.heap.objs.size+1≤c→c<s.heap.objs.size+1+ncell scope.names→h₁.IsCell c none) :
    Inv (cxB X scope (cellsFrom (s.heap.objs.size+1) scope.names cl) N s.heap.objs.size fp s H) [] (List.replicate own none++capsOf σ cap) H { s with heap:=h₁,toks:=t' } :=
  have low:∀x c,cl.lookup x=some c→c<s.heap.objs.size:=fun x c e=>by obtain ⟨v,o,q,_⟩:=I.cell x c (c1 x c e);exact Heap.lt_size q
  { ok:={
      mod:=I.mod
      kind:=B.kind
      glob:=I.ok.glob
      blt:=I.ok.blt
      above:=Nat.le_refl _
      inj:=cf_inj _ _ _ (fun x y c e e'=>I.ok.inj x y c (c1 x c e) (c1 y c e')) fun x c e=>Nat.lt_succ_of_lt (low x c e)
      has:=fun x hx=>by
        refine Option.isSome_iff_exists.mp (PySem.W.cellsFrom_some scope.names _ _ ?_);rcases relabel_backC hx with q | q
        · right;obtain ⟨c,e⟩:=c2 _ q rfl
          rw [e]; rfl
        · exact .inl (B.cells _ q rfl)
      cab:=fun x c e e'=>by
        have hx:scope.names.lookup x=some .cell:=eq_of_beq e;rcases cf_at _ _ _ e' with ⟨h1,_⟩ | ⟨_,h2⟩
        · exact Nat.le_of_succ_le h1
        · exact absurd (lookup_mem hx) h2
      hd:=I.ok.hd
      frames:=I.ok.frames
      stk:=.inl rfl
      exf:=fun b hb=>⟨Nat.ne_of_lt (hfo b hb),fun x c e=>by
        rcases cf_at _ _ _ e with ⟨h1,_⟩ | ⟨h1,_⟩
        · exact fun z=>absurd (hfo b hb) (by rw [← z]; exact Nat.not_lt.mpr (Nat.le_of_succ_le h1))
        · exact (hf b hb).2.2.2.2.1 x c (c1 x c h1)⟩
      bs:=I.bs
      bsz:=Nat.le_trans I.ok.bsz I.sz
      noex:=fun b o e hb=>by
        rcases (hf b hb).2.2.2.1 with q | q
        · exact I.ok.noex b o e q
        · exact absurd (Nat.lt_of_lt_of_le (Heap.lt_size e) I.ok.bsz) (Nat.not_lt.mpr q)
      exfs:=fun b hb hz=>by
        rcases List.mem_cons.mp (I.stkSub b hz) with q | q
        · exact (hf b hb).2.1 q
        · exact (hf b hb).2.2.1 q
      funs:=I.stack
      frf:=I.stkFree }
    os:=rfl
    bare:=I.bare
    base:=Un.kept k
    loc:=by
      refine ⟨m₀,hns,fun i x v hN hσ hv=>?_⟩;by_cases hi:i<own
      · rw [List.getElem?_append_left (by rw [List.length_replicate]; exact hi),List.getElem?_replicate,if_pos hi] at hσ;cases hσ
      · obtain ⟨j,rfl⟩:∃j,i=own+j:=⟨i-own,by omega⟩;obtain ⟨i',e1,e2,e3⟩:=B.caps j x hN;rw [List.getElem?_append_right (by rw [List.length_replicate]; omega),List.length_replicate,Nat.add_sub_cancel_left] at hσ;have hσ':=capsOf_get e1 hσ;have hk:=B.free (x,.free) (lookup_mem e3) rfl;obtain ⟨m,hm,hl⟩:=I.loc;obtain ⟨u,ru,hu⟩:=hl i' x v e2 hσ' (.inr hk);refine ⟨u,ru,?_⟩;rcases hu with ⟨q,_⟩ | ⟨_,c,hc,ic⟩
        · rcases hk with hk | hk
          · rw [hk] at q; cases q
          · rw [hk] at q; cases q
        · obtain ⟨c',hc'⟩:=c2 (x,.free) (lookup_mem e3) rfl;have ec:=c1 x c' hc';rw [hc] at ec;cases ec;have hn:(x,NameKind.cell)∉scope.names:=fun z=>by have:=B.cells _ z rfl;rw [e3] at this;cases this
          exact .inr ⟨relabel_free e3,c,by show (cellsFrom _ _ _).lookup x=_; rw [cf_out _ _ _ hn]; exact hc',ic.keeps k⟩
    cell:=fun x c e=>by
      rcases cf_at _ _ _ e with ⟨h1,h2,_⟩ | ⟨h1,_⟩
      · exact ⟨none,hcs c h1 h2⟩
      · obtain ⟨v,q⟩:=I.cell x c (c1 x c h1);exact ⟨v,q.keeps k⟩
    free:=I.hok.fresh (Nat.le_refl _)
    freeC:=fun x c e=>by
      rcases cf_at _ _ _ e with ⟨h1,_⟩ | ⟨h1,_⟩
      · exact I.hok.fresh (Nat.le_of_succ_le h1)
      · exact I.freeC x c (c1 x c h1)
    pin:=fun p hp=>(nomatch hp)
    hok:=I.hok.kept k
    len:=by show (List.replicate own none++capsOf σ cap).length=N.length;rw [List.length_append,List.length_replicate,B.len];unfold capsOf;rw [List.length_map] }
def tNoTest:TT:=fun _ H Q=>Q true H
def PTs (X:Cx) (ifs:List Expr) (t:TT):Prop :=
 ∀(pins:List (Addr×Obj)) (s:Shared) (σ:St) (H:Hp) (Q:Bool→Hp→Prop),Inv X pins σ H s→t σ H Q →
  wpAny (model X.prog X.w) X.A (forIn ifs true fun c r=>if r=true then do let ok ← isTrue c X.env (eval c X.env); pure (ForInStep.yield ok) else pure (ForInStep.yield r)) (TP X pins σ Q) X.xe s
theorem pts_nil:PTs X [] tNoTest:=fun _ _ _ H _ I h=>wpAny_tests_nil ⟨H,I,h⟩
variable {c:Expr}
theorem pts_one {t:TT} (h:PT X c t):PTs X [c] t:=fun pins s σ H Q I q=>wpAny_tests_one (h pins s σ H Q I q)
def tComp (wi:TI) (own:Nat) (cap:List Nat) (g:TG) (tt:TT) (te:TE):TE:=fun σ H Q=>wi σ H fun J H1=>∀D,H1 D=none→∃W:Nat→Nat→List V→Hp→Prop,(∃m,W 0 m [] (upd H1 D (.lst []))) ∧
 ∀i m ys H2,W i m ys H2→H2 D=some (.lst ys)∧((J.stop i H2∧Q (.ref D) H2)∨(J.go i H2∧ys.length<sizeLine∧∀x H3,J.yld i H2 x H3→g x (List.replicate own none++capsOf σ cap) H3 fun σ2 H4=>tt σ2 H4 fun b H5 =>if b=true then te σ2 H5 fun y H6=>H6 D=some (.lst ys)∧∃m',m'<m∧W (i+1) m' (ys++[y]) (upd H6 D (.lst (ys++[y]))) else ∃m',m'<m∧W (i+1) m' ys H5))
def keepsCaps (own:Nat) (g:TG):Prop:=∀v σ H Q,g v σ H Q→g v σ H fun σ' H'=>Q σ' H'∧σ'.length = σ.length∧∀i,own≤i→σ'[i]? = σ[i]?
theorem keeps_name (i own:Nat) (h:i<own):keepsCaps own (gName i):=fun v σ H Q q=>⟨q,by rw [List.length_set],fun j hj=>by rw [List.getElem?_set_ne (by omega)]⟩
variable {g:TG} {tg:Expr} {tt:TT} {wi:TI}
theorem comp_run {QV:VK} {use:Option (Value→Sem Unit)} {Q0:Value→Shared→Prop} {pos2:Pos} {N:List Str} {own:Nat} {c:Prop} (B:BlkOk X scope N own cap) (hc:c) (hi:PIc X c tg iter wi)
    (kg:keepsCaps own g)
    (hg:∀cl C fp s₀ H₀,PG (cxB X scope cl N C fp s₀ H₀) tg g) (ht:∀cl C fp s₀ H₀,PTs (cxB X scope cl N C fp s₀ H₀) ifs tt) (he:∀cl C fp s₀ H₀,PE (cxB X scope cl N C fp s₀ H₀) elt te)
    (hs:∀x,foldedSetIterable iter X.env x=pure x) (I:Inv X pins σ H s) (h:tComp wi own cap g tt te σ H QV)
    (fin:∀(D C:Addr) (H5:Hp) (s6:Shared) (r:Flow),QV (.ref D) H5→Inv X pins σ H5 s6→FpOk X pins H5 C→(∃m,s6.heap.Ns C m)→compPost (model X.prog X.w) X.A X.xe use Q0 (.ref D) C (.ok r) s6) :
    wpAny (model X.prog X.w) X.A (comprehension (.ListComp elt [⟨tg,iter,ifs,0⟩] scope pos) scope X.env pos2 (newList []) false (eval iter X.env) use) Q0 X.xe s:=by
  obtain ⟨cl,hcl,c1,c2,_⟩:=closure_ex (env:=X.env) scope.names [] (fun x hx hf=>I.ok.has x.1 (B.free x hx hf)) (fun y c e=>by simp at e);have hclos:closureFor scope X.env=pure cl:=by have e:closureFor scope X.env=(forIn scope.names ([]:List (Str×Addr)) (fun (x:Str×NameKind) (cs:List (Str×Addr))=>if (x.2 == NameKind.free)=true then do let a ← cellOf X.env x.1; pure (ForInStep.yield ((x.1,a)::cs)) else pure (ForInStep.yield cs)) >>= pure:Sem (List (Str×Addr))):=rfl;rw [e,hcl];rfl
  refine wpAny_comprehension_free (use:=use) rfl hs hclos B.kind B.locs (thn (hi pins s σ H _ I h) fun v s1 h1=>thn h1 fun itv s2 h2=>?_);obtain ⟨it,fp,tn,J,H2,e,I2,⟨Cs,T,hT⟩,st2,f2,W0⟩:=h2;subst e;obtain ⟨W,⟨m0,w0⟩,turn⟩:=W0 s2.heap.objs.size (I2.hok.fresh (Nat.le_refl _));refine wpAny_newObj_type ?_;have I3:Inv X pins σ (upd H2 s2.heap.objs.size (.lst [])) { s2 with heap:=s2.heap.push { cls:=.type "list",data:=.seq ([]:List Value).toArray } }:=I2.lnew .nil (Nat.zero_le _);generalize hs3:({ s2 with heap:=s2.heap.push { cls:=.type "list",data:=.seq ([]:List Value).toArray } }:Shared)=s3 at I3;have k3:∀b o,s2.heap.get? b=some o→s3.heap.get? b=some o:=fun b o e=>by rw [← hs3]; exact Heap.get?_push_of_some _ e
  have z3:s3.heap.objs.size=s2.heap.objs.size+1:=by rw [← hs3]; exact Heap.size_push _ _
  have hfo2:∀b∈fp,b<s2.heap.objs.size:=fun b hb=>by obtain ⟨o,e,_⟩:=T.obj _ _ st2 b hb;exact Heap.lt_size e
  have hne:∀b∈fp,b≠s2.heap.objs.size:=fun b hb=>Nat.ne_of_lt (hfo2 b hb);have f3:∀b∈fp,FpOk X pins (upd H2 s2.heap.objs.size (.lst [])) b:=fun b hb=>⟨by rw [upd_ne (hne b hb)]; exact (f2 b hb).1,(f2 b hb).2⟩;have tn3:tn 0 s3.heap:=T.keep _ _ _ st2 fun b _ o e=>k3 b o e;show wpAny _ _ (newFunctionEnv scope X.env.globals cl [] X.env.qual none .none (some X.env)) _ _ _;refine newEnv_cells fun h₁ kk hns₁ hcs₁=>?_;have IB:=blk_start (t':=s3.toks) B I3 c1 c2 f3 (fun b hb=>by rw [z3]; exact Nat.lt_succ_of_lt (hfo2 b hb)) hns₁ kk hcs₁;generalize cellsFrom (s3.heap.objs.size+1) scope.names cl=cl at IB ⊢;generalize hs4:({ s3 with heap:=h₁,toks:=s3.toks }:Shared)=s4 at IB;have tn4:tn 0 s4.heap:=T.keep _ _ _ tn3 fun b _ o e=>by rw [← hs4]; exact kk b o e
  show codeAny (model X.prog X.w) X.A (.compStart (.ListComp elt [⟨tg,iter,ifs,0⟩] scope pos) 0 (.ref it) (.ref s2.heap.objs.size) (compEnvC scope cl s3.heap.objs.size X.env))
      (compPost (model X.prog X.w) X.A X.xe use Q0 (.ref s2.heap.objs.size) s3.heap.objs.size) s4
  have stat:∀{H':Hp},(∀b∈fp,H' b=none)→∀b∈fp,FpOk (cxB X scope cl N s3.heap.objs.size fp s3 (upd H2 s2.heap.objs.size (.lst []))) [] H' b:=fun hn b hb =>⟨hn b hb,Nat.ne_of_lt (by show b<s3.heap.objs.size; rw [z3]; exact Nat.lt_succ_of_lt (hfo2 b hb)),IB.ok.exfs b hb,.inl hb,fun x c e=>(IB.ok.exf b hb).2 x c e,fun p hp=>(nomatch hp)⟩;have loop:codeAny (model X.prog X.w) X.A (.compLoop (.ListComp elt [⟨tg,iter,ifs,0⟩] scope pos) 0 (.ref it) (.ref s2.heap.objs.size) (compEnvC scope cl s3.heap.objs.size X.env))
      (compPost (model X.prog X.w) X.A X.xe use Q0 (.ref s2.heap.objs.size) s3.heap.objs.size) s4:=by
    refine compLoop_any (fun n s'=>∃i ys H',Inv (cxB X scope cl N s3.heap.objs.size fp s3 (upd H2 s2.heap.objs.size (.lst []))) [] (List.replicate own none++capsOf σ cap) H' s'∧tn i s'.heap∧(∀b∈fp,H' b=none)∧W i n ys H') ?_ m0
      ⟨0,[],_,IB,tn4,fun b hb=>(f3 b hb).1,w0⟩
    rintro n s5 ⟨i,ys,H5,I5,st5,fr5,w5⟩;obtain ⟨hD,hgo⟩:=turn i n ys H5 w5;rcases hgo with ⟨stop,qn⟩ | ⟨go,hlt,step⟩
    · refine thn (T.done (cxB X scope cl N s3.heap.objs.size fp s3 (upd H2 s2.heap.objs.size (.lst []))) rfl rfl rfl (hT hc _ rfl rfl) i [] s5 _ H5 (fun _ _=>False) I5 (stat fr5) st5 stop) fun r s6 hq9=>?_;obtain ⟨hr,I6⟩:=hq9;subst hr;obtain ⟨m,hm,_⟩:=id I6.loc;refine fin s2.heap.objs.size s3.heap.objs.size H5 s6 _ qn ?_ (I3.fpOk (Nat.le_refl _) I6.free) ⟨m,hm⟩;have sb:Heap.SameBut s3.heap.objs.size s6.heap s6.heap:=⟨rfl,fun _ _=>rfl⟩;have U:=I6.base;have nC:∀b o,s3.heap.get? b=some o→b≠s3.heap.objs.size:=fun b o e=>Nat.ne_of_lt (Heap.lt_size e);have nT:∀b o,H5 b=some o→b≠s3.heap.objs.size:=fun b o e z=>by have q:H5 s3.heap.objs.size=none:=I6.free;rw [z,q] at e;cases e
      refine I3.call' (ch:=fp) I6.os ?_ (fun a o e=>(I6.hok a o e).stay (fun b u hb q=>sb.extBut b u ?_ q) (fun _ q=>q) fun _ _ q=>q) I6.bare (fun b hb=>⟨(f3 b hb).2.2.2.1,(f3 b hb).2.1,(f3 b hb).2.2.2.2.1,(f3 b hb).2.2.2.2.2⟩)
      · exact {
          keep:=fun b o e z hb he=>sb.extBut b o (nC b o e) (U.keep b o e z hb he)
          slot:=fun b o e z hb he=>by obtain ⟨sl,q⟩:=U.slot b o e z hb he;exact ⟨sl,sb.extBut b _ (nC b o e) q⟩
          free:=U.free
          there:=fun b o e he=>by obtain ⟨o',q⟩:=U.there b o e he;exact ⟨o',sb.extBut b o' (nC b o e) q⟩
          tups:=U.tups
          frzs:=U.frzs
          tbls:=U.tbls }
      · rcases hb with rfl | hb
        · exact nT _ _ e
        · exact nT _ _ hb
    · refine thn (T.item (cxB X scope cl N s3.heap.objs.size fp s3 (upd H2 s2.heap.objs.size (.lst []))) rfl rfl rfl (hT hc _ rfl rfl) i [] s5 _ H5 (fun _ _=>False) I5 (stat fr5) st5 go) fun r s6 hq9=>?_;obtain ⟨u,hr,h6⟩:=hq9;subst hr;refine thn h6 fun _ s7 hq9=>?_;obtain ⟨x,H7,I7,r7,y7,st7,fr7⟩:=hq9;have I7':=I7.pinned (stat fr7) (T.obj _ _ st7);refine thn (hg cl s3.heap.objs.size fp s3 _ _ s7 _ H7 x u _ I7' r7 (kg _ _ _ _ (step x H7 y7))) fun _ s8 hq9=>?_;obtain ⟨σ8,H8,I8,q8,l8,p8⟩:=hq9;have back:∀{H9:Hp} {s9:Shared},Inv (cxB X scope cl N s3.heap.objs.size fp s3 (upd H2 s2.heap.objs.size (.lst []))) ([]++pinsAt fp s7.heap) σ8 H9 s9 →
          Inv (cxB X scope cl N s3.heap.objs.size fp s3 (upd H2 s2.heap.objs.size (.lst []))) [] (List.replicate own none++capsOf σ cap) H9 s9∧tn (i+1) s9.heap∧∀b∈fp,H9 b=none:=fun {H9 s9} I9=>by
        refine ⟨(I9.unpinned).weak l8.symm (fun j v e=>?_),T.keep _ _ _ st7 fun b hb o e=>(I9.pin (b,o) (List.mem_append_right _ (List.mem_append_right _ (mem_pinsAt hb e)))).1,fun b hb=>?_⟩
        · by_cases hj:j<own
          · rw [List.getElem?_append_left (by rw [List.length_replicate]; exact hj),List.getElem?_replicate,if_pos hj] at e;cases e
          · rw [p8 j (by omega)]; exact e
        · obtain ⟨o,e,d⟩:=T.obj _ _ st7 b hb;exact (I9.pin (b,o) (List.mem_append_right _ (List.mem_append_right _ (mem_pinsAt hb e)))).2.1
      refine thn (ht cl s3.heap.objs.size fp s3 _ _ s8 σ8 H8 _ I8 q8) fun ok s9 hq9=>?_;obtain ⟨H9,I9,q9⟩:=hq9;cases ok with
      | false =>rw [if_neg Bool.false_ne_true];rw [if_neg Bool.false_ne_true] at q9;obtain ⟨m',hm',w'⟩:=q9;obtain ⟨b1,b2,b3⟩:=back I9;exact ⟨m',hm',i+1,ys,H9,b1,b2,b3,w'⟩
      | true =>rw [if_pos rfl];rw [if_pos rfl] at q9;refine thn (he cl s3.heap.objs.size fp s3 _ _ s9 σ8 H9 _ I9 q9) fun uy s10 hq9=>?_;obtain ⟨y,H10,I10,r10,hD10,m',hm',w'⟩:=hq9;refine thn (mt_append _ s10 σ8 H10 (.ref s2.heap.objs.size) [y] (.ref s2.heap.objs.size) [uy] (fun _ H11=>H11=upd H10 s2.heap.objs.size (.lst (ys++[y]))) I10 rfl (.cons r10 .nil) ⟨_,ys,y,rfl,rfl,hD10,hlt,rfl⟩) fun _ s11 hq9=>?_;obtain ⟨_,H11,I11,_,e11⟩:=hq9;subst e11;obtain ⟨b1,b2,b3⟩:=back I11;exact ⟨m',hm',i+1,ys++[y],_,b1,b2,b3,w'⟩
  exact codeAny_compStart_list loop (T.self X.A 0 s4 _ _ tn4 loop)
theorem pe_comp {N:List Str} {own:Nat} {c:Prop} (B:BlkOk X scope N own cap) (hc:c) (hi:PIc X c tg iter wi)
  (kg:keepsCaps own g)
  (hg:∀cl C fp s₀ H₀,PG (cxB X scope cl N C fp s₀ H₀) tg g) (ht:∀cl C fp s₀ H₀,PTs (cxB X scope cl N C fp s₀ H₀) ifs tt) (he:∀cl C fp s₀ H₀,PE (cxB X scope cl N C fp s₀ H₀) elt te)
  (hs:∀x,foldedSetIterable iter X.env x=pure x:=by intro _; rfl):PE X (.ListComp elt [⟨tg,iter,ifs,0⟩] scope pos) (tComp wi own cap g tt te):=by
 intro pins s σ H Q I h;rw [eval_ListComp];refine comp_run (use:=none) (Q0:=EP X pins σ Q) B hc hi kg hg ht he hs I h fun D C H5 s6 r q I6 fo hm=>?_;obtain ⟨m,hm⟩:=hm;obtain ⟨f0,f1,f2,f3,f4,f5⟩:=fo;exact ⟨m,hm,fun h' sb=>⟨.ref D,H5,I6.turned (t':=s6.toks) (it:=C) (fun b o hb e=>sb.extBut b o hb e) f0 f1 f3 f4 f5,rfl,q⟩⟩
variable {ch:List Addr}
theorem Inv.turnLay {o:HO} (I:Inv X pins σ H s) (hch:∀b∈ch,FpOk X pins H b) (k:∀b o,b∉ch→s.heap.get? b=some o→h'.get? b=some o) (hp:s.heap.objs.size≤a)
  (new:ObjOk X.prog X.w (upd H a o) h' a o):Inv X pins σ (upd H a o) { s with heap:=h',toks:=t' }:=by
 have hn:H a=none:=I.hok.fresh hp;have nin:∀b u,H b=some u→b∉ch:=fun b u e z=>by rw [(hch b z).1] at e; cases e
 refine I.step (g':=s.gens) (d':=s.drawn) (ch:=ch) (fun b hb=>⟨(hch b hb).2.2.2.1,(hch b hb).2.1,(hch b hb).2.2.2.2.1,(hch b hb).2.2.2.2.2⟩) (fun b o _ _ hc e _=>k b o hc e) (fun b o _ _ hc e _=>⟨o.slots,k b o hc e⟩)
  (fun b o _ e n=>by rw [upd_ne (Nat.ne_of_lt (Nat.lt_of_lt_of_le (Heap.lt_size e) hp))]; exact n) (fun b o hc e=>⟨o,k b o hc e⟩) (fun b xs q=>by rw [upd_ne (ne_of_none q hn)]; exact q) (fun b u xs q=>by rw [upd_ne (ne_of_none q hn)]; exact q)
  (fun b ps q=>⟨#[],by rw [upd_ne (ne_of_none q hn),q]; simp⟩) (fun m hm=>?_) (fun b u e=>?_) I.bare
 ·obtain ⟨o',es,ep,ho,r⟩:=hm;exact ⟨o',es,ep,k _ o' (fun z=>(hch _ z).2.1 rfl) ho,r⟩
 ·by_cases hb:b=a
  ·subst hb;rw [upd_same] at e;cases e;exact new
  ·rw [upd_ne hb] at e;refine (I.hok b u e).stay (fun c v hc q=>k c v ?_ q) (fun c q=>by rw [upd_ne (ne_of_none q hn)]; exact q) fun c xs q=>by rw [upd_ne (ne_of_none q hn)]; exact q
   rcases hc with z | z
   ·rw [z]; exact nin b u e
   ·exact nin c _ z
theorem Inv.turnedL (I:Inv X pins σ H s) (hch:∀b∈ch,FpOk X pins H b) (k:∀b o,b∉ch→s.heap.get? b=some o→h'.get? b=some o):Inv X pins σ H { s with heap:=h',toks:=t' }:=by
 have nin:∀b u,H b=some u→b∉ch:=fun b u e z=>by rw [(hch b z).1] at e; cases e
 refine I.step (g':=s.gens) (d':=s.drawn) (ch:=ch) (fun b hb=>⟨(hch b hb).2.2.2.1,(hch b hb).2.1,(hch b hb).2.2.2.2.1,(hch b hb).2.2.2.2.2⟩) (fun b o _ _ hc e _=>k b o hc e) (fun b o _ _ hc e _=>⟨o.slots,k b o hc e⟩)
  (fun _ _ _ _ n=>n) (fun b o hc e=>⟨o,k b o hc e⟩) (fun _ _ e=>e) (fun _ _ _ e=>e) (fun b ps e=>⟨#[],by rw [e]; simp⟩) (fun m hm=>?_) (fun b u e=>?_) I.bare
 ·obtain ⟨o',es,ep,ho,r⟩:=hm;exact ⟨o',es,ep,k _ o' (fun z=>(hch _ z).2.1 rfl) ho,r⟩
 ·refine (I.hok b u e).stay (fun c v hc q=>k c v ?_ q) (fun _ q=>q) fun _ _ q=>q;rcases hc with z | z
  ·rw [z]; exact nin b u e
  ·exact nin c _ z
def Ite (K:PySem.W.Frag) (a:Addr):It :=
 ⟨fun i H=>∃xs x,SqL K H a xs∧xs[i]?=some x,fun i H x H'=>∃p y,H p=none∧x=.ref p∧H'=upd H p (.tup [.int i,y])∧∀xs,SqL K H a xs→xs[i]?=some y,fun i H=>∃xs,SqL K H a xs∧xs.length≤i⟩
variable {elts:List Expr} {kt:Nat}
theorem turn_enum {w:World} {K:PySem.W.Frag} {pt:Pos} (a e it:Addr) (hei:e≠it) :
    Turn P w K (.Tuple elts kt pt) (Ite K a) [e,it] e (fun i h=>(∃old,IsEnum h e it i old)∧h.IsListIter it a i) where
  mem:=by simp
  obj:=fun i h st b hb=>by
    obtain ⟨⟨old,he⟩,o,e1,c,d⟩:=st;rcases List.mem_cons.mp hb with rfl | hb
    · exact ⟨_,he,fun v z=>by cases z⟩
    · have e2:b=it:=by simpa using hb
      subst e2;exact ⟨o,e1,fun v z=>by rw [d] at z; cases z⟩
  keep:=fun i h h' st k=>by obtain ⟨⟨old,he⟩,hit⟩:=st;exact ⟨⟨old,k e (by simp) _ he⟩,hit.at fun o x=>k it (by simp) o x⟩
  item:=by
    intro X hP hw hK hc i pins s σ H E I hf st hg;subst hP hw hK;obtain ⟨xs,x,hq,hx⟩:=hg;obtain ⟨its,rv,p,hz⟩:=I.list hq;obtain ⟨u,hu,ru⟩:=rv.get hx;obtain ⟨⟨old,he⟩,hit⟩:=st;refine wpAny_pyNext_enum_item he hit p.isList (x:=u) (by simpa using hu) hei fun h1 ho hit1 hT hsz hk=>?_;refine ⟨_,rfl,wpAny_letOwnedTupleGo_enum (s:={ s with heap:=h1,toks:=s.toks+1 }) ho fun h2 he2 sb2=>?_⟩;have elt:e<s.heap.objs.size:=Heap.lt_size he;have ilt:it<s.heap.objs.size:=by obtain ⟨_,q,_⟩:=hit; exact Heap.lt_size q
    have hT2:h2.get? s.heap.objs.size=some { cls:=.type "tuple",data:=.seq #[.int i s.toks,u] }:=(sb2.2 _ (Nat.ne_of_gt elt)).trans hT;have hfr:H s.heap.objs.size=none:=I.hok.fresh (Nat.le_refl _);have I1:Inv X pins σ (upd H s.heap.objs.size (.tup [.int i,x])) { s with heap:=h2,toks:=s.toks+1 }:=by refine I.turnLay (ch:=[e,it]) hf (fun b o hb q=>?_) (Nat.le_refl _) ⟨by show 2≤sizeLine; decide,[.int i s.toks,u],.cons ⟨_,rfl⟩ (.cons ru .nil),_,hT2,rfl,_,rfl⟩;have h1':b≠e:=fun z=>hb (by simp [z]);have h2':b≠it:=fun z=>hb (by simp [z]);exact (sb2.2 b h1').trans (hk b o h1' h2' q)
    refine ⟨.ref s.heap.objs.size,_,I1,rfl,⟨_,x,hfr,rfl,rfl,fun ys hy=>by rw [I.list_inj hy hq]; exact hx⟩,⟨⟨u,by simpa using he2⟩,hit1.at fun o q=>(sb2.2 it hei.symm).trans q⟩,fun b hb=>?_⟩;rw [upd_ne ?_]
    · exact (hf b hb).1
    · rcases List.mem_cons.mp hb with rfl | hb
      · exact Nat.ne_of_lt elt
      · have e2:b=it:=by simpa using hb
        rw [e2]; exact Nat.ne_of_lt ilt
  done:=by intro X hP hw hK hc i pins s σ H E I hf st hg;subst hP hw hK;obtain ⟨xs,hq,hx⟩:=hg;obtain ⟨its,rv,p,hz⟩:=I.list hq;obtain ⟨⟨old,he⟩,hit⟩:=st;have hl:=rv.length;exact wpAny_pyNext_enum_end (I.ok.hd hc) he hit p.isList (by simp; omega) fun h' eb=>⟨rfl,I.turnedL (ch:=[e,it]) (t':=s.toks) hf fun b o hb q=>eb b o (fun z=>hb (by simp [z])) q⟩
  self:=fun _ _ _ _ _ st h=>wpAny_pyIter_enum st.1.choose_spec h
variable {l:Expr}
section
variable {pt:Pos}
def iEnum (K:PySem.W.Frag) (ta:TA):TI:=fun σ H R=>ta σ H fun vs H1=>∃a,vs=[.ref a]∧(∃xs,SqL K H1 a xs)∧R (Ite K a) H1
theorem pi_enum {ta:TA} (hg:Gl X "enumerate") (hm:X.mg "enumerate"=none) (ha:PA X [l] ta) (hs:starEach [l] X.env=[(false,eval l X.env)]:=by rfl) :
  PI X (.Tuple elts kt pt) (.Call (.Name "enumerate" p) [l] [] pos) (iEnum X.K ta):=by
 intro pins s σ H R I h;refine Call_ (ld_blt I hg hm PyProof.Rows.boot_enumerate (PyProof.Rows.callWith_type1 (thn (ha pos pins s σ H _ I h) fun us s1 ⟨vs,H1,I1,r1,q1⟩=>?_) hs rfl));obtain ⟨a,e,⟨xs,hq⟩,q⟩:=q1;subst e;cases r1 with
 | cons r rr =>
  cases rr;cases r;obtain ⟨its,rv,pl,hz⟩:=I1.list hq;refine call_enumerate_list pl.isList fun h' he hit hsz hk=>?_;refine wpAny_pyIter_enum (s:={ s1 with heap:=h' }) he ?_;refine ⟨s1.heap.objs.size+1,[s1.heap.objs.size+1,s1.heap.objs.size],_,_,H1,rfl,I1.kept (t':=s1.toks) hk,(turn_enum a _ _ (Nat.succ_ne_self _)).ok,⟨⟨_,he⟩,hit⟩,fun b hb=>?_,q⟩;rcases List.mem_cons.mp hb with rfl | hb
  ·exact I1.fpOk (Nat.le_succ _) (I1.hok.fresh (Nat.le_succ _))
  ·have e:b=s1.heap.objs.size:=by simpa using hb
   subst e;exact I1.fpOk (Nat.le_refl _) (I1.hok.fresh (Nat.le_refl _))
end
variable {o:Obj}
theorem Inv.at {u u':HO} (I:Inv X pins σ H s) (h:H a=some u) (nt:∀xs,u≠.tup xs) (nb:∀ps,u≠.tbl ps) (no:∀y,u≠.own y) (nf:∀o v,X.H₀ a≠some (.frz o v))
  (ok:∀H',ObjOk X.prog X.w H' s.heap a u→ObjOk X.prog X.w H' s.heap a u'):Inv X pins σ (upd H a u') s:=by
 have fr:∀b,H b=none→upd H a u' b=none:=fun b e=>by rw [upd_ne (fun z=>by rw [z,h] at e; cases e)]; exact e
 have tp:∀b xs,H b=some (.tup xs)→upd H a u' b=some (.tup xs):=fun b xs e=>by rw [upd_ne (fun z=>by rw [z,h] at e; exact nt xs (Option.some.inj e))]; exact e
 have ow:∀b y,H b=some (.own y)→upd H a u' b=some (.own y):=fun b y e=>by rw [upd_ne (fun z=>by rw [z,h] at e; exact no y (Option.some.inj e))]; exact e
 refine ⟨I.ok,I.os,I.bare,⟨I.base.keep,I.base.slot,fun b o e n hx=>fr b (I.base.free b o e n hx),I.base.there,fun b xs e=>tp b xs (I.base.tups b xs e),fun b o v e=>?_,fun b ps e=>?_⟩,I.loc,I.cell,fr _ I.free,fun x c e=>fr c (I.freeC x c e),fun p hp=>?_,fun b v e=>?_,I.len⟩
 ·rw [upd_ne (fun z=>nf o v (by rw [← z]; exact e))];exact I.base.frzs b o v e
 ·obtain ⟨m,e1⟩:=I.base.tbls b ps e;exact ⟨m,by rw [upd_ne (fun z=>by rw [z,h] at e1; exact nb _ (Option.some.inj e1))]; exact e1⟩
 ·obtain ⟨e,n,r⟩:=I.pin p hp;exact ⟨e,fr _ n,r⟩
 ·by_cases hb:b=a
  ·subst hb;rw [upd_same] at e;cases e;exact ok _ ((I.hok b u h).stay (fun _ _ _ q=>q) (fun c q=>ow c _ q) tp)
  ·rw [upd_ne hb] at e;exact (I.hok b v e).stay (fun _ _ _ q=>q) (fun c q=>ow c _ q) tp
theorem Paired.at {α β:Type} {R:α→β→Prop}:∀{l:List α} {m:List β},Paired R l m→∀{i:Nat} {x:α},l[i]?=some x→∃y,m[i]?=some y∧R x y
 | _,_,.cons r t,0,x,e=>by cases e; exact ⟨_,rfl,r⟩
 | _,_,.cons r t,i+1,x,e=>Paired.at t (i:=i) e
theorem frz_dt {w:World} (ok:HOk P w H s.heap) (h:H a=some (.frz o (.dT kvs))):s.heap.get? a=some o∧∃(es:Array DictEntry) (ep:Nat),o.data=.dict es ep∧es.size=kvs.length ∧
  ∀i k y,kvs[i]?=some (k,y)→∃(hl:i<es.size) (b:Addr),es[i].key=.ref b∧H b=some (.tup (k.map kV))∧RelV y es[i].val:=by
 obtain ⟨e,q⟩:=(show ObjOk P w H s.heap a (.frz o (.dT kvs)) from ok a _ h);obtain ⟨_,_,xs,r,o',es,ep,h1,h2,h3,h4,h5⟩:=q;rw [e] at h1;cases h1;have hz:es.size=xs.length:=size_of_entries h4;refine ⟨e,es,ep,h3,by rw [hz,r.length],fun i k y hk=>?_⟩;obtain ⟨⟨k',b,u⟩,hx,e1,e2,e3⟩:=Paired.at r hk;have hi:=entry_at h4 i;rw [hx] at hi;obtain ⟨hl,hi⟩:=Array.getElem?_eq_some_iff.mp hi;exact ⟨hl,b,by rw [hi]; rfl,e2,by rw [hi]; exact e3⟩
def thw (X:Cx) (N:Hp→Prop):Hp→Prop:=fun H=>N H∨∃a o kvs,H a=some (.frz o (.dT kvs))∧(∀o' v,X.H₀ a≠some (.frz o' v))∧N (upd H a (.dT kvs))
def thawD (X:Cx) (D:Ends):Ends:=⟨fun σ=>thw X (D.nx σ),fun v=>thw X (D.rt v),fun σ=>thw X (D.bk σ),fun σ=>thw X (D.ct σ)⟩
theorem thw_ok {N:Hp→Prop} (I:Inv X pins σ H s) (h:thw X N H):∃H',Inv X pins σ H' s∧N H':=by
 rcases h with h | ⟨a,o,kvs,e,nf,h⟩
 ·exact ⟨H,I,h⟩
 ·exact ⟨_,I.at e nofun nofun nofun nf fun H' q=>q.2,h⟩
theorem ps_thaw {st:Stmt} {t:TS} (h:PS X st t):PS X st (fun D=>t (thawD X D)):=by
 intro pins s σ H D I q;refine thn (h pins s σ H _ I q) fun f s' z=>?_;cases f with
 | next=>obtain ⟨σ',H',I',q'⟩:=z; obtain ⟨H2,I2,q2⟩:=thw_ok I' q'; exact ⟨σ',H2,I2,q2⟩
 | cont=>obtain ⟨σ',H',I',q'⟩:=z; obtain ⟨H2,I2,q2⟩:=thw_ok I' q'; exact ⟨σ',H2,I2,q2⟩
 | brk=>obtain ⟨σ',H',I',q'⟩:=z; obtain ⟨H2,I2,q2⟩:=thw_ok I' q'; exact ⟨σ',H2,I2,q2⟩
 | ret v=>obtain ⟨x,σ',H',I',r,q'⟩:=z; obtain ⟨H2,I2,q2⟩:=thw_ok I' q'; exact ⟨x,σ',H2,I2,r,q2⟩
variable {ep:Nat} {it:Addr} {od:Obj}
section
variable {w:World} {A:Around}
theorem raw_kiter {d:Addr} {es:Array DictEntry} (ns:(d == sysModules)=false) (ty:s.TypeIs (.ref d) "dict") (ho:s.heap.get? d=some o) (hd:o.data=.dict es ep)
    (q:Q (.ref s.heap.objs.size) { s with heap:=s.heap.push { cls:=.type "dict_keyiterator",data:=.fields #[.ref d,.int 0 0,.int es.size 0,.int ep 0] } }):wpAny (model P w) A (pyIter (.ref d)) Q E s:=by
  apply wpAny_pyIter_slot ty F.slot_dict_iter;refine wpAny_call_entry F.slot_dict_iter ty F.entry_dict_iter ?_ (F.args_dict_iter_1 _);unfold Builtin.«dict.__iter__»;apply wpAny_bind;unfold Builtin.Dict.dictSlotNone;apply wpAny_bind;refine wpAny_notOrdered_dict ty ?_;refine wpAny_pure (a:=Value.ref d) ?_;show wpAny _ _ (Builtin.Dict.showsAll d >>= _) _ _ _;apply wpAny_bind;unfold Builtin.Dict.showsAll;rw [if_neg (by rw [ns]; decide)];apply wpAny_pure;apply wpAny_bind;refine wpAny_dictEntries ho hd ?_;apply wpAny_bind;refine wpAny_dictEpoch ho hd ?_;apply wpAny_bind;refine wpAny_newObj_type (wpAny_pure ⟨_,rfl,"dict_keyiterator",_,⟨_,Heap.get?_push_size _ rfl,rfl⟩,F.slot_dict_keyiterator_next.lookup,?_⟩);simpa [rawInt] using q
theorem owns_k:Builtin.Dict_items.ownsTuple "dict_keyiterator"=false:=by decide
theorem raw_knext {d:Addr} {es:Array DictEntry} {Q:Option Value→Shared→Prop} (hi:s.heap.IsKeyIter it d i es.size ep) (hod:s.heap.get? d=some od) (hdd:od.data=.dict es ep) (hl:i<es.size)
  (q:∀h',h'.IsKeyIter it d (i+1) es.size ep→Heap.SameBut it s.heap h'→Q (some es[i].key) { s with heap:=h' }):wpAny (model P w) A (pyNext (.ref it)) Q E s:=by
 obtain ⟨o,ho,hc,hd⟩:=id hi;unfold pyNext;apply wpAny_bind;apply wpAny_attempt;refine wpAny_callSpecial?_slot (name:=Str.ofString "__next__") hi.typeIs F.slot_dict_keyiterator_next (wpAny_call_entry F.slot_dict_keyiterator_next hi.typeIs F.entry_dict_keyiterator_next ?_ (F.args_dict_keyiterator_next_1 _));apply wpAny_bind;apply wpAny_pure;apply wpAny_bind;apply wpAny_bind;apply wpAny_bind
 first | refine wpAny_typeNameOfWhole_keyiter hi.typeIs (wpAny_pure ?_) | refine wpAny_typeNameOf_keyiter hi.typeIs (wpAny_pure ?_)
 apply wpAny_bind;refine wpAny_fieldsOf ho hd ?_;simp only [owns_k,Bool.false_eq_true,if_false];show wpAny _ _ (if (Value.ref d == Value.none)=true then _ else _) _ _ s;rw [if_neg (show ¬((Value.ref d == Value.none)=true) from fun z=>Bool.false_ne_true z)];apply wpAny_bind;apply wpAny_pure;apply wpAny_bind;refine wpAny_dictEntries hod hdd ?_;rw [if_neg (by simp)];apply wpAny_bind;apply wpAny_pure;apply wpAny_bind;refine wpAny_dictEpoch hod hdd ?_;rw [if_neg (by simp)];apply wpAny_pure;simp only [show ¬((i:Int)<0) by omega,if_false,Int.toNat_natCast,Array.getElem?_eq_getElem hl];apply wpAny_bind;apply wpAny_bind
 first | refine wpAny_typeNameOfWhole_keyiter hi.typeIs (wpAny_pure ?_) | refine wpAny_typeNameOf_keyiter hi.typeIs (wpAny_pure ?_)
 apply wpAny_bind;refine wpAny_isOneOf_keyiter hi.typeIs ?_;show wpAny _ _ (setField (.ref it) 1 (rawInt ((i:Int)+1)) >>= _) _ _ s;apply wpAny_bind;refine wpAny_setField ho hd (by simp) ?_;have hi':(s.heap.update it (Obj.mapFields (·.setIfInBounds 1 (rawInt ((i:Int)+1))))).IsKeyIter it d (i+1) es.size ep :=
  ⟨_,Heap.get?_update_self _ ho (Obj.isFreed_of_fields (Obj.data_mapFields hd _)),(Obj.cls_mapFields ..).trans hc,by rw [Obj.data_mapFields hd]; simp [rawInt]⟩
 apply wpAny_bind;apply wpAny_holding;apply wpAny_bind;refine wpAny_isOneOf_keyiter (s:={ s with heap:=s.heap.update it (Obj.mapFields (·.setIfInBounds 1 (rawInt ((i:Int)+1)))) }) hi'.typeIs ?_;show wpAny _ _ (pure es[i].key) _ _ _;exact wpAny_pure (wpAny_pure ⟨_,rfl,wpAny_pure (q _ hi' (Heap.SameBut.update ..))⟩)
theorem raw_kend {d:Addr} {es:Array DictEntry} {Q:Option Value→Shared→Prop} (hh:A.handled=none) (hi:s.heap.IsKeyIter it d i es.size ep) (hod:s.heap.get? d=some od) (hdd:od.data=.dict es ep) (hl:es.size≤i)
  (q:∀h',Heap.ExtBut it s.heap h'→Q none { s with heap:=h' }):wpAny (model P w) A (pyNext (.ref it)) Q E s:=by
 obtain ⟨o,ho,hc,hd⟩:=id hi;unfold pyNext;apply wpAny_bind;apply wpAny_attempt;refine wpAny_callSpecial?_slot (name:=Str.ofString "__next__") hi.typeIs F.slot_dict_keyiterator_next (wpAny_call_entry F.slot_dict_keyiterator_next hi.typeIs F.entry_dict_keyiterator_next ?_ (F.args_dict_keyiterator_next_1 _));apply wpAny_bind;apply wpAny_pure;apply wpAny_bind;apply wpAny_bind;apply wpAny_bind
 first | refine wpAny_typeNameOfWhole_keyiter hi.typeIs (wpAny_pure ?_) | refine wpAny_typeNameOf_keyiter hi.typeIs (wpAny_pure ?_)
 apply wpAny_bind;refine wpAny_fieldsOf ho hd ?_;simp only [owns_k,Bool.false_eq_true,if_false];show wpAny _ _ (if (Value.ref d == Value.none)=true then _ else _) _ _ s;rw [if_neg (show ¬((Value.ref d == Value.none)=true) from fun z=>Bool.false_ne_true z)];apply wpAny_bind;apply wpAny_pure;apply wpAny_bind;refine wpAny_dictEntries hod hdd ?_;rw [if_neg (by simp)];apply wpAny_bind;apply wpAny_pure;apply wpAny_bind;refine wpAny_dictEpoch hod hdd ?_;rw [if_neg (by simp)];apply wpAny_pure;simp only [show ¬((i:Int)<0) by omega,if_false,Int.toNat_natCast,Array.getElem?_eq_none hl];apply wpAny_bind;apply wpAny_bind
 first | refine wpAny_typeNameOfWhole_keyiter hi.typeIs (wpAny_pure ?_) | refine wpAny_typeNameOf_keyiter hi.typeIs (wpAny_pure ?_)
 show wpAny _ _ (setField (.ref it) 0 .none >>= _) _ _ s;apply wpAny_bind;refine wpAny_setField ho hd (by simp) ?_;show wpAny _ _ (newExc (.type "StopIteration") [] >>= _) _ _ _;apply wpAny_bind;simp only [newExc,newTuple];apply wpAny_bind;refine wpAny_newObj_type ?_ (by size_fits);refine wpAny_bind (m:=firstArgMember _ _) ?_;refine wpAny_of_eq (a:=Value.none) (by first | rfl | (simp only [firstArgMember]; rfl)) ?_;refine wpAny_newObj_type ?_ (by size_fits);simp only [raiseNew];apply wpAny_bind;apply wpAny_handled;rw [show A.in1.handled=none from hh];refine wpAny_bind (wpAny_pure <| wpAny_throw ?_);apply wpAny_bind;refine wpAny_isInstance (T:="StopIteration") (b:=true) ⟨_,Heap.get?_push_size _ rfl,rfl⟩ isSubtype_stop ?_;exact wpAny_pure (q _ (((Heap.SameBut.update ..).extBut.push _).push _))
def RawD (d:Addr) (o:Obj) (es:Array DictEntry) (ep:Nat) (h:Heap):Prop:=h.get? d=some o∧o.cls=.type "dict"∧o.data=.dict es ep
end
theorem dt_raw {w:World} (ok:HOk P w H s.heap) (h:Rd H a (.dT kvs)):(a == sysModules)=false∧kvs.length≤sizeLine∧∃(o:Obj) (es:Array DictEntry) (ep:Nat),RawD a o es ep s.heap∧es.size=kvs.length ∧
  ∀i k y,kvs[i]?=some (k,y)→∃(hl:i<es.size) (b:Addr),es[i].key=.ref b∧H b=some (.tup (k.map kV))∧RelV y es[i].val:=by
 obtain ⟨z1,z2,xs,r,o,es,ep,h1,h2,h3,h4,h5⟩:=(show ObjOk P w H s.heap a (.dT kvs) from h.ok ok);have hz:es.size=xs.length:=size_of_entries h4;refine ⟨z2,z1,o,es,ep,⟨h1,h2.1,h3⟩,by rw [hz,r.length],fun i k y hk=>?_⟩;obtain ⟨⟨k',b,u⟩,hx,e1,e2,e3⟩:=Paired.at r hk;have hi:=entry_at h4 i;rw [hx] at hi;obtain ⟨hl,hi⟩:=Array.getElem?_eq_some_iff.mp hi;exact ⟨hl,b,by rw [hi]; rfl,e2,by rw [hi]; exact e3⟩
variable {nrem:Nat}
section
open PySem PySem.W PyProof.Rows
def kRun {α:Type} (lt:Nat→Nat→Bool):KasT α→α
 | .ret a=>a
 | .ask i j k=>kRun lt (k (lt i j))
theorem kRun_bind {α β:Type} (lt:Nat→Nat→Bool) (f:α→KasT β):∀t:KasT α,kRun lt (t.bind f)=kRun lt (f (kRun lt t))
 | .ret _=>rfl
 | .ask i j k=>kRun_bind lt f (k (lt i j))
def KIn {α:Type} (n:Nat) (P:α→Prop):KasT α→Prop
 | .ret a=>P a
 | .ask i j k=>i<n∧j<n∧∀b,KIn n P (k b)
theorem KIn.bind {α β:Type} {n:Nat} {P:α→Prop} {R:β→Prop} {f:α→KasT β}:∀{t:KasT α},KIn n P t→(∀a,P a→KIn n R (f a))→KIn n R (t.bind f)
 | .ret a,h,g=>g a h
 | .ask i j k,h,g=>⟨h.1,h.2.1,fun b=>KIn.bind (h.2.2 b) g⟩
theorem kas_pure {α:Type} {cmp:Nat→Nat→(Bool→Shared→Prop)→Shared→Prop} {lt:Nat→Nat→Bool} {s:Shared} {n:Nat} {P:α→Prop} (hc:∀i j C,i<n→j<n→C (lt i j) s→cmp i j C s) {Q:α→Shared→Prop}:∀t:KasT α,KIn n P t→Q (kRun lt t) s→t.kasWp cmp Q s
 | .ret a,_,h=>h
 | .ask i j k,w,h=>hc i j _ w.1 w.2.1 (kas_pure hc (k (lt i j)) (w.2.2 _) h)
def Bd (n:Nat) (p:Array Nat):Prop:=∀x∈p.toList,x<n
theorem Bd.get {p:Array Nat} (h:Bd n p) (h0:0<n) (i:Nat):p.getD i 0<n:=by
 rw [Array.getD_eq_getD_getElem?];cases e:p[i]? with
 | none=>exact h0
 | some x=>exact h x (Array.mem_toList_iff.mpr (Array.mem_of_getElem? e))
theorem Bd.perm {p q:Array Nat} (h:Bd n p) (e:q.Perm p):Bd n q:=fun x hx=>h x (e.toList.mem_iff.mp hx)
theorem asc_in {n:Nat} {p:Array Nat} (h:Bd n p) (h0:0<n):∀f m,KIn n (fun _=>True) (kas_asc p f m)
 | 0,_=>trivial
 | f+1,m=>⟨h.get h0 _,h.get h0 _,fun b=>by cases b; exact asc_in h h0 f (m+1); trivial⟩
theorem desc_in {n:Nat} (h0:0<n):∀(f:Nat) (p:Array Nat) (m q:Nat),Bd n p→KIn n (fun r:Array Nat×Nat×Nat=>Bd n r.1) (kas_desc f p m q)
 | 0,p,m,q,h=>h
 | f+1,p,m,q,h=>by
  refine ⟨h.get h0 _,h.get h0 _,fun b=>?_⟩;cases b with
  | true =>
   show KIn n _ (if q > 0 then _ else _);split
   ·exact desc_in h0 f _ _ _ (h.perm (mirror_perm _ _ _ _))
   ·exact desc_in h0 f _ _ _ h
  | false =>
   refine ⟨h.get h0 _,h.get h0 _,fun b=>?_⟩;cases b with
   | true=>exact h
   | false=>exact desc_in h0 f _ _ _ h
theorem tail_in {m:Nat} {p:Array Nat} (h:Bd n p) (h0:0<n):KIn n (fun r:Nat×Array Nat=>Bd n r.2) (kas_tail3 m nrem p) :=
 KIn.bind (asc_in (h.perm (mirror_perm _ _ _ _)) h0 _ _) fun _ _=>h.perm (mirror_perm _ _ _ _)
theorem descPart_in {m:Nat} {p:Array Nat} (h:Bd n p) (h0:0<n):KIn n (fun r:Nat×Array Nat=>Bd n r.2) (kas_descPart m nrem p):=by
 refine KIn.bind (desc_in h0 _ _ _ _ h) fun r hr=>?_;split
 ·exact tail_in (hr.perm (mirror_perm _ _ _ _)) h0
 ·exact tail_in hr h0
theorem count_in {p:Array Nat} (h:Bd n p) (h0:0<n):KIn n (fun r:Nat×Array Nat=>Bd n r.2) (kas_count nrem p):=by
 refine KIn.bind (asc_in h h0 _ _) fun m _=>?_;split
 ·exact h
 ·split
  ·refine ⟨h.get h0 _,h.get h0 _,fun b=>?_⟩;cases b with
   | true=>exact h
   | false=>exact descPart_in (h.perm (mirror_perm _ _ _ _)) h0
  ·exact descPart_in h h0
theorem place_in {n k:Nat} {p:Array Nat} (h:Bd n p) (h0:0<n):∀f l r,KIn n (fun _=>True) (kas_place p k f l r)
 | 0,_,_=>trivial
 | f+1,l,r=>by
  unfold kas_place;split
  ·trivial
  ·refine ⟨h.get h0 _,h.get h0 _,fun b=>?_⟩;cases b with
   | true=>exact place_in h h0 f _ _
   | false=>exact place_in h h0 f _ _
theorem bin_in {n:Nat} (h0:0<n):∀(f:Nat) (p:Array Nat) (k:Nat),Bd n p→KIn n (fun r=>Bd n r) (kas_bin f p k)
 | 0,p,k,h=>h
 | f+1,p,k,h=>KIn.bind (place_in h h0 _ _ _) fun _ _=>bin_in h0 f _ _ (h.perm (bubble_perm _ _ _))
theorem sort_in (h0:0<n):KIn n (fun r=>Bd n r) (kas_sort n):=by
 refine KIn.bind (count_in (p:=(List.range n).toArray) (fun x hx=>by simpa using hx) h0) fun r hr=>?_;split
 ·exact bin_in h0 _ _ _ hr
 ·exact hr
structure LtOk (lt:Nat→Nat→Bool):Prop where
 tr:∀i j k,lt j i=false→lt k j=false→lt k i=false
 as:∀i j,lt i j=true→lt j i=false
section
variable {lt:Nat→Nat→Bool} {p:Array Nat}
theorem LtOk.irr (h:LtOk lt) (i:Nat):lt i i=false:=by
 cases e:lt i i with
 | false=>rfl
 | true=>have:=h.as i i e; rw [e] at this; exact this
def gA (p:Array Nat) (i:Nat):Nat:=p.getD i 0
def Srt (lt:Nat→Nat→Bool) (p:Array Nat) (k:Nat):Prop:=∀i j,i≤j→j<k→lt (gA p j) (gA p i)=false
def NIn (lt:Nat→Nat→Bool) (p:Array Nat) (k:Nat):Prop:=∀i j,i≤j→j<k→lt (gA p i) (gA p j)=false
theorem gA_of {q:Array Nat} (h:q[i]?=p[j]?):gA q i=gA p j:=by unfold gA;rw [Array.getD_eq_getD_getElem?,Array.getD_eq_getD_getElem?,h]
theorem gA_rev (hj:j≤p.size) (k:Nat):gA (kas_rev p i j) k=if i≤k∧k<j then gA p (i+j-1-k) else gA p k:=by
 have:=getElem?_mirror_all (xs:=p) (i:=i) hj k;unfold kas_rev;split
 ·rename_i h; rw [if_pos h] at this; exact gA_of this
 ·rename_i h; rw [if_neg h] at this; exact gA_of this
theorem gA_bub {src d:Nat} (hs:src<p.size) (hd:d≤src) (k:Nat):gA (bubble p src d) k=if k=src-d then gA p src else if src-d<k∧k≤src then gA p (k-1) else gA p k:=by
 have:=getElem?_bubble hs d hd k;split
 ·rename_i h; rw [if_pos h] at this; exact gA_of this
 ·rename_i h;rw [if_neg h] at this;split
  ·rename_i h2; rw [if_pos h2] at this; exact gA_of this
  ·rename_i h2; rw [if_neg h2] at this; exact gA_of this
theorem Srt.snoc (o:LtOk lt) (h:Srt lt p n) (hn:1≤n) (h1:lt (gA p n) (gA p (n-1))=false):Srt lt p (n+1):=fun i j hij hj=>by
 by_cases e:j=n
 ·subst e;by_cases e2:i=j
  ·subst e2; exact o.irr _
  ·exact o.tr _ _ _ (h i (j-1) (by omega) (by omega)) h1
 ·exact h i j hij (by omega)
theorem NIn.snoc (o:LtOk lt) (h:NIn lt p n) (hn:1≤n) (h1:lt (gA p (n-1)) (gA p n)=false):NIn lt p (n+1):=fun i j hij hj=>by
 by_cases e:j=n
 ·subst e;by_cases e2:i=j
  ·subst e2; exact o.irr _
  ·exact o.tr _ _ _ h1 (h i (j-1) (by omega) (by omega))
 ·exact h i j hij (by omega)
theorem asc_ok (o:LtOk lt):∀(f n:Nat),1≤n→Srt lt p n→n≤kRun lt (kas_asc p f n)∧kRun lt (kas_asc p f n)≤n+f∧Srt lt p (kRun lt (kas_asc p f n))
 | 0,n,_,h=>⟨Nat.le_refl _,Nat.le_refl _,h⟩
 | f+1,n,hn,h=>by
  have st:kRun lt (kas_asc p (f+1) n)=if lt (gA p n) (gA p (n-1))=true then n else kRun lt (kas_asc p f (n+1)):=by show kRun lt (if lt (gA p n) (gA p (n-1))=true then .ret n else kas_asc p f (n+1))=_;split <;> rfl
  rw [st];cases e:lt (gA p n) (gA p (n-1)) with
  | true=>rw [if_pos rfl]; exact ⟨Nat.le_refl _,Nat.le_add_right _ _,h⟩
  | false =>rw [if_neg (by decide)];obtain ⟨h1,h2,h3⟩:=asc_ok o f (n+1) (by omega) (h.snoc o hn e);exact ⟨by omega,by omega,h3⟩
structure Dwn (lt:Nat→Nat→Bool) (p:Array Nat) (n q:Nat):Prop where
 d:NIn lt p n
 q1:q<n
 e:∀i,n-1-q≤i→i<n→lt (gA p i) (gA p (n-1))=false∧lt (gA p (n-1)) (gA p i)=false
theorem NIn.rev_eq (o:LtOk lt) {a:Nat} (hn:n≤p.size) (h:NIn lt p n) (e:∀i,a≤i→i<n→lt (gA p i) (gA p (n-1))=false∧lt (gA p (n-1)) (gA p i)=false):NIn lt (kas_rev p a n) n:=fun i j hij hj=>by
 have pos:∀k,k<n→∃k',k'<n∧gA (kas_rev p a n) k=gA p k'∧(k<a→k'=k)∧(a≤k→a≤k'):=fun k hk=>by
  rw [gA_rev hn];by_cases c:a≤k∧k<n
  ·rw [if_pos c]; exact ⟨a+n-1-k,by omega,rfl,by omega,by omega⟩
  ·rw [if_neg c]; exact ⟨k,hk,rfl,fun _=>rfl,fun z=>absurd ⟨z,hk⟩ c⟩
 obtain ⟨i',hi',ei,ai,bi⟩:=pos i (by omega);obtain ⟨j',hj',ej,aj,bj⟩:=pos j hj;rw [ei,ej];by_cases ci:a≤i
 ·exact o.tr _ _ _ (e j' (bj (by omega)) hj').2 (e i' (bi ci) hi').1
 ·by_cases cj:a≤j
  ·have:=bj cj; have:=ai (by omega); exact h i' j' (by omega) hj'
  ·rw [ai (by omega),aj (by omega)]; exact h i j hij hj
theorem desc_ok (o:LtOk lt):∀(f:Nat) (p:Array Nat) (n q:Nat),Dwn lt p n q→n+f≤p.size→∀r,kRun lt (kas_desc f p n q)=r→Dwn lt r.1 r.2.1 r.2.2∧n≤r.2.1∧r.2.1≤n+f∧r.1.Perm p
 | 0,p,n,q,h,_,r,e=>by cases e; exact ⟨h,Nat.le_refl _,Nat.le_refl _,.refl _⟩
 | f+1,p,n,q,h,hz,r,e=>by
  have hq:=h.q1;change kRun lt (if lt (gA p n) (gA p (n-1))=true then _ else _)=r at e;cases c:lt (gA p n) (gA p (n-1)) with
  | true =>
   rw [c,if_pos rfl] at e;by_cases hq0:q > 0
   ·rw [if_pos hq0] at e;have hd:NIn lt (kas_rev p (n-(q+1)) n) n:=NIn.rev_eq o (by omega) h.d fun i hi hi'=>h.e i (by omega) hi';have en:gA (kas_rev p (n-(q+1)) n) n=gA p n:=by rw [gA_rev (by omega),if_neg (by omega)]
    have el:gA (kas_rev p (n-(q+1)) n) (n-1)=gA p (n-(q+1)):=by rw [gA_rev (by omega),if_pos (by omega)]; congr 1; omega
    have c2:lt (gA p (n-(q+1))) (gA p n)=false:=by have:=h.e (n-(q+1)) (by omega) (by omega);exact o.tr _ _ _ (o.as _ _ c) this.1
    have hd':NIn lt (kas_rev p (n-(q+1)) n) (n+1):=hd.snoc o (by omega) (by rw [en,el]; exact c2);have sz:(kas_rev p (n-(q+1)) n).size=p.size:=mirror_size _ _ _ _;obtain ⟨r1,r2,r3,r4⟩:=desc_ok o f _ (n+1) 0 ⟨hd',by omega,fun i hi hi'=>by rw [show i=n+1-1 by omega]; exact ⟨o.irr _,o.irr _⟩⟩ (by omega) r e;exact ⟨r1,by omega,by omega,r4.trans (mirror_perm _ _ _ _)⟩
   ·rw [if_neg hq0] at e;obtain ⟨r1,r2,r3,r4⟩:=desc_ok o f p (n+1) 0 ⟨h.d.snoc o (by omega) (o.as _ _ c),by omega,fun i hi hi'=>by rw [show i=n+1-1 by omega]; exact ⟨o.irr _,o.irr _⟩⟩ (by omega) r e;exact ⟨r1,by omega,by omega,r4⟩
  | false =>
   rw [c,if_neg (by decide)] at e;change kRun lt (if lt (gA p (n-1)) (gA p n)=true then _ else _)=r at e;cases c2:lt (gA p (n-1)) (gA p n) with
   | true =>rw [c2,if_pos rfl] at e;cases e;exact ⟨h,Nat.le_refl _,Nat.le_add_right _ _,.refl _⟩
   | false =>
    rw [c2,if_neg (by decide)] at e;obtain ⟨r1,r2,r3,r4⟩:=desc_ok o f p (n+1) (q+1) ⟨h.d.snoc o (by omega) c2,by omega,fun i hi hi'=>by
     rw [show n+1-1=n by omega];by_cases ei:i=n
     ·subst ei; exact ⟨o.irr _,o.irr _⟩
     ·obtain ⟨u1,u2⟩:=h.e i (by omega) (by omega);exact ⟨o.tr _ _ _ c2 u1,o.tr _ _ _ u2 c⟩⟩ (by omega) r e
    exact ⟨r1,by omega,by omega,r4⟩
theorem NIn.rev (hn:n≤p.size) (h:NIn lt p n):Srt lt (kas_rev p 0 n) n:=fun i j hij hj=>by rw [gA_rev hn,gA_rev hn,if_pos ⟨Nat.zero_le _,hj⟩,if_pos ⟨Nat.zero_le _,by omega⟩];exact h _ _ (by omega) (by omega)
theorem tail_ok (o:LtOk lt) (h:NIn lt p n) (h1:1≤n) (hn:n≤nrem) (hz:nrem≤p.size) (r:Nat×Array Nat) (e:kRun lt (kas_tail3 n nrem p)=r):1≤r.1∧r.1≤nrem∧Srt lt r.2 r.1∧r.2.Perm p:=by unfold kas_tail3 at e;rw [kRun_bind] at e;cases e;obtain ⟨a1,a2,a3⟩:=asc_ok o (p:=kas_rev p 0 n) (nrem-n) n h1 (h.rev (by omega));exact ⟨by show 1≤kRun lt (kas_asc _ _ _); omega,by show kRun lt (kas_asc _ _ _)≤nrem; omega,a3,mirror_perm _ _ _ _⟩
theorem descPart_ok (o:LtOk lt) (h:NIn lt p n) (h1:1≤n) (hlt:lt (gA p n) (gA p (n-1))=true) (hn:n<nrem) (hz:nrem≤p.size) (r:Nat×Array Nat) (e:kRun lt (kas_descPart n nrem p)=r):1≤r.1∧r.1≤nrem∧Srt lt r.2 r.1∧r.2.Perm p:=by
 unfold kas_descPart at e;rw [kRun_bind] at e;have hd:Dwn lt p (n+1) 0:=⟨h.snoc o h1 (o.as _ _ hlt),by omega,fun i hi hi'=>by rw [show i=n+1-1 by omega]; exact ⟨o.irr _,o.irr _⟩⟩;obtain ⟨d1,d2,d3,d4⟩:=desc_ok o (nrem-(n+1)) p (n+1) 0 hd (by omega) _ rfl;generalize kRun lt (kas_desc (nrem-(n+1)) p (n+1) 0)=w at *;obtain ⟨p2,n2,q2⟩:=w;dsimp only at *;have sz:p2.size=p.size:=d4.size_eq;by_cases hq:q2 > 0
 ·rw [if_pos hq] at e;have hd2:NIn lt (kas_rev p2 (n2-(q2+1)) n2) n2:=NIn.rev_eq o (by omega) d1.d fun i hi hi'=>d1.e i (by omega) hi';have sz2:(kas_rev p2 (n2-(q2+1)) n2).size=p2.size:=mirror_size _ _ _ _;obtain ⟨t1,t2,t3,t4⟩:=tail_ok o hd2 (by omega) (by omega) (by omega) r e;exact ⟨t1,t2,t3,t4.trans ((mirror_perm _ _ _ _).trans d4)⟩
 ·rw [if_neg hq] at e;obtain ⟨t1,t2,t3,t4⟩:=tail_ok o d1.d (by omega) (by omega) (by omega) r e;exact ⟨t1,t2,t3,t4.trans d4⟩
theorem asc_end (o:LtOk lt):∀(f n:Nat),1≤n→Srt lt p n→∀m,kRun lt (kas_asc p f n)=m→m=n+f∨lt (gA p m) (gA p (m-1))=true
 | 0,n,_,_,m,e=>.inl e.symm
 | f+1,n,hn,h,m,e=>by
  have st:kRun lt (kas_asc p (f+1) n)=if lt (gA p n) (gA p (n-1))=true then n else kRun lt (kas_asc p f (n+1)):=by show kRun lt (if lt (gA p n) (gA p (n-1))=true then .ret n else kas_asc p f (n+1))=_;split <;> rfl
  rw [st] at e;cases c:lt (gA p n) (gA p (n-1)) with
  | true=>rw [c,if_pos rfl] at e; subst e; exact .inr c
  | false =>
   rw [c,if_neg (by decide)] at e;rcases asc_end o f (n+1) (by omega) (h.snoc o hn c) m e with z | z
   ·exact .inl (by omega)
   ·exact .inr z
theorem count_ok (o:LtOk lt) (h1:1≤nrem) (hz:nrem≤p.size) (r:Nat×Array Nat) (e:kRun lt (kas_count nrem p)=r):1≤r.1∧r.1≤nrem∧Srt lt r.2 r.1∧r.2.Perm p:=by
 unfold kas_count at e;rw [kRun_bind] at e;have s1:Srt lt p 1:=fun i j hij hj=>by rw [show i=j by omega]; exact o.irr _
 obtain ⟨a1,a2,a3⟩:=asc_ok o (p:=p) (nrem-1) 1 (Nat.le_refl _) s1;have a4:=asc_end o (p:=p) (nrem-1) 1 (Nat.le_refl _) s1 _ rfl;generalize kRun lt (kas_asc p (nrem-1) 1)=n at *;by_cases hn:(n == nrem)=true
 ·rw [if_pos hn] at e;cases e;exact ⟨a1,by show n≤nrem; omega,a3,.refl _⟩
 ·rw [if_neg hn] at e;have hn:n≠nrem:=fun z=>hn (by rw [z]; exact beq_self_eq_true _);have lt1:=a4.resolve_left (by omega);by_cases h2:n > 1
  ·rw [if_pos h2] at e;change kRun lt (if lt (gA p 0) (gA p (n-1))=true then _ else _)=r at e;cases c:lt (gA p 0) (gA p (n-1)) with
   | true =>rw [c,if_pos rfl] at e;cases e;exact ⟨a1,by show n≤nrem; omega,a3,.refl _⟩
   | false =>
    rw [c,if_neg (by decide)] at e;have eq:∀i j,i<n→j<n→lt (gA p i) (gA p j)=false:=fun i j hi hj =>o.tr _ _ _ (o.tr _ _ _ (a3 j (n-1) (by omega) (by omega)) c) (a3 0 i (by omega) hi);have sz:(kas_rev p 0 n).size=p.size:=mirror_size _ _ _ _;have lt2:lt (gA (kas_rev p 0 n) n) (gA (kas_rev p 0 n) (n-1))=true:=by
     rw [gA_rev (by omega),if_neg (by omega),gA_rev (by omega),if_pos (by omega),show 0+n-1-(n-1)=0 by omega];cases c2:lt (gA p n) (gA p 0) with
     | true=>rfl
     | false =>have:=o.tr _ _ _ c c2;rw [lt1] at this;cases this
    obtain ⟨t1,t2,t3,t4⟩:=descPart_ok o (p:=kas_rev p 0 n) (fun i j hij hj=>by rw [gA_rev (by omega),gA_rev (by omega),if_pos ⟨Nat.zero_le _,by omega⟩,if_pos ⟨Nat.zero_le _,hj⟩];exact eq _ _ (by omega) (by omega)) a1 lt2 (by omega) (by omega) r e;exact ⟨t1,t2,t3,t4.trans (mirror_perm _ _ _ _)⟩
  ·rw [if_neg h2] at e;have:n=1:=by omega
   subst this;exact descPart_ok o (fun i j hij hj=>by rw [show i=j by omega]; exact o.irr _) (Nat.le_refl _) lt1 (by omega) hz r e
theorem place_ok (o:LtOk lt) {k:Nat} (hs:Srt lt p k):∀(f l r:Nat),r-l≤f→l≤r→r≤k→(∀i,i<l→lt (gA p k) (gA p i)=false)→(∀i,r≤i→i<k→lt (gA p k) (gA p i)=true) →
  ∀m,kRun lt (kas_place p k f l r)=m→m≤k∧(∀i,i<m→lt (gA p k) (gA p i)=false)∧∀i,m≤i→i<k→lt (gA p k) (gA p i)=true
 | 0,l,r,hf,hlr,hrk,h1,h2,m,e=>by cases e;exact ⟨by show l≤k; omega,h1,fun i hi hk=>h2 i (by show r≤i; have:l≤i:=hi; omega) hk⟩
 | f+1,l,r,hf,hlr,hrk,h1,h2,m,e=>by
  have st:kRun lt (kas_place p k (f+1) l r)=if l ≥ r then l else if lt (gA p k) (gA p ((l+r) / 2))=true then kRun lt (kas_place p k f l ((l+r) / 2)) else kRun lt (kas_place p k f ((l+r) / 2+1) r):=by
   show kRun lt (if l ≥ r then .ret l else .ask (gA p k) (gA p ((l+r) / 2)) fun c=>if c=true then kas_place p k f l ((l+r) / 2) else kas_place p k f ((l+r) / 2+1) r)=_;by_cases c:l ≥ r
   ·rw [if_pos c,if_pos c]; rfl
   ·rw [if_neg c,if_neg c];show kRun lt (if lt (gA p k) (gA p ((l+r) / 2))=true then _ else _)=_;split <;> rfl
  rw [st] at e;by_cases c:l ≥ r
  ·rw [if_pos c] at e;subst e;exact ⟨by omega,h1,fun i hi hk=>h2 i (by omega) hk⟩
  ·rw [if_neg c] at e;cases d:lt (gA p k) (gA p ((l+r) / 2)) with
   | true =>
    rw [d,if_pos rfl] at e;refine place_ok o hs f l ((l+r) / 2) (by omega) (by omega) (by omega) h1 (fun i hi hk=>?_) m e;cases d2:lt (gA p k) (gA p i) with
    | true=>rfl
    | false =>have:=o.tr _ _ _ (hs ((l+r) / 2) i hi hk) d2;rw [d] at this;cases this
   | false =>rw [d,if_neg (by decide)] at e;refine place_ok o hs f ((l+r) / 2+1) r (by omega) (by omega) hrk (fun i hi=>?_) h2 m e;exact o.tr _ _ _ (hs i ((l+r) / 2) (by omega) (by omega)) d
theorem bin_ok (o:LtOk lt):∀(f:Nat) (p:Array Nat) (k:Nat),Srt lt p k→k+f≤p.size→∀r,kRun lt (kas_bin f p k)=r→Srt lt r (k+f)∧r.Perm p
 | 0,p,k,h,_,r,e=>by cases e; exact ⟨h,.refl _⟩
 | f+1,p,k,h,hz,r,e=>by
  have st:kRun lt (kas_bin (f+1) p k)=kRun lt (kas_bin f (bubble p k (k-kRun lt (kas_place p k k 0 k))) (k+1)):=by show kRun lt ((kas_place p k k 0 k).bind _)=_;rw [kRun_bind]
  rw [st] at e;obtain ⟨m1,m2,m3⟩:=place_ok o h k 0 k (by omega) (Nat.zero_le _) (Nat.le_refl _) (fun i hi=>by omega) (fun i hi hk=>by omega) _ rfl;generalize kRun lt (kas_place p k k 0 k)=m at *;have g:=gA_bub (p:=p) (src:=k) (d:=k-m) (by omega) (by omega);rw [show k-(k-m)=m by omega] at g;have hs:Srt lt (bubble p k (k-m)) (k+1):=fun i j hij hj=>by
   rw [g,g];by_cases ei:i=m
   ·subst ei;rw [if_pos rfl];by_cases ej:j=i
    ·rw [if_pos ej]; exact o.irr _
    ·rw [if_neg ej,if_pos (by omega)]; exact o.as _ _ (m3 (j-1) (by omega) (by omega))
   ·rw [if_neg ei];by_cases ej:j=m
    ·subst ej;rw [if_pos rfl,if_neg (by omega)];exact m2 i (by omega)
    ·rw [if_neg ej];by_cases ci:m<i∧i≤k
     ·rw [if_pos ci,if_pos (by omega)]; exact h _ _ (by omega) (by omega)
     ·rw [if_neg ci];by_cases cj:m<j∧j≤k
      ·rw [if_pos cj]; exact h _ _ (by omega) (by omega)
      ·rw [if_neg cj]; exact h _ _ (by omega) (by omega)
  have sz:(bubble p k (k-m)).size=p.size:=bubble_size _ _ _;obtain ⟨r1,r2⟩:=bin_ok o f _ (k+1) hs (by omega) r e;exact ⟨by rw [show k+(f+1)=k+1+f by omega]; exact r1,r2.trans (bubble_perm _ _ _)⟩
theorem sort_ok (o:LtOk lt) (h1:1≤n):Srt lt (kRun lt (kas_sort n)) n∧(kRun lt (kas_sort n)).Perm (List.range n).toArray:=by
 have sz:(List.range n).toArray.size=n:=by simp
 unfold kas_sort;rw [kRun_bind];obtain ⟨c1,c2,c3,c4⟩:=count_ok o (p:=(List.range n).toArray) h1 (by omega) _ rfl;generalize kRun lt (kas_count n (List.range n).toArray)=w at *;obtain ⟨m,q⟩:=w;dsimp only at *;have sq:q.size=n:=by rw [c4.size_eq,sz]
 by_cases hm:m<n
 ·rw [if_pos hm,show max m 1=m by omega];obtain ⟨b1,b2⟩:=bin_ok o (n-m) q m c3 (by omega) _ rfl;rw [show m+(n-m)=n by omega] at b1;exact ⟨b1,b2.trans c4⟩
 ·rw [if_neg hm];have:m=n:=by omega
  subst this;exact ⟨c3,c4⟩
end
section
variable {prog:Program} {w:World} {A:Around} {lt:Nat→Nat→Bool} {vs:List Value} {κ:SortKind}
structure Ord (prog:Program) (w:World) (h:Heap) (vs:List Value) (κ:SortKind) (lt:Nat→Nat→Bool):Prop where
 kind:∀(s:Shared) (A:Around) (E:Value→Shared→Prop) (Q:SortKind→Shared→Prop),(∀b o,h.get? b=some o→s.heap.get? b=some o)→2≤vs.length→Q κ s→wpAny (model prog w) A (keyKind' vs.toArray) Q E s
 cmp:∀(s:Shared) (A:Around) (i j:Nat) (C:Bool→Shared→Prop),(∀b o,h.get? b=some o→s.heap.get? b=some o)→i<vs.length→j<vs.length→C (lt i j) s→wpAny (model prog w) A (keyLt' κ (vs.getD i Value.none) (vs.getD j Value.none)) C (fun _ _=>False) s
theorem sort_by {h0:Heap} {P:PySem.Fin→Shared→Prop} (ho:s.heap.get? a=some (seqObj "list" vs.toArray n)) (keep:∀b o,h0.get? b=some o→s.heap.get? b=some o) (ha0:h0.get? a=none) (h64:vs.length<64) (O:Ord prog w h0 vs κ lt) (o:LtOk lt)
  (h:∀p:Array Nat,p.Perm (List.range vs.length).toArray→Srt lt p vs.length→P (.done (.ret .none)) { s with heap:=sortedHeap s.heap a vs (List.toArray (p.toList.map fun i=>vs.getD i Value.none)) }) :
  wpAny (model prog w) A (Builtin.«list.sort» ⟨[.ref a],[]⟩) P E s:=by
 rw [list_sort_plain];have hlt:a<s.heap.objs.size:=Heap.lt_size ho;apply wpAny_bind;refine listItems_at ho rfl ?_;apply wpAny_bind;refine listUpdate_at ho rfl ?_;obtain ⟨e1,ho1⟩:∃e1,(s.heap.update a (Obj.mapSeq fun _=>#[])).get? a=some (seqObj "list" #[] e1):=⟨_,get?_update_seq ho (fun _=>#[])⟩;apply wpAny_bind;refine seqEpoch_at ho1 rfl ?_;apply wpAny_bind;refine wpAny_newTuple ?_ (by rw [sizeLine_eq]; simp; omega);apply wpAny_bind;refine wpAny_newList ?_;apply wpAny_holding;have ho6:(((s.heap.update a (Obj.mapSeq fun _=>#[])).push (seqObj "tuple" vs.toArray 0)).push (seqObj "list" #[] 0)).get? a=some (seqObj "list" #[] e1):=by rw [Heap.get?_push_ne _ _ _ (by rw [size_push',Heap.size_update]; exact Nat.ne_of_lt (Nat.lt_succ_of_lt hlt)),Heap.get?_push_ne _ _ _ (by rw [Heap.size_update]; exact Nat.ne_of_lt hlt)];exact ho1
 have keep6:∀b o,h0.get? b=some o→(((s.heap.update a (Obj.mapSeq fun _=>#[])).push (seqObj "tuple" vs.toArray 0)).push (seqObj "list" #[] 0)).get? b=some o:=fun b o e=>by
  have ne:b≠a:=fun z=>by rw [z,ha0] at e; cases e
  have hb:=Heap.lt_size (keep b o e);rw [Heap.get?_push_ne _ _ _ (by rw [size_push',Heap.size_update]; exact Nat.ne_of_lt (Nat.lt_succ_of_lt hb)),Heap.get?_push_ne _ _ _ (by rw [Heap.size_update]; exact Nat.ne_of_lt hb),Heap.get?_update_ne _ _ _ _ ne];exact keep b o e
 show wpAny (model prog w) A _ P E { s with heap:=((s.heap.update a (Obj.mapSeq fun _=>#[])).push (seqObj "tuple" vs.toArray 0)).push (seqObj "list" #[] 0) };dsimp only;have hsz:vs.toArray.size=vs.length:=by simp
 have fin:∀(p:Array Nat) (st:SortSt),p.Perm (List.range vs.length).toArray→Srt lt p vs.length→(arrOf st).map (·.2)=List.toArray (p.toList.map fun i=>vs.getD i Value.none)→failedOf st=none→(arrOf st).size≤sizeLine →
   wpAny (model prog w) A (do
    let touched:=(← seqEpoch a) != e1
    Builtin.List.listUpdate (.ref a) fun _=>(arrOf st).map (·.2)
    if let some e:=failedOf st then rule "list.sort.comparison-raised"; throw e
    if touched then rule "list.sort.modified"; raiseError "ValueError" "list modified during sort"
    ret .none) P E { s with heap:=((s.heap.update a (Obj.mapSeq fun _=>#[])).push (seqObj "tuple" vs.toArray 0)).push (seqObj "list" #[] 0) }:=fun p st h1 h2 h3 h4 h5=>by
  apply wpAny_bind;refine seqEpoch_at ho6 rfl ?_;apply wpAny_bind;refine listUpdate_at ho6 rfl ?_ (hsz2:=by rw [Array.size_map]; exact Nat.le_succ_of_le h5);rw [h4];simp only [bne_self_eq_false,Bool.false_eq_true,if_false];have:=h p h1 h2;unfold sortedHeap at this;rw [h3];exact wpAny_pure this
 have idx:(List.range vs.length).map (fun i=>vs.getD i Value.none)=vs:=by
  apply List.ext_getElem?;intro i;rw [List.getElem?_map];by_cases hi:i<vs.length
  ·rw [List.getElem?_range hi,List.getElem?_eq_getElem hi,Option.map_some,List.getD_eq_getElem?_getD,List.getElem?_eq_getElem hi]; rfl
  ·rw [List.getElem?_eq_none (by simpa using hi),List.getElem?_eq_none (by omega)]; rfl
 by_cases h2:vs.toArray.size<2
 ·rw [if_pos h2,if_pos h2];apply wpAny_bind;apply wpAny_pure;rw [StateT.run_pure];apply wpAny_bind;apply wpAny_pure;refine fin (List.range vs.length).toArray (SortSt.mk' general' (vs.toArray.zip vs.toArray) #[] 7 none) (.refl _) (fun i j hij hj=>?_) ?_ rfl ?_
  ·rw [show i=j by omega]; exact o.irr _
  ·show ((vs.toArray.zip vs.toArray).map (·.2))=_;rw [show (List.range vs.length).toArray.toList.map (fun i=>vs.getD i Value.none)=vs from idx];simp;exact List.map_snd_zip (Nat.le_refl _)
  ·show (vs.toArray.zip vs.toArray).size≤_;rw [sizeLine_eq]; simp; omega
 ·rw [if_neg h2,if_neg h2];apply wpAny_bind;refine O.kind _ _ _ _ keep6 (by omega) ?_;apply wpAny_bind;obtain ⟨k1,k2⟩:=sort_ok o (n:=vs.length) (by omega);refine wpAny_mono (kat_run (G:=fun p s'=>p=kRun lt (kas_sort vs.length)∧s' = { s with heap:=((s.heap.update a (Obj.mapSeq fun _=>#[])).push (seqObj "tuple" vs.toArray 0)).push (seqObj "list" #[] 0) })
   (Q:=fun st' s'=>s' = { s with heap:=((s.heap.update a (Obj.mapSeq fun _=>#[])).push (seqObj "tuple" vs.toArray 0)).push (seqObj "list" #[] 0) }∧(arrOf st').map (·.2)=List.toArray ((kRun lt (kas_sort vs.length)).toList.map fun i=>vs.getD i Value.none)∧failedOf st'=none∧(arrOf st').size≤sizeLine)
   rfl (by omega) h64 (fun p st' s' q1 q2 q3 q4=>?_) (kas_pure (fun i j C hi hj hC=>O.cmp _ _ i j C keep6 hi hj hC) _ (sort_in (by omega)) ⟨rfl,rfl⟩)) (fun r s' hr=>?_) fun _ _ e=>e
  ·obtain ⟨rfl,rfl⟩:=q4;exact ⟨rfl,kat_snds rfl q2,q3,by rw [q2,Array.size_map,q1,sizeLine_eq]; omega⟩
  ·obtain ⟨⟨⟩,st'⟩:=r;obtain ⟨rfl,q1,q2,q3⟩:=hr;exact fin _ st' k2 k1 q1 q2 q3
end
end
def lexI:List Int→List Int→Bool
 | [],[]=>false
 | [],_::_=>true
 | _::_,[]=>false
 | x::xs,y::ys=>if x=y then lexI xs ys else decide (x<y)
theorem lexI_tr:∀x y z:List Int,lexI y x=false→lexI z y=false→lexI z x=false
 | [],_,[],_,_=>rfl
 | [],[],_::_,_,h=>rfl
 | [],_::_,_::_,_,_=>rfl
 | _::_,[],_,h,_=>by cases h
 | _::_,_::_,[],_,h=>by cases h
 | x::xs,y::ys,z::zs,h1,h2=>by
  unfold lexI at h1 h2 ⊢;by_cases e1:y=x
  ·subst e1;rw [if_pos rfl] at h1;by_cases e2:z=y
   ·subst e2;rw [if_pos rfl] at h2 ⊢;exact lexI_tr xs ys zs h1 h2
   ·rw [if_neg e2] at h2 ⊢; exact h2
  ·rw [if_neg e1] at h1;have h1:¬y<x:=of_decide_eq_false h1;by_cases e2:z=y
   ·subst e2;rw [if_neg e1]; exact decide_eq_false h1
   ·rw [if_neg e2] at h2;have h2:¬z<y:=of_decide_eq_false h2;rw [if_neg (by omega)];exact decide_eq_false (by omega)
theorem lexI_as:∀x y:List Int,lexI x y=true→lexI y x=false
 | [],[],h=>by cases h
 | [],_::_,_=>rfl
 | _::_,[],h=>by cases h
 | x::xs,y::ys,h=>by
  unfold lexI at h ⊢;by_cases e:x=y
  ·subst e;rw [if_pos rfl] at h ⊢;exact lexI_as xs ys h
  ·rw [if_neg e] at h;have h:x<y:=of_decide_eq_true h;rw [if_neg (by omega)];exact decide_eq_false (by omega)
theorem lexI_eq:∀x y:List Int,lexI x y=false→lexI y x=false→x=y
 | [],[],_,_=>rfl
 | [],_::_,h,_=>by cases h
 | _::_,[],_,h=>by cases h
 | x::xs,y::ys,h1,h2=>by
  unfold lexI at h1 h2;by_cases e:x=y
  ·subst e;rw [if_pos rfl] at h1 h2;rw [lexI_eq xs ys h1 h2]
  ·rw [if_neg e] at h1;rw [if_neg (Ne.symm e)] at h2;have h1:=of_decide_eq_false h1;have h2:=of_decide_eq_false h2;omega
def lexZ (fin:Bool):List Int→List Int→Bool
 | x::xs,y::ys=>if x=y then lexZ fin xs ys else decide (x<y)
 | _,_=>fin
theorem lexZ_I:∀xs ys:List Int,lexZ (decide (xs.length<ys.length)) xs ys=lexI xs ys
 | [],[]=>rfl
 | [],y::ys=>by simp [lexZ,lexI]
 | x::xs,[]=>by simp [lexZ,lexI]
 | x::xs,y::ys=>by unfold lexZ lexI;rw [← lexZ_I xs ys];simp
section
variable {prog:Program} {w:World} {A:Around} {b fin:Bool} {Q:Bool→Shared→Prop}
theorem lex_ints:∀(xs ys:List Int) (its jts:List Value) (i:Nat),Vals (xs.map V.int) its→Vals (ys.map V.int) jts→Q (lexZ fin xs ys) s→PySem.W.KatLex prog w A b fin Q (its.zip jts) i s
 | [],_,_,_,_,.nil,_,h=>h
 | _::_,[],_::_,_,_,.cons _ _,.nil,h=>h
 | x::xs,y::ys,_,_,i,.cons r t,.cons r' t',h=>by
  obtain ⟨tk,rfl⟩:=r;obtain ⟨tk',rfl⟩:=r';refine PySem.W.kat_cons (wpAny_eqBool_int ?_);unfold lexZ at h;by_cases e:x=y
  ·subst e;rw [if_pos rfl] at h;rw [beq_self_eq_true];exact PySem.W.kat_yes (lex_ints xs ys _ _ (i+1) t t' h)
  ·rw [if_neg e] at h;have:(x == y)=false:=by simpa using e
   rw [this];refine PySem.W.kat_no ?_;cases hb:(b && i == 0) with
   | true=>exact oneLt_int h
   | false=>exact PySem.W.kat_one _ _ (wpAny_lt_int h)
end
theorem vals_refs:∀{qs:List (Addr×List Int)} {its:List Value},Vals (qs.map fun q=>V.ref q.1) its→its=qs.map fun q=>Value.ref q.1
 | [],_,.nil=>rfl
 | q::qs,_,.cons r t=>by cases r; rw [vals_refs t]; rfl
theorem refs_vals:∀qs:List (Addr×List Int),Vals (qs.map fun q=>V.ref q.1) (qs.map fun q=>Value.ref q.1)
 | []=>.nil
 | q::qs=>.cons rfl (refs_vals qs)
namespace SW
section
variable {prog:Program} {w:World} {A:Around}
def iv:Value→Int
 | .int n _=>n
 | _=>0
end
section
variable {prog:Program} {w:World} {A:Around}
def ledW (w:World):Bool:=!w.params.followText "set-order"
theorem set_new_W (a:Value) {Q₁:Value→Shared→Prop} (h:Q₁ (.ref s.heap.objs.size) { s with heap:=s.heap.push { cls:=.type "set",dict:=none,data:=.set #[] 0 (.fresh 0 0 (ledW w)) } }) :
    codeAny (model prog w) A (.call (.builtin "set.__new__") ⟨[.type "set",a],[]⟩) (wants Q₁ E) s:=by
  refine codeAny_of_tree ?_;show wpAny _ A.in1 (do checkBuiltinCall "set.__new__" ⟨[.type "set",a],[]⟩; again (.builtin "set.__new__" ⟨[.type "set",a],[]⟩)) _ _ s;refine wpAny_bind (wpAny_of_eq (PySem.F.newCall_set_1 a) (wpAny_pure ⟨plainId_quiet PySem.F.plain_set_new _,codeAny_builtin PySem.F.entry_set_new ?_⟩));rw [Around.under_plainId PySem.F.plain_set_new _];unfold Builtin.«set.__new__» Builtin.Frozenset.newClass;have hsub:=sub_set_self;obtain ⟨hp,g,d,tk,os⟩:=s;dsimp only
  wp_walk
  refine wpAny_askSetting (wpAny_pure ?_);dsimp only;simp only [newObj];refine wpAny_bind (wpAny_alloc (wpAny_pure ?_));exact wpAny_pure h
end
end SW
namespace SW
end SW
namespace SW
theorem slot_sn:Slot "set_iterator" "__next__" "set_iterator.__next__" :=
 .of (owner:="set_iterator") (n:="__next__") (by rw [typeLookup_type,builtinLookup_eq_fast]; kernel_rfl) (by decide +kernel) (by decide +kernel) (by decide +kernel) (by first | exact .inl (by decide +kernel) | exact .inr (by decide +kernel)) (by rw [isSubtype_type]; kernel_rfl)
theorem entry_sn:entryFor table "set_iterator.__next__"=some Builtin.«set_iterator.__next__»:=entryFor_of_tree (by kernel_rfl)
theorem owner_sn:Manifest.owners.lookup (String.ofList ['r','o','t','a','r','e','t','i','_','t','e','s'].reverse)=some Manifest.sig_set_iterator:=by kernel_rfl
theorem args_sn (a:Value):argsOk "set_iterator.__next__" ⟨[a],[]⟩:=by unfold argsOk; rw [signature?_of (id:="set_iterator.__next__") (n:=['_','_','t','x','e','n','_','_']) (o:=['r','o','t','a','r','e','t','i','_','t','e','s']) (by kernel_rfl) owner_sn]; kernel_rfl
theorem entry_si:entryFor table "set.__iter__"=some Builtin.«frozenset.__iter__»:=entryFor_alias (id':="frozenset.__iter__") (by kernel_rfl) rfl (by decide +kernel) (by kernel_rfl)
section
variable {prog:Program} {w:World} {A:Around} {es:Array (Int×Value)} {t:SetTable}
structure Wk (w:World) (o:Obj) (es:Array (Int×Value)) (ep:Nat) (t:SetTable):Prop where
 ex:o.ExactSet
 dat:o.data=.set es ep t
 fits:t.fits es.size=true
 plain:ledW w=true→t.plain=true
 led:ledW w=true→t.led=true
 walk:ledW w=true→∀i,i≤es.size→SetTable.below t.place (if i=0 then 0 else t.place.getD (i-1) 0+1)=i
def ordW (w:World) (a:Addr) (es:Array (Int×Value)) (ep:Nat):Array (Int×Value):=if ledW w=true then es else pickOrder (w.params.setOrder a ep) es
def slW (w:World) (t:SetTable) (i:Nat):Nat:=if ledW w=true then (if i=0 then 0 else t.place.getD (i-1) 0+1) else 0
def itO (w:World) (a:Addr) (t:SetTable) (n ep i:Nat):Obj:={ cls:=.type "set_iterator",data:=.fields #[.int (slW w t i) 0,.int i 0,.ref a,.int n 0,.int ep 0] }
theorem wp_byText {Q:Bool→Shared→Prop} (h:Q (!ledW w) s):wpAny (model prog w) A setsByText Q E s:=by
 unfold setsByText;refine wpAny_bind (wpAny_askSetting (wpAny_pure ?_));have:(model prog w).w.params.followText "set-order" = !ledW w:=by unfold ledW; rw [Bool.not_not]; rfl
 rw [this];exact h
theorem iter_W (k:Wk w o es ep t) (ho:s.heap.get? a=some o) (h:Q (.ref s.heap.objs.size) { s with heap:=s.heap.push (itO w a t es.size ep 0) }):wpAny (model prog w) A (pyIter (.ref a)) Q E s:=by
  have hT:s.TypeIs (.ref a) "set":=⟨o,ho,k.ex.1⟩;refine wpAny_pyIter_slot hT PySem.F.slot_set_iter (wpAny_call_entry PySem.F.slot_set_iter hT entry_si ?_ (PySem.F.args_set_iter_1 _));unfold Builtin.«frozenset.__iter__» Builtin.Frozenset.slot0 slotArgs;simp only [List.isEmpty_nil,Bool.not_true,Bool.false_eq_true,↓reduceIte,bind_assoc,List.length_nil,bne_self_eq_false];unfold Builtin.Frozenset.addrOf Builtin.Frozenset.sizeOf;refine wpAny_bind (wpAny_pure ?_)
  try dsimp only
  refine wpAny_bind (wpAny_pure ?_);refine wpAny_bind (wpAny_bind (wpAny_setEntries_of ho k.dat k.fits (wpAny_pure ?_)));refine wpAny_bind ?_;unfold setDrawn;refine wpAny_bind (wpAny_setState_of ho k.dat k.fits ?_);refine wpAny_bind (wp_byText ?_);refine wpAny_pure ?_;rw [if_neg (fun hb=>by
    have hb:(!!ledW w && (!t.plain && decide (es.size > 1)))=true:=hb;cases hl:ledW w with
    | false=>rw [hl] at hb; cases hb
    | true=>rw [hl,k.plain hl] at hb; cases hb)]
  refine wpAny_bind (wpAny_pure ?_);refine wpAny_bind (wpAny_setEpoch_of ho k.dat k.fits ?_);unfold newFields;refine wpAny_bind (wpAny_newObj_type (wpAny_pure ⟨_,rfl,"set_iterator",_,⟨_,Heap.get?_push_size _ rfl,rfl⟩,slot_sn.lookup,?_⟩));have e:itO w a t es.size ep 0 = { cls:=.type "set_iterator",data:=.fields [rawInt 0,rawInt 0,Value.ref a,rawInt es.size,rawInt ep].toArray }:=by unfold itO slW rawInt;simp
  rw [← e];exact h
theorem walk_W {Q:Array (Int×Value)→Shared→Prop} (k:Wk w o es ep t) (ho:s.heap.get? a=some o) (hl:ledW w=false) (h:Q (pickOrder (w.params.setOrder a ep) es) s):wpAny (model prog w) A (setWalk a) Q E s:=by unfold setWalk;refine wpAny_bind (wpAny_setState_of ho k.dat k.fits ?_);refine wpAny_bind (wp_byText ?_);rw [hl];rw [if_pos (by rfl)];refine wpAny_bind (wpAny_askSetting ?_);exact wpAny_pure h
theorem setNext_W {Q:Option (Value×Nat)→Shared→Prop} (k:Wk w o es ep t) (ho:s.heap.get? a=some o) (hi:i≤es.size) (h:Q ((ordW w a es ep)[i]?.map fun e=>(e.2,slW w t (i+1))) s):wpAny (model prog w) A (setNext a (slW w t i) i ep) Q E s:=by
 unfold setNext;refine wpAny_bind (wpAny_setState_of ho k.dat k.fits ?_);refine wpAny_bind (wp_byText ?_);cases hl:ledW w with
 | false =>dsimp only;rw [if_pos (by rfl)];simp only [bne_self_eq_false,Bool.false_eq_true,if_false];refine wpAny_bind (walk_W k ho hl ?_);refine wpAny_pure ?_;unfold ordW slW at h;unfold slW;rw [hl] at h ⊢;simpa using h
 | true =>
  dsimp only;rw [if_neg (by decide)];rw [if_neg (fun hb=>by have hb:(!t.plain && decide (es.size > 1))=true:=hb;rw [k.plain hl] at hb; cases hb)];refine wpAny_bind ?_;show wpAny _ _ (if (!t.led && !es.isEmpty)=true then _ else _) _ _ _;rw [if_neg (by rw [k.led hl]; simp)];refine wpAny_pure (wpAny_pure ?_);have hw:SetTable.below t.place (slW w t i)=i:=by unfold slW; rw [if_pos hl]; exact k.walk hl i hi
  rw [hw];have hz:t.place.size=es.size:=by have:=k.fits;unfold SetTable.fits at this;simp only [Bool.and_eq_true,beq_iff_eq] at this;exact this.1
  have e:(match es[i]?,t.place[i]? with
    | some (_,x),some j=>some (x,j+1)
    | _,_=>none)=(ordW w a es ep)[i]?.map fun e=>(e.2,slW w t (i+1)):=by
   unfold ordW slW;rw [if_pos hl,if_pos hl];by_cases c:i<es.size
   ·have c2:i<t.place.size:=by omega
    rw [Array.getElem?_eq_getElem c,Array.getElem?_eq_getElem c2];simp [Array.getD,c2]
   ·rw [Array.getElem?_eq_none (by omega)]; rfl
  rw [← e] at h;exact h
theorem it_type (h:s.heap.get? it=some (itO w a t n ep i)):s.TypeIs (.ref it) "set_iterator":=⟨_,h,rfl⟩
theorem next_W {e:Int×Value} {Q:Option Value→Shared→Prop} (k:Wk w o es ep t) (ho:s.heap.get? a=some o) (hit:s.heap.get? it=some (itO w a t es.size ep i)) (hi:i<es.size) (hx:(ordW w a es ep)[i]?=some e)
  (hQ:∀h',h'.get? it=some (itO w a t es.size ep (i+1))→Heap.SameBut it s.heap h'→Q (some e.2) { s with heap:=h' }):wpAny (model prog w) A (pyNext (.ref it)) Q E s:=by
 unfold pyNext;refine wpAny_bind (wpAny_attempt (wpAny_callSpecial?_slot (name:=Str.ofString "__next__") (it_type hit) slot_sn (wpAny_call_entry slot_sn (it_type hit) entry_sn ?_ (args_sn _))));unfold Builtin.«set_iterator.__next__» slotArgs;simp only [List.isEmpty_nil,Bool.not_true,Bool.false_eq_true,↓reduceIte,bind_assoc,List.length_nil,bne_self_eq_false];refine wpAny_bind (wpAny_pure ?_);refine wpAny_bind (wpAny_fieldsOf hit rfl ?_);dsimp only;refine wpAny_bind (wpAny_setEntries_of ho k.dat k.fits ?_);rw [if_neg (by simp)];simp only [Int.toNat_natCast];refine wpAny_bind (setNext_W k ho (Nat.le_of_lt hi) ?_);rw [hx];dsimp only [Option.map_some];refine wpAny_bind (wpAny_setField_rec hit (by simp) fun h1 g1 b1=>?_);refine wpAny_bind (wpAny_setField_rec g1 (by simp) fun h2 g2 b2=>?_);refine wpAny_pure ⟨_,rfl,wpAny_pure (hQ h2 ?_ (b1.trans b2))⟩;rw [g2];unfold itO rawInt;simp
theorem end_W {Q:Option Value→Shared→Prop} (hh:A.handled=none) (k:Wk w o es ep t) (ho:s.heap.get? a=some o) (hit:s.heap.get? it=some (itO w a t es.size ep es.size)) (hx:(ordW w a es ep)[es.size]?=none)
  (hQ:∀h',Heap.ExtBut it s.heap h'→Q none { s with heap:=h' }):wpAny (model prog w) A (pyNext (.ref it)) Q E s:=by
 unfold pyNext;refine wpAny_bind (wpAny_attempt (wpAny_callSpecial?_slot (name:=Str.ofString "__next__") (it_type hit) slot_sn (wpAny_call_entry slot_sn (it_type hit) entry_sn ?_ (args_sn _))));unfold Builtin.«set_iterator.__next__» slotArgs;simp only [List.isEmpty_nil,Bool.not_true,Bool.false_eq_true,↓reduceIte,bind_assoc,List.length_nil,bne_self_eq_false];refine wpAny_bind (wpAny_pure ?_);refine wpAny_bind (wpAny_fieldsOf hit rfl ?_);dsimp only;refine wpAny_bind (wpAny_setEntries_of ho k.dat k.fits ?_);rw [if_neg (by simp)];simp only [Int.toNat_natCast];refine wpAny_bind (setNext_W k ho (Nat.le_refl _) ?_);rw [hx];dsimp only [Option.map_none];refine wpAny_bind (wpAny_setField_rec hit (by simp) fun h1 g1 b1=>?_);show wpAny _ _ (newExc (.type "StopIteration") [] >>= _) _ _ _;refine wpAny_bind ?_;simp only [newExc,newTuple];refine wpAny_bind (wpAny_newObj_type ?_ (by size_fits));refine wpAny_bind (m:=firstArgMember _ _) (wpAny_of_eq (a:=Value.none) (by first | rfl | (simp only [firstArgMember]; rfl)) ?_);refine wpAny_newObj_type ?_ (by size_fits);simp only [raiseNew];refine wpAny_bind (wpAny_handled ?_);rw [show A.in1.handled=none from hh];refine wpAny_bind (wpAny_pure (wpAny_throw ?_));refine wpAny_bind (wpAny_isInstance (T:="StopIteration") (b:=true) ⟨_,Heap.get?_push_size _ rfl,rfl⟩ isSubtype_stop ?_);exact wpAny_pure (hQ _ ((b1.extBut.push _).push _))
theorem slot_sii:Slot "set_iterator" "__iter__" "set_iterator.__iter__" :=
 .of (owner:="set_iterator") (n:="__iter__") (by rw [typeLookup_type,builtinLookup_eq_fast]; kernel_rfl) (by decide +kernel) (by decide +kernel) (by decide +kernel) (by first | exact .inl (by decide +kernel) | exact .inr (by decide +kernel)) (by rw [isSubtype_type]; kernel_rfl)
theorem entry_sii:entryFor table "set_iterator.__iter__"=some Builtin.«dict_keyiterator.__iter__»:=entryFor_alias (id':="dict_keyiterator.__iter__") (by kernel_rfl) rfl (by decide +kernel) (by kernel_rfl)
theorem args_sii (a:Value):argsOk "set_iterator.__iter__" ⟨[a],[]⟩:=by unfold argsOk; rw [signature?_of (id:="set_iterator.__iter__") (n:=['_','_','r','e','t','i','_','_']) (o:=['r','o','t','a','r','e','t','i','_','t','e','s']) (by kernel_rfl) owner_sn]; kernel_rfl
theorem self_W (hit:s.heap.get? it=some (itO w a t n ep i)) (h:Q (.ref it) s):wpAny (model prog w) A (pyIter (.ref it)) Q E s:=by refine wpAny_pyIter_slot (it_type hit) slot_sii (wpAny_call_entry slot_sii (it_type hit) entry_sii ?_ (args_sii _));show wpAny _ _ (ret (.ref it)) _ _ s;exact wpAny_pure ⟨_,rfl,"set_iterator",_,it_type hit,slot_sn.lookup,h⟩
theorem hint_W {Q:Bool→Shared→Prop} (hT:s.TypeIs (.ref a) "set") (h:Q false s):wpAny (model prog w) A (Builtin.List.listLengthHint (.ref a)) Q E s:=by
 unfold Builtin.List.listLengthHint;refine wpAny_bind (wpAny_specialOf hT PySem.F.slot_set_len.lookup ?_);generalize hid:("set.__len__":String)=id0
 wp_delta
 rw [show splitId id0=some ("set","__len__") from by subst hid; decide +kernel];subst hid;refine wpAny_bind (wpAny_isInstance (T:="set") (b:=true) hT (by rw [isSubtype_type]; kernel_rfl) ?_);refine wpAny_ite_split (fun hab=>absurd hab (by decide)) (fun _=>?_);refine wpAny_ite_split (fun _=>?_) (fun hab=>absurd (by decide +kernel) hab);refine wpAny_bind (wpAny_typeOf hT ?_);exact wpAny_pure h
theorem era_perm {α:Type}:∀(xs:List α) (i:Nat) (h:i<xs.length),(xs[i]::xs.eraseIdx i).Perm xs
 | x::xs,0,_=>.refl _
 | x::xs,i+1,h=>(List.Perm.swap _ _ _).trans (.cons x (era_perm xs i (Nat.lt_of_succ_lt_succ h)))
theorem pick_go {α:Type} (next:Nat→Nat):∀(n k:Nat) (xs:List α) (out:Array α),xs.length=n→((pickOrder.go next n k xs out).toList).Perm (out.toList++xs)
 | 0,k,xs,out,h=>by have:xs=[]:=List.length_eq_zero_iff.mp h;subst this;show (out.toList).Perm _;simp
 | n+1,k,xs,out,h=>by
  have hl:next k % xs.length<xs.length:=Nat.mod_lt _ (by omega)
  unfold pickOrder.go;rw [List.getElem?_eq_getElem hl];dsimp only;refine (pick_go next n (k+1) (xs.eraseIdx (next k % xs.length)) (out.push xs[next k % xs.length]) (by rw [List.length_eraseIdx_of_lt hl]; omega)).trans ?_;rw [Array.toList_push,List.append_assoc];refine List.Perm.append_left _ ?_;show (xs[next k % xs.length]::xs.eraseIdx (next k % xs.length)).Perm xs;exact era_perm xs _ hl
theorem ord_perm:(ordW w a es ep).toList.Perm es.toList:=by
 unfold ordW;split
 ·exact .refl _
 ·unfold pickOrder;exact (pick_go _ _ _ _ _ (by simp)).trans (by simp)
theorem ord_size:(ordW w a es ep).size=es.size:=by have:=(ord_perm (w:=w) (a:=a) (es:=es) (ep:=ep)).length_eq;simpa using this
theorem walks_W (hh:A.handled=none) (k:Wk w o es ep t) (hne:a≠it):Walks prog w A it [it,a] [it] es.size (fun i v=>∃e,(ordW w a es ep)[i]?=some e∧v=e.2) (fun i h=>h.get? it=some (itO w a t es.size ep i)∧h.get? a=some o) where
 sub:=fun b hb=>by simp at hb; simp [hb]
 frame:=fun _ _ _ st hk=>⟨hk it (by simp) _ st.1,hk a (by simp) _ st.2⟩
 item:=fun i s Q E hi st hQ=>by have hx:(ordW w a es ep)[i]?=some ((ordW w a es ep)[i]'(by rw [ord_size]; exact hi)):=Array.getElem?_eq_getElem _;refine next_W k st.2 st.1 hi hx fun h' g b=>?_;exact hQ _ h' s.toks ⟨_,hx,rfl⟩ ⟨g,(b.2 a hne).trans st.2⟩ fun c o' hc e=>(b.2 c (fun z=>hc (by simp [z]))).trans e
 done:=fun s Q E st hQ=>end_W hh k st.2 st.1 (Array.getElem?_eq_none (by rw [ord_size]; exact Nat.le_refl _)) fun h' he=>hQ h' s.toks fun b o' hb e=>he b o' (fun z=>hb (by simp [z])) e
 self:=fun _ _ _ _ st hQ=>self_W st.1 hQ
theorem src_W (k:Wk w o es ep t):PySem.W.KdlSrc prog w "set" a a es.size (fun i v=>∃e,(ordW w a es ep)[i]?=some e∧v=e.2) (fun h=>h.get? a=some o) where
 type:=fun _ hm=>⟨o,hm,k.ex.1⟩
 there:=fun _ hm=>⟨Heap.lt_size hm,Heap.lt_size hm⟩
 keep:=fun _ _ hm hk=>hk a (.inl rfl) _ hm
 notList:=by decide
 notTuple:=by decide
 hint:=fun _ _ _ _ hm hq=>hint_W ⟨o,hm,k.ex.1⟩ hq
 iter:=fun _ _ hh hm=>⟨_,_,(fun _ _ hq=>iter_W k hm hq),walks_W hh k (Nat.ne_of_lt (Heap.lt_size hm)),⟨Heap.get?_push_size _ rfl,Heap.get?_push_of_some _ hm⟩⟩
end
end SW
namespace SW
section
variable {prog:Program} {w:World} {A:Around} {r d:Addr} {P:Nat→Value→Prop} {OK:Heap→Prop}
theorem collect_src {Q:List Value→Shared→Prop} (K:PySem.W.KdlSrc prog w T r d n P OK) (hh:A.handled=none) (hok:OK s.heap) (hn:n≤sizeLine)
    (hQ:∀h' tk acc,(∀b o,s.heap.get? b=some o→h'.get? b=some o)→s.heap.objs.size≤h'.objs.size→ItemsOf P acc n→Q acc.toList { s with heap:=h',toks:=tk }):wpAny (model prog w) A (collect (.ref r)) Q E s:=by
  have hlt:=K.there _ hok;unfold collect;refine wpAny_bind (wpAny_runValue (codeAny_builtin F.entry_proto_collect ?_));rw [Around.under_plainId F.plain_proto_collect _];show wpAny _ A.in1 (newList [] >>= fun l=>again (.builtin "list.__iadd__" ⟨[l,.ref r],[]⟩)) _ _ s;refine wpAny_bind (wpAny_newObj_type ?_);refine wpAny_pure ⟨plainId_quiet F.plain_list_iadd _,codeAny_builtin F.entry_list_iadd ?_⟩;rw [Around.under_plainId F.plain_list_iadd _];show wpAny _ A.in1 (Builtin.List.listExtendWith (.ref s.heap.objs.size) (.ref r) (.ref s.heap.objs.size)) _ _ _;have hS1:(s.heap.push { cls:=.type "list",data:=.seq ([]:List Value).toArray }).get? s.heap.objs.size=some { cls:=.type "list",data:=.seq #[] 0 }:=Heap.get?_push_size _ rfl;refine PySem.W.kdl_extend (R:=fun r s'=>match r with
    | .ok (.ret v)=>wpAny (model prog w) A (match v with
      | .ref a=>do
        match (← load a).data with
        | .seq xs _=>pure xs.toList
        | _=>unsupported "internal:collect"
      | _=>unsupported "internal:collect") Q E s'
    | .ok _=>False
    | .error e=>E e s') (s:={ s with heap:=s.heap.push { cls:=.type "list",data:=.seq ([]:List Value).toArray } }) K hh (K.keep _ _ hok fun b _ o e=>Heap.get?_push_of_some _ e) _ (Nat.ne_of_gt hlt.1) (Nat.ne_of_gt hlt.2) _ 0 hS1 (fun h' tk acc' c' hk hS' hacc=>?_) hn
  show wpAny _ A (load s.heap.objs.size >>= _) _ _ _;refine wpAny_bind (wpAny_load hS' ?_);exact wpAny_pure (hQ h' tk acc' (fun b o e=>hk b o (Nat.ne_of_lt (Heap.lt_size e)) (Heap.get?_push_of_some _ e)) (Nat.le_of_lt (Heap.lt_size hS')) hacc)
variable {es:Array (Int×Value)} {t:SetTable} {ns:List Int}
end
end SW
variable {mask:Nat}
section
open PySem PySem.Spec PyProof.Rows
open SetTable
namespace STb
theorem all_le:∀(M:Nat) (xs:List Nat),(∀e,e<M→e∈xs)→M≤xs.length
 | 0,_,_=>Nat.zero_le _
 | M+1,xs,h=>by have h1:=h M (Nat.lt_succ_self M);have:=all_le M (xs.erase M) fun e he=>(List.mem_erase_of_ne (by omega)).mpr (h e (by omega));rw [List.length_erase_of_mem h1] at this;have:=List.length_pos_of_mem h1;omega
theorem nd_le:∀(M:Nat) (xs:List Nat),xs.Nodup→(∀e∈xs,e<M)→xs.length≤M
 | 0,xs,_,h=>by
  cases xs with
  | nil=>exact Nat.le_refl _
  | cons a xs=>exact absurd (h a List.mem_cons_self) (by omega)
 | M+1,xs,nd,h=>by
  by_cases hm:M∈xs
  ·have:=nd_le M (xs.erase M) (nd.erase M) fun e he=>by
    have h1:=h e (List.mem_of_mem_erase he);have h2:e≠M:=fun z=>by subst z;exact (List.Nodup.not_mem_erase nd) he
    omega
   rw [List.length_erase_of_mem hm] at this;omega
  ·have:=nd_le M xs nd fun e he=>by have h1:=h e he;have h2:e≠M:=fun z=>hm (z ▸ he);omega
   omega
theorem gap {M:Nat} {xs:List Nat} (h:xs.length<M):∃e,e<M∧e∉xs :=
 Classical.byContradiction fun n=>by have:=all_le M xs fun e he=>Classical.byContradiction fun q=>n ⟨e,he,q⟩;omega
def Low (xs:List Nat) (j b:Nat):Prop:=b≤xs.length∧∀i x,xs[i]?=some x→(i<b↔x<j)
theorem so_lt {xs:List Nat} (so:xs.Pairwise (· < ·)) {k x y:Nat} (hi:xs[i]?=some x) (hk:xs[k]?=some y) (h:i<k):x<y:=by obtain ⟨h1,rfl⟩:=List.getElem?_eq_some_iff.mp hi;obtain ⟨h2,rfl⟩:=List.getElem?_eq_some_iff.mp hk;exact List.pairwise_iff_getElem.mp so i k h1 h2 h
theorem below_go (xs:Array Nat) (j:Nat) (so:xs.toList.Pairwise (· < ·)):∀(f lo hi:Nat),hi-lo≤f→lo≤hi→hi≤xs.size→(∀i x,xs.toList[i]?=some x→i<lo→x<j)→(∀i x,xs.toList[i]?=some x→hi≤i→j≤x)→Low xs.toList j (below.go xs j f lo hi)
 | 0,lo,hi,hf,h1,h2,a,b=>by
  have:lo=hi:=by omega
  subst this;show Low _ _ lo;exact ⟨by rw [Array.length_toList]; exact h2,fun i x e=>⟨a i x e,fun q=>Classical.byContradiction fun z=>by have:=b i x e (by omega); omega⟩⟩
 | f+1,lo,hi,hf,h1,h2,a,b=>by
  unfold below.go;by_cases c:lo<hi
  ·rw [if_pos c];dsimp only;have hm:(lo+hi) / 2<xs.size:=by omega
   have e1:xs.toList[(lo+hi) / 2]?=some xs[(lo+hi) / 2]:=by rw [Array.getElem?_toList,Array.getElem?_eq_getElem hm]
   have e2:xs.getD ((lo+hi) / 2) j=xs[(lo+hi) / 2]:=by rw [Array.getD_eq_getD_getElem?,Array.getElem?_eq_getElem hm]; rfl
   rw [e2];by_cases d:xs[(lo+hi) / 2]<j
   ·rw [if_pos d];refine below_go xs j so f _ hi (by omega) (by omega) h2 (fun i x e hl=>?_) b;by_cases z:i=(lo+hi) / 2
    ·subst z; rw [e1] at e; cases e; exact d
    ·exact Nat.lt_trans (so_lt so e e1 (by omega)) d
   ·rw [if_neg d];refine below_go xs j so f lo _ (by omega) (by omega) (by omega) a (fun i x e hl=>?_);by_cases z:i=(lo+hi) / 2
    ·subst z; rw [e1] at e; cases e; omega
    ·have:=so_lt so e1 e (by omega);omega
  ·rw [if_neg c];have:lo=hi:=by omega
   subst this;exact ⟨by rw [Array.length_toList]; exact h2,fun i x e=>⟨a i x e,fun q=>Classical.byContradiction fun z=>by have:=b i x e (by omega); omega⟩⟩
theorem below_low {xs:Array Nat} (so:xs.toList.Pairwise (· < ·)) (j:Nat):Low xs.toList j (below xs j):=by refine below_go xs j so _ 0 xs.size (by omega) (by omega) (Nat.le_refl _) (fun i x e h=>absurd h (by omega)) fun i x e h=>?_;obtain ⟨h1,_⟩:=List.getElem?_eq_some_iff.mp e;rw [Array.length_toList] at h1;omega
theorem below_at {xs:Array Nat} (so:xs.toList.Pairwise (· < ·)) (h:xs.toList[i]?=some j):below xs j=i:=by
 obtain ⟨h1,h2⟩:=below_low so j;have h3:=h2 i j h;have h4:¬i<below xs j:=fun z=>by have:=h3.mp z; omega
 obtain ⟨hl,_⟩:=List.getElem?_eq_some_iff.mp h;by_cases z:below xs j=i
 ·exact z
 ·have hb:below xs j<xs.toList.length:=by omega
  have e1:=List.getElem?_eq_getElem hb;have:=(h2 _ _ e1).mpr (so_lt so e1 h (by omega));omega
theorem slot_live {t:SetTable} (so:t.place.toList.Pairwise (· < ·)) (h:t.place.toList[i]?=some j):t.slot j=.live i:=by unfold slot;rw [below_at so h];dsimp only;rw [show t.place[i]?=some j by rw [← Array.getElem?_toList]; exact h];simp
theorem slot_empty {t:SetTable} (dm:t.dummies = #[]) (h:j∉t.place.toList):t.slot j=.empty:=by
 unfold slot;dsimp only;rw [if_neg,if_neg]
 ·unfold has;rw [dm];simp
 ·intro z;have z:t.place[below t.place j]?=some j:=by simpa using z
  rw [← Array.getElem?_toList] at z;exact h (List.mem_of_getElem? z)
def adv (mask:Nat) (p:Probe):Probe:=if p.more > 0 then { p with j:=p.j+1,more:=p.more-1 } else { p with j:=(leap mask p.i p.perturb).1,more:=runEnd mask (leap mask p.i p.perturb).1-(leap mask p.i p.perturb).1,i:=(leap mask p.i p.perturb).1,perturb:=(leap mask p.i p.perturb).2 }
def wk (mask:Nat):Nat→Probe→Probe
 | 0,p=>p
 | n+1,p=>wk mask n (adv mask p)
def hd (mask i pe:Nat):Probe:={ j:=i,more:=runEnd mask i-i,i:=i,perturb:=pe,dummy:=none }
def stt (mask:Nat) (h:Int):Probe:=hd mask (bits h % (mask+1)) (bits h)
theorem adv_is (t:SetTable) (p:Probe):t.advance p=adv t.mask p:=rfl
theorem stt_is (t:SetTable) (h:Int):t.probeStart h=stt t.mask h:=rfl
theorem wk_add (mask:Nat):∀(a b:Nat) (p:Probe),wk mask (a+b) p=wk mask b (wk mask a p)
 | 0,b,p=>by rw [Nat.zero_add]; rfl
 | a+1,b,p=>by rw [Nat.add_right_comm]; exact wk_add mask a b (adv mask p)
theorem adv_dummy {p:Probe}:(adv mask p).dummy=p.dummy:=by unfold adv;split <;> rfl
theorem wk_run (mask:Nat):∀(k r j i pe:Nat) (d:Option Nat),k≤r→wk mask k ⟨j,r,i,pe,d⟩=⟨j+k,r-k,i,pe,d⟩
 | 0,r,j,i,pe,d,_=>rfl
 | k+1,r,j,i,pe,d,h=>by
  show wk mask k (adv mask _)=_;have:adv mask ⟨j,r,i,pe,d⟩=⟨j+1,r-1,i,pe,d⟩:=by unfold adv;rw [if_pos (by show r > 0; omega)]
  rw [this,wk_run mask k (r-1) (j+1) i pe d (by omega)];congr 1 <;> omega
def nx (mask i pe:Nat):Nat:=(i * 5+1+pe / 32) % (mask+1)
theorem wk_leap (mask i pe:Nat):wk mask (runEnd mask i-i+1) (hd mask i pe)=hd mask (nx mask i pe) (pe / 32):=by rw [wk_add,show hd mask i pe=⟨i,runEnd mask i-i,i,pe,none⟩ from rfl,wk_run mask _ _ _ _ _ _ (Nat.le_refl _),Nat.sub_self];simp only [wk];unfold adv;rw [if_neg (by simp)];rfl
theorem run_le (mask i:Nat):runEnd mask i-i≤9:=by unfold runEnd;split <;> omega
def hds (mask:Nat):Nat→Nat→Nat→Nat
 | 0,i,_=>i
 | k+1,i,pe=>hds mask k (nx mask i pe) (pe / 32)
theorem wk_hds (mask:Nat):∀(k i pe:Nat),∃n,n≤10 * k∧wk mask n (hd mask i pe)=hd mask (hds mask k i pe) (pe / 32 ^ k)
 | 0,i,pe=>⟨0,Nat.le_refl _,by rw [Nat.pow_zero,Nat.div_one]; rfl⟩
 | k+1,i,pe=>by obtain ⟨n,h1,h2⟩:=wk_hds mask k (nx mask i pe) (pe / 32);have:=run_le mask i;refine ⟨runEnd mask i-i+1+n,by omega,?_⟩;rw [wk_add,wk_leap,h2,Nat.div_div_eq_div_mul,show 32 * 32 ^ k=32 ^ (k+1) by rw [Nat.pow_succ,Nat.mul_comm]];rfl
theorem hds_add (mask:Nat):∀(a b i pe:Nat),hds mask (a+b) i pe=hds mask b (hds mask a i pe) (pe / 32 ^ a)
 | 0,b,i,pe=>by rw [Nat.zero_add,Nat.pow_zero,Nat.div_one]; rfl
 | a+1,b,i,pe=>by rw [Nat.add_right_comm];show hds mask (a+b) _ _=hds mask b (hds mask a _ _) _;rw [hds_add mask a b,Nat.div_div_eq_div_mul,show 32 * 32 ^ a=32 ^ (a+1) by rw [Nat.pow_succ,Nat.mul_comm]]
theorem nx_lt (mask i pe:Nat):nx mask i pe<mask+1:=Nat.mod_lt _ (Nat.succ_pos _)
theorem hds_lt (mask:Nat):∀(k i pe:Nat),i<mask+1→hds mask k i pe<mask+1
 | 0,i,pe,h=>h
 | k+1,i,pe,h=>hds_lt mask k _ _ (nx_lt ..)
def orb (mask:Nat):Nat→Nat→List Nat
 | 0,_=>[]
 | k+1,i=>i::orb mask k (nx mask i 0)
theorem orb_at (mask:Nat):∀(n i e:Nat),e∈orb mask n i→∃k,k<n∧hds mask k i 0=e
 | n+1,i,e,h=>by
  rcases List.mem_cons.mp h with rfl | h
  ·exact ⟨0,Nat.succ_pos _,rfl⟩
  ·obtain ⟨k,h1,h2⟩:=orb_at mask n _ e h;exact ⟨k+1,by omega,h2⟩
def orbAll (mask:Nat):Bool:=(List.range (mask+1)).all fun i=>(List.range (mask+1)).all fun e=>(orb mask (mask+1) i).contains e
theorem orb7:orbAll 7=true:=by decide +kernel
theorem orb31:orbAll 31=true:=by decide +kernel
def Mk (mask:Nat):Prop:=mask=7∨mask=31
theorem Mk.orb (h:Mk mask):orbAll mask=true:=by
 rcases h with rfl | rfl
 ·exact orb7
 ·exact orb31
theorem bits_lt (h:Int):bits h<2 ^ 64:=by unfold bits;have:=Int.emod_lt_of_pos h (show (0:Int)<2 ^ 64 by decide);have:=Int.emod_nonneg h (show (2 ^ 64:Int)≠0 by decide);omega
theorem heads (hm:Mk mask) (h:Int) {e:Nat} (he:e<mask+1):∃k,k<13+(mask+1)∧hds mask k (bits h % (mask+1)) (bits h)=e:=by have hi:hds mask 13 (bits h % (mask+1)) (bits h)<mask+1:=hds_lt _ _ _ _ (Nat.mod_lt _ (Nat.succ_pos _));have:=List.all_eq_true.mp (List.all_eq_true.mp hm.orb _ (List.mem_range.mpr hi)) e (List.mem_range.mpr he);obtain ⟨k,h1,h2⟩:=orb_at mask _ _ e (List.contains_iff_mem.mp this);refine ⟨13+k,by omega,?_⟩;rw [hds_add,show bits h / 32 ^ 13=0 from Nat.div_eq_of_lt (Nat.lt_of_lt_of_le (bits_lt h) (by decide))];exact h2
theorem visits (hm:Mk mask) (h:Int) {e:Nat} (he:e<mask+1):∃n,n<10 * turns mask∧(wk mask n (stt mask h)).j=e:=by obtain ⟨k,h1,h2⟩:=heads hm h he;obtain ⟨n,h3,h4⟩:=wk_hds mask k (bits h % (mask+1)) (bits h);refine ⟨n,by unfold turns; omega,?_⟩;show (wk mask n (hd mask _ _)).j=e;rw [h4];exact h2
end STb
end
variable {hs:List Int}
section
open PySem PySem.Spec PyProof.Rows
open SetTable
namespace STb
structure Tb (t:SetTable) (hs:List Int):Prop where
 mm:Mk t.mask
 dm:t.dummies = #[]
 so:t.place.toList.Pairwise (· < ·)
 sz:t.place.size=hs.length
 bd:∀j∈t.place.toList,j<t.mask+1
 rc:∀(i:Nat) (h:Int) (j:Nat),hs[i]?=some h→t.place.toList[i]?=some j→∃n,n<10 * turns t.mask∧(wk t.mask n (stt t.mask h)).j=j∧∀m,m<n→(wk t.mask m (stt t.mask h)).j∈t.place.toList
section
variable {t:SetTable} {f:Nat→Int} {h:Int}
theorem go_empty (dm:t.dummies = #[]) (so:t.place.toList.Pairwise (· < ·)):∀(n fu:Nat) (p:Probe),n<fu→(∀m,m<n→∃i,t.place.toList[i]?=some (wk t.mask m p).j∧f i≠h)→(wk t.mask n p).j∉t.place.toList→probe.go t f h fu p=some (.empty (wk t.mask n p).j p.dummy)
 | 0,fu+1,p,_,_,e=>by unfold probe.go;rw [slot_empty dm (j:=p.j) e];rfl
 | n+1,fu+1,p,hl,a,e=>by obtain ⟨i,h1,h2⟩:=a 0 (Nat.succ_pos _);unfold probe.go;rw [slot_live so (j:=p.j) h1];dsimp only;rw [if_neg (by simpa using h2),adv_is,go_empty dm so n fu (adv t.mask p) (by omega) (fun m hm=>a (m+1) (by omega)) e,adv_dummy];rfl
theorem go_cand (so:t.place.toList.Pairwise (· < ·)) {i:Nat} (hi:f i=h):∀(n fu:Nat) (p:Probe),n<fu→(∀m,m<n→∃i,t.place.toList[i]?=some (wk t.mask m p).j∧f i≠h)→t.place.toList[i]?=some (wk t.mask n p).j→∃nx,probe.go t f h fu p=some (.candidate (wk t.mask n p).j i nx)
 | 0,fu+1,p,_,_,e=>by unfold probe.go;rw [slot_live so (j:=p.j) e];dsimp only;rw [if_pos (by simpa using hi)];exact ⟨_,rfl⟩
 | n+1,fu+1,p,hl,a,e=>by obtain ⟨i',h1,h2⟩:=a 0 (Nat.succ_pos _);unfold probe.go;rw [slot_live so (j:=p.j) h1];dsimp only;rw [if_neg (by simpa using h2),adv_is];exact go_cand so hi n fu (adv t.mask p) (by omega) (fun m hm=>a (m+1) (by omega)) e
theorem least {P:Nat→Prop} (n:Nat):P n→∃m,m≤n∧P m∧∀k,k<m→¬P k:=by
 induction n using Nat.strongRecOn with
 | ind n ih =>
  intro h;by_cases c:∃k,k<n∧P k
  ·obtain ⟨k,h1,h2⟩:=c;obtain ⟨m,h3,h4,h5⟩:=ih k h1 h2;exact ⟨m,by omega,h4,h5⟩
  ·exact ⟨n,Nat.le_refl _,h,fun k hk hp=>c ⟨k,hk,hp⟩⟩
theorem Tb.idx (T:Tb t hs) (h:j∈t.place.toList):∃(i:Nat) (h':Int),t.place.toList[i]?=some j∧hs[i]?=some h':=by obtain ⟨i,hi⟩:=List.mem_iff_getElem?.mp h;obtain ⟨h1,_⟩:=List.getElem?_eq_some_iff.mp hi;rw [Array.length_toList,T.sz] at h1;exact ⟨i,hs[i],hi,by simp [h1]⟩
theorem Tb.free (T:Tb t hs) (hf:∀(i:Nat) (h':Int),hs[i]?=some h'→f i=h') (hn:h∉hs) (hr:hs.length<t.mask+1):∃j,t.probe f h (t.probeStart h)=some (.empty j none)∧j<t.mask+1∧j∉t.place.toList∧∃n,n<10 * turns t.mask∧(wk t.mask n (stt t.mask h)).j=j∧∀m,m<n→(wk t.mask m (stt t.mask h)).j∈t.place.toList:=by
 obtain ⟨e,he,hne⟩:=gap (M:=t.mask+1) (xs:=t.place.toList) (by rw [Array.length_toList,T.sz]; exact hr);obtain ⟨n0,h1,h2⟩:=visits T.mm h he;obtain ⟨n,h3,h4,h5⟩:=least (P:=fun n=>(wk t.mask n (stt t.mask h)).j∉t.place.toList) n0 (by rw [h2]; exact hne);have h6:∀m,m<n→(wk t.mask m (stt t.mask h)).j∈t.place.toList:=fun m hm=>Classical.not_not.mp (h5 m hm);have hlt:∀n,(wk t.mask n (stt t.mask h)).j<t.mask+1:=fun n=>by
  have key:∀(n:Nat) (p:Probe),p.j+p.more<t.mask+1→(wk t.mask n p).j<t.mask+1:=fun n=>by
   induction n with
   | zero=>exact fun p hp=>Nat.lt_of_le_of_lt (Nat.le_add_right _ _) hp
   | succ n ih =>
    intro p hp;refine ih _ ?_;unfold adv;split
    ·show p.j+1+(p.more-1)<_;omega
    ·have:(leap t.mask p.i p.perturb).1<t.mask+1:=Nat.mod_lt _ (Nat.succ_pos _);generalize (leap t.mask p.i p.perturb).1=z at *;show z+(runEnd t.mask z-z)<_;unfold runEnd;split <;> omega
  refine key n _ ?_;have:bits h % (t.mask+1)<t.mask+1:=Nat.mod_lt _ (Nat.succ_pos _);show bits h % (t.mask+1)+(runEnd t.mask (bits h % (t.mask+1))-bits h % (t.mask+1))<_;generalize bits h % (t.mask+1)=z at *;unfold runEnd;split <;> omega
 refine ⟨_,?_,hlt n,h4,n,by omega,rfl,h6⟩;unfold probe;rw [stt_is,go_empty T.dm T.so n _ _ (by omega) (fun m hm=>?_) h4]
 ·rfl
 ·obtain ⟨i,h',e1,e2⟩:=T.idx (h6 m hm);exact ⟨i,e1,fun z=>hn (by rw [← z,hf i h' e2]; exact List.mem_of_getElem? e2)⟩
theorem Tb.find (T:Tb t hs) (hf:∀(i:Nat) (h':Int),hs[i]?=some h'→f i=h') (hn:h∈hs):∃j i nx,t.probe f h (t.probeStart h)=some (.candidate j i nx)∧hs[i]?=some h:=by
 obtain ⟨i0,hi0⟩:=List.mem_iff_getElem?.mp hn;obtain ⟨hl,_⟩:=List.getElem?_eq_some_iff.mp hi0;have hl':i0<t.place.toList.length:=by rw [Array.length_toList,T.sz]; exact hl
 obtain ⟨n0,h1,h2,h3⟩:=T.rc i0 h _ hi0 (List.getElem?_eq_getElem hl');obtain ⟨n,h4,⟨i,h5,h6⟩,h7⟩:=least (P:=fun n=>∃i,t.place.toList[i]?=some (wk t.mask n (stt t.mask h)).j∧hs[i]?=some h) n0 ⟨i0,by rw [h2]; exact List.getElem?_eq_getElem hl',hi0⟩;obtain ⟨nx,h8⟩:=go_cand (f:=f) T.so (hf i h h6) n (10 * turns t.mask) (stt t.mask h) (by omega) (fun m hm=>by obtain ⟨i',h',e1,e2⟩:=T.idx (h3 m (by omega));exact ⟨i',e1,fun z=>h7 m hm ⟨i',e1,by rw [e2]; rw [hf i' h' e2] at z; rw [z]⟩⟩) h5;exact ⟨_,i,nx,h8,h6⟩
theorem ins_list (xs:Array α) (p:Nat) (x:α) (hp:p≤xs.size):(insertAt xs p x).toList=xs.toList.take p++x::xs.toList.drop p:=by unfold insertAt;simp [Array.toList_extract];rw [List.take_of_length_le (by rw [List.length_drop,Array.length_toList]; omega)]
def insL (xs:List α) (p:Nat) (x:α):List α:=xs.take p++x::xs.drop p
theorem insL_lt {xs:List α} {p:Nat} {x:α} (h:i<p) (hp:p≤xs.length):(insL xs p x)[i]?=xs[i]?:=by unfold insL;rw [List.getElem?_append_left (by rw [List.length_take]; omega),List.getElem?_take,if_pos h]
theorem insL_at {xs:List α} {p:Nat} {x:α} (hp:p≤xs.length):(insL xs p x)[p]?=some x:=by unfold insL;rw [List.getElem?_append_right (by rw [List.length_take]; omega),List.length_take,Nat.min_eq_left hp,Nat.sub_self];rfl
theorem insL_gt {xs:List α} {p:Nat} {x:α} (h:p<i) (hp:p≤xs.length):(insL xs p x)[i]?=xs[i-1]?:=by unfold insL;rw [List.getElem?_append_right (by rw [List.length_take]; omega),List.length_take,Nat.min_eq_left hp,show i-p=(i-p-1)+1 by omega,List.getElem?_cons_succ,List.getElem?_drop];congr 1;omega
theorem insL_mem {xs:List α} {p:Nat} {x y:α}:y∈insL xs p x↔y=x∨y∈xs:=by
 unfold insL;rw [List.mem_append,List.mem_cons]
 conv=>rhs; rw [← List.take_append_drop p xs,List.mem_append]
 constructor
 ·rintro (h | h | h)
  ·exact .inr (.inl h)
  ·exact .inl h
  ·exact .inr (.inr h)
 ·rintro (h | h | h)
  ·exact .inr (.inl h)
  ·exact .inl h
  ·exact .inr (.inr h)
theorem insL_len {xs:List α} {p:Nat} {x:α} (hp:p≤xs.length):(insL xs p x).length=xs.length+1:=by unfold insL;rw [List.length_append,List.length_cons,List.length_take,List.length_drop];omega
theorem Tb.put (T:Tb t hs) (hj:j<t.mask+1) (hne:j∉t.place.toList) (hr:∃n,n<10 * turns t.mask∧(wk t.mask n (stt t.mask h)).j=j∧∀m,m<n→(wk t.mask m (stt t.mask h)).j∈t.place.toList) :
  (t.put j).2≤hs.length∧Tb (t.put j).1 (insL hs (t.put j).2 h)∧(t.put j).1.mask=t.mask∧(t.put j).1.plain=t.plain∧(t.put j).1.led=t.led:=by
 have low:=below_low T.so j;have hp:(t.put j).2=below t.place j:=rfl;have hle:below t.place j≤hs.length:=by rw [← T.sz,← Array.length_toList]; exact low.1
 have hpl:(t.put j).1.place.toList=insL t.place.toList (below t.place j) j:=ins_list _ _ _ (by rw [← Array.length_toList]; exact low.1);have hdm:(t.put j).1.dummies = #[]:=by show (if has t.dummies j then _ else t.dummies)=_;rw [T.dm];unfold has;simp
 have ll:below t.place j≤t.place.toList.length:=low.1;rw [hp];refine ⟨hle,⟨T.mm,hdm,?_,?_,?_,?_⟩,rfl,rfl,rfl⟩
 ·rw [hpl];unfold insL;rw [List.pairwise_append];refine ⟨T.so.sublist (List.take_sublist _ _),List.pairwise_cons.mpr ⟨fun y hy=>?_,T.so.sublist (List.drop_sublist _ _)⟩,fun x hx y hy=>?_⟩
  ·obtain ⟨i,hi⟩:=List.mem_iff_getElem?.mp hy;rw [List.getElem?_drop] at hi;have h1:=(low.2 _ _ hi);have h2:y≠j:=fun z=>hne (z ▸ List.mem_of_getElem? hi);have:¬(y<j):=fun z=>by have:=h1.mpr z; omega
   omega
  ·obtain ⟨i,hi⟩:=List.mem_iff_getElem?.mp hx;rw [List.getElem?_take] at hi;split at hi
   ·rename_i hlt;have h1:=(low.2 _ _ hi).mp hlt;rcases List.mem_cons.mp hy with rfl | hy
    ·exact h1
    ·obtain ⟨k,hk⟩:=List.mem_iff_getElem?.mp hy;rw [List.getElem?_drop] at hk;exact so_lt T.so hi hk (by omega)
   ·cases hi
 ·have:=congrArg List.length hpl;rw [Array.length_toList,insL_len ll,Array.length_toList,T.sz] at this;rw [this,insL_len hle]
 ·intro x hx;rw [hpl] at hx;rcases insL_mem.mp hx with rfl | hx
  ·exact hj
  ·exact T.bd x hx
 ·intro i h' j' e1 e2;rw [hpl] at e2 ⊢;have up:∀x,x∈t.place.toList→x∈insL t.place.toList (below t.place j) j:=fun x hx=>insL_mem.mpr (.inr hx);rcases Nat.lt_trichotomy i (below t.place j) with c | c | c
  ·rw [insL_lt c hle] at e1;rw [insL_lt c ll] at e2;obtain ⟨n,a1,a2,a3⟩:=T.rc i h' j' e1 e2;exact ⟨n,a1,a2,fun m hm=>up _ (a3 m hm)⟩
  ·subst c;rw [insL_at hle] at e1;rw [insL_at ll] at e2;cases e1;cases e2;obtain ⟨n,a1,a2,a3⟩:=hr;exact ⟨n,a1,a2,fun m hm=>up _ (a3 m hm)⟩
  ·rw [insL_gt c hle] at e1;rw [insL_gt c ll] at e2;obtain ⟨n,a1,a2,a3⟩:=T.rc _ h' j' e1 e2;exact ⟨n,a1,a2,fun m hm=>up _ (a3 m hm)⟩
end
end STb
end
section
open PySem PySem.Spec PyProof.Rows
open SetTable
namespace STb
structure LI (ow:Array (Option Nat)) (sl:List Nat) (hs:List Int):Prop where
 sz:ow.size=32
 ia:∀(s q:Nat),ow[s]?=some (some q)↔sl[q]?=some s
 lt:∀s∈sl,s<32
 rc:∀(q:Nat) (h:Int) (s:Nat),hs[q]?=some h→sl[q]?=some s→∃n,n<460∧(wk 31 n (stt 31 h)).j=s∧∀m,m<n→(wk 31 m (stt 31 h)).j∈sl
section
variable {ow:Array (Option Nat)} {sl:List Nat}
theorem LI.emp (L:LI ow sl hs) {s:Nat}:(ow.getD s (some 0)).isNone=true↔s<32∧s∉sl:=by
 rw [Array.getD_eq_getD_getElem?];by_cases c:s<ow.size
 ·rw [Array.getElem?_eq_getElem c,Option.getD_some];have c':s<32:=by rw [← L.sz]; exact c
  constructor
  ·intro h;refine ⟨c',fun hm=>?_⟩;obtain ⟨q,hq⟩:=List.mem_iff_getElem?.mp hm;have:=(L.ia s q).mpr hq;rw [Array.getElem?_eq_getElem c] at this;rw [Option.some.inj this] at h;cases h
  ·rintro ⟨_,h⟩;cases e:ow[s] with
   | none=>rfl
   | some q=>exact absurd (List.mem_of_getElem? ((L.ia s q).mp (by rw [Array.getElem?_eq_getElem c,e]))) h
 ·rw [Array.getElem?_eq_none (by omega)];constructor
  ·intro h; cases h
  ·rintro ⟨h,_⟩;rw [L.sz] at c;exact absurd h c
theorem run_lt {m:Nat} (hi:i<32) (h:m≤runEnd 31 i-i):i+m<32:=by
 unfold runEnd at h
 split at h <;> omega
theorem free_ok (L:LI ow sl hs):∀(fu i pe:Nat),i<32→(∃k,k<fu∧hds 31 k i pe∉sl)→∃n,n<10 * fu∧layClean.free 31 ow fu i pe=some (wk 31 n (hd 31 i pe)).j∧(wk 31 n (hd 31 i pe)).j<32∧(wk 31 n (hd 31 i pe)).j∉sl∧∀m,m<n→(wk 31 m (hd 31 i pe)).j∈sl
 | 0,i,pe,_,h=>by obtain ⟨k,h,_⟩:=h;omega
 | fu+1,i,pe,hi,hk=>by
  have r9:=run_le 31 i;have re:i≤runEnd 31 i:=by unfold runEnd; split <;> omega
  have inrun:∀m,m≤runEnd 31 i-i→(wk 31 m (hd 31 i pe)).j=i+m:=fun m hm=>by rw [show hd 31 i pe=⟨i,runEnd 31 i-i,i,pe,.none⟩ from rfl,wk_run 31 m _ _ _ _ _ hm]
  unfold layClean.free;cases hf:(List.range (runEnd 31 i+1-i)).find? (fun k=>(ow.getD (i+k) (some 0)).isNone) with
  | some k =>
   obtain ⟨p1,p2,p3⟩:=List.find?_range_eq_some.mp hf;have hk':k≤runEnd 31 i-i:=by have:=List.mem_range.mp p2; omega
   obtain ⟨q1,q2⟩:=L.emp.mp p1;refine ⟨k,by omega,by rw [inrun k hk'],by rw [inrun k hk']; exact q1,by rw [inrun k hk']; exact q2,fun m hm=>?_⟩;rw [inrun m (by omega)];have:=p3 m hm;refine Classical.byContradiction fun z=>?_;rw [L.emp.mpr ⟨run_lt hi (by omega),z⟩] at this;cases this
  | none =>
   have p:=List.find?_range_eq_none.mp hf;have all:∀m,m≤runEnd 31 i-i→i+m∈sl:=fun m hm=>by have:=p m (by omega);refine Classical.byContradiction fun z=>?_;rw [L.emp.mpr ⟨run_lt hi hm,z⟩] at this;cases this
   obtain ⟨k,h1,h2⟩:=hk;cases k with
   | zero=>exact absurd (all 0 (Nat.zero_le _)) h2
   | succ k =>
    obtain ⟨n,a1,a2,a3,a4,a5⟩:=free_ok L fu (nx 31 i pe) (pe / 32) (nx_lt ..) ⟨k,by omega,h2⟩;refine ⟨runEnd 31 i-i+1+n,by omega,?_,?_,?_,fun m hm=>?_⟩
    ·rw [wk_add,wk_leap]; exact a2
    ·rw [wk_add,wk_leap]; exact a3
    ·rw [wk_add,wk_leap]; exact a4
    ·by_cases c:m≤runEnd 31 i-i
     ·rw [inrun m c]; exact all m c
     ·rw [show m=runEnd 31 i-i+1+(m-(runEnd 31 i-i+1)) by omega,wk_add,wk_leap];exact a5 _ (by omega)
theorem LI.step (L:LI ow sl hs) {h:Int} (hq:hs[sl.length]?=some h) (hl:sl.length<32):∃j,layClean.free 31 ow (turns 31) (bits h % (31+1)) (bits h)=some j∧LI (ow.setIfInBounds j (some sl.length)) (sl++[j]) hs:=by
 obtain ⟨e,he,hne⟩:=gap hl;obtain ⟨k,k1,k2⟩:=heads (.inr rfl) h (e:=e) he;obtain ⟨n,n1,n2,n3,n4,n5⟩:=free_ok L (turns 31) (bits h % (31+1)) (bits h) (Nat.mod_lt _ (by decide)) ⟨k,by unfold turns; omega,by rw [k2]; exact hne⟩;refine ⟨_,n2,?_⟩;have sd:hd 31 (bits h % (31+1)) (bits h)=stt 31 h:=rfl;rw [sd] at n3 n4 n5 ⊢;generalize hj:(wk 31 n (stt 31 h)).j=j at n3 n4;refine ⟨by rw [Array.size_setIfInBounds]; exact L.sz,fun s q=>?_,fun s hs'=>?_,fun q h' s e1 e2=>?_⟩
 ·by_cases c:s=j
  ·subst c;rw [Array.getElem?_setIfInBounds_self_of_lt (by rw [L.sz]; exact n3)];constructor
   ·intro z;cases z;rw [List.getElem?_append_right (Nat.le_refl _),Nat.sub_self];rfl
   ·intro z;by_cases d:q<sl.length
    ·rw [List.getElem?_append_left d] at z;exact absurd (List.mem_of_getElem? z) n4
    ·by_cases d2:q=sl.length
     ·rw [d2]
     ·rw [List.getElem?_eq_none (by rw [List.length_append,List.length_cons,List.length_nil]; omega)] at z;cases z
  ·rw [Array.getElem?_setIfInBounds_ne (fun z=>c z.symm),L.ia];by_cases d:q<sl.length
   ·rw [List.getElem?_append_left d]
   ·rw [List.getElem?_eq_none (by omega)];constructor
    ·intro z; cases z
    ·intro z;rw [List.getElem?_append_right (by omega)] at z;have:=List.mem_singleton.mp (List.mem_of_getElem? z);exact absurd this c
 ·rcases List.mem_append.mp hs' with h1 | h1
  ·exact L.lt s h1
  ·rw [List.mem_singleton.mp h1]; exact n3
 ·by_cases d:q<sl.length
  ·rw [List.getElem?_append_left d] at e2;obtain ⟨n,a1,a2,a3⟩:=L.rc q h' s e1 e2;exact ⟨n,a1,a2,fun m hm=>List.mem_append_left _ (a3 m hm)⟩
  ·have dq:q=sl.length:=by obtain ⟨z,_⟩:=List.getElem?_eq_some_iff.mp e2;rw [List.length_append,List.length_cons,List.length_nil] at z;omega
   subst dq;rw [List.getElem?_append_right (Nat.le_refl _),Nat.sub_self] at e2;cases e2;rw [hq] at e1;cases e1;exact ⟨n,n1,hj,fun m hm=>List.mem_append_left _ (n5 m hm)⟩
def stp (acc:Option (Array (Option Nat)×Nat)) (h:Int):Option (Array (Option Nat)×Nat):=do
  let (owner,k) ← acc
  let j ← layClean.free 31 owner (turns 31) (bits h % (31+1)) (bits h)
  pure (owner.setIfInBounds j (some k),k+1)
theorem lay_all:∀(rest:List Int) (ow:Array (Option Nat)) (sl:List Nat),LI ow sl hs→hs.drop sl.length=rest→sl.length≤hs.length→hs.length≤31→∃ow' sl',rest.foldl stp (some (ow,sl.length))=some (ow',hs.length)∧LI ow' sl' hs∧sl'.length=hs.length
 | [],ow,sl,L,e,hl,h31=>by
  have:hs.length≤sl.length:=List.drop_eq_nil_iff.mp e;have:sl.length=hs.length:=by omega
  exact ⟨ow,sl,by rw [this]; rfl,L,this⟩
 | h::rest,ow,sl,L,e,hl,h31=>by
  have hq:hs[sl.length]?=some h:=by have:=congrArg (fun l=>l[0]?) e;simpa using this
  obtain ⟨z,_⟩:=List.getElem?_eq_some_iff.mp hq;obtain ⟨j,h1,h2⟩:=L.step hq (by omega);obtain ⟨ow',sl',h3,h4,h5⟩:=lay_all rest _ _ h2 (by
   rw [List.length_append,List.length_cons,List.length_nil,← List.drop_drop,e]
   rfl) (by rw [List.length_append,List.length_cons,List.length_nil]; omega) h31
  refine ⟨ow',sl',?_,h4,h5⟩;rw [List.foldl_cons,← h3];congr 1;unfold stp;show (layClean.free 31 ow (turns 31) (bits h % (31+1)) (bits h)).bind _=_;rw [h1,List.length_append];rfl
theorem LI.start:LI (Array.replicate 32 none) [] hs:=by
 refine ⟨Array.size_replicate,fun s q=>?_,fun s h=>(by cases h),fun q h s _ e=>(by cases e)⟩;constructor
 ·intro h;rw [Array.getElem?_replicate] at h
  split at h <;> cases h
 ·intro h; cases h
theorem fm_at {α β:Type} {f:α→Option β}:∀{xs:List α},(∀x∈xs,∃y,f x=some y)→(xs.filterMap f).length=xs.length∧∀i:Nat,(xs.filterMap f)[i]?=xs[i]?.bind f
 | [],_=>⟨rfl,fun i=>rfl⟩
 | x::xs,h=>by
  obtain ⟨y,hy⟩:=h x List.mem_cons_self;obtain ⟨h1,h2⟩:=fm_at (xs:=xs) fun z hz=>h z (List.mem_cons_of_mem _ hz);rw [List.filterMap_cons_some hy];refine ⟨by rw [List.length_cons,List.length_cons,h1],fun i=>?_⟩;cases i with
  | zero=>rw [List.getElem?_cons_zero,List.getElem?_cons_zero,Option.bind_some,hy]
  | succ i=>rw [List.getElem?_cons_succ,List.getElem?_cons_succ,h2]
theorem laid_ok {hs:Array Int} (hl:hs.size≤18) (fg mv:Nat) (led pl:Bool):∃t' od,laid 31 fg mv led pl hs=some (t',od)∧t'.mask=31∧t'.plain=pl∧t'.led=led∧od.toList.Nodup∧od.size=hs.size∧(∀q,q∈od.toList→q<hs.size)∧(∀q,q<hs.size→q∈od.toList)∧Tb t' (od.toList.filterMap (hs.toList[·]?)):=by
  obtain ⟨ow,sl,h1,L,h3⟩:=lay_all (hs:=hs.toList) hs.toList (Array.replicate 32 none) [] LI.start rfl (Nat.zero_le _) (by rw [Array.length_toList]; omega);have hc:layClean 31 hs=some ow:=by unfold layClean;rw [← Array.foldl_toList];show Option.map _ (hs.toList.foldl stp _)=_;rw [show (some (Array.replicate (31+1) none,0):Option (Array (Option Nat)×Nat))=some (Array.replicate 32 none,([]:List Nat).length) from rfl,h1];rfl
  obtain ⟨live,hlv⟩:∃live,live=(List.range (31+1)).filterMap fun j=>(ow.getD j none).map ((j,·):Nat→Nat×Nat):=⟨_,rfl⟩;have mem:∀j q,(j,q)∈live↔sl[q]?=some j:=fun j q=>by
    rw [hlv,List.mem_filterMap];constructor
    · rintro ⟨s,hs',e⟩;obtain ⟨q',e1,e2⟩:=Option.map_eq_some_iff.mp e;cases e2;refine (L.ia _ _).mp ?_;rw [Array.getD_eq_getD_getElem?] at e1;cases h:ow[j]? with
      | none=>rw [h] at e1; cases e1
      | some o=>rw [h] at e1; rw [show o=some q from e1]
    · intro h;have h':=(L.ia _ _).mpr h;refine ⟨j,List.mem_range.mpr (L.lt j (List.mem_of_getElem? h)),?_⟩;rw [Array.getD_eq_getD_getElem?,h'];rfl
  have pw:live.Pairwise fun a b=>a.1<b.1:=by rw [hlv,List.pairwise_filterMap];refine List.pairwise_lt_range.imp fun {a b} hab x hx y hy=>?_;obtain ⟨_,_,rfl⟩:=Option.map_eq_some_iff.mp hx;obtain ⟨_,_,rfl⟩:=Option.map_eq_some_iff.mp hy;exact hab
  have nd:(live.map (·.2)).Nodup:=by rw [List.Nodup,List.pairwise_map];refine pw.imp_of_mem fun {a b} ha hb hab e=>?_;have h1:=(mem a.1 a.2).mp ha;have h2:=(mem b.1 b.2).mp hb;rw [e,h2] at h1;have:=Option.some.inj h1;omega
  have inl:∀q,q∈live.map (·.2)→q<hs.size:=fun q hq=>by obtain ⟨⟨j,q'⟩,h,rfl⟩:=List.mem_map.mp hq;obtain ⟨h5,_⟩:=List.getElem?_eq_some_iff.mp ((mem j q').mp h);rw [h3,Array.length_toList] at h5;exact h5
  have ofl:∀q,q<hs.size→q∈live.map (·.2):=fun q hq=>by
    have hq':q<sl.length:=by rw [h3,Array.length_toList]; exact hq
    exact List.mem_map.mpr ⟨(sl[q],q),(mem _ _).mpr (List.getElem?_eq_getElem hq'),rfl⟩
  have len:(live.map (·.2)).length=hs.size:=Nat.le_antisymm (nd_le _ _ nd inl) (all_le _ _ ofl);refine ⟨{ mask:=31,place:=(live.map (·.1)).toArray,dummies:=#[],finger:=fg,led:=led,moves:=mv,plain:=pl },(live.map (·.2)).toArray,?_,rfl,rfl,rfl,nd,?_,inl,ofl,⟨.inr rfl,rfl,?_,?_,?_,?_⟩⟩
  · unfold laid;rw [hc,hlv];rfl
  · rw [List.size_toArray]; exact len
  · show (live.map (·.1)).Pairwise _;exact List.pairwise_map.mpr pw
  · rw [(fm_at (f:=fun q=>hs.toList[q]?) (xs:=(live.map (·.2)).toArray.toList) fun q hq=>⟨hs.toList[q]'(by rw [Array.length_toList]; exact inl q hq),by simp⟩).1];show (live.map (·.1)).toArray.size=(live.map (·.2)).length;rw [List.size_toArray,List.length_map,List.length_map]
  · intro j hj;obtain ⟨⟨j',q⟩,h,rfl⟩:=List.mem_map.mp (show j∈live.map (·.1) from hj);exact L.lt _ (List.mem_of_getElem? ((mem j' q).mp h))
  · intro i h j e1 e2;rw [(fm_at (f:=fun q=>hs.toList[q]?) (xs:=(live.map (·.2)).toArray.toList) fun q hq=>⟨hs.toList[q]'(by rw [Array.length_toList]; exact inl q hq),by simp⟩).2] at e1;have e1:((live.map (·.2))[i]?).bind (fun q=>hs.toList[q]?)=some h:=e1;have e2:(live.map (·.1))[i]?=some j:=e2;rw [List.getElem?_map] at e1 e2;cases hx:live[i]? with
    | none=>rw [hx] at e2; cases e2
    | some x =>obtain ⟨j',q⟩:=x;rw [hx] at e1 e2;cases e2;have e1:hs.toList[q]?=some h:=e1;obtain ⟨n,a1,a2,a3⟩:=L.rc q h _ e1 ((mem _ q).mp (List.mem_of_getElem? hx));refine ⟨n,a1,a2,fun m hm=>?_⟩;obtain ⟨k,hk⟩:=List.mem_iff_getElem?.mp (a3 m hm);exact List.mem_map.mpr ⟨_,(mem _ k).mpr hk,rfl⟩
end
end STb
end
variable {B:Addr→List Int→Prop} {ks:List (List Int)}
section
open PySem PySem.Spec PyProof.Rows
open SetTable SW
namespace STb
section
variable {prog:Program} {w:World} {A:Around} {t:SetTable}
def hT (k:List Int):Int:=reduceHash (Builtin.Tuple.tupleHashOf (k.map hashInt))
theorem hT_is (k:List Int):tupleKeyHash (intKind prog w) k=hT k:=rfl
theorem fits_of (T:Tb t hs) (hl:hs.length≤t.mask):t.fits hs.length=true:=by unfold SetTable.fits SetTable.fill;rw [T.dm,T.sz];simp [hl]
theorem items_int {k:List Int} {vs:List Value} (h:ItemsAre (intKind prog w) k vs):∀v∈vs,∃i t,v=.int i t:=by
 induction h with
 | nil=>intro v hv; cases hv
 | @cons i v' ks vs h1 _ ih =>
  intro v hv;rcases List.mem_cons.mp hv with rfl | hv
  ·obtain ⟨t,e⟩:=Value.isInt_shape h1;exact ⟨i,t,e⟩
  ·exact ih v hv
theorem hbv_int (n:Nat) (i:Int) (t:Tok):hashByValue n (.int i t)=pure true:=by unfold hashByValue; rfl
theorem hbv {k:List Int} {Q:Bool→Shared→Prop} (hk:IsTupleKey (intKind prog w) s.heap k b) (h:Q true s):wpAny (model prog w) A (hashByValue 8 (.ref b)) Q E s:=by
 have hT:=hk.typeIs;obtain ⟨o,items,n,ho,hc,hd,hi⟩:=hk;unfold hashByValue;refine wpAny_bind (wpAny_specialOf hT F.slot_tuple_hash.lookup ?_);simp only;refine wpAny_bind ?_;refine wpAny_seqItems ho hd ?_;refine wpAny_bind ?_;show wpAny _ _ (forIn items _ _) _ _ s;rw [← Array.forIn_toList];refine wpAny_forIn_list _ (fun rest r s'=>r.1=none∧s'=s∧∀v∈rest,∃i t,v=.int i t) _ ?_ ?_ _ _ ⟨rfl,rfl,items_int hi⟩
 ·rintro v rest r s' ⟨hr,rfl,hall⟩;obtain ⟨i,tk,rfl⟩:=hall v List.mem_cons_self;rw [hbv_int];refine wpAny_bind (wpAny_pure ?_);simp only [Bool.not_true,Bool.false_eq_true,if_false];exact wpAny_pure ⟨rfl,rfl,fun u hu'=>hall u (List.mem_cons_of_mem _ hu')⟩
 ·rintro ⟨r1,r2⟩ s' ⟨hr,rfl,_⟩;simp only at hr;subst hr;exact wpAny_pure h
theorem oac_int (n:Nat) (i:Int) (t:Tok):ofAClassStatement n (.int i t)=pure false:=by unfold ofAClassStatement; rfl
theorem oac {k:List Int} {Q:Bool→Shared→Prop} (hk:IsTupleKey (intKind prog w) s.heap k b) (h:Q false s):wpAny (model prog w) A (ofAClassStatement 8 (.ref b)) Q E s:=by
 have hT:=hk.typeIs;obtain ⟨o,items,n,ho,hc,hd,hi⟩:=hk;unfold ofAClassStatement;refine wpAny_bind (wpAny_typeOf hT ?_);simp only;refine wpAny_bind (wpAny_pure ?_);simp only [Bool.not_true,Bool.false_eq_true,if_false];refine wpAny_bind (wpAny_seqItems ho hd ?_);simp only;refine wpAny_bind ?_;show wpAny _ _ (forIn items _ _) _ _ s;rw [← Array.forIn_toList];refine wpAny_forIn_list _ (fun rest r s'=>r.1=none∧s'=s∧∀v∈rest,∃i t,v=.int i t) _ ?_ ?_ _ _ ⟨rfl,rfl,items_int hi⟩
 ·rintro v rest r s' ⟨hr,rfl,hall⟩;obtain ⟨i,tk,rfl⟩:=hall v List.mem_cons_self;rw [oac_int];refine wpAny_bind (wpAny_pure ?_);simp only [Bool.false_eq_true,if_false];exact wpAny_pure ⟨rfl,rfl,fun u hu'=>hall u (List.mem_cons_of_mem _ hu')⟩
 ·rintro ⟨r1,r2⟩ s' ⟨hr,rfl,_⟩;simp only at hr;subst hr;exact wpAny_pure h
theorem unseen {k:List Int} {ys:List Value} {Q:Bool→Shared→Prop} (hk:IsTupleKey (intKind prog w) s.heap k b) (hy:∀y∈ys,∃b' k',y=.ref b'∧IsTupleKey (intKind prog w) s.heap k' b') (h:Q false s):wpAny (model prog w) A (searchCouldBeSeen (.ref b) ys) Q E s:=by
 unfold searchCouldBeSeen;refine wpAny_bind ?_;refine wpAny_forIn_list _ (fun rest r s'=>r.1=none∧s'=s∧∀y∈rest,∃b' k',y=.ref b'∧IsTupleKey (intKind prog w) s.heap k' b') _ ?_ ?_ _ _ ⟨rfl,rfl,hy⟩
 ·rintro v rest r s' ⟨hr,rfl,hall⟩;obtain ⟨b',k',rfl,hk'⟩:=hall v List.mem_cons_self;have nxt:∀u∈rest,∃b' k',u=.ref b'∧IsTupleKey (intKind prog w) s'.heap k' b':=fun u hu=>hall u (List.mem_cons_of_mem _ hu);dsimp only;split
  ·exact wpAny_pure ⟨rfl,rfl,nxt⟩
  ·refine wpAny_bind (wpAny_eqIsQuiet_tuple hk ?_);simp only [Bool.not_true,Bool.false_eq_true,if_false];refine wpAny_bind (wpAny_eqIsQuiet_tuple hk' ?_);simp only [Bool.not_true,Bool.false_eq_true,if_false];refine wpAny_bind (oac hk ?_);simp only [Bool.false_eq_true,if_false];refine wpAny_bind (oac hk' ?_);simp only [Bool.false_eq_true,if_false];exact wpAny_pure ⟨rfl,rfl,nxt⟩
 ·rintro ⟨r1,r2⟩ s' ⟨hr,rfl,_⟩;simp only at hr;subst hr;exact wpAny_pure h
structure STi (w:World) (o:Obj) (es:Array (Int×Value)) (ep:Nat) (t:SetTable):Prop where
 ex:o.ExactSet
 dat:o.data=.set es ep t
 tb:Tb t (es.toList.map (·.1))
 pl:t.plain=true
 ld:t.led=ledW w
 sm:t.mask=7→es.size≤4
 le:es.size≤18
structure En (B:Addr→List Int→Prop) (es:Array (Int×Value)) (ks:List (List Int)):Prop where
 of_:∀e∈es.toList,∃b k,e=(hT k,.ref b)∧k∈ks∧B b k
 to_:∀k∈ks,hT k∈es.toList.map (·.1)
 nd:(es.toList.map (·.1)).Nodup
 ln:es.size≤ks.length
def SetT (w:World) (B:Addr→List Int→Prop) (h:Heap) (a:Addr) (ks:List (List Int)):Prop:=∃o es ep t,h.get? a=some o∧STi w o es ep t∧En B es ks
variable {es:Array (Int×Value)} {k:List Int}
theorem STi.room (S:STi w o es ep t):es.size≤t.mask:=by
 have h1:=S.sm;have h2:=S.le;rcases S.tb.mm with h | h
 ·have:=h1 h; omega
 ·omega
theorem STi.fits (S:STi w o es ep t):t.fits es.size=true:=by have:=fits_of S.tb (by rw [List.length_map,Array.length_toList]; exact S.room);rw [List.length_map,Array.length_toList] at this;exact this
theorem gave_not (h:Mk t.mask):t.gaveWay=false:=by unfold SetTable.gaveWay;rcases h with h | h <;> rw [h] <;> rfl
theorem hat (es:Array (Int×Value)):∀(i:Nat) (h':Int),(es.toList.map (·.1))[i]?=some h'→(fun i=>(es[i]?.map (·.1)).getD 0) i=h':=fun i h' e=>by rw [List.getElem?_map,Array.getElem?_toList] at e;show (es[i]?.map (·.1)).getD 0=h';rw [e];rfl
theorem search_free {h:Int} {x:Value} {Q:SetFound→Shared→Prop} (S:STi w o es ep t) (ho:s.heap.get? a=some o) (hp:t.probe (fun i=>(es[i]?.map (·.1)).getD 0) h (t.probeStart h)=some (.empty j none)) (q:Q (.free j false) s):wpAny (model prog w) A (setSearch a x h true) Q E s:=by unfold setSearch;rw [show (100000:Nat)=99999+1 from rfl,setSearchFrom];refine wpAny_bind (wpAny_setState_of ho S.dat S.fits ?_);dsimp only;rw [gave_not S.tb.mm];simp only [Bool.false_eq_true,if_false];generalize hq:t.probe _ h _=z;have:z=some (.empty j none):=hq.symm.trans hp;subst this;exact wpAny_pure q
theorem search_there {nx:Probe} {Q:SetFound→Shared→Prop} (hu:A.units<cLine) (S:STi w o es ep t) (ho:s.heap.get? a=some o) (N:En B es ks) (hB:∀b k,B b k→IsTupleKey (intKind prog w) s.heap k b) (hb:B b k) (hj:∀k'∈ks,hT k'=hT k→k'=k)
  (hp:t.probe (fun i=>(es[i]?.map (·.1)).getD 0) (hT k) (t.probeStart (hT k))=some (.candidate j i nx)) (hi:(es.toList.map (·.1))[i]?=some (hT k)) (q:Q (.there none) s):wpAny (model prog w) A (setSearch a (.ref b) (hT k) true) Q E s:=by
 rw [List.getElem?_map,Array.getElem?_toList] at hi;obtain ⟨e,he,e1⟩:=Option.map_eq_some_iff.mp hi;obtain ⟨b',k',rfl,hk',hb'⟩:=N.of_ e (by rw [← Array.getElem?_toList] at he; exact List.mem_of_getElem? he);replace hb':=hB _ _ hb';replace hb:=hB _ _ hb;have:=hj k' hk' e1;subst this;unfold setSearch;rw [show (100000:Nat)=99999+1 from rfl,setSearchFrom];refine wpAny_bind (wpAny_setState_of ho S.dat S.fits ?_);dsimp only;rw [gave_not S.tb.mm];simp only [Bool.false_eq_true,if_false];generalize hq:t.probe _ (hT k') _=z;have:z=some (.candidate j i nx):=hq.symm.trans hp;subst this;dsimp only;rw [he];dsimp only;split
 ·refine wpAny_bind (unseen hb (fun y hy=>?_) ?_)
  ·obtain ⟨e,h1,rfl⟩:=List.mem_map.mp hy;have h1:e∈es.toList:=Array.mem_toList_iff.mpr (Array.mem_filter.mp (Array.mem_toList_iff.mp h1)).1;obtain ⟨b2,k2,rfl,_,h2⟩:=N.of_ e h1;exact ⟨b2,k2,rfl,hB _ _ h2⟩
  ·simp only [Bool.false_eq_true,if_false];refine wpAny_bind (wpAny_holding (wpAny_eqBool_tuple hu hb' hb ?_));rw [decide_eq_true rfl];refine wpAny_bind (wpAny_setState_of ho S.dat S.fits ?_);exact wpAny_pure q
 ·refine wpAny_bind (wpAny_holding (wpAny_eqBool_tuple hu hb' hb ?_));rw [decide_eq_true rfl];refine wpAny_bind (wpAny_setState_of ho S.dat S.fits ?_);exact wpAny_pure q
theorem ins_es {es:Array (Int×Value)} {p:Nat} {e:Int×Value} (hp:p≤es.size):(insertAt es p e).toList=insL es.toList p e:=ins_list es p e hp
theorem insL_map (f:α→β) (xs:List α) (p:Nat) (x:α):(insL xs p x).map f=insL (xs.map f) p (f x):=by unfold insL;rw [List.map_append,List.map_cons,List.map_take,List.map_drop]
theorem insL_nd {xs:List α} {p:Nat} {x:α} (nd:xs.Nodup) (hx:x∉xs):(insL xs p x).Nodup:=by
 unfold insL;rw [List.nodup_append];refine ⟨nd.sublist (List.take_sublist _ _),List.nodup_cons.mpr ⟨fun z=>hx (List.mem_of_mem_drop z),nd.sublist (List.drop_sublist _ _)⟩,fun y hy z hz e=>?_⟩;subst e;rcases List.mem_cons.mp hz with rfl | hz
 ·exact hx (List.mem_of_mem_take hy)
 ·have:=List.nodup_append.mp (by rw [List.take_append_drop]; exact nd:(xs.take p++xs.drop p).Nodup);exact this.2.2 y hy y hz rfl
theorem put_at {es':Array (Int×Value)} {t':SetTable} (ho:h.get? a=some o) (hd:o.data=.set es ep t):(h.update a (Obj.putSet es' t')).get? a=some { o with data:=.set es' (ep+1) t' }:=by have:=Heap.get?_update_self (Obj.putSet es' t') ho (by rw [putSet_of es' t' hd]; rfl);rw [putSet_of es' t' hd] at this; exact this
theorem nd_at {xs:List α} (nd:xs.Nodup) {x:α} (h1:xs[i]?=some x) (h2:xs[j]?=some x):i=j:=by obtain ⟨a1,e1⟩:=List.getElem?_eq_some_iff.mp h1;obtain ⟨a2,e2⟩:=List.getElem?_eq_some_iff.mp h2;exact (List.getElem_inj nd).mp (e1.trans e2.symm)
theorem relay_T {Q:Unit→Shared→Prop} (hS:s.heap.get? a=some o) (ex:o.ExactSet) (hd:o.data=.set es ep t) (tb:Tb t (es.toList.map (·.1))) (m7:t.mask=7) (z5:es.size=5) (pl:t.plain=true) (ld:t.led=ledW w) (N:En B es ks)
  (h:∀h',Heap.SameBut a s.heap h'→SetT w B h' a ks→Q () { s with heap:=h' }):wpAny (model prog w) A (setRelay a (grown 5)) Q E s:=by
 have ft:t.fits es.size=true:=by have:=fits_of tb (by rw [List.length_map,Array.length_toList,z5,m7]; decide);rw [List.length_map,Array.length_toList] at this;exact this
 obtain ⟨t',od,h1,h2,h3,h4,h5,h6,h7,h8,h9⟩:=laid_ok (hs:=es.map (·.1)) (by rw [Array.size_map]; omega) t.finger (t.movedTo (sizeAbove (grown 5)-1)) t.led t.plain;rw [Array.size_map] at h6 h7 h8;have hr:t.relaid (es.map (·.1)) (grown 5)=some (t',od):=h1;have fm:=fm_at (f:=fun q=>es.toList[q]?) (xs:=od.toList) fun q hq=>⟨es.toList[q]'(by rw [Array.length_toList]; exact h7 q hq),by simp⟩;obtain ⟨es',he'⟩:∃es',es'=od.filterMap (es[·]?):=⟨_,rfl⟩;have hel:es'.toList=od.toList.filterMap (es.toList[·]?):=by rw [he',Array.toList_filterMap];congr 1;funext q;rw [Array.getElem?_toList]
 have hz:es'.size=es.size:=by rw [← Array.length_toList,hel,fm.1,Array.length_toList,h6]
 have hmp:es'.toList.map (·.1)=od.toList.filterMap ((es.map (·.1)).toList[·]?):=by rw [hel,List.map_filterMap];congr 1;funext q;rw [Array.toList_map,List.getElem?_map]
 have mem:∀e,e∈es'.toList↔e∈es.toList:=fun e=>by
  rw [hel,List.mem_filterMap];constructor
  ·rintro ⟨q,_,hq⟩;exact List.mem_of_getElem? hq
  ·intro he;obtain ⟨q,hq⟩:=List.mem_iff_getElem?.mp he;obtain ⟨hl,_⟩:=List.getElem?_eq_some_iff.mp hq;rw [Array.length_toList] at hl;exact ⟨q,h8 q hl,hq⟩
 have nd':(es'.toList.map (·.1)).Nodup:=by rw [hmp,List.Nodup,List.pairwise_filterMap];refine h5.imp_of_mem fun {x y} hx hy hxy u hu v hv e=>hxy ?_;subst e;rw [Array.toList_map] at hu hv;exact nd_at N.nd hu hv
 unfold setRelay;refine wpAny_bind (wpAny_setState_of hS hd ft ?_);dsimp only;rw [if_neg (by rw [sizeLine_eq]; decide),hr];refine wpAny_bind ?_;have hne:((od.filterMap (es[·]?)).size != es.size)=false:=by rw [← he',hz]; simp
 show wpAny _ _ (if ((od.filterMap (es[·]?)).size != es.size)=true then _ else _) _ _ _;rw [hne];simp only [Bool.false_eq_true,if_false];refine wpAny_pure ?_;dsimp only;rw [← he'];refine wpAny_storeSet_of hS hd ?_ (by rw [hz,z5,sizeLine_eq]; decide);have sb:=Heap.SameBut.update s.heap a (Obj.putSet es' t');refine h _ sb ⟨_,es',ep+1,t',put_at hS hd,⟨ex,rfl,by rw [hmp]; exact h9,by rw [h3]; exact pl,by rw [h4]; exact ld,(fun z=>by rw [h2] at z; cases z),(by omega)⟩,⟨fun e he=>?_,fun k hk=>?_,nd',by rw [hz]; exact N.ln⟩⟩
 ·obtain ⟨b,k,e1,e2,e3⟩:=N.of_ e ((mem e).mp he);exact ⟨b,k,e1,e2,e3⟩
 ·obtain ⟨e,he,e1⟩:=List.mem_map.mp (N.to_ k hk);exact List.mem_map.mpr ⟨e,(mem e).mpr he,e1⟩
theorem add_T {Q:Bool→Shared→Prop} (hu:A.units<cLine) (hS:SetT w B s.heap a ks) (hB:∀b k,B b k→IsTupleKey (intKind prog w) s.heap k b) (hb:B b k) (hj:∀k'∈ks,hT k'=hT k→k'=k) (hl:ks.length<18)
  (h:∀r h',Heap.SameBut a s.heap h'→SetT w B h' a (ks++[k])→Q r { s with heap:=h' }):wpAny (model prog w) A (setAddHashed a (.ref b) (hT k)) Q E s:=by
 obtain ⟨o,es,ep,t,ho,S,N⟩:=hS;unfold setAddHashed setAddHashedIn;refine wpAny_holding (wpAny_bind (wpAny_setState_of ho S.dat S.fits ?_));dsimp only;rw [show byScan (.ref b) es=false from rfl];simp only [Bool.false_eq_true,if_false];by_cases hm:hT k∈es.toList.map (·.1)
 ·obtain ⟨j,i,nx,h1,h2⟩:=S.tb.find (hat es) hm;refine wpAny_bind (search_there hu S ho N hB hb hj h1 h2 ?_);refine wpAny_pure (h false s.heap ⟨rfl,fun _ _=>rfl⟩ ⟨o,es,ep,t,ho,S,⟨fun e he=>?_,fun k' hk'=>?_,N.nd,by rw [List.length_append]; have:=N.ln; omega⟩⟩)
  ·obtain ⟨b',k',e1,e2,e3⟩:=N.of_ e he;exact ⟨b',k',e1,List.mem_append_left _ e2,e3⟩
  ·rcases List.mem_append.mp hk' with hk' | hk'
   ·exact N.to_ k' hk'
   ·rw [List.mem_singleton.mp hk']; exact hm
 ·obtain ⟨j,h1,h2,h3,h4⟩:=S.tb.free (hat es) hm (by rw [List.length_map,Array.length_toList]; have:=S.room; omega);refine wpAny_bind (search_free S ho h1 ?_);dsimp only;refine wpAny_bind (wpAny_setState_of ho S.dat S.fits ?_);dsimp only;obtain ⟨p1,p2,p3,p4,p5⟩:=S.tb.put h2 h3 h4;generalize t.put j=T1 at p1 p2 p3 p4 p5 ⊢;obtain ⟨t1,p⟩:=T1;dsimp only at p1 p2 p3 p4 p5 ⊢;rw [p4,S.pl];simp only [if_true];refine wpAny_bind (hbv (hB _ _ hb) ?_);simp only [if_true];rw [List.length_map,Array.length_toList] at p1;have hes:=ins_es (es:=es) (p:=p) (e:=(hT k,Value.ref b)) p1;have hmap:(insertAt es p (hT k,Value.ref b)).toList.map (·.1)=insL (es.toList.map (·.1)) p (hT k):=by rw [hes,insL_map]
  have hsz:(insertAt es p (hT k,Value.ref b)).size=es.size+1:=by rw [← Array.length_toList,hes,insL_len (by rw [Array.length_toList]; exact p1),Array.length_toList]
  rw [← hmap] at p2;have ln:=N.ln;have fl:t1.fill=es.size+1:=by unfold SetTable.fill;rw [p2.dm,p2.sz,List.length_map,Array.length_toList,hsz];rfl
  have sb:=Heap.SameBut.update s.heap a (Obj.putSet (insertAt es p (hT k,Value.ref b)) t1);have N1:En B (insertAt es p (hT k,Value.ref b)) (ks++[k]):=by
   refine ⟨fun e he=>?_,fun k' hk'=>?_,?_,?_⟩
   ·rw [hes] at he;rcases insL_mem.mp he with rfl | he
    ·exact ⟨b,k,rfl,List.mem_append_right _ (List.mem_singleton.mpr rfl),hb⟩
    ·obtain ⟨b',k',e1,e2,e3⟩:=N.of_ e he;exact ⟨b',k',e1,List.mem_append_left _ e2,e3⟩
   ·rw [hmap];rcases List.mem_append.mp hk' with hk' | hk'
    ·exact insL_mem.mpr (.inr (N.to_ k' hk'))
    ·exact insL_mem.mpr (.inl (by rw [List.mem_singleton.mp hk']))
   ·rw [hmap]; exact insL_nd N.nd hm
   ·rw [hsz,List.length_append]; exact Nat.succ_le_succ ln
  refine wpAny_bind (wpAny_storeSet_of ho S.dat ?_ (by rw [hsz,sizeLine_eq]; omega));have at1:=put_at (es':=insertAt es p (hT k,Value.ref b)) (t':=t1) ho S.dat;generalize insertAt es p (hT k,Value.ref b)=es1 at *;by_cases c:t1.tooFull=true
  ·have c':(es.size+1) * 5 ≥ t1.mask * 3:=by have:=c;unfold SetTable.tooFull at this;rw [fl] at this;exact of_decide_eq_true this
   have m7:t1.mask=7:=by
    rcases p2.mm with z | z
    ·exact z
    ·rw [z] at c'; omega
   have e5:es.size+1=5:=by have:=S.sm (by rw [← p3]; exact m7);rw [m7] at c';omega
   rw [c];simp only [Bool.not_false,Bool.and_self,if_true];rw [e5];refine wpAny_bind (relay_T at1 S.ex rfl p2 m7 (hsz.trans e5) (p4.trans S.pl) (p5.trans S.ld) N1 fun h' sb' hS'=>?_);exact wpAny_pure (h true h' (sb.trans sb') hS')
  ·have c0:t1.tooFull=false:=by simpa using c
   rw [c0];simp only [Bool.not_false,Bool.and_false,Bool.false_eq_true,if_false];refine wpAny_pure (h true _ sb ⟨_,es1,ep+1,t1,at1,⟨S.ex,rfl,p2,p4.trans S.pl,p5.trans S.ld,(fun z=>?_),(by omega)⟩,N1⟩);have:¬((es.size+1) * 5 ≥ t1.mask * 3):=fun q=>by unfold SetTable.tooFull at c0;rw [fl] at c0;exact of_decide_eq_false c0 q
   rw [z] at this;omega
end
end STb
end
section
open PySem PySem.Spec PyProof.Rows
open SW
namespace STb
section
variable {prog:Program} {w:World} {A:Around} {I:Addr} {wr:List Addr} {G:Array GenState→Array GenState→Prop} {P:Nat→Value→Prop} {St:Nat→Shared→Prop}
theorem SetT.at' (H:SetT w B h a ks) (e:∀o,h.get? a=some o→h'.get? a=some o):SetT w B h' a ks:=by obtain ⟨o,es,ep,t,h1,r⟩:=H;exact ⟨o,es,ep,t,e o h1,r⟩
theorem tup_at {k:List Int} (x:IsTupleKey (intKind prog w) h k b) (e:∀o,h.get? b=some o→h'.get? b=some o):IsTupleKey (intKind prog w) h' k b:=by obtain ⟨o,items,n,ho,r⟩:=x;exact ⟨o,items,n,e o ho,r⟩
theorem loop_T (W:WalksS prog w A.in1 I fp wr G n P St) (S:Addr) (hSf:S∉fp) (val:Nat→List Int) (hval:∀i v,P i v→∃b,v=.ref b∧B b (val i)) (hnb:∀b k,B b k→b∉S::wr) (hj:∀i j,i<n→j<n→hT (val i)=hT (val j)→val i=val j) (h18:n≤18) (hu:A.in1.units<cLine) :
  ∀(k i:Nat) (s:Shared),n-i=k→i≤n→St i s→(∀b k,B b k→IsTupleKey (intKind prog w) s.heap k b)→SetT w B s.heap S ((List.range i).map val) →
   (∀s',Moved (S::wr) G s s'→SetT w B s'.heap S ((List.range n).map val)→R (.ok (.ret .none)) s') →
   codeAny (model prog w) A (.builtin "set.update.loop" ⟨[.ref S,.ref I],[]⟩) R s:=by
 have hSw:S∉wr:=fun h=>hSf (W.sub _ h);have hsub:∀b∈wr,b∈S::wr:=fun b hb=>List.mem_cons_of_mem _ hb;have hnw:∀b k,B b k→b∉wr:=fun b k h z=>hnb b k h (hsub b z);intro k;induction k with
 | zero =>
  intro i s hk hi h0 hB hS hR;have:i=n:=by omega
  subst this;refine codeAny_builtin F.entry_set_update_loop ?_;rw [Around.under_plainId F.plain_set_update_loop _];show wpAny _ A.in1 (pyNext (.ref I) >>= _) _ _ s;refine wpAny_bind (W.done s _ _ h0 fun s' hm=>?_);show wpAny _ A.in1 (ret Value.none) _ _ s';exact wpAny_pure (hR s' (hm.mono hsub) (hS.at' fun o ho=>hm.heap S _ hSw ho))
 | succ k ih =>
  intro i s hk hi h0 hB hS hR;have hlt:i<n:=by omega
  refine codeAny_builtin F.entry_set_update_loop ?_;rw [Around.under_plainId F.plain_set_update_loop _];show wpAny _ A.in1 (pyNext (.ref I) >>= _) _ _ s;refine wpAny_bind (W.item i s _ _ hlt h0 fun v s' hP h1 hm=>?_);obtain ⟨b,rfl,hb⟩:=hval i v hP;have hS':SetT w B s'.heap S ((List.range i).map val):=hS.at' fun o ho=>hm.heap S _ hSw ho;have hB':∀b k,B b k→IsTupleKey (intKind prog w) s'.heap k b:=fun b k h=>tup_at (hB b k h) fun o e=>hm.heap b o (hnw b k h) e;show wpAny _ A.in1 (holding [Value.ref b] (setAdd S (.ref b)) >>= _) _ _ s';refine wpAny_bind (wpAny_holding ?_);unfold setAdd;refine wpAny_holding ?_;refine wpAny_bind (wpAny_pyHash_tuple hu (hB' b _ hb) ?_);rw [hT_is];refine add_T (B:=B) (ks:=(List.range i).map val) (k:=val i) (s:={ s' with toks:=s'.toks+((val i).length+1) }) hu hS' hB' hb (fun k' hk' e=>?_) (by rw [List.length_map,List.length_range]; omega) fun r h' hsb hS2=>?_
  ·obtain ⟨j,hj',rfl⟩:=List.mem_map.mp hk';have:=List.mem_range.mp hj';exact hj j i (by omega) hlt e
  rw [show (List.range i).map val++[val i]=(List.range (i+1)).map val by rw [List.range_succ,List.map_append]; rfl] at hS2;refine wpAny_pure ⟨plainId_quiet F.plain_set_update_loop _,ih (i+1) _ (by omega) hlt (W.frame _ s' _ _ h1 (Nat.le_add_right _ _) fun b hb o e=>?_) (fun b k h=>tup_at (hB' b k h) fun o e=>?_) hS2 fun s'' hm'' hS''=>?_⟩
  ·rw [hsb.2 b (fun h:b=S=>hSf (by rw [← h]; exact hb))]; exact e
  ·have:b≠S:=fun z=>hnb b k h (by rw [z]; exact List.mem_cons_self);exact (hsb.2 b this).trans e
  ·refine hR s'' (Moved.trans W.gtrans ((hm.mono hsub).then_heap (Nat.le_add_right _ _) fun b o hb e=>?_) hm'') hS'';rw [hsb.2 b (fun h:b=S=>hb (by rw [h]; exact List.mem_cons_self))]; exact e
end
section
variable {prog:Program} {w:World} {A:Around}
theorem set_list_T {l:Addr} {items:Array Value} {val:Nat→List Int} (hh:A.handled=none) (hu:A.units+3<cLine) (hl:s.heap.IsList l items) (hval:∀(i:Nat) (v:Value),items[i]?=some v→∃b,v=.ref b∧B b (val i)) (hB:∀b k,B b k→IsTupleKey (intKind prog w) s.heap k b) (hj:∀i j,i<items.size→j<items.size→hT (val i)=hT (val j)→val i=val j) (h18:items.size≤18)
    (h:∀(h':Heap) (tk:Nat),SetT w B h' s.heap.objs.size ((List.range items.size).map val)→(∀b o,b<s.heap.objs.size→s.heap.get? b=some o→h'.get? b=some o)→Q (.ref s.heap.objs.size) { s with heap:=h',toks:=tk }) :
    wpAny (model prog w) A (call (.type "set") [.ref l]) Q E s:=by
  obtain ⟨c,tl,hmro⟩:=PySem.F.called_set.mro;have hmade:=PySem.F.called_set.made;have hsub:=PySem.F.called_set.sub;refine wpAny_call (codeAny_of_tree ?_);show wpAny _ _ (callAny (.type "set") _) _ _ _;refine wpAny_pure ⟨Code.quiet_builtin _ (by decide +kernel),codeAny_builtin PySem.F.entry_type_call ?_⟩;rw [Around.under_plain (weight_type_call_type "set" [.ref l] []) rfl];have h1:=PySem.F.called_set.notType;have h2:=PySem.F.called_set.canCreate;have hct:=PySem.F.typeCall_set_1 (.ref l)
  repeat (any_goals (first | assumption | wp_step))
  generalize ho:({ cls:=.type "set",dict:=none,data:=.set #[] 0 (.fresh 0 0 (ledW w)) }:Obj)=oS;refine codeAny_mono (set_new_W (.ref l) (E:=E) (Q₁:=fun obj s₁=>obj=.ref s.heap.objs.size∧s₁ = { s with heap:=s.heap.push oS }) ⟨rfl,by rw [ho]⟩) fun r s₁ hr=>?_;cases r with
  | error e=>exact hr
  | ok fl =>
    cases fl with
    | ret obj =>
      obtain ⟨rfl,rfl⟩:=hr;have hS:(s.heap.push oS).get? s.heap.objs.size=some oS:=Heap.get?_push_size _ (by rw [← ho]; rfl);have hT:Shared.TypeIs { s with heap:=s.heap.push oS } (.ref s.heap.objs.size) "set":=⟨_,hS,by rw [← ho]⟩;have hli:=PySem.F.called_set.init.lookup;have hbi:=PySem.F.called_set.init.bind (.ref s.heap.objs.size)
      repeat (any_goals (first | assumption | wp_step))
      refine codeAny_mono (codeAny_call_builtin (R:=wants (fun r s₂=>r=.none∧∃h' tk,s₂ = { s with heap:=h',toks:=tk }∧SetT w B h' s.heap.objs.size ((List.range items.size).map val)∧(∀b o,b<s.heap.objs.size→s.heap.get? b=some o→h'.get? b=some o)) E) PySem.F.called_set.init.plain PySem.F.entry_set_init (check_set_init_1 hT ?_)) fun r₂ s₂ hr₂=>?_
      · obtain ⟨ol,hol,hcl,nl,hdl⟩:=hl;obtain ⟨ocls,odict,odata,oslots⟩:=ol;simp only at hcl hdl;subst hcl; subst hdl;have hol':(s.heap.push oS).get? l=some { cls:=.type "list",dict:=odict,data:=.seq items nl,slots:=oslots }:=Heap.get?_push_of_some _ hol;have hsls:=PySem.F.sub_list_set;have hslf:=PySem.F.sub_list_frozenset;have hne:(Value.type "list" == Value.type "dict")=false:=by decide
        have hl1:(s.heap.push oS).IsList l items:=⟨_,hol',rfl,nl,rfl⟩;have hlS:l<s.heap.objs.size:=Heap.lt_size hol;have hh3:A.in1.in1.in1.handled=none:=by simp [hh]
        have hneI:l≠(s.heap.push oS).objs.size:=by rw [Heap.size_push]; exact Nat.ne_of_lt (Nat.lt_succ_of_lt hlS)
        have hSf:s.heap.objs.size∉[(s.heap.push oS).objs.size,l]:=by rw [Heap.size_push]; simp only [List.mem_cons,List.mem_singleton,List.not_mem_nil,or_false,not_or];exact ⟨Nat.ne_of_lt (Nat.lt_succ_self _),Nat.ne_of_gt hlS⟩
        have lt0:∀b k,B b k→b<s.heap.objs.size:=fun b k h=>by obtain ⟨o,_,_,ho,_⟩:=hB b k h;exact Heap.lt_size ho
        have hb2:∀b,b<s.heap.objs.size→b≠(s.heap.push oS).objs.size:=fun b hb=>by rw [Heap.size_push]; exact Nat.ne_of_lt (Nat.lt_succ_of_lt hb)
        subst ho;unfold Builtin.«set.__init__» noKeywords Builtin.Frozenset.updateFrom;generalize hPI:pyIter=PI
        wp_walk
        subst hPI;refine wpAny_pyIter_list hl1 ?_;refine wpAny_bind (wpAny_runValue ?_);refine loop_T (B:=B) ((Walks.list hh3 _ l hneI items).toS) s.heap.objs.size hSf val hval (fun b k h=>?_) hj h18 (by simpa using hu) (items.size-0) 0 _ (by omega) (Nat.zero_le _) ⟨⟨_,Heap.get?_push_size _ rfl,rfl,rfl⟩,(hl1.push _)⟩ (fun b k h=>tup_at (hB b k h) fun o e=>Heap.get?_push_of_some _ (Heap.get?_push_of_some _ e)) ?_ ?_
        · have:=lt0 b k h;simp only [List.mem_cons,List.mem_singleton,List.not_mem_nil,or_false,not_or];exact ⟨Nat.ne_of_lt this,hb2 b this⟩
        · refine ⟨_,#[],0,_,Heap.get?_push_of_some _ hS,⟨⟨rfl,rfl,rfl⟩,rfl,⟨.inl rfl,rfl,.nil,rfl,fun j hj=>(by cases hj),fun i h j e=>(by cases e)⟩,rfl,rfl,fun _=>Nat.zero_le _,Nat.zero_le _⟩,⟨fun e he=>(by cases he),fun k hk=>(by cases hk),.nil,Nat.zero_le _⟩⟩
        · intro s' hm hS';obtain ⟨h',g',d',tk',os'⟩:=s';have eg:g'=s.gens:=hm.gens;have ed:d'=s.drawn:=hm.drawn;have eo:os'=s.os:=hm.os;subst eg; subst ed; subst eo;show wpAny _ _ _ _ _ _;refine wpAny_pure ?_;show wpAny _ _ (ret Value.none) _ _ _;refine wpAny_pure ⟨rfl,h',tk',rfl,hS',fun b o hb e=>?_⟩;have hb1:b≠s.heap.objs.size:=Nat.ne_of_lt hb;exact hm.heap b o (by simp only [List.mem_cons,List.mem_singleton,List.not_mem_nil,or_false,not_or]; exact ⟨hb1,hb2 b hb⟩) (Heap.get?_push_of_some _ (Heap.get?_push_of_some _ e))
      · cases r₂ with
        | error e=>exact hr₂
        | ok fl₂ =>
          cases fl₂ with
          | ret r =>
            obtain ⟨rfl,h',tk,rfl,hS',hk'⟩:=hr₂
            repeat (any_goals (first | assumption | wp_step))
            exact h _ _ hS' hk'
          | _=>exact hr₂.elim
    | _=>exact hr.elim
end
end STb
end
section
open PySem PySem.Spec PyProof.Rows
open SW
namespace STb
section
variable {prog:Program} {w:World} {A:Around} {qs:List (Addr×List Int)}
theorem qs_gd:∀i (hi:i<qs.length),(qs.map fun q=>Value.ref q.1).getD i Value.none=.ref qs[i].1∧qs.getD i (0,[])=qs[i]:=fun i hi=>by rw [List.getD_eq_getElem?_getD,List.getD_eq_getElem?_getD,List.getElem?_map,List.getElem?_eq_getElem hi]; exact ⟨rfl,rfl⟩
theorem ord_T (tup:∀q∈qs,∃(o:Obj) (ts:List Value) (n:Nat),h.get? q.1=some o∧o.cls=.type "tuple"∧o.data=.seq ts.toArray n∧Vals (q.2.map V.int) ts) (ne:∀q∈qs,q.2≠[]):Ord prog w h (qs.map fun q=>Value.ref q.1) (tuples' (Value.type "int" != Value.type "tuple")) (fun i j=>lexI (qs.getD i (0,[])).2 (qs.getD j (0,[])).2):=by
 have len:(qs.map fun q=>Value.ref q.1).length=qs.length:=List.length_map ..;have gd:=qs_gd (qs:=qs);exact {
  kind:=fun s' A E Q keep h2 hQ=>by
   have key:∀l:List (Addr×List Int),(∀q∈l,q∈qs)→∃fs:List Value,fs.length=l.length∧PySem.W.KatTups s'.heap (l.map fun q=>Value.ref q.1) fs∧∀v∈fs,∃i t,v=.int i t:=by
    intro l;induction l with
    | nil=>exact fun _=>⟨[],rfl,trivial,nofun⟩
    | cons p l ih =>
     intro hl;obtain ⟨fs,f1,f2,f3⟩:=ih fun q hq=>hl q (List.mem_cons_of_mem _ hq);have hp:=hl p List.mem_cons_self;obtain ⟨o,ts,n,t1,t2,t3,t4⟩:=tup p hp;have ne:=ne p hp;cases hx:p.2 with
     | nil=>exact absurd hx ne
     | cons y ys =>
      rw [hx] at t4;cases t4 with
      | @cons _ u _ us r t =>
       refine ⟨u::fs,by simp [f1],PySem.W.KatTups.cons (keep _ _ t1) t2 t3 rfl f2,fun v hv=>?_⟩;rcases List.mem_cons.mp hv with rfl | hv
       ·obtain ⟨tk,e⟩:=r; exact ⟨y,tk,e⟩
       ·exact f3 v hv
   obtain ⟨fs,f1,f2,f3⟩:=key qs fun _ h=>h;refine PySem.W.kat_kind (T:=.type "int") f2 (by rw [f1]; rw [len] at h2; omega) (fun v hv=>?_) (by decide) hQ;obtain ⟨i,t,rfl⟩:=f3 v hv;exact .now
  cmp:=fun s' A i j C keep hi hj hC=>by
   rw [len] at hi hj;obtain ⟨g1,g2⟩:=gd i hi;obtain ⟨g3,g4⟩:=gd j hj;rw [g2,g4] at hC;rw [g1,g3];obtain ⟨o1,t1,n1,a1,_,a3,a4⟩:=tup qs[i] (List.getElem_mem hi);obtain ⟨o2,t2,n2,b1,_,b3,b4⟩:=tup qs[j] (List.getElem_mem hj);refine PySem.W.kat_lt (keep _ _ a1) a3 (keep _ _ b1) b3 ?_;refine lex_ints qs[i].2 qs[j].2 t1 t2 0 a4 b4 ?_;have e1:t1.toArray.size=qs[i].2.length:=by have:=a4.length; simp at this ⊢; omega
   have e2:t2.toArray.size=qs[j].2.length:=by have:=b4.length; simp at this ⊢; omega
   rw [e1,e2,lexZ_I];exact hC }
theorem sort_out {p:Array Nat} (p1:p.Perm (List.range qs.length).toArray) (p2:Srt (fun i j=>lexI (qs.getD i (0,[])).2 (qs.getD j (0,[])).2) p qs.length):∃qs':List (Addr×List Int),p.toList.map (fun i=>(qs.map fun q=>Value.ref q.1).getD i Value.none)=qs'.map (fun q=>Value.ref q.1)∧qs'.Perm qs∧qs'.Pairwise (fun x y=>lexI y.2 x.2=false):=by
 have gd:=qs_gd (qs:=qs);have pl':p.size=qs.length:=by rw [p1.size_eq]; simp
 have pb:∀i (hi:i<p.size),p[i]<qs.length:=fun i hi=>by have:p[i]∈(List.range qs.length).toArray.toList:=p1.toList.mem_iff.mp (Array.mem_toList_iff.mpr (Array.getElem_mem hi));simpa using this
 obtain ⟨qs',hqs'⟩:∃qs',qs'=p.toList.map fun i=>qs.getD i (0,[]):=⟨_,rfl⟩;have out:p.toList.map (fun i=>(qs.map fun q=>Value.ref q.1).getD i Value.none)=qs'.map fun q=>Value.ref q.1:=by rw [hqs',List.map_map];refine List.map_congr_left fun i hi=>?_;obtain ⟨j,hj,rfl⟩:=List.mem_iff_getElem.mp hi;have:=pb j (by simpa using hj);obtain ⟨g1,g2⟩:=gd p[j] this;simp only [Array.getElem_toList];rw [g1];show _=Value.ref (qs.getD p[j] (0,[])).1;rw [g2]
 have perm:qs'.Perm qs:=by
  have e:(List.range qs.length).map (fun i=>qs.getD i (0,[]))=qs:=by
   apply List.ext_getElem?;intro i;rw [List.getElem?_map];by_cases hi:i<qs.length
   ·rw [List.getElem?_range hi,List.getElem?_eq_getElem hi,Option.map_some,(gd i hi).2]
   ·rw [List.getElem?_eq_none (by simpa using hi),List.getElem?_eq_none (by omega)]; rfl
  rw [hqs']
  conv=>rhs; rw [← e]
  exact (p1.toList).map _
 have srt:qs'.Pairwise (fun x y=>lexI y.2 x.2=false):=by
  rw [hqs',List.pairwise_map];refine List.pairwise_iff_getElem.mpr fun i j hi hj hij=>?_;have:=p2 i j (by omega) (by simp at hj; omega);unfold gA at this;have hi':i<p.size:=by simpa using hi
  have hj':j<p.size:=by simpa using hj
  rw [show p.getD i 0=p[i] by simp [Array.getD,hi'],show p.getD j 0=p[j] by simp [Array.getD,hj']] at this;simpa using this
 exact ⟨qs',out,perm,srt⟩
theorem tup_vals {k:List Int} (x:IsTupleKey (intKind prog w) h k b):∃(o:Obj) (ts:List Value) (n:Nat),h.get? b=some o∧o.cls=.type "tuple"∧o.data=.seq ts.toArray n∧Vals (k.map V.int) ts:=by
 obtain ⟨o,items,n,h1,h2,h3,h4⟩:=x;refine ⟨o,items.toList,n,h1,h2,by simpa using h3,?_⟩;generalize items.toList=vs at h4;induction h4 with
 | nil=>exact .nil
 | @cons i v ks vs q _ ih =>obtain ⟨t,e⟩:=Value.isInt_shape q;exact .cons ⟨t,e⟩ ih
theorem en_list {B:Addr→List Int→Prop} {ks:List (List Int)}:∀{es:List (Int×Value)},(∀e∈es,∃b k,e=(hT k,.ref b)∧k∈ks∧B b k)→∃qs:List (Addr×List Int),es=qs.map (fun q=>(hT q.2,Value.ref q.1))∧∀q∈qs,q.2∈ks∧B q.1 q.2
 | [],_=>⟨[],rfl,fun q hq=>(by cases hq)⟩
 | e::es,h=>by
  obtain ⟨b,k,rfl,h1,h2⟩:=h e List.mem_cons_self;obtain ⟨qs,rfl,h3⟩:=en_list (es:=es) fun e he=>h e (List.mem_cons_of_mem _ he);refine ⟨(b,k)::qs,rfl,fun q hq=>?_⟩;rcases List.mem_cons.mp hq with rfl | hq
  ·exact ⟨h1,h2⟩
  ·exact h3 q hq
variable {es:Array (Int×Value)} {t:SetTable}
theorem STi.wk (S:STi w o es ep t):Wk w o es ep t:=by
 refine ⟨S.ex,S.dat,S.fits,fun _=>S.pl,fun h=>S.ld.trans h,fun _ i hi=>?_⟩;have sz:t.place.toList.length=es.size:=by rw [Array.length_toList,S.tb.sz,List.length_map,Array.length_toList]
 have so:=S.tb.so;by_cases h0:i=0
 ·subst h0;rw [if_pos rfl];obtain ⟨h1,h2⟩:=below_low so 0;by_cases z:SetTable.below t.place 0=0
  ·exact z
  ·have hb:0<t.place.toList.length:=by omega
   have:=(h2 0 _ (List.getElem?_eq_getElem hb)).mp (by omega);omega
 ·rw [if_neg h0];have hb:i-1<t.place.toList.length:=by omega
  have e1:=List.getElem?_eq_getElem hb;have e2:t.place.getD (i-1) 0=t.place.toList[i-1]:=by rw [Array.getD_eq_getD_getElem?,← Array.getElem?_toList,e1]; rfl
  rw [e2];obtain ⟨h1,h2⟩:=below_low so (t.place.toList[i-1]+1);have h3:=(h2 _ _ e1).mpr (Nat.lt_succ_self _);refine Nat.le_antisymm ?_ (by omega);refine Classical.byContradiction fun z=>?_;have hi':i<t.place.toList.length:=by omega
  have e3:=List.getElem?_eq_getElem hi';have h4:=(h2 _ _ e3).mp (by omega);have h5:=so_lt so e1 e3 (by omega);omega
theorem sorted_T (hh:A.handled=none) (hS:SetT w B s.heap a ks) (hB:∀b k,B b k→IsTupleKey (intKind prog w) s.heap k b) (ne:∀k∈ks,k≠[]) (hj:∀k∈ks,∀k'∈ks,hT k=hT k'→k=k')
  (h:∀h' tk p c (qs':List (Addr×List Int)),(∀q∈qs',B q.1 q.2)→qs'.Pairwise (fun x y=>lexI y.2 x.2=false)→(qs'.map (·.2)).Nodup→(∀k,k∈qs'.map (·.2)↔k∈ks)→qs'.length≤18→(∀b o,s.heap.get? b=some o→h'.get? b=some o)→s.heap.objs.size≤p→h'.get? p=some (seqObj "list" (qs'.map fun q=>Value.ref q.1).toArray c)→Q (.ref p) { s with heap:=h',toks:=tk }) :
  wpAny (model prog w) A (call (.builtin "sorted") [.ref a]) Q E s:=by
 obtain ⟨o,es,ep,t,ho,S,N⟩:=hS;have k:=S.wk;have le:=S.le;obtain ⟨qs,hqs,hqB⟩:=en_list (B:=B) (ks:=ks) (es:=(ordW w a es ep).toList) fun e he=>N.of_ e (ord_perm.mem_iff.mp he);have hlen:qs.length=es.size:=by have:=congrArg List.length hqs;rw [Array.length_toList,ord_size,List.length_map] at this;exact this.symm
 have nd1:(qs.map fun q=>hT q.2).Nodup:=by have:=(ord_perm (w:=w) (a:=a) (es:=es) (ep:=ep)).map (·.1);rw [hqs,List.map_map] at this;exact this.symm.nodup N.nd
 have nd:(qs.map (·.2)).Nodup:=by rw [List.Nodup,List.pairwise_map] at nd1 ⊢;exact nd1.imp fun h e=>h (congrArg hT e)
 have mem:∀x,x∈qs.map (·.2)↔x∈ks:=fun x=>by
  constructor
  ·intro hx;obtain ⟨q,hq,rfl⟩:=List.mem_map.mp hx;exact (hqB q hq).1
  ·intro hx;obtain ⟨e,he,e1⟩:=List.mem_map.mp (N.to_ x hx);have he':=(ord_perm (w:=w) (a:=a) (es:=es) (ep:=ep)).mem_iff.mpr he;rw [hqs] at he';obtain ⟨q,hq,rfl⟩:=List.mem_map.mp he';have:=hj q.2 (hqB q hq).1 x hx e1;rw [← this];exact List.mem_map.mpr ⟨q,hq,rfl⟩
 refine Calls.call_function_entry kind_sorted plain_sorted entry_sorted (args_sorted1 _) ?_;unfold Builtin.«sorted»;refine wpAny_bind (m:=checkCount "sorted" 1 1 _) (wpAny_pure ?_);refine wpAny_bind (collect_src (src_W k) hh ho (by rw [sizeLine_eq]; omega) fun h1 tk acc keep hle it=>?_);have e:acc.toList=qs.map fun q=>Value.ref q.1:=by
  have e0:acc.toList=(ordW w a es ep).toList.map (·.2):=by
   refine List.ext_getElem (by rw [List.length_map,Array.length_toList,Array.length_toList,it.1,ord_size]) fun j h1 h2=>?_;obtain ⟨q,q1,q2⟩:=it.2 j acc.toList[j] (by rw [← Array.getElem?_toList]; exact List.getElem?_eq_getElem h1);rw [q2,List.getElem_map];have h3:j<(ordW w a es ep).toList.length:=by simpa using h2
   have:(ordW w a es ep).toList[j]?=some q:=by rw [Array.getElem?_toList]; exact q1
   rw [List.getElem?_eq_getElem h3] at this;cases this; rfl
  rw [e0,hqs,List.map_map];rfl
 rw [e];have tup:∀q∈qs,∃(o:Obj) (ts:List Value) (n:Nat),h1.get? q.1=some o∧o.cls=.type "tuple"∧o.data=.seq ts.toArray n∧Vals (q.2.map V.int) ts:=fun q hq=>by obtain ⟨o,ts,n,g1,g2⟩:=tup_vals (hB _ _ (hqB q hq).2);exact ⟨o,ts,n,keep _ _ g1,g2⟩
 have O:=ord_T (prog:=prog) (w:=w) tup fun q hq=>ne _ (hqB q hq).1;have ol:LtOk (fun i j=>lexI (qs.getD i (0,[])).2 (qs.getD j (0,[])).2):=⟨fun i j k h1 h2=>lexI_tr _ _ _ h1 h2,fun i j h=>lexI_as _ _ h⟩;refine wpAny_bind (wpAny_newList ?_ (by rw [List.length_map,sizeLine_eq]; omega));have hoL:(h1.push (seqObj "list" (qs.map fun q=>Value.ref q.1).toArray 0)).get? h1.objs.size=some (seqObj "list" (qs.map fun q=>Value.ref q.1).toArray 0):=Heap.get?_push_size _ rfl;show wpAny _ _ _ _ _ { s with heap:=h1.push (seqObj "list" (qs.map fun q=>Value.ref q.1).toArray 0),toks:=tk };refine wpAny_bind (wpAny_holding (wpAny_call_entry slot_list_sort ⟨_,hoL,rfl⟩ entry_list_sort (sort_by (h0:=h1) hoL (fun b o q=>Heap.get?_push_of_some _ q) (Heap.get?_none_of_le (Nat.le_refl _)) (by rw [List.length_map]; omega) O ol fun p a1 a2=>⟨_,rfl,?_⟩) (args_list_sort _)));rw [List.length_map] at a1 a2;obtain ⟨qs',out,perm,srt⟩:=sort_out a1 a2;rw [out];obtain ⟨c,hc⟩:=sortedHeap_at (out:=List.toArray (qs'.map fun q=>Value.ref q.1)) hoL;have pm:=perm.map (·.2);refine wpAny_pure ⟨_,rfl,h _ tk h1.objs.size c qs' (fun q hq=>(hqB q (perm.mem_iff.mp hq)).2) srt (pm.symm.nodup nd) (fun x=>pm.mem_iff.trans (mem x)) (by rw [perm.length_eq]; omega) (fun b o q=>?_) hle hc⟩;have hlt:b<h1.objs.size:=Heap.lt_size (keep b o q);show (sortedHeap _ _ _ _).get? b=some o;rw [sortedHeap_old (b:=b) (Nat.ne_of_lt hlt) (by rw [size_push']; exact Nat.lt_succ_of_lt hlt)];exact Heap.get?_push_of_some _ (keep b o q)
end
end STb
end
section
variable {w:World} {A:Around}
theorem raw_values {d:Addr} (ty:s.TypeIs (.ref d) "dict") (ns:(d == sysModules)=false)
    (q:Q (.ref s.heap.objs.size) { s with heap:=s.heap.push { cls:=.type "dict_values",data:=.fields #[.ref d] } }):wpAny (model P w) A (call (.builtin "dict.values") [.ref d]) Q E s:=by
  refine call_meetsIn (S:=fun _ R s=>s.TypeIs (.ref d) "dict"∧R (.ok (.ret (.ref s.heap.objs.size))) { s with heap:=s.heap.push { cls:=.type "dict_values",data:=.fields #[.ref d] } }) F.slot_dict_values ty F.entry_dict_values (F.args_dict_values_1 _) (.of_wp fun A R s ⟨t,h⟩=>?_) ⟨ty,q⟩;unfold Builtin.«dict.values»;apply wpAny_bind;unfold Builtin.Dict.noArgs;apply wpAny_bind;refine wpAny_notOrdered_dict t ?_;refine wpAny_pure (a:=d) ?_;apply wpAny_bind;unfold Builtin.Dict.showsAll;rw [if_neg (by rw [ns]; decide)];apply wpAny_pure;apply wpAny_bind;exact wpAny_newObj_type (wpAny_pure ⟨_,rfl,h⟩)
theorem owns_v:Builtin.Dict_items.ownsTuple "dict_valueiterator"=false:=by decide
theorem raw_vnext {d:Addr} {es:Array DictEntry} {Q:Option Value→Shared→Prop} (hi:s.heap.IsValIter it d i es.size ep) (hod:s.heap.get? d=some od) (hdd:od.data=.dict es ep) (hl:i<es.size)
  (q:∀h',h'.IsValIter it d (i+1) es.size ep→Heap.SameBut it s.heap h'→Q (some es[i].val) { s with heap:=h' }):wpAny (model P w) A (pyNext (.ref it)) Q E s:=by
 obtain ⟨o,ho,hc,hd⟩:=id hi;unfold pyNext;apply wpAny_bind;apply wpAny_attempt;refine wpAny_callSpecial?_slot (name:=Str.ofString "__next__") hi.typeIs F.slot_dict_valueiterator_next (wpAny_call_entry F.slot_dict_valueiterator_next hi.typeIs F.entry_dict_valueiterator_next ?_ (F.args_dict_valueiterator_next_1 _));apply wpAny_bind;apply wpAny_pure;apply wpAny_bind;apply wpAny_bind;apply wpAny_bind
 first | refine wpAny_typeNameOfWhole_valiter hi.typeIs (wpAny_pure ?_) | refine wpAny_typeNameOf_valiter hi.typeIs (wpAny_pure ?_)
 apply wpAny_bind;refine wpAny_fieldsOf ho hd ?_;simp only [owns_v,Bool.false_eq_true,if_false];show wpAny _ _ (if (Value.ref d == Value.none)=true then _ else _) _ _ s;rw [if_neg (show ¬((Value.ref d == Value.none)=true) from fun z=>Bool.false_ne_true z)];apply wpAny_bind;apply wpAny_pure;apply wpAny_bind;refine wpAny_dictEntries hod hdd ?_;rw [if_neg (by simp)];apply wpAny_bind;apply wpAny_pure;apply wpAny_bind;refine wpAny_dictEpoch hod hdd ?_;rw [if_neg (by simp)];apply wpAny_pure;simp only [show ¬((i:Int)<0) by omega,if_false,Int.toNat_natCast,Array.getElem?_eq_getElem hl];apply wpAny_bind;apply wpAny_bind
 first | refine wpAny_typeNameOfWhole_valiter hi.typeIs (wpAny_pure ?_) | refine wpAny_typeNameOf_valiter hi.typeIs (wpAny_pure ?_)
 apply wpAny_bind;refine wpAny_isOneOf_valiter hi.typeIs ?_;show wpAny _ _ (setField (.ref it) 1 (rawInt ((i:Int)+1)) >>= _) _ _ s;apply wpAny_bind;refine wpAny_setField ho hd (by simp) ?_;have hi':(s.heap.update it (Obj.mapFields (·.setIfInBounds 1 (rawInt ((i:Int)+1))))).IsValIter it d (i+1) es.size ep :=
  ⟨_,Heap.get?_update_self _ ho (Obj.isFreed_of_fields (Obj.data_mapFields hd _)),(Obj.cls_mapFields ..).trans hc,by rw [Obj.data_mapFields hd]; simp [rawInt]⟩
 apply wpAny_bind;apply wpAny_holding;apply wpAny_bind;refine wpAny_isOneOf_valiter (s:={ s with heap:=s.heap.update it (Obj.mapFields (·.setIfInBounds 1 (rawInt ((i:Int)+1)))) }) hi'.typeIs ?_;show wpAny _ _ (Builtin.Dict_items.isOneOf (.ref it) _ >>= _) _ _ _;apply wpAny_bind;refine wpAny_isOneOf_valiter (s:={ s with heap:=s.heap.update it (Obj.mapFields (·.setIfInBounds 1 (rawInt ((i:Int)+1)))) }) hi'.typeIs ?_;show wpAny _ _ (pure es[i].val) _ _ _;exact wpAny_pure (wpAny_pure ⟨_,rfl,wpAny_pure (q _ hi' (Heap.SameBut.update ..))⟩)
theorem raw_vend {d:Addr} {es:Array DictEntry} {Q:Option Value→Shared→Prop} (hh:A.handled=none) (hi:s.heap.IsValIter it d i es.size ep) (hod:s.heap.get? d=some od) (hdd:od.data=.dict es ep) (hl:es.size≤i)
  (q:∀h',Heap.ExtBut it s.heap h'→Q none { s with heap:=h' }):wpAny (model P w) A (pyNext (.ref it)) Q E s:=by
 obtain ⟨o,ho,hc,hd⟩:=id hi;unfold pyNext;apply wpAny_bind;apply wpAny_attempt;refine wpAny_callSpecial?_slot (name:=Str.ofString "__next__") hi.typeIs F.slot_dict_valueiterator_next (wpAny_call_entry F.slot_dict_valueiterator_next hi.typeIs F.entry_dict_valueiterator_next ?_ (F.args_dict_valueiterator_next_1 _));apply wpAny_bind;apply wpAny_pure;apply wpAny_bind;apply wpAny_bind;apply wpAny_bind
 first | refine wpAny_typeNameOfWhole_valiter hi.typeIs (wpAny_pure ?_) | refine wpAny_typeNameOf_valiter hi.typeIs (wpAny_pure ?_)
 apply wpAny_bind;refine wpAny_fieldsOf ho hd ?_;simp only [owns_v,Bool.false_eq_true,if_false];show wpAny _ _ (if (Value.ref d == Value.none)=true then _ else _) _ _ s;rw [if_neg (show ¬((Value.ref d == Value.none)=true) from fun z=>Bool.false_ne_true z)];apply wpAny_bind;apply wpAny_pure;apply wpAny_bind;refine wpAny_dictEntries hod hdd ?_;rw [if_neg (by simp)];apply wpAny_bind;apply wpAny_pure;apply wpAny_bind;refine wpAny_dictEpoch hod hdd ?_;rw [if_neg (by simp)];apply wpAny_pure;simp only [show ¬((i:Int)<0) by omega,if_false,Int.toNat_natCast,Array.getElem?_eq_none hl];apply wpAny_bind;apply wpAny_bind
 first | refine wpAny_typeNameOfWhole_valiter hi.typeIs (wpAny_pure ?_) | refine wpAny_typeNameOf_valiter hi.typeIs (wpAny_pure ?_)
 show wpAny _ _ (setField (.ref it) 0 .none >>= _) _ _ s;apply wpAny_bind;refine wpAny_setField ho hd (by simp) ?_;show wpAny _ _ (newExc (.type "StopIteration") [] >>= _) _ _ _;apply wpAny_bind;simp only [newExc,newTuple];apply wpAny_bind;refine wpAny_newObj_type ?_ (by size_fits);refine wpAny_bind (m:=firstArgMember _ _) ?_;refine wpAny_of_eq (a:=Value.none) (by first | rfl | (simp only [firstArgMember]; rfl)) ?_;refine wpAny_newObj_type ?_ (by size_fits);simp only [raiseNew];apply wpAny_bind;apply wpAny_handled;rw [show A.in1.handled=none from hh];refine wpAny_bind (wpAny_pure <| wpAny_throw ?_);apply wpAny_bind;refine wpAny_isInstance (T:="StopIteration") (b:=true) ⟨_,Heap.get?_push_size _ rfl,rfl⟩ isSubtype_stop ?_;exact wpAny_pure (q _ (((Heap.SameBut.update ..).extBut.push _).push _))
theorem raw_viter {v d:Addr} {es:Array DictEntry} (hv:s.heap.IsValuesView v d) (ho:s.heap.get? d=some o) (hd:o.data=.dict es ep)
    (q:Q (.ref s.heap.objs.size) { s with heap:=s.heap.push { cls:=.type "dict_valueiterator",data:=.fields #[.ref d,.int 0 0,.int es.size 0,.int ep 0] } }):wpAny (model P w) A (pyIter (.ref v)) Q E s:=by
  obtain ⟨ov,h1,h2,h3⟩:=id hv;apply wpAny_pyIter_slot hv.typeIs F.slot_dict_values_iter;refine wpAny_call_entry F.slot_dict_values_iter hv.typeIs F.entry_dict_values_iter ?_ (F.args_dict_values_iter_1 _);unfold Builtin.«dict_values.__iter__»;apply wpAny_bind;apply wpAny_pure;apply wpAny_bind;unfold Builtin.Dict_items.dictOf;apply wpAny_bind;refine wpAny_field h1 h3 (x:=.ref d) rfl (wpAny_pure ?_);apply wpAny_bind;unfold Builtin.Dict_items.newIterator;apply wpAny_bind;refine wpAny_dictEntries ho hd ?_;apply wpAny_bind;refine wpAny_dictEpoch ho hd ?_;simp only [owns_v,Bool.false_eq_true,if_false];refine wpAny_newObj_type (wpAny_pure ⟨_,rfl,"dict_valueiterator",_,⟨_,Heap.get?_push_size _ rfl,rfl⟩,F.slot_dict_valueiterator_next.lookup,?_⟩);simpa [rawInt] using q
theorem raw_vself {d:Addr} (hi:s.heap.IsValIter it d i n ep) (q:Q (.ref it) s):wpAny (model P w) A (pyIter (.ref it)) Q E s:=by apply wpAny_pyIter_slot hi.typeIs F.slot_dict_valueiterator_iter;refine wpAny_call_entry F.slot_dict_valueiterator_iter hi.typeIs entry_dict_valueiterator_iter ?_ (F.args_dict_valueiterator_iter_1 _);exact wpAny_pure (a:=Fin.done (Flow.ret (.ref it))) ⟨_,rfl,_,_,hi.typeIs,F.slot_dict_valueiterator_next.lookup,q⟩
end
def Vls (a:Addr) (o:Obj) (kvs:List (List Key×V)):It :=
 ⟨fun i H=>H a=some (.frz o (.dT kvs))∧i<kvs.length,fun i H x H'=>H'=H∧∃k,kvs[i]?=some (k,x),fun i H=>H a=some (.frz o (.dT kvs))∧kvs.length≤i⟩
def Kys (a:Addr) (o:Obj) (kvs:List (List Key×V)):It :=
 ⟨fun i H=>H a=some (.frz o (.dT kvs))∧i<kvs.length,fun i H x H'=>H'=H∧∃b k y,x=.ref b∧kvs[i]?=some (k,y)∧H b=some (.tup (k.map kV)),fun i H=>H a=some (.frz o (.dT kvs))∧kvs.length≤i⟩
theorem turn_vals {w:World} {K:PySem.W.Frag} (a it:Addr) {es:Array DictEntry} (hd:o.data=.dict es ep) :
  Turn P w K tg (Vls a o kvs) [it] it (fun i h=>h.IsValIter it a i es.size ep) where
 mem:=by simp
 obj:=fun i h st b hb=>by obtain ⟨o,e,c,d⟩:=st;rw [List.mem_singleton.mp hb];exact ⟨o,e,fun v z=>by rw [d] at z; cases z⟩
 keep:=fun i h h' st k=>by obtain ⟨o,e,c⟩:=st;exact ⟨o,k it (by simp) _ e,c⟩
 item:=by intro X hP hw hK hc i pins s σ H E I hf st hg;subst hP hw hK;obtain ⟨hH,hl⟩:=hg;obtain ⟨ho,es',ep',hd',hz,at_⟩:=frz_dt I.hok hH;rw [hd] at hd';cases hd';obtain ⟨hl',b,e1,e2,e3⟩:=at_ i kvs[i].1 kvs[i].2 (by simp [hl]);obtain ⟨f0,f1,f2,f3,f4,f5⟩:=hf it (by simp);refine raw_vnext st ho hd hl' fun h' st' sb=>?_;have I1:Inv X pins σ H { s with heap:=h' }:=I.turned (t':=s.toks) (fun b o hb e=>(sb.2 b hb).trans e) f0 f1 f3 f4 f5;obtain ⟨o,e,c,d⟩:=id st';exact ⟨_,rfl,go_of (s:={ s with heap:=h' }) e c d (by decide) ⟨kvs[i].2,H,I1,e3,⟨rfl,kvs[i].1,by simp [hl]⟩,st',fun b hb=>(hf b hb).1⟩⟩
 done:=by intro X hP hw hK hc i pins s σ H E I hf st hg;subst hP hw hK;obtain ⟨hH,hl⟩:=hg;obtain ⟨ho,es',ep',hd',hz,_⟩:=frz_dt I.hok hH;rw [hd] at hd';cases hd';obtain ⟨f0,f1,f2,f3,f4,f5⟩:=hf it (by simp);exact raw_vend (I.ok.hd hc) st ho hd (by omega) fun h' eb=>⟨rfl,I.turned (t':=s.toks) (fun b o hb e=>eb b o hb e) f0 f1 f3 f4 f5⟩
 self:=fun _ _ _ _ _ st h=>raw_vself st h
theorem turn_keys {w:World} {K:PySem.W.Frag} (a it:Addr) {es:Array DictEntry} (hd:o.data=.dict es ep) :
  Turn P w K tg (Kys a o kvs) [it] it (fun i h=>h.IsKeyIter it a i es.size ep) where
 mem:=by simp
 obj:=fun i h st b hb=>by obtain ⟨o,e,c,d⟩:=st;rw [List.mem_singleton.mp hb];exact ⟨o,e,fun v z=>by rw [d] at z; cases z⟩
 keep:=fun i h h' st k=>by obtain ⟨o,e,c⟩:=st;exact ⟨o,k it (by simp) _ e,c⟩
 item:=by intro X hP hw hK hc i pins s σ H E I hf st hg;subst hP hw hK;obtain ⟨hH,hl⟩:=hg;obtain ⟨ho,es',ep',hd',hz,at_⟩:=frz_dt I.hok hH;rw [hd] at hd';cases hd';obtain ⟨hl',b,e1,e2,e3⟩:=at_ i kvs[i].1 kvs[i].2 (by simp [hl]);obtain ⟨f0,f1,f2,f3,f4,f5⟩:=hf it (by simp);refine raw_knext st ho hd hl' fun h' st' sb=>?_;have I1:Inv X pins σ H { s with heap:=h' }:=I.turned (t':=s.toks) (fun b o hb e=>(sb.2 b hb).trans e) f0 f1 f3 f4 f5;obtain ⟨o,e,c,d⟩:=id st';exact ⟨_,rfl,go_of (s:={ s with heap:=h' }) e c d (by decide) ⟨.ref b,H,I1,e1,⟨rfl,b,kvs[i].1,kvs[i].2,rfl,by simp [hl],e2⟩,st',fun b hb=>(hf b hb).1⟩⟩
 done:=by intro X hP hw hK hc i pins s σ H E I hf st hg;subst hP hw hK;obtain ⟨hH,hl⟩:=hg;obtain ⟨ho,es',ep',hd',hz,_⟩:=frz_dt I.hok hH;rw [hd] at hd';cases hd';obtain ⟨f0,f1,f2,f3,f4,f5⟩:=hf it (by simp);exact raw_kend (I.ok.hd hc) st ho hd (by omega) fun h' eb=>⟨rfl,I.turned (t':=s.toks) (fun b o hb e=>eb b o hb e) f0 f1 f3 f4 f5⟩
 self:=fun _ _ _ _ _ st h=>wpAny_pyIter_keyiter st h
def iFrz (X:Cx) (J:Addr→Obj→List (List Key×V)→It) (td:TE):TI:=fun σ H R=>td σ H fun x H1=>∃a kvs,x=.ref a∧((H1 a=some (.dT kvs)∧∀o,(∀o' v,X.H₀ a≠some (.frz o' v))→R (J a o kvs) (upd H1 a (.frz o (.dT kvs))))∨∃o,H1 a=some (.frz o (.dT kvs))∧R (J a o kvs) H1)
theorem held {s1:Shared} {J:Addr→Obj→List (List Key×V)→It} {R:It→Hp→Prop} (I1:Inv X pins σ H1 s1) (q:(H1 a=some (.dT kvs)∧∀o,(∀o' v,X.H₀ a≠some (.frz o' v))→R (J a o kvs) (upd H1 a (.frz o (.dT kvs))))∨∃o,H1 a=some (.frz o (.dT kvs))∧R (J a o kvs) H1) :
  IsD H1 a∧∃o H2,Inv X pins σ H2 s1∧H2 a=some (.frz o (.dT kvs))∧R (J a o kvs) H2:=by
 rcases q with ⟨e,q⟩ | ⟨o,e,q⟩
 ·obtain ⟨o,e1⟩:∃o,s1.heap.get? a=some o:=⟨_,(show ObjOk X.prog X.w H1 s1.heap a (.dT kvs) from I1.hok a _ e).2.2.choose_spec.2.choose_spec.choose_spec.choose_spec.1⟩;have nf:∀o' v,X.H₀ a≠some (.frz o' v):=fun o' v z=>by have:=I1.base.frzs a o' v z;rw [e] at this;cases this
  exact ⟨.inr ⟨_,.inl e⟩,o,_,I1.at (u':=.frz o (.dT kvs)) e nofun nofun nofun nf fun H' q=>⟨e1,q⟩,upd_same,q o nf⟩
 ·exact ⟨.inr ⟨_,.inr ⟨_,e⟩⟩,o,H1,I1,e,q⟩
theorem pi_vals {d:Expr} (ho:PE X d td) (base:attributeBase d "values" X.env (eval d X.env)=eval d X.env:=by rfl) (line:(apos.endLine == cpos.line)=true:=by rfl) :
    PI X tg (.Call (.Attribute d "values" apos) [] [] cpos) (iFrz X Vls td):=by
  intro pins s σ H R I h;refine wpAny_Call_method (T:="dict") (id:="dict.values") base rfl line PySem.F.plainAttrs_dict PySem.F.slot_dict_values PySem.F.type_dict_values (thn (ho pins s σ H _ I h) fun u s1 hq9=>?_);obtain ⟨x,H1,I1,rx,a,kvs,ex,q⟩:=hq9;subst ex;obtain rfl:u=Value.ref a:=rx;obtain ⟨dd,o,H2,I2,hH2,q2⟩:=held I1 q;obtain ⟨t1,t2,t3⟩:=isD_at I1 dd;refine ⟨t1,t2,?_⟩;obtain ⟨ho1,es,ep,hd,hz,_⟩:=frz_dt I2.hok hH2;refine Calls.callWith_builtin rfl (PySem.evalArgs_none ?_);refine raw_values t1 t3 ?_;have k0:∀b o,s1.heap.get? b=some o→(s1.heap.push { cls:=.type "dict_values",data:=.fields #[.ref a] }).get? b=some o:=fun b o e=>Heap.get?_push_of_some _ e;have hs:(s1.heap.push { cls:=.type "dict_values",data:=.fields #[.ref a] }).objs.size=s1.heap.objs.size+1:=Heap.size_push ..;refine raw_viter (s:={ s1 with heap:=s1.heap.push { cls:=.type "dict_values",data:=.fields #[.ref a] } }) ⟨_,Heap.get?_push_size _ rfl,rfl,rfl⟩ (k0 _ _ ho1) hd ?_;refine ⟨_,[_],_,_,H2,rfl,I2.kept (t':=s1.toks) fun b o e=>Heap.get?_push_of_some _ (k0 b o e),(turn_vals a _ hd).ok,⟨_,Heap.get?_push_size _ rfl,rfl,rfl⟩,fun b hb=>?_,q2⟩;rw [List.mem_singleton.mp hb];show FpOk X pins H2 (s1.heap.push _).objs.size;rw [hs];exact I2.fpOk (Nat.le_succ _) (I2.hok.fresh (Nat.le_succ _))
theorem pi_keys {d:Expr} (ho:PE X d td):PI X tg d (iFrz X Kys td):=by intro pins s σ H R I h;refine thn (ho pins s σ H _ I h) fun u s1 hq9=>?_;obtain ⟨x,H1,I1,rx,a,kvs,ex,q⟩:=hq9;subst ex;obtain rfl:u=Value.ref a:=rx;obtain ⟨dd,o,H2,I2,hH2,q2⟩:=held I1 q;obtain ⟨t1,t2,t3⟩:=isD_at I1 dd;obtain ⟨ho1,es,ep,hd,hz,_⟩:=frz_dt I2.hok hH2;refine raw_kiter t3 t1 ho1 hd ?_;refine ⟨_,[_],_,_,H2,rfl,I2.kept (t':=s1.toks) fun b o e=>Heap.get?_push_of_some _ e,(turn_keys a _ hd).ok,⟨_,Heap.get?_push_size _ rfl,rfl,rfl⟩,fun b hb=>?_,q2⟩;rw [List.mem_singleton.mp hb];exact I2.fpOk (Nat.le_refl _) (I2.hok.fresh (Nat.le_refl _))
theorem pe_thaw {e:Expr} {t:TE} (h:PE X e t):PE X e (fun σ H Q=>t σ H fun v=>thw X (Q v)):=by intro pins s σ H Q I q;refine thn (h pins s σ H _ I q) fun u s' hq9=>?_;obtain ⟨x,H',I',r,q'⟩:=hq9;obtain ⟨H2,I2,q2⟩:=thw_ok I' q';exact ⟨x,H2,I2,r,q2⟩
section
open PySem
def KTup (K:PySem.W.Frag) (a:Addr) (xs:List V):Prop:=∃(o:Obj) (its:Array Value) (n:Nat),K.lookup a=some o∧o.cls=.type "tuple"∧o.data=.seq its n∧its.size≤sizeLine∧Vals xs its.toList
theorem Same.rd {u:HO} (e:Same H H') (h:Rd H a u):Rd H' a u:=h.elim (fun h=>.inl (e _ _ h)) fun h=>.inr (h.elim fun o h=>⟨o,e _ _ h⟩)
end
end L2
namespace PySem
variable {A:Around} {kw:List (Str×Value)} {prog:Program} {s:Shared} {w:World}
section
variable {R:Result→Shared→Prop} {I:Addr} {fp wr:List Addr} {n:Nat} {P:Nat→Value→Prop} {St:Nat→Heap→Prop}
theorem maxD_go (W:Walks prog w A.in1 I fp wr n P St) (bt:Nat→Nat→Bool) (hcmp:CmpOf prog w A.in1 .Gt P bt) (S:Addr) (hSf:S∉fp) :
    ∀(k j:Nat) (s:Shared) (vb:Value) (c:Nat),n-(j+1)=k→j+1≤n→St (j+1) s.heap→P (argBest bt j) vb →
    s.heap.get? S=some { cls:=.type "list",dict:=none,data:=.seq #[vb,vb] c,slots:=#[] } →
    (∀v h' tk,P (argBest bt (n-1)) v→(∀b o,b∉wr→b≠S→s.heap.get? b=some o→h'.get? b=some o)→R (.ok (.ret v)) { s with heap:=h',toks:=tk }) →
    codeAny (model prog w) A (.builtin "max.loop" ⟨[.ref I,.none,.ref S],kw⟩) R s:=by
  have hSw:S∉wr:=fun h=>hSf (W.sub _ h);have hname:(toString "max"++toString ".loop":String) = "max.loop":=by decide
  intro k;induction k with
  | zero =>
    intro j s vb c hk hj hst hPb hS hR;have hin:j+1=n:=by omega
    refine codeAny_builtin F.entry_max_loop ?_;rw [Around.under_plainId F.plain_max_loop _];show wpAny _ A.in1 (seqItems? (.ref S) >>= _) _ _ s;refine wpAny_bind (wpAny_seqItems hS rfl ?_);show wpAny _ A.in1 (tryCatch (pyNext (.ref I)) _ >>= _) _ _ s;refine wpAny_bind (wpAny_tryCatch (W.done s _ _ (hin ▸ hst) fun h' tk hk'=>?_));show wpAny _ A.in1 (updateSeq S (fun _=>#[]) >>= _) _ _ _;refine wpAny_bind (wpAny_updateSeq (hk' S _ hSw hS) rfl (wpAny_bind (wpAny_letGo (wpAny_pure ?_))));exact hR vb _ tk (by rw [← hin]; exact hPb) fun b o hbw hbS e=>(Heap.get?_update_other _ _ (Ne.symm hbS)).trans (hk' b o hbw e)
  | succ k ih =>
    intro j s vb c hk hj hst hPb hS hR;refine codeAny_builtin F.entry_max_loop ?_;rw [Around.under_plainId F.plain_max_loop _];show wpAny _ A.in1 (seqItems? (.ref S) >>= _) _ _ s;refine wpAny_bind (wpAny_seqItems hS rfl ?_);show wpAny _ A.in1 (tryCatch (pyNext (.ref I)) _ >>= _) _ _ s;refine wpAny_bind (wpAny_tryCatch (W.item (j+1) s _ _ (by omega) hst fun v h' tk hP hst' hk'=>?_));have hS':=hk' S _ hSw hS;show wpAny _ A.in1 (tryCatch (holding [v,v] (richCompare .Gt v vb >>= _)) _ >>= _) _ _ _;refine wpAny_bind (wpAny_tryCatch (wpAny_holding (wpAny_bind (hcmp (j+1) (argBest bt j) v vb _ _ _ hP hPb ?_))));refine wpAny_bind (wpAny_holding (wpAny_truthy_bool (wpAny_bind (wpAny_letGo (wpAny_pure ?_)))));cases hb:bt (j+1) (argBest bt j) with
    | true =>
      simp only [if_true];refine wpAny_bind (wpAny_updateSeq hS' rfl (wpAny_bind (wpAny_letGo ?_)));rw [hname];refine wpAny_pure ⟨plainId_quiet F.plain_max_loop _,ih (j+1) _ v _ (by omega) (by omega) (W.frame _ _ _ hst' fun b hbf o e=>(Heap.get?_update_other _ _ (fun h:S=b=>hSf (by rw [h]; exact hbf))).trans e) (by simp only [argBest,hb,if_true]; exact hP) (Heap.get?_update_self _ hS' rfl)
        fun v' h'' tk'' hP' hk''=>hR v' h'' tk'' hP' fun b o hbw hbS e=>hk'' b o hbw hbS ((Heap.get?_update_other _ _ (Ne.symm hbS)).trans (hk' b o hbw e))⟩
    | false =>simp only [Bool.false_eq_true,if_false];refine wpAny_bind (wpAny_letGo ?_);rw [hname];exact wpAny_pure ⟨plainId_quiet F.plain_max_loop _,ih (j+1) _ vb c (by omega) (by omega) hst' (by simp only [argBest,hb,Bool.false_eq_true,if_false]; exact hPb) hS' fun v' h'' tk'' hP' hk''=>hR v' h'' tk'' hP' fun b o hbw hbS e=>hk'' b o hbw hbS (hk' b o hbw e)⟩
theorem maxD_loop {dk:Str} {d:Value} (W:Walks prog w A.in1 I fp wr n P St) (bt:Nat→Nat→Bool) (hcmp:CmpOf prog w A.in1 .Gt P bt) (S:Addr) (hSf:S∉fp) {c:Nat} (hst:St 0 s.heap)
    (hS:s.heap.get? S=some { cls:=.type "list",dict:=none,data:=.seq #[] c,slots:=#[] })
    (hR:∀v h' tk,(if n=0 then v=d else P (argBest bt (n-1)) v)→(∀b o,b∉wr→b≠S→s.heap.get? b=some o→h'.get? b=some o)→R (.ok (.ret v)) { s with heap:=h',toks:=tk }) :
    codeAny (model prog w) A (.builtin "max.loop" ⟨[.ref I,.none,.ref S],[(dk,d)]⟩) R s:=by
  have hSw:S∉wr:=fun h=>hSf (W.sub _ h);have hname:(toString "max"++toString ".loop":String) = "max.loop":=by decide
  refine codeAny_builtin F.entry_max_loop ?_;rw [Around.under_plainId F.plain_max_loop _];show wpAny _ A.in1 (seqItems? (.ref S) >>= _) _ _ s;refine wpAny_bind (wpAny_seqItems hS rfl ?_);show wpAny _ A.in1 (tryCatch (pyNext (.ref I)) _ >>= _) _ _ s;by_cases hn:n=0
  · subst hn;refine wpAny_bind (wpAny_tryCatch (W.done s _ _ hst fun h' tk hk'=>?_));have hd:=hR d h' tk rfl fun b o hbw _ e=>hk' b o hbw e;refine wpAny_bind ?_
    first | exact wpAny_pure (wpAny_pure hd) | exact wpAny_rule (wpAny_pure hd)
  · refine wpAny_bind (wpAny_tryCatch (W.item 0 s _ _ (by omega) hst fun v h' tk hP hst' hk'=>?_));have hS':=hk' S _ hSw hS;show wpAny _ A.in1 (updateSeq S (fun _=>#[v,v]) >>= _) _ _ _;refine wpAny_bind (wpAny_updateSeq hS' rfl ?_);rw [hname];refine wpAny_pure ⟨plainId_quiet F.plain_max_loop _,maxD_go W bt hcmp S hSf _ 0 _ v _ rfl (by omega) (W.frame _ _ _ hst' fun b hbf o e=>(Heap.get?_update_other _ _ (fun h:S=b=>hSf (by rw [h]; exact hbf))).trans e) hP (Heap.get?_update_self _ hS' rfl) fun v' h'' tk'' hP' hk''=>?_⟩;exact hR v' h'' tk'' (by rw [if_neg hn]; exact hP') fun b o hbw hbS e=>hk'' b o hbw hbS ((Heap.get?_update_other _ _ (Ne.symm hbS)).trans (hk' b o hbw e))
end
section
variable {E:Value→Shared→Prop}
theorem tree_kw {id:String} {b:Builtin} {args:List Value} {Q:Value→Shared→Prop} (hk:builtinKind id=none) (hp:plainId id=true)
  (hb:entryFor table id=some b) (ha:argsOk id ⟨args,kw⟩)
  (hc:wpAny (model prog w) A.in1 (b ⟨args,kw⟩) (fun fin s'=>match fin with
   | .done f=>(match (Except.ok f:Result) with | .ok (.ret v)=>Q v s' | .ok _=>False | .error e=>E e s')
   | .again c'=>c'.quiet=true∧codeAny (model prog w) A c' (fun r s'=>match r with | .ok (.ret v)=>Q v s' | .ok _=>False | .error e=>E e s') s') E s) :
  wpAny (model prog w) A (call (.builtin id) args kw) Q E s:=by
 refine wpAny_call (codeAny_call_builtin hp hb ?_);simp only [checkBuiltinCall,hk];cases hsig:Manifest.signature? id with
 | none=>exact wpAny_pure hc
 | some sig =>
  have ha':Bind.checkArgs id sig ⟨args,kw⟩=pure ():=by simpa only [argsOk,hsig] using ha
  simp only [ha'];exact wpAny_pure hc
theorem maxD_call {x d:Value} {Q:Value→Shared→Prop}
  (h:wpAny (model prog w) A.in1 (pyIter x) (fun it s₂=>∃I fp wr n P St bt,it=.ref I∧Walks prog w A.in1 I fp wr n P St∧St 0 s₂.heap∧(∀b∈fp,b<s₂.heap.objs.size)∧CmpOf prog w A.in1 .Gt P bt ∧
   ∀v h' tk,(if n=0 then v=d else P (argBest bt (n-1)) v)→(∀b o,b∉wr→s₂.heap.get? b=some o→h'.get? b=some o)→Q v { s₂ with heap:=h',toks:=tk }) E s) :
  wpAny (model prog w) A (call (.builtin "max") [x] [("default",d)]) Q E s:=by
 have hname:(toString "max"++toString ".loop":String) = "max.loop":=by decide
 refine tree_kw F.kind_max F.plain_max F.entry_max (by unfold argsOk; kernel_rfl) ?_;show wpAny _ A.in1 (Builtin.Builtins.bindParams "max" ["key","default"] 0 ⟨[],[("default",d)]⟩ >>= _) _ _ s;refine wpAny_bind (wpAny_of_eq (show Builtin.Builtins.bindParams "max" ["key","default"] 0 ⟨[],[("default",d)]⟩=pure [none,some d] from rfl) ?_);refine wpAny_bind (wpAny_pure ?_);refine wpAny_bind (wpAny_mono h (fun it s₂ h₂=>?_) fun _ _ e=>e);obtain ⟨I,fp,wr,n,P,St,bt,rfl,W,hst,hfp,hcmp,hQ⟩:=h₂;refine wpAny_bind (wpAny_newObj_type ?_);have hSf:s₂.heap.objs.size∉fp:=fun hm=>Nat.lt_irrefl _ (hfp _ hm);rw [hname];refine wpAny_pure ⟨plainId_quiet F.plain_max_loop _,maxD_loop W bt hcmp s₂.heap.objs.size hSf (W.frame _ _ _ hst fun b _ o e=>Heap.get?_push_of_some _ e) (Heap.get?_push_size _ rfl) fun v h' tk hP hk=>?_⟩;exact hQ v h' tk hP fun b o hbw e=>hk b o hbw (Nat.ne_of_lt (Heap.lt_size e)) (Heap.get?_push_of_some _ e)
end
end PySem
namespace L2
open PySem PyProof.Rows
variable {X:Cx} {cap:List Nat} {elt iter tg:Expr} {g:TG} {i:Nat} {ifs:List Expr} {pos pos':Pos} {scope:Scope} {te:TE} {tt:TT} {wi:TI} {x:Str}
theorem ps_compSet {spos:Pos} {N:List Str} {own:Nat} (B:BlkOk X scope N own cap) (hc:X.calm=true) (hi:PI X tg iter wi)
  (kg:keepsCaps own g)
  (hg:∀cl C fp s₀ H₀,PG (cxB X scope cl N C fp s₀ H₀) tg g) (ht:∀cl C fp s₀ H₀,PTs (cxB X scope cl N C fp s₀ H₀) ifs tt) (he:∀cl C fp s₀ H₀,PE (cxB X scope cl N C fp s₀ H₀) elt te)
  (hN:X.N.Nodup) (hi2:X.N[i]?=some x) (hx:Loc X.env.scope x) (hsw:swapsWith (.ListComp elt [⟨tg,iter,ifs,0⟩] scope pos) (some (.Name x pos')) spos.line X.env=pure true)
  (hs:∀x,foldedSetIterable iter X.env x=pure x:=by intro _; rfl) (hf:X.fn x=true∨X.env.scope.names.lookup x=some .local:=by first | exact .inl rfl | exact .inr rfl | assumption) :
  PS X (.Assign [.Name x pos'] (.ListComp elt [⟨tg,iter,ifs,0⟩] scope pos) spos) (tAsg (tComp wi own cap g tt te) (gName i)):=by
 intro pins s σ H D I h;rw [exec_Assign_Name_used _ _ _ _ hsw];refine wpAny_bind (wpAny_standAt (wpAny_bind ?_));show wpAny _ X.A (do let _ ← comprehension (.ListComp elt [⟨tg,iter,ifs,0⟩] scope pos) scope X.env _ (newList []) false (eval iter X.env) (some (assign (.Name x pos') X.env))) _ _ s;refine wpAny_bind (wpAny_mono (comp_run (use:=some (assign (.Name x pos') X.env)) (Q0:=fun _ s'=>∃σ' H',Inv X pins σ' H' s'∧D.nx σ' H') B hc hi kg hg ht he hs I h fun Da C H5 s6 r q I6 fo hm=>?_) (fun _ s' hq=>wpAny_pure (wpAny_pure hq)) fun _ _ e=>e);show wpAny _ X.A (assign (.Name x pos') X.env (.ref Da)) _ _ _;refine wpAny_assign_Name (store_ok2 (v:=.ref Da) I6 hN hi2 hx rfl (fun s7 I7 hsb=>?_) hf);obtain ⟨m,hm⟩:=hm;obtain ⟨a,sb,ha⟩:=hsb;obtain ⟨f0,f1,f2,f3,f4,f5⟩:=fo;have hne:C≠a:=by
  rcases ha with rfl | ha
  ·exact f1
  ·exact fun z=>f4 x a ha z.symm
 refine ⟨m,hm.sameBut sb hne,fun h' sb'=>⟨_,H5,I7.turned (t':=s7.toks) (it:=C) (fun b o hb e=>sb'.extBut b o hb e) f0 f1 f3 f4 f5,q⟩⟩
variable {elts:List Expr} {kt:Nat}
variable {p2:Pos}
variable {C f:Addr} {CX:CXT} {apos p:Pos} {es:List Expr} {fd:FuncData} {m:Str} {ps:List Str} {sp:Sp} {ta:TE}
variable {E:Value→Shared→Prop} {s:Shared}
variable {ds:List Value} {dvs:List V}
end L2
namespace PySem
variable {A:Around} {kw:List (Str×Value)} {prog:Program} {w:World}
variable {s:Shared}
end PySem
namespace L2
open PySem PySem.Spec PyProof.Rows
variable {X:Cx} {p2 pos:Pos} {te:TE}
inductive EL (w:World):List DictEntry→List (Str×Value)→Prop
 | nil:EL w [] []
 | cons {k:Str} {t:Tok} {v:Value} {es:List DictEntry} {L:List (Str×Value)}:EL w es L→EL w (⟨PyData.keyHash w.params k,.str k t,v⟩::es) ((k,v)::L)
structure KD (K:PySem.W.Frag) (w:World) (mg:Str→Option Value) (x:Str) (da:Addr) (L:List (Str×Value)):Prop where
 mgx:mg x=some (.ref da)
 sy:(da == sysModules)=false
 ob:∃(es:Array DictEntry) (ep:Nat),K.lookup da=some ⟨.type "dict",none,.dict es ep,#[]⟩∧EL w es.toList L
variable {P:Program}
variable {CX:CXT} {es:List Expr} {p:Pos} {ty:TE} {x:Str}
variable {E:Value→Shared→Prop} {s:Shared}
variable {elts:List Expr} {kt:Nat}
variable {tg:Expr}
variable {f:Addr} {fd:FuncData} {i:Nat} {ps:List Str} {sp:Sp}
end L2
namespace Fq
def dv (t b:Int):Int:=if b<0 then -((Int.gcd t b:Nat):Int) else ((Int.gcd t b:Nat):Int)
def mk (t b:Int):Int×Int:=(t.fdiv (dv t b),b.fdiv (dv t b))
structure Low (q:Int×Int):Prop where
 pos:1≤q.2
 cop:Int.gcd q.1 q.2=1
end Fq
namespace L3
open PySem PySem.Spec L2
open PyProof.Rows hiding St
inductive D where
 | non | bl (b:Bool) | int (i:Int) | str (x:Str)
 | lst (xs:List D) | tup (xs:List D) | dK (ks:List Key) (ds:List D) | dT (ks:List (List Key)) (ds:List D)
 | obj (c:Nat) (ns:List Str) (ds:List D)
 | exc (c:Nat) (ns:List Str) (ds:List D)
 | kt (xs:List D)
 deriving Inhabited
inductive Pr (R:D→V→Prop):List D→List V→Prop
 | nil:Pr R [] []
 | cons {d:D} {v:V} {ds:List D} {vs:List V}:R d v→Pr R ds vs→Pr R (d::ds) (v::vs)
variable {R:D→V→Prop} {ds:List D} {vs:List V}
theorem Pr.mono {R':D→V→Prop} (f:∀d v,R d v→R' d v) (h:Pr R ds vs):Pr R' ds vs:=by
 induction h with
 | nil=>exact .nil
 | cons h t ih=>exact .cons (f _ _ h) ih
theorem Pr.length (h:Pr R ds vs):ds.length=vs.length:=by
 induction h with
 | nil=>rfl
 | cons h t ih=>rw [List.length_cons,List.length_cons,ih]
variable {d:D} {i:Nat}
theorem Pr.get' (h:Pr R ds vs) (e:ds[i]?=some d):∃v,vs[i]?=some v∧R d v:=by
 induction h generalizing i with
 | nil=>cases e
 | cons h t ih =>
  cases i with
  | zero=>cases e; exact ⟨_,rfl,h⟩
  | succ i=>exact ih e
theorem Pr.append {es:List D} {us:List V} (h:Pr R ds vs) (s:Pr R es us):Pr R (ds++es) (vs++us):=by
 induction h with
 | nil=>exact s
 | cons h t ih=>exact .cons h ih
theorem Pr.take (n:Nat) (h:Pr R ds vs):Pr R (ds.take n) (vs.take n):=by
 induction h generalizing n with
 | nil=>cases n <;> exact .nil
 | cons h t ih=>cases n with
  | zero=>exact .nil
  | succ n=>exact .cons h (ih n)
theorem Pr.drop (n:Nat) (h:Pr R ds vs):Pr R (ds.drop n) (vs.drop n):=by
 induction h generalizing n with
 | nil=>cases n <;> exact .nil
 | cons h t ih=>cases n with
  | zero=>exact .cons h t
  | succ n=>exact ih n
theorem Pr.rep (h:Pr R ds vs) (k:Nat):Pr R (List.replicate k ds).flatten (List.replicate k vs).flatten:=by
 induction k with
 | zero=>exact .nil
 | succ k ih=>rw [List.replicate_succ,List.flatten_cons,List.replicate_succ,List.flatten_cons]; exact h.append ih
mutual
inductive Dt (K:PySem.W.Frag) (ct:Nat→Addr) (F:Hp):D→V→Prop
 | non:Dt K ct F .non .non
 | bl (b:Bool):Dt K ct F (.bl b) (.bl b)
 | int (i:Int):Dt K ct F (.int i) (.int i)
 | str (x:Str):Dt K ct F (.str x) (.str x)
 | lst {a:Addr} {vs:List V} {ds:List D}:SqL K F a vs→Dts K ct F ds vs→Dt K ct F (.lst ds) (.ref a)
 | tup {a:Addr} {vs:List V} {ds:List D}:F a=some (.tup vs)→Dts K ct F ds vs→Dt K ct F (.tup ds) (.ref a)
 | dK {a:Addr} {ks:List Key} {vs:List V} {ds:List D}:F a=some (.dK (ks.zip vs))→ks.length=vs.length→Dts K ct F ds vs→Dt K ct F (.dK ks ds) (.ref a)
 | dT {a:Addr} {ks:List (List Key)} {vs:List V} {ds:List D}:Rd F a (.dT (ks.zip vs))→ks.length=vs.length→Dts K ct F ds vs→Dt K ct F (.dT ks ds) (.ref a)
 | obj {a dx:Addr} {c:Nat} {ns:List Str} {vs:List V} {ds:List D}:F a=some (.ins (ct c) dx (ns.zip vs))→ns.length=vs.length→Dts K ct F ds vs→Dt K ct F (.obj c ns ds) (.ref a)
 | exc0 {a:Addr} {c:Nat} {tb:Option Addr}:F a=some (xcH a (ct c) none tb)→Dt K ct F (.exc c [] []) (.ref a)
 | exc {a dx:Addr} {c:Nat} {tb:Option Addr} {ns:List Str} {vs:List V} {ds:List D}:F a=some (xcH a (ct c) (some dx) tb)→F dx=some (.xd (ns.zip vs))→ns.length=vs.length→Dts K ct F ds vs→Dt K ct F (.exc c ns ds) (.ref a)
 | kt {a:Addr} {vs:List V} {ds:List D}:KTup K a vs→Dts K ct F ds vs→Dt K ct F (.kt ds) (.ref a)
inductive Dts (K:PySem.W.Frag) (ct:Nat→Addr) (F:Hp):List D→List V→Prop
 | nil:Dts K ct F [] []
 | cons {d:D} {v:V} {ds:List D} {vs:List V}:Dt K ct F d v→Dts K ct F ds vs→Dts K ct F (d::ds) (v::vs)
end
variable {B B' F F' G G' H H':Hp} {K:PySem.W.Frag} {ct:Nat→Addr}
theorem Dts.pr (h:Dts K ct F ds vs):Pr (Dt K ct F) ds vs:=by
 induction ds generalizing vs with
 | nil=>cases h; exact .nil
 | cons d ds ih=>cases h with | cons h t=>exact .cons h (ih t)
theorem Dts.of (h:Pr (Dt K ct F) ds vs):Dts K ct F ds vs:=by
 induction h with
 | nil=>exact .nil
 | cons h t ih=>exact .cons h ih
theorem Dt.mono (s:Same F F') {v:V} (h:Dt K ct F d v):Dt K ct F' d v :=
 Dt.rec (motive_1:=fun d v _=>Dt K ct F' d v) (motive_2:=fun d v _=>Dts K ct F' d v) .non .bl .int .str (fun h _ t=>.lst (s.seq h) t) (fun h _ t=>.tup (s _ _ h) t) (fun h l _ t=>.dK (s _ _ h) l t) (fun h l _ t=>.dT (s.rd h) l t) (fun h l _ t=>.obj (s _ _ h) l t) (fun h=>.exc0 (s _ _ h)) (fun h h' l _ t=>.exc (s _ _ h) (s _ _ h') l t) (fun h _ t=>.kt h t) .nil (fun _ _ h t=>.cons h t) h
def D.sc:D→Bool
 | .non=>true | .bl _=>true | .int _=>true | .str _=>true | _=>false
inductive AlC (K:PySem.W.Frag) (ct:Nat→Addr) (F G:Hp) (R:D→V→Prop):D→V→Prop
 | lst {a:Addr} {vs:List V} {ds:List D}:G a=some (.lst vs)→Pr R ds vs→AlC K ct F G R (.lst ds) (.ref a)
 | tup {a:Addr} {vs:List V} {ds:List D}:F a=some (.tup vs)→Pr R ds vs→AlC K ct F G R (.tup ds) (.ref a)
 | dK {a:Addr} {ks:List Key} {vs:List V} {ds:List D}:G a=some (.dK (ks.zip vs))→ks.length=vs.length→Pr R ds vs→AlC K ct F G R (.dK ks ds) (.ref a)
 | dT {a:Addr} {ks:List (List Key)} {vs:List V} {ds:List D}:Rd G a (.dT (ks.zip vs))→ks.length=vs.length→Pr R ds vs→AlC K ct F G R (.dT ks ds) (.ref a)
 | obj {a dx:Addr} {c:Nat} {ns:List Str} {vs:List V} {ds:List D}:G a=some (.ins (ct c) dx (ns.zip vs))→ns.length=vs.length→Pr R ds vs→AlC K ct F G R (.obj c ns ds) (.ref a)
def Al (K:PySem.W.Frag) (ct:Nat→Addr) (F G:Hp):Nat→D→V→Prop
 | 0,d,v=>Dt K ct F d v
 | n+1,d,v=>Dt K ct F d v∨AlC K ct F G (Al K ct F G n) d v
inductive OwL (R:D→V→List Addr→Prop):List D→List V→List Addr→Prop
 | nil:OwL R [] [] []
 | cons {d:D} {v:V} {ds:List D} {vs:List V} {f g:List Addr}:R d v f→OwL R ds vs g→OwL R (d::ds) (v::vs) (f++g)
inductive OwC (K:PySem.W.Frag) (ct:Nat→Addr) (F H:Hp) (R:D→V→List Addr→Prop):D→V→List Addr→Prop
 | lst {a:Addr} {vs:List V} {ds:List D} {fp:List Addr}:F a=none→H a=some (.lst vs)→OwL R ds vs fp→OwC K ct F H R (.lst ds) (.ref a) (a::fp)
 | tup {a:Addr} {vs:List V} {ds:List D} {fp:List Addr}:F a=some (.tup vs)→OwL R ds vs fp→OwC K ct F H R (.tup ds) (.ref a) fp
 | dK {a:Addr} {ks:List Key} {vs:List V} {ds:List D} {fp:List Addr}:F a=none→H a=some (.dK (ks.zip vs))→ks.length=vs.length→OwL R ds vs fp→OwC K ct F H R (.dK ks ds) (.ref a) (a::fp)
 | dT {a:Addr} {ks:List (List Key)} {vs:List V} {ds:List D} {fp:List Addr}:F a=none→H a=some (.dT (ks.zip vs))→ks.length=vs.length→OwL R ds vs fp→OwC K ct F H R (.dT ks ds) (.ref a) (a::fp)
 | obj {a dx:Addr} {c:Nat} {ns:List Str} {vs:List V} {ds:List D} {fp:List Addr}:F a=none→H a=some (.ins (ct c) dx (ns.zip vs))→ns.length=vs.length→OwL R ds vs fp→OwC K ct F H R (.obj c ns ds) (.ref a) (a::fp)
def Ow (K:PySem.W.Frag) (ct:Nat→Addr) (F H:Hp):Nat→D→V→List Addr→Prop
 | 0,d,v,fp=>Dt K ct F d v∧fp=[]
 | n+1,d,v,fp=>(d.sc=true∧Dt K ct F d v∧fp=[])∨OwC K ct F H (Ow K ct F H n) d v fp
def NTup (o:HO):Prop:=∀xs,o≠.tup xs
structure Ext (F H F' H':Hp):Prop where
 ff:Same F F'
 hh:Same H H'
 fh:Same F' H'
 nf:∀a o,H a=some o→NTup o→F a=none→F' a=none
theorem Ext.refl (h:Same F H):Ext F H F H:=⟨.refl _,.refl _,h,fun _ _ _ _ h=>h⟩
variable {F1:Hp}
theorem Ext.trans {H1 F2 H2:Hp} (a:Ext F H F1 H1) (b:Ext F1 H1 F2 H2):Ext F H F2 H2 :=
 ⟨a.ff.trans b.ff,a.hh.trans b.hh,b.fh,fun c o h t n=>b.nf c o (a.hh _ _ h) t (a.nf c o h t n)⟩
theorem Ext.newO {p:Addr} (s:Same F H) (h:H p=none) (o:HO):Ext F H F (upd H p o) :=
 ⟨.refl _,same_new h o,s.trans (same_new h o),fun _ _ _ _ h=>h⟩
theorem Ext.newS {p:Addr} (s:Same F H) (h:H p=none) (o:HO):Ext F H (upd F p o) (upd H p o) :=
  ⟨same_new (s.free h) o,same_new h o,fun b u q=>by
    by_cases e:b=p
    · subst e; rw [upd_same] at q ⊢; exact q
    · rw [upd_ne e] at q ⊢; exact s _ _ q,
   fun b u q _ n=>by rw [upd_ne (ne_of_none q h)]; exact n⟩
variable {F0:Hp} {fp:List Addr} {ks:List (List Key)} {n:Nat} {x:Str}
theorem Al.mono (sF:Same F F') (sG:Same G G'):∀{d:D} {v:V},Al K ct F G n d v→Al K ct F' G' n d v:=by
 induction n with
 | zero=>exact fun h=>Dt.mono sF h
 | succ n ih =>
  intro d v h;rcases h with h | h
  ·exact .inl (Dt.mono sF h)
  ·cases h with
   | lst h p=>exact .inr (.lst (sG _ _ h) (p.mono fun _ _ q=>ih q))
   | tup h p=>exact .inr (.tup (sF _ _ h) (p.mono fun _ _ q=>ih q))
   | dK h l p=>exact .inr (.dK (sG _ _ h) l (p.mono fun _ _ q=>ih q))
   | dT h l p=>exact .inr (.dT (sG.rd h) l (p.mono fun _ _ q=>ih q))
   | obj h l p=>exact .inr (.obj (sG _ _ h) l (p.mono fun _ _ q=>ih q))
theorem Al.of:∀{n:Nat} {d:D} {v:V},Dt K ct F d v→Al K ct F G n d v
 | 0,_,_,h=>h
 | _+1,_,_,h=>.inl h
theorem Dt.scal {v:V} (h:Dt K ct F d v) (hs:d.sc=true):Dt K ct F' d v:=by
 cases h with
 | non=>exact .non
 | bl b=>exact .bl b
 | int i=>exact .int i
 | str x=>exact .str x
 | lst _ _=>cases hs
 | tup _ _=>cases hs
 | dK _ _ _=>cases hs
 | dT _ _ _=>cases hs
 | obj _ _ _=>cases hs
 | exc0 _=>cases hs
 | exc _ _ _ _=>cases hs
 | kt _ _=>cases hs
theorem Al.scal {v:V} (h:Al K ct F G n d v) (hs:d.sc=true):Dt K ct F' d v:=by
 cases n with
 | zero=>exact Dt.scal h hs
 | succ n =>
  rcases h with h | h
  ·exact h.scal hs
  ·cases h <;> cases hs
theorem Al.int {i:Int} {v:V} (h:Al K ct F G n (.int i) v):v=.int i:=by have q:=Al.scal (F':=F) h rfl;cases q; rfl
theorem Al.bl {b:Bool} {v:V} (h:Al K ct F G n (.bl b) v):v=.bl b:=by have q:=Al.scal (F':=F) h rfl;cases q; rfl
theorem Al.str {v:V} (h:Al K ct F G n (.str x) v):v=.str x:=by have q:=Al.scal (F':=F) h rfl;cases q; rfl
theorem Al.non {v:V} (h:Al K ct F G n .non v):v=.non:=by have q:=Al.scal (F':=F) h rfl;cases q; rfl
theorem Al.lst {v:V} (h:Al K ct F G n (.lst ds) v) (s:Same F G):∃a vs,v=.ref a∧SqL K G a vs∧Pr (Al K ct F G (n-1)) ds vs:=by
 cases n with
 | zero =>
  have h:Dt K ct F (.lst ds) v:=h;cases h with
  | lst q t=>exact ⟨_,_,rfl,s.seq q,t.pr⟩
 | succ n =>
  rcases h with h | h
  ·cases h with
   | lst q t=>exact ⟨_,_,rfl,s.seq q,t.pr.mono fun _ _=>Al.of⟩
  ·cases h with
   | lst q t=>exact ⟨_,_,rfl,SqL.of q,t⟩
theorem Al.tup {v:V} (h:Al K ct F G n (.tup ds) v) (s:Same F G):∃a vs,v=.ref a∧G a=some (.tup vs)∧Pr (Al K ct F G (n-1)) ds vs:=by
 cases n with
 | zero =>
  have h:Dt K ct F (.tup ds) v:=h;cases h with
  | tup q t=>exact ⟨_,_,rfl,s _ _ q,t.pr⟩
 | succ n =>
  rcases h with h | h
  ·cases h with
   | tup q t=>exact ⟨_,_,rfl,s _ _ q,t.pr.mono fun _ _=>Al.of⟩
  ·cases h with
   | tup q t=>exact ⟨_,_,rfl,s _ _ q,t⟩
theorem Al.dK {ks:List Key} {v:V} (h:Al K ct F G n (.dK ks ds) v) (s:Same F G):∃a vs,v=.ref a∧G a=some (.dK (ks.zip vs))∧ks.length=vs.length∧Pr (Al K ct F G (n-1)) ds vs:=by
 cases n with
 | zero =>
  have h:Dt K ct F (.dK ks ds) v:=h;cases h with
  | dK q l t=>exact ⟨_,_,rfl,s _ _ q,l,t.pr⟩
 | succ n =>
  rcases h with h | h
  ·cases h with
   | dK q l t=>exact ⟨_,_,rfl,s _ _ q,l,t.pr.mono fun _ _=>Al.of⟩
  ·cases h with
   | dK q l t=>exact ⟨_,_,rfl,q,l,t⟩
theorem Al.dT {v:V} (h:Al K ct F G n (.dT ks ds) v) (s:Same F G):∃a vs,v=.ref a∧Rd G a (.dT (ks.zip vs))∧ks.length=vs.length∧Pr (Al K ct F G (n-1)) ds vs:=by
 cases n with
 | zero =>
  have h:Dt K ct F (.dT ks ds) v:=h;cases h with
  | dT q l t=>exact ⟨_,_,rfl,s.rd q,l,t.pr⟩
 | succ n =>
  rcases h with h | h
  ·cases h with
   | dT q l t=>exact ⟨_,_,rfl,s.rd q,l,t.pr.mono fun _ _=>Al.of⟩
  ·cases h with
   | dT q l t=>exact ⟨_,_,rfl,q,l,t⟩
theorem Al.obj {c:Nat} {ns:List Str} {v:V} (h:Al K ct F G n (.obj c ns ds) v) (s:Same F G):∃a dx vs,v=.ref a∧G a=some (.ins (ct c) dx (ns.zip vs))∧ns.length=vs.length∧Pr (Al K ct F G (n-1)) ds vs:=by
 cases n with
 | zero =>
  have h:Dt K ct F (.obj c ns ds) v:=h;cases h with
  | obj q l t=>exact ⟨_,_,_,rfl,s _ _ q,l,t.pr⟩
 | succ n =>
  rcases h with h | h
  ·cases h with
   | obj q l t=>exact ⟨_,_,_,rfl,s _ _ q,l,t.pr.mono fun _ _=>Al.of⟩
  ·cases h with
   | obj q l t=>exact ⟨_,_,_,rfl,q,l,t⟩
theorem Al.kt {v:V} (h:Al K ct F G n (.kt ds) v):∃a vs,v=.ref a∧KTup K a vs∧Pr (Dt K ct F) ds vs:=by
 have h:Dt K ct F (.kt ds) v:=by
  cases n with
  | zero=>exact h
  | succ n =>
   rcases h with h | h
   ·exact h
   ·cases h
 cases h with
 | kt q t=>exact ⟨_,_,rfl,q,t.pr⟩
theorem OwL.mono {R R':D→V→List Addr→Prop} (h:OwL R ds vs fp):(∀d v f,(∀a∈f,a∈fp)→R d v f→R' d v f)→OwL R' ds vs fp:=by
 induction h with
 | nil=>exact fun _=>.nil
 | cons h t ih=>exact fun q=>.cons (q _ _ _ (fun a z=>List.mem_append_left _ z) h) (ih fun d v f i r=>q d v f (fun a z=>List.mem_append_right _ (i a z)) r)
theorem OwL.pr {R:D→V→List Addr→Prop} {R':D→V→Prop} (h:OwL R ds vs fp):(∀d v f,(∀a∈f,a∈fp)→R d v f→R' d v)→Pr R' ds vs:=by
 induction h with
 | nil=>exact fun _=>.nil
 | cons h t ih=>exact fun q=>.cons (q _ _ _ (fun a z=>List.mem_append_left _ z) h) (ih fun d v f i r=>q d v f (fun a z=>List.mem_append_right _ (i a z)) r)
theorem OwL.ofPr {R:D→V→List Addr→Prop} (h:Pr (fun d v=>R d v []) ds vs):OwL R ds vs []:=by
 induction h with
 | nil=>exact .nil
 | cons h t ih=>exact OwL.cons (f:=[]) (g:=[]) h ih
theorem OwL.append {R:D→V→List Addr→Prop} {es:List D} {us:List V} {f g:List Addr} (h:OwL R ds vs f) (s:OwL R es us g):OwL R (ds++es) (vs++us) (f++g):=by
 induction h with
 | nil=>exact s
 | cons h t ih=>rw [List.append_assoc]; exact .cons h ih
theorem OwL.length {R:D→V→List Addr→Prop} (h:OwL R ds vs fp):ds.length=vs.length:=by
 induction h with
 | nil=>rfl
 | cons _ t ih=>simp [ih]
theorem Ow.frame (sF:Same F F'):∀{d:D} {v:V} {fp:List Addr},Ow K ct F H n d v fp→(∀a∈fp,H' a=H a∧F' a=none)→Ow K ct F' H' n d v fp:=by
 induction n with
 | zero=>exact fun h _=>⟨h.1.mono sF,h.2⟩
 | succ n ih =>
  intro d v fp h k;rcases h with h | h
  ·exact .inl ⟨h.1,h.2.1.mono sF,h.2.2⟩
  ·cases h with
   | lst hn h p=>exact .inr (.lst (k _ List.mem_cons_self).2 ((k _ List.mem_cons_self).1.trans h) (p.mono fun _ _ _ i q=>ih q fun a z=>k a (List.mem_cons_of_mem _ (i a z))))
   | tup h p=>exact .inr (.tup (sF _ _ h) (p.mono fun _ _ _ i q=>ih q fun a z=>k a (i a z)))
   | dK hn h l p=>exact .inr (.dK (k _ List.mem_cons_self).2 ((k _ List.mem_cons_self).1.trans h) l (p.mono fun _ _ _ i q=>ih q fun a z=>k a (List.mem_cons_of_mem _ (i a z))))
   | dT hn h l p=>exact .inr (.dT (k _ List.mem_cons_self).2 ((k _ List.mem_cons_self).1.trans h) l (p.mono fun _ _ _ i q=>ih q fun a z=>k a (List.mem_cons_of_mem _ (i a z))))
   | obj hn h l p=>exact .inr (.obj (k _ List.mem_cons_self).2 ((k _ List.mem_cons_self).1.trans h) l (p.mono fun _ _ _ i q=>ih q fun a z=>k a (List.mem_cons_of_mem _ (i a z))))
theorem OwL.cells0 {R:D→V→List Addr→Prop} (k:∀d v f,R d v f→∀a∈f,F a=none∧∃o,H a=some o∧NTup o) (h:OwL R ds vs fp):∀a∈fp,F a=none∧∃o,H a=some o∧NTup o:=by
 induction h with
 | nil=>exact fun a z=>by cases z
 | cons h t ih=>exact fun a z=>(List.mem_append.mp z).elim (fun z=>k _ _ _ h a z) (ih a)
theorem Ow.cells:∀{d:D} {v:V} {fp:List Addr},Ow K ct F H n d v fp→∀a∈fp,F a=none∧∃o,H a=some o∧NTup o:=by
 induction n with
 | zero=>exact fun h a z=>by rw [h.2] at z; cases z
 | succ n ih =>
  intro d v fp h a z;rcases h with h | h
  ·rw [h.2.2] at z; cases z
  ·cases h with
   | lst hn h p=>exact (List.mem_cons.mp z).elim (fun e=>by rw [e]; exact ⟨hn,_,h,nofun⟩) (OwL.cells0 (fun d v f q=>ih q) p a)
   | tup h p=>exact OwL.cells0 (fun d v f q=>ih q) p a z
   | dK hn h l p=>exact (List.mem_cons.mp z).elim (fun e=>by rw [e]; exact ⟨hn,_,h,nofun⟩) (OwL.cells0 (fun d v f q=>ih q) p a)
   | dT hn h l p=>exact (List.mem_cons.mp z).elim (fun e=>by rw [e]; exact ⟨hn,_,h,nofun⟩) (OwL.cells0 (fun d v f q=>ih q) p a)
   | obj hn h l p=>exact (List.mem_cons.mp z).elim (fun e=>by rw [e]; exact ⟨hn,_,h,nofun⟩) (OwL.cells0 (fun d v f q=>ih q) p a)
theorem Ow.ext {v:V} (h:Ow K ct F H n d v fp) (e:Ext F H F' H'):Ow K ct F' H' n d v fp :=
 h.frame e.ff fun a z=>by obtain ⟨hn,o,ho,nt⟩:=h.cells a z;exact ⟨(e.hh _ _ ho).trans ho.symm,e.nf a o ho nt hn⟩
theorem Ow.al (s:Same F H):∀{d:D} {v:V} {fp:List Addr},Ow K ct F H n d v fp→Al K ct F H n d v:=by
 induction n with
 | zero=>exact fun h=>h.1
 | succ n ih =>
  intro d v fp h;rcases h with h | h
  ·exact .inl h.2.1
  ·cases h with
   | lst hn h p=>exact .inr (.lst h (p.pr fun _ _ _ _ q=>ih q))
   | tup h p=>exact .inr (.tup h (p.pr fun _ _ _ _ q=>ih q))
   | dK hn h l p=>exact .inr (.dK h l (p.pr fun _ _ _ _ q=>ih q))
   | dT hn h l p=>exact .inr (.dT (.inl h) l (p.pr fun _ _ _ _ q=>ih q))
   | obj hn h l p=>exact .inr (.obj h l (p.pr fun _ _ _ _ q=>ih q))
theorem Ow.dt (sF:Same F F'):∀{d:D} {v:V} {fp:List Addr},Ow K ct F H n d v fp→(∀a∈fp,F' a=H a)→Dt K ct F' d v:=by
 induction n with
 | zero=>exact fun h _=>h.1.mono sF
 | succ n ih =>
  intro d v fp h k;rcases h with h | h
  ·exact h.2.1.mono sF
  ·cases h with
   | lst hn h p=>exact .lst (SqL.of ((k _ List.mem_cons_self).trans h)) (.of (p.pr fun _ _ _ i q=>ih q fun a z=>k a (List.mem_cons_of_mem _ (i a z))))
   | tup h p=>exact .tup (sF _ _ h) (.of (p.pr fun _ _ _ i q=>ih q fun a z=>k a (i a z)))
   | dK hn h l p=>exact .dK ((k _ List.mem_cons_self).trans h) l (.of (p.pr fun _ _ _ i q=>ih q fun a z=>k a (List.mem_cons_of_mem _ (i a z))))
   | dT hn h l p=>exact .dT (.inl ((k _ List.mem_cons_self).trans h)) l (.of (p.pr fun _ _ _ i q=>ih q fun a z=>k a (List.mem_cons_of_mem _ (i a z))))
   | obj hn h l p=>exact .obj ((k _ List.mem_cons_self).trans h) l (.of (p.pr fun _ _ _ i q=>ih q fun a z=>k a (List.mem_cons_of_mem _ (i a z))))
def withC (F H:Hp) (fp:List Addr):Hp:=fun a=>if a∈fp then H a else F a
theorem withC_ext (s:Same F H) (hf:∀a∈fp,F a=none):Same F (withC F H fp)∧Same (withC F H fp) H∧∀a∈fp,withC F H fp a=H a:=by
 refine ⟨fun a o h=>?_,fun a o h=>?_,fun a z=>if_pos z⟩
 ·have:¬a∈fp:=fun z=>by rw [hf a z] at h; cases h
  unfold withC; rw [if_neg this]; exact h
 ·unfold withC at h;by_cases z:a∈fp
  ·rw [if_pos z] at h; exact h
  ·rw [if_neg z] at h; exact s _ _ h
theorem Ow.freeze {v:V} {H0:Hp} (h:Ow K ct F H n d v fp) (e:Ext F0 H0 F H) (hf:∀a∈fp,H0 a=none):∃F',Ext F0 H0 F' H∧Dt K ct F' d v:=by
 obtain ⟨w1,w2,w3⟩:=withC_ext (fp:=fp) e.fh (fun a z=>(h.cells a z).1);refine ⟨withC F H fp,⟨e.ff.trans w1,e.hh,w2,fun a o ho nt hn=>?_⟩,h.dt w1 w3⟩;have:¬a∈fp:=fun z=>by rw [hf a z] at ho; cases ho
 unfold withC; rw [if_neg this]; exact e.nf a o ho nt hn
theorem Ow.zero {v:V} (h:Dt K ct F d v):Ow K ct F H 0 d v []:=⟨h,rfl⟩
theorem Ow.scal {v:V} (h:Dt K ct F d v) (hs:d.sc=true):Ow K ct F H n d v []:=by
 cases n with
 | zero=>exact ⟨h,rfl⟩
 | succ n=>exact .inl ⟨hs,h,rfl⟩
abbrev Env:=List (Option D)
inductive Mo where
 | al (n:Nat) | ow (n:Nat) | px (v:V) | so (x:Addr)
def Mo.lv:Mo→Nat
 | .al n=>n
 | .ow n=>n
 | .px _=>1
 | .so _=>1
section
variable (K:PySem.W.Frag) (ct:Nat→Addr)
inductive SL (F B H:Hp):List Mo→Env→St→List Addr→Prop
 | nil:SL F B H [] [] [] []
 | no {m:Mo} {o:Option V} {ms:List Mo} {ρ:Env} {σ:St} {fp:List Addr}:SL F B H ms ρ σ fp→SL F B H (m::ms) (none::ρ) (o::σ) fp
 | al {n:Nat} {d:D} {v:V} {ms:List Mo} {ρ:Env} {σ:St} {fp:List Addr}:Al K ct F B n d v→SL F B H ms ρ σ fp→SL F B H (.al n::ms) (some d::ρ) (some v::σ) fp
 | px {d:D} {v:V} {ms:List Mo} {ρ:Env} {σ:St} {fp:List Addr}:Al K ct F B 1 d v→SL F B H ms ρ σ fp→SL F B H (.px v::ms) (some d::ρ) (some v::σ) fp
 | so {d:D} {x:Addr} {ms:List Mo} {ρ:Env} {σ:St} {fp:List Addr}:Ow K ct F H 1 d (.ref x) [x]→SL F B H ms ρ σ fp→SL F B H (.so x::ms) (some d::ρ) (some (.ref x)::σ) (x::fp)
 | ow {n:Nat} {d:D} {v:V} {ms:List Mo} {ρ:Env} {σ:St} {f fp:List Addr}:Ow K ct F H n d v f→SL F B H ms ρ σ fp→SL F B H (.ow n::ms) (some d::ρ) (some v::σ) (f++fp)
structure RS (F0 B:Hp) (ms:List Mo) (F H:Hp) (ρ:Env) (σ:St):Prop where
 f0:Same F0 F
 bh:Same B H
 fh:Same F H
 nf:∀a o,B a=some o→NTup o→F0 a=none→F a=none
 sl:∃fp,SL K ct F B H ms ρ σ fp∧fp.Nodup∧∀a∈fp,B a=none
end
variable {k:Nat} {ms:List Mo} {ρ:Env} {σ:St}
theorem SL.cells (h:SL K ct F B H ms ρ σ fp):∀a∈fp,F a=none∧∃o,H a=some o∧NTup o:=by
 induction h with
 | nil=>intro a z; cases z
 | no t ih=>exact ih
 | al _ t ih=>exact ih
 | px _ t ih=>exact ih
 | so h t ih=>exact fun a z=>(List.mem_cons.mp z).elim (fun z=>h.cells a (by rw [z]; exact List.mem_cons_self)) (ih a)
 | ow h t ih=>exact fun a z=>(List.mem_append.mp z).elim (h.cells a) (ih a)
theorem SL.frame (sF:Same F F') (h:SL K ct F B H ms ρ σ fp):(∀a∈fp,H' a=H a∧F' a=none)→SL K ct F' B H' ms ρ σ fp:=by
 induction h with
 | nil=>exact fun _=>.nil
 | no t ih=>exact fun k=>.no (ih k)
 | al h t ih=>exact fun k=>.al (h.mono sF (.refl _)) (ih k)
 | px h t ih=>exact fun k=>.px (h.mono sF (.refl _)) (ih k)
 | so h t ih=>exact fun k=>.so (h.frame sF fun a z=>k a (by rw [List.mem_singleton] at z; rw [z]; exact List.mem_cons_self)) (ih fun a z=>k a (List.mem_cons_of_mem _ z))
 | ow h t ih=>exact fun k=>.ow (h.frame sF fun a z=>k a (List.mem_append_left _ z)) (ih fun a z=>k a (List.mem_append_right _ z))
theorem RS.ext (r:RS K ct F0 B ms F H ρ σ) (e:Ext F H F' H'):RS K ct F0 B ms F' H' ρ σ:=by obtain ⟨fp,s,nd,hb⟩:=r.sl;refine ⟨r.f0.trans e.ff,r.bh.trans e.hh,e.fh,fun a o h t n=>e.nf a o (r.bh _ _ h) t (r.nf a o h t n),fp,s.frame e.ff fun a z=>?_,nd,hb⟩;obtain ⟨hn,o,ho,nt⟩:=s.cells a z;exact ⟨(e.hh _ _ ho).trans ho.symm,e.nf a o ho nt hn⟩
theorem SL.get {m:Mo} (h:SL K ct F B H ms ρ σ fp) (s:Same F H) (s':Same B H):ms[i]?=some m→ρ[i]?=some (some d)→∃v,σ[i]?=some (some v)∧Al K ct F H m.lv d v:=by
 induction h generalizing i with
 | nil=>intro e; simp at e
 | no t ih =>
  intro e e';cases i with
  | zero=>simp at e'
  | succ i=>simpa using ih (by simpa using e) (by simpa using e')
 | al h t ih =>
  intro e e';cases i with
  | zero =>simp at e e'; subst e; subst e';exact ⟨_,rfl,h.mono (.refl _) s'⟩
  | succ i=>simpa using ih (by simpa using e) (by simpa using e')
 | px h t ih =>
  intro e e';cases i with
  | zero =>simp at e e'; subst e; subst e';exact ⟨_,rfl,h.mono (.refl _) s'⟩
  | succ i=>simpa using ih (by simpa using e) (by simpa using e')
 | so h t ih =>
  intro e e';cases i with
  | zero =>simp at e e'; subst e; subst e';exact ⟨_,rfl,h.al s⟩
  | succ i=>simpa using ih (by simpa using e) (by simpa using e')
 | ow h t ih =>
  intro e e';cases i with
  | zero =>simp at e e'; subst e; subst e';exact ⟨_,rfl,h.al s⟩
  | succ i=>simpa using ih (by simpa using e) (by simpa using e')
theorem RS.get (r:RS K ct F0 B ms F H ρ σ) {m:Mo} (hm:ms[i]?=some m) (e:ρ[i]?=some (some d)):∃v,σ[i]?=some (some v)∧Al K ct F H m.lv d v:=by obtain ⟨fp,s,_,_⟩:=r.sl;exact s.get r.fh r.bh hm e
theorem SL.put (h0:SL K ct F B H ms ρ σ fp):ms[i]?=some (.ow k) →
  ∃f1 fr:List Addr,(∀a∈f1,a∈fp)∧(∀a∈fr,a∈fp)∧(fp.Nodup→f1.Nodup∧fr.Nodup∧∀a∈f1,a∉fr)∧(∀d,ρ[i]?=some (some d)→∃v,σ[i]?=some (some v)∧Ow K ct F H k d v f1) ∧
   ∀(F' H':Hp) (d':D) (v':V) (f':List Addr),Same F F'→(∀a∈fr,H' a=H a∧F' a=none)→Ow K ct F' H' k d' v' f' →
    ∃fp',SL K ct F' B H' ms (ρ.set i (some d')) (σ.set i (some v')) fp'∧(∀a∈fp',a∈f'∨a∈fr)∧(f'.Nodup→fr.Nodup→(∀a∈f',a∉fr)→fp'.Nodup):=by
 induction h0 generalizing i with
 | nil =>intro e;simp at e
 | @no m0 o0 ms ρ σ fp t ih =>
  intro e;cases i with
  | zero =>simp at e; subst e;refine ⟨[],fp,fun a z=>(by cases z),fun a z=>z,fun n=>⟨List.nodup_nil,n,fun a z=>(by cases z)⟩,fun d q=>(by simp at q),fun F' H' d' v' f' s kf h=>⟨f'++fp,.ow h (t.frame s kf),fun a z=>List.mem_append.mp z,fun n1 n2 dj=>?_⟩⟩;exact List.nodup_append.mpr ⟨n1,n2,fun a z b zb e=>dj a z (e ▸ zb)⟩
  | succ i =>obtain ⟨f1,fr,h1,h2,h3,h4,h5⟩:=ih (i:=i) (by simpa using e);refine ⟨f1,fr,h1,h2,h3,fun d q=>by simpa using h4 d (by simpa using q),fun F' H' d' v' f' s kf h=>?_⟩;obtain ⟨fp',q1,q2,q3⟩:=h5 F' H' d' v' f' s kf h;exact ⟨fp',.no q1,q2,q3⟩
 | @al n0 d0 v0 ms ρ σ fp h t ih =>
  intro e;cases i with
  | zero =>simp at e
  | succ i =>obtain ⟨f1,fr,h1,h2,h3,h4,h5⟩:=ih (i:=i) (by simpa using e);refine ⟨f1,fr,h1,h2,h3,fun d q=>by simpa using h4 d (by simpa using q),fun F' H' d' v' f' s kf h'=>?_⟩;obtain ⟨fp',q1,q2,q3⟩:=h5 F' H' d' v' f' s kf h';exact ⟨fp',.al (h.mono s (.refl _)) q1,q2,q3⟩
 | @px d0 v0 ms ρ σ fp h t ih =>
  intro e;cases i with
  | zero =>simp at e
  | succ i =>obtain ⟨f1,fr,h1,h2,h3,h4,h5⟩:=ih (i:=i) (by simpa using e);refine ⟨f1,fr,h1,h2,h3,fun d q=>by simpa using h4 d (by simpa using q),fun F' H' d' v' f' s kf h'=>?_⟩;obtain ⟨fp',q1,q2,q3⟩:=h5 F' H' d' v' f' s kf h';exact ⟨fp',.px (h.mono s (.refl _)) q1,q2,q3⟩
 | @so d0 x ms ρ σ fp h t ih =>
  intro e;cases i with
  | zero =>simp at e
  | succ i =>
   obtain ⟨f1,fr,h1,h2,h3,h4,h5⟩:=ih (i:=i) (by simpa using e);refine ⟨f1,x::fr,fun a z=>List.mem_cons_of_mem _ (h1 a z),fun a z=>(List.mem_cons.mp z).elim (fun z=>by rw [z]; exact List.mem_cons_self) fun z=>List.mem_cons_of_mem _ (h2 a z),fun n=>?_,fun d q=>by simpa using h4 d (by simpa using q),fun F' H' d' v' f' s kf h'=>?_⟩
   ·obtain ⟨n1,n2⟩:=List.nodup_cons.mp n;obtain ⟨m1,m2,m3⟩:=h3 n2;refine ⟨m1,List.nodup_cons.mpr ⟨fun z=>n1 (h2 x z),m2⟩,fun a z zb=>?_⟩;rcases List.mem_cons.mp zb with zb | zb
    ·rw [zb] at z; exact n1 (h1 x z)
    ·exact m3 a z zb
   ·obtain ⟨fp',q1,q2,q3⟩:=h5 F' H' d' v' f' s (fun a z=>kf a (List.mem_cons_of_mem _ z)) h';refine ⟨x::fp',.so (h.frame s fun a z=>kf a (by rw [List.mem_singleton] at z; rw [z]; exact List.mem_cons_self)) q1,fun a z=>?_,fun n1 n2 dj=>?_⟩
    ·rcases List.mem_cons.mp z with z | z
     ·exact .inr (by rw [z]; exact List.mem_cons_self)
     ·exact (q2 a z).imp id fun z=>List.mem_cons_of_mem _ z
    ·obtain ⟨m1,m2⟩:=List.nodup_cons.mp n2;refine List.nodup_cons.mpr ⟨fun z=>?_,q3 n1 m2 fun a z zb=>dj a z (List.mem_cons_of_mem _ zb)⟩;rcases q2 x z with z | z
     ·exact dj x z List.mem_cons_self
     ·exact m1 z
 | @ow n0 d0 v0 ms ρ σ f fp h t ih =>
  intro e;cases i with
  | zero =>
   simp at e; subst e;refine ⟨f,fp,fun a z=>List.mem_append_left _ z,fun a z=>List.mem_append_right _ z,fun n=>?_,fun d q=>?_,fun F' H' d' v' f' s kf h=>⟨f'++fp,.ow h (t.frame s kf),fun a z=>List.mem_append.mp z,fun n1 n2 dj=>?_⟩⟩
   ·obtain ⟨n1,n2,n3⟩:=List.nodup_append.mp n;exact ⟨n1,n2,fun a z zb=>n3 a z a zb rfl⟩
   ·simp at q; subst q; exact ⟨_,rfl,h⟩
   ·exact List.nodup_append.mpr ⟨n1,n2,fun a z b zb e=>dj a z (e ▸ zb)⟩
  | succ i =>
   obtain ⟨f1,fr,h1,h2,h3,h4,h5⟩:=ih (i:=i) (by simpa using e);refine ⟨f1,f++fr,fun a z=>List.mem_append_right _ (h1 a z),fun a z=>(List.mem_append.mp z).elim (fun z=>List.mem_append_left _ z) fun z=>List.mem_append_right _ (h2 a z),fun n=>?_,fun d q=>by simpa using h4 d (by simpa using q),fun F' H' d' v' f' s kf h'=>?_⟩
   ·obtain ⟨n1,n2,n3⟩:=List.nodup_append.mp n;obtain ⟨m1,m2,m3⟩:=h3 n2;refine ⟨m1,List.nodup_append.mpr ⟨n1,m2,fun a z b zb=>n3 a z b (h2 b zb)⟩,fun a z zb=>?_⟩;rcases List.mem_append.mp zb with zb | zb
    ·exact n3 a zb a (h1 a z) rfl
    ·exact m3 a z zb
   ·obtain ⟨fp',q1,q2,q3⟩:=h5 F' H' d' v' f' s (fun a z=>kf a (List.mem_append_right _ z)) h';refine ⟨f++fp',.ow (h.frame s fun a z=>kf a (List.mem_append_left _ z)) q1,fun a z=>?_,fun n1 n2 dj=>?_⟩
    ·rcases List.mem_append.mp z with z | z
     ·exact .inr (List.mem_append_left _ z)
     ·exact (q2 a z).imp id fun z=>List.mem_append_right _ z
    ·obtain ⟨m1,m2,m3⟩:=List.nodup_append.mp n2;refine List.nodup_append.mpr ⟨m1,q3 n1 m2 fun a z zb=>dj a z (List.mem_append_right _ zb),fun a z b zb e=>?_⟩;subst e;rcases q2 a zb with zb | zb
     ·exact dj a zb (List.mem_append_left _ z)
     ·exact m3 a z a zb rfl
abbrev EF:=Env→Option D
inductive AlL (K:PySem.W.Frag) (ct:Nat→Addr) (F G:Hp):List Nat→List D→List V→Prop
 | nil:AlL K ct F G [] [] []
 | cons {n:Nat} {d:D} {v:V} {ns:List Nat} {ds:List D} {vs:List V}:Al K ct F G n d v→AlL K ct F G ns ds vs→AlL K ct F G (n::ns) (d::ds) (v::vs)
variable {ns:List Nat}
theorem AlL.mono (sF:Same F F') (sG:Same G G') (h:AlL K ct F G ns ds vs):AlL K ct F' G' ns ds vs:=by
 induction h with
 | nil=>exact .nil
 | cons h t ih=>exact .cons (h.mono sF sG) ih
theorem AlL.length (h:AlL K ct F G ns ds vs):vs.length=ns.length:=by
 induction h with
 | nil=>rfl
 | cons h t ih=>rw [List.length_cons,List.length_cons,ih]
theorem AlL.length' (h:AlL K ct F G ns ds vs):ds.length=vs.length:=by
 induction h with
 | nil=>rfl
 | cons h t ih=>rw [List.length_cons,List.length_cons,ih]
theorem AlL.append {ns':List Nat} {ds':List D} {vs':List V} (q:AlL K ct F G ns' ds' vs') (h:AlL K ct F G ns ds vs):AlL K ct F G (ns++ns') (ds++ds') (vs++vs'):=by
 induction h with
 | nil=>exact q
 | cons h t ih=>exact .cons h ih
section
variable (X:Cx) (ct:Nat→Addr) (ms:List Mo)
def XE (n:Nat) (e:Expr) (f:EF):Prop:=∃t,PE X e t∧∀(F0 B F H:Hp) (ρ:Env) (σ:St) (d:D) (Q:VK),RS X.K ct F0 B ms F H ρ σ→f ρ=some d →
 (∀v F' H',Ext F H F' H'→Al X.K ct F' H' n d v→Q v H')→t σ H Q
def XO (k:Nat) (e:Expr) (f:EF):Prop:=∃t,PE X e t∧∀(F0 B F H:Hp) (ρ:Env) (σ:St) (d:D) (Q:VK),RS X.K ct F0 B ms F H ρ σ→f ρ=some d →
 (∀v F' H' fp,Ext F H F' H'→Ow X.K ct F' H' k d v fp→fp.Nodup→(∀a∈fp,H a=none)→Q v H')→t σ H Q
def XT (e:Expr) (f:Env→Option Bool):Prop:=∃t,PT X e t∧∀(F0 B F H:Hp) (ρ:Env) (σ:St) (b:Bool) (Q:Bool→Hp→Prop),RS X.K ct F0 B ms F H ρ σ→f ρ=some b →
 (∀F' H',Ext F H F' H'→Q b H')→t σ H Q
def XW (e:Expr) (f:Env→Option Bool):Prop:=∃t,PW X e t∧∀(F0 B F H:Hp) (ρ:Env) (σ:St) (b:Bool) (Q:Bool→Hp→Prop),RS X.K ct F0 B ms F H ρ σ→f ρ=some b →
 (∀F' H',Ext F H F' H'→Q b H')→t σ H Q
def XA (es:List Expr) (ns:List Nat) (f:Env→Option (List D)):Prop:=∃t,PA X es t∧(∀ρ ds,f ρ=some ds→ds.length=es.length)∧∀(F0 B F H:Hp) (ρ:Env) (σ:St) (ds:List D) (Q:List V→Hp→Prop),RS X.K ct F0 B ms F H ρ σ→f ρ=some ds →
 (∀vs F' H',Ext F H F' H'→AlL X.K ct F' H' ns ds vs→Q vs H')→t σ H Q
end
def e2 (op:D→D→Option D) (f g:EF):EF:=fun ρ=>(f ρ).bind fun x=>(g ρ).bind fun y=>op x y
def e1 (op:D→Option D) (f:EF):EF:=fun ρ=>(f ρ).bind op
def eN (op:List D→Option D) (f:Env→Option (List D)):EF:=fun ρ=>(f ρ).bind op
def eC (d:D):EF:=fun _=>some d
def eV (i:Nat):EF:=fun ρ=>(ρ[i]?).join
def aNil:Env→Option (List D):=fun _=>some []
def aCons (f:EF) (g:Env→Option (List D)):Env→Option (List D):=fun ρ=>(f ρ).bind fun x=>(g ρ).bind fun xs=>some (x::xs)
variable {α β:Type}
theorem bind2 {γ:Type} {o:Option α} {p:Option β} {op:α→β→Option γ} {r:γ} (h:(o.bind fun x=>p.bind fun y=>op x y)=some r):∃x y,o=some x∧p=some y∧op x y=some r:=by
 cases o with
 | none=>cases h
 | some x =>
  cases p with
  | none=>cases h
  | some y=>exact ⟨x,y,rfl,rfl,h⟩
theorem bind1 {o:Option α} {op:α→Option β} {r:β} (h:o.bind op=some r):∃x,o=some x∧op x=some r:=by
 cases o with
 | none=>cases h
 | some x=>exact ⟨x,rfl,h⟩
theorem join_some {o:Option (Option α)} {x:α} (h:o.join=some x):o=some (some x):=by
 cases o with
 | none=>cases h
 | some y=>exact congrArg some h
def Op2 (K:PySem.W.Frag) (ct:Nat→Addr) (n m k:Nat) (r:R2) (op:D→D→Option D):Prop :=
 ∀(F H:Hp) (x y:V) (d1 d2 d:D) (Q:VK),Same F H→Al K ct F H n d1 x→Al K ct F H m d2 y→op d1 d2=some d→(∀v F' H',Ext F H F' H'→Al K ct F' H' k d v→Q v H')→r x y H Q
def Op2O (K:PySem.W.Frag) (ct:Nat→Addr) (n m k:Nat) (r:R2) (op:D→D→Option D):Prop :=
 ∀(F H:Hp) (x y:V) (d1 d2 d:D) (Q:VK),Same F H→Al K ct F H n d1 x→Al K ct F H m d2 y→op d1 d2=some d →
  (∀v F' H' fp,Ext F H F' H'→Ow K ct F' H' k d v fp→fp.Nodup→(∀a∈fp,H a=none)→Q v H')→r x y H Q
def OpN (K:PySem.W.Frag) (ct:Nat→Addr) (ns:List Nat) (k:Nat) (r:List V→Hp→VK→Prop) (op:List D→Option D):Prop :=
 ∀(F H:Hp) (vs:List V) (ds:List D) (d:D) (Q:VK),Same F H→AlL K ct F H ns ds vs→op ds=some d→(∀v F' H',Ext F H F' H'→Al K ct F' H' k d v→Q v H')→r vs H Q
def OpNO (K:PySem.W.Frag) (ct:Nat→Addr) (ns:List Nat) (k:Nat) (r:List V→Hp→VK→Prop) (op:List D→Option D):Prop :=
 ∀(F H:Hp) (vs:List V) (ds:List D) (d:D) (Q:VK),Same F H→AlL K ct F H ns ds vs→op ds=some d →
  (∀v F' H' fp,Ext F H F' H'→Ow K ct F' H' k d v fp→fp.Nodup→(∀a∈fp,H a=none)→Q v H')→r vs H Q
variable {X:Cx} {a b c e:Expr} {es:List Expr} {f g h:EF} {fs:Env→Option (List D)} {m:Nat} {op:Operator} {pos:Pos} {r:R2}
theorem XO.sh (he:XO X ct ms k e f):XE X ct ms n e f:=by obtain ⟨t,p,q⟩:=he;refine ⟨t,p,fun F0 B F H ρ σ d Q r e w=>q F0 B F H ρ σ d Q r e fun v F' H' fp x o nd hf=>?_⟩;obtain ⟨F2,x2,h2⟩:=o.freeze x hf;exact w v F2 H' x2 (Al.of h2)
theorem XE.ow (he:XE X ct ms 0 e f):XO X ct ms 0 e f:=by obtain ⟨t,p,q⟩:=he;exact ⟨t,p,fun F0 B F H ρ σ d Q r e w=>q F0 B F H ρ σ d Q r e fun v F' H' x l=>w v F' H' [] x ⟨l,rfl⟩ List.nodup_nil fun a z=>(by cases z)⟩
theorem xe_var (i n:Nat) {m:Mo} (hm:ms[i]?=some m:=by rfl) (hl:m.lv=n:=by rfl) (hN:X.N[i]?=some x:=by rfl) (hv:Vis X.env.scope x:=by first | exact Or.inl rfl | exact Or.inr (Or.inl rfl) | exact Or.inr (Or.inr rfl)) (hd:(x == ("__debug__":Str))=false:=by decide)
  (hcd:(x == ("__classdict__":Str))=false:=by decide):XE X ct ms n (.Name x pos) (eV i):=by
 subst hl;refine ⟨_,pe_var hN hv hd hcd,fun F0 B F H ρ σ d Q r e w=>?_⟩;obtain ⟨v,hv,l⟩:=r.get hm (join_some e);exact ⟨v,hv,w v F H (.refl r.fh) l⟩
theorem xe_int {i:Int} {j}:XE X ct ms n (.Constant (.int i) j pos) (eC (.int i)):=⟨_,pe_int,fun F0 B F H ρ σ d Q r e w=>by cases e; exact w _ F H (.refl r.fh) (Al.of (.int i))⟩
theorem xe_bl {i:Bool} {j}:XE X ct ms n (.Constant (.bool i) j pos) (eC (.bl i)):=⟨_,pe_bl,fun F0 B F H ρ σ d Q r e w=>by cases e; exact w _ F H (.refl r.fh) (Al.of (.bl i))⟩
theorem xe_str {i:Str} {j}:XE X ct ms n (.Constant (.str i) j pos) (eC (.str i)):=⟨_,pe_str,fun F0 B F H ρ σ d Q r e w=>by cases e; exact w _ F H (.refl r.fh) (Al.of (.str i))⟩
theorem xe_non {j}:XE X ct ms n (.Constant .none j pos) (eC .non):=⟨_,pe_non,fun F0 B F H ρ σ d Q r e w=>by cases e; exact w _ F H (.refl r.fh) (Al.of .non)⟩
theorem XE.bin (ha:XE X ct ms n a f) (hb:XE X ct ms m b g):∃ta tb,PE X a ta∧PE X b tb∧∀(F0 B F H:Hp) (ρ:Env) (σ:St) (d1 d2:D) (R:V→V→Hp→Prop),RS X.K ct F0 B ms F H ρ σ→f ρ=some d1→g ρ=some d2 →
  (∀x y F' H',Ext F H F' H'→Al X.K ct F' H' n d1 x→Al X.K ct F' H' m d2 y→R x y H')→ta σ H fun x H1=>tb σ H1 fun y H2=>R x y H2:=by
 obtain ⟨ta,pa,qa⟩:=ha;obtain ⟨tb,pb,qb⟩:=hb;refine ⟨ta,tb,pa,pb,fun F0 B F H ρ σ d1 d2 R r e1 e2 w=>qa F0 B F H ρ σ d1 _ r e1 fun x F1 H1 x1 l1=>?_⟩;exact qb F0 B F1 H1 ρ σ d2 _ (r.ext x1) e2 fun y F2 H2 x2 l2=>w x y F2 H2 (x1.trans x2) (l1.mono x2.ff x2.hh) l2
theorem xe_op {o:D→D→Option D} (ho:OpR X (binaryOp op) r) (hs:Op2 X.K ct n m k r o) (ha:XE X ct ms n a f) (hb:XE X ct ms m b g):XE X ct ms k (.BinOp a op b pos) (e2 o f g):=by obtain ⟨ta,tb,pa,pb,q⟩:=ha.bin hb;refine ⟨_,pe_op ho pa pb,fun F0 B F H ρ σ d Q rs e w=>?_⟩;obtain ⟨d1,d2,h1,h2,h3⟩:=bind2 e;exact q F0 B F H ρ σ d1 d2 _ rs h1 h2 fun x y F' H' x1 l1 l2=>hs F' H' x y d1 d2 d Q x1.fh l1 l2 h3 fun v F2 H2 x2 l=>w v F2 H2 (x1.trans x2) l
theorem xo_op {o:D→D→Option D} (ho:OpR X (binaryOp op) r) (hs:Op2O X.K ct n m k r o) (ha:XE X ct ms n a f) (hb:XE X ct ms m b g):XO X ct ms k (.BinOp a op b pos) (e2 o f g):=by obtain ⟨ta,tb,pa,pb,q⟩:=ha.bin hb;refine ⟨_,pe_op ho pa pb,fun F0 B F H ρ σ d Q rs e w=>?_⟩;obtain ⟨d1,d2,h1,h2,h3⟩:=bind2 e;exact q F0 B F H ρ σ d1 d2 _ rs h1 h2 fun x y F' H' x1 l1 l2=>hs F' H' x y d1 d2 d Q x1.fh l1 l2 h3 fun v F2 H2 fp x2 l nd hf=>w v F2 H2 fp (x1.trans x2) l nd fun z hz=>x1.hh.free (hf z hz)
theorem xe_cmp {op:CmpOp} {o:D→D→Option D} (ho:OpR X (compareOp op) r) (hs:Op2 X.K ct n m k r o) (ha:XE X ct ms n a f) (hb:XE X ct ms m b g) (hm:behindInMarks op b=false):XE X ct ms k (.Compare a [op] [b] pos) (e2 o f g):=by obtain ⟨ta,tb,pa,pb,q⟩:=ha.bin hb;refine ⟨_,pe_cmpR ho pa pb hm,fun F0 B F H ρ σ d Q rs e w=>?_⟩;obtain ⟨d1,d2,h1,h2,h3⟩:=bind2 e;exact q F0 B F H ρ σ d1 d2 _ rs h1 h2 fun x y F' H' x1 l1 l2=>hs F' H' x y d1 d2 d Q x1.fh l1 l2 h3 fun v F2 H2 x2 l=>w v F2 H2 (x1.trans x2) l
theorem xe_ix {o:D→D→Option D} (hr:IxR X r) (hs:Op2 X.K ct n m k r o) (ha:XE X ct ms n a f) (hb:XE X ct ms m b g) (hp:PlainIx b):XE X ct ms k (.Subscript a b pos) (e2 o f g):=by obtain ⟨ta,tb,pa,pb,q⟩:=ha.bin hb;refine ⟨_,pe_ix hr pa pb hp,fun F0 B F H ρ σ d Q rs e w=>?_⟩;obtain ⟨d1,d2,h1,h2,h3⟩:=bind2 e;exact q F0 B F H ρ σ d1 d2 _ rs h1 h2 fun x y F' H' x1 l1 l2=>hs F' H' x y d1 d2 d Q x1.fh l1 l2 h3 fun v F2 H2 x2 l=>w v F2 H2 (x1.trans x2) l
theorem xa_nil:XA X ct ms [] [] aNil:=⟨_,pa_nil,fun ρ ds e=>(by cases e; rfl),fun F0 B F H ρ σ ds Q r e w=>by cases e; exact w [] F H (.refl r.fh) .nil⟩
theorem xa_cons (ha:XE X ct ms n a f) (hr:XA X ct ms es ns fs) (hs:starEach (a::es) X.env=(false,eval a X.env)::starEach es X.env:=by rfl):XA X ct ms (a::es) (n::ns) (aCons f fs):=by obtain ⟨ta,pa,qa⟩:=ha;obtain ⟨tb,pb,lb,qb⟩:=hr;refine ⟨_,pa_cons pa pb hs,fun ρ ds e=>(by obtain ⟨x,xs,h1,h2,h3⟩:=bind2 e; cases h3; rw [List.length_cons,List.length_cons,lb _ _ h2]),fun F0 B F H ρ σ ds Q r e w=>?_⟩;obtain ⟨x,xs,h1,h2,h3⟩:=bind2 e;cases h3;refine qa F0 B F H ρ σ x _ r h1 fun v F1 H1 x1 l1=>?_;exact qb F0 B F1 H1 ρ σ xs _ (r.ext x1) h2 fun vs F2 H2 x2 l2=>w (v::vs) F2 H2 (x1.trans x2) (.cons (l1.mono x2.ff x2.hh) l2)
def XAO (X:Cx) (ct:Nat→Addr) (ms:List Mo) (k:Nat) (es:List Expr) (f:Env→Option (List D)):Prop:=∃t,PA X es t∧(∀ρ ds,f ρ=some ds→ds.length=es.length)∧∀(F0 B F H:Hp) (ρ:Env) (σ:St) (ds:List D) (Q:List V→Hp→Prop),RS X.K ct F0 B ms F H ρ σ→f ρ=some ds →
 (∀vs F' H' fp,Ext F H F' H'→OwL (Ow X.K ct F' H' k) ds vs fp→fp.Nodup→(∀a∈fp,H a=none)→Q vs H')→t σ H Q
theorem xao_nil:XAO X ct ms k [] aNil:=⟨_,pa_nil,fun ρ ds e=>(by cases e; rfl),fun F0 B F H ρ σ ds Q r e w=>by cases e; exact w [] F H [] (.refl r.fh) .nil List.nodup_nil fun a z=>(by cases z)⟩
theorem xao_cons (ha:XO X ct ms k a f) (hr:XAO X ct ms k es fs) (hs:starEach (a::es) X.env=(false,eval a X.env)::starEach es X.env:=by rfl):XAO X ct ms k (a::es) (aCons f fs):=by
 obtain ⟨ta,pa,qa⟩:=ha;obtain ⟨tb,pb,lb,qb⟩:=hr;refine ⟨_,pa_cons pa pb hs,fun ρ ds e=>(by obtain ⟨x,xs,h1,h2,h3⟩:=bind2 e; cases h3; rw [List.length_cons,List.length_cons,lb _ _ h2]),fun F0 B F H ρ σ ds Q r e w=>?_⟩;obtain ⟨x,xs,h1,h2,h3⟩:=bind2 e;cases h3;refine qa F0 B F H ρ σ x _ r h1 fun v F1 H1 f1 x1 l1 n1 a1=>?_;refine qb F0 B F1 H1 ρ σ xs _ (r.ext x1) h2 fun vs F2 H2 f2 x2 l2 n2 a2=>w (v::vs) F2 H2 (f1++f2) (x1.trans x2) (.cons (l1.ext x2) l2) (List.nodup_append.mpr ⟨n1,n2,fun z hz y hy e=>?_⟩) fun z hz=>?_
 ·subst e;obtain ⟨_,o,ho,_⟩:=l1.cells z hz;rw [a2 z hy] at ho;cases ho
 ·rcases List.mem_append.mp hz with hz | hz
  ·exact a1 z hz
  ·exact x1.hh.free (a2 z hz)
def asB:D→Option Bool
 | .bl b=>some b
 | _=>none
theorem asB_some {b:Bool} (h:asB d=some b):d=.bl b:=by cases d <;> simp [asB] at h; subst h; rfl
abbrev BF:=Env→Option Bool
def tb (f:EF):BF:=fun ρ=>(f ρ).bind asB
def bNot (f:BF):BF:=fun ρ=>(f ρ).bind fun b=>some (!b)
def bAnd (f g:BF):BF:=fun ρ=>(f ρ).bind fun b=>if b=true then g ρ else some false
def bOr (f g:BF):BF:=fun ρ=>(f ρ).bind fun b=>if b=true then some true else g ρ
def eB (f:BF):EF:=fun ρ=>(f ρ).bind fun b=>some (.bl b)
def eIf (c:BF) (f g:EF):EF:=fun ρ=>(c ρ).bind fun b=>if b=true then f ρ else g ρ
variable {apos pp:Pos} {c0 kk rk:Nat} {cs nd pm:List Nat} {dds:List D} {dsv:List Value} {dvs:List V} {fa:Addr} {mf:List D→Option D} {o:Expr} {p q:BF} {pl:Sem Bool} {ps:List Str}
section
theorem xt_val (he:XE X ct ms n e f) (hi:∀whole,isTrue e X.env whole=(do let v ← whole; standAt e.pos; holding [v] (truthy v)):=by intro _; rfl):XT X ct ms e (tb f):=by obtain ⟨t,pt,qt⟩:=he;refine ⟨_,pt_val pt hi,fun F0 B F H ρ σ b Q r e w=>?_⟩;obtain ⟨d,h1,h2⟩:=bind1 e;rw [asB_some h2] at h1;exact qt F0 B F H ρ σ _ _ r h1 fun v F' H' x l=>⟨b,l.bl,w F' H' x⟩
theorem xt_cmp {op:CmpOp} {o:D→D→Option D} (ho:OpR X (compareOp op) r) (hs:Op2 X.K ct n m k r o) (ha:XE X ct ms n a f) (hb:XE X ct ms m b g) (hm:behindInMarks op b=false):XT X ct ms (.Compare a [op] [b] pos) (tb (e2 o f g)):=by obtain ⟨ta,tb,pa,pb,q⟩:=ha.bin hb;refine ⟨_,pt_cmpR ho pa pb hm,fun F0 B F H ρ σ b Q rs e w=>?_⟩;obtain ⟨d,h0,h4⟩:=bind1 e;rw [asB_some h4] at h0;obtain ⟨d1,d2,h1,h2,h3⟩:=bind2 h0;exact q F0 B F H ρ σ d1 d2 _ rs h1 h2 fun x y F' H' x1 l1 l2=>hs F' H' x y d1 d2 _ _ x1.fh l1 l2 h3 fun v F2 H2 x2 l=>⟨b,l.bl,w F2 H2 (x1.trans x2)⟩
theorem XW.t (h:XW X ct ms e p):XT X ct ms e p:=by obtain ⟨t,pt,qt⟩:=h;exact ⟨t,pt.pt,qt⟩
theorem xw_and1 (ha:XT X ct ms a p):XW X ct ms (.BoolOp .And [a] pos) p:=by obtain ⟨t,pt,qt⟩:=ha;exact ⟨t,pw_and1 pt,qt⟩
theorem xw_or1 (ha:XT X ct ms a p):XW X ct ms (.BoolOp .Or [a] pos) p:=by obtain ⟨t,pt,qt⟩:=ha;exact ⟨t,pw_or1 pt,qt⟩
theorem xw_and {rest:List Expr} (ha:XT X ct ms a p) (hb:XW X ct ms (.BoolOp .And (b::rest) pos) q):XW X ct ms (.BoolOp .And (a::b::rest) pos) (bAnd p q):=by
 obtain ⟨t,pt,qt⟩:=ha;obtain ⟨u,pu,qu⟩:=hb;refine ⟨_,pw_and pt pu,fun F0 B F H ρ σ r Q rs e w=>?_⟩;obtain ⟨x,h1,h2⟩:=bind1 e;refine qt F0 B F H ρ σ x _ rs h1 fun F1 H1 x1=>?_;cases x with
 | true=>rw [if_pos rfl]; exact qu F0 B F1 H1 ρ σ r _ (rs.ext x1) h2 fun F2 H2 x2=>w F2 H2 (x1.trans x2)
 | false=>cases h2; rw [if_neg Bool.false_ne_true]; exact w F1 H1 x1
theorem xw_or {rest:List Expr} (ha:XT X ct ms a p) (hb:XW X ct ms (.BoolOp .Or (b::rest) pos) q):XW X ct ms (.BoolOp .Or (a::b::rest) pos) (bOr p q):=by
 obtain ⟨t,pt,qt⟩:=ha;obtain ⟨u,pu,qu⟩:=hb;refine ⟨_,pw_or pt pu,fun F0 B F H ρ σ r Q rs e w=>?_⟩;obtain ⟨x,h1,h2⟩:=bind1 e;refine qt F0 B F H ρ σ x _ rs h1 fun F1 H1 x1=>?_;cases x with
 | true=>cases h2; rw [if_pos rfl]; exact w F1 H1 x1
 | false=>rw [if_neg Bool.false_ne_true]; exact qu F0 B F1 H1 ρ σ r _ (rs.ext x1) h2 fun F2 H2 x2=>w F2 H2 (x1.trans x2)
theorem xt_not (ha:XT X ct ms a p):XT X ct ms (.UnaryOp .Not a pos) (bNot p):=by obtain ⟨t,pt,qt⟩:=ha;refine ⟨_,pt_not pt,fun F0 B F H ρ σ r Q rs e w=>?_⟩;obtain ⟨x,h1,h2⟩:=bind1 e;cases h2;exact qt F0 B F H ρ σ x _ rs h1 fun F1 H1 x1=>w F1 H1 x1
theorem xe_not (ha:XE X ct ms n a f):XE X ct ms k (.UnaryOp .Not a pos) (eB (bNot (tb f))):=by obtain ⟨t,pt,qt⟩:=ha;refine ⟨_,pe_not pt,fun F0 B F H ρ σ r Q rs e w=>?_⟩;obtain ⟨x,h1,h2⟩:=bind1 e;obtain ⟨y,h3,h4⟩:=bind1 h1;obtain ⟨z,h5,h6⟩:=bind1 h3;cases h2; cases h4;rw [asB_some h6] at h5;exact qt F0 B F H ρ σ _ _ rs h5 fun v F1 H1 x1 l=>⟨y,l.bl,w _ F1 H1 x1 (Al.of (.bl _))⟩
theorem xe_one {op} (ha:XE X ct ms n a f):XE X ct ms k (.BoolOp op [a] pos) (eB (tb f)):=by obtain ⟨t,pt,qt⟩:=ha;refine ⟨_,pe_one pt,fun F0 B F H ρ σ r Q rs e w=>?_⟩;obtain ⟨y,h3,h4⟩:=bind1 e;obtain ⟨z,h5,h6⟩:=bind1 h3;cases h4;rw [asB_some h6] at h5;exact qt F0 B F H ρ σ _ _ rs h5 fun v F1 H1 x1 l=>w _ F1 H1 x1 (by rw [l.bl]; exact Al.of (.bl _))
theorem xe_and {rest:List Expr} (ha:XE X ct ms n a f) (hb:XE X ct ms k (.BoolOp .And (b::rest) pos) (eB q)):XE X ct ms k (.BoolOp .And (a::b::rest) pos) (eB (bAnd (tb f) q)):=by
 obtain ⟨t,pt,qt⟩:=ha;obtain ⟨u,pu,qu⟩:=hb;refine ⟨_,pe_and pt pu,fun F0 B F H ρ σ r Q rs e w=>?_⟩;obtain ⟨y,h3,h4⟩:=bind1 e;obtain ⟨x,h1,h2⟩:=bind1 h3;obtain ⟨z,h5,h6⟩:=bind1 h1;cases h4;rw [asB_some h6] at h5;refine qt F0 B F H ρ σ _ _ rs h5 fun v F1 H1 x1 l=>⟨x,l.bl,?_⟩;cases x with
 | true=>rw [if_pos rfl]; exact qu F0 B F1 H1 ρ σ _ _ (rs.ext x1) (show (q ρ).bind _=_ by rw [if_pos rfl] at h2; rw [h2]; rfl) fun v F2 H2 x2 l=>w v F2 H2 (x1.trans x2) l
 | false=>rw [if_neg Bool.false_ne_true] at h2 ⊢; cases h2; exact w _ F1 H1 x1 (Al.of (.bl _))
theorem xe_or {rest:List Expr} (ha:XE X ct ms n a f) (hb:XE X ct ms k (.BoolOp .Or (b::rest) pos) (eB q)):XE X ct ms k (.BoolOp .Or (a::b::rest) pos) (eB (bOr (tb f) q)):=by
 obtain ⟨t,pt,qt⟩:=ha;obtain ⟨u,pu,qu⟩:=hb;refine ⟨_,pe_or pt pu,fun F0 B F H ρ σ r Q rs e w=>?_⟩;obtain ⟨y,h3,h4⟩:=bind1 e;obtain ⟨x,h1,h2⟩:=bind1 h3;obtain ⟨z,h5,h6⟩:=bind1 h1;cases h4;rw [asB_some h6] at h5;refine qt F0 B F H ρ σ _ _ rs h5 fun v F1 H1 x1 l=>⟨x,l.bl,?_⟩;cases x with
 | true=>rw [if_pos rfl] at h2 ⊢; cases h2; exact w _ F1 H1 x1 (Al.of (.bl _))
 | false=>rw [if_neg Bool.false_ne_true]; exact qu F0 B F1 H1 ρ σ _ _ (rs.ext x1) (show (q ρ).bind _=_ by rw [if_neg Bool.false_ne_true] at h2; rw [h2]; rfl) fun v F2 H2 x2 l=>w v F2 H2 (x1.trans x2) l
theorem xe_if (hc:XT X ct ms c p) (ha:XE X ct ms k a f) (hb:XE X ct ms k b g):XE X ct ms k (.IfExp c a b pos) (eIf p f g):=by
 obtain ⟨s,ps,qs⟩:=hc;obtain ⟨t,pt,qt⟩:=ha;obtain ⟨u,pu,qu⟩:=hb;refine ⟨_,pe_ifExp ps pt pu,fun F0 B F H ρ σ r Q rs e w=>?_⟩;obtain ⟨x,h1,h2⟩:=bind1 e;refine qs F0 B F H ρ σ x _ rs h1 fun F1 H1 x1=>?_;cases x with
 | true=>rw [if_pos rfl] at h2 ⊢; exact qt F0 B F1 H1 ρ σ _ _ (rs.ext x1) h2 fun v F2 H2 x2 l=>w v F2 H2 (x1.trans x2) l
 | false=>rw [if_neg Bool.false_ne_true] at h2 ⊢; exact qu F0 B F1 H1 ρ σ _ _ (rs.ext x1) h2 fun v F2 H2 x2 l=>w v F2 H2 (x1.trans x2) l
theorem xo_tup {x1} (h:XAO X ct ms k es fs) (hl:es.length≤1000:=by decide):XO X ct ms (k+1) (.Tuple es x1 pos) (fun ρ=>(fs ρ).bind fun ds=>some (.tup ds)):=by
 obtain ⟨t,pt,lt,qt⟩:=h;refine ⟨_,pe_tup pt,fun F0 B F H ρ σ r Q rs e w=>?_⟩;obtain ⟨ds,h1,h2⟩:=bind1 e;cases h2;refine qt F0 B F H ρ σ ds _ rs h1 fun vs F1 H1 fp x1 l nd hf=>⟨?_,fun p hp=>?_⟩
 ·rw [← l.length,lt _ _ h1]; exact small hl
 ·have x2:=Ext.newS x1.fh hp (.tup vs);exact w _ _ _ fp (x1.trans x2) (.inr (.tup upd_same (l.mono fun _ _ _ _ o=>o.ext x2))) nd hf
theorem OwL.cellsOf (l:OwL (Ow K ct F H k) ds vs fp):∀a∈fp,F a=none∧∃o,H a=some o∧NTup o:=OwL.cells0 (fun d v f q=>Ow.cells q) l
theorem new_lst {p:Addr} (s:Same F H) (l:OwL (Ow K ct F H k) ds vs fp) (hp:H p=none):Ow K ct F (upd H p (.lst vs)) (k+1) (.lst ds) (.ref p) (p::fp)∧(fp.Nodup→(p::fp).Nodup) :=
 ⟨.inr (.lst (s.free hp) upd_same (l.mono fun _ _ _ _ o=>o.ext (Ext.newO s hp _))),fun nd=>List.nodup_cons.mpr ⟨fun z=>(by obtain ⟨_,o,ho,_⟩:=OwL.cellsOf l p z;rw [hp] at ho;cases ho),nd⟩⟩
theorem xo_lst (h:XAO X ct ms k es fs) (hl:es.length≤1000:=by decide):XO X ct ms (k+1) (.List es pos) (fun ρ=>(fs ρ).bind fun ds=>some (.lst ds)):=by
 obtain ⟨t,pt,lt,qt⟩:=h;refine ⟨_,pe_lst pt,fun F0 B F H ρ σ r Q rs e w=>?_⟩;obtain ⟨ds,h1,h2⟩:=bind1 e;cases h2;refine qt F0 B F H ρ σ ds _ rs h1 fun vs F1 H1 fp x1 l nd hf=>⟨?_,fun p hp=>?_⟩
 ·rw [← l.length,lt _ _ h1]; exact small hl
 ·obtain ⟨o,n2⟩:=new_lst x1.fh l hp;refine w _ _ _ (p::fp) (x1.trans (Ext.newO x1.fh hp _)) o (n2 nd) fun z hz=>?_;rcases List.mem_cons.mp hz with rfl | hz
  ·exact x1.hh.free hp
  ·exact hf z hz
theorem xo_dnewK:XO X ct ms (k+1) (.Dict [] [] pos) (eC (.dK [] [])):=by refine ⟨_,pe_dnewK,fun F0 B F H ρ σ r Q rs e w p hp=>?_⟩;cases e;refine w _ F _ [p] (Ext.newO rs.fh hp _) (.inr (OwC.dK (vs:=[]) (rs.fh.free hp) upd_same rfl .nil)) (by simp) fun z hz=>?_;rw [List.mem_singleton] at hz; subst hz; exact hp
theorem xo_dnewT:XO X ct ms (k+1) (.Dict [] [] pos) (eC (.dT [] [])):=by refine ⟨_,pe_dnewT,fun F0 B F H ρ σ r Q rs e w p hp=>?_⟩;cases e;refine w _ F _ [p] (Ext.newO rs.fh hp _) (.inr (OwC.dT (vs:=[]) (rs.fh.free hp) upd_same rfl .nil)) (by simp) fun z hz=>?_;rw [List.mem_singleton] at hz; subst hz; exact hp
def LSp (K:PySem.W.Frag) (ct:Nat→Addr) (pm:List Nat) (rk:Nat) (m:List D→Option D):Sp:=fun vs H Q _=>∃(F:Hp) (ds:List D) (d:D),Same F H∧AlL K ct F H pm ds vs∧m ds=some d ∧
 ∀v F' H' fp,Ext F H F' H'→Ow K ct F' H' rk d v fp→fp.Nodup→(∀a∈fp,H a=none)→Q v H'
theorem LSp.len {m:List D→Option D} (h:pm.length=ps.length):∀vs H Q E,LSp K ct pm rk m vs H Q E→vs.length=ps.length:=by rintro vs H Q E ⟨F,ds,d,_,l,_⟩;rw [l.length,h]
variable {fd:FuncData}
theorem xo_call (Fn:FnOk X.prog X.w X.K X.mg X.base CX0 kk fa fd ps (LSp X.K ct (ns++nd) rk mf)) (hr:Room kk X.A) (hg:Gl X x) (hm:X.mg x=some (.ref fa)) (hk:PySem.W.keepIn X.K (.ref fa)=true)
  (hb:Binds X.K fd ps dsv) (hd:Vals dvs dsv) (hdd:∀F G,AlL X.K ct F G nd dds dvs) (ha:XA X ct ms (e::es) ns fs)
  (hdb:(x == ("__debug__":Str))=false:=by decide) (he:starEach (e::es) X.env=(false,eval e X.env)::starEach es X.env:=by rfl) (hpl:(backTo pos (starEach es X.env)).any (·.1)=false:=by rfl) :
  XO X ct ms rk (.Call (.Name x pp) (e::es) [] pos) (fun ρ=>(fs ρ).bind fun ds=>mf (ds++dds)):=by
 obtain ⟨t,pt,_,qt⟩:=ha;refine ⟨_,pe_call Fn hr hg hm hk hb hd pass0 pt hdb he hpl,fun F0 B F H ρ σ r Q rs e w=>?_⟩;obtain ⟨ds,h1,h2⟩:=bind1 e;refine qt F0 B F H ρ σ ds _ rs h1 fun vs F1 H1 x1 l=>⟨F1,ds++dds,r,x1.fh,AlL.append (hdd F1 H1) l,h2,fun v F2 H2 fp x2 o nd hf=>?_⟩;exact w v F2 H2 fp (x1.trans x2) o nd fun z hz=>x1.hh.free (hf z hz)
theorem xe_callB {id:String} {r:List V→Hp→VK→Prop} {op:List D→Option D} (hc:CallR X (.builtin id) r) (hs:OpN X.K ct ns k r op) (hg:Gl X x) (hm:X.mg x=none) (hv:bootBuiltins x=some (.builtin id)) (ha:XA X ct ms (e::es) ns fs)
  (hn:x≠"__name__":=by decide) (hdb:(x == ("__debug__":Str))=false:=by decide) (he:starEach (e::es) X.env=(false,eval e X.env)::starEach es X.env:=by rfl) (hpl:(backTo pos (starEach es X.env)).any (·.1)=false:=by rfl) :
  XE X ct ms k (.Call (.Name x pp) (e::es) [] pos) (eN op fs):=by
 obtain ⟨t,pt,_,qt⟩:=ha;refine ⟨_,pe_callB hc hg hm hv pt hn hdb he hpl,fun F0 B F H ρ σ r Q rs e w=>?_⟩;obtain ⟨ds,h1,h2⟩:=bind1 e;exact qt F0 B F H ρ σ ds _ rs h1 fun vs F1 H1 x1 l=>hs F1 H1 vs ds r Q x1.fh l h2 fun v F2 H2 x2 l2=>w v F2 H2 (x1.trans x2) l2
theorem xe_callTy {id:String} {r:List V→Hp→VK→Prop} {op:List D→Option D} (hc:CallR X (.type id) r) (hs:OpN X.K ct ns k r op) (hg:Gl X x) (hm:X.mg x=none) (hv:bootBuiltins x=some (.type id)) (ha:XA X ct ms (e::es) ns fs)
  (hn:x≠"__name__":=by decide) (hdb:(x == ("__debug__":Str))=false:=by decide) (he:starEach (e::es) X.env=(false,eval e X.env)::starEach es X.env:=by rfl) (hpl:(backTo pos (starEach es X.env)).any (·.1)=false:=by rfl) :
  XE X ct ms k (.Call (.Name x pp) (e::es) [] pos) (eN op fs):=by
 obtain ⟨t,pt,_,qt⟩:=ha;refine ⟨_,pe_callTy hc hg hm hv pt hn hdb he hpl,fun F0 B F H ρ σ r Q rs e w=>?_⟩;obtain ⟨ds,h1,h2⟩:=bind1 e;exact qt F0 B F H ρ σ ds _ rs h1 fun vs F1 H1 x1 l=>hs F1 H1 vs ds r Q x1.fh l h2 fun v F2 H2 x2 l2=>w v F2 H2 (x1.trans x2) l2
theorem xo_callTy {id:String} {r:List V→Hp→VK→Prop} {op:List D→Option D} (hc:CallR X (.type id) r) (hs:OpNO X.K ct ns k r op) (hg:Gl X x) (hm:X.mg x=none) (hv:bootBuiltins x=some (.type id)) (ha:XA X ct ms (e::es) ns fs)
  (hn:x≠"__name__":=by decide) (hdb:(x == ("__debug__":Str))=false:=by decide) (he:starEach (e::es) X.env=(false,eval e X.env)::starEach es X.env:=by rfl) (hpl:(backTo pos (starEach es X.env)).any (·.1)=false:=by rfl) :
  XO X ct ms k (.Call (.Name x pp) (e::es) [] pos) (eN op fs):=by
 obtain ⟨t,pt,_,qt⟩:=ha;refine ⟨_,pe_callTy hc hg hm hv pt hn hdb he hpl,fun F0 B F H ρ σ r Q rs e w=>?_⟩;obtain ⟨ds,h1,h2⟩:=bind1 e;exact qt F0 B F H ρ σ ds _ rs h1 fun vs F1 H1 x1 l=>hs F1 H1 vs ds r Q x1.fh l h2 fun v F2 H2 fp x2 l2 nd hf=>w v F2 H2 fp (x1.trans x2) l2 nd fun z hz=>x1.hh.free (hf z hz)
def fldD (cs:List Nat) (x:Str):D→Option D
 | .obj c ns ds=>if cs.contains c=true then (ns.zip ds).lookup x else none
 | _=>none
theorem zip_lookup {R:D→V→Prop} {x:Str} {d:D}:∀{ns:List Str} {ds:List D} {vs:List V},Pr R ds vs→(ns.zip ds).lookup x=some d→∃v,(ns.zip vs).lookup x=some v∧R d v
 | [],_,_,_,e=>by simp at e
 | _::_,_,_,.nil,e=>by simp at e
 | y::ns,_,_,.cons h t,e=>by
  rw [List.zip_cons_cons,List.lookup_cons] at e;rw [List.zip_cons_cons,List.lookup_cons];cases q:x == y with
  | true=>rw [q] at e; cases e; exact ⟨_,rfl,h⟩
  | false=>rw [q] at e; exact zip_lookup t e
theorem zip_none {vs:List V} {x:Str}:∀{ns:List Str} {vs:List V},ns.contains x=false→(ns.zip vs).lookup x=none
 | [],_,_=>by simp
 | _::_,[],_=>by simp
 | y::ns,_::vs,h=>by rw [List.contains_cons,Bool.or_eq_false_iff] at h;rw [List.zip_cons_cons,List.lookup_cons,h.1];exact zip_none (vs:=vs) h.2
theorem xe_fld (he:XE X ct ms n e f) (hc:∀c∈cs,Cls X.K (ct c)∧NoAttr X.K (ct c) x) (hb:attributeBase e x X.env (eval e X.env)=eval e X.env):XE X ct ms (n-1) (.Attribute e x pos) (e1 (fldD cs x) f):=by
 obtain ⟨t,pt,qt⟩:=he;refine ⟨_,pe_fld pt hb,fun F0 B F H ρ σ r Q rs e w=>?_⟩;obtain ⟨o,h1,h2⟩:=bind1 e;refine qt F0 B F H ρ σ o _ rs h1 fun v F1 H1 x1 l=>?_;cases o with
 | obj c ns ds =>
  obtain ⟨a,dx,vs,rfl,ha,hl,hds⟩:=l.obj x1.fh;unfold fldD at h2;dsimp only at h2;by_cases hcs:cs.contains c=true
  ·rw [if_pos hcs] at h2;obtain ⟨u,hu,du⟩:=zip_lookup hds h2;have hh:=hc c (by simpa using hcs);exact ⟨a,_,dx,_,u,rfl,ha,hh.1,hh.2,hu,w u F1 H1 x1 du⟩
  ·rw [if_neg hcs] at h2; cases h2
 | _=>cases h2
def metD (c0:Nat) (m:Str) (mf:List D→Option D) (o:D) (ds:List D):Option D:=match o with
 | .obj c ns _=>if c=c0∧ns.contains m=false then mf (o::ds) else none
 | _=>none
theorem xo_meth (ho:XE X ct ms n o f) (c:Cls X.K (ct c0)) (hm:Meth X.K (ct c0) x fa) (Fn:FnOk X.prog X.w X.K X.mg X.base CX0 kk fa fd ps (LSp X.K ct (n::(ns++nd)) rk mf)) (hr:Room kk X.A)
  (hb:Binds X.K fd ps dsv) (hd:Vals dvs dsv) (hdd:∀F G,AlL X.K ct F G nd dds dvs) (ha:XA X ct ms (e::es) ns fs)
  (hst:starEach (e::es) X.env=(false,eval e X.env)::starEach es X.env:=by rfl) (hpl:(backTo pos (starEach es X.env)).any (·.1)=false:=by rfl)
  (ht:eval (.Call (.Attribute o x apos) (e::es) [] pos) X.env=(do
   let ov ← eval o X.env
   standAt apos.atName
   let (f,first) ← holding [ov] (getMethod ov x pl)
   callWith pos f first (backTo pos (starEach (e::es) X.env)) (backToKw pos (keywordEach [] X.env))):=by rfl) :
  XO X ct ms rk (.Call (.Attribute o x apos) (e::es) [] pos) (fun ρ=>(f ρ).bind fun o=>(fs ρ).bind fun ds=>metD c0 x mf o (ds++dds)):=by
 obtain ⟨u,pu,qu⟩:=ho;obtain ⟨t,pt,_,qt⟩:=ha;refine ⟨_,pe_meth pu c hm Fn hr hb hd pass0 pt hst hpl ht,fun F0 B F H ρ σ r Q rs e w=>?_⟩;obtain ⟨o,ds,h1,h2,h3⟩:=bind2 e;refine qu F0 B F H ρ σ o _ rs h1 fun v F1 H1 x1 l=>?_;cases o with
 | obj c1 ns' ds' =>
  unfold metD at h3;dsimp only at h3;split at h3
  ·rename_i hc;obtain ⟨rfl,hns⟩:=hc;obtain ⟨a,dx,vs,rfl,ha,hl,hds⟩:=l.obj x1.fh;refine ⟨a,dx,_,rfl,ha,zip_none (vs:=vs) hns,?_⟩;refine qt F0 B F1 H1 ρ σ ds _ (rs.ext x1) h2 fun us F2 H2 x2 l2=>⟨F2,_,r,x2.fh,.cons (l.mono x2.ff x2.hh) (AlL.append (hdd F2 H2) l2),h3,fun v F3 H3 fp x3 o nd hf=>?_⟩;exact w v F3 H3 fp ((x1.trans x2).trans x3) o nd fun z hz=>(x1.trans x2).hh.free (hf z hz)
  ·cases h3
 | _=>cases h3
theorem xo_meth0 (ho:XE X ct ms n o f) (c:Cls X.K (ct c0)) (hm:Meth X.K (ct c0) x fa) (Fn:FnOk X.prog X.w X.K X.mg X.base CX0 kk fa fd ps (LSp X.K ct (n::nd) rk mf)) (hr:Room kk X.A)
  (hb:Binds X.K fd ps dsv) (hd:Vals dvs dsv) (hdd:∀F G,AlL X.K ct F G nd dds dvs)
  (ht:eval (.Call (.Attribute o x apos) [] [] pos) X.env=(do
   let ov ← eval o X.env
   standAt apos.atName
   let (f,first) ← holding [ov] (getMethod ov x pl)
   callWith pos f first (backTo pos (starEach [] X.env)) (backToKw pos (keywordEach [] X.env))):=by rfl) :
  XO X ct ms rk (.Call (.Attribute o x apos) [] [] pos) (fun ρ=>(f ρ).bind fun o=>metD c0 x mf o dds):=by
 obtain ⟨u,pu,qu⟩:=ho;refine ⟨_,pe_meth0 pu c hm Fn hr hb hd pass0 ht,fun F0 B F H ρ σ r Q rs e w=>?_⟩;obtain ⟨o,h1,h3⟩:=bind1 e;refine qu F0 B F H ρ σ o _ rs h1 fun v F1 H1 x1 l=>?_;cases o with
 | obj c1 ns' ds' =>
  unfold metD at h3;dsimp only at h3;split at h3
  ·rename_i hc;obtain ⟨rfl,hns⟩:=hc;obtain ⟨a,dx,vs,rfl,ha,hl,hds⟩:=l.obj x1.fh;refine ⟨a,dx,_,rfl,ha,zip_none (vs:=vs) hns,F1,_,r,x1.fh,.cons l (hdd F1 H1),h3,fun v F3 H3 fp x3 o nd hf=>?_⟩;exact w v F3 H3 fp (x1.trans x3) o nd fun z hz=>x1.hh.free (hf z hz)
  ·cases h3
 | _=>cases h3
end
inductive Out where
 | nx (ρ:Env) | rt (d:D) | bk (ρ:Env) | ct (ρ:Env)
abbrev SF:=Env→Option Out
def OutOk (K:PySem.W.Frag) (cl:Nat→Addr) (F0 B:Hp) (ms:List Mo) (rk:Nat) (E:Ends):Out→Prop
 | .nx ρ=>∀σ F H,RS K cl F0 B ms F H ρ σ→E.nx σ H
 | .bk ρ=>∀σ F H,RS K cl F0 B ms F H ρ σ→E.bk σ H
 | .ct ρ=>∀σ F H,RS K cl F0 B ms F H ρ σ→E.ct σ H
 | .rt d=>∀v F H fp,Same F0 F→Same B H→Same F H→(∀a o,B a=some o→NTup o→F0 a=none→F a=none)→Ow K cl F H rk d v fp→fp.Nodup→(∀a∈fp,B a=none)→E.rt v H
section
variable (X:Cx) (ct:Nat→Addr) (ms:List Mo) (rk:Nat)
def XS (st:Stmt) (f:SF):Prop:=∃t,PS X st t∧∀(F0 B F H:Hp) (ρ:Env) (σ:St) (o:Out) (E:Ends),RS X.K ct F0 B ms F H ρ σ→f ρ=some o→OutOk X.K ct F0 B ms rk E o→t E σ H
def XSs (st:List Stmt) (f:SF):Prop:=∃t,PSs X st t∧∀(F0 B F H:Hp) (ρ:Env) (σ:St) (o:Out) (E:Ends),RS X.K ct F0 B ms F H ρ σ→f ρ=some o→OutOk X.K ct F0 B ms rk E o→t E σ H
end
def sSkip:SF:=fun ρ=>some (.nx ρ)
def sSeq (f g:SF):SF:=fun ρ=>(f ρ).bind fun o=>match o with
 | .nx ρ'=>g ρ'
 | o=>some o
def sIf (c:BF) (f g:SF):SF:=fun ρ=>(c ρ).bind fun b=>if b=true then f ρ else g ρ
def sSet (i:Nat) (f:EF):SF:=fun ρ=>(f ρ).bind fun d=>some (.nx (ρ.set i (some d)))
def sRet (f:EF):SF:=fun ρ=>(f ρ).bind fun d=>some (.rt d)
def sRetN:SF:=fun _=>some (.rt .non)
def sDrop (f:EF):SF:=fun ρ=>(f ρ).bind fun _=>some (.nx ρ)
def sNever:SF:=fun _=>none
def FUEL:Nat:=2 ^ 9000
def whileD (c:BF) (b:SF):Nat→SF
 | 0,_=>none
 | n+1,ρ=>(c ρ).bind fun t=>if t=true then (b ρ).bind fun o=>match o with
   | .nx ρ'=>whileD c b n ρ'
   | .ct ρ'=>whileD c b n ρ'
   | .bk ρ'=>some (.nx ρ')
   | .rt d=>some (.rt d)
  else some (.nx ρ)
def sWhile (c:BF) (b:SF):SF:=whileD c b FUEL
def forD (g:D→Env→Option Env) (b:SF):List D→SF
 | [],ρ=>some (.nx ρ)
 | d::ds,ρ=>(g d ρ).bind fun ρ1=>(b ρ1).bind fun o=>match o with
   | .nx ρ'=>forD g b ds ρ'
   | .ct ρ'=>forD g b ds ρ'
   | .bk ρ'=>some (.nx ρ')
   | .rt d=>some (.rt d)
def sFor (f:Env→Option (List D)) (g:D→Env→Option Env) (b:SF):SF:=fun ρ=>(f ρ).bind fun ds=>forD g b ds ρ
variable {E:Ends} {N:List Str} {P:Program} {base:Heap} {bf u w:SF} {fi:Env→Option (List D)} {gg:D→Env→Option Env} {gs:List D→Env→Option Env} {iter tg:Expr} {j:Nat} {mg:Str→Option Value} {pos':Pos} {qual:Str} {rest:List Stmt} {st:Stmt} {tgs:List Expr}
theorem xss_nil:XSs X ct ms rk [] sSkip:=⟨_,pss_nil,fun F0 B F H ρ σ o E rs e w=>by cases e; exact w σ F H rs⟩
theorem xss_cons (h1:XS X ct ms rk st u) (h2:XSs X ct ms rk rest w):XSs X ct ms rk (st::rest) (sSeq u w):=by
 obtain ⟨t,pt,qt⟩:=h1;obtain ⟨t2,pt2,qt2⟩:=h2;refine ⟨_,pss_cons pt pt2,fun F0 B F H ρ σ o E rs e z=>?_⟩;obtain ⟨o1,e1,e2⟩:=bind1 e;refine qt F0 B F H ρ σ o1 _ rs e1 ?_;cases o1 with
 | nx ρ'=>exact fun σ' F' H' rs'=>qt2 F0 B F' H' ρ' σ' o E rs' e2 z
 | rt d=>cases e2; exact z
 | bk ρ'=>cases e2; exact z
 | ct ρ'=>cases e2; exact z
theorem xss_one (h1:XS X ct ms rk st u):XSs X ct ms rk [st] u:=by obtain ⟨t,pt,qt⟩:=h1;exact ⟨_,pss_one pt,qt⟩
theorem xs_never:XS X ct ms rk st sNever:=⟨_,ps_never,fun F0 B F H ρ σ o E rs e w=>by cases e⟩
theorem xs_ret (he:XO X ct ms rk e f):XS X ct ms rk (.Return (some e) pos) (sRet f):=by obtain ⟨t,pt,qt⟩:=he;refine ⟨_,ps_ret pt,fun F0 B F H ρ σ o E rs e w=>?_⟩;obtain ⟨d,h1,h2⟩:=bind1 e;cases h2;refine qt F0 B F H ρ σ d _ rs h1 fun v F' H' fp x l nd hf=>?_;have r:=rs.ext x;exact w v F' H' fp r.f0 r.bh r.fh r.nf l nd fun z hz=>rs.bh.free (hf z hz)
theorem xs_retV (hm:ms[i]?=some (.ow rk)) (hN:X.N[i]?=some x:=by rfl) (hv:Vis X.env.scope x:=by first | exact Or.inl rfl | exact Or.inr (Or.inl rfl) | exact Or.inr (Or.inr rfl)) (hd:(x == ("__debug__":Str))=false:=by decide)
  (hcd:(x == ("__classdict__":Str))=false:=by decide):XS X ct ms rk (.Return (some (.Name x pos')) pos) (sRet (eV i)):=by
 refine ⟨_,ps_ret (pe_var hN hv hd hcd),fun F0 B F H ρ σ o E rs e w=>?_⟩;obtain ⟨d,h1,h2⟩:=bind1 e;cases h2;obtain ⟨fp,sl,nd,hb⟩:=rs.sl;obtain ⟨f1,fr,i1,i2,i3,i4,i5⟩:=sl.put hm;obtain ⟨v,hv',l⟩:=i4 d (join_some h1);exact ⟨v,hv',w v F H f1 rs.f0 rs.bh rs.fh rs.nf l (i3 nd).1 fun z hz=>hb z (i1 z hz)⟩
theorem xs_if {st1 st2:List Stmt} (hc:XT X ct ms c p) (h1:XSs X ct ms rk st1 u) (h2:XSs X ct ms rk st2 w):XS X ct ms rk (.If c st1 st2 pos) (sIf p u w):=by
 obtain ⟨t,pt,qt⟩:=hc;obtain ⟨t1,pt1,qt1⟩:=h1;obtain ⟨t2,pt2,qt2⟩:=h2;refine ⟨_,ps_if pt pt1 pt2,fun F0 B F H ρ σ o E rs e z=>?_⟩;obtain ⟨x,h1,h2⟩:=bind1 e;refine qt F0 B F H ρ σ x _ rs h1 fun F1 H1 x1=>?_;cases x with
 | true=>rw [if_pos rfl] at h2 ⊢; exact qt1 F0 B F1 H1 ρ σ o E (rs.ext x1) h2 z
 | false=>rw [if_neg Bool.false_ne_true] at h2 ⊢; exact qt2 F0 B F1 H1 ρ σ o E (rs.ext x1) h2 z
theorem RS.put {F' H':Hp} (rs:RS K ct F0 B ms F H ρ σ) (hm:ms[i]?=some (.ow k)) :
  ∃f1 fr:List Addr,f1.Nodup∧(∀a∈f1,B a=none)∧(∀a∈f1,a∉fr)∧(∀d,ρ[i]?=some (some d)→∃v,σ[i]?=some (some v)∧Ow K ct F H k d v f1)∧(∀a∈fr,F a=none∧∃o,H a=some o∧NTup o) ∧
   ∀(F' H':Hp) (d':D) (v':V) (f':List Addr),Same F F'→Same B H'→Same F' H'→(∀a o,B a=some o→NTup o→F0 a=none→F' a=none)→(∀a∈fr,H' a=H a∧F' a=none)→Ow K ct F' H' k d' v' f'→f'.Nodup→(∀a∈f',a∉fr)→(∀a∈f',B a=none) →
    RS K ct F0 B ms F' H' (ρ.set i (some d')) (σ.set i (some v')):=by
 obtain ⟨fp,sl,nd,hb⟩:=rs.sl;obtain ⟨f1,fr,i1,i2,i3,i4,i5⟩:=sl.put hm;obtain ⟨n1,n2,n3⟩:=i3 nd;refine ⟨f1,fr,n1,fun a z=>hb a (i1 a z),n3,i4,fun a z=>sl.cells a (i2 a z),fun F' H' d' v' f' s1 s2 s3 s4 kf o ndf dj hbf=>?_⟩;obtain ⟨fp',q1,q2,q3⟩:=i5 F' H' d' v' f' s1 kf o;exact ⟨rs.f0.trans s1,s2,s3,s4,fp',q1,q3 ndf n2 dj,fun a z=>(q2 a z).elim (hbf a) fun z=>hb a (i2 a z)⟩
theorem RS.set {v:V} (rs:RS K ct F0 B ms F H ρ σ) (hm:ms[i]?=some (.ow k)) (x:Ext F H F' H') (o:Ow K ct F' H' k d v fp) (nd:fp.Nodup) (hf:∀a∈fp,H a=none) :
  RS K ct F0 B ms F' H' (ρ.set i (some d)) (σ.set i (some v)):=by
 have r:=rs.ext x;obtain ⟨f1,fr,n1,b1,n3,i4,cf,put⟩:=rs.put (F':=F') (H':=H') hm;refine put F' H' d v fp x.ff r.bh x.fh r.nf (fun a z=>?_) o nd (fun a z zb=>?_) fun a z=>rs.bh.free (hf a z)
 ·obtain ⟨hn,o,ho,nt⟩:=cf a z;exact ⟨(x.hh _ _ ho).trans ho.symm,x.nf a o ho nt hn⟩
 ·obtain ⟨hn,o,ho,nt⟩:=cf a zb;rw [hf a z] at ho;cases ho
theorem xs_set (hm:ms[i]?=some (.ow k)) (hN:X.N.Nodup) (hi:X.N[i]?=some x) (hx:Loc X.env.scope x) (he:XO X ct ms k e f) (hs:swapsWith e (some (.Name x pos')) pos.line X.env=pure false:=by rfl)
  (hf:X.fn x=true∨X.env.scope.names.lookup x=some .local:=by first | exact .inl rfl | exact .inr rfl | assumption):XS X ct ms rk (.Assign [.Name x pos'] e pos) (sSet i f):=by
 obtain ⟨t,pt,qt⟩:=he;refine ⟨_,ps_set hN hi hx pt hs hf,fun F0 B F H ρ σ o E rs e w=>?_⟩;obtain ⟨d,h1,h2⟩:=bind1 e;cases h2;exact qt F0 B F H ρ σ d _ rs h1 fun v F' H' fp x l nd hf=>w _ F' H' (rs.set hm x l nd hf)
theorem xs_while (hc:XT X ct ms c p) (hb:XSs X ct ms rk rest u) (hp:PassesOwn (model X.prog X.w) X.A X.env X.xe):XS X ct ms rk (.While c rest [] pos) (sWhile p u):=by
 obtain ⟨t,pt,qt⟩:=hc;obtain ⟨t1,pt1,qt1⟩:=hb;refine ⟨_,ps_while hp pt pt1,fun F0 B F H ρ σ o E rs e z=>?_⟩;refine ⟨fun m σ H=>∃F ρ,RS X.K ct F0 B ms F H ρ σ∧whileD p u m ρ=some o,⟨FUEL,F,ρ,rs,e⟩,?_⟩;rintro m σ H ⟨F,ρ,rs,e⟩;cases m with
 | zero=>cases e
 | succ m =>
  obtain ⟨x,h1,h2⟩:=bind1 e;refine qt F0 B F H ρ σ x _ rs h1 fun F1 H1 x1=>?_;cases x with
  | true =>
   rw [if_pos rfl] at h2 ⊢;obtain ⟨o1,h3,h4⟩:=bind1 h2;refine ⟨fun σ H=>∃F ρ,RS X.K ct F0 B ms F H ρ σ∧whileD p u m ρ=some o,fun σ' H' h=>⟨m,Nat.lt_succ_self m,h⟩,?_⟩;refine qt1 F0 B F1 H1 ρ σ o1 _ (rs.ext x1) h3 ?_;cases o1 with
   | nx ρ'=>exact fun σ' F' H' r=>⟨F',ρ',r,h4⟩
   | ct ρ'=>exact fun σ' F' H' r=>⟨F',ρ',r,h4⟩
   | bk ρ'=>cases h4; exact z
   | rt d=>cases h4; exact z
  | false =>rw [if_neg Bool.false_ne_true] at h2 ⊢;cases h2;exact z σ F1 H1 (rs.ext x1)
theorem RS.re (r:RS K ct F0 B ms F H ρ σ):RS K ct F B ms F H ρ σ:=⟨.refl _,r.bh,r.fh,fun _ _ _ _ h=>h,r.sl⟩
theorem RS.back {ρ':Env} {σ':St} (r:RS K ct F0 B ms F H ρ σ) (q:RS K ct F B ms F' H' ρ' σ'):RS K ct F0 B ms F' H' ρ' σ' :=
 ⟨r.f0.trans q.f0,q.bh,q.fh,fun a o h t n=>q.nf a o h t (r.nf a o h t n),q.sl⟩
theorem OutOk.re {o:Out} (r:RS K ct F0 B ms F H ρ σ) (z:OutOk K ct F0 B ms rk E o):OutOk K ct F B ms rk E o:=by
 cases o with
 | nx ρ=>exact fun σ' F' H' q=>z σ' F' H' (r.back q)
 | bk ρ=>exact fun σ' F' H' q=>z σ' F' H' (r.back q)
 | ct ρ=>exact fun σ' F' H' q=>z σ' F' H' (r.back q)
 | rt d=>exact fun v F' H' fp s1 s2 s3 s4=>z v F' H' fp (r.f0.trans s1) s2 s3 fun a o h t n=>s4 a o h t (r.nf a o h t n)
def ItOk (K:PySem.W.Frag) (ct:Nat→Addr) (F B:Hp) (n:Nat) (J:It) (ds:List D):Prop :=
 ∀(i:Nat) (F' H':Hp),Same F F'→Same B H'→Same F' H'→(∀d,ds[i]?=some d→J.go i H'∧∀x H2,J.yld i H' x H2→∃F2,Ext F' H' F2 H2∧Al K ct F2 B n d x)∧(ds.length≤i→J.stop i H')
def XI (X:Cx) (ct:Nat→Addr) (ms:List Mo) (n:Nat) (tg iter:Expr) (f:Env→Option (List D)):Prop:=∃wi,PI X tg iter wi∧∀(F0 B F H:Hp) (ρ:Env) (σ:St) (ds:List D) (R:It→Hp→Prop),RS X.K ct F0 B ms F H ρ σ→f ρ=some ds →
 (∀J F' H',Ext F H F' H'→ItOk X.K ct F' B n J ds→R J H')→wi σ H R
def XIcc (X:Cx) (c:Prop) (ct:Nat→Addr) (ms:List Mo) (n:Nat) (tg iter:Expr) (f:Env→Option (List D)):Prop:=∃wi,PIc X c tg iter wi∧∀(F0 B F H:Hp) (ρ:Env) (σ:St) (ds:List D) (R:It→Hp→Prop),RS X.K ct F0 B ms F H ρ σ→f ρ=some ds →
 (∀J F' H',Ext F H F' H'→ItOk X.K ct F' H' n J ds→R J H')→wi σ H R
abbrev XIc (X:Cx):=XIcc X (X.calm=true)
def XG (X:Cx) (ct:Nat→Addr) (ms:List Mo) (n:Nat) (tg:Expr) (g:D→Env→Option Env):Prop:=∃t,PG X tg t∧∀(F0 B F H:Hp) (ρ ρ':Env) (σ:St) (d:D) (v:V) (Q:St→Hp→Prop),RS X.K ct F0 B ms F H ρ σ→Al X.K ct F B n d v→g d ρ=some ρ' →
 (∀σ',RS X.K ct F0 B ms F H ρ' σ'→Q σ' H)→t v σ H Q
theorem xs_for (hi:XI X ct ms n tg iter fi) (hg:XG X ct ms n tg gg) (hb:XSs X ct ms rk rest u) (hp:PassesOwn (model X.prog X.w) X.A X.env X.xe) (hc:X.calm=true)
  (hs:∀x,foldedSetIterable iter X.env x=pure x:=by intro _; rfl):XS X ct ms rk (.For tg iter rest [] pos) (sFor fi gg u):=by
 obtain ⟨wi,pi,qi⟩:=hi;obtain ⟨tg',pg,qg⟩:=hg;obtain ⟨t1,pt1,qt1⟩:=hb;refine ⟨_,ps_for hp hc pi pg pt1 hs,fun F0 B F H ρ σ o E rs e z=>?_⟩;obtain ⟨ds,h1,h2⟩:=bind1 e;refine qi F0 B F H ρ σ ds _ rs h1 fun J F1 H1 x1 ok=>?_;refine ⟨fun i m σ H=>m=ds.length-i∧i≤ds.length∧∃F ρ,Same F1 F∧RS X.K ct F0 B ms F H ρ σ∧forD gg u (ds.drop i) ρ=some o,⟨ds.length,rfl,Nat.zero_le _,F1,ρ,.refl _,rs.ext x1,h2⟩,?_⟩;rintro i m σ H ⟨rfl,hil,F,ρ,s1,rs,e⟩;obtain ⟨k1,k2⟩:=ok i F H s1 rs.bh rs.fh;by_cases hlt:i<ds.length
 ·right;have hd:ds[i]?=some ds[i]:=by simp [hlt]
  obtain ⟨go,yl⟩:=k1 _ hd;rw [List.drop_eq_getElem_cons hlt] at e;obtain ⟨ρ1,h3,h4⟩:=bind1 e;obtain ⟨o1,h5,h6⟩:=bind1 h4;refine ⟨go,fun σ H=>i+1≤ds.length∧∃F ρ,Same F1 F∧RS X.K ct F0 B ms F H ρ σ∧forD gg u (ds.drop (i+1)) ρ=some o,fun σ' H' h=>⟨ds.length-(i+1),by omega,rfl,h⟩,fun x H2 y=>?_⟩;obtain ⟨F2,x2,l⟩:=yl x H2 y;refine qg F0 B F2 H2 ρ ρ1 σ _ x _ (rs.ext x2) l h3 fun σ' r=>?_;have s2:=s1.trans x2.ff;refine qt1 F2 B F2 H2 ρ1 σ' o1 _ r.re h5 ?_;cases o1 with
  | nx ρ'=>exact fun σ' F' H' q=>⟨hlt,F',ρ',s2.trans q.f0,r.back q,h6⟩
  | ct ρ'=>exact fun σ' F' H' q=>⟨hlt,F',ρ',s2.trans q.f0,r.back q,h6⟩
  | bk ρ'=>cases h6; exact fun σ' F' H' q=>z σ' F' H' (r.back q)
  | rt d=>cases h6; exact OutOk.re (o:=.rt d) r z
 ·left;refine ⟨k2 (by omega),?_⟩
  have:ds.drop i=[]:=List.drop_eq_nil_of_le (by omega);rw [this] at e;cases e;exact z σ F H rs
def gV (i:Nat):D→Env→Option Env:=fun d ρ=>some (ρ.set i (some d))
theorem xg_name (hm:ms[i]?=some (.ow 0)) (hN:X.N.Nodup) (hi:X.N[i]?=some x) (hx:Loc X.env.scope x)
  (hf:X.fn x=true∨X.env.scope.names.lookup x=some .local:=by first | exact .inl rfl | exact .inr rfl | assumption):XG X ct ms 0 (.Name x pos) (gV i):=by
 refine ⟨_,pg_name hN hi hx hf,fun F0 B F H ρ ρ' σ d v Q rs l e w=>?_⟩;cases e;exact w _ (rs.set hm (.refl rs.fh) (Ow.zero l) List.nodup_nil fun a z=>(by cases z))
def XGs (X:Cx) (ct:Nat→Addr) (ms:List Mo) (n:Nat) (tgs:List Expr) (g:List D→Env→Option Env):Prop:=∃t,PGs X tgs t∧(∀ds ρ ρ',g ds ρ=some ρ'→ds.length=tgs.length)∧∀(F0 B F H:Hp) (ρ ρ':Env) (σ:St) (ds:List D) (vs:List V) (Q:St→Hp→Prop),RS X.K ct F0 B ms F H ρ σ→Pr (Al X.K ct F B n) ds vs→g ds ρ=some ρ' →
 (∀σ',RS X.K ct F0 B ms F H ρ' σ'→Q σ' H)→t vs σ H Q
def gsNil:List D→Env→Option Env:=fun ds ρ=>match ds with
 | []=>some ρ
 | _=>none
def gsCons (g:D→Env→Option Env) (gs:List D→Env→Option Env):List D→Env→Option Env:=fun ds ρ=>match ds with
 | d::ds=>(g d ρ).bind fun ρ'=>gs ds ρ'
 | []=>none
theorem xgs_nil:XGs X ct ms n [] gsNil:=by
 refine ⟨_,pgs_nil,fun ds ρ ρ' e=>?_,fun F0 B F H ρ ρ' σ ds vs Q rs l e w=>?_⟩
 ·cases ds with
  | nil=>rfl
  | cons d ds=>cases e
 ·cases l with
  | nil=>cases e; exact ⟨rfl,w σ rs⟩
  | cons _ _=>cases e
theorem xgs_cons (h1:XG X ct ms n tg gg) (h2:XGs X ct ms n tgs gs)
  (hs:(assignEach (tg::tgs) X.env).map (·.2)=assign tg X.env::(assignEach tgs X.env).map (·.2):=by rfl):XGs X ct ms n (tg::tgs) (gsCons gg gs):=by
 obtain ⟨t,pt,qt⟩:=h1;obtain ⟨t2,pt2,lt2,qt2⟩:=h2;refine ⟨_,pgs_cons pt pt2 hs,fun ds ρ ρ' e=>?_,fun F0 B F H ρ ρ' σ ds vs Q rs l e w=>?_⟩
 ·cases ds with
  | nil=>cases e
  | cons d ds =>obtain ⟨ρ1,h3,h4⟩:=bind1 e;rw [List.length_cons,List.length_cons,lt2 _ _ _ h4]
 ·cases l with
  | nil=>cases e
  | cons h t =>obtain ⟨ρ1,h3,h4⟩:=bind1 e;exact ⟨_,_,rfl,qt F0 B F H ρ ρ1 σ _ _ _ rs h h3 fun σ1 r1=>qt2 F0 B F H ρ1 ρ' σ1 _ _ _ r1 t h4 w⟩
def gT (gs:List D→Env→Option Env):D→Env→Option Env:=fun d ρ=>match d with
 | .tup ds=>gs ds ρ
 | _=>none
theorem xg_tup (hc:X.calm=true) (h:XGs X ct ms (n-1) tgs gs) (hl:(assignEach tgs X.env).length=tgs.length:=by rfl) (hst:(assignEach tgs X.env).findIdx? (·.1)=none:=by rfl):XG X ct ms n (.Tuple tgs j pos) (gT gs):=by
 obtain ⟨t,pt,lt,qt⟩:=h;refine ⟨_,pg_tup (n:=tgs.length) hc pt hl hst,fun F0 B F H ρ ρ' σ d v Q rs l e w=>?_⟩;cases d with
 | tup ds =>
  have l':Al X.K ct F H n (.tup ds) v:=l.mono (.refl _) rs.bh;have:∃a vs,v=.ref a∧SqT X.K H a vs∧Pr (Al X.K ct F B (n-1)) ds vs:=by
   cases n with
   | zero =>
    have l:Dt X.K ct F (.tup ds) v:=l;cases l with
    | tup q t=>exact ⟨_,_,rfl,SqT.of (rs.fh _ _ q),t.pr⟩
   | succ n =>
    rcases l with l | l
    ·cases l with
     | tup q t=>exact ⟨_,_,rfl,SqT.of (rs.fh _ _ q),t.pr.mono fun _ _=>Al.of⟩
    ·cases l with
     | tup q t=>exact ⟨_,_,rfl,SqT.of (rs.fh _ _ q),t⟩
  obtain ⟨a,vs,rfl,ha,hp⟩:=this;exact ⟨a,vs,rfl,ha,hp.length.symm.trans (lt _ _ _ e),qt F0 B F H ρ ρ' σ ds vs Q rs hp e w⟩
 | _=>cases e
def startD (N:List Str) (ds:List D):Env:=ds.map some++List.replicate (N.length-ds.length) none
def mOf (N:List Str) (b:SF) (ds:List D):Option D:=(b (startD N ds)).bind fun o=>match o with
 | .rt d=>some d
 | .nx _=>some .non
 | _=>none
theorem SL.start {K:PySem.W.Frag} {F B H:Hp}:∀{pm:List Nat} {ds:List D} {vs:List V} {ms:List Mo} (j:Nat),AlL K ct F B pm ds vs→(∀(i n:Nat),pm[i]?=some n→ms[i]?=some (Mo.al n)∨(n=0∧ms[i]?=some (Mo.ow 0)))→ms.length=pm.length+j →
  SL K ct F B H ms (ds.map some++List.replicate j none) (vs.map some++List.replicate j none) []
 | _,_,_,ms,j,.nil,_,hl=>by
  have:∀(j:Nat) (ms:List Mo),ms.length=j→SL K ct F B H ms (List.replicate j none) (List.replicate j none) []:=by
   intro j;induction j with
   | zero=>intro ms h; cases ms with
    | nil=>exact .nil
    | cons _ _=>simp at h
   | succ j ih=>intro ms h; cases ms with
    | nil=>simp at h
    | cons m ms=>exact .no (ih ms (by simpa using h))
  simpa using this j ms (by simpa using hl)
 | _,_,_,[],j,.cons h t,_,hl=>by simp at hl; omega
 | _,_,_,m::ms,j,.cons (n:=n) h t,hm,hl=>by
  have ih:=SL.start (ms:=ms) (H:=H) j t (fun i n e=>by simpa using hm (i+1) n (by simpa using e)) (by simp at hl; omega);rcases hm 0 n rfl with e | ⟨rfl,e⟩
  ·simp at e; subst e; exact .al h ih
  ·simp at e; subst e; exact SL.ow (f:=[]) (Ow.zero h) ih
structure Fun2 (K:PySem.W.Frag) (x qual:Str) (st:Stmt) (f:Addr) (fd:FuncData):Prop where
 ex:∃(oc:Value) (od:Option Addr) (dV kV doc pm:Value) (an:Option Addr) (cdv ct:Value) (osl:Array (Option Value)),
  fd=PySem.W.fnOf x qual (defArgs st) (defBody st) (defScope st) dV kV doc pm an cdv ct∧K.lookup f=some ⟨oc,od,.func fd,osl⟩∧PySem.W.codeIn K cdv qual=true
 kp:PySem.W.keepIn K (.ref f)=true
theorem Fun2.ok {w:World} {f:Addr} {fd:FuncData} {sp:Sp} (F:Fun2 K x qual st f fd) (S:FnScope N ps (defScope st)) (len:∀vs H Q E,sp vs H Q E→vs.length=ps.length)
    (hbody:∀(cdv:Value) (A:Around) (outer:List PySem.Env) (s:Shared) (H:Hp) (vs:List V) (Q:VK) (E:XK),Room k (A.deeper (envOfC qual (defScope st) s.heap.objs.size f cdv))→sp vs H Q E →
      ∃t,PSs (cxOf CX0 P w K mg base N qual (defScope st) f cdv A outer s H E).nox (defBody st) t∧t { nx:=fun _ H'=>Q .non H',rt:=Q } (L2.start N vs) H):FnOk P w K mg base CX0 (k+1) f fd ps sp:=by
  obtain ⟨oc,od,dV,kV,doc,pm,an,cdv,ct,osl,rfl,lk,hcd⟩:=F.ex;refine fn_of lk hcd S len fun A outer s H vs Q E hr hsp=>?_;obtain ⟨t,h,q⟩:=hbody cdv A outer s H vs Q E hr hsp;exact ⟨t,h.nox,q⟩
theorem lift {w:World} {fd:FuncData} (Fn:Fun2 K x qual st fa fd) (S:FnScope N ps (defScope st)) (hpm:pm.length=ps.length) (hms:ms.length=N.length) (hle:ps.length≤N.length)
  (hmo:∀(i n:Nat),pm[i]?=some n→ms[i]?=some (Mo.al n)∨(n=0∧ms[i]?=some (Mo.ow 0)))
  (body:∀(cdv:Value) (A:Around) (outer:List PySem.Env) (s:Shared) (H:Hp) (E:XK),Room kk (A.deeper (envOfC qual (defScope st) s.heap.objs.size fa cdv))→XSs (cxOf CX0 P w K mg base N qual (defScope st) fa cdv A outer s H E).nox ct ms rk (defBody st) bf) :
  FnOk P w K mg base CX0 (kk+1) fa fd ps (LSp K ct pm rk (mOf N bf)):=by
 refine Fn.ok S (LSp.len hpm) fun cdv A outer s H vs Q E hr h=>?_;obtain ⟨F,ds,d,sF,l,hm,q⟩:=h;obtain ⟨t,pt,qt⟩:=body cdv A outer s H E hr;refine ⟨t,pt,?_⟩;obtain ⟨o,h1,h2⟩:=bind1 hm;have hvl:vs.length=pm.length:=l.length;have hdl:ds.length=vs.length:=l.length';refine qt F H F H (startD N ds) (L2.start N vs) o _ ⟨.refl _,.refl _,sF,fun _ _ _ _ h=>h,[],?_,List.nodup_nil,fun a z=>(by cases z)⟩ h1 ?_
 ·unfold startD L2.start;rw [hdl];exact SL.start _ l hmo (by omega)
 ·cases o with
  | nx ρ =>cases h2;exact fun σ F' H' r=>q .non F' H' [] ⟨r.f0,r.bh,r.fh,r.nf⟩ (Ow.scal .non rfl) List.nodup_nil fun a z=>(by cases z)
  | rt d' =>cases h2;exact fun v F' H' fp s1 s2 s3 s4 o nd hf=>q v F' H' fp ⟨s1,s2,s3,s4⟩ o nd hf
  | bk ρ=>cases h2
  | ct ρ=>cases h2
theorem OpR.or {f:Value→Value→Sem Value} {r':R2} (h:OpR X f r) (h':OpR X f r'):OpR X f (fun x y H Q=>r x y H Q∨r' x y H Q) :=
 fun pins s σ H x y v u Q I rx ry q=>q.elim (h pins s σ H x y v u Q I rx ry) (h' pins s σ H x y v u Q I rx ry)
variable {gv:Int→Int→V} {neg:Bool}
def i2 (g:Int→Int→D):D→D→Option D
 | .int i,.int j=>some (g i j)
 | _,_=>none
def i2c (C:Int→Int→Prop) [∀i j,Decidable (C i j)] (g:Int→Int→D):D→D→Option D
 | .int i,.int j=>if C i j then some (g i j) else none
 | _,_=>none
theorem op2_i {g:Int→Int→D} (hg:∀i j F,Dt K ct F (g i j) (gv i j)):Op2 K ct n m k (rI0 gv) (i2 g):=by
 intro F H x y d1 d2 d Q s l1 l2 e w;cases d1 with
 | int i =>
  cases d2 with
  | int j=>cases e; exact ⟨i,j,l1.int,l2.int,w _ F H (.refl s) (Al.of (hg i j F))⟩
  | _=>cases e
 | _=>cases e
theorem op2_ic {C C':Int→Int→Prop} [∀i j,Decidable (C i j)] {g:Int→Int→D} (hC:∀i j,C i j→C' i j) (hg:∀i j F,Dt K ct F (g i j) (gv i j)):Op2 K ct n m k (rI C' gv) (i2c C g):=by
 intro F H x y d1 d2 d Q s l1 l2 e w;cases d1 with
 | int i =>
  cases d2 with
  | int j =>
   unfold i2c at e;dsimp only at e;by_cases h:C i j
   ·rw [if_pos h] at e; cases e; exact ⟨i,j,l1.int,l2.int,hC i j h,w _ F H (.refl s) (Al.of (hg i j F))⟩
   ·rw [if_neg h] at e; cases e
  | _=>cases e
 | _=>cases e
def BIG:Nat:=2 ^ 9000
def HUGE:Nat:=2 ^ 100000
def subD:D→D→Option D:=i2 fun i j=>.int (i-j)
theorem op2_sub:Op2 K ct n m k (rI0 fun i j=>.int (i-j)) subD:=op2_i fun _ _ _=>.int _
def mulOk (i j:Int):Prop:=(-18446744073709551616<i∧i<18446744073709551616)∨(-18446744073709551616<j∧j<18446744073709551616)∨(i.natAbs<HUGE∧j.natAbs<HUGE)
instance (i j:Int):Decidable (mulOk i j):=by unfold mulOk; infer_instance
def mulI:D→D→Option D:=i2c mulOk fun i j=>.int (i * j)
theorem mulOk.ok {i j:Int} (h:mulOk i j):CMulS i j:=by
 rcases h with h | h | h
 ·exact .inl (.inl ⟨by have:=h.1; omega,by have:=h.2; omega⟩)
 ·exact .inl (.inr ⟨by have:=h.1; omega,by have:=h.2; omega⟩)
 ·exact .inr h
theorem op2_mul:Op2 K ct n m k (rI CMulS fun i j=>.int (i * j)) mulI:=op2_ic (fun _ _=>mulOk.ok) fun _ _ _=>.int _
def D.v:D→V
 | .bl b=>.bl b
 | .int i=>.int i
 | .str x=>.str x
 | _=>.non
theorem Dt.v {v:V} (h:Dt K ct F d v) (hs:d.sc=true):v=d.v:=by cases h <;> first | rfl | cases hs
theorem Al.v {v:V} (h:Al K ct F G n d v) (hs:d.sc=true):v=d.v:=Dt.v (Al.scal (F':=F) h hs) hs
def fdivD:D→D→Option D
 | .int i,.int j=>if 0<j∧j<4611686018427387904 then some (.int (i / j)) else if j≠0∧j.natAbs<BIG then some (.int (i.fdiv j)) else none
 | _,_=>none
theorem op2_fdiv:Op2 K ct n m k (rI (fun _ j=>j≠0∧Sz 9000 j) fun i j=>.int (i.fdiv j)) fdivD:=by
 intro F H x y d1 d2 d Q s l1 l2 e w;cases d1 with
 | int i =>
  cases d2 with
  | int j =>
   unfold fdivD at e;dsimp only at e;by_cases h:0<j∧j<4611686018427387904
   ·rw [if_pos h] at e;cases e;refine ⟨i,j,l1.int,l2.int,⟨by omega,?_⟩,?_⟩
    ·have:Sz 62 j:=by unfold Sz; omega
     exact this.mono (by decide)
    ·show Q (.int (i.fdiv j)) H;rw [Int.fdiv_eq_ediv_of_nonneg i (by omega)];exact w _ F H (.refl s) (Al.of (.int _))
   ·rw [if_neg h] at e;by_cases h:j≠0∧j.natAbs<BIG
    ·rw [if_pos h] at e;cases e;exact ⟨i,j,l1.int,l2.int,h,w _ F H (.refl s) (Al.of (.int _))⟩
    ·rw [if_neg h] at e; cases e
  | _=>cases e
 | _=>cases e
def modD:D→D→Option D
 | .int i,.int j=>if 0<j then some (.int (i % j)) else if j≠0 then some (.int (i.fmod j)) else none
 | _,_=>none
theorem op2_mod:Op2 K ct n m k (rI (fun _ j=>j≠0) fun i j=>.int (i.fmod j)) modD:=by
 intro F H x y d1 d2 d Q s l1 l2 e w;cases d1 with
 | int i =>
  cases d2 with
  | int j =>
   unfold modD at e;dsimp only at e;by_cases h:0<j
   ·rw [if_pos h] at e;cases e;refine ⟨i,j,l1.int,l2.int,by omega,?_⟩;show Q (.int (i.fmod j)) H;rw [Int.fmod_eq_emod_of_nonneg i (by omega)];exact w _ F H (.refl s) (Al.of (.int _))
   ·rw [if_neg h] at e;by_cases h:j≠0
    ·rw [if_pos h] at e;cases e;exact ⟨i,j,l1.int,l2.int,h,w _ F H (.refl s) (Al.of (.int _))⟩
    ·rw [if_neg h] at e; cases e
  | _=>cases e
 | _=>cases e
def powOk (i j:Int):Prop:=0≤j∧j≤1000000∧i.natAbs<18446744073709551616
instance (i j:Int):Decidable (powOk i j):=by unfold powOk; infer_instance
def powD:D→D→Option D:=i2c powOk fun i j=>.int (i ^ j.toNat)
theorem op2_pow:Op2 K ct n m k (rI CPow fun i j=>.int (i ^ j.toNat)) powD:=op2_ic (fun _ _ h=>⟨h.1,h.2.1,by have:=h.2.2; omega⟩) fun _ _ _=>.int _
def shlD:D→D→Option D:=i2c powOk fun i j=>.int (i * 2 ^ j.toNat)
theorem op2_shl:Op2 K ct n m k (rI CPow fun i j=>.int (i * 2 ^ j.toNat)) shlD:=op2_ic (fun _ _ h=>⟨h.1,h.2.1,by have:=h.2.2; omega⟩) fun _ _ _=>.int _
def shrD:D→D→Option D:=i2c (fun _ j=>0≤j) fun i j=>.int (i / 2 ^ j.toNat)
theorem op2_shr:Op2 K ct n m k (rI (fun _ j=>0≤j) fun i j=>.int (i / 2 ^ j.toNat)) shrD:=op2_ic (fun _ _ h=>h) fun _ _ _=>.int _
def ltD:D→D→Option D:=i2 fun i j=>.bl (decide (i<j))
def gtD:D→D→Option D:=i2 fun i j=>.bl (decide (j<i))
def geD:D→D→Option D:=i2 fun i j=>.bl (decide (j≤i))
theorem op2_lt:Op2 K ct n m k (rI0 fun i j=>.bl (decide (i<j))) ltD:=op2_i fun _ _ _=>.bl _
theorem op2_gt:Op2 K ct n m k (rI0 fun i j=>.bl (decide (j<i))) gtD:=op2_i fun _ _ _=>.bl _
theorem op2_ge:Op2 K ct n m k (rI0 fun i j=>.bl (decide (j≤i))) geD:=op2_i fun _ _ _=>.bl _
def rLeS:R2:=fun x y H Q=>∃i j,x=.str i∧y=.str j∧Q (.bl (!(decide (j.cps.toList<i.cps.toList)))) H
theorem op_leS:OpR X (compareOp .LtE) rLeS:=by intro pins s σ H x y v u Q I rx ry h;obtain ⟨i,j,rfl,rfl,q⟩:=h;obtain ⟨t,rfl⟩:=rx;obtain ⟨t',rfl⟩:=ry;exact PySem.P.le_str ⟨.bl _,H,I,rfl,q⟩
def leD:D→D→Option D
 | .int i,.int j=>some (.bl (decide (i≤j)))
 | .str i,.str j=>some (.bl (!(decide (j.cps.toList<i.cps.toList))))
 | _,_=>none
theorem op2_leA:Op2 K ct n m k (fun x y H Q=>rI0 (fun i j=>.bl (decide (i≤j))) x y H Q∨rLeS x y H Q) leD:=by
 intro F H x y d1 d2 d Q s l1 l2 e w;cases d1 with
 | int i =>
  cases d2 with
  | int j=>cases e; exact .inl ⟨i,j,l1.int,l2.int,w _ F H (.refl s) (Al.of (.bl _))⟩
  | _=>cases e
 | str i =>
  cases d2 with
  | str j=>cases e; exact .inr ⟨i,j,l1.str,l2.str,w _ F H (.refl s) (Al.of (.bl _))⟩
  | _=>cases e
 | _=>cases e
theorem op_leA:OpR X (compareOp .LtE) (fun x y H Q=>rI0 (fun i j=>.bl (decide (i≤j))) x y H Q∨rLeS x y H Q):=OpR.or op_le op_leS
def D.isN:D→Bool
 | .non=>true
 | _=>false
def D.isB (b:Bool):D→Bool
 | .bl c=>c == b
 | _=>false
def isD (neg:Bool):D→D→Option D
 | d,.non=>some (.bl (if neg then !d.isN else d.isN))
 | d,.bl b=>some (.bl (if neg then !d.isB b else d.isB b))
 | _,_=>none
theorem Al.ref {v:V} (h:Al K ct F G n d v) (hs:d.sc=false):∃a,v=.ref a:=by
 cases n with
 | zero=>cases (show Dt K ct F d v from h) <;> first | cases hs; done | exact ⟨_,rfl⟩
 | succ n=>rcases h with h | h <;> cases h <;> first | cases hs; done | exact ⟨_,rfl⟩
theorem Al.isn {v:V} (h:Al K ct F G n d v):decide (v=.non)=d.isN:=by
 cases hs:d.sc with
 | true =>have:=Al.v h hs;subst this;cases d <;> first | rfl | cases hs
 | false =>obtain ⟨a,rfl⟩:=h.ref hs;cases d <;> first | rfl | cases hs
theorem Al.isb {v:V} {b:Bool} (h:Al K ct F G n d v):decide (v=.bl b)=d.isB b:=by
 cases hs:d.sc with
 | true =>have:=Al.v h hs;subst this;cases d <;> first | rfl | (cases hs; done) | (rename_i c; cases b <;> cases c <;> rfl)
 | false =>obtain ⟨a,rfl⟩:=h.ref hs;cases d <;> first | rfl | cases hs
def rIs:R2:=fun x y H Q=>(y=.non∧Q (.bl (decide (x=.non))) H)∨∃b,y=.bl b∧Q (.bl (decide (x=.bl b))) H
def rIsNot:R2:=fun x y H Q=>(y=.non∧Q (.bl (!decide (x=.non))) H)∨∃b,y=.bl b∧Q (.bl (!decide (x=.bl b))) H
theorem op_is:OpR X (compareOp .Is) rIs:=OpR.or op_isN op_isB
theorem op_isNot:OpR X (compareOp .IsNot) rIsNot:=OpR.or op_notN op_isnotB
theorem op2_is:Op2 K ct n m k rIs (isD false):=by
 intro F H x y d1 d2 d Q s l1 l2 e w;cases d2 with
 | non =>cases e;refine .inl ⟨l2.non,?_⟩;rw [l1.isn];exact w _ F H (.refl s) (Al.of (.bl _))
 | bl b =>cases e;refine .inr ⟨b,l2.bl,?_⟩;rw [l1.isb];exact w _ F H (.refl s) (Al.of (.bl _))
 | _=>cases e
theorem op2_isNot:Op2 K ct n m k rIsNot (isD true):=by
 intro F H x y d1 d2 d Q s l1 l2 e w;cases d2 with
 | non =>cases e;refine .inl ⟨l2.non,?_⟩;rw [l1.isn];exact w _ F H (.refl s) (Al.of (.bl _))
 | bl b =>cases e;refine .inr ⟨b,l2.bl,?_⟩;rw [l1.isb];exact w _ F H (.refl s) (Al.of (.bl _))
 | _=>cases e
mutual
def D.py:D→Option PyData
 | .non=>some .none
 | .bl b=>some (.bool b)
 | .int i=>some (.int i)
 | .str x=>some (.str x)
 | .lst xs=>(D.pys xs).bind fun ys=>some (.list ys)
 | .tup xs=>(D.pys xs).bind fun ys=>some (.tuple ys)
 | _=>none
def D.pys:List D→Option (List PyData)
 | []=>some []
 | d::ds=>(D.py d).bind fun x=>(D.pys ds).bind fun xs=>some (x::xs)
end
theorem Dt.toPy (s:Same F H) {v:V} {e:PyData} (h:Dt K ct F d v) (q:d.py=some e):L2.Dt K H v e:=by
 refine Dt.rec (motive_1:=fun d v _=>∀e,d.py=some e→L2.Dt K H v e) (motive_2:=fun ds vs _=>∀es,D.pys ds=some es→L2.Dts K H vs es) ?_ ?_ ?_ ?_ ?_ ?_ ?_ ?_ ?_ ?_ ?_ ?_ ?_ ?_ h e q
 ·intro e h; rw [D.py] at h; cases h; exact .non
 ·intro b e h; rw [D.py] at h; cases h; exact .bl b
 ·intro b e h; rw [D.py] at h; cases h; exact .int b
 ·intro b e h; rw [D.py] at h; cases h; exact .str b
 ·intro _ _ _ q _ t e h;rw [D.py] at h;obtain ⟨ys,h1,h2⟩:=bind1 h;cases h2;exact .lst (s.seq q) (t _ h1)
 ·intro _ _ _ q _ t e h;rw [D.py] at h;obtain ⟨ys,h1,h2⟩:=bind1 h;cases h2;exact .tup (SqT.of (s _ _ q)) (t _ h1)
 ·intro _ _ _ _ _ _ _ _ e h; simp only [D.py] at h; cases h
 ·intro _ _ _ _ _ _ _ _ e h; simp only [D.py] at h; cases h
 ·intro _ _ _ _ _ _ _ _ _ _ e h; simp only [D.py] at h; cases h
 ·intro _ _ _ _ e h; simp only [D.py] at h; cases h
 ·intro _ _ _ _ _ _ _ _ _ _ _ _ e h; simp only [D.py] at h; cases h
 ·intro _ _ _ _ _ _ e h; simp only [D.py] at h; cases h
 ·intro e h; rw [D.pys] at h; cases h; exact .nil
 ·intro _ _ _ _ _ _ p t e h;rw [D.pys] at h;obtain ⟨y,ys,h1,h2,h3⟩:=bind2 h;cases h3;exact .cons (p _ h1) (t _ h2)
theorem Pr.toPy (f:∀d v e,R d v→d.py=some e→L2.Dt K H v e) {es:List PyData} (h:Pr R ds vs) (e:D.pys ds=some es):L2.Dts K H vs es:=by
 induction h generalizing es with
 | nil=>rw [D.pys] at e; cases e; exact .nil
 | cons h t ih =>rw [D.pys] at e;obtain ⟨y,ys,h1,h2,h3⟩:=bind2 e;cases h3;exact .cons (f _ _ _ h h1) (ih h2)
theorem Al.toPy (s:Same F H) {v:V} {e:PyData} (h:Al K ct F H n d v) (q:d.py=some e):L2.Dt K H v e:=by
 induction n generalizing d v e with
 | zero=>exact Dt.toPy s h q
 | succ n ih =>
  cases h with
  | inl h=>exact Dt.toPy s h q
  | inr h =>
   cases h with
   | lst h t =>rw [D.py] at q;obtain ⟨ys,h1,h2⟩:=bind1 q;cases h2;exact .lst (SqL.of h) (Pr.toPy (fun _ _ _=>ih) t h1)
   | tup h t =>rw [D.py] at q;obtain ⟨ys,h1,h2⟩:=bind1 q;cases h2;exact .tup (SqT.of (s _ _ h)) (Pr.toPy (fun _ _ _=>ih) t h1)
   | _=>simp only [D.py] at q; cases q
def pyOk (a:PyData):Bool:=a.canLay0 && decide (a.depth≤60)
def eqD (neg:Bool) (x y:D):Option D:=x.py.bind fun a=>y.py.bind fun b=>if pyOk a=true∧pyOk b=true then some (.bl (if neg then !PyData.eqv a b else PyData.eqv a b)) else none
theorem op2_eq:Op2 K ct n m k (rEqD K neg) (eqD neg):=by
 intro F H x y d1 d2 d Q s l1 l2 e w;obtain ⟨a,b,h1,h2,h3⟩:=bind2 e;by_cases h:pyOk a=true∧pyOk b=true
 ·rw [if_pos h] at h3;cases h3;have o1:=h.1;have o2:=h.2;unfold pyOk at o1 o2;rw [Bool.and_eq_true,decide_eq_true_iff] at o1 o2;exact ⟨a,b,Al.toPy s l1 h1,Al.toPy s l2 h2,o1.1,o2.1,Nat.le_trans (Nat.min_le_left _ _) o1.2,w _ F H (.refl s) (Al.of (.bl _))⟩
 ·rw [if_neg h] at h3; cases h3
variable {κ:Type} {cpos:Pos}
theorem Pr.atI {i:Int} (h:Pr R ds vs) (e:atI ds i=some d):∃v,atI vs i=some v∧R d v:=by unfold L2.atI at e ⊢;rw [← h.length];obtain ⟨j,h1,h2⟩:=bind1 e;obtain ⟨v,h3,h4⟩:=h.get' h2;exact ⟨v,by rw [h1]; exact h3,h4⟩
def keyD:D→Option Key
 | .int i=>some (.inl i)
 | .str x=>some (.inr x)
 | _=>none
def keysD:List D→Option (List Key)
 | []=>some []
 | d::ds=>(keyD d).bind fun k=>(keysD ds).bind fun ks=>some (k::ks)
def getK [DecidableEq κ] (ks:List κ) (ds:List D) (k:κ):Option D:=((ks.zip ds).find? fun p=>decide (p.1=k)).map (·.2)
def RO (R:D→V→Prop):Option D→Option V→Prop
 | some d,some u=>R d u
 | none,none=>True
 | _,_=>False
theorem RO.some_of {q:Option V} (h:RO R (some d) q):∃u,q=some u∧R d u:=by
 cases q with
 | none=>exact h.elim
 | some u=>exact ⟨u,rfl,h⟩
theorem RO.none_of {q:Option V} (h:RO R none q):q=none:=by
 cases q with
 | none=>rfl
 | some u=>exact h.elim
theorem getK_val {κ:Type} [DecidableEq κ] {R:D→V→Prop} {k:κ}:∀{ks:List κ} {ds:List D} {vs:List V},Pr R ds vs→RO R (getK ks ds k) (valV (ks.zip vs) k)
 | [],_,_,_=>by simp [getK,valV,RO]
 | _::_,_,_,.nil=>by simp [getK,valV,RO]
 | y::ks,d::ds,v::vs,.cons h t=>by
  by_cases e:y=k
  ·have h1:getK (y::ks) (d::ds) k=some d:=by simp [getK,List.find?_cons,e]
   have h2:valV ((y::ks).zip (v::vs)) k=some v:=by simp [valV,List.find?_cons,e]
   rw [h1,h2];exact h
  ·have h1:getK (y::ks) (d::ds) k=getK ks ds k:=by simp [getK,List.find?_cons,e]
   have h2:valV ((y::ks).zip (v::vs)) k=valV (ks.zip vs) k:=by simp [valV,List.find?_cons,e]
   rw [h1,h2];exact getK_val t
theorem keyD_v {v:V} {k:Key} (e:keyD d=some k) (h:Al K ct F G n d v):v=kV k:=by
 cases d with
 | int i=>cases e; exact h.int
 | str i=>cases e; exact h.str
 | _=>cases e
theorem keysD_v {ks:List Key} (e:keysD ds=some ks) (h:Pr (Al K ct F G n) ds vs):vs=ks.map kV:=by
 induction h generalizing ks with
 | nil=>cases e; rfl
 | cons h t ih =>unfold keysD at e;obtain ⟨k,ks,h1,h2,h3⟩:=bind2 e;cases h3;rw [keyD_v h1 h,ih h2]; rfl
def dgetD (o y:D):Option (Option D):=match o with
 | .dK ks ds=>(keyD y).bind fun k=>some (getK ks ds k)
 | .dT ks ds=>(match y with | .tup ys=>(keysD ys).bind fun k=>some (getK ks ds k) | _=>none)
 | _=>none
theorem dget_of {o y:D} {x v:V} (s:Same F G) (l1:Al K ct F G n o x) (l2:Al K ct F G m y v) {r:Option D} (e:dgetD o y=some r) :
  ∃a q,x=.ref a∧DGet G a v q∧IsD G a∧RO (Al K ct F G (n-1)) r q:=by
 cases o with
 | dK ks ds =>obtain ⟨a,vs,rfl,ha,hl,hp⟩:=l1.dK s;obtain ⟨k,h1,h2⟩:=bind1 e;cases h2;have hv:=keyD_v h1 l2;subst hv;exact ⟨a,_,rfl,DGet.k ha,.inl ⟨_,.inl ha⟩,getK_val hp⟩
 | dT ks ds =>
  obtain ⟨a,vs,rfl,ha,hl,hp⟩:=l1.dT s;cases y with
  | tup ys =>obtain ⟨k,h1,h2⟩:=bind1 e;cases h2;obtain ⟨b,us,rfl,hb,hpb⟩:=l2.tup s;have hv:=keysD_v h1 hpb;subst hv;exact ⟨a,_,rfl,.inr ⟨_,_,_,ha,rfl,hb,rfl⟩,.inr ⟨_,ha⟩,getK_val hp⟩
  | _=>cases e
 | _=>cases e
def ixD:D→D→Option D
 | .lst ds,.int i=>atI ds i
 | .tup ds,.int i=>atI ds i
 | .kt ds,.int i=>atI ds i
 | .str x,.int i=>if x.length≤16777216 then (atI x.cps.toList i).bind fun c=>some (.str ⟨#[c]⟩) else none
 | _,_=>none
theorem op2_ix:Op2 K ct n m (n-1) (rIx K) ixD:=by
 intro F H x y d1 d2 d Q s l1 l2 e w;cases d1 with
 | lst ds =>
  cases d2 with
  | int i =>obtain ⟨a,vs,rfl,ha,hp⟩:=l1.lst s;obtain ⟨v,h1,h2⟩:=hp.atI e;exact .inl ⟨a,vs,i,v,rfl,l2.int,ha,h1,w v F H (.refl s) h2⟩
  | _=>cases e
 | tup ds =>
  cases d2 with
  | int i =>obtain ⟨a,vs,rfl,ha,hp⟩:=l1.tup s;obtain ⟨v,h1,h2⟩:=hp.atI e;exact .inr (.inl ⟨a,vs,i,v,rfl,l2.int,SqT.of ha,h1,w v F H (.refl s) h2⟩)
  | _=>cases e
 | kt ds =>
  cases d2 with
  | int i =>obtain ⟨a,vs,rfl,ha,hp⟩:=l1.kt;obtain ⟨v,h1,h2⟩:=hp.atI e;exact .inr (.inl ⟨a,vs,i,v,rfl,l2.int,.inr ha,h1,w v F H (.refl s) (Al.of h2)⟩)
  | _=>cases e
 | str z =>
  cases d2 with
  | int i =>
   unfold ixD at e;dsimp only at e;by_cases h:z.length≤16777216
   ·rw [if_pos h] at e;obtain ⟨c,h1,h2⟩:=bind1 e;cases h2;exact .inr (.inr ⟨z,i,c,l1.str,l2.int,by rw [sizeLine_eq]; exact h,h1,w _ F H (.refl s) (Al.of (.str _))⟩)
   ·rw [if_neg h] at e; cases e
  | _=>cases e
 | _=>cases e
theorem xe_dix (hu:X.A.units+1<cLine) (ha:XE X ct ms n a f) (hb:XE X ct ms m b g) (hs:NoSl b):XE X ct ms (n-1) (.Subscript a b pos) (fun ρ=>(f ρ).bind fun x=>(g ρ).bind fun y=>(dgetD x y).join):=by obtain ⟨ta,tb,pa,pb,q⟩:=ha.bin hb;refine ⟨_,pe_dget hu pa pb hs,fun F0 B F H ρ σ d Q rs e w=>?_⟩;obtain ⟨d1,d2,h1,h2,h3⟩:=bind2 e;refine q F0 B F H ρ σ d1 d2 _ rs h1 h2 fun x y F' H' x1 l1 l2=>?_;obtain ⟨a,o,rfl,g,_,h⟩:=dget_of (r:=some d) x1.fh l1 l2 (join_some h3);obtain ⟨u,rfl,hu'⟩:=h.some_of;exact ⟨a,u,rfl,g,w u F' H' x1 hu'⟩
theorem xe_get1 (hu:X.A.units+1<cLine) (ho:XE X ct ms n o f) (he:XE X ct ms m e g) (h1:M1 X o "get" apos e cpos):XE X ct ms (n-1) (.Call (.Attribute o "get" apos) [e] [] cpos) (fun ρ=>(f ρ).bind fun x=>(g ρ).bind fun y=>(dgetD x y).bind fun r=>some (r.getD .non)):=by
 obtain ⟨ta,pa,qa⟩:=ho;obtain ⟨tb,pb,qb⟩:=he;refine ⟨_,pe_dget1 hu pa pb h1,fun F0 B F H ρ σ d Q rs e w=>?_⟩;obtain ⟨d1,d2,e1,e2,e3⟩:=bind2 e;obtain ⟨r,e4,e5⟩:=bind1 e3;cases e5;refine qa F0 B F H ρ σ d1 _ rs e1 fun x F1 H1 x1 l1=>?_;have:∃a,x=.ref a∧IsD H1 a:=by
  cases d1 with
  | dK ks ds=>obtain ⟨a,vs,rfl,ha,_⟩:=l1.dK x1.fh; exact ⟨a,rfl,.inl ⟨_,.inl ha⟩⟩
  | dT ks ds=>obtain ⟨a,vs,rfl,ha,_⟩:=l1.dT x1.fh; exact ⟨a,rfl,.inr ⟨_,ha⟩⟩
  | _=>cases e4
 obtain ⟨a,rfl,isd⟩:=this;refine ⟨a,rfl,isd,qb F0 B F1 H1 ρ σ d2 _ (rs.ext x1) e2 fun y F2 H2 x2 l2=>?_⟩;obtain ⟨a',o,ea,gg,_,h⟩:=dget_of (r:=r) x2.fh (l1.mono x2.ff x2.hh) l2 e4;cases ea;refine ⟨o,gg,?_⟩;cases r with
 | none=>rw [h.none_of]; exact w _ F2 H2 (x1.trans x2) (Al.of .non)
 | some d=>obtain ⟨u,rfl,hu'⟩:=h.some_of; exact w _ F2 H2 (x1.trans x2) hu'
def eqS:D→D→Bool
 | .non,.non=>true
 | .bl a,.bl b=>a == b
 | .bl a,.int b=>(if a then 1 else 0) == b
 | .int a,.bl b=>a == (if b then 1 else 0)
 | .int a,.int b=>a == b
 | .str a,.str b=>a == b
 | _,_=>false
theorem eqS_v {x y:D} (hx:x.sc=true) (hy:y.sc=true):eqV x.v y.v=eqS x y:=by cases x <;> first | cases hx; done | (cases y <;> first | cases hy; done | rfl)
def lenD:List D→Option D
 | [.lst ds]=>some (.int ds.length)
 | [.tup ds]=>some (.int ds.length)
 | [.kt ds]=>some (.int ds.length)
 | [.dK ks _]=>some (.int ks.length)
 | [.str x]=>if x.length≤16777216 then some (.int x.length) else none
 | _=>none
def rLen (K:PySem.W.Frag):List V→Hp→VK→Prop:=fun xs H Q=>(∃p ys,xs=[.ref p]∧(SqL K H p ys∨SqT K H p ys)∧Q (.int ys.length) H)∨(∃z,xs=[.str z]∧z.length≤sizeLine∧Q (.int z.length) H)∨∃a kvs,xs=[V.ref a]∧H a=some (.dK kvs)∧Q (.int kvs.length) H
theorem call_lenA:CallR X (.builtin "len") (rLen X.K):=call_len_seq.or (call_len_str.or call_lenD)
theorem opn_len:OpN K ct [n] k (rLen K) lenD:=by
 intro F H vs ds d Q s l e w;cases l with
 | cons h t =>
  cases t;rename_i d1 v;cases d1 with
  | lst xs =>cases e;obtain ⟨a,us,rfl,ha,hp⟩:=h.lst s;refine .inl ⟨a,us,rfl,.inl ha,?_⟩;rw [← hp.length];exact w _ F H (.refl s) (Al.of (.int _))
  | tup xs =>cases e;obtain ⟨a,us,rfl,ha,hp⟩:=h.tup s;refine .inl ⟨a,us,rfl,.inr (SqT.of ha),?_⟩;rw [← hp.length];exact w _ F H (.refl s) (Al.of (.int _))
  | kt xs =>cases e;obtain ⟨a,us,rfl,ha,hp⟩:=h.kt;refine .inl ⟨a,us,rfl,.inr (.inr ha),?_⟩;rw [← hp.length];exact w _ F H (.refl s) (Al.of (.int _))
  | str x =>
   unfold lenD at e;dsimp only at e;by_cases hz:x.length≤16777216
   ·rw [if_pos hz] at e;cases e;exact .inr (.inl ⟨x,by rw [h.str],by rw [sizeLine_eq]; exact hz,w _ F H (.refl s) (Al.of (.int _))⟩)
   ·rw [if_neg hz] at e; cases e
  | dK ks xs =>cases e;obtain ⟨a,us,rfl,ha,hl,hp⟩:=h.dK s;refine .inr (.inr ⟨a,_,rfl,ha,?_⟩);rw [List.length_zip,← hl,Nat.min_self];exact w _ F H (.refl s) (Al.of (.int _))
  | _=>cases e
variable {ι:Type} {cap:List Nat} {elt:Expr} {ifs:List Expr} {om:List Mo} {own:Nat} {scope:Scope}
theorem fam_o {Xs:ι→Cx} (hK:∀i,(Xs i).K=K) (h:∀i,XO (Xs i) ct ms n e f):∃t,(∀i,PE (Xs i) e t)∧∀(F0 B F H:Hp) (ρ:Env) (σ:St) (d:D) (Q:VK),RS K ct F0 B ms F H ρ σ→f ρ=some d →
  (∀v F' H' fp,Ext F H F' H'→Ow K ct F' H' n d v fp→fp.Nodup→(∀a∈fp,H a=none)→Q v H')→t σ H Q:=by
 refine ⟨fun σ H Q=>∀i,(h i).choose σ H Q,fun i pins s σ H Q I q=>(h i).choose_spec.1 pins s σ H Q I (q i),fun F0 B F H ρ σ d Q rs e w i=>?_⟩;exact (h i).choose_spec.2 F0 B F H ρ σ d Q (by rw [hK i]; exact rs) e fun v F' H' fp x l=>w v F' H' fp x (by rw [← hK i]; exact l)
def XTs (X:Cx) (ct:Nat→Addr) (ms:List Mo) (ifs:List Expr) (f:BF):Prop:=∃t,PTs X ifs t∧∀(F0 B F H:Hp) (ρ:Env) (σ:St) (b:Bool) (Q:Bool→Hp→Prop),RS X.K ct F0 B ms F H ρ σ→f ρ=some b→(∀F' H',Ext F H F' H'→Q b H')→t σ H Q
def bTrue:BF:=fun _=>some true
theorem xts_nil:XTs X ct ms [] bTrue:=⟨_,pts_nil,fun F0 B F H ρ σ b Q rs e w=>by cases e; exact w F H (.refl rs.fh)⟩
theorem xts_one (h:XT X ct ms c p):XTs X ct ms [c] p:=by obtain ⟨t,pt,qt⟩:=h;exact ⟨t,pts_one pt,qt⟩
theorem fam_t {Xs:ι→Cx} {f:BF} (hK:∀i,(Xs i).K=K) (h:∀i,XTs (Xs i) ct ms ifs f):∃t,(∀i,PTs (Xs i) ifs t)∧∀(F0 B F H:Hp) (ρ:Env) (σ:St) (b:Bool) (Q:Bool→Hp→Prop),RS K ct F0 B ms F H ρ σ→f ρ=some b →
  (∀F' H',Ext F H F' H'→Q b H')→t σ H Q:=by
 refine ⟨fun σ H Q=>∀i,(h i).choose σ H Q,fun i pins s σ H Q I q=>(h i).choose_spec.1 pins s σ H Q I (q i),fun F0 B F H ρ σ d Q rs e w i=>?_⟩;exact (h i).choose_spec.2 F0 B F H ρ σ d Q (by rw [hK i]; exact rs) e w
def monoG (g:α→St→Hp→(St→Hp→Prop)→Prop):Prop:=∀v σ H Q Q',(∀σ' H',Q σ' H'→Q' σ' H')→g v σ H Q→g v σ H Q'
def XGc (X:Cx) (ct:Nat→Addr) (ms:List Mo) (own n:Nat) (tg:Expr) (g:D→Env→Option Env):Prop:=∃t,PG X tg t∧keepsCaps own t∧monoG t∧∀(F0 B F H:Hp) (ρ ρ':Env) (σ:St) (d:D) (v:V) (Q:St→Hp→Prop),RS X.K ct F0 B ms F H ρ σ→Al X.K ct F B n d v→g d ρ=some ρ' →
 (∀σ',RS X.K ct F0 B ms F H ρ' σ'→Q σ' H)→t v σ H Q
theorem fam_g {Xs:ι→Cx} {g:D→Env→Option Env} (hK:∀i,(Xs i).K=K) (h:∀i,XGc (Xs i) ct ms own n tg g):∃t,(∀i,PG (Xs i) tg t)∧keepsCaps own t∧∀(F0 B F H:Hp) (ρ ρ':Env) (σ:St) (d:D) (v:V) (Q:St→Hp→Prop),RS K ct F0 B ms F H ρ σ→Al K ct F B n d v→g d ρ=some ρ' →
  (∀σ',RS K ct F0 B ms F H ρ' σ'→Q σ' H)→t v σ H Q:=by
 refine ⟨fun v σ H Q=>∀i,(h i).choose v σ H Q,fun i pins s σ H v u Q I r q=>(h i).choose_spec.1 pins s σ H v u Q I r (q i),fun v σ H Q q i=>(h i).choose_spec.2.1 v σ H Q (q i),fun F0 B F H ρ ρ' σ d v Q rs l e w i=>?_⟩;exact (h i).choose_spec.2.2.2 F0 B F H ρ ρ' σ d v Q (by rw [hK i]; exact rs) (by rw [hK i]; exact l) e fun σ' r=>w σ' (by rw [← hK i]; exact r)
theorem xgc_name (ho:i<own) (hm:ms[i]?=some (.ow 0)) (hN:X.N.Nodup) (hi:X.N[i]?=some x) (hx:Loc X.env.scope x)
  (hf:X.fn x=true∨X.env.scope.names.lookup x=some .local:=by first | exact .inl rfl | exact .inr rfl | assumption):XGc X ct ms own 0 (.Name x pos) (gV i):=by
 refine ⟨_,pg_name hN hi hx hf,keeps_name i own ho,fun v σ H Q Q' m q=>m _ _ q,fun F0 B F H ρ ρ' σ d v Q rs l e w=>?_⟩;cases e;exact w _ (rs.set hm (.refl rs.fh) (Ow.zero l) List.nodup_nil fun a z=>(by cases z))
def capsD (ρ:Env) (cap:List Nat):Env:=cap.map fun i=>(ρ[i]?).join
def capsM (ms:List Mo) (cap:List Nat):List Mo:=cap.map fun i=>.al (((ms[i]?).map Mo.lv).getD 0)
def compD (g:D→Env→Option Env) (p:BF) (f:EF) (ρ0:Env):List D→Option (List D)
 | []=>some []
 | d::ds=>(g d ρ0).bind fun ρ1=>(p ρ1).bind fun b=>if b=true then (f ρ1).bind fun y=>(compD g p f ρ0 ds).bind fun ys=>some (y::ys) else compD g p f ρ0 ds
def eComp (fi:Env→Option (List D)) (own:Nat) (cap:List Nat) (g:D→Env→Option Env) (p:BF) (f:EF):EF:=fun ρ=>(fi ρ).bind fun ds=>if ds.length≤16777216 then (compD g p f (List.replicate own none++capsD ρ cap) ds).bind fun ys=>some (.lst ys) else none
theorem SL.caps {F B H:Hp} {ms:List Mo} {ρ:Env} {σ:St} (rs:RS K ct F0 B ms F H ρ σ):∀{cap:List Nat},(∀i∈cap,i<ms.length)→SL K ct F H H (capsM ms cap) (capsD ρ cap) (capsOf σ cap) []
 | [],_=>.nil
 | i::cap,h=>by
  have ih:=SL.caps rs (cap:=cap) fun j hj=>h j (List.mem_cons_of_mem _ hj);have hi:i<ms.length:=h i List.mem_cons_self;have hm:ms[i]?=some ms[i]:=by simp [hi]
  show SL K ct F H H (.al (((ms[i]?).map Mo.lv).getD 0)::capsM ms cap) ((ρ[i]?).join::capsD ρ cap) ((σ[i]?).join::capsOf σ cap) [];cases e:(ρ[i]?).join with
  | none=>exact .no ih
  | some d =>obtain ⟨v,hv,l⟩:=rs.get hm (join_some e);rw [hv,hm];exact .al l ih
theorem SL.nones {F B H:Hp} {ms ms':List Mo} {ρ:Env} {σ:St} {fp:List Addr} (t:SL K ct F B H ms ρ σ fp):∀{om:List Mo},SL K ct F B H (om++ms) (List.replicate om.length none ++ ρ) (List.replicate om.length none ++ σ) fp
 | []=>t
 | m::om=>.no (SL.nones (ms':=ms') t)
theorem xo_compF {pos:Pos} {c:Prop}
  (B:BlkOk X scope N own cap) (hc:c) (ho:om.length=own) (hcap:∀i∈cap,i<ms.length) (hi:XIcc X c ct ms n tg iter fi)
  (hg:∀cl C fp s₀ H₀,XGc (cxB X scope cl N C fp s₀ H₀) ct (om++capsM ms cap) own n tg gg) (ht:∀cl C fp s₀ H₀,XTs (cxB X scope cl N C fp s₀ H₀) ct (om++capsM ms cap) ifs p) (he:∀cl C fp s₀ H₀,XO (cxB X scope cl N C fp s₀ H₀) ct (om++capsM ms cap) k elt f)
  :
  ∃wi g tt te,PIc X c tg iter wi∧keepsCaps own g∧(∀cl C fp s₀ H₀,PG (cxB X scope cl N C fp s₀ H₀) tg g)∧(∀cl C fp s₀ H₀,PTs (cxB X scope cl N C fp s₀ H₀) ifs tt)∧(∀cl C fp s₀ H₀,PE (cxB X scope cl N C fp s₀ H₀) elt te) ∧
   ∀(F0 B F H:Hp) (ρ:Env) (σ:St) (d:D) (Q:VK),RS X.K ct F0 B ms F H ρ σ→eComp fi own cap gg p f ρ=some d→(∀v F' H' fp,Ext F H F' H'→Ow X.K ct F' H' (k+1) d v fp→fp.Nodup→(∀a∈fp,H a=none)→Q v H')→tComp wi own cap g tt te σ H Q:=by
 obtain ⟨wi,pi,qi⟩:=hi;obtain ⟨tg',pg,kg,qg⟩:=fam_g (K:=X.K) (Xs:=fun z:List (Str×Addr)×Addr×List Addr×Shared×Hp=>cxB X scope z.1 N z.2.1 z.2.2.1 z.2.2.2.1 z.2.2.2.2) (fun _=>rfl) (fun z=>hg z.1 z.2.1 z.2.2.1 z.2.2.2.1 z.2.2.2.2);obtain ⟨tt,pt,qt⟩:=fam_t (K:=X.K) (Xs:=fun z:List (Str×Addr)×Addr×List Addr×Shared×Hp=>cxB X scope z.1 N z.2.1 z.2.2.1 z.2.2.2.1 z.2.2.2.2) (fun _=>rfl) (fun z=>ht z.1 z.2.1 z.2.2.1 z.2.2.2.1 z.2.2.2.2);obtain ⟨te,pe,qe⟩:=fam_o (K:=X.K) (Xs:=fun z:List (Str×Addr)×Addr×List Addr×Shared×Hp=>cxB X scope z.1 N z.2.1 z.2.2.1 z.2.2.2.1 z.2.2.2.2) (fun _=>rfl) (fun z=>he z.1 z.2.1 z.2.2.1 z.2.2.2.1 z.2.2.2.2);refine ⟨wi,tg',tt,te,pi,kg,(fun cl C fp s₀ H₀=>pg (cl,C,fp,s₀,H₀)),(fun cl C fp s₀ H₀=>pt (cl,C,fp,s₀,H₀)),(fun cl C fp s₀ H₀=>pe (cl,C,fp,s₀,H₀)),fun F0 B F H ρ σ r Q rs e w=>?_⟩;obtain ⟨ds,h1,h2⟩:=bind1 e;by_cases hz:ds.length≤16777216
 case neg=>rw [if_neg hz] at h2; cases h2
 rw [if_pos hz] at h2;obtain ⟨ys,h3,h4⟩:=bind1 h2;cases h4;refine qi F0 B F H ρ σ ds _ rs h1 fun J F1 H1 x1 ok A hA=>?_;have rs1:=rs.ext x1;refine ⟨fun i m us H2=>m=ds.length-i∧i≤ds.length∧us.length≤i∧H2 A=some (.lst us)∧∃F2 yd zd fp,Ext F1 H1 F2 H2∧F2 A=none∧OwL (Ow X.K ct F2 H2 k) yd us fp∧fp.Nodup∧(∀a∈fp,H1 a=none∧a≠A)∧compD gg p f (List.replicate own none++capsD ρ cap) (ds.drop i)=some zd∧yd++zd=ys,
  ⟨ds.length,rfl,Nat.zero_le _,Nat.le_refl _,upd_same,F1,[],ys,[],Ext.newO x1.fh hA _,x1.fh.free hA,.nil,List.nodup_nil,fun a z=>(by cases z),h3,rfl⟩,?_⟩
 rintro i m us H2 ⟨rfl,hil,hul,hA2,F2,yd,zd,fp,x2,fA,ol,nd,hf,hcd,hys⟩;refine ⟨hA2,?_⟩;have rs2:=rs1.ext x2;obtain ⟨k1,k2⟩:=ok i F2 H2 x2.ff x2.hh x2.fh;by_cases hlt:i<ds.length
 ·right;have hd:ds[i]?=some ds[i]:=by simp [hlt]
  obtain ⟨go,yl⟩:=k1 _ hd;rw [List.drop_eq_getElem_cons hlt] at hcd;obtain ⟨ρ1,h5,h6⟩:=bind1 hcd;obtain ⟨b,h7,h8⟩:=bind1 h6;refine ⟨go,by rw [sizeLine_eq]; omega,fun x H3 y=>?_⟩;obtain ⟨F3,x3,l⟩:=yl x H3 y;have rs3:=rs2.ext x3;have sl:=SL.nones (ms':=[]) (SL.caps rs3 hcap) (om:=om);rw [ho] at sl;have rsI:RS X.K ct F3 H3 (om++capsM ms cap) F3 H3 (List.replicate own none++capsD ρ cap) (List.replicate own none++capsOf σ cap):=⟨.refl _,.refl _,x3.fh,fun _ _ _ _ h=>h,[],sl,List.nodup_nil,fun a z=>(by cases z)⟩;have A3:H3 A=some (.lst us):=x3.hh _ _ hA2;have fA3:F3 A=none:=x3.nf A _ hA2 nofun fA;refine qg F3 H3 F3 H3 _ ρ1 _ _ x _ rsI (l.mono (.refl _) (x2.trans x3).hh) h5 fun σ1 r1=>?_;refine qt F3 H3 F3 H3 ρ1 σ1 b _ r1 h7 fun F4 H4 x4=>?_;cases b with
  | false =>rw [if_neg Bool.false_ne_true] at h8 ⊢;have x24:=x3.trans x4;refine ⟨ds.length-(i+1),by omega,rfl,hlt,by omega,x4.hh _ _ A3,F4,yd,zd,fp,x2.trans x24,x4.nf A _ A3 nofun fA3,ol.mono fun _ _ _ _ o=>o.ext x24,nd,hf,h8,hys⟩
  | true =>
   rw [if_pos rfl] at h8 ⊢;obtain ⟨yv,h9,h10⟩:=bind1 h8;obtain ⟨zs,h11,h12⟩:=bind1 h10;cases h12;refine qe F3 H3 F4 H4 ρ1 σ1 yv _ (r1.ext x4) h9 fun v F5 H5 f5 x5 o5 n5 hf5=>?_;have x25:=(x3.trans x4).trans x5;have x45:=x4.trans x5;have A5:H5 A=some (.lst us):=x45.hh _ _ A3;have fA5:F5 A=none:=x45.nf A _ A3 nofun fA3;have A4:H4 A=some (.lst us):=x4.hh _ _ A3;have hA5:∀a∈f5,a≠A:=fun a z e=>by rw [e] at z; rw [hf5 A z] at A4; cases A4
   refine ⟨A5,ds.length-(i+1),by omega,rfl,hlt,by rw [List.length_append,List.length_singleton]; omega,upd_same,F5,yd++[yv],zs,fp++(f5++[]),?_,fA5,?_,?_,?_,h11,by rw [List.append_assoc]; exact hys⟩
   ·have x15:=x2.trans x25;refine ⟨x15.ff,fun a o h=>?_,fun a o h=>?_,x15.nf⟩
    ·rw [upd_ne (ne_of_none h hA)]; exact x15.hh _ _ h
    ·rw [upd_ne (fun z=>by rw [z] at h; rw [fA5] at h; cases h)]; exact x15.fh _ _ h
   ·refine (ol.mono fun _ _ f hfi o=>?_).append (.cons ?_ .nil)
    ·refine (o.ext x25).frame (.refl _) fun a z=>⟨upd_ne (hf a (hfi a z)).2,((o.ext x25).cells a z).1⟩
    ·exact o5.frame (.refl _) fun a z=>⟨upd_ne (hA5 a z),(o5.cells a z).1⟩
   ·rw [List.append_nil];refine List.nodup_append.mpr ⟨nd,n5,fun a z c hc e=>?_⟩;subst e;have:∃o,H2 a=some o:=let ⟨o,h,_⟩:=(OwL.cellsOf ol a z).2; ⟨o,h⟩;obtain ⟨o,ho⟩:=this;have:=x4.hh _ _ (x3.hh _ _ ho);rw [hf5 a hc] at this;cases this
   ·intro a z;rw [List.append_nil] at z;rcases List.mem_append.mp z with z | z
    ·exact hf a z
    ·refine ⟨?_,hA5 a z⟩;have x14:=x2.trans (x3.trans x4);exact x14.hh.free (hf5 a z)
 ·left;refine ⟨k2 (by omega),?_⟩
  have:ds.drop i=[]:=List.drop_eq_nil_of_le (by omega);rw [this] at hcd;cases hcd;rw [List.append_nil] at hys;subst hys;refine w _ F2 H2 (A::fp) (x1.trans x2) (.inr (.lst fA hA2 ol)) (List.nodup_cons.mpr ⟨fun z=>(hf A z).2 rfl,nd⟩) fun a z=>?_;rcases List.mem_cons.mp z with rfl | z
  ·exact x1.hh.free hA
  ·exact x1.hh.free (hf a z).1
theorem xo_comp {c:Prop}
  (B:BlkOk X scope N own cap) (hc:c) (ho:om.length=own) (hcap:∀i∈cap,i<ms.length) (hi:XIcc X c ct ms n tg iter fi)
  (hg:∀cl C fp s₀ H₀,XGc (cxB X scope cl N C fp s₀ H₀) ct (om++capsM ms cap) own n tg gg) (ht:∀cl C fp s₀ H₀,XTs (cxB X scope cl N C fp s₀ H₀) ct (om++capsM ms cap) ifs p) (he:∀cl C fp s₀ H₀,XO (cxB X scope cl N C fp s₀ H₀) ct (om++capsM ms cap) k elt f)
  (hs:∀x,foldedSetIterable iter X.env x=pure x:=by intro _; rfl):XO X ct ms (k+1) (.ListComp elt [⟨tg,iter,ifs,0⟩] scope pos) (eComp fi own cap gg p f):=by
 obtain ⟨wi,g,tt,te,pi,kg,pg,pt,pe,q⟩:=xo_compF (k:=k) (pos:=pos) B hc ho hcap hi hg ht he;exact ⟨_,pe_comp B hc pi kg pg pt pe hs,q⟩
variable {lo:Int} {pt:Pos}
def asL:D→Option (List D)
 | .lst ds=>some ds
 | _=>none
def asT:D→Option (List D)
 | .tup ds=>some ds
 | _=>none
theorem asL_some (h:asL d=some ds):d=.lst ds:=by cases d <;> simp [asL] at h; subst h; rfl
theorem asT_some (h:asT d=some ds):d=.tup ds:=by cases d <;> simp [asT] at h; subst h; rfl
def lsD (f:EF):Env→Option (List D):=fun ρ=>(f ρ).bind asL
def tsD (f:EF):Env→Option (List D):=fun ρ=>(f ρ).bind asT
theorem itl_ok {G:Hp} {a:Addr} (hp:Pr (Al K ct F B n) ds vs) (keep:∀F' H',Same F F'→Same B H'→Same F' H'→SqL K H' a vs):ItOk K ct F B n (Itl K a) ds:=by intro i F' H' s1 s2 s3;have hs:SqL K H' a vs:=keep F' H' s1 s2 s3;refine ⟨fun d hd=>?_,fun hl=>⟨vs,hs,by rw [← hp.length]; exact hl⟩⟩;obtain ⟨v,hv,l⟩:=hp.get' hd;refine ⟨⟨vs,v,hs,hv⟩,fun x H2 y=>?_⟩;obtain ⟨e,y⟩:=y;subst e;have:=y vs hs;rw [hv] at this;cases this;exact ⟨F',.refl s3,l.mono s1 (.refl _)⟩
theorem Dt.lst_inv {v:V} (h:Dt K ct F (.lst ds) v):∃a vs,v=.ref a∧SqL K F a vs∧Dts K ct F ds vs:=by
 cases h with
 | lst q t=>exact ⟨_,_,rfl,q,t⟩
theorem xi_list (he:XE X ct ms 0 e f):XI X ct ms 0 tg e (lsD f):=by obtain ⟨t,pt,qt⟩:=he;refine ⟨_,pi_list pt,fun F0 B F H ρ σ ds R rs e w=>?_⟩;obtain ⟨d,h1,h2⟩:=bind1 e;rw [asL_some h2] at h1;refine qt F0 B F H ρ σ _ _ rs h1 fun v F' H' x l=>?_;obtain ⟨a,vs,rfl,ha,hp⟩:=Dt.lst_inv l;exact ⟨a,rfl,⟨vs,x.fh.seq ha⟩,w _ F' H' x (itl_ok (G:=H') (n:=0) (hp.pr) fun F2 H2 s1 s2 s3=>s3.seq (s1.seq ha))⟩
theorem xic_list (he:XE X ct ms n e f):XIc X ct ms (n-1) tg e (lsD f):=by obtain ⟨t,pt,qt⟩:=he;refine ⟨_,pi_list pt,fun F0 B F H ρ σ ds R rs e w=>?_⟩;obtain ⟨d,h1,h2⟩:=bind1 e;rw [asL_some h2] at h1;refine qt F0 B F H ρ σ _ _ rs h1 fun v F' H' x l=>?_;obtain ⟨a,vs,rfl,ha,hp⟩:=l.lst x.fh;exact ⟨a,rfl,⟨vs,ha⟩,w _ F' H' x (itl_ok (G:=H') hp fun F2 H2 s1 s2 s3=>s2.seq ha)⟩
theorem XI.cc (h:XI X ct ms n tg e fi):XIc X ct ms n tg e fi:=by obtain ⟨t,pt,qt⟩:=h;refine ⟨t,pt,fun F0 B F H ρ σ ds R rs e w=>qt F0 B F H ρ σ ds R rs e fun J F' H' x ok=>w J F' H' x fun i F2 H2 s1 s2 s3=>?_⟩;obtain ⟨k1,k2⟩:=ok i F2 H2 s1 ((rs.ext x).bh.trans s2) s3;refine ⟨fun d hd=>?_,k2⟩;obtain ⟨go,yl⟩:=k1 d hd;refine ⟨go,fun v H3 y=>?_⟩;obtain ⟨F3,x3,l⟩:=yl v H3 y;exact ⟨F3,x3,l.mono (.refl _) (rs.ext x).bh⟩
theorem SL.getA (h0:SL K ct F B H ms ρ σ fp):ms[i]?=some (.al n)→ρ[i]?=some (some d)→∃v,σ[i]?=some (some v)∧Al K ct F B n d v:=by
 induction h0 generalizing i with
 | nil =>intro e _;simp at e
 | @no m0 o0 ms ρ σ fp t ih =>
  intro e e';cases i with
  | zero =>have e:=e';simp at e
  | succ i =>simpa using ih (i:=i) (by simpa using e) (by simpa using e')
 | @al n0 d0 v0 ms ρ σ fp h t ih =>
  intro e e';cases i with
  | zero =>simp at e e'; subst e; subst e'; exact ⟨_,rfl,h⟩
  | succ i =>simpa using ih (i:=i) (by simpa using e) (by simpa using e')
 | @px d0 v0 ms ρ σ fp h t ih =>
  intro e e';cases i with
  | zero =>simp at e
  | succ i =>simpa using ih (i:=i) (by simpa using e) (by simpa using e')
 | @so d0 x0 ms ρ σ fp0 h t ih =>
  intro e e';cases i with
  | zero =>simp at e
  | succ i =>simpa using ih (i:=i) (by simpa using e) (by simpa using e')
 | @ow n0 d0 v0 ms ρ σ f0 fp0 h t ih =>
  intro e e';cases i with
  | zero =>simp at e
  | succ i =>simpa using ih (i:=i) (by simpa using e) (by simpa using e')
def upto (lo:Int) (j:Nat):List D:=(List.range j).map fun (t:Nat)=>.int (lo+(t:Int))
def rng1:List D→Option (List D)
 | [.int j]=>if -4611686018427387904≤j∧j<4611686018427387904 then some (upto 0 j.toNat) else none
 | _=>none
theorem itr_ok:ItOk K ct F B n (Itr lo j) (upto lo j):=by
 intro i F' H' s1 s2 s3;unfold upto;refine ⟨fun d hd=>?_,fun hl=>(show j≤i by simpa using hl)⟩;rw [List.getElem?_map] at hd;by_cases h:i<j
 ·rw [List.getElem?_range h] at hd;cases hd;refine ⟨h,fun x H2 y=>?_⟩;obtain ⟨e,y⟩:=y;subst e;subst y;exact ⟨F',.refl s3,Al.of (.int _)⟩
 ·rw [List.getElem?_eq_none (by simpa using h)] at hd;cases hd
theorem xi_range1 (hm:X.mg "range"=none) (ha:XA X ct ms [a] [m] fs) (hg:Gl X "range":=by rfl) (hs:starEach [a] X.env=[(false,eval a X.env)]:=by rfl):XI X ct ms n tg (.Call (.Name "range" pp) [a] [] pos) (fun ρ=>(fs ρ).bind rng1):=by
 obtain ⟨t,pt,_,qt⟩:=ha;refine ⟨_,pi_range1 hg hm pt hs,fun F0 B F H ρ σ ds R rs e w=>?_⟩;obtain ⟨ds',h1,h2⟩:=bind1 e;refine qt F0 B F H ρ σ _ _ rs h1 fun vs F' H' x l=>?_;cases l with
 | cons h t =>
  cases t;rename_i d v;cases d with
  | int j =>
   unfold rng1 at h2;dsimp only at h2;by_cases hj:-4611686018427387904≤j∧j<4611686018427387904
   ·rw [if_pos hj] at h2;cases h2;exact ⟨j,by rw [h.int],by omega,by omega,w _ F' H' x itr_ok⟩
   ·rw [if_neg hj] at h2; cases h2
  | _=>cases h2
def enumD (i:Nat):List D→List D
 | []=>[]
 | d::ds=>.tup [.int i,d]::enumD (i+1) ds
theorem enumD_get:∀{ds:List D} {j i:Nat} {d:D},(enumD j ds)[i]?=some d→∃x,ds[i]?=some x∧d=.tup [.int (j+i:Nat),x]
 | [],_,_,_,h=>by simp [enumD] at h
 | x::ds,j,0,d,h=>by simp [enumD] at h; subst h; exact ⟨x,rfl,rfl⟩
 | x::ds,j,i+1,d,h=>by obtain ⟨y,h1,h2⟩:=enumD_get (ds:=ds) (j:=j+1) (i:=i) (d:=d) (by simpa [enumD] using h);exact ⟨y,by simpa using h1,by rw [h2,Nat.add_assoc,Nat.add_comm 1 i]⟩
theorem enumD_len:∀{ds:List D} {j:Nat},(enumD j ds).length=ds.length
 | [],_=>rfl
 | _::ds,j=>by simp [enumD,enumD_len (ds:=ds)]
theorem ite_ok {a:Addr} (hp:Pr (Al K ct F B n) ds vs) (keep:∀F' H',Same F F'→Same B H'→Same F' H'→SqL K H' a vs):ItOk K ct F B (n+1) (Ite K a) (enumD 0 ds):=by intro i F' H' s1 s2 s3;have hs:SqL K H' a vs:=keep F' H' s1 s2 s3;refine ⟨fun d hd=>?_,fun hl=>⟨vs,hs,by rw [← hp.length]; rw [enumD_len] at hl; exact hl⟩⟩;obtain ⟨x,hx,rfl⟩:=enumD_get hd;obtain ⟨v,hv,l⟩:=hp.get' hx;refine ⟨⟨vs,v,hs,hv⟩,fun z H2 y=>?_⟩;obtain ⟨r,y',hr,rfl,rfl,y⟩:=y;have:=y vs hs;rw [hv] at this;cases this;refine ⟨_,Ext.newS s3 hr _,.inr (.tup upd_same (.cons (Al.of ?_) (.cons (l.mono (s1.trans (same_new (s3.free hr) _)) (.refl _)) .nil)))⟩;rw [Nat.zero_add];exact .int _
theorem xi_enum {elts:List Expr} {kt:Nat} (hm:X.mg "enumerate"=none) (ha:XA X ct ms [a] [0] fs) (hg:Gl X "enumerate":=by rfl) (hs:starEach [a] X.env=[(false,eval a X.env)]:=by rfl) :
  XI X ct ms 1 (.Tuple elts kt pt) (.Call (.Name "enumerate" pp) [a] [] pos) (fun ρ=>(fs ρ).bind fun ds=>match ds with | [.lst xs]=>some (enumD 0 xs) | _=>none):=by
 obtain ⟨t,pt,_,qt⟩:=ha;refine ⟨_,pi_enum hg hm pt hs,fun F0 B F H ρ σ ds R rs e w=>?_⟩;obtain ⟨ds',h1,h2⟩:=bind1 e;refine qt F0 B F H ρ σ _ _ rs h1 fun vs F' H' x l=>?_;cases l with
 | cons h t =>
  cases t;rename_i d v;cases d with
  | lst xs =>cases h2;obtain ⟨a,vs,rfl,ha,hp⟩:=Dt.lst_inv h;exact ⟨a,rfl,⟨vs,x.fh.seq ha⟩,w _ F' H' x (ite_ok (n:=0) hp.pr fun F2 H2 s1 s2 s3=>s3.seq (s1.seq ha))⟩
  | _=>cases h2
variable {fj:EF} {p1 tpos:Pos}
theorem Ow.lst_inv {v:V} (h:Ow K ct F H (k+1) (.lst ds) v fp):∃a vs fr,v=.ref a∧fp=a::fr∧F a=none∧H a=some (.lst vs)∧OwL (Ow K ct F H k) ds vs fr:=by
 rcases h with ⟨h,_⟩ | h
 ·cases h
 ·cases h with
  | lst h1 h2 h3=>exact ⟨_,_,_,rfl,rfl,h1,h2,h3⟩
theorem Ow.dK_inv {ks:List Key} {v:V} (h:Ow K ct F H (k+1) (.dK ks ds) v fp):∃a vs fr,v=.ref a∧fp=a::fr∧F a=none∧H a=some (.dK (ks.zip vs))∧ks.length=vs.length∧OwL (Ow K ct F H k) ds vs fr:=by
 rcases h with ⟨h,_⟩ | h
 ·cases h
 ·cases h with
  | dK h1 h2 h3 h4=>exact ⟨_,_,_,rfl,rfl,h1,h2,h3,h4⟩
theorem Ow.dT_inv {v:V} (h:Ow K ct F H (k+1) (.dT ks ds) v fp):∃a vs fr,v=.ref a∧fp=a::fr∧F a=none∧H a=some (.dT (ks.zip vs))∧ks.length=vs.length∧OwL (Ow K ct F H k) ds vs fr:=by
 rcases h with ⟨h,_⟩ | h
 ·cases h
 ·cases h with
  | dT h1 h2 h3 h4=>exact ⟨_,_,_,rfl,rfl,h1,h2,h3,h4⟩
theorem RS.change {d':D} {v:V} {f1 fr fn:List Addr} {ad:Addr} {o:HO} (rs:RS K ct F0 B ms F H ρ σ) (hm:ms[i]?=some (.ow k)) (x:Ext F H F' H')
  (hσ:σ[i]?=some (some v)) (b1:∀a∈f1,B a=none) (dj:∀a∈f1,a∉fr) (cf:∀a∈fr,F a=none∧∃o,H a=some o∧NTup o)
  (put:∀(F' H':Hp) (d':D) (v':V) (f':List Addr),Same F F'→Same B H'→Same F' H'→(∀a o,B a=some o→NTup o→F0 a=none→F' a=none)→(∀a∈fr,H' a=H a∧F' a=none)→Ow K ct F' H' k d' v' f'→f'.Nodup→(∀a∈f',a∉fr)→(∀a∈f',B a=none) →
    RS K ct F0 B ms F' H' (ρ.set i (some d')) (σ.set i (some v')))
  (had:ad∈f1) (fad:F' ad=none) (o':Ow K ct F' (upd H' ad o) k d' v fn) (nd:fn.Nodup) (hfn:∀a∈fn,a∈f1∨H a=none):RS K ct F0 B ms F' (upd H' ad o) (ρ.set i (some d')) σ:=by
 have r:=rs.ext x;have hB:B ad=none:=b1 ad had;have res:=put F' (upd H' ad o) d' v fn x.ff (fun z u h=>by rw [upd_ne (fun e=>by rw [e,hB] at h; cases h)]; exact r.bh _ _ h) (fun z u h=>by rw [upd_ne (fun e=>by rw [e,fad] at h; cases h)]; exact x.fh _ _ h) r.nf
  (fun z hz=>by obtain ⟨hn,o,ho,nt⟩:=cf z hz;refine ⟨?_,x.nf z o ho nt hn⟩;have ne:z≠ad:=fun e=>dj ad had (by rw [← e]; exact hz);rw [upd_ne ne];exact (x.hh _ _ ho).trans ho.symm) o' nd
  (fun z hz zr=>by
   rcases hfn z hz with h | h
   ·exact dj z h zr
   ·obtain ⟨_,o,ho,nt⟩:=cf z zr;rw [h] at ho;cases ho)
  (fun z hz=>(hfn z hz).elim (b1 z) fun h=>rs.bh.free h)
 have e:σ.set i (some v) = σ:=by
  apply List.ext_getElem?;intro j;by_cases hj:i=j
  ·subst hj;rw [List.getElem?_set_self (by have:=List.getElem?_eq_some_iff.mp hσ;exact this.1),hσ]
  ·rw [List.getElem?_set_ne hj]
 rw [e] at res;exact res
def sApp (i:Nat) (f:EF):SF:=fun ρ=>(eV i ρ).bind fun o=>(f ρ).bind fun d=>match o with
 | .lst ds=>if ds.length<16777216 then some (.nx (ρ.set i (some (.lst (ds++[d]))))) else none
 | _=>none
theorem xs_append (i:Nat) (hm:ms[i]?=some (.ow (k+1))) (he:XO X ct ms k e f) (hN:X.N[i]?=some x:=by rfl) (hv:Vis X.env.scope x:=by first | exact Or.inl rfl | exact Or.inr (Or.inl rfl) | exact Or.inr (Or.inr rfl)) (hd:(x == ("__debug__":Str))=false:=by decide)
  (hcd:(x == ("__classdict__":Str))=false:=by decide) (hst:starEach [e] X.env=(false,eval e X.env)::starEach [] X.env:=by rfl)
  (hbase:attributeBase (.Name x p1) "append" X.env (eval (.Name x p1) X.env)=eval (.Name x p1) X.env:=by rfl)
  (hfew:((backTo cpos (starEach [e] X.env)).all (fun x=>!x.1) && (backToKw cpos (keywordEach [] X.env)).all (fun x=>x.1.isSome)
   && decide ([e].length+([]:List Keyword).length+(if ([]:List Keyword).isEmpty then 0 else 1)<30))=true:=by rfl)
  (hline:(apos.endLine == cpos.line)=true:=by rfl) (hplain:(backTo cpos (starEach [] X.env)).any (·.1)=false:=by rfl)
  (hsw:swapsWith (.Call (.Attribute (.Name x p1) "append" apos) [e] [] cpos) none pos.line X.env=pure false:=by rfl) :
  XS X ct ms rk (.Expr (.Call (.Attribute (.Name x p1) "append" apos) [e] [] cpos) pos) (sApp i f):=by
 obtain ⟨t,pt,qt⟩:=he;refine ⟨_,ps_expr (pe_bm PySem.F.plainAttrs_list PySem.F.slot_list_append PySem.F.type_list_append mt_append (pe_var hN hv hd hcd) (pa_cons pt pa_nil hst) hbase hfew hline hst hplain) hsw,fun F0 B F H ρ σ o E rs e z=>?_⟩;obtain ⟨d1,d2,h1,h2,h3⟩:=bind2 e;obtain ⟨f1,fr,n1,b1,dj,i4,cf,put⟩:=rs.put (F':=F) (H':=H) hm;obtain ⟨v,hσ,ow⟩:=i4 d1 (join_some h1);refine ⟨v,hσ,?_⟩;cases d1 with
 | lst ds =>
  dsimp only at h3;by_cases hz:ds.length<16777216
  ·rw [if_pos hz] at h3;cases h3;obtain ⟨ad,vs,fr1,rfl,rfl,hF,hH,ol⟩:=ow.lst_inv;refine ⟨.inl ⟨rfl,_,SqL.of hH⟩,qt F0 B F H ρ σ d2 _ rs h2 fun v2 F' H' fp x1 o2 nd2 hf2=>?_⟩;have hA:H' ad=some (.lst vs):=x1.hh _ _ hH;have fA:F' ad=none:=x1.nf ad _ hH nofun hF;have nA:∀a∈fp,a≠ad:=fun a hz e=>by rw [e] at hz; rw [hf2 ad hz] at hH; cases hH
   have n1':=List.nodup_cons.mp n1;refine ⟨ad,vs,v2,rfl,rfl,hA,by rw [← ol.length,sizeLine_eq]; exact hz,?_⟩;refine z σ F' _ (rs.change hm x1 hσ b1 dj cf put List.mem_cons_self fA (.inr (.lst fA upd_same ((ol.mono fun _ _ f' hi o'=>?_).append (.cons (f:=fp) ?_ .nil)))) (fn:=ad::(fr1++(fp++[]))) ?_ ?_)
   ·refine (o'.ext x1).frame (.refl _) fun a ha=>⟨upd_ne fun e=>n1'.1 (e ▸ hi a ha),((o'.ext x1).cells a ha).1⟩
   ·exact o2.frame (.refl _) fun a ha=>⟨upd_ne (nA a ha),(o2.cells a ha).1⟩
   ·rw [List.append_nil];refine List.nodup_cons.mpr ⟨fun hz=>?_,List.nodup_append.mpr ⟨n1'.2,nd2,fun a ha b hb e=>?_⟩⟩
    ·rcases List.mem_append.mp hz with hz | hz
     ·exact n1'.1 hz
     ·exact nA ad hz rfl
    ·subst e;obtain ⟨_,o,ho,_⟩:=OwL.cellsOf ol a ha;rw [hf2 a hb] at ho;cases ho
   ·intro a ha;rw [List.append_nil] at ha;rcases List.mem_cons.mp ha with rfl | ha
    ·exact .inl List.mem_cons_self
    ·rcases List.mem_append.mp ha with ha | ha
     ·exact .inl (List.mem_cons_of_mem _ ha)
     ·exact .inr (hf2 a ha)
  ·rw [if_neg hz] at h3; cases h3
 | _=>cases h3
def setAt (ds:List D) (i:Int) (d:D):Option (List D):=(ixN ds.length i).bind fun j=>some (ds.set j d)
def putK' [DecidableEq κ] (ks:List κ) (ds:List D) (k:κ) (d:D):List κ×List D:=if ks.contains k=true then (ks,(ks.zip ds).map fun p=>if p.1=k then d else p.2) else (ks++[k],ds++[d])
def sPutL (i:Nat) (fj f:EF):SF:=fun ρ=>(f ρ).bind fun d=>(eV i ρ).bind fun o=>(fj ρ).bind fun j=>match o,j with
 | .lst ds,.int z=>(setAt ds z d).bind fun ds'=>some (.nx (ρ.set i (some (.lst ds'))))
 | _,_=>none
theorem OwL.set0 {R:D→V→List Addr→Prop} {d:D} {v:V} (r:R d v []) (z:∀d v f,R d v f→f=[]):∀{ds:List D} {vs:List V} {fp:List Addr} (i:Nat),OwL R ds vs fp→OwL R (ds.set i d) (vs.set i v) []
 | _,_,_,_,.nil=>.nil
 | _,_,_,0,.cons h t=>by have:=OwL.cons (f:=[]) (g:=[]) r (OwL.ofPr (t.pr fun d v f _ q=>by have:=z _ _ _ q; subst this; exact q));exact this
 | _,_,_,i+1,.cons h t=>by have e:=z _ _ _ h;subst e;exact OwL.cons (f:=[]) (g:=[]) h (OwL.set0 r z i t)
theorem Ow.nil0 {v:V} (h:Ow K ct F H 0 d v fp):fp=[]:=h.2
theorem OwL.nil0 (h:OwL (Ow K ct F H 0) ds vs fp):fp=[]:=by
 induction h with
 | nil=>rfl
 | cons h t ih=>rw [h.nil0,ih]; rfl
theorem xs_putL (i:Nat) {j:Expr} (hm:ms[i]?=some (.ow 1)) (hj:XE X ct ms n j fj) (he:XE X ct ms 0 e f) (hN:X.N[i]?=some x:=by rfl) (hv:Vis X.env.scope x:=by first | exact Or.inl rfl | exact Or.inr (Or.inl rfl) | exact Or.inr (Or.inr rfl)) (hd:(x == ("__debug__":Str))=false:=by decide)
  (hcd:(x == ("__classdict__":Str))=false:=by decide)
  (ha:∀v,assign (.Subscript (.Name x p1) j tpos) X.env v=(do
   let ov ← holding [v] (eval (.Name x p1) X.env)
   let iv ← holding [v,ov] (eval j X.env)
   standAt tpos
   holding [v,ov,iv] (setItem ov iv v)
   release [v,ov,iv] []):=by intro _; rfl)
  (hs:swapsWithSole [.Subscript (.Name x p1) j tpos] e pos.line X.env=pure false:=by rfl) (hw:swappedStores [.Subscript (.Name x p1) j tpos] e X.env=pure none:=by rfl)
  (h1:(assignEach [.Subscript (.Name x p1) j tpos] X.env).map (·.2)=[assign (.Subscript (.Name x p1) j tpos) X.env]:=by rfl) :
  XS X ct ms rk (.Assign [.Subscript (.Name x p1) j tpos] e pos) (sPutL i fj f):=by
 obtain ⟨t,pt,qt⟩:=he;obtain ⟨tj,ptj,qtj⟩:=hj;refine ⟨_,ps_asg pt (pg_sub (pe_var hN hv hd hcd) ptj set_list ha) hs hw h1,fun F0 B F H ρ σ o E rs e z=>?_⟩;obtain ⟨d,g1,g2⟩:=bind1 e;obtain ⟨d1,dj',g3,g4,g5⟩:=bind2 g2;refine qt F0 B F H ρ σ d _ rs g1 fun v0 F1 H1 x1 l0=>?_;have rs1:=rs.ext x1;obtain ⟨f1,fr,n1,b1,dj,i4,cf,put⟩:=rs1.put (F':=F) (H':=H) hm;obtain ⟨v,hσ,ow⟩:=i4 d1 (join_some g3);refine ⟨v,hσ,qtj F0 B F1 H1 ρ σ dj' _ rs1 g4 fun vj F2 H2 x2 lj=>?_⟩;cases d1 with
 | lst ds =>
  cases dj' with
  | int zi =>obtain ⟨ds',g6,g7⟩:=bind1 g5;cases g7;obtain ⟨jn,g8,g9⟩:=bind1 g6;cases g9;obtain ⟨ad,vs,fr1,rfl,rfl,hF,hH,ol⟩:=ow.lst_inv;have hA:H2 ad=some (.lst vs):=x2.hh _ _ hH;have fA:F2 ad=none:=x2.nf ad _ hH nofun hF;have e0:=ol.nil0;subst e0;refine ⟨ad,vs,zi,jn,rfl,lj.int,hA,by rw [← ol.length]; exact g8,?_⟩;refine z σ F2 _ (rs1.change hm x2 hσ b1 dj cf put List.mem_cons_self fA (.inr (.lst fA upd_same (OwL.set0 ⟨Dt.mono x2.ff l0,rfl⟩ (fun _ _ _ q=>q.2) jn (ol.mono fun _ _ _ _ q=>⟨q.1.mono x2.ff,q.2⟩)))) (fn:=[ad]) (by simp) ?_);intro a ha;rw [List.mem_singleton] at ha;subst ha;exact .inl List.mem_cons_self
  | _=>cases g5
 | _=>cases g5
variable {xs:List V}
theorem lstR {pins:List (Addr×Obj)} {s:Shared} {l:Addr} (I:Inv X pins σ H s) (hH:Rd H l (.lst xs)):xs.length≤sizeLine∧∃(its:List Value) (n:Nat),Vals xs its∧xs.length=its.length∧s.heap.get? l=some { cls:=.type "list",data:=.seq its.toArray n }:=by obtain ⟨z,its,n,r,e⟩:=hH.ok I.hok;exact ⟨z,its,n,r,r.length,e⟩
def rCatR (K:PySem.W.Frag):R2:=fun x y H Q=>∃l b xs zs,x=.ref l∧y=.ref b∧SqL K H l xs∧SqL K H b zs∧xs.length+zs.length≤sizeLine∧∀p,H p=none→Q (.ref p) (upd H p (.lst (xs++zs)))
theorem op_catR:OpR X (binaryOp .Add) (rCatR X.K):=by
 intro pins s σ H x y v u Q I rx ry h;obtain ⟨l,b,xs,zs,rfl,rfl,hH,hB,hz,q⟩:=h;cases rx;cases ry;obtain ⟨its,r,⟨⟨cls,dd,data,sl⟩,n,e,c1,c2,c3⟩,z⟩:=I.list hH;obtain ⟨its2,r2,⟨⟨cls2,dd2,data2,sl2⟩,n2,e2,c4,c5,c6⟩,z2⟩:=I.list hB;simp only at c1 c3 c4 c6;subst c1 c3 c4 c6;have hl:=r.length;have hl2:=r2.length;refine concat_meets ⟨_,e,rfl⟩ ⟨_,e2,rfl⟩ noFill_list_add seq_list_add PySem.F.slot_list_add PySem.F.entry_list_add (PySem.F.args_list_add_2 _ _) (list_addW l b its.toArray its2.toArray n n2 dd dd2 sl sl2 (by rw [List.size_toArray,List.size_toArray]; omega)) ⟨e,e2,?_⟩;have ea:its.toArray++its2.toArray=(its++its2).toArray:=by simp
 rw [ea];exact ⟨.ref _,_,I.lnew (t':=s.toks) (r.append r2) (by rw [List.length_append]; omega),rfl,q _ I.fresh⟩
def rAddS:R2:=fun x y H Q=>∃i j,x=.str i∧y=.str j∧i.length+j.length≤sizeLine∧Q (.str (i++j)) H
def rAdd (K:PySem.W.Frag):R2:=fun x y H Q=>rI0 (fun i j=>.int (i+j)) x y H Q∨rAddS x y H Q∨rCatR K x y H Q∨rCatT K x y H Q
theorem op_addA:OpR X (binaryOp .Add) (rAdd X.K):=OpR.or op_add (OpR.or op_add_str (OpR.or op_catR op_catT))
def addD:D→D→Option D
 | .int i,.int j=>some (.int (i+j))
 | .str x,.str y=>if x.length+y.length≤16777216 then some (.str (x++y)) else none
 | .lst xs,.lst ys=>if xs.length+ys.length≤16777216 then some (.lst (xs++ys)) else none
 | .tup xs,.tup ys=>if xs.isEmpty=false∧ys.isEmpty=false∧xs.length+ys.length≤1000000 then some (.tup (xs++ys)) else none
 | _,_=>none
theorem Pr.ow0 (h:Pr (Al K ct F G 0) ds vs):OwL (Ow K ct F H 0) ds vs []:=OwL.ofPr (h.mono fun _ _ q=>⟨q,rfl⟩)
theorem Al.lst1 {v:V} (hn:n≤1) (h:Al K ct F G n (.lst ds) v) (s:Same F G):∃a vs,v=.ref a∧SqL K G a vs∧Pr (Al K ct F G 0) ds vs:=by
 obtain ⟨a,vs,e,h1,h2⟩:=h.lst s;have:n-1=0:=by omega
 rw [this] at h2;exact ⟨a,vs,e,h1,h2⟩
theorem Al.tup1 {v:V} (hn:n≤1) (h:Al K ct F G n (.tup ds) v) (s:Same F G):∃a vs,v=.ref a∧G a=some (.tup vs)∧Pr (Al K ct F G 0) ds vs:=by
 obtain ⟨a,vs,e,h1,h2⟩:=h.tup s;have:n-1=0:=by omega
 rw [this] at h2;exact ⟨a,vs,e,h1,h2⟩
theorem new_own {Q:VK} (s:Same F H) (hp:Pr (Al K ct F H 0) ds vs) (w:∀v F' H' fp,Ext F H F' H'→Ow K ct F' H' 1 (.lst ds) v fp→fp.Nodup→(∀a∈fp,H a=none)→Q v H'):∀p,H p=none→Q (.ref p) (upd H p (.lst vs)):=fun p h0=>by obtain ⟨o,nd⟩:=new_lst s (hp.ow0 (H:=H)) h0;exact w _ F _ [p] (Ext.newO s h0 _) o (nd List.nodup_nil) fun a z=>by rw [List.mem_singleton] at z; subst z; exact h0
theorem op2_add (hn:n≤1) (hm:m≤1):Op2O K ct n m 1 (rAdd K) addD:=by
 intro F H x y d1 d2 d Q s l1 l2 e w;have ws:∀d v,d.sc=true→Dt K ct F d v→(∀v F' H' fp,Ext F H F' H'→Ow K ct F' H' 1 d v fp→fp.Nodup→(∀a∈fp,H a=none)→Q v H')→Q v H:=fun d v hs hd w=>w v F H [] (.refl s) (Ow.scal hd hs) List.nodup_nil fun a z=>(by cases z);cases d1 with
 | int i =>
  cases d2 with
  | int j=>cases e; exact .inl ⟨i,j,l1.int,l2.int,ws _ _ rfl (.int _) w⟩
  | _=>cases e
 | str i =>
  cases d2 with
  | str j =>
   unfold addD at e;dsimp only at e;by_cases hz:i.length+j.length≤16777216
   ·rw [if_pos hz] at e;cases e;exact .inr (.inl ⟨i,j,l1.str,l2.str,by rw [sizeLine_eq]; exact hz,ws _ _ rfl (.str _) w⟩)
   ·rw [if_neg hz] at e; cases e
  | _=>cases e
 | lst xs =>
  cases d2 with
  | lst ys =>
   unfold addD at e;dsimp only at e;by_cases hz:xs.length+ys.length≤16777216
   ·rw [if_pos hz] at e;cases e;obtain ⟨a,vs,rfl,ha,hp⟩:=Al.lst1 hn l1 s;obtain ⟨b,us,rfl,hb,hq⟩:=Al.lst1 hm l2 s;exact .inr (.inr (.inl ⟨a,b,vs,us,rfl,rfl,ha,hb,by rw [← hp.length,← hq.length,sizeLine_eq]; exact hz,new_own s (hp.append hq) w⟩))
   ·rw [if_neg hz] at e; cases e
  | _=>cases e
 | tup xs =>
  cases d2 with
  | tup ys =>
   unfold addD at e;dsimp only at e;by_cases hz:xs.isEmpty=false∧ys.isEmpty=false∧xs.length+ys.length≤1000000
   ·rw [if_pos hz] at e;cases e;obtain ⟨a,vs,rfl,ha,hp⟩:=Al.tup1 hn l1 s;obtain ⟨b,us,rfl,hb,hq⟩:=Al.tup1 hm l2 s;have hl:=hp.length;have hl2:=hq.length;have e1:vs≠[]:=fun z=>by rw [z] at hl;have:=List.length_eq_zero_iff.mp hl;rw [this] at hz;exact absurd hz.1 (by decide)
    have e2:us≠[]:=fun z=>by rw [z] at hl2;have:=List.length_eq_zero_iff.mp hl2;rw [this] at hz;exact absurd hz.2.1 (by decide)
    refine .inr (.inr (.inr ⟨a,b,vs,us,rfl,rfl,SqT.of ha,SqT.of hb,e1,by rw [← hl,← hl2,sizeLine_eq]; omega,fun z=>absurd z e2,fun _ p h0=>?_⟩));have x2:=Ext.newS s h0 (.tup (vs++us));exact w _ _ _ [] x2 (.inr (.tup upd_same (OwL.ofPr ((hp.append hq).mono fun _ _ q=>⟨Dt.mono x2.ff q,rfl⟩)))) List.nodup_nil fun a z=>(by cases z)
   ·rw [if_neg hz] at e; cases e
  | _=>cases e
 | _=>cases e
def rRepR:R2:=fun x y H Q=>∃l k xs,x=.ref l∧y=.int k∧Rd H l (.lst xs)∧-(2 ^ 63)≤k∧k<2 ^ 63∧xs.length * k.toNat≤sizeLine ∧
 ∀p,H p=none→Q (.ref p) (upd H p (.lst (List.replicate k.toNat xs).flatten))
theorem op_repR:OpR X (binaryOp .Mult) rRepR:=by
 intro pins s σ H x y v u Q I rx ry h;obtain ⟨l,k,xs,rfl,rfl,hH,h1,h2,hz,q⟩:=h;cases rx;obtain ⟨t,rfl⟩:=ry;obtain ⟨z,its,n,r,hl,e⟩:=lstR I hH;have hlen:its.toArray.size * k.toNat≤sizeLine:=by rw [List.size_toArray,← hl]; exact hz
 have hcap:¬its.toArray.size * k.toNat > (2 ^ 63-1) / 8:=by
  have:(sizeLine:Nat)≤(2 ^ 63-1) / 8:=by decide
  omega
 have hfit:¬(!Builtin.List.listFitsIndex k)=true:=by rw [fitsIndex_both h1 h2];exact Bool.false_ne_true
 have hlong:¬Builtin.List.listTooLong (its.toArray.size * k.toNat)=true:=by rw [notLongL hlen];exact Bool.false_ne_true
 have hnew:List.foldl (fun x1 x2=>x1++x2) #[] (List.replicate (if its.toArray.isEmpty=true then 0 else k.toNat) its.toArray)=(List.replicate k.toNat its).flatten.toArray:=by
  have f0:∀m:Nat,List.foldl (fun x1 x2=>x1++x2) #[] (List.replicate m its.toArray)=(List.replicate m its).flatten.toArray:=fun m=>by have:=foldl_rep its m [];rw [List.nil_append] at this;exact this
  rw [f0];cases its with
  | nil=>simp
  | cons a r'=>rw [if_neg (by simp)]
 refine wpAny_binaryOp_repeat_ref (T:="list") (U:="int") (by decide) ⟨_,e,rfl⟩ (fun s'=>typeIs_int s' k t) noFill_list_mul F.fills_int_mul F.slot_int_rmul repeat_list F.slot_int_index.lookup
  (call_meets F.slot_int_rmul (typeIs_int s k t) F.entry_int_rmul (F.args_int_rmul_2 _ _) (int___rmul___int_list k t l its.toArray n)
   ⟨e,rfl,⟨_,e,rfl⟩,call_meets F.slot_list_mul ⟨_,e,rfl⟩ F.entry_list_mul (F.args_list_mul_2 _ _) (AutoListH.list___mul___list_int_3 l its.toArray n k t hfit hcap hlong) ⟨e,?_⟩⟩)
 rw [hnew];exact ⟨.ref _,_,I.lnew (t':=s.toks) (r.rep k.toNat) (by rw [len_rep,Nat.mul_comm]; exact hz),rfl,q _ I.fresh⟩
theorem op2_mulI:Op2 K ct n m k (rI CMulS fun i j=>.int (i * j)) mulI:=op2_mul
def repD:D→D→Option D
 | .lst xs,.int j=>if -1000000<j∧j<1000000∧xs.length≤16 then some (.lst (List.replicate j.toNat xs).flatten) else none
 | _,_=>none
theorem xo_rep (ha:XO X ct ms 1 a f) (hb:XE X ct ms m b g):XO X ct ms 1 (.BinOp a .Mult b pos) (e2 repD f g):=by
 obtain ⟨ta,pa,qa⟩:=ha;obtain ⟨tb,pb,qb⟩:=hb;refine ⟨_,pe_op op_repR pa pb,fun F0 B F H ρ σ d Q rs e w=>?_⟩;obtain ⟨d1,d2,h1,h2,h3⟩:=bind2 e;refine qa F0 B F H ρ σ d1 _ rs h1 fun v F1 H1 fp x1 o nd hf=>?_;refine qb F0 B F1 H1 ρ σ d2 _ (rs.ext x1) h2 fun v2 F2 H2 x2 l2=>?_;cases d1 with
 | lst xs =>
  cases d2 with
  | int j =>
   unfold repD at h3;dsimp only at h3;by_cases hz:-1000000<j∧j<1000000∧xs.length≤16
   ·rw [if_pos hz] at h3;cases h3;obtain ⟨ad,vs,fr,rfl,rfl,hF,hH,ol⟩:=(o.ext x2).lst_inv;have hp:Pr (Al X.K ct F2 H2 0) xs vs:=ol.pr fun _ _ _ _ q=>q.1;have x12:=x1.trans x2;refine ⟨ad,j,vs,rfl,l2.int,.inl hH,by omega,by omega,?_,new_own x2.fh (hp.rep _) fun v F' H' fp x o nd hf=>w v F' H' fp (x12.trans x) o nd fun z hz=>x12.hh.free (hf z hz)⟩;rw [← hp.length,sizeLine_eq];have h1:j.toNat≤1000000:=by omega
    have h2:xs.length * j.toNat≤16 * 1000000:=Nat.mul_le_mul hz.2.2 h1;omega
   ·rw [if_neg hz] at h3; cases h3
  | _=>cases h3
 | _=>cases h3
def negD:D→Option D
 | .int i=>some (.int (-i))
 | _=>none
theorem xe_glob {u:Value} (hg:Gl X x) (hm:X.mg x=some u) (hs:d.sc=true) (r:RelV d.v u) (hd:(x == ("__debug__":Str))=false:=by decide):XE X ct ms n (.Name x pos) (eC d):=by
 refine ⟨_,pe_glob hg hm r hd,fun F0 B F H ρ σ d' Q rs e w=>?_⟩;cases e;refine w _ F H (.refl rs.fh) (Al.of ?_);cases d with
 | non=>exact .non
 | bl b=>exact .bl b
 | int b=>exact .int b
 | str b=>exact .str b
 | _=>cases hs
def listD:List D→Option D
 | [.lst ds]=>some (.lst ds)
 | [.tup ds]=>some (.lst ds)
 | _=>none
theorem opn_list (hn:n≤1):OpNO K ct [n] 1 (fun xs H Q=>∃p ys,xs=[.ref p]∧(SqL K H p ys∨SqT K H p ys)∧∀l,H l=none→Q (.ref l) (upd H l (.lst ys))) listD:=by
 intro F H vs ds d Q s l e w;cases l with
 | cons h t =>
  cases t;rename_i d1 v;cases d1 with
  | lst xs =>cases e;obtain ⟨a,us,rfl,ha,hp⟩:=Al.lst1 hn h s;exact ⟨a,us,rfl,.inl ha,new_own s hp w⟩
  | tup xs =>cases e;obtain ⟨a,us,rfl,ha,hp⟩:=Al.tup1 hn h s;exact ⟨a,us,rfl,.inr (SqT.of ha),new_own s hp w⟩
  | _=>cases e
abbrev PF:=Env→Option (Option Int)
def pNo:PF:=fun _=>some none
def pInt (f:EF):PF:=fun ρ=>(f ρ).bind fun d=>match d with
 | .int i=>some (some i)
 | _=>none
def XP (X:Cx) (ct:Nat→Addr) (ms:List Mo) (e:Option Expr) (f:PF):Prop:=∃t,PO X e t∧∀(F0 B F H:Hp) (ρ:Env) (σ:St) (o:Option Int) (Q:Option Int→Hp→Prop),RS X.K ct F0 B ms F H ρ σ→f ρ=some o→(∀F' H',Ext F H F' H'→Q o H')→t σ H Q
theorem xp_some (h:XE X ct ms n e f):XP X ct ms (some e) (pInt f):=by
 obtain ⟨t,pt,qt⟩:=h;refine ⟨_,po_some pt,fun F0 B F H ρ σ o Q rs e w=>?_⟩;obtain ⟨d,h1,h2⟩:=bind1 e;refine qt F0 B F H ρ σ d _ rs h1 fun v F' H' x l=>?_;cases d with
 | int i=>cases h2; exact ⟨i,l.int,w F' H' x⟩
 | _=>cases h2
def cutD (xs:List D) (lo hi:Option Int):List D:=(xs.drop (HT.sIx xs.length 0 lo)).take (HT.sIx xs.length xs.length hi-HT.sIx xs.length 0 lo)
theorem cutD_pr {lo hi:Option Int} (h:Pr R ds vs):Pr R (cutD ds lo hi) (cutV vs lo hi):=by unfold cutD cutV;rw [h.length];exact (h.drop _).take _
def sliceD (d:D) (lo hi:Option Int):Option D:=match d with
 | .lst xs=>some (.lst (cutD xs lo hi))
 | _=>none
theorem xo_slice {lo hi:Option Expr} {pl ph:PF} {p1} (hn:n≤1) (he:XE X ct ms n e f) (hl:XP X ct ms lo pl) (hh:XP X ct ms hi ph):XO X ct ms 1 (.Subscript e (.Slice lo hi none p1) pos) (fun ρ=>(f ρ).bind fun d=>(pl ρ).bind fun l=>(ph ρ).bind fun h=>sliceD d l h):=by
 obtain ⟨t,pt,qt⟩:=he;obtain ⟨t1,pt1,qt1⟩:=hl;obtain ⟨t2,pt2,qt2⟩:=hh;refine ⟨_,pe_slice sl_list pt pt1 pt2,fun F0 B F H ρ σ r Q rs e w=>?_⟩;obtain ⟨d,l,h1,h2,h3⟩:=bind2 e;obtain ⟨hh,h4,h5⟩:=bind1 h3;refine qt F0 B F H ρ σ d _ rs h1 fun v F1 H1 x1 l1=>?_;refine qt1 F0 B F1 H1 ρ σ l _ (rs.ext x1) h2 fun F2 H2 x2=>?_;refine qt2 F0 B F2 H2 ρ σ hh _ ((rs.ext x1).ext x2) h4 fun F3 H3 x3=>?_;cases d with
 | lst xs =>cases h5;have x23:=x2.trans x3;obtain ⟨a,vs,rfl,ha,hp⟩:=Al.lst1 hn (l1.mono x23.ff x23.hh) x23.fh;exact ⟨a,vs,rfl,ha,new_own x23.fh (cutD_pr hp) fun v F' H' fp x o nd hf=>w v F' H' fp ((x1.trans x23).trans x) o nd fun z hz=>(x1.trans x23).hh.free (hf z hz)⟩
 | _=>cases h5
def intB:List D→Option D
 | [.int i]=>some (.int i)
 | [.bl b]=>some (.int (if b then 1 else 0))
 | _=>none
theorem opn_int:OpN K ct [n] k (fun xs H Q=>(∃i,xs=[.int i]∧Q (.int i) H)∨∃b,xs=[.bl b]∧Q (.int (if b then 1 else 0)) H) intB:=by
 intro F H vs ds d Q s l e w;cases l with
 | cons h t =>
  cases t;rename_i d1 v;cases d1 with
  | int i=>cases e; exact .inl ⟨i,by rw [h.int],w _ F H (.refl s) (Al.of (.int _))⟩
  | bl i=>cases e; exact .inr ⟨i,by rw [h.bl],w _ F H (.refl s) (Al.of (.int _))⟩
  | _=>cases e
def absD:List D→Option D
 | [.int i]=>some (.int (if i<0 then -i else i))
 | _=>none
def ii (g:Int→Int→D):List D→Option D
 | [.int i,.int j]=>some (g i j)
 | _=>none
theorem opn_ii {g:Int→Int→D} (hg:∀i j F,Dt K ct F (g i j) (gv i j)):OpN K ct [n,m] k (fun xs H Q=>∃i j,xs=[.int i,.int j]∧Q (gv i j) H) (ii g):=by
 intro F H vs ds d Q s l e w;cases l with
 | cons h t =>
  cases t with
  | cons h' t =>
   cases t;rename_i d1 v d2 v2;cases d1 with
   | int i =>
    cases d2 with
    | int j=>cases e; exact ⟨i,j,by rw [h.int,h'.int],w _ F H (.refl s) (Al.of (hg i j F))⟩
    | _=>cases e
   | _=>cases e
def max2D:List D→Option D:=ii fun i j=>.int (if j > i then j else i)
def min2D:List D→Option D:=ii fun i j=>.int (if j<i then j else i)
theorem opn_max2:OpN K ct [n,m] k (fun xs H Q=>∃i j,xs=[.int i,.int j]∧Q (.int (if j > i then j else i)) H) max2D:=opn_ii fun _ _ _=>.int _
theorem opn_min2:OpN K ct [n,m] k (fun xs H Q=>∃i j,xs=[.int i,.int j]∧Q (.int (if j<i then j else i)) H) min2D:=opn_ii fun _ _ _=>.int _
def sAug (i:Nat) (o:D→D→Option D) (f:EF):SF:=fun ρ=>(eV i ρ).bind fun x=>(f ρ).bind fun y=>(o x y).bind fun d=>some (.nx (ρ.set i (some d)))
theorem xs_aug {gi:Int→Int→Int} (ho:PIp X op (ipI gi)) (hm:ms[i]?=some (.ow k)) (hN:X.N.Nodup) (hi:X.N[i]?=some x) (hx:Loc X.env.scope x) (he:XE X ct ms n e f) (hf:X.fn x=true∨X.env.scope.names.lookup x=some .local:=by first | exact .inl rfl | exact .inr rfl | assumption) :
  XS X ct ms rk (.AugAssign (.Name x pos') op e pos) (sAug i (i2 fun i j=>.int (gi i j)) f):=by
 obtain ⟨t,pt,qt⟩:=he;refine ⟨_,ps_aug hN hi hx pt ho hf,fun F0 B F H ρ σ o E rs e z=>?_⟩;obtain ⟨d1,d2,h1,h2,h3⟩:=bind2 e;obtain ⟨d,h4,h5⟩:=bind1 h3;cases h5;obtain ⟨v,hv,l⟩:=rs.get hm (join_some h1);refine ⟨v,hv,qt F0 B F H ρ σ d2 _ rs h2 fun y F' H' x1 l2=>?_⟩;cases d1 with
 | int i' =>
  cases d2 with
  | int j' =>cases h4;exact ⟨i',j',l.int,l2.int,z _ F' H' (rs.set hm x1 (Ow.scal (.int _) rfl) List.nodup_nil fun a z=>(by cases z))⟩
  | _=>cases h4
 | _=>cases h4
def sPar (i j:Nat) (fs:Env→Option (List D)):SF:=fun ρ=>(fs ρ).bind fun ds=>match ds with
 | [x,y]=>some (.nx ((ρ.set i (some x)).set j (some y)))
 | _=>none
theorem xs_par {y:Str} {px py:Pos} {kt k2 pt2} (hmi:ms[i]?=some (.ow 0)) (hmj:ms[j]?=some (.ow 0)) (hc:X.calm=true) (hN:X.N.Nodup) (hi:X.N[i]?=some x) (hj:X.N[j]?=some y) (hij:i≠j)
  (hx:X.env.scope.names.lookup x=some .local) (hy:X.env.scope.names.lookup y=some .local) (ha:XA X ct ms [a,b] [0,0] fs)
  (hw:swappedStores [.Tuple [.Name x px,.Name y py] kt pt] (.Tuple [a,b] k2 pt2) X.env=pure (some [x,y]))
  (hs:swapsWithSole [.Tuple [.Name x px,.Name y py] kt pt] (.Tuple [a,b] k2 pt2) pos.line X.env=pure false:=by rfl) :
  XS X ct ms rk (.Assign [.Tuple [.Name x px,.Name y py] kt pt] (.Tuple [a,b] k2 pt2) pos) (sPar i j fs):=by
 obtain ⟨t,pt,_,qt⟩:=ha;refine ⟨_,ps_par hc hN hi hj hij hx hy pt hw hs,fun F0 B F H ρ σ o E rs e z=>?_⟩;obtain ⟨ds,h1,h2⟩:=bind1 e;refine qt F0 B F H ρ σ ds _ rs h1 fun vs F' H' x1 l=>?_;cases l with
 | cons l1 l =>
  cases l with
  | cons l2 l =>cases l;cases h2;have r1:=rs.set hmi x1 (Ow.zero l1) List.nodup_nil fun a z=>(by cases z);exact ⟨_,_,rfl,z _ F' H' (r1.set hmj (.refl x1.fh) (Ow.zero l2) List.nodup_nil fun a z=>(by cases z))⟩
def sAsg (g:D→Env→Option Env) (f:EF):SF:=fun ρ=>(f ρ).bind fun d=>(g d ρ).bind fun ρ'=>some (.nx ρ')
theorem xs_asg (he:XE X ct ms 0 e f) (hg:XG X ct ms 0 tg gg) (hs:swapsWithSole [tg] e pos.line X.env=pure false:=by rfl) (hw:swappedStores [tg] e X.env=pure none:=by rfl)
  (h1:(assignEach [tg] X.env).map (·.2)=[assign tg X.env]:=by rfl):XS X ct ms rk (.Assign [tg] e pos) (sAsg gg f):=by
 obtain ⟨t,pt,qt⟩:=he;obtain ⟨t2,pt2,qt2⟩:=hg;refine ⟨_,ps_asg pt pt2 hs hw h1,fun F0 B F H ρ σ o E rs e z=>?_⟩;obtain ⟨d,h1,h2⟩:=bind1 e;obtain ⟨ρ',h3,h4⟩:=bind1 h2;cases h4;exact qt F0 B F H ρ σ d _ rs h1 fun v F' H' x l=>qt2 F0 B F' H' ρ ρ' σ d v _ (rs.ext x) l h3 fun σ' r=>z σ' F' H' r
def modesOk:List Nat→List Mo→Bool
 | [],_=>true
 | n::ns,.al m::ms=>decide (n=m) && modesOk ns ms
 | n::ns,.ow m::ms=>decide (n=0) && decide (m=0) && modesOk ns ms
 | _,_=>false
theorem modes_of:∀{pm:List Nat} {ms:List Mo},modesOk pm ms=true→∀(i n:Nat),pm[i]?=some n→ms[i]?=some (Mo.al n)∨(n=0∧ms[i]?=some (Mo.ow 0))
 | [],_,_,i,n,e=>by simp at e
 | x::ns,.al m::ms,h,i,n,e=>by
  simp only [modesOk,Bool.and_eq_true,decide_eq_true_eq] at h;cases i with
  | zero=>simp at e; subst e; rw [h.1]; exact .inl rfl
  | succ i=>simpa using modes_of h.2 i n (by simpa using e)
 | x::ns,.ow m::ms,h,i,n,e=>by
  simp only [modesOk,Bool.and_eq_true,decide_eq_true_eq] at h;cases i with
  | zero=>simp at e; subst e; rw [h.1.1,h.1.2]; exact .inr ⟨rfl,rfl⟩
  | succ i=>simpa using modes_of h.2 i n (by simpa using e)
 | _::_,[],h,_,_,_=>by simp [modesOk] at h
 | _::_,.px _::_,h,_,_,_=>by simp [modesOk] at h
 | _::_,.so _::_,h,_,_,_=>by simp [modesOk] at h
def blkOk (X:Cx) (scope:Scope) (N:List Str) (own:Nat) (cap:List Nat):Bool :=
 decide (scope.kind=.function) && scope.names.all (fun x=>(decide (x.2≠.cell) || decide (scope.names.lookup x.1=some .cell)) && (decide (x.2≠.local) || decide (scope.names.lookup x.1=some .local)) && (decide (x.2≠.free) || (decide (X.env.kindOf x.1=some .cell) || decide (X.env.kindOf x.1=some .free)))) &&
 decide (N.length=own+cap.length) && (List.range cap.length).all fun j=>match N[own+j]?,cap[j]? with
  | some x,some i=>decide (X.N[i]?=some x) && decide (scope.names.lookup x=some .free)
  | _,_=>false
theorem blk_of (h:blkOk X scope N own cap=true):BlkOk X scope N own cap:=by
 unfold blkOk at h;simp only [Bool.and_eq_true,decide_eq_true_eq,List.all_eq_true,Bool.or_eq_true] at h;obtain ⟨⟨⟨h1,h2⟩,h3⟩,h4⟩:=h;refine ⟨h1,fun x hx hl=>((h2 x hx).1.1).elim (fun z=>absurd hl z) id,fun x hx hl=>((h2 x hx).1.2).elim (fun z=>absurd hl z) id,fun x hx hf=>((h2 x hx).2).elim (fun z=>absurd hf z) id,h3,fun j x hj=>?_⟩;have hjl:j<cap.length:=by have:=(List.getElem?_eq_some_iff.mp hj).1;omega
 have q:=h4 j (List.mem_range.mpr hjl);rw [hj] at q;have hc:cap[j]?=some cap[j]:=by simp [hjl]
 rw [hc] at q;simp only [Bool.and_eq_true,decide_eq_true_eq] at q;exact ⟨_,hc,q.1,q.2⟩
def tyD:D→Option String
 | .non=>some "NoneType"
 | .bl _=>some "bool"
 | .int _=>some "int"
 | .str _=>some "str"
 | .lst _=>some "list"
 | .tup _=>some "tuple"
 | .dK _ _=>some "dict"
 | _=>none
def tyL (K:PySem.W.Frag) (H:Hp) (v:V) (t:String):Prop:=TyOf K H v (.type t)∨(t = "list"∧∃a xs,v=.ref a∧SqL K H a xs)
theorem Al.ty {v:V} {t:String} (s:Same F H) (h:Al K ct F H n d v) (e:tyD d=some t):tyL K H v t:=by
 cases d with
 | non=>cases e; rw [h.non]; exact .inl .non
 | bl b=>cases e; rw [h.bl]; exact .inl (.bl b)
 | int b=>cases e; rw [h.int]; exact .inl (.int b)
 | str b=>cases e; rw [h.str]; exact .inl (.str b)
 | lst xs =>cases e;obtain ⟨a,vs,rfl,ha,_⟩:=h.lst s;exact .inr ⟨rfl,a,vs,rfl,ha⟩
 | tup xs =>cases e;obtain ⟨a,vs,rfl,ha,_⟩:=h.tup s;exact .inl (.tup ha)
 | dK ks xs =>cases e;obtain ⟨a,vs,rfl,ha,_⟩:=h.dK s;exact .inl (.dK ha)
 | _=>cases e
theorem call_isiA:CallR X (.builtin "isinstance") (fun xs H Q=>∃x c t b,xs=[x,.ty c]∧tyL X.K H x t∧PySem.W.kitOne X.K (.type t) (.type c)=some b∧Q (.bl b) H):=by
 intro pins s σ H xs us Q I r h;obtain ⟨x,c,t,b,rfl,ty,e,q⟩:=h;rcases ty with ty | ⟨rfl,a,ys,rfl,hq⟩
 ·exact call_isi pins s σ H _ us Q I r ⟨x,c,_,b,rfl,ty,e,q⟩
 ·obtain ⟨u,w',rfl,ru,rw'⟩:=vals2 r;cases (show w'=Value.type c from rw');cases (show u=Value.ref a from ru);obtain ⟨its,rv,⟨o,n,h1,h2,_⟩,_⟩:=I.list hq;exact PySem.W.kia_one PySem.W.kitx_list I.kIn ⟨o,h1,h2⟩ e (fun z=>nomatch z) fun tk=>⟨.bl b,H,I.tok tk,rfl,q⟩
def isiT (t c:String):Bool:=t == c || (t == "bool" && c == "int")
theorem kit_one:∀t∈(["NoneType","bool","int","str","list","tuple","dict"]:List String),∀c∈(["bool","int","str","list","tuple","dict"]:List String),PySem.W.kitOne K (.type t) (.type c)=some (isiT t c):=by intro t ht c hc;simp only [List.mem_cons,List.not_mem_nil,or_false] at ht hc;rcases ht with rfl | rfl | rfl | rfl | rfl | rfl | rfl <;> rcases hc with rfl | rfl | rfl | rfl | rfl | rfl <;> rfl
theorem tyD_mem {t:String} (e:tyD d=some t):t∈(["NoneType","bool","int","str","list","tuple","dict"]:List String):=by cases d <;> simp [tyD] at e <;> subst e <;> decide
variable {p2:Pos}
def isiD (c:String) (d:D):Option D:=(tyD d).bind fun t=>some (.bl (isiT t c))
theorem xe_isi {c:String} (hc:c∈(["bool","int","str","list","tuple","dict"]:List String)) (hm:X.mg "isinstance"=none) (hm2:X.mg c=none) (hb:bootBuiltins c=some (.type c)) (he:XE X ct ms n e f) (hg:Gl X "isinstance":=by rfl) (hg2:Gl X c:=by rfl) (hn2:Str.ofString c≠"__name__":=by decide) (hd2:(Str.ofString c == ("__debug__":Str))=false:=by decide)
  (hs1:starEach [e,.Name c p2] X.env=(false,eval e X.env)::starEach [.Name c p2] X.env:=by rfl) (hs2:starEach [.Name c p2] X.env=(false,eval (.Name c p2) X.env)::starEach [] X.env:=by rfl) (hpl:(backTo pos (starEach [.Name c p2] X.env)).any (·.1)=false:=by rfl) :
  XE X ct ms k (.Call (.Name "isinstance" pp) [e,.Name c p2] [] pos) (e1 (isiD c) f):=by
 obtain ⟨t,pt,qt⟩:=he;refine ⟨_,pe_callB call_isiA hg hm bt_isinstance (pa_cons pt (pa_cons (pe_bltn (v:=.ty c) hg2 hm2 hb rfl hn2 hd2) pa_nil hs2) hs1) (by decide) (by decide) hs1 hpl,fun F0 B F H ρ σ d Q rs e w=>?_⟩;obtain ⟨d1,h1,h2⟩:=bind1 e;obtain ⟨ty,h3,h4⟩:=bind1 h2;cases h4;exact qt F0 B F H ρ σ d1 _ rs h1 fun v F' H' x l=>⟨v,c,ty,_,rfl,l.ty x.fh h3,kit_one _ (tyD_mem h3) _ hc,w _ F' H' x (Al.of (.bl _))⟩
def spLaw (K:PySem.W.Frag):Sp:=fun vs H Q _=>∃(a:Addr) (ns:List Int),vs=[.ref a]∧SqL K H a (ns.map V.int)∧ns.length≤63∧∀H',Q (.bl true) H'
theorem Dts.ints {K:PySem.W.Frag} {ct:Nat→Addr} {F:Hp}:∀ns:List Int,Dts K ct F (ns.map D.int) (ns.map V.int)
 | []=>.nil
 | n::ns=>.cons (.int n) (Dts.ints ns)
theorem law_ok {w:World} {f:Addr} {fd:FuncData} {m:List D→Option D} (Fn:FnOk P w K mg base CX0 k f fd ps (LSp K ct [0] 0 m))
  (h:∀ns:List Int,ns.length≤63→m [.lst (ns.map .int)]=some (.bl true)):FnOk P w K mg base CX0 k f fd ps (spLaw K):=by
 have to:∀vs H Q E,spLaw K vs H Q E→LSp K ct [0] 0 m vs H Q E:=by
  rintro vs H Q E ⟨a,ns,rfl,hS,hl,q⟩;refine ⟨H,[.lst (ns.map .int)],.bl true,.refl _,.cons (Dt.lst hS (Dts.ints ns)) .nil,h ns hl,fun v F' H' fp x o nd hf=>?_⟩;have hv:v=.bl true:=by have o:Dt K ct F' (.bl true) v∧fp=[]:=o;cases o.1;rfl
  subst hv;exact q H'
 exact ⟨fun vs H Q E z=>Fn.len vs H Q E (to vs H Q E z),fun A outer s H args us vs Q E hr e0 hb hv z=>Fn.run A outer s H args us vs Q E hr e0 hb hv (to vs H Q E z)⟩
theorem forD_inv' {g:D→Env→Option Env} {b:SF} (I:List D→Env→Prop) (all:List D) (st:∀pre d post ρ,all=pre++d::post→I pre ρ→∃ρ1 ρ2,g d ρ=some ρ1∧(b ρ1=some (.nx ρ2)∨b ρ1=some (.ct ρ2))∧I (pre++[d]) ρ2):∀(ds pre:List D) (ρ:Env),all=pre++ds→I pre ρ →
  ∃ρ',forD g b ds ρ=some (.nx ρ')∧I all ρ'
 | [],pre,ρ,e,h=>⟨ρ,rfl,by rw [e,List.append_nil]; exact h⟩
 | d::ds,pre,ρ,e,h=>by obtain ⟨ρ1,ρ2,h1,h2,h3⟩:=st pre d ds ρ e h;obtain ⟨ρ',h4,h5⟩:=forD_inv' I all st ds (pre++[d]) ρ2 (by rw [e]; simp) h3;refine ⟨ρ',?_,h5⟩;show (g d ρ).bind _=_;rw [h1];show (b ρ1).bind _=_;rcases h2 with h2 | h2 <;> (rw [h2]; exact h4)
theorem forD_inv {g:D→Env→Option Env} {b:SF} (I:List D→Env→Prop) (h:I [] ρ) (st:∀pre d post ρ,ds=pre++d::post→I pre ρ→∃ρ1 ρ2,g d ρ=some ρ1∧(b ρ1=some (.nx ρ2)∨b ρ1=some (.ct ρ2))∧I (pre++[d]) ρ2) :
  ∃ρ',forD g b ds ρ=some (.nx ρ')∧I ds ρ':=forD_inv' I ds st ds [] ρ rfl h
theorem at_mid {all pre post:List α} {d:α} (h:all=pre++d::post):all[pre.length]?=some d:=by subst h; simp
theorem forD_fold {α S:Type} {g:D→Env→Option Env} {b:SF} (enc:α→D) (st:S→Env) (f:S→α→S) (P:S→Prop):∀(xs:List α) (s:S),P s →
  (∀s x,x∈xs→P s→∃ρ1,g (enc x) (st s)=some ρ1∧(b ρ1=some (.nx (st (f s x)))∨b ρ1=some (.ct (st (f s x))))∧P (f s x))→forD g b (xs.map enc) (st s)=some (.nx (st (xs.foldl f s)))∧P (xs.foldl f s)
 | [],s,hp,_=>⟨rfl,hp⟩
 | x::xs,s,hp,h=>by obtain ⟨ρ1,h1,h2,h3⟩:=h s x List.mem_cons_self hp;have ih:=forD_fold enc st f P xs (f s x) h3 fun s y hy=>h s y (List.mem_cons_of_mem _ hy);refine ⟨?_,ih.2⟩;show (g (enc x) (st s)).bind _=_;rw [h1];show (b ρ1).bind _=_;rcases h2 with h2 | h2 <;> (rw [h2]; exact ih.1)
theorem forD_upto {g:D→Env→Option Env} {b:SF} (I:Nat→Env→Prop) (lo:Int):∀(n k:Nat) (ρ:Env),I k ρ →
  (∀j ρ,k≤j→j<k+n→I j ρ→∃ρ1 ρ2,g (.int (lo+(j:Int))) ρ=some ρ1∧(b ρ1=some (.nx ρ2)∨b ρ1=some (.ct ρ2))∧I (j+1) ρ2) →
  ∃ρ',forD g b ((List.range' k n).map fun (t:Nat)=>D.int (lo+(t:Int))) ρ=some (.nx ρ')∧I (k+n) ρ'
 | 0,k,ρ,h,_=>⟨ρ,rfl,h⟩
 | n+1,k,ρ,h,st=>by obtain ⟨ρ1,ρ2,h1,h2,h3⟩:=st k ρ (Nat.le_refl _) (by omega) h;obtain ⟨ρ',h4,h5⟩:=forD_upto I lo n (k+1) ρ2 h3 fun j ρ hj hl hI=>st j ρ (by omega) (by omega) hI;refine ⟨ρ',?_,by rw [show k+(n+1)=k+1+n by omega]; exact h5⟩;rw [List.range'_succ,List.map_cons];show (g _ ρ).bind _=_;rw [h1];show (b ρ1).bind _=_;rcases h2 with h2 | h2 <;> (rw [h2]; exact h4)
theorem forD_range {g:D→Env→Option Env} {b:SF} (I:Nat→Env→Prop) (h:I 0 ρ)
  (st:∀j ρ,j<n→I j ρ→∃ρ1 ρ2,g (.int (lo+(j:Int))) ρ=some ρ1∧(b ρ1=some (.nx ρ2)∨b ρ1=some (.ct ρ2))∧I (j+1) ρ2):∃ρ',forD g b (upto lo n) ρ=some (.nx ρ')∧I n ρ':=by
 obtain ⟨ρ',h1,h2⟩:=forD_upto (g:=g) (b:=b) I lo n 0 ρ h fun j ρ _ hj hI=>st j ρ (by omega) hI;rw [Nat.zero_add] at h2;exact ⟨ρ',by unfold upto; rw [List.range_eq_range']; exact h1,h2⟩
theorem whileD_inv {c:BF} {b:SF} (I:Env→Prop) (μ:Env→Nat) (st:∀ρ,I ρ→∃t,c ρ=some t∧(t=true→∃ρ',(b ρ=some (.nx ρ')∨b ρ=some (.ct ρ'))∧I ρ'∧μ ρ' < μ ρ)) :
  ∀(n:Nat) (ρ:Env),I ρ→μ ρ<n→∃ρ',whileD c b n ρ=some (.nx ρ')∧I ρ'∧c ρ'=some false
 | 0,_,_,h=>absurd h (by omega)
 | n+1,ρ,hI,h=>by
  obtain ⟨t,h1,h2⟩:=st ρ hI;cases t with
  | false=>exact ⟨ρ,by show (c ρ).bind _=_; rw [h1]; rfl,hI,h1⟩
  | true =>obtain ⟨ρ',h3,h4,h5⟩:=h2 rfl;obtain ⟨ρ2,h6,h7,h8⟩:=whileD_inv I μ st n ρ' h4 (by omega);refine ⟨ρ2,?_,h7,h8⟩;show (c ρ).bind _=_;rw [h1];show (b ρ).bind _=_;rcases h3 with h3 | h3 <;> (rw [h3]; exact h6)
theorem fuel_sz (h:n<2 ^ k) (hk:k≤9000):n<FUEL:=Nat.lt_of_lt_of_le h (Nat.pow_le_pow_right (by decide) hk)
theorem fuel_le (h:n<1048576):n<FUEL:=fuel_sz (k:=20) h (by decide)
theorem fdivD_lit {i j:Int} (h1:0<j) (h2:j<4611686018427387904):fdivD (.int i) (.int j)=some (.int (i / j)):=by unfold fdivD; simp [h1,h2]
theorem modD_pos {i j:Int} (h:0<j):modD (.int i) (.int j)=some (.int (i % j)):=by unfold modD; simp [h]
theorem mulI_r {i j:Int} (h1:-18446744073709551616<j) (h2:j<18446744073709551616):mulI (.int i) (.int j)=some (.int (i * j)):=by simp [mulI,i2c,mulOk,h1,h2]
theorem mulI_l {i j:Int} (h1:-18446744073709551616<i) (h2:i<18446744073709551616):mulI (.int i) (.int j)=some (.int (i * j)):=by simp [mulI,i2c,mulOk,h1,h2]
theorem powD_lit {i j:Int} (h1:0≤j) (h2:j≤1000000) (h3:i.natAbs<18446744073709551616):powD (.int i) (.int j)=some (.int (i ^ j.toNat)):=by simp [powD,i2c,powOk,h1,h2,h3]
theorem shlD_lit {i j:Int} (h1:0≤j) (h2:j≤1000000) (h3:i.natAbs<18446744073709551616):shlD (.int i) (.int j)=some (.int (i * 2 ^ j.toNat)):=by simp [shlD,i2c,powOk,h1,h2,h3]
theorem shrD_lit {i j:Int} (h1:0≤j):shrD (.int i) (.int j)=some (.int (i / 2 ^ j.toNat)):=by simp [shrD,i2c,h1]
theorem addD_int (i j:Int):addD (.int i) (.int j)=some (.int (i+j)):=rfl
theorem addD_lst {xs ys:List D} (h:xs.length+ys.length≤16777216):addD (.lst xs) (.lst ys)=some (.lst (xs++ys)):=by simp [addD,h]
theorem subD_int (i j:Int):subD (.int i) (.int j)=some (.int (i-j)):=rfl
theorem ltD_int (i j:Int):ltD (.int i) (.int j)=some (.bl (decide (i<j))):=rfl
theorem leD_int (i j:Int):leD (.int i) (.int j)=some (.bl (decide (i≤j))):=rfl
theorem gtD_int (i j:Int):gtD (.int i) (.int j)=some (.bl (decide (j<i))):=rfl
theorem geD_int (i j:Int):geD (.int i) (.int j)=some (.bl (decide (j≤i))):=rfl
theorem negD_int (i:Int):negD (.int i)=some (.int (-i)):=rfl
theorem lenD_lst (ds:List D):lenD [.lst ds]=some (.int ds.length):=rfl
theorem lenD_tup (ds:List D):lenD [.tup ds]=some (.int ds.length):=rfl
theorem absD_int (i:Int):absD [.int i]=some (.int (if i<0 then -i else i)):=rfl
theorem max2D_int (i j:Int):max2D [.int i,.int j]=some (.int (if j > i then j else i)):=rfl
theorem min2D_int (i j:Int):min2D [.int i,.int j]=some (.int (if j<i then j else i)):=rfl
theorem isD_non (neg:Bool) (d:D):isD neg d .non=some (.bl (if neg then !d.isN else d.isN)):=by cases d <;> rfl
theorem isD_bl (neg b:Bool) (d:D):isD neg d (.bl b)=some (.bl (if neg then !d.isB b else d.isB b)):=by cases d <;> rfl
theorem asB_bl (b:Bool):asB (.bl b)=some b:=rfl
theorem asL_lst (ds:List D):asL (.lst ds)=some ds:=rfl
theorem sliceD_lst (ds:List D) (l h:Option Int):sliceD (.lst ds) l h=some (.lst (cutD ds l h)):=rfl
theorem rng1_int {j:Int} (h1:-4611686018427387904≤j) (h2:j<4611686018427387904):rng1 [.int j]=some (upto 0 j.toNat):=by simp [rng1,h1,h2]
theorem atI_map (enc:α→D) {xs:List α} {i:Int} {x:α} (hi:i=(j:Int)∨i=(j:Int)-xs.length) (h:xs[j]?=some x):atI (xs.map enc) i=some (enc x):=by
 have hj:=(List.getElem?_eq_some_iff.mp h).1;unfold L2.atI L2.ixN;rw [List.length_map];rcases hi with rfl | rfl
 ·rw [if_pos (by omega),if_pos (by omega)];simp [h]
 ·rw [if_neg (by omega),if_pos (by omega)];have:((j:Int)-(xs.length:Int)+(xs.length:Int)).toNat=j:=by omega
  simp [this,h]
theorem cutD_mid (xs:List D) (k l:Nat):cutD xs (some (k:Int)) (some (l:Int))=(xs.drop k).take (l-k):=by
 unfold cutD;rw [HT.sIx_nat,HT.sIx_nat];rcases Nat.le_total k xs.length with h | h
 ·rw [Nat.min_eq_left h];rcases Nat.le_total l xs.length with g | g
  ·rw [Nat.min_eq_left g]
  ·rw [Nat.min_eq_right g,List.take_of_length_le (by rw [List.length_drop]; omega),List.take_of_length_le (by rw [List.length_drop]; omega)]
 ·rw [Nat.min_eq_right h,List.drop_of_length_le (Nat.le_refl _),List.drop_of_length_le h];simp
theorem compD_map {α:Type} {g:D→Env→Option Env} {p:BF} {f:EF} {ρ0:Env} (enc:α→D) (q:α→Bool) (h:α→D):∀(xs:List α),(∀x∈xs,∃ρ1,g (enc x) ρ0=some ρ1∧p ρ1=some (q x)∧(q x=true→f ρ1=some (h x)))→compD g p f ρ0 (xs.map enc)=some ((xs.filter q).map h)
 | [],_=>rfl
 | x::xs,H=>by
  obtain ⟨ρ1,h1,h2,h3⟩:=H x List.mem_cons_self;have ih:=compD_map enc q h xs fun y hy=>H y (List.mem_cons_of_mem _ hy);show (g (enc x) ρ0).bind _=_;rw [h1];show (p ρ1).bind _=_;rw [h2];cases hq:q x with
  | false =>rw [Option.bind_some,if_neg Bool.false_ne_true,List.filter_cons_of_neg (by rw [hq]; exact Bool.false_ne_true)];exact ih
  | true =>rw [Option.bind_some,if_pos rfl,h3 hq,List.filter_cons_of_pos hq];show (compD g p f ρ0 (xs.map enc)).bind _=_;rw [ih];rfl
section
open PySem PySem.Spec L2
structure EncD (α:Type) [DecidableEq α] where
 enc:α→D
 py:α→PyData
 dep:Nat
 is:∀x,(enc x).py=some (py x)
 lay:∀x,(py x).canLay0=true
 dp:∀x,(py x).depth≤dep
 eqv:∀x y,PyData.eqv (py x) (py y)=decide (x=y)
section
variable {γ δ ε:Type} [DecidableEq α] [DecidableEq β] [DecidableEq γ] [DecidableEq δ] [DecidableEq ε]
theorem EncD.eq (E:EncD α) (h:E.dep≤60) (x y:α):eqD neg (E.enc x) (E.enc y)=some (.bl (if neg then !decide (x=y) else decide (x=y))):=by
 have h1:pyOk (E.py x)=true:=by unfold pyOk; rw [E.lay x,decide_eq_true (Nat.le_trans (E.dp x) h)]; rfl
 have h2:pyOk (E.py y)=true:=by unfold pyOk; rw [E.lay y,decide_eq_true (Nat.le_trans (E.dp y) h)]; rfl
 unfold eqD;rw [E.is x,E.is y];simp only [Option.bind_some];rw [if_pos ⟨h1,h2⟩,E.eqv]
def Ei:EncD Int:=⟨.int,.int,0,fun _=>by simp [D.py],fun _=>rfl,fun _=>by simp [PyData.depth],fun x y=>by show (x == y)=_; by_cases h:x=y <;> simp [h]⟩
def Eb:EncD Bool:=⟨.bl,.bool,0,fun _=>by simp [D.py],fun _=>rfl,fun _=>by simp [PyData.depth],fun x y=>by cases x <;> cases y <;> rfl⟩
def encO:Option Int→D
 | none=>.non
 | some i=>.int i
def pyO:Option Int→PyData
 | none=>.none
 | some i=>.int i
def Eo:EncD (Option Int):=⟨encO,pyO,0,fun x=>by cases x <;> simp [encO,pyO,D.py],fun x=>by cases x <;> rfl,fun x=>by cases x <;> simp [pyO,PyData.depth],fun x y=>by
 cases x <;> cases y
 ·rfl
 ·rfl
 ·rfl
 ·rename_i a b; show (a == b)=_; by_cases h:a=b <;> simp [h]⟩
def E2 (A:EncD α) (B:EncD β):EncD (α×β):=⟨fun p=>.tup [A.enc p.1,B.enc p.2],fun p=>.tuple [A.py p.1,B.py p.2],max A.dep B.dep+1,fun p=>by simp [D.py,D.pys,A.is,B.is],fun p=>by simp [PyData.canLay0,PyData.canLayAll0,A.lay,B.lay],
 fun p=>by have:=A.dp p.1; have:=B.dp p.2; simp only [PyData.depth,PyData.depthAll]; omega,fun p q=>by simp only [PyData.eqv,PyData.eqvAll,A.eqv,B.eqv];obtain ⟨a,b⟩:=p;obtain ⟨c,d⟩:=q;by_cases h:a=c <;> by_cases g:b=d <;> simp [h,g]⟩
end
theorem eqD_int (a b:Int):eqD neg (.int a) (.int b)=some (.bl (if neg then !decide (a=b) else decide (a=b))):=Ei.eq (by decide) a b
theorem eqD_bl (a b:Bool):eqD neg (.bl a) (.bl b)=some (.bl (if neg then !decide (a=b) else decide (a=b))):=Eb.eq (by decide) a b
end
theorem IntsAre.of {ns:List Int} {us:List Value} (h:Vals (ns.map V.int) us):IntsAre us ns:=intsAre_of h
theorem bools_get:∀{bs:List Bool} {us:List Value},Vals (bs.map V.bl) us→us=bs.map Value.bool
 | [],_,.nil=>rfl
 | b::bs,_,.cons r t=>by rw [bools_get t]; cases (show _=Value.bool b from r); rfl
theorem call_allL (hc:X.calm=true):CallR X (.builtin "all") (fun xs H Q=>∃(a:Addr) (bs:List Bool),xs=[.ref a]∧SqL X.K H a (bs.map V.bl)∧Q (.bl (bs.all id)) H):=by
 intro pins s σ H xs us Q I r h;obtain ⟨a,bs,rfl,hq,q⟩:=h;obtain ⟨u,rfl,ru⟩:=r.one;cases (show u=Value.ref a from ru);obtain ⟨its,rv,pl,hz⟩:=I.list hq;have hb:=bools_get rv;subst hb;have hl:=pl.isList;have hlt:a<s.heap.objs.size:=by obtain ⟨_,e,_⟩:=hl; exact Heap.lt_size e
 refine PySem.call_all_walk (wpAny_pyIter_list hl ?_);refine ⟨s.heap.objs.size,[s.heap.objs.size,a],[s.heap.objs.size],(bs.map Value.bool).toArray.size,_,_,fun i=>(bs[i]?).getD true,rfl,Walks.list (A:=X.A.in1) (I.ok.hd hc) _ a (Nat.ne_of_lt hlt) (bs.map Value.bool).toArray,
  ⟨⟨_,Heap.get?_push_size _ rfl,rfl,rfl⟩,hl.push _⟩,fun i v s' Q' E' hP hQ=>?_,fun h' tk hk=>?_⟩
 ·have hP:(bs.map Value.bool)[i]?=some v:=by simpa using hP
  rw [List.getElem?_map] at hP;obtain ⟨b,hb,rfl⟩:=Option.map_eq_some_iff.mp hP;simp only [hb,Option.getD_some] at hQ;exact wpAny_truthy_bool hQ
 ·have e:((List.range (bs.map Value.bool).toArray.size).all fun i=>(bs[i]?).getD true)=bs.all id:=by rw [List.size_toArray,List.length_map]; exact PyProof.Rows.LSm.range_all bs
  rw [e];refine ⟨.bl (bs.all id),H,I.kept (t':=tk) fun b o hbo=>hk b o (fun hm=>?_) (Heap.get?_push_of_some _ hbo),rfl,q⟩;rw [List.mem_singleton.mp hm] at hbo;exact Nat.lt_irrefl _ (Heap.lt_size hbo)
def intsD:List D→Option (List Int)
 | []=>some []
 | .int i::ds=>(intsD ds).bind fun ns=>some (i::ns)
 | _=>none
theorem intsD_some:∀{ds:List D} {ns:List Int},intsD ds=some ns→ds=ns.map .int
 | [],_,e=>by cases e; rfl
 | d::ds,ns,e=>by
  cases d with
  | int i =>obtain ⟨ms,h1,h2⟩:=bind1 (show (intsD ds).bind _=_ from e);cases h2;rw [intsD_some h1]; rfl
  | _=>cases e
theorem intsD_map:∀ns:List Int,intsD (ns.map .int)=some ns
 | []=>rfl
 | n::ns=>by show (intsD (ns.map .int)).bind _=_; rw [intsD_map ns]; rfl
theorem Pr.intV {F G:Hp}:∀{ns:List Int} {vs:List V},Pr (Al K ct F G n) (ns.map .int) vs→vs=ns.map V.int
 | [],_,.nil=>rfl
 | i::ns,_,.cons h t=>by rw [Pr.intV t,h.int]; rfl
def boolsD:List D→Option (List Bool)
 | []=>some []
 | .bl i::ds=>(boolsD ds).bind fun ns=>some (i::ns)
 | _=>none
theorem boolsD_some:∀{ds:List D} {ns:List Bool},boolsD ds=some ns→ds=ns.map .bl
 | [],_,e=>by cases e; rfl
 | d::ds,ns,e=>by
  cases d with
  | bl i =>obtain ⟨ms,h1,h2⟩:=bind1 (show (boolsD ds).bind _=_ from e);cases h2;rw [boolsD_some h1]; rfl
  | _=>cases e
theorem Pr.blV {F G:Hp}:∀{ns:List Bool} {vs:List V},Pr (Al K ct F G n) (ns.map .bl) vs→vs=ns.map V.bl
 | [],_,.nil=>rfl
 | i::ns,_,.cons h t=>by rw [Pr.blV t,h.bl]; rfl
def maxI:List Int→Option Int
 | []=>none
 | x::xs=>some (xs.foldl max x)
theorem foldl_max:∀(xs:List Int) (x:Int),(xs.foldl max x=x∨xs.foldl max x∈xs)∧x≤xs.foldl max x∧∀z∈xs,z≤xs.foldl max x
 | [],x=>⟨.inl rfl,Int.le_refl _,fun z h=>by cases h⟩
 | y::xs,x=>by
  obtain ⟨h1,h2,h3⟩:=foldl_max xs (max x y);refine ⟨?_,by show x≤xs.foldl max (max x y); omega,fun z hz=>?_⟩
  ·rcases h1 with h1 | h1
   ·show xs.foldl max (max x y)=x∨xs.foldl max (max x y)∈y::xs;rw [h1];rcases Int.le_total x y with h | h
    ·rw [Int.max_eq_right h]; exact .inr List.mem_cons_self
    ·rw [Int.max_eq_left h]; exact .inl rfl
   ·exact .inr (List.mem_cons_of_mem _ h1)
  ·rcases List.mem_cons.mp hz with rfl | hz
   ·show z≤xs.foldl max (max x z); omega
   ·exact h3 z hz
theorem maxI_mem {ns:List Int} {M:Int} (h:maxI ns=some M):M∈ns∧∀z∈ns,z≤M:=by
 cases ns with
 | nil=>cases h
 | cons x xs =>
  cases h;obtain ⟨h1,h2,h3⟩:=foldl_max xs x;refine ⟨?_,fun z hz=>?_⟩
  ·rcases h1 with h1 | h1
   ·rw [h1]; exact List.mem_cons_self
   ·exact List.mem_cons_of_mem _ h1
  ·rcases List.mem_cons.mp hz with rfl | hz
   ·exact h2
   ·exact h3 z hz
def sumD:List D→Option D
 | [.lst ds]=>(intsD ds).bind fun ns=>some (.int ns.sum)
 | _=>none
def allD:List D→Option D
 | [.lst ds]=>(boolsD ds).bind fun bs=>some (.bl (bs.all id))
 | _=>none
theorem lst_ints {ns:List Int} (s:Same F H) (l:AlL K ct F H [n] [.lst ds] vs) (e:intsD ds=some ns):∃a,vs=[.ref a]∧SqL K H a (ns.map V.int):=by
 cases l with
 | cons h t =>cases t;obtain ⟨a,us,rfl,ha,hp⟩:=h.lst s;have:=intsD_some e;subst this;have:=hp.intV;subst this;exact ⟨a,rfl,ha⟩
theorem opn_all:OpN K ct [n] k (fun xs H Q=>∃(a:Addr) (bs:List Bool),xs=[.ref a]∧SqL K H a (bs.map V.bl)∧Q (.bl (bs.all id)) H) allD:=by
 intro F H vs ds d Q s l e w
 match ds,l,e with
 | [.lst xs],l,e =>
  obtain ⟨bs,h1,h2⟩:=bind1 (show (boolsD xs).bind _=_ from e);cases h2;cases l with
  | cons h t =>cases t;obtain ⟨a,us,rfl,ha,hp⟩:=h.lst s;have:=boolsD_some h1;subst this;have:=hp.blV;subst this;exact ⟨a,bs,rfl,ha,w _ F H (.refl s) (Al.of (.bl _))⟩
theorem Pr.ofInts {F H:Hp}:∀ns:List Int,Pr (Al K ct F H 0) (ns.map .int) (ns.map V.int)
 | []=>.nil
 | n::ns=>.cons (show Dt K ct F (.int n) (.int n) from .int n) (Pr.ofInts ns)
def hid (H:Hp) (x:Addr):Hp:=fun b=>if b=x then none else H b
theorem hid_same (H:Hp) (x:Addr):Same (hid H x) H:=fun b o h=>by
 unfold hid at h;by_cases e:b=x
 ·rw [if_pos e] at h; cases h
 ·rw [if_neg e] at h; exact h
theorem hid_at (H:Hp) (x:Addr):hid H x x=none:=if_pos rfl
theorem hid_ne {x b:Addr} (h:b≠x):hid H x b=H b:=if_neg h
def ISp (K:PySem.W.Frag) (ct:Nat→Addr) (cs:List Nat) (pm:List Nat) (mi:Nat→List D→Option D):Sp:=fun vs H Q _=>∃(F:Hp) (c:Nat) (ds:List D) (d:D) (x dx:Addr) (us:List V),c∈cs∧vs=.ref x::us∧H x=some (.ins (ct c) dx [])∧F x=none∧Same F H∧AlL K ct F (hid H x) pm ds us∧mi c ds=some d ∧
 ∀F' H',Same F F'→Same (hid H x) H'→Same F' H'→(∀a o,hid H x a=some o→NTup o→F a=none→F' a=none)→F' x=none→Ow K ct F' H' 1 d (.ref x) [x]→Q .non H'
variable {mi:Nat→List D→Option D}
theorem ISp.len (h:pm.length+1=ps.length):∀vs H Q E,ISp K ct cs pm mi vs H Q E→vs.length=ps.length:=by rintro vs H Q E ⟨F,c,ds,d,x,dx,us,_,rfl,_,_,_,l,_⟩;rw [List.length_cons,l.length,h]
def iOf (N:List Str) (b:SF) (c:Nat) (ds:List D):Option D:=(b (some (.obj c [] [])::startD N.tail ds)).bind fun o=>match o with
 | .nx ρ=>(ρ[0]?).join
 | _=>none
theorem lift_init {w:World} {fd:FuncData} {N0:Str} (Fn:Fun2 K x qual st fa fd) (S:FnScope (N0::N) ps (defScope st)) (hpm:pm.length+1=ps.length) (hms:ms.length=N.length) (hle:pm.length≤N.length)
  (hmo:∀(i n:Nat),pm[i]?=some n→ms[i]?=some (Mo.al n)∨(n=0∧ms[i]?=some (Mo.ow 0)))
  (body:∀(x:Addr) (cdv:Value) (A:Around) (outer:List PySem.Env) (s:Shared) (H:Hp) (E:XK),Room kk (A.deeper (envOfC qual (defScope st) s.heap.objs.size fa cdv))→XSs (cxOf CX0 P w K mg base (N0::N) qual (defScope st) fa cdv A outer s H E).nox ct (.so x::ms) rk (defBody st) bf) :
  FnOk P w K mg base CX0 (kk+1) fa fd ps (ISp K ct cs pm (iOf (N0::N) bf)):=by
 refine Fn.ok S (ISp.len hpm) fun cdv A outer s H vs Q E hr h=>?_;obtain ⟨F,c,ds,d,x,dx,us,hc,rfl,hx,hF,sF,l,hm,q⟩:=h;obtain ⟨t,pt,qt⟩:=body x cdv A outer s H E hr;refine ⟨t,pt,?_⟩;obtain ⟨o,h1,h2⟩:=bind1 hm;have hdl:ds.length=us.length:=l.length';have hul:us.length=pm.length:=l.length;have ow:Ow K ct F H 1 (.obj c [] []) (.ref x) [x]:=.inr (OwC.obj (vs:=[]) hF hx rfl .nil);have sFB:Same F (hid H x):=fun b o hb=>by rw [hid_ne (fun e=>by rw [e,hF] at hb; cases hb)];exact sF _ _ hb
 refine qt F (hid H x) F H (some (.obj c [] [])::startD N ds) (L2.start (N0::N) (.ref x::us)) o _ ⟨.refl _,hid_same H x,sF,fun _ _ _ _ h=>h,[x],?_,by simp,fun a z=>by rw [List.mem_singleton] at z; subst z; exact hid_at H _⟩ h1 ?_
 ·have e:L2.start (N0::N) (.ref x::us)=some (.ref x)::(us.map some++List.replicate (N.length-us.length) none):=by unfold L2.start;simp
  rw [e];unfold startD;rw [hdl];exact SL.so (fp:=[]) ow (SL.start _ l hmo (by omega))
 ·cases o with
  | nx ρ =>
   intro σ F' H' r;obtain ⟨fp,sl,nd,hb⟩:=r.sl;cases sl with
   | no _=>cases h2
   | so ow' _ =>cases h2;exact q F' H' r.f0 r.bh r.fh r.nf (ow'.cells x List.mem_cons_self).1 ow'
  | rt d'=>cases h2
  | bk ρ=>cases h2
  | ct ρ=>cases h2
theorem putF_new {f:Str} {y:V}:∀{ns:List Str} {vs:List V},ns.length=vs.length→ns.contains f=false→putF f y (ns.zip vs)=(ns++[f]).zip (vs++[y])
 | [],[],_,_=>rfl
 | [],_::_,h,_=>by simp at h
 | _::_,[],h,_=>by simp at h
 | n::ns,v::vs,h,hc=>by
  rw [List.contains_cons,Bool.or_eq_false_iff] at hc;have hn:¬n=f:=fun e=>by rw [e] at hc; simp at hc
  have ih:=putF_new (f:=f) (y:=y) (ns:=ns) (vs:=vs) (by simpa using h) hc.2;show putF f y ((n,v)::ns.zip vs)=(n,v)::(ns++[f]).zip (vs++[y]);rw [← ih];show (if n=f then _ else _)=_;rw [if_neg hn]
theorem Ow.obj_inv {c:Nat} {ns:List Str} {v:V} (h:Ow K ct F H (k+1) (.obj c ns ds) v fp):∃a dx vs fr,v=.ref a∧fp=a::fr∧F a=none∧H a=some (.ins (ct c) dx (ns.zip vs))∧ns.length=vs.length∧OwL (Ow K ct F H k) ds vs fr:=by
 rcases h with ⟨h,_⟩ | h
 ·cases h
 ·cases h with
  | obj h1 h2 h3 h4=>exact ⟨_,_,_,_,rfl,rfl,h1,h2,h3,h4⟩
variable {C:Addr} {s:Str}
section
variable {x0:Addr}
def sFldD (cs:List Nat) (x:Str) (f:EF):SF:=fun ρ=>(f ρ).bind fun d=>(eV 0 ρ).bind fun o=>match o with
 | .obj c ns ds=>if cs.contains c=true∧ns.contains x=false∧ns.length<900 then some (.nx (ρ.set 0 (some (.obj c (ns++[x]) (ds++[d]))))) else none
 | _=>none
theorem RS.self {F' H':Hp} (rs:RS K ct F0 B (.so x0::ms) F H ρ σ) (hd:ρ[0]?=some (some d)):σ[0]?=some (some (.ref x0))∧Ow K ct F H 1 d (.ref x0) [x0]∧B x0=none ∧
  ∀(F' H':Hp) (d':D),Same F F'→Same B H'→Same F' H'→(∀a o,B a=some o→NTup o→F0 a=none→F' a=none)→(∀a o,H a=some o→a≠x0→H' a=some o)→(∀a o,H a=some o→a≠x0→NTup o→F a=none→F' a=none)→Ow K ct F' H' 1 d' (.ref x0) [x0]→RS K ct F0 B (.so x0::ms) F' H' (ρ.set 0 (some d')) σ:=by
 obtain ⟨fp,sl,nd,hb⟩:=rs.sl;cases sl with
 | no _=>simp at hd
 | so ow t =>simp at hd;subst hd;refine ⟨rfl,ow,hb _ List.mem_cons_self,fun F' H' d' s1 s2 s3 s4 k1 k2 o'=>⟨rs.f0.trans s1,s2,s3,s4,_,.so o' (t.frame s1 fun a z=>?_),nd,hb⟩⟩;obtain ⟨hn,o,ho,nt⟩:=t.cells a z;have ne:a≠x0:=fun e=>(List.nodup_cons.mp nd).1 (by rw [← e]; exact z);exact ⟨(k1 a o ho ne).trans ho.symm,k2 a o ho ne nt hn⟩
theorem xs_fld (hc:∀c∈cs,Cls X.K (ct c)∧NoAttr X.K (ct c) x) (he:XE X ct (.so x0::ms) 0 e f) (hN:X.N[0]?=some s:=by rfl) (hv:Vis X.env.scope s:=by first | exact Or.inl rfl | exact Or.inr (Or.inl rfl) | exact Or.inr (Or.inr rfl)) (hd:(s == ("__debug__":Str))=false:=by decide)
  (hcd:(s == ("__classdict__":Str))=false:=by decide) (hs:swapsWith e (some (.Attribute (.Name s p1) x pos')) pos.line X.env=pure false:=by rfl):XS X ct (.so x0::ms) rk (.Assign [.Attribute (.Name s p1) x pos'] e pos) (sFldD cs x f):=by
 obtain ⟨t,pt,qt⟩:=he;refine ⟨_,ps_fld (pe_var hN hv hd hcd) pt hs,fun F0 B F H ρ σ o E rs e z=>?_⟩;obtain ⟨d,h1,h2⟩:=bind1 e;obtain ⟨ob,h3,h4⟩:=bind1 h2;refine qt F0 B F H ρ σ d _ rs h1 fun y F1 H1 x1 l=>?_;have rs1:=rs.ext x1;obtain ⟨hσ,ow,hB,put⟩:=rs1.self (F':=F) (H':=H) (join_some h3);refine ⟨_,hσ,?_⟩;cases ob with
 | obj c ns ds =>
  dsimp only at h4;by_cases hz:cs.contains c=true∧ns.contains x=false∧ns.length<900
  ·rw [if_pos hz] at h4;cases h4;obtain ⟨a,dx,vs,fr,e1,e2,hF,hH,hl,ol⟩:=ow.obj_inv;cases e1;cases e2;have hh:=hc c (by simpa using hz.1);refine ⟨x0,_,dx,_,rfl,hH,hh.1,hh.2,by rw [List.length_zip,← hl,Nat.min_self]; omega,?_⟩;rw [putF_new hl hz.2.1];refine z σ F1 _ (put F1 _ _ (.refl _) (fun b o h=>?_) (fun b o h=>?_) rs1.nf (fun b o h ne=>by rw [upd_ne ne]; exact h) (fun b o h ne _ hn=>hn) (.inr (OwC.obj (vs:=vs++[y]) hF upd_same (by simp [hl]) ?_)))
   ·rw [upd_ne (fun e=>by rw [e,hB] at h; cases h)]; exact rs1.bh _ _ h
   ·rw [upd_ne (fun e=>by rw [e,hF] at h; cases h)]; exact rs1.fh _ _ h
   ·have o1:OwL (Ow X.K ct F1 (upd H1 x0 (.ins (ct c) dx ((ns++[x]).zip (vs++[y])))) 0) ds vs []:=ol.mono fun _ _ _ _ q=>⟨q.1,q.2⟩;have:=o1.append (OwL.cons (f:=[]) (g:=[]) (R:=Ow X.K ct F1 (upd H1 x0 (.ins (ct c) dx ((ns++[x]).zip (vs++[y])))) 0) ⟨l,rfl⟩ .nil);exact this
  ·rw [if_neg hz] at h4; cases h4
 | _=>cases h4
variable {fd:FuncData}
theorem xo_make (M:Mk X.K (ct c0) fa) (hcs:c0∈cs) (Fn:FnOk X.prog X.w X.K X.mg X.base CX0 kk fa fd ps (ISp X.K ct cs (ns++nd) mi)) (hr:Room (kk+1) X.A) (hg:Gl X x) (hm:X.mg x=some (.ref (ct c0)))
  (hb:Binds X.K fd ps dsv) (hd:Vals dvs dsv) (hdd:∀F G,AlL X.K ct F G nd dds dvs) (ha:XA X ct ms (e::es) ns fs)
  (hdb:(x == ("__debug__":Str))=false:=by decide) (he:starEach (e::es) X.env=(false,eval e X.env)::starEach es X.env:=by rfl) (hpl:(backTo pos (starEach es X.env)).any (·.1)=false:=by rfl) :
  XO X ct ms 1 (.Call (.Name x pp) (e::es) [] pos) (fun ρ=>(fs ρ).bind fun ds=>mi c0 (ds++dds)):=by
 obtain ⟨t,pt,_,qt⟩:=ha;refine ⟨_,pe_make M Fn hr hg hm hb hd pass0 pt hdb he hpl,fun F0 B F H ρ σ r Q rs e w=>?_⟩;obtain ⟨ds,h1,h2⟩:=bind1 e;refine qt F0 B F H ρ σ ds _ rs h1 fun vs F1 H1 x1 l y dy hy hdy hne=>?_;have sH:Same H1 (hid (upd (upd H1 dy (.own y)) y (.ins (ct c0) dy [])) y):=fun b o h=>by have n1:b≠y:=ne_of_none h hy;rw [hid_ne n1,upd_ne n1,upd_ne (ne_of_none h hdy)];exact h
 have sH2:Same H1 (upd (upd H1 dy (.own y)) y (.ins (ct c0) dy [])):=sH.trans (hid_same _ _);refine ⟨F1,c0,ds++dds,r,y,dy,vs++dvs,hcs,rfl,upd_same,x1.fh.free hy,x1.fh.trans sH2,AlL.mono (.refl _) sH (AlL.append (hdd F1 H1) l),h2,fun F' H' s1 s2 s3 s4 hn ow=>⟨rfl,?_⟩⟩;refine w _ F' H' [y] ⟨x1.ff.trans s1,(x1.hh.trans sH).trans s2,s3,fun b o h t n=>s4 b o (sH _ _ (x1.hh _ _ h)) t (x1.nf b o h t n)⟩ ow (by simp) fun b z=>?_;rw [List.mem_singleton] at z;subst z;exact x1.hh.free hy
theorem pe_cmeth {sp:Sp} {ds:List Value} {E:XK} {m:Str} {p:Pos} {t:TA} {mc:Value} (Fn:FnOk X.prog X.w X.K X.mg X.base CX0 kk fa fd ps sp) (hr:Room kk X.A) (hg:Gl X x) (hm:X.mg x=some (.ref C))
  (h1:PySem.W.specialIn X.K (.ref C) "__getattribute__"=some (some (.builtin "type.__getattribute__"))) (h2:PySem.W.readsIn X.K C mc=true) (h3:PySem.W.findCls X.K (.ref C) mc m=some (.val (.ref fa))) (hk:PySem.W.keepIn X.K (.ref fa)=true) (hb:Binds X.K fd ps ds) (hd:Vals dvs ds) (hx:Passes CX0 X E) (ha:PA X (e::es) t)
  (hdb:(x == ("__debug__":Str))=false:=by decide) (hst:starEach (e::es) X.env=(false,eval e X.env)::starEach es X.env:=by rfl) (hpl:(backTo pos (starEach es X.env)).any (·.1)=false:=by rfl)
  (ht:eval (.Call (.Attribute (.Name x p) m apos) (e::es) [] pos) X.env=(do
   let ov ← eval (.Name x p) X.env
   standAt apos.atName
   let (f,first) ← holding [ov] (getMethod ov m pl)
   callWith pos f first (backTo pos (starEach (e::es) X.env)) (backToKw pos (keywordEach [] X.env))):=by rfl) :
  PE X (.Call (.Attribute (.Name x p) m apos) (e::es) [] pos) (tCall sp dvs E t):=by
 intro pins s σ H Q I h;refine PySem.W.methodCall_KW (pl:=pl) (ld_glob I hg hm ?_ hdb) ht;refine PySem.W.method_cls I.kIn h1 (PySem.W.cls_value I.kIn h2 h3 rfl ?_);have I1:Inv X pins σ H { s with toks:=s.toks+1 }:=I.tok _;refine PySem.W.callWith_K (first:=[]) (h₀:=X.base) I.ok.mod.kin hk (thn (ha pos pins _ σ H _ I1 h) fun us s2 ⟨vs,H2,I2,r,q2⟩=>⟨I2.kIn,?_⟩) hst hpl;exact run_fn (us:=us) (vs:=vs) Fn hr hb hd hx I2 r q2
theorem AlL.flat (h:AlL K ct F G ns ds vs) (e:ns.all (· == 0)=true):AlL K ct F G' ns ds vs:=by
 induction h with
 | nil=>exact .nil
 | cons h t ih =>rw [List.all_cons,Bool.and_eq_true] at e;cases eq_of_beq e.1;exact .cons h (ih e.2)
def sInitD (cs:List Nat) (fs:Env→Option (List D)) (mi:Nat→List D→Option D):SF:=fun ρ=>(eV 0 ρ).bind fun o=>(fs ρ).bind fun ds=>match o with
 | .obj c [] []=>if cs.contains c=true then (mi c ds).bind fun d=>some (.nx (ρ.set 0 (some d))) else none
 | _=>none
theorem xs_init {m:Str} {p:Pos} {mc:Value} (Fn:FnOk X.prog X.w X.K X.mg X.base CX0 kk fa fd ps (ISp X.K ct cs ns mi)) (hr:Room kk X.A) (hm:X.mg x=some (.ref C))
  (h1:PySem.W.specialIn X.K (.ref C) "__getattribute__"=some (some (.builtin "type.__getattribute__"))) (h2:PySem.W.readsIn X.K C mc=true) (h3:PySem.W.findCls X.K (.ref C) mc m=some (.val (.ref fa))) (hk:PySem.W.keepIn X.K (.ref fa)=true) (hb:Binds X.K fd ps []) (hz:ns.all (· == 0)=true) (ha:XA X ct (.so x0::ms) es ns fs)
  (hg:Gl X x:=by rfl) (hN:X.N[0]?=some s:=by rfl) (hv:Vis X.env.scope s:=by first | exact Or.inl rfl | exact Or.inr (Or.inl rfl) | exact Or.inr (Or.inr rfl)) (hd:(s == ("__debug__":Str))=false:=by decide)
  (hcd:(s == ("__classdict__":Str))=false:=by decide) (hdb:(x == ("__debug__":Str))=false:=by decide) (hst:starEach (.Name s p1::es) X.env=(false,eval (.Name s p1) X.env)::starEach es X.env:=by rfl) (hpl:(backTo cpos (starEach es X.env)).any (·.1)=false:=by rfl)
  (ht:eval (.Call (.Attribute (.Name x p) m apos) (.Name s p1::es) [] cpos) X.env=(do
   let ov ← eval (.Name x p) X.env
   standAt apos.atName
   let (f,first) ← holding [ov] (getMethod ov m pl)
   callWith cpos f first (backTo cpos (starEach (.Name s p1::es) X.env)) (backToKw cpos (keywordEach [] X.env))):=by rfl)
  (hsw:swapsWith (.Call (.Attribute (.Name x p) m apos) (.Name s p1::es) [] cpos) none pos.line X.env=pure false:=by rfl) :
  XS X ct (.so x0::ms) rk (.Expr (.Call (.Attribute (.Name x p) m apos) (.Name s p1::es) [] cpos) pos) (sInitD cs fs mi):=by
 obtain ⟨t,pt,_,qt⟩:=ha;refine ⟨_,ps_expr (pe_cmeth (E:=E0) Fn hr hg hm h1 h2 h3 hk hb .nil pass0 (pa_cons (pe_var hN hv hd hcd) pt hst) hdb hst hpl ht) hsw,fun F0 B F H ρ σ o E rs e z=>?_⟩;obtain ⟨ob,ds,g1,g2,g3⟩:=bind2 e;obtain ⟨hσ,ow,hB,put⟩:=rs.self (F':=F) (H':=H) (join_some g1);refine ⟨_,hσ,qt F0 B F H ρ σ ds _ rs g2 fun vs F1 H1 x1 l=>?_⟩;have rs1:=rs.ext x1;obtain ⟨hσ,ow,hB,put⟩:=rs1.self (F':=F) (H':=H) (join_some g1)
 match ob,g3,ow with
 | .obj c [] [],g3,ow =>
  dsimp only at g3;by_cases hc:cs.contains c=true
  ·rw [if_pos hc] at g3;obtain ⟨d,g4,g5⟩:=bind1 g3;cases g5;obtain ⟨a,dx,us,fr,e1,e2,hF,hH,hl,ol⟩:=ow.obj_inv;cases e1;cases e2;refine ⟨F1,c,ds,d,x0,dx,vs++[],by simpa using hc,rfl,hH,hF,x1.fh,?_,g4,fun F' H' s1 s2 s3 s4 hn o'=>?_⟩
   ·rw [List.append_nil]; exact l.flat hz
   ·have sB:Same B (hid H1 x0):=fun b o h=>by rw [hid_ne (fun e=>by rw [e,hB] at h; cases h)];exact rs1.bh _ _ h
    exact z σ F' H' (put F' H' d s1 (sB.trans s2) s3 (fun b o h t n=>s4 b o (sB _ _ h) t (rs1.nf b o h t n)) (fun b o h ne=>s2 _ _ (by rw [hid_ne ne]; exact h)) (fun b o h ne t hn'=>s4 b o (by rw [hid_ne ne]; exact h) t hn') o')
  ·rw [if_neg hc] at g3; cases g3
end
structure Dn2 (K:PySem.W.Frag) (mg:Str→Option Value) (x:Str) (st:Stmt) (ps:List Str) (f:Addr) (fd:FuncData):Prop where
 fn:Fun2 K x x st f fd
 mgx:mg x=some (.ref f)
 bd:Binds K fd ps []
structure Dm (K:PySem.W.Frag) (C:Addr) (m qual:Str) (st:Stmt) (ps:List Str) (f:Addr) (fd:FuncData):Prop where
 fn:Fun2 K m qual st f fd
 me:Meth K C m f
 bd:Binds K fd ps []
structure Dc (K:PySem.W.Frag) (mg:Str→Option Value) (x:Str) (C:Addr):Prop where
 cl:Cls K C
 mgx:mg x=some (.ref C)
 mks:PySem.W.makesIn K C=true
 kp:PySem.W.keepIn K (.ref C)=true
structure Dq (K:PySem.W.Frag) (C:Addr) (m:Str) (f:Addr):Prop where
 sp:PySem.W.specialIn K (.ref C) "__getattribute__"=some (some (.builtin "type.__getattribute__"))
 rd:PySem.W.readsIn K C (.type "type")=true
 fc:PySem.W.findCls K (.ref C) (.type "type") m=some (.val (.ref f))
variable {an od:Option Addr} {cdv dV doc oc:Value} {osl:Array (Option Value)}
theorem fun2_mk {f:Addr} {kV pm ct:Value} (l:K.lookup f=some ⟨oc,od,.func (PySem.W.fnOf x qual (defArgs st) (defBody st) (defScope st) dV kV doc pm an cdv ct),osl⟩)
  (c:PySem.W.codeIn K cdv qual=true) (k:PySem.W.keepIn K (.ref f)=true):Fun2 K x qual st f (PySem.W.fnOf x qual (defArgs st) (defBody st) (defScope st) dV kV doc pm an cdv ct):=⟨⟨oc,od,dV,kV,doc,pm,an,cdv,ct,osl,rfl,l,c⟩,k⟩
variable {T:Addr} {items:Array Value}
theorem binds_d {fd:FuncData} {ds:List Value} {o:Obj} (hd:fd.defaults=.ref T) (ho:K.lookup T=some o) (hs:o.data=.seq items n)
  (h:∀us:List Value,(us++ds).length=ps.length→∃k,bindArgs fd ⟨us,[]⟩=seqItems? fd.defaults >>= k∧k (some items)=pure (ps.zip (us++ds))):Binds K fd ps ds:=fun s us X hl=>by
 obtain ⟨k,h1,h2⟩:=h us hl;exact PySem.W.binds_K X hd ho hs h1 h2
theorem binds_e (m:Nat) {fd:FuncData} {ds:List Value} {o:Obj} (ho:K.lookup T=some o) (h:∀us:List Value,us.length=m→∃k,bindArgs fd ⟨us,[]⟩=seqItems? fd.defaults >>= k∧k (some items)=pure (ps.zip (us++ds))) (hd:fd.defaults=.ref T:=by rfl) (hs:o.data=.seq items n:=by rfl) (hm:m+ds.length=ps.length:=by rfl):Binds K fd ps ds :=
 binds_d hd ho hs fun us hl=>h us (by rw [List.length_append] at hl; omega)
def Its (x:Str):It:=⟨fun i _=>∃c,x.cps[i]?=some c,fun i H v H'=>H'=H∧∃c,x.cps[i]?=some c∧v=.str ⟨#[c]⟩,fun i _=>x.cps[i]?=none⟩
theorem turn_str {w:World} (x:Str) (t:Tok) (it:Addr):Turn P w K tg (Its x) [it] it (fun i h=>h.IsStrIter it (strIterType x) x t i) where
 mem:=by simp
 obj:=fun i h st b hb=>by
  have e:b=it:=by simpa using hb
  subst e;obtain ⟨o,e,c,d⟩:=st;exact ⟨o,e,fun v z=>by rw [d] at z; cases z⟩
 keep:=fun i h h' st k=>by obtain ⟨o,e,c,d⟩:=st;exact ⟨o,k it (by simp) o e,c,d⟩
 item:=by
  intro X hP hw hK hc i pins s σ H E I hf st hg;subst hP hw hK;obtain ⟨c,hx⟩:=hg;obtain ⟨f0,f1,f2,f3,f4,f5⟩:=hf it (by simp);have fin:∀h':Heap,h'.IsStrIter it (strIterType x) x t (i+1)→Heap.SameBut it s.heap h'→wpAny (model X.prog X.w) X.A (letOwnedTupleGo tg (.ref it) (.str ⟨#[c]⟩ s.toks)) (fun _ s2=>∃v H',Inv X pins σ H' s2∧RelV v (.str ⟨#[c]⟩ s.toks)∧(Its x).yld i H v H'∧s2.heap.IsStrIter it (strIterType x) x t (i+1)∧∀b∈[it],H' b=none) E { s with heap:=h',toks:=s.toks+1 }:=fun h' st' sb=>by have I1:Inv X pins σ H { s with heap:=h',toks:=s.toks+1 }:=I.turned (t':=s.toks+1) (fun b o hb e=>(sb.2 b hb).trans e) f0 f1 f3 f4 f5;obtain ⟨o,e,cc,d⟩:=id st';refine go_of (s:={ s with heap:=h',toks:=s.toks+1 }) e cc d ?_ ⟨.str ⟨#[c]⟩,H,I1,⟨_,rfl⟩,⟨rfl,c,hx,rfl⟩,st',fun b hb=>(hf b hb).1⟩;unfold strIterType;split <;> decide
  cases ha:x.cps.all (·<128) with
  | true =>
   have e:strIterType x = "str_ascii_iterator":=by unfold strIterType; rw [ha]; rfl
   rw [e] at st fin;exact wpAny_pyNext_ascii_item st hx fun h' st' sb=>⟨_,rfl,by rw [e]; exact fin h' st' sb⟩
  | false =>
   have e:strIterType x = "str_iterator":=by unfold strIterType; rw [ha]; rfl
   rw [e] at st fin;exact wpAny_pyNext_wide_item st hx fun h' st' sb=>⟨_,rfl,by rw [e]; exact fin h' st' sb⟩
 done:=by
  intro X hP hw hK hc i pins s σ H E I hf st hg;subst hP hw hK;obtain ⟨f0,f1,f2,f3,f4,f5⟩:=hf it (by simp);cases ha:x.cps.all (·<128) with
  | true =>
   have e:strIterType x = "str_ascii_iterator":=by unfold strIterType; rw [ha]; rfl
   rw [e] at st;exact wpAny_pyNext_ascii_end (I.ok.hd hc) st hg fun h' eb=>⟨rfl,I.turned (t':=s.toks) (fun b o hb e=>eb b o hb e) f0 f1 f3 f4 f5⟩
  | false =>
   have e:strIterType x = "str_iterator":=by unfold strIterType; rw [ha]; rfl
   rw [e] at st;exact wpAny_pyNext_wide_end (I.ok.hd hc) st hg fun h' eb=>⟨rfl,I.turned (t':=s.toks) (fun b o hb e=>eb b o hb e) f0 f1 f3 f4 f5⟩
 self:=fun A i s Q E st h=>by
  cases ha:x.cps.all (·<128) with
  | true =>
   have e:strIterType x = "str_ascii_iterator":=by unfold strIterType; rw [ha]; rfl
   rw [e] at st;exact wpAny_pyIter_striter_ascii st h
  | false =>
   have e:strIterType x = "str_iterator":=by unfold strIterType; rw [ha]; rfl
   rw [e] at st;exact wpAny_pyIter_striter_wide st h
def iStr (tl:TE):TI:=fun σ H R=>tl σ H fun x H1=>∃z,x=.str z∧R (Its z) H1
theorem pi_str {l:Expr} {tl:TE} (hl:PE X l tl):PI X tg l (iStr tl):=by
 intro pins s σ H R I h;refine thn (hl pins s σ H _ I h) fun v s1 hq9=>?_;obtain ⟨x,H1,I1,r,z,e,q⟩:=hq9;subst e;obtain ⟨t,rfl⟩:=r;refine wpAny_pyIter_strU ?_;refine ⟨s1.heap.objs.size,[s1.heap.objs.size],_,_,H1,rfl,I1.kept (t':=s1.toks) fun b o e=>Heap.get?_push_of_some _ e,(turn_str z t _).ok,⟨_,Heap.get?_push_size _ rfl,rfl,rfl⟩,fun b hb=>?_,q⟩;have e:b=s1.heap.objs.size:=by simpa using hb
 subst e;exact I1.fpOk (Nat.le_refl _) (I1.hok.fresh (Nat.le_refl _))
def signsD (x:Str):List D:=x.cps.toList.map fun c=>.str ⟨#[c]⟩
def asS:D→Option (List D)
 | .str x=>some (signsD x)
 | _=>none
theorem xi_str (he:XE X ct ms m e f):XI X ct ms n tg e (fun ρ=>(f ρ).bind asS):=by
 obtain ⟨t,pt,qt⟩:=he;refine ⟨_,pi_str pt,fun F0 B F H ρ σ ds R rs e w=>?_⟩;obtain ⟨d,h1,h2⟩:=bind1 e;refine qt F0 B F H ρ σ _ _ rs h1 fun v F' H' x l=>?_;cases d with
 | str z =>
  cases h2;refine ⟨z,l.str,w _ F' H' x fun i F2 H2 s1 s2 s3=>⟨fun d hd=>?_,fun hl=>?_⟩⟩
  ·unfold signsD at hd;rw [List.getElem?_map] at hd;obtain ⟨c,hc,rfl⟩:=Option.map_eq_some_iff.mp hd;have hc':z.cps[i]?=some c:=by simpa using hc
   refine ⟨⟨c,hc'⟩,fun y H3 hy=>?_⟩;obtain ⟨rfl,c2,h3,rfl⟩:=hy;rw [hc'] at h3;cases h3;exact ⟨F2,.refl s3,Al.of (.str _)⟩
  ·unfold signsD at hl;rw [List.length_map,Array.length_toList] at hl;exact Array.getElem?_eq_none hl
 | _=>cases h2
theorem putK_zip [DecidableEq κ] (k:κ) (v:V):∀{ks:List κ} {vs:List V},ks.length=vs.length→putK (ks.zip vs) k v=(if ks.contains k=true then ks.zip ((ks.zip vs).map fun p=>if p.1=k then v else p.2) else (ks++[k]).zip (vs++[v])):=by
 intro ks vs hl;unfold putK;have e:((ks.zip vs).any fun kv=>decide (kv.1=k))=ks.contains k:=by
  rw [Bool.eq_iff_iff,List.any_eq_true,List.contains_iff_mem];constructor
  ·rintro ⟨p,hp,he⟩;have:=decide_eq_true_iff.mp he;rw [← this];exact (List.of_mem_zip hp).1
  ·intro hk;obtain ⟨i,hi,rfl⟩:=List.getElem_of_mem hk;exact ⟨(ks[i],vs[i]'(by omega)),List.mem_iff_getElem.mpr ⟨i,by simp; omega,by simp⟩,by simp⟩
 rw [e];by_cases h:ks.contains k=true
 ·rw [if_pos h,if_pos h];clear e h;induction ks generalizing vs with
  | nil=>simp
  | cons y ks ih =>
   cases vs with
   | nil=>simp at hl
   | cons u vs =>simp only [List.zip_cons_cons,List.map_cons,ih (by simpa using hl)];by_cases hy:y=k <;> simp [hy]
 ·rw [if_neg h,if_neg h,List.zip_append hl];rfl
def sPutD (i:Nat) (fj f:EF):SF:=fun ρ=>(f ρ).bind fun d=>(eV i ρ).bind fun o=>(fj ρ).bind fun j=>match o with
 | .dK ks ds=>(keyD j).bind fun k=>if ks.length<16777216 then some (.nx (ρ.set i (some (.dK (putK' ks ds k d).1 (putK' ks ds k d).2)))) else none
 | .dT ks ds=>(match j with
  | .tup js=>(keysD js).bind fun k=>if ks.length<16777216 then some (.nx (ρ.set i (some (.dT (putK' ks ds k d).1 (putK' ks ds k d).2)))) else none
  | _=>none)
 | _=>none
theorem putK_rel [DecidableEq κ] {v:V} (r:R d v) (k:κ) {ks:List κ} (hl:ks.length=vs.length) (hp:Pr R ds vs) :
  ∃us,putK (ks.zip vs) k v=(putK' ks ds k d).1.zip us∧(putK' ks ds k d).1.length=us.length∧Pr R (putK' ks ds k d).2 us:=by
 rw [putK_zip k v hl];unfold putK';by_cases h:ks.contains k=true
 ·rw [if_pos h,if_pos h];refine ⟨_,rfl,by simp [hl],?_⟩;clear h;induction ks generalizing ds vs with
  | nil=>simp; exact .nil
  | cons y ks ih =>
   cases hp with
   | nil=>simp at hl
   | cons h t =>
    simp only [List.zip_cons_cons,List.map_cons];refine .cons ?_ (ih (by simpa using hl) t);by_cases hy:y=k
    ·rw [if_pos hy,if_pos hy]; exact r
    ·rw [if_neg hy,if_neg hy]; exact h
 ·rw [if_neg h,if_neg h];exact ⟨_,rfl,by simp [hl],hp.append (.cons r .nil)⟩
theorem xs_putD (i:Nat) {j:Expr} (hm:ms[i]?=some (.ow 1)) (hu:X.A.units+1<cLine) (hj:XE X ct ms 0 j fj) (he:XE X ct ms 0 e f) (hN:X.N[i]?=some x:=by rfl) (hv:Vis X.env.scope x:=by first | exact Or.inl rfl | exact Or.inr (Or.inl rfl) | exact Or.inr (Or.inr rfl)) (hd:(x == ("__debug__":Str))=false:=by decide)
  (hcd:(x == ("__classdict__":Str))=false:=by decide) (hs:swapsWith e (some (.Subscript (.Name x p1) j tpos)) pos.line X.env=pure false:=by rfl) :
  XS X ct ms rk (.Assign [.Subscript (.Name x p1) j tpos] e pos) (sPutD i fj f):=by
 obtain ⟨t,pt,qt⟩:=he;obtain ⟨tj,ptj,qtj⟩:=hj;refine ⟨_,ps_dput hu (pe_var hN hv hd hcd) ptj pt hs,fun F0 B F H ρ σ o E rs e z=>?_⟩;obtain ⟨d,g1,g2⟩:=bind1 e;obtain ⟨d1,dj',g3,g4,g5⟩:=bind2 g2;refine qt F0 B F H ρ σ d _ rs g1 fun v0 F1 H1 x1 l0=>?_;have rs1:=rs.ext x1;obtain ⟨f1,fr,n1,b1,dj,i4,cf,put⟩:=rs1.put (F':=F) (H':=H) hm;obtain ⟨v,hσ,ow⟩:=i4 d1 (join_some g3);refine ⟨v,hσ,qtj F0 B F1 H1 ρ σ dj' _ rs1 g4 fun vj F2 H2 x2 lj=>?_⟩;have l0':Dt X.K ct F2 d v0:=Dt.mono x2.ff l0;cases d1 with
 | dK ks ds =>
  dsimp only at g5;obtain ⟨key,g6,g7⟩:=bind1 g5;by_cases hz:ks.length<16777216
  ·rw [if_pos hz] at g7;cases g7;obtain ⟨ad,vs,fr1,rfl,rfl,hF,hH,hl,ol⟩:=ow.dK_inv;have hA:=x2.hh _ _ hH;have fA:F2 ad=none:=x2.nf ad _ hH nofun hF;have e0:=ol.nil0;subst e0;have hp:Pr (Dt X.K ct F2) ds vs:=ol.pr fun _ _ _ _ q=>q.1.mono x2.ff;obtain ⟨us,hu1,hu2,hu3⟩:=putK_rel l0' key hl hp;have hk:=keyD_v g6 lj;subst hk;refine ⟨ad,_,rfl,DPut.k hA (by rw [List.length_zip,← hl,Nat.min_self,sizeLine_eq]; exact hz),?_⟩;rw [hu1];refine z σ F2 _ (rs1.change hm x2 hσ b1 dj cf put List.mem_cons_self fA (.inr (.dK fA upd_same hu2 (OwL.ofPr (hu3.mono fun _ _ q=>⟨q,rfl⟩)))) (fn:=[ad]) (by simp) ?_);intro a ha;rw [List.mem_singleton] at ha;subst ha;exact .inl List.mem_cons_self
  ·rw [if_neg hz] at g7; cases g7
 | dT ks ds =>
  cases dj' with
  | tup js =>
   dsimp only at g5;obtain ⟨key,g6,g7⟩:=bind1 g5;by_cases hz:ks.length<16777216
   ·rw [if_pos hz] at g7;cases g7;obtain ⟨ad,vs,fr1,rfl,rfl,hF,hH,hl,ol⟩:=ow.dT_inv;have hA:=x2.hh _ _ hH;have fA:F2 ad=none:=x2.nf ad _ hH nofun hF;have e0:=ol.nil0;subst e0;have hp:Pr (Dt X.K ct F2) ds vs:=ol.pr fun _ _ _ _ q=>q.1.mono x2.ff;obtain ⟨us,hu1,hu2,hu3⟩:=putK_rel l0' key hl hp;obtain ⟨bd,ws,rfl,hb,hpb⟩:=lj.tup x2.fh;have hk:=keysD_v g6 hpb;subst hk;refine ⟨ad,_,rfl,DPut.t hA hb (by rw [List.length_zip,← hl,Nat.min_self,sizeLine_eq]; exact hz),?_⟩;rw [hu1];refine z σ F2 _ (rs1.change hm x2 hσ b1 dj cf put List.mem_cons_self fA (.inr (.dT fA upd_same hu2 (OwL.ofPr (hu3.mono fun _ _ q=>⟨q,rfl⟩)))) (fn:=[ad]) (by simp) ?_);intro a ha;rw [List.mem_singleton] at ha;subst ha;exact .inl List.mem_cons_self
   ·rw [if_neg hz] at g7; cases g7
  | _=>cases g5
 | _=>cases g5
def rGetL (K:PySem.W.Frag):V→V→Hp→VK→Prop:=fun o i H Q=>∃p xs k v,o=.ref p∧i=.int k∧SqL K H p xs∧atI xs k=some v∧Q v H
theorem pget_list:PGet X (rGetL X.K):=by
 intro pins s σ H o i ov iv Q I ro ri h;obtain ⟨p,xs,k,z,rfl,rfl,hq,he,q⟩:=h;cases ro;obtain ⟨t,rfl⟩:=ri;obtain ⟨its,r,pl,hz⟩:=I.list hq;obtain ⟨j,h1,h2,h3,h4,h5⟩:=atI_get he;obtain ⟨w,ew,rw'⟩:=r.get h2;have hl:=r.length;have hn:=line63;have fin:EP X pins σ Q w s:=⟨z,H,I,rw',q⟩;by_cases h0:0≤k
 ·have hj:k.toNat=j:=by rw [seqIndex_of h0 h5] at h1;exact Option.some.inj h1
  exact wpAny_getItem_list pl.isList h0 (by omega) (by rw [hj]; simpa using ew) fin
 ·have hj:(k+(its.toArray.size:Int)).toNat=j:=by rw [seqIndex_neg (by omega) h4] at h1;rw [List.size_toArray,← hl];exact Option.some.inj h1
  exact wpAny_getItem_list_neg pl.isList (by omega) (by rw [List.size_toArray] <;> omega) (by omega) (by rw [hj]; simpa using ew) fin
def sAugL (i:Nat) (fj:EF) (gi:Int→Int→Int) (f:EF):SF:=fun ρ=>(eV i ρ).bind fun o=>(fj ρ).bind fun j=>(f ρ).bind fun y=>match o,j with
 | .lst ds,.int z=>(atI ds z).bind fun x=>(match x,y with
  | .int a,.int b=>(setAt ds z (.int (gi a b))).bind fun ds'=>some (.nx (ρ.set i (some (.lst ds'))))
  | _,_=>none)
 | _,_=>none
theorem xs_augL (i:Nat) {j:Expr} {gi:Int→Int→Int} (ho:PIp X op (ipI gi)) (hm:ms[i]?=some (.ow 1)) (hj:XE X ct ms n j fj) (he:XE X ct ms m e f) (hN:X.N[i]?=some x:=by rfl) (hv:Vis X.env.scope x:=by first | exact Or.inl rfl | exact Or.inr (Or.inl rfl) | exact Or.inr (Or.inr rfl)) (hd:(x == ("__debug__":Str))=false:=by decide)
  (hcd:(x == ("__classdict__":Str))=false:=by decide) (ha:∀ov iv new,augStore j ov iv new=(do holding [new,ov,iv] (setItem ov iv new); release [new,ov,iv] []; pure .next):=by intros; rfl) :
  XS X ct ms rk (.AugAssign (.Subscript (.Name x p1) j tpos) op e pos) (sAugL i fj gi f):=by
 obtain ⟨t,pt,qt⟩:=he;obtain ⟨tj,ptj,qtj⟩:=hj;refine ⟨_,ps_augS (pe_var hN hv hd hcd) ptj pget_list pt ho set_list ha,fun F0 B F H ρ σ o E rs e z=>?_⟩;obtain ⟨d1,dj',g3,g4,g5⟩:=bind2 e;obtain ⟨d2,g6,g7⟩:=bind1 g5;obtain ⟨f1,fr,n1,b1,dj,i4,cf,put⟩:=rs.put (F':=F) (H':=H) hm;obtain ⟨v,hσ,ow⟩:=i4 d1 (join_some g3);refine ⟨v,hσ,qtj F0 B F H ρ σ dj' _ rs g4 fun vj F2 H2 x2 lj=>?_⟩;cases d1 <;> try (cases g7; done)
 rename_i ds;cases dj' <;> try (cases g7; done)
 rename_i zi
 ·skip
  dsimp only at g7;obtain ⟨da,g8,g9⟩:=bind1 g7;obtain ⟨ad,vs,fr1,rfl,rfl,hF,hH,ol⟩:=ow.lst_inv;have hA:H2 ad=some (.lst vs):=x2.hh _ _ hH;have hp:Pr (Al X.K ct F2 H2 0) ds vs:=ol.pr fun _ _ _ _ q=>q.1.mono x2.ff;obtain ⟨va,ha1,ha2⟩:=hp.atI g8;refine ⟨ad,vs,zi,va,rfl,lj.int,SqL.of hA,ha1,qt F0 B F2 H2 ρ σ d2 _ (rs.ext x2) g6 fun vy F3 H3 x3 ly=>?_⟩;have x23:=x2.trans x3;cases da <;> try (cases g9; done)
  rename_i ia;cases d2 <;> try (cases g9; done)
  rename_i ib
  ·skip
   dsimp only at g9;obtain ⟨ds',g10,g11⟩:=bind1 g9;cases g11;obtain ⟨jn,g12,g13⟩:=bind1 g10;cases g13;have hA3:H3 ad=some (.lst vs):=x3.hh _ _ hA;have fA:F3 ad=none:=x23.nf ad _ hH nofun hF;have e0:=ol.nil0;subst e0;refine ⟨ia,ib,ha2.int,ly.int,ad,vs,zi,jn,rfl,lj.int,hA3,by rw [← ol.length]; exact g12,?_⟩;refine z σ F3 _ (rs.change hm x23 hσ b1 dj cf put List.mem_cons_self fA (.inr (.lst fA upd_same (OwL.set0 ⟨.int _,rfl⟩ (fun _ _ _ q=>q.2) jn (ol.mono fun _ _ _ _ q=>⟨q.1.mono x23.ff,q.2⟩)))) (fn:=[ad]) (by simp) ?_);intro a ha;rw [List.mem_singleton] at ha;subst ha;exact .inl List.mem_cons_self
structure Ic (K:PySem.W.Frag) (C:Addr):Prop where
 cl:Cls K C
 ha:PySem.W.findIn K (.ref C) "__class__"=some (some (.builtin "object.__class__"))
 hn:PySem.W.specialIn K (.builtin "object.__class__") "__get__"=some (some (.builtin "getset_descriptor.__get__"))
 ht:PySem.W.takesIn K (.builtin "object.__class__")=some true
 hm:PySem.W.mroIn K C (.type "object")=some true
def isiC (all sub:List Nat):D→Option D
 | .obj c _ _=>if all.contains c=true then some (.bl (sub.contains c)) else none
 | _=>none
theorem xe_isiC {all sub:List Nat} (hI:∀c∈all,Ic X.K (ct c)∧PySem.W.kitOne X.K (.ref (ct c)) (.ref C)=some (sub.contains c)) (hm:X.mg "isinstance"=none) (hm2:X.mg x=some (.ref C)) (he:XE X ct ms n e f) (hg:Gl X "isinstance":=by rfl) (hg2:Gl X x:=by rfl) (hd2:(x == ("__debug__":Str))=false:=by decide)
  (hs1:starEach [e,.Name x p2] X.env=(false,eval e X.env)::starEach [.Name x p2] X.env:=by rfl) (hs2:starEach [.Name x p2] X.env=(false,eval (.Name x p2) X.env)::starEach [] X.env:=by rfl) (hpl:(backTo pos (starEach [.Name x p2] X.env)).any (·.1)=false:=by rfl) :
  XE X ct ms k (.Call (.Name "isinstance" pp) [e,.Name x p2] [] pos) (e1 (isiC all sub) f):=by
 obtain ⟨t,pt,qt⟩:=he;refine ⟨_,pe_callB call_isiC hg hm bt_isinstance (pa_cons pt (pa_cons (pe_glob (v:=.ref C) hg2 hm2 rfl hd2) pa_nil hs2) hs1) (by decide) (by decide) hs1 hpl,fun F0 B F H ρ σ d Q rs e w=>?_⟩;obtain ⟨d1,h1,h2⟩:=bind1 e;refine qt F0 B F H ρ σ d1 _ rs h1 fun v F' H' x l=>?_;cases d1 with
 | obj c ns ds =>
  unfold isiC at h2;dsimp only at h2;by_cases hc:all.contains c=true
  ·rw [if_pos hc] at h2;cases h2;obtain ⟨a,dx,vs,rfl,ha,_⟩:=l.obj x.fh;obtain ⟨ic,kit⟩:=hI c (by simpa using hc);exact ⟨_,C,_,_,rfl,.ins ha ic.cl ic.ha ic.hn ic.ht ic.hm,kit,w _ F' H' x (Al.of (.bl _))⟩
  ·rw [if_neg hc] at h2; cases h2
 | _=>cases h2
section
open PySem PySem.Spec L2
def rMaxD (K:PySem.W.Frag):R2:=fun x y H Q=>∃(a:Addr) (ns:List Int),x=.ref a∧SqL K H a (ns.map V.int)∧(ns=[]→Q y H)∧∀M,M∈ns→(∀z∈ns,z≤M)→Q (.int M) H
theorem pe_maxD {ta tb:TE} {p kp:Pos} (hc:X.calm=true) (hg:Gl X "max") (hm:X.mg "max"=none) (ha:PE X e ta) (hb:PE X b tb) (he:starEach [e] X.env=(false,eval e X.env)::starEach [] X.env:=by rfl):PE X (.Call (.Name "max" p) [e] [⟨some "default",b,kp⟩] pos) (tOp (rMaxD X.K) ta tb):=by
 intro pins s σ H Q I h;refine wpAny_Call_Name_kw (ld_blt (u:=.builtin "max") I hg hm bt_max ?_ (by decide) (by decide));refine PyProof.Rows.callWith_kw (thn ((pa_cons ha pa_nil he) pos pins s σ H (fun vs H1=>match vs with | [x]=>tb σ H1 fun y H2=>rMaxD X.K x y H2 Q | _=>False) I ?_) fun us s1 ⟨vs,H1,I1,r,q⟩=>?_) (by rw [he]; rfl) (by rw [he]; rfl)
 ·exact h
 ·match vs,q with
  | [x],q =>
   obtain ⟨u,rfl,ru⟩:=r.one;refine thn ((pk_cons (nm:=some "default") (kpos:=kp) hb pk_nil) pos pins s1 σ H1 (fun vs H1=>match vs with | [y]=>rMaxD X.K x y H1 Q | _=>False) I1 q) fun us s2 hq9=>?_;obtain ⟨vs,H2,I2,r2,q2⟩:=hq9
   match vs,q2 with
   | [y],q2 =>
    obtain ⟨z,rfl,rz⟩:=r2.one;obtain ⟨a,ns,rfl,hq,q0,q1⟩:=q2;cases (show u=Value.ref a from ru);obtain ⟨its,rv,pl,hz⟩:=I2.list hq;have hi:=IntsAre.of rv;obtain ⟨ys,ey⟩:=hi.allInts.items;have hns:ns=ys.toList.map (·.1):=by rw [← hi.numsOf,← nums_intItems,← ey]
    have hl':s2.heap.IsList a (intItems ys):=ey ▸ pl.isList;refine maxD_call (iter_intList hl' fun s₃ e3 st hfp hlI=>?_);subst e3;refine ⟨_,_,_,_,_,_,_,rfl,Walks.list (A:=X.A.in1) (I2.ok.hd hc) _ a hlI (intItems ys),st,hfp,CmpOf.ints_gt (numAt ys) (fun _ _=>intItems_at),fun v h' tk hP hk=>?_⟩;have hk:=old_kept hk;have hlen:ns.length=ys.size:=by rw [hns,List.length_map,Array.length_toList]
    by_cases h0:(intItems ys).size=0
    ·rw [if_pos h0] at hP;subst hP;have:ns=[]:=List.eq_nil_of_length_eq_zero (by rw [hlen]; simpa [intItems] using h0);exact ⟨y,H2,I2.kept (t':=tk) hk,rz,q0 this⟩
    ·rw [if_neg h0] at hP;have h0:0<ys.size:=by simp [intItems] at h0; exact Array.size_pos_iff.mpr h0
     rw [show (intItems ys).size=ys.size by simp [intItems]] at hP;obtain ⟨t,rfl⟩:=intItems_at hP;obtain ⟨h1,h2⟩:=argBest_gt (numAt ys) (ys.size-1);refine ⟨.int (numAt ys (argBest (fun i j=>decide (numAt ys i > numAt ys j)) (ys.size-1))),H2,I2.kept (t':=tk) hk,⟨_,rfl⟩,q1 _ ?_ fun z hz=>?_⟩
     ·rw [hns,numAt_eq]; exact getD_mem (by rw [List.length_map,Array.length_toList]; omega)
     ·rw [hns] at hz;obtain ⟨j,hj,rfl⟩:=mem_getD hz;rw [List.length_map,Array.length_toList] at hj;rw [← numAt_eq]; exact h2 j (by omega)
def maxDD:D→D→Option D
 | .lst ds,z=>if z.sc=true then (intsD ds).bind fun ns=>match ns with | []=>some z | _=>(maxI ns).bind fun M=>some (.int M) else none
 | _,_=>none
theorem op2_maxD:Op2 K ct n m k (rMaxD K) maxDD:=by
 intro F H x y d1 d2 d Q s l1 l2 e w;cases d1 with
 | lst xs =>
  unfold maxDD at e;dsimp only at e;by_cases hz:d2.sc=true
  ·rw [if_pos hz] at e;obtain ⟨ns,h1,h2⟩:=bind1 e;obtain ⟨a,h3,ha⟩:=lst_ints s (.cons l1 .nil:AlL K ct F H [n] [.lst xs] [x]) h1;cases h3;refine ⟨a,ns,rfl,ha,fun h0=>?_,fun M h5 h6=>?_⟩
   ·subst h0;cases h2;exact w _ F H (.refl s) (Al.of (l2.scal hz))
   ·cases ns with
    | nil=>cases h5
    | cons n0 ns =>obtain ⟨M',h3,h4⟩:=bind1 h2;cases h4;obtain ⟨m1,m2⟩:=maxI_mem h3;have:M'=M:=Int.le_antisymm (h6 M' m1) (m2 M h5);subst this;exact w _ F H (.refl s) (Al.of (.int _))
  ·rw [if_neg hz] at e; cases e
 | _=>cases e
theorem xe_maxD {p kp:Pos} (hc:X.calm=true) (hg:Gl X "max") (hm:X.mg "max"=none) (ha:XE X ct ms n e f) (hb:XE X ct ms m b g) (he:starEach [e] X.env=(false,eval e X.env)::starEach [] X.env:=by rfl):XE X ct ms k (.Call (.Name "max" p) [e] [⟨some "default",b,kp⟩] pos) (e2 maxDD f g):=by obtain ⟨ta,tb,pa,pb,q⟩:=ha.bin hb;refine ⟨_,pe_maxD hc hg hm pa pb he,fun F0 B F H ρ σ d Q rs e w=>?_⟩;obtain ⟨d1,d2,h1,h2,h3⟩:=bind2 e;exact q F0 B F H ρ σ d1 d2 _ rs h1 h2 fun x y F' H' x1 l1 l2=>op2_maxD F' H' x y d1 d2 d Q x1.fh l1 l2 h3 fun v F2 H2 x2 l=>w v F2 H2 (x1.trans x2) l
end
variable {pos2:Pos}
theorem find_v {x:D} (hx:x.sc=true):∀{ds:List D},ds.all D.sc=true→(ds.map D.v).findIdx? (fun z=>eqV z x.v)=ds.findIdx? fun y=>eqS y x
 | [],_=>rfl
 | d::ds,h=>by rw [List.all_cons,Bool.and_eq_true] at h;rw [List.map_cons,List.findIdx?_cons,List.findIdx?_cons,eqS_v h.1 hx,find_v hx h.2]
theorem vals_of:∀{xs:List V} {us:List Value},xs.length=us.length→(∀(i:Nat) (x:V) (u:Value),xs[i]?=some x→us[i]?=some u→L2.RelV x u)→Vals xs us
 | [],[],_,_=>.nil
 | [],_::_,h,_=>by cases h
 | _::_,[],h,_=>by cases h
 | x::xs,u::us,h,r=>.cons (r 0 x u rfl rfl) (vals_of (by simpa using h) fun i y w hy hw=>r (i+1) y w (by simpa using hy) (by simpa using hw))
def rLRng:List V→Hp→VK→Prop:=fun vs H Q=>∃j:Int,vs=[.int j]∧0≤j∧j≤16777216∧∀l,H l=none→Q (.ref l) (upd H l (.lst ((upto 0 j.toNat).map D.v)))
def lrngD:List D→Option D
 | [.int j]=>if 0≤j∧j≤16777216 then some (.lst (upto 0 j.toNat)) else none
 | _=>none
theorem upto_get (h:(upto lo n)[i]?=some d):d=.int (lo+(i:Int)):=by unfold upto at h;rw [List.getElem?_map] at h;obtain ⟨t,ht,rfl⟩:=Option.map_eq_some_iff.mp h;have:=List.getElem?_eq_some_iff.mp ht;obtain ⟨h1,h2⟩:=this;rw [List.getElem_range] at h2;rw [h2]
theorem pe_lrng {ta:TA} (hc:X.calm=true) (hg:Gl X "list") (hm:X.mg "list"=none) (hg2:Gl X "range") (hm2:X.mg "range"=none) (ha:PA X [a] ta) (hs:starEach [a] X.env=[(false,eval a X.env)]:=by rfl)
    (hs2:starEach [.Call (.Name "range" p2) [a] [] pos2] X.env=[(false,eval (.Call (.Name "range" p2) [a] [] pos2) X.env)]:=by rfl) :
    PE X (.Call (.Name "list" p1) [.Call (.Name "range" p2) [a] [] pos2] [] pos) (tCB rLRng ta):=by
  intro pins s σ H Q I h;refine wpAny_Call_Name_kw (ld_blt I hg hm bt_list ?_ (by decide) (by decide));refine PyProof.Rows.callWith_type1 ?_ hs2 rfl;rw [hs2];show wpAny _ _ (spliced ((false,eval (.Call (.Name "range" p2) [a] [] pos2) X.env)::[])) _ _ s;refine Calls.spliced_cons ?_;refine wpAny_Call_Name_kw (ld_blt I hg2 hm2 boot_range ?_ (by decide) (by decide));refine PyProof.Rows.callWith_type1 (thn (ha pos2 pins s σ H _ I h) fun us s1 ⟨vs,H1,I1,r1,q1⟩=>?_) hs rfl;obtain ⟨j,rfl,h1,h2,q⟩:=q1;obtain ⟨u,rfl,t,rfl⟩:=vals1 r1;refine call_range_1 (Calls.spliced_nil ?_);have I2:L2.Inv X pins σ H1 { s1 with heap:=s1.heap.push { cls:=.type "range",data:=.fields #[.int 0 s1.toks,.int j t,.int 1 (s1.toks+1)] },toks:=s1.toks+1+1 }:=I1.kept fun b o e=>Heap.get?_push_of_some _ e;have hsz:Builtin.Range.rangeSize 0 j 1=(j.toNat:Int):=by rw [rangeSize_one]; split <;> omega
  refine call_list_range (n:=j.toNat) (I2.ok.hd hc) (IsRange.new ..) (small_one (by omega) (by omega) (by omega) (by omega)) hsz (by omega) fun h' tk acc' c' kp hS hacc=>?_;have hv:Vals ((upto 0 j.toNat).map D.v) acc'.toList:=by obtain ⟨e1,e2⟩:=hacc;refine vals_of (by simp [upto,e1]) fun i x u hx hu=>?_;obtain ⟨t,rfl⟩:=e2 i u (by simpa using hu);rw [List.getElem?_map] at hx;obtain ⟨d,hd,rfl⟩:=Option.map_eq_some_iff.mp hx;have hd:=upto_get hd;subst hd;exact ⟨t,by rw [Int.mul_one]⟩
  have hl:((upto 0 j.toNat).map D.v).length≤sizeLine:=by rw [sizeLine_eq]; simp [upto]; omega
  exact ⟨.ref _,_,I2.laid (t':=tk) kp (Nat.le_refl _) (show ObjOk X.prog X.w _ h' _ (.lst _) from ⟨hl,acc'.toList,c',hv,hS⟩),rfl,q _ (I2.hok.fresh (Nat.le_refl _))⟩
theorem upto_sc (lo:Int) (n:Nat):(upto lo n).all D.sc=true:=by rw [List.all_eq_true];intro d hd;unfold upto at hd;obtain ⟨t,_,rfl⟩:=List.mem_map.mp hd;rfl
theorem pr_v {K:PySem.W.Frag} {F G:Hp}:∀{ds:List D},ds.all D.sc=true→Pr (Al K ct F G 0) ds (ds.map D.v)
 | [],_=>.nil
 | d::ds,h=>by
  rw [List.all_cons,Bool.and_eq_true] at h;refine .cons ?_ (pr_v h.2);cases d with
  | non=>exact Al.of .non
  | bl b=>exact Al.of (.bl b)
  | int b=>exact Al.of (.int b)
  | str b=>exact Al.of (.str b)
  | _=>cases h.1
theorem opn_lrng:OpNO K ct [n] 1 rLRng lrngD:=by
 intro F H vs ds d Q s l e w;cases l with
 | cons h t =>
  cases t;rename_i d1 v;cases d1 with
  | int j =>
   unfold lrngD at e;dsimp only at e;by_cases hz:0≤j∧j≤16777216
   ·rw [if_pos hz] at e;cases e;exact ⟨j,by rw [h.int],hz.1,hz.2,new_own s (pr_v (upto_sc 0 j.toNat)) w⟩
   ·rw [if_neg hz] at e; cases e
  | _=>cases e
theorem xo_lrng (hc:X.calm=true) (hg:Gl X "list") (hm:X.mg "list"=none) (hg2:Gl X "range") (hm2:X.mg "range"=none) (ha:XA X ct ms [a] [n] fs) (hs:starEach [a] X.env=[(false,eval a X.env)]:=by rfl)
  (hs2:starEach [.Call (.Name "range" p2) [a] [] pos2] X.env=[(false,eval (.Call (.Name "range" p2) [a] [] pos2) X.env)]:=by rfl) :
  XO X ct ms 1 (.Call (.Name "list" p1) [.Call (.Name "range" p2) [a] [] pos2] [] pos) (eN lrngD fs):=by
 obtain ⟨t,pt,_,qt⟩:=ha;refine ⟨_,pe_lrng hc hg hm hg2 hm2 pt hs hs2,fun F0 B F H ρ σ r Q rs e w=>?_⟩;obtain ⟨ds,h1,h2⟩:=bind1 e;exact qt F0 B F H ρ σ ds _ rs h1 fun vs F1 H1 x1 l=>opn_lrng F1 H1 vs ds r Q x1.fh l h2 fun v F2 H2 fp x2 l2 nd hf=>w v F2 H2 fp (x1.trans x2) l2 nd fun z hz=>x1.hh.free (hf z hz)
theorem xs_compSet {spos:Pos}
  (hm:ms[i]?=some (.ow k)) (hN:X.N.Nodup) (hi2:X.N[i]?=some x) (hx:Loc X.env.scope x)
  (B:BlkOk X scope N own cap) (hc:X.calm=true) (ho:om.length=own) (hcap:∀i∈cap,i<ms.length) (hi:XIc X ct ms n tg iter fi)
  (hg:∀cl C fp s₀ H₀,XGc (cxB X scope cl N C fp s₀ H₀) ct (om++capsM ms cap) own n tg gg) (ht:∀cl C fp s₀ H₀,XTs (cxB X scope cl N C fp s₀ H₀) ct (om++capsM ms cap) ifs p) (he:∀cl C fp s₀ H₀,XO (cxB X scope cl N C fp s₀ H₀) ct (om++capsM ms cap) (k-1) elt f)
  (hsw:swapsWith (.ListComp elt [⟨tg,iter,ifs,0⟩] scope pos) (some (.Name x pos')) spos.line X.env=pure true:=by rfl)
  (hs:∀x,foldedSetIterable iter X.env x=pure x:=by intro _; rfl) (hf:X.fn x=true∨X.env.scope.names.lookup x=some .local:=by first | exact .inl rfl | exact .inr rfl | assumption) :
  XS X ct ms rk (.Assign [.Name x pos'] (.ListComp elt [⟨tg,iter,ifs,0⟩] scope pos) spos) (sSet i (eComp fi own cap gg p f)):=by
 obtain ⟨wi,g,tt,te,pi,kg,pg,pt,pe,q⟩:=xo_compF (k:=k-1) (pos:=pos) B hc ho hcap hi hg ht he;refine ⟨_,ps_compSet B hc pi kg pg pt pe hN hi2 hx hsw hs hf,fun F0 B F H ρ σ o E rs e w=>?_⟩;obtain ⟨d,h1,h2⟩:=bind1 e;cases h2;cases k with
 | succ k=>exact q F0 B F H ρ σ d _ rs h1 fun v F' H' fp x l nd hf=>w _ F' H' (rs.set hm x l nd hf)
 | zero =>refine q F0 B F H ρ σ d _ rs h1 fun v F' H' fp x l nd hf=>?_;obtain ⟨F2,x2,l2⟩:=l.freeze x hf;exact w _ F2 H' (rs.set hm x2 (Ow.zero l2) List.nodup_nil fun a z=>by cases z)
theorem xs_retS (hm:ms[i]?=some (.ow k)) (hN:X.N[i]?=some x:=by rfl) (hv:Vis X.env.scope x:=by first | exact Or.inl rfl | exact Or.inr (Or.inl rfl) | exact Or.inr (Or.inr rfl)) (hd:(x == ("__debug__":Str))=false:=by decide)
  (hcd:(x == ("__classdict__":Str))=false:=by decide):XS X ct ms 0 (.Return (some (.Name x pos')) pos) (sRet (eV i)):=by
 refine ⟨_,ps_ret (pe_var hN hv hd hcd),fun F0 B F H ρ σ o E rs e w=>?_⟩;obtain ⟨d,h1,h2⟩:=bind1 e;cases h2;obtain ⟨fp,sl,nd,hb⟩:=rs.sl;obtain ⟨f1,fr,i1,i2,i3,i4,i5⟩:=sl.put hm;obtain ⟨v,hv',l⟩:=i4 d (join_some h1);obtain ⟨F',x,l2⟩:=l.freeze (⟨rs.f0,rs.bh,rs.fh,rs.nf⟩:Ext F0 B F H) (fun z hz=>hb z (i1 z hz));exact ⟨v,hv',w v F' H [] x.ff x.hh x.fh x.nf (Ow.zero l2) List.nodup_nil fun z hz=>by cases hz⟩
theorem xt_din (hu:X.A.units+1<cLine) (ha:XE X ct ms n a f) (hb:XE X ct ms m b g) (hm:behindInMarks .In b=false):XT X ct ms (.Compare a [.In] [b] pos) (tb fun ρ=>(f ρ).bind fun x=>(g ρ).bind fun y=>(dgetD y x).bind fun r=>some (.bl r.isSome)):=by
 obtain ⟨ta,tb',pa,pb,q⟩:=ha.bin hb;refine ⟨_,pt_cmp (pc_din hu pa pb) hm,fun F0 B F H ρ σ t Q rs e w=>?_⟩;obtain ⟨d0,h0,h9⟩:=bind1 e;obtain ⟨d1,d2,h1,h2,h3⟩:=bind2 h0;obtain ⟨r,h4,h5⟩:=bind1 h3;cases h5;cases h9;refine q F0 B F H ρ σ d1 d2 _ rs h1 h2 fun x y F' H' x1 l1 l2=>?_;obtain ⟨a,o,rfl,g,_,h⟩:=dget_of (r:=r) x1.fh l2 l1 h4;refine ⟨a,o,rfl,g,?_⟩;cases r with
 | none=>rw [h.none_of]; exact ⟨_,rfl,w F' H' x1⟩
 | some d=>obtain ⟨u,rfl,hu'⟩:=h.some_of; exact ⟨_,rfl,w F' H' x1⟩
def outFz (i:Nat):Out→Out
 | .nx ρ=>.nx (ρ.set i none)
 | .rt d=>.rt d
 | .bk ρ=>.bk (ρ.set i none)
 | .ct ρ=>.ct (ρ.set i none)
def sFz (i:Nat) (u:SF):SF:=fun ρ=>(u ρ).bind fun o=>some (outFz i o)
theorem outFz_rt:outFz i (.rt d)=.rt d:=rfl
theorem outFz_nx:outFz i (.nx ρ)=.nx (ρ.set i none):=rfl
def kg (p q:Nat) (rv:Bool) (us ws:List α):List α:=if us.length=p∧ws.length=q then us++(if rv then ws.reverse else ws) else []
theorem itt_ok {G:Hp} {a:Addr} (hp:Pr (Al K ct F B n) ds vs) (keep:∀F' H',Same F F'→Same B H'→Same F' H'→SqT K H' a vs):ItOk K ct F B n (Itt K a) ds:=by intro i F' H' s1 s2 s3;have hs:SqT K H' a vs:=keep F' H' s1 s2 s3;refine ⟨fun d hd=>?_,fun hl=>⟨vs,hs,by rw [← hp.length]; exact hl⟩⟩;obtain ⟨v,hv,l⟩:=hp.get' hd;refine ⟨⟨vs,v,hs,hv⟩,fun x H2 y=>?_⟩;obtain ⟨e,y⟩:=y;subst e;have:=y vs hs;rw [hv] at this;cases this;exact ⟨F',.refl s3,l.mono s1 (.refl _)⟩
theorem xic_tup (he:XE X ct ms n e f):XIc X ct ms (n-1) tg e (tsD f):=by obtain ⟨t,pt,qt⟩:=he;refine ⟨_,pi_tup pt,fun F0 B F H ρ σ ds R rs e w=>?_⟩;obtain ⟨d,h1,h2⟩:=bind1 e;rw [asT_some h2] at h1;refine qt F0 B F H ρ σ _ _ rs h1 fun v F' H' x l=>?_;obtain ⟨a,vs,rfl,ha,hp⟩:=l.tup x.fh;exact ⟨a,rfl,⟨vs,SqT.of ha⟩,w _ F' H' x (itt_ok (G:=H') hp fun F2 H2 s1 s2 s3=>SqT.of (s2 _ _ ha))⟩
variable {kq:Nat}
section
variable {fd:FuncData}
theorem eos (h:XO X ct ms k e f):XO X ct ms 0 e f:=XE.ow (XO.sh (n:=0) h)
theorem xgn (hN:X.N.Nodup) (ho:i<own:=by decide) (hm:ms[i]?=some (.ow 0):=by rfl) (hi:X.N[i]?=some x:=by rfl) (hx:Loc X.env.scope x:=by first | exact Or.inl rfl | exact Or.inr rfl)
  (hf:X.fn x=true∨X.env.scope.names.lookup x=some .local:=by first | exact .inl rfl | exact .inr rfl | assumption):XGc X ct ms own 0 (.Name x pos) (gV i):=xgc_name ho hm hN hi hx hf
theorem xsS (hN:X.N.Nodup) (he:XO X ct ms k e f) (hm:ms[i]?=some (.ow k):=by rfl) (hi:X.N[i]?=some x:=by rfl) (hx:Loc X.env.scope x:=by first | exact Or.inl rfl | exact Or.inr rfl)
  (hs:swapsWith e (some (.Name x pos')) pos.line X.env=pure false:=by rfl)
  (hf:X.fn x=true∨X.env.scope.names.lookup x=some .local:=by first | exact .inl rfl | exact .inr rfl | assumption):XS X ct ms rk (.Assign [.Name x pos'] e pos) (sSet i f):=xs_set hm hN hi hx he hs hf
theorem xgN (hN:X.N.Nodup) (hm:ms[i]?=some (.ow 0):=by rfl) (hi:X.N[i]?=some x:=by rfl) (hx:Loc X.env.scope x:=by first | exact Or.inl rfl | exact Or.inr rfl)
  (hf:X.fn x=true∨X.env.scope.names.lookup x=some .local:=by first | exact .inl rfl | exact .inr rfl | assumption):XG X ct ms 0 (.Name x pos) (gV i):=xg_name hm hN hi hx hf
theorem xo_c (d:Dn2 X.K X.mg x st ps fa fd) (Fn:FnOk X.prog X.w X.K X.mg X.base CX0 kk fa fd ps (LSp X.K ct ns rk mf)) (hr:Room kq X.A) (ha:XA X ct ms (e::es) ns fs) (hle:kk≤kq:=by decide) (hg:Gl X x:=by rfl)
  (hdb:(x == ("__debug__":Str))=false:=by decide) (he:starEach (e::es) X.env=(false,eval e X.env)::starEach es X.env:=by rfl) (hpl:(backTo pos (starEach es X.env)).any (·.1)=false:=by rfl) :
  XO X ct ms rk (.Call (.Name x pp) (e::es) [] pos) (fun ρ=>(fs ρ).bind fun ds=>mf (ds++[])) :=
 xo_call (ns:=ns) (nd:=[]) (dds:=[]) (by rw [List.append_nil]; exact Fn) (hr.mono hle) hg d.mgx d.fn.kp d.bd .nil (fun _ _=>.nil) ha hdb he hpl
theorem xi0 {i:Int} {j}:XE X ct ms 0 (.Constant (.int i) j pos) (eC (.int i)):=xe_int
theorem xn0 {j}:XE X ct ms 0 (.Constant .none j pos) (eC .non):=xe_non
theorem xa0 (ha:XE X ct ms 0 a f) (hb:XE X ct ms 0 b g):XO X ct ms 1 (.BinOp a .Add b pos) (e2 addD f g):=xo_op op_addA (op2_add (by decide) (by decide)) ha hb
theorem xix (ha:XE X ct ms 0 a f) (hb:XE X ct ms 0 b g) (hp:PlainIx b:=by exact fun _ _=>rfl):XE X ct ms 0 (.Subscript a b pos) (e2 ixD f g):=xe_ix (n:=0) ix_seq op2_ix ha hb hp
theorem xln (hm:X.mg "len"=none) (ha:XA X ct ms [e] [n] fs) (hg:Gl X "len":=by rfl) (he:starEach [e] X.env=(false,eval e X.env)::starEach [] X.env:=by rfl) (hpl:(backTo pos (starEach [] X.env)).any (·.1)=false:=by rfl):XE X ct ms 0 (.Call (.Name "len" pp) [e] [] pos) (eN lenD fs):=xe_callB (k:=0) call_lenA opn_len hg hm bt_len ha (by decide) (by decide) he hpl
theorem lA0 {P:List Value→Prop} (h:P []) (us:List Value) (e:us.length=0):P us:=by
 cases us with
 | nil=>exact h
 | cons a t=>cases e
theorem lA1 {P:List Value→Prop} (h:∀a1,P [a1]) (us:List Value) (e:us.length=1):P us:=by
 cases us with
 | nil=>cases e
 | cons a t=>exact lA0 (P:=fun t=>P (a::t)) (h a) t (Nat.succ.inj e)
theorem lA2 {P:List Value→Prop} (h:∀a1 a2,P [a1,a2]) (us:List Value) (e:us.length=2):P us:=by
 cases us with
 | nil=>cases e
 | cons a t=>exact lA1 (P:=fun t=>P (a::t)) (h a) t (Nat.succ.inj e)
theorem lA3 {P:List Value→Prop} (h:∀a1 a2 a3,P [a1,a2,a3]) (us:List Value) (e:us.length=3):P us:=by
 cases us with
 | nil=>cases e
 | cons a t=>exact lA2 (P:=fun t=>P (a::t)) (h a) t (Nat.succ.inj e)
theorem lA4 {P:List Value→Prop} (h:∀a1 a2 a3 a4,P [a1,a2,a3,a4]) (us:List Value) (e:us.length=4):P us:=by
 cases us with
 | nil=>cases e
 | cons a t=>exact lA3 (P:=fun t=>P (a::t)) (h a) t (Nat.succ.inj e)
theorem lA5 {P:List Value→Prop} (h:∀a1 a2 a3 a4 a5,P [a1,a2,a3,a4,a5]) (us:List Value) (e:us.length=5):P us:=by
 cases us with
 | nil=>cases e
 | cons a t=>exact lA4 (P:=fun t=>P (a::t)) (h a) t (Nat.succ.inj e)
theorem lA6 {P:List Value→Prop} (h:∀a1 a2 a3 a4 a5 a6,P [a1,a2,a3,a4,a5,a6]) (us:List Value) (e:us.length=6):P us:=by
 cases us with
 | nil=>cases e
 | cons a t=>exact lA5 (P:=fun t=>P (a::t)) (h a) t (Nat.succ.inj e)
end
inductive ResX where
 | ok (d:D) | xc (d:D)
inductive OutX where
 | ok (o:Out) | xc (ρ:Env) (d:D)
abbrev SFx:=Env→Option OutX
theorem foldl_rep (c:Nat):∀(n:Nat) (acc:Array Nat),(List.replicate n #[c]).foldl (· ++ ·) acc=acc++Array.replicate n c
 | 0,acc=>by simp
 | n+1,acc=>by rw [List.replicate_succ,List.foldl_cons,foldl_rep c n,Array.append_assoc];congr 1;apply Array.toList_inj.mp;simp [List.replicate_succ]
def XGe (X:Cx) (ct:Nat→Addr) (ms:List Mo) (tg:Expr) (g:D→Env→Option Env):Prop:=∃t,PG X tg t∧∀(F0 B F H:Hp) (ρ ρ':Env) (σ:St) (d:D) (v:V) (Q:St→Hp→Prop),RS X.K ct F0 B ms F H ρ σ→Dt X.K ct F d v→g d ρ=some ρ' →
 (∀σ' F' H',Same F F'→RS X.K ct F0 B ms F' H' ρ' σ'→Q σ' H')→t v σ H Q
def gSb (i:Nat) (fj:EF):D→Env→Option Env:=fun d ρ=>(eV i ρ).bind fun o=>(fj ρ).bind fun j=>match o,j with
 | .lst ds,.int z=>(setAt ds z d).bind fun ds'=>some (ρ.set i (some (.lst ds')))
 | _,_=>none
theorem xge_sub (i:Nat) {j:Expr} (hm:ms[i]?=some (.ow 1)) (hj:XE X ct ms n j fj) (hN:X.N[i]?=some x:=by rfl) (hv:Vis X.env.scope x:=by first | exact Or.inl rfl | exact Or.inr (Or.inl rfl) | exact Or.inr (Or.inr rfl)) (hd:(x == ("__debug__":Str))=false:=by decide)
  (hcd:(x == ("__classdict__":Str))=false:=by decide)
  (ha:∀v,assign (.Subscript (.Name x p1) j tpos) X.env v=(do
   let ov ← holding [v] (eval (.Name x p1) X.env)
   let iv ← holding [v,ov] (eval j X.env)
   standAt tpos
   holding [v,ov,iv] (setItem ov iv v)
   release [v,ov,iv] []):=by intro _; rfl):XGe X ct ms (.Subscript (.Name x p1) j tpos) (gSb i fj):=by
 obtain ⟨tj,ptj,qtj⟩:=hj;refine ⟨_,pg_sub (pe_var hN hv hd hcd) ptj set_list ha,fun F0 B F1 H1 ρ ρ' σ d v0 Q rs1 l0 g2 w=>?_⟩;obtain ⟨d1,dj',g3,g4,g5⟩:=bind2 g2;obtain ⟨f1,fr,n1,b1,dj,i4,cf,put⟩:=rs1.put (F':=F1) (H':=H1) hm;obtain ⟨v,hσ,ow⟩:=i4 d1 (join_some g3);refine ⟨v,hσ,qtj F0 B F1 H1 ρ σ dj' _ rs1 g4 fun vj F2 H2 x2 lj=>?_⟩;cases d1 with
 | lst ds =>
  cases dj' with
  | int zi =>obtain ⟨ds',g6,g7⟩:=bind1 g5;cases g7;obtain ⟨jn,g8,g9⟩:=bind1 g6;cases g9;obtain ⟨ad,vs,fr1,rfl,rfl,hF,hH,ol⟩:=ow.lst_inv;have hA:H2 ad=some (.lst vs):=x2.hh _ _ hH;have fA:F2 ad=none:=x2.nf ad _ hH nofun hF;have e0:=ol.nil0;subst e0;refine ⟨ad,vs,zi,jn,rfl,lj.int,hA,by rw [← ol.length]; exact g8,?_⟩;refine w σ F2 _ x2.ff (rs1.change hm x2 hσ b1 dj cf put List.mem_cons_self fA (.inr (.lst fA upd_same (OwL.set0 ⟨Dt.mono x2.ff l0,rfl⟩ (fun _ _ _ q=>q.2) jn (ol.mono fun _ _ _ _ q=>⟨q.1.mono x2.ff,q.2⟩)))) (fn:=[ad]) (by simp) ?_);intro a ha;rw [List.mem_singleton] at ha;subst ha;exact .inl List.mem_cons_self
  | _=>cases g5
 | _=>cases g5
def sSwap (g1 g2:D→Env→Option Env) (fs:Env→Option (List D)):SF:=fun ρ=>(fs ρ).bind fun ds=>match ds with
 | [d1,d2]=>(g1 d1 ρ).bind fun ρ1=>(g2 d2 ρ1).bind fun ρ2=>some (.nx ρ2)
 | _=>none
theorem xs_swap {t1 t2:Expr} {g1 g2:D→Env→Option Env} {kt k2 pt pt2} (hc:X.calm=true) (h1:XGe X ct ms t1 g1) (h2:XGe X ct ms t2 g2) (hv:XA X ct ms [a,b] [0,0] fs)
  (hl:(assignEach [t1,t2] X.env).length=2:=by rfl) (hst:(assignEach [t1,t2] X.env).findIdx? (·.1)=none:=by rfl)
  (ha1:(assignEach [t1,t2] X.env).map (·.2)=assign t1 X.env::(assignEach [t2] X.env).map (·.2):=by rfl) (ha2:(assignEach [t2] X.env).map (·.2)=assign t2 X.env::(assignEach [] X.env).map (·.2):=by rfl)
  (hs:swapsWithSole [.Tuple [t1,t2] kt pt] (.Tuple [a,b] k2 pt2) pos.line X.env=pure false:=by rfl) (hw:swappedStores [.Tuple [t1,t2] kt pt] (.Tuple [a,b] k2 pt2) X.env=pure none:=by rfl)
  (ht:(assignEach [.Tuple [t1,t2] kt pt] X.env).map (·.2)=[assign (.Tuple [t1,t2] kt pt) X.env]:=by rfl) :
  XS X ct ms rk (.Assign [.Tuple [t1,t2] kt pt] (.Tuple [a,b] k2 pt2) pos) (sSwap g1 g2 fs):=by
 obtain ⟨u1,p1,q1⟩:=h1;obtain ⟨u2,p2,q2⟩:=h2;obtain ⟨t,pt',_,qt⟩:=hv;refine ⟨_,ps_asg (pe_tup pt') (pg_tup (n:=2) hc (pgs_cons p1 (pgs_cons p2 pgs_nil ha2) ha1) hl hst) hs hw ht,fun F0 B F H ρ σ o E rs e z=>?_⟩;obtain ⟨ds,e1,e2⟩:=bind1 e;refine qt F0 B F H ρ σ ds _ rs e1 fun vs F1 H1 x1 l=>⟨?_,fun p hp=>?_⟩
 ·rw [l.length]; exact small (by decide)
 cases l with
 | cons l1 l =>
  cases l with
  | cons l2 l =>cases l;obtain ⟨ρ1,e3,e4⟩:=bind1 e2;obtain ⟨ρ2,e5,e6⟩:=bind1 e4;cases e6;refine ⟨p,_,rfl,SqT.of upd_same,rfl,?_⟩;refine ⟨_,_,rfl,q1 F0 B F1 _ ρ ρ1 σ _ _ _ (rs.ext (x1.trans (Ext.newO x1.fh hp (.tup _)))) l1 e3 fun σ' F' H' s' r'=>?_⟩;refine ⟨_,_,rfl,q2 F0 B F' H' ρ1 ρ2 σ' _ _ _ r' (Dt.mono s' l2) e5 fun σ2 F2 H2 s2 r2=>?_⟩;exact ⟨rfl,z σ2 F2 H2 r2⟩
def fzH (a:Addr) (u:HO) (h:Hp):Hp:=fun b=>if b=a∧h a≠none then some u else h b
def IsZ (kvs:List (List Key×V)) (u:HO):Prop:=u=.dT kvs∨∃o,u=.frz o (.dT kvs)
def Okz (a:Addr) (kvs:List (List Key×V)) (h:Hp):Prop:=∀u,h a=some u→IsZ kvs u
variable {kvs:List (List Key×V)}
section
variable {a:Addr} {u:HO}
theorem fz_ne {b:Addr} (h:b≠a):fzH a u F b=F b:=by unfold fzH; rw [if_neg fun z=>h z.1]
theorem fz_none {b:Addr}:fzH a u F b=none↔F b=none:=by
 unfold fzH;by_cases h:b=a∧F a≠none
 ·rw [if_pos h];refine ⟨fun z=>(by cases z),fun z=>absurd ?_ h.2⟩;rw [← h.1]; exact z
 ·rw [if_neg h]
theorem fz_at (h:F a≠none):fzH a u F a=some u:=by unfold fzH; rw [if_pos ⟨rfl,h⟩]
theorem fz_upd (h:F a≠none):fzH a u F=upd F a u:=by
 funext b;by_cases e:b=a
 ·rw [e,fz_at h,upd_same]
 ·rw [fz_ne e,upd_ne e]
theorem fz_out (h:F a=none):fzH a u F=F:=by
 funext b;by_cases e:b=a
 ·rw [e,fz_none.mpr h,h]
 ·exact fz_ne e
theorem fz_two {v:HO}:fzH a v (fzH a u F)=fzH a v F:=by
 by_cases h:F a=none
 ·rw [fz_out (u:=u) h]
 ·rw [fz_upd h,fz_upd h,fz_upd (by rw [upd_same]; nofun),upd_upd]
theorem fz_id (h:F a=some u∨F a=none):fzH a u F=F:=by
 funext b;by_cases e:b=a
 ·subst e;rcases h with h | h
  ·rw [fz_at (by rw [h]; nofun),h]
  ·rw [fz_none.mpr h,h]
 ·exact fz_ne e
theorem Same.zz (s:Same F G):Same (fzH a u F) (fzH a u G):=fun b o h=>by
 by_cases e:b=a
 ·subst e;have hn:F b≠none:=fun z=>by rw [fz_none.mpr z] at h; cases h
  rw [fz_at hn] at h;cases hF:F b with
  | none=>exact absurd hF hn
  | some v=>rw [fz_at (by rw [s _ _ hF]; nofun)]; exact h
 ·rw [fz_ne e] at h ⊢;exact s _ _ h
theorem fz_keep {b:Addr} {v:HO} (ok:Okz a kvs F) (h:F b=some v) (hv:¬IsZ kvs v):fzH a u F b=some v:=by rw [fz_ne (b:=b) (a:=a) fun e=>hv (ok v (by rw [← e]; exact h))]; exact h
theorem fz_rd {b:Addr} {v:HO} (ok:Okz a kvs F) (h:Rd F b v) (h1:¬IsZ kvs v) (h2:∀o,¬IsZ kvs (.frz o v)):Rd (fzH a u F) b v:=by
 rcases h with h | ⟨o,h⟩
 ·exact .inl (fz_keep ok h h1)
 ·exact .inr ⟨o,fz_keep ok h (h2 o)⟩
theorem nz_lst:¬IsZ kvs (.lst xs):=fun z=>by rcases z with z | ⟨_,z⟩ <;> cases z
theorem nz_fl (o:Obj):¬IsZ kvs (.frz o (.lst xs)):=fun z=>by rcases z with z | ⟨_,z⟩ <;> cases z
theorem nz_tup:¬IsZ kvs (.tup xs):=fun z=>by rcases z with z | ⟨_,z⟩ <;> cases z
theorem nz_dK {xs:List (Key×V)}:¬IsZ kvs (.dK xs):=fun z=>by rcases z with z | ⟨_,z⟩ <;> cases z
theorem nz_ins {dx:Addr} {fs:List (Str×V)}:¬IsZ kvs (.ins C dx fs):=fun z=>by rcases z with z | ⟨_,z⟩ <;> cases z
theorem nz_xd {fs:List (Str×V)}:¬IsZ kvs (.xd fs):=fun z=>by rcases z with z | ⟨_,z⟩ <;> cases z
theorem nz_xc {a b:Addr} {c d:Option Addr}:¬IsZ kvs (xcH a b c d):=fun z=>by rcases z with z | ⟨_,z⟩ <;> cases z
theorem fz_seq {b:Addr} (ok:Okz a kvs F) (h:SqL K F b vs):SqL K (fzH a u F) b vs:=by
 rcases h with h | h
 ·exact .inl (fz_rd ok h nz_lst nz_fl)
 ·exact .inr h
theorem fz_dT {b:Addr} {k2:List (List Key×V)} (ok:Okz a kvs F) (hu:IsZ kvs u) (h:Rd F b (.dT k2)):Rd (fzH a u F) b (.dT k2):=by
 by_cases e:b=a
 ·subst e;have:k2=kvs:=by
   rcases h with h | ⟨o,h⟩
   ·rcases ok _ h with z | ⟨_,z⟩
    ·cases z; rfl
    ·cases z
   ·rcases ok _ h with z | ⟨_,z⟩
    ·cases z
    ·cases z; rfl
  subst this;have hn:F b≠none:=by rcases h with h | ⟨_,h⟩ <;> (rw [h]; nofun)
  unfold Rd;rw [fz_at hn];rcases hu with rfl | ⟨o,rfl⟩
  ·exact .inl rfl
  ·exact .inr ⟨o,rfl⟩
 ·unfold Rd;rw [fz_ne e];exact h
theorem Dt.zz (ok:Okz a kvs F) (hu:IsZ kvs u) {v:V} (h:Dt K ct F d v):Dt K ct (fzH a u F) d v :=
 Dt.rec (motive_1:=fun d v _=>Dt K ct (fzH a u F) d v) (motive_2:=fun d v _=>Dts K ct (fzH a u F) d v) .non .bl .int .str (fun h _ t=>.lst (fz_seq ok h) t) (fun h _ t=>.tup (fz_keep ok h nz_tup) t) (fun h l _ t=>.dK (fz_keep ok h nz_dK) l t)
  (fun h l _ t=>.dT (fz_dT ok hu h) l t) (fun h l _ t=>.obj (fz_keep ok h nz_ins) l t) (fun h=>.exc0 (fz_keep ok h nz_xc)) (fun h h' l _ t=>.exc (fz_keep ok h nz_xc) (fz_keep ok h' nz_xd) l t) (fun h _ t=>.kt h t) .nil (fun _ _ h t=>.cons h t) h
theorem Al.zz (ok:Okz a kvs F) (okG:Okz a kvs G) (hu:IsZ kvs u):∀{d:D} {v:V},Al K ct F G n d v→Al K ct (fzH a u F) (fzH a u G) n d v:=by
 induction n with
 | zero=>exact fun h=>Dt.zz ok hu h
 | succ n ih =>
  intro d v h;rcases h with h | h
  ·exact .inl (Dt.zz ok hu h)
  ·cases h with
   | lst h p=>exact .inr (.lst (fz_keep okG h nz_lst) (p.mono fun _ _ q=>ih q))
   | tup h p=>exact .inr (.tup (fz_keep ok h nz_tup) (p.mono fun _ _ q=>ih q))
   | dK h l p=>exact .inr (.dK (fz_keep okG h nz_dK) l (p.mono fun _ _ q=>ih q))
   | dT h l p=>exact .inr (.dT (fz_dT okG hu h) l (p.mono fun _ _ q=>ih q))
   | obj h l p=>exact .inr (.obj (fz_keep okG h nz_ins) l (p.mono fun _ _ q=>ih q))
theorem fz_cell {b:Addr} {v:HO} (na:a∉b::fp) (h:H b=some v):fzH a u H b=some v:=by rw [fz_ne (b:=b) (a:=a) fun e=>na (by rw [e]; exact List.mem_cons_self)]; exact h
theorem OwL.zz {R R':D→V→List Addr→Prop} {a:Addr} (h:OwL R ds vs fp) (na:a∉fp) (f:∀d v f,a∉f→R d v f→R' d v f):OwL R' ds vs fp:=by
 induction h with
 | nil=>exact .nil
 | cons h t ih=>exact .cons (f _ _ _ (fun z=>na (List.mem_append_left _ z)) h) (ih fun z=>na (List.mem_append_right _ z))
theorem Ow.zz (ok:Okz a kvs F) (hu:IsZ kvs u):∀{d:D} {v:V} {fp:List Addr},a∉fp→Ow K ct F H n d v fp→Ow K ct (fzH a u F) (fzH a u H) n d v fp:=by
 induction n with
 | zero=>exact fun _ h=>⟨Dt.zz ok hu h.1,h.2⟩
 | succ n ih =>
  intro d v fp na h;rcases h with ⟨h1,h2,h3⟩ | h
  ·exact .inl ⟨h1,Dt.zz ok hu h2,h3⟩
  ·cases h with
   | lst hn h p=>exact .inr (.lst (fz_none.mpr hn) (fz_cell na h) (p.zz (fun z=>na (List.mem_cons_of_mem _ z)) fun _ _ _ m q=>ih m q))
   | tup h p=>exact .inr (.tup (fz_keep ok h nz_tup) (p.zz na fun _ _ _ m q=>ih m q))
   | dK hn h l p=>exact .inr (.dK (fz_none.mpr hn) (fz_cell na h) l (p.zz (fun z=>na (List.mem_cons_of_mem _ z)) fun _ _ _ m q=>ih m q))
   | dT hn h l p=>exact .inr (.dT (fz_none.mpr hn) (fz_cell na h) l (p.zz (fun z=>na (List.mem_cons_of_mem _ z)) fun _ _ _ m q=>ih m q))
   | obj hn h l p=>exact .inr (.obj (fz_none.mpr hn) (fz_cell na h) l (p.zz (fun z=>na (List.mem_cons_of_mem _ z)) fun _ _ _ m q=>ih m q))
theorem SL.zz (ok:Okz a kvs F) (okB:Okz a kvs B) (hu:IsZ kvs u) (h:SL K ct F B H ms ρ σ fp):a∉fp→SL K ct (fzH a u F) (fzH a u B) (fzH a u H) ms ρ σ fp:=by
 induction h with
 | nil=>exact fun _=>.nil
 | no t ih=>exact fun na=>.no (ih na)
 | al l t ih=>exact fun na=>.al (l.zz ok okB hu) (ih na)
 | px l t ih=>exact fun na=>.px (l.zz ok okB hu) (ih na)
 | so o t ih=>exact fun na=>.so (o.zz ok hu fun z=>na (by rw [List.mem_singleton.mp z]; exact List.mem_cons_self)) (ih fun z=>na (List.mem_cons_of_mem _ z))
 | ow o t ih=>exact fun na=>.ow (o.zz ok hu fun z=>na (List.mem_append_left _ z)) (ih fun z=>na (List.mem_append_right _ z))
theorem Okz.sub (s:Same F G) (h:Okz a kvs G):Okz a kvs F:=fun u e=>h u (s _ _ e)
theorem RS.zz (r:RS K ct F0 B ms F H ρ σ) (ok:Okz a kvs H) (hu:IsZ kvs u) (hold:F a≠none∨B a≠none):RS K ct (fzH a u F0) (fzH a u B) ms (fzH a u F) (fzH a u H) ρ σ:=by
 obtain ⟨fp,sl,nd,hb⟩:=r.sl;have na:a∉fp:=fun z=>by
  rcases hold with h | h
  ·exact h (sl.cells a z).1
  ·exact h (hb a z)
 exact ⟨Same.zz r.f0,Same.zz r.bh,Same.zz r.fh,fun b o h t n=>fz_none.mpr (by
  cases hB:B b with
  | none=>rw [fz_none.mpr hB] at h; cases h
  | some v =>
   refine r.nf b v hB ?_ (fz_none.mp n);by_cases e:b=a
   ·subst e;rcases (ok.sub r.bh) v hB with rfl | ⟨_,rfl⟩ <;> (intro xs z; cases z)
   ·rw [fz_ne e,hB] at h; cases h; exact t),fp,sl.zz (ok.sub r.fh) (ok.sub r.bh) hu na,nd,fun b z=>fz_none.mpr (hb b z)⟩
end
def kD:Key→D
 | .inl i=>.int i
 | .inr x=>.str x
theorem keys_pr {K:PySem.W.Frag} {ct:Nat→Addr} {F B:Hp}:∀k:List Key,Pr (Al K ct F B 0) (k.map kD) (k.map kV)
 | []=>.nil
 | .inl i::k=>.cons (show Dt K ct F (.int i) (.int i) from .int i) (keys_pr k)
 | .inr x::k=>.cons (show Dt K ct F (.str x) (.str x) from .str x) (keys_pr k)
section
variable {ty:Expr} {jj:Nat} {gy:D→Env→Option Env}
theorem OutOk.thaw0 {o:Out} (z:OutOk K ct F1 B ms rk E o):OutOk K ct F1 B ms rk (thawD X E) o:=by
 cases o with
 | nx ρ=>exact fun σ F H r=>.inl (z σ F H r)
 | bk ρ=>exact fun σ F H r=>.inl (z σ F H r)
 | ct ρ=>exact fun σ F H r=>.inl (z σ F H r)
 | rt d=>exact fun v F H fp s1 s2 s3 s4 ow nd hb=>.inl (z v F H fp s1 s2 s3 s4 ow nd hb)
end
theorem Ext.shT {b:Addr} (s:Same F H) (h:H b=some (.tup xs)):Ext F H (upd F b (.tup xs)) H:=by
 refine ⟨fun c o e=>?_,.refl _,fun c o e=>?_,fun c o e t n=>?_⟩
 ·by_cases z:c=b
  ·subst z; rw [upd_same]; rw [s _ _ e] at h; exact h.symm
  ·rw [upd_ne z]; exact e
 ·by_cases z:c=b
  ·subst z; rw [upd_same] at e; cases e; exact h
  ·rw [upd_ne z] at e; exact s _ _ e
 ·by_cases z:c=b
  ·subst z; rw [h] at e; cases e; exact absurd rfl (t xs)
  ·rw [upd_ne z]; exact n
def insL (x:List Int):List (List Int)→List (List Int)
 | []=>[x]
 | y::ys=>if lexI y x=true then y::insL x ys else x::y::ys
def sortL:List (List Int)→List (List Int)
 | []=>[]
 | x::xs=>insL x (sortL xs)
def SrL (xs:List (List Int)):Prop:=xs.Pairwise fun x y=>lexI y x=false
theorem insL_perm (x:List Int):∀ys,(insL x ys).Perm (x::ys)
 | []=>.refl _
 | y::ys=>by
  unfold insL;split
  ·exact ((insL_perm x ys).cons y).trans (.swap ..)
  ·exact .refl _
theorem sortL_perm:∀xs,(sortL xs).Perm xs
 | []=>.refl _
 | x::xs=>(insL_perm x _).trans ((sortL_perm xs).cons x)
theorem insL_sorted (x:List Int):∀{ys},SrL ys→SrL (insL x ys)
 | [],_=>List.pairwise_singleton _ _
 | y::ys,h=>by
  obtain ⟨h1,h2⟩:=List.pairwise_cons.mp h;unfold insL;by_cases c:lexI y x=true
  ·rw [if_pos c];refine List.pairwise_cons.mpr ⟨fun z hz=>?_,insL_sorted x h2⟩;rcases List.mem_cons.mp ((insL_perm x ys).mem_iff.mp hz) with rfl | hz
   ·exact lexI_as _ _ c
   ·exact h1 z hz
  ·rw [if_neg c];have c:lexI y x=false:=by simpa using c
   refine List.pairwise_cons.mpr ⟨fun z hz=>?_,h⟩;rcases List.mem_cons.mp hz with rfl | hz
   ·exact c
   ·exact lexI_tr _ _ _ c (h1 z hz)
theorem sortL_sorted:∀xs,SrL (sortL xs)
 | []=>.nil
 | x::xs=>insL_sorted x (sortL_sorted xs)
theorem srL_uniq:∀{xs ys:List (List Int)},xs.Perm ys→SrL xs→SrL ys→xs=ys
 | [],ys,p,_,_=>(List.nil_perm.mp p).symm
 | x::xs,[],p,_,_=>absurd p.length_eq (by simp)
 | x::xs,y::ys,p,h,h'=>by
  obtain ⟨h1,h2⟩:=List.pairwise_cons.mp h;obtain ⟨h3,h4⟩:=List.pairwise_cons.mp h';have irr:∀z,lexI z z=false:=fun z=>by
   cases e:lexI z z with
   | false=>rfl
   | true=>have:=lexI_as _ _ e; rw [e] at this; cases this
  have e:x=y:=by
   have m1:x∈y::ys:=p.mem_iff.mp List.mem_cons_self;have m2:y∈x::xs:=p.mem_iff.mpr List.mem_cons_self;have a1:lexI x y=false:=by
    rcases List.mem_cons.mp m1 with e | m
    ·rw [e]; exact irr _
    ·exact h3 x m
   have a2:lexI y x=false:=by
    rcases List.mem_cons.mp m2 with e | m
    ·rw [e]; exact irr _
    ·exact h1 y m
   exact lexI_eq _ _ a1 a2
  subst e;rw [srL_uniq ((List.perm_cons x).mp p) h2 h4]
def encTI (k:List Int):D:=.tup (k.map .int)
def tupsI:List D→Option (List (List Int))
 | []=>some []
 | .tup ds::es=>(intsD ds).bind fun k=>(tupsI es).bind fun ks=>some (k::ks)
 | _=>none
theorem tupsI_some:∀{ds:List D} {ks:List (List Int)},tupsI ds=some ks→ds=ks.map encTI
 | [],_,e=>by cases e; rfl
 | d::ds,ks,e=>by
  cases d with
  | tup es =>obtain ⟨k,ms,h1,h2,h3⟩:=bind2 (show (intsD es).bind _=_ from e);cases h3;rw [tupsI_some h2,intsD_some h1]; rfl
  | _=>cases e
theorem tupsI_map:∀ks:List (List Int),tupsI (ks.map encTI)=some ks
 | []=>rfl
 | k::ks=>by show (intsD (k.map .int)).bind _=_;rw [intsD_map,Option.bind_some];show (tupsI (ks.map encTI)).bind _=_;rw [tupsI_map ks]; rfl
theorem Pr.intsV {R:D→V→Prop} (hR:∀i v,R (.int i) v→v=.int i):∀{k:List Int} {vs:List V},Pr R (k.map .int) vs→vs=k.map V.int
 | [],_,.nil=>rfl
 | i::k,_,.cons h t=>by rw [hR i _ h,Pr.intsV hR t]; rfl
theorem tups_at {F H:Hp} {m:Nat} (s:Same F H):∀{ks:List (List Int)} {vs:List V},Pr (Al K ct F H m) (ks.map encTI) vs→∃qs:List (Addr×List Int),vs=qs.map (fun q=>V.ref q.1)∧ks=qs.map (·.2)∧∀q∈qs,F q.1=some (.tup (q.2.map V.int))
 | [],_,.nil=>⟨[],rfl,rfl,nofun⟩
 | k::ks,_,.cons (v:=v) h t=>by
  obtain ⟨qs,e1,e2,e3⟩:=tups_at s t;have:∃b,v=.ref b∧F b=some (.tup (k.map V.int)):=by
   cases m with
   | zero =>
    have h:Dt K ct F (.tup (k.map .int)) v:=h;cases h with
    | tup q p=>exact ⟨_,rfl,by rw [← Pr.intsV (R:=Dt K ct F) (fun i v z=>by cases z; rfl) p.pr]; exact q⟩
   | succ m =>
    rcases h with h | h
    ·have h:Dt K ct F (.tup (k.map .int)) v:=h;cases h with
     | tup q p=>exact ⟨_,rfl,by rw [← Pr.intsV (R:=Dt K ct F) (fun i v z=>by cases z; rfl) p.pr]; exact q⟩
    ·have h:AlC K ct F H (Al K ct F H m) (.tup (k.map .int)) v:=h;cases h with
     | tup q p=>exact ⟨_,rfl,by rw [← Pr.intsV (R:=Al K ct F H m) (fun i v z=>by rw [z.int]) p]; exact q⟩
  obtain ⟨b,rfl,hb⟩:=this;exact ⟨(b,k)::qs,by rw [e1]; rfl,by rw [e2]; rfl,fun q hq=>by
   rcases List.mem_cons.mp hq with rfl | hq
   ·exact hb
   ·exact e3 q hq⟩
section
variable {a b c d e f g h i j k l m n o p q r s t x:Option D} {z:Env}
@[simp 2000] theorem ev0:eV 0 (a::z)=a:=rfl
@[simp 2000] theorem es0:List.set (a::z) 0 x=x::z:=rfl
@[simp 2000] theorem ev1:eV 1 (a::b::z)=b:=rfl
@[simp 2000] theorem es1:List.set (a::b::z) 1 x=a::x::z:=rfl
@[simp 2000] theorem ev2:eV 2 (a::b::c::z)=c:=rfl
@[simp 2000] theorem es2:List.set (a::b::c::z) 2 x=a::b::x::z:=rfl
@[simp 2000] theorem ev3:eV 3 (a::b::c::d::z)=d:=rfl
@[simp 2000] theorem es3:List.set (a::b::c::d::z) 3 x=a::b::c::x::z:=rfl
@[simp 2000] theorem ev4:eV 4 (a::b::c::d::e::z)=e:=rfl
@[simp 2000] theorem es4:List.set (a::b::c::d::e::z) 4 x=a::b::c::d::x::z:=rfl
@[simp 2000] theorem ev5:eV 5 (a::b::c::d::e::f::z)=f:=rfl
@[simp 2000] theorem es5:List.set (a::b::c::d::e::f::z) 5 x=a::b::c::d::e::x::z:=rfl
@[simp 2000] theorem ev6:eV 6 (a::b::c::d::e::f::g::z)=g:=rfl
@[simp 2000] theorem es6:List.set (a::b::c::d::e::f::g::z) 6 x=a::b::c::d::e::f::x::z:=rfl
@[simp 2000] theorem ev7:eV 7 (a::b::c::d::e::f::g::h::z)=h:=rfl
@[simp 2000] theorem es7:List.set (a::b::c::d::e::f::g::h::z) 7 x=a::b::c::d::e::f::g::x::z:=rfl
@[simp 2000] theorem ev8:eV 8 (a::b::c::d::e::f::g::h::i::z)=i:=rfl
@[simp 2000] theorem es8:List.set (a::b::c::d::e::f::g::h::i::z) 8 x=a::b::c::d::e::f::g::h::x::z:=rfl
@[simp 2000] theorem ev9:eV 9 (a::b::c::d::e::f::g::h::i::j::z)=j:=rfl
@[simp 2000] theorem es9:List.set (a::b::c::d::e::f::g::h::i::j::z) 9 x=a::b::c::d::e::f::g::h::i::x::z:=rfl
@[simp 2000] theorem ev10:eV 10 (a::b::c::d::e::f::g::h::i::j::k::z)=k:=rfl
@[simp 2000] theorem es10:List.set (a::b::c::d::e::f::g::h::i::j::k::z) 10 x=a::b::c::d::e::f::g::h::i::j::x::z:=rfl
@[simp 2000] theorem ev11:eV 11 (a::b::c::d::e::f::g::h::i::j::k::l::z)=l:=rfl
@[simp 2000] theorem es11:List.set (a::b::c::d::e::f::g::h::i::j::k::l::z) 11 x=a::b::c::d::e::f::g::h::i::j::k::x::z:=rfl
@[simp 2000] theorem ev12:eV 12 (a::b::c::d::e::f::g::h::i::j::k::l::m::z)=m:=rfl
@[simp 2000] theorem es12:List.set (a::b::c::d::e::f::g::h::i::j::k::l::m::z) 12 x=a::b::c::d::e::f::g::h::i::j::k::l::x::z:=rfl
@[simp 2000] theorem ev13:eV 13 (a::b::c::d::e::f::g::h::i::j::k::l::m::n::z)=n:=rfl
@[simp 2000] theorem es13:List.set (a::b::c::d::e::f::g::h::i::j::k::l::m::n::z) 13 x=a::b::c::d::e::f::g::h::i::j::k::l::m::x::z:=rfl
@[simp 2000] theorem ev14:eV 14 (a::b::c::d::e::f::g::h::i::j::k::l::m::n::o::z)=o:=rfl
@[simp 2000] theorem es14:List.set (a::b::c::d::e::f::g::h::i::j::k::l::m::n::o::z) 14 x=a::b::c::d::e::f::g::h::i::j::k::l::m::n::x::z:=rfl
@[simp 2000] theorem ev15:eV 15 (a::b::c::d::e::f::g::h::i::j::k::l::m::n::o::p::z)=p:=rfl
@[simp 2000] theorem es15:List.set (a::b::c::d::e::f::g::h::i::j::k::l::m::n::o::p::z) 15 x=a::b::c::d::e::f::g::h::i::j::k::l::m::n::o::x::z:=rfl
@[simp 2000] theorem ev16:eV 16 (a::b::c::d::e::f::g::h::i::j::k::l::m::n::o::p::q::z)=q:=rfl
@[simp 2000] theorem es16:List.set (a::b::c::d::e::f::g::h::i::j::k::l::m::n::o::p::q::z) 16 x=a::b::c::d::e::f::g::h::i::j::k::l::m::n::o::p::x::z:=rfl
@[simp 2000] theorem ev17:eV 17 (a::b::c::d::e::f::g::h::i::j::k::l::m::n::o::p::q::r::z)=r:=rfl
@[simp 2000] theorem es17:List.set (a::b::c::d::e::f::g::h::i::j::k::l::m::n::o::p::q::r::z) 17 x=a::b::c::d::e::f::g::h::i::j::k::l::m::n::o::p::q::x::z:=rfl
@[simp 2000] theorem ev18:eV 18 (a::b::c::d::e::f::g::h::i::j::k::l::m::n::o::p::q::r::s::z)=s:=rfl
@[simp 2000] theorem es18:List.set (a::b::c::d::e::f::g::h::i::j::k::l::m::n::o::p::q::r::s::z) 18 x=a::b::c::d::e::f::g::h::i::j::k::l::m::n::o::p::q::r::x::z:=rfl
@[simp 2000] theorem ev19:eV 19 (a::b::c::d::e::f::g::h::i::j::k::l::m::n::o::p::q::r::s::t::z)=t:=rfl
@[simp 2000] theorem es19:List.set (a::b::c::d::e::f::g::h::i::j::k::l::m::n::o::p::q::r::s::t::z) 19 x=a::b::c::d::e::f::g::h::i::j::k::l::m::n::o::p::q::r::s::x::z:=rfl
end
section
open PySem PySem.Spec L2
open PyProof.Rows hiding St
open L2.SW L2.STb
def SetTO (w:World) (B:Addr→List Int→Prop) (p:Addr) (ks:List (List Int)):Heap→Prop:=fun h=>SetT w B h p ks
def injB (ks:List (List Int)):Bool:=ks.all fun k=>ks.all fun k'=>hT k != hT k' || k == k'
theorem injB_at {ks:List (List Int)} (h:injB ks=true) {k k':List Int} (h1:k∈ks) (h2:k'∈ks) (e:hT k=hT k'):k=k':=by have:=List.all_eq_true.mp (List.all_eq_true.mp h k h1) k' h2;rw [e] at this;simpa using this
def ddL:List (List Int)→List (List Int)
 | []=>[]
 | k::ks=>if k∈ks then ddL ks else k::ddL ks
theorem ddL_mem:∀{ks:List (List Int)} {x:List Int},x∈ddL ks↔x∈ks
 | [],_=>Iff.rfl
 | k::ks,x=>by
  unfold ddL;split
  ·rename_i h;rw [ddL_mem,List.mem_cons];exact ⟨.inr,fun z=>by rcases z with rfl | z; exact h; exact z⟩
  ·rw [List.mem_cons,List.mem_cons,ddL_mem]
theorem ddL_nd:∀ks:List (List Int),(ddL ks).Nodup
 | []=>.nil
 | k::ks=>by
  unfold ddL;split
  ·exact ddL_nd ks
  ·rename_i h;exact List.nodup_cons.mpr ⟨fun z=>h (ddL_mem.mp z),ddL_nd ks⟩
def BH (H:Hp) (b:Addr) (k:List Int):Prop:=H b=some (.tup (k.map V.int))
theorem bh_tup {w:World} {h:Heap} (ok:HOk P w H h) {b:Addr} {k:List Int} (e:BH H b k):IsTupleKey (intKind P w) h k b:=by
 obtain ⟨hz,ts,v,o,h1,h2,n,h3⟩:=(show ObjOk P w H h b (.tup (k.map V.int)) from ok _ _ e);refine ⟨o,ts.toArray,n,h1,h2,h3,?_⟩;rw [List.toList_toArray];clear h1 h2 h3 e hz;induction k generalizing ts with
 | nil=>cases v; exact .nil
 | cons i k ih =>
  cases v with
  | cons r t =>obtain ⟨tk,rfl⟩:=r;exact .cons (intKind_is _ _ _ _) (ih _ t)
theorem call_setT (hc:X.calm=true) (hu:X.A.units+64<cLine):CallR X (.type "set") (fun xs H Q=>∃(a:Addr) (qs:List (Addr×List Int)),xs=[.ref a]∧SqL X.K H a (qs.map fun q=>V.ref q.1)∧(∀q∈qs,BH H q.1 q.2)∧qs.length≤18∧injB (qs.map (·.2))=true∧∀p,H p=none→Q (.ref p) (upd H p (.ext (SetTO X.w (fun b k=>(b,k)∈qs) p (qs.map (·.2)))))):=by
 intro pins s σ H xs us Q I r h;obtain ⟨a,qs,rfl,hq,hk,h18,inj,q⟩:=h;obtain ⟨u,rfl,ru⟩:=r.one;cases (show u=Value.ref a from ru);obtain ⟨its,rv,pl,hz⟩:=I.list hq;have hits:=vals_refs rv;subst hits;have hsz:(qs.map fun q=>Value.ref q.1).toArray.size=qs.length:=by rw [List.size_toArray,List.length_map]
 have gd:∀i (hi:i<qs.length),qs.getD i (0,[])=qs[i]:=fun i hi=>(qs_gd i hi).2;refine set_list_T (items:=(qs.map fun q=>Value.ref q.1).toArray) (val:=fun i=>(qs.getD i (0,[])).2) (B:=fun b k=>(b,k)∈qs) (I.ok.hd hc) (by omega) pl.isList (fun i v e=>?_) (fun b k e=>bh_tup I.hok (hk (b,k) e)) (fun i j hi hj e=>?_) (by rw [hsz]; exact h18) fun h' tk hS hkp=>?_
 ·rw [List.getElem?_toArray,List.getElem?_map] at e;obtain ⟨x,hx,rfl⟩:=Option.map_eq_some_iff.mp e;obtain ⟨hi,rfl⟩:=List.getElem?_eq_some_iff.mp hx;exact ⟨_,rfl,by rw [gd i hi]; exact List.getElem_mem hi⟩
 ·rw [hsz] at hi hj;rw [gd i hi,gd j hj] at e ⊢;exact injB_at inj (List.mem_map_of_mem (List.getElem_mem hi)) (List.mem_map_of_mem (List.getElem_mem hj)) e
 rw [hsz,show (List.range qs.length).map (fun i=>(qs.getD i (0,[])).2)=qs.map (·.2) from List.ext_getElem (by simp) fun i h1 h2=>by rw [List.length_map] at h2;simp only [List.getElem_map,List.getElem_range];rw [gd i h2]] at hS;refine ⟨.ref _,_,I.laid (a:=s.heap.objs.size) (o:=.ext (SetTO X.w (fun b k=>(b,k)∈qs) s.heap.objs.size (qs.map (·.2)))) (t':=tk) (fun b u hb=>hkp b u (Heap.lt_size hb) hb) (Nat.le_refl _) ?_,rfl,q _ (I.hok.fresh (Nat.le_refl _))⟩;exact ⟨hS,⟨hS.choose,hS.choose_spec.choose_spec.choose_spec.choose_spec.1⟩,fun h1 h2 z hh=>z.at' hh⟩
theorem call_sortedTS (hc:X.calm=true):CallR X (.builtin "sorted") (fun xs H Q=>∃(p:Addr) (B:Addr→List Int→Prop) (ks:List (List Int)),xs=[.ref p]∧H p=some (.ext (SetTO X.w B p ks))∧(∀b k,B b k→BH H b k)∧(∀k∈ks,k≠[])∧injB ks=true∧∀qs':List (Addr×List Int),(∀q∈qs',B q.1 q.2)→SrL (qs'.map (·.2))→(qs'.map (·.2)).Nodup→(∀k,k∈qs'.map (·.2)↔k∈ks)→∀q,H q=none→Q (.ref q) (upd H q (.lst (qs'.map fun q=>V.ref q.1)))):=by intro pins s σ H xs us Q I r h;obtain ⟨p,B,ks,rfl,hp,hB,ne,inj,q⟩:=h;obtain ⟨u,rfl,ru⟩:=r.one;cases (show u=Value.ref p from ru);obtain ⟨hS,_⟩:=(I.hok p _ hp:ObjOk X.prog X.w H s.heap p (.ext (SetTO X.w B p ks)));refine sorted_T (I.ok.hd hc) hS (fun b k e=>bh_tup I.hok (hB b k e)) ne (fun k h1 k' h2 e=>injB_at inj h1 h2 e) fun h' tk p' cc qs' a1 a2 a3 a4 a5 keep le he=>?_;refine ⟨.ref _,_,I.laid (a:=p') (o:=.lst (qs'.map fun q=>V.ref q.1)) (t':=tk) keep le ?_,rfl,q qs' a1 (List.pairwise_map.mpr a2) a3 a4 _ (I.hok.fresh le)⟩;exact ⟨by rw [List.length_map,sizeLine_eq]; omega,qs'.map fun q=>Value.ref q.1,cc,refs_vals qs',by simpa [seqObj] using he⟩
def sortSetT:D→Option D
 | .lst xs=>(tupsI xs).bind fun ks=>if ks.length≤18∧(∀k∈ks,k≠[])∧injB ks=true then some (.lst ((sortL (ddL ks)).map encTI)) else none
 | _=>none
theorem xo_sortsetT (hc:X.calm=true) (hu:X.A.units+64<cLine) (hg:Gl X "sorted") (hm:X.mg "sorted"=none) (hg2:Gl X "set") (hm2:X.mg "set"=none) (he:XE X ct ms n e f) (hs:starEach [e] X.env=[(false,eval e X.env)]:=by rfl)
  (hs2:starEach [.Call (.Name "set" p2) [e] [] pos2] X.env=[(false,eval (.Call (.Name "set" p2) [e] [] pos2) X.env)]:=by rfl) :
  XO X ct ms 1 (.Call (.Name "sorted" p1) [.Call (.Name "set" p2) [e] [] pos2] [] pos) (e1 sortSetT f):=by
 obtain ⟨t,pt,qt⟩:=he;refine ⟨_,pe_callB (call_sortedTS hc) hg hm bt_sorted (pa_cons (pe_callTy (call_setT hc hu) hg2 hm2 bt_set (pa_cons pt pa_nil hs) (by decide) (by decide) hs (by rfl)) pa_nil hs2) (by decide) (by decide) hs2 (by rfl),fun F0 B F H ρ σ d Q rs e w=>?_⟩;obtain ⟨d1,h1,h2⟩:=bind1 e;cases d1 with
 | lst ds =>
  obtain ⟨ks,h3,h4⟩:=bind1 (show (tupsI ds).bind _=_ from h2);by_cases hz:ks.length≤18∧(∀k∈ks,k≠[])∧injB ks=true
  ·rw [if_pos hz] at h4;cases h4;refine qt F0 B F H ρ σ _ _ rs h1 fun v F1 H1 x1 l1=>?_;have:=tupsI_some h3;subst this;obtain ⟨a,vs,rfl,ha,hp⟩:=l1.lst x1.fh;obtain ⟨qs,rfl,rfl,hq⟩:=tups_at x1.fh hp;rw [List.length_map] at hz;refine ⟨a,qs,rfl,ha,fun q m=>x1.fh _ _ (hq q m),hz.1,hz.2.2,fun p hp0=>⟨p,_,_,rfl,upd_same,fun b k e=>?_,hz.2.1,hz.2.2,fun qs' a1 a2 a3 a4 q hq0=>?_⟩⟩
   ·have e:=x1.fh _ _ (hq (b,k) e);show upd H1 p _ b=_;rw [upd_ne (fun z=>by rw [z] at e; rw [show H1 p=_ from e] at hp0; cases hp0)];exact e
   have e2:qs'.map (·.2)=sortL (ddL (qs.map (·.2))):=by refine srL_uniq (((List.perm_ext_iff_of_nodup a3 (ddL_nd _)).mpr fun x=>(a4 x).trans ddL_mem.symm).trans (sortL_perm _).symm) a2 (sortL_sorted _)
   rw [← e2,List.map_map] at w;have x2:=x1.trans (Ext.newO x1.fh hp0 (.ext (SetTO X.w (fun b k=>(b,k)∈qs) p (qs.map (·.2)))));refine new_own x2.fh ?_ (fun v F' H' fp x3 ow nd fr=>w v F' H' fp (x2.trans x3) ow nd fun z hz=>?_) q hq0
   ·have:∀l:List (Addr×List Int),(∀q∈l,F1 q.1=some (.tup (q.2.map V.int)))→Pr (Al X.K ct F1 (upd H1 p (.ext (SetTO X.w (fun b k=>(b,k)∈qs) p (qs.map (·.2))))) 0) (l.map (encTI ∘ (·.2))) (l.map fun q=>V.ref q.1):=by
     intro l;induction l with
     | nil=>exact fun _=>.nil
     | cons q l ih =>intro hl;exact .cons (show Dt X.K ct F1 (.tup (q.2.map .int)) (.ref q.1) from .tup (hl q List.mem_cons_self) (Dts.of (Pr.ofInts (H:=H1) q.2))) (ih fun x hx=>hl x (List.mem_cons_of_mem _ hx))
    exact this qs' fun q m=>hq q (a1 q m)
   ·cases e:H z with
    | none=>rfl
    | some o=>have:=fr z hz; rw [x2.hh z o e] at this; cases this
  ·rw [if_neg hz] at h4; cases h4
 | _=>cases h2
end
def kysD:D→Option (List D)
 | .dT ks ds=>if ks.length=ds.length then some (ks.map fun k=>.tup (k.map kD)) else none
 | _=>none
def valsD:D→Option (List D)
 | .dT ks ds=>if ks.length=ds.length then some ds else none
 | _=>none
section
variable {a:Addr} {ob:Obj}
theorem RS.lent (rs:RS K ct F0 B ms F H ρ σ) (hm:ms[i]?=some (.al 1)) (e:ρ[i]?=some (some (.dT ks ds))):∃a vs,σ[i]?=some (some (.ref a))∧(Rd F a (.dT (ks.zip vs))∨Rd B a (.dT (ks.zip vs)))∧ks.length=vs.length∧Pr (Dt K ct F) ds vs:=by
 obtain ⟨fp,sl,_,_⟩:=rs.sl;obtain ⟨v,hv,l⟩:=sl.getA hm e;rcases l with l | l
 ·have l:Dt K ct F (.dT ks ds) v:=l;cases l with
  | dT q hk t=>exact ⟨_,_,hv,.inl q,hk,t.pr⟩
 ·have l:AlC K ct F B (Al K ct F B 0) (.dT ks ds) v:=l;cases l with
  | dT q hk p=>exact ⟨_,_,hv,.inr q,hk,p⟩
theorem un_zz (hF:F0 a=some (.dT kvs)∨F0 a=none) (hB:B a=some (.dT kvs)∨B a=none) (hold:F0 a≠none∨B a≠none) (r:RS K ct (fzH a (.frz ob (.dT kvs)) F0) (fzH a (.frz ob (.dT kvs)) B) ms F H ρ σ) :
  H a=some (.frz ob (.dT kvs))∧RS K ct F0 B ms (fzH a (.dT kvs) F) (upd H a (.dT kvs)) ρ σ:=by
 have eF:fzH a (.dT kvs) (fzH a (.frz ob (.dT kvs)) F0)=F0:=fz_two.trans (fz_id hF);have eB:fzH a (.dT kvs) (fzH a (.frz ob (.dT kvs)) B)=B:=fz_two.trans (fz_id hB);have hold':F a=some (.frz ob (.dT kvs))∨B a≠none:=by
  rcases hold with h | h
  ·exact .inl (r.f0 _ _ (fz_at h))
  ·exact .inr h
 have hHa:H a=some (.frz ob (.dT kvs)):=by
  rcases hold' with h | h
  ·exact r.fh _ _ h
  ·exact r.bh _ _ (fz_at h)
 have q:=r.zz (a:=a) (kvs:=kvs) (u:=.dT kvs) (fun u e=>by rw [hHa] at e; cases e; exact .inr ⟨_,rfl⟩) (.inl rfl) (by
  rcases hold' with h | h
  ·exact .inl (by rw [h]; nofun)
  ·exact .inr fun z=>h (fz_none.mp z))
 rw [eF,eB,fz_upd (F:=H) (by rw [hHa]; nofun)] at q;exact ⟨hHa,q⟩
end
section
variable {a:Addr} {ob:Obj}
theorem OutOk.thawL {o:Out} (z:OutOk X.K ct F0 B ms rk E o) (hF:F0 a=some (.dT kvs)∨F0 a=none) (hB:B a=some (.dT kvs)∨B a=none) (hold:F0 a≠none∨B a≠none) (nf:∀o' v,X.H₀ a≠some (.frz o' v)) :
  OutOk X.K ct (fzH a (.frz ob (.dT kvs)) F0) (fzH a (.frz ob (.dT kvs)) B) ms rk (thawD X E) o:=by
 cases o with
 | nx ρ=>exact fun σ F H r=>let ⟨h1,q⟩:=un_zz hF hB hold r; .inr ⟨a,ob,kvs,h1,nf,z σ _ _ q⟩
 | bk ρ=>exact fun σ F H r=>let ⟨h1,q⟩:=un_zz hF hB hold r; .inr ⟨a,ob,kvs,h1,nf,z σ _ _ q⟩
 | ct ρ=>exact fun σ F H r=>let ⟨h1,q⟩:=un_zz hF hB hold r; .inr ⟨a,ob,kvs,h1,nf,z σ _ _ q⟩
 | rt d =>
  intro v F H fp s1 s2 s3 s4 ow nd hb;have r0:RS X.K ct (fzH a (.frz ob (.dT kvs)) F0) (fzH a (.frz ob (.dT kvs)) B) [] F H [] []:=⟨s1,s2,s3,s4,[],.nil,List.nodup_nil,fun a z=>(by cases z)⟩;obtain ⟨hHa,q⟩:=un_zz hF hB hold r0;have na:a∉fp:=fun m=>by
   rcases hold with h | h
   ·have:=(ow.cells a m).1; rw [s1 _ _ (fz_at h)] at this; cases this
   ·exact h (fz_none.mp (hb a m))
  have okH:Okz a kvs H:=fun u e=>by rw [hHa] at e; cases e; exact .inr ⟨_,rfl⟩
  refine .inr ⟨a,ob,kvs,hHa,nf,z v _ _ fp q.f0 q.bh q.fh q.nf ?_ nd fun b m=>fz_none.mp (hb b m)⟩;have:=ow.zz (okH.sub s3) (.inl rfl) na;rw [fz_upd (F:=H) (by rw [hHa]; nofun)] at this;exact this
theorem walk_in {J:Addr→Obj→List (List Key×V)→It} {x:Str} {R:It→Hp→Prop} (rs:RS X.K ct F0 B ms F H ρ σ) (hm:ms[i]?=some (.al 1)) (e:ρ[i]?=some (some (.dT ks ds))) (tv:TE) (htv:∀v Q,σ[i]?=some (some v)→Q v H→tv σ H Q)
  (w:∀a vs ob F0' B' F' H' ,RS X.K ct F0' B' ms F' H' ρ σ→(F' a=some (.frz ob (.dT (ks.zip vs)))∨B' a=some (.frz ob (.dT (ks.zip vs))))→ks.length=vs.length→Pr (Dt X.K ct F') ds vs →
   ((F0'=F∧B'=B∧F'=F∧H'=H)∨((F a=some (.dT (ks.zip vs))∨F a=none)∧(B a=some (.dT (ks.zip vs))∨B a=none)∧(F a≠none∨B a≠none)∧(∀o' v,X.H₀ a≠some (.frz o' v))∧F0'=fzH a (.frz ob (.dT (ks.zip vs))) F∧B'=fzH a (.frz ob (.dT (ks.zip vs))) B∧F'=fzH a (.frz ob (.dT (ks.zip vs))) F∧H'=upd H a (.frz ob (.dT (ks.zip vs)))∧H a=some (.dT (ks.zip vs))))→R (J a ob (ks.zip vs)) H'):iFrz X J tv σ H R:=by
 obtain ⟨a,vs,hv,hq,hk,hp⟩:=rs.lent hm e;refine htv _ _ hv ⟨a,ks.zip vs,rfl,?_⟩;have rs1:=rs.re;have key:((F a=some (.dT (ks.zip vs))∨B a=some (.dT (ks.zip vs)))∨∃o,F a=some (.frz o (.dT (ks.zip vs)))∨B a=some (.frz o (.dT (ks.zip vs)))):=by
  rcases hq with (h | ⟨o,h⟩) | (h | ⟨o,h⟩)
  ·exact .inl (.inl h)
  ·exact .inr ⟨o,.inl h⟩
  ·exact .inl (.inr h)
  ·exact .inr ⟨o,.inr h⟩
 rcases key with q | ⟨ob,q⟩
 ·have hHa:H a=some (.dT (ks.zip vs)):=by
   rcases q with h | h
   ·exact rs.fh _ _ h
   ·exact rs.bh _ _ h
  have hF:F a=some (.dT (ks.zip vs))∨F a=none:=by
   cases h:F a with
   | none=>exact .inr rfl
   | some z=>have:=rs.fh _ _ h; rw [hHa] at this; cases this; exact .inl rfl
  have hB:B a=some (.dT (ks.zip vs))∨B a=none:=by
   cases h:B a with
   | none=>exact .inr rfl
   | some z=>have:=rs.bh _ _ h; rw [hHa] at this; cases this; exact .inl rfl
  have hold:F a≠none∨B a≠none:=by
   rcases q with h | h
   ·exact .inl (by rw [h]; nofun)
   ·exact .inr (by rw [h]; nofun)
  refine .inl ⟨hHa,fun ob nf=>?_⟩;have okH:Okz a (ks.zip vs) H:=fun w ew=>by rw [hHa] at ew; cases ew; exact .inl rfl
  have r2:=rs1.zz (a:=a) (kvs:=ks.zip vs) (u:=.frz ob (.dT (ks.zip vs))) okH (.inr ⟨ob,rfl⟩) hold;rw [fz_upd (F:=H) (by rw [hHa]; nofun)] at r2;refine w a vs ob _ _ _ _ r2 ?_ hk (hp.mono fun _ _ h=>h.zz (okH.sub rs.fh) (.inr ⟨ob,rfl⟩)) (.inr ⟨hF,hB,hold,nf,rfl,rfl,rfl,rfl,hHa⟩);rcases hold with h | h
  ·exact .inl (fz_at h)
  ·exact .inr (fz_at h)
 ·refine .inr ⟨ob,?_,w a vs ob _ _ _ _ rs1 q hk hp (.inl ⟨rfl,rfl,rfl,rfl⟩)⟩;rcases q with h | h
  ·exact rs.fh _ _ h
  ·exact rs.bh _ _ h
theorem xs_forK (i:Nat) (hg:XG X ct ms 0 tg gg) (hb:XSs X ct ms rk rest u) (hp:PassesOwn (model X.prog X.w) X.A X.env X.xe) (hc:X.calm=true) (hm:ms[i]?=some (.al 1):=by rfl) (hN:X.N[i]?=some x:=by rfl) (hv:Vis X.env.scope x:=by first | exact Or.inl rfl | exact Or.inr (Or.inl rfl) | exact Or.inr (Or.inr rfl)) (hd:(x == ("__debug__":Str))=false:=by decide)
  (hcd:(x == ("__classdict__":Str))=false:=by decide) (hs:∀y,foldedSetIterable (.Name x pp) X.env y=pure y:=by intro _; rfl):XS X ct ms rk (.For tg (.Name x pp) rest [] pos) (sFor (fun ρ=>(eV i ρ).bind kysD) gg u):=by
 obtain ⟨tg',pg,qg⟩:=hg;obtain ⟨t1,pt1,qt1⟩:=hb;refine ⟨_,ps_thaw (ps_for hp hc (pi_keys (pe_var hN hv hd hcd)) pg pt1 hs),fun F0 B F H ρ σ o E rs e z=>?_⟩;obtain ⟨ds,e1,e2⟩:=bind1 e;obtain ⟨d,e3,e4⟩:=bind1 e1;cases d with
 | dT ks ds' =>
  by_cases hl:ks.length=ds'.length
  case neg=>rw [show kysD (.dT ks ds')=if ks.length=ds'.length then _ else _ from rfl,if_neg hl] at e4; cases e4
  rw [show kysD (.dT ks ds')=if ks.length=ds'.length then _ else _ from rfl,if_pos hl] at e4;cases e4;have z0:OutOk X.K ct F B ms rk E o:=OutOk.re rs z;refine walk_in (J:=Kys) (x:=x) rs hm (join_some e3) _ (fun v Q h1 h2=>⟨v,h1,h2⟩) fun a vs ob F0' B' F' H' rs' hh hk _ alt=>?_;have z1:OutOk X.K ct F0' B' ms rk (thawD X E) o:=by
   rcases alt with ⟨rfl,rfl,rfl,rfl⟩ | ⟨hF,hB,hold,nf,rfl,rfl,_⟩
   ·exact z0.thaw0
   ·exact z0.thawL hF hB hold nf
  clear alt z0 z rs;generalize hds:(ks.map fun k=>D.tup (k.map kD))=ds at e2;have hlen:ds.length=(ks.zip vs).length:=by rw [← hds,List.length_map,List.length_zip]; omega
  refine ⟨fun j m σ H=>m=ds.length-j∧j≤ds.length∧∃F ρ,RS X.K ct F' B' ms F H ρ σ∧forD gg u (ds.drop j) ρ=some o,⟨ds.length,rfl,Nat.zero_le _,F',ρ,rs'.re,e2⟩,?_⟩;rintro j m σ H ⟨rfl,hil,F,ρ,r,e⟩;have hH:H a=some (.frz ob (.dT (ks.zip vs))):=by
   rcases hh with h | h
   ·exact r.fh _ _ (r.f0 _ _ h)
   ·exact r.bh _ _ h
  by_cases hlt:j<ds.length
  ·right;rw [List.drop_eq_getElem_cons hlt] at e
   obtain ⟨ρ1,e5,e6⟩:=bind1 e;obtain ⟨o1,e7,e8⟩:=bind1 e6;refine ⟨⟨hH,by omega⟩,fun σ H=>j+1≤ds.length∧∃F ρ,RS X.K ct F' B' ms F H ρ σ∧forD gg u (ds.drop (j+1)) ρ=some o,fun σ' H' h=>⟨ds.length-(j+1),by omega,rfl,h⟩,fun y H2 yl=>?_⟩;obtain ⟨rfl,b,k,y',rfl,hi,hb⟩:=yl;have hks:j<ks.length:=by rw [hlen,List.length_zip] at hlt; omega
   have hvs:j<vs.length:=by omega
   have hkw:(ks.zip vs)[j]?=some (ks[j],vs[j]):=by rw [List.getElem?_zip_eq_some]; exact ⟨by simp [hks],by simp [hvs]⟩
   rw [hkw] at hi;cases hi;have hdi:ds[j]=.tup (ks[j].map kD):=by
    have:ds[j]?=some (.tup (ks[j].map kD)):=by rw [← hds,List.getElem?_map,List.getElem?_eq_getElem hks]; rfl
    rw [List.getElem?_eq_getElem hlt] at this;exact Option.some.inj this
   rw [hdi] at e5;have x2:=Ext.shT r.fh hb;have r2:=r.ext x2;refine qg F' B' _ _ ρ ρ1 σ (.tup (ks[j].map kD)) (.ref b) _ r2 (show Dt X.K ct _ (.tup (ks[j].map kD)) (.ref b) from .tup upd_same (Dts.of (keys_pr (ct:=ct) (B:=H2) ks[j]))) e5 fun σ' r3=>?_;refine qt1 _ B' _ _ ρ1 σ' o1 _ r3.re e7 ?_;have zz:=OutOk.re r3 (z1.re rs');cases o1 with
   | nx ρ'=>exact fun σ' F' H' q=>⟨hlt,F',ρ',r3.back q,e8⟩
   | ct ρ'=>exact fun σ' F' H' q=>⟨hlt,F',ρ',r3.back q,e8⟩
   | bk ρ'=>cases e8; exact fun σ' F' H' q=>(z1.re rs') σ' F' H' (r3.back q)
   | rt d=>cases e8; exact zz
  ·left;refine ⟨⟨hH,by omega⟩,?_⟩
   rw [List.drop_eq_nil_of_le (by omega)] at e;cases e;exact (z1.re rs') σ F H r
 | _=>cases e4
theorem comp_from {tg':TG} {tt:TT} {te:TE} {H1:Hp} {J:It} {ys:List D} {Q:VK} (ho:om.length=own) (hcap:∀i∈cap,i<ms.length)
  (qg:∀(F0 B F H:Hp) (ρ ρ':Env) (σ:St) (d:D) (v:V) (Q:St→Hp→Prop),RS X.K ct F0 B (om++capsM ms cap) F H ρ σ→Al X.K ct F B n d v→gg d ρ=some ρ'→(∀σ',RS X.K ct F0 B (om++capsM ms cap) F H ρ' σ'→Q σ' H)→tg' v σ H Q)
  (qt:∀(F0 B F H:Hp) (ρ:Env) (σ:St) (b:Bool) (Q:Bool→Hp→Prop),RS X.K ct F0 B (om++capsM ms cap) F H ρ σ→p ρ=some b→(∀F' H',Ext F H F' H'→Q b H')→tt σ H Q)
  (qe:∀(F0 B F H:Hp) (ρ:Env) (σ:St) (d:D) (Q:VK),RS X.K ct F0 B (om++capsM ms cap) F H ρ σ→f ρ=some d→(∀v F' H' fp,Ext F H F' H'→Ow X.K ct F' H' k d v fp→fp.Nodup→(∀a∈fp,H a=none)→Q v H')→te σ H Q)
  (rs1:RS X.K ct F0 B ms F1 H1 ρ σ) (ok:ItOk X.K ct F1 H1 n J ds) (hz:ds.length≤16777216) (h3:compD gg p f (List.replicate own none++capsD ρ cap) ds=some ys) (w:∀v F' H' fp,Ext F1 H1 F' H'→Ow X.K ct F' H' (k+1) (.lst ys) v fp→fp.Nodup→(∀a∈fp,H1 a=none)→Q v H') (A:Addr) (hA:H1 A=none) :
  ∃W:Nat→Nat→List V→Hp→Prop,(∃m,W 0 m [] (upd H1 A (.lst [])))∧∀i m ys H2,W i m ys H2→H2 A=some (.lst ys)∧((J.stop i H2∧Q (.ref A) H2)∨(J.go i H2∧ys.length<sizeLine∧∀x H3,J.yld i H2 x H3→tg' x (List.replicate own none++capsOf σ cap) H3 fun σ2 H4=>tt σ2 H4 fun b H5 =>if b=true then te σ2 H5 fun y H6=>H6 A=some (.lst ys)∧∃m',m'<m∧W (i+1) m' (ys++[y]) (upd H6 A (.lst (ys++[y]))) else ∃m',m'<m∧W (i+1) m' ys H5)):=by
 refine ⟨fun i m us H2=>m=ds.length-i∧i≤ds.length∧us.length≤i∧H2 A=some (.lst us)∧∃F2 yd zd fp,Ext F1 H1 F2 H2∧F2 A=none∧OwL (Ow X.K ct F2 H2 k) yd us fp∧fp.Nodup∧(∀a∈fp,H1 a=none∧a≠A)∧compD gg p f (List.replicate own none++capsD ρ cap) (ds.drop i)=some zd∧yd++zd=ys,
  ⟨ds.length,rfl,Nat.zero_le _,Nat.le_refl _,upd_same,F1,[],ys,[],Ext.newO rs1.fh hA _,rs1.fh.free hA,.nil,List.nodup_nil,fun a z=>(by cases z),h3,rfl⟩,?_⟩
 rintro i m us H2 ⟨rfl,hil,hul,hA2,F2,yd,zd,fp,x2,fA,ol,nd,hf,hcd,hys⟩;refine ⟨hA2,?_⟩;have rs2:=rs1.ext x2;obtain ⟨k1,k2⟩:=ok i F2 H2 x2.ff x2.hh x2.fh;by_cases hlt:i<ds.length
 ·right;have hd:ds[i]?=some ds[i]:=by simp [hlt]
  obtain ⟨go,yl⟩:=k1 _ hd;rw [List.drop_eq_getElem_cons hlt] at hcd;obtain ⟨ρ1,h5,h6⟩:=bind1 hcd;obtain ⟨b,h7,h8⟩:=bind1 h6;refine ⟨go,by rw [sizeLine_eq]; omega,fun x H3 y=>?_⟩;obtain ⟨F3,x3,l⟩:=yl x H3 y;have rs3:=rs2.ext x3;have sl:=SL.nones (ms':=[]) (SL.caps rs3 hcap) (om:=om);rw [ho] at sl;have rsI:RS X.K ct F3 H3 (om++capsM ms cap) F3 H3 (List.replicate own none++capsD ρ cap) (List.replicate own none++capsOf σ cap):=⟨.refl _,.refl _,x3.fh,fun _ _ _ _ h=>h,[],sl,List.nodup_nil,fun a z=>(by cases z)⟩;have A3:H3 A=some (.lst us):=x3.hh _ _ hA2;have fA3:F3 A=none:=x3.nf A _ hA2 nofun fA;refine qg F3 H3 F3 H3 _ ρ1 _ _ x _ rsI (l.mono (.refl _) (x2.trans x3).hh) h5 fun σ1 r1=>?_;refine qt F3 H3 F3 H3 ρ1 σ1 b _ r1 h7 fun F4 H4 x4=>?_;cases b with
  | false =>rw [if_neg Bool.false_ne_true] at h8 ⊢;have x24:=x3.trans x4;refine ⟨ds.length-(i+1),by omega,rfl,hlt,by omega,x4.hh _ _ A3,F4,yd,zd,fp,x2.trans x24,x4.nf A _ A3 nofun fA3,ol.mono fun _ _ _ _ o=>o.ext x24,nd,hf,h8,hys⟩
  | true =>
   rw [if_pos rfl] at h8 ⊢;obtain ⟨yv,h9,h10⟩:=bind1 h8;obtain ⟨zs,h11,h12⟩:=bind1 h10;cases h12;refine qe F3 H3 F4 H4 ρ1 σ1 yv _ (r1.ext x4) h9 fun v F5 H5 f5 x5 o5 n5 hf5=>?_;have x25:=(x3.trans x4).trans x5;have x45:=x4.trans x5;have A5:H5 A=some (.lst us):=x45.hh _ _ A3;have fA5:F5 A=none:=x45.nf A _ A3 nofun fA3;have A4:H4 A=some (.lst us):=x4.hh _ _ A3;have hA5:∀a∈f5,a≠A:=fun a z e=>by rw [e] at z; rw [hf5 A z] at A4; cases A4
   refine ⟨A5,ds.length-(i+1),by omega,rfl,hlt,by rw [List.length_append,List.length_singleton]; omega,upd_same,F5,yd++[yv],zs,fp++(f5++[]),?_,fA5,?_,?_,?_,h11,by rw [List.append_assoc]; exact hys⟩
   ·have x15:=x2.trans x25;refine ⟨x15.ff,fun a o h=>?_,fun a o h=>?_,x15.nf⟩
    ·rw [upd_ne (ne_of_none h hA)]; exact x15.hh _ _ h
    ·rw [upd_ne (fun z=>by rw [z] at h; rw [fA5] at h; cases h)]; exact x15.fh _ _ h
   ·refine (ol.mono fun _ _ f hfi o=>?_).append (.cons ?_ .nil)
    ·refine (o.ext x25).frame (.refl _) fun a z=>⟨upd_ne (hf a (hfi a z)).2,((o.ext x25).cells a z).1⟩
    ·exact o5.frame (.refl _) fun a z=>⟨upd_ne (hA5 a z),(o5.cells a z).1⟩
   ·rw [List.append_nil];refine List.nodup_append.mpr ⟨nd,n5,fun a z c hc e=>?_⟩;subst e;have:∃o,H2 a=some o:=let ⟨o,h,_⟩:=(OwL.cellsOf ol a z).2; ⟨o,h⟩;obtain ⟨o,ho⟩:=this;have:=x4.hh _ _ (x3.hh _ _ ho);rw [hf5 a hc] at this;cases this
   ·intro a z;rw [List.append_nil] at z;rcases List.mem_append.mp z with z | z
    ·exact hf a z
    ·refine ⟨?_,hA5 a z⟩;have x14:=x2.trans (x3.trans x4);exact x14.hh.free (hf5 a z)
 ·left;refine ⟨k2 (by omega),?_⟩
  have:ds.drop i=[]:=List.drop_eq_nil_of_le (by omega);rw [this] at hcd;cases hcd;rw [List.append_nil] at hys;subst hys;refine w _ F2 H2 (A::fp) x2 (.inr (.lst fA hA2 ol)) (List.nodup_cons.mpr ⟨fun z=>(hf A z).2 rfl,nd⟩) fun a z=>?_;rcases List.mem_cons.mp z with rfl | z
  ·exact hA
  ·exact (hf a z).1
theorem vls_ok (hk:ks.length=vs.length) (hp:Pr (Dt K ct F) ds vs) (hh:F a=some (.frz ob (.dT (ks.zip vs)))∨H a=some (.frz ob (.dT (ks.zip vs)))):ItOk K ct F H 0 (Vls a ob (ks.zip vs)) ds:=by
 intro i F' H' s1 s2 s3;have hl:=hp.length;have hz:(ks.zip vs).length=ds.length:=by rw [List.length_zip]; omega
 have hH:H' a=some (.frz ob (.dT (ks.zip vs))):=by
  rcases hh with h | h
  ·exact s3 _ _ (s1 _ _ h)
  ·exact s2 _ _ h
 refine ⟨fun d hd=>⟨⟨hH,?_⟩,fun x H2 y=>?_⟩,fun h=>⟨hH,by omega⟩⟩
 ·obtain ⟨h,_⟩:=List.getElem?_eq_some_iff.mp hd;omega
 ·obtain ⟨rfl,k,hx⟩:=y;refine ⟨F',.refl s3,?_⟩;obtain ⟨v,hv,l⟩:=hp.get' hd;have:=(List.getElem?_zip_eq_some.mp hx).2;rw [hv] at this;cases this;exact (show Dt K ct F d _ from l).mono s1
theorem xo_compZ (i:Nat) {ap cp:Pos}
  (B:BlkOk X scope N own cap) (hc:X.calm=true) (ho:om.length=own) (hcap:∀i∈cap,i<ms.length)
  (hg:∀cl C fp s₀ H₀,XGc (cxB X scope cl N C fp s₀ H₀) ct (om++capsM ms cap) own 0 tg gg) (ht:∀cl C fp s₀ H₀,XTs (cxB X scope cl N C fp s₀ H₀) ct (om++capsM ms cap) ifs p) (he:∀cl C fp s₀ H₀,XO (cxB X scope cl N C fp s₀ H₀) ct (om++capsM ms cap) k elt f)
  (hm:ms[i]?=some (.al 1):=by rfl) (hN:X.N[i]?=some x:=by rfl) (hv:Vis X.env.scope x:=by first | exact Or.inl rfl | exact Or.inr (Or.inl rfl) | exact Or.inr (Or.inr rfl)) (hd:(x == ("__debug__":Str))=false:=by decide)
  (hcd:(x == ("__classdict__":Str))=false:=by decide) (base:attributeBase (.Name x pp) "values" X.env (eval (.Name x pp) X.env)=eval (.Name x pp) X.env:=by rfl) (line:(ap.endLine == cp.line)=true:=by rfl)
  (hs:∀y,foldedSetIterable (.Call (.Attribute (.Name x pp) "values" ap) [] [] cp) X.env y=pure y:=by intro _; rfl):XO X ct ms (k+1) (.ListComp elt [⟨tg,.Call (.Attribute (.Name x pp) "values" ap) [] [] cp,ifs,0⟩] scope pos) (eComp (fun ρ=>(eV i ρ).bind valsD) own cap gg p f):=by
 obtain ⟨tg',pg,kg,qg⟩:=fam_g (K:=X.K) (Xs:=fun z:List (Str×Addr)×Addr×List Addr×Shared×Hp=>cxB X scope z.1 N z.2.1 z.2.2.1 z.2.2.2.1 z.2.2.2.2) (fun _=>rfl) (fun z=>hg z.1 z.2.1 z.2.2.1 z.2.2.2.1 z.2.2.2.2);obtain ⟨tt,pt,qt⟩:=fam_t (K:=X.K) (Xs:=fun z:List (Str×Addr)×Addr×List Addr×Shared×Hp=>cxB X scope z.1 N z.2.1 z.2.2.1 z.2.2.2.1 z.2.2.2.2) (fun _=>rfl) (fun z=>ht z.1 z.2.1 z.2.2.1 z.2.2.2.1 z.2.2.2.2);obtain ⟨te,pe,qe⟩:=fam_o (K:=X.K) (Xs:=fun z:List (Str×Addr)×Addr×List Addr×Shared×Hp=>cxB X scope z.1 N z.2.1 z.2.2.1 z.2.2.2.1 z.2.2.2.2) (fun _=>rfl) (fun z=>he z.1 z.2.1 z.2.2.1 z.2.2.2.1 z.2.2.2.2);refine ⟨_,pe_thaw (pe_comp B hc (pi_vals (pe_var hN hv hd hcd) base line) kg (fun cl C fp s₀ H₀=>pg (cl,C,fp,s₀,H₀)) (fun cl C fp s₀ H₀=>pt (cl,C,fp,s₀,H₀)) (fun cl C fp s₀ H₀=>pe (cl,C,fp,s₀,H₀)) hs),fun F0 B F H ρ σ r Q rs e w=>?_⟩;obtain ⟨ds,e1,e2⟩:=bind1 e;by_cases hz:ds.length≤16777216
 case neg=>rw [if_neg hz] at e2; cases e2
 rw [if_pos hz] at e2;obtain ⟨ys,h3,h4⟩:=bind1 e2;cases h4;obtain ⟨d,e3,e4⟩:=bind1 e1;cases d with
 | dT ks ds' =>
  by_cases hl:ks.length=ds'.length
  case neg=>rw [show valsD (.dT ks ds')=if ks.length=ds'.length then _ else _ from rfl,if_neg hl] at e4; cases e4
  rw [show valsD (.dT ks ds')=if ks.length=ds'.length then _ else _ from rfl,if_pos hl] at e4;cases e4;refine walk_in (J:=Vls) (x:=x) rs hm (join_some e3) _ (fun v Q h1 h2=>⟨v,h1,h2⟩) fun a vs ob F0' B' F' H' rs' hh hk hp alt A hA=>?_;have hH:F' a=some (.frz ob (.dT (ks.zip vs)))∨H' a=some (.frz ob (.dT (ks.zip vs))):=by
   rcases hh with h | h
   ·exact .inl h
   ·exact .inr (rs'.bh _ _ h)
  refine comp_from (Q:=fun v=>thw X (Q v)) ho hcap qg qt qe rs' (vls_ok hk hp hH) hz h3 (fun v F2 H2 fp x2 ow nd hf=>?_) A hA;have hHa:H' a=some (.frz ob (.dT (ks.zip vs))):=by
   rcases hH with h | h
   ·exact rs'.fh _ _ h
   ·exact h
  rcases alt with ⟨rfl,rfl,rfl,rfl⟩ | ⟨hF,hB,hold,nf,rfl,rfl,rfl,rfl,hHd⟩
  ·exact .inl (w v F2 H2 fp x2 ow nd hf)
  ·have r2:=rs'.ext x2;obtain ⟨hHa2,q⟩:=un_zz hF hB hold r2;have na:a∉fp:=fun m=>by rw [hf a m] at hHa; cases hHa
   have okH:Okz a (ks.zip vs) H2:=fun u e=>by rw [hHa2] at e; cases e; exact .inr ⟨_,rfl⟩
   refine .inr ⟨a,ob,_,hHa2,nf,w v (fzH a (.dT (ks.zip vs)) F2) _ fp ?_ ?_ nd fun b m=>?_⟩
   ·have z1:=Same.zz (a:=a) (u:=.dT (ks.zip vs)) x2.ff;have z2:=Same.zz (a:=a) (u:=.dT (ks.zip vs)) x2.hh;have z3:=Same.zz (a:=a) (u:=.dT (ks.zip vs)) x2.fh;rw [fz_two,fz_id hF] at z1;rw [← fz_upd (F:=H) (by rw [hHd]; nofun),fz_two,fz_id (.inl hHd),fz_upd (F:=H2) (by rw [hHa2]; nofun)] at z2;rw [fz_upd (F:=H2) (by rw [hHa2]; nofun)] at z3;refine ⟨z1,z2,z3,fun b o hb nt hn=>fz_none.mpr ?_⟩;by_cases eb:b=a
    ·subst eb;exact x2.nf b _ upd_same nofun (fz_none.mpr hn)
    ·exact x2.nf b o (by rw [upd_ne eb]; exact hb) nt (fz_none.mpr hn)
   ·have:=ow.zz (okH.sub x2.fh) (.inl rfl) na;rw [fz_upd (F:=H2) (by rw [hHa2]; nofun)] at this;exact this
   ·have h1:=hf b m;have h2:b≠a:=fun z=>na (z ▸ m);rw [upd_ne h2] at h1;exact h1
 | _=>cases e4
end
def lenT:List D→Option D
 | [.dT ks ds]=>if ks.length=ds.length then some (.int ks.length) else none
 | _=>none
def rLenT:List V→Hp→VK→Prop:=fun xs H Q=>∃a kvs,xs=[V.ref a]∧Rd H a (.dT kvs)∧Q (.int kvs.length) H
theorem raw_len {w:World} {A:Around} {E:Value→Shared→Prop} {s:Shared} {d:Addr} {o:Obj} {es:Array DictEntry} {ep:Nat} {Q:Value→Shared→Prop} (hd:(d == sysModules)=false) (rd:RawD d o es ep s.heap) (hfit:(es.size:Int)<2 ^ 63)
  (h:Q (.int es.size (s.toks+1)) { s with toks:=s.toks+1+1 }):wpAny (model P w) A (call (.builtin "len") [.ref d]) Q E s:=by
 have ty:s.TypeIs (.ref d) "dict":=⟨o,rd.1,rd.2.1⟩;refine Calls.call_function_entry kind_len plain_len entry_len (args_len1 _) ?_;unfold Builtin.«len»;refine wpAny_bind (m:=callSpecial? (.ref d) (Str.ofString "__len__")) (wpAny_callSpecial?_slot (name:=Str.ofString "__len__") ty F.slot_dict_len
  (call_meetsIn (S:=fun _ R s=>RawD d o es ep s.heap∧R (.ok (.ret (.int es.size s.toks))) { s with toks:=s.toks+1 }) F.slot_dict_len ty F.entry_dict_len (F.args_dict_len_1 _) (.of_wp fun A R s ⟨rd,h⟩=>?_) ⟨rd,?_⟩))
 ·show wpAny _ _ (dictSize d >>= _) _ _ s;unfold dictSize;refine wpAny_bind (wpAny_bind (wpAny_dictEntries rd.1 rd.2.2 (wpAny_pure ?_)));show wpAny _ _ (Builtin.Dict.pendingCount d >>= _) _ _ s;refine wpAny_bind (wpAny_pendingCount_other hd ?_);refine wpAny_ret_mkInt ?_;rw [Nat.add_zero]; exact h
 ·show wpAny _ _ _ _ _ { s with toks:=s.toks+1 };refine wpAny_bind (wpAny_holding (wpAny_pure ?_));refine wpAny_bind (wpAny_letGo ?_);show wpAny _ _ (if ((es.size:Nat):Int)<0 then _ else _) _ _ _;rw [if_neg (by omega)];show wpAny _ _ (if ((es.size:Nat):Int) ≥ 2 ^ 63 then _ else _) _ _ _;rw [if_neg (by omega)];exact wpAny_bind (wpAny_mkInt (wpAny_pure ⟨_,rfl,h⟩))
theorem call_lenT:CallR X (.builtin "len") rLenT:=by intro pins s σ H xs us Q I r h;obtain ⟨a,kvs,rfl,ha,q⟩:=h;obtain ⟨u,rfl,ru⟩:=vals1 r;cases ru;obtain ⟨ns,hle,o,es,ep,rd,hz,_⟩:=dt_raw I.hok ha;refine raw_len ns rd (by rw [hz]; rw [sizeLine_eq] at hle; omega) ?_;rw [hz];exact ⟨.int kvs.length,H,I.tok _,⟨_,rfl⟩,q⟩
theorem opn_lenT:OpN K ct [n] k rLenT lenT:=by
 intro F H vs ds d Q s l e w;cases l with
 | cons h t =>
  cases t;rename_i d1 v;cases d1 with
  | dT ks ds =>obtain ⟨a,us,rfl,ha,hl,hp⟩:=h.dT s;have hd:ks.length=ds.length:=hl.trans hp.length.symm;unfold lenT at e;dsimp only at e;rw [if_pos hd] at e;cases e;refine ⟨a,_,rfl,ha,?_⟩;rw [List.length_zip,show min ks.length us.length=ks.length by omega];exact w _ F H (.refl s) (Al.of (.int _))
  | _=>cases e
def isiTD:D→Option D
 | .dT ks ds=>if ks.length=ds.length then some (.bl true) else none
 | _=>none
theorem call_isiTD:CallR X (.builtin "isinstance") (fun xs H Q=>∃a kvs,xs=[.ref a,.ty "dict"]∧Rd H a (.dT kvs)∧Q (.bl true) H):=by intro pins s σ H xs us Q I r h;obtain ⟨a,kvs,rfl,ha,q⟩:=h;obtain ⟨u,w',rfl,ru,rw'⟩:=vals2 r;cases (show w'=Value.type "dict" from rw');cases (show u=Value.ref a from ru);obtain ⟨ns,hle,o,es,ep,rd,hz,_⟩:=dt_raw I.hok ha;exact PySem.W.kia_one PySem.W.kitx_dict I.kIn ⟨o,rd.1,rd.2.1⟩ (kit_one "dict" (by decide) "dict" (by decide)) (fun z=>nomatch z) fun tk=>⟨.bl _,H,I.tok tk,rfl,q⟩
theorem xe_isiT (hm:X.mg "isinstance"=none) (hm2:X.mg "dict"=none) (hb:bootBuiltins "dict"=some (.type "dict")) (he:XE X ct ms n e f) (hg:Gl X "isinstance":=by rfl) (hg2:Gl X "dict":=by rfl)
  (hs1:starEach [e,.Name "dict" p2] X.env=(false,eval e X.env)::starEach [.Name "dict" p2] X.env:=by rfl) (hs2:starEach [.Name "dict" p2] X.env=(false,eval (.Name "dict" p2) X.env)::starEach [] X.env:=by rfl) (hpl:(backTo pos (starEach [.Name "dict" p2] X.env)).any (·.1)=false:=by rfl) :
  XE X ct ms k (.Call (.Name "isinstance" pp) [e,.Name "dict" p2] [] pos) (e1 isiTD f):=by
 obtain ⟨t,pt,qt⟩:=he;refine ⟨_,pe_callB call_isiTD hg hm bt_isinstance (pa_cons pt (pa_cons (pe_bltn (v:=.ty "dict") hg2 hm2 hb rfl (by decide) (by decide)) pa_nil hs2) hs1) (by decide) (by decide) hs1 hpl,fun F0 B F H ρ σ d Q rs e w=>?_⟩;obtain ⟨d1,h1,h2⟩:=bind1 e;cases d1 with
 | dT ks ds =>refine qt F0 B F H ρ σ _ _ rs h1 fun v F' H' x l=>?_;obtain ⟨a,us,rfl,ha,hl,hp⟩:=l.dT x.fh;have hd:ks.length=ds.length:=hl.trans hp.length.symm;have h2:(if ks.length=ds.length then some (D.bl true) else none)=some d:=h2;rw [if_pos hd] at h2;cases h2;exact ⟨a,_,rfl,ha,w _ F' H' x (Al.of (.bl _))⟩
 | _=>cases h2
section
open PySem PySem.Spec PySem.W L2
open PyProof.Rows hiding St
section
variable {K:Frag} {h:Heap} {q m:Str} {f N:Addr} {kwV pm ct:Value} {dd:Option Addr} {fd:FuncData} {ds:List Value} {o:Obj} {p:Nat}
theorem m_bd (m j:Nat) (hm:m+vs.length=ps.length) (hd:fd.defaults=.ref T) (ho:K.lookup T=some o) (hs:o.data=.seq items n) (hv:Vals vs (items.toList.drop j)) (h:∀us:List Value,us.length=m→∃k,bindArgs fd ⟨us,[]⟩=seqItems? fd.defaults >>= k∧k (some items)=pure (ps.zip (us++items.toList.drop j))) :
  ∃dsv,True∧Vals vs dsv∧Binds K fd ps dsv:=⟨_,trivial,hv,binds_e m ho h hd hs (by rw [← hv.length]; exact hm)⟩
end
theorem m_al0 {P:Nat→Prop}:∀c∈([]:List Nat),P c:=fun _ h=>nomatch h
theorem m_al1 {P:Nat→Prop} {x:Nat} {xs:List Nat} (h:P x) (t:∀c∈xs,P c):∀c∈x::xs,P c:=fun c hc=>by
 rcases List.mem_cons.mp hc with rfl | hc
 ·exact h
 ·exact t c hc
end
section
open PySem PySem.Spec PySem.W L2
open PyProof.Rows hiding St
section
variable {K:Frag} {h:Heap} {q m:Str} {f N B:Addr} {kwV pm ct:Value} {dd:Option Addr} {fd:FuncData} {ds:List Value} {o:Obj} {p:Nat}
theorem zC (X:K.In h:=by assumption) (G:h.Ns mainGlobals mg:=by assumption) (a:nsIn K mainGlobals x=some (some (.ref C)):=by k_is) (b:makesIn K C=true:=by k_is) (k:keepIn K (.ref C)=true:=by k_is)
  (q1:plainGet K C Str.empty=true:=by k_is) (q2:hasDictIn K C=true:=by k_is) (q3:plainOver K C=true:=by k_is) (q4:findIn K (.ref C) "__setattr__"=some (some (.builtin "object.__setattr__")):=by k_is):Dc K mg x C:=⟨⟨q1,q2,q3,q4⟩,mg_of X G a,b,k⟩
theorem zB (X:K.In h:=by assumption) (G:h.Ns mainGlobals mg:=by assumption) (e:nsIn K mainGlobals x=some none:=by k_is):mg x=none:=mg_none_of X G e
theorem zG {i:Int} {t:Tok} (X:K.In h:=by assumption) (G:h.Ns mainGlobals mg:=by assumption) (e:nsIn K mainGlobals x=some (some (.int i t)):=by k_is):∃t,mg x=some (.int i t):=⟨t,mg_of X G e⟩
theorem zD (X:K.In h:=by assumption) (G:h.Ns mainGlobals mg:=by assumption) (a:nsIn K mainGlobals x=some (some (.ref f)):=by k_is) (l:K.lookup f=some ⟨oc,od,.func (fnOf x x (defArgs st) (defBody st) (defScope st) dV kwV doc pm an cdv ct),osl⟩:=by k_is)
  (c:codeIn K cdv x=true:=by k_is) (k:keepIn K (.ref f)=true:=by k_is) (b:Binds K (fnOf x x (defArgs st) (defBody st) (defScope st) dV kwV doc pm an cdv ct) ps []:=by exact .all (by first | exact L3.lA1 fun _=>rfl | exact L3.lA2 fun _ _=>rfl | exact L3.lA3 fun _ _ _=>rfl | exact L3.lA4 fun _ _ _ _=>rfl | exact L3.lA5 fun _ _ _ _ _=>rfl | exact L3.lA6 fun _ _ _ _ _ _=>rfl)):Dn2 K mg x st ps f (fnOf x x (defArgs st) (defBody st) (defScope st) dV kwV doc pm an cdv ct):=⟨fun2_mk l c k,mg_of X G a,b⟩
theorem zM (a:findIn K (.ref C) m=some (some (.ref f)):=by k_is) (i:isFn K (.ref f)=true:=by k_is) (l:K.lookup f=some ⟨oc,od,.func (fnOf m q (defArgs st) (defBody st) (defScope st) dV kwV doc pm an cdv ct),osl⟩:=by k_is)
  (c:codeIn K cdv q=true:=by k_is) (k:keepIn K (.ref f)=true:=by k_is) (b:Binds K (fnOf m q (defArgs st) (defBody st) (defScope st) dV kwV doc pm an cdv ct) ps []:=by exact .all (by first | exact L3.lA1 fun _=>rfl | exact L3.lA2 fun _ _=>rfl | exact L3.lA3 fun _ _ _=>rfl | exact L3.lA4 fun _ _ _ _=>rfl | exact L3.lA5 fun _ _ _ _ _=>rfl | exact L3.lA6 fun _ _ _ _ _ _=>rfl)):Dm K C m q st ps f (fnOf m q (defArgs st) (defBody st) (defScope st) dV kwV doc pm an cdv ct):=⟨fun2_mk l c k,⟨a,i,k⟩,b⟩
theorem zE (m:Nat) (h:∀us:List Value,us.length=m→∃k,bindArgs fd ⟨us,[]⟩=seqItems? fd.defaults >>= k∧k (some items)=pure (ps.zip (us++ds))) (hm:m+ds.length=ps.length:=by rfl) (hd:fd.defaults=.ref T:=by rfl) (ho:K.lookup T=some o:=by k_is) (hs:o.data=.seq items n:=by rfl):Binds K fd ps ds:=binds_e m ho h hd hs hm
theorem zF {ct:Nat→Addr} {is:List Nat} (t:∀c∈is,Cls K (ct c)∧NoAttr K (ct c) x) (q1:plainGet K (ct i) Str.empty=true:=by k_is) (q2:hasDictIn K (ct i)=true:=by k_is) (q3:plainOver K (ct i)=true:=by k_is) (q4:findIn K (.ref (ct i)) "__setattr__"=some (some (.builtin "object.__setattr__")):=by k_is) (q5:findIn K (.ref (ct i)) x=some none:=by k_is):∀c∈i::is,Cls K (ct c)∧NoAttr K (ct c) x:=m_al1 ⟨⟨q1,q2,q3,q4⟩,q5⟩ t
theorem zI {ct:Nat→Addr} {S:List Nat} {is:List Nat} (t:∀c∈is,Ic K (ct c)∧kitOne K (.ref (ct c)) (.ref B)=some (List.contains S c)) (q1:plainGet K (ct i) Str.empty=true:=by k_is) (q2:hasDictIn K (ct i)=true:=by k_is) (q3:plainOver K (ct i)=true:=by k_is) (q4:findIn K (.ref (ct i)) "__setattr__"=some (some (.builtin "object.__setattr__")):=by k_is)
  (q5:findIn K (.ref (ct i)) "__class__"=some (some (.builtin "object.__class__")):=by k_is) (q6:specialIn K (.builtin "object.__class__") "__get__"=some (some (.builtin "getset_descriptor.__get__")):=by k_is) (q7:takesIn K (.builtin "object.__class__")=some true:=by k_is) (q8:mroIn K (ct i) (.type "object")=some true:=by k_is) (qa:kitOne K (.ref (ct i)) (.ref B)=some (List.contains S i):=by kit_is):∀c∈i::is,Ic K (ct c)∧kitOne K (.ref (ct c)) (.ref B)=some (List.contains S c):=m_al1 ⟨⟨⟨q1,q2,q3,q4⟩,q5,q6,q7,q8⟩,qa⟩ t
end
end
section
variable {fd:FuncData}
theorem xv {o:Mo} (hm:ms[i]?=some o:=by rfl) (hl:o.lv=n:=by rfl) (hN:X.N[i]?=some x:=by rfl) (hv:Vis X.env.scope x:=by first | exact Or.inl rfl | exact Or.inr (Or.inl rfl) | exact Or.inr (Or.inr rfl)) (hd:(x == ("__debug__":Str))=false:=by decide)
  (hcd:(x == ("__classdict__":Str))=false:=by decide):XE X ct ms n (.Name x pos) (eV i):=xe_var i n hm hl hN hv hd hcd
theorem tEq (hr:Room kq X.A) (ha:XE X ct ms n a f) (hb:XE X ct ms m b g):XT X ct ms (.Compare a [.Eq] [b] pos) (tb (e2 (eqD false) f g)):=xt_cmp (k:=0) (op_eqD hr.u64) op2_eq ha hb (nomark _)
theorem tNe (hr:Room kq X.A) (ha:XE X ct ms n a f) (hb:XE X ct ms m b g):XT X ct ms (.Compare a [.NotEq] [b] pos) (tb (e2 (eqD true) f g)):=xt_cmp (k:=0) (op_neD hr.u64) op2_eq ha hb (nomark _)
theorem vEq (hr:Room kq X.A) (ha:XE X ct ms n a f) (hb:XE X ct ms m b g):XE X ct ms 0 (.Compare a [.Eq] [b] pos) (e2 (eqD false) f g):=xe_cmp (k:=0) (op_eqD hr.u64) op2_eq ha hb (nomark _)
theorem tLt (ha:XE X ct ms n a f) (hb:XE X ct ms m b g):XT X ct ms (.Compare a [.Lt] [b] pos) (tb (e2 ltD f g)):=xt_cmp (k:=0) op_lt op2_lt ha hb (nomark _)
theorem tGt (ha:XE X ct ms n a f) (hb:XE X ct ms m b g):XT X ct ms (.Compare a [.Gt] [b] pos) (tb (e2 gtD f g)):=xt_cmp (k:=0) op_gt op2_gt ha hb (nomark _)
theorem tGe (ha:XE X ct ms n a f) (hb:XE X ct ms m b g):XT X ct ms (.Compare a [.GtE] [b] pos) (tb (e2 geD f g)):=xt_cmp (k:=0) op_ge op2_ge ha hb (nomark _)
theorem tIs (ha:XE X ct ms n a f) (hb:XE X ct ms m b g):XT X ct ms (.Compare a [.Is] [b] pos) (tb (e2 (isD false) f g)):=xt_cmp (k:=0) op_is op2_is ha hb (nomark _)
theorem tNi (ha:XE X ct ms n a f) (hb:XE X ct ms m b g):XT X ct ms (.Compare a [.IsNot] [b] pos) (tb (e2 (isD true) f g)):=xt_cmp (k:=0) op_isNot op2_isNot ha hb (nomark _)
theorem vLe (ha:XE X ct ms n a f) (hb:XE X ct ms m b g):XE X ct ms 0 (.Compare a [.LtE] [b] pos) (e2 leD f g):=xe_cmp (k:=0) op_leA op2_leA ha hb (nomark _)
theorem vNi (ha:XE X ct ms n a f) (hb:XE X ct ms m b g):XE X ct ms 0 (.Compare a [.IsNot] [b] pos) (e2 (isD true) f g):=xe_cmp (k:=0) op_isNot op2_isNot ha hb (nomark _)
theorem oSub (ha:XE X ct ms n a f) (hb:XE X ct ms m b g):XE X ct ms 0 (.BinOp a .Sub b pos) (e2 subD f g):=xe_op (k:=0) op_sub op2_sub ha hb
theorem oDiv (ha:XE X ct ms n a f) (hb:XE X ct ms m b g):XE X ct ms 0 (.BinOp a .FloorDiv b pos) (e2 fdivD f g):=xe_op (k:=0) op_fdivS op2_fdiv ha hb
theorem oMod (ha:XE X ct ms n a f) (hb:XE X ct ms m b g):XE X ct ms 0 (.BinOp a .Mod b pos) (e2 modD f g):=xe_op (k:=0) op_modN op2_mod ha hb
theorem oMul (ha:XE X ct ms n a f) (hb:XE X ct ms m b g):XE X ct ms 0 (.BinOp a .Mult b pos) (e2 mulI f g):=xe_op (k:=0) op_mulS op2_mulI ha hb
theorem osh (h:XO X ct ms k e f):XE X ct ms 0 e f:=XO.sh h
theorem xc (d:Dn2 X.K X.mg x st ps fa fd) (Fn:FnOk X.prog X.w X.K X.mg X.base CX0 kk fa fd ps (LSp X.K ct ns rk mf)) (hr:Room kq X.A) (ha:XA X ct ms (e::es) ns fs) (hle:kk≤kq:=by decide) (hg:Gl X x:=by rfl)
  (hdb:(x == ("__debug__":Str))=false:=by decide) (he:starEach (e::es) X.env=(false,eval e X.env)::starEach es X.env:=by rfl) (hpl:(backTo pos (starEach es X.env)).any (·.1)=false:=by rfl) :
  XE X ct ms 0 (.Call (.Name x pp) (e::es) [] pos) (fun ρ=>(fs ρ).bind fun ds=>mf (ds++[])):=osh (xo_c d Fn hr ha hle hg hdb he hpl)
theorem fl0 (he:XE X ct ms 0 e f) (hc:∀c∈cs,Cls X.K (ct c)∧NoAttr X.K (ct c) x) (hb:attributeBase e x X.env (eval e X.env)=eval e X.env:=by rfl):XE X ct ms 0 (.Attribute e x pos) (e1 (fldD cs x) f):=xe_fld (n:=0) he hc hb
theorem ix1 (ha:XE X ct ms 1 a f) (hb:XE X ct ms m b g) (hp:PlainIx b:=by exact fun _ _=>rfl):XE X ct ms 0 (.Subscript a b pos) (e2 ixD f g):=xe_ix (n:=1) ix_seq op2_ix ha hb hp
theorem xgl {i:Int} (hm:∃t,X.mg x=some (.int i t)) (hg:Gl X x:=by rfl) (hd:(x == ("__debug__":Str))=false:=by decide):XE X ct ms 0 (.Name x pos) (eC (.int i)):=hm.elim fun _ h=>xe_glob hg h rfl ⟨_,rfl⟩ hd
theorem xF (hi:XI X ct ms n tg iter fi) (hg:XG X ct ms n tg gg) (hb:XSs X ct ms rk rest u) (hp:PassesOwn (model X.prog X.w) X.A X.env X.xe:=by exact PassesOwn.never) (hc:X.calm=true:=by rfl)
  (hs:∀x,foldedSetIterable iter X.env x=pure x:=by intro _; rfl):XS X ct ms rk (.For tg iter rest [] pos) (sFor fi gg u):=xs_for hi hg hb hp hc hs
theorem xWh (hc:XT X ct ms c p) (hb:XSs X ct ms rk rest u) (hp:PassesOwn (model X.prog X.w) X.A X.env X.xe:=by exact PassesOwn.never):XS X ct ms rk (.While c rest [] pos) (sWhile p u):=xs_while hc hb hp
theorem xrt (he:XE X ct ms 0 e f):XS X ct ms 0 (.Return (some e) pos) (sRet f):=xs_ret (XE.ow he)
theorem xsE (hN:X.N.Nodup) (he:XE X ct ms 0 e f) (hm:ms[i]?=some (.ow 0):=by rfl) (hi:X.N[i]?=some x:=by rfl) (hx:Loc X.env.scope x:=by first | exact Or.inl rfl | exact Or.inr rfl)
  (hs:swapsWith e (some (.Name x pos')) pos.line X.env=pure false:=by rfl)
  (hf:X.fn x=true∨X.env.scope.names.lookup x=some .local:=by first | exact .inl rfl | exact .inr rfl | assumption):XS X ct ms rk (.Assign [.Name x pos'] e pos) (sSet i f):=xsS hN (XE.ow he) hm hi hx hs hf
theorem xi1 (ht:XT X ct ms c p) (h:XS X ct ms rk st u):XS X ct ms rk (.If c [st] [] pos) (sIf p u sSkip):=xs_if ht (xss_one h) xss_nil
theorem xcp (hi:XIc X ct ms n tg iter fi)
  (hg:∀cl C fp s₀ H₀,N.Nodup→XGc (cxB X scope cl N C fp s₀ H₀) ct (om++capsM ms cap) own n tg gg) (ht:∀cl C fp s₀ H₀,XTs (cxB X scope cl N C fp s₀ H₀) ct (om++capsM ms cap) ifs p) (he:∀cl C fp s₀ H₀,XO (cxB X scope cl N C fp s₀ H₀) ct (om++capsM ms cap) k elt f)
  (nd:N.Nodup:=by decide +kernel) (B:BlkOk X scope N own cap:=by exact blk_of (by rfl)) (hc:X.calm=true:=by rfl) (ho:om.length=own:=by rfl) (hcap:∀i∈cap,i<ms.length:=by decide)
  (hs:∀x,foldedSetIterable iter X.env x=pure x:=by intro _; rfl):XO X ct ms (k+1) (.ListComp elt [⟨tg,iter,ifs,0⟩] scope pos) (eComp fi own cap gg p f):=xo_comp B hc ho hcap hi (fun cl C fp s₀ H₀=>hg cl C fp s₀ H₀ nd) ht he hs
theorem xcs {spos:Pos} (hN:X.N.Nodup) (hi:XIc X ct ms n tg iter fi)
  (hg:∀cl C fp s₀ H₀,N.Nodup→XGc (cxB X scope cl N C fp s₀ H₀) ct (om++capsM ms cap) own n tg gg) (ht:∀cl C fp s₀ H₀,XTs (cxB X scope cl N C fp s₀ H₀) ct (om++capsM ms cap) ifs p) (he:∀cl C fp s₀ H₀,XO (cxB X scope cl N C fp s₀ H₀) ct (om++capsM ms cap) (k-1) elt f)
  (nd:N.Nodup:=by decide +kernel) (hm:ms[i]?=some (.ow k):=by rfl) (hi2:X.N[i]?=some x:=by rfl) (hx:Loc X.env.scope x:=by first | exact Or.inl rfl | exact Or.inr rfl)
  (B:BlkOk X scope N own cap:=by exact blk_of (by rfl)) (hc:X.calm=true:=by rfl) (ho:om.length=own:=by rfl) (hcap:∀i∈cap,i<ms.length:=by decide)
  (hsw:swapsWith (.ListComp elt [⟨tg,iter,ifs,0⟩] scope pos) (some (.Name x pos')) spos.line X.env=pure true:=by rfl)
  (hs:∀x,foldedSetIterable iter X.env x=pure x:=by intro _; rfl) (hf:X.fn x=true∨X.env.scope.names.lookup x=some .local:=by first | exact .inl rfl | exact .inr rfl | assumption) :
  XS X ct ms rk (.Assign [.Name x pos'] (.ListComp elt [⟨tg,iter,ifs,0⟩] scope pos) spos) (sSet i (eComp fi own cap gg p f)):=xs_compSet hm hN hi2 hx B hc ho hcap hi (fun cl C fp s₀ H₀=>hg cl C fp s₀ H₀ nd) ht he hsw hs hf
theorem xmk {q:Str} (M:Dc X.K X.mg x (ct c0)) (d:Dm X.K (ct c0) "__init__" q st ps fa fd) (Fn:FnOk X.prog X.w X.K X.mg X.base CX0 kk fa fd ps (ISp X.K ct cs ns mi)) (hr:Room kq X.A) (ha:XA X ct ms (e::es) ns fs) (hcs:c0∈cs:=by decide) (hle:kk+1≤kq:=by decide) (hg:Gl X x:=by rfl)
  (hdb:(x == ("__debug__":Str))=false:=by decide) (he:starEach (e::es) X.env=(false,eval e X.env)::starEach es X.env:=by rfl) (hpl:(backTo pos (starEach es X.env)).any (·.1)=false:=by rfl) :
  XO X ct ms 1 (.Call (.Name x pp) (e::es) [] pos) (fun ρ=>(fs ρ).bind fun ds=>mi c0 (ds++[])) :=
 xo_make (ns:=ns) (nd:=[]) (dds:=[]) ⟨M.mks,d.me.at_,d.me.fn,M.kp⟩ hcs (by rw [List.append_nil]; exact Fn) (hr.mono hle) hg M.mgx d.bd .nil (fun _ _=>.nil) ha hdb he hpl
end
section
variable {w:World} {N0:Str} {fd:FuncData}
theorem lf (Fn:Fun2 K x qual st fa fd) (body:∀(cdv:Value) (A:Around) (outer:List PySem.Env) (s:Shared) (H:Hp) (E:XK),Room kk (A.deeper (envOfC qual (defScope st) s.heap.objs.size fa cdv))→N.Nodup→XSs (cxOf CX0 P w K mg base N qual (defScope st) fa cdv A outer s H E).nox ct ms rk (defBody st) bf)
  (S:FnScope N ps (defScope st):=by exact ⟨rfl,rfl,rfl,by decide +kernel,rfl,by decide +kernel,by decide +kernel⟩)
  (hpm:pm.length=ps.length:=by rfl) (hms:ms.length=N.length:=by rfl) (hle:ps.length≤N.length:=by decide) (hmo:∀(i n:Nat),pm[i]?=some n→ms[i]?=some (Mo.al n)∨(n=0∧ms[i]?=some (Mo.ow 0)):=by exact modes_of (by decide)) :
  FnOk P w K mg base CX0 (kk+1) fa fd ps (LSp K ct pm rk (mOf N bf)):=lift Fn S hpm hms hle hmo fun a b c d e f g=>body a b c d e f g S.nd
theorem lfi (Fn:Fun2 K x qual st fa fd) (body:∀(x:Addr) (cdv:Value) (A:Around) (outer:List PySem.Env) (s:Shared) (H:Hp) (E:XK),Room kk (A.deeper (envOfC qual (defScope st) s.heap.objs.size fa cdv))→(N0::N).Nodup→XSs (cxOf CX0 P w K mg base (N0::N) qual (defScope st) fa cdv A outer s H E).nox ct (.so x::ms) rk (defBody st) bf)
  (S:FnScope (N0::N) ps (defScope st):=by exact ⟨rfl,rfl,rfl,by decide +kernel,rfl,by decide +kernel,by decide +kernel⟩)
  (hpm:pm.length+1=ps.length:=by rfl) (hms:ms.length=N.length:=by rfl) (hle:pm.length≤N.length:=by decide) (hmo:∀(i n:Nat),pm[i]?=some n→ms[i]?=some (Mo.al n)∨(n=0∧ms[i]?=some (Mo.ow 0)):=by exact modes_of (by decide)) :
  FnOk P w K mg base CX0 (kk+1) fa fd ps (ISp K ct cs pm (iOf (N0::N) bf)):=lift_init Fn S hpm hms hle hmo fun x a b c d e f g=>body x a b c d e f g S.nd
end
end L3
namespace My
open PySem L2 L3
def top (i:Nat):Stmt:=PySem.Challenge.pw_ringbeat_k71_steps_by_arrows.main.body.getD i (.Pass ⟨0,0,0,0⟩)
abbrev s_Arrow___init:Stmt:=inClass (top 12) 0
abbrev s_Ride___init:Stmt:=inClass (top 13) 0
abbrev s_Wait___init:Stmt:=inClass (top 14) 0
abbrev s_Back___init:Stmt:=inClass (top 15) 0
abbrev s_is_letter:Stmt:=top 22
abbrev s_is_figure:Stmt:=top 23
abbrev s_is_name:Stmt:=top 24
abbrev s_are_names:Stmt:=top 25
abbrev s_lies_within:Stmt:=top 26
abbrev s_is_right:Stmt:=top 27
abbrev s_placed_goings:Stmt:=top 28
abbrev s_Net___init:Stmt:=inClass (top 31) 0
abbrev s_Net_order:Stmt:=inClass (top 31) 3
abbrev s_later:Stmt:=top 6
abbrev s_latest:Stmt:=top 7
abbrev s_sums_within_round:Stmt:=top 9
abbrev s_steps:Stmt:=top 10
abbrev s_law_cell_at:Stmt:=top 33
abbrev s_law_whole:Stmt:=top 34
abbrev s_law_mixed:Stmt:=top 35
abbrev s_law_turned:Stmt:=top 36
abbrev s_law_part:Stmt:=top 37
abbrev s_law_arrow:Stmt:=top 38
abbrev s_law_due:Stmt:=top 39
abbrev s_law_right:Stmt:=top 40
abbrev s_law_layers:Stmt:=top 41
abbrev s_law:Stmt:=top 42
structure Adr where
 b:Addr
 c:Addr
 d:Addr
 e:Addr
 f:Addr
 g:Addr
 h:FuncData
 i:Addr
 j:FuncData
 k:Addr
 l:FuncData
 m:Addr
 n:FuncData
 o:Addr
 p:FuncData
 q:Addr
 r:FuncData
 s:Addr
 t:FuncData
 u:Addr
 v:FuncData
 x:Addr
 y:FuncData
 z:Addr
 aa:FuncData
 ab:Addr
 ac:FuncData
 ad:Addr
 ae:FuncData
 af:Addr
 ag:FuncData
 ah:Addr
 ai:FuncData
 aj:Addr
 ak:FuncData
 al:Addr
 am:FuncData
 an:Addr
 ao:FuncData
 ap:Addr
 aq:FuncData
 ar:Addr
 au:FuncData
 av:Addr
 aw:FuncData
 ax:Addr
 ay:FuncData
 az:Addr
 aA:FuncData
 aB:Addr
 aC:FuncData
 aD:Addr
 aE:FuncData
 aF:Addr
 aG:FuncData
 aH:Addr
 aI:FuncData
 aJ:Addr
 aK:FuncData
noncomputable def Adr.ct (a:Adr):Nat→Addr
 | 0=>a.b
 | 1=>a.c
 | 2=>a.d
 | 3=>a.e
 | 4=>a.f
 | _=>0
structure Txt (K:PySem.W.Frag) (mg:Str→Option Value) (a:Adr):Prop where
 b:Dc K mg "Arrow" a.b
 c:Dc K mg "Ride" a.c
 d:Dc K mg "Wait" a.d
 e:Dc K mg "Back" a.e
 f:Dc K mg "Net" a.f
 g:Dm K a.b "__init__" "Arrow.__init__" s_Arrow___init ["self","start","goal","time","behind"] a.g a.h
 h:Dm K a.c "__init__" "Ride.__init__" s_Ride___init ["self","start","goal","time"] a.i a.j
 i:Dm K a.d "__init__" "Wait.__init__" s_Wait___init ["self","start","goal","time","behind"] a.k a.l
 j:∃dsv,True∧Vals [(V.int 0)] dsv∧Binds K a.l ["self","start","goal","time","behind"] dsv
 k:Dm K a.e "__init__" "Back.__init__" s_Back___init ["self","start","goal","time","behind"] a.m a.n
 l:∃dsv,True∧Vals [(V.int 1)] dsv∧Binds K a.n ["self","start","goal","time","behind"] dsv
 m:Dn2 K mg "is_letter" s_is_letter ["sign"] a.o a.p
 n:Dn2 K mg "is_figure" s_is_figure ["sign"] a.q a.r
 o:Dn2 K mg "is_name" s_is_name ["word"] a.s a.t
 p:Dn2 K mg "are_names" s_are_names ["names"] a.u a.v
 q:Dn2 K mg "lies_within" s_lies_within ["number","least","most"] a.x a.y
 r:Dn2 K mg "is_right" s_is_right ["arrow","many"] a.z a.aa
 s:Dn2 K mg "placed_goings" s_placed_goings ["many","arrows"] a.ab a.ac
 t:Dm K a.f "__init__" "Net.__init__" s_Net___init ["self","names","arrows"] a.ad a.ae
 u:Dm K a.f "order" "Net.order" s_Net_order ["self"] a.af a.ag
 v:Dn2 K mg "later" s_later ["when","more"] a.ah a.ai
 x:Dn2 K mg "latest" s_latest ["one","other"] a.aj a.ak
 y:Dn2 K mg "sums_within_round" s_sums_within_round ["net","going","order"] a.al a.am
 z:Dn2 K mg "steps" s_steps ["net"] a.an a.ao
 aa:Dn2 K mg "_law_cell_at" s_law_cell_at ["_law_script","_law_k"] a.ap a.aq
 ab:Dn2 K mg "_law_whole" s_law_whole ["_law_found"] a.ar a.au
 ac:Dn2 K mg "_law_mixed" s_law_mixed ["_law_cell","_law_k"] a.av a.aw
 ad:Dn2 K mg "_law_turned" s_law_turned ["_law_many","_law_cell"] a.ax a.ay
 ae:Dn2 K mg "_law_part" s_law_part ["_law_cell","_law_order"] a.az a.aA
 af:Dn2 K mg "_law_arrow" s_law_arrow ["_law_part_here"] a.aB a.aC
 ag:Dn2 K mg "_law_due" s_law_due ["_law_parts","_law_found","_law_behind","_law_one","_law_other"] a.aD a.aE
 ah:Dn2 K mg "_law_right" s_law_right ["_law_found","_law_parts","_law_many"] a.aF a.aG
 ai:Dn2 K mg "_law_layers" s_law_layers ["_law_order","_law_cell"] a.aH a.aI
 aj:Dn2 K mg "law" s_law ["_law_script"] a.aJ a.aK
 ak:Dq K a.b "__init__" a.g
 al:∀c∈([4]:List Nat),Cls K (a.ct c)∧NoAttr K (a.ct c) "arrows"
 am:∀c∈([0,1,2,3]:List Nat),Cls K (a.ct c)∧NoAttr K (a.ct c) "behind"
 an:∀c∈([0,1,2,3]:List Nat),Cls K (a.ct c)∧NoAttr K (a.ct c) "goal"
 ao:∀c∈([4]:List Nat),Cls K (a.ct c)∧NoAttr K (a.ct c) "names"
 ap:∀c∈([0,1,2,3]:List Nat),Cls K (a.ct c)∧NoAttr K (a.ct c) "start"
 aq:∀c∈([0,1,2,3]:List Nat),Cls K (a.ct c)∧NoAttr K (a.ct c) "time"
 ar:∀c∈([0,1,2,3,4]:List Nat),Ic K (a.ct c)∧PySem.W.kitOne K (.ref (a.ct c)) (.ref a.e)=some (List.contains [3] c)
 au:∀c∈([0,1,2,3,4]:List Nat),Ic K (a.ct c)∧PySem.W.kitOne K (.ref (a.ct c)) (.ref a.c)=some (List.contains [1] c)
 av:mg "all"=none
 aw:mg "bool"=none
 ax:mg "dict"=none
 ay:mg "enumerate"=none
 az:mg "int"=none
 aA:mg "isinstance"=none
 aB:mg "len"=none
 aC:mg "list"=none
 aD:mg "max"=none
 aE:mg "min"=none
 aF:mg "range"=none
 aG:mg "set"=none
 aH:mg "sorted"=none
 aI:mg "str"=none
 aJ:mg "tuple"=none
 aK:∃t,mg "MOST_ARROWS"=some (.int 120 t)
 aL:∃t,mg "MOST_BEHIND"=some (.int 4 t)
 aM:∃t,mg "MOST_NAMES"=some (.int 40 t)
 aN:∃t,mg "MOST_SIGNS"=some (.int 8 t)
 aO:∃t,mg "MOST_TIME"=some (.int 1000000000 t)
variable {K:PySem.W.Frag} {mg:Str→Option Value} {w:World}
section
variable {P:Program} {base:Heap} {a:Adr} {ct:Nat→Addr}
noncomputable def i_Arrow___init:Nat→List D→Option D:=iOf ["self","start","goal","time","behind"]
  (sSeq (sFldD [0,1,2,3] "start" (eV 1))
  (sSeq (sFldD [0,1,2,3] "goal" (eV 2))
  (sSeq (sFldD [0,1,2,3] "time" (eV 3))
  (sFldD [0,1,2,3] "behind" (eV 4)))))
theorem ok_Arrow___init (T:Txt K mg a):FnOk P w K mg base CX0 1 a.g a.h ["self","start","goal","time","behind"] (ISp K a.ct [0,1,2,3] [0,0,0,0] i_Arrow___init) :=
 lfi (ms:=[.ow 0,.ow 0,.ow 0,.ow 0]) (rk:=0) T.g.fn fun _ _ _ _ _ _ _ hr nd=>(xss_cons (xs_fld T.ap xv) (xss_cons (xs_fld T.an xv) (xss_cons (xs_fld T.aq xv) (xss_one (xs_fld T.am xv)))))
noncomputable def i_Ride___init:Nat→List D→Option D:=iOf ["self","start","goal","time"]
  (sInitD [0,1,2,3] (aCons (eV 1) (aCons (eV 2) (aCons (eV 3) (aCons (eC (.int 0)) aNil)))) i_Arrow___init)
theorem ok_Ride___init (T:Txt K mg a):FnOk P w K mg base CX0 2 a.i a.j ["self","start","goal","time"] (ISp K a.ct [1] [0,0,0] i_Ride___init) :=
 lfi (ms:=[.ow 0,.ow 0,.ow 0]) (rk:=0) T.h.fn fun _ _ _ _ _ _ _ hr nd=>(xss_one (xs_init (ns:=[0,0,0,0]) (ok_Arrow___init T) (hr.mono (by decide)) T.b.mgx T.ak.sp T.ak.rd T.ak.fc T.g.fn.kp T.g.bd (by decide) (xa_cons xv (xa_cons xv (xa_cons xv (xa_cons xi0 xa_nil))))))
noncomputable def i_Wait___init:Nat→List D→Option D:=iOf ["self","start","goal","time","behind"]
  (sInitD [0,1,2,3] (aCons (eV 1) (aCons (eV 2) (aCons (eV 3) (aCons (eV 4) aNil)))) i_Arrow___init)
theorem ok_Wait___init (T:Txt K mg a):FnOk P w K mg base CX0 2 a.k a.l ["self","start","goal","time","behind"] (ISp K a.ct [2] [0,0,0,0] i_Wait___init) :=
 lfi (ms:=[.ow 0,.ow 0,.ow 0,.ow 0]) (rk:=0) T.i.fn fun _ _ _ _ _ _ _ hr nd=>(xss_one (xs_init (ns:=[0,0,0,0]) (ok_Arrow___init T) (hr.mono (by decide)) T.b.mgx T.ak.sp T.ak.rd T.ak.fc T.g.fn.kp T.g.bd (by decide) (xa_cons xv (xa_cons xv (xa_cons xv (xa_cons xv xa_nil))))))
noncomputable def i_Back___init:Nat→List D→Option D:=iOf ["self","start","goal","time","behind"]
  (sInitD [0,1,2,3] (aCons (eV 1) (aCons (eV 2) (aCons (eV 3) (aCons (eV 4) aNil)))) i_Arrow___init)
theorem ok_Back___init (T:Txt K mg a):FnOk P w K mg base CX0 2 a.m a.n ["self","start","goal","time","behind"] (ISp K a.ct [3] [0,0,0,0] i_Back___init) :=
 lfi (ms:=[.ow 0,.ow 0,.ow 0,.ow 0]) (rk:=0) T.k.fn fun _ _ _ _ _ _ _ hr nd=>(xss_one (xs_init (ns:=[0,0,0,0]) (ok_Arrow___init T) (hr.mono (by decide)) T.b.mgx T.ak.sp T.ak.rd T.ak.fc T.g.fn.kp T.g.bd (by decide) (xa_cons xv (xa_cons xv (xa_cons xv (xa_cons xv xa_nil))))))
noncomputable def m_is_letter:List D→Option D:=mOf ["sign"]
  (sRet (eB (bAnd (tb (e2 leD (eC (.str "a")) (eV 0))) (tb (e2 leD (eV 0) (eC (.str "z")))))))
theorem ok_is_letter (T:Txt K mg a):FnOk P w K mg base CX0 1 a.o a.p ["sign"] (LSp K a.ct [0] 0 m_is_letter) :=
 lf (ms:=[.ow 0]) T.m.fn fun _ _ _ _ _ _ hr nd=>(xss_one (xrt (xe_and (vLe (xe_str (n:=0)) xv) (xe_one (k:=0) (vLe xv (xe_str (n:=0)))))))
noncomputable def m_is_figure:List D→Option D:=mOf ["sign"]
  (sRet (eB (bAnd (tb (e2 leD (eC (.str "0")) (eV 0))) (tb (e2 leD (eV 0) (eC (.str "9")))))))
theorem ok_is_figure (T:Txt K mg a):FnOk P w K mg base CX0 1 a.q a.r ["sign"] (LSp K a.ct [0] 0 m_is_figure) :=
 lf (ms:=[.ow 0]) T.n.fn fun _ _ _ _ _ _ hr nd=>(xss_one (xrt (xe_and (vLe (xe_str (n:=0)) xv) (xe_one (k:=0) (vLe xv (xe_str (n:=0)))))))
noncomputable def q_is_name_1:EF:=(eComp (fun ρ=>((eV 0) ρ).bind asS) 1 [] (gV 0) bTrue (eB (bOr (tb (fun ρ=>((aCons (eV 0) aNil) ρ).bind fun ds=>m_is_letter (ds++[]))) (tb (fun ρ=>((aCons (eV 0) aNil) ρ).bind fun ds=>m_is_figure (ds++[]))))))
noncomputable def m_is_name:List D→Option D:=mOf ["word"]
  (sSeq (sIf (bOr (bNot (tb (e1 (isiD "str") (eV 0)))) (bOr (tb (e2 ltD (eN lenD (aCons (eV 0) aNil)) (eC (.int 1)))) (tb (e2 gtD (eN lenD (aCons (eV 0) aNil)) (eC (.int 8)))))) (sRet (eC (.bl false))) sSkip)
  (sRet (eB (bAnd (tb (fun ρ=>((aCons (e2 ixD (eV 0) (eC (.int 0))) aNil) ρ).bind fun ds=>m_is_letter (ds++[]))) (tb (eN allD (aCons q_is_name_1 aNil)))))))
theorem ok_is_name (T:Txt K mg a):FnOk P w K mg base CX0 2 a.s a.t ["word"] (LSp K a.ct [0] 0 m_is_name) :=
 lf (ms:=[.ow 0]) T.o.fn fun _ _ _ _ _ _ hr nd=>(xss_cons (xi1 (XW.t (xw_or (xt_not (xt_val (xe_isi (k:=0) (by decide) T.aA T.aI bt_str xv))) (xw_or (tLt (xln T.aB (xa_cons xv xa_nil)) xi0) (xw_or1 (tGt (xln T.aB (xa_cons xv xa_nil)) (xgl T.aN)))))) (xrt (xe_bl (n:=0)))) (xss_one (xrt (xe_and (xc T.m (ok_is_letter T) hr (xa_cons (xix xv xi0) xa_nil)) (xe_one (k:=0) (xe_callB (k:=0) (call_allL rfl) opn_all rfl T.av bt_all (xa_cons (osh (xcp (N:=["sign"]) (om:=[.ow 0]) (cap:=[]) (own:=1) (XI.cc (xi_str (n:=0) xv)) (fun _ _ _ _ _ h=>(xgn h)) (fun _ _ _ _ _=>xts_nil) (fun _ _ _ _ _=>(XE.ow (xe_or (xc T.m (ok_is_letter T) hr (xa_cons xv xa_nil)) (xe_one (k:=0) (xc T.n (ok_is_figure T) hr (xa_cons xv xa_nil)))))))) xa_nil)))))))
noncomputable def b_are_names_1:SF:=(sSeq (sIf (bOr (bNot (tb (fun ρ=>((aCons (eV 2) aNil) ρ).bind fun ds=>m_is_name (ds++[])))) (tb (fun ρ=>((eV 2) ρ).bind fun x=>((eV 1) ρ).bind fun y=>(dgetD y x).bind fun r=>some (.bl r.isSome)))) (sRet (eC (.bl false))) sSkip)
  (sPutD 1 (eV 2) (eC (.bl true))))
noncomputable def m_are_names:List D→Option D:=mOf ["names","seen","name"]
  (sSeq (sIf (bOr (bNot (tb (e1 (isiD "list") (eV 0)))) (bOr (tb (e2 ltD (eN lenD (aCons (eV 0) aNil)) (eC (.int 1)))) (tb (e2 gtD (eN lenD (aCons (eV 0) aNil)) (eC (.int 40)))))) (sRet (eC (.bl false))) sSkip)
  (sSeq (sSet 1 (eC (.dK [] [])))
  (sSeq (sFor (lsD (eV 0)) (gV 2) b_are_names_1)
  (sRet (eC (.bl true))))))
theorem ok_are_names (T:Txt K mg a):FnOk P w K mg base CX0 3 a.u a.v ["names"] (LSp K a.ct [0] 0 m_are_names) :=
 lf (ms:=[.ow 0,.ow 1,.ow 0]) T.p.fn fun _ _ _ _ _ _ hr nd=>(xss_cons (xi1 (XW.t (xw_or (xt_not (xt_val (xe_isi (k:=0) (by decide) T.aA T.aC bt_list xv))) (xw_or (tLt (xln T.aB (xa_cons xv xa_nil)) xi0) (xw_or1 (tGt (xln T.aB (xa_cons xv xa_nil)) (xgl T.aM)))))) (xrt (xe_bl (n:=0)))) (xss_cons (xsS nd xo_dnewK) (xss_cons (xF (xi_list xv) (xgN nd) (xss_cons (xi1 (XW.t (xw_or (xt_not (xt_val (xc T.o (ok_is_name T) hr (xa_cons xv xa_nil)))) (xw_or1 (xt_din (hu_of hr) xv xv (by with_unfolding_all rfl))))) (xrt (xe_bl (n:=0)))) (xss_one (xs_putD 1 rfl (hu_of hr) xv (xe_bl (n:=0)))))) (xss_one (xrt (xe_bl (n:=0)))))))
noncomputable def m_lies_within:List D→Option D:=mOf ["number","least","most"]
  (sSeq (sIf (bOr (bNot (tb (e1 (isiD "int") (eV 0)))) (tb (e1 (isiD "bool") (eV 0)))) (sRet (eC (.bl false))) sSkip)
  (sRet (eB (bAnd (tb (e2 leD (eV 1) (eV 0))) (tb (e2 leD (eV 0) (eV 2)))))))
theorem ok_lies_within (T:Txt K mg a):FnOk P w K mg base CX0 1 a.x a.y ["number","least","most"] (LSp K a.ct [0,0,0] 0 m_lies_within) :=
 lf (ms:=[.ow 0,.ow 0,.ow 0]) T.q.fn fun _ _ _ _ _ _ hr nd=>(xss_cons (xi1 (XW.t (xw_or (xt_not (xt_val (xe_isi (k:=0) (by decide) T.aA T.az bt_int xv))) (xw_or1 (xt_val (xe_isi (k:=0) (by decide) T.aA T.aw bt_bool xv))))) (xrt (xe_bl (n:=0)))) (xss_one (xrt (xe_and (vLe xv xv) (xe_one (k:=0) (vLe xv xv))))))
noncomputable def m_is_right:List D→Option D:=mOf ["arrow","many","least","most"]
  (sSeq (sSet 2 (eIf (tb (e1 (isiC [0,1,2,3,4] [3]) (eV 0))) (eC (.int 1)) (eC (.int 0))))
  (sSeq (sSet 3 (eIf (tb (e1 (isiC [0,1,2,3,4] [1]) (eV 0))) (eC (.int 0)) (eC (.int 4))))
  (sSeq (sIf (bOr (bNot (tb (fun ρ=>((aCons (e1 (fldD [0,1,2,3] "start") (eV 0)) (aCons (eC (.int 0)) (aCons (e2 subD (eV 1) (eC (.int 1))) aNil))) ρ).bind fun ds=>m_lies_within (ds++[])))) (bNot (tb (fun ρ=>((aCons (e1 (fldD [0,1,2,3] "goal") (eV 0)) (aCons (eC (.int 0)) (aCons (e2 subD (eV 1) (eC (.int 1))) aNil))) ρ).bind fun ds=>m_lies_within (ds++[]))))) (sRet (eC (.bl false))) sSkip)
  (sRet (eB (bAnd (tb (fun ρ=>((aCons (e1 (fldD [0,1,2,3] "time") (eV 0)) (aCons (eC (.int 0)) (aCons (eC (.int 1000000000)) aNil))) ρ).bind fun ds=>m_lies_within (ds++[]))) (tb (fun ρ=>((aCons (e1 (fldD [0,1,2,3] "behind") (eV 0)) (aCons (eV 2) (aCons (eV 3) aNil))) ρ).bind fun ds=>m_lies_within (ds++[])))))))))
theorem ok_is_right (T:Txt K mg a):FnOk P w K mg base CX0 2 a.z a.aa ["arrow","many"] (LSp K a.ct [0,0] 0 m_is_right) :=
 lf (ms:=[.ow 0,.ow 0,.ow 0,.ow 0]) T.r.fn fun _ _ _ _ _ _ hr nd=>(xss_cons (xsE nd (xe_if (xt_val (xe_isiC (k:=0) T.ar T.aA T.e.mgx xv)) xi0 xi0)) (xss_cons (xsE nd (xe_if (xt_val (xe_isiC (k:=0) T.au T.aA T.c.mgx xv)) xi0 (xgl T.aL))) (xss_cons (xi1 (XW.t (xw_or (xt_not (xt_val (xc T.q (ok_lies_within T) hr (xa_cons (fl0 xv T.ap) (xa_cons xi0 (xa_cons (oSub xv xi0) xa_nil)))))) (xw_or1 (xt_not (xt_val (xc T.q (ok_lies_within T) hr (xa_cons (fl0 xv T.an) (xa_cons xi0 (xa_cons (oSub xv xi0) xa_nil))))))))) (xrt (xe_bl (n:=0)))) (xss_one (xrt (xe_and (xc T.q (ok_lies_within T) hr (xa_cons (fl0 xv T.aq) (xa_cons xi0 (xa_cons (xgl T.aO) xa_nil)))) (xe_one (k:=0) (xc T.q (ok_lies_within T) hr (xa_cons (fl0 xv T.am) (xa_cons xv (xa_cons xv xa_nil)))))))))))
noncomputable def b_placed_goings_1:SF:=(sIf (tb (e2 (eqD false) (e1 (fldD [0,1,2,3] "start") (eV 4)) (eV 7))) (sSeq (sAugL 3 (e1 (fldD [0,1,2,3] "goal") (eV 4)) (fun i j=>i-j) (eC (.int 1)))
  (sIf (tb (e2 (eqD false) (e2 ixD (eV 3) (e1 (fldD [0,1,2,3] "goal") (eV 4))) (eC (.int 0)))) (sApp 5 (e1 (fldD [0,1,2,3] "goal") (eV 4))) sSkip)) sSkip)
noncomputable def b_placed_goings_2:SF:=(sSeq (sSet 7 (e2 ixD (eV 5) (eV 6)))
  (sSeq (sFor (lsD (eV 2)) (gV 4) b_placed_goings_1)
  (sAug 6 (i2 fun i j=>.int (i+j)) (eC (.int 1)))))
noncomputable def q_placed_goings_1:EF:=(eComp (fun ρ=>((aCons (eV 0) aNil) ρ).bind rng1) 1 [3] (gV 0) (tb (e2 (eqD false) (e2 ixD (eV 1) (eV 0)) (eC (.int 0)))) (eV 0))
noncomputable def b_placed_goings_3:SF:=(sAugL 3 (e1 (fldD [0,1,2,3] "goal") (eV 4)) (fun i j=>i+j) (eC (.int 1)))
noncomputable def q_placed_goings_2:EF:=(eComp (lsD (eV 1)) 1 [] (gV 0) (tb (e2 (eqD false) (e1 (fldD [0,1,2,3] "behind") (eV 0)) (eC (.int 0)))) (eV 0))
noncomputable def m_placed_goings:List D→Option D:=mOf ["many","arrows","within","waited","arrow","placed","done","here"]
  (sSeq (sSet 2 q_placed_goings_2)
  (sSeq (sSet 3 (e2 repD (fun ρ=>((aCons (eC (.int 0)) aNil) ρ).bind fun ds=>some (.lst ds)) (eV 0)))
  (sSeq (sFor (lsD (eV 2)) (gV 4) b_placed_goings_3)
  (sSeq (sSet 5 q_placed_goings_1)
  (sSeq (sSet 6 (eC (.int 0)))
  (sSeq (sWhile (tb (e2 ltD (eV 6) (eN lenD (aCons (eV 5) aNil)))) b_placed_goings_2)
  (sRet (eV 5))))))))
theorem ok_placed_goings (T:Txt K mg a):FnOk P w K mg base CX0 1 a.ab a.ac ["many","arrows"] (LSp K a.ct [0,0] 0 m_placed_goings) :=
 lf (ms:=[.ow 0,.ow 0,.ow 0,.ow 1,.ow 0,.ow 1,.ow 0,.ow 0]) T.s.fn fun _ _ _ _ _ _ hr nd=>(xss_cons (xcs (k:=0) (N:=["arrow"]) (om:=[.ow 0]) (cap:=[]) (own:=1) nd (xic_list (n:=0) xv) (fun _ _ _ _ _ h=>(xgn h)) (fun _ _ _ _ _=>(xts_one (tEq hr (fl0 xv T.am) xi0))) (fun _ _ _ _ _=>(XE.ow xv))) (xss_cons (xsS nd (xo_rep (xo_lst (k:=0) (xao_cons (XE.ow xi0) xao_nil)) xv)) (xss_cons (xF (xi_list xv) (xgN nd) (xss_one (xs_augL 3 ip_add rfl (fl0 xv T.an) xi0))) (xss_cons (xcs (k:=1) (N:=["going","waited"]) (om:=[.ow 0]) (cap:=[3]) (own:=1) nd (XI.cc (xi_range1 (n:=0) T.aF (xa_cons xv xa_nil))) (fun _ _ _ _ _ h=>(xgn h)) (fun _ _ _ _ _=>(xts_one (tEq hr (ix1 xv xv) xi0))) (fun _ _ _ _ _=>(XE.ow xv))) (xss_cons (xsE nd xi0) (xss_cons (xWh (tLt xv (xln T.aB (xa_cons xv xa_nil))) (xss_cons (xsE nd (ix1 xv xv)) (xss_cons (xF (xi_list xv) (xgN nd) (xss_one (xs_if (tEq hr (fl0 xv T.ap) xv) (xss_cons (xs_augL 3 ip_sub rfl (fl0 xv T.an) xi0) (xss_one (xi1 (tEq hr (ix1 xv (fl0 xv T.an)) xi0) (xs_append 5 rfl (XE.ow (fl0 xv T.an)))))) xss_nil))) (xss_one (xs_aug ip_add rfl nd rfl (Or.inl rfl) xi0))))) (xss_one (xs_retS (i:=5) rfl))))))))
noncomputable def b_Net___init_1:SF:=(sIf (bNot (tb (fun ρ=>((aCons (eV 4) (aCons (eN lenD (aCons (eV 1) aNil)) aNil)) ρ).bind fun ds=>m_is_right (ds++[])))) sNever sSkip)
noncomputable def i_Net___init:Nat→List D→Option D:=iOf ["self","names","arrows","number","arrow","placed"]
  (sSeq (sIf (bOr (bNot (tb (fun ρ=>((aCons (eV 1) aNil) ρ).bind fun ds=>m_are_names (ds++[])))) (tb (e2 gtD (eN lenD (aCons (eV 2) aNil)) (eC (.int 120))))) sNever sSkip)
  (sSeq (sFor (fun ρ=>((aCons (eV 2) aNil) ρ).bind fun ds=>match ds with | [.lst xs]=>some (enumD 0 xs) | _=>none) (gT (gsCons (gV 3) (gsCons (gV 4) gsNil))) b_Net___init_1)
  (sSeq (sSet 5 (fun ρ=>((aCons (eN lenD (aCons (eV 1) aNil)) (aCons (eV 2) aNil)) ρ).bind fun ds=>m_placed_goings (ds++[])))
  (sSeq (sIf (tb (e2 ltD (eN lenD (aCons (eV 5) aNil)) (eN lenD (aCons (eV 1) aNil)))) sNever sSkip)
  (sSeq (sFldD [4] "names" (eN listD (aCons (eV 1) aNil)))
  (sFldD [4] "arrows" (eN listD (aCons (eV 2) aNil))))))))
theorem ok_Net___init (T:Txt K mg a):FnOk P w K mg base CX0 4 a.ad a.ae ["self","names","arrows"] (ISp K a.ct [4] [0,0] i_Net___init) :=
 lfi (ms:=[.ow 0,.ow 0,.ow 0,.ow 0,.ow 0]) (rk:=0) T.t.fn fun _ _ _ _ _ _ _ hr nd=>(xss_cons (xi1 (XW.t (xw_or (xt_not (xt_val (xc T.p (ok_are_names T) hr (xa_cons xv xa_nil)))) (xw_or1 (tGt (xln T.aB (xa_cons xv xa_nil)) (xgl T.aK))))) xs_never) (xss_cons (xF (xi_enum T.ay (xa_cons xv xa_nil)) (xg_tup (n:=1) rfl (xgs_cons (xgN nd) (xgs_cons (xgN nd) xgs_nil))) (xss_one (xi1 (xt_not (xt_val (xc T.r (ok_is_right T) hr (xa_cons xv (xa_cons (xln T.aB (xa_cons xv xa_nil)) xa_nil))))) xs_never))) (xss_cons (xsS nd (xo_c T.s (ok_placed_goings T) hr (xa_cons (xln T.aB (xa_cons xv xa_nil)) (xa_cons xv xa_nil)))) (xss_cons (xi1 (tLt (xln T.aB (xa_cons xv xa_nil)) (xln T.aB (xa_cons xv xa_nil))) xs_never) (xss_cons (xs_fld T.ao (osh (xo_callTy call_list_of (opn_list (n:=0) (by decide)) rfl T.aC bt_list (xa_cons xv xa_nil)))) (xss_one (xs_fld T.al (osh (xo_callTy call_list_of (opn_list (n:=0) (by decide)) rfl T.aC bt_list (xa_cons xv xa_nil))))))))))
noncomputable def m_Net_order:List D→Option D:=mOf ["self"]
  (sRet (fun ρ=>((aCons (eN lenD (aCons (e1 (fldD [4] "names") (eV 0)) aNil)) (aCons (e1 (fldD [4] "arrows") (eV 0)) aNil)) ρ).bind fun ds=>m_placed_goings (ds++[])))
theorem ok_Net_order (T:Txt K mg a):FnOk P w K mg base CX0 2 a.af a.ag ["self"] (LSp K a.ct [0] 0 m_Net_order) :=
 lf (ms:=[.ow 0]) T.u.fn fun _ _ _ _ _ _ hr nd=>(xss_one (xs_ret (xo_c T.s (ok_placed_goings T) hr (xa_cons (xln T.aB (xa_cons (fl0 xv T.ao) xa_nil)) (xa_cons (fl0 xv T.al) xa_nil)))))
noncomputable def m_later:List D→Option D:=mOf ["when","more"]
  (sSeq (sIf (tb (e2 (isD false) (eV 0) (eC .non))) (sRet (eC .non)) sSkip)
  (sRet (e2 addD (eV 0) (eV 1))))
theorem ok_later (T:Txt K mg a):FnOk P w K mg base CX0 1 a.ah a.ai ["when","more"] (LSp K a.ct [0,0] 0 m_later) :=
 lf (ms:=[.ow 0,.ow 0]) T.v.fn fun _ _ _ _ _ _ hr nd=>(xss_cons (xi1 (tIs xv xn0) (xrt xn0)) (xss_one (xs_ret (eos (xa0 xv xv)))))
noncomputable def m_latest:List D→Option D:=mOf ["one","other"]
  (sSeq (sIf (tb (e2 (isD false) (eV 0) (eC .non))) (sRet (eV 1)) sSkip)
  (sSeq (sIf (tb (e2 (isD false) (eV 1) (eC .non))) (sRet (eV 0)) sSkip)
  (sRet (eN max2D (aCons (eV 0) (aCons (eV 1) aNil))))))
theorem ok_latest (T:Txt K mg a):FnOk P w K mg base CX0 1 a.aj a.ak ["one","other"] (LSp K a.ct [0,0] 0 m_latest) :=
 lf (ms:=[.ow 0,.ow 0]) T.x.fn fun _ _ _ _ _ _ hr nd=>(xss_cons (xi1 (tIs xv xn0) (xrt xv)) (xss_cons (xi1 (tIs xv xn0) (xrt xv)) (xss_one (xrt (xe_callB (k:=0) (call_max2 rfl) opn_max2 rfl T.aD bt_max (xa_cons xv (xa_cons xv xa_nil)))))))
noncomputable def b_sums_within_round_1:SF:=(sIf (bAnd (tb (e2 (eqD false) (e1 (fldD [0,1,2,3] "behind") (eV 5)) (eC (.int 0)))) (tb (e2 (eqD false) (e1 (fldD [0,1,2,3] "start") (eV 5)) (eV 4)))) (sPutL 3 (e1 (fldD [0,1,2,3] "goal") (eV 5)) (fun ρ=>((aCons (e2 ixD (eV 3) (e1 (fldD [0,1,2,3] "goal") (eV 5))) (aCons (fun ρ=>((aCons (e2 ixD (eV 3) (eV 4)) (aCons (e1 (fldD [0,1,2,3] "time") (eV 5)) aNil)) ρ).bind fun ds=>m_later (ds++[])) aNil)) ρ).bind fun ds=>m_latest (ds++[]))) sSkip)
noncomputable def b_sums_within_round_2:SF:=(sFor (lsD (e1 (fldD [4] "arrows") (eV 0))) (gV 5) b_sums_within_round_1)
noncomputable def m_sums_within_round:List D→Option D:=mOf ["net","going","order","sums","here","arrow"]
  (sSeq (sSet 3 (e2 repD (fun ρ=>((aCons (eC .non) aNil) ρ).bind fun ds=>some (.lst ds)) (eN lenD (aCons (e1 (fldD [4] "names") (eV 0)) aNil))))
  (sSeq (sPutL 3 (eV 1) (eC (.int 0)))
  (sSeq (sFor (lsD (eV 2)) (gV 4) b_sums_within_round_2)
  (sRet (eV 3)))))
theorem ok_sums_within_round (T:Txt K mg a):FnOk P w K mg base CX0 2 a.al a.am ["net","going","order"] (LSp K a.ct [0,0,0] 0 m_sums_within_round) :=
 lf (ms:=[.ow 0,.ow 0,.ow 0,.ow 1,.ow 0,.ow 0]) T.y.fn fun _ _ _ _ _ _ hr nd=>(xss_cons (xsS nd (xo_rep (xo_lst (k:=0) (xao_cons (XE.ow xn0) xao_nil)) (xln T.aB (xa_cons (fl0 xv T.ao) xa_nil)))) (xss_cons (xs_putL 3 rfl xv xi0) (xss_cons (xF (xi_list xv) (xgN nd) (xss_one (xF (xi_list (fl0 xv T.al)) (xgN nd) (xss_one (xi1 (XW.t (xw_and (tEq hr (fl0 xv T.am) xi0) (xw_and1 (tEq hr (fl0 xv T.ap) xv)))) (xs_putL 3 rfl (fl0 xv T.an) (xc T.x (ok_latest T) hr (xa_cons (ix1 xv (fl0 xv T.an)) (xa_cons (xc T.v (ok_later T) hr (xa_cons (ix1 xv xv) (xa_cons (fl0 xv T.aq) xa_nil))) xa_nil))))))))) (xss_one (xs_retS (i:=3) rfl)))))
noncomputable def b_steps_1:SF:=(sIf (tb (e2 (isD true) (eV 6) (eC .non))) (sSeq (sSet 7 (fun ρ=>((aCons (e1 (fldD [0,1,2,3] "behind") (eV 4)) (aCons (e1 (fldD [0,1,2,3] "start") (eV 4)) (aCons (eV 5) aNil))) ρ).bind fun ds=>some (.tup ds)))
  (sPutD 3 (eV 7) (fun ρ=>((aCons (fun ρ=>((eV 3) ρ).bind fun x=>((eV 7) ρ).bind fun y=>(dgetD x y).bind fun r=>some (r.getD .non)) (aCons (e2 addD (e1 (fldD [0,1,2,3] "time") (eV 4)) (eV 6)) aNil)) ρ).bind fun ds=>m_latest (ds++[])))) sSkip)
noncomputable def b_steps_2:SF:=(sIf (tb (e2 gtD (e1 (fldD [0,1,2,3] "behind") (eV 4)) (eC (.int 0)))) (sFor (fun ρ=>((aCons (e2 ixD (eV 2) (e1 (fldD [0,1,2,3] "goal") (eV 4))) aNil) ρ).bind fun ds=>match ds with | [.lst xs]=>some (enumD 0 xs) | _=>none) (gT (gsCons (gV 5) (gsCons (gV 6) gsNil))) b_steps_1) sSkip)
noncomputable def q_steps_1:EF:=(eComp (fun ρ=>((aCons (eN lenD (aCons (e1 (fldD [4] "names") (eV 0)) aNil)) aNil) ρ).bind rng1) 1 [0,1] (gV 0) bTrue (fun ρ=>((aCons (eV 1) (aCons (eV 0) (aCons (eV 2) aNil))) ρ).bind fun ds=>m_sums_within_round (ds++[])))
noncomputable def m_steps:List D→Option D:=mOf ["net","order","sums","greatest","arrow","goal","more","key"]
  (sSeq (sSet 1 (fun ρ=>((eV 0) ρ).bind fun o=>metD 4 "order" m_Net_order o []))
  (sSeq (sSet 2 q_steps_1)
  (sSeq (sSet 3 (eC (.dT [] [])))
  (sSeq (sFor (lsD (e1 (fldD [4] "arrows") (eV 0))) (gV 4) b_steps_2)
  (sRet (eV 3))))))
theorem ok_steps (T:Txt K mg a):FnOk P w K mg base CX0 3 a.an a.ao ["net"] (LSp K a.ct [0] 1 m_steps) :=
 lf (ms:=[.ow 0,.ow 0,.ow 0,.ow 1,.ow 0,.ow 0,.ow 0,.ow 0]) T.z.fn fun _ _ _ _ _ _ hr nd=>(xss_cons (xsS nd (xo_meth0 (n:=0) (c0:=4) (nd:=[]) (dds:=[]) xv T.f.cl T.u.me (ok_Net_order T) (hr.mono (by decide)) T.u.bd .nil (fun _ _=>.nil))) (xss_cons (xcs (k:=0) (N:=["going","net","order"]) (om:=[.ow 0]) (cap:=[0,1]) (own:=1) nd (XI.cc (xi_range1 (n:=0) T.aF (xa_cons (xln T.aB (xa_cons (fl0 xv T.ao) xa_nil)) xa_nil))) (fun _ _ _ _ _ h=>(xgn h)) (fun _ _ _ _ _=>xts_nil) (fun _ _ _ _ _=>(xo_c T.y (ok_sums_within_round T) hr (xa_cons xv (xa_cons xv (xa_cons xv xa_nil)))))) (xss_cons (xsS nd xo_dnewT) (xss_cons (xF (xi_list (fl0 xv T.al)) (xgN nd) (xss_one (xi1 (tGt (fl0 xv T.am) xi0) (xF (xi_enum T.ay (xa_cons (xix xv (fl0 xv T.an)) xa_nil)) (xg_tup (n:=1) rfl (xgs_cons (xgN nd) (xgs_cons (xgN nd) xgs_nil))) (xss_one (xs_if (tNi xv xn0) (xss_cons (xsS nd (eos (xo_tup (xao_cons (XE.ow (fl0 xv T.am)) (xao_cons (XE.ow (fl0 xv T.ap)) (xao_cons (XE.ow xv) xao_nil)))))) (xss_one (xs_putD 3 rfl (hu_of hr) xv (xc T.x (ok_latest T) hr (xa_cons (xe_get1 (n:=1) (hu_of hr) (xe_var 3 1) (xe_var 7 0) ⟨rfl,rfl,rfl,rfl⟩) (xa_cons (osh (xa0 (fl0 xv T.aq) xv)) xa_nil)))))) xss_nil)))))) (xss_one (xs_retV (i:=3) rfl))))))
noncomputable def m_law_cell_at:List D→Option D:=mOf ["_law_script","_law_k"]
  (sSeq (sIf (tb (e2 ltD (eV 1) (eN lenD (aCons (eV 0) aNil)))) (sRet (e2 ixD (eV 0) (eV 1))) sSkip)
  (sRet (eC (.int 0))))
theorem ok_law_cell_at (T:Txt K mg a):FnOk P w K mg base CX0 1 a.ap a.aq ["_law_script","_law_k"] (LSp K a.ct [0,0] 0 m_law_cell_at) :=
 lf (ms:=[.ow 0,.ow 0]) T.aa.fn fun _ _ _ _ _ _ hr nd=>(xss_cons (xi1 (tLt xv (xln T.aB (xa_cons xv xa_nil))) (xrt (xix xv xv))) (xss_one (xrt xi0)))
noncomputable def m_law_whole:List D→Option D:=mOf ["_law_found"]
  (sRet (eB (bAnd (tb (e1 (isiD "int") (eV 0))) (tb (eB (bNot (tb (e1 (isiD "bool") (eV 0)))))))))
theorem ok_law_whole (T:Txt K mg a):FnOk P w K mg base CX0 1 a.ar a.au ["_law_found"] (LSp K a.ct [0] 0 m_law_whole) :=
 lf (ms:=[.ow 0]) T.ab.fn fun _ _ _ _ _ _ hr nd=>(xss_one (xrt (xe_and (xe_isi (k:=0) (by decide) T.aA T.az bt_int xv) (xe_one (k:=0) (xe_not (k:=0) (xe_isi (k:=0) (by decide) T.aA T.aw bt_bool xv))))))
noncomputable def m_law_mixed:List D→Option D:=mOf ["_law_cell","_law_k","_law_number"]
  (sSeq (sIf (bAnd (tb (e2 geD (eV 0) (e2 shlD (eC (.int 1)) (eC (.int 90))))) (bAnd (tb (e2 (eqD false) (e2 modD (eV 0) (eC (.int 2))) (eC (.int 1)))) (tb (e2 gtD (e2 shrD (eV 0) (e2 addD (eC (.int 1)) (e2 mulI (eC (.int 31)) (eV 1)))) (eC (.int 0)))))) (sRet (e2 modD (e2 shrD (eV 0) (e2 addD (eC (.int 1)) (e2 mulI (eC (.int 31)) (eV 1)))) (eC (.int 2147483648)))) sSkip)
  (sSeq (sSet 2 (e2 modD (e2 mulI (e2 addD (e2 addD (eV 0) (e2 mulI (eC (.int 7919)) (eV 1))) (eC (.int 1))) (eC (.int 48271))) (eC (.int 2147483647))))
  (sSeq (sSet 2 (e2 modD (e2 mulI (eV 2) (e2 addD (e2 fdivD (eV 2) (eC (.int 1009))) (eC (.int 69621)))) (eC (.int 2147483647))))
  (sRet (e2 modD (e2 mulI (eV 2) (e2 addD (e2 addD (e2 fdivD (eV 2) (eC (.int 2003))) (eC (.int 39373))) (eV 1))) (eC (.int 2147483629)))))))
theorem ok_law_mixed (T:Txt K mg a):FnOk P w K mg base CX0 1 a.av a.aw ["_law_cell","_law_k"] (LSp K a.ct [0,0] 0 m_law_mixed) :=
 lf (ms:=[.ow 0,.ow 0,.ow 0]) T.ac.fn fun _ _ _ _ _ _ hr nd=>(xss_cons (xi1 (XW.t (xw_and (tGe xv (xe_op (k:=0) op_shl op2_shl xi0 xi0)) (xw_and (tEq hr (oMod xv xi0) xi0) (xw_and1 (tGt (xe_op (k:=0) op_shr op2_shr xv (osh (xa0 xi0 (oMul xi0 xv)))) xi0))))) (xrt (oMod (xe_op (k:=0) op_shr op2_shr xv (osh (xa0 xi0 (oMul xi0 xv)))) xi0))) (xss_cons (xsE nd (oMod (oMul (osh (xa0 (osh (xa0 xv (oMul xi0 xv))) xi0)) xi0) xi0)) (xss_cons (xsE nd (oMod (oMul xv (osh (xa0 (oDiv xv xi0) xi0))) xi0)) (xss_one (xrt (oMod (oMul xv (osh (xa0 (osh (xa0 (oDiv xv xi0) xi0)) xv))) xi0))))))
noncomputable def b_law_turned_1:SF:=(sSeq (sSet 4 (e2 modD (fun ρ=>((aCons (eV 1) (aCons (e2 addD (eC (.int 50)) (eV 3)) aNil)) ρ).bind fun ds=>m_law_mixed (ds++[])) (eV 0)))
  (sSwap (gSb 2 (eV 3)) (gSb 2 (eV 4)) (aCons (e2 ixD (eV 2) (eV 4)) (aCons (e2 ixD (eV 2) (eV 3)) aNil))))
noncomputable def m_law_turned:List D→Option D:=mOf ["_law_many","_law_cell","_law_order","_law_k","_law_at"]
  (sSeq (sSet 2 (eN lrngD (aCons (eV 0) aNil)))
  (sSeq (sFor (fun ρ=>((aCons (eV 0) aNil) ρ).bind rng1) (gV 3) b_law_turned_1)
  (sRet (eV 2))))
theorem ok_law_turned (T:Txt K mg a):FnOk P w K mg base CX0 2 a.ax a.ay ["_law_many","_law_cell"] (LSp K a.ct [0,0] 0 m_law_turned) :=
 lf (ms:=[.ow 0,.ow 0,.ow 1,.ow 0,.ow 0]) T.ad.fn fun _ _ _ _ _ _ hr nd=>(xss_cons (xsS nd (xo_lrng rfl rfl T.aC rfl T.aF (xa_cons xv xa_nil))) (xss_cons (xF (xi_range1 (n:=0) T.aF (xa_cons xv xa_nil)) (xgN nd) (xss_cons (xsE nd (oMod (xc T.ac (ok_law_mixed T) hr (xa_cons xv (xa_cons (osh (xa0 xi0 xv)) xa_nil))) xv)) (xss_one (xs_swap rfl (xge_sub 2 rfl xv) (xge_sub 2 rfl xv) (xa_cons (ix1 xv xv) (xa_cons (ix1 xv xv) xa_nil)))))) (xss_one (xs_retS (i:=2) rfl))))
noncomputable def m_law_part:List D→Option D:=mOf ["_law_cell","_law_order","_law_many","_law_one","_law_other","_law_behind","_law_time"]
  (sSeq (sSet 2 (eN lenD (aCons (eV 1) aNil)))
  (sSeq (sSet 3 (e2 modD (fun ρ=>((aCons (eV 0) (aCons (eC (.int 1)) aNil)) ρ).bind fun ds=>m_law_mixed (ds++[])) (eV 2)))
  (sSeq (sSet 4 (e2 modD (fun ρ=>((aCons (eV 0) (aCons (eC (.int 2)) aNil)) ρ).bind fun ds=>m_law_mixed (ds++[])) (eV 2)))
  (sSeq (sSet 5 (e2 ixD (fun ρ=>((aCons (eC (.int 0)) (aCons (eC (.int 0)) (aCons (eC (.int 0)) (aCons (eC (.int 1)) (aCons (eC (.int 1)) (aCons (eC (.int 2)) (aCons (eC (.int 3)) (aCons (eC (.int 4)) aNil)))))))) ρ).bind fun ds=>some (.lst ds)) (e2 modD (fun ρ=>((aCons (eV 0) (aCons (eC (.int 5)) aNil)) ρ).bind fun ds=>m_law_mixed (ds++[])) (eC (.int 8)))))
  (sSeq (sIf (tb (e2 (eqD false) (eV 3) (eV 4))) (sSet 5 (eN max2D (aCons (eC (.int 1)) (aCons (eV 5) aNil)))) sSkip)
  (sSeq (sIf (tb (e2 (eqD false) (eV 5) (eC (.int 0)))) (sPar 3 4 (aCons (eN min2D (aCons (eV 3) (aCons (eV 4) aNil))) (aCons (eN max2D (aCons (eV 3) (aCons (eV 4) aNil))) aNil))) sSkip)
  (sSeq (sSet 6 (e2 ixD (fun ρ=>((aCons (e2 modD (eV 0) (eC (.int 9))) (aCons (e2 modD (eV 0) (e2 addD (e2 powD (eC (.int 10)) (eC (.int 9))) (eC (.int 1)))) (aCons (eC (.int 0)) aNil))) ρ).bind fun ds=>some (.lst ds)) (e2 modD (fun ρ=>((aCons (eV 0) (aCons (eC (.int 3)) aNil)) ρ).bind fun ds=>m_law_mixed (ds++[])) (eC (.int 3)))))
  (sRet (fun ρ=>((aCons (e2 ixD (eV 1) (eV 3)) (aCons (e2 ixD (eV 1) (eV 4)) (aCons (eV 6) (aCons (eV 5) (aCons (e2 modD (fun ρ=>((aCons (eV 0) (aCons (eC (.int 4)) aNil)) ρ).bind fun ds=>m_law_mixed (ds++[])) (eC (.int 3))) aNil))))) ρ).bind fun ds=>some (.tup ds))))))))))
theorem ok_law_part (T:Txt K mg a):FnOk P w K mg base CX0 2 a.az a.aA ["_law_cell","_law_order"] (LSp K a.ct [0,0] 0 m_law_part) :=
 lf (ms:=[.ow 0,.ow 0,.ow 0,.ow 0,.ow 0,.ow 0,.ow 0]) T.ae.fn fun _ _ _ _ _ _ hr nd=>(xss_cons (xsE nd (xln T.aB (xa_cons xv xa_nil))) (xss_cons (xsE nd (oMod (xc T.ac (ok_law_mixed T) hr (xa_cons xv (xa_cons xi0 xa_nil))) xv)) (xss_cons (xsE nd (oMod (xc T.ac (ok_law_mixed T) hr (xa_cons xv (xa_cons xi0 xa_nil))) xv)) (xss_cons (xsE nd (xix (osh (xo_lst (k:=0) (xao_cons (XE.ow xi0) (xao_cons (XE.ow xi0) (xao_cons (XE.ow xi0) (xao_cons (XE.ow xi0) (xao_cons (XE.ow xi0) (xao_cons (XE.ow xi0) (xao_cons (XE.ow xi0) (xao_cons (XE.ow xi0) xao_nil)))))))))) (oMod (xc T.ac (ok_law_mixed T) hr (xa_cons xv (xa_cons xi0 xa_nil))) xi0))) (xss_cons (xi1 (tEq hr xv xv) (xsE nd (xe_callB (k:=0) (call_max2 rfl) opn_max2 rfl T.aD bt_max (xa_cons xi0 (xa_cons xv xa_nil))))) (xss_cons (xi1 (tEq hr xv xi0) (xs_par rfl rfl rfl nd rfl rfl (by decide) rfl rfl (xa_cons (xe_callB (k:=0) (call_min2 rfl) opn_min2 rfl T.aE bt_min (xa_cons xv (xa_cons xv xa_nil))) (xa_cons (xe_callB (k:=0) (call_max2 rfl) opn_max2 rfl T.aD bt_max (xa_cons xv (xa_cons xv xa_nil))) xa_nil)) rfl)) (xss_cons (xsE nd (xix (osh (xo_lst (k:=0) (xao_cons (XE.ow (oMod xv xi0)) (xao_cons (XE.ow (oMod xv (osh (xa0 (xe_op (k:=0) op_pow op2_pow xi0 xi0) xi0)))) (xao_cons (XE.ow xi0) xao_nil))))) (oMod (xc T.ac (ok_law_mixed T) hr (xa_cons xv (xa_cons xi0 xa_nil))) xi0))) (xss_one (xs_ret (eos (xo_tup (xao_cons (XE.ow (xix xv xv)) (xao_cons (XE.ow (xix xv xv)) (xao_cons (XE.ow xv) (xao_cons (XE.ow xv) (xao_cons (XE.ow (oMod (xc T.ac (ok_law_mixed T) hr (xa_cons xv (xa_cons xi0 xa_nil))) xi0)) xao_nil))))))))))))))))
noncomputable def m_law_arrow:List D→Option D:=mOf ["_law_part_here","_law_start","_law_goal","_law_time","_law_behind","_law_kind"]
  (sSeq (sAsg (gT (gsCons (gV 1) (gsCons (gV 2) (gsCons (gV 3) (gsCons (gV 4) (gsCons (gV 5) gsNil)))))) (eV 0))
  (sSeq (sIf (bAnd (tb (e2 (eqD false) (eV 4) (eC (.int 0)))) (tb (e2 gtD (eV 5) (eC (.int 0))))) (sRet (fun ρ=>((aCons (eV 1) (aCons (eV 2) (aCons (eV 3) aNil))) ρ).bind fun ds=>i_Ride___init 1 (ds++[]))) sSkip)
  (sSeq (sIf (bAnd (tb (e2 gtD (eV 4) (eC (.int 0)))) (tb (e2 gtD (eV 5) (eC (.int 0))))) (sRet (fun ρ=>((aCons (eV 1) (aCons (eV 2) (aCons (eV 3) (aCons (eV 4) aNil)))) ρ).bind fun ds=>i_Back___init 3 (ds++[]))) sSkip)
  (sRet (fun ρ=>((aCons (eV 1) (aCons (eV 2) (aCons (eV 3) (aCons (eV 4) aNil)))) ρ).bind fun ds=>i_Wait___init 2 (ds++[]))))))
theorem ok_law_arrow (T:Txt K mg a):FnOk P w K mg base CX0 4 a.aB a.aC ["_law_part_here"] (LSp K a.ct [0] 0 m_law_arrow) :=
 lf (ms:=[.ow 0,.ow 0,.ow 0,.ow 0,.ow 0,.ow 0]) T.af.fn fun _ _ _ _ _ _ hr nd=>(xss_cons (xs_asg xv (xg_tup (n:=0) rfl (xgs_cons (xgN nd) (xgs_cons (xgN nd) (xgs_cons (xgN nd) (xgs_cons (xgN nd) (xgs_cons (xgN nd) xgs_nil))))))) (xss_cons (xi1 (XW.t (xw_and (tEq hr xv xi0) (xw_and1 (tGt xv xi0)))) (xs_ret (eos (xmk T.c T.h (ok_Ride___init T) hr (xa_cons xv (xa_cons xv (xa_cons xv xa_nil))))))) (xss_cons (xi1 (XW.t (xw_and (tGt xv xi0) (xw_and1 (tGt xv xi0)))) (xs_ret (eos (xmk T.e T.k (ok_Back___init T) hr (xa_cons xv (xa_cons xv (xa_cons xv (xa_cons xv xa_nil)))))))) (xss_one (xs_ret (eos (xmk T.d T.i (ok_Wait___init T) hr (xa_cons xv (xa_cons xv (xa_cons xv (xa_cons xv xa_nil)))))))))))
noncomputable def b_law_due_1:SF:=(sIf (bAnd (tb (e2 (eqD false) (eV 9) (eC (.int 0)))) (bAnd (tb (e2 (eqD false) (eV 7) (eV 4))) (tb (fun ρ=>((fun ρ=>((aCons (eV 2) (aCons (eV 3) (aCons (eV 6) aNil))) ρ).bind fun ds=>some (.tup ds)) ρ).bind fun x=>((eV 1) ρ).bind fun y=>(dgetD y x).bind fun r=>some (.bl r.isSome))))) (sApp 5 (e2 addD (fun ρ=>((eV 1) ρ).bind fun x=>((fun ρ=>((aCons (eV 2) (aCons (eV 3) (aCons (eV 6) aNil))) ρ).bind fun ds=>some (.tup ds)) ρ).bind fun y=>(dgetD x y).join) (eV 8))) sSkip)
noncomputable def q_law_due_1:EF:=(eComp (lsD (eV 0)) 1 [2,3,4] (gV 0) (bAnd (tb (e2 (eqD false) (e2 ixD (eV 0) (eC (.int 3))) (eV 1))) (bAnd (tb (e2 (eqD false) (e2 ixD (eV 0) (eC (.int 0))) (eV 2))) (tb (e2 (eqD false) (e2 ixD (eV 0) (eC (.int 1))) (eV 3))))) (e2 ixD (eV 0) (eC (.int 2))))
noncomputable def m_law_due:List D→Option D:=mOf ["_law_parts","_law_found","_law_behind","_law_one","_law_other","_law_sums","_law_start","_law_goal","_law_time","_law_within","_law_kind"]
  (sSeq (sSet 5 q_law_due_1)
  (sSeq (sFor (lsD (eV 0)) (gT (gsCons (gV 6) (gsCons (gV 7) (gsCons (gV 8) (gsCons (gV 9) (gsCons (gV 10) gsNil)))))) b_law_due_1)
  (sRet (e2 maxDD (eV 5) (eC .non)))))
theorem ok_law_due (T:Txt K mg a):FnOk P w K mg base CX0 1 a.aD a.aE ["_law_parts","_law_found","_law_behind","_law_one","_law_other"] (LSp K a.ct [0,1,0,0,0] 0 m_law_due) :=
 lf (ms:=[.ow 0,.al 1,.ow 0,.ow 0,.ow 0,.ow 1,.ow 0,.ow 0,.ow 0,.ow 0,.ow 0]) T.ag.fn fun _ _ _ _ _ _ hr nd=>(xss_cons (xcs (k:=1) (N:=["_law_part_here","_law_behind","_law_one","_law_other"]) (om:=[.ow 0]) (cap:=[2,3,4]) (own:=1) nd (xic_list (n:=0) xv) (fun _ _ _ _ _ h=>(xgn h)) (fun _ _ _ _ _=>(xts_one (XW.t (xw_and (tEq hr (xix xv xi0) xv) (xw_and (tEq hr (xix xv xi0) xv) (xw_and1 (tEq hr (xix xv xi0) xv))))))) (fun _ _ _ _ _=>(XE.ow (xix xv xi0)))) (xss_cons (xF (xi_list xv) (xg_tup (n:=0) rfl (xgs_cons (xgN nd) (xgs_cons (xgN nd) (xgs_cons (xgN nd) (xgs_cons (xgN nd) (xgs_cons (xgN nd) xgs_nil)))))) (xss_one (xi1 (XW.t (xw_and (tEq hr xv xi0) (xw_and (tEq hr xv xv) (xw_and1 (xt_din (hu_of hr) (osh (xo_tup (xao_cons (XE.ow xv) (xao_cons (XE.ow xv) (xao_cons (XE.ow xv) xao_nil))))) xv (by with_unfolding_all rfl)))))) (xs_append 5 rfl (eos (xa0 (xe_dix (hu_of hr) (xe_var 1 1) (osh (xo_tup (xao_cons (XE.ow xv) (xao_cons (XE.ow xv) (xao_cons (XE.ow xv) xao_nil))))) (fun _ _=>rfl)) xv)))))) (xss_one (xrt (xe_maxD (k:=0) rfl rfl T.aD xv xn0)))))
noncomputable def q_law_right_1:EF:=(eComp (tsD (eV 8)) 1 [] (gV 0) bTrue (fun ρ=>((aCons (eV 0) aNil) ρ).bind fun ds=>m_law_whole (ds++[])))
noncomputable def b_law_right_1:SF:=(sIf (bOr (bNot (tb (e1 (isiD "tuple") (eV 8)))) (bNot (tb (eN allD (aCons q_law_right_1 aNil))))) (sRet (eC (.bl false))) sSkip)
noncomputable def q_law_right_2:EF:=(eComp (lsD (eV 1)) 1 [] (gV 0) (tb (e2 gtD (e2 ixD (eV 0) (eC (.int 3))) (eC (.int 0)))) (fun ρ=>((aCons (e2 ixD (eV 0) (eC (.int 3))) (aCons (e2 ixD (eV 0) (eC (.int 0))) aNil)) ρ).bind fun ds=>some (.tup ds)))
noncomputable def b_law_right_2:SF:=(sSeq (sSet 7 (fun ρ=>((aCons (eV 1) (aCons (eV 0) (aCons (eV 4) (aCons (eV 5) (aCons (eV 6) aNil))))) ρ).bind fun ds=>m_law_due (ds++[])))
  (sSeq (sIf (tb (e2 (eqD true) (fun ρ=>((eV 0) ρ).bind fun x=>((fun ρ=>((aCons (eV 4) (aCons (eV 5) (aCons (eV 6) aNil))) ρ).bind fun ds=>some (.tup ds)) ρ).bind fun y=>(dgetD x y).bind fun r=>some (r.getD .non)) (eV 7))) (sRet (eC (.bl false))) sSkip)
  (sSet 3 (e2 addD (eV 3) (eN intB (aCons (e2 (isD true) (eV 7) (eC .non)) aNil))))))
noncomputable def b_law_right_3:SF:=(sFor (fun ρ=>((aCons (eV 2) aNil) ρ).bind rng1) (gV 6) b_law_right_2)
noncomputable def q_law_right_3:EF:=(eComp (fun ρ=>(eV 0 ρ).bind valsD) 1 [] (gV 0) bTrue (fun ρ=>((aCons (eV 0) aNil) ρ).bind fun ds=>m_law_whole (ds++[])))
noncomputable def m_law_right:List D→Option D:=mOf ["_law_found","_law_parts","_law_many","_law_count","_law_behind","_law_one","_law_other","_law_due_here","_law_key"]
  (sSeq (sIf (bOr (bNot (tb (e1 isiTD (eV 0)))) (bNot (tb (eN allD (aCons q_law_right_3 aNil))))) (sRet (eC (.bl false))) sSkip)
  (sSeq (sSet 3 (eC (.int 0)))
  (sSeq (sFor (lsD (e1 sortSetT q_law_right_2)) (gT (gsCons (gV 4) (gsCons (gV 5) gsNil))) b_law_right_3)
  (sSeq (sFor (fun ρ=>(eV 0 ρ).bind kysD) (gV 8) b_law_right_1)
  (sRet (e2 (eqD false) (eN lenT (aCons (eV 0) aNil)) (eV 3)))))))
theorem ok_law_right (T:Txt K mg a):FnOk P w K mg base CX0 2 a.aF a.aG ["_law_found","_law_parts","_law_many"] (LSp K a.ct [1,0,0] 0 m_law_right) :=
 lf (ms:=[.al 1,.ow 0,.ow 0,.ow 0,.ow 0,.ow 0,.ow 0,.ow 0,.ow 0]) T.ah.fn fun _ _ _ _ _ _ hr nd=>(xss_cons (xi1 (XW.t (xw_or (xt_not (xt_val (xe_isiT (k:=0) T.aA T.ax bt_dict xv))) (xw_or1 (xt_not (xt_val (xe_callB (k:=0) (call_allL rfl) opn_all rfl T.av bt_all (xa_cons (osh (xo_compZ 0 (N:=["_law_told"]) (om:=[.ow 0]) (cap:=[]) (own:=1) (blk_of (by rfl)) rfl rfl (by decide) (fun _ _ _ _ _=>(xgn (show List.Nodup (["_law_told"]:List Str) from by decide +kernel))) (fun _ _ _ _ _=>xts_nil) (fun _ _ _ _ _=>(xo_c T.ab (ok_law_whole T) hr (xa_cons xv xa_nil))))) xa_nil))))))) (xrt (xe_bl (n:=0)))) (xss_cons (xsE nd xi0) (xss_cons (xF (xi_list (osh (xo_sortsetT rfl hr.units rfl T.aH rfl T.aG (osh (xcp (N:=["_law_part_here"]) (om:=[.ow 0]) (cap:=[]) (own:=1) (xic_list (n:=0) xv) (fun _ _ _ _ _ h=>(xgn h)) (fun _ _ _ _ _=>(xts_one (tGt (xix xv xi0) xi0))) (fun _ _ _ _ _=>(eos (xo_tup (xao_cons (XE.ow (xix xv xi0)) (xao_cons (XE.ow (xix xv xi0)) xao_nil)))))))))) (xg_tup (n:=0) rfl (xgs_cons (xgN nd) (xgs_cons (xgN nd) xgs_nil))) (xss_one (xF (xi_range1 (n:=0) T.aF (xa_cons xv xa_nil)) (xgN nd) (xss_cons (xsS nd (xo_c T.ag (ok_law_due T) hr (xa_cons xv (xa_cons xv (xa_cons xv (xa_cons xv (xa_cons xv xa_nil))))))) (xss_cons (xi1 (tNe hr (xe_get1 (n:=1) (hu_of hr) (xe_var 0 1) (osh (xo_tup (xao_cons (XE.ow xv) (xao_cons (XE.ow xv) (xao_cons (XE.ow xv) xao_nil))))) ⟨rfl,rfl,rfl,rfl⟩) xv) (xrt (xe_bl (n:=0)))) (xss_one (xsS nd (eos (xa0 xv (xe_callTy (k:=0) call_int1 opn_int rfl T.az bt_int (xa_cons (vNi xv xn0) xa_nil))))))))))) (xss_cons (xs_forK 0 (xgN nd) (xss_one (xi1 (XW.t (xw_or (xt_not (xt_val (xe_isi (k:=0) (by decide) T.aA T.aJ bt_tuple xv))) (xw_or1 (xt_not (xt_val (xe_callB (k:=0) (call_allL rfl) opn_all rfl T.av bt_all (xa_cons (osh (xcp (N:=["_law_part_here"]) (om:=[.ow 0]) (cap:=[]) (own:=1) (xic_tup (n:=0) xv) (fun _ _ _ _ _ h=>(xgn h)) (fun _ _ _ _ _=>xts_nil) (fun _ _ _ _ _=>(xo_c T.ab (ok_law_whole T) hr (xa_cons xv xa_nil))))) xa_nil))))))) (xrt (xe_bl (n:=0))))) PassesOwn.never rfl) (xss_one (xrt (vEq hr (xe_callB (k:=0) call_lenT opn_lenT rfl T.aB bt_len (xa_cons xv xa_nil)) xv)))))))
noncomputable def b_law_layers_1:SF:=(sSeq (sSet 5 (fun ρ=>((aCons (eV 1) (aCons (e2 addD (e2 addD (eC (.int 100)) (e2 mulI (eC (.int 2)) (eV 3))) (e2 modD (eV 4) (eC (.int 2)))) aNil)) ρ).bind fun ds=>m_law_mixed (ds++[])))
  (sApp 2 (fun ρ=>((aCons (e2 ixD (eV 0) (eV 3)) (aCons (e2 ixD (eV 0) (eV 4)) (aCons (e2 ixD (fun ρ=>((aCons (e2 modD (eV 5) (eC (.int 7))) (aCons (e2 modD (eV 5) (e2 powD (eC (.int 10)) (eC (.int 9)))) aNil)) ρ).bind fun ds=>some (.lst ds)) (e2 modD (eV 1) (eC (.int 2)))) (aCons (eC (.int 0)) (aCons (e2 modD (eV 5) (eC (.int 3))) aNil))))) ρ).bind fun ds=>some (.tup ds))))
noncomputable def b_law_layers_2:SF:=(sFor (lsD (fun ρ=>((aCons (e2 subD (e2 addD (eV 3) (eC (.int 2))) (e2 modD (eV 3) (eC (.int 2)))) (aCons (e2 subD (e2 addD (eV 3) (eC (.int 3))) (e2 modD (eV 3) (eC (.int 2)))) aNil)) ρ).bind fun ds=>some (.lst ds))) (gV 4) b_law_layers_1)
noncomputable def m_law_layers:List D→Option D:=mOf ["_law_order","_law_cell","_law_parts","_law_k","_law_other","_law_number"]
  (sSeq (sSet 2 (fun ρ=>(aNil ρ).bind fun ds=>some (.lst ds)))
  (sSeq (sFor (fun ρ=>((aCons (eC (.int 38)) aNil) ρ).bind rng1) (gV 3) b_law_layers_2)
  (sRet (eV 2))))
theorem ok_law_layers (T:Txt K mg a):FnOk P w K mg base CX0 2 a.aH a.aI ["_law_order","_law_cell"] (LSp K a.ct [0,0] 1 m_law_layers) :=
 lf (ms:=[.ow 0,.ow 0,.ow 1,.ow 0,.ow 0,.ow 0]) T.ai.fn fun _ _ _ _ _ _ hr nd=>(xss_cons (xsS nd (xo_lst (k:=0) xao_nil)) (xss_cons (xF (xi_range1 (n:=0) T.aF (xa_cons xi0 xa_nil)) (xgN nd) (xss_one (xF (xi_list (osh (xo_lst (k:=0) (xao_cons (XE.ow (oSub (osh (xa0 xv xi0)) (oMod xv xi0))) (xao_cons (XE.ow (oSub (osh (xa0 xv xi0)) (oMod xv xi0))) xao_nil))))) (xgN nd) (xss_cons (xsS nd (xo_c T.ac (ok_law_mixed T) hr (xa_cons xv (xa_cons (osh (xa0 (osh (xa0 xi0 (oMul xi0 xv))) (oMod xv xi0))) xa_nil)))) (xss_one (xs_append 2 rfl (eos (xo_tup (xao_cons (XE.ow (xix xv xv)) (xao_cons (XE.ow (xix xv xv)) (xao_cons (XE.ow (xix (osh (xo_lst (k:=0) (xao_cons (XE.ow (oMod xv xi0)) (xao_cons (XE.ow (oMod xv (xe_op (k:=0) op_pow op2_pow xi0 xi0))) xao_nil)))) (oMod xv xi0))) (xao_cons (XE.ow xi0) (xao_cons (XE.ow (oMod xv xi0)) xao_nil))))))))))))) (xss_one (xs_retV (i:=2) rfl))))
noncomputable def q_law_1:EF:=(eComp (lsD (eV 4)) 1 [] (gV 0) bTrue (fun ρ=>((aCons (eV 0) aNil) ρ).bind fun ds=>m_law_arrow (ds++[])))
noncomputable def q_law_2:EF:=(eComp (fun ρ=>((aCons (eV 2) aNil) ρ).bind rng1) 1 [] (gV 0) bTrue (e2 addD (e2 ixD (eC (.str "abcdefghijklmnopqrstuvwxyz")) (e2 modD (eV 0) (eC (.int 26)))) (e2 ixD (fun ρ=>((aCons (eC (.str "")) (aCons (eC (.str "b")) aNil)) ρ).bind fun ds=>some (.lst ds)) (e2 fdivD (eV 0) (eC (.int 26))))))
noncomputable def q_law_3:EF:=(eComp (lsD (fun ρ=>((eV 0) ρ).bind fun d=>((pInt (eC (.int 1))) ρ).bind fun l=>((pInt (eC (.int 15))) ρ).bind fun h=>sliceD d l h)) 1 [3] (gV 0) bTrue (fun ρ=>((aCons (eV 0) (aCons (eV 1) aNil)) ρ).bind fun ds=>m_law_part (ds++[])))
noncomputable def m_law:List D→Option D:=mOf ["_law_script","_law_cell","_law_many","_law_order","_law_parts","_law_names","_law_net","_law_found"]
  (sSeq (sSet 1 (fun ρ=>((aCons (eV 0) (aCons (eC (.int 0)) aNil)) ρ).bind fun ds=>m_law_cell_at (ds++[])))
  (sSeq (sSet 2 (e2 addD (eC (.int 1)) (e2 modD (eV 1) (eC (.int 7)))))
  (sSeq (sIf (tb (e2 (eqD false) (e2 modD (e2 fdivD (eV 1) (eC (.int 7))) (eC (.int 8))) (eC (.int 3)))) (sSet 2 (eC (.int 40))) sSkip)
  (sSeq (sSet 3 (fun ρ=>((aCons (eV 2) (aCons (e2 fdivD (eV 1) (eC (.int 56))) aNil)) ρ).bind fun ds=>m_law_turned (ds++[])))
  (sSeq (sSet 4 q_law_3)
  (sSeq (sIf (tb (e2 (eqD false) (eV 2) (eC (.int 40)))) (sSet 4 (e2 addD (eV 4) (fun ρ=>((aCons (eV 3) (aCons (e2 fdivD (eV 1) (eC (.int 56))) aNil)) ρ).bind fun ds=>m_law_layers (ds++[])))) sSkip)
  (sSeq (sSet 5 q_law_2)
  (sSeq (sSet 6 (fun ρ=>((aCons (eV 5) (aCons q_law_1 aNil)) ρ).bind fun ds=>i_Net___init 4 (ds++[])))
  (sSeq (sSet 7 (fun ρ=>((aCons (eV 6) aNil) ρ).bind fun ds=>m_steps (ds++[])))
  (sSeq (sIf (bNot (tb (fun ρ=>((aCons (eV 7) (aCons (eV 4) (aCons (eV 2) aNil))) ρ).bind fun ds=>m_law_right (ds++[])))) (sRet (eC (.bl false))) sSkip)
  (sSeq (sPutD 7 (fun ρ=>((aCons (eC (.int 1)) (aCons (eC (.int 0)) (aCons (eC (.int 0)) aNil))) ρ).bind fun ds=>some (.tup ds)) (e2 subD (eC (.int 0)) (eC (.int 5))))
  (sSeq (sPutD 7 (fun ρ=>((aCons (eC (.int 9)) (aCons (eC (.int 0)) (aCons (eC (.int 0)) aNil))) ρ).bind fun ds=>some (.tup ds)) (eC (.int 1)))
  (sRet (fun ρ=>((aCons (fun ρ=>((aCons (eV 6) aNil) ρ).bind fun ds=>m_steps (ds++[])) (aCons (eV 4) (aCons (eV 2) aNil))) ρ).bind fun ds=>m_law_right (ds++[])))))))))))))))
theorem ok_law (T:Txt K mg a):FnOk P w K mg base CX0 6 a.aJ a.aK ["_law_script"] (LSp K a.ct [0] 0 m_law) :=
 lf (ms:=[.ow 0,.ow 0,.ow 0,.ow 0,.ow 0,.ow 0,.ow 0,.ow 1]) T.aj.fn fun _ _ _ _ _ _ hr nd=>(xss_cons (xsS nd (xo_c T.aa (ok_law_cell_at T) hr (xa_cons xv (xa_cons xi0 xa_nil)))) (xss_cons (xsS nd (eos (xa0 xi0 (oMod xv xi0)))) (xss_cons (xi1 (tEq hr (oMod (oDiv xv xi0) xi0) xi0) (xsE nd xi0)) (xss_cons (xsS nd (xo_c T.ad (ok_law_turned T) hr (xa_cons xv (xa_cons (oDiv xv xi0) xa_nil)))) (xss_cons (xcs (k:=0) (N:=["_law_one","_law_order"]) (om:=[.ow 0]) (cap:=[3]) (own:=1) nd (xic_list (n:=0) (osh (xo_slice (n:=0) (by decide) xv (xp_some xi0) (xp_some xi0)))) (fun _ _ _ _ _ h=>(xgn h)) (fun _ _ _ _ _=>xts_nil) (fun _ _ _ _ _=>(xo_c T.ae (ok_law_part T) hr (xa_cons xv (xa_cons xv xa_nil))))) (xss_cons (xi1 (tEq hr xv xi0) (xsS nd (eos (xa0 xv (xc T.ai (ok_law_layers T) hr (xa_cons xv (xa_cons (oDiv xv xi0) xa_nil))))))) (xss_cons (xcs (k:=0) (N:=["_law_k"]) (om:=[.ow 0]) (cap:=[]) (own:=1) nd (XI.cc (xi_range1 (n:=0) T.aF (xa_cons xv xa_nil))) (fun _ _ _ _ _ h=>(xgn h)) (fun _ _ _ _ _=>xts_nil) (fun _ _ _ _ _=>(eos (xa0 (xix (xe_str (n:=0)) (oMod xv xi0)) (xix (osh (xo_lst (k:=0) (xao_cons (XE.ow (xe_str (n:=0))) (xao_cons (XE.ow (xe_str (n:=0))) xao_nil)))) (oDiv xv xi0)))))) (xss_cons (xsS nd (eos (xmk T.f T.t (ok_Net___init T) hr (xa_cons xv (xa_cons (osh (xcp (N:=["_law_part_here"]) (om:=[.ow 0]) (cap:=[]) (own:=1) (xic_list (n:=0) xv) (fun _ _ _ _ _ h=>(xgn h)) (fun _ _ _ _ _=>xts_nil) (fun _ _ _ _ _=>(xo_c T.af (ok_law_arrow T) hr (xa_cons xv xa_nil))))) xa_nil))))) (xss_cons (xsS nd (xo_c T.z (ok_steps T) hr (xa_cons xv xa_nil))) (xss_cons (xi1 (xt_not (xt_val (xc T.ah (ok_law_right T) hr (xa_cons xv (xa_cons xv (xa_cons xv xa_nil)))))) (xrt (xe_bl (n:=0)))) (xss_cons (xs_putD 7 rfl (hu_of hr) (osh (xo_tup (xao_cons (XE.ow xi0) (xao_cons (XE.ow xi0) (xao_cons (XE.ow xi0) xao_nil))))) (oSub xi0 xi0)) (xss_cons (xs_putD 7 rfl (hu_of hr) (osh (xo_tup (xao_cons (XE.ow xi0) (xao_cons (XE.ow xi0) (xao_cons (XE.ow xi0) xao_nil))))) xi0) (xss_one (xs_ret (xo_c T.ah (ok_law_right T) hr (xa_cons (XO.sh (n:=1) (xo_c T.z (ok_steps T) hr (xa_cons xv xa_nil))) (xa_cons xv (xa_cons xv xa_nil))))))))))))))))))
end
local macro_rules | `(tactic| walk_at "mir")=>`(tactic| simp -implicitDefEqProofs [mOf,startD,sSeq,sIf,sSet,sRet,sRetN,sDrop,sPar,sAsg,sApp,sFor,lsD,asL_lst,sSkip,eC,e1,e2,eN,aNil,aCons,pNo,pInt,sliceD_lst,tb,asB_bl,bNot,bAnd,bOr,eB,eIf,gV,gT,gsCons,gsNil,addD_int,subD_int,ltD_int,leD_int,gtD_int,geD_int,lenD_lst,lenD_tup,negD_int,absD_int,isD_non,isD_bl,D.isN,D.isB,eqD_int,eqD_bl,fdivD_lit,modD_pos,mulI_l,mulI_r,powD_lit,shlD_lit,shrD_lit,sliceD_lst,max2D_int,min2D_int,sFz,outFz_rt,outFz_nx, *])
def vec (n:Nat) (f:Nat→Int):List D:=(List.range n).map fun g=>D.int (f g)
theorem vec_len (n:Nat) (f:Nat→Int):(vec n f).length=n:=by simp [vec]
theorem vec_at {n:Nat} (f:Nat→Int) {g:Nat} (h:g<n):atI (vec n f) (g:Int)=some (.int (f g)):=by refine atI_nat ?_;simp [vec,h]
theorem vec_set {n:Nat} (f:Nat→Int) {g:Nat} (h:g<n) (v:Int):setAt (vec n f) (g:Int) (.int v)=some (vec n fun x=>if x=g then v else f x):=by
 unfold setAt;have hx:ixN (vec n f).length (g:Int)=some g:=by unfold ixN;rw [vec_len];rw [if_pos (by omega),if_pos (by omega)];simp
 rw [hx];simp only [Option.bind_some,Option.some.injEq];apply List.ext_getElem
 ·simp [vec]
 ·intro i h1 h2;simp [vec,List.getElem_set];by_cases hi:g=i
  ·subst hi; simp
  ·rw [if_neg hi,if_neg (fun z=>hi z.symm)]
theorem aug_vec {i:Nat} {fj f:EF} {gi:Int→Int→Int} {ρ:L3.Env} {n g:Nat} {w:Nat→Int} {y:Int} (h1:(ρ[i]?).join=some (.lst (vec n w))) (h2:fj ρ=some (.int (g:Int))) (h3:f ρ=some (.int y)) (hg:g<n) :
  sAugL i fj gi f ρ=some (.nx (ρ.set i (some (.lst (vec n fun x=>if x=g then gi (w g) y else w x))))):=by
 unfold sAugL;have:eV i ρ=some (.lst (vec n w)):=h1;rw [this,h2,h3];simp only [Option.bind_some,vec_at w hg,vec_set w hg]
def nats (p:List Nat):List D:=p.map fun (x:Nat)=>D.int (x:Int)
theorem rng_of {f:EF} {r:L3.Env} {n:Nat} (h:f r=some (.int (n:Int))) (hn:n≤1000000):((aCons f aNil) r).bind rng1=some ((List.range n).map fun (t:Nat)=>D.int (t:Int)):=by
 have e:(aCons f aNil) r=some [.int (n:Int)]:=by unfold aCons; rw [h]; rfl
 rw [e,Option.bind_some,rng1_int (by omega) (by omega)];unfold upto;simp
variable {α:Type}
theorem comp_of {fi:L3.Env→Option (List D)} {own:Nat} {cap:List Nat} {g:D→L3.Env→Option L3.Env} {p:BF} {f:EF} {r:L3.Env} (enc:α→D) (q:α→Bool) (h:α→D) (xs:List α) (hi:fi r=some (xs.map enc)) (hl:xs.length≤16777216)
  (st:∀x∈xs,∃ρ1,g (enc x) (List.replicate own none++capsD r cap)=some ρ1∧p ρ1=some (q x)∧(q x=true→f ρ1=some (h x))):eComp fi own cap g p f r=some (.lst ((xs.filter q).map h)):=by
 unfold eComp;rw [hi];simp only [Option.bind_some,List.length_map];rw [if_pos hl,compD_map enc q h xs st];rfl
theorem ixN_nat {n i:Nat} (h:i<n):ixN n (i:Int)=some i:=by unfold ixN;rw [if_pos (by omega),if_pos (by omega)];simp
theorem comp_all {fi:L3.Env→Option (List D)} {own:Nat} {cap:List Nat} {g:D→L3.Env→Option L3.Env} {f:EF} {r:L3.Env} (enc:α→D) (h:α→D) (xs:List α) (hi:fi r=some (xs.map enc)) (hl:xs.length≤16777216)
  (st:∀x∈xs,∃ρ1,g (enc x) (List.replicate own none++capsD r cap)=some ρ1∧f ρ1=some (h x)):eComp fi own cap g bTrue f r=some (.lst (xs.map h)):=by
 have:=comp_of (p:=bTrue) enc (fun _=>true) h xs hi hl fun x hx=>by obtain ⟨ρ1,h1,h2⟩:=st x hx;exact ⟨ρ1,h1,rfl,fun _=>h2⟩
 rw [this,List.filter_eq_self.mpr fun _ _=>rfl]
theorem enum_zip {α:Type} (enc:α→D):∀(as:List α) (k:Nat),enumD k (as.map enc)=(as.zipIdx k).map fun (p:α×Nat)=>D.tup [.int (p.2:Int),enc p.1]
 | [],_=>rfl
 | a::as,k=>by show _::enumD (k+1) (as.map enc)=_::_;rw [enum_zip enc as (k+1)]
inductive Kd where
 | ride | wait | back
deriving DecidableEq
structure Arw where
 c:Kd
 s:Nat
 g:Nat
 t:Int
 b:Nat
deriving DecidableEq
variable {P:List Nat} {W:List Arw} {a:Arw} {here nc:Nat}
namespace Kahn
def cnt (W:List Arw) (P:List Nat) (g:Nat):Nat:=W.countP fun a=>decide (a.g=g∧a.s∉P)
structure Ok (W:List Arw) (nc:Nat) (p:List Nat):Prop where
 nd:p.Nodup
 lt:∀x∈p,x<nc
 ord:∀(i x:Nat),p[i]?=some x→∀a∈W,a.g=x→a.s∈p.take i
theorem Ok.snoc {p:List Nat} {x:Nat} (h:Ok W nc p) (hx:x∉p) (hl:x<nc) (ho:∀a∈W,a.g=x→a.s∈p):Ok W nc (p++[x]) where
 nd:=by rw [List.nodup_append];exact ⟨h.nd,by simp,fun a ha b hb e=>by simp at hb; subst hb; subst e; exact hx ha⟩
 lt:=fun y hy=>by
  rcases List.mem_append.mp hy with hy | hy
  ·exact h.lt y hy
  ·simp at hy; subst hy; exact hl
 ord:=fun i y hy a ha e=>by
  by_cases hi:i<p.length
  ·rw [List.getElem?_append_left hi] at hy;rw [List.take_append_of_le_length (by omega)];exact h.ord i y hy a ha e
  ·rw [List.getElem?_append_right (by omega)] at hy;have hi':i-p.length=0:=by
    cases hq:i-p.length with
    | zero=>rfl
    | succ k=>rw [hq] at hy; simp at hy
   rw [hi'] at hy;simp at hy;subst hy;have:i=p.length:=by omega
   rw [this,List.take_left']
   ·exact ho a ha e
   ·rfl
def stp (here:Nat) (S:(Nat→Int)×List Nat) (a:Arw):(Nat→Int)×List Nat :=
 if a.s=here then
  let f':Nat→Int:=fun x=>if x=a.g then S.1 a.g-1 else S.1 x
  (f',if f' a.g=0 then S.2++[a.g] else S.2)
 else S
structure In (W:List Arw) (nc:Nat) (P:List Nat) (here:Nat) (pre:List Arw) (S:(Nat→Int)×List Nat):Prop where
 ok:Ok W nc S.2
 f:∀g,S.1 g=(cnt W P g:Int)-(pre.countP fun a=>decide (a.g=g∧a.s=here):Nat)
 z:∀g,g<nc→(g∈S.2↔S.1 g=0)
 sub:∀x,(x∈P∨x=here)→x∈S.2
theorem cnt_ge {pre post:List Arw} (e:W=pre++a::post) (hP:here∉P) (ha:a.s=here):(pre.countP fun x=>decide (x.g=a.g∧x.s=here))+1≤cnt W P a.g:=by
 unfold cnt;rw [e,List.countP_append,List.countP_cons];have h1:(pre.countP fun x=>decide (x.g=a.g∧x.s=here))≤pre.countP fun x=>decide (x.g=a.g∧x.s∉P):=by apply List.countP_mono_left;intro x _ hx;simp at hx ⊢;exact ⟨hx.1,by rw [hx.2]; exact hP⟩
 have h2:(decide (a.g=a.g∧a.s∉P))=true:=by simp [ha,hP]
 rw [h2];simp only [if_true];omega
theorem In.step {pre post:List Arw} {S:(Nat→Int)×List Nat} (h:In W nc P here pre S) (e:W=pre++a::post) (hP:here∉P) (hl:a.g<nc):In W nc P here (pre++[a]) (stp here S a):=by
 by_cases ha:a.s=here
 ·have hge:=cnt_ge e hP ha;have hf:∀g,(if g=a.g then S.1 a.g-1 else S.1 g)=(cnt W P g:Int)-((pre++[a]).countP fun x=>decide (x.g=g∧x.s=here):Nat):=fun g=>by
   rw [List.countP_append,List.countP_singleton];by_cases hg:g=a.g
   ·subst hg;rw [if_pos rfl,h.f];have:decide (a.g=a.g∧a.s=here)=true:=by simp [ha]
    rw [this];simp only [if_true];omega
   ·rw [if_neg hg,h.f];have:decide (a.g=g∧a.s=here)=false:=by simp; intro z; exact absurd z.symm hg
    rw [this];simp
  have hne:S.1 a.g≠0:=by rw [h.f]; omega
  have hnot:a.g∉S.2:=fun z=>hne ((h.z a.g hl).mp z);by_cases h0:S.1 a.g-1=0
  ·have es:stp here S a=(fun x=>if x=a.g then S.1 a.g-1 else S.1 x,S.2++[a.g]):=by unfold stp; simp [ha,h0]
   rw [es];refine ⟨h.ok.snoc hnot hl fun b hb eb=>?_,hf,fun g hg=>?_,fun x hx=>List.mem_append_left _ (h.sub x hx)⟩
   ·
    refine h.sub _ (Classical.byContradiction fun hc=>?_);have hc1:b.s∉P:=fun z=>hc (.inl z);have hc2:b.s≠here:=fun z=>hc (.inr z);have h1:cnt W P a.g=(pre.countP fun x=>decide (x.g=a.g∧x.s=here))+1:=by have:=h.f a.g;omega
    have h2:(W.countP fun x=>decide (x.g=a.g∧x.s=here))+(W.countP fun x=>decide (x.g=a.g∧x.s∉P∧x.s≠here))≤cnt W P a.g:=by
     have:cnt W P a.g=(W.countP fun x=>decide (x.g=a.g∧x.s=here))+(W.countP fun x=>decide (x.g=a.g∧x.s∉P∧x.s≠here)):=by
      unfold cnt;clear h1 hc hc1 hc2 eb hb h0 hf hge e h;induction W with
      | nil=>rfl
      | cons x W ih =>simp only [List.countP_cons];rw [ih];by_cases q1:x.g=a.g <;> by_cases q2:x.s=here <;> by_cases q3:x.s∈P <;> simp_all <;> omega
     omega
    have h3:(pre.countP fun x=>decide (x.g=a.g∧x.s=here))+1≤W.countP fun x=>decide (x.g=a.g∧x.s=here):=by
     rw [e,List.countP_append,List.countP_cons];have:decide (a.g=a.g∧a.s=here)=true:=by simp [ha]
     rw [this];simp only [if_true];omega
    have h4:0<W.countP fun x=>decide (x.g=a.g∧x.s∉P∧x.s≠here):=by rw [List.countP_pos_iff];exact ⟨b,hb,by simp [eb,hc1,hc2]⟩
    omega
   ·rw [List.mem_append,List.mem_singleton];by_cases hg2:g=a.g
    ·subst hg2; simp [h0]
    ·dsimp only; rw [if_neg hg2,h.z g hg]; simp [hg2]
  ·have es:stp here S a=(fun x=>if x=a.g then S.1 a.g-1 else S.1 x,S.2):=by unfold stp; simp [ha,h0]
   rw [es];refine ⟨h.ok,hf,fun g hg=>?_,h.sub⟩;by_cases hg2:g=a.g
   ·subst hg2;dsimp only;rw [if_pos rfl];exact ⟨fun z=>absurd z hnot,fun z=>absurd z h0⟩
   ·dsimp only; rw [if_neg hg2]; exact h.z g hg
 ·have:stp here S a=S:=by unfold stp; rw [if_neg ha]
  rw [this];refine ⟨h.ok,fun g=>?_,h.z,h.sub⟩;rw [List.countP_append,List.countP_singleton];have:decide (a.g=g∧a.s=here)=false:=by simp [ha]
  rw [this,h.f];simp
theorem In.fold {W:List Arw} {nc:Nat} {P:List Nat} {here:Nat} (hP:here∉P) (hl:∀a∈W,a.g<nc):∀(post pre:List Arw) (S:(Nat→Int)×List Nat),W=pre++post→In W nc P here pre S→In W nc P here W (post.foldl (stp here) S)
 | [],pre,S,e,h=>by rw [e] ; simpa using (by rw [List.append_nil] at e; subst e; exact h)
 | a::post,pre,S,e,h=>by have:=In.fold hP hl post (pre++[a]) (stp here S a) (by rw [e]; simp) (h.step e hP (hl a (by rw [e]; simp)));exact this
theorem cnt_snoc {g:Nat} (hP:here∉P):(cnt W P g:Int)-(W.countP fun a=>decide (a.g=g∧a.s=here):Nat)=cnt W (P++[here]) g:=by
 have:cnt W P g=(W.countP fun a=>decide (a.g=g∧a.s=here))+cnt W (P++[here]) g:=by
  unfold cnt;induction W with
  | nil=>rfl
  | cons x W ih =>simp only [List.countP_cons];rw [ih];by_cases q1:x.g=g <;> by_cases q2:x.s=here <;> by_cases q3:x.s∈P <;> simp_all <;> omega
 omega
structure Wh (W:List Arw) (nc:Nat) (f:Nat→Int) (p:List Nat) (d:Nat):Prop where
 ok:Ok W nc p
 dl:d≤p.length
 fe:∀g,f g=cnt W (p.take d) g
 z:∀g,g<nc→(g∈p↔f g=0)
theorem Wh.step {f:Nat→Int} {p:List Nat} {d:Nat} (h:Wh W nc f p d) (hl:∀a∈W,a.g<nc) (hh:p[d]?=some here) :
  Wh W nc (W.foldl (stp here) (f,p)).1 (W.foldl (stp here) (f,p)).2 (d+1)∧∃q,(W.foldl (stp here) (f,p)).2=p++q:=by
 have hd:d<p.length:=(List.getElem?_eq_some_iff.mp hh).1;have hP:here∉p.take d:=fun z=>by
  obtain ⟨i,hi,e⟩:=List.mem_iff_getElem.mp z;have hi':i<d:=by rw [List.length_take] at hi; omega
  rw [List.getElem_take] at e;have e2:p[d]=here:=by have:=List.getElem?_eq_some_iff.mp hh; exact this.2
  have:=(List.getElem_inj (xs:=p) (h₀:=by omega) (h₁:=hd) h.ok.nd).mp (e.trans e2.symm);omega
 have hext:∀(l:List Arw) (S:(Nat→Int)×List Nat),∃q,(l.foldl (stp here) S).2=S.2++q:=by
  intro l;induction l with
  | nil=>exact fun S=>⟨[],by simp⟩
  | cons a l ih =>
   intro S;obtain ⟨q,hq⟩:=ih (stp here S a);have:∃r,(stp here S a).2=S.2++r:=by
    by_cases ha:a.s=here
    ·by_cases h0:S.1 a.g-1=0
     ·exact ⟨[a.g],by unfold stp; simp [ha,h0]⟩
     ·exact ⟨[],by unfold stp; simp [ha,h0]⟩
    ·exact ⟨[],by unfold stp; simp [ha]⟩
   obtain ⟨r,hr⟩:=this;exact ⟨r++q,by rw [List.foldl_cons,hq,hr,List.append_assoc]⟩
 obtain ⟨q,hq⟩:=hext W (f,p);have I:=In.fold hP hl W [] (f,p) rfl ⟨h.ok,fun g=>by show f g=_; rw [h.fe]; simp,h.z,fun x hx=>by
  rcases hx with hx | rfl
  ·exact List.mem_of_mem_take hx
  ·exact List.mem_iff_getElem?.mpr ⟨d,hh⟩⟩
 have htake:(W.foldl (stp here) (f,p)).2.take (d+1)=p.take d++[here]:=by rw [hq];show (p++q).take (d+1)=_;rw [List.take_append_of_le_length (by omega),List.take_succ,hh];rfl
 refine ⟨⟨I.ok,?_,fun g=>?_,I.z⟩,q,hq⟩
 ·rw [hq];show d+1≤(p++q).length;rw [List.length_append]; omega
 ·rw [I.f,htake];exact cnt_snoc hP
theorem cnt_zero {g:Nat}:cnt W P g=0↔∀a∈W,a.g=g→a.s∈P:=by
 unfold cnt;rw [List.countP_eq_zero];constructor
 ·intro h a ha e;have:=h a ha;simp at this;exact Classical.byContradiction fun z=>z (this e)
 ·intro h a ha;simp;exact h a ha
theorem Wh.all {f:Nat→Int} {p:List Nat} (h:Wh W nc f p p.length) (rank:Nat→Nat) (hr:∀a∈W,rank a.s<rank a.g) (hs:∀a∈W,a.s<nc):∀g,g<nc→g∈p:=by
 have:∀n g,rank g<n→g<nc→g∈p:=by
  intro n;induction n with
  | zero=>intro g h; omega
  | succ n ih =>intro g hg hl;rw [h.z g hl,h.fe,List.take_length];have:cnt W p g=0:=cnt_zero.mpr fun a ha e=>ih a.s (by have:=hr a ha; rw [e] at this; omega) (hs a ha);rw [this]; rfl
 exact fun g hl=>this (rank g+1) g (by omega) hl
theorem len_of {p:List Nat} (nd:p.Nodup) (lt:∀x∈p,x<nc) (all:∀g,g<nc→g∈p):p.length=nc:=by
 have h1:p.Perm (List.range nc):=by rw [List.perm_ext_iff_of_nodup nd List.nodup_range];intro a;rw [List.mem_range];exact ⟨lt a,all a⟩
 simpa using h1.length_eq
theorem len_le {p:List Nat} (nd:p.Nodup) (lt:∀x∈p,x<nc):p.length≤nc:=by
 have h1:(p++(List.range nc).filter fun x=>decide (x∉p)).Perm (List.range nc):=by
  rw [List.perm_ext_iff_of_nodup (by rw [List.nodup_append];refine ⟨nd,List.nodup_range.filter _,fun a ha b hb e=>?_⟩;subst e;simp at hb;exact hb.2 ha) List.nodup_range];intro a;rw [List.mem_append,List.mem_filter,List.mem_range];constructor
  ·rintro (h | h)
   ·exact lt a h
   ·exact h.1
  ·intro h;by_cases ha:a∈p
   ·exact .inl ha
   ·exact .inr ⟨h,by simpa using ha⟩
 have:=h1.length_eq;rw [List.length_append,List.length_range] at this;omega
end Kahn
def Kd.n:Kd→Nat
 | .ride=>1 | .wait=>2 | .back=>3
def encA (a:Arw):D:=.obj a.c.n ["start","goal","time","behind"] [.int a.s,.int a.g,.int a.t,.int a.b]
theorem fs (a:Arw):fldD [0,1,2,3] "start" (encA a)=some (.int a.s):=by obtain ⟨c,_,_,_,_⟩:=a; cases c <;> rfl
theorem fg (a:Arw):fldD [0,1,2,3] "goal" (encA a)=some (.int a.g):=by obtain ⟨c,_,_,_,_⟩:=a; cases c <;> rfl
theorem ft (a:Arw):fldD [0,1,2,3] "time" (encA a)=some (.int a.t):=by obtain ⟨c,_,_,_,_⟩:=a; cases c <;> rfl
theorem fb (a:Arw):fldD [0,1,2,3] "behind" (encA a)=some (.int a.b):=by obtain ⟨c,_,_,_,_⟩:=a; cases c <;> rfl
structure Right (nc:Nat) (a:Arw):Prop where
 s:a.s<nc
 g:a.g<nc
 t0:0≤a.t
 t1:a.t≤1000000000
 b:a.b≤4
 r:a.c=.ride→a.b=0
 k:a.c=.back→1≤a.b
theorem t_within {n l m:Int} (h1:l≤n) (h2:n≤m):m_lies_within [.int n,.int l,.int m]=some (.bl true):=by unfold m_lies_within;have q1 (i:Int):isiD "int" (.int i)=some (.bl true):=rfl;have q2 (i:Int):isiD "bool" (.int i)=some (.bl false):=rfl;walk_at "mir"
theorem isA (all sub:List Nat) (a:Arw):isiC all sub (encA a)=if all.contains a.c.n=true then some (.bl (sub.contains a.c.n)) else none:=rfl
theorem t_right (h:Right nc a):m_is_right [encA a,.int (nc:Int)]=some (.bl true):=by
 have w1:m_lies_within [.int (a.s:Int),.int 0,.int ((nc:Int)-1)]=some (.bl true):=t_within (by omega) (by have:=h.s; omega);have w2:m_lies_within [.int (a.g:Int),.int 0,.int ((nc:Int)-1)]=some (.bl true):=t_within (by omega) (by have:=h.g; omega);have w3:m_lies_within [.int a.t,.int 0,.int 1000000000]=some (.bl true):=t_within h.t0 h.t1;have f1:=fs a;have f2:=fg a;have f3:=ft a;have f4:=fb a;have hi:=fun all sub=>isA all sub a;have hb:=h.b;have hr:=h.r;have hk:=h.k;clear h;unfold m_is_right;cases hc:a.c with
 | ride =>have w4:m_lies_within [.int (a.b:Int),.int 0,.int 0]=some (.bl true):=t_within (by omega) (by have:=hr hc; omega);rw [hc] at hi;clear hr hk hb;have hn:Kd.ride.n=1:=rfl;walk_at "mir"
 | wait =>have w4:m_lies_within [.int (a.b:Int),.int 0,.int 4]=some (.bl true):=t_within (by omega) (by omega);rw [hc] at hi;clear hr hk hb;have hn:Kd.wait.n=2:=rfl;walk_at "mir"
 | back =>have w4:m_lies_within [.int (a.b:Int),.int 1,.int 4]=some (.bl true):=t_within (by have:=hk hc; omega) (by omega);rw [hc] at hi;clear hr hk hb;have hn:Kd.back.n=3:=rfl;walk_at "mir"
def W0 (as:List Arw):List Arw:=as.filter fun a=>decide (a.b=0)
theorem t_within_list (as:List Arw) (l:as.length≤16777216) (r:L3.Env) (h:r[1]?.join=some (.lst (as.map encA))) :
  q_placed_goings_2 r=some (.lst ((W0 as).map encA)):=by
 have e:lsD (eV 1) r=some (as.map encA):=by unfold lsD; have:eV 1 r=some (.lst (as.map encA)):=h; rw [this]; rfl
 refine comp_of encA (fun a=>decide (a.b=0)) encA as e l fun a _=>⟨_,rfl,?_,fun _=>rfl⟩;have:=fb a;walk_at "mir"
def cst (s:(Nat→Int)×Option D) (a:Arw):(Nat→Int)×Option D:=(fun x=>if x=a.g then s.1 a.g+1 else s.1 x,some (encA a))
theorem cst_fold:∀(W:List Arw) (s:(Nat→Int)×Option D) (g:Nat),(W.foldl cst s).1 g=s.1 g+(W.countP fun a=>decide (a.g=g):Nat)
 | [],s,g=>by simp
 | a::W,s,g=>by
  rw [List.foldl_cons,cst_fold W,List.countP_cons];by_cases hg:g=a.g
  ·subst hg; simp [cst]; omega
  ·have:decide (a.g=g)=false:=by simp; exact fun z=>hg z.symm
   simp [cst,hg,this]
theorem nats_app (p:List Nat) (x:Nat):nats p++[D.int (x:Int)]=nats (p++[x]):=by simp [nats]
variable {as:List Arw}
theorem t_inner {f:Nat→Int} {p:List Nat} {d:Nat} {x4:Option D} (hm:nc≤1000) (hW:∀a∈W0 as,a.s<nc∧a.g<nc) (h:Kahn.Wh (W0 as) nc f p d) (hh:p[d]?=some here) :
  ∃x,forD (gV 4) b_placed_goings_1 ((W0 as).map encA) [some (.int (nc:Int)),some (.lst (as.map encA)),some (.lst ((W0 as).map encA)),some (.lst (vec nc f)),x4,some (.lst (nats p)),some (.int (d:Int)),some (.int (here:Int))] =
   some (.nx [some (.int (nc:Int)),some (.lst (as.map encA)),some (.lst ((W0 as).map encA)),some (.lst (vec nc ((W0 as).foldl (Kahn.stp here) (f,p)).1)),x,some (.lst (nats ((W0 as).foldl (Kahn.stp here) (f,p)).2)),some (.int (d:Int)),some (.int (here:Int))]):=by
 have hd:d<p.length:=(List.getElem?_eq_some_iff.mp hh).1;have hP:here∉p.take d:=fun z=>by
  obtain ⟨i,hi,e⟩:=List.mem_iff_getElem.mp z;have hi':i<d:=by rw [List.length_take] at hi; omega
  rw [List.getElem_take] at e;have e2:p[d]=here:=(List.getElem?_eq_some_iff.mp hh).2;have:=(List.getElem_inj (xs:=p) (h₀:=by omega) (h₁:=hd) h.ok.nd).mp (e.trans e2.symm);omega
 obtain ⟨ρ',h1,x,pre,e1,e2⟩:=forD_inv (g:=gV 4) (b:=b_placed_goings_1) (ds:=(W0 as).map encA) (ρ:=[some (.int (nc:Int)),some (.lst (as.map encA)),some (.lst ((W0 as).map encA)),some (.lst (vec nc f)),x4,some (.lst (nats p)),some (.int (d:Int)),some (.int (here:Int))])
  (fun ds ρ=>∃x pre,ds=pre.map encA∧(∃post,W0 as=pre++post)∧Kahn.In (W0 as) nc (p.take d) here pre (pre.foldl (Kahn.stp here) (f,p))∧ρ=[some (.int (nc:Int)),some (.lst (as.map encA)),some (.lst ((W0 as).map encA)),some (.lst (vec nc (pre.foldl (Kahn.stp here) (f,p)).1)),x,some (.lst (nats (pre.foldl (Kahn.stp here) (f,p)).2)),some (.int (d:Int)),some (.int (here:Int))])
  ⟨x4,[],rfl,⟨_,rfl⟩,⟨h.ok,fun g=>by show f g=_; rw [h.fe]; simp,h.z,fun x hx=>by
   rcases hx with hx | rfl
   ·exact List.mem_of_mem_take hx
   ·exact List.mem_iff_getElem?.mpr ⟨d,hh⟩⟩,rfl⟩ (by
  rintro ds dd post ρ e ⟨x,pre,rfl,⟨post',e'⟩,I,rfl⟩;rw [e',List.map_append] at e;have e3:=List.append_cancel_left e;cases post' with
  | nil=>cases e3
  | cons a post' =>
   rw [List.map_cons] at e3;cases e3;have ha:a∈W0 as:=by rw [e']; simp
   have hl:=Kahn.len_le I.ok.nd I.ok.lt;have I2:=I.step e' hP (hW a ha).2;refine ⟨_,_,rfl,.inl ?_,some (encA a),pre++[a],by simp,⟨post',by rw [e']; simp⟩,by rw [List.foldl_append]; exact I2,rfl⟩;rw [List.foldl_append];generalize pre.foldl (Kahn.stp here) (f,p)=S at hl;show b_placed_goings_1 _=some (.nx [_,_,_,some (.lst (vec nc (Kahn.stp here S a).1)),_,some (.lst (nats (Kahn.stp here S a).2)),_,_]);have f1:=fs a;have f2:=fg a;have hlen:(nats S.2).length<16777216:=by simp [nats]; omega
   unfold b_placed_goings_1;by_cases hs:a.s=here
   ·have hs':((a.s:Nat):Int)=(here:Int):=by rw [hs]
    have au:=aug_vec (i:=3) (fj:=e1 (fldD [0,1,2,3] "goal") (eV 4)) (f:=eC (.int 1)) (gi:=fun i j=>i-j) (ρ:=[some (.int (nc:Int)),some (.lst (as.map encA)),some (.lst ((W0 as).map encA)),some (.lst (vec nc S.1)),some (encA a),some (.lst (nats S.2)),some (.int (d:Int)),some (.int (here:Int))]) (n:=nc) (g:=a.g) (w:=S.1) (y:=1) rfl (by walk_at "mir") rfl (hW a ha).2;have va:ixD (.lst (vec nc fun x=>if x=a.g then S.1 a.g-1 else S.1 x)) (.int (a.g:Int))=some (.int (S.1 a.g-1)):=by have:=vec_at (fun x=>if x=a.g then S.1 a.g-1 else S.1 x) (hW a ha).2;rw [if_pos rfl] at this;exact this
    by_cases h0:S.1 a.g-1=0
    ·have es:Kahn.stp here S a=(fun x=>if x=a.g then S.1 a.g-1 else S.1 x,S.2++[a.g]):=by unfold Kahn.stp; simp [hs,h0]
     rw [es,← nats_app];rw [h0] at va;clear I I2 e' es;walk_at "mir"
    ·have es:Kahn.stp here S a=(fun x=>if x=a.g then S.1 a.g-1 else S.1 x,S.2):=by unfold Kahn.stp; simp [hs,h0]
     rw [es];clear I I2 e' es;walk_at "mir"
   ·have es:Kahn.stp here S a=S:=by unfold Kahn.stp; rw [if_neg hs]
    rw [es];have hs':¬((a.s:Nat):Int)=(here:Int):=by omega
    clear I I2 e' es;walk_at "mir")
 obtain ⟨⟨post,e2⟩,I,rfl⟩:=e2;have:pre=W0 as:=by have:=congrArg List.length e1;rw [List.length_map,List.length_map] at this;rw [e2,List.length_append] at this;have hp:post=[]:=List.eq_nil_of_length_eq_zero (by omega);rw [e2,hp,List.append_nil]
 rw [this] at h1;exact ⟨x,h1⟩
theorem t_placed (as:List Arw) (l:as.length≤1000) (hm:nc≤1000) (hs:∀a∈as,a.s<nc∧a.g<nc) :
  ∃(f:Nat→Int) (p:List Nat),m_placed_goings [.int (nc:Int),.lst (as.map encA)]=some (.lst (nats p))∧Kahn.Wh (W0 as) nc f p p.length:=by
 have hW:∀a∈W0 as,a.s<nc∧a.g<nc:=fun a ha=>hs a (List.mem_filter.mp ha).1;obtain ⟨c1,_⟩:=forD_fold (g:=gV 4) (b:=b_placed_goings_3) encA (fun s:(Nat→Int)×Option D=>[some (.int (nc:Int)),some (.lst (as.map encA)),some (.lst ((W0 as).map encA)),some (.lst (vec nc s.1)),s.2,none,none,none])
  cst (fun _=>True) (W0 as) (fun _=>0,none) trivial (fun s a ha _=>by
   refine ⟨_,rfl,.inl ?_,trivial⟩;unfold b_placed_goings_3;have f2:=fg a;rw [aug_vec (n:=nc) (g:=a.g) (w:=s.1) (y:=1) rfl (by walk_at "mir") rfl (hW a ha).2]
   rfl)
 have c2:=cst_fold (W0 as) (fun _=>0,none);generalize hS0:(W0 as).foldl cst (fun _=>0,none)=S0 at c1 c2;obtain ⟨f0,y4⟩:=S0;dsimp only at c1 c2;have hp0:∀r:L3.Env,r[0]?.join=some (.int (nc:Int))→r[3]?.join=some (.lst (vec nc f0))→q_placed_goings_1 r=some (.lst (nats ((List.range nc).filter fun g=>decide (f0 g=0)))):=by
  intro r h0 h3;refine comp_of (fun (t:Nat)=>D.int (t:Int)) (fun g=>decide (f0 g=0)) (fun (t:Nat)=>D.int (t:Int)) (List.range nc) (rng_of h0 (by omega)) (by rw [List.length_range]; omega) ?_
  ·intro g hg;refine ⟨_,rfl,?_,fun _=>rfl⟩;have hg:g<nc:=List.mem_range.mp hg;have hv:ixD (.lst (vec nc f0)) (.int (g:Int))=some (.int (f0 g)):=vec_at f0 hg;have hc:capsD r [3]=[some (.lst (vec nc f0))]:=by unfold capsD; simp [h3]
   rw [hc];walk_at "mir"
 generalize hq:((List.range nc).filter fun g=>decide (f0 g=0))=p0 at hp0;have w0:Kahn.Wh (W0 as) nc f0 p0 0:=by
  have hf:∀g,f0 g=Kahn.cnt (W0 as) [] g:=fun g=>by rw [c2 g];unfold Kahn.cnt;simp
  refine ⟨⟨by rw [← hq]; exact List.nodup_range.filter _,fun x hx=>by rw [← hq,List.mem_filter,List.mem_range] at hx; exact hx.1,fun i x hx a ha e=>?_⟩,by omega,hf,fun g hg=>by rw [← hq,List.mem_filter,List.mem_range]; simp [hg]⟩;have hx':x∈p0:=List.mem_iff_getElem?.mpr ⟨i,hx⟩;rw [← hq,List.mem_filter] at hx';have h0:f0 x=0:=by simpa using hx'.2
  rw [hf] at h0;have:=Kahn.cnt_zero.mp (by exact_mod_cast h0) a ha e;cases this
 obtain ⟨ρ',h1,⟨f,p,d,x4,x7,rfl,wh⟩,h3⟩:=whileD_inv (c:=tb (e2 ltD (eV 6) (eN lenD (aCons (eV 5) aNil)))) (b:=b_placed_goings_2)
  (fun ρ=>∃f p d x4 x7,ρ=[some (.int (nc:Int)),some (.lst (as.map encA)),some (.lst ((W0 as).map encA)),some (.lst (vec nc f)),x4,some (.lst (nats p)),some (.int ((d:Nat):Int)),x7]∧Kahn.Wh (W0 as) nc f p d)
  (fun ρ:L3.Env=>match ρ[6]? with | some (some (D.int i))=>(1001-i).toNat | _=>0) (by
   rintro ρ ⟨f,p,d,x4,x7,rfl,wh⟩;have hl:(nats p).length=p.length:=by simp [nats]
   refine ⟨decide ((d:Int)<(p.length:Int)),by walk_at "mir",fun ht=>?_⟩;have hd:d<p.length:=by simpa using ht
   have hh:p[d]?=some p[d]:=by simp [hd]
   obtain ⟨x,hin⟩:=t_inner (x4:=x4) hm hW wh hh;obtain ⟨wh2,q,_⟩:=wh.step (fun a ha=>(hW a ha).2) hh;have hle:=Kahn.len_le wh2.ok.nd wh2.ok.lt;have hdl:=wh2.dl;refine ⟨_,.inl ?_,⟨_,_,d+1,x,some (.int (p[d]:Int)),rfl,wh2⟩,?_⟩
   ·have hix:ixD (.lst (nats p)) (.int (d:Int))=some (.int (p[d]:Int)):=atI_nat (by simp [nats,hd]);have hau:i2 (fun i j=>D.int (i+j)) (.int (d:Int)) (.int 1)=some (.int ((d+1:Nat):Int)):=by simp [i2]
    unfold b_placed_goings_2 sAug;clear wh wh2 hle hdl;walk_at "mir"
   ·show (1001-((d+1:Nat):Int)).toNat<(1001-(d:Int)).toNat
    omega) FUEL [some (.int (nc:Int)),some (.lst (as.map encA)),some (.lst ((W0 as).map encA)),some (.lst (vec nc f0)),y4,some (.lst (nats p0)),some (.int ((0:Nat):Int)),none] ⟨f0,p0,0,y4,none,rfl,w0⟩ (by
   show (1001-((0:Nat):Int)).toNat<FUEL;have:(1001:Nat)<FUEL:=fuel_le (by decide)
   omega)
 have hd:d=p.length:=by
  have hl:(nats p).length=p.length:=by simp [nats]
  have h4:(tb (e2 ltD (eV 6) (eN lenD (aCons (eV 5) aNil)))) [some (.int (nc:Int)),some (.lst (as.map encA)),some (.lst ((W0 as).map encA)),some (.lst (vec nc f)),x4,some (.lst (nats p)),some (.int (d:Int)),x7]=some (decide ((d:Int)<(p.length:Int))):=by walk_at "mir"
  rw [h4] at h3;have:=wh.dl;simp at h3;omega
 subst hd;refine ⟨f,p,?_,wh⟩;have r1:=t_within_list as (by omega);have rp:repD (.lst [.int 0]) (.int (nc:Int))=some (.lst (vec nc fun _=>0)):=by unfold repD;dsimp only;rw [if_pos ⟨by omega,by omega,by simp⟩];congr 2;unfold vec;rw [List.map_const',List.length_range];simp
 rw [show (((0:Nat):Int))=0 from rfl] at h1;unfold m_placed_goings sWhile;clear hs hW c2 hS0 hq w0 wh h3 l hm;walk_at "mir"
def netD (ns:List D) (as:List Arw):D:=.obj 4 ["names","arrows"] [.lst ns,.lst (as.map encA)]
structure NetOk (nc:Nat) (as:List Arw):Prop where
 pos:1≤nc
 le:nc≤40
 len:as.length≤120
 right:∀a∈as,Right nc a
 rank:∃rank:Nat→Nat,∀a∈as,a.b=0→rank a.s<rank a.g
theorem NetOk.placed (h:NetOk nc as):∃p:List Nat,m_placed_goings [.int (nc:Int),.lst (as.map encA)]=some (.lst (nats p))∧Kahn.Ok (W0 as) nc p∧p.length=nc∧∀g,g<nc→g∈p:=by obtain ⟨f,p,h1,h2⟩:=t_placed (nc:=nc) as (by have:=h.len; omega) (by have:=h.le; omega) (fun a ha=>⟨(h.right a ha).s,(h.right a ha).g⟩);obtain ⟨rank,hr⟩:=h.rank;have all:=h2.all rank (fun a ha=>by have:=List.mem_filter.mp ha;exact hr a this.1 (by simpa using this.2)) (fun a ha=>(h.right a (List.mem_filter.mp ha).1).s);exact ⟨p,h1,h2.ok,Kahn.len_of h2.ok.nd h2.ok.lt all,all⟩
variable {ns:List D}
theorem t_net (h:NetOk nc as) (hn:ns.length=nc) (hnm:m_are_names [.lst ns]=some (.bl true)):i_Net___init 4 [.lst ns,.lst (as.map encA)]=some (netD ns as):=by
 obtain ⟨p,hp,_,hl,_⟩:=h.placed;have hlen:=h.len;obtain ⟨ρ',h1,x3,x4,rfl⟩:=forD_inv (g:=gT (gsCons (gV 3) (gsCons (gV 4) gsNil))) (b:=b_Net___init_1) (ds:=enumD 0 (as.map encA)) (ρ:=[some (.obj 4 [] []),some (.lst ns),some (.lst (as.map encA)),none,none,none])
  (fun _ ρ=>∃x3 x4,ρ=[some (.obj 4 [] []),some (.lst ns),some (.lst (as.map encA)),x3,x4,none]) ⟨none,none,rfl⟩ (by rintro pre d post ρ e ⟨x3,x4,rfl⟩;obtain ⟨x,hx,rfl⟩:=enumD_get (at_mid e);rw [List.getElem?_map] at hx;obtain ⟨a,ha,rfl⟩:=Option.map_eq_some_iff.mp hx;have hr:=t_right (h.right a (List.mem_iff_getElem?.mpr ⟨_,ha⟩));refine ⟨_,_,rfl,.inl ?_,some (.int (0+pre.length:Nat)),some (encA a),rfl⟩;unfold b_Net___init_1;rw [← hn] at hr;clear hp hl hn hlen h;walk_at "mir")
 have hz:(nats p).length=nc:=by simp [nats,hl]
 have hgt:¬((as.length:Int) > 120):=by omega
 rw [← hn] at hp hz;have l1:∀ds:List D,listD [.lst ds]=some (.lst ds):=fun _=>rfl;have s1:sFldD [4] "names" (eN listD (aCons (eV 1) aNil)) [some (D.obj 4 [] []),some (.lst ns),some (.lst (as.map encA)),x3,x4,some (.lst (nats p))]=some (.nx [some (D.obj 4 ["names"] [.lst ns]),some (.lst ns),some (.lst (as.map encA)),x3,x4,some (.lst (nats p))]):=rfl;have s2:sFldD [4] "arrows" (eN listD (aCons (eV 2) aNil)) [some (D.obj 4 ["names"] [.lst ns]),some (.lst ns),some (.lst (as.map encA)),x3,x4,some (.lst (nats p))]=some (.nx [some (netD ns as),some (.lst ns),some (.lst (as.map encA)),x3,x4,some (.lst (nats p))]):=rfl;clear h hlen hl hn;unfold i_Net___init iOf;walk_at "mir"
abbrev T:=Option Int
def lt (m:Int):T→T
 | none=>none
 | some i=>some (i+m)
def mx:T→T→T
 | none,b=>b
 | a,none=>a
 | some i,some j=>some (if j > i then j else i)
theorem t_later (o:T) (m:Int):m_later [encO o,.int m]=some (encO (lt m o)):=by unfold m_later;cases o <;> simp only [encO,lt] <;> walk_at "mir"
theorem t_latest (a b:T):m_latest [encO a,encO b]=some (encO (mx a b)):=by unfold m_latest;cases a <;> cases b <;> simp only [encO,mx] <;> walk_at "mir"
theorem mx_comm (a b:T):mx a b=mx b a:=by cases a <;> cases b <;> simp only [mx]; congr 1; omega
variable {κ:Type}
theorem zip_map_r {κ:Type} (h:κ×D→D):∀(ks:List κ) (ds:List D),ks.zip ((ks.zip ds).map h)=(ks.zip ds).map fun p=>(p.1,h p)
 | [],_=>rfl
 | _::_,[]=>rfl
 | k::ks,d::ds=>by show (k,h (k,d))::ks.zip ((ks.zip ds).map h)=(k,h (k,d))::(ks.zip ds).map _;rw [zip_map_r h ks ds]
variable {ds:List D}
theorem getK_put [DecidableEq κ] {ks:List κ} (hl:ks.length=ds.length) (k k':κ) (d:D):getK (putK' ks ds k d).1 (putK' ks ds k d).2 k'=if k'=k then some d else getK ks ds k':=by
 unfold putK';by_cases hc:ks.contains k=true
 ·rw [if_pos hc];unfold getK;dsimp only;rw [zip_map_r,List.find?_map];by_cases hk:k'=k
  ·subst hk;rw [if_pos rfl];have hm:k'∈ks:=by simpa using hc
   have:∃p∈ks.zip ds,p.1=k':=by obtain ⟨i,hi,e⟩:=List.mem_iff_getElem.mp hm;refine ⟨(ks[i],ds[i]),?_,e⟩;rw [List.mem_iff_getElem];exact ⟨i,by rw [List.length_zip]; omega,by simp⟩
   obtain ⟨p,hp,he⟩:=this;cases hf:(ks.zip ds).find? ((fun p:κ×D=>decide (p.1=k')) ∘ fun p:κ×D=>(p.1,if p.1=k' then d else p.2)) with
   | none =>rw [List.find?_eq_none] at hf;have:=hf p hp;simp [he] at this
   | some q =>have hq:=List.find?_some hf;simp at hq;simp [hq]
  ·rw [if_neg hk];have:((fun p:κ×D=>decide (p.1=k')) ∘ fun p:κ×D=>(p.1,if p.1=k then d else p.2))=fun p:κ×D=>decide (p.1=k'):=rfl;rw [this];cases hf:(ks.zip ds).find? fun p=>decide (p.1=k') with
   | none=>rfl
   | some q =>have hq:=List.find?_some hf;simp at hq;have hne:¬q.1=k:=fun z=>hk (hq ▸ z);simp [hne]
 ·rw [if_neg hc];unfold getK;dsimp only;have hz:(ks++[k]).zip (ds++[d])=ks.zip ds++[(k,d)]:=by rw [List.zip_append hl]; rfl
  rw [hz,List.find?_append];by_cases hk:k'=k
  ·subst hk;rw [if_pos rfl];have hn:(ks.zip ds).find? (fun p=>decide (p.1=k'))=none:=by
    rw [List.find?_eq_none];intro p hp;have hm:=(List.of_mem_zip (a:=p.1) (b:=p.2) hp).1;have hm2:¬k'∈ks:=by simpa using hc
    simp;intro z;exact hm2 (z ▸ hm)
   rw [hn];simp
  ·rw [if_neg hk];have:¬k=k':=fun z=>hk z.symm;cases hf:(ks.zip ds).find? (fun p=>decide (p.1=k')) <;> simp [this]
theorem put_len [DecidableEq κ] {ks:List κ} (hl:ks.length=ds.length) (k:κ) (d:D):(putK' ks ds k d).1.length=(putK' ks ds k d).2.length∧(putK' ks ds k d).1.length≤ks.length+1:=by
 unfold putK';by_cases hc:ks.contains k=true
 ·rw [if_pos hc]; simp; omega
 ·rw [if_neg hc]; simp [hl]
theorem enc_mx (a:T) (t:Int):some (encO (mx a (some t)))=(mx a (some t)).map D.int:=by cases a <;> rfl
def vecO (n:Nat) (f:Nat→T):List D:=(List.range n).map fun g=>encO (f g)
theorem vecO_len (n:Nat) (f:Nat→T):(vecO n f).length=n:=by simp [vecO]
theorem vecO_at {n:Nat} (f:Nat→T) {g:Nat} (h:g<n):atI (vecO n f) (g:Int)=some (encO (f g)):=atI_nat (by simp [vecO,h])
theorem vecO_set {n:Nat} (f:Nat→T) {g:Nat} (h:g<n) (v:T):setAt (vecO n f) (g:Int) (encO v)=some (vecO n fun x=>if x=g then v else f x):=by
 unfold setAt;have hx:ixN (vecO n f).length (g:Int)=some g:=by rw [vecO_len]; exact ixN_nat h
 rw [hx];simp only [Option.bind_some,Option.some.injEq];apply List.ext_getElem
 ·simp [vecO]
 ·intro i h1 h2;simp [vecO,List.getElem_set];by_cases hi:g=i
  ·subst hi; simp
  ·rw [if_neg hi,if_neg (fun z=>hi z.symm)]
theorem fn_names (ns:List D) (as:List Arw):fldD [4] "names" (netD ns as)=some (.lst ns):=rfl
theorem fn_arrows (ns:List D) (as:List Arw):fldD [4] "arrows" (netD ns as)=some (.lst (as.map encA)):=rfl
theorem met_net {m:Str} {f:List D→Option D} (h:(["names","arrows"]:List Str).contains m=false):metD 4 m f (netD ns as) ds=f (netD ns as::ds):=by show (if 4=4∧(["names","arrows"]:List Str).contains m=false then f (netD ns as::ds) else none)=_;rw [if_pos ⟨rfl,h⟩]
theorem met_order (h:NetOk nc as) (hn:ns.length=nc):∃p:List Nat,metD 4 "order" m_Net_order (netD ns as) []=some (.lst (nats p))∧Kahn.Ok (W0 as) nc p∧p.length=nc∧∀g,g<nc→g∈p:=by obtain ⟨p,h1,h2⟩:=h.placed;refine ⟨p,?_,h2⟩;rw [met_net (by decide +kernel)];have f1:=fn_names ns as;have f2:=fn_arrows ns as;rw [← hn] at h1;unfold m_Net_order;clear hn h h2;walk_at "mir"
theorem t_cell (ns:List Int) (i:Int) (hi:0≤i):∃c,m_law_cell_at [.lst (ns.map .int),.int i]=some (.int c):=by
 obtain ⟨k,rfl⟩:∃k:Nat,i=k:=⟨i.toNat,by omega⟩;unfold m_law_cell_at;by_cases h:k<ns.length
 ·refine ⟨ns[k],?_⟩;have:ixD (.lst (ns.map .int)) (.int (k:Int))=some (.int ns[k]):=atI_map D.int (.inl rfl) (by simp [h]);walk_at "mir"
 ·refine ⟨0,?_⟩;walk_at "mir"
theorem t_mixed (c:Int) {k:Int} (h0:0≤k) (h1:k≤1000000):∃r:Nat,m_law_mixed [.int c,.int k]=some (.int (r:Int))∧r<2147483648:=by
 have m0:mulI (.int 31) (.int k)=some (.int (31 * k)):=mulI_l (by decide) (by decide);have s0:shrD (.int c) (.int (1+31 * k))=some (.int (c / 2 ^ (1+31 * k).toNat)):=shrD_lit (by omega);have fin:∀z:Int,∀m:Int,0<m→m≤2147483648→∃r:Nat,(some (D.int (z % m)):Option D)=some (.int (r:Int))∧r<2147483648:=fun z m hm hm2=>by have a1:=Int.emod_nonneg z (by omega:m≠0);have a2:=Int.emod_lt_of_pos z hm;exact ⟨(z % m).toNat,by rw [Int.toNat_of_nonneg a1],by omega⟩
 generalize hn:(c+7919 * k+1) * 48271 % 2147483647=n1;have b1:0≤n1∧n1<2147483647:=by omega
 have m1:mulI (.int 7919) (.int k)=some (.int (7919 * k)):=mulI_l (by decide) (by decide);have m2:mulI (.int (c+7919 * k+1)) (.int 48271)=some (.int ((c+7919 * k+1) * 48271)):=mulI_r (by decide) (by decide);have m3:mulI (.int n1) (.int (n1 / 1009+69621))=some (.int (n1 * (n1 / 1009+69621))):=mulI_l (by omega) (by omega);generalize hn2:n1 * (n1 / 1009+69621) % 2147483647=n2;have b2:0≤n2∧n2<2147483647:=by omega
 have m4:mulI (.int n2) (.int (n2 / 2003+39373+k))=some (.int (n2 * (n2 / 2003+39373+k))):=mulI_l (by omega) (by omega);unfold m_law_mixed;by_cases hr:(1237940039285380274899124224:Int)≤c
 ·by_cases hc2:¬c % 2=1
  ·obtain ⟨r,e1,e2⟩:=fin (n2 * (n2 / 2003+39373+k)) 2147483629 (by decide) (by decide);refine ⟨r,?_,e2⟩;rw [← e1];clear e1 e2 fin b1 b2 h0 h1 s0;walk_at "mir"
  replace hc2:c % 2=1:=Classical.byContradiction hc2;by_cases hs:c / 2 ^ (1+31 * k).toNat > 0
  ·obtain ⟨r,e1,e2⟩:=fin (c / 2 ^ (1+31 * k).toNat) 2147483648 (by decide) (by decide);refine ⟨r,?_,e2⟩;rw [← e1];generalize c / 2 ^ (1+31 * k).toNat=q at s0 hs;clear e1 e2 fin hn hn2 b1 b2 h0 h1;walk_at "mir"
  ·obtain ⟨r,e1,e2⟩:=fin (n2 * (n2 / 2003+39373+k)) 2147483629 (by decide) (by decide);refine ⟨r,?_,e2⟩;rw [← e1];generalize c / 2 ^ (1+31 * k).toNat=q at s0 hs;clear e1 e2 fin b1 b2 h0 h1;walk_at "mir"
 ·obtain ⟨r,e1,e2⟩:=fin (n2 * (n2 / 2003+39373+k)) 2147483629 (by decide) (by decide);refine ⟨r,?_,e2⟩;rw [← e1];clear e1 e2 fin b1 b2 h0 h1 s0;walk_at "mir"
noncomputable def mixN (c k:Int):Nat:=match m_law_mixed [.int c,.int k] with
 | some (.int r)=>r.toNat
 | _=>0
theorem mixN_eq (c:Int) {k:Int} (h0:0≤k) (h1:k≤1000000):m_law_mixed [.int c,.int k]=some (.int (mixN c k:Int))∧mixN c k<2147483648:=by obtain ⟨r,h,hr⟩:=t_mixed c h0 h1;unfold mixN;rw [h];simpa using hr
theorem nats_at {p:List Nat} {i:Nat} (h:i<p.length):ixD (.lst (nats p)) (.int (i:Int))=some (.int (p[i]:Int)):=atI_nat (by simp [nats,h])
theorem setAt_nats {p:List Nat} {i:Nat} (h:i<p.length) (x:Nat):setAt (nats p) (i:Int) (.int (x:Int))=some (nats (p.set i x)):=by unfold setAt nats;rw [List.length_map,ixN_nat h];simp [List.map_set]
theorem t_swap {i j:Nat} {p:List Nat} {c:D} (hi:i<p.length) (hj:j<p.length):sSwap (gSb 2 (eV 3)) (gSb 2 (eV 4)) (aCons (e2 ixD (eV 2) (eV 4)) (aCons (e2 ixD (eV 2) (eV 3)) aNil)) [some (.int (nc:Int)),some c,some (.lst (nats p)),some (.int (i:Int)),some (.int (j:Int))] =
  some (.nx [some (.int (nc:Int)),some c,some (.lst (nats ((p.set i p[j]).set j p[i]))),some (.int (i:Int)),some (.int (j:Int))]):=by
 have a1:=nats_at hi;have a2:=nats_at hj;have s1:=setAt_nats hi p[j];have s2:=setAt_nats (p:=p.set i p[j]) (i:=j) (by rw [List.length_set]; exact hj) p[i];generalize nats ((p.set i p[j]).set j p[i])=u3 at *;generalize nats (p.set i p[j])=u2 at *;generalize nats p=u1 at *;unfold sSwap gSb;walk_at "mir"
theorem t_turned (hm1:1≤nc) (hm:nc≤1000) (c:Int):∃p:List Nat,m_law_turned [.int (nc:Int),.int c]=some (.lst (nats p))∧p.Perm (List.range nc):=by
 have lr:lrngD [.int (nc:Int)]=some (.lst (nats (List.range nc))):=by unfold lrngD;dsimp only;rw [if_pos ⟨by omega,by omega⟩];unfold upto nats;simp
 obtain ⟨ρ',h1,p,x3,x4,rfl,hp⟩:=forD_range (g:=gV 3) (b:=b_law_turned_1) (lo:=0) (n:=nc) (ρ:=[some (.int (nc:Int)),some (.int c),some (.lst (nats (List.range nc))),none,none])
  (fun _ ρ=>∃(p:List Nat) (x3 x4:Option D),ρ=[some (.int (nc:Int)),some (.int c),some (.lst (nats p)),x3,x4]∧p.Perm (List.range nc)) ⟨_,none,none,rfl,.refl _⟩ (by
   rintro j ρ hj ⟨p,x3,x4,rfl,hp⟩;have hl:p.length=nc:=by simpa using hp.length_eq
   obtain ⟨m1,_⟩:=mixN_eq c (k:=50+(j:Int)) (by omega) (by omega);generalize mixN c (50+(j:Int))=z at *;have hz:z % nc<nc:=Nat.mod_lt _ hm1;have u1:modD (.int (z:Int)) (.int (nc:Int))=some (.int ((z % nc:Nat):Int)):=by rw [modD_pos (by omega)]; simp
   have hj':j<p.length:=by omega
   have hz':z % nc<p.length:=by omega
   have sw:=t_swap (nc:=nc) (c:=.int c) hj' hz';rw [Int.zero_add];refine ⟨_,[some (.int (nc:Int)),some (.int c),some (.lst (nats ((p.set j p[z % nc]).set (z % nc) p[j]))),some (.int (j:Int)),some (.int ((z % nc:Nat):Int))],rfl,.inl ?_,_,_,_,rfl,(List.set_set_perm hj' hz').trans hp⟩;generalize nats ((p.set j p[z % nc]).set (z % nc) p[j])=u3 at *;generalize nats p=u1 at *;generalize ((z % nc:Nat):Int)=zz at *;unfold b_law_turned_1;generalize sSwap (gSb 2 (eV 3)) (gSb 2 (eV 4)) (aCons (e2 ixD (eV 2) (eV 4)) (aCons (e2 ixD (eV 2) (eV 3)) aNil))=SW at *;clear hp hl hz hj' hz' hj;walk_at "mir")
 refine ⟨p,?_,hp⟩;have r1:rng1 [.int (nc:Int)]=some (upto 0 nc):=by rw [rng1_int (by omega) (by omega)]; simp
 generalize nats (List.range nc)=u1 at *;generalize nats p=u2 at *;unfold m_law_turned;clear hm1 hm hp;walk_at "mir"
def ge (x:T) (v:Int):Prop:=∃y,x=some y∧v≤y
theorem ge_mxl {a:T} (b:T) {v:Int} (h:ge a v):ge (mx a b) v:=by
 obtain ⟨y,rfl,hy⟩:=h;cases b with
 | none=>exact ⟨y,rfl,hy⟩
 | some j=>exact ⟨_,rfl,by split <;> omega⟩
theorem ge_mxr (a:T) {b:T} {v:Int} (h:ge b v):ge (mx a b) v:=by rw [mx_comm]; exact ge_mxl a h
theorem ge_lt {x:T} {v:Int} (m:Int) (h:ge x v):ge (lt m x) (v+m):=by obtain ⟨y,rfl,hy⟩:=h;exact ⟨y+m,rfl,by omega⟩
theorem ge_mx {a b:T} {v:Int}:ge (mx a b) v↔ge a v∨ge b v:=by
 refine ⟨fun h=>?_,fun h=>h.elim (ge_mxl b) (ge_mxr a)⟩;obtain ⟨y,hy,hv⟩:=h;cases a with
 | none=>exact .inr ⟨y,hy,hv⟩
 | some i =>
  cases b with
  | none=>exact .inl ⟨y,hy,hv⟩
  | some j =>
   simp only [mx,Option.some.injEq] at hy;by_cases hj:j > i
   ·rw [if_pos hj] at hy; exact .inr ⟨j,rfl,by omega⟩
   ·rw [if_neg hj] at hy; exact .inl ⟨i,rfl,by omega⟩
theorem ge_ltm {x:T} {m v:Int}:ge (lt m x) v↔ge x (v-m):=by
 refine ⟨fun ⟨y,hy,hv⟩=>?_,fun h=>?_⟩
 ·cases x with
  | none=>cases hy
  | some i=>cases hy; exact ⟨i,rfl,by omega⟩
 ·have:=ge_lt m h;rwa [show v-m+m=v by omega] at this
theorem ge_ext {x y:T} (h:∀v,ge x v↔ge y v):x=y:=by
 cases x with
 | none =>
  cases y with
  | none=>rfl
  | some j=>obtain ⟨_,z,_⟩:=(h j).mpr ⟨j,rfl,Int.le_refl _⟩; cases z
 | some i =>obtain ⟨j,e1,h1⟩:=(h i).mp ⟨i,rfl,Int.le_refl _⟩;subst e1;obtain ⟨k,e2,h2⟩:=(h j).mpr ⟨j,rfl,Int.le_refl _⟩;cases e2;congr 1; omega
theorem ge_some {i v:Int}:ge (some i) v↔v≤i:=⟨fun ⟨_,e,h⟩=>by cases e; exact h,fun h=>⟨i,rfl,h⟩⟩
theorem ge_none {v:Int}:¬ge none v:=fun ⟨_,e,_⟩=>by cases e
structure Sum (as:List Arw) (nc g0:Nat) (S:Nat→T):Prop where
 is:∀h,h<nc→∀v,ge (S h) v↔(h=g0∧v≤0)∨∃a∈as,a.b=0∧a.g=h∧ge (S a.s) (v-a.t)
theorem sums_in {x:Nat} {g0 od:D} {S:Nat→T} (hx:x<nc) (hm:nc≤1000) (hg:∀a∈as,a.g<nc∧(a.b=0→a.s=x→a.g≠x)) (y5:Option D):∃(S':Nat→T) (z5:Option D),
  forD (gV 5) b_sums_within_round_1 (as.map encA) [some (netD ns as),some g0,some od,some (.lst (vecO nc S)),some (.int (x:Int)),y5]=some (.nx [some (netD ns as),some g0,some od,some (.lst (vecO nc S')),some (.int (x:Int)),z5]) ∧
  ∀h v,ge (S' h) v↔ge (S h) v∨∃a∈as,a.b=0∧a.s=x∧a.g=h∧ge (S x) (v-a.t):=by
 obtain ⟨ρ',h1,pre,S',z5,e1,rfl,hS⟩:=forD_inv (g:=gV 5) (b:=b_sums_within_round_1) (ds:=as.map encA) (ρ:=[some (netD ns as),some g0,some od,some (.lst (vecO nc S)),some (.int (x:Int)),y5])
  (fun ds ρ=>∃(pre:List Arw) (S':Nat→T) (z5:Option D),ds=pre.map encA∧ρ=[some (netD ns as),some g0,some od,some (.lst (vecO nc S')),some (.int (x:Int)),z5]∧((∃post,as=pre++post)∧S' x=S x∧∀h v,ge (S' h) v↔ge (S h) v∨∃a∈pre,a.b=0∧a.s=x∧a.g=h∧ge (S x) (v-a.t)))
  ⟨[],S,y5,rfl,rfl,⟨as,rfl⟩,rfl,fun h v=>⟨.inl,fun z=>z.elim id fun ⟨_,z,_⟩=>by cases z⟩⟩ (by
   rintro ds dd post ρ e ⟨pre,S',z5,rfl,rfl,⟨post',e'⟩,hSx,hS⟩;obtain ⟨a,ha,rfl⟩:∃a,as[pre.length]?=some a∧encA a=dd:=by have:=at_mid e;rw [List.getElem?_map,List.length_map] at this;exact Option.map_eq_some_iff.mp this
   have ham:a∈as:=List.mem_iff_getElem?.mpr ⟨_,ha⟩;obtain ⟨hag,hne⟩:=hg a ham;have e'':∃post'',as=(pre++[a])++post'':=by
    refine ⟨post'.tail,?_⟩;rw [e'] at ha;rw [List.getElem?_append_right (Nat.le_refl _),Nat.sub_self] at ha;cases post' with
    | nil=>cases ha
    | cons b p=>cases ha; rw [e']; simp
   have f1:=fs a;have f2:=fg a;have f3:=ft a;have f4:=fb a;by_cases hc:a.b=0∧a.s=x
   ·have q1:ixD (.lst (vecO nc S')) (.int (a.g:Int))=some (encO (S' a.g)):=vecO_at S' hag;have q2:ixD (.lst (vecO nc S')) (.int (x:Int))=some (encO (S x)):=by rw [← hSx]; exact vecO_at S' hx
    have l1:=t_later (S x) a.t;have l2:=t_latest (S' a.g) (lt a.t (S x));have st:=vecO_set S' hag (mx (S' a.g) (lt a.t (S x)));refine ⟨_,[some (netD ns as),some g0,some od,some (.lst (vecO nc fun y=>if y=a.g then mx (S' a.g) (lt a.t (S x)) else S' y)),some (.int (x:Int)),some (encA a)],rfl,.inl ?_,pre++[a],_,_,by simp,rfl,e'',?_,fun h v=>?_⟩
    ·have c1:(a.b:Int)=0:=by omega
     have c2:(a.s:Int)=(x:Int):=by omega
     generalize vecO nc (fun y=>if y=a.g then mx (S' a.g) (lt a.t (S x)) else S' y)=V2 at *;generalize vecO nc S'=V1 at *;generalize encO (mx (S' a.g) (lt a.t (S x)))=m3 at *;generalize encO (lt a.t (S x))=m2 at *;generalize encO (S' a.g)=m1 at *;generalize encO (S x)=m0 at *;generalize netD ns as=nd at *;generalize encA a=ea at *;unfold b_sums_within_round_1 sPutL;clear hS hSx hg e e' e'' ha ham hag hne hc;rw [c1] at f4;rw [c2] at f1;walk_at "mir"
    ·rw [if_neg (fun z=>hne hc.1 hc.2 z.symm)]; exact hSx
    ·by_cases hh:h=a.g
     ·subst hh;rw [if_pos rfl,ge_mx,hS,ge_ltm];constructor
      ·rintro ((z | ⟨b,hb,z⟩) | z)
       ·exact .inl z
       ·exact .inr ⟨b,List.mem_append_left _ hb,z⟩
       ·exact .inr ⟨a,by simp,hc.1,hc.2,rfl,z⟩
      ·rintro (z | ⟨b,hb,z⟩)
       ·exact .inl (.inl z)
       ·rcases List.mem_append.mp hb with hb | hb
        ·exact .inl (.inr ⟨b,hb,z⟩)
        ·rw [List.mem_singleton.mp hb] at z;exact .inr z.2.2.2
     ·rw [if_neg hh,hS];constructor
      ·rintro (z | ⟨b,hb,z⟩)
       ·exact .inl z
       ·exact .inr ⟨b,List.mem_append_left _ hb,z⟩
      ·rintro (z | ⟨b,hb,z⟩)
       ·exact .inl z
       ·rcases List.mem_append.mp hb with hb | hb
        ·exact .inr ⟨b,hb,z⟩
        ·rw [List.mem_singleton.mp hb] at z;exact absurd z.2.2.1.symm hh
   ·refine ⟨_,[some (netD ns as),some g0,some od,some (.lst (vecO nc S')),some (.int (x:Int)),some (encA a)],rfl,.inl ?_,pre++[a],S',_,by simp,rfl,e'',hSx,fun h v=>?_⟩
    ·generalize vecO nc S'=V1 at *;generalize netD ns as=nd at *;generalize encA a=ea at *;unfold b_sums_within_round_1 sPutL;clear hS hSx hg e e' e'' ha ham hag hne;by_cases c1:(a.b:Int)=0
     ·have c2:¬(a.s:Int)=(x:Int):=fun z=>hc ⟨by omega,by omega⟩;rw [c1] at f4;clear hc;generalize (a.s:Int)=sa at *;walk_at "mir"
     ·clear hc;generalize (a.b:Int)=ba at *;walk_at "mir"
    ·rw [hS];constructor
     ·rintro (z | ⟨b,hb,z⟩)
      ·exact .inl z
      ·exact .inr ⟨b,List.mem_append_left _ hb,z⟩
     ·rintro (z | ⟨b,hb,z⟩)
      ·exact .inl z
      ·rcases List.mem_append.mp hb with hb | hb
       ·exact .inr ⟨b,hb,z⟩
       ·rw [List.mem_singleton.mp hb] at z;exact absurd ⟨z.1,z.2.1⟩ hc)
 have:pre=as:=by
  obtain ⟨⟨post,e2⟩,_⟩:=hS;have:as.length=pre.length:=by simpa using congrArg List.length e1
  rw [e2,List.length_append] at this;have:post=[]:=List.length_eq_zero_iff.mp (by omega);rw [e2,this,List.append_nil]
 rw [this] at hS;exact ⟨S',z5,h1,hS.2.2⟩
theorem t_sums {g0:Nat} {p:List Nat} (hn:ns.length=nc) (hm:nc≤1000) (hg0:g0<nc) (hr:∀a∈as,a.g<nc) (hs:∀a∈as,a.b=0→a.g≠a.s) (ok:Kahn.Ok (W0 as) nc p) (all:∀g,g<nc→g∈p) (hl:as.length≤1000) (hss:∀a∈as,a.s<nc) :
  ∃S,m_sums_within_round [netD ns as,.int (g0:Int),.lst (nats p)]=some (.lst (vecO nc S))∧Sum as nc g0 S:=by
 obtain ⟨ρ',h1,pre,S,z4,z5,e1,rfl,⟨post,e2⟩,hS⟩:=forD_inv (g:=gV 4) (b:=b_sums_within_round_2) (ds:=nats p) (ρ:=[some (netD ns as),some (.int (g0:Int)),some (.lst (nats p)),some (.lst (vecO nc fun y=>if y=g0 then some 0 else none)),none,none])
  (fun ds ρ=>∃(pre:List Nat) (S:Nat→T) (z4 z5:Option D),ds=nats pre∧ρ=[some (netD ns as),some (.int (g0:Int)),some (.lst (nats p)),some (.lst (vecO nc S)),z4,z5]∧(∃post,p=pre++post)∧∀h v,ge (S h) v↔(h=g0∧v≤0)∨∃a∈as,a.b=0∧a.g=h∧a.s∈pre∧ge (S a.s) (v-a.t))
  ⟨[],_,none,none,rfl,rfl,⟨p,rfl⟩,fun h v=>by
   by_cases hh:h=g0
   ·rw [if_pos hh,ge_some];exact ⟨fun z=>.inl ⟨hh,z⟩,fun z=>z.elim (·.2) fun ⟨_,_,_,_,z,_⟩=>by cases z⟩
   ·rw [if_neg hh];exact ⟨fun z=>absurd z ge_none,fun z=>z.elim (fun z=>absurd z.1 hh) fun ⟨_,_,_,_,z,_⟩=>by cases z⟩⟩ (by
   rintro ds dd post ρ e ⟨pre,S,z4,z5,rfl,rfl,⟨post',e'⟩,hS⟩;obtain ⟨x,hx,rfl⟩:∃x,p[pre.length]?=some x∧D.int (x:Int)=dd:=by have:=at_mid e;unfold nats at this;rw [List.getElem?_map,List.length_map] at this;exact Option.map_eq_some_iff.mp this
   have hxm:=ok.lt x (List.mem_iff_getElem?.mpr ⟨_,hx⟩);have hpre:p.take pre.length=pre:=by rw [e',List.take_left]
   obtain ⟨S',w5,h2,hS'⟩:=sums_in (ns:=ns) (as:=as) (S:=S) (g0:=.int (g0:Int)) (od:=.lst (nats p)) hxm hm (fun a ha=>⟨hr a ha,fun h0 h1=>by have:=hs a ha h0; omega⟩) z5;have e'':∃post'',p=(pre++[x])++post'':=by
    refine ⟨post'.tail,?_⟩;rw [e'] at hx;rw [List.getElem?_append_right (Nat.le_refl _),Nat.sub_self] at hx;cases post' with
    | nil=>cases hx
    | cons b p=>cases hx; rw [e']; simp
   have hxn:x∉pre:=fun z=>by obtain ⟨q,e3⟩:=e'';have:=ok.nd;rw [e3,List.nodup_append,List.nodup_append] at this;exact this.1.2.2 x z x (by simp) rfl
   have old:∀y,y∈pre∨y=x→S' y=S y:=fun y hy=>ge_ext fun v=>by
    rw [hS'];refine ⟨fun z=>z.elim id ?_,.inl⟩;rintro ⟨a,ha,hb,hs1,hg1,_⟩;exfalso;rcases hy with hy | hy
    ·obtain ⟨i,hi⟩:=List.mem_iff_getElem?.mp hy;have hi2:p[i]?=some y:=by rw [e',List.getElem?_append_left (List.getElem?_eq_some_iff.mp hi).1]; exact hi
     have:=ok.ord i y hi2 a (List.mem_filter.mpr ⟨ha,by simpa using hb⟩) hg1;rw [hs1] at this;have hle:i≤pre.length:=Nat.le_of_lt (List.getElem?_eq_some_iff.mp hi).1;have:x∈p.take pre.length:=(List.take_sublist_take_left hle).subset this;rw [hpre] at this;exact hxn this
    ·exact hs a ha hb (by rw [hg1,hs1,hy])
   refine ⟨_,_,rfl,.inl ?_,pre++[x],S',some (.int (x:Int)),w5,by simp [nats],rfl,e'',fun h v=>?_⟩
   ·have fa:=fn_arrows ns as;generalize vecO nc S'=V2 at *;generalize vecO nc S=V1 at *;generalize netD ns as=nd at *;generalize as.map encA=EA at *;unfold b_sums_within_round_2;generalize b_sums_within_round_1=B1 at *;clear hS hS' old hxn e'' hpre hxm hx e e' hg0 hn hm;walk_at "mir"
   ·rw [hS',hS];constructor
    ·rintro ((z | ⟨a,ha,z1,z2,z3,z4⟩) | ⟨a,ha,z1,z2,z3,z4⟩)
     ·exact .inl z
     ·exact .inr ⟨a,ha,z1,z2,List.mem_append_left _ z3,by rw [old _ (.inl z3)]; exact z4⟩
     ·exact .inr ⟨a,ha,z1,z3,by rw [z2]; simp,by rw [z2,old _ (.inr rfl)]; exact z4⟩
    ·rintro (z | ⟨a,ha,z1,z2,z3,z4⟩)
     ·exact .inl (.inl z)
     ·rcases List.mem_append.mp z3 with z3 | z3
      ·exact .inl (.inr ⟨a,ha,z1,z2,z3,by rw [← old _ (.inl z3)]; exact z4⟩)
      ·have z3:=List.mem_singleton.mp z3;exact .inr ⟨a,ha,z1,z3,z2,by rw [z3,old _ (.inr rfl)] at z4; exact z4⟩)
 have hpp:pre=p:=by
  have:p.length=pre.length:=by simpa [nats] using congrArg List.length e1
  rw [e2,List.length_append] at this;have:post=[]:=List.length_eq_zero_iff.mp (by omega);rw [e2,this,List.append_nil]
 refine ⟨S,?_,⟨fun h hh v=>?_⟩⟩
 ·have f1:=fn_names ns as;have l1:lenD [.lst ns]=some (.int (nc:Int)):=(lenD_lst _).trans (by rw [hn]);have rp:repD (.lst [.non]) (.int (nc:Int))=some (.lst (vecO nc fun _=>none)):=by unfold repD;dsimp only;rw [if_pos ⟨by omega,by omega,by simp⟩];congr 2;unfold vecO;rw [List.map_const',List.length_range];simp [hn,encO]
  have st:=vecO_set (n:=nc) (fun _=>none) hg0 (some 0);have e0:encO (some 0)=.int 0:=rfl;rw [e0] at st;generalize vecO nc S=V2 at *;generalize vecO nc (fun x=>if x=g0 then some 0 else none)=V1 at *;generalize vecO nc (fun _=>none)=V0 at *;generalize netD ns as=nd at *;unfold m_sums_within_round sPutL;generalize b_sums_within_round_2=B2 at *;generalize nats p=np at *;clear hS e1 e2 hpp ok all hg0 hn hm hr hs hl hss;walk_at "mir"
 ·rw [hS];constructor
  ·rintro (z | ⟨a,ha,z1,z2,_,z4⟩)
   ·exact .inl z
   ·exact .inr ⟨a,ha,z1,z2,z4⟩
  ·rintro (z | ⟨a,ha,z1,z2,z4⟩)
   ·exact .inl z
   ·exact .inr ⟨a,ha,z1,z2,by rw [hpp]; exact all _ (hss a ha),z4⟩
def key3 (b s h:Nat):List Key:=[.inl (b:Int),.inl (s:Int),.inl (h:Int)]
theorem key3_inj {b s h b' s' h':Nat} (e:key3 b s h=key3 b' s' h'):b=b'∧s=s'∧h=h':=by unfold key3 at e;simp only [List.cons.injEq,Sum.inl.injEq,and_true] at e;omega
structure Dct (d:D) (n:Nat) (f:Nat→Nat→Nat→T):Prop where
 is:∃ks ds,d=.dT ks ds∧ks.length=ds.length∧ks.length≤n∧ks.Nodup∧(∀k∈ks,∃b s h,k=key3 b s h)∧∀b s h:Nat,getK ks ds (key3 b s h)=(f b s h).map D.int
theorem Dct.get {d:D} {n:Nat} {f:Nat→Nat→Nat→T} (h:Dct d n f) (b s g:Nat):((dgetD d (.tup [.int (b:Int),.int (s:Int),.int (g:Int)])).bind fun r=>some (r.getD .non))=some (encO (f b s g)):=by obtain ⟨ks,ds,rfl,h1,h2,h3,h4,h5⟩:=h.is;show some ((getK ks ds (key3 b s g)).getD .non)=_;rw [h5];cases f b s g <;> rfl
theorem put_nodup [DecidableEq κ] {ks:List κ} (h:ks.Nodup) (k:κ) (d:D):(putK' ks ds k d).1.Nodup∧∀x∈(putK' ks ds k d).1,x∈ks∨x=k:=by
 unfold putK';by_cases hc:ks.contains k=true
 ·rw [if_pos hc]; exact ⟨h,fun x hx=>.inl hx⟩
 ·rw [if_neg hc];refine ⟨List.nodup_append.mpr ⟨h,by simp,fun a ha b hb e=>hc (by rw [List.mem_singleton] at hb; rw [List.contains_iff_mem,← hb,← e]; exact ha)⟩,fun x hx=>?_⟩;rcases List.mem_append.mp hx with hx | hx
  ·exact .inl hx
  ·exact .inr (List.mem_singleton.mp hx)
variable {ks:List (List Key)}
theorem Dct.put {n:Nat} {f:Nat→Nat→Nat→T} (h:Dct (.dT ks ds) n f) (b s g:Nat) (t:Int):Dct (.dT (putK' ks ds (key3 b s g) (encO (mx (f b s g) (some t)))).1 (putK' ks ds (key3 b s g) (encO (mx (f b s g) (some t)))).2) (n+1) fun b' s' g'=>if b'=b∧s'=s∧g'=g then mx (f b s g) (some t) else f b' s' g':=by
 obtain ⟨ks',ds',e,h1,h2,h3,h4,h5⟩:=h.is;cases e;obtain ⟨p1,p2⟩:=put_len h1 (key3 b s g) (encO (mx (f b s g) (some t)));obtain ⟨n1,n2⟩:=put_nodup (ds:=ds) h3 (key3 b s g) (encO (mx (f b s g) (some t)));refine ⟨_,_,rfl,p1,by omega,n1,fun k hk=>?_,fun b' s' g'=>?_⟩
 ·rcases n2 k hk with hk | hk
  ·exact h4 k hk
  ·exact ⟨b,s,g,hk⟩
 ·rw [getK_put h1];by_cases hc:b'=b∧s'=s∧g'=g
  ·obtain ⟨rfl,rfl,rfl⟩:=hc;rw [if_pos rfl,if_pos ⟨rfl,rfl,rfl⟩,enc_mx]
  ·rw [if_neg (fun z=>hc (key3_inj z)),if_neg hc];exact h5 b' s' g'
theorem enum_vec (n:Nat) (f:Nat→T):enumD 0 (vecO n f)=(List.range' 0 n).map fun (h:Nat)=>D.tup [.int (h:Int),encO (f h)]:=by
 unfold vecO;rw [enum_zip,List.range_eq_range'];apply List.ext_getElem?;intro i;rw [List.getElem?_map,List.getElem?_zipIdx,List.getElem?_map];by_cases hi:i<n
 ·rw [List.getElem?_range' hi];simp
 ·rw [List.getElem?_eq_none (by simpa using hi)];rfl
theorem forD_ix {g:D→L3.Env→Option L3.Env} {b:SF} {n:Nat} (enc:Nat→D) (I:Nat→L3.Env→Prop) (st:∀i ρ,i<n→I i ρ→∃ρ1 ρ2,g (enc i) ρ=some ρ1∧b ρ1=some (.nx ρ2)∧I (i+1) ρ2):∀(k j:Nat) (ρ:L3.Env),j+k=n→I j ρ→∃ρ',forD g b ((List.range' j k).map enc) ρ=some (.nx ρ')∧I n ρ'
 | 0,j,ρ,e,h=>⟨ρ,rfl,by rw [← e]; exact h⟩
 | k+1,j,ρ,e,h=>by obtain ⟨ρ1,ρ2,h1,h2,h3⟩:=st j ρ (by omega) h;obtain ⟨ρ',h4,h5⟩:=forD_ix enc I st k (j+1) ρ2 (by omega) h3;refine ⟨ρ',?_,h5⟩;rw [List.range'_succ,List.map_cons];show ((g (enc j) ρ).bind fun ρ1=>(b ρ1).bind _)=_;rw [h1];show (b ρ1).bind _=_;rw [h2];exact h4
theorem steps_in {nd od sm d:D} {n:Nat} {R:Nat→T} {f:Nat→Nat→Nat→T} (hd:Dct d n f) (hn:n+nc<16777216) (y5 y6 y7:Option D):∃(d':D) (f':Nat→Nat→Nat→T) (z5 z6 z7:Option D),
  forD (gT (gsCons (gV 5) (gsCons (gV 6) gsNil))) b_steps_1 (enumD 0 (vecO nc R)) [some nd,some od,some sm,some d,some (encA a),y5,y6,y7]=some (.nx [some nd,some od,some sm,some d',some (encA a),z5,z6,z7])∧Dct d' (n+nc) f' ∧
  ∀b s h v,ge (f' b s h) v↔ge (f b s h) v∨(b=a.b∧s=a.s∧h<nc∧ge (R h) (v-a.t)):=by
 rw [enum_vec];obtain ⟨ρ',h1,d',f',z5,z6,z7,rfl,hd',hf'⟩:=forD_ix (g:=gT (gsCons (gV 5) (gsCons (gV 6) gsNil))) (b:=b_steps_1) (n:=nc) (fun (h:Nat)=>D.tup [.int (h:Int),encO (R h)])
  (fun i ρ=>∃(d':D) (f':Nat→Nat→Nat→T) (z5 z6 z7:Option D),ρ=[some nd,some od,some sm,some d',some (encA a),z5,z6,z7]∧Dct d' (n+i) f'∧∀b s h v,ge (f' b s h) v↔ge (f b s h) v∨(b=a.b∧s=a.s∧h<i∧ge (R h) (v-a.t))) (by
   rintro i ρ hi ⟨d',f',z5,z6,z7,rfl,hd',hf'⟩;have f1:=fs a;have f3:=ft a;have f4:=fb a;cases hR:R i with
   | none =>
    refine ⟨_,[some nd,some od,some sm,some d',some (encA a),some (.int (i:Int)),some (encO (R i)),z7],rfl,?_,d',f',_,_,_,rfl,?_,fun b s h v=>?_⟩
    ·rw [hR];generalize encA a=ea at *;unfold b_steps_1;clear hd' hf' hd f1 f3 f4 hR;simp only [encO];walk_at "mir"
    ·obtain ⟨ks,ds,e,q1,q2,q3⟩:=hd'.is;exact ⟨ks,ds,e,q1,by omega,q3⟩
    ·rw [hf'];constructor
     ·rintro (z | z)
      ·exact .inl z
      ·exact .inr ⟨z.1,z.2.1,by omega,z.2.2.2⟩
     ·rintro (z | z)
      ·exact .inl z
      ·refine .inr ⟨z.1,z.2.1,?_,z.2.2.2⟩;have:h≠i:=fun e=>by rw [e,hR] at z; exact ge_none z.2.2.2
       omega
   | some m =>
    have hg:=hd'.get a.b a.s i;obtain ⟨ks,ds,rfl,k1,k2,k3,k4,k5⟩:=hd'.is;have hm:=t_latest (f' a.b a.s i) (some (a.t+m));have hlt:ks.length<16777216:=by omega
    refine ⟨_,[some nd,some od,some sm,some (.dT (putK' ks ds (key3 a.b a.s i) (encO (mx (f' a.b a.s i) (some (a.t+m))))).1 (putK' ks ds (key3 a.b a.s i) (encO (mx (f' a.b a.s i) (some (a.t+m))))).2),some (encA a),some (.int (i:Int)),some (encO (R i)),some (.tup [.int (a.b:Int),.int (a.s:Int),.int (i:Int)])],rfl,?_,_,_,_,_,_,rfl,hd'.put a.b a.s i (a.t+m),fun b s h v=>?_⟩
    ·rw [hR];have he:encO (some (a.t+m))=.int (a.t+m):=rfl;have he2:encO (some m)=.int m:=rfl;rw [he] at hm;have hk:keysD [.int (a.b:Int),.int (a.s:Int),.int (i:Int)]=some (key3 a.b a.s i):=rfl;rw [he2];generalize encO (f' a.b a.s i)=z0 at *;generalize encO (mx (f' a.b a.s i) (some (a.t+m)))=z1 at *;generalize key3 a.b a.s i=kk at *;generalize encA a=ea at *;unfold b_steps_1 sPutD;clear hd' hf' hd k1 k2 k3 k4 k5 hR he he2;walk_at "mir"
    ·show ge (if b=a.b∧s=a.s∧h=i then _ else _) v↔_;by_cases hc:b=a.b∧s=a.s∧h=i
     ·obtain ⟨rfl,rfl,rfl⟩:=hc;rw [if_pos ⟨rfl,rfl,rfl⟩,ge_mx,hf',ge_some,hR,ge_some];constructor
      ·rintro ((z | z) | z)
       ·exact .inl z
       ·omega
       ·exact .inr ⟨rfl,rfl,by omega,by omega⟩
      ·rintro (z | z)
       ·exact .inl (.inl z)
       ·exact .inr (by omega)
     ·rw [if_neg hc,hf'];constructor
      ·rintro (z | z)
       ·exact .inl z
       ·exact .inr ⟨z.1,z.2.1,by omega,z.2.2.2⟩
      ·rintro (z | z)
       ·exact .inl z
       ·exact .inr ⟨z.1,z.2.1,by have:h≠i:=fun e=>hc ⟨z.1,z.2.1,e⟩; omega,z.2.2.2⟩)
  nc 0 [some nd,some od,some sm,some d,some (encA a),y5,y6,y7] (by omega) ⟨d,f,y5,y6,y7,rfl,hd,fun b s h v=>⟨.inl,fun z=>z.elim id fun z=>by omega⟩⟩
 exact ⟨d',f',z5,z6,z7,h1,hd',hf'⟩
theorem t_steps (h:NetOk nc as) (hn:ns.length=nc):∃(d:D) (f:Nat→Nat→Nat→T) (S:Nat→Nat→T),m_steps [netD ns as]=some d∧Dct d 10000 f∧(∀g,g<nc→Sum as nc g (S g)) ∧
  ∀b s h v,ge (f b s h) v↔∃a∈as,a.b=b∧0<b∧a.s=s∧h<nc∧ge (S a.g h) (v-a.t):=by
 have hm1:=h.pos;have hm:=h.le;have hal:=h.len;obtain ⟨p,mo,ok,pl,all⟩:=met_order h hn;obtain ⟨rank,hrk⟩:=h.rank;have key:∀g,∃S,g<nc→m_sums_within_round [netD ns as,.int (g:Int),.lst (nats p)]=some (.lst (vecO nc S))∧Sum as nc g S:=fun g=>by
  by_cases hg:g<nc
  ·obtain ⟨S,h1,h2⟩:=t_sums (ns:=ns) (p:=p) hn (by omega) hg (fun a ha=>(h.right a ha).g) (fun a ha hb e=>by have:=hrk a ha hb; rw [e] at this; omega) ok all (by omega) fun a ha=>(h.right a ha).s;exact ⟨S,fun _=>⟨h1,h2⟩⟩
  ·exact ⟨fun _=>none,fun z=>absurd z hg⟩
 obtain ⟨S,hS⟩:=Classical.axiomOfChoice key;have f1:=fn_names ns as;have f2:=fn_arrows ns as;have l1:lenD [.lst ns]=some (.int (nc:Int)):=(lenD_lst _).trans (by rw [hn]);have q:q_steps_1 [some (netD ns as),some (.lst (nats p)),none,none,none,none,none,none]=some (.lst ((List.range nc).map fun g=>D.lst (vecO nc (S g)))):=by
  refine comp_all (fun (t:Nat)=>D.int (t:Int)) _ (List.range nc) (rng_of ?_ (by omega)) (by simp; omega) fun g hg=>⟨[some (.int (g:Int)),some (netD ns as),some (.lst (nats p))],rfl,?_⟩
  ·generalize netD ns as=nd at *;clear hS key mo ok all;walk_at "mir"
  ·have:=(hS g (List.mem_range.mp hg)).1;generalize netD ns as=nd at *;generalize vecO nc (S g)=V at *;clear hS key mo ok all hg;walk_at "mir"
 obtain ⟨ρ',h1,pre,d,f,y4,y5,y6,y7,e1,rfl,⟨post,e2⟩,hd,hf⟩:=forD_inv (g:=gV 4) (b:=b_steps_2) (ds:=as.map encA) (ρ:=[some (netD ns as),some (.lst (nats p)),some (.lst ((List.range nc).map fun g=>D.lst (vecO nc (S g)))),some (.dT [] []),none,none,none,none])
  (fun ds ρ=>∃(pre:List Arw) (d:D) (f:Nat→Nat→Nat→T) (y4 y5 y6 y7:Option D),ds=pre.map encA∧ρ=[some (netD ns as),some (.lst (nats p)),some (.lst ((List.range nc).map fun g=>D.lst (vecO nc (S g)))),some d,y4,y5,y6,y7]∧(∃post,as=pre++post)∧Dct d (pre.length * nc) f ∧
   ∀b s h v,ge (f b s h) v↔∃a∈pre,a.b=b∧0<b∧a.s=s∧h<nc∧ge (S a.g h) (v-a.t))
  ⟨[],_,fun _ _ _=>none,none,none,none,none,rfl,rfl,⟨as,rfl⟩,⟨[],[],rfl,rfl,by simp,List.nodup_nil,nofun,fun _ _ _=>rfl⟩,fun b s h v=>⟨fun z=>absurd z ge_none,fun ⟨_,z,_⟩=>by cases z⟩⟩ (by
   rintro ds dd post ρ e ⟨pre,d,f,y4,y5,y6,y7,rfl,rfl,⟨post',e'⟩,hd,hf⟩;obtain ⟨a,ha,rfl⟩:∃a,as[pre.length]?=some a∧encA a=dd:=by have:=at_mid e;rw [List.getElem?_map,List.length_map] at this;exact Option.map_eq_some_iff.mp this
   have ham:a∈as:=List.mem_iff_getElem?.mpr ⟨_,ha⟩;have hpl:pre.length<as.length:=(List.getElem?_eq_some_iff.mp ha).1;have hag:=(h.right a ham).g;have e'':∃post'',as=(pre++[a])++post'':=by
    refine ⟨post'.tail,?_⟩;rw [e'] at ha;rw [List.getElem?_append_right (Nat.le_refl _),Nat.sub_self] at ha;cases post' with
    | nil=>cases ha
    | cons b p=>cases ha; rw [e']; simp
   have g2:=fg a;have g4:=fb a;have bound:pre.length * nc+nc≤10000:=by have:pre.length * nc≤119 * 40:=Nat.mul_le_mul (by omega) hm;omega
   have more:(pre++[a]).length * nc=pre.length * nc+nc:=by rw [List.length_append,List.length_singleton,Nat.succ_mul]
   by_cases hb:0<a.b
   ·obtain ⟨d',f',z5,z6,z7,lp,hd',hf'⟩:=steps_in (nd:=netD ns as) (od:=.lst (nats p)) (sm:=.lst ((List.range nc).map fun g=>D.lst (vecO nc (S g)))) (a:=a) (nc:=nc) (R:=S a.g) hd (by omega) y5 y6 y7;have ix:ixD (.lst ((List.range nc).map fun g=>D.lst (vecO nc (S g)))) (.int (a.g:Int))=some (.lst (vecO nc (S a.g))):=atI_nat (by rw [List.getElem?_map,List.getElem?_range hag]; rfl);refine ⟨_,_,rfl,.inl ?_,pre++[a],d',f',some (encA a),z5,z6,z7,by simp,rfl,e'',by rw [more]; exact hd',fun b s h v=>?_⟩
    ·have c1:(a.b:Int) > 0:=by omega
     generalize vecO nc (S a.g)=V at *;generalize ((List.range nc).map fun g=>D.lst (vecO nc (S g)))=SL at *;generalize netD ns as=nd at *;generalize encA a=ea at *;generalize (a.b:Int)=ab at *;unfold b_steps_2;generalize b_steps_1=B1 at *;clear hd hf hd' hf' e e' e'' ha ham hag bound more hb hS key mo ok all q;walk_at "mir"
    ·rw [hf',hf];constructor
     ·rintro (⟨c,hc,z⟩ | ⟨z1,z2,z3,z4⟩)
      ·exact ⟨c,List.mem_append_left _ hc,z⟩
      ·exact ⟨a,by simp,z1.symm,by omega,z2.symm,z3,z4⟩
     ·rintro ⟨c,hc,z⟩;rcases List.mem_append.mp hc with hc | hc
      ·exact .inl ⟨c,hc,z⟩
      ·rw [List.mem_singleton.mp hc] at z;exact .inr ⟨z.1.symm,z.2.2.1.symm,z.2.2.2.1,z.2.2.2.2⟩
   ·refine ⟨_,_,rfl,.inl ?_,pre++[a],d,f,some (encA a),y5,y6,y7,by simp,rfl,e'',?_,fun b s h v=>?_⟩
    ·have c1:¬(a.b:Int) > 0:=by omega
     generalize ((List.range nc).map fun g=>D.lst (vecO nc (S g)))=SL at *;generalize netD ns as=nd at *;generalize encA a=ea at *;generalize (a.b:Int)=ab at *;unfold b_steps_2;generalize b_steps_1=B1 at *;clear hd hf e e' e'' ha ham hag bound more hb hS key mo ok all q;walk_at "mir"
    ·obtain ⟨ks,ds,e,q1,q2,q3⟩:=hd.is;exact ⟨ks,ds,e,q1,by rw [more]; omega,q3⟩
    ·rw [hf];constructor
     ·rintro ⟨c,hc,z⟩;exact ⟨c,List.mem_append_left _ hc,z⟩
     ·rintro ⟨c,hc,z⟩;rcases List.mem_append.mp hc with hc | hc
      ·exact ⟨c,hc,z⟩
      ·rw [List.mem_singleton.mp hc] at z
       omega)
 have hpp:pre=as:=by
  have:as.length=pre.length:=by simpa using congrArg List.length e1
  rw [e2,List.length_append] at this;have:post=[]:=List.length_eq_zero_iff.mp (by omega);rw [e2,this,List.append_nil]
 subst hpp;refine ⟨d,f,S,?_,?_,fun g hg=>(hS g hg).2,hf⟩
 ·generalize ((List.range nc).map fun g=>D.lst (vecO nc (S g)))=SL at *;generalize netD ns pre=nd at *;generalize pre.map encA=EA at *;unfold m_steps;generalize b_steps_2=B2 at *;generalize q_steps_1=Q at *;clear hd hf hS key ok all e1 e2 hrk h;walk_at "mir"
 ·obtain ⟨ks,ds,e,q1,q2,q3⟩:=hd.is;have:pre.length * nc≤120 * 40:=Nat.mul_le_mul hal hm;exact ⟨ks,ds,e,q1,by omega,q3⟩
def encP5 (a:Arw) (k:Nat):D:=.tup [.int (a.s:Int),.int (a.g:Int),.int a.t,.int (a.b:Int),.int (k:Int)]
def kdP (a:Arw) (k:Nat):Kd:=if a.b=0∧0<k then .ride else if 0<a.b∧0<k then .back else .wait
def mkP (a:Arw) (k:Nat):Arw:=⟨kdP a k,a.s,a.g,a.t,a.b⟩
theorem t_larrow (a:Arw) (k:Nat):m_law_arrow [encP5 a k]=some (encA (mkP a k)):=by
 have r1:i_Ride___init 1 [.int (a.s:Int),.int (a.g:Int),.int a.t]=some (.obj 1 ["start","goal","time","behind"] [.int (a.s:Int),.int (a.g:Int),.int a.t,.int 0]):=rfl;have r2:i_Wait___init 2 [.int (a.s:Int),.int (a.g:Int),.int a.t,.int (a.b:Int)]=some (.obj 2 ["start","goal","time","behind"] [.int (a.s:Int),.int (a.g:Int),.int a.t,.int (a.b:Int)]):=rfl;have r3:i_Back___init 3 [.int (a.s:Int),.int (a.g:Int),.int a.t,.int (a.b:Int)]=some (.obj 3 ["start","goal","time","behind"] [.int (a.s:Int),.int (a.g:Int),.int a.t,.int (a.b:Int)]):=rfl;obtain ⟨c,s,g,t,b⟩:=a;unfold encP5 encA mkP kdP m_law_arrow;dsimp only at *;by_cases hk:0<k
 ·have hk1:(k:Int) > 0:=by omega
  by_cases hb:b=0
  ·rw [if_pos ⟨hb,hk⟩];have hb1:(b:Int)=0:=by omega
   rw [hb1] at *;show _=some (D.obj 1 _ _);clear r2 r3 hb hb1;generalize (k:Int)=ki at *;walk_at "mir"
  ·rw [if_neg (fun z=>hb z.1),if_pos ⟨by omega,hk⟩];have hb1:¬(b:Int)=0:=by omega
   have hb2:(b:Int) > 0:=by omega
   show _=some (D.obj 3 _ _);clear r1 r2 hb;generalize (b:Int)=bi at *;generalize (k:Int)=ki at *;walk_at "mir"
 ·rw [if_neg (fun z=>hk z.2),if_neg (fun z=>hk z.2)];have hk1:¬(k:Int) > 0:=by omega
  show _=some (D.obj 2 _ _);clear r1 r3;by_cases hb:b=0
  ·have hb1:(b:Int)=0:=by omega
   rw [hb1] at r2 ⊢;clear hb hb1;generalize (k:Int)=ki at *;walk_at "mir"
  ·have hb1:¬(b:Int)=0:=by omega
   have hb2:(b:Int) > 0:=by omega
   clear hb;generalize (b:Int)=bi at *;generalize (k:Int)=ki at *;walk_at "mir"
structure PartOk (nc:Nat) (rk:Nat→Nat) (a:Arw):Prop where
 s:a.s<nc
 g:a.g<nc
 t0:0≤a.t
 t1:a.t≤1000000000
 b:a.b≤4
 r:a.b=0→rk a.s<rk a.g
theorem PartOk.right {rk:Nat→Nat} (h:PartOk nc rk a) (k:Nat):Right nc (mkP a k):=by
 refine ⟨h.s,h.g,h.t0,h.t1,h.b,fun z=>?_,fun z=>?_⟩
 ·show a.b=0;have z:kdP a k=.ride:=z;unfold kdP at z;split at z
  ·rename_i q; exact q.1
  ·split at z <;> cases z
 ·show 1≤a.b;have z:kdP a k=.back:=z;unfold kdP at z;split at z
  ·cases z
  ·split at z
   ·rename_i q; omega
   ·cases z
theorem pick8 (ds:List D) (h:ds.length=8) (P:D→Prop) (hp:∀d∈ds,P d) (k:Int):∃d,atI ds (k % 8)=some d∧P d:=by
 obtain ⟨l,e⟩:∃l:Nat,k % 8=(l:Int):=⟨(k % 8).toNat,by omega⟩;rw [e];have hl':l<ds.length:=by omega
 exact ⟨ds[l],atI_nat (List.getElem?_eq_getElem hl'),hp _ (List.getElem_mem hl')⟩
theorem t_lpart (c:Int) {p:List Nat} (hm:1≤nc) (hp:p.Perm (List.range nc)):∃(a:Arw) (k:Nat),m_law_part [.int c,.lst (nats p)]=some (encP5 a k)∧PartOk nc (fun g=>p.findIdx (fun x=>decide (x=g))) a:=by
 have hl:p.length=nc:=by simpa using hp.length_eq
 obtain ⟨z1,m1,_⟩:=t_mixed c (k:=1) (by decide) (by decide);obtain ⟨z2,m2,_⟩:=t_mixed c (k:=2) (by decide) (by decide);obtain ⟨z3,m3,_⟩:=t_mixed c (k:=3) (by decide) (by decide);obtain ⟨z4,m4,_⟩:=t_mixed c (k:=4) (by decide) (by decide);obtain ⟨z5,m5,_⟩:=t_mixed c (k:=5) (by decide) (by decide);have l1:lenD [.lst (nats p)]=some (.int (nc:Int)):=(lenD_lst _).trans (by unfold nats; rw [List.length_map,hl]);have u1:modD (.int (z1:Int)) (.int (nc:Int))=some (.int ((z1 % nc:Nat):Int)):=by rw [modD_pos (by omega)]; simp
 have u2:modD (.int (z2:Int)) (.int (nc:Int))=some (.int ((z2 % nc:Nat):Int)):=by rw [modD_pos (by omega)]; simp
 have u4:modD (.int (z4:Int)) (.int 3)=some (.int ((z4 % 3:Nat):Int)):=by rw [modD_pos (by omega)]; simp
 have g1:z1 % nc<nc:=Nat.mod_lt _ (by omega);have g2:z2 % nc<nc:=Nat.mod_lt _ (by omega);generalize z1 % nc=x at *;generalize z2 % nc=y at *;generalize z4 % 3=kk at *;obtain ⟨_,bx,b,rfl,b4⟩:=pick8 [.int 0,.int 0,.int 0,.int 1,.int 1,.int 2,.int 3,.int 4] rfl (fun d=>∃b:Nat,d=.int (b:Int)∧b≤4) (by
  intro d hd;simp only [List.mem_cons,List.not_mem_nil,or_false] at hd;rcases hd with rfl | rfl | rfl | rfl | rfl | rfl | rfl | rfl
  all_goals first | exact ⟨0,rfl,by decide⟩ | exact ⟨1,rfl,by decide⟩ | exact ⟨2,rfl,by decide⟩ | exact ⟨3,rfl,by decide⟩ | exact ⟨4,rfl,by decide⟩) (z5:Int)
 have bx:ixD (.lst [.int 0,.int 0,.int 0,.int 1,.int 1,.int 2,.int 3,.int 4]) (.int ((z5:Int) % 8))=some (.int (b:Int)):=bx;obtain ⟨t,tx,t0,t1⟩:∃t:Int,ixD (.lst [.int (c % 9),.int (c % 1000000001),.int 0]) (.int ((z3:Int) % 3))=some (.int t)∧0≤t∧t≤1000000000:=by
  have:(z3:Int) % 3=0∨(z3:Int) % 3=1∨(z3:Int) % 3=2:=by omega
  rcases this with e | e | e <;> rw [e]
  ·exact ⟨_,rfl,by omega,by omega⟩
  ·exact ⟨_,rfl,by omega,by omega⟩
  ·exact ⟨_,rfl,by decide,by decide⟩
 have pw:(10:Int) ^ (9:Int).toNat=1000000000:=by decide
 have fi:∀i (hi:i<p.length),p.findIdx (fun x=>decide (x=p[i]))=i:=fun i hi=>by
  rw [List.findIdx_eq hi];refine ⟨by simp,fun j hj=>?_⟩;have hj':j<p.length:=by omega
  have nd:p.Nodup:=hp.nodup_iff.mpr List.nodup_range;have:p[j]≠p[i]:=fun z=>by have:=(List.getElem_inj (xs:=p) (h₀:=hj') (h₁:=hi) nd).mp z;omega
  simpa using this
 have lt:∀i (hi:i<p.length),p[i]<nc:=fun i hi=>List.mem_range.mp (hp.mem_iff.mp (List.getElem_mem hi));have big:∀b':Nat,1≤b'→b'≤4→((x:Int)=(y:Int)→max2D [.int 1,.int (b:Int)]=some (.int (b':Int)))→(¬(x:Int)=(y:Int)→b'=b)→∃(a:Arw) (k:Nat),m_law_part [.int c,.lst (nats p)]=some (encP5 a k)∧PartOk nc (fun g=>p.findIdx (fun x=>decide (x=g))) a:=fun b' hb hb4 he hne=>by
  have hx:x<p.length:=by omega
  have hy:y<p.length:=by omega
  have q1:=nats_at hx;have q2:=nats_at hy;refine ⟨⟨.wait,p[x],p[y],t,b'⟩,kk,?_,⟨lt x hx,lt y hy,t0,t1,hb4,fun h=>absurd h (by show ¬b'=0; omega)⟩⟩;have hb0:¬(b':Int)=0:=by omega
  have hbz:¬b'=0:=by omega
  unfold m_law_part encP5;dsimp only;by_cases hxy:(x:Int)=(y:Int)
  ·have he:=he hxy;have hxy':x=y:=by omega
   subst hxy';generalize nats p=np at *;generalize (p[x]:Int)=px at *;clear hne t0 t1 g1 g2 hm b4 fi lt hl hxy;walk_at "mir"
  ·have hne:=hne hxy;subst hne;generalize nats p=np at *;generalize (p[x]:Int)=px at *;generalize (p[y]:Int)=py at *;clear he t0 t1 g1 g2 hm b4 fi lt hl;walk_at "mir"
 by_cases hxy:(x:Int)=(y:Int)
 ·by_cases hb:b=0
  ·refine big 1 (by decide) (by decide) (fun _=>?_) fun h=>absurd hxy h;rw [hb]; rfl
  ·refine big b (by omega) b4 (fun _=>?_) fun _=>rfl;rw [max2D_int];split
   ·rfl
   ·congr 2; omega
 ·by_cases hb:b=0
  ·clear big;subst hb;have n1:min2D [.int (x:Int),.int (y:Int)]=some (.int ((min x y:Nat):Int)):=(min2D_int _ _).trans (by congr 2; split <;> omega);have n2:max2D [.int (x:Int),.int (y:Int)]=some (.int ((max x y:Nat):Int)):=(max2D_int _ _).trans (by congr 2; split <;> omega);have hlt:min x y<max x y:=by omega
   have hx:min x y<p.length:=by omega
   have hy:max x y<p.length:=by omega
   generalize min x y=i at *;generalize max x y=j at *;have q1:=nats_at hx;have q2:=nats_at hy;refine ⟨⟨.wait,p[i],p[j],t,0⟩,kk,?_,⟨lt i hx,lt j hy,t0,t1,Nat.zero_le _,fun _=>by show p.findIdx (fun x=>decide (x=p[i]))<p.findIdx (fun x=>decide (x=p[j])); rw [fi i hx,fi j hy]; exact hlt⟩⟩;have z0:((0:Nat):Int)=0:=rfl;rw [z0] at bx;unfold m_law_part encP5;dsimp only;rw [z0];generalize nats p=np at *;generalize (p[i]:Int)=px at *;generalize (p[j]:Int)=py at *;clear t0 t1 g1 g2 hm b4 fi lt hl;walk_at "mir"
  ·exact big b (by omega) b4 (fun h=>absurd h hxy) fun _=>rfl
theorem zip_get (nd:ks.Nodup) {k:List Key} {d:D}:(k,d)∈ks.zip ds↔getK ks ds k=some d:=by
 unfold getK;constructor
 ·intro hm;cases hf:(ks.zip ds).find? fun p=>decide (p.1=k) with
  | none =>have:=List.find?_eq_none.mp hf _ hm;simp at this
  | some q =>
   have h1:=List.find?_some hf;have h2:=List.mem_of_find?_eq_some hf;have h1:q.1=k:=by simpa using h1
   obtain ⟨i,hi,e1⟩:=List.mem_iff_getElem.mp hm;obtain ⟨j,hj,e2⟩:=List.mem_iff_getElem.mp h2;rw [List.length_zip] at hi hj;have k1:ks[i]=k:=by have:=congrArg Prod.fst e1; simpa using this
   have k2:ks[j]=k:=by have:=congrArg Prod.fst e2; rw [h1] at this; simpa using this
   have:i=j:=(List.getElem_inj (xs:=ks) (h₀:=by omega) (h₁:=by omega) nd).mp (k1.trans k2.symm);subst this;rw [e1] at e2;rw [← e2]; rfl
 ·intro h;cases hf:(ks.zip ds).find? fun p=>decide (p.1=k) with
  | none=>rw [hf] at h; cases h
  | some q =>
   rw [hf] at h;have h1:=List.find?_some hf;have h2:=List.mem_of_find?_eq_some hf;have h1:q.1=k:=by simpa using h1
   have h:q.2=d:=by simpa using h
   rw [← h1,← h];exact h2
theorem t_max (zs:List Int):∃X:T,maxDD (.lst (zs.map .int)) .non=some (encO X)∧∀v,ge X v↔∃z∈zs,v≤z:=by
 cases hz:zs with
 | nil=>exact ⟨none,rfl,fun v=>⟨fun z=>absurd z ge_none,fun ⟨_,z,_⟩=>by cases z⟩⟩
 | cons y ys =>
  obtain ⟨h1,h2⟩:=maxI_mem (ns:=y::ys) (M:=ys.foldl max y) rfl;refine ⟨some (ys.foldl max y),?_,fun v=>?_⟩
  ·unfold maxDD;dsimp only;rw [if_pos (show D.non.sc=true from rfl),intsD_map];rfl
  ·rw [ge_some];exact ⟨fun z=>⟨_,h1,z⟩,fun ⟨z,hz,hv⟩=>Int.le_trans hv (h2 z hz)⟩
abbrev Pq:=Arw×Nat
def enQ (q:Pq):D:=encP5 q.1 q.2
variable {qs:List Pq}
theorem due_1 {d:D} {b o h:Nat} (hl:qs.length≤1000) (y5 y6 y7 y8 y9 y10:Option D):∃zs:List Int,q_law_due_1 [some (.lst (qs.map enQ)),some d,some (.int (b:Int)),some (.int (o:Int)),some (.int (h:Int)),y5,y6,y7,y8,y9,y10]=some (.lst (zs.map .int))∧zs.length≤1000∧∀z,z∈zs↔∃q∈qs,q.1.b=b∧q.1.s=o∧q.1.g=h∧z=q.1.t:=by
 refine ⟨(qs.filter fun q=>decide (q.1.b=b) && (decide (q.1.s=o) && decide (q.1.g=h))).map fun q=>q.1.t,?_,?_,fun z=>?_⟩
 ·rw [List.map_map];refine comp_of enQ _ _ qs rfl (by omega) fun q _=>⟨[some (enQ q),some (.int (b:Int)),some (.int (o:Int)),some (.int (h:Int))],rfl,?_,fun _=>?_⟩
  ·obtain ⟨⟨c,s,g,t,b'⟩,k⟩:=q;have x3:ixD (enQ (⟨c,s,g,t,b'⟩,k)) (.int 3)=some (.int (b':Int)):=rfl;have x0:ixD (enQ (⟨c,s,g,t,b'⟩,k)) (.int 0)=some (.int (s:Int)):=rfl;have x1:ixD (enQ (⟨c,s,g,t,b'⟩,k)) (.int 1)=some (.int (g:Int)):=rfl;have e1:((b':Int)=(b:Int))↔b'=b:=by omega
   have e2:((s:Int)=(o:Int))↔s=o:=by omega
   have e3:((g:Int)=(h:Int))↔g=h:=by omega
   dsimp only;generalize enQ (⟨c,s,g,t,b'⟩,k)=Q at *;by_cases h1:b'=b
   ·by_cases h2:s=o
    ·have h1':=e1.mpr h1;have h2':=e2.mpr h2;rw [decide_eq_true h1,decide_eq_true h2];by_cases h3:g=h
     ·have h3':=e3.mpr h3;rw [decide_eq_true h3];clear e1 e2 e3 h1 h2 h3;walk_at "mir"
     ·have h3':¬(g:Int)=(h:Int):=fun z=>h3 (e3.mp z);rw [decide_eq_false h3];clear e1 e2 e3 h1 h2 h3;generalize (g:Int)=gi at *;walk_at "mir"
    ·have h1':=e1.mpr h1;have h2':¬(s:Int)=(o:Int):=fun z=>h2 (e2.mp z);rw [decide_eq_true h1,decide_eq_false h2];clear e1 e2 e3 h1 h2;generalize (s:Int)=si at *;walk_at "mir"
   ·have h1':¬(b':Int)=(b:Int):=fun z=>h1 (e1.mp z);rw [decide_eq_false h1];clear e1 e2 e3 h1;generalize (b':Int)=bi at *;walk_at "mir"
  ·have x2:ixD (enQ q) (.int 2)=some (.int q.1.t):=rfl;show _=some (D.int q.1.t);generalize enQ q=Q at *;walk_at "mir"
 ·rw [List.length_map];exact Nat.le_trans (List.length_filter_le ..) hl
 ·rw [List.mem_map];constructor
  ·rintro ⟨q,hq,rfl⟩;obtain ⟨h1,h2⟩:=List.mem_filter.mp hq;rw [Bool.and_eq_true,Bool.and_eq_true,decide_eq_true_iff,decide_eq_true_iff,decide_eq_true_iff] at h2;exact ⟨q,h1,h2.1,h2.2.1,h2.2.2,rfl⟩
  ·rintro ⟨q,h1,h2,h3,h4,rfl⟩;exact ⟨q,List.mem_filter.mpr ⟨h1,by rw [h2,h3,h4]; simp⟩,rfl⟩
theorem due_2 {P:D} {d:D} {n b o h:Nat} {f:Nat→Nat→Nat→T} (hd:Dct d n f) {zs:List Int} (hz:zs.length≤5000) (q:Pq):∃zs':List Int,
  b_law_due_1 [some P,some d,some (.int (b:Int)),some (.int (o:Int)),some (.int (h:Int)),some (.lst (zs.map .int)),some (.int (q.1.s:Int)),some (.int (q.1.g:Int)),some (.int q.1.t),some (.int (q.1.b:Int)),some (.int (q.2:Int))]=some (.nx [some P,some d,some (.int (b:Int)),some (.int (o:Int)),some (.int (h:Int)),some (.lst (zs'.map .int)),some (.int (q.1.s:Int)),some (.int (q.1.g:Int)),some (.int q.1.t),some (.int (q.1.b:Int)),some (.int (q.2:Int))]) ∧
  zs'.length≤zs.length+1∧∀v,(∃z∈zs',v≤z)↔(∃z∈zs,v≤z)∨(q.1.b=0∧q.1.g=h∧ge (f b o q.1.s) (v-q.1.t)):=by
 obtain ⟨ks,ds,rfl,k1,k2,k3,k4,k5⟩:=hd.is;have gt:dgetD (.dT ks ds) (.tup [.int (b:Int),.int (o:Int),.int (q.1.s:Int)])=some ((f b o q.1.s).map D.int):=by show some (getK ks ds (key3 b o q.1.s))=_;rw [k5]
 generalize D.dT ks ds=d at *;have e1:((q.1.b:Int)=0)↔q.1.b=0:=by omega
 have e2:((q.1.g:Int)=(h:Int))↔q.1.g=h:=by omega
 have no:(¬(q.1.b=0∧q.1.g=h∧(f b o q.1.s).isSome=true))→∀v,(∃z∈zs,v≤z)↔(∃z∈zs,v≤z)∨(q.1.b=0∧q.1.g=h∧ge (f b o q.1.s) (v-q.1.t)):=fun hn v=>by refine ⟨.inl,fun z=>z.elim id fun ⟨h1,h2,y,h3,_⟩=>absurd ⟨h1,h2,by rw [h3]; rfl⟩ hn⟩
 by_cases h1:q.1.b=0
 ·by_cases h2:q.1.g=h
  ·cases hf:f b o q.1.s with
   | none =>refine ⟨zs,?_,by omega,by rw [← hf]; exact no (by rw [hf]; rintro ⟨_,_,z⟩; cases z)⟩;have h1':=e1.mpr h1;have h2':=e2.mpr h2;rw [hf] at gt;have gt:dgetD d (.tup [.int (b:Int),.int (o:Int),.int (q.1.s:Int)])=some none:=gt;generalize zs.map D.int=Z at *;unfold b_law_due_1;clear e1 e2 no k1 k2 k3 k4 k5 hf h1 h2 hd;rw [h1'] at *;rw [h2'] at *;walk_at "mir"
   | some m =>
    have h1':=e1.mpr h1;have h2':=e2.mpr h2;rw [hf] at gt;have gt:dgetD d (.tup [.int (b:Int),.int (o:Int),.int (q.1.s:Int)])=some (some (.int m)):=gt;refine ⟨zs++[m+q.1.t],?_,by simp,fun v=>?_⟩
    ·have hlen:(zs.map D.int).length<16777216:=by rw [List.length_map]; omega
     rw [List.map_append,List.map_cons,List.map_nil];generalize zs.map D.int=Z at *;unfold b_law_due_1;clear e1 e2 no k1 k2 k3 k4 k5 hf h1 h2 hd hz;rw [h1'] at *;rw [h2'] at *;walk_at "mir"
    ·rw [ge_some];constructor
     ·rintro ⟨z,hz,hv⟩;rcases List.mem_append.mp hz with hz | hz
      ·exact .inl ⟨z,hz,hv⟩
      ·rw [List.mem_singleton.mp hz] at hv;exact .inr ⟨h1,h2,by omega⟩
     ·rintro (⟨z,hz,hv⟩ | ⟨_,_,hv⟩)
      ·exact ⟨z,List.mem_append_left _ hz,hv⟩
      ·exact ⟨_,List.mem_append_right _ (List.mem_singleton.mpr rfl),by omega⟩
  ·refine ⟨zs,?_,by omega,no fun z=>h2 z.2.1⟩;have h1':=e1.mpr h1;have h2':¬(q.1.g:Int)=(h:Int):=fun z=>h2 (e2.mp z);generalize zs.map D.int=Z at *;unfold b_law_due_1;clear e1 e2 no k1 k2 k3 k4 k5 h1 h2 hd gt;rw [h1'] at *;generalize (q.1.g:Int)=gi at *;walk_at "mir"
 ·refine ⟨zs,?_,by omega,no fun z=>h1 z.1⟩;have h1':¬(q.1.b:Int)=0:=fun z=>h1 (e1.mp z);generalize zs.map D.int=Z at *;unfold b_law_due_1;clear e1 e2 no k1 k2 k3 k4 k5 h1 hd gt;generalize (q.1.b:Int)=bi at *;walk_at "mir"
theorem t_ldue {d:D} {n b o h:Nat} {f:Nat→Nat→Nat→T} (hd:Dct d n f) (hl:qs.length≤1000):∃X:T,m_law_due [.lst (qs.map enQ),d,.int (b:Int),.int (o:Int),.int (h:Int)]=some (encO X) ∧
  ∀v,ge X v↔(∃q∈qs,q.1.b=b∧q.1.s=o∧q.1.g=h∧v≤q.1.t)∨∃q∈qs,q.1.b=0∧q.1.g=h∧ge (f b o q.1.s) (v-q.1.t):=by
 obtain ⟨zs,h1,h2,h3⟩:=due_1 (d:=d) (b:=b) (o:=o) (h:=h) hl none none none none none none;obtain ⟨ρ',lp,pre,zs',y6,y7,y8,y9,y10,e1,rfl,hz,hv⟩:=forD_inv (g:=gT (gsCons (gV 6) (gsCons (gV 7) (gsCons (gV 8) (gsCons (gV 9) (gsCons (gV 10) gsNil)))))) (b:=b_law_due_1) (ds:=qs.map enQ) (ρ:=[some (.lst (qs.map enQ)),some d,some (.int (b:Int)),some (.int (o:Int)),some (.int (h:Int)),some (.lst (zs.map .int)),none,none,none,none,none])
  (fun ds ρ=>∃(pre:List Pq) (zs':List Int) (y6 y7 y8 y9 y10:Option D),ds=pre.map enQ∧ρ=[some (.lst (qs.map enQ)),some d,some (.int (b:Int)),some (.int (o:Int)),some (.int (h:Int)),some (.lst (zs'.map .int)),y6,y7,y8,y9,y10]∧zs'.length≤1000+pre.length∧(∃post,qs=pre++post) ∧
   ∀v,(∃z∈zs',v≤z)↔(∃z∈zs,v≤z)∨∃q∈pre,q.1.b=0∧q.1.g=h∧ge (f b o q.1.s) (v-q.1.t))
  ⟨[],zs,none,none,none,none,none,rfl,rfl,by simpa using h2,⟨qs,rfl⟩,fun v=>⟨.inl,fun z=>z.elim id fun ⟨_,z,_⟩=>by cases z⟩⟩ (by
   rintro ds dd post ρ e ⟨pre,zs',y6,y7,y8,y9,y10,rfl,rfl,hz,⟨post',e'⟩,hv⟩;obtain ⟨q,hq,rfl⟩:∃q,qs[pre.length]?=some q∧enQ q=dd:=by have:=at_mid e;rw [List.getElem?_map,List.length_map] at this;exact Option.map_eq_some_iff.mp this
   have hpl:pre.length<qs.length:=(List.getElem?_eq_some_iff.mp hq).1;obtain ⟨zs2,s1,s2,s3⟩:=due_2 (P:=.lst (qs.map enQ)) (b:=b) (o:=o) (h:=h) hd (zs:=zs') (by omega) q;refine ⟨_,_,rfl,.inl s1,pre++[q],zs2,_,_,_,_,_,by simp,rfl,by rw [List.length_append,List.length_singleton]; omega,⟨post'.tail,?_⟩,fun v=>?_⟩
   ·rw [e',List.getElem?_append_right (Nat.le_refl _),Nat.sub_self] at hq;cases post' with
    | nil=>cases hq
    | cons x r=>cases hq; rw [e']; simp
   ·rw [s3,hv];constructor
    ·rintro ((z | ⟨a,ha,z⟩) | z)
     ·exact .inl z
     ·exact .inr ⟨a,List.mem_append_left _ ha,z⟩
     ·exact .inr ⟨q,by simp,z⟩
    ·rintro (z | ⟨a,ha,z⟩)
     ·exact .inl (.inl z)
     ·rcases List.mem_append.mp ha with ha | ha
      ·exact .inl (.inr ⟨a,ha,z⟩)
      ·rw [List.mem_singleton.mp ha] at z;exact .inr z)
 have hpp:pre=qs:=by
  obtain ⟨⟨post,e2⟩,_⟩:=hv;have:qs.length=pre.length:=by simpa using congrArg List.length e1
  rw [e2,List.length_append] at this;have:post=[]:=List.length_eq_zero_iff.mp (by omega);rw [e2,this,List.append_nil]
 subst hpp;obtain ⟨X,m1,m2⟩:=t_max zs';refine ⟨X,?_,fun v=>?_⟩
 ·generalize encO X=EX at *;generalize zs'.map D.int=Z2 at *;generalize zs.map D.int=Z1 at *;generalize pre.map enQ=PQ at *;unfold m_law_due;generalize q_law_due_1=Q1 at *;generalize b_law_due_1=B1 at *;clear hz hv h2 h3 e1 hd;walk_at "mir"
 ·rw [m2,hv.2];constructor
  ·rintro (⟨z,hz,h5⟩ | z)
   ·obtain ⟨q,hq,a1,a2,a3,rfl⟩:=(h3 z).mp hz;exact .inl ⟨q,hq,a1,a2,a3,h5⟩
   ·exact .inr z
  ·rintro (⟨q,hq,a1,a2,a3,a4⟩ | z)
   ·exact .inl ⟨q.1.t,(h3 _).mpr ⟨q,hq,a1,a2,a3,rfl⟩,a4⟩
   ·exact .inr z
structure Stf (nc:Nat) (qs:List Pq) (f:Nat→Nat→Nat→T):Prop where
 bel:∀b o h,0<b→h<nc→∀v,ge (f b o h) v↔(∃q∈qs,q.1.b=b∧q.1.s=o∧q.1.g=h∧v≤q.1.t)∨∃q∈qs,q.1.b=0∧q.1.g=h∧ge (f b o q.1.s) (v-q.1.t)
 inn:∀b o h m,f b o h=some m→0<b∧h<nc∧∃q∈qs,q.1.b=b∧q.1.s=o
theorem stf_of {f:Nat→Nat→Nat→T} {S:Nat→Nat→T} (hok:∀q∈qs,q.1.s<nc∧q.1.g<nc) (hS:∀g,g<nc→Sum (qs.map fun q=>mkP q.1 q.2) nc g (S g))
  (hf:∀b s h v,ge (f b s h) v↔∃a∈qs.map fun q=>mkP q.1 q.2,a.b=b∧0<b∧a.s=s∧h<nc∧ge (S a.g h) (v-a.t)):Stf nc qs f:=by
 have hf':∀b s h v,ge (f b s h) v↔∃q∈qs,q.1.b=b∧0<b∧q.1.s=s∧h<nc∧ge (S q.1.g h) (v-q.1.t):=fun b s h v=>by
  rw [hf];constructor
  ·rintro ⟨a,ha,z⟩;obtain ⟨q,hq,rfl⟩:=List.mem_map.mp ha;exact ⟨q,hq,z⟩
  ·rintro ⟨q,hq,z⟩;exact ⟨_,List.mem_map.mpr ⟨q,hq,rfl⟩,z⟩
 have hS':∀g h,g<nc→h<nc→∀v,ge (S g h) v↔(h=g∧v≤0)∨∃q∈qs,q.1.b=0∧q.1.g=h∧ge (S g q.1.s) (v-q.1.t):=fun g h hg hh v=>by
  rw [(hS g hg).is h hh];constructor
  ·rintro (z | ⟨a,ha,z⟩)
   ·exact .inl z
   ·obtain ⟨q,hq,rfl⟩:=List.mem_map.mp ha;exact .inr ⟨q,hq,z⟩
  ·rintro (z | ⟨q,hq,z⟩)
   ·exact .inl z
   ·exact .inr ⟨_,List.mem_map.mpr ⟨q,hq,rfl⟩,z⟩
 refine ⟨fun b o h hb hh v=>?_,fun b o h m e=>?_⟩
 ·rw [hf'];constructor
  ·rintro ⟨q,hq,e1,_,e2,_,z⟩;rcases (hS' q.1.g h (hok q hq).2 hh _).mp z with ⟨e3,z⟩ | ⟨c,hc,c1,c2,z⟩
   ·exact .inl ⟨q,hq,e1,e2,e3.symm,by omega⟩
   ·refine .inr ⟨c,hc,c1,c2,(hf' b o c.1.s _).mpr ⟨q,hq,e1,hb,e2,(hok c hc).1,?_⟩⟩;rwa [show v-c.1.t-q.1.t=v-q.1.t-c.1.t by omega]
  ·rintro (⟨q,hq,e1,e2,e3,z⟩ | ⟨c,hc,c1,c2,z⟩)
   ·exact ⟨q,hq,e1,hb,e2,hh,(hS' q.1.g h (hok q hq).2 hh _).mpr (.inl ⟨e3.symm,by omega⟩)⟩
   ·obtain ⟨q,hq,e1,_,e2,_,z⟩:=(hf' b o c.1.s _).mp z;refine ⟨q,hq,e1,hb,e2,hh,(hS' q.1.g h (hok q hq).2 hh _).mpr (.inr ⟨c,hc,c1,c2,?_⟩)⟩;rwa [show v-q.1.t-c.1.t=v-c.1.t-q.1.t by omega]
 ·obtain ⟨q,hq,e1,e2,e3,e4,_⟩:=(hf' b o h m).mp ⟨m,e,Int.le_refl _⟩;exact ⟨e2,e4,q,hq,e1,e3⟩
theorem Stf.due {n:Nat} {d:D} {f:Nat→Nat→Nat→T} (hs:Stf nc qs f) (hd:Dct d n f) (hl:qs.length≤1000) {b o h:Nat} (hb:0<b) (hh:h<nc):m_law_due [.lst (qs.map enQ),d,.int (b:Int),.int (o:Int),.int (h:Int)]=some (encO (f b o h)):=by obtain ⟨X,h1,h2⟩:=t_ldue (b:=b) (o:=o) (h:=h) hd hl;rw [h1];exact congrArg (fun z=>some (encO z)) (ge_ext fun v=>(h2 v).trans (hs.bel b o h hb hh v).symm)
def prs (qs:List Pq):List (List Int):=(qs.filter fun q=>decide (0<q.1.b)).map fun q=>[(q.1.b:Int),(q.1.s:Int)]
theorem right_2 {d:D} (hl:qs.length≤1000) (y2 y3 y4 y5 y6 y7 y8:Option D):q_law_right_2 [some d,some (.lst (qs.map enQ)),y2,y3,y4,y5,y6,y7,y8]=some (.lst ((prs qs).map encTI)):=by
 unfold prs;rw [List.map_map];refine comp_of enQ _ _ qs rfl (by omega) fun q _=>⟨[some (enQ q)],rfl,?_,fun _=>?_⟩
 ·have x3:ixD (enQ q) (.int 3)=some (.int (q.1.b:Int)):=rfl;have e:((q.1.b:Int) > 0)↔0<q.1.b:=by omega
  generalize enQ q=Q at *;by_cases h:0<q.1.b
  ·have h':=e.mpr h;rw [decide_eq_true h];generalize (q.1.b:Int)=bi at *;clear e h;walk_at "mir"
  ·have h':¬(q.1.b:Int) > 0:=fun z=>h (e.mp z);rw [decide_eq_false h];generalize (q.1.b:Int)=bi at *;clear e h;walk_at "mir"
 ·have x3:ixD (enQ q) (.int 3)=some (.int (q.1.b:Int)):=rfl;have x0:ixD (enQ q) (.int 0)=some (.int (q.1.s:Int)):=rfl;show _=some (D.tup [.int (q.1.b:Int),.int (q.1.s:Int)]);generalize enQ q=Q at *;walk_at "mir"
def hsh:List Int:=(List.range 200).map fun i=>L2.STb.hT [((i / 40:Nat):Int),((i % 40:Nat):Int)]
def ndI:List Int→Bool
 | []=>true
 | x::xs=>!xs.contains x && ndI xs
theorem ndI_nd:∀{xs:List Int},ndI xs=true→xs.Nodup
 | [],_=>.nil
 | x::xs,h=>by unfold ndI at h;rw [Bool.and_eq_true,Bool.not_eq_true'] at h;refine List.nodup_cons.mpr ⟨fun z=>?_,ndI_nd h.2⟩;rw [List.contains_iff_mem.mpr z] at h;cases h.1
theorem hsh_nd:ndI hsh=true:=by decide +kernel
theorem hT_inj {b s b' s':Nat} (hb:b≤4) (hs:s<40) (hb':b'≤4) (hs':s'<40) (e:L2.STb.hT [(b:Int),(s:Int)]=L2.STb.hT [(b':Int),(s':Int)]):b=b'∧s=s':=by
 have at_:∀b s:Nat,b≤4→s<40→hsh[40 * b+s]?=some (L2.STb.hT [(b:Int),(s:Int)]):=fun b s hb hs=>by unfold hsh;rw [List.getElem?_map,List.getElem?_range (by omega),Option.map_some,show (40 * b+s) / 40=b by omega,show (40 * b+s) % 40=s by omega]
 have:=L2.STb.nd_at (ndI_nd hsh_nd) (at_ b s hb hs) (by rw [e]; exact at_ b' s' hb' hs');omega
theorem prs_inj (h:∀q∈qs,q.1.b≤4∧q.1.s<40):injB (prs qs)=true:=by
 have key:∀k∈prs qs,∃b s:Nat,k=[(b:Int),(s:Int)]∧b≤4∧s<40:=fun k hk=>by obtain ⟨q,hq,rfl⟩:=List.mem_map.mp hk;have:=h q (List.mem_filter.mp hq).1;exact ⟨_,_,rfl,this⟩
 refine List.all_eq_true.mpr fun k hk=>List.all_eq_true.mpr fun k' hk'=>?_;obtain ⟨b,s,rfl,h1,h2⟩:=key k hk;obtain ⟨b',s',rfl,h3,h4⟩:=key k' hk';by_cases e:L2.STb.hT [(b:Int),(s:Int)]=L2.STb.hT [(b':Int),(s':Int)]
 ·obtain ⟨rfl,rfl⟩:=hT_inj h1 h2 h3 h4 e;simp
 ·simp [e]
theorem t_pairs (h:∀q∈qs,q.1.b≤4∧q.1.s<40) (hl:(prs qs).length≤18):∃ps:List (Nat×Nat),sortSetT (.lst ((prs qs).map encTI))=some (.lst (ps.map fun p=>D.tup [.int (p.1:Int),.int (p.2:Int)]))∧ps.Nodup∧∀b s:Nat,(b,s)∈ps↔0<b∧∃q∈qs,q.1.b=b∧q.1.s=s:=by
 have e1:sortSetT (.lst ((prs qs).map encTI))=some (.lst ((sortL (ddL (prs qs))).map encTI)):=by
  show (tupsI ((prs qs).map encTI)).bind _=_;have ne:∀k∈prs qs,k≠[]:=fun k hk=>by
   obtain ⟨q,_,rfl⟩:=List.mem_map.mp hk
   nofun
  rw [tupsI_map,Option.bind_some,if_pos ⟨hl,ne,prs_inj h⟩]
 have pm:=sortL_perm (ddL (prs qs));have nd:(sortL (ddL (prs qs))).Nodup:=pm.symm.nodup (ddL_nd _);have mem:∀k,k∈sortL (ddL (prs qs))↔k∈prs qs:=fun k=>pm.mem_iff.trans ddL_mem;have key:∀l:List (List Int),(∀k∈l,k∈prs qs)→∃ps:List (Nat×Nat),l=ps.map fun p=>[(p.1:Int),(p.2:Int)]:=by
  intro l;induction l with
  | nil=>exact fun _=>⟨[],rfl⟩
  | cons k l ih =>intro hk;obtain ⟨ps,rfl⟩:=ih fun x hx=>hk x (List.mem_cons_of_mem _ hx);obtain ⟨q,_,rfl⟩:=List.mem_map.mp (hk k List.mem_cons_self);exact ⟨(q.1.b,q.1.s)::ps,rfl⟩
 obtain ⟨ps,hps⟩:=key _ fun k hk=>(mem k).mp hk;rw [hps] at e1 nd mem;have inj:∀{p q:Nat×Nat},[(p.1:Int),(p.2:Int)]=[(q.1:Int),(q.2:Int)]→p=q:=fun {p q} e=>by
  obtain ⟨a,b⟩:=p;obtain ⟨c,d⟩:=q;simp only [List.cons.injEq,and_true] at e;have h1:a=c:=by omega
  have h2:b=d:=by omega
  rw [h1,h2]
 refine ⟨ps,?_,?_,fun b s=>?_⟩
 ·rw [e1,List.map_map];rfl
 ·rw [List.Nodup,List.pairwise_map] at nd;exact nd.imp fun h e=>h (by rw [e])
 ·have:=mem [(b:Int),(s:Int)];constructor
  ·intro hp;obtain ⟨q,hq,e⟩:=List.mem_map.mp (this.mp (List.mem_map.mpr ⟨(b,s),hp,rfl⟩));obtain ⟨h1,h2⟩:=List.mem_filter.mp hq;have h2:=of_decide_eq_true h2;have:=inj (p:=(q.1.b,q.1.s)) (q:=(b,s)) e;cases this;exact ⟨h2,q,h1,rfl,rfl⟩
  ·rintro ⟨hb,q,hq,rfl,rfl⟩;obtain ⟨p,hp,e⟩:=List.mem_map.mp (this.mpr (List.mem_map.mpr ⟨q,List.mem_filter.mpr ⟨hq,decide_eq_true hb⟩,rfl⟩));have:=inj (p:=p) (q:=(q.1.b,q.1.s)) e;rw [← this];exact hp
theorem bools_map {α:Type} (f:α→Bool):∀xs:List α,boolsD (xs.map fun x=>D.bl (f x))=some (xs.map f)
 | []=>rfl
 | x::xs=>by show (boolsD (xs.map fun x=>D.bl (f x))).bind _=_;rw [bools_map f xs];rfl
theorem all_map (f:α→Bool) (xs:List α):allD [.lst (xs.map fun x=>D.bl (f x))]=some (.bl (xs.all f)):=by show (boolsD _).bind _=_;rw [bools_map];show some (D.bl ((xs.map f).all id))=_;rw [List.all_map];rfl
def cntH (nc:Nat) (f:Nat→Nat→Nat→T) (p:Nat×Nat):List Nat:=(List.range nc).filter fun h=>(f p.1 p.2 h).isSome
def allK (nc:Nat) (f:Nat→Nat→Nat→T) (ps:List (Nat×Nat)):List (List Key):=ps.flatMap fun p=>(cntH nc f p).map fun h=>key3 p.1 p.2 h
theorem allK_mem {f:Nat→Nat→Nat→T} {ps:List (Nat×Nat)} {k:List Key}:k∈allK nc f ps↔∃p∈ps,∃h,h<nc∧(f p.1 p.2 h).isSome=true∧k=key3 p.1 p.2 h:=by
 unfold allK cntH;rw [List.mem_flatMap];constructor
 ·rintro ⟨p,hp,hk⟩;obtain ⟨h,hh,rfl⟩:=List.mem_map.mp hk;obtain ⟨h1,h2⟩:=List.mem_filter.mp hh;exact ⟨p,hp,h,List.mem_range.mp h1,h2,rfl⟩
 ·rintro ⟨p,hp,h,h1,h2,rfl⟩;exact ⟨p,hp,List.mem_map.mpr ⟨h,List.mem_filter.mpr ⟨List.mem_range.mpr h1,h2⟩,rfl⟩⟩
theorem allK_nd {nc:Nat} {f:Nat→Nat→Nat→T}:∀{ps:List (Nat×Nat)},ps.Nodup→(allK nc f ps).Nodup
 | [],_=>.nil
 | p::ps,nd=>by
  obtain ⟨h1,h2⟩:=List.nodup_cons.mp nd;show ((cntH nc f p).map (fun h=>key3 p.1 p.2 h)++allK nc f ps).Nodup;refine List.nodup_append.mpr ⟨?_,allK_nd h2,fun k hk k' hk' e=>?_⟩
  ·rw [List.Nodup,List.pairwise_map];exact (List.nodup_range.filter _).imp fun h e=>h (key3_inj e).2.2
  ·subst e;obtain ⟨h,_,rfl⟩:=List.mem_map.mp hk;obtain ⟨q,hq,h',_,_,e⟩:=allK_mem.mp hk';obtain ⟨e1,e2,_⟩:=key3_inj e;exact h1 (by rw [show p=q from Prod.ext e1 e2]; exact hq)
theorem Dct.keys {d:D} {n:Nat} {f:Nat→Nat→Nat→T} {ps:List (Nat×Nat)} (nd:ps.Nodup) (k1:ks.length=ds.length) (k3:ks.Nodup) (k4:∀k∈ks,∃b s h,k=key3 b s h) (k5:∀b s h:Nat,getK ks ds (key3 b s h)=(f b s h).map D.int)
  (inn:∀b o h m,f b o h=some m→h<nc∧(b,o)∈ps):ks.length=(allK nc f ps).length∧∀x∈ds,∃i:Int,x=.int i:=by
 have val:∀i (hi:i<ks.length),∃b s h m,ks[i]=key3 b s h∧f b s h=some m∧ds[i]'(by omega)=.int m:=fun i hi=>by obtain ⟨b,s,h,e⟩:=k4 ks[i] (List.getElem_mem hi);have hm:(ks[i],ds[i]'(by omega))∈ks.zip ds:=List.mem_iff_getElem.mpr ⟨i,by rw [List.length_zip]; omega,by rw [List.getElem_zip]⟩;have:=(zip_get k3).mp hm;rw [e,k5] at this;obtain ⟨m,h1,h2⟩:=Option.map_eq_some_iff.mp this;exact ⟨b,s,h,m,e,h1,h2.symm⟩
 refine ⟨((List.perm_ext_iff_of_nodup k3 (allK_nd nd)).mpr fun k=>?_).length_eq,fun x hx=>?_⟩
 ·rw [allK_mem];constructor
  ·intro hk;obtain ⟨i,hi,rfl⟩:=List.mem_iff_getElem.mp hk;obtain ⟨b,s,h,m,e,h1,_⟩:=val i hi;obtain ⟨h2,h3⟩:=inn b s h m h1;exact ⟨(b,s),h3,h,h2,by rw [h1]; rfl,e⟩
  ·rintro ⟨p,hp,h,h1,h2,rfl⟩;obtain ⟨m,hm⟩:=Option.isSome_iff_exists.mp h2;have:=k5 p.1 p.2 h;rw [hm] at this;have:=(zip_get k3).mpr this;exact (List.of_mem_zip this).1
 ·obtain ⟨i,hi,rfl⟩:=List.mem_iff_getElem.mp hx;obtain ⟨_,_,_,m,_,_,e⟩:=val i (by omega);exact ⟨m,e⟩
theorem right_3 (hl:ks.length=ds.length) (h8:ds.length≤16777216) (hi:∀x∈ds,∃i:Int,x=.int i) (y1 y2 y3 y4 y5 y6 y7 y8:Option D):eN allD (aCons q_law_right_3 aNil) [some (.dT ks ds),y1,y2,y3,y4,y5,y6,y7,y8]=some (.bl true):=by
 have:q_law_right_3 [some (.dT ks ds),y1,y2,y3,y4,y5,y6,y7,y8]=some (.lst (ds.map fun _=>D.bl true)):=by
  refine comp_all (fun x:D=>x) _ ds ?_ h8 fun x hx=>⟨[some x],rfl,?_⟩
  ·show (if ks.length=ds.length then some ds else none)=_;rw [if_pos hl,List.map_id']
  ·obtain ⟨i,rfl⟩:=hi x hx;rfl
 unfold eN aCons aNil;rw [this];exact all_map (fun _=>true) ds |>.trans (by simp)
theorem right_in {n:Nat} {d:D} {f:Nat→Nat→Nat→T} (hs:Stf nc qs f) (hd:Dct d n f) (hl:qs.length≤1000) (hm:nc≤1000) {b o:Nat} (hb:0<b) (c:Nat) (y6 y7 y8:Option D):∃z6 z7:Option D,
  b_law_right_3 [some d,some (.lst (qs.map enQ)),some (.int (nc:Int)),some (.int (c:Int)),some (.int (b:Int)),some (.int (o:Int)),y6,y7,y8]=some (.nx [some d,some (.lst (qs.map enQ)),some (.int (nc:Int)),some (.int ((c+(cntH nc f (b,o)).length:Nat):Int)),some (.int (b:Int)),some (.int (o:Int)),z6,z7,y8]):=by
 have r1:=rng1_int (j:=(nc:Int)) (by omega) (by omega);rw [Int.toNat_natCast] at r1;obtain ⟨ρ',h1,z6,z7,rfl⟩:=forD_range (g:=gV 6) (b:=b_law_right_2) (lo:=0) (n:=nc) (ρ:=[some d,some (.lst (qs.map enQ)),some (.int (nc:Int)),some (.int (c:Int)),some (.int (b:Int)),some (.int (o:Int)),y6,y7,y8])
  (fun j ρ=>∃z6 z7:Option D,ρ=[some d,some (.lst (qs.map enQ)),some (.int (nc:Int)),some (.int ((c+((List.range j).filter fun h=>(f b o h).isSome).length:Nat):Int)),some (.int (b:Int)),some (.int (o:Int)),z6,z7,y8]) ⟨y6,y7,rfl⟩ (by
   rintro j ρ hj ⟨z6,z7,rfl⟩;rw [Int.zero_add];have du:=hs.due hd hl (b:=b) (o:=o) hb hj;have gt:=hd.get b o j;have eq:eqD true (encO (f b o j)) (encO (f b o j))=some (.bl false):=(Eo.eq (by decide) (neg:=true) (f b o j) (f b o j)).trans (by simp);have cn:((c+((List.range (j+1)).filter fun h=>(f b o h).isSome).length:Nat):Int)=((c+((List.range j).filter fun h=>(f b o h).isSome).length:Nat):Int)+(if (f b o j).isSome=true then 1 else 0):=by
    rw [List.range_succ,List.filter_append,List.length_append];cases hf:(f b o j).isSome with
    | true=>simp only [List.filter_cons,hf,if_true,List.filter_nil,List.length_cons,List.length_nil]; omega
    | false=>simp only [List.filter_cons,hf,if_false,List.filter_nil,List.length_nil,Bool.false_eq_true]; omega
   refine ⟨_,[some d,some (.lst (qs.map enQ)),some (.int (nc:Int)),some (.int (((c+((List.range j).filter fun h=>(f b o h).isSome).length:Nat):Int)+(if (f b o j).isSome=true then 1 else 0))),some (.int (b:Int)),some (.int (o:Int)),some (.int (j:Int)),some (encO (f b o j)),y8],rfl,.inl ?_,some (.int (j:Int)),some (encO (f b o j)),by rw [cn]⟩;clear cn;generalize ((c+((List.range j).filter fun h=>(f b o h).isSome).length:Nat):Int)=C at *;generalize qs.map enQ=PQ at *;clear hs hd hl hm hb r1 hj;unfold b_law_right_2;cases hf:f b o j with
   | none =>rw [hf] at du gt eq;clear hf;simp only [encO] at du gt eq ⊢;have ib:intB [.bl false]=some (.int 0):=rfl;show _=some (Out.nx [_,_,_,some (.int (C+0)),_,_,_,_,_]);walk_at "mir"
   | some m =>rw [hf] at du gt eq;clear hf;simp only [encO] at du gt eq ⊢;have ib:intB [.bl true]=some (.int 1):=rfl;show _=some (Out.nx [_,_,_,some (.int (C+1)),_,_,_,_,_]);walk_at "mir")
 refine ⟨z6,z7,?_⟩;unfold cntH;dsimp only;generalize qs.map enQ=PQ at *;generalize ((c+((List.range nc).filter fun h=>(f b o h).isSome).length:Nat):Int)=C at *;generalize upto 0 nc=U at *;clear hs hd hl hm hb;unfold b_law_right_3;generalize b_law_right_2=B2 at *;walk_at "mir"
theorem right_key {d P M C:D} {b s h:Nat} (y4 y5 y6 y7:Option D):b_law_right_1 [some d,some P,some M,some C,y4,y5,y6,y7,some (.tup ((key3 b s h).map kD))]=some (.nx [some d,some P,some M,some C,y4,y5,y6,y7,some (.tup ((key3 b s h).map kD))]):=by rfl
theorem t_lright {d:D} {f:Nat→Nat→Nat→T} (hs:Stf nc qs f) (hd:Dct d 10000 f) (hl:qs.length≤1000) (hm:nc≤40) (hq:∀q∈qs,q.1.b≤4∧q.1.s<nc) (hp:(prs qs).length≤18):m_law_right [d,.lst (qs.map enQ),.int (nc:Int)]=some (.bl true):=by
 obtain ⟨ps,s1,nd,mem⟩:=t_pairs (fun q h=>⟨(hq q h).1,by have:=(hq q h).2; omega⟩) hp;obtain ⟨ks,ds,rfl,k1,k2,k3,k4,k5⟩:=hd.is;obtain ⟨cnt,itz⟩:=Dct.keys (d:=.non) (n:=0) (nc:=nc) nd k1 k3 k4 k5 fun b o h m e=>by obtain ⟨h1,h2,h3⟩:=hs.inn b o h m e;exact ⟨h2,(mem b o).mpr ⟨h1,h3⟩⟩
 have a3:=right_3 k1 (by omega) itz (some (.lst (qs.map enQ))) (some (.int (nc:Int))) none none none none none none;have q2:=right_2 (d:=.dT ks ds) hl (some (.int (nc:Int))) (some (.int 0)) none none none none none;obtain ⟨ρ',lp,pre,y4,y5,y6,y7,e1,rfl,⟨post,e2⟩⟩:=forD_inv (g:=gT (gsCons (gV 4) (gsCons (gV 5) gsNil))) (b:=b_law_right_3) (ds:=ps.map fun p=>D.tup [.int (p.1:Int),.int (p.2:Int)]) (ρ:=[some (.dT ks ds),some (.lst (qs.map enQ)),some (.int (nc:Int)),some (.int 0),none,none,none,none,none])
  (fun es ρ=>∃(pre:List (Nat×Nat)) (y4 y5 y6 y7:Option D),es=pre.map (fun p=>D.tup [.int (p.1:Int),.int (p.2:Int)])∧ρ=[some (.dT ks ds),some (.lst (qs.map enQ)),some (.int (nc:Int)),some (.int ((allK nc f pre).length:Int)),y4,y5,y6,y7,none]∧∃post,ps=pre++post)
  ⟨[],none,none,none,none,rfl,rfl,ps,rfl⟩ (by
   rintro es dd post ρ e ⟨pre,y4,y5,y6,y7,rfl,rfl,post',e'⟩;obtain ⟨p,hp',rfl⟩:∃p,ps[pre.length]?=some p∧D.tup [.int (p.1:Int),.int (p.2:Int)]=dd:=by have:=at_mid e;rw [List.getElem?_map,List.length_map] at this;exact Option.map_eq_some_iff.mp this
   have hb:=((mem p.1 p.2).mp (List.mem_of_getElem? hp')).1;obtain ⟨z6,z7,st⟩:=right_in hs hd hl (by omega) (b:=p.1) (o:=p.2) hb (allK nc f pre).length y6 y7 none;have ln:(allK nc f (pre++[p])).length=(allK nc f pre).length+(cntH nc f (p.1,p.2)).length:=by unfold allK;rw [List.flatMap_append,List.length_append,List.flatMap_cons,List.flatMap_nil,List.append_nil,List.length_map]
   refine ⟨_,_,rfl,.inl st,pre++[p],_,_,z6,z7,by simp,by rw [ln],post'.tail,?_⟩;rw [e',List.getElem?_append_right (Nat.le_refl _),Nat.sub_self] at hp';cases post' with
   | nil=>cases hp'
   | cons x r=>cases hp'; rw [e']; simp)
 have hpp:pre=ps:=by
  have:ps.length=pre.length:=by simpa using congrArg List.length e1
  rw [e2,List.length_append] at this;have:post=[]:=List.length_eq_zero_iff.mp (by omega);rw [e2,this,List.append_nil]
 subst hpp;rw [← cnt] at lp;obtain ⟨ρ2,lk,y8,rfl⟩:=forD_inv (g:=gV 8) (b:=b_law_right_1) (ds:=ks.map fun k=>D.tup (k.map kD)) (ρ:=[some (.dT ks ds),some (.lst (qs.map enQ)),some (.int (nc:Int)),some (.int (ks.length:Int)),y4,y5,y6,y7,none])
  (fun _ ρ=>∃y8:Option D,ρ=[some (.dT ks ds),some (.lst (qs.map enQ)),some (.int (nc:Int)),some (.int (ks.length:Int)),y4,y5,y6,y7,y8]) ⟨none,rfl⟩ (by rintro es dd post ρ e ⟨y8,rfl⟩;have:=at_mid e;rw [List.getElem?_map] at this;obtain ⟨k,hk,rfl⟩:=Option.map_eq_some_iff.mp this;obtain ⟨b,s,h,rfl⟩:=k4 k (List.mem_of_getElem? hk);exact ⟨_,_,rfl,.inl (right_key ..),_,rfl⟩)
 have ky:kysD (.dT ks ds)=some (ks.map fun k=>D.tup (k.map kD)):=by show (if ks.length=ds.length then _ else _)=_;rw [if_pos k1]
 have i1:isiTD (.dT ks ds)=some (.bl true):=by show (if ks.length=ds.length then _ else _)=_;rw [if_pos k1]
 have ln:lenT [.dT ks ds]=some (.int (ks.length:Int)):=by show (if ks.length=ds.length then _ else _)=_;rw [if_pos k1]
 have eq:eqD false (.int (ks.length:Int)) (.int (ks.length:Int))=some (.bl true):=by rw [eqD_int]; simp
 generalize (ks.map fun k=>D.tup (k.map kD))=KD at *;generalize (ks.length:Int)=kl at *;generalize (pre.map fun p=>D.tup [.int (p.1:Int),.int (p.2:Int)])=PS at *;generalize (prs qs).map encTI=PR at *;generalize qs.map enQ=PQ at *;generalize D.dT ks ds=d at *;unfold m_law_right;generalize q_law_right_2=Q2 at *;generalize q_law_right_3=Q3 at *;generalize b_law_right_3=B3 at *;generalize b_law_right_1=B1 at *;generalize hA:eN allD (aCons Q3 aNil)=A3 at *;clear hs hd hl hm hq hp nd mem k1 k2 k3 k4 k5 cnt itz e1 e2 hA;walk_at "mir"
structure LQ (nc:Nat) (rk:Nat→Nat) (q:Pq):Prop where
 ok:PartOk nc rk q.1
 b0:q.1.b=0
theorem forD_two {g:D→L3.Env→Option L3.Env} {b:SF} {d1 d2:D} {ρ ρ1 ρ2 ρ3 ρ4:L3.Env} (h1:g d1 ρ=some ρ1) (h2:b ρ1=some (.nx ρ2)) (h3:g d2 ρ2=some ρ3) (h4:b ρ3=some (.nx ρ4)):forD g b [d1,d2] ρ=some (.nx ρ4):=by simp [forD,h1,h2,h3,h4]
theorem p_idx {p:List Nat} (hp:p.Perm (List.range nc)) {i:Nat} (hi:i<p.length):p.findIdx (fun x=>decide (x=p[i]))=i:=by
 rw [List.findIdx_eq hi];refine ⟨by simp,fun j hj=>?_⟩;have hj':j<p.length:=by omega
 have nd:p.Nodup:=hp.nodup_iff.mpr List.nodup_range;have:p[j]≠p[i]:=fun z=>by have:=(List.getElem_inj (xs:=p) (h₀:=hj') (h₁:=hi) nd).mp z;omega
 simpa using this
theorem lay_1 {p:List Nat} (hp:p.Perm (List.range 40)) {k o:Nat} (hk:k<o) (ho:o<40) (c:Int) {L:List Pq} (hL:L.length≤1000) (y5:Option D):∃(q:Pq) (z5:Option D),b_law_layers_1 [some (.lst (nats p)),some (.int c),some (.lst (L.map enQ)),some (.int (k:Int)),some (.int (o:Int)),y5]=some (.nx [some (.lst (nats p)),some (.int c),some (.lst ((L++[q]).map enQ)),some (.int (k:Int)),some (.int (o:Int)),z5])∧LQ 40 (fun g=>p.findIdx (fun x=>decide (x=g))) q:=by
 have hl:p.length=40:=by simpa using hp.length_eq
 have hk':k<p.length:=by omega
 have ho':o<p.length:=by omega
 obtain ⟨z,m1,_⟩:=t_mixed c (k:=100+2 * (k:Int)+(o:Int) % 2) (by omega) (by omega);have q1:=nats_at hk';have q2:=nats_at ho';obtain ⟨t,tx,t0,t1⟩:∃t:Int,ixD (.lst [.int ((z:Int) % 7),.int ((z:Int) % 1000000000)]) (.int (c % 2))=some (.int t)∧0≤t∧t≤1000000000:=by
  have:c % 2=0∨c % 2=1:=by omega
  rcases this with e | e <;> rw [e]
  ·exact ⟨_,rfl,by omega,by omega⟩
  ·exact ⟨_,rfl,by omega,by omega⟩
 have lt:∀i (hi:i<p.length),p[i]<40:=fun i hi=>List.mem_range.mp (hp.mem_iff.mp (List.getElem_mem hi));obtain ⟨kk,hkk⟩:∃kk:Nat,(z:Int) % 3=(kk:Int):=⟨((z:Int) % 3).toNat,by omega⟩;refine ⟨(⟨.wait,p[k],p[o],t,0⟩,kk),some (.int (z:Int)),?_,⟨⟨lt k hk',lt o ho',t0,t1,Nat.zero_le _,fun _=>?_⟩,rfl⟩⟩
 ·have mu:mulI (.int 2) (.int (k:Int))=some (.int (2 * (k:Int))):=mulI_l (by decide) (by decide);have pw:(10:Int) ^ (9:Int).toNat=1000000000:=by decide
  have hlen:(L.map enQ).length<16777216:=by rw [List.length_map]; omega
  have md3:modD (.int (z:Int)) (.int 3)=some (.int (kk:Int)):=by rw [modD_pos (by decide),hkk]
  rw [List.map_append];show _=some (Out.nx [_,_,some (.lst (L.map enQ++[.tup [.int (p[k]:Int),.int (p[o]:Int),.int t,.int 0,.int (kk:Int)]])),_,_,_]);generalize L.map enQ=LE at *;generalize nats p=np at *;generalize (p[k]:Int)=a1 at *;generalize (p[o]:Int)=a2 at *;generalize (kk:Int)=a3 at *;generalize (o:Int)=oi at *;generalize (k:Int)=ki at *;clear lt hl hk' ho' hp hk ho hL t0 t1 hkk;unfold b_law_layers_1;walk_at "mir"
 ·show p.findIdx (fun x=>decide (x=p[k]))<p.findIdx (fun x=>decide (x=p[o]));rw [p_idx hp hk',p_idx hp ho'];exact hk
theorem t_layers {p:List Nat} (hp:p.Perm (List.range 40)) (c:Int):∃L:List Pq,m_law_layers [.lst (nats p),.int c]=some (.lst (L.map enQ))∧L.length=76∧∀q∈L,LQ 40 (fun g=>p.findIdx (fun x=>decide (x=g))) q:=by
 obtain ⟨ρ',h1,L,y3,y4,y5,rfl,hL,hq⟩:=forD_range (g:=gV 3) (b:=b_law_layers_2) (lo:=0) (n:=38) (ρ:=[some (.lst (nats p)),some (.int c),some (.lst []),none,none,none])
  (fun j ρ=>∃(L:List Pq) (y3 y4 y5:Option D),ρ=[some (.lst (nats p)),some (.int c),some (.lst (L.map enQ)),y3,y4,y5]∧L.length=2 * j∧∀q∈L,LQ 40 (fun g=>p.findIdx (fun x=>decide (x=g))) q) ⟨[],none,none,none,rfl,rfl,fun q hq=>(by cases hq)⟩ (by
   rintro j ρ hj ⟨L,y3,y4,y5,rfl,hL,hq⟩;rw [Int.zero_add];obtain ⟨o,ho,h2,h3⟩:∃o:Nat,(j:Int)+2-(j:Int) % 2=(o:Int)∧j<o∧o+1<40:=⟨((j:Int)+2-(j:Int) % 2).toNat,by omega,by omega,by omega⟩;have ho1:(j:Int)+3-(j:Int) % 2=((o+1:Nat):Int):=by omega
   obtain ⟨q1,z5,s1,l1⟩:=lay_1 hp h2 (by omega) c (L:=L) (by omega) y5;obtain ⟨q2,w5,s2,l2⟩:=lay_1 hp (k:=j) (o:=o+1) (by omega) (by omega) c (L:=L++[q1]) (by rw [List.length_append,List.length_singleton]; omega) z5;have two:=forD_two (g:=gV 4) (b:=b_law_layers_1) (d1:=.int (o:Int)) (d2:=.int ((o+1:Nat):Int)) (ρ:=[some (.lst (nats p)),some (.int c),some (.lst (L.map enQ)),some (.int (j:Int)),y4,y5]) rfl s1 rfl s2;refine ⟨_,_,rfl,.inl ?_,L++[q1]++[q2],some (.int (j:Int)),some (.int ((o+1:Nat):Int)),w5,rfl,by simp only [List.length_append,List.length_singleton]; omega,fun q hq'=>?_⟩
   ·rw [← ho,← ho1] at two;rw [← ho1];generalize (L++[q1]++[q2]).map enQ=L2 at *;generalize L.map enQ=L1 at *;generalize nats p=np at *;generalize (j:Int)=ji at *;clear s1 s2 hL hq hp h2 h3 ho ho1 l1 l2;unfold b_law_layers_2;generalize b_law_layers_1=B1 at *;walk_at "mir"
   ·rcases List.mem_append.mp hq' with hq' | hq'
    ·rcases List.mem_append.mp hq' with hq' | hq'
     ·exact hq q hq'
     ·rw [List.mem_singleton.mp hq']; exact l1
    ·rw [List.mem_singleton.mp hq']; exact l2)
 refine ⟨L,?_,hL,hq⟩;have r1:=rng1_int (j:=(38:Int)) (by decide) (by decide);replace r1:rng1 [.int 38]=some (upto 0 38):=r1;generalize L.map enQ=LE at *;generalize nats p=np at *;generalize upto 0 38=U at *;clear hL hq hp;unfold m_law_layers;generalize b_law_layers_2=B2 at *;walk_at "mir"
theorem cells_of {ns:List Int} {r:L3.Env} (i a b:Nat) (h:r[i]?.join=some (.lst (ns.map .int))):lsD (fun ρ=>((eV i) ρ).bind fun d=>((pInt (eC (.int a))) ρ).bind fun l=>((pInt (eC (.int b))) ρ).bind fun h=>sliceD d l h) r=some (((ns.drop a).take (b-a)).map .int):=by have e:eV i r=some (.lst (ns.map .int)):=h;unfold lsD;show (((eV i) r).bind _).bind _=_;rw [e];show some (cutD (ns.map .int) (some (a:Int)) (some (b:Int)))=_;rw [cutD_mid,List.map_take,List.map_drop]
def lt1 (k:Nat):Str:=⟨#[97+k % 26]⟩
def lt2 (k:Nat):Str:=if k<26 then "" else "b"
def nm1 (k:Nat):Str:=⟨if k<26 then #[97+k] else #[97+k % 26,98]⟩
def nm71 (n:Nat):List D:=(List.range n).map fun (k:Nat)=>D.str (nm1 k)
def isT:Option D→Bool
 | some (.bl true)=>true
 | _=>false
theorem of_isT {x:Option D} (h:isT x=true):x=some (.bl true):=by
 unfold isT at h;split at h
 ·rfl
 ·cases h
theorem t_nm71 {n:Nat} (h1:1≤n) (h2:n≤7∨n=40):m_are_names [.lst (nm71 n)]=some (.bl true):=by
 have:n=1∨n=2∨n=3∨n=4∨n=5∨n=6∨n=7∨n=40:=by omega
 rcases this with rfl | rfl | rfl | rfl | rfl | rfl | rfl | rfl <;> exact of_isT (by decide +kernel)
def isL (x:Option D) (c:Str):Bool:=match x with
 | some (.str a)=>decide (a=c)
 | _=>false
theorem of_isL {x:Option D} {c:Str} (h:isL x c=true):x=some (.str c):=by
 unfold isL at h;split at h
 ·rw [of_decide_eq_true h]
 ·cases h
theorem ix_71:∀l,l<40→isL (ixD (.str "abcdefghijklmnopqrstuvwxyz") (.int ((l % 26:Nat):Int))) (lt1 l)=true:=by decide +kernel
theorem sf_71:∀l,l<40→isL (ixD (.lst [.str "",.str "b"]) (.int ((l / 26:Nat):Int))) (lt2 l)=true:=by decide +kernel
theorem ad_71:∀l,l<40→isL (addD (.str (lt1 l)) (.str (lt2 l))) (nm1 l)=true:=by decide +kernel
theorem prs_len (qs:List Pq):(prs qs).length≤qs.length:=by unfold prs;rw [List.length_map];exact List.length_filter_le _ _
theorem prs_app {L:List Pq} (h:∀q∈L,q.1.b=0):prs (qs++L)=prs qs:=by unfold prs;rw [List.filter_append,List.filter_eq_nil_iff (l:=L) |>.mpr fun q hq=>by simp [h q hq],List.append_nil]
theorem law_tail {p:List Nat} (hm1:1≤nc) (hm:nc≤7∨nc=40) (hq:∀q∈qs,PartOk nc (fun g=>p.findIdx (fun x=>decide (x=g))) q.1) (hl:qs.length≤90) (hp:(prs qs).length≤18):∃(nd d d1 d2:D) (E:List D),
  (∀r0 r1:Option D,q_law_2 [r0,r1,some (.int (nc:Int)),some (.lst (nats p)),some (.lst (qs.map enQ)),none,none,none]=some (.lst (nm71 nc))) ∧
  (∀r0 r1:Option D,q_law_1 [r0,r1,some (.int (nc:Int)),some (.lst (nats p)),some (.lst (qs.map enQ)),some (.lst (nm71 nc)),none,none]=some (.lst E)) ∧
  i_Net___init 4 [.lst (nm71 nc),.lst E]=some nd∧m_steps [nd]=some d∧m_law_right [d,.lst (qs.map enQ),.int (nc:Int)]=some (.bl true) ∧
  (∀r0 r1 r2 r3 r4 r5 r6:Option D,sPutD 7 (fun ρ=>((aCons (eC (.int 1)) (aCons (eC (.int 0)) (aCons (eC (.int 0)) aNil))) ρ).bind fun ds=>some (.tup ds)) (e2 subD (eC (.int 0)) (eC (.int 5))) [r0,r1,r2,r3,r4,r5,r6,some d]=some (.nx [r0,r1,r2,r3,r4,r5,r6,some d1])) ∧
  (∀r0 r1 r2 r3 r4 r5 r6:Option D,sPutD 7 (fun ρ=>((aCons (eC (.int 9)) (aCons (eC (.int 0)) (aCons (eC (.int 0)) aNil))) ρ).bind fun ds=>some (.tup ds)) (eC (.int 1)) [r0,r1,r2,r3,r4,r5,r6,some d1]=some (.nx [r0,r1,r2,r3,r4,r5,r6,some d2])):=by
 obtain ⟨as,has⟩:∃as,as=qs.map fun q=>mkP q.1 q.2:=⟨_,rfl⟩;have hal:as.length≤90:=by rw [has,List.length_map]; exact hl
 have ok:NetOk nc as:=⟨hm1,by omega,by omega,fun a ha=>by
  rw [has] at ha;obtain ⟨q,h,rfl⟩:=List.mem_map.mp ha;exact (hq q h).right _,fun g=>p.findIdx (fun x=>decide (x=g)),fun a ha=>by
  rw [has] at ha;obtain ⟨q,h,rfl⟩:=List.mem_map.mp ha;exact (hq q h).r⟩
 have nl:(nm71 nc).length=nc:=by unfold nm71; rw [List.length_map,List.length_range]
 have nt:=t_net (ns:=nm71 nc) ok nl (t_nm71 hm1 hm);obtain ⟨d,f,S,stp,hd,hS,hf⟩:=t_steps ok nl;have hs:Stf nc qs f:=stf_of (fun q h=>⟨(hq q h).s,(hq q h).g⟩) (by rw [← has]; exact hS) (by rw [← has]; exact hf);have rt:=t_lright hs hd (by omega) (by omega) (fun q h=>⟨(hq q h).b,(hq q h).s⟩) hp;obtain ⟨ks,ds,rfl,k1,k2,-⟩:=hd.is;refine ⟨_,_,.dT (putK' ks ds (key3 1 0 0) (.int (-5))).1 (putK' ks ds (key3 1 0 0) (.int (-5))).2,.dT (putK' (putK' ks ds (key3 1 0 0) (.int (-5))).1 (putK' ks ds (key3 1 0 0) (.int (-5))).2 (key3 9 0 0) (.int 1)).1 (putK' (putK' ks ds (key3 1 0 0) (.int (-5))).1 (putK' ks ds (key3 1 0 0) (.int (-5))).2 (key3 9 0 0) (.int 1)).2,as.map encA,fun r0 r1=>?_,fun r0 r1=>?_,nt,stp,rt,fun r0 r1 r2 r3 r4 r5 r6=>?_,fun r0 r1 r2 r3 r4 r5 r6=>?_⟩
 ·refine comp_all (fun (t:Nat)=>D.int (t:Int)) _ (List.range nc) (rng_of rfl (by omega)) (by simp; omega) fun k hk=>⟨[some (.int (k:Int))],rfl,?_⟩;have hk:k<40:=by have:=List.mem_range.mp hk; omega
  have u1:modD (.int (k:Int)) (.int 26)=some (.int ((k % 26:Nat):Int)):=by rw [modD_pos (by omega)]; simp
  have u2:fdivD (.int (k:Int)) (.int 26)=some (.int ((k / 26:Nat):Int)):=by rw [fdivD_lit (by decide) (by decide)]; simp
  have a1:=of_isL (ix_71 k hk);have a2:=of_isL (sf_71 k hk);have a3:=of_isL (ad_71 k hk);generalize lt1 k=L1 at *;generalize lt2 k=L2 at *;generalize nm1 k=L3 at *;generalize ((k % 26:Nat):Int)=K1 at *;generalize ((k / 26:Nat):Int)=K2 at *;clear hs hd hS hf nt stp rt ok has hq hk;walk_at "mir"
 ·rw [has,List.map_map];refine comp_all enQ _ qs rfl (by omega) fun q _=>⟨[some (enQ q)],rfl,?_⟩;have:=t_larrow q.1 q.2;show _=some (encA (mkP q.1 q.2));replace this:m_law_arrow [enQ q]=some (encA (mkP q.1 q.2)):=this;generalize encA (mkP q.1 q.2)=R at *;generalize enQ q=R2 at *;clear hs hd hS hf nt stp rt ok has hq;walk_at "mir"
 ·show (if ks.length<16777216 then some (Out.nx _) else none)=_;rw [if_pos (by omega)];rfl
 ·have:=(put_len k1 (key3 1 0 0) (.int (-5))).2;show (if (putK' ks ds (key3 1 0 0) (.int (-5))).1.length<16777216 then some (Out.nx _) else none)=_;rw [if_pos (by omega)];rfl
theorem law_true (ns:List Int) (_:ns.length≤63):m_law [.lst (ns.map .int)]=some (.bl true):=by
 obtain ⟨c,c0⟩:=t_cell ns 0 (by decide);obtain ⟨cs,hcs⟩:∃cs:List Int,cs=(ns.drop 1).take 14:=⟨_,rfl⟩;have hcl:cs.length≤14:=by rw [hcs,List.length_take]; omega
 have drawn:∀(nc:Nat) (p:List Nat),1≤nc→p.Perm (List.range nc)→∃qs:List Pq,qs.length≤14∧(∀q∈qs,PartOk nc (fun g=>p.findIdx (fun x=>decide (x=g))) q.1)∧q_law_3 [some (.lst (ns.map .int)),some (.int c),some (.int (nc:Int)),some (.lst (nats p)),none,none,none,none]=some (.lst (qs.map enQ)):=fun nc p hm1 hp=>by
  have key:∀z:Int,∃q:Pq,m_law_part [.int z,.lst (nats p)]=some (enQ q)∧PartOk nc (fun g=>p.findIdx (fun x=>decide (x=g))) q.1:=fun z=>by obtain ⟨a,k,h1,h2⟩:=t_lpart z hm1 hp;exact ⟨(a,k),h1,h2⟩
  obtain ⟨Q,hQ⟩:=Classical.axiomOfChoice key;refine ⟨cs.map Q,by rw [List.length_map]; exact hcl,fun q h=>?_,?_⟩
  ·obtain ⟨z,_,rfl⟩:=List.mem_map.mp h;exact (hQ z).2
  ·have ce:=cells_of (ns:=ns) (r:=[some (.lst (ns.map .int)),some (.int c),some (.int (nc:Int)),some (.lst (nats p)),none,none,none,none]) 0 1 15 rfl;rw [← hcs] at ce;rw [List.map_map];refine comp_all D.int _ cs ce (by omega) fun z _=>⟨[some (.int z),some (.lst (nats p))],rfl,?_⟩;have:=(hQ z).1;show _=some (enQ (Q z));generalize enQ (Q z)=R at *;generalize nats p=np at *;clear hQ key ce hcs;walk_at "mir"
 obtain ⟨k,hk⟩:∃k:Nat,1+c % 7=(k:Int):=⟨(1+c % 7).toNat,by omega⟩;by_cases h3:c / 7 % 8=3
 ·obtain ⟨p,tu,hp⟩:=t_turned (nc:=40) (by decide) (by decide) (c / 56);obtain ⟨qs,hl,hq,q3⟩:=drawn 40 p (by decide) hp;obtain ⟨L,la,hL,hLq⟩:=t_layers hp (c / 56);obtain ⟨nd,d,d1,d2,E,q2,q1,nt,st,rt,p1,p2⟩:=law_tail (nc:=40) (p:=p) (qs:=qs++L) (by decide) (.inr rfl) (fun q h=>by
   rcases List.mem_append.mp h with h | h
   ·exact hq q h
   ·exact (hLq q h).ok) (by rw [List.length_append]; omega) (by rw [prs_app fun q h=>(hLq q h).b0]; have:=prs_len qs; omega)
  have ad:addD (.lst (qs.map enQ)) (.lst (L.map enQ))=some (.lst ((qs++L).map enQ)):=by rw [List.map_append]; exact addD_lst (by rw [List.length_map,List.length_map]; omega)
  replace q2:=q2 (some (.lst (ns.map .int))) (some (.int c));replace q1:=q1 (some (.lst (ns.map .int))) (some (.int c));replace q1:q_law_1 [some (.lst (ns.map .int)),some (.int c),some (.int 40),some (.lst (nats p)),some (.lst ((qs++L).map enQ)),some (.lst (nm71 40)),none,none]=some (.lst E):=q1;replace q2:q_law_2 [some (.lst (ns.map .int)),some (.int c),some (.int 40),some (.lst (nats p)),some (.lst ((qs++L).map enQ)),none,none,none]=some (.lst (nm71 40)):=q2;replace q3:q_law_3 [some (.lst (ns.map .int)),some (.int c),some (.int 40),some (.lst (nats p)),none,none,none,none]=some (.lst (qs.map enQ)):=q3;replace rt:m_law_right [d,.lst ((qs++L).map enQ),.int 40]=some (.bl true):=rt;replace tu:m_law_turned [.int 40,.int (c / 56)]=some (.lst (nats p)):=tu;generalize (qs++L).map enQ=QL at *;generalize qs.map enQ=QE at *;generalize L.map enQ=LE at *;generalize nm71 40=NM at *;generalize nats p=np at *;generalize D.lst (ns.map .int)=S0 at *;clear drawn hcs hp hq hLq hcl hl hL hk;unfold m_law;generalize q_law_1=Q1 at *;generalize q_law_2=Q2 at *;generalize q_law_3=Q3 at *;generalize sPutD 7 (fun ρ=>((aCons (eC (.int 1)) (aCons (eC (.int 0)) (aCons (eC (.int 0)) aNil))) ρ).bind fun ds=>some (.tup ds)) (e2 subD (eC (.int 0)) (eC (.int 5)))=P1 at *;generalize sPutD 7 (fun ρ=>((aCons (eC (.int 9)) (aCons (eC (.int 0)) (aCons (eC (.int 0)) aNil))) ρ).bind fun ds=>some (.tup ds)) (eC (.int 1))=P2 at *;walk_at "mir"
 ·obtain ⟨p,tu,hp⟩:=t_turned (nc:=k) (by omega) (by omega) (c / 56);obtain ⟨qs,hl,hq,q3⟩:=drawn k p (by omega) hp;obtain ⟨nd,d,d1,d2,E,q2,q1,nt,st,rt,p1,p2⟩:=law_tail (nc:=k) (p:=p) (qs:=qs) (by omega) (.inl (by omega)) hq (by omega) (by have:=prs_len qs; omega);have h40:¬(k:Int)=40:=by omega
  replace q2:=q2 (some (.lst (ns.map .int))) (some (.int c));replace q1:=q1 (some (.lst (ns.map .int))) (some (.int c));generalize qs.map enQ=QE at *;generalize nm71 k=NM at *;generalize nats p=np at *;generalize D.lst (ns.map .int)=S0 at *;generalize (k:Int)=ki at *;clear drawn hcs hp hq hcl hl;unfold m_law;generalize q_law_1=Q1 at *;generalize q_law_2=Q2 at *;generalize q_law_3=Q3 at *;generalize sPutD 7 (fun ρ=>((aCons (eC (.int 1)) (aCons (eC (.int 0)) (aCons (eC (.int 0)) aNil))) ρ).bind fun ds=>some (.tup ds)) (e2 subD (eC (.int 0)) (eC (.int 5)))=P1 at *;generalize sPutD 7 (fun ρ=>((aCons (eC (.int 9)) (aCons (eC (.int 0)) (aCons (eC (.int 0)) aNil))) ρ).bind fun ds=>some (.tup ds)) (eC (.int 1))=P2 at *;walk_at "mir"
section
variable {P:Program} {base:Heap} {a:Adr}
theorem ok_top (T:Txt K mg a):FnOk P w K mg base CX0 6 a.aJ a.aK ["_law_script"] (spLaw K):=law_ok (ok_law T) law_true
end
theorem fin {l:PySem.W.OpenLaw} {fa:Addr} {a:Adr} (hfa:mg "law"=some (.ref fa)) (T:Txt K mg a) (b:∀(s:Shared) (v:Value),BindsTo s a.aK ⟨[v],[]⟩ [("_law_script",v)]) :
  ∃fd:FuncData,(∀(s:Shared) (v:Value),BindsTo s fd ⟨[v],[]⟩ [("_law_script",v)])∧∀base:Heap,K.In base→base.Ns mainGlobals mg→FnOk l.prog w K mg base CX0 6 fa fd ["_law_script"] (spLaw K):=by
 cases hfa.symm.trans T.aj.mgx;exact ⟨_,b,fun _ _ _=>ok_top T⟩
theorem walk {l:PySem.W.OpenLaw} {q:Program} {loose:List Str} {XP:(Str→Option Value)→Heap→Prop} {YP:World→Heap→Prop} {d:DefRec} {K:Params→PySem.W.Frag} (hn:l.most=some 63) (hdf:d.params.defaults=[])
  (hY:∀(w:World) (h:Heap),YP w h→(K w.params).In h)
  (F:∀(w:World) (mg:Str→Option Value) (fa:Addr) (h:Heap),(K w.params).In h→h.Ns mainGlobals mg→mg d.name=some (.ref fa) →
   ∃fd:FuncData,(∀(s:Shared) (u:Value),BindsTo s fd ⟨[u],[]⟩ [("_law_script",u)])∧∀base:Heap,(K w.params).In base→base.Ns mainGlobals mg→FnOk l.prog w (K w.params) mg base CX0 6 fa fd ["_law_script"] (spLaw (K w.params))) :
  PySem.W.WalkO q loose XP YP l.row.toRowW d [] (fun f vs=>PySem.call f vs) :=
 L2.walk_of (n:=63) (k:=6) (x:="_law_script") (CX:=fun _=>CX0) (sp:=fun w=>spLaw (K w.params)) hn (by decide) hdf ⟨rfl,by decide,by decide,rfl⟩ hY F (fun _ _ a ns hl _ hS=>⟨a,ns,rfl,hS,hl,fun _=>rfl⟩) fun _ _ _ _ _ z=>z
end My
-- KEEP
namespace PySem.W.Fast
def tw10076201256297207328:=0
def tw17613501755693258251:=0
def tw16532725340297346761:=0
def tw2835374025417854326:=0
def tw990798501666533268:=0
def tw9113327213390175073:=0
def tw7915239709272761972:=0
def tw2281562684921316908:=0
def tw11517142703139208476:=0
def tw9211001157050707162:=0
def tw2869909471954643923:=0
def tw720476068051373818:=0
def tw6594947801451579717:=0
def tw11423625372173136167:=0
def tw14274456087356416205:=0
def tw13913980888275767909:=0
def tw1580154149147895048:=0
def tw13590540815785605991:=0
def tw6078987603915998108:=0
def tw5050480175582372609:=0
def tw14549648797802318381:=0
def tw16696615991667951404:=0
def tw5805988598602526691:=0
def tw820604602023580:=0
def tw5970218421996035194:=0
def tw15538136811846391438:=0
def tw12533938651159226170:=0
def tw13978874094459391711:=0
def tw8781403060696228626:=0
def tw9051897770485162028:=0
def tw67300189285544359:=0
def tw14668684012735525781:=0
def tw3978440459842334163:=0
def tw10072259912686603183:=0
def tw15109799550147963400:=0
def tw13408339331793047473:=0
def tw5978668669028721286:=0
def tw13616680911579094863:=0
def tw11463873623974151523:=0
def tw14112593249125196623:=0
def tw17976039348406641945:=0
def tw13840475854577720981:=0
def tw15924704287665018151:=0
def tw11693662775466850606:=0
def tw8876976975417690191:=0
def tw4566972147376522188:=0
def tw3364361258925231897:=0
def tw6994912734809585777:=0
def tw14207848584308237824:=0
def tw14999849245452212195:=0
def tw10588709407269611940:=0
end PySem.W.Fast
open PySem PySem.W PyProof.Rows
set_option maxRecDepth 100000 in
set_option maxHeartbeats 0 in
theorem PySem.Challenge.cw_ringbeat_k71_steps_by_arrows_holds : PySem.Challenge.rw_ringbeat_k71_steps_by_arrows.Holds := by
  w_on; o_law; k_head; (case hw => w_witness2)
  k_fill
  refine My.walk (l := PySem.Challenge.rw_ringbeat_k71_steps_by_arrows) rfl rfl (fun w h Y => PySem.W.kIn_of Y) ?F
  case F =>
    intro w mg fa h KX G hmg
    refine' My.fin (a := .mk ..) hmg ?T ?b
    case T =>
      constructor
      all_goals try dsimp only [My.Adr.ct]
      exact L3.zC
      exact L3.zC
      exact L3.zC
      exact L3.zC
      exact L3.zC
      exact L3.zM
      exact L3.zM
      exact L3.zM (b := L3.zE 5 (L3.lA5 fun _ _ _ _ _ => ⟨_, rfl, rfl⟩))
      (refine' L3.m_bd 4 0 rfl rfl ?r1 ?r2 ?r3 ?r4; (case r1 => k_is); (case r2 => rfl); (case r3 => exact (.cons ⟨_, rfl⟩ .nil)); (case r4 => exact L3.lA4 fun _ _ _ _ => ⟨_, rfl, rfl⟩))
      exact L3.zM (b := L3.zE 5 (L3.lA5 fun _ _ _ _ _ => ⟨_, rfl, rfl⟩))
      (refine' L3.m_bd 4 0 rfl rfl ?r1 ?r2 ?r3 ?r4; (case r1 => k_is); (case r2 => rfl); (case r3 => exact (.cons ⟨_, rfl⟩ .nil)); (case r4 => exact L3.lA4 fun _ _ _ _ => ⟨_, rfl, rfl⟩))
      exact L3.zD
      exact L3.zD
      exact L3.zD
      exact L3.zD
      exact L3.zD
      exact L3.zD
      exact L3.zD
      exact L3.zM
      exact L3.zM
      exact L3.zD
      exact L3.zD
      exact L3.zD
      exact L3.zD
      exact L3.zD
      exact L3.zD
      exact L3.zD
      exact L3.zD
      exact L3.zD
      exact L3.zD
      exact L3.zD
      exact L3.zD
      exact L3.zD
      exact L3.zD
      exact ⟨by k_is, by k_is, by k_is⟩
      (repeat refine L3.zF ?_); exact L3.m_al0
      (repeat refine L3.zF ?_); exact L3.m_al0
      (repeat refine L3.zF ?_); exact L3.m_al0
      (repeat refine L3.zF ?_); exact L3.m_al0
      (repeat refine L3.zF ?_); exact L3.m_al0
      (repeat refine L3.zF ?_); exact L3.m_al0
      (repeat refine L3.zI ?_); exact L3.m_al0
      (repeat refine L3.zI ?_); exact L3.m_al0
      exact L3.zB
      exact L3.zB
      exact L3.zB
      exact L3.zB
      exact L3.zB
      exact L3.zB
      exact L3.zB
      exact L3.zB
      exact L3.zB
      exact L3.zB
      exact L3.zB
      exact L3.zB
      exact L3.zB
      exact L3.zB
      exact L3.zB
      exact L3.zG
      exact L3.zG
      exact L3.zG
      exact L3.zG
      exact L3.zG
    exact fun s v => .of_eq rfl
