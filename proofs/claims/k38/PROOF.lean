import PyProof.Rows.All
import Wide.All
import OpenK.AllK
import Wide.FinOn
import Lean
import PyProof.EqAt
import PyProof.EqKinds
import PyProof.TupleCall
import PySem.Challenge.RW_ringbeat_k38_papers_of_a_going
set_option Elab.async false
set_option linter.all false
set_option maxRecDepth 100000
namespace L2
open PySem PySem.Spec PyProof.Rows
abbrev Key:=Sum Int Str
def keyIs:Key->Value->Bool
 | .inl k,v=>Value.isInt k v
 | .inr x,v=>Value.isStrOf x v
def keyH (w:World):Key->Int
 | .inl k=>hashInt k
 | .inr x=>hashStr w x
theorem vi:∀{k:Key} {v:Value},keyIs k v=true->(∃i t,k=Sum.inl i/\v=Value.int i t)\/(∃x t,k=Sum.inr x/\v=Value.str x t)
 | .inl i,v,h=>by
  obtain ⟨t,e⟩:=Value.isInt_shape (k:=i) (v:=v) h
  exact .inl ⟨i,t,rfl,e⟩
 | .inr x,v,h=>by
  obtain ⟨t,e⟩:=Value.isStrOf_shape (x:=x) (v:=v) h
  exact .inr ⟨x,t,rfl,e⟩
theorem zjx (i:Int) (t:Tok):keyIs (.inl i) (.int i t)=true:=by simp [keyIs,Value.isInt]
theorem zjy (x:Str) (t:Tok):keyIs (.inr x) (.str x t)=true:=by simp [keyIs,Value.isStrOf]
theorem zra (a b:Int):decide ((Sum.inl a:Key)=Sum.inl b)=(a == b):=by
 by_cases e:a=b
 ·subst e; simp
 ·have h:¬(Sum.inl a:Key)=Sum.inl b:=fun q=>e (Sum.inl.inj q)
  rw [decide_eq_false h]
  exact (beq_eq_false_iff_ne.mpr e).symm
theorem zrb (a b:Str):decide ((Sum.inr a:Key)=Sum.inr b)=decide (a=b):=by
 by_cases e:a=b
 ·subst e; simp
 ·have h:¬(Sum.inr a:Key)=Sum.inr b:=fun q=>e (Sum.inr.inj q)
  rw [decide_eq_false h,decide_eq_false e]
theorem zrc (a:Int) (b:Str):decide ((Sum.inl a:Key)=Sum.inr b)=false:=decide_eq_false (fun q=>nomatch q)
theorem zrd (a:Str) (b:Int):decide ((Sum.inr a:Key)=Sum.inl b)=false:=decide_eq_false (fun q=>nomatch q)
def mixKind (prog:Program) (w:World):PySem.KeyKind prog w Key where
 is:=keyIs
 hash:=keyH w
 inj:=fun v a b ha hb=>by
  rcases vi ha with ⟨i,t,rfl,rfl⟩ | ⟨x,t,rfl,rfl⟩
  ·rcases vi hb with ⟨j,u,rfl,e⟩ | ⟨y,u,rfl,e⟩
   ·injection e with e1 _; rw [e1]
   ·exact nomatch e
  ·rcases vi hb with ⟨j,u,rfl,e⟩ | ⟨y,u,rfl,e⟩
   ·exact nomatch e
   ·injection e with e1 _; rw [e1]
 byValue:=fun k v h=>by
  rcases vi h with ⟨i,t,rfl,rfl⟩ | ⟨x,t,rfl,rfl⟩ <;> rfl
 pyHash:=fun hv h=>by
  rcases vi hv with ⟨i,t,rfl,rfl⟩ | ⟨x,t,rfl,rfl⟩
  ·exact wpAny_pyHash_int h
  ·exact wpAny_pyHash_str h
 eqBool:=fun hu hv h=>by
  rcases vi hu with ⟨i,t,rfl,rfl⟩ | ⟨x,t,rfl,rfl⟩
  ·rcases vi hv with ⟨j,u,rfl,rfl⟩ | ⟨y,u,rfl,rfl⟩
   ·rw [zra] at h; exact wpAny_eqBool_int h
   ·rw [zrc] at h; exact SeqAt.EqAt.int_str i t y u _ _ _ _ h
  ·rcases vi hv with ⟨j,u,rfl,rfl⟩ | ⟨y,u,rfl,rfl⟩
   ·rw [zrd] at h; exact SeqAt.EqAt.str_int x t j u _ _ _ _ h
   ·rw [zrb] at h; exact wpAny_eqBool_str h
 «strs»:=fun k x t v h=>by
  rcases vi h with ⟨i,u,rfl,e⟩ | ⟨y,u,rfl,e⟩
  ·exact nomatch e
  ·injection e with e1 _
   subst e1
   cases v <;> rfl
theorem zg4 (prog:Program) (w:World) (i:Int) (t:Tok):(mixKind prog w).is (.inl i) (.int i t)=true:=zjx i t
theorem zg5 (prog:Program) (w:World) (x:Str) (t:Tok):(mixKind prog w).is (.inr x) (.str x t)=true:=zjy x t
end L2
namespace L2
open PySem PySem.Spec PyProof.Rows
inductive V where
 | non | bl (b:Bool) | int (i:Int) | str (x:Str) | byt (b:Array UInt8) | flt (b:UInt64) | ref (a:Addr) | ty (n:String)
 deriving DecidableEq
def RelV:V->Value->Prop
 | .non,u=>u=Value.none
 | .bl b,u=>u=Value.bool b
 | .int i,u=>∃t,u=Value.int i t
 | .str x,u=>∃t,u=Value.str x t
 | .byt b,u=>∃t,u=Value.bytes b t
 | .flt b,u=>∃t,u=Value.float b t
 | .ref a,u=>u=Value.ref a
 | .ty n,u=>u=Value.type n
abbrev Vals:List V->List Value->Prop:=Paired RelV
theorem Vals.length {xs:List V} {us:List Value} (r:Vals xs us):xs.length=us.length:=Paired.length r
theorem Vals.get:∀{xs:List V} {us:List Value} {i:Nat} {x:V},Vals xs us->xs[i]?=some x->∃u,us[i]?=some u/\RelV x u
 | _,_,_,_,.nil,e=>by simp at e
 | _,_,0,_,.cons r _,e=>by simp at e; subst e; exact ⟨_,rfl,r⟩
 | _,_,i+1,x,.cons _ t,e=>by
  obtain ⟨u,h1,h2⟩:=Vals.get (i:=i) (x:=x) t (by simpa using e)
  exact ⟨u,by simpa using h1,h2⟩
theorem Vals.set {x:V} {u:Value} (r:RelV x u):∀{xs:List V} {us:List Value} (i:Nat),Vals xs us->Vals (xs.set i x) (us.set i u)
 | _,_,_,.nil=>.nil
 | _,_,0,.cons _ t=>.cons r t
 | _,_,i+1,.cons q t=>.cons q (Vals.set r i t)
theorem Vals.append:∀{xs ys:List V} {us ws:List Value},Vals xs us->Vals ys ws->Vals (xs++ys) (us++ws)
 | _,_,_,_,.nil,s=>s
 | _,_,_,_,.cons r t,s=>.cons r (Vals.append t s)
theorem Vals.take:∀{xs:List V} {us:List Value} (n:Nat),Vals xs us->Vals (xs.take n) (us.take n)
 | _,_,0,_=>.nil
 | _,_,_+1,.nil=>.nil
 | _,_,n+1,.cons r t=>.cons r (Vals.take n t)
theorem Vals.drop:∀{xs:List V} {us:List Value} (n:Nat),Vals xs us->Vals (xs.drop n) (us.drop n)
 | _,_,0,r=>r
 | _,_,_+1,.nil=>.nil
 | _,_,n+1,.cons _ t=>Vals.drop n t
def RelO:Option V->Option Value->Prop
 | some v,some u=>RelV v u
 | none,none=>True
 | _,_=>False
def KV {κ:Type}:List (κ×V)->List (κ×Value)->Prop:=Paired fun (p:κ×V) (q:κ×Value)=>p.1=q.1/\RelV p.2 q.2
def kV:Key->V
 | .inl i=>.int i
 | .inr x=>.str x
inductive HO where
 | lst (xs:List V)
 | tup (xs:List V)
 | dK (kvs:List (Key×V)) | dT (kvs:List (List Key×V))
 | set (S:Int->Bool) (n:Nat)
 | ins (C dx:Addr) (fs:List (Str×V))
 | own (x:Addr)
 | xd (fs:List (Str×V))
 | met (f x:Addr)
 | rng (lo hi:Int)
 | frz (o:Obj) (u:HO)
 | tbl (ps:Array Value)
 | ext (φ:Heap->Prop)
abbrev Hp:=Addr->Option HO
def upd (H:Hp) (a:Addr) (o:HO):Hp:=fun b=>if b=a then some o else H b
theorem y3 {H:Hp} {a:Addr} {o:HO}:upd H a o a=some o:=by unfold upd; rw [if_pos rfl]
theorem yu {H:Hp} {a b:Addr} {o:HO} (h:b≠a):upd H a o b=H b:=by unfold upd; rw [if_neg h]
theorem zta {H:Hp} {a b:Addr} {o u:HO} (h:H a=some o) (h':H b=some u) (d:o≠u):a≠b:=by
 intro e; subst e; rw [h] at h'; exact d (Option.some.inj h')
theorem xt {H:Hp} {a b:Addr} {o:HO} (h:H a=some o) (h':H b=none):a≠b:=by
 intro e; subst e; rw [h] at h'; cases h'
section
variable (P:Program) (w:World)
def ObjOk (H:Hp) (h:Heap) (a:Addr):HO->Prop
  | .lst xs=>xs.length<=sizeLine/\∃(its:List Value) (n:Nat),Vals xs its/\h.get? a=some { cls:=.type "list",data:=.seq its.toArray n }
  | .tup xs=>xs.length<=sizeLine/\∃its:List Value,Vals xs its/\IsTup h a its.toArray
  | .dK kvs=>kvs.length<=sizeLine/\(a == sysModules)=false/\∃vs,KV kvs vs/\h.DictOf (mixKind P w) a vs
  | .dT kvs=>kvs.length<=sizeLine/\(a == sysModules)=false/\∃xs:List (List Key×Addr×Value),
      Paired (fun (p:List Key×V) (q:List Key×Addr×Value)=>p.1=q.1/\H q.2.1=some (.tup (p.1.map kV))/\RelV p.2 q.2.2) kvs xs /\
      ∃o es ep,h.get? a=some o/\o.ExactDict/\o.data=.dict es ep/\es.toList=xs.map (entryOfKey (tupleKind (mixKind P w)))/\(xs.map (·.1)).Nodup
  | .set S n=>h.SetOf (intKind P w) a S n
  | .ins C dx fs=>H dx=some (.own a)/\fs.length<=1000/\dx≠a/\h.get? a=some (PySem.W.instObj C dx) /\
      ∃mA,h.Ns1 dx mA/\(∀f,RelO (fs.lookup f) (mA f))/\PySem.Within mA (fs.map (·.1))
  | .own _=>∃o,h.get? a=some o
  | .xd fs=>∃mA,h.Ns1 a mA/\∀f,RelO (fs.lookup f) (mA f)
  | .rng lo hi=>∃t u v,h.get? a=some { cls:=.type "range",data:=.fields #[.int lo t,.int hi u,.int 1 v] }
  | .frz o u=>h.get? a=some o/\ObjOk H h a u
  | .tbl ps=>h.get? a=some { cls:=.none,data:=.fields ps }
  | .met f x=>h.get? a=some (PySem.W.methodObj (.ref f) (.ref x))
  | .ext φ=>φ h/\(∃o,h.get? a=some o)/\∀h1 h2:Heap,φ h1->(∀o,h1.get? a=some o->h2.get? a=some o)->φ h2
def HOk (H:Hp) (h:Heap):Prop:=∀a o,H a=some o->ObjOk P w H h a o
end
section
variable {P:Program} {w:World} {H H':Hp} {h h':Heap} {a:Addr} {o:HO}
theorem ObjOk.lt (x:ObjOk P w H h a o):a<h.objs.size:=by
 cases o with
 | lst xs=>obtain ⟨_,_,_,_,e⟩:=x; exact Heap.lt_size e
 | tup xs=>obtain ⟨_,_,_,p⟩:=x; exact p.lt
 | dK kvs=>obtain ⟨_,_,_,_,o,_,_,e,_⟩:=x; exact Heap.lt_size e
 | dT kvs=>obtain ⟨_,_,_,_,o,_,_,e,_⟩:=x; exact Heap.lt_size e
 | set S n=>obtain ⟨o,_,_,_,e,_⟩:=x; exact Heap.lt_size e
 | ins C dx fs=>obtain ⟨_,_,_,e,_⟩:=x; exact Heap.lt_size e
 | own y=>obtain ⟨_,e⟩:=x; exact Heap.lt_size e
 | xd fs=>obtain ⟨_,⟨_,_,_,e,_⟩,_⟩:=x; exact Heap.lt_size e
 | rng lo hi=>obtain ⟨_,_,_,e⟩:=x; exact Heap.lt_size e
 | frz ob u=>obtain ⟨e,_⟩:=x; exact Heap.lt_size e
 | tbl ps=>exact Heap.lt_size (show h.get? a=some _ from x)
 | met f y=>exact Heap.lt_size (show h.get? a=some _ from x)
 | ext φ=>obtain ⟨_,⟨_,e⟩,_⟩:=x; exact Heap.lt_size e
theorem Paired.mapP {α β:Type} {F G:α->β->Prop}:∀{l₁:List α} {l₂:List β},Paired F l₁ l₂->(∀a b,F a b->G a b)->Paired G l₁ l₂
 | _,_,.nil,_=>.nil
 | _,_,.cons r t,f=>.cons (f _ _ r) (Paired.mapP t f)
theorem ObjOk.stay (x:ObjOk P w H h a o) (k:∀b u,(b=a\/H b=some (.own a))->h.get? b=some u->h'.get? b=some u)
    (ho:∀b,H b=some (.own a)->H' b=some (.own a)) (ht:∀b xs,H b=some (.tup xs)->H' b=some (.tup xs)):ObjOk P w H' h' a o:=by
  induction o with
  | lst xs=>obtain ⟨z,its,n,r,e⟩:=x; exact ⟨z,its,n,r,k _ _ (.inl rfl) e⟩
  | tup xs=>obtain ⟨z,its,r,ob,e,c⟩:=x; exact ⟨z,its,r,ob,k _ _ (.inl rfl) e,c⟩
  | dK kvs=>obtain ⟨z,y,vs,r,ob,es,ep,e,c⟩:=x; exact ⟨z,y,vs,r,ob,es,ep,k _ _ (.inl rfl) e,c⟩
  | dT kvs =>
    obtain ⟨z,y,xs,r,ob,es,ep,e,c⟩:=x
    exact ⟨z,y,xs,Paired.mapP r fun p q z=>⟨z.1,ht _ _ z.2.1,z.2.2⟩,ob,es,ep,k _ _ (.inl rfl) e,c⟩
  | set S n=>obtain ⟨ob,es,ep,t,e,c⟩:=x; exact ⟨ob,es,ep,t,k _ _ (.inl rfl) e,c⟩
  | ins C dx fs =>
    obtain ⟨d,z,ne,e,mA,⟨od,es,ep,e2,c⟩,r⟩:=x
    exact ⟨ho _ d,z,ne,k _ _ (.inl rfl) e,mA,⟨od,es,ep,k _ _ (.inr d) e2,c⟩,r⟩
  | own y=>obtain ⟨ob,e⟩:=x; exact ⟨ob,k _ _ (.inl rfl) e⟩
  | xd fs=>obtain ⟨mA,⟨od,es,ep,e,c⟩,r⟩:=x; exact ⟨mA,⟨od,es,ep,k _ _ (.inl rfl) e,c⟩,r⟩
  | rng lo hi=>obtain ⟨t,u,v,e⟩:=x; exact ⟨t,u,v,k _ _ (.inl rfl) e⟩
  | frz ob u ih=>obtain ⟨e,q⟩:=x; exact ⟨k _ _ (.inl rfl) e,ih q⟩
  | tbl ps =>
    have e:h.get? a=some { cls:=.none,data:=.fields ps }:=x
    show h'.get? a=some { cls:=.none,data:=.fields ps }
    exact k a _ (.inl rfl) e
  | met f y =>
    have e:h.get? a=some (PySem.W.methodObj (.ref f) (.ref y)):=x
    show h'.get? a=some (PySem.W.methodObj (.ref f) (.ref y))
    exact k a _ (.inl rfl) e
  | ext φ=>obtain ⟨p,⟨o,e⟩,st⟩:=x; exact ⟨st _ _ p fun o q=>k _ _ (.inl rfl) q,⟨o,k _ _ (.inl rfl) e⟩,st⟩
theorem HOk.lt (x:HOk P w H h) (e:H a=some o):a<h.objs.size:=(x a o e).lt
theorem HOk.fresh (x:HOk P w H h) (e:h.objs.size<=a):H a=none:=by
 cases q:H a with
 | none=>rfl
 | some u=>exact absurd (Nat.lt_of_lt_of_le (x.lt q) e) (Nat.lt_irrefl _)
theorem HOk.kept (x:HOk P w H h) (k:∀b u,h.get? b=some u->h'.get? b=some u):HOk P w H h':=fun a o e =>
 (x a o e).stay (fun b u _ q=>k b u q) (fun _ q=>q) fun _ _ q=>q
theorem HOk.laid (x:HOk P w H h) (k:∀b u,h.get? b=some u->h'.get? b=some u) (hp:h.objs.size<=a) (new:ObjOk P w (upd H a o) h' a o):HOk P w (upd H a o) h':=fun b u e=>by
 have hn:=x.fresh hp
 by_cases hb:b=a
 ·subst hb; rw [y3] at e; cases e; exact new
 ·rw [yu hb] at e
  exact (x b u e).stay (fun c v _ q=>k c v q) (fun c q=>by rw [yu (xt q hn)]; exact q) fun c xs q=>by rw [yu (xt q hn)]; exact q
end
def Rd (H:Hp) (a:Addr) (u:HO):Prop:=H a=some u\/∃o,H a=some (.frz o u)
theorem Rd.ok {P:Program} {w:World} {H:Hp} {h:Heap} {a:Addr} {u:HO} (r:Rd H a u) (x:HOk P w H h):ObjOk P w H h a u:=by
 rcases r with r | ⟨o,r⟩
 ·exact x a u r
 ·obtain ⟨_,q⟩:=x a _ r
  exact q
def Mut:Option HO->Prop
 | some (.lst _)=>True
 | some (.dK _)=>True
 | some (.dT _)=>True
 | some (.set _ _)=>True
 | some (.ins _ _ _)=>True
 | some (.ext _)=>True
 | _=>False
section
variable {P:Program} {w:World} {H:Hp} {h h':Heap} {x e:Addr} {o':HO}
theorem HOk.write (ok:HOk P w H h) (mu:Mut (H x)) (he:e=x\/H e=some (.own x)) (k:∀b u,b≠e->h.get? b=some u->h'.get? b=some u) (heo:∃u,h'.get? e=some u)
  (new:ObjOk P w (upd H x o') h' x o'):HOk P w (upd H x o') h':=fun b u q=>by
 have nown:∀c y,H c=some (.own y)->c≠x:=fun c y r z=>by subst z; rw [r] at mu; exact mu
 have ntup:∀c xs,H c=some (.tup xs)->c≠x:=fun c xs r z=>by subst z; rw [r] at mu; exact mu
 by_cases hb:b=x
 ·subst hb; rw [y3] at q; cases q; exact new
 ·rw [yu hb] at q
  by_cases hbe:b=e
  ·have q':H b=some (.own x):=by
    rcases he with z | z
    ·exact absurd (hbe.trans z) hb
    ·rw [hbe]; exact z
   rw [q] at q'; cases q'
   obtain ⟨v,hv⟩:=heo
   exact ⟨v,by rw [hbe]; exact hv⟩
  ·refine (ok b u q).stay (fun c v hc r=>k c v ?_ r) (fun c r=>by rw [yu (nown c b r)]; exact r) fun c xs r=>by rw [yu (ntup c xs r)]; exact r
   rcases hc with rfl | hc
   ·exact hbe
   ·rintro rfl
    rcases he with z | z
    ·exact nown c b hc z
    ·rw [hc] at z; cases z; exact hb rfl
end
structure Un (fs ex:List Addr) (H H':Hp) (h h':Heap):Prop where
 keep:∀b o,h.get? b=some o->H b=none->b∉fs->b∉ex->h'.get? b=some o
 slot:∀b o,h.get? b=some o->H b=none->b∈fs->b∉ex->∃sl,h'.get? b=some { o with slots:=sl }
 free:∀b o,h.get? b=some o->H b=none->b∉ex->H' b=none
 there:∀b o,h.get? b=some o->b∉ex->∃o',h'.get? b=some o'
 tups:∀b xs,H b=some (.tup xs)->H' b=some (.tup xs)
 frzs:∀b o u,H b=some (.frz o u)->H' b=some (.frz o u)
 tbls:∀b ps,H b=some (.tbl ps)->∃more,H' b=some (.tbl (ps++more))
section
variable {fs fs' ex ex':List Addr} {H H1 H2:Hp} {h h1 h2 h':Heap} {a x e:Addr} {o:HO}
theorem Un.any (u:Un fs ex H H1 h h1) {b:Addr} {ob:Obj} (q:h.get? b=some ob) (n:H b=none) (hx:b∉ex):∃sl,h1.get? b=some { ob with slots:=sl }:=by
 by_cases hb:b∈fs
 ·exact u.slot b ob q n hb hx
 ·exact ⟨ob.slots,u.keep b ob q n hb hx⟩
theorem Un.kept (k:∀b u,h.get? b=some u->h'.get? b=some u):Un fs ex H H h h' :=
 ⟨fun b ob q _ _ _=>k b ob q,fun b ob q _ _ _=>⟨ob.slots,k b ob q⟩,fun _ _ _ n _=>n,fun b ob q _=>⟨ob,k b ob q⟩,fun _ _ q=>q,fun _ _ _ q=>q,fun _ ps q=>⟨#[],by rw [q]; simp⟩⟩
theorem Un.refl:Un fs ex H H h h:=Un.kept fun _ _ q=>q
theorem Un.laid (k:∀b u,h.get? b=some u->h'.get? b=some u) (hp:h.objs.size<=a) (hn:H a=none):Un fs ex H (upd H a o) h h' where
 keep:=fun b u q _ _ _=>k b u q
 slot:=fun b u q _ _ _=>⟨u.slots,k b u q⟩
 free:=fun b u q n _=>by rw [yu (Nat.ne_of_lt (Nat.lt_of_lt_of_le (Heap.lt_size q) hp))]; exact n
 there:=fun b u q _=>⟨u,k b u q⟩
 tups:=fun b xs q=>by rw [yu (xt q hn)]; exact q
 frzs:=fun b u xs q=>by rw [yu (xt q hn)]; exact q
 tbls:=fun b ps q=>⟨#[],by rw [yu (xt q hn),q]; simp⟩
theorem Un.write (mu:Mut (H x)) (he:e=x\/H e=some (.own x)) (k:∀b u,b≠e->h.get? b=some u->h'.get? b=some u) (heo:∃u,h'.get? e=some u):Un fs ex H (upd H x o) h h':=by
 have hx:∀b,H b=none->b≠x:=fun b n z=>by subst z; rw [n] at mu; exact mu
 have hb:∀b,H b=none->b≠e:=fun b n z=>by
  subst z
  rcases he with r | r
  ·exact hx b n r
  ·rw [n] at r; cases r
 have hm:∀b u,H b=some u->¬Mut (some u)->b≠x:=fun b u q nm z=>by subst z; rw [q] at mu; exact nm mu
 refine ⟨fun b u q n _ _=>k b u (hb b n) q,fun b u q n _ _=>⟨u.slots,k b u (hb b n) q⟩,fun b u q n _=>by rw [yu (hx b n)]; exact n,fun b u q _=>?_,
  fun b xs q=>by rw [yu (hm b _ q fun z=>z)]; exact q,fun b u xs q=>by rw [yu (hm b _ q fun z=>z)]; exact q,fun b ps q=>⟨#[],by rw [yu (hm b _ q fun z=>z),q]; simp⟩⟩
 by_cases hbe:b=e
 ·subst hbe; exact heo
 ·exact ⟨u,k b u hbe q⟩
end
def trk (h:Heap) (H:Hp):List Addr:=(List.range h.objs.size).filter fun a=>(H a).isSome
def hidT (h:Heap) (H:Hp):Heap:=PySem.W.hideAll h (trk h H)
theorem zjz (h:Heap) (H:Hp):(hidT h H).objs.size=h.objs.size:=PySem.W.hideAll_size _ _
theorem zmf {h:Heap} {H:Hp} {b:Addr} {o:Obj} (e:h.get? b=some o) (n:H b=none):(hidT h H).get? b=some o :=
 PySem.W.hideAll_get _ e fun hm=>by
  have q:(H b).isSome=true:=(List.mem_filter.mp hm).2
  rw [n] at q; simp at q
theorem zo1 {h:Heap} {H:Hp} {b:Addr} {o:Obj} (e:(hidT h H).get? b=some o):h.get? b=some o/\H b=none:=by
 have e':h.get? b=some o:=PySem.W.of_hideAll (trk h H) e
 refine ⟨e',?_⟩
 cases q:H b with
 | none=>rfl
 | some x =>
  have hm:b∈trk h H:=List.mem_filter.mpr ⟨List.mem_range.mpr (Heap.lt_size e'),by simp [q]⟩
  have z:(hidT h H).get? b=none:=PySem.W.hideAll_none (trk h H) hm
  rw [z] at e; cases e
def allNews (g h:Heap) (L:Addr):List (Addr×Obj):=(List.range h.objs.size).filterMap fun a=>if a=L\/(g.get? a).isSome=true then none else (h.get? a).map fun o=>(a,o)
def rest (g h:Heap) (L d:Addr):List (Addr×Obj):=(allNews g h L).filter fun p=>decide (p.1≠d)
end L2
namespace L2
open PySem PySem.Spec PyProof.Rows
structure Mod (K:PySem.W.Frag) (mg:Str->Option Value) (base:Heap):Prop where
 kin:K.In base
 glob:base.Ns mainGlobals mg
 blt:∃mb,base.Ns builtinsNs mb/\∀x:Str,x≠"__name__"->mb x=bootBuiltins x
 nolimit:base.NoLimit
structure Cx where
 prog:Program
 w:World
 K:PySem.W.Frag
 mg:Str->Option Value
 base:Heap
 A:Around
 N:List Str
 s₀:Shared
 H₀:Hp
 env:Env
 outer:List Env
 stack:List Env
 ex:List Addr
 fn:Str->Bool
 calm:Bool
 pn:List (Addr×Obj)
 xe:Value->Shared->Prop
def frs (l:List Env):List Addr:=l.filterMap (·.frame)
abbrev Cx.fs (X:Cx):List Addr:=frs X.outer
def Vis (sc:Scope) (x:Str):Prop:=sc.names.lookup x=some .local\/sc.names.lookup x=some .cell\/sc.names.lookup x=some .free
def Loc (sc:Scope) (x:Str):Prop:=sc.names.lookup x=some .local\/sc.names.lookup x=some .cell
def Look (env:Env) (h:Heap) (m:Str->Option Value) (x:Str) (u:Value):Prop :=
 (env.kindOf x=some .local/\m x=some u)\/((env.kindOf x=some .cell\/env.kindOf x=some .free)/\∃c,env.cells.lookup x=some c/\h.IsCell c (some u))
structure Cx.Ok (X:Cx):Prop where
 mod:Mod X.K X.mg X.base
 kind:X.env.scope.kind=.function
 glob:X.env.globals=mainGlobals
 blt:X.env.builtins=builtinsNs
 above:X.s₀.heap.objs.size<=X.env.locals
 inj:∀x y c,X.env.cells.lookup x=some c->X.env.cells.lookup y=some c->x=y
 has:∀x,(X.env.kindOf x=some .cell\/X.env.kindOf x=some .free)->∃c,X.env.cells.lookup x=some c
 cab:∀x c,X.fn x=true->X.env.cells.lookup x=some c->X.s₀.heap.objs.size<=c
 hd:X.calm=true->X.A.handled=none
 frames:X.A.frames=some X.stack
 stk:X.stack=X.outer\/(X.stack=X.env::X.outer/\X.env.frame=some X.env.locals)
 exf:∀b∈X.ex,b≠X.env.locals/\∀x c,X.env.cells.lookup x=some c->c≠b
 bs:∀b o,X.base.get? b=some o->X.s₀.heap.get? b=some o/\X.H₀ b=none
 bsz:X.base.objs.size<=X.s₀.heap.objs.size
 noex:∀b o,X.base.get? b=some o->b∉X.ex
 exfs:∀b∈X.ex,b∉X.fs
 funs:X.s₀.heap.FunFrames X.base X.outer
 frf:∀b∈X.fs,X.H₀ b=none
structure Inv (X:Cx) (pins:List (Addr×Obj)) (σ:List (Option V)) (H:Hp) (s:Shared):Prop where
 ok:X.Ok
 os:s.os=X.s₀.os
 bare:AllBare s.gens
 base:Un X.fs X.ex X.H₀ H X.s₀.heap s.heap
 loc:∃m,s.heap.Ns X.env.locals m/\∀(i:Nat) (x:Str) (v:V),X.N[i]?=some x->σ[i]?=some (some v)->Vis X.env.scope x->∃u,RelV v u/\Look X.env s.heap m x u
 cell:∀x c,X.env.cells.lookup x=some c->∃v,s.heap.IsCell c v
 free:H X.env.locals=none
 freeC:∀x c,X.env.cells.lookup x=some c->H c=none
 pin:∀p∈X.pn++pins,s.heap.get? p.1=some p.2/\H p.1=none/\p.1≠X.env.locals/\p.1∉X.fs/\∀v,p.2.data≠.cell v
 hok:HOk X.prog X.w H s.heap
 len:σ.length=X.N.length
section
variable {X:Cx} {pins:List (Addr×Obj)} {σ:List (Option V)} {H H':Hp} {s:Shared} {h':Heap}
theorem Cx.Ok.nofr (ok:X.Ok) {b:Addr} {o:Obj} (e:X.base.get? b=some o):b∉X.fs:=fun hb=>by
 have:=(ok.funs.mem hb).1
 rw [e] at this; cases this
theorem Inv.bs (I:Inv X pins σ H s):∀b o,X.base.get? b=some o->s.heap.get? b=some o/\H b=none:=fun b o e =>
 ⟨I.base.keep b o (I.ok.bs b o e).1 (I.ok.bs b o e).2 (I.ok.nofr e) (I.ok.noex b o e),I.base.free b o (I.ok.bs b o e).1 (I.ok.bs b o e).2 (I.ok.noex b o e)⟩
theorem Inv.bk (I:Inv X pins σ H s):∀b o,X.base.get? b=some o->s.heap.get? b=some o:=fun b o e=>(I.bs b o e).1
theorem Inv.mod (I:Inv X pins σ H s):Mod X.K X.mg X.base:=I.ok.mod
theorem Inv.kIn (I:Inv X pins σ H s):X.K.In s.heap:=I.ok.mod.kin.keeps I.bk
theorem Inv.fr (I:Inv X pins σ H s):∃m,Fr X.base X.env.locals s.heap m :=
 let ⟨m,hn,_⟩:=I.loc
 ⟨m,hn,I.bk,Nat.le_trans I.ok.bsz I.ok.above⟩
theorem Inv.lt (I:Inv X pins σ H s):X.env.locals<s.heap.objs.size:=let ⟨_,hn,_⟩:=I.loc; hn.lt
theorem Inv.sz (I:Inv X pins σ H s):X.s₀.heap.objs.size<=s.heap.objs.size:=Nat.le_trans I.ok.above (Nat.le_of_lt I.lt)
theorem Inv.nofs (I:Inv X pins σ H s) {a:Addr} (h:s.heap.objs.size<=a):a∉X.fs:=fun hb=>by
 obtain ⟨_,o,ho,_⟩:=I.ok.funs.mem hb
 exact absurd (Nat.lt_of_lt_of_le (Heap.lt_size ho) (Nat.le_trans I.sz h)) (Nat.lt_irrefl _)
theorem Inv.cne (I:Inv X pins σ H s):∀x c,X.env.cells.lookup x=some c->c≠X.env.locals:=fun x c e z=>by
 obtain ⟨v,o,ho,hd⟩:=I.cell x c e
 obtain ⟨m,⟨o',es,ep,ho',hd',_⟩,_⟩:=I.loc
 rw [z,ho'] at ho; cases ho; rw [hd'] at hd; cases hd
theorem Inv.funs (I:Inv X pins σ H s):s.heap.FunFrames X.base X.outer:=by
 have all:∀(l:List Env),(∀b∈frs l,b∈X.fs)->X.s₀.heap.FunFrames X.base l->s.heap.FunFrames X.base l:=by
  intro l
  induction l with
  | nil=>intro _ _; trivial
  | cons env r ih =>
   intro hs hl
   obtain ⟨hk,⟨L,o,hf,hn,ho,hd⟩,hr⟩:=hl
   have hL:L∈X.fs:=hs L (by unfold frs; rw [List.filterMap_cons,hf]; exact List.mem_cons_self)
   obtain ⟨sl,e⟩:=I.base.slot L o ho (I.ok.frf L hL) hL fun z=>I.ok.exfs L z hL
   exact ⟨hk,⟨L,_,hf,hn,e,hd⟩,ih (fun b hb=>hs b (by unfold frs; rw [List.filterMap_cons,hf]; exact List.mem_cons_of_mem _ hb)) hr⟩
 exact all X.outer (fun _ hb=>hb) I.ok.funs
theorem Inv.stack (I:Inv X pins σ H s):s.heap.FunFrames X.base X.stack:=by
 rcases I.ok.stk with e | ⟨e,hf⟩
 ·rw [e]; exact I.funs
 ·rw [e]
  obtain ⟨m,hn,_⟩:=I.loc
  refine .cons (by rw [I.ok.kind]; decide) hf hn ?_ I.funs
  exact Heap.get?_none_of_le (Nat.le_trans I.ok.bsz I.ok.above)
theorem Inv.stkSub (I:Inv X pins σ H s):∀b∈frs X.stack,b∈X.env.locals::X.fs:=fun b hb=>by
 rcases I.ok.stk with e | ⟨e,hf⟩
 ·rw [e] at hb; exact List.mem_cons_of_mem _ hb
 ·rw [e] at hb
  unfold frs at hb
  rw [List.filterMap_cons,hf] at hb
  exact hb
theorem Inv.stkFree (I:Inv X pins σ H s):∀b∈frs X.stack,H b=none:=fun b hb=>by
 rcases List.mem_cons.mp (I.stkSub b hb) with e | hb
 ·rw [e]; exact I.free
 ·obtain ⟨_,o,ho,_⟩:=I.ok.funs.mem hb
  exact I.base.free b o ho (I.ok.frf b hb) fun z=>I.ok.exfs b z hb
theorem Inv.step {g':Array GenState} {t':Nat} {d':Drawn} {ch:List Addr} (I:Inv X pins σ H s)
  (hch:∀b∈ch,(b∈X.ex\/X.s₀.heap.objs.size<=b)/\b≠X.env.locals/\(∀x c,X.env.cells.lookup x=some c->c≠b)/\∀p∈X.pn++pins,p.1≠b)
  (keep:∀b o,b≠X.env.locals->b∉X.fs->b∉ch->s.heap.get? b=some o->H b=none->h'.get? b=some o)
  (slot:∀b o,b≠X.env.locals->b∈X.fs->b∉ch->s.heap.get? b=some o->H b=none->∃sl,h'.get? b=some { o with slots:=sl }) (free:∀b o,b∉ch->s.heap.get? b=some o->H b=none->H' b=none)
  (there:∀b o,b∉ch->s.heap.get? b=some o->∃o',h'.get? b=some o')
  (tups:∀b xs,H b=some (.tup xs)->H' b=some (.tup xs)) (frzs:∀b o u,H b=some (.frz o u)->H' b=some (.frz o u)) (tbls:∀b ps,H b=some (.tbl ps)->∃more,H' b=some (.tbl (ps++more)))
  (ns:∀m,s.heap.Ns X.env.locals m->h'.Ns X.env.locals m) (hok:HOk X.prog X.w H' h') (hg:AllBare g') :
  Inv X pins σ H' { s with heap:=h',gens:=g',drawn:=d',toks:=t' }:=by
 have neL:∀b o,X.s₀.heap.get? b=some o->b≠X.env.locals:=fun b o e=>Nat.ne_of_lt (Nat.lt_of_lt_of_le (Heap.lt_size e) I.ok.above)
 have neC:∀b o,X.s₀.heap.get? b=some o->b∉X.ex->b∉ch:=fun b o e hx hb=>by
  rcases (hch b hb).1 with z | z
  ·exact hx z
  ·exact absurd (Nat.lt_of_lt_of_le (Heap.lt_size e) z) (Nat.lt_irrefl _)
 have cellK:∀x c,X.env.cells.lookup x=some c->∀v,s.heap.IsCell c v->h'.IsCell c v:=fun x c e v ⟨o,ho,hd⟩=>by
  have nch:c∉ch:=fun z=>(hch c z).2.2.1 x c e rfl
  by_cases hc:c∈X.fs
  ·obtain ⟨sl,q⟩:=slot c o (I.cne x c e) hc nch ho (I.freeC x c e)
   exact ⟨_,q,hd⟩
  ·exact ⟨o,keep c o (I.cne x c e) hc nch ho (I.freeC x c e),hd⟩
 refine ⟨I.ok,I.os,hg,⟨fun b o e n hb hx=>?_,fun b o e n hb hx=>?_,fun b o e n hx=>?_,fun b o e hx=>?_,fun b xs e=>tups b xs (I.base.tups b xs e),fun b o xs e=>frzs b o xs (I.base.frzs b o xs e),fun b ps e=>?_⟩,?_,fun x c e=>?_,?_,fun x c e=>?_,fun p hp=>?_,hok,I.len⟩
 ·exact keep b o (neL b o e) hb (neC b o e hx) (I.base.keep b o e n hb hx) (I.base.free b o e n hx)
 ·obtain ⟨sl,e1⟩:=I.base.slot b o e n hb hx
  obtain ⟨sl',e2⟩:=slot b _ (neL b o e) hb (neC b o e hx) e1 (I.base.free b o e n hx)
  exact ⟨sl',e2⟩
 ·obtain ⟨o',e1⟩:=I.base.there b o e hx
  exact free b o' (neC b o e hx) e1 (I.base.free b o e n hx)
 ·obtain ⟨o',e1⟩:=I.base.there b o e hx
  exact there b o' (neC b o e hx) e1
 ·obtain ⟨m1,e1⟩:=I.base.tbls b ps e
  obtain ⟨m2,e2⟩:=tbls b _ e1
  exact ⟨m1++m2,by rw [e2,Array.append_assoc]⟩
 ·obtain ⟨m,hn,hl⟩:=I.loc
  refine ⟨m,ns m hn,fun i x v e1 e2 e3=>?_⟩
  obtain ⟨u,r,l⟩:=hl i x v e1 e2 e3
  refine ⟨u,r,?_⟩
  rcases l with l | ⟨k,c,e,z⟩
  ·exact .inl l
  ·exact .inr ⟨k,c,e,cellK x c e _ z⟩
 ·obtain ⟨v,z⟩:=I.cell x c e
  exact ⟨v,cellK x c e v z⟩
 ·obtain ⟨m,⟨o,_,_,ho,_⟩,_⟩:=I.loc
  exact free _ o (fun z=>(hch _ z).2.1 rfl) ho I.free
 ·obtain ⟨v,o,ho,hd⟩:=I.cell x c e
  exact free c o (fun z=>(hch c z).2.2.1 x c e rfl) ho (I.freeC x c e)
 ·obtain ⟨e,n,ne,nf,d⟩:=I.pin p hp
  have nch:p.1∉ch:=fun z=>(hch p.1 z).2.2.2 p hp rfl
  exact ⟨keep p.1 p.2 ne nf nch e n,free p.1 p.2 nch e n,ne,nf,d⟩
theorem Inv.un {t':Nat} (I:Inv X pins σ H s) (u:Un X.fs [] H H' s.heap h') (hok:HOk X.prog X.w H' h'):Inv X pins σ H' { s with heap:=h',toks:=t' }:=by
 obtain ⟨m,⟨o,es,ep,ho,r⟩,_⟩:=id I.loc
 obtain ⟨sl,hL⟩:=u.any ho I.free (by simp)
 exact I.step (g':=s.gens) (d':=s.drawn) (ch:=[]) (fun _ z=>nomatch z) (fun b o _ hb _ e n=>u.keep b o e n hb (by simp)) (fun b o _ hb _ e n=>u.slot b o e n hb (by simp)) (fun b o _ e n=>u.free b o e n (by simp)) (fun b o _ e=>u.there b o e (by simp)) u.tups u.frzs u.tbls (fun m' hm=>by
  obtain ⟨o',es',ep',ho',r'⟩:=hm
  rw [ho] at ho'; cases ho'
  exact ⟨_,es',ep',hL,r'⟩) hok I.bare
theorem Inv.call {g':Array GenState} {t':Nat} {d':Drawn} {ch:List Addr} (I:Inv X pins σ H s) (u:Un (frs X.stack) ch H H' s.heap h') (hok:HOk X.prog X.w H' h') (hg:AllBare g')
  (hch:∀b∈ch,(b∈X.ex\/X.s₀.heap.objs.size<=b)/\b≠X.env.locals/\(∀x c,X.env.cells.lookup x=some c->c≠b)/\∀p∈X.pn++pins,p.1≠b) :
  Inv X pins σ H' { s with heap:=h',gens:=g',drawn:=d',toks:=t' }:=by
 obtain ⟨m,⟨o,es,ep,ho,r⟩,_⟩:=id I.loc
 obtain ⟨sl,hL⟩:=u.any ho I.free fun z=>(hch _ z).2.1 rfl
 exact I.step (ch:=ch) hch (fun b o hL hb hc e n=>u.keep b o e n (fun z=>(List.mem_cons.mp (I.stkSub b z)).elim hL hb) hc) (fun b o _ _ hc e n=>u.any e n hc) (fun b o hc e n=>u.free b o e n hc) (fun b o hc e=>u.there b o e hc) u.tups u.frzs u.tbls (fun m' hm=>by
  obtain ⟨o',es',ep',ho',r'⟩:=hm
  rw [ho] at ho'; cases ho'
  exact ⟨_,es',ep',hL,r'⟩) hok hg
theorem Inv.turned {t':Nat} {it:Addr} (I:Inv X pins σ H s) (k:∀b o,b≠it->s.heap.get? b=some o->h'.get? b=some o) (hn:H it=none) (hL:it≠X.env.locals)
  (h1:it∈X.ex\/X.s₀.heap.objs.size<=it) (h2:∀x c,X.env.cells.lookup x=some c->c≠it) (h3:∀p∈X.pn++pins,p.1≠it):Inv X pins σ H { s with heap:=h',toks:=t' }:=by
 have nit:∀b u,H b=some u->b≠it:=fun b u e z=>by rw [z,hn] at e; cases e
 refine I.step (g':=s.gens) (d':=s.drawn) (ch:=[it]) (fun b hb=>?_) (fun b o _ _ hc e _=>k b o (fun z=>hc (by simp [z])) e) (fun b o _ _ hc e _=>⟨o.slots,k b o (fun z=>hc (by simp [z])) e⟩) (fun _ _ _ _ n=>n)
  (fun b o hc e=>⟨o,k b o (fun z=>hc (by simp [z])) e⟩) (fun _ _ e=>e) (fun _ _ _ e=>e) (fun b ps e=>⟨#[],by rw [e]; simp⟩) (fun m hm=>?_) (fun b u e=>?_) I.bare
 ·have e:b=it:=by simpa using hb
  subst e
  exact ⟨h1,hL,h2,h3⟩
 ·obtain ⟨o,es,ep,ho,r⟩:=hm
  exact ⟨o,es,ep,k _ o (Ne.symm hL) ho,r⟩
 ·refine (I.hok b u e).stay (fun c v hc q=>k c v ?_ q) (fun _ q=>q) fun _ _ q=>q
  rcases hc with z | z
  ·rw [z]; exact nit b u e
  ·exact nit c _ z
theorem Inv.tok (I:Inv X pins σ H s) (t:Nat):Inv X pins σ H { s with toks:=t }:=I.un (h':=s.heap) (t':=t) Un.refl I.hok
theorem Inv.kept {t':Nat} (I:Inv X pins σ H s) (k:∀b u,s.heap.get? b=some u->h'.get? b=some u):Inv X pins σ H { s with heap:=h',toks:=t' }:=I.un (Un.kept k) (I.hok.kept k)
theorem Inv.laid {a:Addr} {o:HO} {t':Nat} (I:Inv X pins σ H s) (k:∀b u,s.heap.get? b=some u->h'.get? b=some u) (hp:s.heap.objs.size<=a) (new:ObjOk X.prog X.w (upd H a o) h' a o) :
  Inv X pins σ (upd H a o) { s with heap:=h',toks:=t' }:=I.un (Un.laid k hp (I.hok.fresh hp)) (I.hok.laid k hp new)
theorem Inv.write {x e:Addr} {o:HO} {t':Nat} (I:Inv X pins σ H s) (mu:Mut (H x)) (he:e=x\/H e=some (.own x)) (k:∀b u,b≠e->s.heap.get? b=some u->h'.get? b=some u) (heo:∃u,h'.get? e=some u)
  (new:ObjOk X.prog X.w (upd H x o) h' x o):Inv X pins σ (upd H x o) { s with heap:=h',toks:=t' }:=I.un (Un.write mu he k heo) (I.hok.write mu he k heo new)
theorem Inv.weak {σ':List (Option V)} (I:Inv X pins σ H s) (hl:σ'.length = σ.length) (w:∀(i:Nat) v,σ'[i]?=some (some v)->σ[i]?=some (some v)):Inv X pins σ' H s :=
 ⟨I.ok,I.os,I.bare,I.base,let ⟨m,hn,hl'⟩:=I.loc; ⟨m,hn,fun i x v e1 e2 e3=>hl' i x v e1 (w i v e2) e3⟩,I.cell,I.free,I.freeC,I.pin,I.hok,hl.trans I.len⟩
theorem Inv.pins_of {pins':List (Addr×Obj)} (I:Inv X pins σ H s) (h:∀p∈pins',s.heap.get? p.1=some p.2/\H p.1=none/\p.1≠X.env.locals/\p.1∉X.fs/\∀v,p.2.data≠.cell v):Inv X pins' σ H s :=
 ⟨I.ok,I.os,I.bare,I.base,I.loc,I.cell,I.free,I.freeC,fun p hp=>(List.mem_append.mp hp).elim (fun z=>I.pin p (List.mem_append_left _ z)) (h p),I.hok,I.len⟩
theorem zh0 {N:List Str} (hN:N.Nodup) {i j:Nat} {x:Str} (a:N[i]?=some x) (b:N[j]?=some x):i=j:=by
 obtain ⟨h1,e1⟩:=List.getElem?_eq_some_iff.mp a
 obtain ⟨h2,e2⟩:=List.getElem?_eq_some_iff.mp b
 exact (List.getElem_inj hN).mp (e1.trans e2.symm)
theorem zfs {M:Model} {A:Around} {E:Value->Shared->Prop} {i:Nat} {x:Str} {v:V} {u:Value} {Q:Unit->Shared->Prop} (I:Inv X pins σ H s) (hN:X.N.Nodup) (hi:X.N[i]?=some x) (hx:Loc X.env.scope x) (r:RelV v u)
  (h:∀s',Inv X pins (σ.set i (some v)) H s'->(∃a,Heap.SameBut a s.heap s'.heap/\(a=X.env.locals\/X.env.cells.lookup x=some a))->Q () s') (hf:X.fn x=true\/X.env.scope.names.lookup x=some .local:=by first | exact .inl rfl | exact .inr rfl | assumption):wpAny M A (storeName X.env x u) Q E s:=by
 obtain ⟨m,hn,hl⟩:=id I.loc
 have hcls:(X.env.scope.kind == .class || (X.env.scope.kind == .module && X.env.locals != X.env.globals))=false:=by rw [I.ok.kind]; rfl
 have hiσ:i < σ.length:=by rw [I.len]; exact (List.getElem?_eq_some_iff.mp hi).1
 have cne:=I.cne
 have tracked:∀{a:Addr} {h':Heap},(∃o,s.heap.get? a=some o/\H a=none)->Heap.SameBut a s.heap h'->HOk X.prog X.w H h':=fun {a h'} ha hs b ob e=>by
  obtain ⟨_,_,hfree⟩:=ha
  refine (I.hok b ob e).stay (fun c w' hc q=>(hs.2 c ?_).trans q) (fun _ q=>q) fun _ _ q=>q
  rintro rfl
  rcases hc with rfl | hc
  ·rw [hfree] at e; cases e
  ·rw [hfree] at hc; cases hc
 rcases hx with hk | hk
 ·refine wpAny_storeName_local hk hn (fun h' hn' hs=>?_) hcls
  obtain ⟨oL,_,_,hoL,_⟩:=id hn
  refine h _ ⟨I.ok,I.os,I.bare,⟨fun b o e n hb hx=>?_,fun b o e n hb hx=>?_,I.base.free,fun b o e hx=>?_,I.base.tups,I.base.frzs,I.base.tbls⟩,⟨_,hn',fun j y v' e1 e2 e3=>?_⟩,fun y c e=>?_,I.free,I.freeC,fun p hp=>?_,tracked ⟨oL,hoL,I.free⟩ hs,by simpa using I.len⟩ ⟨_,hs,.inl rfl⟩
  ·exact (hs.2 b (Nat.ne_of_lt (Nat.lt_of_lt_of_le (Heap.lt_size e) I.ok.above))).trans (I.base.keep b o e n hb hx)
  ·obtain ⟨sl,e1⟩:=I.base.slot b o e n hb hx
   exact ⟨sl,(hs.2 b (Nat.ne_of_lt (Nat.lt_of_lt_of_le (Heap.lt_size e) I.ok.above))).trans e1⟩
  ·obtain ⟨o',e1⟩:=I.base.there b o e hx
   exact ⟨o',(hs.2 b (Nat.ne_of_lt (Nat.lt_of_lt_of_le (Heap.lt_size e) I.ok.above))).trans e1⟩
  ·by_cases hj:j=i
   ·subst hj
    rw [hi] at e1; cases e1
    rw [List.getElem?_set_self hiσ] at e2
    cases e2
    exact ⟨u,r,.inl ⟨hk,by simp⟩⟩
   ·rw [List.getElem?_set_ne (Ne.symm hj)] at e2
    obtain ⟨u',r',q⟩:=hl j y v' e1 e2 e3
    refine ⟨u',r',?_⟩
    rcases q with ⟨k,e⟩ | ⟨k,c,e,z⟩
    ·refine .inl ⟨k,?_⟩
     have:y≠x:=fun e=>hj (zh0 hN e1 (e ▸ hi))
     simp [this,e]
    ·exact .inr ⟨k,c,e,z.sameBut hs (cne y c e)⟩
  ·obtain ⟨w',z⟩:=I.cell y c e
   exact ⟨w',z.sameBut hs (cne y c e)⟩
  ·obtain ⟨e,n,ne,nf,d⟩:=I.pin p hp
   exact ⟨(hs.2 p.1 ne).trans e,n,ne,nf,d⟩
 ·have hfn:X.fn x=true:=by
   rcases hf with z | z
   ·exact z
   ·rw [z] at hk; cases hk
  obtain ⟨c,hc⟩:=I.ok.has x (.inl hk)
  obtain ⟨w',z⟩:=I.cell x c hc
  refine wpAny_storeName_cell I.ok.kind hk hc z (fun h' hc' hs=>?_)
  obtain ⟨oc,hoc,hocd⟩:=id z
  refine h { s with heap:=h' } ⟨I.ok,I.os,I.bare,⟨fun b o e n hb hx=>?_,fun b o e n hb hx=>?_,I.base.free,fun b o e hx=>?_,I.base.tups,I.base.frzs,I.base.tbls⟩,⟨m,hn.sameBut hs (Ne.symm (cne x c hc)),fun j y v' e1 e2 e3=>?_⟩,fun y c' e=>?_,I.free,I.freeC,fun p hp=>?_,tracked ⟨oc,hoc,I.freeC x c hc⟩ hs,by simpa using I.len⟩ ⟨c,hs,.inr hc⟩
  ·exact (hs.2 b (Nat.ne_of_lt (Nat.lt_of_lt_of_le (Heap.lt_size e) (I.ok.cab x c hfn hc)))).trans (I.base.keep b o e n hb hx)
  ·obtain ⟨sl,e1⟩:=I.base.slot b o e n hb hx
   exact ⟨sl,(hs.2 b (Nat.ne_of_lt (Nat.lt_of_lt_of_le (Heap.lt_size e) (I.ok.cab x c hfn hc)))).trans e1⟩
  ·obtain ⟨o',e1⟩:=I.base.there b o e hx
   exact ⟨o',(hs.2 b (Nat.ne_of_lt (Nat.lt_of_lt_of_le (Heap.lt_size e) (I.ok.cab x c hfn hc)))).trans e1⟩
  ·by_cases hj:j=i
   ·subst hj
    rw [hi] at e1; cases e1
    rw [List.getElem?_set_self hiσ] at e2
    cases e2
    exact ⟨u,r,.inr ⟨.inl hk,c,hc,hc'⟩⟩
   ·rw [List.getElem?_set_ne (Ne.symm hj)] at e2
    obtain ⟨u',r',q⟩:=hl j y v' e1 e2 e3
    refine ⟨u',r',?_⟩
    rcases q with q | ⟨k,c',e,z'⟩
    ·exact .inl q
    ·refine .inr ⟨k,c',e,z'.sameBut hs ?_⟩
     rintro rfl
     exact hj (zh0 hN e1 (I.ok.inj _ _ _ e hc ▸ hi))
  ·by_cases hcc:c'=c
   ·subst hcc; exact ⟨_,hc'⟩
   ·obtain ⟨w2,z2⟩:=I.cell y c' e
    exact ⟨w2,z2.sameBut hs hcc⟩
  ·obtain ⟨e,n,ne,nf,d⟩:=I.pin p hp
   refine ⟨(hs.2 p.1 ?_).trans e,n,ne,nf,d⟩
   intro q
   rw [q,hoc] at e
   have q':oc=p.2:=Option.some.inj e
   exact d w' (by rw [← q']; exact hocd)
theorem zbu {M:Model} {A:Around} {E:Value->Shared->Prop} {i:Nat} {x:Str} {v:V} {u:Value} {Q:Unit->Shared->Prop} (I:Inv X pins σ H s) (hN:X.N.Nodup) (hi:X.N[i]?=some x) (hx:Loc X.env.scope x) (r:RelV v u)
  (h:∀s',Inv X pins (σ.set i (some v)) H s'->Q () s') (hf:X.fn x=true\/X.env.scope.names.lookup x=some .local:=by first | exact .inl rfl | exact .inr rfl | assumption):wpAny M A (storeName X.env x u) Q E s :=
 zfs I hN hi hx r (fun s' I' _=>h s' I') hf
theorem Inv.call' {s':Shared} {ch:List Addr} (I:Inv X pins σ H s) (ho:s'.os=s.os) (u:Un (frs X.stack) ch H H' s.heap s'.heap) (hok:HOk X.prog X.w H' s'.heap) (hg:AllBare s'.gens)
  (hch:∀b∈ch,(b∈X.ex\/X.s₀.heap.objs.size<=b)/\b≠X.env.locals/\(∀x c,X.env.cells.lookup x=some c->c≠b)/\∀p∈X.pn++pins,p.1≠b):Inv X pins σ H' s':=by
 obtain ⟨h',g',d',t',o'⟩:=s'
 have e:o'=s.os:=ho
 subst e
 exact I.call (g':=g') (t':=t') (d':=d') u hok hg hch
end
abbrev XK:=Value->Option Addr->Hp->Prop
abbrev St:=List (Option V)
abbrev VK:=V->Hp->Prop
abbrev TE:=St->Hp->VK->Prop
abbrev TT:=St->Hp->(Bool->Hp->Prop)->Prop
abbrev TA:=St->Hp->(List V->Hp->Prop)->Prop
structure Ends where
 nx:St->Hp->Prop
 rt:VK
 bk:St->Hp->Prop:=fun _ _=>False
 ct:St->Hp->Prop:=fun _ _=>False
abbrev TS:=Ends->St->Hp->Prop
def EP (X:Cx) (pins:List (Addr×Obj)) (σ:St) (Q:VK) (u:Value) (s':Shared):Prop:=∃v H',Inv X pins σ H' s'/\RelV v u/\Q v H'
def TP (X:Cx) (pins:List (Addr×Obj)) (σ:St) (Q:Bool->Hp->Prop) (b:Bool) (s':Shared):Prop:=∃H',Inv X pins σ H' s'/\Q b H'
def AP (X:Cx) (pins:List (Addr×Obj)) (σ:St) (Q:List V->Hp->Prop) (us:List Value) (s':Shared):Prop:=∃vs H',Inv X pins σ H' s'/\Vals vs us/\Q vs H'
def SP (X:Cx) (pins:List (Addr×Obj)) (D:Ends) (f:Flow) (s':Shared):Prop :=
 match f with
 | .next=>∃σ' H',Inv X pins σ' H' s'/\D.nx σ' H'
 | .brk=>∃σ' H',Inv X pins σ' H' s'/\D.bk σ' H'
 | .cont=>∃σ' H',Inv X pins σ' H' s'/\D.ct σ' H'
 | .ret u=>∃v σ' H',Inv X pins σ' H' s'/\RelV v u/\D.rt v H'
def PE (X:Cx) (e:Expr) (t:TE):Prop :=
 ∀(pins:List (Addr×Obj)) (s:Shared) (σ:St) (H:Hp) (Q:VK),Inv X pins σ H s->t σ H Q->wpAny (model X.prog X.w) X.A (eval e X.env) (EP X pins σ Q) X.xe s
def PT (X:Cx) (e:Expr) (t:TT):Prop :=
 ∀(pins:List (Addr×Obj)) (s:Shared) (σ:St) (H:Hp) (Q:Bool->Hp->Prop),Inv X pins σ H s->t σ H Q->wpAny (model X.prog X.w) X.A (isTrue e X.env (eval e X.env)) (TP X pins σ Q) X.xe s
def PW (X:Cx) (e:Expr) (t:TT):Prop :=
 ∀(whole:Sem Value) (pins:List (Addr×Obj)) (s:Shared) (σ:St) (H:Hp) (Q:Bool->Hp->Prop),Inv X pins σ H s->t σ H Q->wpAny (model X.prog X.w) X.A (isTrue e X.env whole) (TP X pins σ Q) X.xe s
theorem PW.pt {X:Cx} {e:Expr} {t:TT} (h:PW X e t):PT X e t:=h _
def PA (X:Cx) (es:List Expr) (t:TA):Prop :=
 ∀(pos:Pos) (pins:List (Addr×Obj)) (s:Shared) (σ:St) (H:Hp) (Q:List V->Hp->Prop),Inv X pins σ H s->t σ H Q->wpAny (model X.prog X.w) X.A (spliced (backTo pos (starEach es X.env))) (AP X pins σ Q) X.xe s
def PS (X:Cx) (st:Stmt) (t:TS):Prop :=
 ∀(pins:List (Addr×Obj)) (s:Shared) (σ:St) (H:Hp) (D:Ends),Inv X pins σ H s->t D σ H->wpAny (model X.prog X.w) X.A (exec st X.env) (SP X pins D) X.xe s
def PSs (X:Cx) (st:List Stmt) (t:TS):Prop :=
 ∀(pins:List (Addr×Obj)) (s:Shared) (σ:St) (H:Hp) (D:Ends),Inv X pins σ H s->t D σ H->wpAny (model X.prog X.w) X.A (execs st X.env) (SP X pins D) X.xe s
theorem thn {α:Type} {t:Sem α} {Q Q':α->Shared->Prop} {M:Model} {A:Around} {E:Value->Shared->Prop} {s:Shared} (h:wpAny M A t Q E s) (hQ:∀a s,Q a s->Q' a s):wpAny M A t Q' E s:=wpAny_mono h hQ fun _ _ x=>x
end L2
namespace L2
open PySem PySem.Spec PyProof.Rows
section
variable {X:Cx}
theorem bin {a b:Expr} {ta tb:TE} (ha:PE X a ta) (hb:PE X b tb) {pins:List (Addr×Obj)} {s:Shared} {σ:St} {H:Hp} {R:V->V->Hp->Prop} (I:Inv X pins σ H s) (h:ta σ H fun x H1=>tb σ H1 fun y H2=>R x y H2)
  {α:Type} {Q:α->Shared->Prop} {f:Value->Value->Sem α}
  (hf:∀v u s2 x y H2,Inv X pins σ H2 s2->RelV x v->RelV y u->R x y H2->wpAny (model X.prog X.w) X.A (f v u) Q X.xe s2) :
  wpAny (model X.prog X.w) X.A (eval a X.env) (fun v s₁=>wpAny (model X.prog X.w) X.A (eval b X.env) (fun u s₂=>wpAny (model X.prog X.w) X.A (f v u) Q X.xe s₂) X.xe s₁) X.xe s:=by
 refine thn (ha pins s σ H _ I h) fun v s1 ⟨x,H1,I1,r1,q1⟩=>?_
 refine thn (hb pins s1 σ H1 _ I1 q1) fun u s2 ⟨y,H2,I2,r2,q2⟩=>?_
 exact hf v u s2 x y H2 I2 r1 r2 q2
def tVar (i:Nat):TE:=fun σ H Q=>∃v,σ[i]?=some (some v)/\Q v H
def tC (v:V):TE:=fun _ H Q=>Q v H
theorem zat {i:Nat} {x:Str} {pos:Pos} (hN:X.N[i]?=some x) (hv:Vis X.env.scope x) (hd:(x == ("__debug__":Str))=false:=by decide) (hcd:(x == ("__classdict__":Str))=false:=by decide):PE X (.Name x pos) (tVar i):=by
 intro pins s σ H Q I h
 obtain ⟨v,e,h⟩:=h
 obtain ⟨m,hn,hl⟩:=I.loc
 obtain ⟨u,r,l⟩:=hl i x v hN e hv
 have fin:EP X pins σ Q u s:=⟨v,H,I,r,h⟩
 rcases l with ⟨hk,hm⟩ | ⟨hk,c,hc,hcell⟩
 ·exact wpAny_Name (wpAny_loadName_local I.ok.kind hk hn hm fin) hd
 ·rcases hk with hk | hk
  ·exact wpAny_Name (wpAny_loadName_cell I.ok.kind hk hc hcell fin) hd
  ·exact wpAny_Name (wpAny_loadName_free I.ok.kind hk hc hcell fin hcd) hd
theorem zre {i j pos}:PE X (.Constant (.int i) j pos) (tC (.int i)):=fun _ _ _ H _ I h=>wpAny_Constant_int ⟨.int i,H,I.tok _,⟨_,rfl⟩,h⟩
theorem ztb {b j pos}:PE X (.Constant (.bool b) j pos) (tC (.bl b)):=fun _ _ _ H _ I h=>Constant_bool ⟨.bl b,H,I,rfl,h⟩
theorem zrf {j pos}:PE X (.Constant .none j pos) (tC .non):=fun _ _ _ H _ I h=>Constant_none ⟨.non,H,I,rfl,h⟩
theorem zrg {x j pos}:PE X (.Constant (.str x) j pos) (tC (.str x)):=fun _ _ _ H _ I h=>Calls.Constant_str ⟨.str x,H,I.tok _,⟨_,rfl⟩,h⟩
def Gl (X:Cx) (x:Str):Prop:=X.env.kindOf x=some .globalImplicit
theorem zew {E:Value->Shared->Prop} {pins:List (Addr×Obj)} {s:Shared} {σ:St} {H:Hp} {x:Str} {u:Value} {pos:Pos} {Q:Value->Shared->Prop} (I:Inv X pins σ H s) (hg:Gl X x) (hm:X.mg x=some u) (h:Q u s)
  (hd:(x == ("__debug__":Str))=false:=by decide):wpAny (model X.prog X.w) X.A (eval (.Name x pos) X.env) Q E s :=
 Calls.Name_function_global I.ok.kind hg (Calls.loadGlobal_global (by rw [I.ok.glob]; exact I.mod.glob.keeps I.bk) hm h) hd
theorem zc6 {E:Value->Shared->Prop} {pins:List (Addr×Obj)} {s:Shared} {σ:St} {H:Hp} {x:Str} {u:Value} {pos:Pos} {Q:Value->Shared->Prop} (I:Inv X pins σ H s) (hg:Gl X x) (hm:X.mg x=none) (hv:bootBuiltins x=some u) (h:Q u s)
  (hn:x≠"__name__":=by decide) (hd:(x == ("__debug__":Str))=false:=by decide):wpAny (model X.prog X.w) X.A (eval (.Name x pos) X.env) Q E s:=by
 obtain ⟨mb,h1,h2⟩:=I.mod.blt
 exact Calls.Name_function_global I.ok.kind hg (Calls.loadGlobal_builtin (by rw [I.ok.glob]; exact I.mod.glob.keeps I.bk) hm (by rw [I.ok.blt]; exact h1.keeps I.bk) ((h2 x hn).trans hv) h) hd
theorem zj0 {x:Str} {v:V} {u:Value} {pos:Pos} (hg:Gl X x) (hm:X.mg x=some u) (r:RelV v u) (hd:(x == ("__debug__":Str))=false:=by decide):PE X (.Name x pos) (tC v) :=
 fun _ _ _ H _ I h=>zew I hg hm ⟨v,H,I,r,h⟩ hd
theorem zo2 {x:Str} {v:V} {u:Value} {pos:Pos} (hg:Gl X x) (hm:X.mg x=none) (hv:bootBuiltins x=some u) (r:RelV v u) (hn:x≠"__name__":=by decide) (hd:(x == ("__debug__":Str))=false:=by decide):PE X (.Name x pos) (tC v) :=
 fun _ _ _ H _ I h=>zc6 I hg hm hv ⟨v,H,I,r,h⟩ hn hd
variable {a b:Expr} {ta tb:TE} {pos:Pos}
def PC (X:Cx) (op:CmpOp) (a b:Expr) (t:TE):Prop :=
 ∀(pins:List (Addr×Obj)) (s:Shared) (σ:St) (H:Hp) (Q:VK),Inv X pins σ H s->t σ H Q ->
  wpAny (model X.prog X.w) X.A (eval a X.env) (fun v s₁=>wpAny (model X.prog X.w) X.A (eval b X.env) (fun u s₂=>wpAny (model X.prog X.w) X.A (compareOp op v u) (EP X pins σ Q) X.xe s₂) X.xe s₁) X.xe s
theorem nobehind (b:Expr) {op:CmpOp} (h:op≠.In) (h2:op≠.NotIn):behindInMarks op b=false:=by
 have e1:(op == CmpOp.In)=false:=by cases op <;> first | rfl | exact absurd rfl h
 have e2:(op == CmpOp.NotIn)=false:=by cases op <;> first | rfl | exact absurd rfl h2
 cases b <;> simp [behindInMarks,e1,e2]
def tB (t:TE):TT:=fun σ H Q=>t σ H fun x H1=>∃c,x=.bl c/\Q c H1
theorem zoc {op:CmpOp} {t:TE} (h:PC X op a b t) (h1:behindInMarks op b=false:=by first | exact nobehind _ (by decide) (by decide) | rfl):PT X (.Compare a [op] [b] pos) (tB t):=by
 intro pins s σ H Q I hw
 refine wpAny_isTrue_Compare1 (thn (h pins s σ H _ I hw) fun v s1 h1=>thn h1 fun u s2 h2=>thn h2 fun c s3 ⟨x,H1,I1,r1,q1⟩=>?_) h1
 obtain ⟨d,rfl,q⟩:=q1
 cases r1
 exact wpAny_truthy_bool ⟨H1,I1,q⟩
theorem zrh {e:Expr} {t:TE} (h:PE X e t) (he:∀whole,isTrue e X.env whole=(do let v ← whole; standAt e.pos; holding [v] (truthy v)):=by intro _; rfl):PT X e (tB t):=by
 intro pins s σ H Q I hw
 refine isTrue_plain (thn (h pins s σ H _ I hw) fun v s1 ⟨x,H1,I1,r1,q1⟩=>?_) (he _)
 obtain ⟨d,rfl,q⟩:=q1
 cases r1
 exact wpAny_truthy_bool ⟨H1,I1,q⟩
variable {tA tB':TT} {rest:List Expr}
def tAnd (t u:TT):TT:=fun σ H Q=>t σ H fun c H1=>if c=true then u σ H1 Q else Q false H1
def tOr (t u:TT):TT:=fun σ H Q=>t σ H fun c H1=>if c=true then Q true H1 else u σ H1 Q
def tNot (t:TT):TT:=fun σ H Q=>t σ H fun c H1=>Q (!c) H1
theorem zo3 (ha:PT X a tA):PW X (.BoolOp .And [a] pos) tA:=by
 intro wh pins s σ H Q I h
 refine isTrue_and (thn (ha pins s σ H Q I h) fun c s1 e=>?_)
 cases c with
 | true=>exact isTrue_and_nil e
 | false=>exact e
theorem zri (ha:PT X a tA):PW X (.BoolOp .Or [a] pos) tA:=by
 intro wh pins s σ H Q I h
 refine isTrue_or (thn (ha pins s σ H Q I h) fun c s1 e=>?_)
 cases c with
 | false=>exact isTrue_or_nil e
 | true=>exact e
theorem zrj (ha:PT X a tA) (hb:PW X (.BoolOp .And (b::rest) pos) tB'):PW X (.BoolOp .And (a::b::rest) pos) (tAnd tA tB'):=by
 intro wh pins s σ H Q I h
 refine isTrue_and (thn (ha pins s σ H _ I h) fun c s1 ⟨H1,I1,q1⟩=>?_)
 cases c with
 | true=>exact hb wh pins s1 σ H1 Q I1 q1
 | false=>exact ⟨H1,I1,q1⟩
theorem ztc (ha:PT X a tA) (hb:PW X (.BoolOp .Or (b::rest) pos) tB'):PW X (.BoolOp .Or (a::b::rest) pos) (tOr tA tB'):=by
 intro wh pins s σ H Q I h
 refine isTrue_or (thn (ha pins s σ H _ I h) fun c s1 ⟨H1,I1,q1⟩=>?_)
 cases c with
 | true=>exact ⟨H1,I1,q1⟩
 | false=>exact hb wh pins s1 σ H1 Q I1 q1
theorem zrk (ha:PT X a tA):PT X (.UnaryOp .Not a pos) (tNot tA):=by
 intro pins s σ H Q I h
 exact isTrue_not (ha pins s σ H (fun c H1=>Q (!c) H1) I h)
def tAndV (ta tb:TE):TE:=fun σ H Q=>ta σ H fun x H1=>∃c,x=.bl c/\if c=true then tb σ H1 Q else Q (.bl false) H1
def tOrV (ta tb:TE):TE:=fun σ H Q=>ta σ H fun x H1=>∃c,x=.bl c/\if c=true then Q (.bl true) H1 else tb σ H1 Q
def tNotV (ta:TE):TE:=fun σ H Q=>ta σ H fun x H1=>∃c,x=.bl c/\Q (.bl (!c)) H1
theorem zrl {op} {t:TE} (h:PE X a t):PE X (.BoolOp op [a] pos) t:=fun pins s σ H Q I hw=>BoolOp_one (h pins s σ H Q I hw)
theorem zrm (ha:PE X a ta) (hb:PE X (.BoolOp .And (b::rest) pos) tb):PE X (.BoolOp .And (a::b::rest) pos) (tAndV ta tb):=by
 intro pins s σ H Q I h
 refine BoolOp_and (thn (ha pins s σ H _ I h) fun v s1 ⟨x,H1,I1,r1,q1⟩=>?_)
 obtain ⟨c,rfl,q1⟩:=q1
 cases r1
 refine wpAny_truthy_bool ?_
 cases c with
 | true=>exact hb pins s1 σ H1 Q I1 q1
 | false=>exact ⟨.bl false,H1,I1,rfl,q1⟩
theorem ztd (ha:PE X a ta) (hb:PE X (.BoolOp .Or (b::rest) pos) tb):PE X (.BoolOp .Or (a::b::rest) pos) (tOrV ta tb):=by
 intro pins s σ H Q I h
 refine BoolOp_or (thn (ha pins s σ H _ I h) fun v s1 ⟨x,H1,I1,r1,q1⟩=>?_)
 obtain ⟨c,rfl,q1⟩:=q1
 cases r1
 refine wpAny_truthy_bool ?_
 cases c with
 | false=>exact hb pins s1 σ H1 Q I1 q1
 | true=>exact ⟨.bl true,H1,I1,rfl,q1⟩
theorem zrn (ha:PE X a ta):PE X (.UnaryOp .Not a pos) (tNotV ta):=by
 intro pins s σ H Q I h
 refine UnaryOp_ (thn (ha pins s σ H _ I h) fun v s1 ⟨x,H1,I1,r1,q1⟩=>?_)
 obtain ⟨c,rfl,q1⟩:=q1
 cases r1
 exact not_of (wpAny_truthy_bool ⟨.bl (!c),H1,I1,rfl,q1⟩)
def tIf (t:TT) (ta tb:TE):TE:=fun σ H Q=>t σ H fun c H1=>if c=true then ta σ H1 Q else tb σ H1 Q
theorem zmg {c:Expr} (hc:PT X c tA) (ha:PE X a ta) (hb:PE X b tb):PE X (.IfExp c a b pos) (tIf tA ta tb):=by
 intro pins s σ H Q I h
 refine wpAny_IfExp (thn (hc pins s σ H _ I h) fun d s1 ⟨H1,I1,q1⟩=>?_)
 cases d with
 | true=>exact ha pins s1 σ H1 Q I1 q1
 | false=>exact hb pins s1 σ H1 Q I1 q1
end
end L2
namespace L2
open PySem PySem.Spec PyProof.Rows
def SqL (K:PySem.W.Frag) (H:Hp) (a:Addr) (xs:List V):Prop :=
 Rd H a (.lst xs) \/
  ∃(o:Obj) (its:Array Value) (n:Nat),K.lookup a=some o/\o.cls=.type "list"/\o.dict=none/\o.data=.seq its n/\its.size<=sizeLine/\Vals xs its.toList
def SqT (K:PySem.W.Frag) (H:Hp) (a:Addr) (xs:List V):Prop :=
 Rd H a (.tup xs) \/
  ∃(o:Obj) (its:Array Value) (n:Nat),K.lookup a=some o/\o.cls=.type "tuple"/\o.data=.seq its n/\its.size<=sizeLine/\Vals xs its.toList
def absV:Value->Option V
 | .none=>some .non
 | .bool b=>some (.bl b)
 | .int i _=>some (.int i)
 | .str x _=>some (.str x)
 | .bytes b _=>some (.byt b)
 | .float b _=>some (.flt b)
 | .ref a=>some (.ref a)
 | .type n=>some (.ty n)
 | _=>none
theorem RelV.abs {x:V} {u:Value} (r:RelV x u):absV u=some x:=by
 cases x with
 | non=>cases r; rfl
 | bl _=>cases r; rfl
 | int _=>obtain ⟨t,rfl⟩:=r; rfl
 | str _=>obtain ⟨t,rfl⟩:=r; rfl
 | byt _=>obtain ⟨t,rfl⟩:=r; rfl
 | flt _=>obtain ⟨t,rfl⟩:=r; rfl
 | ref _=>cases r; rfl
 | ty _=>cases r; rfl
theorem RelV.inj {x y:V} {u:Value} (r:RelV x u) (q:RelV y u):x=y:=Option.some.inj (r.abs.symm.trans q.abs)
theorem Vals.inj:∀{xs ys:List V} {us:List Value},Vals xs us->Vals ys us->xs=ys
 | _,_,_,.nil,.nil=>rfl
 | _,_,_,.cons r t,.cons r' t'=>by rw [r.inj r',Vals.inj t t']
section
variable {X:Cx} {pins:List (Addr×Obj)} {σ:St} {H:Hp} {s:Shared} {a:Addr} {xs ys:List V}
theorem SqL.of {K:PySem.W.Frag} (h:H a=some (.lst xs)):SqL K H a xs:=.inl (.inl h)
theorem SqT.of {K:PySem.W.Frag} (h:H a=some (.tup xs)):SqT K H a xs:=.inl (.inl h)
theorem Inv.list (I:Inv X pins σ H s) (h:SqL X.K H a xs):∃its:List Value,Vals xs its/\PlainL s.heap a its.toArray/\xs.length<=sizeLine:=by
 rcases h with h | ⟨o,its,n,hk,hc,hd,hs,hz,r⟩
 ·obtain ⟨z,its,n,r,e⟩:=h.ok I.hok
  exact ⟨its,r,⟨_,n,e,rfl,rfl,rfl⟩,z⟩
 ·refine ⟨its.toList,r,⟨o,n,I.kIn a o hk,hc,hd,by simpa using hs⟩,?_⟩
  have e:=r.length
  simp only [Array.length_toList] at e
  omega
theorem Inv.tuple (I:Inv X pins σ H s) (h:SqT X.K H a xs):∃its:List Value,Vals xs its/\IsTup s.heap a its.toArray/\xs.length<=sizeLine:=by
 rcases h with h | ⟨o,its,n,hk,hc,hs,hz,r⟩
 ·obtain ⟨z,its,r,p⟩:=h.ok I.hok
  exact ⟨its,r,p,z⟩
 ·refine ⟨its.toList,r,⟨o,I.kIn a o hk,hc,n,by simpa using hs⟩,?_⟩
  have e:=r.length
  simp only [Array.length_toList] at e
  omega
theorem Inv.list_inj (I:Inv X pins σ H s) (h:SqL X.K H a xs) (h':SqL X.K H a ys):xs=ys:=by
 obtain ⟨its,r,⟨o,n,e,_,_,d⟩,_⟩:=I.list h
 obtain ⟨its',r',⟨o',n',e',_,_,d'⟩,_⟩:=I.list h'
 rw [e] at e'; cases e'
 rw [d] at d'
 injection d' with d1 _
 have:its=its':=by simpa using congrArg Array.toList d1
 subst this
 exact r.inj r'
end
abbrev Cx.wish (X:Cx) (E:Value->Shared->Prop):Cx:={ X with xe:=E }
abbrev Cx.nox (X:Cx):Cx:=X.wish fun _ _=>False
theorem Cx.Ok.wish {X:Cx} (ok:X.Ok) (E:Value->Shared->Prop):(X.wish E).Ok :=
 ⟨ok.mod,ok.kind,ok.glob,ok.blt,ok.above,ok.inj,ok.has,ok.cab,ok.hd,ok.frames,ok.stk,ok.exf,ok.bs,ok.bsz,ok.noex,ok.exfs,ok.funs,ok.frf⟩
theorem Cx.Ok.unwish {X:Cx} {E:Value->Shared->Prop} (ok:(X.wish E).Ok):X.Ok :=
 ⟨ok.mod,ok.kind,ok.glob,ok.blt,ok.above,ok.inj,ok.has,ok.cab,ok.hd,ok.frames,ok.stk,ok.exf,ok.bs,ok.bsz,ok.noex,ok.exfs,ok.funs,ok.frf⟩
section
variable {X:Cx} {pins:List (Addr×Obj)} {σ:St} {H:Hp} {s:Shared} {E:Value->Shared->Prop}
theorem Inv.wish (I:Inv X pins σ H s) (E:Value->Shared->Prop):Inv (X.wish E) pins σ H s:=⟨I.ok.wish E,I.os,I.bare,I.base,I.loc,I.cell,I.free,I.freeC,I.pin,I.hok,I.len⟩
theorem Inv.unwish (I:Inv (X.wish E) pins σ H s):Inv X pins σ H s:=⟨I.ok.unwish,I.os,I.bare,I.base,I.loc,I.cell,I.free,I.freeC,I.pin,I.hok,I.len⟩
theorem SP.unwish {D:Ends} {f:Flow} {s':Shared} (h:SP (X.wish E) pins D f s'):SP X pins D f s':=by
 cases f with
 | next=>obtain ⟨σ',H',I,q⟩:=h; exact ⟨σ',H',I.unwish,q⟩
 | brk=>obtain ⟨σ',H',I,q⟩:=h; exact ⟨σ',H',I.unwish,q⟩
 | cont=>obtain ⟨σ',H',I,q⟩:=h; exact ⟨σ',H',I.unwish,q⟩
 | ret u=>obtain ⟨v,σ',H',I,r,q⟩:=h; exact ⟨v,σ',H',I.unwish,r,q⟩
theorem PSs.nox {st:List Stmt} {t:TS} (h:PSs X.nox st t):PSs X st t:=fun pins s σ H D I hw =>
 wpAny_mono (h pins s σ H D (I.wish _) hw) (fun _ _ q=>q.unwish) fun _ _ z=>False.elim z
end
section
variable {X:Cx} {st:Stmt} {rest:List Stmt} {t u:TS} {e:Expr} {te:TE} {pos:Pos}
def tNext:TS:=fun D σ H=>D.nx σ H
def tSeq (t u:TS):TS:=fun D σ H=>t { D with nx:=u D } σ H
theorem zo4:PSs X [] tNext:=fun _ _ σ H _ I h=>wpAny_execs_nil ⟨σ,H,I,h⟩
theorem zmh (h1:PS X st t) (h2:PSs X rest u):PSs X (st::rest) (tSeq t u):=by
 intro pins s σ H D I h
 refine wpAny_execs_cons (thn (h1 pins s σ H { D with nx:=u D } I h) fun f s1 q=>?_)
 cases f with
 | next =>
  obtain ⟨σ',H',I',q⟩:=q
  exact h2 pins s1 σ' H' D I' q
 | ret v=>exact q
 | brk=>exact q
 | cont=>exact q
theorem zo5 (h1:PS X st t):PSs X [st] t:=by
 intro pins s σ H D I h
 refine wpAny_execs_cons (thn (h1 pins s σ H D I h) fun f s1 q=>?_)
 cases f with
 | next=>exact wpAny_execs_nil q
 | ret v=>exact q
 | brk=>exact q
 | cont=>exact q
theorem Inv.quiet {pins:List (Addr×Obj)} {σ:St} {H:Hp} {s:Shared} (I:Inv X pins σ H s):interactive X.env=false:=by simp [interactive,I.ok.kind]
def tDrop (te:TE):TS:=fun D σ H=>te σ H fun _ H1=>D.nx σ H1
theorem zg6 (he:PE X e te) (hs:swapsWith e none pos.line X.env=pure false:=by rfl):PS X (.Expr e pos) (tDrop te):=by
 intro pins s σ H D I h
 exact wpAny_Expr_any (thn (he pins s σ H _ I h) fun v s1 ⟨x,H1,I1,r1,q1⟩=>⟨σ,H1,I1,q1⟩) I.quiet hs
def tRet (te:TE):TS:=fun D σ H=>te σ H D.rt
theorem zod (he:PE X e te):PS X (.Return (some e) pos) (tRet te):=by
 intro pins s σ H D I h
 exact wpAny_Return_some (thn (he pins s σ H _ I h) fun v s1 ⟨x,H1,I1,r1,q1⟩=>⟨x,σ,H1,I1,r1,q1⟩)
def tIfS (c:TT) (t u:TS):TS:=fun D σ H=>c σ H fun b H1=>if b=true then t D σ H1 else u D σ H1
theorem zte {c:Expr} {a b:List Stmt} {tc:TT} (hc:PT X c tc) (ha:PSs X a t) (hb:PSs X b u):PS X (.If c a b pos) (tIfS tc t u):=by
 intro pins s σ H D I h
 refine wpAny_If (thn (hc pins s σ H _ I h) fun d s1 ⟨H1,I1,q1⟩=>?_)
 cases d with
 | true=>exact ha pins s1 σ H1 D I1 q1
 | false=>exact hb pins s1 σ H1 D I1 q1
def tNever:TS:=fun _ _ _=>False
theorem zmi:PS X st tNever:=fun _ _ _ _ _ _ h=>h.elim
end
abbrev TG:=V->St->Hp->(St->Hp->Prop)->Prop
abbrev TGs:=List V->St->Hp->(St->Hp->Prop)->Prop
def PG (X:Cx) (target:Expr) (t:TG):Prop :=
 ∀(pins:List (Addr×Obj)) (s:Shared) (σ:St) (H:Hp) (v:V) (u:Value) (Q:St->Hp->Prop),Inv X pins σ H s->RelV v u->t v σ H Q ->
  wpAny (model X.prog X.w) X.A (assign target X.env u) (fun _ s'=>∃σ' H',Inv X pins σ' H' s'/\Q σ' H') X.xe s
def PGs (X:Cx) (ts:List Expr) (t:TGs):Prop :=
 ∀(pins:List (Addr×Obj)) (s:Shared) (σ:St) (H:Hp) (vs:List V) (us:List Value) (Q:St->Hp->Prop),Inv X pins σ H s->Vals vs us->t vs σ H Q ->
  wpAny (model X.prog X.w) X.A (assignInOrder ((assignEach ts X.env).map (·.2)) us) (fun _ s'=>∃σ' H',Inv X pins σ' H' s'/\Q σ' H') X.xe s
abbrev TSet:=V->V->V->Hp->(Hp->Prop)->Prop
def PSet (X:Cx) (t:TSet):Prop :=
 ∀(pins:List (Addr×Obj)) (s:Shared) (σ:St) (H:Hp) (o i v:V) (ov iv u:Value) (Q:Hp->Prop),Inv X pins σ H s->RelV o ov->RelV i iv->RelV v u->t o i v H Q ->
  wpAny (model X.prog X.w) X.A (setItem ov iv u) (fun _ s'=>∃H',Inv X pins σ H' s'/\Q H') X.xe s
abbrev TIp:=V->V->Hp->VK->Prop
def PIp (X:Cx) (op:Operator) (t:TIp):Prop :=
 ∀(pins:List (Addr×Obj)) (s:Shared) (σ:St) (H:Hp) (x y:V) (v u:Value) (Q:VK),Inv X pins σ H s->RelV x v->RelV y u->t x y H Q ->
  wpAny (model X.prog X.w) X.A (inplaceOp op v u) (EP X pins σ Q) X.xe s
section
variable {X:Cx} {pos:Pos}
def gName (i:Nat):TG:=fun v σ H Q=>Q (σ.set i (some v)) H
theorem zj1 {i:Nat} {x:Str} (hN:X.N.Nodup) (hi:X.N[i]?=some x) (hx:Loc X.env.scope x) (hf:X.fn x=true\/X.env.scope.names.lookup x=some .local:=by first | exact .inl rfl | exact .inr rfl | assumption):PG X (.Name x pos) (gName i):=by
 intro pins s σ H v u Q I r h
 exact wpAny_assign_Name (zbu I hN hi hx r (fun s' I'=>⟨_,H,I',h⟩) hf)
def gNil:TGs:=fun vs σ H Q=>vs=[]/\Q σ H
def gCons (t:TG) (u:TGs):TGs:=fun vs σ H Q=>∃v r,vs=v::r/\t v σ H fun σ' H'=>u r σ' H' Q
theorem zj2:PGs X [] gNil:=by
 intro pins s σ H vs us Q I r h
 obtain ⟨e,h⟩:=h
 subst e
 cases r
 exact assignInOrder_nil ⟨σ,H,I,h⟩
theorem zh1 {e:Expr} {es:List Expr} {t:TG} {u:TGs} (h1:PG X e t) (h2:PGs X es u)
  (hs:(assignEach (e::es) X.env).map (·.2)=assign e X.env::(assignEach es X.env).map (·.2):=by rfl):PGs X (e::es) (gCons t u):=by
 intro pins s σ H vs us Q I r h
 obtain ⟨v,vr,e1,h⟩:=h
 subst e1
 cases r with
 | cons r rr =>
  rw [hs]
  refine assignInOrder_cons (thn (h1 pins s σ H _ _ _ I r h) fun _ s1 ⟨σ1,H1,I1,q1⟩=>?_)
  exact h2 pins s1 σ1 H1 _ _ Q I1 rr q1
def gTup (K:PySem.W.Frag) (n:Nat) (t:TGs):TG:=fun v σ H Q=>∃a xs,v=.ref a/\SqT K H a xs/\xs.length=n/\t xs σ H Q
theorem zoe {es:List Expr} {k:Nat} {t:TGs} {n:Nat} (hc:X.calm=true) (h:PGs X es t)
  (hn:(assignEach es X.env).length=n:=by rfl) (hst:(assignEach es X.env).findIdx? (·.1)=none:=by rfl):PG X (.Tuple es k pos) (gTup X.K n t):=by
 intro pins s σ H v u Q I r hw
 obtain ⟨a,xs,e1,hq,hl,hw⟩:=hw
 subst e1
 cases r
 obtain ⟨its,rv,ht,hz⟩:=I.tuple hq
 refine assign_Tuple_tuple (I.ok.hd hc) ht (by simp [hn,← hl,rv.length]) hst fun h' hx=>?_
 have I1:Inv X pins σ H { s with heap:=h' }:=I.kept (t':=s.toks) fun b o e=>hx b o (Nat.ne_of_lt (Heap.lt_size e)) e
 exact h pins _ σ H xs _ Q I1 (by simpa using rv) hw
def gSub (to ti:TE) (t:TSet):TG:=fun v σ H Q=>to σ H fun o H1=>ti σ H1 fun i H2=>t o i v H2 fun H3=>Q σ H3
theorem zro {o i:Expr} {to ti:TE} {t:TSet} (ho:PE X o to) (hi:PE X i ti) (hs:PSet X t)
  (ha:∀v,assign (.Subscript o i pos) X.env v=(do
   let ov ← holding [v] (eval o X.env)
   let iv ← holding [v,ov] (eval i X.env)
   standAt pos
   holding [v,ov,iv] (setItem ov iv v)
   release [v,ov,iv] []):=by intro _; rfl):PG X (.Subscript o i pos) (gSub to ti t):=by
 intro pins s σ H v u Q I r h
 rw [ha]
 refine wpAny_bind (wpAny_holding (thn (ho pins s σ H _ I h) fun ov s1 ⟨x,H1,I1,r1,q1⟩=>?_))
 refine wpAny_bind (wpAny_holding (thn (hi pins s1 σ H1 _ I1 q1) fun iv s2 ⟨y,H2,I2,r2,q2⟩=>?_))
 refine wpAny_bind (wpAny_standAt (wpAny_bind (wpAny_holding (thn (hs pins s2 σ H2 x y v ov iv u _ I2 r1 r2 r q2) fun _ s3 ⟨H3,I3,q3⟩=>?_))))
 exact wpAny_release ⟨σ,H3,I3,q3⟩
def tAsg (te:TE) (g:TG):TS:=fun D σ H=>te σ H fun x H1=>g x σ H1 D.nx
theorem zof {tg e:Expr} {te:TE} {g:TG} (he:PE X e te) (hg:PG X tg g) (hs:swapsWithSole [tg] e pos.line X.env=pure false:=by rfl) (hw:swappedStores [tg] e X.env=pure none:=by rfl)
  (h1:(assignEach [tg] X.env).map (·.2)=[assign tg X.env]:=by rfl):PS X (.Assign [tg] e pos) (tAsg te g):=by
 intro pins s σ H D I h
 refine wpAny_Assign_stores (thn (he pins s σ H _ I h) fun v s1 ⟨x,H1,I1,r1,q1⟩=>?_) hs hw
 rw [h1]
 exact thn (hg pins s1 σ H1 x v _ I1 r1 q1) fun _ s2 q=>q
theorem zrp {i:Nat} {x:Str} {e:Expr} {te:TE} {pos':Pos} (hN:X.N.Nodup) (hi:X.N[i]?=some x) (hx:Loc X.env.scope x) (he:PE X e te) (hs:swapsWith e (some (.Name x pos')) pos.line X.env=pure false:=by rfl) (hf:X.fn x=true\/X.env.scope.names.lookup x=some .local:=by first | exact .inl rfl | exact .inr rfl | assumption) :
  PS X (.Assign [.Name x pos'] e pos) (tAsg te (gName i)):=by
 intro pins s σ H D I h
 refine wpAny_Assign_Name (thn (he pins s σ H _ I h) fun v s1 ⟨y,H1,I1,r1,q1⟩=>?_) hs
 exact zbu I1 hN hi hx r1 (fun s2 I2=>⟨_,H1,I2,q1⟩) hf
def tPar (i j:Nat) (ta:TA):TS:=fun D σ H=>ta σ H fun vs H1=>∃v w,vs=[v,w]/\D.nx ((σ.set i (some v)).set j (some w)) H1
theorem zrq {i j:Nat} {x y:Str} {a b:Expr} {ta:TA} {px py pt:Pos} {kt k2 pt2} (hc:X.calm=true) (hN:X.N.Nodup) (hi:X.N[i]?=some x) (hj:X.N[j]?=some y) (hij:i≠j)
    (hx:X.env.scope.names.lookup x=some .local) (hy:X.env.scope.names.lookup y=some .local) (ha:PA X [a,b] ta)
    (hw:swappedStores [.Tuple [.Name x px,.Name y py] kt pt] (.Tuple [a,b] k2 pt2) X.env=pure (some [x,y]))
    (hs:swapsWithSole [.Tuple [.Name x px,.Name y py] kt pt] (.Tuple [a,b] k2 pt2) pos.line X.env=pure false:=by rfl) :
    PS X (.Assign [.Tuple [.Name x px,.Name y py] kt pt] (.Tuple [a,b] k2 pt2) pos) (tPar i j ta):=by
  intro pins s σ H D I h
  rw [exec_Assign_arm]
  refine wpAny_bind (wpAny_standAt ?_)
  rw [hs]
  refine wpAny_bind (wpAny_pure ?_)
  rw [if_neg (by decide)]
  refine wpAny_bind (Tuple_ (thn (ha _ pins s σ H _ I h) fun us s1 ⟨vs,H1,I1,r1,q1⟩=>?_))
  obtain ⟨v,w,e1,q1⟩:=q1
  subst e1
  obtain ⟨u1,u2,rfl,rv,rw'⟩:∃u1 u2,us=[u1,u2]/\RelV v u1/\RelV w u2:=by
    cases r1 with
    | cons p q =>
      cases q with
      | cons p' q' =>
        cases q'
        exact ⟨_,_,rfl,p,p'⟩
  refine wpAny_newObj_type ?_ (by show 2<=sizeLine; decide)
  have I2:Inv X pins σ H1 { s1 with heap:=s1.heap.push { cls:=.type "tuple",data:=.seq [u1,u2].toArray } }:=I1.kept (t':=s1.toks) fun b o e=>Heap.get?_push_of_some _ e
  rw [hw]
  refine wpAny_bind (wpAny_pure ?_)
  show wpAny (model X.prog X.w) X.A (do rule "assign.swapped-stores"; let items ← unpackItems (.ref s1.heap.objs.size) 2 none; assignInOrder [fun v=>bindName X.env y v,fun v=>bindName X.env x v] items.reverse; pure Flow.next) _ _ _
  refine wpAny_bind (wpAny_rule (wpAny_bind (unpackItems_tuple (items:=#[u1,u2]) (I.ok.hd hc) (IsTup.new s1.heap _) fun h' hx'=>?_)))
  have I3:=I2.kept (h':=h') (t':=s1.toks) fun b o e=>hx' b o (Nat.ne_of_lt (Heap.lt_size e)) e
  show wpAny _ _ (assignInOrder [fun v=>bindName X.env y v,fun v=>bindName X.env x v] [u2,u1] >>= fun _=>pure Flow.next) _ _ _
  refine wpAny_bind (assignInOrder_cons (wpAny_bindName (zbu I3 hN hj (.inl hy) rw' (fun s2 I4=>?_) (.inr hy))))
  refine assignInOrder_cons (wpAny_bindName (zbu I4 hN hi (.inl hx) rv (fun s3 I5=>assignInOrder_nil (wpAny_pure ?_)) (.inr hx)))
  rw [List.set_comm _ _ (Ne.symm hij)] at I5
  exact ⟨_,H1,I5,q1⟩
def tAug (i:Nat) (te:TE) (ti:TIp):TS:=fun D σ H=>∃x,σ[i]?=some (some x)/\te σ H fun y H1=>ti x y H1 fun z H2=>D.nx (σ.set i (some z)) H2
theorem zrr {i:Nat} {x:Str} {e:Expr} {te:TE} {op:Operator} {ti:TIp} {pos':Pos} (hN:X.N.Nodup) (hi:X.N[i]?=some x) (hx:Loc X.env.scope x) (he:PE X e te) (ho:PIp X op ti) (hf:X.fn x=true\/X.env.scope.names.lookup x=some .local:=by first | exact .inl rfl | exact .inr rfl | assumption) :
  PS X (.AugAssign (.Name x pos') op e pos) (tAug i te ti):=by
 intro pins s σ H D I h
 obtain ⟨v,e1,h⟩:=h
 obtain ⟨m,hn,hl⟩:=I.loc
 have vis:Vis X.env.scope x:=by rcases hx with k | k; exact .inl k; exact .inr (.inl k)
 obtain ⟨u,r,l⟩:=hl i x v hi e1 vis
 refine wpAny_AugAssign_Name ?_
 have go:wpAny (model X.prog X.w) X.A (eval e X.env) (fun w s₂=>wpAny (model X.prog X.w) X.A (inplaceOp op u w) (fun r s₃=>wpAny (model X.prog X.w) X.A (storeName X.env x r) (fun _=>SP X pins D .next) X.xe s₃) X.xe s₂) X.xe s:=by
  refine thn (he pins s σ H _ I h) fun w s1 ⟨y,H1,I1,r1,q1⟩=>?_
  refine thn (ho pins s1 σ H1 v y u w _ I1 r r1 q1) fun z s2 ⟨zv,H2,I2,r2,q2⟩=>?_
  exact zbu I2 hN hi hx r2 (fun s3 I3=>⟨_,H2,I3,q2⟩) hf
 rcases l with ⟨hk,hm⟩ | ⟨hk,c,hc,hcell⟩
 ·exact wpAny_loadName_local I.ok.kind hk hn hm go
 ·rcases hk with hk | hk
  ·exact wpAny_loadName_cell I.ok.kind hk hc hcell go
  ·rcases hx with k | k
   ·have:X.env.scope.names.lookup x=some .free:=hk
    rw [k] at this; cases this
   ·have:X.env.scope.names.lookup x=some .free:=hk
    rw [k] at this; cases this
def tAugS (to ti te:TE) (tget:V->V->Hp->VK->Prop) (tip:TIp) (tset:TSet):TS:=fun D σ H=>to σ H fun o H1=>ti σ H1 fun i H2=>tget o i H2 fun x H3=>te σ H3 fun y H4=>tip x y H4 fun z H5=>tset o i z H5 fun H6=>D.nx σ H6
def PGet (X:Cx) (t:V->V->Hp->VK->Prop):Prop :=
 ∀(pins:List (Addr×Obj)) (s:Shared) (σ:St) (H:Hp) (o i:V) (ov iv:Value) (Q:VK),Inv X pins σ H s->RelV o ov->RelV i iv->t o i H Q ->
  wpAny (model X.prog X.w) X.A (getItem ov iv) (EP X pins σ Q) X.xe s
theorem zo6 {o i e:Expr} {to ti te:TE} {tget:V->V->Hp->VK->Prop} {tip:TIp} {tset:TSet} {op:Operator} {tpos:Pos} (ho:PE X o to) (hi:PE X i ti) (hg:PGet X tget) (he:PE X e te) (hp:PIp X op tip) (hs:PSet X tset)
  (ha:∀ov iv new,augStore i ov iv new=(do holding [new,ov,iv] (setItem ov iv new); release [new,ov,iv] []; pure .next):=by intros; rfl):PS X (.AugAssign (.Subscript o i tpos) op e pos) (tAugS to ti te tget tip tset):=by
 intro pins s σ H D I h
 refine wpAny_AugAssign_SubscriptAny (thn (ho pins s σ H _ I h) fun ov s1 ⟨x1,H1,I1,r1,q1⟩=>?_) ha
 refine thn (hi pins s1 σ H1 _ I1 q1) fun iv s2 ⟨x2,H2,I2,r2,q2⟩=>?_
 refine thn (hg pins s2 σ H2 x1 x2 ov iv _ I2 r1 r2 q2) fun old s3 ⟨x3,H3,I3,r3,q3⟩=>?_
 refine thn (he pins s3 σ H3 _ I3 q3) fun v s4 ⟨x4,H4,I4,r4,q4⟩=>?_
 refine thn (hp pins s4 σ H4 x3 x4 old v _ I4 r3 r4 q4) fun new s5 ⟨x5,H5,I5,r5,q5⟩=>?_
 exact thn (hs pins s5 σ H5 x1 x2 x5 ov iv new _ I5 r1 r2 r5 q5) fun _ s6 ⟨H6,I6,q6⟩=>⟨σ,H6,I6,q6⟩
def ipI (f:Int->Int->Int):TIp:=fun x y H Q=>∃i j,x=.int i/\y=.int j/\Q (.int (f i j)) H
theorem zj3:PIp X .Add (ipI fun i j=>i+j):=by
 intro pins s σ H x y v u Q I r1 r2 h
 obtain ⟨i,j,e1,e2,q⟩:=h
 subst e1; subst e2
 obtain ⟨t,rfl⟩:=r1
 obtain ⟨t',rfl⟩:=r2
 exact iadd_int ⟨.int _,H,I.tok _,⟨_,rfl⟩,q⟩
theorem zrs:PIp X .Sub (ipI fun i j=>i-j):=by
 intro pins s σ H x y v u Q I r1 r2 h
 obtain ⟨i,j,e1,e2,q⟩:=h
 subst e1; subst e2
 obtain ⟨t,rfl⟩:=r1
 obtain ⟨t',rfl⟩:=r2
 exact isub_int ⟨.int _,H,I.tok _,⟨_,rfl⟩,q⟩
end
section
variable {X:Cx} {pos:Pos}
def tWhile (c:TT) (tb:TS):TS:=fun D σ H=>∃W:Nat->St->Hp->Prop,(∃m,W m σ H)/\∀m σ H,W m σ H ->
 c σ H fun b H1=>if b=true then ∃N:St->Hp->Prop,(∀σ' H',N σ' H'->∃m',m'<m/\W m' σ' H')/\tb { D with nx:=N,ct:=N,bk:=D.nx } σ H1 else D.nx σ H1
theorem zmj {c:Expr} {body:List Stmt} {tc:TT} {tb:TS} (hp:PassesOwn (model X.prog X.w) X.A X.env X.xe) (hc:PT X c tc) (hb:PSs X body tb):PS X (.While c body [] pos) (tWhile tc tb):=by
 intro pins s σ H D I h
 obtain ⟨W,⟨m0,w0⟩,turn⟩:=h
 refine wpAny_While (codeAny_whileLoop (fun n s'=>∃σ' H',Inv X pins σ' H' s'/\W n σ' H') ?_ m0 ⟨σ,H,I,w0⟩)
 rintro n s1 ⟨σ1,H1,I1,w1⟩
 refine wpAny_passesOwn hp (thn (hc pins s1 σ1 H1 _ I1 (turn n σ1 H1 w1)) fun b s2 ⟨H2,I2,q2⟩=>?_)
 cases b with
 | true =>
  obtain ⟨N,hN,q2⟩:=q2
  rw [if_pos rfl]
  refine wpAny_passesOwn hp (thn (hb pins s2 σ1 H2 _ I2 q2) fun f s3 q3=>?_)
  cases f with
  | next =>
   obtain ⟨σ3,H3,I3,n3⟩:=q3
   obtain ⟨m',hm,w3⟩:=hN σ3 H3 n3
   exact ⟨m',hm,σ3,H3,I3,w3⟩
  | cont =>
   obtain ⟨σ3,H3,I3,n3⟩:=q3
   obtain ⟨m',hm,w3⟩:=hN σ3 H3 n3
   exact ⟨m',hm,σ3,H3,I3,w3⟩
  | brk=>exact q3
  | ret v=>exact q3
 | false =>
  rw [if_neg Bool.false_ne_true]
  exact wpAny_execs_nil ⟨σ1,H2,I2,q2⟩
end
structure It where
 go:Nat->Hp->Prop
 yld:Nat->Hp->V->Hp->Prop
 stop:Nat->Hp->Prop
def FpOk (X:Cx) (pins:List (Addr×Obj)) (H:Hp) (b:Addr):Prop :=
 H b=none/\b≠X.env.locals/\b∉X.fs/\(b∈X.ex\/X.s₀.heap.objs.size<=b)/\(∀x c,X.env.cells.lookup x=some c->c≠b)/\∀p∈X.pn++pins,p.1≠b
theorem Inv.fpOk {X:Cx} {pins:List (Addr×Obj)} {σ:St} {H H':Hp} {s:Shared} {b:Addr} (I:Inv X pins σ H s) (hb:s.heap.objs.size<=b) (hn:H' b=none):FpOk X pins H' b:=by
 refine ⟨hn,Nat.ne_of_gt (Nat.lt_of_lt_of_le I.lt hb),I.nofs hb,.inr (Nat.le_trans I.sz hb),fun x c e z=>?_,fun p hp z=>?_⟩
 ·obtain ⟨v,q⟩:=I.cell x c e
  exact absurd (Nat.lt_of_lt_of_le q.lt (by rw [z]; exact hb)) (Nat.lt_irrefl _)
 ·exact absurd (Nat.lt_of_lt_of_le (Heap.lt_size (I.pin p hp).1) (by rw [z]; exact hb)) (Nat.lt_irrefl _)
structure Turn (P:Program) (w:World) (K:PySem.W.Frag) (tg:Expr) (J:It) (fp:List Addr) (it:Addr) (tn:Nat->Heap->Prop):Prop where
 mem:it∈fp
 obj:∀i h,tn i h->∀b∈fp,∃o,h.get? b=some o/\∀v,o.data≠.cell v
 keep:∀i h h',tn i h->(∀b∈fp,∀o,h.get? b=some o->h'.get? b=some o)->tn i h'
 item:∀(X:Cx),X.prog=P->X.w=w->X.K=K->X.calm=true->∀(i:Nat) (pins:List (Addr×Obj)) (s:Shared) (σ:St) (H:Hp) (E:Value->Shared->Prop),Inv X pins σ H s->(∀b∈fp,FpOk X pins H b)->tn i s.heap->J.go i H ->
  wpAny (model P w) X.A (pyNext (.ref it)) (fun r s1=>∃u,r=some u /\
   wpAny (model P w) X.A (letOwnedTupleGo tg (.ref it) u) (fun _ s2=>∃x H',Inv X pins σ H' s2/\RelV x u/\J.yld i H x H'/\tn (i+1) s2.heap/\∀b∈fp,H' b=none) E s1) E s
 done:∀(X:Cx),X.prog=P->X.w=w->X.K=K->X.calm=true->∀(i:Nat) (pins:List (Addr×Obj)) (s:Shared) (σ:St) (H:Hp) (E:Value->Shared->Prop),Inv X pins σ H s->(∀b∈fp,FpOk X pins H b)->tn i s.heap->J.stop i H ->
  wpAny (model P w) X.A (pyNext (.ref it)) (fun r s1=>r=none/\Inv X pins σ H s1) E s
 self:∀(A:Around) (i:Nat) (s:Shared) (Q:Value->Shared->Prop) (E:Value->Shared->Prop),tn i s.heap->Q (.ref it) s->wpAny (model P w) A (pyIter (.ref it)) Q E s
abbrev TI:=St->Hp->(It->Hp->Prop)->Prop
def PIE (X:Cx) (pins:List (Addr×Obj)) (σ:St) (tg:Expr) (R:It->Hp->Prop) (itv:Value) (s2:Shared):Prop :=
 ∃(it:Addr) (fp:List Addr) (tn:Nat->Heap->Prop) (J:It) (H':Hp),itv=.ref it/\Inv X pins σ H' s2/\Turn X.prog X.w X.K tg J fp it tn/\tn 0 s2.heap/\(∀b∈fp,FpOk X pins H' b)/\R J H'
def PI (X:Cx) (tg iter:Expr) (wi:TI):Prop :=
 ∀(pins:List (Addr×Obj)) (s:Shared) (σ:St) (H:Hp) (R:It->Hp->Prop),Inv X pins σ H s->wi σ H R ->
  wpAny (model X.prog X.w) X.A (eval iter X.env) (fun v s1=>wpAny (model X.prog X.w) X.A (pyIter v) (PIE X pins σ tg R) X.xe s1) X.xe s
theorem zo7 {M:Model} {A:Around} {E:Value->Shared->Prop} {s:Shared} {tg:Expr} {it:Addr} {u:Value} {o:Obj} {n:String} {vs:Array Value} {Q:Unit->Shared->Prop} (ho:s.heap.get? it=some o) (hc:o.cls=.type n) (hd:o.data=.fields vs)
    (hn:["enumerate","zip","dict_itemiterator","dict_reverseitemiterator","odict_iterator","itertools.zip_longest","itertools.pairwise"].contains n=false) (hQ:Q () s):wpAny M A (letOwnedTupleGo tg (.ref it) u) Q E s:=by
  unfold letOwnedTupleGo
  cases tg <;> first
    | exact wpAny_pure hQ
    | (cases u <;> first
        | exact wpAny_pure hQ
        | (refine wpAny_bind (wpAny_load ho ?_)
           rw [hc,hd]
           show wpAny M A (if (["enumerate","zip","dict_itemiterator","dict_reverseitemiterator","odict_iterator","itertools.zip_longest","itertools.pairwise"].contains n && vs[0]? == some (rawInt _))=true then _ else _) Q E s
           rw [if_neg (by intro h; rw [hn,Bool.false_and] at h; cases h)]
           exact wpAny_pure hQ))
def Itl (K:PySem.W.Frag) (a:Addr):It :=
 ⟨fun i H=>∃xs x,SqL K H a xs/\xs[i]?=some x,fun i H x H'=>H'=H/\∀xs,SqL K H a xs->xs[i]?=some x,fun i H=>∃xs,SqL K H a xs/\xs.length<=i⟩
def Itr (lo:Int) (n:Nat):It:=⟨fun i _=>i<n,fun i H x H'=>H'=H/\x=.int (lo+i),fun i _=>n<=i⟩
theorem zj4 {P:Program} {w:World} {K:PySem.W.Frag} {tg:Expr} (a it:Addr):Turn P w K tg (Itl K a) [it] it (fun i h=>h.IsListIter it a i) where
 mem:=by simp
 obj:=fun i h st b hb=>by
  have e:b=it:=by simpa using hb
  subst e
  obtain ⟨o,e,c,d⟩:=st
  exact ⟨o,e,fun v z=>by rw [d] at z; cases z⟩
 keep:=fun i h h' st k=>st.at fun o e=>k it (by simp) o e
 item:=by
  intro X hP hw hK hc i pins s σ H E I hf st hg
  subst hP hw hK
  obtain ⟨xs,x,hq,hx⟩:=hg
  obtain ⟨its,rv,p,hz⟩:=I.list hq
  obtain ⟨u,hu,ru⟩:=rv.get hx
  obtain ⟨f0,f1,f2,f3,f4,f5⟩:=hf it (by simp)
  refine wpAny_pyNext_list_item st p.isList (x:=u) (by simpa using hu) fun h' st' sb=>?_
  have I1:Inv X pins σ H { s with heap:=h' }:=I.turned (t':=s.toks) (fun b o hb e=>(sb.2 b hb).trans e) f0 f1 f3 f4 f5
  obtain ⟨o,e,c,d⟩:=id st'
  exact ⟨u,rfl,zo7 (s:={ s with heap:=h' }) e c d (by decide) ⟨x,H,I1,ru,⟨rfl,fun ys hy=>by rw [I.list_inj hy hq]; exact hx⟩,st',fun b hb=>(hf b hb).1⟩⟩
 done:=by
  intro X hP hw hK hc i pins s σ H E I hf st hg
  subst hP hw hK
  obtain ⟨xs,hq,hx⟩:=hg
  obtain ⟨its,rv,p,hz⟩:=I.list hq
  obtain ⟨f0,f1,f2,f3,f4,f5⟩:=hf it (by simp)
  have hl:=rv.length
  exact wpAny_pyNext_list_end (I.ok.hd hc) st p.isList (by simp; omega) fun h' eb=>⟨rfl,I.turned (t':=s.toks) (fun b o hb e=>eb b o hb e) f0 f1 f3 f4 f5⟩
 self:=fun _ _ _ _ _ st h=>wpAny_pyIter_listiter st h
theorem zi7 {P:Program} {w:World} {K:PySem.W.Frag} {tg:Expr} (it:Addr) (lo:Int) (n:Nat):Turn P w K tg (Itr lo n) [it] it (fun i h=>IsRangeIter h it (lo+(i:Nat) * 1) ((n:Int)-(i:Nat)) 1) where
 mem:=by simp
 obj:=fun i h st b hb=>by
  have e:b=it:=by simpa using hb
  subst e
  exact ⟨_,st,fun v z=>by
   have z':Data.fields _=Data.cell v:=z
   cases z'⟩
 keep:=fun i h h' st k=>k it (by simp) _ st
 item:=by
  intro X hP hw hK hc i pins s σ H E I hf st hg
  subst hP hw hK
  obtain ⟨f0,f1,f2,f3,f4,f5⟩:=hf it (by simp)
  have W:=Walks.range (prog:=X.prog) (w:=X.w) (I.ok.hd hc) it lo 1 n
  refine W.item i s _ _ hg st fun v h' tk hv st' kk=>?_
  obtain ⟨t,rfl⟩:=hv
  have I1:Inv X pins σ H { s with heap:=h',toks:=tk }:=I.turned (fun b o hb e=>kk b o (by simpa using hb) e) f0 f1 f3 f4 f5
  refine ⟨_,rfl,zo7 (s:={ s with heap:=h',toks:=tk }) (n:="range_iterator") st' rfl rfl (by decide) ⟨.int (lo+i),H,I1,⟨t,?_⟩,⟨rfl,rfl⟩,st',fun b hb=>(hf b hb).1⟩⟩
  rw [Int.mul_one]
 done:=by
  intro X hP hw hK hc i pins s σ H E I hf st hg
  subst hP hw hK
  obtain ⟨f0,f1,f2,f3,f4,f5⟩:=hf it (by simp)
  exact wpAny_pyNext_range_end (I.ok.hd hc) st (by have:n<=i:=hg; omega) fun h' eb=>⟨rfl,I.turned (t':=s.toks) (fun b o hb e=>eb b o hb e) f0 f1 f3 f4 f5⟩
 self:=fun _ _ _ _ _ st h=>wpAny_pyIter_rangeiter st h
end L2
namespace L2
open PySem PySem.Spec PyProof.Rows
section
variable {X:Cx} {tg:Expr}
def iList (K:PySem.W.Frag) (tl:TE):TI:=fun σ H R=>tl σ H fun x H1=>∃a,x=.ref a/\(∃xs,SqL K H1 a xs)/\R (Itl K a) H1
theorem zj5 {l:Expr} {tl:TE} (hl:PE X l tl):PI X tg l (iList X.K tl):=by
 intro pins s σ H R I h
 refine thn (hl pins s σ H _ I h) fun v s1 ⟨x,H1,I1,r1,q1⟩=>?_
 obtain ⟨a,e,⟨xs,hq⟩,q⟩:=q1
 subst e
 cases r1
 obtain ⟨its,rv,p,hz⟩:=I1.list hq
 refine wpAny_pyIter_list p.isList ?_
 refine ⟨s1.heap.objs.size,[s1.heap.objs.size],_,_,H1,rfl,I1.kept (t':=s1.toks) fun b o e=>Heap.get?_push_of_some _ e,zj4 a _,⟨_,Heap.get?_push_size _ rfl,rfl,rfl⟩,fun b hb=>?_,q⟩
 have e:b=s1.heap.objs.size:=by simpa using hb
 subst e
 exact I1.fpOk (Nat.le_refl _) (I1.hok.fresh (Nat.le_refl _))
theorem zmk {pins:List (Addr×Obj)} {σ:St} {H:Hp} {s:Shared} {R:It->Hp->Prop} {E:Value->Shared->Prop} {lo hi:Int} {t u v:Tok} {tk:Nat} (I:Inv X pins σ H s) (h1:-(2 ^ 62)<=lo) (h2:lo<2 ^ 62) (h3:-(2 ^ 62)<=hi) (h4:hi<2 ^ 62)
    (q:R (Itr lo (hi-lo).toNat) H):wpAny (model X.prog X.w) X.A (pyIter (.ref s.heap.objs.size)) (PIE X pins σ tg R) E { s with heap:=s.heap.push { cls:=.type "range",data:=.fields #[.int lo t,.int hi u,.int 1 v] },toks:=tk }:=by
  refine wpAny_pyIter_range (IsRange.new ..) (small_one h1 h2 h3 h4) ?_
  have I1:Inv X pins σ H { s with heap:=s.heap.push { cls:=.type "range",data:=.fields #[.int lo t,.int hi u,.int 1 v] },toks:=tk }:=I.kept fun b o e=>Heap.get?_push_of_some _ e
  refine ⟨(s.heap.push { cls:=.type "range",data:=.fields #[.int lo t,.int hi u,.int 1 v] }).objs.size,[(s.heap.push { cls:=.type "range",data:=.fields #[.int lo t,.int hi u,.int 1 v] }).objs.size],_,_,H,rfl,
    I1.kept (t':=tk) fun b o e=>Heap.get?_push_of_some _ e,zi7 _ lo (hi-lo).toNat,?_,fun b hb=>?_,q⟩
  · have e1:lo+((0:Nat):Int) * 1=lo:=by simp
    have e2:(((hi-lo).toNat:Nat):Int)-((0:Nat):Int)=Builtin.Range.rangeSize lo hi 1:=by rw [rangeSize_one]; split <;> omega
    show IsRangeIter _ _ (lo+((0:Nat):Int) * 1) ((((hi-lo).toNat:Nat):Int)-((0:Nat):Int)) 1
    rw [e1,e2]
    exact Heap.get?_push_size _ rfl
  · have e:b=(s.heap.push { cls:=.type "range",data:=.fields #[.int lo t,.int hi u,.int 1 v] }).objs.size:=by simpa using hb
    subst e
    exact I1.fpOk (Nat.le_refl _) (I1.hok.fresh (Nat.le_refl _))
def iRng1 (ta:TA):TI:=fun σ H R=>ta σ H fun vs H1=>∃j:Int,vs=[.int j]/\-(2 ^ 62)<=j/\j<2 ^ 62/\R (Itr 0 j.toNat) H1
theorem zj6 {a:Expr} {ta:TA} {p pos:Pos} (hg:Gl X "range") (hm:X.mg "range"=none) (ha:PA X [a] ta) (hs:starEach [a] X.env=[(false,eval a X.env)]:=by rfl):PI X tg (.Call (.Name "range" p) [a] [] pos) (iRng1 ta):=by
 intro pins s σ H R I h
 refine Call_ (zc6 I hg hm boot_range (PyProof.Rows.callWith_type1 (thn (ha pos pins s σ H _ I h) fun us s1 ⟨vs,H1,I1,r1,q1⟩=>?_) hs rfl))
 obtain ⟨j,e,q1,q2,q⟩:=q1
 subst e
 cases r1 with
 | cons r rr =>
  cases rr
  obtain ⟨t,rfl⟩:=r
  exact call_range_1 (zmk I1 (by omega) (by omega) q1 q2 (by simpa using q))
def tFor (wi:TI) (g:TG) (tb:TS):TS:=fun D σ H=>wi σ H fun J H1=>∃W:Nat->Nat->St->Hp->Prop,(∃m,W 0 m σ H1)/\∀i m σ H,W i m σ H ->
 (J.stop i H/\D.nx σ H)\/(J.go i H/\∃N:St->Hp->Prop,(∀σ' H',N σ' H'->∃m',m'<m/\W (i+1) m' σ' H')/\∀x H',J.yld i H x H'->g x σ H' fun σ2 H2=>tb { D with nx:=N,ct:=N,bk:=D.nx } σ2 H2)
def pinsAt (fp:List Addr) (h:Heap):List (Addr×Obj):=fp.filterMap fun b=>(h.get? b).map fun o=>(b,o)
theorem jv {fp:List Addr} {h:Heap} {b:Addr} {o:Obj} (hb:b∈fp) (e:h.get? b=some o):(b,o)∈pinsAt fp h:=List.mem_filterMap.mpr ⟨b,hb,by rw [e]; rfl⟩
theorem zj7 {fp:List Addr} {h:Heap} {p:Addr×Obj} (hp:p∈pinsAt fp h):p.1∈fp/\h.get? p.1=some p.2:=by
 obtain ⟨b,hb,e⟩:=List.mem_filterMap.mp hp
 cases q:h.get? b with
 | none=>rw [q] at e; cases e
 | some o =>
  rw [q] at e
  have e':(b,o)=p:=Option.some.inj e
  subst e'
  exact ⟨hb,q⟩
theorem Inv.pinned {pins:List (Addr×Obj)} {σ:St} {H:Hp} {s:Shared} {fp:List Addr} (I:Inv X pins σ H s) (hf:∀b∈fp,FpOk X pins H b) (ho:∀b∈fp,∃o,s.heap.get? b=some o/\∀v,o.data≠.cell v):Inv X (pins++pinsAt fp s.heap) σ H s :=
 I.pins_of fun p hp=>(List.mem_append.mp hp).elim (fun z=>I.pin p (List.mem_append_right _ z)) fun z=>by
  obtain ⟨hb,e⟩:=zj7 z
  obtain ⟨f0,f1,f2,_⟩:=hf p.1 hb
  obtain ⟨o,e',d⟩:=ho p.1 hb
  rw [e] at e'; cases e'
  exact ⟨e,f0,f1,f2,d⟩
theorem Inv.unpinned {pins pl:List (Addr×Obj)} {σ:St} {H:Hp} {s:Shared} (I:Inv X (pins++pl) σ H s):Inv X pins σ H s:=I.pins_of fun p hp=>I.pin p (List.mem_append_right _ (List.mem_append_left _ hp))
theorem zrt {iter:Expr} {body:List Stmt} {wi:TI} {g:TG} {tb:TS} {pos:Pos} (hp:PassesOwn (model X.prog X.w) X.A X.env X.xe) (hc:X.calm=true) (hi:PI X tg iter wi) (hg:PG X tg g) (hb:PSs X body tb)
  (hs:∀x,foldedSetIterable iter X.env x=pure x:=by intro _; rfl):PS X (.For tg iter body [] pos) (tFor wi g tb):=by
 intro pins s σ H D I h
 refine wpAny_For (thn (hi pins s σ H _ I h) fun v s1 h1=>thn h1 fun itv s2 h2=>?_) hs
 obtain ⟨it,fp,tn,J,H2,e,I2,T,st2,f2,W,⟨m0,w0⟩,turn⟩:=h2
 subst e
 have stat:∀{H':Hp},(∀b∈fp,H' b=none)->∀b∈fp,FpOk X pins H' b:=fun hn b hb=>⟨hn b hb,(f2 b hb).2⟩
 refine codeAny_forLoop_any (fun n s'=>∃i σ' H',Inv X pins σ' H' s'/\tn i s'.heap/\(∀b∈fp,H' b=none)/\W i n σ' H') ?_ m0 ⟨0,σ,H2,I2,st2,fun b hb=>(f2 b hb).1,w0⟩
 rintro n s3 ⟨i,σ3,H3,I3,st3,fr3,w3⟩
 rcases turn i n σ3 H3 w3 with ⟨stop,qn⟩ | ⟨go,N,hN,step⟩
 ·refine wpAny_passesOwn hp (thn (T.done X rfl rfl rfl hc i pins s3 σ3 H3 X.xe I3 (stat fr3) st3 stop) fun r s4 ⟨hr,I4⟩=>?_)
  subst hr
  exact wpAny_execs_nil ⟨σ3,H3,I4,qn⟩
 ·refine wpAny_passesOwn hp (thn (T.item X rfl rfl rfl hc i pins s3 σ3 H3 X.xe I3 (stat fr3) st3 go) fun r s4 ⟨u,hr,h4⟩=>?_)
  subst hr
  refine wpAny_passesOwn hp (thn h4 fun _ s5 ⟨x,H5,I5,r5,y5,st5,fr5⟩=>?_)
  have I5':=I5.pinned (stat fr5) (T.obj _ _ st5)
  refine wpAny_passesOwn hp (thn (hg _ s5 σ3 H5 x u _ I5' r5 (step x H5 y5)) fun _ s6 ⟨σ6,H6,I6,q6⟩=>?_)
  refine wpAny_passesOwn hp (thn (hb _ s6 σ6 H6 _ I6 q6) fun f s7 q7=>?_)
  have again:∀{σ7:St} {H7:Hp},Inv X (pins++pinsAt fp s5.heap) σ7 H7 s7->N σ7 H7->∃m,m<n/\∃i σ' H',Inv X pins σ' H' s7/\tn i s7.heap/\(∀b∈fp,H' b=none)/\W i m σ' H':=fun {σ7 H7} I7 n7=>by
   obtain ⟨m',hm,w7⟩:=hN σ7 H7 n7
   refine ⟨m',hm,i+1,σ7,H7,I7.unpinned,T.keep _ _ _ st5 fun b hb o e=>(I7.pin (b,o) (List.mem_append_right _ (List.mem_append_right _ (jv hb e)))).1,fun b hb=>?_,w7⟩
   obtain ⟨o,e,d⟩:=T.obj _ _ st5 b hb
   exact (I7.pin (b,o) (List.mem_append_right _ (List.mem_append_right _ (jv hb e)))).2.1
  cases f with
  | next=>obtain ⟨σ7,H7,I7,n7⟩:=q7; exact again I7 n7
  | cont=>obtain ⟨σ7,H7,I7,n7⟩:=q7; exact again I7 n7
  | brk=>obtain ⟨σ7,H7,I7,q7⟩:=q7; exact ⟨σ7,H7,I7.unpinned,q7⟩
  | ret v=>obtain ⟨x7,σ7,H7,I7,r7,q7⟩:=q7; exact ⟨x7,σ7,H7,I7.unpinned,r7,q7⟩
end
end L2
namespace L2
open PySem PySem.Spec PyProof.Rows
abbrev R2:=V->V->Hp->VK->Prop
def OpR (X:Cx) (f:Value->Value->Sem Value) (r:R2):Prop :=
 ∀(pins:List (Addr×Obj)) (s:Shared) (σ:St) (H:Hp) (x y:V) (v u:Value) (Q:VK),Inv X pins σ H s->RelV x v->RelV y u->r x y H Q ->
  wpAny (model X.prog X.w) X.A (f v u) (EP X pins σ Q) X.xe s
def UnR (X:Cx) (f:Value->Sem Value) (r:V->Hp->VK->Prop):Prop :=
 ∀(pins:List (Addr×Obj)) (s:Shared) (σ:St) (H:Hp) (x:V) (v:Value) (Q:VK),Inv X pins σ H s->RelV x v->r x H Q ->
  wpAny (model X.prog X.w) X.A (f v) (EP X pins σ Q) X.xe s
def CallR (X:Cx) (f:Value) (r:List V->Hp->VK->Prop):Prop :=
 ∀(pins:List (Addr×Obj)) (s:Shared) (σ:St) (H:Hp) (xs:List V) (us:List Value) (Q:VK),Inv X pins σ H s->Vals xs us->r xs H Q ->
  wpAny (model X.prog X.w) X.A (call f us) (EP X pins σ Q) X.xe s
def tOp (r:R2) (ta tb:TE):TE:=fun σ H Q=>ta σ H fun x H1=>tb σ H1 fun y H2=>r x y H2 Q
def tUn (r:V->Hp->VK->Prop) (ta:TE):TE:=fun σ H Q=>ta σ H fun x H1=>r x H1 Q
def rI (C:Int->Int->Prop) (g:Int->Int->V):R2:=fun x y H Q=>∃i j,x=.int i/\y=.int j/\C i j/\Q (g i j) H
def rI0 (g:Int->Int->V):R2:=fun x y H Q=>∃i j,x=.int i/\y=.int j/\Q (g i j) H
def rU (g:Int->V):V->Hp->VK->Prop:=fun x H Q=>∃i,x=.int i/\Q (g i) H
section
variable {X:Cx} {a b c:Expr} {ta tb tc:TE} {pos:Pos}
theorem binT (ha:PE X a ta) (hb:PE X b tb) {pins:List (Addr×Obj)} {s:Shared} {σ:St} {H:Hp} {R:V->V->Hp->Prop} (I:Inv X pins σ H s)
  (h:ta σ H fun x H1=>tb σ H1 fun y H2=>R x y H2) {Q:Value->Shared->Prop} {f:Value->Value->Sem Value}
  (hf:∀v u s2 x y H2,Inv X pins σ H2 s2->RelV x v->RelV y u->R x y H2->wpAny (model X.prog X.w) X.A (f v u) Q X.xe s2) :
  wpAny (model X.prog X.w) X.A (eval a X.env) (fun v s₁=>wpAny (model X.prog X.w) X.A (eval b X.env) (fun u s₂=>wpAny (model X.prog X.w) X.A (f v u) Q X.xe s₂) X.xe s₁) X.xe s:=by
 refine thn (ha pins s σ H _ I h) fun v s1 ⟨x,H1,I1,r1,q1⟩=>?_
 refine thn (hb pins s1 σ H1 _ I1 q1) fun u s2 ⟨y,H2,I2,r2,q2⟩=>?_
 exact hf v u s2 x y H2 I2 r1 r2 q2
theorem zo8 {op:Operator} {r:R2} (ho:OpR X (binaryOp op) r) (ha:PE X a ta) (hb:PE X b tb):PE X (.BinOp a op b pos) (tOp r ta tb):=by
 intro pins s σ H Q I h
 exact wpAny_BinOp (binT ha hb I h fun v u s2 x y H2 I2 rx ry q=>ho pins s2 σ H2 x y v u Q I2 rx ry q)
theorem ztf {op:UnaryOp} {r:V->Hp->VK->Prop} (ho:UnR X (unaryOp op) r) (ha:PE X a ta):PE X (.UnaryOp op a pos) (tUn r ta):=by
 intro pins s σ H Q I h
 exact UnaryOp_ (thn (ha pins s σ H _ I h) fun v s1 ⟨x,H1,I1,r1,q1⟩=>ho pins s1 σ H1 x v Q I1 r1 q1)
theorem opI {f:Value->Value->Sem Value} {C:Int->Int->Prop} {g:Int->Int->Int}
  (rule:∀(i j:Int) (t u:Tok) (s:Shared) (Q:Value->Shared->Prop) (E:Value->Shared->Prop),C i j->Q (.int (g i j) s.toks) { s with toks:=s.toks+1 }->wpAny (model X.prog X.w) X.A (f (.int i t) (.int j u)) Q E s) :
  OpR X f (rI C fun i j=>.int (g i j)):=by
 intro pins s σ H x y v u Q I rx ry h
 obtain ⟨i,j,rfl,rfl,hc,q⟩:=h
 obtain ⟨t,rfl⟩:=rx
 obtain ⟨t',rfl⟩:=ry
 exact rule i j t t' s _ _ hc ⟨.int (g i j),H,I.tok _,⟨_,rfl⟩,q⟩
theorem opI0 {f:Value->Value->Sem Value} {g:Int->Int->Int}
  (rule:∀(i j:Int) (t u:Tok) (s:Shared) (Q:Value->Shared->Prop) (E:Value->Shared->Prop),Q (.int (g i j) s.toks) { s with toks:=s.toks+1 }->wpAny (model X.prog X.w) X.A (f (.int i t) (.int j u)) Q E s) :
  OpR X f (rI0 fun i j=>.int (g i j)):=by
 intro pins s σ H x y v u Q I rx ry h
 obtain ⟨i,j,rfl,rfl,q⟩:=h
 obtain ⟨t,rfl⟩:=rx
 obtain ⟨t',rfl⟩:=ry
 exact rule i j t t' s _ _ ⟨.int (g i j),H,I.tok _,⟨_,rfl⟩,q⟩
theorem opB0 {f:Value->Value->Sem Value} {g:Int->Int->Bool}
  (rule:∀(i j:Int) (t u:Tok) (s:Shared) (Q:Value->Shared->Prop) (E:Value->Shared->Prop),Q (.bool (g i j)) s->wpAny (model X.prog X.w) X.A (f (.int i t) (.int j u)) Q E s) :
  OpR X f (rI0 fun i j=>.bl (g i j)):=by
 intro pins s σ H x y v u Q I rx ry h
 obtain ⟨i,j,rfl,rfl,q⟩:=h
 obtain ⟨t,rfl⟩:=rx
 obtain ⟨t',rfl⟩:=ry
 exact rule i j t t' s _ _ ⟨.bl (g i j),H,I,rfl,q⟩
def CPow (i j:Int):Prop:=0<=j/\j<=1000000/\i.natAbs<2 ^ 64
def CMul (i j:Int):Prop:=(-(2 ^ 64)<i/\i<2 ^ 64)\/(-(2 ^ 64)<j/\j<2 ^ 64)
theorem CMul.ok {i j:Int} (h:CMul i j):IntMulOk i j:=by
 rcases h with ⟨h1,h2⟩ | ⟨h1,h2⟩
 ·exact .of_left (intBits_le_64 h1 h2)
 ·exact .of_right (intBits_le_64 h1 h2)
theorem zi8 (k:Nat):(0:Int)<=2 ^ k:=by
 rw [two_pow_cast]
 exact Int.natCast_nonneg _
theorem zru:OpR X (binaryOp .Add) (rI0 fun i j=>.int (i+j)):=opI0 fun _ _ _ _ _ _ _ q=>add_int q
theorem zc7:OpR X (binaryOp .Sub) (rI0 fun i j=>.int (i-j)):=opI0 fun _ _ _ _ _ _ _ q=>sub_int q
theorem xj:OpR X (binaryOp .Mod) (rI (fun _ j=>j≠0) fun i j=>.int (i.fmod j)):=opI fun _ _ _ _ _ _ _ hc q=>mod_int' hc q
theorem zog:OpR X (binaryOp .Pow) (rI CPow fun i j=>.int (i ^ j.toNat)):=opI fun _ _ _ _ _ _ _ hc q=>pow_int_small hc.1 hc.2.1 hc.2.2 q
theorem zrv:OpR X (binaryOp .LShift) (rI CPow fun i j=>.int (i * 2 ^ j.toNat)):=opI fun _ _ _ _ _ _ _ hc q=>lshift_int_small hc.1 hc.2.1 hc.2.2 q
theorem zoh:OpR X (binaryOp .RShift) (rI (fun _ j=>0<=j) fun i j=>.int (i / 2 ^ j.toNat)):=opI fun i j _ _ _ _ _ hc q =>
 rshift_int hc (by rw [Int.fdiv_eq_ediv_of_nonneg i (zi8 _)]; exact q)
theorem unI {f:Value->Sem Value} {g:Int->Int}
  (rule:∀(i:Int) (t:Tok) (s:Shared) (Q:Value->Shared->Prop) (E:Value->Shared->Prop),Q (.int (g i) s.toks) { s with toks:=s.toks+1 }->wpAny (model X.prog X.w) X.A (f (.int i t)) Q E s) :
  UnR X f (rU fun i=>.int (g i)):=by
 intro pins s σ H x v Q I rx h
 obtain ⟨i,rfl,q⟩:=h
 obtain ⟨t,rfl⟩:=rx
 exact rule i t s _ _ ⟨.int (g i),H,I.tok _,⟨_,rfl⟩,q⟩
theorem zrw:UnR X (unaryOp .USub) (rU fun i=>.int (-i)):=unI fun _ _ _ _ _ q=>neg_int q
end
section
variable {X:Cx} {a b c:Expr} {ta tb tc:TE} {pos:Pos}
theorem zoi {pins:List (Addr×Obj)} {σ:St} {H:Hp} {s:Shared} {Q:VK} {k k':Bool} (I:Inv X pins σ H s) (q:Q (.bl k) H) (e:k=k'):EP X pins σ Q (.bool k') s:=by
 subst e
 exact ⟨.bl k,H,I,rfl,q⟩
theorem zc8:OpR X (compareOp .Lt) (rI0 fun i j=>.bl (decide (i<j))):=opB0 fun _ _ _ _ _ _ _ q=>lt_int q
theorem ztg:OpR X (compareOp .LtE) (rI0 fun i j=>.bl (decide (i<=j))):=opB0 fun _ _ _ _ _ _ _ q=>le_int q
theorem zi9:OpR X (compareOp .Gt) (rI0 fun i j=>.bl (decide (j<i))):=opB0 fun _ _ _ _ _ _ _ q=>gt_int q
theorem zo9:OpR X (compareOp .GtE) (rI0 fun i j=>.bl (decide (j<=i))):=opB0 fun _ _ _ _ _ _ _ q=>ge_int q
theorem zpa:OpR X (compareOp .IsNot) (fun x y H Q=>y=.non/\Q (.bl (!decide (x=.non))) H):=by
 intro pins s σ H x y v u Q I rx ry h
 obtain ⟨rfl,q⟩:=h
 cases ry
 refine isnot_none_gen (zoi I q ?_)
 cases x <;> first
  | (cases rx; rfl)
  | (obtain ⟨t,rfl⟩:=rx; rfl)
theorem OpR.or {f:Value->Value->Sem Value} {r r':R2} (h:OpR X f r) (h':OpR X f r'):OpR X f (fun x y H Q=>r x y H Q\/r' x y H Q):=by
 intro pins s σ H x y v u Q I rx ry q
 rcases q with q | q
 ·exact h pins s σ H x y v u Q I rx ry q
 ·exact h' pins s σ H x y v u Q I rx ry q
theorem nomark (b:Expr) {op:CmpOp} (h:op≠.In:=by decide) (h2:op≠.NotIn:=by decide):behindInMarks op b=false:=by
 have e1:(op == CmpOp.In)=false:=by cases op <;> first | rfl | exact absurd rfl h
 have e2:(op == CmpOp.NotIn)=false:=by cases op <;> first | rfl | exact absurd rfl h2
 cases b <;> simp [behindInMarks,e1,e2]
theorem zpb {op:CmpOp} {r:R2} (ho:OpR X (compareOp op) r) (ha:PE X a ta) (hb:PE X b tb) (hm:behindInMarks op b=false):PE X (.Compare a [op] [b] pos) (tOp r ta tb):=by
 intro pins s σ H Q I h
 exact wpAny_Compare1 (binT ha hb I h fun v u s2 x y H2 I2 rx ry q=>ho pins s2 σ H2 x y v u Q I2 rx ry q) hm
def tTest (t:TE):TT:=fun σ H Q=>t σ H fun x H'=>∃k,x=.bl k/\Q k H'
theorem zpc {op:CmpOp} {r:R2} (ho:OpR X (compareOp op) r) (ha:PE X a ta) (hb:PE X b tb) (hm:behindInMarks op b=false):PT X (.Compare a [op] [b] pos) (tTest (tOp r ta tb)):=by
 intro pins s σ H Q I h
 refine wpAny_isTrue_Compare1 (thn (ha pins s σ H _ I h) fun v s1 ⟨x,H1,I1,r1,q1⟩=>thn (hb pins s1 σ H1 _ I1 q1) fun u s2 ⟨y,H2,I2,r2,q2⟩ =>
  thn (ho pins s2 σ H2 x y v u _ I2 r1 r2 q2) fun c s3 ⟨z,H3,I3,r3,k,e,q3⟩=>?_) hm
 subst e
 cases r3
 exact wpAny_truthy_bool ⟨H3,I3,q3⟩
def tChain (r r':R2) (ta tb tc:TE):TE:=fun σ H Q=>ta σ H fun x H1=>tb σ H1 fun y H2=>r x y H2 fun z H3=>∃k,z=.bl k /\
 (if k=true then tc σ H3 fun w' H4=>r' y w' H4 Q else Q (.bl false) H3)
theorem zml {op op':CmpOp} {r r':R2} (ho:OpR X (compareOp op) r) (ho':OpR X (compareOp op') r') (ha:PE X a ta) (hb:PE X b tb) (hc:PE X c tc)
  (hm:lastMarks [op,op'] [b,c]=false:=by with_unfolding_all rfl):PT X (.Compare a [op,op'] [b,c] pos) (tTest (tChain r r' ta tb tc)):=by
 intro pins s σ H Q I h
 refine isTrue_chain (thn (ha pins s σ H _ I h) fun v s1 ⟨x,H1,I1,r1,q1⟩=>test_link (thn (hb pins s1 σ H1 _ I1 q1) fun u s2 ⟨y,H2,I2,r2,q2⟩ =>
  thn (ho pins s2 σ H2 x y v u _ I2 r1 r2 q2) fun d s3 ⟨z,H3,I3,r3,k,e,q3⟩=>?_)) hm
 subst e
 cases r3
 refine wpAny_truthy_bool ?_
 cases k with
 | false =>
  obtain ⟨k',e',q'⟩:=q3
  cases e'
  exact ite_ff ⟨H3,I3,q'⟩
 | true =>
  refine ite_tt (test_last (thn (hc pins s3 σ H3 _ I3 q3) fun w' s4 ⟨z',H4,I4,r4,q4⟩=>thn (ho' pins s4 σ H4 y z' u w' _ I4 r2 r4 q4) fun d' s5 ⟨z2,H5,I5,r5,k2,e2,q5⟩=>?_))
  subst e2
  cases r5
  exact wpAny_truthy_bool ⟨H5,I5,q5⟩
theorem line63:(sizeLine:Nat)<2 ^ 63:=by rw [sizeLine_eq]; decide
theorem zja:OpR X (binaryOp .Add) (fun x y H Q=>∃i j,x=.str i/\y=.str j/\i.length+j.length<=sizeLine/\Q (.str (i++j)) H):=by
 intro pins s σ H x y v u Q I rx ry h
 obtain ⟨i,j,rfl,rfl,hz,q⟩:=h
 obtain ⟨t,rfl⟩:=rx
 obtain ⟨t',rfl⟩:=ry
 exact add_str (fun t' tk=>⟨.str (i++j),H,I.tok _,⟨_,rfl⟩,q⟩) hz
theorem vals1 {x:V} {us:List Value} (r:Vals [x] us):∃u,us=[u]/\RelV x u:=by
 cases r with
 | cons r1 r2=>cases r2; exact ⟨_,rfl,r1⟩
theorem vals2 {x y:V} {us:List Value} (r:Vals [x,y] us):∃u w',us=[u,w']/\RelV x u/\RelV y w':=by
 cases r with
 | cons r1 r2 =>
  cases r2 with
  | cons r3 r4=>cases r4; exact ⟨_,_,rfl,r1,r3⟩
theorem zex:CallR X (.builtin "abs") (fun xs H Q=>∃i,xs=[.int i]/\Q (.int (if i<0 then -i else i)) H):=by
 intro pins s σ H xs us Q I r h
 obtain ⟨i,rfl,q⟩:=h
 obtain ⟨u,rfl,t,rfl⟩:=vals1 r
 exact call_abs_int fun u tk=>⟨.int (if i<0 then -i else i),H,I.tok _,⟨_,rfl⟩,q⟩
theorem zj8 (hc:X.calm=true):CallR X (.builtin "max") (fun xs H Q=>∃i j,xs=[.int i,.int j]/\Q (.int (if j > i then j else i)) H):=by
 intro pins s σ H xs us Q I r h
 obtain ⟨i,j,rfl,q⟩:=h
 obtain ⟨u,w',rfl,⟨t,rfl⟩,⟨t',rfl⟩⟩:=vals2 r
 refine max_two_ints (I.ok.hd hc) fun h' tk k=>⟨_,H,I.kept k,?_,q⟩
 by_cases hj:j > i
 ·rw [if_pos hj,if_pos hj]; exact ⟨_,rfl⟩
 ·rw [if_neg hj,if_neg hj]; exact ⟨_,rfl⟩
theorem zft:CallR X (.type "str") (fun xs H Q=>∃i,xs=[.int i]/\i.natAbs.log2<1920/\Q (.str (toString i)) H):=by
 intro pins s σ H xs us Q I r h
 obtain ⟨i,rfl,hz,q⟩:=h
 obtain ⟨u,rfl,t,rfl⟩:=vals1 r
 exact PySem.P.str_of_int hz ⟨.str _,H,I.tok _,⟨_,rfl⟩,q⟩
end
end L2
namespace L2
open PySem PySem.Spec PyProof.Rows
structure ObjM (h:Heap) (x dx C:Addr) (mA:Str->Option Value):Prop where
 obj:h.get? x=some (PySem.W.instObj C dx)
 ns:h.Ns1 dx mA
 ne:dx≠x
theorem zj9 {h:Heap} {dx:Addr} {mA:Str->Option Value} (n:h.Ns1 dx mA):∃od,h.get? dx=some od/\∀name,PySem.W.lookIn name od=some (mA name):=by
 obtain ⟨o,es,ep,ho,hd,hk,_,hm⟩:=n
 refine ⟨o,ho,fun name=>?_⟩
 have e:=hm name
 unfold nsFind findBy at e
 rw [← Array.find?_toList] at e
 unfold PySem.W.lookIn
 rw [hd]
 dsimp only
 split
 ·rename_i y q
  rw [q] at e
  exact congrArg some e
 ·rename_i q
  rw [q] at e
  have a:es.toList.any (·.refKey)=false:=by
   rw [List.any_eq_false]
   intro y hy
   obtain ⟨z,t,hkey⟩:=hk y (Array.mem_toList_iff.mp hy)
   simp [DictEntry.refKey,hkey]
  have a':¬es.toList.any (·.refKey)=true:=by rw [a]; exact Bool.false_ne_true
  rw [if_neg a']
  exact congrArg some e
theorem ObjM.look {h:Heap} {x dx C:Addr} {mA:Str->Option Value} (I:ObjM h x dx C mA):∃od,PySem.W.InstAt h x (PySem.W.instObj C dx) C (some od)/\∀name,PySem.W.lookIn name od=some (mA name) :=
 let ⟨od,ho,hl⟩:=zj9 I.ns
 ⟨od,⟨I.obj,rfl,rfl,ho⟩,hl⟩
section
variable {prog:Program} {w:World} {A:Around} {E:Value->Shared->Prop} {s:Shared} {K:PySem.W.Frag} {x dx C f:Addr} {mA:Str->Option Value} {name:Str} {v:Value}
theorem zpd {expr:Bool} {Q:Value->Shared->Prop} (X:K.In s.heap) (I:ObjM s.heap x dx C mA) (hg:PySem.W.plainGet K C name=true) (hh:PySem.W.hasDictIn K C=true)
  (ha:PySem.W.findIn K (.ref C) name=some none) (hv:mA name=some v) (hv':PySem.W.handedIn v=true) (h:Q v { s with toks:=s.toks+1 }) :
  wpAny (model prog w) A (getAttr (.ref x) name expr) Q E s:=by
 obtain ⟨od,J,hl⟩:=I.look
 exact PySem.W.get_value X J (PySem.W.plainGet_of hg).1 (PySem.W.findObj_own hh ha rfl (by rw [hl,hv])) hv' h
theorem zmm {pl:Sem Bool} {Q:Value×List Value->Shared->Prop} (X:K.In s.heap) (I:ObjM s.heap x dx C mA) (hg:PySem.W.plainGet K C name=true)
  (hf:PySem.W.findIn K (.ref C) name=some (some (.ref f))) (ht:PySem.W.isFn K (.ref f)=true) (hv:mA name=none) (h:Q (.ref f,[.ref x]) s) :
  wpAny (model prog w) A (getMethod (.ref x) name pl) Q E s:=by
 obtain ⟨od,J,hl⟩:=I.look
 exact PySem.W.method_fn X J (PySem.W.plainGet_of hg).1 (PySem.W.plainGet_of hg).2 hf (beq_iff_eq.mp ht) (by show (PySem.W.lookIn name od).map (·.isSome)=some false; rw [hl,hv]; rfl) h
theorem zpe {ns:List Str} {Q:Unit->Shared->Prop} (X:K.In s.heap) (I:ObjM s.heap x dx C mA)
  (hs:PySem.W.findIn K (.ref C) "__setattr__"=some (some (.builtin "object.__setattr__"))) (hp:PySem.W.plainOver K C=true) (ht:PySem.W.takerIn K C name=some none) (hh:PySem.W.hasDictIn K C=true)
  (hw:PySem.Within mA ns) (hsz:ns.length<=sizeLine)
  (h:∀h',ObjM h' x dx C (fun y=>if y=name then some v else mA y)->Heap.SameBut dx s.heap h'->Q () { s with heap:=h',toks:=s.toks+2 }) :
  wpAny (model prog w) A (setAttr (.ref x) name v) Q E s:=by
 obtain ⟨od,J,hl⟩:=I.look
 refine PySem.W.set_plain X J hs (PySem.W.osa_open (s:={ s with toks:=s.toks+1 }) (r:=none) X J hp ht fun b=>?_)
 obtain ⟨cd,hc,hd'⟩:=PySem.W.any_some hh
 have hx:s.heap.get? x=some ⟨.ref C,some dx,.plain,#[]⟩:=I.obj
 refine wpAny_bind (wpAny_pure (wpAny_bind (wpAny_bind (wpAny_loadPart hx (wpAny_bind (PySem.W.Looks.here (s:={ s with toks:=s.toks+1 }) (PySem.W.looks_clsIn X hc) ?_))))))
 rw [hd']
 refine wpAny_pure (a:=some dx) (wpAny_bind (wpAny_pure (wpAny_bind ?_)))
 refine wpAny_nsSet1 (s:={ s with toks:=s.toks+1 }) I.ns fun h' hn2 hs2=>?_
 obtain ⟨oD,esD,epD,hoD,hdD,hcD⟩:=hn2.count (PySem.Within.cons name v hw)
 refine wpAny_bind (wpAny_lookBehind hoD (by rw [hdD]; exact pastItsLine_dict (Nat.le_trans hcD (by rw [List.length_cons]; omega))) ?_)
 exact wpAny_pure (h _ ⟨(hs2.2 _ (Ne.symm I.ne)).trans I.obj,hn2,I.ne⟩ hs2)
theorem zmn {R:Result->Shared->Prop} {vs:List Value} {kw:List (Str×Value)} (X:K.In s.heap) (hm:PySem.W.makesIn K C=true)
  (hi:PySem.W.findIn K (.ref C) "__init__"=some (some (.ref f))) (hf:PySem.W.typeIn K (.ref f)=some (.type "function"))
  (h:codeAny (model prog w) (A.under (.builtin "type.__call__" ⟨.ref C::vs,kw⟩)) (.call (.ref f) ⟨.ref (s.heap.objs.size+1)::vs,kw⟩) (PySem.W.InitBack (s.heap.objs.size+1) R)
   { s with heap:=(s.heap.push PySem.W.emptyDict).push (PySem.W.instObj C s.heap.objs.size) }) :
  codeAny (model prog w) A (.call (.ref C) ⟨vs,kw⟩) R s:=by
 obtain ⟨hh,g,d,t,os⟩:=s
 exact PySem.W.make_core (PySem.W.makes_of X hm) (PySem.W.looks_findIn X hi) (fun self=>PySem.W.bind_fn X self hf) (.inl rfl) h
end
def putF (f:Str) (v:V):List (Str×V)->List (Str×V)
 | []=>[(f,v)]
 | (g,x)::r=>if g=f then (g,v)::r else (g,x)::putF f v r
theorem zc9 (f g:Str) (v:V):∀fs:List (Str×V),(putF f v fs).lookup g=if g=f then some v else fs.lookup g
 | []=>by
  show List.lookup g [(f,v)]=_
  by_cases h:g=f
  ·have hb:(g == f)=true:=beq_iff_eq.mpr h
   simp only [List.lookup,hb,if_pos h]
  ·have hb:(g == f)=false:=beq_eq_false_iff_ne.mpr h
   simp only [List.lookup,hb,if_neg h]
 | (k,x)::r=>by
  have ih:=zc9 f g v r
  rw [show putF f v ((k,x)::r)=(if k=f then (k,v)::r else (k,x)::putF f v r) from rfl]
  by_cases hk:k=f
  ·rw [if_pos hk]
   by_cases h:g=k
   ·have hb:(g == k)=true:=beq_iff_eq.mpr h
    simp only [List.lookup,hb,if_pos (h.trans hk)]
   ·have hb:(g == k)=false:=beq_eq_false_iff_ne.mpr h
    simp only [List.lookup,hb,if_neg (fun e:g=f=>h (e.trans hk.symm))]
  ·rw [if_neg hk]
   by_cases h:g=k
   ·have hb:(g == k)=true:=beq_iff_eq.mpr h
    simp only [List.lookup,hb,if_neg (fun e:g=f=>hk (h.symm.trans e))]
   ·have hb:(g == k)=false:=beq_eq_false_iff_ne.mpr h
    simp only [List.lookup,hb]
    exact ih
theorem zda (f:Str) (v:V):∀fs:List (Str×V),f∈(putF f v fs).map (·.1)/\∀g,g∈fs.map (·.1)->g∈(putF f v fs).map (·.1)
 | []=>⟨by simp [putF],fun g h=>by simp at h⟩
 | (k,x)::r=>by
  obtain ⟨i1,i2⟩:=zda f v r
  rw [show putF f v ((k,x)::r)=(if k=f then (k,v)::r else (k,x)::putF f v r) from rfl]
  by_cases hk:k=f
  ·rw [if_pos hk]
   subst hk
   exact ⟨by simp,fun g h=>by simpa using h⟩
  ·rw [if_neg hk]
   refine ⟨?_,fun g h=>?_⟩
   ·rw [List.map_cons]
    exact List.mem_cons_of_mem _ i1
   ·rw [List.map_cons] at h ⊢
    rcases List.mem_cons.mp h with e | e
    ·exact List.mem_cons.mpr (.inl e)
    ·exact List.mem_cons_of_mem _ (i2 g e)
theorem zdb (f:Str) (v:V):∀fs:List (Str×V),(putF f v fs).length<=fs.length+1
 | []=>by simp [putF]
 | (k,x)::r=>by
  have ih:=zdb f v r
  rw [show putF f v ((k,x)::r)=(if k=f then (k,v)::r else (k,x)::putF f v r) from rfl]
  by_cases hk:k=f
  ·rw [if_pos hk,List.length_cons,List.length_cons]; omega
  ·rw [if_neg hk,List.length_cons,List.length_cons]; omega
theorem RelO.some_of {v:V} {o:Option Value} (r:RelO (some v) o):∃u,o=some u/\RelV v u:=by
 cases o with
 | none=>exact (show False from r).elim
 | some u=>exact ⟨u,rfl,r⟩
theorem RelO.none_of {o:Option Value} (r:RelO none o):o=none:=by
 cases o with
 | none=>rfl
 | some u=>exact (show False from r).elim
theorem zka {v:V} {u:Value} (r:RelV v u):PySem.W.handedIn u=true:=by
 cases v with
 | non=>cases (show u=Value.none from r); rfl
 | bl b=>cases (show u=Value.bool b from r); rfl
 | int i=>obtain ⟨t,e⟩:=(show ∃t,u=Value.int i t from r); cases e; rfl
 | str x=>obtain ⟨t,e⟩:=(show ∃t,u=Value.str x t from r); cases e; rfl
 | byt b=>obtain ⟨t,e⟩:=(show ∃t,u=Value.bytes b t from r); cases e; rfl
 | flt b=>obtain ⟨t,e⟩:=(show ∃t,u=Value.float b t from r); cases e; rfl
 | ref a=>cases (show u=Value.ref a from r); rfl
 | ty n=>cases (show u=Value.type n from r); rfl
section
variable {P:Program} {w:World} {H H':Hp} {h h':Heap} {a C dx:Addr} {fs fs':List (Str×V)}
theorem zey (hok:HOk P w H h) (e:H a=some (.ins C dx fs)):∃mA,ObjM h a dx C mA/\(∀f,RelO (fs.lookup f) (mA f))/\PySem.Within mA (fs.map (·.1))/\fs.length<=1000/\H dx=some (.own a):=by
 obtain ⟨d,z,ne,ob,mA,n,r,q⟩:=(show ObjOk P w H h a (.ins C dx fs) from hok a _ e)
 exact ⟨mA,⟨ob,n,ne⟩,r,q,z,d⟩
end
structure Cls (K:PySem.W.Frag) (C:Addr):Prop where
 pg:PySem.W.plainGet K C Str.empty=true
 hd:PySem.W.hasDictIn K C=true
 po:PySem.W.plainOver K C=true
 sa:PySem.W.findIn K (.ref C) "__setattr__"=some (some (.builtin "object.__setattr__"))
theorem Cls.get {K:PySem.W.Frag} {C:Addr} (c:Cls K C) (f:Str):PySem.W.plainGet K C f=true:=c.pg
def NoAttr (K:PySem.W.Frag) (C:Addr) (f:Str):Prop:=PySem.W.findIn K (.ref C) f=some none
theorem NoAttr.taker {K:PySem.W.Frag} {C:Addr} {f:Str} (n:NoAttr K C f):PySem.W.takerIn K C f=some none:=by
 unfold PySem.W.takerIn
 rw [show PySem.W.findIn K (.ref C) f=some none from n]
 rfl
structure Meth (K:PySem.W.Frag) (C:Addr) (m:Str) (f:Addr):Prop where
 at_:PySem.W.findIn K (.ref C) m=some (some (.ref f))
 fn:PySem.W.isFn K (.ref f)=true
 kp:PySem.W.keepIn K (.ref f)=true
section
variable {X:Cx} {pins:List (Addr×Obj)} {σ:St} {H:Hp} {s:Shared} {a C dx:Addr} {fs:List (Str×V)} {f:Str} {v:V} {A:Around} {E:Value->Shared->Prop}
theorem zjb {b:Bool} {Q:Value->Shared->Prop} (I:Inv X pins σ H s) (e:H a=some (.ins C dx fs)) (c:Cls X.K C) (n:NoAttr X.K C f) (l:fs.lookup f=some v)
  (h:∀u s',Inv X pins σ H s'->RelV v u->Q u s'):wpAny (model X.prog X.w) A (getAttr (.ref a) f b) Q E s:=by
 obtain ⟨mA,O,r,_,_,_⟩:=zey I.hok e
 obtain ⟨u,hu,ru⟩:=RelO.some_of (v:=v) (o:=mA f) (by rw [← l]; exact r f)
 exact zpd I.kIn O (c.get f) c.hd n hu (zka ru) (h u _ (I.tok _) ru)
theorem zeb {m:Str} {g:Addr} {pl:Sem Bool} {Q:Value×List Value->Shared->Prop} (I:Inv X pins σ H s) (e:H a=some (.ins C dx fs)) (c:Cls X.K C) (k:Meth X.K C m g) (l:fs.lookup m=none)
  (h:Q (.ref g,[.ref a]) s):wpAny (model X.prog X.w) A (getMethod (.ref a) m pl) Q E s:=by
 obtain ⟨mA,O,r,_,_,_⟩:=zey I.hok e
 have hn:mA m=none:=RelO.none_of (by rw [← l]; exact r m)
 exact zmm I.kIn O (c.get m) k.at_ k.fn hn h
theorem zjc {y:V} {u:Value} {Q:Unit->Shared->Prop} (I:Inv X pins σ H s) (e:H a=some (.ins C dx fs)) (c:Cls X.K C) (n:NoAttr X.K C f) (hl:fs.length<1000) (ry:RelV y u)
  (h:∀s',Inv X pins σ (upd H a (.ins C dx (putF f y fs))) s'->Q () s'):wpAny (model X.prog X.w) A (setAttr (.ref a) f u) Q E s:=by
 obtain ⟨mA,O,r,wi,_,ho⟩:=zey I.hok e
 have hz:(fs.map (·.1)).length<=sizeLine:=by rw [List.length_map,sizeLine_eq]; omega
 refine zpe I.kIn O c.sa c.po n.taker c.hd wi hz fun h' O' sb=>h _ ?_
 have hd:∃o,h'.get? dx=some o:=let ⟨o,_,_,e',_⟩:=O'.ns; ⟨o,e'⟩
 refine I.write (x:=a) (e:=dx) (by rw [e]; exact True.intro) (.inr ho) (fun b q hb z=>(sb.2 b hb).trans z) hd ?_
 refine ⟨by rw [yu O.ne]; exact ho,?_,O.ne,O'.obj,_,O'.ns,fun g=>?_,fun g hg=>?_⟩
 ·have:=zdb f y fs; omega
 ·show RelO ((putF f y fs).lookup g) (if g=f then some u else mA g)
  rw [zc9]
  by_cases q:g=f
  ·rw [if_pos q,if_pos q]; exact ry
  ·rw [if_neg q,if_neg q]; exact r g
 ·by_cases q:g=f
  ·rw [q]; exact (zda f y fs).1
  ·refine (zda f y fs).2 g (wi g fun z=>hg ?_)
   show (if g=f then some u else mA g)=none
   rw [if_neg q]; exact z
theorem Inv.made (I:Inv X pins σ H s):Inv X pins σ (upd (upd H s.heap.objs.size (.own (s.heap.objs.size+1))) (s.heap.objs.size+1) (.ins C s.heap.objs.size []))
  { s with heap:=(s.heap.push PySem.W.emptyDict).push (PySem.W.instObj C s.heap.objs.size) }:=by
 have e1:(s.heap.push PySem.W.emptyDict).get? s.heap.objs.size=some PySem.W.emptyDict:=Heap.get?_push_size s.heap rfl
 have e2:((s.heap.push PySem.W.emptyDict).push (PySem.W.instObj C s.heap.objs.size)).get? (s.heap.objs.size+1)=some (PySem.W.instObj C s.heap.objs.size):=by
  have:=Heap.get?_push_size (s.heap.push PySem.W.emptyDict) (o:=PySem.W.instObj C s.heap.objs.size) rfl
  rwa [Heap.size_push] at this
 have e3:(s.heap.push PySem.W.emptyDict).Ns s.heap.objs.size (fun _=>none):=⟨PySem.W.emptyDict,#[],_,e1,rfl,(fun e he=>absurd he (by simp)),fun _=>rfl⟩
 have I1:=I.laid (a:=s.heap.objs.size) (o:=.own (s.heap.objs.size+1)) (h':=s.heap.push PySem.W.emptyDict) (t':=s.toks) (fun b u q=>Heap.get?_push_of_some _ q) (Nat.le_refl _) ⟨_,e1⟩
 refine I1.laid (a:=s.heap.objs.size+1) (o:=.ins C s.heap.objs.size []) (t':=s.toks) (fun b u q=>Heap.get?_push_of_some _ q) (Nat.le_of_eq (Heap.size_push _ _)) ?_
 have ne:s.heap.objs.size≠s.heap.objs.size+1:=Nat.ne_of_lt (Nat.lt_succ_self _)
 refine ⟨by rw [yu ne,y3],Nat.zero_le _,ne,e2,fun _=>none,(Heap.Ns1.of_empty e3).at fun o q=>Heap.get?_push_of_some _ q,fun _=>True.intro,fun y hy=>absurd rfl hy⟩
theorem zpf {prog:Program} {w:World} {env:Env} {e:Expr} {f:Str} {pos:Pos} {s:Shared} {Q:Value->Shared->Prop} (hb:attributeBase e f env (eval e env)=eval e env)
  (h:wpAny (model prog w) A (eval e env) (fun o s₁=>wpAny (model prog w) A (getAttr o f true) Q E s₁) E s):wpAny (model prog w) A (eval (.Attribute e f pos) env) Q E s :=
 Attribute_any_ h (by rw [arm_eval_Attribute,hb])
end
def tFld (K:PySem.W.Frag) (ta:TE) (f:Str):TE:=fun σ H Q=>ta σ H fun x H1=>∃a C dx fs v,x=.ref a/\H1 a=some (.ins C dx fs)/\Cls K C/\NoAttr K C f/\fs.lookup f=some v/\Q v H1
def sFld (K:PySem.W.Frag) (ta tv:TE) (f:Str):TS:=fun D σ H=>tv σ H fun y H1=>ta σ H1 fun x H2=>∃a C dx fs,x=.ref a/\H2 a=some (.ins C dx fs)/\Cls K C/\NoAttr K C f/\fs.length<1000 /\
 D.nx σ (upd H2 a (.ins C dx (putF f y fs)))
section
variable {X:Cx} {o e value:Expr} {f:Str} {pos pos' tpos:Pos} {ta tv:TE}
theorem zrx (he:PE X e ta) (hb:attributeBase e f X.env (eval e X.env)=eval e X.env):PE X (.Attribute e f pos) (tFld X.K ta f):=by
 intro pins s σ H Q I h
 refine zpf hb (thn (he pins s σ H _ I h) fun u s1 ⟨x,H1,I1,rx,a,C,dx,fs,v,ex,ea,c,n,l,q⟩=>?_)
 subst ex
 obtain rfl:u=Value.ref a:=rx
 exact zjb I1 ea c n l fun u' s2 I2 ru=>⟨v,H1,I2,ru,q⟩
theorem zry (ha:PE X o ta) (hv:PE X value tv) (hs:swapsWith value (some (.Attribute o f pos')) pos.line X.env=pure false):PS X (.Assign [.Attribute o f pos'] value pos) (sFld X.K ta tv f):=by
 intro pins s σ H D I h
 refine plainObj_wpAny_Assign_Attribute (thn (hv pins s σ H _ I h) fun u s1 ⟨y,H1,I1,ry,q⟩=>thn (ha pins s1 σ H1 _ I1 q) fun ov s2 ⟨x,H2,I2,rx,a,C,dx,fs,ex,ea,c,n,l,q2⟩=>?_) hs
 subst ex
 obtain rfl:ov=Value.ref a:=rx
 exact zjc I2 ea c n l ry fun s3 I3=>⟨σ,_,I3,q2⟩
def rAdd:V->V->Hp->VK->Prop:=fun x y H Q=>∃i j,x=.int i/\y=.int j/\Q (.int (i+j)) H
theorem zpg {pl:Sem Bool} {m:Str} {apos:Pos} {args:List Expr} {pins:List (Addr×Obj)} {s:Shared} {σ:St} {H:Hp} {Q:Value->Shared->Prop} {te:TE} (he:PE X e te) (I:Inv X pins σ H s)
  (h:te σ H fun x H1=>∃a C dx fs g,x=.ref a/\H1 a=some (.ins C dx fs)/\Cls X.K C/\Meth X.K C m g/\fs.lookup m=none /\
   ∀s1,Inv X pins σ H1 s1->wpAny (model X.prog X.w) X.A (callWith pos (.ref g) [.ref a] (backTo pos (starEach args X.env)) (backToKw pos (keywordEach [] X.env))) Q X.xe s1)
  (ht:eval (.Call (.Attribute e m apos) args [] pos) X.env=(do
   let ov ← eval e X.env
   standAt apos.atName
   let (f,first) ← holding [ov] (getMethod ov m pl)
   callWith pos f first (backTo pos (starEach args X.env)) (backToKw pos (keywordEach [] X.env)))) :
  wpAny (model X.prog X.w) X.A (eval (.Call (.Attribute e m apos) args [] pos) X.env) Q X.xe s:=by
 refine PySem.W.methodCall_KW (pl:=pl) (thn (he pins s σ H _ I h) fun u s1 ⟨x,H1,I1,rx,a,C,dx,fs,g,ex,ea,c,k,l,q⟩=>?_) ht
 subst ex
 obtain rfl:u=Value.ref a:=rx
 exact zeb I1 ea c k l (q s1 I1)
end
section
variable {X:Cx} {pins:List (Addr×Obj)} {σ:St} {H:Hp} {s:Shared} {A:Around} {E:Value->Shared->Prop} {Q:Value->Shared->Prop} {c:Value} {b:Bool}
inductive TyOf (K:PySem.W.Frag) (H:Hp):V->Value->Prop where
 | non:TyOf K H .non (.type "NoneType")
 | bl (x:Bool):TyOf K H (.bl x) (.type "bool")
 | int (i:Int):TyOf K H (.int i) (.type "int")
 | str (x:Str):TyOf K H (.str x) (.type "str")
 | flt (x:UInt64):TyOf K H (.flt x) (.type "float")
 | lst {a:Addr} {xs:List V} (e:H a=some (.lst xs)):TyOf K H (.ref a) (.type "list")
 | frz {a:Addr} {o:Obj} {xs:List V} (e:H a=some (.frz o (.lst xs))):TyOf K H (.ref a) (.type "list")
 | tup {a:Addr} {xs:List V} (e:H a=some (.tup xs)):TyOf K H (.ref a) (.type "tuple")
 | dK {a:Addr} {kvs:List (Key×V)} (e:H a=some (.dK kvs)):TyOf K H (.ref a) (.type "dict")
 | dT {a:Addr} {kvs:List (List Key×V)} (e:H a=some (.dT kvs)):TyOf K H (.ref a) (.type "dict")
 | ins {a C dx:Addr} {fs:List (Str×V)} (e:H a=some (.ins C dx fs)) (cl:Cls K C) (ha:PySem.W.findIn K (.ref C) "__class__"=some (some (.builtin "object.__class__")))
   (hn:PySem.W.specialIn K (.builtin "object.__class__") "__get__"=some (some (.builtin "getset_descriptor.__get__"))) (htk:PySem.W.takesIn K (.builtin "object.__class__")=some true)
   (hm:PySem.W.mroIn K C (.type "object")=some true):TyOf K H (.ref a) (.ref C)
theorem zfu {x:V} {u t:Value} (I:Inv X pins σ H s) (rx:RelV x u) (ty:TyOf X.K H x t) (e:PySem.W.kitOne X.K t c=some b) (h:∀tk,Q (.bool b) { s with toks:=tk }) :
  wpAny (model X.prog X.w) A (call (.builtin "isinstance") [u,c]) Q E s:=by
 cases ty with
 | non=>cases (show u=Value.none from rx); exact PySem.W.kia_one PySem.W.kitx_none I.kIn True.intro e (fun z=>nomatch z) h
 | bl y=>cases (show u=Value.bool y from rx); exact PySem.W.kia_one PySem.W.kitx_bool I.kIn True.intro e (fun z=>nomatch z) h
 | int i=>obtain ⟨t,q⟩:=(show ∃t,u=Value.int i t from rx); cases q; exact PySem.W.kia_one PySem.W.kitx_int I.kIn True.intro e (fun z=>nomatch z) h
 | str y=>obtain ⟨t,q⟩:=(show ∃t,u=Value.str y t from rx); cases q; exact PySem.W.kia_one PySem.W.kitx_str I.kIn True.intro e (fun z=>nomatch z) h
 | flt y=>obtain ⟨t,q⟩:=(show ∃t,u=Value.float y t from rx); cases q; exact PySem.W.kia_one PySem.W.kitx_float I.kIn True.intro e (fun z=>nomatch z) h
 | @lst a xs ea =>
  cases (show u=Value.ref a from rx)
  obtain ⟨_,_,n,_,h1⟩:=(show ObjOk X.prog X.w H s.heap a (.lst xs) from I.hok a _ ea)
  exact PySem.W.kia_one PySem.W.kitx_list I.kIn ⟨_,h1,rfl⟩ e (fun z=>nomatch z) h
 | @frz a ob xs ea =>
  cases (show u=Value.ref a from rx)
  obtain ⟨_,_,_,n,_,h1⟩:=(show ObjOk X.prog X.w H s.heap a (.frz ob (.lst xs)) from I.hok a _ ea)
  exact PySem.W.kia_one PySem.W.kitx_list I.kIn ⟨_,h1,rfl⟩ e (fun z=>nomatch z) h
 | @tup a xs ea =>
  cases (show u=Value.ref a from rx)
  obtain ⟨_,_,_,p⟩:=(show ObjOk X.prog X.w H s.heap a (.tup xs) from I.hok a _ ea)
  obtain ⟨o,h1,h2,_⟩:=p
  exact PySem.W.kia_one PySem.W.kitx_tuple I.kIn ⟨o,h1,h2⟩ e (fun z=>nomatch z) h
 | @dK a kvs ea =>
  cases (show u=Value.ref a from rx)
  obtain ⟨_,_,vs,_,p⟩:=(show ObjOk X.prog X.w H s.heap a (.dK kvs) from I.hok a _ ea)
  obtain ⟨o,es,ep,h1,h2,_⟩:=p
  exact PySem.W.kia_one PySem.W.kitx_dict I.kIn ⟨o,h1,h2.1⟩ e (fun z=>nomatch z) h
 | @dT a kvs ea =>
  cases (show u=Value.ref a from rx)
  obtain ⟨_,_,xs,_,o,es,ep,h1,h2,_⟩:=(show ObjOk X.prog X.w H s.heap a (.dT kvs) from I.hok a _ ea)
  exact PySem.W.kia_one PySem.W.kitx_dict I.kIn ⟨o,h1,h2.1⟩ e (fun z=>nomatch z) h
 | @ins a C dx fs ea cl ha hn htk hm =>
  cases (show u=Value.ref a from rx)
  obtain ⟨mA,O,_⟩:=zey I.hok ea
  obtain ⟨od,J,_⟩:=O.look
  exact PySem.W.kia_one (PySem.W.kitx_own (cl.get _) cl.hd ha hn htk hm) I.kIn J e (fun z=>nomatch z) h
end
end L2
namespace L2
open PySem PySem.Spec PyProof.Rows
structure Room (k:Nat) (A:Around):Prop where
 hd:A.handled=none
 dp:A.depth+3 * k+5<recursionLimit
 un:A.units+16 * k+200<cLine
theorem Room.mono {j k:Nat} {A:Around} (r:Room k A) (h:j<=k):Room j A:=⟨r.hd,by have:=r.dp; omega,by have:=r.un; omega⟩
theorem Room.deeper {k:Nat} {A:Around} (r:Room (k+1) A) (env:Env):Room k (A.deeper env) :=
 ⟨r.hd,by have:=r.dp; show A.depth+1+3 * k+5<_; omega,by have:=r.un; show A.units+3+16 * k+200<_; omega⟩
theorem zjd {A:Around} {C:Addr} {us:List Value} {kw:List (Str×Value)}:(A.under (.builtin "type.__call__" ⟨.ref C::us,kw⟩)).depth=A.depth+1:=by
 first | rfl | simp [Around.under,Code.weight,Code.isCreation,Code.isGuard,Code.isCaller,Code.frames,Code.isFrame,guardIds]
theorem zje {A:Around} {C:Addr} {us:List Value} {kw:List (Str×Value)}:(A.under (.builtin "type.__call__" ⟨.ref C::us,kw⟩)).units=A.units+1:=by
 first | rfl | simp [Around.under,Code.cUnits,Code.frames,Code.isFrame]
theorem Room.make {k:Nat} {A:Around} (r:Room (k+1) A) (C:Addr) (us:List Value) (kw:List (Str×Value)):Room k (A.under (.builtin "type.__call__" ⟨.ref C::us,kw⟩)) :=
 ⟨r.hd,by have:=r.dp; rw [zjd]; omega,by have:=r.un; rw [zje]; omega⟩
theorem Room.depth {k:Nat} {A:Around} (r:Room k A):A.depth<recursionLimit:=by have:=r.dp; omega
theorem Room.units {k:Nat} {A:Around} (r:Room k A):A.units+64<cLine:=by have:=r.un; omega
def tNil:TA:=fun _ H Q=>Q [] H
def tCons (ta:TE) (tr:TA):TA:=fun σ H Q=>ta σ H fun x H1=>tr σ H1 fun xs H2=>Q (x::xs) H2
section
variable {X:Cx} {e:Expr} {es:List Expr} {te:TE} {t:TA} {pos:Pos}
theorem zbj:PA X [] tNil:=fun _ _ _ _ H Q I h=>Calls.spliced_nil ⟨[],H,I,.nil,h⟩
theorem ux (ha:PE X e te) (hr:PA X es t) (hs:starEach (e::es) X.env=(false,eval e X.env)::starEach es X.env:=by rfl):PA X (e::es) (tCons te t):=by
 intro pos pins s σ H Q I h
 rw [hs]
 show wpAny _ _ (spliced ((false,eval e X.env)::backTo pos (starEach es X.env))) _ _ s
 refine Calls.spliced_cons (thn (ha pins s σ H _ I h) fun u s1 ⟨x,H1,I1,r1,q1⟩=>?_)
 exact thn (hr pos pins s1 σ H1 _ I1 q1) fun us s2 ⟨xs,H2,I2,r2,q2⟩=>⟨x::xs,H2,I2,.cons r1 r2,q2⟩
def tTup (t:TA):TE:=fun σ H Q=>t σ H fun xs H1=>xs.length<=sizeLine/\∀p,H1 p=none->Q (.ref p) (upd H1 p (.tup xs))
def tLst (t:TA):TE:=fun σ H Q=>t σ H fun xs H1=>xs.length<=sizeLine/\∀p,H1 p=none->Q (.ref p) (upd H1 p (.lst xs))
theorem zrz {x1} (h:PA X es t):PE X (.Tuple es x1 pos) (tTup t):=by
 intro pins s σ H Q I hq
 refine wpAny_Tuple_spliced (thn (h pos pins s σ H _ I hq) fun us s1 ⟨xs,H1,I1,r,z,q⟩=>⟨by rw [← r.length]; exact z,?_⟩)
 have hf:H1 s1.heap.objs.size=none:=I1.hok.fresh (Nat.le_refl _)
 refine ⟨.ref s1.heap.objs.size,upd H1 s1.heap.objs.size (.tup xs),I1.laid (t':=s1.toks) (fun b u e=>Heap.get?_push_of_some _ e) (Nat.le_refl _) ?_,rfl,q _ hf⟩
 exact ⟨z,us,r,⟨_,Heap.get?_push_size _ rfl,rfl,_,rfl⟩⟩
theorem zr0 (h:PA X es t):PE X (.List es pos) (tLst t):=by
 intro pins s σ H Q I hq
 refine wpAny_List_spliced (thn (h pos pins s σ H _ I hq) fun us s1 ⟨xs,H1,I1,r,z,q⟩=>⟨by rw [← r.length]; exact z,?_⟩)
 have hf:H1 s1.heap.objs.size=none:=I1.hok.fresh (Nat.le_refl _)
 refine ⟨.ref s1.heap.objs.size,upd H1 s1.heap.objs.size (.lst xs),I1.laid (t':=s1.toks) (fun b u e=>Heap.get?_push_of_some _ e) (Nat.le_refl _) ?_,rfl,q _ hf⟩
 exact ⟨z,us,0,r,Heap.get?_push_size _ rfl⟩
end
abbrev Sp:=List V->Hp->VK->XK->Prop
abbrev CXT:=List Env->Hp->Shared->XK->Value->Shared->Prop
structure Env0 (P:Program) (w:World) (K:PySem.W.Frag) (mg:Str->Option Value) (base:Heap) (A:Around) (outer:List Env) (s:Shared) (H:Hp):Prop where
 frames:A.frames=some outer
 mod:Mod K mg base
 bs:∀b o,base.get? b=some o->s.heap.get? b=some o/\H b=none
 bsz:base.objs.size<=s.heap.objs.size
 funs:s.heap.FunFrames base outer
 frf:∀b∈frs outer,H b=none
 hok:HOk P w H s.heap
 bare:AllBare s.gens
def CE (outer:List Env) (P:Program) (w:World) (H:Hp) (s:Shared) (Q:VK) (u:Value) (s':Shared):Prop :=
 ∃v H',s'.os=s.os/\AllBare s'.gens/\Un (frs outer) [] H H' s.heap s'.heap/\HOk P w H' s'.heap/\RelV v u/\Q v H'
def CR (CX:CXT) (outer:List Env) (P:Program) (w:World) (H:Hp) (s:Shared) (Q:VK) (E:XK) (r:Result) (s':Shared):Prop :=
 match r with
 | .ok (.ret u)=>CE outer P w H s Q u s'
 | .ok _=>False
 | .error e=>CX outer H s E e s'
structure FnOk (P:Program) (w:World) (K:PySem.W.Frag) (mg:Str->Option Value) (base:Heap) (CX:CXT) (k:Nat) (f:Addr) (fd:FuncData) (ps:List Str) (sp:Sp):Prop where
 len:∀vs H Q E,sp vs H Q E->vs.length=ps.length
 run:∀(A:Around) (outer:List Env) (s:Shared) (H:Hp) (args:Args) (us:List Value) (vs:List V) (Q:VK) (E:XK),Room k A->Env0 P w K mg base A outer s H->BindsTo s fd args (ps.zip us)->Vals vs us->sp vs H Q E ->
  codeAny (model P w) A (.call (.ref f) args) (CR CX outer P w H s Q E) s
theorem Env0.make {P:Program} {w:World} {K:PySem.W.Frag} {mg:Str->Option Value} {base:Heap} {A:Around} {outer:List Env} {s:Shared} {H:Hp} (e:Env0 P w K mg base A outer s H) (C:Addr) (us:List Value) (kw:List (Str×Value)) :
  Env0 P w K mg base (A.under (.builtin "type.__call__" ⟨.ref C::us,kw⟩)) outer s H:=⟨by first | exact e.frames | (simpa [Around.under,Code.envs,Code.isFrame,pushEnvs] using e.frames),e.mod,e.bs,e.bsz,e.funs,e.frf,e.hok,e.bare⟩
section
variable {X:Cx} {pins:List (Addr×Obj)} {σ:St} {H:Hp} {s s':Shared}
theorem Inv.env0 (I:Inv X pins σ H s):Env0 X.prog X.w X.K X.mg X.base X.A X.stack s H :=
 ⟨I.ok.frames,I.ok.mod,I.bs,Nat.le_trans I.ok.bsz I.sz,I.stack,I.stkFree,I.hok,I.bare⟩
theorem Inv.after {Q:VK} {u:Value} (I:Inv X pins σ H s) (h:CE X.stack X.prog X.w H s Q u s'):EP X pins σ Q u s':=by
 obtain ⟨v,H',os,bare,un,hok,r,q⟩:=h
 obtain ⟨hh,g,d,t,os'⟩:=s'
 obtain rfl:os'=s.os:=os
 exact ⟨v,H',I.call (h':=hh) (g':=g) (d':=d) (t':=t) (ch:=[]) un hok bare (fun b z=>absurd z (by simp)),r,q⟩
end
def tCall (sp:Sp) (dvs:List V) (E:XK) (t:TA):TE:=fun σ H Q=>t σ H fun vs H1=>sp (vs++dvs) H1 Q E
def tMeth (C:Addr) (m:Str) (sp:Sp) (dvs:List V) (E:XK) (ta:TE) (t:TA):TE:=fun σ H Q=>ta σ H fun x H1=>∃a dx fs,x=.ref a/\H1 a=some (.ins C dx fs)/\fs.lookup m=none /\
 t σ H1 fun vs H2=>sp (x::(vs++dvs)) H2 Q E
def tMake (C:Addr) (sp:Sp) (dvs:List V) (E:XK) (t:TA):TE:=fun σ H Q=>t σ H fun vs H1=>∀x dx,H1 x=none->H1 dx=none->dx≠x ->
 sp (.ref x::(vs++dvs)) (upd (upd H1 dx (.own x)) x (.ins C dx [])) (fun v H2=>v=.non/\Q (.ref x) H2) E
def Binds (K:PySem.W.Frag) (fd:FuncData) (ps:List Str) (ds:List Value):Prop :=
 ∀(s:Shared) (us:List Value),K.In s.heap->(us++ds).length=ps.length->BindsTo s fd ⟨us,[]⟩ (ps.zip (us++ds))
theorem Binds.all {K:PySem.W.Frag} {fd:FuncData} {ps:List Str} (h:∀us:List Value,us.length=ps.length->bindArgs fd ⟨us,[]⟩=pure (ps.zip us)):Binds K fd ps []:=fun s us _ hl=>by
 rw [List.append_nil] at hl ⊢
 exact .of_eq (h us hl)
def Passes (CX:CXT) (X:Cx) (E:XK):Prop:=∀(pins:List (Addr×Obj)) (σ:St) (H:Hp) (s:Shared) (e:Value) (s':Shared),Inv X pins σ H s->CX X.stack H s E e s'->X.xe e s'
section
variable {X:Cx} {CX:CXT} {k:Nat} {f C:Addr} {fd:FuncData} {ps:List Str} {sp:Sp} {dvs:List V} {ds:List Value} {E:XK} {x m:Str} {p pos apos:Pos} {e o:Expr} {es:List Expr} {ta:TE} {t:TA}
theorem zkb {pins:List (Addr×Obj)} {σ:St} {H:Hp} {s:Shared} {Q:VK} {us:List Value} {vs:List V} (F:FnOk X.prog X.w X.K X.mg X.base CX k f fd ps sp) (hr:Room k X.A) (hb:Binds X.K fd ps ds) (hd:Vals dvs ds) (hx:Passes CX X E)
  (I:Inv X pins σ H s) (r:Vals vs us) (h:sp (vs++dvs) H Q E):wpAny (model X.prog X.w) X.A (call (.ref f) us) (EP X pins σ Q) X.xe s:=by
 have r2:Vals (vs++dvs) (us++ds):=r.append hd
 have hl:(us++ds).length=ps.length:=by rw [← r2.length]; exact F.len _ _ _ _ h
 refine wpAny_call (codeAny_mono (F.run X.A X.stack s H ⟨us,[]⟩ (us++ds) (vs++dvs) Q E hr I.env0 (hb s us I.kIn hl) r2 h) fun r s' hq=>?_)
 cases r with
 | error e=>exact hx pins σ H s e s' I hq
 | ok fl =>
  cases fl with
  | ret u=>exact I.after hq
  | next=>exact False.elim hq
  | brk=>exact False.elim hq
  | cont=>exact False.elim hq
theorem zph (F:FnOk X.prog X.w X.K X.mg X.base CX k f fd ps sp) (hr:Room k X.A) (hg:Gl X x) (hm:X.mg x=some (.ref f)) (hk:PySem.W.keepIn X.K (.ref f)=true) (hb:Binds X.K fd ps ds) (hd:Vals dvs ds) (hx:Passes CX X E)
  (ha:PA X (e::es) t) (hdb:(x == ("__debug__":Str))=false:=by decide) (he:starEach (e::es) X.env=(false,eval e X.env)::starEach es X.env:=by rfl) (hpl:(backTo pos (starEach es X.env)).any (·.1)=false:=by rfl) :
  PE X (.Call (.Name x p) (e::es) [] pos) (tCall sp dvs E t):=by
 intro pins s σ H Q I h
 refine wpAny_Call_Name_kw (zew I hg hm ?_ hdb)
 refine PySem.W.callWith_K (h₀:=X.base) I.ok.mod.kin hk (thn (ha pos pins s σ H _ I h) fun us s1 ⟨vs,H1,I1,r,q⟩=>⟨I1.kIn,?_⟩) he hpl
 exact zkb F hr hb hd hx I1 r q
theorem zpi {pl:Sem Bool} (he:PE X o ta) (c:Cls X.K C) (hm:Meth X.K C m f) (F:FnOk X.prog X.w X.K X.mg X.base CX k f fd ps sp) (hr:Room k X.A) (hb:Binds X.K fd ps ds) (hd:Vals dvs ds) (hx:Passes CX X E) (ha:PA X (e::es) t)
  (hst:starEach (e::es) X.env=(false,eval e X.env)::starEach es X.env:=by rfl) (hpl:(backTo pos (starEach es X.env)).any (·.1)=false:=by rfl)
  (ht:eval (.Call (.Attribute o m apos) (e::es) [] pos) X.env=(do
   let ov ← eval o X.env
   standAt apos.atName
   let (f,first) ← holding [ov] (getMethod ov m pl)
   callWith pos f first (backTo pos (starEach (e::es) X.env)) (backToKw pos (keywordEach [] X.env))):=by rfl) :
  PE X (.Call (.Attribute o m apos) (e::es) [] pos) (tMeth C m sp dvs E ta t):=by
 intro pins s σ H Q I h
 refine PySem.W.methodCall_KW (pl:=pl) (thn (he pins s σ H _ I h) fun u s1 ⟨x,H1,I1,rx,a,dx,fs,ex,ea,l,q⟩=>?_) ht
 subst ex
 obtain rfl:u=Value.ref a:=rx
 refine zeb I1 ea c hm l ?_
 refine PySem.W.callWith_K (first:=[.ref a]) (h₀:=X.base) I.ok.mod.kin hm.kp (thn (ha pos pins s1 σ H1 _ I1 q) fun us s2 ⟨vs,H2,I2,r,q2⟩=>⟨I2.kIn,?_⟩) hst hpl
 exact zkb (us:=.ref a::us) (vs:=.ref a::vs) F hr hb hd hx I2 (.cons rfl r) q2
structure Mk (K:PySem.W.Frag) (C f:Addr):Prop where
 makes:PySem.W.makesIn K C=true
 init:PySem.W.findIn K (.ref C) "__init__"=some (some (.ref f))
 fn:PySem.W.isFn K (.ref f)=true
 kp:PySem.W.keepIn K (.ref C)=true
theorem zmo {pins:List (Addr×Obj)} {σ:St} {H:Hp} {s:Shared} {Q:VK} {us:List Value} {vs:List V} (M:Mk X.K C f) (F:FnOk X.prog X.w X.K X.mg X.base CX k f fd ps sp) (hr:Room (k+1) X.A) (hb:Binds X.K fd ps ds) (hd:Vals dvs ds)
  (hx:Passes CX X E) (I:Inv X pins σ H s) (r:Vals vs us)
  (h:∀x dx,H x=none->H dx=none->dx≠x->sp (.ref x::(vs++dvs)) (upd (upd H dx (.own x)) x (.ins C dx [])) (fun v H2=>v=.non/\Q (.ref x) H2) E) :
  wpAny (model X.prog X.w) X.A (call (.ref C) us) (EP X pins σ Q) X.xe s:=by
 have hq:=h (s.heap.objs.size+1) s.heap.objs.size (I.hok.fresh (Nat.le_succ _)) (I.hok.fresh (Nat.le_refl _)) (Nat.ne_of_lt (Nat.lt_succ_self _))
 have I2:=Inv.made (C:=C) I
 have r2:Vals (V.ref (s.heap.objs.size+1)::(vs++dvs)) (Value.ref (s.heap.objs.size+1)::(us++ds)):=.cons rfl (r.append hd)
 have hl:(Value.ref (s.heap.objs.size+1)::us++ds).length=ps.length:=by
  have e:=r2.length
  rw [F.len _ _ _ _ hq] at e
  exact e.symm
 refine wpAny_call (zmn (f:=f) I.kIn M.makes M.init (beq_iff_eq.mp M.fn) (codeAny_mono (F.run _ X.stack _ _ ⟨Value.ref (s.heap.objs.size+1)::us,[]⟩ (Value.ref (s.heap.objs.size+1)::(us++ds)) _ _ E (hr.make C us [])
  (I2.env0.make C us []) (hb _ (Value.ref (s.heap.objs.size+1)::us) I2.kIn hl) r2 hq) fun r s' hq'=>?_))
 cases r with
 | error e=>exact hx pins σ _ _ e s' I2 hq'
 | ok fl =>
  cases fl with
  | ret u =>
   obtain ⟨v,H',I3,rv,ev,q3⟩:=I2.after hq'
   subst ev
   exact ⟨rv,⟨V.ref (s.heap.objs.size+1),H',I3,rfl,q3⟩⟩
  | next=>exact False.elim hq'
  | brk=>exact False.elim hq'
  | cont=>exact False.elim hq'
theorem zpj (M:Mk X.K C f) (F:FnOk X.prog X.w X.K X.mg X.base CX k f fd ps sp) (hr:Room (k+1) X.A) (hg:Gl X x) (hm:X.mg x=some (.ref C)) (hb:Binds X.K fd ps ds) (hd:Vals dvs ds) (hx:Passes CX X E)
  (ha:PA X (e::es) t) (hdb:(x == ("__debug__":Str))=false:=by decide) (he:starEach (e::es) X.env=(false,eval e X.env)::starEach es X.env:=by rfl) (hpl:(backTo pos (starEach es X.env)).any (·.1)=false:=by rfl) :
  PE X (.Call (.Name x p) (e::es) [] pos) (tMake C sp dvs E t):=by
 intro pins s σ H Q I h
 refine wpAny_Call_Name_kw (zew I hg hm ?_ hdb)
 refine PySem.W.callWith_K (h₀:=X.base) I.ok.mod.kin M.kp (thn (ha pos pins s σ H _ I h) fun us s1 ⟨vs,H1,I1,r,q⟩=>⟨I1.kIn,?_⟩) he hpl
 exact zmo M F hr hb hd hx I1 r q
end
section
variable {X:Cx} {CX:CXT} {k:Nat} {f C:Addr} {fd:FuncData} {ps ks:List Str} {sp:Sp} {E:XK} {x m:Str} {p pos apos kpos:Pos} {e o:Expr} {es:List Expr} {kws:List Keyword} {te ta:TE} {t tk:TA} {nm:Option Str}
variable {g:List Value->List Value->List Value} {gV:List V->List V->List V}
end
structure FnScope (N P:List Str) (sc:Scope):Prop where
 kind:sc.kind=.function
 co:sc.isCoroutine=false
 gen:sc.isGenerator=false
 nd:N.Nodup
 pre:N.take P.length=P
 par:∀x∈P,sc.names.lookup x=some .local\/sc.names.lookup x=some .cell
 nofree:∀y∈sc.names,y.2≠.free
theorem zfv {kindOf:Str->Option NameKind} {x:Str}:∀{binds:List (Str×Value)} {m:Str->Option Value},(∀v,(x,v)∉binds)->bindL kindOf binds m x=m x
 | [],_,_=>rfl
 | (n,v)::r,m,h=>by
  unfold bindL
  rw [zfv fun w hw=>h w (List.mem_cons_of_mem _ hw)]
  split
  ·have:x≠n:=by rintro rfl; exact h v List.mem_cons_self
   simp [this]
  ·rfl
theorem zfw {kindOf:Str->Option NameKind} {x:Str}:∀{binds:List (Str×Value)} {m:Str->Option Value},(∀v,(x,v)∉binds)->bindC kindOf binds m x=m x
 | [],_,_=>rfl
 | (n,v)::r,m,h=>by
  unfold bindC
  rw [zfw fun w hw=>h w (List.mem_cons_of_mem _ hw)]
  split
  ·rfl
  ·have:x≠n:=by rintro rfl; exact h v List.mem_cons_self
   simp [this]
theorem zfx {kindOf:Str->Option NameKind} {x:Str} {v:Value}:∀{P:List Str} {vs:List Value} {i:Nat} {m:Str->Option Value},P.Nodup->P[i]?=some x->vs[i]?=some v->kindOf x=some .local ->
  bindL kindOf (P.zip vs) m x=some v
 | [],_,_,_,_,h,_,_=>by simp at h
 | _::_,[],_,_,_,_,h,_=>by simp at h
 | p::P,w::vs,0,m,nd,h1,h2,hk=>by
  simp at h1 h2; subst h1; subst h2
  show bindL kindOf ((p,w)::P.zip vs) m p=_
  unfold bindL
  rw [zfv fun v hv=>(List.nodup_cons.mp nd).1 (List.of_mem_zip hv).1,if_pos hk]
  simp
 | p::P,w::vs,i+1,m,nd,h1,h2,hk=>by
  show bindL kindOf ((p,w)::P.zip vs) m x=_
  unfold bindL
  exact zfx (i:=i) (List.nodup_cons.mp nd).2 (by simpa using h1) (by simpa using h2) hk
theorem zfy {kindOf:Str->Option NameKind} {x:Str} {v:Value}:∀{P:List Str} {vs:List Value} {i:Nat} {m:Str->Option Value},P.Nodup->P[i]?=some x->vs[i]?=some v->kindOf x≠some .local ->
  bindC kindOf (P.zip vs) m x=some v
 | [],_,_,_,_,h,_,_=>by simp at h
 | _::_,[],_,_,_,_,h,_=>by simp at h
 | p::P,w::vs,0,m,nd,h1,h2,hk=>by
  simp at h1 h2; subst h1; subst h2
  show bindC kindOf ((p,w)::P.zip vs) m p=_
  unfold bindC
  rw [zfw fun v hv=>(List.nodup_cons.mp nd).1 (List.of_mem_zip hv).1,if_neg hk]
  simp
 | p::P,w::vs,i+1,m,nd,h1,h2,hk=>by
  show bindC kindOf ((p,w)::P.zip vs) m x=_
  unfold bindC
  exact zfy (i:=i) (List.nodup_cons.mp nd).2 (by simpa using h1) (by simpa using h2) hk
def start (N:List Str) (vs:List V):St:=vs.map some++List.replicate (N.length-vs.length) none
def cxOf (CX:CXT) (P:Program) (w:World) (K:PySem.W.Frag) (mg:Str->Option Value) (base:Heap) (N:List Str) (qual:Str) (scope:Scope) (f:Addr) (cd:Value) (A:Around) (outer:List Env) (s:Shared) (H:Hp) (E:XK):Cx where
 prog:=P
 w:=w
 K:=K
 mg:=mg
 base:=base
 A:=A.deeper (envOfC qual scope s.heap.objs.size f cd)
 N:=N
 s₀:=s
 H₀:=H
 env:=envOfC qual scope s.heap.objs.size f cd
 outer:=outer
 stack:=envOfC qual scope s.heap.objs.size f cd::outer
 ex:=[]
 calm:=true
 fn:=fun _=>true
 pn:=[]
 xe:=fun e s'=>wpAny (model P w) (A.deeper (envOfC qual scope s.heap.objs.size f cd)) (leaving (envOfC qual scope s.heap.objs.size f cd) e) (fun _ s''=>CX outer H s E e s'') (fun e' s''=>CX outer H s E e' s'') s'
theorem zh2 {sc:Scope} {n:Nat} {x:Str} (h:sc.names.lookup x=some .cell):∃c,(cellsFrom n sc.names []).lookup x=some c:=by
 have q:=PySem.W.cellsFrom_some sc.names n [] (.inl h)
 exact Option.isSome_iff_exists.mp q
theorem zkc {CX:CXT} {P:Program} {w:World} {K:PySem.W.Frag} {mg:Str->Option Value} {base:Heap} {N ps:List Str} {qual:Str} {scope:Scope} {f:Addr} {cd:Value} {A:Around} {outer:List Env} {s s1:Shared} {H:Hp} {E:XK} {us:List Value} {vs:List V}
  (S:FnScope N ps scope) (hd:A.handled=none) (e0:Env0 P w K mg base A outer s H) (hl:vs.length=ps.length) (r:Vals vs us)
  (x:InCallC s s.heap.objs.size (bindL (envOfC qual scope s.heap.objs.size f cd).kindOf (ps.zip us) fun _=>none) (cellsFrom (s.heap.objs.size+1) scope.names []) (bindC (envOfC qual scope s.heap.objs.size f cd).kindOf (ps.zip us) fun _=>none) s1) :
  Inv (cxOf CX P w K mg base N qual scope f cd A outer s H E) [] (start N vs) H s1:=by
 have hpl:ps.length<=N.length:=by have:=congrArg List.length S.pre; rw [List.length_take] at this; omega
 obtain ⟨h1,tk,rfl,hk⟩:=x.done
 have noA:∀b:Addr,b∉(cxOf CX P w K mg base N qual scope f cd A outer s H E).ex:=fun b z=>absurd (show b∈([]:List Addr) from z) (by simp)
 refine ⟨⟨e0.mod,S.kind,rfl,rfl,Nat.le_refl _,fun y z c h1 h2=>?_,fun y hy=>?_,fun y c _ h=>?_,fun _=>hd,Around.frames_deeper e0.frames,.inr ⟨rfl,rfl⟩,fun b z=>absurd z (noA b),e0.bs,e0.bsz,fun b _ _=>noA b,fun b z=>absurd z (noA b),e0.funs,e0.frf⟩,
  rfl,e0.bare,Un.kept hk,⟨_,x.toInCall.ns,fun i y v h1 h2 h3=>?_⟩,fun y c h=>⟨_,x.cell y c h⟩,e0.hok.fresh (Nat.le_refl _),fun y c h=>?_,fun p hp=>absurd (show p∈([]:List (Addr×Obj)) from hp) (by simp),e0.hok.kept hk,?_⟩
 ·exact name_of_addr x.apart (PySem.mem_of_lookup h1) (PySem.mem_of_lookup h2)
 ·have hy:scope.names.lookup y=some .cell\/scope.names.lookup y=some .free:=hy
  rcases hy with hy | hy
  ·exact zh2 hy
  ·exact absurd rfl (S.nofree _ (PySem.mem_of_lookup hy))
 ·exact Nat.le_of_lt (x.above y c (PySem.mem_of_lookup h))
 ·have hi:i<vs.length:=by
   unfold start at h2
   by_cases hi:i<vs.length
   ·exact hi
   ·rw [List.getElem?_append_right (by simpa using hi)] at h2
    rw [List.getElem?_replicate] at h2
    split at h2 <;> cases h2
  have ha:vs[i]?=some v:=by
   unfold start at h2
   rw [List.getElem?_append_left (by simpa using hi),List.getElem?_map] at h2
   cases e:vs[i]? with
   | none=>rw [e] at h2; cases h2
   | some a=>rw [e] at h2; cases h2; rfl
  obtain ⟨u,hu,rv⟩:=r.get ha
  have hp:ps[i]?=some y:=by
   rw [← S.pre,List.getElem?_take_of_lt (by omega)]; exact h1
  have ndP:ps.Nodup:=by rw [← S.pre]; exact S.nd.sublist (List.take_sublist _ _)
  refine ⟨u,rv,?_⟩
  rcases S.par y (List.mem_of_getElem? hp) with k | k
  ·exact .inl ⟨k,zfx ndP hp hu k⟩
  ·obtain ⟨c,e⟩:=zh2 (n:=s.heap.objs.size+1) k
   refine .inr ⟨.inl k,c,e,?_⟩
   have q:=x.cell y c e
   rw [zfy ndP hp hu (by show scope.names.lookup y≠_; rw [k]; decide)] at q
   exact q
 ·exact e0.hok.fresh (Nat.le_of_lt (x.above y c (PySem.mem_of_lookup h)))
 ·unfold start
  show _=N.length
  rw [List.length_append,List.length_map,List.length_replicate]
  omega
theorem zth {CX:CXT} {P:Program} {w:World} {K:PySem.W.Frag} {mg:Str->Option Value} {base:Heap} {k:Nat} {f:Addr} {name qual:Str} {params:Arguments} {body:List Stmt} {scope:Scope} {dV kV doc pm cdv ct oc:Value} {an od:Option Addr}
    {osl:Array (Option Value)} {N ps:List Str} {sp:Sp} (lk:K.lookup f=some ⟨oc,od,.func (PySem.W.fnOf name qual params body scope dV kV doc pm an cdv ct),osl⟩) (hcd:PySem.W.codeIn K cdv qual=true) (S:FnScope N ps scope)
    (len:∀vs H Q E,sp vs H Q E->vs.length=ps.length)
    (hbody:∀(A:Around) (outer:List Env) (s:Shared) (H:Hp) (vs:List V) (Q:VK) (E:XK),Room k (A.deeper (envOfC qual scope s.heap.objs.size f cdv))->sp vs H Q E ->
      ∃t,PSs (cxOf CX P w K mg base N qual scope f cdv A outer s H E) body t/\t { nx:=fun _ H'=>Q .non H',rt:=Q } (start N vs) H) :
    FnOk P w K mg base CX (k+1) f (PySem.W.fnOf name qual params body scope dV kV doc pm an cdv ct) ps sp:=by
  refine ⟨len,fun A outer s H args us vs Q E hr e0 hb r hsp=>?_⟩
  have hl:=len _ _ _ _ hsp
  have KX:K.In s.heap:=e0.mod.kin.keeps fun b o e=>(e0.bs b o e).1
  have lim:s.heap.NoLimit:=e0.mod.nolimit.keeps fun b o e=>(e0.bs b o e).1
  have hkind:∀y∈ps.zip us,scope.names.lookup y.1=some .local\/(scope.names.lookup y.1=some .cell/\((cellsFrom (s.heap.objs.size+1) scope.names []).lookup y.1).isSome=true):=fun ⟨n,v⟩ hy=>by
    rcases S.par n (List.of_mem_zip hy).1 with q | q
    · exact .inl q
    · exact .inr ⟨q,PySem.W.cellsFrom_some _ _ _ (.inl q)⟩
  refine codeAny_call_function hr.depth (KX _ _ lk) rfl S.co S.gen rfl (PySem.W.codeRec_of KX hcd) (hb _ _ _ _ ?_)
  refine wpAny_newFunctionEnv_cells S.kind hkind fun env he s1 x=>?_
  subst he
  refine ⟨lim.keeps x.toInCall.keep,codeAny_func ?_⟩
  obtain ⟨t,ht,hq⟩:=hbody A outer s H vs Q E (hr.deeper _) hsp
  have I:Inv (cxOf CX P w K mg base N qual scope f cdv A outer s H E) [] (start N vs) H s1:=zkc S hr.hd e0 hl r x
  refine wpAny_mono (ht [] s1 (start N vs) H _ I hq) (fun fl s' hs=>?_) fun e s' hs=>hs
  have fin:∀{σ':St} {H':Hp} {v:V} {u:Value},Inv (cxOf CX P w K mg base N qual scope f cdv A outer s H E) [] σ' H' s'->RelV v u->Q v H'->CE outer P w H s Q u s' :=
    fun {σ' H' v u} J rv q=>⟨v,H',J.os,J.bare,J.base,J.hok,rv,q⟩
  cases fl with
  | ret u =>
    obtain ⟨v,σ',H',J,rv,q⟩:=hs
    exact fin J rv q
  | next =>
    obtain ⟨σ',H',J,q⟩:=hs
    exact fin (v:=V.non) (u:=Value.none) J rfl q
  | brk =>
    obtain ⟨_,_,_,q⟩:=hs
    exact False.elim q
  | cont =>
    obtain ⟨_,_,_,q⟩:=hs
    exact False.elim q
end L2
namespace L2
open PySem PySem.Spec PyProof.Rows
section
variable {X:Cx} {x:Str} {p pos:Pos} {e:Expr} {es:List Expr} {t:TA} {id T:String} {r:List V->Hp->VK->Prop}
def tCB (r:List V->Hp->VK->Prop) (t:TA):TE:=fun σ H Q=>t σ H fun vs H1=>r vs H1 Q
theorem zbv (hc:CallR X (.builtin id) r) (hg:Gl X x) (hm:X.mg x=none) (hv:bootBuiltins x=some (.builtin id)) (ha:PA X (e::es) t) (hn:x≠"__name__":=by decide) (hdb:(x == ("__debug__":Str))=false:=by decide)
  (he:starEach (e::es) X.env=(false,eval e X.env)::starEach es X.env:=by rfl) (hpl:(backTo pos (starEach es X.env)).any (·.1)=false:=by rfl):PE X (.Call (.Name x p) (e::es) [] pos) (tCB r t):=by
 intro pins s σ H Q I h
 refine wpAny_Call_Name_kw (zc6 I hg hm hv ?_ hn hdb)
 exact PyProof.Rows.callWith_builtin1 (thn (ha pos pins s σ H _ I h) fun us s1 ⟨vs,H1,I1,r1,q1⟩=>hc pins s1 σ H1 vs us Q I1 r1 q1) he hpl
theorem zdc (hc:CallR X (.type T) r) (hg:Gl X x) (hm:X.mg x=none) (hv:bootBuiltins x=some (.type T)) (ha:PA X (e::es) t) (hn:x≠"__name__":=by decide) (hdb:(x == ("__debug__":Str))=false:=by decide)
  (he:starEach (e::es) X.env=(false,eval e X.env)::starEach es X.env:=by rfl) (hpl:(backTo pos (starEach es X.env)).any (·.1)=false:=by rfl):PE X (.Call (.Name x p) (e::es) [] pos) (tCB r t):=by
 intro pins s σ H Q I h
 refine wpAny_Call_Name_kw (zc6 I hg hm hv ?_ hn hdb)
 exact PyProof.Rows.callWith_type1 (thn (ha pos pins s σ H _ I h) fun us s1 ⟨vs,H1,I1,r1,q1⟩=>hc pins s1 σ H1 vs us Q I1 r1 q1) he hpl
end
end L2
namespace HT
open PySem PyProof.Rows
section
open PySem.SeqAt
open PySem.AutoSeq1 (wpAny_loadPart')
open PySem.MeetsSeq PySem.MeetsSeq2 PySem.MeetsSeq3
end
section
variable {prog:Program} {w:World} {A:Around} {E:Value->Shared->Prop} {s:Shared}
theorem cat_tup {t b:Addr} {vs ws:List Value} {Q:Value->Shared->Prop} (ht:IsTup s.heap t vs.toArray) (hb:IsTup s.heap b ws.toArray) (hv:vs≠[])
    (h1:ws=[]->Q (.ref t) s) (h2:ws≠[]->Q (.ref s.heap.objs.size) { s with heap:=s.heap.push { cls:=.type "tuple",data:=.seq (vs++ws).toArray } })
    (hsz:vs.length+ws.length<=sizeLine):wpAny (model prog w) A (binaryOp .Add (.ref t) (.ref b)) Q E s:=by
  obtain ⟨⟨cls,dd,data,sl⟩,ho,hc,n,hd⟩:=id ht
  obtain ⟨⟨cls2,dd2,data2,sl2⟩,ho2,hc2,n2,hd2⟩:=id hb
  simp only at hc hd hc2 hd2
  subst hc hd hc2 hd2
  have e:vs.toArray++ws.toArray=(vs++ws).toArray:=by simp
  by_cases hw:ws=[]
  · exact concat_meets ⟨_,ho,rfl⟩ ⟨_,ho2,rfl⟩ noFill_tuple_add seq_tuple_add PySem.F.slot_tuple_add PySem.F.entry_tuple_add (PySem.F.args_tuple_add_2 _ _)
      (tuple_addW1 t b vs.toArray ws.toArray n n2 dd dd2 sl sl2 (by simpa using hv) (by simp [hw])) ⟨ho,ho2,h1 hw⟩
  · refine concat_meets ⟨_,ho,rfl⟩ ⟨_,ho2,rfl⟩ noFill_tuple_add seq_tuple_add PySem.F.slot_tuple_add PySem.F.entry_tuple_add (PySem.F.args_tuple_add_2 _ _)
      (tuple_addW2 t b vs.toArray ws.toArray n n2 dd dd2 sl sl2 (by simpa using hv) (by simpa using hw) (by rw [List.size_toArray,List.size_toArray]; exact hsz)) ⟨ho,ho2,?_⟩
    rw [e]
    exact h2 hw
def sIx (n d:Nat):Option Int->Nat
 | none=>d
 | some v=>if v<0 then (v+(n:Int)).toNat else min v.toNat n
theorem sIx_none (n d:Nat):sIx n d none=d:=rfl
theorem sIx_nat (n d k:Nat):sIx n d (some (k:Int))=min k n:=by
 show (if (k:Int)<0 then ((k:Int)+(n:Int)).toNat else min (k:Int).toNat n)=min k n
 rw [if_neg (by omega),Int.toNat_natCast]
end
end HT
namespace L2
open PySem PySem.Spec PyProof.Rows
abbrev TO:=St->Hp->(Option Int->Hp->Prop)->Prop
def PO (X:Cx) (e:Option Expr) (t:TO):Prop :=
 ∀(pins:List (Addr×Obj)) (s:Shared) (σ:St) (H:Hp) (Q:Option Int->Hp->Prop),Inv X pins σ H s->t σ H Q ->
  wpAny (model X.prog X.w) X.A (evalPart e X.env) (fun u s'=>∃o H',Inv X pins σ H' s'/\IsPart u o/\Q o H') X.xe s
def tNoPart:TO:=fun _ H Q=>Q none H
def tPart (t:TE):TO:=fun σ H Q=>t σ H fun x H1=>∃i,x=.int i/\Q (some i) H1
theorem zjf {ns:List Int}:∀{us:List Value},Vals (ns.map V.int) us->IntsAre us ns:=by
 induction ns with
 | nil=>intro us r; rw [List.map_nil] at r; cases r; exact .nil
 | cons n ns ih =>
  intro us r
  rw [List.map_cons] at r
  cases r with
  | cons r1 r2 =>
   obtain ⟨t,e⟩:=r1
   subst e
   exact .cons n t (ih r2)
section
variable {X:Cx} {e:Expr} {te:TE} {lo hi:Option Expr} {tl th:TO} {pos p2:Pos}
theorem zpk:PO X none tNoPart:=by
 intro pins s σ H Q I h
 rw [evalPart_none]
 exact wpAny_pure ⟨none,H,I,.none,h⟩
theorem zpl (h:PE X e te):PO X (some e) (tPart te):=by
 intro pins s σ H Q I hw
 rw [evalPart_some]
 refine thn (h pins s σ H _ I hw) fun u s1 ⟨x,H1,I1,r1,q1⟩=>?_
 obtain ⟨i,rfl,q⟩:=q1
 obtain ⟨t,rfl⟩:=r1
 exact ⟨some i,H1,I1,.int i t,q⟩
def SlR (X:Cx) (r:V->Option Int->Option Int->Hp->VK->Prop):Prop :=
 ∀(pins:List (Addr×Obj)) (s:Shared) (σ:St) (H:Hp) (x:V) (v vl vu:Value) (lo hi:Option Int) (sl:Addr) (Q:VK),Inv X pins σ H s->RelV x v->s.heap.IsSliceOf sl vl vu .none->IsPart vl lo->IsPart vu hi->r x lo hi H Q ->
  ∃T id,typeLookup (.type T) "__getitem__"=pure (some (.builtin id))/\s.TypeIs v T/\wpAny (model X.prog X.w) X.A (getItem v (.ref sl)) (EP X pins σ Q) X.xe s
def tSl (r:V->Option Int->Option Int->Hp->VK->Prop) (te:TE) (tl th:TO):TE:=fun σ H Q=>te σ H fun x H1=>tl σ H1 fun l H2=>th σ H2 fun u H3=>r x l u H3 Q
theorem zmp {r:V->Option Int->Option Int->Hp->VK->Prop} (hr:SlR X r) (he:PE X e te) (hl:PO X lo tl) (hu:PO X hi th):PE X (.Subscript e (.Slice lo hi none p2) pos) (tSl r te tl th):=by
  intro pins s σ H Q I h
  refine Subscript_ (thn (he pins s σ H _ I h) fun v s1 ⟨x,H1,I1,r1,q1⟩=>?_)
  refine wpAny_Slice (thn (hl pins s1 σ H1 _ I1 q1) fun vl s2 ⟨l,H2,I2,pl,q2⟩=>thn (hu pins s2 σ H2 _ I2 q2) fun vu s3 ⟨u,H3,I3,pu,q3⟩=>?_)
  rw [evalPart_none]
  refine wpAny_pure ?_
  have I4:Inv X pins σ H3 { s3 with heap:=s3.heap.push { cls:=.type "slice",data:=.fields #[vl,vu,.none] } }:=I3.kept (t':=s3.toks) fun b ob q=>Heap.get?_push_of_some _ q
  obtain ⟨T,id,hT,ht,hg⟩:=hr pins { s3 with heap:=s3.heap.push { cls:=.type "slice",data:=.fields #[vl,vu,.none] } } σ H3 x v vl vu l u s3.heap.objs.size Q I4 r1 (Heap.IsSliceOf.new ..) pl pu q3
  show wpAny (model X.prog X.w) X.A (subscriptTail e (.Slice lo hi none p2) v (.ref s3.heap.objs.size)) (EP X pins σ Q) X.xe { s3 with heap:=s3.heap.push { cls:=.type "slice",data:=.fields #[vl,vu,.none] } }
  exact tail_any (ops:=[.ref s3.heap.objs.size,v]) ht hT hg (by with_unfolding_all rfl)
def cutV (xs:List V) (lo hi:Option Int):List V:=(xs.drop (HT.sIx xs.length 0 lo)).take (HT.sIx xs.length xs.length hi-HT.sIx xs.length 0 lo)
theorem zg7 (xs:List V) (lo hi:Option Int):(cutV xs lo hi).length<=xs.length:=by
 unfold cutV
 rw [List.length_take,List.length_drop]
 omega
def rCatT (K:PySem.W.Frag):R2:=fun x y H Q=>∃a b xs ys,x=.ref a/\y=.ref b/\SqT K H a xs/\SqT K H b ys/\xs≠[]/\xs.length+ys.length<=sizeLine /\
 (ys=[]->Q (.ref a) H)/\(ys≠[]->∀p,H p=none->Q (.ref p) (upd H p (.tup (xs++ys))))
theorem Vals.nil_iff {xs:List V} {us:List Value} (r:Vals xs us):us=[]↔xs=[]:=by
 cases r with
 | nil=>simp
 | cons _ _=>simp
theorem zpm:OpR X (binaryOp .Add) (rCatT X.K):=by
 intro pins s σ H x y v u Q I rx ry h
 obtain ⟨a,b,xs,ys,rfl,rfl,ha,hb,hx,hz,q1,q2⟩:=h
 cases rx
 cases ry
 obtain ⟨its,r1,p1,_⟩:=I.tuple ha
 obtain ⟨its2,r2,p2,_⟩:=I.tuple hb
 refine HT.cat_tup p1 p2 (fun z=>hx (r1.nil_iff.mp z)) (fun z=>⟨.ref a,H,I,rfl,q1 (r2.nil_iff.mp z)⟩) (fun z=>?_) (by rw [← r1.length,← r2.length]; exact hz)
 refine ⟨.ref s.heap.objs.size,_,I.laid (t':=s.toks) (o:=.tup (xs++ys)) (fun b ob q=>Heap.get?_push_of_some _ q) (Nat.le_refl _) ?_,rfl,q2 (fun w=>z (r2.nil_iff.mpr w)) _ (I.hok.fresh (Nat.le_refl _))⟩
 exact ⟨by rw [List.length_append]; exact hz,_,r1.append r2,IsTup.new _ _⟩
end
end L2
namespace L2
open PySem PySem.Spec PyProof.Rows
def ixN (n:Nat) (i:Int):Option Nat:=if 0<=i then (if i<n then some i.toNat else none) else if -(n:Int)<=i then some (i+n).toNat else none
def atI {α:Type} (xs:List α) (i:Int):Option α:=(ixN xs.length i).bind fun j=>xs[j]?
theorem zg8 {n:Nat} {i:Int} {j:Nat} (h:ixN n i=some j):seqIndex? i n=some j/\j<n/\-(n:Int)<=i/\i<n:=by
 unfold ixN at h
 by_cases h0:0<=i
 ·rw [if_pos h0] at h
  by_cases h1:i<n
  ·rw [if_pos h1] at h
   have e:i.toNat=j:=Option.some.inj h
   exact ⟨by rw [seqIndex_of h0 h1,e],by omega,by omega,h1⟩
  ·rw [if_neg h1] at h; cases h
 ·rw [if_neg h0] at h
  by_cases h1:-(n:Int)<=i
  ·rw [if_pos h1] at h
   have e:(i+n).toNat=j:=Option.some.inj h
   exact ⟨by rw [seqIndex_neg (by omega) h1,e],by omega,h1,by omega⟩
  ·rw [if_neg h1] at h; cases h
theorem zez {α:Type} {xs:List α} {i:Int} {v:α} (h:atI xs i=some v):∃j,seqIndex? i xs.length=some j/\xs[j]?=some v/\j<xs.length/\-(xs.length:Int)<=i/\i<xs.length:=by
 unfold atI at h
 cases e:ixN xs.length i with
 | none=>rw [e] at h; cases h
 | some j =>
  rw [e] at h
  obtain ⟨h1,h2,h3,h4⟩:=zg8 e
  exact ⟨j,h1,h,h2,h3,h4⟩
theorem ui {α:Type} {xs:List α} {j:Nat} {v:α} (h:xs[j]?=some v):atI xs (j:Int)=some v:=by
 have hj:j<xs.length:=(List.getElem?_eq_some_iff.mp h).1
 have e:ixN xs.length (j:Int)=some j:=by
  unfold ixN
  rw [if_pos (by omega),if_pos (by omega)]; simp
 unfold atI; rw [e]; exact h
def PlainIx (b:Expr):Prop:=∀o i,subscripted b false o i=operate [o,i] (getItem o i)
def IxR (X:Cx) (r:R2):Prop :=
 ∀(value slice:Expr) (pins:List (Addr×Obj)) (s:Shared) (σ:St) (H:Hp) (x y:V) (v u:Value) (Q:VK),Inv X pins σ H s->RelV x v->RelV y u->r x y H Q ->
  subscripted slice false v u=operate [v,u] (getItem v u)->wpAny (model X.prog X.w) X.A (subscriptTail value slice v u) (EP X pins σ Q) X.xe s
def MtR (X:Cx) (id:String) (r:V->List V->Hp->VK->Prop):Prop :=
 ∀(pins:List (Addr×Obj)) (s:Shared) (σ:St) (H:Hp) (x:V) (xs:List V) (v:Value) (us:List Value) (Q:VK),Inv X pins σ H s->RelV x v->Vals xs us->r x xs H Q ->
  wpAny (model X.prog X.w) X.A (call (.builtin id) (v::us)) (EP X pins σ Q) X.xe s
section
variable {X:Cx} {a b:Expr} {ta tb:TE} {pos:Pos}
theorem IxR.or {r r':R2} (h:IxR X r) (h':IxR X r'):IxR X (fun x y H Q=>r x y H Q\/r' x y H Q):=by
 intro value slice pins s σ H x y v u Q I rx ry q hs
 rcases q with q | q
 ·exact h value slice pins s σ H x y v u Q I rx ry q hs
 ·exact h' value slice pins s σ H x y v u Q I rx ry q hs
theorem zti {r:R2} (hr:IxR X r) (ha:PE X a ta) (hb:PE X b tb) (hs:PlainIx b):PE X (.Subscript a b pos) (tOp r ta tb):=by
 intro pins s σ H Q I h
 exact Subscript_ (binT ha hb I h fun v u s2 x y H2 I2 rx ry q=>hr a b pins s2 σ H2 x y v u Q I2 rx ry q (hs _ _))
def rIxL (K:PySem.W.Frag):R2:=fun x y H Q=>∃p xs i v,x=.ref p/\y=.int i/\SqL K H p xs/\atI xs i=some v/\Q v H
def rIxT (K:PySem.W.Frag):R2:=fun x y H Q=>∃p xs i v,x=.ref p/\y=.int i/\SqT K H p xs/\atI xs i=some v/\Q v H
def rIxS:R2:=fun x y H Q=>∃z i c,x=.str z/\y=.int i/\z.length<=sizeLine/\atI z.cps.toList i=some c/\Q (.str ⟨#[c]⟩) H
theorem zpn:IxR X (rIxL X.K):=by
 intro value slice pins s σ H x y v u Q I rx ry h hs
 obtain ⟨p,xs,i,z,rfl,rfl,hq,he,q⟩:=h
 cases rx
 obtain ⟨t,rfl⟩:=ry
 obtain ⟨its,r,pl,hz⟩:=I.list hq
 obtain ⟨j,h1,h2,h3,h4,h5⟩:=zez he
 obtain ⟨w,ew,rw'⟩:=r.get h2
 have hl:=r.length
 have hn:=line63
 have fin:EP X pins σ Q w s:=⟨z,H,I,rw',q⟩
 by_cases h0:0<=i
 ·have hj:i.toNat=j:=by
   rw [seqIndex_of h0 h5] at h1
   exact Option.some.inj h1
  exact item_listR pl.isList h0 (by omega) (by rw [hj]; simpa using ew) fin hs
 ·have hj:(i+(its.toArray.size:Int)).toNat=j:=by
   rw [seqIndex_neg (by omega) h4] at h1
   rw [List.size_toArray,← hl]
   exact Option.some.inj h1
  exact subscriptTail_builtinR (x:=w) pl.isList.typeIs slot_list_getitem.lookup
   (wpAny_getItem_list_neg (Q:=fun r s'=>r=w/\EP X pins σ Q r s') pl.isList (by omega) (by rw [List.size_toArray] <;> omega) (by omega) (by rw [hj]; simpa using ew) ⟨rfl,fin⟩) hs
theorem zr1:IxR X (rIxT X.K):=by
 intro value slice pins s σ H x y v u Q I rx ry h hs
 obtain ⟨p,xs,i,z,rfl,rfl,hq,he,q⟩:=h
 cases rx
 obtain ⟨t,rfl⟩:=ry
 obtain ⟨its,r,pl,hz⟩:=I.tuple hq
 obtain ⟨j,h1,h2,h3,h4,h5⟩:=zez he
 obtain ⟨w,ew,rw'⟩:=r.get h2
 have hl:=r.length
 have hn:=line63
 have fin:EP X pins σ Q w s:=⟨z,H,I,rw',q⟩
 exact subscriptTail_builtinR (x:=w) pl.typeIs slot_tuple_getitem.lookup
  (getItem_tuple (j:=j) (Q:=fun r s'=>r=w/\EP X pins σ Q r s') pl (by omega) (by omega) (by rw [List.size_toArray,← hl]; exact h1) (by simpa using ew) ⟨rfl,fin⟩) hs
theorem zr2:IxR X rIxS:=by
 intro value slice pins s σ H x y v u Q I rx ry h hs
 obtain ⟨z,i,c,rfl,rfl,hz,he,q⟩:=h
 obtain ⟨t,rfl⟩:=rx
 obtain ⟨t',rfl⟩:=ry
 obtain ⟨j,h1,h2,h3,h4,h5⟩:=zez he
 have hl:z.cps.toList.length=z.length:=by simp [Str.length]
 rw [hl] at h1 h4 h5
 have hn:=line63
 exact tail_any (typeIs_str s z t) slot_str_getitem.lookup (getItem_str (c:=c) (by
  have e1:decide (i < -(2 ^ 63:Int))=false:=decide_eq_false (by omega)
  have e2:decide (i >= 2 ^ 63)=false:=decide_eq_false (by omega)
  rw [e1,e2,Bool.or_false]) (by rw [h1]; simpa using h2) ⟨.str ⟨#[c]⟩,H,I.tok _,⟨_,rfl⟩,q⟩) hs
def rIx (K:PySem.W.Frag):R2:=fun x y H Q=>rIxL K x y H Q\/rIxT K x y H Q\/rIxS x y H Q
theorem zm:IxR X (rIx X.K):=zpn.or (zr1.or zr2)
theorem zjg (its:List Value) (n j:Nat) (u:Value):Obj.mapSeq (·.setIfInBounds j u) { cls:=.type "list",data:=.seq its.toArray n } = { cls:=.type "list",data:=.seq (its.set j u).toArray n }:=by
  simp [Obj.mapSeq]
theorem Inv.lst {pins:List (Addr×Obj)} {σ:St} {H:Hp} {s:Shared} {p:Addr} {xs:List V} (I:Inv X pins σ H s) (h:H p=some (.lst xs)) :
    ∃(its:List Value) (n:Nat),Vals xs its/\s.heap.get? p=some { cls:=.type "list",data:=.seq its.toArray n }/\xs.length<=sizeLine:=by
  obtain ⟨z,its,n,r,e⟩:=I.hok p _ h
  exact ⟨its,n,r,e,z⟩
theorem Inv.lstUpd {pins:List (Addr×Obj)} {σ:St} {H:Hp} {s:Shared} {p:Addr} {xs ys:List V} {its its':List Value} {n n':Nat} {f:Obj->Obj} (I:Inv X pins σ H s) (h:H p=some (.lst xs))
    (ho:s.heap.get? p=some { cls:=.type "list",data:=.seq its.toArray n }) (hf:f { cls:=.type "list",data:=.seq its.toArray n } = { cls:=.type "list",data:=.seq its'.toArray n' }) (r:Vals ys its') (hz:ys.length<=sizeLine) (t:Nat) :
    Inv X pins σ (upd H p (.lst ys)) { s with heap:=s.heap.update p f,toks:=t }:=by
  have e:(s.heap.update p f).get? p=some { cls:=.type "list",data:=.seq its'.toArray n' }:=by
    rw [Heap.get?_update_self f ho (by rw [hf] <;> rfl),hf]
  refine I.write (x:=p) (e:=p) (by rw [h]; trivial) (.inl rfl) (fun b u hb q=>(Heap.get?_update_other _ _ (Ne.symm hb)).trans q) ⟨_,e⟩ ?_
  exact ⟨hz,its',n',r,e⟩
def rSetL:V->V->V->Hp->(Hp->Prop)->Prop:=fun o i v H Q=>∃p xs k j,o=.ref p/\i=.int k/\H p=some (.lst xs)/\ixN xs.length k=some j/\Q (upd H p (.lst (xs.set j v)))
theorem zh3:PSet X rSetL:=by
 intro pins s σ H o i v ov iv u Q I ro ri rv h
 obtain ⟨p,xs,k,j,rfl,rfl,hp,hj,q⟩:=h
 cases ro
 obtain ⟨t,rfl⟩:=ri
 obtain ⟨its,n,r,ho,hz⟩:=I.lst hp
 obtain ⟨h1,h2,h3,h4⟩:=zg8 hj
 have hl:=r.length
 have hn:=line63
 have I':Inv X pins σ (upd H p (.lst (xs.set j v))) { s with heap:=s.heap.update p (Obj.mapSeq (·.setIfInBounds j u)) } :=
  I.lstUpd hp ho (zjg its n j u) (r.set rv j) (by rw [List.length_set]; exact hz) s.toks
 by_cases h0:0<=k
 ·have hk:k.toNat=j:=by
   rw [seqIndex_of h0 h4] at h1
   exact Option.some.inj h1
  exact PySem.W.ki_setAt ho h0 (by omega) (by rw [List.size_toArray,← hl]; exact h4) (by rw [hk]; exact ⟨_,I',q⟩)
 ·have hk:(k+(its.toArray.size:Int)).toNat=j:=by
   rw [seqIndex_neg (by omega) h3] at h1
   rw [List.size_toArray,← hl]
   exact Option.some.inj h1
  exact PySem.W.ki_setBack ho (by omega) (by rw [List.size_toArray,← hl]; exact h3) (by omega) (by rw [hk]; exact ⟨_,I',q⟩)
theorem zfz (lo hi:Option Int) (n:Nat):(sliceBounds lo hi none n).1=((HT.sIx n 0 lo:Nat):Int)/\(sliceBounds lo hi none n).2.1=((HT.sIx n n hi:Nat):Int)/\(sliceBounds lo hi none n).2.2=1:=by
 refine ⟨?_,?_,rfl⟩
 ·cases lo with
  | none=>simp [sliceBounds,HT.sIx]
  | some i =>
   simp only [sliceBounds,HT.sIx,Option.getD_none,show (1:Int) > 0 by decide,if_true]
   by_cases h:i<0
   ·simp only [h,if_true] <;> omega
   ·simp only [h,if_false] <;> omega
 ·cases hi with
  | none=>simp [sliceBounds,HT.sIx]
  | some i =>
   simp only [sliceBounds,HT.sIx,Option.getD_none,show (1:Int) > 0 by decide,if_true]
   by_cases h:i<0
   ·simp only [h,if_true] <;> omega
   ·simp only [h,if_false] <;> omega
theorem ze0 (its:List Value) (lo hi:Option Int):slicePick its.toArray lo hi none=((its.drop (HT.sIx its.length 0 lo)).take (HT.sIx its.length its.length hi-HT.sIx its.length 0 lo)).toArray:=by
 obtain ⟨h1,h2,h3⟩:=zfz lo hi its.toArray.size
 unfold slicePick
 rw [h1,h2,h3]
 simp only [sliceRange_one,pick_run,List.size_toArray] <;> rfl
def rSlL (K:PySem.W.Frag):V->Option Int->Option Int->Hp->VK->Prop:=fun x lo hi H Q=>∃a xs,x=.ref a/\SqL K H a xs/\∀p,H p=none->Q (.ref p) (upd H p (.lst (cutV xs lo hi)))
theorem zpo:SlR X (rSlL X.K):=by
 intro pins s σ H x v vl vu lo hi sl Q I rx hs pl pu h
 obtain ⟨a,xs,rfl,hx,q⟩:=h
 cases rx
 obtain ⟨its,r,ht,hz⟩:=I.list hx
 have hlen:=r.length
 refine ⟨"list",_,slot_list_getitem.lookup,ht.isList.typeIs,?_⟩
 refine wpAny_getItem_list_slice ht.isList hs pl pu .none (by simp) ?_ (by rw [List.size_toArray] <;> omega)
 rw [ze0,← hlen]
 refine ⟨.ref s.heap.objs.size,_,I.laid (t':=s.toks) (o:=.lst (cutV xs lo hi)) (fun b ob q=>Heap.get?_push_of_some _ q) (Nat.le_refl _) ?_,rfl,q _ (I.hok.fresh (Nat.le_refl _))⟩
 exact ⟨Nat.le_trans (zg7 xs lo hi) hz,_,0,(r.drop (HT.sIx xs.length 0 lo)).take (HT.sIx xs.length xs.length hi-HT.sIx xs.length 0 lo),Heap.get?_push_size _ rfl⟩
def flatV:V->Bool
 | .non=>true
 | .bl _=>true
 | .int _=>true
 | .str _=>true
 | _=>false
def eqV:V->V->Bool
 | .non,.non=>true
 | .bl a,.bl b=>a == b
 | .bl a,.int b=>(if a then 1 else 0) == b
 | .int a,.bl b=>a == (if b then 1 else 0)
 | .int a,.int b=>a == b
 | .str a,.str b=>a == b
 | _,_=>false
theorem zr3 {A:Around} {s:Shared} {y x:V} {u v:Value} (ry:RelV y u) (rx:RelV x v) (fy:flatV y=true) (fx:flatV x=true):SeqAt.EqAt A s u v (eqV y x):=by
 cases y with
 | non =>
  cases ry
  cases x with
  | non=>cases rx; exact SeqAt.EqAt.same _
  | bl b=>cases rx; exact SeqAt.EqAt.none_bool b
  | int b=>obtain ⟨t,rfl⟩:=rx; exact SeqAt.EqAt.none_int b t
  | str b=>obtain ⟨t,rfl⟩:=rx; exact SeqAt.EqAt.none_str b t
  | _=>exact absurd (show false=true from fx) Bool.false_ne_true
 | bl a =>
  cases ry
  cases x with
  | non=>cases rx; exact SeqAt.EqAt.bool_none a
  | bl b=>cases rx; exact SeqAt.EqAt.bool_bool a b
  | int b=>obtain ⟨t,rfl⟩:=rx; exact SeqAt.EqAt.bool_int a b t
  | str b=>obtain ⟨t,rfl⟩:=rx; exact SeqAt.EqAt.bool_str a b t
  | _=>exact absurd (show false=true from fx) Bool.false_ne_true
 | int a =>
  obtain ⟨t',rfl⟩:=ry
  cases x with
  | non=>cases rx; exact SeqAt.EqAt.int_none a t'
  | bl b=>cases rx; exact SeqAt.EqAt.int_bool a t' b
  | int b=>obtain ⟨t,rfl⟩:=rx; exact SeqAt.EqAt.int_int a t' b t
  | str b=>obtain ⟨t,rfl⟩:=rx; exact SeqAt.EqAt.int_str a t' b t
  | _=>exact absurd (show false=true from fx) Bool.false_ne_true
 | str a =>
  obtain ⟨t',rfl⟩:=ry
  cases x with
  | non=>cases rx; exact SeqAt.EqAt.str_none a t'
  | bl b=>cases rx; exact SeqAt.EqAt.str_bool a t' b
  | int b=>obtain ⟨t,rfl⟩:=rx; exact SeqAt.EqAt.str_int a t' b t
  | str b=>obtain ⟨t,rfl⟩:=rx; exact SeqAt.EqAt.str_str a t' b t
  | _=>exact absurd (show false=true from fx) Bool.false_ne_true
 | _=>exact absurd (show false=true from fy) Bool.false_ne_true
def eqU (x:V) (u:Value):Bool:=match u with
 | .none=>eqV .non x
 | .bool b=>eqV (.bl b) x
 | .int i _=>eqV (.int i) x
 | .str z _=>eqV (.str z) x
 | _=>false
theorem zkd {x y:V} {u:Value} (r:RelV y u) (f:flatV y=true):eqU x u=eqV y x:=by
 cases y with
 | non=>cases r; rfl
 | bl b=>cases r; rfl
 | int i=>obtain ⟨t,rfl⟩:=r; rfl
 | str z=>obtain ⟨t,rfl⟩:=r; rfl
 | _=>exact absurd (show false=true from f) Bool.false_ne_true
theorem zdd {x:V}:∀{xs:List V} {us:List Value},Vals xs us->xs.all flatV=true->us.any (eqU x)=xs.any fun y=>eqV y x
 | _,_,.nil,_=>rfl
 | y::xs,u::us,.cons r t,f=>by
  rw [List.all_cons,Bool.and_eq_true] at f
  rw [List.any_cons,List.any_cons,zkd r f.1,zdd t f.2]
theorem za9 {A:Around} {s:Shared} {x:V} {v:Value} (rx:RelV x v) (fx:flatV x=true):∀{xs:List V} {us:List Value},Vals xs us->xs.all flatV=true->∀u∈us,SeqAt.EqAt A s u v (eqU x u)
 | _,_,.nil,_=>fun u hu=>by cases hu
 | y::xs,u::us,.cons r t,f=>fun u' hu=>by
  rw [List.all_cons,Bool.and_eq_true] at f
  rcases List.mem_cons.mp hu with rfl | hu
  ·rw [zkd r f.1]; exact zr3 r rx f.1 fx
  ·exact za9 rx fx t f.2 u' hu
def inV (x:V) (xs:List V):Bool:=xs.any fun y=>eqV y x
def rIn (K:PySem.W.Frag) (neg:Bool):R2:=fun x y H Q=>∃p xs,y=.ref p/\(SqL K H p xs\/SqT K H p xs)/\flatV x=true/\xs.all flatV=true/\Q (.bl (if neg then !inV x xs else inV x xs)) H
theorem qp:OpR X (compareOp .In) (rIn X.K false):=by
 intro pins s σ H x y v u Q I rx ry h
 obtain ⟨p,xs,rfl,hq,fx,fs,q⟩:=h
 cases ry
 rcases hq with hq | hq
 ·obtain ⟨its,r,pl,hz⟩:=I.list hq
  refine SeqAt.in_listAt (eqU x) pl.isList (fun w hw=>za9 rx fx r fs w (by simpa using hw)) ⟨.bl _,H,I,rfl,?_⟩
  rw [show its.toArray.any (eqU x)=its.any (eqU x) by simp,zdd r fs]
  exact q
 ·obtain ⟨its,r,pl,hz⟩:=I.tuple hq
  refine SeqAt.in_tupleAt (eqU x) pl (fun w hw=>za9 rx fx r fs w (by simpa using hw)) ⟨.bl _,H,I,rfl,?_⟩
  rw [show its.toArray.any (eqU x)=its.any (eqU x) by simp,zdd r fs]
  exact q
theorem qd:OpR X (compareOp .NotIn) (rIn X.K true):=by
 intro pins s σ H x y v u Q I rx ry h
 obtain ⟨p,xs,rfl,hq,fx,fs,q⟩:=h
 cases ry
 rcases hq with hq | hq
 ·obtain ⟨its,r,pl,hz⟩:=I.list hq
  refine SeqAt.notIn_listAt (eqU x) pl.isList (fun w hw=>za9 rx fx r fs w (by simpa using hw)) ⟨.bl _,H,I,rfl,?_⟩
  rw [show its.toArray.any (eqU x)=its.any (eqU x) by simp,zdd r fs]
  exact q
 ·obtain ⟨its,r,pl,hz⟩:=I.tuple hq
  refine SeqAt.notIn_tupleAt (eqU x) pl (fun w hw=>za9 rx fx r fs w (by simpa using hw)) ⟨.bl _,H,I,rfl,?_⟩
  rw [show its.toArray.any (eqU x)=its.any (eqU x) by simp,zdd r fs]
  exact q
theorem zf0:CallR X (.builtin "len") (fun xs H Q=>∃p ys,xs=[.ref p]/\(SqL X.K H p ys\/SqT X.K H p ys)/\Q (.int ys.length) H):=by
 intro pins s σ H xs us Q I r h
 obtain ⟨p,ys,rfl,hq,q⟩:=h
 obtain ⟨u,rfl,rx⟩:=vals1 r
 cases rx
 have hn:=line63
 rcases hq with hq | hq
 ·obtain ⟨its,r',pl,hz⟩:=I.list hq
  have hlen:=r'.length
  exact Calls.call_len_list pl.isList (by simp only [List.size_toArray] <;> omega) ⟨.int ys.length,H,I.tok _,⟨s.toks+1,by rw [List.size_toArray,hlen]⟩,q⟩
 ·obtain ⟨its,r',pl,hz⟩:=I.tuple hq
  have hlen:=r'.length
  exact len_tuple pl (by simp only [List.size_toArray] <;> omega) ⟨.int ys.length,H,I.tok _,⟨s.toks+1,by rw [List.size_toArray,hlen]⟩,q⟩
theorem zf1:CallR X (.builtin "len") (fun xs H Q=>∃z,xs=[.str z]/\z.length<=sizeLine/\Q (.int z.length) H):=by
 intro pins s σ H xs us Q I r h
 obtain ⟨z,rfl,hz,q⟩:=h
 obtain ⟨u,rfl,t,rfl⟩:=vals1 r
 have hn:=line63
 exact len_str (by omega) ⟨.int z.length,H,I.tok _,⟨_,rfl⟩,q⟩
theorem CallR.or {f:Value} {r r':List V->Hp->VK->Prop} (h:CallR X f r) (h':CallR X f r'):CallR X f (fun xs H Q=>r xs H Q\/r' xs H Q):=by
 intro pins s σ H xs us Q I rs q
 rcases q with q | q
 ·exact h pins s σ H xs us Q I rs q
 ·exact h' pins s σ H xs us Q I rs q
theorem qf:CallR X (.type "list") (fun xs H Q=>∃p ys,xs=[.ref p]/\(SqL X.K H p ys\/SqT X.K H p ys)/\∀l,H l=none->Q (.ref l) (upd H l (.lst ys))):=by
  intro pins s σ H xs us Q I r h
  obtain ⟨p,ys,rfl,hq,q⟩:=h
  obtain ⟨u,rfl,rx⟩:=vals1 r
  cases rx
  have fin:∀(its:List Value),Vals ys its->ys.length<=sizeLine->∀(h':Heap) (c':Nat),(∀b o',s.heap.get? b=some o'->h'.get? b=some o') ->
      h'.get? s.heap.objs.size=some { cls:=.type "list",dict:=none,data:=.seq its.toArray c',slots:=#[] }->EP X pins σ Q (.ref s.heap.objs.size) { s with heap:=h' }:=fun its r' hz h' c' kp e =>
    ⟨.ref s.heap.objs.size,_,I.laid (t':=s.toks) kp (Nat.le_refl _) (show ObjOk X.prog X.w _ h' _ (.lst ys) from ⟨hz,its,c',r',e⟩),rfl,q _ (I.hok.fresh (Nat.le_refl _))⟩
  rcases hq with hq | hq
  · obtain ⟨its,r',pl,hz⟩:=I.list hq
    have hlen:=r'.length
    obtain ⟨o,ho,hc,n,hd⟩:=pl.isList
    exact call_list_seq p (.inl rfl) ho hc hd (fun h' c' kp e=>fin its r' hz h' c' kp e) (by simp only [List.size_toArray] <;> omega)
  · obtain ⟨its,r',pl,hz⟩:=I.tuple hq
    have hlen:=r'.length
    obtain ⟨o,ho,hc,n,hd⟩:=pl
    exact call_list_seq p (.inr rfl) ho hc hd (fun h' c' kp e=>fin its r' hz h' c' kp e) (by simp only [List.size_toArray] <;> omega)
def tyV (K:PySem.W.Frag) (T:String) (x:V) (H:Hp):Prop:=match x with
 | .str _=>T = "str"
 | .int _=>T = "int"
 | .ref p=>(T = "list"/\∃xs,SqL K H p xs)\/(T = "tuple"/\∃o,K.lookup p=some o/\o.cls=.type "tuple"/\o.dict=none) \/
   (T = "dict"/\((∃kvs,H p=some (.dK kvs))\/∃kvs,H p=some (.dT kvs)))\/(T = "set"/\∃S n,H p=some (.set S n))
 | _=>False
theorem zr4 {pins:List (Addr×Obj)} {σ:St} {H:Hp} {s:Shared} {T:String} {x:V} {v:Value} (I:Inv X pins σ H s) (r:RelV x v) (ty:tyV X.K T x H) :
  s.TypeIs v T/\∀a,v=.ref a->∃ob,s.heap.get? a=some ob/\ob.dict=none:=by
 cases x with
 | str z =>
  obtain ⟨t,rfl⟩:=r
  cases (show T = "str" from ty)
  exact ⟨typeIs_str s z t,fun _ e=>nomatch e⟩
 | int i =>
  obtain ⟨t,rfl⟩:=r
  cases (show T = "int" from ty)
  exact ⟨typeIs_int s i t,fun _ e=>nomatch e⟩
 | ref p =>
  cases r
  rcases ty with ⟨rfl,xs,hq⟩ | ⟨rfl,o,hk,hc,hd⟩ | ⟨rfl,hk⟩ | ⟨rfl,S,n,hk⟩
  ·obtain ⟨its,_,pl,_⟩:=I.list hq
   refine ⟨pl.isList.typeIs,fun a e=>?_⟩
   cases e
   obtain ⟨o,n,e,c,hd,_⟩:=pl
   exact ⟨o,e,hd⟩
  ·refine ⟨⟨o,I.kIn p o hk,hc⟩,fun a e=>?_⟩
   cases e
   exact ⟨o,I.kIn _ o hk,hd⟩
  ·have z:∃o,s.heap.get? p=some o/\o.ExactDict:=by
    rcases hk with ⟨kvs,hk⟩ | ⟨kvs,hk⟩
    ·obtain ⟨_,_,_,_,o,_,_,e,ex,_⟩:=I.hok p _ hk
     exact ⟨o,e,ex⟩
    ·obtain ⟨_,_,_,_,o,_,_,e,ex,_⟩:=I.hok p _ hk
     exact ⟨o,e,ex⟩
   obtain ⟨o,e,ex⟩:=z
   refine ⟨⟨o,e,ex.1⟩,fun a e2=>?_⟩
   cases e2
   exact ⟨o,e,ex.2.1⟩
  ·obtain ⟨o,_,_,_,e,ex,_⟩:=I.hok p _ hk
   refine ⟨⟨o,e,ex.1⟩,fun a e2=>?_⟩
   cases e2
   exact ⟨o,e,ex.2.1⟩
 | _=>exact False.elim ty
def tBM (K:PySem.W.Frag) (T:String) (r:V->List V->Hp->VK->Prop) (to:TE) (t:TA):TE:=fun σ H Q=>to σ H fun x H1=>tyV K T x H1/\t σ H1 fun xs H2=>r x xs H2 Q
variable {o e:Expr} {es:List Expr} {to:TE} {t:TA} {name:Str} {apos cpos:Pos} {T id:String} {r:V->List V->Hp->VK->Prop}
theorem zmq (pa:PlainAttrs T) (slot:Slot T name id) (hty:typeOf (.builtin id)=pure (.type "method_descriptor")) (hm:MtR X id r) (ho:PE X o to) (ha:PA X (e::es) t)
  (hbase:attributeBase o name X.env (eval o X.env)=eval o X.env:=by rfl)
  (hfew:((backTo cpos (starEach (e::es) X.env)).all (fun x=>!x.1) && (backToKw cpos (keywordEach [] X.env)).all (fun x=>x.1.isSome)
   && decide ((e::es).length+([]:List Keyword).length+(if ([]:List Keyword).isEmpty then 0 else 1)<30))=true:=by rfl)
  (hline:(apos.endLine == cpos.line)=true:=by rfl) (hs:starEach (e::es) X.env=(false,eval e X.env)::starEach es X.env:=by rfl) (hplain:(backTo cpos (starEach es X.env)).any (·.1)=false:=by rfl) :
  PE X (.Call (.Attribute o name apos) (e::es) [] cpos) (tBM X.K T r to t):=by
 intro pins s σ H Q I h
 refine wpAny_Call_method_late hbase hfew hline rfl (thn (ho pins s σ H _ I h) fun v s1 ⟨x,H1,I1,r1,ty,q1⟩=>?_)
 obtain ⟨h1,h2⟩:=zr4 I1 r1 ty
 refine ⟨T,id,pa,slot,hty,h1,h2,?_⟩
 have hA:=ha cpos pins s1 σ H1 _ I1 q1
 rw [hs] at hA ⊢
 refine Calls.callWith_builtin (by show (false || (backTo cpos (starEach es X.env)).any (·.1))=false; rw [hplain] <;> rfl) (Calls.evalArgs_plain ?_)
 exact thn hA fun us s2 ⟨vs,H2,I2,r2,q2⟩=>hm pins s2 σ H2 x vs v us Q I2 r1 r2 q2
end
end L2
namespace L2
open PySem PySem.Spec PyProof.Rows
def MtM (X:Cx) (id:String) (r:V->List V->Hp->VK->Prop):Prop :=
 ∀(pins:List (Addr×Obj)) (s:Shared) (σ:St) (H:Hp) (x:V) (xs:List V) (v:Value) (us:List Value) (Q:VK),Inv X pins σ H s->RelV x v->Vals xs us->r x xs H Q ->
  wpAny (model X.prog X.w) X.A (call (.builtin id) (v::us)) (EP X pins σ Q) X.xe s
theorem Vals.one:∀{x:V} {us:List Value},Vals [x] us->∃u,us=[u]/\RelV x u
 | _,_,.cons r .nil=>⟨_,rfl,r⟩
theorem Vals.eraseIdx:∀{xs:List V} {us:List Value} (i:Nat),Vals xs us->Vals (xs.eraseIdx i) (us.eraseIdx i)
 | _,_,_,.nil=>.nil
 | _,_,0,.cons _ t=>t
 | _,_,i+1,.cons r t=>.cons r (Vals.eraseIdx i t)
theorem Vals.rep {xs:List V} {us:List Value} (h:Vals xs us):∀k:Nat,Vals (List.replicate k xs).flatten (List.replicate k us).flatten
 | 0=>.nil
 | k+1=>by
  rw [List.replicate_succ,List.replicate_succ,List.flatten_cons,List.flatten_cons]
  exact Vals.append h (Vals.rep h k)
theorem zf2 {α:Type}:∀(l:List α) (i:Nat),(l.eraseIdx i).length<=l.length
 | [],_=>Nat.le_refl _
 | _::_,0=>Nat.le_succ _
 | _::r,i+1=>Nat.succ_le_succ (zf2 r i)
theorem zf3 (its:List Value):∀(k:Nat) (acc:List Value),
  List.foldl (fun x1 x2=>x1++x2) acc.toArray (List.replicate k its.toArray)=(acc++(List.replicate k its).flatten).toArray
 | 0,acc=>by simp
 | k+1,acc=>by
  have e:acc.toArray++its.toArray=(acc++its).toArray:=by simp
  have e2:(acc++its)++(List.replicate k its).flatten=acc++(List.replicate (k+1) its).flatten:=by
   rw [List.replicate_succ,List.flatten_cons,List.append_assoc]
  rw [← e2,← zf3 its k (acc++its),← e,List.replicate_succ,List.foldl_cons]
section
variable {X:Cx} {pins:List (Addr×Obj)} {σ:St} {H:Hp} {s:Shared} {l b:Addr} {xs ys zs:List V}
theorem Inv.lset {its its':List Value} {n:Nat} {f:Array Value->Array Value} {t':Nat} (I:Inv X pins σ H s) (hH:H l=some (.lst xs))
    (e:s.heap.get? l=some { cls:=.type "list",data:=.seq its.toArray n }) (hf:f its.toArray=its'.toArray) (hv:Vals ys its') (hz:ys.length<=sizeLine) :
    Inv X pins σ (upd H l (.lst ys)) { s with heap:=s.heap.update l (Obj.mapSeq f),toks:=t' }:=by
  have q:=PySem.IsL.update e f
  rw [hf] at q
  refine I.write (x:=l) (e:=l) (by rw [hH]; exact trivial) (.inl rfl) (fun b' u hb hu=>(Heap.get?_update_other s.heap (Obj.mapSeq f) (Ne.symm hb)).trans hu) ⟨_,q⟩ ?_
  exact ⟨hz,its',_,hv,q⟩
theorem Inv.lnew {its:List Value} {t':Nat} (I:Inv X pins σ H s) (hv:Vals ys its) (hz:ys.length<=sizeLine) :
    Inv X pins σ (upd H s.heap.objs.size (.lst ys)) { s with heap:=s.heap.push { cls:=.type "list",data:=.seq its.toArray },toks:=t' } :=
  I.laid (fun _ _ q=>Heap.get?_push_of_some _ q) (Nat.le_refl _) ⟨hz,its,0,hv,Heap.get?_push_size _ rfl⟩
theorem Inv.fresh (I:Inv X pins σ H s):H s.heap.objs.size=none:=I.hok.fresh (Nat.le_refl _)
theorem Inv.lstM (I:Inv X pins σ H s) (hH:H l=some (.lst xs)):xs.length<=sizeLine/\∃(its:List Value) (n:Nat),Vals xs its/\xs.length=its.length/\s.heap.get? l=some { cls:=.type "list",data:=.seq its.toArray n }:=by
  obtain ⟨z,its,n,r,e⟩:=I.hok l _ hH
  exact ⟨z,its,n,r,r.length,e⟩
theorem notLongL {n:Nat} (h:n<=sizeLine):Builtin.List.listTooLong n=false:=by
 unfold Builtin.List.listTooLong
 exact decide_eq_false (by omega)
end
section
variable {X:Cx}
def rAppend:V->List V->Hp->VK->Prop:=fun x vs H Q=>∃l xs y,x=.ref l/\vs=[y]/\H l=some (.lst xs)/\xs.length<sizeLine/\Q .non (upd H l (.lst (xs++[y])))
theorem zbw:MtM X "list.append" rAppend:=by
 intro pins s σ H x vs v us Q I rx rv h
 obtain ⟨l,xs,y,rfl,rfl,hH,hz,q⟩:=h
 cases rx
 obtain ⟨u,rfl,ru⟩:=rv.one
 obtain ⟨z,its,n,r,hl,e⟩:=I.lstM hH
 refine call_meets F.slot_list_append ⟨_,e,rfl⟩ F.entry_list_append (F.args_list_append_2 _ _) (PySem.list_append l its.toArray n u (by rw [List.size_toArray]; omega)) ⟨e,?_⟩
 refine ⟨.non,_,I.lset (its':=its++[u]) hH e (by simp) (r.append (.cons ru .nil)) ?_,rfl,q⟩
 rw [List.length_append,List.length_singleton]
 omega
def rPopAt:V->List V->Hp->VK->Prop:=fun x vs H Q=>∃l xs i k y,x=.ref l/\vs=[.int i]/\H l=some (.lst xs)/\-(2 ^ 63)<=i/\i<2 ^ 63/\seqIndex? i xs.length=some k/\xs[k]?=some y/\Q y (upd H l (.lst (xs.eraseIdx k)))
theorem zmr:MtM X "list.pop" rPopAt:=by
 intro pins s σ H x vs v us Q I rx rv h
 obtain ⟨l,xs,i,k,y,rfl,rfl,hH,h1,h2,hk,hy,q⟩:=h
 cases rx
 obtain ⟨u,rfl,ru⟩:=rv.one
 obtain ⟨t,rfl⟩:=ru
 obtain ⟨z,its,n,r,hl,e⟩:=I.lstM hH
 obtain ⟨w,hw,rw'⟩:=r.get hy
 refine call_meets F.slot_list_pop ⟨_,e,rfl⟩ F.entry_list_pop (F.args_list_pop_2 _ _)
  (MeetsSeq.list_pop_at l its.toArray n i t k w (fitsIndex_both h1 h2) (by rw [List.size_toArray,← hl]; exact hk) (by rw [← Array.getElem?_toList]; exact hw) (by rw [List.size_toArray]; omega)) ⟨e,?_⟩
 refine ⟨y,_,I.lset (its':=its.eraseIdx k) hH e ?_ (r.eraseIdx k) ?_,rw',q⟩
 ·show its.toArray.eraseIdxIfInBounds k=(its.eraseIdx k).toArray
  rw [List.eraseIdxIfInBounds_toArray]
 ·have:=zf2 xs k
  omega
theorem zpp {α:Type} (xs:List α) (k:Nat):(List.replicate k xs).flatten.length=k * xs.length:=by
 induction k with
 | zero=>simp
 | succ k ih=>rw [List.replicate_succ,List.flatten_cons,List.length_append,ih,Nat.succ_mul,Nat.add_comm]
end
section
variable {prog:Program} {w:World} {A:Around} {E:Value->Shared->Prop} {s:Shared}
end
section
variable {X:Cx}
end
end L2
namespace Att
open PySem PySem.W PySem.Calls PyProof.Rows
theorem zde {P:Params} {h:Heap}:∀(ns:List Int) (vs:List Value),WellAll P h vs (ns.map WData.int)->IntsAre vs ns:=by
 intro ns
 induction ns with
 | nil =>
  intro vs w
  rw [List.map_nil] at w
  cases w
  exact .nil
 | cons n ns ih =>
  intro vs w
  rw [List.map_cons] at w
  cases w with
  | cons a b =>
   cases a
   exact .cons _ _ (ih _ b)
theorem zke {l:OpenLaw} {n:Nat} (hn:l.most=some n) {P:Params} {h:Heap} {args:List WData} {vals:List Value}
    (hpre:l.row.toRowW.claim.pre args=true) (hwl:WellAll P h vals args) :
    ∃a vs ns,vals=[Value.ref a]/\args=[WData.list (ns.map WData.int)]/\h.get? a=some { cls:=.type "list",data:=.seq vs.toArray }/\IntsAre vs ns/\ns.length<=n:=by
  have hsh:WShape.hasAll [] args [.list .int]=true:=(pre_splitW hpre).1
  have hc:l.pre.holds [] { args:=args }=true:=(pre_splitW hpre).2
  obtain ⟨d,r,rfl,h1,h2⟩:=hasAllW_cons hsh
  obtain rfl:=hasAllW_nil h2
  obtain ⟨xs,rfl,h3⟩:=hasW_list h1
  obtain ⟨ns,rfl⟩:=items_int h3
  have hlen:ns.length<=n:=by
    unfold OpenLaw.pre at hc
    have h4:(WTm.not (.lt (.lit (.int (n:Int))) (.len (.arg 0)))).holds [] { args:=[.list (ns.map .int)] }=true:=by
      have h4:=(holds_andW hc).1
      rw [hn] at h4
      exact h4
    have h5:=condW_of h4 (w_not (w_lt w_lit (w_len_list (w_arg rfl))))
    rw [List.length_map] at h5
    refine Nat.le_of_not_lt fun q=>?_
    have q':(n:Int)<((ns.length:Nat):Int):=by omega
    first
      | (rw [decide_eq_true q'] at h5; exact absurd h5 (by decide))
      | (simp at h5; omega)
  cases hwl with
  | cons w1 w2 =>
    cases w2
    cases w1 with
    | list ho hall=>exact ⟨_,_,ns,rfl,rfl,ho,zde ns _ hall,hlen⟩
theorem zkf (l:OpenLaw) (args:List WData):l.row.toRowW.claim.post args (.bool true) args=true :=
  postW_of (r:=l.row.toRowW) (X:=(true == true))
    (show WShape.has [] (.bool true) .bool=true by first | rfl | decide | simp [WShape.has,WShape.arms,WShape.armsAll])
    (show (WTm.eq .res (.lit (.bool true))).value [] { args:=args,res:=some (.bool true),after:=args }=some (.bool (true == true)) from w_eq_bool (w_res rfl) w_lit) rfl
theorem attach_call {l:OpenLaw} {n:Nat} {q:Program} {loose:List Str} {XP:(Str->Option Value)->Heap->Prop} {YP:World->Heap->Prop} {d:DefRec}
    (hn:l.most=some n) (hdf:d.params.defaults=[])
    (call:∀(w:World) (s₀ s₁:Shared) (mg mb:Str->Option Value) (fa:Addr) (o:Obj) (pm cd doc:Value) (a:Addr) (vs:List Value) (ns:List Int),
      Ground q loose [] XP w s₀ mg mb s₁.heap->YP w s₁.heap ->
      s₁.heap.get? fa=some o->o.data=.func (docDef d.name d.params d.body d.scope pm cd doc)->s₁.heap.CodeRec cd d.name->mg d.name=some (.ref fa) ->
      s₁.heap.get? a=some { cls:=.type "list",data:=.seq vs.toArray }->IntsAre vs ns->ns.length<=n->s₁.gens = #[] ->
      codeAny (model l.prog w) callerA (.call (.ref fa) ⟨[.ref a],[]⟩) (fun r s'=>r=.ok (.ret (.bool true))/\OldK s₁.heap s'.heap/\s'.os=s₁.os/\AllBare s'.gens) s₁) :
    WalkO q loose XP YP l.row.toRowW d [] (fun f vs=>PySem.call f vs):=by
  intro w s₀ s₁ mg mb G Y fa o pm cd doc dV kV ho hd hcd hD hmg hg args vals as hpre hlay hrd hwl hlo
  obtain rfl:dV=.none:=Dflts.none hD hdf
  obtain rfl:kV=.none:=Dflts.noKw hD
  obtain ⟨a,vs,ns,rfl,rfl,hobj,hints,hlen⟩:=zke hn hpre hwl
  refine enter_call (codeAny_mono (call w s₀ s₁ mg mb fa o pm cd doc a vs ns G Y ho (fd_plain hd) hcd hmg hobj hints hlen hg) fun r s' hq=>?_)
  obtain ⟨rfl,h2,h3,h4⟩:=hq
  exact ⟨.inl ⟨.bool true,.bool true,[],rfl,fun _=>rfl,.bool true,zkf l _,fun _=>⟨List.Pairwise.nil,fun _ hm=>(nomatch hm)⟩⟩,h2,h3,h4⟩
section
variable {prog:Program} {w:World} {A:Around} {E:Value->Shared->Prop} {s:Shared} {K:Frag}
end
end Att
namespace L2
open PySem PySem.Spec PyProof.Rows
theorem zdf:∀{vs:List Value} {ns:List Int},IntsAre vs ns->Vals (ns.map V.int) vs
 | _,_,.nil=>.nil
 | _,_,.cons n t h=>.cons ⟨t,rfl⟩ (zdf h)
def Only (H:Hp):Prop:=∀b,H b=none\/∃o xs,H b=some (.frz o (.lst xs))
theorem zms {P:Program} {w:World} {K:PySem.W.Frag} {mg mb:Str->Option Value} {CX:CXT} {k:Nat} {fa a:Addr} {fd:FuncData} {x:Str} {sp:Sp} {s₁:Shared} {vs:List Value} {ns:List Int}
    (KX:K.In s₁.heap) (hns:s₁.heap.Ns mainGlobals mg) (hb:s₁.heap.Ns builtinsNs mb) (hbb:∀x:Str,x≠"__name__"->mb x=bootBuiltins x) (hlim:s₁.heap.NoLimit) (hg:s₁.gens = #[])
    (ha:s₁.heap.get? a=some { cls:=.type "list",data:=.seq vs.toArray }) (hi:IntsAre vs ns) (hl:ns.length<=sizeLine) (hr:Room k callerA)
    (F:∀base:Heap,K.In base->base.Ns mainGlobals mg->FnOk P w K mg base CX k fa fd [x] sp) (hbind:∀(s:Shared) (u:Value),BindsTo s fd ⟨[u],[]⟩ [(x,u)])
    (hsp:∀H:Hp,Only H->SqL K H a (ns.map V.int)->sp [.ref a] H (fun v _=>v=.bl true) fun _ _ _=>False)
    (hCX:∀H e s',CX [] H s₁ (fun _ _ _=>False) e s'->False) :
    codeAny (model P w) callerA (.call (.ref fa) ⟨[.ref a],[]⟩) (fun r s'=>r=.ok (.ret (.bool true))/\OldK s₁.heap s'.heap/\s'.os=s₁.os/\AllBare s'.gens) s₁:=by
  have rv:=zdf hi
  have lenV:=hi.length
  have core:∀H:Hp,Only H->SqL K H a (ns.map V.int)->HOk P w H s₁.heap->(∀b,H b≠none->b=a)->(H a≠none->K.lookup a=none) ->
      codeAny (model P w) callerA (.call (.ref fa) ⟨[.ref a],[]⟩) (fun r s'=>r=.ok (.ret (.bool true))/\OldK s₁.heap s'.heap/\s'.os=s₁.os/\AllBare s'.gens) s₁:=by
    intro H hO hS hok hA hK
    have base_of:∀{b:Addr} {o:Obj},s₁.heap.get? b=some o->H b=none->(hidT s₁.heap H).get? b=some o:=fun e n=>zmf e n
    have noA:∀{b:Addr} {o:Obj} {es:Array DictEntry} {ep:Nat},s₁.heap.get? b=some o->o.data=.dict es ep->H b=none:=fun {b o es ep} e d=>by
      cases q:H b with
      | none=>rfl
      | some u =>
        have e':b=a:=hA b (by rw [q]; simp)
        subst e'
        rw [ha] at e; cases e
        have d':Data.seq vs.toArray _=Data.dict es ep:=d
        cases d'
    have nsK:∀{b:Addr} {m:Str->Option Value},s₁.heap.Ns b m->(hidT s₁.heap H).Ns b m:=fun {b m} ⟨o,es,ep,e,d,r⟩=>⟨o,es,ep,base_of e (noA e d),d,r⟩
    have hKb:K.In (hidT s₁.heap H):=fun b o e=>base_of (KX b o e) (by
      cases q:H b with
      | none=>rfl
      | some u =>
        have e':b=a:=hA b (by rw [q]; simp)
        subst e'
        rw [hK (by rw [q]; simp)] at e; cases e)
    have hM:Mod K mg (hidT s₁.heap H):=⟨hKb,nsK hns,⟨mb,nsK hb,hbb⟩,let ⟨mc,h1,h2⟩:=hlim; ⟨mc,nsK h1,h2⟩⟩
    have e0:Env0 P w K mg (hidT s₁.heap H) callerA [] s₁ H:=⟨rfl,hM,fun b o e=>zo1 e,Nat.le_of_eq (zjz _ _),trivial,fun b hb=>absurd (show b∈([]:List Addr) from hb) (by simp),hok,.of_eq hg⟩
    refine codeAny_mono ((F _ hKb (nsK hns)).run callerA [] s₁ H ⟨[.ref a],[]⟩ [.ref a] [.ref a] _ _ hr e0 (hbind s₁ (.ref a)) (.cons rfl .nil) (hsp H hO hS)) fun r s' h=>?_
    cases r with
    | error e=>exact (hCX H e s' h).elim
    | ok fl =>
      cases fl with
      | next=>exact False.elim h
      | brk=>exact False.elim h
      | cont=>exact False.elim h
      | ret u =>
        obtain ⟨v,H',os,bare,un,hok',r',q⟩:=h
        have q':v=.bl true:=q
        subst q'
        obtain rfl:u=Value.bool true:=r'
        refine ⟨rfl,OldK.of_keep fun b o e=>?_,os,bare⟩
        cases q:H b with
        | none=>exact un.keep b o e q (by intro z; exact absurd (show b∈([]:List Addr) from z) (by simp)) (by simp)
        | some u =>
          rcases hO b with z | ⟨ob,xs,z⟩
          · rw [q] at z; cases z
          · have z2:=un.frzs b ob _ z
            obtain ⟨e1,_⟩:=hok b _ z
            obtain ⟨e2,_⟩:=hok' b _ z2
            rw [e] at e1; cases e1
            exact e2
  cases hk:K.lookup a with
  | some o =>
    have e:=KX a o hk
    rw [ha] at e
    cases e
    refine core (fun _=>none) (fun _=>.inl rfl) (.inr ⟨_,vs.toArray,_,hk,rfl,rfl,rfl,by rw [List.size_toArray,lenV]; exact hl,by simpa using rv⟩) (fun b u z=>by have z':(none:Option HO)=some u:=z; cases z') (fun b z=>absurd rfl z) fun z=>absurd rfl z
  | none =>
    refine core (fun b=>if b=a then some (.frz { cls:=.type "list",data:=.seq vs.toArray } (.lst (ns.map V.int))) else none) (fun b=>?_) (.inl (.inr ⟨{ cls:=.type "list",data:=.seq vs.toArray },if_pos rfl⟩)) (fun b u z=>?_) (fun b z=>?_) fun _=>hk
    · by_cases hb:b=a
      · exact .inr ⟨_,_,if_pos hb⟩
      · exact .inl (if_neg hb)
    · by_cases hb:b=a
      · have z':=(if_pos hb).symm.trans z
        cases z'
        subst hb
        exact ⟨ha,by rw [List.length_map]; exact hl,vs,_,rv,ha⟩
      · have z':=(if_neg hb).symm.trans z
        cases z'
    · by_cases hb:b=a
      · exact hb
      · exact absurd (if_neg hb) z
end L2
namespace L2
open PySem PySem.Spec PyProof.Rows
theorem walk_of {l:PySem.W.OpenLaw} {n k:Nat} {q:Program} {loose:List Str} {XP:(Str->Option Value)->Heap->Prop} {YP:World->Heap->Prop} {d:DefRec} {K:Params->PySem.W.Frag} {CX:World->CXT} {sp:World->Sp} {x:Str}
  (hn:l.most=some n) (hn2:n<=sizeLine) (hdf:d.params.defaults=[]) (hr:Room k callerA)
  (hY:∀(w:World) (h:Heap),YP w h->(K w.params).In h)
  (F:∀(w:World) (mg:Str->Option Value) (fa:Addr) (h:Heap),(K w.params).In h->h.Ns mainGlobals mg->mg d.name=some (.ref fa) ->
   ∃fd:FuncData,(∀(s:Shared) (u:Value),BindsTo s fd ⟨[u],[]⟩ [(x,u)]) /\
    ∀base:Heap,(K w.params).In base->base.Ns mainGlobals mg->FnOk l.prog w (K w.params) mg base (CX w) k fa fd [x] (sp w))
  (hsp:∀(w:World) (H:Hp) (a:Addr) (ns:List Int),ns.length<=n->Only H->SqL (K w.params) H a (ns.map V.int)->sp w [.ref a] H (fun v _=>v=.bl true) fun _ _ _=>False)
  (hCX:∀(w:World) (H:Hp) (s:Shared) (e:Value) (s':Shared),CX w [] H s (fun _ _ _=>False) e s'->False) :
  PySem.W.WalkO q loose XP YP l.row.toRowW d [] (fun f vs=>PySem.call f vs):=by
 refine Att.attach_call hn hdf fun w s₀ s₁ mg mb fa o pm cd doc a vs ns G Y ho hd hcd hmg hobj hints hlen hg=>?_
 have KX:=hY w _ Y
 obtain ⟨fd,hb,hF⟩:=F w mg fa _ KX G.T.g hmg
 exact zms KX G.T.g G.T.b G.T.builtins G.T.nolimit hg hobj hints (Nat.le_trans hlen hn2) hr hF hb (fun H hO hS=>hsp w H a ns hlen hO hS) fun H e s'=>hCX w H s₁ e s'
end L2
namespace L2
open PySem PySem.Spec PyProof.Rows
def inClass (s:Stmt) (j:Nat):Stmt:=match s with
 | .ClassDef _ _ _ body _ _ _ _ _ _ _=>body.getD j (.Pass ⟨0,0,0,0⟩)
 | _=>.Pass ⟨0,0,0,0⟩
def defArgs (s:Stmt):Arguments:=match s with
  | .FunctionDef _ a _ _ _ _ _ _ _ _=>a
  | _=>{ posonlyargs:=[],args:=[],vararg:=none,kwonlyargs:=[],kw_defaults:=[],kwarg:=none,defaults:=[] }
def defBody (s:Stmt):List Stmt:=match s with
 | .FunctionDef _ _ b _ _ _ _ _ _ _=>b
 | _=>[]
def defScope (s:Stmt):Scope:=match s with
  | .FunctionDef _ _ _ _ _ _ sc _ _ _=>sc
  | _=>{ kind:=.function,names:=[],isGenerator:=false,isCoroutine:=false }
abbrev CX0:CXT:=fun _ _ _ _ _ _=>False
abbrev E0:XK:=fun _ _ _=>False
theorem pass0 {X:Cx}:Passes CX0 X E0:=fun _ _ _ _ _ _ _ h=>h.elim
section
variable {P:Program} {w:World} {K:PySem.W.Frag} {mg:Str->Option Value} {base:Heap}
end
theorem zkg {A:Around} {k:Nat} (hr:Room k A):A.units+1<cLine:=Nat.lt_of_le_of_lt (Nat.add_le_add_left (by decide:1<=64) _) hr.units
theorem small1000 {n:Nat} (h:n<=1000):n<sizeLine:=Nat.lt_of_le_of_lt h (by decide)
section
variable {X:Cx}
theorem pv (i:Nat) {x:Str} {pos:Pos} (hN:X.N[i]?=some x:=by rfl) (hv:Vis X.env.scope x:=by first | exact Or.inl rfl | exact Or.inr (Or.inl rfl) | exact Or.inr (Or.inr rfl)) (hd:(x == ("__debug__":Str))=false:=by decide)
  (hcd:(x == ("__classdict__":Str))=false:=by decide):PE X (.Name x pos) (tVar i):=zat hN hv hd hcd
end
def Same (H H':Hp):Prop:=∀b o,H b=some o->H' b=some o
theorem Same.refl (H:Hp):Same H H:=fun _ _ h=>h
theorem Same.trans {H H1 H2:Hp} (a:Same H H1) (b:Same H1 H2):Same H H2:=fun c o h=>b c o (a c o h)
theorem Same.free {H H':Hp} (e:Same H H') {l:Addr} (h:H' l=Option.none):H l=Option.none:=by
 cases q:H l with
 | none=>rfl
 | some o =>
  rw [e l o q] at h
  cases h
theorem Same.seq {K:PySem.W.Frag} {H H':Hp} {a:Addr} {xs:List V} (e:Same H H') (h:SqL K H a xs):SqL K H' a xs:=by
 rcases h with (h | ⟨o,h⟩) | h
 ·exact .inl (.inl (e _ _ h))
 ·exact .inl (.inr ⟨o,e _ _ h⟩)
 ·exact .inr h
end L2
namespace L2
open PySem PySem.Spec PyProof.Rows
section
variable {κ:Type} [DecidableEq κ]
def valV (kvs:List (κ×V)) (k:κ):Option V:=(kvs.find? fun kv=>decide (kv.1=k)).map (·.2)
def putK (kvs:List (κ×V)) (k:κ) (v:V):List (κ×V) :=
 if (kvs.any fun kv=>decide (kv.1=k))=true then kvs.map (fun kv=>if kv.1=k then (kv.1,v) else kv) else kvs++[(k,v)]
theorem ze1 {p:κ×V} {r:List (κ×V)} {k:κ} (e:p.1=k):valV (p::r) k=some p.2:=by simp [valV,List.find?_cons,e]
theorem ze2 {p:κ×V} {r:List (κ×V)} {k:κ} (e:¬p.1=k):valV (p::r) k=valV r k:=by simp [valV,List.find?_cons,e]
theorem zh4 (k:κ):∀kvs:List (κ×V),(kvs.any fun kv=>decide (kv.1=k))=(valV kvs k).isSome
 | []=>rfl
 | p::r=>by
  rw [List.any_cons]
  by_cases e:p.1=k
  ·simp only [ze1 e,decide_eq_true e,Bool.true_or,Option.isSome_some]
  ·rw [ze2 e,decide_eq_false e,Bool.false_or]; exact zh4 k r
theorem zbm (kvs:List (κ×V)) (k:κ) (v:V):(putK kvs k v).length<=kvs.length+1:=by
 unfold putK
 split
 ·rw [List.length_map]; omega
 ·rw [List.length_append,List.length_cons,List.length_nil]; omega
theorem RelO.isSome_eq {o:Option V} {u:Option Value} (r:RelO o u):o.isSome=u.isSome:=by
 cases o with
 | none=>cases u with
  | none=>rfl
  | some _=>exact (show False from r).elim
 | some _=>cases u with
  | none=>exact (show False from r).elim
  | some _=>rfl
theorem KV.val {kvs:List (κ×V)} {vs:List (κ×Value)} (r:KV kvs vs) (k:κ):RelO (valV kvs k) (valueAt vs k):=by
 unfold KV at r
 induction r with
 | nil=>exact True.intro
 | @cons p q ps qs h t ih =>
  obtain ⟨h1,h2⟩:=h
  by_cases e:p.1=k
  ·have e':q.1=k:=h1.symm.trans e
   have b:valueAt (q::qs) k=some q.2:=by simp [valueAt,List.find?_cons,e']
   rw [ze1 e,b]; exact h2
  ·have e':¬q.1=k:=fun z=>e (h1.trans z)
   have b:valueAt (q::qs) k=valueAt qs k:=by simp [valueAt,List.find?_cons,e']
   rw [ze2 e,b]; exact ih
theorem KV.any {kvs:List (κ×V)} {vs:List (κ×Value)} (r:KV kvs vs) (k:κ):(kvs.any fun kv=>decide (kv.1=k))=vs.any fun kv=>decide (kv.1=k):=by
 unfold KV at r
 induction r with
 | nil=>rfl
 | cons h t ih=>rw [List.any_cons,List.any_cons,ih,h.1]
theorem KV.repl {kvs:List (κ×V)} {vs:List (κ×Value)} (r:KV kvs vs) (k:κ) {y:V} {u:Value} (ry:RelV y u) :
  KV (kvs.map fun kv=>if kv.1=k then (kv.1,y) else kv) (vs.map fun kv=>if kv.1=k then (kv.1,u) else kv):=by
 unfold KV at r ⊢
 induction r with
 | nil=>exact .nil
 | @cons p q ps qs h t ih =>
  rw [List.map_cons,List.map_cons]
  refine .cons ?_ ih
  obtain ⟨h1,h2⟩:=h
  by_cases e:p.1=k
  ·rw [if_pos e,if_pos (h1.symm.trans e)]; exact ⟨h1,ry⟩
  ·rw [if_neg e,if_neg (fun z=>e (h1.trans z))]; exact ⟨h1,h2⟩
theorem KV.put {kvs:List (κ×V)} {vs:List (κ×Value)} (r:KV kvs vs) (k:κ) {y:V} {u:Value} (ry:RelV y u):KV (putK kvs k y) (stored vs k u):=by
 unfold putK stored
 rw [r.any k]
 by_cases e:(vs.any fun kv=>decide (kv.1=k))=true
 ·rw [if_pos e,if_pos e]; exact r.repl k ry
 ·rw [if_neg e,if_neg e]; exact Paired.snoc r ⟨rfl,ry⟩
theorem KV.length {kvs:List (κ×V)} {vs:List (κ×Value)} (r:KV kvs vs):kvs.length=vs.length:=Paired.length r
end
theorem zjh {P:Program} {w:World} {k:Key} {u:Value} (r:RelV (kV k) u):(mixKind P w).is k u=true:=by
 cases k with
 | inl i=>obtain ⟨t,e⟩:=(show ∃t,u=Value.int i t from r); subst e; exact zg4 P w i t
 | inr x=>obtain ⟨t,e⟩:=(show ∃t,u=Value.str x t from r); subst e; exact zg5 P w x t
theorem zf4 {P:Program} {w:World}:∀{ks:List Key} {us:List Value},Vals (ks.map kV) us->ItemsAre (mixKind P w) ks us
 | [],_,r=>by rw [List.map_nil] at r; cases r; exact .nil
 | k::ks,_,r=>by
  rw [List.map_cons] at r
  cases r with
  | cons h t=>exact .cons (zjh h) (zf4 t)
abbrev KT (H:Hp):List (List Key×V)->List (List Key×Addr×Value)->Prop:=Paired fun p q=>p.1=q.1/\H q.2.1=some (.tup (p.1.map kV))/\RelV p.2 q.2.2
theorem KT.val {H:Hp} {kvs:List (List Key×V)} {xs:List (List Key×Addr×Value)} (r:KT H kvs xs) (k:List Key):RelO (valV kvs k) ((atKey xs k).map (·.2)):=by
 induction r with
 | nil=>exact True.intro
 | @cons p q ps qs h t ih =>
  obtain ⟨h1,_,h2⟩:=h
  by_cases e:p.1=k
  ·have e':q.1=k:=h1.symm.trans e
   have b:atKey (q::qs) k=some q.2:=by simp [atKey,List.find?_cons,e']
   rw [ze1 e,b]; exact h2
  ·have e':¬q.1=k:=fun z=>e (h1.trans z)
   have b:atKey (q::qs) k=atKey qs k:=by simp [atKey,List.find?_cons,e']
   rw [ze2 e,b]; exact ih
theorem KT.repl {H:Hp} {kvs:List (List Key×V)} {xs:List (List Key×Addr×Value)} (r:KT H kvs xs) (k:List Key) {y:V} {u:Value} (ry:RelV y u) :
  KT H (kvs.map fun kv=>if kv.1=k then (kv.1,y) else kv) (xs.map (putAt k u)):=by
 induction r with
 | nil=>exact .nil
 | @cons p q ps qs h t ih =>
  rw [List.map_cons,List.map_cons]
  refine .cons ?_ ih
  obtain ⟨h1,h2,h3⟩:=h
  unfold putAt
  by_cases e:p.1=k
  ·rw [if_pos e,if_pos (h1.symm.trans e)]; exact ⟨h1,h2,ry⟩
  ·rw [if_neg e,if_neg (fun z=>e (h1.trans z))]; exact ⟨h1,h2,h3⟩
theorem KT.put {H:Hp} {kvs:List (List Key×V)} {xs:List (List Key×Addr×Value)} (r:KT H kvs xs) (k:List Key) {b:Addr} {y:V} {u:Value} (hb:H b=some (.tup (k.map kV))) (ry:RelV y u) :
  KT H (putK kvs k y) (storedH xs k b u):=by
 have e:(kvs.any fun kv=>decide (kv.1=k))=(atKey xs k).isSome:=by
  rw [zh4,(r.val k).isSome_eq,Option.isSome_map]
 unfold putK storedH
 rw [e]
 by_cases q:(atKey xs k).isSome=true
 ·rw [if_pos q,if_pos q]; exact r.repl k ry
 ·rw [if_neg q,if_neg q]; exact Paired.snoc r ⟨rfl,hb,ry⟩
theorem KT.keeps {H H':Hp} {kvs:List (List Key×V)} {xs:List (List Key×Addr×Value)} (r:KT H kvs xs) (ht:∀b ys,H b=some (.tup ys)->H' b=some (.tup ys)):KT H' kvs xs :=
 Paired.mapP r fun _ _ z=>⟨z.1,ht _ _ z.2.1,z.2.2⟩
section
variable {P:Program} {w:World} {H:Hp} {h:Heap} {a:Addr}
theorem zr5 {u:HO} (ok:HOk P w H h) (e:Rd H a u):ObjOk P w H h a u:=e.ok ok
theorem zji {kvs:List (Key×V)} (ok:HOk P w H h) (e:Rd H a (.dK kvs)):kvs.length<=sizeLine/\(a == sysModules)=false/\∃vs,KV kvs vs/\h.DictOf (mixKind P w) a vs :=
 show ObjOk P w H h a (.dK kvs) from zr5 ok e
theorem zr6 {kvs:List (Key×V)} (ok:HOk P w H h) (e:H a=some (.dK kvs)):kvs.length<=sizeLine/\(a == sysModules)=false/\∃vs,KV kvs vs/\h.DictOf (mixKind P w) a vs:=zji ok (.inl e)
theorem zf5 {ks:List Key} (ok:HOk P w H h) (e:H a=some (.tup (ks.map kV))):(tupleKind (mixKind P w)).is h ks a:=by
 obtain ⟨_,its,r,o,h1,h2,n,h3⟩:=(show ObjOk P w H h a (.tup (ks.map kV)) from ok a _ e)
 exact ⟨o,its.toArray,n,h1,h2,h3,by simpa using zf4 r⟩
theorem zkh {kvs:List (List Key×V)} (ok:HOk P w H h) (e:Rd H a (.dT kvs)):kvs.length<=sizeLine/\(a == sysModules)=false /\
  ∃xs,KT H kvs xs/\h.DictOfH (tupleKind (mixKind P w)) a xs:=by
 obtain ⟨z,y,xs,r,o,es,ep,h1,h2,h3,h4,h5⟩:=(show ObjOk P w H h a (.dT kvs) from zr5 ok e)
 refine ⟨z,y,xs,r,o,es,ep,h1,h2,h3,h4,fun x hx=>?_,h5⟩
 have all:∀{l:List (List Key×V)} {m:List (List Key×Addr×Value)},KT H l m->∀x∈m,(tupleKind (mixKind P w)).is h x.1 x.2.1:=by
  intro l m q
  induction q with
  | nil=>intro x hx; exact nomatch hx
  | @cons p q ps qs hq t ih =>
   intro x hx
   rcases List.mem_cons.mp hx with e | hx
   ·subst e
    exact zf5 ok (by rw [← hq.1]; exact hq.2.1)
   ·exact ih x hx
 exact all r x hx
theorem ztj {kvs:List (List Key×V)} (ok:HOk P w H h) (e:H a=some (.dT kvs)):kvs.length<=sizeLine/\(a == sysModules)=false /\
  ∃xs,KT H kvs xs/\h.DictOfH (tupleKind (mixKind P w)) a xs:=zkh ok (.inl e)
end
def DGet (H:Hp) (a:Addr) (y:V) (r:Option V):Prop :=
 (∃kvs k,Rd H a (.dK kvs)/\y=kV k/\r=valV kvs k)\/∃kvs k b,Rd H a (.dT kvs)/\y=.ref b/\H b=some (.tup (k.map kV))/\r=valV kvs k
def DPut (H:Hp) (a:Addr) (y v:V) (H':Hp):Prop :=
 (∃kvs k,H a=some (.dK kvs)/\y=kV k/\kvs.length<sizeLine/\H'=upd H a (.dK (putK kvs k v))) \/
 ∃kvs k b,H a=some (.dT kvs)/\y=.ref b/\H b=some (.tup (k.map kV))/\kvs.length<sizeLine/\H'=upd H a (.dT (putK kvs k v))
theorem DGet.k {H:Hp} {a:Addr} {kvs:List (Key×V)} {k:Key} (e:H a=some (.dK kvs)):DGet H a (kV k) (valV kvs k):=.inl ⟨kvs,k,.inl e,rfl,rfl⟩
theorem DGet.t {H:Hp} {a b:Addr} {kvs:List (List Key×V)} {k:List Key} (e:H a=some (.dT kvs)) (eb:H b=some (.tup (k.map kV))):DGet H a (.ref b) (valV kvs k):=.inr ⟨kvs,k,b,.inl e,rfl,eb,rfl⟩
theorem DPut.k {H:Hp} {a:Addr} {kvs:List (Key×V)} {k:Key} {v:V} (e:H a=some (.dK kvs)) (hl:kvs.length<sizeLine):DPut H a (kV k) v (upd H a (.dK (putK kvs k v))):=.inl ⟨kvs,k,e,rfl,hl,rfl⟩
theorem DPut.t {H:Hp} {a b:Addr} {kvs:List (List Key×V)} {k:List Key} {v:V} (e:H a=some (.dT kvs)) (eb:H b=some (.tup (k.map kV))) (hl:kvs.length<sizeLine) :
  DPut H a (.ref b) v (upd H a (.dT (putK kvs k v))):=.inr ⟨kvs,k,b,e,rfl,eb,hl,rfl⟩
section
variable {X:Cx} {pins:List (Addr×Obj)} {σ:St} {H:Hp} {s:Shared} {a:Addr} {y v:V} {u r:Value} {o:Option V} {A:Around} {E:Value->Shared->Prop}
theorem Inv.big (I:Inv X pins σ H s):sysModules<s.heap.objs.size:=by
 have h:mainGlobals<s.heap.objs.size:=(I.mod.glob.keeps I.bk).lt
 exact Nat.lt_trans (by decide) h
theorem zki {Q:Value->Shared->Prop} (hu:A.units+1<cLine) (I:Inv X pins σ H s) (g:DGet H a y (some v)) (ry:RelV y u) (h:∀w' s',Inv X pins σ H s'->RelV v w'->Q w' s') :
  wpAny (model X.prog X.w) A (getItem (.ref a) u) Q E s:=by
 rcases g with ⟨kvs,k,e,ey,l⟩ | ⟨kvs,k,b,e,ey,eb,l⟩
 ·subst ey
  obtain ⟨z,hd,vs,rel,dd⟩:=zji I.hok e
  obtain ⟨w',hw,rw'⟩:=RelO.some_of (v:=v) (o:=valueAt vs k) (by rw [l]; exact rel.val k)
  exact wpAny_getItem_of (zjh ry) dd.mapOf hw (h w' _ (I.tok _) rw')
 ·subst ey
  cases (show u=Value.ref b from ry)
  obtain ⟨z,hd,xs,rel,dd⟩:=zkh I.hok e
  obtain ⟨w',hw,rw'⟩:=RelO.some_of (v:=v) (o:=(atKey xs k).map (·.2)) (by rw [l]; exact rel.val k)
  obtain ⟨p,hp,hp2⟩:=Option.map_eq_some_iff.mp hw
  refine wpAny_getItem_heap (tupleKind_room_in1 hu) (zf5 I.hok eb) dd hp ?_
  rw [hp2]
  exact h w' _ (I.tok _) rw'
theorem d_in {Q:Value->Shared->Prop} (hu:A.units+1<cLine) (I:Inv X pins σ H s) (g:DGet H a y o) (ry:RelV y u) (h:∀s',Inv X pins σ H s'->Q (.bool o.isSome) s') :
  wpAny (model X.prog X.w) A (compareOp .In u (.ref a)) Q E s:=by
 rcases g with ⟨kvs,k,e,ey,l⟩ | ⟨kvs,k,b,e,ey,eb,l⟩
 ·subst ey
  obtain ⟨z,hd,vs,rel,dd⟩:=zji I.hok e
  refine wpAny_in_of (zjh ry) hd dd.mapOf ?_
  rw [← (rel.val k).isSome_eq,← l]
  exact h _ (I.tok _)
 ·subst ey
  cases (show u=Value.ref b from ry)
  obtain ⟨z,hd,xs,rel,dd⟩:=zkh I.hok e
  refine wpAny_in_heap (tupleKind_room_in1 hu) (zf5 I.hok eb) hd dd ?_
  have q:=(rel.val k).isSome_eq
  rw [Option.isSome_map] at q
  rw [← q,← l]
  exact h _ (I.tok _)
theorem zpq {Q:Value->Shared->Prop} (hu:A.units+1<cLine) (I:Inv X pins σ H s) (g:DGet H a y o) (ry:RelV y u) (h:∀s',Inv X pins σ H s'->Q (.bool (!o.isSome)) s') :
  wpAny (model X.prog X.w) A (compareOp .NotIn u (.ref a)) Q E s:=by
 rcases g with ⟨kvs,k,e,ey,l⟩ | ⟨kvs,k,b,e,ey,eb,l⟩
 ·subst ey
  obtain ⟨z,hd,vs,rel,dd⟩:=zji I.hok e
  refine wpAny_notIn_of (zjh ry) hd dd.mapOf ?_
  rw [← (rel.val k).isSome_eq,← l]
  exact h _ (I.tok _)
 ·subst ey
  cases (show u=Value.ref b from ry)
  obtain ⟨z,hd,xs,rel,dd⟩:=zkh I.hok e
  refine wpAny_notIn_heap (tupleKind_room_in1 hu) (zf5 I.hok eb) hd dd ?_
  have q:=(rel.val k).isSome_eq
  rw [Option.isSome_map] at q
  rw [← q,← l]
  exact h _ (I.tok _)
theorem zg9 {h':Heap} {t':Nat} {ob:HO} (I:Inv X pins σ H s) (mu:Mut (H a)) (hs:Heap.SameBut a s.heap h') (he:∃q,h'.get? a=some q) (new:ObjOk X.prog X.w (upd H a ob) h' a ob) :
  Inv X pins σ (upd H a ob) { s with heap:=h',toks:=t' } :=
 I.write (x:=a) (e:=a) mu (.inl rfl) (fun b q hb z=>(hs.2 b hb).trans z) he new
theorem zoj {P:Program} {w:World} {H':Hp} {h':Heap} {kvs:List (Key×V)} {vs:List (Key×Value)} (z:kvs.length<=sizeLine) (hd:(a == sysModules)=false) (rel:KV kvs vs) (dd:h'.DictOf (mixKind P w) a vs) :
  ObjOk P w H' h' a (.dK kvs):=⟨z,hd,vs,rel,dd⟩
theorem zkj {H':Hp} {Q:Unit->Shared->Prop} (hu:A.units+1<cLine) (I:Inv X pins σ H s) (g:DPut H a y v H') (ry:RelV y u) (rv:RelV v r) (h:∀s',Inv X pins σ H' s'->Q () s') :
  wpAny (model X.prog X.w) A (setItem (.ref a) u r) Q E s:=by
 rcases g with ⟨kvs,k,e,ey,l,eH⟩ | ⟨kvs,k,b,e,ey,eb,l,eH⟩
 ·subst ey eH
  obtain ⟨z,hd,vs,rel,dd⟩:=zr6 I.hok e
  have hz:vs.length<=sizeLine:=by rw [← rel.length]; exact z
  have hl:(putK kvs k v).length<=sizeLine:=by have:=zbm kvs k v; omega
  refine wpAny_setItem_pairs (hsz:=hz) (zjh ry) dd fun h' dd' hs=>h _ ?_
  have he:∃q,h'.get? a=some q:=let ⟨q,_,_,hq,_⟩:=dd'; ⟨q,hq⟩
  exact zg9 I (by rw [e]; exact True.intro) hs he (zoj hl hd (rel.put k rv) dd')
 ·subst ey eH
  cases (show u=Value.ref b from ry)
  obtain ⟨z,hd,xs,rel,dd⟩:=ztj I.hok e
  have hz:xs.length<=sizeLine:=by rw [← Paired.length rel]; exact z
  have hl:(putK kvs k v).length<=sizeLine:=by have:=zbm kvs k v; omega
  refine wpAny_setItem_heap (hsz:=hz) (tupleKind_room_in1 hu) (zf5 I.hok eb) dd fun h' dd' hs=>h _ ?_
  obtain ⟨q,es,ep,hq,h2,h3,h4,_,h5⟩:=dd'
  refine zg9 I (by rw [e]; exact True.intro) hs ⟨q,hq⟩ ⟨hl,hd,_,(rel.put k eb rv).keeps fun c ys ec=>?_,q,es,ep,hq,h2,h3,h4,h5⟩
  rw [yu (zta ec e (fun z=>nomatch z))]
  exact ec
end
section
variable {X:Cx} {pins:List (Addr×Obj)} {σ:St} {H:Hp} {s:Shared} {a:Addr} {kvs:List (Key×V)} {k:Key} {u:Value} {A:Around} {E:Value->Shared->Prop}
theorem ztk {Q:Value->Shared->Prop} (I:Inv X pins σ H s) (e:Rd H a (.dK kvs)) (h:∀t s',Inv X pins σ H s'->Q (.int kvs.length t) s'):wpAny (model X.prog X.w) A (call (.builtin "len") [.ref a]) Q E s:=by
 obtain ⟨z,hd,vs,rel,dd⟩:=zji I.hok e
 refine call_len_dict hd dd (by rw [← rel.length]; rw [sizeLine_eq] at z; omega) ?_
 rw [← rel.length]
 exact h _ _ (I.tok _)
end
def NoSl (i:Expr):Prop:=∀ov iv,subscripted i false ov iv=operate [ov,iv] (getItem ov iv)
theorem zpr {prog:Program} {w:World} {A:Around} {E:Value->Shared->Prop} {s:Shared} {env:Env} {value slice:Expr} {pos:Pos} {T id:String} {Q:Value->Shared->Prop}
  (hl:typeLookup (.type T) "__getitem__"=pure (some (.builtin id))) (hs:NoSl slice)
  (h:wpAny (model prog w) A (eval value env) (fun o s₁=>wpAny (model prog w) A (eval slice env) (fun i s₂=>s₂.TypeIs o T/\wpAny (model prog w) A (getItem o i) Q E s₂) E s₁) E s) :
  wpAny (model prog w) A (eval (.Subscript value slice pos) env) Q E s:=by
 refine Subscript_ (wpAny_mono h (fun o s₁ h₁=>wpAny_mono h₁ (fun i s₂ h₂=>?_) fun _ _ x=>x) fun _ _ x=>x)
 obtain ⟨hT,h₂⟩:=h₂
 unfold subscriptTail
 refine wpAny_bind ?_
 rw [getitemInPython_of_ne hT.not_modules]
 refine wpAny_bind (wpAny_specialOf hT hl ?_)
 have fin:wpAny (model prog w) A (subscripted slice false o i) (fun r s₃=>wpAny (model prog w) A (letTemporaryGo value o r >>= fun _=>pure r) Q E s₃) E s₂:=by
  rw [hs o i]
  exact wpAny_operating (wpAny_mono h₂ (fun r s₃ h₃=>wpAny_bind (wpAny_letTemporaryGo (wpAny_pure h₃))) fun _ _ x=>x)
 first
  | exact wpAny_pure (wpAny_bind fin)
  | exact wpAny_bind (wpAny_pure (wpAny_bind fin))
  | exact wpAny_bind fin
theorem zha {X:Cx} {pins:List (Addr×Obj)} {σ:St} {H:Hp} {s:Shared} {a:Addr} {y:V} {o:Option V} (I:Inv X pins σ H s) (g:DGet H a y o):s.TypeIs (.ref a) "dict":=by
 rcases g with ⟨kvs,k,e,_,_⟩ | ⟨kvs,k,b,e,_,_,_⟩
 ·obtain ⟨_,_,vs,_,dd⟩:=zji I.hok e
  exact dd.typeIs
 ·obtain ⟨_,_,xs,_,dd⟩:=zkh I.hok e
  exact dd.typeIs
def tDGet (td ty:TE):TE:=fun σ H Q=>td σ H fun x H1=>ty σ H1 fun y H2=>∃a v,x=.ref a/\DGet H2 a y (some v)/\Q v H2
def tDIn (ty td:TE):TE:=fun σ H Q=>ty σ H fun y H1=>td σ H1 fun x H2=>∃a o,x=.ref a/\DGet H2 a y o/\Q (.bl o.isSome) H2
def tDNotIn (ty td:TE):TE:=fun σ H Q=>ty σ H fun y H1=>td σ H1 fun x H2=>∃a o,x=.ref a/\DGet H2 a y o/\Q (.bl (!o.isSome)) H2
def sDPut (td ty tv:TE):TS:=fun D σ H=>tv σ H fun v H1=>td σ H1 fun x H2=>ty σ H2 fun y H3=>∃a H4,x=.ref a/\DPut H3 a y v H4/\D.nx σ H4
section
variable {X:Cx} {o i e value:Expr} {pos pos' tpos:Pos} {td ty tv:TE}
theorem zps (hu:X.A.units+1<cLine) (ho:PE X o td) (hi:PE X i ty) (hs:NoSl i):PE X (.Subscript o i pos) (tDGet td ty):=by
 intro pins s σ H Q I h
 refine zpr PySem.F.slot_dict_getitem.lookup hs (thn (ho pins s σ H _ I h) fun u s1 ⟨x,H1,I1,rx,q1⟩=>thn (hi pins s1 σ H1 _ I1 q1) fun iv s2 ⟨y,H2,I2,ry,a,v,ex,g,q2⟩=>?_)
 subst ex
 obtain rfl:u=Value.ref a:=rx
 exact ⟨zha I2 g,zki hu I2 g ry fun w' s3 I3 rw'=>⟨v,H2,I3,rw',q2⟩⟩
theorem zr7 (hu:X.A.units+1<cLine) (hi:PE X i ty) (ho:PE X o td):PC X .In i o (tDIn ty td):=by
 intro pins s σ H Q I h
 refine thn (hi pins s σ H _ I h) fun iv s1 ⟨y,H1,I1,ry,q1⟩=>thn (ho pins s1 σ H1 _ I1 q1) fun u s2 ⟨x,H2,I2,rx,a,ov,ex,g,q2⟩=>?_
 subst ex
 obtain rfl:u=Value.ref a:=rx
 exact d_in hu I2 g ry fun s3 I3=>⟨.bl ov.isSome,H2,I3,rfl,q2⟩
theorem zkk (hu:X.A.units+1<cLine) (hi:PE X i ty) (ho:PE X o td):PC X .NotIn i o (tDNotIn ty td):=by
 intro pins s σ H Q I h
 refine thn (hi pins s σ H _ I h) fun iv s1 ⟨y,H1,I1,ry,q1⟩=>thn (ho pins s1 σ H1 _ I1 q1) fun u s2 ⟨x,H2,I2,rx,a,ov,ex,g,q2⟩=>?_
 subst ex
 obtain rfl:u=Value.ref a:=rx
 exact zpq hu I2 g ry fun s3 I3=>⟨.bl (!ov.isSome),H2,I3,rfl,q2⟩
theorem zpt (hu:X.A.units+1<cLine) (ho:PE X o td) (hi:PE X i ty) (hv:PE X value tv) (hs:swapsWith value (some (.Subscript o i pos')) pos.line X.env=pure false) :
  PS X (.Assign [.Subscript o i pos'] value pos) (sDPut td ty tv):=by
 intro pins s σ H D I h
 refine wpAny_Assign_Subscript (thn (hv pins s σ H _ I h) fun r s1 ⟨v,H1,I1,rv,q1⟩=>thn (ho pins s1 σ H1 _ I1 q1) fun u s2 ⟨x,H2,I2,rx,q2⟩=>thn (hi pins s2 σ H2 _ I2 q2) fun iv s3 ⟨y,H3,I3,ry,a,H4,ex,g,q3⟩=>?_) hs
 subst ex
 obtain rfl:u=Value.ref a:=rx
 exact zkj hu I3 g ry rv fun s4 I4=>⟨σ,H4,I4,q3⟩
end
theorem zh5 {P:Program} {w:World} {H:Hp} (h:Heap) (hb:sysModules<h.objs.size):ObjOk P w H (h.push { cls:=.type "dict",data:=.dict #[] }) h.objs.size (.dK []) :=
  ⟨Nat.zero_le _,beq_eq_false_iff_ne.mpr (Ne.symm (Nat.ne_of_lt hb)),[],.nil,Heap.DictOf.new h⟩
def tDNewK:TE:=fun _ H Q=>∀p,H p=none->Q (.ref p) (upd H p (.dK []))
section
variable {X:Cx} {pos:Pos}
theorem zmt:PE X (.Dict [] [] pos) tDNewK:=fun pins s σ H Q I h =>
 wpAny_Dict_empty ⟨.ref s.heap.objs.size,_,I.laid (a:=s.heap.objs.size) (o:=.dK []) (t':=s.toks) (fun _ _ q=>Heap.get?_push_of_some _ q) (Nat.le_refl _) (zh5 s.heap I.big),rfl,h _ (I.hok.fresh (Nat.le_refl _))⟩
end
def tPairs:List (TE×TE)->St->Hp->(List (V×V)->Hp->Prop)->Prop
 | [],_,H,Q=>Q [] H
 | (tk,tv)::r,σ,H,Q=>tk σ H fun x H1=>tv σ H1 fun y H2=>tPairs r σ H2 fun ps H3=>Q ((x,y)::ps) H3
abbrev VV:List (V×V)->List (Value×Value)->Prop:=Paired fun p q=>RelV p.1 q.1/\RelV p.2 q.2
def PPs (X:Cx) (pos:Pos) (keys:List (Option Expr)) (values:List Expr) (trs:List (TE×TE)):Prop :=
 ∀(pins:List (Addr×Obj)) (s:Shared) (σ:St) (H:Hp) (Q:List (V×V)->Hp->Prop),Inv X pins σ H s->tPairs trs σ H Q ->
  wpAny (model X.prog X.w) X.A (evalPairs (pairTrees keys values X.env pos)) (fun vs s'=>∃ps H',Inv X pins σ H' s'/\VV ps vs/\Q ps H') X.xe s
theorem zpu {X:Cx} {pos:Pos}:PPs X pos [] [] []:=fun pins s σ H Q I h=>pairTrees_nil_walk ⟨[],H,I,.nil,h⟩
theorem zmu {X:Cx} {pos:Pos} {k v:Expr} {ks:List (Option Expr)} {vs:List Expr} {tk tv:TE} {trs:List (TE×TE)} (hk:PE X k tk) (hv:PE X v tv) (hr:PPs X pos ks vs trs) :
  PPs X pos (some k::ks) (v::vs) ((tk,tv)::trs):=fun pins s σ H Q I h =>
 pairTrees_cons_walk (thn (hk pins s σ H _ I h) fun u s1 ⟨x,H1,I1,rx,q1⟩=>thn (hv pins s1 σ H1 _ I1 q1) fun w2 s2 ⟨y,H2,I2,ry,q2⟩ =>
  thn (hr pins s2 σ H2 _ I2 q2) fun ws s3 ⟨ps,H3,I3,rel,q3⟩=>⟨(x,y)::ps,H3,I3,.cons ⟨rx,ry⟩ rel,q3⟩)
def mergeK (kvs more:List (Key×V)):List (Key×V):=more.foldl (fun acc kv=>putK acc kv.1 kv.2) kvs
theorem KV.merge:∀{more:List (Key×V)} {rs:List (Key×Value)} {kvs:List (Key×V)} {vs:List (Key×Value)},KV more rs->KV kvs vs->KV (mergeK kvs more) (merged vs rs):=by
 intro more rs kvs vs r
 unfold KV at r
 induction r generalizing kvs vs with
 | nil=>intro q; exact q
 | @cons p q ps qs h t ih =>
  intro r0
  have e:KV (putK kvs p.1 p.2) (stored vs q.1 q.2):=by
   have:=r0.put p.1 h.2
   rw [← h.1]; exact this
  exact ih e
theorem zbx:∀(more kvs:List (Key×V)),(mergeK kvs more).length<=kvs.length+more.length
 | [],kvs=>by show kvs.length<=kvs.length+0; omega
 | p::r,kvs=>by
  have h1:=zbx r (putK kvs p.1 p.2)
  have h2:=zbm kvs p.1 p.2
  show (mergeK (putK kvs p.1 p.2) r).length<=_
  rw [List.length_cons]; omega
theorem zec {P:Program} {w:World}:∀{kvs:List (Key×V)} {ws:List (Value×Value)},VV (kvs.map fun kv=>(kV kv.1,kv.2)) ws->∃rs,Carries (mixKind P w) ws rs/\KV kvs rs
 | [],_,r=>by rw [List.map_nil] at r; cases r; exact ⟨[],True.intro,.nil⟩
 | p::kvs,_,r=>by
  rw [List.map_cons] at r
  cases r with
  | @cons a b as bs h t =>
   obtain ⟨rs,c,q⟩:=zec (P:=P) (w:=w) t
   obtain ⟨b1,b2⟩:=b
   exact ⟨(p.1,b2)::rs,⟨zjh h.1,rfl,c⟩,.cons ⟨rfl,h.2⟩ q⟩
def tDisp (trs:List (TE×TE)):TE:=fun σ H Q=>∀p,H p=none->tPairs trs σ (upd H p (.dK [])) fun ps H2=>H2 p=some (.dK [])/\∃kvs:List (Key×V),ps=kvs.map (fun kv=>(kV kv.1,kv.2))/\kvs.length<=15/\Q (.ref p) (upd H2 p (.dK (mergeK [] kvs)))
theorem zpv {X:Cx} {pos:Pos} {keys:List (Option Expr)} {values:List Expr} {trs:List (TE×TE)} (h:PPs X pos keys values trs) (hall:keys.all (·.isSome)=true) (hl:keys.length=values.length) (h0:keys≠[])
    (h15:keys.length<=15):PE X (.Dict keys values pos) (tDisp trs):=by
  intro pins s σ H Q I q
  have hn:=I.hok.fresh (Nat.le_refl s.heap.objs.size)
  have I1:=I.laid (a:=s.heap.objs.size) (o:=.dK []) (h':=s.heap.push { cls:=.type "dict",data:=.dict #[] }) (t':=s.toks) (fun _ _ q=>Heap.get?_push_of_some _ q) (Nat.le_refl _) (zh5 s.heap I.big)
  refine wpAny_Dict_walk (knd:=mixKind X.prog X.w) hall hl h0 h15 (thn (h pins _ σ _ _ I1 (q _ hn)) fun ws s2 ⟨ps,H2,I2,rel,e,kvs,ep,lk,q2⟩=>?_)
  subst ep
  obtain ⟨rs,c,rk⟩:=zec (P:=X.prog) (w:=X.w) rel
  obtain ⟨z,hd,vs0,r0,dd⟩:=zr6 I2.hok e
  cases r0
  refine ⟨rs,c,dd,fun h' dd' hs=>⟨.ref s.heap.objs.size,_,?_,rfl,q2⟩⟩
  have hz:(mergeK [] kvs).length<=sizeLine:=by
    have h1:=zbx kvs []
    rw [List.length_nil] at h1
    rw [sizeLine_eq]; omega
  have he:∃q,h'.get? s.heap.objs.size=some q:=let ⟨q,_,_,hq,_⟩:=dd'; ⟨q,hq⟩
  exact zg9 I2 (by rw [e]; exact True.intro) hs he (zoj hz hd (rk.merge .nil) dd')
def IsD (H:Hp) (a:Addr):Prop:=(∃kvs,Rd H a (.dK kvs))\/∃kvs,Rd H a (.dT kvs)
section
variable {X:Cx} {pins:List (Addr×Obj)} {σ:St} {H:Hp} {s:Shared} {a:Addr} {y d:V} {u r:Value} {o:Option V} {A:Around} {E:Value->Shared->Prop}
end
section
variable {X:Cx} {o e f:Expr} {apos cpos:Pos} {td ty tx:TE}
end
section
variable {X:Cx} {pins:List (Addr×Obj)} {σ:St} {H:Hp} {s:Shared} {a:Addr} {kvs:List (Key×V)} {A:Around} {E:Value->Shared->Prop}
end
section
variable {X:Cx} {pins:List (Addr×Obj)} {σ:St} {H:Hp} {s:Shared} {a:Addr} {y:V} {u:Value} {A:Around} {E:Value->Shared->Prop}
end
end L2
namespace L2
open PySem PySem.Spec PyProof.Rows
section
variable {X:Cx}
theorem zkl:CallR X (.builtin "len") (fun xs H Q=>∃a kvs,xs=[V.ref a]/\H a=some (.dK kvs)/\Q (.int kvs.length) H):=by
 intro pins s σ H xs us Q I r h
 obtain ⟨a,kvs,rfl,ha,q⟩:=h
 obtain ⟨u,rfl,ru⟩:=vals1 r
 cases ru
 exact ztk I (.inl ha) fun t s' I'=>⟨.int kvs.length,H,I',⟨t,rfl⟩,q⟩
end
end L2
namespace L2
open PySem
section
variable {κ:Type} [DecidableEq κ]
end
end L2
namespace L2
open PySem PySem.Spec PyProof.Rows
def Sz (n:Nat) (i:Int):Prop:=i.natAbs<2 ^ n
theorem Sz.bits {n:Nat} {i:Int} (h:Sz n i):Builtin.Int.intBits i<=n:=by
 unfold Builtin.Int.intBits
 by_cases h0:(i == 0)=true
 ·rw [if_pos h0]; exact Nat.zero_le _
 ·rw [if_neg h0]
  have hi:i.natAbs≠0:=by
   have:i≠0:=by simpa using h0
   omega
  exact Nat.succ_le_of_lt ((Nat.log2_lt hi).mpr h)
theorem Sz.log {n:Nat} {i:Int} (h:Sz n i) (hn:0<n):i.natAbs.log2<n:=by
 by_cases hi:i.natAbs=0
 ·rw [hi]; exact hn
 ·exact (Nat.log2_lt hi).mpr h
theorem Sz.mono {n m:Nat} {i:Int} (h:Sz n i) (hm:n<=m):Sz m i:=Nat.lt_of_lt_of_le h (Nat.pow_le_pow_right (by decide) hm)
theorem Sz.le {n:Nat} {i j:Int} (h:Sz n i) (hj:j.natAbs<=i.natAbs):Sz n j:=Nat.lt_of_le_of_lt hj h
theorem Sz.mul {n m:Nat} {i j:Int} (h:Sz n i) (h':Sz m j):Sz (n+m) (i * j):=by
 unfold Sz at *
 rw [Int.natAbs_mul,Nat.pow_add]
 exact Nat.mul_lt_mul'' h h'
theorem Sz.add {n:Nat} {i j:Int} (h:Sz n i) (h':Sz n j):Sz (n+1) (i+j):=by
 unfold Sz at *
 rw [Nat.pow_succ]
 omega
theorem Sz.sub {n:Nat} {i j:Int} (h:Sz n i) (h':Sz n j):Sz (n+1) (i-j):=by
 unfold Sz at *
 rw [Nat.pow_succ]
 omega
def CMulS (i j:Int):Prop:=CMul i j\/(Sz 100000 i/\Sz 100000 j)
theorem CMulS.ok {i j:Int} (h:CMulS i j):IntMulOk i j:=by
 rcases h with h | h
 ·exact h.ok
 ·exact IntMulOk.of_bits (Nat.le_trans h.1.bits (by decide)) (Nat.le_trans h.2.bits (by decide))
section
variable {X:Cx}
theorem xk:OpR X (binaryOp .Mult) (rI CMulS fun i j=>.int (i * j)):=opI fun _ _ _ _ _ _ _ hc q=>mul_int q hc.ok
theorem ve:OpR X (binaryOp .FloorDiv) (rI (fun _ j=>j≠0/\Sz 9000 j) fun i j=>.int (i.fdiv j)) :=
 opI fun _ _ _ _ _ _ _ hc q=>floordiv_int hc.1 q (.inl (PyProof.noPylong_of_log2 (hc.2.log (by decide))))
theorem RelV.bool_iff {x:V} {v:Value} {b:Bool} (r:RelV x v):(v == Value.bool b)=decide (x=.bl b):=by
 cases x with
 | bl c =>
  cases (show v=Value.bool c from r)
  by_cases h:c=b
  ·subst h; simp
  ·have h1:¬V.bl c=V.bl b:=fun z=>h (V.bl.inj z)
   rw [decide_eq_false h1]
   exact beq_eq_false_iff_ne.mpr fun z=>h (by injection z)
 | non=>cases (show v=Value.none from r); rw [decide_eq_false (fun z=>nomatch z)]; exact beq_eq_false_iff_ne.mpr fun z=>nomatch z
 | int i=>obtain ⟨t,rfl⟩:=(show ∃t,v=Value.int i t from r); rw [decide_eq_false (fun z=>nomatch z)]; exact beq_eq_false_iff_ne.mpr fun z=>nomatch z
 | str i=>obtain ⟨t,rfl⟩:=(show ∃t,v=Value.str i t from r); rw [decide_eq_false (fun z=>nomatch z)]; exact beq_eq_false_iff_ne.mpr fun z=>nomatch z
 | byt i=>obtain ⟨t,rfl⟩:=(show ∃t,v=Value.bytes i t from r); rw [decide_eq_false (fun z=>nomatch z)]; exact beq_eq_false_iff_ne.mpr fun z=>nomatch z
 | flt i=>obtain ⟨t,rfl⟩:=(show ∃t,v=Value.float i t from r); rw [decide_eq_false (fun z=>nomatch z)]; exact beq_eq_false_iff_ne.mpr fun z=>nomatch z
 | ref i=>cases (show v=Value.ref i from r); rw [decide_eq_false (fun z=>nomatch z)]; exact beq_eq_false_iff_ne.mpr fun z=>nomatch z
 | ty i=>cases (show v=Value.type i from r); rw [decide_eq_false (fun z=>nomatch z)]; exact beq_eq_false_iff_ne.mpr fun z=>nomatch z
theorem zf6 {x:V} {v:Value} {b:Bool} (r:RelV x v):plainIs v (.bool b)=true:=by
 cases x with
 | bl c=>cases (show v=Value.bool c from r); rfl
 | non=>cases (show v=Value.none from r); rfl
 | int i=>obtain ⟨t,rfl⟩:=(show ∃t,v=Value.int i t from r); rfl
 | str i=>obtain ⟨t,rfl⟩:=(show ∃t,v=Value.str i t from r); rfl
 | byt i=>obtain ⟨t,rfl⟩:=(show ∃t,v=Value.bytes i t from r); rfl
 | flt i=>obtain ⟨t,rfl⟩:=(show ∃t,v=Value.float i t from r); rfl
 | ref i=>cases (show v=Value.ref i from r); rfl
 | ty i=>cases (show v=Value.type i from r); rfl
theorem zkm:OpR X (compareOp .IsNot) (fun x y H Q=>∃b,y=.bl b/\Q (.bl (!decide (x=.bl b))) H):=by
 intro pins s σ H x y v u Q I rx ry h
 obtain ⟨b,rfl,q⟩:=h
 cases ry
 exact wpAny_isNot_plain (zf6 rx) (zoi I q (by rw [RelV.bool_iff rx]))
theorem zmv:CallR X (.builtin "isinstance") (fun xs H Q=>∃x c t b,xs=[x,.ty c]/\TyOf X.K H x t/\PySem.W.kitOne X.K t (.type c)=some b/\Q (.bl b) H):=by
 intro pins s σ H xs us Q I r h
 obtain ⟨x,c,t,b,rfl,ty,e,q⟩:=h
 obtain ⟨u,w',rfl,ru,rw'⟩:=vals2 r
 cases (show w'=Value.type c from rw')
 exact zfu I ru ty e fun tk=>⟨.bl b,H,I.tok tk,rfl,q⟩
theorem zkn:CallR X (.builtin "isinstance") (fun xs H Q=>∃x C t b,xs=[x,.ref C]/\TyOf X.K H x t/\PySem.W.kitOne X.K t (.ref C)=some b/\Q (.bl b) H):=by
 intro pins s σ H xs us Q I r h
 obtain ⟨x,c,t,b,rfl,ty,e,q⟩:=h
 obtain ⟨u,w',rfl,ru,rw'⟩:=vals2 r
 cases (show w'=Value.ref c from rw')
 exact zfu I ru ty e fun tk=>⟨.bl b,H,I.tok tk,rfl,q⟩
end
mutual
inductive Dt (K:PySem.W.Frag) (H:Hp):V->PyData->Prop
 | non:Dt K H .non .none
 | bl (b:Bool):Dt K H (.bl b) (.bool b)
 | int (i:Int):Dt K H (.int i) (.int i)
 | str (x:Str):Dt K H (.str x) (.str x)
 | lst {a:Addr} {xs:List V} {ds:List PyData}:SqL K H a xs->Dts K H xs ds->Dt K H (.ref a) (.list ds)
 | tup {a:Addr} {xs:List V} {ds:List PyData}:SqT K H a xs->Dts K H xs ds->Dt K H (.ref a) (.tuple ds)
inductive Dts (K:PySem.W.Frag) (H:Hp):List V->List PyData->Prop
 | nil:Dts K H [] []
 | cons {v:V} {d:PyData} {vs:List V} {ds:List PyData}:Dt K H v d->Dts K H vs ds->Dts K H (v::vs) (d::ds)
end
section
variable {X:Cx} {pins:List (Addr×Obj)} {σ:St} {H:Hp} {s:Shared}
mutual
theorem Dt.reads (I:Inv X pins σ H s):∀{v:V} {d:PyData} {u:Value},Dt X.K H v d->RelV v u->∃as,Reads s.heap u d as
 | _,_,_,.non,r=>by cases r; exact ⟨_,.none⟩
 | _,_,_,.bl b,r=>by cases r; exact ⟨_,.bool b⟩
 | _,_,_,.int i,r=>by obtain ⟨t,rfl⟩:=r; exact ⟨_,.int i t⟩
 | _,_,_,.str x,r=>by obtain ⟨t,rfl⟩:=r; exact ⟨_,.str x t⟩
 | _,_,_,.lst hq ds,r=>by
  obtain ⟨its,rv,⟨o,n,e,c,_,dd⟩,_⟩:=I.list hq
  obtain ⟨as,ra⟩:=Dts.reads I ds rv
  cases r
  exact ⟨_,.list e c dd (by simpa using ra)⟩
 | _,_,_,.tup hq ds,r=>by
  obtain ⟨its,rv,⟨o,e,c,n,dd⟩,_⟩:=I.tuple hq
  obtain ⟨as,ra⟩:=Dts.reads I ds rv
  cases r
  exact ⟨_,.tuple e c dd (by simpa using ra)⟩
theorem Dts.reads (I:Inv X pins σ H s):∀{vs:List V} {ds:List PyData} {us:List Value},Dts X.K H vs ds->Vals vs us->∃as,ReadsAll s.heap us ds as
 | _,_,_,.nil,r=>by cases r; exact ⟨_,.nil⟩
 | _,_,_,.cons h t,r=>by
  cases r with
  | cons p q =>
   obtain ⟨as,ra⟩:=Dt.reads I h p
   obtain ⟨bs,rb⟩:=Dts.reads I t q
   exact ⟨_,.cons ra rb⟩
end
end
section
variable {X:Cx}
def rEqD (K:PySem.W.Frag) (neg:Bool):R2:=fun x y H Q=>∃d e,Dt K H x d/\Dt K H y e/\d.canLay0=true/\e.canLay0=true/\min d.depth e.depth<=60/\Q (.bl (if neg then !PyData.eqv d e else PyData.eqv d e)) H
theorem ue (hu:X.A.units+64<cLine):OpR X (compareOp .Eq) (rEqD X.K false):=by
 intro pins s σ H x y v u Q I rx ry h
 obtain ⟨d,e,hd,he,c1,c2,dp,q⟩:=h
 obtain ⟨as,ra⟩:=hd.reads I rx
 obtain ⟨bs,rb⟩:=he.reads I ry
 exact SeqAt.compareEq_reads ra rb c1 c2 (by omega) ⟨.bl _,H,I,rfl,q⟩
theorem zan (hu:X.A.units+64<cLine):OpR X (compareOp .NotEq) (rEqD X.K true):=by
 intro pins s σ H x y v u Q I rx ry h
 obtain ⟨d,e,hd,he,c1,c2,dp,q⟩:=h
 obtain ⟨as,ra⟩:=hd.reads I rx
 obtain ⟨bs,rb⟩:=he.reads I ry
 exact SeqAt.compareNe_reads ra rb c1 c2 (by omega) ⟨.bl _,H,I,rfl,q⟩
theorem Dts.ints (K:PySem.W.Frag) (H:Hp):∀ns:List Int,Dts K H (ns.map V.int) (ns.map PyData.int)
 | []=>.nil
 | n::r=>.cons (.int n) (Dts.ints K H r)
end
theorem zby {H:Hp} {p:Addr} (h:H p=none) (o:HO):Same H (upd H p o):=fun b u q=>by rw [yu (xt q h)]; exact q
theorem Room.u64 {k:Nat} {A:Around} (r:Room k A):A.units+64<cLine:=r.units
theorem small {n:Nat} (h:n<=1000):n<=sizeLine:=Nat.le_of_lt (small1000 h)
end L2
namespace L2
open PySem PySem.Spec PyProof.Rows
end L2
namespace L2
open PySem PySem.Spec PyProof.Rows
end L2
namespace L2
open PySem
theorem zr8:bootBuiltins "int"=some (.type "int"):=by decide +kernel
theorem zok:bootBuiltins "str"=some (.type "str"):=by decide +kernel
theorem zko:bootBuiltins "bool"=some (.type "bool"):=by decide +kernel
theorem zce:bootBuiltins "list"=some (.type "list"):=by decide +kernel
theorem zr9:bootBuiltins "set"=some (.type "set"):=by decide +kernel
theorem vc:bootBuiltins "len"=some (.builtin "len"):=by decide +kernel
theorem zkp:bootBuiltins "abs"=some (.builtin "abs"):=by decide +kernel
theorem zol:bootBuiltins "max"=some (.builtin "max"):=by decide +kernel
theorem zsa:bootBuiltins "min"=some (.builtin "min"):=by decide +kernel
theorem zh6:bootBuiltins "sum"=some (.builtin "sum"):=by decide +kernel
theorem zbz:bootBuiltins "isinstance"=some (.builtin "isinstance"):=by decide +kernel
theorem zf7:bootBuiltins "sorted"=some (.builtin "sorted"):=by decide +kernel
theorem zom:bootBuiltins "all"=some (.builtin "all"):=by decide +kernel
end L2
namespace L2
open PySem PySem.Spec PyProof.Rows
section
variable {prog:Program} {w:World} {A:Around} {R:Result->Shared->Prop} {s:Shared}
theorem zcp {elt target iter:Expr} {ifs:List Expr} {scope:Scope} {pos:Pos} {it acc:Value} {env:Env} (I:Nat->Shared->Prop)
  (turn:∀n s,I n s->wpAny (model prog w) A (pyNext it) (fun r s₁=>match r with
   | none=>R (.ok .next) s₁
   | some v=>wpAny (model prog w) A (letOwnedTupleGo target it v) (fun _ s₁'=>wpAny (model prog w) A (assign target env v) (fun _ s₂ =>
     wpAny (model prog w) A (forIn ifs true fun c r=>if r=true then do let ok ← isTrue c env (eval c env); pure (ForInStep.yield ok) else pure (ForInStep.yield r)) (fun ok s₃ =>
      if ok=true then wpAny (model prog w) A (eval elt env) (fun x s₄ =>
       wpAny (model prog w) A (call (.builtin "list.append") [acc,x]) (fun _ s₅=>∃m,m<n/\I m s₅) (fun _ _=>False) s₄) (fun _ _=>False) s₃
      else ∃m,m<n/\I m s₃) (fun _ _=>False) s₂) (fun _ _=>False) s₁') (fun _ _=>False) s₁) (fun _ _=>False) s)
  (n:Nat) (h:I n s) :
  codeAny (model prog w) A (.compLoop (.ListComp elt [⟨target,iter,ifs,0⟩] scope pos) 0 it acc env) R s:=by
 have up:∀{α:Type} {m:Sem α} {Q:α->Shared->Prop} {E:Value->Shared->Prop} {s:Shared},wpAny (model prog w) A m Q (fun _ _=>False) s->wpAny (model prog w) A m Q E s:=fun h=>wpAny_mono h (fun _ _ q=>q) fun _ _ f=>f.elim
 refine codeAny_loop rfl I (fun n s hI=>?_) n h
 show wpAny _ A ((compTurn (.ListComp elt [⟨target,iter,ifs,0⟩] scope pos) 0 it acc env).onRaise (fun x=>do noteFrame x env; theTreesLotGoes x)) _ _ s
 refine wpAny_noted ?_
 rw [compTurn_list]
 refine wpAny_bind (wpAny_standAt (wpAny_bind (wpAny_mono (up (turn n s hI)) (fun r s₁ h₁=>?_) fun _ _ h'=>h')))
 cases r with
 | none=>exact wpAny_pure h₁
 | some v =>
  refine wpAny_bind (wpAny_mono (up h₁) (fun _ s₁' h₁'=>?_) fun _ _ h'=>h')
  refine wpAny_bind (wpAny_mono (up h₁') (fun _ s₂ h₂=>wpAny_bind (wpAny_mono (up h₂) (fun ok s₃ h₃=>?_) fun _ _ h'=>h')) fun _ _ h'=>h')
  cases ok with
  | false=>exact wpAny_pure ⟨rfl,h₃⟩
  | true =>
   exact wpAny_bind (wpAny_bind (wpAny_mono (up h₃) (fun x s₄ h₄=>wpAny_bind (wpAny_mono (up h₄) (fun _ s₅ h₅=>wpAny_pure (wpAny_pure ⟨rfl,h₅⟩)) fun _ _ h'=>h')) fun _ _ h'=>h'))
end
theorem zba {env:Env}:∀(names:List (Str×NameKind)) (acc:List (Str×Addr)),(∀x∈names,x.2=.free->∃c,env.cells.lookup x.1=some c)->(∀y c,acc.lookup y=some c->env.cells.lookup y=some c) ->
  ∃cl,(forIn names acc fun (x:Str×NameKind) (cs:List (Str×Addr))=>if (x.2 == NameKind.free)=true then do let a ← cellOf env x.1; pure (ForInStep.yield ((x.1,a)::cs)) else pure (ForInStep.yield cs):Sem (List (Str×Addr)))=pure cl /\
   (∀y c,cl.lookup y=some c->env.cells.lookup y=some c)/\(∀x∈names,x.2=.free->∃c,cl.lookup x.1=some c)/\∀y c,acc.lookup y=some c->∃c',cl.lookup y=some c'
 | [],acc,_,ha=>⟨acc,rfl,ha,fun _ h=>(nomatch h),fun y c h=>⟨c,h⟩⟩
 | (n,k)::r,acc,hn,ha=>by
  by_cases hk:k=.free
  ·subst hk
   obtain ⟨c,hc⟩:=hn (n,.free) List.mem_cons_self rfl
   have e1:cellOf env n=pure c:=by unfold cellOf; rw [hc]
   have ha':∀y d,((n,c)::acc).lookup y=some d->env.cells.lookup y=some d:=fun y d h=>by
    rw [List.lookup_cons] at h
    cases hy:y == n with
    | true =>
     rw [hy] at h
     have:y=n:=eq_of_beq hy
     subst this
     cases h
     exact hc
    | false=>rw [hy] at h; exact ha y d h
   obtain ⟨cl,h1,h2,h3,h4⟩:=zba r ((n,c)::acc) (fun x hx=>hn x (List.mem_cons_of_mem _ hx)) ha'
   refine ⟨cl,?_,h2,?_,?_⟩
   ·rw [List.forIn_cons]
    simp only [beq_self_eq_true,if_true,e1,pure_bind]
    exact h1
   ·intro x hx hf
    rcases List.mem_cons.mp hx with rfl | hx
    ·exact h4 n c (by rw [List.lookup_cons,beq_self_eq_true])
    ·exact h3 x hx hf
   ·intro y d hy
    cases hb:y == n with
    | true=>exact h4 y c (by rw [List.lookup_cons,hb])
    | false=>exact h4 y d (by rw [List.lookup_cons,hb]; exact hy)
  ·have hb:(k == NameKind.free)=false:=by simpa using hk
   obtain ⟨cl,h1,h2,h3,h4⟩:=zba r acc (fun x hx=>hn x (List.mem_cons_of_mem _ hx)) ha
   refine ⟨cl,?_,h2,?_,h4⟩
   ·rw [List.forIn_cons]
    simp only [hb,Bool.false_eq_true,if_false,pure_bind]
    exact h1
   ·intro x hx hf
    rcases List.mem_cons.mp hx with rfl | hx
    ·exact absurd hf hk
    ·exact h3 x hx hf
theorem ze3 (n:Nat) (a:Str) (r:List (Str×NameKind)) (acc:List (Str×Addr)):cellsFrom n ((a,.cell)::r) acc=cellsFrom (n+1) r ((a,n)::acc):=rfl
theorem zh7 {k:NameKind} (hk:k≠.cell) (n:Nat) (a:Str) (r:List (Str×NameKind)) (acc:List (Str×Addr)):cellsFrom n ((a,k)::r) acc=cellsFrom n r acc:=by
 cases k <;> first | rfl | exact absurd rfl hk
def ncell (names:List (Str×NameKind)):Nat:=(names.filter fun y=>y.2 == NameKind.cell).length
theorem zhb (a:Str) (r:List (Str×NameKind)):ncell ((a,.cell)::r)=ncell r+1:=by unfold ncell; rw [List.filter_cons_of_pos (by rfl),List.length_cons]
theorem zon {k:NameKind} (hk:k≠.cell) (a:Str) (r:List (Str×NameKind)):ncell ((a,k)::r)=ncell r:=by unfold ncell; rw [List.filter_cons_of_neg (by simpa using hk)]
theorem zjj:∀(names:List (Str×NameKind)) (n:Nat) (acc:List (Str×Addr)) {x:Str} {c:Nat},(cellsFrom n names acc).lookup x=some c->(n<=c/\c<n+ncell names/\(x,NameKind.cell)∈names)\/(acc.lookup x=some c/\(x,NameKind.cell)∉names)
 | [],_,_,_,_,h=>.inr ⟨h,by simp⟩
 | (a,k)::r,n,acc,x,c,h=>by
  by_cases hk:k=.cell
  ·subst hk
   rw [ze3] at h
   rcases zjj r (n+1) _ h with ⟨h1,h2,h3⟩ | ⟨h1,h2⟩
   ·refine .inl ⟨by omega,?_,List.mem_cons_of_mem _ h3⟩
    rw [zhb]; omega
   ·rw [List.lookup_cons] at h1
    cases hx:x == a with
    | true =>
     rw [hx] at h1
     cases h1
     refine .inl ⟨Nat.le_refl _,?_,by rw [eq_of_beq hx]; exact List.mem_cons_self⟩
     rw [zhb]; omega
    | false =>
     rw [hx] at h1
     refine .inr ⟨h1,fun z=>?_⟩
     rcases List.mem_cons.mp z with z | z
     ·cases z; simp at hx
     ·exact h2 z
  ·rw [zh7 hk] at h
   have hf:=zon hk a r
   rw [hf]
   rcases zjj r n _ h with ⟨h1,h2,h3⟩ | ⟨h1,h2⟩
   ·exact .inl ⟨h1,h2,List.mem_cons_of_mem _ h3⟩
   ·refine .inr ⟨h1,fun z=>?_⟩
    rcases List.mem_cons.mp z with z | z
    ·cases z; exact hk rfl
    ·exact h2 z
theorem zkq:∀(names:List (Str×NameKind)) (n:Nat) (acc:List (Str×Addr)) {x:Str},(x,NameKind.cell)∉names->(cellsFrom n names acc).lookup x=acc.lookup x
 | [],_,_,_,_=>rfl
 | (a,k)::r,n,acc,x,h=>by
  have hr:(x,NameKind.cell)∉r:=fun z=>h (List.mem_cons_of_mem _ z)
  by_cases hk:k=.cell
  ·subst hk
   rw [ze3,zkq r _ _ hr,List.lookup_cons]
   cases hx:x == a with
   | true=>exact absurd (by rw [eq_of_beq hx]; exact List.mem_cons_self) h
   | false=>rfl
  ·rw [zh7 hk,zkq r _ _ hr]
theorem zkr:∀(names:List (Str×NameKind)) (n:Nat) (acc:List (Str×Addr)),(∀x y c,acc.lookup x=some c->acc.lookup y=some c->x=y)->(∀x c,acc.lookup x=some c->c<n)->∀x y c,(cellsFrom n names acc).lookup x=some c->(cellsFrom n names acc).lookup y=some c->x=y
 | [],_,_,h,_=>h
 | (a,k)::r,n,acc,h,hb=>by
  by_cases hk:k=.cell
  ·subst hk
   rw [ze3]
   refine zkr r (n+1) _ (fun x y c e e'=>?_) fun x c e=>?_
   ·rw [List.lookup_cons] at e e'
    cases hx:x == a with
    | true =>
     rw [hx] at e
     cases e
     cases hy:y == a with
     | true=>rw [eq_of_beq hx,eq_of_beq hy]
     | false=>rw [hy] at e'; exact absurd (hb _ _ e') (Nat.lt_irrefl _)
    | false =>
     rw [hx] at e
     cases hy:y == a with
     | true=>rw [hy] at e'; cases e'; exact absurd (hb _ _ e) (Nat.lt_irrefl _)
     | false=>rw [hy] at e'; exact h x y c e e'
   ·rw [List.lookup_cons] at e
    cases hx:x == a with
    | true=>rw [hx] at e; cases e; exact Nat.lt_succ_self _
    | false=>rw [hx] at e; exact Nat.lt_succ_of_lt (hb _ _ e)
  ·rw [zh7 hk]
   exact zkr r n acc h hb
theorem zcf {M:Model} {A:Around} {E:Value->Shared->Prop}:∀(names:List (Str×NameKind)) (cells:List (Str×Addr)) (s:Shared) (Q:List (Str×Addr)->Shared->Prop),
    (∀h':Heap,(∀b o,s.heap.get? b=some o->h'.get? b=some o)->(∀c,s.heap.objs.size<=c->c<s.heap.objs.size+ncell names->h'.IsCell c none)->Q (cellsFrom s.heap.objs.size names cells) { s with heap:=h' }) ->
    wpAny M A (forIn names cells fun (x:Str×NameKind) (cells:List (Str×Addr))=>if (x.2 == NameKind.cell)=true then do let a ← alloc { cls:=Value.type "cell",data:=Data.cell none }; pure (ForInStep.yield ((x.1,a)::cells)) else pure (ForInStep.yield cells)) Q E s
  | [],cells,s,Q,h=>by
    have:=h s.heap (fun _ _ e=>e) (fun c h1 h2=>by rw [show ncell []=0 from rfl] at h2; omega)
    rw [List.forIn_nil]
    exact wpAny_pure this
  | (a,k)::r,cells,s,Q,h=>by
    rw [List.forIn_cons]
    by_cases hk:k=.cell
    · subst hk
      simp only [beq_self_eq_true,if_true,bind_assoc,pure_bind]
      refine wpAny_bind (wpAny_alloc ?_)
      have ih:=zcf (M:=M) (A:=A) (E:=E) r ((a,s.heap.objs.size)::cells) { s with heap:=s.heap.push { cls:=Value.type "cell",data:=Data.cell none } } Q (fun h' k1 k2=>by
        have hz:(s.heap.push { cls:=Value.type "cell",data:=Data.cell none }).objs.size=s.heap.objs.size+1:=Heap.size_push _ _
        have:=h h' (fun b o e=>k1 b o (Heap.get?_push_of_some _ e)) (fun c h1 h2=>by
          rw [zhb] at h2
          by_cases hc:c=s.heap.objs.size
          · subst hc
            exact ⟨_,k1 _ _ (Heap.get?_push_size _ rfl),rfl⟩
          · exact k2 c (by show (s.heap.push _).objs.size<=c; rw [hz]; omega) (by show c<(s.heap.push _).objs.size+_; rw [hz]; omega))
        rw [ze3] at this
        have e:(({ s with heap:=s.heap.push { cls:=Value.type "cell",data:=Data.cell none } }:Shared)).heap.objs.size=s.heap.objs.size+1:=hz
        rw [e]
        exact this)
      exact ih
    · have hb:(k == NameKind.cell)=false:=by simpa using hk
      simp only [hb,Bool.false_eq_true,if_false,pure_bind]
      refine zcf r cells s Q fun h' k1 k2=>?_
      have hf:=zon hk a r
      have:=h h' k1 (by rw [hf]; exact k2)
      rw [zh7 hk] at this
      exact this
theorem zcq {M:Model} {A:Around} {E:Value->Shared->Prop} {s:Shared} {scope:Scope} {globals:Addr} {closure:List (Str×Addr)} {qual:Str} {code:Value} {out:Env} {builtins:Addr} {Q:Env->Shared->Prop}
    (h:∀h':Heap,(∀b o,s.heap.get? b=some o->h'.get? b=some o)->h'.Ns s.heap.objs.size (fun _=>none)->(∀c,s.heap.objs.size+1<=c->c<s.heap.objs.size+1+ncell scope.names->h'.IsCell c none) ->
      Q (newEnv scope s.heap.objs.size globals (cellsFrom (s.heap.objs.size+1) scope.names closure) qual none code (some out) builtins) { s with heap:=h' }) :
    wpAny M A (newFunctionEnv scope globals closure [] qual none code (some out) builtins) Q E s:=by
  unfold newFunctionEnv
  refine wpAny_bind (wpAny_alloc ?_)
  have hz:(s.heap.push { cls:=Value.type "dict",data:=Data.dict #[] }).objs.size=s.heap.objs.size+1:=Heap.size_push _ _
  refine wpAny_bind (zcf scope.names closure { s with heap:=s.heap.push { cls:=Value.type "dict",data:=Data.dict #[] } } _ fun h' k1 k2=>?_)
  have hz':(({ s with heap:=s.heap.push { cls:=Value.type "dict",data:=Data.dict #[] } }:Shared)).heap.objs.size=s.heap.objs.size+1:=hz
  rw [hz'] at k2 ⊢
  dsimp only
  rw [List.forIn_nil]
  refine wpAny_bind (wpAny_pure (wpAny_pure ?_))
  exact h h' (fun b o e=>k1 b o (Heap.get?_push_of_some _ e)) ((Heap.Ns.new s.heap _).keeps k1) k2
def cxB (X:Cx) (scope:Scope) (cl:List (Str×Addr)) (N:List Str) (C:Addr) (fp:List Addr) (s₀:Shared) (H₀:Hp):Cx :=
 { X with N:=N,s₀:=s₀,H₀:=H₀,env:=compEnvC scope cl C X.env,outer:=X.stack,stack:=X.stack,ex:=fp,fn:=fun x=>scope.names.lookup x == some .cell,pn:=[],xe:=fun _ _=>False }
structure BlkOk (X:Cx) (scope:Scope) (N:List Str) (own:Nat) (cap:List Nat):Prop where
 kind:scope.kind=.function
 cells:∀x∈scope.names,x.2=.cell->scope.names.lookup x.1=some .cell
 locs:∀x∈scope.names,x.2=.local->scope.names.lookup x.1=some .local
 free:∀x∈scope.names,x.2=.free->X.env.kindOf x.1=some .cell\/X.env.kindOf x.1=some .free
 len:N.length=own+cap.length
 caps:∀(j:Nat) (x:Str),N[own+j]?=some x->∃i,cap[j]?=some i/\X.N[i]?=some x/\(scope.names.lookup x=some .free)
theorem zbb {α β:Type} [BEq α] [LawfulBEq α] {x:α} {y:β}:∀{l:List (α×β)},l.lookup x=some y->(x,y)∈l
 | [],h=>by simp at h
 | (a,b)::r,h=>by
  rw [List.lookup_cons] at h
  cases hb:x == a with
  | true=>rw [hb] at h; cases h; rw [eq_of_beq hb]; exact List.mem_cons_self
  | false=>rw [hb] at h; exact List.mem_cons_of_mem _ (zbb h)
theorem zcr {env:Env} {x:Str}:∀{names:List (Str×NameKind)},names.lookup x=some .free ->
  (names.map fun (n,k)=>if (k == NameKind.free && env.scope.kind == .function && env.kindOf n == some .cell) then (n,NameKind.cell) else (n,k)).lookup x=some .cell \/
  (names.map fun (n,k)=>if (k == NameKind.free && env.scope.kind == .function && env.kindOf n == some .cell) then (n,NameKind.cell) else (n,k)).lookup x=some .free
 | [],h=>by simp at h
 | (n,k)::r,h=>by
  rw [List.lookup_cons] at h
  rw [List.map_cons]
  cases hx:x == n with
  | true =>
   rw [hx] at h
   cases h
   by_cases hc:(NameKind.free == NameKind.free && env.scope.kind == .function && env.kindOf n == some .cell)=true
   ·left
    simp only [hc,if_true,List.lookup_cons,hx]
   ·right
    simp only [hc,if_false,List.lookup_cons,hx,Bool.false_eq_true]
  | false =>
   rw [hx] at h
   rcases zcr (env:=env) h with q | q
   ·left
    by_cases hc:(k == NameKind.free && env.scope.kind == .function && env.kindOf n == some .cell)=true
    ·simp only [hc,if_true,List.lookup_cons,hx]; exact q
    ·simp only [hc,if_false,List.lookup_cons,hx,Bool.false_eq_true]; exact q
   ·right
    by_cases hc:(k == NameKind.free && env.scope.kind == .function && env.kindOf n == some .cell)=true
    ·simp only [hc,if_true,List.lookup_cons,hx]; exact q
    ·simp only [hc,if_false,List.lookup_cons,hx,Bool.false_eq_true]; exact q
theorem zb0 {env:Env} {x:Str}:∀{names:List (Str×NameKind)},((names.map fun (n,k)=>if (k == NameKind.free && env.scope.kind == .function && env.kindOf n == some .cell) then (n,NameKind.cell) else (n,k)).lookup x=some .cell \/
  (names.map fun (n,k)=>if (k == NameKind.free && env.scope.kind == .function && env.kindOf n == some .cell) then (n,NameKind.cell) else (n,k)).lookup x=some .free)->(x,NameKind.free)∈names\/(x,NameKind.cell)∈names
 | [],h=>by simp at h
 | (n,k)::r,h=>by
  rw [List.map_cons] at h
  cases hx:x == n with
  | true =>
   have e:x=n:=eq_of_beq hx
   by_cases hc:(k == NameKind.free && env.scope.kind == .function && env.kindOf n == some .cell)=true
   ·have:k=.free:=by
     rw [Bool.and_eq_true,Bool.and_eq_true] at hc
     exact eq_of_beq hc.1.1
    left
    rw [e,this]; exact List.mem_cons_self
   ·simp only [hc,if_false,List.lookup_cons,hx,Bool.false_eq_true] at h
    rcases h with h | h
    ·cases h; right; rw [e]; exact List.mem_cons_self
    ·cases h; left; rw [e]; exact List.mem_cons_self
  | false =>
   refine (zb0 (env:=env) (names:=r) ?_).imp (List.mem_cons_of_mem _) (List.mem_cons_of_mem _)
   by_cases hc:(k == NameKind.free && env.scope.kind == .function && env.kindOf n == some .cell)=true
   ·simpa only [hc,if_true,List.lookup_cons,hx] using h
   ·simpa only [hc,if_false,List.lookup_cons,hx,Bool.false_eq_true] using h
def capsOf (σ:St) (cap:List Nat):St:=cap.map fun i=>(σ[i]?).join
theorem zjk {σ:St} {cap:List Nat} {j i:Nat} {v:V} (hj:cap[j]?=some i) (h:(capsOf σ cap)[j]?=some (some v)):σ[i]?=some (some v):=by
 unfold capsOf at h
 rw [List.getElem?_map,hj] at h
 cases e:σ[i]? with
 | none=>rw [Option.map_some,e] at h; cases h
 | some o =>
  rw [Option.map_some,e] at h
  cases o with
  | none=>cases h
  | some u=>exact h
section
variable {X:Cx} {pins:List (Addr×Obj)} {σ:St} {H:Hp} {s:Shared}
theorem zf8 {scope:Scope} {cl:List (Str×Addr)} {N:List Str} {own:Nat} {cap:List Nat} {fp:List Addr} {h₁:Heap} {t':Nat} {m₀:Str->Option Value} (B:BlkOk X scope N own cap) (I:Inv X pins σ H s)
    (c1:∀y c,cl.lookup y=some c->X.env.cells.lookup y=some c) (c2:∀x∈scope.names,x.2=.free->∃c,cl.lookup x.1=some c)
    (hf:∀b∈fp,FpOk X pins H b) (hfo:∀b∈fp,b<s.heap.objs.size) (hns:h₁.Ns s.heap.objs.size m₀) (k:∀b o,s.heap.get? b=some o->h₁.get? b=some o)
    (hcs:∀c,s.heap.objs.size+1<=c->c<s.heap.objs.size+1+ncell scope.names->h₁.IsCell c none) :
    Inv (cxB X scope (cellsFrom (s.heap.objs.size+1) scope.names cl) N s.heap.objs.size fp s H) [] (List.replicate own none++capsOf σ cap) H { s with heap:=h₁,toks:=t' } :=
  have low:∀x c,cl.lookup x=some c->c<s.heap.objs.size:=fun x c e=>by
    obtain ⟨v,o,q,_⟩:=I.cell x c (c1 x c e)
    exact Heap.lt_size q
  { ok:={
      mod:=I.mod
      kind:=B.kind
      glob:=I.ok.glob
      blt:=I.ok.blt
      above:=Nat.le_refl _
      inj:=zkr _ _ _ (fun x y c e e'=>I.ok.inj x y c (c1 x c e) (c1 y c e')) fun x c e=>Nat.lt_succ_of_lt (low x c e)
      has:=fun x hx=>by
        refine Option.isSome_iff_exists.mp (PySem.W.cellsFrom_some scope.names _ _ ?_)
        rcases zb0 hx with q | q
        · right
          obtain ⟨c,e⟩:=c2 _ q rfl
          rw [e]; rfl
        · exact .inl (B.cells _ q rfl)
      cab:=fun x c e e'=>by
        have hx:scope.names.lookup x=some .cell:=eq_of_beq e
        rcases zjj _ _ _ e' with ⟨h1,_⟩ | ⟨_,h2⟩
        · exact Nat.le_of_succ_le h1
        · exact absurd (zbb hx) h2
      hd:=I.ok.hd
      frames:=I.ok.frames
      stk:=.inl rfl
      exf:=fun b hb=>⟨Nat.ne_of_lt (hfo b hb),fun x c e=>by
        rcases zjj _ _ _ e with ⟨h1,_⟩ | ⟨h1,_⟩
        · exact fun z=>absurd (hfo b hb) (by rw [← z]; exact Nat.not_lt.mpr (Nat.le_of_succ_le h1))
        · exact (hf b hb).2.2.2.2.1 x c (c1 x c h1)⟩
      bs:=I.bs
      bsz:=Nat.le_trans I.ok.bsz I.sz
      noex:=fun b o e hb=>by
        rcases (hf b hb).2.2.2.1 with q | q
        · exact I.ok.noex b o e q
        · exact absurd (Nat.lt_of_lt_of_le (Heap.lt_size e) I.ok.bsz) (Nat.not_lt.mpr q)
      exfs:=fun b hb hz=>by
        rcases List.mem_cons.mp (I.stkSub b hz) with q | q
        · exact (hf b hb).2.1 q
        · exact (hf b hb).2.2.1 q
      funs:=I.stack
      frf:=I.stkFree }
    os:=rfl
    bare:=I.bare
    base:=Un.kept k
    loc:=by
      refine ⟨m₀,hns,fun i x v hN hσ hv=>?_⟩
      by_cases hi:i<own
      · rw [List.getElem?_append_left (by rw [List.length_replicate]; exact hi),List.getElem?_replicate,if_pos hi] at hσ
        cases hσ
      · obtain ⟨j,rfl⟩:∃j,i=own+j:=⟨i-own,by omega⟩
        obtain ⟨i',e1,e2,e3⟩:=B.caps j x hN
        rw [List.getElem?_append_right (by rw [List.length_replicate]; omega),List.length_replicate,Nat.add_sub_cancel_left] at hσ
        have hσ':=zjk e1 hσ
        have hk:=B.free (x,.free) (zbb e3) rfl
        obtain ⟨m,hm,hl⟩:=I.loc
        obtain ⟨u,ru,hu⟩:=hl i' x v e2 hσ' (.inr hk)
        refine ⟨u,ru,?_⟩
        rcases hu with ⟨q,_⟩ | ⟨_,c,hc,ic⟩
        · rcases hk with hk | hk
          · rw [hk] at q; cases q
          · rw [hk] at q; cases q
        · obtain ⟨c',hc'⟩:=c2 (x,.free) (zbb e3) rfl
          have ec:=c1 x c' hc'
          rw [hc] at ec
          cases ec
          have hn:(x,NameKind.cell)∉scope.names:=fun z=>by
            have:=B.cells _ z rfl
            rw [e3] at this
            cases this
          exact .inr ⟨zcr e3,c,by show (cellsFrom _ _ _).lookup x=_; rw [zkq _ _ _ hn]; exact hc',ic.keeps k⟩
    cell:=fun x c e=>by
      rcases zjj _ _ _ e with ⟨h1,h2,_⟩ | ⟨h1,_⟩
      · exact ⟨none,hcs c h1 h2⟩
      · obtain ⟨v,q⟩:=I.cell x c (c1 x c h1)
        exact ⟨v,q.keeps k⟩
    free:=I.hok.fresh (Nat.le_refl _)
    freeC:=fun x c e=>by
      rcases zjj _ _ _ e with ⟨h1,_⟩ | ⟨h1,_⟩
      · exact I.hok.fresh (Nat.le_of_succ_le h1)
      · exact I.freeC x c (c1 x c h1)
    pin:=fun p hp=>(nomatch hp)
    hok:=I.hok.kept k
    len:=by
      show (List.replicate own none++capsOf σ cap).length=N.length
      rw [List.length_append,List.length_replicate,B.len]
      unfold capsOf
      rw [List.length_map] }
end
def tNoTest:TT:=fun _ H Q=>Q true H
def PTs (X:Cx) (ifs:List Expr) (t:TT):Prop :=
 ∀(pins:List (Addr×Obj)) (s:Shared) (σ:St) (H:Hp) (Q:Bool->Hp->Prop),Inv X pins σ H s->t σ H Q ->
  wpAny (model X.prog X.w) X.A (forIn ifs true fun c r=>if r=true then do let ok ← isTrue c X.env (eval c X.env); pure (ForInStep.yield ok) else pure (ForInStep.yield r)) (TP X pins σ Q) X.xe s
theorem zpw {X:Cx}:PTs X [] tNoTest:=fun _ _ _ H _ I h=>wpAny_tests_nil ⟨H,I,h⟩
theorem zpx {X:Cx} {c:Expr} {t:TT} (h:PT X c t):PTs X [c] t:=fun pins s σ H Q I q=>wpAny_tests_one (h pins s σ H Q I q)
def tComp (wi:TI) (own:Nat) (cap:List Nat) (g:TG) (tt:TT) (te:TE):TE:=fun σ H Q=>wi σ H fun J H1=>∀D,H1 D=none->∃W:Nat->Nat->List V->Hp->Prop,(∃m,W 0 m [] (upd H1 D (.lst []))) /\
 ∀i m ys H2,W i m ys H2->H2 D=some (.lst ys)/\((J.stop i H2/\Q (.ref D) H2)\/(J.go i H2/\ys.length<sizeLine/\∀x H3,J.yld i H2 x H3->g x (List.replicate own none++capsOf σ cap) H3 fun σ2 H4=>tt σ2 H4 fun b H5 =>
  if b=true then te σ2 H5 fun y H6=>H6 D=some (.lst ys)/\∃m',m'<m/\W (i+1) m' (ys++[y]) (upd H6 D (.lst (ys++[y]))) else ∃m',m'<m/\W (i+1) m' ys H5))
def keepsCaps (own:Nat) (g:TG):Prop:=∀v σ H Q,g v σ H Q->g v σ H fun σ' H'=>Q σ' H'/\σ'.length = σ.length/\∀i,own<=i->σ'[i]? = σ[i]?
theorem zjl (i own:Nat) (h:i<own):keepsCaps own (gName i):=fun v σ H Q q=>⟨q,by rw [List.length_set],fun j hj=>by rw [List.getElem?_set_ne (by omega)]⟩
theorem zpy {X:Cx} {elt iter tg:Expr} {ifs:List Expr} {scope:Scope} {pos:Pos} {N:List Str} {own:Nat} {cap:List Nat} {wi:TI} {g:TG} {tt:TT} {te:TE} (B:BlkOk X scope N own cap) (hc:X.calm=true) (hi:PI X tg iter wi)
    (kg:keepsCaps own g)
    (hg:∀cl C fp s₀ H₀,PG (cxB X scope cl N C fp s₀ H₀) tg g) (ht:∀cl C fp s₀ H₀,PTs (cxB X scope cl N C fp s₀ H₀) ifs tt) (he:∀cl C fp s₀ H₀,PE (cxB X scope cl N C fp s₀ H₀) elt te)
    (hs:∀x,foldedSetIterable iter X.env x=pure x:=by intro _; rfl):PE X (.ListComp elt [⟨tg,iter,ifs,0⟩] scope pos) (tComp wi own cap g tt te):=by
  intro pins s σ H Q I h
  obtain ⟨cl,hcl,c1,c2,_⟩:=zba (env:=X.env) scope.names [] (fun x hx hf=>I.ok.has x.1 (B.free x hx hf)) (fun y c e=>by simp at e)
  have hclos:closureFor scope X.env=pure cl:=by
    have e:closureFor scope X.env=(forIn scope.names ([]:List (Str×Addr)) (fun (x:Str×NameKind) (cs:List (Str×Addr))=>if (x.2 == NameKind.free)=true then do let a ← cellOf X.env x.1; pure (ForInStep.yield ((x.1,a)::cs)) else pure (ForInStep.yield cs)) >>= pure:Sem (List (Str×Addr))):=rfl
    rw [e,hcl]
    rfl
  rw [eval_ListComp]
  refine wpAny_comprehension_free (use:=none) rfl hs hclos B.kind B.locs (thn (hi pins s σ H _ I h) fun v s1 h1=>thn h1 fun itv s2 h2=>?_)
  obtain ⟨it,fp,tn,J,H2,e,I2,T,st2,f2,W0⟩:=h2
  subst e
  obtain ⟨W,⟨m0,w0⟩,turn⟩:=W0 s2.heap.objs.size (I2.hok.fresh (Nat.le_refl _))
  refine wpAny_newObj_type ?_
  have I3:Inv X pins σ (upd H2 s2.heap.objs.size (.lst [])) { s2 with heap:=s2.heap.push { cls:=.type "list",data:=.seq ([]:List Value).toArray } }:=I2.lnew .nil (Nat.zero_le _)
  generalize hs3:({ s2 with heap:=s2.heap.push { cls:=.type "list",data:=.seq ([]:List Value).toArray } }:Shared)=s3 at I3
  have k3:∀b o,s2.heap.get? b=some o->s3.heap.get? b=some o:=fun b o e=>by rw [← hs3]; exact Heap.get?_push_of_some _ e
  have z3:s3.heap.objs.size=s2.heap.objs.size+1:=by rw [← hs3]; exact Heap.size_push _ _
  have hfo2:∀b∈fp,b<s2.heap.objs.size:=fun b hb=>by
    obtain ⟨o,e,_⟩:=T.obj _ _ st2 b hb
    exact Heap.lt_size e
  have hne:∀b∈fp,b≠s2.heap.objs.size:=fun b hb=>Nat.ne_of_lt (hfo2 b hb)
  have f3:∀b∈fp,FpOk X pins (upd H2 s2.heap.objs.size (.lst [])) b:=fun b hb=>⟨by rw [yu (hne b hb)]; exact (f2 b hb).1,(f2 b hb).2⟩
  have tn3:tn 0 s3.heap:=T.keep _ _ _ st2 fun b _ o e=>k3 b o e
  show wpAny _ _ (newFunctionEnv scope X.env.globals cl [] X.env.qual none .none (some X.env)) _ _ _
  refine zcq fun h₁ kk hns₁ hcs₁=>?_
  have IB:=zf8 (t':=s3.toks) B I3 c1 c2 f3 (fun b hb=>by rw [z3]; exact Nat.lt_succ_of_lt (hfo2 b hb)) hns₁ kk hcs₁
  generalize cellsFrom (s3.heap.objs.size+1) scope.names cl=cl at IB ⊢
  generalize hs4:({ s3 with heap:=h₁,toks:=s3.toks }:Shared)=s4 at IB
  have tn4:tn 0 s4.heap:=T.keep _ _ _ tn3 fun b _ o e=>by rw [← hs4]; exact kk b o e
  show codeAny (model X.prog X.w) X.A (.compStart (.ListComp elt [⟨tg,iter,ifs,0⟩] scope pos) 0 (.ref it) (.ref s2.heap.objs.size) (compEnvC scope cl s3.heap.objs.size X.env))
      (compPost (model X.prog X.w) X.A X.xe none (EP X pins σ Q) (.ref s2.heap.objs.size) s3.heap.objs.size) s4
  have stat:∀{H':Hp},(∀b∈fp,H' b=none)->∀b∈fp,FpOk (cxB X scope cl N s3.heap.objs.size fp s3 (upd H2 s2.heap.objs.size (.lst []))) [] H' b:=fun hn b hb =>
    ⟨hn b hb,Nat.ne_of_lt (by show b<s3.heap.objs.size; rw [z3]; exact Nat.lt_succ_of_lt (hfo2 b hb)),IB.ok.exfs b hb,.inl hb,fun x c e=>(IB.ok.exf b hb).2 x c e,fun p hp=>(nomatch hp)⟩
  have loop:codeAny (model X.prog X.w) X.A (.compLoop (.ListComp elt [⟨tg,iter,ifs,0⟩] scope pos) 0 (.ref it) (.ref s2.heap.objs.size) (compEnvC scope cl s3.heap.objs.size X.env))
      (compPost (model X.prog X.w) X.A X.xe none (EP X pins σ Q) (.ref s2.heap.objs.size) s3.heap.objs.size) s4:=by
    refine zcp (fun n s'=>∃i ys H',Inv (cxB X scope cl N s3.heap.objs.size fp s3 (upd H2 s2.heap.objs.size (.lst []))) [] (List.replicate own none++capsOf σ cap) H' s'/\tn i s'.heap/\(∀b∈fp,H' b=none)/\W i n ys H') ?_ m0
      ⟨0,[],_,IB,tn4,fun b hb=>(f3 b hb).1,w0⟩
    rintro n s5 ⟨i,ys,H5,I5,st5,fr5,w5⟩
    obtain ⟨hD,hgo⟩:=turn i n ys H5 w5
    rcases hgo with ⟨stop,qn⟩ | ⟨go,hlt,step⟩
    · refine thn (T.done (cxB X scope cl N s3.heap.objs.size fp s3 (upd H2 s2.heap.objs.size (.lst []))) rfl rfl rfl hc i [] s5 _ H5 (fun _ _=>False) I5 (stat fr5) st5 stop) fun r s6 ⟨hr,I6⟩=>?_
      subst hr
      obtain ⟨m,hm,_⟩:=id I6.loc
      refine ⟨m,hm,fun h' sb=>⟨.ref s2.heap.objs.size,H5,?_,rfl,qn⟩⟩
      have U:=I6.base
      have nC:∀b o,s3.heap.get? b=some o->b≠s3.heap.objs.size:=fun b o e=>Nat.ne_of_lt (Heap.lt_size e)
      have nT:∀b o,H5 b=some o->b≠s3.heap.objs.size:=fun b o e z=>by
        have q:H5 s3.heap.objs.size=none:=I6.free
        rw [z,q] at e
        cases e
      refine I3.call' (ch:=fp) I6.os ?_ (fun a o e=>(I6.hok a o e).stay (fun b u hb q=>sb.extBut b u ?_ q) (fun _ q=>q) fun _ _ q=>q) I6.bare (fun b hb=>⟨(f3 b hb).2.2.2.1,(f3 b hb).2.1,(f3 b hb).2.2.2.2.1,(f3 b hb).2.2.2.2.2⟩)
      · exact {
          keep:=fun b o e z hb he=>sb.extBut b o (nC b o e) (U.keep b o e z hb he)
          slot:=fun b o e z hb he=>by
            obtain ⟨sl,q⟩:=U.slot b o e z hb he
            exact ⟨sl,sb.extBut b _ (nC b o e) q⟩
          free:=U.free
          there:=fun b o e he=>by
            obtain ⟨o',q⟩:=U.there b o e he
            exact ⟨o',sb.extBut b o' (nC b o e) q⟩
          tups:=U.tups
          frzs:=U.frzs
          tbls:=U.tbls }
      · rcases hb with rfl | hb
        · exact nT _ _ e
        · exact nT _ _ hb
    · refine thn (T.item (cxB X scope cl N s3.heap.objs.size fp s3 (upd H2 s2.heap.objs.size (.lst []))) rfl rfl rfl hc i [] s5 _ H5 (fun _ _=>False) I5 (stat fr5) st5 go) fun r s6 ⟨u,hr,h6⟩=>?_
      subst hr
      refine thn h6 fun _ s7 ⟨x,H7,I7,r7,y7,st7,fr7⟩=>?_
      have I7':=I7.pinned (stat fr7) (T.obj _ _ st7)
      refine thn (hg cl s3.heap.objs.size fp s3 _ _ s7 _ H7 x u _ I7' r7 (kg _ _ _ _ (step x H7 y7))) fun _ s8 ⟨σ8,H8,I8,q8,l8,p8⟩=>?_
      have back:∀{H9:Hp} {s9:Shared},Inv (cxB X scope cl N s3.heap.objs.size fp s3 (upd H2 s2.heap.objs.size (.lst []))) ([]++pinsAt fp s7.heap) σ8 H9 s9 ->
          Inv (cxB X scope cl N s3.heap.objs.size fp s3 (upd H2 s2.heap.objs.size (.lst []))) [] (List.replicate own none++capsOf σ cap) H9 s9/\tn (i+1) s9.heap/\∀b∈fp,H9 b=none:=fun {H9 s9} I9=>by
        refine ⟨(I9.unpinned).weak l8.symm (fun j v e=>?_),T.keep _ _ _ st7 fun b hb o e=>(I9.pin (b,o) (List.mem_append_right _ (List.mem_append_right _ (jv hb e)))).1,fun b hb=>?_⟩
        · by_cases hj:j<own
          · rw [List.getElem?_append_left (by rw [List.length_replicate]; exact hj),List.getElem?_replicate,if_pos hj] at e
            cases e
          · rw [p8 j (by omega)]; exact e
        · obtain ⟨o,e,d⟩:=T.obj _ _ st7 b hb
          exact (I9.pin (b,o) (List.mem_append_right _ (List.mem_append_right _ (jv hb e)))).2.1
      refine thn (ht cl s3.heap.objs.size fp s3 _ _ s8 σ8 H8 _ I8 q8) fun ok s9 ⟨H9,I9,q9⟩=>?_
      cases ok with
      | false =>
        rw [if_neg Bool.false_ne_true]
        rw [if_neg Bool.false_ne_true] at q9
        obtain ⟨m',hm',w'⟩:=q9
        obtain ⟨b1,b2,b3⟩:=back I9
        exact ⟨m',hm',i+1,ys,H9,b1,b2,b3,w'⟩
      | true =>
        rw [if_pos rfl]
        rw [if_pos rfl] at q9
        refine thn (he cl s3.heap.objs.size fp s3 _ _ s9 σ8 H9 _ I9 q9) fun uy s10 ⟨y,H10,I10,r10,hD10,m',hm',w'⟩=>?_
        refine thn (zbw _ s10 σ8 H10 (.ref s2.heap.objs.size) [y] (.ref s2.heap.objs.size) [uy] (fun _ H11=>H11=upd H10 s2.heap.objs.size (.lst (ys++[y]))) I10 rfl (.cons r10 .nil) ⟨_,ys,y,rfl,rfl,hD10,hlt,rfl⟩) fun _ s11 ⟨_,H11,I11,_,e11⟩=>?_
        subst e11
        obtain ⟨b1,b2,b3⟩:=back I11
        exact ⟨m',hm',i+1,ys++[y],_,b1,b2,b3,w'⟩
  exact codeAny_compStart_list loop (T.self X.A 0 s4 _ _ tn4 loop)
end L2
namespace L2
open PySem PySem.Spec PyProof.Rows
section
variable {X:Cx} {pins:List (Addr×Obj)} {σ:St} {H:Hp} {s:Shared} {h':Heap}
theorem Inv.turnLay {ch:List Addr} {a:Addr} {o:HO} {t':Nat} (I:Inv X pins σ H s) (hch:∀b∈ch,FpOk X pins H b) (k:∀b o,b∉ch->s.heap.get? b=some o->h'.get? b=some o) (hp:s.heap.objs.size<=a)
  (new:ObjOk X.prog X.w (upd H a o) h' a o):Inv X pins σ (upd H a o) { s with heap:=h',toks:=t' }:=by
 have hn:H a=none:=I.hok.fresh hp
 have nin:∀b u,H b=some u->b∉ch:=fun b u e z=>by rw [(hch b z).1] at e; cases e
 refine I.step (g':=s.gens) (d':=s.drawn) (ch:=ch) (fun b hb=>⟨(hch b hb).2.2.2.1,(hch b hb).2.1,(hch b hb).2.2.2.2.1,(hch b hb).2.2.2.2.2⟩) (fun b o _ _ hc e _=>k b o hc e) (fun b o _ _ hc e _=>⟨o.slots,k b o hc e⟩)
  (fun b o _ e n=>by rw [yu (Nat.ne_of_lt (Nat.lt_of_lt_of_le (Heap.lt_size e) hp))]; exact n) (fun b o hc e=>⟨o,k b o hc e⟩) (fun b xs q=>by rw [yu (xt q hn)]; exact q) (fun b u xs q=>by rw [yu (xt q hn)]; exact q)
  (fun b ps q=>⟨#[],by rw [yu (xt q hn),q]; simp⟩) (fun m hm=>?_) (fun b u e=>?_) I.bare
 ·obtain ⟨o',es,ep,ho,r⟩:=hm
  exact ⟨o',es,ep,k _ o' (fun z=>(hch _ z).2.1 rfl) ho,r⟩
 ·by_cases hb:b=a
  ·subst hb
   rw [y3] at e
   cases e
   exact new
  ·rw [yu hb] at e
   refine (I.hok b u e).stay (fun c v hc q=>k c v ?_ q) (fun c q=>by rw [yu (xt q hn)]; exact q) fun c xs q=>by rw [yu (xt q hn)]; exact q
   rcases hc with z | z
   ·rw [z]; exact nin b u e
   ·exact nin c _ z
theorem Inv.turnedL {ch:List Addr} {t':Nat} (I:Inv X pins σ H s) (hch:∀b∈ch,FpOk X pins H b) (k:∀b o,b∉ch->s.heap.get? b=some o->h'.get? b=some o):Inv X pins σ H { s with heap:=h',toks:=t' }:=by
 have nin:∀b u,H b=some u->b∉ch:=fun b u e z=>by rw [(hch b z).1] at e; cases e
 refine I.step (g':=s.gens) (d':=s.drawn) (ch:=ch) (fun b hb=>⟨(hch b hb).2.2.2.1,(hch b hb).2.1,(hch b hb).2.2.2.2.1,(hch b hb).2.2.2.2.2⟩) (fun b o _ _ hc e _=>k b o hc e) (fun b o _ _ hc e _=>⟨o.slots,k b o hc e⟩)
  (fun _ _ _ _ n=>n) (fun b o hc e=>⟨o,k b o hc e⟩) (fun _ _ e=>e) (fun _ _ _ e=>e) (fun b ps e=>⟨#[],by rw [e]; simp⟩) (fun m hm=>?_) (fun b u e=>?_) I.bare
 ·obtain ⟨o',es,ep,ho,r⟩:=hm
  exact ⟨o',es,ep,k _ o' (fun z=>(hch _ z).2.1 rfl) ho,r⟩
 ·refine (I.hok b u e).stay (fun c v hc q=>k c v ?_ q) (fun _ q=>q) fun _ _ q=>q
  rcases hc with z | z
  ·rw [z]; exact nin b u e
  ·exact nin c _ z
end
def Ite (K:PySem.W.Frag) (a:Addr):It :=
 ⟨fun i H=>∃xs x,SqL K H a xs/\xs[i]?=some x,fun i H x H'=>∃p y,H p=none/\x=.ref p/\H'=upd H p (.tup [.int i,y])/\∀xs,SqL K H a xs->xs[i]?=some y,fun i H=>∃xs,SqL K H a xs/\xs.length<=i⟩
theorem zks {P:Program} {w:World} {K:PySem.W.Frag} {elts:List Expr} {kt:Nat} {pt:Pos} (a e it:Addr) (hei:e≠it) :
    Turn P w K (.Tuple elts kt pt) (Ite K a) [e,it] e (fun i h=>(∃old,IsEnum h e it i old)/\h.IsListIter it a i) where
  mem:=by simp
  obj:=fun i h st b hb=>by
    obtain ⟨⟨old,he⟩,o,e1,c,d⟩:=st
    rcases List.mem_cons.mp hb with rfl | hb
    · exact ⟨_,he,fun v z=>by cases z⟩
    · have e2:b=it:=by simpa using hb
      subst e2
      exact ⟨o,e1,fun v z=>by rw [d] at z; cases z⟩
  keep:=fun i h h' st k=>by
    obtain ⟨⟨old,he⟩,hit⟩:=st
    exact ⟨⟨old,k e (by simp) _ he⟩,hit.at fun o x=>k it (by simp) o x⟩
  item:=by
    intro X hP hw hK hc i pins s σ H E I hf st hg
    subst hP hw hK
    obtain ⟨xs,x,hq,hx⟩:=hg
    obtain ⟨its,rv,p,hz⟩:=I.list hq
    obtain ⟨u,hu,ru⟩:=rv.get hx
    obtain ⟨⟨old,he⟩,hit⟩:=st
    refine wpAny_pyNext_enum_item he hit p.isList (x:=u) (by simpa using hu) hei fun h1 ho hit1 hT hsz hk=>?_
    refine ⟨_,rfl,wpAny_letOwnedTupleGo_enum (s:={ s with heap:=h1,toks:=s.toks+1 }) ho fun h2 he2 sb2=>?_⟩
    have elt:e<s.heap.objs.size:=Heap.lt_size he
    have ilt:it<s.heap.objs.size:=by obtain ⟨_,q,_⟩:=hit; exact Heap.lt_size q
    have hT2:h2.get? s.heap.objs.size=some { cls:=.type "tuple",data:=.seq #[.int i s.toks,u] }:=(sb2.2 _ (Nat.ne_of_gt elt)).trans hT
    have hfr:H s.heap.objs.size=none:=I.hok.fresh (Nat.le_refl _)
    have I1:Inv X pins σ (upd H s.heap.objs.size (.tup [.int i,x])) { s with heap:=h2,toks:=s.toks+1 }:=by
      refine I.turnLay (ch:=[e,it]) hf (fun b o hb q=>?_) (Nat.le_refl _) ⟨by show 2<=sizeLine; decide,[.int i s.toks,u],.cons ⟨_,rfl⟩ (.cons ru .nil),_,hT2,rfl,_,rfl⟩
      have h1':b≠e:=fun z=>hb (by simp [z])
      have h2':b≠it:=fun z=>hb (by simp [z])
      exact (sb2.2 b h1').trans (hk b o h1' h2' q)
    refine ⟨.ref s.heap.objs.size,_,I1,rfl,⟨_,x,hfr,rfl,rfl,fun ys hy=>by rw [I.list_inj hy hq]; exact hx⟩,⟨⟨u,by simpa using he2⟩,hit1.at fun o q=>(sb2.2 it hei.symm).trans q⟩,fun b hb=>?_⟩
    rw [yu ?_]
    · exact (hf b hb).1
    · rcases List.mem_cons.mp hb with rfl | hb
      · exact Nat.ne_of_lt elt
      · have e2:b=it:=by simpa using hb
        rw [e2]; exact Nat.ne_of_lt ilt
  done:=by
    intro X hP hw hK hc i pins s σ H E I hf st hg
    subst hP hw hK
    obtain ⟨xs,hq,hx⟩:=hg
    obtain ⟨its,rv,p,hz⟩:=I.list hq
    obtain ⟨⟨old,he⟩,hit⟩:=st
    have hl:=rv.length
    exact wpAny_pyNext_enum_end (I.ok.hd hc) he hit p.isList (by simp; omega) fun h' eb=>⟨rfl,I.turnedL (ch:=[e,it]) (t':=s.toks) hf fun b o hb q=>eb b o (fun z=>hb (by simp [z])) q⟩
  self:=fun _ _ _ _ _ st h=>wpAny_pyIter_enum st.1.choose_spec h
section
variable {X:Cx} {elts:List Expr} {kt:Nat} {pt:Pos}
def iEnum (K:PySem.W.Frag) (ta:TA):TI:=fun σ H R=>ta σ H fun vs H1=>∃a,vs=[.ref a]/\(∃xs,SqL K H1 a xs)/\R (Ite K a) H1
theorem zkt {l:Expr} {ta:TA} {p pos:Pos} (hg:Gl X "enumerate") (hm:X.mg "enumerate"=none) (ha:PA X [l] ta) (hs:starEach [l] X.env=[(false,eval l X.env)]:=by rfl) :
  PI X (.Tuple elts kt pt) (.Call (.Name "enumerate" p) [l] [] pos) (iEnum X.K ta):=by
 intro pins s σ H R I h
 refine Call_ (zc6 I hg hm PyProof.Rows.boot_enumerate (PyProof.Rows.callWith_type1 (thn (ha pos pins s σ H _ I h) fun us s1 ⟨vs,H1,I1,r1,q1⟩=>?_) hs rfl))
 obtain ⟨a,e,⟨xs,hq⟩,q⟩:=q1
 subst e
 cases r1 with
 | cons r rr =>
  cases rr
  cases r
  obtain ⟨its,rv,pl,hz⟩:=I1.list hq
  refine call_enumerate_list pl.isList fun h' he hit hsz hk=>?_
  refine wpAny_pyIter_enum (s:={ s1 with heap:=h' }) he ?_
  refine ⟨s1.heap.objs.size+1,[s1.heap.objs.size+1,s1.heap.objs.size],_,_,H1,rfl,I1.kept (t':=s1.toks) hk,zks a _ _ (Nat.succ_ne_self _),⟨⟨_,he⟩,hit⟩,fun b hb=>?_,q⟩
  rcases List.mem_cons.mp hb with rfl | hb
  ·exact I1.fpOk (Nat.le_succ _) (I1.hok.fresh (Nat.le_succ _))
  ·have e:b=s1.heap.objs.size:=by simpa using hb
   subst e
   exact I1.fpOk (Nat.le_refl _) (I1.hok.fresh (Nat.le_refl _))
end
end L2
namespace L3
open PySem PySem.Spec L2
open PyProof.Rows hiding St
inductive D where
 | non | bl (b:Bool) | int (i:Int) | str (x:Str)
 | lst (xs:List D) | tup (xs:List D) | dK (ks:List Key) (ds:List D) | dT (ks:List (List Key)) (ds:List D)
 | obj (c:Nat) (ns:List Str) (ds:List D)
 deriving Inhabited
inductive Pr (R:D->V->Prop):List D->List V->Prop
 | nil:Pr R [] []
 | cons {d:D} {v:V} {ds:List D} {vs:List V}:R d v->Pr R ds vs->Pr R (d::ds) (v::vs)
theorem Pr.mono {R R':D->V->Prop} (f:∀d v,R d v->R' d v):∀{ds:List D} {vs:List V},Pr R ds vs->Pr R' ds vs
 | _,_,.nil=>.nil
 | _,_,.cons h t=>.cons (f _ _ h) (Pr.mono f t)
theorem Pr.length {R:D->V->Prop}:∀{ds:List D} {vs:List V},Pr R ds vs->ds.length=vs.length
 | _,_,.nil=>rfl
 | _,_,.cons _ t=>by simp [Pr.length t]
theorem Pr.get' {R:D->V->Prop}:∀{ds:List D} {vs:List V} {i:Nat} {d:D},Pr R ds vs->ds[i]?=some d->∃v,vs[i]?=some v/\R d v
 | _,_,_,_,.nil,e=>by simp at e
 | _,_,0,_,.cons h _,e=>by simp at e; subst e; exact ⟨_,rfl,h⟩
 | _,_,i+1,v,.cons _ t,e=>by
  obtain ⟨d,h1,h2⟩:=Pr.get' (i:=i) (d:=v) t (by simpa using e)
  exact ⟨d,by simpa using h1,h2⟩
theorem Pr.append {R:D->V->Prop}:∀{ds es:List D} {vs us:List V},Pr R ds vs->Pr R es us->Pr R (ds++es) (vs++us)
 | _,_,_,_,.nil,s=>s
 | _,_,_,_,.cons h t,s=>.cons h (Pr.append t s)
theorem Pr.take {R:D->V->Prop}:∀{ds:List D} {vs:List V} (n:Nat),Pr R ds vs->Pr R (ds.take n) (vs.take n)
 | _,_,0,_=>.nil
 | _,_,_+1,.nil=>.nil
 | _,_,n+1,.cons h t=>.cons h (Pr.take n t)
theorem Pr.drop {R:D->V->Prop}:∀{ds:List D} {vs:List V} (n:Nat),Pr R ds vs->Pr R (ds.drop n) (vs.drop n)
 | _,_,0,r=>r
 | _,_,_+1,.nil=>.nil
 | _,_,n+1,.cons _ t=>Pr.drop n t
theorem Pr.rep {R:D->V->Prop} {ds:List D} {vs:List V} (h:Pr R ds vs):∀k:Nat,Pr R (List.replicate k ds).flatten (List.replicate k vs).flatten
 | 0=>.nil
 | k+1=>by rw [List.replicate_succ,List.flatten_cons,List.replicate_succ,List.flatten_cons]; exact h.append (Pr.rep h k)
mutual
inductive Dt (K:PySem.W.Frag) (ct:Nat->Addr) (F:Hp):D->V->Prop
 | non:Dt K ct F .non .non
 | bl (b:Bool):Dt K ct F (.bl b) (.bl b)
 | int (i:Int):Dt K ct F (.int i) (.int i)
 | str (x:Str):Dt K ct F (.str x) (.str x)
 | lst {a:Addr} {vs:List V} {ds:List D}:SqL K F a vs->Dts K ct F ds vs->Dt K ct F (.lst ds) (.ref a)
 | tup {a:Addr} {vs:List V} {ds:List D}:F a=some (.tup vs)->Dts K ct F ds vs->Dt K ct F (.tup ds) (.ref a)
 | dK {a:Addr} {ks:List Key} {vs:List V} {ds:List D}:F a=some (.dK (ks.zip vs))->ks.length=vs.length->Dts K ct F ds vs->Dt K ct F (.dK ks ds) (.ref a)
 | dT {a:Addr} {ks:List (List Key)} {vs:List V} {ds:List D}:F a=some (.dT (ks.zip vs))->ks.length=vs.length->Dts K ct F ds vs->Dt K ct F (.dT ks ds) (.ref a)
 | obj {a dx:Addr} {c:Nat} {ns:List Str} {vs:List V} {ds:List D}:F a=some (.ins (ct c) dx (ns.zip vs))->ns.length=vs.length->Dts K ct F ds vs->Dt K ct F (.obj c ns ds) (.ref a)
inductive Dts (K:PySem.W.Frag) (ct:Nat->Addr) (F:Hp):List D->List V->Prop
 | nil:Dts K ct F [] []
 | cons {d:D} {v:V} {ds:List D} {vs:List V}:Dt K ct F d v->Dts K ct F ds vs->Dts K ct F (d::ds) (v::vs)
end
section
variable {K:PySem.W.Frag} {ct:Nat->Addr} {F F' G G' H H' B B':Hp}
theorem Dts.pr:∀{ds:List D} {vs:List V},Dts K ct F ds vs->Pr (Dt K ct F) ds vs
 | _,_,.nil=>.nil
 | _,_,.cons h t=>.cons h (Dts.pr t)
theorem Dts.of:∀{ds:List D} {vs:List V},Pr (Dt K ct F) ds vs->Dts K ct F ds vs
 | _,_,.nil=>.nil
 | _,_,.cons h t=>.cons h (Dts.of t)
mutual
theorem Dt.mono (s:Same F F'):∀{d:D} {v:V},Dt K ct F d v->Dt K ct F' d v
 | _,_,.non=>.non
 | _,_,.bl b=>.bl b
 | _,_,.int i=>.int i
 | _,_,.str x=>.str x
 | _,_,.lst h t=>.lst (s.seq h) (Dts.mono s t)
 | _,_,.tup h t=>.tup (s _ _ h) (Dts.mono s t)
 | _,_,.dK h l t=>.dK (s _ _ h) l (Dts.mono s t)
 | _,_,.dT h l t=>.dT (s _ _ h) l (Dts.mono s t)
 | _,_,.obj h l t=>.obj (s _ _ h) l (Dts.mono s t)
theorem Dts.mono (s:Same F F'):∀{ds:List D} {vs:List V},Dts K ct F ds vs->Dts K ct F' ds vs
 | _,_,.nil=>.nil
 | _,_,.cons h t=>.cons (Dt.mono s h) (Dts.mono s t)
end
end
def D.sc:D->Bool
 | .non=>true | .bl _=>true | .int _=>true | .str _=>true | _=>false
inductive AlC (K:PySem.W.Frag) (ct:Nat->Addr) (F G:Hp) (R:D->V->Prop):D->V->Prop
 | lst {a:Addr} {vs:List V} {ds:List D}:G a=some (.lst vs)->Pr R ds vs->AlC K ct F G R (.lst ds) (.ref a)
 | tup {a:Addr} {vs:List V} {ds:List D}:F a=some (.tup vs)->Pr R ds vs->AlC K ct F G R (.tup ds) (.ref a)
 | dK {a:Addr} {ks:List Key} {vs:List V} {ds:List D}:G a=some (.dK (ks.zip vs))->ks.length=vs.length->Pr R ds vs->AlC K ct F G R (.dK ks ds) (.ref a)
 | dT {a:Addr} {ks:List (List Key)} {vs:List V} {ds:List D}:G a=some (.dT (ks.zip vs))->ks.length=vs.length->Pr R ds vs->AlC K ct F G R (.dT ks ds) (.ref a)
 | obj {a dx:Addr} {c:Nat} {ns:List Str} {vs:List V} {ds:List D}:G a=some (.ins (ct c) dx (ns.zip vs))->ns.length=vs.length->Pr R ds vs->AlC K ct F G R (.obj c ns ds) (.ref a)
def Al (K:PySem.W.Frag) (ct:Nat->Addr) (F G:Hp):Nat->D->V->Prop
 | 0,d,v=>Dt K ct F d v
 | n+1,d,v=>Dt K ct F d v\/AlC K ct F G (Al K ct F G n) d v
inductive OwL (R:D->V->List Addr->Prop):List D->List V->List Addr->Prop
 | nil:OwL R [] [] []
 | cons {d:D} {v:V} {ds:List D} {vs:List V} {f g:List Addr}:R d v f->OwL R ds vs g->OwL R (d::ds) (v::vs) (f++g)
inductive OwC (K:PySem.W.Frag) (ct:Nat->Addr) (F H:Hp) (R:D->V->List Addr->Prop):D->V->List Addr->Prop
 | lst {a:Addr} {vs:List V} {ds:List D} {fp:List Addr}:F a=none->H a=some (.lst vs)->OwL R ds vs fp->OwC K ct F H R (.lst ds) (.ref a) (a::fp)
 | tup {a:Addr} {vs:List V} {ds:List D} {fp:List Addr}:F a=some (.tup vs)->OwL R ds vs fp->OwC K ct F H R (.tup ds) (.ref a) fp
 | dK {a:Addr} {ks:List Key} {vs:List V} {ds:List D} {fp:List Addr}:F a=none->H a=some (.dK (ks.zip vs))->ks.length=vs.length->OwL R ds vs fp->OwC K ct F H R (.dK ks ds) (.ref a) (a::fp)
 | dT {a:Addr} {ks:List (List Key)} {vs:List V} {ds:List D} {fp:List Addr}:F a=none->H a=some (.dT (ks.zip vs))->ks.length=vs.length->OwL R ds vs fp->OwC K ct F H R (.dT ks ds) (.ref a) (a::fp)
 | obj {a dx:Addr} {c:Nat} {ns:List Str} {vs:List V} {ds:List D} {fp:List Addr}:F a=none->H a=some (.ins (ct c) dx (ns.zip vs))->ns.length=vs.length->OwL R ds vs fp->OwC K ct F H R (.obj c ns ds) (.ref a) (a::fp)
def Ow (K:PySem.W.Frag) (ct:Nat->Addr) (F H:Hp):Nat->D->V->List Addr->Prop
 | 0,d,v,fp=>Dt K ct F d v/\fp=[]
 | n+1,d,v,fp=>(d.sc=true/\Dt K ct F d v/\fp=[])\/OwC K ct F H (Ow K ct F H n) d v fp
structure Ext (F H F' H':Hp):Prop where
 ff:Same F F'
 hh:Same H H'
 fh:Same F' H'
 nf:∀a o,H a=some o->F a=none->F' a=none
theorem Ext.refl {F H:Hp} (h:Same F H):Ext F H F H:=⟨.refl _,.refl _,h,fun _ _ _ h=>h⟩
theorem Ext.trans {F H F1 H1 F2 H2:Hp} (a:Ext F H F1 H1) (b:Ext F1 H1 F2 H2):Ext F H F2 H2 :=
 ⟨a.ff.trans b.ff,a.hh.trans b.hh,b.fh,fun c o h n=>b.nf c o (a.hh _ _ h) (a.nf c o h n)⟩
theorem Ext.newO {F H:Hp} {p:Addr} (s:Same F H) (h:H p=none) (o:HO):Ext F H F (upd H p o) :=
 ⟨.refl _,zby h o,s.trans (zby h o),fun _ _ _ h=>h⟩
theorem Ext.newS {F H:Hp} {p:Addr} (s:Same F H) (h:H p=none) (o:HO):Ext F H (upd F p o) (upd H p o) :=
  ⟨zby (s.free h) o,zby h o,fun b u q=>by
    by_cases e:b=p
    · subst e; rw [y3] at q ⊢; exact q
    · rw [yu e] at q ⊢; exact s _ _ q,
   fun b u q n=>by rw [yu (xt q h)]; exact n⟩
section
variable {K:PySem.W.Frag} {ct:Nat->Addr} {F F' G G' H H' B B':Hp}
theorem Al.mono (sF:Same F F') (sG:Same G G'):∀{n:Nat} {d:D} {v:V},Al K ct F G n d v->Al K ct F' G' n d v
 | 0,_,_,h=>Dt.mono sF h
 | n+1,_,_,.inl h=>.inl (Dt.mono sF h)
 | n+1,_,_,.inr (.lst h p)=>.inr (.lst (sG _ _ h) (p.mono fun _ _ q=>Al.mono sF sG q))
 | n+1,_,_,.inr (.tup h p)=>.inr (.tup (sF _ _ h) (p.mono fun _ _ q=>Al.mono sF sG q))
 | n+1,_,_,.inr (.dK h l p)=>.inr (.dK (sG _ _ h) l (p.mono fun _ _ q=>Al.mono sF sG q))
 | n+1,_,_,.inr (.dT h l p)=>.inr (.dT (sG _ _ h) l (p.mono fun _ _ q=>Al.mono sF sG q))
 | n+1,_,_,.inr (.obj h l p)=>.inr (.obj (sG _ _ h) l (p.mono fun _ _ q=>Al.mono sF sG q))
theorem Al.of:∀{n:Nat} {d:D} {v:V},Dt K ct F d v->Al K ct F G n d v
 | 0,_,_,h=>h
 | _+1,_,_,h=>.inl h
theorem Dt.scal {d:D} {v:V} (h:Dt K ct F d v) (hs:d.sc=true):Dt K ct F' d v:=by
 cases h with
 | non=>exact .non
 | bl b=>exact .bl b
 | int i=>exact .int i
 | str x=>exact .str x
 | lst _ _=>cases hs
 | tup _ _=>cases hs
 | dK _ _ _=>cases hs
 | dT _ _ _=>cases hs
 | obj _ _ _=>cases hs
theorem Al.scal {n:Nat} {d:D} {v:V} (h:Al K ct F G n d v) (hs:d.sc=true):Dt K ct F' d v:=by
 cases n with
 | zero=>exact Dt.scal h hs
 | succ n =>
  rcases h with h | h
  ·exact h.scal hs
  ·cases h <;> cases hs
theorem Al.int {n:Nat} {i:Int} {v:V} (h:Al K ct F G n (.int i) v):v=.int i:=by
 have q:=Al.scal (F':=F) h rfl
 cases q; rfl
theorem Al.bl {n:Nat} {b:Bool} {v:V} (h:Al K ct F G n (.bl b) v):v=.bl b:=by
 have q:=Al.scal (F':=F) h rfl
 cases q; rfl
theorem Al.str {n:Nat} {x:Str} {v:V} (h:Al K ct F G n (.str x) v):v=.str x:=by
 have q:=Al.scal (F':=F) h rfl
 cases q; rfl
theorem Al.non {n:Nat} {v:V} (h:Al K ct F G n .non v):v=.non:=by
 have q:=Al.scal (F':=F) h rfl
 cases q; rfl
theorem Al.lst {n:Nat} {ds:List D} {v:V} (h:Al K ct F G n (.lst ds) v) (s:Same F G):∃a vs,v=.ref a/\SqL K G a vs/\Pr (Al K ct F G (n-1)) ds vs:=by
 cases n with
 | zero =>
  have h:Dt K ct F (.lst ds) v:=h
  cases h with
  | lst q t=>exact ⟨_,_,rfl,s.seq q,t.pr⟩
 | succ n =>
  rcases h with h | h
  ·cases h with
   | lst q t=>exact ⟨_,_,rfl,s.seq q,t.pr.mono fun _ _=>Al.of⟩
  ·cases h with
   | lst q t=>exact ⟨_,_,rfl,SqL.of q,t⟩
theorem Al.tup {n:Nat} {ds:List D} {v:V} (h:Al K ct F G n (.tup ds) v) (s:Same F G):∃a vs,v=.ref a/\G a=some (.tup vs)/\Pr (Al K ct F G (n-1)) ds vs:=by
 cases n with
 | zero =>
  have h:Dt K ct F (.tup ds) v:=h
  cases h with
  | tup q t=>exact ⟨_,_,rfl,s _ _ q,t.pr⟩
 | succ n =>
  rcases h with h | h
  ·cases h with
   | tup q t=>exact ⟨_,_,rfl,s _ _ q,t.pr.mono fun _ _=>Al.of⟩
  ·cases h with
   | tup q t=>exact ⟨_,_,rfl,s _ _ q,t⟩
theorem Al.dK {n:Nat} {ks:List Key} {ds:List D} {v:V} (h:Al K ct F G n (.dK ks ds) v) (s:Same F G):∃a vs,v=.ref a/\G a=some (.dK (ks.zip vs))/\ks.length=vs.length/\Pr (Al K ct F G (n-1)) ds vs:=by
 cases n with
 | zero =>
  have h:Dt K ct F (.dK ks ds) v:=h
  cases h with
  | dK q l t=>exact ⟨_,_,rfl,s _ _ q,l,t.pr⟩
 | succ n =>
  rcases h with h | h
  ·cases h with
   | dK q l t=>exact ⟨_,_,rfl,s _ _ q,l,t.pr.mono fun _ _=>Al.of⟩
  ·cases h with
   | dK q l t=>exact ⟨_,_,rfl,q,l,t⟩
theorem Al.dT {n:Nat} {ks:List (List Key)} {ds:List D} {v:V} (h:Al K ct F G n (.dT ks ds) v) (s:Same F G):∃a vs,v=.ref a/\G a=some (.dT (ks.zip vs))/\ks.length=vs.length/\Pr (Al K ct F G (n-1)) ds vs:=by
 cases n with
 | zero =>
  have h:Dt K ct F (.dT ks ds) v:=h
  cases h with
  | dT q l t=>exact ⟨_,_,rfl,s _ _ q,l,t.pr⟩
 | succ n =>
  rcases h with h | h
  ·cases h with
   | dT q l t=>exact ⟨_,_,rfl,s _ _ q,l,t.pr.mono fun _ _=>Al.of⟩
  ·cases h with
   | dT q l t=>exact ⟨_,_,rfl,q,l,t⟩
theorem Al.obj {n:Nat} {c:Nat} {ns:List Str} {ds:List D} {v:V} (h:Al K ct F G n (.obj c ns ds) v) (s:Same F G):∃a dx vs,v=.ref a/\G a=some (.ins (ct c) dx (ns.zip vs))/\ns.length=vs.length/\Pr (Al K ct F G (n-1)) ds vs:=by
 cases n with
 | zero =>
  have h:Dt K ct F (.obj c ns ds) v:=h
  cases h with
  | obj q l t=>exact ⟨_,_,_,rfl,s _ _ q,l,t.pr⟩
 | succ n =>
  rcases h with h | h
  ·cases h with
   | obj q l t=>exact ⟨_,_,_,rfl,s _ _ q,l,t.pr.mono fun _ _=>Al.of⟩
  ·cases h with
   | obj q l t=>exact ⟨_,_,_,rfl,q,l,t⟩
theorem OwL.mono {R R':D->V->List Addr->Prop}:∀{ds:List D} {vs:List V} {fp:List Addr},OwL R ds vs fp->(∀d v f,(∀a∈f,a∈fp)->R d v f->R' d v f)->OwL R' ds vs fp
 | _,_,_,.nil,_=>.nil
 | _,_,_,.cons h t,q=>.cons (q _ _ _ (fun a z=>List.mem_append_left _ z) h) (OwL.mono t fun d v f i r=>q d v f (fun a z=>List.mem_append_right _ (i a z)) r)
theorem OwL.pr {R:D->V->List Addr->Prop} {R':D->V->Prop}:∀{ds:List D} {vs:List V} {fp:List Addr},OwL R ds vs fp->(∀d v f,(∀a∈f,a∈fp)->R d v f->R' d v)->Pr R' ds vs
 | _,_,_,.nil,_=>.nil
 | _,_,_,.cons h t,q=>.cons (q _ _ _ (fun a z=>List.mem_append_left _ z) h) (OwL.pr t fun d v f i r=>q d v f (fun a z=>List.mem_append_right _ (i a z)) r)
theorem OwL.ofPr {R:D->V->List Addr->Prop}:∀{ds:List D} {vs:List V},Pr (fun d v=>R d v []) ds vs->OwL R ds vs []
 | _,_,.nil=>.nil
 | _,_,.cons h t=>OwL.cons (f:=[]) (g:=[]) h (OwL.ofPr t)
theorem OwL.append {R:D->V->List Addr->Prop}:∀{ds es:List D} {vs us:List V} {f g:List Addr},OwL R ds vs f->OwL R es us g->OwL R (ds++es) (vs++us) (f++g)
 | _,_,_,_,_,_,.nil,s=>s
 | _,_,_,_,_,_,.cons h t,s=>by rw [List.append_assoc]; exact .cons h (OwL.append t s)
theorem OwL.length {R:D->V->List Addr->Prop}:∀{ds:List D} {vs:List V} {fp:List Addr},OwL R ds vs fp->ds.length=vs.length
 | _,_,_,.nil=>rfl
 | _,_,_,.cons _ t=>by simp [OwL.length t]
theorem Ow.frame (sF:Same F F'):∀{n:Nat} {d:D} {v:V} {fp:List Addr},Ow K ct F H n d v fp->(∀a∈fp,H' a=H a/\F' a=none)->Ow K ct F' H' n d v fp
 | 0,_,_,_,⟨h,e⟩,_=>⟨h.mono sF,e⟩
 | n+1,_,_,_,.inl ⟨c,h,e⟩,_=>.inl ⟨c,h.mono sF,e⟩
 | n+1,_,_,_,.inr (.lst hn h p),k=>.inr (.lst (k _ List.mem_cons_self).2 ((k _ List.mem_cons_self).1.trans h) (p.mono fun _ _ _ i q=>Ow.frame sF q fun a z=>k a (List.mem_cons_of_mem _ (i a z))))
 | n+1,_,_,_,.inr (.tup h p),k=>.inr (.tup (sF _ _ h) (p.mono fun _ _ _ i q=>Ow.frame sF q fun a z=>k a (i a z)))
 | n+1,_,_,_,.inr (.dK hn h l p),k=>.inr (.dK (k _ List.mem_cons_self).2 ((k _ List.mem_cons_self).1.trans h) l (p.mono fun _ _ _ i q=>Ow.frame sF q fun a z=>k a (List.mem_cons_of_mem _ (i a z))))
 | n+1,_,_,_,.inr (.obj hn h l p),k=>.inr (.obj (k _ List.mem_cons_self).2 ((k _ List.mem_cons_self).1.trans h) l (p.mono fun _ _ _ i q=>Ow.frame sF q fun a z=>k a (List.mem_cons_of_mem _ (i a z))))
 | n+1,_,_,_,.inr (.dT hn h l p),k=>.inr (.dT (k _ List.mem_cons_self).2 ((k _ List.mem_cons_self).1.trans h) l (p.mono fun _ _ _ i q=>Ow.frame sF q fun a z=>k a (List.mem_cons_of_mem _ (i a z))))
theorem Ow.cells:∀{n:Nat} {d:D} {v:V} {fp:List Addr},Ow K ct F H n d v fp->∀a∈fp,F a=none/\∃o,H a=some o
 | 0,_,_,_,⟨_,e⟩,a,z=>by subst e; cases z
 | n+1,_,_,_,.inl ⟨_,_,e⟩,a,z=>by subst e; cases z
 | n+1,_,_,_,.inr (.lst hn h p),a,z=>by
  rcases List.mem_cons.mp z with rfl | z
  ·exact ⟨hn,_,h⟩
  ·exact OwL.cells (fun d v f q=>Ow.cells q) p a z
 | n+1,_,_,_,.inr (.tup h p),a,z=>OwL.cells (fun d v f q=>Ow.cells q) p a z
 | n+1,_,_,_,.inr (.dK hn h l p),a,z=>by
  rcases List.mem_cons.mp z with rfl | z
  ·exact ⟨hn,_,h⟩
  ·exact OwL.cells (fun d v f q=>Ow.cells q) p a z
 | n+1,_,_,_,.inr (.obj hn h l p),a,z=>by
  rcases List.mem_cons.mp z with rfl | z
  ·exact ⟨hn,_,h⟩
  ·exact OwL.cells (fun d v f q=>Ow.cells q) p a z
 | n+1,_,_,_,.inr (.dT hn h l p),a,z=>by
  rcases List.mem_cons.mp z with rfl | z
  ·exact ⟨hn,_,h⟩
  ·exact OwL.cells (fun d v f q=>Ow.cells q) p a z
where
 OwL.cells {R:D->V->List Addr->Prop} (k:∀d v f,R d v f->∀a∈f,F a=none/\∃o,H a=some o):∀{ds:List D} {vs:List V} {fp:List Addr},OwL R ds vs fp->∀a∈fp,F a=none/\∃o,H a=some o
 | _,_,_,.nil,a,z=>by cases z
 | _,_,_,.cons h t,a,z=>(List.mem_append.mp z).elim (fun z=>k _ _ _ h a z) fun z=>OwL.cells k t a z
theorem Ow.ext {n:Nat} {d:D} {v:V} {fp:List Addr} (h:Ow K ct F H n d v fp) (e:Ext F H F' H'):Ow K ct F' H' n d v fp :=
 h.frame e.ff fun a z=>by
  obtain ⟨hn,o,ho⟩:=h.cells a z
  exact ⟨(e.hh _ _ ho).trans ho.symm,e.nf a o ho hn⟩
theorem Ow.al (s:Same F H):∀{n:Nat} {d:D} {v:V} {fp:List Addr},Ow K ct F H n d v fp->Al K ct F H n d v
 | 0,_,_,_,⟨h,_⟩=>h
 | n+1,_,_,_,.inl ⟨_,h,_⟩=>.inl h
 | n+1,_,_,_,.inr (.lst hn h p)=>.inr (.lst h (p.pr fun _ _ _ _ q=>Ow.al s q))
 | n+1,_,_,_,.inr (.tup h p)=>.inr (.tup h (p.pr fun _ _ _ _ q=>Ow.al s q))
 | n+1,_,_,_,.inr (.dK hn h l p)=>.inr (.dK h l (p.pr fun _ _ _ _ q=>Ow.al s q))
 | n+1,_,_,_,.inr (.obj hn h l p)=>.inr (.obj h l (p.pr fun _ _ _ _ q=>Ow.al s q))
 | n+1,_,_,_,.inr (.dT hn h l p)=>.inr (.dT h l (p.pr fun _ _ _ _ q=>Ow.al s q))
theorem Ow.dt (sF:Same F F'):∀{n:Nat} {d:D} {v:V} {fp:List Addr},Ow K ct F H n d v fp->(∀a∈fp,F' a=H a)->Dt K ct F' d v
 | 0,_,_,_,⟨h,_⟩,_=>h.mono sF
 | n+1,_,_,_,.inl ⟨_,h,_⟩,_=>h.mono sF
 | n+1,_,_,_,.inr (.lst hn h p),k=>.lst (SqL.of ((k _ List.mem_cons_self).trans h)) (.of (p.pr fun _ _ _ i q=>Ow.dt sF q fun a z=>k a (List.mem_cons_of_mem _ (i a z))))
 | n+1,_,_,_,.inr (.tup h p),k=>.tup (sF _ _ h) (.of (p.pr fun _ _ _ i q=>Ow.dt sF q fun a z=>k a (i a z)))
 | n+1,_,_,_,.inr (.dK hn h l p),k=>.dK ((k _ List.mem_cons_self).trans h) l (.of (p.pr fun _ _ _ i q=>Ow.dt sF q fun a z=>k a (List.mem_cons_of_mem _ (i a z))))
 | n+1,_,_,_,.inr (.obj hn h l p),k=>.obj ((k _ List.mem_cons_self).trans h) l (.of (p.pr fun _ _ _ i q=>Ow.dt sF q fun a z=>k a (List.mem_cons_of_mem _ (i a z))))
 | n+1,_,_,_,.inr (.dT hn h l p),k=>.dT ((k _ List.mem_cons_self).trans h) l (.of (p.pr fun _ _ _ i q=>Ow.dt sF q fun a z=>k a (List.mem_cons_of_mem _ (i a z))))
def withC (F H:Hp) (fp:List Addr):Hp:=fun a=>if a∈fp then H a else F a
theorem je {fp:List Addr} (s:Same F H) (hf:∀a∈fp,F a=none):Same F (withC F H fp)/\Same (withC F H fp) H/\∀a∈fp,withC F H fp a=H a:=by
 refine ⟨fun a o h=>?_,fun a o h=>?_,fun a z=>if_pos z⟩
 ·have:¬a∈fp:=fun z=>by rw [hf a z] at h; cases h
  unfold withC; rw [if_neg this]; exact h
 ·unfold withC at h
  by_cases z:a∈fp
  ·rw [if_pos z] at h; exact h
  ·rw [if_neg z] at h; exact s _ _ h
theorem Ow.freeze {n:Nat} {d:D} {v:V} {fp:List Addr} {F0 H0:Hp} (h:Ow K ct F H n d v fp) (e:Ext F0 H0 F H) (hf:∀a∈fp,H0 a=none):∃F',Ext F0 H0 F' H/\Dt K ct F' d v:=by
 obtain ⟨w1,w2,w3⟩:=je (fp:=fp) e.fh (fun a z=>(h.cells a z).1)
 refine ⟨withC F H fp,⟨e.ff.trans w1,e.hh,w2,fun a o ho hn=>?_⟩,h.dt w1 w3⟩
 have:¬a∈fp:=fun z=>by rw [hf a z] at ho; cases ho
 unfold withC; rw [if_neg this]; exact e.nf a o ho hn
theorem Ow.zero {d:D} {v:V} (h:Dt K ct F d v):Ow K ct F H 0 d v []:=⟨h,rfl⟩
theorem Ow.scal {n:Nat} {d:D} {v:V} (h:Dt K ct F d v) (hs:d.sc=true):Ow K ct F H n d v []:=by
 cases n with
 | zero=>exact ⟨h,rfl⟩
 | succ n=>exact .inl ⟨hs,h,rfl⟩
end
end L3
namespace L3
open PySem PySem.Spec L2
open PyProof.Rows hiding St
abbrev Env:=List (Option D)
inductive Mo where
 | al (n:Nat) | ow (n:Nat) | px (v:V) | so (x:Addr)
def Mo.lv:Mo->Nat
 | .al n=>n
 | .ow n=>n
 | .px _=>1
 | .so _=>1
section
variable (K:PySem.W.Frag) (ct:Nat->Addr)
inductive SL (F B H:Hp):List Mo->Env->St->List Addr->Prop
 | nil:SL F B H [] [] [] []
 | no {m:Mo} {o:Option V} {ms:List Mo} {ρ:Env} {σ:St} {fp:List Addr}:SL F B H ms ρ σ fp->SL F B H (m::ms) (none::ρ) (o::σ) fp
 | al {n:Nat} {d:D} {v:V} {ms:List Mo} {ρ:Env} {σ:St} {fp:List Addr}:Al K ct F B n d v->SL F B H ms ρ σ fp->SL F B H (.al n::ms) (some d::ρ) (some v::σ) fp
 | px {d:D} {v:V} {ms:List Mo} {ρ:Env} {σ:St} {fp:List Addr}:Al K ct F B 1 d v->SL F B H ms ρ σ fp->SL F B H (.px v::ms) (some d::ρ) (some v::σ) fp
 | so {d:D} {x:Addr} {ms:List Mo} {ρ:Env} {σ:St} {fp:List Addr}:Ow K ct F H 1 d (.ref x) [x]->SL F B H ms ρ σ fp->SL F B H (.so x::ms) (some d::ρ) (some (.ref x)::σ) (x::fp)
 | ow {n:Nat} {d:D} {v:V} {ms:List Mo} {ρ:Env} {σ:St} {f fp:List Addr}:Ow K ct F H n d v f->SL F B H ms ρ σ fp->SL F B H (.ow n::ms) (some d::ρ) (some v::σ) (f++fp)
structure RS (F0 B:Hp) (ms:List Mo) (F H:Hp) (ρ:Env) (σ:St):Prop where
 f0:Same F0 F
 bh:Same B H
 fh:Same F H
 nf:∀a o,B a=some o->F0 a=none->F a=none
 sl:∃fp,SL K ct F B H ms ρ σ fp/\fp.Nodup/\∀a∈fp,B a=none
end
section
variable {K:PySem.W.Frag} {ct:Nat->Addr} {F F' G G' H H' B B' F0:Hp} {ms:List Mo} {ρ:Env} {σ:St}
theorem SL.cells:∀{ms:List Mo} {ρ:Env} {σ:St} {fp:List Addr},SL K ct F B H ms ρ σ fp->∀a∈fp,F a=none/\∃o,H a=some o
 | _,_,_,_,.nil,_,z=>by cases z
 | _,_,_,_,.no t,a,z=>SL.cells t a z
 | _,_,_,_,.al _ t,a,z=>SL.cells t a z
 | _,_,_,_,.px _ t,a,z=>SL.cells t a z
 | _,_,_,_,.so h t,a,z=>(List.mem_cons.mp z).elim (fun z=>h.cells a (by rw [z]; exact List.mem_cons_self)) fun z=>SL.cells t a z
 | _,_,_,_,.ow h t,a,z=>(List.mem_append.mp z).elim (fun z=>h.cells a z) fun z=>SL.cells t a z
theorem SL.frame (sF:Same F F'):∀{ms:List Mo} {ρ:Env} {σ:St} {fp:List Addr},SL K ct F B H ms ρ σ fp->(∀a∈fp,H' a=H a/\F' a=none)->SL K ct F' B H' ms ρ σ fp
 | _,_,_,_,.nil,_=>.nil
 | _,_,_,_,.no t,k=>.no (SL.frame sF t k)
 | _,_,_,_,.al h t,k=>.al (h.mono sF (.refl _)) (SL.frame sF t k)
 | _,_,_,_,.px h t,k=>.px (h.mono sF (.refl _)) (SL.frame sF t k)
 | _,_,_,_,.so h t,k=>.so (h.frame sF fun a z=>k a (by rw [List.mem_singleton] at z; rw [z]; exact List.mem_cons_self)) (SL.frame sF t fun a z=>k a (List.mem_cons_of_mem _ z))
 | _,_,_,_,.ow h t,k=>.ow (h.frame sF fun a z=>k a (List.mem_append_left _ z)) (SL.frame sF t fun a z=>k a (List.mem_append_right _ z))
theorem RS.ext (r:RS K ct F0 B ms F H ρ σ) (e:Ext F H F' H'):RS K ct F0 B ms F' H' ρ σ:=by
 obtain ⟨fp,s,nd,hb⟩:=r.sl
 refine ⟨r.f0.trans e.ff,r.bh.trans e.hh,e.fh,fun a o h n=>e.nf a o (r.bh _ _ h) (r.nf a o h n),fp,s.frame e.ff fun a z=>?_,nd,hb⟩
 obtain ⟨hn,o,ho⟩:=s.cells a z
 exact ⟨(e.hh _ _ ho).trans ho.symm,e.nf a o ho hn⟩
theorem SL.get:∀{ms:List Mo} {ρ:Env} {σ:St} {fp:List Addr} {i:Nat} {m:Mo} {d:D},SL K ct F B H ms ρ σ fp->Same F H->Same B H->ms[i]?=some m->ρ[i]?=some (some d)->∃v,σ[i]?=some (some v)/\Al K ct F H m.lv d v
 | _,_,_,_,_,_,_,.nil,_,_,e,_=>by simp at e
 | _,_,_,_,0,_,_,.no t,_,_,_,e=>by simp at e
 | _,_,_,_,0,_,_,.al h t,_,s,e,e'=>by
  simp at e e'; subst e; subst e'
  exact ⟨_,rfl,h.mono (.refl _) s⟩
 | _,_,_,_,0,_,_,.px h t,_,s,e,e'=>by
  simp at e e'; subst e; subst e'
  exact ⟨_,rfl,h.mono (.refl _) s⟩
 | _,_,_,_,0,_,_,.so h t,s,_,e,e'=>by
  simp at e e'; subst e; subst e'
  exact ⟨_,rfl,h.al s⟩
 | _,_,_,_,0,_,_,.ow h t,s,_,e,e'=>by
  simp at e e'; subst e; subst e'
  exact ⟨_,rfl,h.al s⟩
 | _,_,_,_,i+1,_,_,.no t,s,s',e,e'=>by simpa using SL.get (i:=i) t s s' (by simpa using e) (by simpa using e')
 | _,_,_,_,i+1,_,_,.al h t,s,s',e,e'=>by simpa using SL.get (i:=i) t s s' (by simpa using e) (by simpa using e')
 | _,_,_,_,i+1,_,_,.px h t,s,s',e,e'=>by simpa using SL.get (i:=i) t s s' (by simpa using e) (by simpa using e')
 | _,_,_,_,i+1,_,_,.so h t,s,s',e,e'=>by simpa using SL.get (i:=i) t s s' (by simpa using e) (by simpa using e')
 | _,_,_,_,i+1,_,_,.ow h t,s,s',e,e'=>by simpa using SL.get (i:=i) t s s' (by simpa using e) (by simpa using e')
theorem RS.get (r:RS K ct F0 B ms F H ρ σ) {i:Nat} {m:Mo} {d:D} (hm:ms[i]?=some m) (e:ρ[i]?=some (some d)):∃v,σ[i]?=some (some v)/\Al K ct F H m.lv d v:=by
 obtain ⟨fp,s,_,_⟩:=r.sl
 exact s.get r.fh r.bh hm e
theorem SL.put:∀{ms:List Mo} {ρ:Env} {σ:St} {fp:List Addr} {i k:Nat},SL K ct F B H ms ρ σ fp->ms[i]?=some (.ow k) ->
  ∃f1 fr:List Addr,(∀a∈f1,a∈fp)/\(∀a∈fr,a∈fp)/\(fp.Nodup->f1.Nodup/\fr.Nodup/\∀a∈f1,a∉fr)/\(∀d,ρ[i]?=some (some d)->∃v,σ[i]?=some (some v)/\Ow K ct F H k d v f1) /\
   ∀(F' H':Hp) (d':D) (v':V) (f':List Addr),Same F F'->(∀a∈fr,H' a=H a/\F' a=none)->Ow K ct F' H' k d' v' f' ->
    ∃fp',SL K ct F' B H' ms (ρ.set i (some d')) (σ.set i (some v')) fp'/\(∀a∈fp',a∈f'\/a∈fr)/\(f'.Nodup->fr.Nodup->(∀a∈f',a∉fr)->fp'.Nodup)
 | _,_,_,_,_,_,.nil,e=>by simp at e
 | _,_,_,fp,0,k,.no t,e=>by
  simp at e; subst e
  refine ⟨[],fp,fun a z=>(by cases z),fun a z=>z,fun n=>⟨List.nodup_nil,n,fun a z=>(by cases z)⟩,fun d q=>(by simp at q),fun F' H' d' v' f' s kf h=>⟨f'++fp,.ow h (t.frame s kf),fun a z=>List.mem_append.mp z,fun n1 n2 dj=>?_⟩⟩
  exact List.nodup_append.mpr ⟨n1,n2,fun a z b zb e=>dj a z (e ▸ zb)⟩
 | _,_,_,_,0,k,.al h t,e=>by simp at e
 | _,_,_,_,0,k,.px h t,e=>by simp at e
 | _,_,_,_,0,k,.so h t,e=>by simp at e
 | _,_,_,_,0,k,.ow (f:=f) (fp:=fp) h t,e=>by
  simp at e; subst e
  refine ⟨f,fp,fun a z=>List.mem_append_left _ z,fun a z=>List.mem_append_right _ z,fun n=>?_,fun d q=>?_,fun F' H' d' v' f' s kf h=>⟨f'++fp,.ow h (t.frame s kf),fun a z=>List.mem_append.mp z,fun n1 n2 dj=>?_⟩⟩
  ·obtain ⟨n1,n2,n3⟩:=List.nodup_append.mp n
   exact ⟨n1,n2,fun a z zb=>n3 a z a zb rfl⟩
  ·simp at q; subst q; exact ⟨_,rfl,h⟩
  ·exact List.nodup_append.mpr ⟨n1,n2,fun a z b zb e=>dj a z (e ▸ zb)⟩
 | _,_,_,_,i+1,k,.no t,e=>by
  obtain ⟨f1,fr,h1,h2,h3,h4,h5⟩:=SL.put (i:=i) (k:=k) t (by simpa using e)
  refine ⟨f1,fr,h1,h2,h3,fun d q=>by simpa using h4 d (by simpa using q),fun F' H' d' v' f' s kf h=>?_⟩
  obtain ⟨fp',q1,q2,q3⟩:=h5 F' H' d' v' f' s kf h
  exact ⟨fp',.no q1,q2,q3⟩
 | _,_,_,_,i+1,k,.al h t,e=>by
  obtain ⟨f1,fr,h1,h2,h3,h4,h5⟩:=SL.put (i:=i) (k:=k) t (by simpa using e)
  refine ⟨f1,fr,h1,h2,h3,fun d q=>by simpa using h4 d (by simpa using q),fun F' H' d' v' f' s kf h'=>?_⟩
  obtain ⟨fp',q1,q2,q3⟩:=h5 F' H' d' v' f' s kf h'
  exact ⟨fp',.al (h.mono s (.refl _)) q1,q2,q3⟩
 | _,_,_,_,i+1,k,.px h t,e=>by
  obtain ⟨f1,fr,h1,h2,h3,h4,h5⟩:=SL.put (i:=i) (k:=k) t (by simpa using e)
  refine ⟨f1,fr,h1,h2,h3,fun d q=>by simpa using h4 d (by simpa using q),fun F' H' d' v' f' s kf h'=>?_⟩
  obtain ⟨fp',q1,q2,q3⟩:=h5 F' H' d' v' f' s kf h'
  exact ⟨fp',.px (h.mono s (.refl _)) q1,q2,q3⟩
 | _,_,_,_,i+1,k,.so (x:=x) (fp:=fp) h t,e=>by
  obtain ⟨f1,fr,h1,h2,h3,h4,h5⟩:=SL.put (i:=i) (k:=k) t (by simpa using e)
  refine ⟨f1,x::fr,fun a z=>List.mem_cons_of_mem _ (h1 a z),fun a z=>(List.mem_cons.mp z).elim (fun z=>by rw [z]; exact List.mem_cons_self) fun z=>List.mem_cons_of_mem _ (h2 a z),fun n=>?_,fun d q=>by simpa using h4 d (by simpa using q),fun F' H' d' v' f' s kf h'=>?_⟩
  ·obtain ⟨n1,n2⟩:=List.nodup_cons.mp n
   obtain ⟨m1,m2,m3⟩:=h3 n2
   refine ⟨m1,List.nodup_cons.mpr ⟨fun z=>n1 (h2 x z),m2⟩,fun a z zb=>?_⟩
   rcases List.mem_cons.mp zb with zb | zb
   ·rw [zb] at z; exact n1 (h1 x z)
   ·exact m3 a z zb
  ·obtain ⟨fp',q1,q2,q3⟩:=h5 F' H' d' v' f' s (fun a z=>kf a (List.mem_cons_of_mem _ z)) h'
   refine ⟨x::fp',.so (h.frame s fun a z=>kf a (by rw [List.mem_singleton] at z; rw [z]; exact List.mem_cons_self)) q1,fun a z=>?_,fun n1 n2 dj=>?_⟩
   ·rcases List.mem_cons.mp z with z | z
    ·exact .inr (by rw [z]; exact List.mem_cons_self)
    ·exact (q2 a z).imp id fun z=>List.mem_cons_of_mem _ z
   ·obtain ⟨m1,m2⟩:=List.nodup_cons.mp n2
    refine List.nodup_cons.mpr ⟨fun z=>?_,q3 n1 m2 fun a z zb=>dj a z (List.mem_cons_of_mem _ zb)⟩
    rcases q2 x z with z | z
    ·exact dj x z List.mem_cons_self
    ·exact m1 z
 | _,_,_,_,i+1,k,.ow (f:=f) (fp:=fp) h t,e=>by
  obtain ⟨f1,fr,h1,h2,h3,h4,h5⟩:=SL.put (i:=i) (k:=k) t (by simpa using e)
  refine ⟨f1,f++fr,fun a z=>List.mem_append_right _ (h1 a z),fun a z=>(List.mem_append.mp z).elim (fun z=>List.mem_append_left _ z) fun z=>List.mem_append_right _ (h2 a z),fun n=>?_,fun d q=>by simpa using h4 d (by simpa using q),fun F' H' d' v' f' s kf h'=>?_⟩
  ·obtain ⟨n1,n2,n3⟩:=List.nodup_append.mp n
   obtain ⟨m1,m2,m3⟩:=h3 n2
   refine ⟨m1,List.nodup_append.mpr ⟨n1,m2,fun a z b zb=>n3 a z b (h2 b zb)⟩,fun a z zb=>?_⟩
   rcases List.mem_append.mp zb with zb | zb
   ·exact n3 a zb a (h1 a z) rfl
   ·exact m3 a z zb
  ·obtain ⟨fp',q1,q2,q3⟩:=h5 F' H' d' v' f' s (fun a z=>kf a (List.mem_append_right _ z)) h'
   refine ⟨f++fp',.ow (h.frame s fun a z=>kf a (List.mem_append_left _ z)) q1,fun a z=>?_,fun n1 n2 dj=>?_⟩
   ·rcases List.mem_append.mp z with z | z
    ·exact .inr (List.mem_append_left _ z)
    ·exact (q2 a z).imp id fun z=>List.mem_append_right _ z
   ·obtain ⟨m1,m2,m3⟩:=List.nodup_append.mp n2
    refine List.nodup_append.mpr ⟨m1,q3 n1 m2 fun a z zb=>dj a z (List.mem_append_right _ zb),fun a z b zb e=>?_⟩
    subst e
    rcases q2 a zb with zb | zb
    ·exact dj a zb (List.mem_append_left _ z)
    ·exact m3 a z a zb rfl
end
abbrev EF:=Env->Option D
inductive AlL (K:PySem.W.Frag) (ct:Nat->Addr) (F G:Hp):List Nat->List D->List V->Prop
 | nil:AlL K ct F G [] [] []
 | cons {n:Nat} {d:D} {v:V} {ns:List Nat} {ds:List D} {vs:List V}:Al K ct F G n d v->AlL K ct F G ns ds vs->AlL K ct F G (n::ns) (d::ds) (v::vs)
theorem AlL.mono {K:PySem.W.Frag} {ct:Nat->Addr} {F F' G G':Hp} (sF:Same F F') (sG:Same G G'):∀{ns:List Nat} {ds:List D} {vs:List V},AlL K ct F G ns ds vs->AlL K ct F' G' ns ds vs
 | _,_,_,.nil=>.nil
 | _,_,_,.cons h t=>.cons (h.mono sF sG) (AlL.mono sF sG t)
theorem AlL.length {K:PySem.W.Frag} {ct:Nat->Addr} {F G:Hp}:∀{ns:List Nat} {ds:List D} {vs:List V},AlL K ct F G ns ds vs->vs.length=ns.length
 | _,_,_,.nil=>rfl
 | _,_,_,.cons _ t=>by simp [AlL.length t]
theorem AlL.length' {K:PySem.W.Frag} {ct:Nat->Addr} {F G:Hp}:∀{ns:List Nat} {ds:List D} {vs:List V},AlL K ct F G ns ds vs->ds.length=vs.length
 | _,_,_,.nil=>rfl
 | _,_,_,.cons _ t=>by simp [AlL.length' t]
theorem AlL.append {K:PySem.W.Frag} {ct:Nat->Addr} {F G:Hp} {ns':List Nat} {ds':List D} {vs':List V} (q:AlL K ct F G ns' ds' vs'):∀{ns:List Nat} {ds:List D} {vs:List V},AlL K ct F G ns ds vs->AlL K ct F G (ns++ns') (ds++ds') (vs++vs')
 | _,_,_,.nil=>q
 | _,_,_,.cons h t=>.cons h (AlL.append q t)
section
variable (X:Cx) (ct:Nat->Addr) (ms:List Mo)
def XE (n:Nat) (e:Expr) (f:EF):Prop:=∃t,PE X e t/\∀(F0 B F H:Hp) (ρ:Env) (σ:St) (d:D) (Q:VK),RS X.K ct F0 B ms F H ρ σ->f ρ=some d ->
 (∀v F' H',Ext F H F' H'->Al X.K ct F' H' n d v->Q v H')->t σ H Q
def XO (k:Nat) (e:Expr) (f:EF):Prop:=∃t,PE X e t/\∀(F0 B F H:Hp) (ρ:Env) (σ:St) (d:D) (Q:VK),RS X.K ct F0 B ms F H ρ σ->f ρ=some d ->
 (∀v F' H' fp,Ext F H F' H'->Ow X.K ct F' H' k d v fp->fp.Nodup->(∀a∈fp,H a=none)->Q v H')->t σ H Q
def XT (e:Expr) (f:Env->Option Bool):Prop:=∃t,PT X e t/\∀(F0 B F H:Hp) (ρ:Env) (σ:St) (b:Bool) (Q:Bool->Hp->Prop),RS X.K ct F0 B ms F H ρ σ->f ρ=some b ->
 (∀F' H',Ext F H F' H'->Q b H')->t σ H Q
def XW (e:Expr) (f:Env->Option Bool):Prop:=∃t,PW X e t/\∀(F0 B F H:Hp) (ρ:Env) (σ:St) (b:Bool) (Q:Bool->Hp->Prop),RS X.K ct F0 B ms F H ρ σ->f ρ=some b ->
 (∀F' H',Ext F H F' H'->Q b H')->t σ H Q
def XA (es:List Expr) (ns:List Nat) (f:Env->Option (List D)):Prop:=∃t,PA X es t/\(∀ρ ds,f ρ=some ds->ds.length=es.length)/\∀(F0 B F H:Hp) (ρ:Env) (σ:St) (ds:List D) (Q:List V->Hp->Prop),RS X.K ct F0 B ms F H ρ σ->f ρ=some ds ->
 (∀vs F' H',Ext F H F' H'->AlL X.K ct F' H' ns ds vs->Q vs H')->t σ H Q
end
def e2 (op:D->D->Option D) (f g:EF):EF:=fun ρ=>(f ρ).bind fun x=>(g ρ).bind fun y=>op x y
def e1 (op:D->Option D) (f:EF):EF:=fun ρ=>(f ρ).bind op
def eN (op:List D->Option D) (f:Env->Option (List D)):EF:=fun ρ=>(f ρ).bind op
def eC (d:D):EF:=fun _=>some d
def eV (i:Nat):EF:=fun ρ=>(ρ[i]?).join
def aNil:Env->Option (List D):=fun _=>some []
def aCons (f:EF) (g:Env->Option (List D)):Env->Option (List D):=fun ρ=>(f ρ).bind fun x=>(g ρ).bind fun xs=>some (x::xs)
theorem bind2 {α β γ:Type} {o:Option α} {p:Option β} {op:α->β->Option γ} {r:γ} (h:(o.bind fun x=>p.bind fun y=>op x y)=some r):∃x y,o=some x/\p=some y/\op x y=some r:=by
 cases o with
 | none=>cases h
 | some x =>
  cases p with
  | none=>cases h
  | some y=>exact ⟨x,y,rfl,rfl,h⟩
theorem bind1 {α β:Type} {o:Option α} {op:α->Option β} {r:β} (h:o.bind op=some r):∃x,o=some x/\op x=some r:=by
 cases o with
 | none=>cases h
 | some x=>exact ⟨x,rfl,h⟩
theorem wj {α:Type} {o:Option (Option α)} {x:α} (h:o.join=some x):o=some (some x):=by
 cases o with
 | none=>cases h
 | some y=>exact congrArg some h
def Op2 (K:PySem.W.Frag) (ct:Nat->Addr) (n m k:Nat) (r:R2) (op:D->D->Option D):Prop :=
 ∀(F H:Hp) (x y:V) (d1 d2 d:D) (Q:VK),Same F H->Al K ct F H n d1 x->Al K ct F H m d2 y->op d1 d2=some d->(∀v F' H',Ext F H F' H'->Al K ct F' H' k d v->Q v H')->r x y H Q
def Op2O (K:PySem.W.Frag) (ct:Nat->Addr) (n m k:Nat) (r:R2) (op:D->D->Option D):Prop :=
 ∀(F H:Hp) (x y:V) (d1 d2 d:D) (Q:VK),Same F H->Al K ct F H n d1 x->Al K ct F H m d2 y->op d1 d2=some d ->
  (∀v F' H' fp,Ext F H F' H'->Ow K ct F' H' k d v fp->fp.Nodup->(∀a∈fp,H a=none)->Q v H')->r x y H Q
def OpN (K:PySem.W.Frag) (ct:Nat->Addr) (ns:List Nat) (k:Nat) (r:List V->Hp->VK->Prop) (op:List D->Option D):Prop :=
 ∀(F H:Hp) (vs:List V) (ds:List D) (d:D) (Q:VK),Same F H->AlL K ct F H ns ds vs->op ds=some d->(∀v F' H',Ext F H F' H'->Al K ct F' H' k d v->Q v H')->r vs H Q
def OpNO (K:PySem.W.Frag) (ct:Nat->Addr) (ns:List Nat) (k:Nat) (r:List V->Hp->VK->Prop) (op:List D->Option D):Prop :=
 ∀(F H:Hp) (vs:List V) (ds:List D) (d:D) (Q:VK),Same F H->AlL K ct F H ns ds vs->op ds=some d ->
  (∀v F' H' fp,Ext F H F' H'->Ow K ct F' H' k d v fp->fp.Nodup->(∀a∈fp,H a=none)->Q v H')->r vs H Q
section
variable {X:Cx} {ct:Nat->Addr} {ms:List Mo} {n m k:Nat} {a b c e:Expr} {f g h:EF} {pos:Pos}
theorem XO.sh (he:XO X ct ms k e f):XE X ct ms n e f:=by
 obtain ⟨t,p,q⟩:=he
 refine ⟨t,p,fun F0 B F H ρ σ d Q r e w=>q F0 B F H ρ σ d Q r e fun v F' H' fp x o nd hf=>?_⟩
 obtain ⟨F2,x2,h2⟩:=o.freeze x hf
 exact w v F2 H' x2 (Al.of h2)
theorem XE.ow (he:XE X ct ms 0 e f):XO X ct ms 0 e f:=by
 obtain ⟨t,p,q⟩:=he
 exact ⟨t,p,fun F0 B F H ρ σ d Q r e w=>q F0 B F H ρ σ d Q r e fun v F' H' x l=>w v F' H' [] x ⟨l,rfl⟩ List.nodup_nil fun a z=>(by cases z)⟩
theorem za (i n:Nat) {x:Str} {m:Mo} (hm:ms[i]?=some m:=by rfl) (hl:m.lv=n:=by rfl) (hN:X.N[i]?=some x:=by rfl) (hv:Vis X.env.scope x:=by first | exact Or.inl rfl | exact Or.inr (Or.inl rfl) | exact Or.inr (Or.inr rfl)) (hd:(x == ("__debug__":Str))=false:=by decide)
  (hcd:(x == ("__classdict__":Str))=false:=by decide):XE X ct ms n (.Name x pos) (eV i):=by
 subst hl
 refine ⟨_,zat hN hv hd hcd,fun F0 B F H ρ σ d Q r e w=>?_⟩
 obtain ⟨v,hv,l⟩:=r.get hm (wj e)
 exact ⟨v,hv,w v F H (.refl r.fh) l⟩
theorem zh {i:Int} {j}:XE X ct ms n (.Constant (.int i) j pos) (eC (.int i)):=⟨_,zre,fun F0 B F H ρ σ d Q r e w=>by cases e; exact w _ F H (.refl r.fh) (Al.of (.int i))⟩
theorem zbh {i:Bool} {j}:XE X ct ms n (.Constant (.bool i) j pos) (eC (.bl i)):=⟨_,ztb,fun F0 B F H ρ σ d Q r e w=>by cases e; exact w _ F H (.refl r.fh) (Al.of (.bl i))⟩
theorem zf9 {i:Str} {j}:XE X ct ms n (.Constant (.str i) j pos) (eC (.str i)):=⟨_,zrg,fun F0 B F H ρ σ d Q r e w=>by cases e; exact w _ F H (.refl r.fh) (Al.of (.str i))⟩
theorem zed {j}:XE X ct ms n (.Constant .none j pos) (eC .non):=⟨_,zrf,fun F0 B F H ρ σ d Q r e w=>by cases e; exact w _ F H (.refl r.fh) (Al.of .non)⟩
theorem XE.bin (ha:XE X ct ms n a f) (hb:XE X ct ms m b g):∃ta tb,PE X a ta/\PE X b tb/\∀(F0 B F H:Hp) (ρ:Env) (σ:St) (d1 d2:D) (R:V->V->Hp->Prop),RS X.K ct F0 B ms F H ρ σ->f ρ=some d1->g ρ=some d2 ->
  (∀x y F' H',Ext F H F' H'->Al X.K ct F' H' n d1 x->Al X.K ct F' H' m d2 y->R x y H')->ta σ H fun x H1=>tb σ H1 fun y H2=>R x y H2:=by
 obtain ⟨ta,pa,qa⟩:=ha
 obtain ⟨tb,pb,qb⟩:=hb
 refine ⟨ta,tb,pa,pb,fun F0 B F H ρ σ d1 d2 R r e1 e2 w=>qa F0 B F H ρ σ d1 _ r e1 fun x F1 H1 x1 l1=>?_⟩
 exact qb F0 B F1 H1 ρ σ d2 _ (r.ext x1) e2 fun y F2 H2 x2 l2=>w x y F2 H2 (x1.trans x2) (l1.mono x2.ff x2.hh) l2
theorem ye {op:Operator} {r:R2} {o:D->D->Option D} (ho:OpR X (binaryOp op) r) (hs:Op2 X.K ct n m k r o) (ha:XE X ct ms n a f) (hb:XE X ct ms m b g):XE X ct ms k (.BinOp a op b pos) (e2 o f g):=by
 obtain ⟨ta,tb,pa,pb,q⟩:=ha.bin hb
 refine ⟨_,zo8 ho pa pb,fun F0 B F H ρ σ d Q rs e w=>?_⟩
 obtain ⟨d1,d2,h1,h2,h3⟩:=bind2 e
 exact q F0 B F H ρ σ d1 d2 _ rs h1 h2 fun x y F' H' x1 l1 l2=>hs F' H' x y d1 d2 d Q x1.fh l1 l2 h3 fun v F2 H2 x2 l=>w v F2 H2 (x1.trans x2) l
theorem vz {op:Operator} {r:R2} {o:D->D->Option D} (ho:OpR X (binaryOp op) r) (hs:Op2O X.K ct n m k r o) (ha:XE X ct ms n a f) (hb:XE X ct ms m b g):XO X ct ms k (.BinOp a op b pos) (e2 o f g):=by
 obtain ⟨ta,tb,pa,pb,q⟩:=ha.bin hb
 refine ⟨_,zo8 ho pa pb,fun F0 B F H ρ σ d Q rs e w=>?_⟩
 obtain ⟨d1,d2,h1,h2,h3⟩:=bind2 e
 exact q F0 B F H ρ σ d1 d2 _ rs h1 h2 fun x y F' H' x1 l1 l2=>hs F' H' x y d1 d2 d Q x1.fh l1 l2 h3 fun v F2 H2 fp x2 l nd hf=>w v F2 H2 fp (x1.trans x2) l nd fun z hz=>x1.hh.free (hf z hz)
theorem jm {op:CmpOp} {r:R2} {o:D->D->Option D} (ho:OpR X (compareOp op) r) (hs:Op2 X.K ct n m k r o) (ha:XE X ct ms n a f) (hb:XE X ct ms m b g) (hm:behindInMarks op b=false):XE X ct ms k (.Compare a [op] [b] pos) (e2 o f g):=by
 obtain ⟨ta,tb,pa,pb,q⟩:=ha.bin hb
 refine ⟨_,zpb ho pa pb hm,fun F0 B F H ρ σ d Q rs e w=>?_⟩
 obtain ⟨d1,d2,h1,h2,h3⟩:=bind2 e
 exact q F0 B F H ρ σ d1 d2 _ rs h1 h2 fun x y F' H' x1 l1 l2=>hs F' H' x y d1 d2 d Q x1.fh l1 l2 h3 fun v F2 H2 x2 l=>w v F2 H2 (x1.trans x2) l
theorem yc {r:R2} {o:D->D->Option D} (hr:IxR X r) (hs:Op2 X.K ct n m k r o) (ha:XE X ct ms n a f) (hb:XE X ct ms m b g) (hp:PlainIx b):XE X ct ms k (.Subscript a b pos) (e2 o f g):=by
 obtain ⟨ta,tb,pa,pb,q⟩:=ha.bin hb
 refine ⟨_,zti hr pa pb hp,fun F0 B F H ρ σ d Q rs e w=>?_⟩
 obtain ⟨d1,d2,h1,h2,h3⟩:=bind2 e
 exact q F0 B F H ρ σ d1 d2 _ rs h1 h2 fun x y F' H' x1 l1 l2=>hs F' H' x y d1 d2 d Q x1.fh l1 l2 h3 fun v F2 H2 x2 l=>w v F2 H2 (x1.trans x2) l
theorem ztl {op:UnaryOp} {r:V->Hp->VK->Prop} {o:D->Option D} (ho:UnR X (unaryOp op) r)
  (hs:∀(F H:Hp) (x:V) (d1 d:D) (Q:VK),Same F H->Al X.K ct F H n d1 x->o d1=some d->(∀v F' H',Ext F H F' H'->Al X.K ct F' H' k d v->Q v H')->r x H Q) (ha:XE X ct ms n a f):XE X ct ms k (.UnaryOp op a pos) (e1 o f):=by
 obtain ⟨ta,pa,qa⟩:=ha
 refine ⟨_,ztf ho pa,fun F0 B F H ρ σ d Q rs e w=>?_⟩
 obtain ⟨d1,h1,h2⟩:=bind1 e
 exact qa F0 B F H ρ σ d1 _ rs h1 fun x F' H' x1 l1=>hs F' H' x d1 d Q x1.fh l1 h2 fun v F2 H2 x2 l=>w v F2 H2 (x1.trans x2) l
theorem zk:XA X ct ms [] [] aNil:=⟨_,zbj,fun ρ ds e=>(by cases e; rfl),fun F0 B F H ρ σ ds Q r e w=>by cases e; exact w [] F H (.refl r.fh) .nil⟩
theorem zc {es:List Expr} {ns:List Nat} {fs:Env->Option (List D)} (ha:XE X ct ms n a f) (hr:XA X ct ms es ns fs) (hs:starEach (a::es) X.env=(false,eval a X.env)::starEach es X.env:=by rfl):XA X ct ms (a::es) (n::ns) (aCons f fs):=by
 obtain ⟨ta,pa,qa⟩:=ha
 obtain ⟨tb,pb,lb,qb⟩:=hr
 refine ⟨_,ux pa pb hs,fun ρ ds e=>(by obtain ⟨x,xs,h1,h2,h3⟩:=bind2 e; cases h3; rw [List.length_cons,List.length_cons,lb _ _ h2]),fun F0 B F H ρ σ ds Q r e w=>?_⟩
 obtain ⟨x,xs,h1,h2,h3⟩:=bind2 e
 cases h3
 refine qa F0 B F H ρ σ x _ r h1 fun v F1 H1 x1 l1=>?_
 exact qb F0 B F1 H1 ρ σ xs _ (r.ext x1) h2 fun vs F2 H2 x2 l2=>w (v::vs) F2 H2 (x1.trans x2) (.cons (l1.mono x2.ff x2.hh) l2)
def XAO (X:Cx) (ct:Nat->Addr) (ms:List Mo) (k:Nat) (es:List Expr) (f:Env->Option (List D)):Prop:=∃t,PA X es t/\(∀ρ ds,f ρ=some ds->ds.length=es.length)/\∀(F0 B F H:Hp) (ρ:Env) (σ:St) (ds:List D) (Q:List V->Hp->Prop),RS X.K ct F0 B ms F H ρ σ->f ρ=some ds ->
 (∀vs F' H' fp,Ext F H F' H'->OwL (Ow X.K ct F' H' k) ds vs fp->fp.Nodup->(∀a∈fp,H a=none)->Q vs H')->t σ H Q
theorem yb:XAO X ct ms k [] aNil:=⟨_,zbj,fun ρ ds e=>(by cases e; rfl),fun F0 B F H ρ σ ds Q r e w=>by cases e; exact w [] F H [] (.refl r.fh) .nil List.nodup_nil fun a z=>(by cases z)⟩
theorem zl {es:List Expr} {fs:Env->Option (List D)} (ha:XO X ct ms k a f) (hr:XAO X ct ms k es fs) (hs:starEach (a::es) X.env=(false,eval a X.env)::starEach es X.env:=by rfl):XAO X ct ms k (a::es) (aCons f fs):=by
 obtain ⟨ta,pa,qa⟩:=ha
 obtain ⟨tb,pb,lb,qb⟩:=hr
 refine ⟨_,ux pa pb hs,fun ρ ds e=>(by obtain ⟨x,xs,h1,h2,h3⟩:=bind2 e; cases h3; rw [List.length_cons,List.length_cons,lb _ _ h2]),fun F0 B F H ρ σ ds Q r e w=>?_⟩
 obtain ⟨x,xs,h1,h2,h3⟩:=bind2 e
 cases h3
 refine qa F0 B F H ρ σ x _ r h1 fun v F1 H1 f1 x1 l1 n1 a1=>?_
 refine qb F0 B F1 H1 ρ σ xs _ (r.ext x1) h2 fun vs F2 H2 f2 x2 l2 n2 a2=>w (v::vs) F2 H2 (f1++f2) (x1.trans x2) (.cons (l1.ext x2) l2) (List.nodup_append.mpr ⟨n1,n2,fun z hz y hy e=>?_⟩) fun z hz=>?_
 ·subst e
  obtain ⟨_,o,ho⟩:=l1.cells z hz
  rw [a2 z hy] at ho
  cases ho
 ·rcases List.mem_append.mp hz with hz | hz
  ·exact a1 z hz
  ·exact x1.hh.free (a2 z hz)
end
end L3
namespace L3
open PySem PySem.Spec L2
open PyProof.Rows hiding St
def asB:D->Option Bool
 | .bl b=>some b
 | _=>none
theorem qh {d:D} {b:Bool} (h:asB d=some b):d=.bl b:=by cases d <;> simp [asB] at h; subst h; rfl
abbrev BF:=Env->Option Bool
def tb (f:EF):BF:=fun ρ=>(f ρ).bind asB
def bNot (f:BF):BF:=fun ρ=>(f ρ).bind fun b=>some (!b)
def bAnd (f g:BF):BF:=fun ρ=>(f ρ).bind fun b=>if b=true then g ρ else some false
def bOr (f g:BF):BF:=fun ρ=>(f ρ).bind fun b=>if b=true then some true else g ρ
def eB (f:BF):EF:=fun ρ=>(f ρ).bind fun b=>some (.bl b)
def eIf (c:BF) (f g:EF):EF:=fun ρ=>(c ρ).bind fun b=>if b=true then f ρ else g ρ
section
variable {X:Cx} {ct:Nat->Addr} {ms:List Mo} {n m k:Nat} {a b c e:Expr} {f g h:EF} {p q:BF} {pos:Pos}
theorem jo (he:XE X ct ms n e f) (hi:∀whole,isTrue e X.env whole=(do let v ← whole; standAt e.pos; holding [v] (truthy v)):=by intro _; rfl):XT X ct ms e (tb f):=by
 obtain ⟨t,pt,qt⟩:=he
 refine ⟨_,zrh pt hi,fun F0 B F H ρ σ b Q r e w=>?_⟩
 obtain ⟨d,h1,h2⟩:=bind1 e
 rw [qh h2] at h1
 exact qt F0 B F H ρ σ _ _ r h1 fun v F' H' x l=>⟨b,l.bl,w F' H' x⟩
theorem yf {op:CmpOp} {r:R2} {o:D->D->Option D} (ho:OpR X (compareOp op) r) (hs:Op2 X.K ct n m k r o) (ha:XE X ct ms n a f) (hb:XE X ct ms m b g) (hm:behindInMarks op b=false):XT X ct ms (.Compare a [op] [b] pos) (tb (e2 o f g)):=by
 obtain ⟨ta,tb,pa,pb,q⟩:=ha.bin hb
 refine ⟨_,zpc ho pa pb hm,fun F0 B F H ρ σ b Q rs e w=>?_⟩
 obtain ⟨d,h0,h4⟩:=bind1 e
 rw [qh h4] at h0
 obtain ⟨d1,d2,h1,h2,h3⟩:=bind2 h0
 exact q F0 B F H ρ σ d1 d2 _ rs h1 h2 fun x y F' H' x1 l1 l2=>hs F' H' x y d1 d2 _ _ x1.fh l1 l2 h3 fun v F2 H2 x2 l=>⟨b,l.bl,w F2 H2 (x1.trans x2)⟩
theorem XW.t (h:XW X ct ms e p):XT X ct ms e p:=by
 obtain ⟨t,pt,qt⟩:=h
 exact ⟨t,pt.pt,qt⟩
theorem zcg (ha:XT X ct ms a p):XW X ct ms (.BoolOp .And [a] pos) p:=by
 obtain ⟨t,pt,qt⟩:=ha
 exact ⟨t,zo3 pt,qt⟩
theorem zau (ha:XT X ct ms a p):XW X ct ms (.BoolOp .Or [a] pos) p:=by
 obtain ⟨t,pt,qt⟩:=ha
 exact ⟨t,zri pt,qt⟩
theorem zee {rest:List Expr} (ha:XT X ct ms a p) (hb:XW X ct ms (.BoolOp .And (b::rest) pos) q):XW X ct ms (.BoolOp .And (a::b::rest) pos) (bAnd p q):=by
 obtain ⟨t,pt,qt⟩:=ha
 obtain ⟨u,pu,qu⟩:=hb
 refine ⟨_,zrj pt pu,fun F0 B F H ρ σ r Q rs e w=>?_⟩
 obtain ⟨x,h1,h2⟩:=bind1 e
 refine qt F0 B F H ρ σ x _ rs h1 fun F1 H1 x1=>?_
 cases x with
 | true=>rw [if_pos rfl]; exact qu F0 B F1 H1 ρ σ r _ (rs.ext x1) h2 fun F2 H2 x2=>w F2 H2 (x1.trans x2)
 | false=>cases h2; rw [if_neg Bool.false_ne_true]; exact w F1 H1 x1
theorem zbi {rest:List Expr} (ha:XT X ct ms a p) (hb:XW X ct ms (.BoolOp .Or (b::rest) pos) q):XW X ct ms (.BoolOp .Or (a::b::rest) pos) (bOr p q):=by
 obtain ⟨t,pt,qt⟩:=ha
 obtain ⟨u,pu,qu⟩:=hb
 refine ⟨_,ztc pt pu,fun F0 B F H ρ σ r Q rs e w=>?_⟩
 obtain ⟨x,h1,h2⟩:=bind1 e
 refine qt F0 B F H ρ σ x _ rs h1 fun F1 H1 x1=>?_
 cases x with
 | true=>cases h2; rw [if_pos rfl]; exact w F1 H1 x1
 | false=>rw [if_neg Bool.false_ne_true]; exact qu F0 B F1 H1 ρ σ r _ (rs.ext x1) h2 fun F2 H2 x2=>w F2 H2 (x1.trans x2)
theorem zao (ha:XT X ct ms a p):XT X ct ms (.UnaryOp .Not a pos) (bNot p):=by
 obtain ⟨t,pt,qt⟩:=ha
 refine ⟨_,zrk pt,fun F0 B F H ρ σ r Q rs e w=>?_⟩
 obtain ⟨x,h1,h2⟩:=bind1 e
 cases h2
 exact qt F0 B F H ρ σ x _ rs h1 fun F1 H1 x1=>w F1 H1 x1
theorem zsb (ha:XE X ct ms n a f):XE X ct ms k (.UnaryOp .Not a pos) (eB (bNot (tb f))):=by
 obtain ⟨t,pt,qt⟩:=ha
 refine ⟨_,zrn pt,fun F0 B F H ρ σ r Q rs e w=>?_⟩
 obtain ⟨x,h1,h2⟩:=bind1 e
 obtain ⟨y,h3,h4⟩:=bind1 h1
 obtain ⟨z,h5,h6⟩:=bind1 h3
 cases h2; cases h4
 rw [qh h6] at h5
 exact qt F0 B F H ρ σ _ _ rs h5 fun v F1 H1 x1 l=>⟨y,l.bl,w _ F1 H1 x1 (Al.of (.bl _))⟩
theorem zap {op} (ha:XE X ct ms n a f):XE X ct ms k (.BoolOp op [a] pos) (eB (tb f)):=by
 obtain ⟨t,pt,qt⟩:=ha
 refine ⟨_,zrl pt,fun F0 B F H ρ σ r Q rs e w=>?_⟩
 obtain ⟨y,h3,h4⟩:=bind1 e
 obtain ⟨z,h5,h6⟩:=bind1 h3
 cases h4
 rw [qh h6] at h5
 exact qt F0 B F H ρ σ _ _ rs h5 fun v F1 H1 x1 l=>w _ F1 H1 x1 (by rw [l.bl]; exact Al.of (.bl _))
theorem zaq {rest:List Expr} (ha:XE X ct ms n a f) (hb:XE X ct ms k (.BoolOp .And (b::rest) pos) (eB q)):XE X ct ms k (.BoolOp .And (a::b::rest) pos) (eB (bAnd (tb f) q)):=by
 obtain ⟨t,pt,qt⟩:=ha
 obtain ⟨u,pu,qu⟩:=hb
 refine ⟨_,zrm pt pu,fun F0 B F H ρ σ r Q rs e w=>?_⟩
 obtain ⟨y,h3,h4⟩:=bind1 e
 obtain ⟨x,h1,h2⟩:=bind1 h3
 obtain ⟨z,h5,h6⟩:=bind1 h1
 cases h4
 rw [qh h6] at h5
 refine qt F0 B F H ρ σ _ _ rs h5 fun v F1 H1 x1 l=>⟨x,l.bl,?_⟩
 cases x with
 | true=>rw [if_pos rfl]; exact qu F0 B F1 H1 ρ σ _ _ (rs.ext x1) (show (q ρ).bind _=_ by rw [if_pos rfl] at h2; rw [h2]; rfl) fun v F2 H2 x2 l=>w v F2 H2 (x1.trans x2) l
 | false=>rw [if_neg Bool.false_ne_true] at h2 ⊢; cases h2; exact w _ F1 H1 x1 (Al.of (.bl _))
theorem ztm {rest:List Expr} (ha:XE X ct ms n a f) (hb:XE X ct ms k (.BoolOp .Or (b::rest) pos) (eB q)):XE X ct ms k (.BoolOp .Or (a::b::rest) pos) (eB (bOr (tb f) q)):=by
 obtain ⟨t,pt,qt⟩:=ha
 obtain ⟨u,pu,qu⟩:=hb
 refine ⟨_,ztd pt pu,fun F0 B F H ρ σ r Q rs e w=>?_⟩
 obtain ⟨y,h3,h4⟩:=bind1 e
 obtain ⟨x,h1,h2⟩:=bind1 h3
 obtain ⟨z,h5,h6⟩:=bind1 h1
 cases h4
 rw [qh h6] at h5
 refine qt F0 B F H ρ σ _ _ rs h5 fun v F1 H1 x1 l=>⟨x,l.bl,?_⟩
 cases x with
 | true=>rw [if_pos rfl] at h2 ⊢; cases h2; exact w _ F1 H1 x1 (Al.of (.bl _))
 | false=>rw [if_neg Bool.false_ne_true]; exact qu F0 B F1 H1 ρ σ _ _ (rs.ext x1) (show (q ρ).bind _=_ by rw [if_neg Bool.false_ne_true] at h2; rw [h2]; rfl) fun v F2 H2 x2 l=>w v F2 H2 (x1.trans x2) l
theorem zsc (hc:XT X ct ms c p) (ha:XE X ct ms k a f) (hb:XE X ct ms k b g):XE X ct ms k (.IfExp c a b pos) (eIf p f g):=by
 obtain ⟨s,ps,qs⟩:=hc
 obtain ⟨t,pt,qt⟩:=ha
 obtain ⟨u,pu,qu⟩:=hb
 refine ⟨_,zmg ps pt pu,fun F0 B F H ρ σ r Q rs e w=>?_⟩
 obtain ⟨x,h1,h2⟩:=bind1 e
 refine qs F0 B F H ρ σ x _ rs h1 fun F1 H1 x1=>?_
 cases x with
 | true=>rw [if_pos rfl] at h2 ⊢; exact qt F0 B F1 H1 ρ σ _ _ (rs.ext x1) h2 fun v F2 H2 x2 l=>w v F2 H2 (x1.trans x2) l
 | false=>rw [if_neg Bool.false_ne_true] at h2 ⊢; exact qu F0 B F1 H1 ρ σ _ _ (rs.ext x1) h2 fun v F2 H2 x2 l=>w v F2 H2 (x1.trans x2) l
theorem ur {es:List Expr} {fs:Env->Option (List D)} {x1} (h:XAO X ct ms k es fs) (hl:es.length<=1000:=by decide):XO X ct ms (k+1) (.Tuple es x1 pos) (fun ρ=>(fs ρ).bind fun ds=>some (.tup ds)):=by
 obtain ⟨t,pt,lt,qt⟩:=h
 refine ⟨_,zrz pt,fun F0 B F H ρ σ r Q rs e w=>?_⟩
 obtain ⟨ds,h1,h2⟩:=bind1 e
 cases h2
 refine qt F0 B F H ρ σ ds _ rs h1 fun vs F1 H1 fp x1 l nd hf=>⟨?_,fun p hp=>?_⟩
 ·rw [← l.length,lt _ _ h1]; exact small hl
 ·have x2:=Ext.newS x1.fh hp (.tup vs)
  exact w _ _ _ fp (x1.trans x2) (.inr (.tup y3 (l.mono fun _ _ _ _ o=>o.ext x2))) nd hf
theorem OwL.cellsOf {K:PySem.W.Frag} {F H:Hp} {ds:List D} {vs:List V} {fp:List Addr} (l:OwL (Ow K ct F H k) ds vs fp):∀a∈fp,F a=none/\∃o,H a=some o:=Ow.cells.OwL.cells (fun d v f q=>Ow.cells q) l
theorem zku {K:PySem.W.Frag} {F H:Hp} {ds:List D} {vs:List V} {fp:List Addr} {p:Addr} (s:Same F H) (l:OwL (Ow K ct F H k) ds vs fp) (hp:H p=none):Ow K ct F (upd H p (.lst vs)) (k+1) (.lst ds) (.ref p) (p::fp)/\(fp.Nodup->(p::fp).Nodup) :=
 ⟨.inr (.lst (s.free hp) y3 (l.mono fun _ _ _ _ o=>o.ext (Ext.newO s hp _))),fun nd=>List.nodup_cons.mpr ⟨fun z=>(by
  obtain ⟨_,o,ho⟩:=OwL.cellsOf l p z
  rw [hp] at ho
  cases ho),nd⟩⟩
theorem vd {es:List Expr} {fs:Env->Option (List D)} (h:XAO X ct ms k es fs) (hl:es.length<=1000:=by decide):XO X ct ms (k+1) (.List es pos) (fun ρ=>(fs ρ).bind fun ds=>some (.lst ds)):=by
 obtain ⟨t,pt,lt,qt⟩:=h
 refine ⟨_,zr0 pt,fun F0 B F H ρ σ r Q rs e w=>?_⟩
 obtain ⟨ds,h1,h2⟩:=bind1 e
 cases h2
 refine qt F0 B F H ρ σ ds _ rs h1 fun vs F1 H1 fp x1 l nd hf=>⟨?_,fun p hp=>?_⟩
 ·rw [← l.length,lt _ _ h1]; exact small hl
 ·obtain ⟨o,n2⟩:=zku x1.fh l hp
  refine w _ _ _ (p::fp) (x1.trans (Ext.newO x1.fh hp _)) o (n2 nd) fun z hz=>?_
  rcases List.mem_cons.mp hz with rfl | hz
  ·exact x1.hh.free hp
  ·exact hf z hz
theorem zmw:XO X ct ms (k+1) (.Dict [] [] pos) (eC (.dK [] [])):=by
 refine ⟨_,zmt,fun F0 B F H ρ σ r Q rs e w p hp=>?_⟩
 cases e
 refine w _ F _ [p] (Ext.newO rs.fh hp _) (.inr (OwC.dK (vs:=[]) (rs.fh.free hp) y3 rfl .nil)) (by simp) fun z hz=>?_
 rw [List.mem_singleton] at hz; subst hz; exact hp
def LSp (K:PySem.W.Frag) (ct:Nat->Addr) (pm:List Nat) (rk:Nat) (m:List D->Option D):Sp:=fun vs H Q _=>∃(F:Hp) (ds:List D) (d:D),Same F H/\AlL K ct F H pm ds vs/\m ds=some d /\
 ∀v F' H' fp,Ext F H F' H'->Ow K ct F' H' rk d v fp->fp.Nodup->(∀a∈fp,H a=none)->Q v H'
theorem LSp.len {K:PySem.W.Frag} {ct:Nat->Addr} {pm:List Nat} {rk:Nat} {m:List D->Option D} {ps:List Str} (h:pm.length=ps.length):∀vs H Q E,LSp K ct pm rk m vs H Q E->vs.length=ps.length:=by
 rintro vs H Q E ⟨F,ds,d,_,l,_⟩
 rw [l.length,h]
variable {kk:Nat} {fa:Addr} {fd:FuncData} {ps:List Str} {pm:List Nat} {rk:Nat} {mf:List D->Option D} {x:Str} {pp:Pos}
theorem zw {es:List Expr} {ns nd:List Nat} {fs:Env->Option (List D)} {dvs:List V} {dds:List D} {dsv:List Value} (Fn:FnOk X.prog X.w X.K X.mg X.base CX0 kk fa fd ps (LSp X.K ct (ns++nd) rk mf)) (hr:Room kk X.A) (hg:Gl X x) (hm:X.mg x=some (.ref fa)) (hk:PySem.W.keepIn X.K (.ref fa)=true)
  (hb:Binds X.K fd ps dsv) (hd:Vals dvs dsv) (hdd:∀F G,AlL X.K ct F G nd dds dvs) (ha:XA X ct ms (e::es) ns fs)
  (hdb:(x == ("__debug__":Str))=false:=by decide) (he:starEach (e::es) X.env=(false,eval e X.env)::starEach es X.env:=by rfl) (hpl:(backTo pos (starEach es X.env)).any (·.1)=false:=by rfl) :
  XO X ct ms rk (.Call (.Name x pp) (e::es) [] pos) (fun ρ=>(fs ρ).bind fun ds=>mf (ds++dds)):=by
 obtain ⟨t,pt,_,qt⟩:=ha
 refine ⟨_,zph Fn hr hg hm hk hb hd pass0 pt hdb he hpl,fun F0 B F H ρ σ r Q rs e w=>?_⟩
 obtain ⟨ds,h1,h2⟩:=bind1 e
 refine qt F0 B F H ρ σ ds _ rs h1 fun vs F1 H1 x1 l=>⟨F1,ds++dds,r,x1.fh,AlL.append (hdd F1 H1) l,h2,fun v F2 H2 fp x2 o nd hf=>?_⟩
 exact w v F2 H2 fp (x1.trans x2) o nd fun z hz=>x1.hh.free (hf z hz)
theorem ya {es:List Expr} {ns:List Nat} {fs:Env->Option (List D)} {id:String} {r:List V->Hp->VK->Prop} {op:List D->Option D} (hc:CallR X (.builtin id) r) (hs:OpN X.K ct ns k r op) (hg:Gl X x) (hm:X.mg x=none) (hv:bootBuiltins x=some (.builtin id)) (ha:XA X ct ms (e::es) ns fs)
  (hn:x≠"__name__":=by decide) (hdb:(x == ("__debug__":Str))=false:=by decide) (he:starEach (e::es) X.env=(false,eval e X.env)::starEach es X.env:=by rfl) (hpl:(backTo pos (starEach es X.env)).any (·.1)=false:=by rfl) :
  XE X ct ms k (.Call (.Name x pp) (e::es) [] pos) (eN op fs):=by
 obtain ⟨t,pt,_,qt⟩:=ha
 refine ⟨_,zbv hc hg hm hv pt hn hdb he hpl,fun F0 B F H ρ σ r Q rs e w=>?_⟩
 obtain ⟨ds,h1,h2⟩:=bind1 e
 exact qt F0 B F H ρ σ ds _ rs h1 fun vs F1 H1 x1 l=>hs F1 H1 vs ds r Q x1.fh l h2 fun v F2 H2 x2 l2=>w v F2 H2 (x1.trans x2) l2
theorem zh8 {es:List Expr} {ns:List Nat} {fs:Env->Option (List D)} {id:String} {r:List V->Hp->VK->Prop} {op:List D->Option D} (hc:CallR X (.builtin id) r) (hs:OpNO X.K ct ns k r op) (hg:Gl X x) (hm:X.mg x=none) (hv:bootBuiltins x=some (.builtin id)) (ha:XA X ct ms (e::es) ns fs)
  (hn:x≠"__name__":=by decide) (hdb:(x == ("__debug__":Str))=false:=by decide) (he:starEach (e::es) X.env=(false,eval e X.env)::starEach es X.env:=by rfl) (hpl:(backTo pos (starEach es X.env)).any (·.1)=false:=by rfl) :
  XO X ct ms k (.Call (.Name x pp) (e::es) [] pos) (eN op fs):=by
 obtain ⟨t,pt,_,qt⟩:=ha
 refine ⟨_,zbv hc hg hm hv pt hn hdb he hpl,fun F0 B F H ρ σ r Q rs e w=>?_⟩
 obtain ⟨ds,h1,h2⟩:=bind1 e
 exact qt F0 B F H ρ σ ds _ rs h1 fun vs F1 H1 x1 l=>hs F1 H1 vs ds r Q x1.fh l h2 fun v F2 H2 fp x2 l2 nd hf=>w v F2 H2 fp (x1.trans x2) l2 nd fun z hz=>x1.hh.free (hf z hz)
theorem zkv {es:List Expr} {ns:List Nat} {fs:Env->Option (List D)} {id:String} {r:List V->Hp->VK->Prop} {op:List D->Option D} (hc:CallR X (.type id) r) (hs:OpN X.K ct ns k r op) (hg:Gl X x) (hm:X.mg x=none) (hv:bootBuiltins x=some (.type id)) (ha:XA X ct ms (e::es) ns fs)
  (hn:x≠"__name__":=by decide) (hdb:(x == ("__debug__":Str))=false:=by decide) (he:starEach (e::es) X.env=(false,eval e X.env)::starEach es X.env:=by rfl) (hpl:(backTo pos (starEach es X.env)).any (·.1)=false:=by rfl) :
  XE X ct ms k (.Call (.Name x pp) (e::es) [] pos) (eN op fs):=by
 obtain ⟨t,pt,_,qt⟩:=ha
 refine ⟨_,zdc hc hg hm hv pt hn hdb he hpl,fun F0 B F H ρ σ r Q rs e w=>?_⟩
 obtain ⟨ds,h1,h2⟩:=bind1 e
 exact qt F0 B F H ρ σ ds _ rs h1 fun vs F1 H1 x1 l=>hs F1 H1 vs ds r Q x1.fh l h2 fun v F2 H2 x2 l2=>w v F2 H2 (x1.trans x2) l2
theorem zb3 {es:List Expr} {ns:List Nat} {fs:Env->Option (List D)} {id:String} {r:List V->Hp->VK->Prop} {op:List D->Option D} (hc:CallR X (.type id) r) (hs:OpNO X.K ct ns k r op) (hg:Gl X x) (hm:X.mg x=none) (hv:bootBuiltins x=some (.type id)) (ha:XA X ct ms (e::es) ns fs)
  (hn:x≠"__name__":=by decide) (hdb:(x == ("__debug__":Str))=false:=by decide) (he:starEach (e::es) X.env=(false,eval e X.env)::starEach es X.env:=by rfl) (hpl:(backTo pos (starEach es X.env)).any (·.1)=false:=by rfl) :
  XO X ct ms k (.Call (.Name x pp) (e::es) [] pos) (eN op fs):=by
 obtain ⟨t,pt,_,qt⟩:=ha
 refine ⟨_,zdc hc hg hm hv pt hn hdb he hpl,fun F0 B F H ρ σ r Q rs e w=>?_⟩
 obtain ⟨ds,h1,h2⟩:=bind1 e
 exact qt F0 B F H ρ σ ds _ rs h1 fun vs F1 H1 x1 l=>hs F1 H1 vs ds r Q x1.fh l h2 fun v F2 H2 fp x2 l2 nd hf=>w v F2 H2 fp (x1.trans x2) l2 nd fun z hz=>x1.hh.free (hf z hz)
def fldD (cs:List Nat) (x:Str):D->Option D
 | .obj c ns ds=>if cs.contains c=true then (ns.zip ds).lookup x else none
 | _=>none
theorem zef {R:D->V->Prop} {x:Str} {d:D}:∀{ns:List Str} {ds:List D} {vs:List V},Pr R ds vs->(ns.zip ds).lookup x=some d->∃v,(ns.zip vs).lookup x=some v/\R d v
 | [],_,_,_,e=>by simp at e
 | _::_,_,_,.nil,e=>by simp at e
 | y::ns,_,_,.cons h t,e=>by
  rw [List.zip_cons_cons,List.lookup_cons] at e
  rw [List.zip_cons_cons,List.lookup_cons]
  cases q:x == y with
  | true=>rw [q] at e; cases e; exact ⟨_,rfl,h⟩
  | false=>rw [q] at e; exact zef t e
theorem zh9 {vs:List V} {x:Str}:∀{ns:List Str} {vs:List V},ns.contains x=false->(ns.zip vs).lookup x=none
 | [],_,_=>by simp
 | _::_,[],_=>by simp
 | y::ns,_::vs,h=>by
  rw [List.contains_cons,Bool.or_eq_false_iff] at h
  rw [List.zip_cons_cons,List.lookup_cons,h.1]
  exact zh9 (vs:=vs) h.2
theorem xw {x:Str} {cs:List Nat} (he:XE X ct ms n e f) (hc:∀c∈cs,Cls X.K (ct c)/\NoAttr X.K (ct c) x) (hb:attributeBase e x X.env (eval e X.env)=eval e X.env):XE X ct ms (n-1) (.Attribute e x pos) (e1 (fldD cs x) f):=by
 obtain ⟨t,pt,qt⟩:=he
 refine ⟨_,zrx pt hb,fun F0 B F H ρ σ r Q rs e w=>?_⟩
 obtain ⟨o,h1,h2⟩:=bind1 e
 refine qt F0 B F H ρ σ o _ rs h1 fun v F1 H1 x1 l=>?_
 cases o with
 | obj c ns ds =>
  obtain ⟨a,dx,vs,rfl,ha,hl,hds⟩:=l.obj x1.fh
  unfold fldD at h2
  dsimp only at h2
  by_cases hcs:cs.contains c=true
  ·rw [if_pos hcs] at h2
   obtain ⟨u,hu,du⟩:=zef hds h2
   have hh:=hc c (by simpa using hcs)
   exact ⟨a,_,dx,_,u,rfl,ha,hh.1,hh.2,hu,w u F1 H1 x1 du⟩
  ·rw [if_neg hcs] at h2; cases h2
 | _=>cases h2
def metD (c0:Nat) (m:Str) (mf:List D->Option D) (o:D) (ds:List D):Option D:=match o with
 | .obj c ns _=>if c=c0/\ns.contains m=false then mf (o::ds) else none
 | _=>none
theorem zpz {o:Expr} {x:Str} {apos:Pos} {pl:Sem Bool} {es:List Expr} {ns nd:List Nat} {fs:Env->Option (List D)} {dvs:List V} {dds:List D} {dsv:List Value} {c0:Nat} (ho:XE X ct ms n o f) (c:Cls X.K (ct c0)) (hm:Meth X.K (ct c0) x fa) (Fn:FnOk X.prog X.w X.K X.mg X.base CX0 kk fa fd ps (LSp X.K ct (n::(ns++nd)) rk mf)) (hr:Room kk X.A)
  (hb:Binds X.K fd ps dsv) (hd:Vals dvs dsv) (hdd:∀F G,AlL X.K ct F G nd dds dvs) (ha:XA X ct ms (e::es) ns fs)
  (hst:starEach (e::es) X.env=(false,eval e X.env)::starEach es X.env:=by rfl) (hpl:(backTo pos (starEach es X.env)).any (·.1)=false:=by rfl)
  (ht:eval (.Call (.Attribute o x apos) (e::es) [] pos) X.env=(do
   let ov ← eval o X.env
   standAt apos.atName
   let (f,first) ← holding [ov] (getMethod ov x pl)
   callWith pos f first (backTo pos (starEach (e::es) X.env)) (backToKw pos (keywordEach [] X.env))):=by rfl) :
  XO X ct ms rk (.Call (.Attribute o x apos) (e::es) [] pos) (fun ρ=>(f ρ).bind fun o=>(fs ρ).bind fun ds=>metD c0 x mf o (ds++dds)):=by
 obtain ⟨u,pu,qu⟩:=ho
 obtain ⟨t,pt,_,qt⟩:=ha
 refine ⟨_,zpi pu c hm Fn hr hb hd pass0 pt hst hpl ht,fun F0 B F H ρ σ r Q rs e w=>?_⟩
 obtain ⟨o,ds,h1,h2,h3⟩:=bind2 e
 refine qu F0 B F H ρ σ o _ rs h1 fun v F1 H1 x1 l=>?_
 cases o with
 | obj c1 ns' ds' =>
  unfold metD at h3
  dsimp only at h3
  split at h3
  ·rename_i hc
   obtain ⟨rfl,hns⟩:=hc
   obtain ⟨a,dx,vs,rfl,ha,hl,hds⟩:=l.obj x1.fh
   refine ⟨a,dx,_,rfl,ha,zh9 (vs:=vs) hns,?_⟩
   refine qt F0 B F1 H1 ρ σ ds _ (rs.ext x1) h2 fun us F2 H2 x2 l2=>⟨F2,_,r,x2.fh,.cons (l.mono x2.ff x2.hh) (AlL.append (hdd F2 H2) l2),h3,fun v F3 H3 fp x3 o nd hf=>?_⟩
   exact w v F3 H3 fp ((x1.trans x2).trans x3) o nd fun z hz=>(x1.trans x2).hh.free (hf z hz)
  ·cases h3
 | _=>cases h3
end
end L3
namespace L3
open PySem PySem.Spec L2
open PyProof.Rows hiding St
inductive Out where
 | nx (ρ:Env) | rt (d:D) | bk (ρ:Env) | ct (ρ:Env)
abbrev SF:=Env->Option Out
def OutOk (K:PySem.W.Frag) (cl:Nat->Addr) (F0 B:Hp) (ms:List Mo) (rk:Nat) (E:Ends):Out->Prop
 | .nx ρ=>∀σ F H,RS K cl F0 B ms F H ρ σ->E.nx σ H
 | .bk ρ=>∀σ F H,RS K cl F0 B ms F H ρ σ->E.bk σ H
 | .ct ρ=>∀σ F H,RS K cl F0 B ms F H ρ σ->E.ct σ H
 | .rt d=>∀v F H fp,Same F0 F->Same B H->Same F H->(∀a o,B a=some o->F0 a=none->F a=none)->Ow K cl F H rk d v fp->fp.Nodup->(∀a∈fp,B a=none)->E.rt v H
section
variable (X:Cx) (ct:Nat->Addr) (ms:List Mo) (rk:Nat)
def XS (st:Stmt) (f:SF):Prop:=∃t,PS X st t/\∀(F0 B F H:Hp) (ρ:Env) (σ:St) (o:Out) (E:Ends),RS X.K ct F0 B ms F H ρ σ->f ρ=some o->OutOk X.K ct F0 B ms rk E o->t E σ H
def XSs (st:List Stmt) (f:SF):Prop:=∃t,PSs X st t/\∀(F0 B F H:Hp) (ρ:Env) (σ:St) (o:Out) (E:Ends),RS X.K ct F0 B ms F H ρ σ->f ρ=some o->OutOk X.K ct F0 B ms rk E o->t E σ H
end
def sSkip:SF:=fun ρ=>some (.nx ρ)
def sSeq (f g:SF):SF:=fun ρ=>(f ρ).bind fun o=>match o with
 | .nx ρ'=>g ρ'
 | o=>some o
def sIf (c:BF) (f g:SF):SF:=fun ρ=>(c ρ).bind fun b=>if b=true then f ρ else g ρ
def sSet (i:Nat) (f:EF):SF:=fun ρ=>(f ρ).bind fun d=>some (.nx (ρ.set i (some d)))
def sRet (f:EF):SF:=fun ρ=>(f ρ).bind fun d=>some (.rt d)
def sRetN:SF:=fun _=>some (.rt .non)
def sDrop (f:EF):SF:=fun ρ=>(f ρ).bind fun _=>some (.nx ρ)
def sNever:SF:=fun _=>none
def FUEL:Nat:=2 ^ 9000
def whileD (c:BF) (b:SF):Nat->SF
 | 0,_=>none
 | n+1,ρ=>(c ρ).bind fun t=>if t=true then (b ρ).bind fun o=>match o with
   | .nx ρ'=>whileD c b n ρ'
   | .ct ρ'=>whileD c b n ρ'
   | .bk ρ'=>some (.nx ρ')
   | .rt d=>some (.rt d)
  else some (.nx ρ)
def sWhile (c:BF) (b:SF):SF:=whileD c b FUEL
def forD (g:D->Env->Option Env) (b:SF):List D->SF
 | [],ρ=>some (.nx ρ)
 | d::ds,ρ=>(g d ρ).bind fun ρ1=>(b ρ1).bind fun o=>match o with
   | .nx ρ'=>forD g b ds ρ'
   | .ct ρ'=>forD g b ds ρ'
   | .bk ρ'=>some (.nx ρ')
   | .rt d=>some (.rt d)
def sFor (f:Env->Option (List D)) (g:D->Env->Option Env) (b:SF):SF:=fun ρ=>(f ρ).bind fun ds=>forD g b ds ρ
section
variable {X:Cx} {ct:Nat->Addr} {ms:List Mo} {rk n m k:Nat} {st:Stmt} {rest:List Stmt} {a b c e:Expr} {f g h:EF} {p q:BF} {u w:SF} {pos:Pos}
theorem yo:XSs X ct ms rk [] sSkip:=⟨_,zo4,fun F0 B F H ρ σ o E rs e w=>by cases e; exact w σ F H rs⟩
theorem ze (h1:XS X ct ms rk st u) (h2:XSs X ct ms rk rest w):XSs X ct ms rk (st::rest) (sSeq u w):=by
 obtain ⟨t,pt,qt⟩:=h1
 obtain ⟨t2,pt2,qt2⟩:=h2
 refine ⟨_,zmh pt pt2,fun F0 B F H ρ σ o E rs e z=>?_⟩
 obtain ⟨o1,e1,e2⟩:=bind1 e
 refine qt F0 B F H ρ σ o1 _ rs e1 ?_
 cases o1 with
 | nx ρ'=>exact fun σ' F' H' rs'=>qt2 F0 B F' H' ρ' σ' o E rs' e2 z
 | rt d=>cases e2; exact z
 | bk ρ'=>cases e2; exact z
 | ct ρ'=>cases e2; exact z
theorem zj (h1:XS X ct ms rk st u):XSs X ct ms rk [st] u:=by
 obtain ⟨t,pt,qt⟩:=h1
 exact ⟨_,zo5 pt,qt⟩
theorem ze4:XS X ct ms rk st sNever:=⟨_,zmi,fun F0 B F H ρ σ o E rs e w=>by cases e⟩
theorem yj (he:XO X ct ms rk e f):XS X ct ms rk (.Return (some e) pos) (sRet f):=by
 obtain ⟨t,pt,qt⟩:=he
 refine ⟨_,zod pt,fun F0 B F H ρ σ o E rs e w=>?_⟩
 obtain ⟨d,h1,h2⟩:=bind1 e
 cases h2
 refine qt F0 B F H ρ σ d _ rs h1 fun v F' H' fp x l nd hf=>?_
 have r:=rs.ext x
 exact w v F' H' fp r.f0 r.bh r.fh r.nf l nd fun z hz=>rs.bh.free (hf z hz)
theorem vn {st1 st2:List Stmt} (hc:XT X ct ms c p) (h1:XSs X ct ms rk st1 u) (h2:XSs X ct ms rk st2 w):XS X ct ms rk (.If c st1 st2 pos) (sIf p u w):=by
 obtain ⟨t,pt,qt⟩:=hc
 obtain ⟨t1,pt1,qt1⟩:=h1
 obtain ⟨t2,pt2,qt2⟩:=h2
 refine ⟨_,zte pt pt1 pt2,fun F0 B F H ρ σ o E rs e z=>?_⟩
 obtain ⟨x,h1,h2⟩:=bind1 e
 refine qt F0 B F H ρ σ x _ rs h1 fun F1 H1 x1=>?_
 cases x with
 | true=>rw [if_pos rfl] at h2 ⊢; exact qt1 F0 B F1 H1 ρ σ o E (rs.ext x1) h2 z
 | false=>rw [if_neg Bool.false_ne_true] at h2 ⊢; exact qt2 F0 B F1 H1 ρ σ o E (rs.ext x1) h2 z
theorem RS.put {K:PySem.W.Frag} {F0 B F H F' H':Hp} {ρ:Env} {σ:St} {i:Nat} (rs:RS K ct F0 B ms F H ρ σ) (hm:ms[i]?=some (.ow k)) :
  ∃f1 fr:List Addr,f1.Nodup/\(∀a∈f1,B a=none)/\(∀a∈f1,a∉fr)/\(∀d,ρ[i]?=some (some d)->∃v,σ[i]?=some (some v)/\Ow K ct F H k d v f1)/\(∀a∈fr,F a=none/\∃o,H a=some o) /\
   ∀(F' H':Hp) (d':D) (v':V) (f':List Addr),Same F F'->Same B H'->Same F' H'->(∀a o,B a=some o->F0 a=none->F' a=none)->(∀a∈fr,H' a=H a/\F' a=none)->Ow K ct F' H' k d' v' f'->f'.Nodup->(∀a∈f',a∉fr)->(∀a∈f',B a=none) ->
    RS K ct F0 B ms F' H' (ρ.set i (some d')) (σ.set i (some v')):=by
 obtain ⟨fp,sl,nd,hb⟩:=rs.sl
 obtain ⟨f1,fr,i1,i2,i3,i4,i5⟩:=sl.put hm
 obtain ⟨n1,n2,n3⟩:=i3 nd
 refine ⟨f1,fr,n1,fun a z=>hb a (i1 a z),n3,i4,fun a z=>sl.cells a (i2 a z),fun F' H' d' v' f' s1 s2 s3 s4 kf o ndf dj hbf=>?_⟩
 obtain ⟨fp',q1,q2,q3⟩:=i5 F' H' d' v' f' s1 kf o
 exact ⟨rs.f0.trans s1,s2,s3,s4,fp',q1,q3 ndf n2 dj,fun a z=>(q2 a z).elim (hbf a) fun z=>hb a (i2 a z)⟩
theorem RS.set {K:PySem.W.Frag} {F0 B F H F' H':Hp} {ρ:Env} {σ:St} {i:Nat} {d:D} {v:V} {fp:List Addr} (rs:RS K ct F0 B ms F H ρ σ) (hm:ms[i]?=some (.ow k)) (x:Ext F H F' H') (o:Ow K ct F' H' k d v fp) (nd:fp.Nodup) (hf:∀a∈fp,H a=none) :
  RS K ct F0 B ms F' H' (ρ.set i (some d)) (σ.set i (some v)):=by
 have r:=rs.ext x
 obtain ⟨f1,fr,n1,b1,n3,i4,cf,put⟩:=rs.put (F':=F') (H':=H') hm
 refine put F' H' d v fp x.ff r.bh x.fh r.nf (fun a z=>?_) o nd (fun a z zb=>?_) fun a z=>rs.bh.free (hf a z)
 ·obtain ⟨hn,o,ho⟩:=cf a z
  exact ⟨(x.hh _ _ ho).trans ho.symm,x.nf a o ho hn⟩
 ·obtain ⟨hn,o,ho⟩:=cf a zb
  rw [hf a z] at ho
  cases ho
theorem zx {i:Nat} {x:Str} {pos':Pos} (hm:ms[i]?=some (.ow k)) (hN:X.N.Nodup) (hi:X.N[i]?=some x) (hx:Loc X.env.scope x) (he:XO X ct ms k e f) (hs:swapsWith e (some (.Name x pos')) pos.line X.env=pure false:=by rfl)
  (hf:X.fn x=true\/X.env.scope.names.lookup x=some .local:=by first | exact .inl rfl | exact .inr rfl | assumption):XS X ct ms rk (.Assign [.Name x pos'] e pos) (sSet i f):=by
 obtain ⟨t,pt,qt⟩:=he
 refine ⟨_,zrp hN hi hx pt hs hf,fun F0 B F H ρ σ o E rs e w=>?_⟩
 obtain ⟨d,h1,h2⟩:=bind1 e
 cases h2
 exact qt F0 B F H ρ σ d _ rs h1 fun v F' H' fp x l nd hf=>w _ F' H' (rs.set hm x l nd hf)
theorem zb4 (hc:XT X ct ms c p) (hb:XSs X ct ms rk rest u) (hp:PassesOwn (model X.prog X.w) X.A X.env X.xe):XS X ct ms rk (.While c rest [] pos) (sWhile p u):=by
 obtain ⟨t,pt,qt⟩:=hc
 obtain ⟨t1,pt1,qt1⟩:=hb
 refine ⟨_,zmj hp pt pt1,fun F0 B F H ρ σ o E rs e z=>?_⟩
 refine ⟨fun m σ H=>∃F ρ,RS X.K ct F0 B ms F H ρ σ/\whileD p u m ρ=some o,⟨FUEL,F,ρ,rs,e⟩,?_⟩
 rintro m σ H ⟨F,ρ,rs,e⟩
 cases m with
 | zero=>cases e
 | succ m =>
  obtain ⟨x,h1,h2⟩:=bind1 e
  refine qt F0 B F H ρ σ x _ rs h1 fun F1 H1 x1=>?_
  cases x with
  | true =>
   rw [if_pos rfl] at h2 ⊢
   obtain ⟨o1,h3,h4⟩:=bind1 h2
   refine ⟨fun σ H=>∃F ρ,RS X.K ct F0 B ms F H ρ σ/\whileD p u m ρ=some o,fun σ' H' h=>⟨m,Nat.lt_succ_self m,h⟩,?_⟩
   refine qt1 F0 B F1 H1 ρ σ o1 _ (rs.ext x1) h3 ?_
   cases o1 with
   | nx ρ'=>exact fun σ' F' H' r=>⟨F',ρ',r,h4⟩
   | ct ρ'=>exact fun σ' F' H' r=>⟨F',ρ',r,h4⟩
   | bk ρ'=>cases h4; exact z
   | rt d=>cases h4; exact z
  | false =>
   rw [if_neg Bool.false_ne_true] at h2 ⊢
   cases h2
   exact z σ F1 H1 (rs.ext x1)
theorem RS.re {K:PySem.W.Frag} {F0 B F H:Hp} {ρ:Env} {σ:St} (r:RS K ct F0 B ms F H ρ σ):RS K ct F B ms F H ρ σ:=⟨.refl _,r.bh,r.fh,fun _ _ _ h=>h,r.sl⟩
theorem RS.back {K:PySem.W.Frag} {F0 B F H F' H':Hp} {ρ ρ':Env} {σ σ':St} (r:RS K ct F0 B ms F H ρ σ) (q:RS K ct F B ms F' H' ρ' σ'):RS K ct F0 B ms F' H' ρ' σ' :=
 ⟨r.f0.trans q.f0,q.bh,q.fh,fun a o h n=>q.nf a o h (r.nf a o h n),q.sl⟩
theorem OutOk.re {K:PySem.W.Frag} {F0 B F H:Hp} {ρ:Env} {σ:St} {E:Ends} {o:Out} (r:RS K ct F0 B ms F H ρ σ) (z:OutOk K ct F0 B ms rk E o):OutOk K ct F B ms rk E o:=by
 cases o with
 | nx ρ=>exact fun σ' F' H' q=>z σ' F' H' (r.back q)
 | bk ρ=>exact fun σ' F' H' q=>z σ' F' H' (r.back q)
 | ct ρ=>exact fun σ' F' H' q=>z σ' F' H' (r.back q)
 | rt d=>exact fun v F' H' fp s1 s2 s3 s4=>z v F' H' fp (r.f0.trans s1) s2 s3 fun a o h n=>s4 a o h (r.nf a o h n)
def ItOk (K:PySem.W.Frag) (ct:Nat->Addr) (F B:Hp) (n:Nat) (J:It) (ds:List D):Prop :=
 ∀(i:Nat) (F' H':Hp),Same F F'->Same B H'->Same F' H'->(∀d,ds[i]?=some d->J.go i H'/\∀x H2,J.yld i H' x H2->∃F2,Ext F' H' F2 H2/\Al K ct F2 B n d x)/\(ds.length<=i->J.stop i H')
def XI (X:Cx) (ct:Nat->Addr) (ms:List Mo) (n:Nat) (tg iter:Expr) (f:Env->Option (List D)):Prop:=∃wi,PI X tg iter wi/\∀(F0 B F H:Hp) (ρ:Env) (σ:St) (ds:List D) (R:It->Hp->Prop),RS X.K ct F0 B ms F H ρ σ->f ρ=some ds ->
 (∀J F' H',Ext F H F' H'->ItOk X.K ct F' B n J ds->R J H')->wi σ H R
def XIc (X:Cx) (ct:Nat->Addr) (ms:List Mo) (n:Nat) (tg iter:Expr) (f:Env->Option (List D)):Prop:=∃wi,PI X tg iter wi/\∀(F0 B F H:Hp) (ρ:Env) (σ:St) (ds:List D) (R:It->Hp->Prop),RS X.K ct F0 B ms F H ρ σ->f ρ=some ds ->
 (∀J F' H',Ext F H F' H'->ItOk X.K ct F' H' n J ds->R J H')->wi σ H R
def XG (X:Cx) (ct:Nat->Addr) (ms:List Mo) (n:Nat) (tg:Expr) (g:D->Env->Option Env):Prop:=∃t,PG X tg t/\∀(F0 B F H:Hp) (ρ ρ':Env) (σ:St) (d:D) (v:V) (Q:St->Hp->Prop),RS X.K ct F0 B ms F H ρ σ->Al X.K ct F B n d v->g d ρ=some ρ' ->
 (∀σ',RS X.K ct F0 B ms F H ρ' σ'->Q σ' H)->t v σ H Q
theorem jx {tg iter:Expr} {fi:Env->Option (List D)} {gg:D->Env->Option Env} (hi:XI X ct ms n tg iter fi) (hg:XG X ct ms n tg gg) (hb:XSs X ct ms rk rest u) (hp:PassesOwn (model X.prog X.w) X.A X.env X.xe) (hc:X.calm=true)
  (hs:∀x,foldedSetIterable iter X.env x=pure x:=by intro _; rfl):XS X ct ms rk (.For tg iter rest [] pos) (sFor fi gg u):=by
 obtain ⟨wi,pi,qi⟩:=hi
 obtain ⟨tg',pg,qg⟩:=hg
 obtain ⟨t1,pt1,qt1⟩:=hb
 refine ⟨_,zrt hp hc pi pg pt1 hs,fun F0 B F H ρ σ o E rs e z=>?_⟩
 obtain ⟨ds,h1,h2⟩:=bind1 e
 refine qi F0 B F H ρ σ ds _ rs h1 fun J F1 H1 x1 ok=>?_
 refine ⟨fun i m σ H=>m=ds.length-i/\i<=ds.length/\∃F ρ,Same F1 F/\RS X.K ct F0 B ms F H ρ σ/\forD gg u (ds.drop i) ρ=some o,⟨ds.length,rfl,Nat.zero_le _,F1,ρ,.refl _,rs.ext x1,h2⟩,?_⟩
 rintro i m σ H ⟨rfl,hil,F,ρ,s1,rs,e⟩
 obtain ⟨k1,k2⟩:=ok i F H s1 rs.bh rs.fh
 by_cases hlt:i<ds.length
 ·right
  have hd:ds[i]?=some ds[i]:=by simp [hlt]
  obtain ⟨go,yl⟩:=k1 _ hd
  rw [List.drop_eq_getElem_cons hlt] at e
  obtain ⟨ρ1,h3,h4⟩:=bind1 e
  obtain ⟨o1,h5,h6⟩:=bind1 h4
  refine ⟨go,fun σ H=>i+1<=ds.length/\∃F ρ,Same F1 F/\RS X.K ct F0 B ms F H ρ σ/\forD gg u (ds.drop (i+1)) ρ=some o,fun σ' H' h=>⟨ds.length-(i+1),by omega,rfl,h⟩,fun x H2 y=>?_⟩
  obtain ⟨F2,x2,l⟩:=yl x H2 y
  refine qg F0 B F2 H2 ρ ρ1 σ _ x _ (rs.ext x2) l h3 fun σ' r=>?_
  have s2:=s1.trans x2.ff
  refine qt1 F2 B F2 H2 ρ1 σ' o1 _ r.re h5 ?_
  cases o1 with
  | nx ρ'=>exact fun σ' F' H' q=>⟨hlt,F',ρ',s2.trans q.f0,r.back q,h6⟩
  | ct ρ'=>exact fun σ' F' H' q=>⟨hlt,F',ρ',s2.trans q.f0,r.back q,h6⟩
  | bk ρ'=>cases h6; exact fun σ' F' H' q=>z σ' F' H' (r.back q)
  | rt d=>cases h6; exact OutOk.re (o:=.rt d) r z
 ·left
  refine ⟨k2 (by omega),?_⟩
  have:ds.drop i=[]:=List.drop_eq_nil_of_le (by omega)
  rw [this] at e
  cases e
  exact z σ F H rs
def gV (i:Nat):D->Env->Option Env:=fun d ρ=>some (ρ.set i (some d))
theorem y2 {i:Nat} {x:Str} (hm:ms[i]?=some (.ow 0)) (hN:X.N.Nodup) (hi:X.N[i]?=some x) (hx:Loc X.env.scope x)
  (hf:X.fn x=true\/X.env.scope.names.lookup x=some .local:=by first | exact .inl rfl | exact .inr rfl | assumption):XG X ct ms 0 (.Name x pos) (gV i):=by
 refine ⟨_,zj1 hN hi hx hf,fun F0 B F H ρ ρ' σ d v Q rs l e w=>?_⟩
 cases e
 exact w _ (rs.set hm (.refl rs.fh) (Ow.zero l) List.nodup_nil fun a z=>(by cases z))
def XGs (X:Cx) (ct:Nat->Addr) (ms:List Mo) (n:Nat) (tgs:List Expr) (g:List D->Env->Option Env):Prop:=∃t,PGs X tgs t/\(∀ds ρ ρ',g ds ρ=some ρ'->ds.length=tgs.length)/\∀(F0 B F H:Hp) (ρ ρ':Env) (σ:St) (ds:List D) (vs:List V) (Q:St->Hp->Prop),RS X.K ct F0 B ms F H ρ σ->Pr (Al X.K ct F B n) ds vs->g ds ρ=some ρ' ->
 (∀σ',RS X.K ct F0 B ms F H ρ' σ'->Q σ' H)->t vs σ H Q
def gsNil:List D->Env->Option Env:=fun ds ρ=>match ds with
 | []=>some ρ
 | _=>none
def gsCons (g:D->Env->Option Env) (gs:List D->Env->Option Env):List D->Env->Option Env:=fun ds ρ=>match ds with
 | d::ds=>(g d ρ).bind fun ρ'=>gs ds ρ'
 | []=>none
theorem zch:XGs X ct ms n [] gsNil:=by
 refine ⟨_,zj2,fun ds ρ ρ' e=>?_,fun F0 B F H ρ ρ' σ ds vs Q rs l e w=>?_⟩
 ·cases ds with
  | nil=>rfl
  | cons d ds=>cases e
 ·cases l with
  | nil=>cases e; exact ⟨rfl,w σ rs⟩
  | cons _ _=>cases e
theorem xy {tg:Expr} {tgs:List Expr} {gg:D->Env->Option Env} {gs:List D->Env->Option Env} (h1:XG X ct ms n tg gg) (h2:XGs X ct ms n tgs gs)
  (hs:(assignEach (tg::tgs) X.env).map (·.2)=assign tg X.env::(assignEach tgs X.env).map (·.2):=by rfl):XGs X ct ms n (tg::tgs) (gsCons gg gs):=by
 obtain ⟨t,pt,qt⟩:=h1
 obtain ⟨t2,pt2,lt2,qt2⟩:=h2
 refine ⟨_,zh1 pt pt2 hs,fun ds ρ ρ' e=>?_,fun F0 B F H ρ ρ' σ ds vs Q rs l e w=>?_⟩
 ·cases ds with
  | nil=>cases e
  | cons d ds =>
   obtain ⟨ρ1,h3,h4⟩:=bind1 e
   rw [List.length_cons,List.length_cons,lt2 _ _ _ h4]
 ·cases l with
  | nil=>cases e
  | cons h t =>
   obtain ⟨ρ1,h3,h4⟩:=bind1 e
   exact ⟨_,_,rfl,qt F0 B F H ρ ρ1 σ _ _ _ rs h h3 fun σ1 r1=>qt2 F0 B F H ρ1 ρ' σ1 _ _ _ r1 t h4 w⟩
def gT (gs:List D->Env->Option Env):D->Env->Option Env:=fun d ρ=>match d with
 | .tup ds=>gs ds ρ
 | _=>none
theorem zeg {tgs:List Expr} {j:Nat} {gs:List D->Env->Option Env} (hc:X.calm=true) (h:XGs X ct ms (n-1) tgs gs) (hl:(assignEach tgs X.env).length=tgs.length:=by rfl) (hst:(assignEach tgs X.env).findIdx? (·.1)=none:=by rfl):XG X ct ms n (.Tuple tgs j pos) (gT gs):=by
 obtain ⟨t,pt,lt,qt⟩:=h
 refine ⟨_,zoe (n:=tgs.length) hc pt hl hst,fun F0 B F H ρ ρ' σ d v Q rs l e w=>?_⟩
 cases d with
 | tup ds =>
  have l':Al X.K ct F H n (.tup ds) v:=l.mono (.refl _) rs.bh
  have:∃a vs,v=.ref a/\SqT X.K H a vs/\Pr (Al X.K ct F B (n-1)) ds vs:=by
   cases n with
   | zero =>
    have l:Dt X.K ct F (.tup ds) v:=l
    cases l with
    | tup q t=>exact ⟨_,_,rfl,SqT.of (rs.fh _ _ q),t.pr⟩
   | succ n =>
    rcases l with l | l
    ·cases l with
     | tup q t=>exact ⟨_,_,rfl,SqT.of (rs.fh _ _ q),t.pr.mono fun _ _=>Al.of⟩
    ·cases l with
     | tup q t=>exact ⟨_,_,rfl,SqT.of (rs.fh _ _ q),t⟩
  obtain ⟨a,vs,rfl,ha,hp⟩:=this
  exact ⟨a,vs,rfl,ha,hp.length.symm.trans (lt _ _ _ e),qt F0 B F H ρ ρ' σ ds vs Q rs hp e w⟩
 | _=>cases e
def startD (N:List Str) (ds:List D):Env:=ds.map some++List.replicate (N.length-ds.length) none
def mOf (N:List Str) (b:SF) (ds:List D):Option D:=(b (startD N ds)).bind fun o=>match o with
 | .rt d=>some d
 | .nx _=>some .non
 | _=>none
theorem SL.start {K:PySem.W.Frag} {F B H:Hp}:∀{pm:List Nat} {ds:List D} {vs:List V} {ms:List Mo} (j:Nat),AlL K ct F B pm ds vs->(∀(i n:Nat),pm[i]?=some n->ms[i]?=some (Mo.al n)\/(n=0/\ms[i]?=some (Mo.ow 0)))->ms.length=pm.length+j ->
  SL K ct F B H ms (ds.map some++List.replicate j none) (vs.map some++List.replicate j none) []
 | _,_,_,ms,j,.nil,_,hl=>by
  have:∀(j:Nat) (ms:List Mo),ms.length=j->SL K ct F B H ms (List.replicate j none) (List.replicate j none) []:=by
   intro j
   induction j with
   | zero=>intro ms h; cases ms with
    | nil=>exact .nil
    | cons _ _=>simp at h
   | succ j ih=>intro ms h; cases ms with
    | nil=>simp at h
    | cons m ms=>exact .no (ih ms (by simpa using h))
  simpa using this j ms (by simpa using hl)
 | _,_,_,[],j,.cons h t,_,hl=>by simp at hl; omega
 | _,_,_,m::ms,j,.cons (n:=n) h t,hm,hl=>by
  have ih:=SL.start (ms:=ms) (H:=H) j t (fun i n e=>by simpa using hm (i+1) n (by simpa using e)) (by simp at hl; omega)
  rcases hm 0 n rfl with e | ⟨rfl,e⟩
  ·simp at e; subst e; exact .al h ih
  ·simp at e; subst e; exact SL.ow (f:=[]) (Ow.zero h) ih
structure Fun2 (K:PySem.W.Frag) (x qual:Str) (st:Stmt) (f:Addr) (fd:FuncData):Prop where
 ex:∃(oc:Value) (od:Option Addr) (dV kV doc pm:Value) (an:Option Addr) (cdv ct:Value) (osl:Array (Option Value)),
  fd=PySem.W.fnOf x qual (defArgs st) (defBody st) (defScope st) dV kV doc pm an cdv ct/\K.lookup f=some ⟨oc,od,.func fd,osl⟩/\PySem.W.codeIn K cdv qual=true
 kp:PySem.W.keepIn K (.ref f)=true
theorem Fun2.ok {P:Program} {w:World} {K:PySem.W.Frag} {mg:Str->Option Value} {base:Heap} {x qual:Str} {st:Stmt} {f:Addr} {fd:FuncData} {N ps:List Str} {k:Nat} {sp:Sp} (F:Fun2 K x qual st f fd) (S:FnScope N ps (defScope st)) (len:∀vs H Q E,sp vs H Q E->vs.length=ps.length)
    (hbody:∀(cdv:Value) (A:Around) (outer:List PySem.Env) (s:Shared) (H:Hp) (vs:List V) (Q:VK) (E:XK),Room k (A.deeper (envOfC qual (defScope st) s.heap.objs.size f cdv))->sp vs H Q E ->
      ∃t,PSs (cxOf CX0 P w K mg base N qual (defScope st) f cdv A outer s H E).nox (defBody st) t/\t { nx:=fun _ H'=>Q .non H',rt:=Q } (L2.start N vs) H):FnOk P w K mg base CX0 (k+1) f fd ps sp:=by
  obtain ⟨oc,od,dV,kV,doc,pm,an,cdv,ct,osl,rfl,lk,hcd⟩:=F.ex
  refine zth lk hcd S len fun A outer s H vs Q E hr hsp=>?_
  obtain ⟨t,h,q⟩:=hbody cdv A outer s H vs Q E hr hsp
  exact ⟨t,h.nox,q⟩
theorem lift {P:Program} {w:World} {K:PySem.W.Frag} {mg:Str->Option Value} {base:Heap} {x qual:Str} {st:Stmt} {fa:Addr} {fd:FuncData} {N ps:List Str} {kk:Nat} {pm:List Nat} {bf:SF} (Fn:Fun2 K x qual st fa fd) (S:FnScope N ps (defScope st)) (hpm:pm.length=ps.length) (hms:ms.length=N.length) (hle:ps.length<=N.length)
  (hmo:∀(i n:Nat),pm[i]?=some n->ms[i]?=some (Mo.al n)\/(n=0/\ms[i]?=some (Mo.ow 0)))
  (body:∀(cdv:Value) (A:Around) (outer:List PySem.Env) (s:Shared) (H:Hp) (E:XK),Room kk (A.deeper (envOfC qual (defScope st) s.heap.objs.size fa cdv))->XSs (cxOf CX0 P w K mg base N qual (defScope st) fa cdv A outer s H E).nox ct ms rk (defBody st) bf) :
  FnOk P w K mg base CX0 (kk+1) fa fd ps (LSp K ct pm rk (mOf N bf)):=by
 refine Fn.ok S (LSp.len hpm) fun cdv A outer s H vs Q E hr h=>?_
 obtain ⟨F,ds,d,sF,l,hm,q⟩:=h
 obtain ⟨t,pt,qt⟩:=body cdv A outer s H E hr
 refine ⟨t,pt,?_⟩
 obtain ⟨o,h1,h2⟩:=bind1 hm
 have hvl:vs.length=pm.length:=l.length
 have hdl:ds.length=vs.length:=l.length'
 refine qt F H F H (startD N ds) (L2.start N vs) o _ ⟨.refl _,.refl _,sF,fun _ _ _ h=>h,[],?_,List.nodup_nil,fun a z=>(by cases z)⟩ h1 ?_
 ·unfold startD L2.start
  rw [hdl]
  exact SL.start _ l hmo (by omega)
 ·cases o with
  | nx ρ =>
   cases h2
   exact fun σ F' H' r=>q .non F' H' [] ⟨r.f0,r.bh,r.fh,r.nf⟩ (Ow.scal .non rfl) List.nodup_nil fun a z=>(by cases z)
  | rt d' =>
   cases h2
   exact fun v F' H' fp s1 s2 s3 s4 o nd hf=>q v F' H' fp ⟨s1,s2,s3,s4⟩ o nd hf
  | bk ρ=>cases h2
  | ct ρ=>cases h2
end
end L3
namespace L3
open PySem PySem.Spec L2
open PyProof.Rows hiding St
theorem OpR.or {X:Cx} {f:Value->Value->Sem Value} {r r':R2} (h:OpR X f r) (h':OpR X f r'):OpR X f (fun x y H Q=>r x y H Q\/r' x y H Q) :=
 fun pins s σ H x y v u Q I rx ry q=>q.elim (h pins s σ H x y v u Q I rx ry) (h' pins s σ H x y v u Q I rx ry)
section
variable {K:PySem.W.Frag} {ct:Nat->Addr} {n m k:Nat}
def i2 (g:Int->Int->D):D->D->Option D
 | .int i,.int j=>some (g i j)
 | _,_=>none
def i2c (C:Int->Int->Prop) [∀i j,Decidable (C i j)] (g:Int->Int->D):D->D->Option D
 | .int i,.int j=>if C i j then some (g i j) else none
 | _,_=>none
theorem zmx {g:Int->Int->D} {gv:Int->Int->V} (hg:∀i j F,Dt K ct F (g i j) (gv i j)):Op2 K ct n m k (rI0 gv) (i2 g):=by
 intro F H x y d1 d2 d Q s l1 l2 e w
 cases d1 with
 | int i =>
  cases d2 with
  | int j=>cases e; exact ⟨i,j,l1.int,l2.int,w _ F H (.refl s) (Al.of (hg i j F))⟩
  | _=>cases e
 | _=>cases e
theorem zia {C C':Int->Int->Prop} [∀i j,Decidable (C i j)] {g:Int->Int->D} {gv:Int->Int->V} (hC:∀i j,C i j->C' i j) (hg:∀i j F,Dt K ct F (g i j) (gv i j)):Op2 K ct n m k (rI C' gv) (i2c C g):=by
 intro F H x y d1 d2 d Q s l1 l2 e w
 cases d1 with
 | int i =>
  cases d2 with
  | int j =>
   unfold i2c at e
   dsimp only at e
   by_cases h:C i j
   ·rw [if_pos h] at e; cases e; exact ⟨i,j,l1.int,l2.int,hC i j h,w _ F H (.refl s) (Al.of (hg i j F))⟩
   ·rw [if_neg h] at e; cases e
  | _=>cases e
 | _=>cases e
def BIG:Nat:=2 ^ 9000
def HUGE:Nat:=2 ^ 100000
def subD:D->D->Option D:=i2 fun i j=>.int (i-j)
theorem zbn:Op2 K ct n m k (rI0 fun i j=>.int (i-j)) subD:=zmx fun _ _ _=>.int _
def mulOk (i j:Int):Prop:=(-18446744073709551616<i/\i<18446744073709551616)\/(-18446744073709551616<j/\j<18446744073709551616)\/(i.natAbs<HUGE/\j.natAbs<HUGE)
instance (i j:Int):Decidable (mulOk i j):=by unfold mulOk; infer_instance
def mulI:D->D->Option D:=i2c mulOk fun i j=>.int (i * j)
theorem mulOk.ok {i j:Int} (h:mulOk i j):CMulS i j:=by
 rcases h with h | h | h
 ·exact .inl (.inl ⟨by have:=h.1; omega,by have:=h.2; omega⟩)
 ·exact .inl (.inr ⟨by have:=h.1; omega,by have:=h.2; omega⟩)
 ·exact .inr h
theorem zp0:Op2 K ct n m k (rI CMulS fun i j=>.int (i * j)) mulI:=zia (fun _ _=>mulOk.ok) fun _ _ _=>.int _
def D.v:D->V
 | .bl b=>.bl b
 | .int i=>.int i
 | .str x=>.str x
 | _=>.non
theorem Dt.v {F:Hp} {d:D} {v:V} (h:Dt K ct F d v) (hs:d.sc=true):v=d.v:=by
 cases h <;> first | rfl | cases hs
theorem Al.v {F G:Hp} {d:D} {v:V} (h:Al K ct F G n d v) (hs:d.sc=true):v=d.v:=Dt.v (Al.scal (F':=F) h hs) hs
theorem D.flat {d:D} (hs:d.sc=true):flatV d.v=true:=by cases d <;> first | rfl | cases hs
theorem Pr.vs {F G:Hp}:∀{ds:List D} {vs:List V},Pr (Al K ct F G n) ds vs->ds.all D.sc=true->vs=ds.map D.v
 | _,_,.nil,_=>rfl
 | d::ds,v::vs,.cons h t,e=>by
  rw [List.all_cons,Bool.and_eq_true] at e
  rw [List.map_cons,Al.v h e.1,Pr.vs t e.2]
def fdivD:D->D->Option D
 | .int i,.int j=>if 0<j/\j<4611686018427387904 then some (.int (i / j)) else if j≠0/\j.natAbs<BIG then some (.int (i.fdiv j)) else none
 | _,_=>none
theorem vf:Op2 K ct n m k (rI (fun _ j=>j≠0/\Sz 9000 j) fun i j=>.int (i.fdiv j)) fdivD:=by
 intro F H x y d1 d2 d Q s l1 l2 e w
 cases d1 with
 | int i =>
  cases d2 with
  | int j =>
   unfold fdivD at e
   dsimp only at e
   by_cases h:0<j/\j<4611686018427387904
   ·rw [if_pos h] at e
    cases e
    refine ⟨i,j,l1.int,l2.int,⟨by omega,?_⟩,?_⟩
    ·have:Sz 62 j:=by unfold Sz; omega
     exact this.mono (by decide)
    ·show Q (.int (i.fdiv j)) H
     rw [Int.fdiv_eq_ediv_of_nonneg i (by omega)]
     exact w _ F H (.refl s) (Al.of (.int _))
   ·rw [if_neg h] at e
    by_cases h:j≠0/\j.natAbs<BIG
    ·rw [if_pos h] at e
     cases e
     exact ⟨i,j,l1.int,l2.int,h,w _ F H (.refl s) (Al.of (.int _))⟩
    ·rw [if_neg h] at e; cases e
  | _=>cases e
 | _=>cases e
def modD:D->D->Option D
 | .int i,.int j=>if 0<j then some (.int (i % j)) else if j≠0 then some (.int (i.fmod j)) else none
 | _,_=>none
theorem xl:Op2 K ct n m k (rI (fun _ j=>j≠0) fun i j=>.int (i.fmod j)) modD:=by
 intro F H x y d1 d2 d Q s l1 l2 e w
 cases d1 with
 | int i =>
  cases d2 with
  | int j =>
   unfold modD at e
   dsimp only at e
   by_cases h:0<j
   ·rw [if_pos h] at e
    cases e
    refine ⟨i,j,l1.int,l2.int,by omega,?_⟩
    show Q (.int (i.fmod j)) H
    rw [Int.fmod_eq_emod_of_nonneg i (by omega)]
    exact w _ F H (.refl s) (Al.of (.int _))
   ·rw [if_neg h] at e
    by_cases h:j≠0
    ·rw [if_pos h] at e
     cases e
     exact ⟨i,j,l1.int,l2.int,h,w _ F H (.refl s) (Al.of (.int _))⟩
    ·rw [if_neg h] at e; cases e
  | _=>cases e
 | _=>cases e
def powOk (i j:Int):Prop:=0<=j/\j<=1000000/\i.natAbs<18446744073709551616
instance (i j:Int):Decidable (powOk i j):=by unfold powOk; infer_instance
def powD:D->D->Option D:=i2c powOk fun i j=>.int (i ^ j.toNat)
theorem zkw:Op2 K ct n m k (rI CPow fun i j=>.int (i ^ j.toNat)) powD:=zia (fun _ _ h=>⟨h.1,h.2.1,by have:=h.2.2; omega⟩) fun _ _ _=>.int _
def shlD:D->D->Option D:=i2c powOk fun i j=>.int (i * 2 ^ j.toNat)
theorem zp1:Op2 K ct n m k (rI CPow fun i j=>.int (i * 2 ^ j.toNat)) shlD:=zia (fun _ _ h=>⟨h.1,h.2.1,by have:=h.2.2; omega⟩) fun _ _ _=>.int _
def shrD:D->D->Option D:=i2c (fun _ j=>0<=j) fun i j=>.int (i / 2 ^ j.toNat)
theorem zkx:Op2 K ct n m k (rI (fun _ j=>0<=j) fun i j=>.int (i / 2 ^ j.toNat)) shrD:=zia (fun _ _ h=>h) fun _ _ _=>.int _
def ltD:D->D->Option D:=i2 fun i j=>.bl (decide (i<j))
def gtD:D->D->Option D:=i2 fun i j=>.bl (decide (j<i))
def geD:D->D->Option D:=i2 fun i j=>.bl (decide (j<=i))
theorem zav:Op2 K ct n m k (rI0 fun i j=>.bl (decide (i<j))) ltD:=zmx fun _ _ _=>.bl _
theorem zeh:Op2 K ct n m k (rI0 fun i j=>.bl (decide (j<i))) gtD:=zmx fun _ _ _=>.bl _
theorem zky:Op2 K ct n m k (rI0 fun i j=>.bl (decide (j<=i))) geD:=zmx fun _ _ _=>.bl _
def rLeS:R2:=fun x y H Q=>∃i j,x=.str i/\y=.str j/\Q (.bl (!(decide (j.cps.toList<i.cps.toList)))) H
theorem zsd {X:Cx}:OpR X (compareOp .LtE) rLeS:=by
 intro pins s σ H x y v u Q I rx ry h
 obtain ⟨i,j,rfl,rfl,q⟩:=h
 obtain ⟨t,rfl⟩:=rx
 obtain ⟨t',rfl⟩:=ry
 exact PySem.P.le_str ⟨.bl _,H,I,rfl,q⟩
def leD:D->D->Option D
 | .int i,.int j=>some (.bl (decide (i<=j)))
 | .str i,.str j=>some (.bl (!(decide (j.cps.toList<i.cps.toList))))
 | _,_=>none
theorem zbo:Op2 K ct n m k (fun x y H Q=>rI0 (fun i j=>.bl (decide (i<=j))) x y H Q\/rLeS x y H Q) leD:=by
 intro F H x y d1 d2 d Q s l1 l2 e w
 cases d1 with
 | int i =>
  cases d2 with
  | int j=>cases e; exact .inl ⟨i,j,l1.int,l2.int,w _ F H (.refl s) (Al.of (.bl _))⟩
  | _=>cases e
 | str i =>
  cases d2 with
  | str j=>cases e; exact .inr ⟨i,j,l1.str,l2.str,w _ F H (.refl s) (Al.of (.bl _))⟩
  | _=>cases e
 | _=>cases e
theorem zdg {X:Cx}:OpR X (compareOp .LtE) (fun x y H Q=>rI0 (fun i j=>.bl (decide (i<=j))) x y H Q\/rLeS x y H Q):=OpR.or ztg zsd
def D.isN:D->Bool
 | .non=>true
 | _=>false
def D.isB (b:Bool):D->Bool
 | .bl c=>c == b
 | _=>false
def isD (neg:Bool):D->D->Option D
 | d,.non=>some (.bl (if neg then !d.isN else d.isN))
 | d,.bl b=>some (.bl (if neg then !d.isB b else d.isB b))
 | _,_=>none
theorem Al.ref {F G:Hp} {d:D} {v:V} (h:Al K ct F G n d v) (hs:d.sc=false):∃a,v=.ref a:=by
 cases n with
 | zero=>cases (show Dt K ct F d v from h) <;> first | cases hs; done | exact ⟨_,rfl⟩
 | succ n=>rcases h with h | h <;> cases h <;> first | cases hs; done | exact ⟨_,rfl⟩
theorem Al.isn {F G:Hp} {d:D} {v:V} (h:Al K ct F G n d v):decide (v=.non)=d.isN:=by
 cases hs:d.sc with
 | true =>
  have:=Al.v h hs
  subst this
  cases d <;> first | rfl | cases hs
 | false =>
  obtain ⟨a,rfl⟩:=h.ref hs
  cases d <;> first | rfl | cases hs
theorem Al.isb {F G:Hp} {d:D} {v:V} {b:Bool} (h:Al K ct F G n d v):decide (v=.bl b)=d.isB b:=by
 cases hs:d.sc with
 | true =>
  have:=Al.v h hs
  subst this
  cases d <;> first | rfl | (cases hs; done) | (rename_i c; cases b <;> cases c <;> rfl)
 | false =>
  obtain ⟨a,rfl⟩:=h.ref hs
  cases d <;> first | rfl | cases hs
def rIsNot:R2:=fun x y H Q=>(y=.non/\Q (.bl (!decide (x=.non))) H)\/∃b,y=.bl b/\Q (.bl (!decide (x=.bl b))) H
theorem ze5 {X:Cx}:OpR X (compareOp .IsNot) rIsNot:=OpR.or zpa zkm
theorem zdh:Op2 K ct n m k rIsNot (isD true):=by
 intro F H x y d1 d2 d Q s l1 l2 e w
 cases d2 with
 | non =>
  cases e
  refine .inl ⟨l2.non,?_⟩
  rw [l1.isn]
  exact w _ F H (.refl s) (Al.of (.bl _))
 | bl b =>
  cases e
  refine .inr ⟨b,l2.bl,?_⟩
  rw [l1.isb]
  exact w _ F H (.refl s) (Al.of (.bl _))
 | _=>cases e
mutual
def D.py:D->Option PyData
 | .non=>some .none
 | .bl b=>some (.bool b)
 | .int i=>some (.int i)
 | .str x=>some (.str x)
 | .lst xs=>(D.pys xs).bind fun ys=>some (.list ys)
 | .tup xs=>(D.pys xs).bind fun ys=>some (.tuple ys)
 | _=>none
def D.pys:List D->Option (List PyData)
 | []=>some []
 | d::ds=>(D.py d).bind fun x=>(D.pys ds).bind fun xs=>some (x::xs)
end
mutual
theorem Dt.toPy {F H:Hp} (s:Same F H):∀{d:D} {v:V} {e:PyData},Dt K ct F d v->d.py=some e->L2.Dt K H v e
 | _,_,_,.non,h=>by simp only [D.py] at h; cases h; exact .non
 | _,_,_,.bl b,h=>by simp only [D.py] at h; cases h; exact .bl b
 | _,_,_,.int b,h=>by simp only [D.py] at h; cases h; exact .int b
 | _,_,_,.str b,h=>by simp only [D.py] at h; cases h; exact .str b
 | _,_,_,.lst q t,h=>by
  simp only [D.py] at h
  obtain ⟨ys,h1,h2⟩:=bind1 h
  cases h2
  exact .lst (s.seq q) (Dts.toPy s t h1)
 | _,_,_,.tup q t,h=>by
  simp only [D.py] at h
  obtain ⟨ys,h1,h2⟩:=bind1 h
  cases h2
  exact .tup (SqT.of (s _ _ q)) (Dts.toPy s t h1)
 | _,_,_,.dK _ _ _,h=>by simp only [D.py] at h; cases h
 | _,_,_,.dT _ _ _,h=>by simp only [D.py] at h; cases h
 | _,_,_,.obj _ _ _,h=>by simp only [D.py] at h; cases h
theorem Dts.toPy {F H:Hp} (s:Same F H):∀{ds:List D} {vs:List V} {es:List PyData},Dts K ct F ds vs->D.pys ds=some es->L2.Dts K H vs es
 | _,_,_,.nil,h=>by simp only [D.pys] at h; cases h; exact .nil
 | _,_,_,.cons h t,e=>by
  simp only [D.pys] at e
  obtain ⟨y,ys,h1,h2,h3⟩:=bind2 e
  cases h3
  exact .cons (Dt.toPy s h h1) (Dts.toPy s t h2)
end
theorem Pr.toPy {H:Hp} {R:D->V->Prop} (f:∀d v e,R d v->d.py=some e->L2.Dt K H v e):∀{ds:List D} {vs:List V} {es:List PyData},Pr R ds vs->D.pys ds=some es->L2.Dts K H vs es
 | _,_,_,.nil,h=>by simp only [D.pys] at h; cases h; exact .nil
 | _,_,_,.cons h t,e=>by
  simp only [D.pys] at e
  obtain ⟨y,ys,h1,h2,h3⟩:=bind2 e
  cases h3
  exact .cons (f _ _ _ h h1) (Pr.toPy f t h2)
theorem Al.toPy {F H:Hp} (s:Same F H):∀{n:Nat} {d:D} {v:V} {e:PyData},Al K ct F H n d v->d.py=some e->L2.Dt K H v e
 | 0,_,_,_,h,q=>Dt.toPy s h q
 | n+1,_,_,_,.inl h,q=>Dt.toPy s h q
 | n+1,_,_,_,.inr (.lst h t),q=>by
  simp only [D.py] at q
  obtain ⟨ys,h1,h2⟩:=bind1 q
  cases h2
  exact .lst (SqL.of h) (Pr.toPy (fun _ _ _=>Al.toPy s) t h1)
 | n+1,_,_,_,.inr (.tup h t),q=>by
  simp only [D.py] at q
  obtain ⟨ys,h1,h2⟩:=bind1 q
  cases h2
  exact .tup (SqT.of (s _ _ h)) (Pr.toPy (fun _ _ _=>Al.toPy s) t h1)
 | n+1,_,_,_,.inr (.dK _ _ _),q=>by simp only [D.py] at q; cases q
 | n+1,_,_,_,.inr (.dT _ _ _),q=>by simp only [D.py] at q; cases q
 | n+1,_,_,_,.inr (.obj _ _ _),q=>by simp only [D.py] at q; cases q
def pyOk (a:PyData):Bool:=a.canLay0 && decide (a.depth<=60)
def eqD (neg:Bool) (x y:D):Option D:=x.py.bind fun a=>y.py.bind fun b=>if pyOk a=true/\pyOk b=true then some (.bl (if neg then !PyData.eqv a b else PyData.eqv a b)) else none
theorem xz {neg:Bool}:Op2 K ct n m k (rEqD K neg) (eqD neg):=by
 intro F H x y d1 d2 d Q s l1 l2 e w
 obtain ⟨a,b,h1,h2,h3⟩:=bind2 e
 by_cases h:pyOk a=true/\pyOk b=true
 ·rw [if_pos h] at h3
  cases h3
  have o1:=h.1
  have o2:=h.2
  unfold pyOk at o1 o2
  rw [Bool.and_eq_true,decide_eq_true_iff] at o1 o2
  exact ⟨a,b,Al.toPy s l1 h1,Al.toPy s l2 h2,o1.1,o2.1,Nat.le_trans (Nat.min_le_left _ _) o1.2,w _ F H (.refl s) (Al.of (.bl _))⟩
 ·rw [if_neg h] at h3; cases h3
end
end L3
namespace L3
open PySem PySem.Spec L2
open PyProof.Rows hiding St
section
variable {K:PySem.W.Frag} {ct:Nat->Addr} {n m k:Nat} {X:Cx}
theorem Pr.atI {R:D->V->Prop} {ds:List D} {vs:List V} {i:Int} {d:D} (h:Pr R ds vs) (e:atI ds i=some d):∃v,atI vs i=some v/\R d v:=by
 unfold L2.atI at e ⊢
 rw [← h.length]
 obtain ⟨j,h1,h2⟩:=bind1 e
 obtain ⟨v,h3,h4⟩:=h.get' h2
 exact ⟨v,by rw [h1]; exact h3,h4⟩
def keyD:D->Option Key
 | .int i=>some (.inl i)
 | .str x=>some (.inr x)
 | _=>none
def keysD:List D->Option (List Key)
 | []=>some []
 | d::ds=>(keyD d).bind fun k=>(keysD ds).bind fun ks=>some (k::ks)
def getK {κ:Type} [DecidableEq κ] (ks:List κ) (ds:List D) (k:κ):Option D:=((ks.zip ds).find? fun p=>decide (p.1=k)).map (·.2)
def RO (R:D->V->Prop):Option D->Option V->Prop
 | some d,some u=>R d u
 | none,none=>True
 | _,_=>False
theorem RO.some_of {R:D->V->Prop} {d:D} {q:Option V} (h:RO R (some d) q):∃u,q=some u/\R d u:=by
 cases q with
 | none=>exact h.elim
 | some u=>exact ⟨u,rfl,h⟩
theorem RO.none_of {R:D->V->Prop} {q:Option V} (h:RO R none q):q=none:=by
 cases q with
 | none=>rfl
 | some u=>exact h.elim
theorem ze6 {κ:Type} [DecidableEq κ] {R:D->V->Prop} {k:κ}:∀{ks:List κ} {ds:List D} {vs:List V},Pr R ds vs->RO R (getK ks ds k) (valV (ks.zip vs) k)
 | [],_,_,_=>by simp [getK,valV,RO]
 | _::_,_,_,.nil=>by simp [getK,valV,RO]
 | y::ks,d::ds,v::vs,.cons h t=>by
  by_cases e:y=k
  ·have h1:getK (y::ks) (d::ds) k=some d:=by simp [getK,List.find?_cons,e]
   have h2:valV ((y::ks).zip (v::vs)) k=some v:=by simp [valV,List.find?_cons,e]
   rw [h1,h2]
   exact h
  ·have h1:getK (y::ks) (d::ds) k=getK ks ds k:=by simp [getK,List.find?_cons,e]
   have h2:valV ((y::ks).zip (v::vs)) k=valV (ks.zip vs) k:=by simp [valV,List.find?_cons,e]
   rw [h1,h2]
   exact ze6 t
theorem zkz {F G:Hp} {d:D} {v:V} {k:Key} (e:keyD d=some k) (h:Al K ct F G n d v):v=kV k:=by
 cases d with
 | int i=>cases e; exact h.int
 | str i=>cases e; exact h.str
 | _=>cases e
theorem zhc {F G:Hp}:∀{ds:List D} {vs:List V} {ks:List Key},keysD ds=some ks->Pr (Al K ct F G n) ds vs->vs=ks.map kV
 | [],_,_,e,.nil=>by cases e; rfl
 | d::ds,_,_,e,.cons h t=>by
  unfold keysD at e
  obtain ⟨k,ks,h1,h2,h3⟩:=bind2 e
  cases h3
  rw [zkz h1 h,zhc h2 t]; rfl
def dgetD (o y:D):Option (Option D):=match o with
 | .dK ks ds=>(keyD y).bind fun k=>some (getK ks ds k)
 | .dT ks ds=>(match y with | .tup ys=>(keysD ys).bind fun k=>some (getK ks ds k) | _=>none)
 | _=>none
theorem zhd {F G:Hp} {o y:D} {x v:V} (s:Same F G) (l1:Al K ct F G n o x) (l2:Al K ct F G m y v) {r:Option D} (e:dgetD o y=some r) :
  ∃a q,x=.ref a/\DGet G a v q/\IsD G a/\RO (Al K ct F G (n-1)) r q:=by
 cases o with
 | dK ks ds =>
  obtain ⟨a,vs,rfl,ha,hl,hp⟩:=l1.dK s
  obtain ⟨k,h1,h2⟩:=bind1 e
  cases h2
  have hv:=zkz h1 l2
  subst hv
  exact ⟨a,_,rfl,DGet.k ha,.inl ⟨_,.inl ha⟩,ze6 hp⟩
 | dT ks ds =>
  obtain ⟨a,vs,rfl,ha,hl,hp⟩:=l1.dT s
  cases y with
  | tup ys =>
   obtain ⟨k,h1,h2⟩:=bind1 e
   cases h2
   obtain ⟨b,us,rfl,hb,hpb⟩:=l2.tup s
   have hv:=zhc h1 hpb
   subst hv
   exact ⟨a,_,rfl,DGet.t ha hb,.inr ⟨_,.inl ha⟩,ze6 hp⟩
  | _=>cases e
 | _=>cases e
def ixD:D->D->Option D
 | .lst ds,.int i=>atI ds i
 | .tup ds,.int i=>atI ds i
 | .str x,.int i=>if x.length<=16777216 then (atI x.cps.toList i).bind fun c=>some (.str ⟨#[c]⟩) else none
 | _,_=>none
theorem zu:Op2 K ct n m (n-1) (rIx K) ixD:=by
 intro F H x y d1 d2 d Q s l1 l2 e w
 cases d1 with
 | lst ds =>
  cases d2 with
  | int i =>
   obtain ⟨a,vs,rfl,ha,hp⟩:=l1.lst s
   obtain ⟨v,h1,h2⟩:=hp.atI e
   exact .inl ⟨a,vs,i,v,rfl,l2.int,ha,h1,w v F H (.refl s) h2⟩
  | _=>cases e
 | tup ds =>
  cases d2 with
  | int i =>
   obtain ⟨a,vs,rfl,ha,hp⟩:=l1.tup s
   obtain ⟨v,h1,h2⟩:=hp.atI e
   exact .inr (.inl ⟨a,vs,i,v,rfl,l2.int,SqT.of ha,h1,w v F H (.refl s) h2⟩)
  | _=>cases e
 | str z =>
  cases d2 with
  | int i =>
   unfold ixD at e
   dsimp only at e
   by_cases h:z.length<=16777216
   ·rw [if_pos h] at e
    obtain ⟨c,h1,h2⟩:=bind1 e
    cases h2
    exact .inr (.inr ⟨z,i,c,l1.str,l2.int,by rw [sizeLine_eq]; exact h,h1,w _ F H (.refl s) (Al.of (.str _))⟩)
   ·rw [if_neg h] at e; cases e
  | _=>cases e
 | _=>cases e
theorem zse {ms:List Mo} {a b:Expr} {f g:EF} {pos:Pos} (hu:X.A.units+1<cLine) (ha:XE X ct ms n a f) (hb:XE X ct ms m b g) (hs:NoSl b):XE X ct ms (n-1) (.Subscript a b pos) (fun ρ=>(f ρ).bind fun x=>(g ρ).bind fun y=>(dgetD x y).join):=by
 obtain ⟨ta,tb,pa,pb,q⟩:=ha.bin hb
 refine ⟨_,zps hu pa pb hs,fun F0 B F H ρ σ d Q rs e w=>?_⟩
 obtain ⟨d1,d2,h1,h2,h3⟩:=bind2 e
 refine q F0 B F H ρ σ d1 d2 _ rs h1 h2 fun x y F' H' x1 l1 l2=>?_
 obtain ⟨a,o,rfl,g,_,h⟩:=zhd (r:=some d) x1.fh l1 l2 (wj h3)
 obtain ⟨u,rfl,hu'⟩:=h.some_of
 exact ⟨a,u,rfl,g,w u F' H' x1 hu'⟩
def eqS:D->D->Bool
 | .non,.non=>true
 | .bl a,.bl b=>a == b
 | .bl a,.int b=>(if a then 1 else 0) == b
 | .int a,.bl b=>a == (if b then 1 else 0)
 | .int a,.int b=>a == b
 | .str a,.str b=>a == b
 | _,_=>false
theorem zsf {x y:D} (hx:x.sc=true) (hy:y.sc=true):eqV x.v y.v=eqS x y:=by
 cases x <;> first | cases hx; done | (cases y <;> first | cases hy; done | rfl)
def inS (x:D) (ds:List D):Bool:=ds.any fun y=>eqS y x
theorem zp2 {x:D} (hx:x.sc=true):∀{ds:List D},ds.all D.sc=true->inV x.v (ds.map D.v)=inS x ds
 | [],_=>rfl
 | d::ds,h=>by
  rw [List.all_cons,Bool.and_eq_true] at h
  have ih:=zp2 hx h.2
  unfold inV inS at ih ⊢
  rw [List.map_cons,List.any_cons,List.any_cons,ih,zsf h.1 hx]
theorem zc0:∀{ds:List D},ds.all D.sc=true->(ds.map D.v).all flatV=true
 | [],_=>rfl
 | d::ds,h=>by
  rw [List.all_cons,Bool.and_eq_true] at h
  rw [List.map_cons,List.all_cons,D.flat h.1,zc0 h.2]; rfl
def inD (neg:Bool) (x y:D):Option D:=match y with
 | .lst ds=>if x.sc=true/\ds.all D.sc=true then some (.bl (if neg then !inS x ds else inS x ds)) else none
 | .tup ds=>if x.sc=true/\ds.all D.sc=true then some (.bl (if neg then !inS x ds else inS x ds)) else none
 | _=>none
theorem zbk {neg:Bool}:Op2 K ct n m k (rIn K neg) (inD neg):=by
 intro F H x y d1 d2 d Q s l1 l2 e w
 cases d2 with
 | lst ds =>
  unfold inD at e
  dsimp only at e
  by_cases h:d1.sc=true/\ds.all D.sc=true
  ·rw [if_pos h] at e
   cases e
   obtain ⟨a,vs,rfl,ha,hp⟩:=l2.lst s
   have hv:=hp.vs h.2
   subst hv
   have hx:=Al.v l1 h.1
   subst hx
   refine ⟨a,_,rfl,.inl ha,D.flat h.1,zc0 h.2,?_⟩
   rw [zp2 h.1 h.2]
   exact w _ F H (.refl s) (Al.of (.bl _))
  ·rw [if_neg h] at e; cases e
 | tup ds =>
  unfold inD at e
  dsimp only at e
  by_cases h:d1.sc=true/\ds.all D.sc=true
  ·rw [if_pos h] at e
   cases e
   obtain ⟨a,vs,rfl,ha,hp⟩:=l2.tup s
   have hv:=hp.vs h.2
   subst hv
   have hx:=Al.v l1 h.1
   subst hx
   refine ⟨a,_,rfl,.inr (SqT.of ha),D.flat h.1,zc0 h.2,?_⟩
   rw [zp2 h.1 h.2]
   exact w _ F H (.refl s) (Al.of (.bl _))
  ·rw [if_neg h] at e; cases e
 | _=>cases e
def lenD:List D->Option D
 | [.lst ds]=>some (.int ds.length)
 | [.tup ds]=>some (.int ds.length)
 | [.dK ks _]=>some (.int ks.length)
 | [.str x]=>if x.length<=16777216 then some (.int x.length) else none
 | _=>none
def rLen (K:PySem.W.Frag):List V->Hp->VK->Prop:=fun xs H Q=>(∃p ys,xs=[.ref p]/\(SqL K H p ys\/SqT K H p ys)/\Q (.int ys.length) H)\/(∃z,xs=[.str z]/\z.length<=sizeLine/\Q (.int z.length) H)\/∃a kvs,xs=[V.ref a]/\H a=some (.dK kvs)/\Q (.int kvs.length) H
theorem yh:CallR X (.builtin "len") (rLen X.K):=zf0.or (zf1.or zkl)
theorem xu:OpN K ct [n] k (rLen K) lenD:=by
 intro F H vs ds d Q s l e w
 cases l with
 | cons h t =>
  cases t
  rename_i d1 v
  cases d1 with
  | lst xs =>
   cases e
   obtain ⟨a,us,rfl,ha,hp⟩:=h.lst s
   refine .inl ⟨a,us,rfl,.inl ha,?_⟩
   rw [← hp.length]
   exact w _ F H (.refl s) (Al.of (.int _))
  | tup xs =>
   cases e
   obtain ⟨a,us,rfl,ha,hp⟩:=h.tup s
   refine .inl ⟨a,us,rfl,.inr (SqT.of ha),?_⟩
   rw [← hp.length]
   exact w _ F H (.refl s) (Al.of (.int _))
  | str x =>
   unfold lenD at e
   dsimp only at e
   by_cases hz:x.length<=16777216
   ·rw [if_pos hz] at e
    cases e
    exact .inr (.inl ⟨x,by rw [h.str],by rw [sizeLine_eq]; exact hz,w _ F H (.refl s) (Al.of (.int _))⟩)
   ·rw [if_neg hz] at e; cases e
  | dK ks xs =>
   cases e
   obtain ⟨a,us,rfl,ha,hl,hp⟩:=h.dK s
   refine .inr (.inr ⟨a,_,rfl,ha,?_⟩)
   rw [List.length_zip,← hl,Nat.min_self]
   exact w _ F H (.refl s) (Al.of (.int _))
  | _=>cases e
end
end L3
namespace L3
open PySem PySem.Spec L2
open PyProof.Rows hiding St
section
variable {ct:Nat->Addr} {K:PySem.W.Frag}
theorem ztn {ι:Type} {Xs:ι->Cx} {ms:List Mo} {n:Nat} {e:Expr} {f:EF} (hK:∀i,(Xs i).K=K) (h:∀i,XO (Xs i) ct ms n e f):∃t,(∀i,PE (Xs i) e t)/\∀(F0 B F H:Hp) (ρ:Env) (σ:St) (d:D) (Q:VK),RS K ct F0 B ms F H ρ σ->f ρ=some d ->
  (∀v F' H' fp,Ext F H F' H'->Ow K ct F' H' n d v fp->fp.Nodup->(∀a∈fp,H a=none)->Q v H')->t σ H Q:=by
 refine ⟨fun σ H Q=>∀i,(h i).choose σ H Q,fun i pins s σ H Q I q=>(h i).choose_spec.1 pins s σ H Q I (q i),fun F0 B F H ρ σ d Q rs e w i=>?_⟩
 exact (h i).choose_spec.2 F0 B F H ρ σ d Q (by rw [hK i]; exact rs) e fun v F' H' fp x l=>w v F' H' fp x (by rw [← hK i]; exact l)
def XTs (X:Cx) (ct:Nat->Addr) (ms:List Mo) (ifs:List Expr) (f:BF):Prop:=∃t,PTs X ifs t/\∀(F0 B F H:Hp) (ρ:Env) (σ:St) (b:Bool) (Q:Bool->Hp->Prop),RS X.K ct F0 B ms F H ρ σ->f ρ=some b->(∀F' H',Ext F H F' H'->Q b H')->t σ H Q
def bTrue:BF:=fun _=>some true
theorem ji {X:Cx} {ms:List Mo}:XTs X ct ms [] bTrue:=⟨_,zpw,fun F0 B F H ρ σ b Q rs e w=>by cases e; exact w F H (.refl rs.fh)⟩
theorem zaw {X:Cx} {ms:List Mo} {c:Expr} {p:BF} (h:XT X ct ms c p):XTs X ct ms [c] p:=by
 obtain ⟨t,pt,qt⟩:=h
 exact ⟨t,zpx pt,qt⟩
theorem zto {ι:Type} {Xs:ι->Cx} {ms:List Mo} {ifs:List Expr} {f:BF} (hK:∀i,(Xs i).K=K) (h:∀i,XTs (Xs i) ct ms ifs f):∃t,(∀i,PTs (Xs i) ifs t)/\∀(F0 B F H:Hp) (ρ:Env) (σ:St) (b:Bool) (Q:Bool->Hp->Prop),RS K ct F0 B ms F H ρ σ->f ρ=some b ->
  (∀F' H',Ext F H F' H'->Q b H')->t σ H Q:=by
 refine ⟨fun σ H Q=>∀i,(h i).choose σ H Q,fun i pins s σ H Q I q=>(h i).choose_spec.1 pins s σ H Q I (q i),fun F0 B F H ρ σ d Q rs e w i=>?_⟩
 exact (h i).choose_spec.2 F0 B F H ρ σ d Q (by rw [hK i]; exact rs) e w
def monoG {α:Type} (g:α->St->Hp->(St->Hp->Prop)->Prop):Prop:=∀v σ H Q Q',(∀σ' H',Q σ' H'->Q' σ' H')->g v σ H Q->g v σ H Q'
def XGc (X:Cx) (ct:Nat->Addr) (ms:List Mo) (own n:Nat) (tg:Expr) (g:D->Env->Option Env):Prop:=∃t,PG X tg t/\keepsCaps own t/\monoG t/\∀(F0 B F H:Hp) (ρ ρ':Env) (σ:St) (d:D) (v:V) (Q:St->Hp->Prop),RS X.K ct F0 B ms F H ρ σ->Al X.K ct F B n d v->g d ρ=some ρ' ->
 (∀σ',RS X.K ct F0 B ms F H ρ' σ'->Q σ' H)->t v σ H Q
theorem ztp {ι:Type} {Xs:ι->Cx} {ms:List Mo} {own n:Nat} {tg:Expr} {g:D->Env->Option Env} (hK:∀i,(Xs i).K=K) (h:∀i,XGc (Xs i) ct ms own n tg g):∃t,(∀i,PG (Xs i) tg t)/\keepsCaps own t/\∀(F0 B F H:Hp) (ρ ρ':Env) (σ:St) (d:D) (v:V) (Q:St->Hp->Prop),RS K ct F0 B ms F H ρ σ->Al K ct F B n d v->g d ρ=some ρ' ->
  (∀σ',RS K ct F0 B ms F H ρ' σ'->Q σ' H)->t v σ H Q:=by
 refine ⟨fun v σ H Q=>∀i,(h i).choose v σ H Q,fun i pins s σ H v u Q I r q=>(h i).choose_spec.1 pins s σ H v u Q I r (q i),fun v σ H Q q i=>(h i).choose_spec.2.1 v σ H Q (q i),fun F0 B F H ρ ρ' σ d v Q rs l e w i=>?_⟩
 exact (h i).choose_spec.2.2.2 F0 B F H ρ ρ' σ d v Q (by rw [hK i]; exact rs) (by rw [hK i]; exact l) e fun σ' r=>w σ' (by rw [← hK i]; exact r)
theorem xr {X:Cx} {ms:List Mo} {own i:Nat} {x:Str} {pos:Pos} (ho:i<own) (hm:ms[i]?=some (.ow 0)) (hN:X.N.Nodup) (hi:X.N[i]?=some x) (hx:Loc X.env.scope x)
  (hf:X.fn x=true\/X.env.scope.names.lookup x=some .local:=by first | exact .inl rfl | exact .inr rfl | assumption):XGc X ct ms own 0 (.Name x pos) (gV i):=by
 refine ⟨_,zj1 hN hi hx hf,zjl i own ho,fun v σ H Q Q' m q=>m _ _ q,fun F0 B F H ρ ρ' σ d v Q rs l e w=>?_⟩
 cases e
 exact w _ (rs.set hm (.refl rs.fh) (Ow.zero l) List.nodup_nil fun a z=>(by cases z))
def keepsS (own:Nat) (g:TGs):Prop:=∀v σ H Q,g v σ H Q->g v σ H fun σ' H'=>Q σ' H'/\σ'.length = σ.length/\∀i,own<=i->σ'[i]? = σ[i]?
def XGsc (X:Cx) (ct:Nat->Addr) (ms:List Mo) (own n:Nat) (tgs:List Expr) (g:List D->Env->Option Env):Prop:=∃t,PGs X tgs t/\keepsS own t/\monoG t/\(∀ds ρ ρ',g ds ρ=some ρ'->ds.length=tgs.length)/\∀(F0 B F H:Hp) (ρ ρ':Env) (σ:St) (ds:List D) (vs:List V) (Q:St->Hp->Prop),RS X.K ct F0 B ms F H ρ σ->Pr (Al X.K ct F B n) ds vs->g ds ρ=some ρ' ->
 (∀σ',RS X.K ct F0 B ms F H ρ' σ'->Q σ' H)->t vs σ H Q
theorem zib {X:Cx} {ms:List Mo} {own n:Nat}:XGsc X ct ms own n [] gsNil:=by
 refine ⟨_,zj2,fun v σ H Q q=>⟨q.1,q.2,rfl,fun _ _=>rfl⟩,fun v σ H Q Q' m q=>⟨q.1,m _ _ q.2⟩,fun ds ρ ρ' e=>?_,fun F0 B F H ρ ρ' σ ds vs Q rs l e w=>?_⟩
 ·cases ds with
  | nil=>rfl
  | cons d ds=>cases e
 ·cases l with
  | nil=>cases e; exact ⟨rfl,w σ rs⟩
  | cons _ _=>cases e
theorem zb5 {X:Cx} {ms:List Mo} {own n:Nat} {tg:Expr} {tgs:List Expr} {gg:D->Env->Option Env} {gs:List D->Env->Option Env} (h1:XGc X ct ms own n tg gg) (h2:XGsc X ct ms own n tgs gs)
  (hs:(assignEach (tg::tgs) X.env).map (·.2)=assign tg X.env::(assignEach tgs X.env).map (·.2):=by rfl):XGsc X ct ms own n (tg::tgs) (gsCons gg gs):=by
 obtain ⟨t,pt,kt,mt,qt⟩:=h1
 obtain ⟨t2,pt2,kt2,mt2,lt2,qt2⟩:=h2
 refine ⟨_,zh1 pt pt2 hs,fun vs σ H Q q=>?_,fun vs σ H Q Q' m q=>?_,fun ds ρ ρ' e=>?_,fun F0 B F H ρ ρ' σ ds vs Q rs l e w=>?_⟩
 ·obtain ⟨v,r,e,q⟩:=q
  refine ⟨v,r,e,mt _ _ _ _ _ (fun σ' H' z=>?_) (kt v σ H _ q)⟩
  obtain ⟨z1,z2,z3⟩:=z
  refine mt2 _ _ _ _ _ (fun σ2 H2 y=>?_) (kt2 r σ' H' Q z1)
  exact ⟨y.1,y.2.1.trans z2,fun i hi=>(y.2.2 i hi).trans (z3 i hi)⟩
 ·obtain ⟨v,r,e,q⟩:=q
  exact ⟨v,r,e,mt _ _ _ _ _ (fun σ' H' z=>mt2 _ _ _ _ _ m z) q⟩
 ·cases ds with
  | nil=>cases e
  | cons d ds =>
   obtain ⟨ρ1,h3,h4⟩:=bind1 e
   rw [List.length_cons,List.length_cons,lt2 _ _ _ h4]
 ·cases l with
  | nil=>cases e
  | cons h t' =>
   obtain ⟨ρ1,h3,h4⟩:=bind1 e
   exact ⟨_,_,rfl,qt F0 B F H ρ ρ1 σ _ _ _ rs h h3 fun σ1 r1=>qt2 F0 B F H ρ1 ρ' σ1 _ _ _ r1 t' h4 w⟩
theorem zk0 {X:Cx} {ms:List Mo} {own n:Nat} {tgs:List Expr} {j:Nat} {pos:Pos} {gs:List D->Env->Option Env} (hc:X.calm=true) (h:XGsc X ct ms own (n-1) tgs gs) (hl:(assignEach tgs X.env).length=tgs.length:=by rfl) (hst:(assignEach tgs X.env).findIdx? (·.1)=none:=by rfl):XGc X ct ms own n (.Tuple tgs j pos) (gT gs):=by
 obtain ⟨t,pt,kt,mt,lt,qt⟩:=h
 refine ⟨_,zoe (n:=tgs.length) hc pt hl hst,fun v σ H Q q=>?_,fun v σ H Q Q' m q=>?_,fun F0 B F H ρ ρ' σ d v Q rs l e w=>?_⟩
 ·obtain ⟨a,xs,e,h1,h2,q⟩:=q
  exact ⟨a,xs,e,h1,h2,kt _ _ _ _ q⟩
 ·obtain ⟨a,xs,e,h1,h2,q⟩:=q
  exact ⟨a,xs,e,h1,h2,mt _ _ _ _ _ m q⟩
 cases d with
 | tup ds =>
  have:∃a vs,v=.ref a/\SqT X.K H a vs/\Pr (Al X.K ct F B (n-1)) ds vs:=by
   cases n with
   | zero =>
    have l:Dt X.K ct F (.tup ds) v:=l
    cases l with
    | tup q t=>exact ⟨_,_,rfl,SqT.of (rs.fh _ _ q),t.pr⟩
   | succ n =>
    rcases l with l | l
    ·cases l with
     | tup q t=>exact ⟨_,_,rfl,SqT.of (rs.fh _ _ q),t.pr.mono fun _ _=>Al.of⟩
    ·cases l with
     | tup q t=>exact ⟨_,_,rfl,SqT.of (rs.fh _ _ q),t⟩
  obtain ⟨a,vs,rfl,ha,hp⟩:=this
  exact ⟨a,vs,rfl,ha,hp.length.symm.trans (lt _ _ _ e),qt F0 B F H ρ ρ' σ ds vs Q rs hp e w⟩
 | _=>cases e
def capsD (ρ:Env) (cap:List Nat):Env:=cap.map fun i=>(ρ[i]?).join
def capsM (ms:List Mo) (cap:List Nat):List Mo:=cap.map fun i=>.al (((ms[i]?).map Mo.lv).getD 0)
def compD (g:D->Env->Option Env) (p:BF) (f:EF) (ρ0:Env):List D->Option (List D)
 | []=>some []
 | d::ds=>(g d ρ0).bind fun ρ1=>(p ρ1).bind fun b=>if b=true then (f ρ1).bind fun y=>(compD g p f ρ0 ds).bind fun ys=>some (y::ys) else compD g p f ρ0 ds
def eComp (fi:Env->Option (List D)) (own:Nat) (cap:List Nat) (g:D->Env->Option Env) (p:BF) (f:EF):EF:=fun ρ=>(fi ρ).bind fun ds=>if ds.length<=16777216 then (compD g p f (List.replicate own none++capsD ρ cap) ds).bind fun ys=>some (.lst ys) else none
theorem SL.caps {F B H:Hp} {ms:List Mo} {ρ:Env} {σ:St} (rs:RS K ct F0 B ms F H ρ σ):∀{cap:List Nat},(∀i∈cap,i<ms.length)->SL K ct F H H (capsM ms cap) (capsD ρ cap) (capsOf σ cap) []
 | [],_=>.nil
 | i::cap,h=>by
  have ih:=SL.caps rs (cap:=cap) fun j hj=>h j (List.mem_cons_of_mem _ hj)
  have hi:i<ms.length:=h i List.mem_cons_self
  have hm:ms[i]?=some ms[i]:=by simp [hi]
  show SL K ct F H H (.al (((ms[i]?).map Mo.lv).getD 0)::capsM ms cap) ((ρ[i]?).join::capsD ρ cap) ((σ[i]?).join::capsOf σ cap) []
  cases e:(ρ[i]?).join with
  | none=>exact .no ih
  | some d =>
   obtain ⟨v,hv,l⟩:=rs.get hm (wj e)
   rw [hv,hm]
   exact .al l ih
theorem SL.nones {F B H:Hp} {ms ms':List Mo} {ρ:Env} {σ:St} {fp:List Addr} (t:SL K ct F B H ms ρ σ fp):∀{om:List Mo},SL K ct F B H (om++ms) (List.replicate om.length none ++ ρ) (List.replicate om.length none ++ σ) fp
 | []=>t
 | m::om=>.no (SL.nones (ms':=ms') t)
theorem zic {X:Cx} {ms om:List Mo} {n k:Nat} {elt iter tg:Expr} {ifs:List Expr} {scope:Scope} {pos:Pos} {N:List Str} {own:Nat} {cap:List Nat} {fi:Env->Option (List D)} {gg:D->Env->Option Env} {p:BF} {f:EF}
  (B:BlkOk X scope N own cap) (hc:X.calm=true) (ho:om.length=own) (hcap:∀i∈cap,i<ms.length) (hi:XIc X ct ms n tg iter fi)
  (hg:∀cl C fp s₀ H₀,XGc (cxB X scope cl N C fp s₀ H₀) ct (om++capsM ms cap) own n tg gg) (ht:∀cl C fp s₀ H₀,XTs (cxB X scope cl N C fp s₀ H₀) ct (om++capsM ms cap) ifs p) (he:∀cl C fp s₀ H₀,XO (cxB X scope cl N C fp s₀ H₀) ct (om++capsM ms cap) k elt f)
  :
  ∃wi g tt te,PI X tg iter wi/\keepsCaps own g/\(∀cl C fp s₀ H₀,PG (cxB X scope cl N C fp s₀ H₀) tg g)/\(∀cl C fp s₀ H₀,PTs (cxB X scope cl N C fp s₀ H₀) ifs tt)/\(∀cl C fp s₀ H₀,PE (cxB X scope cl N C fp s₀ H₀) elt te) /\
   ∀(F0 B F H:Hp) (ρ:Env) (σ:St) (d:D) (Q:VK),RS X.K ct F0 B ms F H ρ σ->eComp fi own cap gg p f ρ=some d->(∀v F' H' fp,Ext F H F' H'->Ow X.K ct F' H' (k+1) d v fp->fp.Nodup->(∀a∈fp,H a=none)->Q v H')->tComp wi own cap g tt te σ H Q:=by
 obtain ⟨wi,pi,qi⟩:=hi
 obtain ⟨tg',pg,kg,qg⟩:=ztp (K:=X.K) (Xs:=fun z:List (Str×Addr)×Addr×List Addr×Shared×Hp=>cxB X scope z.1 N z.2.1 z.2.2.1 z.2.2.2.1 z.2.2.2.2) (fun _=>rfl) (fun z=>hg z.1 z.2.1 z.2.2.1 z.2.2.2.1 z.2.2.2.2)
 obtain ⟨tt,pt,qt⟩:=zto (K:=X.K) (Xs:=fun z:List (Str×Addr)×Addr×List Addr×Shared×Hp=>cxB X scope z.1 N z.2.1 z.2.2.1 z.2.2.2.1 z.2.2.2.2) (fun _=>rfl) (fun z=>ht z.1 z.2.1 z.2.2.1 z.2.2.2.1 z.2.2.2.2)
 obtain ⟨te,pe,qe⟩:=ztn (K:=X.K) (Xs:=fun z:List (Str×Addr)×Addr×List Addr×Shared×Hp=>cxB X scope z.1 N z.2.1 z.2.2.1 z.2.2.2.1 z.2.2.2.2) (fun _=>rfl) (fun z=>he z.1 z.2.1 z.2.2.1 z.2.2.2.1 z.2.2.2.2)
 refine ⟨wi,tg',tt,te,pi,kg,(fun cl C fp s₀ H₀=>pg (cl,C,fp,s₀,H₀)),(fun cl C fp s₀ H₀=>pt (cl,C,fp,s₀,H₀)),(fun cl C fp s₀ H₀=>pe (cl,C,fp,s₀,H₀)),fun F0 B F H ρ σ r Q rs e w=>?_⟩
 obtain ⟨ds,h1,h2⟩:=bind1 e
 by_cases hz:ds.length<=16777216
 case neg=>rw [if_neg hz] at h2; cases h2
 rw [if_pos hz] at h2
 obtain ⟨ys,h3,h4⟩:=bind1 h2
 cases h4
 refine qi F0 B F H ρ σ ds _ rs h1 fun J F1 H1 x1 ok A hA=>?_
 have rs1:=rs.ext x1
 refine ⟨fun i m us H2=>m=ds.length-i/\i<=ds.length/\us.length<=i/\H2 A=some (.lst us)/\∃F2 yd zd fp,Ext F1 H1 F2 H2/\F2 A=none/\OwL (Ow X.K ct F2 H2 k) yd us fp/\fp.Nodup/\(∀a∈fp,H1 a=none/\a≠A)/\compD gg p f (List.replicate own none++capsD ρ cap) (ds.drop i)=some zd/\yd++zd=ys,
  ⟨ds.length,rfl,Nat.zero_le _,Nat.le_refl _,y3,F1,[],ys,[],Ext.newO x1.fh hA _,x1.fh.free hA,.nil,List.nodup_nil,fun a z=>(by cases z),h3,rfl⟩,?_⟩
 rintro i m us H2 ⟨rfl,hil,hul,hA2,F2,yd,zd,fp,x2,fA,ol,nd,hf,hcd,hys⟩
 refine ⟨hA2,?_⟩
 have rs2:=rs1.ext x2
 obtain ⟨k1,k2⟩:=ok i F2 H2 x2.ff x2.hh x2.fh
 by_cases hlt:i<ds.length
 ·right
  have hd:ds[i]?=some ds[i]:=by simp [hlt]
  obtain ⟨go,yl⟩:=k1 _ hd
  rw [List.drop_eq_getElem_cons hlt] at hcd
  obtain ⟨ρ1,h5,h6⟩:=bind1 hcd
  obtain ⟨b,h7,h8⟩:=bind1 h6
  refine ⟨go,by rw [sizeLine_eq]; omega,fun x H3 y=>?_⟩
  obtain ⟨F3,x3,l⟩:=yl x H3 y
  have rs3:=rs2.ext x3
  have sl:=SL.nones (ms':=[]) (SL.caps rs3 hcap) (om:=om)
  rw [ho] at sl
  have rsI:RS X.K ct F3 H3 (om++capsM ms cap) F3 H3 (List.replicate own none++capsD ρ cap) (List.replicate own none++capsOf σ cap):=⟨.refl _,.refl _,x3.fh,fun _ _ _ h=>h,[],sl,List.nodup_nil,fun a z=>(by cases z)⟩
  have A3:H3 A=some (.lst us):=x3.hh _ _ hA2
  have fA3:F3 A=none:=x3.nf A _ hA2 fA
  refine qg F3 H3 F3 H3 _ ρ1 _ _ x _ rsI (l.mono (.refl _) (x2.trans x3).hh) h5 fun σ1 r1=>?_
  refine qt F3 H3 F3 H3 ρ1 σ1 b _ r1 h7 fun F4 H4 x4=>?_
  cases b with
  | false =>
   rw [if_neg Bool.false_ne_true] at h8 ⊢
   have x24:=x3.trans x4
   refine ⟨ds.length-(i+1),by omega,rfl,hlt,by omega,x4.hh _ _ A3,F4,yd,zd,fp,x2.trans x24,x4.nf A _ A3 fA3,ol.mono fun _ _ _ _ o=>o.ext x24,nd,hf,h8,hys⟩
  | true =>
   rw [if_pos rfl] at h8 ⊢
   obtain ⟨yv,h9,h10⟩:=bind1 h8
   obtain ⟨zs,h11,h12⟩:=bind1 h10
   cases h12
   refine qe F3 H3 F4 H4 ρ1 σ1 yv _ (r1.ext x4) h9 fun v F5 H5 f5 x5 o5 n5 hf5=>?_
   have x25:=(x3.trans x4).trans x5
   have x45:=x4.trans x5
   have A5:H5 A=some (.lst us):=x45.hh _ _ A3
   have fA5:F5 A=none:=x45.nf A _ A3 fA3
   have A4:H4 A=some (.lst us):=x4.hh _ _ A3
   have hA5:∀a∈f5,a≠A:=fun a z e=>by rw [e] at z; rw [hf5 A z] at A4; cases A4
   refine ⟨A5,ds.length-(i+1),by omega,rfl,hlt,by rw [List.length_append,List.length_singleton]; omega,y3,F5,yd++[yv],zs,fp++(f5++[]),?_,fA5,?_,?_,?_,h11,by rw [List.append_assoc]; exact hys⟩
   ·have x15:=x2.trans x25
    refine ⟨x15.ff,fun a o h=>?_,fun a o h=>?_,x15.nf⟩
    ·rw [yu (xt h hA)]; exact x15.hh _ _ h
    ·rw [yu (fun z=>by rw [z] at h; rw [fA5] at h; cases h)]; exact x15.fh _ _ h
   ·refine (ol.mono fun _ _ f hfi o=>?_).append (.cons ?_ .nil)
    ·refine (o.ext x25).frame (.refl _) fun a z=>⟨yu (hf a (hfi a z)).2,((o.ext x25).cells a z).1⟩
    ·exact o5.frame (.refl _) fun a z=>⟨yu (hA5 a z),(o5.cells a z).1⟩
   ·rw [List.append_nil]
    refine List.nodup_append.mpr ⟨nd,n5,fun a z c hc e=>?_⟩
    subst e
    have:∃o,H2 a=some o:=(OwL.cellsOf ol a z).2
    obtain ⟨o,ho⟩:=this
    have:=x4.hh _ _ (x3.hh _ _ ho)
    rw [hf5 a hc] at this
    cases this
   ·intro a z
    rw [List.append_nil] at z
    rcases List.mem_append.mp z with z | z
    ·exact hf a z
    ·refine ⟨?_,hA5 a z⟩
     have x14:=x2.trans (x3.trans x4)
     exact x14.hh.free (hf5 a z)
 ·left
  refine ⟨k2 (by omega),?_⟩
  have:ds.drop i=[]:=List.drop_eq_nil_of_le (by omega)
  rw [this] at hcd
  cases hcd
  rw [List.append_nil] at hys
  subst hys
  refine w _ F2 H2 (A::fp) (x1.trans x2) (.inr (.lst fA hA2 ol)) (List.nodup_cons.mpr ⟨fun z=>(hf A z).2 rfl,nd⟩) fun a z=>?_
  rcases List.mem_cons.mp z with rfl | z
  ·exact x1.hh.free hA
  ·exact x1.hh.free (hf a z).1
theorem jy {X:Cx} {ms om:List Mo} {n k:Nat} {elt iter tg:Expr} {ifs:List Expr} {scope:Scope} {pos:Pos} {N:List Str} {own:Nat} {cap:List Nat} {fi:Env->Option (List D)} {gg:D->Env->Option Env} {p:BF} {f:EF}
  (B:BlkOk X scope N own cap) (hc:X.calm=true) (ho:om.length=own) (hcap:∀i∈cap,i<ms.length) (hi:XIc X ct ms n tg iter fi)
  (hg:∀cl C fp s₀ H₀,XGc (cxB X scope cl N C fp s₀ H₀) ct (om++capsM ms cap) own n tg gg) (ht:∀cl C fp s₀ H₀,XTs (cxB X scope cl N C fp s₀ H₀) ct (om++capsM ms cap) ifs p) (he:∀cl C fp s₀ H₀,XO (cxB X scope cl N C fp s₀ H₀) ct (om++capsM ms cap) k elt f)
  (hs:∀x,foldedSetIterable iter X.env x=pure x:=by intro _; rfl):XO X ct ms (k+1) (.ListComp elt [⟨tg,iter,ifs,0⟩] scope pos) (eComp fi own cap gg p f):=by
 obtain ⟨wi,g,tt,te,pi,kg,pg,pt,pe,q⟩:=zic (k:=k) (pos:=pos) B hc ho hcap hi hg ht he
 exact ⟨_,zpy B hc pi kg pg pt pe hs,q⟩
end
end L3
namespace L3
open PySem PySem.Spec L2
open PyProof.Rows hiding St
section
variable {X:Cx} {ct:Nat->Addr} {ms:List Mo} {rk n m k:Nat} {st:Stmt} {rest:List Stmt} {a b c e tg:Expr} {f g h:EF} {p q:BF} {u w:SF} {pos:Pos}
def asL:D->Option (List D)
 | .lst ds=>some ds
 | _=>none
theorem zid {d:D} {ds:List D} (h:asL d=some ds):d=.lst ds:=by cases d <;> simp [asL] at h; subst h; rfl
def lsD (f:EF):Env->Option (List D):=fun ρ=>(f ρ).bind asL
theorem zoo {K:PySem.W.Frag} {F B G:Hp} {a:Addr} {vs:List V} {ds:List D} (hp:Pr (Al K ct F B n) ds vs) (keep:∀F' H',Same F F'->Same B H'->Same F' H'->SqL K H' a vs):ItOk K ct F B n (Itl K a) ds:=by
 intro i F' H' s1 s2 s3
 have hs:SqL K H' a vs:=keep F' H' s1 s2 s3
 refine ⟨fun d hd=>?_,fun hl=>⟨vs,hs,by rw [← hp.length]; exact hl⟩⟩
 obtain ⟨v,hv,l⟩:=hp.get' hd
 refine ⟨⟨vs,v,hs,hv⟩,fun x H2 y=>?_⟩
 obtain ⟨e,y⟩:=y
 subst e
 have:=y vs hs
 rw [hv] at this
 cases this
 exact ⟨F',.refl s3,l.mono s1 (.refl _)⟩
theorem Dt.lst_inv {K:PySem.W.Frag} {F:Hp} {ds:List D} {v:V} (h:Dt K ct F (.lst ds) v):∃a vs,v=.ref a/\SqL K F a vs/\Dts K ct F ds vs:=by
 cases h with
 | lst q t=>exact ⟨_,_,rfl,q,t⟩
theorem zaa (he:XE X ct ms 0 e f):XI X ct ms 0 tg e (lsD f):=by
 obtain ⟨t,pt,qt⟩:=he
 refine ⟨_,zj5 pt,fun F0 B F H ρ σ ds R rs e w=>?_⟩
 obtain ⟨d,h1,h2⟩:=bind1 e
 rw [zid h2] at h1
 refine qt F0 B F H ρ σ _ _ rs h1 fun v F' H' x l=>?_
 obtain ⟨a,vs,rfl,ha,hp⟩:=Dt.lst_inv l
 exact ⟨a,rfl,⟨vs,x.fh.seq ha⟩,w _ F' H' x (zoo (G:=H') (n:=0) (hp.pr) fun F2 H2 s1 s2 s3=>s3.seq (s1.seq ha))⟩
theorem ut (he:XE X ct ms n e f):XIc X ct ms (n-1) tg e (lsD f):=by
 obtain ⟨t,pt,qt⟩:=he
 refine ⟨_,zj5 pt,fun F0 B F H ρ σ ds R rs e w=>?_⟩
 obtain ⟨d,h1,h2⟩:=bind1 e
 rw [zid h2] at h1
 refine qt F0 B F H ρ σ _ _ rs h1 fun v F' H' x l=>?_
 obtain ⟨a,vs,rfl,ha,hp⟩:=l.lst x.fh
 exact ⟨a,rfl,⟨vs,ha⟩,w _ F' H' x (zoo (G:=H') hp fun F2 H2 s1 s2 s3=>s2.seq ha)⟩
theorem XI.cc {fi:Env->Option (List D)} (h:XI X ct ms n tg e fi):XIc X ct ms n tg e fi:=by
 obtain ⟨t,pt,qt⟩:=h
 refine ⟨t,pt,fun F0 B F H ρ σ ds R rs e w=>qt F0 B F H ρ σ ds R rs e fun J F' H' x ok=>w J F' H' x fun i F2 H2 s1 s2 s3=>?_⟩
 obtain ⟨k1,k2⟩:=ok i F2 H2 s1 ((rs.ext x).bh.trans s2) s3
 refine ⟨fun d hd=>?_,k2⟩
 obtain ⟨go,yl⟩:=k1 d hd
 refine ⟨go,fun v H3 y=>?_⟩
 obtain ⟨F3,x3,l⟩:=yl v H3 y
 exact ⟨F3,x3,l.mono (.refl _) (rs.ext x).bh⟩
def upto (lo:Int) (j:Nat):List D:=(List.range j).map fun (t:Nat)=>.int (lo+(t:Int))
def rng1:List D->Option (List D)
 | [.int j]=>if -4611686018427387904<=j/\j<4611686018427387904 then some (upto 0 j.toNat) else none
 | _=>none
theorem zsg {K:PySem.W.Frag} {F B:Hp} {lo:Int} {j:Nat}:ItOk K ct F B n (Itr lo j) (upto lo j):=by
 intro i F' H' s1 s2 s3
 unfold upto
 refine ⟨fun d hd=>?_,fun hl=>(show j<=i by simpa using hl)⟩
 rw [List.getElem?_map] at hd
 by_cases h:i<j
 ·rw [List.getElem?_range h] at hd
  cases hd
  refine ⟨h,fun x H2 y=>?_⟩
  obtain ⟨e,y⟩:=y
  subst e
  subst y
  exact ⟨F',.refl s3,Al.of (.int _)⟩
 ·rw [List.getElem?_eq_none (by simpa using h)] at hd
  cases hd
theorem v5 {fs:Env->Option (List D)} {pp:Pos} (hm:X.mg "range"=none) (ha:XA X ct ms [a] [m] fs) (hg:Gl X "range":=by rfl) (hs:starEach [a] X.env=[(false,eval a X.env)]:=by rfl):XI X ct ms n tg (.Call (.Name "range" pp) [a] [] pos) (fun ρ=>(fs ρ).bind rng1):=by
 obtain ⟨t,pt,_,qt⟩:=ha
 refine ⟨_,zj6 hg hm pt hs,fun F0 B F H ρ σ ds R rs e w=>?_⟩
 obtain ⟨ds',h1,h2⟩:=bind1 e
 refine qt F0 B F H ρ σ _ _ rs h1 fun vs F' H' x l=>?_
 cases l with
 | cons h t =>
  cases t
  rename_i d v
  cases d with
  | int j =>
   unfold rng1 at h2
   dsimp only at h2
   by_cases hj:-4611686018427387904<=j/\j<4611686018427387904
   ·rw [if_pos hj] at h2
    cases h2
    exact ⟨j,by rw [h.int],by omega,by omega,w _ F' H' x zsg⟩
   ·rw [if_neg hj] at h2; cases h2
  | _=>cases h2
def enumD (i:Nat):List D->List D
 | []=>[]
 | d::ds=>.tup [.int i,d]::enumD (i+1) ds
theorem zdi:∀{ds:List D} {j i:Nat} {d:D},(enumD j ds)[i]?=some d->∃x,ds[i]?=some x/\d=.tup [.int (j+i:Nat),x]
 | [],_,_,_,h=>by simp [enumD] at h
 | x::ds,j,0,d,h=>by simp [enumD] at h; subst h; exact ⟨x,rfl,rfl⟩
 | x::ds,j,i+1,d,h=>by
  obtain ⟨y,h1,h2⟩:=zdi (ds:=ds) (j:=j+1) (i:=i) (d:=d) (by simpa [enumD] using h)
  exact ⟨y,by simpa using h1,by rw [h2,Nat.add_assoc,Nat.add_comm 1 i]⟩
theorem zga:∀{ds:List D} {j:Nat},(enumD j ds).length=ds.length
 | [],_=>rfl
 | _::ds,j=>by simp [enumD,zga (ds:=ds)]
theorem zop {K:PySem.W.Frag} {F B:Hp} {a:Addr} {vs:List V} {ds:List D} (hp:Pr (Al K ct F B n) ds vs) (keep:∀F' H',Same F F'->Same B H'->Same F' H'->SqL K H' a vs):ItOk K ct F B (n+1) (Ite K a) (enumD 0 ds):=by
 intro i F' H' s1 s2 s3
 have hs:SqL K H' a vs:=keep F' H' s1 s2 s3
 refine ⟨fun d hd=>?_,fun hl=>⟨vs,hs,by rw [← hp.length]; rw [zga] at hl; exact hl⟩⟩
 obtain ⟨x,hx,rfl⟩:=zdi hd
 obtain ⟨v,hv,l⟩:=hp.get' hx
 refine ⟨⟨vs,v,hs,hv⟩,fun z H2 y=>?_⟩
 obtain ⟨r,y',hr,rfl,rfl,y⟩:=y
 have:=y vs hs
 rw [hv] at this
 cases this
 refine ⟨_,Ext.newS s3 hr _,.inr (.tup y3 (.cons (Al.of ?_) (.cons (l.mono (s1.trans (zby (s3.free hr) _)) (.refl _)) .nil)))⟩
 rw [Nat.zero_add]
 exact .int _
theorem zp3 {fs:Env->Option (List D)} {elts:List Expr} {kt:Nat} {pt pp:Pos} (hm:X.mg "enumerate"=none) (ha:XA X ct ms [a] [0] fs) (hg:Gl X "enumerate":=by rfl) (hs:starEach [a] X.env=[(false,eval a X.env)]:=by rfl) :
  XI X ct ms 1 (.Tuple elts kt pt) (.Call (.Name "enumerate" pp) [a] [] pos) (fun ρ=>(fs ρ).bind fun ds=>match ds with | [.lst xs]=>some (enumD 0 xs) | _=>none):=by
 obtain ⟨t,pt,_,qt⟩:=ha
 refine ⟨_,zkt hg hm pt hs,fun F0 B F H ρ σ ds R rs e w=>?_⟩
 obtain ⟨ds',h1,h2⟩:=bind1 e
 refine qt F0 B F H ρ σ _ _ rs h1 fun vs F' H' x l=>?_
 cases l with
 | cons h t =>
  cases t
  rename_i d v
  cases d with
  | lst xs =>
   cases h2
   obtain ⟨a,vs,rfl,ha,hp⟩:=Dt.lst_inv h
   exact ⟨a,rfl,⟨vs,x.fh.seq ha⟩,w _ F' H' x (zop (n:=0) hp.pr fun F2 H2 s1 s2 s3=>s3.seq (s1.seq ha))⟩
  | _=>cases h2
theorem zie {fs:Env->Option (List D)} {elts:List Expr} {kt:Nat} {pt pp:Pos} (hm:X.mg "enumerate"=none) (ha:XA X ct ms [a] [n] fs) (hg:Gl X "enumerate":=by rfl) (hs:starEach [a] X.env=[(false,eval a X.env)]:=by rfl) :
  XIc X ct ms (n-1+1) (.Tuple elts kt pt) (.Call (.Name "enumerate" pp) [a] [] pos) (fun ρ=>(fs ρ).bind fun ds=>match ds with | [.lst xs]=>some (enumD 0 xs) | _=>none):=by
 obtain ⟨t,pt,_,qt⟩:=ha
 refine ⟨_,zkt hg hm pt hs,fun F0 B F H ρ σ ds R rs e w=>?_⟩
 obtain ⟨ds',h1,h2⟩:=bind1 e
 refine qt F0 B F H ρ σ _ _ rs h1 fun vs F' H' x l=>?_
 cases l with
 | cons h t =>
  cases t
  rename_i d v
  cases d with
  | lst xs =>
   cases h2
   obtain ⟨a,vs,rfl,ha,hp⟩:=h.lst x.fh
   exact ⟨a,rfl,⟨vs,ha⟩,w _ F' H' x (zop hp fun F2 H2 s1 s2 s3=>s2.seq ha)⟩
  | _=>cases h2
end
end L3
namespace L3
open PySem PySem.Spec L2
open PyProof.Rows hiding St
section
variable {X:Cx} {ct:Nat->Addr} {ms:List Mo} {rk n m k:Nat} {st:Stmt} {rest:List Stmt} {a b c e tg:Expr} {f g h:EF} {p q:BF} {u w:SF} {pos:Pos}
theorem Ow.lst_inv {K:PySem.W.Frag} {F H:Hp} {ds:List D} {v:V} {fp:List Addr} (h:Ow K ct F H (k+1) (.lst ds) v fp):∃a vs fr,v=.ref a/\fp=a::fr/\F a=none/\H a=some (.lst vs)/\OwL (Ow K ct F H k) ds vs fr:=by
 rcases h with ⟨h,_⟩ | h
 ·cases h
 ·cases h with
  | lst h1 h2 h3=>exact ⟨_,_,_,rfl,rfl,h1,h2,h3⟩
theorem Ow.dK_inv {K:PySem.W.Frag} {F H:Hp} {ks:List Key} {ds:List D} {v:V} {fp:List Addr} (h:Ow K ct F H (k+1) (.dK ks ds) v fp):∃a vs fr,v=.ref a/\fp=a::fr/\F a=none/\H a=some (.dK (ks.zip vs))/\ks.length=vs.length/\OwL (Ow K ct F H k) ds vs fr:=by
 rcases h with ⟨h,_⟩ | h
 ·cases h
 ·cases h with
  | dK h1 h2 h3 h4=>exact ⟨_,_,_,rfl,rfl,h1,h2,h3,h4⟩
theorem Ow.dT_inv {K:PySem.W.Frag} {F H:Hp} {ks:List (List Key)} {ds:List D} {v:V} {fp:List Addr} (h:Ow K ct F H (k+1) (.dT ks ds) v fp):∃a vs fr,v=.ref a/\fp=a::fr/\F a=none/\H a=some (.dT (ks.zip vs))/\ks.length=vs.length/\OwL (Ow K ct F H k) ds vs fr:=by
 rcases h with ⟨h,_⟩ | h
 ·cases h
 ·cases h with
  | dT h1 h2 h3 h4=>exact ⟨_,_,_,rfl,rfl,h1,h2,h3,h4⟩
theorem RS.change {K:PySem.W.Frag} {F0 B F H F' H':Hp} {ρ:Env} {σ:St} {i:Nat} {d':D} {v:V} {f1 fr fn:List Addr} {ad:Addr} {o:HO} (rs:RS K ct F0 B ms F H ρ σ) (hm:ms[i]?=some (.ow k)) (x:Ext F H F' H')
  (hσ:σ[i]?=some (some v)) (b1:∀a∈f1,B a=none) (dj:∀a∈f1,a∉fr) (cf:∀a∈fr,F a=none/\∃o,H a=some o)
  (put:∀(F' H':Hp) (d':D) (v':V) (f':List Addr),Same F F'->Same B H'->Same F' H'->(∀a o,B a=some o->F0 a=none->F' a=none)->(∀a∈fr,H' a=H a/\F' a=none)->Ow K ct F' H' k d' v' f'->f'.Nodup->(∀a∈f',a∉fr)->(∀a∈f',B a=none) ->
    RS K ct F0 B ms F' H' (ρ.set i (some d')) (σ.set i (some v')))
  (had:ad∈f1) (fad:F' ad=none) (o':Ow K ct F' (upd H' ad o) k d' v fn) (nd:fn.Nodup) (hfn:∀a∈fn,a∈f1\/H a=none):RS K ct F0 B ms F' (upd H' ad o) (ρ.set i (some d')) σ:=by
 have r:=rs.ext x
 have hB:B ad=none:=b1 ad had
 have res:=put F' (upd H' ad o) d' v fn x.ff (fun z u h=>by rw [yu (fun e=>by rw [e,hB] at h; cases h)]; exact r.bh _ _ h) (fun z u h=>by rw [yu (fun e=>by rw [e,fad] at h; cases h)]; exact x.fh _ _ h) r.nf
  (fun z hz=>by
   obtain ⟨hn,o,ho⟩:=cf z hz
   refine ⟨?_,x.nf z o ho hn⟩
   have ne:z≠ad:=fun e=>dj ad had (by rw [← e]; exact hz)
   rw [yu ne]
   exact (x.hh _ _ ho).trans ho.symm) o' nd
  (fun z hz zr=>by
   rcases hfn z hz with h | h
   ·exact dj z h zr
   ·obtain ⟨_,o,ho⟩:=cf z zr
    rw [h] at ho
    cases ho)
  (fun z hz=>(hfn z hz).elim (b1 z) fun h=>rs.bh.free h)
 have e:σ.set i (some v) = σ:=by
  apply List.ext_getElem?
  intro j
  by_cases hj:i=j
  ·subst hj
   rw [List.getElem?_set_self (by
    have:=List.getElem?_eq_some_iff.mp hσ
    exact this.1),hσ]
  ·rw [List.getElem?_set_ne hj]
 rw [e] at res
 exact res
def sApp (i:Nat) (f:EF):SF:=fun ρ=>(eV i ρ).bind fun o=>(f ρ).bind fun d=>match o with
 | .lst ds=>if ds.length<16777216 then some (.nx (ρ.set i (some (.lst (ds++[d]))))) else none
 | _=>none
theorem zax (i:Nat) {x:Str} {p1 apos cpos:Pos} (hm:ms[i]?=some (.ow (k+1))) (he:XO X ct ms k e f) (hN:X.N[i]?=some x:=by rfl) (hv:Vis X.env.scope x:=by first | exact Or.inl rfl | exact Or.inr (Or.inl rfl) | exact Or.inr (Or.inr rfl)) (hd:(x == ("__debug__":Str))=false:=by decide)
  (hcd:(x == ("__classdict__":Str))=false:=by decide) (hst:starEach [e] X.env=(false,eval e X.env)::starEach [] X.env:=by rfl)
  (hbase:attributeBase (.Name x p1) "append" X.env (eval (.Name x p1) X.env)=eval (.Name x p1) X.env:=by rfl)
  (hfew:((backTo cpos (starEach [e] X.env)).all (fun x=>!x.1) && (backToKw cpos (keywordEach [] X.env)).all (fun x=>x.1.isSome)
   && decide ([e].length+([]:List Keyword).length+(if ([]:List Keyword).isEmpty then 0 else 1)<30))=true:=by rfl)
  (hline:(apos.endLine == cpos.line)=true:=by rfl) (hplain:(backTo cpos (starEach [] X.env)).any (·.1)=false:=by rfl)
  (hsw:swapsWith (.Call (.Attribute (.Name x p1) "append" apos) [e] [] cpos) none pos.line X.env=pure false:=by rfl) :
  XS X ct ms rk (.Expr (.Call (.Attribute (.Name x p1) "append" apos) [e] [] cpos) pos) (sApp i f):=by
 obtain ⟨t,pt,qt⟩:=he
 refine ⟨_,zg6 (zmq PySem.F.plainAttrs_list PySem.F.slot_list_append PySem.F.type_list_append zbw (zat hN hv hd hcd) (ux pt zbj hst) hbase hfew hline hst hplain) hsw,fun F0 B F H ρ σ o E rs e z=>?_⟩
 obtain ⟨d1,d2,h1,h2,h3⟩:=bind2 e
 obtain ⟨f1,fr,n1,b1,dj,i4,cf,put⟩:=rs.put (F':=F) (H':=H) hm
 obtain ⟨v,hσ,ow⟩:=i4 d1 (wj h1)
 refine ⟨v,hσ,?_⟩
 cases d1 with
 | lst ds =>
  dsimp only at h3
  by_cases hz:ds.length<16777216
  ·rw [if_pos hz] at h3
   cases h3
   obtain ⟨ad,vs,fr1,rfl,rfl,hF,hH,ol⟩:=ow.lst_inv
   refine ⟨.inl ⟨rfl,_,SqL.of hH⟩,qt F0 B F H ρ σ d2 _ rs h2 fun v2 F' H' fp x1 o2 nd2 hf2=>?_⟩
   have hA:H' ad=some (.lst vs):=x1.hh _ _ hH
   have fA:F' ad=none:=x1.nf ad _ hH hF
   have nA:∀a∈fp,a≠ad:=fun a hz e=>by rw [e] at hz; rw [hf2 ad hz] at hH; cases hH
   have n1':=List.nodup_cons.mp n1
   refine ⟨ad,vs,v2,rfl,rfl,hA,by rw [← ol.length,sizeLine_eq]; exact hz,?_⟩
   refine z σ F' _ (rs.change hm x1 hσ b1 dj cf put List.mem_cons_self fA (.inr (.lst fA y3 ((ol.mono fun _ _ f' hi o'=>?_).append (.cons (f:=fp) ?_ .nil)))) (fn:=ad::(fr1++(fp++[]))) ?_ ?_)
   ·refine (o'.ext x1).frame (.refl _) fun a ha=>⟨yu fun e=>n1'.1 (e ▸ hi a ha),((o'.ext x1).cells a ha).1⟩
   ·exact o2.frame (.refl _) fun a ha=>⟨yu (nA a ha),(o2.cells a ha).1⟩
   ·rw [List.append_nil]
    refine List.nodup_cons.mpr ⟨fun hz=>?_,List.nodup_append.mpr ⟨n1'.2,nd2,fun a ha b hb e=>?_⟩⟩
    ·rcases List.mem_append.mp hz with hz | hz
     ·exact n1'.1 hz
     ·exact nA ad hz rfl
    ·subst e
     obtain ⟨_,o,ho⟩:=OwL.cellsOf ol a ha
     rw [hf2 a hb] at ho
     cases ho
   ·intro a ha
    rw [List.append_nil] at ha
    rcases List.mem_cons.mp ha with rfl | ha
    ·exact .inl List.mem_cons_self
    ·rcases List.mem_append.mp ha with ha | ha
     ·exact .inl (List.mem_cons_of_mem _ ha)
     ·exact .inr (hf2 a ha)
  ·rw [if_neg hz] at h3; cases h3
 | _=>cases h3
def setAt (ds:List D) (i:Int) (d:D):Option (List D):=(ixN ds.length i).bind fun j=>some (ds.set j d)
def putK' {κ:Type} [DecidableEq κ] (ks:List κ) (ds:List D) (k:κ) (d:D):List κ×List D:=if ks.contains k=true then (ks,(ks.zip ds).map fun p=>if p.1=k then d else p.2) else (ks++[k],ds++[d])
def sPutL (i:Nat) (fj f:EF):SF:=fun ρ=>(f ρ).bind fun d=>(eV i ρ).bind fun o=>(fj ρ).bind fun j=>match o,j with
 | .lst ds,.int z=>(setAt ds z d).bind fun ds'=>some (.nx (ρ.set i (some (.lst ds'))))
 | _,_=>none
theorem OwL.set0 {R:D->V->List Addr->Prop} {d:D} {v:V} (r:R d v []) (z:∀d v f,R d v f->f=[]):∀{ds:List D} {vs:List V} {fp:List Addr} (i:Nat),OwL R ds vs fp->OwL R (ds.set i d) (vs.set i v) []
 | _,_,_,_,.nil=>.nil
 | _,_,_,0,.cons h t=>by
  have:=OwL.cons (f:=[]) (g:=[]) r (OwL.ofPr (t.pr fun d v f _ q=>by have:=z _ _ _ q; subst this; exact q))
  exact this
 | _,_,_,i+1,.cons h t=>by
  have e:=z _ _ _ h
  subst e
  exact OwL.cons (f:=[]) (g:=[]) h (OwL.set0 r z i t)
theorem Ow.nil0 {K:PySem.W.Frag} {F H:Hp} {d:D} {v:V} {fp:List Addr} (h:Ow K ct F H 0 d v fp):fp=[]:=h.2
theorem OwL.nil0 {K:PySem.W.Frag} {F H:Hp}:∀{ds:List D} {vs:List V} {fp:List Addr},OwL (Ow K ct F H 0) ds vs fp->fp=[]
 | _,_,_,.nil=>rfl
 | _,_,_,.cons h t=>by rw [h.nil0,OwL.nil0 t]; rfl
theorem zk1 (i:Nat) {x:Str} {j:Expr} {p1 tpos:Pos} {fj:EF} (hm:ms[i]?=some (.ow 1)) (hj:XE X ct ms n j fj) (he:XE X ct ms 0 e f) (hN:X.N[i]?=some x:=by rfl) (hv:Vis X.env.scope x:=by first | exact Or.inl rfl | exact Or.inr (Or.inl rfl) | exact Or.inr (Or.inr rfl)) (hd:(x == ("__debug__":Str))=false:=by decide)
  (hcd:(x == ("__classdict__":Str))=false:=by decide)
  (ha:∀v,assign (.Subscript (.Name x p1) j tpos) X.env v=(do
   let ov ← holding [v] (eval (.Name x p1) X.env)
   let iv ← holding [v,ov] (eval j X.env)
   standAt tpos
   holding [v,ov,iv] (setItem ov iv v)
   release [v,ov,iv] []):=by intro _; rfl)
  (hs:swapsWithSole [.Subscript (.Name x p1) j tpos] e pos.line X.env=pure false:=by rfl) (hw:swappedStores [.Subscript (.Name x p1) j tpos] e X.env=pure none:=by rfl)
  (h1:(assignEach [.Subscript (.Name x p1) j tpos] X.env).map (·.2)=[assign (.Subscript (.Name x p1) j tpos) X.env]:=by rfl) :
  XS X ct ms rk (.Assign [.Subscript (.Name x p1) j tpos] e pos) (sPutL i fj f):=by
 obtain ⟨t,pt,qt⟩:=he
 obtain ⟨tj,ptj,qtj⟩:=hj
 refine ⟨_,zof pt (zro (zat hN hv hd hcd) ptj zh3 ha) hs hw h1,fun F0 B F H ρ σ o E rs e z=>?_⟩
 obtain ⟨d,g1,g2⟩:=bind1 e
 obtain ⟨d1,dj',g3,g4,g5⟩:=bind2 g2
 refine qt F0 B F H ρ σ d _ rs g1 fun v0 F1 H1 x1 l0=>?_
 have rs1:=rs.ext x1
 obtain ⟨f1,fr,n1,b1,dj,i4,cf,put⟩:=rs1.put (F':=F) (H':=H) hm
 obtain ⟨v,hσ,ow⟩:=i4 d1 (wj g3)
 refine ⟨v,hσ,qtj F0 B F1 H1 ρ σ dj' _ rs1 g4 fun vj F2 H2 x2 lj=>?_⟩
 cases d1 with
 | lst ds =>
  cases dj' with
  | int zi =>
   obtain ⟨ds',g6,g7⟩:=bind1 g5
   cases g7
   obtain ⟨jn,g8,g9⟩:=bind1 g6
   cases g9
   obtain ⟨ad,vs,fr1,rfl,rfl,hF,hH,ol⟩:=ow.lst_inv
   have hA:H2 ad=some (.lst vs):=x2.hh _ _ hH
   have fA:F2 ad=none:=x2.nf ad _ hH hF
   have e0:=ol.nil0
   subst e0
   refine ⟨ad,vs,zi,jn,rfl,lj.int,hA,by rw [← ol.length]; exact g8,?_⟩
   refine z σ F2 _ (rs1.change hm x2 hσ b1 dj cf put List.mem_cons_self fA (.inr (.lst fA y3 (OwL.set0 ⟨Dt.mono x2.ff l0,rfl⟩ (fun _ _ _ q=>q.2) jn (ol.mono fun _ _ _ _ q=>⟨q.1.mono x2.ff,q.2⟩)))) (fn:=[ad]) (by simp) ?_)
   intro a ha
   rw [List.mem_singleton] at ha
   subst ha
   exact .inl List.mem_cons_self
  | _=>cases g5
 | _=>cases g5
end
end L3
namespace L3
open PySem PySem.Spec L2
open PyProof.Rows hiding St
section
variable {X:Cx} {ct:Nat->Addr} {ms:List Mo} {rk n m k:Nat} {st:Stmt} {rest:List Stmt} {a b c e tg:Expr} {f g h:EF} {p q:BF} {u w:SF} {pos:Pos} {K:PySem.W.Frag}
theorem lstR {pins:List (Addr×Obj)} {σ:St} {H:Hp} {s:Shared} {l:Addr} {xs:List V} (I:Inv X pins σ H s) (hH:Rd H l (.lst xs)):xs.length<=sizeLine/\∃(its:List Value) (n:Nat),Vals xs its/\xs.length=its.length/\s.heap.get? l=some { cls:=.type "list",data:=.seq its.toArray n }:=by
  obtain ⟨z,its,n,r,e⟩:=hH.ok I.hok
  exact ⟨z,its,n,r,r.length,e⟩
def rCatR (K:PySem.W.Frag):R2:=fun x y H Q=>∃l b xs zs,x=.ref l/\y=.ref b/\SqL K H l xs/\SqL K H b zs/\xs.length+zs.length<=sizeLine/\∀p,H p=none->Q (.ref p) (upd H p (.lst (xs++zs)))
theorem zp4:OpR X (binaryOp .Add) (rCatR X.K):=by
 intro pins s σ H x y v u Q I rx ry h
 obtain ⟨l,b,xs,zs,rfl,rfl,hH,hB,hz,q⟩:=h
 cases rx
 cases ry
 obtain ⟨its,r,⟨⟨cls,dd,data,sl⟩,n,e,c1,c2,c3⟩,z⟩:=I.list hH
 obtain ⟨its2,r2,⟨⟨cls2,dd2,data2,sl2⟩,n2,e2,c4,c5,c6⟩,z2⟩:=I.list hB
 simp only at c1 c3 c4 c6
 subst c1 c3 c4 c6
 have hl:=r.length
 have hl2:=r2.length
 refine concat_meets ⟨_,e,rfl⟩ ⟨_,e2,rfl⟩ noFill_list_add seq_list_add PySem.F.slot_list_add PySem.F.entry_list_add (PySem.F.args_list_add_2 _ _) (list_addW l b its.toArray its2.toArray n n2 dd dd2 sl sl2 (by rw [List.size_toArray,List.size_toArray]; omega)) ⟨e,e2,?_⟩
 have ea:its.toArray++its2.toArray=(its++its2).toArray:=by simp
 rw [ea]
 exact ⟨.ref _,_,I.lnew (t':=s.toks) (r.append r2) (by rw [List.length_append]; omega),rfl,q _ I.fresh⟩
def rAddS:R2:=fun x y H Q=>∃i j,x=.str i/\y=.str j/\i.length+j.length<=sizeLine/\Q (.str (i++j)) H
def rAdd (K:PySem.W.Frag):R2:=fun x y H Q=>rI0 (fun i j=>.int (i+j)) x y H Q\/rAddS x y H Q\/rCatR K x y H Q\/rCatT K x y H Q
theorem yr:OpR X (binaryOp .Add) (rAdd X.K):=OpR.or zru (OpR.or zja (OpR.or zp4 zpm))
def addD:D->D->Option D
 | .int i,.int j=>some (.int (i+j))
 | .str x,.str y=>if x.length+y.length<=16777216 then some (.str (x++y)) else none
 | .lst xs,.lst ys=>if xs.length+ys.length<=16777216 then some (.lst (xs++ys)) else none
 | .tup xs,.tup ys=>if xs.isEmpty=false/\ys.isEmpty=false/\xs.length+ys.length<=1000000 then some (.tup (xs++ys)) else none
 | _,_=>none
theorem Pr.ow0 {F G H:Hp} {ds:List D} {vs:List V} (h:Pr (Al K ct F G 0) ds vs):OwL (Ow K ct F H 0) ds vs []:=OwL.ofPr (h.mono fun _ _ q=>⟨q,rfl⟩)
theorem Al.lst1 {F G:Hp} {ds:List D} {v:V} (hn:n<=1) (h:Al K ct F G n (.lst ds) v) (s:Same F G):∃a vs,v=.ref a/\SqL K G a vs/\Pr (Al K ct F G 0) ds vs:=by
 obtain ⟨a,vs,e,h1,h2⟩:=h.lst s
 have:n-1=0:=by omega
 rw [this] at h2
 exact ⟨a,vs,e,h1,h2⟩
theorem Al.tup1 {F G:Hp} {ds:List D} {v:V} (hn:n<=1) (h:Al K ct F G n (.tup ds) v) (s:Same F G):∃a vs,v=.ref a/\G a=some (.tup vs)/\Pr (Al K ct F G 0) ds vs:=by
 obtain ⟨a,vs,e,h1,h2⟩:=h.tup s
 have:n-1=0:=by omega
 rw [this] at h2
 exact ⟨a,vs,e,h1,h2⟩
theorem zbp {F H:Hp} {ds:List D} {vs:List V} {Q:VK} (s:Same F H) (hp:Pr (Al K ct F H 0) ds vs) (w:∀v F' H' fp,Ext F H F' H'->Ow K ct F' H' 1 (.lst ds) v fp->fp.Nodup->(∀a∈fp,H a=none)->Q v H'):∀p,H p=none->Q (.ref p) (upd H p (.lst vs)):=fun p h0=>by
 obtain ⟨o,nd⟩:=zku s (hp.ow0 (H:=H)) h0
 exact w _ F _ [p] (Ext.newO s h0 _) o (nd List.nodup_nil) fun a z=>by rw [List.mem_singleton] at z; subst z; exact h0
theorem yt (hn:n<=1) (hm:m<=1):Op2O K ct n m 1 (rAdd K) addD:=by
 intro F H x y d1 d2 d Q s l1 l2 e w
 have ws:∀d v,d.sc=true->Dt K ct F d v->(∀v F' H' fp,Ext F H F' H'->Ow K ct F' H' 1 d v fp->fp.Nodup->(∀a∈fp,H a=none)->Q v H')->Q v H:=fun d v hs hd w=>w v F H [] (.refl s) (Ow.scal hd hs) List.nodup_nil fun a z=>(by cases z)
 cases d1 with
 | int i =>
  cases d2 with
  | int j=>cases e; exact .inl ⟨i,j,l1.int,l2.int,ws _ _ rfl (.int _) w⟩
  | _=>cases e
 | str i =>
  cases d2 with
  | str j =>
   unfold addD at e
   dsimp only at e
   by_cases hz:i.length+j.length<=16777216
   ·rw [if_pos hz] at e
    cases e
    exact .inr (.inl ⟨i,j,l1.str,l2.str,by rw [sizeLine_eq]; exact hz,ws _ _ rfl (.str _) w⟩)
   ·rw [if_neg hz] at e; cases e
  | _=>cases e
 | lst xs =>
  cases d2 with
  | lst ys =>
   unfold addD at e
   dsimp only at e
   by_cases hz:xs.length+ys.length<=16777216
   ·rw [if_pos hz] at e
    cases e
    obtain ⟨a,vs,rfl,ha,hp⟩:=Al.lst1 hn l1 s
    obtain ⟨b,us,rfl,hb,hq⟩:=Al.lst1 hm l2 s
    exact .inr (.inr (.inl ⟨a,b,vs,us,rfl,rfl,ha,hb,by rw [← hp.length,← hq.length,sizeLine_eq]; exact hz,zbp s (hp.append hq) w⟩))
   ·rw [if_neg hz] at e; cases e
  | _=>cases e
 | tup xs =>
  cases d2 with
  | tup ys =>
   unfold addD at e
   dsimp only at e
   by_cases hz:xs.isEmpty=false/\ys.isEmpty=false/\xs.length+ys.length<=1000000
   ·rw [if_pos hz] at e
    cases e
    obtain ⟨a,vs,rfl,ha,hp⟩:=Al.tup1 hn l1 s
    obtain ⟨b,us,rfl,hb,hq⟩:=Al.tup1 hm l2 s
    have hl:=hp.length
    have hl2:=hq.length
    have e1:vs≠[]:=fun z=>by
     rw [z] at hl
     have:=List.length_eq_zero_iff.mp hl
     rw [this] at hz
     exact absurd hz.1 (by decide)
    have e2:us≠[]:=fun z=>by
     rw [z] at hl2
     have:=List.length_eq_zero_iff.mp hl2
     rw [this] at hz
     exact absurd hz.2.1 (by decide)
    refine .inr (.inr (.inr ⟨a,b,vs,us,rfl,rfl,SqT.of ha,SqT.of hb,e1,by rw [← hl,← hl2,sizeLine_eq]; omega,fun z=>absurd z e2,fun _ p h0=>?_⟩))
    have x2:=Ext.newS s h0 (.tup (vs++us))
    exact w _ _ _ [] x2 (.inr (.tup y3 (OwL.ofPr ((hp.append hq).mono fun _ _ q=>⟨Dt.mono x2.ff q,rfl⟩)))) List.nodup_nil fun a z=>(by cases z)
   ·rw [if_neg hz] at e; cases e
  | _=>cases e
 | _=>cases e
def rRepR:R2:=fun x y H Q=>∃l k xs,x=.ref l/\y=.int k/\Rd H l (.lst xs)/\-(2 ^ 63)<=k/\k<2 ^ 63/\xs.length * k.toNat<=sizeLine /\
 ∀p,H p=none->Q (.ref p) (upd H p (.lst (List.replicate k.toNat xs).flatten))
theorem zp5:OpR X (binaryOp .Mult) rRepR:=by
 intro pins s σ H x y v u Q I rx ry h
 obtain ⟨l,k,xs,rfl,rfl,hH,h1,h2,hz,q⟩:=h
 cases rx
 obtain ⟨t,rfl⟩:=ry
 obtain ⟨z,its,n,r,hl,e⟩:=lstR I hH
 have hlen:its.toArray.size * k.toNat<=sizeLine:=by rw [List.size_toArray,← hl]; exact hz
 have hcap:¬its.toArray.size * k.toNat > (2 ^ 63-1) / 8:=by
  have:(sizeLine:Nat)<=(2 ^ 63-1) / 8:=by decide
  omega
 have hfit:¬(!Builtin.List.listFitsIndex k)=true:=by
  rw [fitsIndex_both h1 h2]
  exact Bool.false_ne_true
 have hlong:¬Builtin.List.listTooLong (its.toArray.size * k.toNat)=true:=by
  rw [notLongL hlen]
  exact Bool.false_ne_true
 have hnew:List.foldl (fun x1 x2=>x1++x2) #[] (List.replicate (if its.toArray.isEmpty=true then 0 else k.toNat) its.toArray)=(List.replicate k.toNat its).flatten.toArray:=by
  have f0:∀m:Nat,List.foldl (fun x1 x2=>x1++x2) #[] (List.replicate m its.toArray)=(List.replicate m its).flatten.toArray:=fun m=>by
   have:=zf3 its m []
   rw [List.nil_append] at this
   exact this
  rw [f0]
  cases its with
  | nil=>simp
  | cons a r'=>rw [if_neg (by simp)]
 refine wpAny_binaryOp_repeat_ref (T:="list") (U:="int") (by decide) ⟨_,e,rfl⟩ (fun s'=>typeIs_int s' k t) noFill_list_mul F.fills_int_mul F.slot_int_rmul repeat_list F.slot_int_index.lookup
  (call_meets F.slot_int_rmul (typeIs_int s k t) F.entry_int_rmul (F.args_int_rmul_2 _ _) (int___rmul___int_list k t l its.toArray n)
   ⟨e,rfl,⟨_,e,rfl⟩,call_meets F.slot_list_mul ⟨_,e,rfl⟩ F.entry_list_mul (F.args_list_mul_2 _ _) (AutoListH.list___mul___list_int_3 l its.toArray n k t hfit hcap hlong) ⟨e,?_⟩⟩)
 rw [hnew]
 exact ⟨.ref _,_,I.lnew (t':=s.toks) (r.rep k.toNat) (by rw [zpp,Nat.mul_comm]; exact hz),rfl,q _ I.fresh⟩
theorem yq:Op2 K ct n m k (rI CMulS fun i j=>.int (i * j)) mulI:=zp0
def repD:D->D->Option D
 | .lst xs,.int j=>if -1000000<j/\j<1000000/\xs.length<=16 then some (.lst (List.replicate j.toNat xs).flatten) else none
 | _,_=>none
theorem zsh (ha:XO X ct ms 1 a f) (hb:XE X ct ms m b g):XO X ct ms 1 (.BinOp a .Mult b pos) (e2 repD f g):=by
 obtain ⟨ta,pa,qa⟩:=ha
 obtain ⟨tb,pb,qb⟩:=hb
 refine ⟨_,zo8 zp5 pa pb,fun F0 B F H ρ σ d Q rs e w=>?_⟩
 obtain ⟨d1,d2,h1,h2,h3⟩:=bind2 e
 refine qa F0 B F H ρ σ d1 _ rs h1 fun v F1 H1 fp x1 o nd hf=>?_
 refine qb F0 B F1 H1 ρ σ d2 _ (rs.ext x1) h2 fun v2 F2 H2 x2 l2=>?_
 cases d1 with
 | lst xs =>
  cases d2 with
  | int j =>
   unfold repD at h3
   dsimp only at h3
   by_cases hz:-1000000<j/\j<1000000/\xs.length<=16
   ·rw [if_pos hz] at h3
    cases h3
    obtain ⟨ad,vs,fr,rfl,rfl,hF,hH,ol⟩:=(o.ext x2).lst_inv
    have hp:Pr (Al X.K ct F2 H2 0) xs vs:=ol.pr fun _ _ _ _ q=>q.1
    have x12:=x1.trans x2
    refine ⟨ad,j,vs,rfl,l2.int,.inl hH,by omega,by omega,?_,zbp x2.fh (hp.rep _) fun v F' H' fp x o nd hf=>w v F' H' fp (x12.trans x) o nd fun z hz=>x12.hh.free (hf z hz)⟩
    rw [← hp.length,sizeLine_eq]
    have h1:j.toNat<=1000000:=by omega
    have h2:xs.length * j.toNat<=16 * 1000000:=Nat.mul_le_mul hz.2.2 h1
    omega
   ·rw [if_neg hz] at h3; cases h3
  | _=>cases h3
 | _=>cases h3
def negD:D->Option D
 | .int i=>some (.int (-i))
 | _=>none
theorem zbl (ha:XE X ct ms n a f):XE X ct ms k (.UnaryOp .USub a pos) (e1 negD f):=by
 refine ztl zrw (fun F H x d1 d Q s l e w=>?_) ha
 cases d1 with
 | int i=>cases e; exact ⟨i,l.int,w _ F H (.refl s) (Al.of (.int _))⟩
 | _=>cases e
theorem zdj {x:Str} {d:D} {u:Value} (hg:Gl X x) (hm:X.mg x=some u) (hs:d.sc=true) (r:RelV d.v u) (hd:(x == ("__debug__":Str))=false:=by decide):XE X ct ms n (.Name x pos) (eC d):=by
 refine ⟨_,zj0 hg hm r hd,fun F0 B F H ρ σ d' Q rs e w=>?_⟩
 cases e
 refine w _ F H (.refl rs.fh) (Al.of ?_)
 cases d with
 | non=>exact .non
 | bl b=>exact .bl b
 | int b=>exact .int b
 | str b=>exact .str b
 | _=>cases hs
def listD:List D->Option D
 | [.lst ds]=>some (.lst ds)
 | [.tup ds]=>some (.lst ds)
 | _=>none
theorem zc1 (hn:n<=1):OpNO K ct [n] 1 (fun xs H Q=>∃p ys,xs=[.ref p]/\(SqL K H p ys\/SqT K H p ys)/\∀l,H l=none->Q (.ref l) (upd H l (.lst ys))) listD:=by
 intro F H vs ds d Q s l e w
 cases l with
 | cons h t =>
  cases t
  rename_i d1 v
  cases d1 with
  | lst xs =>
   cases e
   obtain ⟨a,us,rfl,ha,hp⟩:=Al.lst1 hn h s
   exact ⟨a,us,rfl,.inl ha,zbp s hp w⟩
  | tup xs =>
   cases e
   obtain ⟨a,us,rfl,ha,hp⟩:=Al.tup1 hn h s
   exact ⟨a,us,rfl,.inr (SqT.of ha),zbp s hp w⟩
  | _=>cases e
abbrev PF:=Env->Option (Option Int)
def pNo:PF:=fun _=>some none
def pInt (f:EF):PF:=fun ρ=>(f ρ).bind fun d=>match d with
 | .int i=>some (some i)
 | _=>none
def XP (X:Cx) (ct:Nat->Addr) (ms:List Mo) (e:Option Expr) (f:PF):Prop:=∃t,PO X e t/\∀(F0 B F H:Hp) (ρ:Env) (σ:St) (o:Option Int) (Q:Option Int->Hp->Prop),RS X.K ct F0 B ms F H ρ σ->f ρ=some o->(∀F' H',Ext F H F' H'->Q o H')->t σ H Q
theorem zcy:XP X ct ms none pNo:=⟨_,zpk,fun F0 B F H ρ σ o Q rs e w=>by cases e; exact w F H (.refl rs.fh)⟩
theorem uf (h:XE X ct ms n e f):XP X ct ms (some e) (pInt f):=by
 obtain ⟨t,pt,qt⟩:=h
 refine ⟨_,zpl pt,fun F0 B F H ρ σ o Q rs e w=>?_⟩
 obtain ⟨d,h1,h2⟩:=bind1 e
 refine qt F0 B F H ρ σ d _ rs h1 fun v F' H' x l=>?_
 cases d with
 | int i=>cases h2; exact ⟨i,l.int,w F' H' x⟩
 | _=>cases h2
def cutD (xs:List D) (lo hi:Option Int):List D:=(xs.drop (HT.sIx xs.length 0 lo)).take (HT.sIx xs.length xs.length hi-HT.sIx xs.length 0 lo)
theorem zp6 {R:D->V->Prop} {ds:List D} {vs:List V} {lo hi:Option Int} (h:Pr R ds vs):Pr R (cutD ds lo hi) (cutV vs lo hi):=by
 unfold cutD cutV
 rw [h.length]
 exact (h.drop _).take _
def sliceD (d:D) (lo hi:Option Int):Option D:=match d with
 | .lst xs=>some (.lst (cutD xs lo hi))
 | _=>none
theorem vv {lo hi:Option Expr} {pl ph:PF} {p1} (hn:n<=1) (he:XE X ct ms n e f) (hl:XP X ct ms lo pl) (hh:XP X ct ms hi ph):XO X ct ms 1 (.Subscript e (.Slice lo hi none p1) pos) (fun ρ=>(f ρ).bind fun d=>(pl ρ).bind fun l=>(ph ρ).bind fun h=>sliceD d l h):=by
 obtain ⟨t,pt,qt⟩:=he
 obtain ⟨t1,pt1,qt1⟩:=hl
 obtain ⟨t2,pt2,qt2⟩:=hh
 refine ⟨_,zmp zpo pt pt1 pt2,fun F0 B F H ρ σ r Q rs e w=>?_⟩
 obtain ⟨d,l,h1,h2,h3⟩:=bind2 e
 obtain ⟨hh,h4,h5⟩:=bind1 h3
 refine qt F0 B F H ρ σ d _ rs h1 fun v F1 H1 x1 l1=>?_
 refine qt1 F0 B F1 H1 ρ σ l _ (rs.ext x1) h2 fun F2 H2 x2=>?_
 refine qt2 F0 B F2 H2 ρ σ hh _ ((rs.ext x1).ext x2) h4 fun F3 H3 x3=>?_
 cases d with
 | lst xs =>
  cases h5
  have x23:=x2.trans x3
  obtain ⟨a,vs,rfl,ha,hp⟩:=Al.lst1 hn (l1.mono x23.ff x23.hh) x23.fh
  exact ⟨a,vs,rfl,ha,zbp x23.fh (zp6 hp) fun v F' H' fp x o nd hf=>w v F' H' fp ((x1.trans x23).trans x) o nd fun z hz=>(x1.trans x23).hh.free (hf z hz)⟩
 | _=>cases h5
def absD:List D->Option D
 | [.int i]=>some (.int (if i<0 then -i else i))
 | _=>none
theorem zhe:OpN K ct [n] k (fun xs H Q=>∃i,xs=[.int i]/\Q (.int (if i<0 then -i else i)) H) absD:=by
 intro F H vs ds d Q s l e w
 cases l with
 | cons h t =>
  cases t
  rename_i d1 v
  cases d1 with
  | int i=>cases e; exact ⟨i,by rw [h.int],w _ F H (.refl s) (Al.of (.int _))⟩
  | _=>cases e
def ii (g:Int->Int->D):List D->Option D
 | [.int i,.int j]=>some (g i j)
 | _=>none
theorem zsi {g:Int->Int->D} {gv:Int->Int->V} (hg:∀i j F,Dt K ct F (g i j) (gv i j)):OpN K ct [n,m] k (fun xs H Q=>∃i j,xs=[.int i,.int j]/\Q (gv i j) H) (ii g):=by
 intro F H vs ds d Q s l e w
 cases l with
 | cons h t =>
  cases t with
  | cons h' t =>
   cases t
   rename_i d1 v d2 v2
   cases d1 with
   | int i =>
    cases d2 with
    | int j=>cases e; exact ⟨i,j,by rw [h.int,h'.int],w _ F H (.refl s) (Al.of (hg i j F))⟩
    | _=>cases e
   | _=>cases e
def max2D:List D->Option D:=ii fun i j=>.int (if j > i then j else i)
def min2D:List D->Option D:=ii fun i j=>.int (if j<i then j else i)
theorem zmy:OpN K ct [n,m] k (fun xs H Q=>∃i j,xs=[.int i,.int j]/\Q (.int (if j > i then j else i)) H) max2D:=zsi fun _ _ _=>.int _
def sAug (i:Nat) (o:D->D->Option D) (f:EF):SF:=fun ρ=>(eV i ρ).bind fun x=>(f ρ).bind fun y=>(o x y).bind fun d=>some (.nx (ρ.set i (some d)))
theorem zoq {op:Operator} {i:Nat} {x:Str} {pos':Pos} {gi:Int->Int->Int} (ho:PIp X op (ipI gi)) (hm:ms[i]?=some (.ow k)) (hN:X.N.Nodup) (hi:X.N[i]?=some x) (hx:Loc X.env.scope x) (he:XE X ct ms n e f) (hf:X.fn x=true\/X.env.scope.names.lookup x=some .local:=by first | exact .inl rfl | exact .inr rfl | assumption) :
  XS X ct ms rk (.AugAssign (.Name x pos') op e pos) (sAug i (i2 fun i j=>.int (gi i j)) f):=by
 obtain ⟨t,pt,qt⟩:=he
 refine ⟨_,zrr hN hi hx pt ho hf,fun F0 B F H ρ σ o E rs e z=>?_⟩
 obtain ⟨d1,d2,h1,h2,h3⟩:=bind2 e
 obtain ⟨d,h4,h5⟩:=bind1 h3
 cases h5
 obtain ⟨v,hv,l⟩:=rs.get hm (wj h1)
 refine ⟨v,hv,qt F0 B F H ρ σ d2 _ rs h2 fun y F' H' x1 l2=>?_⟩
 cases d1 with
 | int i' =>
  cases d2 with
  | int j' =>
   cases h4
   exact ⟨i',j',l.int,l2.int,z _ F' H' (rs.set hm x1 (Ow.scal (.int _) rfl) List.nodup_nil fun a z=>(by cases z))⟩
  | _=>cases h4
 | _=>cases h4
def sPar (i j:Nat) (fs:Env->Option (List D)):SF:=fun ρ=>(fs ρ).bind fun ds=>match ds with
 | [x,y]=>some (.nx ((ρ.set i (some x)).set j (some y)))
 | _=>none
theorem zsj {i j:Nat} {x y:Str} {fs:Env->Option (List D)} {px py pt:Pos} {kt k2 pt2} (hmi:ms[i]?=some (.ow 0)) (hmj:ms[j]?=some (.ow 0)) (hc:X.calm=true) (hN:X.N.Nodup) (hi:X.N[i]?=some x) (hj:X.N[j]?=some y) (hij:i≠j)
  (hx:X.env.scope.names.lookup x=some .local) (hy:X.env.scope.names.lookup y=some .local) (ha:XA X ct ms [a,b] [0,0] fs)
  (hw:swappedStores [.Tuple [.Name x px,.Name y py] kt pt] (.Tuple [a,b] k2 pt2) X.env=pure (some [x,y]))
  (hs:swapsWithSole [.Tuple [.Name x px,.Name y py] kt pt] (.Tuple [a,b] k2 pt2) pos.line X.env=pure false:=by rfl) :
  XS X ct ms rk (.Assign [.Tuple [.Name x px,.Name y py] kt pt] (.Tuple [a,b] k2 pt2) pos) (sPar i j fs):=by
 obtain ⟨t,pt,_,qt⟩:=ha
 refine ⟨_,zrq hc hN hi hj hij hx hy pt hw hs,fun F0 B F H ρ σ o E rs e z=>?_⟩
 obtain ⟨ds,h1,h2⟩:=bind1 e
 refine qt F0 B F H ρ σ ds _ rs h1 fun vs F' H' x1 l=>?_
 cases l with
 | cons l1 l =>
  cases l with
  | cons l2 l =>
   cases l
   cases h2
   have r1:=rs.set hmi x1 (Ow.zero l1) List.nodup_nil fun a z=>(by cases z)
   exact ⟨_,_,rfl,z _ F' H' (r1.set hmj (.refl x1.fh) (Ow.zero l2) List.nodup_nil fun a z=>(by cases z))⟩
def sAsg (g:D->Env->Option Env) (f:EF):SF:=fun ρ=>(f ρ).bind fun d=>(g d ρ).bind fun ρ'=>some (.nx ρ')
theorem zk2 {gg:D->Env->Option Env} (he:XE X ct ms 0 e f) (hg:XG X ct ms 0 tg gg) (hs:swapsWithSole [tg] e pos.line X.env=pure false:=by rfl) (hw:swappedStores [tg] e X.env=pure none:=by rfl)
  (h1:(assignEach [tg] X.env).map (·.2)=[assign tg X.env]:=by rfl):XS X ct ms rk (.Assign [tg] e pos) (sAsg gg f):=by
 obtain ⟨t,pt,qt⟩:=he
 obtain ⟨t2,pt2,qt2⟩:=hg
 refine ⟨_,zof pt pt2 hs hw h1,fun F0 B F H ρ σ o E rs e z=>?_⟩
 obtain ⟨d,h1,h2⟩:=bind1 e
 obtain ⟨ρ',h3,h4⟩:=bind1 h2
 cases h4
 exact qt F0 B F H ρ σ d _ rs h1 fun v F' H' x l=>qt2 F0 B F' H' ρ ρ' σ d v _ (rs.ext x) l h3 fun σ' r=>z σ' F' H' r
end
end L3
namespace L3
open PySem PySem.Spec L2
open PyProof.Rows hiding St
def modesOk:List Nat->List Mo->Bool
 | [],_=>true
 | n::ns,.al m::ms=>decide (n=m) && modesOk ns ms
 | n::ns,.ow m::ms=>decide (n=0) && decide (m=0) && modesOk ns ms
 | _,_=>false
theorem zy:∀{pm:List Nat} {ms:List Mo},modesOk pm ms=true->∀(i n:Nat),pm[i]?=some n->ms[i]?=some (Mo.al n)\/(n=0/\ms[i]?=some (Mo.ow 0))
 | [],_,_,i,n,e=>by simp at e
 | x::ns,.al m::ms,h,i,n,e=>by
  simp only [modesOk,Bool.and_eq_true,decide_eq_true_eq] at h
  cases i with
  | zero=>simp at e; subst e; rw [h.1]; exact .inl rfl
  | succ i=>simpa using zy h.2 i n (by simpa using e)
 | x::ns,.ow m::ms,h,i,n,e=>by
  simp only [modesOk,Bool.and_eq_true,decide_eq_true_eq] at h
  cases i with
  | zero=>simp at e; subst e; rw [h.1.1,h.1.2]; exact .inr ⟨rfl,rfl⟩
  | succ i=>simpa using zy h.2 i n (by simpa using e)
 | _::_,[],h,_,_,_=>by simp [modesOk] at h
 | _::_,.px _::_,h,_,_,_=>by simp [modesOk] at h
 | _::_,.so _::_,h,_,_,_=>by simp [modesOk] at h
def blkOk (X:Cx) (scope:Scope) (N:List Str) (own:Nat) (cap:List Nat):Bool :=
 decide (scope.kind=.function) && scope.names.all (fun x=>(decide (x.2≠.cell) || decide (scope.names.lookup x.1=some .cell)) && (decide (x.2≠.local) || decide (scope.names.lookup x.1=some .local)) && (decide (x.2≠.free) || (decide (X.env.kindOf x.1=some .cell) || decide (X.env.kindOf x.1=some .free)))) &&
 decide (N.length=own+cap.length) && (List.range cap.length).all fun j=>match N[own+j]?,cap[j]? with
  | some x,some i=>decide (X.N[i]?=some x) && decide (scope.names.lookup x=some .free)
  | _,_=>false
theorem uk {X:Cx} {scope:Scope} {N:List Str} {own:Nat} {cap:List Nat} (h:blkOk X scope N own cap=true):BlkOk X scope N own cap:=by
 unfold blkOk at h
 simp only [Bool.and_eq_true,decide_eq_true_eq,List.all_eq_true,Bool.or_eq_true] at h
 obtain ⟨⟨⟨h1,h2⟩,h3⟩,h4⟩:=h
 refine ⟨h1,fun x hx hl=>((h2 x hx).1.1).elim (fun z=>absurd hl z) id,fun x hx hl=>((h2 x hx).1.2).elim (fun z=>absurd hl z) id,fun x hx hf=>((h2 x hx).2).elim (fun z=>absurd hf z) id,h3,fun j x hj=>?_⟩
 have hjl:j<cap.length:=by
  have:=(List.getElem?_eq_some_iff.mp hj).1
  omega
 have q:=h4 j (List.mem_range.mpr hjl)
 rw [hj] at q
 have hc:cap[j]?=some cap[j]:=by simp [hjl]
 rw [hc] at q
 simp only [Bool.and_eq_true,decide_eq_true_eq] at q
 exact ⟨_,hc,q.1,q.2⟩
def tyD:D->Option String
 | .non=>some "NoneType"
 | .bl _=>some "bool"
 | .int _=>some "int"
 | .str _=>some "str"
 | .lst _=>some "list"
 | .tup _=>some "tuple"
 | .dK _ _=>some "dict"
 | _=>none
def tyL (K:PySem.W.Frag) (H:Hp) (v:V) (t:String):Prop:=TyOf K H v (.type t)\/(t = "list"/\∃a xs,v=.ref a/\SqL K H a xs)
theorem Al.ty {K:PySem.W.Frag} {ct:Nat->Addr} {F H:Hp} {n:Nat} {d:D} {v:V} {t:String} (s:Same F H) (h:Al K ct F H n d v) (e:tyD d=some t):tyL K H v t:=by
 cases d with
 | non=>cases e; rw [h.non]; exact .inl .non
 | bl b=>cases e; rw [h.bl]; exact .inl (.bl b)
 | int b=>cases e; rw [h.int]; exact .inl (.int b)
 | str b=>cases e; rw [h.str]; exact .inl (.str b)
 | lst xs =>
  cases e
  obtain ⟨a,vs,rfl,ha,_⟩:=h.lst s
  exact .inr ⟨rfl,a,vs,rfl,ha⟩
 | tup xs =>
  cases e
  obtain ⟨a,vs,rfl,ha,_⟩:=h.tup s
  exact .inl (.tup ha)
 | dK ks xs =>
  cases e
  obtain ⟨a,vs,rfl,ha,_⟩:=h.dK s
  exact .inl (.dK ha)
 | _=>cases e
theorem zk3 {X:Cx}:CallR X (.builtin "isinstance") (fun xs H Q=>∃x c t b,xs=[x,.ty c]/\tyL X.K H x t/\PySem.W.kitOne X.K (.type t) (.type c)=some b/\Q (.bl b) H):=by
 intro pins s σ H xs us Q I r h
 obtain ⟨x,c,t,b,rfl,ty,e,q⟩:=h
 rcases ty with ty | ⟨rfl,a,ys,rfl,hq⟩
 ·exact zmv pins s σ H _ us Q I r ⟨x,c,_,b,rfl,ty,e,q⟩
 ·obtain ⟨u,w',rfl,ru,rw'⟩:=vals2 r
  cases (show w'=Value.type c from rw')
  cases (show u=Value.ref a from ru)
  obtain ⟨its,rv,⟨o,n,h1,h2,_⟩,_⟩:=I.list hq
  exact PySem.W.kia_one PySem.W.kitx_list I.kIn ⟨o,h1,h2⟩ e (fun z=>nomatch z) fun tk=>⟨.bl b,H,I.tok tk,rfl,q⟩
def isiT (t c:String):Bool:=t == c || (t == "bool" && c == "int")
theorem zp7 {K:PySem.W.Frag}:∀t∈(["NoneType","bool","int","str","list","tuple","dict"]:List String),∀c∈(["bool","int","str","list","tuple","dict"]:List String),PySem.W.kitOne K (.type t) (.type c)=some (isiT t c):=by
 intro t ht c hc
 simp only [List.mem_cons,List.not_mem_nil,or_false] at ht hc
 rcases ht with rfl | rfl | rfl | rfl | rfl | rfl | rfl <;> rcases hc with rfl | rfl | rfl | rfl | rfl | rfl <;> rfl
theorem zp8 {d:D} {t:String} (e:tyD d=some t):t∈(["NoneType","bool","int","str","list","tuple","dict"]:List String):=by
 cases d <;> simp [tyD] at e <;> subst e <;> decide
section
variable {X:Cx} {ct:Nat->Addr} {ms:List Mo} {rk n m k:Nat} {a b c e tg:Expr} {f g h:EF} {pos:Pos}
def isiD (c:String) (d:D):Option D:=(tyD d).bind fun t=>some (.bl (isiT t c))
theorem zgb {c:String} {pp p2:Pos} (hc:c∈(["bool","int","str","list","tuple","dict"]:List String)) (hm:X.mg "isinstance"=none) (hm2:X.mg c=none) (hb:bootBuiltins c=some (.type c)) (he:XE X ct ms n e f) (hg:Gl X "isinstance":=by rfl) (hg2:Gl X c:=by rfl) (hn2:Str.ofString c≠"__name__":=by decide) (hd2:(Str.ofString c == ("__debug__":Str))=false:=by decide)
  (hs1:starEach [e,.Name c p2] X.env=(false,eval e X.env)::starEach [.Name c p2] X.env:=by rfl) (hs2:starEach [.Name c p2] X.env=(false,eval (.Name c p2) X.env)::starEach [] X.env:=by rfl) (hpl:(backTo pos (starEach [.Name c p2] X.env)).any (·.1)=false:=by rfl) :
  XE X ct ms k (.Call (.Name "isinstance" pp) [e,.Name c p2] [] pos) (e1 (isiD c) f):=by
 obtain ⟨t,pt,qt⟩:=he
 refine ⟨_,zbv zk3 hg hm zbz (ux pt (ux (zo2 (v:=.ty c) hg2 hm2 hb rfl hn2 hd2) zbj hs2) hs1) (by decide) (by decide) hs1 hpl,fun F0 B F H ρ σ d Q rs e w=>?_⟩
 obtain ⟨d1,h1,h2⟩:=bind1 e
 obtain ⟨ty,h3,h4⟩:=bind1 h2
 cases h4
 exact qt F0 B F H ρ σ d1 _ rs h1 fun v F' H' x l=>⟨v,c,ty,_,rfl,l.ty x.fh h3,zp7 _ (zp8 h3) _ hc,w _ F' H' x (Al.of (.bl _))⟩
end
end L3
namespace L3
open PySem PySem.Spec L2
open PyProof.Rows hiding St
def spLaw (K:PySem.W.Frag):Sp:=fun vs H Q _=>∃(a:Addr) (ns:List Int),vs=[.ref a]/\SqL K H a (ns.map V.int)/\ns.length<=63/\∀H',Q (.bl true) H'
theorem Dts.ints {K:PySem.W.Frag} {ct:Nat->Addr} {F:Hp}:∀ns:List Int,Dts K ct F (ns.map D.int) (ns.map V.int)
 | []=>.nil
 | n::ns=>.cons (.int n) (Dts.ints ns)
theorem zsk {P:Program} {w:World} {K:PySem.W.Frag} {mg:Str->Option Value} {base:Heap} {k:Nat} {f:Addr} {fd:FuncData} {ps:List Str} {ct:Nat->Addr} {m:List D->Option D} (Fn:FnOk P w K mg base CX0 k f fd ps (LSp K ct [0] 0 m))
  (h:∀ns:List Int,ns.length<=63->m [.lst (ns.map .int)]=some (.bl true)):FnOk P w K mg base CX0 k f fd ps (spLaw K):=by
 have to:∀vs H Q E,spLaw K vs H Q E->LSp K ct [0] 0 m vs H Q E:=by
  rintro vs H Q E ⟨a,ns,rfl,hS,hl,q⟩
  refine ⟨H,[.lst (ns.map .int)],.bl true,.refl _,.cons (Dt.lst hS (Dts.ints ns)) .nil,h ns hl,fun v F' H' fp x o nd hf=>?_⟩
  have hv:v=.bl true:=by
   have o:Dt K ct F' (.bl true) v/\fp=[]:=o
   cases o.1
   rfl
  subst hv
  exact q H'
 exact ⟨fun vs H Q E z=>Fn.len vs H Q E (to vs H Q E z),fun A outer s H args us vs Q E hr e0 hb hv z=>Fn.run A outer s H args us vs Q E hr e0 hb hv (to vs H Q E z)⟩
theorem zgc {g:D->Env->Option Env} {b:SF} (I:List D->Env->Prop) (all:List D) (st:∀pre d post ρ,all=pre++d::post->I pre ρ->∃ρ1 ρ2,g d ρ=some ρ1/\(b ρ1=some (.nx ρ2)\/b ρ1=some (.ct ρ2))/\I (pre++[d]) ρ2):∀(ds pre:List D) (ρ:Env),all=pre++ds->I pre ρ ->
  ∃ρ',forD g b ds ρ=some (.nx ρ')/\I all ρ'
 | [],pre,ρ,e,h=>⟨ρ,rfl,by rw [e,List.append_nil]; exact h⟩
 | d::ds,pre,ρ,e,h=>by
  obtain ⟨ρ1,ρ2,h1,h2,h3⟩:=st pre d ds ρ e h
  obtain ⟨ρ',h4,h5⟩:=zgc I all st ds (pre++[d]) ρ2 (by rw [e]; simp) h3
  refine ⟨ρ',?_,h5⟩
  show (g d ρ).bind _=_
  rw [h1]
  show (b ρ1).bind _=_
  rcases h2 with h2 | h2 <;> (rw [h2]; exact h4)
theorem zif {g:D->Env->Option Env} {b:SF} (I:List D->Env->Prop) {ds:List D} {ρ:Env} (h:I [] ρ) (st:∀pre d post ρ,ds=pre++d::post->I pre ρ->∃ρ1 ρ2,g d ρ=some ρ1/\(b ρ1=some (.nx ρ2)\/b ρ1=some (.ct ρ2))/\I (pre++[d]) ρ2) :
  ∃ρ',forD g b ds ρ=some (.nx ρ')/\I ds ρ':=zgc I ds st ds [] ρ rfl h
theorem zsl {α:Type} {all pre post:List α} {d:α} (h:all=pre++d::post):all[pre.length]?=some d:=by subst h; simp
theorem zgd {α S:Type} {g:D->Env->Option Env} {b:SF} (enc:α->D) (st:S->Env) (f:S->α->S) (P:S->Prop):∀(xs:List α) (s:S),P s ->
  (∀s x,x∈xs->P s->∃ρ1,g (enc x) (st s)=some ρ1/\(b ρ1=some (.nx (st (f s x)))\/b ρ1=some (.ct (st (f s x))))/\P (f s x))->forD g b (xs.map enc) (st s)=some (.nx (st (xs.foldl f s)))/\P (xs.foldl f s)
 | [],s,hp,_=>⟨rfl,hp⟩
 | x::xs,s,hp,h=>by
  obtain ⟨ρ1,h1,h2,h3⟩:=h s x List.mem_cons_self hp
  have ih:=zgd enc st f P xs (f s x) h3 fun s y hy=>h s y (List.mem_cons_of_mem _ hy)
  refine ⟨?_,ih.2⟩
  show (g (enc x) (st s)).bind _=_
  rw [h1]
  show (b ρ1).bind _=_
  rcases h2 with h2 | h2 <;> (rw [h2]; exact ih.1)
theorem zge {g:D->Env->Option Env} {b:SF} (I:Nat->Env->Prop) (lo:Int):∀(n k:Nat) (ρ:Env),I k ρ ->
  (∀j ρ,k<=j->j<k+n->I j ρ->∃ρ1 ρ2,g (.int (lo+(j:Int))) ρ=some ρ1/\(b ρ1=some (.nx ρ2)\/b ρ1=some (.ct ρ2))/\I (j+1) ρ2) ->
  ∃ρ',forD g b ((List.range' k n).map fun (t:Nat)=>D.int (lo+(t:Int))) ρ=some (.nx ρ')/\I (k+n) ρ'
 | 0,k,ρ,h,_=>⟨ρ,rfl,h⟩
 | n+1,k,ρ,h,st=>by
  obtain ⟨ρ1,ρ2,h1,h2,h3⟩:=st k ρ (Nat.le_refl _) (by omega) h
  obtain ⟨ρ',h4,h5⟩:=zge I lo n (k+1) ρ2 h3 fun j ρ hj hl hI=>st j ρ (by omega) (by omega) hI
  refine ⟨ρ',?_,by rw [show k+(n+1)=k+1+n by omega]; exact h5⟩
  rw [List.range'_succ,List.map_cons]
  show (g _ ρ).bind _=_
  rw [h1]
  show (b ρ1).bind _=_
  rcases h2 with h2 | h2 <;> (rw [h2]; exact h4)
theorem zbc {g:D->Env->Option Env} {b:SF} (I:Nat->Env->Prop) {lo:Int} {n:Nat} {ρ:Env} (h:I 0 ρ)
  (st:∀j ρ,j<n->I j ρ->∃ρ1 ρ2,g (.int (lo+(j:Int))) ρ=some ρ1/\(b ρ1=some (.nx ρ2)\/b ρ1=some (.ct ρ2))/\I (j+1) ρ2):∃ρ',forD g b (upto lo n) ρ=some (.nx ρ')/\I n ρ':=by
 obtain ⟨ρ',h1,h2⟩:=zge (g:=g) (b:=b) I lo n 0 ρ h fun j ρ _ hj hI=>st j ρ (by omega) hI
 rw [Nat.zero_add] at h2
 exact ⟨ρ',by unfold upto; rw [List.range_eq_range']; exact h1,h2⟩
theorem zbq {S:Type} {c:BF} {b:SF} (st:S->Env) (t:S->Bool) (f:S->S) (μ:S->Nat) (P:S->Prop) (hc:∀s,P s->c (st s)=some (t s)) (hb:∀s,P s->t s=true->(b (st s)=some (.nx (st (f s)))\/b (st s)=some (.ct (st (f s))))/\P (f s)/\μ (f s) < μ s) :
  ∀(n:Nat) (s:S),P s->μ s<n->∃s',whileD c b n (st s)=some (.nx (st s'))/\P s'/\t s'=false/\∃j,s'=Nat.repeat f j s
 | 0,s,_,h=>absurd h (by omega)
 | n+1,s,hp,h=>by
  cases ht:t s with
  | false =>
   refine ⟨s,?_,hp,ht,0,rfl⟩
   show (c (st s)).bind _=_
   rw [hc s hp,ht]
   rfl
  | true =>
   obtain ⟨h1,h2,h3⟩:=hb s hp ht
   obtain ⟨s',h4,h5,h6,j,h7⟩:=zbq st t f μ P hc hb n (f s) h2 (by omega)
   refine ⟨s',?_,h5,h6,j+1,?_⟩
   ·show (c (st s)).bind _=_
    rw [hc s hp,ht]
    show (b (st s)).bind _=_
    rcases h1 with h1 | h1 <;> (rw [h1]; exact h4)
   ·rw [h7]
    clear h4 h5 h6 h7
    induction j with
    | zero=>rfl
    | succ j ih=>show f (Nat.repeat f j (f s))=f (Nat.repeat f (j+1) s); rw [ih]
theorem zci {c:BF} {b:SF} (I:Env->Prop) (μ:Env->Nat) (st:∀ρ,I ρ->∃t,c ρ=some t/\(t=true->∃ρ',(b ρ=some (.nx ρ')\/b ρ=some (.ct ρ'))/\I ρ'/\μ ρ' < μ ρ)) :
  ∀(n:Nat) (ρ:Env),I ρ->μ ρ<n->∃ρ',whileD c b n ρ=some (.nx ρ')/\I ρ'/\c ρ'=some false
 | 0,_,_,h=>absurd h (by omega)
 | n+1,ρ,hI,h=>by
  obtain ⟨t,h1,h2⟩:=st ρ hI
  cases t with
  | false=>exact ⟨ρ,by show (c ρ).bind _=_; rw [h1]; rfl,hI,h1⟩
  | true =>
   obtain ⟨ρ',h3,h4,h5⟩:=h2 rfl
   obtain ⟨ρ2,h6,h7,h8⟩:=zci I μ st n ρ' h4 (by omega)
   refine ⟨ρ2,?_,h7,h8⟩
   show (c ρ).bind _=_
   rw [h1]
   show (b ρ).bind _=_
   rcases h3 with h3 | h3 <;> (rw [h3]; exact h6)
theorem zhf {n k:Nat} (h:n<2 ^ k) (hk:k<=9000):n<FUEL:=Nat.lt_of_lt_of_le h (Nat.pow_le_pow_right (by decide) hk)
theorem zhg {n:Nat} (h:n<1048576):n<FUEL:=zhf (k:=20) h (by decide)
theorem zk4 {i j:Int} (h:j≠0):modD (.int i) (.int j)=some (.int (i.fmod j)):=by
 unfold modD
 by_cases h0:0<j
 ·simp [h0,Int.fmod_eq_emod_of_nonneg i (by omega:0<=j)]
 ·simp [h0,h]
theorem zc2 {i j:Int} (h:j≠0) (hz:Sz 9000 j):fdivD (.int i) (.int j)=some (.int (i.fdiv j)):=by
 unfold fdivD
 by_cases h0:0<j/\j<4611686018427387904
 ·simp [h0,Int.fdiv_eq_ediv_of_nonneg i (by omega:0<=j)]
 ·have hz:j.natAbs<BIG:=hz
  simp [h0,h,hz]
theorem zk5 {i j:Int} (h1:0<j) (h2:j<4611686018427387904):fdivD (.int i) (.int j)=some (.int (i / j)):=by unfold fdivD; simp [h1,h2]
theorem u8 {i j:Int} (h:0<j):modD (.int i) (.int j)=some (.int (i % j)):=by unfold modD; simp [h]
theorem zcs {i j:Int} (h1:-18446744073709551616<j) (h2:j<18446744073709551616):mulI (.int i) (.int j)=some (.int (i * j)):=by simp [mulI,i2c,mulOk,h1,h2]
theorem zct {i j:Int} (h1:-18446744073709551616<i) (h2:i<18446744073709551616):mulI (.int i) (.int j)=some (.int (i * j)):=by simp [mulI,i2c,mulOk,h1,h2]
theorem zmz {i j:Int} (h1:0<=j) (h2:j<=1000000) (h3:i.natAbs<18446744073709551616):powD (.int i) (.int j)=some (.int (i ^ j.toNat)):=by simp [powD,i2c,powOk,h1,h2,h3]
theorem zm0 {i j:Int} (h1:0<=j) (h2:j<=1000000) (h3:i.natAbs<18446744073709551616):shlD (.int i) (.int j)=some (.int (i * 2 ^ j.toNat)):=by simp [shlD,i2c,powOk,h1,h2,h3]
theorem zig {i j:Int} (h1:0<=j):shrD (.int i) (.int j)=some (.int (i / 2 ^ j.toNat)):=by simp [shrD,i2c,h1]
theorem zm1 (i j:Int):addD (.int i) (.int j)=some (.int (i+j)):=rfl
theorem vw {xs ys:List D} (h:xs.length+ys.length<=16777216):addD (.lst xs) (.lst ys)=some (.lst (xs++ys)):=by simp [addD,h]
theorem zm2 {x y:Str} (h:x.length+y.length<=16777216):addD (.str x) (.str y)=some (.str (x++y)):=by simp [addD,h]
theorem zm3 (i j:Int):subD (.int i) (.int j)=some (.int (i-j)):=rfl
theorem zk6 (i j:Int):ltD (.int i) (.int j)=some (.bl (decide (i<j))):=rfl
theorem zp9 (i j:Int):leD (.int i) (.int j)=some (.bl (decide (i<=j))):=rfl
theorem zk7 (i j:Int):gtD (.int i) (.int j)=some (.bl (decide (j<i))):=rfl
theorem zqa (i j:Int):geD (.int i) (.int j)=some (.bl (decide (j<=i))):=rfl
theorem zm4 (i:Int):negD (.int i)=some (.int (-i)):=rfl
theorem vk (ds:List D):lenD [.lst ds]=some (.int ds.length):=rfl
theorem zm5 (ds:List D):lenD [.tup ds]=some (.int ds.length):=rfl
theorem zm6 (i:Int):absD [.int i]=some (.int (if i<0 then -i else i)):=rfl
theorem zgf (i j:Int):max2D [.int i,.int j]=some (.int (if j > i then j else i)):=rfl
theorem zk8 (i j:Int):min2D [.int i,.int j]=some (.int (if j<i then j else i)):=rfl
theorem zk9 (neg:Bool) (d:D):isD neg d .non=some (.bl (if neg then !d.isN else d.isN)):=by cases d <;> rfl
theorem zsm (neg b:Bool) (d:D):isD neg d (.bl b)=some (.bl (if neg then !d.isB b else d.isB b)):=by cases d <;> rfl
theorem zsn (b:Bool):asB (.bl b)=some b:=rfl
theorem zqb (ds:List D):asL (.lst ds)=some ds:=rfl
theorem zei (ds:List D) (l h:Option Int):sliceD (.lst ds) l h=some (.lst (cutD ds l h)):=rfl
theorem zbd {j:Int} (h1:-4611686018427387904<=j) (h2:j<4611686018427387904):rng1 [.int j]=some (upto 0 j.toNat):=by simp [rng1,h1,h2]
theorem zqc {α:Type} (enc:α->D) {xs:List α} {i:Int} {j:Nat} {x:α} (hi:i=(j:Int)\/i=(j:Int)-xs.length) (h:xs[j]?=some x):atI (xs.map enc) i=some (enc x):=by
 have hj:=(List.getElem?_eq_some_iff.mp h).1
 unfold L2.atI L2.ixN
 rw [List.length_map]
 rcases hi with rfl | rfl
 ·rw [if_pos (by omega),if_pos (by omega)]
  simp [h]
 ·rw [if_neg (by omega),if_pos (by omega)]
  have:((j:Int)-(xs.length:Int)+(xs.length:Int)).toNat=j:=by omega
  simp [this,h]
theorem zdk (xs:List D) (k:Nat):cutD xs (some (k:Int)) none=xs.drop k:=by
 unfold cutD
 rw [HT.sIx_none,HT.sIx_nat]
 rcases Nat.le_total k xs.length with h | h
 ·rw [Nat.min_eq_left h,List.take_of_length_le (by rw [List.length_drop]; omega)]
 ·rw [Nat.min_eq_right h,List.drop_of_length_le (Nat.le_refl _),List.drop_of_length_le h]
  simp
theorem zih (xs:List D) (k l:Nat):cutD xs (some (k:Int)) (some (l:Int))=(xs.drop k).take (l-k):=by
 unfold cutD
 rw [HT.sIx_nat,HT.sIx_nat]
 rcases Nat.le_total k xs.length with h | h
 ·rw [Nat.min_eq_left h]
  rcases Nat.le_total l xs.length with g | g
  ·rw [Nat.min_eq_left g]
  ·rw [Nat.min_eq_right g,List.take_of_length_le (by rw [List.length_drop]; omega),List.take_of_length_le (by rw [List.length_drop]; omega)]
 ·rw [Nat.min_eq_right h,List.drop_of_length_le (Nat.le_refl _),List.drop_of_length_le h]
  simp
theorem zm7 {i j:Int} {n m:Nat} (h:Sz n i) (h':Sz m j) (hn:n<=100000) (hm:m<=100000):mulOk i j:=.inr (.inr ⟨h.mono hn,h'.mono hm⟩)
theorem uu {i j:Int} {n m:Nat} (h:Sz n i) (h':Sz m j) (hn:n<=100000) (hm:m<=100000):mulI (.int i) (.int j)=some (.int (i * j)):=by
 have:=zm7 h h' hn hm
 simp [mulI,i2c,this]
theorem zgg {α:Type} {g:D->Env->Option Env} {p:BF} {f:EF} {ρ0:Env} (enc:α->D) (q:α->Bool) (h:α->D):∀(xs:List α),(∀x∈xs,∃ρ1,g (enc x) ρ0=some ρ1/\p ρ1=some (q x)/\(q x=true->f ρ1=some (h x)))->compD g p f ρ0 (xs.map enc)=some ((xs.filter q).map h)
 | [],_=>rfl
 | x::xs,H=>by
  obtain ⟨ρ1,h1,h2,h3⟩:=H x List.mem_cons_self
  have ih:=zgg enc q h xs fun y hy=>H y (List.mem_cons_of_mem _ hy)
  show (g (enc x) ρ0).bind _=_
  rw [h1]
  show (p ρ1).bind _=_
  rw [h2]
  cases hq:q x with
  | false =>
   rw [Option.bind_some,if_neg Bool.false_ne_true,List.filter_cons_of_neg (by rw [hq]; exact Bool.false_ne_true)]
   exact ih
  | true =>
   rw [Option.bind_some,if_pos rfl,h3 hq,List.filter_cons_of_pos hq]
   show (compD g p f ρ0 (xs.map enc)).bind _=_
   rw [ih]
   rfl
end L3
namespace L3
open PySem PySem.Spec L2
structure EncD (α:Type) [DecidableEq α] where
 enc:α->D
 py:α->PyData
 dep:Nat
 is:∀x,(enc x).py=some (py x)
 lay:∀x,(py x).canLay0=true
 dp:∀x,(py x).depth<=dep
 eqv:∀x y,PyData.eqv (py x) (py y)=decide (x=y)
section
variable {α β γ δ ε:Type} [DecidableEq α] [DecidableEq β] [DecidableEq γ] [DecidableEq δ] [DecidableEq ε]
theorem EncD.eq (E:EncD α) (h:E.dep<=60) {neg:Bool} (x y:α):eqD neg (E.enc x) (E.enc y)=some (.bl (if neg then !decide (x=y) else decide (x=y))):=by
 have h1:pyOk (E.py x)=true:=by unfold pyOk; rw [E.lay x,decide_eq_true (Nat.le_trans (E.dp x) h)]; rfl
 have h2:pyOk (E.py y)=true:=by unfold pyOk; rw [E.lay y,decide_eq_true (Nat.le_trans (E.dp y) h)]; rfl
 unfold eqD
 rw [E.is x,E.is y]
 simp only [Option.bind_some]
 rw [if_pos ⟨h1,h2⟩,E.eqv]
def Ei:EncD Int:=⟨.int,.int,0,fun _=>by simp [D.py],fun _=>rfl,fun _=>by simp [PyData.depth],fun x y=>by show (x == y)=_; by_cases h:x=y <;> simp [h]⟩
def Eb:EncD Bool:=⟨.bl,.bool,0,fun _=>by simp [D.py],fun _=>rfl,fun _=>by simp [PyData.depth],fun x y=>by cases x <;> cases y <;> rfl⟩
theorem zla (E:EncD α):∀xs:List α,D.pys (xs.map E.enc)=some (xs.map E.py)
 | []=>by simp [D.pys]
 | x::xs=>by simp [D.pys,E.is x,zla E xs]
theorem zej (E:EncD α):∀xs:List α,PyData.canLayAll0 (xs.map E.py)=true
 | []=>by simp [PyData.canLayAll0]
 | x::xs=>by simp [PyData.canLayAll0,E.lay x,zej E xs]
theorem zek (E:EncD α):∀xs:List α,PyData.depthAll (xs.map E.py)<=E.dep
 | []=>by simp [PyData.depthAll]
 | x::xs=>by
  have:=zek E xs
  have:=E.dp x
  simp only [List.map_cons,PyData.depthAll]
  omega
theorem zel (E:EncD α):∀xs ys:List α,PyData.eqvAll (xs.map E.py) (ys.map E.py)=decide (xs=ys)
 | [],[]=>by simp [PyData.eqvAll]
 | [],_::_=>by simp [PyData.eqvAll]
 | _::_,[]=>by simp [PyData.eqvAll]
 | x::xs,y::ys=>by
  simp only [List.map_cons,PyData.eqvAll,E.eqv,zel E xs ys]
  by_cases h:x=y <;> by_cases g:xs=ys <;> simp [h,g]
def El (E:EncD α):EncD (List α):=⟨fun xs=>.lst (xs.map E.enc),fun xs=>.list (xs.map E.py),E.dep+1,fun xs=>by simp [D.py,zla],fun xs=>by simp [PyData.canLay0,zej],fun xs=>by have:=zek E xs; simp only [PyData.depth]; omega,fun xs ys=>by simp only [PyData.eqv,zel]⟩
def E2 (A:EncD α) (B:EncD β):EncD (α×β):=⟨fun p=>.tup [A.enc p.1,B.enc p.2],fun p=>.tuple [A.py p.1,B.py p.2],max A.dep B.dep+1,fun p=>by simp [D.py,D.pys,A.is,B.is],fun p=>by simp [PyData.canLay0,PyData.canLayAll0,A.lay,B.lay],
 fun p=>by have:=A.dp p.1; have:=B.dp p.2; simp only [PyData.depth,PyData.depthAll]; omega,fun p q=>by
  simp only [PyData.eqv,PyData.eqvAll,A.eqv,B.eqv]
  obtain ⟨a,b⟩:=p
  obtain ⟨c,d⟩:=q
  by_cases h:a=c <;> by_cases g:b=d <;> simp [h,g]⟩
def E3 (A:EncD α) (B:EncD β) (C:EncD γ):EncD (α×β×γ):=⟨fun p=>.tup [A.enc p.1,B.enc p.2.1,C.enc p.2.2],fun p=>.tuple [A.py p.1,B.py p.2.1,C.py p.2.2],max (max A.dep B.dep) C.dep+1,fun p=>by simp [D.py,D.pys,A.is,B.is,C.is],fun p=>by simp [PyData.canLay0,PyData.canLayAll0,A.lay,B.lay,C.lay],
 fun p=>by have:=A.dp p.1; have:=B.dp p.2.1; have:=C.dp p.2.2; simp only [PyData.depth,PyData.depthAll]; omega,fun p q=>by
  simp only [PyData.eqv,PyData.eqvAll,A.eqv,B.eqv,C.eqv]
  obtain ⟨a,b,c⟩:=p
  obtain ⟨a',b',c'⟩:=q
  by_cases h:a=a' <;> by_cases g:b=b' <;> by_cases k:c=c' <;> simp [h,g,k]⟩
def E4 (A:EncD α) (B:EncD β) (C:EncD γ) (M:EncD δ):EncD (α×β×γ×δ):=⟨fun p=>.tup [A.enc p.1,B.enc p.2.1,C.enc p.2.2.1,M.enc p.2.2.2],fun p=>.tuple [A.py p.1,B.py p.2.1,C.py p.2.2.1,M.py p.2.2.2],max (max A.dep B.dep) (max C.dep M.dep)+1,fun p=>by simp [D.py,D.pys,A.is,B.is,C.is,M.is],fun p=>by simp [PyData.canLay0,PyData.canLayAll0,A.lay,B.lay,C.lay,M.lay],
 fun p=>by have:=A.dp p.1; have:=B.dp p.2.1; have:=C.dp p.2.2.1; have:=M.dp p.2.2.2; simp only [PyData.depth,PyData.depthAll]; omega,fun p q=>by
  simp only [PyData.eqv,PyData.eqvAll,A.eqv,B.eqv,C.eqv,M.eqv]
  obtain ⟨a,b,c,d⟩:=p
  obtain ⟨a',b',c',d'⟩:=q
  by_cases h:a=a' <;> by_cases g:b=b' <;> by_cases k:c=c' <;> by_cases l:d=d' <;> simp [h,g,k,l]⟩
end
theorem zcj {neg:Bool} (a b:Int):eqD neg (.int a) (.int b)=some (.bl (if neg then !decide (a=b) else decide (a=b))):=Ei.eq (by decide) a b
theorem zso {neg:Bool} (a b:Bool):eqD neg (.bl a) (.bl b)=some (.bl (if neg then !decide (a=b) else decide (a=b))):=Eb.eq (by decide) a b
end L3
namespace L3
open PySem PySem.Spec L2
open PyProof.Rows hiding St
section
variable {X:Cx} {ct:Nat->Addr} {K:PySem.W.Frag} {n m k:Nat}
theorem IntsAre.of {ns:List Int} {us:List Value} (h:Vals (ns.map V.int) us):IntsAre us ns:=zjf h
theorem zb6 (hc:X.calm=true):CallR X (.builtin "sum") (fun xs H Q=>∃(a:Addr) (ns:List Int),xs=[.ref a]/\SqL X.K H a (ns.map V.int)/\Q (.int ns.sum) H):=by
 intro pins s σ H xs us Q I r h
 obtain ⟨a,ns,rfl,hq,q⟩:=h
 obtain ⟨u,rfl,ru⟩:=r.one
 cases (show u=Value.ref a from ru)
 obtain ⟨its,rv,pl,hz⟩:=I.list hq
 have hi:=IntsAre.of rv
 obtain ⟨ys,hx⟩:=hi.allInts.items
 have hl':s.heap.IsList a (intItems ys):=hx ▸ pl.isList
 refine sum_intListG (I.ok.hd hc) hl' fun h' tk t' hk=>?_
 have e1:ns=ys.toList.map (·.1):=by
  rw [← nums_intItems,← hx]
  exact (show numsOf its.toArray.toList=ns from hi.numsOf).symm
 have e2:preSum (numAt ys) ys.size=ns.sum:=by
  rw [preSum_eq,List.take_of_length_le (by simp),e1]
 rw [e2]
 exact ⟨.int ns.sum,H,I.kept (t':=tk) hk,⟨_,rfl⟩,q⟩
theorem zlb (hc:X.calm=true):CallR X (.builtin "max") (fun xs H Q=>∃(a:Addr) (ns:List Int),xs=[.ref a]/\SqL X.K H a (ns.map V.int)/\ns≠[]/\∀M,M∈ns->(∀z∈ns,z<=M)->Q (.int M) H):=by
 intro pins s σ H xs us Q I r h
 obtain ⟨a,ns,rfl,hq,hne,q⟩:=h
 obtain ⟨u,rfl,ru⟩:=r.one
 cases (show u=Value.ref a from ru)
 obtain ⟨its,rv,pl,hz⟩:=I.list hq
 have hi:=IntsAre.of rv
 obtain ⟨ys,e⟩:=hi.allInts.items
 have hns:ns=ys.toList.map (·.1):=by rw [← hi.numsOf,← nums_intItems,← e]
 have hsz:0<ys.size:=by
  have h3:0<ns.length:=List.length_pos_iff.mpr hne
  rw [hns,List.length_map,Array.length_toList] at h3; exact h3
 have hl':s.heap.IsList a (intItems ys):=e ▸ pl.isList
 refine max_intList (I.ok.hd hc) hl' hsz fun v h' tk hv hk=>?_
 obtain ⟨t,rfl⟩:=intItems_at hv
 obtain ⟨h1,h2⟩:=argBest_gt (numAt ys) (ys.size-1)
 refine ⟨.int (numAt ys (argBest (fun i j=>decide (numAt ys i > numAt ys j)) (ys.size-1))),H,I.kept (t':=tk) hk,⟨_,rfl⟩,q _ ?_ fun z hz=>?_⟩
 ·rw [hns,numAt_eq]; exact getD_mem (by rw [List.length_map,Array.length_toList]; omega)
 ·rw [hns] at hz
  obtain ⟨j,hj,rfl⟩:=mem_getD hz
  rw [List.length_map,Array.length_toList] at hj
  rw [← numAt_eq]; exact h2 j (by omega)
theorem zlc (hc:X.calm=true):CallR X (.builtin "min") (fun xs H Q=>∃(a:Addr) (ns:List Int),xs=[.ref a]/\SqL X.K H a (ns.map V.int)/\ns≠[]/\∀M,M∈ns->(∀z∈ns,M<=z)->Q (.int M) H):=by
 intro pins s σ H xs us Q I r h
 obtain ⟨a,ns,rfl,hq,hne,q⟩:=h
 obtain ⟨u,rfl,ru⟩:=r.one
 cases (show u=Value.ref a from ru)
 obtain ⟨its,rv,pl,hz⟩:=I.list hq
 have hi:=IntsAre.of rv
 obtain ⟨ys,e⟩:=hi.allInts.items
 have hns:ns=ys.toList.map (·.1):=by rw [← hi.numsOf,← nums_intItems,← e]
 have hsz:0<ys.size:=by
  have h3:0<ns.length:=List.length_pos_iff.mpr hne
  rw [hns,List.length_map,Array.length_toList] at h3; exact h3
 have hl':s.heap.IsList a (intItems ys):=e ▸ pl.isList
 refine min_intList (I.ok.hd hc) hl' hsz fun v h' tk hv hk=>?_
 obtain ⟨t,rfl⟩:=intItems_at hv
 obtain ⟨h1,h2⟩:=argBest_lt (numAt ys) (ys.size-1)
 refine ⟨.int (numAt ys (argBest (fun i j=>decide (numAt ys i<numAt ys j)) (ys.size-1))),H,I.kept (t':=tk) hk,⟨_,rfl⟩,q _ ?_ fun z hz=>?_⟩
 ·rw [hns,numAt_eq]; exact getD_mem (by rw [List.length_map,Array.length_toList]; omega)
 ·rw [hns] at hz
  obtain ⟨j,hj,rfl⟩:=mem_getD hz
  rw [List.length_map,Array.length_toList] at hj
  rw [← numAt_eq]; exact h2 j (by omega)
theorem zgh:∀{bs:List Bool} {us:List Value},Vals (bs.map V.bl) us->us=bs.map Value.bool
 | [],_,.nil=>rfl
 | b::bs,_,.cons r t=>by rw [zgh t]; cases (show _=Value.bool b from r); rfl
theorem zgi (hc:X.calm=true):CallR X (.builtin "all") (fun xs H Q=>∃(a:Addr) (bs:List Bool),xs=[.ref a]/\SqL X.K H a (bs.map V.bl)/\Q (.bl (bs.all id)) H):=by
 intro pins s σ H xs us Q I r h
 obtain ⟨a,bs,rfl,hq,q⟩:=h
 obtain ⟨u,rfl,ru⟩:=r.one
 cases (show u=Value.ref a from ru)
 obtain ⟨its,rv,pl,hz⟩:=I.list hq
 have hb:=zgh rv
 subst hb
 have hl:=pl.isList
 have hlt:a<s.heap.objs.size:=by obtain ⟨_,e,_⟩:=hl; exact Heap.lt_size e
 refine PySem.call_all_walk (wpAny_pyIter_list hl ?_)
 refine ⟨s.heap.objs.size,[s.heap.objs.size,a],[s.heap.objs.size],(bs.map Value.bool).toArray.size,_,_,fun i=>(bs[i]?).getD true,rfl,Walks.list (A:=X.A.in1) (I.ok.hd hc) _ a (Nat.ne_of_lt hlt) (bs.map Value.bool).toArray,
  ⟨⟨_,Heap.get?_push_size _ rfl,rfl,rfl⟩,hl.push _⟩,fun i v s' Q' E' hP hQ=>?_,fun h' tk hk=>?_⟩
 ·have hP:(bs.map Value.bool)[i]?=some v:=by simpa using hP
  rw [List.getElem?_map] at hP
  obtain ⟨b,hb,rfl⟩:=Option.map_eq_some_iff.mp hP
  simp only [hb,Option.getD_some] at hQ
  exact wpAny_truthy_bool hQ
 ·have e:((List.range (bs.map Value.bool).toArray.size).all fun i=>(bs[i]?).getD true)=bs.all id:=by
   rw [List.size_toArray,List.length_map]; exact PyProof.Rows.LSm.range_all bs
  rw [e]
  refine ⟨.bl (bs.all id),H,I.kept (t':=tk) fun b o hbo=>hk b o (fun hm=>?_) (Heap.get?_push_of_some _ hbo),rfl,q⟩
  rw [List.mem_singleton.mp hm] at hbo
  exact Nat.lt_irrefl _ (Heap.lt_size hbo)
theorem zcu:CallR X (.builtin "sorted") (fun xs H Q=>∃(a:Addr) (ns:List Int),xs=[.ref a]/\SqL X.K H a (ns.map V.int)/\ns.length<64/\∀ns':List Int,ns'.Perm ns->ns'.Pairwise (·<=·)->∀p,H p=none->Q (.ref p) (upd H p (.lst (ns'.map V.int)))):=by
 intro pins s σ H xs us Q I r h
 obtain ⟨a,ns,rfl,hq,h64,q⟩:=h
 obtain ⟨u,rfl,ru⟩:=r.one
 cases (show u=Value.ref a from ru)
 obtain ⟨its,rv,pl,hz⟩:=I.list hq
 have hi:=IntsAre.of rv
 have hlen:its.length=ns.length:=by rw [← rv.length,List.length_map]
 refine sorted_ints pl.isList hi (by omega) fun out ns' a1 a2 a3=>?_
 obtain ⟨e,he⟩:=sortedAll_at s.heap its out
 have hl2:ns'.length<=sizeLine:=by
  rw [a2.length_eq,← List.length_map (f:=V.int)]; exact hz
 refine ⟨.ref _,_,I.laid (a:=s.heap.objs.size+1) (o:=.lst (ns'.map V.int)) (t':=s.toks) (fun b u=>sortedAll_old) (Nat.le_succ _) ?_,rfl,q ns' a2 a3 _ (I.hok.fresh (Nat.le_succ _))⟩
 exact ⟨by rw [List.length_map]; exact hl2,out.toList,e,zdf a1,by simpa [seqObj] using he⟩
def intsD:List D->Option (List Int)
 | []=>some []
 | .int i::ds=>(intsD ds).bind fun ns=>some (i::ns)
 | _=>none
theorem zck:∀{ds:List D} {ns:List Int},intsD ds=some ns->ds=ns.map .int
 | [],_,e=>by cases e; rfl
 | d::ds,ns,e=>by
  cases d with
  | int i =>
   obtain ⟨ms,h1,h2⟩:=bind1 (show (intsD ds).bind _=_ from e)
   cases h2
   rw [zck h1]; rfl
  | _=>cases e
theorem zay:∀ns:List Int,intsD (ns.map .int)=some ns
 | []=>rfl
 | n::ns=>by show (intsD (ns.map .int)).bind _=_; rw [zay ns]; rfl
theorem Pr.intV {F G:Hp}:∀{ns:List Int} {vs:List V},Pr (Al K ct F G n) (ns.map .int) vs->vs=ns.map V.int
 | [],_,.nil=>rfl
 | i::ns,_,.cons h t=>by rw [Pr.intV t,h.int]; rfl
def boolsD:List D->Option (List Bool)
 | []=>some []
 | .bl i::ds=>(boolsD ds).bind fun ns=>some (i::ns)
 | _=>none
theorem zdl:∀{ds:List D} {ns:List Bool},boolsD ds=some ns->ds=ns.map .bl
 | [],_,e=>by cases e; rfl
 | d::ds,ns,e=>by
  cases d with
  | bl i =>
   obtain ⟨ms,h1,h2⟩:=bind1 (show (boolsD ds).bind _=_ from e)
   cases h2
   rw [zdl h1]; rfl
  | _=>cases e
theorem Pr.blV {F G:Hp}:∀{ns:List Bool} {vs:List V},Pr (Al K ct F G n) (ns.map .bl) vs->vs=ns.map V.bl
 | [],_,.nil=>rfl
 | i::ns,_,.cons h t=>by rw [Pr.blV t,h.bl]; rfl
def maxI:List Int->Option Int
 | []=>none
 | x::xs=>some (xs.foldl max x)
def minI:List Int->Option Int
 | []=>none
 | x::xs=>some (xs.foldl min x)
theorem zgj:∀(xs:List Int) (x:Int),(xs.foldl max x=x\/xs.foldl max x∈xs)/\x<=xs.foldl max x/\∀z∈xs,z<=xs.foldl max x
 | [],x=>⟨.inl rfl,Int.le_refl _,fun z h=>by cases h⟩
 | y::xs,x=>by
  obtain ⟨h1,h2,h3⟩:=zgj xs (max x y)
  refine ⟨?_,by show x<=xs.foldl max (max x y); omega,fun z hz=>?_⟩
  ·rcases h1 with h1 | h1
   ·show xs.foldl max (max x y)=x\/xs.foldl max (max x y)∈y::xs
    rw [h1]
    rcases Int.le_total x y with h | h
    ·rw [Int.max_eq_right h]; exact .inr List.mem_cons_self
    ·rw [Int.max_eq_left h]; exact .inl rfl
   ·exact .inr (List.mem_cons_of_mem _ h1)
  ·rcases List.mem_cons.mp hz with rfl | hz
   ·show z<=xs.foldl max (max x z); omega
   ·exact h3 z hz
theorem zgk:∀(xs:List Int) (x:Int),(xs.foldl min x=x\/xs.foldl min x∈xs)/\xs.foldl min x<=x/\∀z∈xs,xs.foldl min x<=z
 | [],x=>⟨.inl rfl,Int.le_refl _,fun z h=>by cases h⟩
 | y::xs,x=>by
  obtain ⟨h1,h2,h3⟩:=zgk xs (min x y)
  refine ⟨?_,by show xs.foldl min (min x y)<=x; omega,fun z hz=>?_⟩
  ·rcases h1 with h1 | h1
   ·show xs.foldl min (min x y)=x\/xs.foldl min (min x y)∈y::xs
    rw [h1]
    rcases Int.le_total x y with h | h
    ·rw [Int.min_eq_left h]; exact .inl rfl
    ·rw [Int.min_eq_right h]; exact .inr List.mem_cons_self
   ·exact .inr (List.mem_cons_of_mem _ h1)
  ·rcases List.mem_cons.mp hz with rfl | hz
   ·show xs.foldl min (min x z)<=z; omega
   ·exact h3 z hz
theorem zii {ns:List Int} {M:Int} (h:maxI ns=some M):M∈ns/\∀z∈ns,z<=M:=by
 cases ns with
 | nil=>cases h
 | cons x xs =>
  cases h
  obtain ⟨h1,h2,h3⟩:=zgj xs x
  refine ⟨?_,fun z hz=>?_⟩
  ·rcases h1 with h1 | h1
   ·rw [h1]; exact List.mem_cons_self
   ·exact List.mem_cons_of_mem _ h1
  ·rcases List.mem_cons.mp hz with rfl | hz
   ·exact h2
   ·exact h3 z hz
theorem zij {ns:List Int} {M:Int} (h:minI ns=some M):M∈ns/\∀z∈ns,M<=z:=by
 cases ns with
 | nil=>cases h
 | cons x xs =>
  cases h
  obtain ⟨h1,h2,h3⟩:=zgk xs x
  refine ⟨?_,fun z hz=>?_⟩
  ·rcases h1 with h1 | h1
   ·rw [h1]; exact List.mem_cons_self
   ·exact List.mem_cons_of_mem _ h1
  ·rcases List.mem_cons.mp hz with rfl | hz
   ·exact h2
   ·exact h3 z hz
def sumD:List D->Option D
 | [.lst ds]=>(intsD ds).bind fun ns=>some (.int ns.sum)
 | _=>none
def maxD:List D->Option D
 | [.lst ds]=>(intsD ds).bind fun ns=>(maxI ns).bind fun M=>some (.int M)
 | _=>none
def minD:List D->Option D
 | [.lst ds]=>(intsD ds).bind fun ns=>(minI ns).bind fun M=>some (.int M)
 | _=>none
def allD:List D->Option D
 | [.lst ds]=>(boolsD ds).bind fun bs=>some (.bl (bs.all id))
 | _=>none
def insI (x:Int):List Int->List Int
 | []=>[x]
 | y::ys=>if x<=y then x::y::ys else y::insI x ys
def sortI:List Int->List Int
 | []=>[]
 | x::xs=>insI x (sortI xs)
theorem zdm (x:Int):∀ys,(insI x ys).Perm (x::ys)
 | []=>.refl _
 | y::ys=>by
  unfold insI
  by_cases h:x<=y
  ·rw [if_pos h]
  ·rw [if_neg h]
   exact ((zdm x ys).cons y).trans (.swap x y ys)
theorem qr:∀xs,(sortI xs).Perm xs
 | []=>.refl _
 | x::xs=>(zdm x _).trans ((qr xs).cons x)
theorem zdn (x:Int):∀{ys:List Int},ys.Pairwise (·<=·)->(insI x ys).Pairwise (·<=·)
 | [],_=>List.pairwise_singleton _ _
 | y::ys,h=>by
  obtain ⟨h1,h2⟩:=List.pairwise_cons.mp h
  unfold insI
  by_cases hx:x<=y
  ·rw [if_pos hx]
   exact List.pairwise_cons.mpr ⟨fun z hz=>by
    rcases List.mem_cons.mp hz with rfl | hz
    ·exact hx
    ·exact Int.le_trans hx (h1 z hz),h⟩
  ·rw [if_neg hx]
   refine List.pairwise_cons.mpr ⟨fun z hz=>?_,zdn x h2⟩
   have:=(zdm x ys).mem_iff.mp hz
   rcases List.mem_cons.mp this with rfl | hz
   ·omega
   ·exact h1 z hz
theorem jf:∀xs,(sortI xs).Pairwise (·<=·)
 | []=>List.Pairwise.nil
 | x::xs=>zdn x (jf xs)
theorem zab:∀{xs ys:List Int},xs.Perm ys->xs.Pairwise (·<=·)->ys.Pairwise (·<=·)->xs=ys
 | [],ys,p,_,_=>(p.nil_eq).symm ▸ rfl
 | x::xs,[],p,_,_=>absurd p.symm.nil_eq (by simp)
 | x::xs,y::ys,p,hx,hy=>by
  obtain ⟨h1,h2⟩:=List.pairwise_cons.mp hx
  obtain ⟨h3,h4⟩:=List.pairwise_cons.mp hy
  have e:x=y:=by
   have a:=p.mem_iff.mp (List.mem_cons_self:x∈x::xs)
   have b:=p.mem_iff.mpr (List.mem_cons_self:y∈y::ys)
   have a':y<=x:=by
    rcases List.mem_cons.mp a with rfl | a
    ·exact Int.le_refl _
    ·exact h3 x a
   have b':x<=y:=by
    rcases List.mem_cons.mp b with rfl | b
    ·exact Int.le_refl _
    ·exact h1 y b
   omega
  subst e
  rw [zab ((List.perm_cons x).mp p) h2 h4]
def sortD:List D->Option D
 | [.lst ds]=>(intsD ds).bind fun ns=>if ns.length<64 then some (.lst ((sortI ns).map .int)) else none
 | _=>none
theorem zc3 {F H:Hp} {vs:List V} {ds:List D} {ns:List Int} (s:Same F H) (l:AlL K ct F H [n] [.lst ds] vs) (e:intsD ds=some ns):∃a,vs=[.ref a]/\SqL K H a (ns.map V.int):=by
 cases l with
 | cons h t =>
  cases t
  obtain ⟨a,us,rfl,ha,hp⟩:=h.lst s
  have:=zck e
  subst this
  have:=hp.intV
  subst this
  exact ⟨a,rfl,ha⟩
theorem ze7:OpN K ct [n] k (fun xs H Q=>∃(a:Addr) (ns:List Int),xs=[.ref a]/\SqL K H a (ns.map V.int)/\Q (.int ns.sum) H) sumD:=by
 intro F H vs ds d Q s l e w
 match ds,l,e with
 | [.lst xs],l,e =>
  obtain ⟨ns,h1,h2⟩:=bind1 (show (intsD xs).bind _=_ from e)
  cases h2
  obtain ⟨a,rfl,ha⟩:=zc3 s l h1
  exact ⟨a,ns,rfl,ha,w _ F H (.refl s) (Al.of (.int _))⟩
theorem zqd:OpN K ct [n] k (fun xs H Q=>∃(a:Addr) (ns:List Int),xs=[.ref a]/\SqL K H a (ns.map V.int)/\ns≠[]/\∀M,M∈ns->(∀z∈ns,z<=M)->Q (.int M) H) maxD:=by
 intro F H vs ds d Q s l e w
 match ds,l,e with
 | [.lst xs],l,e =>
  obtain ⟨ns,h1,h2⟩:=bind1 (show (intsD xs).bind _=_ from e)
  obtain ⟨M,h3,h4⟩:=bind1 h2
  cases h4
  obtain ⟨a,rfl,ha⟩:=zc3 s l h1
  obtain ⟨m1,m2⟩:=zii h3
  refine ⟨a,ns,rfl,ha,(fun z=>by rw [z] at m1; cases m1),fun M' h5 h6=>?_⟩
  have:M'=M:=Int.le_antisymm (m2 M' h5) (h6 M m1)
  subst this
  exact w _ F H (.refl s) (Al.of (.int _))
theorem zqe:OpN K ct [n] k (fun xs H Q=>∃(a:Addr) (ns:List Int),xs=[.ref a]/\SqL K H a (ns.map V.int)/\ns≠[]/\∀M,M∈ns->(∀z∈ns,M<=z)->Q (.int M) H) minD:=by
 intro F H vs ds d Q s l e w
 match ds,l,e with
 | [.lst xs],l,e =>
  obtain ⟨ns,h1,h2⟩:=bind1 (show (intsD xs).bind _=_ from e)
  obtain ⟨M,h3,h4⟩:=bind1 h2
  cases h4
  obtain ⟨a,rfl,ha⟩:=zc3 s l h1
  obtain ⟨m1,m2⟩:=zij h3
  refine ⟨a,ns,rfl,ha,(fun z=>by rw [z] at m1; cases m1),fun M' h5 h6=>?_⟩
  have:M'=M:=Int.le_antisymm (h6 M m1) (m2 M' h5)
  subst this
  exact w _ F H (.refl s) (Al.of (.int _))
theorem zld:OpN K ct [n] k (fun xs H Q=>∃(a:Addr) (bs:List Bool),xs=[.ref a]/\SqL K H a (bs.map V.bl)/\Q (.bl (bs.all id)) H) allD:=by
 intro F H vs ds d Q s l e w
 match ds,l,e with
 | [.lst xs],l,e =>
  obtain ⟨bs,h1,h2⟩:=bind1 (show (boolsD xs).bind _=_ from e)
  cases h2
  cases l with
  | cons h t =>
   cases t
   obtain ⟨a,us,rfl,ha,hp⟩:=h.lst s
   have:=zdl h1
   subst this
   have:=hp.blV
   subst this
   exact ⟨a,bs,rfl,ha,w _ F H (.refl s) (Al.of (.bl _))⟩
theorem Pr.ofInts {F H:Hp}:∀ns:List Int,Pr (Al K ct F H 0) (ns.map .int) (ns.map V.int)
 | []=>.nil
 | n::ns=>.cons (show Dt K ct F (.int n) (.int n) from .int n) (Pr.ofInts ns)
theorem zik:OpNO K ct [n] 1 (fun xs H Q=>∃(a:Addr) (ns:List Int),xs=[.ref a]/\SqL K H a (ns.map V.int)/\ns.length<64/\∀ns':List Int,ns'.Perm ns->ns'.Pairwise (·<=·)->∀p,H p=none->Q (.ref p) (upd H p (.lst (ns'.map V.int)))) sortD:=by
 intro F H vs ds d Q s l e w
 match ds,l,e with
 | [.lst xs],l,e =>
  obtain ⟨ns,h1,h2⟩:=bind1 (show (intsD xs).bind _=_ from e)
  by_cases hz:ns.length<64
  ·rw [if_pos hz] at h2
   cases h2
   obtain ⟨a,rfl,ha⟩:=zc3 s l h1
   refine ⟨a,ns,rfl,ha,hz,fun ns' p1 p2=>?_⟩
   have:ns'=sortI ns:=zab (p1.trans (qr ns).symm) p2 (jf ns)
   subst this
   exact zbp s (Pr.ofInts _) w
  ·rw [if_neg hz] at h2; cases h2
end
end L3
namespace L3
open PySem PySem.Spec L2
open PyProof.Rows hiding St
def hid (H:Hp) (x:Addr):Hp:=fun b=>if b=x then none else H b
theorem zil (H:Hp) (x:Addr):Same (hid H x) H:=fun b o h=>by
 unfold hid at h
 by_cases e:b=x
 ·rw [if_pos e] at h; cases h
 ·rw [if_neg e] at h; exact h
theorem zsp (H:Hp) (x:Addr):hid H x x=none:=if_pos rfl
theorem zgl {H:Hp} {x b:Addr} (h:b≠x):hid H x b=H b:=if_neg h
def ISp (K:PySem.W.Frag) (ct:Nat->Addr) (cs:List Nat) (pm:List Nat) (mi:Nat->List D->Option D):Sp:=fun vs H Q _=>∃(F:Hp) (c:Nat) (ds:List D) (d:D) (x dx:Addr) (us:List V),c∈cs/\vs=.ref x::us/\H x=some (.ins (ct c) dx [])/\F x=none/\Same F H/\AlL K ct F (hid H x) pm ds us/\mi c ds=some d /\
 ∀F' H',Same F F'->Same (hid H x) H'->Same F' H'->(∀a o,hid H x a=some o->F a=none->F' a=none)->F' x=none->Ow K ct F' H' 1 d (.ref x) [x]->Q .non H'
theorem ISp.len {K:PySem.W.Frag} {ct:Nat->Addr} {cs pm:List Nat} {mi:Nat->List D->Option D} {ps:List Str} (h:pm.length+1=ps.length):∀vs H Q E,ISp K ct cs pm mi vs H Q E->vs.length=ps.length:=by
 rintro vs H Q E ⟨F,c,ds,d,x,dx,us,_,rfl,_,_,_,l,_⟩
 rw [List.length_cons,l.length,h]
def iOf (N:List Str) (b:SF) (c:Nat) (ds:List D):Option D:=(b (some (.obj c [] [])::startD N.tail ds)).bind fun o=>match o with
 | .nx ρ=>(ρ[0]?).join
 | _=>none
section
variable {X:Cx} {ct:Nat->Addr} {ms:List Mo} {rk n m k:Nat} {a b c e tg:Expr} {f g h:EF} {u w:SF} {pos:Pos}
theorem zaz {P:Program} {w:World} {K:PySem.W.Frag} {mg:Str->Option Value} {base:Heap} {x qual:Str} {st:Stmt} {fa:Addr} {fd:FuncData} {N0:Str} {N ps:List Str} {kk:Nat} {cs pm:List Nat} {bf:SF} (Fn:Fun2 K x qual st fa fd) (S:FnScope (N0::N) ps (defScope st)) (hpm:pm.length+1=ps.length) (hms:ms.length=N.length) (hle:pm.length<=N.length)
  (hmo:∀(i n:Nat),pm[i]?=some n->ms[i]?=some (Mo.al n)\/(n=0/\ms[i]?=some (Mo.ow 0)))
  (body:∀(x:Addr) (cdv:Value) (A:Around) (outer:List PySem.Env) (s:Shared) (H:Hp) (E:XK),Room kk (A.deeper (envOfC qual (defScope st) s.heap.objs.size fa cdv))->XSs (cxOf CX0 P w K mg base (N0::N) qual (defScope st) fa cdv A outer s H E).nox ct (.so x::ms) rk (defBody st) bf) :
  FnOk P w K mg base CX0 (kk+1) fa fd ps (ISp K ct cs pm (iOf (N0::N) bf)):=by
 refine Fn.ok S (ISp.len hpm) fun cdv A outer s H vs Q E hr h=>?_
 obtain ⟨F,c,ds,d,x,dx,us,hc,rfl,hx,hF,sF,l,hm,q⟩:=h
 obtain ⟨t,pt,qt⟩:=body x cdv A outer s H E hr
 refine ⟨t,pt,?_⟩
 obtain ⟨o,h1,h2⟩:=bind1 hm
 have hdl:ds.length=us.length:=l.length'
 have hul:us.length=pm.length:=l.length
 have ow:Ow K ct F H 1 (.obj c [] []) (.ref x) [x]:=.inr (OwC.obj (vs:=[]) hF hx rfl .nil)
 have sFB:Same F (hid H x):=fun b o hb=>by
  rw [zgl (fun e=>by rw [e,hF] at hb; cases hb)]
  exact sF _ _ hb
 refine qt F (hid H x) F H (some (.obj c [] [])::startD N ds) (L2.start (N0::N) (.ref x::us)) o _ ⟨.refl _,zil H x,sF,fun _ _ _ h=>h,[x],?_,by simp,fun a z=>by rw [List.mem_singleton] at z; subst z; exact zsp H _⟩ h1 ?_
 ·have e:L2.start (N0::N) (.ref x::us)=some (.ref x)::(us.map some++List.replicate (N.length-us.length) none):=by
   unfold L2.start
   simp
  rw [e]
  unfold startD
  rw [hdl]
  exact SL.so (fp:=[]) ow (SL.start _ l hmo (by omega))
 ·cases o with
  | nx ρ =>
   intro σ F' H' r
   obtain ⟨fp,sl,nd,hb⟩:=r.sl
   cases sl with
   | no _=>cases h2
   | so ow' _ =>
    cases h2
    exact q F' H' r.f0 r.bh r.fh r.nf (ow'.cells x List.mem_cons_self).1 ow'
  | rt d'=>cases h2
  | bk ρ=>cases h2
  | ct ρ=>cases h2
end
end L3
namespace L3
open PySem PySem.Spec L2
open PyProof.Rows hiding St
theorem zim {f:Str} {y:V}:∀{ns:List Str} {vs:List V},ns.length=vs.length->ns.contains f=false->putF f y (ns.zip vs)=(ns++[f]).zip (vs++[y])
 | [],[],_,_=>rfl
 | [],_::_,h,_=>by simp at h
 | _::_,[],h,_=>by simp at h
 | n::ns,v::vs,h,hc=>by
  rw [List.contains_cons,Bool.or_eq_false_iff] at hc
  have hn:¬n=f:=fun e=>by rw [e] at hc; simp at hc
  have ih:=zim (f:=f) (y:=y) (ns:=ns) (vs:=vs) (by simpa using h) hc.2
  show putF f y ((n,v)::ns.zip vs)=(n,v)::(ns++[f]).zip (vs++[y])
  rw [← ih]
  show (if n=f then _ else _)=_
  rw [if_neg hn]
theorem Ow.obj_inv {ct:Nat->Addr} {K:PySem.W.Frag} {F H:Hp} {c k:Nat} {ns:List Str} {ds:List D} {v:V} {fp:List Addr} (h:Ow K ct F H (k+1) (.obj c ns ds) v fp):∃a dx vs fr,v=.ref a/\fp=a::fr/\F a=none/\H a=some (.ins (ct c) dx (ns.zip vs))/\ns.length=vs.length/\OwL (Ow K ct F H k) ds vs fr:=by
 rcases h with ⟨h,_⟩ | h
 ·cases h
 ·cases h with
  | obj h1 h2 h3 h4=>exact ⟨_,_,_,_,rfl,rfl,h1,h2,h3,h4⟩
section
variable {X:Cx} {ct:Nat->Addr} {ms:List Mo} {rk n m k:Nat} {a b c e tg:Expr} {f g h:EF} {u w:SF} {pos:Pos} {x0:Addr}
def sFldD (cs:List Nat) (x:Str) (f:EF):SF:=fun ρ=>(f ρ).bind fun d=>(eV 0 ρ).bind fun o=>match o with
 | .obj c ns ds=>if cs.contains c=true/\ns.contains x=false/\ns.length<900 then some (.nx (ρ.set 0 (some (.obj c (ns++[x]) (ds++[d]))))) else none
 | _=>none
theorem RS.self {K:PySem.W.Frag} {F0 B F H F' H':Hp} {ρ:Env} {σ:St} {d:D} (rs:RS K ct F0 B (.so x0::ms) F H ρ σ) (hd:ρ[0]?=some (some d)):σ[0]?=some (some (.ref x0))/\Ow K ct F H 1 d (.ref x0) [x0]/\B x0=none /\
  ∀(F' H':Hp) (d':D),Same F F'->Same B H'->Same F' H'->(∀a o,B a=some o->F0 a=none->F' a=none)->(∀a o,H a=some o->a≠x0->H' a=some o)->(∀a o,H a=some o->a≠x0->F a=none->F' a=none)->Ow K ct F' H' 1 d' (.ref x0) [x0]->RS K ct F0 B (.so x0::ms) F' H' (ρ.set 0 (some d')) σ:=by
 obtain ⟨fp,sl,nd,hb⟩:=rs.sl
 cases sl with
 | no _=>simp at hd
 | so ow t =>
  simp at hd
  subst hd
  refine ⟨rfl,ow,hb _ List.mem_cons_self,fun F' H' d' s1 s2 s3 s4 k1 k2 o'=>⟨rs.f0.trans s1,s2,s3,s4,_,.so o' (t.frame s1 fun a z=>?_),nd,hb⟩⟩
  obtain ⟨hn,o,ho⟩:=t.cells a z
  have ne:a≠x0:=fun e=>(List.nodup_cons.mp nd).1 (by rw [← e]; exact z)
  exact ⟨(k1 a o ho ne).trans ho.symm,k2 a o ho ne hn⟩
theorem zem {x s:Str} {cs:List Nat} {p1 pos':Pos} (hc:∀c∈cs,Cls X.K (ct c)/\NoAttr X.K (ct c) x) (he:XE X ct (.so x0::ms) 0 e f) (hN:X.N[0]?=some s:=by rfl) (hv:Vis X.env.scope s:=by first | exact Or.inl rfl | exact Or.inr (Or.inl rfl) | exact Or.inr (Or.inr rfl)) (hd:(s == ("__debug__":Str))=false:=by decide)
  (hcd:(s == ("__classdict__":Str))=false:=by decide) (hs:swapsWith e (some (.Attribute (.Name s p1) x pos')) pos.line X.env=pure false:=by rfl):XS X ct (.so x0::ms) rk (.Assign [.Attribute (.Name s p1) x pos'] e pos) (sFldD cs x f):=by
 obtain ⟨t,pt,qt⟩:=he
 refine ⟨_,zry (zat hN hv hd hcd) pt hs,fun F0 B F H ρ σ o E rs e z=>?_⟩
 obtain ⟨d,h1,h2⟩:=bind1 e
 obtain ⟨ob,h3,h4⟩:=bind1 h2
 refine qt F0 B F H ρ σ d _ rs h1 fun y F1 H1 x1 l=>?_
 have rs1:=rs.ext x1
 obtain ⟨hσ,ow,hB,put⟩:=rs1.self (F':=F) (H':=H) (wj h3)
 refine ⟨_,hσ,?_⟩
 cases ob with
 | obj c ns ds =>
  dsimp only at h4
  by_cases hz:cs.contains c=true/\ns.contains x=false/\ns.length<900
  ·rw [if_pos hz] at h4
   cases h4
   obtain ⟨a,dx,vs,fr,e1,e2,hF,hH,hl,ol⟩:=ow.obj_inv
   cases e1
   cases e2
   have hh:=hc c (by simpa using hz.1)
   refine ⟨x0,_,dx,_,rfl,hH,hh.1,hh.2,by rw [List.length_zip,← hl,Nat.min_self]; omega,?_⟩
   rw [zim hl hz.2.1]
   refine z σ F1 _ (put F1 _ _ (.refl _) (fun b o h=>?_) (fun b o h=>?_) rs1.nf (fun b o h ne=>by rw [yu ne]; exact h) (fun b o h ne hn=>hn) (.inr (OwC.obj (vs:=vs++[y]) hF y3 (by simp [hl]) ?_)))
   ·rw [yu (fun e=>by rw [e,hB] at h; cases h)]; exact rs1.bh _ _ h
   ·rw [yu (fun e=>by rw [e,hF] at h; cases h)]; exact rs1.fh _ _ h
   ·have o1:OwL (Ow X.K ct F1 (upd H1 x0 (.ins (ct c) dx ((ns++[x]).zip (vs++[y])))) 0) ds vs []:=ol.mono fun _ _ _ _ q=>⟨q.1,q.2⟩
    have:=o1.append (OwL.cons (f:=[]) (g:=[]) (R:=Ow X.K ct F1 (upd H1 x0 (.ins (ct c) dx ((ns++[x]).zip (vs++[y])))) 0) ⟨l,rfl⟩ .nil)
    exact this
  ·rw [if_neg hz] at h4; cases h4
 | _=>cases h4
variable {kk:Nat} {fa:Addr} {fd:FuncData} {ps:List Str} {pm cs:List Nat} {mi:Nat->List D->Option D} {x:Str} {pp:Pos}
theorem ze8 {c0:Nat} {es:List Expr} {ns nd:List Nat} {fs:Env->Option (List D)} {dvs:List V} {dds:List D} {dsv:List Value} (M:Mk X.K (ct c0) fa) (hcs:c0∈cs) (Fn:FnOk X.prog X.w X.K X.mg X.base CX0 kk fa fd ps (ISp X.K ct cs (ns++nd) mi)) (hr:Room (kk+1) X.A) (hg:Gl X x) (hm:X.mg x=some (.ref (ct c0)))
  (hb:Binds X.K fd ps dsv) (hd:Vals dvs dsv) (hdd:∀F G,AlL X.K ct F G nd dds dvs) (ha:XA X ct ms (e::es) ns fs)
  (hdb:(x == ("__debug__":Str))=false:=by decide) (he:starEach (e::es) X.env=(false,eval e X.env)::starEach es X.env:=by rfl) (hpl:(backTo pos (starEach es X.env)).any (·.1)=false:=by rfl) :
  XO X ct ms 1 (.Call (.Name x pp) (e::es) [] pos) (fun ρ=>(fs ρ).bind fun ds=>mi c0 (ds++dds)):=by
 obtain ⟨t,pt,_,qt⟩:=ha
 refine ⟨_,zpj M Fn hr hg hm hb hd pass0 pt hdb he hpl,fun F0 B F H ρ σ r Q rs e w=>?_⟩
 obtain ⟨ds,h1,h2⟩:=bind1 e
 refine qt F0 B F H ρ σ ds _ rs h1 fun vs F1 H1 x1 l y dy hy hdy hne=>?_
 have sH:Same H1 (hid (upd (upd H1 dy (.own y)) y (.ins (ct c0) dy [])) y):=fun b o h=>by
  have n1:b≠y:=xt h hy
  rw [zgl n1,yu n1,yu (xt h hdy)]
  exact h
 have sH2:Same H1 (upd (upd H1 dy (.own y)) y (.ins (ct c0) dy [])):=sH.trans (zil _ _)
 refine ⟨F1,c0,ds++dds,r,y,dy,vs++dvs,hcs,rfl,y3,x1.fh.free hy,x1.fh.trans sH2,AlL.mono (.refl _) sH (AlL.append (hdd F1 H1) l),h2,fun F' H' s1 s2 s3 s4 hn ow=>⟨rfl,?_⟩⟩
 refine w _ F' H' [y] ⟨x1.ff.trans s1,(x1.hh.trans sH).trans s2,s3,fun b o h n=>s4 b o (sH _ _ (x1.hh _ _ h)) (x1.nf b o h n)⟩ ow (by simp) fun b z=>?_
 rw [List.mem_singleton] at z
 subst z
 exact x1.hh.free hy
theorem zm8 {C:Addr} {sp:Sp} {dvs:List V} {ds:List Value} {E:XK} {m:Str} {p apos:Pos} {es:List Expr} {t:TA} {pl:Sem Bool} {mc:Value} (Fn:FnOk X.prog X.w X.K X.mg X.base CX0 kk fa fd ps sp) (hr:Room kk X.A) (hg:Gl X x) (hm:X.mg x=some (.ref C))
  (h1:PySem.W.specialIn X.K (.ref C) "__getattribute__"=some (some (.builtin "type.__getattribute__"))) (h2:PySem.W.readsIn X.K C mc=true) (h3:PySem.W.findCls X.K (.ref C) mc m=some (.val (.ref fa))) (hk:PySem.W.keepIn X.K (.ref fa)=true) (hb:Binds X.K fd ps ds) (hd:Vals dvs ds) (hx:Passes CX0 X E) (ha:PA X (e::es) t)
  (hdb:(x == ("__debug__":Str))=false:=by decide) (hst:starEach (e::es) X.env=(false,eval e X.env)::starEach es X.env:=by rfl) (hpl:(backTo pos (starEach es X.env)).any (·.1)=false:=by rfl)
  (ht:eval (.Call (.Attribute (.Name x p) m apos) (e::es) [] pos) X.env=(do
   let ov ← eval (.Name x p) X.env
   standAt apos.atName
   let (f,first) ← holding [ov] (getMethod ov m pl)
   callWith pos f first (backTo pos (starEach (e::es) X.env)) (backToKw pos (keywordEach [] X.env))):=by rfl) :
  PE X (.Call (.Attribute (.Name x p) m apos) (e::es) [] pos) (tCall sp dvs E t):=by
 intro pins s σ H Q I h
 refine PySem.W.methodCall_KW (pl:=pl) (zew I hg hm ?_ hdb) ht
 refine PySem.W.method_cls I.kIn h1 (PySem.W.cls_value I.kIn h2 h3 rfl ?_)
 have I1:Inv X pins σ H { s with toks:=s.toks+1 }:=I.tok _
 refine PySem.W.callWith_K (first:=[]) (h₀:=X.base) I.ok.mod.kin hk (thn (ha pos pins _ σ H _ I1 h) fun us s2 ⟨vs,H2,I2,r,q2⟩=>⟨I2.kIn,?_⟩) hst hpl
 exact zkb (us:=us) (vs:=vs) Fn hr hb hd hx I2 r q2
theorem AlL.flat {K:PySem.W.Frag} {F G G':Hp}:∀{ns:List Nat} {ds:List D} {vs:List V},AlL K ct F G ns ds vs->ns.all (· == 0)=true->AlL K ct F G' ns ds vs
 | _,_,_,.nil,_=>.nil
 | n::_,_,_,.cons h t,e=>by
  rw [List.all_cons,Bool.and_eq_true] at e
  have:n=0:=by simpa using e.1
  subst this
  exact .cons h (AlL.flat t e.2)
def sInitD (cs:List Nat) (fs:Env->Option (List D)) (mi:Nat->List D->Option D):SF:=fun ρ=>(eV 0 ρ).bind fun o=>(fs ρ).bind fun ds=>match o with
 | .obj c [] []=>if cs.contains c=true then (mi c ds).bind fun d=>some (.nx (ρ.set 0 (some d))) else none
 | _=>none
theorem zhh {C:Addr} {s m:Str} {p p1 cpos apos:Pos} {es:List Expr} {ns:List Nat} {fs:Env->Option (List D)} {pl:Sem Bool} {mc:Value} (Fn:FnOk X.prog X.w X.K X.mg X.base CX0 kk fa fd ps (ISp X.K ct cs ns mi)) (hr:Room kk X.A) (hm:X.mg x=some (.ref C))
  (h1:PySem.W.specialIn X.K (.ref C) "__getattribute__"=some (some (.builtin "type.__getattribute__"))) (h2:PySem.W.readsIn X.K C mc=true) (h3:PySem.W.findCls X.K (.ref C) mc m=some (.val (.ref fa))) (hk:PySem.W.keepIn X.K (.ref fa)=true) (hb:Binds X.K fd ps []) (hz:ns.all (· == 0)=true) (ha:XA X ct (.so x0::ms) es ns fs)
  (hg:Gl X x:=by rfl) (hN:X.N[0]?=some s:=by rfl) (hv:Vis X.env.scope s:=by first | exact Or.inl rfl | exact Or.inr (Or.inl rfl) | exact Or.inr (Or.inr rfl)) (hd:(s == ("__debug__":Str))=false:=by decide)
  (hcd:(s == ("__classdict__":Str))=false:=by decide) (hdb:(x == ("__debug__":Str))=false:=by decide) (hst:starEach (.Name s p1::es) X.env=(false,eval (.Name s p1) X.env)::starEach es X.env:=by rfl) (hpl:(backTo cpos (starEach es X.env)).any (·.1)=false:=by rfl)
  (ht:eval (.Call (.Attribute (.Name x p) m apos) (.Name s p1::es) [] cpos) X.env=(do
   let ov ← eval (.Name x p) X.env
   standAt apos.atName
   let (f,first) ← holding [ov] (getMethod ov m pl)
   callWith cpos f first (backTo cpos (starEach (.Name s p1::es) X.env)) (backToKw cpos (keywordEach [] X.env))):=by rfl)
  (hsw:swapsWith (.Call (.Attribute (.Name x p) m apos) (.Name s p1::es) [] cpos) none pos.line X.env=pure false:=by rfl) :
  XS X ct (.so x0::ms) rk (.Expr (.Call (.Attribute (.Name x p) m apos) (.Name s p1::es) [] cpos) pos) (sInitD cs fs mi):=by
 obtain ⟨t,pt,_,qt⟩:=ha
 refine ⟨_,zg6 (zm8 (E:=E0) Fn hr hg hm h1 h2 h3 hk hb .nil pass0 (ux (zat hN hv hd hcd) pt hst) hdb hst hpl ht) hsw,fun F0 B F H ρ σ o E rs e z=>?_⟩
 obtain ⟨ob,ds,g1,g2,g3⟩:=bind2 e
 obtain ⟨hσ,ow,hB,put⟩:=rs.self (F':=F) (H':=H) (wj g1)
 refine ⟨_,hσ,qt F0 B F H ρ σ ds _ rs g2 fun vs F1 H1 x1 l=>?_⟩
 have rs1:=rs.ext x1
 obtain ⟨hσ,ow,hB,put⟩:=rs1.self (F':=F) (H':=H) (wj g1)
 match ob,g3,ow with
 | .obj c [] [],g3,ow =>
  dsimp only at g3
  by_cases hc:cs.contains c=true
  ·rw [if_pos hc] at g3
   obtain ⟨d,g4,g5⟩:=bind1 g3
   cases g5
   obtain ⟨a,dx,us,fr,e1,e2,hF,hH,hl,ol⟩:=ow.obj_inv
   cases e1
   cases e2
   refine ⟨F1,c,ds,d,x0,dx,vs++[],by simpa using hc,rfl,hH,hF,x1.fh,?_,g4,fun F' H' s1 s2 s3 s4 hn o'=>?_⟩
   ·rw [List.append_nil]; exact l.flat hz
   ·have sB:Same B (hid H1 x0):=fun b o h=>by
     rw [zgl (fun e=>by rw [e,hB] at h; cases h)]
     exact rs1.bh _ _ h
    exact z σ F' H' (put F' H' d s1 (sB.trans s2) s3 (fun b o h n=>s4 b o (sB _ _ h) (rs1.nf b o h n)) (fun b o h ne=>s2 _ _ (by rw [zgl ne]; exact h)) (fun b o h ne hn'=>s4 b o (by rw [zgl ne]; exact h) hn') o')
  ·rw [if_neg hc] at g3; cases g3
end
end L3
namespace L3
open PySem PySem.Spec L2
open PyProof.Rows hiding St
structure Dn2 (K:PySem.W.Frag) (mg:Str->Option Value) (x:Str) (st:Stmt) (ps:List Str) (f:Addr) (fd:FuncData):Prop where
 fn:Fun2 K x x st f fd
 mgx:mg x=some (.ref f)
 bd:Binds K fd ps []
structure Dm (K:PySem.W.Frag) (C:Addr) (m qual:Str) (st:Stmt) (ps:List Str) (f:Addr) (fd:FuncData):Prop where
 fn:Fun2 K m qual st f fd
 me:Meth K C m f
 bd:Binds K fd ps []
structure Dc (K:PySem.W.Frag) (mg:Str->Option Value) (x:Str) (C:Addr):Prop where
 cl:Cls K C
 mgx:mg x=some (.ref C)
 mks:PySem.W.makesIn K C=true
 kp:PySem.W.keepIn K (.ref C)=true
structure Dq (K:PySem.W.Frag) (C:Addr) (m:Str) (f:Addr):Prop where
 sp:PySem.W.specialIn K (.ref C) "__getattribute__"=some (some (.builtin "type.__getattribute__"))
 rd:PySem.W.readsIn K C (.type "type")=true
 fc:PySem.W.findCls K (.ref C) (.type "type") m=some (.val (.ref f))
theorem yi {K:PySem.W.Frag} {x qual:Str} {st:Stmt} {f:Addr} {oc:Value} {od an:Option Addr} {osl:Array (Option Value)} {dV kV doc pm cdv ct:Value} (l:K.lookup f=some ⟨oc,od,.func (PySem.W.fnOf x qual (defArgs st) (defBody st) (defScope st) dV kV doc pm an cdv ct),osl⟩)
  (c:PySem.W.codeIn K cdv qual=true) (k:PySem.W.keepIn K (.ref f)=true):Fun2 K x qual st f (PySem.W.fnOf x qual (defArgs st) (defBody st) (defScope st) dV kV doc pm an cdv ct):=⟨⟨oc,od,dV,kV,doc,pm,an,cdv,ct,osl,rfl,l,c⟩,k⟩
theorem ze9 {K:PySem.W.Frag} {fd:FuncData} {ps:List Str} {ds:List Value} {T:Addr} {o:Obj} {items:Array Value} {n:Nat} (hd:fd.defaults=.ref T) (ho:K.lookup T=some o) (hs:o.data=.seq items n)
  (h:∀us:List Value,(us++ds).length=ps.length->∃k,bindArgs fd ⟨us,[]⟩=seqItems? fd.defaults >>= k/\k (some items)=pure (ps.zip (us++ds))):Binds K fd ps ds:=fun s us X hl=>by
 obtain ⟨k,h1,h2⟩:=h us hl
 exact PySem.W.binds_K X hd ho hs h1 h2
end L3
namespace L3
open PySem PySem.Spec L2
open PyProof.Rows hiding St
def Its (x:Str):It:=⟨fun i _=>∃c,x.cps[i]?=some c,fun i H v H'=>H'=H/\∃c,x.cps[i]?=some c/\v=.str ⟨#[c]⟩,fun i _=>x.cps[i]?=none⟩
theorem zm9 {P:Program} {w:World} {K:PySem.W.Frag} {tg:Expr} (x:Str) (t:Tok) (it:Addr):Turn P w K tg (Its x) [it] it (fun i h=>h.IsStrIter it (strIterType x) x t i) where
 mem:=by simp
 obj:=fun i h st b hb=>by
  have e:b=it:=by simpa using hb
  subst e
  obtain ⟨o,e,c,d⟩:=st
  exact ⟨o,e,fun v z=>by rw [d] at z; cases z⟩
 keep:=fun i h h' st k=>by
  obtain ⟨o,e,c,d⟩:=st
  exact ⟨o,k it (by simp) o e,c,d⟩
 item:=by
  intro X hP hw hK hc i pins s σ H E I hf st hg
  subst hP hw hK
  obtain ⟨c,hx⟩:=hg
  obtain ⟨f0,f1,f2,f3,f4,f5⟩:=hf it (by simp)
  have fin:∀h':Heap,h'.IsStrIter it (strIterType x) x t (i+1)->Heap.SameBut it s.heap h'->wpAny (model X.prog X.w) X.A (letOwnedTupleGo tg (.ref it) (.str ⟨#[c]⟩ s.toks)) (fun _ s2=>∃v H',Inv X pins σ H' s2/\RelV v (.str ⟨#[c]⟩ s.toks)/\(Its x).yld i H v H'/\s2.heap.IsStrIter it (strIterType x) x t (i+1)/\∀b∈[it],H' b=none) E { s with heap:=h',toks:=s.toks+1 }:=fun h' st' sb=>by
   have I1:Inv X pins σ H { s with heap:=h',toks:=s.toks+1 }:=I.turned (t':=s.toks+1) (fun b o hb e=>(sb.2 b hb).trans e) f0 f1 f3 f4 f5
   obtain ⟨o,e,cc,d⟩:=id st'
   refine zo7 (s:={ s with heap:=h',toks:=s.toks+1 }) e cc d ?_ ⟨.str ⟨#[c]⟩,H,I1,⟨_,rfl⟩,⟨rfl,c,hx,rfl⟩,st',fun b hb=>(hf b hb).1⟩
   unfold strIterType
   split <;> decide
  cases ha:x.cps.all (·<128) with
  | true =>
   have e:strIterType x = "str_ascii_iterator":=by unfold strIterType; rw [ha]; rfl
   rw [e] at st fin
   exact wpAny_pyNext_ascii_item st hx fun h' st' sb=>⟨_,rfl,by rw [e]; exact fin h' st' sb⟩
  | false =>
   have e:strIterType x = "str_iterator":=by unfold strIterType; rw [ha]; rfl
   rw [e] at st fin
   exact wpAny_pyNext_wide_item st hx fun h' st' sb=>⟨_,rfl,by rw [e]; exact fin h' st' sb⟩
 done:=by
  intro X hP hw hK hc i pins s σ H E I hf st hg
  subst hP hw hK
  obtain ⟨f0,f1,f2,f3,f4,f5⟩:=hf it (by simp)
  cases ha:x.cps.all (·<128) with
  | true =>
   have e:strIterType x = "str_ascii_iterator":=by unfold strIterType; rw [ha]; rfl
   rw [e] at st
   exact wpAny_pyNext_ascii_end (I.ok.hd hc) st hg fun h' eb=>⟨rfl,I.turned (t':=s.toks) (fun b o hb e=>eb b o hb e) f0 f1 f3 f4 f5⟩
  | false =>
   have e:strIterType x = "str_iterator":=by unfold strIterType; rw [ha]; rfl
   rw [e] at st
   exact wpAny_pyNext_wide_end (I.ok.hd hc) st hg fun h' eb=>⟨rfl,I.turned (t':=s.toks) (fun b o hb e=>eb b o hb e) f0 f1 f3 f4 f5⟩
 self:=fun A i s Q E st h=>by
  cases ha:x.cps.all (·<128) with
  | true =>
   have e:strIterType x = "str_ascii_iterator":=by unfold strIterType; rw [ha]; rfl
   rw [e] at st
   exact wpAny_pyIter_striter_ascii st h
  | false =>
   have e:strIterType x = "str_iterator":=by unfold strIterType; rw [ha]; rfl
   rw [e] at st
   exact wpAny_pyIter_striter_wide st h
def iStr (tl:TE):TI:=fun σ H R=>tl σ H fun x H1=>∃z,x=.str z/\R (Its z) H1
section
variable {X:Cx} {ct:Nat->Addr} {ms:List Mo} {rk n m k:Nat} {st:Stmt} {rest:List Stmt} {a b c e tg:Expr} {f g h:EF} {p q:BF} {u w:SF} {pos:Pos}
theorem zsq {l:Expr} {tl:TE} (hl:PE X l tl):PI X tg l (iStr tl):=by
 intro pins s σ H R I h
 refine thn (hl pins s σ H _ I h) fun v s1 ⟨x,H1,I1,r,z,e,q⟩=>?_
 subst e
 obtain ⟨t,rfl⟩:=r
 refine wpAny_pyIter_strU ?_
 refine ⟨s1.heap.objs.size,[s1.heap.objs.size],_,_,H1,rfl,I1.kept (t':=s1.toks) fun b o e=>Heap.get?_push_of_some _ e,zm9 z t _,⟨_,Heap.get?_push_size _ rfl,rfl,rfl⟩,fun b hb=>?_,q⟩
 have e:b=s1.heap.objs.size:=by simpa using hb
 subst e
 exact I1.fpOk (Nat.le_refl _) (I1.hok.fresh (Nat.le_refl _))
def signsD (x:Str):List D:=x.cps.toList.map fun c=>.str ⟨#[c]⟩
def asS:D->Option (List D)
 | .str x=>some (signsD x)
 | _=>none
theorem zsr (he:XE X ct ms m e f):XI X ct ms n tg e (fun ρ=>(f ρ).bind asS):=by
 obtain ⟨t,pt,qt⟩:=he
 refine ⟨_,zsq pt,fun F0 B F H ρ σ ds R rs e w=>?_⟩
 obtain ⟨d,h1,h2⟩:=bind1 e
 refine qt F0 B F H ρ σ _ _ rs h1 fun v F' H' x l=>?_
 cases d with
 | str z =>
  cases h2
  refine ⟨z,l.str,w _ F' H' x fun i F2 H2 s1 s2 s3=>⟨fun d hd=>?_,fun hl=>?_⟩⟩
  ·unfold signsD at hd
   rw [List.getElem?_map] at hd
   obtain ⟨c,hc,rfl⟩:=Option.map_eq_some_iff.mp hd
   have hc':z.cps[i]?=some c:=by simpa using hc
   refine ⟨⟨c,hc'⟩,fun y H3 hy=>?_⟩
   obtain ⟨rfl,c2,h3,rfl⟩:=hy
   rw [hc'] at h3
   cases h3
   exact ⟨F2,.refl s3,Al.of (.str _)⟩
  ·unfold signsD at hl
   rw [List.length_map,Array.length_toList] at hl
   exact Array.getElem?_eq_none hl
 | _=>cases h2
theorem zna {κ:Type} [DecidableEq κ] (k:κ) (v:V):∀{ks:List κ} {vs:List V},ks.length=vs.length->putK (ks.zip vs) k v=(if ks.contains k=true then ks.zip ((ks.zip vs).map fun p=>if p.1=k then v else p.2) else (ks++[k]).zip (vs++[v])):=by
 intro ks vs hl
 unfold putK
 have e:((ks.zip vs).any fun kv=>decide (kv.1=k))=ks.contains k:=by
  rw [Bool.eq_iff_iff,List.any_eq_true,List.contains_iff_mem]
  constructor
  ·rintro ⟨p,hp,he⟩
   have:=decide_eq_true_iff.mp he
   rw [← this]
   exact (List.of_mem_zip hp).1
  ·intro hk
   obtain ⟨i,hi,rfl⟩:=List.getElem_of_mem hk
   exact ⟨(ks[i],vs[i]'(by omega)),List.mem_iff_getElem.mpr ⟨i,by simp; omega,by simp⟩,by simp⟩
 rw [e]
 by_cases h:ks.contains k=true
 ·rw [if_pos h,if_pos h]
  clear e h
  induction ks generalizing vs with
  | nil=>simp
  | cons y ks ih =>
   cases vs with
   | nil=>simp at hl
   | cons u vs =>
    simp only [List.zip_cons_cons,List.map_cons,ih (by simpa using hl)]
    by_cases hy:y=k <;> simp [hy]
 ·rw [if_neg h,if_neg h,List.zip_append hl]
  rfl
end
end L3
namespace L3
open PySem PySem.Spec L2
open PyProof.Rows hiding St
section
variable {X:Cx} {ct:Nat->Addr} {ms:List Mo} {rk n m k:Nat} {st:Stmt} {rest:List Stmt} {a b c e tg:Expr} {f g h:EF} {p q:BF} {u w:SF} {pos:Pos}
def sPutD (i:Nat) (fj f:EF):SF:=fun ρ=>(f ρ).bind fun d=>(eV i ρ).bind fun o=>(fj ρ).bind fun j=>match o with
 | .dK ks ds=>(keyD j).bind fun k=>if ks.length<16777216 then some (.nx (ρ.set i (some (.dK (putK' ks ds k d).1 (putK' ks ds k d).2)))) else none
 | .dT ks ds=>(match j with
  | .tup js=>(keysD js).bind fun k=>if ks.length<16777216 then some (.nx (ρ.set i (some (.dT (putK' ks ds k d).1 (putK' ks ds k d).2)))) else none
  | _=>none)
 | _=>none
theorem zin {κ:Type} [DecidableEq κ] {R:D->V->Prop} {d:D} {v:V} (r:R d v) (k:κ) {ks:List κ} {ds:List D} {vs:List V} (hl:ks.length=vs.length) (hp:Pr R ds vs) :
  ∃us,putK (ks.zip vs) k v=(putK' ks ds k d).1.zip us/\(putK' ks ds k d).1.length=us.length/\Pr R (putK' ks ds k d).2 us:=by
 rw [zna k v hl]
 unfold putK'
 by_cases h:ks.contains k=true
 ·rw [if_pos h,if_pos h]
  refine ⟨_,rfl,by simp [hl],?_⟩
  clear h
  induction ks generalizing ds vs with
  | nil=>simp; exact .nil
  | cons y ks ih =>
   cases hp with
   | nil=>simp at hl
   | cons h t =>
    simp only [List.zip_cons_cons,List.map_cons]
    refine .cons ?_ (ih (by simpa using hl) t)
    by_cases hy:y=k
    ·rw [if_pos hy,if_pos hy]; exact r
    ·rw [if_neg hy,if_neg hy]; exact h
 ·rw [if_neg h,if_neg h]
  exact ⟨_,rfl,by simp [hl],hp.append (.cons r .nil)⟩
theorem zle (i:Nat) {x:Str} {j:Expr} {p1 tpos:Pos} {fj:EF} (hm:ms[i]?=some (.ow 1)) (hu:X.A.units+1<cLine) (hj:XE X ct ms 0 j fj) (he:XE X ct ms 0 e f) (hN:X.N[i]?=some x:=by rfl) (hv:Vis X.env.scope x:=by first | exact Or.inl rfl | exact Or.inr (Or.inl rfl) | exact Or.inr (Or.inr rfl)) (hd:(x == ("__debug__":Str))=false:=by decide)
  (hcd:(x == ("__classdict__":Str))=false:=by decide) (hs:swapsWith e (some (.Subscript (.Name x p1) j tpos)) pos.line X.env=pure false:=by rfl) :
  XS X ct ms rk (.Assign [.Subscript (.Name x p1) j tpos] e pos) (sPutD i fj f):=by
 obtain ⟨t,pt,qt⟩:=he
 obtain ⟨tj,ptj,qtj⟩:=hj
 refine ⟨_,zpt hu (zat hN hv hd hcd) ptj pt hs,fun F0 B F H ρ σ o E rs e z=>?_⟩
 obtain ⟨d,g1,g2⟩:=bind1 e
 obtain ⟨d1,dj',g3,g4,g5⟩:=bind2 g2
 refine qt F0 B F H ρ σ d _ rs g1 fun v0 F1 H1 x1 l0=>?_
 have rs1:=rs.ext x1
 obtain ⟨f1,fr,n1,b1,dj,i4,cf,put⟩:=rs1.put (F':=F) (H':=H) hm
 obtain ⟨v,hσ,ow⟩:=i4 d1 (wj g3)
 refine ⟨v,hσ,qtj F0 B F1 H1 ρ σ dj' _ rs1 g4 fun vj F2 H2 x2 lj=>?_⟩
 have l0':Dt X.K ct F2 d v0:=Dt.mono x2.ff l0
 cases d1 with
 | dK ks ds =>
  dsimp only at g5
  obtain ⟨key,g6,g7⟩:=bind1 g5
  by_cases hz:ks.length<16777216
  ·rw [if_pos hz] at g7
   cases g7
   obtain ⟨ad,vs,fr1,rfl,rfl,hF,hH,hl,ol⟩:=ow.dK_inv
   have hA:=x2.hh _ _ hH
   have fA:F2 ad=none:=x2.nf ad _ hH hF
   have e0:=ol.nil0
   subst e0
   have hp:Pr (Dt X.K ct F2) ds vs:=ol.pr fun _ _ _ _ q=>q.1.mono x2.ff
   obtain ⟨us,hu1,hu2,hu3⟩:=zin l0' key hl hp
   have hk:=zkz g6 lj
   subst hk
   refine ⟨ad,_,rfl,DPut.k hA (by rw [List.length_zip,← hl,Nat.min_self,sizeLine_eq]; exact hz),?_⟩
   rw [hu1]
   refine z σ F2 _ (rs1.change hm x2 hσ b1 dj cf put List.mem_cons_self fA (.inr (.dK fA y3 hu2 (OwL.ofPr (hu3.mono fun _ _ q=>⟨q,rfl⟩)))) (fn:=[ad]) (by simp) ?_)
   intro a ha
   rw [List.mem_singleton] at ha
   subst ha
   exact .inl List.mem_cons_self
  ·rw [if_neg hz] at g7; cases g7
 | dT ks ds =>
  cases dj' with
  | tup js =>
   dsimp only at g5
   obtain ⟨key,g6,g7⟩:=bind1 g5
   by_cases hz:ks.length<16777216
   ·rw [if_pos hz] at g7
    cases g7
    obtain ⟨ad,vs,fr1,rfl,rfl,hF,hH,hl,ol⟩:=ow.dT_inv
    have hA:=x2.hh _ _ hH
    have fA:F2 ad=none:=x2.nf ad _ hH hF
    have e0:=ol.nil0
    subst e0
    have hp:Pr (Dt X.K ct F2) ds vs:=ol.pr fun _ _ _ _ q=>q.1.mono x2.ff
    obtain ⟨us,hu1,hu2,hu3⟩:=zin l0' key hl hp
    obtain ⟨bd,ws,rfl,hb,hpb⟩:=lj.tup x2.fh
    have hk:=zhc g6 hpb
    subst hk
    refine ⟨ad,_,rfl,DPut.t hA hb (by rw [List.length_zip,← hl,Nat.min_self,sizeLine_eq]; exact hz),?_⟩
    rw [hu1]
    refine z σ F2 _ (rs1.change hm x2 hσ b1 dj cf put List.mem_cons_self fA (.inr (.dT fA y3 hu2 (OwL.ofPr (hu3.mono fun _ _ q=>⟨q,rfl⟩)))) (fn:=[ad]) (by simp) ?_)
    intro a ha
    rw [List.mem_singleton] at ha
    subst ha
    exact .inl List.mem_cons_self
   ·rw [if_neg hz] at g7; cases g7
  | _=>cases g5
 | _=>cases g5
def rGetL (K:PySem.W.Frag):V->V->Hp->VK->Prop:=fun o i H Q=>∃p xs k v,o=.ref p/\i=.int k/\SqL K H p xs/\atI xs k=some v/\Q v H
theorem zlf:PGet X (rGetL X.K):=by
 intro pins s σ H o i ov iv Q I ro ri h
 obtain ⟨p,xs,k,z,rfl,rfl,hq,he,q⟩:=h
 cases ro
 obtain ⟨t,rfl⟩:=ri
 obtain ⟨its,r,pl,hz⟩:=I.list hq
 obtain ⟨j,h1,h2,h3,h4,h5⟩:=zez he
 obtain ⟨w,ew,rw'⟩:=r.get h2
 have hl:=r.length
 have hn:=line63
 have fin:EP X pins σ Q w s:=⟨z,H,I,rw',q⟩
 by_cases h0:0<=k
 ·have hj:k.toNat=j:=by
   rw [seqIndex_of h0 h5] at h1
   exact Option.some.inj h1
  exact wpAny_getItem_list pl.isList h0 (by omega) (by rw [hj]; simpa using ew) fin
 ·have hj:(k+(its.toArray.size:Int)).toNat=j:=by
   rw [seqIndex_neg (by omega) h4] at h1
   rw [List.size_toArray,← hl]
   exact Option.some.inj h1
  exact wpAny_getItem_list_neg pl.isList (by omega) (by rw [List.size_toArray] <;> omega) (by omega) (by rw [hj]; simpa using ew) fin
def sAugL (i:Nat) (fj:EF) (gi:Int->Int->Int) (f:EF):SF:=fun ρ=>(eV i ρ).bind fun o=>(fj ρ).bind fun j=>(f ρ).bind fun y=>match o,j with
 | .lst ds,.int z=>(atI ds z).bind fun x=>(match x,y with
  | .int a,.int b=>(setAt ds z (.int (gi a b))).bind fun ds'=>some (.nx (ρ.set i (some (.lst ds'))))
  | _,_=>none)
 | _,_=>none
theorem zlg (i:Nat) {x:Str} {op:Operator} {j:Expr} {p1 tpos:Pos} {fj:EF} {gi:Int->Int->Int} (ho:PIp X op (ipI gi)) (hm:ms[i]?=some (.ow 1)) (hj:XE X ct ms n j fj) (he:XE X ct ms m e f) (hN:X.N[i]?=some x:=by rfl) (hv:Vis X.env.scope x:=by first | exact Or.inl rfl | exact Or.inr (Or.inl rfl) | exact Or.inr (Or.inr rfl)) (hd:(x == ("__debug__":Str))=false:=by decide)
  (hcd:(x == ("__classdict__":Str))=false:=by decide) (ha:∀ov iv new,augStore j ov iv new=(do holding [new,ov,iv] (setItem ov iv new); release [new,ov,iv] []; pure .next):=by intros; rfl) :
  XS X ct ms rk (.AugAssign (.Subscript (.Name x p1) j tpos) op e pos) (sAugL i fj gi f):=by
 obtain ⟨t,pt,qt⟩:=he
 obtain ⟨tj,ptj,qtj⟩:=hj
 refine ⟨_,zo6 (zat hN hv hd hcd) ptj zlf pt ho zh3 ha,fun F0 B F H ρ σ o E rs e z=>?_⟩
 obtain ⟨d1,dj',g3,g4,g5⟩:=bind2 e
 obtain ⟨d2,g6,g7⟩:=bind1 g5
 obtain ⟨f1,fr,n1,b1,dj,i4,cf,put⟩:=rs.put (F':=F) (H':=H) hm
 obtain ⟨v,hσ,ow⟩:=i4 d1 (wj g3)
 refine ⟨v,hσ,qtj F0 B F H ρ σ dj' _ rs g4 fun vj F2 H2 x2 lj=>?_⟩
 match d1,dj',g7,ow,lj with
 | .lst ds,.int zi,g7,ow,lj =>
  dsimp only at g7
  obtain ⟨da,g8,g9⟩:=bind1 g7
  obtain ⟨ad,vs,fr1,rfl,rfl,hF,hH,ol⟩:=ow.lst_inv
  have hA:H2 ad=some (.lst vs):=x2.hh _ _ hH
  have hp:Pr (Al X.K ct F2 H2 0) ds vs:=ol.pr fun _ _ _ _ q=>q.1.mono x2.ff
  obtain ⟨va,ha1,ha2⟩:=hp.atI g8
  refine ⟨ad,vs,zi,va,rfl,lj.int,SqL.of hA,ha1,qt F0 B F2 H2 ρ σ d2 _ (rs.ext x2) g6 fun vy F3 H3 x3 ly=>?_⟩
  have x23:=x2.trans x3
  match da,d2,g9,ha2,ly with
  | .int ia,.int ib,g9,ha2,ly =>
   dsimp only at g9
   obtain ⟨ds',g10,g11⟩:=bind1 g9
   cases g11
   obtain ⟨jn,g12,g13⟩:=bind1 g10
   cases g13
   have hA3:H3 ad=some (.lst vs):=x3.hh _ _ hA
   have fA:F3 ad=none:=x23.nf ad _ hH hF
   have e0:=ol.nil0
   subst e0
   refine ⟨ia,ib,ha2.int,ly.int,ad,vs,zi,jn,rfl,lj.int,hA3,by rw [← ol.length]; exact g12,?_⟩
   refine z σ F3 _ (rs.change hm x23 hσ b1 dj cf put List.mem_cons_self fA (.inr (.lst fA y3 (OwL.set0 ⟨.int _,rfl⟩ (fun _ _ _ q=>q.2) jn (ol.mono fun _ _ _ _ q=>⟨q.1.mono x23.ff,q.2⟩)))) (fn:=[ad]) (by simp) ?_)
   intro a ha
   rw [List.mem_singleton] at ha
   subst ha
   exact .inl List.mem_cons_self
structure Ic (K:PySem.W.Frag) (C:Addr):Prop where
 cl:Cls K C
 ha:PySem.W.findIn K (.ref C) "__class__"=some (some (.builtin "object.__class__"))
 hn:PySem.W.specialIn K (.builtin "object.__class__") "__get__"=some (some (.builtin "getset_descriptor.__get__"))
 ht:PySem.W.takesIn K (.builtin "object.__class__")=some true
 hm:PySem.W.mroIn K C (.type "object")=some true
def isiC (all sub:List Nat):D->Option D
 | .obj c _ _=>if all.contains c=true then some (.bl (sub.contains c)) else none
 | _=>none
theorem zlh {C:Addr} {x:Str} {all sub:List Nat} {pp p2:Pos} (hI:∀c∈all,Ic X.K (ct c)/\PySem.W.kitOne X.K (.ref (ct c)) (.ref C)=some (sub.contains c)) (hm:X.mg "isinstance"=none) (hm2:X.mg x=some (.ref C)) (he:XE X ct ms n e f) (hg:Gl X "isinstance":=by rfl) (hg2:Gl X x:=by rfl) (hd2:(x == ("__debug__":Str))=false:=by decide)
  (hs1:starEach [e,.Name x p2] X.env=(false,eval e X.env)::starEach [.Name x p2] X.env:=by rfl) (hs2:starEach [.Name x p2] X.env=(false,eval (.Name x p2) X.env)::starEach [] X.env:=by rfl) (hpl:(backTo pos (starEach [.Name x p2] X.env)).any (·.1)=false:=by rfl) :
  XE X ct ms k (.Call (.Name "isinstance" pp) [e,.Name x p2] [] pos) (e1 (isiC all sub) f):=by
 obtain ⟨t,pt,qt⟩:=he
 refine ⟨_,zbv zkn hg hm zbz (ux pt (ux (zj0 (v:=.ref C) hg2 hm2 rfl hd2) zbj hs2) hs1) (by decide) (by decide) hs1 hpl,fun F0 B F H ρ σ d Q rs e w=>?_⟩
 obtain ⟨d1,h1,h2⟩:=bind1 e
 refine qt F0 B F H ρ σ d1 _ rs h1 fun v F' H' x l=>?_
 cases d1 with
 | obj c ns ds =>
  unfold isiC at h2
  dsimp only at h2
  by_cases hc:all.contains c=true
  ·rw [if_pos hc] at h2
   cases h2
   obtain ⟨a,dx,vs,rfl,ha,_⟩:=l.obj x.fh
   obtain ⟨ic,kit⟩:=hI c (by simpa using hc)
   exact ⟨_,C,_,_,rfl,.ins ha ic.cl ic.ha ic.hn ic.ht ic.hm,kit,w _ F' H' x (Al.of (.bl _))⟩
  ·rw [if_neg hc] at h2; cases h2
 | _=>cases h2
end
end L3
namespace L3
open PySem PySem.Spec L2
section
variable {K:PySem.W.Frag} {ct:Nat->Addr} {n m k:Nat}
def itx (i:Int):Str:=((toString i:String):Str)
def strD:List D->Option D
 | [.int i]=>if i.natAbs.log2<1920 then some (.str (itx i)) else none
 | _=>none
theorem zqf:OpN K ct [n] k (fun xs H Q=>∃i,xs=[.int i]/\i.natAbs.log2<1920/\Q (.str (toString i)) H) strD:=by
 intro F H vs ds d Q s l e w
 cases l with
 | cons h t =>
  cases t
  rename_i d1 v
  cases d1 with
  | int i =>
   unfold strD at e
   dsimp only at e
   by_cases hz:i.natAbs.log2<1920
   ·rw [if_pos hz] at e
    cases e
    exact ⟨i,by rw [h.int],hz,w _ F H (.refl s) (Al.of (.str _))⟩
   ·rw [if_neg hz] at e; cases e
  | _=>cases e
end
theorem znb {i:Int} (h:Sz 1900 i):strD [.int i]=some (.str (itx i)):=by
 unfold strD
 dsimp only
 rw [if_pos]
 by_cases h0:i.natAbs=0
 ·rw [h0]; decide
 ·rw [Nat.log2_lt h0]
  exact Nat.lt_of_lt_of_le h (Nat.pow_le_pow_right (by decide) (by decide))
theorem zqg {i:Int} (h:Sz 1900 i):(itx i).length<=1921:=by
 refine PyProof.Rows.int_text_len_1921 ?_
 by_cases h0:i.natAbs=0
 ·rw [h0]; decide
 ·rw [Nat.log2_lt h0]
  exact Nat.lt_of_lt_of_le h (Nat.pow_le_pow_right (by decide) (by decide))
end L3
namespace PySem
section
variable {prog:Program} {w:World} {A:Around} {R:Result->Shared->Prop} {I:Addr} {fp wr:List Addr} {n:Nat} {P:Nat->Value->Prop} {St:Nat->Heap->Prop} {kw:List (Str×Value)}
end
section
variable {prog:Program} {w:World} {A:Around} {E:Value->Shared->Prop} {s:Shared}
end
end PySem
namespace L3
open PySem PySem.Spec L2
section
variable {X:Cx} {ct:Nat->Addr} {ms:List Mo} {e b:Expr} {f g:EF} {n m k:Nat}
end
end L3
namespace L3
open PySem PySem.Spec L2
open PyProof.Rows hiding St
section
variable {X:Cx} {ct:Nat->Addr} {ms:List Mo} {rk n m k:Nat} {a b c e o:Expr} {f g h:EF} {pos:Pos}
def rIndex (K:PySem.W.Frag):V->List V->Hp->VK->Prop:=fun x vs H Q=>∃p ys y j,x=.ref p/\vs=[y]/\SqL K H p ys/\flatV y=true/\ys.all flatV=true/\ys.findIdx? (fun z=>eqV z y)=some j/\Q (.int (j:Nat)) H
theorem zli:∀{xs:List V} {us:List Value} {x:V},Vals xs us->xs.all flatV=true->us.map (eqU x)=xs.map fun y=>eqV y x
 | _,_,_,.nil,_=>rfl
 | y::xs,u::us,x,.cons r t,f=>by
  rw [List.all_cons,Bool.and_eq_true] at f
  rw [List.map_cons,List.map_cons,zkd r f.1,zli t f.2]
theorem znc:MtR X "list.index" (rIndex X.K):=by
 intro pins s σ H x vs v us Q I rx rv h
 obtain ⟨p,ys,y,j,rfl,rfl,hq,fy,fs,hj,q⟩:=h
 cases rx
 obtain ⟨u,rfl,ru⟩:=rv.one
 obtain ⟨its,r,pl,hz⟩:=I.list hq
 obtain ⟨⟨cls,dd,data,sl⟩,ho,hc,n,hd⟩:=pl.isList
 simp only at hc hd
 subst hc hd
 have hm:=zli (x:=y) r fs
 have hlen:=r.length
 obtain ⟨j1,j2,j3⟩:=List.findIdx?_eq_some_iff_getElem.mp hj
 have hat:∀i (hi:i<its.length),eqU y its[i]=eqV (ys[i]'(by omega)) y:=fun i hi=>by
  have:=congrArg (fun l=>l[i]?) hm
  simp only [List.getElem?_map] at this
  rw [List.getElem?_eq_getElem hi,List.getElem?_eq_getElem (by omega)] at this
  simpa using this
 have hzl:ys.length<=16777216:=hz
 refine call_meets PySem.F.slot_list_index ⟨_,ho,rfl⟩ PySem.F.entry_list_index (PySem.F.args_list_index_2 _ _)
  (SeqAt.list_indexAt p its.toArray n dd sl u (eqU y) j (by simp; omega) (by omega) ?_ ?_) ⟨ho,fun w hw=>za9 ru fy r fs w (by simpa using hw),.int (j:Nat),H,I.tok _,⟨_,rfl⟩,q⟩
 ·simp only [List.getElem_toArray]; rw [hat j (by omega)]; exact j2
 ·intro i hi hlt
  simp only [List.getElem_toArray]
  rw [hat i (by simpa using hi)]
  simpa using j3 i hlt
def idxD:D->D->Option D
 | .lst ds,x=>if x.sc=true/\ds.all D.sc=true then (ds.findIdx? fun y=>eqS y x).bind fun j=>some (.int (j:Nat)) else none
 | _,_=>none
theorem zor {x:D} (hx:x.sc=true):∀{ds:List D},ds.all D.sc=true->(ds.map D.v).findIdx? (fun z=>eqV z x.v)=ds.findIdx? fun y=>eqS y x
 | [],_=>rfl
 | d::ds,h=>by
  rw [List.all_cons,Bool.and_eq_true] at h
  rw [List.map_cons,List.findIdx?_cons,List.findIdx?_cons,zsf h.1 hx,zor hx h.2]
theorem znd {apos cpos:Pos} (ho:XE X ct ms n o f) (he:XE X ct ms m e g) (hst:starEach [e] X.env=(false,eval e X.env)::starEach [] X.env:=by rfl)
  (hbase:attributeBase o "index" X.env (eval o X.env)=eval o X.env:=by rfl)
  (hfew:((backTo cpos (starEach [e] X.env)).all (fun x=>!x.1) && (backToKw cpos (keywordEach [] X.env)).all (fun x=>x.1.isSome)
   && decide ([e].length+([]:List Keyword).length+(if ([]:List Keyword).isEmpty then 0 else 1)<30))=true:=by rfl)
  (hline:(apos.endLine == cpos.line)=true:=by rfl) (hplain:(backTo cpos (starEach [] X.env)).any (·.1)=false:=by rfl) :
  XE X ct ms k (.Call (.Attribute o "index" apos) [e] [] cpos) (e2 idxD f g):=by
 obtain ⟨ta,pa,qa⟩:=ho
 obtain ⟨tb,pb,qb⟩:=he
 refine ⟨_,zmq PySem.F.plainAttrs_list PySem.F.slot_list_index PySem.F.type_list_index znc pa (ux pb zbj hst) hbase hfew hline hst hplain,fun F0 B F H ρ σ d Q rs e w=>?_⟩
 obtain ⟨d1,d2,h1,h2,h3⟩:=bind2 e
 refine qa F0 B F H ρ σ d1 _ rs h1 fun v1 F1 H1 x1 l1=>?_
 cases d1 with
 | lst ds =>
  unfold idxD at h3
  dsimp only at h3
  by_cases hz:d2.sc=true/\ds.all D.sc=true
  ·rw [if_pos hz] at h3
   obtain ⟨j,hj,h4⟩:=bind1 h3
   cases h4
   obtain ⟨p,vs,rfl,hp,hvs⟩:=l1.lst x1.fh
   refine ⟨.inl ⟨rfl,_,hp⟩,qb F0 B F1 H1 ρ σ d2 _ (rs.ext x1) h2 fun v2 F2 H2 x2 l2=>?_⟩
   have hv:=hvs.vs hz.2
   subst hv
   have hx:=Al.v l2 hz.1
   subst hx
   exact ⟨p,_,_,j,rfl,rfl,x2.hh.seq hp,D.flat hz.1,zc0 hz.2,by rw [zor hz.1 hz.2]; exact hj,w _ F2 H2 (x1.trans x2) (Al.of (.int _))⟩
  ·rw [if_neg hz] at h3; cases h3
 | _=>cases h3
theorem zlj:∀{xs:List V} {us:List Value},xs.length=us.length->(∀(i:Nat) (x:V) (u:Value),xs[i]?=some x->us[i]?=some u->L2.RelV x u)->Vals xs us
 | [],[],_,_=>.nil
 | [],_::_,h,_=>by cases h
 | _::_,[],h,_=>by cases h
 | x::xs,u::us,h,r=>.cons (r 0 x u rfl rfl) (zlj (by simpa using h) fun i y w hy hw=>r (i+1) y w (by simpa using hy) (by simpa using hw))
def rLRng:List V->Hp->VK->Prop:=fun vs H Q=>∃j:Int,vs=[.int j]/\0<=j/\j<=16777216/\∀l,H l=none->Q (.ref l) (upd H l (.lst ((upto 0 j.toNat).map D.v)))
def lrngD:List D->Option D
 | [.int j]=>if 0<=j/\j<=16777216 then some (.lst (upto 0 j.toNat)) else none
 | _=>none
theorem zne {lo:Int} {n i:Nat} {d:D} (h:(upto lo n)[i]?=some d):d=.int (lo+(i:Int)):=by
 unfold upto at h
 rw [List.getElem?_map] at h
 obtain ⟨t,ht,rfl⟩:=Option.map_eq_some_iff.mp h
 have:=List.getElem?_eq_some_iff.mp ht
 obtain ⟨h1,h2⟩:=this
 rw [List.getElem_range] at h2
 rw [h2]
theorem zqh {ta:TA} {p1 p2 pos2:Pos} (hc:X.calm=true) (hg:Gl X "list") (hm:X.mg "list"=none) (hg2:Gl X "range") (hm2:X.mg "range"=none) (ha:PA X [a] ta) (hs:starEach [a] X.env=[(false,eval a X.env)]:=by rfl)
    (hs2:starEach [.Call (.Name "range" p2) [a] [] pos2] X.env=[(false,eval (.Call (.Name "range" p2) [a] [] pos2) X.env)]:=by rfl) :
    PE X (.Call (.Name "list" p1) [.Call (.Name "range" p2) [a] [] pos2] [] pos) (tCB rLRng ta):=by
  intro pins s σ H Q I h
  refine wpAny_Call_Name_kw (zc6 I hg hm zce ?_ (by decide) (by decide))
  refine PyProof.Rows.callWith_type1 ?_ hs2 rfl
  rw [hs2]
  show wpAny _ _ (spliced ((false,eval (.Call (.Name "range" p2) [a] [] pos2) X.env)::[])) _ _ s
  refine Calls.spliced_cons ?_
  refine wpAny_Call_Name_kw (zc6 I hg2 hm2 boot_range ?_ (by decide) (by decide))
  refine PyProof.Rows.callWith_type1 (thn (ha pos2 pins s σ H _ I h) fun us s1 ⟨vs,H1,I1,r1,q1⟩=>?_) hs rfl
  obtain ⟨j,rfl,h1,h2,q⟩:=q1
  obtain ⟨u,rfl,t,rfl⟩:=vals1 r1
  refine call_range_1 (Calls.spliced_nil ?_)
  have I2:L2.Inv X pins σ H1 { s1 with heap:=s1.heap.push { cls:=.type "range",data:=.fields #[.int 0 s1.toks,.int j t,.int 1 (s1.toks+1)] },toks:=s1.toks+1+1 }:=I1.kept fun b o e=>Heap.get?_push_of_some _ e
  have hsz:Builtin.Range.rangeSize 0 j 1=(j.toNat:Int):=by rw [rangeSize_one]; split <;> omega
  refine call_list_range (n:=j.toNat) (I2.ok.hd hc) (IsRange.new ..) (small_one (by omega) (by omega) (by omega) (by omega)) hsz (by omega) fun h' tk acc' c' kp hS hacc=>?_
  have hv:Vals ((upto 0 j.toNat).map D.v) acc'.toList:=by
    obtain ⟨e1,e2⟩:=hacc
    refine zlj (by simp [upto,e1]) fun i x u hx hu=>?_
    obtain ⟨t,rfl⟩:=e2 i u (by simpa using hu)
    rw [List.getElem?_map] at hx
    obtain ⟨d,hd,rfl⟩:=Option.map_eq_some_iff.mp hx
    have hd:=zne hd
    subst hd
    exact ⟨t,by rw [Int.mul_one]⟩
  have hl:((upto 0 j.toNat).map D.v).length<=sizeLine:=by rw [sizeLine_eq]; simp [upto]; omega
  exact ⟨.ref _,_,I2.laid (t':=tk) kp (Nat.le_refl _) (show ObjOk X.prog X.w _ h' _ (.lst _) from ⟨hl,acc'.toList,c',hv,hS⟩),rfl,q _ (I2.hok.fresh (Nat.le_refl _))⟩
theorem zqi (lo:Int) (n:Nat):(upto lo n).all D.sc=true:=by
 rw [List.all_eq_true]
 intro d hd
 unfold upto at hd
 obtain ⟨t,_,rfl⟩:=List.mem_map.mp hd
 rfl
theorem pr_v {K:PySem.W.Frag} {F G:Hp}:∀{ds:List D},ds.all D.sc=true->Pr (Al K ct F G 0) ds (ds.map D.v)
 | [],_=>.nil
 | d::ds,h=>by
  rw [List.all_cons,Bool.and_eq_true] at h
  refine .cons ?_ (pr_v h.2)
  cases d with
  | non=>exact Al.of .non
  | bl b=>exact Al.of (.bl b)
  | int b=>exact Al.of (.int b)
  | str b=>exact Al.of (.str b)
  | _=>cases h.1
theorem znf {K:PySem.W.Frag}:OpNO K ct [n] 1 rLRng lrngD:=by
 intro F H vs ds d Q s l e w
 cases l with
 | cons h t =>
  cases t
  rename_i d1 v
  cases d1 with
  | int j =>
   unfold lrngD at e
   dsimp only at e
   by_cases hz:0<=j/\j<=16777216
   ·rw [if_pos hz] at e
    cases e
    exact ⟨j,by rw [h.int],hz.1,hz.2,zbp s (pr_v (zqi 0 j.toNat)) w⟩
   ·rw [if_neg hz] at e; cases e
  | _=>cases e
theorem zqj {fs:Env->Option (List D)} {p1 p2 pos2:Pos} (hc:X.calm=true) (hg:Gl X "list") (hm:X.mg "list"=none) (hg2:Gl X "range") (hm2:X.mg "range"=none) (ha:XA X ct ms [a] [n] fs) (hs:starEach [a] X.env=[(false,eval a X.env)]:=by rfl)
  (hs2:starEach [.Call (.Name "range" p2) [a] [] pos2] X.env=[(false,eval (.Call (.Name "range" p2) [a] [] pos2) X.env)]:=by rfl) :
  XO X ct ms 1 (.Call (.Name "list" p1) [.Call (.Name "range" p2) [a] [] pos2] [] pos) (eN lrngD fs):=by
 obtain ⟨t,pt,_,qt⟩:=ha
 refine ⟨_,zqh hc hg hm hg2 hm2 pt hs hs2,fun F0 B F H ρ σ r Q rs e w=>?_⟩
 obtain ⟨ds,h1,h2⟩:=bind1 e
 exact qt F0 B F H ρ σ ds _ rs h1 fun vs F1 H1 x1 l=>znf F1 H1 vs ds r Q x1.fh l h2 fun v F2 H2 fp x2 l2 nd hf=>w v F2 H2 fp (x1.trans x2) l2 nd fun z hz=>x1.hh.free (hf z hz)
def sAppPop (i j:Nat) (f:EF):SF:=fun ρ=>(eV i ρ).bind fun o=>(eV j ρ).bind fun q=>(f ρ).bind fun z=>match o,q,z with
 | .lst ds,.lst es,.int y=>if ds.length<16777216/\es.length<=16777216 then (ixN es.length y).bind fun t=>es[t]?.bind fun d=>some (.nx ((ρ.set j (some (.lst (es.eraseIdx t)))).set i (some (.lst (ds++[d]))))) else none
 | _,_,_=>none
theorem Pr.erase {R:D->V->Prop}:∀{ds:List D} {vs:List V} (i:Nat),Pr R ds vs->Pr R (ds.eraseIdx i) (vs.eraseIdx i)
 | _,_,_,.nil=>.nil
 | _,_,0,.cons h t=>t
 | _,_,i+1,.cons h t=>.cons h (t.erase i)
theorem zlk (i j:Nat) {x y:Str} {p1 p2 apos cpos apos2 cpos2:Pos} (hm:ms[i]?=some (.ow 1)) (hm2:ms[j]?=some (.ow 1)) (hij:i≠j) (he:XE X ct ms n e f)
  (hN:X.N[i]?=some x:=by rfl) (hv:Vis X.env.scope x:=by first | exact Or.inl rfl | exact Or.inr (Or.inl rfl) | exact Or.inr (Or.inr rfl)) (hd:(x == ("__debug__":Str))=false:=by decide) (hcd:(x == ("__classdict__":Str))=false:=by decide)
  (hN2:X.N[j]?=some y:=by rfl) (hv2:Vis X.env.scope y:=by first | exact Or.inl rfl | exact Or.inr (Or.inl rfl) | exact Or.inr (Or.inr rfl)) (hd2:(y == ("__debug__":Str))=false:=by decide) (hcd2:(y == ("__classdict__":Str))=false:=by decide)
  (hst:starEach [e] X.env=(false,eval e X.env)::starEach [] X.env:=by rfl)
  (hbase2:attributeBase (.Name y p2) "pop" X.env (eval (.Name y p2) X.env)=eval (.Name y p2) X.env:=by rfl)
  (hfew2:((backTo cpos2 (starEach [e] X.env)).all (fun x=>!x.1) && (backToKw cpos2 (keywordEach [] X.env)).all (fun x=>x.1.isSome)
   && decide ([e].length+([]:List Keyword).length+(if ([]:List Keyword).isEmpty then 0 else 1)<30))=true:=by rfl)
  (hline2:(apos2.endLine == cpos2.line)=true:=by rfl) (hplain2:(backTo cpos2 (starEach [] X.env)).any (·.1)=false:=by rfl)
  (hst2:starEach [.Call (.Attribute (.Name y p2) "pop" apos2) [e] [] cpos2] X.env=(false,eval (.Call (.Attribute (.Name y p2) "pop" apos2) [e] [] cpos2) X.env)::starEach [] X.env:=by rfl)
  (hbase:attributeBase (.Name x p1) "append" X.env (eval (.Name x p1) X.env)=eval (.Name x p1) X.env:=by rfl)
  (hfew:((backTo cpos (starEach [.Call (.Attribute (.Name y p2) "pop" apos2) [e] [] cpos2] X.env)).all (fun x=>!x.1) && (backToKw cpos (keywordEach [] X.env)).all (fun x=>x.1.isSome)
   && decide ([Expr.Call (.Attribute (.Name y p2) "pop" apos2) [e] [] cpos2].length+([]:List Keyword).length+(if ([]:List Keyword).isEmpty then 0 else 1)<30))=true:=by rfl)
  (hline:(apos.endLine == cpos.line)=true:=by rfl) (hplain:(backTo cpos (starEach [] X.env)).any (·.1)=false:=by rfl)
  (hsw:swapsWith (.Call (.Attribute (.Name x p1) "append" apos) [.Call (.Attribute (.Name y p2) "pop" apos2) [e] [] cpos2] [] cpos) none pos.line X.env=pure false:=by rfl) :
  XS X ct ms rk (.Expr (.Call (.Attribute (.Name x p1) "append" apos) [.Call (.Attribute (.Name y p2) "pop" apos2) [e] [] cpos2] [] cpos) pos) (sAppPop i j f):=by
 obtain ⟨t,pt,qt⟩:=he
 refine ⟨_,zg6 (zmq PySem.F.plainAttrs_list PySem.F.slot_list_append PySem.F.type_list_append zbw (zat hN hv hd hcd)
  (ux (zmq PySem.F.plainAttrs_list PySem.F.slot_list_pop PySem.F.type_list_pop zmr (zat hN2 hv2 hd2 hcd2) (ux pt zbj hst) hbase2 hfew2 hline2 hst hplain2) zbj hst2) hbase hfew hline hst2 hplain) hsw,fun F0 B F H ρ σ o E rs e z=>?_⟩
 obtain ⟨d1,d2,h1,h2,h3⟩:=bind2 e
 obtain ⟨d3,h4,h5⟩:=bind1 h3
 cases d1 with
 | lst ds =>
  cases d2 with
  | lst es =>
   cases d3 with
   | int w =>
    dsimp only at h5
    by_cases hz:ds.length<16777216/\es.length<=16777216
    ·rw [if_pos hz] at h5
     obtain ⟨t2,h6,h7⟩:=bind1 h5
     obtain ⟨d,h8,h9⟩:=bind1 h7
     cases h9
     obtain ⟨g1,gr,gn1,gb1,gdj,gi4,gcf,gput⟩:=rs.put (F':=F) (H':=H) hm
     obtain ⟨v,hσ,ow⟩:=gi4 _ (wj h1)
     obtain ⟨ad,vs,fr1,rfl,rfl,hF,hH,ol⟩:=ow.lst_inv
     obtain ⟨f1,fr,n1,b1,dj,i4,cf,put⟩:=rs.put (F':=F) (H':=H) hm2
     obtain ⟨v2,hσ2,ow2⟩:=i4 _ (wj h2)
     obtain ⟨bd,us,fr2,rfl,rfl,hF2,hH2,ol2⟩:=ow2.lst_inv
     have z2:=OwL.nil0 ol2
     subst z2
     refine ⟨_,hσ,.inl ⟨rfl,_,SqL.of hH⟩,_,hσ2,.inl ⟨rfl,_,SqL.of hH2⟩,qt F0 B F H ρ σ _ _ rs h4 fun v3 F' H' x1 l3=>?_⟩
     have hv3:=l3.int
     subst hv3
     obtain ⟨s1,s2,s3,s4⟩:=zg8 h6
     have hB':H' bd=some (.lst us):=x1.hh _ _ hH2
     have fB:F' bd=none:=x1.nf bd _ hH2 hF2
     have lu:=ol2.length
     have pr2:Pr (fun d v=>Dt X.K ct F' d v) es us:=ol2.pr fun d v f _ q=>q.1.mono x1.ff
     obtain ⟨u,hu,ru⟩:=pr2.get' h8
     refine ⟨bd,us,w,t2,u,rfl,rfl,hB',by omega,by omega,by rw [← lu]; exact s1,hu,?_⟩
     have rs1:=rs.change hm2 x1 hσ2 b1 dj cf put List.mem_cons_self fB (d':=.lst (es.eraseIdx t2)) (o:=.lst (us.eraseIdx t2)) (.inr (.lst fB y3 (OwL.ofPr ((pr2.erase t2).mono fun _ _ q=>Ow.zero q)))) (fn:=[bd]) (by simp) (fun a ha=>by
      rw [List.mem_singleton] at ha; subst ha; exact .inl List.mem_cons_self)
     obtain ⟨g1',gr',gn1',gb1',gdj',gi4',gcf',gput'⟩:=rs1.put (F':=F') (H':=upd H' bd (.lst (us.eraseIdx t2))) hm
     have hne:(ρ.set j (some (D.lst (es.eraseIdx t2))))[i]? = ρ[i]?:=List.getElem?_set_ne (fun e=>hij e.symm)
     obtain ⟨v',hσ',ow'⟩:=gi4' (.lst ds) (by rw [hne]; exact wj h1)
     rw [hσ] at hσ'
     cases hσ'
     obtain ⟨ad',vs',fr1',e1,rfl,hF',hH',ol'⟩:=ow'.lst_inv
     cases e1
     have zn:=OwL.nil0 ol'
     subst zn
     refine ⟨ad,vs',u,rfl,rfl,hH',by rw [← ol'.length,sizeLine_eq]; exact hz.1,?_⟩
     refine z σ F' _ (rs1.change hm (.refl rs1.fh) hσ gb1' gdj' gcf' gput' List.mem_cons_self hF' (.inr (.lst hF' y3 ((ol'.mono fun _ _ f' hi o'=>?_).append (.cons (f:=[]) (Ow.zero ru) .nil)))) (fn:=[ad]) (by simp) fun a ha=>by
      rw [List.mem_singleton] at ha; subst ha; exact .inl List.mem_cons_self)
     exact o'
    ·rw [if_neg hz] at h5; cases h5
   | _=>cases h5
  | _=>cases h5
 | _=>cases h5
end
end L3
namespace L2
open PySem PyProof.Rows
theorem zng {X:Cx} {pins:List (Addr×Obj)} {σ:St} {H:Hp} {s:Shared} {QV:VK} {use:Option (Value->Sem Unit)} {Q0:Value->Shared->Prop} {elt iter tg:Expr} {ifs:List Expr} {scope:Scope} {pos pos2:Pos} {N:List Str} {own:Nat} {cap:List Nat} {wi:TI} {g:TG} {tt:TT} {te:TE} (B:BlkOk X scope N own cap) (hc:X.calm=true) (hi:PI X tg iter wi)
    (kg:keepsCaps own g)
    (hg:∀cl C fp s₀ H₀,PG (cxB X scope cl N C fp s₀ H₀) tg g) (ht:∀cl C fp s₀ H₀,PTs (cxB X scope cl N C fp s₀ H₀) ifs tt) (he:∀cl C fp s₀ H₀,PE (cxB X scope cl N C fp s₀ H₀) elt te)
    (hs:∀x,foldedSetIterable iter X.env x=pure x) (I:Inv X pins σ H s) (h:tComp wi own cap g tt te σ H QV)
    (fin:∀(D C:Addr) (H5:Hp) (s6:Shared) (r:Flow),QV (.ref D) H5->Inv X pins σ H5 s6->FpOk X pins H5 C->(∃m,s6.heap.Ns C m)->compPost (model X.prog X.w) X.A X.xe use Q0 (.ref D) C (.ok r) s6) :
    wpAny (model X.prog X.w) X.A (comprehension (.ListComp elt [⟨tg,iter,ifs,0⟩] scope pos) scope X.env pos2 (newList []) false (eval iter X.env) use) Q0 X.xe s:=by
  obtain ⟨cl,hcl,c1,c2,_⟩:=zba (env:=X.env) scope.names [] (fun x hx hf=>I.ok.has x.1 (B.free x hx hf)) (fun y c e=>by simp at e)
  have hclos:closureFor scope X.env=pure cl:=by
    have e:closureFor scope X.env=(forIn scope.names ([]:List (Str×Addr)) (fun (x:Str×NameKind) (cs:List (Str×Addr))=>if (x.2 == NameKind.free)=true then do let a ← cellOf X.env x.1; pure (ForInStep.yield ((x.1,a)::cs)) else pure (ForInStep.yield cs)) >>= pure:Sem (List (Str×Addr))):=rfl
    rw [e,hcl]
    rfl
  refine wpAny_comprehension_free (use:=use) rfl hs hclos B.kind B.locs (thn (hi pins s σ H _ I h) fun v s1 h1=>thn h1 fun itv s2 h2=>?_)
  obtain ⟨it,fp,tn,J,H2,e,I2,T,st2,f2,W0⟩:=h2
  subst e
  obtain ⟨W,⟨m0,w0⟩,turn⟩:=W0 s2.heap.objs.size (I2.hok.fresh (Nat.le_refl _))
  refine wpAny_newObj_type ?_
  have I3:Inv X pins σ (upd H2 s2.heap.objs.size (.lst [])) { s2 with heap:=s2.heap.push { cls:=.type "list",data:=.seq ([]:List Value).toArray } }:=I2.lnew .nil (Nat.zero_le _)
  generalize hs3:({ s2 with heap:=s2.heap.push { cls:=.type "list",data:=.seq ([]:List Value).toArray } }:Shared)=s3 at I3
  have k3:∀b o,s2.heap.get? b=some o->s3.heap.get? b=some o:=fun b o e=>by rw [← hs3]; exact Heap.get?_push_of_some _ e
  have z3:s3.heap.objs.size=s2.heap.objs.size+1:=by rw [← hs3]; exact Heap.size_push _ _
  have hfo2:∀b∈fp,b<s2.heap.objs.size:=fun b hb=>by
    obtain ⟨o,e,_⟩:=T.obj _ _ st2 b hb
    exact Heap.lt_size e
  have hne:∀b∈fp,b≠s2.heap.objs.size:=fun b hb=>Nat.ne_of_lt (hfo2 b hb)
  have f3:∀b∈fp,FpOk X pins (upd H2 s2.heap.objs.size (.lst [])) b:=fun b hb=>⟨by rw [yu (hne b hb)]; exact (f2 b hb).1,(f2 b hb).2⟩
  have tn3:tn 0 s3.heap:=T.keep _ _ _ st2 fun b _ o e=>k3 b o e
  show wpAny _ _ (newFunctionEnv scope X.env.globals cl [] X.env.qual none .none (some X.env)) _ _ _
  refine zcq fun h₁ kk hns₁ hcs₁=>?_
  have IB:=zf8 (t':=s3.toks) B I3 c1 c2 f3 (fun b hb=>by rw [z3]; exact Nat.lt_succ_of_lt (hfo2 b hb)) hns₁ kk hcs₁
  generalize cellsFrom (s3.heap.objs.size+1) scope.names cl=cl at IB ⊢
  generalize hs4:({ s3 with heap:=h₁,toks:=s3.toks }:Shared)=s4 at IB
  have tn4:tn 0 s4.heap:=T.keep _ _ _ tn3 fun b _ o e=>by rw [← hs4]; exact kk b o e
  show codeAny (model X.prog X.w) X.A (.compStart (.ListComp elt [⟨tg,iter,ifs,0⟩] scope pos) 0 (.ref it) (.ref s2.heap.objs.size) (compEnvC scope cl s3.heap.objs.size X.env))
      (compPost (model X.prog X.w) X.A X.xe use Q0 (.ref s2.heap.objs.size) s3.heap.objs.size) s4
  have stat:∀{H':Hp},(∀b∈fp,H' b=none)->∀b∈fp,FpOk (cxB X scope cl N s3.heap.objs.size fp s3 (upd H2 s2.heap.objs.size (.lst []))) [] H' b:=fun hn b hb =>
    ⟨hn b hb,Nat.ne_of_lt (by show b<s3.heap.objs.size; rw [z3]; exact Nat.lt_succ_of_lt (hfo2 b hb)),IB.ok.exfs b hb,.inl hb,fun x c e=>(IB.ok.exf b hb).2 x c e,fun p hp=>(nomatch hp)⟩
  have loop:codeAny (model X.prog X.w) X.A (.compLoop (.ListComp elt [⟨tg,iter,ifs,0⟩] scope pos) 0 (.ref it) (.ref s2.heap.objs.size) (compEnvC scope cl s3.heap.objs.size X.env))
      (compPost (model X.prog X.w) X.A X.xe use Q0 (.ref s2.heap.objs.size) s3.heap.objs.size) s4:=by
    refine zcp (fun n s'=>∃i ys H',Inv (cxB X scope cl N s3.heap.objs.size fp s3 (upd H2 s2.heap.objs.size (.lst []))) [] (List.replicate own none++capsOf σ cap) H' s'/\tn i s'.heap/\(∀b∈fp,H' b=none)/\W i n ys H') ?_ m0
      ⟨0,[],_,IB,tn4,fun b hb=>(f3 b hb).1,w0⟩
    rintro n s5 ⟨i,ys,H5,I5,st5,fr5,w5⟩
    obtain ⟨hD,hgo⟩:=turn i n ys H5 w5
    rcases hgo with ⟨stop,qn⟩ | ⟨go,hlt,step⟩
    · refine thn (T.done (cxB X scope cl N s3.heap.objs.size fp s3 (upd H2 s2.heap.objs.size (.lst []))) rfl rfl rfl hc i [] s5 _ H5 (fun _ _=>False) I5 (stat fr5) st5 stop) fun r s6 ⟨hr,I6⟩=>?_
      subst hr
      obtain ⟨m,hm,_⟩:=id I6.loc
      refine fin s2.heap.objs.size s3.heap.objs.size H5 s6 _ qn ?_ (I3.fpOk (Nat.le_refl _) I6.free) ⟨m,hm⟩
      have sb:Heap.SameBut s3.heap.objs.size s6.heap s6.heap:=⟨rfl,fun _ _=>rfl⟩
      have U:=I6.base
      have nC:∀b o,s3.heap.get? b=some o->b≠s3.heap.objs.size:=fun b o e=>Nat.ne_of_lt (Heap.lt_size e)
      have nT:∀b o,H5 b=some o->b≠s3.heap.objs.size:=fun b o e z=>by
        have q:H5 s3.heap.objs.size=none:=I6.free
        rw [z,q] at e
        cases e
      refine I3.call' (ch:=fp) I6.os ?_ (fun a o e=>(I6.hok a o e).stay (fun b u hb q=>sb.extBut b u ?_ q) (fun _ q=>q) fun _ _ q=>q) I6.bare (fun b hb=>⟨(f3 b hb).2.2.2.1,(f3 b hb).2.1,(f3 b hb).2.2.2.2.1,(f3 b hb).2.2.2.2.2⟩)
      · exact {
          keep:=fun b o e z hb he=>sb.extBut b o (nC b o e) (U.keep b o e z hb he)
          slot:=fun b o e z hb he=>by
            obtain ⟨sl,q⟩:=U.slot b o e z hb he
            exact ⟨sl,sb.extBut b _ (nC b o e) q⟩
          free:=U.free
          there:=fun b o e he=>by
            obtain ⟨o',q⟩:=U.there b o e he
            exact ⟨o',sb.extBut b o' (nC b o e) q⟩
          tups:=U.tups
          frzs:=U.frzs
          tbls:=U.tbls }
      · rcases hb with rfl | hb
        · exact nT _ _ e
        · exact nT _ _ hb
    · refine thn (T.item (cxB X scope cl N s3.heap.objs.size fp s3 (upd H2 s2.heap.objs.size (.lst []))) rfl rfl rfl hc i [] s5 _ H5 (fun _ _=>False) I5 (stat fr5) st5 go) fun r s6 ⟨u,hr,h6⟩=>?_
      subst hr
      refine thn h6 fun _ s7 ⟨x,H7,I7,r7,y7,st7,fr7⟩=>?_
      have I7':=I7.pinned (stat fr7) (T.obj _ _ st7)
      refine thn (hg cl s3.heap.objs.size fp s3 _ _ s7 _ H7 x u _ I7' r7 (kg _ _ _ _ (step x H7 y7))) fun _ s8 ⟨σ8,H8,I8,q8,l8,p8⟩=>?_
      have back:∀{H9:Hp} {s9:Shared},Inv (cxB X scope cl N s3.heap.objs.size fp s3 (upd H2 s2.heap.objs.size (.lst []))) ([]++pinsAt fp s7.heap) σ8 H9 s9 ->
          Inv (cxB X scope cl N s3.heap.objs.size fp s3 (upd H2 s2.heap.objs.size (.lst []))) [] (List.replicate own none++capsOf σ cap) H9 s9/\tn (i+1) s9.heap/\∀b∈fp,H9 b=none:=fun {H9 s9} I9=>by
        refine ⟨(I9.unpinned).weak l8.symm (fun j v e=>?_),T.keep _ _ _ st7 fun b hb o e=>(I9.pin (b,o) (List.mem_append_right _ (List.mem_append_right _ (jv hb e)))).1,fun b hb=>?_⟩
        · by_cases hj:j<own
          · rw [List.getElem?_append_left (by rw [List.length_replicate]; exact hj),List.getElem?_replicate,if_pos hj] at e
            cases e
          · rw [p8 j (by omega)]; exact e
        · obtain ⟨o,e,d⟩:=T.obj _ _ st7 b hb
          exact (I9.pin (b,o) (List.mem_append_right _ (List.mem_append_right _ (jv hb e)))).2.1
      refine thn (ht cl s3.heap.objs.size fp s3 _ _ s8 σ8 H8 _ I8 q8) fun ok s9 ⟨H9,I9,q9⟩=>?_
      cases ok with
      | false =>
        rw [if_neg Bool.false_ne_true]
        rw [if_neg Bool.false_ne_true] at q9
        obtain ⟨m',hm',w'⟩:=q9
        obtain ⟨b1,b2,b3⟩:=back I9
        exact ⟨m',hm',i+1,ys,H9,b1,b2,b3,w'⟩
      | true =>
        rw [if_pos rfl]
        rw [if_pos rfl] at q9
        refine thn (he cl s3.heap.objs.size fp s3 _ _ s9 σ8 H9 _ I9 q9) fun uy s10 ⟨y,H10,I10,r10,hD10,m',hm',w'⟩=>?_
        refine thn (zbw _ s10 σ8 H10 (.ref s2.heap.objs.size) [y] (.ref s2.heap.objs.size) [uy] (fun _ H11=>H11=upd H10 s2.heap.objs.size (.lst (ys++[y]))) I10 rfl (.cons r10 .nil) ⟨_,ys,y,rfl,rfl,hD10,hlt,rfl⟩) fun _ s11 ⟨_,H11,I11,_,e11⟩=>?_
        subst e11
        obtain ⟨b1,b2,b3⟩:=back I11
        exact ⟨m',hm',i+1,ys++[y],_,b1,b2,b3,w'⟩
  exact codeAny_compStart_list loop (T.self X.A 0 s4 _ _ tn4 loop)
theorem zjm {X:Cx} {i:Nat} {x:Str} {pos' spos:Pos} {elt iter tg:Expr} {ifs:List Expr} {scope:Scope} {pos:Pos} {N:List Str} {own:Nat} {cap:List Nat} {wi:TI} {g:TG} {tt:TT} {te:TE} (B:BlkOk X scope N own cap) (hc:X.calm=true) (hi:PI X tg iter wi)
  (kg:keepsCaps own g)
  (hg:∀cl C fp s₀ H₀,PG (cxB X scope cl N C fp s₀ H₀) tg g) (ht:∀cl C fp s₀ H₀,PTs (cxB X scope cl N C fp s₀ H₀) ifs tt) (he:∀cl C fp s₀ H₀,PE (cxB X scope cl N C fp s₀ H₀) elt te)
  (hN:X.N.Nodup) (hi2:X.N[i]?=some x) (hx:Loc X.env.scope x) (hsw:swapsWith (.ListComp elt [⟨tg,iter,ifs,0⟩] scope pos) (some (.Name x pos')) spos.line X.env=pure true)
  (hs:∀x,foldedSetIterable iter X.env x=pure x:=by intro _; rfl) (hf:X.fn x=true\/X.env.scope.names.lookup x=some .local:=by first | exact .inl rfl | exact .inr rfl | assumption) :
  PS X (.Assign [.Name x pos'] (.ListComp elt [⟨tg,iter,ifs,0⟩] scope pos) spos) (tAsg (tComp wi own cap g tt te) (gName i)):=by
 intro pins s σ H D I h
 rw [exec_Assign_Name_used _ _ _ _ hsw]
 refine wpAny_bind (wpAny_standAt (wpAny_bind ?_))
 show wpAny _ X.A (do let _ ← comprehension (.ListComp elt [⟨tg,iter,ifs,0⟩] scope pos) scope X.env _ (newList []) false (eval iter X.env) (some (assign (.Name x pos') X.env))) _ _ s
 refine wpAny_bind (wpAny_mono (zng (use:=some (assign (.Name x pos') X.env)) (Q0:=fun _ s'=>∃σ' H',Inv X pins σ' H' s'/\D.nx σ' H') B hc hi kg hg ht he hs I h fun Da C H5 s6 r q I6 fo hm=>?_) (fun _ s' hq=>wpAny_pure (wpAny_pure hq)) fun _ _ e=>e)
 show wpAny _ X.A (assign (.Name x pos') X.env (.ref Da)) _ _ _
 refine wpAny_assign_Name (zfs (v:=.ref Da) I6 hN hi2 hx rfl (fun s7 I7 hsb=>?_) hf)
 obtain ⟨m,hm⟩:=hm
 obtain ⟨a,sb,ha⟩:=hsb
 obtain ⟨f0,f1,f2,f3,f4,f5⟩:=fo
 have hne:C≠a:=by
  rcases ha with rfl | ha
  ·exact f1
  ·exact fun z=>f4 x a ha z.symm
 refine ⟨m,hm.sameBut sb hne,fun h' sb'=>⟨_,H5,I7.turned (t':=s7.toks) (it:=C) (fun b o hb e=>sb'.extBut b o hb e) f0 f1 f3 f4 f5,q⟩⟩
end L2
namespace L3
open PySem PySem.Spec L2
open PyProof.Rows hiding St
section
variable {X:Cx} {ct:Nat->Addr} {ms:List Mo} {rk n m k:Nat} {a b c e o:Expr} {f g h:EF} {pos:Pos}
theorem v8 {om:List Mo} {elt iter tg:Expr} {ifs:List Expr} {scope:Scope} {N:List Str} {own:Nat} {cap:List Nat} {fi:Env->Option (List D)} {gg:D->Env->Option Env} {p:BF} {i:Nat} {x:Str} {pos' spos:Pos}
  (hm:ms[i]?=some (.ow k)) (hN:X.N.Nodup) (hi2:X.N[i]?=some x) (hx:Loc X.env.scope x)
  (B:BlkOk X scope N own cap) (hc:X.calm=true) (ho:om.length=own) (hcap:∀i∈cap,i<ms.length) (hi:XIc X ct ms n tg iter fi)
  (hg:∀cl C fp s₀ H₀,XGc (cxB X scope cl N C fp s₀ H₀) ct (om++capsM ms cap) own n tg gg) (ht:∀cl C fp s₀ H₀,XTs (cxB X scope cl N C fp s₀ H₀) ct (om++capsM ms cap) ifs p) (he:∀cl C fp s₀ H₀,XO (cxB X scope cl N C fp s₀ H₀) ct (om++capsM ms cap) (k-1) elt f)
  (hsw:swapsWith (.ListComp elt [⟨tg,iter,ifs,0⟩] scope pos) (some (.Name x pos')) spos.line X.env=pure true:=by rfl)
  (hs:∀x,foldedSetIterable iter X.env x=pure x:=by intro _; rfl) (hf:X.fn x=true\/X.env.scope.names.lookup x=some .local:=by first | exact .inl rfl | exact .inr rfl | assumption) :
  XS X ct ms rk (.Assign [.Name x pos'] (.ListComp elt [⟨tg,iter,ifs,0⟩] scope pos) spos) (sSet i (eComp fi own cap gg p f)):=by
 obtain ⟨wi,g,tt,te,pi,kg,pg,pt,pe,q⟩:=zic (k:=k-1) (pos:=pos) B hc ho hcap hi hg ht he
 refine ⟨_,zjm B hc pi kg pg pt pe hN hi2 hx hsw hs hf,fun F0 B F H ρ σ o E rs e w=>?_⟩
 obtain ⟨d,h1,h2⟩:=bind1 e
 cases h2
 cases k with
 | succ k=>exact q F0 B F H ρ σ d _ rs h1 fun v F' H' fp x l nd hf=>w _ F' H' (rs.set hm x l nd hf)
 | zero =>
  refine q F0 B F H ρ σ d _ rs h1 fun v F' H' fp x l nd hf=>?_
  obtain ⟨F2,x2,l2⟩:=l.freeze x hf
  exact w _ F2 H' (rs.set hm x2 (Ow.zero l2) List.nodup_nil fun a z=>by cases z)
theorem zqk {i:Nat} {x:Str} {pos':Pos} (hm:ms[i]?=some (.ow k)) (hN:X.N[i]?=some x:=by rfl) (hv:Vis X.env.scope x:=by first | exact Or.inl rfl | exact Or.inr (Or.inl rfl) | exact Or.inr (Or.inr rfl)) (hd:(x == ("__debug__":Str))=false:=by decide)
  (hcd:(x == ("__classdict__":Str))=false:=by decide):XS X ct ms 0 (.Return (some (.Name x pos')) pos) (sRet (eV i)):=by
 refine ⟨_,zod (zat hN hv hd hcd),fun F0 B F H ρ σ o E rs e w=>?_⟩
 obtain ⟨d,h1,h2⟩:=bind1 e
 cases h2
 obtain ⟨fp,sl,nd,hb⟩:=rs.sl
 obtain ⟨f1,fr,i1,i2,i3,i4,i5⟩:=sl.put hm
 obtain ⟨v,hv',l⟩:=i4 d (wj h1)
 obtain ⟨F',x,l2⟩:=l.freeze (⟨rs.f0,rs.bh,rs.fh,rs.nf⟩:Ext F0 B F H) (fun z hz=>hb z (i1 z hz))
 exact ⟨v,hv',w v F' H [] x.ff x.hh x.fh x.nf (Ow.zero l2) List.nodup_nil fun z hz=>by cases hz⟩
theorem zss (hu:X.A.units+1<cLine) (ha:XE X ct ms n a f) (hb:XE X ct ms m b g) (hm:behindInMarks .In b=false):XT X ct ms (.Compare a [.In] [b] pos) (tb fun ρ=>(f ρ).bind fun x=>(g ρ).bind fun y=>(dgetD y x).bind fun r=>some (.bl r.isSome)):=by
 obtain ⟨ta,tb',pa,pb,q⟩:=ha.bin hb
 refine ⟨_,zoc (zr7 hu pa pb) hm,fun F0 B F H ρ σ t Q rs e w=>?_⟩
 obtain ⟨d0,h0,h9⟩:=bind1 e
 obtain ⟨d1,d2,h1,h2,h3⟩:=bind2 h0
 obtain ⟨r,h4,h5⟩:=bind1 h3
 cases h5
 cases h9
 refine q F0 B F H ρ σ d1 d2 _ rs h1 h2 fun x y F' H' x1 l1 l2=>?_
 obtain ⟨a,o,rfl,g,_,h⟩:=zhd (r:=r) x1.fh l2 l1 h4
 refine ⟨a,o,rfl,g,?_⟩
 cases r with
 | none=>rw [h.none_of]; exact ⟨_,rfl,w F' H' x1⟩
 | some d=>obtain ⟨u,rfl,hu'⟩:=h.some_of; exact ⟨_,rfl,w F' H' x1⟩
theorem zll (hu:X.A.units+1<cLine) (ha:XE X ct ms n a f) (hb:XE X ct ms m b g) (hm:behindInMarks .NotIn b=false):XT X ct ms (.Compare a [.NotIn] [b] pos) (tb fun ρ=>(f ρ).bind fun x=>(g ρ).bind fun y=>(dgetD y x).bind fun r=>some (.bl (!r.isSome))):=by
 obtain ⟨ta,tb',pa,pb,q⟩:=ha.bin hb
 refine ⟨_,zoc (zkk hu pa pb) hm,fun F0 B F H ρ σ t Q rs e w=>?_⟩
 obtain ⟨d0,h0,h9⟩:=bind1 e
 obtain ⟨d1,d2,h1,h2,h3⟩:=bind2 h0
 obtain ⟨r,h4,h5⟩:=bind1 h3
 cases h5
 cases h9
 refine q F0 B F H ρ σ d1 d2 _ rs h1 h2 fun x y F' H' x1 l1 l2=>?_
 obtain ⟨a,o,rfl,g,_,h⟩:=zhd (r:=r) x1.fh l2 l1 h4
 refine ⟨a,o,rfl,g,?_⟩
 cases r with
 | none=>rw [h.none_of]; exact ⟨_,rfl,w F' H' x1⟩
 | some d=>obtain ⟨u,rfl,hu'⟩:=h.some_of; exact ⟨_,rfl,w F' H' x1⟩
end
end L3
namespace L2
open PySem PyProof.Rows
end L2
namespace L3
open PySem PySem.Spec L2
open PyProof.Rows hiding St
section
variable {X:Cx} {ct:Nat->Addr} {ms:List Mo} {rk n m k:Nat} {st:Stmt} {rest:List Stmt} {a b c e tg:Expr} {f g h:EF} {p q:BF} {u w:SF} {pos:Pos}
end
end L3
namespace L3
open PySem PySem.Spec L2
open PyProof.Rows hiding St
section
variable {X:Cx} {ct:Nat->Addr} {ms:List Mo} {rk n m k:Nat} {st:Stmt} {rest:List Stmt} {a b c e tg:Expr} {f g h:EF} {p q:BF} {u w:SF} {pos:Pos}
end
end L3
namespace L3
open PySem PySem.Spec L2
open PyProof.Rows hiding St
section
variable {K:PySem.W.Frag} {ct:Nat->Addr} {F F' H B F0:Hp}
theorem SL.fz:∀{ms:List Mo} {ρ:Env} {σ:St} {fp:List Addr} {i k:Nat},SL K ct F B H ms ρ σ fp->Same F H->fp.Nodup->ms[i]?=some (.ow k)->∃f1:List Addr,(∀a∈f1,a∈fp) /\
  ∃fp',SL K ct (withC F H f1) B H (ms.set i (.ow 0)) ρ σ fp'/\fp'.Nodup/\∀a∈fp',a∈fp/\a∉f1
 | _,_,_,_,_,_,.nil,_,_,e=>by simp at e
 | _,_,_,fp,0,k,.no t,s,nd,e=>by
  obtain ⟨w1,w2,w3⟩:=je (F:=F) (H:=H) (fp:=[]) s (fun a z=>by cases z)
  exact ⟨[],fun a z=>(by cases z),fp,.no (t.frame w1 fun a z=>⟨rfl,by unfold withC; rw [if_neg (by simp)]; exact (t.cells a z).1⟩),nd,fun a z=>⟨z,by simp⟩⟩
 | _,_,_,_,0,k,.al h t,_,_,e=>by simp at e
 | _,_,_,_,0,k,.px h t,_,_,e=>by simp at e
 | _,_,_,_,0,k,.so h t,_,_,e=>by simp at e
 | _,_,_,_,0,k,.ow (f:=f) (fp:=fp) h t,s,nd,e=>by
  obtain ⟨w1,w2,w3⟩:=je (F:=F) (H:=H) (fp:=f) s (fun a z=>(h.cells a z).1)
  obtain ⟨n1,n2,n3⟩:=List.nodup_append.mp nd
  refine ⟨f,fun a z=>List.mem_append_left _ z,[]++fp,.ow ⟨h.dt w1 w3,rfl⟩ (t.frame w1 fun a z=>⟨rfl,?_⟩),n2,fun a z=>⟨List.mem_append_right _ z,fun q=>n3 a q a z rfl⟩⟩
  unfold withC
  rw [if_neg fun q=>n3 a q a z rfl]
  exact (t.cells a z).1
 | _,_,_,_,i+1,k,.no t,s,nd,e=>by
  obtain ⟨f1,h1,fp',q1,q2,q3⟩:=SL.fz (i:=i) (k:=k) t s nd (by simpa using e)
  exact ⟨f1,h1,fp',.no q1,q2,q3⟩
 | _,_,_,_,i+1,k,.al h t,s,nd,e=>by
  obtain ⟨f1,h1,fp',q1,q2,q3⟩:=SL.fz (i:=i) (k:=k) t s nd (by simpa using e)
  obtain ⟨w1,w2,w3⟩:=je (F:=F) (H:=H) (fp:=f1) s (fun a z=>(t.cells a (h1 a z)).1)
  exact ⟨f1,h1,fp',.al (h.mono w1 (.refl _)) q1,q2,q3⟩
 | _,_,_,_,i+1,k,.px h t,s,nd,e=>by
  obtain ⟨f1,h1,fp',q1,q2,q3⟩:=SL.fz (i:=i) (k:=k) t s nd (by simpa using e)
  obtain ⟨w1,w2,w3⟩:=je (F:=F) (H:=H) (fp:=f1) s (fun a z=>(t.cells a (h1 a z)).1)
  exact ⟨f1,h1,fp',.px (h.mono w1 (.refl _)) q1,q2,q3⟩
 | _,_,_,_,i+1,k,.so (x:=x) (fp:=fp) h t,s,nd,e=>by
  obtain ⟨n1,n2⟩:=List.nodup_cons.mp nd
  obtain ⟨f1,h1,fp',q1,q2,q3⟩:=SL.fz (i:=i) (k:=k) t s n2 (by simpa using e)
  obtain ⟨w1,w2,w3⟩:=je (F:=F) (H:=H) (fp:=f1) s (fun a z=>(t.cells a (h1 a z)).1)
  refine ⟨f1,fun a z=>List.mem_cons_of_mem _ (h1 a z),x::fp',.so (h.frame w1 fun a z=>⟨rfl,?_⟩) q1,List.nodup_cons.mpr ⟨fun z=>n1 (q3 x z).1,q2⟩,fun a z=>?_⟩
  ·rw [List.mem_singleton] at z
   unfold withC
   rw [if_neg fun q=>n1 (z ▸ h1 a q)]
   exact (h.cells a (by rw [z]; exact List.mem_cons_self)).1
  ·rcases List.mem_cons.mp z with z | z
   ·exact ⟨z ▸ List.mem_cons_self,fun q=>n1 (z ▸ h1 a q)⟩
   ·exact ⟨List.mem_cons_of_mem _ (q3 a z).1,(q3 a z).2⟩
 | _,_,_,_,i+1,k,.ow (f:=f) (fp:=fp) h t,s,nd,e=>by
  obtain ⟨n1,n2,n3⟩:=List.nodup_append.mp nd
  obtain ⟨f1,h1,fp',q1,q2,q3⟩:=SL.fz (i:=i) (k:=k) t s n2 (by simpa using e)
  obtain ⟨w1,w2,w3⟩:=je (F:=F) (H:=H) (fp:=f1) s (fun a z=>(t.cells a (h1 a z)).1)
  refine ⟨f1,fun a z=>List.mem_append_right _ (h1 a z),f++fp',.ow (h.frame w1 fun a z=>⟨rfl,?_⟩) q1,List.nodup_append.mpr ⟨n1,q2,fun a z b zb=>n3 a z b (q3 b zb).1⟩,fun a z=>?_⟩
  ·unfold withC
   rw [if_neg fun q=>n3 a z a (h1 a q) rfl]
   exact (h.cells a z).1
  ·rcases List.mem_append.mp z with z | z
   ·exact ⟨List.mem_append_left _ z,fun q=>n3 a z a (h1 a q) rfl⟩
   ·exact ⟨List.mem_append_right _ (q3 a z).1,(q3 a z).2⟩
theorem SL.forget (m':Mo):∀{ms:List Mo} {ρ:Env} {σ:St} {fp:List Addr} (i:Nat),SL K ct F B H ms ρ σ fp->∃fp',SL K ct F B H (ms.set i m') (ρ.set i none) σ fp'/\fp'.Sublist fp
 | _,_,_,_,_,.nil=>⟨[],.nil,.refl _⟩
 | _,_,_,fp,0,.no t=>⟨fp,.no t,.refl _⟩
 | _,_,_,fp,0,.al h t=>⟨fp,.no t,.refl _⟩
 | _,_,_,fp,0,.px h t=>⟨fp,.no t,.refl _⟩
 | _,_,_,_,0,.so (x:=x) (fp:=fp) h t=>⟨fp,.no t,List.sublist_cons_self _ _⟩
 | _,_,_,_,0,.ow (f:=f) (fp:=fp) h t=>⟨fp,.no t,List.sublist_append_right _ _⟩
 | _,_,_,_,i+1,.no t=>by
  obtain ⟨fp',q1,q2⟩:=SL.forget m' i t
  exact ⟨fp',.no q1,q2⟩
 | _,_,_,_,i+1,.al h t=>by
  obtain ⟨fp',q1,q2⟩:=SL.forget m' i t
  exact ⟨fp',.al h q1,q2⟩
 | _,_,_,_,i+1,.px h t=>by
  obtain ⟨fp',q1,q2⟩:=SL.forget m' i t
  exact ⟨fp',.px h q1,q2⟩
 | _,_,_,_,i+1,.so h t=>by
  obtain ⟨fp',q1,q2⟩:=SL.forget m' i t
  exact ⟨_,.so h q1,q2.cons₂ _⟩
 | _,_,_,_,i+1,.ow h t=>by
  obtain ⟨fp',q1,q2⟩:=SL.forget m' i t
  exact ⟨_,.ow h q1,(List.Sublist.refl _).append q2⟩
theorem RS.fz {ms:List Mo} {ρ:Env} {σ:St} {i k:Nat} (rs:RS K ct F0 B ms F H ρ σ) (hm:ms[i]?=some (.ow k)):∃F',RS K ct F0 B (ms.set i (.ow 0)) F' H ρ σ:=by
 obtain ⟨fp,sl,nd,hb⟩:=rs.sl
 obtain ⟨f1,h1,fp',q1,q2,q3⟩:=sl.fz rs.fh nd hm
 obtain ⟨w1,w2,w3⟩:=je (F:=F) (H:=H) (fp:=f1) rs.fh (fun a z=>(sl.cells a (h1 a z)).1)
 refine ⟨withC F H f1,rs.f0.trans w1,rs.bh,w2,fun a o ho hn=>?_,fp',q1,q2,fun a z=>hb a (q3 a z).1⟩
 have:¬a∈f1:=fun z=>by rw [hb a (h1 a z)] at ho; cases ho
 unfold withC; rw [if_neg this]; exact rs.nf a o ho hn
theorem RS.forget {ms:List Mo} {ρ:Env} {σ:St} (m':Mo) (i:Nat) (rs:RS K ct F0 B ms F H ρ σ):RS K ct F0 B (ms.set i m') F H (ρ.set i none) σ:=by
 obtain ⟨fp,sl,nd,hb⟩:=rs.sl
 obtain ⟨fp',q1,q2⟩:=sl.forget m' i
 exact ⟨rs.f0,rs.bh,rs.fh,rs.nf,fp',q1,q2.nodup nd,fun a z=>hb a (q2.subset z)⟩
end
def outFz (i:Nat):Out->Out
 | .nx ρ=>.nx (ρ.set i none)
 | .rt d=>.rt d
 | .bk ρ=>.bk (ρ.set i none)
 | .ct ρ=>.ct (ρ.set i none)
def sFz (i:Nat) (u:SF):SF:=fun ρ=>(u ρ).bind fun o=>some (outFz i o)
section
variable {X:Cx} {ct:Nat->Addr} {ms:List Mo} {rk k:Nat}
theorem zjn {ms:List Mo} {i k:Nat} (hm:ms[i]?=some (.ow k)):(ms.set i (.ow 0)).set i (.ow k)=ms:=by
 rw [List.set_set]
 apply List.ext_getElem?
 intro j
 rw [List.getElem?_set]
 split
 ·next h =>
  subst h
  rw [hm]
  have:=(List.getElem?_eq_some_iff.mp hm).1
  rw [if_pos this]
 ·rfl
theorem ztq {i:Nat} {t:Ends->St->Hp->Prop} {w:SF} (hm:ms[i]?=some (.ow k))
  (q:∀(F0 B F H:Hp) (ρ:Env) (σ:St) (o:Out) (E:Ends),RS X.K ct F0 B (ms.set i (.ow 0)) F H ρ σ->w ρ=some o->OutOk X.K ct F0 B (ms.set i (.ow 0)) rk E o->t E σ H)
  (F0 B F H:Hp) (ρ:Env) (σ:St) (o:Out) (E:Ends) (rs:RS X.K ct F0 B ms F H ρ σ) (e:sFz i w ρ=some o) (z:OutOk X.K ct F0 B ms rk E o):t E σ H:=by
 obtain ⟨F',r2⟩:=rs.fz hm
 obtain ⟨o1,e1,e2⟩:=bind1 e
 refine q F0 B F' H ρ σ o1 E r2 e1 ?_
 have back:∀{ρ':Env} {σ':St} {F2 H2:Hp},RS X.K ct F0 B (ms.set i (.ow 0)) F2 H2 ρ' σ'->RS X.K ct F0 B ms F2 H2 (ρ'.set i none) σ':=fun r=>by
  have:=r.forget (.ow k) i
  rw [zjn hm] at this
  exact this
 cases o1 with
 | nx ρ'=>cases e2; exact fun σ' F2 H2 r=>z σ' F2 H2 (back r)
 | rt d=>cases e2; exact z
 | bk ρ'=>cases e2; exact fun σ' F2 H2 r=>z σ' F2 H2 (back r)
 | ct ρ'=>cases e2; exact fun σ' F2 H2 r=>z σ' F2 H2 (back r)
theorem zos {sts:List Stmt} {w:SF} {i:Nat} (hm:ms[i]?=some (.ow k)) (h:XSs X ct (ms.set i (.ow 0)) rk sts w):XSs X ct ms rk sts (sFz i w):=by
 obtain ⟨t,pt,qt⟩:=h
 exact ⟨t,pt,ztq hm qt⟩
theorem znh {i:Nat} {d:D}:outFz i (.rt d)=.rt d:=rfl
theorem zni {i:Nat} {ρ:Env}:outFz i (.nx ρ)=.nx (ρ.set i none):=rfl
end
end L3
namespace L3
open PySem PySem.Spec L2
open PyProof.Rows hiding St
section
variable {X:Cx} {ct:Nat->Addr} {ms:List Mo} {rk n m k:Nat} {a b c tg:Expr} {pos:Pos}
end
end L3
namespace L2
open PySem PySem.Spec PyProof.Rows
section
variable {X:Cx} {elts:List Expr} {kt:Nat} {pt:Pos}
end
end L2
namespace L3
open PySem PySem.Spec L2
open PyProof.Rows hiding St
section
variable {X:Cx} {ct:Nat->Addr} {ms:List Mo} {n:Nat} {a b:Expr} {pos:Pos}
end
end L3
namespace L3
open PySem PySem.Spec L2
open PyProof.Rows hiding St
section
variable {K:PySem.W.Frag} {ct:Nat->Addr} {n m k:Nat}
end
end L3
namespace L2
open PySem PySem.Spec PyProof.Rows
section
variable {X:Cx} {e sp:Expr} {te:TE} {tp:TO} {pos p2:Pos}
end
end L2
namespace L3
open PySem PySem.Spec L2
open PyProof.Rows hiding St
section
variable {X:Cx} {ct:Nat->Addr} {ms:List Mo} {n m:Nat} {e sp:Expr} {f g:EF} {pos p1:Pos}
end
end L3
namespace L3
open PySem PySem.Spec L2
open PyProof.Rows hiding St
def kg {α:Type} (p q:Nat) (rv:Bool) (us ws:List α):List α:=if us.length=p/\ws.length=q then us++(if rv then ws.reverse else ws) else []
section
variable {X:Cx} {ct:Nat->Addr} {ms:List Mo} {rk n m k kk:Nat} {e a:Expr} {f:EF} {x:Str} {pp pos kpos:Pos} {fa:Addr} {fd:FuncData} {ps ks:List Str} {mf:List D->Option D}
end
end L3
namespace L3
open PySem PySem.Spec L2
open PyProof.Rows hiding St
section
variable {X:Cx} {ct:Nat->Addr} {ms:List Mo} {rk n m k:Nat} {st:Stmt} {rest:List Stmt} {a b c e tg:Expr} {f g h:EF} {p q:BF} {u w:SF} {pos:Pos}
end
end L3
namespace L3
open PySem PySem.Spec L2
open PyProof.Rows hiding St
section
variable {X:Cx} {ct:Nat->Addr} {ms:List Mo} {rk n m k:Nat} {a e:Expr} {f:EF} {pos:Pos}
end
end L3
namespace L3
open PySem PySem.Spec L2
open PyProof.Rows hiding St
section
variable {X:Cx} {ct:Nat->Addr} {ms:List Mo} {n m l k:Nat} {a b c:Expr} {f g h:EF} {pos:Pos}
theorem znj {r r':R2} {o o':D->D->Option D} {ta tb' tc:TE} (hs:Op2 X.K ct n m k r o) (hs':Op2 X.K ct m l k r' o')
  (qa:∀(F0 B F H:Hp) (ρ:Env) (σ:St) (d:D) (Q:VK),RS X.K ct F0 B ms F H ρ σ->f ρ=some d->(∀v F' H',Ext F H F' H'->Al X.K ct F' H' n d v->Q v H')->ta σ H Q)
  (qb:∀(F0 B F H:Hp) (ρ:Env) (σ:St) (d:D) (Q:VK),RS X.K ct F0 B ms F H ρ σ->g ρ=some d->(∀v F' H',Ext F H F' H'->Al X.K ct F' H' m d v->Q v H')->tb' σ H Q)
  (qc:∀(F0 B F H:Hp) (ρ:Env) (σ:St) (d:D) (Q:VK),RS X.K ct F0 B ms F H ρ σ->h ρ=some d->(∀v F' H',Ext F H F' H'->Al X.K ct F' H' l d v->Q v H')->tc σ H Q)
  {F0 B F H:Hp} {ρ:Env} {σ:St} {t:Bool} {Q:VK} (rs:RS X.K ct F0 B ms F H ρ σ) (e:bAnd (tb (e2 o f g)) (tb (e2 o' g h)) ρ=some t) (w:∀F' H',Ext F H F' H'->Q (.bl t) H'):tChain r r' ta tb' tc σ H Q:=by
 obtain ⟨b1,e1,e3⟩:=bind1 e
 obtain ⟨z1,z2,z3⟩:=bind1 e1
 rw [qh z3] at z2
 obtain ⟨d1,d2,h1,h2,h3⟩:=bind2 z2
 refine qa F0 B F H ρ σ d1 _ rs h1 fun x F1 H1 x1 l1=>?_
 refine qb F0 B F1 H1 ρ σ d2 _ (rs.ext x1) h2 fun y F2 H2 x2 l2=>?_
 refine hs F2 H2 x y d1 d2 _ _ x2.fh (l1.mono x2.ff x2.hh) l2 h3 fun v F3 H3 x3 l3=>⟨b1,l3.bl,?_⟩
 have x12:=x1.trans (x2.trans x3)
 cases b1 with
 | false =>
  rw [if_neg Bool.false_ne_true] at e3 ⊢
  cases e3
  exact w F3 H3 x12
 | true =>
  rw [if_pos rfl] at e3 ⊢
  obtain ⟨z1',z2',z3'⟩:=bind1 e3
  rw [qh z3'] at z2'
  obtain ⟨d2',d3,h4,h5,h6⟩:=bind2 z2'
  rw [h2] at h4
  cases h4
  refine qc F0 B F3 H3 ρ σ d3 _ (rs.ext x12) h5 fun u F4 H4 x4 l4=>?_
  exact hs' F4 H4 y u d2 d3 _ _ x4.fh ((l2.mono x3.ff x3.hh).mono x4.ff x4.hh) l4 h6 fun v' F5 H5 x5 l5=>by
   rw [l5.bl]
   exact w F5 H5 (x12.trans (x4.trans x5))
theorem znk {op op':CmpOp} {r r':R2} {o o':D->D->Option D} (ho:OpR X (compareOp op) r) (hs:Op2 X.K ct n m k r o) (ho':OpR X (compareOp op') r') (hs':Op2 X.K ct m l k r' o') (ha:XE X ct ms n a f) (hb:XE X ct ms m b g) (hc:XE X ct ms l c h)
  (hm:lastMarks [op,op'] [b,c]=false:=by with_unfolding_all rfl):XT X ct ms (.Compare a [op,op'] [b,c] pos) (bAnd (tb (e2 o f g)) (tb (e2 o' g h))):=by
 obtain ⟨ta,pa,qa⟩:=ha
 obtain ⟨tb',pb,qb⟩:=hb
 obtain ⟨tc,pc,qc⟩:=hc
 refine ⟨_,zml ho ho' pa pb pc hm,fun F0 B F H ρ σ t Q rs e w=>?_⟩
 exact znj hs hs' qa qb qc rs e fun F' H' x=>⟨t,rfl,w F' H' x⟩
end
end L3
namespace L3
open PySem PySem.Spec L2
open PyProof.Rows hiding St
section
variable {X:Cx} {ct:Nat->Addr} {ms:List Mo} {rk n m k:Nat} {a b c e tg:Expr} {f g h:EF} {pos:Pos}
end
end L3
namespace L3
open PySem PySem.Spec L2
open PyProof.Rows hiding St
section
variable {X:Cx} {ct:Nat->Addr} {ms:List Mo} {n:Nat} {e tg:Expr} {f:EF} {pos:Pos}
end
end L3
namespace L3
open PySem PySem.Spec L2
open PyProof.Rows hiding St
section
variable {X:Cx} {K:PySem.W.Frag} {ct:Nat->Addr} {ms:List Mo} {n k:Nat}
end
end L3
namespace L3
open PySem PySem.Spec L2
open PyProof.Rows hiding St
def dst (ns:List Int):List Int:=firstMet (fun i=>ns.getD i 0) ns.length
section
variable {X:Cx} {ct:Nat->Addr} {ms:List Mo} {rk n m k:Nat} {a b c e:Expr} {f g h:EF} {pos:Pos}
theorem zlm (hc:X.calm=true):CallR X (.type "set") (fun xs H Q=>∃(a:Addr) (ns:List Int),xs=[.ref a]/\SqL X.K H a (ns.map V.int)/\ns.length<4000/\∀p,H p=none->Q (.ref p) (upd H p (.set (fun k=>(dst ns).any (· == k)) (dst ns).length))):=by
 intro pins s σ H xs us Q I r h
 obtain ⟨a,ns,rfl,hq,h64,q⟩:=h
 obtain ⟨u,rfl,ru⟩:=r.one
 cases (show u=Value.ref a from ru)
 obtain ⟨its,rv,pl,hz⟩:=I.list hq
 have hi:=IntsAre.of rv
 have hlen:its.length=ns.length:=by rw [← rv.length,List.length_map]
 have hsz:its.toArray.size=ns.length:=by rw [List.size_toArray,hlen]
 refine call_set_list (items:=its.toArray) (ns:=ns) (I.ok.hd hc) pl.isList (by simpa using hi) (by rw [hsz]; unfold scanBound; omega) fun h' tk hS hk=>?_
 rw [hsz] at hS
 exact ⟨.ref _,_,I.laid (a:=s.heap.objs.size) (o:=.set (fun k=>(dst ns).any (· == k)) (dst ns).length) (t':=tk) (fun b u hb=>hk b u (Heap.lt_size hb) hb) (Nat.le_refl _) hS,rfl,q _ (I.hok.fresh (Nat.le_refl _))⟩
theorem zln:CallR X (.builtin "len") (fun xs H Q=>∃(p:Addr) (S:Int->Bool) (n:Nat),xs=[.ref p]/\H p=some (.set S n)/\Q (.int n) H):=by
 intro pins s σ H xs us Q I r h
 obtain ⟨p,S,n,rfl,hp,q⟩:=h
 obtain ⟨u,rfl,ru⟩:=r.one
 cases (show u=Value.ref p from ru)
 obtain ⟨o,es,ep,t,h1,h2,h3,h4,h5,h6,h7,h8⟩:=(show s.heap.SetOf (intKind X.prog X.w) p S n from I.hok p _ hp)
 refine call_len_set h1 h2 h3 h7 (by unfold scanBound at h6; omega) ?_
 refine ⟨.int n,H,I.kept (t':=s.toks+1+1) (fun _ _ h=>h),⟨s.toks+1,by rw [h8]⟩,q⟩
def lenSetD:D->Option D
 | .lst ds=>(intsD ds).bind fun ns=>if ns.length<4000 then some (.int ((dst ns).length:Int)) else none
 | _=>none
theorem zlo {p1 p2 pos2:Pos} (hc:X.calm=true) (hg:Gl X "len") (hm:X.mg "len"=none) (hg2:Gl X "set") (hm2:X.mg "set"=none) (he:XE X ct ms n e f) (hs:starEach [e] X.env=[(false,eval e X.env)]:=by rfl)
  (hs2:starEach [.Call (.Name "set" p2) [e] [] pos2] X.env=[(false,eval (.Call (.Name "set" p2) [e] [] pos2) X.env)]:=by rfl) :
  XE X ct ms k (.Call (.Name "len" p1) [.Call (.Name "set" p2) [e] [] pos2] [] pos) (e1 lenSetD f):=by
 obtain ⟨t,pt,qt⟩:=he
 refine ⟨_,zbv zln hg hm vc (ux (zdc (zlm hc) hg2 hm2 zr9 (ux pt zbj hs) (by decide) (by decide) hs (by rfl)) zbj hs2) (by decide) (by decide) hs2 (by rfl),fun F0 B F H ρ σ d Q rs e w=>?_⟩
 obtain ⟨d1,h1,h2⟩:=bind1 e
 cases d1 with
 | lst ds =>
  obtain ⟨ns,h3,h4⟩:=bind1 (show (intsD ds).bind _=_ from h2)
  by_cases hz:ns.length<4000
  ·rw [if_pos hz] at h4
   cases h4
   refine qt F0 B F H ρ σ _ _ rs h1 fun v F1 H1 x1 l1=>?_
   have hds:=zck h3
   subst hds
   obtain ⟨a,vs,rfl,ha,hp⟩:=l1.lst x1.fh
   have hv:=hp.intV
   subst hv
   refine ⟨a,ns,rfl,ha,hz,fun p hp0=>⟨p,_,_,rfl,y3,?_⟩⟩
   exact w _ F1 _ (x1.trans (Ext.newO x1.fh hp0 _)) (Al.of (.int _))
  ·rw [if_neg hz] at h4; cases h4
 | _=>cases h2
def dispD (k d:D):Option D:=(keyD k).bind fun y=>some (.dK [y] [d])
theorem znl {kx vx:Expr} (hk:XE X ct ms n kx f) (hv:XE X ct ms 0 vx g):XO X ct ms 1 (.Dict [some kx] [vx] pos) (e2 dispD f g):=by
 obtain ⟨tk,pk,qk⟩:=hk
 obtain ⟨tv,pv,qv⟩:=hv
 refine ⟨_,zpv (zmu pk pv zpu) rfl rfl (by simp) (by simp),fun F0 B F H ρ σ r Q rs e w p hp=>?_⟩
 obtain ⟨d1,d2,h1,h2,h3⟩:=bind2 e
 obtain ⟨y,h4,h5⟩:=bind1 h3
 cases h5
 have x0:Ext F H F (upd H p (.dK [])):=Ext.newO rs.fh hp _
 refine qk F0 B F _ ρ σ d1 _ (rs.ext x0) h1 fun u F1 H1 x1 l1=>?_
 refine qv F0 B F1 H1 ρ σ d2 _ ((rs.ext x0).ext x1) h2 fun v F2 H2 x2 l2=>?_
 have x12:=x1.trans x2
 have hp2:H2 p=some (.dK []):=x12.hh _ _ y3
 have hFp:F2 p=none:=x12.nf p _ y3 (rs.fh.free hp)
 have hu:u=kV y:=by
  cases d1 with
  | int i=>cases h4; rw [l1.int]; rfl
  | str s=>cases h4; rw [l1.str]; rfl
  | _=>cases h4
 refine ⟨hp2,[(y,v)],by rw [hu]; rfl,by simp,?_⟩
 have hne:∀{a:Addr} {o:HO},H a=some o->a≠p:=fun ha e=>by rw [e,hp] at ha; cases ha
 have xx:Ext F H F2 (upd H2 p (.dK [(y,v)])):=⟨x12.ff,fun a o ha=>by rw [yu (hne ha)]; exact x12.hh a o (by rw [yu (hne ha)]; exact ha),fun a o ha=>by
  rw [yu (fun e=>by rw [e,hFp] at ha; cases ha)]
  exact x12.fh a o ha,fun a o ha hf=>x12.nf a o (by rw [yu (hne ha)]; exact ha) hf⟩
 refine w _ F2 _ [p] xx (.inr (OwC.dK (ks:=[y]) (vs:=[v]) hFp y3 rfl (OwL.cons (f:=[]) (g:=[]) ⟨l2,rfl⟩ .nil))) (by simp) fun z hz=>?_
 rw [List.mem_singleton] at hz; subst hz; exact hp
end
end L3
namespace L3
open PySem PySem.Spec L2
open PyProof.Rows hiding St
section
variable {K:PySem.W.Frag} {ct:Nat->Addr} {F F' H H' B F0:Hp}
end
section
variable {X:Cx} {ct:Nat->Addr} {ms:List Mo} {rk n m k:Nat} {st:Stmt} {rest:List Stmt} {a b c e tg:Expr} {f g h:EF} {p q:BF} {u w:SF} {pos:Pos}
end
section
variable {X:Cx} {ct:Nat->Addr} {ms:List Mo} {rk n m k:Nat} {st:Stmt} {rest:List Stmt} {a b c e tg:Expr} {f g h:EF} {p q:BF} {u w:SF} {pos:Pos} {i j:Nat}
variable {kk:Nat} {fa:Addr} {fd:FuncData} {ps:List Str} {mf:List D->Option D} {x:Str} {pp:Pos}
end
end L3
namespace L2
open PySem PySem.Spec
open PyProof.Rows hiding St
section
variable {X:Cx} {pos:Pos}
end
end L2
namespace L3
open PySem PySem.Spec L2
open PyProof.Rows hiding St
section
variable {X:Cx} {ct:Nat->Addr} {ms:List Mo} {n:Nat} {pos:Pos}
end
end L3
namespace L3
open PySem PySem.Spec L2
open PyProof.Rows hiding St
section
variable {X:Cx} {ct:Nat->Addr} {ms:List Mo} {rk n m k i:Nat} {a b c e:Expr} {f g h:EF} {pos:Pos}
end
end L3
namespace L3
open PySem PySem.Spec L2
open PyProof.Rows hiding St
section
variable {X:Cx} {ct:Nat->Addr} {ms:List Mo} {rk n m k:Nat} {a b c e o:Expr} {f g h:EF} {pos:Pos}
end
end L3
namespace L2
open PySem PySem.Spec
open PyProof.Rows hiding St
section
variable {X:Cx} {CX:CXT} {k:Nat} {f C:Addr} {fd:FuncData} {ps ks:List Str} {sp:Sp} {E:XK} {x m:Str} {p pos apos kpos:Pos} {e o:Expr} {es:List Expr} {kws:List Keyword} {te ta:TE} {t tk:TA} {nm:Option Str}
variable {g:List Value->List Value->List Value} {gV:List V->List V->List V}
end
end L2
namespace L3
open PySem PySem.Spec L2
open PyProof.Rows hiding St
section
variable {X:Cx} {ct:Nat->Addr} {ms:List Mo} {rk n m k kk:Nat} {e a:Expr} {f:EF} {x:Str} {pp pos kpos:Pos} {fa:Addr} {fd:FuncData} {ps ks:List Str} {pm cs:List Nat} {mi:Nat->List D->Option D}
end
end L3
namespace L3
open PySem PySem.Spec L2
open PyProof.Rows hiding St
section
variable {X:Cx} {ct:Nat->Addr} {ms:List Mo} {rk n m k i j:Nat} {a b c e:Expr} {f g h:EF} {pos:Pos}
variable {kk:Nat} {fa:Addr} {fd:FuncData} {ps:List Str} {mf:List D->Option D} {x y:Str} {pp:Pos}
end
end L3
namespace L3
open PySem PySem.Spec L2
open PyProof.Rows hiding St
open Classical in
open Classical in
section
variable {X:Cx}
end
section
variable {K:PySem.W.Frag} {ct:Nat->Addr} {n m k:Nat}
end
section
variable {α:Type} [DecidableEq α]
end
end L3
namespace Fq
theorem gcd_step (a b:Int):Int.gcd b (a.fmod b)=Int.gcd a b:=by
 rw [Int.fmod_def,Int.gcd_sub_mul_left_right,Int.gcd_comm]
theorem fmod_less (a:Int) {b:Int} (hb:b≠0):(a.fmod b).natAbs<b.natAbs:=by
 rcases Int.lt_or_gt_of_ne hb with h | h
 ·have h1:=Int.fmod_lt_of_pos (-a) (b:=-b) (by omega)
  have h2:=Int.fmod_nonneg_of_pos (-a) (b:=-b) (by omega)
  have e:(-a).fmod (-b) = -(a.fmod b):=Int.neg_fmod_neg ..
  omega
 ·have h1:=Int.fmod_lt_of_pos a h
  have h2:=Int.fmod_nonneg_of_pos a h
  omega
theorem gcd_end (a:Int):(if a<0 then -a else a)=((Int.gcd a 0:Nat):Int):=by
 rw [Int.gcd_zero_right]
 split <;> omega
def dv (t b:Int):Int:=if b<0 then -((Int.gcd t b:Nat):Int) else ((Int.gcd t b:Nat):Int)
def mk (t b:Int):Int×Int:=(t.fdiv (dv t b),b.fdiv (dv t b))
structure Low (q:Int×Int):Prop where
 pos:1<=q.2
 cop:Int.gcd q.1 q.2=1
theorem gcd_pos {t b:Int} (hb:b≠0):0<Int.gcd t b:=Int.gcd_pos_of_ne_zero_right t hb
theorem zql {t b:Int} (hb:b≠0):dv t b≠0:=by
 have:=gcd_pos (t:=t) hb
 unfold dv; split <;> omega
theorem zot (t b:Int):(dv t b).natAbs=Int.gcd t b:=by
 unfold dv; split <;> omega
theorem dv_le {t b:Int} (hb:b≠0):(dv t b).natAbs<=b.natAbs:=by
 rw [zot]
 exact Nat.le_of_dvd (by omega) (Int.natAbs_dvd_natAbs.mpr (Int.gcd_dvd_right t b) |> fun h=>by simpa using h)
theorem zdo (t b:Int):dv t b ∣ t:=by
 unfold dv; split
 ·exact Int.neg_dvd.mpr (Int.gcd_dvd_left t b)
 ·exact Int.gcd_dvd_left t b
theorem zcv (t b:Int):dv t b ∣ b:=by
 unfold dv; split
 ·exact Int.neg_dvd.mpr (Int.gcd_dvd_right t b)
 ·exact Int.gcd_dvd_right t b
theorem zlp (t b:Int):t=dv t b * (mk t b).1:=by
 show t=dv t b * t.fdiv (dv t b)
 rw [Int.fdiv_eq_ediv_of_dvd (zdo t b),Int.mul_ediv_cancel' (zdo t b)]
theorem zlq (t b:Int):b=dv t b * (mk t b).2:=by
 show b=dv t b * b.fdiv (dv t b)
 rw [Int.fdiv_eq_ediv_of_dvd (zcv t b),Int.mul_ediv_cancel' (zcv t b)]
theorem mk_low {t b:Int} (hb:b≠0):Low (mk t b):=by
 have e1:=zlp t b
 have e2:=zlq t b
 have hd:=zql (t:=t) hb
 have hg:=gcd_pos (t:=t) hb
 constructor
 ·have hs:(b<0/\dv t b<0)\/(0<b/\0<dv t b):=by
   unfold dv; split <;> omega
  rcases hs with ⟨h1,h2⟩ | ⟨h1,h2⟩
  ·rcases Int.lt_or_le (mk t b).2 1 with h | h
   ·have:0<=dv t b * (mk t b).2:=Int.mul_nonneg_of_nonpos_of_nonpos (by omega) (by omega)
    omega
   ·exact h
  ·rcases Int.lt_or_le (mk t b).2 1 with h | h
   ·have:dv t b * (mk t b).2<=0:=Int.mul_nonpos_of_nonneg_of_nonpos (by omega) (by omega)
    omega
   ·exact h
 ·have h:Int.gcd (dv t b * (mk t b).1) (dv t b * (mk t b).2)=Int.gcd t b:=by rw [← e1,← e2]
  rw [Int.gcd_mul_left,zot] at h
  exact Nat.eq_of_mul_eq_mul_left hg (by rw [h,Nat.mul_one])
theorem mk_cross (t b:Int):(mk t b).1 * b=t * (mk t b).2:=by
 have e1:=zlp t b
 have e2:=zlq t b
 generalize (mk t b).1=x at *
 generalize (mk t b).2=y at *
 generalize dv t b=d at *
 subst e1
 rw [e2]
 grind
theorem zen {d x:Int} (hd:d≠0):x.natAbs<=(d * x).natAbs:=by
 rw [Int.natAbs_mul]
 exact Nat.le_mul_of_pos_left _ (by omega)
theorem mk_le_one {t b:Int} (hb:b≠0):(mk t b).1.natAbs<=t.natAbs:=by
 have h:=zen (x:=(mk t b).1) (zql (t:=t) hb)
 rwa [← zlp] at h
theorem mk_le_two {t b:Int} (hb:b≠0):(mk t b).2.natAbs<=b.natAbs:=by
 have h:=zen (x:=(mk t b).2) (zql (t:=t) hb)
 rwa [← zlq] at h
theorem zeo {a b c:Int} (h:a ∣ b * c) (g:Int.gcd b a=1):a ∣ c:=by
 have h1:a.natAbs ∣ b.natAbs * c.natAbs:=by
  rw [← Int.natAbs_mul]; exact Int.natAbs_dvd_natAbs.mpr h
 have h2:Nat.Coprime a.natAbs b.natAbs:=by
  rw [Nat.coprime_comm]; exact g
 exact Int.natAbs_dvd_natAbs.mp (h2.dvd_of_dvd_mul_left h1)
theorem uniq {p q:Int×Int} (hp:Low p) (hq:Low q) (h:p.1 * q.2=q.1 * p.2):p=q:=by
 obtain ⟨p1,p2⟩:=p
 obtain ⟨q1,q2⟩:=q
 obtain ⟨a1,a2⟩:=hp
 obtain ⟨b1,b2⟩:=hq
 simp only at *
 have d1:p2 ∣ q2:=zeo (b:=p1) ⟨q1,by rw [h,Int.mul_comm]⟩ a2
 have d2:q2 ∣ p2:=zeo (b:=q1) ⟨p1,by rw [← h,Int.mul_comm]⟩ b2
 have e:p2=q2:=Int.dvd_antisymm (by omega) (by omega) d1 d2
 subst e
 have:p1=q1:=Int.eq_of_mul_eq_mul_right (by omega) h
 rw [this]
def plus (p q:Int×Int):Int×Int:=mk (p.1 * q.2+q.1 * p.2) (p.2 * q.2)
def scaled (p:Int×Int) (n:Int):Int×Int:=mk (p.1 * n) p.2
def minus (p q:Int×Int):Int×Int:=plus p (scaled q (-1))
def under (p q:Int×Int):Bool:=decide (p.1 * q.2<q.1 * p.2)
theorem Low.ne {q:Int×Int} (h:Low q):q.2≠0:=by have:=h.pos; omega
theorem Low.mul_ne {p q:Int×Int} (h:Low p) (h':Low q):p.2 * q.2≠0:=Int.mul_ne_zero h.ne h'.ne
theorem plus_low {p q:Int×Int} (h:Low p) (h':Low q):Low (plus p q):=mk_low (h.mul_ne h')
theorem scaled_low {p:Int×Int} (h:Low p) (n:Int):Low (scaled p n):=mk_low h.ne
theorem minus_low {p q:Int×Int} (h:Low p) (h':Low q):Low (minus p q):=plus_low h (scaled_low h' _)
theorem plus_v (p q:Int×Int):(plus p q).1 * (p.2 * q.2)=(p.1 * q.2+q.1 * p.2) * (plus p q).2:=mk_cross _ _
theorem scaled_v (p:Int×Int) (n:Int):(scaled p n).1 * p.2=(p.1 * n) * (scaled p n).2:=mk_cross _ _
theorem minus_v {p q:Int×Int} (h':Low q):(minus p q).1 * (p.2 * q.2)=(p.1 * q.2-q.1 * p.2) * (minus p q).2:=by
 have e1:=plus_v p (scaled q (-1))
 have e2:=scaled_v q (-1)
 have hs:=(scaled_low h' (-1)).ne
 show (plus p (scaled q (-1))).1 * (p.2 * q.2)=(p.1 * q.2-q.1 * p.2) * (plus p (scaled q (-1))).2
 have k:(scaled q (-1)).2 * ((plus p (scaled q (-1))).1 * (p.2 * q.2))=(scaled q (-1)).2 * ((p.1 * q.2-q.1 * p.2) * (plus p (scaled q (-1))).2):=by grind
 exact Int.eq_of_mul_eq_mul_left hs k
theorem lt_congr {n d m e n' d' m' e':Int} (hd:0<d) (he:0<e) (hd':0<d') (he':0<e') (h:n * e=m * d) (h':n' * e'=m' * d'):(n * d'<n' * d↔m * e'<m' * e):=by
 have p1:0<e * e':=Int.mul_pos he he'
 have p2:0<d * d':=Int.mul_pos hd hd'
 have k:(e * e') * (n' * d-n * d')=(d * d') * (m' * e-m * e'):=by grind
 constructor
 ·intro q
  have:0<(d * d') * (m' * e-m * e'):=by rw [← k]; exact Int.mul_pos p1 (by omega)
  have:=Int.pos_of_mul_pos_right this (by omega)
  omega
 ·intro q
  have:0<(e * e') * (n' * d-n * d'):=by rw [k]; exact Int.mul_pos p2 (by omega)
  have:=Int.pos_of_mul_pos_right this (by omega)
  omega
theorem Low.gt {q:Int×Int} (h:Low q):0<q.2:=by have:=h.pos; omega
end Fq
set_option maxHeartbeats 4000000
namespace My
open PySem L2 L3
def top (i:Nat):Stmt:=PySem.Challenge.pw_ringbeat_k38_papers_of_a_going.main.body.getD i (.Pass ⟨0,0,0,0⟩)
abbrev yx:Stmt:=inClass (top 2) 0
abbrev xa:Stmt:=inClass (top 3) 0
abbrev yk:Stmt:=inClass (top 4) 0
abbrev ym:Stmt:=inClass (top 5) 0
abbrev x9:Stmt:=top 16
abbrev wa:Stmt:=top 17
abbrev vo:Stmt:=top 18
abbrev wb:Stmt:=top 19
abbrev xb:Stmt:=top 20
abbrev wm:Stmt:=top 21
abbrev yp:Stmt:=top 22
abbrev xm:Stmt:=inClass (top 25) 0
abbrev wn:Stmt:=inClass (top 25) 2
abbrev wo:Stmt:=top 26
abbrev yg:Stmt:=top 28
abbrev jj:Stmt:=top 29
abbrev ug:Stmt:=top 32
abbrev zar:Stmt:=top 30
abbrev jk:Stmt:=top 31
abbrev jl:Stmt:=top 33
abbrev vp:Stmt:=top 35
abbrev zas:Stmt:=top 36
abbrev vq:Stmt:=top 37
abbrev wp:Stmt:=top 39
abbrev wq:Stmt:=top 40
abbrev xc:Stmt:=top 42
abbrev xn:Stmt:=top 43
abbrev wc:Stmt:=top 44
abbrev wt:Stmt:=top 45
abbrev we:Stmt:=top 46
abbrev wu:Stmt:=top 47
abbrev xo:Stmt:=top 48
abbrev wf:Stmt:=top 49
abbrev xf:Stmt:=top 50
abbrev xg:Stmt:=top 51
abbrev yy:Stmt:=top 52
abbrev wg:Stmt:=top 53
abbrev xp:Stmt:=top 54
abbrev xh:Stmt:=top 55
abbrev vt:Stmt:=top 56
abbrev zbr:Stmt:=top 57
theorem zdp:FnScope ["self","start","goal","time","behind"] ["self","start","goal","time","behind"] (defScope yx):=⟨rfl,rfl,rfl,by decide +kernel,rfl,by decide +kernel,by decide +kernel⟩
theorem zdy:FnScope ["self","start","goal","time"] ["self","start","goal","time"] (defScope xa):=⟨rfl,rfl,rfl,by decide +kernel,rfl,by decide +kernel,by decide +kernel⟩
theorem zdz:FnScope ["self","start","goal","time","behind"] ["self","start","goal","time","behind"] (defScope yk):=⟨rfl,rfl,rfl,by decide +kernel,rfl,by decide +kernel,by decide +kernel⟩
theorem zd0:FnScope ["self","start","goal","time","behind"] ["self","start","goal","time","behind"] (defScope ym):=⟨rfl,rfl,rfl,by decide +kernel,rfl,by decide +kernel,by decide +kernel⟩
theorem zgm:FnScope ["sign"] ["sign"] (defScope x9):=⟨rfl,rfl,rfl,by decide +kernel,rfl,by decide +kernel,by decide +kernel⟩
theorem zgn:FnScope ["sign"] ["sign"] (defScope wa):=⟨rfl,rfl,rfl,by decide +kernel,rfl,by decide +kernel,by decide +kernel⟩
theorem zjo:FnScope ["word"] ["word"] (defScope vo):=⟨rfl,rfl,rfl,by decide +kernel,rfl,by decide +kernel,by decide +kernel⟩
theorem za0:FnScope ["names","seen","name"] ["names"] (defScope wb):=⟨rfl,rfl,rfl,by decide +kernel,rfl,by decide +kernel,by decide +kernel⟩
theorem zd1:FnScope ["number","least","most"] ["number","least","most"] (defScope xb):=⟨rfl,rfl,rfl,by decide +kernel,rfl,by decide +kernel,by decide +kernel⟩
theorem zbs:FnScope ["arrow","many","least","most"] ["arrow","many"] (defScope wm):=⟨rfl,rfl,rfl,by decide +kernel,rfl,by decide +kernel,by decide +kernel⟩
theorem xi:FnScope ["many","arrows","within","waited","arrow","placed","done","here"] ["many","arrows"] (defScope yp):=⟨rfl,rfl,rfl,by decide +kernel,rfl,by decide +kernel,by decide +kernel⟩
theorem jp:FnScope ["self","names","arrows","number","arrow","placed"] ["self","names","arrows"] (defScope xm):=⟨rfl,rfl,rfl,by decide +kernel,rfl,by decide +kernel,by decide +kernel⟩
theorem zhi:FnScope ["self","going"] ["self","going"] (defScope wn):=⟨rfl,rfl,rfl,by decide +kernel,rfl,by decide +kernel,by decide +kernel⟩
theorem uz:FnScope ["net","going","found","done","here","number"] ["net","going"] (defScope wo):=⟨rfl,rfl,rfl,by decide +kernel,rfl,by decide +kernel,by decide +kernel⟩
theorem v9:FnScope ["one","other","rest"] ["one","other"] (defScope yg):=⟨rfl,rfl,rfl,by decide +kernel,rfl,by decide +kernel,by decide +kernel⟩
theorem zfa:FnScope ["top","bottom","divisor"] ["top","bottom"] (defScope jj):=⟨rfl,rfl,rfl,by decide +kernel,rfl,by decide +kernel,by decide +kernel⟩
theorem zlr:FnScope ["one","whole"] ["one","whole"] (defScope ug):=⟨rfl,rfl,rfl,by decide +kernel,rfl,by decide +kernel,by decide +kernel⟩
theorem zqm:FnScope ["one","other"] ["one","other"] (defScope zar):=⟨rfl,rfl,rfl,by decide +kernel,rfl,by decide +kernel,by decide +kernel⟩
theorem znm:FnScope ["one","other"] ["one","other"] (defScope jk):=⟨rfl,rfl,rfl,by decide +kernel,rfl,by decide +kernel,by decide +kernel⟩
theorem znn:FnScope ["one","other"] ["one","other"] (defScope jl):=⟨rfl,rfl,rfl,by decide +kernel,rfl,by decide +kernel,by decide +kernel⟩
theorem zcl:FnScope ["net","ring","starts","goals"] ["net","ring"] (defScope vp):=⟨rfl,rfl,rfl,by decide +kernel,rfl,by decide +kernel,by decide +kernel⟩
theorem zhj:FnScope ["net","ring","times","behinds"] ["net","ring"] (defScope zas):=⟨rfl,rfl,rfl,by decide +kernel,rfl,by decide +kernel,by decide +kernel⟩
theorem zep:FnScope ["arrow","pace","times","earliest"] ["arrow","pace","times"] (defScope vq):=⟨rfl,rfl,rfl,by decide +kernel,rfl,by decide +kernel,by decide +kernel⟩
theorem zhk:FnScope ["net","ring","pace"] ["net","ring","pace"] (defScope wp):=⟨rfl,rfl,rfl,by decide +kernel,rfl,by decide +kernel,by decide +kernel⟩
theorem u0:FnScope ["net","going","paper","pace","ring","times","leading","timed"] ["net","going","paper"] (defScope wq):=⟨rfl,rfl,rfl,by decide +kernel,rfl,by decide +kernel,by decide +kernel⟩
theorem zd2:FnScope ["_law_script","_law_k"] ["_law_script","_law_k"] (defScope xc):=⟨rfl,rfl,rfl,by decide +kernel,rfl,by decide +kernel,by decide +kernel⟩
theorem zfb:FnScope ["_law_cell"] ["_law_cell"] (defScope xn):=⟨rfl,rfl,rfl,by decide +kernel,rfl,by decide +kernel,by decide +kernel⟩
theorem za1:FnScope ["_law_cell","_law_k","_law_number"] ["_law_cell","_law_k"] (defScope wc):=⟨rfl,rfl,rfl,by decide +kernel,rfl,by decide +kernel,by decide +kernel⟩
theorem zac:FnScope ["_law_turn","_law_many","_law_going","_law_order","_law_left","_law_k"] ["_law_turn","_law_many","_law_going"] (defScope wt):=⟨rfl,rfl,rfl,by decide +kernel,rfl,by decide +kernel,by decide +kernel⟩
theorem ww:FnScope ["_law_cell","_law_many","_law_turn","_law_number","_law_start","_law_goal","_law_behind","_law_time"] ["_law_cell","_law_many","_law_turn"] (defScope we):=⟨rfl,rfl,rfl,by decide +kernel,rfl,by decide +kernel,by decide +kernel⟩
theorem jz:FnScope ["_law_arrow_here","_law_kind","_law_start","_law_goal","_law_time","_law_behind"] ["_law_arrow_here","_law_kind"] (defScope wu):=⟨rfl,rfl,rfl,by decide +kernel,rfl,by decide +kernel,by decide +kernel⟩
theorem jq:FnScope ["_law_top","_law_bottom","_law_one","_law_other"] ["_law_top","_law_bottom"] (defScope xo):=⟨rfl,rfl,rfl,by decide +kernel,rfl,by decide +kernel,by decide +kernel⟩
theorem ul:FnScope ["_law_arrows","_law_number","_law_way","_law_seen","_law_going","_law_onward"] ["_law_arrows","_law_number"] (defScope wf):=⟨rfl,rfl,rfl,by decide +kernel,rfl,by decide +kernel,by decide +kernel⟩
theorem u9:FnScope ["_law_arrows","_law_going","_law_many","_law_found_here","_law_step","_law_one"] ["_law_arrows","_law_going","_law_many"] (defScope xf):=⟨rfl,rfl,rfl,by decide +kernel,rfl,by decide +kernel,by decide +kernel⟩
theorem zd3:FnScope ["_law_arrows","_law_ring"] ["_law_arrows","_law_ring"] (defScope xg):=⟨rfl,rfl,rfl,by decide +kernel,rfl,by decide +kernel,by decide +kernel⟩
theorem xv:FnScope ["_law_arrows","_law_cell","_law_goings","_law_best","_law_k","_law_ring","_law_one","_law_other"] ["_law_arrows","_law_cell","_law_goings"] (defScope yy):=⟨rfl,rfl,rfl,by decide +kernel,rfl,by decide +kernel,by decide +kernel⟩
theorem xq:FnScope ["_law_arrows","_law_many","_law_cell","_law_goings","_law_ring","_law_beat","_law_tops","_law_step","_law_start","_law_goal","_law_time","_law_behind","_law_times","_law_going"] ["_law_arrows","_law_many","_law_cell","_law_goings"] (defScope wg):=⟨rfl,rfl,rfl,by decide +kernel,rfl,by decide +kernel,by decide +kernel⟩
theorem yz:FnScope ["_law_found_here","_law_cell","_law_arrows","_law_beat","_law_ring","_law_times","_law_at","_law_fine","_law_other","_law_some"] ["_law_found_here","_law_cell","_law_arrows"] (defScope xp):=⟨rfl,rfl,rfl,by decide +kernel,rfl,by decide +kernel,by decide +kernel⟩
theorem ja:FnScope ["_law_arrows","_law_ring","_law_goings","_law_seen","_law_k","_law_start"] ["_law_arrows","_law_ring","_law_goings"] (defScope xh):=⟨rfl,rfl,rfl,by decide +kernel,rfl,by decide +kernel,by decide +kernel⟩
theorem ua:FnScope ["_law_arrows","_law_beat","_law_times","_law_goings","_law_start","_law_goal","_law_time","_law_behind","_law_one","_law_other","_law_least"] ["_law_arrows","_law_beat","_law_times","_law_goings"] (defScope vt):=⟨rfl,rfl,rfl,by decide +kernel,rfl,by decide +kernel,by decide +kernel⟩
theorem jg:FnScope ["_law_script","_law_many","_law_arrows","_law_net","_law_cell","_law_going","_law_goings","_law_paper_here","_law_beat","_law_ring","_law_times","_law_due","_law_handed","_law_found_here"] ["_law_script"] (defScope zbr):=⟨rfl,rfl,rfl,by decide +kernel,rfl,by decide +kernel,by decide +kernel⟩
structure Adr where
 c_Arrow:Addr
 c_Ride:Addr
 c_Wait:Addr
 c_Back:Addr
 c_Net:Addr
 f_Arrow___init:Addr
 d_Arrow___init:FuncData
 f_Ride___init:Addr
 d_Ride___init:FuncData
 f_Wait___init:Addr
 d_Wait___init:FuncData
 f_Back___init:Addr
 d_Back___init:FuncData
 f_is_letter:Addr
 d_is_letter:FuncData
 f_is_figure:Addr
 d_is_figure:FuncData
 f_is_name:Addr
 d_is_name:FuncData
 f_are_names:Addr
 d_are_names:FuncData
 f_lies_within:Addr
 d_lies_within:FuncData
 f_is_right:Addr
 d_is_right:FuncData
 f_placed_goings:Addr
 d_placed_goings:FuncData
 f_Net___init:Addr
 d_Net___init:FuncData
 f_Net_into:Addr
 d_Net_into:FuncData
 f_leads_to:Addr
 d_leads_to:FuncData
 f_common_divisor:Addr
 d_common_divisor:FuncData
 f_ratio:Addr
 d_ratio:FuncData
 f_scaled:Addr
 d_scaled:FuncData
 f_plus:Addr
 d_plus:FuncData
 f_minus:Addr
 d_minus:FuncData
 f_under:Addr
 d_under:FuncData
 f_is_ring:Addr
 d_is_ring:FuncData
 f_mean:Addr
 d_mean:FuncData
 f_is_kept:Addr
 d_is_kept:FuncData
 f_has_mean:Addr
 d_has_mean:FuncData
 f_holds_at:Addr
 d_holds_at:FuncData
 f_law_cell_at:Addr
 d_law_cell_at:FuncData
 f_law_is_row:Addr
 d_law_is_row:FuncData
 f_law_mixed:Addr
 d_law_mixed:FuncData
 f_law_rank:Addr
 d_law_rank:FuncData
 f_law_arrow:Addr
 d_law_arrow:FuncData
 f_law_made:Addr
 d_law_made:FuncData
 f_law_lowest:Addr
 d_law_lowest:FuncData
 f_law_found:Addr
 d_law_found:FuncData
 f_law_leading:Addr
 d_law_leading:FuncData
 f_law_mean_of:Addr
 d_law_mean_of:FuncData
 f_law_greatest:Addr
 d_law_greatest:FuncData
 f_law_paper:Addr
 d_law_paper:FuncData
 f_law_faulty:Addr
 d_law_faulty:FuncData
 f_law_is_ring:Addr
 d_law_is_ring:FuncData
 f_law_fit:Addr
 d_law_fit:FuncData
 f_law:Addr
 d_law:FuncData
def Adr.ct (a:Adr):Nat->Addr
 | 0=>a.c_Arrow
 | 1=>a.c_Ride
 | 2=>a.c_Wait
 | 3=>a.c_Back
 | 4=>a.c_Net
 | _=>0
structure Txt (K:PySem.W.Frag) (mg:Str->Option Value) (a:Adr):Prop where
 Arrow:Dc K mg "Arrow" a.c_Arrow
 Ride:Dc K mg "Ride" a.c_Ride
 Wait:Dc K mg "Wait" a.c_Wait
 Back:Dc K mg "Back" a.c_Back
 Net:Dc K mg "Net" a.c_Net
 Arrow___init:Dm K a.c_Arrow "__init__" "Arrow.__init__" yx ["self","start","goal","time","behind"] a.f_Arrow___init a.d_Arrow___init
 Ride___init:Dm K a.c_Ride "__init__" "Ride.__init__" xa ["self","start","goal","time"] a.f_Ride___init a.d_Ride___init
 Wait___init:Dm K a.c_Wait "__init__" "Wait.__init__" yk ["self","start","goal","time","behind"] a.f_Wait___init a.d_Wait___init
 Wait___init_d1:∃dsv,True/\Vals [(V.int 0)] dsv/\Binds K a.d_Wait___init ["self","start","goal","time","behind"] dsv
 Back___init:Dm K a.c_Back "__init__" "Back.__init__" ym ["self","start","goal","time","behind"] a.f_Back___init a.d_Back___init
 Back___init_d1:∃dsv,True/\Vals [(V.int 1)] dsv/\Binds K a.d_Back___init ["self","start","goal","time","behind"] dsv
 is_letter:Dn2 K mg "is_letter" x9 ["sign"] a.f_is_letter a.d_is_letter
 is_figure:Dn2 K mg "is_figure" wa ["sign"] a.f_is_figure a.d_is_figure
 is_name:Dn2 K mg "is_name" vo ["word"] a.f_is_name a.d_is_name
 are_names:Dn2 K mg "are_names" wb ["names"] a.f_are_names a.d_are_names
 lies_within:Dn2 K mg "lies_within" xb ["number","least","most"] a.f_lies_within a.d_lies_within
 is_right:Dn2 K mg "is_right" wm ["arrow","many"] a.f_is_right a.d_is_right
 placed_goings:Dn2 K mg "placed_goings" yp ["many","arrows"] a.f_placed_goings a.d_placed_goings
 Net___init:Dm K a.c_Net "__init__" "Net.__init__" xm ["self","names","arrows"] a.f_Net___init a.d_Net___init
 Net_into:Dm K a.c_Net "into" "Net.into" wn ["self","going"] a.f_Net_into a.d_Net_into
 leads_to:Dn2 K mg "leads_to" wo ["net","going"] a.f_leads_to a.d_leads_to
 common_divisor:Dn2 K mg "common_divisor" yg ["one","other"] a.f_common_divisor a.d_common_divisor
 ratio:Dn2 K mg "ratio" jj ["top","bottom"] a.f_ratio a.d_ratio
 scaled:Dn2 K mg "scaled" ug ["one","whole"] a.f_scaled a.d_scaled
 plus:Dn2 K mg "plus" zar ["one","other"] a.f_plus a.d_plus
 minus:Dn2 K mg "minus" jk ["one","other"] a.f_minus a.d_minus
 under:Dn2 K mg "under" jl ["one","other"] a.f_under a.d_under
 is_ring:Dn2 K mg "is_ring" vp ["net","ring"] a.f_is_ring a.d_is_ring
 mean:Dn2 K mg "mean" zas ["net","ring"] a.f_mean a.d_mean
 is_kept:Dn2 K mg "is_kept" vq ["arrow","pace","times"] a.f_is_kept a.d_is_kept
 has_mean:Dn2 K mg "has_mean" wp ["net","ring","pace"] a.f_has_mean a.d_has_mean
 holds_at:Dn2 K mg "holds_at" wq ["net","going","paper"] a.f_holds_at a.d_holds_at
 law_cell_at:Dn2 K mg "_law_cell_at" xc ["_law_script","_law_k"] a.f_law_cell_at a.d_law_cell_at
 law_is_row:Dn2 K mg "_law_is_row" xn ["_law_cell"] a.f_law_is_row a.d_law_is_row
 law_mixed:Dn2 K mg "_law_mixed" wc ["_law_cell","_law_k"] a.f_law_mixed a.d_law_mixed
 law_rank:Dn2 K mg "_law_rank" wt ["_law_turn","_law_many","_law_going"] a.f_law_rank a.d_law_rank
 law_arrow:Dn2 K mg "_law_arrow" we ["_law_cell","_law_many","_law_turn"] a.f_law_arrow a.d_law_arrow
 law_made:Dn2 K mg "_law_made" wu ["_law_arrow_here","_law_kind"] a.f_law_made a.d_law_made
 law_lowest:Dn2 K mg "_law_lowest" xo ["_law_top","_law_bottom"] a.f_law_lowest a.d_law_lowest
 law_found:Dn2 K mg "_law_found" wf ["_law_arrows","_law_number"] a.f_law_found a.d_law_found
 law_leading:Dn2 K mg "_law_leading" xf ["_law_arrows","_law_going","_law_many"] a.f_law_leading a.d_law_leading
 law_mean_of:Dn2 K mg "_law_mean_of" xg ["_law_arrows","_law_ring"] a.f_law_mean_of a.d_law_mean_of
 law_greatest:Dn2 K mg "_law_greatest" yy ["_law_arrows","_law_cell","_law_goings"] a.f_law_greatest a.d_law_greatest
 law_paper:Dn2 K mg "_law_paper" wg ["_law_arrows","_law_many","_law_cell","_law_goings"] a.f_law_paper a.d_law_paper
 law_faulty:Dn2 K mg "_law_faulty" xp ["_law_found_here","_law_cell","_law_arrows"] a.f_law_faulty a.d_law_faulty
 law_is_ring:Dn2 K mg "_law_is_ring" xh ["_law_arrows","_law_ring","_law_goings"] a.f_law_is_ring a.d_law_is_ring
 law_fit:Dn2 K mg "_law_fit" vt ["_law_arrows","_law_beat","_law_times","_law_goings"] a.f_law_fit a.d_law_fit
 law:Dn2 K mg "law" zbr ["_law_script"] a.f_law a.d_law
 q_Arrow:Dq K a.c_Arrow "__init__" a.f_Arrow___init
 fld_arrows:∀c∈([4]:List Nat),Cls K (a.ct c)/\NoAttr K (a.ct c) "arrows"
 fld_behind:∀c∈([0,1,2,3]:List Nat),Cls K (a.ct c)/\NoAttr K (a.ct c) "behind"
 fld_goal:∀c∈([0,1,2,3]:List Nat),Cls K (a.ct c)/\NoAttr K (a.ct c) "goal"
 fld_names:∀c∈([4]:List Nat),Cls K (a.ct c)/\NoAttr K (a.ct c) "names"
 fld_start:∀c∈([0,1,2,3]:List Nat),Cls K (a.ct c)/\NoAttr K (a.ct c) "start"
 fld_time:∀c∈([0,1,2,3]:List Nat),Cls K (a.ct c)/\NoAttr K (a.ct c) "time"
 isi_Back:∀c∈([0,1,2,3,4]:List Nat),Ic K (a.ct c)/\PySem.W.kitOne K (.ref (a.ct c)) (.ref a.c_Back)=some (List.contains [3] c)
 isi_Ride:∀c∈([0,1,2,3,4]:List Nat),Ic K (a.ct c)/\PySem.W.kitOne K (.ref (a.ct c)) (.ref a.c_Ride)=some (List.contains [1] c)
 b_abs:mg "abs"=none
 b_all:mg "all"=none
 b_bool:mg "bool"=none
 b_enumerate:mg "enumerate"=none
 b_int:mg "int"=none
 b_isinstance:mg "isinstance"=none
 b_len:mg "len"=none
 b_list:mg "list"=none
 b_max:mg "max"=none
 b_min:mg "min"=none
 b_range:mg "range"=none
 b_set:mg "set"=none
 b_sorted:mg "sorted"=none
 b_str:mg "str"=none
 b_sum:mg "sum"=none
 g_MOST_ARROWS:∃t,mg "MOST_ARROWS"=some (.int 120 t)
 g_MOST_BEHIND:∃t,mg "MOST_BEHIND"=some (.int 4 t)
 g_MOST_NAMES:∃t,mg "MOST_NAMES"=some (.int 40 t)
 g_MOST_SIGNS:∃t,mg "MOST_SIGNS"=some (.int 8 t)
 g_MOST_TIME:∃t,mg "MOST_TIME"=some (.int 1000000000 t)
section
variable {P:Program} {w:World} {K:PySem.W.Frag} {mg:Str->Option Value} {base:Heap} {a:Adr} {ct:Nat->Addr}
def jb:Nat->List D->Option D:=iOf ["self","start","goal","time","behind"]
  (sSeq (sFldD [0,1,2,3] "start" (eV 1))
  (sSeq (sFldD [0,1,2,3] "goal" (eV 2))
  (sSeq (sFldD [0,1,2,3] "time" (eV 3))
  (sFldD [0,1,2,3] "behind" (eV 4)))))
theorem j4 (T:Txt K mg a):FnOk P w K mg base CX0 1 a.f_Arrow___init a.d_Arrow___init ["self","start","goal","time","behind"] (ISp K a.ct [0,1,2,3] [0,0,0,0] jb):=by
 refine zaz (ms:=[.ow 0,.ow 0,.ow 0,.ow 0]) (rk:=0) T.Arrow___init.fn zdp rfl rfl (by decide) (zy (by decide)) fun x0 cdv A outer s H E hr=>?_
 exact (ze (zem T.fld_start (za 1 0))
  (ze (zem T.fld_goal (za 2 0))
  (ze (zem T.fld_time (za 3 0))
  (zj (zem T.fld_behind (za 4 0))))))
def zad:Nat->List D->Option D:=iOf ["self","start","goal","time"]
  (sInitD [0,1,2,3] (aCons (eV 1) (aCons (eV 2) (aCons (eV 3) (aCons (eC (.int 0)) aNil)))) jb)
theorem zd4 (T:Txt K mg a):FnOk P w K mg base CX0 2 a.f_Ride___init a.d_Ride___init ["self","start","goal","time"] (ISp K a.ct [1] [0,0,0] zad):=by
 have G_Arrow___init:=j4 (P:=P) (w:=w) (base:=base) T
 refine zaz (ms:=[.ow 0,.ow 0,.ow 0]) (rk:=0) T.Ride___init.fn zdy rfl rfl (by decide) (zy (by decide)) fun x0 cdv A outer s H E hr=>?_
 exact (zj (zhh (ns:=[0,0,0,0]) G_Arrow___init (hr.mono (by decide)) T.Arrow.mgx T.q_Arrow.sp T.q_Arrow.rd T.q_Arrow.fc T.Arrow___init.fn.kp T.Arrow___init.bd (by decide) (zc (za 1 0) (zc (za 2 0) (zc (za 3 0) (zc (zh (n:=0)) zk))))))
def zae:Nat->List D->Option D:=iOf ["self","start","goal","time","behind"]
  (sInitD [0,1,2,3] (aCons (eV 1) (aCons (eV 2) (aCons (eV 3) (aCons (eV 4) aNil)))) jb)
theorem zd5 (T:Txt K mg a):FnOk P w K mg base CX0 2 a.f_Wait___init a.d_Wait___init ["self","start","goal","time","behind"] (ISp K a.ct [2] [0,0,0,0] zae):=by
 have G_Arrow___init:=j4 (P:=P) (w:=w) (base:=base) T
 refine zaz (ms:=[.ow 0,.ow 0,.ow 0,.ow 0]) (rk:=0) T.Wait___init.fn zdz rfl rfl (by decide) (zy (by decide)) fun x0 cdv A outer s H E hr=>?_
 exact (zj (zhh (ns:=[0,0,0,0]) G_Arrow___init (hr.mono (by decide)) T.Arrow.mgx T.q_Arrow.sp T.q_Arrow.rd T.q_Arrow.fc T.Arrow___init.fn.kp T.Arrow___init.bd (by decide) (zc (za 1 0) (zc (za 2 0) (zc (za 3 0) (zc (za 4 0) zk))))))
def zaf:Nat->List D->Option D:=iOf ["self","start","goal","time","behind"]
  (sInitD [0,1,2,3] (aCons (eV 1) (aCons (eV 2) (aCons (eV 3) (aCons (eV 4) aNil)))) jb)
theorem zd6 (T:Txt K mg a):FnOk P w K mg base CX0 2 a.f_Back___init a.d_Back___init ["self","start","goal","time","behind"] (ISp K a.ct [3] [0,0,0,0] zaf):=by
 have G_Arrow___init:=j4 (P:=P) (w:=w) (base:=base) T
 refine zaz (ms:=[.ow 0,.ow 0,.ow 0,.ow 0]) (rk:=0) T.Back___init.fn zd0 rfl rfl (by decide) (zy (by decide)) fun x0 cdv A outer s H E hr=>?_
 exact (zj (zhh (ns:=[0,0,0,0]) G_Arrow___init (hr.mono (by decide)) T.Arrow.mgx T.q_Arrow.sp T.q_Arrow.rd T.q_Arrow.fc T.Arrow___init.fn.kp T.Arrow___init.bd (by decide) (zc (za 1 0) (zc (za 2 0) (zc (za 3 0) (zc (za 4 0) zk))))))
def zbt:List D->Option D:=mOf ["sign"]
  (sRet (eB (bAnd (tb (e2 leD (eC (.str "a")) (eV 0))) (tb (e2 leD (eV 0) (eC (.str "z")))))))
theorem zgo (T:Txt K mg a):FnOk P w K mg base CX0 1 a.f_is_letter a.d_is_letter ["sign"] (LSp K a.ct [0] 0 zbt):=by
 refine lift (ms:=[.ow 0]) T.is_letter.fn zgm rfl rfl (by decide) (zy (by decide)) fun cdv A outer s H E hr=>?_
 exact (zj (yj (XE.ow (zaq (jm (k:=0) zdg zbo (zf9 (n:=0)) (za 0 0) (nomark _)) (zap (k:=0) (jm (k:=0) zdg zbo (za 0 0) (zf9 (n:=0)) (nomark _)))))))
def zdq:List D->Option D:=mOf ["sign"]
  (sRet (eB (bAnd (tb (e2 leD (eC (.str "0")) (eV 0))) (tb (e2 leD (eV 0) (eC (.str "9")))))))
theorem zgp (T:Txt K mg a):FnOk P w K mg base CX0 1 a.f_is_figure a.d_is_figure ["sign"] (LSp K a.ct [0] 0 zdq):=by
 refine lift (ms:=[.ow 0]) T.is_figure.fn zgn rfl rfl (by decide) (zy (by decide)) fun cdv A outer s H E hr=>?_
 exact (zj (yj (XE.ow (zaq (jm (k:=0) zdg zbo (zf9 (n:=0)) (za 0 0) (nomark _)) (zap (k:=0) (jm (k:=0) zdg zbo (za 0 0) (zf9 (n:=0)) (nomark _)))))))
def zhl:EF:=(eComp (fun ρ=>((eV 0) ρ).bind asS) 1 [] (gV 0) bTrue (eB (bOr (tb (fun ρ=>((aCons (eV 0) aNil) ρ).bind fun ds=>zbt (ds++[]))) (tb (fun ρ=>((aCons (eV 0) aNil) ρ).bind fun ds=>zdq (ds++[]))))))
def zgq:List D->Option D:=mOf ["word"]
  (sSeq (sIf (bOr (bNot (tb (e1 (isiD "str") (eV 0)))) (bOr (tb (e2 ltD (eN lenD (aCons (eV 0) aNil)) (eC (.int 1)))) (tb (e2 gtD (eN lenD (aCons (eV 0) aNil)) (eC (.int 8)))))) (sRet (eC (.bl false))) sSkip)
  (sRet (eB (bAnd (tb (fun ρ=>((aCons (e2 ixD (eV 0) (eC (.int 0))) aNil) ρ).bind fun ds=>zbt (ds++[]))) (tb (eN allD (aCons zhl aNil)))))))
theorem zjp (T:Txt K mg a):FnOk P w K mg base CX0 2 a.f_is_name a.d_is_name ["word"] (LSp K a.ct [0] 0 zgq):=by
 have G_is_letter:=zgo (P:=P) (w:=w) (base:=base) T
 have G_is_figure:=zgp (P:=P) (w:=w) (base:=base) T
 refine lift (ms:=[.ow 0]) T.is_name.fn zjo rfl rfl (by decide) (zy (by decide)) fun cdv A outer s H E hr=>?_
 exact (ze (vn (XW.t (zbi (zao (jo (zgb (k:=0) (by decide) T.b_isinstance T.b_str zok (za 0 0)))) (zbi (yf (k:=0) zc8 zav (ya (k:=0) yh xu rfl T.b_len vc (zc (za 0 0) zk)) (zh (n:=0)) (nomark _)) (zau (yf (k:=0) zi9 zeh (ya (k:=0) yh xu rfl T.b_len vc (zc (za 0 0) zk)) (zdj (n:=0) (d:=(.int 8)) rfl T.g_MOST_SIGNS.choose_spec rfl ⟨_,rfl⟩) (nomark _)))))) (zj (yj (XE.ow (zbh (n:=0))))) yo)
  (zj (yj (XE.ow (zaq (XO.sh (n:=0) (zw (dds:=[]) (ns:=[0]) (nd:=[]) G_is_letter (hr.mono (by decide)) rfl T.is_letter.mgx T.is_letter.fn.kp T.is_letter.bd .nil (fun _ _=>.nil) (zc (yc (n:=0) zm zu (za 0 0) (zh (n:=0)) (fun _ _=>rfl)) zk))) (zap (k:=0) (ya (k:=0) (zgi rfl) zld rfl T.b_all zom (zc (XO.sh (n:=0) (jy (N:=["sign"]) (om:=[.ow 0]) (cap:=[]) (own:=1) (uk (by rfl)) rfl rfl (by decide) (XI.cc (zsr (n:=0) (za 0 0))) (fun _ _ _ _ _=>(xr (by decide) rfl (show List.Nodup (["sign"]:List Str) from by decide +kernel) rfl (by first | exact Or.inl rfl | exact Or.inr rfl))) (fun _ _ _ _ _=>ji) (fun _ _ _ _ _=>(XE.ow (ztm (XO.sh (n:=0) (zw (dds:=[]) (ns:=[0]) (nd:=[]) G_is_letter (hr.mono (by decide)) rfl T.is_letter.mgx T.is_letter.fn.kp T.is_letter.bd .nil (fun _ _=>.nil) (zc (za 0 0) zk))) (zap (k:=0) (XO.sh (n:=0) (zw (dds:=[]) (ns:=[0]) (nd:=[]) G_is_figure (hr.mono (by decide)) rfl T.is_figure.mgx T.is_figure.fn.kp T.is_figure.bd .nil (fun _ _=>.nil) (zc (za 0 0) zk))))))))) zk))))))))
def zfc:SF:=(sSeq (sIf (bOr (bNot (tb (fun ρ=>((aCons (eV 2) aNil) ρ).bind fun ds=>zgq (ds++[])))) (tb (fun ρ=>((eV 2) ρ).bind fun x=>((eV 1) ρ).bind fun y=>(dgetD y x).bind fun r=>some (.bl r.isSome)))) (sRet (eC (.bl false))) sSkip)
  (sPutD 1 (eV 2) (eC (.bl true))))
def zag:List D->Option D:=mOf ["names","seen","name"]
  (sSeq (sIf (bOr (bNot (tb (e1 (isiD "list") (eV 0)))) (bOr (tb (e2 ltD (eN lenD (aCons (eV 0) aNil)) (eC (.int 1)))) (tb (e2 gtD (eN lenD (aCons (eV 0) aNil)) (eC (.int 40)))))) (sRet (eC (.bl false))) sSkip)
  (sSeq (sSet 1 (eC (.dK [] [])))
  (sSeq (sFor (lsD (eV 0)) (gV 2) zfc)
  (sRet (eC (.bl true))))))
theorem zgr (T:Txt K mg a):FnOk P w K mg base CX0 3 a.f_are_names a.d_are_names ["names"] (LSp K a.ct [0] 0 zag):=by
 have G_is_name:=zjp (P:=P) (w:=w) (base:=base) T
 refine lift (ms:=[.ow 0,.ow 1,.ow 0]) T.are_names.fn za0 rfl rfl (by decide) (zy (by decide)) fun cdv A outer s H E hr=>?_
 exact (ze (vn (XW.t (zbi (zao (jo (zgb (k:=0) (by decide) T.b_isinstance T.b_list zce (za 0 0)))) (zbi (yf (k:=0) zc8 zav (ya (k:=0) yh xu rfl T.b_len vc (zc (za 0 0) zk)) (zh (n:=0)) (nomark _)) (zau (yf (k:=0) zi9 zeh (ya (k:=0) yh xu rfl T.b_len vc (zc (za 0 0) zk)) (zdj (n:=0) (d:=(.int 40)) rfl T.g_MOST_NAMES.choose_spec rfl ⟨_,rfl⟩) (nomark _)))))) (zj (yj (XE.ow (zbh (n:=0))))) yo)
  (ze (zx rfl za0.nd rfl (Or.inl rfl) zmw)
  (ze (jx (zaa (za 0 0)) (y2 rfl za0.nd rfl (Or.inl rfl)) (ze (vn (XW.t (zbi (zao (jo (XO.sh (n:=0) (zw (dds:=[]) (ns:=[0]) (nd:=[]) G_is_name (hr.mono (by decide)) rfl T.is_name.mgx T.is_name.fn.kp T.is_name.bd .nil (fun _ _=>.nil) (zc (za 2 0) zk))))) (zau (zss (zkg hr) (za 2 0) (za 1 1) (by with_unfolding_all rfl))))) (zj (yj (XE.ow (zbh (n:=0))))) yo)
  (zj (zle 1 rfl (zkg hr) (za 2 0) (zbh (n:=0))))) PassesOwn.never rfl)
  (zj (yj (XE.ow (zbh (n:=0))))))))
def y0:List D->Option D:=mOf ["number","least","most"]
  (sSeq (sIf (bOr (bNot (tb (e1 (isiD "int") (eV 0)))) (tb (e1 (isiD "bool") (eV 0)))) (sRet (eC (.bl false))) sSkip)
  (sRet (eB (bAnd (tb (e2 leD (eV 1) (eV 0))) (tb (e2 leD (eV 0) (eV 2)))))))
theorem zd7 (T:Txt K mg a):FnOk P w K mg base CX0 1 a.f_lies_within a.d_lies_within ["number","least","most"] (LSp K a.ct [0,0,0] 0 y0):=by
 refine lift (ms:=[.ow 0,.ow 0,.ow 0]) T.lies_within.fn zd1 rfl rfl (by decide) (zy (by decide)) fun cdv A outer s H E hr=>?_
 exact (ze (vn (XW.t (zbi (zao (jo (zgb (k:=0) (by decide) T.b_isinstance T.b_int zr8 (za 0 0)))) (zau (jo (zgb (k:=0) (by decide) T.b_isinstance T.b_bool zko (za 0 0)))))) (zj (yj (XE.ow (zbh (n:=0))))) yo)
  (zj (yj (XE.ow (zaq (jm (k:=0) zdg zbo (za 1 0) (za 0 0) (nomark _)) (zap (k:=0) (jm (k:=0) zdg zbo (za 0 0) (za 2 0) (nomark _))))))))
def zbe:List D->Option D:=mOf ["arrow","many","least","most"]
  (sSeq (sSet 2 (eIf (tb (e1 (isiC [0,1,2,3,4] [3]) (eV 0))) (eC (.int 1)) (eC (.int 0))))
  (sSeq (sSet 3 (eIf (tb (e1 (isiC [0,1,2,3,4] [1]) (eV 0))) (eC (.int 0)) (eC (.int 4))))
  (sSeq (sIf (bOr (bNot (tb (fun ρ=>((aCons (e1 (fldD [0,1,2,3] "start") (eV 0)) (aCons (eC (.int 0)) (aCons (e2 subD (eV 1) (eC (.int 1))) aNil))) ρ).bind fun ds=>y0 (ds++[])))) (bNot (tb (fun ρ=>((aCons (e1 (fldD [0,1,2,3] "goal") (eV 0)) (aCons (eC (.int 0)) (aCons (e2 subD (eV 1) (eC (.int 1))) aNil))) ρ).bind fun ds=>y0 (ds++[]))))) (sRet (eC (.bl false))) sSkip)
  (sRet (eB (bAnd (tb (fun ρ=>((aCons (e1 (fldD [0,1,2,3] "time") (eV 0)) (aCons (eC (.int 0)) (aCons (eC (.int 1000000000)) aNil))) ρ).bind fun ds=>y0 (ds++[]))) (tb (fun ρ=>((aCons (e1 (fldD [0,1,2,3] "behind") (eV 0)) (aCons (eV 2) (aCons (eV 3) aNil))) ρ).bind fun ds=>y0 (ds++[])))))))))
theorem zhm (T:Txt K mg a):FnOk P w K mg base CX0 2 a.f_is_right a.d_is_right ["arrow","many"] (LSp K a.ct [0,0] 0 zbe):=by
 have G_lies_within:=zd7 (P:=P) (w:=w) (base:=base) T
 refine lift (ms:=[.ow 0,.ow 0,.ow 0,.ow 0]) T.is_right.fn zbs rfl rfl (by decide) (zy (by decide)) fun cdv A outer s H E hr=>?_
 exact (ze (zx rfl zbs.nd rfl (Or.inl rfl) (XE.ow (zsc (jo (zlh (k:=0) T.isi_Back T.b_isinstance T.Back.mgx (za 0 0))) (zh (n:=0)) (zh (n:=0)))))
  (ze (zx rfl zbs.nd rfl (Or.inl rfl) (XE.ow (zsc (jo (zlh (k:=0) T.isi_Ride T.b_isinstance T.Ride.mgx (za 0 0))) (zh (n:=0)) (zdj (n:=0) (d:=(.int 4)) rfl T.g_MOST_BEHIND.choose_spec rfl ⟨_,rfl⟩))))
  (ze (vn (XW.t (zbi (zao (jo (XO.sh (n:=0) (zw (dds:=[]) (ns:=[0,0,0]) (nd:=[]) G_lies_within (hr.mono (by decide)) rfl T.lies_within.mgx T.lies_within.fn.kp T.lies_within.bd .nil (fun _ _=>.nil) (zc (xw (n:=0) (za 0 0) T.fld_start rfl) (zc (zh (n:=0)) (zc (ye (k:=0) zc7 zbn (za 1 0) (zh (n:=0))) zk))))))) (zau (zao (jo (XO.sh (n:=0) (zw (dds:=[]) (ns:=[0,0,0]) (nd:=[]) G_lies_within (hr.mono (by decide)) rfl T.lies_within.mgx T.lies_within.fn.kp T.lies_within.bd .nil (fun _ _=>.nil) (zc (xw (n:=0) (za 0 0) T.fld_goal rfl) (zc (zh (n:=0)) (zc (ye (k:=0) zc7 zbn (za 1 0) (zh (n:=0))) zk)))))))))) (zj (yj (XE.ow (zbh (n:=0))))) yo)
  (zj (yj (XE.ow (zaq (XO.sh (n:=0) (zw (dds:=[]) (ns:=[0,0,0]) (nd:=[]) G_lies_within (hr.mono (by decide)) rfl T.lies_within.mgx T.lies_within.fn.kp T.lies_within.bd .nil (fun _ _=>.nil) (zc (xw (n:=0) (za 0 0) T.fld_time rfl) (zc (zh (n:=0)) (zc (zdj (n:=0) (d:=(.int 1000000000)) rfl T.g_MOST_TIME.choose_spec rfl ⟨_,rfl⟩) zk))))) (zap (k:=0) (XO.sh (n:=0) (zw (dds:=[]) (ns:=[0,0,0]) (nd:=[]) G_lies_within (hr.mono (by decide)) rfl T.lies_within.mgx T.lies_within.fn.kp T.lies_within.bd .nil (fun _ _=>.nil) (zc (xw (n:=0) (za 0 0) T.fld_behind rfl) (zc (za 2 0) (zc (za 3 0) zk)))))))))))))
def vg:SF:=(sIf (tb (e2 (eqD false) (e1 (fldD [0,1,2,3] "start") (eV 4)) (eV 7))) (sSeq (sAugL 3 (e1 (fldD [0,1,2,3] "goal") (eV 4)) (fun i j=>i-j) (eC (.int 1)))
  (sIf (tb (e2 (eqD false) (e2 ixD (eV 3) (e1 (fldD [0,1,2,3] "goal") (eV 4))) (eC (.int 0)))) (sApp 5 (e1 (fldD [0,1,2,3] "goal") (eV 4))) sSkip)) sSkip)
def u5:SF:=(sSeq (sSet 7 (e2 ixD (eV 5) (eV 6)))
  (sSeq (sFor (lsD (eV 2)) (gV 4) vg)
  (sAug 6 (i2 fun i j=>.int (i+j)) (eC (.int 1)))))
def qw:EF:=(eComp (fun ρ=>((aCons (eV 0) aNil) ρ).bind rng1) 1 [3] (gV 0) (tb (e2 (eqD false) (e2 ixD (eV 1) (eV 0)) (eC (.int 0)))) (eV 0))
def u6:SF:=(sAugL 3 (e1 (fldD [0,1,2,3] "goal") (eV 4)) (fun i j=>i+j) (eC (.int 1)))
def qx:EF:=(eComp (lsD (eV 1)) 1 [] (gV 0) (tb (e2 (eqD false) (e1 (fldD [0,1,2,3] "behind") (eV 0)) (eC (.int 0)))) (eV 0))
def v6:List D->Option D:=mOf ["many","arrows","within","waited","arrow","placed","done","here"]
  (sSeq (sSet 2 qx)
  (sSeq (sSet 3 (e2 repD (fun ρ=>((aCons (eC (.int 0)) aNil) ρ).bind fun ds=>some (.lst ds)) (eV 0)))
  (sSeq (sFor (lsD (eV 2)) (gV 4) u6)
  (sSeq (sSet 5 qw)
  (sSeq (sSet 6 (eC (.int 0)))
  (sSeq (sWhile (tb (e2 ltD (eV 6) (eN lenD (aCons (eV 5) aNil)))) u5)
  (sRet (eV 5))))))))
theorem zcz (T:Txt K mg a):FnOk P w K mg base CX0 1 a.f_placed_goings a.d_placed_goings ["many","arrows"] (LSp K a.ct [0,0] 0 v6):=by
 refine lift (ms:=[.ow 0,.ow 0,.ow 0,.ow 1,.ow 0,.ow 1,.ow 0,.ow 0]) T.placed_goings.fn xi rfl rfl (by decide) (zy (by decide)) fun cdv A outer s H E hr=>?_
 exact (ze (v8 (k:=0) (N:=["arrow"]) (om:=[.ow 0]) (cap:=[]) (own:=1) rfl xi.nd rfl (Or.inl rfl) (uk (by rfl)) rfl rfl (by decide) (ut (n:=0) (za 1 0)) (fun _ _ _ _ _=>(xr (by decide) rfl (show List.Nodup (["arrow"]:List Str) from by decide +kernel) rfl (by first | exact Or.inl rfl | exact Or.inr rfl))) (fun _ _ _ _ _=>(zaw (yf (k:=0) (ue hr.u64) xz (xw (n:=0) (za 0 0) T.fld_behind rfl) (zh (n:=0)) (nomark _)))) (fun _ _ _ _ _=>(XE.ow (za 0 0))))
  (ze (zx rfl xi.nd rfl (Or.inr rfl) (zsh (vd (k:=0) (zl (XE.ow (zh (n:=0))) yb)) (za 0 0)))
  (ze (jx (zaa (za 2 0)) (y2 rfl xi.nd rfl (Or.inl rfl)) (zj (zlg 3 zj3 rfl (xw (n:=0) (za 4 0) T.fld_goal rfl) (zh (n:=0)))) PassesOwn.never rfl)
  (ze (v8 (k:=1) (N:=["going","waited"]) (om:=[.ow 0]) (cap:=[3]) (own:=1) rfl xi.nd rfl (Or.inl rfl) (uk (by rfl)) rfl rfl (by decide) (XI.cc (v5 (n:=0) T.b_range (zc (za 0 0) zk))) (fun _ _ _ _ _=>(xr (by decide) rfl (show List.Nodup (["going","waited"]:List Str) from by decide +kernel) rfl (by first | exact Or.inl rfl | exact Or.inr rfl))) (fun _ _ _ _ _=>(zaw (yf (k:=0) (ue hr.u64) xz (yc (n:=1) zm zu (za 1 1) (za 0 0) (fun _ _=>rfl)) (zh (n:=0)) (nomark _)))) (fun _ _ _ _ _=>(XE.ow (za 0 0))))
  (ze (zx rfl xi.nd rfl (Or.inl rfl) (XE.ow (zh (n:=0))))
  (ze (zb4 (yf (k:=0) zc8 zav (za 6 0) (ya (k:=0) yh xu rfl T.b_len vc (zc (za 5 1) zk)) (nomark _)) (ze (zx rfl xi.nd rfl (Or.inl rfl) (XE.ow (yc (n:=1) zm zu (za 5 1) (za 6 0) (fun _ _=>rfl))))
  (ze (jx (zaa (za 2 0)) (y2 rfl xi.nd rfl (Or.inl rfl)) (zj (vn (yf (k:=0) (ue hr.u64) xz (xw (n:=0) (za 4 0) T.fld_start rfl) (za 7 0) (nomark _)) (ze (zlg 3 zrs rfl (xw (n:=0) (za 4 0) T.fld_goal rfl) (zh (n:=0)))
  (zj (vn (yf (k:=0) (ue hr.u64) xz (yc (n:=1) zm zu (za 3 1) (xw (n:=0) (za 4 0) T.fld_goal rfl) (fun _ _=>rfl)) (zh (n:=0)) (nomark _)) (zj (zax 5 rfl (XE.ow (xw (n:=0) (za 4 0) T.fld_goal rfl)))) yo))) yo)) PassesOwn.never rfl)
  (zj (zoq zj3 rfl xi.nd rfl (Or.inl rfl) (zh (n:=0)))))) PassesOwn.never)
  (zj (zqk (i:=5) rfl))))))))
def ql:SF:=(sIf (bNot (tb (fun ρ=>((aCons (eV 4) (aCons (eN lenD (aCons (eV 1) aNil)) aNil)) ρ).bind fun ds=>zbe (ds++[])))) sNever sSkip)
def qj:Nat->List D->Option D:=iOf ["self","names","arrows","number","arrow","placed"]
  (sSeq (sIf (bOr (bNot (tb (fun ρ=>((aCons (eV 1) aNil) ρ).bind fun ds=>zag (ds++[])))) (tb (e2 gtD (eN lenD (aCons (eV 2) aNil)) (eC (.int 120))))) sNever sSkip)
  (sSeq (sFor (fun ρ=>((aCons (eV 2) aNil) ρ).bind fun ds=>match ds with | [.lst xs]=>some (enumD 0 xs) | _=>none) (gT (gsCons (gV 3) (gsCons (gV 4) gsNil))) ql)
  (sSeq (sSet 5 (fun ρ=>((aCons (eN lenD (aCons (eV 1) aNil)) (aCons (eV 2) aNil)) ρ).bind fun ds=>v6 (ds++[])))
  (sSeq (sIf (tb (e2 ltD (eN lenD (aCons (eV 5) aNil)) (eN lenD (aCons (eV 1) aNil)))) sNever sSkip)
  (sSeq (sFldD [4] "names" (eN listD (aCons (eV 1) aNil)))
  (sFldD [4] "arrows" (eN listD (aCons (eV 2) aNil))))))))
theorem zfd (T:Txt K mg a):FnOk P w K mg base CX0 4 a.f_Net___init a.d_Net___init ["self","names","arrows"] (ISp K a.ct [4] [0,0] qj):=by
 have G_are_names:=zgr (P:=P) (w:=w) (base:=base) T
 have G_is_right:=zhm (P:=P) (w:=w) (base:=base) T
 have G_placed_goings:=zcz (P:=P) (w:=w) (base:=base) T
 refine zaz (ms:=[.ow 0,.ow 0,.ow 0,.ow 0,.ow 0]) (rk:=0) T.Net___init.fn jp rfl rfl (by decide) (zy (by decide)) fun x0 cdv A outer s H E hr=>?_
 exact (ze (vn (XW.t (zbi (zao (jo (XO.sh (n:=0) (zw (dds:=[]) (ns:=[0]) (nd:=[]) G_are_names (hr.mono (by decide)) rfl T.are_names.mgx T.are_names.fn.kp T.are_names.bd .nil (fun _ _=>.nil) (zc (za 1 0) zk))))) (zau (yf (k:=0) zi9 zeh (ya (k:=0) yh xu rfl T.b_len vc (zc (za 2 0) zk)) (zdj (n:=0) (d:=(.int 120)) rfl T.g_MOST_ARROWS.choose_spec rfl ⟨_,rfl⟩) (nomark _))))) (zj ze4) yo)
  (ze (jx (zp3 T.b_enumerate (zc (za 2 0) zk)) (zeg (n:=1) rfl (xy (y2 rfl jp.nd rfl (Or.inl rfl)) (xy (y2 rfl jp.nd rfl (Or.inl rfl)) zch))) (zj (vn (zao (jo (XO.sh (n:=0) (zw (dds:=[]) (ns:=[0,0]) (nd:=[]) G_is_right (hr.mono (by decide)) rfl T.is_right.mgx T.is_right.fn.kp T.is_right.bd .nil (fun _ _=>.nil) (zc (za 4 0) (zc (ya (k:=0) yh xu rfl T.b_len vc (zc (za 1 0) zk)) zk)))))) (zj ze4) yo)) PassesOwn.never rfl)
  (ze (zx rfl jp.nd rfl (Or.inl rfl) (zw (dds:=[]) (ns:=[0,0]) (nd:=[]) G_placed_goings (hr.mono (by decide)) rfl T.placed_goings.mgx T.placed_goings.fn.kp T.placed_goings.bd .nil (fun _ _=>.nil) (zc (ya (k:=0) yh xu rfl T.b_len vc (zc (za 1 0) zk)) (zc (za 2 0) zk))))
  (ze (vn (yf (k:=0) zc8 zav (ya (k:=0) yh xu rfl T.b_len vc (zc (za 5 0) zk)) (ya (k:=0) yh xu rfl T.b_len vc (zc (za 1 0) zk)) (nomark _)) (zj ze4) yo)
  (ze (zem T.fld_names (XO.sh (n:=0) (zb3 qf (zc1 (n:=0) (by decide)) rfl T.b_list zce (zc (za 1 0) zk))))
  (zj (zem T.fld_arrows (XO.sh (n:=0) (zb3 qf (zc1 (n:=0) (by decide)) rfl T.b_list zce (zc (za 2 0) zk))))))))))
def za2:EF:=(eComp (fun ρ=>((aCons (e1 (fldD [4] "arrows") (eV 0)) aNil) ρ).bind fun ds=>match ds with | [.lst xs]=>some (enumD 0 xs) | _=>none) 2 [1] (gT (gsCons (gV 0) (gsCons (gV 1) gsNil))) (tb (e2 (eqD false) (e1 (fldD [0,1,2,3] "goal") (eV 1)) (eV 2))) (eV 0))
def qy:List D->Option D:=mOf ["self","going"]
  (sRet za2)
theorem zhn (T:Txt K mg a):FnOk P w K mg base CX0 1 a.f_Net_into a.d_Net_into ["self","going"] (LSp K a.ct [0,0] 0 qy):=by
 refine lift (ms:=[.ow 0,.ow 0]) T.Net_into.fn zhi rfl rfl (by decide) (zy (by decide)) fun cdv A outer s H E hr=>?_
 exact (zj (yj (XE.ow (XO.sh (n:=0) (jy (N:=["number","arrow","going"]) (om:=[.ow 0,.ow 0]) (cap:=[1]) (own:=2) (uk (by rfl)) rfl rfl (by decide) (zie (n:=0) T.b_enumerate (zc (xw (n:=0) (za 0 0) T.fld_arrows rfl) zk)) (fun _ _ _ _ _=>(zk0 (n:=1) rfl (zb5 (xr (by decide) rfl (show List.Nodup (["number","arrow","going"]:List Str) from by decide +kernel) rfl (by first | exact Or.inl rfl | exact Or.inr rfl)) (zb5 (xr (by decide) rfl (show List.Nodup (["number","arrow","going"]:List Str) from by decide +kernel) rfl (by first | exact Or.inl rfl | exact Or.inr rfl)) zib)))) (fun _ _ _ _ _=>(zaw (yf (k:=0) (ue hr.u64) xz (xw (n:=0) (za 1 0) T.fld_goal rfl) (za 2 0) (nomark _)))) (fun _ _ _ _ _=>(XE.ow (za 0 0))))))))
def um:SF:=(sIf (tb (e2 (inD true) (e1 (fldD [0,1,2,3] "start") (e2 ixD (e1 (fldD [4] "arrows") (eV 0)) (eV 5))) (eV 2))) (sApp 2 (e1 (fldD [0,1,2,3] "start") (e2 ixD (e1 (fldD [4] "arrows") (eV 0)) (eV 5)))) sSkip)
def za3:SF:=(sSeq (sSet 4 (e2 ixD (eV 2) (eV 3)))
  (sSeq (sFor (lsD (fun ρ=>((eV 0) ρ).bind fun o=>((aCons (eV 4) aNil) ρ).bind fun ds=>metD 4 "into" qy o (ds++[]))) (gV 5) um)
  (sAug 3 (i2 fun i j=>.int (i+j)) (eC (.int 1)))))
def jw:List D->Option D:=mOf ["net","going","found","done","here","number"]
  (sSeq (sSet 2 (fun ρ=>((aCons (eV 1) aNil) ρ).bind fun ds=>some (.lst ds)))
  (sSeq (sSet 3 (eC (.int 0)))
  (sSeq (sWhile (tb (e2 ltD (eV 3) (eN lenD (aCons (eV 2) aNil)))) za3)
  (sRet (eN sortD (aCons (eV 2) aNil))))))
theorem zho (T:Txt K mg a):FnOk P w K mg base CX0 2 a.f_leads_to a.d_leads_to ["net","going"] (LSp K a.ct [0,0] 1 jw):=by
 have G_Net_into:=zhn (P:=P) (w:=w) (base:=base) T
 refine lift (ms:=[.ow 0,.ow 0,.ow 1,.ow 0,.ow 0,.ow 0]) T.leads_to.fn uz rfl rfl (by decide) (zy (by decide)) fun cdv A outer s H E hr=>?_
 exact (ze (zx rfl uz.nd rfl (Or.inl rfl) (vd (k:=0) (zl (XE.ow (za 1 0)) yb)))
  (ze (zx rfl uz.nd rfl (Or.inl rfl) (XE.ow (zh (n:=0))))
  (ze (zb4 (yf (k:=0) zc8 zav (za 3 0) (ya (k:=0) yh xu rfl T.b_len vc (zc (za 2 1) zk)) (nomark _)) (ze (zx rfl uz.nd rfl (Or.inl rfl) (XE.ow (yc (n:=1) zm zu (za 2 1) (za 3 0) (fun _ _=>rfl))))
  (ze (jx (zaa (XO.sh (n:=0) (zpz (n:=0) (c0:=4) (ns:=[0]) (nd:=[]) (dds:=[]) (za 0 0) T.Net.cl T.Net_into.me G_Net_into (hr.mono (by decide)) T.Net_into.bd .nil (fun _ _=>.nil) (zc (za 4 0) zk)))) (y2 rfl uz.nd rfl (Or.inl rfl)) (zj (vn (yf (k:=0) qd zbk (xw (n:=0) (yc (n:=0) zm zu (xw (n:=0) (za 0 0) T.fld_arrows rfl) (za 5 0) (fun _ _=>rfl)) T.fld_start rfl) (za 2 1) (by with_unfolding_all rfl)) (zj (zax 2 rfl (XE.ow (xw (n:=0) (yc (n:=0) zm zu (xw (n:=0) (za 0 0) T.fld_arrows rfl) (za 5 0) (fun _ _=>rfl)) T.fld_start rfl)))) yo)) PassesOwn.never rfl)
  (zj (zoq zj3 rfl uz.nd rfl (Or.inl rfl) (zh (n:=0)))))) PassesOwn.never)
  (zj (yj (zh8 zcu zik rfl T.b_sorted zf7 (zc (za 2 1) zk)))))))
def uv:SF:=(sSeq (sSet 2 (e2 modD (eV 0) (eV 1)))
  (sSeq (sSet 0 (eV 1))
  (sSet 1 (eV 2))))
def uh:List D->Option D:=mOf ["one","other","rest"]
  (sSeq (sWhile (tb (e2 (eqD true) (eV 1) (eC (.int 0)))) uv)
  (sRet (eN absD (aCons (eV 0) aNil))))
theorem zcm (T:Txt K mg a):FnOk P w K mg base CX0 1 a.f_common_divisor a.d_common_divisor ["one","other"] (LSp K a.ct [0,0] 0 uh):=by
 refine lift (ms:=[.ow 0,.ow 0,.ow 0]) T.common_divisor.fn v9 rfl rfl (by decide) (zy (by decide)) fun cdv A outer s H E hr=>?_
 exact (ze (zb4 (yf (k:=0) (zan hr.u64) xz (za 1 0) (zh (n:=0)) (nomark _)) (ze (zx rfl v9.nd rfl (Or.inl rfl) (XE.ow (ye (k:=0) xj xl (za 0 0) (za 1 0))))
  (ze (zx rfl v9.nd rfl (Or.inl rfl) (XE.ow (za 1 0)))
  (zj (zx rfl v9.nd rfl (Or.inl rfl) (XE.ow (za 2 0)))))) PassesOwn.never)
  (zj (yj (XE.ow (ya (k:=0) zex zhe rfl T.b_abs zkp (zc (za 0 0) zk))))))
def zcn:List D->Option D:=mOf ["top","bottom","divisor"]
  (sSeq (sSet 2 (fun ρ=>((aCons (eV 0) (aCons (eV 1) aNil)) ρ).bind fun ds=>uh (ds++[])))
  (sSeq (sIf (tb (e2 ltD (eV 1) (eC (.int 0)))) (sSet 2 (e1 negD (eV 2))) sSkip)
  (sRet (fun ρ=>((aCons (e2 fdivD (eV 0) (eV 2)) (aCons (e2 fdivD (eV 1) (eV 2)) aNil)) ρ).bind fun ds=>some (.tup ds)))))
theorem zfe (T:Txt K mg a):FnOk P w K mg base CX0 2 a.f_ratio a.d_ratio ["top","bottom"] (LSp K a.ct [0,0] 0 zcn):=by
 have G_common_divisor:=zcm (P:=P) (w:=w) (base:=base) T
 refine lift (ms:=[.ow 0,.ow 0,.ow 0]) T.ratio.fn zfa rfl rfl (by decide) (zy (by decide)) fun cdv A outer s H E hr=>?_
 exact (ze (zx rfl zfa.nd rfl (Or.inl rfl) (zw (dds:=[]) (ns:=[0,0]) (nd:=[]) G_common_divisor (hr.mono (by decide)) rfl T.common_divisor.mgx T.common_divisor.fn.kp T.common_divisor.bd .nil (fun _ _=>.nil) (zc (za 0 0) (zc (za 1 0) zk))))
  (ze (vn (yf (k:=0) zc8 zav (za 1 0) (zh (n:=0)) (nomark _)) (zj (zx rfl zfa.nd rfl (Or.inl rfl) (XE.ow (zbl (k:=0) (za 2 0))))) yo)
  (zj (yj (XE.ow (XO.sh (n:=0) (ur (zl (XE.ow (ye (k:=0) ve vf (za 0 0) (za 2 0))) (zl (XE.ow (ye (k:=0) ve vf (za 1 0) (za 2 0))) yb)))))))))
def zb7:List D->Option D:=mOf ["one","whole"]
  (sRet (fun ρ=>((aCons (e2 mulI (e2 ixD (eV 0) (eC (.int 0))) (eV 1)) (aCons (e2 ixD (eV 0) (eC (.int 1))) aNil)) ρ).bind fun ds=>zcn (ds++[])))
theorem zgs (T:Txt K mg a):FnOk P w K mg base CX0 3 a.f_scaled a.d_scaled ["one","whole"] (LSp K a.ct [0,0] 0 zb7):=by
 have G_ratio:=zfe (P:=P) (w:=w) (base:=base) T
 refine lift (ms:=[.ow 0,.ow 0]) T.scaled.fn zlr rfl rfl (by decide) (zy (by decide)) fun cdv A outer s H E hr=>?_
 exact (zj (yj (zw (dds:=[]) (ns:=[0,0]) (nd:=[]) G_ratio (hr.mono (by decide)) rfl T.ratio.mgx T.ratio.fn.kp T.ratio.bd .nil (fun _ _=>.nil) (zc (ye (k:=0) xk yq (yc (n:=0) zm zu (za 0 0) (zh (n:=0)) (fun _ _=>rfl)) (za 1 0)) (zc (yc (n:=0) zm zu (za 0 0) (zh (n:=0)) (fun _ _=>rfl)) zk)))))
def zgt:List D->Option D:=mOf ["one","other"]
  (sRet (fun ρ=>((aCons (e2 addD (e2 mulI (e2 ixD (eV 0) (eC (.int 0))) (e2 ixD (eV 1) (eC (.int 1)))) (e2 mulI (e2 ixD (eV 1) (eC (.int 0))) (e2 ixD (eV 0) (eC (.int 1))))) (aCons (e2 mulI (e2 ixD (eV 0) (eC (.int 1))) (e2 ixD (eV 1) (eC (.int 1)))) aNil)) ρ).bind fun ds=>zcn (ds++[])))
theorem zls (T:Txt K mg a):FnOk P w K mg base CX0 3 a.f_plus a.d_plus ["one","other"] (LSp K a.ct [0,0] 0 zgt):=by
 have G_ratio:=zfe (P:=P) (w:=w) (base:=base) T
 refine lift (ms:=[.ow 0,.ow 0]) T.plus.fn zqm rfl rfl (by decide) (zy (by decide)) fun cdv A outer s H E hr=>?_
 exact (zj (yj (zw (dds:=[]) (ns:=[0,0]) (nd:=[]) G_ratio (hr.mono (by decide)) rfl T.ratio.mgx T.ratio.fn.kp T.ratio.bd .nil (fun _ _=>.nil) (zc (XO.sh (n:=0) (vz yr (yt (n:=0) (m:=0) (by decide) (by decide)) (ye (k:=0) xk yq (yc (n:=0) zm zu (za 0 0) (zh (n:=0)) (fun _ _=>rfl)) (yc (n:=0) zm zu (za 1 0) (zh (n:=0)) (fun _ _=>rfl))) (ye (k:=0) xk yq (yc (n:=0) zm zu (za 1 0) (zh (n:=0)) (fun _ _=>rfl)) (yc (n:=0) zm zu (za 0 0) (zh (n:=0)) (fun _ _=>rfl))))) (zc (ye (k:=0) xk yq (yc (n:=0) zm zu (za 0 0) (zh (n:=0)) (fun _ _=>rfl)) (yc (n:=0) zm zu (za 1 0) (zh (n:=0)) (fun _ _=>rfl))) zk)))))
def zff:List D->Option D:=mOf ["one","other"]
  (sRet (fun ρ=>((aCons (eV 0) (aCons (fun ρ=>((aCons (eV 1) (aCons (e1 negD (eC (.int 1))) aNil)) ρ).bind fun ds=>zb7 (ds++[])) aNil)) ρ).bind fun ds=>zgt (ds++[])))
theorem zno (T:Txt K mg a):FnOk P w K mg base CX0 4 a.f_minus a.d_minus ["one","other"] (LSp K a.ct [0,0] 0 zff):=by
 have G_plus:=zls (P:=P) (w:=w) (base:=base) T
 have G_scaled:=zgs (P:=P) (w:=w) (base:=base) T
 refine lift (ms:=[.ow 0,.ow 0]) T.minus.fn znm rfl rfl (by decide) (zy (by decide)) fun cdv A outer s H E hr=>?_
 exact (zj (yj (zw (dds:=[]) (ns:=[0,0]) (nd:=[]) G_plus (hr.mono (by decide)) rfl T.plus.mgx T.plus.fn.kp T.plus.bd .nil (fun _ _=>.nil) (zc (za 0 0) (zc (XO.sh (n:=0) (zw (dds:=[]) (ns:=[0,0]) (nd:=[]) G_scaled (hr.mono (by decide)) rfl T.scaled.mgx T.scaled.fn.kp T.scaled.bd .nil (fun _ _=>.nil) (zc (za 1 0) (zc (zbl (k:=0) (zh (n:=0))) zk)))) zk)))))
def zfg:List D->Option D:=mOf ["one","other"]
  (sRet (e2 ltD (e2 mulI (e2 ixD (eV 0) (eC (.int 0))) (e2 ixD (eV 1) (eC (.int 1)))) (e2 mulI (e2 ixD (eV 1) (eC (.int 0))) (e2 ixD (eV 0) (eC (.int 1))))))
theorem znp (T:Txt K mg a):FnOk P w K mg base CX0 1 a.f_under a.d_under ["one","other"] (LSp K a.ct [0,0] 0 zfg):=by
 refine lift (ms:=[.ow 0,.ow 0]) T.under.fn znn rfl rfl (by decide) (zy (by decide)) fun cdv A outer s H E hr=>?_
 exact (zj (yj (XE.ow (jm (k:=0) zc8 zav (ye (k:=0) xk yq (yc (n:=0) zm zu (za 0 0) (zh (n:=0)) (fun _ _=>rfl)) (yc (n:=0) zm zu (za 1 0) (zh (n:=0)) (fun _ _=>rfl))) (ye (k:=0) xk yq (yc (n:=0) zm zu (za 1 0) (zh (n:=0)) (fun _ _=>rfl)) (yc (n:=0) zm zu (za 0 0) (zh (n:=0)) (fun _ _=>rfl))) (nomark _)))))
def zdr:EF:=(eComp (lsD (eV 1)) 1 [0] (gV 0) bTrue (e1 (fldD [0,1,2,3] "goal") (e2 ixD (e1 (fldD [4] "arrows") (eV 1)) (eV 0))))
def zds:EF:=(eComp (lsD (eV 1)) 1 [0] (gV 0) bTrue (e1 (fldD [0,1,2,3] "start") (e2 ixD (e1 (fldD [4] "arrows") (eV 1)) (eV 0))))
def j5:List D->Option D:=mOf ["net","ring","starts","goals"]
  (sSeq (sIf (bOr (tb (e2 (eqD false) (eN lenD (aCons (eV 1) aNil)) (eC (.int 0)))) (bOr (tb (e2 ltD (eN minD (aCons (eV 1) aNil)) (eC (.int 0)))) (tb (e2 geD (eN maxD (aCons (eV 1) aNil)) (eN lenD (aCons (e1 (fldD [4] "arrows") (eV 0)) aNil)))))) (sRet (eC (.bl false))) sSkip)
  (sSeq (sSet 2 zds)
  (sSeq (sSet 3 zdr)
  (sRet (eB (bAnd (tb (e2 (eqD false) (eV 2) (e2 addD (fun ρ=>((eV 3) ρ).bind fun d=>((pInt (e1 negD (eC (.int 1)))) ρ).bind fun l=>(pNo ρ).bind fun h=>sliceD d l h) (fun ρ=>((eV 3) ρ).bind fun d=>(pNo ρ).bind fun l=>((pInt (e1 negD (eC (.int 1)))) ρ).bind fun h=>sliceD d l h)))) (tb (e2 (eqD false) (e1 lenSetD (eV 3)) (eN lenD (aCons (eV 3) aNil))))))))))
theorem zjq (T:Txt K mg a):FnOk P w K mg base CX0 1 a.f_is_ring a.d_is_ring ["net","ring"] (LSp K a.ct [0,0] 0 j5):=by
 refine lift (ms:=[.ow 0,.ow 0,.ow 0,.ow 0]) T.is_ring.fn zcl rfl rfl (by decide) (zy (by decide)) fun cdv A outer s H E hr=>?_
 exact (ze (vn (XW.t (zbi (yf (k:=0) (ue hr.u64) xz (ya (k:=0) yh xu rfl T.b_len vc (zc (za 1 0) zk)) (zh (n:=0)) (nomark _)) (zbi (yf (k:=0) zc8 zav (ya (k:=0) (zlc rfl) zqe rfl T.b_min zsa (zc (za 1 0) zk)) (zh (n:=0)) (nomark _)) (zau (yf (k:=0) zo9 zky (ya (k:=0) (zlb rfl) zqd rfl T.b_max zol (zc (za 1 0) zk)) (ya (k:=0) yh xu rfl T.b_len vc (zc (xw (n:=0) (za 0 0) T.fld_arrows rfl) zk)) (nomark _)))))) (zj (yj (XE.ow (zbh (n:=0))))) yo)
  (ze (v8 (k:=0) (N:=["number","net"]) (om:=[.ow 0]) (cap:=[0]) (own:=1) rfl zcl.nd rfl (Or.inl rfl) (uk (by rfl)) rfl rfl (by decide) (ut (n:=0) (za 1 0)) (fun _ _ _ _ _=>(xr (by decide) rfl (show List.Nodup (["number","net"]:List Str) from by decide +kernel) rfl (by first | exact Or.inl rfl | exact Or.inr rfl))) (fun _ _ _ _ _=>ji) (fun _ _ _ _ _=>(XE.ow (xw (n:=0) (yc (n:=0) zm zu (xw (n:=0) (za 1 0) T.fld_arrows rfl) (za 0 0) (fun _ _=>rfl)) T.fld_start rfl))))
  (ze (v8 (k:=0) (N:=["number","net"]) (om:=[.ow 0]) (cap:=[0]) (own:=1) rfl zcl.nd rfl (Or.inl rfl) (uk (by rfl)) rfl rfl (by decide) (ut (n:=0) (za 1 0)) (fun _ _ _ _ _=>(xr (by decide) rfl (show List.Nodup (["number","net"]:List Str) from by decide +kernel) rfl (by first | exact Or.inl rfl | exact Or.inr rfl))) (fun _ _ _ _ _=>ji) (fun _ _ _ _ _=>(XE.ow (xw (n:=0) (yc (n:=0) zm zu (xw (n:=0) (za 1 0) T.fld_arrows rfl) (za 0 0) (fun _ _=>rfl)) T.fld_goal rfl))))
  (zj (yj (XE.ow (zaq (jm (k:=0) (ue hr.u64) xz (za 2 0) (XO.sh (n:=0) (vz yr (yt (n:=0) (m:=0) (by decide) (by decide)) (XO.sh (n:=0) (vv (n:=0) (by decide) (za 3 0) (uf (zbl (k:=0) (zh (n:=0)))) zcy)) (XO.sh (n:=0) (vv (n:=0) (by decide) (za 3 0) zcy (uf (zbl (k:=0) (zh (n:=0)))))))) (nomark _)) (zap (k:=0) (jm (k:=0) (ue hr.u64) xz (zlo (k:=0) rfl rfl T.b_len rfl T.b_set (za 3 0)) (ya (k:=0) yh xu rfl T.b_len vc (zc (za 3 0) zk)) (nomark _))))))))))
def zfh:EF:=(eComp (lsD (eV 1)) 1 [0] (gV 0) bTrue (e1 (fldD [0,1,2,3] "behind") (e2 ixD (e1 (fldD [4] "arrows") (eV 1)) (eV 0))))
def zfi:EF:=(eComp (lsD (eV 1)) 1 [0] (gV 0) bTrue (e1 (fldD [0,1,2,3] "time") (e2 ixD (e1 (fldD [4] "arrows") (eV 1)) (eV 0))))
def zio:List D->Option D:=mOf ["net","ring","times","behinds"]
  (sSeq (sSet 2 (eN sumD (aCons zfi aNil)))
  (sSeq (sSet 3 (eN sumD (aCons zfh aNil)))
  (sRet (fun ρ=>((aCons (eV 2) (aCons (eV 3) aNil)) ρ).bind fun ds=>zcn (ds++[])))))
theorem zqn (T:Txt K mg a):FnOk P w K mg base CX0 3 a.f_mean a.d_mean ["net","ring"] (LSp K a.ct [0,0] 0 zio):=by
 have G_ratio:=zfe (P:=P) (w:=w) (base:=base) T
 refine lift (ms:=[.ow 0,.ow 0,.ow 0,.ow 0]) T.mean.fn zhj rfl rfl (by decide) (zy (by decide)) fun cdv A outer s H E hr=>?_
 exact (ze (zx rfl zhj.nd rfl (Or.inl rfl) (XE.ow (ya (k:=0) (zb6 rfl) ze7 rfl T.b_sum zh6 (zc (XO.sh (n:=0) (jy (N:=["number","net"]) (om:=[.ow 0]) (cap:=[0]) (own:=1) (uk (by rfl)) rfl rfl (by decide) (ut (n:=0) (za 1 0)) (fun _ _ _ _ _=>(xr (by decide) rfl (show List.Nodup (["number","net"]:List Str) from by decide +kernel) rfl (by first | exact Or.inl rfl | exact Or.inr rfl))) (fun _ _ _ _ _=>ji) (fun _ _ _ _ _=>(XE.ow (xw (n:=0) (yc (n:=0) zm zu (xw (n:=0) (za 1 0) T.fld_arrows rfl) (za 0 0) (fun _ _=>rfl)) T.fld_time rfl))))) zk))))
  (ze (zx rfl zhj.nd rfl (Or.inl rfl) (XE.ow (ya (k:=0) (zb6 rfl) ze7 rfl T.b_sum zh6 (zc (XO.sh (n:=0) (jy (N:=["number","net"]) (om:=[.ow 0]) (cap:=[0]) (own:=1) (uk (by rfl)) rfl rfl (by decide) (ut (n:=0) (za 1 0)) (fun _ _ _ _ _=>(xr (by decide) rfl (show List.Nodup (["number","net"]:List Str) from by decide +kernel) rfl (by first | exact Or.inl rfl | exact Or.inr rfl))) (fun _ _ _ _ _=>ji) (fun _ _ _ _ _=>(XE.ow (xw (n:=0) (yc (n:=0) zm zu (xw (n:=0) (za 1 0) T.fld_arrows rfl) (za 0 0) (fun _ _=>rfl)) T.fld_behind rfl))))) zk))))
  (zj (yj (zw (dds:=[]) (ns:=[0,0]) (nd:=[]) G_ratio (hr.mono (by decide)) rfl T.ratio.mgx T.ratio.fn.kp T.ratio.bd .nil (fun _ _=>.nil) (zc (za 2 0) (zc (za 3 0) zk)))))))
def zb8:List D->Option D:=mOf ["arrow","pace","times","earliest"]
  (sSeq (sSet 3 (fun ρ=>((aCons (fun ρ=>((aCons (e2 ixD (eV 2) (e1 (fldD [0,1,2,3] "start") (eV 0))) (aCons (fun ρ=>((aCons (e1 (fldD [0,1,2,3] "time") (eV 0)) (aCons (eC (.int 1)) aNil)) ρ).bind fun ds=>some (.tup ds)) aNil)) ρ).bind fun ds=>zgt (ds++[])) (aCons (fun ρ=>((aCons (eV 1) (aCons (e1 (fldD [0,1,2,3] "behind") (eV 0)) aNil)) ρ).bind fun ds=>zb7 (ds++[])) aNil)) ρ).bind fun ds=>zff (ds++[])))
  (sRet (eB (bNot (tb (fun ρ=>((aCons (e2 ixD (eV 2) (e1 (fldD [0,1,2,3] "goal") (eV 0))) (aCons (eV 3) aNil)) ρ).bind fun ds=>zfg (ds++[])))))))
theorem zjr (T:Txt K mg a):FnOk P w K mg base CX0 5 a.f_is_kept a.d_is_kept ["arrow","pace","times"] (LSp K a.ct [0,0,0] 0 zb8):=by
 have G_minus:=zno (P:=P) (w:=w) (base:=base) T
 have G_plus:=zls (P:=P) (w:=w) (base:=base) T
 have G_scaled:=zgs (P:=P) (w:=w) (base:=base) T
 have G_under:=znp (P:=P) (w:=w) (base:=base) T
 refine lift (ms:=[.ow 0,.ow 0,.ow 0,.ow 0]) T.is_kept.fn zep rfl rfl (by decide) (zy (by decide)) fun cdv A outer s H E hr=>?_
 exact (ze (zx rfl zep.nd rfl (Or.inl rfl) (zw (dds:=[]) (ns:=[0,0]) (nd:=[]) G_minus (hr.mono (by decide)) rfl T.minus.mgx T.minus.fn.kp T.minus.bd .nil (fun _ _=>.nil) (zc (XO.sh (n:=0) (zw (dds:=[]) (ns:=[0,0]) (nd:=[]) G_plus (hr.mono (by decide)) rfl T.plus.mgx T.plus.fn.kp T.plus.bd .nil (fun _ _=>.nil) (zc (yc (n:=0) zm zu (za 2 0) (xw (n:=0) (za 0 0) T.fld_start rfl) (fun _ _=>rfl)) (zc (XO.sh (n:=0) (ur (zl (XE.ow (xw (n:=0) (za 0 0) T.fld_time rfl)) (zl (XE.ow (zh (n:=0))) yb)))) zk)))) (zc (XO.sh (n:=0) (zw (dds:=[]) (ns:=[0,0]) (nd:=[]) G_scaled (hr.mono (by decide)) rfl T.scaled.mgx T.scaled.fn.kp T.scaled.bd .nil (fun _ _=>.nil) (zc (za 1 0) (zc (xw (n:=0) (za 0 0) T.fld_behind rfl) zk)))) zk))))
  (zj (yj (XE.ow (zsb (k:=0) (XO.sh (n:=0) (zw (dds:=[]) (ns:=[0,0]) (nd:=[]) G_under (hr.mono (by decide)) rfl T.under.mgx T.under.fn.kp T.under.bd .nil (fun _ _=>.nil) (zc (yc (n:=0) zm zu (za 2 0) (xw (n:=0) (za 0 0) T.fld_goal rfl) (fun _ _=>rfl)) (zc (za 3 0) zk)))))))))
def qz:List D->Option D:=mOf ["net","ring","pace"]
  (sRet (eB (bAnd (tb (fun ρ=>((aCons (eV 0) (aCons (eV 1) aNil)) ρ).bind fun ds=>j5 (ds++[]))) (tb (e2 (eqD false) (fun ρ=>((aCons (eV 0) (aCons (eV 1) aNil)) ρ).bind fun ds=>zio (ds++[])) (eV 2))))))
theorem zhp (T:Txt K mg a):FnOk P w K mg base CX0 4 a.f_has_mean a.d_has_mean ["net","ring","pace"] (LSp K a.ct [0,0,0] 0 qz):=by
 have G_is_ring:=zjq (P:=P) (w:=w) (base:=base) T
 have G_mean:=zqn (P:=P) (w:=w) (base:=base) T
 refine lift (ms:=[.ow 0,.ow 0,.ow 0]) T.has_mean.fn zhk rfl rfl (by decide) (zy (by decide)) fun cdv A outer s H E hr=>?_
 exact (zj (yj (XE.ow (zaq (XO.sh (n:=0) (zw (dds:=[]) (ns:=[0,0]) (nd:=[]) G_is_ring (hr.mono (by decide)) rfl T.is_ring.mgx T.is_ring.fn.kp T.is_ring.bd .nil (fun _ _=>.nil) (zc (za 0 0) (zc (za 1 0) zk)))) (zap (k:=0) (jm (k:=0) (ue hr.u64) xz (XO.sh (n:=0) (zw (dds:=[]) (ns:=[0,0]) (nd:=[]) G_mean (hr.mono (by decide)) rfl T.mean.mgx T.mean.fn.kp T.mean.bd .nil (fun _ _=>.nil) (zc (za 0 0) (zc (za 1 0) zk)))) (za 2 0) (nomark _)))))))
def zcw:EF:=(eComp (lsD (e1 (fldD [4] "arrows") (eV 0))) 1 [3,5,6] (gV 0) (tb (e2 (inD false) (e1 (fldD [0,1,2,3] "goal") (eV 0)) (eV 3))) (fun ρ=>((aCons (eV 0) (aCons (eV 1) (aCons (eV 2) aNil))) ρ).bind fun ds=>zb8 (ds++[])))
def za4:EF:=(eComp (fun ρ=>((aCons (eV 5) aNil) ρ).bind fun ds=>match ds with | [.lst xs]=>some (enumD 0 xs) | _=>none) 2 [] (gT (gsCons (gV 0) (gsCons (gV 1) gsNil))) (tb (e2 (isD true) (eV 1) (eC .non))) (eV 0))
def uc:List D->Option D:=mOf ["net","going","paper","pace","ring","times","leading","timed"]
  (sSeq (sSet 3 (e2 ixD (eV 2) (eC (.int 0))))
  (sSeq (sSet 4 (e2 ixD (eV 2) (eC (.int 1))))
  (sSeq (sSet 5 (e2 ixD (eV 2) (eC (.int 2))))
  (sSeq (sSet 6 (fun ρ=>((aCons (eV 0) (aCons (eV 1) aNil)) ρ).bind fun ds=>jw (ds++[])))
  (sSeq (sIf (bOr (bNot (tb (fun ρ=>((aCons (eV 0) (aCons (eV 4) (aCons (eV 3) aNil))) ρ).bind fun ds=>qz (ds++[])))) (tb (e2 (inD true) (e1 (fldD [0,1,2,3] "goal") (e2 ixD (e1 (fldD [4] "arrows") (eV 0)) (e2 ixD (eV 4) (eC (.int 0))))) (eV 6)))) (sRet (eC (.bl false))) sSkip)
  (sSeq (sSet 7 za4)
  (sSeq (sIf (bOr (tb (e2 (eqD true) (eN lenD (aCons (eV 5) aNil)) (eN lenD (aCons (e1 (fldD [4] "names") (eV 0)) aNil)))) (tb (e2 (eqD true) (eV 7) (eV 6)))) (sRet (eC (.bl false))) sSkip)
  (sRet (eN allD (aCons zcw aNil))))))))))
theorem zhq (T:Txt K mg a):FnOk P w K mg base CX0 6 a.f_holds_at a.d_holds_at ["net","going","paper"] (LSp K a.ct [0,0,0] 0 uc):=by
 have G_leads_to:=zho (P:=P) (w:=w) (base:=base) T
 have G_has_mean:=zhp (P:=P) (w:=w) (base:=base) T
 have G_is_kept:=zjr (P:=P) (w:=w) (base:=base) T
 refine lift (ms:=[.ow 0,.ow 0,.ow 0,.ow 0,.ow 0,.ow 0,.ow 0,.ow 0]) T.holds_at.fn u0 rfl rfl (by decide) (zy (by decide)) fun cdv A outer s H E hr=>?_
 exact (ze (zx rfl u0.nd rfl (Or.inr rfl) (XE.ow (yc (n:=0) zm zu (za 2 0) (zh (n:=0)) (fun _ _=>rfl))))
  (ze (zx rfl u0.nd rfl (Or.inl rfl) (XE.ow (yc (n:=0) zm zu (za 2 0) (zh (n:=0)) (fun _ _=>rfl))))
  (ze (zx rfl u0.nd rfl (Or.inr rfl) (XE.ow (yc (n:=0) zm zu (za 2 0) (zh (n:=0)) (fun _ _=>rfl))))
  (ze (zx rfl u0.nd rfl (Or.inr rfl) (XE.ow (XO.sh (n:=0) (zw (dds:=[]) (ns:=[0,0]) (nd:=[]) G_leads_to (hr.mono (by decide)) rfl T.leads_to.mgx T.leads_to.fn.kp T.leads_to.bd .nil (fun _ _=>.nil) (zc (za 0 0) (zc (za 1 0) zk))))))
  (ze (vn (XW.t (zbi (zao (jo (XO.sh (n:=0) (zw (dds:=[]) (ns:=[0,0,0]) (nd:=[]) G_has_mean (hr.mono (by decide)) rfl T.has_mean.mgx T.has_mean.fn.kp T.has_mean.bd .nil (fun _ _=>.nil) (zc (za 0 0) (zc (za 4 0) (zc (za 3 0) zk))))))) (zau (yf (k:=0) qd zbk (xw (n:=0) (yc (n:=0) zm zu (xw (n:=0) (za 0 0) T.fld_arrows rfl) (yc (n:=0) zm zu (za 4 0) (zh (n:=0)) (fun _ _=>rfl)) (fun _ _=>rfl)) T.fld_goal rfl) (za 6 0) (by with_unfolding_all rfl))))) (zj (yj (XE.ow (zbh (n:=0))))) yo)
  (ze (v8 (k:=0) (N:=["place","time"]) (om:=[.ow 0,.ow 0]) (cap:=[]) (own:=2) rfl u0.nd rfl (Or.inl rfl) (uk (by rfl)) rfl rfl (by decide) (zie (n:=0) T.b_enumerate (zc (za 5 0) zk)) (fun _ _ _ _ _=>(zk0 (n:=1) rfl (zb5 (xr (by decide) rfl (show List.Nodup (["place","time"]:List Str) from by decide +kernel) rfl (by first | exact Or.inl rfl | exact Or.inr rfl)) (zb5 (xr (by decide) rfl (show List.Nodup (["place","time"]:List Str) from by decide +kernel) rfl (by first | exact Or.inl rfl | exact Or.inr rfl)) zib)))) (fun _ _ _ _ _=>(zaw (yf (k:=0) ze5 zdh (za 1 0) (zed (n:=0)) (nomark _)))) (fun _ _ _ _ _=>(XE.ow (za 0 0))))
  (ze (vn (XW.t (zbi (yf (k:=0) (zan hr.u64) xz (ya (k:=0) yh xu rfl T.b_len vc (zc (za 5 0) zk)) (ya (k:=0) yh xu rfl T.b_len vc (zc (xw (n:=0) (za 0 0) T.fld_names rfl) zk)) (nomark _)) (zau (yf (k:=0) (zan hr.u64) xz (za 7 0) (za 6 0) (nomark _))))) (zj (yj (XE.ow (zbh (n:=0))))) yo)
  (zj (yj (XE.ow (ya (k:=0) (zgi rfl) zld rfl T.b_all zom (zc (XO.sh (n:=0) (jy (N:=["arrow","pace","times","leading"]) (om:=[.ow 0]) (cap:=[3,5,6]) (own:=1) (uk (by rfl)) rfl rfl (by decide) (ut (n:=0) (xw (n:=0) (za 0 0) T.fld_arrows rfl)) (fun _ _ _ _ _=>(xr (by decide) rfl (show List.Nodup (["arrow","pace","times","leading"]:List Str) from by decide +kernel) rfl (by first | exact Or.inl rfl | exact Or.inr rfl))) (fun _ _ _ _ _=>(zaw (yf (k:=0) qp zbk (xw (n:=0) (za 0 0) T.fld_goal rfl) (za 3 0) (by with_unfolding_all rfl)))) (fun _ _ _ _ _=>(zw (dds:=[]) (ns:=[0,0,0]) (nd:=[]) G_is_kept (hr.mono (by decide)) rfl T.is_kept.mgx T.is_kept.fn.kp T.is_kept.bd .nil (fun _ _=>.nil) (zc (za 0 0) (zc (za 1 0) (zc (za 2 0) zk))))))) zk))))))))))))
def vm:List D->Option D:=mOf ["_law_script","_law_k"]
  (sSeq (sIf (tb (e2 ltD (eV 1) (eN lenD (aCons (eV 0) aNil)))) (sRet (e2 ixD (eV 0) (eV 1))) sSkip)
  (sRet (eC (.int 0))))
theorem zd8 (T:Txt K mg a):FnOk P w K mg base CX0 1 a.f_law_cell_at a.d_law_cell_at ["_law_script","_law_k"] (LSp K a.ct [0,0] 0 vm):=by
 refine lift (ms:=[.ow 0,.ow 0]) T.law_cell_at.fn zd2 rfl rfl (by decide) (zy (by decide)) fun cdv A outer s H E hr=>?_
 exact (ze (vn (yf (k:=0) zc8 zav (za 1 0) (ya (k:=0) yh xu rfl T.b_len vc (zc (za 0 0) zk)) (nomark _)) (zj (yj (XE.ow (yc (n:=0) zm zu (za 0 0) (za 1 0) (fun _ _=>rfl))))) yo)
  (zj (yj (XE.ow (zh (n:=0))))))
def uo:List D->Option D:=mOf ["_law_cell"]
  (sRet (eB (bAnd (tb (e2 geD (eV 0) (e2 shlD (eC (.int 1)) (eC (.int 90))))) (tb (e2 (eqD false) (e2 modD (eV 0) (eC (.int 2))) (eC (.int 1)))))))
theorem zah (T:Txt K mg a):FnOk P w K mg base CX0 1 a.f_law_is_row a.d_law_is_row ["_law_cell"] (LSp K a.ct [0] 0 uo):=by
 refine lift (ms:=[.ow 0]) T.law_is_row.fn zfb rfl rfl (by decide) (zy (by decide)) fun cdv A outer s H E hr=>?_
 exact (zj (yj (XE.ow (zaq (jm (k:=0) zo9 zky (za 0 0) (ye (k:=0) zrv zp1 (zh (n:=0)) (zh (n:=0))) (nomark _)) (zap (k:=0) (jm (k:=0) (ue hr.u64) xz (ye (k:=0) xj xl (za 0 0) (zh (n:=0))) (zh (n:=0)) (nomark _)))))))
def yw:List D->Option D:=mOf ["_law_cell","_law_k","_law_number"]
  (sSeq (sIf (bAnd (tb (fun ρ=>((aCons (eV 0) aNil) ρ).bind fun ds=>uo (ds++[]))) (tb (e2 gtD (e2 shrD (eV 0) (e2 addD (eC (.int 1)) (e2 mulI (eC (.int 31)) (eV 1)))) (eC (.int 0))))) (sRet (e2 modD (e2 shrD (eV 0) (e2 addD (eC (.int 1)) (e2 mulI (eC (.int 31)) (eV 1)))) (eC (.int 2147483648)))) sSkip)
  (sSeq (sSet 2 (e2 modD (e2 mulI (e2 addD (e2 addD (eV 0) (e2 mulI (eC (.int 7919)) (eV 1))) (eC (.int 1))) (eC (.int 48271))) (eC (.int 2147483647))))
  (sSeq (sSet 2 (e2 modD (e2 mulI (eV 2) (e2 addD (e2 fdivD (eV 2) (eC (.int 1009))) (eC (.int 69621)))) (eC (.int 2147483647))))
  (sRet (e2 modD (e2 mulI (eV 2) (e2 addD (e2 addD (e2 fdivD (eV 2) (eC (.int 2003))) (eC (.int 39373))) (eV 1))) (eC (.int 2147483629)))))))
theorem uq (T:Txt K mg a):FnOk P w K mg base CX0 2 a.f_law_mixed a.d_law_mixed ["_law_cell","_law_k"] (LSp K a.ct [0,0] 0 yw):=by
 have G_law_is_row:=zah (P:=P) (w:=w) (base:=base) T
 refine lift (ms:=[.ow 0,.ow 0,.ow 0]) T.law_mixed.fn za1 rfl rfl (by decide) (zy (by decide)) fun cdv A outer s H E hr=>?_
 exact (ze (vn (XW.t (zee (jo (XO.sh (n:=0) (zw (dds:=[]) (ns:=[0]) (nd:=[]) G_law_is_row (hr.mono (by decide)) rfl T.law_is_row.mgx T.law_is_row.fn.kp T.law_is_row.bd .nil (fun _ _=>.nil) (zc (za 0 0) zk)))) (zcg (yf (k:=0) zi9 zeh (ye (k:=0) zoh zkx (za 0 0) (XO.sh (n:=0) (vz yr (yt (n:=0) (m:=0) (by decide) (by decide)) (zh (n:=0)) (ye (k:=0) xk yq (zh (n:=0)) (za 1 0))))) (zh (n:=0)) (nomark _))))) (zj (yj (XE.ow (ye (k:=0) xj xl (ye (k:=0) zoh zkx (za 0 0) (XO.sh (n:=0) (vz yr (yt (n:=0) (m:=0) (by decide) (by decide)) (zh (n:=0)) (ye (k:=0) xk yq (zh (n:=0)) (za 1 0))))) (zh (n:=0)))))) yo)
  (ze (zx rfl za1.nd rfl (Or.inl rfl) (XE.ow (ye (k:=0) xj xl (ye (k:=0) xk yq (XO.sh (n:=0) (vz yr (yt (n:=0) (m:=0) (by decide) (by decide)) (XO.sh (n:=0) (vz yr (yt (n:=0) (m:=0) (by decide) (by decide)) (za 0 0) (ye (k:=0) xk yq (zh (n:=0)) (za 1 0)))) (zh (n:=0)))) (zh (n:=0))) (zh (n:=0)))))
  (ze (zx rfl za1.nd rfl (Or.inl rfl) (XE.ow (ye (k:=0) xj xl (ye (k:=0) xk yq (za 2 0) (XO.sh (n:=0) (vz yr (yt (n:=0) (m:=0) (by decide) (by decide)) (ye (k:=0) ve vf (za 2 0) (zh (n:=0))) (zh (n:=0))))) (zh (n:=0)))))
  (zj (yj (XE.ow (ye (k:=0) xj xl (ye (k:=0) xk yq (za 2 0) (XO.sh (n:=0) (vz yr (yt (n:=0) (m:=0) (by decide) (by decide)) (XO.sh (n:=0) (vz yr (yt (n:=0) (m:=0) (by decide) (by decide)) (ye (k:=0) ve vf (za 2 0) (zh (n:=0))) (zh (n:=0)))) (za 1 0)))) (zh (n:=0)))))))))
def jh:SF:=(sAppPop 3 4 (e2 modD (fun ρ=>((aCons (eV 0) (aCons (eV 5) aNil)) ρ).bind fun ds=>yw (ds++[])) (eN lenD (aCons (eV 4) aNil))))
def u7:List D->Option D:=mOf ["_law_turn","_law_many","_law_going","_law_order","_law_left","_law_k"]
  (sSeq (sIf (bNot (tb (fun ρ=>((aCons (eV 0) aNil) ρ).bind fun ds=>uo (ds++[])))) (sRet (e2 modD (e2 addD (eV 2) (eV 0)) (eV 1))) sSkip)
  (sSeq (sSet 3 (fun ρ=>(aNil ρ).bind fun ds=>some (.lst ds)))
  (sSeq (sSet 4 (eN lrngD (aCons (eV 1) aNil)))
  (sSeq (sFor (fun ρ=>((aCons (eV 1) aNil) ρ).bind rng1) (gV 5) jh)
  (sRet (e2 idxD (eV 3) (eV 2)))))))
theorem zhr (T:Txt K mg a):FnOk P w K mg base CX0 3 a.f_law_rank a.d_law_rank ["_law_turn","_law_many","_law_going"] (LSp K a.ct [0,0,0] 0 u7):=by
 have G_law_is_row:=zah (P:=P) (w:=w) (base:=base) T
 have G_law_mixed:=uq (P:=P) (w:=w) (base:=base) T
 refine lift (ms:=[.ow 0,.ow 0,.ow 0,.ow 1,.ow 1,.ow 0]) T.law_rank.fn zac rfl rfl (by decide) (zy (by decide)) fun cdv A outer s H E hr=>?_
 exact (ze (vn (zao (jo (XO.sh (n:=0) (zw (dds:=[]) (ns:=[0]) (nd:=[]) G_law_is_row (hr.mono (by decide)) rfl T.law_is_row.mgx T.law_is_row.fn.kp T.law_is_row.bd .nil (fun _ _=>.nil) (zc (za 0 0) zk))))) (zj (yj (XE.ow (ye (k:=0) xj xl (XO.sh (n:=0) (vz yr (yt (n:=0) (m:=0) (by decide) (by decide)) (za 2 0) (za 0 0))) (za 1 0))))) yo)
  (ze (zx rfl zac.nd rfl (Or.inl rfl) (vd (k:=0) yb))
  (ze (zx rfl zac.nd rfl (Or.inl rfl) (zqj rfl rfl T.b_list rfl T.b_range (zc (za 1 0) zk)))
  (ze (jx (v5 (n:=0) T.b_range (zc (za 1 0) zk)) (y2 rfl zac.nd rfl (Or.inl rfl)) (zj (zlk 3 4 rfl rfl (by decide) (ye (k:=0) xj xl (XO.sh (n:=0) (zw (dds:=[]) (ns:=[0,0]) (nd:=[]) G_law_mixed (hr.mono (by decide)) rfl T.law_mixed.mgx T.law_mixed.fn.kp T.law_mixed.bd .nil (fun _ _=>.nil) (zc (za 0 0) (zc (za 5 0) zk)))) (ya (k:=0) yh xu rfl T.b_len vc (zc (za 4 1) zk))))) PassesOwn.never rfl)
  (zj (yj (XE.ow (znd (k:=0) (za 3 1) (za 2 0)))))))))
def jr:SF:=(sSeq (sSet 7 (e2 modD (e2 fdivD (eV 3) (eC (.int 1000))) (eC (.int 10))))
  (sSeq (sIf (tb (e2 (eqD false) (e2 modD (eV 0) (eC (.int 3))) (eC (.int 2)))) (sSet 7 (e2 modD (e2 fdivD (eV 0) (eC (.int 3))) (e2 addD (e2 powD (eC (.int 10)) (eC (.int 9))) (eC (.int 1))))) sSkip)
  (sSeq (sIf (tb (fun ρ=>((aCons (eV 0) aNil) ρ).bind fun ds=>uo (ds++[]))) (sSet 7 (e2 modD (fun ρ=>((aCons (eV 0) (aCons (eC (.int 30)) aNil)) ρ).bind fun ds=>yw (ds++[])) (e2 addD (e2 powD (eC (.int 10)) (eC (.int 9))) (eC (.int 1))))) sSkip)
  (sRet (fun ρ=>((aCons (eV 4) (aCons (eV 5) (aCons (eV 7) (aCons (eV 6) aNil)))) ρ).bind fun ds=>some (.tup ds))))))
def vb:List D->Option D:=mOf ["_law_cell","_law_many","_law_turn","_law_number","_law_start","_law_goal","_law_behind","_law_time"]
  (sSeq (sSet 3 (fun ρ=>((aCons (eV 0) (aCons (eC (.int 1)) aNil)) ρ).bind fun ds=>yw (ds++[])))
  (sSeq (sSet 4 (e2 modD (eV 3) (eV 1)))
  (sSeq (sSet 5 (e2 modD (e2 fdivD (eV 3) (eC (.int 8))) (eV 1)))
  (sSeq (sSet 6 (e2 modD (e2 fdivD (eV 3) (eC (.int 64))) (eC (.int 5))))
  (sSeq (sIf (bAnd (tb (e2 (eqD false) (eV 6) (eC (.int 0)))) (tb (e2 geD (fun ρ=>((aCons (eV 2) (aCons (eV 1) (aCons (eV 4) aNil))) ρ).bind fun ds=>u7 (ds++[])) (fun ρ=>((aCons (eV 2) (aCons (eV 1) (aCons (eV 5) aNil))) ρ).bind fun ds=>u7 (ds++[]))))) (sSet 6 (e2 addD (eC (.int 1)) (e2 modD (e2 fdivD (eV 3) (eC (.int 320))) (eC (.int 2))))) sSkip)
  jr)))))
theorem zgu (T:Txt K mg a):FnOk P w K mg base CX0 4 a.f_law_arrow a.d_law_arrow ["_law_cell","_law_many","_law_turn"] (LSp K a.ct [0,0,0] 0 vb):=by
 have G_law_mixed:=uq (P:=P) (w:=w) (base:=base) T
 have G_law_rank:=zhr (P:=P) (w:=w) (base:=base) T
 have G_law_is_row:=zah (P:=P) (w:=w) (base:=base) T
 refine lift (ms:=[.ow 0,.ow 0,.ow 0,.ow 0,.ow 0,.ow 0,.ow 0,.ow 0]) T.law_arrow.fn ww rfl rfl (by decide) (zy (by decide)) fun cdv A outer s H E hr=>?_
 exact (ze (zx rfl ww.nd rfl (Or.inl rfl) (zw (dds:=[]) (ns:=[0,0]) (nd:=[]) G_law_mixed (hr.mono (by decide)) rfl T.law_mixed.mgx T.law_mixed.fn.kp T.law_mixed.bd .nil (fun _ _=>.nil) (zc (za 0 0) (zc (zh (n:=0)) zk))))
  (ze (zx rfl ww.nd rfl (Or.inl rfl) (XE.ow (ye (k:=0) xj xl (za 3 0) (za 1 0))))
  (ze (zx rfl ww.nd rfl (Or.inl rfl) (XE.ow (ye (k:=0) xj xl (ye (k:=0) ve vf (za 3 0) (zh (n:=0))) (za 1 0))))
  (ze (zx rfl ww.nd rfl (Or.inl rfl) (XE.ow (ye (k:=0) xj xl (ye (k:=0) ve vf (za 3 0) (zh (n:=0))) (zh (n:=0)))))
  (ze (vn (XW.t (zee (yf (k:=0) (ue hr.u64) xz (za 6 0) (zh (n:=0)) (nomark _)) (zcg (yf (k:=0) zo9 zky (XO.sh (n:=0) (zw (dds:=[]) (ns:=[0,0,0]) (nd:=[]) G_law_rank (hr.mono (by decide)) rfl T.law_rank.mgx T.law_rank.fn.kp T.law_rank.bd .nil (fun _ _=>.nil) (zc (za 2 0) (zc (za 1 0) (zc (za 4 0) zk))))) (XO.sh (n:=0) (zw (dds:=[]) (ns:=[0,0,0]) (nd:=[]) G_law_rank (hr.mono (by decide)) rfl T.law_rank.mgx T.law_rank.fn.kp T.law_rank.bd .nil (fun _ _=>.nil) (zc (za 2 0) (zc (za 1 0) (zc (za 5 0) zk))))) (nomark _))))) (zj (zx rfl ww.nd rfl (Or.inl rfl) (XE.ow (XO.sh (n:=0) (vz yr (yt (n:=0) (m:=0) (by decide) (by decide)) (zh (n:=0)) (ye (k:=0) xj xl (ye (k:=0) ve vf (za 3 0) (zh (n:=0))) (zh (n:=0)))))))) yo)
  (ze (zx rfl ww.nd rfl (Or.inl rfl) (XE.ow (ye (k:=0) xj xl (ye (k:=0) ve vf (za 3 0) (zh (n:=0))) (zh (n:=0)))))
  (ze (vn (yf (k:=0) (ue hr.u64) xz (ye (k:=0) xj xl (za 0 0) (zh (n:=0))) (zh (n:=0)) (nomark _)) (zj (zx rfl ww.nd rfl (Or.inl rfl) (XE.ow (ye (k:=0) xj xl (ye (k:=0) ve vf (za 0 0) (zh (n:=0))) (XO.sh (n:=0) (vz yr (yt (n:=0) (m:=0) (by decide) (by decide)) (ye (k:=0) zog zkw (zh (n:=0)) (zh (n:=0))) (zh (n:=0)))))))) yo)
  (ze (vn (jo (XO.sh (n:=0) (zw (dds:=[]) (ns:=[0]) (nd:=[]) G_law_is_row (hr.mono (by decide)) rfl T.law_is_row.mgx T.law_is_row.fn.kp T.law_is_row.bd .nil (fun _ _=>.nil) (zc (za 0 0) zk)))) (zj (zx rfl ww.nd rfl (Or.inl rfl) (XE.ow (ye (k:=0) xj xl (XO.sh (n:=0) (zw (dds:=[]) (ns:=[0,0]) (nd:=[]) G_law_mixed (hr.mono (by decide)) rfl T.law_mixed.mgx T.law_mixed.fn.kp T.law_mixed.bd .nil (fun _ _=>.nil) (zc (za 0 0) (zc (zh (n:=0)) zk)))) (XO.sh (n:=0) (vz yr (yt (n:=0) (m:=0) (by decide) (by decide)) (ye (k:=0) zog zkw (zh (n:=0)) (zh (n:=0))) (zh (n:=0)))))))) yo)
  (zj (yj (XE.ow (XO.sh (n:=0) (ur (zl (XE.ow (za 4 0)) (zl (XE.ow (za 5 0)) (zl (XE.ow (za 7 0)) (zl (XE.ow (za 6 0)) yb)))))))))))))))))
def zbf:List D->Option D:=mOf ["_law_arrow_here","_law_kind","_law_start","_law_goal","_law_time","_law_behind"]
  (sSeq (sAsg (gT (gsCons (gV 2) (gsCons (gV 3) (gsCons (gV 4) (gsCons (gV 5) gsNil))))) (eV 0))
  (sSeq (sIf (bAnd (tb (e2 (eqD false) (eV 5) (eC (.int 0)))) (tb (e2 (eqD false) (e2 modD (eV 1) (eC (.int 2))) (eC (.int 0))))) (sRet (fun ρ=>((aCons (eV 2) (aCons (eV 3) (aCons (eV 4) aNil))) ρ).bind fun ds=>zad 1 (ds++[]))) sSkip)
  (sSeq (sIf (bAnd (tb (e2 gtD (eV 5) (eC (.int 0)))) (tb (e2 (eqD false) (e2 modD (eV 1) (eC (.int 2))) (eC (.int 0))))) (sRet (fun ρ=>((aCons (eV 2) (aCons (eV 3) (aCons (eV 4) (aCons (eV 5) aNil)))) ρ).bind fun ds=>zaf 3 (ds++[]))) sSkip)
  (sRet (fun ρ=>((aCons (eV 2) (aCons (eV 3) (aCons (eV 4) (aCons (eV 5) aNil)))) ρ).bind fun ds=>zae 2 (ds++[]))))))
theorem zhs (T:Txt K mg a):FnOk P w K mg base CX0 4 a.f_law_made a.d_law_made ["_law_arrow_here","_law_kind"] (LSp K a.ct [0,0] 0 zbf):=by
 have G_Ride___init:=zd4 (P:=P) (w:=w) (base:=base) T
 have G_Back___init:=zd6 (P:=P) (w:=w) (base:=base) T
 have B_Back___init_1:=T.Back___init_d1.choose_spec
 have G_Wait___init:=zd5 (P:=P) (w:=w) (base:=base) T
 have B_Wait___init_1:=T.Wait___init_d1.choose_spec
 refine lift (ms:=[.ow 0,.ow 0,.ow 0,.ow 0,.ow 0,.ow 0]) T.law_made.fn jz rfl rfl (by decide) (zy (by decide)) fun cdv A outer s H E hr=>?_
 exact (ze (zk2 (za 0 0) (zeg (n:=0) rfl (xy (y2 rfl jz.nd rfl (Or.inl rfl)) (xy (y2 rfl jz.nd rfl (Or.inl rfl)) (xy (y2 rfl jz.nd rfl (Or.inl rfl)) (xy (y2 rfl jz.nd rfl (Or.inl rfl)) zch))))))
  (ze (vn (XW.t (zee (yf (k:=0) (ue hr.u64) xz (za 5 0) (zh (n:=0)) (nomark _)) (zcg (yf (k:=0) (ue hr.u64) xz (ye (k:=0) xj xl (za 1 0) (zh (n:=0))) (zh (n:=0)) (nomark _))))) (zj (yj (XE.ow (XO.sh (n:=0) (ze8 (c0:=1) (dds:=[]) (ns:=[0,0,0]) (nd:=[]) ⟨T.Ride.mks,T.Ride___init.me.at_,T.Ride___init.me.fn,T.Ride.kp⟩ (by decide) G_Ride___init (hr.mono (by decide)) rfl T.Ride.mgx T.Ride___init.bd .nil (fun _ _=>.nil) (zc (za 2 0) (zc (za 3 0) (zc (za 4 0) zk)))))))) yo)
  (ze (vn (XW.t (zee (yf (k:=0) zi9 zeh (za 5 0) (zh (n:=0)) (nomark _)) (zcg (yf (k:=0) (ue hr.u64) xz (ye (k:=0) xj xl (za 1 0) (zh (n:=0))) (zh (n:=0)) (nomark _))))) (zj (yj (XE.ow (XO.sh (n:=0) (ze8 (c0:=3) (dds:=[]) (ns:=[0,0,0,0]) (nd:=[]) ⟨T.Back.mks,T.Back___init.me.at_,T.Back___init.me.fn,T.Back.kp⟩ (by decide) G_Back___init (hr.mono (by decide)) rfl T.Back.mgx T.Back___init.bd .nil (fun _ _=>.nil) (zc (za 2 0) (zc (za 3 0) (zc (za 4 0) (zc (za 5 0) zk))))))))) yo)
  (zj (yj (XE.ow (XO.sh (n:=0) (ze8 (c0:=2) (dds:=[]) (ns:=[0,0,0,0]) (nd:=[]) ⟨T.Wait.mks,T.Wait___init.me.at_,T.Wait___init.me.fn,T.Wait.kp⟩ (by decide) G_Wait___init (hr.mono (by decide)) rfl T.Wait.mgx T.Wait___init.bd .nil (fun _ _=>.nil) (zc (za 2 0) (zc (za 3 0) (zc (za 4 0) (zc (za 5 0) zk))))))))))))
def qm:SF:=(sPar 2 3 (aCons (eV 3) (aCons (e2 modD (eV 2) (eV 3)) aNil)))
def wx:List D->Option D:=mOf ["_law_top","_law_bottom","_law_one","_law_other"]
  (sSeq (sSet 2 (eV 0))
  (sSeq (sSet 3 (eV 1))
  (sSeq (sWhile (tb (e2 (eqD true) (eV 3) (eC (.int 0)))) qm)
  (sRet (fun ρ=>((aCons (e2 fdivD (eV 0) (eN absD (aCons (eV 2) aNil))) (aCons (e2 fdivD (eV 1) (eN absD (aCons (eV 2) aNil))) aNil)) ρ).bind fun ds=>some (.tup ds))))))
theorem zai (T:Txt K mg a):FnOk P w K mg base CX0 1 a.f_law_lowest a.d_law_lowest ["_law_top","_law_bottom"] (LSp K a.ct [0,0] 0 wx):=by
 refine lift (ms:=[.ow 0,.ow 0,.ow 0,.ow 0]) T.law_lowest.fn jq rfl rfl (by decide) (zy (by decide)) fun cdv A outer s H E hr=>?_
 exact (ze (zx rfl jq.nd rfl (Or.inl rfl) (XE.ow (za 0 0)))
  (ze (zx rfl jq.nd rfl (Or.inl rfl) (XE.ow (za 1 0)))
  (ze (zb4 (yf (k:=0) (zan hr.u64) xz (za 3 0) (zh (n:=0)) (nomark _)) (zj (zsj rfl rfl rfl jq.nd rfl rfl (by decide) rfl rfl (zc (za 3 0) (zc (ye (k:=0) xj xl (za 2 0) (za 3 0)) zk)) rfl)) PassesOwn.never)
  (zj (yj (XE.ow (XO.sh (n:=0) (ur (zl (XE.ow (ye (k:=0) ve vf (za 0 0) (ya (k:=0) zex zhe rfl T.b_abs zkp (zc (za 2 0) zk)))) (zl (XE.ow (ye (k:=0) ve vf (za 1 0) (ya (k:=0) zex zhe rfl T.b_abs zkp (zc (za 2 0) zk)))) yb))))))))))
def zb9:EF:=(eComp (fun ρ=>((aCons (eN lenD (aCons (eV 0) aNil)) aNil) ρ).bind rng1) 1 [0,4] (gV 0) (tb (e2 (eqD false) (e2 ixD (e2 ixD (eV 1) (eV 0)) (eC (.int 0))) (eV 2))) (eV 0))
def jt:SF:=(sSeq (sSet 4 (e2 ixD (e2 ixD (eV 0) (e2 ixD (eV 2) (e1 negD (eC (.int 1))))) (eC (.int 1))))
  (sSeq (sPutD 3 (eV 4) (eN lenD (aCons (eV 2) aNil)))
  (sSeq (sSet 5 zb9)
  (sSeq (sIf (tb (e2 (eqD false) (eV 5) (fun ρ=>(aNil ρ).bind fun ds=>some (.lst ds)))) (sRet (fun ρ=>(aNil ρ).bind fun ds=>some (.lst ds))) sSkip)
  (sSeq (sSet 1 (e2 modD (e2 mulI (eV 1) (e2 addD (e2 fdivD (eV 1) (eC (.int 1009))) (eC (.int 69621)))) (eC (.int 2147483647))))
  (sApp 2 (e2 ixD (eV 5) (e2 modD (eV 1) (eN lenD (aCons (eV 5) aNil))))))))))
def uj:List D->Option D:=mOf ["_law_arrows","_law_number","_law_way","_law_seen","_law_going","_law_onward"]
  (sSeq (sIf (tb (e2 (eqD false) (eV 0) (fun ρ=>(aNil ρ).bind fun ds=>some (.lst ds)))) (sRet (fun ρ=>(aNil ρ).bind fun ds=>some (.lst ds))) sSkip)
  (sSeq (sSet 2 (fun ρ=>((aCons (e2 modD (eV 1) (eN lenD (aCons (eV 0) aNil))) aNil) ρ).bind fun ds=>some (.lst ds)))
  (sSeq (sSet 3 (e2 dispD (e2 ixD (e2 ixD (eV 0) (e2 ixD (eV 2) (eC (.int 0)))) (eC (.int 0))) (eC (.int 0))))
  (sSeq (sWhile (tb (fun ρ=>((e2 ixD (e2 ixD (eV 0) (e2 ixD (eV 2) (e1 negD (eC (.int 1))))) (eC (.int 1))) ρ).bind fun x=>((eV 3) ρ).bind fun y=>(dgetD y x).bind fun r=>some (.bl (!r.isSome)))) jt)
  (sRet (fun ρ=>((eV 2) ρ).bind fun d=>((pInt (fun ρ=>((eV 3) ρ).bind fun x=>((e2 ixD (e2 ixD (eV 0) (e2 ixD (eV 2) (e1 negD (eC (.int 1))))) (eC (.int 1))) ρ).bind fun y=>(dgetD x y).join)) ρ).bind fun l=>(pNo ρ).bind fun h=>sliceD d l h))))))
theorem zcx (T:Txt K mg a):FnOk P w K mg base CX0 1 a.f_law_found a.d_law_found ["_law_arrows","_law_number"] (LSp K a.ct [0,0] 0 uj):=by
 refine lift (ms:=[.ow 0,.ow 0,.ow 1,.ow 1,.ow 0,.ow 0]) T.law_found.fn ul rfl rfl (by decide) (zy (by decide)) fun cdv A outer s H E hr=>?_
 exact (ze (vn (yf (k:=0) (ue hr.u64) xz (za 0 0) (XO.sh (n:=0) (vd (k:=0) yb)) (nomark _)) (zj (yj (XE.ow (XO.sh (n:=0) (vd (k:=0) yb))))) yo)
  (ze (zx rfl ul.nd rfl (Or.inl rfl) (vd (k:=0) (zl (XE.ow (ye (k:=0) xj xl (za 1 0) (ya (k:=0) yh xu rfl T.b_len vc (zc (za 0 0) zk)))) yb)))
  (ze (zx rfl ul.nd rfl (Or.inl rfl) (znl (yc (n:=0) zm zu (yc (n:=0) zm zu (za 0 0) (yc (n:=1) zm zu (za 2 1) (zh (n:=0)) (fun _ _=>rfl)) (fun _ _=>rfl)) (zh (n:=0)) (fun _ _=>rfl)) (zh (n:=0))))
  (ze (zb4 (zll (zkg hr) (yc (n:=0) zm zu (yc (n:=0) zm zu (za 0 0) (yc (n:=1) zm zu (za 2 1) (zbl (k:=0) (zh (n:=0))) (fun _ _=>rfl)) (fun _ _=>rfl)) (zh (n:=0)) (fun _ _=>rfl)) (za 3 1) (by with_unfolding_all rfl)) (ze (zx rfl ul.nd rfl (Or.inr rfl) (XE.ow (yc (n:=0) zm zu (yc (n:=0) zm zu (za 0 0) (yc (n:=1) zm zu (za 2 1) (zbl (k:=0) (zh (n:=0))) (fun _ _=>rfl)) (fun _ _=>rfl)) (zh (n:=0)) (fun _ _=>rfl))))
  (ze (zle 3 rfl (zkg hr) (za 4 0) (ya (k:=0) yh xu rfl T.b_len vc (zc (za 2 1) zk)))
  (ze (v8 (k:=0) (N:=["_law_k","_law_arrows","_law_going"]) (om:=[.ow 0]) (cap:=[0,4]) (own:=1) rfl ul.nd rfl (Or.inl rfl) (uk (by rfl)) rfl rfl (by decide) (XI.cc (v5 (n:=0) T.b_range (zc (ya (k:=0) yh xu rfl T.b_len vc (zc (za 0 0) zk)) zk))) (fun _ _ _ _ _=>(xr (by decide) rfl (show List.Nodup (["_law_k","_law_arrows","_law_going"]:List Str) from by decide +kernel) rfl (by first | exact Or.inl rfl | exact Or.inr rfl))) (fun _ _ _ _ _=>(zaw (yf (k:=0) (ue hr.u64) xz (yc (n:=0) zm zu (yc (n:=0) zm zu (za 1 0) (za 0 0) (fun _ _=>rfl)) (zh (n:=0)) (fun _ _=>rfl)) (za 2 0) (nomark _)))) (fun _ _ _ _ _=>(XE.ow (za 0 0))))
  (ze (vn (yf (k:=0) (ue hr.u64) xz (za 5 0) (XO.sh (n:=0) (vd (k:=0) yb)) (nomark _)) (zj (yj (XE.ow (XO.sh (n:=0) (vd (k:=0) yb))))) yo)
  (ze (zx rfl ul.nd rfl (Or.inl rfl) (XE.ow (ye (k:=0) xj xl (ye (k:=0) xk yq (za 1 0) (XO.sh (n:=0) (vz yr (yt (n:=0) (m:=0) (by decide) (by decide)) (ye (k:=0) ve vf (za 1 0) (zh (n:=0))) (zh (n:=0))))) (zh (n:=0)))))
  (zj (zax 2 rfl (XE.ow (yc (n:=0) zm zu (za 5 0) (ye (k:=0) xj xl (za 1 0) (ya (k:=0) yh xu rfl T.b_len vc (zc (za 5 0) zk))) (fun _ _=>rfl)))))))))) PassesOwn.never)
  (zj (yj (XE.ow (XO.sh (n:=0) (vv (n:=1) (by decide) (za 2 1) (uf (zse (zkg hr) (za 3 1) (yc (n:=0) zm zu (yc (n:=0) zm zu (za 0 0) (yc (n:=1) zm zu (za 2 1) (zbl (k:=0) (zh (n:=0))) (fun _ _=>rfl)) (fun _ _=>rfl)) (zh (n:=0)) (fun _ _=>rfl)) (fun _ _=>rfl))) zcy)))))))))
def wk:SF:=(sIf (bAnd (tb (e2 (inD false) (e2 ixD (eV 5) (eC (.int 1))) (eV 3))) (tb (e2 (inD true) (e2 ixD (eV 5) (eC (.int 0))) (eV 3)))) (sApp 3 (e2 ixD (eV 5) (eC (.int 0)))) sSkip)
def za5:SF:=(sFor (lsD (eV 0)) (gV 5) wk)
def ju:List D->Option D:=mOf ["_law_arrows","_law_going","_law_many","_law_found_here","_law_step","_law_one"]
  (sSeq (sSet 3 (fun ρ=>((aCons (eV 1) aNil) ρ).bind fun ds=>some (.lst ds)))
  (sSeq (sFor (fun ρ=>((aCons (eV 2) aNil) ρ).bind rng1) (gV 4) za5)
  (sRet (eN sortD (aCons (eV 3) aNil)))))
theorem zd9 (T:Txt K mg a):FnOk P w K mg base CX0 1 a.f_law_leading a.d_law_leading ["_law_arrows","_law_going","_law_many"] (LSp K a.ct [0,0,0] 0 ju):=by
 refine lift (ms:=[.ow 0,.ow 0,.ow 0,.ow 1,.ow 0,.ow 0]) T.law_leading.fn u9 rfl rfl (by decide) (zy (by decide)) fun cdv A outer s H E hr=>?_
 exact (ze (zx rfl u9.nd rfl (Or.inl rfl) (vd (k:=0) (zl (XE.ow (za 1 0)) yb)))
  (ze (jx (v5 (n:=0) T.b_range (zc (za 2 0) zk)) (y2 rfl u9.nd rfl (Or.inl rfl)) (zj (jx (zaa (za 0 0)) (y2 rfl u9.nd rfl (Or.inl rfl)) (zj (vn (XW.t (zee (yf (k:=0) qp zbk (yc (n:=0) zm zu (za 5 0) (zh (n:=0)) (fun _ _=>rfl)) (za 3 1) (by with_unfolding_all rfl)) (zcg (yf (k:=0) qd zbk (yc (n:=0) zm zu (za 5 0) (zh (n:=0)) (fun _ _=>rfl)) (za 3 1) (by with_unfolding_all rfl))))) (zj (zax 3 rfl (XE.ow (yc (n:=0) zm zu (za 5 0) (zh (n:=0)) (fun _ _=>rfl))))) yo)) PassesOwn.never rfl)) PassesOwn.never rfl)
  (zj (yj (XE.ow (XO.sh (n:=0) (zh8 zcu zik rfl T.b_sorted zf7 (zc (za 3 1) zk))))))))
def j6:EF:=(eComp (lsD (eV 1)) 1 [0] (gV 0) bTrue (e2 ixD (e2 ixD (eV 1) (eV 0)) (eC (.int 3))))
def j7:EF:=(eComp (lsD (eV 1)) 1 [0] (gV 0) bTrue (e2 ixD (e2 ixD (eV 1) (eV 0)) (eC (.int 2))))
def yn:List D->Option D:=mOf ["_law_arrows","_law_ring"]
  (sRet (fun ρ=>((aCons (eN sumD (aCons j7 aNil)) (aCons (eN sumD (aCons j6 aNil)) aNil)) ρ).bind fun ds=>wx (ds++[])))
theorem qo (T:Txt K mg a):FnOk P w K mg base CX0 2 a.f_law_mean_of a.d_law_mean_of ["_law_arrows","_law_ring"] (LSp K a.ct [0,0] 0 yn):=by
 have G_law_lowest:=zai (P:=P) (w:=w) (base:=base) T
 refine lift (ms:=[.ow 0,.ow 0]) T.law_mean_of.fn zd3 rfl rfl (by decide) (zy (by decide)) fun cdv A outer s H E hr=>?_
 exact (zj (yj (zw (dds:=[]) (ns:=[0,0]) (nd:=[]) G_law_lowest (hr.mono (by decide)) rfl T.law_lowest.mgx T.law_lowest.fn.kp T.law_lowest.bd .nil (fun _ _=>.nil) (zc (ya (k:=0) (zb6 rfl) ze7 rfl T.b_sum zh6 (zc (XO.sh (n:=0) (jy (N:=["_law_k","_law_arrows"]) (om:=[.ow 0]) (cap:=[0]) (own:=1) (uk (by rfl)) rfl rfl (by decide) (ut (n:=0) (za 1 0)) (fun _ _ _ _ _=>(xr (by decide) rfl (show List.Nodup (["_law_k","_law_arrows"]:List Str) from by decide +kernel) rfl (by first | exact Or.inl rfl | exact Or.inr rfl))) (fun _ _ _ _ _=>ji) (fun _ _ _ _ _=>(XE.ow (yc (n:=0) zm zu (yc (n:=0) zm zu (za 1 0) (za 0 0) (fun _ _=>rfl)) (zh (n:=0)) (fun _ _=>rfl)))))) zk)) (zc (ya (k:=0) (zb6 rfl) ze7 rfl T.b_sum zh6 (zc (XO.sh (n:=0) (jy (N:=["_law_k","_law_arrows"]) (om:=[.ow 0]) (cap:=[0]) (own:=1) (uk (by rfl)) rfl rfl (by decide) (ut (n:=0) (za 1 0)) (fun _ _ _ _ _=>(xr (by decide) rfl (show List.Nodup (["_law_k","_law_arrows"]:List Str) from by decide +kernel) rfl (by first | exact Or.inl rfl | exact Or.inr rfl))) (fun _ _ _ _ _=>ji) (fun _ _ _ _ _=>(XE.ow (yc (n:=0) zm zu (yc (n:=0) zm zu (za 1 0) (za 0 0) (fun _ _=>rfl)) (zh (n:=0)) (fun _ _=>rfl)))))) zk)) zk)))))
def wv:SF:=(sSeq (sSet 5 (fun ρ=>((aCons (eV 0) (aCons (fun ρ=>((aCons (eV 1) (aCons (e2 addD (eC (.int 10)) (eV 4)) aNil)) ρ).bind fun ds=>yw (ds++[])) aNil)) ρ).bind fun ds=>uj (ds++[])))
  (sIf (bAnd (tb (e2 (eqD true) (eV 5) (fun ρ=>(aNil ρ).bind fun ds=>some (.lst ds)))) (tb (e2 (inD false) (e2 ixD (e2 ixD (eV 0) (e2 ixD (eV 5) (eC (.int 0)))) (eC (.int 0))) (eV 2)))) (sSeq (sSet 6 (fun ρ=>((aCons (eV 0) (aCons (eV 5) aNil)) ρ).bind fun ds=>yn (ds++[])))
  (sSeq (sSet 7 (fun ρ=>((aCons (e1 negD (eC (.int 1))) (aCons (eC (.int 1)) aNil)) ρ).bind fun ds=>some (.tup ds)))
  (sSeq (sIf (tb (e2 (eqD true) (eV 3) (fun ρ=>(aNil ρ).bind fun ds=>some (.lst ds)))) (sSet 7 (fun ρ=>((aCons (eV 0) (aCons (eV 3) aNil)) ρ).bind fun ds=>yn (ds++[]))) sSkip)
  (sIf (tb (e2 gtD (e2 mulI (e2 ixD (eV 6) (eC (.int 0))) (e2 ixD (eV 7) (eC (.int 1)))) (e2 mulI (e2 ixD (eV 7) (eC (.int 0))) (e2 ixD (eV 6) (eC (.int 1)))))) (sSet 3 (eV 5)) sSkip)))) sSkip))
def jc:List D->Option D:=mOf ["_law_arrows","_law_cell","_law_goings","_law_best","_law_k","_law_ring","_law_one","_law_other"]
  (sSeq (sSet 3 (fun ρ=>(aNil ρ).bind fun ds=>some (.lst ds)))
  (sSeq (sFor (fun ρ=>((aCons (eC (.int 6)) aNil) ρ).bind rng1) (gV 4) wv)
  (sRet (eV 3))))
theorem zdt (T:Txt K mg a):FnOk P w K mg base CX0 3 a.f_law_greatest a.d_law_greatest ["_law_arrows","_law_cell","_law_goings"] (LSp K a.ct [0,0,0] 0 jc):=by
 have G_law_found:=zcx (P:=P) (w:=w) (base:=base) T
 have G_law_mixed:=uq (P:=P) (w:=w) (base:=base) T
 have G_law_mean_of:=qo (P:=P) (w:=w) (base:=base) T
 refine lift (ms:=[.ow 0,.ow 0,.ow 0,.ow 0,.ow 0,.ow 0,.ow 0,.ow 0]) T.law_greatest.fn xv rfl rfl (by decide) (zy (by decide)) fun cdv A outer s H E hr=>?_
 exact (ze (zx rfl xv.nd rfl (Or.inl rfl) (XE.ow (XO.sh (n:=0) (vd (k:=0) yb))))
  (ze (jx (v5 (n:=0) T.b_range (zc (zh (n:=0)) zk)) (y2 rfl xv.nd rfl (Or.inl rfl)) (ze (zx rfl xv.nd rfl (Or.inl rfl) (zw (dds:=[]) (ns:=[0,0]) (nd:=[]) G_law_found (hr.mono (by decide)) rfl T.law_found.mgx T.law_found.fn.kp T.law_found.bd .nil (fun _ _=>.nil) (zc (za 0 0) (zc (XO.sh (n:=0) (zw (dds:=[]) (ns:=[0,0]) (nd:=[]) G_law_mixed (hr.mono (by decide)) rfl T.law_mixed.mgx T.law_mixed.fn.kp T.law_mixed.bd .nil (fun _ _=>.nil) (zc (za 1 0) (zc (XO.sh (n:=0) (vz yr (yt (n:=0) (m:=0) (by decide) (by decide)) (zh (n:=0)) (za 4 0))) zk)))) zk))))
  (zj (vn (XW.t (zee (yf (k:=0) (zan hr.u64) xz (za 5 0) (XO.sh (n:=0) (vd (k:=0) yb)) (nomark _)) (zcg (yf (k:=0) qp zbk (yc (n:=0) zm zu (yc (n:=0) zm zu (za 0 0) (yc (n:=0) zm zu (za 5 0) (zh (n:=0)) (fun _ _=>rfl)) (fun _ _=>rfl)) (zh (n:=0)) (fun _ _=>rfl)) (za 2 0) (by with_unfolding_all rfl))))) (ze (zx rfl xv.nd rfl (Or.inl rfl) (zw (dds:=[]) (ns:=[0,0]) (nd:=[]) G_law_mean_of (hr.mono (by decide)) rfl T.law_mean_of.mgx T.law_mean_of.fn.kp T.law_mean_of.bd .nil (fun _ _=>.nil) (zc (za 0 0) (zc (za 5 0) zk))))
  (ze (zx rfl xv.nd rfl (Or.inl rfl) (XE.ow (XO.sh (n:=0) (ur (zl (XE.ow (zbl (k:=0) (zh (n:=0)))) (zl (XE.ow (zh (n:=0))) yb))))))
  (ze (vn (yf (k:=0) (zan hr.u64) xz (za 3 0) (XO.sh (n:=0) (vd (k:=0) yb)) (nomark _)) (zj (zx rfl xv.nd rfl (Or.inl rfl) (zw (dds:=[]) (ns:=[0,0]) (nd:=[]) G_law_mean_of (hr.mono (by decide)) rfl T.law_mean_of.mgx T.law_mean_of.fn.kp T.law_mean_of.bd .nil (fun _ _=>.nil) (zc (za 0 0) (zc (za 3 0) zk))))) yo)
  (zj (vn (yf (k:=0) zi9 zeh (ye (k:=0) xk yq (yc (n:=0) zm zu (za 6 0) (zh (n:=0)) (fun _ _=>rfl)) (yc (n:=0) zm zu (za 7 0) (zh (n:=0)) (fun _ _=>rfl))) (ye (k:=0) xk yq (yc (n:=0) zm zu (za 7 0) (zh (n:=0)) (fun _ _=>rfl)) (yc (n:=0) zm zu (za 6 0) (zh (n:=0)) (fun _ _=>rfl))) (nomark _)) (zj (zx rfl xv.nd rfl (Or.inl rfl) (XE.ow (za 5 0)))) yo))))) yo))) PassesOwn.never rfl)
  (zj (yj (XE.ow (za 3 0))))))
def uw:SF:=(sPutL 12 (eV 13) (fun ρ=>((aCons (e2 ixD (eV 6) (eV 13)) (aCons (e2 ixD (eV 5) (eC (.int 1))) aNil)) ρ).bind fun ds=>wx (ds++[])))
def zca:EF:=(eComp (fun ρ=>((aCons (eV 1) aNil) ρ).bind rng1) 1 [] (gV 0) bTrue (eC .non))
def ud:SF:=(sIf (tb (e2 (inD false) (eV 9) (eV 3))) (sPutL 6 (eV 9) (eN max2D (aCons (e2 ixD (eV 6) (eV 9)) (aCons (e2 subD (e2 addD (e2 ixD (eV 6) (eV 8)) (e2 mulI (eV 10) (e2 ixD (eV 5) (eC (.int 1))))) (e2 mulI (e2 ixD (eV 5) (eC (.int 0))) (eV 11))) aNil)))) sSkip)
def zcb:SF:=(sFor (lsD (eV 0)) (gT (gsCons (gV 8) (gsCons (gV 9) (gsCons (gV 10) (gsCons (gV 11) gsNil))))) ud)
def zcc:EF:=(eComp (fun ρ=>((aCons (eV 1) aNil) ρ).bind rng1) 1 [] (gV 0) bTrue (eC (.int 0)))
def zaj:List D->Option D:=mOf ["_law_arrows","_law_many","_law_cell","_law_goings","_law_ring","_law_beat","_law_tops","_law_step","_law_start","_law_goal","_law_time","_law_behind","_law_times","_law_going"]
  (sSeq (sSet 4 (fun ρ=>((aCons (eV 0) (aCons (eV 2) (aCons (eV 3) aNil))) ρ).bind fun ds=>jc (ds++[])))
  (sSeq (sSet 5 (fun ρ=>((aCons (e2 modD (fun ρ=>((aCons (eV 2) (aCons (eC (.int 2)) aNil)) ρ).bind fun ds=>yw (ds++[])) (eC (.int 9))) (aCons (eC (.int 1)) aNil)) ρ).bind fun ds=>some (.tup ds)))
  (sSeq (sIf (tb (e2 (eqD true) (eV 4) (fun ρ=>(aNil ρ).bind fun ds=>some (.lst ds)))) (sSet 5 (fun ρ=>((aCons (eV 0) (aCons (eV 4) aNil)) ρ).bind fun ds=>yn (ds++[]))) sSkip)
  (sSeq (sSet 6 zcc)
  (sSeq (sFor (fun ρ=>((aCons (eV 1) aNil) ρ).bind rng1) (gV 7) zcb)
  (sFz 6 (sSeq (sSet 12 zca)
  (sSeq (sFor (lsD (eV 3)) (gV 13) uw)
  (sFz 12 (sRet (fun ρ=>((aCons (eV 5) (aCons (eV 4) (aCons (eV 12) aNil))) ρ).bind fun ds=>some (.tup ds))))))))))))
theorem zgv (T:Txt K mg a):FnOk P w K mg base CX0 4 a.f_law_paper a.d_law_paper ["_law_arrows","_law_many","_law_cell","_law_goings"] (LSp K a.ct [0,0,0,0] 0 zaj):=by
 have G_law_greatest:=zdt (P:=P) (w:=w) (base:=base) T
 have G_law_mixed:=uq (P:=P) (w:=w) (base:=base) T
 have G_law_mean_of:=qo (P:=P) (w:=w) (base:=base) T
 have G_law_lowest:=zai (P:=P) (w:=w) (base:=base) T
 refine lift (ms:=[.ow 0,.ow 0,.ow 0,.ow 0,.ow 0,.ow 0,.ow 1,.ow 0,.ow 0,.ow 0,.ow 0,.ow 0,.ow 1,.ow 0]) T.law_paper.fn xq rfl rfl (by decide) (zy (by decide)) fun cdv A outer s H E hr=>?_
 exact (ze (zx rfl xq.nd rfl (Or.inl rfl) (zw (dds:=[]) (ns:=[0,0,0]) (nd:=[]) G_law_greatest (hr.mono (by decide)) rfl T.law_greatest.mgx T.law_greatest.fn.kp T.law_greatest.bd .nil (fun _ _=>.nil) (zc (za 0 0) (zc (za 2 0) (zc (za 3 0) zk)))))
  (ze (zx rfl xq.nd rfl (Or.inl rfl) (XE.ow (XO.sh (n:=0) (ur (zl (XE.ow (ye (k:=0) xj xl (XO.sh (n:=0) (zw (dds:=[]) (ns:=[0,0]) (nd:=[]) G_law_mixed (hr.mono (by decide)) rfl T.law_mixed.mgx T.law_mixed.fn.kp T.law_mixed.bd .nil (fun _ _=>.nil) (zc (za 2 0) (zc (zh (n:=0)) zk)))) (zh (n:=0)))) (zl (XE.ow (zh (n:=0))) yb))))))
  (ze (vn (yf (k:=0) (zan hr.u64) xz (za 4 0) (XO.sh (n:=0) (vd (k:=0) yb)) (nomark _)) (zj (zx rfl xq.nd rfl (Or.inl rfl) (zw (dds:=[]) (ns:=[0,0]) (nd:=[]) G_law_mean_of (hr.mono (by decide)) rfl T.law_mean_of.mgx T.law_mean_of.fn.kp T.law_mean_of.bd .nil (fun _ _=>.nil) (zc (za 0 0) (zc (za 4 0) zk))))) yo)
  (ze (v8 (k:=1) (N:=["_law_k"]) (om:=[.ow 0]) (cap:=[]) (own:=1) rfl xq.nd rfl (Or.inl rfl) (uk (by rfl)) rfl rfl (by decide) (XI.cc (v5 (n:=0) T.b_range (zc (za 1 0) zk))) (fun _ _ _ _ _=>(xr (by decide) rfl (show List.Nodup (["_law_k"]:List Str) from by decide +kernel) rfl (by first | exact Or.inl rfl | exact Or.inr rfl))) (fun _ _ _ _ _=>ji) (fun _ _ _ _ _=>(XE.ow (zh (n:=0)))))
  (ze (jx (v5 (n:=0) T.b_range (zc (za 1 0) zk)) (y2 rfl xq.nd rfl (Or.inl rfl)) (zj (jx (zaa (za 0 0)) (zeg (n:=0) rfl (xy (y2 rfl xq.nd rfl (Or.inl rfl)) (xy (y2 rfl xq.nd rfl (Or.inl rfl)) (xy (y2 rfl xq.nd rfl (Or.inl rfl)) (xy (y2 rfl xq.nd rfl (Or.inl rfl)) zch))))) (zj (vn (yf (k:=0) qp zbk (za 9 0) (za 3 0) (by with_unfolding_all rfl)) (zj (zk1 6 rfl (za 9 0) (ya (k:=0) (zj8 rfl) zmy rfl T.b_max zol (zc (yc (n:=1) zm zu (za 6 1) (za 9 0) (fun _ _=>rfl)) (zc (ye (k:=0) zc7 zbn (XO.sh (n:=0) (vz yr (yt (n:=0) (m:=0) (by decide) (by decide)) (yc (n:=1) zm zu (za 6 1) (za 8 0) (fun _ _=>rfl)) (ye (k:=0) xk yq (za 10 0) (yc (n:=0) zm zu (za 5 0) (zh (n:=0)) (fun _ _=>rfl))))) (ye (k:=0) xk yq (yc (n:=0) zm zu (za 5 0) (zh (n:=0)) (fun _ _=>rfl)) (za 11 0))) zk))))) yo)) PassesOwn.never rfl)) PassesOwn.never rfl)
  (zos (i:=6) rfl (ze (v8 (k:=1) (N:=["_law_k"]) (om:=[.ow 0]) (cap:=[]) (own:=1) rfl xq.nd rfl (Or.inl rfl) (uk (by rfl)) rfl rfl (by decide) (XI.cc (v5 (n:=0) T.b_range (zc (za 1 0) zk))) (fun _ _ _ _ _=>(xr (by decide) rfl (show List.Nodup (["_law_k"]:List Str) from by decide +kernel) rfl (by first | exact Or.inl rfl | exact Or.inr rfl))) (fun _ _ _ _ _=>ji) (fun _ _ _ _ _=>(XE.ow (zed (n:=0)))))
  (ze (jx (zaa (za 3 0)) (y2 rfl xq.nd rfl (Or.inl rfl)) (zj (zk1 12 rfl (za 13 0) (XO.sh (n:=0) (zw (dds:=[]) (ns:=[0,0]) (nd:=[]) G_law_lowest (hr.mono (by decide)) rfl T.law_lowest.mgx T.law_lowest.fn.kp T.law_lowest.bd .nil (fun _ _=>.nil) (zc (yc (n:=0) zm zu (za 6 0) (za 13 0) (fun _ _=>rfl)) (zc (yc (n:=0) zm zu (za 5 0) (zh (n:=0)) (fun _ _=>rfl)) zk)))))) PassesOwn.never rfl)
  (zos (i:=12) rfl (zj (yj (XE.ow (XO.sh (n:=0) (ur (zl (XE.ow (za 5 0)) (zl (XE.ow (za 4 0)) (zl (XE.ow (za 12 0)) yb)))))))))))))))))
def v7:List D->Option D:=mOf ["_law_found_here","_law_cell","_law_arrows","_law_beat","_law_ring","_law_times","_law_at","_law_fine","_law_other","_law_some"]
  (sSeq (sAsg (gT (gsCons (gV 3) (gsCons (gV 4) (gsCons (gV 5) gsNil)))) (eV 0))
  (sSeq (sSet 6 (e2 modD (e2 fdivD (eV 1) (eC (.int 8))) (eN lenD (aCons (eV 5) aNil))))
  (sSeq (sSet 7 (e2 addD (eC (.int 1)) (e2 modD (e2 fdivD (eV 1) (eC (.int 100))) (eC (.int 1000)))))
  (sSeq (sSet 8 (fun ρ=>((aCons (eC (.int 5)) (aCons (eC (.int 3)) aNil)) ρ).bind fun ds=>some (.tup ds)))
  (sSeq (sIf (tb (e2 (isD true) (e2 ixD (eV 5) (eV 6)) (eC .non))) (sSet 8 (fun ρ=>((aCons (e2 subD (e2 mulI (e2 ixD (e2 ixD (eV 5) (eV 6)) (eC (.int 0))) (eV 7)) (eC (.int 1))) (aCons (e2 mulI (e2 ixD (e2 ixD (eV 5) (eV 6)) (eC (.int 1))) (eV 7)) aNil)) ρ).bind fun ds=>wx (ds++[]))) sSkip)
  (sSeq (sSet 9 (fun ρ=>((aCons (fun ρ=>((aCons (eV 3) (aCons (eV 4) (aCons (e2 addD (e2 addD (fun ρ=>((eV 5) ρ).bind fun d=>(pNo ρ).bind fun l=>((pInt (eV 6)) ρ).bind fun h=>sliceD d l h) (fun ρ=>((aCons (eV 8) aNil) ρ).bind fun ds=>some (.lst ds))) (fun ρ=>((eV 5) ρ).bind fun d=>((pInt (e2 addD (eV 6) (eC (.int 1)))) ρ).bind fun l=>(pNo ρ).bind fun h=>sliceD d l h)) aNil))) ρ).bind fun ds=>some (.tup ds)) (aCons (fun ρ=>((aCons (eV 3) (aCons (eV 4) (aCons (e2 addD (e2 addD (fun ρ=>((eV 5) ρ).bind fun d=>(pNo ρ).bind fun l=>((pInt (eV 6)) ρ).bind fun h=>sliceD d l h) (fun ρ=>((aCons (eC .non) aNil) ρ).bind fun ds=>some (.lst ds))) (fun ρ=>((eV 5) ρ).bind fun d=>((pInt (e2 addD (eV 6) (eC (.int 1)))) ρ).bind fun l=>(pNo ρ).bind fun h=>sliceD d l h)) aNil))) ρ).bind fun ds=>some (.tup ds)) aNil)) ρ).bind fun ds=>some (.lst ds)))
  (sSeq (sSet 9 (e2 addD (eV 9) (fun ρ=>((aCons (fun ρ=>((aCons (eV 3) (aCons (eV 4) (aCons (e2 addD (eV 5) (fun ρ=>((aCons (eC .non) aNil) ρ).bind fun ds=>some (.lst ds))) aNil))) ρ).bind fun ds=>some (.tup ds)) (aCons (fun ρ=>((aCons (eV 3) (aCons (eV 4) (aCons (fun ρ=>((eV 5) ρ).bind fun d=>(pNo ρ).bind fun l=>((pInt (e1 negD (eC (.int 1)))) ρ).bind fun h=>sliceD d l h) aNil))) ρ).bind fun ds=>some (.tup ds)) (aCons (fun ρ=>((aCons (eV 3) (aCons (fun ρ=>(aNil ρ).bind fun ds=>some (.lst ds)) (aCons (eV 5) aNil))) ρ).bind fun ds=>some (.tup ds)) aNil))) ρ).bind fun ds=>some (.lst ds))))
  (sSeq (sSet 9 (e2 addD (eV 9) (fun ρ=>((aCons (fun ρ=>((aCons (fun ρ=>((aCons (e2 addD (e2 mulI (e2 ixD (eV 3) (eC (.int 0))) (eV 7)) (eC (.int 1))) (aCons (e2 mulI (e2 ixD (eV 3) (eC (.int 1))) (eV 7)) aNil)) ρ).bind fun ds=>wx (ds++[])) (aCons (eV 4) (aCons (eV 5) aNil))) ρ).bind fun ds=>some (.tup ds)) (aCons (fun ρ=>((aCons (eV 3) (aCons (e2 addD (fun ρ=>((eV 4) ρ).bind fun d=>((pInt (eC (.int 1))) ρ).bind fun l=>(pNo ρ).bind fun h=>sliceD d l h) (fun ρ=>((eV 4) ρ).bind fun d=>(pNo ρ).bind fun l=>((pInt (eC (.int 1))) ρ).bind fun h=>sliceD d l h)) (aCons (eV 5) aNil))) ρ).bind fun ds=>some (.tup ds)) aNil)) ρ).bind fun ds=>some (.lst ds))))
  (sSeq (sSet 9 (e2 addD (eV 9) (fun ρ=>((aCons (fun ρ=>((aCons (eV 3) (aCons (fun ρ=>((aCons (eV 2) (aCons (fun ρ=>((aCons (eV 1) (aCons (eC (.int 7)) aNil)) ρ).bind fun ds=>yw (ds++[])) aNil)) ρ).bind fun ds=>uj (ds++[])) (aCons (eV 5) aNil))) ρ).bind fun ds=>some (.tup ds)) aNil) ρ).bind fun ds=>some (.lst ds))))
  (sSeq (sSet 9 (e2 addD (eV 9) (fun ρ=>((aCons (fun ρ=>((aCons (eV 3) (aCons (e2 addD (fun ρ=>((eV 4) ρ).bind fun d=>(pNo ρ).bind fun l=>((pInt (e1 negD (eC (.int 1)))) ρ).bind fun h=>sliceD d l h) (fun ρ=>((aCons (e2 subD (eC (.int 0)) (eC (.int 1))) aNil) ρ).bind fun ds=>some (.lst ds))) (aCons (eV 5) aNil))) ρ).bind fun ds=>some (.tup ds)) (aCons (fun ρ=>((aCons (eV 3) (aCons (e2 addD (fun ρ=>((eV 4) ρ).bind fun d=>((pInt (eC (.int 1))) ρ).bind fun l=>(pNo ρ).bind fun h=>sliceD d l h) (fun ρ=>((aCons (eN lenD (aCons (eV 2) aNil)) aNil) ρ).bind fun ds=>some (.lst ds))) (aCons (eV 5) aNil))) ρ).bind fun ds=>some (.tup ds)) aNil)) ρ).bind fun ds=>some (.lst ds))))
  (sRet (e2 ixD (eV 9) (e2 modD (eV 1) (eC (.int 10)))))))))))))))
theorem zfj (T:Txt K mg a):FnOk P w K mg base CX0 3 a.f_law_faulty a.d_law_faulty ["_law_found_here","_law_cell","_law_arrows"] (LSp K a.ct [0,0,0] 0 v7):=by
 have G_law_lowest:=zai (P:=P) (w:=w) (base:=base) T
 have G_law_found:=zcx (P:=P) (w:=w) (base:=base) T
 have G_law_mixed:=uq (P:=P) (w:=w) (base:=base) T
 refine lift (ms:=[.ow 0,.ow 0,.ow 0,.ow 0,.ow 0,.ow 0,.ow 0,.ow 0,.ow 0,.ow 0]) T.law_faulty.fn yz rfl rfl (by decide) (zy (by decide)) fun cdv A outer s H E hr=>?_
 exact (ze (zk2 (za 0 0) (zeg (n:=0) rfl (xy (y2 rfl yz.nd rfl (Or.inl rfl)) (xy (y2 rfl yz.nd rfl (Or.inl rfl)) (xy (y2 rfl yz.nd rfl (Or.inl rfl)) zch)))))
  (ze (zx rfl yz.nd rfl (Or.inl rfl) (XE.ow (ye (k:=0) xj xl (ye (k:=0) ve vf (za 1 0) (zh (n:=0))) (ya (k:=0) yh xu rfl T.b_len vc (zc (za 5 0) zk)))))
  (ze (zx rfl yz.nd rfl (Or.inl rfl) (XE.ow (XO.sh (n:=0) (vz yr (yt (n:=0) (m:=0) (by decide) (by decide)) (zh (n:=0)) (ye (k:=0) xj xl (ye (k:=0) ve vf (za 1 0) (zh (n:=0))) (zh (n:=0)))))))
  (ze (zx rfl yz.nd rfl (Or.inl rfl) (XE.ow (XO.sh (n:=0) (ur (zl (XE.ow (zh (n:=0))) (zl (XE.ow (zh (n:=0))) yb))))))
  (ze (vn (yf (k:=0) ze5 zdh (yc (n:=0) zm zu (za 5 0) (za 6 0) (fun _ _=>rfl)) (zed (n:=0)) (nomark _)) (zj (zx rfl yz.nd rfl (Or.inl rfl) (zw (dds:=[]) (ns:=[0,0]) (nd:=[]) G_law_lowest (hr.mono (by decide)) rfl T.law_lowest.mgx T.law_lowest.fn.kp T.law_lowest.bd .nil (fun _ _=>.nil) (zc (ye (k:=0) zc7 zbn (ye (k:=0) xk yq (yc (n:=0) zm zu (yc (n:=0) zm zu (za 5 0) (za 6 0) (fun _ _=>rfl)) (zh (n:=0)) (fun _ _=>rfl)) (za 7 0)) (zh (n:=0))) (zc (ye (k:=0) xk yq (yc (n:=0) zm zu (yc (n:=0) zm zu (za 5 0) (za 6 0) (fun _ _=>rfl)) (zh (n:=0)) (fun _ _=>rfl)) (za 7 0)) zk))))) yo)
  (ze (zx rfl yz.nd rfl (Or.inl rfl) (XE.ow (XO.sh (n:=0) (vd (k:=0) (zl (XE.ow (XO.sh (n:=0) (ur (zl (XE.ow (za 3 0)) (zl (XE.ow (za 4 0)) (zl (XE.ow (XO.sh (n:=0) (vz yr (yt (n:=0) (m:=0) (by decide) (by decide)) (XO.sh (n:=0) (vz yr (yt (n:=0) (m:=0) (by decide) (by decide)) (XO.sh (n:=0) (vv (n:=0) (by decide) (za 5 0) zcy (uf (za 6 0)))) (XO.sh (n:=0) (vd (k:=0) (zl (XE.ow (za 8 0)) yb))))) (XO.sh (n:=0) (vv (n:=0) (by decide) (za 5 0) (uf (XO.sh (n:=0) (vz yr (yt (n:=0) (m:=0) (by decide) (by decide)) (za 6 0) (zh (n:=0))))) zcy))))) yb)))))) (zl (XE.ow (XO.sh (n:=0) (ur (zl (XE.ow (za 3 0)) (zl (XE.ow (za 4 0)) (zl (XE.ow (XO.sh (n:=0) (vz yr (yt (n:=0) (m:=0) (by decide) (by decide)) (XO.sh (n:=0) (vz yr (yt (n:=0) (m:=0) (by decide) (by decide)) (XO.sh (n:=0) (vv (n:=0) (by decide) (za 5 0) zcy (uf (za 6 0)))) (XO.sh (n:=0) (vd (k:=0) (zl (XE.ow (zed (n:=0))) yb))))) (XO.sh (n:=0) (vv (n:=0) (by decide) (za 5 0) (uf (XO.sh (n:=0) (vz yr (yt (n:=0) (m:=0) (by decide) (by decide)) (za 6 0) (zh (n:=0))))) zcy))))) yb)))))) yb))))))
  (ze (zx rfl yz.nd rfl (Or.inl rfl) (XE.ow (XO.sh (n:=0) (vz yr (yt (n:=0) (m:=0) (by decide) (by decide)) (za 9 0) (XO.sh (n:=0) (vd (k:=0) (zl (XE.ow (XO.sh (n:=0) (ur (zl (XE.ow (za 3 0)) (zl (XE.ow (za 4 0)) (zl (XE.ow (XO.sh (n:=0) (vz yr (yt (n:=0) (m:=0) (by decide) (by decide)) (za 5 0) (XO.sh (n:=0) (vd (k:=0) (zl (XE.ow (zed (n:=0))) yb)))))) yb)))))) (zl (XE.ow (XO.sh (n:=0) (ur (zl (XE.ow (za 3 0)) (zl (XE.ow (za 4 0)) (zl (XE.ow (XO.sh (n:=0) (vv (n:=0) (by decide) (za 5 0) zcy (uf (zbl (k:=0) (zh (n:=0))))))) yb)))))) (zl (XE.ow (XO.sh (n:=0) (ur (zl (XE.ow (za 3 0)) (zl (XE.ow (XO.sh (n:=0) (vd (k:=0) yb))) (zl (XE.ow (za 5 0)) yb)))))) yb)))))))))
  (ze (zx rfl yz.nd rfl (Or.inl rfl) (XE.ow (XO.sh (n:=0) (vz yr (yt (n:=0) (m:=0) (by decide) (by decide)) (za 9 0) (XO.sh (n:=0) (vd (k:=0) (zl (XE.ow (XO.sh (n:=0) (ur (zl (zw (dds:=[]) (ns:=[0,0]) (nd:=[]) G_law_lowest (hr.mono (by decide)) rfl T.law_lowest.mgx T.law_lowest.fn.kp T.law_lowest.bd .nil (fun _ _=>.nil) (zc (XO.sh (n:=0) (vz yr (yt (n:=0) (m:=0) (by decide) (by decide)) (ye (k:=0) xk yq (yc (n:=0) zm zu (za 3 0) (zh (n:=0)) (fun _ _=>rfl)) (za 7 0)) (zh (n:=0)))) (zc (ye (k:=0) xk yq (yc (n:=0) zm zu (za 3 0) (zh (n:=0)) (fun _ _=>rfl)) (za 7 0)) zk))) (zl (XE.ow (za 4 0)) (zl (XE.ow (za 5 0)) yb)))))) (zl (XE.ow (XO.sh (n:=0) (ur (zl (XE.ow (za 3 0)) (zl (XE.ow (XO.sh (n:=0) (vz yr (yt (n:=0) (m:=0) (by decide) (by decide)) (XO.sh (n:=0) (vv (n:=0) (by decide) (za 4 0) (uf (zh (n:=0))) zcy)) (XO.sh (n:=0) (vv (n:=0) (by decide) (za 4 0) zcy (uf (zh (n:=0)))))))) (zl (XE.ow (za 5 0)) yb)))))) yb))))))))
  (ze (zx rfl yz.nd rfl (Or.inl rfl) (XE.ow (XO.sh (n:=0) (vz yr (yt (n:=0) (m:=0) (by decide) (by decide)) (za 9 0) (XO.sh (n:=0) (vd (k:=0) (zl (XE.ow (XO.sh (n:=0) (ur (zl (XE.ow (za 3 0)) (zl (zw (dds:=[]) (ns:=[0,0]) (nd:=[]) G_law_found (hr.mono (by decide)) rfl T.law_found.mgx T.law_found.fn.kp T.law_found.bd .nil (fun _ _=>.nil) (zc (za 2 0) (zc (XO.sh (n:=0) (zw (dds:=[]) (ns:=[0,0]) (nd:=[]) G_law_mixed (hr.mono (by decide)) rfl T.law_mixed.mgx T.law_mixed.fn.kp T.law_mixed.bd .nil (fun _ _=>.nil) (zc (za 1 0) (zc (zh (n:=0)) zk)))) zk))) (zl (XE.ow (za 5 0)) yb)))))) yb)))))))
  (ze (zx rfl yz.nd rfl (Or.inl rfl) (XE.ow (XO.sh (n:=0) (vz yr (yt (n:=0) (m:=0) (by decide) (by decide)) (za 9 0) (XO.sh (n:=0) (vd (k:=0) (zl (XE.ow (XO.sh (n:=0) (ur (zl (XE.ow (za 3 0)) (zl (XE.ow (XO.sh (n:=0) (vz yr (yt (n:=0) (m:=0) (by decide) (by decide)) (XO.sh (n:=0) (vv (n:=0) (by decide) (za 4 0) zcy (uf (zbl (k:=0) (zh (n:=0)))))) (XO.sh (n:=0) (vd (k:=0) (zl (XE.ow (ye (k:=0) zc7 zbn (zh (n:=0)) (zh (n:=0)))) yb)))))) (zl (XE.ow (za 5 0)) yb)))))) (zl (XE.ow (XO.sh (n:=0) (ur (zl (XE.ow (za 3 0)) (zl (XE.ow (XO.sh (n:=0) (vz yr (yt (n:=0) (m:=0) (by decide) (by decide)) (XO.sh (n:=0) (vv (n:=0) (by decide) (za 4 0) (uf (zh (n:=0))) zcy)) (XO.sh (n:=0) (vd (k:=0) (zl (XE.ow (ya (k:=0) yh xu rfl T.b_len vc (zc (za 2 0) zk))) yb)))))) (zl (XE.ow (za 5 0)) yb)))))) yb))))))))
  (zj (yj (XE.ow (yc (n:=0) zm zu (za 9 0) (ye (k:=0) xj xl (za 1 0) (zh (n:=0))) (fun _ _=>rfl)))))))))))))))
def vh:SF:=(sSeq (sSet 5 (e2 ixD (e2 ixD (eV 0) (e2 ixD (eV 1) (eV 4))) (eC (.int 0))))
  (sSeq (sIf (bOr (tb (e2 (eqD true) (eV 5) (e2 ixD (e2 ixD (eV 0) (e2 ixD (eV 1) (e2 subD (eV 4) (eC (.int 1))))) (eC (.int 1))))) (bOr (tb (e2 (inD false) (eV 5) (eV 3))) (tb (e2 (inD true) (eV 5) (eV 2))))) (sRet (eC (.bl false))) sSkip)
  (sApp 3 (eV 5))))
def za6:EF:=(eComp (lsD (eV 1)) 1 [0] (gV 0) (bNot (bAnd (tb (e2 leD (eC (.int 0)) (eV 0))) (tb (e2 ltD (eV 0) (eN lenD (aCons (eV 1) aNil)))))) (eV 0))
def wy:List D->Option D:=mOf ["_law_arrows","_law_ring","_law_goings","_law_seen","_law_k","_law_start"]
  (sSeq (sSet 3 (fun ρ=>(aNil ρ).bind fun ds=>some (.lst ds)))
  (sSeq (sIf (tb (e2 (eqD true) za6 (fun ρ=>(aNil ρ).bind fun ds=>some (.lst ds)))) (sRet (eC (.bl false))) sSkip)
  (sSeq (sFor (fun ρ=>((aCons (eN lenD (aCons (eV 1) aNil)) aNil) ρ).bind rng1) (gV 4) vh)
  (sRet (e2 (eqD true) (eV 1) (fun ρ=>(aNil ρ).bind fun ds=>some (.lst ds)))))))
theorem zea (T:Txt K mg a):FnOk P w K mg base CX0 1 a.f_law_is_ring a.d_law_is_ring ["_law_arrows","_law_ring","_law_goings"] (LSp K a.ct [0,0,0] 0 wy):=by
 refine lift (ms:=[.ow 0,.ow 0,.ow 0,.ow 1,.ow 0,.ow 0]) T.law_is_ring.fn ja rfl rfl (by decide) (zy (by decide)) fun cdv A outer s H E hr=>?_
 exact (ze (zx rfl ja.nd rfl (Or.inl rfl) (vd (k:=0) yb))
  (ze (vn (yf (k:=0) (zan hr.u64) xz (XO.sh (n:=0) (jy (N:=["_law_number","_law_arrows"]) (om:=[.ow 0]) (cap:=[0]) (own:=1) (uk (by rfl)) rfl rfl (by decide) (ut (n:=0) (za 1 0)) (fun _ _ _ _ _=>(xr (by decide) rfl (show List.Nodup (["_law_number","_law_arrows"]:List Str) from by decide +kernel) rfl (by first | exact Or.inl rfl | exact Or.inr rfl))) (fun _ _ _ _ _=>(zaw (zao (znk (k:=0) zdg zbo zc8 zav (zh (n:=0)) (za 0 0) (ya (k:=0) yh xu rfl T.b_len vc (zc (za 1 0) zk)))))) (fun _ _ _ _ _=>(XE.ow (za 0 0))))) (XO.sh (n:=0) (vd (k:=0) yb)) (nomark _)) (zj (yj (XE.ow (zbh (n:=0))))) yo)
  (ze (jx (v5 (n:=0) T.b_range (zc (ya (k:=0) yh xu rfl T.b_len vc (zc (za 1 0) zk)) zk)) (y2 rfl ja.nd rfl (Or.inl rfl)) (ze (zx rfl ja.nd rfl (Or.inl rfl) (XE.ow (yc (n:=0) zm zu (yc (n:=0) zm zu (za 0 0) (yc (n:=0) zm zu (za 1 0) (za 4 0) (fun _ _=>rfl)) (fun _ _=>rfl)) (zh (n:=0)) (fun _ _=>rfl))))
  (ze (vn (XW.t (zbi (yf (k:=0) (zan hr.u64) xz (za 5 0) (yc (n:=0) zm zu (yc (n:=0) zm zu (za 0 0) (yc (n:=0) zm zu (za 1 0) (ye (k:=0) zc7 zbn (za 4 0) (zh (n:=0))) (fun _ _=>rfl)) (fun _ _=>rfl)) (zh (n:=0)) (fun _ _=>rfl)) (nomark _)) (zbi (yf (k:=0) qp zbk (za 5 0) (za 3 1) (by with_unfolding_all rfl)) (zau (yf (k:=0) qd zbk (za 5 0) (za 2 0) (by with_unfolding_all rfl)))))) (zj (yj (XE.ow (zbh (n:=0))))) yo)
  (zj (zax 3 rfl (XE.ow (za 5 0)))))) PassesOwn.never rfl)
  (zj (yj (XE.ow (jm (k:=0) (zan hr.u64) xz (za 1 0) (XO.sh (n:=0) (vd (k:=0) yb)) (nomark _))))))))
def j8:SF:=(sIf (tb (e2 (inD false) (eV 5) (eV 3))) (sSeq (sSet 8 (e2 ixD (eV 2) (eV 4)))
  (sSeq (sSet 9 (e2 ixD (eV 2) (eV 5)))
  (sSeq (sSet 10 (e2 addD (e2 mulI (e2 ixD (eV 8) (eC (.int 0))) (e2 ixD (eV 1) (eC (.int 1)))) (e2 mulI (e2 mulI (eV 6) (e2 ixD (eV 8) (eC (.int 1)))) (e2 ixD (eV 1) (eC (.int 1))))))
  (sSeq (sSet 10 (e2 subD (eV 10) (e2 mulI (e2 mulI (e2 ixD (eV 1) (eC (.int 0))) (eV 7)) (e2 ixD (eV 8) (eC (.int 1))))))
  (sIf (tb (e2 ltD (e2 mulI (e2 mulI (e2 ixD (eV 9) (eC (.int 0))) (e2 ixD (eV 8) (eC (.int 1)))) (e2 ixD (eV 1) (eC (.int 1)))) (e2 mulI (eV 10) (e2 ixD (eV 9) (eC (.int 1)))))) (sRet (eC (.bl false))) sSkip))))) sSkip)
def j9:List D->Option D:=mOf ["_law_arrows","_law_beat","_law_times","_law_goings","_law_start","_law_goal","_law_time","_law_behind","_law_one","_law_other","_law_least"]
  (sSeq (sFor (lsD (eV 0)) (gT (gsCons (gV 4) (gsCons (gV 5) (gsCons (gV 6) (gsCons (gV 7) gsNil))))) j8)
  (sRet (eC (.bl true))))
theorem zjs (T:Txt K mg a):FnOk P w K mg base CX0 1 a.f_law_fit a.d_law_fit ["_law_arrows","_law_beat","_law_times","_law_goings"] (LSp K a.ct [0,0,0,0] 0 j9):=by
 refine lift (ms:=[.ow 0,.ow 0,.ow 0,.ow 0,.ow 0,.ow 0,.ow 0,.ow 0,.ow 0,.ow 0,.ow 0]) T.law_fit.fn ua rfl rfl (by decide) (zy (by decide)) fun cdv A outer s H E hr=>?_
 exact (ze (jx (zaa (za 0 0)) (zeg (n:=0) rfl (xy (y2 rfl ua.nd rfl (Or.inl rfl)) (xy (y2 rfl ua.nd rfl (Or.inl rfl)) (xy (y2 rfl ua.nd rfl (Or.inl rfl)) (xy (y2 rfl ua.nd rfl (Or.inl rfl)) zch))))) (zj (vn (yf (k:=0) qp zbk (za 5 0) (za 3 0) (by with_unfolding_all rfl)) (ze (zx rfl ua.nd rfl (Or.inl rfl) (XE.ow (yc (n:=0) zm zu (za 2 0) (za 4 0) (fun _ _=>rfl))))
  (ze (zx rfl ua.nd rfl (Or.inl rfl) (XE.ow (yc (n:=0) zm zu (za 2 0) (za 5 0) (fun _ _=>rfl))))
  (ze (zx rfl ua.nd rfl (Or.inl rfl) (XE.ow (XO.sh (n:=0) (vz yr (yt (n:=0) (m:=0) (by decide) (by decide)) (ye (k:=0) xk yq (yc (n:=0) zm zu (za 8 0) (zh (n:=0)) (fun _ _=>rfl)) (yc (n:=0) zm zu (za 1 0) (zh (n:=0)) (fun _ _=>rfl))) (ye (k:=0) xk yq (ye (k:=0) xk yq (za 6 0) (yc (n:=0) zm zu (za 8 0) (zh (n:=0)) (fun _ _=>rfl))) (yc (n:=0) zm zu (za 1 0) (zh (n:=0)) (fun _ _=>rfl)))))))
  (ze (zx rfl ua.nd rfl (Or.inl rfl) (XE.ow (ye (k:=0) zc7 zbn (za 10 0) (ye (k:=0) xk yq (ye (k:=0) xk yq (yc (n:=0) zm zu (za 1 0) (zh (n:=0)) (fun _ _=>rfl)) (za 7 0)) (yc (n:=0) zm zu (za 8 0) (zh (n:=0)) (fun _ _=>rfl))))))
  (zj (vn (yf (k:=0) zc8 zav (ye (k:=0) xk yq (ye (k:=0) xk yq (yc (n:=0) zm zu (za 9 0) (zh (n:=0)) (fun _ _=>rfl)) (yc (n:=0) zm zu (za 8 0) (zh (n:=0)) (fun _ _=>rfl))) (yc (n:=0) zm zu (za 1 0) (zh (n:=0)) (fun _ _=>rfl))) (ye (k:=0) xk yq (za 10 0) (yc (n:=0) zm zu (za 9 0) (zh (n:=0)) (fun _ _=>rfl))) (nomark _)) (zj (yj (XE.ow (zbh (n:=0))))) yo)))))) yo)) PassesOwn.never rfl)
  (zj (yj (XE.ow (zbh (n:=0))))))
def zdu:EF:=(eComp (fun ρ=>((aCons (eV 1) aNil) ρ).bind rng1) 1 [10] (gV 0) (tb (e2 (isD true) (e2 ixD (eV 1) (eV 0)) (eC .non))) (eV 0))
def zfk:SF:=(sSeq (sSet 5 (e2 modD (fun ρ=>((aCons (eV 4) (aCons (eC (.int 1)) aNil)) ρ).bind fun ds=>yw (ds++[])) (eV 1)))
  (sSeq (sSet 6 (fun ρ=>((aCons (eV 2) (aCons (eV 5) (aCons (eV 1) aNil))) ρ).bind fun ds=>ju (ds++[])))
  (sSeq (sSet 7 (fun ρ=>((aCons (eV 2) (aCons (eV 1) (aCons (e2 fdivD (eV 4) (eC (.int 2))) (aCons (eV 6) aNil)))) ρ).bind fun ds=>zaj (ds++[])))
  (sSeq (sIf (tb (e2 (eqD false) (e2 modD (eV 4) (eC (.int 2))) (eC (.int 1)))) (sSet 7 (fun ρ=>((aCons (eV 7) (aCons (fun ρ=>((aCons (eV 4) (aCons (eC (.int 3)) aNil)) ρ).bind fun ds=>yw (ds++[])) (aCons (eV 2) aNil))) ρ).bind fun ds=>v7 (ds++[]))) sSkip)
  (sSeq (sAsg (gT (gsCons (gV 8) (gsCons (gV 9) (gsCons (gV 10) gsNil)))) (eV 7))
  (sSeq (sSet 11 (eB (bAnd (tb (e2 (eqD false) (eN lenD (aCons (eV 10) aNil)) (eV 1))) (tb (e2 (eqD false) zdu (eV 6))))))
  (sSeq (sSet 11 (eB (bAnd (tb (eV 11)) (bAnd (tb (fun ρ=>((aCons (eV 2) (aCons (eV 9) (aCons (eV 6) aNil))) ρ).bind fun ds=>wy (ds++[]))) (tb (e2 (eqD false) (fun ρ=>((aCons (eV 2) (aCons (eV 9) aNil)) ρ).bind fun ds=>yn (ds++[])) (eV 8)))))))
  (sSeq (sSet 11 (eB (bAnd (tb (eV 11)) (tb (fun ρ=>((aCons (eV 2) (aCons (eV 8) (aCons (eV 10) (aCons (eV 6) aNil)))) ρ).bind fun ds=>j9 (ds++[]))))))
  (sSeq (sSet 12 (fun ρ=>((aCons (eV 8) (aCons (eN listD (aCons (eV 9) aNil)) (aCons (eN listD (aCons (eV 10) aNil)) aNil))) ρ).bind fun ds=>some (.tup ds)))
  (sSeq (sSet 13 (fun ρ=>((aCons (eV 3) (aCons (eV 5) (aCons (eV 12) aNil))) ρ).bind fun ds=>uc (ds++[])))
  (sIf (bOr (bNot (tb (e1 (isiD "bool") (eV 13)))) (bOr (tb (e2 (eqD true) (eV 13) (eV 11))) (tb (e2 (eqD true) (eV 12) (eV 7))))) (sRet (eC (.bl false))) sSkip)))))))))))
def zlt:EF:=(eComp (lsD (eV 2)) 1 [] (gV 0) bTrue (fun ρ=>((aCons (eV 0) (aCons (e2 ixD (eV 0) (eC (.int 0))) aNil)) ρ).bind fun ds=>zbf (ds++[])))
def zlu:EF:=(eComp (fun ρ=>((aCons (eV 1) aNil) ρ).bind rng1) 1 [] (gV 0) bTrue (e2 addD (eC (.str "a")) (eN strD (aCons (eV 0) aNil))))
def zlv:EF:=(eComp (lsD (fun ρ=>((eV 0) ρ).bind fun d=>((pInt (eC (.int 4))) ρ).bind fun l=>((pInt (eC (.int 20))) ρ).bind fun h=>sliceD d l h)) 1 [1,0] (gV 0) bTrue (fun ρ=>((aCons (eV 0) (aCons (eV 1) (aCons (e2 fdivD (fun ρ=>((aCons (eV 2) (aCons (eC (.int 0)) aNil)) ρ).bind fun ds=>vm (ds++[])) (eC (.int 8))) aNil))) ρ).bind fun ds=>vb (ds++[])))
def zqo:List D->Option D:=mOf ["_law_script","_law_many","_law_arrows","_law_net","_law_cell","_law_going","_law_goings","_law_paper_here","_law_beat","_law_ring","_law_times","_law_due","_law_handed","_law_found_here"]
  (sSeq (sSet 1 (e2 addD (eC (.int 1)) (e2 modD (fun ρ=>((aCons (eV 0) (aCons (eC (.int 0)) aNil)) ρ).bind fun ds=>vm (ds++[])) (eC (.int 8)))))
  (sSeq (sSet 2 zlv)
  (sSeq (sSet 3 (fun ρ=>((aCons zlu (aCons zlt aNil)) ρ).bind fun ds=>qj 4 (ds++[])))
  (sSeq (sFor (lsD (e2 addD (fun ρ=>((aCons (fun ρ=>((aCons (eV 0) (aCons (eC (.int 1)) aNil)) ρ).bind fun ds=>vm (ds++[])) aNil) ρ).bind fun ds=>some (.lst ds)) (fun ρ=>((eV 0) ρ).bind fun d=>((pInt (eC (.int 20))) ρ).bind fun l=>((pInt (eC (.int 32))) ρ).bind fun h=>sliceD d l h))) (gV 4) zfk)
  (sRet (eC (.bl true)))))))
theorem zst (T:Txt K mg a):FnOk P w K mg base CX0 7 a.f_law a.d_law ["_law_script"] (LSp K a.ct [0] 0 zqo):=by
 have G_law_cell_at:=zd8 (P:=P) (w:=w) (base:=base) T
 have G_law_arrow:=zgu (P:=P) (w:=w) (base:=base) T
 have G_Net___init:=zfd (P:=P) (w:=w) (base:=base) T
 have G_law_made:=zhs (P:=P) (w:=w) (base:=base) T
 have G_law_mixed:=uq (P:=P) (w:=w) (base:=base) T
 have G_law_leading:=zd9 (P:=P) (w:=w) (base:=base) T
 have G_law_paper:=zgv (P:=P) (w:=w) (base:=base) T
 have G_law_faulty:=zfj (P:=P) (w:=w) (base:=base) T
 have G_law_is_ring:=zea (P:=P) (w:=w) (base:=base) T
 have G_law_mean_of:=qo (P:=P) (w:=w) (base:=base) T
 have G_law_fit:=zjs (P:=P) (w:=w) (base:=base) T
 have G_holds_at:=zhq (P:=P) (w:=w) (base:=base) T
 refine lift (ms:=[.ow 0,.ow 0,.ow 0,.ow 0,.ow 0,.ow 0,.ow 0,.ow 0,.ow 0,.ow 0,.ow 0,.ow 0,.ow 0,.ow 0]) T.law.fn jg rfl rfl (by decide) (zy (by decide)) fun cdv A outer s H E hr=>?_
 exact (ze (zx rfl jg.nd rfl (Or.inr rfl) (XE.ow (XO.sh (n:=0) (vz yr (yt (n:=0) (m:=0) (by decide) (by decide)) (zh (n:=0)) (ye (k:=0) xj xl (XO.sh (n:=0) (zw (dds:=[]) (ns:=[0,0]) (nd:=[]) G_law_cell_at (hr.mono (by decide)) rfl T.law_cell_at.mgx T.law_cell_at.fn.kp T.law_cell_at.bd .nil (fun _ _=>.nil) (zc (za 0 0) (zc (zh (n:=0)) zk)))) (zh (n:=0)))))))
  (ze (v8 (k:=0) (N:=["_law_cell","_law_many","_law_script"]) (om:=[.ow 0]) (cap:=[1,0]) (own:=1) rfl jg.nd rfl (Or.inl rfl) (uk (by rfl)) rfl rfl (by decide) (ut (n:=0) (XO.sh (n:=0) (vv (n:=0) (by decide) (za 0 0) (uf (zh (n:=0))) (uf (zh (n:=0)))))) (fun _ _ _ _ _=>(xr (by decide) rfl (show List.Nodup (["_law_cell","_law_many","_law_script"]:List Str) from by decide +kernel) rfl (by first | exact Or.inl rfl | exact Or.inr rfl))) (fun _ _ _ _ _=>ji) (fun _ _ _ _ _=>(zw (dds:=[]) (ns:=[0,0,0]) (nd:=[]) G_law_arrow (hr.mono (by decide)) rfl T.law_arrow.mgx T.law_arrow.fn.kp T.law_arrow.bd .nil (fun _ _=>.nil) (zc (za 0 0) (zc (za 1 0) (zc (ye (k:=0) ve vf (XO.sh (n:=0) (zw (dds:=[]) (ns:=[0,0]) (nd:=[]) G_law_cell_at (hr.mono (by decide)) rfl T.law_cell_at.mgx T.law_cell_at.fn.kp T.law_cell_at.bd .nil (fun _ _=>.nil) (zc (za 2 0) (zc (zh (n:=0)) zk)))) (zh (n:=0))) zk))))))
  (ze (zx rfl jg.nd rfl (Or.inl rfl) (XE.ow (XO.sh (n:=0) (ze8 (c0:=4) (dds:=[]) (ns:=[0,0]) (nd:=[]) ⟨T.Net.mks,T.Net___init.me.at_,T.Net___init.me.fn,T.Net.kp⟩ (by decide) G_Net___init (hr.mono (by decide)) rfl T.Net.mgx T.Net___init.bd .nil (fun _ _=>.nil) (zc (XO.sh (n:=0) (jy (N:=["_law_k"]) (om:=[.ow 0]) (cap:=[]) (own:=1) (uk (by rfl)) rfl rfl (by decide) (XI.cc (v5 (n:=0) T.b_range (zc (za 1 0) zk))) (fun _ _ _ _ _=>(xr (by decide) rfl (show List.Nodup (["_law_k"]:List Str) from by decide +kernel) rfl (by first | exact Or.inl rfl | exact Or.inr rfl))) (fun _ _ _ _ _=>ji) (fun _ _ _ _ _=>(XE.ow (XO.sh (n:=0) (vz yr (yt (n:=0) (m:=0) (by decide) (by decide)) (zf9 (n:=0)) (zkv (k:=0) zft zqf rfl T.b_str zok (zc (za 0 0) zk)))))))) (zc (XO.sh (n:=0) (jy (N:=["_law_arrow_here"]) (om:=[.ow 0]) (cap:=[]) (own:=1) (uk (by rfl)) rfl rfl (by decide) (ut (n:=0) (za 2 0)) (fun _ _ _ _ _=>(xr (by decide) rfl (show List.Nodup (["_law_arrow_here"]:List Str) from by decide +kernel) rfl (by first | exact Or.inl rfl | exact Or.inr rfl))) (fun _ _ _ _ _=>ji) (fun _ _ _ _ _=>(zw (dds:=[]) (ns:=[0,0]) (nd:=[]) G_law_made (hr.mono (by decide)) rfl T.law_made.mgx T.law_made.fn.kp T.law_made.bd .nil (fun _ _=>.nil) (zc (za 0 0) (zc (yc (n:=0) zm zu (za 0 0) (zh (n:=0)) (fun _ _=>rfl)) zk)))))) zk))))))
  (ze (jx (zaa (XO.sh (n:=0) (vz yr (yt (n:=0) (m:=0) (by decide) (by decide)) (XO.sh (n:=0) (vd (k:=0) (zl (zw (dds:=[]) (ns:=[0,0]) (nd:=[]) G_law_cell_at (hr.mono (by decide)) rfl T.law_cell_at.mgx T.law_cell_at.fn.kp T.law_cell_at.bd .nil (fun _ _=>.nil) (zc (za 0 0) (zc (zh (n:=0)) zk))) yb))) (XO.sh (n:=0) (vv (n:=0) (by decide) (za 0 0) (uf (zh (n:=0))) (uf (zh (n:=0)))))))) (y2 rfl jg.nd rfl (Or.inl rfl)) (ze (zx rfl jg.nd rfl (Or.inl rfl) (XE.ow (ye (k:=0) xj xl (XO.sh (n:=0) (zw (dds:=[]) (ns:=[0,0]) (nd:=[]) G_law_mixed (hr.mono (by decide)) rfl T.law_mixed.mgx T.law_mixed.fn.kp T.law_mixed.bd .nil (fun _ _=>.nil) (zc (za 4 0) (zc (zh (n:=0)) zk)))) (za 1 0))))
  (ze (zx rfl jg.nd rfl (Or.inl rfl) (zw (dds:=[]) (ns:=[0,0,0]) (nd:=[]) G_law_leading (hr.mono (by decide)) rfl T.law_leading.mgx T.law_leading.fn.kp T.law_leading.bd .nil (fun _ _=>.nil) (zc (za 2 0) (zc (za 5 0) (zc (za 1 0) zk)))))
  (ze (zx rfl jg.nd rfl (Or.inl rfl) (zw (dds:=[]) (ns:=[0,0,0,0]) (nd:=[]) G_law_paper (hr.mono (by decide)) rfl T.law_paper.mgx T.law_paper.fn.kp T.law_paper.bd .nil (fun _ _=>.nil) (zc (za 2 0) (zc (za 1 0) (zc (ye (k:=0) ve vf (za 4 0) (zh (n:=0))) (zc (za 6 0) zk))))))
  (ze (vn (yf (k:=0) (ue hr.u64) xz (ye (k:=0) xj xl (za 4 0) (zh (n:=0))) (zh (n:=0)) (nomark _)) (zj (zx rfl jg.nd rfl (Or.inl rfl) (zw (dds:=[]) (ns:=[0,0,0]) (nd:=[]) G_law_faulty (hr.mono (by decide)) rfl T.law_faulty.mgx T.law_faulty.fn.kp T.law_faulty.bd .nil (fun _ _=>.nil) (zc (za 7 0) (zc (XO.sh (n:=0) (zw (dds:=[]) (ns:=[0,0]) (nd:=[]) G_law_mixed (hr.mono (by decide)) rfl T.law_mixed.mgx T.law_mixed.fn.kp T.law_mixed.bd .nil (fun _ _=>.nil) (zc (za 4 0) (zc (zh (n:=0)) zk)))) (zc (za 2 0) zk)))))) yo)
  (ze (zk2 (za 7 0) (zeg (n:=0) rfl (xy (y2 rfl jg.nd rfl (Or.inl rfl)) (xy (y2 rfl jg.nd rfl (Or.inl rfl)) (xy (y2 rfl jg.nd rfl (Or.inr rfl)) zch)))))
  (ze (zx rfl jg.nd rfl (Or.inl rfl) (XE.ow (zaq (jm (k:=0) (ue hr.u64) xz (ya (k:=0) yh xu rfl T.b_len vc (zc (za 10 0) zk)) (za 1 0) (nomark _)) (zap (k:=0) (jm (k:=0) (ue hr.u64) xz (XO.sh (n:=0) (jy (N:=["_law_k","_law_times"]) (om:=[.ow 0]) (cap:=[10]) (own:=1) (uk (by rfl)) rfl rfl (by decide) (XI.cc (v5 (n:=0) T.b_range (zc (za 1 0) zk))) (fun _ _ _ _ _=>(xr (by decide) rfl (show List.Nodup (["_law_k","_law_times"]:List Str) from by decide +kernel) rfl (by first | exact Or.inl rfl | exact Or.inr rfl))) (fun _ _ _ _ _=>(zaw (yf (k:=0) ze5 zdh (yc (n:=0) zm zu (za 1 0) (za 0 0) (fun _ _=>rfl)) (zed (n:=0)) (nomark _)))) (fun _ _ _ _ _=>(XE.ow (za 0 0))))) (za 6 0) (nomark _))))))
  (ze (zx rfl jg.nd rfl (Or.inl rfl) (XE.ow (zaq (za 11 0) (zaq (XO.sh (n:=0) (zw (dds:=[]) (ns:=[0,0,0]) (nd:=[]) G_law_is_ring (hr.mono (by decide)) rfl T.law_is_ring.mgx T.law_is_ring.fn.kp T.law_is_ring.bd .nil (fun _ _=>.nil) (zc (za 2 0) (zc (za 9 0) (zc (za 6 0) zk))))) (zap (k:=0) (jm (k:=0) (ue hr.u64) xz (XO.sh (n:=0) (zw (dds:=[]) (ns:=[0,0]) (nd:=[]) G_law_mean_of (hr.mono (by decide)) rfl T.law_mean_of.mgx T.law_mean_of.fn.kp T.law_mean_of.bd .nil (fun _ _=>.nil) (zc (za 2 0) (zc (za 9 0) zk)))) (za 8 0) (nomark _)))))))
  (ze (zx rfl jg.nd rfl (Or.inl rfl) (XE.ow (zaq (za 11 0) (zap (k:=0) (XO.sh (n:=0) (zw (dds:=[]) (ns:=[0,0,0,0]) (nd:=[]) G_law_fit (hr.mono (by decide)) rfl T.law_fit.mgx T.law_fit.fn.kp T.law_fit.bd .nil (fun _ _=>.nil) (zc (za 2 0) (zc (za 8 0) (zc (za 10 0) (zc (za 6 0) zk))))))))))
  (ze (zx rfl jg.nd rfl (Or.inl rfl) (XE.ow (XO.sh (n:=0) (ur (zl (XE.ow (za 8 0)) (zl (XE.ow (XO.sh (n:=0) (zb3 qf (zc1 (n:=0) (by decide)) rfl T.b_list zce (zc (za 9 0) zk)))) (zl (XE.ow (XO.sh (n:=0) (zb3 qf (zc1 (n:=0) (by decide)) rfl T.b_list zce (zc (za 10 0) zk)))) yb)))))))
  (ze (zx rfl jg.nd rfl (Or.inl rfl) (zw (dds:=[]) (ns:=[0,0,0]) (nd:=[]) G_holds_at (hr.mono (by decide)) rfl T.holds_at.mgx T.holds_at.fn.kp T.holds_at.bd .nil (fun _ _=>.nil) (zc (za 3 0) (zc (za 5 0) (zc (za 12 0) zk)))))
  (zj (vn (XW.t (zbi (zao (jo (zgb (k:=0) (by decide) T.b_isinstance T.b_bool zko (za 13 0)))) (zbi (yf (k:=0) (zan hr.u64) xz (za 13 0) (za 11 0) (nomark _)) (zau (yf (k:=0) (zan hr.u64) xz (za 12 0) (za 7 0) (nomark _)))))) (zj (yj (XE.ow (zbh (n:=0))))) yo)))))))))))) PassesOwn.never rfl)
  (zj (yj (XE.ow (zbh (n:=0)))))))))
end
local macro_rules | `(tactic| walk_at "mir")=>`(tactic| simp -implicitDefEqProofs [mOf,startD,sSeq,sIf,sSet,sRet,sRetN,sDrop,sPar,sAsg,sApp,sFor,lsD,zqb,sSkip,eV,eC,e1,e2,eN,aNil,aCons,pNo,pInt,zei,tb,zsn,bNot,bAnd,bOr,eB,eIf,gV,gT,gsCons,gsNil,zm1,zm3,zk6,zp9,zk7,zqa,vk,zm5,zm4,zm6,zk9,zsm,D.isN,D.isB,zcj,zso,zk5,u8,zct,zcs,zmz,zm0,zig,zei,zgf,zk8,sFz,znh,zni, *])
def vec (n:Nat) (f:Nat->Int):List D:=(List.range n).map fun g=>D.int (f g)
theorem zqp (n:Nat) (f:Nat->Int):(vec n f).length=n:=by simp [vec]
theorem zeq {n:Nat} (f:Nat->Int) {g:Nat} (h:g<n):atI (vec n f) (g:Int)=some (.int (f g)):=by
 refine ui ?_
 simp [vec,h]
theorem zlw {n:Nat} (f:Nat->Int) {g:Nat} (h:g<n) (v:Int):setAt (vec n f) (g:Int) (.int v)=some (vec n fun x=>if x=g then v else f x):=by
 unfold setAt
 have hx:ixN (vec n f).length (g:Int)=some g:=by
  unfold ixN
  rw [zqp]
  rw [if_pos (by omega),if_pos (by omega)]
  simp
 rw [hx]
 simp only [Option.bind_some,Option.some.injEq]
 apply List.ext_getElem
 ·simp [vec]
 ·intro i h1 h2
  simp [vec,List.getElem_set]
  by_cases hi:g=i
  ·subst hi; simp
  ·rw [if_neg hi,if_neg (fun z=>hi z.symm)]
theorem zlx {i:Nat} {fj f:EF} {gi:Int->Int->Int} {ρ:L3.Env} {n g:Nat} {w:Nat->Int} {y:Int} (h1:(ρ[i]?).join=some (.lst (vec n w))) (h2:fj ρ=some (.int (g:Int))) (h3:f ρ=some (.int y)) (hg:g<n) :
  sAugL i fj gi f ρ=some (.nx (ρ.set i (some (.lst (vec n fun x=>if x=g then gi (w g) y else w x))))):=by
 unfold sAugL
 have:eV i ρ=some (.lst (vec n w)):=h1
 rw [this,h2,h3]
 simp only [Option.bind_some,zeq w hg,zlw w hg]
def nats (p:List Nat):List D:=p.map fun (x:Nat)=>D.int (x:Int)
theorem zer {f:EF} {r:L3.Env} {n:Nat} (h:f r=some (.int (n:Int))) (hn:n<=1000000):((aCons f aNil) r).bind rng1=some ((List.range n).map fun (t:Nat)=>D.int (t:Int)):=by
 have e:(aCons f aNil) r=some [.int (n:Int)]:=by unfold aCons; rw [h]; rfl
 rw [e,Option.bind_some,zbd (by omega) (by omega)]
 unfold upto
 simp
theorem zak {α:Type} {fi:L3.Env->Option (List D)} {own:Nat} {cap:List Nat} {g:D->L3.Env->Option L3.Env} {p:BF} {f:EF} {r:L3.Env} (enc:α->D) (q:α->Bool) (h:α->D) (xs:List α) (hi:fi r=some (xs.map enc)) (hl:xs.length<=16777216)
  (st:∀x∈xs,∃ρ1,g (enc x) (List.replicate own none++capsD r cap)=some ρ1/\p ρ1=some (q x)/\(q x=true->f ρ1=some (h x))):eComp fi own cap g p f r=some (.lst ((xs.filter q).map h)):=by
 unfold eComp
 rw [hi]
 simp only [Option.bind_some,List.length_map]
 rw [if_pos hl,zgg enc q h xs st]
 rfl
theorem zly {n i:Nat} (h:i<n):ixN n (i:Int)=some i:=by
 unfold ixN
 rw [if_pos (by omega),if_pos (by omega)]
 simp
theorem zal {α:Type} {fi:L3.Env->Option (List D)} {own:Nat} {cap:List Nat} {g:D->L3.Env->Option L3.Env} {f:EF} {r:L3.Env} (enc:α->D) (h:α->D) (xs:List α) (hi:fi r=some (xs.map enc)) (hl:xs.length<=16777216)
  (st:∀x∈xs,∃ρ1,g (enc x) (List.replicate own none++capsD r cap)=some ρ1/\f ρ1=some (h x)):eComp fi own cap g bTrue f r=some (.lst (xs.map h)):=by
 have:=zak (p:=bTrue) enc (fun _=>true) h xs hi hl fun x hx=>by
  obtain ⟨ρ1,h1,h2⟩:=st x hx
  exact ⟨ρ1,h1,rfl,fun _=>h2⟩
 rw [this,List.filter_eq_self.mpr fun _ _=>rfl]
theorem zfl {α:Type} (enc:α->D):∀(as:List α) (k:Nat),enumD k (as.map enc)=(as.zipIdx k).map fun (p:α×Nat)=>D.tup [.int (p.2:Int),enc p.1]
 | [],_=>rfl
 | a::as,k=>by
  show _::enumD (k+1) (as.map enc)=_::_
  rw [zfl enc as (k+1)]
theorem zsu {α:Type} {as:List α} {p:α×Nat} (h:p∈as.zipIdx):as[p.2]?=some p.1:=List.mem_zipIdx_iff_getElem?.mp h
theorem zes {α:Type} (q:α->Bool):∀(as:List α) (k:Nat),((as.zipIdx k).filter fun p=>q p.1).map (·.1)=as.filter q
 | [],_=>rfl
 | a::as,k=>by
  rw [List.zipIdx_cons,List.filter_cons,List.filter_cons]
  cases h:q a <;> simp [h,zes q as (k+1)]
inductive Kd where
 | ride | wait | back
deriving DecidableEq
structure Arw where
 c:Kd
 s:Nat
 g:Nat
 t:Int
 b:Nat
deriving DecidableEq
namespace Kahn
def cnt (W:List Arw) (P:List Nat) (g:Nat):Nat:=W.countP fun a=>decide (a.g=g/\a.s∉P)
structure Ok (W:List Arw) (many:Nat) (p:List Nat):Prop where
 nd:p.Nodup
 lt:∀x∈p,x<many
 ord:∀(i x:Nat),p[i]?=some x->∀a∈W,a.g=x->a.s∈p.take i
theorem Ok.snoc {W:List Arw} {many:Nat} {p:List Nat} {x:Nat} (h:Ok W many p) (hx:x∉p) (hl:x<many) (ho:∀a∈W,a.g=x->a.s∈p):Ok W many (p++[x]) where
 nd:=by
  rw [List.nodup_append]
  exact ⟨h.nd,by simp,fun a ha b hb e=>by simp at hb; subst hb; subst e; exact hx ha⟩
 lt:=fun y hy=>by
  rcases List.mem_append.mp hy with hy | hy
  ·exact h.lt y hy
  ·simp at hy; subst hy; exact hl
 ord:=fun i y hy a ha e=>by
  by_cases hi:i<p.length
  ·rw [List.getElem?_append_left hi] at hy
   rw [List.take_append_of_le_length (by omega)]
   exact h.ord i y hy a ha e
  ·rw [List.getElem?_append_right (by omega)] at hy
   have hi':i-p.length=0:=by
    cases hq:i-p.length with
    | zero=>rfl
    | succ k=>rw [hq] at hy; simp at hy
   rw [hi'] at hy
   simp at hy
   subst hy
   have:i=p.length:=by omega
   rw [this,List.take_left']
   ·exact ho a ha e
   ·rfl
def stp (here:Nat) (S:(Nat->Int)×List Nat) (a:Arw):(Nat->Int)×List Nat :=
 if a.s=here then
  let f':Nat->Int:=fun x=>if x=a.g then S.1 a.g-1 else S.1 x
  (f',if f' a.g=0 then S.2++[a.g] else S.2)
 else S
structure In (W:List Arw) (many:Nat) (P:List Nat) (here:Nat) (pre:List Arw) (S:(Nat->Int)×List Nat):Prop where
 ok:Ok W many S.2
 f:∀g,S.1 g=(cnt W P g:Int)-(pre.countP fun a=>decide (a.g=g/\a.s=here):Nat)
 z:∀g,g<many->(g∈S.2↔S.1 g=0)
 sub:∀x,(x∈P\/x=here)->x∈S.2
theorem zsv {W pre post:List Arw} {P:List Nat} {here:Nat} {a:Arw} (e:W=pre++a::post) (hP:here∉P) (ha:a.s=here):(pre.countP fun x=>decide (x.g=a.g/\x.s=here))+1<=cnt W P a.g:=by
 unfold cnt
 rw [e,List.countP_append,List.countP_cons]
 have h1:(pre.countP fun x=>decide (x.g=a.g/\x.s=here))<=pre.countP fun x=>decide (x.g=a.g/\x.s∉P):=by
  apply List.countP_mono_left
  intro x _ hx
  simp at hx ⊢
  exact ⟨hx.1,by rw [hx.2]; exact hP⟩
 have h2:(decide (a.g=a.g/\a.s∉P))=true:=by simp [ha,hP]
 rw [h2]
 simp only [if_true]
 omega
theorem In.step {W pre post:List Arw} {many:Nat} {P:List Nat} {here:Nat} {a:Arw} {S:(Nat->Int)×List Nat} (h:In W many P here pre S) (e:W=pre++a::post) (hP:here∉P) (hl:a.g<many):In W many P here (pre++[a]) (stp here S a):=by
 by_cases ha:a.s=here
 ·have hge:=zsv e hP ha
  have hf:∀g,(if g=a.g then S.1 a.g-1 else S.1 g)=(cnt W P g:Int)-((pre++[a]).countP fun x=>decide (x.g=g/\x.s=here):Nat):=fun g=>by
   rw [List.countP_append,List.countP_singleton]
   by_cases hg:g=a.g
   ·subst hg
    rw [if_pos rfl,h.f]
    have:decide (a.g=a.g/\a.s=here)=true:=by simp [ha]
    rw [this]
    simp only [if_true]
    omega
   ·rw [if_neg hg,h.f]
    have:decide (a.g=g/\a.s=here)=false:=by simp; intro z; exact absurd z.symm hg
    rw [this]
    simp
  have hne:S.1 a.g≠0:=by rw [h.f]; omega
  have hnot:a.g∉S.2:=fun z=>hne ((h.z a.g hl).mp z)
  by_cases h0:S.1 a.g-1=0
  ·have es:stp here S a=(fun x=>if x=a.g then S.1 a.g-1 else S.1 x,S.2++[a.g]):=by unfold stp; simp [ha,h0]
   rw [es]
   refine ⟨h.ok.snoc hnot hl fun b hb eb=>?_,hf,fun g hg=>?_,fun x hx=>List.mem_append_left _ (h.sub x hx)⟩
   ·
    refine h.sub _ (Classical.byContradiction fun hc=>?_)
    have hc1:b.s∉P:=fun z=>hc (.inl z)
    have hc2:b.s≠here:=fun z=>hc (.inr z)
    have h1:cnt W P a.g=(pre.countP fun x=>decide (x.g=a.g/\x.s=here))+1:=by
     have:=h.f a.g
     omega
    have h2:(W.countP fun x=>decide (x.g=a.g/\x.s=here))+(W.countP fun x=>decide (x.g=a.g/\x.s∉P/\x.s≠here))<=cnt W P a.g:=by
     have:cnt W P a.g=(W.countP fun x=>decide (x.g=a.g/\x.s=here))+(W.countP fun x=>decide (x.g=a.g/\x.s∉P/\x.s≠here)):=by
      unfold cnt
      clear h1 hc hc1 hc2 eb hb h0 hf hge e h
      induction W with
      | nil=>rfl
      | cons x W ih =>
       simp only [List.countP_cons]
       rw [ih]
       by_cases q1:x.g=a.g <;> by_cases q2:x.s=here <;> by_cases q3:x.s∈P <;> simp_all <;> omega
     omega
    have h3:(pre.countP fun x=>decide (x.g=a.g/\x.s=here))+1<=W.countP fun x=>decide (x.g=a.g/\x.s=here):=by
     rw [e,List.countP_append,List.countP_cons]
     have:decide (a.g=a.g/\a.s=here)=true:=by simp [ha]
     rw [this]
     simp only [if_true]
     omega
    have h4:0<W.countP fun x=>decide (x.g=a.g/\x.s∉P/\x.s≠here):=by
     rw [List.countP_pos_iff]
     exact ⟨b,hb,by simp [eb,hc1,hc2]⟩
    omega
   ·rw [List.mem_append,List.mem_singleton]
    by_cases hg2:g=a.g
    ·subst hg2; simp [h0]
    ·dsimp only; rw [if_neg hg2,h.z g hg]; simp [hg2]
  ·have es:stp here S a=(fun x=>if x=a.g then S.1 a.g-1 else S.1 x,S.2):=by unfold stp; simp [ha,h0]
   rw [es]
   refine ⟨h.ok,hf,fun g hg=>?_,h.sub⟩
   by_cases hg2:g=a.g
   ·subst hg2
    dsimp only
    rw [if_pos rfl]
    exact ⟨fun z=>absurd z hnot,fun z=>absurd z h0⟩
   ·dsimp only; rw [if_neg hg2]; exact h.z g hg
 ·have:stp here S a=S:=by unfold stp; rw [if_neg ha]
  rw [this]
  refine ⟨h.ok,fun g=>?_,h.z,h.sub⟩
  rw [List.countP_append,List.countP_singleton]
  have:decide (a.g=g/\a.s=here)=false:=by simp [ha]
  rw [this,h.f]
  simp
theorem In.fold {W:List Arw} {many:Nat} {P:List Nat} {here:Nat} (hP:here∉P) (hl:∀a∈W,a.g<many):∀(post pre:List Arw) (S:(Nat->Int)×List Nat),W=pre++post->In W many P here pre S->In W many P here W (post.foldl (stp here) S)
 | [],pre,S,e,h=>by rw [e] ; simpa using (by rw [List.append_nil] at e; subst e; exact h)
 | a::post,pre,S,e,h=>by
  have:=In.fold hP hl post (pre++[a]) (stp here S a) (by rw [e]; simp) (h.step e hP (hl a (by rw [e]; simp)))
  exact this
theorem znq {W:List Arw} {P:List Nat} {here g:Nat} (hP:here∉P):(cnt W P g:Int)-(W.countP fun a=>decide (a.g=g/\a.s=here):Nat)=cnt W (P++[here]) g:=by
 have:cnt W P g=(W.countP fun a=>decide (a.g=g/\a.s=here))+cnt W (P++[here]) g:=by
  unfold cnt
  induction W with
  | nil=>rfl
  | cons x W ih =>
   simp only [List.countP_cons]
   rw [ih]
   by_cases q1:x.g=g <;> by_cases q2:x.s=here <;> by_cases q3:x.s∈P <;> simp_all <;> omega
 omega
structure Wh (W:List Arw) (many:Nat) (f:Nat->Int) (p:List Nat) (d:Nat):Prop where
 ok:Ok W many p
 dl:d<=p.length
 fe:∀g,f g=cnt W (p.take d) g
 z:∀g,g<many->(g∈p↔f g=0)
theorem Wh.step {W:List Arw} {many:Nat} {f:Nat->Int} {p:List Nat} {d here:Nat} (h:Wh W many f p d) (hl:∀a∈W,a.g<many) (hh:p[d]?=some here) :
  Wh W many (W.foldl (stp here) (f,p)).1 (W.foldl (stp here) (f,p)).2 (d+1)/\∃q,(W.foldl (stp here) (f,p)).2=p++q:=by
 have hd:d<p.length:=(List.getElem?_eq_some_iff.mp hh).1
 have hP:here∉p.take d:=fun z=>by
  obtain ⟨i,hi,e⟩:=List.mem_iff_getElem.mp z
  have hi':i<d:=by rw [List.length_take] at hi; omega
  rw [List.getElem_take] at e
  have e2:p[d]=here:=by have:=List.getElem?_eq_some_iff.mp hh; exact this.2
  have:=(List.getElem_inj (xs:=p) (h₀:=by omega) (h₁:=hd) h.ok.nd).mp (e.trans e2.symm)
  omega
 have hext:∀(l:List Arw) (S:(Nat->Int)×List Nat),∃q,(l.foldl (stp here) S).2=S.2++q:=by
  intro l
  induction l with
  | nil=>exact fun S=>⟨[],by simp⟩
  | cons a l ih =>
   intro S
   obtain ⟨q,hq⟩:=ih (stp here S a)
   have:∃r,(stp here S a).2=S.2++r:=by
    by_cases ha:a.s=here
    ·by_cases h0:S.1 a.g-1=0
     ·exact ⟨[a.g],by unfold stp; simp [ha,h0]⟩
     ·exact ⟨[],by unfold stp; simp [ha,h0]⟩
    ·exact ⟨[],by unfold stp; simp [ha]⟩
   obtain ⟨r,hr⟩:=this
   exact ⟨r++q,by rw [List.foldl_cons,hq,hr,List.append_assoc]⟩
 obtain ⟨q,hq⟩:=hext W (f,p)
 have I:=In.fold hP hl W [] (f,p) rfl ⟨h.ok,fun g=>by show f g=_; rw [h.fe]; simp,h.z,fun x hx=>by
  rcases hx with hx | rfl
  ·exact List.mem_of_mem_take hx
  ·exact List.mem_iff_getElem?.mpr ⟨d,hh⟩⟩
 have htake:(W.foldl (stp here) (f,p)).2.take (d+1)=p.take d++[here]:=by
  rw [hq]
  show (p++q).take (d+1)=_
  rw [List.take_append_of_le_length (by omega),List.take_succ,hh]
  rfl
 refine ⟨⟨I.ok,?_,fun g=>?_,I.z⟩,q,hq⟩
 ·rw [hq]
  show d+1<=(p++q).length
  rw [List.length_append]; omega
 ·rw [I.f,htake]
  exact znq hP
theorem cnt_zero {W:List Arw} {P:List Nat} {g:Nat}:cnt W P g=0↔∀a∈W,a.g=g->a.s∈P:=by
 unfold cnt
 rw [List.countP_eq_zero]
 constructor
 ·intro h a ha e
  have:=h a ha
  simp at this
  exact Classical.byContradiction fun z=>z (this e)
 ·intro h a ha
  simp
  exact h a ha
theorem Wh.all {W:List Arw} {many:Nat} {f:Nat->Int} {p:List Nat} (h:Wh W many f p p.length) (rank:Nat->Nat) (hr:∀a∈W,rank a.s<rank a.g) (hs:∀a∈W,a.s<many):∀g,g<many->g∈p:=by
 have:∀n g,rank g<n->g<many->g∈p:=by
  intro n
  induction n with
  | zero=>intro g h; omega
  | succ n ih =>
   intro g hg hl
   rw [h.z g hl,h.fe,List.take_length]
   have:cnt W p g=0:=cnt_zero.mpr fun a ha e=>ih a.s (by have:=hr a ha; rw [e] at this; omega) (hs a ha)
   rw [this]; rfl
 exact fun g hl=>this (rank g+1) g (by omega) hl
theorem len_of {many:Nat} {p:List Nat} (nd:p.Nodup) (lt:∀x∈p,x<many) (all:∀g,g<many->g∈p):p.length=many:=by
 have h1:p.Perm (List.range many):=by
  rw [List.perm_ext_iff_of_nodup nd List.nodup_range]
  intro a
  rw [List.mem_range]
  exact ⟨lt a,all a⟩
 simpa using h1.length_eq
theorem len_le {many:Nat} {p:List Nat} (nd:p.Nodup) (lt:∀x∈p,x<many):p.length<=many:=by
 have h1:(p++(List.range many).filter fun x=>decide (x∉p)).Perm (List.range many):=by
  rw [List.perm_ext_iff_of_nodup (by
   rw [List.nodup_append]
   refine ⟨nd,List.nodup_range.filter _,fun a ha b hb e=>?_⟩
   subst e
   simp at hb
   exact hb.2 ha) List.nodup_range]
  intro a
  rw [List.mem_append,List.mem_filter,List.mem_range]
  constructor
  ·rintro (h | h)
   ·exact lt a h
   ·exact h.1
  ·intro h
   by_cases ha:a∈p
   ·exact .inl ha
   ·exact .inr ⟨h,by simpa using ha⟩
 have:=h1.length_eq
 rw [List.length_append,List.length_range] at this
 omega
end Kahn
def Kd.n:Kd->Nat
 | .ride=>1 | .wait=>2 | .back=>3
def encA (a:Arw):D:=.obj a.c.n ["start","goal","time","behind"] [.int a.s,.int a.g,.int a.t,.int a.b]
theorem fs (a:Arw):fldD [0,1,2,3] "start" (encA a)=some (.int a.s):=by obtain ⟨c,_,_,_,_⟩:=a; cases c <;> rfl
theorem fg (a:Arw):fldD [0,1,2,3] "goal" (encA a)=some (.int a.g):=by obtain ⟨c,_,_,_,_⟩:=a; cases c <;> rfl
theorem ft (a:Arw):fldD [0,1,2,3] "time" (encA a)=some (.int a.t):=by obtain ⟨c,_,_,_,_⟩:=a; cases c <;> rfl
theorem fb (a:Arw):fldD [0,1,2,3] "behind" (encA a)=some (.int a.b):=by obtain ⟨c,_,_,_,_⟩:=a; cases c <;> rfl
structure Right (many:Nat) (a:Arw):Prop where
 s:a.s<many
 g:a.g<many
 t0:0<=a.t
 t1:a.t<=1000000000
 b:a.b<=4
 r:a.c=.ride->a.b=0
 k:a.c=.back->1<=a.b
theorem zbg {n l m:Int} (h1:l<=n) (h2:n<=m):y0 [.int n,.int l,.int m]=some (.bl true):=by
 unfold y0
 have q1 (i:Int):isiD "int" (.int i)=some (.bl true):=rfl
 have q2 (i:Int):isiD "bool" (.int i)=some (.bl false):=rfl
 walk_at "mir"
theorem isA (all sub:List Nat) (a:Arw):isiC all sub (encA a)=if all.contains a.c.n=true then some (.bl (sub.contains a.c.n)) else none:=rfl
theorem zqq {many:Nat} {a:Arw} (h:Right many a):zbe [encA a,.int (many:Int)]=some (.bl true):=by
 have w1:y0 [.int (a.s:Int),.int 0,.int ((many:Int)-1)]=some (.bl true):=zbg (by omega) (by have:=h.s; omega)
 have w2:y0 [.int (a.g:Int),.int 0,.int ((many:Int)-1)]=some (.bl true):=zbg (by omega) (by have:=h.g; omega)
 have w3:y0 [.int a.t,.int 0,.int 1000000000]=some (.bl true):=zbg h.t0 h.t1
 have f1:=fs a
 have f2:=fg a
 have f3:=ft a
 have f4:=fb a
 have hi:=fun all sub=>isA all sub a
 have hb:=h.b
 have hr:=h.r
 have hk:=h.k
 clear h
 unfold zbe
 cases hc:a.c with
 | ride =>
  have w4:y0 [.int (a.b:Int),.int 0,.int 0]=some (.bl true):=zbg (by omega) (by have:=hr hc; omega)
  rw [hc] at hi
  clear hr hk hb
  have hn:Kd.ride.n=1:=rfl
  walk_at "mir"
 | wait =>
  have w4:y0 [.int (a.b:Int),.int 0,.int 4]=some (.bl true):=zbg (by omega) (by omega)
  rw [hc] at hi
  clear hr hk hb
  have hn:Kd.wait.n=2:=rfl
  walk_at "mir"
 | back =>
  have w4:y0 [.int (a.b:Int),.int 1,.int 4]=some (.bl true):=zbg (by have:=hk hc; omega) (by omega)
  rw [hc] at hi
  clear hr hk hb
  have hn:Kd.back.n=3:=rfl
  walk_at "mir"
def W0 (as:List Arw):List Arw:=as.filter fun a=>decide (a.b=0)
theorem zfm (as:List Arw) (l:as.length<=16777216) (r:L3.Env) (h:r[1]?.join=some (.lst (as.map encA))) :
  qx r=some (.lst ((W0 as).map encA)):=by
 have e:lsD (eV 1) r=some (as.map encA):=by unfold lsD; have:eV 1 r=some (.lst (as.map encA)):=h; rw [this]; rfl
 refine zak encA (fun a=>decide (a.b=0)) encA as e l fun a _=>⟨_,rfl,?_,fun _=>rfl⟩
 have:=fb a
 walk_at "mir"
def cst (s:(Nat->Int)×Option D) (a:Arw):(Nat->Int)×Option D:=(fun x=>if x=a.g then s.1 a.g+1 else s.1 x,some (encA a))
theorem ziq:∀(W:List Arw) (s:(Nat->Int)×Option D) (g:Nat),(W.foldl cst s).1 g=s.1 g+(W.countP fun a=>decide (a.g=g):Nat)
 | [],s,g=>by simp
 | a::W,s,g=>by
  rw [List.foldl_cons,ziq W,List.countP_cons]
  by_cases hg:g=a.g
  ·subst hg; simp [cst]; omega
  ·have:decide (a.g=g)=false:=by simp; exact fun z=>hg z.symm
   simp [cst,hg,this]
theorem zir (p:List Nat) (x:Nat):nats p++[D.int (x:Int)]=nats (p++[x]):=by simp [nats]
theorem zqr {many:Nat} {as:List Arw} {f:Nat->Int} {p:List Nat} {here d:Nat} {x4:Option D} (hm:many<=1000) (hW:∀a∈W0 as,a.s<many/\a.g<many) (h:Kahn.Wh (W0 as) many f p d) (hh:p[d]?=some here) :
  ∃x,forD (gV 4) vg ((W0 as).map encA) [some (.int (many:Int)),some (.lst (as.map encA)),some (.lst ((W0 as).map encA)),some (.lst (vec many f)),x4,some (.lst (nats p)),some (.int (d:Int)),some (.int (here:Int))] =
   some (.nx [some (.int (many:Int)),some (.lst (as.map encA)),some (.lst ((W0 as).map encA)),some (.lst (vec many ((W0 as).foldl (Kahn.stp here) (f,p)).1)),x,some (.lst (nats ((W0 as).foldl (Kahn.stp here) (f,p)).2)),some (.int (d:Int)),some (.int (here:Int))]):=by
 have hd:d<p.length:=(List.getElem?_eq_some_iff.mp hh).1
 have hP:here∉p.take d:=fun z=>by
  obtain ⟨i,hi,e⟩:=List.mem_iff_getElem.mp z
  have hi':i<d:=by rw [List.length_take] at hi; omega
  rw [List.getElem_take] at e
  have e2:p[d]=here:=(List.getElem?_eq_some_iff.mp hh).2
  have:=(List.getElem_inj (xs:=p) (h₀:=by omega) (h₁:=hd) h.ok.nd).mp (e.trans e2.symm)
  omega
 obtain ⟨ρ',h1,x,pre,e1,e2⟩:=zif (g:=gV 4) (b:=vg) (ds:=(W0 as).map encA) (ρ:=[some (.int (many:Int)),some (.lst (as.map encA)),some (.lst ((W0 as).map encA)),some (.lst (vec many f)),x4,some (.lst (nats p)),some (.int (d:Int)),some (.int (here:Int))])
  (fun ds ρ=>∃x pre,ds=pre.map encA/\(∃post,W0 as=pre++post)/\Kahn.In (W0 as) many (p.take d) here pre (pre.foldl (Kahn.stp here) (f,p))/\ρ=[some (.int (many:Int)),some (.lst (as.map encA)),some (.lst ((W0 as).map encA)),some (.lst (vec many (pre.foldl (Kahn.stp here) (f,p)).1)),x,some (.lst (nats (pre.foldl (Kahn.stp here) (f,p)).2)),some (.int (d:Int)),some (.int (here:Int))])
  ⟨x4,[],rfl,⟨_,rfl⟩,⟨h.ok,fun g=>by show f g=_; rw [h.fe]; simp,h.z,fun x hx=>by
   rcases hx with hx | rfl
   ·exact List.mem_of_mem_take hx
   ·exact List.mem_iff_getElem?.mpr ⟨d,hh⟩⟩,rfl⟩ (by
  rintro ds dd post ρ e ⟨x,pre,rfl,⟨post',e'⟩,I,rfl⟩
  rw [e',List.map_append] at e
  have e3:=List.append_cancel_left e
  cases post' with
  | nil=>cases e3
  | cons a post' =>
   rw [List.map_cons] at e3
   cases e3
   have ha:a∈W0 as:=by rw [e']; simp
   have hl:=Kahn.len_le I.ok.nd I.ok.lt
   have I2:=I.step e' hP (hW a ha).2
   refine ⟨_,_,rfl,.inl ?_,some (encA a),pre++[a],by simp,⟨post',by rw [e']; simp⟩,by rw [List.foldl_append]; exact I2,rfl⟩
   rw [List.foldl_append]
   generalize pre.foldl (Kahn.stp here) (f,p)=S at hl
   show vg _=some (.nx [_,_,_,some (.lst (vec many (Kahn.stp here S a).1)),_,some (.lst (nats (Kahn.stp here S a).2)),_,_])
   have f1:=fs a
   have f2:=fg a
   have hlen:(nats S.2).length<16777216:=by simp [nats]; omega
   unfold vg
   by_cases hs:a.s=here
   ·have hs':((a.s:Nat):Int)=(here:Int):=by rw [hs]
    have au:=zlx (i:=3) (fj:=e1 (fldD [0,1,2,3] "goal") (eV 4)) (f:=eC (.int 1)) (gi:=fun i j=>i-j) (ρ:=[some (.int (many:Int)),some (.lst (as.map encA)),some (.lst ((W0 as).map encA)),some (.lst (vec many S.1)),some (encA a),some (.lst (nats S.2)),some (.int (d:Int)),some (.int (here:Int))]) (n:=many) (g:=a.g) (w:=S.1) (y:=1) rfl (by walk_at "mir") rfl (hW a ha).2
    have va:ixD (.lst (vec many fun x=>if x=a.g then S.1 a.g-1 else S.1 x)) (.int (a.g:Int))=some (.int (S.1 a.g-1)):=by
     have:=zeq (fun x=>if x=a.g then S.1 a.g-1 else S.1 x) (hW a ha).2
     rw [if_pos rfl] at this
     exact this
    by_cases h0:S.1 a.g-1=0
    ·have es:Kahn.stp here S a=(fun x=>if x=a.g then S.1 a.g-1 else S.1 x,S.2++[a.g]):=by unfold Kahn.stp; simp [hs,h0]
     rw [es,← zir]
     rw [h0] at va
     clear I I2 e' es
     walk_at "mir"
    ·have es:Kahn.stp here S a=(fun x=>if x=a.g then S.1 a.g-1 else S.1 x,S.2):=by unfold Kahn.stp; simp [hs,h0]
     rw [es]
     clear I I2 e' es
     walk_at "mir"
   ·have es:Kahn.stp here S a=S:=by unfold Kahn.stp; rw [if_neg hs]
    rw [es]
    have hs':¬((a.s:Nat):Int)=(here:Int):=by omega
    clear I I2 e' es
    walk_at "mir")
 obtain ⟨⟨post,e2⟩,I,rfl⟩:=e2
 have:pre=W0 as:=by
  have:=congrArg List.length e1
  rw [List.length_map,List.length_map] at this
  rw [e2,List.length_append] at this
  have hp:post=[]:=List.eq_nil_of_length_eq_zero (by omega)
  rw [e2,hp,List.append_nil]
 rw [this] at h1
 exact ⟨x,h1⟩
theorem znr {many:Nat} (as:List Arw) (l:as.length<=1000) (hm:many<=1000) (hs:∀a∈as,a.s<many/\a.g<many) :
  ∃(f:Nat->Int) (p:List Nat),v6 [.int (many:Int),.lst (as.map encA)]=some (.lst (nats p))/\Kahn.Wh (W0 as) many f p p.length:=by
 have hW:∀a∈W0 as,a.s<many/\a.g<many:=fun a ha=>hs a (List.mem_filter.mp ha).1
 obtain ⟨c1,_⟩:=zgd (g:=gV 4) (b:=u6) encA (fun s:(Nat->Int)×Option D=>[some (.int (many:Int)),some (.lst (as.map encA)),some (.lst ((W0 as).map encA)),some (.lst (vec many s.1)),s.2,none,none,none])
  cst (fun _=>True) (W0 as) (fun _=>0,none) trivial (fun s a ha _=>by
   refine ⟨_,rfl,.inl ?_,trivial⟩
   unfold u6
   have f2:=fg a
   rw [zlx (n:=many) (g:=a.g) (w:=s.1) (y:=1) rfl (by walk_at "mir") rfl (hW a ha).2]
   rfl)
 have c2:=ziq (W0 as) (fun _=>0,none)
 generalize hS0:(W0 as).foldl cst (fun _=>0,none)=S0 at c1 c2
 obtain ⟨f0,y4⟩:=S0
 dsimp only at c1 c2
 have hp0:∀r:L3.Env,r[0]?.join=some (.int (many:Int))->r[3]?.join=some (.lst (vec many f0))->qw r=some (.lst (nats ((List.range many).filter fun g=>decide (f0 g=0)))):=by
  intro r h0 h3
  refine zak (fun (t:Nat)=>D.int (t:Int)) (fun g=>decide (f0 g=0)) (fun (t:Nat)=>D.int (t:Int)) (List.range many) (zer h0 (by omega)) (by rw [List.length_range]; omega) ?_
  ·intro g hg
   refine ⟨_,rfl,?_,fun _=>rfl⟩
   have hg:g<many:=List.mem_range.mp hg
   have hv:ixD (.lst (vec many f0)) (.int (g:Int))=some (.int (f0 g)):=zeq f0 hg
   have hc:capsD r [3]=[some (.lst (vec many f0))]:=by unfold capsD; simp [h3]
   rw [hc]
   walk_at "mir"
 generalize hq:((List.range many).filter fun g=>decide (f0 g=0))=p0 at hp0
 have w0:Kahn.Wh (W0 as) many f0 p0 0:=by
  have hf:∀g,f0 g=Kahn.cnt (W0 as) [] g:=fun g=>by
   rw [c2 g]
   unfold Kahn.cnt
   simp
  refine ⟨⟨by rw [← hq]; exact List.nodup_range.filter _,fun x hx=>by rw [← hq,List.mem_filter,List.mem_range] at hx; exact hx.1,fun i x hx a ha e=>?_⟩,by omega,hf,fun g hg=>by rw [← hq,List.mem_filter,List.mem_range]; simp [hg]⟩
  have hx':x∈p0:=List.mem_iff_getElem?.mpr ⟨i,hx⟩
  rw [← hq,List.mem_filter] at hx'
  have h0:f0 x=0:=by simpa using hx'.2
  rw [hf] at h0
  have:=Kahn.cnt_zero.mp (by exact_mod_cast h0) a ha e
  cases this
 obtain ⟨ρ',h1,⟨f,p,d,x4,x7,rfl,wh⟩,h3⟩:=zci (c:=tb (e2 ltD (eV 6) (eN lenD (aCons (eV 5) aNil)))) (b:=u5)
  (fun ρ=>∃f p d x4 x7,ρ=[some (.int (many:Int)),some (.lst (as.map encA)),some (.lst ((W0 as).map encA)),some (.lst (vec many f)),x4,some (.lst (nats p)),some (.int ((d:Nat):Int)),x7]/\Kahn.Wh (W0 as) many f p d)
  (fun ρ:L3.Env=>match ρ[6]? with | some (some (D.int i))=>(1001-i).toNat | _=>0) (by
   rintro ρ ⟨f,p,d,x4,x7,rfl,wh⟩
   have hl:(nats p).length=p.length:=by simp [nats]
   refine ⟨decide ((d:Int)<(p.length:Int)),by walk_at "mir",fun ht=>?_⟩
   have hd:d<p.length:=by simpa using ht
   have hh:p[d]?=some p[d]:=by simp [hd]
   obtain ⟨x,hin⟩:=zqr (x4:=x4) hm hW wh hh
   obtain ⟨wh2,q,_⟩:=wh.step (fun a ha=>(hW a ha).2) hh
   have hle:=Kahn.len_le wh2.ok.nd wh2.ok.lt
   have hdl:=wh2.dl
   refine ⟨_,.inl ?_,⟨_,_,d+1,x,some (.int (p[d]:Int)),rfl,wh2⟩,?_⟩
   ·have hix:ixD (.lst (nats p)) (.int (d:Int))=some (.int (p[d]:Int)):=ui (by simp [nats,hd])
    have hau:i2 (fun i j=>D.int (i+j)) (.int (d:Int)) (.int 1)=some (.int ((d+1:Nat):Int)):=by simp [i2]
    unfold u5 sAug
    clear wh wh2 hle hdl
    walk_at "mir"
   ·show (1001-((d+1:Nat):Int)).toNat<(1001-(d:Int)).toNat
    omega) FUEL [some (.int (many:Int)),some (.lst (as.map encA)),some (.lst ((W0 as).map encA)),some (.lst (vec many f0)),y4,some (.lst (nats p0)),some (.int ((0:Nat):Int)),none] ⟨f0,p0,0,y4,none,rfl,w0⟩ (by
   show (1001-((0:Nat):Int)).toNat<FUEL
   have:(1001:Nat)<FUEL:=zhg (by decide)
   omega)
 have hd:d=p.length:=by
  have hl:(nats p).length=p.length:=by simp [nats]
  have h4:(tb (e2 ltD (eV 6) (eN lenD (aCons (eV 5) aNil)))) [some (.int (many:Int)),some (.lst (as.map encA)),some (.lst ((W0 as).map encA)),some (.lst (vec many f)),x4,some (.lst (nats p)),some (.int (d:Int)),x7]=some (decide ((d:Int)<(p.length:Int))):=by walk_at "mir"
  rw [h4] at h3
  have:=wh.dl
  simp at h3
  omega
 subst hd
 refine ⟨f,p,?_,wh⟩
 have r1:=zfm as (by omega)
 have rp:repD (.lst [.int 0]) (.int (many:Int))=some (.lst (vec many fun _=>0)):=by
  unfold repD
  dsimp only
  rw [if_pos ⟨by omega,by omega,by simp⟩]
  congr 2
  unfold vec
  rw [List.map_const',List.length_range]
  simp
 rw [show (((0:Nat):Int))=0 from rfl] at h1
 unfold v6 sWhile
 clear hs hW c2 hS0 hq w0 wh h3 l hm
 walk_at "mir"
def netD (ns:List D) (as:List Arw):D:=.obj 4 ["names","arrows"] [.lst ns,.lst (as.map encA)]
structure NetOk (many:Nat) (as:List Arw):Prop where
 pos:1<=many
 le:many<=40
 len:as.length<=120
 right:∀a∈as,Right many a
 rank:∃rank:Nat->Nat,∀a∈as,a.b=0->rank a.s<rank a.g
theorem NetOk.placed {many:Nat} {as:List Arw} (h:NetOk many as):∃p:List Nat,v6 [.int (many:Int),.lst (as.map encA)]=some (.lst (nats p))/\Kahn.Ok (W0 as) many p/\p.length=many/\∀g,g<many->g∈p:=by
 obtain ⟨f,p,h1,h2⟩:=znr (many:=many) as (by have:=h.len; omega) (by have:=h.le; omega) (fun a ha=>⟨(h.right a ha).s,(h.right a ha).g⟩)
 obtain ⟨rank,hr⟩:=h.rank
 have all:=h2.all rank (fun a ha=>by
  have:=List.mem_filter.mp ha
  exact hr a this.1 (by simpa using this.2)) (fun a ha=>(h.right a (List.mem_filter.mp ha).1).s)
 exact ⟨p,h1,h2.ok,Kahn.len_of h2.ok.nd h2.ok.lt all,all⟩
theorem ztr {many:Nat} {as:List Arw} {ns:List D} (h:NetOk many as) (hn:ns.length=many) (hnm:zag [.lst ns]=some (.bl true)):qj 4 [.lst ns,.lst (as.map encA)]=some (netD ns as):=by
 obtain ⟨p,hp,_,hl,_⟩:=h.placed
 have hlen:=h.len
 obtain ⟨ρ',h1,x3,x4,rfl⟩:=zif (g:=gT (gsCons (gV 3) (gsCons (gV 4) gsNil))) (b:=ql) (ds:=enumD 0 (as.map encA)) (ρ:=[some (.obj 4 [] []),some (.lst ns),some (.lst (as.map encA)),none,none,none])
  (fun _ ρ=>∃x3 x4,ρ=[some (.obj 4 [] []),some (.lst ns),some (.lst (as.map encA)),x3,x4,none]) ⟨none,none,rfl⟩ (by
   rintro pre d post ρ e ⟨x3,x4,rfl⟩
   obtain ⟨x,hx,rfl⟩:=zdi (zsl e)
   rw [List.getElem?_map] at hx
   obtain ⟨a,ha,rfl⟩:=Option.map_eq_some_iff.mp hx
   have hr:=zqq (h.right a (List.mem_iff_getElem?.mpr ⟨_,ha⟩))
   refine ⟨_,_,rfl,.inl ?_,some (.int (0+pre.length:Nat)),some (encA a),rfl⟩
   unfold ql
   rw [← hn] at hr
   clear hp hl hn hlen h
   walk_at "mir")
 have hz:(nats p).length=many:=by simp [nats,hl]
 have hgt:¬((as.length:Int) > 120):=by omega
 rw [← hn] at hp hz
 have l1:∀ds:List D,listD [.lst ds]=some (.lst ds):=fun _=>rfl
 have s1:sFldD [4] "names" (eN listD (aCons (eV 1) aNil)) [some (D.obj 4 [] []),some (.lst ns),some (.lst (as.map encA)),x3,x4,some (.lst (nats p))]=some (.nx [some (D.obj 4 ["names"] [.lst ns]),some (.lst ns),some (.lst (as.map encA)),x3,x4,some (.lst (nats p))]):=rfl
 have s2:sFldD [4] "arrows" (eN listD (aCons (eV 2) aNil)) [some (D.obj 4 ["names"] [.lst ns]),some (.lst ns),some (.lst (as.map encA)),x3,x4,some (.lst (nats p))]=some (.nx [some (netD ns as),some (.lst ns),some (.lst (as.map encA)),x3,x4,some (.lst (nats p))]):=rfl
 clear h hlen hl hn
 unfold qj iOf
 walk_at "mir"
theorem zou (ns:List Int) (i:Int) (hi:0<=i):∃c,vm [.lst (ns.map .int),.int i]=some (.int c):=by
 obtain ⟨k,rfl⟩:∃k:Nat,i=k:=⟨i.toNat,by omega⟩
 unfold vm
 by_cases h:k<ns.length
 ·refine ⟨ns[k],?_⟩
  have:ixD (.lst (ns.map .int)) (.int (k:Int))=some (.int ns[k]):=zqc D.int (.inl rfl) (by simp [h])
  walk_at "mir"
 ·refine ⟨0,?_⟩
  walk_at "mir"
def isRow (c:Int):Bool:=decide (1237940039285380274899124224<=c) && decide (c % 2=1)
theorem zht (c:Int):uo [.int c]=some (.bl (isRow c)):=by
 unfold uo isRow
 by_cases h1:(1237940039285380274899124224:Int)<=c <;> by_cases h2:c % 2=1 <;> walk_at "mir"
theorem zco (c:Int) {k:Int} (h0:0<=k) (h1:k<=1000000):∃r:Nat,yw [.int c,.int k]=some (.int (r:Int))/\r<2147483648:=by
 have m0:mulI (.int 31) (.int k)=some (.int (31 * k)):=zct (by decide) (by decide)
 have s0:shrD (.int c) (.int (1+31 * k))=some (.int (c / 2 ^ (1+31 * k).toNat)):=zig (by omega)
 have r0:=zht c
 have fin:∀z:Int,∀m:Int,0<m->m<=2147483648->∃r:Nat,(some (D.int (z % m)):Option D)=some (.int (r:Int))/\r<2147483648:=fun z m hm hm2=>by
  have a1:=Int.emod_nonneg z (by omega:m≠0)
  have a2:=Int.emod_lt_of_pos z hm
  exact ⟨(z % m).toNat,by rw [Int.toNat_of_nonneg a1],by omega⟩
 generalize hn:(c+7919 * k+1) * 48271 % 2147483647=n1
 have b1:0<=n1/\n1<2147483647:=by omega
 have m1:mulI (.int 7919) (.int k)=some (.int (7919 * k)):=zct (by decide) (by decide)
 have m2:mulI (.int (c+7919 * k+1)) (.int 48271)=some (.int ((c+7919 * k+1) * 48271)):=zcs (by decide) (by decide)
 have m3:mulI (.int n1) (.int (n1 / 1009+69621))=some (.int (n1 * (n1 / 1009+69621))):=zct (by omega) (by omega)
 generalize hn2:n1 * (n1 / 1009+69621) % 2147483647=n2
 have b2:0<=n2/\n2<2147483647:=by omega
 have m4:mulI (.int n2) (.int (n2 / 2003+39373+k))=some (.int (n2 * (n2 / 2003+39373+k))):=zct (by omega) (by omega)
 unfold yw
 by_cases hr:isRow c=true
 ·by_cases hs:c / 2 ^ (1+31 * k).toNat > 0
  ·obtain ⟨r,e1,e2⟩:=fin (c / 2 ^ (1+31 * k).toNat) 2147483648 (by decide) (by decide)
   refine ⟨r,?_,e2⟩
   rw [← e1]
   generalize c / 2 ^ (1+31 * k).toNat=q at s0 hs
   clear e1 e2 fin hn hn2 b1 b2 h0 h1
   walk_at "mir"
  ·obtain ⟨r,e1,e2⟩:=fin (n2 * (n2 / 2003+39373+k)) 2147483629 (by decide) (by decide)
   refine ⟨r,?_,e2⟩
   rw [← e1]
   generalize c / 2 ^ (1+31 * k).toNat=q at s0 hs
   clear e1 e2 fin b1 b2 h0 h1
   walk_at "mir"
 ·obtain ⟨r,e1,e2⟩:=fin (n2 * (n2 / 2003+39373+k)) 2147483629 (by decide) (by decide)
  refine ⟨r,?_,e2⟩
  rw [← e1]
  clear e1 e2 fin b1 b2 h0 h1 s0
  walk_at "mir"
theorem zis (g:Nat):∀O:List Nat,g∈O->∃j:Nat,(nats O).findIdx? (fun y=>eqS y (.int (g:Int)))=some j
 | [],h=>by cases h
 | x::O,h=>by
  have hc:nats (x::O)=.int (x:Int)::nats O:=rfl
  rw [hc,List.findIdx?_cons]
  by_cases hx:x=g
  ·refine ⟨0,?_⟩
   have:eqS (.int (x:Int)) (.int (g:Int))=true:=by simp [eqS,hx]
   rw [this]; rfl
  ·have:eqS (.int (x:Int)) (.int (g:Int))=false:=by simp [eqS]; omega
   rw [this]
   obtain ⟨j,hj⟩:=zis g O (by
    rcases List.mem_cons.mp h with e | e
    ·exact absurd e.symm hx
    ·exact e)
   exact ⟨j+1,by rw [hj]; rfl⟩
theorem zqs (O:List Nat):(nats O).all D.sc=true:=by
 rw [List.all_eq_true]
 intro d hd
 obtain ⟨t,_,rfl⟩:=List.mem_map.mp hd
 rfl
def ixO (O:List Nat) (g:Nat):Nat:=((nats O).findIdx? (fun y=>eqS y (.int (g:Int)))).getD 0
theorem zns {g:Nat} {O:List Nat} (h:g∈O):idxD (.lst (nats O)) (.int (g:Int))=some (.int (ixO O g:Int)):=by
 obtain ⟨j,hj⟩:=zis g O h
 unfold idxD ixO
 dsimp only
 rw [if_pos ⟨rfl,zqs O⟩,hj]
 rfl
def mixN (c k:Int):Nat:=match yw [.int c,.int k] with
 | some (.int r)=>r.toNat
 | _=>0
theorem zhu (c:Int) {k:Int} (h0:0<=k) (h1:k<=1000000):yw [.int c,.int k]=some (.int (mixN c k:Int))/\mixN c k<2147483648:=by
 obtain ⟨r,h,hr⟩:=zco c h0 h1
 unfold mixN
 rw [h]
 simpa using hr
def drw (turn:Int) (many:Nat):Nat->List Nat×List Nat
 | 0=>([],List.range many)
 | k+1 =>
  let S:=drw turn many k
  let i:=mixN turn (k:Int) % S.2.length
  (S.1++[S.2.getD i 0],S.2.eraseIdx i)
theorem zet {α:Type}:∀(l:List α) (i:Nat) (h:i<l.length),(l[i]::l.eraseIdx i).Perm l
 | [],_,h=>by simp at h
 | x::l,0,_=>by simp
 | x::l,i+1,h=>by
  have ih:=zet l i (by simpa using h)
  simp only [List.getElem_cons_succ,List.eraseIdx_cons_succ]
  exact (List.Perm.swap x _ _).trans (ih.cons x)
theorem zlz (turn:Int) (many:Nat):∀k,k<=many->(drw turn many k).2.length=many-k/\((drw turn many k).1++(drw turn many k).2).Perm (List.range many)
 | 0,_=>by simp [drw]
 | k+1,h=>by
  obtain ⟨h1,h2⟩:=zlz turn many k (by omega)
  unfold drw
  dsimp only
  generalize drw turn many k=S at h1 h2
  have hi:mixN turn (k:Int) % S.2.length<S.2.length:=Nat.mod_lt _ (by omega)
  generalize mixN turn (k:Int) % S.2.length=i at hi
  refine ⟨by rw [List.length_eraseIdx_of_lt hi]; omega,?_⟩
  have e:=zet S.2 i hi
  have hg:S.2.getD i 0=S.2[i]:=by simp [hi]
  rw [hg,List.append_assoc]
  exact (List.Perm.append_left S.1 e).trans h2
theorem zeu:∀(L:List Nat) (i:Nat),(nats L).eraseIdx i=nats (L.eraseIdx i)
 | [],_=>rfl
 | _::_,0=>rfl
 | x::L,i+1=>by
  have ih:=zeu L i
  show D.int (x:Int)::(nats L).eraseIdx i=D.int (x:Int)::nats (L.eraseIdx i)
  rw [ih]
theorem znt (turn:Int) {many:Nat} (h2:many<=1000) (g:Nat):∃x5:Option D,forD (gV 5) jh (upto 0 many) [some (.int turn),some (.int (many:Int)),some (.int (g:Int)),some (.lst []),some (.lst (upto 0 many)),none] =
  some (.nx [some (.int turn),some (.int (many:Int)),some (.int (g:Int)),some (.lst (nats (drw turn many many).1)),some (.lst (nats (drw turn many many).2)),x5]):=by
 have hu:upto 0 many=nats (List.range many):=by simp [upto,nats]
 obtain ⟨ρ',h1,x5,rfl⟩:=zbc (g:=gV 5) (b:=jh) (lo:=0) (n:=many) (ρ:=[some (.int turn),some (.int (many:Int)),some (.int (g:Int)),some (.lst []),some (.lst (upto 0 many)),none])
  (fun k ρ=>∃x5,ρ=[some (.int turn),some (.int (many:Int)),some (.int (g:Int)),some (.lst (nats (drw turn many k).1)),some (.lst (nats (drw turn many k).2)),x5]) ⟨none,by rw [hu]; rfl⟩ (by
   rintro k ρ hk ⟨x5,rfl⟩
   obtain ⟨o1,o2⟩:=zlz turn many k (by omega)
   have o3:=o2.length_eq
   rw [List.length_append,List.length_range] at o3
   obtain ⟨mx,mb⟩:=zhu turn (k:=0+(k:Int)) (by omega) (by omega)
   refine ⟨_,_,rfl,.inl ?_,some (.int (0+(k:Int))),rfl⟩
   have e0:(0:Int)+(k:Int)=(k:Int):=by omega
   rw [e0] at mx ⊢
   show jh [some (.int turn),some (.int (many:Int)),some (.int (g:Int)),some (.lst (nats (drw turn many k).1)),some (.lst (nats (drw turn many k).2)),some (.int (k:Int))]=some (.nx [some (.int turn),some (.int (many:Int)),some (.int (g:Int)),some (.lst (nats ((drw turn many k).1++[(drw turn many k).2.getD (mixN turn (k:Int) % (drw turn many k).2.length) 0]))),some (.lst (nats ((drw turn many k).2.eraseIdx (mixN turn (k:Int) % (drw turn many k).2.length)))),some (.int (k:Int))])
   generalize drw turn many k=S at o1 o3
   have hi:mixN turn (k:Int) % S.2.length<S.2.length:=Nat.mod_lt _ (by omega)
   have md:modD (.int (mixN turn (k:Int):Int)) (.int ((nats S.2).length:Int))=some (.int ((mixN turn (k:Int) % S.2.length:Nat):Int)):=by
    rw [u8 (by simp [nats]; omega)]
    simp [nats]
   generalize mixN turn (k:Int) % S.2.length=i at hi md
   have hg:S.2.getD i 0=S.2[i]:=by simp [hi]
   have l1:(nats S.1).length<16777216:=by simp [nats]; omega
   have l2:(nats S.2).length<=16777216:=by simp [nats]; omega
   have ix:ixN (nats S.2).length (i:Int)=some i:=zly (by simp [nats]; exact hi)
   have gt:(nats S.2)[i]?=some (.int (S.2[i]:Int)):=by simp [nats,hi]
   have ev:eN lenD (aCons (eV 4) aNil) [some (.int turn),some (.int (many:Int)),some (.int (g:Int)),some (.lst (nats S.1)),some (.lst (nats S.2)),some (.int (k:Int))]=some (.int ((nats S.2).length:Int)):=rfl
   have em:(aCons (eV 0) (aCons (eV 5) aNil) [some (.int turn),some (.int (many:Int)),some (.int (g:Int)),some (.lst (nats S.1)),some (.lst (nats S.2)),some (.int (k:Int))]).bind (fun ds=>yw (ds++[]))=some (.int (mixN turn (k:Int):Int)):=mx
   have ee:e2 modD (fun ρ=>((aCons (eV 0) (aCons (eV 5) aNil)) ρ).bind fun ds=>yw (ds++[])) (eN lenD (aCons (eV 4) aNil)) [some (.int turn),some (.int (many:Int)),some (.int (g:Int)),some (.lst (nats S.1)),some (.lst (nats S.2)),some (.int (k:Int))]=some (.int (i:Int)):=by
    unfold e2
    dsimp only
    rw [em,ev]
    exact md
   unfold jh sAppPop
   rw [ee]
   show (if (nats S.1).length<16777216/\(nats S.2).length<=16777216 then _ else _)=_
   rw [if_pos ⟨l1,l2⟩,ix]
   show ((nats S.2)[i]?).bind _=_
   rw [gt,hg,← zir,← zeu]
   rfl)
 exact ⟨x5,h1⟩
theorem zsw (turn:Int) {many:Nat} (h1:1<=many) (h2:many<=1000):∃rk:Nat->Nat,∀g,g<many->u7 [.int turn,.int (many:Int),.int (g:Int)]=some (.int (rk g:Int)):=by
 have hr:=zht turn
 cases hrow:isRow turn with
 | false =>
  refine ⟨fun g=>(((g:Int)+turn) % (many:Int)).toNat,fun g hg=>?_⟩
  have a1:=Int.emod_nonneg ((g:Int)+turn) (by omega:(many:Int)≠0)
  have a2:modD (.int ((g:Int)+turn)) (.int (many:Int))=some (.int (((g:Int)+turn) % (many:Int))):=u8 (by omega)
  rw [Int.toNat_of_nonneg a1]
  unfold u7
  clear a1
  walk_at "mir"
 | true =>
  obtain ⟨o1,o2⟩:=zlz turn many many (Nat.le_refl _)
  rw [Nat.sub_self] at o1
  have o3:(drw turn many many).2=[]:=List.eq_nil_of_length_eq_zero o1
  rw [o3,List.append_nil] at o2
  refine ⟨ixO (drw turn many many).1,fun g hg=>?_⟩
  obtain ⟨x5,lp⟩:=znt turn h2 g
  have ix:=zns (g:=g) (O:=(drw turn many many).1) (o2.mem_iff.mpr (List.mem_range.mpr hg))
  have lr:lrngD [.int (many:Int)]=some (.lst (upto 0 many)):=by
   unfold lrngD
   dsimp only
   rw [if_pos ⟨by omega,by omega⟩]
   simp
  have r1:rng1 [.int (many:Int)]=some (upto 0 many):=by
   rw [zbd (by omega) (by omega)]
   simp
  unfold u7
  generalize drw turn many many=S at lp ix
  clear o1 o2 o3
  walk_at "mir"
def encT (a:Arw):D:=.tup [.int a.s,.int a.g,.int a.t,.int a.b]
theorem zgw (c many turn n s g b:Int):∃t:Int,0<=t/\t<=1000000000/\jr [some (.int c),some (.int many),some (.int turn),some (.int n),some (.int s),some (.int g),some (.int b),none]=some (.rt (.tup [.int s,.int g,.int t,.int b])):=by
 obtain ⟨m2,_⟩:=zhu c (k:=30) (by decide) (by decide)
 generalize mixN c 30=u at m2
 have row:=zht c
 unfold jr
 by_cases hr:isRow c=true
 ·refine ⟨(u:Int) % 1000000001,by omega,by omega,?_⟩
  by_cases h3:c % 3=2 <;> walk_at "mir"
 ·by_cases h3:c % 3=2
  ·refine ⟨c / 3 % 1000000001,by omega,by omega,?_⟩
   walk_at "mir"
  ·refine ⟨n / 1000 % 10,by omega,by omega,?_⟩
   walk_at "mir"
theorem zqt (c turn:Int) {many:Nat} (h1:1<=many) (h2:many<=1000) (rk:Nat->Nat) (hrk:∀g,g<many->u7 [.int turn,.int (many:Int),.int (g:Int)]=some (.int (rk g:Int))) :
  ∃a:Arw,vb [.int c,.int (many:Int),.int turn]=some (encT a)/\a.s<many/\a.g<many/\0<=a.t/\a.t<=1000000000/\a.b<=4/\(a.b=0->rk a.s<rk a.g):=by
 obtain ⟨m1,_⟩:=zhu c (k:=1) (by decide) (by decide)
 generalize mixN c 1=n at m1
 have hs:n % many<many:=Nat.mod_lt _ (by omega)
 have hg:n / 8 % many<many:=Nat.mod_lt _ (by omega)
 have e1:modD (.int (n:Int)) (.int (many:Int))=some (.int ((n % many:Nat):Int)):=by rw [u8 (by omega)]; simp
 have e2:modD (.int ((n:Int) / 8)) (.int (many:Int))=some (.int ((n / 8 % many:Nat):Int)):=by rw [u8 (by omega)]; simp
 have k1:=hrk _ hs
 have k2:=hrk _ hg
 generalize n % many=s0 at *
 generalize n / 8 % many=g0 at *
 have fin:∀b:Nat,b<=4->(b=0->rk s0<rk g0)->(∀t:Int,jr [some (.int c),some (.int (many:Int)),some (.int turn),some (.int (n:Int)),some (.int (s0:Int)),some (.int (g0:Int)),some (.int (b:Int)),none]=some (.rt (.tup [.int s0,.int g0,.int t,.int b]))->vb [.int c,.int (many:Int),.int turn]=some (.tup [.int s0,.int g0,.int t,.int b])) ->
   ∃a:Arw,vb [.int c,.int (many:Int),.int turn]=some (encT a)/\a.s<many/\a.g<many/\0<=a.t/\a.t<=1000000000/\a.b<=4/\(a.b=0->rk a.s<rk a.g):=by
  intro b hb hb0 h
  obtain ⟨t,t0,t1,ht⟩:=zgw c many turn n s0 g0 b
  exact ⟨⟨.wait,s0,g0,t,b⟩,h t ht,hs,hg,t0,t1,hb,hb0⟩
 have eb:((n:Int) / 64) % 5=((n / 64 % 5:Nat):Int):=by omega
 have eb2:(1:Int)+(n:Int) / 320 % 2=((1+n / 320 % 2:Nat):Int):=by omega
 by_cases q:n / 64 % 5=0
 ·have q':((n:Int) / 64) % 5=0:=by omega
  by_cases q2:rk g0<=rk s0
  ·have q2':((rk g0:Nat):Int)<=(rk s0:Int):=by omega
   refine fin (1+n / 320 % 2) (by omega) (by omega) fun t ht=>?_
   rw [← eb2] at ht ⊢
   unfold vb
   clear eb eb2 q hs hg q2 hrk fin
   walk_at "mir"
  ·have q2':¬((rk g0:Nat):Int)<=(rk s0:Int):=by omega
   refine fin 0 (by omega) (by omega) fun t ht=>?_
   rw [show ((0:Nat):Int)=0 from rfl] at ht ⊢
   unfold vb
   clear eb eb2 q hs hg q2 hrk fin
   walk_at "mir"
 ·have q':¬((n:Int) / 64) % 5=0:=by omega
  refine fin (n / 64 % 5) (by omega) (by omega) fun t ht=>?_
  rw [← eb] at ht ⊢
  unfold vb
  clear eb eb2 q hs hg hrk fin
  walk_at "mir"
def kdOf (b:Nat) (kind:Int):Kd:=if b=0/\kind % 2=0 then .ride else if 0<b/\kind % 2=0 then .back else .wait
def mkA (a:Arw) (kind:Int):Arw:={ a with c:=kdOf a.b kind }
theorem zsx (s g t:Int):zad 1 [.int s,.int g,.int t]=some (.obj 1 ["start","goal","time","behind"] [.int s,.int g,.int t,.int 0]):=rfl
theorem zsy (s g t b:Int):zae 2 [.int s,.int g,.int t,.int b]=some (.obj 2 ["start","goal","time","behind"] [.int s,.int g,.int t,.int b]):=rfl
theorem zsz (s g t b:Int):zaf 3 [.int s,.int g,.int t,.int b]=some (.obj 3 ["start","goal","time","behind"] [.int s,.int g,.int t,.int b]):=rfl
theorem zs0 (a:Arw) (kind:Int):zbf [encT a,.int kind]=some (encA (mkA a kind)):=by
 obtain ⟨c,s,g,t,b⟩:=a
 have r1:=zsx
 have r2:=zsy
 have r3:=zsz
 unfold zbf encT mkA encA
 dsimp only
 by_cases hb:b=0
 ·by_cases hk:kind % 2=0
  ·subst hb
   have:kdOf 0 kind=.ride:=by unfold kdOf; rw [if_pos ⟨rfl,hk⟩]
   rw [this]
   have e:(((0:Nat)):Int)=0:=rfl
   have hn:Kd.ride.n=1:=rfl
   walk_at "mir"
  ·have:kdOf b kind=.wait:=by unfold kdOf; rw [if_neg (fun z=>hk z.2),if_neg (fun z=>hk z.2)]
   rw [this]
   have hn:Kd.wait.n=2:=rfl
   have hb':(b:Int)=0:=by omega
   walk_at "mir"
 ·have hb':¬(b:Int)=0:=by omega
  have hb2:0<b:=by omega
  by_cases hk:kind % 2=0
  ·have:kdOf b kind=.back:=by unfold kdOf; rw [if_neg (fun z=>hb z.1),if_pos ⟨by omega,hk⟩]
   rw [this]
   have hn:Kd.back.n=3:=rfl
   clear hb'
   walk_at "mir"
  ·have:kdOf b kind=.wait:=by unfold kdOf; rw [if_neg (fun z=>hk z.2),if_neg (fun z=>hk z.2)]
   rw [this]
   have hn:Kd.wait.n=2:=rfl
   clear hb'
   walk_at "mir"
def nm (n:Nat):List D:=(List.range n).map fun (k:Nat)=>D.str ("a"++itx (k:Int))
def isT:Option D->Bool
 | some (.bl true)=>true
 | _=>false
theorem zs1 {x:Option D} (h:isT x=true):x=some (.bl true):=by
 unfold isT at h
 split at h
 ·rfl
 ·cases h
theorem zqu {n:Nat} (h1:1<=n) (h2:n<=8):zag [.lst (nm n)]=some (.bl true):=by
 have:n=1\/n=2\/n=3\/n=4\/n=5\/n=6\/n=7\/n=8:=by omega
 rcases this with rfl | rfl | rfl | rfl | rfl | rfl | rfl | rfl <;> exact zs1 (by decide +kernel)
structure Drawn (many:Nat) (rk:Nat->Nat) (a:Arw):Prop where
 s:a.s<many
 g:a.g<many
 t0:0<=a.t
 t1:a.t<=1000000000
 b:a.b<=4
 r:a.b=0->rk a.s<rk a.g
theorem Drawn.right {many:Nat} {rk:Nat->Nat} {a:Arw} (h:Drawn many rk a) (kind:Int):Right many (mkA a kind):=by
 refine ⟨h.s,h.g,h.t0,h.t1,h.b,fun z=>?_,fun z=>?_⟩
 ·change kdOf a.b kind=.ride at z
  unfold kdOf at z
  split at z
  ·next q=>exact q.1
  ·split at z <;> cases z
 ·change kdOf a.b kind=.back at z
  unfold kdOf at z
  split at z
  ·cases z
  ·split at z
   ·next q=>exact q.1
   ·cases z
theorem zs2 {many:Nat} {rk:Nat->Nat} {as:List Arw} (k:Arw->Int) (h1:1<=many) (h2:many<=8) (h3:as.length<=120) (h:∀a∈as,Drawn many rk a):NetOk many (as.map fun a=>mkA a (k a)):=by
 refine ⟨h1,by omega,by rw [List.length_map]; exact h3,fun b hb=>?_,rk,fun b hb hb0=>?_⟩
 ·obtain ⟨a,ha,rfl⟩:=List.mem_map.mp hb
  exact (h a ha).right _
 ·obtain ⟨a,ha,rfl⟩:=List.mem_map.mp hb
  exact (h a ha).r hb0
theorem zgx {κ:Type} (h:κ×D->D):∀(ks:List κ) (ds:List D),ks.zip ((ks.zip ds).map h)=(ks.zip ds).map fun p=>(p.1,h p)
 | [],_=>rfl
 | _::_,[]=>rfl
 | k::ks,d::ds=>by
  show (k,h (k,d))::ks.zip ((ks.zip ds).map h)=(k,h (k,d))::(ks.zip ds).map _
  rw [zgx h ks ds]
theorem znu {κ:Type} [DecidableEq κ] {ks:List κ} {ds:List D} (hl:ks.length=ds.length) (k k':κ) (d:D):getK (putK' ks ds k d).1 (putK' ks ds k d).2 k'=if k'=k then some d else getK ks ds k':=by
 unfold putK'
 by_cases hc:ks.contains k=true
 ·rw [if_pos hc]
  unfold getK
  dsimp only
  rw [zgx,List.find?_map]
  by_cases hk:k'=k
  ·subst hk
   rw [if_pos rfl]
   have hm:k'∈ks:=by simpa using hc
   have:∃p∈ks.zip ds,p.1=k':=by
    obtain ⟨i,hi,e⟩:=List.mem_iff_getElem.mp hm
    refine ⟨(ks[i],ds[i]),?_,e⟩
    rw [List.mem_iff_getElem]
    exact ⟨i,by rw [List.length_zip]; omega,by simp⟩
   obtain ⟨p,hp,he⟩:=this
   cases hf:(ks.zip ds).find? ((fun p:κ×D=>decide (p.1=k')) ∘ fun p:κ×D=>(p.1,if p.1=k' then d else p.2)) with
   | none =>
    rw [List.find?_eq_none] at hf
    have:=hf p hp
    simp [he] at this
   | some q =>
    have hq:=List.find?_some hf
    simp at hq
    simp [hq]
  ·rw [if_neg hk]
   have:((fun p:κ×D=>decide (p.1=k')) ∘ fun p:κ×D=>(p.1,if p.1=k then d else p.2))=fun p:κ×D=>decide (p.1=k'):=rfl
   rw [this]
   cases hf:(ks.zip ds).find? fun p=>decide (p.1=k') with
   | none=>rfl
   | some q =>
    have hq:=List.find?_some hf
    simp at hq
    have hne:¬q.1=k:=fun z=>hk (hq ▸ z)
    simp [hne]
 ·rw [if_neg hc]
  unfold getK
  dsimp only
  have hz:(ks++[k]).zip (ds++[d])=ks.zip ds++[(k,d)]:=by
   rw [List.zip_append hl]; rfl
  rw [hz,List.find?_append]
  by_cases hk:k'=k
  ·subst hk
   rw [if_pos rfl]
   have hn:(ks.zip ds).find? (fun p=>decide (p.1=k'))=none:=by
    rw [List.find?_eq_none]
    intro p hp
    have hm:=(List.of_mem_zip (a:=p.1) (b:=p.2) hp).1
    have hm2:¬k'∈ks:=by simpa using hc
    simp
    intro z
    exact hm2 (z ▸ hm)
   rw [hn]
   simp
  ·rw [if_neg hk]
   have:¬k=k':=fun z=>hk z.symm
   cases hf:(ks.zip ds).find? (fun p=>decide (p.1=k')) <;> simp [this]
theorem zl0 {κ:Type} [DecidableEq κ] {ks:List κ} {ds:List D} (hl:ks.length=ds.length) (k:κ) (d:D):(putK' ks ds k d).1.length=(putK' ks ds k d).2.length/\(putK' ks ds k d).1.length<=ks.length+1:=by
 unfold putK'
 by_cases hc:ks.contains k=true
 ·rw [if_pos hc]; simp; omega
 ·rw [if_neg hc]; simp [hl]
theorem znv (ns:List D) (as:List Arw):fldD [4] "names" (netD ns as)=some (.lst ns):=rfl
theorem zdv (ns:List D) (as:List Arw):fldD [4] "arrows" (netD ns as)=some (.lst (as.map encA)):=rfl
def quad (a:Arw):Int×Int×Int×Int:=(a.s,a.g,a.t,a.b)
theorem zqv (neg:Bool) (as:List Arw):eqD neg (.lst (as.map encT)) (.lst [])=some (.bl (if neg then !decide (as=[]) else decide (as=[]))):=by
 have:=(El (E4 Ei Ei Ei Ei)).eq (by decide) (neg:=neg) (as.map quad) []
 have e1:(El (E4 Ei Ei Ei Ei)).enc (as.map quad)=.lst (as.map encT):=by show D.lst _=_; rw [List.map_map]; rfl
 rw [e1] at this
 rw [show D.lst []=(El (E4 Ei Ei Ei Ei)).enc [] from rfl,this]
 cases as <;> rfl
theorem znw {ns:List Int} {r:L3.Env} (i a b:Nat) (h:r[i]?.join=some (.lst (ns.map .int))):lsD (fun ρ=>((eV i) ρ).bind fun d=>((pInt (eC (.int a))) ρ).bind fun l=>((pInt (eC (.int b))) ρ).bind fun h=>sliceD d l h) r=some (((ns.drop a).take (b-a)).map .int):=by
 have e:eV i r=some (.lst (ns.map .int)):=h
 unfold lsD
 show (((eV i) r).bind _).bind _=_
 rw [e]
 show some (cutD (ns.map .int) (some (a:Int)) (some (b:Int)))=_
 rw [zih,List.map_take,List.map_drop]
theorem drawn (turn:Int) {many:Nat} (h1:1<=many) (h2:many<=1000):∃(mk:Int->Arw) (rk:Nat->Nat),(∀c,vb [.int c,.int (many:Int),.int turn]=some (encT (mk c)))/\∀c,Drawn many rk (mk c):=by
 obtain ⟨rk,hrk⟩:=zsw turn h1 h2
 have:=fun c=>zqt c turn h1 h2 rk hrk
 refine ⟨fun c=>Classical.choose (this c),rk,fun c=>(Classical.choose_spec (this c)).1,fun c=>?_⟩
 obtain ⟨_,a,b,c,d,e,f⟩:=Classical.choose_spec (this c)
 exact ⟨a,b,c,d,e,f⟩
theorem zqw (g:Nat) (hg:g<=1000000):strD [.int (g:Int)]=some (.str (itx (g:Int)))/\addD (.str "a") (.str (itx (g:Int)))=some (.str ("a"++itx (g:Int))):=by
 have h:Sz 1900 (g:Int):=by
  show (g:Int).natAbs<2 ^ 1900
  have:(2:Nat) ^ 20<=2 ^ 1900:=Nat.pow_le_pow_right (by decide) (by decide)
  omega
 have h2:=zqg h
 have h3:("a":Str).length=1:=by decide
 exact ⟨znb h,zm2 (by omega)⟩
def fr (q:Int×Int):D:=.tup [.int q.1,.int q.2]
theorem fr0 (q:Int×Int):ixD (fr q) (.int 0)=some (.int q.1):=rfl
theorem fr1 (q:Int×Int):ixD (fr q) (.int 1)=some (.int q.2):=rfl
def Fz (n:Nat) (q:Int×Int):Prop:=Sz n q.1/\Sz n q.2
theorem Fz.mono {n m:Nat} {q:Int×Int} (h:Fz n q) (hm:n<=m):Fz m q:=⟨h.1.mono hm,h.2.mono hm⟩
theorem eqF {neg:Bool} (p q:Int×Int):eqD neg (fr p) (fr q)=some (.bl (if neg then !decide (p=q) else decide (p=q))):=(E2 Ei Ei).eq (by decide) p q
theorem zam {n:Nat} {i w:Int} (h1:-w<=i) (h2:i<=w) (hw:w<2 ^ n):Sz n i:=by
 unfold Sz
 have:(i.natAbs:Int)<2 ^ n:=by omega
 exact_mod_cast this
theorem t_cd {x y:Int} (hy:Sz 8000 y):uh [.int x,.int y]=some (.int ((Int.gcd x y:Nat):Int)):=by
 obtain ⟨s',h1,h2,h3,r,h5⟩:=zbq (c:=tb (e2 (eqD true) (eV 1) (eC (D.int 0)))) (b:=uv) (fun s:Int×Int×Option D=>[some (.int s.1),some (.int s.2.1),s.2.2]) (fun s=>!decide (s.2.1=0)) (fun s=>(s.2.1,s.1.fmod s.2.1,some (.int (s.1.fmod s.2.1)))) (fun s=>s.2.1.natAbs) (fun s=>Int.gcd s.1 s.2.1=Int.gcd x y)
  (fun s hp=>by walk_at "mir") (fun s hp ht=>by
   have hs:s.2.1≠0:=by simpa using ht
   refine ⟨.inl ?_,(Fq.gcd_step s.1 s.2.1).trans hp,Fq.fmod_less s.1 hs⟩
   unfold uv
   have:=zk4 (i:=s.1) hs
   walk_at "mir") FUEL (x,y,none) rfl (zhf hy (by decide))
 have h3:s'.2.1=0:=by simpa using h3
 have h4:=Fq.gcd_end s'.1
 rw [h3] at h2
 rw [h2] at h4
 clear h5
 unfold uh sWhile
 walk_at "mir"
theorem zhv {t b:Int} (hb:b≠0) (hz:Sz 8000 b):zcn [.int t,.int b]=some (fr (Fq.mk t b)):=by
 have e:=t_cd (x:=t) hz
 have hg:=Fq.gcd_pos (t:=t) (b:=b) hb
 have hd:Fq.dv t b≠0:=by unfold Fq.dv; split <;> omega
 have hz2:Sz 9000 (Fq.dv t b):=(hz.le (Fq.dv_le hb)).mono (by decide)
 have e1:=zc2 (i:=t) hd hz2
 have e2:=zc2 (i:=b) hd hz2
 unfold zcn fr Fq.mk
 by_cases hn:b<0
 ·have hd:Fq.dv t b = -((Int.gcd t b:Nat):Int):=by unfold Fq.dv; rw [if_pos hn]
  rw [hd] at e1 e2 ⊢
  walk_at "mir"
 ·have hd:Fq.dv t b=((Int.gcd t b:Nat):Int):=by unfold Fq.dv; rw [if_neg hn]
  rw [hd] at e1 e2 ⊢
  walk_at "mir"
theorem zl1 {n:Nat} {t b:Int} (hb:b≠0) (ht:Sz n t) (hz:Sz n b):Fz n (Fq.mk t b):=⟨ht.le (Fq.mk_le_one hb),hz.le (Fq.mk_le_two hb)⟩
def Wlk (S G:Nat->Nat):Nat->List Nat->Nat->Prop
 | a,[],b=>a=b
 | a,n::l,b=>S n=a/\Wlk S G (G n) l b
theorem Wlk.app {S G:Nat->Nat} {b c:Nat} {m:List Nat} (h2:Wlk S G b m c):∀{a:Nat} {l:List Nat},Wlk S G a l b->Wlk S G a (l++m) c
 | a,[],h=>by
  have h:a=b:=h
  rw [h]; exact h2
 | a,n::l,h=>⟨h.1,Wlk.app h2 h.2⟩
section
variable {ts:List Nat} {S G:Nat->Nat} {going:Nat} {re:List Nat} {ch:Nat->Option Nat} {done:Nat}
end
theorem zfn {step:List Int->Int->List Int} (hs:∀l x,step l x=if l.any (· == x) then l else l++[x]):∀(xs acc:List Int),(xs.foldl step acc).length<=acc.length+xs.length/\(acc.Nodup->((xs.foldl step acc).length=acc.length+xs.length↔(acc++xs).Nodup))
 | [],acc=>by simp
 | x::xs,acc=>by
  rw [List.foldl_cons,hs]
  by_cases h:acc.any (· == x)=true
  ·rw [if_pos h]
   obtain ⟨h1,h2⟩:=zfn hs xs acc
   refine ⟨by rw [List.length_cons]; omega,fun nd=>?_⟩
   rw [List.length_cons]
   constructor
   ·intro e; omega
   ·intro e
    exfalso
    obtain ⟨y,hy,hxy⟩:=List.any_eq_true.mp h
    have hxy:y=x:=by simpa using hxy
    rw [hxy] at hy
    exact (List.nodup_append.mp e).2.2 x hy x List.mem_cons_self rfl
  ·rw [if_neg h]
   obtain ⟨h1,h2⟩:=zfn hs xs (acc++[x])
   rw [List.length_append,List.length_singleton] at h1 h2
   have hx:x∉acc:=fun hm=>h (List.any_eq_true.mpr ⟨x,hm,by simp⟩)
   refine ⟨by rw [List.length_cons]; omega,fun nd=>?_⟩
   have nd2:(acc++[x]).Nodup:=List.nodup_append.mpr ⟨nd,by simp,fun a ha b hb e=>hx (by rw [← List.mem_singleton.mp hb,← e]; exact ha)⟩
   have:=h2 nd2
   rw [List.append_assoc,List.singleton_append] at this
   rw [List.length_cons]
   constructor
   ·intro e; exact this.mp (by omega)
   ·intro e; have:=this.mpr e; omega
def rot {α:Type} (l:List α):List α:=l.drop (l.length-1)++l.take (l.length-1)
theorem zl2 {α:Type} (l:List α) {j:Nat} (hj:j<l.length):(rot l)[j]?=l[if j=0 then l.length-1 else j-1]?:=by
 unfold rot
 by_cases h0:j=0
 ·subst h0
  rw [List.getElem?_append_left (by rw [List.length_drop]; omega),List.getElem?_drop,if_pos rfl]
  congr 1
 ·rw [if_neg h0,List.getElem?_append_right (by rw [List.length_drop]; omega),List.length_drop,List.getElem?_take]
  rw [if_pos (by omega)]
  congr 1
  omega
theorem zc4 {α:Type} (l:List α):(rot l).Perm l:=by
 unfold rot
 refine List.perm_append_comm.trans ?_
 rw [List.take_append_drop]
theorem zqx {α:Type} (l:List α):(rot l).length=l.length:=(zc4 l).length_eq
def prv (n j:Nat):Nat:=if j=0 then n-1 else j-1
def CndR (S G:Int->Nat) (n:Nat) (is:List Int) (j:Nat):Prop:=(0<=is.getD j 0/\is.getD j 0<(n:Int))/\(0<=is.getD (prv is.length j) 0/\is.getD (prv is.length j) 0<(n:Int))/\S (is.getD j 0)=G (is.getD (prv is.length j) 0)/\∀i,i<j->S (is.getD i 0)≠S (is.getD j 0)
def RngR (S G:Int->Nat) (n:Nat) (is:List Int):Prop:=is≠[]/\(∀i∈is,0<=i/\i<(n:Int))/\is.map S=rot (is.map G)/\(is.map G).Nodup
theorem wz {is:List Int} {j:Nat} (h:j<is.length):is[j]?=some (is.getD j 0):=by
 rw [List.getD_eq_getElem?_getD,List.getElem?_eq_getElem h]; rfl
theorem zhw {S G:Int->Nat} {n:Nat} {is:List Int}:RngR S G n is↔is≠[]/\∀j,j<is.length->CndR S G n is j:=by
 constructor
 ·rintro ⟨h1,h2,h3,h4⟩
  refine ⟨h1,fun j hj=>?_⟩
  have hp:prv is.length j<is.length:=by unfold prv; split <;> omega
  have m1:=h2 _ (List.mem_iff_getElem?.mpr ⟨j,wz hj⟩)
  have m2:=h2 _ (List.mem_iff_getElem?.mpr ⟨_,wz hp⟩)
  have hs:(is.map S)[j]?=(rot (is.map G))[j]?:=by rw [h3]
  rw [zl2 _ (by rw [List.length_map]; exact hj),List.length_map,List.getElem?_map,List.getElem?_map,wz hj] at hs
  have hs2:some (S (is.getD j 0))=(is[prv is.length j]?).map G:=hs
  rw [wz hp] at hs2
  refine ⟨m1,m2,Option.some.inj hs2,fun i hi e=>?_⟩
  have nd:(is.map S).Nodup:=by rw [h3]; exact (zc4 _).nodup_iff.mpr h4
  have:=(List.pairwise_iff_getElem.mp nd) i j (by rw [List.length_map]; omega) (by rw [List.length_map]; omega) hi
  rw [List.getElem_map,List.getElem_map] at this
  have e1:is[i]=is.getD i 0:=by have:=wz (is:=is) (j:=i) (by omega); rw [List.getElem?_eq_getElem (by omega)] at this; exact Option.some.inj this
  have e2:is[j]=is.getD j 0:=by have:=wz hj; rw [List.getElem?_eq_getElem hj] at this; exact Option.some.inj this
  rw [e1,e2] at this
  exact this e
 ·rintro ⟨h1,h2⟩
  have hst:is.map S=rot (is.map G):=by
   apply List.ext_getElem?
   intro j
   by_cases hj:j<is.length
   ·have hp:prv is.length j<is.length:=by unfold prv; split <;> omega
    rw [zl2 _ (by rw [List.length_map]; exact hj),List.length_map,List.getElem?_map,List.getElem?_map,wz hj]
    show some (S (is.getD j 0))=(is[prv is.length j]?).map G
    rw [wz hp,(h2 j hj).2.2.1]
    rfl
   ·rw [List.getElem?_eq_none (by rw [List.length_map]; omega),List.getElem?_eq_none (by rw [zqx,List.length_map]; omega)]
  refine ⟨h1,fun i hi=>?_,hst,?_⟩
  ·obtain ⟨j,hj⟩:=List.mem_iff_getElem?.mp hi
   have hl:=(List.getElem?_eq_some_iff.mp hj).1
   have:=wz hl
   rw [hj] at this
   rw [Option.some.inj this]
   exact (h2 j hl).1
  ·have nd:(is.map S).Nodup:=List.pairwise_iff_getElem.mpr fun i j hi hj hij=>by
    rw [List.length_map] at hi hj
    rw [List.getElem_map,List.getElem_map]
    have e1:is[i]=is.getD i 0:=by have:=wz hi; rw [List.getElem?_eq_getElem hi] at this; exact Option.some.inj this
    have e2:is[j]=is.getD j 0:=by have:=wz hj; rw [List.getElem?_eq_getElem hj] at this; exact Option.some.inj this
    rw [e1,e2]
    exact (h2 j hj).2.2.2 i hij
   rw [hst] at nd
   exact (zc4 _).nodup_iff.mp nd
theorem zgy {g:D->L3.Env->Option L3.Env} {b:SF} {n:Nat} (I:Nat->L3.Env->Prop) (R:D->Prop) (st:∀i ρ,i<n->I i ρ->∃ρ1,g (.int (i:Int)) ρ=some ρ1/\((∃ρ2,b ρ1=some (.nx ρ2)/\I (i+1) ρ2)\/∃w,b ρ1=some (.rt w)/\R w)) :
  ∀(m k:Nat) (ρ:L3.Env),k+m=n->I k ρ->(∃ρ',forD g b ((List.range' k m).map fun (i:Nat)=>D.int (i:Int)) ρ=some (.nx ρ')/\I n ρ')\/∃w,forD g b ((List.range' k m).map fun (i:Nat)=>D.int (i:Int)) ρ=some (.rt w)/\R w
 | 0,k,ρ,hk,hI=>by
  have:k=n:=by omega
  subst this
  exact .inl ⟨ρ,rfl,hI⟩
 | m+1,k,ρ,hk,hI=>by
  obtain ⟨ρ1,h1,h2⟩:=st k ρ (by omega) hI
  have unf:forD g b ((List.range' k (m+1)).map fun (i:Nat)=>D.int (i:Int)) ρ=(g (.int (k:Int)) ρ).bind fun ρ1=>(b ρ1).bind fun o=>match o with
    | .nx ρ'=>forD g b ((List.range' (k+1) m).map fun (i:Nat)=>D.int (i:Int)) ρ'
    | .ct ρ'=>forD g b ((List.range' (k+1) m).map fun (i:Nat)=>D.int (i:Int)) ρ'
    | .bk ρ'=>some (.nx ρ')
    | .rt d=>some (.rt d):=rfl
  rw [unf,h1,Option.bind_some]
  rcases h2 with ⟨ρ2,h2,h3⟩ | ⟨w,h2,h3⟩
  ·rw [h2]
   exact zgy I R st m (k+1) ρ2 (by omega) h3
  ·rw [h2]
   exact .inr ⟨w,rfl,h3⟩
def aN (as:List Arw) (n:Nat):Arw:=(as[n]?).getD ⟨.wait,0,0,0,0⟩
theorem zgz {as:List Arw} {n:Nat} (h:n<as.length):as[n]?=some (aN as n):=by
 unfold aN
 rw [List.getElem?_eq_getElem h]
 rfl
def sI (as:List Arw) (i:Int):Nat:=(aN as i.toNat).s
def gI (as:List Arw) (i:Int):Nat:=(aN as i.toNat).g
theorem zov {as:List Arw} {i:Int} (h0:0<=i) (h1:i<(as.length:Int)):ixD (.lst (as.map encA)) (.int i)=some (encA (aN as i.toNat)):=by
 obtain ⟨n,rfl⟩:∃n:Nat,i=(n:Int):=⟨i.toNat,by omega⟩
 rw [Int.toNat_natCast]
 exact ui (by rw [List.getElem?_map,zgz (by omega)]; rfl)
theorem zit {ns:List D} {as:List Arw} {is:List Int} {fld:Str} {f:Arw->Int} {q:EF} (hq:q=eComp (lsD (eV 1)) 1 [0] (gV 0) bTrue (e1 (fldD [0,1,2,3] fld) (e2 ixD (e1 (fldD [4] "arrows") (eV 1)) (eV 0)))) (hf:∀a,fldD [0,1,2,3] fld (encA a)=some (.int (f a))) (hl:is.length<=1000) (hr:∀i∈is,0<=i/\i<(as.length:Int)) (r:L3.Env) (h0:r[0]?.join=some (netD ns as)) (h1:r[1]?.join=some (.lst (is.map .int))) :
  q r=some (.lst ((is.map fun i=>f (aN as i.toNat)).map .int)):=by
 rw [hq,List.map_map]
 refine zal D.int (fun i=>D.int (f (aN as i.toNat))) is (by unfold lsD; have:eV 1 r=_:=h1; rw [this]; rfl) (by omega) fun i hi=>⟨_,rfl,?_⟩
 have hcap:capsD r [0]=[some (netD ns as)]:=by unfold capsD; simp [h0]
 rw [hcap]
 have i1:=zov (hr i hi).1 (hr i hi).2
 have f1:=hf (aN as i.toNat)
 have f4:=zdv ns as
 generalize f (aN as i.toNat)=v at *
 generalize encA (aN as i.toNat)=ea at *
 generalize as.map encA=al at *
 generalize netD ns as=net at *
 clear hcap h0 h1 hr hi hl hf hq
 walk_at "mir"
theorem zs3 (gs:List Int):(dst gs).length=gs.length↔gs.Nodup:=by
 have e:(List.range gs.length).map (fun i=>gs.getD i 0)=gs:=by
  apply List.ext_getElem?
  intro i
  rw [List.getElem?_map]
  by_cases hi:i<gs.length
  ·rw [List.getElem?_range hi,wz hi]; rfl
  ·rw [List.getElem?_eq_none (by rw [List.length_range]; omega),List.getElem?_eq_none (by omega)]; rfl
 have:=(zfn (step:=PyProof.Rows.step_dedup) (fun _ _=>rfl) gs []).2 (by simp)
 rw [List.nil_append,List.length_nil,Nat.zero_add] at this
 show ((((List.range gs.length).map fun i=>gs.getD i 0).foldl PyProof.Rows.step_dedup []).length=gs.length)↔_
 rw [e]
 exact this
theorem zl3 (xs:List D):cutD xs (some (-1)) none=xs.drop (xs.length-1):=by
 unfold cutD
 rw [HT.sIx_none]
 have:HT.sIx xs.length 0 (some (-1))=xs.length-1:=by
  show (if (-1:Int)<0 then (-1+(xs.length:Int)).toNat else min (-1:Int).toNat xs.length)=_
  rw [if_pos (by decide)]
  omega
 rw [this,List.take_of_length_le (by rw [List.length_drop]; omega)]
theorem zdw (xs:List D):cutD xs none (some (-1))=xs.take (xs.length-1):=by
 unfold cutD
 rw [HT.sIx_none]
 have:HT.sIx xs.length xs.length (some (-1))=xs.length-1:=by
  show (if (-1:Int)<0 then (-1+(xs.length:Int)).toNat else min (-1:Int).toNat xs.length)=_
  rw [if_pos (by decide)]
  omega
 rw [this,List.drop_zero,Nat.sub_zero]
theorem znx (a b:List Int):eqD false (.lst (a.map .int)) (.lst (b.map .int))=some (.bl (decide (a=b))):=by
 have:=(El Ei).eq (by decide) (neg:=false) a b
 rw [if_neg (by decide)] at this
 exact this
theorem zqy {is:List Int} (h:is≠[]):∃mn mx:Int,minD [.lst (is.map .int)]=some (.int mn)/\maxD [.lst (is.map .int)]=some (.int mx)/\(mn∈is/\∀z∈is,mn<=z)/\(mx∈is/\∀z∈is,z<=mx):=by
 cases is with
 | nil=>exact absurd rfl h
 | cons x xs =>
  refine ⟨_,_,?_,?_,zij (ns:=x::xs) rfl,zii (ns:=x::xs) rfl⟩
  ·show (intsD ((x::xs).map .int)).bind _=_
   rw [zay]
   rfl
  ·show (intsD ((x::xs).map .int)).bind _=_
   rw [zay]
   rfl
theorem zl4 {ns:List D} {as:List Arw} {is:List Int} (hl:is.length<=1000) (hal:as.length<=1000):∃b:Bool,j5 [netD ns as,.lst (is.map .int)]=some (.bl b)/\(b=true↔RngR (sI as) (gI as) as.length is):=by
 have ln:lenD [.lst (is.map .int)]=some (.int (is.length:Int)):=(vk _).trans (by rw [List.length_map])
 have la:lenD [.lst (as.map encA)]=some (.int (as.length:Int)):=(vk _).trans (by rw [List.length_map])
 have f4:=zdv ns as
 by_cases h0:is=[]
 ·refine ⟨false,?_,by simp [RngR,h0]⟩
  subst h0
  have ln:lenD [.lst []]=some (.int 0):=rfl
  rw [List.map_nil]
  generalize netD ns as=net at *
  unfold j5
  clear hl hal la f4
  walk_at "mir"
 ·have hlp:¬(is.length:Int)=0:=by
   have:=List.length_pos_iff.mpr h0
   omega
  obtain ⟨mn,mx,e1,e2',⟨a1,a2⟩,⟨b1,b2⟩⟩:=zqy h0
  by_cases h1:mn<0
  ·refine ⟨false,?_,?_⟩
   ·generalize netD ns as=net at *
    generalize is.map D.int=il at *
    unfold j5
    clear hl hal la f4 e2' a1 a2 b1 b2 hlp
    walk_at "mir"
   ·constructor
    ·intro z; cases z
    ·intro z; have:=(z.2.1 mn a1).1; omega
  ·by_cases h2:mx >= (as.length:Int)
   ·refine ⟨false,?_,?_⟩
    ·generalize netD ns as=net at *
     generalize is.map D.int=il at *
     generalize as.map encA=al at *
     unfold j5
     clear hl hal a1 a2 b1 b2 hlp
     walk_at "mir"
    ·constructor
     ·intro z; cases z
     ·intro z; have:=(z.2.1 mx b1).2; omega
   ·have hr:∀i∈is,0<=i/\i<(as.length:Int):=fun i hi=>⟨by have:=a2 i hi; omega,by have:=b2 i hi; omega⟩
    have q1:=fun r=>zit (ns:=ns) (as:=as) (is:=is) (fld:="start") (f:=fun a=>(a.s:Int)) (q:=zds) rfl fs hl hr r
    have q2:=fun r=>zit (ns:=ns) (as:=as) (is:=is) (fld:="goal") (f:=fun a=>(a.g:Int)) (q:=zdr) rfl fg hl hr r
    have es:(is.map fun i=>((aN as i.toNat).s:Int))=(is.map (sI as)).map fun (x:Nat)=>(x:Int):=by rw [List.map_map]; rfl
    have eg:(is.map fun i=>((aN as i.toNat).g:Int))=(is.map (gI as)).map fun (x:Nat)=>(x:Int):=by rw [List.map_map]; rfl
    generalize hS:(is.map fun i=>((aN as i.toNat).s:Int))=ss at *
    generalize hG:(is.map fun i=>((aN as i.toNat).g:Int))=gs at *
    have hgl:gs.length=is.length:=by rw [← hG,List.length_map]
    refine ⟨decide (ss=rot gs) && decide ((dst gs).length=gs.length),?_,?_⟩
    ·have k1:=q1 [some (netD ns as),some (.lst (is.map .int)),none,none] rfl rfl
     have k2:=q2 [some (netD ns as),some (.lst (is.map .int)),some (.lst (ss.map .int)),none] rfl rfl
     have c1:cutD (gs.map .int) (some (-1)) none=(gs.drop (gs.length-1)).map .int:=by rw [zl3,List.length_map,List.map_drop]
     have c2:cutD (gs.map .int) none (some (-1))=(gs.take (gs.length-1)).map .int:=by rw [zdw,List.length_map,List.map_take]
     have ad:addD (.lst ((gs.drop (gs.length-1)).map .int)) (.lst ((gs.take (gs.length-1)).map .int))=some (.lst ((rot gs).map .int)):=by
      rw [vw (by rw [List.length_map,List.length_map,List.length_drop,List.length_take]; omega),← List.map_append]
      rfl
     have q:=znx ss (rot gs)
     have ls:lenSetD (.lst (gs.map .int))=some (.int ((dst gs).length:Int)):=by
      show (intsD (gs.map .int)).bind _=_
      rw [zay]
      show (if gs.length<4000 then _ else _)=_
      rw [if_pos (by omega)]
     have lg:lenD [.lst (gs.map .int)]=some (.int (gs.length:Int)):=(vk _).trans (by rw [List.length_map])
     have qq:eqD false (.int ((dst gs).length:Int)) (.int (gs.length:Int))=some (.bl (decide ((dst gs).length=gs.length))):=(zcj _ _).trans (by rw [if_neg (by decide),show decide (((dst gs).length:Int)=(gs.length:Int))=decide ((dst gs).length=gs.length) from decide_eq_decide.mpr (by omega)])
     generalize decide ((dst gs).length=gs.length)=bb2 at *
     generalize decide (ss=rot gs)=bb1 at *
     generalize ((dst gs).length:Int)=dl at *
     generalize (gs.length:Int)=gl at *
     generalize (gs.drop (gs.length-1)).map D.int=l1 at *
     generalize (gs.take (gs.length-1)).map D.int=l2 at *
     generalize (rot gs).map D.int=l3 at *
     generalize gs.map D.int=gd at *
     generalize ss.map D.int=sd at *
     generalize is.map D.int=il at *
     generalize as.map encA=al at *
     generalize netD ns as=net at *
     unfold j5
     clear hl hal a1 a2 b1 b2 q1 q2 hgl hr es eg hS hG hlp
     cases bb1
     ·walk_at "mir"
     ·walk_at "mir"
    ·rw [Bool.and_eq_true,decide_eq_true_iff,decide_eq_true_iff,zs3]
     unfold RngR
     have inj:∀a b:List Nat,(a.map fun (x:Nat)=>(x:Int))=b.map (fun (x:Nat)=>(x:Int))↔a=b:=fun a b=>List.map_inj_right (fun x y h=>by omega)
     have rm:rot ((is.map (gI as)).map fun (x:Nat)=>(x:Int))=(rot (is.map (gI as))).map fun (x:Nat)=>(x:Int):=by
      unfold rot
      rw [List.length_map (f:=fun (x:Nat)=>(x:Int)),List.map_append,List.map_drop,List.map_take]
     rw [es,eg,rm,inj]
     have nd:((is.map (gI as)).map fun (x:Nat)=>(x:Int)).Nodup↔(is.map (gI as)).Nodup:=by
      constructor
      ·intro h; exact (List.pairwise_map.mp h).imp fun h e=>h (by rw [e])
      ·intro h; exact List.pairwise_map.mpr (h.imp fun h e=>h (by omega))
     rw [nd]
     exact ⟨fun z=>⟨h0,hr,z.1,z.2⟩,fun z=>⟨z.2.2.1,z.2.2.2⟩⟩
theorem ziu (xs:List Int):sumD [.lst (xs.map .int)]=some (.int xs.sum):=by
 show (intsD (xs.map .int)).bind _=_
 rw [zay]
 rfl
def tI (as:List Arw) (i:Int):Int:=(aN as i.toNat).t
def bI (as:List Arw) (i:Int):Int:=((aN as i.toNat).b:Int)
theorem zl5 {f:Int->Int} {m:Int} (hm:0<=m):∀is:List Int,(∀i∈is,0<=f i/\f i<=m)->0<=(is.map f).sum/\(is.map f).sum<=m * (is.length:Int)
 | [],_=>by simp
 | i::is,h=>by
  obtain ⟨h1,h2⟩:=zl5 hm is fun j hj=>h j (List.mem_cons_of_mem _ hj)
  obtain ⟨h3,h4⟩:=h i List.mem_cons_self
  rw [List.map_cons,List.sum_cons,List.length_cons]
  refine ⟨by omega,?_⟩
  rw [show ((is.length+1:Nat):Int)=(is.length:Int)+1 by omega,Int.mul_add,Int.mul_one]
  omega
theorem zs4 {ns:List D} {as:List Arw} {is:List Int} (hl:is.length<=1000) (hb:∀a∈as,a.b<=4) (hr:∀i∈is,0<=i/\i<(as.length:Int)) (h0:(is.map (bI as)).sum≠0):zio [netD ns as,.lst (is.map .int)]=some (fr (Fq.mk (is.map (tI as)).sum (is.map (bI as)).sum)):=by
 have k1:=zit (ns:=ns) (as:=as) (is:=is) (fld:="time") (f:=fun a=>a.t) (q:=zfi) rfl ft hl hr [some (netD ns as),some (.lst (is.map .int)),none,none] rfl rfl
 have k2:=zit (ns:=ns) (as:=as) (is:=is) (fld:="behind") (f:=fun a=>(a.b:Int)) (q:=zfh) rfl fb hl hr [some (netD ns as),some (.lst (is.map .int)),some (.int (is.map (tI as)).sum),none] rfl rfl
 have s1:=ziu (is.map (tI as))
 have s2:=ziu (is.map (bI as))
 have bd:=zl5 (f:=bI as) (m:=4) (by decide) is fun i hi=>by
  have:=hb (aN as i.toNat) (List.mem_iff_getElem?.mpr ⟨i.toNat,zgz (by have:=hr i hi; omega)⟩)
  unfold bI
  omega
 have ra:=zhv (t:=(is.map (tI as)).sum) h0 (zam (w:=4000) (by omega) (by omega) (by decide))
 replace k1:zfi _=some (.lst ((is.map (tI as)).map .int)):=k1
 replace k2:zfh _=some (.lst ((is.map (bI as)).map .int)):=k2
 generalize fr (Fq.mk (is.map (tI as)).sum (is.map (bI as)).sum)=F at *
 generalize (is.map (tI as)).map D.int=tl at *
 generalize (is.map (bI as)).map D.int=bl at *
 generalize (is.map (tI as)).sum=T at *
 generalize (is.map (bI as)).sum=Bh at *
 generalize netD ns as=net at *
 generalize is.map D.int=il at *
 unfold zio
 clear bd hl hb hr h0
 walk_at "mir"
theorem ziv {as:List Arw} {is:List Int} {rank:Nat->Nat} (hrk:∀a∈as,a.b=0->rank a.s<rank a.g) (h:RngR (sI as) (gI as) as.length is):1<=(is.map (bI as)).sum:=by
 obtain ⟨h1,h2,h3,h4⟩:=h
 have hm:∀i∈is,aN as i.toNat∈as:=fun i hi=>List.mem_iff_getElem?.mpr ⟨i.toNat,zgz (by have:=h2 i hi; omega)⟩
 have pe:((is.map (sI as)).map rank).sum=((is.map (gI as)).map rank).sum:=by
  rw [h3]
  exact ((zc4 _).map _).sum_nat
 have key:∀js:List Int,(∀i∈js,aN as i.toNat∈as)->0<=(js.map (bI as)).sum/\((js.map (bI as)).sum=0->((js.map (sI as)).map rank).sum+js.length<=((js.map (gI as)).map rank).sum):=by
  intro js
  induction js with
  | nil=>intro _; simp
  | cons i js ih =>
   intro hj
   obtain ⟨q1,q2⟩:=ih fun j hj'=>hj j (List.mem_cons_of_mem _ hj')
   simp only [List.map_cons,List.sum_cons,List.length_cons]
   have q3:0<=bI as i:=by unfold bI; omega
   refine ⟨by omega,fun e=>?_⟩
   have q4:=q2 (by omega)
   have q9:bI as i=0:=by omega
   have q5:=hrk _ (hj i List.mem_cons_self) (by unfold bI at q9; omega)
   have q6:sI as i=(aN as i.toNat).s:=rfl
   have q7:gI as i=(aN as i.toNat).g:=rfl
   rw [q6,q7]
   omega
 obtain ⟨k1,k2⟩:=key is hm
 by_cases e:(is.map (bI as)).sum=0
 ·have:=k2 e
  have:=List.length_pos_iff.mpr h1
  omega
 ·omega
structure DictI (d:D) (ch:Nat->Option Nat) (m:Nat):Prop where
 is:∃ks ds,d=.dK ks ds/\ks.length=ds.length/\ks.length<=m/\∀x:Nat,getK ks ds (.inl (x:Int))=(ch x).map fun (n:Nat)=>D.int (n:Int)
theorem DictI.get {d:D} {ch:Nat->Option Nat} {m:Nat} (h:DictI d ch m) {x n:Nat} (e:ch x=some n):(dgetD d (.int (x:Int))).join=some (.int (n:Int)):=by
 obtain ⟨ks,ds,rfl,_,_,h3⟩:=h.is
 show getK ks ds (.inl (x:Int))=_
 rw [h3,e]
 rfl
theorem DictI.put {d:D} {ch:Nat->Option Nat} {m:Nat} (h:DictI d ch m) (hm:m<16777216) (x n:Nat):∃d',(∀(ρ:L3.Env) (i:Nat) (fj f:EF),f ρ=some (.int (n:Int))->eV i ρ=some d->fj ρ=some (.int (x:Int))->sPutD i fj f ρ=some (.nx (ρ.set i (some d'))))/\DictI d' (fun y=>if y=x then some n else ch y) (m+1):=by
 obtain ⟨ks,ds,rfl,h1,h2,h3⟩:=h.is
 refine ⟨.dK (putK' ks ds (.inl (x:Int)) (.int (n:Int))).1 (putK' ks ds (.inl (x:Int)) (.int (n:Int))).2,fun ρ i fj f e1 e2 e3=>?_,⟨_,_,rfl,(zl0 h1 _ _).1,by have:=(zl0 h1 (.inl (x:Int)) (.int (n:Int))).2; omega,fun y=>?_⟩⟩
 ·unfold sPutD
  rw [e1]
  show (eV i ρ).bind _=_
  rw [e2]
  show (fj ρ).bind _=_
  rw [e3]
  show (if ks.length<16777216 then some (Out.nx (ρ.set i (some (.dK (putK' ks ds (.inl (x:Int)) (.int (n:Int))).1 (putK' ks ds (.inl (x:Int)) (.int (n:Int))).2)))) else none)=_
  rw [if_pos (by omega)]
 ·rw [znu h1]
  by_cases e:y=x
  ·subst e
   rw [if_pos rfl,if_pos rfl]
   rfl
  ·rw [if_neg (fun z=>e (by have:=Sum.inl.inj z; omega)),if_neg e]
   exact h3 y
theorem zg0 {c:BF} {b:SF} (I:L3.Env->Prop) (μ:L3.Env->Nat) (R:D->Prop) (st:∀ρ,I ρ->∃t,c ρ=some t/\(t=true->(∃ρ',b ρ=some (.nx ρ')/\I ρ'/\μ ρ' < μ ρ)\/∃d,b ρ=some (.rt d)/\R d)) :
  ∀(n:Nat) (ρ:L3.Env),I ρ->μ ρ<n->(∃ρ',whileD c b n ρ=some (.nx ρ')/\I ρ'/\c ρ'=some false)\/∃d,whileD c b n ρ=some (.rt d)/\R d
 | 0,_,_,h=>absurd h (by omega)
 | n+1,ρ,hI,h=>by
  obtain ⟨t,h1,h2⟩:=st ρ hI
  cases t with
  | false=>exact .inl ⟨ρ,by show (c ρ).bind _=_; rw [h1]; rfl,hI,h1⟩
  | true =>
   rcases h2 rfl with ⟨ρ',h3,h4,h5⟩ | ⟨d,h3,h4⟩
   ·rcases zg0 I μ R st n ρ' h4 (by omega) with ⟨ρ2,h6,h7,h8⟩ | ⟨d,h6,h7⟩
    ·refine .inl ⟨ρ2,?_,h7,h8⟩
     show (c ρ).bind _=_
     rw [h1]
     show (b ρ).bind _=_
     rw [h3]; exact h6
    ·refine .inr ⟨d,?_,h7⟩
     show (c ρ).bind _=_
     rw [h1]
     show (b ρ).bind _=_
     rw [h3]; exact h6
   ·refine .inr ⟨d,?_,h4⟩
    show (c ρ).bind _=_
    rw [h1]
    show (b ρ).bind _=_
    rw [h3]; rfl
theorem zqz {p q:Int×Int} (h1:Fz 9000 p) (h2:Fz 9000 q):zfg [fr p,fr q]=some (.bl (Fq.under p q)):=by
 have e1:=uu h1.1 h2.2 (by decide) (by decide)
 have e2:=uu h2.1 h1.2 (by decide) (by decide)
 unfold zfg
 have f0:=fr0
 have f1:=fr1
 walk_at "mir"
 rfl
theorem zl6 {n:Nat} {x y:Int×Int} (lx:Fq.Low x) (ly:Fq.Low y) (hx:Fz n x) (hy:Fz n y):Fz (n+n+1) (Fq.plus x y) :=
 zl1 (lx.mul_ne ly) (Sz.add (hx.1.mul hy.2) (hy.1.mul hx.2)) ((hx.2.mul hy.2).mono (by omega))
theorem zdx {n m:Nat} {x:Int×Int} {k:Int} (lx:Fq.Low x) (hx:Fz n x) (hk:Sz m k):Fz (n+m) (Fq.scaled x k):=zl1 lx.ne (hx.1.mul hk) (hx.2.mono (Nat.le_add_right _ _))
theorem zow {n:Nat} {p q:Int×Int} (hn:n<=2000) (lp:Fq.Low p) (lq:Fq.Low q) (h1:Fz n p) (h2:Fz n q):zgt [fr p,fr q]=some (fr (Fq.plus p q)):=by
 have e1:=uu h1.1 h2.2 (by omega) (by omega)
 have e2:=uu h2.1 h1.2 (by omega) (by omega)
 have e3:=uu h1.2 h2.2 (by omega) (by omega)
 have r:=zhv (t:=p.1 * q.2+q.1 * p.2) (lp.mul_ne lq) ((h1.2.mul h2.2).mono (by omega))
 have f0:=fr0
 have f1:=fr1
 unfold zgt Fq.plus
 clear h1 h2 lp lq hn
 generalize fr (Fq.mk (p.1 * q.2+q.1 * p.2) (p.2 * q.2))=rr at *
 walk_at "mir"
theorem ziw {n m:Nat} {p:Int×Int} {k:Int} (hn:n<=2000) (hm:m<=2000) (lp:Fq.Low p) (h1:Fz n p) (hk:Sz m k):zb7 [fr p,.int k]=some (fr (Fq.scaled p k)):=by
 have e1:=uu h1.1 hk (by omega) (by omega)
 have r:=zhv (t:=p.1 * k) lp.ne (h1.2.mono (by omega))
 have f0:=fr0
 have f1:=fr1
 unfold zb7 Fq.scaled
 clear h1 hk lp hn hm
 generalize fr (Fq.mk (p.1 * k) p.2)=rr at *
 walk_at "mir"
theorem zl7:Sz 1 (-1):=by unfold Sz; decide
theorem zq0 {n:Nat} {p q:Int×Int} (hn:n<=1000) (lp:Fq.Low p) (lq:Fq.Low q) (h1:Fz n p) (h2:Fz n q):zff [fr p,fr q]=some (fr (Fq.minus p q)):=by
 have e1:=ziw (by omega) (by decide) lq h2 zl7
 have e2:=zow (n:=n+1) (by omega) lp (Fq.scaled_low lq (-1)) (h1.mono (by omega)) (zdx lq h2 zl7)
 unfold zff Fq.minus
 clear h1 h2 lp lq hn
 generalize fr (Fq.plus p (Fq.scaled q (-1)))=rr at *
 generalize fr (Fq.scaled q (-1))=sq at *
 walk_at "mir"
theorem zny {n:Nat} {x y:Int×Int} (lx:Fq.Low x) (ly:Fq.Low y) (hx:Fz n x) (hy:Fz n y):Fz (n+1+(n+1)+1) (Fq.minus x y) :=
 zl6 lx (Fq.scaled_low ly (-1)) (hx.mono (by omega)) (zdx ly hy zl7)
theorem za7 (t:Int):Fq.Low (t,1):=⟨Int.le_refl 1,by show Int.gcd t 1=1; simp⟩
def early (pace:Int×Int) (tm:Nat->Int×Int) (a:Arw):Int×Int:=Fq.minus (Fq.plus (tm a.s) (a.t,1)) (Fq.scaled pace (a.b:Int))
theorem zl8 {pace:Int×Int} {tm:Nat->Int×Int} {a:Arw} (lp:Fq.Low pace) (lt:Fq.Low (tm a.s)):Fq.Low (early pace tm a):=Fq.minus_low (Fq.plus_low lt (za7 _)) (Fq.scaled_low lp _)
theorem zq3 {many:Nat} {pace:Int×Int} {tm:Nat->Int×Int} {a:Arw} {fl:List D} (hr:Right many a) (i1:ixD (.lst fl) (.int (a.s:Int))=some (fr (tm a.s))) (i2:ixD (.lst fl) (.int (a.g:Int))=some (fr (tm a.g))) (lp:Fq.Low pace) (lt:∀g,Fq.Low (tm g)) (zp:Fz 300 pace) (zt:∀g,Fz 300 (tm g)):zb8 [encA a,fr pace,.lst fl]=some (.bl (!Fq.under (tm a.g) (early pace tm a))):=by
 have g1:=fs a
 have g2:=fg a
 have g3:=ft a
 have g4:=fb a
 have st:Sz 300 a.t:=zam (w:=1000000000) (by have:=hr.t0; omega) hr.t1 (by decide)
 have sb:Sz 10 (a.b:Int):=zam (w:=4) (by omega) (by have:=hr.b; omega) (by decide)
 have zo:Fz 300 (a.t,1):=⟨st,zam (i:=1) (w:=1) (by decide) (by decide) (by decide)⟩
 have p1:=zow (n:=300) (by decide) (lt a.s) (za7 a.t) (zt a.s) zo
 have z1:=zl6 (lt a.s) (za7 a.t) (zt a.s) zo
 have s1:=ziw (n:=300) (m:=10) (by decide) (by decide) lp zp sb
 have z2:=zdx lp zp sb
 have l1:=Fq.plus_low (lt a.s) (za7 a.t)
 have l2:=Fq.scaled_low lp (a.b:Int)
 have m1:=zq0 (n:=601) (by decide) l1 l2 z1 (z2.mono (by decide))
 have z3:=zny l1 l2 z1 (z2.mono (by decide))
 have u1:=zqz (p:=tm a.g) (q:=early pace tm a) ((zt a.g).mono (by decide)) (z3.mono (by decide))
 have f2:(.tup [.int a.t,.int 1]:D)=fr (a.t,1):=rfl
 unfold early at u1 ⊢
 clear zp zt lt lp hr st sb zo z1 z2 z3 l1 l2
 generalize fr (Fq.minus (Fq.plus (tm a.s) (a.t,1)) (Fq.scaled pace (a.b:Int)))=fm at *
 generalize Fq.under (tm a.g) (Fq.minus (Fq.plus (tm a.s) (a.t,1)) (Fq.scaled pace (a.b:Int)))=ub at *
 generalize fr (Fq.plus (tm a.s) (a.t,1))=fp at *
 generalize fr (Fq.scaled pace (a.b:Int))=fsc at *
 generalize fr (tm a.s)=fts at *
 generalize fr (tm a.g)=ftg at *
 generalize fr pace=fpc at *
 unfold zb8
 rw [← f2] at p1
 clear f2
 walk_at "mir"
theorem zs5 (bs:List Bool):allD [.lst (bs.map .bl)]=some (.bl (bs.all id)):=by
 show (boolsD (bs.map .bl)).bind _=_
 have:boolsD (bs.map .bl)=some bs:=by
  induction bs with
  | nil=>rfl
  | cons b bs ih=>show (boolsD (bs.map .bl)).bind _=_; rw [ih]; rfl
 rw [this]
 rfl
theorem zq4 {pace:Int×Int} {tm:Nat->Int×Int} {a:Arw} {T W:Int} (lp:Fq.Low pace) (lt:Fq.Low (tm a.s)) (hW:0<W) (hT:(tm a.s).1 * W=T * (tm a.s).2) :
  (early pace tm a).1 * (W * pace.2)=(T * pace.2+(a.t * W * pace.2-pace.1 * (a.b:Int) * W)) * (early pace tm a).2:=by
 have l1:=Fq.plus_low lt (za7 a.t)
 have l2:=Fq.scaled_low lp (a.b:Int)
 have v1:=Fq.plus_v (tm a.s) (a.t,1)
 have v2:=Fq.scaled_v pace (a.b:Int)
 have v3:=Fq.minus_v (p:=Fq.plus (tm a.s) (a.t,1)) l2
 unfold early
 generalize Fq.minus (Fq.plus (tm a.s) (a.t,1)) (Fq.scaled pace (a.b:Int))=q at *
 have p1:=l1.gt
 have p2:=l2.gt
 have p3:=lt.gt
 generalize Fq.plus (tm a.s) (a.t,1)=A at *
 generalize Fq.scaled pace (a.b:Int)=S at *
 generalize tm a.s=t at *
 obtain ⟨q1,q2⟩:=q
 obtain ⟨A1,A2⟩:=A
 obtain ⟨S1,S2⟩:=S
 obtain ⟨t1,t2⟩:=t
 obtain ⟨P,Q⟩:=pace
 dsimp only at *
 generalize (a.b:Int)=b at *
 generalize a.t=u at *
 have hne:A2 * S2 * t2≠0:=Int.mul_ne_zero (Int.mul_ne_zero (by omega) (by omega)) (by omega)
 apply Int.eq_of_mul_eq_mul_right hne
 grind
theorem znz {pace:Int×Int} {tm:Nat->Int×Int} {a:Arw} (lp:Fq.Low pace) (ls:Fq.Low (tm a.s)) (lg:Fq.Low (tm a.g)) :
  Fq.under (tm a.g) (early pace tm a)=decide ((tm a.g).1 * (tm a.s).2 * pace.2<((tm a.s).1 * pace.2+a.t * (tm a.s).2 * pace.2-pace.1 * (a.b:Int) * (tm a.s).2) * (tm a.g).2):=by
 have hQ:=lp.gt
 have v:=zq4 (T:=(tm a.s).1) (W:=(tm a.s).2) lp ls ls.gt rfl
 have e:=Fq.lt_congr (n:=(tm a.g).1) (d:=(tm a.g).2) (m:=(tm a.g).1) (e:=(tm a.g).2) lg.gt lg.gt (zl8 (tm:=tm) (a:=a) lp ls).gt (Int.mul_pos ls.gt hQ) rfl v
 unfold Fq.under
 refine decide_eq_decide.mpr (e.trans ?_)
 have e1:(tm a.g).1 * ((tm a.s).2 * pace.2)=(tm a.g).1 * (tm a.s).2 * pace.2:=by grind
 have e2:(tm a.s).1 * pace.2+(a.t * (tm a.s).2 * pace.2-pace.1 * (a.b:Int) * (tm a.s).2)=(tm a.s).1 * pace.2+a.t * (tm a.s).2 * pace.2-pace.1 * (a.b:Int) * (tm a.s).2:=by omega
 rw [e1,e2]
theorem zjt {ns:List D} {as:List Arw} {is:List Int} {pace:Int×Int} {rank:Nat->Nat} (hl:is.length<=1000) (hal:as.length<=1000) (hb:∀a∈as,a.b<=4) (hrk:∀a∈as,a.b=0->rank a.s<rank a.g) :
  ∃b:Bool,qz [netD ns as,.lst (is.map .int),fr pace]=some (.bl b)/\(b=true↔RngR (sI as) (gI as) as.length is/\Fq.mk (is.map (tI as)).sum (is.map (bI as)).sum=pace):=by
 obtain ⟨b,h1,h2⟩:=zl4 (ns:=ns) (as:=as) (is:=is) hl hal
 cases b with
 | false =>
  refine ⟨false,?_,?_⟩
  ·generalize netD ns as=net at *
   generalize is.map D.int=il at *
   generalize fr pace=F at *
   clear h2 hl hal hb hrk
   unfold qz
   walk_at "mir"
  ·constructor
   ·intro z; cases z
   ·intro z; exact h2.mpr z.1
 | true =>
  have rg:=h2.mp rfl
  have pos:=ziv hrk rg
  have mn:=zs4 (ns:=ns) (as:=as) (is:=is) hl hb rg.2.1 (by omega)
  have e:=eqF (neg:=false) (Fq.mk (is.map (tI as)).sum (is.map (bI as)).sum) pace
  rw [if_neg (by decide)] at e
  refine ⟨decide (Fq.mk (is.map (tI as)).sum (is.map (bI as)).sum=pace),?_,?_⟩
  ·generalize decide (Fq.mk (is.map (tI as)).sum (is.map (bI as)).sum=pace)=bb at *
   generalize fr (Fq.mk (is.map (tI as)).sum (is.map (bI as)).sum)=M at *
   generalize netD ns as=net at *
   generalize is.map D.int=il at *
   generalize fr pace=F at *
   clear h2 hl hal hb hrk pos rg
   unfold qz
   walk_at "mir"
  ·rw [decide_eq_true_iff]
   exact ⟨fun z=>⟨rg,z⟩,fun z=>z.2⟩
theorem DictI.one (x n:Nat):∃d,dispD (.int (x:Int)) (.int (n:Int))=some d/\DictI d (fun y=>if y=x then some n else none) 1:=by
 refine ⟨.dK [.inl (x:Int)] [.int (n:Int)],rfl,⟨_,_,rfl,rfl,by simp,fun y=>?_⟩⟩
 unfold getK
 by_cases h:y=x
 ·subst h
  rw [if_pos rfl]
  simp
 ·rw [if_neg h]
  have:¬(x:Int)=(y:Int):=by omega
  simp [this]
theorem DictI.has {d:D} {ch:Nat->Option Nat} {m:Nat} (h:DictI d ch m) (x:Nat):dgetD d (.int (x:Int))=some ((ch x).map fun (n:Nat)=>D.int (n:Int)):=by
 obtain ⟨ks,ds,rfl,_,_,h3⟩:=h.is
 show some (getK ks ds (.inl (x:Int)))=_
 rw [h3]
def muF (ρ:L3.Env):Nat:=match ρ[2]?.join with
 | some (D.lst ds)=>1000-ds.length
 | _=>0
def cF:BF:=tb (fun ρ=>((e2 ixD (e2 ixD (eV 0) (e2 ixD (eV 2) (e1 negD (eC (.int 1))))) (eC (.int 1))) ρ).bind fun x=>((eV 3) ρ).bind fun y=>(dgetD y x).bind fun r=>some (.bl (!r.isSome)))
theorem Wlk.last {S G:Nat->Nat} {n:Nat}:∀{w:List Nat} {a b:Nat},Wlk S G a (w++[n]) b->G n=b
 | [],a,b,h=>h.2
 | m::w,a,b,h=>Wlk.last (w:=w) h.2
theorem Wlk.drop {S G:Nat->Nat}:∀{w:List Nat} {a b:Nat} {j n:Nat},Wlk S G a w b->w[j]?=some n->Wlk S G (S n) (w.drop j) b
 | [],a,b,j,n,h,e=>by simp at e
 | m::w,a,b,0,n,h,e=>by
  have e:m=n:=by simpa using e
  subst e
  exact ⟨rfl,h.2⟩
 | m::w,a,b,j+1,n,h,e=>by
  rw [List.drop_succ_cons]
  exact Wlk.drop h.2 (by simpa using e)
theorem zl9 {w:List Nat} (h:w≠[]):∃n,n∈w/\(∃w',w=w'++[n])/\ixD (.lst (nats w)) (.int (-1))=some (.int (n:Int)):=by
 have hl:=List.length_pos_iff.mpr h
 refine ⟨w[w.length-1]'(by omega),List.getElem_mem _,⟨w.dropLast,?_⟩,?_⟩
 ·have:=(List.dropLast_concat_getLast h).symm
  rw [List.getLast_eq_getElem] at this
  exact this
 show atI _ _=_
 unfold atI
 have:ixN (nats w).length (-1)=some (w.length-1):=by
  unfold nats
  rw [List.length_map]
  unfold ixN
  rw [if_neg (by omega),if_pos (by omega)]
  congr 1
  omega
 rw [this]
 show (nats w)[w.length-1]?=_
 unfold nats
 rw [List.getElem?_map,List.getElem?_eq_getElem (by omega)]
 rfl
theorem zju {as:List Arw} {n:Nat} (h1:n<as.length):ixD (.lst (as.map encT)) (.int (n:Int))=some (.tup [.int ((aN as n).s:Int),.int ((aN as n).g:Int),.int (aN as n).t,.int ((aN as n).b:Int)]):=ui (by rw [List.getElem?_map,zgz h1]; rfl)
theorem zn0 {as:List Arw} {g:Nat} (hl:as.length<=1000) (r:L3.Env) (h0:r[0]?.join=some (.lst (as.map encT))) (h4:r[4]?.join=some (.int (g:Int))):zb9 r=some (.lst (nats ((List.range as.length).filter fun n=>decide ((aN as n).s=g)))):=by
 have e0:eV 0 r=_:=h0
 have ln:eN lenD (aCons (eV 0) aNil) r=some (.int (as.length:Int)):=by
  unfold eN aCons aNil
  rw [e0]
  show lenD [.lst (as.map encT)]=_
  rw [vk,List.length_map]
 refine zak (fun (t:Nat)=>D.int (t:Int)) (fun (n:Nat)=>decide ((aN as n).s=g)) (fun (n:Nat)=>D.int (n:Int)) (List.range as.length) (zer ln (by omega)) (by rw [List.length_range]; omega) fun n hn=>⟨_,rfl,?_,fun _=>rfl⟩
 have hcap:capsD r [0,4]=[some (.lst (as.map encT)),some (.int (g:Int))]:=by unfold capsD; simp [h0,h4]
 rw [hcap]
 have i1:=zju (as:=as) (List.mem_range.mp hn)
 have e0:∀(a b c d:D),ixD (.tup [a,b,c,d]) (.int 0)=some a:=fun _ _ _ _=>rfl
 have q:eqD false (.int ((aN as n).s:Int)) (.int (g:Int))=some (.bl (decide ((aN as n).s=g))):=(zcj _ _).trans (by rw [if_neg (by decide),show decide (((aN as n).s:Int)=(g:Int))=decide ((aN as n).s=g) from decide_eq_decide.mpr (by omega)])
 generalize decide ((aN as n).s=g)=bb at *
 generalize as.map encT=al at *
 clear hcap h0 h4 hn hl ln
 walk_at "mir"
theorem zfo (neg:Bool) (w:List Nat):eqD neg (.lst (nats w)) (.lst [])=some (.bl (if neg then !decide (w=[]) else decide (w=[]))):=by
 have:=(El Ei).eq (by decide) (neg:=neg) (w.map fun (x:Nat)=>(x:Int)) []
 have e:(El Ei).enc (w.map fun (x:Nat)=>(x:Int))=.lst (nats w):=by
  show D.lst ((w.map fun (x:Nat)=>(x:Int)).map D.int)=_
  rw [List.map_map]; rfl
 rw [e] at this
 have hd:decide ((w.map fun (x:Nat)=>(x:Int))=[])=decide (w=[]):=decide_eq_decide.mpr (by simp)
 rw [hd] at this
 exact this
theorem zix {as:List Arw} {many z:Nat} (hm:many<=1000-100) (hl:as.length<=1000) (hs:∀a∈as,a.s<many/\a.g<many) (hz:z<2147483648):∃w:List Nat,w.length<=many/\(∀n∈w,n<as.length)/\(w≠[]->∃x,Wlk (fun n=>(aN as n).s) (fun n=>(aN as n).g) x w x)/\uj [.lst (as.map encT),.int (z:Int)]=some (.lst (nats w)):=by
 have q0:=zqv false as
 rw [if_neg (by decide)] at q0
 by_cases h0:as=[]
 ·refine ⟨[],by simp,fun n hn=>(by cases hn),fun z=>absurd rfl z,?_⟩
  rw [decide_eq_true h0] at q0
  have n0:nats []=[]:=rfl
  rw [n0]
  generalize as.map encT=al at *
  unfold uj
  clear h0 hm hl hs hz n0
  walk_at "mir"
 ·rw [decide_eq_false h0] at q0
  have hlp:=List.length_pos_iff.mpr h0
  have la:lenD [.lst (as.map encT)]=some (.int (as.length:Int)):=(vk _).trans (by rw [List.length_map])
  have md:modD (.int (z:Int)) (.int (as.length:Int))=some (.int ((z % as.length:Nat):Int)):=by rw [u8 (by omega)]; simp
  have hn0:z % as.length<as.length:=Nat.mod_lt _ hlp
  generalize z % as.length=n0 at *
  have mem:∀n,n<as.length->aN as n∈as:=fun n hn=>List.mem_iff_getElem?.mpr ⟨n,zgz hn⟩
  obtain ⟨d0,hd0,hD0⟩:=DictI.one (aN as n0).s 0
  replace hd0:dispD (.int ((aN as n0).s:Int)) (.int 0)=some d0:=hd0
  have z0:∀(a b c d:D),ixD (.tup [a,b,c,d]) (.int 0)=some a:=fun _ _ _ _=>rfl
  have z1:∀(a b c d:D),ixD (.tup [a,b,c,d]) (.int 1)=some b:=fun _ _ _ _=>rfl
  have cnd:∀(w:List Nat) (n:Nat) (d:D) (ch:Nat->Option Nat) (m:Nat) (y1 y4 y5:Option D),ixD (.lst (nats w)) (.int (-1))=some (.int (n:Int))->n<as.length->DictI d ch m->cF [some (.lst (as.map encT)),y1,some (.lst (nats w)),some d,y4,y5]=some (!(ch (aN as n).g).isSome):=by
   intro w n d ch m y1 y4 y5 hw hn hd
   have i1:=zju (as:=as) hn
   have g1:=hd.has (aN as n).g
   have e2':((ch (aN as n).g).map fun (n:Nat)=>D.int (n:Int)).isSome=(ch (aN as n).g).isSome:=by cases ch (aN as n).g <;> rfl
   rw [← e2']
   generalize (ch (aN as n).g).map (fun (n:Nat)=>D.int (n:Int))=o at *
   generalize as.map encT=al at *
   generalize nats w=wl at *
   unfold cF
   clear hd hn hs hm hl hz q0 h0 hlp la md hn0 mem hd0 hD0 e2'
   walk_at "mir"
  have lp:=zg0 (c:=cF) (b:=jt)
   (fun ρ=>∃(w sn:List Nat) (ch:Nat->Option Nat) (d:D) (x:Nat) (y4 y5:Option D),ρ=[some (.lst (as.map encT)),some (.int (x:Int)),some (.lst (nats w)),some d,y4,y5]/\w≠[]/\(∀n∈w,n<as.length)/\x<2147483648/\DictI d ch w.length/\sn.Nodup/\(∀x∈sn,x<many)/\sn.length=w.length/\(∀x,(ch x).isSome=true↔x∈sn)/\(∀x n,ch x=some n->n<=w.length)/\(∃s0 b,Wlk (fun n=>(aN as n).s) (fun n=>(aN as n).g) s0 w b)/\∀y v,ch y=some v->∃n,w[v]?=some n/\(aN as n).s=y) muF
   (fun d=>d=.lst []) (by
    rintro ρ ⟨w,sn,ch,d,x,y4,y5,rfl,a1,a2,a3,a4,a5,a6,a7,a8,a9,⟨s0,b0,a10⟩,a11⟩
    obtain ⟨n,hn1,⟨w',hw'⟩,hn2⟩:=zl9 a1
    have hn:=a2 n hn1
    have hb0:(aN as n).g=b0:=Wlk.last (w:=w') (n:=n) (by rw [← hw']; exact a10)
    have hwl:w.length<=many:=by rw [← a7]; exact Kahn.len_le a5 a6
    refine ⟨_,cnd w n d ch _ _ y4 y5 hn2 hn a4,fun ht=>?_⟩
    have hnone:ch (aN as n).g=none:=by
     cases hc:ch (aN as n).g with
     | none=>rfl
     | some v=>rw [hc] at ht; cases ht
    obtain ⟨d2,put,hd2⟩:=a4.put (by omega) (aN as n).g w.length
    have on:=zn0 (as:=as) (g:=(aN as n).g) hl [some (.lst (as.map encT)),some (.int (x:Int)),some (.lst (nats w)),some d2,some (.int ((aN as n).g:Int)),y5] rfl rfl
    have onm:∀k∈(List.range as.length).filter (fun k=>decide ((aN as k).s=(aN as n).g)),k<as.length/\(aN as k).s=(aN as n).g:=fun k hk=>⟨List.mem_range.mp (List.mem_filter.mp hk).1,by simpa using (List.mem_filter.mp hk).2⟩
    generalize (List.range as.length).filter (fun k=>decide ((aN as k).s=(aN as n).g))=ow at *
    have i1:=zju (as:=as) hn
    have lw:lenD [.lst (nats w)]=some (.int (w.length:Int)):=(vk _).trans (by unfold nats; rw [List.length_map])
    have q:=zfo false ow
    rw [if_neg (by decide)] at q
    have put:=put [some (.lst (as.map encT)),some (.int (x:Int)),some (.lst (nats w)),some d,some (.int ((aN as n).g:Int)),y5] 3 (eV 4) (eN lenD (aCons (eV 2) aNil)) (by
     show lenD [.lst (nats w)]=_
     rw [lw]) rfl rfl
    by_cases ho:ow=[]
    ·refine .inr ⟨_,?_,rfl⟩
     rw [decide_eq_true ho] at q
     generalize as.map encT=al at *
     generalize nats w=wl at *
     generalize nats ow=ol at *
     unfold jt
     generalize sPutD 3 (eV 4) (eN lenD (aCons (eV 2) aNil))=PP at *
     clear ho onm hd2 hnone ht hwl hn hn1 a1 a2 a3 a4 a5 a6 a7 a8 a9 a10 a11 hw' hb0 cnd hs hm hl hz q0 h0 hlp la md hn0 mem hd0 hD0 lw
     walk_at "mir"
    ·rw [decide_eq_false ho] at q
     have hop:=List.length_pos_iff.mpr ho
     obtain ⟨x2,hx2,hx3⟩:∃x2:Nat,(x:Int) * ((x:Int) / 1009+69621) % 2147483647=(x2:Int)/\x2<2147483648:=⟨((x:Int) * ((x:Int) / 1009+69621) % 2147483647).toNat,by have:=Int.emod_nonneg ((x:Int) * ((x:Int) / 1009+69621)) (b:=2147483647) (by decide); omega,by have:=Int.emod_lt_of_pos ((x:Int) * ((x:Int) / 1009+69621)) (b:=2147483647) (by decide); omega⟩
     have mu:mulI (.int (x:Int)) (.int ((x:Int) / 1009+69621))=some (.int ((x:Int) * ((x:Int) / 1009+69621))):=zct (by omega) (by omega)
     have lo:lenD [.lst (nats ow)]=some (.int (ow.length:Int)):=(vk _).trans (by unfold nats; rw [List.length_map])
     have mo:modD (.int (x2:Int)) (.int (ow.length:Int))=some (.int ((x2 % ow.length:Nat):Int)):=by rw [u8 (by omega)]; simp
     have hk:=Nat.mod_lt x2 hop
     generalize x2 % ow.length=kk at *
     have ik:ixD (.lst (nats ow)) (.int (kk:Int))=some (.int ((ow[kk]'hk:Nat):Int)):=ui (by unfold nats; rw [List.getElem?_map,List.getElem?_eq_getElem hk]; rfl)
     obtain ⟨hnk,hnk2⟩:=onm _ (List.getElem_mem hk)
     generalize ow[kk]'hk=nk at *
     refine .inl ⟨[some (.lst (as.map encT)),some (.int (x2:Int)),some (.lst (nats (w++[nk]))),some d2,some (.int ((aN as n).g:Int)),some (.lst (nats ow))],?_,⟨w++[nk],sn++[(aN as n).g],fun y=>if y=(aN as n).g then some w.length else ch y,d2,x2,_,_,rfl,by simp,fun k hk'=>?_,hx3,?_,?_,fun y hy=>?_,?_,fun y=>?_,fun y v hv=>?_,⟨s0,(aN as nk).g,Wlk.app (b:=b0) (show Wlk (fun n=>(aN as n).s) (fun n=>(aN as n).g) b0 [nk] (aN as nk).g from ⟨by rw [← hb0]; exact hnk2,rfl⟩) a10⟩,fun y v hv=>?_⟩,?_⟩
     ·have e3:nats (w++[nk])=nats w++[.int (nk:Int)]:=by unfold nats; rw [List.map_append]; rfl
      have hz2:(nats w).length<16777216:=by unfold nats; rw [List.length_map]; omega
      have e5:D.int ((x:Int) * ((x:Int) / 1009+69621) % 2147483647)=D.int (x2:Int):=by rw [hx2]
      rw [e3]
      generalize as.map encT=al at *
      generalize nats w=wl at *
      generalize nats ow=ol at *
      generalize (ow.length:Int)=oll at *
      unfold jt
      generalize sPutD 3 (eV 4) (eN lenD (aCons (eV 2) aNil))=PP at *
      clear e5 ho onm hd2 hnone ht hwl hn hn1 a1 a2 a3 a4 a5 a6 a7 a8 a9 a10 a11 hw' hb0 cnd hs hm hl hz q0 h0 hlp la md hn0 mem hd0 hD0 lw hop hx3 hk hnk hnk2 e3
      walk_at "mir"
     ·rcases List.mem_append.mp hk' with h | h
      ·exact a2 k h
      ·rw [List.mem_singleton.mp h]; exact hnk
     ·rw [List.length_append,List.length_singleton]; exact hd2
     ·refine List.nodup_append.mpr ⟨a5,by simp,fun a ha b hb e=>?_⟩
      rw [List.mem_singleton.mp hb] at e
      have:=(a8 a).mpr ha
      rw [e,hnone] at this
      cases this
     ·rcases List.mem_append.mp hy with h | h
      ·exact a6 y h
      ·rw [List.mem_singleton.mp h]; exact (hs _ (mem n hn)).2
     ·rw [List.length_append,List.length_append,a7]; rfl
     ·show (if y=(aN as n).g then some w.length else ch y).isSome=true↔_
      rw [List.mem_append,List.mem_singleton,← a8 y]
      by_cases e:y=(aN as n).g
      ·rw [if_pos e]; simp [e]
      ·rw [if_neg e]; simp [e]
     ·replace hv:(if y=(aN as n).g then some w.length else ch y)=some v:=hv
      rw [List.length_append,List.length_singleton]
      by_cases e:y=(aN as n).g
      ·rw [if_pos e] at hv
       have:=Option.some.inj hv
       omega
      ·rw [if_neg e] at hv
       have:=a9 y v hv
       omega
     ·replace hv:(if y=(aN as n).g then some w.length else ch y)=some v:=hv
      by_cases e:y=(aN as n).g
      ·rw [if_pos e] at hv
       have:=Option.some.inj hv
       subst this
       exact ⟨nk,by simp,by rw [hnk2,e]⟩
      ·rw [if_neg e] at hv
       obtain ⟨n',b1,b2⟩:=a11 y v hv
       exact ⟨n',by rw [List.getElem?_append_left (List.getElem?_eq_some_iff.mp b1).1]; exact b1,b2⟩
     ·show 1000-(nats (w++[nk])).length<1000-(nats w).length
      unfold nats
      rw [List.length_map,List.length_map,List.length_append,List.length_singleton]
      omega) FUEL [some (.lst (as.map encT)),some (.int (z:Int)),some (.lst (nats [n0])),some d0,none,none]
   ⟨[n0],[(aN as n0).s],fun y=>if y=(aN as n0).s then some 0 else none,d0,z,none,none,rfl,by simp,fun n hn=>by rw [List.mem_singleton.mp hn]; exact hn0,hz,hD0,by simp,fun x hx=>by rw [List.mem_singleton.mp hx]; exact (hs _ (mem n0 hn0)).1,rfl,fun x=>by
    show (if x=(aN as n0).s then some 0 else none).isSome=true↔_
    rw [List.mem_singleton]
    by_cases e:x=(aN as n0).s
    ·simp [e]
    ·simp [e],(fun x n hx=>by
    replace hx:(if x=(aN as n0).s then some 0 else none)=some n:=hx
    by_cases e:x=(aN as n0).s
    ·rw [if_pos e] at hx; have:=Option.some.inj hx; simp; omega
    ·rw [if_neg e] at hx; cases hx),⟨(aN as n0).s,(aN as n0).g,rfl,rfl⟩,(fun y v hv=>by
    replace hv:(if y=(aN as n0).s then some 0 else none)=some v:=hv
    by_cases e:y=(aN as n0).s
    ·rw [if_pos e] at hv
     have:=Option.some.inj hv
     subst this
     exact ⟨n0,rfl,e.symm⟩
    ·rw [if_neg e] at hv; cases hv)⟩ (zhg (by show 1000-(nats [n0]).length<1048576; omega))
  have i0:=zju (as:=as) hn0
  have w0:ixD (.lst [.int (n0:Int)]) (.int 0)=some (.int (n0:Int)):=rfl
  have n1:nats [n0]=[.int (n0:Int)]:=rfl
  rw [n1] at lp
  rcases lp with ⟨ρ',l1,⟨w,sn,ch,d,x,y4,y5,rfl,a1,a2,a3,a4,a5,a6,a7,a8,a9,⟨s0,b0,a10⟩,a11⟩,hc⟩ | ⟨dd,l1,rfl⟩
  ·obtain ⟨n,hn1,⟨w',hw'⟩,hn2⟩:=zl9 a1
   have hn:=a2 n hn1
   rw [cnd w n d ch _ _ y4 y5 hn2 hn a4] at hc
   obtain ⟨v,hv⟩:∃v,ch (aN as n).g=some v:=by
    cases hq:ch (aN as n).g with
    | none=>rw [hq] at hc; cases hc
    | some v=>exact ⟨v,rfl⟩
   have gv:=a4.get hv
   refine ⟨w.drop v,?_,fun k hk=>a2 k (List.mem_of_mem_drop hk),fun _=>⟨(aN as n).g,?_⟩,?_⟩
   ·rw [List.length_drop]
    have:=Kahn.len_le a5 a6
    omega
   ·obtain ⟨m,q1,q2⟩:=a11 _ _ hv
    have q3:=Wlk.drop a10 q1
    have q4:(aN as n).g=b0:=Wlk.last (w:=w') (n:=n) (by rw [← hw']; exact a10)
    rw [← q4] at q3
    replace q3:Wlk (fun n=>(aN as n).s) (fun n=>(aN as n).g) (aN as m).s (w.drop v) (aN as n).g:=q3
    rw [q2] at q3
    exact q3
   ·have in1:=zju (as:=as) hn
    have ct:cutD (nats w) (some (v:Int)) none=nats (w.drop v):=by
     rw [zdk]
     unfold nats
     rw [List.map_drop]
    unfold cF at l1
    generalize nats (w.drop v)=wd at *
    generalize as.map encT=al at *
    generalize nats w=wl at *
    unfold uj sWhile
    generalize (tb (fun ρ=>((e2 ixD (e2 ixD (eV 0) (e2 ixD (eV 2) (e1 negD (eC (.int 1))))) (eC (.int 1))) ρ).bind fun x=>((eV 3) ρ).bind fun y=>(dgetD y x).bind fun r=>some (.bl (!r.isSome))))=cc at *
    generalize (as.length:Int)=all at *
    clear hc hv a1 a2 a3 a4 a5 a6 a7 a8 a9 a10 a11 hw' hn hn1 cnd hs hm hl hz h0 hlp hn0 mem hD0 n1
    walk_at "mir"
  ·refine ⟨[],by simp,fun n hn=>(by cases hn),fun z=>absurd rfl z,?_⟩
   have nn:nats []=[]:=rfl
   rw [nn]
   unfold cF at l1
   generalize as.map encT=al at *
   unfold uj sWhile
   generalize (tb (fun ρ=>((e2 ixD (e2 ixD (eV 0) (e2 ixD (eV 2) (e1 negD (eC (.int 1))))) (eC (.int 1))) ρ).bind fun x=>((eV 3) ρ).bind fun y=>(dgetD y x).bind fun r=>some (.bl (!r.isSome))))=cc at *
   generalize (as.length:Int)=all at *
   clear cnd hs hm hl hz h0 hlp hn0 mem hD0 n1 nn
   walk_at "mir"
def aS (as:List Arw) (n:Nat):Nat:=(aN as n).s
def aG (as:List Arw) (n:Nat):Nat:=(aN as n).g
structure AOk (many:Nat) (a:Arw):Prop where
 s:a.s<many
 g:a.g<many
 t0:0<=a.t
 t1:a.t<=1000000000
 b:a.b<=4
theorem zg1 {as:List Arw} {n:Nat} (hn:n<as.length):aN as n∈as:=List.mem_iff_getElem?.mpr ⟨n,zgz hn⟩
theorem zc5 {t b:Int} (hb:0<b) (hz:Sz 8000 b):wx [.int t,.int b]=some (fr (Fq.mk t b)):=by
 obtain ⟨s',h1,h2,h3,_⟩:=zbq (c:=tb (e2 (eqD true) (eV 3) (eC (D.int 0)))) (b:=qm) (fun s:Int×Int=>[some (.int t),some (.int b),some (.int s.1),some (.int s.2)]) (fun s=>!decide (s.2=0)) (fun s=>(s.2,s.1.fmod s.2)) (fun s=>s.2.natAbs) (fun s=>Int.gcd s.1 s.2=Int.gcd t b)
  (fun s hp=>by walk_at "mir") (fun s hp ht=>by
   have hs:s.2≠0:=by simpa using ht
   refine ⟨.inl ?_,(Fq.gcd_step s.1 s.2).trans hp,Fq.fmod_less s.1 hs⟩
   unfold qm
   have:=zk4 (i:=s.1) hs
   walk_at "mir") FUEL (t,b) rfl (zhf hz (by decide))
 have h3:s'.2=0:=by simpa using h3
 have h4:=Fq.gcd_end s'.1
 rw [h3] at h2
 rw [h2] at h4
 have hg:((Int.gcd t b:Nat):Int)≠0:=by
  have:=Fq.gcd_pos (t:=t) (b:=b) (by omega)
  omega
 have hd:Fq.dv t b=((Int.gcd t b:Nat):Int):=by unfold Fq.dv; rw [if_neg (by omega)]
 have hz2:Sz 9000 ((Int.gcd t b:Nat):Int):=by
  rw [← hd]
  exact (hz.le (by have:=Fq.dv_le (t:=t) (b:=b) (by omega); exact this)).mono (by decide)
 have e1:=zc2 (i:=t) hg hz2
 have e2:=zc2 (i:=b) hg hz2
 unfold wx fr Fq.mk sWhile
 rw [hd]
 walk_at "mir"
theorem zn1 (as:List Arw) (f:Arw->Int) (n:Nat):(aN (as.map fun a=>mkA a (f a)) n).s=(aN as n).s/\(aN (as.map fun a=>mkA a (f a)) n).g=(aN as n).g/\(aN (as.map fun a=>mkA a (f a)) n).t=(aN as n).t/\(aN (as.map fun a=>mkA a (f a)) n).b=(aN as n).b:=by
 unfold aN
 rw [List.getElem?_map]
 cases as[n]? <;> exact ⟨rfl,rfl,rfl,rfl⟩
def tN (as:List Arw) (n:Nat):Int:=(aN as n).t
def bN (as:List Arw) (n:Nat):Int:=((aN as n).b:Int)
theorem zhx {f:Nat->Int} {m:Int} (hm:0<=m):∀is:List Nat,(∀i∈is,0<=f i/\f i<=m)->0<=(is.map f).sum/\(is.map f).sum<=m * (is.length:Int)
 | [],_=>by simp
 | i::is,h=>by
  obtain ⟨h1,h2⟩:=zhx hm is fun j hj=>h j (List.mem_cons_of_mem _ hj)
  obtain ⟨h3,h4⟩:=h i List.mem_cons_self
  rw [List.map_cons,List.sum_cons,List.length_cons]
  refine ⟨by omega,?_⟩
  rw [show ((is.length+1:Nat):Int)=(is.length:Int)+1 by omega,Int.mul_add,Int.mul_one]
  omega
theorem ziy {as:List Arw} {rank:Nat->Nat} (hrk:∀a∈as,a.b=0->rank a.s<rank a.g):∀{w:List Nat} {a b:Nat},Wlk (aS as) (aG as) a w b->(∀n∈w,n<as.length)->0<=(w.map (bN as)).sum/\((w.map (bN as)).sum=0->rank a+w.length<=rank b)
 | [],a,b,h,_=>by
  have h:a=b:=h
  subst h
  simp
 | n::w,a,b,h,hn=>by
  obtain ⟨i1,i2⟩:=ziy hrk h.2 fun m hm=>hn m (List.mem_cons_of_mem _ hm)
  rw [List.map_cons,List.sum_cons,List.length_cons]
  have h0:0<=bN as n:=by unfold bN; omega
  refine ⟨by omega,fun e=>?_⟩
  have h1:bN as n=0:=by omega
  have h2:=hrk _ (zg1 (hn n List.mem_cons_self)) (by unfold bN at h1; omega)
  have h3:=i2 (by omega)
  have e1:a=(aN as n).s:=h.1.symm
  have e2:aG as n=(aN as n).g:=rfl
  rw [e2] at h3
  rw [e1]
  omega
theorem zma {α:Type} [DecidableEq α]:∀{F L:List α},F.Nodup->L.Nodup->(∀x,x∈F↔x∈L)->F.Perm L
 | [],L,_,_,h=>by
  cases L with
  | nil=>exact .refl _
  | cons y L=>exact absurd ((h y).mpr List.mem_cons_self) (by simp)
 | x::F,L,n1,n2,h=>by
  obtain ⟨m1,m2⟩:=List.nodup_cons.mp n1
  have hx:=(h x).mp List.mem_cons_self
  refine .trans (.cons x (zma m2 (n2.erase x) fun y=>?_)) (List.perm_cons_erase hx).symm
  rw [n2.mem_erase_iff]
  constructor
  ·exact fun hy=>⟨fun z=>m1 (z ▸ hy),(h y).mp (List.mem_cons_of_mem _ hy)⟩
  ·rintro ⟨h1,h2⟩
   rcases List.mem_cons.mp ((h y).mpr h2) with z | z
   ·exact absurd z h1
   ·exact z
inductive Rch (as:List Arw) (g:Nat):Nat->Prop
 | self:Rch as g g
 | step {a:Arw}:a∈as->Rch as g a.g->Rch as g a.s
structure Fnd (as:List Arw) (g:Nat) (F:List Nat):Prop where
 nd:F.Nodup
 st:g∈F
 ok:∀x∈F,Rch as g x
def Cls (as:List Arw) (F:List Nat):Prop:=∀a∈as,a.g∈F->a.s∈F
theorem Fnd.all {as:List Arw} {g:Nat} {F:List Nat} (h:Fnd as g F) (hc:Cls as F) (x:Nat):x∈F↔Rch as g x:=by
 refine ⟨h.ok x,fun r=>?_⟩
 induction r with
 | self=>exact h.st
 | step ha _ ih=>exact hc _ ha ih
theorem zcd (F:List Nat):intsD (nats F)=some (F.map fun (x:Nat)=>(x:Int)):=by
 unfold nats
 induction F with
 | nil=>rfl
 | cons x F ih=>show (intsD _).bind _=_; rw [ih]; rfl
theorem zmb {F L:List Nat} (h:F.Perm L) (hl:L.length<64):sortD [.lst (nats F)]=sortD [.lst (nats L)]:=by
 show (intsD (nats F)).bind _=(intsD (nats L)).bind _
 rw [zcd,zcd]
 simp only [Option.bind_some,List.length_map]
 rw [h.length_eq]
 have e:sortI (F.map fun (x:Nat)=>(x:Int))=sortI (L.map fun (x:Nat)=>(x:Int)):=zab ((qr _).trans ((h.map _).trans (qr _).symm)) (jf _) (jf _)
 rw [e]
def add1 (F:List Nat) (a:Arw):List Nat:=if a.g∈F/\a.s∉F then F++[a.s] else F
theorem zmc {as:List Arw} {g:Nat} {F:List Nat} {a:Arw} (h:Fnd as g F) (ha:a∈as):Fnd as g (add1 F a):=by
 unfold add1
 split
 ·next hc =>
  refine ⟨List.nodup_append.mpr ⟨h.nd,by simp,fun x hx y hy=>?_⟩,List.mem_append_left _ h.st,fun x hx=>?_⟩
  ·rw [List.mem_singleton.mp hy]
   exact fun z=>hc.2 (z ▸ hx)
  ·rcases List.mem_append.mp hx with hx | hx
   ·exact h.ok x hx
   ·rw [List.mem_singleton.mp hx]; exact .step ha (h.ok _ hc.1)
 ·exact h
theorem zfp {F:List Nat} {a:Arw}:∀x∈F,x∈add1 F a:=fun x hx=>by
 unfold add1
 split
 ·exact List.mem_append_left _ hx
 ·exact hx
def pass (as:List Arw) (F:List Nat):List Nat:=as.foldl add1 F
theorem zfq {as0:List Arw} {g:Nat}:∀(as:List Arw) (F:List Nat),(∀a∈as,a∈as0)->Fnd as0 g F->Fnd as0 g (pass as F)/\(∀x∈F,x∈pass as F)/\(∀x∈pass as F,x∈F\/∃a∈as,a.s=x)
 | [],F,_,h=>⟨h,fun _ hx=>hx,fun _ hx=>.inl hx⟩
 | a::as,F,hs,h=>by
  obtain ⟨i1,i2,i3⟩:=zfq as (add1 F a) (fun b hb=>hs b (List.mem_cons_of_mem _ hb)) (zmc h (hs a List.mem_cons_self))
  refine ⟨i1,fun x hx=>i2 x (zfp x hx),fun x hx=>?_⟩
  rcases i3 x hx with h1 | ⟨b,hb,h1⟩
  ·unfold add1 at h1
   split at h1
   ·rcases List.mem_append.mp h1 with h1 | h1
    ·exact .inl h1
    ·exact .inr ⟨a,List.mem_cons_self,(List.mem_singleton.mp h1).symm⟩
   ·exact .inl h1
  ·exact .inr ⟨b,List.mem_cons_of_mem _ hb,h1⟩
theorem zn2 (F:List Nat) (a:Arw):F.length<=(add1 F a).length/\((add1 F a).length=F.length->add1 F a=F/\(a.g∈F->a.s∈F)):=by
 unfold add1
 split
 ·rw [List.length_append]; exact ⟨Nat.le_add_right _ _,fun h=>absurd h (by simp)⟩
 ·next hc=>exact ⟨Nat.le_refl _,fun _=>⟨rfl,fun h=>Classical.byContradiction fun z=>hc ⟨h,z⟩⟩⟩
theorem ziz:∀(as:List Arw) (F:List Nat),F.length<=(pass as F).length/\((pass as F).length=F.length->pass as F=F/\Cls as F)
 | [],F=>⟨Nat.le_refl _,fun _=>⟨rfl,fun a ha=>(by cases ha)⟩⟩
 | a::as,F=>by
  obtain ⟨l1,l2⟩:=zn2 F a
  obtain ⟨i1,i2⟩:=ziz as (add1 F a)
  refine ⟨Nat.le_trans l1 i1,fun h=>?_⟩
  have h:(pass as (add1 F a)).length=F.length:=h
  obtain ⟨e1,e2⟩:=l2 (by omega)
  rw [e1] at i2 h
  obtain ⟨e3,e4⟩:=i2 h
  refine ⟨by show pass as (add1 F a)=F; rw [e1,e3],fun b hb=>?_⟩
  rcases List.mem_cons.mp hb with rfl | hb
  ·exact e2
  ·exact e4 b hb
theorem passes {as:List Arw} {g:Nat}:∀n,Fnd as g (Nat.repeat (pass as) n [g])/\(∀x∈Nat.repeat (pass as) n [g],x∈g::as.map (·.s))/\(Cls as (Nat.repeat (pass as) n [g])\/n+1<=(Nat.repeat (pass as) n [g]).length)
 | 0=>⟨⟨by simp [Nat.repeat],by simp [Nat.repeat],fun x hx=>by
   have:x=g:=by simpa [Nat.repeat] using hx
   rw [this]; exact .self⟩,fun x hx=>by
   have:x=g:=by simpa [Nat.repeat] using hx
   rw [this]; exact List.mem_cons_self,.inr (by simp [Nat.repeat])⟩
 | n+1=>by
  obtain ⟨i1,i2,i3⟩:=passes (as:=as) (g:=g) n
  rw [show Nat.repeat (pass as) (n+1) [g]=pass as (Nat.repeat (pass as) n [g]) from rfl]
  generalize Nat.repeat (pass as) n [g]=F at *
  obtain ⟨p1,p2,p3⟩:=zfq as F (fun _ h=>h) i1
  obtain ⟨l1,l2⟩:=ziz as F
  refine ⟨p1,fun x hx=>?_,?_⟩
  ·rcases p3 x hx with h | ⟨a,ha,rfl⟩
   ·exact i2 x h
   ·exact List.mem_cons_of_mem _ (List.mem_map.mpr ⟨a,ha,rfl⟩)
  ·by_cases he:(pass as F).length=F.length
   ·obtain ⟨e1,e2⟩:=l2 he
    rw [e1]; exact .inl e2
   ·rcases i3 with h | h
    ·
     have stay:∀(bs:List Arw),(∀a∈bs,a∈as)->pass bs F=F:=by
      intro bs
      induction bs with
      | nil=>exact fun _=>rfl
      | cons b bs ih =>
       intro hb
       have e:add1 F b=F:=by
        unfold add1
        rw [if_neg fun z=>z.2 (h b (hb b List.mem_cons_self) z.1)]
       show pass bs (add1 F b)=F
       rw [e]
       exact ih fun a ha=>hb a (List.mem_cons_of_mem _ ha)
     exact absurd (by rw [stay as fun _ h=>h]) he
    ·exact .inr (by omega)
theorem zi0 {g:Nat} {as0:List Arw}:∀(bs:List Arw) (F:List Nat),(∀a∈bs,a∈as0)->Fnd as0 g F->∀a∈bs,a.g∈F->a.s∈pass bs F
 | b::bs,F,hs,h,a,ha,hg=>by
  have h1:=zmc h (hs b List.mem_cons_self)
  obtain ⟨_,p2,_⟩:=zfq bs (add1 F b) (fun c hc=>hs c (List.mem_cons_of_mem _ hc)) h1
  rcases List.mem_cons.mp ha with rfl | ha
  ·refine p2 _ ?_
   unfold add1
   by_cases hc:a.s∈F
   ·rw [if_neg (fun z=>z.2 hc)]; exact hc
   ·rw [if_pos ⟨hg,hc⟩]; exact List.mem_append_right _ (List.mem_singleton.mpr rfl)
  ·exact zi0 bs (add1 F b) (fun c hc=>hs c (List.mem_cons_of_mem _ hc)) h1 a ha (zfp _ hg)
theorem zi1:∀(bs:List Arw) (F:List Nat),∃e,pass bs F=F++e
 | [],F=>⟨[],by simp [pass]⟩
 | b::bs,F=>by
  obtain ⟨e,he⟩:=zi1 bs (add1 F b)
  show ∃e,pass bs (add1 F b)=F++e
  rw [he]
  unfold add1
  split
  ·exact ⟨[b.s]++e,by simp⟩
  ·exact ⟨e,rfl⟩
theorem jd (neg:Bool) (n:Nat) (out:List Nat):inD neg (.int (n:Int)) (.lst (nats out))=some (.bl (if neg then !decide (n∈out) else decide (n∈out))):=by
 have hs:(nats out).all D.sc=true:=by
  unfold nats
  rw [List.all_map]
  exact List.all_eq_true.mpr fun x _=>rfl
 have hi:inS (.int (n:Int)) (nats out)=decide (n∈out):=by
  unfold inS nats
  rw [List.any_map]
  clear hs
  induction out with
  | nil=>rfl
  | cons x out ih =>
   rw [List.any_cons,ih]
   show (((x:Int) == (n:Int)) || decide (n∈out))=_
   by_cases h:x=n
   ·subst h; simp
   ·have h':¬(x:Int)=(n:Int):=by omega
    have h2:¬n=x:=fun z=>h z.symm
    simp [h',h2]
 show (if _ then _ else _)=_
 rw [if_pos ⟨rfl,hs⟩,hi]
def into (as:List Arw) (g:Nat):List Nat:=(as.zipIdx.filter fun p=>decide (p.1.g=g)).map (·.2)
theorem zs6 {ns:List D} {as:List Arw} (hl:as.length<=1000) (g:Nat):qy [netD ns as,.int (g:Int)]=some (.lst (nats (into as g))):=by
 have q:∀r:L3.Env,r[0]?.join=some (netD ns as)->r[1]?.join=some (.int (g:Int))->za2 r=some (.lst (nats (into as g))):=fun r hr hr1=>by
  have e:(fun ρ=>((aCons (e1 (fldD [4] "arrows") (eV 0)) aNil) ρ).bind fun ds=>match ds with | [.lst xs]=>some (enumD 0 xs) | _=>none) r=some (as.zipIdx.map fun p=>D.tup [.int (p.2:Int),encA p.1]):=by
   have:eV 0 r=some (netD ns as):=hr
   have e2:e1 (fldD [4] "arrows") (eV 0) r=some (.lst (as.map encA)):=by unfold e1; rw [this]; rfl
   show ((aCons (e1 (fldD [4] "arrows") (eV 0)) aNil) r).bind _=_
   unfold aCons
   rw [e2]
   show some (enumD 0 (as.map encA))=_
   rw [zfl encA]
  have hc:capsD r [1]=[some (.int (g:Int))]:=by unfold capsD; simp [hr1]
  have:=zak (own:=2) (cap:=[1]) (fi:=fun ρ=>((aCons (e1 (fldD [4] "arrows") (eV 0)) aNil) ρ).bind fun ds=>match ds with | [.lst xs]=>some (enumD 0 xs) | _=>none) (g:=gT (gsCons (gV 0) (gsCons (gV 1) gsNil))) (p:=tb (e2 (eqD false) (e1 (fldD [0,1,2,3] "goal") (eV 1)) (eV 2))) (f:=eV 0) (fun p:Arw×Nat=>D.tup [.int (p.2:Int),encA p.1]) (fun p=>decide (p.1.g=g)) (fun p=>D.int (p.2:Int)) as.zipIdx e (by simp; omega) (fun p _=>by
    refine ⟨_,rfl,?_,fun _=>rfl⟩
    rw [hc]
    have:=fg p.1
    have hd:decide ((p.1.g:Int)=(g:Int))=decide (p.1.g=g):=by
     by_cases h:p.1.g=g
     ·simp [h]
     ·have:¬(p.1.g:Int)=(g:Int):=by omega
      simp [h,this]
    rw [← hd]
    walk_at "mir")
  rw [show za2 r=_ from this]
  unfold into nats
  rw [List.map_map]
  rfl
 unfold qy
 clear hl
 walk_at "mir"
theorem zq5 {m:Str} {f:List D->Option D} {ns:List D} {as:List Arw} {ds:List D} (h:(["names","arrows"]:List Str).contains m=false):metD 4 m f (netD ns as) ds=f (netD ns as::ds):=by
 show (if 4=4/\(["names","arrows"]:List Str).contains m=false then f (netD ns as::ds) else none)=_
 rw [if_pos ⟨rfl,h⟩]
theorem zox {ns:List D} {as:List Arw} {g d here:Nat}:∀(qs:List (Arw×Nat)) (F:List Nat) (x5:Option D),here∈F->(∀p∈qs,as[p.2]?=some p.1/\p.1.g=here)->F.length+qs.length<=10000 ->
  ∃y5,forD (gV 5) um (qs.map fun p=>D.int (p.2:Int)) [some (netD ns as),some (.int (g:Int)),some (.lst (nats F)),some (.int (d:Int)),some (.int (here:Int)),x5]=some (.nx [some (netD ns as),some (.int (g:Int)),some (.lst (nats (pass (qs.map (·.1)) F))),some (.int (d:Int)),some (.int (here:Int)),y5])
 | [],F,x5,_,_,_=>⟨x5,rfl⟩
 | p::qs,F,x5,hh,hq,hl=>by
  obtain ⟨hp1,hp2⟩:=hq p List.mem_cons_self
  have hlen:(add1 F p.1).length<=F.length+1:=by unfold add1; split <;> simp
  obtain ⟨y5,hy⟩:=zox (ns:=ns) (g:=g) (d:=d) qs (add1 F p.1) (some (.int (p.2:Int))) (zfp _ hh) (fun q hq'=>hq q (List.mem_cons_of_mem _ hq')) (by rw [List.length_cons] at hl; omega)
  refine ⟨y5,?_⟩
  have step:um [some (netD ns as),some (.int (g:Int)),some (.lst (nats F)),some (.int (d:Int)),some (.int (here:Int)),some (.int (p.2:Int))]=some (.nx [some (netD ns as),some (.int (g:Int)),some (.lst (nats (add1 F p.1))),some (.int (d:Int)),some (.int (here:Int)),some (.int (p.2:Int))]):=by
   have n1:=jd true p.1.s F
   have f4:fldD [4] "arrows" (netD ns as)=some (.lst (as.map encA)):=rfl
   have i1:ixD (.lst (as.map encA)) (.int (p.2:Int))=some (encA p.1):=ui (by rw [List.getElem?_map,hp1]; rfl)
   have g1:=fs p.1
   have hz:(nats F).length<16777216:=by unfold nats; rw [List.length_map]; rw [List.length_cons] at hl; omega
   by_cases hs:p.1.s∈F
   ·have e:add1 F p.1=F:=by unfold add1; rw [if_neg fun z=>z.2 hs]
    rw [e]
    rw [decide_eq_true hs] at n1
    generalize netD ns as=net at *
    generalize nats F=fs at *
    unfold um
    clear hy hq hl hp1 hp2 hlen hs hh e
    walk_at "mir"
   ·have e:nats (add1 F p.1)=nats F++[.int (p.1.s:Int)]:=by
     unfold add1
     rw [if_pos ⟨by rw [hp2]; exact hh,hs⟩]
     simp [nats]
    rw [e]
    rw [decide_eq_false hs] at n1
    generalize netD ns as=net at *
    generalize nats F=fs at *
    unfold um
    clear hy hq hl hp1 hp2 hlen hs hh e
    walk_at "mir"
  show (um [some (netD ns as),some (.int (g:Int)),some (.lst (nats F)),some (.int (d:Int)),some (.int (here:Int)),some (.int (p.2:Int))]).bind _=_
  rw [step]
  exact hy
def mu15 (ρ:L3.Env):Nat:=match ρ with
 | [_,_,_,some (.int d),_,_]=>(1000-d).toNat
 | _=>0
theorem zq6 {ns:List D} {as:List Arw} {many g:Nat} (hm:many<=40) (hl:as.length<=120) (hs:∀a∈as,a.s<many) (hg:g<many):∃F:List Nat,Fnd as g F/\Cls as F/\(∀x∈F,x<many)/\jw [netD ns as,.int (g:Int)]=sortD [.lst (nats F)]:=by
 obtain ⟨ρ',h1,hI,hc⟩:=zci (c:=tb (e2 ltD (eV 3) (eN lenD (aCons (eV 2) aNil)))) (b:=za3)
  (fun ρ=>∃(F:List Nat) (d:Nat) (x4 x5:Option D),ρ=[some (netD ns as),some (.int (g:Int)),some (.lst (nats F)),some (.int (d:Int)),x4,x5]/\Fnd as g F/\(∀x∈F,x<many)/\d<=F.length/\∀i,i<d->∀a∈as,F[i]?=some a.g->a.s∈F) mu15 (by
   rintro ρ ⟨F,d,x4,x5,rfl,hF,hlt,hd,hdone⟩
   have hFl:=Kahn.len_le hF.nd hlt
   have hlen:(nats F).length=F.length:=by simp [nats]
   refine ⟨decide (d<F.length),?_,fun hlt2=>?_⟩
   ·have e:decide ((d:Int)<((nats F).length:Int))=decide (d<F.length):=by rw [hlen]; by_cases h:d<F.length <;> simp [h] <;> omega
    rw [← e]
    generalize netD ns as=net at *
    generalize nats F=fs at *
    clear hF hlt hd hdone hFl hlen e
    walk_at "mir"
   ·have hdl:d<F.length:=by simpa using hlt2
    obtain ⟨here,hh⟩:∃here,F[d]?=some here:=⟨_,List.getElem?_eq_getElem hdl⟩
    have hhF:here∈F:=List.mem_iff_getElem?.mpr ⟨_,hh⟩
    have in1:=zs6 (ns:=ns) (as:=as) (by omega) here
    have in2:=zq5 (m:="into") (f:=qy) (ns:=ns) (as:=as) (ds:=[.int (here:Int)]) (by decide +kernel)
    rw [in1] at in2
    have hps:∀p∈as.zipIdx.filter (fun p=>decide (p.1.g=here)),as[p.2]?=some p.1/\p.1.g=here:=fun p hp=>⟨zsu (List.mem_filter.mp hp).1,by simpa using (List.mem_filter.mp hp).2⟩
    have hpl:(as.zipIdx.filter (fun p=>decide (p.1.g=here))).length<=120:=Nat.le_trans (List.length_filter_le _ _) (by rw [List.length_zipIdx]; exact hl)
    have hn:nats (into as here)=(as.zipIdx.filter (fun p=>decide (p.1.g=here))).map fun p=>D.int (p.2:Int):=by unfold into nats; rw [List.map_map]; rfl
    have hsub:∀a∈(as.zipIdx.filter (fun p=>decide (p.1.g=here))).map (·.1),a∈as:=fun a ha=>by
     obtain ⟨p,hp,rfl⟩:=List.mem_map.mp ha
     exact List.mem_iff_getElem?.mpr ⟨_,(hps p hp).1⟩
    have hall:∀a∈as,a.g=here->a∈(as.zipIdx.filter (fun p=>decide (p.1.g=here))).map (·.1):=fun a ha hag=>by
     have:=zes (fun a:Arw=>decide (a.g=here)) as 0
     rw [this]
     exact List.mem_filter.mpr ⟨ha,by simpa using hag⟩
    obtain ⟨y5,hy⟩:=zox (ns:=ns) (as:=as) (g:=g) (d:=d) (here:=here) _ F x5 hhF hps (by omega)
    generalize (as.zipIdx.filter (fun p=>decide (p.1.g=here))).map (·.1)=bs at *
    obtain ⟨p1,p2,p3⟩:=zfq bs F hsub hF
    obtain ⟨ext,hext⟩:=zi1 bs F
    rw [← hn] at hy
    refine ⟨[some (netD ns as),some (.int (g:Int)),some (.lst (nats (pass bs F))),some (.int ((d+1:Nat):Int)),some (.int (here:Int)),y5],.inl ?_,⟨pass bs F,d+1,_,_,rfl,p1,fun x hx=>?_,?_,fun i hi a ha hag=>?_⟩,?_⟩
    ·have i1:ixD (.lst (nats F)) (.int (d:Int))=some (.int (here:Int)):=ui (by unfold nats; rw [List.getElem?_map,hh]; rfl)
     have e1:((d+1:Nat):Int)=(d:Int)+1:=by omega
     rw [e1]
     generalize nats (pass bs F)=f2 at *
     generalize nats F=f1 at *
     generalize nats (into as here)=ms at *
     generalize netD ns as=net at *
     unfold za3 sAug i2
     clear hF hlt hd hdone hFl hlen hlt2 hdl hh hhF in1 hps hpl hn hsub hall p1 p2 p3 hext e1
     walk_at "mir"
    ·rcases p3 x hx with h | ⟨a,ha,rfl⟩
     ·exact hlt x h
     ·exact hs a (hsub a ha)
    ·rw [hext,List.length_append]; omega
    ·by_cases hid:i<d
     ·refine p2 _ (hdone i hid a ha ?_)
      rw [hext,List.getElem?_append_left (by omega)] at hag
      exact hag
     ·obtain rfl:i=d:=by omega
      rw [hext,List.getElem?_append_left hdl,hh] at hag
      have hag:here=a.g:=by simpa using hag
      exact zi0 bs F hsub hF a (hall a ha hag.symm) (by rw [← hag]; exact hhF)
    ·show (1000-((d+1:Nat):Int)).toNat<(1000-(d:Int)).toNat
     omega) FUEL [some (netD ns as),some (.int (g:Int)),some (.lst (nats [g])),some (.int ((0:Nat):Int)),none,none]
  ⟨[g],0,_,_,rfl,⟨by simp,by simp,fun x hx=>by rw [List.mem_singleton.mp hx]; exact .self⟩,fun x hx=>by rw [List.mem_singleton.mp hx]; exact hg,Nat.zero_le _,fun i hi=>by omega⟩ (zhg (by show (1000-((0:Nat):Int)).toNat<1048576; omega))
 obtain ⟨F,d,x4,x5,rfl,hF,hlt,hd,hdone⟩:=hI
 have hlen:(nats F).length=F.length:=by simp [nats]
 have hdl:d=F.length:=by
  have e:tb (e2 ltD (eV 3) (eN lenD (aCons (eV 2) aNil))) [some (netD ns as),some (.int (g:Int)),some (.lst (nats F)),some (.int (d:Int)),x4,x5]=some (decide ((d:Int)<((nats F).length:Int))):=rfl
  rw [e,hlen] at hc
  have:¬(d:Int)<(F.length:Int):=by simpa using hc
  omega
 refine ⟨F,hF,fun a ha hag=>?_,hlt,?_⟩
 ·obtain ⟨i,hi,ei⟩:=List.mem_iff_getElem.mp hag
  exact hdone i (by omega) a ha (by rw [List.getElem?_eq_getElem hi,ei])
 ·obtain ⟨v,hv⟩:∃v,sortD [.lst (nats F)]=some v:=by
   show ∃v,(intsD (nats F)).bind _=some v
   rw [zcd]
   have:=Kahn.len_le hF.nd hlt
   simp only [Option.bind_some,List.length_map]
   rw [if_pos (by omega)]
   exact ⟨_,rfl⟩
  rw [hv]
  have e0:((0:Nat):Int)=0:=rfl
  have e1:nats [g]=[.int (g:Int)]:=rfl
  rw [e0,e1] at h1
  generalize netD ns as=net at *
  generalize nats F=fs at *
  unfold jw sWhile
  clear hc hF hlt hd hdone hlen hdl hg hs hl hm
  walk_at "mir"
structure Ld (many:Nat) (as:List Arw) (g:Nat) (L:List Nat):Prop where
 srt:L=(List.range many).filter fun x=>decide (x∈L)
 mem:∀x,x∈L↔Rch as g x
theorem Ld.lt {many:Nat} {as:List Arw} {g:Nat} {L:List Nat} (h:Ld many as g L):∀x∈L,x<many:=fun x hx=>by
 rw [h.srt] at hx
 exact List.mem_range.mp (List.mem_filter.mp hx).1
theorem Ld.uniq {many:Nat} {as:List Arw} {g:Nat} {L L':List Nat} (h:Ld many as g L) (h':Ld many as g L'):L=L':=by
 rw [h.srt,h'.srt]
 refine List.filter_congr fun x _=>?_
 exact decide_eq_decide.mpr ((h.mem x).trans (h'.mem x).symm)
theorem Ld.cls {many:Nat} {as:List Arw} {g:Nat} {L:List Nat} (h:Ld many as g L) {a:Arw} (ha:a∈as) (hg:a.g∈L):a.s∈L:=(h.mem _).mpr (.step ha ((h.mem _).mp hg))
theorem zg2 {many:Nat} {F:List Nat} (nd:F.Nodup) (lt:∀x∈F,x<many) (hm:many<64):sortD [.lst (nats F)]=some (.lst (nats ((List.range many).filter fun x=>decide (x∈F)))):=by
 have nd0:((List.range many).filter fun x=>decide (x∈F)).Nodup:=List.Pairwise.filter _ List.nodup_range
 have hl:((List.range many).filter fun x=>decide (x∈F)).length<64:=by
  have:=List.length_filter_le (fun x=>decide (x∈F)) (List.range many)
  rw [List.length_range] at this
  omega
 have srt:((List.range many).filter fun x=>decide (x∈F)).Pairwise (· < ·):=List.Pairwise.filter _ List.pairwise_lt_range
 have p:=zma (F:=F) (L:=(List.range many).filter fun x=>decide (x∈F)) nd nd0 fun x=>by
  rw [List.mem_filter,decide_eq_true_iff,List.mem_range]
  exact ⟨fun h=>⟨lt x h,h⟩,fun h=>h.2⟩
 rw [zmb p hl]
 generalize (List.range many).filter (fun x=>decide (x∈F))=L at *
 show (intsD (nats L)).bind _=_
 rw [zcd]
 simp only [Option.bind_some,List.length_map]
 rw [if_pos hl]
 have e:sortI (L.map fun (x:Nat)=>(x:Int))=L.map fun (x:Nat)=>(x:Int):=zab (qr _) (jf _) (List.pairwise_map.mpr (srt.imp fun h=>by omega))
 rw [e,List.map_map]
 rfl
theorem zs7 {many:Nat} {as:List Arw} {g:Nat} {F:List Nat} (h:Fnd as g F) (hc:Cls as F) (lt:∀x∈F,x<many):Ld many as g ((List.range many).filter fun x=>decide (x∈F)):=by
 have m:∀x,x∈(List.range many).filter (fun x=>decide (x∈F))↔x∈F:=fun x=>by
  rw [List.mem_filter,decide_eq_true_iff,List.mem_range]
  exact ⟨fun h=>h.2,fun h=>⟨lt x h,h⟩⟩
 refine ⟨?_,fun x=>(m x).trans (h.all hc x)⟩
 exact List.filter_congr fun x _=>decide_eq_decide.mpr (m x).symm
theorem zq7 {ns:List D} {as:List Arw} {many g:Nat} (hm:many<=40) (hl:as.length<=120) (hs:∀a∈as,a.s<many) (hg:g<many):∃L:List Nat,jw [netD ns as,.int (g:Int)]=some (.lst (nats L))/\Ld many as g L:=by
 obtain ⟨F,h1,h2,h3,h4⟩:=zq6 (ns:=ns) hm hl hs hg
 exact ⟨_,h4.trans (zg2 h1.nd h3 (by omega)),zs7 h1 h2 h3⟩
theorem zoy (as:List Arw) (f:Arw->Int) (g x:Nat):Rch (as.map fun a=>mkA a (f a)) g x↔Rch as g x:=by
 constructor
 ·intro h
  induction h with
  | self=>exact .self
  | step ha _ ih =>
   obtain ⟨a,h1,rfl⟩:=List.mem_map.mp ha
   exact Rch.step (a:=a) h1 ih
 ·intro h
  induction h with
  | self=>exact .self
  | @step a ha _ ih=>exact Rch.step (a:=mkA a (f a)) (List.mem_map.mpr ⟨a,ha,rfl⟩) ih
theorem Ld.made {many:Nat} {as:List Arw} {g:Nat} {L:List Nat} (f:Arw->Int):Ld many (as.map fun a=>mkA a (f a)) g L↔Ld many as g L :=
 ⟨fun h=>⟨h.srt,fun x=>(h.mem x).trans (zoy as f g x)⟩,fun h=>⟨h.srt,fun x=>(h.mem x).trans (zoy as f g x).symm⟩⟩
theorem zi2 {e0 e1 e2' e4:Option D}:∀(bs:List Arw) (F:List Nat) (y5:Option D),F.length+bs.length<=10000->∃z5,forD (gV 5) wk (bs.map encT) [e0,e1,e2',some (.lst (nats F)),e4,y5]=some (.nx [e0,e1,e2',some (.lst (nats (pass bs F))),e4,z5])
 | [],F,y5,_=>⟨y5,rfl⟩
 | a::bs,F,y5,hl=>by
  rw [List.length_cons] at hl
  have q1:=jd false a.g F
  have q2:=jd true a.s F
  rw [if_neg (by decide)] at q1
  rw [if_pos rfl] at q2
  have i0:ixD (encT a) (.int 0)=some (.int (a.s:Int)):=rfl
  have i1:ixD (encT a) (.int 1)=some (.int (a.g:Int)):=rfl
  have st:wk [e0,e1,e2',some (.lst (nats F)),e4,some (encT a)]=some (.nx [e0,e1,e2',some (.lst (nats (add1 F a))),e4,some (encT a)]):=by
   unfold add1
   by_cases h1:a.g∈F
   ·rw [decide_eq_true h1] at q1
    by_cases h2:a.s∈F
    ·rw [decide_eq_true h2] at q2
     rw [if_neg (fun z=>z.2 h2)]
     generalize encT a=ea at *
     generalize nats F=nf at *
     clear hl h1 h2
     unfold wk
     walk_at "mir"
    ·rw [decide_eq_false h2] at q2
     rw [if_pos ⟨h1,h2⟩]
     have e3:nats (F++[a.s])=nats F++[.int (a.s:Int)]:=by unfold nats; rw [List.map_append]; rfl
     have hz:(nats F).length<16777216:=by unfold nats; rw [List.length_map]; omega
     rw [e3]
     generalize encT a=ea at *
     generalize nats F=nf at *
     clear hl h1 h2 e3
     unfold wk
     walk_at "mir"
   ·rw [decide_eq_false h1] at q1
    rw [if_neg (fun z=>h1 z.1)]
    generalize encT a=ea at *
    generalize nats F=nf at *
    clear hl h1 q2
    unfold wk
    walk_at "mir"
  have hl2:(add1 F a).length<=F.length+1:=by
   unfold add1
   split
   ·simp
   ·omega
  obtain ⟨z5,ih⟩:=zi2 (e0:=e0) (e1:=e1) (e2':=e2') (e4:=e4) bs (add1 F a) (some (encT a)) (by omega)
  refine ⟨z5,?_⟩
  rw [List.map_cons]
  show (wk [e0,e1,e2',some (.lst (nats F)),e4,some (encT a)]).bind _=_
  rw [st]
  exact ih
theorem zjv {as:List Arw} {many g:Nat} (hm:many<=40) (hl:as.length<=120) (hs:∀a∈as,a.s<many) (hg:g<many):∃L:List Nat,ju [.lst (as.map encT),.int (g:Int),.int (many:Int)]=some (.lst (nats L))/\Ld many as g L:=by
 have lt:∀n x,x∈Nat.repeat (pass as) n [g]->x<many:=fun n x hx=>by
  rcases List.mem_cons.mp ((passes (as:=as) (g:=g) n).2.1 x hx) with h | h
  ·omega
  ·obtain ⟨a,h1,rfl⟩:=List.mem_map.mp h
   exact hs a h1
 obtain ⟨ρ',h1,hI⟩:=zbc (g:=gV 4) (b:=za5) (lo:=0) (n:=many) (ρ:=[some (.lst (as.map encT)),some (.int (g:Int)),some (.int (many:Int)),some (.lst [.int (g:Int)]),none,none])
  (fun k ρ=>∃(y4 y5:Option D),ρ=[some (.lst (as.map encT)),some (.int (g:Int)),some (.int (many:Int)),some (.lst (nats (Nat.repeat (pass as) k [g]))),y4,y5])
  ⟨_,_,rfl⟩ (by
   rintro k ρ hk ⟨y4,y5,rfl⟩
   have hlen:(Nat.repeat (pass as) k [g]).length<=many:=Kahn.len_le (passes (as:=as) (g:=g) k).1.nd (lt k)
   obtain ⟨z5,i1⟩:=zi2 (e0:=some (.lst (as.map encT))) (e1:=some (.int (g:Int))) (e2':=some (.int (many:Int))) (e4:=some (.int (0+(k:Int)))) as (Nat.repeat (pass as) k [g]) y5 (by omega)
   exact ⟨_,_,rfl,.inl i1,_,z5,rfl⟩)
 obtain ⟨y4,y5,rfl⟩:=hI
 have ps:=passes (as:=as) (g:=g) many
 have cl:Cls as (Nat.repeat (pass as) many [g]):=by
  rcases ps.2.2 with h | h
  ·exact h
  ·have:=Kahn.len_le ps.1.nd (lt many)
   omega
 refine ⟨_,?_,zs7 ps.1 cl (lt many)⟩
 have so:=zg2 ps.1.nd (lt many) (by omega:many<64)
 have r1:rng1 [.int (many:Int)]=some (upto 0 many):=by rw [zbd (by omega) (by omega)]; rfl
 generalize nats ((List.range many).filter fun x=>decide (x∈Nat.repeat (pass as) many [g]))=nl at *
 generalize nats (Nat.repeat (pass as) many [g])=nf at *
 generalize as.map encT=al at *
 clear ps cl lt hs hg hl hm
 unfold ju
 walk_at "mir"
def encQ:Option (Int×Int)->D
 | none=>.non
 | some q=>fr q
def pyQ:Option (Int×Int)->PyData
 | none=>.none
 | some q=>.tuple [.int q.1,.int q.2]
def Eq':EncD (Option (Int×Int)):=⟨encQ,pyQ,1,fun x=>by cases x <;> simp [encQ,pyQ,fr,D.py,D.pys],fun x=>by cases x <;> rfl,fun x=>by cases x <;> simp [pyQ,PyData.depth,PyData.depthAll],fun x y=>by
 cases x with
 | none=>cases y <;> rfl
 | some a =>
  cases y with
  | none=>rfl
  | some b =>
   have:=(E2 Ei Ei).eqv a b
   show PyData.eqv (.tuple [.int a.1,.int a.2]) (.tuple [.int b.1,.int b.2])=_
   exact this.trans (decide_eq_decide.mpr (by simp))⟩
def qL (L:List (Option (Int×Int))):D:=.lst (L.map encQ)
def tmQ (L:List (Option (Int×Int))) (g:Nat):Int×Int:=((L[g]?).join).getD (0,1)
def tmd (L:List (Option (Int×Int))):List Nat:=(List.range L.length).filter fun g=>((L[g]?).join).isSome
theorem zn3 {L:List (Option (Int×Int))} {g:Nat} (h:g∈tmd L):ixD (qL L) (.int (g:Int))=some (fr (tmQ L g)):=by
 obtain ⟨h1,h2⟩:=List.mem_filter.mp h
 have h1:=List.mem_range.mp h1
 unfold tmQ
 cases e:L[g]? with
 | none=>rw [List.getElem?_eq_none_iff] at e; omega
 | some o =>
  rw [e] at h2
  cases o with
  | none=>cases h2
  | some q=>exact ui (by rw [List.getElem?_map,e]; rfl)
theorem za8 {L:List (Option (Int×Int))} (h:∀q,some q∈L->Fq.Low q/\Fz 300 q) (g:Nat):Fq.Low (tmQ L g)/\Fz 300 (tmQ L g):=by
 unfold tmQ
 cases e:L[g]? with
 | none=>exact ⟨za7 0,⟨zam (w:=1) (by decide) (by decide) (by decide),zam (w:=1) (by decide) (by decide) (by decide)⟩⟩
 | some o =>
  cases o with
  | none=>exact ⟨za7 0,⟨zam (w:=1) (by decide) (by decide) (by decide),zam (w:=1) (by decide) (by decide) (by decide)⟩⟩
  | some q=>exact h q (List.mem_iff_getElem?.mpr ⟨g,e⟩)
theorem zn4 (o:Option (Int×Int)):(encQ o).isN = !o.isSome:=by cases o <;> rfl
theorem zn5 (o:Option (Int×Int)):isD true (encQ o) .non=some (.bl o.isSome):=by
 rw [zk9,zn4]
 cases o <;> rfl
theorem zq8 {L:List (Option (Int×Int))} (hl:L.length<=1000) (r:L3.Env) (h5:r[5]?.join=some (qL L)):za4 r=some (.lst (nats (tmd L))):=by
 have e0:eV 5 r=_:=h5
 have h:=zak (own:=2) (cap:=[]) (g:=gT (gsCons (gV 0) (gsCons (gV 1) gsNil))) (p:=tb (e2 (isD true) (eV 1) (eC .non))) (f:=eV 0) (fi:=fun ρ=>((aCons (eV 5) aNil) ρ).bind fun ds=>match ds with | [.lst xs]=>some (enumD 0 xs) | _=>none) (r:=r)
  (fun (p:Option (Int×Int)×Nat)=>D.tup [.int (p.2:Int),encQ p.1]) (fun p=>p.1.isSome) (fun p=>D.int (p.2:Int)) (L.zipIdx) (by
   unfold aCons aNil
   show ((eV 5 r).bind _).bind _=_
   rw [e0]
   show some (enumD 0 (L.map encQ))=_
   rw [zfl encQ L 0]) (by rw [List.length_zipIdx]; omega) fun p hp=>by
    refine ⟨[some (.int (p.2:Int)),some (encQ p.1)],rfl,?_,fun _=>rfl⟩
    obtain ⟨o,k⟩:=p
    cases o <;> rfl
 have e:za4 r=_:=h
 rw [e]
 congr 2
 unfold tmd nats
 have key:∀(L:List (Option (Int×Int))) (k:Nat),((L.zipIdx k).filter fun p=>p.1.isSome).map (fun p=>D.int (p.2:Int))=((List.range' k L.length).filter fun g=>((L[g-k]?).join).isSome).map fun (x:Nat)=>D.int (x:Int):=by
  intro L
  induction L with
  | nil=>intro k; rfl
  | cons o L ih =>
   intro k
   rw [List.zipIdx_cons,List.length_cons,List.range'_succ,List.filter_cons,List.filter_cons]
   have e2:((List.range' (k+1) L.length).filter fun g=>(((o::L)[g-k]?).join).isSome)=(List.range' (k+1) L.length).filter fun g=>((L[g-(k+1)]?).join).isSome:=List.filter_congr fun g hg=>by
    have:=(List.mem_range'_1.mp hg).1
    rw [show g-k=(g-(k+1))+1 by omega,List.getElem?_cons_succ]
   rw [e2]
   have e3:(((o::L)[k-k]?).join).isSome=o.isSome:=by rw [Nat.sub_self]; rfl
   rw [e3]
   cases o with
   | none=>exact ih (k+1)
   | some q =>
    show D.int (k:Int)::_=D.int (k:Int)::_
    rw [← ih (k+1)]
 have:=key L 0
 rw [← List.range_eq_range'] at this
 exact this
theorem zn6 {L:List (Option (Int×Int))} {many:Nat} (hl:L.length=many) (hm:many<=1000) (r:L3.Env) (h1:r[1]?.join=some (.int (many:Int))) (h10:r[10]?.join=some (qL L)):zdu r=some (.lst (nats (tmd L))):=by
 have h:=zak (own:=1) (cap:=[10]) (g:=gV 0) (p:=tb (e2 (isD true) (e2 ixD (eV 1) (eV 0)) (eC .non))) (f:=eV 0) (fi:=fun ρ=>((aCons (eV 1) aNil) ρ).bind rng1) (r:=r)
  (fun (t:Nat)=>D.int (t:Int)) (fun g=>((L[g]?).join).isSome) (fun (t:Nat)=>D.int (t:Int)) (List.range many) (zer h1 (by omega)) (by rw [List.length_range]; omega) fun g hg=>by
   have hcap:capsD r [10]=[some (qL L)]:=by unfold capsD; simp [h10]
   rw [hcap]
   refine ⟨[some (.int (g:Int)),some (qL L)],rfl,?_,fun _=>rfl⟩
   have hg:=List.mem_range.mp hg
   obtain ⟨o,ho⟩:∃o,L[g]?=some o:=⟨_,List.getElem?_eq_getElem (by omega)⟩
   have ix:ixD (qL L) (.int (g:Int))=some (encQ o):=ui (by rw [List.getElem?_map,ho]; rfl)
   rw [ho]
   show ((ixD (qL L) (.int (g:Int))).bind fun x=>isD true x .non).bind asB=some o.isSome
   rw [ix]
   cases o <;> rfl
 have e:zdu r=_:=h
 rw [e]
 unfold tmd nats
 rw [hl]
theorem zi3 (neg:Bool) (A B:List Nat):eqD neg (.lst (nats A)) (.lst (nats B))=some (.bl (if neg then !decide (A=B) else decide (A=B))):=by
 have:=(El Ei).eq (by decide) (neg:=neg) (A.map fun (x:Nat)=>(x:Int)) (B.map fun (x:Nat)=>(x:Int))
 have e:∀w:List Nat,(El Ei).enc (w.map fun (x:Nat)=>(x:Int))=.lst (nats w):=fun w=>by
  show D.lst ((w.map fun (x:Nat)=>(x:Int)).map D.int)=_
  rw [List.map_map]; rfl
 rw [e,e] at this
 have hd:decide ((A.map fun (x:Nat)=>(x:Int))=B.map fun (x:Nat)=>(x:Int))=decide (A=B):=decide_eq_decide.mpr (List.map_inj_right (fun x y h=>by omega))
 rw [hd] at this
 exact this
def KptL (pace:Int×Int) (tm:Nat->Int×Int) (L:List Nat) (as:List Arw):Bool:=as.all fun a=>!decide (a.g∈L) || !Fq.under (tm a.g) (early pace tm a)
theorem zjw {ns:List D} {many g:Nat} {as:List Arw} {is:List Int} {pace:Int×Int} {OL:List (Option (Int×Int))} {L:List Nat} {rank:Nat->Nat} (h:NetOk many as) (hn:ns.length=many) (hm:many<=40) (hl:is.length<=1000) (hal:as.length<=120) (hol:OL.length<=1000) (hrk:∀a∈as,a.b=0->rank a.s<rank a.g) (lp:Fq.Low pace) (zp:Fz 300 pace) (hO:∀q,some q∈OL->Fq.Low q/\Fz 300 q) (hlead:jw [netD ns as,.int (g:Int)]=some (.lst (nats L))) (hL:Ld many as g L) :
  ∃b:Bool,uc [netD ns as,.int (g:Int),.tup [fr pace,.lst (is.map .int),qL OL]]=some (.bl b)/\(b=true↔RngR (sI as) (gI as) as.length is/\Fq.mk (is.map (tI as)).sum (is.map (bI as)).sum=pace/\gI as (is.getD 0 0)∈L/\OL.length=many/\tmd OL=L/\KptL pace (tmQ OL) L as=true):=by
 have i0:∀a b c:D,ixD (.tup [a,b,c]) (.int 0)=some a:=fun _ _ _=>rfl
 have i1:∀a b c:D,ixD (.tup [a,b,c]) (.int 1)=some b:=fun _ _ _=>rfl
 have i2:∀a b c:D,ixD (.tup [a,b,c]) (.int 2)=some c:=fun _ _ _=>rfl
 have i0:=i0 (fr pace) (.lst (is.map .int)) (qL OL)
 have i1:=i1 (fr pace) (.lst (is.map .int)) (qL OL)
 have i2:=i2 (fr pace) (.lst (is.map .int)) (qL OL)
 have f4:=zdv ns as
 have f5:=znv ns as
 have ln:lenD [.lst ns]=some (.int (many:Int)):=(vk _).trans (by rw [hn])
 have lo:lenD [qL OL]=some (.int (OL.length:Int)):=(vk _).trans (by simp)
 obtain ⟨b,h1,h2⟩:=zjt (ns:=ns) (as:=as) (is:=is) (pace:=pace) hl (by omega) (fun a ha=>(h.right a ha).b) hrk
 cases b with
 | false =>
  refine ⟨false,?_,?_⟩
  ·generalize (D.tup [fr pace,.lst (is.map .int),qL OL])=PD at *
   generalize netD ns as=net at *
   generalize is.map D.int=il at *
   generalize qL OL=ol at *
   generalize fr pace=F at *
   generalize nats L=nl at *
   clear h2 hl hal hrk lp zp h hO hL f4 f5 ln lo
   unfold uc
   walk_at "mir"
  ·constructor
   ·intro z; cases z
   ·intro z; exact h2.mpr ⟨z.1,z.2.1⟩
 | true =>
  obtain ⟨rg,rm⟩:=h2.mp rfl
  have hne:=rg.1
  have hpos:=List.length_pos_iff.mpr hne
  have g0:is[0]?=some (is.getD 0 0):=wz hpos
  have hr0:=rg.2.1 _ (List.mem_iff_getElem?.mpr ⟨0,g0⟩)
  have ix0:ixD (.lst (is.map .int)) (.int 0)=some (.int (is.getD 0 0)):=by
   have:ixD (.lst (is.map .int)) (.int ((0:Nat):Int))=some (.int (is.getD 0 0)):=ui (by rw [List.getElem?_map,g0]; rfl)
   exact this
  have ia:=zov (as:=as) hr0.1 hr0.2
  have fgo:=fg (aN as (is.getD 0 0).toNat)
  have q1:=jd true (aN as (is.getD 0 0).toNat).g L
  rw [if_pos rfl] at q1
  have eg:gI as (is.getD 0 0)=(aN as (is.getD 0 0).toNat).g:=rfl
  rw [eg]
  by_cases hin:(aN as (is.getD 0 0).toNat).g∈L
  ·rw [decide_eq_true hin] at q1
   have qt:=zq8 (L:=OL) hol [some (netD ns as),some (.int (g:Int)),some (.tup [fr pace,.lst (is.map .int),qL OL]),some (fr pace),some (.lst (is.map .int)),some (qL OL),some (.lst (nats L)),none] rfl
   have e1:eqD true (.int (OL.length:Int)) (.int (many:Int))=some (.bl (!decide (OL.length=many))):=(zcj _ _).trans (by rw [if_pos rfl,show decide ((OL.length:Int)=(many:Int))=decide (OL.length=many) from decide_eq_decide.mpr (by omega)])
   have e2':=zi3 true (tmd OL) L
   rw [if_pos rfl] at e2'
   by_cases hlen:OL.length=many
   ·rw [decide_eq_true hlen] at e1
    by_cases htm:tmd OL=L
    ·rw [decide_eq_true htm] at e2'
     have qk:zcw [some (netD ns as),some (.int (g:Int)),some (.tup [fr pace,.lst (is.map .int),qL OL]),some (fr pace),some (.lst (is.map .int)),some (qL OL),some (.lst (nats L)),some (.lst (nats (tmd OL)))]=some (.lst (((as.filter fun a=>decide (a.g∈L)).map fun a=>!Fq.under (tmQ OL a.g) (early pace (tmQ OL) a)).map .bl)):=by
      rw [List.map_map]
      refine zak (own:=1) (cap:=[3,5,6]) (g:=gV 0) encA (fun a=>decide (a.g∈L)) (D.bl ∘ fun a=>!Fq.under (tmQ OL a.g) (early pace (tmQ OL) a)) as (by rfl) (by omega) fun a ha=>⟨[some (encA a),some (fr pace),some (qL OL),some (.lst (nats L))],rfl,?_,fun hq=>?_⟩
      ·have q3:=jd false a.g L
       rw [if_neg (by decide)] at q3
       have fga:=fg a
       generalize decide (a.g∈L)=bb at *
       generalize encA a=ea at *
       generalize nats L=nl at *
       generalize qL OL=ol at *
       clear qt e1 e2' hin q1 fgo ia ix0 h1 h2 rg rm h hO hL hrk
       walk_at "mir"
      ·have hq:a.g∈L:=of_decide_eq_true hq
       have hs:a.s∈L:=hL.cls ha hq
       rw [← htm] at hq hs
       exact zq3 (tm:=tmQ OL) (h.right a ha) (zn3 hs) (zn3 hq) lp (fun g=>(za8 hO g).1) zp (fun g=>(za8 hO g).2)
     have al:=zs5 ((as.filter fun a=>decide (a.g∈L)).map fun a=>!Fq.under (tmQ OL a.g) (early pace (tmQ OL) a))
     have ek:((as.filter fun a=>decide (a.g∈L)).map fun a=>!Fq.under (tmQ OL a.g) (early pace (tmQ OL) a)).all id=KptL pace (tmQ OL) L as:=by
      unfold KptL
      rw [List.all_map,List.all_filter]
      congr 1
     rw [ek] at al
     refine ⟨KptL pace (tmQ OL) L as,?_,⟨fun z=>⟨rg,rm,hin,hlen,htm,z⟩,fun z=>z.2.2.2.2.2⟩⟩
     generalize KptL pace (tmQ OL) L as=kk at *
     generalize ((as.filter fun a=>decide (a.g∈L)).map fun a=>!Fq.under (tmQ OL a.g) (early pace (tmQ OL) a)).map D.bl=bl at *
     generalize (D.tup [fr pace,.lst (is.map .int),qL OL])=PD at *
     generalize netD ns as=net at *
     generalize encA (aN as (is.getD 0 0).toNat)=ea at *
     generalize ((aN as (is.getD 0 0).toNat).g:Int)=gg at *
     generalize is.getD 0 0=i00 at *
     generalize is.map D.int=il at *
     generalize as.map encA=asl at *
     generalize nats (tmd OL)=tl at *
     generalize qL OL=ol at *
     generalize fr pace=F at *
     generalize nats L=nl at *
     generalize (OL.length:Int)=oln at *
     clear ek hin htm hlen hr0 g0 hpos hne rg rm h2 hl hal hrk lp zp h hO hL eg
     unfold uc
     walk_at "mir"
    ·rw [decide_eq_false htm] at e2'
     refine ⟨false,?_,⟨(fun z=>by cases z),fun z=>absurd z.2.2.2.2.1 htm⟩⟩
     generalize (D.tup [fr pace,.lst (is.map .int),qL OL])=PD at *
     generalize netD ns as=net at *
     generalize encA (aN as (is.getD 0 0).toNat)=ea at *
     generalize ((aN as (is.getD 0 0).toNat).g:Int)=gg at *
     generalize is.getD 0 0=i00 at *
     generalize is.map D.int=il at *
     generalize as.map encA=asl at *
     generalize nats (tmd OL)=tl at *
     generalize qL OL=ol at *
     generalize fr pace=F at *
     generalize nats L=nl at *
     generalize (OL.length:Int)=oln at *
     clear hin htm hlen hr0 g0 hpos hne rg rm h2 hl hal hrk lp zp h hO hL eg
     unfold uc
     walk_at "mir"
   ·rw [decide_eq_false hlen] at e1
    refine ⟨false,?_,⟨(fun z=>by cases z),fun z=>absurd z.2.2.2.1 hlen⟩⟩
    generalize (D.tup [fr pace,.lst (is.map .int),qL OL])=PD at *
    generalize netD ns as=net at *
    generalize encA (aN as (is.getD 0 0).toNat)=ea at *
    generalize ((aN as (is.getD 0 0).toNat).g:Int)=gg at *
    generalize is.getD 0 0=i00 at *
    generalize is.map D.int=il at *
    generalize as.map encA=asl at *
    generalize nats (tmd OL)=tl at *
    generalize qL OL=ol at *
    generalize fr pace=F at *
    generalize nats L=nl at *
    generalize (OL.length:Int)=oln at *
    clear hin hlen hr0 g0 hpos hne rg rm h2 hl hal hrk lp zp h hO hL eg e2'
    unfold uc
    walk_at "mir"
  ·rw [decide_eq_false hin] at q1
   refine ⟨false,?_,⟨(fun z=>by cases z),fun z=>absurd z.2.2.1 hin⟩⟩
   generalize (D.tup [fr pace,.lst (is.map .int),qL OL])=PD at *
   generalize netD ns as=net at *
   generalize encA (aN as (is.getD 0 0).toNat)=ea at *
   generalize ((aN as (is.getD 0 0).toNat).g:Int)=gg at *
   generalize is.getD 0 0=i00 at *
   generalize is.map D.int=il at *
   generalize as.map encA=asl at *
   generalize qL OL=ol at *
   generalize fr pace=F at *
   generalize nats L=nl at *
   clear hin hr0 g0 hpos hne rg rm h2 hl hal hrk lp zp h hO hL eg lo ln f5
   unfold uc
   walk_at "mir"
theorem ix_T {as:List Arw} {i:Int} (h0:0<=i) (h1:i<(as.length:Int)):ixD (.lst (as.map encT)) (.int i)=some (.tup [.int ((aN as i.toNat).s:Int),.int ((aN as i.toNat).g:Int),.int (aN as i.toNat).t,.int ((aN as i.toNat).b:Int)]):=by
 obtain ⟨n,rfl⟩:∃n:Nat,i=(n:Int):=⟨i.toNat,by omega⟩
 rw [Int.toNat_natCast]
 exact ui (by rw [List.getElem?_map,zgz (by omega)]; rfl)
theorem zn7 {as:List Arw} {many:Nat} {rk:Nat->Nat} (had:∀a∈as,Drawn many rk a) {w:List Nat} {x:Nat} (hx:Wlk (aS as) (aG as) x w x) (hw:w≠[]) (hn:∀n∈w,n<as.length) (hl:w.length<=8):(0<=(w.map (tN as)).sum/\(w.map (tN as)).sum<=8000000000)/\1<=(w.map (bN as)).sum/\(w.map (bN as)).sum<=32:=by
 obtain ⟨r1,r2⟩:=ziy (rank:=rk) (fun a ha=>(had a ha).r) hx hn
 have hwp:=List.length_pos_iff.mpr hw
 have bt:=zhx (f:=tN as) (m:=1000000000) (by decide) w fun n h=>⟨(had _ (zg1 (hn n h))).t0,(had _ (zg1 (hn n h))).t1⟩
 have bb:=zhx (f:=bN as) (m:=4) (by decide) w fun n h=>by
  have:=(had _ (zg1 (hn n h))).b
  unfold bN
  omega
 have hb0:1<=(w.map (bN as)).sum:=by
  by_cases e:(w.map (bN as)).sum=0
  ·have:=r2 e; omega
  ·omega
 exact ⟨⟨bt.1,by omega⟩,hb0,by omega⟩
theorem zoz {as:List Arw} {is:List Int} {j:Int} {f:Arw->Int} {q:EF} {fi:L3.Env->Option (List D)} (hq:q=eComp fi 1 [0] (gV 0) bTrue (e2 ixD (e2 ixD (eV 1) (eV 0)) (eC (.int j)))) (hf:∀a:Arw,ixD (.tup [.int (a.s:Int),.int (a.g:Int),.int a.t,.int (a.b:Int)]) (.int j)=some (.int (f a))) (hl:is.length<=1000) (hr:∀i∈is,0<=i/\i<(as.length:Int)) (r:L3.Env) (h0:r[0]?.join=some (.lst (as.map encT))) (hi:fi r=some (is.map .int)) :
  q r=some (.lst ((is.map fun i=>f (aN as i.toNat)).map .int)):=by
 rw [hq,List.map_map]
 refine zal D.int (fun i=>D.int (f (aN as i.toNat))) is hi (by omega) fun i hi'=>⟨_,rfl,?_⟩
 have hcap:capsD r [0]=[some (.lst (as.map encT))]:=by unfold capsD; simp [h0]
 rw [hcap]
 have i1:=ix_T (as:=as) (hr i hi').1 (hr i hi').2
 have f1:=hf (aN as i.toNat)
 generalize f (aN as i.toNat)=v at *
 generalize as.map encT=al at *
 generalize (D.tup [.int ((aN as i.toNat).s:Int),.int ((aN as i.toNat).g:Int),.int (aN as i.toNat).t,.int ((aN as i.toNat).b:Int)])=tp at *
 clear hcap h0 hr hi hi' hl hf hq
 walk_at "mir"
theorem zev {as:List Arw} {is:List Int} (hl:is.length<=1000) (hb:∀a∈as,a.b<=4) (hr:∀i∈is,0<=i/\i<(as.length:Int)) (h0:1<=(is.map (bI as)).sum):yn [.lst (as.map encT),.lst (is.map .int)]=some (fr (Fq.mk (is.map (tI as)).sum (is.map (bI as)).sum)):=by
 have k3:=zoz (as:=as) (is:=is) (j:=3) (f:=fun a=>(a.b:Int)) (q:=j6) (fi:=lsD (eV 1)) rfl (fun _=>rfl) hl hr [some (.lst (as.map encT)),some (.lst (is.map .int))] rfl rfl
 have k2:=zoz (as:=as) (is:=is) (j:=2) (f:=fun a=>a.t) (q:=j7) (fi:=lsD (eV 1)) rfl (fun _=>rfl) hl hr [some (.lst (as.map encT)),some (.lst (is.map .int))] rfl rfl
 replace k2:j7 _=some (.lst ((is.map (tI as)).map .int)):=k2
 replace k3:j6 _=some (.lst ((is.map (bI as)).map .int)):=k3
 have u2:=ziu (is.map (tI as))
 have u3:=ziu (is.map (bI as))
 have bd:=zl5 (f:=bI as) (m:=4) (by decide) is fun i hi=>by
  have:=hb (aN as i.toNat) (List.mem_iff_getElem?.mpr ⟨i.toNat,zgz (by have:=hr i hi; omega)⟩)
  unfold bI
  omega
 have lo:=zc5 (t:=(is.map (tI as)).sum) (b:=(is.map (bI as)).sum) (by omega) (zam (w:=4000) (by omega) (by omega) (by decide))
 generalize (is.map (tI as)).map D.int=tl at *
 generalize (is.map (bI as)).map D.int=bl at *
 generalize fr (Fq.mk (is.map (tI as)).sum (is.map (bI as)).sum)=F at *
 generalize (is.map (tI as)).sum=T at *
 generalize (is.map (bI as)).sum=Bh at *
 generalize as.map encT=al at *
 generalize is.map D.int=il at *
 clear hl hb hr h0 bd
 unfold yn
 walk_at "mir"
structure RFd (as:List Arw) (w:List Nat):Prop where
 l:w.length<=8
 n:∀n∈w,n<as.length
 x:w≠[]->∃x,Wlk (aS as) (aG as) x w x
theorem zhy {as:List Arw} {many:Nat} {rk:Nat->Nat} (had:∀a∈as,Drawn many rk a) {w:List Nat} (h:RFd as w) (hw:w≠[]):∃q:Int×Int,yn [.lst (as.map encT),.lst (nats w)]=some (fr q)/\Fq.Low q/\(0<=q.1/\q.1<=10000000000)/\q.2<=40:=by
 obtain ⟨x,hx⟩:=h.x hw
 obtain ⟨⟨t1,t2⟩,u1,u2⟩:=zn7 had hx hw h.n h.l
 have e1:((w.map fun (n:Nat)=>(n:Int)).map (tI as))=w.map (tN as):=by rw [List.map_map]; exact List.map_congr_left fun n _=>by simp [tI,tN]
 have e2:((w.map fun (n:Nat)=>(n:Int)).map (bI as))=w.map (bN as):=by rw [List.map_map]; exact List.map_congr_left fun n _=>by simp [bI,bN]
 have en:(w.map fun (n:Nat)=>(n:Int)).map D.int=nats w:=by rw [List.map_map]; rfl
 have m:=zev (as:=as) (is:=w.map fun (n:Nat)=>(n:Int)) (by rw [List.length_map]; have:=h.l; omega) (fun a ha=>(had a ha).b) (fun i hi=>by
  obtain ⟨n,h1,rfl⟩:=List.mem_map.mp hi
  have:=h.n n h1
  omega) (by rw [e2]; exact u1)
 rw [e1,e2,en] at m
 have l2:=Fq.mk_low (t:=(w.map (tN as)).sum) (b:=(w.map (bN as)).sum) (by omega)
 have b2:=Fq.mk_le_one (t:=(w.map (tN as)).sum) (b:=(w.map (bN as)).sum) (by omega)
 have b3:=Fq.mk_le_two (t:=(w.map (tN as)).sum) (b:=(w.map (bN as)).sum) (by omega)
 have c:=Fq.mk_cross (w.map (tN as)).sum (w.map (bN as)).sum
 have g:=l2.gt
 refine ⟨_,m,l2,⟨?_,by omega⟩,by omega⟩
 refine Int.nonneg_of_mul_nonneg_left (b:=(w.map (bN as)).sum) ?_ (by omega)
 rw [c]
 exact Int.mul_nonneg t1 (by omega)
theorem zhz {as:List Arw} {many:Nat} {rk:Nat->Nat} {L:List Nat} (hm:many<=8) (hal:as.length<=16) (had:∀a∈as,Drawn many rk a) (c:Int):∃w:List Nat,jc [.lst (as.map encT),.int c,.lst (nats L)]=some (.lst (nats w))/\RFd as w:=by
 obtain ⟨ρ',h1,hI⟩:=zbc (g:=gV 4) (b:=wv) (lo:=0) (n:=6) (ρ:=[some (.lst (as.map encT)),some (.int c),some (.lst (nats L)),some (.lst []),none,none,none,none])
  (fun _ ρ=>∃(w:List Nat) (y4 y5 y6 y7:Option D),ρ=[some (.lst (as.map encT)),some (.int c),some (.lst (nats L)),some (.lst (nats w)),y4,y5,y6,y7]/\RFd as w)
  ⟨[],_,_,_,_,rfl,⟨by simp,fun n hn=>(by cases hn),fun z=>absurd rfl z⟩⟩ (by
   rintro k ρ hk ⟨w,y4,y5,y6,y7,rfl,hw⟩
   rw [show (0:Int)+(k:Int)=(k:Int) by omega]
   obtain ⟨z,mx,hz⟩:=zco c (k:=10+(k:Int)) (by omega) (by omega)
   obtain ⟨v,v1,v2,v3,v4⟩:=zix (as:=as) (many:=many) (z:=z) (by omega) (by omega) (fun a ha=>⟨(had a ha).s,(had a ha).g⟩) hz
   have hv:RFd as v:=⟨by omega,v2,v3⟩
   have q1:=zfo true v
   rw [if_pos rfl] at q1
   by_cases e1:v=[]
   ·rw [decide_eq_true e1] at q1
    refine ⟨_,[some (.lst (as.map encT)),some (.int c),some (.lst (nats L)),some (.lst (nats w)),some (.int (k:Int)),some (.lst (nats v)),y6,y7],rfl,.inl ?_,w,_,_,_,_,rfl,hw⟩
    clear e1 hv v1 v2 v3 hz hw had hal hm
    generalize as.map encT=al at *
    generalize nats v=vl at *
    generalize nats w=wl at *
    generalize nats L=nl at *
    unfold wv
    walk_at "mir"
   ·rw [decide_eq_false e1] at q1
    obtain ⟨n0,hn0⟩:∃n0,v[0]?=some n0:=⟨_,List.getElem?_eq_getElem (List.length_pos_iff.mpr e1)⟩
    have ix0:ixD (.lst (nats v)) (.int 0)=some (.int (n0:Int)):=by
     have:ixD (.lst (nats v)) (.int ((0:Nat):Int))=some (.int (n0:Int)):=ui (by unfold nats; rw [List.getElem?_map,hn0]; rfl)
     exact this
    have ixa:=zju (as:=as) (v2 n0 (List.mem_iff_getElem?.mpr ⟨0,hn0⟩))
    have z0:∀(a b c d:D),ixD (.tup [a,b,c,d]) (.int 0)=some a:=fun _ _ _ _=>rfl
    have z0:=z0 (.int ((aN as n0).s:Int)) (.int ((aN as n0).g:Int)) (.int (aN as n0).t) (.int ((aN as n0).b:Int))
    have qi:=jd false (aN as n0).s L
    rw [if_neg (by decide)] at qi
    by_cases hin:(aN as n0).s∈L
    ·rw [decide_eq_true hin] at qi
     obtain ⟨a,a1,a2,a3,a4⟩:=zhy had hv e1
     have blk:∃b:Int×Int,(sIf (tb (e2 (eqD true) (eV 3) (fun ρ=>(aNil ρ).bind fun ds=>some (.lst ds)))) (sSet 7 (fun ρ=>((aCons (eV 0) (aCons (eV 3) aNil)) ρ).bind fun ds=>yn (ds++[]))) sSkip) [some (.lst (as.map encT)),some (.int c),some (.lst (nats L)),some (.lst (nats w)),some (.int (k:Int)),some (.lst (nats v)),some (fr a),some (.tup [.int (-1),.int 1])]=some (.nx [some (.lst (as.map encT)),some (.int c),some (.lst (nats L)),some (.lst (nats w)),some (.int (k:Int)),some (.lst (nats v)),some (fr a),some (fr b)])/\(-1<=b.1/\b.1<=10000000000)/\0<b.2/\b.2<=40:=by
      have q2:=zfo true w
      rw [if_pos rfl] at q2
      by_cases e2:w=[]
      ·rw [decide_eq_true e2] at q2
       refine ⟨(-1,1),?_,⟨by decide,by decide⟩,by decide,by decide⟩
       have hf:fr (-1,1)=.tup [.int (-1),.int 1]:=rfl
       rw [hf]
       clear e1 e2 hv v1 v2 v3 v4 hz hw had hal hm a1 a2 a3 a4 mx ix0 ixa z0 qi hin hn0 hf q1
       generalize as.map encT=al at *
       generalize nats v=vl at *
       generalize nats w=wl at *
       generalize nats L=nl at *
       generalize fr a=Fa at *
       walk_at "mir"
      ·rw [decide_eq_false e2] at q2
       obtain ⟨b,b1,b2,b3,b4⟩:=zhy had hw e2
       refine ⟨b,?_,⟨by omega,b3.2⟩,b2.gt,b4⟩
       clear e1 e2 hv v1 v2 v3 v4 hz hw had hal hm a1 a2 a3 a4 mx ix0 ixa z0 qi hin hn0 q1 b2 b3 b4
       generalize as.map encT=al at *
       generalize nats v=vl at *
       generalize nats w=wl at *
       generalize nats L=nl at *
       generalize fr a=Fa at *
       generalize fr b=Fb at *
       walk_at "mir"
     obtain ⟨b,k1,b3,b2,b4⟩:=blk
     have m1:mulI (.int a.1) (.int b.2)=some (.int (a.1 * b.2)):=zct (by omega) (by omega)
     have m2:mulI (.int b.1) (.int a.2)=some (.int (b.1 * a.2)):=zct (by omega) (by omega)
     have f0:=fr0 a
     have f1:=fr1 a
     have g0:=fr0 b
     have g1:=fr1 b
     have gt:=zk7 (a.1 * b.2) (b.1 * a.2)
     cases hd:decide (a.1 * b.2 > b.1 * a.2) with
     | true =>
      rw [hd] at gt
      have hd:=of_decide_eq_true hd
      refine ⟨_,[some (.lst (as.map encT)),some (.int c),some (.lst (nats L)),some (.lst (nats v)),some (.int (k:Int)),some (.lst (nats v)),some (fr a),some (fr b)],rfl,.inl ?_,v,_,_,_,_,rfl,hv⟩
      clear e1 hv v1 v2 v3 hz hw had hal hm a2 a3 a4 b2 b3 b4 hin hn0
      generalize (D.tup [.int ((aN as n0).s:Int),.int ((aN as n0).g:Int),.int (aN as n0).t,.int ((aN as n0).b:Int)])=tp at *
      generalize as.map encT=al at *
      generalize nats v=vl at *
      generalize nats w=wl at *
      generalize nats L=nl at *
      generalize fr a=Fa at *
      generalize fr b=Fb at *
      generalize a.1 * b.2=u1 at *
      generalize b.1 * a.2=u2 at *
      unfold wv
      generalize (sIf (tb (e2 (eqD true) (eV 3) (fun ρ=>(aNil ρ).bind fun ds=>some (.lst ds)))) (sSet 7 (fun ρ=>((aCons (eV 0) (aCons (eV 3) aNil)) ρ).bind fun ds=>yn (ds++[]))) sSkip)=B1 at *
      walk_at "mir"
     | false =>
      rw [hd] at gt
      have hd:=of_decide_eq_false hd
      refine ⟨_,[some (.lst (as.map encT)),some (.int c),some (.lst (nats L)),some (.lst (nats w)),some (.int (k:Int)),some (.lst (nats v)),some (fr a),some (fr b)],rfl,.inl ?_,w,_,_,_,_,rfl,hw⟩
      clear e1 hv v1 v2 v3 hz hw had hal hm a2 a3 a4 b2 b3 b4 hin hn0
      generalize (D.tup [.int ((aN as n0).s:Int),.int ((aN as n0).g:Int),.int (aN as n0).t,.int ((aN as n0).b:Int)])=tp at *
      generalize as.map encT=al at *
      generalize nats v=vl at *
      generalize nats w=wl at *
      generalize nats L=nl at *
      generalize fr a=Fa at *
      generalize fr b=Fb at *
      generalize a.1 * b.2=u1 at *
      generalize b.1 * a.2=u2 at *
      unfold wv
      generalize (sIf (tb (e2 (eqD true) (eV 3) (fun ρ=>(aNil ρ).bind fun ds=>some (.lst ds)))) (sSet 7 (fun ρ=>((aCons (eV 0) (aCons (eV 3) aNil)) ρ).bind fun ds=>yn (ds++[]))) sSkip)=B1 at *
      walk_at "mir"
    ·rw [decide_eq_false hin] at qi
     refine ⟨_,[some (.lst (as.map encT)),some (.int c),some (.lst (nats L)),some (.lst (nats w)),some (.int (k:Int)),some (.lst (nats v)),y6,y7],rfl,.inl ?_,w,_,_,_,_,rfl,hw⟩
     clear e1 hv v1 v2 v3 hz hw had hal hm hin hn0
     generalize (D.tup [.int ((aN as n0).s:Int),.int ((aN as n0).g:Int),.int (aN as n0).t,.int ((aN as n0).b:Int)])=tp at *
     generalize as.map encT=al at *
     generalize nats v=vl at *
     generalize nats w=wl at *
     generalize nats L=nl at *
     unfold wv
     walk_at "mir")
 obtain ⟨w,y4,y5,y6,y7,rfl,hw⟩:=hI
 refine ⟨w,?_,hw⟩
 have r1:rng1 [.int 6]=some (upto 0 6):=zbd (by decide) (by decide)
 clear hw had hal hm
 generalize as.map encT=al at *
 generalize nats w=wl at *
 generalize nats L=nl at *
 unfold jc
 walk_at "mir"
theorem zi4 {many:Nat} {P Q:Int} {L:List Nat} (hQ:0<Q/\Q<=40) (hP:0<=P/\P<=10000000000) {e0 e1 e2' e4 e7 e12 e13:Option D}:∀(as:List Arw) (top:Nat->Int) (C:Int) (y8 y9 y10 y11:Option D),(∀a∈as,AOk many a)->(∀g,0<=top g/\top g<=C) ->
  ∃(top':Nat->Int) (z8 z9 z10 z11:Option D),forD (gT (gsCons (gV 8) (gsCons (gV 9) (gsCons (gV 10) (gsCons (gV 11) gsNil))))) ud (as.map encT) [e0,e1,e2',some (.lst (nats L)),e4,some (.tup [.int P,.int Q]),some (.lst (vec many top)),e7,y8,y9,y10,y11,e12,e13]=some (.nx [e0,e1,e2',some (.lst (nats L)),e4,some (.tup [.int P,.int Q]),some (.lst (vec many top')),e7,z8,z9,z10,z11,e12,e13])/\∀g,0<=top' g/\top' g<=C+(as.length:Int) * 40000000000
 | [],top,C,y8,y9,y10,y11,_,h=>⟨top,y8,y9,y10,y11,rfl,fun g=>by have:=h g; simp; omega⟩
 | a::as,top,C,y8,y9,y10,y11,ha,h=>by
  have ok:=ha a List.mem_cons_self
  have qi:=jd false a.g L
  rw [if_neg (by decide)] at qi
  have st:∃top1:Nat->Int,ud [e0,e1,e2',some (.lst (nats L)),e4,some (.tup [.int P,.int Q]),some (.lst (vec many top)),e7,some (.int (a.s:Int)),some (.int (a.g:Int)),some (.int a.t),some (.int (a.b:Int)),e12,e13]=some (.nx [e0,e1,e2',some (.lst (nats L)),e4,some (.tup [.int P,.int Q]),some (.lst (vec many top1)),e7,some (.int (a.s:Int)),some (.int (a.g:Int)),some (.int a.t),some (.int (a.b:Int)),e12,e13])/\∀g,0<=top1 g/\top1 g<=C+40000000000:=by
   by_cases hin:a.g∈L
   ·rw [decide_eq_true hin] at qi
    have i1:ixD (.lst (vec many top)) (.int (a.s:Int))=some (.int (top a.s)):=zeq top ok.s
    have i2:ixD (.lst (vec many top)) (.int (a.g:Int))=some (.int (top a.g)):=zeq top ok.g
    have m1:mulI (.int a.t) (.int Q)=some (.int (a.t * Q)):=zcs (by omega) (by omega)
    have m2:mulI (.int P) (.int (a.b:Int))=some (.int (P * (a.b:Int))):=zcs (by omega) (by have:=ok.b; omega)
    have j0:ixD (.tup [.int P,.int Q]) (.int 0)=some (.int P):=rfl
    have j1:ixD (.tup [.int P,.int Q]) (.int 1)=some (.int Q):=rfl
    have b1:0<=a.t * Q/\a.t * Q<=1000000000 * 40:=⟨Int.mul_nonneg ok.t0 (by omega),Int.mul_le_mul ok.t1 hQ.2 (by omega) (by decide)⟩
    have b2:0<=P * (a.b:Int):=Int.mul_nonneg hP.1 (by omega)
    obtain ⟨v,hv⟩:∃v:Int,v=max (top a.g) (top a.s+a.t * Q-P * (a.b:Int)):=⟨_,rfl⟩
    have hset:=zlw top ok.g v
    refine ⟨fun x=>if x=a.g then v else top x,?_,fun g=>?_⟩
    ·have mx:max2D [.int (top a.g),.int (top a.s+a.t * Q-P * (a.b:Int))]=some (.int v):=(zgf _ _).trans (by rw [hv]; congr 2; omega)
     clear hv
     generalize vec many (fun x=>if x=a.g then v else top x)=vs2 at *
     generalize vec many top=vs at *
     generalize a.t * Q=w1 at *
     generalize P * (a.b:Int)=w2 at *
     generalize nats L=nl at *
     clear b1 b2 h ha ok hQ hP hin
     unfold ud sPutL
     walk_at "mir"
    ·have h1:=h g
     have h2:=h a.s
     have h3:=h a.g
     dsimp only
     split <;> omega
   ·rw [decide_eq_false hin] at qi
    refine ⟨top,?_,fun g=>by have:=h g; omega⟩
    generalize vec many top=vs at *
    generalize nats L=nl at *
    clear h ha ok hQ hP hin
    unfold ud
    walk_at "mir"
  obtain ⟨top1,st1,st2⟩:=st
  obtain ⟨top',z8,z9,z10,z11,k1,k2⟩:=zi4 (L:=L) hQ hP (e0:=e0) (e1:=e1) (e2':=e2') (e4:=e4) (e7:=e7) (e12:=e12) (e13:=e13) as top1 (C+40000000000) (some (.int (a.s:Int))) (some (.int (a.g:Int))) (some (.int a.t)) (some (.int (a.b:Int))) (fun b hb=>ha b (List.mem_cons_of_mem _ hb)) st2
  refine ⟨top',z8,z9,z10,z11,?_,fun g=>?_⟩
  ·rw [List.map_cons]
   show (ud [e0,e1,e2',some (.lst (nats L)),e4,some (.tup [.int P,.int Q]),some (.lst (vec many top)),e7,some (.int (a.s:Int)),some (.int (a.g:Int)),some (.int a.t),some (.int (a.b:Int)),e12,e13]).bind _=_
   rw [st1]
   exact k1
  ·have:=k2 g
   rw [List.length_cons]
   omega
def OLs (many:Nat) (P:List Nat) (tp:Nat->Int) (W:Int):List (Option (Int×Int)):=(List.range many).map fun g=>if g∈P then some (Fq.mk (tp g) W) else none
theorem setOL {many:Nat} {P:List Nat} {tp:Nat->Int} {W:Int} {g:Nat} (h:g<many):setAt ((OLs many P tp W).map encQ) (g:Int) (fr (Fq.mk (tp g) W))=some ((OLs many (P++[g]) tp W).map encQ):=by
 unfold setAt
 have hx:ixN ((OLs many P tp W).map encQ).length (g:Int)=some g:=zly (by unfold OLs; simp [h])
 rw [hx]
 simp only [Option.bind_some,Option.some.injEq]
 apply List.ext_getElem
 ·simp [OLs]
 ·intro i h1 h2
  simp only [OLs,List.getElem_set,List.getElem_map,List.getElem_range,List.mem_append,List.mem_singleton]
  by_cases hi:g=i
  ·subst hi
   simp [encQ]
  ·have hi':¬i=g:=fun z=>hi z.symm
   simp [hi,hi']
theorem zi5 {many:Nat} {tp:Nat->Int} {p:Int×Int} {L:List Nat} {e0 e1 e2' e4 e7 e8 e9 e10 e11:Option D} (hp:0<p.2) (hz:Sz 8000 p.2) (hlt:∀x∈L,x<many):∀(post pre:List Nat) (y13:Option D),L=pre++post ->
  ∃z13,forD (gV 13) uw (nats post) [e0,e1,e2',some (.lst (nats L)),e4,some (fr p),some (.lst (vec many tp)),e7,e8,e9,e10,e11,some (qL (OLs many pre tp p.2)),y13]=some (.nx [e0,e1,e2',some (.lst (nats L)),e4,some (fr p),some (.lst (vec many tp)),e7,e8,e9,e10,e11,some (qL (OLs many L tp p.2)),z13])
 | [],pre,y13,h=>by rw [List.append_nil] at h; subst h; exact ⟨y13,rfl⟩
 | g::post,pre,y13,h=>by
  have hg:g<many:=hlt g (by rw [h]; simp)
  have so:=setOL (P:=pre) (tp:=tp) (W:=p.2) hg
  have i1:ixD (.lst (vec many tp)) (.int (g:Int))=some (.int (tp g)):=zeq tp hg
  have lo:=zc5 (t:=tp g) (b:=p.2) hp hz
  have f1:=fr1 p
  have st:uw [e0,e1,e2',some (.lst (nats L)),e4,some (fr p),some (.lst (vec many tp)),e7,e8,e9,e10,e11,some (qL (OLs many pre tp p.2)),some (.int (g:Int))]=some (.nx [e0,e1,e2',some (.lst (nats L)),e4,some (fr p),some (.lst (vec many tp)),e7,e8,e9,e10,e11,some (qL (OLs many (pre++[g]) tp p.2)),some (.int (g:Int))]):=by
   unfold qL
   generalize (OLs many pre tp p.2).map encQ=o1 at *
   generalize (OLs many (pre++[g]) tp p.2).map encQ=o2 at *
   generalize fr (Fq.mk (tp g) p.2)=F2 at *
   generalize fr p=F at *
   generalize vec many tp=vs at *
   generalize nats L=nl at *
   clear hp hz hlt h hg
   unfold uw sPutL
   walk_at "mir"
  obtain ⟨z13,ih⟩:=zi5 (tp:=tp) (p:=p) (L:=L) (e0:=e0) (e1:=e1) (e2':=e2') (e4:=e4) (e7:=e7) (e8:=e8) (e9:=e9) (e10:=e10) (e11:=e11) hp hz hlt post (pre++[g]) (some (.int (g:Int))) (by rw [h]; simp)
  refine ⟨z13,?_⟩
  show (uw [e0,e1,e2',some (.lst (nats L)),e4,some (fr p),some (.lst (vec many tp)),e7,e8,e9,e10,e11,some (qL (OLs many pre tp p.2)),some (.int (g:Int))]).bind _=_
  rw [st]
  exact ih
def papQ (beat:Int×Int) (is:List Int) (O:List (Option (Int×Int))):D:=.tup [fr beat,.lst (is.map .int),qL O]
structure PapQ (beat:Int×Int) (is:List Int) (O:List (Option (Int×Int))):Prop where
 lb:Fq.Low beat
 zb:Fz 100 beat
 l:is.length<=20
 ll:O.length<=20
 O:∀q,some q∈O->Fq.Low q/\Fz 100 q
theorem zn8 {as:List Arw} {many:Nat} {rk:Nat->Nat} {L:List Nat} (hm:many<=8) (hal:as.length<=16) (had:∀a∈as,Drawn many rk a) (hlt:∀x∈L,x<many) (c:Int) :
  ∃(beat:Int×Int) (is:List Int) (O:List (Option (Int×Int))),zaj [.lst (as.map encT),.int (many:Int),.int c,.lst (nats L)]=some (papQ beat is O)/\is.length<=8/\O.length=many/\Fz 40 beat/\(∀q,some q∈O->Fz 60 q)/\PapQ beat is O:=by
 obtain ⟨w,gr,hw⟩:=zhz (L:=L) hm hal had c
 obtain ⟨z,mx,hz⟩:=zco c (k:=2) (by decide) (by decide)
 have ok:∀a∈as,AOk many a:=fun a ha=>⟨(had a ha).s,(had a ha).g,(had a ha).t0,(had a ha).t1,(had a ha).b⟩
 have q:=zfo true w
 rw [if_pos rfl] at q
 have blk1:∃beat:Int×Int,(sIf (tb (e2 (eqD true) (eV 4) (fun ρ=>(aNil ρ).bind fun ds=>some (.lst ds)))) (sSet 5 (fun ρ=>((aCons (eV 0) (aCons (eV 4) aNil)) ρ).bind fun ds=>yn (ds++[]))) sSkip) [some (.lst (as.map encT)),some (.int (many:Int)),some (.int c),some (.lst (nats L)),some (.lst (nats w)),some (.tup [.int ((z:Int) % 9),.int 1]),none,none,none,none,none,none,none,none]=some (.nx [some (.lst (as.map encT)),some (.int (many:Int)),some (.int c),some (.lst (nats L)),some (.lst (nats w)),some (fr beat),none,none,none,none,none,none,none,none])/\Fq.Low beat/\(0<=beat.1/\beat.1<=10000000000)/\beat.2<=40:=by
  by_cases e:w=[]
  ·rw [decide_eq_true e] at q
   refine ⟨((z:Int) % 9,1),?_,za7 _,⟨by dsimp only; omega,by dsimp only; omega⟩,by show (1:Int)<=40; decide⟩
   have hf:fr ((z:Int) % 9,1)=.tup [.int ((z:Int) % 9),.int 1]:=rfl
   rw [hf]
   clear hf e gr mx hz ok hw had hal hm hlt
   generalize as.map encT=al at *
   generalize nats w=wl at *
   generalize nats L=nl at *
   walk_at "mir"
  ·rw [decide_eq_false e] at q
   obtain ⟨b,b1,b2,b3,b4⟩:=zhy had hw e
   refine ⟨b,?_,b2,b3,b4⟩
   clear e gr mx hz ok hw had hal hm b2 b3 b4 hlt
   generalize as.map encT=al at *
   generalize nats w=wl at *
   generalize nats L=nl at *
   generalize fr b=F at *
   walk_at "mir"
 obtain ⟨beat,k1,lb,hb1,hb2⟩:=blk1
 have hq:=lb.gt
 have z40:Fz 40 beat:=⟨zam (w:=10000000000) (by omega) hb1.2 (by decide),zam (w:=40) (by omega) hb2 (by decide)⟩
 obtain ⟨ρ',h1,hI⟩:=zbc (g:=gV 7) (b:=zcb) (lo:=0) (n:=many) (ρ:=[some (.lst (as.map encT)),some (.int (many:Int)),some (.int c),some (.lst (nats L)),some (.lst (nats w)),some (fr beat),some (.lst (vec many fun _=>0)),none,none,none,none,none,none,none])
  (fun k ρ=>∃(t':Nat->Int) (y7 y8 y9 y10 y11:Option D),ρ=[some (.lst (as.map encT)),some (.int (many:Int)),some (.int c),some (.lst (nats L)),some (.lst (nats w)),some (fr beat),some (.lst (vec many t')),y7,y8,y9,y10,y11,none,none]/\∀g,0<=t' g/\t' g<=(k:Int) * 640000000000)
  ⟨fun _=>0,_,_,_,_,_,rfl,fun g=>by simp⟩ (by
   rintro k ρ hk ⟨t',y7,y8,y9,y10,y11,rfl,hb⟩
   obtain ⟨t2,z8,z9,z10,z11,i1,i2⟩:=zi4 (L:=L) (P:=beat.1) (Q:=beat.2) ⟨hq,hb2⟩ hb1 (e0:=some (.lst (as.map encT))) (e1:=some (.int (many:Int))) (e2':=some (.int c)) (e4:=some (.lst (nats w))) (e7:=some (.int (0+(k:Int)))) (e12:=none) (e13:=none) as t' ((k:Int) * 640000000000) y8 y9 y10 y11 ok hb
   exact ⟨_,_,rfl,.inl i1,t2,_,z8,z9,z10,z11,rfl,fun g=>by have:=i2 g; omega⟩)
 obtain ⟨tp,y7,y8,y9,y10,y11,rfl,hb⟩:=hI
 obtain ⟨z13,lt⟩:=zi5 (many:=many) (tp:=tp) (p:=beat) (L:=L) (e0:=some (.lst (as.map encT))) (e1:=some (.int (many:Int))) (e2':=some (.int c)) (e4:=some (.lst (nats w))) (e7:=y7) (e8:=y8) (e9:=y9) (e10:=y10) (e11:=y11) hq (z40.2.mono (by decide)) hlt L [] none rfl
 have q1:zca [some (.lst (as.map encT)),some (.int (many:Int)),some (.int c),some (.lst (nats L)),some (.lst (nats w)),some (fr beat),some (.lst (vec many tp)),y7,y8,y9,y10,y11,none,none]=some (qL (OLs many [] tp beat.2)):=by
  have e:qL (OLs many [] tp beat.2)=.lst ((List.range many).map fun _=>D.non):=by
   unfold qL OLs
   rw [List.map_map]
   congr 1
  rw [e]
  exact zal (fun (t:Nat)=>D.int (t:Int)) (fun _=>D.non) (List.range many) (zer rfl (by omega)) (by rw [List.length_range]; omega) fun g _=>⟨_,rfl,rfl⟩
 have q2:zcc [some (.lst (as.map encT)),some (.int (many:Int)),some (.int c),some (.lst (nats L)),some (.lst (nats w)),some (fr beat),none,none,none,none,none,none,none,none]=some (.lst (vec many fun _=>0)) :=
  zal (fun (t:Nat)=>D.int (t:Int)) (fun _=>D.int 0) (List.range many) (zer rfl (by omega)) (by rw [List.length_range]; omega) fun g _=>⟨_,rfl,rfl⟩
 have zz:∀g,Fz 60 (Fq.mk (tp g) beat.2):=fun g=>zl1 (by omega) (zam (w:=10000000000000) (by have:=hb g; omega) (by have:=hb g; omega) (by decide)) (zam (w:=40) (by omega) hb2 (by decide))
 have mem:∀q,some q∈OLs many L tp beat.2->∃g,q=Fq.mk (tp g) beat.2:=fun q hq=>by
  obtain ⟨g,_,e⟩:=List.mem_map.mp hq
  by_cases hg:g∈L
  ·rw [if_pos hg] at e; exact ⟨g,(Option.some.inj e).symm⟩
  ·rw [if_neg hg] at e; cases e
 refine ⟨beat,w.map fun (n:Nat)=>(n:Int),OLs many L tp beat.2,?_,by rw [List.length_map]; exact hw.l,by unfold OLs; simp,z40,fun q hq'=>?_,⟨lb,z40.mono (by decide),by rw [List.length_map]; have:=hw.l; omega,by unfold OLs; simp; omega,fun q hq'=>?_⟩⟩
 ·have en:(w.map fun (n:Nat)=>(n:Int)).map D.int=nats w:=by rw [List.map_map]; rfl
  unfold papQ
  rw [en]
  have r1:rng1 [.int (many:Int)]=some (upto 0 many):=by rw [zbd (by omega) (by omega)]; rfl
  clear en zz mem z40 lb hb1 hb2 hq q ok hz hw had hal hm hlt hb
  generalize qL (OLs many L tp beat.2)=FL at *
  generalize qL (OLs many [] tp beat.2)=F0 at *
  generalize fr beat=F at *
  generalize vec many tp=vs at *
  generalize (vec many fun _=>0)=vs0 at *
  generalize nats w=wl at *
  generalize nats L=nl at *
  generalize as.map encT=al at *
  unfold zaj
  generalize (sIf (tb (e2 (eqD true) (eV 4) (fun ρ=>(aNil ρ).bind fun ds=>some (.lst ds)))) (sSet 5 (fun ρ=>((aCons (eV 0) (aCons (eV 4) aNil)) ρ).bind fun ds=>yn (ds++[]))) sSkip)=B1 at *
  walk_at "mir"
 ·obtain ⟨g,rfl⟩:=mem q hq'
  exact zz g
 ·obtain ⟨g,rfl⟩:=mem q hq'
  exact ⟨Fq.mk_low (by omega),(zz g).mono (by decide)⟩
theorem zo0 (xs:List D) (n:Nat):cutD xs none (some (n:Int))=xs.take n:=by
 unfold cutD
 rw [HT.sIx_none]
 have:HT.sIx xs.length xs.length (some (n:Int))=min n xs.length:=by
  show (if (n:Int)<0 then ((n:Int)+(xs.length:Int)).toNat else min (n:Int).toNat xs.length)=_
  rw [if_neg (by omega)]
  simp
 rw [this,List.drop_zero,Nat.sub_zero]
 by_cases h:n<=xs.length
 ·rw [Nat.min_eq_left h]
 ·rw [Nat.min_eq_right (by omega),List.take_of_length_le (Nat.le_refl _),List.take_of_length_le (by omega)]
theorem zmd {as:List Arw} {many:Nat} {rk:Nat->Nat} {beat:Int×Int} {is:List Int} {O:List (Option (Int×Int))} (hm:many<=8) (hal:as.length<=16) (had:∀a∈as,Drawn many rk a) (hP:PapQ beat is O) (h8:is.length<=8) (hl0:1<=O.length) (hl8:O.length<=8) (zb:Fz 40 beat) (zL:∀q,some q∈O->Fz 60 q) {z:Nat} (hz:z<2147483648) :
  ∃(beat':Int×Int) (is':List Int) (O':List (Option (Int×Int))),v7 [papQ beat is O,.int (z:Int),.lst (as.map encT)]=some (papQ beat' is' O')/\PapQ beat' is' O':=by
 obtain ⟨at',hat,hatl⟩:∃a:Nat,(z:Int) / 8 % (O.length:Int)=(a:Int)/\a<O.length:=⟨z / 8 % O.length,by simp,Nat.mod_lt _ (by omega)⟩
 have mat:modD (.int ((z:Int) / 8)) (.int (O.length:Int))=some (.int (at':Int)):=(u8 (by omega)).trans (by rw [hat])
 have ll:lenD [.lst (O.map encQ)]=some (.int (O.length:Int)):=(vk _).trans (by simp)
 have la:lenD [.lst (as.map encT)]=some (.int (as.length:Int)):=(vk _).trans (by rw [List.length_map])
 obtain ⟨z7,mx7,hz7⟩:=zco (z:Int) (k:=7) (by decide) (by decide)
 obtain ⟨v,v1,v2,v3,v4⟩:=zix (as:=as) (many:=many) (z:=z7) (by omega) (by omega) (fun a ha=>⟨(had a ha).s,(had a ha).g⟩) hz7
 have hq0:O[at']?=some (O[at']'hatl):=List.getElem?_eq_getElem hatl
 have hqm:O[at']'hatl∈O:=List.getElem_mem hatl
 generalize O[at']'hatl=oq at hq0 hqm
 have ixq:ixD (.lst (O.map encQ)) (.int (at':Int))=some (encQ oq):=ui (by rw [List.getElem?_map,hq0]; rfl)
 obtain ⟨fi,hfi,hf1,hf2⟩:∃fi:Int,fi=1+(z:Int) / 100 % 1000/\1<=fi/\fi<=1000:=⟨_,rfl,by omega,by omega⟩
 have zf:Sz 10 fi:=zam (w:=1000) (by omega) hf2 (by decide)
 have lbg:=hP.lb.gt
 have m3:mulI (.int beat.1) (.int fi)=some (.int (beat.1 * fi)):=zcs (by omega) (by omega)
 have m4:mulI (.int beat.2) (.int fi)=some (.int (beat.2 * fi)):=zcs (by omega) (by omega)
 have one:Sz 70 (1:Int):=zam (w:=1) (by decide) (by decide) (by decide)
 have zb1:Sz 71 (beat.1 * fi+1):=(((zb.1.mul zf).mono (by decide:40+10<=70)).add one)
 have zb2:Sz 71 (beat.2 * fi):=(zb.2.mul zf).mono (by decide)
 have pb:0<beat.2 * fi:=Int.mul_pos lbg (by omega)
 have lo2:=zc5 (t:=beat.1 * fi+1) (b:=beat.2 * fi) pb (zb2.mono (by decide))
 have w2:Fq.Low (Fq.mk (beat.1 * fi+1) (beat.2 * fi))/\Fz 100 (Fq.mk (beat.1 * fi+1) (beat.2 * fi)):=⟨Fq.mk_low (by omega),(zl1 (by omega) zb1 zb2).mono (by decide)⟩
 generalize Fq.mk (beat.1 * fi+1) (beat.2 * fi)=o2 at *
 have blk:∃o1:Int×Int,(sIf (tb (e2 (isD true) (e2 ixD (eV 5) (eV 6)) (eC .non))) (sSet 8 (fun ρ=>((aCons (e2 subD (e2 mulI (e2 ixD (e2 ixD (eV 5) (eV 6)) (eC (.int 0))) (eV 7)) (eC (.int 1))) (aCons (e2 mulI (e2 ixD (e2 ixD (eV 5) (eV 6)) (eC (.int 1))) (eV 7)) aNil)) ρ).bind fun ds=>wx (ds++[]))) sSkip) [some (papQ beat is O),some (.int (z:Int)),some (.lst (as.map encT)),some (fr beat),some (.lst (is.map .int)),some (.lst (O.map encQ)),some (.int (at':Int)),some (.int fi),some (.tup [.int 5,.int 3]),none]=some (.nx [some (papQ beat is O),some (.int (z:Int)),some (.lst (as.map encT)),some (fr beat),some (.lst (is.map .int)),some (.lst (O.map encQ)),some (.int (at':Int)),some (.int fi),some (fr o1),none])/\Fq.Low o1/\Fz 100 o1:=by
  have isd:=zn5 oq
  cases oq with
  | none =>
   refine ⟨(5,3),?_,⟨by decide,by decide⟩,⟨zam (w:=5) (by decide) (by decide) (by decide),zam (w:=5) (by decide) (by decide) (by decide)⟩⟩
   have hf:fr (5,3)=.tup [.int 5,.int 3]:=rfl
   replace ixq:ixD (.lst (O.map encQ)) (.int (at':Int))=some .non:=ixq
   rw [hf]
   clear hf isd w2 lo2 pb zb2 zb1 one m3 m4 lbg zf hf1 hf2 hfi hqm hq0 v1 v2 v3 v4 hz7 mx7 la ll mat hat hatl hz zL zb hP had
   generalize papQ beat is O=P0 at *
   generalize O.map encQ=ol at *
   generalize fr beat=F at *
   generalize is.map D.int=il at *
   generalize as.map encT=al at *
   generalize (at':Int)=ai at *
   walk_at "mir"
  | some q =>
   have lq:=(hP.O q hqm).1
   have zq:=zL q hqm
   have lqg:=lq.gt
   have m1:mulI (.int q.1) (.int fi)=some (.int (q.1 * fi)):=zcs (by omega) (by omega)
   have m2:mulI (.int q.2) (.int fi)=some (.int (q.2 * fi)):=zcs (by omega) (by omega)
   have zq1:Sz 71 (q.1 * fi-1):=(zq.1.mul zf).sub one
   have zq2:Sz 71 (q.2 * fi):=(zq.2.mul zf).mono (by decide)
   have pq:0<q.2 * fi:=Int.mul_pos lqg (by omega)
   have lo1:=zc5 (t:=q.1 * fi-1) (b:=q.2 * fi) pq (zq2.mono (by decide))
   refine ⟨Fq.mk (q.1 * fi-1) (q.2 * fi),?_,Fq.mk_low (by omega),(zl1 (by omega) zq1 zq2).mono (by decide)⟩
   replace ixq:ixD (.lst (O.map encQ)) (.int (at':Int))=some (.tup [.int q.1,.int q.2]):=ixq
   have f0:ixD (.tup [.int q.1,.int q.2]) (.int 0)=some (.int q.1):=rfl
   have f1:ixD (.tup [.int q.1,.int q.2]) (.int 1)=some (.int q.2):=rfl
   clear isd zq1 zq2 pq lqg zq lq w2 lo2 pb zb2 zb1 one m3 m4 lbg zf hf1 hf2 hfi hqm hq0 v1 v2 v3 v4 hz7 mx7 la ll mat hat hatl hz zL zb hP had
   generalize fr (Fq.mk (q.1 * fi-1) (q.2 * fi))=F1 at *
   generalize papQ beat is O=P0 at *
   generalize O.map encQ=ol at *
   generalize fr beat=F at *
   generalize is.map D.int=il at *
   generalize as.map encT=al at *
   generalize (at':Int)=ai at *
   generalize q.1 * fi=u1 at *
   generalize q.2 * fi=u2 at *
   walk_at "mir"
 obtain ⟨o1,k1,w1⟩:=blk
 have c1:cutD (O.map encQ) none (some (at':Int))=(O.take at').map encQ:=by rw [zo0,List.map_take]
 have c2:cutD (O.map encQ) (some ((at':Int)+1)) none=(O.drop (at'+1)).map encQ:=by
  rw [show (at':Int)+1=((at'+1:Nat):Int) by omega,zdk,List.map_drop]
 have c6:cutD (O.map encQ) none (some (-1))=(O.take (O.length-1)).map encQ:=by rw [zdw,List.length_map,List.map_take]
 have c3:cutD (is.map D.int) (some 1) none=(is.drop 1).map D.int:=by
  have:=zdk (is.map D.int) 1
  rw [List.map_drop]
  exact this
 have c4:cutD (is.map D.int) none (some 1)=(is.take 1).map D.int:=by
  have:=zo0 (is.map D.int) 1
  rw [List.map_take]
  exact this
 have c5:cutD (is.map D.int) none (some (-1))=(is.take (is.length-1)).map D.int:=by rw [zdw,List.length_map,List.map_take]
 have a1:addD (.lst ((O.take at').map encQ)) (.lst [fr o1])=some (.lst ((O.take at'++[some o1]).map encQ)):=by rw [vw (by simp; omega),List.map_append]; rfl
 have a2:addD (.lst ((O.take at'++[some o1]).map encQ)) (.lst ((O.drop (at'+1)).map encQ))=some (.lst ((O.take at'++[some o1]++O.drop (at'+1)).map encQ)):=by rw [vw (by simp; omega),← List.map_append]
 have a3:addD (.lst ((O.take at').map encQ)) (.lst [.non])=some (.lst ((O.take at'++[none]).map encQ)):=by rw [vw (by simp; omega),List.map_append]; rfl
 have a4:addD (.lst ((O.take at'++[none]).map encQ)) (.lst ((O.drop (at'+1)).map encQ))=some (.lst ((O.take at'++[none]++O.drop (at'+1)).map encQ)):=by rw [vw (by simp; omega),← List.map_append]
 have a5:addD (.lst (O.map encQ)) (.lst [.non])=some (.lst ((O++[none]).map encQ)):=by rw [vw (by simp; omega),List.map_append]; rfl
 have a6:addD (.lst ((is.drop 1).map D.int)) (.lst ((is.take 1).map D.int))=some (.lst ((is.drop 1++is.take 1).map D.int)):=by rw [vw (by simp; omega),← List.map_append]
 have a7:addD (.lst ((is.drop 1).map D.int)) (.lst [.int (as.length:Int)])=some (.lst ((is.drop 1++[(as.length:Int)]).map D.int)):=by rw [vw (by simp; omega),List.map_append]; rfl
 have a8:addD (.lst ((is.take (is.length-1)).map D.int)) (.lst [.int (-1)])=some (.lst ((is.take (is.length-1)++[-1]).map D.int)):=by rw [vw (by simp; omega),List.map_append]; rfl
 have ad2:∀x y u v w:D,addD (.lst [x,y]) (.lst [u,v,w])=some (.lst [x,y,u,v,w]):=fun _ _ _ _ _=>vw (by simp)
 have ad5:∀x1 x2 x3 x4 x5 u v:D,addD (.lst [x1,x2,x3,x4,x5]) (.lst [u,v])=some (.lst [x1,x2,x3,x4,x5,u,v]):=fun _ _ _ _ _ _ _=>vw (by simp)
 have ad7:∀x1 x2 x3 x4 x5 x6 x7 u:D,addD (.lst [x1,x2,x3,x4,x5,x6,x7]) (.lst [u])=some (.lst [x1,x2,x3,x4,x5,x6,x7,u]):=fun _ _ _ _ _ _ _ _=>vw (by simp)
 have ad8:∀x1 x2 x3 x4 x5 x6 x7 x8 u v:D,addD (.lst [x1,x2,x3,x4,x5,x6,x7,x8]) (.lst [u,v])=some (.lst [x1,x2,x3,x4,x5,x6,x7,x8,u,v]):=fun _ _ _ _ _ _ _ _ _ _=>vw (by simp)
 have env:nats v=(v.map fun (n:Nat)=>(n:Int)).map D.int:=by rw [List.map_map]; rfl
 have key:∀(i:Int) (d:D),(z:Int) % 10=i->ixD (.lst [papQ beat is (O.take at'++[some o1]++O.drop (at'+1)),papQ beat is (O.take at'++[none]++O.drop (at'+1)),papQ beat is (O++[none]),papQ beat is (O.take (O.length-1)),papQ beat [] O,papQ o2 is O,papQ beat (is.drop 1++is.take 1) O,papQ beat (v.map fun (n:Nat)=>(n:Int)) O,papQ beat (is.take (is.length-1)++[-1]) O,papQ beat (is.drop 1++[(as.length:Int)]) O]) (.int i)=some d->v7 [papQ beat is O,.int (z:Int),.lst (as.map encT)]=some d:=by
  intro i d hi hx
  have mo:modD (.int (z:Int)) (.int 10)=some (.int i):=(u8 (by decide)).trans (by rw [hi])
  have f0:=fr0 beat
  have f1:=fr1 beat
  unfold papQ qL at hx k1 ⊢
  rw [← env] at hx
  rw [List.map_nil] at hx
  clear env hi w1 w2 pb zb2 zb1 one zf hf1 hf2 lbg hqm hq0 hatl hat hP h8 hl0 hl8 zb zL hz v1 v2 v3 hz7 had hal hm ixq
  generalize fr o1=O1 at *
  generalize fr o2=O2 at *
  generalize fr beat=F at *
  generalize (O.take at'++[some o1]++O.drop (at'+1)).map encQ=l1 at *
  generalize (O.take at'++[none]++O.drop (at'+1)).map encQ=l2 at *
  generalize (O++[none]).map encQ=l3 at *
  generalize (O.take at'++[some o1]).map encQ=l4 at *
  generalize (O.take at'++[none]).map encQ=l7 at *
  generalize (O.take at').map encQ=l5 at *
  generalize (O.drop (at'+1)).map encQ=l6 at *
  generalize (O.take (O.length-1)).map encQ=l8 at *
  generalize O.map encQ=l0 at *
  generalize (is.drop 1++is.take 1).map D.int=i1 at *
  generalize (is.drop 1++[(as.length:Int)]).map D.int=i3 at *
  generalize (is.take (is.length-1)++[-1]).map D.int=i4 at *
  generalize (is.take (is.length-1)).map D.int=i5 at *
  generalize (is.drop 1).map D.int=i6 at *
  generalize (is.take 1).map D.int=i7 at *
  generalize is.map D.int=i0 at *
  generalize nats v=vl at *
  generalize as.map encT=al at *
  generalize beat.1 * fi=u3 at *
  generalize beat.2 * fi=u4 at *
  generalize (O.length:Int)=Ll at *
  generalize (as.length:Int)=aln at *
  generalize (at':Int)=ai at *
  subst hfi
  unfold v7
  generalize (sIf (tb (e2 (isD true) (e2 ixD (eV 5) (eV 6)) (eC .non))) (sSet 8 (fun ρ=>((aCons (e2 subD (e2 mulI (e2 ixD (e2 ixD (eV 5) (eV 6)) (eC (.int 0))) (eV 7)) (eC (.int 1))) (aCons (e2 mulI (e2 ixD (e2 ixD (eV 5) (eV 6)) (eC (.int 1))) (eV 7)) aNil)) ρ).bind fun ds=>wx (ds++[]))) sSkip)=B1 at *
  walk_at "mir"
 have bL:∀x,some x∈O->Fq.Low x/\Fz 100 x:=hP.O
 have hr:(z:Int) % 10=0\/(z:Int) % 10=1\/(z:Int) % 10=2\/(z:Int) % 10=3\/(z:Int) % 10=4\/(z:Int) % 10=5\/(z:Int) % 10=6\/(z:Int) % 10=7\/(z:Int) % 10=8\/(z:Int) % 10=9:=by omega
 rcases hr with hr | hr | hr | hr | hr | hr | hr | hr | hr | hr
 ·refine ⟨_,_,_,key 0 _ hr rfl,hP.lb,hP.zb,hP.l,by simp; omega,fun x hx=>?_⟩
  rcases List.mem_append.mp hx with hx | hx
  ·rcases List.mem_append.mp hx with hx | hx
   ·exact bL x (List.mem_of_mem_take hx)
   ·rw [Option.some.inj (List.mem_singleton.mp hx)]; exact w1
  ·exact bL x (List.mem_of_mem_drop hx)
 ·refine ⟨_,_,_,key 1 _ hr rfl,hP.lb,hP.zb,hP.l,by simp; omega,fun x hx=>?_⟩
  rcases List.mem_append.mp hx with hx | hx
  ·rcases List.mem_append.mp hx with hx | hx
   ·exact bL x (List.mem_of_mem_take hx)
   ·exact absurd (List.mem_singleton.mp hx) (by simp)
  ·exact bL x (List.mem_of_mem_drop hx)
 ·refine ⟨_,_,_,key 2 _ hr rfl,hP.lb,hP.zb,hP.l,by simp; omega,fun x hx=>?_⟩
  rcases List.mem_append.mp hx with hx | hx
  ·exact bL x hx
  ·exact absurd (List.mem_singleton.mp hx) (by simp)
 ·exact ⟨_,_,_,key 3 _ hr rfl,hP.lb,hP.zb,hP.l,by simp; omega,fun x hx=>bL x (List.mem_of_mem_take hx)⟩
 ·exact ⟨_,_,_,key 4 _ hr rfl,hP.lb,hP.zb,by simp,hP.ll,bL⟩
 ·exact ⟨_,_,_,key 5 _ hr rfl,w2.1,w2.2,hP.l,hP.ll,bL⟩
 ·exact ⟨_,_,_,key 6 _ hr rfl,hP.lb,hP.zb,by simp; omega,hP.ll,bL⟩
 ·exact ⟨_,_,_,key 7 _ hr rfl,hP.lb,hP.zb,by simp; omega,hP.ll,bL⟩
 ·exact ⟨_,_,_,key 8 _ hr rfl,hP.lb,hP.zb,by simp; omega,hP.ll,bL⟩
 ·exact ⟨_,_,_,key 9 _ hr rfl,hP.lb,hP.zb,by simp; omega,hP.ll,bL⟩
theorem zfr {α:Type} {g:D->L3.Env->Option L3.Env} {b:SF} (enc:α->D) (f:α->Bool) (I:L3.Env->Prop) (w:D):∀(xs:List α) (ρ:L3.Env),I ρ->(∀x∈xs,∀ρ,I ρ->∃ρ1,g (enc x) ρ=some ρ1/\((f x=true/\∃ρ2,b ρ1=some (.nx ρ2)/\I ρ2)\/(f x=false/\b ρ1=some (.rt w)))) ->
  (xs.all f=true/\∃ρ',forD g b (xs.map enc) ρ=some (.nx ρ')/\I ρ')\/(xs.all f=false/\forD g b (xs.map enc) ρ=some (.rt w))
 | [],ρ,h,_=>.inl ⟨rfl,ρ,rfl,h⟩
 | x::xs,ρ,h,st=>by
  obtain ⟨ρ1,h1,h2⟩:=st x List.mem_cons_self ρ h
  have unf:forD g b ((x::xs).map enc) ρ=(g (enc x) ρ).bind fun ρ1=>(b ρ1).bind fun o=>match o with
    | .nx ρ'=>forD g b (xs.map enc) ρ'
    | .ct ρ'=>forD g b (xs.map enc) ρ'
    | .bk ρ'=>some (.nx ρ')
    | .rt d=>some (.rt d):=rfl
  rw [unf,h1,Option.bind_some,List.all_cons]
  rcases h2 with ⟨e,ρ2,h2,h3⟩ | ⟨e,h2⟩
  ·rw [h2,e]
   exact zfr enc f I w xs ρ2 h3 fun y hy=>st y (List.mem_cons_of_mem _ hy)
  ·rw [h2,e]
   exact .inr ⟨rfl,rfl⟩
theorem zi6 (neg:Bool) (A B:List Int):eqD neg (.lst (A.map .int)) (.lst (B.map .int))=some (.bl (if neg then !decide (A=B) else decide (A=B))):=(El Ei).eq (by decide) (neg:=neg) A B
def CndL (as:List Arw) (L:List Nat) (is:List Int) (j:Nat):Prop:=CndR (sI as) (gI as) as.length is j/\sI as (is.getD j 0)∈L
theorem zme {as:List Arw} {is:List Int} {L:List Nat} (hl:is.length<=1000) (hal:as.length<=1000):∃b:Bool,wy [.lst (as.map encT),.lst (is.map .int),.lst (nats L)]=some (.bl b)/\(b=true↔RngR (sI as) (gI as) as.length is/\∀j,j<is.length->sI as (is.getD j 0)∈L):=by
 have la:lenD [.lst (as.map encT)]=some (.int (as.length:Int)):=(vk _).trans (by rw [List.length_map])
 have li:lenD [.lst (is.map .int)]=some (.int (is.length:Int)):=(vk _).trans (by rw [List.length_map])
 have q1:za6 [some (.lst (as.map encT)),some (.lst (is.map .int)),some (.lst (nats L)),some (.lst []),none,none]=some (.lst ((is.filter fun i=>!(decide (0<=i) && decide (i<(as.length:Int)))).map .int)):=by
  refine zak (own:=1) (cap:=[0]) (g:=gV 0) D.int (fun i=>!(decide (0<=i) && decide (i<(as.length:Int)))) D.int is rfl (by omega) fun i _=>⟨[some (.int i),some (.lst (as.map encT))],rfl,?_,fun _=>rfl⟩
  generalize as.map encT=al at *
  by_cases h1:0<=i
  ·rw [decide_eq_true h1]
   by_cases h2:i<(as.length:Int)
   ·rw [decide_eq_true h2]
    clear li hl hal
    walk_at "mir"
   ·rw [decide_eq_false h2]
    clear li hl hal
    walk_at "mir"
  ·rw [decide_eq_false h1]
   clear li hl hal la
   walk_at "mir"
 have en:=zi6 true (is.filter fun i=>!(decide (0<=i) && decide (i<(as.length:Int)))) []
 rw [if_pos rfl,List.map_nil] at en
 by_cases hf:(is.filter fun i=>!(decide (0<=i) && decide (i<(as.length:Int))))=[]
 ·rw [decide_eq_true hf] at en
  have hr:∀i∈is,0<=i/\i<(as.length:Int):=fun i hi=>by
   have:=List.filter_eq_nil_iff.mp hf i hi
   simpa using this
  have rj:∀j,j<is.length->0<=is.getD j 0/\is.getD j 0<(as.length:Int):=fun j hj=>hr _ (List.mem_iff_getElem?.mpr ⟨j,wz hj⟩)
  have ixk:∀k,k<is.length->ixD (.lst (is.map .int)) (.int (k:Int))=some (.int (is.getD k 0)):=fun k hk=>ui (by rw [List.getElem?_map,wz hk]; rfl)
  have lp:=zgy (g:=gV 4) (b:=vh) (n:=is.length) (fun k ρ=>(∃y4 y5,ρ=[some (.lst (as.map encT)),some (.lst (is.map .int)),some (.lst (nats L)),some (.lst (nats ((List.range k).map fun j=>sI as (is.getD j 0)))),y4,y5])/\∀j,j<k->CndL as L is j)
   (fun w=>w=.bl false/\∃j,j<is.length/\¬CndL as L is j) (by
   rintro k ρ hk ⟨⟨y4,y5,rfl⟩,hI⟩
   refine ⟨[some (.lst (as.map encT)),some (.lst (is.map .int)),some (.lst (nats L)),some (.lst (nats ((List.range k).map fun j=>sI as (is.getD j 0)))),some (.int (k:Int)),y5],rfl,?_⟩
   have hp:prv is.length k<is.length:=by unfold prv; split <;> omega
   have i1:=ixk k hk
   have i2:ixD (.lst (is.map .int)) (.int ((k:Int)-1))=some (.int (is.getD (prv is.length k) 0)):=by
    by_cases h0:k=0
    ·subst h0
     have e:prv is.length 0=is.length-1:=rfl
     rw [e] at hp ⊢
     show atI _ _=_
     unfold atI
     have:ixN (is.map D.int).length (((0:Nat):Int)-1)=some (is.length-1):=by
      rw [List.length_map]
      unfold ixN
      rw [if_neg (by omega),if_pos (by omega)]
      congr 1
      omega
     rw [this]
     show (is.map D.int)[is.length-1]?=_
     rw [List.getElem?_map,wz hp]
     rfl
    ·have e:prv is.length k=k-1:=by unfold prv; rw [if_neg h0]
     rw [e] at hp ⊢
     rw [show (k:Int)-1=((k-1:Nat):Int) by omega]
     exact ui (by rw [List.getElem?_map,wz hp]; rfl)
   have hv:=rj k hk
   have hu:=rj _ hp
   have t1:=ix_T (as:=as) hv.1 hv.2
   have t2:=ix_T (as:=as) hu.1 hu.2
   have e0:∀(a b c d:D),ixD (.tup [a,b,c,d]) (.int 0)=some a:=fun _ _ _ _=>rfl
   have e1:∀(a b c d:D),ixD (.tup [a,b,c,d]) (.int 1)=some b:=fun _ _ _ _=>rfl
   have q:eqD true (.int ((aN as (is.getD k 0).toNat).s:Int)) (.int ((aN as (is.getD (prv is.length k) 0).toNat).g:Int))=some (.bl (!decide (sI as (is.getD k 0)=gI as (is.getD (prv is.length k) 0)))):=(zcj _ _).trans (by
    rw [if_pos rfl,show decide (((aN as (is.getD k 0).toNat).s:Int)=((aN as (is.getD (prv is.length k) 0).toNat).g:Int))=decide (sI as (is.getD k 0)=gI as (is.getD (prv is.length k) 0)) from decide_eq_decide.mpr (by unfold sI gI; omega)])
   have q2:=jd false (aN as (is.getD k 0).toNat).s ((List.range k).map fun j=>sI as (is.getD j 0))
   rw [if_neg (by decide)] at q2
   have q3:=jd true (aN as (is.getD k 0).toNat).s L
   rw [if_pos rfl] at q3
   have hmem:∀x,x∈(List.range k).map (fun j=>sI as (is.getD j 0))↔∃i,i<k/\sI as (is.getD i 0)=x:=fun x=>by
    rw [List.mem_map]
    exact ⟨fun ⟨i,h1,h2⟩=>⟨i,List.mem_range.mp h1,h2⟩,fun ⟨i,h1,h2⟩=>⟨i,List.mem_range.mpr h1,h2⟩⟩
   have e3:nats ((List.range (k+1)).map fun j=>sI as (is.getD j 0))=nats ((List.range k).map fun j=>sI as (is.getD j 0))++[.int ((aN as (is.getD k 0).toNat).s:Int)]:=by
    unfold nats; rw [List.range_succ,List.map_append,List.map_append]; rfl
   have hz:(nats ((List.range k).map fun j=>sI as (is.getD j 0))).length<16777216:=by unfold nats; rw [List.length_map,List.length_map,List.length_range]; omega
   have cnd:CndL as L is k↔sI as (is.getD k 0)=gI as (is.getD (prv is.length k) 0)/\(aN as (is.getD k 0).toNat).s∉((List.range k).map fun j=>sI as (is.getD j 0))/\(aN as (is.getD k 0).toNat).s∈L:=by
    unfold CndL CndR
    constructor
    ·rintro ⟨⟨_,_,c5,c6⟩,c7⟩
     refine ⟨c5,fun z=>?_,c7⟩
     obtain ⟨i,hi,e⟩:=(hmem _).mp z
     exact c6 i hi e
    ·rintro ⟨c5,c6,c7⟩
     exact ⟨⟨hv,hu,c5,fun i hi e=>c6 ((hmem _).mpr ⟨i,hi,e⟩)⟩,c7⟩
   rw [e3]
   generalize hss:(aN as (is.getD k 0).toNat).s=ss at *
   generalize (aN as (is.getD (prv is.length k) 0).toNat).g=gg at *
   by_cases c5:sI as (is.getD k 0)=gI as (is.getD (prv is.length k) 0)
   ·rw [decide_eq_true c5] at q
    by_cases c6:ss∈((List.range k).map fun j=>sI as (is.getD j 0))
    ·rw [decide_eq_true c6] at q2
     refine .inr ⟨_,?_,rfl,k,hk,fun z=>(cnd.mp z).2.1 c6⟩
     generalize nats ((List.range k).map fun j=>sI as (is.getD j 0))=gd at *
     generalize is.getD (prv is.length k) 0=u at *
     generalize is.getD k 0=v at *
     generalize as.map encT=al at *
     generalize is.map D.int=il at *
     generalize nats L=nl at *
     clear cnd hmem e3 hI hr rj ixk en q1 hf c5 c6 hv hu hp hk hl hal q3 hss
     unfold vh
     walk_at "mir"
    ·rw [decide_eq_false c6] at q2
     by_cases c7:ss∈L
     ·rw [decide_eq_true c7] at q3
      refine .inl ⟨[some (.lst (as.map encT)),some (.lst (is.map .int)),some (.lst (nats L)),some (.lst (nats ((List.range k).map fun j=>sI as (is.getD j 0))++[.int (ss:Int)])),some (.int (k:Int)),some (.int (ss:Int))],?_,⟨_,_,rfl⟩,fun j hj=>?_⟩
      ·generalize nats ((List.range k).map fun j=>sI as (is.getD j 0))=gd at *
       generalize is.getD (prv is.length k) 0=u at *
       generalize is.getD k 0=v at *
       generalize as.map encT=al at *
       generalize is.map D.int=il at *
       generalize nats L=nl at *
       clear cnd hmem e3 hI hr rj ixk en q1 hf c5 c6 c7 hv hu hp hk hl hal hss
       unfold vh
       walk_at "mir"
      ·by_cases e:j=k
       ·rw [e]; exact cnd.mpr ⟨c5,c6,c7⟩
       ·exact hI j (by omega)
     ·rw [decide_eq_false c7] at q3
      refine .inr ⟨_,?_,rfl,k,hk,fun z=>c7 (cnd.mp z).2.2⟩
      generalize nats ((List.range k).map fun j=>sI as (is.getD j 0))=gd at *
      generalize is.getD (prv is.length k) 0=u at *
      generalize is.getD k 0=v at *
      generalize as.map encT=al at *
      generalize is.map D.int=il at *
      generalize nats L=nl at *
      clear cnd hmem e3 hI hr rj ixk en q1 hf c5 c6 c7 hv hu hp hk hl hal hss
      unfold vh
      walk_at "mir"
   ·rw [decide_eq_false c5] at q
    refine .inr ⟨_,?_,rfl,k,hk,fun z=>c5 (cnd.mp z).1⟩
    generalize nats ((List.range k).map fun j=>sI as (is.getD j 0))=gd at *
    generalize is.getD (prv is.length k) 0=u at *
    generalize is.getD k 0=v at *
    generalize as.map encT=al at *
    generalize is.map D.int=il at *
    generalize nats L=nl at *
    clear cnd hmem e3 hI hr rj ixk en q1 hf c5 hv hu hp hk hl hal q2 q3 hss
    unfold vh
    walk_at "mir") is.length 0 [some (.lst (as.map encT)),some (.lst (is.map .int)),some (.lst (nats L)),some (.lst []),none,none] (by omega) ⟨⟨none,none,rfl⟩,fun j hj=>absurd hj (by omega)⟩
  rw [← List.range_eq_range'] at lp
  have hrg:rng1 [.int (is.length:Int)]=some ((List.range is.length).map fun (t:Nat)=>D.int (t:Int)):=by
   rw [zbd (by omega) (by omega)]
   unfold upto
   simp
  rcases lp with ⟨ρ',l1,⟨y4,y5,rfl⟩,hI⟩ | ⟨w,l1,rfl,j,hj,hn⟩
  ·have q:=zi6 true is []
   rw [if_pos rfl,List.map_nil] at q
   refine ⟨!decide (is=[]),?_,?_⟩
   ·generalize decide (is=[])=bb at *
    generalize nats ((List.range is.length).map fun j=>sI as (is.getD j 0))=gd at *
    clear hI hr rj ixk hl hal la hf
    generalize (List.range is.length).map (fun (t:Nat)=>D.int (t:Int))=rgl at *
    generalize (is.filter fun i=>!(decide (0<=i) && decide (i<(as.length:Int)))).map D.int=fl at *
    generalize as.map encT=al at *
    generalize is.map D.int=il at *
    generalize nats L=nl at *
    unfold wy
    walk_at "mir"
   ·have:(!decide (is=[]))=true↔is≠[]:=by simp
    rw [this]
    exact ⟨fun h=>⟨zhw.mpr ⟨h,fun j hj=>(hI j hj).1⟩,fun j hj=>(hI j hj).2⟩,fun h=>h.1.1⟩
  ·refine ⟨false,?_,⟨(fun z=>by cases z),fun z=>absurd ⟨(zhw.mp z.1).2 j hj,z.2 j hj⟩ hn⟩⟩
   clear hn hr rj ixk hl hal la hf
   generalize (List.range is.length).map (fun (t:Nat)=>D.int (t:Int))=rgl at *
   generalize (is.filter fun i=>!(decide (0<=i) && decide (i<(as.length:Int)))).map D.int=fl at *
   generalize as.map encT=al at *
   generalize is.map D.int=il at *
   generalize nats L=nl at *
   unfold wy
   walk_at "mir"
 ·rw [decide_eq_false hf] at en
  refine ⟨false,?_,⟨(fun z=>by cases z),fun z=>absurd (List.filter_eq_nil_iff.mpr fun i hi=>by have:=z.1.2.1 i hi; simp [this.1,this.2]) hf⟩⟩
  generalize (is.filter fun i=>!(decide (0<=i) && decide (i<(as.length:Int)))).map D.int=fl at *
  generalize as.map encT=al at *
  generalize is.map D.int=il at *
  generalize nats L=nl at *
  clear hf hl hal la li
  unfold wy
  walk_at "mir"
theorem zg3 {as:List Arw} {is:List Int} {L:List Nat} {many g:Nat} (hL:Ld many as g L) (h:RngR (sI as) (gI as) as.length is):gI as (is.getD 0 0)∈L↔∀j,j<is.length->sI as (is.getD j 0)∈L:=by
 obtain ⟨h1,h2⟩:=zhw.mp h
 have hpos:=List.length_pos_iff.mpr h1
 have cl:∀j,j<is.length->gI as (is.getD j 0)∈L->sI as (is.getD j 0)∈L:=fun j hj hg=>by
  have hr:=(h2 j hj).1
  exact hL.cls (zg1 (n:=(is.getD j 0).toNat) (by omega)) hg
 constructor
 ·intro h0
  have s0:=cl 0 hpos h0
  have key:∀d j,d+j=is.length->0<d->sI as (is.getD j 0)∈L:=by
   intro d
   induction d with
   | zero=>intro j _ h; omega
   | succ d ih =>
    intro j hj _
    apply cl j (by omega)
    by_cases hd:d=0
    ·have c0:=(h2 0 hpos).2.2.1
     have e:prv is.length 0=j:=by unfold prv; rw [if_pos rfl]; omega
     rw [e] at c0
     rw [← c0]; exact s0
    ·have c1:=(h2 (j+1) (by omega)).2.2.1
     have e:prv is.length (j+1)=j:=by unfold prv; rw [if_neg (by omega)]; omega
     rw [e] at c1
     rw [← c1]; exact ih (j+1) (by omega) (by omega)
  intro j hj
  exact key (is.length-j) j (by omega) (by omega)
 ·intro ha
  by_cases h1':is.length=1
  ·have c0:=(h2 0 hpos).2.2.1
   have e:prv is.length 0=0:=by unfold prv; rw [if_pos rfl]; omega
   rw [e] at c0
   rw [← c0]; exact ha 0 hpos
  ·have c1:=(h2 1 (by omega)).2.2.1
   have e:prv is.length 1=0:=by unfold prv; rw [if_neg (by omega)]
   rw [e] at c1
   rw [← c1]; exact ha 1 (by omega)
theorem zn9 {many:Nat} {as:List Arw} {p:Int×Int} {O:List (Option (Int×Int))} {L:List Nat} (hal:∀a∈as,AOk many a) (lp:Fq.Low p) (zp:Fz 300 p) (hO:∀q,some q∈O->Fq.Low q/\Fz 300 q) (ht:tmd O=L) (hc:∀a∈as,a.g∈L->a.s∈L):j9 [.lst (as.map encT),fr p,qL O,.lst (nats L)]=some (.bl (KptL p (tmQ O) L as)):=by
 have lp':=zfr (g:=gT (gsCons (gV 4) (gsCons (gV 5) (gsCons (gV 6) (gsCons (gV 7) gsNil))))) (b:=j8) encT (fun a=>!decide (a.g∈L) || !Fq.under (tmQ O a.g) (early p (tmQ O) a)) (fun ρ=>∃y4 y5 y6 y7 y8 y9 y10,ρ=[some (.lst (as.map encT)),some (fr p),some (qL O),some (.lst (nats L)),y4,y5,y6,y7,y8,y9,y10]) (.bl false) as [some (.lst (as.map encT)),some (fr p),some (qL O),some (.lst (nats L)),none,none,none,none,none,none,none] ⟨_,_,_,_,_,_,_,rfl⟩ (by
  rintro a ha ρ ⟨y4,y5,y6,y7,y8,y9,y10,rfl⟩
  have ok:=hal a ha
  have qi:=jd false a.g L
  rw [if_neg (by decide)] at qi
  refine ⟨[some (.lst (as.map encT)),some (fr p),some (qL O),some (.lst (nats L)),some (.int (a.s:Int)),some (.int (a.g:Int)),some (.int a.t),some (.int (a.b:Int)),y8,y9,y10],rfl,?_⟩
  by_cases hin:a.g∈L
  ·rw [decide_eq_true hin] at qi ⊢
   have i1:=zn3 (L:=O) (g:=a.s) (by rw [ht]; exact hc a ha hin)
   have i2:=zn3 (L:=O) (g:=a.g) (by rw [ht]; exact hin)
   have kl:=znz (a:=a) lp (za8 hO a.s).1 (za8 hO a.g).1
   have x1z:=(za8 hO a.s).2.1
   have y1z:=(za8 hO a.g).2.1
   have x2z:=(za8 hO a.s).2.2
   have y2z:=(za8 hO a.g).2.2
   generalize Fq.under (tmQ O a.g) (early p (tmQ O) a)=ub at *
   generalize tmQ O a.s=x at *
   generalize tmQ O a.g=y at *
   have hz1:=zp.1
   have hz2:=zp.2
   have tz:Sz 300 a.t:=zam (w:=1000000000) (by have:=ok.t0; omega) ok.t1 (by decide)
   have bz:Sz 300 (a.b:Int):=zam (w:=4) (by omega) (by have:=ok.b; omega) (by decide)
   have m1:mulI (.int x.1) (.int p.2)=some (.int (x.1 * p.2)):=uu x1z hz2 (by decide) (by decide)
   have m2:mulI (.int a.t) (.int x.2)=some (.int (a.t * x.2)):=uu tz x2z (by decide) (by decide)
   have m3:mulI (.int (a.t * x.2)) (.int p.2)=some (.int (a.t * x.2 * p.2)):=uu (tz.mul x2z) hz2 (by decide) (by decide)
   have m4:mulI (.int p.1) (.int (a.b:Int))=some (.int (p.1 * (a.b:Int))):=uu hz1 bz (by decide) (by decide)
   have m5:mulI (.int (p.1 * (a.b:Int))) (.int x.2)=some (.int (p.1 * (a.b:Int) * x.2)):=uu (hz1.mul bz) x2z (by decide) (by decide)
   have m6:mulI (.int y.1) (.int x.2)=some (.int (y.1 * x.2)):=uu y1z x2z (by decide) (by decide)
   have m7:mulI (.int (y.1 * x.2)) (.int p.2)=some (.int (y.1 * x.2 * p.2)):=uu (y1z.mul x2z) hz2 (by decide) (by decide)
   have lz:Sz 902 (x.1 * p.2+a.t * x.2 * p.2-p.1 * (a.b:Int) * x.2):=((((x1z.mul hz2).mono (by decide:300+300<=900)).add ((tz.mul x2z).mul hz2)).sub (((hz1.mul bz).mul x2z).mono (by decide)))
   have m8:mulI (.int (x.1 * p.2+a.t * x.2 * p.2-p.1 * (a.b:Int) * x.2)) (.int y.2)=some (.int ((x.1 * p.2+a.t * x.2 * p.2-p.1 * (a.b:Int) * x.2) * y.2)):=uu lz y2z (by decide) (by decide)
   have lt':ltD (.int (y.1 * x.2 * p.2)) (.int ((x.1 * p.2+a.t * x.2 * p.2-p.1 * (a.b:Int) * x.2) * y.2))=some (.bl ub):=(zk6 _ _).trans (by rw [kl])
   have a0:=fr0 x
   have a1:=fr1 x
   have b0:=fr0 y
   have b1:=fr1 y
   have p0:=fr0 p
   have p1:=fr1 p
   clear lz x1z y1z x2z y2z tz bz ok ha hz1 hz2 hal lp zp hO ht hc hin
   generalize fr x=X at *
   generalize fr y=Y at *
   generalize fr p=F at *
   generalize qL O=TM at *
   generalize nats L=nl at *
   generalize as.map encT=al at *
   generalize hw9:x.1 * p.2+a.t * x.2 * p.2-p.1 * (a.b:Int) * x.2=w9 at *
   generalize w9 * y.2=w1 at *
   generalize y.1 * x.2 * p.2=w2 at *
   generalize y.1 * x.2=w3 at *
   generalize a.t * x.2 * p.2=w4 at *
   generalize a.t * x.2=w5 at *
   generalize p.1 * (a.b:Int) * x.2=w6 at *
   generalize p.1 * (a.b:Int)=w7 at *
   generalize x.1 * p.2=w8 at *
   subst hw9
   cases ub
   ·have hlt:=of_decide_eq_false kl.symm
    clear kl
    refine .inl ⟨rfl,[some (.lst al),some F,some TM,some (.lst nl),some (.int (a.s:Int)),some (.int (a.g:Int)),some (.int a.t),some (.int (a.b:Int)),some X,some Y,some (.int (w8+w4-w6))],?_,_,_,_,_,_,_,_,rfl⟩
    unfold j8
    walk_at "mir"
   ·have hlt:=of_decide_eq_true kl.symm
    clear kl
    refine .inr ⟨rfl,?_⟩
    unfold j8
    walk_at "mir"
  ·rw [decide_eq_false hin] at qi ⊢
   refine .inl ⟨rfl,[some (.lst (as.map encT)),some (fr p),some (qL O),some (.lst (nats L)),some (.int (a.s:Int)),some (.int (a.g:Int)),some (.int a.t),some (.int (a.b:Int)),y8,y9,y10],?_,_,_,_,_,_,_,_,rfl⟩
   clear ok ha hal lp zp hO ht hc hin
   generalize fr p=F at *
   generalize qL O=TM at *
   generalize nats L=nl at *
   generalize as.map encT=al at *
   unfold j8
   walk_at "mir")
 have lsd:lsD (eV 0) [some (.lst (as.map encT)),some (fr p),some (qL O),some (.lst (nats L)),none,none,none,none,none,none,none]=some (as.map encT):=rfl
 unfold KptL
 rcases lp' with ⟨h1,ρ',lp',y4,y5,y6,y7,y8,y9,y10,rfl⟩ | ⟨h1,lp'⟩
 ·rw [h1]
  clear hal lp zp hO ht hc h1
  generalize qL O=TM at *
  generalize nats L=nl at *
  generalize fr p=F at *
  unfold j9 sFor
  generalize lsD (eV 0)=LS at *
  generalize as.map encT=al at *
  walk_at "mir"
 ·rw [h1]
  clear hal lp zp hO ht hc h1
  generalize qL O=TM at *
  generalize nats L=nl at *
  generalize fr p=F at *
  unfold j9 sFor
  generalize lsD (eV 0)=LS at *
  generalize as.map encT=al at *
  walk_at "mir"
theorem zts {ns:List Int} {c0:Int} {many:Nat} {mk:Int->Arw} (hc0:vm [.lst (ns.map .int),.int 0]=some (.int c0)) (hmk:∀c,vb [.int c,.int (many:Int),.int (c0 / 8)]=some (encT (mk c))) (r:L3.Env) (h0:r[0]?.join=some (.lst (ns.map .int))) (h1:r[1]?.join=some (.int (many:Int))):zlv r=some (.lst ((((ns.drop 4).take 16).map mk).map encT)):=by
 rw [List.map_map]
 refine zal D.int (fun c=>encT (mk c)) ((ns.drop 4).take 16) (znw 0 4 20 h0) (by rw [List.length_take]; omega) fun c _=>⟨_,rfl,?_⟩
 have hcap:capsD r [1,0]=[some (.int (many:Int)),some (.lst (ns.map .int))]:=by unfold capsD; simp [h0,h1]
 rw [hcap]
 have:=hmk c
 clear hcap hmk h0 h1
 walk_at "mir"
theorem ztt {many:Nat} (hm:many<=8) (r:L3.Env) (h1:r[1]?.join=some (.int (many:Int))):zlu r=some (.lst (nm many)):=by
 refine zal (fun (t:Nat)=>D.int (t:Int)) (fun (k:Nat)=>D.str ("a"++itx (k:Int))) (List.range many) (zer h1 (by omega)) (by rw [List.length_range]; omega) fun g hg=>⟨_,rfl,?_⟩
 have hg:=List.mem_range.mp hg
 obtain ⟨s1,s2⟩:=zqw g (by omega)
 clear hg h1 hm
 walk_at "mir"
theorem ztu {as:List Arw} (hl:as.length<=1000) (r:L3.Env) (h3:r[2]?.join=some (.lst (as.map encT))):zlt r=some (.lst ((as.map fun a=>mkA a a.s).map encA)):=by
 rw [List.map_map]
 refine zal encT (fun a=>encA (mkA a a.s)) as (by unfold lsD; have:eV 2 r=_:=h3; rw [this]; rfl) (by omega) fun a _=>⟨_,rfl,?_⟩
 have i0:ixD (encT a) (.int 0)=some (.int (a.s:Int)):=rfl
 have:=zs0 a a.s
 clear hl h3
 walk_at "mir"
theorem ztv (as:List Arw) (f:Arw->Int):sI (as.map fun a=>mkA a (f a))=sI as/\gI (as.map fun a=>mkA a (f a))=gI as/\tI (as.map fun a=>mkA a (f a))=tI as/\bI (as.map fun a=>mkA a (f a))=bI as:=by
 refine ⟨funext fun i=>(zn1 as f i.toNat).1,funext fun i=>(zn1 as f i.toNat).2.1,funext fun i=>(zn1 as f i.toNat).2.2.1,funext fun i=>?_⟩
 unfold bI
 rw [(zn1 as f i.toNat).2.2.2]
theorem zs8 (b:Bool):eqD true (.bl b) (.bl b)=some (.bl false):=by cases b <;> rfl
theorem zq9 (beat:Int×Int) (is:List Int) (O:List (Option (Int×Int))):eqD true (papQ beat is O) (papQ beat is O)=some (.bl false) :=
 ((E3 (E2 Ei Ei) (El Ei) (El Eq')).eq (by decide) (neg:=true) (beat,is,O) (beat,is,O)).trans (by simp)
theorem zoa {e0:Option D} {ns:List D} {many:Nat} {as:List Arw} {rk:Nat->Nat} (hm1:1<=many) (hm:many<=8) (hns:ns.length=many) (hal:as.length<=16) (had:∀a∈as,Drawn many rk a) (hok:NetOk many (as.map fun a=>mkA a a.s)) (c:Int) (y5 y6 y7 y8 y9 y10 y11 y12 y13:Option D) :
  ∃z5 z6 z7 z8 z9 z10 z11 z12 z13,zfk [e0,some (.int (many:Int)),some (.lst (as.map encT)),some (netD ns (as.map fun a=>mkA a a.s)),some (.int c),y5,y6,y7,y8,y9,y10,y11,y12,y13]=some (.nx [e0,some (.int (many:Int)),some (.lst (as.map encT)),some (netD ns (as.map fun a=>mkA a a.s)),some (.int c),z5,z6,z7,z8,z9,z10,z11,z12,z13]):=by
 obtain ⟨zg,mxg,hzg⟩:=zco c (k:=1) (by decide) (by decide)
 obtain ⟨g,hg,hgm⟩:∃g:Nat,(zg:Int) % (many:Int)=(g:Int)/\g<many:=⟨zg % many,by simp,Nat.mod_lt _ (by omega)⟩
 have mg:modD (.int (zg:Int)) (.int (many:Int))=some (.int (g:Int)):=(u8 (by omega)).trans (by rw [hg])
 obtain ⟨L,lead,hL⟩:=zjv (as:=as) (many:=many) (g:=g) (by omega) (by omega) (fun a ha=>(had a ha).s) hgm
 obtain ⟨L2,lead2,hL2⟩:=zq7 (ns:=ns) (as:=as.map fun a=>mkA a (a.s:Int)) (many:=many) (g:=g) (by omega) (by rw [List.length_map]; omega) (fun a ha=>by
  obtain ⟨a',h1,rfl⟩:=List.mem_map.mp ha
  exact (had a' h1).s) hgm
 have hLL:L2=L:=((Ld.made (fun a=>(a.s:Int))).mp hL2).uniq hL
 subst hLL
 obtain ⟨bt0,is0,O0,pp,h8,hl0,z40,z60,hP0⟩:=zn8 (L:=L2) hm hal had hL.lt (c / 2)
 have blk:∃(beat:Int×Int) (is:List Int) (O:List (Option (Int×Int))),(sIf (tb (e2 (eqD false) (e2 modD (eV 4) (eC (.int 2))) (eC (.int 1)))) (sSet 7 (fun ρ=>((aCons (eV 7) (aCons (fun ρ=>((aCons (eV 4) (aCons (eC (.int 3)) aNil)) ρ).bind fun ds=>yw (ds++[])) (aCons (eV 2) aNil))) ρ).bind fun ds=>v7 (ds++[]))) sSkip) [e0,some (.int (many:Int)),some (.lst (as.map encT)),some (netD ns (as.map fun a=>mkA a a.s)),some (.int c),some (.int (g:Int)),some (.lst (nats L2)),some (papQ bt0 is0 O0),y8,y9,y10,y11,y12,y13]=some (.nx [e0,some (.int (many:Int)),some (.lst (as.map encT)),some (netD ns (as.map fun a=>mkA a a.s)),some (.int c),some (.int (g:Int)),some (.lst (nats L2)),some (papQ beat is O),y8,y9,y10,y11,y12,y13])/\PapQ beat is O:=by
  by_cases h2:c % 2=1
  ·obtain ⟨z,mx,hz⟩:=zco c (k:=3) (by decide) (by decide)
   obtain ⟨beat,is,O,fa,hP⟩:=zmd hm hal had hP0 h8 (by omega) (by omega) z40 z60 hz
   refine ⟨beat,is,O,?_,hP⟩
   clear hP hP0 h8 hl0 z40 z60 pp hz had hok hal hns hm hm1 hL hL2 lead lead2 mg hg hgm mxg hzg
   generalize papQ beat is O=P1 at *
   generalize papQ bt0 is0 O0=P0 at *
   generalize netD ns (as.map fun a=>mkA a a.s)=net at *
   generalize as.map encT=al at *
   generalize nats L2=nl at *
   walk_at "mir"
  ·refine ⟨bt0,is0,O0,?_,hP0⟩
   clear hP0 h8 hl0 z40 z60 pp had hok hal hns hm hm1 hL hL2 lead lead2 mg hg hgm mxg hzg
   generalize papQ bt0 is0 O0=P0 at *
   generalize netD ns (as.map fun a=>mkA a a.s)=net at *
   generalize as.map encT=al at *
   generalize nats L2=nl at *
   walk_at "mir"
 obtain ⟨beat,is,O,k1,hP⟩:=blk
 have zb:=hP.zb
 have hO3:∀q,some q∈O->Fq.Low q/\Fz 300 q:=fun q hq=>⟨(hP.O q hq).1,(hP.O q hq).2.mono (by decide)⟩
 have rk2:∀a∈(as.map fun a=>mkA a (a.s:Int)),a.b=0->rk a.s<rk a.g:=fun a ha=>by
  obtain ⟨a',h1,rfl⟩:=List.mem_map.mp ha
  exact (had a' h1).r
 have ok:∀a∈as,AOk many a:=fun a ha=>⟨(had a ha).s,(had a ha).g,(had a ha).t0,(had a ha).t1,(had a ha).b⟩
 obtain ⟨b,hb,hbi⟩:=zjw (ns:=ns) (g:=g) (is:=is) (pace:=beat) (OL:=O) (L:=L2) hok hns (by omega) (by have:=hP.l; omega) (by rw [List.length_map]; omega) (by have:=hP.ll; omega) rk2 hP.lb (zb.mono (by decide)) hO3 lead2 hL2
 obtain ⟨s1,s2,s3,s4⟩:=ztv as (fun a=>(a.s:Int))
 have kp:KptL beat (tmQ O) L2 (as.map fun a=>mkA a (a.s:Int))=KptL beat (tmQ O) L2 as:=by unfold KptL; rw [List.all_map]; rfl
 rw [s1,s2,s3,s4,kp,List.length_map] at hbi
 obtain ⟨b1,hr1,hr2⟩:=zme (as:=as) (is:=is) (L:=L2) (by have:=hP.l; omega) (by omega)
 have ll:lenD [qL O]=some (.int (O.length:Int)):=(vk _).trans (by simp)
 have lq:eqD false (.int (O.length:Int)) (.int (many:Int))=some (.bl (decide (O.length=many))):=(zcj _ _).trans (by rw [if_neg (by decide),show decide ((O.length:Int)=(many:Int))=decide (O.length=many) from decide_eq_decide.mpr (by omega)])
 have isb:isiD "bool" (.bl b)=some (.bl true):=rfl
 have eb:=zs8 b
 have ep:=zq9 beat is O
 have et:=zi3 false (tmd O) L2
 rw [if_neg (by decide)] at et
 have due1:eB (bAnd (tb (e2 (eqD false) (eN lenD (aCons (eV 10) aNil)) (eV 1))) (tb (e2 (eqD false) zdu (eV 6)))) [e0,some (.int (many:Int)),some (.lst (as.map encT)),some (netD ns (as.map fun a=>mkA a a.s)),some (.int c),some (.int (g:Int)),some (.lst (nats L2)),some (papQ beat is O),some (fr beat),some (.lst (is.map .int)),some (qL O),y11,y12,y13]=some (.bl (decide (O.length=many) && decide (tmd O=L2))):=by
  by_cases hlen:O.length=many
  ·have q1:=zn6 (L:=O) hlen (by omega) [e0,some (.int (many:Int)),some (.lst (as.map encT)),some (netD ns (as.map fun a=>mkA a a.s)),some (.int c),some (.int (g:Int)),some (.lst (nats L2)),some (papQ beat is O),some (fr beat),some (.lst (is.map .int)),some (qL O),y11,y12,y13] rfl rfl
   rw [decide_eq_true hlen] at lq ⊢
   clear hbi hb k1 eb isb hr1 hr2 s1 s2 s3 s4 kp ok rk2 hO3 zb hP hP0 h8 hl0 z40 z60 pp had hok hal hns hm hm1 hL hL2 lead lead2 mg hg hgm mxg hzg ep hlen
   generalize decide (tmd O=L2)=dd at *
   generalize papQ beat is O=P1 at *
   generalize netD ns (as.map fun a=>mkA a a.s)=net at *
   generalize as.map encT=al at *
   generalize is.map D.int=il at *
   generalize nats (tmd O)=tl at *
   generalize nats L2=nl at *
   generalize qL O=fl at *
   generalize fr beat=F at *
   generalize (O.length:Int)=oln at *
   walk_at "mir"
  ·rw [decide_eq_false hlen] at lq ⊢
   clear hbi hb k1 eb isb hr1 hr2 s1 s2 s3 s4 kp ok rk2 hO3 zb hP hP0 h8 hl0 z40 z60 pp had hok hal hns hm hm1 hL hL2 lead lead2 mg hg hgm mxg hzg ep hlen et
   generalize papQ beat is O=P1 at *
   generalize netD ns (as.map fun a=>mkA a a.s)=net at *
   generalize as.map encT=al at *
   generalize is.map D.int=il at *
   generalize nats L2=nl at *
   generalize qL O=fl at *
   generalize fr beat=F at *
   generalize (O.length:Int)=oln at *
   walk_at "mir"
 generalize hd1:(decide (O.length=many) && decide (tmd O=L2))=d1 at *
 have hd1':d1=true↔O.length=many/\tmd O=L2:=by rw [← hd1,Bool.and_eq_true,decide_eq_true_iff,decide_eq_true_iff]
 have due2:∃d2:Bool,eB (bAnd (tb (eV 11)) (bAnd (tb (fun ρ=>((aCons (eV 2) (aCons (eV 9) (aCons (eV 6) aNil))) ρ).bind fun ds=>wy (ds++[]))) (tb (e2 (eqD false) (fun ρ=>((aCons (eV 2) (aCons (eV 9) aNil)) ρ).bind fun ds=>yn (ds++[])) (eV 8))))) [e0,some (.int (many:Int)),some (.lst (as.map encT)),some (netD ns (as.map fun a=>mkA a a.s)),some (.int c),some (.int (g:Int)),some (.lst (nats L2)),some (papQ beat is O),some (fr beat),some (.lst (is.map .int)),some (qL O),some (.bl d1),y12,y13]=some (.bl d2)/\(d2=true↔d1=true/\RngR (sI as) (gI as) as.length is/\gI as (is.getD 0 0)∈L2/\Fq.mk (is.map (tI as)).sum (is.map (bI as)).sum=beat):=by
  cases d1 with
  | false =>
   refine ⟨false,?_,by simp⟩
   clear hbi hb k1 eb isb hr1 hr2 s1 s2 s3 s4 kp ok rk2 hO3 zb hP hP0 h8 hl0 z40 z60 pp had hok hal hns hm hm1 hL hL2 lead lead2 mg hg hgm mxg hzg ep et due1 hd1 hd1' ll lq
   generalize papQ beat is O=P1 at *
   generalize netD ns (as.map fun a=>mkA a a.s)=net at *
   generalize as.map encT=al at *
   generalize is.map D.int=il at *
   generalize nats L2=nl at *
   generalize qL O=fl at *
   generalize fr beat=F at *
   walk_at "mir"
  | true =>
   cases b1 with
   | false =>
    refine ⟨false,?_,⟨(fun z=>by cases z),fun z=>?_⟩⟩
    ·clear hbi hb k1 eb isb hr2 s1 s2 s3 s4 kp ok rk2 hO3 zb hP hP0 h8 hl0 z40 z60 pp had hok hal hns hm hm1 hL hL2 lead lead2 mg hg hgm mxg hzg ep et due1 hd1 hd1' ll lq
     generalize papQ beat is O=P1 at *
     generalize netD ns (as.map fun a=>mkA a a.s)=net at *
     generalize as.map encT=al at *
     generalize is.map D.int=il at *
     generalize nats L2=nl at *
     generalize qL O=fl at *
     generalize fr beat=F at *
     walk_at "mir"
    ·exact absurd (hr2.mpr ⟨z.2.1,(zg3 hL z.2.1).mp z.2.2.1⟩) (by simp)
   | true =>
    obtain ⟨rg,rl⟩:=hr2.mp rfl
    have pos:1<=(is.map (bI as)).sum:=ziv (rank:=rk) (fun a ha=>(had a ha).r) rg
    have mn:=zev (as:=as) (is:=is) (by have:=hP.l; omega) (fun a ha=>(had a ha).b) rg.2.1 pos
    have e:=eqF (neg:=false) (Fq.mk (is.map (tI as)).sum (is.map (bI as)).sum) beat
    rw [if_neg (by decide)] at e
    refine ⟨decide (Fq.mk (is.map (tI as)).sum (is.map (bI as)).sum=beat),?_,?_⟩
    ·generalize decide (Fq.mk (is.map (tI as)).sum (is.map (bI as)).sum=beat)=dd at *
     generalize fr (Fq.mk (is.map (tI as)).sum (is.map (bI as)).sum)=M at *
     clear hbi hb k1 eb isb hr2 s1 s2 s3 s4 kp ok rk2 hO3 zb hP hP0 h8 hl0 z40 z60 pp had hok hal hns hm hm1 hL hL2 lead lead2 mg hg hgm mxg hzg ep et due1 hd1 hd1' ll lq pos rg rl
     generalize papQ beat is O=P1 at *
     generalize netD ns (as.map fun a=>mkA a a.s)=net at *
     generalize as.map encT=al at *
     generalize is.map D.int=il at *
     generalize nats L2=nl at *
     generalize qL O=fl at *
     generalize fr beat=F at *
     walk_at "mir"
    ·rw [decide_eq_true_iff]
     exact ⟨fun z=>⟨rfl,rg,(zg3 hL rg).mpr rl,z⟩,fun z=>z.2.2.2⟩
 obtain ⟨d2,due2,hd2⟩:=due2
 have due3:eB (bAnd (tb (eV 11)) (tb (fun ρ=>((aCons (eV 2) (aCons (eV 8) (aCons (eV 10) (aCons (eV 6) aNil)))) ρ).bind fun ds=>j9 (ds++[])))) [e0,some (.int (many:Int)),some (.lst (as.map encT)),some (netD ns (as.map fun a=>mkA a a.s)),some (.int c),some (.int (g:Int)),some (.lst (nats L2)),some (papQ beat is O),some (fr beat),some (.lst (is.map .int)),some (qL O),some (.bl d2),y12,y13]=some (.bl b):=by
  cases d2 with
  | false =>
   have hbf:b=false:=by
    cases hbv:b with
    | false=>rfl
    | true =>
     have z:=hbi.mp hbv
     exact absurd (hd2.mpr ⟨hd1'.mpr ⟨z.2.2.2.1,z.2.2.2.2.1⟩,z.1,z.2.2.1,z.2.1⟩) (by simp)
   rw [hbf]
   clear hbf hbi hb k1 eb isb hr1 hr2 s1 s2 s3 s4 kp ok rk2 hO3 zb hP hP0 h8 hl0 z40 z60 pp had hok hal hns hm hm1 hL hL2 lead lead2 mg hg hgm mxg hzg ep et due1 due2 hd1 hd1' hd2 ll lq
   generalize papQ beat is O=P1 at *
   generalize netD ns (as.map fun a=>mkA a a.s)=net at *
   generalize as.map encT=al at *
   generalize is.map D.int=il at *
   generalize nats L2=nl at *
   generalize qL O=fl at *
   generalize fr beat=F at *
   walk_at "mir"
  | true =>
   obtain ⟨w1,w2,w3,w4⟩:=hd2.mp rfl
   obtain ⟨hlen,htm⟩:=hd1'.mp w1
   have ft:=zn9 (many:=many) (as:=as) (p:=beat) (O:=O) (L:=L2) ok hP.lb (zb.mono (by decide)) hO3 htm (fun a ha hg=>hL.cls ha hg)
   have hbb:b=KptL beat (tmQ O) L2 as:=by
    apply Bool.eq_iff_iff.mpr
    rw [hbi]
    exact ⟨fun z=>z.2.2.2.2.2,fun z=>⟨w2,w4,w3,hlen,htm,z⟩⟩
   rw [hbb]
   generalize KptL beat (tmQ O) L2 as=kk at *
   clear hbb hbi hb k1 eb isb hr1 hr2 s1 s2 s3 s4 kp ok rk2 hO3 zb hP hP0 h8 hl0 z40 z60 pp had hok hal hns hm hm1 hL hL2 lead lead2 mg hg hgm mxg hzg ep et due1 due2 hd1 hd1' hd2 ll lq w1 w2 w3 w4 hlen htm
   generalize papQ beat is O=P1 at *
   generalize netD ns (as.map fun a=>mkA a a.s)=net at *
   generalize as.map encT=al at *
   generalize is.map D.int=il at *
   generalize nats L2=nl at *
   generalize qL O=fl at *
   generalize fr beat=F at *
   walk_at "mir"
 replace hb:uc [netD ns (as.map fun a=>mkA a a.s),.int (g:Int),papQ beat is O]=some (.bl b):=hb
 refine ⟨some (.int (g:Int)),some (.lst (nats L2)),some (papQ beat is O),some (fr beat),some (.lst (is.map .int)),some (qL O),some (.bl b),some (papQ beat is O),some (.bl b),?_⟩
 have tp:papQ beat is O=.tup [fr beat,.lst (is.map .int),qL O]:=rfl
 have asg:sAsg (gT (gsCons (gV 8) (gsCons (gV 9) (gsCons (gV 10) gsNil)))) (eV 7) [e0,some (.int (many:Int)),some (.lst (as.map encT)),some (netD ns (as.map fun a=>mkA a a.s)),some (.int c),some (.int (g:Int)),some (.lst (nats L2)),some (papQ beat is O),y8,y9,y10,y11,y12,y13]=some (.nx [e0,some (.int (many:Int)),some (.lst (as.map encT)),some (netD ns (as.map fun a=>mkA a a.s)),some (.int c),some (.int (g:Int)),some (.lst (nats L2)),some (papQ beat is O),some (fr beat),some (.lst (is.map .int)),some (qL O),y11,y12,y13]):=by rw [tp]; rfl
 have dsp:(fun ρ=>((aCons (eV 8) (aCons (eN listD (aCons (eV 9) aNil)) (aCons (eN listD (aCons (eV 10) aNil)) aNil))) ρ).bind fun ds=>some (D.tup ds)) [e0,some (.int (many:Int)),some (.lst (as.map encT)),some (netD ns (as.map fun a=>mkA a a.s)),some (.int c),some (.int (g:Int)),some (.lst (nats L2)),some (papQ beat is O),some (fr beat),some (.lst (is.map .int)),some (qL O),some (.bl b),y12,y13]=some (papQ beat is O):=by rw [tp]; rfl
 clear tp hbi hr1 hr2 s1 s2 s3 s4 kp ok rk2 hO3 zb hP hP0 h8 hl0 z40 z60 had hok hal hns hm hm1 ll lq et hd1 hd1' hd2 hL hL2 lead2 hg hgm hzg
 generalize papQ beat is O=P1 at *
 generalize papQ bt0 is0 O0=P0 at *
 generalize netD ns (as.map fun a=>mkA a a.s)=net at *
 generalize as.map encT=al at *
 generalize is.map D.int=il at *
 generalize nats L2=nl at *
 generalize qL O=fl at *
 generalize fr beat=F at *
 unfold zfk
 generalize sAsg (gT (gsCons (gV 8) (gsCons (gV 9) (gsCons (gV 10) gsNil)))) (eV 7)=AS at *
 generalize (sIf (tb (e2 (eqD false) (e2 modD (eV 4) (eC (.int 2))) (eC (.int 1)))) (sSet 7 (fun ρ=>((aCons (eV 7) (aCons (fun ρ=>((aCons (eV 4) (aCons (eC (.int 3)) aNil)) ρ).bind fun ds=>yw (ds++[])) (aCons (eV 2) aNil))) ρ).bind fun ds=>v7 (ds++[]))) sSkip)=B1 at *
 generalize (fun ρ=>((aCons (eV 8) (aCons (eN listD (aCons (eV 9) aNil)) (aCons (eN listD (aCons (eV 10) aNil)) aNil))) ρ).bind fun ds=>some (D.tup ds))=DS at *
 generalize (eB (bAnd (tb (e2 (eqD false) (eN lenD (aCons (eV 10) aNil)) (eV 1))) (tb (e2 (eqD false) zdu (eV 6)))))=D1 at *
 generalize (eB (bAnd (tb (eV 11)) (bAnd (tb (fun ρ=>((aCons (eV 2) (aCons (eV 9) (aCons (eV 6) aNil))) ρ).bind fun ds=>wy (ds++[]))) (tb (e2 (eqD false) (fun ρ=>((aCons (eV 2) (aCons (eV 9) aNil)) ρ).bind fun ds=>yn (ds++[])) (eV 8))))))=D2 at *
 generalize (eB (bAnd (tb (eV 11)) (tb (fun ρ=>((aCons (eV 2) (aCons (eV 8) (aCons (eV 10) (aCons (eV 6) aNil)))) ρ).bind fun ds=>j9 (ds++[])))))=D3 at *
 walk_at "mir"
theorem zob (ns:List Int) (hl:ns.length<=63):zqo [.lst (ns.map .int)]=some (.bl true):=by
 obtain ⟨c0,hc0⟩:=zou ns 0 (by decide)
 obtain ⟨c1,hc1⟩:=zou ns 1 (by decide)
 obtain ⟨many,hmany,hm1,hm8⟩:∃m:Nat,1+c0 % 8=(m:Int)/\1<=m/\m<=8:=⟨(1+c0 % 8).toNat,by omega,by omega,by omega⟩
 obtain ⟨mk,rk,hmk,hdr⟩:=drawn (c0 / 8) hm1 (by omega:many<=1000)
 generalize has:((ns.drop 4).take 16).map mk=as
 have hal:as.length<=16:=by rw [← has,List.length_map,List.length_take]; omega
 have had:∀a∈as,Drawn many rk a:=fun a ha=>by
  rw [← has] at ha
  obtain ⟨c,_,rfl⟩:=List.mem_map.mp ha
  exact hdr c
 have ok:=zs2 (rk:=rk) (fun a=>(a.s:Int)) hm1 hm8 (as:=as) (by omega) had
 have hnm:(nm many).length=many:=by unfold nm; rw [List.length_map,List.length_range]
 have hnet:=ztr ok hnm (zqu hm1 hm8)
 have k5:=zts (ns:=ns) (many:=many) hc0 hmk [some (.lst (ns.map .int)),some (.int (many:Int)),none,none,none,none,none,none,none,none,none,none,none,none] rfl rfl
 rw [has] at k5
 have k4:=ztt hm8 [some (.lst (ns.map .int)),some (.int (many:Int)),some (.lst (as.map encT)),none,none,none,none,none,none,none,none,none,none,none] rfl
 have k3:=ztu (as:=as) (by omega) [some (.lst (ns.map .int)),some (.int (many:Int)),some (.lst (as.map encT)),none,none,none,none,none,none,none,none,none,none,none] rfl
 have hcut:cutD (ns.map D.int) (some 20) (some 32)=((ns.drop 20).take 12).map D.int:=by
  have:=zih (ns.map D.int) 20 32
  rw [List.map_take,List.map_drop]
  exact this
 have hcl:((ns.drop 20).take 12).length<=12:=by rw [List.length_take]; omega
 generalize (ns.drop 20).take 12=cl at *
 have ad:addD (.lst [.int c1]) (.lst (cl.map .int))=some (.lst ((c1::cl).map .int)):=by rw [vw (by rw [List.length_map,List.length_singleton]; omega)]; rfl
 have lp:=zfr (g:=gV 4) (b:=zfk) D.int (fun _=>true) (fun ρ=>∃y4 y5 y6 y7 y8 y9 y10 y11 y12 y13,ρ=[some (.lst (ns.map .int)),some (.int (many:Int)),some (.lst (as.map encT)),some (netD (nm many) (as.map fun a=>mkA a a.s)),y4,y5,y6,y7,y8,y9,y10,y11,y12,y13]) (.bl false) (c1::cl) [some (.lst (ns.map .int)),some (.int (many:Int)),some (.lst (as.map encT)),some (netD (nm many) (as.map fun a=>mkA a a.s)),none,none,none,none,none,none,none,none,none,none] ⟨_,_,_,_,_,_,_,_,_,_,rfl⟩ (by
  rintro c _ ρ ⟨y4,y5,y6,y7,y8,y9,y10,y11,y12,y13,rfl⟩
  obtain ⟨z5,z6,z7,z8,z9,z10,z11,z12,z13,hz⟩:=zoa (e0:=some (.lst (ns.map .int))) (ns:=nm many) hm1 hm8 hnm hal had ok c y5 y6 y7 y8 y9 y10 y11 y12 y13
  exact ⟨_,rfl,.inl ⟨rfl,_,hz,_,_,_,_,_,_,_,_,_,_,rfl⟩⟩)
 rcases lp with ⟨_,ρ',lp,y4,y5,y6,y7,y8,y9,y10,y11,y12,y13,rfl⟩ | ⟨h1,_⟩
 ·clear hcl had ok hnm hal hm1 hm8 hl has hdr hmk
  generalize (c1::cl).map D.int=cll at *
  generalize netD (nm many) (as.map fun a=>mkA a a.s)=net at *
  generalize (as.map fun a=>mkA a a.s).map encA=mks at *
  generalize as.map encT=al at *
  generalize nm many=nml at *
  generalize cl.map D.int=cd at *
  unfold zqo
  walk_at "mir"
 ·have:(c1::cl).all (fun _=>true)=true:=by simp
  rw [this] at h1; cases h1
section
variable {P:Program} {w:World} {K:PySem.W.Frag} {mg:Str->Option Value} {base:Heap} {a:Adr}
theorem zs9 (T:Txt K mg a):FnOk P w K mg base CX0 7 a.f_law a.d_law ["_law_script"] (spLaw K):=zsk (zst T) zob
end
theorem all_mk {l:PySem.W.OpenLaw} {w:World} {K:PySem.W.Frag} {h:Heap} {mg:Str->Option Value} {fa f0 f1 f2 f3 f4 f5 f6 f7 f8 f9 f10 f11 f12 f13 f14 f15 f16 f17 f18 f19 f20 f21 f22 f23 f24 f25 f26 f27 f28 f29 f30 f31 f32 f33 f34 f35 f36 f37 f38 f39 f40 c_Arrow c_Ride c_Wait c_Back c_Net td2 td3:Addr} (X:K.In h) (G:h.Ns mainGlobals mg) (hfa:mg "law"=some (.ref fa))
  {od0 an0 od1 an1 od2 an2 od3 an3 od4 an4 od5 an5 od6 an6 od7 an7 od8 an8 od9 an9 od10 an10 od11 an11 od12 an12 od13 an13 od14 an14 od15 an15 od16 an16 od17 an17 od18 an18 od19 an19 od20 an20 od21 an21 od22 an22 od23 an23 od24 an24 od25 an25 od26 an26 od27 an27 od28 an28 od29 an29 od30 an30 od31 an31 od32 an32 od33 an33 od34 an34 od35 an35 od36 an36 od37 an37 od38 an38 od39 an39 od40 an40 tdd2 tdd3:Option Addr} {sl0 sl1 sl2 sl3 sl4 sl5 sl6 sl7 sl8 sl9 sl10 sl11 sl12 sl13 sl14 sl15 sl16 sl17 sl18 sl19 sl20 sl21 sl22 sl23 sl24 sl25 sl26 sl27 sl28 sl29 sl30 sl31 sl32 sl33 sl34 sl35 sl36 sl37 sl38 sl39 sl40 tsl2 tsl3:Array (Option Value)} {oc0 kV0 dc0 pm0 cd0 ct0 oc1 kV1 dc1 pm1 cd1 ct1 oc2 kV2 dc2 pm2 cd2 ct2 oc3 kV3 dc3 pm3 cd3 ct3 oc4 kV4 dc4 pm4 cd4 ct4 oc5 kV5 dc5 pm5 cd5 ct5 oc6 kV6 dc6 pm6 cd6 ct6 oc7 kV7 dc7 pm7 cd7 ct7 oc8 kV8 dc8 pm8 cd8 ct8 oc9 kV9 dc9 pm9 cd9 ct9 oc10 kV10 dc10 pm10 cd10 ct10 oc11 kV11 dc11 pm11 cd11 ct11 oc12 kV12 dc12 pm12 cd12 ct12 oc13 kV13 dc13 pm13 cd13 ct13 oc14 kV14 dc14 pm14 cd14 ct14 oc15 kV15 dc15 pm15 cd15 ct15 oc16 kV16 dc16 pm16 cd16 ct16 oc17 kV17 dc17 pm17 cd17 ct17 oc18 kV18 dc18 pm18 cd18 ct18 oc19 kV19 dc19 pm19 cd19 ct19 oc20 kV20 dc20 pm20 cd20 ct20 oc21 kV21 dc21 pm21 cd21 ct21 oc22 kV22 dc22 pm22 cd22 ct22 oc23 kV23 dc23 pm23 cd23 ct23 oc24 kV24 dc24 pm24 cd24 ct24 oc25 kV25 dc25 pm25 cd25 ct25 oc26 kV26 dc26 pm26 cd26 ct26 oc27 kV27 dc27 pm27 cd27 ct27 oc28 kV28 dc28 pm28 cd28 ct28 oc29 kV29 dc29 pm29 cd29 ct29 oc30 kV30 dc30 pm30 cd30 ct30 oc31 kV31 dc31 pm31 cd31 ct31 oc32 kV32 dc32 pm32 cd32 ct32 oc33 kV33 dc33 pm33 cd33 ct33 oc34 kV34 dc34 pm34 cd34 ct34 oc35 kV35 dc35 pm35 cd35 ct35 oc36 kV36 dc36 pm36 cd36 ct36 oc37 kV37 dc37 pm37 cd37 ct37 oc38 kV38 dc38 pm38 cd38 ct38 oc39 kV39 dc39 pm39 cd39 ct39 oc40 kV40 dc40 pm40 cd40 ct40 tc2 tc3:Value} {tk2_0 tk3_0 gt0 gt1 gt2 gt3 gt4:Tok} {tn2 tn3:Nat}
  (aC_Arrow:PySem.W.nsIn K mainGlobals "Arrow"=some (some (.ref c_Arrow))) (pg_Arrow:PySem.W.plainGet K c_Arrow Str.empty=true) (hd_Arrow:PySem.W.hasDictIn K c_Arrow=true) (po_Arrow:PySem.W.plainOver K c_Arrow=true) (sa_Arrow:PySem.W.findIn K (.ref c_Arrow) "__setattr__"=some (some (.builtin "object.__setattr__"))) (mk_Arrow:PySem.W.makesIn K c_Arrow=true) (kc_Arrow:PySem.W.keepIn K (.ref c_Arrow)=true)
  (aC_Ride:PySem.W.nsIn K mainGlobals "Ride"=some (some (.ref c_Ride))) (pg_Ride:PySem.W.plainGet K c_Ride Str.empty=true) (hd_Ride:PySem.W.hasDictIn K c_Ride=true) (po_Ride:PySem.W.plainOver K c_Ride=true) (sa_Ride:PySem.W.findIn K (.ref c_Ride) "__setattr__"=some (some (.builtin "object.__setattr__"))) (mk_Ride:PySem.W.makesIn K c_Ride=true) (kc_Ride:PySem.W.keepIn K (.ref c_Ride)=true)
  (aC_Wait:PySem.W.nsIn K mainGlobals "Wait"=some (some (.ref c_Wait))) (pg_Wait:PySem.W.plainGet K c_Wait Str.empty=true) (hd_Wait:PySem.W.hasDictIn K c_Wait=true) (po_Wait:PySem.W.plainOver K c_Wait=true) (sa_Wait:PySem.W.findIn K (.ref c_Wait) "__setattr__"=some (some (.builtin "object.__setattr__"))) (mk_Wait:PySem.W.makesIn K c_Wait=true) (kc_Wait:PySem.W.keepIn K (.ref c_Wait)=true)
  (aC_Back:PySem.W.nsIn K mainGlobals "Back"=some (some (.ref c_Back))) (pg_Back:PySem.W.plainGet K c_Back Str.empty=true) (hd_Back:PySem.W.hasDictIn K c_Back=true) (po_Back:PySem.W.plainOver K c_Back=true) (sa_Back:PySem.W.findIn K (.ref c_Back) "__setattr__"=some (some (.builtin "object.__setattr__"))) (mk_Back:PySem.W.makesIn K c_Back=true) (kc_Back:PySem.W.keepIn K (.ref c_Back)=true)
  (aC_Net:PySem.W.nsIn K mainGlobals "Net"=some (some (.ref c_Net))) (pg_Net:PySem.W.plainGet K c_Net Str.empty=true) (hd_Net:PySem.W.hasDictIn K c_Net=true) (po_Net:PySem.W.plainOver K c_Net=true) (sa_Net:PySem.W.findIn K (.ref c_Net) "__setattr__"=some (some (.builtin "object.__setattr__"))) (mk_Net:PySem.W.makesIn K c_Net=true) (kc_Net:PySem.W.keepIn K (.ref c_Net)=true)
  (a0:PySem.W.findIn K (.ref c_Arrow) "__init__"=some (some (.ref f0))) (i0:PySem.W.isFn K (.ref f0)=true)
  (l0:K.lookup f0=some ⟨oc0,od0,.func (PySem.W.fnOf "__init__" "Arrow.__init__" (defArgs yx) (defBody yx) (defScope yx) .none kV0 dc0 pm0 an0 cd0 ct0),sl0⟩) (c0:PySem.W.codeIn K cd0 "Arrow.__init__"=true) (k0:PySem.W.keepIn K (.ref f0)=true)
  (a1:PySem.W.findIn K (.ref c_Ride) "__init__"=some (some (.ref f1))) (i1:PySem.W.isFn K (.ref f1)=true)
  (l1:K.lookup f1=some ⟨oc1,od1,.func (PySem.W.fnOf "__init__" "Ride.__init__" (defArgs xa) (defBody xa) (defScope xa) .none kV1 dc1 pm1 an1 cd1 ct1),sl1⟩) (c1:PySem.W.codeIn K cd1 "Ride.__init__"=true) (k1:PySem.W.keepIn K (.ref f1)=true)
  (a2:PySem.W.findIn K (.ref c_Wait) "__init__"=some (some (.ref f2))) (i2:PySem.W.isFn K (.ref f2)=true)
  (l2:K.lookup f2=some ⟨oc2,od2,.func (PySem.W.fnOf "__init__" "Wait.__init__" (defArgs yk) (defBody yk) (defScope yk) (.ref td2) kV2 dc2 pm2 an2 cd2 ct2),sl2⟩) (c2:PySem.W.codeIn K cd2 "Wait.__init__"=true) (k2:PySem.W.keepIn K (.ref f2)=true)
  (t2:K.lookup td2=some ⟨tc2,tdd2,.seq #[.int 0 tk2_0] tn2,tsl2⟩)
  (a3:PySem.W.findIn K (.ref c_Back) "__init__"=some (some (.ref f3))) (i3:PySem.W.isFn K (.ref f3)=true)
  (l3:K.lookup f3=some ⟨oc3,od3,.func (PySem.W.fnOf "__init__" "Back.__init__" (defArgs ym) (defBody ym) (defScope ym) (.ref td3) kV3 dc3 pm3 an3 cd3 ct3),sl3⟩) (c3:PySem.W.codeIn K cd3 "Back.__init__"=true) (k3:PySem.W.keepIn K (.ref f3)=true)
  (t3:K.lookup td3=some ⟨tc3,tdd3,.seq #[.int 1 tk3_0] tn3,tsl3⟩)
  (a4:PySem.W.nsIn K mainGlobals "is_letter"=some (some (.ref f4)))
  (l4:K.lookup f4=some ⟨oc4,od4,.func (PySem.W.fnOf "is_letter" "is_letter" (defArgs x9) (defBody x9) (defScope x9) .none kV4 dc4 pm4 an4 cd4 ct4),sl4⟩) (c4:PySem.W.codeIn K cd4 "is_letter"=true) (k4:PySem.W.keepIn K (.ref f4)=true)
  (a5:PySem.W.nsIn K mainGlobals "is_figure"=some (some (.ref f5)))
  (l5:K.lookup f5=some ⟨oc5,od5,.func (PySem.W.fnOf "is_figure" "is_figure" (defArgs wa) (defBody wa) (defScope wa) .none kV5 dc5 pm5 an5 cd5 ct5),sl5⟩) (c5:PySem.W.codeIn K cd5 "is_figure"=true) (k5:PySem.W.keepIn K (.ref f5)=true)
  (a6:PySem.W.nsIn K mainGlobals "is_name"=some (some (.ref f6)))
  (l6:K.lookup f6=some ⟨oc6,od6,.func (PySem.W.fnOf "is_name" "is_name" (defArgs vo) (defBody vo) (defScope vo) .none kV6 dc6 pm6 an6 cd6 ct6),sl6⟩) (c6:PySem.W.codeIn K cd6 "is_name"=true) (k6:PySem.W.keepIn K (.ref f6)=true)
  (a7:PySem.W.nsIn K mainGlobals "are_names"=some (some (.ref f7)))
  (l7:K.lookup f7=some ⟨oc7,od7,.func (PySem.W.fnOf "are_names" "are_names" (defArgs wb) (defBody wb) (defScope wb) .none kV7 dc7 pm7 an7 cd7 ct7),sl7⟩) (c7:PySem.W.codeIn K cd7 "are_names"=true) (k7:PySem.W.keepIn K (.ref f7)=true)
  (a8:PySem.W.nsIn K mainGlobals "lies_within"=some (some (.ref f8)))
  (l8:K.lookup f8=some ⟨oc8,od8,.func (PySem.W.fnOf "lies_within" "lies_within" (defArgs xb) (defBody xb) (defScope xb) .none kV8 dc8 pm8 an8 cd8 ct8),sl8⟩) (c8:PySem.W.codeIn K cd8 "lies_within"=true) (k8:PySem.W.keepIn K (.ref f8)=true)
  (a9:PySem.W.nsIn K mainGlobals "is_right"=some (some (.ref f9)))
  (l9:K.lookup f9=some ⟨oc9,od9,.func (PySem.W.fnOf "is_right" "is_right" (defArgs wm) (defBody wm) (defScope wm) .none kV9 dc9 pm9 an9 cd9 ct9),sl9⟩) (c9:PySem.W.codeIn K cd9 "is_right"=true) (k9:PySem.W.keepIn K (.ref f9)=true)
  (a10:PySem.W.nsIn K mainGlobals "placed_goings"=some (some (.ref f10)))
  (l10:K.lookup f10=some ⟨oc10,od10,.func (PySem.W.fnOf "placed_goings" "placed_goings" (defArgs yp) (defBody yp) (defScope yp) .none kV10 dc10 pm10 an10 cd10 ct10),sl10⟩) (c10:PySem.W.codeIn K cd10 "placed_goings"=true) (k10:PySem.W.keepIn K (.ref f10)=true)
  (a11:PySem.W.findIn K (.ref c_Net) "__init__"=some (some (.ref f11))) (i11:PySem.W.isFn K (.ref f11)=true)
  (l11:K.lookup f11=some ⟨oc11,od11,.func (PySem.W.fnOf "__init__" "Net.__init__" (defArgs xm) (defBody xm) (defScope xm) .none kV11 dc11 pm11 an11 cd11 ct11),sl11⟩) (c11:PySem.W.codeIn K cd11 "Net.__init__"=true) (k11:PySem.W.keepIn K (.ref f11)=true)
  (a12:PySem.W.findIn K (.ref c_Net) "into"=some (some (.ref f12))) (i12:PySem.W.isFn K (.ref f12)=true)
  (l12:K.lookup f12=some ⟨oc12,od12,.func (PySem.W.fnOf "into" "Net.into" (defArgs wn) (defBody wn) (defScope wn) .none kV12 dc12 pm12 an12 cd12 ct12),sl12⟩) (c12:PySem.W.codeIn K cd12 "Net.into"=true) (k12:PySem.W.keepIn K (.ref f12)=true)
  (a13:PySem.W.nsIn K mainGlobals "leads_to"=some (some (.ref f13)))
  (l13:K.lookup f13=some ⟨oc13,od13,.func (PySem.W.fnOf "leads_to" "leads_to" (defArgs wo) (defBody wo) (defScope wo) .none kV13 dc13 pm13 an13 cd13 ct13),sl13⟩) (c13:PySem.W.codeIn K cd13 "leads_to"=true) (k13:PySem.W.keepIn K (.ref f13)=true)
  (a14:PySem.W.nsIn K mainGlobals "common_divisor"=some (some (.ref f14)))
  (l14:K.lookup f14=some ⟨oc14,od14,.func (PySem.W.fnOf "common_divisor" "common_divisor" (defArgs yg) (defBody yg) (defScope yg) .none kV14 dc14 pm14 an14 cd14 ct14),sl14⟩) (c14:PySem.W.codeIn K cd14 "common_divisor"=true) (k14:PySem.W.keepIn K (.ref f14)=true)
  (a15:PySem.W.nsIn K mainGlobals "ratio"=some (some (.ref f15)))
  (l15:K.lookup f15=some ⟨oc15,od15,.func (PySem.W.fnOf "ratio" "ratio" (defArgs jj) (defBody jj) (defScope jj) .none kV15 dc15 pm15 an15 cd15 ct15),sl15⟩) (c15:PySem.W.codeIn K cd15 "ratio"=true) (k15:PySem.W.keepIn K (.ref f15)=true)
  (a16:PySem.W.nsIn K mainGlobals "scaled"=some (some (.ref f16)))
  (l16:K.lookup f16=some ⟨oc16,od16,.func (PySem.W.fnOf "scaled" "scaled" (defArgs ug) (defBody ug) (defScope ug) .none kV16 dc16 pm16 an16 cd16 ct16),sl16⟩) (c16:PySem.W.codeIn K cd16 "scaled"=true) (k16:PySem.W.keepIn K (.ref f16)=true)
  (a17:PySem.W.nsIn K mainGlobals "plus"=some (some (.ref f17)))
  (l17:K.lookup f17=some ⟨oc17,od17,.func (PySem.W.fnOf "plus" "plus" (defArgs zar) (defBody zar) (defScope zar) .none kV17 dc17 pm17 an17 cd17 ct17),sl17⟩) (c17:PySem.W.codeIn K cd17 "plus"=true) (k17:PySem.W.keepIn K (.ref f17)=true)
  (a18:PySem.W.nsIn K mainGlobals "minus"=some (some (.ref f18)))
  (l18:K.lookup f18=some ⟨oc18,od18,.func (PySem.W.fnOf "minus" "minus" (defArgs jk) (defBody jk) (defScope jk) .none kV18 dc18 pm18 an18 cd18 ct18),sl18⟩) (c18:PySem.W.codeIn K cd18 "minus"=true) (k18:PySem.W.keepIn K (.ref f18)=true)
  (a19:PySem.W.nsIn K mainGlobals "under"=some (some (.ref f19)))
  (l19:K.lookup f19=some ⟨oc19,od19,.func (PySem.W.fnOf "under" "under" (defArgs jl) (defBody jl) (defScope jl) .none kV19 dc19 pm19 an19 cd19 ct19),sl19⟩) (c19:PySem.W.codeIn K cd19 "under"=true) (k19:PySem.W.keepIn K (.ref f19)=true)
  (a20:PySem.W.nsIn K mainGlobals "is_ring"=some (some (.ref f20)))
  (l20:K.lookup f20=some ⟨oc20,od20,.func (PySem.W.fnOf "is_ring" "is_ring" (defArgs vp) (defBody vp) (defScope vp) .none kV20 dc20 pm20 an20 cd20 ct20),sl20⟩) (c20:PySem.W.codeIn K cd20 "is_ring"=true) (k20:PySem.W.keepIn K (.ref f20)=true)
  (a21:PySem.W.nsIn K mainGlobals "mean"=some (some (.ref f21)))
  (l21:K.lookup f21=some ⟨oc21,od21,.func (PySem.W.fnOf "mean" "mean" (defArgs zas) (defBody zas) (defScope zas) .none kV21 dc21 pm21 an21 cd21 ct21),sl21⟩) (c21:PySem.W.codeIn K cd21 "mean"=true) (k21:PySem.W.keepIn K (.ref f21)=true)
  (a22:PySem.W.nsIn K mainGlobals "is_kept"=some (some (.ref f22)))
  (l22:K.lookup f22=some ⟨oc22,od22,.func (PySem.W.fnOf "is_kept" "is_kept" (defArgs vq) (defBody vq) (defScope vq) .none kV22 dc22 pm22 an22 cd22 ct22),sl22⟩) (c22:PySem.W.codeIn K cd22 "is_kept"=true) (k22:PySem.W.keepIn K (.ref f22)=true)
  (a23:PySem.W.nsIn K mainGlobals "has_mean"=some (some (.ref f23)))
  (l23:K.lookup f23=some ⟨oc23,od23,.func (PySem.W.fnOf "has_mean" "has_mean" (defArgs wp) (defBody wp) (defScope wp) .none kV23 dc23 pm23 an23 cd23 ct23),sl23⟩) (c23:PySem.W.codeIn K cd23 "has_mean"=true) (k23:PySem.W.keepIn K (.ref f23)=true)
  (a24:PySem.W.nsIn K mainGlobals "holds_at"=some (some (.ref f24)))
  (l24:K.lookup f24=some ⟨oc24,od24,.func (PySem.W.fnOf "holds_at" "holds_at" (defArgs wq) (defBody wq) (defScope wq) .none kV24 dc24 pm24 an24 cd24 ct24),sl24⟩) (c24:PySem.W.codeIn K cd24 "holds_at"=true) (k24:PySem.W.keepIn K (.ref f24)=true)
  (a25:PySem.W.nsIn K mainGlobals "_law_cell_at"=some (some (.ref f25)))
  (l25:K.lookup f25=some ⟨oc25,od25,.func (PySem.W.fnOf "_law_cell_at" "_law_cell_at" (defArgs xc) (defBody xc) (defScope xc) .none kV25 dc25 pm25 an25 cd25 ct25),sl25⟩) (c25:PySem.W.codeIn K cd25 "_law_cell_at"=true) (k25:PySem.W.keepIn K (.ref f25)=true)
  (a26:PySem.W.nsIn K mainGlobals "_law_is_row"=some (some (.ref f26)))
  (l26:K.lookup f26=some ⟨oc26,od26,.func (PySem.W.fnOf "_law_is_row" "_law_is_row" (defArgs xn) (defBody xn) (defScope xn) .none kV26 dc26 pm26 an26 cd26 ct26),sl26⟩) (c26:PySem.W.codeIn K cd26 "_law_is_row"=true) (k26:PySem.W.keepIn K (.ref f26)=true)
  (a27:PySem.W.nsIn K mainGlobals "_law_mixed"=some (some (.ref f27)))
  (l27:K.lookup f27=some ⟨oc27,od27,.func (PySem.W.fnOf "_law_mixed" "_law_mixed" (defArgs wc) (defBody wc) (defScope wc) .none kV27 dc27 pm27 an27 cd27 ct27),sl27⟩) (c27:PySem.W.codeIn K cd27 "_law_mixed"=true) (k27:PySem.W.keepIn K (.ref f27)=true)
  (a28:PySem.W.nsIn K mainGlobals "_law_rank"=some (some (.ref f28)))
  (l28:K.lookup f28=some ⟨oc28,od28,.func (PySem.W.fnOf "_law_rank" "_law_rank" (defArgs wt) (defBody wt) (defScope wt) .none kV28 dc28 pm28 an28 cd28 ct28),sl28⟩) (c28:PySem.W.codeIn K cd28 "_law_rank"=true) (k28:PySem.W.keepIn K (.ref f28)=true)
  (a29:PySem.W.nsIn K mainGlobals "_law_arrow"=some (some (.ref f29)))
  (l29:K.lookup f29=some ⟨oc29,od29,.func (PySem.W.fnOf "_law_arrow" "_law_arrow" (defArgs we) (defBody we) (defScope we) .none kV29 dc29 pm29 an29 cd29 ct29),sl29⟩) (c29:PySem.W.codeIn K cd29 "_law_arrow"=true) (k29:PySem.W.keepIn K (.ref f29)=true)
  (a30:PySem.W.nsIn K mainGlobals "_law_made"=some (some (.ref f30)))
  (l30:K.lookup f30=some ⟨oc30,od30,.func (PySem.W.fnOf "_law_made" "_law_made" (defArgs wu) (defBody wu) (defScope wu) .none kV30 dc30 pm30 an30 cd30 ct30),sl30⟩) (c30:PySem.W.codeIn K cd30 "_law_made"=true) (k30:PySem.W.keepIn K (.ref f30)=true)
  (a31:PySem.W.nsIn K mainGlobals "_law_lowest"=some (some (.ref f31)))
  (l31:K.lookup f31=some ⟨oc31,od31,.func (PySem.W.fnOf "_law_lowest" "_law_lowest" (defArgs xo) (defBody xo) (defScope xo) .none kV31 dc31 pm31 an31 cd31 ct31),sl31⟩) (c31:PySem.W.codeIn K cd31 "_law_lowest"=true) (k31:PySem.W.keepIn K (.ref f31)=true)
  (a32:PySem.W.nsIn K mainGlobals "_law_found"=some (some (.ref f32)))
  (l32:K.lookup f32=some ⟨oc32,od32,.func (PySem.W.fnOf "_law_found" "_law_found" (defArgs wf) (defBody wf) (defScope wf) .none kV32 dc32 pm32 an32 cd32 ct32),sl32⟩) (c32:PySem.W.codeIn K cd32 "_law_found"=true) (k32:PySem.W.keepIn K (.ref f32)=true)
  (a33:PySem.W.nsIn K mainGlobals "_law_leading"=some (some (.ref f33)))
  (l33:K.lookup f33=some ⟨oc33,od33,.func (PySem.W.fnOf "_law_leading" "_law_leading" (defArgs xf) (defBody xf) (defScope xf) .none kV33 dc33 pm33 an33 cd33 ct33),sl33⟩) (c33:PySem.W.codeIn K cd33 "_law_leading"=true) (k33:PySem.W.keepIn K (.ref f33)=true)
  (a34:PySem.W.nsIn K mainGlobals "_law_mean_of"=some (some (.ref f34)))
  (l34:K.lookup f34=some ⟨oc34,od34,.func (PySem.W.fnOf "_law_mean_of" "_law_mean_of" (defArgs xg) (defBody xg) (defScope xg) .none kV34 dc34 pm34 an34 cd34 ct34),sl34⟩) (c34:PySem.W.codeIn K cd34 "_law_mean_of"=true) (k34:PySem.W.keepIn K (.ref f34)=true)
  (a35:PySem.W.nsIn K mainGlobals "_law_greatest"=some (some (.ref f35)))
  (l35:K.lookup f35=some ⟨oc35,od35,.func (PySem.W.fnOf "_law_greatest" "_law_greatest" (defArgs yy) (defBody yy) (defScope yy) .none kV35 dc35 pm35 an35 cd35 ct35),sl35⟩) (c35:PySem.W.codeIn K cd35 "_law_greatest"=true) (k35:PySem.W.keepIn K (.ref f35)=true)
  (a36:PySem.W.nsIn K mainGlobals "_law_paper"=some (some (.ref f36)))
  (l36:K.lookup f36=some ⟨oc36,od36,.func (PySem.W.fnOf "_law_paper" "_law_paper" (defArgs wg) (defBody wg) (defScope wg) .none kV36 dc36 pm36 an36 cd36 ct36),sl36⟩) (c36:PySem.W.codeIn K cd36 "_law_paper"=true) (k36:PySem.W.keepIn K (.ref f36)=true)
  (a37:PySem.W.nsIn K mainGlobals "_law_faulty"=some (some (.ref f37)))
  (l37:K.lookup f37=some ⟨oc37,od37,.func (PySem.W.fnOf "_law_faulty" "_law_faulty" (defArgs xp) (defBody xp) (defScope xp) .none kV37 dc37 pm37 an37 cd37 ct37),sl37⟩) (c37:PySem.W.codeIn K cd37 "_law_faulty"=true) (k37:PySem.W.keepIn K (.ref f37)=true)
  (a38:PySem.W.nsIn K mainGlobals "_law_is_ring"=some (some (.ref f38)))
  (l38:K.lookup f38=some ⟨oc38,od38,.func (PySem.W.fnOf "_law_is_ring" "_law_is_ring" (defArgs xh) (defBody xh) (defScope xh) .none kV38 dc38 pm38 an38 cd38 ct38),sl38⟩) (c38:PySem.W.codeIn K cd38 "_law_is_ring"=true) (k38:PySem.W.keepIn K (.ref f38)=true)
  (a39:PySem.W.nsIn K mainGlobals "_law_fit"=some (some (.ref f39)))
  (l39:K.lookup f39=some ⟨oc39,od39,.func (PySem.W.fnOf "_law_fit" "_law_fit" (defArgs vt) (defBody vt) (defScope vt) .none kV39 dc39 pm39 an39 cd39 ct39),sl39⟩) (c39:PySem.W.codeIn K cd39 "_law_fit"=true) (k39:PySem.W.keepIn K (.ref f39)=true)
  (a40:PySem.W.nsIn K mainGlobals "law"=some (some (.ref f40)))
  (l40:K.lookup f40=some ⟨oc40,od40,.func (PySem.W.fnOf "law" "law" (defArgs zbr) (defBody zbr) (defScope zbr) .none kV40 dc40 pm40 an40 cd40 ct40),sl40⟩) (c40:PySem.W.codeIn K cd40 "law"=true) (k40:PySem.W.keepIn K (.ref f40)=true)
  (qs_Arrow:PySem.W.specialIn K (.ref c_Arrow) "__getattribute__"=some (some (.builtin "type.__getattribute__"))) (qr_Arrow:PySem.W.readsIn K c_Arrow (.type "type")=true) (qf_Arrow:PySem.W.findCls K (.ref c_Arrow) (.type "type") "__init__"=some (.val (.ref f0)))
  (n_Net_arrows:PySem.W.findIn K (.ref c_Net) "arrows"=some none)
  (n_Arrow_behind:PySem.W.findIn K (.ref c_Arrow) "behind"=some none)
  (n_Ride_behind:PySem.W.findIn K (.ref c_Ride) "behind"=some none)
  (n_Wait_behind:PySem.W.findIn K (.ref c_Wait) "behind"=some none)
  (n_Back_behind:PySem.W.findIn K (.ref c_Back) "behind"=some none)
  (n_Arrow_goal:PySem.W.findIn K (.ref c_Arrow) "goal"=some none)
  (n_Ride_goal:PySem.W.findIn K (.ref c_Ride) "goal"=some none)
  (n_Wait_goal:PySem.W.findIn K (.ref c_Wait) "goal"=some none)
  (n_Back_goal:PySem.W.findIn K (.ref c_Back) "goal"=some none)
  (n_Net_names:PySem.W.findIn K (.ref c_Net) "names"=some none)
  (n_Arrow_start:PySem.W.findIn K (.ref c_Arrow) "start"=some none)
  (n_Ride_start:PySem.W.findIn K (.ref c_Ride) "start"=some none)
  (n_Wait_start:PySem.W.findIn K (.ref c_Wait) "start"=some none)
  (n_Back_start:PySem.W.findIn K (.ref c_Back) "start"=some none)
  (n_Arrow_time:PySem.W.findIn K (.ref c_Arrow) "time"=some none)
  (n_Ride_time:PySem.W.findIn K (.ref c_Ride) "time"=some none)
  (n_Wait_time:PySem.W.findIn K (.ref c_Wait) "time"=some none)
  (n_Back_time:PySem.W.findIn K (.ref c_Back) "time"=some none)
  (ign:PySem.W.specialIn K (.builtin "object.__class__") "__get__"=some (some (.builtin "getset_descriptor.__get__"))) (igt:PySem.W.takesIn K (.builtin "object.__class__")=some true)
  (iga_Arrow:PySem.W.findIn K (.ref c_Arrow) "__class__"=some (some (.builtin "object.__class__"))) (igm_Arrow:PySem.W.mroIn K c_Arrow (.type "object")=some true)
  (kit_Arrow_Back:PySem.W.kitOne K (.ref c_Arrow) (.ref c_Back)=some false)
  (kit_Arrow_Ride:PySem.W.kitOne K (.ref c_Arrow) (.ref c_Ride)=some false)
  (iga_Ride:PySem.W.findIn K (.ref c_Ride) "__class__"=some (some (.builtin "object.__class__"))) (igm_Ride:PySem.W.mroIn K c_Ride (.type "object")=some true)
  (kit_Ride_Back:PySem.W.kitOne K (.ref c_Ride) (.ref c_Back)=some false)
  (kit_Ride_Ride:PySem.W.kitOne K (.ref c_Ride) (.ref c_Ride)=some true)
  (iga_Wait:PySem.W.findIn K (.ref c_Wait) "__class__"=some (some (.builtin "object.__class__"))) (igm_Wait:PySem.W.mroIn K c_Wait (.type "object")=some true)
  (kit_Wait_Back:PySem.W.kitOne K (.ref c_Wait) (.ref c_Back)=some false)
  (kit_Wait_Ride:PySem.W.kitOne K (.ref c_Wait) (.ref c_Ride)=some false)
  (iga_Back:PySem.W.findIn K (.ref c_Back) "__class__"=some (some (.builtin "object.__class__"))) (igm_Back:PySem.W.mroIn K c_Back (.type "object")=some true)
  (kit_Back_Back:PySem.W.kitOne K (.ref c_Back) (.ref c_Back)=some true)
  (kit_Back_Ride:PySem.W.kitOne K (.ref c_Back) (.ref c_Ride)=some false)
  (iga_Net:PySem.W.findIn K (.ref c_Net) "__class__"=some (some (.builtin "object.__class__"))) (igm_Net:PySem.W.mroIn K c_Net (.type "object")=some true)
  (kit_Net_Back:PySem.W.kitOne K (.ref c_Net) (.ref c_Back)=some false)
  (kit_Net_Ride:PySem.W.kitOne K (.ref c_Net) (.ref c_Ride)=some false)
  (z0:PySem.W.nsIn K mainGlobals "abs"=some none)
  (z1:PySem.W.nsIn K mainGlobals "all"=some none)
  (z2:PySem.W.nsIn K mainGlobals "bool"=some none)
  (z3:PySem.W.nsIn K mainGlobals "enumerate"=some none)
  (z4:PySem.W.nsIn K mainGlobals "int"=some none)
  (z5:PySem.W.nsIn K mainGlobals "isinstance"=some none)
  (z6:PySem.W.nsIn K mainGlobals "len"=some none)
  (z7:PySem.W.nsIn K mainGlobals "list"=some none)
  (z8:PySem.W.nsIn K mainGlobals "max"=some none)
  (z9:PySem.W.nsIn K mainGlobals "min"=some none)
  (z10:PySem.W.nsIn K mainGlobals "range"=some none)
  (z11:PySem.W.nsIn K mainGlobals "set"=some none)
  (z12:PySem.W.nsIn K mainGlobals "sorted"=some none)
  (z13:PySem.W.nsIn K mainGlobals "str"=some none)
  (z14:PySem.W.nsIn K mainGlobals "sum"=some none)
  (gc0:PySem.W.nsIn K mainGlobals "MOST_ARROWS"=some (some (.int 120 gt0)))
  (gc1:PySem.W.nsIn K mainGlobals "MOST_BEHIND"=some (some (.int 4 gt1)))
  (gc2:PySem.W.nsIn K mainGlobals "MOST_NAMES"=some (some (.int 40 gt2)))
  (gc3:PySem.W.nsIn K mainGlobals "MOST_SIGNS"=some (some (.int 8 gt3)))
  (gc4:PySem.W.nsIn K mainGlobals "MOST_TIME"=some (some (.int 1000000000 gt4))) :
  ∃fd:FuncData,(∀(s:Shared) (v:Value),BindsTo s fd ⟨[v],[]⟩ [("_law_script",v)])/\∀base:Heap,K.In base->base.Ns mainGlobals mg->FnOk l.prog w K mg base CX0 7 fa fd ["_law_script"] (spLaw K):=by
 have e:=hfa.symm.trans (PySem.W.mg_of X G a40)
 cases e
 have F0:=yi (st:=yx) l0 c0 k0
 have b0:Binds K (PySem.W.fnOf "__init__" "Arrow.__init__" (defArgs yx) (defBody yx) (defScope yx) .none kV0 dc0 pm0 an0 cd0 ct0) ["self","start","goal","time","behind"] []:=.all fun us hl=>match us,hl with | [_,_,_,_,_],_=>rfl
 have F1:=yi (st:=xa) l1 c1 k1
 have b1:Binds K (PySem.W.fnOf "__init__" "Ride.__init__" (defArgs xa) (defBody xa) (defScope xa) .none kV1 dc1 pm1 an1 cd1 ct1) ["self","start","goal","time"] []:=.all fun us hl=>match us,hl with | [_,_,_,_],_=>rfl
 have F2:=yi (st:=yk) l2 c2 k2
 have b2:Binds K (PySem.W.fnOf "__init__" "Wait.__init__" (defArgs yk) (defBody yk) (defScope yk) (.ref td2) kV2 dc2 pm2 an2 cd2 ct2) ["self","start","goal","time","behind"] []:=ze9 (T:=td2) rfl t2 rfl fun us hl=>by
  have hl:us.length=5:=by simpa using hl
  exact match us,hl with | [_,_,_,_,_],_=>⟨_,rfl,rfl⟩
 have b2_1:Binds K (PySem.W.fnOf "__init__" "Wait.__init__" (defArgs yk) (defBody yk) (defScope yk) (.ref td2) kV2 dc2 pm2 an2 cd2 ct2) ["self","start","goal","time","behind"] [.int 0 tk2_0]:=ze9 (T:=td2) rfl t2 rfl fun us hl=>by
  have hl:us.length=4:=by simpa using hl
  exact match us,hl with | [_,_,_,_],_=>⟨_,rfl,rfl⟩
 have F3:=yi (st:=ym) l3 c3 k3
 have b3:Binds K (PySem.W.fnOf "__init__" "Back.__init__" (defArgs ym) (defBody ym) (defScope ym) (.ref td3) kV3 dc3 pm3 an3 cd3 ct3) ["self","start","goal","time","behind"] []:=ze9 (T:=td3) rfl t3 rfl fun us hl=>by
  have hl:us.length=5:=by simpa using hl
  exact match us,hl with | [_,_,_,_,_],_=>⟨_,rfl,rfl⟩
 have b3_1:Binds K (PySem.W.fnOf "__init__" "Back.__init__" (defArgs ym) (defBody ym) (defScope ym) (.ref td3) kV3 dc3 pm3 an3 cd3 ct3) ["self","start","goal","time","behind"] [.int 1 tk3_0]:=ze9 (T:=td3) rfl t3 rfl fun us hl=>by
  have hl:us.length=4:=by simpa using hl
  exact match us,hl with | [_,_,_,_],_=>⟨_,rfl,rfl⟩
 have F4:=yi (st:=x9) l4 c4 k4
 have b4:Binds K (PySem.W.fnOf "is_letter" "is_letter" (defArgs x9) (defBody x9) (defScope x9) .none kV4 dc4 pm4 an4 cd4 ct4) ["sign"] []:=.all fun us hl=>match us,hl with | [_],_=>rfl
 have F5:=yi (st:=wa) l5 c5 k5
 have b5:Binds K (PySem.W.fnOf "is_figure" "is_figure" (defArgs wa) (defBody wa) (defScope wa) .none kV5 dc5 pm5 an5 cd5 ct5) ["sign"] []:=.all fun us hl=>match us,hl with | [_],_=>rfl
 have F6:=yi (st:=vo) l6 c6 k6
 have b6:Binds K (PySem.W.fnOf "is_name" "is_name" (defArgs vo) (defBody vo) (defScope vo) .none kV6 dc6 pm6 an6 cd6 ct6) ["word"] []:=.all fun us hl=>match us,hl with | [_],_=>rfl
 have F7:=yi (st:=wb) l7 c7 k7
 have b7:Binds K (PySem.W.fnOf "are_names" "are_names" (defArgs wb) (defBody wb) (defScope wb) .none kV7 dc7 pm7 an7 cd7 ct7) ["names"] []:=.all fun us hl=>match us,hl with | [_],_=>rfl
 have F8:=yi (st:=xb) l8 c8 k8
 have b8:Binds K (PySem.W.fnOf "lies_within" "lies_within" (defArgs xb) (defBody xb) (defScope xb) .none kV8 dc8 pm8 an8 cd8 ct8) ["number","least","most"] []:=.all fun us hl=>match us,hl with | [_,_,_],_=>rfl
 have F9:=yi (st:=wm) l9 c9 k9
 have b9:Binds K (PySem.W.fnOf "is_right" "is_right" (defArgs wm) (defBody wm) (defScope wm) .none kV9 dc9 pm9 an9 cd9 ct9) ["arrow","many"] []:=.all fun us hl=>match us,hl with | [_,_],_=>rfl
 have F10:=yi (st:=yp) l10 c10 k10
 have b10:Binds K (PySem.W.fnOf "placed_goings" "placed_goings" (defArgs yp) (defBody yp) (defScope yp) .none kV10 dc10 pm10 an10 cd10 ct10) ["many","arrows"] []:=.all fun us hl=>match us,hl with | [_,_],_=>rfl
 have F11:=yi (st:=xm) l11 c11 k11
 have b11:Binds K (PySem.W.fnOf "__init__" "Net.__init__" (defArgs xm) (defBody xm) (defScope xm) .none kV11 dc11 pm11 an11 cd11 ct11) ["self","names","arrows"] []:=.all fun us hl=>match us,hl with | [_,_,_],_=>rfl
 have F12:=yi (st:=wn) l12 c12 k12
 have b12:Binds K (PySem.W.fnOf "into" "Net.into" (defArgs wn) (defBody wn) (defScope wn) .none kV12 dc12 pm12 an12 cd12 ct12) ["self","going"] []:=.all fun us hl=>match us,hl with | [_,_],_=>rfl
 have F13:=yi (st:=wo) l13 c13 k13
 have b13:Binds K (PySem.W.fnOf "leads_to" "leads_to" (defArgs wo) (defBody wo) (defScope wo) .none kV13 dc13 pm13 an13 cd13 ct13) ["net","going"] []:=.all fun us hl=>match us,hl with | [_,_],_=>rfl
 have F14:=yi (st:=yg) l14 c14 k14
 have b14:Binds K (PySem.W.fnOf "common_divisor" "common_divisor" (defArgs yg) (defBody yg) (defScope yg) .none kV14 dc14 pm14 an14 cd14 ct14) ["one","other"] []:=.all fun us hl=>match us,hl with | [_,_],_=>rfl
 have F15:=yi (st:=jj) l15 c15 k15
 have b15:Binds K (PySem.W.fnOf "ratio" "ratio" (defArgs jj) (defBody jj) (defScope jj) .none kV15 dc15 pm15 an15 cd15 ct15) ["top","bottom"] []:=.all fun us hl=>match us,hl with | [_,_],_=>rfl
 have F16:=yi (st:=ug) l16 c16 k16
 have b16:Binds K (PySem.W.fnOf "scaled" "scaled" (defArgs ug) (defBody ug) (defScope ug) .none kV16 dc16 pm16 an16 cd16 ct16) ["one","whole"] []:=.all fun us hl=>match us,hl with | [_,_],_=>rfl
 have F17:=yi (st:=zar) l17 c17 k17
 have b17:Binds K (PySem.W.fnOf "plus" "plus" (defArgs zar) (defBody zar) (defScope zar) .none kV17 dc17 pm17 an17 cd17 ct17) ["one","other"] []:=.all fun us hl=>match us,hl with | [_,_],_=>rfl
 have F18:=yi (st:=jk) l18 c18 k18
 have b18:Binds K (PySem.W.fnOf "minus" "minus" (defArgs jk) (defBody jk) (defScope jk) .none kV18 dc18 pm18 an18 cd18 ct18) ["one","other"] []:=.all fun us hl=>match us,hl with | [_,_],_=>rfl
 have F19:=yi (st:=jl) l19 c19 k19
 have b19:Binds K (PySem.W.fnOf "under" "under" (defArgs jl) (defBody jl) (defScope jl) .none kV19 dc19 pm19 an19 cd19 ct19) ["one","other"] []:=.all fun us hl=>match us,hl with | [_,_],_=>rfl
 have F20:=yi (st:=vp) l20 c20 k20
 have b20:Binds K (PySem.W.fnOf "is_ring" "is_ring" (defArgs vp) (defBody vp) (defScope vp) .none kV20 dc20 pm20 an20 cd20 ct20) ["net","ring"] []:=.all fun us hl=>match us,hl with | [_,_],_=>rfl
 have F21:=yi (st:=zas) l21 c21 k21
 have b21:Binds K (PySem.W.fnOf "mean" "mean" (defArgs zas) (defBody zas) (defScope zas) .none kV21 dc21 pm21 an21 cd21 ct21) ["net","ring"] []:=.all fun us hl=>match us,hl with | [_,_],_=>rfl
 have F22:=yi (st:=vq) l22 c22 k22
 have b22:Binds K (PySem.W.fnOf "is_kept" "is_kept" (defArgs vq) (defBody vq) (defScope vq) .none kV22 dc22 pm22 an22 cd22 ct22) ["arrow","pace","times"] []:=.all fun us hl=>match us,hl with | [_,_,_],_=>rfl
 have F23:=yi (st:=wp) l23 c23 k23
 have b23:Binds K (PySem.W.fnOf "has_mean" "has_mean" (defArgs wp) (defBody wp) (defScope wp) .none kV23 dc23 pm23 an23 cd23 ct23) ["net","ring","pace"] []:=.all fun us hl=>match us,hl with | [_,_,_],_=>rfl
 have F24:=yi (st:=wq) l24 c24 k24
 have b24:Binds K (PySem.W.fnOf "holds_at" "holds_at" (defArgs wq) (defBody wq) (defScope wq) .none kV24 dc24 pm24 an24 cd24 ct24) ["net","going","paper"] []:=.all fun us hl=>match us,hl with | [_,_,_],_=>rfl
 have F25:=yi (st:=xc) l25 c25 k25
 have b25:Binds K (PySem.W.fnOf "_law_cell_at" "_law_cell_at" (defArgs xc) (defBody xc) (defScope xc) .none kV25 dc25 pm25 an25 cd25 ct25) ["_law_script","_law_k"] []:=.all fun us hl=>match us,hl with | [_,_],_=>rfl
 have F26:=yi (st:=xn) l26 c26 k26
 have b26:Binds K (PySem.W.fnOf "_law_is_row" "_law_is_row" (defArgs xn) (defBody xn) (defScope xn) .none kV26 dc26 pm26 an26 cd26 ct26) ["_law_cell"] []:=.all fun us hl=>match us,hl with | [_],_=>rfl
 have F27:=yi (st:=wc) l27 c27 k27
 have b27:Binds K (PySem.W.fnOf "_law_mixed" "_law_mixed" (defArgs wc) (defBody wc) (defScope wc) .none kV27 dc27 pm27 an27 cd27 ct27) ["_law_cell","_law_k"] []:=.all fun us hl=>match us,hl with | [_,_],_=>rfl
 have F28:=yi (st:=wt) l28 c28 k28
 have b28:Binds K (PySem.W.fnOf "_law_rank" "_law_rank" (defArgs wt) (defBody wt) (defScope wt) .none kV28 dc28 pm28 an28 cd28 ct28) ["_law_turn","_law_many","_law_going"] []:=.all fun us hl=>match us,hl with | [_,_,_],_=>rfl
 have F29:=yi (st:=we) l29 c29 k29
 have b29:Binds K (PySem.W.fnOf "_law_arrow" "_law_arrow" (defArgs we) (defBody we) (defScope we) .none kV29 dc29 pm29 an29 cd29 ct29) ["_law_cell","_law_many","_law_turn"] []:=.all fun us hl=>match us,hl with | [_,_,_],_=>rfl
 have F30:=yi (st:=wu) l30 c30 k30
 have b30:Binds K (PySem.W.fnOf "_law_made" "_law_made" (defArgs wu) (defBody wu) (defScope wu) .none kV30 dc30 pm30 an30 cd30 ct30) ["_law_arrow_here","_law_kind"] []:=.all fun us hl=>match us,hl with | [_,_],_=>rfl
 have F31:=yi (st:=xo) l31 c31 k31
 have b31:Binds K (PySem.W.fnOf "_law_lowest" "_law_lowest" (defArgs xo) (defBody xo) (defScope xo) .none kV31 dc31 pm31 an31 cd31 ct31) ["_law_top","_law_bottom"] []:=.all fun us hl=>match us,hl with | [_,_],_=>rfl
 have F32:=yi (st:=wf) l32 c32 k32
 have b32:Binds K (PySem.W.fnOf "_law_found" "_law_found" (defArgs wf) (defBody wf) (defScope wf) .none kV32 dc32 pm32 an32 cd32 ct32) ["_law_arrows","_law_number"] []:=.all fun us hl=>match us,hl with | [_,_],_=>rfl
 have F33:=yi (st:=xf) l33 c33 k33
 have b33:Binds K (PySem.W.fnOf "_law_leading" "_law_leading" (defArgs xf) (defBody xf) (defScope xf) .none kV33 dc33 pm33 an33 cd33 ct33) ["_law_arrows","_law_going","_law_many"] []:=.all fun us hl=>match us,hl with | [_,_,_],_=>rfl
 have F34:=yi (st:=xg) l34 c34 k34
 have b34:Binds K (PySem.W.fnOf "_law_mean_of" "_law_mean_of" (defArgs xg) (defBody xg) (defScope xg) .none kV34 dc34 pm34 an34 cd34 ct34) ["_law_arrows","_law_ring"] []:=.all fun us hl=>match us,hl with | [_,_],_=>rfl
 have F35:=yi (st:=yy) l35 c35 k35
 have b35:Binds K (PySem.W.fnOf "_law_greatest" "_law_greatest" (defArgs yy) (defBody yy) (defScope yy) .none kV35 dc35 pm35 an35 cd35 ct35) ["_law_arrows","_law_cell","_law_goings"] []:=.all fun us hl=>match us,hl with | [_,_,_],_=>rfl
 have F36:=yi (st:=wg) l36 c36 k36
 have b36:Binds K (PySem.W.fnOf "_law_paper" "_law_paper" (defArgs wg) (defBody wg) (defScope wg) .none kV36 dc36 pm36 an36 cd36 ct36) ["_law_arrows","_law_many","_law_cell","_law_goings"] []:=.all fun us hl=>match us,hl with | [_,_,_,_],_=>rfl
 have F37:=yi (st:=xp) l37 c37 k37
 have b37:Binds K (PySem.W.fnOf "_law_faulty" "_law_faulty" (defArgs xp) (defBody xp) (defScope xp) .none kV37 dc37 pm37 an37 cd37 ct37) ["_law_found_here","_law_cell","_law_arrows"] []:=.all fun us hl=>match us,hl with | [_,_,_],_=>rfl
 have F38:=yi (st:=xh) l38 c38 k38
 have b38:Binds K (PySem.W.fnOf "_law_is_ring" "_law_is_ring" (defArgs xh) (defBody xh) (defScope xh) .none kV38 dc38 pm38 an38 cd38 ct38) ["_law_arrows","_law_ring","_law_goings"] []:=.all fun us hl=>match us,hl with | [_,_,_],_=>rfl
 have F39:=yi (st:=vt) l39 c39 k39
 have b39:Binds K (PySem.W.fnOf "_law_fit" "_law_fit" (defArgs vt) (defBody vt) (defScope vt) .none kV39 dc39 pm39 an39 cd39 ct39) ["_law_arrows","_law_beat","_law_times","_law_goings"] []:=.all fun us hl=>match us,hl with | [_,_,_,_],_=>rfl
 have F40:=yi (st:=zbr) l40 c40 k40
 have b40:Binds K (PySem.W.fnOf "law" "law" (defArgs zbr) (defBody zbr) (defScope zbr) .none kV40 dc40 pm40 an40 cd40 ct40) ["_law_script"] []:=.all fun us hl=>match us,hl with | [_],_=>rfl
 have T:Txt K mg ⟨c_Arrow,c_Ride,c_Wait,c_Back,c_Net,f0,PySem.W.fnOf "__init__" "Arrow.__init__" (defArgs yx) (defBody yx) (defScope yx) .none kV0 dc0 pm0 an0 cd0 ct0,f1,PySem.W.fnOf "__init__" "Ride.__init__" (defArgs xa) (defBody xa) (defScope xa) .none kV1 dc1 pm1 an1 cd1 ct1,f2,PySem.W.fnOf "__init__" "Wait.__init__" (defArgs yk) (defBody yk) (defScope yk) (.ref td2) kV2 dc2 pm2 an2 cd2 ct2,f3,PySem.W.fnOf "__init__" "Back.__init__" (defArgs ym) (defBody ym) (defScope ym) (.ref td3) kV3 dc3 pm3 an3 cd3 ct3,f4,PySem.W.fnOf "is_letter" "is_letter" (defArgs x9) (defBody x9) (defScope x9) .none kV4 dc4 pm4 an4 cd4 ct4,f5,PySem.W.fnOf "is_figure" "is_figure" (defArgs wa) (defBody wa) (defScope wa) .none kV5 dc5 pm5 an5 cd5 ct5,f6,PySem.W.fnOf "is_name" "is_name" (defArgs vo) (defBody vo) (defScope vo) .none kV6 dc6 pm6 an6 cd6 ct6,f7,PySem.W.fnOf "are_names" "are_names" (defArgs wb) (defBody wb) (defScope wb) .none kV7 dc7 pm7 an7 cd7 ct7,f8,PySem.W.fnOf "lies_within" "lies_within" (defArgs xb) (defBody xb) (defScope xb) .none kV8 dc8 pm8 an8 cd8 ct8,f9,PySem.W.fnOf "is_right" "is_right" (defArgs wm) (defBody wm) (defScope wm) .none kV9 dc9 pm9 an9 cd9 ct9,f10,PySem.W.fnOf "placed_goings" "placed_goings" (defArgs yp) (defBody yp) (defScope yp) .none kV10 dc10 pm10 an10 cd10 ct10,f11,PySem.W.fnOf "__init__" "Net.__init__" (defArgs xm) (defBody xm) (defScope xm) .none kV11 dc11 pm11 an11 cd11 ct11,f12,PySem.W.fnOf "into" "Net.into" (defArgs wn) (defBody wn) (defScope wn) .none kV12 dc12 pm12 an12 cd12 ct12,f13,PySem.W.fnOf "leads_to" "leads_to" (defArgs wo) (defBody wo) (defScope wo) .none kV13 dc13 pm13 an13 cd13 ct13,f14,PySem.W.fnOf "common_divisor" "common_divisor" (defArgs yg) (defBody yg) (defScope yg) .none kV14 dc14 pm14 an14 cd14 ct14,f15,PySem.W.fnOf "ratio" "ratio" (defArgs jj) (defBody jj) (defScope jj) .none kV15 dc15 pm15 an15 cd15 ct15,f16,PySem.W.fnOf "scaled" "scaled" (defArgs ug) (defBody ug) (defScope ug) .none kV16 dc16 pm16 an16 cd16 ct16,f17,PySem.W.fnOf "plus" "plus" (defArgs zar) (defBody zar) (defScope zar) .none kV17 dc17 pm17 an17 cd17 ct17,f18,PySem.W.fnOf "minus" "minus" (defArgs jk) (defBody jk) (defScope jk) .none kV18 dc18 pm18 an18 cd18 ct18,f19,PySem.W.fnOf "under" "under" (defArgs jl) (defBody jl) (defScope jl) .none kV19 dc19 pm19 an19 cd19 ct19,f20,PySem.W.fnOf "is_ring" "is_ring" (defArgs vp) (defBody vp) (defScope vp) .none kV20 dc20 pm20 an20 cd20 ct20,f21,PySem.W.fnOf "mean" "mean" (defArgs zas) (defBody zas) (defScope zas) .none kV21 dc21 pm21 an21 cd21 ct21,f22,PySem.W.fnOf "is_kept" "is_kept" (defArgs vq) (defBody vq) (defScope vq) .none kV22 dc22 pm22 an22 cd22 ct22,f23,PySem.W.fnOf "has_mean" "has_mean" (defArgs wp) (defBody wp) (defScope wp) .none kV23 dc23 pm23 an23 cd23 ct23,f24,PySem.W.fnOf "holds_at" "holds_at" (defArgs wq) (defBody wq) (defScope wq) .none kV24 dc24 pm24 an24 cd24 ct24,f25,PySem.W.fnOf "_law_cell_at" "_law_cell_at" (defArgs xc) (defBody xc) (defScope xc) .none kV25 dc25 pm25 an25 cd25 ct25,f26,PySem.W.fnOf "_law_is_row" "_law_is_row" (defArgs xn) (defBody xn) (defScope xn) .none kV26 dc26 pm26 an26 cd26 ct26,f27,PySem.W.fnOf "_law_mixed" "_law_mixed" (defArgs wc) (defBody wc) (defScope wc) .none kV27 dc27 pm27 an27 cd27 ct27,f28,PySem.W.fnOf "_law_rank" "_law_rank" (defArgs wt) (defBody wt) (defScope wt) .none kV28 dc28 pm28 an28 cd28 ct28,f29,PySem.W.fnOf "_law_arrow" "_law_arrow" (defArgs we) (defBody we) (defScope we) .none kV29 dc29 pm29 an29 cd29 ct29,f30,PySem.W.fnOf "_law_made" "_law_made" (defArgs wu) (defBody wu) (defScope wu) .none kV30 dc30 pm30 an30 cd30 ct30,f31,PySem.W.fnOf "_law_lowest" "_law_lowest" (defArgs xo) (defBody xo) (defScope xo) .none kV31 dc31 pm31 an31 cd31 ct31,f32,PySem.W.fnOf "_law_found" "_law_found" (defArgs wf) (defBody wf) (defScope wf) .none kV32 dc32 pm32 an32 cd32 ct32,f33,PySem.W.fnOf "_law_leading" "_law_leading" (defArgs xf) (defBody xf) (defScope xf) .none kV33 dc33 pm33 an33 cd33 ct33,f34,PySem.W.fnOf "_law_mean_of" "_law_mean_of" (defArgs xg) (defBody xg) (defScope xg) .none kV34 dc34 pm34 an34 cd34 ct34,f35,PySem.W.fnOf "_law_greatest" "_law_greatest" (defArgs yy) (defBody yy) (defScope yy) .none kV35 dc35 pm35 an35 cd35 ct35,f36,PySem.W.fnOf "_law_paper" "_law_paper" (defArgs wg) (defBody wg) (defScope wg) .none kV36 dc36 pm36 an36 cd36 ct36,f37,PySem.W.fnOf "_law_faulty" "_law_faulty" (defArgs xp) (defBody xp) (defScope xp) .none kV37 dc37 pm37 an37 cd37 ct37,f38,PySem.W.fnOf "_law_is_ring" "_law_is_ring" (defArgs xh) (defBody xh) (defScope xh) .none kV38 dc38 pm38 an38 cd38 ct38,f39,PySem.W.fnOf "_law_fit" "_law_fit" (defArgs vt) (defBody vt) (defScope vt) .none kV39 dc39 pm39 an39 cd39 ct39,fa,PySem.W.fnOf "law" "law" (defArgs zbr) (defBody zbr) (defScope zbr) .none kV40 dc40 pm40 an40 cd40 ct40⟩:=by
  constructor
  ·exact ⟨⟨pg_Arrow,hd_Arrow,po_Arrow,sa_Arrow⟩,PySem.W.mg_of X G aC_Arrow,mk_Arrow,kc_Arrow⟩
  ·exact ⟨⟨pg_Ride,hd_Ride,po_Ride,sa_Ride⟩,PySem.W.mg_of X G aC_Ride,mk_Ride,kc_Ride⟩
  ·exact ⟨⟨pg_Wait,hd_Wait,po_Wait,sa_Wait⟩,PySem.W.mg_of X G aC_Wait,mk_Wait,kc_Wait⟩
  ·exact ⟨⟨pg_Back,hd_Back,po_Back,sa_Back⟩,PySem.W.mg_of X G aC_Back,mk_Back,kc_Back⟩
  ·exact ⟨⟨pg_Net,hd_Net,po_Net,sa_Net⟩,PySem.W.mg_of X G aC_Net,mk_Net,kc_Net⟩
  ·exact ⟨F0,⟨a0,i0,k0⟩,b0⟩
  ·exact ⟨F1,⟨a1,i1,k1⟩,b1⟩
  ·exact ⟨F2,⟨a2,i2,k2⟩,b2⟩
  ·exact ⟨_,trivial,(.cons ⟨_,rfl⟩ .nil),b2_1⟩
  ·exact ⟨F3,⟨a3,i3,k3⟩,b3⟩
  ·exact ⟨_,trivial,(.cons ⟨_,rfl⟩ .nil),b3_1⟩
  ·exact ⟨F4,PySem.W.mg_of X G a4,b4⟩
  ·exact ⟨F5,PySem.W.mg_of X G a5,b5⟩
  ·exact ⟨F6,PySem.W.mg_of X G a6,b6⟩
  ·exact ⟨F7,PySem.W.mg_of X G a7,b7⟩
  ·exact ⟨F8,PySem.W.mg_of X G a8,b8⟩
  ·exact ⟨F9,PySem.W.mg_of X G a9,b9⟩
  ·exact ⟨F10,PySem.W.mg_of X G a10,b10⟩
  ·exact ⟨F11,⟨a11,i11,k11⟩,b11⟩
  ·exact ⟨F12,⟨a12,i12,k12⟩,b12⟩
  ·exact ⟨F13,PySem.W.mg_of X G a13,b13⟩
  ·exact ⟨F14,PySem.W.mg_of X G a14,b14⟩
  ·exact ⟨F15,PySem.W.mg_of X G a15,b15⟩
  ·exact ⟨F16,PySem.W.mg_of X G a16,b16⟩
  ·exact ⟨F17,PySem.W.mg_of X G a17,b17⟩
  ·exact ⟨F18,PySem.W.mg_of X G a18,b18⟩
  ·exact ⟨F19,PySem.W.mg_of X G a19,b19⟩
  ·exact ⟨F20,PySem.W.mg_of X G a20,b20⟩
  ·exact ⟨F21,PySem.W.mg_of X G a21,b21⟩
  ·exact ⟨F22,PySem.W.mg_of X G a22,b22⟩
  ·exact ⟨F23,PySem.W.mg_of X G a23,b23⟩
  ·exact ⟨F24,PySem.W.mg_of X G a24,b24⟩
  ·exact ⟨F25,PySem.W.mg_of X G a25,b25⟩
  ·exact ⟨F26,PySem.W.mg_of X G a26,b26⟩
  ·exact ⟨F27,PySem.W.mg_of X G a27,b27⟩
  ·exact ⟨F28,PySem.W.mg_of X G a28,b28⟩
  ·exact ⟨F29,PySem.W.mg_of X G a29,b29⟩
  ·exact ⟨F30,PySem.W.mg_of X G a30,b30⟩
  ·exact ⟨F31,PySem.W.mg_of X G a31,b31⟩
  ·exact ⟨F32,PySem.W.mg_of X G a32,b32⟩
  ·exact ⟨F33,PySem.W.mg_of X G a33,b33⟩
  ·exact ⟨F34,PySem.W.mg_of X G a34,b34⟩
  ·exact ⟨F35,PySem.W.mg_of X G a35,b35⟩
  ·exact ⟨F36,PySem.W.mg_of X G a36,b36⟩
  ·exact ⟨F37,PySem.W.mg_of X G a37,b37⟩
  ·exact ⟨F38,PySem.W.mg_of X G a38,b38⟩
  ·exact ⟨F39,PySem.W.mg_of X G a39,b39⟩
  ·exact ⟨F40,PySem.W.mg_of X G a40,b40⟩
  ·exact ⟨qs_Arrow,qr_Arrow,qf_Arrow⟩
  ·exact fun c hc=>by
    simp only [List.mem_cons,List.not_mem_nil,or_false] at hc
    rcases hc with rfl
    all_goals first | exact ⟨⟨pg_Net,hd_Net,po_Net,sa_Net⟩,n_Net_arrows⟩
  ·exact fun c hc=>by
    simp only [List.mem_cons,List.not_mem_nil,or_false] at hc
    rcases hc with rfl | rfl | rfl | rfl
    all_goals first | exact ⟨⟨pg_Arrow,hd_Arrow,po_Arrow,sa_Arrow⟩,n_Arrow_behind⟩ | exact ⟨⟨pg_Ride,hd_Ride,po_Ride,sa_Ride⟩,n_Ride_behind⟩ | exact ⟨⟨pg_Wait,hd_Wait,po_Wait,sa_Wait⟩,n_Wait_behind⟩ | exact ⟨⟨pg_Back,hd_Back,po_Back,sa_Back⟩,n_Back_behind⟩
  ·exact fun c hc=>by
    simp only [List.mem_cons,List.not_mem_nil,or_false] at hc
    rcases hc with rfl | rfl | rfl | rfl
    all_goals first | exact ⟨⟨pg_Arrow,hd_Arrow,po_Arrow,sa_Arrow⟩,n_Arrow_goal⟩ | exact ⟨⟨pg_Ride,hd_Ride,po_Ride,sa_Ride⟩,n_Ride_goal⟩ | exact ⟨⟨pg_Wait,hd_Wait,po_Wait,sa_Wait⟩,n_Wait_goal⟩ | exact ⟨⟨pg_Back,hd_Back,po_Back,sa_Back⟩,n_Back_goal⟩
  ·exact fun c hc=>by
    simp only [List.mem_cons,List.not_mem_nil,or_false] at hc
    rcases hc with rfl
    all_goals first | exact ⟨⟨pg_Net,hd_Net,po_Net,sa_Net⟩,n_Net_names⟩
  ·exact fun c hc=>by
    simp only [List.mem_cons,List.not_mem_nil,or_false] at hc
    rcases hc with rfl | rfl | rfl | rfl
    all_goals first | exact ⟨⟨pg_Arrow,hd_Arrow,po_Arrow,sa_Arrow⟩,n_Arrow_start⟩ | exact ⟨⟨pg_Ride,hd_Ride,po_Ride,sa_Ride⟩,n_Ride_start⟩ | exact ⟨⟨pg_Wait,hd_Wait,po_Wait,sa_Wait⟩,n_Wait_start⟩ | exact ⟨⟨pg_Back,hd_Back,po_Back,sa_Back⟩,n_Back_start⟩
  ·exact fun c hc=>by
    simp only [List.mem_cons,List.not_mem_nil,or_false] at hc
    rcases hc with rfl | rfl | rfl | rfl
    all_goals first | exact ⟨⟨pg_Arrow,hd_Arrow,po_Arrow,sa_Arrow⟩,n_Arrow_time⟩ | exact ⟨⟨pg_Ride,hd_Ride,po_Ride,sa_Ride⟩,n_Ride_time⟩ | exact ⟨⟨pg_Wait,hd_Wait,po_Wait,sa_Wait⟩,n_Wait_time⟩ | exact ⟨⟨pg_Back,hd_Back,po_Back,sa_Back⟩,n_Back_time⟩
  ·exact fun c hc=>by
    simp only [List.mem_cons,List.not_mem_nil,or_false] at hc
    rcases hc with rfl | rfl | rfl | rfl | rfl
    all_goals first | exact ⟨⟨⟨pg_Arrow,hd_Arrow,po_Arrow,sa_Arrow⟩,iga_Arrow,ign,igt,igm_Arrow⟩,kit_Arrow_Back⟩ | exact ⟨⟨⟨pg_Ride,hd_Ride,po_Ride,sa_Ride⟩,iga_Ride,ign,igt,igm_Ride⟩,kit_Ride_Back⟩ | exact ⟨⟨⟨pg_Wait,hd_Wait,po_Wait,sa_Wait⟩,iga_Wait,ign,igt,igm_Wait⟩,kit_Wait_Back⟩ | exact ⟨⟨⟨pg_Back,hd_Back,po_Back,sa_Back⟩,iga_Back,ign,igt,igm_Back⟩,kit_Back_Back⟩ | exact ⟨⟨⟨pg_Net,hd_Net,po_Net,sa_Net⟩,iga_Net,ign,igt,igm_Net⟩,kit_Net_Back⟩
  ·exact fun c hc=>by
    simp only [List.mem_cons,List.not_mem_nil,or_false] at hc
    rcases hc with rfl | rfl | rfl | rfl | rfl
    all_goals first | exact ⟨⟨⟨pg_Arrow,hd_Arrow,po_Arrow,sa_Arrow⟩,iga_Arrow,ign,igt,igm_Arrow⟩,kit_Arrow_Ride⟩ | exact ⟨⟨⟨pg_Ride,hd_Ride,po_Ride,sa_Ride⟩,iga_Ride,ign,igt,igm_Ride⟩,kit_Ride_Ride⟩ | exact ⟨⟨⟨pg_Wait,hd_Wait,po_Wait,sa_Wait⟩,iga_Wait,ign,igt,igm_Wait⟩,kit_Wait_Ride⟩ | exact ⟨⟨⟨pg_Back,hd_Back,po_Back,sa_Back⟩,iga_Back,ign,igt,igm_Back⟩,kit_Back_Ride⟩ | exact ⟨⟨⟨pg_Net,hd_Net,po_Net,sa_Net⟩,iga_Net,ign,igt,igm_Net⟩,kit_Net_Ride⟩
  ·exact PySem.W.mg_none_of X G z0
  ·exact PySem.W.mg_none_of X G z1
  ·exact PySem.W.mg_none_of X G z2
  ·exact PySem.W.mg_none_of X G z3
  ·exact PySem.W.mg_none_of X G z4
  ·exact PySem.W.mg_none_of X G z5
  ·exact PySem.W.mg_none_of X G z6
  ·exact PySem.W.mg_none_of X G z7
  ·exact PySem.W.mg_none_of X G z8
  ·exact PySem.W.mg_none_of X G z9
  ·exact PySem.W.mg_none_of X G z10
  ·exact PySem.W.mg_none_of X G z11
  ·exact PySem.W.mg_none_of X G z12
  ·exact PySem.W.mg_none_of X G z13
  ·exact PySem.W.mg_none_of X G z14
  ·exact ⟨_,PySem.W.mg_of X G gc0⟩
  ·exact ⟨_,PySem.W.mg_of X G gc1⟩
  ·exact ⟨_,PySem.W.mg_of X G gc2⟩
  ·exact ⟨_,PySem.W.mg_of X G gc3⟩
  ·exact ⟨_,PySem.W.mg_of X G gc4⟩
 exact ⟨PySem.W.fnOf "law" "law" (defArgs zbr) (defBody zbr) (defScope zbr) .none kV40 dc40 pm40 an40 cd40 ct40,fun s v=>.of_eq rfl,fun base _ _=>zs9 T⟩
theorem walk {l:PySem.W.OpenLaw} {q:Program} {loose:List Str} {XP:(Str->Option Value)->Heap->Prop} {YP:World->Heap->Prop} {d:DefRec} {K:Params->PySem.W.Frag} (hn:l.most=some 63) (hdf:d.params.defaults=[])
  (hY:∀(w:World) (h:Heap),YP w h->(K w.params).In h)
  (F:∀(w:World) (mg:Str->Option Value) (fa:Addr) (h:Heap),(K w.params).In h->h.Ns mainGlobals mg->mg d.name=some (.ref fa) ->
   ∃fd:FuncData,(∀(s:Shared) (u:Value),BindsTo s fd ⟨[u],[]⟩ [("_law_script",u)])/\∀base:Heap,(K w.params).In base->base.Ns mainGlobals mg->FnOk l.prog w (K w.params) mg base CX0 7 fa fd ["_law_script"] (spLaw (K w.params))) :
  PySem.W.WalkO q loose XP YP l.row.toRowW d [] (fun f vs=>PySem.call f vs) :=
 L2.walk_of (n:=63) (k:=7) (x:="_law_script") (CX:=fun _=>CX0) (sp:=fun w=>spLaw (K w.params)) hn (by decide) hdf ⟨rfl,by decide,by decide⟩ hY F (fun _ _ a ns hl _ hS=>⟨a,ns,rfl,hS,hl,fun _=>rfl⟩) fun _ _ _ _ _ z=>z
end My
-- KEEP
def PySem.W.Fast.tw5660370685424209120 : Nat := 0
def PySem.W.Fast.tw15510407947876383930 : Nat := 0
def PySem.W.Fast.tw1687652600435898660 : Nat := 0
def PySem.W.Fast.tw6378208584424941805 : Nat := 0
def PySem.W.Fast.tw11583210351103254060 : Nat := 0
def PySem.W.Fast.tw16230009321345461521 : Nat := 0
def PySem.W.Fast.tw11982617469800638735 : Nat := 0
def PySem.W.Fast.tw3209257954449169476 : Nat := 0
def PySem.W.Fast.tw15161216924814802239 : Nat := 0
def PySem.W.Fast.tw5397350502868398704 : Nat := 0
def PySem.W.Fast.tw9854133698033145839 : Nat := 0
def PySem.W.Fast.tw15220151896615702226 : Nat := 0
def PySem.W.Fast.tw4146421404975366126 : Nat := 0
def PySem.W.Fast.tw11580228463397123867 : Nat := 0
def PySem.W.Fast.tw9151754668826534985 : Nat := 0
def PySem.W.Fast.tw10841646231892151062 : Nat := 0
def PySem.W.Fast.tw12027484197904787808 : Nat := 0
def PySem.W.Fast.tw8170302373997516427 : Nat := 0
def PySem.W.Fast.tw9482818781248764987 : Nat := 0
def PySem.W.Fast.tw8678978515566741791 : Nat := 0
def PySem.W.Fast.tw16947525565362710819 : Nat := 0
def PySem.W.Fast.tw1027143342423783159 : Nat := 0
def PySem.W.Fast.tw8393216772488732710 : Nat := 0
def PySem.W.Fast.tw12893292417098937200 : Nat := 0
def PySem.W.Fast.tw11425242042879029207 : Nat := 0
def PySem.W.Fast.tw1397316851828590018 : Nat := 0
def PySem.W.Fast.tw17374972294488323492 : Nat := 0
def PySem.W.Fast.tw1284406141380111968 : Nat := 0
def PySem.W.Fast.tw11818473300924902738 : Nat := 0
def PySem.W.Fast.tw15790214637396257313 : Nat := 0
def PySem.W.Fast.tw1987020572829870713 : Nat := 0
def PySem.W.Fast.tw18074909302956379468 : Nat := 0
def PySem.W.Fast.tw18350539150583482162 : Nat := 0
def PySem.W.Fast.tw9439879046606363394 : Nat := 0
def PySem.W.Fast.tw4485364727144754913 : Nat := 0
def PySem.W.Fast.tw3853306158761696093 : Nat := 0
def PySem.W.Fast.tw5996697051531249291 : Nat := 0
def PySem.W.Fast.tw7644850024589945782 : Nat := 0
def PySem.W.Fast.tw15682668574579823766 : Nat := 0
def PySem.W.Fast.tw2685807659994806851 : Nat := 0
def PySem.W.Fast.tw15272737969850659729 : Nat := 0
def PySem.W.Fast.tw10362379618903396127 : Nat := 0
def PySem.W.Fast.tw1459222505278974482 : Nat := 0
def PySem.W.Fast.tw11959963746791789791 : Nat := 0
def PySem.W.Fast.tw6528934521326415690 : Nat := 0
def PySem.W.Fast.tw2365414610791211561 : Nat := 0
def PySem.W.Fast.tw10783010646377948063 : Nat := 0
def PySem.W.Fast.tw18055631522215999323 : Nat := 0
def PySem.W.Fast.tw1925872645827703218 : Nat := 0
def PySem.W.Fast.tw2729011963052752463 : Nat := 0
def PySem.W.Fast.tw6301624358831978145 : Nat := 0
def PySem.W.Fast.tw3716567265954288245 : Nat := 0
def PySem.W.Fast.tw26174752300285791 : Nat := 0
def PySem.W.Fast.tw15964085703964378215 : Nat := 0
def PySem.W.Fast.tw15388227952019237267 : Nat := 0
def PySem.W.Fast.tw4718234779850344251 : Nat := 0
def PySem.W.Fast.tw9796217375123289285 : Nat := 0
def PySem.W.Fast.tw11997452199834459164 : Nat := 0
def PySem.W.Fast.tw9056155029114153950 : Nat := 0
def PySem.W.Fast.tw16185211610139709092 : Nat := 0
def PySem.W.Fast.tw1312995123872784968 : Nat := 0
def PySem.W.Fast.tw10028237009359791183 : Nat := 0
def PySem.W.Fast.tw12490461479588513543 : Nat := 0
def PySem.W.Fast.tw10710496646829543033 : Nat := 0
def PySem.W.Fast.tw15931228146939408343 : Nat := 0
def PySem.W.Fast.tw15824834371031207365 : Nat := 0
def PySem.W.Fast.tw2081711636009807780 : Nat := 0
def PySem.W.Fast.tw9116966468300066790 : Nat := 0
def PySem.W.Fast.tw6134925090956786494 : Nat := 0
open PySem PySem.W PyProof.Rows
set_option maxRecDepth 100000 in
set_option maxHeartbeats 0 in
theorem PySem.Challenge.cw_ringbeat_k38_papers_of_a_going_holds : PySem.Challenge.rw_ringbeat_k38_papers_of_a_going.Holds := by
  w_on; o_law; k_head; (case hw => w_witness2)
  k_fill
  refine My.walk (l := PySem.Challenge.rw_ringbeat_k38_papers_of_a_going) rfl rfl (fun w h Y => PySem.W.kIn_of Y) ?F
  case F =>
    intro w mg fa h KX G hmg
    refine' My.all_mk KX G hmg ?aC_Arrow ?pg_Arrow ?hd_Arrow ?po_Arrow ?sa_Arrow ?mk_Arrow ?kc_Arrow ?aC_Ride ?pg_Ride ?hd_Ride ?po_Ride ?sa_Ride ?mk_Ride ?kc_Ride ?aC_Wait ?pg_Wait ?hd_Wait ?po_Wait ?sa_Wait ?mk_Wait ?kc_Wait ?aC_Back ?pg_Back ?hd_Back ?po_Back ?sa_Back ?mk_Back ?kc_Back ?aC_Net ?pg_Net ?hd_Net ?po_Net ?sa_Net ?mk_Net ?kc_Net ?a0 ?i0 ?l0 ?c0 ?k0 ?a1 ?i1 ?l1 ?c1 ?k1 ?a2 ?i2 ?l2 ?c2 ?k2 ?t2 ?a3 ?i3 ?l3 ?c3 ?k3 ?t3 ?a4 ?l4 ?c4 ?k4 ?a5 ?l5 ?c5 ?k5 ?a6 ?l6 ?c6 ?k6 ?a7 ?l7 ?c7 ?k7 ?a8 ?l8 ?c8 ?k8 ?a9 ?l9 ?c9 ?k9 ?a10 ?l10 ?c10 ?k10 ?a11 ?i11 ?l11 ?c11 ?k11 ?a12 ?i12 ?l12 ?c12 ?k12 ?a13 ?l13 ?c13 ?k13 ?a14 ?l14 ?c14 ?k14 ?a15 ?l15 ?c15 ?k15 ?a16 ?l16 ?c16 ?k16 ?a17 ?l17 ?c17 ?k17 ?a18 ?l18 ?c18 ?k18 ?a19 ?l19 ?c19 ?k19 ?a20 ?l20 ?c20 ?k20 ?a21 ?l21 ?c21 ?k21 ?a22 ?l22 ?c22 ?k22 ?a23 ?l23 ?c23 ?k23 ?a24 ?l24 ?c24 ?k24 ?a25 ?l25 ?c25 ?k25 ?a26 ?l26 ?c26 ?k26 ?a27 ?l27 ?c27 ?k27 ?a28 ?l28 ?c28 ?k28 ?a29 ?l29 ?c29 ?k29 ?a30 ?l30 ?c30 ?k30 ?a31 ?l31 ?c31 ?k31 ?a32 ?l32 ?c32 ?k32 ?a33 ?l33 ?c33 ?k33 ?a34 ?l34 ?c34 ?k34 ?a35 ?l35 ?c35 ?k35 ?a36 ?l36 ?c36 ?k36 ?a37 ?l37 ?c37 ?k37 ?a38 ?l38 ?c38 ?k38 ?a39 ?l39 ?c39 ?k39 ?a40 ?l40 ?c40 ?k40 ?qs_Arrow ?qr_Arrow ?qf_Arrow ?n_Net_arrows ?n_Arrow_behind ?n_Ride_behind ?n_Wait_behind ?n_Back_behind ?n_Arrow_goal ?n_Ride_goal ?n_Wait_goal ?n_Back_goal ?n_Net_names ?n_Arrow_start ?n_Ride_start ?n_Wait_start ?n_Back_start ?n_Arrow_time ?n_Ride_time ?n_Wait_time ?n_Back_time ?ign ?igt ?iga_Arrow ?igm_Arrow ?kit_Arrow_Back ?kit_Arrow_Ride ?iga_Ride ?igm_Ride ?kit_Ride_Back ?kit_Ride_Ride ?iga_Wait ?igm_Wait ?kit_Wait_Back ?kit_Wait_Ride ?iga_Back ?igm_Back ?kit_Back_Back ?kit_Back_Ride ?iga_Net ?igm_Net ?kit_Net_Back ?kit_Net_Ride ?z0 ?z1 ?z2 ?z3 ?z4 ?z5 ?z6 ?z7 ?z8 ?z9 ?z10 ?z11 ?z12 ?z13 ?z14 ?gc0 ?gc1 ?gc2 ?gc3 ?gc4
    (case aC_Arrow => k_is)
    (case pg_Arrow => k_is)
    (case hd_Arrow => k_is)
    (case po_Arrow => k_is)
    (case sa_Arrow => k_is)
    (case mk_Arrow => k_is)
    (case kc_Arrow => k_is)
    (case aC_Ride => k_is)
    (case pg_Ride => k_is)
    (case hd_Ride => k_is)
    (case po_Ride => k_is)
    (case sa_Ride => k_is)
    (case mk_Ride => k_is)
    (case kc_Ride => k_is)
    (case aC_Wait => k_is)
    (case pg_Wait => k_is)
    (case hd_Wait => k_is)
    (case po_Wait => k_is)
    (case sa_Wait => k_is)
    (case mk_Wait => k_is)
    (case kc_Wait => k_is)
    (case aC_Back => k_is)
    (case pg_Back => k_is)
    (case hd_Back => k_is)
    (case po_Back => k_is)
    (case sa_Back => k_is)
    (case mk_Back => k_is)
    (case kc_Back => k_is)
    (case aC_Net => k_is)
    (case pg_Net => k_is)
    (case hd_Net => k_is)
    (case po_Net => k_is)
    (case sa_Net => k_is)
    (case mk_Net => k_is)
    (case kc_Net => k_is)
    (case a0 => k_is)
    (case i0 => k_is)
    (case l0 => k_is)
    (case c0 => k_is)
    (case k0 => k_is)
    (case a1 => k_is)
    (case i1 => k_is)
    (case l1 => k_is)
    (case c1 => k_is)
    (case k1 => k_is)
    (case a2 => k_is)
    (case i2 => k_is)
    (case l2 => k_is)
    (case c2 => k_is)
    (case k2 => k_is)
    (case t2 => k_is)
    (case a3 => k_is)
    (case i3 => k_is)
    (case l3 => k_is)
    (case c3 => k_is)
    (case k3 => k_is)
    (case t3 => k_is)
    (case a4 => k_is)
    (case l4 => k_is)
    (case c4 => k_is)
    (case k4 => k_is)
    (case a5 => k_is)
    (case l5 => k_is)
    (case c5 => k_is)
    (case k5 => k_is)
    (case a6 => k_is)
    (case l6 => k_is)
    (case c6 => k_is)
    (case k6 => k_is)
    (case a7 => k_is)
    (case l7 => k_is)
    (case c7 => k_is)
    (case k7 => k_is)
    (case a8 => k_is)
    (case l8 => k_is)
    (case c8 => k_is)
    (case k8 => k_is)
    (case a9 => k_is)
    (case l9 => k_is)
    (case c9 => k_is)
    (case k9 => k_is)
    (case a10 => k_is)
    (case l10 => k_is)
    (case c10 => k_is)
    (case k10 => k_is)
    (case a11 => k_is)
    (case i11 => k_is)
    (case l11 => k_is)
    (case c11 => k_is)
    (case k11 => k_is)
    (case a12 => k_is)
    (case i12 => k_is)
    (case l12 => k_is)
    (case c12 => k_is)
    (case k12 => k_is)
    (case a13 => k_is)
    (case l13 => k_is)
    (case c13 => k_is)
    (case k13 => k_is)
    (case a14 => k_is)
    (case l14 => k_is)
    (case c14 => k_is)
    (case k14 => k_is)
    (case a15 => k_is)
    (case l15 => k_is)
    (case c15 => k_is)
    (case k15 => k_is)
    (case a16 => k_is)
    (case l16 => k_is)
    (case c16 => k_is)
    (case k16 => k_is)
    (case a17 => k_is)
    (case l17 => k_is)
    (case c17 => k_is)
    (case k17 => k_is)
    (case a18 => k_is)
    (case l18 => k_is)
    (case c18 => k_is)
    (case k18 => k_is)
    (case a19 => k_is)
    (case l19 => k_is)
    (case c19 => k_is)
    (case k19 => k_is)
    (case a20 => k_is)
    (case l20 => k_is)
    (case c20 => k_is)
    (case k20 => k_is)
    (case a21 => k_is)
    (case l21 => k_is)
    (case c21 => k_is)
    (case k21 => k_is)
    (case a22 => k_is)
    (case l22 => k_is)
    (case c22 => k_is)
    (case k22 => k_is)
    (case a23 => k_is)
    (case l23 => k_is)
    (case c23 => k_is)
    (case k23 => k_is)
    (case a24 => k_is)
    (case l24 => k_is)
    (case c24 => k_is)
    (case k24 => k_is)
    (case a25 => k_is)
    (case l25 => k_is)
    (case c25 => k_is)
    (case k25 => k_is)
    (case a26 => k_is)
    (case l26 => k_is)
    (case c26 => k_is)
    (case k26 => k_is)
    (case a27 => k_is)
    (case l27 => k_is)
    (case c27 => k_is)
    (case k27 => k_is)
    (case a28 => k_is)
    (case l28 => k_is)
    (case c28 => k_is)
    (case k28 => k_is)
    (case a29 => k_is)
    (case l29 => k_is)
    (case c29 => k_is)
    (case k29 => k_is)
    (case a30 => k_is)
    (case l30 => k_is)
    (case c30 => k_is)
    (case k30 => k_is)
    (case a31 => k_is)
    (case l31 => k_is)
    (case c31 => k_is)
    (case k31 => k_is)
    (case a32 => k_is)
    (case l32 => k_is)
    (case c32 => k_is)
    (case k32 => k_is)
    (case a33 => k_is)
    (case l33 => k_is)
    (case c33 => k_is)
    (case k33 => k_is)
    (case a34 => k_is)
    (case l34 => k_is)
    (case c34 => k_is)
    (case k34 => k_is)
    (case a35 => k_is)
    (case l35 => k_is)
    (case c35 => k_is)
    (case k35 => k_is)
    (case a36 => k_is)
    (case l36 => k_is)
    (case c36 => k_is)
    (case k36 => k_is)
    (case a37 => k_is)
    (case l37 => k_is)
    (case c37 => k_is)
    (case k37 => k_is)
    (case a38 => k_is)
    (case l38 => k_is)
    (case c38 => k_is)
    (case k38 => k_is)
    (case a39 => k_is)
    (case l39 => k_is)
    (case c39 => k_is)
    (case k39 => k_is)
    (case a40 => k_is)
    (case l40 => k_is)
    (case c40 => k_is)
    (case k40 => k_is)
    (case qs_Arrow => k_is)
    (case qr_Arrow => k_is)
    (case qf_Arrow => k_is)
    (case n_Net_arrows => k_is)
    (case n_Arrow_behind => k_is)
    (case n_Ride_behind => k_is)
    (case n_Wait_behind => k_is)
    (case n_Back_behind => k_is)
    (case n_Arrow_goal => k_is)
    (case n_Ride_goal => k_is)
    (case n_Wait_goal => k_is)
    (case n_Back_goal => k_is)
    (case n_Net_names => k_is)
    (case n_Arrow_start => k_is)
    (case n_Ride_start => k_is)
    (case n_Wait_start => k_is)
    (case n_Back_start => k_is)
    (case n_Arrow_time => k_is)
    (case n_Ride_time => k_is)
    (case n_Wait_time => k_is)
    (case n_Back_time => k_is)
    (case ign => k_is)
    (case igt => k_is)
    (case iga_Arrow => k_is)
    (case igm_Arrow => k_is)
    (case kit_Arrow_Back => kit_is)
    (case kit_Arrow_Ride => kit_is)
    (case iga_Ride => k_is)
    (case igm_Ride => k_is)
    (case kit_Ride_Back => kit_is)
    (case kit_Ride_Ride => kit_is)
    (case iga_Wait => k_is)
    (case igm_Wait => k_is)
    (case kit_Wait_Back => kit_is)
    (case kit_Wait_Ride => kit_is)
    (case iga_Back => k_is)
    (case igm_Back => k_is)
    (case kit_Back_Back => kit_is)
    (case kit_Back_Ride => kit_is)
    (case iga_Net => k_is)
    (case igm_Net => k_is)
    (case kit_Net_Back => kit_is)
    (case kit_Net_Ride => kit_is)
    (case z0 => k_is)
    (case z1 => k_is)
    (case z2 => k_is)
    (case z3 => k_is)
    (case z4 => k_is)
    (case z5 => k_is)
    (case z6 => k_is)
    (case z7 => k_is)
    (case z8 => k_is)
    (case z9 => k_is)
    (case z10 => k_is)
    (case z11 => k_is)
    (case z12 => k_is)
    (case z13 => k_is)
    (case z14 => k_is)
    (case gc0 => k_is)
    (case gc1 => k_is)
    (case gc2 => k_is)
    (case gc3 => k_is)
    (case gc4 => k_is)
