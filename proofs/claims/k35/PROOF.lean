import PyProof.Rows.All
import Wide.All
import OpenK.AllK
import Wide.FinOn
import Lean
import PyProof.EqAt
import PyProof.EqKinds
import PyProof.TupleCall
import PySem.Challenge.RW_ringbeat_k35_whole_what_holds_is_right
set_option Elab.async false
set_option linter.all false
set_option maxRecDepth 100000
namespace L2
open PySem PySem.Spec PyProof.Rows
abbrev Key:=Sum Int Str
def keyIs:Key→Value→Bool
 | .inl k,v=>Value.isInt k v
 | .inr x,v=>Value.isStrOf x v
def keyH (w:World):Key→Int
 | .inl k=>hashInt k
 | .inr x=>hashStr w x
theorem wz:∀{k:Key} {v:Value},keyIs k v=true→(∃i t,k=Sum.inl i∧v=Value.int i t)∨(∃x t,k=Sum.inr x∧v=Value.str x t)
 | .inl i,v,h=>by
  obtain ⟨t,e⟩:=Value.isInt_shape (k:=i) (v:=v) h
  exact .inl ⟨i,t,rfl,e⟩
 | .inr x,v,h=>by
  obtain ⟨t,e⟩:=Value.isStrOf_shape (x:=x) (v:=v) h
  exact .inr ⟨x,t,rfl,e⟩
theorem ziu (i:Int) (t:Tok):keyIs (.inl i) (.int i t)=true:=by simp [keyIs,Value.isInt]
theorem ziv (x:Str) (t:Tok):keyIs (.inr x) (.str x t)=true:=by simp [keyIs,Value.isStrOf]
theorem zpx (a b:Int):decide ((Sum.inl a:Key)=Sum.inl b)=(a == b):=by
 by_cases e:a=b
 ·subst e; simp
 ·have h:¬(Sum.inl a:Key)=Sum.inl b:=fun q=>e (Sum.inl.inj q)
  rw [decide_eq_false h]
  exact (beq_eq_false_iff_ne.mpr e).symm
theorem zpy (a b:Str):decide ((Sum.inr a:Key)=Sum.inr b)=decide (a=b):=by
 by_cases e:a=b
 ·subst e; simp
 ·have h:¬(Sum.inr a:Key)=Sum.inr b:=fun q=>e (Sum.inr.inj q)
  rw [decide_eq_false h,decide_eq_false e]
theorem zpz (a:Int) (b:Str):decide ((Sum.inl a:Key)=Sum.inr b)=false:=decide_eq_false (fun q=>nomatch q)
theorem zp0 (a:Str) (b:Int):decide ((Sum.inr a:Key)=Sum.inl b)=false:=decide_eq_false (fun q=>nomatch q)
def mixKind (prog:Program) (w:World):PySem.KeyKind prog w Key where
 is:=keyIs
 hash:=keyH w
 inj:=fun v a b ha hb=>by
  rcases wz ha with ⟨i,t,rfl,rfl⟩ | ⟨x,t,rfl,rfl⟩
  ·rcases wz hb with ⟨j,u,rfl,e⟩ | ⟨y,u,rfl,e⟩
   ·injection e with e1 _; rw [e1]
   ·exact nomatch e
  ·rcases wz hb with ⟨j,u,rfl,e⟩ | ⟨y,u,rfl,e⟩
   ·exact nomatch e
   ·injection e with e1 _; rw [e1]
 byValue:=fun k v h=>by
  rcases wz h with ⟨i,t,rfl,rfl⟩ | ⟨x,t,rfl,rfl⟩ <;> rfl
 pyHash:=fun hv h=>by
  rcases wz hv with ⟨i,t,rfl,rfl⟩ | ⟨x,t,rfl,rfl⟩
  ·exact wpAny_pyHash_int h
  ·exact wpAny_pyHash_str h
 eqBool:=fun hu hv h=>by
  rcases wz hu with ⟨i,t,rfl,rfl⟩ | ⟨x,t,rfl,rfl⟩
  ·rcases wz hv with ⟨j,u,rfl,rfl⟩ | ⟨y,u,rfl,rfl⟩
   ·rw [zpx] at h; exact wpAny_eqBool_int h
   ·rw [zpz] at h; exact SeqAt.EqAt.int_str i t y u _ _ _ _ h
  ·rcases wz hv with ⟨j,u,rfl,rfl⟩ | ⟨y,u,rfl,rfl⟩
   ·rw [zp0] at h; exact SeqAt.EqAt.str_int x t j u _ _ _ _ h
   ·rw [zpy] at h; exact wpAny_eqBool_str h
 «strs»:=fun k x t v h=>by
  rcases wz h with ⟨i,u,rfl,e⟩ | ⟨y,u,rfl,e⟩
  ·exact nomatch e
  ·injection e with e1 _
   subst e1
   cases v <;> rfl
theorem zf6 (prog:Program) (w:World) (i:Int) (t:Tok):(mixKind prog w).is (.inl i) (.int i t)=true:=ziu i t
theorem zf7 (prog:Program) (w:World) (x:Str) (t:Tok):(mixKind prog w).is (.inr x) (.str x t)=true:=ziv x t
end L2
namespace L2
open PySem PySem.Spec PyProof.Rows
inductive V where
 | non | bl (b:Bool) | int (i:Int) | str (x:Str) | byt (b:Array UInt8) | flt (b:UInt64) | ref (a:Addr) | ty (n:String)
 deriving DecidableEq
def RelV:V→Value→Prop
 | .non,u=>u=Value.none
 | .bl b,u=>u=Value.bool b
 | .int i,u=>∃t,u=Value.int i t
 | .str x,u=>∃t,u=Value.str x t
 | .byt b,u=>∃t,u=Value.bytes b t
 | .flt b,u=>∃t,u=Value.float b t
 | .ref a,u=>u=Value.ref a
 | .ty n,u=>u=Value.type n
abbrev Vals:List V→List Value→Prop:=Paired RelV
theorem Vals.length {xs:List V} {us:List Value} (r:Vals xs us):xs.length=us.length:=Paired.length r
theorem Vals.get:∀{xs:List V} {us:List Value} {i:Nat} {x:V},Vals xs us→xs[i]?=some x→∃u,us[i]?=some u∧RelV x u
 | _,_,_,_,.nil,e=>by simp at e
 | _,_,0,_,.cons r _,e=>by simp at e; subst e; exact ⟨_,rfl,r⟩
 | _,_,i+1,x,.cons _ t,e=>by
  obtain ⟨u,h1,h2⟩:=Vals.get (i:=i) (x:=x) t (by simpa using e)
  exact ⟨u,by simpa using h1,h2⟩
theorem Vals.set {x:V} {u:Value} (r:RelV x u):∀{xs:List V} {us:List Value} (i:Nat),Vals xs us→Vals (xs.set i x) (us.set i u)
 | _,_,_,.nil=>.nil
 | _,_,0,.cons _ t=>.cons r t
 | _,_,i+1,.cons q t=>.cons q (Vals.set r i t)
theorem Vals.append:∀{xs ys:List V} {us ws:List Value},Vals xs us→Vals ys ws→Vals (xs++ys) (us++ws)
 | _,_,_,_,.nil,s=>s
 | _,_,_,_,.cons r t,s=>.cons r (Vals.append t s)
theorem Vals.take:∀{xs:List V} {us:List Value} (n:Nat),Vals xs us→Vals (xs.take n) (us.take n)
 | _,_,0,_=>.nil
 | _,_,_+1,.nil=>.nil
 | _,_,n+1,.cons r t=>.cons r (Vals.take n t)
theorem Vals.drop:∀{xs:List V} {us:List Value} (n:Nat),Vals xs us→Vals (xs.drop n) (us.drop n)
 | _,_,0,r=>r
 | _,_,_+1,.nil=>.nil
 | _,_,n+1,.cons _ t=>Vals.drop n t
def RelO:Option V→Option Value→Prop
 | some v,some u=>RelV v u
 | none,none=>True
 | _,_=>False
def KV {κ:Type}:List (κ×V)→List (κ×Value)→Prop:=Paired fun (p:κ×V) (q:κ×Value)=>p.1=q.1∧RelV p.2 q.2
def kV:Key→V
 | .inl i=>.int i
 | .inr x=>.str x
inductive HO where
 | lst (xs:List V)
 | tup (xs:List V)
 | dK (kvs:List (Key×V)) | dT (kvs:List (List Key×V))
 | set (S:Int→Bool) (n:Nat)
 | ins (C dx:Addr) (fs:List (Str×V))
 | own (x:Addr)
 | xd (fs:List (Str×V))
 | met (f x:Addr)
 | rng (lo hi:Int)
 | frz (o:Obj) (u:HO)
 | tbl (ps:Array Value)
 | ext (φ:Heap→Prop)
abbrev Hp:=Addr→Option HO
def upd (H:Hp) (a:Addr) (o:HO):Hp:=fun b=>if b=a then some o else H b
theorem yo {H:Hp} {a:Addr} {o:HO}:upd H a o a=some o:=by unfold upd; rw [if_pos rfl]
theorem yh {H:Hp} {a b:Addr} {o:HO} (h:b≠a):upd H a o b=H b:=by unfold upd; rw [if_neg h]
theorem zr5 {H:Hp} {a b:Addr} {o u:HO} (h:H a=some o) (h':H b=some u) (d:o≠u):a≠b:=by
 intro e; subst e; rw [h] at h'; exact d (Option.some.inj h')
theorem xp {H:Hp} {a b:Addr} {o:HO} (h:H a=some o) (h':H b=none):a≠b:=by
 intro e; subst e; rw [h] at h'; cases h'
section
variable (P:Program) (w:World)
def ObjOk (H:Hp) (h:Heap) (a:Addr):HO→Prop
  | .lst xs=>xs.length≤sizeLine∧∃(its:List Value) (n:Nat),Vals xs its∧h.get? a=some { cls:=.type "list",data:=.seq its.toArray n }
  | .tup xs=>xs.length≤sizeLine∧∃its:List Value,Vals xs its∧IsTup h a its.toArray
  | .dK kvs=>kvs.length≤sizeLine∧(a == sysModules)=false∧∃vs,KV kvs vs∧h.DictOf (mixKind P w) a vs
  | .dT kvs=>kvs.length≤sizeLine∧(a == sysModules)=false∧∃xs:List (List Key×Addr×Value),
      Paired (fun (p:List Key×V) (q:List Key×Addr×Value)=>p.1=q.1∧H q.2.1=some (.tup (p.1.map kV))∧RelV p.2 q.2.2) kvs xs ∧
      ∃o es ep,h.get? a=some o∧o.ExactDict∧o.data=.dict es ep∧es.toList=xs.map (entryOfKey (tupleKind (mixKind P w)))∧(xs.map (·.1)).Nodup
  | .set S n=>h.SetOf (intKind P w) a S n
  | .ins C dx fs=>H dx=some (.own a)∧fs.length≤1000∧dx≠a∧h.get? a=some (PySem.W.instObj C dx) ∧
      ∃mA,h.Ns1 dx mA∧(∀f,RelO (fs.lookup f) (mA f))∧PySem.Within mA (fs.map (·.1))
  | .own _=>∃o,h.get? a=some o
  | .xd fs=>∃mA,h.Ns1 a mA∧∀f,RelO (fs.lookup f) (mA f)
  | .rng lo hi=>∃t u v,h.get? a=some { cls:=.type "range",data:=.fields #[.int lo t,.int hi u,.int 1 v] }
  | .frz o u=>h.get? a=some o∧ObjOk H h a u
  | .tbl ps=>h.get? a=some { cls:=.none,data:=.fields ps }
  | .met f x=>h.get? a=some (PySem.W.methodObj (.ref f) (.ref x))
  | .ext φ=>φ h∧(∃o,h.get? a=some o)∧∀h1 h2:Heap,φ h1→(∀o,h1.get? a=some o→h2.get? a=some o)→φ h2
def HOk (H:Hp) (h:Heap):Prop:=∀a o,H a=some o→ObjOk P w H h a o
end
section
variable {P:Program} {w:World} {H H':Hp} {h h':Heap} {a:Addr} {o:HO}
theorem ObjOk.lt (x:ObjOk P w H h a o):a<h.objs.size:=by
 cases o with
 | lst xs=>obtain ⟨_,_,_,_,e⟩:=x; exact Heap.lt_size e
 | tup xs=>obtain ⟨_,_,_,p⟩:=x; exact p.lt
 | dK kvs=>obtain ⟨_,_,_,_,o,_,_,e,_⟩:=x; exact Heap.lt_size e
 | dT kvs=>obtain ⟨_,_,_,_,o,_,_,e,_⟩:=x; exact Heap.lt_size e
 | set S n=>obtain ⟨o,_,_,_,e,_⟩:=x; exact Heap.lt_size e
 | ins C dx fs=>obtain ⟨_,_,_,e,_⟩:=x; exact Heap.lt_size e
 | own y=>obtain ⟨_,e⟩:=x; exact Heap.lt_size e
 | xd fs=>obtain ⟨_,⟨_,_,_,e,_⟩,_⟩:=x; exact Heap.lt_size e
 | rng lo hi=>obtain ⟨_,_,_,e⟩:=x; exact Heap.lt_size e
 | frz ob u=>obtain ⟨e,_⟩:=x; exact Heap.lt_size e
 | tbl ps=>exact Heap.lt_size (show h.get? a=some _ from x)
 | met f y=>exact Heap.lt_size (show h.get? a=some _ from x)
 | ext φ=>obtain ⟨_,⟨_,e⟩,_⟩:=x; exact Heap.lt_size e
theorem Paired.mapP {α β:Type} {F G:α→β→Prop}:∀{l₁:List α} {l₂:List β},Paired F l₁ l₂→(∀a b,F a b→G a b)→Paired G l₁ l₂
 | _,_,.nil,_=>.nil
 | _,_,.cons r t,f=>.cons (f _ _ r) (Paired.mapP t f)
theorem ObjOk.stay (x:ObjOk P w H h a o) (k:∀b u,(b=a∨H b=some (.own a))→h.get? b=some u→h'.get? b=some u)
    (ho:∀b,H b=some (.own a)→H' b=some (.own a)) (ht:∀b xs,H b=some (.tup xs)→H' b=some (.tup xs)):ObjOk P w H' h' a o:=by
  induction o with
  | lst xs=>obtain ⟨z,its,n,r,e⟩:=x; exact ⟨z,its,n,r,k _ _ (.inl rfl) e⟩
  | tup xs=>obtain ⟨z,its,r,ob,e,c⟩:=x; exact ⟨z,its,r,ob,k _ _ (.inl rfl) e,c⟩
  | dK kvs=>obtain ⟨z,y,vs,r,ob,es,ep,e,c⟩:=x; exact ⟨z,y,vs,r,ob,es,ep,k _ _ (.inl rfl) e,c⟩
  | dT kvs =>
    obtain ⟨z,y,xs,r,ob,es,ep,e,c⟩:=x
    exact ⟨z,y,xs,Paired.mapP r fun p q z=>⟨z.1,ht _ _ z.2.1,z.2.2⟩,ob,es,ep,k _ _ (.inl rfl) e,c⟩
  | set S n=>obtain ⟨ob,es,ep,t,e,c⟩:=x; exact ⟨ob,es,ep,t,k _ _ (.inl rfl) e,c⟩
  | ins C dx fs =>
    obtain ⟨d,z,ne,e,mA,⟨od,es,ep,e2,c⟩,r⟩:=x
    exact ⟨ho _ d,z,ne,k _ _ (.inl rfl) e,mA,⟨od,es,ep,k _ _ (.inr d) e2,c⟩,r⟩
  | own y=>obtain ⟨ob,e⟩:=x; exact ⟨ob,k _ _ (.inl rfl) e⟩
  | xd fs=>obtain ⟨mA,⟨od,es,ep,e,c⟩,r⟩:=x; exact ⟨mA,⟨od,es,ep,k _ _ (.inl rfl) e,c⟩,r⟩
  | rng lo hi=>obtain ⟨t,u,v,e⟩:=x; exact ⟨t,u,v,k _ _ (.inl rfl) e⟩
  | frz ob u ih=>obtain ⟨e,q⟩:=x; exact ⟨k _ _ (.inl rfl) e,ih q⟩
  | tbl ps =>
    have e:h.get? a=some { cls:=.none,data:=.fields ps }:=x
    show h'.get? a=some { cls:=.none,data:=.fields ps }
    exact k a _ (.inl rfl) e
  | met f y =>
    have e:h.get? a=some (PySem.W.methodObj (.ref f) (.ref y)):=x
    show h'.get? a=some (PySem.W.methodObj (.ref f) (.ref y))
    exact k a _ (.inl rfl) e
  | ext φ=>obtain ⟨p,⟨o,e⟩,st⟩:=x; exact ⟨st _ _ p fun o q=>k _ _ (.inl rfl) q,⟨o,k _ _ (.inl rfl) e⟩,st⟩
theorem HOk.lt (x:HOk P w H h) (e:H a=some o):a<h.objs.size:=(x a o e).lt
theorem HOk.fresh (x:HOk P w H h) (e:h.objs.size≤a):H a=none:=by
 cases q:H a with
 | none=>rfl
 | some u=>exact absurd (Nat.lt_of_lt_of_le (x.lt q) e) (Nat.lt_irrefl _)
theorem HOk.kept (x:HOk P w H h) (k:∀b u,h.get? b=some u→h'.get? b=some u):HOk P w H h':=fun a o e =>
 (x a o e).stay (fun b u _ q=>k b u q) (fun _ q=>q) fun _ _ q=>q
theorem HOk.laid (x:HOk P w H h) (k:∀b u,h.get? b=some u→h'.get? b=some u) (hp:h.objs.size≤a) (new:ObjOk P w (upd H a o) h' a o):HOk P w (upd H a o) h':=fun b u e=>by
 have hn:=x.fresh hp
 by_cases hb:b=a
 ·subst hb; rw [yo] at e; cases e; exact new
 ·rw [yh hb] at e
  exact (x b u e).stay (fun c v _ q=>k c v q) (fun c q=>by rw [yh (xp q hn)]; exact q) fun c xs q=>by rw [yh (xp q hn)]; exact q
end
def Rd (H:Hp) (a:Addr) (u:HO):Prop:=H a=some u∨∃o,H a=some (.frz o u)
theorem Rd.ok {P:Program} {w:World} {H:Hp} {h:Heap} {a:Addr} {u:HO} (r:Rd H a u) (x:HOk P w H h):ObjOk P w H h a u:=by
 rcases r with r | ⟨o,r⟩
 ·exact x a u r
 ·obtain ⟨_,q⟩:=x a _ r
  exact q
def Mut:Option HO→Prop
 | some (.lst _)=>True
 | some (.dK _)=>True
 | some (.dT _)=>True
 | some (.set _ _)=>True
 | some (.ins _ _ _)=>True
 | some (.ext _)=>True
 | _=>False
section
variable {P:Program} {w:World} {H:Hp} {h h':Heap} {x e:Addr} {o':HO}
theorem HOk.write (ok:HOk P w H h) (mu:Mut (H x)) (he:e=x∨H e=some (.own x)) (k:∀b u,b≠e→h.get? b=some u→h'.get? b=some u) (heo:∃u,h'.get? e=some u)
  (new:ObjOk P w (upd H x o') h' x o'):HOk P w (upd H x o') h':=fun b u q=>by
 have nown:∀c y,H c=some (.own y)→c≠x:=fun c y r z=>by subst z; rw [r] at mu; exact mu
 have ntup:∀c xs,H c=some (.tup xs)→c≠x:=fun c xs r z=>by subst z; rw [r] at mu; exact mu
 by_cases hb:b=x
 ·subst hb; rw [yo] at q; cases q; exact new
 ·rw [yh hb] at q
  by_cases hbe:b=e
  ·have q':H b=some (.own x):=by
    rcases he with z | z
    ·exact absurd (hbe.trans z) hb
    ·rw [hbe]; exact z
   rw [q] at q'; cases q'
   obtain ⟨v,hv⟩:=heo
   exact ⟨v,by rw [hbe]; exact hv⟩
  ·refine (ok b u q).stay (fun c v hc r=>k c v ?_ r) (fun c r=>by rw [yh (nown c b r)]; exact r) fun c xs r=>by rw [yh (ntup c xs r)]; exact r
   rcases hc with rfl | hc
   ·exact hbe
   ·rintro rfl
    rcases he with z | z
    ·exact nown c b hc z
    ·rw [hc] at z; cases z; exact hb rfl
end
structure Un (fs ex:List Addr) (H H':Hp) (h h':Heap):Prop where
 keep:∀b o,h.get? b=some o→H b=none→b∉fs→b∉ex→h'.get? b=some o
 slot:∀b o,h.get? b=some o→H b=none→b∈fs→b∉ex→∃sl,h'.get? b=some { o with slots:=sl }
 free:∀b o,h.get? b=some o→H b=none→b∉ex→H' b=none
 there:∀b o,h.get? b=some o→b∉ex→∃o',h'.get? b=some o'
 tups:∀b xs,H b=some (.tup xs)→H' b=some (.tup xs)
 frzs:∀b o u,H b=some (.frz o u)→H' b=some (.frz o u)
 tbls:∀b ps,H b=some (.tbl ps)→∃more,H' b=some (.tbl (ps++more))
section
variable {fs fs' ex ex':List Addr} {H H1 H2:Hp} {h h1 h2 h':Heap} {a x e:Addr} {o:HO}
theorem Un.any (u:Un fs ex H H1 h h1) {b:Addr} {ob:Obj} (q:h.get? b=some ob) (n:H b=none) (hx:b∉ex):∃sl,h1.get? b=some { ob with slots:=sl }:=by
 by_cases hb:b∈fs
 ·exact u.slot b ob q n hb hx
 ·exact ⟨ob.slots,u.keep b ob q n hb hx⟩
theorem Un.kept (k:∀b u,h.get? b=some u→h'.get? b=some u):Un fs ex H H h h' :=
 ⟨fun b ob q _ _ _=>k b ob q,fun b ob q _ _ _=>⟨ob.slots,k b ob q⟩,fun _ _ _ n _=>n,fun b ob q _=>⟨ob,k b ob q⟩,fun _ _ q=>q,fun _ _ _ q=>q,fun _ ps q=>⟨#[],by rw [q]; simp⟩⟩
theorem Un.refl:Un fs ex H H h h:=Un.kept fun _ _ q=>q
theorem Un.laid (k:∀b u,h.get? b=some u→h'.get? b=some u) (hp:h.objs.size≤a) (hn:H a=none):Un fs ex H (upd H a o) h h' where
 keep:=fun b u q _ _ _=>k b u q
 slot:=fun b u q _ _ _=>⟨u.slots,k b u q⟩
 free:=fun b u q n _=>by rw [yh (Nat.ne_of_lt (Nat.lt_of_lt_of_le (Heap.lt_size q) hp))]; exact n
 there:=fun b u q _=>⟨u,k b u q⟩
 tups:=fun b xs q=>by rw [yh (xp q hn)]; exact q
 frzs:=fun b u xs q=>by rw [yh (xp q hn)]; exact q
 tbls:=fun b ps q=>⟨#[],by rw [yh (xp q hn),q]; simp⟩
theorem Un.write (mu:Mut (H x)) (he:e=x∨H e=some (.own x)) (k:∀b u,b≠e→h.get? b=some u→h'.get? b=some u) (heo:∃u,h'.get? e=some u):Un fs ex H (upd H x o) h h':=by
 have hx:∀b,H b=none→b≠x:=fun b n z=>by subst z; rw [n] at mu; exact mu
 have hb:∀b,H b=none→b≠e:=fun b n z=>by
  subst z
  rcases he with r | r
  ·exact hx b n r
  ·rw [n] at r; cases r
 have hm:∀b u,H b=some u→¬Mut (some u)→b≠x:=fun b u q nm z=>by subst z; rw [q] at mu; exact nm mu
 refine ⟨fun b u q n _ _=>k b u (hb b n) q,fun b u q n _ _=>⟨u.slots,k b u (hb b n) q⟩,fun b u q n _=>by rw [yh (hx b n)]; exact n,fun b u q _=>?_,
  fun b xs q=>by rw [yh (hm b _ q fun z=>z)]; exact q,fun b u xs q=>by rw [yh (hm b _ q fun z=>z)]; exact q,fun b ps q=>⟨#[],by rw [yh (hm b _ q fun z=>z),q]; simp⟩⟩
 by_cases hbe:b=e
 ·subst hbe; exact heo
 ·exact ⟨u,k b u hbe q⟩
end
def trk (h:Heap) (H:Hp):List Addr:=(List.range h.objs.size).filter fun a=>(H a).isSome
def hidT (h:Heap) (H:Hp):Heap:=PySem.W.hideAll h (trk h H)
theorem ziw (h:Heap) (H:Hp):(hidT h H).objs.size=h.objs.size:=PySem.W.hideAll_size _ _
theorem zk5 {h:Heap} {H:Hp} {b:Addr} {o:Obj} (e:h.get? b=some o) (n:H b=none):(hidT h H).get? b=some o :=
 PySem.W.hideAll_get _ e fun hm=>by
  have q:(H b).isSome=true:=(List.mem_filter.mp hm).2
  rw [n] at q; simp at q
theorem znm {h:Heap} {H:Hp} {b:Addr} {o:Obj} (e:(hidT h H).get? b=some o):h.get? b=some o∧H b=none:=by
 have e':h.get? b=some o:=PySem.W.of_hideAll (trk h H) e
 refine ⟨e',?_⟩
 cases q:H b with
 | none=>rfl
 | some x =>
  have hm:b∈trk h H:=List.mem_filter.mpr ⟨List.mem_range.mpr (Heap.lt_size e'),by simp [q]⟩
  have z:(hidT h H).get? b=none:=PySem.W.hideAll_none (trk h H) hm
  rw [z] at e; cases e
def allNews (g h:Heap) (L:Addr):List (Addr×Obj):=(List.range h.objs.size).filterMap fun a=>if a=L∨(g.get? a).isSome=true then none else (h.get? a).map fun o=>(a,o)
def rest (g h:Heap) (L d:Addr):List (Addr×Obj):=(allNews g h L).filter fun p=>decide (p.1≠d)
end L2
namespace L2
open PySem PySem.Spec PyProof.Rows
structure Mod (K:PySem.W.Frag) (mg:Str→Option Value) (base:Heap):Prop where
 kin:K.In base
 glob:base.Ns mainGlobals mg
 blt:∃mb,base.Ns builtinsNs mb∧∀x:Str,x≠"__name__"→mb x=bootBuiltins x
 nolimit:base.NoLimit
structure Cx where
 prog:Program
 w:World
 K:PySem.W.Frag
 mg:Str→Option Value
 base:Heap
 A:Around
 N:List Str
 s₀:Shared
 H₀:Hp
 env:Env
 outer:List Env
 stack:List Env
 ex:List Addr
 fn:Str→Bool
 calm:Bool
 pn:List (Addr×Obj)
 xe:Value→Shared→Prop
def frs (l:List Env):List Addr:=l.filterMap (·.frame)
abbrev Cx.fs (X:Cx):List Addr:=frs X.outer
def Vis (sc:Scope) (x:Str):Prop:=sc.names.lookup x=some .local∨sc.names.lookup x=some .cell∨sc.names.lookup x=some .free
def Loc (sc:Scope) (x:Str):Prop:=sc.names.lookup x=some .local∨sc.names.lookup x=some .cell
def Look (env:Env) (h:Heap) (m:Str→Option Value) (x:Str) (u:Value):Prop :=
 (env.kindOf x=some .local∧m x=some u)∨((env.kindOf x=some .cell∨env.kindOf x=some .free)∧∃c,env.cells.lookup x=some c∧h.IsCell c (some u))
structure Cx.Ok (X:Cx):Prop where
 mod:Mod X.K X.mg X.base
 kind:X.env.scope.kind=.function
 glob:X.env.globals=mainGlobals
 blt:X.env.builtins=builtinsNs
 above:X.s₀.heap.objs.size≤X.env.locals
 inj:∀x y c,X.env.cells.lookup x=some c→X.env.cells.lookup y=some c→x=y
 has:∀x,(X.env.kindOf x=some .cell∨X.env.kindOf x=some .free)→∃c,X.env.cells.lookup x=some c
 cab:∀x c,X.fn x=true→X.env.cells.lookup x=some c→X.s₀.heap.objs.size≤c
 hd:X.calm=true→X.A.handled=none
 frames:X.A.frames=some X.stack
 stk:X.stack=X.outer∨(X.stack=X.env::X.outer∧X.env.frame=some X.env.locals)
 exf:∀b∈X.ex,b≠X.env.locals∧∀x c,X.env.cells.lookup x=some c→c≠b
 bs:∀b o,X.base.get? b=some o→X.s₀.heap.get? b=some o∧X.H₀ b=none
 bsz:X.base.objs.size≤X.s₀.heap.objs.size
 noex:∀b o,X.base.get? b=some o→b∉X.ex
 exfs:∀b∈X.ex,b∉X.fs
 funs:X.s₀.heap.FunFrames X.base X.outer
 frf:∀b∈X.fs,X.H₀ b=none
structure Inv (X:Cx) (pins:List (Addr×Obj)) (σ:List (Option V)) (H:Hp) (s:Shared):Prop where
 ok:X.Ok
 os:s.os=X.s₀.os
 bare:AllBare s.gens
 base:Un X.fs X.ex X.H₀ H X.s₀.heap s.heap
 loc:∃m,s.heap.Ns X.env.locals m∧∀(i:Nat) (x:Str) (v:V),X.N[i]?=some x→σ[i]?=some (some v)→Vis X.env.scope x→∃u,RelV v u∧Look X.env s.heap m x u
 cell:∀x c,X.env.cells.lookup x=some c→∃v,s.heap.IsCell c v
 free:H X.env.locals=none
 freeC:∀x c,X.env.cells.lookup x=some c→H c=none
 pin:∀p∈X.pn++pins,s.heap.get? p.1=some p.2∧H p.1=none∧p.1≠X.env.locals∧p.1∉X.fs∧∀v,p.2.data≠.cell v
 hok:HOk X.prog X.w H s.heap
 len:σ.length=X.N.length
section
variable {X:Cx} {pins:List (Addr×Obj)} {σ:List (Option V)} {H H':Hp} {s:Shared} {h':Heap}
theorem Cx.Ok.nofr (ok:X.Ok) {b:Addr} {o:Obj} (e:X.base.get? b=some o):b∉X.fs:=fun hb=>by
 have:=(ok.funs.mem hb).1
 rw [e] at this; cases this
theorem Inv.bs (I:Inv X pins σ H s):∀b o,X.base.get? b=some o→s.heap.get? b=some o∧H b=none:=fun b o e =>
 ⟨I.base.keep b o (I.ok.bs b o e).1 (I.ok.bs b o e).2 (I.ok.nofr e) (I.ok.noex b o e),I.base.free b o (I.ok.bs b o e).1 (I.ok.bs b o e).2 (I.ok.noex b o e)⟩
theorem Inv.bk (I:Inv X pins σ H s):∀b o,X.base.get? b=some o→s.heap.get? b=some o:=fun b o e=>(I.bs b o e).1
theorem Inv.mod (I:Inv X pins σ H s):Mod X.K X.mg X.base:=I.ok.mod
theorem Inv.kIn (I:Inv X pins σ H s):X.K.In s.heap:=I.ok.mod.kin.keeps I.bk
theorem Inv.fr (I:Inv X pins σ H s):∃m,Fr X.base X.env.locals s.heap m :=
 let ⟨m,hn,_⟩:=I.loc
 ⟨m,hn,I.bk,Nat.le_trans I.ok.bsz I.ok.above⟩
theorem Inv.lt (I:Inv X pins σ H s):X.env.locals<s.heap.objs.size:=let ⟨_,hn,_⟩:=I.loc; hn.lt
theorem Inv.sz (I:Inv X pins σ H s):X.s₀.heap.objs.size≤s.heap.objs.size:=Nat.le_trans I.ok.above (Nat.le_of_lt I.lt)
theorem Inv.nofs (I:Inv X pins σ H s) {a:Addr} (h:s.heap.objs.size≤a):a∉X.fs:=fun hb=>by
 obtain ⟨_,o,ho,_⟩:=I.ok.funs.mem hb
 exact absurd (Nat.lt_of_lt_of_le (Heap.lt_size ho) (Nat.le_trans I.sz h)) (Nat.lt_irrefl _)
theorem Inv.cne (I:Inv X pins σ H s):∀x c,X.env.cells.lookup x=some c→c≠X.env.locals:=fun x c e z=>by
 obtain ⟨v,o,ho,hd⟩:=I.cell x c e
 obtain ⟨m,⟨o',es,ep,ho',hd',_⟩,_⟩:=I.loc
 rw [z,ho'] at ho; cases ho; rw [hd'] at hd; cases hd
theorem Inv.funs (I:Inv X pins σ H s):s.heap.FunFrames X.base X.outer:=by
 have all:∀(l:List Env),(∀b∈frs l,b∈X.fs)→X.s₀.heap.FunFrames X.base l→s.heap.FunFrames X.base l:=by
  intro l
  induction l with
  | nil=>intro _ _; trivial
  | cons env r ih =>
   intro hs hl
   obtain ⟨hk,⟨L,o,hf,hn,ho,hd⟩,hr⟩:=hl
   have hL:L∈X.fs:=hs L (by unfold frs; rw [List.filterMap_cons,hf]; exact List.mem_cons_self)
   obtain ⟨sl,e⟩:=I.base.slot L o ho (I.ok.frf L hL) hL fun z=>I.ok.exfs L z hL
   exact ⟨hk,⟨L,_,hf,hn,e,hd⟩,ih (fun b hb=>hs b (by unfold frs; rw [List.filterMap_cons,hf]; exact List.mem_cons_of_mem _ hb)) hr⟩
 exact all X.outer (fun _ hb=>hb) I.ok.funs
theorem Inv.stack (I:Inv X pins σ H s):s.heap.FunFrames X.base X.stack:=by
 rcases I.ok.stk with e | ⟨e,hf⟩
 ·rw [e]; exact I.funs
 ·rw [e]
  obtain ⟨m,hn,_⟩:=I.loc
  refine .cons (by rw [I.ok.kind]; decide) hf hn ?_ I.funs
  exact Heap.get?_none_of_le (Nat.le_trans I.ok.bsz I.ok.above)
theorem Inv.stkSub (I:Inv X pins σ H s):∀b∈frs X.stack,b∈X.env.locals::X.fs:=fun b hb=>by
 rcases I.ok.stk with e | ⟨e,hf⟩
 ·rw [e] at hb; exact List.mem_cons_of_mem _ hb
 ·rw [e] at hb
  unfold frs at hb
  rw [List.filterMap_cons,hf] at hb
  exact hb
theorem Inv.stkFree (I:Inv X pins σ H s):∀b∈frs X.stack,H b=none:=fun b hb=>by
 rcases List.mem_cons.mp (I.stkSub b hb) with e | hb
 ·rw [e]; exact I.free
 ·obtain ⟨_,o,ho,_⟩:=I.ok.funs.mem hb
  exact I.base.free b o ho (I.ok.frf b hb) fun z=>I.ok.exfs b z hb
theorem Inv.step {g':Array GenState} {t':Nat} {d':Drawn} {ch:List Addr} (I:Inv X pins σ H s)
  (hch:∀b∈ch,(b∈X.ex∨X.s₀.heap.objs.size≤b)∧b≠X.env.locals∧(∀x c,X.env.cells.lookup x=some c→c≠b)∧∀p∈X.pn++pins,p.1≠b)
  (keep:∀b o,b≠X.env.locals→b∉X.fs→b∉ch→s.heap.get? b=some o→H b=none→h'.get? b=some o)
  (slot:∀b o,b≠X.env.locals→b∈X.fs→b∉ch→s.heap.get? b=some o→H b=none→∃sl,h'.get? b=some { o with slots:=sl }) (free:∀b o,b∉ch→s.heap.get? b=some o→H b=none→H' b=none)
  (there:∀b o,b∉ch→s.heap.get? b=some o→∃o',h'.get? b=some o')
  (tups:∀b xs,H b=some (.tup xs)→H' b=some (.tup xs)) (frzs:∀b o u,H b=some (.frz o u)→H' b=some (.frz o u)) (tbls:∀b ps,H b=some (.tbl ps)→∃more,H' b=some (.tbl (ps++more)))
  (ns:∀m,s.heap.Ns X.env.locals m→h'.Ns X.env.locals m) (hok:HOk X.prog X.w H' h') (hg:AllBare g') :
  Inv X pins σ H' { s with heap:=h',gens:=g',drawn:=d',toks:=t' }:=by
 have neL:∀b o,X.s₀.heap.get? b=some o→b≠X.env.locals:=fun b o e=>Nat.ne_of_lt (Nat.lt_of_lt_of_le (Heap.lt_size e) I.ok.above)
 have neC:∀b o,X.s₀.heap.get? b=some o→b∉X.ex→b∉ch:=fun b o e hx hb=>by
  rcases (hch b hb).1 with z | z
  ·exact hx z
  ·exact absurd (Nat.lt_of_lt_of_le (Heap.lt_size e) z) (Nat.lt_irrefl _)
 have cellK:∀x c,X.env.cells.lookup x=some c→∀v,s.heap.IsCell c v→h'.IsCell c v:=fun x c e v ⟨o,ho,hd⟩=>by
  have nch:c∉ch:=fun z=>(hch c z).2.2.1 x c e rfl
  by_cases hc:c∈X.fs
  ·obtain ⟨sl,q⟩:=slot c o (I.cne x c e) hc nch ho (I.freeC x c e)
   exact ⟨_,q,hd⟩
  ·exact ⟨o,keep c o (I.cne x c e) hc nch ho (I.freeC x c e),hd⟩
 refine ⟨I.ok,I.os,hg,⟨fun b o e n hb hx=>?_,fun b o e n hb hx=>?_,fun b o e n hx=>?_,fun b o e hx=>?_,fun b xs e=>tups b xs (I.base.tups b xs e),fun b o xs e=>frzs b o xs (I.base.frzs b o xs e),fun b ps e=>?_⟩,?_,fun x c e=>?_,?_,fun x c e=>?_,fun p hp=>?_,hok,I.len⟩
 ·exact keep b o (neL b o e) hb (neC b o e hx) (I.base.keep b o e n hb hx) (I.base.free b o e n hx)
 ·obtain ⟨sl,e1⟩:=I.base.slot b o e n hb hx
  obtain ⟨sl',e2⟩:=slot b _ (neL b o e) hb (neC b o e hx) e1 (I.base.free b o e n hx)
  exact ⟨sl',e2⟩
 ·obtain ⟨o',e1⟩:=I.base.there b o e hx
  exact free b o' (neC b o e hx) e1 (I.base.free b o e n hx)
 ·obtain ⟨o',e1⟩:=I.base.there b o e hx
  exact there b o' (neC b o e hx) e1
 ·obtain ⟨m1,e1⟩:=I.base.tbls b ps e
  obtain ⟨m2,e2⟩:=tbls b _ e1
  exact ⟨m1++m2,by rw [e2,Array.append_assoc]⟩
 ·obtain ⟨m,hn,hl⟩:=I.loc
  refine ⟨m,ns m hn,fun i x v e1 e2 e3=>?_⟩
  obtain ⟨u,r,l⟩:=hl i x v e1 e2 e3
  refine ⟨u,r,?_⟩
  rcases l with l | ⟨k,c,e,z⟩
  ·exact .inl l
  ·exact .inr ⟨k,c,e,cellK x c e _ z⟩
 ·obtain ⟨v,z⟩:=I.cell x c e
  exact ⟨v,cellK x c e v z⟩
 ·obtain ⟨m,⟨o,_,_,ho,_⟩,_⟩:=I.loc
  exact free _ o (fun z=>(hch _ z).2.1 rfl) ho I.free
 ·obtain ⟨v,o,ho,hd⟩:=I.cell x c e
  exact free c o (fun z=>(hch c z).2.2.1 x c e rfl) ho (I.freeC x c e)
 ·obtain ⟨e,n,ne,nf,d⟩:=I.pin p hp
  have nch:p.1∉ch:=fun z=>(hch p.1 z).2.2.2 p hp rfl
  exact ⟨keep p.1 p.2 ne nf nch e n,free p.1 p.2 nch e n,ne,nf,d⟩
theorem Inv.un {t':Nat} (I:Inv X pins σ H s) (u:Un X.fs [] H H' s.heap h') (hok:HOk X.prog X.w H' h'):Inv X pins σ H' { s with heap:=h',toks:=t' }:=by
 obtain ⟨m,⟨o,es,ep,ho,r⟩,_⟩:=id I.loc
 obtain ⟨sl,hL⟩:=u.any ho I.free (by simp)
 exact I.step (g':=s.gens) (d':=s.drawn) (ch:=[]) (fun _ z=>nomatch z) (fun b o _ hb _ e n=>u.keep b o e n hb (by simp)) (fun b o _ hb _ e n=>u.slot b o e n hb (by simp)) (fun b o _ e n=>u.free b o e n (by simp)) (fun b o _ e=>u.there b o e (by simp)) u.tups u.frzs u.tbls (fun m' hm=>by
  obtain ⟨o',es',ep',ho',r'⟩:=hm
  rw [ho] at ho'; cases ho'
  exact ⟨_,es',ep',hL,r'⟩) hok I.bare
theorem Inv.call {g':Array GenState} {t':Nat} {d':Drawn} {ch:List Addr} (I:Inv X pins σ H s) (u:Un (frs X.stack) ch H H' s.heap h') (hok:HOk X.prog X.w H' h') (hg:AllBare g')
  (hch:∀b∈ch,(b∈X.ex∨X.s₀.heap.objs.size≤b)∧b≠X.env.locals∧(∀x c,X.env.cells.lookup x=some c→c≠b)∧∀p∈X.pn++pins,p.1≠b) :
  Inv X pins σ H' { s with heap:=h',gens:=g',drawn:=d',toks:=t' }:=by
 obtain ⟨m,⟨o,es,ep,ho,r⟩,_⟩:=id I.loc
 obtain ⟨sl,hL⟩:=u.any ho I.free fun z=>(hch _ z).2.1 rfl
 exact I.step (ch:=ch) hch (fun b o hL hb hc e n=>u.keep b o e n (fun z=>(List.mem_cons.mp (I.stkSub b z)).elim hL hb) hc) (fun b o _ _ hc e n=>u.any e n hc) (fun b o hc e n=>u.free b o e n hc) (fun b o hc e=>u.there b o e hc) u.tups u.frzs u.tbls (fun m' hm=>by
  obtain ⟨o',es',ep',ho',r'⟩:=hm
  rw [ho] at ho'; cases ho'
  exact ⟨_,es',ep',hL,r'⟩) hok hg
theorem Inv.turned {t':Nat} {it:Addr} (I:Inv X pins σ H s) (k:∀b o,b≠it→s.heap.get? b=some o→h'.get? b=some o) (hn:H it=none) (hL:it≠X.env.locals)
  (h1:it∈X.ex∨X.s₀.heap.objs.size≤it) (h2:∀x c,X.env.cells.lookup x=some c→c≠it) (h3:∀p∈X.pn++pins,p.1≠it):Inv X pins σ H { s with heap:=h',toks:=t' }:=by
 have nit:∀b u,H b=some u→b≠it:=fun b u e z=>by rw [z,hn] at e; cases e
 refine I.step (g':=s.gens) (d':=s.drawn) (ch:=[it]) (fun b hb=>?_) (fun b o _ _ hc e _=>k b o (fun z=>hc (by simp [z])) e) (fun b o _ _ hc e _=>⟨o.slots,k b o (fun z=>hc (by simp [z])) e⟩) (fun _ _ _ _ n=>n)
  (fun b o hc e=>⟨o,k b o (fun z=>hc (by simp [z])) e⟩) (fun _ _ e=>e) (fun _ _ _ e=>e) (fun b ps e=>⟨#[],by rw [e]; simp⟩) (fun m hm=>?_) (fun b u e=>?_) I.bare
 ·have e:b=it:=by simpa using hb
  subst e
  exact ⟨h1,hL,h2,h3⟩
 ·obtain ⟨o,es,ep,ho,r⟩:=hm
  exact ⟨o,es,ep,k _ o (Ne.symm hL) ho,r⟩
 ·refine (I.hok b u e).stay (fun c v hc q=>k c v ?_ q) (fun _ q=>q) fun _ _ q=>q
  rcases hc with z | z
  ·rw [z]; exact nit b u e
  ·exact nit c _ z
theorem Inv.tok (I:Inv X pins σ H s) (t:Nat):Inv X pins σ H { s with toks:=t }:=I.un (h':=s.heap) (t':=t) Un.refl I.hok
theorem Inv.kept {t':Nat} (I:Inv X pins σ H s) (k:∀b u,s.heap.get? b=some u→h'.get? b=some u):Inv X pins σ H { s with heap:=h',toks:=t' }:=I.un (Un.kept k) (I.hok.kept k)
theorem Inv.laid {a:Addr} {o:HO} {t':Nat} (I:Inv X pins σ H s) (k:∀b u,s.heap.get? b=some u→h'.get? b=some u) (hp:s.heap.objs.size≤a) (new:ObjOk X.prog X.w (upd H a o) h' a o) :
  Inv X pins σ (upd H a o) { s with heap:=h',toks:=t' }:=I.un (Un.laid k hp (I.hok.fresh hp)) (I.hok.laid k hp new)
theorem Inv.write {x e:Addr} {o:HO} {t':Nat} (I:Inv X pins σ H s) (mu:Mut (H x)) (he:e=x∨H e=some (.own x)) (k:∀b u,b≠e→s.heap.get? b=some u→h'.get? b=some u) (heo:∃u,h'.get? e=some u)
  (new:ObjOk X.prog X.w (upd H x o) h' x o):Inv X pins σ (upd H x o) { s with heap:=h',toks:=t' }:=I.un (Un.write mu he k heo) (I.hok.write mu he k heo new)
theorem Inv.weak {σ':List (Option V)} (I:Inv X pins σ H s) (hl:σ'.length = σ.length) (w:∀(i:Nat) v,σ'[i]?=some (some v)→σ[i]?=some (some v)):Inv X pins σ' H s :=
 ⟨I.ok,I.os,I.bare,I.base,let ⟨m,hn,hl'⟩:=I.loc; ⟨m,hn,fun i x v e1 e2 e3=>hl' i x v e1 (w i v e2) e3⟩,I.cell,I.free,I.freeC,I.pin,I.hok,hl.trans I.len⟩
theorem Inv.pins_of {pins':List (Addr×Obj)} (I:Inv X pins σ H s) (h:∀p∈pins',s.heap.get? p.1=some p.2∧H p.1=none∧p.1≠X.env.locals∧p.1∉X.fs∧∀v,p.2.data≠.cell v):Inv X pins' σ H s :=
 ⟨I.ok,I.os,I.bare,I.base,I.loc,I.cell,I.free,I.freeC,fun p hp=>(List.mem_append.mp hp).elim (fun z=>I.pin p (List.mem_append_left _ z)) (h p),I.hok,I.len⟩
theorem zg2 {N:List Str} (hN:N.Nodup) {i j:Nat} {x:Str} (a:N[i]?=some x) (b:N[j]?=some x):i=j:=by
 obtain ⟨h1,e1⟩:=List.getElem?_eq_some_iff.mp a
 obtain ⟨h2,e2⟩:=List.getElem?_eq_some_iff.mp b
 exact (List.getElem_inj hN).mp (e1.trans e2.symm)
theorem zeq {M:Model} {A:Around} {E:Value→Shared→Prop} {i:Nat} {x:Str} {v:V} {u:Value} {Q:Unit→Shared→Prop} (I:Inv X pins σ H s) (hN:X.N.Nodup) (hi:X.N[i]?=some x) (hx:Loc X.env.scope x) (r:RelV v u)
  (h:∀s',Inv X pins (σ.set i (some v)) H s'→(∃a,Heap.SameBut a s.heap s'.heap∧(a=X.env.locals∨X.env.cells.lookup x=some a))→Q () s') (hf:X.fn x=true∨X.env.scope.names.lookup x=some .local:=by first | exact .inl rfl | exact .inr rfl | assumption):wpAny M A (storeName X.env x u) Q E s:=by
 obtain ⟨m,hn,hl⟩:=id I.loc
 have hcls:(X.env.scope.kind == .class || (X.env.scope.kind == .module && X.env.locals != X.env.globals))=false:=by rw [I.ok.kind]; rfl
 have hiσ:i < σ.length:=by rw [I.len]; exact (List.getElem?_eq_some_iff.mp hi).1
 have cne:=I.cne
 have tracked:∀{a:Addr} {h':Heap},(∃o,s.heap.get? a=some o∧H a=none)→Heap.SameBut a s.heap h'→HOk X.prog X.w H h':=fun {a h'} ha hs b ob e=>by
  obtain ⟨_,_,hfree⟩:=ha
  refine (I.hok b ob e).stay (fun c w' hc q=>(hs.2 c ?_).trans q) (fun _ q=>q) fun _ _ q=>q
  rintro rfl
  rcases hc with rfl | hc
  ·rw [hfree] at e; cases e
  ·rw [hfree] at hc; cases hc
 rcases hx with hk | hk
 ·refine wpAny_storeName_local hk hn (fun h' hn' hs=>?_) hcls
  obtain ⟨oL,_,_,hoL,_⟩:=id hn
  refine h _ ⟨I.ok,I.os,I.bare,⟨fun b o e n hb hx=>?_,fun b o e n hb hx=>?_,I.base.free,fun b o e hx=>?_,I.base.tups,I.base.frzs,I.base.tbls⟩,⟨_,hn',fun j y v' e1 e2 e3=>?_⟩,fun y c e=>?_,I.free,I.freeC,fun p hp=>?_,tracked ⟨oL,hoL,I.free⟩ hs,by simpa using I.len⟩ ⟨_,hs,.inl rfl⟩
  ·exact (hs.2 b (Nat.ne_of_lt (Nat.lt_of_lt_of_le (Heap.lt_size e) I.ok.above))).trans (I.base.keep b o e n hb hx)
  ·obtain ⟨sl,e1⟩:=I.base.slot b o e n hb hx
   exact ⟨sl,(hs.2 b (Nat.ne_of_lt (Nat.lt_of_lt_of_le (Heap.lt_size e) I.ok.above))).trans e1⟩
  ·obtain ⟨o',e1⟩:=I.base.there b o e hx
   exact ⟨o',(hs.2 b (Nat.ne_of_lt (Nat.lt_of_lt_of_le (Heap.lt_size e) I.ok.above))).trans e1⟩
  ·by_cases hj:j=i
   ·subst hj
    rw [hi] at e1; cases e1
    rw [List.getElem?_set_self hiσ] at e2
    cases e2
    exact ⟨u,r,.inl ⟨hk,by simp⟩⟩
   ·rw [List.getElem?_set_ne (Ne.symm hj)] at e2
    obtain ⟨u',r',q⟩:=hl j y v' e1 e2 e3
    refine ⟨u',r',?_⟩
    rcases q with ⟨k,e⟩ | ⟨k,c,e,z⟩
    ·refine .inl ⟨k,?_⟩
     have:y≠x:=fun e=>hj (zg2 hN e1 (e ▸ hi))
     simp [this,e]
    ·exact .inr ⟨k,c,e,z.sameBut hs (cne y c e)⟩
  ·obtain ⟨w',z⟩:=I.cell y c e
   exact ⟨w',z.sameBut hs (cne y c e)⟩
  ·obtain ⟨e,n,ne,nf,d⟩:=I.pin p hp
   exact ⟨(hs.2 p.1 ne).trans e,n,ne,nf,d⟩
 ·have hfn:X.fn x=true:=by
   rcases hf with z | z
   ·exact z
   ·rw [z] at hk; cases hk
  obtain ⟨c,hc⟩:=I.ok.has x (.inl hk)
  obtain ⟨w',z⟩:=I.cell x c hc
  refine wpAny_storeName_cell I.ok.kind hk hc z (fun h' hc' hs=>?_)
  obtain ⟨oc,hoc,hocd⟩:=id z
  refine h { s with heap:=h' } ⟨I.ok,I.os,I.bare,⟨fun b o e n hb hx=>?_,fun b o e n hb hx=>?_,I.base.free,fun b o e hx=>?_,I.base.tups,I.base.frzs,I.base.tbls⟩,⟨m,hn.sameBut hs (Ne.symm (cne x c hc)),fun j y v' e1 e2 e3=>?_⟩,fun y c' e=>?_,I.free,I.freeC,fun p hp=>?_,tracked ⟨oc,hoc,I.freeC x c hc⟩ hs,by simpa using I.len⟩ ⟨c,hs,.inr hc⟩
  ·exact (hs.2 b (Nat.ne_of_lt (Nat.lt_of_lt_of_le (Heap.lt_size e) (I.ok.cab x c hfn hc)))).trans (I.base.keep b o e n hb hx)
  ·obtain ⟨sl,e1⟩:=I.base.slot b o e n hb hx
   exact ⟨sl,(hs.2 b (Nat.ne_of_lt (Nat.lt_of_lt_of_le (Heap.lt_size e) (I.ok.cab x c hfn hc)))).trans e1⟩
  ·obtain ⟨o',e1⟩:=I.base.there b o e hx
   exact ⟨o',(hs.2 b (Nat.ne_of_lt (Nat.lt_of_lt_of_le (Heap.lt_size e) (I.ok.cab x c hfn hc)))).trans e1⟩
  ·by_cases hj:j=i
   ·subst hj
    rw [hi] at e1; cases e1
    rw [List.getElem?_set_self hiσ] at e2
    cases e2
    exact ⟨u,r,.inr ⟨.inl hk,c,hc,hc'⟩⟩
   ·rw [List.getElem?_set_ne (Ne.symm hj)] at e2
    obtain ⟨u',r',q⟩:=hl j y v' e1 e2 e3
    refine ⟨u',r',?_⟩
    rcases q with q | ⟨k,c',e,z'⟩
    ·exact .inl q
    ·refine .inr ⟨k,c',e,z'.sameBut hs ?_⟩
     rintro rfl
     exact hj (zg2 hN e1 (I.ok.inj _ _ _ e hc ▸ hi))
  ·by_cases hcc:c'=c
   ·subst hcc; exact ⟨_,hc'⟩
   ·obtain ⟨w2,z2⟩:=I.cell y c' e
    exact ⟨w2,z2.sameBut hs hcc⟩
  ·obtain ⟨e,n,ne,nf,d⟩:=I.pin p hp
   refine ⟨(hs.2 p.1 ?_).trans e,n,ne,nf,d⟩
   intro q
   rw [q,hoc] at e
   have q':oc=p.2:=Option.some.inj e
   exact d w' (by rw [← q']; exact hocd)
theorem zau {M:Model} {A:Around} {E:Value→Shared→Prop} {i:Nat} {x:Str} {v:V} {u:Value} {Q:Unit→Shared→Prop} (I:Inv X pins σ H s) (hN:X.N.Nodup) (hi:X.N[i]?=some x) (hx:Loc X.env.scope x) (r:RelV v u)
  (h:∀s',Inv X pins (σ.set i (some v)) H s'→Q () s') (hf:X.fn x=true∨X.env.scope.names.lookup x=some .local:=by first | exact .inl rfl | exact .inr rfl | assumption):wpAny M A (storeName X.env x u) Q E s :=
 zeq I hN hi hx r (fun s' I' _=>h s' I') hf
theorem Inv.call' {s':Shared} {ch:List Addr} (I:Inv X pins σ H s) (ho:s'.os=s.os) (u:Un (frs X.stack) ch H H' s.heap s'.heap) (hok:HOk X.prog X.w H' s'.heap) (hg:AllBare s'.gens)
  (hch:∀b∈ch,(b∈X.ex∨X.s₀.heap.objs.size≤b)∧b≠X.env.locals∧(∀x c,X.env.cells.lookup x=some c→c≠b)∧∀p∈X.pn++pins,p.1≠b):Inv X pins σ H' s':=by
 obtain ⟨h',g',d',t',o'⟩:=s'
 have e:o'=s.os:=ho
 subst e
 exact I.call (g':=g') (t':=t') (d':=d') u hok hg hch
end
abbrev XK:=Value→Option Addr→Hp→Prop
abbrev St:=List (Option V)
abbrev VK:=V→Hp→Prop
abbrev TE:=St→Hp→VK→Prop
abbrev TT:=St→Hp→(Bool→Hp→Prop)→Prop
abbrev TA:=St→Hp→(List V→Hp→Prop)→Prop
structure Ends where
 nx:St→Hp→Prop
 rt:VK
 bk:St→Hp→Prop:=fun _ _=>False
 ct:St→Hp→Prop:=fun _ _=>False
abbrev TS:=Ends→St→Hp→Prop
def EP (X:Cx) (pins:List (Addr×Obj)) (σ:St) (Q:VK) (u:Value) (s':Shared):Prop:=∃v H',Inv X pins σ H' s'∧RelV v u∧Q v H'
def TP (X:Cx) (pins:List (Addr×Obj)) (σ:St) (Q:Bool→Hp→Prop) (b:Bool) (s':Shared):Prop:=∃H',Inv X pins σ H' s'∧Q b H'
def AP (X:Cx) (pins:List (Addr×Obj)) (σ:St) (Q:List V→Hp→Prop) (us:List Value) (s':Shared):Prop:=∃vs H',Inv X pins σ H' s'∧Vals vs us∧Q vs H'
def SP (X:Cx) (pins:List (Addr×Obj)) (D:Ends) (f:Flow) (s':Shared):Prop :=
 match f with
 | .next=>∃σ' H',Inv X pins σ' H' s'∧D.nx σ' H'
 | .brk=>∃σ' H',Inv X pins σ' H' s'∧D.bk σ' H'
 | .cont=>∃σ' H',Inv X pins σ' H' s'∧D.ct σ' H'
 | .ret u=>∃v σ' H',Inv X pins σ' H' s'∧RelV v u∧D.rt v H'
def PE (X:Cx) (e:Expr) (t:TE):Prop :=
 ∀(pins:List (Addr×Obj)) (s:Shared) (σ:St) (H:Hp) (Q:VK),Inv X pins σ H s→t σ H Q→wpAny (model X.prog X.w) X.A (eval e X.env) (EP X pins σ Q) X.xe s
def PT (X:Cx) (e:Expr) (t:TT):Prop :=
 ∀(pins:List (Addr×Obj)) (s:Shared) (σ:St) (H:Hp) (Q:Bool→Hp→Prop),Inv X pins σ H s→t σ H Q→wpAny (model X.prog X.w) X.A (isTrue e X.env (eval e X.env)) (TP X pins σ Q) X.xe s
def PW (X:Cx) (e:Expr) (t:TT):Prop :=
 ∀(whole:Sem Value) (pins:List (Addr×Obj)) (s:Shared) (σ:St) (H:Hp) (Q:Bool→Hp→Prop),Inv X pins σ H s→t σ H Q→wpAny (model X.prog X.w) X.A (isTrue e X.env whole) (TP X pins σ Q) X.xe s
theorem PW.pt {X:Cx} {e:Expr} {t:TT} (h:PW X e t):PT X e t:=h _
def PA (X:Cx) (es:List Expr) (t:TA):Prop :=
 ∀(pos:Pos) (pins:List (Addr×Obj)) (s:Shared) (σ:St) (H:Hp) (Q:List V→Hp→Prop),Inv X pins σ H s→t σ H Q→wpAny (model X.prog X.w) X.A (spliced (backTo pos (starEach es X.env))) (AP X pins σ Q) X.xe s
def PS (X:Cx) (st:Stmt) (t:TS):Prop :=
 ∀(pins:List (Addr×Obj)) (s:Shared) (σ:St) (H:Hp) (D:Ends),Inv X pins σ H s→t D σ H→wpAny (model X.prog X.w) X.A (exec st X.env) (SP X pins D) X.xe s
def PSs (X:Cx) (st:List Stmt) (t:TS):Prop :=
 ∀(pins:List (Addr×Obj)) (s:Shared) (σ:St) (H:Hp) (D:Ends),Inv X pins σ H s→t D σ H→wpAny (model X.prog X.w) X.A (execs st X.env) (SP X pins D) X.xe s
theorem thn {α:Type} {t:Sem α} {Q Q':α→Shared→Prop} {M:Model} {A:Around} {E:Value→Shared→Prop} {s:Shared} (h:wpAny M A t Q E s) (hQ:∀a s,Q a s→Q' a s):wpAny M A t Q' E s:=wpAny_mono h hQ fun _ _ x=>x
end L2
namespace L2
open PySem PySem.Spec PyProof.Rows
section
variable {X:Cx}
theorem bin {a b:Expr} {ta tb:TE} (ha:PE X a ta) (hb:PE X b tb) {pins:List (Addr×Obj)} {s:Shared} {σ:St} {H:Hp} {R:V→V→Hp→Prop} (I:Inv X pins σ H s) (h:ta σ H fun x H1=>tb σ H1 fun y H2=>R x y H2)
  {α:Type} {Q:α→Shared→Prop} {f:Value→Value→Sem α}
  (hf:∀v u s2 x y H2,Inv X pins σ H2 s2→RelV x v→RelV y u→R x y H2→wpAny (model X.prog X.w) X.A (f v u) Q X.xe s2) :
  wpAny (model X.prog X.w) X.A (eval a X.env) (fun v s₁=>wpAny (model X.prog X.w) X.A (eval b X.env) (fun u s₂=>wpAny (model X.prog X.w) X.A (f v u) Q X.xe s₂) X.xe s₁) X.xe s:=by
 refine thn (ha pins s σ H _ I h) fun v s1 ⟨x,H1,I1,r1,q1⟩=>?_
 refine thn (hb pins s1 σ H1 _ I1 q1) fun u s2 ⟨y,H2,I2,r2,q2⟩=>?_
 exact hf v u s2 x y H2 I2 r1 r2 q2
def tVar (i:Nat):TE:=fun σ H Q=>∃v,σ[i]?=some (some v)∧Q v H
def tC (v:V):TE:=fun _ H Q=>Q v H
theorem jc {i:Nat} {x:Str} {pos:Pos} (hN:X.N[i]?=some x) (hv:Vis X.env.scope x) (hd:(x == ("__debug__":Str))=false:=by decide) (hcd:(x == ("__classdict__":Str))=false:=by decide):PE X (.Name x pos) (tVar i):=by
 intro pins s σ H Q I h
 obtain ⟨v,e,h⟩:=h
 obtain ⟨m,hn,hl⟩:=I.loc
 obtain ⟨u,r,l⟩:=hl i x v hN e hv
 have fin:EP X pins σ Q u s:=⟨v,H,I,r,h⟩
 rcases l with ⟨hk,hm⟩ | ⟨hk,c,hc,hcell⟩
 ·exact wpAny_Name (wpAny_loadName_local I.ok.kind hk hn hm fin) hd
 ·rcases hk with hk | hk
  ·exact wpAny_Name (wpAny_loadName_cell I.ok.kind hk hc hcell fin) hd
  ·exact wpAny_Name (wpAny_loadName_free I.ok.kind hk hc hcell fin hcd) hd
theorem zp1 {i j pos}:PE X (.Constant (.int i) j pos) (tC (.int i)):=fun _ _ _ H _ I h=>wpAny_Constant_int ⟨.int i,H,I.tok _,⟨_,rfl⟩,h⟩
theorem zr6 {b j pos}:PE X (.Constant (.bool b) j pos) (tC (.bl b)):=fun _ _ _ H _ I h=>Constant_bool ⟨.bl b,H,I,rfl,h⟩
theorem zp2 {j pos}:PE X (.Constant .none j pos) (tC .non):=fun _ _ _ H _ I h=>Constant_none ⟨.non,H,I,rfl,h⟩
theorem zp3 {x j pos}:PE X (.Constant (.str x) j pos) (tC (.str x)):=fun _ _ _ H _ I h=>Calls.Constant_str ⟨.str x,H,I.tok _,⟨_,rfl⟩,h⟩
def Gl (X:Cx) (x:Str):Prop:=X.env.kindOf x=some .globalImplicit
theorem zdn {E:Value→Shared→Prop} {pins:List (Addr×Obj)} {s:Shared} {σ:St} {H:Hp} {x:Str} {u:Value} {pos:Pos} {Q:Value→Shared→Prop} (I:Inv X pins σ H s) (hg:Gl X x) (hm:X.mg x=some u) (h:Q u s)
  (hd:(x == ("__debug__":Str))=false:=by decide):wpAny (model X.prog X.w) X.A (eval (.Name x pos) X.env) Q E s :=
 Calls.Name_function_global I.ok.kind hg (Calls.loadGlobal_global (by rw [I.ok.glob]; exact I.mod.glob.keeps I.bk) hm h) hd
theorem zav {E:Value→Shared→Prop} {pins:List (Addr×Obj)} {s:Shared} {σ:St} {H:Hp} {x:Str} {u:Value} {pos:Pos} {Q:Value→Shared→Prop} (I:Inv X pins σ H s) (hg:Gl X x) (hm:X.mg x=none) (hv:bootBuiltins x=some u) (h:Q u s)
  (hn:x≠"__name__":=by decide) (hd:(x == ("__debug__":Str))=false:=by decide):wpAny (model X.prog X.w) X.A (eval (.Name x pos) X.env) Q E s:=by
 obtain ⟨mb,h1,h2⟩:=I.mod.blt
 exact Calls.Name_function_global I.ok.kind hg (Calls.loadGlobal_builtin (by rw [I.ok.glob]; exact I.mod.glob.keeps I.bk) hm (by rw [I.ok.blt]; exact h1.keeps I.bk) ((h2 x hn).trans hv) h) hd
theorem zix {x:Str} {v:V} {u:Value} {pos:Pos} (hg:Gl X x) (hm:X.mg x=some u) (r:RelV v u) (hd:(x == ("__debug__":Str))=false:=by decide):PE X (.Name x pos) (tC v) :=
 fun _ _ _ H _ I h=>zdn I hg hm ⟨v,H,I,r,h⟩ hd
theorem znn {x:Str} {v:V} {u:Value} {pos:Pos} (hg:Gl X x) (hm:X.mg x=none) (hv:bootBuiltins x=some u) (r:RelV v u) (hn:x≠"__name__":=by decide) (hd:(x == ("__debug__":Str))=false:=by decide):PE X (.Name x pos) (tC v) :=
 fun _ _ _ H _ I h=>zav I hg hm hv ⟨v,H,I,r,h⟩ hn hd
variable {a b:Expr} {ta tb:TE} {pos:Pos}
def PC (X:Cx) (op:CmpOp) (a b:Expr) (t:TE):Prop :=
 ∀(pins:List (Addr×Obj)) (s:Shared) (σ:St) (H:Hp) (Q:VK),Inv X pins σ H s→t σ H Q →
  wpAny (model X.prog X.w) X.A (eval a X.env) (fun v s₁=>wpAny (model X.prog X.w) X.A (eval b X.env) (fun u s₂=>wpAny (model X.prog X.w) X.A (compareOp op v u) (EP X pins σ Q) X.xe s₂) X.xe s₁) X.xe s
theorem nobehind (b:Expr) {op:CmpOp} (h:op≠.In) (h2:op≠.NotIn):behindInMarks op b=false:=by
 have e1:(op == CmpOp.In)=false:=by cases op <;> first | rfl | exact absurd rfl h
 have e2:(op == CmpOp.NotIn)=false:=by cases op <;> first | rfl | exact absurd rfl h2
 cases b <;> simp [behindInMarks,e1,e2]
def tB (t:TE):TT:=fun σ H Q=>t σ H fun x H1=>∃c,x=.bl c∧Q c H1
theorem zmz {op:CmpOp} {t:TE} (h:PC X op a b t) (h1:behindInMarks op b=false:=by first | exact nobehind _ (by decide) (by decide) | rfl):PT X (.Compare a [op] [b] pos) (tB t):=by
 intro pins s σ H Q I hw
 refine wpAny_isTrue_Compare1 (thn (h pins s σ H _ I hw) fun v s1 h1=>thn h1 fun u s2 h2=>thn h2 fun c s3 ⟨x,H1,I1,r1,q1⟩=>?_) h1
 obtain ⟨d,rfl,q⟩:=q1
 cases r1
 exact wpAny_truthy_bool ⟨H1,I1,q⟩
theorem zp4 {e:Expr} {t:TE} (h:PE X e t) (he:∀whole,isTrue e X.env whole=(do let v ← whole; standAt e.pos; holding [v] (truthy v)):=by intro _; rfl):PT X e (tB t):=by
 intro pins s σ H Q I hw
 refine isTrue_plain (thn (h pins s σ H _ I hw) fun v s1 ⟨x,H1,I1,r1,q1⟩=>?_) (he _)
 obtain ⟨d,rfl,q⟩:=q1
 cases r1
 exact wpAny_truthy_bool ⟨H1,I1,q⟩
variable {tA tB':TT} {rest:List Expr}
def tAnd (t u:TT):TT:=fun σ H Q=>t σ H fun c H1=>if c=true then u σ H1 Q else Q false H1
def tOr (t u:TT):TT:=fun σ H Q=>t σ H fun c H1=>if c=true then Q true H1 else u σ H1 Q
def tNot (t:TT):TT:=fun σ H Q=>t σ H fun c H1=>Q (!c) H1
theorem zno (ha:PT X a tA):PW X (.BoolOp .And [a] pos) tA:=by
 intro wh pins s σ H Q I h
 refine isTrue_and (thn (ha pins s σ H Q I h) fun c s1 e=>?_)
 cases c with
 | true=>exact isTrue_and_nil e
 | false=>exact e
theorem zp5 (ha:PT X a tA):PW X (.BoolOp .Or [a] pos) tA:=by
 intro wh pins s σ H Q I h
 refine isTrue_or (thn (ha pins s σ H Q I h) fun c s1 e=>?_)
 cases c with
 | false=>exact isTrue_or_nil e
 | true=>exact e
theorem zp6 (ha:PT X a tA) (hb:PW X (.BoolOp .And (b::rest) pos) tB'):PW X (.BoolOp .And (a::b::rest) pos) (tAnd tA tB'):=by
 intro wh pins s σ H Q I h
 refine isTrue_and (thn (ha pins s σ H _ I h) fun c s1 ⟨H1,I1,q1⟩=>?_)
 cases c with
 | true=>exact hb wh pins s1 σ H1 Q I1 q1
 | false=>exact ⟨H1,I1,q1⟩
theorem zr7 (ha:PT X a tA) (hb:PW X (.BoolOp .Or (b::rest) pos) tB'):PW X (.BoolOp .Or (a::b::rest) pos) (tOr tA tB'):=by
 intro wh pins s σ H Q I h
 refine isTrue_or (thn (ha pins s σ H _ I h) fun c s1 ⟨H1,I1,q1⟩=>?_)
 cases c with
 | true=>exact ⟨H1,I1,q1⟩
 | false=>exact hb wh pins s1 σ H1 Q I1 q1
theorem zp7 (ha:PT X a tA):PT X (.UnaryOp .Not a pos) (tNot tA):=by
 intro pins s σ H Q I h
 exact isTrue_not (ha pins s σ H (fun c H1=>Q (!c) H1) I h)
def tAndV (ta tb:TE):TE:=fun σ H Q=>ta σ H fun x H1=>∃c,x=.bl c∧if c=true then tb σ H1 Q else Q (.bl false) H1
def tOrV (ta tb:TE):TE:=fun σ H Q=>ta σ H fun x H1=>∃c,x=.bl c∧if c=true then Q (.bl true) H1 else tb σ H1 Q
def tNotV (ta:TE):TE:=fun σ H Q=>ta σ H fun x H1=>∃c,x=.bl c∧Q (.bl (!c)) H1
theorem zp8 {op} {t:TE} (h:PE X a t):PE X (.BoolOp op [a] pos) t:=fun pins s σ H Q I hw=>BoolOp_one (h pins s σ H Q I hw)
theorem zp9 (ha:PE X a ta) (hb:PE X (.BoolOp .And (b::rest) pos) tb):PE X (.BoolOp .And (a::b::rest) pos) (tAndV ta tb):=by
 intro pins s σ H Q I h
 refine BoolOp_and (thn (ha pins s σ H _ I h) fun v s1 ⟨x,H1,I1,r1,q1⟩=>?_)
 obtain ⟨c,rfl,q1⟩:=q1
 cases r1
 refine wpAny_truthy_bool ?_
 cases c with
 | true=>exact hb pins s1 σ H1 Q I1 q1
 | false=>exact ⟨.bl false,H1,I1,rfl,q1⟩
theorem zr8 (ha:PE X a ta) (hb:PE X (.BoolOp .Or (b::rest) pos) tb):PE X (.BoolOp .Or (a::b::rest) pos) (tOrV ta tb):=by
 intro pins s σ H Q I h
 refine BoolOp_or (thn (ha pins s σ H _ I h) fun v s1 ⟨x,H1,I1,r1,q1⟩=>?_)
 obtain ⟨c,rfl,q1⟩:=q1
 cases r1
 refine wpAny_truthy_bool ?_
 cases c with
 | false=>exact hb pins s1 σ H1 Q I1 q1
 | true=>exact ⟨.bl true,H1,I1,rfl,q1⟩
theorem zqa (ha:PE X a ta):PE X (.UnaryOp .Not a pos) (tNotV ta):=by
 intro pins s σ H Q I h
 refine UnaryOp_ (thn (ha pins s σ H _ I h) fun v s1 ⟨x,H1,I1,r1,q1⟩=>?_)
 obtain ⟨c,rfl,q1⟩:=q1
 cases r1
 exact not_of (wpAny_truthy_bool ⟨.bl (!c),H1,I1,rfl,q1⟩)
def tIf (t:TT) (ta tb:TE):TE:=fun σ H Q=>t σ H fun c H1=>if c=true then ta σ H1 Q else tb σ H1 Q
theorem zk6 {c:Expr} (hc:PT X c tA) (ha:PE X a ta) (hb:PE X b tb):PE X (.IfExp c a b pos) (tIf tA ta tb):=by
 intro pins s σ H Q I h
 refine wpAny_IfExp (thn (hc pins s σ H _ I h) fun d s1 ⟨H1,I1,q1⟩=>?_)
 cases d with
 | true=>exact ha pins s1 σ H1 Q I1 q1
 | false=>exact hb pins s1 σ H1 Q I1 q1
end
end L2
namespace L2
open PySem PySem.Spec PyProof.Rows
def SqL (K:PySem.W.Frag) (H:Hp) (a:Addr) (xs:List V):Prop :=
 Rd H a (.lst xs) ∨
  ∃(o:Obj) (its:Array Value) (n:Nat),K.lookup a=some o∧o.cls=.type "list"∧o.dict=none∧o.data=.seq its n∧its.size≤sizeLine∧Vals xs its.toList
def SqT (K:PySem.W.Frag) (H:Hp) (a:Addr) (xs:List V):Prop :=
 Rd H a (.tup xs) ∨
  ∃(o:Obj) (its:Array Value) (n:Nat),K.lookup a=some o∧o.cls=.type "tuple"∧o.data=.seq its n∧its.size≤sizeLine∧Vals xs its.toList
def absV:Value→Option V
 | .none=>some .non
 | .bool b=>some (.bl b)
 | .int i _=>some (.int i)
 | .str x _=>some (.str x)
 | .bytes b _=>some (.byt b)
 | .float b _=>some (.flt b)
 | .ref a=>some (.ref a)
 | .type n=>some (.ty n)
 | _=>none
theorem RelV.abs {x:V} {u:Value} (r:RelV x u):absV u=some x:=by
 cases x with
 | non=>cases r; rfl
 | bl _=>cases r; rfl
 | int _=>obtain ⟨t,rfl⟩:=r; rfl
 | str _=>obtain ⟨t,rfl⟩:=r; rfl
 | byt _=>obtain ⟨t,rfl⟩:=r; rfl
 | flt _=>obtain ⟨t,rfl⟩:=r; rfl
 | ref _=>cases r; rfl
 | ty _=>cases r; rfl
theorem RelV.inj {x y:V} {u:Value} (r:RelV x u) (q:RelV y u):x=y:=Option.some.inj (r.abs.symm.trans q.abs)
theorem Vals.inj:∀{xs ys:List V} {us:List Value},Vals xs us→Vals ys us→xs=ys
 | _,_,_,.nil,.nil=>rfl
 | _,_,_,.cons r t,.cons r' t'=>by rw [r.inj r',Vals.inj t t']
section
variable {X:Cx} {pins:List (Addr×Obj)} {σ:St} {H:Hp} {s:Shared} {a:Addr} {xs ys:List V}
theorem SqL.of {K:PySem.W.Frag} (h:H a=some (.lst xs)):SqL K H a xs:=.inl (.inl h)
theorem SqT.of {K:PySem.W.Frag} (h:H a=some (.tup xs)):SqT K H a xs:=.inl (.inl h)
theorem Inv.list (I:Inv X pins σ H s) (h:SqL X.K H a xs):∃its:List Value,Vals xs its∧PlainL s.heap a its.toArray∧xs.length≤sizeLine:=by
 rcases h with h | ⟨o,its,n,hk,hc,hd,hs,hz,r⟩
 ·obtain ⟨z,its,n,r,e⟩:=h.ok I.hok
  exact ⟨its,r,⟨_,n,e,rfl,rfl,rfl⟩,z⟩
 ·refine ⟨its.toList,r,⟨o,n,I.kIn a o hk,hc,hd,by simpa using hs⟩,?_⟩
  have e:=r.length
  simp only [Array.length_toList] at e
  omega
theorem Inv.tuple (I:Inv X pins σ H s) (h:SqT X.K H a xs):∃its:List Value,Vals xs its∧IsTup s.heap a its.toArray∧xs.length≤sizeLine:=by
 rcases h with h | ⟨o,its,n,hk,hc,hs,hz,r⟩
 ·obtain ⟨z,its,r,p⟩:=h.ok I.hok
  exact ⟨its,r,p,z⟩
 ·refine ⟨its.toList,r,⟨o,I.kIn a o hk,hc,n,by simpa using hs⟩,?_⟩
  have e:=r.length
  simp only [Array.length_toList] at e
  omega
theorem Inv.list_inj (I:Inv X pins σ H s) (h:SqL X.K H a xs) (h':SqL X.K H a ys):xs=ys:=by
 obtain ⟨its,r,⟨o,n,e,_,_,d⟩,_⟩:=I.list h
 obtain ⟨its',r',⟨o',n',e',_,_,d'⟩,_⟩:=I.list h'
 rw [e] at e'; cases e'
 rw [d] at d'
 injection d' with d1 _
 have:its=its':=by simpa using congrArg Array.toList d1
 subst this
 exact r.inj r'
end
abbrev Cx.wish (X:Cx) (E:Value→Shared→Prop):Cx:={ X with xe:=E }
abbrev Cx.nox (X:Cx):Cx:=X.wish fun _ _=>False
theorem Cx.Ok.wish {X:Cx} (ok:X.Ok) (E:Value→Shared→Prop):(X.wish E).Ok :=
 ⟨ok.mod,ok.kind,ok.glob,ok.blt,ok.above,ok.inj,ok.has,ok.cab,ok.hd,ok.frames,ok.stk,ok.exf,ok.bs,ok.bsz,ok.noex,ok.exfs,ok.funs,ok.frf⟩
theorem Cx.Ok.unwish {X:Cx} {E:Value→Shared→Prop} (ok:(X.wish E).Ok):X.Ok :=
 ⟨ok.mod,ok.kind,ok.glob,ok.blt,ok.above,ok.inj,ok.has,ok.cab,ok.hd,ok.frames,ok.stk,ok.exf,ok.bs,ok.bsz,ok.noex,ok.exfs,ok.funs,ok.frf⟩
section
variable {X:Cx} {pins:List (Addr×Obj)} {σ:St} {H:Hp} {s:Shared} {E:Value→Shared→Prop}
theorem Inv.wish (I:Inv X pins σ H s) (E:Value→Shared→Prop):Inv (X.wish E) pins σ H s:=⟨I.ok.wish E,I.os,I.bare,I.base,I.loc,I.cell,I.free,I.freeC,I.pin,I.hok,I.len⟩
theorem Inv.unwish (I:Inv (X.wish E) pins σ H s):Inv X pins σ H s:=⟨I.ok.unwish,I.os,I.bare,I.base,I.loc,I.cell,I.free,I.freeC,I.pin,I.hok,I.len⟩
theorem SP.unwish {D:Ends} {f:Flow} {s':Shared} (h:SP (X.wish E) pins D f s'):SP X pins D f s':=by
 cases f with
 | next=>obtain ⟨σ',H',I,q⟩:=h; exact ⟨σ',H',I.unwish,q⟩
 | brk=>obtain ⟨σ',H',I,q⟩:=h; exact ⟨σ',H',I.unwish,q⟩
 | cont=>obtain ⟨σ',H',I,q⟩:=h; exact ⟨σ',H',I.unwish,q⟩
 | ret u=>obtain ⟨v,σ',H',I,r,q⟩:=h; exact ⟨v,σ',H',I.unwish,r,q⟩
theorem PSs.nox {st:List Stmt} {t:TS} (h:PSs X.nox st t):PSs X st t:=fun pins s σ H D I hw =>
 wpAny_mono (h pins s σ H D (I.wish _) hw) (fun _ _ q=>q.unwish) fun _ _ z=>False.elim z
end
section
variable {X:Cx} {st:Stmt} {rest:List Stmt} {t u:TS} {e:Expr} {te:TE} {pos:Pos}
def tNext:TS:=fun D σ H=>D.nx σ H
def tSeq (t u:TS):TS:=fun D σ H=>t { D with nx:=u D } σ H
theorem znp:PSs X [] tNext:=fun _ _ σ H _ I h=>wpAny_execs_nil ⟨σ,H,I,h⟩
theorem zg3 (h1:PS X st t) (h2:PSs X rest u):PSs X (st::rest) (tSeq t u):=by
 intro pins s σ H D I h
 refine wpAny_execs_cons (thn (h1 pins s σ H { D with nx:=u D } I h) fun f s1 q=>?_)
 cases f with
 | next =>
  obtain ⟨σ',H',I',q⟩:=q
  exact h2 pins s1 σ' H' D I' q
 | ret v=>exact q
 | brk=>exact q
 | cont=>exact q
theorem ziy (h1:PS X st t):PSs X [st] t:=by
 intro pins s σ H D I h
 refine wpAny_execs_cons (thn (h1 pins s σ H D I h) fun f s1 q=>?_)
 cases f with
 | next=>exact wpAny_execs_nil q
 | ret v=>exact q
 | brk=>exact q
 | cont=>exact q
theorem Inv.quiet {pins:List (Addr×Obj)} {σ:St} {H:Hp} {s:Shared} (I:Inv X pins σ H s):interactive X.env=false:=by simp [interactive,I.ok.kind]
def tDrop (te:TE):TS:=fun D σ H=>te σ H fun _ H1=>D.nx σ H1
theorem zf8 (he:PE X e te) (hs:swapsWith e none pos.line X.env=pure false:=by rfl):PS X (.Expr e pos) (tDrop te):=by
 intro pins s σ H D I h
 exact wpAny_Expr_any (thn (he pins s σ H _ I h) fun v s1 ⟨x,H1,I1,r1,q1⟩=>⟨σ,H1,I1,q1⟩) I.quiet hs
def tRet (te:TE):TS:=fun D σ H=>te σ H D.rt
theorem ziz (he:PE X e te):PS X (.Return (some e) pos) (tRet te):=by
 intro pins s σ H D I h
 exact wpAny_Return_some (thn (he pins s σ H _ I h) fun v s1 ⟨x,H1,I1,r1,q1⟩=>⟨x,σ,H1,I1,r1,q1⟩)
def tIfS (c:TT) (t u:TS):TS:=fun D σ H=>c σ H fun b H1=>if b=true then t D σ H1 else u D σ H1
theorem zr9 {c:Expr} {a b:List Stmt} {tc:TT} (hc:PT X c tc) (ha:PSs X a t) (hb:PSs X b u):PS X (.If c a b pos) (tIfS tc t u):=by
 intro pins s σ H D I h
 refine wpAny_If (thn (hc pins s σ H _ I h) fun d s1 ⟨H1,I1,q1⟩=>?_)
 cases d with
 | true=>exact ha pins s1 σ H1 D I1 q1
 | false=>exact hb pins s1 σ H1 D I1 q1
def tNever:TS:=fun _ _ _=>False
theorem zk7:PS X st tNever:=fun _ _ _ _ _ _ h=>h.elim
end
abbrev TG:=V→St→Hp→(St→Hp→Prop)→Prop
abbrev TGs:=List V→St→Hp→(St→Hp→Prop)→Prop
def PG (X:Cx) (target:Expr) (t:TG):Prop :=
 ∀(pins:List (Addr×Obj)) (s:Shared) (σ:St) (H:Hp) (v:V) (u:Value) (Q:St→Hp→Prop),Inv X pins σ H s→RelV v u→t v σ H Q →
  wpAny (model X.prog X.w) X.A (assign target X.env u) (fun _ s'=>∃σ' H',Inv X pins σ' H' s'∧Q σ' H') X.xe s
def PGs (X:Cx) (ts:List Expr) (t:TGs):Prop :=
 ∀(pins:List (Addr×Obj)) (s:Shared) (σ:St) (H:Hp) (vs:List V) (us:List Value) (Q:St→Hp→Prop),Inv X pins σ H s→Vals vs us→t vs σ H Q →
  wpAny (model X.prog X.w) X.A (assignInOrder ((assignEach ts X.env).map (·.2)) us) (fun _ s'=>∃σ' H',Inv X pins σ' H' s'∧Q σ' H') X.xe s
abbrev TSet:=V→V→V→Hp→(Hp→Prop)→Prop
def PSet (X:Cx) (t:TSet):Prop :=
 ∀(pins:List (Addr×Obj)) (s:Shared) (σ:St) (H:Hp) (o i v:V) (ov iv u:Value) (Q:Hp→Prop),Inv X pins σ H s→RelV o ov→RelV i iv→RelV v u→t o i v H Q →
  wpAny (model X.prog X.w) X.A (setItem ov iv u) (fun _ s'=>∃H',Inv X pins σ H' s'∧Q H') X.xe s
abbrev TIp:=V→V→Hp→VK→Prop
def PIp (X:Cx) (op:Operator) (t:TIp):Prop :=
 ∀(pins:List (Addr×Obj)) (s:Shared) (σ:St) (H:Hp) (x y:V) (v u:Value) (Q:VK),Inv X pins σ H s→RelV x v→RelV y u→t x y H Q →
  wpAny (model X.prog X.w) X.A (inplaceOp op v u) (EP X pins σ Q) X.xe s
section
variable {X:Cx} {pos:Pos}
def gName (i:Nat):TG:=fun v σ H Q=>Q (σ.set i (some v)) H
theorem zi0 {i:Nat} {x:Str} (hN:X.N.Nodup) (hi:X.N[i]?=some x) (hx:Loc X.env.scope x) (hf:X.fn x=true∨X.env.scope.names.lookup x=some .local:=by first | exact .inl rfl | exact .inr rfl | assumption):PG X (.Name x pos) (gName i):=by
 intro pins s σ H v u Q I r h
 exact wpAny_assign_Name (zau I hN hi hx r (fun s' I'=>⟨_,H,I',h⟩) hf)
def gNil:TGs:=fun vs σ H Q=>vs=[]∧Q σ H
def gCons (t:TG) (u:TGs):TGs:=fun vs σ H Q=>∃v r,vs=v::r∧t v σ H fun σ' H'=>u r σ' H' Q
theorem znq:PGs X [] gNil:=by
 intro pins s σ H vs us Q I r h
 obtain ⟨e,h⟩:=h
 subst e
 cases r
 exact assignInOrder_nil ⟨σ,H,I,h⟩
theorem zk8 {e:Expr} {es:List Expr} {t:TG} {u:TGs} (h1:PG X e t) (h2:PGs X es u)
  (hs:(assignEach (e::es) X.env).map (·.2)=assign e X.env::(assignEach es X.env).map (·.2):=by rfl):PGs X (e::es) (gCons t u):=by
 intro pins s σ H vs us Q I r h
 obtain ⟨v,vr,e1,h⟩:=h
 subst e1
 cases r with
 | cons r rr =>
  rw [hs]
  refine assignInOrder_cons (thn (h1 pins s σ H _ _ _ I r h) fun _ s1 ⟨σ1,H1,I1,q1⟩=>?_)
  exact h2 pins s1 σ1 H1 _ _ Q I1 rr q1
def gTup (K:PySem.W.Frag) (n:Nat) (t:TGs):TG:=fun v σ H Q=>∃a xs,v=.ref a∧SqT K H a xs∧xs.length=n∧t xs σ H Q
theorem zqb {es:List Expr} {k:Nat} {t:TGs} {n:Nat} (hc:X.calm=true) (h:PGs X es t)
  (hn:(assignEach es X.env).length=n:=by rfl) (hst:(assignEach es X.env).findIdx? (·.1)=none:=by rfl):PG X (.Tuple es k pos) (gTup X.K n t):=by
 intro pins s σ H v u Q I r hw
 obtain ⟨a,xs,e1,hq,hl,hw⟩:=hw
 subst e1
 cases r
 obtain ⟨its,rv,ht,hz⟩:=I.tuple hq
 refine assign_Tuple_tuple (I.ok.hd hc) ht (by simp [hn,← hl,rv.length]) hst fun h' hx=>?_
 have I1:Inv X pins σ H { s with heap:=h' }:=I.kept (t':=s.toks) fun b o e=>hx b o (Nat.ne_of_lt (Heap.lt_size e)) e
 exact h pins _ σ H xs _ Q I1 (by simpa using rv) hw
def gSub (to ti:TE) (t:TSet):TG:=fun v σ H Q=>to σ H fun o H1=>ti σ H1 fun i H2=>t o i v H2 fun H3=>Q σ H3
theorem zm0 {o i:Expr} {to ti:TE} {t:TSet} (ho:PE X o to) (hi:PE X i ti) (hs:PSet X t)
  (ha:∀v,assign (.Subscript o i pos) X.env v=(do
   let ov ← holding [v] (eval o X.env)
   let iv ← holding [v,ov] (eval i X.env)
   standAt pos
   holding [v,ov,iv] (setItem ov iv v)
   release [v,ov,iv] []):=by intro _; rfl):PG X (.Subscript o i pos) (gSub to ti t):=by
 intro pins s σ H v u Q I r h
 rw [ha]
 refine wpAny_bind (wpAny_holding (thn (ho pins s σ H _ I h) fun ov s1 ⟨x,H1,I1,r1,q1⟩=>?_))
 refine wpAny_bind (wpAny_holding (thn (hi pins s1 σ H1 _ I1 q1) fun iv s2 ⟨y,H2,I2,r2,q2⟩=>?_))
 refine wpAny_bind (wpAny_standAt (wpAny_bind (wpAny_holding (thn (hs pins s2 σ H2 x y v ov iv u _ I2 r1 r2 r q2) fun _ s3 ⟨H3,I3,q3⟩=>?_))))
 exact wpAny_release ⟨σ,H3,I3,q3⟩
def tAsg (te:TE) (g:TG):TS:=fun D σ H=>te σ H fun x H1=>g x σ H1 D.nx
theorem zi1 {tg e:Expr} {te:TE} {g:TG} (he:PE X e te) (hg:PG X tg g) (hs:swapsWithSole [tg] e pos.line X.env=pure false:=by rfl) (hw:swappedStores [tg] e X.env=pure none:=by rfl)
  (h1:(assignEach [tg] X.env).map (·.2)=[assign tg X.env]:=by rfl):PS X (.Assign [tg] e pos) (tAsg te g):=by
 intro pins s σ H D I h
 refine wpAny_Assign_stores (thn (he pins s σ H _ I h) fun v s1 ⟨x,H1,I1,r1,q1⟩=>?_) hs hw
 rw [h1]
 exact thn (hg pins s1 σ H1 x v _ I1 r1 q1) fun _ s2 q=>q
theorem zm1 {i:Nat} {x:Str} {e:Expr} {te:TE} {pos':Pos} (hN:X.N.Nodup) (hi:X.N[i]?=some x) (hx:Loc X.env.scope x) (he:PE X e te) (hs:swapsWith e (some (.Name x pos')) pos.line X.env=pure false:=by rfl) (hf:X.fn x=true∨X.env.scope.names.lookup x=some .local:=by first | exact .inl rfl | exact .inr rfl | assumption) :
  PS X (.Assign [.Name x pos'] e pos) (tAsg te (gName i)):=by
 intro pins s σ H D I h
 refine wpAny_Assign_Name (thn (he pins s σ H _ I h) fun v s1 ⟨y,H1,I1,r1,q1⟩=>?_) hs
 exact zau I1 hN hi hx r1 (fun s2 I2=>⟨_,H1,I2,q1⟩) hf
def tPar (i j:Nat) (ta:TA):TS:=fun D σ H=>ta σ H fun vs H1=>∃v w,vs=[v,w]∧D.nx ((σ.set i (some v)).set j (some w)) H1
theorem zqc {i j:Nat} {x y:Str} {a b:Expr} {ta:TA} {px py pt:Pos} {kt k2 pt2} (hc:X.calm=true) (hN:X.N.Nodup) (hi:X.N[i]?=some x) (hj:X.N[j]?=some y) (hij:i≠j)
    (hx:X.env.scope.names.lookup x=some .local) (hy:X.env.scope.names.lookup y=some .local) (ha:PA X [a,b] ta)
    (hw:swappedStores [.Tuple [.Name x px,.Name y py] kt pt] (.Tuple [a,b] k2 pt2) X.env=pure (some [x,y]))
    (hs:swapsWithSole [.Tuple [.Name x px,.Name y py] kt pt] (.Tuple [a,b] k2 pt2) pos.line X.env=pure false:=by rfl) :
    PS X (.Assign [.Tuple [.Name x px,.Name y py] kt pt] (.Tuple [a,b] k2 pt2) pos) (tPar i j ta):=by
  intro pins s σ H D I h
  rw [exec_Assign_arm]
  refine wpAny_bind (wpAny_standAt ?_)
  rw [hs]
  refine wpAny_bind (wpAny_pure ?_)
  rw [if_neg (by decide)]
  refine wpAny_bind (Tuple_ (thn (ha _ pins s σ H _ I h) fun us s1 ⟨vs,H1,I1,r1,q1⟩=>?_))
  obtain ⟨v,w,e1,q1⟩:=q1
  subst e1
  obtain ⟨u1,u2,rfl,rv,rw'⟩:∃u1 u2,us=[u1,u2]∧RelV v u1∧RelV w u2:=by
    cases r1 with
    | cons p q =>
      cases q with
      | cons p' q' =>
        cases q'
        exact ⟨_,_,rfl,p,p'⟩
  refine wpAny_newObj_type ?_ (by show 2≤sizeLine; decide)
  have I2:Inv X pins σ H1 { s1 with heap:=s1.heap.push { cls:=.type "tuple",data:=.seq [u1,u2].toArray } }:=I1.kept (t':=s1.toks) fun b o e=>Heap.get?_push_of_some _ e
  rw [hw]
  refine wpAny_bind (wpAny_pure ?_)
  show wpAny (model X.prog X.w) X.A (do rule "assign.swapped-stores"; let items ← unpackItems (.ref s1.heap.objs.size) 2 none; assignInOrder [fun v=>bindName X.env y v,fun v=>bindName X.env x v] items.reverse; pure Flow.next) _ _ _
  refine wpAny_bind (wpAny_rule (wpAny_bind (unpackItems_tuple (items:=#[u1,u2]) (I.ok.hd hc) (IsTup.new s1.heap _) fun h' hx'=>?_)))
  have I3:=I2.kept (h':=h') (t':=s1.toks) fun b o e=>hx' b o (Nat.ne_of_lt (Heap.lt_size e)) e
  show wpAny _ _ (assignInOrder [fun v=>bindName X.env y v,fun v=>bindName X.env x v] [u2,u1] >>= fun _=>pure Flow.next) _ _ _
  refine wpAny_bind (assignInOrder_cons (wpAny_bindName (zau I3 hN hj (.inl hy) rw' (fun s2 I4=>?_) (.inr hy))))
  refine assignInOrder_cons (wpAny_bindName (zau I4 hN hi (.inl hx) rv (fun s3 I5=>assignInOrder_nil (wpAny_pure ?_)) (.inr hx)))
  rw [List.set_comm _ _ (Ne.symm hij)] at I5
  exact ⟨_,H1,I5,q1⟩
def tAug (i:Nat) (te:TE) (ti:TIp):TS:=fun D σ H=>∃x,σ[i]?=some (some x)∧te σ H fun y H1=>ti x y H1 fun z H2=>D.nx (σ.set i (some z)) H2
theorem zqd {i:Nat} {x:Str} {e:Expr} {te:TE} {op:Operator} {ti:TIp} {pos':Pos} (hN:X.N.Nodup) (hi:X.N[i]?=some x) (hx:Loc X.env.scope x) (he:PE X e te) (ho:PIp X op ti) (hf:X.fn x=true∨X.env.scope.names.lookup x=some .local:=by first | exact .inl rfl | exact .inr rfl | assumption) :
  PS X (.AugAssign (.Name x pos') op e pos) (tAug i te ti):=by
 intro pins s σ H D I h
 obtain ⟨v,e1,h⟩:=h
 obtain ⟨m,hn,hl⟩:=I.loc
 have vis:Vis X.env.scope x:=by rcases hx with k | k; exact .inl k; exact .inr (.inl k)
 obtain ⟨u,r,l⟩:=hl i x v hi e1 vis
 refine wpAny_AugAssign_Name ?_
 have go:wpAny (model X.prog X.w) X.A (eval e X.env) (fun w s₂=>wpAny (model X.prog X.w) X.A (inplaceOp op u w) (fun r s₃=>wpAny (model X.prog X.w) X.A (storeName X.env x r) (fun _=>SP X pins D .next) X.xe s₃) X.xe s₂) X.xe s:=by
  refine thn (he pins s σ H _ I h) fun w s1 ⟨y,H1,I1,r1,q1⟩=>?_
  refine thn (ho pins s1 σ H1 v y u w _ I1 r r1 q1) fun z s2 ⟨zv,H2,I2,r2,q2⟩=>?_
  exact zau I2 hN hi hx r2 (fun s3 I3=>⟨_,H2,I3,q2⟩) hf
 rcases l with ⟨hk,hm⟩ | ⟨hk,c,hc,hcell⟩
 ·exact wpAny_loadName_local I.ok.kind hk hn hm go
 ·rcases hk with hk | hk
  ·exact wpAny_loadName_cell I.ok.kind hk hc hcell go
  ·rcases hx with k | k
   ·have:X.env.scope.names.lookup x=some .free:=hk
    rw [k] at this; cases this
   ·have:X.env.scope.names.lookup x=some .free:=hk
    rw [k] at this; cases this
def tAugS (to ti te:TE) (tget:V→V→Hp→VK→Prop) (tip:TIp) (tset:TSet):TS:=fun D σ H=>to σ H fun o H1=>ti σ H1 fun i H2=>tget o i H2 fun x H3=>te σ H3 fun y H4=>tip x y H4 fun z H5=>tset o i z H5 fun H6=>D.nx σ H6
def PGet (X:Cx) (t:V→V→Hp→VK→Prop):Prop :=
 ∀(pins:List (Addr×Obj)) (s:Shared) (σ:St) (H:Hp) (o i:V) (ov iv:Value) (Q:VK),Inv X pins σ H s→RelV o ov→RelV i iv→t o i H Q →
  wpAny (model X.prog X.w) X.A (getItem ov iv) (EP X pins σ Q) X.xe s
theorem znr {o i e:Expr} {to ti te:TE} {tget:V→V→Hp→VK→Prop} {tip:TIp} {tset:TSet} {op:Operator} {tpos:Pos} (ho:PE X o to) (hi:PE X i ti) (hg:PGet X tget) (he:PE X e te) (hp:PIp X op tip) (hs:PSet X tset)
  (ha:∀ov iv new,augStore i ov iv new=(do holding [new,ov,iv] (setItem ov iv new); release [new,ov,iv] []; pure .next):=by intros; rfl):PS X (.AugAssign (.Subscript o i tpos) op e pos) (tAugS to ti te tget tip tset):=by
 intro pins s σ H D I h
 refine wpAny_AugAssign_SubscriptAny (thn (ho pins s σ H _ I h) fun ov s1 ⟨x1,H1,I1,r1,q1⟩=>?_) ha
 refine thn (hi pins s1 σ H1 _ I1 q1) fun iv s2 ⟨x2,H2,I2,r2,q2⟩=>?_
 refine thn (hg pins s2 σ H2 x1 x2 ov iv _ I2 r1 r2 q2) fun old s3 ⟨x3,H3,I3,r3,q3⟩=>?_
 refine thn (he pins s3 σ H3 _ I3 q3) fun v s4 ⟨x4,H4,I4,r4,q4⟩=>?_
 refine thn (hp pins s4 σ H4 x3 x4 old v _ I4 r3 r4 q4) fun new s5 ⟨x5,H5,I5,r5,q5⟩=>?_
 exact thn (hs pins s5 σ H5 x1 x2 x5 ov iv new _ I5 r1 r2 r5 q5) fun _ s6 ⟨H6,I6,q6⟩=>⟨σ,H6,I6,q6⟩
def ipI (f:Int→Int→Int):TIp:=fun x y H Q=>∃i j,x=.int i∧y=.int j∧Q (.int (f i j)) H
theorem zm2:PIp X .Add (ipI fun i j=>i+j):=by
 intro pins s σ H x y v u Q I r1 r2 h
 obtain ⟨i,j,e1,e2,q⟩:=h
 subst e1; subst e2
 obtain ⟨t,rfl⟩:=r1
 obtain ⟨t',rfl⟩:=r2
 exact iadd_int ⟨.int _,H,I.tok _,⟨_,rfl⟩,q⟩
theorem zqe:PIp X .Sub (ipI fun i j=>i-j):=by
 intro pins s σ H x y v u Q I r1 r2 h
 obtain ⟨i,j,e1,e2,q⟩:=h
 subst e1; subst e2
 obtain ⟨t,rfl⟩:=r1
 obtain ⟨t',rfl⟩:=r2
 exact isub_int ⟨.int _,H,I.tok _,⟨_,rfl⟩,q⟩
end
section
variable {X:Cx} {pos:Pos}
def tWhile (c:TT) (tb:TS):TS:=fun D σ H=>∃W:Nat→St→Hp→Prop,(∃m,W m σ H)∧∀m σ H,W m σ H →
 c σ H fun b H1=>if b=true then ∃N:St→Hp→Prop,(∀σ' H',N σ' H'→∃m',m'<m∧W m' σ' H')∧tb { D with nx:=N,ct:=N,bk:=D.nx } σ H1 else D.nx σ H1
theorem zk9 {c:Expr} {body:List Stmt} {tc:TT} {tb:TS} (hp:PassesOwn (model X.prog X.w) X.A X.env X.xe) (hc:PT X c tc) (hb:PSs X body tb):PS X (.While c body [] pos) (tWhile tc tb):=by
 intro pins s σ H D I h
 obtain ⟨W,⟨m0,w0⟩,turn⟩:=h
 refine wpAny_While (codeAny_whileLoop (fun n s'=>∃σ' H',Inv X pins σ' H' s'∧W n σ' H') ?_ m0 ⟨σ,H,I,w0⟩)
 rintro n s1 ⟨σ1,H1,I1,w1⟩
 refine wpAny_passesOwn hp (thn (hc pins s1 σ1 H1 _ I1 (turn n σ1 H1 w1)) fun b s2 ⟨H2,I2,q2⟩=>?_)
 cases b with
 | true =>
  obtain ⟨N,hN,q2⟩:=q2
  rw [if_pos rfl]
  refine wpAny_passesOwn hp (thn (hb pins s2 σ1 H2 _ I2 q2) fun f s3 q3=>?_)
  cases f with
  | next =>
   obtain ⟨σ3,H3,I3,n3⟩:=q3
   obtain ⟨m',hm,w3⟩:=hN σ3 H3 n3
   exact ⟨m',hm,σ3,H3,I3,w3⟩
  | cont =>
   obtain ⟨σ3,H3,I3,n3⟩:=q3
   obtain ⟨m',hm,w3⟩:=hN σ3 H3 n3
   exact ⟨m',hm,σ3,H3,I3,w3⟩
  | brk=>exact q3
  | ret v=>exact q3
 | false =>
  rw [if_neg Bool.false_ne_true]
  exact wpAny_execs_nil ⟨σ1,H2,I2,q2⟩
end
structure It where
 go:Nat→Hp→Prop
 yld:Nat→Hp→V→Hp→Prop
 stop:Nat→Hp→Prop
def FpOk (X:Cx) (pins:List (Addr×Obj)) (H:Hp) (b:Addr):Prop :=
 H b=none∧b≠X.env.locals∧b∉X.fs∧(b∈X.ex∨X.s₀.heap.objs.size≤b)∧(∀x c,X.env.cells.lookup x=some c→c≠b)∧∀p∈X.pn++pins,p.1≠b
theorem Inv.fpOk {X:Cx} {pins:List (Addr×Obj)} {σ:St} {H H':Hp} {s:Shared} {b:Addr} (I:Inv X pins σ H s) (hb:s.heap.objs.size≤b) (hn:H' b=none):FpOk X pins H' b:=by
 refine ⟨hn,Nat.ne_of_gt (Nat.lt_of_lt_of_le I.lt hb),I.nofs hb,.inr (Nat.le_trans I.sz hb),fun x c e z=>?_,fun p hp z=>?_⟩
 ·obtain ⟨v,q⟩:=I.cell x c e
  exact absurd (Nat.lt_of_lt_of_le q.lt (by rw [z]; exact hb)) (Nat.lt_irrefl _)
 ·exact absurd (Nat.lt_of_lt_of_le (Heap.lt_size (I.pin p hp).1) (by rw [z]; exact hb)) (Nat.lt_irrefl _)
structure Turn (P:Program) (w:World) (K:PySem.W.Frag) (tg:Expr) (J:It) (fp:List Addr) (it:Addr) (tn:Nat→Heap→Prop):Prop where
 mem:it∈fp
 obj:∀i h,tn i h→∀b∈fp,∃o,h.get? b=some o∧∀v,o.data≠.cell v
 keep:∀i h h',tn i h→(∀b∈fp,∀o,h.get? b=some o→h'.get? b=some o)→tn i h'
 item:∀(X:Cx),X.prog=P→X.w=w→X.K=K→X.calm=true→∀(i:Nat) (pins:List (Addr×Obj)) (s:Shared) (σ:St) (H:Hp) (E:Value→Shared→Prop),Inv X pins σ H s→(∀b∈fp,FpOk X pins H b)→tn i s.heap→J.go i H →
  wpAny (model P w) X.A (pyNext (.ref it)) (fun r s1=>∃u,r=some u ∧
   wpAny (model P w) X.A (letOwnedTupleGo tg (.ref it) u) (fun _ s2=>∃x H',Inv X pins σ H' s2∧RelV x u∧J.yld i H x H'∧tn (i+1) s2.heap∧∀b∈fp,H' b=none) E s1) E s
 done:∀(X:Cx),X.prog=P→X.w=w→X.K=K→X.calm=true→∀(i:Nat) (pins:List (Addr×Obj)) (s:Shared) (σ:St) (H:Hp) (E:Value→Shared→Prop),Inv X pins σ H s→(∀b∈fp,FpOk X pins H b)→tn i s.heap→J.stop i H →
  wpAny (model P w) X.A (pyNext (.ref it)) (fun r s1=>r=none∧Inv X pins σ H s1) E s
 self:∀(A:Around) (i:Nat) (s:Shared) (Q:Value→Shared→Prop) (E:Value→Shared→Prop),tn i s.heap→Q (.ref it) s→wpAny (model P w) A (pyIter (.ref it)) Q E s
abbrev TI:=St→Hp→(It→Hp→Prop)→Prop
def PIE (X:Cx) (pins:List (Addr×Obj)) (σ:St) (tg:Expr) (R:It→Hp→Prop) (itv:Value) (s2:Shared):Prop :=
 ∃(it:Addr) (fp:List Addr) (tn:Nat→Heap→Prop) (J:It) (H':Hp),itv=.ref it∧Inv X pins σ H' s2∧Turn X.prog X.w X.K tg J fp it tn∧tn 0 s2.heap∧(∀b∈fp,FpOk X pins H' b)∧R J H'
def PI (X:Cx) (tg iter:Expr) (wi:TI):Prop :=
 ∀(pins:List (Addr×Obj)) (s:Shared) (σ:St) (H:Hp) (R:It→Hp→Prop),Inv X pins σ H s→wi σ H R →
  wpAny (model X.prog X.w) X.A (eval iter X.env) (fun v s1=>wpAny (model X.prog X.w) X.A (pyIter v) (PIE X pins σ tg R) X.xe s1) X.xe s
theorem zns {M:Model} {A:Around} {E:Value→Shared→Prop} {s:Shared} {tg:Expr} {it:Addr} {u:Value} {o:Obj} {n:String} {vs:Array Value} {Q:Unit→Shared→Prop} (ho:s.heap.get? it=some o) (hc:o.cls=.type n) (hd:o.data=.fields vs)
    (hn:["enumerate","zip","dict_itemiterator","dict_reverseitemiterator","odict_iterator","itertools.zip_longest","itertools.pairwise"].contains n=false) (hQ:Q () s):wpAny M A (letOwnedTupleGo tg (.ref it) u) Q E s:=by
  unfold letOwnedTupleGo
  cases tg <;> first
    | exact wpAny_pure hQ
    | (cases u <;> first
        | exact wpAny_pure hQ
        | (refine wpAny_bind (wpAny_load ho ?_)
           rw [hc,hd]
           show wpAny M A (if (["enumerate","zip","dict_itemiterator","dict_reverseitemiterator","odict_iterator","itertools.zip_longest","itertools.pairwise"].contains n && vs[0]? == some (rawInt _))=true then _ else _) Q E s
           rw [if_neg (by intro h; rw [hn,Bool.false_and] at h; cases h)]
           exact wpAny_pure hQ))
def Itl (K:PySem.W.Frag) (a:Addr):It :=
 ⟨fun i H=>∃xs x,SqL K H a xs∧xs[i]?=some x,fun i H x H'=>H'=H∧∀xs,SqL K H a xs→xs[i]?=some x,fun i H=>∃xs,SqL K H a xs∧xs.length≤i⟩
def Itr (lo:Int) (n:Nat):It:=⟨fun i _=>i<n,fun i H x H'=>H'=H∧x=.int (lo+i),fun i _=>n≤i⟩
theorem zi2 {P:Program} {w:World} {K:PySem.W.Frag} {tg:Expr} (a it:Addr):Turn P w K tg (Itl K a) [it] it (fun i h=>h.IsListIter it a i) where
 mem:=by simp
 obj:=fun i h st b hb=>by
  have e:b=it:=by simpa using hb
  subst e
  obtain ⟨o,e,c,d⟩:=st
  exact ⟨o,e,fun v z=>by rw [d] at z; cases z⟩
 keep:=fun i h h' st k=>st.at fun o e=>k it (by simp) o e
 item:=by
  intro X hP hw hK hc i pins s σ H E I hf st hg
  subst hP hw hK
  obtain ⟨xs,x,hq,hx⟩:=hg
  obtain ⟨its,rv,p,hz⟩:=I.list hq
  obtain ⟨u,hu,ru⟩:=rv.get hx
  obtain ⟨f0,f1,f2,f3,f4,f5⟩:=hf it (by simp)
  refine wpAny_pyNext_list_item st p.isList (x:=u) (by simpa using hu) fun h' st' sb=>?_
  have I1:Inv X pins σ H { s with heap:=h' }:=I.turned (t':=s.toks) (fun b o hb e=>(sb.2 b hb).trans e) f0 f1 f3 f4 f5
  obtain ⟨o,e,c,d⟩:=id st'
  exact ⟨u,rfl,zns (s:={ s with heap:=h' }) e c d (by decide) ⟨x,H,I1,ru,⟨rfl,fun ys hy=>by rw [I.list_inj hy hq]; exact hx⟩,st',fun b hb=>(hf b hb).1⟩⟩
 done:=by
  intro X hP hw hK hc i pins s σ H E I hf st hg
  subst hP hw hK
  obtain ⟨xs,hq,hx⟩:=hg
  obtain ⟨its,rv,p,hz⟩:=I.list hq
  obtain ⟨f0,f1,f2,f3,f4,f5⟩:=hf it (by simp)
  have hl:=rv.length
  exact wpAny_pyNext_list_end (I.ok.hd hc) st p.isList (by simp; omega) fun h' eb=>⟨rfl,I.turned (t':=s.toks) (fun b o hb e=>eb b o hb e) f0 f1 f3 f4 f5⟩
 self:=fun _ _ _ _ _ st h=>wpAny_pyIter_listiter st h
theorem zh6 {P:Program} {w:World} {K:PySem.W.Frag} {tg:Expr} (it:Addr) (lo:Int) (n:Nat):Turn P w K tg (Itr lo n) [it] it (fun i h=>IsRangeIter h it (lo+(i:Nat) * 1) ((n:Int)-(i:Nat)) 1) where
 mem:=by simp
 obj:=fun i h st b hb=>by
  have e:b=it:=by simpa using hb
  subst e
  exact ⟨_,st,fun v z=>by
   have z':Data.fields _=Data.cell v:=z
   cases z'⟩
 keep:=fun i h h' st k=>k it (by simp) _ st
 item:=by
  intro X hP hw hK hc i pins s σ H E I hf st hg
  subst hP hw hK
  obtain ⟨f0,f1,f2,f3,f4,f5⟩:=hf it (by simp)
  have W:=Walks.range (prog:=X.prog) (w:=X.w) (I.ok.hd hc) it lo 1 n
  refine W.item i s _ _ hg st fun v h' tk hv st' kk=>?_
  obtain ⟨t,rfl⟩:=hv
  have I1:Inv X pins σ H { s with heap:=h',toks:=tk }:=I.turned (fun b o hb e=>kk b o (by simpa using hb) e) f0 f1 f3 f4 f5
  refine ⟨_,rfl,zns (s:={ s with heap:=h',toks:=tk }) (n:="range_iterator") st' rfl rfl (by decide) ⟨.int (lo+i),H,I1,⟨t,?_⟩,⟨rfl,rfl⟩,st',fun b hb=>(hf b hb).1⟩⟩
  rw [Int.mul_one]
 done:=by
  intro X hP hw hK hc i pins s σ H E I hf st hg
  subst hP hw hK
  obtain ⟨f0,f1,f2,f3,f4,f5⟩:=hf it (by simp)
  exact wpAny_pyNext_range_end (I.ok.hd hc) st (by have:n≤i:=hg; omega) fun h' eb=>⟨rfl,I.turned (t':=s.toks) (fun b o hb e=>eb b o hb e) f0 f1 f3 f4 f5⟩
 self:=fun _ _ _ _ _ st h=>wpAny_pyIter_rangeiter st h
end L2
namespace L2
open PySem PySem.Spec PyProof.Rows
section
variable {X:Cx} {tg:Expr}
def iList (K:PySem.W.Frag) (tl:TE):TI:=fun σ H R=>tl σ H fun x H1=>∃a,x=.ref a∧(∃xs,SqL K H1 a xs)∧R (Itl K a) H1
theorem zi3 {l:Expr} {tl:TE} (hl:PE X l tl):PI X tg l (iList X.K tl):=by
 intro pins s σ H R I h
 refine thn (hl pins s σ H _ I h) fun v s1 ⟨x,H1,I1,r1,q1⟩=>?_
 obtain ⟨a,e,⟨xs,hq⟩,q⟩:=q1
 subst e
 cases r1
 obtain ⟨its,rv,p,hz⟩:=I1.list hq
 refine wpAny_pyIter_list p.isList ?_
 refine ⟨s1.heap.objs.size,[s1.heap.objs.size],_,_,H1,rfl,I1.kept (t':=s1.toks) fun b o e=>Heap.get?_push_of_some _ e,zi2 a _,⟨_,Heap.get?_push_size _ rfl,rfl,rfl⟩,fun b hb=>?_,q⟩
 have e:b=s1.heap.objs.size:=by simpa using hb
 subst e
 exact I1.fpOk (Nat.le_refl _) (I1.hok.fresh (Nat.le_refl _))
theorem zla {pins:List (Addr×Obj)} {σ:St} {H:Hp} {s:Shared} {R:It→Hp→Prop} {E:Value→Shared→Prop} {lo hi:Int} {t u v:Tok} {tk:Nat} (I:Inv X pins σ H s) (h1:-(2 ^ 62)≤lo) (h2:lo<2 ^ 62) (h3:-(2 ^ 62)≤hi) (h4:hi<2 ^ 62)
    (q:R (Itr lo (hi-lo).toNat) H):wpAny (model X.prog X.w) X.A (pyIter (.ref s.heap.objs.size)) (PIE X pins σ tg R) E { s with heap:=s.heap.push { cls:=.type "range",data:=.fields #[.int lo t,.int hi u,.int 1 v] },toks:=tk }:=by
  refine wpAny_pyIter_range (IsRange.new ..) (small_one h1 h2 h3 h4) ?_
  have I1:Inv X pins σ H { s with heap:=s.heap.push { cls:=.type "range",data:=.fields #[.int lo t,.int hi u,.int 1 v] },toks:=tk }:=I.kept fun b o e=>Heap.get?_push_of_some _ e
  refine ⟨(s.heap.push { cls:=.type "range",data:=.fields #[.int lo t,.int hi u,.int 1 v] }).objs.size,[(s.heap.push { cls:=.type "range",data:=.fields #[.int lo t,.int hi u,.int 1 v] }).objs.size],_,_,H,rfl,
    I1.kept (t':=tk) fun b o e=>Heap.get?_push_of_some _ e,zh6 _ lo (hi-lo).toNat,?_,fun b hb=>?_,q⟩
  · have e1:lo+((0:Nat):Int) * 1=lo:=by simp
    have e2:(((hi-lo).toNat:Nat):Int)-((0:Nat):Int)=Builtin.Range.rangeSize lo hi 1:=by rw [rangeSize_one]; split <;> omega
    show IsRangeIter _ _ (lo+((0:Nat):Int) * 1) ((((hi-lo).toNat:Nat):Int)-((0:Nat):Int)) 1
    rw [e1,e2]
    exact Heap.get?_push_size _ rfl
  · have e:b=(s.heap.push { cls:=.type "range",data:=.fields #[.int lo t,.int hi u,.int 1 v] }).objs.size:=by simpa using hb
    subst e
    exact I1.fpOk (Nat.le_refl _) (I1.hok.fresh (Nat.le_refl _))
def iRng1 (ta:TA):TI:=fun σ H R=>ta σ H fun vs H1=>∃j:Int,vs=[.int j]∧-(2 ^ 62)≤j∧j<2 ^ 62∧R (Itr 0 j.toNat) H1
theorem zi4 {a:Expr} {ta:TA} {p pos:Pos} (hg:Gl X "range") (hm:X.mg "range"=none) (ha:PA X [a] ta) (hs:starEach [a] X.env=[(false,eval a X.env)]:=by rfl):PI X tg (.Call (.Name "range" p) [a] [] pos) (iRng1 ta):=by
 intro pins s σ H R I h
 refine Call_ (zav I hg hm boot_range (PyProof.Rows.callWith_type1 (thn (ha pos pins s σ H _ I h) fun us s1 ⟨vs,H1,I1,r1,q1⟩=>?_) hs rfl))
 obtain ⟨j,e,q1,q2,q⟩:=q1
 subst e
 cases r1 with
 | cons r rr =>
  cases rr
  obtain ⟨t,rfl⟩:=r
  exact call_range_1 (zla I1 (by omega) (by omega) q1 q2 (by simpa using q))
def tFor (wi:TI) (g:TG) (tb:TS):TS:=fun D σ H=>wi σ H fun J H1=>∃W:Nat→Nat→St→Hp→Prop,(∃m,W 0 m σ H1)∧∀i m σ H,W i m σ H →
 (J.stop i H∧D.nx σ H)∨(J.go i H∧∃N:St→Hp→Prop,(∀σ' H',N σ' H'→∃m',m'<m∧W (i+1) m' σ' H')∧∀x H',J.yld i H x H'→g x σ H' fun σ2 H2=>tb { D with nx:=N,ct:=N,bk:=D.nx } σ2 H2)
def pinsAt (fp:List Addr) (h:Heap):List (Addr×Obj):=fp.filterMap fun b=>(h.get? b).map fun o=>(b,o)
theorem jb {fp:List Addr} {h:Heap} {b:Addr} {o:Obj} (hb:b∈fp) (e:h.get? b=some o):(b,o)∈pinsAt fp h:=List.mem_filterMap.mpr ⟨b,hb,by rw [e]; rfl⟩
theorem zi5 {fp:List Addr} {h:Heap} {p:Addr×Obj} (hp:p∈pinsAt fp h):p.1∈fp∧h.get? p.1=some p.2:=by
 obtain ⟨b,hb,e⟩:=List.mem_filterMap.mp hp
 cases q:h.get? b with
 | none=>rw [q] at e; cases e
 | some o =>
  rw [q] at e
  have e':(b,o)=p:=Option.some.inj e
  subst e'
  exact ⟨hb,q⟩
theorem Inv.pinned {pins:List (Addr×Obj)} {σ:St} {H:Hp} {s:Shared} {fp:List Addr} (I:Inv X pins σ H s) (hf:∀b∈fp,FpOk X pins H b) (ho:∀b∈fp,∃o,s.heap.get? b=some o∧∀v,o.data≠.cell v):Inv X (pins++pinsAt fp s.heap) σ H s :=
 I.pins_of fun p hp=>(List.mem_append.mp hp).elim (fun z=>I.pin p (List.mem_append_right _ z)) fun z=>by
  obtain ⟨hb,e⟩:=zi5 z
  obtain ⟨f0,f1,f2,_⟩:=hf p.1 hb
  obtain ⟨o,e',d⟩:=ho p.1 hb
  rw [e] at e'; cases e'
  exact ⟨e,f0,f1,f2,d⟩
theorem Inv.unpinned {pins pl:List (Addr×Obj)} {σ:St} {H:Hp} {s:Shared} (I:Inv X (pins++pl) σ H s):Inv X pins σ H s:=I.pins_of fun p hp=>I.pin p (List.mem_append_right _ (List.mem_append_left _ hp))
theorem zqf {iter:Expr} {body:List Stmt} {wi:TI} {g:TG} {tb:TS} {pos:Pos} (hp:PassesOwn (model X.prog X.w) X.A X.env X.xe) (hc:X.calm=true) (hi:PI X tg iter wi) (hg:PG X tg g) (hb:PSs X body tb)
  (hs:∀x,foldedSetIterable iter X.env x=pure x:=by intro _; rfl):PS X (.For tg iter body [] pos) (tFor wi g tb):=by
 intro pins s σ H D I h
 refine wpAny_For (thn (hi pins s σ H _ I h) fun v s1 h1=>thn h1 fun itv s2 h2=>?_) hs
 obtain ⟨it,fp,tn,J,H2,e,I2,T,st2,f2,W,⟨m0,w0⟩,turn⟩:=h2
 subst e
 have stat:∀{H':Hp},(∀b∈fp,H' b=none)→∀b∈fp,FpOk X pins H' b:=fun hn b hb=>⟨hn b hb,(f2 b hb).2⟩
 refine codeAny_forLoop_any (fun n s'=>∃i σ' H',Inv X pins σ' H' s'∧tn i s'.heap∧(∀b∈fp,H' b=none)∧W i n σ' H') ?_ m0 ⟨0,σ,H2,I2,st2,fun b hb=>(f2 b hb).1,w0⟩
 rintro n s3 ⟨i,σ3,H3,I3,st3,fr3,w3⟩
 rcases turn i n σ3 H3 w3 with ⟨stop,qn⟩ | ⟨go,N,hN,step⟩
 ·refine wpAny_passesOwn hp (thn (T.done X rfl rfl rfl hc i pins s3 σ3 H3 X.xe I3 (stat fr3) st3 stop) fun r s4 ⟨hr,I4⟩=>?_)
  subst hr
  exact wpAny_execs_nil ⟨σ3,H3,I4,qn⟩
 ·refine wpAny_passesOwn hp (thn (T.item X rfl rfl rfl hc i pins s3 σ3 H3 X.xe I3 (stat fr3) st3 go) fun r s4 ⟨u,hr,h4⟩=>?_)
  subst hr
  refine wpAny_passesOwn hp (thn h4 fun _ s5 ⟨x,H5,I5,r5,y5,st5,fr5⟩=>?_)
  have I5':=I5.pinned (stat fr5) (T.obj _ _ st5)
  refine wpAny_passesOwn hp (thn (hg _ s5 σ3 H5 x u _ I5' r5 (step x H5 y5)) fun _ s6 ⟨σ6,H6,I6,q6⟩=>?_)
  refine wpAny_passesOwn hp (thn (hb _ s6 σ6 H6 _ I6 q6) fun f s7 q7=>?_)
  have again:∀{σ7:St} {H7:Hp},Inv X (pins++pinsAt fp s5.heap) σ7 H7 s7→N σ7 H7→∃m,m<n∧∃i σ' H',Inv X pins σ' H' s7∧tn i s7.heap∧(∀b∈fp,H' b=none)∧W i m σ' H':=fun {σ7 H7} I7 n7=>by
   obtain ⟨m',hm,w7⟩:=hN σ7 H7 n7
   refine ⟨m',hm,i+1,σ7,H7,I7.unpinned,T.keep _ _ _ st5 fun b hb o e=>(I7.pin (b,o) (List.mem_append_right _ (List.mem_append_right _ (jb hb e)))).1,fun b hb=>?_,w7⟩
   obtain ⟨o,e,d⟩:=T.obj _ _ st5 b hb
   exact (I7.pin (b,o) (List.mem_append_right _ (List.mem_append_right _ (jb hb e)))).2.1
  cases f with
  | next=>obtain ⟨σ7,H7,I7,n7⟩:=q7; exact again I7 n7
  | cont=>obtain ⟨σ7,H7,I7,n7⟩:=q7; exact again I7 n7
  | brk=>obtain ⟨σ7,H7,I7,q7⟩:=q7; exact ⟨σ7,H7,I7.unpinned,q7⟩
  | ret v=>obtain ⟨x7,σ7,H7,I7,r7,q7⟩:=q7; exact ⟨x7,σ7,H7,I7.unpinned,r7,q7⟩
end
end L2
namespace L2
open PySem PySem.Spec PyProof.Rows
abbrev R2:=V→V→Hp→VK→Prop
def OpR (X:Cx) (f:Value→Value→Sem Value) (r:R2):Prop :=
 ∀(pins:List (Addr×Obj)) (s:Shared) (σ:St) (H:Hp) (x y:V) (v u:Value) (Q:VK),Inv X pins σ H s→RelV x v→RelV y u→r x y H Q →
  wpAny (model X.prog X.w) X.A (f v u) (EP X pins σ Q) X.xe s
def UnR (X:Cx) (f:Value→Sem Value) (r:V→Hp→VK→Prop):Prop :=
 ∀(pins:List (Addr×Obj)) (s:Shared) (σ:St) (H:Hp) (x:V) (v:Value) (Q:VK),Inv X pins σ H s→RelV x v→r x H Q →
  wpAny (model X.prog X.w) X.A (f v) (EP X pins σ Q) X.xe s
def CallR (X:Cx) (f:Value) (r:List V→Hp→VK→Prop):Prop :=
 ∀(pins:List (Addr×Obj)) (s:Shared) (σ:St) (H:Hp) (xs:List V) (us:List Value) (Q:VK),Inv X pins σ H s→Vals xs us→r xs H Q →
  wpAny (model X.prog X.w) X.A (call f us) (EP X pins σ Q) X.xe s
def tOp (r:R2) (ta tb:TE):TE:=fun σ H Q=>ta σ H fun x H1=>tb σ H1 fun y H2=>r x y H2 Q
def tUn (r:V→Hp→VK→Prop) (ta:TE):TE:=fun σ H Q=>ta σ H fun x H1=>r x H1 Q
def rI (C:Int→Int→Prop) (g:Int→Int→V):R2:=fun x y H Q=>∃i j,x=.int i∧y=.int j∧C i j∧Q (g i j) H
def rI0 (g:Int→Int→V):R2:=fun x y H Q=>∃i j,x=.int i∧y=.int j∧Q (g i j) H
def rU (g:Int→V):V→Hp→VK→Prop:=fun x H Q=>∃i,x=.int i∧Q (g i) H
section
variable {X:Cx} {a b c:Expr} {ta tb tc:TE} {pos:Pos}
theorem binT (ha:PE X a ta) (hb:PE X b tb) {pins:List (Addr×Obj)} {s:Shared} {σ:St} {H:Hp} {R:V→V→Hp→Prop} (I:Inv X pins σ H s)
  (h:ta σ H fun x H1=>tb σ H1 fun y H2=>R x y H2) {Q:Value→Shared→Prop} {f:Value→Value→Sem Value}
  (hf:∀v u s2 x y H2,Inv X pins σ H2 s2→RelV x v→RelV y u→R x y H2→wpAny (model X.prog X.w) X.A (f v u) Q X.xe s2) :
  wpAny (model X.prog X.w) X.A (eval a X.env) (fun v s₁=>wpAny (model X.prog X.w) X.A (eval b X.env) (fun u s₂=>wpAny (model X.prog X.w) X.A (f v u) Q X.xe s₂) X.xe s₁) X.xe s:=by
 refine thn (ha pins s σ H _ I h) fun v s1 ⟨x,H1,I1,r1,q1⟩=>?_
 refine thn (hb pins s1 σ H1 _ I1 q1) fun u s2 ⟨y,H2,I2,r2,q2⟩=>?_
 exact hf v u s2 x y H2 I2 r1 r2 q2
theorem znt {op:Operator} {r:R2} (ho:OpR X (binaryOp op) r) (ha:PE X a ta) (hb:PE X b tb):PE X (.BinOp a op b pos) (tOp r ta tb):=by
 intro pins s σ H Q I h
 exact wpAny_BinOp (binT ha hb I h fun v u s2 x y H2 I2 rx ry q=>ho pins s2 σ H2 x y v u Q I2 rx ry q)
theorem zsa {op:UnaryOp} {r:V→Hp→VK→Prop} (ho:UnR X (unaryOp op) r) (ha:PE X a ta):PE X (.UnaryOp op a pos) (tUn r ta):=by
 intro pins s σ H Q I h
 exact UnaryOp_ (thn (ha pins s σ H _ I h) fun v s1 ⟨x,H1,I1,r1,q1⟩=>ho pins s1 σ H1 x v Q I1 r1 q1)
theorem opI {f:Value→Value→Sem Value} {C:Int→Int→Prop} {g:Int→Int→Int}
  (rule:∀(i j:Int) (t u:Tok) (s:Shared) (Q:Value→Shared→Prop) (E:Value→Shared→Prop),C i j→Q (.int (g i j) s.toks) { s with toks:=s.toks+1 }→wpAny (model X.prog X.w) X.A (f (.int i t) (.int j u)) Q E s) :
  OpR X f (rI C fun i j=>.int (g i j)):=by
 intro pins s σ H x y v u Q I rx ry h
 obtain ⟨i,j,rfl,rfl,hc,q⟩:=h
 obtain ⟨t,rfl⟩:=rx
 obtain ⟨t',rfl⟩:=ry
 exact rule i j t t' s _ _ hc ⟨.int (g i j),H,I.tok _,⟨_,rfl⟩,q⟩
theorem opI0 {f:Value→Value→Sem Value} {g:Int→Int→Int}
  (rule:∀(i j:Int) (t u:Tok) (s:Shared) (Q:Value→Shared→Prop) (E:Value→Shared→Prop),Q (.int (g i j) s.toks) { s with toks:=s.toks+1 }→wpAny (model X.prog X.w) X.A (f (.int i t) (.int j u)) Q E s) :
  OpR X f (rI0 fun i j=>.int (g i j)):=by
 intro pins s σ H x y v u Q I rx ry h
 obtain ⟨i,j,rfl,rfl,q⟩:=h
 obtain ⟨t,rfl⟩:=rx
 obtain ⟨t',rfl⟩:=ry
 exact rule i j t t' s _ _ ⟨.int (g i j),H,I.tok _,⟨_,rfl⟩,q⟩
theorem opB0 {f:Value→Value→Sem Value} {g:Int→Int→Bool}
  (rule:∀(i j:Int) (t u:Tok) (s:Shared) (Q:Value→Shared→Prop) (E:Value→Shared→Prop),Q (.bool (g i j)) s→wpAny (model X.prog X.w) X.A (f (.int i t) (.int j u)) Q E s) :
  OpR X f (rI0 fun i j=>.bl (g i j)):=by
 intro pins s σ H x y v u Q I rx ry h
 obtain ⟨i,j,rfl,rfl,q⟩:=h
 obtain ⟨t,rfl⟩:=rx
 obtain ⟨t',rfl⟩:=ry
 exact rule i j t t' s _ _ ⟨.bl (g i j),H,I,rfl,q⟩
def CPow (i j:Int):Prop:=0≤j∧j≤1000000∧i.natAbs<2 ^ 64
def CMul (i j:Int):Prop:=(-(2 ^ 64)<i∧i<2 ^ 64)∨(-(2 ^ 64)<j∧j<2 ^ 64)
theorem CMul.ok {i j:Int} (h:CMul i j):IntMulOk i j:=by
 rcases h with ⟨h1,h2⟩ | ⟨h1,h2⟩
 ·exact .of_left (intBits_le_64 h1 h2)
 ·exact .of_right (intBits_le_64 h1 h2)
theorem zh7 (k:Nat):(0:Int)≤2 ^ k:=by
 rw [two_pow_cast]
 exact Int.natCast_nonneg _
theorem zqg:OpR X (binaryOp .Add) (rI0 fun i j=>.int (i+j)):=opI0 fun _ _ _ _ _ _ _ q=>add_int q
theorem zc5:OpR X (binaryOp .Sub) (rI0 fun i j=>.int (i-j)):=opI0 fun _ _ _ _ _ _ _ q=>sub_int q
theorem ym:OpR X (binaryOp .Mod) (rI (fun _ j=>j≠0) fun i j=>.int (i.fmod j)):=opI fun _ _ _ _ _ _ _ hc q=>mod_int' hc q
theorem zm3:OpR X (binaryOp .Pow) (rI CPow fun i j=>.int (i ^ j.toNat)):=opI fun _ _ _ _ _ _ _ hc q=>pow_int_small hc.1 hc.2.1 hc.2.2 q
theorem zqh:OpR X (binaryOp .LShift) (rI CPow fun i j=>.int (i * 2 ^ j.toNat)):=opI fun _ _ _ _ _ _ _ hc q=>lshift_int_small hc.1 hc.2.1 hc.2.2 q
theorem zm4:OpR X (binaryOp .RShift) (rI (fun _ j=>0≤j) fun i j=>.int (i / 2 ^ j.toNat)):=opI fun i j _ _ _ _ _ hc q =>
 rshift_int hc (by rw [Int.fdiv_eq_ediv_of_nonneg i (zh7 _)]; exact q)
theorem unI {f:Value→Sem Value} {g:Int→Int}
  (rule:∀(i:Int) (t:Tok) (s:Shared) (Q:Value→Shared→Prop) (E:Value→Shared→Prop),Q (.int (g i) s.toks) { s with toks:=s.toks+1 }→wpAny (model X.prog X.w) X.A (f (.int i t)) Q E s) :
  UnR X f (rU fun i=>.int (g i)):=by
 intro pins s σ H x v Q I rx h
 obtain ⟨i,rfl,q⟩:=h
 obtain ⟨t,rfl⟩:=rx
 exact rule i t s _ _ ⟨.int (g i),H,I.tok _,⟨_,rfl⟩,q⟩
theorem zqi:UnR X (unaryOp .USub) (rU fun i=>.int (-i)):=unI fun _ _ _ _ _ q=>neg_int q
end
section
variable {X:Cx} {a b c:Expr} {ta tb tc:TE} {pos:Pos}
theorem zm5 {pins:List (Addr×Obj)} {σ:St} {H:Hp} {s:Shared} {Q:VK} {k k':Bool} (I:Inv X pins σ H s) (q:Q (.bl k) H) (e:k=k'):EP X pins σ Q (.bool k') s:=by
 subst e
 exact ⟨.bl k,H,I,rfl,q⟩
theorem zdo:OpR X (compareOp .Lt) (rI0 fun i j=>.bl (decide (i<j))):=opB0 fun _ _ _ _ _ _ _ q=>lt_int q
theorem zsb:OpR X (compareOp .LtE) (rI0 fun i j=>.bl (decide (i≤j))):=opB0 fun _ _ _ _ _ _ _ q=>le_int q
theorem zer:OpR X (compareOp .Gt) (rI0 fun i j=>.bl (decide (j<i))):=opB0 fun _ _ _ _ _ _ _ q=>gt_int q
theorem znu:OpR X (compareOp .GtE) (rI0 fun i j=>.bl (decide (j≤i))):=opB0 fun _ _ _ _ _ _ _ q=>ge_int q
theorem zqj:OpR X (compareOp .Is) (fun x y H Q=>y=.non∧Q (.bl (decide (x=.non))) H):=by
 intro pins s σ H x y v u Q I rx ry h
 obtain ⟨rfl,q⟩:=h
 cases ry
 refine is_none_gen (zm5 I q ?_)
 cases x <;> first
  | (cases rx; rfl)
  | (obtain ⟨t,rfl⟩:=rx; rfl)
theorem OpR.or {f:Value→Value→Sem Value} {r r':R2} (h:OpR X f r) (h':OpR X f r'):OpR X f (fun x y H Q=>r x y H Q∨r' x y H Q):=by
 intro pins s σ H x y v u Q I rx ry q
 rcases q with q | q
 ·exact h pins s σ H x y v u Q I rx ry q
 ·exact h' pins s σ H x y v u Q I rx ry q
theorem nomark (b:Expr) {op:CmpOp} (h:op≠.In:=by decide) (h2:op≠.NotIn:=by decide):behindInMarks op b=false:=by
 have e1:(op == CmpOp.In)=false:=by cases op <;> first | rfl | exact absurd rfl h
 have e2:(op == CmpOp.NotIn)=false:=by cases op <;> first | rfl | exact absurd rfl h2
 cases b <;> simp [behindInMarks,e1,e2]
theorem znv {op:CmpOp} {r:R2} (ho:OpR X (compareOp op) r) (ha:PE X a ta) (hb:PE X b tb) (hm:behindInMarks op b=false):PE X (.Compare a [op] [b] pos) (tOp r ta tb):=by
 intro pins s σ H Q I h
 exact wpAny_Compare1 (binT ha hb I h fun v u s2 x y H2 I2 rx ry q=>ho pins s2 σ H2 x y v u Q I2 rx ry q) hm
def tTest (t:TE):TT:=fun σ H Q=>t σ H fun x H'=>∃k,x=.bl k∧Q k H'
theorem znw {op:CmpOp} {r:R2} (ho:OpR X (compareOp op) r) (ha:PE X a ta) (hb:PE X b tb) (hm:behindInMarks op b=false):PT X (.Compare a [op] [b] pos) (tTest (tOp r ta tb)):=by
 intro pins s σ H Q I h
 refine wpAny_isTrue_Compare1 (thn (ha pins s σ H _ I h) fun v s1 ⟨x,H1,I1,r1,q1⟩=>thn (hb pins s1 σ H1 _ I1 q1) fun u s2 ⟨y,H2,I2,r2,q2⟩ =>
  thn (ho pins s2 σ H2 x y v u _ I2 r1 r2 q2) fun c s3 ⟨z,H3,I3,r3,k,e,q3⟩=>?_) hm
 subst e
 cases r3
 exact wpAny_truthy_bool ⟨H3,I3,q3⟩
theorem line63:(sizeLine:Nat)<2 ^ 63:=by rw [sizeLine_eq]; decide
theorem zh8:OpR X (binaryOp .Add) (fun x y H Q=>∃i j,x=.str i∧y=.str j∧i.length+j.length≤sizeLine∧Q (.str (i++j)) H):=by
 intro pins s σ H x y v u Q I rx ry h
 obtain ⟨i,j,rfl,rfl,hz,q⟩:=h
 obtain ⟨t,rfl⟩:=rx
 obtain ⟨t',rfl⟩:=ry
 exact add_str (fun t' tk=>⟨.str (i++j),H,I.tok _,⟨_,rfl⟩,q⟩) hz
theorem vals1 {x:V} {us:List Value} (r:Vals [x] us):∃u,us=[u]∧RelV x u:=by
 cases r with
 | cons r1 r2=>cases r2; exact ⟨_,rfl,r1⟩
theorem vals2 {x y:V} {us:List Value} (r:Vals [x,y] us):∃u w',us=[u,w']∧RelV x u∧RelV y w':=by
 cases r with
 | cons r1 r2 =>
  cases r2 with
  | cons r3 r4=>cases r4; exact ⟨_,_,rfl,r1,r3⟩
theorem zdp:CallR X (.builtin "abs") (fun xs H Q=>∃i,xs=[.int i]∧Q (.int (if i<0 then -i else i)) H):=by
 intro pins s σ H xs us Q I r h
 obtain ⟨i,rfl,q⟩:=h
 obtain ⟨u,rfl,t,rfl⟩:=vals1 r
 exact call_abs_int fun u tk=>⟨.int (if i<0 then -i else i),H,I.tok _,⟨_,rfl⟩,q⟩
theorem zi6 (hc:X.calm=true):CallR X (.builtin "max") (fun xs H Q=>∃i j,xs=[.int i,.int j]∧Q (.int (if j > i then j else i)) H):=by
 intro pins s σ H xs us Q I r h
 obtain ⟨i,j,rfl,q⟩:=h
 obtain ⟨u,w',rfl,⟨t,rfl⟩,⟨t',rfl⟩⟩:=vals2 r
 refine max_two_ints (I.ok.hd hc) fun h' tk k=>⟨_,H,I.kept k,?_,q⟩
 by_cases hj:j > i
 ·rw [if_pos hj,if_pos hj]; exact ⟨_,rfl⟩
 ·rw [if_neg hj,if_neg hj]; exact ⟨_,rfl⟩
theorem zes:CallR X (.type "str") (fun xs H Q=>∃i,xs=[.int i]∧i.natAbs.log2<1920∧Q (.str (toString i)) H):=by
 intro pins s σ H xs us Q I r h
 obtain ⟨i,rfl,hz,q⟩:=h
 obtain ⟨u,rfl,t,rfl⟩:=vals1 r
 exact PySem.P.str_of_int hz ⟨.str _,H,I.tok _,⟨_,rfl⟩,q⟩
end
end L2
namespace L2
open PySem PySem.Spec PyProof.Rows
structure ObjM (h:Heap) (x dx C:Addr) (mA:Str→Option Value):Prop where
 obj:h.get? x=some (PySem.W.instObj C dx)
 ns:h.Ns1 dx mA
 ne:dx≠x
theorem zi7 {h:Heap} {dx:Addr} {mA:Str→Option Value} (n:h.Ns1 dx mA):∃od,h.get? dx=some od∧∀name,PySem.W.lookIn name od=some (mA name):=by
 obtain ⟨o,es,ep,ho,hd,hk,_,hm⟩:=n
 refine ⟨o,ho,fun name=>?_⟩
 have e:=hm name
 unfold nsFind findBy at e
 rw [← Array.find?_toList] at e
 unfold PySem.W.lookIn
 rw [hd]
 dsimp only
 split
 ·rename_i y q
  rw [q] at e
  exact congrArg some e
 ·rename_i q
  rw [q] at e
  have a:es.toList.any (·.refKey)=false:=by
   rw [List.any_eq_false]
   intro y hy
   obtain ⟨z,t,hkey⟩:=hk y (Array.mem_toList_iff.mp hy)
   simp [DictEntry.refKey,hkey]
  have a':¬es.toList.any (·.refKey)=true:=by rw [a]; exact Bool.false_ne_true
  rw [if_neg a']
  exact congrArg some e
theorem ObjM.look {h:Heap} {x dx C:Addr} {mA:Str→Option Value} (I:ObjM h x dx C mA):∃od,PySem.W.InstAt h x (PySem.W.instObj C dx) C (some od)∧∀name,PySem.W.lookIn name od=some (mA name) :=
 let ⟨od,ho,hl⟩:=zi7 I.ns
 ⟨od,⟨I.obj,rfl,rfl,ho⟩,hl⟩
section
variable {prog:Program} {w:World} {A:Around} {E:Value→Shared→Prop} {s:Shared} {K:PySem.W.Frag} {x dx C f:Addr} {mA:Str→Option Value} {name:Str} {v:Value}
theorem znx {expr:Bool} {Q:Value→Shared→Prop} (X:K.In s.heap) (I:ObjM s.heap x dx C mA) (hg:PySem.W.plainGet K C name=true) (hh:PySem.W.hasDictIn K C=true)
  (ha:PySem.W.findIn K (.ref C) name=some none) (hv:mA name=some v) (hv':PySem.W.handedIn v=true) (h:Q v { s with toks:=s.toks+1 }) :
  wpAny (model prog w) A (getAttr (.ref x) name expr) Q E s:=by
 obtain ⟨od,J,hl⟩:=I.look
 exact PySem.W.get_value X J (PySem.W.plainGet_of hg).1 (PySem.W.findObj_own hh ha rfl (by rw [hl,hv])) hv' h
theorem zny {ns:List Str} {Q:Unit→Shared→Prop} (X:K.In s.heap) (I:ObjM s.heap x dx C mA)
  (hs:PySem.W.findIn K (.ref C) "__setattr__"=some (some (.builtin "object.__setattr__"))) (hp:PySem.W.plainOver K C=true) (ht:PySem.W.takerIn K C name=some none) (hh:PySem.W.hasDictIn K C=true)
  (hw:PySem.Within mA ns) (hsz:ns.length≤sizeLine)
  (h:∀h',ObjM h' x dx C (fun y=>if y=name then some v else mA y)→Heap.SameBut dx s.heap h'→Q () { s with heap:=h',toks:=s.toks+2 }) :
  wpAny (model prog w) A (setAttr (.ref x) name v) Q E s:=by
 obtain ⟨od,J,hl⟩:=I.look
 refine PySem.W.set_plain X J hs (PySem.W.osa_open (s:={ s with toks:=s.toks+1 }) (r:=none) X J hp ht fun b=>?_)
 obtain ⟨cd,hc,hd'⟩:=PySem.W.any_some hh
 have hx:s.heap.get? x=some ⟨.ref C,some dx,.plain,#[]⟩:=I.obj
 refine wpAny_bind (wpAny_pure (wpAny_bind (wpAny_bind (wpAny_loadPart hx (wpAny_bind (PySem.W.Looks.here (s:={ s with toks:=s.toks+1 }) (PySem.W.looks_clsIn X hc) ?_))))))
 rw [hd']
 refine wpAny_pure (a:=some dx) (wpAny_bind (wpAny_pure (wpAny_bind ?_)))
 refine wpAny_nsSet1 (s:={ s with toks:=s.toks+1 }) I.ns fun h' hn2 hs2=>?_
 obtain ⟨oD,esD,epD,hoD,hdD,hcD⟩:=hn2.count (PySem.Within.cons name v hw)
 refine wpAny_bind (wpAny_lookBehind hoD (by rw [hdD]; exact pastItsLine_dict (Nat.le_trans hcD (by rw [List.length_cons]; omega))) ?_)
 exact wpAny_pure (h _ ⟨(hs2.2 _ (Ne.symm I.ne)).trans I.obj,hn2,I.ne⟩ hs2)
theorem zlb {R:Result→Shared→Prop} {vs:List Value} {kw:List (Str×Value)} (X:K.In s.heap) (hm:PySem.W.makesIn K C=true)
  (hi:PySem.W.findIn K (.ref C) "__init__"=some (some (.ref f))) (hf:PySem.W.typeIn K (.ref f)=some (.type "function"))
  (h:codeAny (model prog w) (A.under (.builtin "type.__call__" ⟨.ref C::vs,kw⟩)) (.call (.ref f) ⟨.ref (s.heap.objs.size+1)::vs,kw⟩) (PySem.W.InitBack (s.heap.objs.size+1) R)
   { s with heap:=(s.heap.push PySem.W.emptyDict).push (PySem.W.instObj C s.heap.objs.size) }) :
  codeAny (model prog w) A (.call (.ref C) ⟨vs,kw⟩) R s:=by
 obtain ⟨hh,g,d,t,os⟩:=s
 exact PySem.W.make_core (PySem.W.makes_of X hm) (PySem.W.looks_findIn X hi) (fun self=>PySem.W.bind_fn X self hf) (.inl rfl) h
end
def putF (f:Str) (v:V):List (Str×V)→List (Str×V)
 | []=>[(f,v)]
 | (g,x)::r=>if g=f then (g,v)::r else (g,x)::putF f v r
theorem zb4 (f g:Str) (v:V):∀fs:List (Str×V),(putF f v fs).lookup g=if g=f then some v else fs.lookup g
 | []=>by
  show List.lookup g [(f,v)]=_
  by_cases h:g=f
  ·have hb:(g == f)=true:=beq_iff_eq.mpr h
   simp only [List.lookup,hb,if_pos h]
  ·have hb:(g == f)=false:=beq_eq_false_iff_ne.mpr h
   simp only [List.lookup,hb,if_neg h]
 | (k,x)::r=>by
  have ih:=zb4 f g v r
  rw [show putF f v ((k,x)::r)=(if k=f then (k,v)::r else (k,x)::putF f v r) from rfl]
  by_cases hk:k=f
  ·rw [if_pos hk]
   by_cases h:g=k
   ·have hb:(g == k)=true:=beq_iff_eq.mpr h
    simp only [List.lookup,hb,if_pos (h.trans hk)]
   ·have hb:(g == k)=false:=beq_eq_false_iff_ne.mpr h
    simp only [List.lookup,hb,if_neg (fun e:g=f=>h (e.trans hk.symm))]
  ·rw [if_neg hk]
   by_cases h:g=k
   ·have hb:(g == k)=true:=beq_iff_eq.mpr h
    simp only [List.lookup,hb,if_neg (fun e:g=f=>hk (h.symm.trans e))]
   ·have hb:(g == k)=false:=beq_eq_false_iff_ne.mpr h
    simp only [List.lookup,hb]
    exact ih
theorem zb5 (f:Str) (v:V):∀fs:List (Str×V),f∈(putF f v fs).map (·.1)∧∀g,g∈fs.map (·.1)→g∈(putF f v fs).map (·.1)
 | []=>⟨by simp [putF],fun g h=>by simp at h⟩
 | (k,x)::r=>by
  obtain ⟨i1,i2⟩:=zb5 f v r
  rw [show putF f v ((k,x)::r)=(if k=f then (k,v)::r else (k,x)::putF f v r) from rfl]
  by_cases hk:k=f
  ·rw [if_pos hk]
   subst hk
   exact ⟨by simp,fun g h=>by simpa using h⟩
  ·rw [if_neg hk]
   refine ⟨?_,fun g h=>?_⟩
   ·rw [List.map_cons]
    exact List.mem_cons_of_mem _ i1
   ·rw [List.map_cons] at h ⊢
    rcases List.mem_cons.mp h with e | e
    ·exact List.mem_cons.mpr (.inl e)
    ·exact List.mem_cons_of_mem _ (i2 g e)
theorem zb6 (f:Str) (v:V):∀fs:List (Str×V),(putF f v fs).length≤fs.length+1
 | []=>by simp [putF]
 | (k,x)::r=>by
  have ih:=zb6 f v r
  rw [show putF f v ((k,x)::r)=(if k=f then (k,v)::r else (k,x)::putF f v r) from rfl]
  by_cases hk:k=f
  ·rw [if_pos hk,List.length_cons,List.length_cons]; omega
  ·rw [if_neg hk,List.length_cons,List.length_cons]; omega
theorem RelO.some_of {v:V} {o:Option Value} (r:RelO (some v) o):∃u,o=some u∧RelV v u:=by
 cases o with
 | none=>exact (show False from r).elim
 | some u=>exact ⟨u,rfl,r⟩
theorem zi8 {v:V} {u:Value} (r:RelV v u):PySem.W.handedIn u=true:=by
 cases v with
 | non=>cases (show u=Value.none from r); rfl
 | bl b=>cases (show u=Value.bool b from r); rfl
 | int i=>obtain ⟨t,e⟩:=(show ∃t,u=Value.int i t from r); cases e; rfl
 | str x=>obtain ⟨t,e⟩:=(show ∃t,u=Value.str x t from r); cases e; rfl
 | byt b=>obtain ⟨t,e⟩:=(show ∃t,u=Value.bytes b t from r); cases e; rfl
 | flt b=>obtain ⟨t,e⟩:=(show ∃t,u=Value.float b t from r); cases e; rfl
 | ref a=>cases (show u=Value.ref a from r); rfl
 | ty n=>cases (show u=Value.type n from r); rfl
section
variable {P:Program} {w:World} {H H':Hp} {h h':Heap} {a C dx:Addr} {fs fs':List (Str×V)}
theorem zf9 (hok:HOk P w H h) (e:H a=some (.ins C dx fs)):∃mA,ObjM h a dx C mA∧(∀f,RelO (fs.lookup f) (mA f))∧PySem.Within mA (fs.map (·.1))∧fs.length≤1000∧H dx=some (.own a):=by
 obtain ⟨d,z,ne,ob,mA,n,r,q⟩:=(show ObjOk P w H h a (.ins C dx fs) from hok a _ e)
 exact ⟨mA,⟨ob,n,ne⟩,r,q,z,d⟩
end
structure Cls (K:PySem.W.Frag) (C:Addr):Prop where
 pg:PySem.W.plainGet K C Str.empty=true
 hd:PySem.W.hasDictIn K C=true
 po:PySem.W.plainOver K C=true
 sa:PySem.W.findIn K (.ref C) "__setattr__"=some (some (.builtin "object.__setattr__"))
theorem Cls.get {K:PySem.W.Frag} {C:Addr} (c:Cls K C) (f:Str):PySem.W.plainGet K C f=true:=c.pg
def NoAttr (K:PySem.W.Frag) (C:Addr) (f:Str):Prop:=PySem.W.findIn K (.ref C) f=some none
theorem NoAttr.taker {K:PySem.W.Frag} {C:Addr} {f:Str} (n:NoAttr K C f):PySem.W.takerIn K C f=some none:=by
 unfold PySem.W.takerIn
 rw [show PySem.W.findIn K (.ref C) f=some none from n]
 rfl
structure Meth (K:PySem.W.Frag) (C:Addr) (m:Str) (f:Addr):Prop where
 at_:PySem.W.findIn K (.ref C) m=some (some (.ref f))
 fn:PySem.W.isFn K (.ref f)=true
 kp:PySem.W.keepIn K (.ref f)=true
section
variable {X:Cx} {pins:List (Addr×Obj)} {σ:St} {H:Hp} {s:Shared} {a C dx:Addr} {fs:List (Str×V)} {f:Str} {v:V} {A:Around} {E:Value→Shared→Prop}
theorem zh9 {b:Bool} {Q:Value→Shared→Prop} (I:Inv X pins σ H s) (e:H a=some (.ins C dx fs)) (c:Cls X.K C) (n:NoAttr X.K C f) (l:fs.lookup f=some v)
  (h:∀u s',Inv X pins σ H s'→RelV v u→Q u s'):wpAny (model X.prog X.w) A (getAttr (.ref a) f b) Q E s:=by
 obtain ⟨mA,O,r,_,_,_⟩:=zf9 I.hok e
 obtain ⟨u,hu,ru⟩:=RelO.some_of (v:=v) (o:=mA f) (by rw [← l]; exact r f)
 exact znx I.kIn O (c.get f) c.hd n hu (zi8 ru) (h u _ (I.tok _) ru)
theorem zia {y:V} {u:Value} {Q:Unit→Shared→Prop} (I:Inv X pins σ H s) (e:H a=some (.ins C dx fs)) (c:Cls X.K C) (n:NoAttr X.K C f) (hl:fs.length<1000) (ry:RelV y u)
  (h:∀s',Inv X pins σ (upd H a (.ins C dx (putF f y fs))) s'→Q () s'):wpAny (model X.prog X.w) A (setAttr (.ref a) f u) Q E s:=by
 obtain ⟨mA,O,r,wi,_,ho⟩:=zf9 I.hok e
 have hz:(fs.map (·.1)).length≤sizeLine:=by rw [List.length_map,sizeLine_eq]; omega
 refine zny I.kIn O c.sa c.po n.taker c.hd wi hz fun h' O' sb=>h _ ?_
 have hd:∃o,h'.get? dx=some o:=let ⟨o,_,_,e',_⟩:=O'.ns; ⟨o,e'⟩
 refine I.write (x:=a) (e:=dx) (by rw [e]; exact True.intro) (.inr ho) (fun b q hb z=>(sb.2 b hb).trans z) hd ?_
 refine ⟨by rw [yh O.ne]; exact ho,?_,O.ne,O'.obj,_,O'.ns,fun g=>?_,fun g hg=>?_⟩
 ·have:=zb6 f y fs; omega
 ·show RelO ((putF f y fs).lookup g) (if g=f then some u else mA g)
  rw [zb4]
  by_cases q:g=f
  ·rw [if_pos q,if_pos q]; exact ry
  ·rw [if_neg q,if_neg q]; exact r g
 ·by_cases q:g=f
  ·rw [q]; exact (zb5 f y fs).1
  ·refine (zb5 f y fs).2 g (wi g fun z=>hg ?_)
   show (if g=f then some u else mA g)=none
   rw [if_neg q]; exact z
theorem Inv.made (I:Inv X pins σ H s):Inv X pins σ (upd (upd H s.heap.objs.size (.own (s.heap.objs.size+1))) (s.heap.objs.size+1) (.ins C s.heap.objs.size []))
  { s with heap:=(s.heap.push PySem.W.emptyDict).push (PySem.W.instObj C s.heap.objs.size) }:=by
 have e1:(s.heap.push PySem.W.emptyDict).get? s.heap.objs.size=some PySem.W.emptyDict:=Heap.get?_push_size s.heap rfl
 have e2:((s.heap.push PySem.W.emptyDict).push (PySem.W.instObj C s.heap.objs.size)).get? (s.heap.objs.size+1)=some (PySem.W.instObj C s.heap.objs.size):=by
  have:=Heap.get?_push_size (s.heap.push PySem.W.emptyDict) (o:=PySem.W.instObj C s.heap.objs.size) rfl
  rwa [Heap.size_push] at this
 have e3:(s.heap.push PySem.W.emptyDict).Ns s.heap.objs.size (fun _=>none):=⟨PySem.W.emptyDict,#[],_,e1,rfl,(fun e he=>absurd he (by simp)),fun _=>rfl⟩
 have I1:=I.laid (a:=s.heap.objs.size) (o:=.own (s.heap.objs.size+1)) (h':=s.heap.push PySem.W.emptyDict) (t':=s.toks) (fun b u q=>Heap.get?_push_of_some _ q) (Nat.le_refl _) ⟨_,e1⟩
 refine I1.laid (a:=s.heap.objs.size+1) (o:=.ins C s.heap.objs.size []) (t':=s.toks) (fun b u q=>Heap.get?_push_of_some _ q) (Nat.le_of_eq (Heap.size_push _ _)) ?_
 have ne:s.heap.objs.size≠s.heap.objs.size+1:=Nat.ne_of_lt (Nat.lt_succ_self _)
 refine ⟨by rw [yh ne,yo],Nat.zero_le _,ne,e2,fun _=>none,(Heap.Ns1.of_empty e3).at fun o q=>Heap.get?_push_of_some _ q,fun _=>True.intro,fun y hy=>absurd rfl hy⟩
theorem znz {prog:Program} {w:World} {env:Env} {e:Expr} {f:Str} {pos:Pos} {s:Shared} {Q:Value→Shared→Prop} (hb:attributeBase e f env (eval e env)=eval e env)
  (h:wpAny (model prog w) A (eval e env) (fun o s₁=>wpAny (model prog w) A (getAttr o f true) Q E s₁) E s):wpAny (model prog w) A (eval (.Attribute e f pos) env) Q E s :=
 Attribute_any_ h (by rw [arm_eval_Attribute,hb])
end
def tFld (K:PySem.W.Frag) (ta:TE) (f:Str):TE:=fun σ H Q=>ta σ H fun x H1=>∃a C dx fs v,x=.ref a∧H1 a=some (.ins C dx fs)∧Cls K C∧NoAttr K C f∧fs.lookup f=some v∧Q v H1
def sFld (K:PySem.W.Frag) (ta tv:TE) (f:Str):TS:=fun D σ H=>tv σ H fun y H1=>ta σ H1 fun x H2=>∃a C dx fs,x=.ref a∧H2 a=some (.ins C dx fs)∧Cls K C∧NoAttr K C f∧fs.length<1000 ∧
 D.nx σ (upd H2 a (.ins C dx (putF f y fs)))
section
variable {X:Cx} {o e value:Expr} {f:Str} {pos pos' tpos:Pos} {ta tv:TE}
theorem zqk (he:PE X e ta) (hb:attributeBase e f X.env (eval e X.env)=eval e X.env):PE X (.Attribute e f pos) (tFld X.K ta f):=by
 intro pins s σ H Q I h
 refine znz hb (thn (he pins s σ H _ I h) fun u s1 ⟨x,H1,I1,rx,a,C,dx,fs,v,ex,ea,c,n,l,q⟩=>?_)
 subst ex
 obtain rfl:u=Value.ref a:=rx
 exact zh9 I1 ea c n l fun u' s2 I2 ru=>⟨v,H1,I2,ru,q⟩
theorem zql (ha:PE X o ta) (hv:PE X value tv) (hs:swapsWith value (some (.Attribute o f pos')) pos.line X.env=pure false):PS X (.Assign [.Attribute o f pos'] value pos) (sFld X.K ta tv f):=by
 intro pins s σ H D I h
 refine plainObj_wpAny_Assign_Attribute (thn (hv pins s σ H _ I h) fun u s1 ⟨y,H1,I1,ry,q⟩=>thn (ha pins s1 σ H1 _ I1 q) fun ov s2 ⟨x,H2,I2,rx,a,C,dx,fs,ex,ea,c,n,l,q2⟩=>?_) hs
 subst ex
 obtain rfl:ov=Value.ref a:=rx
 exact zia I2 ea c n l ry fun s3 I3=>⟨σ,_,I3,q2⟩
def rAdd:V→V→Hp→VK→Prop:=fun x y H Q=>∃i j,x=.int i∧y=.int j∧Q (.int (i+j)) H
end
section
variable {X:Cx} {pins:List (Addr×Obj)} {σ:St} {H:Hp} {s:Shared} {A:Around} {E:Value→Shared→Prop} {Q:Value→Shared→Prop} {c:Value} {b:Bool}
inductive TyOf (K:PySem.W.Frag) (H:Hp):V→Value→Prop where
 | non:TyOf K H .non (.type "NoneType")
 | bl (x:Bool):TyOf K H (.bl x) (.type "bool")
 | int (i:Int):TyOf K H (.int i) (.type "int")
 | str (x:Str):TyOf K H (.str x) (.type "str")
 | flt (x:UInt64):TyOf K H (.flt x) (.type "float")
 | lst {a:Addr} {xs:List V} (e:H a=some (.lst xs)):TyOf K H (.ref a) (.type "list")
 | frz {a:Addr} {o:Obj} {xs:List V} (e:H a=some (.frz o (.lst xs))):TyOf K H (.ref a) (.type "list")
 | tup {a:Addr} {xs:List V} (e:H a=some (.tup xs)):TyOf K H (.ref a) (.type "tuple")
 | dK {a:Addr} {kvs:List (Key×V)} (e:H a=some (.dK kvs)):TyOf K H (.ref a) (.type "dict")
 | dT {a:Addr} {kvs:List (List Key×V)} (e:H a=some (.dT kvs)):TyOf K H (.ref a) (.type "dict")
 | ins {a C dx:Addr} {fs:List (Str×V)} (e:H a=some (.ins C dx fs)) (cl:Cls K C) (ha:PySem.W.findIn K (.ref C) "__class__"=some (some (.builtin "object.__class__")))
   (hn:PySem.W.specialIn K (.builtin "object.__class__") "__get__"=some (some (.builtin "getset_descriptor.__get__"))) (htk:PySem.W.takesIn K (.builtin "object.__class__")=some true)
   (hm:PySem.W.mroIn K C (.type "object")=some true):TyOf K H (.ref a) (.ref C)
theorem zet {x:V} {u t:Value} (I:Inv X pins σ H s) (rx:RelV x u) (ty:TyOf X.K H x t) (e:PySem.W.kitOne X.K t c=some b) (h:∀tk,Q (.bool b) { s with toks:=tk }) :
  wpAny (model X.prog X.w) A (call (.builtin "isinstance") [u,c]) Q E s:=by
 cases ty with
 | non=>cases (show u=Value.none from rx); exact PySem.W.kia_one PySem.W.kitx_none I.kIn True.intro e (fun z=>nomatch z) h
 | bl y=>cases (show u=Value.bool y from rx); exact PySem.W.kia_one PySem.W.kitx_bool I.kIn True.intro e (fun z=>nomatch z) h
 | int i=>obtain ⟨t,q⟩:=(show ∃t,u=Value.int i t from rx); cases q; exact PySem.W.kia_one PySem.W.kitx_int I.kIn True.intro e (fun z=>nomatch z) h
 | str y=>obtain ⟨t,q⟩:=(show ∃t,u=Value.str y t from rx); cases q; exact PySem.W.kia_one PySem.W.kitx_str I.kIn True.intro e (fun z=>nomatch z) h
 | flt y=>obtain ⟨t,q⟩:=(show ∃t,u=Value.float y t from rx); cases q; exact PySem.W.kia_one PySem.W.kitx_float I.kIn True.intro e (fun z=>nomatch z) h
 | @lst a xs ea =>
  cases (show u=Value.ref a from rx)
  obtain ⟨_,_,n,_,h1⟩:=(show ObjOk X.prog X.w H s.heap a (.lst xs) from I.hok a _ ea)
  exact PySem.W.kia_one PySem.W.kitx_list I.kIn ⟨_,h1,rfl⟩ e (fun z=>nomatch z) h
 | @frz a ob xs ea =>
  cases (show u=Value.ref a from rx)
  obtain ⟨_,_,_,n,_,h1⟩:=(show ObjOk X.prog X.w H s.heap a (.frz ob (.lst xs)) from I.hok a _ ea)
  exact PySem.W.kia_one PySem.W.kitx_list I.kIn ⟨_,h1,rfl⟩ e (fun z=>nomatch z) h
 | @tup a xs ea =>
  cases (show u=Value.ref a from rx)
  obtain ⟨_,_,_,p⟩:=(show ObjOk X.prog X.w H s.heap a (.tup xs) from I.hok a _ ea)
  obtain ⟨o,h1,h2,_⟩:=p
  exact PySem.W.kia_one PySem.W.kitx_tuple I.kIn ⟨o,h1,h2⟩ e (fun z=>nomatch z) h
 | @dK a kvs ea =>
  cases (show u=Value.ref a from rx)
  obtain ⟨_,_,vs,_,p⟩:=(show ObjOk X.prog X.w H s.heap a (.dK kvs) from I.hok a _ ea)
  obtain ⟨o,es,ep,h1,h2,_⟩:=p
  exact PySem.W.kia_one PySem.W.kitx_dict I.kIn ⟨o,h1,h2.1⟩ e (fun z=>nomatch z) h
 | @dT a kvs ea =>
  cases (show u=Value.ref a from rx)
  obtain ⟨_,_,xs,_,o,es,ep,h1,h2,_⟩:=(show ObjOk X.prog X.w H s.heap a (.dT kvs) from I.hok a _ ea)
  exact PySem.W.kia_one PySem.W.kitx_dict I.kIn ⟨o,h1,h2.1⟩ e (fun z=>nomatch z) h
 | @ins a C dx fs ea cl ha hn htk hm =>
  cases (show u=Value.ref a from rx)
  obtain ⟨mA,O,_⟩:=zf9 I.hok ea
  obtain ⟨od,J,_⟩:=O.look
  exact PySem.W.kia_one (PySem.W.kitx_own (cl.get _) cl.hd ha hn htk hm) I.kIn J e (fun z=>nomatch z) h
end
end L2
namespace L2
open PySem PySem.Spec PyProof.Rows
structure Room (k:Nat) (A:Around):Prop where
 hd:A.handled=none
 dp:A.depth+3 * k+5<recursionLimit
 un:A.units+16 * k+200<cLine
theorem Room.mono {j k:Nat} {A:Around} (r:Room k A) (h:j≤k):Room j A:=⟨r.hd,by have:=r.dp; omega,by have:=r.un; omega⟩
theorem Room.deeper {k:Nat} {A:Around} (r:Room (k+1) A) (env:Env):Room k (A.deeper env) :=
 ⟨r.hd,by have:=r.dp; show A.depth+1+3 * k+5<_; omega,by have:=r.un; show A.units+3+16 * k+200<_; omega⟩
theorem zib {A:Around} {C:Addr} {us:List Value} {kw:List (Str×Value)}:(A.under (.builtin "type.__call__" ⟨.ref C::us,kw⟩)).depth=A.depth+1:=by
 first | rfl | simp [Around.under,Code.weight,Code.isCreation,Code.isGuard,Code.isCaller,Code.frames,Code.isFrame,guardIds]
theorem zic {A:Around} {C:Addr} {us:List Value} {kw:List (Str×Value)}:(A.under (.builtin "type.__call__" ⟨.ref C::us,kw⟩)).units=A.units+1:=by
 first | rfl | simp [Around.under,Code.cUnits,Code.frames,Code.isFrame]
theorem Room.make {k:Nat} {A:Around} (r:Room (k+1) A) (C:Addr) (us:List Value) (kw:List (Str×Value)):Room k (A.under (.builtin "type.__call__" ⟨.ref C::us,kw⟩)) :=
 ⟨r.hd,by have:=r.dp; rw [zib]; omega,by have:=r.un; rw [zic]; omega⟩
theorem Room.depth {k:Nat} {A:Around} (r:Room k A):A.depth<recursionLimit:=by have:=r.dp; omega
theorem Room.units {k:Nat} {A:Around} (r:Room k A):A.units+64<cLine:=by have:=r.un; omega
def tNil:TA:=fun _ H Q=>Q [] H
def tCons (ta:TE) (tr:TA):TA:=fun σ H Q=>ta σ H fun x H1=>tr σ H1 fun xs H2=>Q (x::xs) H2
section
variable {X:Cx} {e:Expr} {es:List Expr} {te:TE} {t:TA} {pos:Pos}
theorem j8:PA X [] tNil:=fun _ _ _ _ H Q I h=>Calls.spliced_nil ⟨[],H,I,.nil,h⟩
theorem vg (ha:PE X e te) (hr:PA X es t) (hs:starEach (e::es) X.env=(false,eval e X.env)::starEach es X.env:=by rfl):PA X (e::es) (tCons te t):=by
 intro pos pins s σ H Q I h
 rw [hs]
 show wpAny _ _ (spliced ((false,eval e X.env)::backTo pos (starEach es X.env))) _ _ s
 refine Calls.spliced_cons (thn (ha pins s σ H _ I h) fun u s1 ⟨x,H1,I1,r1,q1⟩=>?_)
 exact thn (hr pos pins s1 σ H1 _ I1 q1) fun us s2 ⟨xs,H2,I2,r2,q2⟩=>⟨x::xs,H2,I2,.cons r1 r2,q2⟩
def tTup (t:TA):TE:=fun σ H Q=>t σ H fun xs H1=>xs.length≤sizeLine∧∀p,H1 p=none→Q (.ref p) (upd H1 p (.tup xs))
def tLst (t:TA):TE:=fun σ H Q=>t σ H fun xs H1=>xs.length≤sizeLine∧∀p,H1 p=none→Q (.ref p) (upd H1 p (.lst xs))
theorem zqm {x1} (h:PA X es t):PE X (.Tuple es x1 pos) (tTup t):=by
 intro pins s σ H Q I hq
 refine wpAny_Tuple_spliced (thn (h pos pins s σ H _ I hq) fun us s1 ⟨xs,H1,I1,r,z,q⟩=>⟨by rw [← r.length]; exact z,?_⟩)
 have hf:H1 s1.heap.objs.size=none:=I1.hok.fresh (Nat.le_refl _)
 refine ⟨.ref s1.heap.objs.size,upd H1 s1.heap.objs.size (.tup xs),I1.laid (t':=s1.toks) (fun b u e=>Heap.get?_push_of_some _ e) (Nat.le_refl _) ?_,rfl,q _ hf⟩
 exact ⟨z,us,r,⟨_,Heap.get?_push_size _ rfl,rfl,_,rfl⟩⟩
theorem zqn (h:PA X es t):PE X (.List es pos) (tLst t):=by
 intro pins s σ H Q I hq
 refine wpAny_List_spliced (thn (h pos pins s σ H _ I hq) fun us s1 ⟨xs,H1,I1,r,z,q⟩=>⟨by rw [← r.length]; exact z,?_⟩)
 have hf:H1 s1.heap.objs.size=none:=I1.hok.fresh (Nat.le_refl _)
 refine ⟨.ref s1.heap.objs.size,upd H1 s1.heap.objs.size (.lst xs),I1.laid (t':=s1.toks) (fun b u e=>Heap.get?_push_of_some _ e) (Nat.le_refl _) ?_,rfl,q _ hf⟩
 exact ⟨z,us,0,r,Heap.get?_push_size _ rfl⟩
end
abbrev Sp:=List V→Hp→VK→XK→Prop
abbrev CXT:=List Env→Hp→Shared→XK→Value→Shared→Prop
structure Env0 (P:Program) (w:World) (K:PySem.W.Frag) (mg:Str→Option Value) (base:Heap) (A:Around) (outer:List Env) (s:Shared) (H:Hp):Prop where
 frames:A.frames=some outer
 mod:Mod K mg base
 bs:∀b o,base.get? b=some o→s.heap.get? b=some o∧H b=none
 bsz:base.objs.size≤s.heap.objs.size
 funs:s.heap.FunFrames base outer
 frf:∀b∈frs outer,H b=none
 hok:HOk P w H s.heap
 bare:AllBare s.gens
def CE (outer:List Env) (P:Program) (w:World) (H:Hp) (s:Shared) (Q:VK) (u:Value) (s':Shared):Prop :=
 ∃v H',s'.os=s.os∧AllBare s'.gens∧Un (frs outer) [] H H' s.heap s'.heap∧HOk P w H' s'.heap∧RelV v u∧Q v H'
def CR (CX:CXT) (outer:List Env) (P:Program) (w:World) (H:Hp) (s:Shared) (Q:VK) (E:XK) (r:Result) (s':Shared):Prop :=
 match r with
 | .ok (.ret u)=>CE outer P w H s Q u s'
 | .ok _=>False
 | .error e=>CX outer H s E e s'
structure FnOk (P:Program) (w:World) (K:PySem.W.Frag) (mg:Str→Option Value) (base:Heap) (CX:CXT) (k:Nat) (f:Addr) (fd:FuncData) (ps:List Str) (sp:Sp):Prop where
 len:∀vs H Q E,sp vs H Q E→vs.length=ps.length
 run:∀(A:Around) (outer:List Env) (s:Shared) (H:Hp) (args:Args) (us:List Value) (vs:List V) (Q:VK) (E:XK),Room k A→Env0 P w K mg base A outer s H→BindsTo s fd args (ps.zip us)→Vals vs us→sp vs H Q E →
  codeAny (model P w) A (.call (.ref f) args) (CR CX outer P w H s Q E) s
theorem Env0.make {P:Program} {w:World} {K:PySem.W.Frag} {mg:Str→Option Value} {base:Heap} {A:Around} {outer:List Env} {s:Shared} {H:Hp} (e:Env0 P w K mg base A outer s H) (C:Addr) (us:List Value) (kw:List (Str×Value)) :
  Env0 P w K mg base (A.under (.builtin "type.__call__" ⟨.ref C::us,kw⟩)) outer s H:=⟨by first | exact e.frames | (simpa [Around.under,Code.envs,Code.isFrame,pushEnvs] using e.frames),e.mod,e.bs,e.bsz,e.funs,e.frf,e.hok,e.bare⟩
section
variable {X:Cx} {pins:List (Addr×Obj)} {σ:St} {H:Hp} {s s':Shared}
theorem Inv.env0 (I:Inv X pins σ H s):Env0 X.prog X.w X.K X.mg X.base X.A X.stack s H :=
 ⟨I.ok.frames,I.ok.mod,I.bs,Nat.le_trans I.ok.bsz I.sz,I.stack,I.stkFree,I.hok,I.bare⟩
theorem Inv.after {Q:VK} {u:Value} (I:Inv X pins σ H s) (h:CE X.stack X.prog X.w H s Q u s'):EP X pins σ Q u s':=by
 obtain ⟨v,H',os,bare,un,hok,r,q⟩:=h
 obtain ⟨hh,g,d,t,os'⟩:=s'
 obtain rfl:os'=s.os:=os
 exact ⟨v,H',I.call (h':=hh) (g':=g) (d':=d) (t':=t) (ch:=[]) un hok bare (fun b z=>absurd z (by simp)),r,q⟩
end
def tCall (sp:Sp) (dvs:List V) (E:XK) (t:TA):TE:=fun σ H Q=>t σ H fun vs H1=>sp (vs++dvs) H1 Q E
def tMake (C:Addr) (sp:Sp) (dvs:List V) (E:XK) (t:TA):TE:=fun σ H Q=>t σ H fun vs H1=>∀x dx,H1 x=none→H1 dx=none→dx≠x →
 sp (.ref x::(vs++dvs)) (upd (upd H1 dx (.own x)) x (.ins C dx [])) (fun v H2=>v=.non∧Q (.ref x) H2) E
def Binds (K:PySem.W.Frag) (fd:FuncData) (ps:List Str) (ds:List Value):Prop :=
 ∀(s:Shared) (us:List Value),K.In s.heap→(us++ds).length=ps.length→BindsTo s fd ⟨us,[]⟩ (ps.zip (us++ds))
theorem Binds.all {K:PySem.W.Frag} {fd:FuncData} {ps:List Str} (h:∀us:List Value,us.length=ps.length→bindArgs fd ⟨us,[]⟩=pure (ps.zip us)):Binds K fd ps []:=fun s us _ hl=>by
 rw [List.append_nil] at hl ⊢
 exact .of_eq (h us hl)
def Passes (CX:CXT) (X:Cx) (E:XK):Prop:=∀(pins:List (Addr×Obj)) (σ:St) (H:Hp) (s:Shared) (e:Value) (s':Shared),Inv X pins σ H s→CX X.stack H s E e s'→X.xe e s'
section
variable {X:Cx} {CX:CXT} {k:Nat} {f C:Addr} {fd:FuncData} {ps:List Str} {sp:Sp} {dvs:List V} {ds:List Value} {E:XK} {x m:Str} {p pos apos:Pos} {e o:Expr} {es:List Expr} {ta:TE} {t:TA}
theorem zm6 {pins:List (Addr×Obj)} {σ:St} {H:Hp} {s:Shared} {Q:VK} {us:List Value} {vs:List V} (F:FnOk X.prog X.w X.K X.mg X.base CX k f fd ps sp) (hr:Room k X.A) (hb:Binds X.K fd ps ds) (hd:Vals dvs ds) (hx:Passes CX X E)
  (I:Inv X pins σ H s) (r:Vals vs us) (h:sp (vs++dvs) H Q E):wpAny (model X.prog X.w) X.A (call (.ref f) us) (EP X pins σ Q) X.xe s:=by
 have r2:Vals (vs++dvs) (us++ds):=r.append hd
 have hl:(us++ds).length=ps.length:=by rw [← r2.length]; exact F.len _ _ _ _ h
 refine wpAny_call (codeAny_mono (F.run X.A X.stack s H ⟨us,[]⟩ (us++ds) (vs++dvs) Q E hr I.env0 (hb s us I.kIn hl) r2 h) fun r s' hq=>?_)
 cases r with
 | error e=>exact hx pins σ H s e s' I hq
 | ok fl =>
  cases fl with
  | ret u=>exact I.after hq
  | next=>exact False.elim hq
  | brk=>exact False.elim hq
  | cont=>exact False.elim hq
theorem zi9 (F:FnOk X.prog X.w X.K X.mg X.base CX k f fd ps sp) (hr:Room k X.A) (hg:Gl X x) (hm:X.mg x=some (.ref f)) (hk:PySem.W.keepIn X.K (.ref f)=true) (hb:Binds X.K fd ps ds) (hd:Vals dvs ds) (hx:Passes CX X E)
  (ha:PA X (e::es) t) (hdb:(x == ("__debug__":Str))=false:=by decide) (he:starEach (e::es) X.env=(false,eval e X.env)::starEach es X.env:=by rfl) (hpl:(backTo pos (starEach es X.env)).any (·.1)=false:=by rfl) :
  PE X (.Call (.Name x p) (e::es) [] pos) (tCall sp dvs E t):=by
 intro pins s σ H Q I h
 refine wpAny_Call_Name_kw (zdn I hg hm ?_ hdb)
 refine PySem.W.callWith_K (h₀:=X.base) I.ok.mod.kin hk (thn (ha pos pins s σ H _ I h) fun us s1 ⟨vs,H1,I1,r,q⟩=>⟨I1.kIn,?_⟩) he hpl
 exact zm6 F hr hb hd hx I1 r q
structure Mk (K:PySem.W.Frag) (C f:Addr):Prop where
 makes:PySem.W.makesIn K C=true
 init:PySem.W.findIn K (.ref C) "__init__"=some (some (.ref f))
 fn:PySem.W.isFn K (.ref f)=true
 kp:PySem.W.keepIn K (.ref C)=true
theorem zlc {pins:List (Addr×Obj)} {σ:St} {H:Hp} {s:Shared} {Q:VK} {us:List Value} {vs:List V} (M:Mk X.K C f) (F:FnOk X.prog X.w X.K X.mg X.base CX k f fd ps sp) (hr:Room (k+1) X.A) (hb:Binds X.K fd ps ds) (hd:Vals dvs ds)
  (hx:Passes CX X E) (I:Inv X pins σ H s) (r:Vals vs us)
  (h:∀x dx,H x=none→H dx=none→dx≠x→sp (.ref x::(vs++dvs)) (upd (upd H dx (.own x)) x (.ins C dx [])) (fun v H2=>v=.non∧Q (.ref x) H2) E) :
  wpAny (model X.prog X.w) X.A (call (.ref C) us) (EP X pins σ Q) X.xe s:=by
 have hq:=h (s.heap.objs.size+1) s.heap.objs.size (I.hok.fresh (Nat.le_succ _)) (I.hok.fresh (Nat.le_refl _)) (Nat.ne_of_lt (Nat.lt_succ_self _))
 have I2:=Inv.made (C:=C) I
 have r2:Vals (V.ref (s.heap.objs.size+1)::(vs++dvs)) (Value.ref (s.heap.objs.size+1)::(us++ds)):=.cons rfl (r.append hd)
 have hl:(Value.ref (s.heap.objs.size+1)::us++ds).length=ps.length:=by
  have e:=r2.length
  rw [F.len _ _ _ _ hq] at e
  exact e.symm
 refine wpAny_call (zlb (f:=f) I.kIn M.makes M.init (beq_iff_eq.mp M.fn) (codeAny_mono (F.run _ X.stack _ _ ⟨Value.ref (s.heap.objs.size+1)::us,[]⟩ (Value.ref (s.heap.objs.size+1)::(us++ds)) _ _ E (hr.make C us [])
  (I2.env0.make C us []) (hb _ (Value.ref (s.heap.objs.size+1)::us) I2.kIn hl) r2 hq) fun r s' hq'=>?_))
 cases r with
 | error e=>exact hx pins σ _ _ e s' I2 hq'
 | ok fl =>
  cases fl with
  | ret u =>
   obtain ⟨v,H',I3,rv,ev,q3⟩:=I2.after hq'
   subst ev
   exact ⟨rv,⟨V.ref (s.heap.objs.size+1),H',I3,rfl,q3⟩⟩
  | next=>exact False.elim hq'
  | brk=>exact False.elim hq'
  | cont=>exact False.elim hq'
theorem zn0 (M:Mk X.K C f) (F:FnOk X.prog X.w X.K X.mg X.base CX k f fd ps sp) (hr:Room (k+1) X.A) (hg:Gl X x) (hm:X.mg x=some (.ref C)) (hb:Binds X.K fd ps ds) (hd:Vals dvs ds) (hx:Passes CX X E)
  (ha:PA X (e::es) t) (hdb:(x == ("__debug__":Str))=false:=by decide) (he:starEach (e::es) X.env=(false,eval e X.env)::starEach es X.env:=by rfl) (hpl:(backTo pos (starEach es X.env)).any (·.1)=false:=by rfl) :
  PE X (.Call (.Name x p) (e::es) [] pos) (tMake C sp dvs E t):=by
 intro pins s σ H Q I h
 refine wpAny_Call_Name_kw (zdn I hg hm ?_ hdb)
 refine PySem.W.callWith_K (h₀:=X.base) I.ok.mod.kin M.kp (thn (ha pos pins s σ H _ I h) fun us s1 ⟨vs,H1,I1,r,q⟩=>⟨I1.kIn,?_⟩) he hpl
 exact zlc M F hr hb hd hx I1 r q
end
section
variable {X:Cx} {CX:CXT} {k:Nat} {f C:Addr} {fd:FuncData} {ps ks:List Str} {sp:Sp} {E:XK} {x m:Str} {p pos apos kpos:Pos} {e o:Expr} {es:List Expr} {kws:List Keyword} {te ta:TE} {t tk:TA} {nm:Option Str}
variable {g:List Value→List Value→List Value} {gV:List V→List V→List V}
end
structure FnScope (N P:List Str) (sc:Scope):Prop where
 kind:sc.kind=.function
 co:sc.isCoroutine=false
 gen:sc.isGenerator=false
 nd:N.Nodup
 pre:N.take P.length=P
 par:∀x∈P,sc.names.lookup x=some .local∨sc.names.lookup x=some .cell
 nofree:∀y∈sc.names,y.2≠.free
theorem zeu {kindOf:Str→Option NameKind} {x:Str}:∀{binds:List (Str×Value)} {m:Str→Option Value},(∀v,(x,v)∉binds)→bindL kindOf binds m x=m x
 | [],_,_=>rfl
 | (n,v)::r,m,h=>by
  unfold bindL
  rw [zeu fun w hw=>h w (List.mem_cons_of_mem _ hw)]
  split
  ·have:x≠n:=by rintro rfl; exact h v List.mem_cons_self
   simp [this]
  ·rfl
theorem zev {kindOf:Str→Option NameKind} {x:Str}:∀{binds:List (Str×Value)} {m:Str→Option Value},(∀v,(x,v)∉binds)→bindC kindOf binds m x=m x
 | [],_,_=>rfl
 | (n,v)::r,m,h=>by
  unfold bindC
  rw [zev fun w hw=>h w (List.mem_cons_of_mem _ hw)]
  split
  ·rfl
  ·have:x≠n:=by rintro rfl; exact h v List.mem_cons_self
   simp [this]
theorem zew {kindOf:Str→Option NameKind} {x:Str} {v:Value}:∀{P:List Str} {vs:List Value} {i:Nat} {m:Str→Option Value},P.Nodup→P[i]?=some x→vs[i]?=some v→kindOf x=some .local →
  bindL kindOf (P.zip vs) m x=some v
 | [],_,_,_,_,h,_,_=>by simp at h
 | _::_,[],_,_,_,_,h,_=>by simp at h
 | p::P,w::vs,0,m,nd,h1,h2,hk=>by
  simp at h1 h2; subst h1; subst h2
  show bindL kindOf ((p,w)::P.zip vs) m p=_
  unfold bindL
  rw [zeu fun v hv=>(List.nodup_cons.mp nd).1 (List.of_mem_zip hv).1,if_pos hk]
  simp
 | p::P,w::vs,i+1,m,nd,h1,h2,hk=>by
  show bindL kindOf ((p,w)::P.zip vs) m x=_
  unfold bindL
  exact zew (i:=i) (List.nodup_cons.mp nd).2 (by simpa using h1) (by simpa using h2) hk
theorem zex {kindOf:Str→Option NameKind} {x:Str} {v:Value}:∀{P:List Str} {vs:List Value} {i:Nat} {m:Str→Option Value},P.Nodup→P[i]?=some x→vs[i]?=some v→kindOf x≠some .local →
  bindC kindOf (P.zip vs) m x=some v
 | [],_,_,_,_,h,_,_=>by simp at h
 | _::_,[],_,_,_,_,h,_=>by simp at h
 | p::P,w::vs,0,m,nd,h1,h2,hk=>by
  simp at h1 h2; subst h1; subst h2
  show bindC kindOf ((p,w)::P.zip vs) m p=_
  unfold bindC
  rw [zev fun v hv=>(List.nodup_cons.mp nd).1 (List.of_mem_zip hv).1,if_neg hk]
  simp
 | p::P,w::vs,i+1,m,nd,h1,h2,hk=>by
  show bindC kindOf ((p,w)::P.zip vs) m x=_
  unfold bindC
  exact zex (i:=i) (List.nodup_cons.mp nd).2 (by simpa using h1) (by simpa using h2) hk
def start (N:List Str) (vs:List V):St:=vs.map some++List.replicate (N.length-vs.length) none
def cxOf (CX:CXT) (P:Program) (w:World) (K:PySem.W.Frag) (mg:Str→Option Value) (base:Heap) (N:List Str) (qual:Str) (scope:Scope) (f:Addr) (cd:Value) (A:Around) (outer:List Env) (s:Shared) (H:Hp) (E:XK):Cx where
 prog:=P
 w:=w
 K:=K
 mg:=mg
 base:=base
 A:=A.deeper (envOfC qual scope s.heap.objs.size f cd)
 N:=N
 s₀:=s
 H₀:=H
 env:=envOfC qual scope s.heap.objs.size f cd
 outer:=outer
 stack:=envOfC qual scope s.heap.objs.size f cd::outer
 ex:=[]
 calm:=true
 fn:=fun _=>true
 pn:=[]
 xe:=fun e s'=>wpAny (model P w) (A.deeper (envOfC qual scope s.heap.objs.size f cd)) (leaving (envOfC qual scope s.heap.objs.size f cd) e) (fun _ s''=>CX outer H s E e s'') (fun e' s''=>CX outer H s E e' s'') s'
theorem zg4 {sc:Scope} {n:Nat} {x:Str} (h:sc.names.lookup x=some .cell):∃c,(cellsFrom n sc.names []).lookup x=some c:=by
 have q:=PySem.W.cellsFrom_some sc.names n [] (.inl h)
 exact Option.isSome_iff_exists.mp q
theorem zja {CX:CXT} {P:Program} {w:World} {K:PySem.W.Frag} {mg:Str→Option Value} {base:Heap} {N ps:List Str} {qual:Str} {scope:Scope} {f:Addr} {cd:Value} {A:Around} {outer:List Env} {s s1:Shared} {H:Hp} {E:XK} {us:List Value} {vs:List V}
  (S:FnScope N ps scope) (hd:A.handled=none) (e0:Env0 P w K mg base A outer s H) (hl:vs.length=ps.length) (r:Vals vs us)
  (x:InCallC s s.heap.objs.size (bindL (envOfC qual scope s.heap.objs.size f cd).kindOf (ps.zip us) fun _=>none) (cellsFrom (s.heap.objs.size+1) scope.names []) (bindC (envOfC qual scope s.heap.objs.size f cd).kindOf (ps.zip us) fun _=>none) s1) :
  Inv (cxOf CX P w K mg base N qual scope f cd A outer s H E) [] (start N vs) H s1:=by
 have hpl:ps.length≤N.length:=by have:=congrArg List.length S.pre; rw [List.length_take] at this; omega
 obtain ⟨h1,tk,rfl,hk⟩:=x.done
 have noA:∀b:Addr,b∉(cxOf CX P w K mg base N qual scope f cd A outer s H E).ex:=fun b z=>absurd (show b∈([]:List Addr) from z) (by simp)
 refine ⟨⟨e0.mod,S.kind,rfl,rfl,Nat.le_refl _,fun y z c h1 h2=>?_,fun y hy=>?_,fun y c _ h=>?_,fun _=>hd,Around.frames_deeper e0.frames,.inr ⟨rfl,rfl⟩,fun b z=>absurd z (noA b),e0.bs,e0.bsz,fun b _ _=>noA b,fun b z=>absurd z (noA b),e0.funs,e0.frf⟩,
  rfl,e0.bare,Un.kept hk,⟨_,x.toInCall.ns,fun i y v h1 h2 h3=>?_⟩,fun y c h=>⟨_,x.cell y c h⟩,e0.hok.fresh (Nat.le_refl _),fun y c h=>?_,fun p hp=>absurd (show p∈([]:List (Addr×Obj)) from hp) (by simp),e0.hok.kept hk,?_⟩
 ·exact name_of_addr x.apart (PySem.mem_of_lookup h1) (PySem.mem_of_lookup h2)
 ·have hy:scope.names.lookup y=some .cell∨scope.names.lookup y=some .free:=hy
  rcases hy with hy | hy
  ·exact zg4 hy
  ·exact absurd rfl (S.nofree _ (PySem.mem_of_lookup hy))
 ·exact Nat.le_of_lt (x.above y c (PySem.mem_of_lookup h))
 ·have hi:i<vs.length:=by
   unfold start at h2
   by_cases hi:i<vs.length
   ·exact hi
   ·rw [List.getElem?_append_right (by simpa using hi)] at h2
    rw [List.getElem?_replicate] at h2
    split at h2 <;> cases h2
  have ha:vs[i]?=some v:=by
   unfold start at h2
   rw [List.getElem?_append_left (by simpa using hi),List.getElem?_map] at h2
   cases e:vs[i]? with
   | none=>rw [e] at h2; cases h2
   | some a=>rw [e] at h2; cases h2; rfl
  obtain ⟨u,hu,rv⟩:=r.get ha
  have hp:ps[i]?=some y:=by
   rw [← S.pre,List.getElem?_take_of_lt (by omega)]; exact h1
  have ndP:ps.Nodup:=by rw [← S.pre]; exact S.nd.sublist (List.take_sublist _ _)
  refine ⟨u,rv,?_⟩
  rcases S.par y (List.mem_of_getElem? hp) with k | k
  ·exact .inl ⟨k,zew ndP hp hu k⟩
  ·obtain ⟨c,e⟩:=zg4 (n:=s.heap.objs.size+1) k
   refine .inr ⟨.inl k,c,e,?_⟩
   have q:=x.cell y c e
   rw [zex ndP hp hu (by show scope.names.lookup y≠_; rw [k]; decide)] at q
   exact q
 ·exact e0.hok.fresh (Nat.le_of_lt (x.above y c (PySem.mem_of_lookup h)))
 ·unfold start
  show _=N.length
  rw [List.length_append,List.length_map,List.length_replicate]
  omega
theorem zsc {CX:CXT} {P:Program} {w:World} {K:PySem.W.Frag} {mg:Str→Option Value} {base:Heap} {k:Nat} {f:Addr} {name qual:Str} {params:Arguments} {body:List Stmt} {scope:Scope} {dV kV doc pm cdv ct oc:Value} {an od:Option Addr}
    {osl:Array (Option Value)} {N ps:List Str} {sp:Sp} (lk:K.lookup f=some ⟨oc,od,.func (PySem.W.fnOf name qual params body scope dV kV doc pm an cdv ct),osl⟩) (hcd:PySem.W.codeIn K cdv qual=true) (S:FnScope N ps scope)
    (len:∀vs H Q E,sp vs H Q E→vs.length=ps.length)
    (hbody:∀(A:Around) (outer:List Env) (s:Shared) (H:Hp) (vs:List V) (Q:VK) (E:XK),Room k (A.deeper (envOfC qual scope s.heap.objs.size f cdv))→sp vs H Q E →
      ∃t,PSs (cxOf CX P w K mg base N qual scope f cdv A outer s H E) body t∧t { nx:=fun _ H'=>Q .non H',rt:=Q } (start N vs) H) :
    FnOk P w K mg base CX (k+1) f (PySem.W.fnOf name qual params body scope dV kV doc pm an cdv ct) ps sp:=by
  refine ⟨len,fun A outer s H args us vs Q E hr e0 hb r hsp=>?_⟩
  have hl:=len _ _ _ _ hsp
  have KX:K.In s.heap:=e0.mod.kin.keeps fun b o e=>(e0.bs b o e).1
  have lim:s.heap.NoLimit:=e0.mod.nolimit.keeps fun b o e=>(e0.bs b o e).1
  have hkind:∀y∈ps.zip us,scope.names.lookup y.1=some .local∨(scope.names.lookup y.1=some .cell∧((cellsFrom (s.heap.objs.size+1) scope.names []).lookup y.1).isSome=true):=fun ⟨n,v⟩ hy=>by
    rcases S.par n (List.of_mem_zip hy).1 with q | q
    · exact .inl q
    · exact .inr ⟨q,PySem.W.cellsFrom_some _ _ _ (.inl q)⟩
  refine codeAny_call_function hr.depth (KX _ _ lk) rfl S.co S.gen rfl (PySem.W.codeRec_of KX hcd) (hb _ _ _ _ ?_)
  refine wpAny_newFunctionEnv_cells S.kind hkind fun env he s1 x=>?_
  subst he
  refine ⟨lim.keeps x.toInCall.keep,codeAny_func ?_⟩
  obtain ⟨t,ht,hq⟩:=hbody A outer s H vs Q E (hr.deeper _) hsp
  have I:Inv (cxOf CX P w K mg base N qual scope f cdv A outer s H E) [] (start N vs) H s1:=zja S hr.hd e0 hl r x
  refine wpAny_mono (ht [] s1 (start N vs) H _ I hq) (fun fl s' hs=>?_) fun e s' hs=>hs
  have fin:∀{σ':St} {H':Hp} {v:V} {u:Value},Inv (cxOf CX P w K mg base N qual scope f cdv A outer s H E) [] σ' H' s'→RelV v u→Q v H'→CE outer P w H s Q u s' :=
    fun {σ' H' v u} J rv q=>⟨v,H',J.os,J.bare,J.base,J.hok,rv,q⟩
  cases fl with
  | ret u =>
    obtain ⟨v,σ',H',J,rv,q⟩:=hs
    exact fin J rv q
  | next =>
    obtain ⟨σ',H',J,q⟩:=hs
    exact fin (v:=V.non) (u:=Value.none) J rfl q
  | brk =>
    obtain ⟨_,_,_,q⟩:=hs
    exact False.elim q
  | cont =>
    obtain ⟨_,_,_,q⟩:=hs
    exact False.elim q
end L2
namespace L2
open PySem PySem.Spec PyProof.Rows
section
variable {X:Cx} {x:Str} {p pos:Pos} {e:Expr} {es:List Expr} {t:TA} {id T:String} {r:List V→Hp→VK→Prop}
def tCB (r:List V→Hp→VK→Prop) (t:TA):TE:=fun σ H Q=>t σ H fun vs H1=>r vs H1 Q
theorem zby (hc:CallR X (.builtin id) r) (hg:Gl X x) (hm:X.mg x=none) (hv:bootBuiltins x=some (.builtin id)) (ha:PA X (e::es) t) (hn:x≠"__name__":=by decide) (hdb:(x == ("__debug__":Str))=false:=by decide)
  (he:starEach (e::es) X.env=(false,eval e X.env)::starEach es X.env:=by rfl) (hpl:(backTo pos (starEach es X.env)).any (·.1)=false:=by rfl):PE X (.Call (.Name x p) (e::es) [] pos) (tCB r t):=by
 intro pins s σ H Q I h
 refine wpAny_Call_Name_kw (zav I hg hm hv ?_ hn hdb)
 exact PyProof.Rows.callWith_builtin1 (thn (ha pos pins s σ H _ I h) fun us s1 ⟨vs,H1,I1,r1,q1⟩=>hc pins s1 σ H1 vs us Q I1 r1 q1) he hpl
theorem zb7 (hc:CallR X (.type T) r) (hg:Gl X x) (hm:X.mg x=none) (hv:bootBuiltins x=some (.type T)) (ha:PA X (e::es) t) (hn:x≠"__name__":=by decide) (hdb:(x == ("__debug__":Str))=false:=by decide)
  (he:starEach (e::es) X.env=(false,eval e X.env)::starEach es X.env:=by rfl) (hpl:(backTo pos (starEach es X.env)).any (·.1)=false:=by rfl):PE X (.Call (.Name x p) (e::es) [] pos) (tCB r t):=by
 intro pins s σ H Q I h
 refine wpAny_Call_Name_kw (zav I hg hm hv ?_ hn hdb)
 exact PyProof.Rows.callWith_type1 (thn (ha pos pins s σ H _ I h) fun us s1 ⟨vs,H1,I1,r1,q1⟩=>hc pins s1 σ H1 vs us Q I1 r1 q1) he hpl
end
end L2
namespace HT
open PySem PyProof.Rows
section
open PySem.SeqAt
open PySem.AutoSeq1 (wpAny_loadPart')
open PySem.MeetsSeq PySem.MeetsSeq2 PySem.MeetsSeq3
end
section
variable {prog:Program} {w:World} {A:Around} {E:Value→Shared→Prop} {s:Shared}
theorem cat_tup {t b:Addr} {vs ws:List Value} {Q:Value→Shared→Prop} (ht:IsTup s.heap t vs.toArray) (hb:IsTup s.heap b ws.toArray) (hv:vs≠[])
    (h1:ws=[]→Q (.ref t) s) (h2:ws≠[]→Q (.ref s.heap.objs.size) { s with heap:=s.heap.push { cls:=.type "tuple",data:=.seq (vs++ws).toArray } })
    (hsz:vs.length+ws.length≤sizeLine):wpAny (model prog w) A (binaryOp .Add (.ref t) (.ref b)) Q E s:=by
  obtain ⟨⟨cls,dd,data,sl⟩,ho,hc,n,hd⟩:=id ht
  obtain ⟨⟨cls2,dd2,data2,sl2⟩,ho2,hc2,n2,hd2⟩:=id hb
  simp only at hc hd hc2 hd2
  subst hc hd hc2 hd2
  have e:vs.toArray++ws.toArray=(vs++ws).toArray:=by simp
  by_cases hw:ws=[]
  · exact concat_meets ⟨_,ho,rfl⟩ ⟨_,ho2,rfl⟩ noFill_tuple_add seq_tuple_add PySem.F.slot_tuple_add PySem.F.entry_tuple_add (PySem.F.args_tuple_add_2 _ _)
      (tuple_addW1 t b vs.toArray ws.toArray n n2 dd dd2 sl sl2 (by simpa using hv) (by simp [hw])) ⟨ho,ho2,h1 hw⟩
  · refine concat_meets ⟨_,ho,rfl⟩ ⟨_,ho2,rfl⟩ noFill_tuple_add seq_tuple_add PySem.F.slot_tuple_add PySem.F.entry_tuple_add (PySem.F.args_tuple_add_2 _ _)
      (tuple_addW2 t b vs.toArray ws.toArray n n2 dd dd2 sl sl2 (by simpa using hv) (by simpa using hw) (by rw [List.size_toArray,List.size_toArray]; exact hsz)) ⟨ho,ho2,?_⟩
    rw [e]
    exact h2 hw
def sIx (n d:Nat):Option Int→Nat
 | none=>d
 | some v=>if v<0 then (v+(n:Int)).toNat else min v.toNat n
theorem sIx_none (n d:Nat):sIx n d none=d:=rfl
theorem sIx_nat (n d k:Nat):sIx n d (some (k:Int))=min k n:=by
 show (if (k:Int)<0 then ((k:Int)+(n:Int)).toNat else min (k:Int).toNat n)=min k n
 rw [if_neg (by omega),Int.toNat_natCast]
end
end HT
namespace L2
open PySem PySem.Spec PyProof.Rows
abbrev TO:=St→Hp→(Option Int→Hp→Prop)→Prop
def PO (X:Cx) (e:Option Expr) (t:TO):Prop :=
 ∀(pins:List (Addr×Obj)) (s:Shared) (σ:St) (H:Hp) (Q:Option Int→Hp→Prop),Inv X pins σ H s→t σ H Q →
  wpAny (model X.prog X.w) X.A (evalPart e X.env) (fun u s'=>∃o H',Inv X pins σ H' s'∧IsPart u o∧Q o H') X.xe s
def tNoPart:TO:=fun _ H Q=>Q none H
def tPart (t:TE):TO:=fun σ H Q=>t σ H fun x H1=>∃i,x=.int i∧Q (some i) H1
theorem zid {ns:List Int}:∀{us:List Value},Vals (ns.map V.int) us→IntsAre us ns:=by
 induction ns with
 | nil=>intro us r; rw [List.map_nil] at r; cases r; exact .nil
 | cons n ns ih =>
  intro us r
  rw [List.map_cons] at r
  cases r with
  | cons r1 r2 =>
   obtain ⟨t,e⟩:=r1
   subst e
   exact .cons n t (ih r2)
section
variable {X:Cx} {e:Expr} {te:TE} {lo hi:Option Expr} {tl th:TO} {pos p2:Pos}
theorem zn1:PO X none tNoPart:=by
 intro pins s σ H Q I h
 rw [evalPart_none]
 exact wpAny_pure ⟨none,H,I,.none,h⟩
theorem zn2 (h:PE X e te):PO X (some e) (tPart te):=by
 intro pins s σ H Q I hw
 rw [evalPart_some]
 refine thn (h pins s σ H _ I hw) fun u s1 ⟨x,H1,I1,r1,q1⟩=>?_
 obtain ⟨i,rfl,q⟩:=q1
 obtain ⟨t,rfl⟩:=r1
 exact ⟨some i,H1,I1,.int i t,q⟩
def SlR (X:Cx) (r:V→Option Int→Option Int→Hp→VK→Prop):Prop :=
 ∀(pins:List (Addr×Obj)) (s:Shared) (σ:St) (H:Hp) (x:V) (v vl vu:Value) (lo hi:Option Int) (sl:Addr) (Q:VK),Inv X pins σ H s→RelV x v→s.heap.IsSliceOf sl vl vu .none→IsPart vl lo→IsPart vu hi→r x lo hi H Q →
  ∃T id,typeLookup (.type T) "__getitem__"=pure (some (.builtin id))∧s.TypeIs v T∧wpAny (model X.prog X.w) X.A (getItem v (.ref sl)) (EP X pins σ Q) X.xe s
def tSl (r:V→Option Int→Option Int→Hp→VK→Prop) (te:TE) (tl th:TO):TE:=fun σ H Q=>te σ H fun x H1=>tl σ H1 fun l H2=>th σ H2 fun u H3=>r x l u H3 Q
theorem zld {r:V→Option Int→Option Int→Hp→VK→Prop} (hr:SlR X r) (he:PE X e te) (hl:PO X lo tl) (hu:PO X hi th):PE X (.Subscript e (.Slice lo hi none p2) pos) (tSl r te tl th):=by
  intro pins s σ H Q I h
  refine Subscript_ (thn (he pins s σ H _ I h) fun v s1 ⟨x,H1,I1,r1,q1⟩=>?_)
  refine wpAny_Slice (thn (hl pins s1 σ H1 _ I1 q1) fun vl s2 ⟨l,H2,I2,pl,q2⟩=>thn (hu pins s2 σ H2 _ I2 q2) fun vu s3 ⟨u,H3,I3,pu,q3⟩=>?_)
  rw [evalPart_none]
  refine wpAny_pure ?_
  have I4:Inv X pins σ H3 { s3 with heap:=s3.heap.push { cls:=.type "slice",data:=.fields #[vl,vu,.none] } }:=I3.kept (t':=s3.toks) fun b ob q=>Heap.get?_push_of_some _ q
  obtain ⟨T,id,hT,ht,hg⟩:=hr pins { s3 with heap:=s3.heap.push { cls:=.type "slice",data:=.fields #[vl,vu,.none] } } σ H3 x v vl vu l u s3.heap.objs.size Q I4 r1 (Heap.IsSliceOf.new ..) pl pu q3
  show wpAny (model X.prog X.w) X.A (subscriptTail e (.Slice lo hi none p2) v (.ref s3.heap.objs.size)) (EP X pins σ Q) X.xe { s3 with heap:=s3.heap.push { cls:=.type "slice",data:=.fields #[vl,vu,.none] } }
  exact tail_any (ops:=[.ref s3.heap.objs.size,v]) ht hT hg (by with_unfolding_all rfl)
def cutV (xs:List V) (lo hi:Option Int):List V:=(xs.drop (HT.sIx xs.length 0 lo)).take (HT.sIx xs.length xs.length hi-HT.sIx xs.length 0 lo)
theorem zga (xs:List V) (lo hi:Option Int):(cutV xs lo hi).length≤xs.length:=by
 unfold cutV
 rw [List.length_take,List.length_drop]
 omega
def rCatT (K:PySem.W.Frag):R2:=fun x y H Q=>∃a b xs ys,x=.ref a∧y=.ref b∧SqT K H a xs∧SqT K H b ys∧xs≠[]∧xs.length+ys.length≤sizeLine ∧
 (ys=[]→Q (.ref a) H)∧(ys≠[]→∀p,H p=none→Q (.ref p) (upd H p (.tup (xs++ys))))
theorem Vals.nil_iff {xs:List V} {us:List Value} (r:Vals xs us):us=[]↔xs=[]:=by
 cases r with
 | nil=>simp
 | cons _ _=>simp
theorem zn3:OpR X (binaryOp .Add) (rCatT X.K):=by
 intro pins s σ H x y v u Q I rx ry h
 obtain ⟨a,b,xs,ys,rfl,rfl,ha,hb,hx,hz,q1,q2⟩:=h
 cases rx
 cases ry
 obtain ⟨its,r1,p1,_⟩:=I.tuple ha
 obtain ⟨its2,r2,p2,_⟩:=I.tuple hb
 refine HT.cat_tup p1 p2 (fun z=>hx (r1.nil_iff.mp z)) (fun z=>⟨.ref a,H,I,rfl,q1 (r2.nil_iff.mp z)⟩) (fun z=>?_) (by rw [← r1.length,← r2.length]; exact hz)
 refine ⟨.ref s.heap.objs.size,_,I.laid (t':=s.toks) (o:=.tup (xs++ys)) (fun b ob q=>Heap.get?_push_of_some _ q) (Nat.le_refl _) ?_,rfl,q2 (fun w=>z (r2.nil_iff.mpr w)) _ (I.hok.fresh (Nat.le_refl _))⟩
 exact ⟨by rw [List.length_append]; exact hz,_,r1.append r2,IsTup.new _ _⟩
end
end L2
namespace L2
open PySem PySem.Spec PyProof.Rows
def ixN (n:Nat) (i:Int):Option Nat:=if 0≤i then (if i<n then some i.toNat else none) else if -(n:Int)≤i then some (i+n).toNat else none
def atI {α:Type} (xs:List α) (i:Int):Option α:=(ixN xs.length i).bind fun j=>xs[j]?
theorem zgb {n:Nat} {i:Int} {j:Nat} (h:ixN n i=some j):seqIndex? i n=some j∧j<n∧-(n:Int)≤i∧i<n:=by
 unfold ixN at h
 by_cases h0:0≤i
 ·rw [if_pos h0] at h
  by_cases h1:i<n
  ·rw [if_pos h1] at h
   have e:i.toNat=j:=Option.some.inj h
   exact ⟨by rw [seqIndex_of h0 h1,e],by omega,by omega,h1⟩
  ·rw [if_neg h1] at h; cases h
 ·rw [if_neg h0] at h
  by_cases h1:-(n:Int)≤i
  ·rw [if_pos h1] at h
   have e:(i+n).toNat=j:=Option.some.inj h
   exact ⟨by rw [seqIndex_neg (by omega) h1,e],by omega,h1,by omega⟩
  ·rw [if_neg h1] at h; cases h
theorem zdq {α:Type} {xs:List α} {i:Int} {v:α} (h:atI xs i=some v):∃j,seqIndex? i xs.length=some j∧xs[j]?=some v∧j<xs.length∧-(xs.length:Int)≤i∧i<xs.length:=by
 unfold atI at h
 cases e:ixN xs.length i with
 | none=>rw [e] at h; cases h
 | some j =>
  rw [e] at h
  obtain ⟨h1,h2,h3,h4⟩:=zgb e
  exact ⟨j,h1,h,h2,h3,h4⟩
theorem qj {α:Type} {xs:List α} {j:Nat} {v:α} (h:xs[j]?=some v):atI xs (j:Int)=some v:=by
 have hj:j<xs.length:=(List.getElem?_eq_some_iff.mp h).1
 have e:ixN xs.length (j:Int)=some j:=by
  unfold ixN
  rw [if_pos (by omega),if_pos (by omega)]; simp
 unfold atI; rw [e]; exact h
def PlainIx (b:Expr):Prop:=∀o i,subscripted b false o i=operate [o,i] (getItem o i)
def IxR (X:Cx) (r:R2):Prop :=
 ∀(value slice:Expr) (pins:List (Addr×Obj)) (s:Shared) (σ:St) (H:Hp) (x y:V) (v u:Value) (Q:VK),Inv X pins σ H s→RelV x v→RelV y u→r x y H Q →
  subscripted slice false v u=operate [v,u] (getItem v u)→wpAny (model X.prog X.w) X.A (subscriptTail value slice v u) (EP X pins σ Q) X.xe s
def MtR (X:Cx) (id:String) (r:V→List V→Hp→VK→Prop):Prop :=
 ∀(pins:List (Addr×Obj)) (s:Shared) (σ:St) (H:Hp) (x:V) (xs:List V) (v:Value) (us:List Value) (Q:VK),Inv X pins σ H s→RelV x v→Vals xs us→r x xs H Q →
  wpAny (model X.prog X.w) X.A (call (.builtin id) (v::us)) (EP X pins σ Q) X.xe s
section
variable {X:Cx} {a b:Expr} {ta tb:TE} {pos:Pos}
theorem IxR.or {r r':R2} (h:IxR X r) (h':IxR X r'):IxR X (fun x y H Q=>r x y H Q∨r' x y H Q):=by
 intro value slice pins s σ H x y v u Q I rx ry q hs
 rcases q with q | q
 ·exact h value slice pins s σ H x y v u Q I rx ry q hs
 ·exact h' value slice pins s σ H x y v u Q I rx ry q hs
theorem zsd {r:R2} (hr:IxR X r) (ha:PE X a ta) (hb:PE X b tb) (hs:PlainIx b):PE X (.Subscript a b pos) (tOp r ta tb):=by
 intro pins s σ H Q I h
 exact Subscript_ (binT ha hb I h fun v u s2 x y H2 I2 rx ry q=>hr a b pins s2 σ H2 x y v u Q I2 rx ry q (hs _ _))
def rIxL (K:PySem.W.Frag):R2:=fun x y H Q=>∃p xs i v,x=.ref p∧y=.int i∧SqL K H p xs∧atI xs i=some v∧Q v H
def rIxT (K:PySem.W.Frag):R2:=fun x y H Q=>∃p xs i v,x=.ref p∧y=.int i∧SqT K H p xs∧atI xs i=some v∧Q v H
def rIxS:R2:=fun x y H Q=>∃z i c,x=.str z∧y=.int i∧z.length≤sizeLine∧atI z.cps.toList i=some c∧Q (.str ⟨#[c]⟩) H
theorem zn4:IxR X (rIxL X.K):=by
 intro value slice pins s σ H x y v u Q I rx ry h hs
 obtain ⟨p,xs,i,z,rfl,rfl,hq,he,q⟩:=h
 cases rx
 obtain ⟨t,rfl⟩:=ry
 obtain ⟨its,r,pl,hz⟩:=I.list hq
 obtain ⟨j,h1,h2,h3,h4,h5⟩:=zdq he
 obtain ⟨w,ew,rw'⟩:=r.get h2
 have hl:=r.length
 have hn:=line63
 have fin:EP X pins σ Q w s:=⟨z,H,I,rw',q⟩
 by_cases h0:0≤i
 ·have hj:i.toNat=j:=by
   rw [seqIndex_of h0 h5] at h1
   exact Option.some.inj h1
  exact item_listR pl.isList h0 (by omega) (by rw [hj]; simpa using ew) fin hs
 ·have hj:(i+(its.toArray.size:Int)).toNat=j:=by
   rw [seqIndex_neg (by omega) h4] at h1
   rw [List.size_toArray,← hl]
   exact Option.some.inj h1
  exact subscriptTail_builtinR (x:=w) pl.isList.typeIs slot_list_getitem.lookup
   (wpAny_getItem_list_neg (Q:=fun r s'=>r=w∧EP X pins σ Q r s') pl.isList (by omega) (by rw [List.size_toArray] <;> omega) (by omega) (by rw [hj]; simpa using ew) ⟨rfl,fin⟩) hs
theorem zqo:IxR X (rIxT X.K):=by
 intro value slice pins s σ H x y v u Q I rx ry h hs
 obtain ⟨p,xs,i,z,rfl,rfl,hq,he,q⟩:=h
 cases rx
 obtain ⟨t,rfl⟩:=ry
 obtain ⟨its,r,pl,hz⟩:=I.tuple hq
 obtain ⟨j,h1,h2,h3,h4,h5⟩:=zdq he
 obtain ⟨w,ew,rw'⟩:=r.get h2
 have hl:=r.length
 have hn:=line63
 have fin:EP X pins σ Q w s:=⟨z,H,I,rw',q⟩
 exact subscriptTail_builtinR (x:=w) pl.typeIs slot_tuple_getitem.lookup
  (getItem_tuple (j:=j) (Q:=fun r s'=>r=w∧EP X pins σ Q r s') pl (by omega) (by omega) (by rw [List.size_toArray,← hl]; exact h1) (by simpa using ew) ⟨rfl,fin⟩) hs
theorem zqp:IxR X rIxS:=by
 intro value slice pins s σ H x y v u Q I rx ry h hs
 obtain ⟨z,i,c,rfl,rfl,hz,he,q⟩:=h
 obtain ⟨t,rfl⟩:=rx
 obtain ⟨t',rfl⟩:=ry
 obtain ⟨j,h1,h2,h3,h4,h5⟩:=zdq he
 have hl:z.cps.toList.length=z.length:=by simp [Str.length]
 rw [hl] at h1 h4 h5
 have hn:=line63
 exact tail_any (typeIs_str s z t) slot_str_getitem.lookup (getItem_str (c:=c) (by
  have e1:decide (i < -(2 ^ 63:Int))=false:=decide_eq_false (by omega)
  have e2:decide (i ≥ 2 ^ 63)=false:=decide_eq_false (by omega)
  rw [e1,e2,Bool.or_false]) (by rw [h1]; simpa using h2) ⟨.str ⟨#[c]⟩,H,I.tok _,⟨_,rfl⟩,q⟩) hs
def rIx (K:PySem.W.Frag):R2:=fun x y H Q=>rIxL K x y H Q∨rIxT K x y H Q∨rIxS x y H Q
theorem zm:IxR X (rIx X.K):=zn4.or (zqo.or zqp)
theorem zie (its:List Value) (n j:Nat) (u:Value):Obj.mapSeq (·.setIfInBounds j u) { cls:=.type "list",data:=.seq its.toArray n } = { cls:=.type "list",data:=.seq (its.set j u).toArray n }:=by
  simp [Obj.mapSeq]
theorem Inv.lst {pins:List (Addr×Obj)} {σ:St} {H:Hp} {s:Shared} {p:Addr} {xs:List V} (I:Inv X pins σ H s) (h:H p=some (.lst xs)) :
    ∃(its:List Value) (n:Nat),Vals xs its∧s.heap.get? p=some { cls:=.type "list",data:=.seq its.toArray n }∧xs.length≤sizeLine:=by
  obtain ⟨z,its,n,r,e⟩:=I.hok p _ h
  exact ⟨its,n,r,e,z⟩
theorem Inv.lstUpd {pins:List (Addr×Obj)} {σ:St} {H:Hp} {s:Shared} {p:Addr} {xs ys:List V} {its its':List Value} {n n':Nat} {f:Obj→Obj} (I:Inv X pins σ H s) (h:H p=some (.lst xs))
    (ho:s.heap.get? p=some { cls:=.type "list",data:=.seq its.toArray n }) (hf:f { cls:=.type "list",data:=.seq its.toArray n } = { cls:=.type "list",data:=.seq its'.toArray n' }) (r:Vals ys its') (hz:ys.length≤sizeLine) (t:Nat) :
    Inv X pins σ (upd H p (.lst ys)) { s with heap:=s.heap.update p f,toks:=t }:=by
  have e:(s.heap.update p f).get? p=some { cls:=.type "list",data:=.seq its'.toArray n' }:=by
    rw [Heap.get?_update_self f ho (by rw [hf] <;> rfl),hf]
  refine I.write (x:=p) (e:=p) (by rw [h]; trivial) (.inl rfl) (fun b u hb q=>(Heap.get?_update_other _ _ (Ne.symm hb)).trans q) ⟨_,e⟩ ?_
  exact ⟨hz,its',n',r,e⟩
def rSetL:V→V→V→Hp→(Hp→Prop)→Prop:=fun o i v H Q=>∃p xs k j,o=.ref p∧i=.int k∧H p=some (.lst xs)∧ixN xs.length k=some j∧Q (upd H p (.lst (xs.set j v)))
theorem zdr:PSet X rSetL:=by
 intro pins s σ H o i v ov iv u Q I ro ri rv h
 obtain ⟨p,xs,k,j,rfl,rfl,hp,hj,q⟩:=h
 cases ro
 obtain ⟨t,rfl⟩:=ri
 obtain ⟨its,n,r,ho,hz⟩:=I.lst hp
 obtain ⟨h1,h2,h3,h4⟩:=zgb hj
 have hl:=r.length
 have hn:=line63
 have I':Inv X pins σ (upd H p (.lst (xs.set j v))) { s with heap:=s.heap.update p (Obj.mapSeq (·.setIfInBounds j u)) } :=
  I.lstUpd hp ho (zie its n j u) (r.set rv j) (by rw [List.length_set]; exact hz) s.toks
 by_cases h0:0≤k
 ·have hk:k.toNat=j:=by
   rw [seqIndex_of h0 h4] at h1
   exact Option.some.inj h1
  exact PySem.W.ki_setAt ho h0 (by omega) (by rw [List.size_toArray,← hl]; exact h4) (by rw [hk]; exact ⟨_,I',q⟩)
 ·have hk:(k+(its.toArray.size:Int)).toNat=j:=by
   rw [seqIndex_neg (by omega) h3] at h1
   rw [List.size_toArray,← hl]
   exact Option.some.inj h1
  exact PySem.W.ki_setBack ho (by omega) (by rw [List.size_toArray,← hl]; exact h3) (by omega) (by rw [hk]; exact ⟨_,I',q⟩)
theorem zey (lo hi:Option Int) (n:Nat):(sliceBounds lo hi none n).1=((HT.sIx n 0 lo:Nat):Int)∧(sliceBounds lo hi none n).2.1=((HT.sIx n n hi:Nat):Int)∧(sliceBounds lo hi none n).2.2=1:=by
 refine ⟨?_,?_,rfl⟩
 ·cases lo with
  | none=>simp [sliceBounds,HT.sIx]
  | some i =>
   simp only [sliceBounds,HT.sIx,Option.getD_none,show (1:Int) > 0 by decide,if_true]
   by_cases h:i<0
   ·simp only [h,if_true] <;> omega
   ·simp only [h,if_false] <;> omega
 ·cases hi with
  | none=>simp [sliceBounds,HT.sIx]
  | some i =>
   simp only [sliceBounds,HT.sIx,Option.getD_none,show (1:Int) > 0 by decide,if_true]
   by_cases h:i<0
   ·simp only [h,if_true] <;> omega
   ·simp only [h,if_false] <;> omega
theorem zds (its:List Value) (lo hi:Option Int):slicePick its.toArray lo hi none=((its.drop (HT.sIx its.length 0 lo)).take (HT.sIx its.length its.length hi-HT.sIx its.length 0 lo)).toArray:=by
 obtain ⟨h1,h2,h3⟩:=zey lo hi its.toArray.size
 unfold slicePick
 rw [h1,h2,h3]
 simp only [sliceRange_one,pick_run,List.size_toArray] <;> rfl
def rSlL (K:PySem.W.Frag):V→Option Int→Option Int→Hp→VK→Prop:=fun x lo hi H Q=>∃a xs,x=.ref a∧SqL K H a xs∧∀p,H p=none→Q (.ref p) (upd H p (.lst (cutV xs lo hi)))
theorem zn5:SlR X (rSlL X.K):=by
 intro pins s σ H x v vl vu lo hi sl Q I rx hs pl pu h
 obtain ⟨a,xs,rfl,hx,q⟩:=h
 cases rx
 obtain ⟨its,r,ht,hz⟩:=I.list hx
 have hlen:=r.length
 refine ⟨"list",_,slot_list_getitem.lookup,ht.isList.typeIs,?_⟩
 refine wpAny_getItem_list_slice ht.isList hs pl pu .none (by simp) ?_ (by rw [List.size_toArray] <;> omega)
 rw [zds,← hlen]
 refine ⟨.ref s.heap.objs.size,_,I.laid (t':=s.toks) (o:=.lst (cutV xs lo hi)) (fun b ob q=>Heap.get?_push_of_some _ q) (Nat.le_refl _) ?_,rfl,q _ (I.hok.fresh (Nat.le_refl _))⟩
 exact ⟨Nat.le_trans (zga xs lo hi) hz,_,0,(r.drop (HT.sIx xs.length 0 lo)).take (HT.sIx xs.length xs.length hi-HT.sIx xs.length 0 lo),Heap.get?_push_size _ rfl⟩
def flatV:V→Bool
 | .non=>true
 | .bl _=>true
 | .int _=>true
 | .str _=>true
 | _=>false
def eqV:V→V→Bool
 | .non,.non=>true
 | .bl a,.bl b=>a == b
 | .bl a,.int b=>(if a then 1 else 0) == b
 | .int a,.bl b=>a == (if b then 1 else 0)
 | .int a,.int b=>a == b
 | .str a,.str b=>a == b
 | _,_=>false
theorem zqq {A:Around} {s:Shared} {y x:V} {u v:Value} (ry:RelV y u) (rx:RelV x v) (fy:flatV y=true) (fx:flatV x=true):SeqAt.EqAt A s u v (eqV y x):=by
 cases y with
 | non =>
  cases ry
  cases x with
  | non=>cases rx; exact SeqAt.EqAt.same _
  | bl b=>cases rx; exact SeqAt.EqAt.none_bool b
  | int b=>obtain ⟨t,rfl⟩:=rx; exact SeqAt.EqAt.none_int b t
  | str b=>obtain ⟨t,rfl⟩:=rx; exact SeqAt.EqAt.none_str b t
  | _=>exact absurd (show false=true from fx) Bool.false_ne_true
 | bl a =>
  cases ry
  cases x with
  | non=>cases rx; exact SeqAt.EqAt.bool_none a
  | bl b=>cases rx; exact SeqAt.EqAt.bool_bool a b
  | int b=>obtain ⟨t,rfl⟩:=rx; exact SeqAt.EqAt.bool_int a b t
  | str b=>obtain ⟨t,rfl⟩:=rx; exact SeqAt.EqAt.bool_str a b t
  | _=>exact absurd (show false=true from fx) Bool.false_ne_true
 | int a =>
  obtain ⟨t',rfl⟩:=ry
  cases x with
  | non=>cases rx; exact SeqAt.EqAt.int_none a t'
  | bl b=>cases rx; exact SeqAt.EqAt.int_bool a t' b
  | int b=>obtain ⟨t,rfl⟩:=rx; exact SeqAt.EqAt.int_int a t' b t
  | str b=>obtain ⟨t,rfl⟩:=rx; exact SeqAt.EqAt.int_str a t' b t
  | _=>exact absurd (show false=true from fx) Bool.false_ne_true
 | str a =>
  obtain ⟨t',rfl⟩:=ry
  cases x with
  | non=>cases rx; exact SeqAt.EqAt.str_none a t'
  | bl b=>cases rx; exact SeqAt.EqAt.str_bool a t' b
  | int b=>obtain ⟨t,rfl⟩:=rx; exact SeqAt.EqAt.str_int a t' b t
  | str b=>obtain ⟨t,rfl⟩:=rx; exact SeqAt.EqAt.str_str a t' b t
  | _=>exact absurd (show false=true from fx) Bool.false_ne_true
 | _=>exact absurd (show false=true from fy) Bool.false_ne_true
def eqU (x:V) (u:Value):Bool:=match u with
 | .none=>eqV .non x
 | .bool b=>eqV (.bl b) x
 | .int i _=>eqV (.int i) x
 | .str z _=>eqV (.str z) x
 | _=>false
theorem zm7 {x y:V} {u:Value} (r:RelV y u) (f:flatV y=true):eqU x u=eqV y x:=by
 cases y with
 | non=>cases r; rfl
 | bl b=>cases r; rfl
 | int i=>obtain ⟨t,rfl⟩:=r; rfl
 | str z=>obtain ⟨t,rfl⟩:=r; rfl
 | _=>exact absurd (show false=true from f) Bool.false_ne_true
theorem zg5 {A:Around} {s:Shared} {x:V} {v:Value} (rx:RelV x v) (fx:flatV x=true):∀{xs:List V} {us:List Value},Vals xs us→xs.all flatV=true→∀u∈us,SeqAt.EqAt A s u v (eqU x u)
 | _,_,.nil,_=>fun u hu=>by cases hu
 | y::xs,u::us,.cons r t,f=>fun u' hu=>by
  rw [List.all_cons,Bool.and_eq_true] at f
  rcases List.mem_cons.mp hu with rfl | hu
  ·rw [zm7 r f.1]; exact zqq r rx f.1 fx
  ·exact zg5 rx fx t f.2 u' hu
def inV (x:V) (xs:List V):Bool:=xs.any fun y=>eqV y x
theorem zez:CallR X (.builtin "len") (fun xs H Q=>∃p ys,xs=[.ref p]∧(SqL X.K H p ys∨SqT X.K H p ys)∧Q (.int ys.length) H):=by
 intro pins s σ H xs us Q I r h
 obtain ⟨p,ys,rfl,hq,q⟩:=h
 obtain ⟨u,rfl,rx⟩:=vals1 r
 cases rx
 have hn:=line63
 rcases hq with hq | hq
 ·obtain ⟨its,r',pl,hz⟩:=I.list hq
  have hlen:=r'.length
  exact Calls.call_len_list pl.isList (by simp only [List.size_toArray] <;> omega) ⟨.int ys.length,H,I.tok _,⟨s.toks+1,by rw [List.size_toArray,hlen]⟩,q⟩
 ·obtain ⟨its,r',pl,hz⟩:=I.tuple hq
  have hlen:=r'.length
  exact len_tuple pl (by simp only [List.size_toArray] <;> omega) ⟨.int ys.length,H,I.tok _,⟨s.toks+1,by rw [List.size_toArray,hlen]⟩,q⟩
theorem ze0:CallR X (.builtin "len") (fun xs H Q=>∃z,xs=[.str z]∧z.length≤sizeLine∧Q (.int z.length) H):=by
 intro pins s σ H xs us Q I r h
 obtain ⟨z,rfl,hz,q⟩:=h
 obtain ⟨u,rfl,t,rfl⟩:=vals1 r
 have hn:=line63
 exact len_str (by omega) ⟨.int z.length,H,I.tok _,⟨_,rfl⟩,q⟩
theorem CallR.or {f:Value} {r r':List V→Hp→VK→Prop} (h:CallR X f r) (h':CallR X f r'):CallR X f (fun xs H Q=>r xs H Q∨r' xs H Q):=by
 intro pins s σ H xs us Q I rs q
 rcases q with q | q
 ·exact h pins s σ H xs us Q I rs q
 ·exact h' pins s σ H xs us Q I rs q
theorem zbl:CallR X (.type "list") (fun xs H Q=>∃p ys,xs=[.ref p]∧(SqL X.K H p ys∨SqT X.K H p ys)∧∀l,H l=none→Q (.ref l) (upd H l (.lst ys))):=by
  intro pins s σ H xs us Q I r h
  obtain ⟨p,ys,rfl,hq,q⟩:=h
  obtain ⟨u,rfl,rx⟩:=vals1 r
  cases rx
  have fin:∀(its:List Value),Vals ys its→ys.length≤sizeLine→∀(h':Heap) (c':Nat),(∀b o',s.heap.get? b=some o'→h'.get? b=some o') →
      h'.get? s.heap.objs.size=some { cls:=.type "list",dict:=none,data:=.seq its.toArray c',slots:=#[] }→EP X pins σ Q (.ref s.heap.objs.size) { s with heap:=h' }:=fun its r' hz h' c' kp e =>
    ⟨.ref s.heap.objs.size,_,I.laid (t':=s.toks) kp (Nat.le_refl _) (show ObjOk X.prog X.w _ h' _ (.lst ys) from ⟨hz,its,c',r',e⟩),rfl,q _ (I.hok.fresh (Nat.le_refl _))⟩
  rcases hq with hq | hq
  · obtain ⟨its,r',pl,hz⟩:=I.list hq
    have hlen:=r'.length
    obtain ⟨o,ho,hc,n,hd⟩:=pl.isList
    exact call_list_seq p (.inl rfl) ho hc hd (fun h' c' kp e=>fin its r' hz h' c' kp e) (by simp only [List.size_toArray] <;> omega)
  · obtain ⟨its,r',pl,hz⟩:=I.tuple hq
    have hlen:=r'.length
    obtain ⟨o,ho,hc,n,hd⟩:=pl
    exact call_list_seq p (.inr rfl) ho hc hd (fun h' c' kp e=>fin its r' hz h' c' kp e) (by simp only [List.size_toArray] <;> omega)
def tyV (K:PySem.W.Frag) (T:String) (x:V) (H:Hp):Prop:=match x with
 | .str _=>T = "str"
 | .int _=>T = "int"
 | .ref p=>(T = "list"∧∃xs,SqL K H p xs)∨(T = "tuple"∧∃o,K.lookup p=some o∧o.cls=.type "tuple"∧o.dict=none) ∨
   (T = "dict"∧((∃kvs,H p=some (.dK kvs))∨∃kvs,H p=some (.dT kvs)))∨(T = "set"∧∃S n,H p=some (.set S n))
 | _=>False
theorem zqr {pins:List (Addr×Obj)} {σ:St} {H:Hp} {s:Shared} {T:String} {x:V} {v:Value} (I:Inv X pins σ H s) (r:RelV x v) (ty:tyV X.K T x H) :
  s.TypeIs v T∧∀a,v=.ref a→∃ob,s.heap.get? a=some ob∧ob.dict=none:=by
 cases x with
 | str z =>
  obtain ⟨t,rfl⟩:=r
  cases (show T = "str" from ty)
  exact ⟨typeIs_str s z t,fun _ e=>nomatch e⟩
 | int i =>
  obtain ⟨t,rfl⟩:=r
  cases (show T = "int" from ty)
  exact ⟨typeIs_int s i t,fun _ e=>nomatch e⟩
 | ref p =>
  cases r
  rcases ty with ⟨rfl,xs,hq⟩ | ⟨rfl,o,hk,hc,hd⟩ | ⟨rfl,hk⟩ | ⟨rfl,S,n,hk⟩
  ·obtain ⟨its,_,pl,_⟩:=I.list hq
   refine ⟨pl.isList.typeIs,fun a e=>?_⟩
   cases e
   obtain ⟨o,n,e,c,hd,_⟩:=pl
   exact ⟨o,e,hd⟩
  ·refine ⟨⟨o,I.kIn p o hk,hc⟩,fun a e=>?_⟩
   cases e
   exact ⟨o,I.kIn _ o hk,hd⟩
  ·have z:∃o,s.heap.get? p=some o∧o.ExactDict:=by
    rcases hk with ⟨kvs,hk⟩ | ⟨kvs,hk⟩
    ·obtain ⟨_,_,_,_,o,_,_,e,ex,_⟩:=I.hok p _ hk
     exact ⟨o,e,ex⟩
    ·obtain ⟨_,_,_,_,o,_,_,e,ex,_⟩:=I.hok p _ hk
     exact ⟨o,e,ex⟩
   obtain ⟨o,e,ex⟩:=z
   refine ⟨⟨o,e,ex.1⟩,fun a e2=>?_⟩
   cases e2
   exact ⟨o,e,ex.2.1⟩
  ·obtain ⟨o,_,_,_,e,ex,_⟩:=I.hok p _ hk
   refine ⟨⟨o,e,ex.1⟩,fun a e2=>?_⟩
   cases e2
   exact ⟨o,e,ex.2.1⟩
 | _=>exact False.elim ty
def tBM (K:PySem.W.Frag) (T:String) (r:V→List V→Hp→VK→Prop) (to:TE) (t:TA):TE:=fun σ H Q=>to σ H fun x H1=>tyV K T x H1∧t σ H1 fun xs H2=>r x xs H2 Q
variable {o e:Expr} {es:List Expr} {to:TE} {t:TA} {name:Str} {apos cpos:Pos} {T id:String} {r:V→List V→Hp→VK→Prop}
theorem zle (pa:PlainAttrs T) (slot:Slot T name id) (hty:typeOf (.builtin id)=pure (.type "method_descriptor")) (hm:MtR X id r) (ho:PE X o to) (ha:PA X (e::es) t)
  (hbase:attributeBase o name X.env (eval o X.env)=eval o X.env:=by rfl)
  (hfew:((backTo cpos (starEach (e::es) X.env)).all (fun x=>!x.1) && (backToKw cpos (keywordEach [] X.env)).all (fun x=>x.1.isSome)
   && decide ((e::es).length+([]:List Keyword).length+(if ([]:List Keyword).isEmpty then 0 else 1)<30))=true:=by rfl)
  (hline:(apos.endLine == cpos.line)=true:=by rfl) (hs:starEach (e::es) X.env=(false,eval e X.env)::starEach es X.env:=by rfl) (hplain:(backTo cpos (starEach es X.env)).any (·.1)=false:=by rfl) :
  PE X (.Call (.Attribute o name apos) (e::es) [] cpos) (tBM X.K T r to t):=by
 intro pins s σ H Q I h
 refine wpAny_Call_method_late hbase hfew hline rfl (thn (ho pins s σ H _ I h) fun v s1 ⟨x,H1,I1,r1,ty,q1⟩=>?_)
 obtain ⟨h1,h2⟩:=zqr I1 r1 ty
 refine ⟨T,id,pa,slot,hty,h1,h2,?_⟩
 have hA:=ha cpos pins s1 σ H1 _ I1 q1
 rw [hs] at hA ⊢
 refine Calls.callWith_builtin (by show (false || (backTo cpos (starEach es X.env)).any (·.1))=false; rw [hplain] <;> rfl) (Calls.evalArgs_plain ?_)
 exact thn hA fun us s2 ⟨vs,H2,I2,r2,q2⟩=>hm pins s2 σ H2 x vs v us Q I2 r1 r2 q2
end
end L2
namespace L2
open PySem PySem.Spec PyProof.Rows
def MtM (X:Cx) (id:String) (r:V→List V→Hp→VK→Prop):Prop :=
 ∀(pins:List (Addr×Obj)) (s:Shared) (σ:St) (H:Hp) (x:V) (xs:List V) (v:Value) (us:List Value) (Q:VK),Inv X pins σ H s→RelV x v→Vals xs us→r x xs H Q →
  wpAny (model X.prog X.w) X.A (call (.builtin id) (v::us)) (EP X pins σ Q) X.xe s
theorem Vals.one:∀{x:V} {us:List Value},Vals [x] us→∃u,us=[u]∧RelV x u
 | _,_,.cons r .nil=>⟨_,rfl,r⟩
theorem Vals.eraseIdx:∀{xs:List V} {us:List Value} (i:Nat),Vals xs us→Vals (xs.eraseIdx i) (us.eraseIdx i)
 | _,_,_,.nil=>.nil
 | _,_,0,.cons _ t=>t
 | _,_,i+1,.cons r t=>.cons r (Vals.eraseIdx i t)
theorem Vals.rep {xs:List V} {us:List Value} (h:Vals xs us):∀k:Nat,Vals (List.replicate k xs).flatten (List.replicate k us).flatten
 | 0=>.nil
 | k+1=>by
  rw [List.replicate_succ,List.replicate_succ,List.flatten_cons,List.flatten_cons]
  exact Vals.append h (Vals.rep h k)
theorem ze1 {α:Type}:∀(l:List α) (i:Nat),(l.eraseIdx i).length≤l.length
 | [],_=>Nat.le_refl _
 | _::_,0=>Nat.le_succ _
 | _::r,i+1=>Nat.succ_le_succ (ze1 r i)
theorem ze2 (its:List Value):∀(k:Nat) (acc:List Value),
  List.foldl (fun x1 x2=>x1++x2) acc.toArray (List.replicate k its.toArray)=(acc++(List.replicate k its).flatten).toArray
 | 0,acc=>by simp
 | k+1,acc=>by
  have e:acc.toArray++its.toArray=(acc++its).toArray:=by simp
  have e2:(acc++its)++(List.replicate k its).flatten=acc++(List.replicate (k+1) its).flatten:=by
   rw [List.replicate_succ,List.flatten_cons,List.append_assoc]
  rw [← e2,← ze2 its k (acc++its),← e,List.replicate_succ,List.foldl_cons]
section
variable {X:Cx} {pins:List (Addr×Obj)} {σ:St} {H:Hp} {s:Shared} {l b:Addr} {xs ys zs:List V}
theorem Inv.lset {its its':List Value} {n:Nat} {f:Array Value→Array Value} {t':Nat} (I:Inv X pins σ H s) (hH:H l=some (.lst xs))
    (e:s.heap.get? l=some { cls:=.type "list",data:=.seq its.toArray n }) (hf:f its.toArray=its'.toArray) (hv:Vals ys its') (hz:ys.length≤sizeLine) :
    Inv X pins σ (upd H l (.lst ys)) { s with heap:=s.heap.update l (Obj.mapSeq f),toks:=t' }:=by
  have q:=PySem.IsL.update e f
  rw [hf] at q
  refine I.write (x:=l) (e:=l) (by rw [hH]; exact trivial) (.inl rfl) (fun b' u hb hu=>(Heap.get?_update_other s.heap (Obj.mapSeq f) (Ne.symm hb)).trans hu) ⟨_,q⟩ ?_
  exact ⟨hz,its',_,hv,q⟩
theorem Inv.lnew {its:List Value} {t':Nat} (I:Inv X pins σ H s) (hv:Vals ys its) (hz:ys.length≤sizeLine) :
    Inv X pins σ (upd H s.heap.objs.size (.lst ys)) { s with heap:=s.heap.push { cls:=.type "list",data:=.seq its.toArray },toks:=t' } :=
  I.laid (fun _ _ q=>Heap.get?_push_of_some _ q) (Nat.le_refl _) ⟨hz,its,0,hv,Heap.get?_push_size _ rfl⟩
theorem Inv.fresh (I:Inv X pins σ H s):H s.heap.objs.size=none:=I.hok.fresh (Nat.le_refl _)
theorem Inv.lstM (I:Inv X pins σ H s) (hH:H l=some (.lst xs)):xs.length≤sizeLine∧∃(its:List Value) (n:Nat),Vals xs its∧xs.length=its.length∧s.heap.get? l=some { cls:=.type "list",data:=.seq its.toArray n }:=by
  obtain ⟨z,its,n,r,e⟩:=I.hok l _ hH
  exact ⟨z,its,n,r,r.length,e⟩
theorem notLongL {n:Nat} (h:n≤sizeLine):Builtin.List.listTooLong n=false:=by
 unfold Builtin.List.listTooLong
 exact decide_eq_false (by omega)
end
section
variable {X:Cx}
def rAppend:V→List V→Hp→VK→Prop:=fun x vs H Q=>∃l xs y,x=.ref l∧vs=[y]∧H l=some (.lst xs)∧xs.length<sizeLine∧Q .non (upd H l (.lst (xs++[y])))
theorem zaw:MtM X "list.append" rAppend:=by
 intro pins s σ H x vs v us Q I rx rv h
 obtain ⟨l,xs,y,rfl,rfl,hH,hz,q⟩:=h
 cases rx
 obtain ⟨u,rfl,ru⟩:=rv.one
 obtain ⟨z,its,n,r,hl,e⟩:=I.lstM hH
 refine call_meets F.slot_list_append ⟨_,e,rfl⟩ F.entry_list_append (F.args_list_append_2 _ _) (PySem.list_append l its.toArray n u (by rw [List.size_toArray]; omega)) ⟨e,?_⟩
 refine ⟨.non,_,I.lset (its':=its++[u]) hH e (by simp) (r.append (.cons ru .nil)) ?_,rfl,q⟩
 rw [List.length_append,List.length_singleton]
 omega
def rPopAt:V→List V→Hp→VK→Prop:=fun x vs H Q=>∃l xs i k y,x=.ref l∧vs=[.int i]∧H l=some (.lst xs)∧-(2 ^ 63)≤i∧i<2 ^ 63∧seqIndex? i xs.length=some k∧xs[k]?=some y∧Q y (upd H l (.lst (xs.eraseIdx k)))
theorem zlf:MtM X "list.pop" rPopAt:=by
 intro pins s σ H x vs v us Q I rx rv h
 obtain ⟨l,xs,i,k,y,rfl,rfl,hH,h1,h2,hk,hy,q⟩:=h
 cases rx
 obtain ⟨u,rfl,ru⟩:=rv.one
 obtain ⟨t,rfl⟩:=ru
 obtain ⟨z,its,n,r,hl,e⟩:=I.lstM hH
 obtain ⟨w,hw,rw'⟩:=r.get hy
 refine call_meets F.slot_list_pop ⟨_,e,rfl⟩ F.entry_list_pop (F.args_list_pop_2 _ _)
  (MeetsSeq.list_pop_at l its.toArray n i t k w (fitsIndex_both h1 h2) (by rw [List.size_toArray,← hl]; exact hk) (by rw [← Array.getElem?_toList]; exact hw) (by rw [List.size_toArray]; omega)) ⟨e,?_⟩
 refine ⟨y,_,I.lset (its':=its.eraseIdx k) hH e ?_ (r.eraseIdx k) ?_,rw',q⟩
 ·show its.toArray.eraseIdxIfInBounds k=(its.eraseIdx k).toArray
  rw [List.eraseIdxIfInBounds_toArray]
 ·have:=ze1 xs k
  omega
theorem zn6 {α:Type} (xs:List α) (k:Nat):(List.replicate k xs).flatten.length=k * xs.length:=by
 induction k with
 | zero=>simp
 | succ k ih=>rw [List.replicate_succ,List.flatten_cons,List.length_append,ih,Nat.succ_mul,Nat.add_comm]
end
section
variable {prog:Program} {w:World} {A:Around} {E:Value→Shared→Prop} {s:Shared}
end
section
variable {X:Cx}
end
end L2
namespace Att
open PySem PySem.W PySem.Calls PyProof.Rows
theorem zb8 {P:Params} {h:Heap}:∀(ns:List Int) (vs:List Value),WellAll P h vs (ns.map WData.int)→IntsAre vs ns:=by
 intro ns
 induction ns with
 | nil =>
  intro vs w
  rw [List.map_nil] at w
  cases w
  exact .nil
 | cons n ns ih =>
  intro vs w
  rw [List.map_cons] at w
  cases w with
  | cons a b =>
   cases a
   exact .cons _ _ (ih _ b)
theorem zjb {l:OpenLaw} {n:Nat} (hn:l.most=some n) {P:Params} {h:Heap} {args:List WData} {vals:List Value}
    (hpre:l.row.toRowW.claim.pre args=true) (hwl:WellAll P h vals args) :
    ∃a vs ns,vals=[Value.ref a]∧args=[WData.list (ns.map WData.int)]∧h.get? a=some { cls:=.type "list",data:=.seq vs.toArray }∧IntsAre vs ns∧ns.length≤n:=by
  have hsh:WShape.hasAll [] args [.list .int]=true:=(pre_splitW hpre).1
  have hc:l.pre.holds [] { args:=args }=true:=(pre_splitW hpre).2
  obtain ⟨d,r,rfl,h1,h2⟩:=hasAllW_cons hsh
  obtain rfl:=hasAllW_nil h2
  obtain ⟨xs,rfl,h3⟩:=hasW_list h1
  obtain ⟨ns,rfl⟩:=items_int h3
  have hlen:ns.length≤n:=by
    unfold OpenLaw.pre at hc
    have h4:(WTm.not (.lt (.lit (.int (n:Int))) (.len (.arg 0)))).holds [] { args:=[.list (ns.map .int)] }=true:=by
      have h4:=(holds_andW hc).1
      rw [hn] at h4
      exact h4
    have h5:=condW_of h4 (w_not (w_lt w_lit (w_len_list (w_arg rfl))))
    rw [List.length_map] at h5
    refine Nat.le_of_not_lt fun q=>?_
    have q':(n:Int)<((ns.length:Nat):Int):=by omega
    first
      | (rw [decide_eq_true q'] at h5; exact absurd h5 (by decide))
      | (simp at h5; omega)
  cases hwl with
  | cons w1 w2 =>
    cases w2
    cases w1 with
    | list ho hall=>exact ⟨_,_,ns,rfl,rfl,ho,zb8 ns _ hall,hlen⟩
theorem zjc (l:OpenLaw) (args:List WData):l.row.toRowW.claim.post args (.bool true) args=true :=
  postW_of (r:=l.row.toRowW) (X:=(true == true))
    (show WShape.has [] (.bool true) .bool=true by first | rfl | decide | simp [WShape.has,WShape.arms,WShape.armsAll])
    (show (WTm.eq .res (.lit (.bool true))).value [] { args:=args,res:=some (.bool true),after:=args }=some (.bool (true == true)) from w_eq_bool (w_res rfl) w_lit) rfl
theorem attach_call {l:OpenLaw} {n:Nat} {q:Program} {loose:List Str} {XP:(Str→Option Value)→Heap→Prop} {YP:World→Heap→Prop} {d:DefRec}
    (hn:l.most=some n) (hdf:d.params.defaults=[])
    (call:∀(w:World) (s₀ s₁:Shared) (mg mb:Str→Option Value) (fa:Addr) (o:Obj) (pm cd doc:Value) (a:Addr) (vs:List Value) (ns:List Int),
      Ground q loose [] XP w s₀ mg mb s₁.heap→YP w s₁.heap →
      s₁.heap.get? fa=some o→o.data=.func (docDef d.name d.params d.body d.scope pm cd doc)→s₁.heap.CodeRec cd d.name→mg d.name=some (.ref fa) →
      s₁.heap.get? a=some { cls:=.type "list",data:=.seq vs.toArray }→IntsAre vs ns→ns.length≤n→s₁.gens = #[] →
      codeAny (model l.prog w) callerA (.call (.ref fa) ⟨[.ref a],[]⟩) (fun r s'=>r=.ok (.ret (.bool true))∧OldK s₁.heap s'.heap∧s'.os=s₁.os∧AllBare s'.gens) s₁) :
    WalkO q loose XP YP l.row.toRowW d [] (fun f vs=>PySem.call f vs):=by
  intro w s₀ s₁ mg mb G Y fa o pm cd doc dV kV ho hd hcd hD hmg hg args vals as hpre hlay hrd hwl hlo
  obtain rfl:dV=.none:=Dflts.none hD hdf
  obtain rfl:kV=.none:=Dflts.noKw hD
  obtain ⟨a,vs,ns,rfl,rfl,hobj,hints,hlen⟩:=zjb hn hpre hwl
  refine enter_call (codeAny_mono (call w s₀ s₁ mg mb fa o pm cd doc a vs ns G Y ho (fd_plain hd) hcd hmg hobj hints hlen hg) fun r s' hq=>?_)
  obtain ⟨rfl,h2,h3,h4⟩:=hq
  exact ⟨.inl ⟨.bool true,.bool true,[],rfl,fun _=>rfl,.bool true,zjc l _,fun _=>⟨List.Pairwise.nil,fun _ hm=>(nomatch hm)⟩⟩,h2,h3,h4⟩
section
variable {prog:Program} {w:World} {A:Around} {E:Value→Shared→Prop} {s:Shared} {K:Frag}
end
end Att
namespace L2
open PySem PySem.Spec PyProof.Rows
theorem ze3:∀{vs:List Value} {ns:List Int},IntsAre vs ns→Vals (ns.map V.int) vs
 | _,_,.nil=>.nil
 | _,_,.cons n t h=>.cons ⟨t,rfl⟩ (ze3 h)
def Only (H:Hp):Prop:=∀b,H b=none∨∃o xs,H b=some (.frz o (.lst xs))
theorem zlg {P:Program} {w:World} {K:PySem.W.Frag} {mg mb:Str→Option Value} {CX:CXT} {k:Nat} {fa a:Addr} {fd:FuncData} {x:Str} {sp:Sp} {s₁:Shared} {vs:List Value} {ns:List Int}
    (KX:K.In s₁.heap) (hns:s₁.heap.Ns mainGlobals mg) (hb:s₁.heap.Ns builtinsNs mb) (hbb:∀x:Str,x≠"__name__"→mb x=bootBuiltins x) (hlim:s₁.heap.NoLimit) (hg:s₁.gens = #[])
    (ha:s₁.heap.get? a=some { cls:=.type "list",data:=.seq vs.toArray }) (hi:IntsAre vs ns) (hl:ns.length≤sizeLine) (hr:Room k callerA)
    (F:∀base:Heap,K.In base→base.Ns mainGlobals mg→FnOk P w K mg base CX k fa fd [x] sp) (hbind:∀(s:Shared) (u:Value),BindsTo s fd ⟨[u],[]⟩ [(x,u)])
    (hsp:∀H:Hp,Only H→SqL K H a (ns.map V.int)→sp [.ref a] H (fun v _=>v=.bl true) fun _ _ _=>False)
    (hCX:∀H e s',CX [] H s₁ (fun _ _ _=>False) e s'→False) :
    codeAny (model P w) callerA (.call (.ref fa) ⟨[.ref a],[]⟩) (fun r s'=>r=.ok (.ret (.bool true))∧OldK s₁.heap s'.heap∧s'.os=s₁.os∧AllBare s'.gens) s₁:=by
  have rv:=ze3 hi
  have lenV:=hi.length
  have core:∀H:Hp,Only H→SqL K H a (ns.map V.int)→HOk P w H s₁.heap→(∀b,H b≠none→b=a)→(H a≠none→K.lookup a=none) →
      codeAny (model P w) callerA (.call (.ref fa) ⟨[.ref a],[]⟩) (fun r s'=>r=.ok (.ret (.bool true))∧OldK s₁.heap s'.heap∧s'.os=s₁.os∧AllBare s'.gens) s₁:=by
    intro H hO hS hok hA hK
    have base_of:∀{b:Addr} {o:Obj},s₁.heap.get? b=some o→H b=none→(hidT s₁.heap H).get? b=some o:=fun e n=>zk5 e n
    have noA:∀{b:Addr} {o:Obj} {es:Array DictEntry} {ep:Nat},s₁.heap.get? b=some o→o.data=.dict es ep→H b=none:=fun {b o es ep} e d=>by
      cases q:H b with
      | none=>rfl
      | some u =>
        have e':b=a:=hA b (by rw [q]; simp)
        subst e'
        rw [ha] at e; cases e
        have d':Data.seq vs.toArray _=Data.dict es ep:=d
        cases d'
    have nsK:∀{b:Addr} {m:Str→Option Value},s₁.heap.Ns b m→(hidT s₁.heap H).Ns b m:=fun {b m} ⟨o,es,ep,e,d,r⟩=>⟨o,es,ep,base_of e (noA e d),d,r⟩
    have hKb:K.In (hidT s₁.heap H):=fun b o e=>base_of (KX b o e) (by
      cases q:H b with
      | none=>rfl
      | some u =>
        have e':b=a:=hA b (by rw [q]; simp)
        subst e'
        rw [hK (by rw [q]; simp)] at e; cases e)
    have hM:Mod K mg (hidT s₁.heap H):=⟨hKb,nsK hns,⟨mb,nsK hb,hbb⟩,let ⟨mc,h1,h2⟩:=hlim; ⟨mc,nsK h1,h2⟩⟩
    have e0:Env0 P w K mg (hidT s₁.heap H) callerA [] s₁ H:=⟨rfl,hM,fun b o e=>znm e,Nat.le_of_eq (ziw _ _),trivial,fun b hb=>absurd (show b∈([]:List Addr) from hb) (by simp),hok,.of_eq hg⟩
    refine codeAny_mono ((F _ hKb (nsK hns)).run callerA [] s₁ H ⟨[.ref a],[]⟩ [.ref a] [.ref a] _ _ hr e0 (hbind s₁ (.ref a)) (.cons rfl .nil) (hsp H hO hS)) fun r s' h=>?_
    cases r with
    | error e=>exact (hCX H e s' h).elim
    | ok fl =>
      cases fl with
      | next=>exact False.elim h
      | brk=>exact False.elim h
      | cont=>exact False.elim h
      | ret u =>
        obtain ⟨v,H',os,bare,un,hok',r',q⟩:=h
        have q':v=.bl true:=q
        subst q'
        obtain rfl:u=Value.bool true:=r'
        refine ⟨rfl,OldK.of_keep fun b o e=>?_,os,bare⟩
        cases q:H b with
        | none=>exact un.keep b o e q (by intro z; exact absurd (show b∈([]:List Addr) from z) (by simp)) (by simp)
        | some u =>
          rcases hO b with z | ⟨ob,xs,z⟩
          · rw [q] at z; cases z
          · have z2:=un.frzs b ob _ z
            obtain ⟨e1,_⟩:=hok b _ z
            obtain ⟨e2,_⟩:=hok' b _ z2
            rw [e] at e1; cases e1
            exact e2
  cases hk:K.lookup a with
  | some o =>
    have e:=KX a o hk
    rw [ha] at e
    cases e
    refine core (fun _=>none) (fun _=>.inl rfl) (.inr ⟨_,vs.toArray,_,hk,rfl,rfl,rfl,by rw [List.size_toArray,lenV]; exact hl,by simpa using rv⟩) (fun b u z=>by have z':(none:Option HO)=some u:=z; cases z') (fun b z=>absurd rfl z) fun z=>absurd rfl z
  | none =>
    refine core (fun b=>if b=a then some (.frz { cls:=.type "list",data:=.seq vs.toArray } (.lst (ns.map V.int))) else none) (fun b=>?_) (.inl (.inr ⟨{ cls:=.type "list",data:=.seq vs.toArray },if_pos rfl⟩)) (fun b u z=>?_) (fun b z=>?_) fun _=>hk
    · by_cases hb:b=a
      · exact .inr ⟨_,_,if_pos hb⟩
      · exact .inl (if_neg hb)
    · by_cases hb:b=a
      · have z':=(if_pos hb).symm.trans z
        cases z'
        subst hb
        exact ⟨ha,by rw [List.length_map]; exact hl,vs,_,rv,ha⟩
      · have z':=(if_neg hb).symm.trans z
        cases z'
    · by_cases hb:b=a
      · exact hb
      · exact absurd (if_neg hb) z
end L2
namespace L2
open PySem PySem.Spec PyProof.Rows
theorem walk_of {l:PySem.W.OpenLaw} {n k:Nat} {q:Program} {loose:List Str} {XP:(Str→Option Value)→Heap→Prop} {YP:World→Heap→Prop} {d:DefRec} {K:Params→PySem.W.Frag} {CX:World→CXT} {sp:World→Sp} {x:Str}
  (hn:l.most=some n) (hn2:n≤sizeLine) (hdf:d.params.defaults=[]) (hr:Room k callerA)
  (hY:∀(w:World) (h:Heap),YP w h→(K w.params).In h)
  (F:∀(w:World) (mg:Str→Option Value) (fa:Addr) (h:Heap),(K w.params).In h→h.Ns mainGlobals mg→mg d.name=some (.ref fa) →
   ∃fd:FuncData,(∀(s:Shared) (u:Value),BindsTo s fd ⟨[u],[]⟩ [(x,u)]) ∧
    ∀base:Heap,(K w.params).In base→base.Ns mainGlobals mg→FnOk l.prog w (K w.params) mg base (CX w) k fa fd [x] (sp w))
  (hsp:∀(w:World) (H:Hp) (a:Addr) (ns:List Int),ns.length≤n→Only H→SqL (K w.params) H a (ns.map V.int)→sp w [.ref a] H (fun v _=>v=.bl true) fun _ _ _=>False)
  (hCX:∀(w:World) (H:Hp) (s:Shared) (e:Value) (s':Shared),CX w [] H s (fun _ _ _=>False) e s'→False) :
  PySem.W.WalkO q loose XP YP l.row.toRowW d [] (fun f vs=>PySem.call f vs):=by
 refine Att.attach_call hn hdf fun w s₀ s₁ mg mb fa o pm cd doc a vs ns G Y ho hd hcd hmg hobj hints hlen hg=>?_
 have KX:=hY w _ Y
 obtain ⟨fd,hb,hF⟩:=F w mg fa _ KX G.T.g hmg
 exact zlg KX G.T.g G.T.b G.T.builtins G.T.nolimit hg hobj hints (Nat.le_trans hlen hn2) hr hF hb (fun H hO hS=>hsp w H a ns hlen hO hS) fun H e s'=>hCX w H s₁ e s'
end L2
namespace L2
open PySem PySem.Spec PyProof.Rows
def inClass (s:Stmt) (j:Nat):Stmt:=match s with
 | .ClassDef _ _ _ body _ _ _ _ _ _ _=>body.getD j (.Pass ⟨0,0,0,0⟩)
 | _=>.Pass ⟨0,0,0,0⟩
def defArgs (s:Stmt):Arguments:=match s with
  | .FunctionDef _ a _ _ _ _ _ _ _ _=>a
  | _=>{ posonlyargs:=[],args:=[],vararg:=none,kwonlyargs:=[],kw_defaults:=[],kwarg:=none,defaults:=[] }
def defBody (s:Stmt):List Stmt:=match s with
 | .FunctionDef _ _ b _ _ _ _ _ _ _=>b
 | _=>[]
def defScope (s:Stmt):Scope:=match s with
  | .FunctionDef _ _ _ _ _ _ sc _ _ _=>sc
  | _=>{ kind:=.function,names:=[],isGenerator:=false,isCoroutine:=false }
abbrev CX0:CXT:=fun _ _ _ _ _ _=>False
abbrev E0:XK:=fun _ _ _=>False
theorem pass0 {X:Cx}:Passes CX0 X E0:=fun _ _ _ _ _ _ _ h=>h.elim
section
variable {P:Program} {w:World} {K:PySem.W.Frag} {mg:Str→Option Value} {base:Heap}
end
theorem zb9 {A:Around} {k:Nat} (hr:Room k A):A.units+1<cLine:=Nat.lt_of_le_of_lt (Nat.add_le_add_left (by decide:1≤64) _) hr.units
theorem small1000 {n:Nat} (h:n≤1000):n<sizeLine:=Nat.lt_of_le_of_lt h (by decide)
section
variable {X:Cx}
theorem pv (i:Nat) {x:Str} {pos:Pos} (hN:X.N[i]?=some x:=by rfl) (hv:Vis X.env.scope x:=by first | exact Or.inl rfl | exact Or.inr (Or.inl rfl) | exact Or.inr (Or.inr rfl)) (hd:(x == ("__debug__":Str))=false:=by decide)
  (hcd:(x == ("__classdict__":Str))=false:=by decide):PE X (.Name x pos) (tVar i):=jc hN hv hd hcd
end
def Same (H H':Hp):Prop:=∀b o,H b=some o→H' b=some o
theorem Same.refl (H:Hp):Same H H:=fun _ _ h=>h
theorem Same.trans {H H1 H2:Hp} (a:Same H H1) (b:Same H1 H2):Same H H2:=fun c o h=>b c o (a c o h)
theorem Same.free {H H':Hp} (e:Same H H') {l:Addr} (h:H' l=Option.none):H l=Option.none:=by
 cases q:H l with
 | none=>rfl
 | some o =>
  rw [e l o q] at h
  cases h
theorem Same.seq {K:PySem.W.Frag} {H H':Hp} {a:Addr} {xs:List V} (e:Same H H') (h:SqL K H a xs):SqL K H' a xs:=by
 rcases h with (h | ⟨o,h⟩) | h
 ·exact .inl (.inl (e _ _ h))
 ·exact .inl (.inr ⟨o,e _ _ h⟩)
 ·exact .inr h
end L2
namespace L2
open PySem PySem.Spec PyProof.Rows
section
variable {κ:Type} [DecidableEq κ]
def valV (kvs:List (κ×V)) (k:κ):Option V:=(kvs.find? fun kv=>decide (kv.1=k)).map (·.2)
def putK (kvs:List (κ×V)) (k:κ) (v:V):List (κ×V) :=
 if (kvs.any fun kv=>decide (kv.1=k))=true then kvs.map (fun kv=>if kv.1=k then (kv.1,v) else kv) else kvs++[(k,v)]
theorem zdt {p:κ×V} {r:List (κ×V)} {k:κ} (e:p.1=k):valV (p::r) k=some p.2:=by simp [valV,List.find?_cons,e]
theorem zdu {p:κ×V} {r:List (κ×V)} {k:κ} (e:¬p.1=k):valV (p::r) k=valV r k:=by simp [valV,List.find?_cons,e]
theorem zg6 (k:κ):∀kvs:List (κ×V),(kvs.any fun kv=>decide (kv.1=k))=(valV kvs k).isSome
 | []=>rfl
 | p::r=>by
  rw [List.any_cons]
  by_cases e:p.1=k
  ·simp only [zdt e,decide_eq_true e,Bool.true_or,Option.isSome_some]
  ·rw [zdu e,decide_eq_false e,Bool.false_or]; exact zg6 k r
theorem zak (kvs:List (κ×V)) (k:κ) (v:V):(putK kvs k v).length≤kvs.length+1:=by
 unfold putK
 split
 ·rw [List.length_map]; omega
 ·rw [List.length_append,List.length_cons,List.length_nil]; omega
theorem RelO.isSome_eq {o:Option V} {u:Option Value} (r:RelO o u):o.isSome=u.isSome:=by
 cases o with
 | none=>cases u with
  | none=>rfl
  | some _=>exact (show False from r).elim
 | some _=>cases u with
  | none=>exact (show False from r).elim
  | some _=>rfl
theorem KV.val {kvs:List (κ×V)} {vs:List (κ×Value)} (r:KV kvs vs) (k:κ):RelO (valV kvs k) (valueAt vs k):=by
 unfold KV at r
 induction r with
 | nil=>exact True.intro
 | @cons p q ps qs h t ih =>
  obtain ⟨h1,h2⟩:=h
  by_cases e:p.1=k
  ·have e':q.1=k:=h1.symm.trans e
   have b:valueAt (q::qs) k=some q.2:=by simp [valueAt,List.find?_cons,e']
   rw [zdt e,b]; exact h2
  ·have e':¬q.1=k:=fun z=>e (h1.trans z)
   have b:valueAt (q::qs) k=valueAt qs k:=by simp [valueAt,List.find?_cons,e']
   rw [zdu e,b]; exact ih
theorem KV.any {kvs:List (κ×V)} {vs:List (κ×Value)} (r:KV kvs vs) (k:κ):(kvs.any fun kv=>decide (kv.1=k))=vs.any fun kv=>decide (kv.1=k):=by
 unfold KV at r
 induction r with
 | nil=>rfl
 | cons h t ih=>rw [List.any_cons,List.any_cons,ih,h.1]
theorem KV.repl {kvs:List (κ×V)} {vs:List (κ×Value)} (r:KV kvs vs) (k:κ) {y:V} {u:Value} (ry:RelV y u) :
  KV (kvs.map fun kv=>if kv.1=k then (kv.1,y) else kv) (vs.map fun kv=>if kv.1=k then (kv.1,u) else kv):=by
 unfold KV at r ⊢
 induction r with
 | nil=>exact .nil
 | @cons p q ps qs h t ih =>
  rw [List.map_cons,List.map_cons]
  refine .cons ?_ ih
  obtain ⟨h1,h2⟩:=h
  by_cases e:p.1=k
  ·rw [if_pos e,if_pos (h1.symm.trans e)]; exact ⟨h1,ry⟩
  ·rw [if_neg e,if_neg (fun z=>e (h1.trans z))]; exact ⟨h1,h2⟩
theorem KV.put {kvs:List (κ×V)} {vs:List (κ×Value)} (r:KV kvs vs) (k:κ) {y:V} {u:Value} (ry:RelV y u):KV (putK kvs k y) (stored vs k u):=by
 unfold putK stored
 rw [r.any k]
 by_cases e:(vs.any fun kv=>decide (kv.1=k))=true
 ·rw [if_pos e,if_pos e]; exact r.repl k ry
 ·rw [if_neg e,if_neg e]; exact Paired.snoc r ⟨rfl,ry⟩
theorem KV.length {kvs:List (κ×V)} {vs:List (κ×Value)} (r:KV kvs vs):kvs.length=vs.length:=Paired.length r
end
theorem zif {P:Program} {w:World} {k:Key} {u:Value} (r:RelV (kV k) u):(mixKind P w).is k u=true:=by
 cases k with
 | inl i=>obtain ⟨t,e⟩:=(show ∃t,u=Value.int i t from r); subst e; exact zf6 P w i t
 | inr x=>obtain ⟨t,e⟩:=(show ∃t,u=Value.str x t from r); subst e; exact zf7 P w x t
theorem ze4 {P:Program} {w:World}:∀{ks:List Key} {us:List Value},Vals (ks.map kV) us→ItemsAre (mixKind P w) ks us
 | [],_,r=>by rw [List.map_nil] at r; cases r; exact .nil
 | k::ks,_,r=>by
  rw [List.map_cons] at r
  cases r with
  | cons h t=>exact .cons (zif h) (ze4 t)
abbrev KT (H:Hp):List (List Key×V)→List (List Key×Addr×Value)→Prop:=Paired fun p q=>p.1=q.1∧H q.2.1=some (.tup (p.1.map kV))∧RelV p.2 q.2.2
theorem KT.val {H:Hp} {kvs:List (List Key×V)} {xs:List (List Key×Addr×Value)} (r:KT H kvs xs) (k:List Key):RelO (valV kvs k) ((atKey xs k).map (·.2)):=by
 induction r with
 | nil=>exact True.intro
 | @cons p q ps qs h t ih =>
  obtain ⟨h1,_,h2⟩:=h
  by_cases e:p.1=k
  ·have e':q.1=k:=h1.symm.trans e
   have b:atKey (q::qs) k=some q.2:=by simp [atKey,List.find?_cons,e']
   rw [zdt e,b]; exact h2
  ·have e':¬q.1=k:=fun z=>e (h1.trans z)
   have b:atKey (q::qs) k=atKey qs k:=by simp [atKey,List.find?_cons,e']
   rw [zdu e,b]; exact ih
theorem KT.repl {H:Hp} {kvs:List (List Key×V)} {xs:List (List Key×Addr×Value)} (r:KT H kvs xs) (k:List Key) {y:V} {u:Value} (ry:RelV y u) :
  KT H (kvs.map fun kv=>if kv.1=k then (kv.1,y) else kv) (xs.map (putAt k u)):=by
 induction r with
 | nil=>exact .nil
 | @cons p q ps qs h t ih =>
  rw [List.map_cons,List.map_cons]
  refine .cons ?_ ih
  obtain ⟨h1,h2,h3⟩:=h
  unfold putAt
  by_cases e:p.1=k
  ·rw [if_pos e,if_pos (h1.symm.trans e)]; exact ⟨h1,h2,ry⟩
  ·rw [if_neg e,if_neg (fun z=>e (h1.trans z))]; exact ⟨h1,h2,h3⟩
theorem KT.put {H:Hp} {kvs:List (List Key×V)} {xs:List (List Key×Addr×Value)} (r:KT H kvs xs) (k:List Key) {b:Addr} {y:V} {u:Value} (hb:H b=some (.tup (k.map kV))) (ry:RelV y u) :
  KT H (putK kvs k y) (storedH xs k b u):=by
 have e:(kvs.any fun kv=>decide (kv.1=k))=(atKey xs k).isSome:=by
  rw [zg6,(r.val k).isSome_eq,Option.isSome_map]
 unfold putK storedH
 rw [e]
 by_cases q:(atKey xs k).isSome=true
 ·rw [if_pos q,if_pos q]; exact r.repl k ry
 ·rw [if_neg q,if_neg q]; exact Paired.snoc r ⟨rfl,hb,ry⟩
theorem KT.keeps {H H':Hp} {kvs:List (List Key×V)} {xs:List (List Key×Addr×Value)} (r:KT H kvs xs) (ht:∀b ys,H b=some (.tup ys)→H' b=some (.tup ys)):KT H' kvs xs :=
 Paired.mapP r fun _ _ z=>⟨z.1,ht _ _ z.2.1,z.2.2⟩
section
variable {P:Program} {w:World} {H:Hp} {h:Heap} {a:Addr}
theorem zqs {u:HO} (ok:HOk P w H h) (e:Rd H a u):ObjOk P w H h a u:=e.ok ok
theorem zig {kvs:List (Key×V)} (ok:HOk P w H h) (e:Rd H a (.dK kvs)):kvs.length≤sizeLine∧(a == sysModules)=false∧∃vs,KV kvs vs∧h.DictOf (mixKind P w) a vs :=
 show ObjOk P w H h a (.dK kvs) from zqs ok e
theorem zqt {kvs:List (Key×V)} (ok:HOk P w H h) (e:H a=some (.dK kvs)):kvs.length≤sizeLine∧(a == sysModules)=false∧∃vs,KV kvs vs∧h.DictOf (mixKind P w) a vs:=zig ok (.inl e)
theorem ze5 {ks:List Key} (ok:HOk P w H h) (e:H a=some (.tup (ks.map kV))):(tupleKind (mixKind P w)).is h ks a:=by
 obtain ⟨_,its,r,o,h1,h2,n,h3⟩:=(show ObjOk P w H h a (.tup (ks.map kV)) from ok a _ e)
 exact ⟨o,its.toArray,n,h1,h2,h3,by simpa using ze4 r⟩
theorem zjd {kvs:List (List Key×V)} (ok:HOk P w H h) (e:Rd H a (.dT kvs)):kvs.length≤sizeLine∧(a == sysModules)=false ∧
  ∃xs,KT H kvs xs∧h.DictOfH (tupleKind (mixKind P w)) a xs:=by
 obtain ⟨z,y,xs,r,o,es,ep,h1,h2,h3,h4,h5⟩:=(show ObjOk P w H h a (.dT kvs) from zqs ok e)
 refine ⟨z,y,xs,r,o,es,ep,h1,h2,h3,h4,fun x hx=>?_,h5⟩
 have all:∀{l:List (List Key×V)} {m:List (List Key×Addr×Value)},KT H l m→∀x∈m,(tupleKind (mixKind P w)).is h x.1 x.2.1:=by
  intro l m q
  induction q with
  | nil=>intro x hx; exact nomatch hx
  | @cons p q ps qs hq t ih =>
   intro x hx
   rcases List.mem_cons.mp hx with e | hx
   ·subst e
    exact ze5 ok (by rw [← hq.1]; exact hq.2.1)
   ·exact ih x hx
 exact all r x hx
theorem zse {kvs:List (List Key×V)} (ok:HOk P w H h) (e:H a=some (.dT kvs)):kvs.length≤sizeLine∧(a == sysModules)=false ∧
  ∃xs,KT H kvs xs∧h.DictOfH (tupleKind (mixKind P w)) a xs:=zjd ok (.inl e)
end
def DGet (H:Hp) (a:Addr) (y:V) (r:Option V):Prop :=
 (∃kvs k,Rd H a (.dK kvs)∧y=kV k∧r=valV kvs k)∨∃kvs k b,Rd H a (.dT kvs)∧y=.ref b∧H b=some (.tup (k.map kV))∧r=valV kvs k
def DPut (H:Hp) (a:Addr) (y v:V) (H':Hp):Prop :=
 (∃kvs k,H a=some (.dK kvs)∧y=kV k∧kvs.length<sizeLine∧H'=upd H a (.dK (putK kvs k v))) ∨
 ∃kvs k b,H a=some (.dT kvs)∧y=.ref b∧H b=some (.tup (k.map kV))∧kvs.length<sizeLine∧H'=upd H a (.dT (putK kvs k v))
theorem DGet.k {H:Hp} {a:Addr} {kvs:List (Key×V)} {k:Key} (e:H a=some (.dK kvs)):DGet H a (kV k) (valV kvs k):=.inl ⟨kvs,k,.inl e,rfl,rfl⟩
theorem DGet.t {H:Hp} {a b:Addr} {kvs:List (List Key×V)} {k:List Key} (e:H a=some (.dT kvs)) (eb:H b=some (.tup (k.map kV))):DGet H a (.ref b) (valV kvs k):=.inr ⟨kvs,k,b,.inl e,rfl,eb,rfl⟩
theorem DPut.k {H:Hp} {a:Addr} {kvs:List (Key×V)} {k:Key} {v:V} (e:H a=some (.dK kvs)) (hl:kvs.length<sizeLine):DPut H a (kV k) v (upd H a (.dK (putK kvs k v))):=.inl ⟨kvs,k,e,rfl,hl,rfl⟩
theorem DPut.t {H:Hp} {a b:Addr} {kvs:List (List Key×V)} {k:List Key} {v:V} (e:H a=some (.dT kvs)) (eb:H b=some (.tup (k.map kV))) (hl:kvs.length<sizeLine) :
  DPut H a (.ref b) v (upd H a (.dT (putK kvs k v))):=.inr ⟨kvs,k,b,e,rfl,eb,hl,rfl⟩
section
variable {X:Cx} {pins:List (Addr×Obj)} {σ:St} {H:Hp} {s:Shared} {a:Addr} {y v:V} {u r:Value} {o:Option V} {A:Around} {E:Value→Shared→Prop}
theorem Inv.big (I:Inv X pins σ H s):sysModules<s.heap.objs.size:=by
 have h:mainGlobals<s.heap.objs.size:=(I.mod.glob.keeps I.bk).lt
 exact Nat.lt_trans (by decide) h
theorem zje {Q:Value→Shared→Prop} (hu:A.units+1<cLine) (I:Inv X pins σ H s) (g:DGet H a y (some v)) (ry:RelV y u) (h:∀w' s',Inv X pins σ H s'→RelV v w'→Q w' s') :
  wpAny (model X.prog X.w) A (getItem (.ref a) u) Q E s:=by
 rcases g with ⟨kvs,k,e,ey,l⟩ | ⟨kvs,k,b,e,ey,eb,l⟩
 ·subst ey
  obtain ⟨z,hd,vs,rel,dd⟩:=zig I.hok e
  obtain ⟨w',hw,rw'⟩:=RelO.some_of (v:=v) (o:=valueAt vs k) (by rw [l]; exact rel.val k)
  exact wpAny_getItem_of (zif ry) dd.mapOf hw (h w' _ (I.tok _) rw')
 ·subst ey
  cases (show u=Value.ref b from ry)
  obtain ⟨z,hd,xs,rel,dd⟩:=zjd I.hok e
  obtain ⟨w',hw,rw'⟩:=RelO.some_of (v:=v) (o:=(atKey xs k).map (·.2)) (by rw [l]; exact rel.val k)
  obtain ⟨p,hp,hp2⟩:=Option.map_eq_some_iff.mp hw
  refine wpAny_getItem_heap (tupleKind_room_in1 hu) (ze5 I.hok eb) dd hp ?_
  rw [hp2]
  exact h w' _ (I.tok _) rw'
theorem d_in {Q:Value→Shared→Prop} (hu:A.units+1<cLine) (I:Inv X pins σ H s) (g:DGet H a y o) (ry:RelV y u) (h:∀s',Inv X pins σ H s'→Q (.bool o.isSome) s') :
  wpAny (model X.prog X.w) A (compareOp .In u (.ref a)) Q E s:=by
 rcases g with ⟨kvs,k,e,ey,l⟩ | ⟨kvs,k,b,e,ey,eb,l⟩
 ·subst ey
  obtain ⟨z,hd,vs,rel,dd⟩:=zig I.hok e
  refine wpAny_in_of (zif ry) hd dd.mapOf ?_
  rw [← (rel.val k).isSome_eq,← l]
  exact h _ (I.tok _)
 ·subst ey
  cases (show u=Value.ref b from ry)
  obtain ⟨z,hd,xs,rel,dd⟩:=zjd I.hok e
  refine wpAny_in_heap (tupleKind_room_in1 hu) (ze5 I.hok eb) hd dd ?_
  have q:=(rel.val k).isSome_eq
  rw [Option.isSome_map] at q
  rw [← q,← l]
  exact h _ (I.tok _)
theorem zn7 {Q:Value→Shared→Prop} (hu:A.units+1<cLine) (I:Inv X pins σ H s) (g:DGet H a y o) (ry:RelV y u) (h:∀s',Inv X pins σ H s'→Q (.bool (!o.isSome)) s') :
  wpAny (model X.prog X.w) A (compareOp .NotIn u (.ref a)) Q E s:=by
 rcases g with ⟨kvs,k,e,ey,l⟩ | ⟨kvs,k,b,e,ey,eb,l⟩
 ·subst ey
  obtain ⟨z,hd,vs,rel,dd⟩:=zig I.hok e
  refine wpAny_notIn_of (zif ry) hd dd.mapOf ?_
  rw [← (rel.val k).isSome_eq,← l]
  exact h _ (I.tok _)
 ·subst ey
  cases (show u=Value.ref b from ry)
  obtain ⟨z,hd,xs,rel,dd⟩:=zjd I.hok e
  refine wpAny_notIn_heap (tupleKind_room_in1 hu) (ze5 I.hok eb) hd dd ?_
  have q:=(rel.val k).isSome_eq
  rw [Option.isSome_map] at q
  rw [← q,← l]
  exact h _ (I.tok _)
theorem zgc {h':Heap} {t':Nat} {ob:HO} (I:Inv X pins σ H s) (mu:Mut (H a)) (hs:Heap.SameBut a s.heap h') (he:∃q,h'.get? a=some q) (new:ObjOk X.prog X.w (upd H a ob) h' a ob) :
  Inv X pins σ (upd H a ob) { s with heap:=h',toks:=t' } :=
 I.write (x:=a) (e:=a) mu (.inl rfl) (fun b q hb z=>(hs.2 b hb).trans z) he new
theorem zm8 {P:Program} {w:World} {H':Hp} {h':Heap} {kvs:List (Key×V)} {vs:List (Key×Value)} (z:kvs.length≤sizeLine) (hd:(a == sysModules)=false) (rel:KV kvs vs) (dd:h'.DictOf (mixKind P w) a vs) :
  ObjOk P w H' h' a (.dK kvs):=⟨z,hd,vs,rel,dd⟩
theorem zjf {H':Hp} {Q:Unit→Shared→Prop} (hu:A.units+1<cLine) (I:Inv X pins σ H s) (g:DPut H a y v H') (ry:RelV y u) (rv:RelV v r) (h:∀s',Inv X pins σ H' s'→Q () s') :
  wpAny (model X.prog X.w) A (setItem (.ref a) u r) Q E s:=by
 rcases g with ⟨kvs,k,e,ey,l,eH⟩ | ⟨kvs,k,b,e,ey,eb,l,eH⟩
 ·subst ey eH
  obtain ⟨z,hd,vs,rel,dd⟩:=zqt I.hok e
  have hz:vs.length≤sizeLine:=by rw [← rel.length]; exact z
  have hl:(putK kvs k v).length≤sizeLine:=by have:=zak kvs k v; omega
  refine wpAny_setItem_pairs (hsz:=hz) (zif ry) dd fun h' dd' hs=>h _ ?_
  have he:∃q,h'.get? a=some q:=let ⟨q,_,_,hq,_⟩:=dd'; ⟨q,hq⟩
  exact zgc I (by rw [e]; exact True.intro) hs he (zm8 hl hd (rel.put k rv) dd')
 ·subst ey eH
  cases (show u=Value.ref b from ry)
  obtain ⟨z,hd,xs,rel,dd⟩:=zse I.hok e
  have hz:xs.length≤sizeLine:=by rw [← Paired.length rel]; exact z
  have hl:(putK kvs k v).length≤sizeLine:=by have:=zak kvs k v; omega
  refine wpAny_setItem_heap (hsz:=hz) (tupleKind_room_in1 hu) (ze5 I.hok eb) dd fun h' dd' hs=>h _ ?_
  obtain ⟨q,es,ep,hq,h2,h3,h4,_,h5⟩:=dd'
  refine zgc I (by rw [e]; exact True.intro) hs ⟨q,hq⟩ ⟨hl,hd,_,(rel.put k eb rv).keeps fun c ys ec=>?_,q,es,ep,hq,h2,h3,h4,h5⟩
  rw [yh (zr5 ec e (fun z=>nomatch z))]
  exact ec
end
section
variable {X:Cx} {pins:List (Addr×Obj)} {σ:St} {H:Hp} {s:Shared} {a:Addr} {kvs:List (Key×V)} {k:Key} {u:Value} {A:Around} {E:Value→Shared→Prop}
theorem zsf {Q:Value→Shared→Prop} (I:Inv X pins σ H s) (e:Rd H a (.dK kvs)) (h:∀t s',Inv X pins σ H s'→Q (.int kvs.length t) s'):wpAny (model X.prog X.w) A (call (.builtin "len") [.ref a]) Q E s:=by
 obtain ⟨z,hd,vs,rel,dd⟩:=zig I.hok e
 refine call_len_dict hd dd (by rw [← rel.length]; rw [sizeLine_eq] at z; omega) ?_
 rw [← rel.length]
 exact h _ _ (I.tok _)
end
def NoSl (i:Expr):Prop:=∀ov iv,subscripted i false ov iv=operate [ov,iv] (getItem ov iv)
theorem zn8 {prog:Program} {w:World} {A:Around} {E:Value→Shared→Prop} {s:Shared} {env:Env} {value slice:Expr} {pos:Pos} {T id:String} {Q:Value→Shared→Prop}
  (hl:typeLookup (.type T) "__getitem__"=pure (some (.builtin id))) (hs:NoSl slice)
  (h:wpAny (model prog w) A (eval value env) (fun o s₁=>wpAny (model prog w) A (eval slice env) (fun i s₂=>s₂.TypeIs o T∧wpAny (model prog w) A (getItem o i) Q E s₂) E s₁) E s) :
  wpAny (model prog w) A (eval (.Subscript value slice pos) env) Q E s:=by
 refine Subscript_ (wpAny_mono h (fun o s₁ h₁=>wpAny_mono h₁ (fun i s₂ h₂=>?_) fun _ _ x=>x) fun _ _ x=>x)
 obtain ⟨hT,h₂⟩:=h₂
 unfold subscriptTail
 refine wpAny_bind ?_
 rw [getitemInPython_of_ne hT.not_modules]
 refine wpAny_bind (wpAny_specialOf hT hl ?_)
 have fin:wpAny (model prog w) A (subscripted slice false o i) (fun r s₃=>wpAny (model prog w) A (letTemporaryGo value o r >>= fun _=>pure r) Q E s₃) E s₂:=by
  rw [hs o i]
  exact wpAny_operating (wpAny_mono h₂ (fun r s₃ h₃=>wpAny_bind (wpAny_letTemporaryGo (wpAny_pure h₃))) fun _ _ x=>x)
 first
  | exact wpAny_pure (wpAny_bind fin)
  | exact wpAny_bind (wpAny_pure (wpAny_bind fin))
  | exact wpAny_bind fin
theorem zgd {X:Cx} {pins:List (Addr×Obj)} {σ:St} {H:Hp} {s:Shared} {a:Addr} {y:V} {o:Option V} (I:Inv X pins σ H s) (g:DGet H a y o):s.TypeIs (.ref a) "dict":=by
 rcases g with ⟨kvs,k,e,_,_⟩ | ⟨kvs,k,b,e,_,_,_⟩
 ·obtain ⟨_,_,vs,_,dd⟩:=zig I.hok e
  exact dd.typeIs
 ·obtain ⟨_,_,xs,_,dd⟩:=zjd I.hok e
  exact dd.typeIs
def tDGet (td ty:TE):TE:=fun σ H Q=>td σ H fun x H1=>ty σ H1 fun y H2=>∃a v,x=.ref a∧DGet H2 a y (some v)∧Q v H2
def tDIn (ty td:TE):TE:=fun σ H Q=>ty σ H fun y H1=>td σ H1 fun x H2=>∃a o,x=.ref a∧DGet H2 a y o∧Q (.bl o.isSome) H2
def tDNotIn (ty td:TE):TE:=fun σ H Q=>ty σ H fun y H1=>td σ H1 fun x H2=>∃a o,x=.ref a∧DGet H2 a y o∧Q (.bl (!o.isSome)) H2
def sDPut (td ty tv:TE):TS:=fun D σ H=>tv σ H fun v H1=>td σ H1 fun x H2=>ty σ H2 fun y H3=>∃a H4,x=.ref a∧DPut H3 a y v H4∧D.nx σ H4
section
variable {X:Cx} {o i e value:Expr} {pos pos' tpos:Pos} {td ty tv:TE}
theorem zn9 (hu:X.A.units+1<cLine) (ho:PE X o td) (hi:PE X i ty) (hs:NoSl i):PE X (.Subscript o i pos) (tDGet td ty):=by
 intro pins s σ H Q I h
 refine zn8 PySem.F.slot_dict_getitem.lookup hs (thn (ho pins s σ H _ I h) fun u s1 ⟨x,H1,I1,rx,q1⟩=>thn (hi pins s1 σ H1 _ I1 q1) fun iv s2 ⟨y,H2,I2,ry,a,v,ex,g,q2⟩=>?_)
 subst ex
 obtain rfl:u=Value.ref a:=rx
 exact ⟨zgd I2 g,zje hu I2 g ry fun w' s3 I3 rw'=>⟨v,H2,I3,rw',q2⟩⟩
theorem zqu (hu:X.A.units+1<cLine) (hi:PE X i ty) (ho:PE X o td):PC X .In i o (tDIn ty td):=by
 intro pins s σ H Q I h
 refine thn (hi pins s σ H _ I h) fun iv s1 ⟨y,H1,I1,ry,q1⟩=>thn (ho pins s1 σ H1 _ I1 q1) fun u s2 ⟨x,H2,I2,rx,a,ov,ex,g,q2⟩=>?_
 subst ex
 obtain rfl:u=Value.ref a:=rx
 exact d_in hu I2 g ry fun s3 I3=>⟨.bl ov.isSome,H2,I3,rfl,q2⟩
theorem zjg (hu:X.A.units+1<cLine) (hi:PE X i ty) (ho:PE X o td):PC X .NotIn i o (tDNotIn ty td):=by
 intro pins s σ H Q I h
 refine thn (hi pins s σ H _ I h) fun iv s1 ⟨y,H1,I1,ry,q1⟩=>thn (ho pins s1 σ H1 _ I1 q1) fun u s2 ⟨x,H2,I2,rx,a,ov,ex,g,q2⟩=>?_
 subst ex
 obtain rfl:u=Value.ref a:=rx
 exact zn7 hu I2 g ry fun s3 I3=>⟨.bl (!ov.isSome),H2,I3,rfl,q2⟩
theorem zjh (hu:X.A.units+1<cLine) (ho:PE X o td) (hi:PE X i ty) (hv:PE X value tv) (hs:swapsWith value (some (.Subscript o i pos')) pos.line X.env=pure false) :
  PS X (.Assign [.Subscript o i pos'] value pos) (sDPut td ty tv):=by
 intro pins s σ H D I h
 refine wpAny_Assign_Subscript (thn (hv pins s σ H _ I h) fun r s1 ⟨v,H1,I1,rv,q1⟩=>thn (ho pins s1 σ H1 _ I1 q1) fun u s2 ⟨x,H2,I2,rx,q2⟩=>thn (hi pins s2 σ H2 _ I2 q2) fun iv s3 ⟨y,H3,I3,ry,a,H4,ex,g,q3⟩=>?_) hs
 subst ex
 obtain rfl:u=Value.ref a:=rx
 exact zjf hu I3 g ry rv fun s4 I4=>⟨σ,H4,I4,q3⟩
end
theorem zg7 {P:Program} {w:World} {H:Hp} (h:Heap) (hb:sysModules<h.objs.size):ObjOk P w H (h.push { cls:=.type "dict",data:=.dict #[] }) h.objs.size (.dK []) :=
  ⟨Nat.zero_le _,beq_eq_false_iff_ne.mpr (Ne.symm (Nat.ne_of_lt hb)),[],.nil,Heap.DictOf.new h⟩
def tDNewK:TE:=fun _ H Q=>∀p,H p=none→Q (.ref p) (upd H p (.dK []))
section
variable {X:Cx} {pos:Pos}
theorem zlh:PE X (.Dict [] [] pos) tDNewK:=fun pins s σ H Q I h =>
 wpAny_Dict_empty ⟨.ref s.heap.objs.size,_,I.laid (a:=s.heap.objs.size) (o:=.dK []) (t':=s.toks) (fun _ _ q=>Heap.get?_push_of_some _ q) (Nat.le_refl _) (zg7 s.heap I.big),rfl,h _ (I.hok.fresh (Nat.le_refl _))⟩
end
def tPairs:List (TE×TE)→St→Hp→(List (V×V)→Hp→Prop)→Prop
 | [],_,H,Q=>Q [] H
 | (tk,tv)::r,σ,H,Q=>tk σ H fun x H1=>tv σ H1 fun y H2=>tPairs r σ H2 fun ps H3=>Q ((x,y)::ps) H3
abbrev VV:List (V×V)→List (Value×Value)→Prop:=Paired fun p q=>RelV p.1 q.1∧RelV p.2 q.2
def PPs (X:Cx) (pos:Pos) (keys:List (Option Expr)) (values:List Expr) (trs:List (TE×TE)):Prop :=
 ∀(pins:List (Addr×Obj)) (s:Shared) (σ:St) (H:Hp) (Q:List (V×V)→Hp→Prop),Inv X pins σ H s→tPairs trs σ H Q →
  wpAny (model X.prog X.w) X.A (evalPairs (pairTrees keys values X.env pos)) (fun vs s'=>∃ps H',Inv X pins σ H' s'∧VV ps vs∧Q ps H') X.xe s
theorem zoa {X:Cx} {pos:Pos}:PPs X pos [] [] []:=fun pins s σ H Q I h=>pairTrees_nil_walk ⟨[],H,I,.nil,h⟩
theorem zli {X:Cx} {pos:Pos} {k v:Expr} {ks:List (Option Expr)} {vs:List Expr} {tk tv:TE} {trs:List (TE×TE)} (hk:PE X k tk) (hv:PE X v tv) (hr:PPs X pos ks vs trs) :
  PPs X pos (some k::ks) (v::vs) ((tk,tv)::trs):=fun pins s σ H Q I h =>
 pairTrees_cons_walk (thn (hk pins s σ H _ I h) fun u s1 ⟨x,H1,I1,rx,q1⟩=>thn (hv pins s1 σ H1 _ I1 q1) fun w2 s2 ⟨y,H2,I2,ry,q2⟩ =>
  thn (hr pins s2 σ H2 _ I2 q2) fun ws s3 ⟨ps,H3,I3,rel,q3⟩=>⟨(x,y)::ps,H3,I3,.cons ⟨rx,ry⟩ rel,q3⟩)
def mergeK (kvs more:List (Key×V)):List (Key×V):=more.foldl (fun acc kv=>putK acc kv.1 kv.2) kvs
theorem KV.merge:∀{more:List (Key×V)} {rs:List (Key×Value)} {kvs:List (Key×V)} {vs:List (Key×Value)},KV more rs→KV kvs vs→KV (mergeK kvs more) (merged vs rs):=by
 intro more rs kvs vs r
 unfold KV at r
 induction r generalizing kvs vs with
 | nil=>intro q; exact q
 | @cons p q ps qs h t ih =>
  intro r0
  have e:KV (putK kvs p.1 p.2) (stored vs q.1 q.2):=by
   have:=r0.put p.1 h.2
   rw [← h.1]; exact this
  exact ih e
theorem zax:∀(more kvs:List (Key×V)),(mergeK kvs more).length≤kvs.length+more.length
 | [],kvs=>by show kvs.length≤kvs.length+0; omega
 | p::r,kvs=>by
  have h1:=zax r (putK kvs p.1 p.2)
  have h2:=zak kvs p.1 p.2
  show (mergeK (putK kvs p.1 p.2) r).length≤_
  rw [List.length_cons]; omega
theorem zc6 {P:Program} {w:World}:∀{kvs:List (Key×V)} {ws:List (Value×Value)},VV (kvs.map fun kv=>(kV kv.1,kv.2)) ws→∃rs,Carries (mixKind P w) ws rs∧KV kvs rs
 | [],_,r=>by rw [List.map_nil] at r; cases r; exact ⟨[],True.intro,.nil⟩
 | p::kvs,_,r=>by
  rw [List.map_cons] at r
  cases r with
  | @cons a b as bs h t =>
   obtain ⟨rs,c,q⟩:=zc6 (P:=P) (w:=w) t
   obtain ⟨b1,b2⟩:=b
   exact ⟨(p.1,b2)::rs,⟨zif h.1,rfl,c⟩,.cons ⟨rfl,h.2⟩ q⟩
def tDisp (trs:List (TE×TE)):TE:=fun σ H Q=>∀p,H p=none→tPairs trs σ (upd H p (.dK [])) fun ps H2=>H2 p=some (.dK [])∧∃kvs:List (Key×V),ps=kvs.map (fun kv=>(kV kv.1,kv.2))∧kvs.length≤15∧Q (.ref p) (upd H2 p (.dK (mergeK [] kvs)))
theorem zob {X:Cx} {pos:Pos} {keys:List (Option Expr)} {values:List Expr} {trs:List (TE×TE)} (h:PPs X pos keys values trs) (hall:keys.all (·.isSome)=true) (hl:keys.length=values.length) (h0:keys≠[])
    (h15:keys.length≤15):PE X (.Dict keys values pos) (tDisp trs):=by
  intro pins s σ H Q I q
  have hn:=I.hok.fresh (Nat.le_refl s.heap.objs.size)
  have I1:=I.laid (a:=s.heap.objs.size) (o:=.dK []) (h':=s.heap.push { cls:=.type "dict",data:=.dict #[] }) (t':=s.toks) (fun _ _ q=>Heap.get?_push_of_some _ q) (Nat.le_refl _) (zg7 s.heap I.big)
  refine wpAny_Dict_walk (knd:=mixKind X.prog X.w) hall hl h0 h15 (thn (h pins _ σ _ _ I1 (q _ hn)) fun ws s2 ⟨ps,H2,I2,rel,e,kvs,ep,lk,q2⟩=>?_)
  subst ep
  obtain ⟨rs,c,rk⟩:=zc6 (P:=X.prog) (w:=X.w) rel
  obtain ⟨z,hd,vs0,r0,dd⟩:=zqt I2.hok e
  cases r0
  refine ⟨rs,c,dd,fun h' dd' hs=>⟨.ref s.heap.objs.size,_,?_,rfl,q2⟩⟩
  have hz:(mergeK [] kvs).length≤sizeLine:=by
    have h1:=zax kvs []
    rw [List.length_nil] at h1
    rw [sizeLine_eq]; omega
  have he:∃q,h'.get? s.heap.objs.size=some q:=let ⟨q,_,_,hq,_⟩:=dd'; ⟨q,hq⟩
  exact zgc I2 (by rw [e]; exact True.intro) hs he (zm8 hz hd (rk.merge .nil) dd')
def IsD (H:Hp) (a:Addr):Prop:=(∃kvs,Rd H a (.dK kvs))∨∃kvs,Rd H a (.dT kvs)
section
variable {X:Cx} {pins:List (Addr×Obj)} {σ:St} {H:Hp} {s:Shared} {a:Addr} {y d:V} {u r:Value} {o:Option V} {A:Around} {E:Value→Shared→Prop}
end
section
variable {X:Cx} {o e f:Expr} {apos cpos:Pos} {td ty tx:TE}
end
section
variable {X:Cx} {pins:List (Addr×Obj)} {σ:St} {H:Hp} {s:Shared} {a:Addr} {kvs:List (Key×V)} {A:Around} {E:Value→Shared→Prop}
end
section
variable {X:Cx} {pins:List (Addr×Obj)} {σ:St} {H:Hp} {s:Shared} {a:Addr} {y:V} {u:Value} {A:Around} {E:Value→Shared→Prop}
end
end L2
namespace L2
open PySem PySem.Spec PyProof.Rows
section
variable {X:Cx}
theorem zji:CallR X (.builtin "len") (fun xs H Q=>∃a kvs,xs=[V.ref a]∧H a=some (.dK kvs)∧Q (.int kvs.length) H):=by
 intro pins s σ H xs us Q I r h
 obtain ⟨a,kvs,rfl,ha,q⟩:=h
 obtain ⟨u,rfl,ru⟩:=vals1 r
 cases ru
 exact zsf I (.inl ha) fun t s' I'=>⟨.int kvs.length,H,I',⟨t,rfl⟩,q⟩
end
end L2
namespace L2
open PySem
section
variable {κ:Type} [DecidableEq κ]
end
end L2
namespace L2
open PySem PySem.Spec PyProof.Rows
def Sz (n:Nat) (i:Int):Prop:=i.natAbs<2 ^ n
theorem Sz.bits {n:Nat} {i:Int} (h:Sz n i):Builtin.Int.intBits i≤n:=by
 unfold Builtin.Int.intBits
 by_cases h0:(i == 0)=true
 ·rw [if_pos h0]; exact Nat.zero_le _
 ·rw [if_neg h0]
  have hi:i.natAbs≠0:=by
   have:i≠0:=by simpa using h0
   omega
  exact Nat.succ_le_of_lt ((Nat.log2_lt hi).mpr h)
theorem Sz.log {n:Nat} {i:Int} (h:Sz n i) (hn:0<n):i.natAbs.log2<n:=by
 by_cases hi:i.natAbs=0
 ·rw [hi]; exact hn
 ·exact (Nat.log2_lt hi).mpr h
theorem Sz.mono {n m:Nat} {i:Int} (h:Sz n i) (hm:n≤m):Sz m i:=Nat.lt_of_lt_of_le h (Nat.pow_le_pow_right (by decide) hm)
theorem Sz.le {n:Nat} {i j:Int} (h:Sz n i) (hj:j.natAbs≤i.natAbs):Sz n j:=Nat.lt_of_le_of_lt hj h
theorem Sz.mul {n m:Nat} {i j:Int} (h:Sz n i) (h':Sz m j):Sz (n+m) (i * j):=by
 unfold Sz at *
 rw [Int.natAbs_mul,Nat.pow_add]
 exact Nat.mul_lt_mul'' h h'
theorem Sz.add {n:Nat} {i j:Int} (h:Sz n i) (h':Sz n j):Sz (n+1) (i+j):=by
 unfold Sz at *
 rw [Nat.pow_succ]
 omega
def CMulS (i j:Int):Prop:=CMul i j∨(Sz 100000 i∧Sz 100000 j)
theorem CMulS.ok {i j:Int} (h:CMulS i j):IntMulOk i j:=by
 rcases h with h | h
 ·exact h.ok
 ·exact IntMulOk.of_bits (Nat.le_trans h.1.bits (by decide)) (Nat.le_trans h.2.bits (by decide))
section
variable {X:Cx}
theorem wj:OpR X (binaryOp .Mult) (rI CMulS fun i j=>.int (i * j)):=opI fun _ _ _ _ _ _ _ hc q=>mul_int q hc.ok
theorem xn:OpR X (binaryOp .FloorDiv) (rI (fun _ j=>j≠0∧Sz 9000 j) fun i j=>.int (i.fdiv j)) :=
 opI fun _ _ _ _ _ _ _ hc q=>floordiv_int hc.1 q (.inl (PyProof.noPylong_of_log2 (hc.2.log (by decide))))
theorem RelV.bool_iff {x:V} {v:Value} {b:Bool} (r:RelV x v):(v == Value.bool b)=decide (x=.bl b):=by
 cases x with
 | bl c =>
  cases (show v=Value.bool c from r)
  by_cases h:c=b
  ·subst h; simp
  ·have h1:¬V.bl c=V.bl b:=fun z=>h (V.bl.inj z)
   rw [decide_eq_false h1]
   exact beq_eq_false_iff_ne.mpr fun z=>h (by injection z)
 | non=>cases (show v=Value.none from r); rw [decide_eq_false (fun z=>nomatch z)]; exact beq_eq_false_iff_ne.mpr fun z=>nomatch z
 | int i=>obtain ⟨t,rfl⟩:=(show ∃t,v=Value.int i t from r); rw [decide_eq_false (fun z=>nomatch z)]; exact beq_eq_false_iff_ne.mpr fun z=>nomatch z
 | str i=>obtain ⟨t,rfl⟩:=(show ∃t,v=Value.str i t from r); rw [decide_eq_false (fun z=>nomatch z)]; exact beq_eq_false_iff_ne.mpr fun z=>nomatch z
 | byt i=>obtain ⟨t,rfl⟩:=(show ∃t,v=Value.bytes i t from r); rw [decide_eq_false (fun z=>nomatch z)]; exact beq_eq_false_iff_ne.mpr fun z=>nomatch z
 | flt i=>obtain ⟨t,rfl⟩:=(show ∃t,v=Value.float i t from r); rw [decide_eq_false (fun z=>nomatch z)]; exact beq_eq_false_iff_ne.mpr fun z=>nomatch z
 | ref i=>cases (show v=Value.ref i from r); rw [decide_eq_false (fun z=>nomatch z)]; exact beq_eq_false_iff_ne.mpr fun z=>nomatch z
 | ty i=>cases (show v=Value.type i from r); rw [decide_eq_false (fun z=>nomatch z)]; exact beq_eq_false_iff_ne.mpr fun z=>nomatch z
theorem ze6 {x:V} {v:Value} {b:Bool} (r:RelV x v):plainIs v (.bool b)=true:=by
 cases x with
 | bl c=>cases (show v=Value.bool c from r); rfl
 | non=>cases (show v=Value.none from r); rfl
 | int i=>obtain ⟨t,rfl⟩:=(show ∃t,v=Value.int i t from r); rfl
 | str i=>obtain ⟨t,rfl⟩:=(show ∃t,v=Value.str i t from r); rfl
 | byt i=>obtain ⟨t,rfl⟩:=(show ∃t,v=Value.bytes i t from r); rfl
 | flt i=>obtain ⟨t,rfl⟩:=(show ∃t,v=Value.float i t from r); rfl
 | ref i=>cases (show v=Value.ref i from r); rfl
 | ty i=>cases (show v=Value.type i from r); rfl
theorem zqv:OpR X (compareOp .Is) (fun x y H Q=>∃b,y=.bl b∧Q (.bl (decide (x=.bl b))) H):=by
 intro pins s σ H x y v u Q I rx ry h
 obtain ⟨b,rfl,q⟩:=h
 cases ry
 exact wpAny_is_plain (ze6 rx) (zm5 I q (RelV.bool_iff rx).symm)
theorem zlj:CallR X (.builtin "isinstance") (fun xs H Q=>∃x c t b,xs=[x,.ty c]∧TyOf X.K H x t∧PySem.W.kitOne X.K t (.type c)=some b∧Q (.bl b) H):=by
 intro pins s σ H xs us Q I r h
 obtain ⟨x,c,t,b,rfl,ty,e,q⟩:=h
 obtain ⟨u,w',rfl,ru,rw'⟩:=vals2 r
 cases (show w'=Value.type c from rw')
 exact zet I ru ty e fun tk=>⟨.bl b,H,I.tok tk,rfl,q⟩
theorem zjj:CallR X (.builtin "isinstance") (fun xs H Q=>∃x C t b,xs=[x,.ref C]∧TyOf X.K H x t∧PySem.W.kitOne X.K t (.ref C)=some b∧Q (.bl b) H):=by
 intro pins s σ H xs us Q I r h
 obtain ⟨x,c,t,b,rfl,ty,e,q⟩:=h
 obtain ⟨u,w',rfl,ru,rw'⟩:=vals2 r
 cases (show w'=Value.ref c from rw')
 exact zet I ru ty e fun tk=>⟨.bl b,H,I.tok tk,rfl,q⟩
end
mutual
inductive Dt (K:PySem.W.Frag) (H:Hp):V→PyData→Prop
 | non:Dt K H .non .none
 | bl (b:Bool):Dt K H (.bl b) (.bool b)
 | int (i:Int):Dt K H (.int i) (.int i)
 | str (x:Str):Dt K H (.str x) (.str x)
 | lst {a:Addr} {xs:List V} {ds:List PyData}:SqL K H a xs→Dts K H xs ds→Dt K H (.ref a) (.list ds)
 | tup {a:Addr} {xs:List V} {ds:List PyData}:SqT K H a xs→Dts K H xs ds→Dt K H (.ref a) (.tuple ds)
inductive Dts (K:PySem.W.Frag) (H:Hp):List V→List PyData→Prop
 | nil:Dts K H [] []
 | cons {v:V} {d:PyData} {vs:List V} {ds:List PyData}:Dt K H v d→Dts K H vs ds→Dts K H (v::vs) (d::ds)
end
section
variable {X:Cx} {pins:List (Addr×Obj)} {σ:St} {H:Hp} {s:Shared}
mutual
theorem Dt.reads (I:Inv X pins σ H s):∀{v:V} {d:PyData} {u:Value},Dt X.K H v d→RelV v u→∃as,Reads s.heap u d as
 | _,_,_,.non,r=>by cases r; exact ⟨_,.none⟩
 | _,_,_,.bl b,r=>by cases r; exact ⟨_,.bool b⟩
 | _,_,_,.int i,r=>by obtain ⟨t,rfl⟩:=r; exact ⟨_,.int i t⟩
 | _,_,_,.str x,r=>by obtain ⟨t,rfl⟩:=r; exact ⟨_,.str x t⟩
 | _,_,_,.lst hq ds,r=>by
  obtain ⟨its,rv,⟨o,n,e,c,_,dd⟩,_⟩:=I.list hq
  obtain ⟨as,ra⟩:=Dts.reads I ds rv
  cases r
  exact ⟨_,.list e c dd (by simpa using ra)⟩
 | _,_,_,.tup hq ds,r=>by
  obtain ⟨its,rv,⟨o,e,c,n,dd⟩,_⟩:=I.tuple hq
  obtain ⟨as,ra⟩:=Dts.reads I ds rv
  cases r
  exact ⟨_,.tuple e c dd (by simpa using ra)⟩
theorem Dts.reads (I:Inv X pins σ H s):∀{vs:List V} {ds:List PyData} {us:List Value},Dts X.K H vs ds→Vals vs us→∃as,ReadsAll s.heap us ds as
 | _,_,_,.nil,r=>by cases r; exact ⟨_,.nil⟩
 | _,_,_,.cons h t,r=>by
  cases r with
  | cons p q =>
   obtain ⟨as,ra⟩:=Dt.reads I h p
   obtain ⟨bs,rb⟩:=Dts.reads I t q
   exact ⟨_,.cons ra rb⟩
end
end
section
variable {X:Cx}
def rEqD (K:PySem.W.Frag) (neg:Bool):R2:=fun x y H Q=>∃d e,Dt K H x d∧Dt K H y e∧d.canLay0=true∧e.canLay0=true∧min d.depth e.depth≤60∧Q (.bl (if neg then !PyData.eqv d e else PyData.eqv d e)) H
theorem v5 (hu:X.A.units+64<cLine):OpR X (compareOp .Eq) (rEqD X.K false):=by
 intro pins s σ H x y v u Q I rx ry h
 obtain ⟨d,e,hd,he,c1,c2,dp,q⟩:=h
 obtain ⟨as,ra⟩:=hd.reads I rx
 obtain ⟨bs,rb⟩:=he.reads I ry
 exact SeqAt.compareEq_reads ra rb c1 c2 (by omega) ⟨.bl _,H,I,rfl,q⟩
theorem ze7 (hu:X.A.units+64<cLine):OpR X (compareOp .NotEq) (rEqD X.K true):=by
 intro pins s σ H x y v u Q I rx ry h
 obtain ⟨d,e,hd,he,c1,c2,dp,q⟩:=h
 obtain ⟨as,ra⟩:=hd.reads I rx
 obtain ⟨bs,rb⟩:=he.reads I ry
 exact SeqAt.compareNe_reads ra rb c1 c2 (by omega) ⟨.bl _,H,I,rfl,q⟩
theorem Dts.ints (K:PySem.W.Frag) (H:Hp):∀ns:List Int,Dts K H (ns.map V.int) (ns.map PyData.int)
 | []=>.nil
 | n::r=>.cons (.int n) (Dts.ints K H r)
end
theorem zay {H:Hp} {p:Addr} (h:H p=none) (o:HO):Same H (upd H p o):=fun b u q=>by rw [yh (xp q h)]; exact q
theorem Room.u64 {k:Nat} {A:Around} (r:Room k A):A.units+64<cLine:=r.units
theorem small {n:Nat} (h:n≤1000):n≤sizeLine:=Nat.le_of_lt (small1000 h)
end L2
namespace L2
open PySem PySem.Spec PyProof.Rows
end L2
namespace L2
open PySem PySem.Spec PyProof.Rows
end L2
namespace L2
open PySem
theorem zqw:bootBuiltins "int"=some (.type "int"):=by decide +kernel
theorem zm9:bootBuiltins "str"=some (.type "str"):=by decide +kernel
theorem zoc:bootBuiltins "bool"=some (.type "bool"):=by decide +kernel
theorem zca:bootBuiltins "list"=some (.type "list"):=by decide +kernel
theorem zqx:bootBuiltins "set"=some (.type "set"):=by decide +kernel
theorem ww:bootBuiltins "len"=some (.builtin "len"):=by decide +kernel
theorem zjk:bootBuiltins "abs"=some (.builtin "abs"):=by decide +kernel
theorem zna:bootBuiltins "max"=some (.builtin "max"):=by decide +kernel
theorem zqy:bootBuiltins "min"=some (.builtin "min"):=by decide +kernel
theorem zg8:bootBuiltins "sum"=some (.builtin "sum"):=by decide +kernel
theorem zaz:bootBuiltins "isinstance"=some (.builtin "isinstance"):=by decide +kernel
theorem znb:bootBuiltins "all"=some (.builtin "all"):=by decide +kernel
end L2
namespace L2
open PySem PySem.Spec PyProof.Rows
section
variable {prog:Program} {w:World} {A:Around} {R:Result→Shared→Prop} {s:Shared}
theorem zbm {elt target iter:Expr} {ifs:List Expr} {scope:Scope} {pos:Pos} {it acc:Value} {env:Env} (I:Nat→Shared→Prop)
  (turn:∀n s,I n s→wpAny (model prog w) A (pyNext it) (fun r s₁=>match r with
   | none=>R (.ok .next) s₁
   | some v=>wpAny (model prog w) A (letOwnedTupleGo target it v) (fun _ s₁'=>wpAny (model prog w) A (assign target env v) (fun _ s₂ =>
     wpAny (model prog w) A (forIn ifs true fun c r=>if r=true then do let ok ← isTrue c env (eval c env); pure (ForInStep.yield ok) else pure (ForInStep.yield r)) (fun ok s₃ =>
      if ok=true then wpAny (model prog w) A (eval elt env) (fun x s₄ =>
       wpAny (model prog w) A (call (.builtin "list.append") [acc,x]) (fun _ s₅=>∃m,m<n∧I m s₅) (fun _ _=>False) s₄) (fun _ _=>False) s₃
      else ∃m,m<n∧I m s₃) (fun _ _=>False) s₂) (fun _ _=>False) s₁') (fun _ _=>False) s₁) (fun _ _=>False) s)
  (n:Nat) (h:I n s) :
  codeAny (model prog w) A (.compLoop (.ListComp elt [⟨target,iter,ifs,0⟩] scope pos) 0 it acc env) R s:=by
 have up:∀{α:Type} {m:Sem α} {Q:α→Shared→Prop} {E:Value→Shared→Prop} {s:Shared},wpAny (model prog w) A m Q (fun _ _=>False) s→wpAny (model prog w) A m Q E s:=fun h=>wpAny_mono h (fun _ _ q=>q) fun _ _ f=>f.elim
 refine codeAny_loop rfl I (fun n s hI=>?_) n h
 show wpAny _ A ((compTurn (.ListComp elt [⟨target,iter,ifs,0⟩] scope pos) 0 it acc env).onRaise (fun x=>do noteFrame x env; theTreesLotGoes x)) _ _ s
 refine wpAny_noted ?_
 rw [compTurn_list]
 refine wpAny_bind (wpAny_standAt (wpAny_bind (wpAny_mono (up (turn n s hI)) (fun r s₁ h₁=>?_) fun _ _ h'=>h')))
 cases r with
 | none=>exact wpAny_pure h₁
 | some v =>
  refine wpAny_bind (wpAny_mono (up h₁) (fun _ s₁' h₁'=>?_) fun _ _ h'=>h')
  refine wpAny_bind (wpAny_mono (up h₁') (fun _ s₂ h₂=>wpAny_bind (wpAny_mono (up h₂) (fun ok s₃ h₃=>?_) fun _ _ h'=>h')) fun _ _ h'=>h')
  cases ok with
  | false=>exact wpAny_pure ⟨rfl,h₃⟩
  | true =>
   exact wpAny_bind (wpAny_bind (wpAny_mono (up h₃) (fun x s₄ h₄=>wpAny_bind (wpAny_mono (up h₄) (fun _ s₅ h₅=>wpAny_pure (wpAny_pure ⟨rfl,h₅⟩)) fun _ _ h'=>h')) fun _ _ h'=>h'))
end
theorem zaa {env:Env}:∀(names:List (Str×NameKind)) (acc:List (Str×Addr)),(∀x∈names,x.2=.free→∃c,env.cells.lookup x.1=some c)→(∀y c,acc.lookup y=some c→env.cells.lookup y=some c) →
  ∃cl,(forIn names acc fun (x:Str×NameKind) (cs:List (Str×Addr))=>if (x.2 == NameKind.free)=true then do let a ← cellOf env x.1; pure (ForInStep.yield ((x.1,a)::cs)) else pure (ForInStep.yield cs):Sem (List (Str×Addr)))=pure cl ∧
   (∀y c,cl.lookup y=some c→env.cells.lookup y=some c)∧(∀x∈names,x.2=.free→∃c,cl.lookup x.1=some c)∧∀y c,acc.lookup y=some c→∃c',cl.lookup y=some c'
 | [],acc,_,ha=>⟨acc,rfl,ha,fun _ h=>(nomatch h),fun y c h=>⟨c,h⟩⟩
 | (n,k)::r,acc,hn,ha=>by
  by_cases hk:k=.free
  ·subst hk
   obtain ⟨c,hc⟩:=hn (n,.free) List.mem_cons_self rfl
   have e1:cellOf env n=pure c:=by unfold cellOf; rw [hc]
   have ha':∀y d,((n,c)::acc).lookup y=some d→env.cells.lookup y=some d:=fun y d h=>by
    rw [List.lookup_cons] at h
    cases hy:y == n with
    | true =>
     rw [hy] at h
     have:y=n:=eq_of_beq hy
     subst this
     cases h
     exact hc
    | false=>rw [hy] at h; exact ha y d h
   obtain ⟨cl,h1,h2,h3,h4⟩:=zaa r ((n,c)::acc) (fun x hx=>hn x (List.mem_cons_of_mem _ hx)) ha'
   refine ⟨cl,?_,h2,?_,?_⟩
   ·rw [List.forIn_cons]
    simp only [beq_self_eq_true,if_true,e1,pure_bind]
    exact h1
   ·intro x hx hf
    rcases List.mem_cons.mp hx with rfl | hx
    ·exact h4 n c (by rw [List.lookup_cons,beq_self_eq_true])
    ·exact h3 x hx hf
   ·intro y d hy
    cases hb:y == n with
    | true=>exact h4 y c (by rw [List.lookup_cons,hb])
    | false=>exact h4 y d (by rw [List.lookup_cons,hb]; exact hy)
  ·have hb:(k == NameKind.free)=false:=by simpa using hk
   obtain ⟨cl,h1,h2,h3,h4⟩:=zaa r acc (fun x hx=>hn x (List.mem_cons_of_mem _ hx)) ha
   refine ⟨cl,?_,h2,?_,h4⟩
   ·rw [List.forIn_cons]
    simp only [hb,Bool.false_eq_true,if_false,pure_bind]
    exact h1
   ·intro x hx hf
    rcases List.mem_cons.mp hx with rfl | hx
    ·exact absurd hf hk
    ·exact h3 x hx hf
theorem zdv (n:Nat) (a:Str) (r:List (Str×NameKind)) (acc:List (Str×Addr)):cellsFrom n ((a,.cell)::r) acc=cellsFrom (n+1) r ((a,n)::acc):=rfl
theorem zg9 {k:NameKind} (hk:k≠.cell) (n:Nat) (a:Str) (r:List (Str×NameKind)) (acc:List (Str×Addr)):cellsFrom n ((a,k)::r) acc=cellsFrom n r acc:=by
 cases k <;> first | rfl | exact absurd rfl hk
def ncell (names:List (Str×NameKind)):Nat:=(names.filter fun y=>y.2 == NameKind.cell).length
theorem zge (a:Str) (r:List (Str×NameKind)):ncell ((a,.cell)::r)=ncell r+1:=by unfold ncell; rw [List.filter_cons_of_pos (by rfl),List.length_cons]
theorem znc {k:NameKind} (hk:k≠.cell) (a:Str) (r:List (Str×NameKind)):ncell ((a,k)::r)=ncell r:=by unfold ncell; rw [List.filter_cons_of_neg (by simpa using hk)]
theorem zih:∀(names:List (Str×NameKind)) (n:Nat) (acc:List (Str×Addr)) {x:Str} {c:Nat},(cellsFrom n names acc).lookup x=some c→(n≤c∧c<n+ncell names∧(x,NameKind.cell)∈names)∨(acc.lookup x=some c∧(x,NameKind.cell)∉names)
 | [],_,_,_,_,h=>.inr ⟨h,by simp⟩
 | (a,k)::r,n,acc,x,c,h=>by
  by_cases hk:k=.cell
  ·subst hk
   rw [zdv] at h
   rcases zih r (n+1) _ h with ⟨h1,h2,h3⟩ | ⟨h1,h2⟩
   ·refine .inl ⟨by omega,?_,List.mem_cons_of_mem _ h3⟩
    rw [zge]; omega
   ·rw [List.lookup_cons] at h1
    cases hx:x == a with
    | true =>
     rw [hx] at h1
     cases h1
     refine .inl ⟨Nat.le_refl _,?_,by rw [eq_of_beq hx]; exact List.mem_cons_self⟩
     rw [zge]; omega
    | false =>
     rw [hx] at h1
     refine .inr ⟨h1,fun z=>?_⟩
     rcases List.mem_cons.mp z with z | z
     ·cases z; simp at hx
     ·exact h2 z
  ·rw [zg9 hk] at h
   have hf:=znc hk a r
   rw [hf]
   rcases zih r n _ h with ⟨h1,h2,h3⟩ | ⟨h1,h2⟩
   ·exact .inl ⟨h1,h2,List.mem_cons_of_mem _ h3⟩
   ·refine .inr ⟨h1,fun z=>?_⟩
    rcases List.mem_cons.mp z with z | z
    ·cases z; exact hk rfl
    ·exact h2 z
theorem zjl:∀(names:List (Str×NameKind)) (n:Nat) (acc:List (Str×Addr)) {x:Str},(x,NameKind.cell)∉names→(cellsFrom n names acc).lookup x=acc.lookup x
 | [],_,_,_,_=>rfl
 | (a,k)::r,n,acc,x,h=>by
  have hr:(x,NameKind.cell)∉r:=fun z=>h (List.mem_cons_of_mem _ z)
  by_cases hk:k=.cell
  ·subst hk
   rw [zdv,zjl r _ _ hr,List.lookup_cons]
   cases hx:x == a with
   | true=>exact absurd (by rw [eq_of_beq hx]; exact List.mem_cons_self) h
   | false=>rfl
  ·rw [zg9 hk,zjl r _ _ hr]
theorem zjm:∀(names:List (Str×NameKind)) (n:Nat) (acc:List (Str×Addr)),(∀x y c,acc.lookup x=some c→acc.lookup y=some c→x=y)→(∀x c,acc.lookup x=some c→c<n)→∀x y c,(cellsFrom n names acc).lookup x=some c→(cellsFrom n names acc).lookup y=some c→x=y
 | [],_,_,h,_=>h
 | (a,k)::r,n,acc,h,hb=>by
  by_cases hk:k=.cell
  ·subst hk
   rw [zdv]
   refine zjm r (n+1) _ (fun x y c e e'=>?_) fun x c e=>?_
   ·rw [List.lookup_cons] at e e'
    cases hx:x == a with
    | true =>
     rw [hx] at e
     cases e
     cases hy:y == a with
     | true=>rw [eq_of_beq hx,eq_of_beq hy]
     | false=>rw [hy] at e'; exact absurd (hb _ _ e') (Nat.lt_irrefl _)
    | false =>
     rw [hx] at e
     cases hy:y == a with
     | true=>rw [hy] at e'; cases e'; exact absurd (hb _ _ e) (Nat.lt_irrefl _)
     | false=>rw [hy] at e'; exact h x y c e e'
   ·rw [List.lookup_cons] at e
    cases hx:x == a with
    | true=>rw [hx] at e; cases e; exact Nat.lt_succ_self _
    | false=>rw [hx] at e; exact Nat.lt_succ_of_lt (hb _ _ e)
  ·rw [zg9 hk]
   exact zjm r n acc h hb
theorem zbc {M:Model} {A:Around} {E:Value→Shared→Prop}:∀(names:List (Str×NameKind)) (cells:List (Str×Addr)) (s:Shared) (Q:List (Str×Addr)→Shared→Prop),
    (∀h':Heap,(∀b o,s.heap.get? b=some o→h'.get? b=some o)→(∀c,s.heap.objs.size≤c→c<s.heap.objs.size+ncell names→h'.IsCell c none)→Q (cellsFrom s.heap.objs.size names cells) { s with heap:=h' }) →
    wpAny M A (forIn names cells fun (x:Str×NameKind) (cells:List (Str×Addr))=>if (x.2 == NameKind.cell)=true then do let a ← alloc { cls:=Value.type "cell",data:=Data.cell none }; pure (ForInStep.yield ((x.1,a)::cells)) else pure (ForInStep.yield cells)) Q E s
  | [],cells,s,Q,h=>by
    have:=h s.heap (fun _ _ e=>e) (fun c h1 h2=>by rw [show ncell []=0 from rfl] at h2; omega)
    rw [List.forIn_nil]
    exact wpAny_pure this
  | (a,k)::r,cells,s,Q,h=>by
    rw [List.forIn_cons]
    by_cases hk:k=.cell
    · subst hk
      simp only [beq_self_eq_true,if_true,bind_assoc,pure_bind]
      refine wpAny_bind (wpAny_alloc ?_)
      have ih:=zbc (M:=M) (A:=A) (E:=E) r ((a,s.heap.objs.size)::cells) { s with heap:=s.heap.push { cls:=Value.type "cell",data:=Data.cell none } } Q (fun h' k1 k2=>by
        have hz:(s.heap.push { cls:=Value.type "cell",data:=Data.cell none }).objs.size=s.heap.objs.size+1:=Heap.size_push _ _
        have:=h h' (fun b o e=>k1 b o (Heap.get?_push_of_some _ e)) (fun c h1 h2=>by
          rw [zge] at h2
          by_cases hc:c=s.heap.objs.size
          · subst hc
            exact ⟨_,k1 _ _ (Heap.get?_push_size _ rfl),rfl⟩
          · exact k2 c (by show (s.heap.push _).objs.size≤c; rw [hz]; omega) (by show c<(s.heap.push _).objs.size+_; rw [hz]; omega))
        rw [zdv] at this
        have e:(({ s with heap:=s.heap.push { cls:=Value.type "cell",data:=Data.cell none } }:Shared)).heap.objs.size=s.heap.objs.size+1:=hz
        rw [e]
        exact this)
      exact ih
    · have hb:(k == NameKind.cell)=false:=by simpa using hk
      simp only [hb,Bool.false_eq_true,if_false,pure_bind]
      refine zbc r cells s Q fun h' k1 k2=>?_
      have hf:=znc hk a r
      have:=h h' k1 (by rw [hf]; exact k2)
      rw [zg9 hk] at this
      exact this
theorem zbn {M:Model} {A:Around} {E:Value→Shared→Prop} {s:Shared} {scope:Scope} {globals:Addr} {closure:List (Str×Addr)} {qual:Str} {code:Value} {out:Env} {builtins:Addr} {Q:Env→Shared→Prop}
    (h:∀h':Heap,(∀b o,s.heap.get? b=some o→h'.get? b=some o)→h'.Ns s.heap.objs.size (fun _=>none)→(∀c,s.heap.objs.size+1≤c→c<s.heap.objs.size+1+ncell scope.names→h'.IsCell c none) →
      Q (newEnv scope s.heap.objs.size globals (cellsFrom (s.heap.objs.size+1) scope.names closure) qual none code (some out) builtins) { s with heap:=h' }) :
    wpAny M A (newFunctionEnv scope globals closure [] qual none code (some out) builtins) Q E s:=by
  unfold newFunctionEnv
  refine wpAny_bind (wpAny_alloc ?_)
  have hz:(s.heap.push { cls:=Value.type "dict",data:=Data.dict #[] }).objs.size=s.heap.objs.size+1:=Heap.size_push _ _
  refine wpAny_bind (zbc scope.names closure { s with heap:=s.heap.push { cls:=Value.type "dict",data:=Data.dict #[] } } _ fun h' k1 k2=>?_)
  have hz':(({ s with heap:=s.heap.push { cls:=Value.type "dict",data:=Data.dict #[] } }:Shared)).heap.objs.size=s.heap.objs.size+1:=hz
  rw [hz'] at k2 ⊢
  dsimp only
  rw [List.forIn_nil]
  refine wpAny_bind (wpAny_pure (wpAny_pure ?_))
  exact h h' (fun b o e=>k1 b o (Heap.get?_push_of_some _ e)) ((Heap.Ns.new s.heap _).keeps k1) k2
def cxB (X:Cx) (scope:Scope) (cl:List (Str×Addr)) (N:List Str) (C:Addr) (fp:List Addr) (s₀:Shared) (H₀:Hp):Cx :=
 { X with N:=N,s₀:=s₀,H₀:=H₀,env:=compEnvC scope cl C X.env,outer:=X.stack,stack:=X.stack,ex:=fp,fn:=fun x=>scope.names.lookup x == some .cell,pn:=[],xe:=fun _ _=>False }
structure BlkOk (X:Cx) (scope:Scope) (N:List Str) (own:Nat) (cap:List Nat):Prop where
 kind:scope.kind=.function
 cells:∀x∈scope.names,x.2=.cell→scope.names.lookup x.1=some .cell
 locs:∀x∈scope.names,x.2=.local→scope.names.lookup x.1=some .local
 free:∀x∈scope.names,x.2=.free→X.env.kindOf x.1=some .cell∨X.env.kindOf x.1=some .free
 len:N.length=own+cap.length
 caps:∀(j:Nat) (x:Str),N[own+j]?=some x→∃i,cap[j]?=some i∧X.N[i]?=some x∧(scope.names.lookup x=some .free)
theorem zab {α β:Type} [BEq α] [LawfulBEq α] {x:α} {y:β}:∀{l:List (α×β)},l.lookup x=some y→(x,y)∈l
 | [],h=>by simp at h
 | (a,b)::r,h=>by
  rw [List.lookup_cons] at h
  cases hb:x == a with
  | true=>rw [hb] at h; cases h; rw [eq_of_beq hb]; exact List.mem_cons_self
  | false=>rw [hb] at h; exact List.mem_cons_of_mem _ (zab h)
theorem zbo {env:Env} {x:Str}:∀{names:List (Str×NameKind)},names.lookup x=some .free →
  (names.map fun (n,k)=>if (k == NameKind.free && env.scope.kind == .function && env.kindOf n == some .cell) then (n,NameKind.cell) else (n,k)).lookup x=some .cell ∨
  (names.map fun (n,k)=>if (k == NameKind.free && env.scope.kind == .function && env.kindOf n == some .cell) then (n,NameKind.cell) else (n,k)).lookup x=some .free
 | [],h=>by simp at h
 | (n,k)::r,h=>by
  rw [List.lookup_cons] at h
  rw [List.map_cons]
  cases hx:x == n with
  | true =>
   rw [hx] at h
   cases h
   by_cases hc:(NameKind.free == NameKind.free && env.scope.kind == .function && env.kindOf n == some .cell)=true
   ·left
    simp only [hc,if_true,List.lookup_cons,hx]
   ·right
    simp only [hc,if_false,List.lookup_cons,hx,Bool.false_eq_true]
  | false =>
   rw [hx] at h
   rcases zbo (env:=env) h with q | q
   ·left
    by_cases hc:(k == NameKind.free && env.scope.kind == .function && env.kindOf n == some .cell)=true
    ·simp only [hc,if_true,List.lookup_cons,hx]; exact q
    ·simp only [hc,if_false,List.lookup_cons,hx,Bool.false_eq_true]; exact q
   ·right
    by_cases hc:(k == NameKind.free && env.scope.kind == .function && env.kindOf n == some .cell)=true
    ·simp only [hc,if_true,List.lookup_cons,hx]; exact q
    ·simp only [hc,if_false,List.lookup_cons,hx,Bool.false_eq_true]; exact q
theorem za0 {env:Env} {x:Str}:∀{names:List (Str×NameKind)},((names.map fun (n,k)=>if (k == NameKind.free && env.scope.kind == .function && env.kindOf n == some .cell) then (n,NameKind.cell) else (n,k)).lookup x=some .cell ∨
  (names.map fun (n,k)=>if (k == NameKind.free && env.scope.kind == .function && env.kindOf n == some .cell) then (n,NameKind.cell) else (n,k)).lookup x=some .free)→(x,NameKind.free)∈names∨(x,NameKind.cell)∈names
 | [],h=>by simp at h
 | (n,k)::r,h=>by
  rw [List.map_cons] at h
  cases hx:x == n with
  | true =>
   have e:x=n:=eq_of_beq hx
   by_cases hc:(k == NameKind.free && env.scope.kind == .function && env.kindOf n == some .cell)=true
   ·have:k=.free:=by
     rw [Bool.and_eq_true,Bool.and_eq_true] at hc
     exact eq_of_beq hc.1.1
    left
    rw [e,this]; exact List.mem_cons_self
   ·simp only [hc,if_false,List.lookup_cons,hx,Bool.false_eq_true] at h
    rcases h with h | h
    ·cases h; right; rw [e]; exact List.mem_cons_self
    ·cases h; left; rw [e]; exact List.mem_cons_self
  | false =>
   refine (za0 (env:=env) (names:=r) ?_).imp (List.mem_cons_of_mem _) (List.mem_cons_of_mem _)
   by_cases hc:(k == NameKind.free && env.scope.kind == .function && env.kindOf n == some .cell)=true
   ·simpa only [hc,if_true,List.lookup_cons,hx] using h
   ·simpa only [hc,if_false,List.lookup_cons,hx,Bool.false_eq_true] using h
def capsOf (σ:St) (cap:List Nat):St:=cap.map fun i=>(σ[i]?).join
theorem zii {σ:St} {cap:List Nat} {j i:Nat} {v:V} (hj:cap[j]?=some i) (h:(capsOf σ cap)[j]?=some (some v)):σ[i]?=some (some v):=by
 unfold capsOf at h
 rw [List.getElem?_map,hj] at h
 cases e:σ[i]? with
 | none=>rw [Option.map_some,e] at h; cases h
 | some o =>
  rw [Option.map_some,e] at h
  cases o with
  | none=>cases h
  | some u=>exact h
section
variable {X:Cx} {pins:List (Addr×Obj)} {σ:St} {H:Hp} {s:Shared}
theorem ze8 {scope:Scope} {cl:List (Str×Addr)} {N:List Str} {own:Nat} {cap:List Nat} {fp:List Addr} {h₁:Heap} {t':Nat} {m₀:Str→Option Value} (B:BlkOk X scope N own cap) (I:Inv X pins σ H s)
    (c1:∀y c,cl.lookup y=some c→X.env.cells.lookup y=some c) (c2:∀x∈scope.names,x.2=.free→∃c,cl.lookup x.1=some c)
    (hf:∀b∈fp,FpOk X pins H b) (hfo:∀b∈fp,b<s.heap.objs.size) (hns:h₁.Ns s.heap.objs.size m₀) (k:∀b o,s.heap.get? b=some o→h₁.get? b=some o)
    (hcs:∀c,s.heap.objs.size+1≤c→c<s.heap.objs.size+1+ncell scope.names→h₁.IsCell c none) :
    Inv (cxB X scope (cellsFrom (s.heap.objs.size+1) scope.names cl) N s.heap.objs.size fp s H) [] (List.replicate own none++capsOf σ cap) H { s with heap:=h₁,toks:=t' } :=
  have low:∀x c,cl.lookup x=some c→c<s.heap.objs.size:=fun x c e=>by
    obtain ⟨v,o,q,_⟩:=I.cell x c (c1 x c e)
    exact Heap.lt_size q
  { ok:={
      mod:=I.mod
      kind:=B.kind
      glob:=I.ok.glob
      blt:=I.ok.blt
      above:=Nat.le_refl _
      inj:=zjm _ _ _ (fun x y c e e'=>I.ok.inj x y c (c1 x c e) (c1 y c e')) fun x c e=>Nat.lt_succ_of_lt (low x c e)
      has:=fun x hx=>by
        refine Option.isSome_iff_exists.mp (PySem.W.cellsFrom_some scope.names _ _ ?_)
        rcases za0 hx with q | q
        · right
          obtain ⟨c,e⟩:=c2 _ q rfl
          rw [e]; rfl
        · exact .inl (B.cells _ q rfl)
      cab:=fun x c e e'=>by
        have hx:scope.names.lookup x=some .cell:=eq_of_beq e
        rcases zih _ _ _ e' with ⟨h1,_⟩ | ⟨_,h2⟩
        · exact Nat.le_of_succ_le h1
        · exact absurd (zab hx) h2
      hd:=I.ok.hd
      frames:=I.ok.frames
      stk:=.inl rfl
      exf:=fun b hb=>⟨Nat.ne_of_lt (hfo b hb),fun x c e=>by
        rcases zih _ _ _ e with ⟨h1,_⟩ | ⟨h1,_⟩
        · exact fun z=>absurd (hfo b hb) (by rw [← z]; exact Nat.not_lt.mpr (Nat.le_of_succ_le h1))
        · exact (hf b hb).2.2.2.2.1 x c (c1 x c h1)⟩
      bs:=I.bs
      bsz:=Nat.le_trans I.ok.bsz I.sz
      noex:=fun b o e hb=>by
        rcases (hf b hb).2.2.2.1 with q | q
        · exact I.ok.noex b o e q
        · exact absurd (Nat.lt_of_lt_of_le (Heap.lt_size e) I.ok.bsz) (Nat.not_lt.mpr q)
      exfs:=fun b hb hz=>by
        rcases List.mem_cons.mp (I.stkSub b hz) with q | q
        · exact (hf b hb).2.1 q
        · exact (hf b hb).2.2.1 q
      funs:=I.stack
      frf:=I.stkFree }
    os:=rfl
    bare:=I.bare
    base:=Un.kept k
    loc:=by
      refine ⟨m₀,hns,fun i x v hN hσ hv=>?_⟩
      by_cases hi:i<own
      · rw [List.getElem?_append_left (by rw [List.length_replicate]; exact hi),List.getElem?_replicate,if_pos hi] at hσ
        cases hσ
      · obtain ⟨j,rfl⟩:∃j,i=own+j:=⟨i-own,by omega⟩
        obtain ⟨i',e1,e2,e3⟩:=B.caps j x hN
        rw [List.getElem?_append_right (by rw [List.length_replicate]; omega),List.length_replicate,Nat.add_sub_cancel_left] at hσ
        have hσ':=zii e1 hσ
        have hk:=B.free (x,.free) (zab e3) rfl
        obtain ⟨m,hm,hl⟩:=I.loc
        obtain ⟨u,ru,hu⟩:=hl i' x v e2 hσ' (.inr hk)
        refine ⟨u,ru,?_⟩
        rcases hu with ⟨q,_⟩ | ⟨_,c,hc,ic⟩
        · rcases hk with hk | hk
          · rw [hk] at q; cases q
          · rw [hk] at q; cases q
        · obtain ⟨c',hc'⟩:=c2 (x,.free) (zab e3) rfl
          have ec:=c1 x c' hc'
          rw [hc] at ec
          cases ec
          have hn:(x,NameKind.cell)∉scope.names:=fun z=>by
            have:=B.cells _ z rfl
            rw [e3] at this
            cases this
          exact .inr ⟨zbo e3,c,by show (cellsFrom _ _ _).lookup x=_; rw [zjl _ _ _ hn]; exact hc',ic.keeps k⟩
    cell:=fun x c e=>by
      rcases zih _ _ _ e with ⟨h1,h2,_⟩ | ⟨h1,_⟩
      · exact ⟨none,hcs c h1 h2⟩
      · obtain ⟨v,q⟩:=I.cell x c (c1 x c h1)
        exact ⟨v,q.keeps k⟩
    free:=I.hok.fresh (Nat.le_refl _)
    freeC:=fun x c e=>by
      rcases zih _ _ _ e with ⟨h1,_⟩ | ⟨h1,_⟩
      · exact I.hok.fresh (Nat.le_of_succ_le h1)
      · exact I.freeC x c (c1 x c h1)
    pin:=fun p hp=>(nomatch hp)
    hok:=I.hok.kept k
    len:=by
      show (List.replicate own none++capsOf σ cap).length=N.length
      rw [List.length_append,List.length_replicate,B.len]
      unfold capsOf
      rw [List.length_map] }
end
def tNoTest:TT:=fun _ H Q=>Q true H
def PTs (X:Cx) (ifs:List Expr) (t:TT):Prop :=
 ∀(pins:List (Addr×Obj)) (s:Shared) (σ:St) (H:Hp) (Q:Bool→Hp→Prop),Inv X pins σ H s→t σ H Q →
  wpAny (model X.prog X.w) X.A (forIn ifs true fun c r=>if r=true then do let ok ← isTrue c X.env (eval c X.env); pure (ForInStep.yield ok) else pure (ForInStep.yield r)) (TP X pins σ Q) X.xe s
theorem zod {X:Cx}:PTs X [] tNoTest:=fun _ _ _ H _ I h=>wpAny_tests_nil ⟨H,I,h⟩
theorem zoe {X:Cx} {c:Expr} {t:TT} (h:PT X c t):PTs X [c] t:=fun pins s σ H Q I q=>wpAny_tests_one (h pins s σ H Q I q)
def tComp (wi:TI) (own:Nat) (cap:List Nat) (g:TG) (tt:TT) (te:TE):TE:=fun σ H Q=>wi σ H fun J H1=>∀D,H1 D=none→∃W:Nat→Nat→List V→Hp→Prop,(∃m,W 0 m [] (upd H1 D (.lst []))) ∧
 ∀i m ys H2,W i m ys H2→H2 D=some (.lst ys)∧((J.stop i H2∧Q (.ref D) H2)∨(J.go i H2∧ys.length<sizeLine∧∀x H3,J.yld i H2 x H3→g x (List.replicate own none++capsOf σ cap) H3 fun σ2 H4=>tt σ2 H4 fun b H5 =>
  if b=true then te σ2 H5 fun y H6=>H6 D=some (.lst ys)∧∃m',m'<m∧W (i+1) m' (ys++[y]) (upd H6 D (.lst (ys++[y]))) else ∃m',m'<m∧W (i+1) m' ys H5))
def keepsCaps (own:Nat) (g:TG):Prop:=∀v σ H Q,g v σ H Q→g v σ H fun σ' H'=>Q σ' H'∧σ'.length = σ.length∧∀i,own≤i→σ'[i]? = σ[i]?
theorem zij (i own:Nat) (h:i<own):keepsCaps own (gName i):=fun v σ H Q q=>⟨q,by rw [List.length_set],fun j hj=>by rw [List.getElem?_set_ne (by omega)]⟩
theorem zof {X:Cx} {elt iter tg:Expr} {ifs:List Expr} {scope:Scope} {pos:Pos} {N:List Str} {own:Nat} {cap:List Nat} {wi:TI} {g:TG} {tt:TT} {te:TE} (B:BlkOk X scope N own cap) (hc:X.calm=true) (hi:PI X tg iter wi)
    (kg:keepsCaps own g)
    (hg:∀cl C fp s₀ H₀,PG (cxB X scope cl N C fp s₀ H₀) tg g) (ht:∀cl C fp s₀ H₀,PTs (cxB X scope cl N C fp s₀ H₀) ifs tt) (he:∀cl C fp s₀ H₀,PE (cxB X scope cl N C fp s₀ H₀) elt te)
    (hs:∀x,foldedSetIterable iter X.env x=pure x:=by intro _; rfl):PE X (.ListComp elt [⟨tg,iter,ifs,0⟩] scope pos) (tComp wi own cap g tt te):=by
  intro pins s σ H Q I h
  obtain ⟨cl,hcl,c1,c2,_⟩:=zaa (env:=X.env) scope.names [] (fun x hx hf=>I.ok.has x.1 (B.free x hx hf)) (fun y c e=>by simp at e)
  have hclos:closureFor scope X.env=pure cl:=by
    have e:closureFor scope X.env=(forIn scope.names ([]:List (Str×Addr)) (fun (x:Str×NameKind) (cs:List (Str×Addr))=>if (x.2 == NameKind.free)=true then do let a ← cellOf X.env x.1; pure (ForInStep.yield ((x.1,a)::cs)) else pure (ForInStep.yield cs)) >>= pure:Sem (List (Str×Addr))):=rfl
    rw [e,hcl]
    rfl
  rw [eval_ListComp]
  refine wpAny_comprehension_free (use:=none) rfl hs hclos B.kind B.locs (thn (hi pins s σ H _ I h) fun v s1 h1=>thn h1 fun itv s2 h2=>?_)
  obtain ⟨it,fp,tn,J,H2,e,I2,T,st2,f2,W0⟩:=h2
  subst e
  obtain ⟨W,⟨m0,w0⟩,turn⟩:=W0 s2.heap.objs.size (I2.hok.fresh (Nat.le_refl _))
  refine wpAny_newObj_type ?_
  have I3:Inv X pins σ (upd H2 s2.heap.objs.size (.lst [])) { s2 with heap:=s2.heap.push { cls:=.type "list",data:=.seq ([]:List Value).toArray } }:=I2.lnew .nil (Nat.zero_le _)
  generalize hs3:({ s2 with heap:=s2.heap.push { cls:=.type "list",data:=.seq ([]:List Value).toArray } }:Shared)=s3 at I3
  have k3:∀b o,s2.heap.get? b=some o→s3.heap.get? b=some o:=fun b o e=>by rw [← hs3]; exact Heap.get?_push_of_some _ e
  have z3:s3.heap.objs.size=s2.heap.objs.size+1:=by rw [← hs3]; exact Heap.size_push _ _
  have hfo2:∀b∈fp,b<s2.heap.objs.size:=fun b hb=>by
    obtain ⟨o,e,_⟩:=T.obj _ _ st2 b hb
    exact Heap.lt_size e
  have hne:∀b∈fp,b≠s2.heap.objs.size:=fun b hb=>Nat.ne_of_lt (hfo2 b hb)
  have f3:∀b∈fp,FpOk X pins (upd H2 s2.heap.objs.size (.lst [])) b:=fun b hb=>⟨by rw [yh (hne b hb)]; exact (f2 b hb).1,(f2 b hb).2⟩
  have tn3:tn 0 s3.heap:=T.keep _ _ _ st2 fun b _ o e=>k3 b o e
  show wpAny _ _ (newFunctionEnv scope X.env.globals cl [] X.env.qual none .none (some X.env)) _ _ _
  refine zbn fun h₁ kk hns₁ hcs₁=>?_
  have IB:=ze8 (t':=s3.toks) B I3 c1 c2 f3 (fun b hb=>by rw [z3]; exact Nat.lt_succ_of_lt (hfo2 b hb)) hns₁ kk hcs₁
  generalize cellsFrom (s3.heap.objs.size+1) scope.names cl=cl at IB ⊢
  generalize hs4:({ s3 with heap:=h₁,toks:=s3.toks }:Shared)=s4 at IB
  have tn4:tn 0 s4.heap:=T.keep _ _ _ tn3 fun b _ o e=>by rw [← hs4]; exact kk b o e
  show codeAny (model X.prog X.w) X.A (.compStart (.ListComp elt [⟨tg,iter,ifs,0⟩] scope pos) 0 (.ref it) (.ref s2.heap.objs.size) (compEnvC scope cl s3.heap.objs.size X.env))
      (compPost (model X.prog X.w) X.A X.xe none (EP X pins σ Q) (.ref s2.heap.objs.size) s3.heap.objs.size) s4
  have stat:∀{H':Hp},(∀b∈fp,H' b=none)→∀b∈fp,FpOk (cxB X scope cl N s3.heap.objs.size fp s3 (upd H2 s2.heap.objs.size (.lst []))) [] H' b:=fun hn b hb =>
    ⟨hn b hb,Nat.ne_of_lt (by show b<s3.heap.objs.size; rw [z3]; exact Nat.lt_succ_of_lt (hfo2 b hb)),IB.ok.exfs b hb,.inl hb,fun x c e=>(IB.ok.exf b hb).2 x c e,fun p hp=>(nomatch hp)⟩
  have loop:codeAny (model X.prog X.w) X.A (.compLoop (.ListComp elt [⟨tg,iter,ifs,0⟩] scope pos) 0 (.ref it) (.ref s2.heap.objs.size) (compEnvC scope cl s3.heap.objs.size X.env))
      (compPost (model X.prog X.w) X.A X.xe none (EP X pins σ Q) (.ref s2.heap.objs.size) s3.heap.objs.size) s4:=by
    refine zbm (fun n s'=>∃i ys H',Inv (cxB X scope cl N s3.heap.objs.size fp s3 (upd H2 s2.heap.objs.size (.lst []))) [] (List.replicate own none++capsOf σ cap) H' s'∧tn i s'.heap∧(∀b∈fp,H' b=none)∧W i n ys H') ?_ m0
      ⟨0,[],_,IB,tn4,fun b hb=>(f3 b hb).1,w0⟩
    rintro n s5 ⟨i,ys,H5,I5,st5,fr5,w5⟩
    obtain ⟨hD,hgo⟩:=turn i n ys H5 w5
    rcases hgo with ⟨stop,qn⟩ | ⟨go,hlt,step⟩
    · refine thn (T.done (cxB X scope cl N s3.heap.objs.size fp s3 (upd H2 s2.heap.objs.size (.lst []))) rfl rfl rfl hc i [] s5 _ H5 (fun _ _=>False) I5 (stat fr5) st5 stop) fun r s6 ⟨hr,I6⟩=>?_
      subst hr
      obtain ⟨m,hm,_⟩:=id I6.loc
      refine ⟨m,hm,fun h' sb=>⟨.ref s2.heap.objs.size,H5,?_,rfl,qn⟩⟩
      have U:=I6.base
      have nC:∀b o,s3.heap.get? b=some o→b≠s3.heap.objs.size:=fun b o e=>Nat.ne_of_lt (Heap.lt_size e)
      have nT:∀b o,H5 b=some o→b≠s3.heap.objs.size:=fun b o e z=>by
        have q:H5 s3.heap.objs.size=none:=I6.free
        rw [z,q] at e
        cases e
      refine I3.call' (ch:=fp) I6.os ?_ (fun a o e=>(I6.hok a o e).stay (fun b u hb q=>sb.extBut b u ?_ q) (fun _ q=>q) fun _ _ q=>q) I6.bare (fun b hb=>⟨(f3 b hb).2.2.2.1,(f3 b hb).2.1,(f3 b hb).2.2.2.2.1,(f3 b hb).2.2.2.2.2⟩)
      · exact {
          keep:=fun b o e z hb he=>sb.extBut b o (nC b o e) (U.keep b o e z hb he)
          slot:=fun b o e z hb he=>by
            obtain ⟨sl,q⟩:=U.slot b o e z hb he
            exact ⟨sl,sb.extBut b _ (nC b o e) q⟩
          free:=U.free
          there:=fun b o e he=>by
            obtain ⟨o',q⟩:=U.there b o e he
            exact ⟨o',sb.extBut b o' (nC b o e) q⟩
          tups:=U.tups
          frzs:=U.frzs
          tbls:=U.tbls }
      · rcases hb with rfl | hb
        · exact nT _ _ e
        · exact nT _ _ hb
    · refine thn (T.item (cxB X scope cl N s3.heap.objs.size fp s3 (upd H2 s2.heap.objs.size (.lst []))) rfl rfl rfl hc i [] s5 _ H5 (fun _ _=>False) I5 (stat fr5) st5 go) fun r s6 ⟨u,hr,h6⟩=>?_
      subst hr
      refine thn h6 fun _ s7 ⟨x,H7,I7,r7,y7,st7,fr7⟩=>?_
      have I7':=I7.pinned (stat fr7) (T.obj _ _ st7)
      refine thn (hg cl s3.heap.objs.size fp s3 _ _ s7 _ H7 x u _ I7' r7 (kg _ _ _ _ (step x H7 y7))) fun _ s8 ⟨σ8,H8,I8,q8,l8,p8⟩=>?_
      have back:∀{H9:Hp} {s9:Shared},Inv (cxB X scope cl N s3.heap.objs.size fp s3 (upd H2 s2.heap.objs.size (.lst []))) ([]++pinsAt fp s7.heap) σ8 H9 s9 →
          Inv (cxB X scope cl N s3.heap.objs.size fp s3 (upd H2 s2.heap.objs.size (.lst []))) [] (List.replicate own none++capsOf σ cap) H9 s9∧tn (i+1) s9.heap∧∀b∈fp,H9 b=none:=fun {H9 s9} I9=>by
        refine ⟨(I9.unpinned).weak l8.symm (fun j v e=>?_),T.keep _ _ _ st7 fun b hb o e=>(I9.pin (b,o) (List.mem_append_right _ (List.mem_append_right _ (jb hb e)))).1,fun b hb=>?_⟩
        · by_cases hj:j<own
          · rw [List.getElem?_append_left (by rw [List.length_replicate]; exact hj),List.getElem?_replicate,if_pos hj] at e
            cases e
          · rw [p8 j (by omega)]; exact e
        · obtain ⟨o,e,d⟩:=T.obj _ _ st7 b hb
          exact (I9.pin (b,o) (List.mem_append_right _ (List.mem_append_right _ (jb hb e)))).2.1
      refine thn (ht cl s3.heap.objs.size fp s3 _ _ s8 σ8 H8 _ I8 q8) fun ok s9 ⟨H9,I9,q9⟩=>?_
      cases ok with
      | false =>
        rw [if_neg Bool.false_ne_true]
        rw [if_neg Bool.false_ne_true] at q9
        obtain ⟨m',hm',w'⟩:=q9
        obtain ⟨b1,b2,b3⟩:=back I9
        exact ⟨m',hm',i+1,ys,H9,b1,b2,b3,w'⟩
      | true =>
        rw [if_pos rfl]
        rw [if_pos rfl] at q9
        refine thn (he cl s3.heap.objs.size fp s3 _ _ s9 σ8 H9 _ I9 q9) fun uy s10 ⟨y,H10,I10,r10,hD10,m',hm',w'⟩=>?_
        refine thn (zaw _ s10 σ8 H10 (.ref s2.heap.objs.size) [y] (.ref s2.heap.objs.size) [uy] (fun _ H11=>H11=upd H10 s2.heap.objs.size (.lst (ys++[y]))) I10 rfl (.cons r10 .nil) ⟨_,ys,y,rfl,rfl,hD10,hlt,rfl⟩) fun _ s11 ⟨_,H11,I11,_,e11⟩=>?_
        subst e11
        obtain ⟨b1,b2,b3⟩:=back I11
        exact ⟨m',hm',i+1,ys++[y],_,b1,b2,b3,w'⟩
  exact codeAny_compStart_list loop (T.self X.A 0 s4 _ _ tn4 loop)
end L2
namespace L2
open PySem PySem.Spec PyProof.Rows
section
variable {X:Cx} {pins:List (Addr×Obj)} {σ:St} {H:Hp} {s:Shared} {h':Heap}
theorem Inv.turnLay {ch:List Addr} {a:Addr} {o:HO} {t':Nat} (I:Inv X pins σ H s) (hch:∀b∈ch,FpOk X pins H b) (k:∀b o,b∉ch→s.heap.get? b=some o→h'.get? b=some o) (hp:s.heap.objs.size≤a)
  (new:ObjOk X.prog X.w (upd H a o) h' a o):Inv X pins σ (upd H a o) { s with heap:=h',toks:=t' }:=by
 have hn:H a=none:=I.hok.fresh hp
 have nin:∀b u,H b=some u→b∉ch:=fun b u e z=>by rw [(hch b z).1] at e; cases e
 refine I.step (g':=s.gens) (d':=s.drawn) (ch:=ch) (fun b hb=>⟨(hch b hb).2.2.2.1,(hch b hb).2.1,(hch b hb).2.2.2.2.1,(hch b hb).2.2.2.2.2⟩) (fun b o _ _ hc e _=>k b o hc e) (fun b o _ _ hc e _=>⟨o.slots,k b o hc e⟩)
  (fun b o _ e n=>by rw [yh (Nat.ne_of_lt (Nat.lt_of_lt_of_le (Heap.lt_size e) hp))]; exact n) (fun b o hc e=>⟨o,k b o hc e⟩) (fun b xs q=>by rw [yh (xp q hn)]; exact q) (fun b u xs q=>by rw [yh (xp q hn)]; exact q)
  (fun b ps q=>⟨#[],by rw [yh (xp q hn),q]; simp⟩) (fun m hm=>?_) (fun b u e=>?_) I.bare
 ·obtain ⟨o',es,ep,ho,r⟩:=hm
  exact ⟨o',es,ep,k _ o' (fun z=>(hch _ z).2.1 rfl) ho,r⟩
 ·by_cases hb:b=a
  ·subst hb
   rw [yo] at e
   cases e
   exact new
  ·rw [yh hb] at e
   refine (I.hok b u e).stay (fun c v hc q=>k c v ?_ q) (fun c q=>by rw [yh (xp q hn)]; exact q) fun c xs q=>by rw [yh (xp q hn)]; exact q
   rcases hc with z | z
   ·rw [z]; exact nin b u e
   ·exact nin c _ z
theorem Inv.turnedL {ch:List Addr} {t':Nat} (I:Inv X pins σ H s) (hch:∀b∈ch,FpOk X pins H b) (k:∀b o,b∉ch→s.heap.get? b=some o→h'.get? b=some o):Inv X pins σ H { s with heap:=h',toks:=t' }:=by
 have nin:∀b u,H b=some u→b∉ch:=fun b u e z=>by rw [(hch b z).1] at e; cases e
 refine I.step (g':=s.gens) (d':=s.drawn) (ch:=ch) (fun b hb=>⟨(hch b hb).2.2.2.1,(hch b hb).2.1,(hch b hb).2.2.2.2.1,(hch b hb).2.2.2.2.2⟩) (fun b o _ _ hc e _=>k b o hc e) (fun b o _ _ hc e _=>⟨o.slots,k b o hc e⟩)
  (fun _ _ _ _ n=>n) (fun b o hc e=>⟨o,k b o hc e⟩) (fun _ _ e=>e) (fun _ _ _ e=>e) (fun b ps e=>⟨#[],by rw [e]; simp⟩) (fun m hm=>?_) (fun b u e=>?_) I.bare
 ·obtain ⟨o',es,ep,ho,r⟩:=hm
  exact ⟨o',es,ep,k _ o' (fun z=>(hch _ z).2.1 rfl) ho,r⟩
 ·refine (I.hok b u e).stay (fun c v hc q=>k c v ?_ q) (fun _ q=>q) fun _ _ q=>q
  rcases hc with z | z
  ·rw [z]; exact nin b u e
  ·exact nin c _ z
end
def Ite (K:PySem.W.Frag) (a:Addr):It :=
 ⟨fun i H=>∃xs x,SqL K H a xs∧xs[i]?=some x,fun i H x H'=>∃p y,H p=none∧x=.ref p∧H'=upd H p (.tup [.int i,y])∧∀xs,SqL K H a xs→xs[i]?=some y,fun i H=>∃xs,SqL K H a xs∧xs.length≤i⟩
theorem zjn {P:Program} {w:World} {K:PySem.W.Frag} {elts:List Expr} {kt:Nat} {pt:Pos} (a e it:Addr) (hei:e≠it) :
    Turn P w K (.Tuple elts kt pt) (Ite K a) [e,it] e (fun i h=>(∃old,IsEnum h e it i old)∧h.IsListIter it a i) where
  mem:=by simp
  obj:=fun i h st b hb=>by
    obtain ⟨⟨old,he⟩,o,e1,c,d⟩:=st
    rcases List.mem_cons.mp hb with rfl | hb
    · exact ⟨_,he,fun v z=>by cases z⟩
    · have e2:b=it:=by simpa using hb
      subst e2
      exact ⟨o,e1,fun v z=>by rw [d] at z; cases z⟩
  keep:=fun i h h' st k=>by
    obtain ⟨⟨old,he⟩,hit⟩:=st
    exact ⟨⟨old,k e (by simp) _ he⟩,hit.at fun o x=>k it (by simp) o x⟩
  item:=by
    intro X hP hw hK hc i pins s σ H E I hf st hg
    subst hP hw hK
    obtain ⟨xs,x,hq,hx⟩:=hg
    obtain ⟨its,rv,p,hz⟩:=I.list hq
    obtain ⟨u,hu,ru⟩:=rv.get hx
    obtain ⟨⟨old,he⟩,hit⟩:=st
    refine wpAny_pyNext_enum_item he hit p.isList (x:=u) (by simpa using hu) hei fun h1 ho hit1 hT hsz hk=>?_
    refine ⟨_,rfl,wpAny_letOwnedTupleGo_enum (s:={ s with heap:=h1,toks:=s.toks+1 }) ho fun h2 he2 sb2=>?_⟩
    have elt:e<s.heap.objs.size:=Heap.lt_size he
    have ilt:it<s.heap.objs.size:=by obtain ⟨_,q,_⟩:=hit; exact Heap.lt_size q
    have hT2:h2.get? s.heap.objs.size=some { cls:=.type "tuple",data:=.seq #[.int i s.toks,u] }:=(sb2.2 _ (Nat.ne_of_gt elt)).trans hT
    have hfr:H s.heap.objs.size=none:=I.hok.fresh (Nat.le_refl _)
    have I1:Inv X pins σ (upd H s.heap.objs.size (.tup [.int i,x])) { s with heap:=h2,toks:=s.toks+1 }:=by
      refine I.turnLay (ch:=[e,it]) hf (fun b o hb q=>?_) (Nat.le_refl _) ⟨by show 2≤sizeLine; decide,[.int i s.toks,u],.cons ⟨_,rfl⟩ (.cons ru .nil),_,hT2,rfl,_,rfl⟩
      have h1':b≠e:=fun z=>hb (by simp [z])
      have h2':b≠it:=fun z=>hb (by simp [z])
      exact (sb2.2 b h1').trans (hk b o h1' h2' q)
    refine ⟨.ref s.heap.objs.size,_,I1,rfl,⟨_,x,hfr,rfl,rfl,fun ys hy=>by rw [I.list_inj hy hq]; exact hx⟩,⟨⟨u,by simpa using he2⟩,hit1.at fun o q=>(sb2.2 it hei.symm).trans q⟩,fun b hb=>?_⟩
    rw [yh ?_]
    · exact (hf b hb).1
    · rcases List.mem_cons.mp hb with rfl | hb
      · exact Nat.ne_of_lt elt
      · have e2:b=it:=by simpa using hb
        rw [e2]; exact Nat.ne_of_lt ilt
  done:=by
    intro X hP hw hK hc i pins s σ H E I hf st hg
    subst hP hw hK
    obtain ⟨xs,hq,hx⟩:=hg
    obtain ⟨its,rv,p,hz⟩:=I.list hq
    obtain ⟨⟨old,he⟩,hit⟩:=st
    have hl:=rv.length
    exact wpAny_pyNext_enum_end (I.ok.hd hc) he hit p.isList (by simp; omega) fun h' eb=>⟨rfl,I.turnedL (ch:=[e,it]) (t':=s.toks) hf fun b o hb q=>eb b o (fun z=>hb (by simp [z])) q⟩
  self:=fun _ _ _ _ _ st h=>wpAny_pyIter_enum st.1.choose_spec h
section
variable {X:Cx} {elts:List Expr} {kt:Nat} {pt:Pos}
def iEnum (K:PySem.W.Frag) (ta:TA):TI:=fun σ H R=>ta σ H fun vs H1=>∃a,vs=[.ref a]∧(∃xs,SqL K H1 a xs)∧R (Ite K a) H1
theorem zog {l:Expr} {ta:TA} {p pos:Pos} (hg:Gl X "enumerate") (hm:X.mg "enumerate"=none) (ha:PA X [l] ta) (hs:starEach [l] X.env=[(false,eval l X.env)]:=by rfl) :
  PI X (.Tuple elts kt pt) (.Call (.Name "enumerate" p) [l] [] pos) (iEnum X.K ta):=by
 intro pins s σ H R I h
 refine Call_ (zav I hg hm PyProof.Rows.boot_enumerate (PyProof.Rows.callWith_type1 (thn (ha pos pins s σ H _ I h) fun us s1 ⟨vs,H1,I1,r1,q1⟩=>?_) hs rfl))
 obtain ⟨a,e,⟨xs,hq⟩,q⟩:=q1
 subst e
 cases r1 with
 | cons r rr =>
  cases rr
  cases r
  obtain ⟨its,rv,pl,hz⟩:=I1.list hq
  refine call_enumerate_list pl.isList fun h' he hit hsz hk=>?_
  refine wpAny_pyIter_enum (s:={ s1 with heap:=h' }) he ?_
  refine ⟨s1.heap.objs.size+1,[s1.heap.objs.size+1,s1.heap.objs.size],_,_,H1,rfl,I1.kept (t':=s1.toks) hk,zjn a _ _ (Nat.succ_ne_self _),⟨⟨_,he⟩,hit⟩,fun b hb=>?_,q⟩
  rcases List.mem_cons.mp hb with rfl | hb
  ·exact I1.fpOk (Nat.le_succ _) (I1.hok.fresh (Nat.le_succ _))
  ·have e:b=s1.heap.objs.size:=by simpa using hb
   subst e
   exact I1.fpOk (Nat.le_refl _) (I1.hok.fresh (Nat.le_refl _))
end
end L2
namespace L3
open PySem PySem.Spec L2
open PyProof.Rows hiding St
inductive D where
 | non | bl (b:Bool) | int (i:Int) | str (x:Str)
 | lst (xs:List D) | tup (xs:List D) | dK (ks:List Key) (ds:List D) | dT (ks:List (List Key)) (ds:List D)
 | obj (c:Nat) (ns:List Str) (ds:List D)
 deriving Inhabited
inductive Pr (R:D→V→Prop):List D→List V→Prop
 | nil:Pr R [] []
 | cons {d:D} {v:V} {ds:List D} {vs:List V}:R d v→Pr R ds vs→Pr R (d::ds) (v::vs)
theorem Pr.mono {R R':D→V→Prop} (f:∀d v,R d v→R' d v):∀{ds:List D} {vs:List V},Pr R ds vs→Pr R' ds vs
 | _,_,.nil=>.nil
 | _,_,.cons h t=>.cons (f _ _ h) (Pr.mono f t)
theorem Pr.length {R:D→V→Prop}:∀{ds:List D} {vs:List V},Pr R ds vs→ds.length=vs.length
 | _,_,.nil=>rfl
 | _,_,.cons _ t=>by simp [Pr.length t]
theorem Pr.get' {R:D→V→Prop}:∀{ds:List D} {vs:List V} {i:Nat} {d:D},Pr R ds vs→ds[i]?=some d→∃v,vs[i]?=some v∧R d v
 | _,_,_,_,.nil,e=>by simp at e
 | _,_,0,_,.cons h _,e=>by simp at e; subst e; exact ⟨_,rfl,h⟩
 | _,_,i+1,v,.cons _ t,e=>by
  obtain ⟨d,h1,h2⟩:=Pr.get' (i:=i) (d:=v) t (by simpa using e)
  exact ⟨d,by simpa using h1,h2⟩
theorem Pr.append {R:D→V→Prop}:∀{ds es:List D} {vs us:List V},Pr R ds vs→Pr R es us→Pr R (ds++es) (vs++us)
 | _,_,_,_,.nil,s=>s
 | _,_,_,_,.cons h t,s=>.cons h (Pr.append t s)
theorem Pr.take {R:D→V→Prop}:∀{ds:List D} {vs:List V} (n:Nat),Pr R ds vs→Pr R (ds.take n) (vs.take n)
 | _,_,0,_=>.nil
 | _,_,_+1,.nil=>.nil
 | _,_,n+1,.cons h t=>.cons h (Pr.take n t)
theorem Pr.drop {R:D→V→Prop}:∀{ds:List D} {vs:List V} (n:Nat),Pr R ds vs→Pr R (ds.drop n) (vs.drop n)
 | _,_,0,r=>r
 | _,_,_+1,.nil=>.nil
 | _,_,n+1,.cons _ t=>Pr.drop n t
theorem Pr.reverse {R:D→V→Prop} {ds:List D} {vs:List V} (h:Pr R ds vs):Pr R ds.reverse vs.reverse:=by
 induction h with
 | nil=>exact .nil
 | cons h t ih=>rw [List.reverse_cons,List.reverse_cons]; exact ih.append (.cons h .nil)
theorem Pr.rep {R:D→V→Prop} {ds:List D} {vs:List V} (h:Pr R ds vs):∀k:Nat,Pr R (List.replicate k ds).flatten (List.replicate k vs).flatten
 | 0=>.nil
 | k+1=>by rw [List.replicate_succ,List.flatten_cons,List.replicate_succ,List.flatten_cons]; exact h.append (Pr.rep h k)
mutual
inductive Dt (K:PySem.W.Frag) (ct:Nat→Addr) (F:Hp):D→V→Prop
 | non:Dt K ct F .non .non
 | bl (b:Bool):Dt K ct F (.bl b) (.bl b)
 | int (i:Int):Dt K ct F (.int i) (.int i)
 | str (x:Str):Dt K ct F (.str x) (.str x)
 | lst {a:Addr} {vs:List V} {ds:List D}:SqL K F a vs→Dts K ct F ds vs→Dt K ct F (.lst ds) (.ref a)
 | tup {a:Addr} {vs:List V} {ds:List D}:F a=some (.tup vs)→Dts K ct F ds vs→Dt K ct F (.tup ds) (.ref a)
 | dK {a:Addr} {ks:List Key} {vs:List V} {ds:List D}:F a=some (.dK (ks.zip vs))→ks.length=vs.length→Dts K ct F ds vs→Dt K ct F (.dK ks ds) (.ref a)
 | dT {a:Addr} {ks:List (List Key)} {vs:List V} {ds:List D}:F a=some (.dT (ks.zip vs))→ks.length=vs.length→Dts K ct F ds vs→Dt K ct F (.dT ks ds) (.ref a)
 | obj {a dx:Addr} {c:Nat} {ns:List Str} {vs:List V} {ds:List D}:F a=some (.ins (ct c) dx (ns.zip vs))→ns.length=vs.length→Dts K ct F ds vs→Dt K ct F (.obj c ns ds) (.ref a)
inductive Dts (K:PySem.W.Frag) (ct:Nat→Addr) (F:Hp):List D→List V→Prop
 | nil:Dts K ct F [] []
 | cons {d:D} {v:V} {ds:List D} {vs:List V}:Dt K ct F d v→Dts K ct F ds vs→Dts K ct F (d::ds) (v::vs)
end
section
variable {K:PySem.W.Frag} {ct:Nat→Addr} {F F' G G' H H' B B':Hp}
theorem Dts.pr:∀{ds:List D} {vs:List V},Dts K ct F ds vs→Pr (Dt K ct F) ds vs
 | _,_,.nil=>.nil
 | _,_,.cons h t=>.cons h (Dts.pr t)
theorem Dts.of:∀{ds:List D} {vs:List V},Pr (Dt K ct F) ds vs→Dts K ct F ds vs
 | _,_,.nil=>.nil
 | _,_,.cons h t=>.cons h (Dts.of t)
mutual
theorem Dt.mono (s:Same F F'):∀{d:D} {v:V},Dt K ct F d v→Dt K ct F' d v
 | _,_,.non=>.non
 | _,_,.bl b=>.bl b
 | _,_,.int i=>.int i
 | _,_,.str x=>.str x
 | _,_,.lst h t=>.lst (s.seq h) (Dts.mono s t)
 | _,_,.tup h t=>.tup (s _ _ h) (Dts.mono s t)
 | _,_,.dK h l t=>.dK (s _ _ h) l (Dts.mono s t)
 | _,_,.dT h l t=>.dT (s _ _ h) l (Dts.mono s t)
 | _,_,.obj h l t=>.obj (s _ _ h) l (Dts.mono s t)
theorem Dts.mono (s:Same F F'):∀{ds:List D} {vs:List V},Dts K ct F ds vs→Dts K ct F' ds vs
 | _,_,.nil=>.nil
 | _,_,.cons h t=>.cons (Dt.mono s h) (Dts.mono s t)
end
end
def D.sc:D→Bool
 | .non=>true | .bl _=>true | .int _=>true | .str _=>true | _=>false
inductive AlC (K:PySem.W.Frag) (ct:Nat→Addr) (F G:Hp) (R:D→V→Prop):D→V→Prop
 | lst {a:Addr} {vs:List V} {ds:List D}:G a=some (.lst vs)→Pr R ds vs→AlC K ct F G R (.lst ds) (.ref a)
 | tup {a:Addr} {vs:List V} {ds:List D}:F a=some (.tup vs)→Pr R ds vs→AlC K ct F G R (.tup ds) (.ref a)
 | dK {a:Addr} {ks:List Key} {vs:List V} {ds:List D}:G a=some (.dK (ks.zip vs))→ks.length=vs.length→Pr R ds vs→AlC K ct F G R (.dK ks ds) (.ref a)
 | dT {a:Addr} {ks:List (List Key)} {vs:List V} {ds:List D}:G a=some (.dT (ks.zip vs))→ks.length=vs.length→Pr R ds vs→AlC K ct F G R (.dT ks ds) (.ref a)
 | obj {a dx:Addr} {c:Nat} {ns:List Str} {vs:List V} {ds:List D}:G a=some (.ins (ct c) dx (ns.zip vs))→ns.length=vs.length→Pr R ds vs→AlC K ct F G R (.obj c ns ds) (.ref a)
def Al (K:PySem.W.Frag) (ct:Nat→Addr) (F G:Hp):Nat→D→V→Prop
 | 0,d,v=>Dt K ct F d v
 | n+1,d,v=>Dt K ct F d v∨AlC K ct F G (Al K ct F G n) d v
inductive OwL (R:D→V→List Addr→Prop):List D→List V→List Addr→Prop
 | nil:OwL R [] [] []
 | cons {d:D} {v:V} {ds:List D} {vs:List V} {f g:List Addr}:R d v f→OwL R ds vs g→OwL R (d::ds) (v::vs) (f++g)
inductive OwC (K:PySem.W.Frag) (ct:Nat→Addr) (F H:Hp) (R:D→V→List Addr→Prop):D→V→List Addr→Prop
 | lst {a:Addr} {vs:List V} {ds:List D} {fp:List Addr}:F a=none→H a=some (.lst vs)→OwL R ds vs fp→OwC K ct F H R (.lst ds) (.ref a) (a::fp)
 | tup {a:Addr} {vs:List V} {ds:List D} {fp:List Addr}:F a=some (.tup vs)→OwL R ds vs fp→OwC K ct F H R (.tup ds) (.ref a) fp
 | dK {a:Addr} {ks:List Key} {vs:List V} {ds:List D} {fp:List Addr}:F a=none→H a=some (.dK (ks.zip vs))→ks.length=vs.length→OwL R ds vs fp→OwC K ct F H R (.dK ks ds) (.ref a) (a::fp)
 | dT {a:Addr} {ks:List (List Key)} {vs:List V} {ds:List D} {fp:List Addr}:F a=none→H a=some (.dT (ks.zip vs))→ks.length=vs.length→OwL R ds vs fp→OwC K ct F H R (.dT ks ds) (.ref a) (a::fp)
 | obj {a dx:Addr} {c:Nat} {ns:List Str} {vs:List V} {ds:List D} {fp:List Addr}:F a=none→H a=some (.ins (ct c) dx (ns.zip vs))→ns.length=vs.length→OwL R ds vs fp→OwC K ct F H R (.obj c ns ds) (.ref a) (a::fp)
def Ow (K:PySem.W.Frag) (ct:Nat→Addr) (F H:Hp):Nat→D→V→List Addr→Prop
 | 0,d,v,fp=>Dt K ct F d v∧fp=[]
 | n+1,d,v,fp=>(d.sc=true∧Dt K ct F d v∧fp=[])∨OwC K ct F H (Ow K ct F H n) d v fp
structure Ext (F H F' H':Hp):Prop where
 ff:Same F F'
 hh:Same H H'
 fh:Same F' H'
 nf:∀a o,H a=some o→F a=none→F' a=none
theorem Ext.refl {F H:Hp} (h:Same F H):Ext F H F H:=⟨.refl _,.refl _,h,fun _ _ _ h=>h⟩
theorem Ext.trans {F H F1 H1 F2 H2:Hp} (a:Ext F H F1 H1) (b:Ext F1 H1 F2 H2):Ext F H F2 H2 :=
 ⟨a.ff.trans b.ff,a.hh.trans b.hh,b.fh,fun c o h n=>b.nf c o (a.hh _ _ h) (a.nf c o h n)⟩
theorem Ext.newO {F H:Hp} {p:Addr} (s:Same F H) (h:H p=none) (o:HO):Ext F H F (upd H p o) :=
 ⟨.refl _,zay h o,s.trans (zay h o),fun _ _ _ h=>h⟩
theorem Ext.newS {F H:Hp} {p:Addr} (s:Same F H) (h:H p=none) (o:HO):Ext F H (upd F p o) (upd H p o) :=
  ⟨zay (s.free h) o,zay h o,fun b u q=>by
    by_cases e:b=p
    · subst e; rw [yo] at q ⊢; exact q
    · rw [yh e] at q ⊢; exact s _ _ q,
   fun b u q n=>by rw [yh (xp q h)]; exact n⟩
section
variable {K:PySem.W.Frag} {ct:Nat→Addr} {F F' G G' H H' B B':Hp}
theorem Al.mono (sF:Same F F') (sG:Same G G'):∀{n:Nat} {d:D} {v:V},Al K ct F G n d v→Al K ct F' G' n d v
 | 0,_,_,h=>Dt.mono sF h
 | n+1,_,_,.inl h=>.inl (Dt.mono sF h)
 | n+1,_,_,.inr (.lst h p)=>.inr (.lst (sG _ _ h) (p.mono fun _ _ q=>Al.mono sF sG q))
 | n+1,_,_,.inr (.tup h p)=>.inr (.tup (sF _ _ h) (p.mono fun _ _ q=>Al.mono sF sG q))
 | n+1,_,_,.inr (.dK h l p)=>.inr (.dK (sG _ _ h) l (p.mono fun _ _ q=>Al.mono sF sG q))
 | n+1,_,_,.inr (.dT h l p)=>.inr (.dT (sG _ _ h) l (p.mono fun _ _ q=>Al.mono sF sG q))
 | n+1,_,_,.inr (.obj h l p)=>.inr (.obj (sG _ _ h) l (p.mono fun _ _ q=>Al.mono sF sG q))
theorem Al.of:∀{n:Nat} {d:D} {v:V},Dt K ct F d v→Al K ct F G n d v
 | 0,_,_,h=>h
 | _+1,_,_,h=>.inl h
theorem Dt.scal {d:D} {v:V} (h:Dt K ct F d v) (hs:d.sc=true):Dt K ct F' d v:=by
 cases h with
 | non=>exact .non
 | bl b=>exact .bl b
 | int i=>exact .int i
 | str x=>exact .str x
 | lst _ _=>cases hs
 | tup _ _=>cases hs
 | dK _ _ _=>cases hs
 | dT _ _ _=>cases hs
 | obj _ _ _=>cases hs
theorem Al.scal {n:Nat} {d:D} {v:V} (h:Al K ct F G n d v) (hs:d.sc=true):Dt K ct F' d v:=by
 cases n with
 | zero=>exact Dt.scal h hs
 | succ n =>
  rcases h with h | h
  ·exact h.scal hs
  ·cases h <;> cases hs
theorem Al.int {n:Nat} {i:Int} {v:V} (h:Al K ct F G n (.int i) v):v=.int i:=by
 have q:=Al.scal (F':=F) h rfl
 cases q; rfl
theorem Al.bl {n:Nat} {b:Bool} {v:V} (h:Al K ct F G n (.bl b) v):v=.bl b:=by
 have q:=Al.scal (F':=F) h rfl
 cases q; rfl
theorem Al.str {n:Nat} {x:Str} {v:V} (h:Al K ct F G n (.str x) v):v=.str x:=by
 have q:=Al.scal (F':=F) h rfl
 cases q; rfl
theorem Al.non {n:Nat} {v:V} (h:Al K ct F G n .non v):v=.non:=by
 have q:=Al.scal (F':=F) h rfl
 cases q; rfl
theorem Al.lst {n:Nat} {ds:List D} {v:V} (h:Al K ct F G n (.lst ds) v) (s:Same F G):∃a vs,v=.ref a∧SqL K G a vs∧Pr (Al K ct F G (n-1)) ds vs:=by
 cases n with
 | zero =>
  have h:Dt K ct F (.lst ds) v:=h
  cases h with
  | lst q t=>exact ⟨_,_,rfl,s.seq q,t.pr⟩
 | succ n =>
  rcases h with h | h
  ·cases h with
   | lst q t=>exact ⟨_,_,rfl,s.seq q,t.pr.mono fun _ _=>Al.of⟩
  ·cases h with
   | lst q t=>exact ⟨_,_,rfl,SqL.of q,t⟩
theorem Al.tup {n:Nat} {ds:List D} {v:V} (h:Al K ct F G n (.tup ds) v) (s:Same F G):∃a vs,v=.ref a∧G a=some (.tup vs)∧Pr (Al K ct F G (n-1)) ds vs:=by
 cases n with
 | zero =>
  have h:Dt K ct F (.tup ds) v:=h
  cases h with
  | tup q t=>exact ⟨_,_,rfl,s _ _ q,t.pr⟩
 | succ n =>
  rcases h with h | h
  ·cases h with
   | tup q t=>exact ⟨_,_,rfl,s _ _ q,t.pr.mono fun _ _=>Al.of⟩
  ·cases h with
   | tup q t=>exact ⟨_,_,rfl,s _ _ q,t⟩
theorem Al.dK {n:Nat} {ks:List Key} {ds:List D} {v:V} (h:Al K ct F G n (.dK ks ds) v) (s:Same F G):∃a vs,v=.ref a∧G a=some (.dK (ks.zip vs))∧ks.length=vs.length∧Pr (Al K ct F G (n-1)) ds vs:=by
 cases n with
 | zero =>
  have h:Dt K ct F (.dK ks ds) v:=h
  cases h with
  | dK q l t=>exact ⟨_,_,rfl,s _ _ q,l,t.pr⟩
 | succ n =>
  rcases h with h | h
  ·cases h with
   | dK q l t=>exact ⟨_,_,rfl,s _ _ q,l,t.pr.mono fun _ _=>Al.of⟩
  ·cases h with
   | dK q l t=>exact ⟨_,_,rfl,q,l,t⟩
theorem Al.dT {n:Nat} {ks:List (List Key)} {ds:List D} {v:V} (h:Al K ct F G n (.dT ks ds) v) (s:Same F G):∃a vs,v=.ref a∧G a=some (.dT (ks.zip vs))∧ks.length=vs.length∧Pr (Al K ct F G (n-1)) ds vs:=by
 cases n with
 | zero =>
  have h:Dt K ct F (.dT ks ds) v:=h
  cases h with
  | dT q l t=>exact ⟨_,_,rfl,s _ _ q,l,t.pr⟩
 | succ n =>
  rcases h with h | h
  ·cases h with
   | dT q l t=>exact ⟨_,_,rfl,s _ _ q,l,t.pr.mono fun _ _=>Al.of⟩
  ·cases h with
   | dT q l t=>exact ⟨_,_,rfl,q,l,t⟩
theorem Al.obj {n:Nat} {c:Nat} {ns:List Str} {ds:List D} {v:V} (h:Al K ct F G n (.obj c ns ds) v) (s:Same F G):∃a dx vs,v=.ref a∧G a=some (.ins (ct c) dx (ns.zip vs))∧ns.length=vs.length∧Pr (Al K ct F G (n-1)) ds vs:=by
 cases n with
 | zero =>
  have h:Dt K ct F (.obj c ns ds) v:=h
  cases h with
  | obj q l t=>exact ⟨_,_,_,rfl,s _ _ q,l,t.pr⟩
 | succ n =>
  rcases h with h | h
  ·cases h with
   | obj q l t=>exact ⟨_,_,_,rfl,s _ _ q,l,t.pr.mono fun _ _=>Al.of⟩
  ·cases h with
   | obj q l t=>exact ⟨_,_,_,rfl,q,l,t⟩
theorem OwL.mono {R R':D→V→List Addr→Prop}:∀{ds:List D} {vs:List V} {fp:List Addr},OwL R ds vs fp→(∀d v f,(∀a∈f,a∈fp)→R d v f→R' d v f)→OwL R' ds vs fp
 | _,_,_,.nil,_=>.nil
 | _,_,_,.cons h t,q=>.cons (q _ _ _ (fun a z=>List.mem_append_left _ z) h) (OwL.mono t fun d v f i r=>q d v f (fun a z=>List.mem_append_right _ (i a z)) r)
theorem OwL.pr {R:D→V→List Addr→Prop} {R':D→V→Prop}:∀{ds:List D} {vs:List V} {fp:List Addr},OwL R ds vs fp→(∀d v f,(∀a∈f,a∈fp)→R d v f→R' d v)→Pr R' ds vs
 | _,_,_,.nil,_=>.nil
 | _,_,_,.cons h t,q=>.cons (q _ _ _ (fun a z=>List.mem_append_left _ z) h) (OwL.pr t fun d v f i r=>q d v f (fun a z=>List.mem_append_right _ (i a z)) r)
theorem OwL.ofPr {R:D→V→List Addr→Prop}:∀{ds:List D} {vs:List V},Pr (fun d v=>R d v []) ds vs→OwL R ds vs []
 | _,_,.nil=>.nil
 | _,_,.cons h t=>OwL.cons (f:=[]) (g:=[]) h (OwL.ofPr t)
theorem OwL.append {R:D→V→List Addr→Prop}:∀{ds es:List D} {vs us:List V} {f g:List Addr},OwL R ds vs f→OwL R es us g→OwL R (ds++es) (vs++us) (f++g)
 | _,_,_,_,_,_,.nil,s=>s
 | _,_,_,_,_,_,.cons h t,s=>by rw [List.append_assoc]; exact .cons h (OwL.append t s)
theorem OwL.length {R:D→V→List Addr→Prop}:∀{ds:List D} {vs:List V} {fp:List Addr},OwL R ds vs fp→ds.length=vs.length
 | _,_,_,.nil=>rfl
 | _,_,_,.cons _ t=>by simp [OwL.length t]
theorem Ow.frame (sF:Same F F'):∀{n:Nat} {d:D} {v:V} {fp:List Addr},Ow K ct F H n d v fp→(∀a∈fp,H' a=H a∧F' a=none)→Ow K ct F' H' n d v fp
 | 0,_,_,_,⟨h,e⟩,_=>⟨h.mono sF,e⟩
 | n+1,_,_,_,.inl ⟨c,h,e⟩,_=>.inl ⟨c,h.mono sF,e⟩
 | n+1,_,_,_,.inr (.lst hn h p),k=>.inr (.lst (k _ List.mem_cons_self).2 ((k _ List.mem_cons_self).1.trans h) (p.mono fun _ _ _ i q=>Ow.frame sF q fun a z=>k a (List.mem_cons_of_mem _ (i a z))))
 | n+1,_,_,_,.inr (.tup h p),k=>.inr (.tup (sF _ _ h) (p.mono fun _ _ _ i q=>Ow.frame sF q fun a z=>k a (i a z)))
 | n+1,_,_,_,.inr (.dK hn h l p),k=>.inr (.dK (k _ List.mem_cons_self).2 ((k _ List.mem_cons_self).1.trans h) l (p.mono fun _ _ _ i q=>Ow.frame sF q fun a z=>k a (List.mem_cons_of_mem _ (i a z))))
 | n+1,_,_,_,.inr (.obj hn h l p),k=>.inr (.obj (k _ List.mem_cons_self).2 ((k _ List.mem_cons_self).1.trans h) l (p.mono fun _ _ _ i q=>Ow.frame sF q fun a z=>k a (List.mem_cons_of_mem _ (i a z))))
 | n+1,_,_,_,.inr (.dT hn h l p),k=>.inr (.dT (k _ List.mem_cons_self).2 ((k _ List.mem_cons_self).1.trans h) l (p.mono fun _ _ _ i q=>Ow.frame sF q fun a z=>k a (List.mem_cons_of_mem _ (i a z))))
theorem Ow.cells:∀{n:Nat} {d:D} {v:V} {fp:List Addr},Ow K ct F H n d v fp→∀a∈fp,F a=none∧∃o,H a=some o
 | 0,_,_,_,⟨_,e⟩,a,z=>by subst e; cases z
 | n+1,_,_,_,.inl ⟨_,_,e⟩,a,z=>by subst e; cases z
 | n+1,_,_,_,.inr (.lst hn h p),a,z=>by
  rcases List.mem_cons.mp z with rfl | z
  ·exact ⟨hn,_,h⟩
  ·exact OwL.cells (fun d v f q=>Ow.cells q) p a z
 | n+1,_,_,_,.inr (.tup h p),a,z=>OwL.cells (fun d v f q=>Ow.cells q) p a z
 | n+1,_,_,_,.inr (.dK hn h l p),a,z=>by
  rcases List.mem_cons.mp z with rfl | z
  ·exact ⟨hn,_,h⟩
  ·exact OwL.cells (fun d v f q=>Ow.cells q) p a z
 | n+1,_,_,_,.inr (.obj hn h l p),a,z=>by
  rcases List.mem_cons.mp z with rfl | z
  ·exact ⟨hn,_,h⟩
  ·exact OwL.cells (fun d v f q=>Ow.cells q) p a z
 | n+1,_,_,_,.inr (.dT hn h l p),a,z=>by
  rcases List.mem_cons.mp z with rfl | z
  ·exact ⟨hn,_,h⟩
  ·exact OwL.cells (fun d v f q=>Ow.cells q) p a z
where
 OwL.cells {R:D→V→List Addr→Prop} (k:∀d v f,R d v f→∀a∈f,F a=none∧∃o,H a=some o):∀{ds:List D} {vs:List V} {fp:List Addr},OwL R ds vs fp→∀a∈fp,F a=none∧∃o,H a=some o
 | _,_,_,.nil,a,z=>by cases z
 | _,_,_,.cons h t,a,z=>(List.mem_append.mp z).elim (fun z=>k _ _ _ h a z) fun z=>OwL.cells k t a z
theorem Ow.ext {n:Nat} {d:D} {v:V} {fp:List Addr} (h:Ow K ct F H n d v fp) (e:Ext F H F' H'):Ow K ct F' H' n d v fp :=
 h.frame e.ff fun a z=>by
  obtain ⟨hn,o,ho⟩:=h.cells a z
  exact ⟨(e.hh _ _ ho).trans ho.symm,e.nf a o ho hn⟩
theorem Ow.al (s:Same F H):∀{n:Nat} {d:D} {v:V} {fp:List Addr},Ow K ct F H n d v fp→Al K ct F H n d v
 | 0,_,_,_,⟨h,_⟩=>h
 | n+1,_,_,_,.inl ⟨_,h,_⟩=>.inl h
 | n+1,_,_,_,.inr (.lst hn h p)=>.inr (.lst h (p.pr fun _ _ _ _ q=>Ow.al s q))
 | n+1,_,_,_,.inr (.tup h p)=>.inr (.tup h (p.pr fun _ _ _ _ q=>Ow.al s q))
 | n+1,_,_,_,.inr (.dK hn h l p)=>.inr (.dK h l (p.pr fun _ _ _ _ q=>Ow.al s q))
 | n+1,_,_,_,.inr (.obj hn h l p)=>.inr (.obj h l (p.pr fun _ _ _ _ q=>Ow.al s q))
 | n+1,_,_,_,.inr (.dT hn h l p)=>.inr (.dT h l (p.pr fun _ _ _ _ q=>Ow.al s q))
theorem Ow.dt (sF:Same F F'):∀{n:Nat} {d:D} {v:V} {fp:List Addr},Ow K ct F H n d v fp→(∀a∈fp,F' a=H a)→Dt K ct F' d v
 | 0,_,_,_,⟨h,_⟩,_=>h.mono sF
 | n+1,_,_,_,.inl ⟨_,h,_⟩,_=>h.mono sF
 | n+1,_,_,_,.inr (.lst hn h p),k=>.lst (SqL.of ((k _ List.mem_cons_self).trans h)) (.of (p.pr fun _ _ _ i q=>Ow.dt sF q fun a z=>k a (List.mem_cons_of_mem _ (i a z))))
 | n+1,_,_,_,.inr (.tup h p),k=>.tup (sF _ _ h) (.of (p.pr fun _ _ _ i q=>Ow.dt sF q fun a z=>k a (i a z)))
 | n+1,_,_,_,.inr (.dK hn h l p),k=>.dK ((k _ List.mem_cons_self).trans h) l (.of (p.pr fun _ _ _ i q=>Ow.dt sF q fun a z=>k a (List.mem_cons_of_mem _ (i a z))))
 | n+1,_,_,_,.inr (.obj hn h l p),k=>.obj ((k _ List.mem_cons_self).trans h) l (.of (p.pr fun _ _ _ i q=>Ow.dt sF q fun a z=>k a (List.mem_cons_of_mem _ (i a z))))
 | n+1,_,_,_,.inr (.dT hn h l p),k=>.dT ((k _ List.mem_cons_self).trans h) l (.of (p.pr fun _ _ _ i q=>Ow.dt sF q fun a z=>k a (List.mem_cons_of_mem _ (i a z))))
def withC (F H:Hp) (fp:List Addr):Hp:=fun a=>if a∈fp then H a else F a
theorem uq {fp:List Addr} (s:Same F H) (hf:∀a∈fp,F a=none):Same F (withC F H fp)∧Same (withC F H fp) H∧∀a∈fp,withC F H fp a=H a:=by
 refine ⟨fun a o h=>?_,fun a o h=>?_,fun a z=>if_pos z⟩
 ·have:¬a∈fp:=fun z=>by rw [hf a z] at h; cases h
  unfold withC; rw [if_neg this]; exact h
 ·unfold withC at h
  by_cases z:a∈fp
  ·rw [if_pos z] at h; exact h
  ·rw [if_neg z] at h; exact s _ _ h
theorem Ow.freeze {n:Nat} {d:D} {v:V} {fp:List Addr} {F0 H0:Hp} (h:Ow K ct F H n d v fp) (e:Ext F0 H0 F H) (hf:∀a∈fp,H0 a=none):∃F',Ext F0 H0 F' H∧Dt K ct F' d v:=by
 obtain ⟨w1,w2,w3⟩:=uq (fp:=fp) e.fh (fun a z=>(h.cells a z).1)
 refine ⟨withC F H fp,⟨e.ff.trans w1,e.hh,w2,fun a o ho hn=>?_⟩,h.dt w1 w3⟩
 have:¬a∈fp:=fun z=>by rw [hf a z] at ho; cases ho
 unfold withC; rw [if_neg this]; exact e.nf a o ho hn
theorem Ow.zero {d:D} {v:V} (h:Dt K ct F d v):Ow K ct F H 0 d v []:=⟨h,rfl⟩
theorem Ow.scal {n:Nat} {d:D} {v:V} (h:Dt K ct F d v) (hs:d.sc=true):Ow K ct F H n d v []:=by
 cases n with
 | zero=>exact ⟨h,rfl⟩
 | succ n=>exact .inl ⟨hs,h,rfl⟩
end
end L3
namespace L3
open PySem PySem.Spec L2
open PyProof.Rows hiding St
abbrev Env:=List (Option D)
inductive Mo where
 | al (n:Nat) | ow (n:Nat) | px (v:V) | so (x:Addr)
def Mo.lv:Mo→Nat
 | .al n=>n
 | .ow n=>n
 | .px _=>1
 | .so _=>1
section
variable (K:PySem.W.Frag) (ct:Nat→Addr)
inductive SL (F B H:Hp):List Mo→Env→St→List Addr→Prop
 | nil:SL F B H [] [] [] []
 | no {m:Mo} {o:Option V} {ms:List Mo} {ρ:Env} {σ:St} {fp:List Addr}:SL F B H ms ρ σ fp→SL F B H (m::ms) (none::ρ) (o::σ) fp
 | al {n:Nat} {d:D} {v:V} {ms:List Mo} {ρ:Env} {σ:St} {fp:List Addr}:Al K ct F B n d v→SL F B H ms ρ σ fp→SL F B H (.al n::ms) (some d::ρ) (some v::σ) fp
 | px {d:D} {v:V} {ms:List Mo} {ρ:Env} {σ:St} {fp:List Addr}:Al K ct F B 1 d v→SL F B H ms ρ σ fp→SL F B H (.px v::ms) (some d::ρ) (some v::σ) fp
 | so {d:D} {x:Addr} {ms:List Mo} {ρ:Env} {σ:St} {fp:List Addr}:Ow K ct F H 1 d (.ref x) [x]→SL F B H ms ρ σ fp→SL F B H (.so x::ms) (some d::ρ) (some (.ref x)::σ) (x::fp)
 | ow {n:Nat} {d:D} {v:V} {ms:List Mo} {ρ:Env} {σ:St} {f fp:List Addr}:Ow K ct F H n d v f→SL F B H ms ρ σ fp→SL F B H (.ow n::ms) (some d::ρ) (some v::σ) (f++fp)
structure RS (F0 B:Hp) (ms:List Mo) (F H:Hp) (ρ:Env) (σ:St):Prop where
 f0:Same F0 F
 bh:Same B H
 fh:Same F H
 nf:∀a o,B a=some o→F0 a=none→F a=none
 sl:∃fp,SL K ct F B H ms ρ σ fp∧fp.Nodup∧∀a∈fp,B a=none
end
section
variable {K:PySem.W.Frag} {ct:Nat→Addr} {F F' G G' H H' B B' F0:Hp} {ms:List Mo} {ρ:Env} {σ:St}
theorem SL.cells:∀{ms:List Mo} {ρ:Env} {σ:St} {fp:List Addr},SL K ct F B H ms ρ σ fp→∀a∈fp,F a=none∧∃o,H a=some o
 | _,_,_,_,.nil,_,z=>by cases z
 | _,_,_,_,.no t,a,z=>SL.cells t a z
 | _,_,_,_,.al _ t,a,z=>SL.cells t a z
 | _,_,_,_,.px _ t,a,z=>SL.cells t a z
 | _,_,_,_,.so h t,a,z=>(List.mem_cons.mp z).elim (fun z=>h.cells a (by rw [z]; exact List.mem_cons_self)) fun z=>SL.cells t a z
 | _,_,_,_,.ow h t,a,z=>(List.mem_append.mp z).elim (fun z=>h.cells a z) fun z=>SL.cells t a z
theorem SL.frame (sF:Same F F'):∀{ms:List Mo} {ρ:Env} {σ:St} {fp:List Addr},SL K ct F B H ms ρ σ fp→(∀a∈fp,H' a=H a∧F' a=none)→SL K ct F' B H' ms ρ σ fp
 | _,_,_,_,.nil,_=>.nil
 | _,_,_,_,.no t,k=>.no (SL.frame sF t k)
 | _,_,_,_,.al h t,k=>.al (h.mono sF (.refl _)) (SL.frame sF t k)
 | _,_,_,_,.px h t,k=>.px (h.mono sF (.refl _)) (SL.frame sF t k)
 | _,_,_,_,.so h t,k=>.so (h.frame sF fun a z=>k a (by rw [List.mem_singleton] at z; rw [z]; exact List.mem_cons_self)) (SL.frame sF t fun a z=>k a (List.mem_cons_of_mem _ z))
 | _,_,_,_,.ow h t,k=>.ow (h.frame sF fun a z=>k a (List.mem_append_left _ z)) (SL.frame sF t fun a z=>k a (List.mem_append_right _ z))
theorem RS.ext (r:RS K ct F0 B ms F H ρ σ) (e:Ext F H F' H'):RS K ct F0 B ms F' H' ρ σ:=by
 obtain ⟨fp,s,nd,hb⟩:=r.sl
 refine ⟨r.f0.trans e.ff,r.bh.trans e.hh,e.fh,fun a o h n=>e.nf a o (r.bh _ _ h) (r.nf a o h n),fp,s.frame e.ff fun a z=>?_,nd,hb⟩
 obtain ⟨hn,o,ho⟩:=s.cells a z
 exact ⟨(e.hh _ _ ho).trans ho.symm,e.nf a o ho hn⟩
theorem SL.get:∀{ms:List Mo} {ρ:Env} {σ:St} {fp:List Addr} {i:Nat} {m:Mo} {d:D},SL K ct F B H ms ρ σ fp→Same F H→Same B H→ms[i]?=some m→ρ[i]?=some (some d)→∃v,σ[i]?=some (some v)∧Al K ct F H m.lv d v
 | _,_,_,_,_,_,_,.nil,_,_,e,_=>by simp at e
 | _,_,_,_,0,_,_,.no t,_,_,_,e=>by simp at e
 | _,_,_,_,0,_,_,.al h t,_,s,e,e'=>by
  simp at e e'; subst e; subst e'
  exact ⟨_,rfl,h.mono (.refl _) s⟩
 | _,_,_,_,0,_,_,.px h t,_,s,e,e'=>by
  simp at e e'; subst e; subst e'
  exact ⟨_,rfl,h.mono (.refl _) s⟩
 | _,_,_,_,0,_,_,.so h t,s,_,e,e'=>by
  simp at e e'; subst e; subst e'
  exact ⟨_,rfl,h.al s⟩
 | _,_,_,_,0,_,_,.ow h t,s,_,e,e'=>by
  simp at e e'; subst e; subst e'
  exact ⟨_,rfl,h.al s⟩
 | _,_,_,_,i+1,_,_,.no t,s,s',e,e'=>by simpa using SL.get (i:=i) t s s' (by simpa using e) (by simpa using e')
 | _,_,_,_,i+1,_,_,.al h t,s,s',e,e'=>by simpa using SL.get (i:=i) t s s' (by simpa using e) (by simpa using e')
 | _,_,_,_,i+1,_,_,.px h t,s,s',e,e'=>by simpa using SL.get (i:=i) t s s' (by simpa using e) (by simpa using e')
 | _,_,_,_,i+1,_,_,.so h t,s,s',e,e'=>by simpa using SL.get (i:=i) t s s' (by simpa using e) (by simpa using e')
 | _,_,_,_,i+1,_,_,.ow h t,s,s',e,e'=>by simpa using SL.get (i:=i) t s s' (by simpa using e) (by simpa using e')
theorem RS.get (r:RS K ct F0 B ms F H ρ σ) {i:Nat} {m:Mo} {d:D} (hm:ms[i]?=some m) (e:ρ[i]?=some (some d)):∃v,σ[i]?=some (some v)∧Al K ct F H m.lv d v:=by
 obtain ⟨fp,s,_,_⟩:=r.sl
 exact s.get r.fh r.bh hm e
theorem SL.put:∀{ms:List Mo} {ρ:Env} {σ:St} {fp:List Addr} {i k:Nat},SL K ct F B H ms ρ σ fp→ms[i]?=some (.ow k) →
  ∃f1 fr:List Addr,(∀a∈f1,a∈fp)∧(∀a∈fr,a∈fp)∧(fp.Nodup→f1.Nodup∧fr.Nodup∧∀a∈f1,a∉fr)∧(∀d,ρ[i]?=some (some d)→∃v,σ[i]?=some (some v)∧Ow K ct F H k d v f1) ∧
   ∀(F' H':Hp) (d':D) (v':V) (f':List Addr),Same F F'→(∀a∈fr,H' a=H a∧F' a=none)→Ow K ct F' H' k d' v' f' →
    ∃fp',SL K ct F' B H' ms (ρ.set i (some d')) (σ.set i (some v')) fp'∧(∀a∈fp',a∈f'∨a∈fr)∧(f'.Nodup→fr.Nodup→(∀a∈f',a∉fr)→fp'.Nodup)
 | _,_,_,_,_,_,.nil,e=>by simp at e
 | _,_,_,fp,0,k,.no t,e=>by
  simp at e; subst e
  refine ⟨[],fp,fun a z=>(by cases z),fun a z=>z,fun n=>⟨List.nodup_nil,n,fun a z=>(by cases z)⟩,fun d q=>(by simp at q),fun F' H' d' v' f' s kf h=>⟨f'++fp,.ow h (t.frame s kf),fun a z=>List.mem_append.mp z,fun n1 n2 dj=>?_⟩⟩
  exact List.nodup_append.mpr ⟨n1,n2,fun a z b zb e=>dj a z (e ▸ zb)⟩
 | _,_,_,_,0,k,.al h t,e=>by simp at e
 | _,_,_,_,0,k,.px h t,e=>by simp at e
 | _,_,_,_,0,k,.so h t,e=>by simp at e
 | _,_,_,_,0,k,.ow (f:=f) (fp:=fp) h t,e=>by
  simp at e; subst e
  refine ⟨f,fp,fun a z=>List.mem_append_left _ z,fun a z=>List.mem_append_right _ z,fun n=>?_,fun d q=>?_,fun F' H' d' v' f' s kf h=>⟨f'++fp,.ow h (t.frame s kf),fun a z=>List.mem_append.mp z,fun n1 n2 dj=>?_⟩⟩
  ·obtain ⟨n1,n2,n3⟩:=List.nodup_append.mp n
   exact ⟨n1,n2,fun a z zb=>n3 a z a zb rfl⟩
  ·simp at q; subst q; exact ⟨_,rfl,h⟩
  ·exact List.nodup_append.mpr ⟨n1,n2,fun a z b zb e=>dj a z (e ▸ zb)⟩
 | _,_,_,_,i+1,k,.no t,e=>by
  obtain ⟨f1,fr,h1,h2,h3,h4,h5⟩:=SL.put (i:=i) (k:=k) t (by simpa using e)
  refine ⟨f1,fr,h1,h2,h3,fun d q=>by simpa using h4 d (by simpa using q),fun F' H' d' v' f' s kf h=>?_⟩
  obtain ⟨fp',q1,q2,q3⟩:=h5 F' H' d' v' f' s kf h
  exact ⟨fp',.no q1,q2,q3⟩
 | _,_,_,_,i+1,k,.al h t,e=>by
  obtain ⟨f1,fr,h1,h2,h3,h4,h5⟩:=SL.put (i:=i) (k:=k) t (by simpa using e)
  refine ⟨f1,fr,h1,h2,h3,fun d q=>by simpa using h4 d (by simpa using q),fun F' H' d' v' f' s kf h'=>?_⟩
  obtain ⟨fp',q1,q2,q3⟩:=h5 F' H' d' v' f' s kf h'
  exact ⟨fp',.al (h.mono s (.refl _)) q1,q2,q3⟩
 | _,_,_,_,i+1,k,.px h t,e=>by
  obtain ⟨f1,fr,h1,h2,h3,h4,h5⟩:=SL.put (i:=i) (k:=k) t (by simpa using e)
  refine ⟨f1,fr,h1,h2,h3,fun d q=>by simpa using h4 d (by simpa using q),fun F' H' d' v' f' s kf h'=>?_⟩
  obtain ⟨fp',q1,q2,q3⟩:=h5 F' H' d' v' f' s kf h'
  exact ⟨fp',.px (h.mono s (.refl _)) q1,q2,q3⟩
 | _,_,_,_,i+1,k,.so (x:=x) (fp:=fp) h t,e=>by
  obtain ⟨f1,fr,h1,h2,h3,h4,h5⟩:=SL.put (i:=i) (k:=k) t (by simpa using e)
  refine ⟨f1,x::fr,fun a z=>List.mem_cons_of_mem _ (h1 a z),fun a z=>(List.mem_cons.mp z).elim (fun z=>by rw [z]; exact List.mem_cons_self) fun z=>List.mem_cons_of_mem _ (h2 a z),fun n=>?_,fun d q=>by simpa using h4 d (by simpa using q),fun F' H' d' v' f' s kf h'=>?_⟩
  ·obtain ⟨n1,n2⟩:=List.nodup_cons.mp n
   obtain ⟨m1,m2,m3⟩:=h3 n2
   refine ⟨m1,List.nodup_cons.mpr ⟨fun z=>n1 (h2 x z),m2⟩,fun a z zb=>?_⟩
   rcases List.mem_cons.mp zb with zb | zb
   ·rw [zb] at z; exact n1 (h1 x z)
   ·exact m3 a z zb
  ·obtain ⟨fp',q1,q2,q3⟩:=h5 F' H' d' v' f' s (fun a z=>kf a (List.mem_cons_of_mem _ z)) h'
   refine ⟨x::fp',.so (h.frame s fun a z=>kf a (by rw [List.mem_singleton] at z; rw [z]; exact List.mem_cons_self)) q1,fun a z=>?_,fun n1 n2 dj=>?_⟩
   ·rcases List.mem_cons.mp z with z | z
    ·exact .inr (by rw [z]; exact List.mem_cons_self)
    ·exact (q2 a z).imp id fun z=>List.mem_cons_of_mem _ z
   ·obtain ⟨m1,m2⟩:=List.nodup_cons.mp n2
    refine List.nodup_cons.mpr ⟨fun z=>?_,q3 n1 m2 fun a z zb=>dj a z (List.mem_cons_of_mem _ zb)⟩
    rcases q2 x z with z | z
    ·exact dj x z List.mem_cons_self
    ·exact m1 z
 | _,_,_,_,i+1,k,.ow (f:=f) (fp:=fp) h t,e=>by
  obtain ⟨f1,fr,h1,h2,h3,h4,h5⟩:=SL.put (i:=i) (k:=k) t (by simpa using e)
  refine ⟨f1,f++fr,fun a z=>List.mem_append_right _ (h1 a z),fun a z=>(List.mem_append.mp z).elim (fun z=>List.mem_append_left _ z) fun z=>List.mem_append_right _ (h2 a z),fun n=>?_,fun d q=>by simpa using h4 d (by simpa using q),fun F' H' d' v' f' s kf h'=>?_⟩
  ·obtain ⟨n1,n2,n3⟩:=List.nodup_append.mp n
   obtain ⟨m1,m2,m3⟩:=h3 n2
   refine ⟨m1,List.nodup_append.mpr ⟨n1,m2,fun a z b zb=>n3 a z b (h2 b zb)⟩,fun a z zb=>?_⟩
   rcases List.mem_append.mp zb with zb | zb
   ·exact n3 a zb a (h1 a z) rfl
   ·exact m3 a z zb
  ·obtain ⟨fp',q1,q2,q3⟩:=h5 F' H' d' v' f' s (fun a z=>kf a (List.mem_append_right _ z)) h'
   refine ⟨f++fp',.ow (h.frame s fun a z=>kf a (List.mem_append_left _ z)) q1,fun a z=>?_,fun n1 n2 dj=>?_⟩
   ·rcases List.mem_append.mp z with z | z
    ·exact .inr (List.mem_append_left _ z)
    ·exact (q2 a z).imp id fun z=>List.mem_append_right _ z
   ·obtain ⟨m1,m2,m3⟩:=List.nodup_append.mp n2
    refine List.nodup_append.mpr ⟨m1,q3 n1 m2 fun a z zb=>dj a z (List.mem_append_right _ zb),fun a z b zb e=>?_⟩
    subst e
    rcases q2 a zb with zb | zb
    ·exact dj a zb (List.mem_append_left _ z)
    ·exact m3 a z a zb rfl
end
abbrev EF:=Env→Option D
inductive AlL (K:PySem.W.Frag) (ct:Nat→Addr) (F G:Hp):List Nat→List D→List V→Prop
 | nil:AlL K ct F G [] [] []
 | cons {n:Nat} {d:D} {v:V} {ns:List Nat} {ds:List D} {vs:List V}:Al K ct F G n d v→AlL K ct F G ns ds vs→AlL K ct F G (n::ns) (d::ds) (v::vs)
theorem AlL.mono {K:PySem.W.Frag} {ct:Nat→Addr} {F F' G G':Hp} (sF:Same F F') (sG:Same G G'):∀{ns:List Nat} {ds:List D} {vs:List V},AlL K ct F G ns ds vs→AlL K ct F' G' ns ds vs
 | _,_,_,.nil=>.nil
 | _,_,_,.cons h t=>.cons (h.mono sF sG) (AlL.mono sF sG t)
theorem AlL.length {K:PySem.W.Frag} {ct:Nat→Addr} {F G:Hp}:∀{ns:List Nat} {ds:List D} {vs:List V},AlL K ct F G ns ds vs→vs.length=ns.length
 | _,_,_,.nil=>rfl
 | _,_,_,.cons _ t=>by simp [AlL.length t]
theorem AlL.length' {K:PySem.W.Frag} {ct:Nat→Addr} {F G:Hp}:∀{ns:List Nat} {ds:List D} {vs:List V},AlL K ct F G ns ds vs→ds.length=vs.length
 | _,_,_,.nil=>rfl
 | _,_,_,.cons _ t=>by simp [AlL.length' t]
theorem AlL.append {K:PySem.W.Frag} {ct:Nat→Addr} {F G:Hp} {ns':List Nat} {ds':List D} {vs':List V} (q:AlL K ct F G ns' ds' vs'):∀{ns:List Nat} {ds:List D} {vs:List V},AlL K ct F G ns ds vs→AlL K ct F G (ns++ns') (ds++ds') (vs++vs')
 | _,_,_,.nil=>q
 | _,_,_,.cons h t=>.cons h (AlL.append q t)
section
variable (X:Cx) (ct:Nat→Addr) (ms:List Mo)
def XE (n:Nat) (e:Expr) (f:EF):Prop:=∃t,PE X e t∧∀(F0 B F H:Hp) (ρ:Env) (σ:St) (d:D) (Q:VK),RS X.K ct F0 B ms F H ρ σ→f ρ=some d →
 (∀v F' H',Ext F H F' H'→Al X.K ct F' H' n d v→Q v H')→t σ H Q
def XO (k:Nat) (e:Expr) (f:EF):Prop:=∃t,PE X e t∧∀(F0 B F H:Hp) (ρ:Env) (σ:St) (d:D) (Q:VK),RS X.K ct F0 B ms F H ρ σ→f ρ=some d →
 (∀v F' H' fp,Ext F H F' H'→Ow X.K ct F' H' k d v fp→fp.Nodup→(∀a∈fp,H a=none)→Q v H')→t σ H Q
def XT (e:Expr) (f:Env→Option Bool):Prop:=∃t,PT X e t∧∀(F0 B F H:Hp) (ρ:Env) (σ:St) (b:Bool) (Q:Bool→Hp→Prop),RS X.K ct F0 B ms F H ρ σ→f ρ=some b →
 (∀F' H',Ext F H F' H'→Q b H')→t σ H Q
def XW (e:Expr) (f:Env→Option Bool):Prop:=∃t,PW X e t∧∀(F0 B F H:Hp) (ρ:Env) (σ:St) (b:Bool) (Q:Bool→Hp→Prop),RS X.K ct F0 B ms F H ρ σ→f ρ=some b →
 (∀F' H',Ext F H F' H'→Q b H')→t σ H Q
def XA (es:List Expr) (ns:List Nat) (f:Env→Option (List D)):Prop:=∃t,PA X es t∧(∀ρ ds,f ρ=some ds→ds.length=es.length)∧∀(F0 B F H:Hp) (ρ:Env) (σ:St) (ds:List D) (Q:List V→Hp→Prop),RS X.K ct F0 B ms F H ρ σ→f ρ=some ds →
 (∀vs F' H',Ext F H F' H'→AlL X.K ct F' H' ns ds vs→Q vs H')→t σ H Q
end
def e2 (op:D→D→Option D) (f g:EF):EF:=fun ρ=>(f ρ).bind fun x=>(g ρ).bind fun y=>op x y
def e1 (op:D→Option D) (f:EF):EF:=fun ρ=>(f ρ).bind op
def eN (op:List D→Option D) (f:Env→Option (List D)):EF:=fun ρ=>(f ρ).bind op
def eC (d:D):EF:=fun _=>some d
def eV (i:Nat):EF:=fun ρ=>(ρ[i]?).join
def aNil:Env→Option (List D):=fun _=>some []
def aCons (f:EF) (g:Env→Option (List D)):Env→Option (List D):=fun ρ=>(f ρ).bind fun x=>(g ρ).bind fun xs=>some (x::xs)
theorem bind2 {α β γ:Type} {o:Option α} {p:Option β} {op:α→β→Option γ} {r:γ} (h:(o.bind fun x=>p.bind fun y=>op x y)=some r):∃x y,o=some x∧p=some y∧op x y=some r:=by
 cases o with
 | none=>cases h
 | some x =>
  cases p with
  | none=>cases h
  | some y=>exact ⟨x,y,rfl,rfl,h⟩
theorem bind1 {α β:Type} {o:Option α} {op:α→Option β} {r:β} (h:o.bind op=some r):∃x,o=some x∧op x=some r:=by
 cases o with
 | none=>cases h
 | some x=>exact ⟨x,rfl,h⟩
theorem yc {α:Type} {o:Option (Option α)} {x:α} (h:o.join=some x):o=some (some x):=by
 cases o with
 | none=>cases h
 | some y=>exact congrArg some h
def Op2 (K:PySem.W.Frag) (ct:Nat→Addr) (n m k:Nat) (r:R2) (op:D→D→Option D):Prop :=
 ∀(F H:Hp) (x y:V) (d1 d2 d:D) (Q:VK),Same F H→Al K ct F H n d1 x→Al K ct F H m d2 y→op d1 d2=some d→(∀v F' H',Ext F H F' H'→Al K ct F' H' k d v→Q v H')→r x y H Q
def Op2O (K:PySem.W.Frag) (ct:Nat→Addr) (n m k:Nat) (r:R2) (op:D→D→Option D):Prop :=
 ∀(F H:Hp) (x y:V) (d1 d2 d:D) (Q:VK),Same F H→Al K ct F H n d1 x→Al K ct F H m d2 y→op d1 d2=some d →
  (∀v F' H' fp,Ext F H F' H'→Ow K ct F' H' k d v fp→fp.Nodup→(∀a∈fp,H a=none)→Q v H')→r x y H Q
def OpN (K:PySem.W.Frag) (ct:Nat→Addr) (ns:List Nat) (k:Nat) (r:List V→Hp→VK→Prop) (op:List D→Option D):Prop :=
 ∀(F H:Hp) (vs:List V) (ds:List D) (d:D) (Q:VK),Same F H→AlL K ct F H ns ds vs→op ds=some d→(∀v F' H',Ext F H F' H'→Al K ct F' H' k d v→Q v H')→r vs H Q
def OpNO (K:PySem.W.Frag) (ct:Nat→Addr) (ns:List Nat) (k:Nat) (r:List V→Hp→VK→Prop) (op:List D→Option D):Prop :=
 ∀(F H:Hp) (vs:List V) (ds:List D) (d:D) (Q:VK),Same F H→AlL K ct F H ns ds vs→op ds=some d →
  (∀v F' H' fp,Ext F H F' H'→Ow K ct F' H' k d v fp→fp.Nodup→(∀a∈fp,H a=none)→Q v H')→r vs H Q
section
variable {X:Cx} {ct:Nat→Addr} {ms:List Mo} {n m k:Nat} {a b c e:Expr} {f g h:EF} {pos:Pos}
theorem XO.sh (he:XO X ct ms k e f):XE X ct ms n e f:=by
 obtain ⟨t,p,q⟩:=he
 refine ⟨t,p,fun F0 B F H ρ σ d Q r e w=>q F0 B F H ρ σ d Q r e fun v F' H' fp x o nd hf=>?_⟩
 obtain ⟨F2,x2,h2⟩:=o.freeze x hf
 exact w v F2 H' x2 (Al.of h2)
theorem XE.ow (he:XE X ct ms 0 e f):XO X ct ms 0 e f:=by
 obtain ⟨t,p,q⟩:=he
 exact ⟨t,p,fun F0 B F H ρ σ d Q r e w=>q F0 B F H ρ σ d Q r e fun v F' H' x l=>w v F' H' [] x ⟨l,rfl⟩ List.nodup_nil fun a z=>(by cases z)⟩
theorem za (i n:Nat) {x:Str} {m:Mo} (hm:ms[i]?=some m:=by rfl) (hl:m.lv=n:=by rfl) (hN:X.N[i]?=some x:=by rfl) (hv:Vis X.env.scope x:=by first | exact Or.inl rfl | exact Or.inr (Or.inl rfl) | exact Or.inr (Or.inr rfl)) (hd:(x == ("__debug__":Str))=false:=by decide)
  (hcd:(x == ("__classdict__":Str))=false:=by decide):XE X ct ms n (.Name x pos) (eV i):=by
 subst hl
 refine ⟨_,jc hN hv hd hcd,fun F0 B F H ρ σ d Q r e w=>?_⟩
 obtain ⟨v,hv,l⟩:=r.get hm (yc e)
 exact ⟨v,hv,w v F H (.refl r.fh) l⟩
theorem zf {i:Int} {j}:XE X ct ms n (.Constant (.int i) j pos) (eC (.int i)):=⟨_,zp1,fun F0 B F H ρ σ d Q r e w=>by cases e; exact w _ F H (.refl r.fh) (Al.of (.int i))⟩
theorem zbu {i:Bool} {j}:XE X ct ms n (.Constant (.bool i) j pos) (eC (.bl i)):=⟨_,zr6,fun F0 B F H ρ σ d Q r e w=>by cases e; exact w _ F H (.refl r.fh) (Al.of (.bl i))⟩
theorem zbp {i:Str} {j}:XE X ct ms n (.Constant (.str i) j pos) (eC (.str i)):=⟨_,zp3,fun F0 B F H ρ σ d Q r e w=>by cases e; exact w _ F H (.refl r.fh) (Al.of (.str i))⟩
theorem zjo {j}:XE X ct ms n (.Constant .none j pos) (eC .non):=⟨_,zp2,fun F0 B F H ρ σ d Q r e w=>by cases e; exact w _ F H (.refl r.fh) (Al.of .non)⟩
theorem XE.bin (ha:XE X ct ms n a f) (hb:XE X ct ms m b g):∃ta tb,PE X a ta∧PE X b tb∧∀(F0 B F H:Hp) (ρ:Env) (σ:St) (d1 d2:D) (R:V→V→Hp→Prop),RS X.K ct F0 B ms F H ρ σ→f ρ=some d1→g ρ=some d2 →
  (∀x y F' H',Ext F H F' H'→Al X.K ct F' H' n d1 x→Al X.K ct F' H' m d2 y→R x y H')→ta σ H fun x H1=>tb σ H1 fun y H2=>R x y H2:=by
 obtain ⟨ta,pa,qa⟩:=ha
 obtain ⟨tb,pb,qb⟩:=hb
 refine ⟨ta,tb,pa,pb,fun F0 B F H ρ σ d1 d2 R r e1 e2 w=>qa F0 B F H ρ σ d1 _ r e1 fun x F1 H1 x1 l1=>?_⟩
 exact qb F0 B F1 H1 ρ σ d2 _ (r.ext x1) e2 fun y F2 H2 x2 l2=>w x y F2 H2 (x1.trans x2) (l1.mono x2.ff x2.hh) l2
theorem zw {op:Operator} {r:R2} {o:D→D→Option D} (ho:OpR X (binaryOp op) r) (hs:Op2 X.K ct n m k r o) (ha:XE X ct ms n a f) (hb:XE X ct ms m b g):XE X ct ms k (.BinOp a op b pos) (e2 o f g):=by
 obtain ⟨ta,tb,pa,pb,q⟩:=ha.bin hb
 refine ⟨_,znt ho pa pb,fun F0 B F H ρ σ d Q rs e w=>?_⟩
 obtain ⟨d1,d2,h1,h2,h3⟩:=bind2 e
 exact q F0 B F H ρ σ d1 d2 _ rs h1 h2 fun x y F' H' x1 l1 l2=>hs F' H' x y d1 d2 d Q x1.fh l1 l2 h3 fun v F2 H2 x2 l=>w v F2 H2 (x1.trans x2) l
theorem v9 {op:Operator} {r:R2} {o:D→D→Option D} (ho:OpR X (binaryOp op) r) (hs:Op2O X.K ct n m k r o) (ha:XE X ct ms n a f) (hb:XE X ct ms m b g):XO X ct ms k (.BinOp a op b pos) (e2 o f g):=by
 obtain ⟨ta,tb,pa,pb,q⟩:=ha.bin hb
 refine ⟨_,znt ho pa pb,fun F0 B F H ρ σ d Q rs e w=>?_⟩
 obtain ⟨d1,d2,h1,h2,h3⟩:=bind2 e
 exact q F0 B F H ρ σ d1 d2 _ rs h1 h2 fun x y F' H' x1 l1 l2=>hs F' H' x y d1 d2 d Q x1.fh l1 l2 h3 fun v F2 H2 fp x2 l nd hf=>w v F2 H2 fp (x1.trans x2) l nd fun z hz=>x1.hh.free (hf z hz)
theorem jj {op:CmpOp} {r:R2} {o:D→D→Option D} (ho:OpR X (compareOp op) r) (hs:Op2 X.K ct n m k r o) (ha:XE X ct ms n a f) (hb:XE X ct ms m b g) (hm:behindInMarks op b=false):XE X ct ms k (.Compare a [op] [b] pos) (e2 o f g):=by
 obtain ⟨ta,tb,pa,pb,q⟩:=ha.bin hb
 refine ⟨_,znv ho pa pb hm,fun F0 B F H ρ σ d Q rs e w=>?_⟩
 obtain ⟨d1,d2,h1,h2,h3⟩:=bind2 e
 exact q F0 B F H ρ σ d1 d2 _ rs h1 h2 fun x y F' H' x1 l1 l2=>hs F' H' x y d1 d2 d Q x1.fh l1 l2 h3 fun v F2 H2 x2 l=>w v F2 H2 (x1.trans x2) l
theorem yr {r:R2} {o:D→D→Option D} (hr:IxR X r) (hs:Op2 X.K ct n m k r o) (ha:XE X ct ms n a f) (hb:XE X ct ms m b g) (hp:PlainIx b):XE X ct ms k (.Subscript a b pos) (e2 o f g):=by
 obtain ⟨ta,tb,pa,pb,q⟩:=ha.bin hb
 refine ⟨_,zsd hr pa pb hp,fun F0 B F H ρ σ d Q rs e w=>?_⟩
 obtain ⟨d1,d2,h1,h2,h3⟩:=bind2 e
 exact q F0 B F H ρ σ d1 d2 _ rs h1 h2 fun x y F' H' x1 l1 l2=>hs F' H' x y d1 d2 d Q x1.fh l1 l2 h3 fun v F2 H2 x2 l=>w v F2 H2 (x1.trans x2) l
theorem zsg {op:UnaryOp} {r:V→Hp→VK→Prop} {o:D→Option D} (ho:UnR X (unaryOp op) r)
  (hs:∀(F H:Hp) (x:V) (d1 d:D) (Q:VK),Same F H→Al X.K ct F H n d1 x→o d1=some d→(∀v F' H',Ext F H F' H'→Al X.K ct F' H' k d v→Q v H')→r x H Q) (ha:XE X ct ms n a f):XE X ct ms k (.UnaryOp op a pos) (e1 o f):=by
 obtain ⟨ta,pa,qa⟩:=ha
 refine ⟨_,zsa ho pa,fun F0 B F H ρ σ d Q rs e w=>?_⟩
 obtain ⟨d1,h1,h2⟩:=bind1 e
 exact qa F0 B F H ρ σ d1 _ rs h1 fun x F' H' x1 l1=>hs F' H' x d1 d Q x1.fh l1 h2 fun v F2 H2 x2 l=>w v F2 H2 (x1.trans x2) l
theorem zg:XA X ct ms [] [] aNil:=⟨_,j8,fun ρ ds e=>(by cases e; rfl),fun F0 B F H ρ σ ds Q r e w=>by cases e; exact w [] F H (.refl r.fh) .nil⟩
theorem zc {es:List Expr} {ns:List Nat} {fs:Env→Option (List D)} (ha:XE X ct ms n a f) (hr:XA X ct ms es ns fs) (hs:starEach (a::es) X.env=(false,eval a X.env)::starEach es X.env:=by rfl):XA X ct ms (a::es) (n::ns) (aCons f fs):=by
 obtain ⟨ta,pa,qa⟩:=ha
 obtain ⟨tb,pb,lb,qb⟩:=hr
 refine ⟨_,vg pa pb hs,fun ρ ds e=>(by obtain ⟨x,xs,h1,h2,h3⟩:=bind2 e; cases h3; rw [List.length_cons,List.length_cons,lb _ _ h2]),fun F0 B F H ρ σ ds Q r e w=>?_⟩
 obtain ⟨x,xs,h1,h2,h3⟩:=bind2 e
 cases h3
 refine qa F0 B F H ρ σ x _ r h1 fun v F1 H1 x1 l1=>?_
 exact qb F0 B F1 H1 ρ σ xs _ (r.ext x1) h2 fun vs F2 H2 x2 l2=>w (v::vs) F2 H2 (x1.trans x2) (.cons (l1.mono x2.ff x2.hh) l2)
def XAO (X:Cx) (ct:Nat→Addr) (ms:List Mo) (k:Nat) (es:List Expr) (f:Env→Option (List D)):Prop:=∃t,PA X es t∧(∀ρ ds,f ρ=some ds→ds.length=es.length)∧∀(F0 B F H:Hp) (ρ:Env) (σ:St) (ds:List D) (Q:List V→Hp→Prop),RS X.K ct F0 B ms F H ρ σ→f ρ=some ds →
 (∀vs F' H' fp,Ext F H F' H'→OwL (Ow X.K ct F' H' k) ds vs fp→fp.Nodup→(∀a∈fp,H a=none)→Q vs H')→t σ H Q
theorem wu:XAO X ct ms k [] aNil:=⟨_,j8,fun ρ ds e=>(by cases e; rfl),fun F0 B F H ρ σ ds Q r e w=>by cases e; exact w [] F H [] (.refl r.fh) .nil List.nodup_nil fun a z=>(by cases z)⟩
theorem yp {es:List Expr} {fs:Env→Option (List D)} (ha:XO X ct ms k a f) (hr:XAO X ct ms k es fs) (hs:starEach (a::es) X.env=(false,eval a X.env)::starEach es X.env:=by rfl):XAO X ct ms k (a::es) (aCons f fs):=by
 obtain ⟨ta,pa,qa⟩:=ha
 obtain ⟨tb,pb,lb,qb⟩:=hr
 refine ⟨_,vg pa pb hs,fun ρ ds e=>(by obtain ⟨x,xs,h1,h2,h3⟩:=bind2 e; cases h3; rw [List.length_cons,List.length_cons,lb _ _ h2]),fun F0 B F H ρ σ ds Q r e w=>?_⟩
 obtain ⟨x,xs,h1,h2,h3⟩:=bind2 e
 cases h3
 refine qa F0 B F H ρ σ x _ r h1 fun v F1 H1 f1 x1 l1 n1 a1=>?_
 refine qb F0 B F1 H1 ρ σ xs _ (r.ext x1) h2 fun vs F2 H2 f2 x2 l2 n2 a2=>w (v::vs) F2 H2 (f1++f2) (x1.trans x2) (.cons (l1.ext x2) l2) (List.nodup_append.mpr ⟨n1,n2,fun z hz y hy e=>?_⟩) fun z hz=>?_
 ·subst e
  obtain ⟨_,o,ho⟩:=l1.cells z hz
  rw [a2 z hy] at ho
  cases ho
 ·rcases List.mem_append.mp hz with hz | hz
  ·exact a1 z hz
  ·exact x1.hh.free (a2 z hz)
end
end L3
namespace L3
open PySem PySem.Spec L2
open PyProof.Rows hiding St
def asB:D→Option Bool
 | .bl b=>some b
 | _=>none
theorem zac {d:D} {b:Bool} (h:asB d=some b):d=.bl b:=by cases d <;> simp [asB] at h; subst h; rfl
abbrev BF:=Env→Option Bool
def tb (f:EF):BF:=fun ρ=>(f ρ).bind asB
def bNot (f:BF):BF:=fun ρ=>(f ρ).bind fun b=>some (!b)
def bAnd (f g:BF):BF:=fun ρ=>(f ρ).bind fun b=>if b=true then g ρ else some false
def bOr (f g:BF):BF:=fun ρ=>(f ρ).bind fun b=>if b=true then some true else g ρ
def eB (f:BF):EF:=fun ρ=>(f ρ).bind fun b=>some (.bl b)
def eIf (c:BF) (f g:EF):EF:=fun ρ=>(c ρ).bind fun b=>if b=true then f ρ else g ρ
section
variable {X:Cx} {ct:Nat→Addr} {ms:List Mo} {n m k:Nat} {a b c e:Expr} {f g h:EF} {p q:BF} {pos:Pos}
theorem jd (he:XE X ct ms n e f) (hi:∀whole,isTrue e X.env whole=(do let v ← whole; standAt e.pos; holding [v] (truthy v)):=by intro _; rfl):XT X ct ms e (tb f):=by
 obtain ⟨t,pt,qt⟩:=he
 refine ⟨_,zp4 pt hi,fun F0 B F H ρ σ b Q r e w=>?_⟩
 obtain ⟨d,h1,h2⟩:=bind1 e
 rw [zac h2] at h1
 exact qt F0 B F H ρ σ _ _ r h1 fun v F' H' x l=>⟨b,l.bl,w F' H' x⟩
theorem xh {op:CmpOp} {r:R2} {o:D→D→Option D} (ho:OpR X (compareOp op) r) (hs:Op2 X.K ct n m k r o) (ha:XE X ct ms n a f) (hb:XE X ct ms m b g) (hm:behindInMarks op b=false):XT X ct ms (.Compare a [op] [b] pos) (tb (e2 o f g)):=by
 obtain ⟨ta,tb,pa,pb,q⟩:=ha.bin hb
 refine ⟨_,znw ho pa pb hm,fun F0 B F H ρ σ b Q rs e w=>?_⟩
 obtain ⟨d,h0,h4⟩:=bind1 e
 rw [zac h4] at h0
 obtain ⟨d1,d2,h1,h2,h3⟩:=bind2 h0
 exact q F0 B F H ρ σ d1 d2 _ rs h1 h2 fun x y F' H' x1 l1 l2=>hs F' H' x y d1 d2 _ _ x1.fh l1 l2 h3 fun v F2 H2 x2 l=>⟨b,l.bl,w F2 H2 (x1.trans x2)⟩
theorem XW.t (h:XW X ct ms e p):XT X ct ms e p:=by
 obtain ⟨t,pt,qt⟩:=h
 exact ⟨t,pt.pt,qt⟩
theorem zcb (ha:XT X ct ms a p):XW X ct ms (.BoolOp .And [a] pos) p:=by
 obtain ⟨t,pt,qt⟩:=ha
 exact ⟨t,zno pt,qt⟩
theorem zcc (ha:XT X ct ms a p):XW X ct ms (.BoolOp .Or [a] pos) p:=by
 obtain ⟨t,pt,qt⟩:=ha
 exact ⟨t,zp5 pt,qt⟩
theorem ze9 {rest:List Expr} (ha:XT X ct ms a p) (hb:XW X ct ms (.BoolOp .And (b::rest) pos) q):XW X ct ms (.BoolOp .And (a::b::rest) pos) (bAnd p q):=by
 obtain ⟨t,pt,qt⟩:=ha
 obtain ⟨u,pu,qu⟩:=hb
 refine ⟨_,zp6 pt pu,fun F0 B F H ρ σ r Q rs e w=>?_⟩
 obtain ⟨x,h1,h2⟩:=bind1 e
 refine qt F0 B F H ρ σ x _ rs h1 fun F1 H1 x1=>?_
 cases x with
 | true=>rw [if_pos rfl]; exact qu F0 B F1 H1 ρ σ r _ (rs.ext x1) h2 fun F2 H2 x2=>w F2 H2 (x1.trans x2)
 | false=>cases h2; rw [if_neg Bool.false_ne_true]; exact w F1 H1 x1
theorem zcu {rest:List Expr} (ha:XT X ct ms a p) (hb:XW X ct ms (.BoolOp .Or (b::rest) pos) q):XW X ct ms (.BoolOp .Or (a::b::rest) pos) (bOr p q):=by
 obtain ⟨t,pt,qt⟩:=ha
 obtain ⟨u,pu,qu⟩:=hb
 refine ⟨_,zr7 pt pu,fun F0 B F H ρ σ r Q rs e w=>?_⟩
 obtain ⟨x,h1,h2⟩:=bind1 e
 refine qt F0 B F H ρ σ x _ rs h1 fun F1 H1 x1=>?_
 cases x with
 | true=>cases h2; rw [if_pos rfl]; exact w F1 H1 x1
 | false=>rw [if_neg Bool.false_ne_true]; exact qu F0 B F1 H1 ρ σ r _ (rs.ext x1) h2 fun F2 H2 x2=>w F2 H2 (x1.trans x2)
theorem za1 (ha:XT X ct ms a p):XT X ct ms (.UnaryOp .Not a pos) (bNot p):=by
 obtain ⟨t,pt,qt⟩:=ha
 refine ⟨_,zp7 pt,fun F0 B F H ρ σ r Q rs e w=>?_⟩
 obtain ⟨x,h1,h2⟩:=bind1 e
 cases h2
 exact qt F0 B F H ρ σ x _ rs h1 fun F1 H1 x1=>w F1 H1 x1
theorem zqz (ha:XE X ct ms n a f):XE X ct ms k (.UnaryOp .Not a pos) (eB (bNot (tb f))):=by
 obtain ⟨t,pt,qt⟩:=ha
 refine ⟨_,zqa pt,fun F0 B F H ρ σ r Q rs e w=>?_⟩
 obtain ⟨x,h1,h2⟩:=bind1 e
 obtain ⟨y,h3,h4⟩:=bind1 h1
 obtain ⟨z,h5,h6⟩:=bind1 h3
 cases h2; cases h4
 rw [zac h6] at h5
 exact qt F0 B F H ρ σ _ _ rs h5 fun v F1 H1 x1 l=>⟨y,l.bl,w _ F1 H1 x1 (Al.of (.bl _))⟩
theorem zah {op} (ha:XE X ct ms n a f):XE X ct ms k (.BoolOp op [a] pos) (eB (tb f)):=by
 obtain ⟨t,pt,qt⟩:=ha
 refine ⟨_,zp8 pt,fun F0 B F H ρ σ r Q rs e w=>?_⟩
 obtain ⟨y,h3,h4⟩:=bind1 e
 obtain ⟨z,h5,h6⟩:=bind1 h3
 cases h4
 rw [zac h6] at h5
 exact qt F0 B F H ρ σ _ _ rs h5 fun v F1 H1 x1 l=>w _ F1 H1 x1 (by rw [l.bl]; exact Al.of (.bl _))
theorem za2 {rest:List Expr} (ha:XE X ct ms n a f) (hb:XE X ct ms k (.BoolOp .And (b::rest) pos) (eB q)):XE X ct ms k (.BoolOp .And (a::b::rest) pos) (eB (bAnd (tb f) q)):=by
 obtain ⟨t,pt,qt⟩:=ha
 obtain ⟨u,pu,qu⟩:=hb
 refine ⟨_,zp9 pt pu,fun F0 B F H ρ σ r Q rs e w=>?_⟩
 obtain ⟨y,h3,h4⟩:=bind1 e
 obtain ⟨x,h1,h2⟩:=bind1 h3
 obtain ⟨z,h5,h6⟩:=bind1 h1
 cases h4
 rw [zac h6] at h5
 refine qt F0 B F H ρ σ _ _ rs h5 fun v F1 H1 x1 l=>⟨x,l.bl,?_⟩
 cases x with
 | true=>rw [if_pos rfl]; exact qu F0 B F1 H1 ρ σ _ _ (rs.ext x1) (show (q ρ).bind _=_ by rw [if_pos rfl] at h2; rw [h2]; rfl) fun v F2 H2 x2 l=>w v F2 H2 (x1.trans x2) l
 | false=>rw [if_neg Bool.false_ne_true] at h2 ⊢; cases h2; exact w _ F1 H1 x1 (Al.of (.bl _))
theorem zsh {rest:List Expr} (ha:XE X ct ms n a f) (hb:XE X ct ms k (.BoolOp .Or (b::rest) pos) (eB q)):XE X ct ms k (.BoolOp .Or (a::b::rest) pos) (eB (bOr (tb f) q)):=by
 obtain ⟨t,pt,qt⟩:=ha
 obtain ⟨u,pu,qu⟩:=hb
 refine ⟨_,zr8 pt pu,fun F0 B F H ρ σ r Q rs e w=>?_⟩
 obtain ⟨y,h3,h4⟩:=bind1 e
 obtain ⟨x,h1,h2⟩:=bind1 h3
 obtain ⟨z,h5,h6⟩:=bind1 h1
 cases h4
 rw [zac h6] at h5
 refine qt F0 B F H ρ σ _ _ rs h5 fun v F1 H1 x1 l=>⟨x,l.bl,?_⟩
 cases x with
 | true=>rw [if_pos rfl] at h2 ⊢; cases h2; exact w _ F1 H1 x1 (Al.of (.bl _))
 | false=>rw [if_neg Bool.false_ne_true]; exact qu F0 B F1 H1 ρ σ _ _ (rs.ext x1) (show (q ρ).bind _=_ by rw [if_neg Bool.false_ne_true] at h2; rw [h2]; rfl) fun v F2 H2 x2 l=>w v F2 H2 (x1.trans x2) l
theorem zq0 (hc:XT X ct ms c p) (ha:XE X ct ms k a f) (hb:XE X ct ms k b g):XE X ct ms k (.IfExp c a b pos) (eIf p f g):=by
 obtain ⟨s,ps,qs⟩:=hc
 obtain ⟨t,pt,qt⟩:=ha
 obtain ⟨u,pu,qu⟩:=hb
 refine ⟨_,zk6 ps pt pu,fun F0 B F H ρ σ r Q rs e w=>?_⟩
 obtain ⟨x,h1,h2⟩:=bind1 e
 refine qs F0 B F H ρ σ x _ rs h1 fun F1 H1 x1=>?_
 cases x with
 | true=>rw [if_pos rfl] at h2 ⊢; exact qt F0 B F1 H1 ρ σ _ _ (rs.ext x1) h2 fun v F2 H2 x2 l=>w v F2 H2 (x1.trans x2) l
 | false=>rw [if_neg Bool.false_ne_true] at h2 ⊢; exact qu F0 B F1 H1 ρ σ _ _ (rs.ext x1) h2 fun v F2 H2 x2 l=>w v F2 H2 (x1.trans x2) l
theorem zbq {es:List Expr} {fs:Env→Option (List D)} {x1} (h:XAO X ct ms k es fs) (hl:es.length≤1000:=by decide):XO X ct ms (k+1) (.Tuple es x1 pos) (fun ρ=>(fs ρ).bind fun ds=>some (.tup ds)):=by
 obtain ⟨t,pt,lt,qt⟩:=h
 refine ⟨_,zqm pt,fun F0 B F H ρ σ r Q rs e w=>?_⟩
 obtain ⟨ds,h1,h2⟩:=bind1 e
 cases h2
 refine qt F0 B F H ρ σ ds _ rs h1 fun vs F1 H1 fp x1 l nd hf=>⟨?_,fun p hp=>?_⟩
 ·rw [← l.length,lt _ _ h1]; exact small hl
 ·have x2:=Ext.newS x1.fh hp (.tup vs)
  exact w _ _ _ fp (x1.trans x2) (.inr (.tup yo (l.mono fun _ _ _ _ o=>o.ext x2))) nd hf
theorem OwL.cellsOf {K:PySem.W.Frag} {F H:Hp} {ds:List D} {vs:List V} {fp:List Addr} (l:OwL (Ow K ct F H k) ds vs fp):∀a∈fp,F a=none∧∃o,H a=some o:=Ow.cells.OwL.cells (fun d v f q=>Ow.cells q) l
theorem zjp {K:PySem.W.Frag} {F H:Hp} {ds:List D} {vs:List V} {fp:List Addr} {p:Addr} (s:Same F H) (l:OwL (Ow K ct F H k) ds vs fp) (hp:H p=none):Ow K ct F (upd H p (.lst vs)) (k+1) (.lst ds) (.ref p) (p::fp)∧(fp.Nodup→(p::fp).Nodup) :=
 ⟨.inr (.lst (s.free hp) yo (l.mono fun _ _ _ _ o=>o.ext (Ext.newO s hp _))),fun nd=>List.nodup_cons.mpr ⟨fun z=>(by
  obtain ⟨_,o,ho⟩:=OwL.cellsOf l p z
  rw [hp] at ho
  cases ho),nd⟩⟩
theorem jp {es:List Expr} {fs:Env→Option (List D)} (h:XAO X ct ms k es fs) (hl:es.length≤1000:=by decide):XO X ct ms (k+1) (.List es pos) (fun ρ=>(fs ρ).bind fun ds=>some (.lst ds)):=by
 obtain ⟨t,pt,lt,qt⟩:=h
 refine ⟨_,zqn pt,fun F0 B F H ρ σ r Q rs e w=>?_⟩
 obtain ⟨ds,h1,h2⟩:=bind1 e
 cases h2
 refine qt F0 B F H ρ σ ds _ rs h1 fun vs F1 H1 fp x1 l nd hf=>⟨?_,fun p hp=>?_⟩
 ·rw [← l.length,lt _ _ h1]; exact small hl
 ·obtain ⟨o,n2⟩:=zjp x1.fh l hp
  refine w _ _ _ (p::fp) (x1.trans (Ext.newO x1.fh hp _)) o (n2 nd) fun z hz=>?_
  rcases List.mem_cons.mp hz with rfl | hz
  ·exact x1.hh.free hp
  ·exact hf z hz
theorem zdw:XO X ct ms (k+1) (.Dict [] [] pos) (eC (.dK [] [])):=by
 refine ⟨_,zlh,fun F0 B F H ρ σ r Q rs e w p hp=>?_⟩
 cases e
 refine w _ F _ [p] (Ext.newO rs.fh hp _) (.inr (OwC.dK (vs:=[]) (rs.fh.free hp) yo rfl .nil)) (by simp) fun z hz=>?_
 rw [List.mem_singleton] at hz; subst hz; exact hp
def LSp (K:PySem.W.Frag) (ct:Nat→Addr) (pm:List Nat) (rk:Nat) (m:List D→Option D):Sp:=fun vs H Q _=>∃(F:Hp) (ds:List D) (d:D),Same F H∧AlL K ct F H pm ds vs∧m ds=some d ∧
 ∀v F' H' fp,Ext F H F' H'→Ow K ct F' H' rk d v fp→fp.Nodup→(∀a∈fp,H a=none)→Q v H'
theorem LSp.len {K:PySem.W.Frag} {ct:Nat→Addr} {pm:List Nat} {rk:Nat} {m:List D→Option D} {ps:List Str} (h:pm.length=ps.length):∀vs H Q E,LSp K ct pm rk m vs H Q E→vs.length=ps.length:=by
 rintro vs H Q E ⟨F,ds,d,_,l,_⟩
 rw [l.length,h]
variable {kk:Nat} {fa:Addr} {fd:FuncData} {ps:List Str} {pm:List Nat} {rk:Nat} {mf:List D→Option D} {x:Str} {pp:Pos}
theorem zj {es:List Expr} {ns nd:List Nat} {fs:Env→Option (List D)} {dvs:List V} {dds:List D} {dsv:List Value} (Fn:FnOk X.prog X.w X.K X.mg X.base CX0 kk fa fd ps (LSp X.K ct (ns++nd) rk mf)) (hr:Room kk X.A) (hg:Gl X x) (hm:X.mg x=some (.ref fa)) (hk:PySem.W.keepIn X.K (.ref fa)=true)
  (hb:Binds X.K fd ps dsv) (hd:Vals dvs dsv) (hdd:∀F G,AlL X.K ct F G nd dds dvs) (ha:XA X ct ms (e::es) ns fs)
  (hdb:(x == ("__debug__":Str))=false:=by decide) (he:starEach (e::es) X.env=(false,eval e X.env)::starEach es X.env:=by rfl) (hpl:(backTo pos (starEach es X.env)).any (·.1)=false:=by rfl) :
  XO X ct ms rk (.Call (.Name x pp) (e::es) [] pos) (fun ρ=>(fs ρ).bind fun ds=>mf (ds++dds)):=by
 obtain ⟨t,pt,_,qt⟩:=ha
 refine ⟨_,zi9 Fn hr hg hm hk hb hd pass0 pt hdb he hpl,fun F0 B F H ρ σ r Q rs e w=>?_⟩
 obtain ⟨ds,h1,h2⟩:=bind1 e
 refine qt F0 B F H ρ σ ds _ rs h1 fun vs F1 H1 x1 l=>⟨F1,ds++dds,r,x1.fh,AlL.append (hdd F1 H1) l,h2,fun v F2 H2 fp x2 o nd hf=>?_⟩
 exact w v F2 H2 fp (x1.trans x2) o nd fun z hz=>x1.hh.free (hf z hz)
theorem zu {es:List Expr} {ns:List Nat} {fs:Env→Option (List D)} {id:String} {r:List V→Hp→VK→Prop} {op:List D→Option D} (hc:CallR X (.builtin id) r) (hs:OpN X.K ct ns k r op) (hg:Gl X x) (hm:X.mg x=none) (hv:bootBuiltins x=some (.builtin id)) (ha:XA X ct ms (e::es) ns fs)
  (hn:x≠"__name__":=by decide) (hdb:(x == ("__debug__":Str))=false:=by decide) (he:starEach (e::es) X.env=(false,eval e X.env)::starEach es X.env:=by rfl) (hpl:(backTo pos (starEach es X.env)).any (·.1)=false:=by rfl) :
  XE X ct ms k (.Call (.Name x pp) (e::es) [] pos) (eN op fs):=by
 obtain ⟨t,pt,_,qt⟩:=ha
 refine ⟨_,zby hc hg hm hv pt hn hdb he hpl,fun F0 B F H ρ σ r Q rs e w=>?_⟩
 obtain ⟨ds,h1,h2⟩:=bind1 e
 exact qt F0 B F H ρ σ ds _ rs h1 fun vs F1 H1 x1 l=>hs F1 H1 vs ds r Q x1.fh l h2 fun v F2 H2 x2 l2=>w v F2 H2 (x1.trans x2) l2
theorem zjq {es:List Expr} {ns:List Nat} {fs:Env→Option (List D)} {id:String} {r:List V→Hp→VK→Prop} {op:List D→Option D} (hc:CallR X (.type id) r) (hs:OpN X.K ct ns k r op) (hg:Gl X x) (hm:X.mg x=none) (hv:bootBuiltins x=some (.type id)) (ha:XA X ct ms (e::es) ns fs)
  (hn:x≠"__name__":=by decide) (hdb:(x == ("__debug__":Str))=false:=by decide) (he:starEach (e::es) X.env=(false,eval e X.env)::starEach es X.env:=by rfl) (hpl:(backTo pos (starEach es X.env)).any (·.1)=false:=by rfl) :
  XE X ct ms k (.Call (.Name x pp) (e::es) [] pos) (eN op fs):=by
 obtain ⟨t,pt,_,qt⟩:=ha
 refine ⟨_,zb7 hc hg hm hv pt hn hdb he hpl,fun F0 B F H ρ σ r Q rs e w=>?_⟩
 obtain ⟨ds,h1,h2⟩:=bind1 e
 exact qt F0 B F H ρ σ ds _ rs h1 fun vs F1 H1 x1 l=>hs F1 H1 vs ds r Q x1.fh l h2 fun v F2 H2 x2 l2=>w v F2 H2 (x1.trans x2) l2
theorem zfa {es:List Expr} {ns:List Nat} {fs:Env→Option (List D)} {id:String} {r:List V→Hp→VK→Prop} {op:List D→Option D} (hc:CallR X (.type id) r) (hs:OpNO X.K ct ns k r op) (hg:Gl X x) (hm:X.mg x=none) (hv:bootBuiltins x=some (.type id)) (ha:XA X ct ms (e::es) ns fs)
  (hn:x≠"__name__":=by decide) (hdb:(x == ("__debug__":Str))=false:=by decide) (he:starEach (e::es) X.env=(false,eval e X.env)::starEach es X.env:=by rfl) (hpl:(backTo pos (starEach es X.env)).any (·.1)=false:=by rfl) :
  XO X ct ms k (.Call (.Name x pp) (e::es) [] pos) (eN op fs):=by
 obtain ⟨t,pt,_,qt⟩:=ha
 refine ⟨_,zb7 hc hg hm hv pt hn hdb he hpl,fun F0 B F H ρ σ r Q rs e w=>?_⟩
 obtain ⟨ds,h1,h2⟩:=bind1 e
 exact qt F0 B F H ρ σ ds _ rs h1 fun vs F1 H1 x1 l=>hs F1 H1 vs ds r Q x1.fh l h2 fun v F2 H2 fp x2 l2 nd hf=>w v F2 H2 fp (x1.trans x2) l2 nd fun z hz=>x1.hh.free (hf z hz)
def fldD (cs:List Nat) (x:Str):D→Option D
 | .obj c ns ds=>if cs.contains c=true then (ns.zip ds).lookup x else none
 | _=>none
theorem zc7 {R:D→V→Prop} {x:Str} {d:D}:∀{ns:List Str} {ds:List D} {vs:List V},Pr R ds vs→(ns.zip ds).lookup x=some d→∃v,(ns.zip vs).lookup x=some v∧R d v
 | [],_,_,_,e=>by simp at e
 | _::_,_,_,.nil,e=>by simp at e
 | y::ns,_,_,.cons h t,e=>by
  rw [List.zip_cons_cons,List.lookup_cons] at e
  rw [List.zip_cons_cons,List.lookup_cons]
  cases q:x == y with
  | true=>rw [q] at e; cases e; exact ⟨_,rfl,h⟩
  | false=>rw [q] at e; exact zc7 t e
theorem xi {x:Str} {cs:List Nat} (he:XE X ct ms n e f) (hc:∀c∈cs,Cls X.K (ct c)∧NoAttr X.K (ct c) x) (hb:attributeBase e x X.env (eval e X.env)=eval e X.env):XE X ct ms (n-1) (.Attribute e x pos) (e1 (fldD cs x) f):=by
 obtain ⟨t,pt,qt⟩:=he
 refine ⟨_,zqk pt hb,fun F0 B F H ρ σ r Q rs e w=>?_⟩
 obtain ⟨o,h1,h2⟩:=bind1 e
 refine qt F0 B F H ρ σ o _ rs h1 fun v F1 H1 x1 l=>?_
 cases o with
 | obj c ns ds =>
  obtain ⟨a,dx,vs,rfl,ha,hl,hds⟩:=l.obj x1.fh
  unfold fldD at h2
  dsimp only at h2
  by_cases hcs:cs.contains c=true
  ·rw [if_pos hcs] at h2
   obtain ⟨u,hu,du⟩:=zc7 hds h2
   have hh:=hc c (by simpa using hcs)
   exact ⟨a,_,dx,_,u,rfl,ha,hh.1,hh.2,hu,w u F1 H1 x1 du⟩
  ·rw [if_neg hcs] at h2; cases h2
 | _=>cases h2
end
end L3
namespace L3
open PySem PySem.Spec L2
open PyProof.Rows hiding St
inductive Out where
 | nx (ρ:Env) | rt (d:D) | bk (ρ:Env) | ct (ρ:Env)
abbrev SF:=Env→Option Out
def OutOk (K:PySem.W.Frag) (cl:Nat→Addr) (F0 B:Hp) (ms:List Mo) (rk:Nat) (E:Ends):Out→Prop
 | .nx ρ=>∀σ F H,RS K cl F0 B ms F H ρ σ→E.nx σ H
 | .bk ρ=>∀σ F H,RS K cl F0 B ms F H ρ σ→E.bk σ H
 | .ct ρ=>∀σ F H,RS K cl F0 B ms F H ρ σ→E.ct σ H
 | .rt d=>∀v F H fp,Same F0 F→Same B H→Same F H→(∀a o,B a=some o→F0 a=none→F a=none)→Ow K cl F H rk d v fp→fp.Nodup→(∀a∈fp,B a=none)→E.rt v H
section
variable (X:Cx) (ct:Nat→Addr) (ms:List Mo) (rk:Nat)
def XS (st:Stmt) (f:SF):Prop:=∃t,PS X st t∧∀(F0 B F H:Hp) (ρ:Env) (σ:St) (o:Out) (E:Ends),RS X.K ct F0 B ms F H ρ σ→f ρ=some o→OutOk X.K ct F0 B ms rk E o→t E σ H
def XSs (st:List Stmt) (f:SF):Prop:=∃t,PSs X st t∧∀(F0 B F H:Hp) (ρ:Env) (σ:St) (o:Out) (E:Ends),RS X.K ct F0 B ms F H ρ σ→f ρ=some o→OutOk X.K ct F0 B ms rk E o→t E σ H
end
def sSkip:SF:=fun ρ=>some (.nx ρ)
def sSeq (f g:SF):SF:=fun ρ=>(f ρ).bind fun o=>match o with
 | .nx ρ'=>g ρ'
 | o=>some o
def sIf (c:BF) (f g:SF):SF:=fun ρ=>(c ρ).bind fun b=>if b=true then f ρ else g ρ
def sSet (i:Nat) (f:EF):SF:=fun ρ=>(f ρ).bind fun d=>some (.nx (ρ.set i (some d)))
def sRet (f:EF):SF:=fun ρ=>(f ρ).bind fun d=>some (.rt d)
def sRetN:SF:=fun _=>some (.rt .non)
def sDrop (f:EF):SF:=fun ρ=>(f ρ).bind fun _=>some (.nx ρ)
def sNever:SF:=fun _=>none
def FUEL:Nat:=2 ^ 9000
def whileD (c:BF) (b:SF):Nat→SF
 | 0,_=>none
 | n+1,ρ=>(c ρ).bind fun t=>if t=true then (b ρ).bind fun o=>match o with
   | .nx ρ'=>whileD c b n ρ'
   | .ct ρ'=>whileD c b n ρ'
   | .bk ρ'=>some (.nx ρ')
   | .rt d=>some (.rt d)
  else some (.nx ρ)
def sWhile (c:BF) (b:SF):SF:=whileD c b FUEL
def forD (g:D→Env→Option Env) (b:SF):List D→SF
 | [],ρ=>some (.nx ρ)
 | d::ds,ρ=>(g d ρ).bind fun ρ1=>(b ρ1).bind fun o=>match o with
   | .nx ρ'=>forD g b ds ρ'
   | .ct ρ'=>forD g b ds ρ'
   | .bk ρ'=>some (.nx ρ')
   | .rt d=>some (.rt d)
def sFor (f:Env→Option (List D)) (g:D→Env→Option Env) (b:SF):SF:=fun ρ=>(f ρ).bind fun ds=>forD g b ds ρ
section
variable {X:Cx} {ct:Nat→Addr} {ms:List Mo} {rk n m k:Nat} {st:Stmt} {rest:List Stmt} {a b c e:Expr} {f g h:EF} {p q:BF} {u w:SF} {pos:Pos}
theorem y3:XSs X ct ms rk [] sSkip:=⟨_,znp,fun F0 B F H ρ σ o E rs e w=>by cases e; exact w σ F H rs⟩
theorem ze (h1:XS X ct ms rk st u) (h2:XSs X ct ms rk rest w):XSs X ct ms rk (st::rest) (sSeq u w):=by
 obtain ⟨t,pt,qt⟩:=h1
 obtain ⟨t2,pt2,qt2⟩:=h2
 refine ⟨_,zg3 pt pt2,fun F0 B F H ρ σ o E rs e z=>?_⟩
 obtain ⟨o1,e1,e2⟩:=bind1 e
 refine qt F0 B F H ρ σ o1 _ rs e1 ?_
 cases o1 with
 | nx ρ'=>exact fun σ' F' H' rs'=>qt2 F0 B F' H' ρ' σ' o E rs' e2 z
 | rt d=>cases e2; exact z
 | bk ρ'=>cases e2; exact z
 | ct ρ'=>cases e2; exact z
theorem zh (h1:XS X ct ms rk st u):XSs X ct ms rk [st] u:=by
 obtain ⟨t,pt,qt⟩:=h1
 exact ⟨_,ziy pt,qt⟩
theorem zdx:XS X ct ms rk st sNever:=⟨_,zk7,fun F0 B F H ρ σ o E rs e w=>by cases e⟩
theorem yk (he:XO X ct ms rk e f):XS X ct ms rk (.Return (some e) pos) (sRet f):=by
 obtain ⟨t,pt,qt⟩:=he
 refine ⟨_,ziz pt,fun F0 B F H ρ σ o E rs e w=>?_⟩
 obtain ⟨d,h1,h2⟩:=bind1 e
 cases h2
 refine qt F0 B F H ρ σ d _ rs h1 fun v F' H' fp x l nd hf=>?_
 have r:=rs.ext x
 exact w v F' H' fp r.f0 r.bh r.fh r.nf l nd fun z hz=>rs.bh.free (hf z hz)
theorem vw {st1 st2:List Stmt} (hc:XT X ct ms c p) (h1:XSs X ct ms rk st1 u) (h2:XSs X ct ms rk st2 w):XS X ct ms rk (.If c st1 st2 pos) (sIf p u w):=by
 obtain ⟨t,pt,qt⟩:=hc
 obtain ⟨t1,pt1,qt1⟩:=h1
 obtain ⟨t2,pt2,qt2⟩:=h2
 refine ⟨_,zr9 pt pt1 pt2,fun F0 B F H ρ σ o E rs e z=>?_⟩
 obtain ⟨x,h1,h2⟩:=bind1 e
 refine qt F0 B F H ρ σ x _ rs h1 fun F1 H1 x1=>?_
 cases x with
 | true=>rw [if_pos rfl] at h2 ⊢; exact qt1 F0 B F1 H1 ρ σ o E (rs.ext x1) h2 z
 | false=>rw [if_neg Bool.false_ne_true] at h2 ⊢; exact qt2 F0 B F1 H1 ρ σ o E (rs.ext x1) h2 z
theorem RS.put {K:PySem.W.Frag} {F0 B F H F' H':Hp} {ρ:Env} {σ:St} {i:Nat} (rs:RS K ct F0 B ms F H ρ σ) (hm:ms[i]?=some (.ow k)) :
  ∃f1 fr:List Addr,f1.Nodup∧(∀a∈f1,B a=none)∧(∀a∈f1,a∉fr)∧(∀d,ρ[i]?=some (some d)→∃v,σ[i]?=some (some v)∧Ow K ct F H k d v f1)∧(∀a∈fr,F a=none∧∃o,H a=some o) ∧
   ∀(F' H':Hp) (d':D) (v':V) (f':List Addr),Same F F'→Same B H'→Same F' H'→(∀a o,B a=some o→F0 a=none→F' a=none)→(∀a∈fr,H' a=H a∧F' a=none)→Ow K ct F' H' k d' v' f'→f'.Nodup→(∀a∈f',a∉fr)→(∀a∈f',B a=none) →
    RS K ct F0 B ms F' H' (ρ.set i (some d')) (σ.set i (some v')):=by
 obtain ⟨fp,sl,nd,hb⟩:=rs.sl
 obtain ⟨f1,fr,i1,i2,i3,i4,i5⟩:=sl.put hm
 obtain ⟨n1,n2,n3⟩:=i3 nd
 refine ⟨f1,fr,n1,fun a z=>hb a (i1 a z),n3,i4,fun a z=>sl.cells a (i2 a z),fun F' H' d' v' f' s1 s2 s3 s4 kf o ndf dj hbf=>?_⟩
 obtain ⟨fp',q1,q2,q3⟩:=i5 F' H' d' v' f' s1 kf o
 exact ⟨rs.f0.trans s1,s2,s3,s4,fp',q1,q3 ndf n2 dj,fun a z=>(q2 a z).elim (hbf a) fun z=>hb a (i2 a z)⟩
theorem RS.set {K:PySem.W.Frag} {F0 B F H F' H':Hp} {ρ:Env} {σ:St} {i:Nat} {d:D} {v:V} {fp:List Addr} (rs:RS K ct F0 B ms F H ρ σ) (hm:ms[i]?=some (.ow k)) (x:Ext F H F' H') (o:Ow K ct F' H' k d v fp) (nd:fp.Nodup) (hf:∀a∈fp,H a=none) :
  RS K ct F0 B ms F' H' (ρ.set i (some d)) (σ.set i (some v)):=by
 have r:=rs.ext x
 obtain ⟨f1,fr,n1,b1,n3,i4,cf,put⟩:=rs.put (F':=F') (H':=H') hm
 refine put F' H' d v fp x.ff r.bh x.fh r.nf (fun a z=>?_) o nd (fun a z zb=>?_) fun a z=>rs.bh.free (hf a z)
 ·obtain ⟨hn,o,ho⟩:=cf a z
  exact ⟨(x.hh _ _ ho).trans ho.symm,x.nf a o ho hn⟩
 ·obtain ⟨hn,o,ho⟩:=cf a zb
  rw [hf a z] at ho
  cases ho
theorem zx {i:Nat} {x:Str} {pos':Pos} (hm:ms[i]?=some (.ow k)) (hN:X.N.Nodup) (hi:X.N[i]?=some x) (hx:Loc X.env.scope x) (he:XO X ct ms k e f) (hs:swapsWith e (some (.Name x pos')) pos.line X.env=pure false:=by rfl)
  (hf:X.fn x=true∨X.env.scope.names.lookup x=some .local:=by first | exact .inl rfl | exact .inr rfl | assumption):XS X ct ms rk (.Assign [.Name x pos'] e pos) (sSet i f):=by
 obtain ⟨t,pt,qt⟩:=he
 refine ⟨_,zm1 hN hi hx pt hs hf,fun F0 B F H ρ σ o E rs e w=>?_⟩
 obtain ⟨d,h1,h2⟩:=bind1 e
 cases h2
 exact qt F0 B F H ρ σ d _ rs h1 fun v F' H' fp x l nd hf=>w _ F' H' (rs.set hm x l nd hf)
theorem za3 (hc:XT X ct ms c p) (hb:XSs X ct ms rk rest u) (hp:PassesOwn (model X.prog X.w) X.A X.env X.xe):XS X ct ms rk (.While c rest [] pos) (sWhile p u):=by
 obtain ⟨t,pt,qt⟩:=hc
 obtain ⟨t1,pt1,qt1⟩:=hb
 refine ⟨_,zk9 hp pt pt1,fun F0 B F H ρ σ o E rs e z=>?_⟩
 refine ⟨fun m σ H=>∃F ρ,RS X.K ct F0 B ms F H ρ σ∧whileD p u m ρ=some o,⟨FUEL,F,ρ,rs,e⟩,?_⟩
 rintro m σ H ⟨F,ρ,rs,e⟩
 cases m with
 | zero=>cases e
 | succ m =>
  obtain ⟨x,h1,h2⟩:=bind1 e
  refine qt F0 B F H ρ σ x _ rs h1 fun F1 H1 x1=>?_
  cases x with
  | true =>
   rw [if_pos rfl] at h2 ⊢
   obtain ⟨o1,h3,h4⟩:=bind1 h2
   refine ⟨fun σ H=>∃F ρ,RS X.K ct F0 B ms F H ρ σ∧whileD p u m ρ=some o,fun σ' H' h=>⟨m,Nat.lt_succ_self m,h⟩,?_⟩
   refine qt1 F0 B F1 H1 ρ σ o1 _ (rs.ext x1) h3 ?_
   cases o1 with
   | nx ρ'=>exact fun σ' F' H' r=>⟨F',ρ',r,h4⟩
   | ct ρ'=>exact fun σ' F' H' r=>⟨F',ρ',r,h4⟩
   | bk ρ'=>cases h4; exact z
   | rt d=>cases h4; exact z
  | false =>
   rw [if_neg Bool.false_ne_true] at h2 ⊢
   cases h2
   exact z σ F1 H1 (rs.ext x1)
theorem RS.re {K:PySem.W.Frag} {F0 B F H:Hp} {ρ:Env} {σ:St} (r:RS K ct F0 B ms F H ρ σ):RS K ct F B ms F H ρ σ:=⟨.refl _,r.bh,r.fh,fun _ _ _ h=>h,r.sl⟩
theorem RS.back {K:PySem.W.Frag} {F0 B F H F' H':Hp} {ρ ρ':Env} {σ σ':St} (r:RS K ct F0 B ms F H ρ σ) (q:RS K ct F B ms F' H' ρ' σ'):RS K ct F0 B ms F' H' ρ' σ' :=
 ⟨r.f0.trans q.f0,q.bh,q.fh,fun a o h n=>q.nf a o h (r.nf a o h n),q.sl⟩
theorem OutOk.re {K:PySem.W.Frag} {F0 B F H:Hp} {ρ:Env} {σ:St} {E:Ends} {o:Out} (r:RS K ct F0 B ms F H ρ σ) (z:OutOk K ct F0 B ms rk E o):OutOk K ct F B ms rk E o:=by
 cases o with
 | nx ρ=>exact fun σ' F' H' q=>z σ' F' H' (r.back q)
 | bk ρ=>exact fun σ' F' H' q=>z σ' F' H' (r.back q)
 | ct ρ=>exact fun σ' F' H' q=>z σ' F' H' (r.back q)
 | rt d=>exact fun v F' H' fp s1 s2 s3 s4=>z v F' H' fp (r.f0.trans s1) s2 s3 fun a o h n=>s4 a o h (r.nf a o h n)
def ItOk (K:PySem.W.Frag) (ct:Nat→Addr) (F B:Hp) (n:Nat) (J:It) (ds:List D):Prop :=
 ∀(i:Nat) (F' H':Hp),Same F F'→Same B H'→Same F' H'→(∀d,ds[i]?=some d→J.go i H'∧∀x H2,J.yld i H' x H2→∃F2,Ext F' H' F2 H2∧Al K ct F2 B n d x)∧(ds.length≤i→J.stop i H')
def XI (X:Cx) (ct:Nat→Addr) (ms:List Mo) (n:Nat) (tg iter:Expr) (f:Env→Option (List D)):Prop:=∃wi,PI X tg iter wi∧∀(F0 B F H:Hp) (ρ:Env) (σ:St) (ds:List D) (R:It→Hp→Prop),RS X.K ct F0 B ms F H ρ σ→f ρ=some ds →
 (∀J F' H',Ext F H F' H'→ItOk X.K ct F' B n J ds→R J H')→wi σ H R
def XIc (X:Cx) (ct:Nat→Addr) (ms:List Mo) (n:Nat) (tg iter:Expr) (f:Env→Option (List D)):Prop:=∃wi,PI X tg iter wi∧∀(F0 B F H:Hp) (ρ:Env) (σ:St) (ds:List D) (R:It→Hp→Prop),RS X.K ct F0 B ms F H ρ σ→f ρ=some ds →
 (∀J F' H',Ext F H F' H'→ItOk X.K ct F' H' n J ds→R J H')→wi σ H R
def XG (X:Cx) (ct:Nat→Addr) (ms:List Mo) (n:Nat) (tg:Expr) (g:D→Env→Option Env):Prop:=∃t,PG X tg t∧∀(F0 B F H:Hp) (ρ ρ':Env) (σ:St) (d:D) (v:V) (Q:St→Hp→Prop),RS X.K ct F0 B ms F H ρ σ→Al X.K ct F B n d v→g d ρ=some ρ' →
 (∀σ',RS X.K ct F0 B ms F H ρ' σ'→Q σ' H)→t v σ H Q
theorem ql {tg iter:Expr} {fi:Env→Option (List D)} {gg:D→Env→Option Env} (hi:XI X ct ms n tg iter fi) (hg:XG X ct ms n tg gg) (hb:XSs X ct ms rk rest u) (hp:PassesOwn (model X.prog X.w) X.A X.env X.xe) (hc:X.calm=true)
  (hs:∀x,foldedSetIterable iter X.env x=pure x:=by intro _; rfl):XS X ct ms rk (.For tg iter rest [] pos) (sFor fi gg u):=by
 obtain ⟨wi,pi,qi⟩:=hi
 obtain ⟨tg',pg,qg⟩:=hg
 obtain ⟨t1,pt1,qt1⟩:=hb
 refine ⟨_,zqf hp hc pi pg pt1 hs,fun F0 B F H ρ σ o E rs e z=>?_⟩
 obtain ⟨ds,h1,h2⟩:=bind1 e
 refine qi F0 B F H ρ σ ds _ rs h1 fun J F1 H1 x1 ok=>?_
 refine ⟨fun i m σ H=>m=ds.length-i∧i≤ds.length∧∃F ρ,Same F1 F∧RS X.K ct F0 B ms F H ρ σ∧forD gg u (ds.drop i) ρ=some o,⟨ds.length,rfl,Nat.zero_le _,F1,ρ,.refl _,rs.ext x1,h2⟩,?_⟩
 rintro i m σ H ⟨rfl,hil,F,ρ,s1,rs,e⟩
 obtain ⟨k1,k2⟩:=ok i F H s1 rs.bh rs.fh
 by_cases hlt:i<ds.length
 ·right
  have hd:ds[i]?=some ds[i]:=by simp [hlt]
  obtain ⟨go,yl⟩:=k1 _ hd
  rw [List.drop_eq_getElem_cons hlt] at e
  obtain ⟨ρ1,h3,h4⟩:=bind1 e
  obtain ⟨o1,h5,h6⟩:=bind1 h4
  refine ⟨go,fun σ H=>i+1≤ds.length∧∃F ρ,Same F1 F∧RS X.K ct F0 B ms F H ρ σ∧forD gg u (ds.drop (i+1)) ρ=some o,fun σ' H' h=>⟨ds.length-(i+1),by omega,rfl,h⟩,fun x H2 y=>?_⟩
  obtain ⟨F2,x2,l⟩:=yl x H2 y
  refine qg F0 B F2 H2 ρ ρ1 σ _ x _ (rs.ext x2) l h3 fun σ' r=>?_
  have s2:=s1.trans x2.ff
  refine qt1 F2 B F2 H2 ρ1 σ' o1 _ r.re h5 ?_
  cases o1 with
  | nx ρ'=>exact fun σ' F' H' q=>⟨hlt,F',ρ',s2.trans q.f0,r.back q,h6⟩
  | ct ρ'=>exact fun σ' F' H' q=>⟨hlt,F',ρ',s2.trans q.f0,r.back q,h6⟩
  | bk ρ'=>cases h6; exact fun σ' F' H' q=>z σ' F' H' (r.back q)
  | rt d=>cases h6; exact OutOk.re (o:=.rt d) r z
 ·left
  refine ⟨k2 (by omega),?_⟩
  have:ds.drop i=[]:=List.drop_eq_nil_of_le (by omega)
  rw [this] at e
  cases e
  exact z σ F H rs
def gV (i:Nat):D→Env→Option Env:=fun d ρ=>some (ρ.set i (some d))
theorem wk {i:Nat} {x:Str} (hm:ms[i]?=some (.ow 0)) (hN:X.N.Nodup) (hi:X.N[i]?=some x) (hx:Loc X.env.scope x)
  (hf:X.fn x=true∨X.env.scope.names.lookup x=some .local:=by first | exact .inl rfl | exact .inr rfl | assumption):XG X ct ms 0 (.Name x pos) (gV i):=by
 refine ⟨_,zi0 hN hi hx hf,fun F0 B F H ρ ρ' σ d v Q rs l e w=>?_⟩
 cases e
 exact w _ (rs.set hm (.refl rs.fh) (Ow.zero l) List.nodup_nil fun a z=>(by cases z))
def XGs (X:Cx) (ct:Nat→Addr) (ms:List Mo) (n:Nat) (tgs:List Expr) (g:List D→Env→Option Env):Prop:=∃t,PGs X tgs t∧(∀ds ρ ρ',g ds ρ=some ρ'→ds.length=tgs.length)∧∀(F0 B F H:Hp) (ρ ρ':Env) (σ:St) (ds:List D) (vs:List V) (Q:St→Hp→Prop),RS X.K ct F0 B ms F H ρ σ→Pr (Al X.K ct F B n) ds vs→g ds ρ=some ρ' →
 (∀σ',RS X.K ct F0 B ms F H ρ' σ'→Q σ' H)→t vs σ H Q
def gsNil:List D→Env→Option Env:=fun ds ρ=>match ds with
 | []=>some ρ
 | _=>none
def gsCons (g:D→Env→Option Env) (gs:List D→Env→Option Env):List D→Env→Option Env:=fun ds ρ=>match ds with
 | d::ds=>(g d ρ).bind fun ρ'=>gs ds ρ'
 | []=>none
theorem zcd:XGs X ct ms n [] gsNil:=by
 refine ⟨_,znq,fun ds ρ ρ' e=>?_,fun F0 B F H ρ ρ' σ ds vs Q rs l e w=>?_⟩
 ·cases ds with
  | nil=>rfl
  | cons d ds=>cases e
 ·cases l with
  | nil=>cases e; exact ⟨rfl,w σ rs⟩
  | cons _ _=>cases e
theorem ve {tg:Expr} {tgs:List Expr} {gg:D→Env→Option Env} {gs:List D→Env→Option Env} (h1:XG X ct ms n tg gg) (h2:XGs X ct ms n tgs gs)
  (hs:(assignEach (tg::tgs) X.env).map (·.2)=assign tg X.env::(assignEach tgs X.env).map (·.2):=by rfl):XGs X ct ms n (tg::tgs) (gsCons gg gs):=by
 obtain ⟨t,pt,qt⟩:=h1
 obtain ⟨t2,pt2,lt2,qt2⟩:=h2
 refine ⟨_,zk8 pt pt2 hs,fun ds ρ ρ' e=>?_,fun F0 B F H ρ ρ' σ ds vs Q rs l e w=>?_⟩
 ·cases ds with
  | nil=>cases e
  | cons d ds =>
   obtain ⟨ρ1,h3,h4⟩:=bind1 e
   rw [List.length_cons,List.length_cons,lt2 _ _ _ h4]
 ·cases l with
  | nil=>cases e
  | cons h t =>
   obtain ⟨ρ1,h3,h4⟩:=bind1 e
   exact ⟨_,_,rfl,qt F0 B F H ρ ρ1 σ _ _ _ rs h h3 fun σ1 r1=>qt2 F0 B F H ρ1 ρ' σ1 _ _ _ r1 t h4 w⟩
def gT (gs:List D→Env→Option Env):D→Env→Option Env:=fun d ρ=>match d with
 | .tup ds=>gs ds ρ
 | _=>none
theorem zfb {tgs:List Expr} {j:Nat} {gs:List D→Env→Option Env} (hc:X.calm=true) (h:XGs X ct ms (n-1) tgs gs) (hl:(assignEach tgs X.env).length=tgs.length:=by rfl) (hst:(assignEach tgs X.env).findIdx? (·.1)=none:=by rfl):XG X ct ms n (.Tuple tgs j pos) (gT gs):=by
 obtain ⟨t,pt,lt,qt⟩:=h
 refine ⟨_,zqb (n:=tgs.length) hc pt hl hst,fun F0 B F H ρ ρ' σ d v Q rs l e w=>?_⟩
 cases d with
 | tup ds =>
  have l':Al X.K ct F H n (.tup ds) v:=l.mono (.refl _) rs.bh
  have:∃a vs,v=.ref a∧SqT X.K H a vs∧Pr (Al X.K ct F B (n-1)) ds vs:=by
   cases n with
   | zero =>
    have l:Dt X.K ct F (.tup ds) v:=l
    cases l with
    | tup q t=>exact ⟨_,_,rfl,SqT.of (rs.fh _ _ q),t.pr⟩
   | succ n =>
    rcases l with l | l
    ·cases l with
     | tup q t=>exact ⟨_,_,rfl,SqT.of (rs.fh _ _ q),t.pr.mono fun _ _=>Al.of⟩
    ·cases l with
     | tup q t=>exact ⟨_,_,rfl,SqT.of (rs.fh _ _ q),t⟩
  obtain ⟨a,vs,rfl,ha,hp⟩:=this
  exact ⟨a,vs,rfl,ha,hp.length.symm.trans (lt _ _ _ e),qt F0 B F H ρ ρ' σ ds vs Q rs hp e w⟩
 | _=>cases e
def startD (N:List Str) (ds:List D):Env:=ds.map some++List.replicate (N.length-ds.length) none
def mOf (N:List Str) (b:SF) (ds:List D):Option D:=(b (startD N ds)).bind fun o=>match o with
 | .rt d=>some d
 | .nx _=>some .non
 | _=>none
theorem SL.start {K:PySem.W.Frag} {F B H:Hp}:∀{pm:List Nat} {ds:List D} {vs:List V} {ms:List Mo} (j:Nat),AlL K ct F B pm ds vs→(∀(i n:Nat),pm[i]?=some n→ms[i]?=some (Mo.al n)∨(n=0∧ms[i]?=some (Mo.ow 0)))→ms.length=pm.length+j →
  SL K ct F B H ms (ds.map some++List.replicate j none) (vs.map some++List.replicate j none) []
 | _,_,_,ms,j,.nil,_,hl=>by
  have:∀(j:Nat) (ms:List Mo),ms.length=j→SL K ct F B H ms (List.replicate j none) (List.replicate j none) []:=by
   intro j
   induction j with
   | zero=>intro ms h; cases ms with
    | nil=>exact .nil
    | cons _ _=>simp at h
   | succ j ih=>intro ms h; cases ms with
    | nil=>simp at h
    | cons m ms=>exact .no (ih ms (by simpa using h))
  simpa using this j ms (by simpa using hl)
 | _,_,_,[],j,.cons h t,_,hl=>by simp at hl; omega
 | _,_,_,m::ms,j,.cons (n:=n) h t,hm,hl=>by
  have ih:=SL.start (ms:=ms) (H:=H) j t (fun i n e=>by simpa using hm (i+1) n (by simpa using e)) (by simp at hl; omega)
  rcases hm 0 n rfl with e | ⟨rfl,e⟩
  ·simp at e; subst e; exact .al h ih
  ·simp at e; subst e; exact SL.ow (f:=[]) (Ow.zero h) ih
structure Fun2 (K:PySem.W.Frag) (x qual:Str) (st:Stmt) (f:Addr) (fd:FuncData):Prop where
 ex:∃(oc:Value) (od:Option Addr) (dV kV doc pm:Value) (an:Option Addr) (cdv ct:Value) (osl:Array (Option Value)),
  fd=PySem.W.fnOf x qual (defArgs st) (defBody st) (defScope st) dV kV doc pm an cdv ct∧K.lookup f=some ⟨oc,od,.func fd,osl⟩∧PySem.W.codeIn K cdv qual=true
 kp:PySem.W.keepIn K (.ref f)=true
theorem Fun2.ok {P:Program} {w:World} {K:PySem.W.Frag} {mg:Str→Option Value} {base:Heap} {x qual:Str} {st:Stmt} {f:Addr} {fd:FuncData} {N ps:List Str} {k:Nat} {sp:Sp} (F:Fun2 K x qual st f fd) (S:FnScope N ps (defScope st)) (len:∀vs H Q E,sp vs H Q E→vs.length=ps.length)
    (hbody:∀(cdv:Value) (A:Around) (outer:List PySem.Env) (s:Shared) (H:Hp) (vs:List V) (Q:VK) (E:XK),Room k (A.deeper (envOfC qual (defScope st) s.heap.objs.size f cdv))→sp vs H Q E →
      ∃t,PSs (cxOf CX0 P w K mg base N qual (defScope st) f cdv A outer s H E).nox (defBody st) t∧t { nx:=fun _ H'=>Q .non H',rt:=Q } (L2.start N vs) H):FnOk P w K mg base CX0 (k+1) f fd ps sp:=by
  obtain ⟨oc,od,dV,kV,doc,pm,an,cdv,ct,osl,rfl,lk,hcd⟩:=F.ex
  refine zsc lk hcd S len fun A outer s H vs Q E hr hsp=>?_
  obtain ⟨t,h,q⟩:=hbody cdv A outer s H vs Q E hr hsp
  exact ⟨t,h.nox,q⟩
theorem lift {P:Program} {w:World} {K:PySem.W.Frag} {mg:Str→Option Value} {base:Heap} {x qual:Str} {st:Stmt} {fa:Addr} {fd:FuncData} {N ps:List Str} {kk:Nat} {pm:List Nat} {bf:SF} (Fn:Fun2 K x qual st fa fd) (S:FnScope N ps (defScope st)) (hpm:pm.length=ps.length) (hms:ms.length=N.length) (hle:ps.length≤N.length)
  (hmo:∀(i n:Nat),pm[i]?=some n→ms[i]?=some (Mo.al n)∨(n=0∧ms[i]?=some (Mo.ow 0)))
  (body:∀(cdv:Value) (A:Around) (outer:List PySem.Env) (s:Shared) (H:Hp) (E:XK),Room kk (A.deeper (envOfC qual (defScope st) s.heap.objs.size fa cdv))→XSs (cxOf CX0 P w K mg base N qual (defScope st) fa cdv A outer s H E).nox ct ms rk (defBody st) bf) :
  FnOk P w K mg base CX0 (kk+1) fa fd ps (LSp K ct pm rk (mOf N bf)):=by
 refine Fn.ok S (LSp.len hpm) fun cdv A outer s H vs Q E hr h=>?_
 obtain ⟨F,ds,d,sF,l,hm,q⟩:=h
 obtain ⟨t,pt,qt⟩:=body cdv A outer s H E hr
 refine ⟨t,pt,?_⟩
 obtain ⟨o,h1,h2⟩:=bind1 hm
 have hvl:vs.length=pm.length:=l.length
 have hdl:ds.length=vs.length:=l.length'
 refine qt F H F H (startD N ds) (L2.start N vs) o _ ⟨.refl _,.refl _,sF,fun _ _ _ h=>h,[],?_,List.nodup_nil,fun a z=>(by cases z)⟩ h1 ?_
 ·unfold startD L2.start
  rw [hdl]
  exact SL.start _ l hmo (by omega)
 ·cases o with
  | nx ρ =>
   cases h2
   exact fun σ F' H' r=>q .non F' H' [] ⟨r.f0,r.bh,r.fh,r.nf⟩ (Ow.scal .non rfl) List.nodup_nil fun a z=>(by cases z)
  | rt d' =>
   cases h2
   exact fun v F' H' fp s1 s2 s3 s4 o nd hf=>q v F' H' fp ⟨s1,s2,s3,s4⟩ o nd hf
  | bk ρ=>cases h2
  | ct ρ=>cases h2
end
end L3
namespace L3
open PySem PySem.Spec L2
open PyProof.Rows hiding St
theorem OpR.or {X:Cx} {f:Value→Value→Sem Value} {r r':R2} (h:OpR X f r) (h':OpR X f r'):OpR X f (fun x y H Q=>r x y H Q∨r' x y H Q) :=
 fun pins s σ H x y v u Q I rx ry q=>q.elim (h pins s σ H x y v u Q I rx ry) (h' pins s σ H x y v u Q I rx ry)
section
variable {K:PySem.W.Frag} {ct:Nat→Addr} {n m k:Nat}
def i2 (g:Int→Int→D):D→D→Option D
 | .int i,.int j=>some (g i j)
 | _,_=>none
def i2c (C:Int→Int→Prop) [∀i j,Decidable (C i j)] (g:Int→Int→D):D→D→Option D
 | .int i,.int j=>if C i j then some (g i j) else none
 | _,_=>none
theorem zlk {g:Int→Int→D} {gv:Int→Int→V} (hg:∀i j F,Dt K ct F (g i j) (gv i j)):Op2 K ct n m k (rI0 gv) (i2 g):=by
 intro F H x y d1 d2 d Q s l1 l2 e w
 cases d1 with
 | int i =>
  cases d2 with
  | int j=>cases e; exact ⟨i,j,l1.int,l2.int,w _ F H (.refl s) (Al.of (hg i j F))⟩
  | _=>cases e
 | _=>cases e
theorem zha {C C':Int→Int→Prop} [∀i j,Decidable (C i j)] {g:Int→Int→D} {gv:Int→Int→V} (hC:∀i j,C i j→C' i j) (hg:∀i j F,Dt K ct F (g i j) (gv i j)):Op2 K ct n m k (rI C' gv) (i2c C g):=by
 intro F H x y d1 d2 d Q s l1 l2 e w
 cases d1 with
 | int i =>
  cases d2 with
  | int j =>
   unfold i2c at e
   dsimp only at e
   by_cases h:C i j
   ·rw [if_pos h] at e; cases e; exact ⟨i,j,l1.int,l2.int,hC i j h,w _ F H (.refl s) (Al.of (hg i j F))⟩
   ·rw [if_neg h] at e; cases e
  | _=>cases e
 | _=>cases e
def BIG:Nat:=2 ^ 9000
def HUGE:Nat:=2 ^ 100000
def subD:D→D→Option D:=i2 fun i j=>.int (i-j)
theorem zbd:Op2 K ct n m k (rI0 fun i j=>.int (i-j)) subD:=zlk fun _ _ _=>.int _
def mulOk (i j:Int):Prop:=(-18446744073709551616<i∧i<18446744073709551616)∨(-18446744073709551616<j∧j<18446744073709551616)∨(i.natAbs<HUGE∧j.natAbs<HUGE)
instance (i j:Int):Decidable (mulOk i j):=by unfold mulOk; infer_instance
def mulI:D→D→Option D:=i2c mulOk fun i j=>.int (i * j)
theorem mulOk.ok {i j:Int} (h:mulOk i j):CMulS i j:=by
 rcases h with h | h | h
 ·exact .inl (.inl ⟨by have:=h.1; omega,by have:=h.2; omega⟩)
 ·exact .inl (.inr ⟨by have:=h.1; omega,by have:=h.2; omega⟩)
 ·exact .inr h
theorem zoh:Op2 K ct n m k (rI CMulS fun i j=>.int (i * j)) mulI:=zha (fun _ _=>mulOk.ok) fun _ _ _=>.int _
def D.v:D→V
 | .bl b=>.bl b
 | .int i=>.int i
 | .str x=>.str x
 | _=>.non
theorem Dt.v {F:Hp} {d:D} {v:V} (h:Dt K ct F d v) (hs:d.sc=true):v=d.v:=by
 cases h <;> first | rfl | cases hs
theorem Al.v {F G:Hp} {d:D} {v:V} (h:Al K ct F G n d v) (hs:d.sc=true):v=d.v:=Dt.v (Al.scal (F':=F) h hs) hs
theorem D.flat {d:D} (hs:d.sc=true):flatV d.v=true:=by cases d <;> first | rfl | cases hs
theorem Pr.vs {F G:Hp}:∀{ds:List D} {vs:List V},Pr (Al K ct F G n) ds vs→ds.all D.sc=true→vs=ds.map D.v
 | _,_,.nil,_=>rfl
 | d::ds,v::vs,.cons h t,e=>by
  rw [List.all_cons,Bool.and_eq_true] at e
  rw [List.map_cons,Al.v h e.1,Pr.vs t e.2]
def fdivD:D→D→Option D
 | .int i,.int j=>if 0<j∧j<4611686018427387904 then some (.int (i / j)) else if j≠0∧j.natAbs<BIG then some (.int (i.fdiv j)) else none
 | _,_=>none
theorem xo:Op2 K ct n m k (rI (fun _ j=>j≠0∧Sz 9000 j) fun i j=>.int (i.fdiv j)) fdivD:=by
 intro F H x y d1 d2 d Q s l1 l2 e w
 cases d1 with
 | int i =>
  cases d2 with
  | int j =>
   unfold fdivD at e
   dsimp only at e
   by_cases h:0<j∧j<4611686018427387904
   ·rw [if_pos h] at e
    cases e
    refine ⟨i,j,l1.int,l2.int,⟨by omega,?_⟩,?_⟩
    ·have:Sz 62 j:=by unfold Sz; omega
     exact this.mono (by decide)
    ·show Q (.int (i.fdiv j)) H
     rw [Int.fdiv_eq_ediv_of_nonneg i (by omega)]
     exact w _ F H (.refl s) (Al.of (.int _))
   ·rw [if_neg h] at e
    by_cases h:j≠0∧j.natAbs<BIG
    ·rw [if_pos h] at e
     cases e
     exact ⟨i,j,l1.int,l2.int,h,w _ F H (.refl s) (Al.of (.int _))⟩
    ·rw [if_neg h] at e; cases e
  | _=>cases e
 | _=>cases e
def modD:D→D→Option D
 | .int i,.int j=>if 0<j then some (.int (i % j)) else if j≠0 then some (.int (i.fmod j)) else none
 | _,_=>none
theorem yn:Op2 K ct n m k (rI (fun _ j=>j≠0) fun i j=>.int (i.fmod j)) modD:=by
 intro F H x y d1 d2 d Q s l1 l2 e w
 cases d1 with
 | int i =>
  cases d2 with
  | int j =>
   unfold modD at e
   dsimp only at e
   by_cases h:0<j
   ·rw [if_pos h] at e
    cases e
    refine ⟨i,j,l1.int,l2.int,by omega,?_⟩
    show Q (.int (i.fmod j)) H
    rw [Int.fmod_eq_emod_of_nonneg i (by omega)]
    exact w _ F H (.refl s) (Al.of (.int _))
   ·rw [if_neg h] at e
    by_cases h:j≠0
    ·rw [if_pos h] at e
     cases e
     exact ⟨i,j,l1.int,l2.int,h,w _ F H (.refl s) (Al.of (.int _))⟩
    ·rw [if_neg h] at e; cases e
  | _=>cases e
 | _=>cases e
def powOk (i j:Int):Prop:=0≤j∧j≤1000000∧i.natAbs<18446744073709551616
instance (i j:Int):Decidable (powOk i j):=by unfold powOk; infer_instance
def powD:D→D→Option D:=i2c powOk fun i j=>.int (i ^ j.toNat)
theorem zjr:Op2 K ct n m k (rI CPow fun i j=>.int (i ^ j.toNat)) powD:=zha (fun _ _ h=>⟨h.1,h.2.1,by have:=h.2.2; omega⟩) fun _ _ _=>.int _
def shlD:D→D→Option D:=i2c powOk fun i j=>.int (i * 2 ^ j.toNat)
theorem zoi:Op2 K ct n m k (rI CPow fun i j=>.int (i * 2 ^ j.toNat)) shlD:=zha (fun _ _ h=>⟨h.1,h.2.1,by have:=h.2.2; omega⟩) fun _ _ _=>.int _
def shrD:D→D→Option D:=i2c (fun _ j=>0≤j) fun i j=>.int (i / 2 ^ j.toNat)
theorem zjs:Op2 K ct n m k (rI (fun _ j=>0≤j) fun i j=>.int (i / 2 ^ j.toNat)) shrD:=zha (fun _ _ h=>h) fun _ _ _=>.int _
def ltD:D→D→Option D:=i2 fun i j=>.bl (decide (i<j))
def gtD:D→D→Option D:=i2 fun i j=>.bl (decide (j<i))
def geD:D→D→Option D:=i2 fun i j=>.bl (decide (j≤i))
theorem za4:Op2 K ct n m k (rI0 fun i j=>.bl (decide (i<j))) ltD:=zlk fun _ _ _=>.bl _
theorem zbr:Op2 K ct n m k (rI0 fun i j=>.bl (decide (j<i))) gtD:=zlk fun _ _ _=>.bl _
theorem zjt:Op2 K ct n m k (rI0 fun i j=>.bl (decide (j≤i))) geD:=zlk fun _ _ _=>.bl _
def rLeS:R2:=fun x y H Q=>∃i j,x=.str i∧y=.str j∧Q (.bl (!(decide (j.cps.toList<i.cps.toList)))) H
theorem zq1 {X:Cx}:OpR X (compareOp .LtE) rLeS:=by
 intro pins s σ H x y v u Q I rx ry h
 obtain ⟨i,j,rfl,rfl,q⟩:=h
 obtain ⟨t,rfl⟩:=rx
 obtain ⟨t',rfl⟩:=ry
 exact PySem.P.le_str ⟨.bl _,H,I,rfl,q⟩
def leD:D→D→Option D
 | .int i,.int j=>some (.bl (decide (i≤j)))
 | .str i,.str j=>some (.bl (!(decide (j.cps.toList<i.cps.toList))))
 | _,_=>none
theorem zbe:Op2 K ct n m k (fun x y H Q=>rI0 (fun i j=>.bl (decide (i≤j))) x y H Q∨rLeS x y H Q) leD:=by
 intro F H x y d1 d2 d Q s l1 l2 e w
 cases d1 with
 | int i =>
  cases d2 with
  | int j=>cases e; exact .inl ⟨i,j,l1.int,l2.int,w _ F H (.refl s) (Al.of (.bl _))⟩
  | _=>cases e
 | str i =>
  cases d2 with
  | str j=>cases e; exact .inr ⟨i,j,l1.str,l2.str,w _ F H (.refl s) (Al.of (.bl _))⟩
  | _=>cases e
 | _=>cases e
theorem zc8 {X:Cx}:OpR X (compareOp .LtE) (fun x y H Q=>rI0 (fun i j=>.bl (decide (i≤j))) x y H Q∨rLeS x y H Q):=OpR.or zsb zq1
def D.isN:D→Bool
 | .non=>true
 | _=>false
def D.isB (b:Bool):D→Bool
 | .bl c=>c == b
 | _=>false
def isD (neg:Bool):D→D→Option D
 | d,.non=>some (.bl (if neg then !d.isN else d.isN))
 | d,.bl b=>some (.bl (if neg then !d.isB b else d.isB b))
 | _,_=>none
theorem Al.ref {F G:Hp} {d:D} {v:V} (h:Al K ct F G n d v) (hs:d.sc=false):∃a,v=.ref a:=by
 cases n with
 | zero=>cases (show Dt K ct F d v from h) <;> first | cases hs; done | exact ⟨_,rfl⟩
 | succ n=>rcases h with h | h <;> cases h <;> first | cases hs; done | exact ⟨_,rfl⟩
theorem Al.isn {F G:Hp} {d:D} {v:V} (h:Al K ct F G n d v):decide (v=.non)=d.isN:=by
 cases hs:d.sc with
 | true =>
  have:=Al.v h hs
  subst this
  cases d <;> first | rfl | cases hs
 | false =>
  obtain ⟨a,rfl⟩:=h.ref hs
  cases d <;> first | rfl | cases hs
theorem Al.isb {F G:Hp} {d:D} {v:V} {b:Bool} (h:Al K ct F G n d v):decide (v=.bl b)=d.isB b:=by
 cases hs:d.sc with
 | true =>
  have:=Al.v h hs
  subst this
  cases d <;> first | rfl | (cases hs; done) | (rename_i c; cases b <;> cases c <;> rfl)
 | false =>
  obtain ⟨a,rfl⟩:=h.ref hs
  cases d <;> first | rfl | cases hs
def rIs:R2:=fun x y H Q=>(y=.non∧Q (.bl (decide (x=.non))) H)∨∃b,y=.bl b∧Q (.bl (decide (x=.bl b))) H
theorem zsi {X:Cx}:OpR X (compareOp .Is) rIs:=OpR.or zqj zqv
theorem zq2:Op2 K ct n m k rIs (isD false):=by
 intro F H x y d1 d2 d Q s l1 l2 e w
 cases d2 with
 | non =>
  cases e
  refine .inl ⟨l2.non,?_⟩
  rw [l1.isn]
  exact w _ F H (.refl s) (Al.of (.bl _))
 | bl b =>
  cases e
  refine .inr ⟨b,l2.bl,?_⟩
  rw [l1.isb]
  exact w _ F H (.refl s) (Al.of (.bl _))
 | _=>cases e
mutual
def D.py:D→Option PyData
 | .non=>some .none
 | .bl b=>some (.bool b)
 | .int i=>some (.int i)
 | .str x=>some (.str x)
 | .lst xs=>(D.pys xs).bind fun ys=>some (.list ys)
 | .tup xs=>(D.pys xs).bind fun ys=>some (.tuple ys)
 | _=>none
def D.pys:List D→Option (List PyData)
 | []=>some []
 | d::ds=>(D.py d).bind fun x=>(D.pys ds).bind fun xs=>some (x::xs)
end
mutual
theorem Dt.toPy {F H:Hp} (s:Same F H):∀{d:D} {v:V} {e:PyData},Dt K ct F d v→d.py=some e→L2.Dt K H v e
 | _,_,_,.non,h=>by simp only [D.py] at h; cases h; exact .non
 | _,_,_,.bl b,h=>by simp only [D.py] at h; cases h; exact .bl b
 | _,_,_,.int b,h=>by simp only [D.py] at h; cases h; exact .int b
 | _,_,_,.str b,h=>by simp only [D.py] at h; cases h; exact .str b
 | _,_,_,.lst q t,h=>by
  simp only [D.py] at h
  obtain ⟨ys,h1,h2⟩:=bind1 h
  cases h2
  exact .lst (s.seq q) (Dts.toPy s t h1)
 | _,_,_,.tup q t,h=>by
  simp only [D.py] at h
  obtain ⟨ys,h1,h2⟩:=bind1 h
  cases h2
  exact .tup (SqT.of (s _ _ q)) (Dts.toPy s t h1)
 | _,_,_,.dK _ _ _,h=>by simp only [D.py] at h; cases h
 | _,_,_,.dT _ _ _,h=>by simp only [D.py] at h; cases h
 | _,_,_,.obj _ _ _,h=>by simp only [D.py] at h; cases h
theorem Dts.toPy {F H:Hp} (s:Same F H):∀{ds:List D} {vs:List V} {es:List PyData},Dts K ct F ds vs→D.pys ds=some es→L2.Dts K H vs es
 | _,_,_,.nil,h=>by simp only [D.pys] at h; cases h; exact .nil
 | _,_,_,.cons h t,e=>by
  simp only [D.pys] at e
  obtain ⟨y,ys,h1,h2,h3⟩:=bind2 e
  cases h3
  exact .cons (Dt.toPy s h h1) (Dts.toPy s t h2)
end
theorem Pr.toPy {H:Hp} {R:D→V→Prop} (f:∀d v e,R d v→d.py=some e→L2.Dt K H v e):∀{ds:List D} {vs:List V} {es:List PyData},Pr R ds vs→D.pys ds=some es→L2.Dts K H vs es
 | _,_,_,.nil,h=>by simp only [D.pys] at h; cases h; exact .nil
 | _,_,_,.cons h t,e=>by
  simp only [D.pys] at e
  obtain ⟨y,ys,h1,h2,h3⟩:=bind2 e
  cases h3
  exact .cons (f _ _ _ h h1) (Pr.toPy f t h2)
theorem Al.toPy {F H:Hp} (s:Same F H):∀{n:Nat} {d:D} {v:V} {e:PyData},Al K ct F H n d v→d.py=some e→L2.Dt K H v e
 | 0,_,_,_,h,q=>Dt.toPy s h q
 | n+1,_,_,_,.inl h,q=>Dt.toPy s h q
 | n+1,_,_,_,.inr (.lst h t),q=>by
  simp only [D.py] at q
  obtain ⟨ys,h1,h2⟩:=bind1 q
  cases h2
  exact .lst (SqL.of h) (Pr.toPy (fun _ _ _=>Al.toPy s) t h1)
 | n+1,_,_,_,.inr (.tup h t),q=>by
  simp only [D.py] at q
  obtain ⟨ys,h1,h2⟩:=bind1 q
  cases h2
  exact .tup (SqT.of (s _ _ h)) (Pr.toPy (fun _ _ _=>Al.toPy s) t h1)
 | n+1,_,_,_,.inr (.dK _ _ _),q=>by simp only [D.py] at q; cases q
 | n+1,_,_,_,.inr (.dT _ _ _),q=>by simp only [D.py] at q; cases q
 | n+1,_,_,_,.inr (.obj _ _ _),q=>by simp only [D.py] at q; cases q
def pyOk (a:PyData):Bool:=a.canLay0 && decide (a.depth≤60)
def eqD (neg:Bool) (x y:D):Option D:=x.py.bind fun a=>y.py.bind fun b=>if pyOk a=true∧pyOk b=true then some (.bl (if neg then !PyData.eqv a b else PyData.eqv a b)) else none
theorem w8 {neg:Bool}:Op2 K ct n m k (rEqD K neg) (eqD neg):=by
 intro F H x y d1 d2 d Q s l1 l2 e w
 obtain ⟨a,b,h1,h2,h3⟩:=bind2 e
 by_cases h:pyOk a=true∧pyOk b=true
 ·rw [if_pos h] at h3
  cases h3
  have o1:=h.1
  have o2:=h.2
  unfold pyOk at o1 o2
  rw [Bool.and_eq_true,decide_eq_true_iff] at o1 o2
  exact ⟨a,b,Al.toPy s l1 h1,Al.toPy s l2 h2,o1.1,o2.1,Nat.le_trans (Nat.min_le_left _ _) o1.2,w _ F H (.refl s) (Al.of (.bl _))⟩
 ·rw [if_neg h] at h3; cases h3
end
end L3
namespace L3
open PySem PySem.Spec L2
open PyProof.Rows hiding St
section
variable {K:PySem.W.Frag} {ct:Nat→Addr} {n m k:Nat} {X:Cx}
theorem Pr.atI {R:D→V→Prop} {ds:List D} {vs:List V} {i:Int} {d:D} (h:Pr R ds vs) (e:atI ds i=some d):∃v,atI vs i=some v∧R d v:=by
 unfold L2.atI at e ⊢
 rw [← h.length]
 obtain ⟨j,h1,h2⟩:=bind1 e
 obtain ⟨v,h3,h4⟩:=h.get' h2
 exact ⟨v,by rw [h1]; exact h3,h4⟩
def keyD:D→Option Key
 | .int i=>some (.inl i)
 | .str x=>some (.inr x)
 | _=>none
def keysD:List D→Option (List Key)
 | []=>some []
 | d::ds=>(keyD d).bind fun k=>(keysD ds).bind fun ks=>some (k::ks)
def getK {κ:Type} [DecidableEq κ] (ks:List κ) (ds:List D) (k:κ):Option D:=((ks.zip ds).find? fun p=>decide (p.1=k)).map (·.2)
def RO (R:D→V→Prop):Option D→Option V→Prop
 | some d,some u=>R d u
 | none,none=>True
 | _,_=>False
theorem RO.some_of {R:D→V→Prop} {d:D} {q:Option V} (h:RO R (some d) q):∃u,q=some u∧R d u:=by
 cases q with
 | none=>exact h.elim
 | some u=>exact ⟨u,rfl,h⟩
theorem RO.none_of {R:D→V→Prop} {q:Option V} (h:RO R none q):q=none:=by
 cases q with
 | none=>rfl
 | some u=>exact h.elim
theorem zdy {κ:Type} [DecidableEq κ] {R:D→V→Prop} {k:κ}:∀{ks:List κ} {ds:List D} {vs:List V},Pr R ds vs→RO R (getK ks ds k) (valV (ks.zip vs) k)
 | [],_,_,_=>by simp [getK,valV,RO]
 | _::_,_,_,.nil=>by simp [getK,valV,RO]
 | y::ks,d::ds,v::vs,.cons h t=>by
  by_cases e:y=k
  ·have h1:getK (y::ks) (d::ds) k=some d:=by simp [getK,List.find?_cons,e]
   have h2:valV ((y::ks).zip (v::vs)) k=some v:=by simp [valV,List.find?_cons,e]
   rw [h1,h2]
   exact h
  ·have h1:getK (y::ks) (d::ds) k=getK ks ds k:=by simp [getK,List.find?_cons,e]
   have h2:valV ((y::ks).zip (v::vs)) k=valV (ks.zip vs) k:=by simp [valV,List.find?_cons,e]
   rw [h1,h2]
   exact zdy t
theorem zhb {F G:Hp} {d:D} {v:V} {k:Key} (e:keyD d=some k) (h:Al K ct F G n d v):v=kV k:=by
 cases d with
 | int i=>cases e; exact h.int
 | str i=>cases e; exact h.str
 | _=>cases e
theorem zdz {F G:Hp}:∀{ds:List D} {vs:List V} {ks:List Key},keysD ds=some ks→Pr (Al K ct F G n) ds vs→vs=ks.map kV
 | [],_,_,e,.nil=>by cases e; rfl
 | d::ds,_,_,e,.cons h t=>by
  unfold keysD at e
  obtain ⟨k,ks,h1,h2,h3⟩:=bind2 e
  cases h3
  rw [zhb h1 h,zdz h2 t]; rfl
def dgetD (o y:D):Option (Option D):=match o with
 | .dK ks ds=>(keyD y).bind fun k=>some (getK ks ds k)
 | .dT ks ds=>(match y with | .tup ys=>(keysD ys).bind fun k=>some (getK ks ds k) | _=>none)
 | _=>none
theorem zgf {F G:Hp} {o y:D} {x v:V} (s:Same F G) (l1:Al K ct F G n o x) (l2:Al K ct F G m y v) {r:Option D} (e:dgetD o y=some r) :
  ∃a q,x=.ref a∧DGet G a v q∧IsD G a∧RO (Al K ct F G (n-1)) r q:=by
 cases o with
 | dK ks ds =>
  obtain ⟨a,vs,rfl,ha,hl,hp⟩:=l1.dK s
  obtain ⟨k,h1,h2⟩:=bind1 e
  cases h2
  have hv:=zhb h1 l2
  subst hv
  exact ⟨a,_,rfl,DGet.k ha,.inl ⟨_,.inl ha⟩,zdy hp⟩
 | dT ks ds =>
  obtain ⟨a,vs,rfl,ha,hl,hp⟩:=l1.dT s
  cases y with
  | tup ys =>
   obtain ⟨k,h1,h2⟩:=bind1 e
   cases h2
   obtain ⟨b,us,rfl,hb,hpb⟩:=l2.tup s
   have hv:=zdz h1 hpb
   subst hv
   exact ⟨a,_,rfl,DGet.t ha hb,.inr ⟨_,.inl ha⟩,zdy hp⟩
  | _=>cases e
 | _=>cases e
def ixD:D→D→Option D
 | .lst ds,.int i=>atI ds i
 | .tup ds,.int i=>atI ds i
 | .str x,.int i=>if x.length≤16777216 then (atI x.cps.toList i).bind fun c=>some (.str ⟨#[c]⟩) else none
 | _,_=>none
theorem zq:Op2 K ct n m (n-1) (rIx K) ixD:=by
 intro F H x y d1 d2 d Q s l1 l2 e w
 cases d1 with
 | lst ds =>
  cases d2 with
  | int i =>
   obtain ⟨a,vs,rfl,ha,hp⟩:=l1.lst s
   obtain ⟨v,h1,h2⟩:=hp.atI e
   exact .inl ⟨a,vs,i,v,rfl,l2.int,ha,h1,w v F H (.refl s) h2⟩
  | _=>cases e
 | tup ds =>
  cases d2 with
  | int i =>
   obtain ⟨a,vs,rfl,ha,hp⟩:=l1.tup s
   obtain ⟨v,h1,h2⟩:=hp.atI e
   exact .inr (.inl ⟨a,vs,i,v,rfl,l2.int,SqT.of ha,h1,w v F H (.refl s) h2⟩)
  | _=>cases e
 | str z =>
  cases d2 with
  | int i =>
   unfold ixD at e
   dsimp only at e
   by_cases h:z.length≤16777216
   ·rw [if_pos h] at e
    obtain ⟨c,h1,h2⟩:=bind1 e
    cases h2
    exact .inr (.inr ⟨z,i,c,l1.str,l2.int,by rw [sizeLine_eq]; exact h,h1,w _ F H (.refl s) (Al.of (.str _))⟩)
   ·rw [if_neg h] at e; cases e
  | _=>cases e
 | _=>cases e
theorem zhc {ms:List Mo} {a b:Expr} {f g:EF} {pos:Pos} (hu:X.A.units+1<cLine) (ha:XE X ct ms n a f) (hb:XE X ct ms m b g) (hs:NoSl b):XE X ct ms (n-1) (.Subscript a b pos) (fun ρ=>(f ρ).bind fun x=>(g ρ).bind fun y=>(dgetD x y).join):=by
 obtain ⟨ta,tb,pa,pb,q⟩:=ha.bin hb
 refine ⟨_,zn9 hu pa pb hs,fun F0 B F H ρ σ d Q rs e w=>?_⟩
 obtain ⟨d1,d2,h1,h2,h3⟩:=bind2 e
 refine q F0 B F H ρ σ d1 d2 _ rs h1 h2 fun x y F' H' x1 l1 l2=>?_
 obtain ⟨a,o,rfl,g,_,h⟩:=zgf (r:=some d) x1.fh l1 l2 (yc h3)
 obtain ⟨u,rfl,hu'⟩:=h.some_of
 exact ⟨a,u,rfl,g,w u F' H' x1 hu'⟩
def eqS:D→D→Bool
 | .non,.non=>true
 | .bl a,.bl b=>a == b
 | .bl a,.int b=>(if a then 1 else 0) == b
 | .int a,.bl b=>a == (if b then 1 else 0)
 | .int a,.int b=>a == b
 | .str a,.str b=>a == b
 | _,_=>false
theorem zq3 {x y:D} (hx:x.sc=true) (hy:y.sc=true):eqV x.v y.v=eqS x y:=by
 cases x <;> first | cases hx; done | (cases y <;> first | cases hy; done | rfl)
def inS (x:D) (ds:List D):Bool:=ds.any fun y=>eqS y x
theorem zsj {x:D} (hx:x.sc=true):∀{ds:List D},ds.all D.sc=true→inV x.v (ds.map D.v)=inS x ds
 | [],_=>rfl
 | d::ds,h=>by
  rw [List.all_cons,Bool.and_eq_true] at h
  have ih:=zsj hx h.2
  unfold inV inS at ih ⊢
  rw [List.map_cons,List.any_cons,List.any_cons,ih,zq3 h.1 hx]
theorem zhd:∀{ds:List D},ds.all D.sc=true→(ds.map D.v).all flatV=true
 | [],_=>rfl
 | d::ds,h=>by
  rw [List.all_cons,Bool.and_eq_true] at h
  rw [List.map_cons,List.all_cons,D.flat h.1,zhd h.2]; rfl
def lenD:List D→Option D
 | [.lst ds]=>some (.int ds.length)
 | [.tup ds]=>some (.int ds.length)
 | [.dK ks _]=>some (.int ks.length)
 | [.str x]=>if x.length≤16777216 then some (.int x.length) else none
 | _=>none
def rLen (K:PySem.W.Frag):List V→Hp→VK→Prop:=fun xs H Q=>(∃p ys,xs=[.ref p]∧(SqL K H p ys∨SqT K H p ys)∧Q (.int ys.length) H)∨(∃z,xs=[.str z]∧z.length≤sizeLine∧Q (.int z.length) H)∨∃a kvs,xs=[V.ref a]∧H a=some (.dK kvs)∧Q (.int kvs.length) H
theorem ye:CallR X (.builtin "len") (rLen X.K):=zez.or (ze0.or zji)
theorem xt:OpN K ct [n] k (rLen K) lenD:=by
 intro F H vs ds d Q s l e w
 cases l with
 | cons h t =>
  cases t
  rename_i d1 v
  cases d1 with
  | lst xs =>
   cases e
   obtain ⟨a,us,rfl,ha,hp⟩:=h.lst s
   refine .inl ⟨a,us,rfl,.inl ha,?_⟩
   rw [← hp.length]
   exact w _ F H (.refl s) (Al.of (.int _))
  | tup xs =>
   cases e
   obtain ⟨a,us,rfl,ha,hp⟩:=h.tup s
   refine .inl ⟨a,us,rfl,.inr (SqT.of ha),?_⟩
   rw [← hp.length]
   exact w _ F H (.refl s) (Al.of (.int _))
  | str x =>
   unfold lenD at e
   dsimp only at e
   by_cases hz:x.length≤16777216
   ·rw [if_pos hz] at e
    cases e
    exact .inr (.inl ⟨x,by rw [h.str],by rw [sizeLine_eq]; exact hz,w _ F H (.refl s) (Al.of (.int _))⟩)
   ·rw [if_neg hz] at e; cases e
  | dK ks xs =>
   cases e
   obtain ⟨a,us,rfl,ha,hl,hp⟩:=h.dK s
   refine .inr (.inr ⟨a,_,rfl,ha,?_⟩)
   rw [List.length_zip,← hl,Nat.min_self]
   exact w _ F H (.refl s) (Al.of (.int _))
  | _=>cases e
end
end L3
namespace L3
open PySem PySem.Spec L2
open PyProof.Rows hiding St
section
variable {ct:Nat→Addr} {K:PySem.W.Frag}
theorem zsk {ι:Type} {Xs:ι→Cx} {ms:List Mo} {n:Nat} {e:Expr} {f:EF} (hK:∀i,(Xs i).K=K) (h:∀i,XO (Xs i) ct ms n e f):∃t,(∀i,PE (Xs i) e t)∧∀(F0 B F H:Hp) (ρ:Env) (σ:St) (d:D) (Q:VK),RS K ct F0 B ms F H ρ σ→f ρ=some d →
  (∀v F' H' fp,Ext F H F' H'→Ow K ct F' H' n d v fp→fp.Nodup→(∀a∈fp,H a=none)→Q v H')→t σ H Q:=by
 refine ⟨fun σ H Q=>∀i,(h i).choose σ H Q,fun i pins s σ H Q I q=>(h i).choose_spec.1 pins s σ H Q I (q i),fun F0 B F H ρ σ d Q rs e w i=>?_⟩
 exact (h i).choose_spec.2 F0 B F H ρ σ d Q (by rw [hK i]; exact rs) e fun v F' H' fp x l=>w v F' H' fp x (by rw [← hK i]; exact l)
def XTs (X:Cx) (ct:Nat→Addr) (ms:List Mo) (ifs:List Expr) (f:BF):Prop:=∃t,PTs X ifs t∧∀(F0 B F H:Hp) (ρ:Env) (σ:St) (b:Bool) (Q:Bool→Hp→Prop),RS X.K ct F0 B ms F H ρ σ→f ρ=some b→(∀F' H',Ext F H F' H'→Q b H')→t σ H Q
def bTrue:BF:=fun _=>some true
theorem vm {X:Cx} {ms:List Mo}:XTs X ct ms [] bTrue:=⟨_,zod,fun F0 B F H ρ σ b Q rs e w=>by cases e; exact w F H (.refl rs.fh)⟩
theorem zgg {X:Cx} {ms:List Mo} {c:Expr} {p:BF} (h:XT X ct ms c p):XTs X ct ms [c] p:=by
 obtain ⟨t,pt,qt⟩:=h
 exact ⟨t,zoe pt,qt⟩
theorem zsl {ι:Type} {Xs:ι→Cx} {ms:List Mo} {ifs:List Expr} {f:BF} (hK:∀i,(Xs i).K=K) (h:∀i,XTs (Xs i) ct ms ifs f):∃t,(∀i,PTs (Xs i) ifs t)∧∀(F0 B F H:Hp) (ρ:Env) (σ:St) (b:Bool) (Q:Bool→Hp→Prop),RS K ct F0 B ms F H ρ σ→f ρ=some b →
  (∀F' H',Ext F H F' H'→Q b H')→t σ H Q:=by
 refine ⟨fun σ H Q=>∀i,(h i).choose σ H Q,fun i pins s σ H Q I q=>(h i).choose_spec.1 pins s σ H Q I (q i),fun F0 B F H ρ σ d Q rs e w i=>?_⟩
 exact (h i).choose_spec.2 F0 B F H ρ σ d Q (by rw [hK i]; exact rs) e w
def monoG {α:Type} (g:α→St→Hp→(St→Hp→Prop)→Prop):Prop:=∀v σ H Q Q',(∀σ' H',Q σ' H'→Q' σ' H')→g v σ H Q→g v σ H Q'
def XGc (X:Cx) (ct:Nat→Addr) (ms:List Mo) (own n:Nat) (tg:Expr) (g:D→Env→Option Env):Prop:=∃t,PG X tg t∧keepsCaps own t∧monoG t∧∀(F0 B F H:Hp) (ρ ρ':Env) (σ:St) (d:D) (v:V) (Q:St→Hp→Prop),RS X.K ct F0 B ms F H ρ σ→Al X.K ct F B n d v→g d ρ=some ρ' →
 (∀σ',RS X.K ct F0 B ms F H ρ' σ'→Q σ' H)→t v σ H Q
theorem zsm {ι:Type} {Xs:ι→Cx} {ms:List Mo} {own n:Nat} {tg:Expr} {g:D→Env→Option Env} (hK:∀i,(Xs i).K=K) (h:∀i,XGc (Xs i) ct ms own n tg g):∃t,(∀i,PG (Xs i) tg t)∧keepsCaps own t∧∀(F0 B F H:Hp) (ρ ρ':Env) (σ:St) (d:D) (v:V) (Q:St→Hp→Prop),RS K ct F0 B ms F H ρ σ→Al K ct F B n d v→g d ρ=some ρ' →
  (∀σ',RS K ct F0 B ms F H ρ' σ'→Q σ' H)→t v σ H Q:=by
 refine ⟨fun v σ H Q=>∀i,(h i).choose v σ H Q,fun i pins s σ H v u Q I r q=>(h i).choose_spec.1 pins s σ H v u Q I r (q i),fun v σ H Q q i=>(h i).choose_spec.2.1 v σ H Q (q i),fun F0 B F H ρ ρ' σ d v Q rs l e w i=>?_⟩
 exact (h i).choose_spec.2.2.2 F0 B F H ρ ρ' σ d v Q (by rw [hK i]; exact rs) (by rw [hK i]; exact l) e fun σ' r=>w σ' (by rw [← hK i]; exact r)
theorem we {X:Cx} {ms:List Mo} {own i:Nat} {x:Str} {pos:Pos} (ho:i<own) (hm:ms[i]?=some (.ow 0)) (hN:X.N.Nodup) (hi:X.N[i]?=some x) (hx:Loc X.env.scope x)
  (hf:X.fn x=true∨X.env.scope.names.lookup x=some .local:=by first | exact .inl rfl | exact .inr rfl | assumption):XGc X ct ms own 0 (.Name x pos) (gV i):=by
 refine ⟨_,zi0 hN hi hx hf,zij i own ho,fun v σ H Q Q' m q=>m _ _ q,fun F0 B F H ρ ρ' σ d v Q rs l e w=>?_⟩
 cases e
 exact w _ (rs.set hm (.refl rs.fh) (Ow.zero l) List.nodup_nil fun a z=>(by cases z))
def capsD (ρ:Env) (cap:List Nat):Env:=cap.map fun i=>(ρ[i]?).join
def capsM (ms:List Mo) (cap:List Nat):List Mo:=cap.map fun i=>.al (((ms[i]?).map Mo.lv).getD 0)
def compD (g:D→Env→Option Env) (p:BF) (f:EF) (ρ0:Env):List D→Option (List D)
 | []=>some []
 | d::ds=>(g d ρ0).bind fun ρ1=>(p ρ1).bind fun b=>if b=true then (f ρ1).bind fun y=>(compD g p f ρ0 ds).bind fun ys=>some (y::ys) else compD g p f ρ0 ds
def eComp (fi:Env→Option (List D)) (own:Nat) (cap:List Nat) (g:D→Env→Option Env) (p:BF) (f:EF):EF:=fun ρ=>(fi ρ).bind fun ds=>if ds.length≤16777216 then (compD g p f (List.replicate own none++capsD ρ cap) ds).bind fun ys=>some (.lst ys) else none
theorem SL.caps {F B H:Hp} {ms:List Mo} {ρ:Env} {σ:St} (rs:RS K ct F0 B ms F H ρ σ):∀{cap:List Nat},(∀i∈cap,i<ms.length)→SL K ct F H H (capsM ms cap) (capsD ρ cap) (capsOf σ cap) []
 | [],_=>.nil
 | i::cap,h=>by
  have ih:=SL.caps rs (cap:=cap) fun j hj=>h j (List.mem_cons_of_mem _ hj)
  have hi:i<ms.length:=h i List.mem_cons_self
  have hm:ms[i]?=some ms[i]:=by simp [hi]
  show SL K ct F H H (.al (((ms[i]?).map Mo.lv).getD 0)::capsM ms cap) ((ρ[i]?).join::capsD ρ cap) ((σ[i]?).join::capsOf σ cap) []
  cases e:(ρ[i]?).join with
  | none=>exact .no ih
  | some d =>
   obtain ⟨v,hv,l⟩:=rs.get hm (yc e)
   rw [hv,hm]
   exact .al l ih
theorem SL.nones {F B H:Hp} {ms ms':List Mo} {ρ:Env} {σ:St} {fp:List Addr} (t:SL K ct F B H ms ρ σ fp):∀{om:List Mo},SL K ct F B H (om++ms) (List.replicate om.length none ++ ρ) (List.replicate om.length none ++ σ) fp
 | []=>t
 | m::om=>.no (SL.nones (ms':=ms') t)
theorem zhe {X:Cx} {ms om:List Mo} {n k:Nat} {elt iter tg:Expr} {ifs:List Expr} {scope:Scope} {pos:Pos} {N:List Str} {own:Nat} {cap:List Nat} {fi:Env→Option (List D)} {gg:D→Env→Option Env} {p:BF} {f:EF}
  (B:BlkOk X scope N own cap) (hc:X.calm=true) (ho:om.length=own) (hcap:∀i∈cap,i<ms.length) (hi:XIc X ct ms n tg iter fi)
  (hg:∀cl C fp s₀ H₀,XGc (cxB X scope cl N C fp s₀ H₀) ct (om++capsM ms cap) own n tg gg) (ht:∀cl C fp s₀ H₀,XTs (cxB X scope cl N C fp s₀ H₀) ct (om++capsM ms cap) ifs p) (he:∀cl C fp s₀ H₀,XO (cxB X scope cl N C fp s₀ H₀) ct (om++capsM ms cap) k elt f)
  :
  ∃wi g tt te,PI X tg iter wi∧keepsCaps own g∧(∀cl C fp s₀ H₀,PG (cxB X scope cl N C fp s₀ H₀) tg g)∧(∀cl C fp s₀ H₀,PTs (cxB X scope cl N C fp s₀ H₀) ifs tt)∧(∀cl C fp s₀ H₀,PE (cxB X scope cl N C fp s₀ H₀) elt te) ∧
   ∀(F0 B F H:Hp) (ρ:Env) (σ:St) (d:D) (Q:VK),RS X.K ct F0 B ms F H ρ σ→eComp fi own cap gg p f ρ=some d→(∀v F' H' fp,Ext F H F' H'→Ow X.K ct F' H' (k+1) d v fp→fp.Nodup→(∀a∈fp,H a=none)→Q v H')→tComp wi own cap g tt te σ H Q:=by
 obtain ⟨wi,pi,qi⟩:=hi
 obtain ⟨tg',pg,kg,qg⟩:=zsm (K:=X.K) (Xs:=fun z:List (Str×Addr)×Addr×List Addr×Shared×Hp=>cxB X scope z.1 N z.2.1 z.2.2.1 z.2.2.2.1 z.2.2.2.2) (fun _=>rfl) (fun z=>hg z.1 z.2.1 z.2.2.1 z.2.2.2.1 z.2.2.2.2)
 obtain ⟨tt,pt,qt⟩:=zsl (K:=X.K) (Xs:=fun z:List (Str×Addr)×Addr×List Addr×Shared×Hp=>cxB X scope z.1 N z.2.1 z.2.2.1 z.2.2.2.1 z.2.2.2.2) (fun _=>rfl) (fun z=>ht z.1 z.2.1 z.2.2.1 z.2.2.2.1 z.2.2.2.2)
 obtain ⟨te,pe,qe⟩:=zsk (K:=X.K) (Xs:=fun z:List (Str×Addr)×Addr×List Addr×Shared×Hp=>cxB X scope z.1 N z.2.1 z.2.2.1 z.2.2.2.1 z.2.2.2.2) (fun _=>rfl) (fun z=>he z.1 z.2.1 z.2.2.1 z.2.2.2.1 z.2.2.2.2)
 refine ⟨wi,tg',tt,te,pi,kg,(fun cl C fp s₀ H₀=>pg (cl,C,fp,s₀,H₀)),(fun cl C fp s₀ H₀=>pt (cl,C,fp,s₀,H₀)),(fun cl C fp s₀ H₀=>pe (cl,C,fp,s₀,H₀)),fun F0 B F H ρ σ r Q rs e w=>?_⟩
 obtain ⟨ds,h1,h2⟩:=bind1 e
 by_cases hz:ds.length≤16777216
 case neg=>rw [if_neg hz] at h2; cases h2
 rw [if_pos hz] at h2
 obtain ⟨ys,h3,h4⟩:=bind1 h2
 cases h4
 refine qi F0 B F H ρ σ ds _ rs h1 fun J F1 H1 x1 ok A hA=>?_
 have rs1:=rs.ext x1
 refine ⟨fun i m us H2=>m=ds.length-i∧i≤ds.length∧us.length≤i∧H2 A=some (.lst us)∧∃F2 yd zd fp,Ext F1 H1 F2 H2∧F2 A=none∧OwL (Ow X.K ct F2 H2 k) yd us fp∧fp.Nodup∧(∀a∈fp,H1 a=none∧a≠A)∧compD gg p f (List.replicate own none++capsD ρ cap) (ds.drop i)=some zd∧yd++zd=ys,
  ⟨ds.length,rfl,Nat.zero_le _,Nat.le_refl _,yo,F1,[],ys,[],Ext.newO x1.fh hA _,x1.fh.free hA,.nil,List.nodup_nil,fun a z=>(by cases z),h3,rfl⟩,?_⟩
 rintro i m us H2 ⟨rfl,hil,hul,hA2,F2,yd,zd,fp,x2,fA,ol,nd,hf,hcd,hys⟩
 refine ⟨hA2,?_⟩
 have rs2:=rs1.ext x2
 obtain ⟨k1,k2⟩:=ok i F2 H2 x2.ff x2.hh x2.fh
 by_cases hlt:i<ds.length
 ·right
  have hd:ds[i]?=some ds[i]:=by simp [hlt]
  obtain ⟨go,yl⟩:=k1 _ hd
  rw [List.drop_eq_getElem_cons hlt] at hcd
  obtain ⟨ρ1,h5,h6⟩:=bind1 hcd
  obtain ⟨b,h7,h8⟩:=bind1 h6
  refine ⟨go,by rw [sizeLine_eq]; omega,fun x H3 y=>?_⟩
  obtain ⟨F3,x3,l⟩:=yl x H3 y
  have rs3:=rs2.ext x3
  have sl:=SL.nones (ms':=[]) (SL.caps rs3 hcap) (om:=om)
  rw [ho] at sl
  have rsI:RS X.K ct F3 H3 (om++capsM ms cap) F3 H3 (List.replicate own none++capsD ρ cap) (List.replicate own none++capsOf σ cap):=⟨.refl _,.refl _,x3.fh,fun _ _ _ h=>h,[],sl,List.nodup_nil,fun a z=>(by cases z)⟩
  have A3:H3 A=some (.lst us):=x3.hh _ _ hA2
  have fA3:F3 A=none:=x3.nf A _ hA2 fA
  refine qg F3 H3 F3 H3 _ ρ1 _ _ x _ rsI (l.mono (.refl _) (x2.trans x3).hh) h5 fun σ1 r1=>?_
  refine qt F3 H3 F3 H3 ρ1 σ1 b _ r1 h7 fun F4 H4 x4=>?_
  cases b with
  | false =>
   rw [if_neg Bool.false_ne_true] at h8 ⊢
   have x24:=x3.trans x4
   refine ⟨ds.length-(i+1),by omega,rfl,hlt,by omega,x4.hh _ _ A3,F4,yd,zd,fp,x2.trans x24,x4.nf A _ A3 fA3,ol.mono fun _ _ _ _ o=>o.ext x24,nd,hf,h8,hys⟩
  | true =>
   rw [if_pos rfl] at h8 ⊢
   obtain ⟨yv,h9,h10⟩:=bind1 h8
   obtain ⟨zs,h11,h12⟩:=bind1 h10
   cases h12
   refine qe F3 H3 F4 H4 ρ1 σ1 yv _ (r1.ext x4) h9 fun v F5 H5 f5 x5 o5 n5 hf5=>?_
   have x25:=(x3.trans x4).trans x5
   have x45:=x4.trans x5
   have A5:H5 A=some (.lst us):=x45.hh _ _ A3
   have fA5:F5 A=none:=x45.nf A _ A3 fA3
   have A4:H4 A=some (.lst us):=x4.hh _ _ A3
   have hA5:∀a∈f5,a≠A:=fun a z e=>by rw [e] at z; rw [hf5 A z] at A4; cases A4
   refine ⟨A5,ds.length-(i+1),by omega,rfl,hlt,by rw [List.length_append,List.length_singleton]; omega,yo,F5,yd++[yv],zs,fp++(f5++[]),?_,fA5,?_,?_,?_,h11,by rw [List.append_assoc]; exact hys⟩
   ·have x15:=x2.trans x25
    refine ⟨x15.ff,fun a o h=>?_,fun a o h=>?_,x15.nf⟩
    ·rw [yh (xp h hA)]; exact x15.hh _ _ h
    ·rw [yh (fun z=>by rw [z] at h; rw [fA5] at h; cases h)]; exact x15.fh _ _ h
   ·refine (ol.mono fun _ _ f hfi o=>?_).append (.cons ?_ .nil)
    ·refine (o.ext x25).frame (.refl _) fun a z=>⟨yh (hf a (hfi a z)).2,((o.ext x25).cells a z).1⟩
    ·exact o5.frame (.refl _) fun a z=>⟨yh (hA5 a z),(o5.cells a z).1⟩
   ·rw [List.append_nil]
    refine List.nodup_append.mpr ⟨nd,n5,fun a z c hc e=>?_⟩
    subst e
    have:∃o,H2 a=some o:=(OwL.cellsOf ol a z).2
    obtain ⟨o,ho⟩:=this
    have:=x4.hh _ _ (x3.hh _ _ ho)
    rw [hf5 a hc] at this
    cases this
   ·intro a z
    rw [List.append_nil] at z
    rcases List.mem_append.mp z with z | z
    ·exact hf a z
    ·refine ⟨?_,hA5 a z⟩
     have x14:=x2.trans (x3.trans x4)
     exact x14.hh.free (hf5 a z)
 ·left
  refine ⟨k2 (by omega),?_⟩
  have:ds.drop i=[]:=List.drop_eq_nil_of_le (by omega)
  rw [this] at hcd
  cases hcd
  rw [List.append_nil] at hys
  subst hys
  refine w _ F2 H2 (A::fp) (x1.trans x2) (.inr (.lst fA hA2 ol)) (List.nodup_cons.mpr ⟨fun z=>(hf A z).2 rfl,nd⟩) fun a z=>?_
  rcases List.mem_cons.mp z with rfl | z
  ·exact x1.hh.free hA
  ·exact x1.hh.free (hf a z).1
theorem jv {X:Cx} {ms om:List Mo} {n k:Nat} {elt iter tg:Expr} {ifs:List Expr} {scope:Scope} {pos:Pos} {N:List Str} {own:Nat} {cap:List Nat} {fi:Env→Option (List D)} {gg:D→Env→Option Env} {p:BF} {f:EF}
  (B:BlkOk X scope N own cap) (hc:X.calm=true) (ho:om.length=own) (hcap:∀i∈cap,i<ms.length) (hi:XIc X ct ms n tg iter fi)
  (hg:∀cl C fp s₀ H₀,XGc (cxB X scope cl N C fp s₀ H₀) ct (om++capsM ms cap) own n tg gg) (ht:∀cl C fp s₀ H₀,XTs (cxB X scope cl N C fp s₀ H₀) ct (om++capsM ms cap) ifs p) (he:∀cl C fp s₀ H₀,XO (cxB X scope cl N C fp s₀ H₀) ct (om++capsM ms cap) k elt f)
  (hs:∀x,foldedSetIterable iter X.env x=pure x:=by intro _; rfl):XO X ct ms (k+1) (.ListComp elt [⟨tg,iter,ifs,0⟩] scope pos) (eComp fi own cap gg p f):=by
 obtain ⟨wi,g,tt,te,pi,kg,pg,pt,pe,q⟩:=zhe (k:=k) (pos:=pos) B hc ho hcap hi hg ht he
 exact ⟨_,zof B hc pi kg pg pt pe hs,q⟩
end
end L3
namespace L3
open PySem PySem.Spec L2
open PyProof.Rows hiding St
section
variable {X:Cx} {ct:Nat→Addr} {ms:List Mo} {rk n m k:Nat} {st:Stmt} {rest:List Stmt} {a b c e tg:Expr} {f g h:EF} {p q:BF} {u w:SF} {pos:Pos}
def asL:D→Option (List D)
 | .lst ds=>some ds
 | _=>none
theorem zhf {d:D} {ds:List D} (h:asL d=some ds):d=.lst ds:=by cases d <;> simp [asL] at h; subst h; rfl
def lsD (f:EF):Env→Option (List D):=fun ρ=>(f ρ).bind asL
theorem znd {K:PySem.W.Frag} {F B G:Hp} {a:Addr} {vs:List V} {ds:List D} (hp:Pr (Al K ct F B n) ds vs) (keep:∀F' H',Same F F'→Same B H'→Same F' H'→SqL K H' a vs):ItOk K ct F B n (Itl K a) ds:=by
 intro i F' H' s1 s2 s3
 have hs:SqL K H' a vs:=keep F' H' s1 s2 s3
 refine ⟨fun d hd=>?_,fun hl=>⟨vs,hs,by rw [← hp.length]; exact hl⟩⟩
 obtain ⟨v,hv,l⟩:=hp.get' hd
 refine ⟨⟨vs,v,hs,hv⟩,fun x H2 y=>?_⟩
 obtain ⟨e,y⟩:=y
 subst e
 have:=y vs hs
 rw [hv] at this
 cases this
 exact ⟨F',.refl s3,l.mono s1 (.refl _)⟩
theorem Dt.lst_inv {K:PySem.W.Frag} {F:Hp} {ds:List D} {v:V} (h:Dt K ct F (.lst ds) v):∃a vs,v=.ref a∧SqL K F a vs∧Dts K ct F ds vs:=by
 cases h with
 | lst q t=>exact ⟨_,_,rfl,q,t⟩
theorem zal (he:XE X ct ms 0 e f):XI X ct ms 0 tg e (lsD f):=by
 obtain ⟨t,pt,qt⟩:=he
 refine ⟨_,zi3 pt,fun F0 B F H ρ σ ds R rs e w=>?_⟩
 obtain ⟨d,h1,h2⟩:=bind1 e
 rw [zhf h2] at h1
 refine qt F0 B F H ρ σ _ _ rs h1 fun v F' H' x l=>?_
 obtain ⟨a,vs,rfl,ha,hp⟩:=Dt.lst_inv l
 exact ⟨a,rfl,⟨vs,x.fh.seq ha⟩,w _ F' H' x (znd (G:=H') (n:=0) (hp.pr) fun F2 H2 s1 s2 s3=>s3.seq (s1.seq ha))⟩
theorem vo (he:XE X ct ms n e f):XIc X ct ms (n-1) tg e (lsD f):=by
 obtain ⟨t,pt,qt⟩:=he
 refine ⟨_,zi3 pt,fun F0 B F H ρ σ ds R rs e w=>?_⟩
 obtain ⟨d,h1,h2⟩:=bind1 e
 rw [zhf h2] at h1
 refine qt F0 B F H ρ σ _ _ rs h1 fun v F' H' x l=>?_
 obtain ⟨a,vs,rfl,ha,hp⟩:=l.lst x.fh
 exact ⟨a,rfl,⟨vs,ha⟩,w _ F' H' x (znd (G:=H') hp fun F2 H2 s1 s2 s3=>s2.seq ha)⟩
theorem XI.cc {fi:Env→Option (List D)} (h:XI X ct ms n tg e fi):XIc X ct ms n tg e fi:=by
 obtain ⟨t,pt,qt⟩:=h
 refine ⟨t,pt,fun F0 B F H ρ σ ds R rs e w=>qt F0 B F H ρ σ ds R rs e fun J F' H' x ok=>w J F' H' x fun i F2 H2 s1 s2 s3=>?_⟩
 obtain ⟨k1,k2⟩:=ok i F2 H2 s1 ((rs.ext x).bh.trans s2) s3
 refine ⟨fun d hd=>?_,k2⟩
 obtain ⟨go,yl⟩:=k1 d hd
 refine ⟨go,fun v H3 y=>?_⟩
 obtain ⟨F3,x3,l⟩:=yl v H3 y
 exact ⟨F3,x3,l.mono (.refl _) (rs.ext x).bh⟩
def upto (lo:Int) (j:Nat):List D:=(List.range j).map fun (t:Nat)=>.int (lo+(t:Int))
def rng1:List D→Option (List D)
 | [.int j]=>if -4611686018427387904≤j∧j<4611686018427387904 then some (upto 0 j.toNat) else none
 | _=>none
theorem zq4 {K:PySem.W.Frag} {F B:Hp} {lo:Int} {j:Nat}:ItOk K ct F B n (Itr lo j) (upto lo j):=by
 intro i F' H' s1 s2 s3
 unfold upto
 refine ⟨fun d hd=>?_,fun hl=>(show j≤i by simpa using hl)⟩
 rw [List.getElem?_map] at hd
 by_cases h:i<j
 ·rw [List.getElem?_range h] at hd
  cases hd
  refine ⟨h,fun x H2 y=>?_⟩
  obtain ⟨e,y⟩:=y
  subst e
  subst y
  exact ⟨F',.refl s3,Al.of (.int _)⟩
 ·rw [List.getElem?_eq_none (by simpa using h)] at hd
  cases hd
theorem ua {fs:Env→Option (List D)} {pp:Pos} (hm:X.mg "range"=none) (ha:XA X ct ms [a] [m] fs) (hg:Gl X "range":=by rfl) (hs:starEach [a] X.env=[(false,eval a X.env)]:=by rfl):XI X ct ms n tg (.Call (.Name "range" pp) [a] [] pos) (fun ρ=>(fs ρ).bind rng1):=by
 obtain ⟨t,pt,_,qt⟩:=ha
 refine ⟨_,zi4 hg hm pt hs,fun F0 B F H ρ σ ds R rs e w=>?_⟩
 obtain ⟨ds',h1,h2⟩:=bind1 e
 refine qt F0 B F H ρ σ _ _ rs h1 fun vs F' H' x l=>?_
 cases l with
 | cons h t =>
  cases t
  rename_i d v
  cases d with
  | int j =>
   unfold rng1 at h2
   dsimp only at h2
   by_cases hj:-4611686018427387904≤j∧j<4611686018427387904
   ·rw [if_pos hj] at h2
    cases h2
    exact ⟨j,by rw [h.int],by omega,by omega,w _ F' H' x zq4⟩
   ·rw [if_neg hj] at h2; cases h2
  | _=>cases h2
def enumD (i:Nat):List D→List D
 | []=>[]
 | d::ds=>.tup [.int i,d]::enumD (i+1) ds
theorem zce:∀{ds:List D} {j i:Nat} {d:D},(enumD j ds)[i]?=some d→∃x,ds[i]?=some x∧d=.tup [.int (j+i:Nat),x]
 | [],_,_,_,h=>by simp [enumD] at h
 | x::ds,j,0,d,h=>by simp [enumD] at h; subst h; exact ⟨x,rfl,rfl⟩
 | x::ds,j,i+1,d,h=>by
  obtain ⟨y,h1,h2⟩:=zce (ds:=ds) (j:=j+1) (i:=i) (d:=d) (by simpa [enumD] using h)
  exact ⟨y,by simpa using h1,by rw [h2,Nat.add_assoc,Nat.add_comm 1 i]⟩
theorem zfc:∀{ds:List D} {j:Nat},(enumD j ds).length=ds.length
 | [],_=>rfl
 | _::ds,j=>by simp [enumD,zfc (ds:=ds)]
theorem zq5 {K:PySem.W.Frag} {F B:Hp} {a:Addr} {vs:List V} {ds:List D} (hp:Pr (Al K ct F B n) ds vs) (keep:∀F' H',Same F F'→Same B H'→Same F' H'→SqL K H' a vs):ItOk K ct F B (n+1) (Ite K a) (enumD 0 ds):=by
 intro i F' H' s1 s2 s3
 have hs:SqL K H' a vs:=keep F' H' s1 s2 s3
 refine ⟨fun d hd=>?_,fun hl=>⟨vs,hs,by rw [← hp.length]; rw [zfc] at hl; exact hl⟩⟩
 obtain ⟨x,hx,rfl⟩:=zce hd
 obtain ⟨v,hv,l⟩:=hp.get' hx
 refine ⟨⟨vs,v,hs,hv⟩,fun z H2 y=>?_⟩
 obtain ⟨r,y',hr,rfl,rfl,y⟩:=y
 have:=y vs hs
 rw [hv] at this
 cases this
 refine ⟨_,Ext.newS s3 hr _,.inr (.tup yo (.cons (Al.of ?_) (.cons (l.mono (s1.trans (zay (s3.free hr) _)) (.refl _)) .nil)))⟩
 rw [Nat.zero_add]
 exact .int _
theorem zoj {fs:Env→Option (List D)} {elts:List Expr} {kt:Nat} {pt pp:Pos} (hm:X.mg "enumerate"=none) (ha:XA X ct ms [a] [0] fs) (hg:Gl X "enumerate":=by rfl) (hs:starEach [a] X.env=[(false,eval a X.env)]:=by rfl) :
  XI X ct ms 1 (.Tuple elts kt pt) (.Call (.Name "enumerate" pp) [a] [] pos) (fun ρ=>(fs ρ).bind fun ds=>match ds with | [.lst xs]=>some (enumD 0 xs) | _=>none):=by
 obtain ⟨t,pt,_,qt⟩:=ha
 refine ⟨_,zog hg hm pt hs,fun F0 B F H ρ σ ds R rs e w=>?_⟩
 obtain ⟨ds',h1,h2⟩:=bind1 e
 refine qt F0 B F H ρ σ _ _ rs h1 fun vs F' H' x l=>?_
 cases l with
 | cons h t =>
  cases t
  rename_i d v
  cases d with
  | lst xs =>
   cases h2
   obtain ⟨a,vs,rfl,ha,hp⟩:=Dt.lst_inv h
   exact ⟨a,rfl,⟨vs,x.fh.seq ha⟩,w _ F' H' x (zq5 (n:=0) hp.pr fun F2 H2 s1 s2 s3=>s3.seq (s1.seq ha))⟩
  | _=>cases h2
end
end L3
namespace L3
open PySem PySem.Spec L2
open PyProof.Rows hiding St
section
variable {X:Cx} {ct:Nat→Addr} {ms:List Mo} {rk n m k:Nat} {st:Stmt} {rest:List Stmt} {a b c e tg:Expr} {f g h:EF} {p q:BF} {u w:SF} {pos:Pos}
theorem Ow.lst_inv {K:PySem.W.Frag} {F H:Hp} {ds:List D} {v:V} {fp:List Addr} (h:Ow K ct F H (k+1) (.lst ds) v fp):∃a vs fr,v=.ref a∧fp=a::fr∧F a=none∧H a=some (.lst vs)∧OwL (Ow K ct F H k) ds vs fr:=by
 rcases h with ⟨h,_⟩ | h
 ·cases h
 ·cases h with
  | lst h1 h2 h3=>exact ⟨_,_,_,rfl,rfl,h1,h2,h3⟩
theorem Ow.dK_inv {K:PySem.W.Frag} {F H:Hp} {ks:List Key} {ds:List D} {v:V} {fp:List Addr} (h:Ow K ct F H (k+1) (.dK ks ds) v fp):∃a vs fr,v=.ref a∧fp=a::fr∧F a=none∧H a=some (.dK (ks.zip vs))∧ks.length=vs.length∧OwL (Ow K ct F H k) ds vs fr:=by
 rcases h with ⟨h,_⟩ | h
 ·cases h
 ·cases h with
  | dK h1 h2 h3 h4=>exact ⟨_,_,_,rfl,rfl,h1,h2,h3,h4⟩
theorem Ow.dT_inv {K:PySem.W.Frag} {F H:Hp} {ks:List (List Key)} {ds:List D} {v:V} {fp:List Addr} (h:Ow K ct F H (k+1) (.dT ks ds) v fp):∃a vs fr,v=.ref a∧fp=a::fr∧F a=none∧H a=some (.dT (ks.zip vs))∧ks.length=vs.length∧OwL (Ow K ct F H k) ds vs fr:=by
 rcases h with ⟨h,_⟩ | h
 ·cases h
 ·cases h with
  | dT h1 h2 h3 h4=>exact ⟨_,_,_,rfl,rfl,h1,h2,h3,h4⟩
theorem RS.change {K:PySem.W.Frag} {F0 B F H F' H':Hp} {ρ:Env} {σ:St} {i:Nat} {d':D} {v:V} {f1 fr fn:List Addr} {ad:Addr} {o:HO} (rs:RS K ct F0 B ms F H ρ σ) (hm:ms[i]?=some (.ow k)) (x:Ext F H F' H')
  (hσ:σ[i]?=some (some v)) (b1:∀a∈f1,B a=none) (dj:∀a∈f1,a∉fr) (cf:∀a∈fr,F a=none∧∃o,H a=some o)
  (put:∀(F' H':Hp) (d':D) (v':V) (f':List Addr),Same F F'→Same B H'→Same F' H'→(∀a o,B a=some o→F0 a=none→F' a=none)→(∀a∈fr,H' a=H a∧F' a=none)→Ow K ct F' H' k d' v' f'→f'.Nodup→(∀a∈f',a∉fr)→(∀a∈f',B a=none) →
    RS K ct F0 B ms F' H' (ρ.set i (some d')) (σ.set i (some v')))
  (had:ad∈f1) (fad:F' ad=none) (o':Ow K ct F' (upd H' ad o) k d' v fn) (nd:fn.Nodup) (hfn:∀a∈fn,a∈f1∨H a=none):RS K ct F0 B ms F' (upd H' ad o) (ρ.set i (some d')) σ:=by
 have r:=rs.ext x
 have hB:B ad=none:=b1 ad had
 have res:=put F' (upd H' ad o) d' v fn x.ff (fun z u h=>by rw [yh (fun e=>by rw [e,hB] at h; cases h)]; exact r.bh _ _ h) (fun z u h=>by rw [yh (fun e=>by rw [e,fad] at h; cases h)]; exact x.fh _ _ h) r.nf
  (fun z hz=>by
   obtain ⟨hn,o,ho⟩:=cf z hz
   refine ⟨?_,x.nf z o ho hn⟩
   have ne:z≠ad:=fun e=>dj ad had (by rw [← e]; exact hz)
   rw [yh ne]
   exact (x.hh _ _ ho).trans ho.symm) o' nd
  (fun z hz zr=>by
   rcases hfn z hz with h | h
   ·exact dj z h zr
   ·obtain ⟨_,o,ho⟩:=cf z zr
    rw [h] at ho
    cases ho)
  (fun z hz=>(hfn z hz).elim (b1 z) fun h=>rs.bh.free h)
 have e:σ.set i (some v) = σ:=by
  apply List.ext_getElem?
  intro j
  by_cases hj:i=j
  ·subst hj
   rw [List.getElem?_set_self (by
    have:=List.getElem?_eq_some_iff.mp hσ
    exact this.1),hσ]
  ·rw [List.getElem?_set_ne hj]
 rw [e] at res
 exact res
def sApp (i:Nat) (f:EF):SF:=fun ρ=>(eV i ρ).bind fun o=>(f ρ).bind fun d=>match o with
 | .lst ds=>if ds.length<16777216 then some (.nx (ρ.set i (some (.lst (ds++[d]))))) else none
 | _=>none
theorem zcf (i:Nat) {x:Str} {p1 apos cpos:Pos} (hm:ms[i]?=some (.ow (k+1))) (he:XO X ct ms k e f) (hN:X.N[i]?=some x:=by rfl) (hv:Vis X.env.scope x:=by first | exact Or.inl rfl | exact Or.inr (Or.inl rfl) | exact Or.inr (Or.inr rfl)) (hd:(x == ("__debug__":Str))=false:=by decide)
  (hcd:(x == ("__classdict__":Str))=false:=by decide) (hst:starEach [e] X.env=(false,eval e X.env)::starEach [] X.env:=by rfl)
  (hbase:attributeBase (.Name x p1) "append" X.env (eval (.Name x p1) X.env)=eval (.Name x p1) X.env:=by rfl)
  (hfew:((backTo cpos (starEach [e] X.env)).all (fun x=>!x.1) && (backToKw cpos (keywordEach [] X.env)).all (fun x=>x.1.isSome)
   && decide ([e].length+([]:List Keyword).length+(if ([]:List Keyword).isEmpty then 0 else 1)<30))=true:=by rfl)
  (hline:(apos.endLine == cpos.line)=true:=by rfl) (hplain:(backTo cpos (starEach [] X.env)).any (·.1)=false:=by rfl)
  (hsw:swapsWith (.Call (.Attribute (.Name x p1) "append" apos) [e] [] cpos) none pos.line X.env=pure false:=by rfl) :
  XS X ct ms rk (.Expr (.Call (.Attribute (.Name x p1) "append" apos) [e] [] cpos) pos) (sApp i f):=by
 obtain ⟨t,pt,qt⟩:=he
 refine ⟨_,zf8 (zle PySem.F.plainAttrs_list PySem.F.slot_list_append PySem.F.type_list_append zaw (jc hN hv hd hcd) (vg pt j8 hst) hbase hfew hline hst hplain) hsw,fun F0 B F H ρ σ o E rs e z=>?_⟩
 obtain ⟨d1,d2,h1,h2,h3⟩:=bind2 e
 obtain ⟨f1,fr,n1,b1,dj,i4,cf,put⟩:=rs.put (F':=F) (H':=H) hm
 obtain ⟨v,hσ,ow⟩:=i4 d1 (yc h1)
 refine ⟨v,hσ,?_⟩
 cases d1 with
 | lst ds =>
  dsimp only at h3
  by_cases hz:ds.length<16777216
  ·rw [if_pos hz] at h3
   cases h3
   obtain ⟨ad,vs,fr1,rfl,rfl,hF,hH,ol⟩:=ow.lst_inv
   refine ⟨.inl ⟨rfl,_,SqL.of hH⟩,qt F0 B F H ρ σ d2 _ rs h2 fun v2 F' H' fp x1 o2 nd2 hf2=>?_⟩
   have hA:H' ad=some (.lst vs):=x1.hh _ _ hH
   have fA:F' ad=none:=x1.nf ad _ hH hF
   have nA:∀a∈fp,a≠ad:=fun a hz e=>by rw [e] at hz; rw [hf2 ad hz] at hH; cases hH
   have n1':=List.nodup_cons.mp n1
   refine ⟨ad,vs,v2,rfl,rfl,hA,by rw [← ol.length,sizeLine_eq]; exact hz,?_⟩
   refine z σ F' _ (rs.change hm x1 hσ b1 dj cf put List.mem_cons_self fA (.inr (.lst fA yo ((ol.mono fun _ _ f' hi o'=>?_).append (.cons (f:=fp) ?_ .nil)))) (fn:=ad::(fr1++(fp++[]))) ?_ ?_)
   ·refine (o'.ext x1).frame (.refl _) fun a ha=>⟨yh fun e=>n1'.1 (e ▸ hi a ha),((o'.ext x1).cells a ha).1⟩
   ·exact o2.frame (.refl _) fun a ha=>⟨yh (nA a ha),(o2.cells a ha).1⟩
   ·rw [List.append_nil]
    refine List.nodup_cons.mpr ⟨fun hz=>?_,List.nodup_append.mpr ⟨n1'.2,nd2,fun a ha b hb e=>?_⟩⟩
    ·rcases List.mem_append.mp hz with hz | hz
     ·exact n1'.1 hz
     ·exact nA ad hz rfl
    ·subst e
     obtain ⟨_,o,ho⟩:=OwL.cellsOf ol a ha
     rw [hf2 a hb] at ho
     cases ho
   ·intro a ha
    rw [List.append_nil] at ha
    rcases List.mem_cons.mp ha with rfl | ha
    ·exact .inl List.mem_cons_self
    ·rcases List.mem_append.mp ha with ha | ha
     ·exact .inl (List.mem_cons_of_mem _ ha)
     ·exact .inr (hf2 a ha)
  ·rw [if_neg hz] at h3; cases h3
 | _=>cases h3
def setAt (ds:List D) (i:Int) (d:D):Option (List D):=(ixN ds.length i).bind fun j=>some (ds.set j d)
def putK' {κ:Type} [DecidableEq κ] (ks:List κ) (ds:List D) (k:κ) (d:D):List κ×List D:=if ks.contains k=true then (ks,(ks.zip ds).map fun p=>if p.1=k then d else p.2) else (ks++[k],ds++[d])
def sPutL (i:Nat) (fj f:EF):SF:=fun ρ=>(f ρ).bind fun d=>(eV i ρ).bind fun o=>(fj ρ).bind fun j=>match o,j with
 | .lst ds,.int z=>(setAt ds z d).bind fun ds'=>some (.nx (ρ.set i (some (.lst ds'))))
 | _,_=>none
theorem OwL.set0 {R:D→V→List Addr→Prop} {d:D} {v:V} (r:R d v []) (z:∀d v f,R d v f→f=[]):∀{ds:List D} {vs:List V} {fp:List Addr} (i:Nat),OwL R ds vs fp→OwL R (ds.set i d) (vs.set i v) []
 | _,_,_,_,.nil=>.nil
 | _,_,_,0,.cons h t=>by
  have:=OwL.cons (f:=[]) (g:=[]) r (OwL.ofPr (t.pr fun d v f _ q=>by have:=z _ _ _ q; subst this; exact q))
  exact this
 | _,_,_,i+1,.cons h t=>by
  have e:=z _ _ _ h
  subst e
  exact OwL.cons (f:=[]) (g:=[]) h (OwL.set0 r z i t)
theorem Ow.nil0 {K:PySem.W.Frag} {F H:Hp} {d:D} {v:V} {fp:List Addr} (h:Ow K ct F H 0 d v fp):fp=[]:=h.2
theorem OwL.nil0 {K:PySem.W.Frag} {F H:Hp}:∀{ds:List D} {vs:List V} {fp:List Addr},OwL (Ow K ct F H 0) ds vs fp→fp=[]
 | _,_,_,.nil=>rfl
 | _,_,_,.cons h t=>by rw [h.nil0,OwL.nil0 t]; rfl
theorem zok (i:Nat) {x:Str} {j:Expr} {p1 tpos:Pos} {fj:EF} (hm:ms[i]?=some (.ow 1)) (hj:XE X ct ms n j fj) (he:XE X ct ms 0 e f) (hN:X.N[i]?=some x:=by rfl) (hv:Vis X.env.scope x:=by first | exact Or.inl rfl | exact Or.inr (Or.inl rfl) | exact Or.inr (Or.inr rfl)) (hd:(x == ("__debug__":Str))=false:=by decide)
  (hcd:(x == ("__classdict__":Str))=false:=by decide)
  (ha:∀v,assign (.Subscript (.Name x p1) j tpos) X.env v=(do
   let ov ← holding [v] (eval (.Name x p1) X.env)
   let iv ← holding [v,ov] (eval j X.env)
   standAt tpos
   holding [v,ov,iv] (setItem ov iv v)
   release [v,ov,iv] []):=by intro _; rfl)
  (hs:swapsWithSole [.Subscript (.Name x p1) j tpos] e pos.line X.env=pure false:=by rfl) (hw:swappedStores [.Subscript (.Name x p1) j tpos] e X.env=pure none:=by rfl)
  (h1:(assignEach [.Subscript (.Name x p1) j tpos] X.env).map (·.2)=[assign (.Subscript (.Name x p1) j tpos) X.env]:=by rfl) :
  XS X ct ms rk (.Assign [.Subscript (.Name x p1) j tpos] e pos) (sPutL i fj f):=by
 obtain ⟨t,pt,qt⟩:=he
 obtain ⟨tj,ptj,qtj⟩:=hj
 refine ⟨_,zi1 pt (zm0 (jc hN hv hd hcd) ptj zdr ha) hs hw h1,fun F0 B F H ρ σ o E rs e z=>?_⟩
 obtain ⟨d,g1,g2⟩:=bind1 e
 obtain ⟨d1,dj',g3,g4,g5⟩:=bind2 g2
 refine qt F0 B F H ρ σ d _ rs g1 fun v0 F1 H1 x1 l0=>?_
 have rs1:=rs.ext x1
 obtain ⟨f1,fr,n1,b1,dj,i4,cf,put⟩:=rs1.put (F':=F) (H':=H) hm
 obtain ⟨v,hσ,ow⟩:=i4 d1 (yc g3)
 refine ⟨v,hσ,qtj F0 B F1 H1 ρ σ dj' _ rs1 g4 fun vj F2 H2 x2 lj=>?_⟩
 cases d1 with
 | lst ds =>
  cases dj' with
  | int zi =>
   obtain ⟨ds',g6,g7⟩:=bind1 g5
   cases g7
   obtain ⟨jn,g8,g9⟩:=bind1 g6
   cases g9
   obtain ⟨ad,vs,fr1,rfl,rfl,hF,hH,ol⟩:=ow.lst_inv
   have hA:H2 ad=some (.lst vs):=x2.hh _ _ hH
   have fA:F2 ad=none:=x2.nf ad _ hH hF
   have e0:=ol.nil0
   subst e0
   refine ⟨ad,vs,zi,jn,rfl,lj.int,hA,by rw [← ol.length]; exact g8,?_⟩
   refine z σ F2 _ (rs1.change hm x2 hσ b1 dj cf put List.mem_cons_self fA (.inr (.lst fA yo (OwL.set0 ⟨Dt.mono x2.ff l0,rfl⟩ (fun _ _ _ q=>q.2) jn (ol.mono fun _ _ _ _ q=>⟨q.1.mono x2.ff,q.2⟩)))) (fn:=[ad]) (by simp) ?_)
   intro a ha
   rw [List.mem_singleton] at ha
   subst ha
   exact .inl List.mem_cons_self
  | _=>cases g5
 | _=>cases g5
end
end L3
namespace L3
open PySem PySem.Spec L2
open PyProof.Rows hiding St
section
variable {X:Cx} {ct:Nat→Addr} {ms:List Mo} {rk n m k:Nat} {st:Stmt} {rest:List Stmt} {a b c e tg:Expr} {f g h:EF} {p q:BF} {u w:SF} {pos:Pos} {K:PySem.W.Frag}
theorem lstR {pins:List (Addr×Obj)} {σ:St} {H:Hp} {s:Shared} {l:Addr} {xs:List V} (I:Inv X pins σ H s) (hH:Rd H l (.lst xs)):xs.length≤sizeLine∧∃(its:List Value) (n:Nat),Vals xs its∧xs.length=its.length∧s.heap.get? l=some { cls:=.type "list",data:=.seq its.toArray n }:=by
  obtain ⟨z,its,n,r,e⟩:=hH.ok I.hok
  exact ⟨z,its,n,r,r.length,e⟩
def rCatR (K:PySem.W.Frag):R2:=fun x y H Q=>∃l b xs zs,x=.ref l∧y=.ref b∧SqL K H l xs∧SqL K H b zs∧xs.length+zs.length≤sizeLine∧∀p,H p=none→Q (.ref p) (upd H p (.lst (xs++zs)))
theorem zol:OpR X (binaryOp .Add) (rCatR X.K):=by
 intro pins s σ H x y v u Q I rx ry h
 obtain ⟨l,b,xs,zs,rfl,rfl,hH,hB,hz,q⟩:=h
 cases rx
 cases ry
 obtain ⟨its,r,⟨⟨cls,dd,data,sl⟩,n,e,c1,c2,c3⟩,z⟩:=I.list hH
 obtain ⟨its2,r2,⟨⟨cls2,dd2,data2,sl2⟩,n2,e2,c4,c5,c6⟩,z2⟩:=I.list hB
 simp only at c1 c3 c4 c6
 subst c1 c3 c4 c6
 have hl:=r.length
 have hl2:=r2.length
 refine concat_meets ⟨_,e,rfl⟩ ⟨_,e2,rfl⟩ noFill_list_add seq_list_add PySem.F.slot_list_add PySem.F.entry_list_add (PySem.F.args_list_add_2 _ _) (list_addW l b its.toArray its2.toArray n n2 dd dd2 sl sl2 (by rw [List.size_toArray,List.size_toArray]; omega)) ⟨e,e2,?_⟩
 have ea:its.toArray++its2.toArray=(its++its2).toArray:=by simp
 rw [ea]
 exact ⟨.ref _,_,I.lnew (t':=s.toks) (r.append r2) (by rw [List.length_append]; omega),rfl,q _ I.fresh⟩
def rAddS:R2:=fun x y H Q=>∃i j,x=.str i∧y=.str j∧i.length+j.length≤sizeLine∧Q (.str (i++j)) H
def rAdd (K:PySem.W.Frag):R2:=fun x y H Q=>rI0 (fun i j=>.int (i+j)) x y H Q∨rAddS x y H Q∨rCatR K x y H Q∨rCatT K x y H Q
theorem xc:OpR X (binaryOp .Add) (rAdd X.K):=OpR.or zqg (OpR.or zh8 (OpR.or zol zn3))
def addD:D→D→Option D
 | .int i,.int j=>some (.int (i+j))
 | .str x,.str y=>if x.length+y.length≤16777216 then some (.str (x++y)) else none
 | .lst xs,.lst ys=>if xs.length+ys.length≤16777216 then some (.lst (xs++ys)) else none
 | .tup xs,.tup ys=>if xs.isEmpty=false∧ys.isEmpty=false∧xs.length+ys.length≤1000000 then some (.tup (xs++ys)) else none
 | _,_=>none
theorem Pr.ow0 {F G H:Hp} {ds:List D} {vs:List V} (h:Pr (Al K ct F G 0) ds vs):OwL (Ow K ct F H 0) ds vs []:=OwL.ofPr (h.mono fun _ _ q=>⟨q,rfl⟩)
theorem Al.lst1 {F G:Hp} {ds:List D} {v:V} (hn:n≤1) (h:Al K ct F G n (.lst ds) v) (s:Same F G):∃a vs,v=.ref a∧SqL K G a vs∧Pr (Al K ct F G 0) ds vs:=by
 obtain ⟨a,vs,e,h1,h2⟩:=h.lst s
 have:n-1=0:=by omega
 rw [this] at h2
 exact ⟨a,vs,e,h1,h2⟩
theorem Al.tup1 {F G:Hp} {ds:List D} {v:V} (hn:n≤1) (h:Al K ct F G n (.tup ds) v) (s:Same F G):∃a vs,v=.ref a∧G a=some (.tup vs)∧Pr (Al K ct F G 0) ds vs:=by
 obtain ⟨a,vs,e,h1,h2⟩:=h.tup s
 have:n-1=0:=by omega
 rw [this] at h2
 exact ⟨a,vs,e,h1,h2⟩
theorem zam {F H:Hp} {ds:List D} {vs:List V} {Q:VK} (s:Same F H) (hp:Pr (Al K ct F H 0) ds vs) (w:∀v F' H' fp,Ext F H F' H'→Ow K ct F' H' 1 (.lst ds) v fp→fp.Nodup→(∀a∈fp,H a=none)→Q v H'):∀p,H p=none→Q (.ref p) (upd H p (.lst vs)):=fun p h0=>by
 obtain ⟨o,nd⟩:=zjp s (hp.ow0 (H:=H)) h0
 exact w _ F _ [p] (Ext.newO s h0 _) o (nd List.nodup_nil) fun a z=>by rw [List.mem_singleton] at z; subst z; exact h0
theorem xf (hn:n≤1) (hm:m≤1):Op2O K ct n m 1 (rAdd K) addD:=by
 intro F H x y d1 d2 d Q s l1 l2 e w
 have ws:∀d v,d.sc=true→Dt K ct F d v→(∀v F' H' fp,Ext F H F' H'→Ow K ct F' H' 1 d v fp→fp.Nodup→(∀a∈fp,H a=none)→Q v H')→Q v H:=fun d v hs hd w=>w v F H [] (.refl s) (Ow.scal hd hs) List.nodup_nil fun a z=>(by cases z)
 cases d1 with
 | int i =>
  cases d2 with
  | int j=>cases e; exact .inl ⟨i,j,l1.int,l2.int,ws _ _ rfl (.int _) w⟩
  | _=>cases e
 | str i =>
  cases d2 with
  | str j =>
   unfold addD at e
   dsimp only at e
   by_cases hz:i.length+j.length≤16777216
   ·rw [if_pos hz] at e
    cases e
    exact .inr (.inl ⟨i,j,l1.str,l2.str,by rw [sizeLine_eq]; exact hz,ws _ _ rfl (.str _) w⟩)
   ·rw [if_neg hz] at e; cases e
  | _=>cases e
 | lst xs =>
  cases d2 with
  | lst ys =>
   unfold addD at e
   dsimp only at e
   by_cases hz:xs.length+ys.length≤16777216
   ·rw [if_pos hz] at e
    cases e
    obtain ⟨a,vs,rfl,ha,hp⟩:=Al.lst1 hn l1 s
    obtain ⟨b,us,rfl,hb,hq⟩:=Al.lst1 hm l2 s
    exact .inr (.inr (.inl ⟨a,b,vs,us,rfl,rfl,ha,hb,by rw [← hp.length,← hq.length,sizeLine_eq]; exact hz,zam s (hp.append hq) w⟩))
   ·rw [if_neg hz] at e; cases e
  | _=>cases e
 | tup xs =>
  cases d2 with
  | tup ys =>
   unfold addD at e
   dsimp only at e
   by_cases hz:xs.isEmpty=false∧ys.isEmpty=false∧xs.length+ys.length≤1000000
   ·rw [if_pos hz] at e
    cases e
    obtain ⟨a,vs,rfl,ha,hp⟩:=Al.tup1 hn l1 s
    obtain ⟨b,us,rfl,hb,hq⟩:=Al.tup1 hm l2 s
    have hl:=hp.length
    have hl2:=hq.length
    have e1:vs≠[]:=fun z=>by
     rw [z] at hl
     have:=List.length_eq_zero_iff.mp hl
     rw [this] at hz
     exact absurd hz.1 (by decide)
    have e2:us≠[]:=fun z=>by
     rw [z] at hl2
     have:=List.length_eq_zero_iff.mp hl2
     rw [this] at hz
     exact absurd hz.2.1 (by decide)
    refine .inr (.inr (.inr ⟨a,b,vs,us,rfl,rfl,SqT.of ha,SqT.of hb,e1,by rw [← hl,← hl2,sizeLine_eq]; omega,fun z=>absurd z e2,fun _ p h0=>?_⟩))
    have x2:=Ext.newS s h0 (.tup (vs++us))
    exact w _ _ _ [] x2 (.inr (.tup yo (OwL.ofPr ((hp.append hq).mono fun _ _ q=>⟨Dt.mono x2.ff q,rfl⟩)))) List.nodup_nil fun a z=>(by cases z)
   ·rw [if_neg hz] at e; cases e
  | _=>cases e
 | _=>cases e
def rRepR:R2:=fun x y H Q=>∃l k xs,x=.ref l∧y=.int k∧Rd H l (.lst xs)∧-(2 ^ 63)≤k∧k<2 ^ 63∧xs.length * k.toNat≤sizeLine ∧
 ∀p,H p=none→Q (.ref p) (upd H p (.lst (List.replicate k.toNat xs).flatten))
theorem zom:OpR X (binaryOp .Mult) rRepR:=by
 intro pins s σ H x y v u Q I rx ry h
 obtain ⟨l,k,xs,rfl,rfl,hH,h1,h2,hz,q⟩:=h
 cases rx
 obtain ⟨t,rfl⟩:=ry
 obtain ⟨z,its,n,r,hl,e⟩:=lstR I hH
 have hlen:its.toArray.size * k.toNat≤sizeLine:=by rw [List.size_toArray,← hl]; exact hz
 have hcap:¬its.toArray.size * k.toNat > (2 ^ 63-1) / 8:=by
  have:(sizeLine:Nat)≤(2 ^ 63-1) / 8:=by decide
  omega
 have hfit:¬(!Builtin.List.listFitsIndex k)=true:=by
  rw [fitsIndex_both h1 h2]
  exact Bool.false_ne_true
 have hlong:¬Builtin.List.listTooLong (its.toArray.size * k.toNat)=true:=by
  rw [notLongL hlen]
  exact Bool.false_ne_true
 have hnew:List.foldl (fun x1 x2=>x1++x2) #[] (List.replicate (if its.toArray.isEmpty=true then 0 else k.toNat) its.toArray)=(List.replicate k.toNat its).flatten.toArray:=by
  have f0:∀m:Nat,List.foldl (fun x1 x2=>x1++x2) #[] (List.replicate m its.toArray)=(List.replicate m its).flatten.toArray:=fun m=>by
   have:=ze2 its m []
   rw [List.nil_append] at this
   exact this
  rw [f0]
  cases its with
  | nil=>simp
  | cons a r'=>rw [if_neg (by simp)]
 refine wpAny_binaryOp_repeat_ref (T:="list") (U:="int") (by decide) ⟨_,e,rfl⟩ (fun s'=>typeIs_int s' k t) noFill_list_mul F.fills_int_mul F.slot_int_rmul repeat_list F.slot_int_index.lookup
  (call_meets F.slot_int_rmul (typeIs_int s k t) F.entry_int_rmul (F.args_int_rmul_2 _ _) (int___rmul___int_list k t l its.toArray n)
   ⟨e,rfl,⟨_,e,rfl⟩,call_meets F.slot_list_mul ⟨_,e,rfl⟩ F.entry_list_mul (F.args_list_mul_2 _ _) (AutoListH.list___mul___list_int_3 l its.toArray n k t hfit hcap hlong) ⟨e,?_⟩⟩)
 rw [hnew]
 exact ⟨.ref _,_,I.lnew (t':=s.toks) (r.rep k.toNat) (by rw [zn6,Nat.mul_comm]; exact hz),rfl,q _ I.fresh⟩
theorem xg:Op2 K ct n m k (rI CMulS fun i j=>.int (i * j)) mulI:=zoh
def repD:D→D→Option D
 | .lst xs,.int j=>if -1000000<j∧j<1000000∧xs.length≤16 then some (.lst (List.replicate j.toNat xs).flatten) else none
 | _,_=>none
theorem zne (ha:XO X ct ms 1 a f) (hb:XE X ct ms m b g):XO X ct ms 1 (.BinOp a .Mult b pos) (e2 repD f g):=by
 obtain ⟨ta,pa,qa⟩:=ha
 obtain ⟨tb,pb,qb⟩:=hb
 refine ⟨_,znt zom pa pb,fun F0 B F H ρ σ d Q rs e w=>?_⟩
 obtain ⟨d1,d2,h1,h2,h3⟩:=bind2 e
 refine qa F0 B F H ρ σ d1 _ rs h1 fun v F1 H1 fp x1 o nd hf=>?_
 refine qb F0 B F1 H1 ρ σ d2 _ (rs.ext x1) h2 fun v2 F2 H2 x2 l2=>?_
 cases d1 with
 | lst xs =>
  cases d2 with
  | int j =>
   unfold repD at h3
   dsimp only at h3
   by_cases hz:-1000000<j∧j<1000000∧xs.length≤16
   ·rw [if_pos hz] at h3
    cases h3
    obtain ⟨ad,vs,fr,rfl,rfl,hF,hH,ol⟩:=(o.ext x2).lst_inv
    have hp:Pr (Al X.K ct F2 H2 0) xs vs:=ol.pr fun _ _ _ _ q=>q.1
    have x12:=x1.trans x2
    refine ⟨ad,j,vs,rfl,l2.int,.inl hH,by omega,by omega,?_,zam x2.fh (hp.rep _) fun v F' H' fp x o nd hf=>w v F' H' fp (x12.trans x) o nd fun z hz=>x12.hh.free (hf z hz)⟩
    rw [← hp.length,sizeLine_eq]
    have h1:j.toNat≤1000000:=by omega
    have h2:xs.length * j.toNat≤16 * 1000000:=Nat.mul_le_mul hz.2.2 h1
    omega
   ·rw [if_neg hz] at h3; cases h3
  | _=>cases h3
 | _=>cases h3
def negD:D→Option D
 | .int i=>some (.int (-i))
 | _=>none
theorem zcg (ha:XE X ct ms n a f):XE X ct ms k (.UnaryOp .USub a pos) (e1 negD f):=by
 refine zsg zqi (fun F H x d1 d Q s l e w=>?_) ha
 cases d1 with
 | int i=>cases e; exact ⟨i,l.int,w _ F H (.refl s) (Al.of (.int _))⟩
 | _=>cases e
theorem zch {x:Str} {d:D} {u:Value} (hg:Gl X x) (hm:X.mg x=some u) (hs:d.sc=true) (r:RelV d.v u) (hd:(x == ("__debug__":Str))=false:=by decide):XE X ct ms n (.Name x pos) (eC d):=by
 refine ⟨_,zix hg hm r hd,fun F0 B F H ρ σ d' Q rs e w=>?_⟩
 cases e
 refine w _ F H (.refl rs.fh) (Al.of ?_)
 cases d with
 | non=>exact .non
 | bl b=>exact .bl b
 | int b=>exact .int b
 | str b=>exact .str b
 | _=>cases hs
def listD:List D→Option D
 | [.lst ds]=>some (.lst ds)
 | [.tup ds]=>some (.lst ds)
 | _=>none
theorem zhg (hn:n≤1):OpNO K ct [n] 1 (fun xs H Q=>∃p ys,xs=[.ref p]∧(SqL K H p ys∨SqT K H p ys)∧∀l,H l=none→Q (.ref l) (upd H l (.lst ys))) listD:=by
 intro F H vs ds d Q s l e w
 cases l with
 | cons h t =>
  cases t
  rename_i d1 v
  cases d1 with
  | lst xs =>
   cases e
   obtain ⟨a,us,rfl,ha,hp⟩:=Al.lst1 hn h s
   exact ⟨a,us,rfl,.inl ha,zam s hp w⟩
  | tup xs =>
   cases e
   obtain ⟨a,us,rfl,ha,hp⟩:=Al.tup1 hn h s
   exact ⟨a,us,rfl,.inr (SqT.of ha),zam s hp w⟩
  | _=>cases e
abbrev PF:=Env→Option (Option Int)
def pNo:PF:=fun _=>some none
def pInt (f:EF):PF:=fun ρ=>(f ρ).bind fun d=>match d with
 | .int i=>some (some i)
 | _=>none
def XP (X:Cx) (ct:Nat→Addr) (ms:List Mo) (e:Option Expr) (f:PF):Prop:=∃t,PO X e t∧∀(F0 B F H:Hp) (ρ:Env) (σ:St) (o:Option Int) (Q:Option Int→Hp→Prop),RS X.K ct F0 B ms F H ρ σ→f ρ=some o→(∀F' H',Ext F H F' H'→Q o H')→t σ H Q
theorem zll:XP X ct ms none pNo:=⟨_,zn1,fun F0 B F H ρ σ o Q rs e w=>by cases e; exact w F H (.refl rs.fh)⟩
theorem jl (h:XE X ct ms n e f):XP X ct ms (some e) (pInt f):=by
 obtain ⟨t,pt,qt⟩:=h
 refine ⟨_,zn2 pt,fun F0 B F H ρ σ o Q rs e w=>?_⟩
 obtain ⟨d,h1,h2⟩:=bind1 e
 refine qt F0 B F H ρ σ d _ rs h1 fun v F' H' x l=>?_
 cases d with
 | int i=>cases h2; exact ⟨i,l.int,w F' H' x⟩
 | _=>cases h2
def cutD (xs:List D) (lo hi:Option Int):List D:=(xs.drop (HT.sIx xs.length 0 lo)).take (HT.sIx xs.length xs.length hi-HT.sIx xs.length 0 lo)
theorem zon {R:D→V→Prop} {ds:List D} {vs:List V} {lo hi:Option Int} (h:Pr R ds vs):Pr R (cutD ds lo hi) (cutV vs lo hi):=by
 unfold cutD cutV
 rw [h.length]
 exact (h.drop _).take _
def sliceD (d:D) (lo hi:Option Int):Option D:=match d with
 | .lst xs=>some (.lst (cutD xs lo hi))
 | _=>none
theorem jw {lo hi:Option Expr} {pl ph:PF} {p1} (hn:n≤1) (he:XE X ct ms n e f) (hl:XP X ct ms lo pl) (hh:XP X ct ms hi ph):XO X ct ms 1 (.Subscript e (.Slice lo hi none p1) pos) (fun ρ=>(f ρ).bind fun d=>(pl ρ).bind fun l=>(ph ρ).bind fun h=>sliceD d l h):=by
 obtain ⟨t,pt,qt⟩:=he
 obtain ⟨t1,pt1,qt1⟩:=hl
 obtain ⟨t2,pt2,qt2⟩:=hh
 refine ⟨_,zld zn5 pt pt1 pt2,fun F0 B F H ρ σ r Q rs e w=>?_⟩
 obtain ⟨d,l,h1,h2,h3⟩:=bind2 e
 obtain ⟨hh,h4,h5⟩:=bind1 h3
 refine qt F0 B F H ρ σ d _ rs h1 fun v F1 H1 x1 l1=>?_
 refine qt1 F0 B F1 H1 ρ σ l _ (rs.ext x1) h2 fun F2 H2 x2=>?_
 refine qt2 F0 B F2 H2 ρ σ hh _ ((rs.ext x1).ext x2) h4 fun F3 H3 x3=>?_
 cases d with
 | lst xs =>
  cases h5
  have x23:=x2.trans x3
  obtain ⟨a,vs,rfl,ha,hp⟩:=Al.lst1 hn (l1.mono x23.ff x23.hh) x23.fh
  exact ⟨a,vs,rfl,ha,zam x23.fh (zon hp) fun v F' H' fp x o nd hf=>w v F' H' fp ((x1.trans x23).trans x) o nd fun z hz=>(x1.trans x23).hh.free (hf z hz)⟩
 | _=>cases h5
def absD:List D→Option D
 | [.int i]=>some (.int (if i<0 then -i else i))
 | _=>none
theorem zgh:OpN K ct [n] k (fun xs H Q=>∃i,xs=[.int i]∧Q (.int (if i<0 then -i else i)) H) absD:=by
 intro F H vs ds d Q s l e w
 cases l with
 | cons h t =>
  cases t
  rename_i d1 v
  cases d1 with
  | int i=>cases e; exact ⟨i,by rw [h.int],w _ F H (.refl s) (Al.of (.int _))⟩
  | _=>cases e
def ii (g:Int→Int→D):List D→Option D
 | [.int i,.int j]=>some (g i j)
 | _=>none
theorem zq6 {g:Int→Int→D} {gv:Int→Int→V} (hg:∀i j F,Dt K ct F (g i j) (gv i j)):OpN K ct [n,m] k (fun xs H Q=>∃i j,xs=[.int i,.int j]∧Q (gv i j) H) (ii g):=by
 intro F H vs ds d Q s l e w
 cases l with
 | cons h t =>
  cases t with
  | cons h' t =>
   cases t
   rename_i d1 v d2 v2
   cases d1 with
   | int i =>
    cases d2 with
    | int j=>cases e; exact ⟨i,j,by rw [h.int,h'.int],w _ F H (.refl s) (Al.of (hg i j F))⟩
    | _=>cases e
   | _=>cases e
def max2D:List D→Option D:=ii fun i j=>.int (if j > i then j else i)
def min2D:List D→Option D:=ii fun i j=>.int (if j<i then j else i)
theorem zlm:OpN K ct [n,m] k (fun xs H Q=>∃i j,xs=[.int i,.int j]∧Q (.int (if j > i then j else i)) H) max2D:=zq6 fun _ _ _=>.int _
def sAug (i:Nat) (o:D→D→Option D) (f:EF):SF:=fun ρ=>(eV i ρ).bind fun x=>(f ρ).bind fun y=>(o x y).bind fun d=>some (.nx (ρ.set i (some d)))
theorem zq7 {op:Operator} {i:Nat} {x:Str} {pos':Pos} {gi:Int→Int→Int} (ho:PIp X op (ipI gi)) (hm:ms[i]?=some (.ow k)) (hN:X.N.Nodup) (hi:X.N[i]?=some x) (hx:Loc X.env.scope x) (he:XE X ct ms n e f) (hf:X.fn x=true∨X.env.scope.names.lookup x=some .local:=by first | exact .inl rfl | exact .inr rfl | assumption) :
  XS X ct ms rk (.AugAssign (.Name x pos') op e pos) (sAug i (i2 fun i j=>.int (gi i j)) f):=by
 obtain ⟨t,pt,qt⟩:=he
 refine ⟨_,zqd hN hi hx pt ho hf,fun F0 B F H ρ σ o E rs e z=>?_⟩
 obtain ⟨d1,d2,h1,h2,h3⟩:=bind2 e
 obtain ⟨d,h4,h5⟩:=bind1 h3
 cases h5
 obtain ⟨v,hv,l⟩:=rs.get hm (yc h1)
 refine ⟨v,hv,qt F0 B F H ρ σ d2 _ rs h2 fun y F' H' x1 l2=>?_⟩
 cases d1 with
 | int i' =>
  cases d2 with
  | int j' =>
   cases h4
   exact ⟨i',j',l.int,l2.int,z _ F' H' (rs.set hm x1 (Ow.scal (.int _) rfl) List.nodup_nil fun a z=>(by cases z))⟩
  | _=>cases h4
 | _=>cases h4
def sPar (i j:Nat) (fs:Env→Option (List D)):SF:=fun ρ=>(fs ρ).bind fun ds=>match ds with
 | [x,y]=>some (.nx ((ρ.set i (some x)).set j (some y)))
 | _=>none
theorem zq8 {i j:Nat} {x y:Str} {fs:Env→Option (List D)} {px py pt:Pos} {kt k2 pt2} (hmi:ms[i]?=some (.ow 0)) (hmj:ms[j]?=some (.ow 0)) (hc:X.calm=true) (hN:X.N.Nodup) (hi:X.N[i]?=some x) (hj:X.N[j]?=some y) (hij:i≠j)
  (hx:X.env.scope.names.lookup x=some .local) (hy:X.env.scope.names.lookup y=some .local) (ha:XA X ct ms [a,b] [0,0] fs)
  (hw:swappedStores [.Tuple [.Name x px,.Name y py] kt pt] (.Tuple [a,b] k2 pt2) X.env=pure (some [x,y]))
  (hs:swapsWithSole [.Tuple [.Name x px,.Name y py] kt pt] (.Tuple [a,b] k2 pt2) pos.line X.env=pure false:=by rfl) :
  XS X ct ms rk (.Assign [.Tuple [.Name x px,.Name y py] kt pt] (.Tuple [a,b] k2 pt2) pos) (sPar i j fs):=by
 obtain ⟨t,pt,_,qt⟩:=ha
 refine ⟨_,zqc hc hN hi hj hij hx hy pt hw hs,fun F0 B F H ρ σ o E rs e z=>?_⟩
 obtain ⟨ds,h1,h2⟩:=bind1 e
 refine qt F0 B F H ρ σ ds _ rs h1 fun vs F' H' x1 l=>?_
 cases l with
 | cons l1 l =>
  cases l with
  | cons l2 l =>
   cases l
   cases h2
   have r1:=rs.set hmi x1 (Ow.zero l1) List.nodup_nil fun a z=>(by cases z)
   exact ⟨_,_,rfl,z _ F' H' (r1.set hmj (.refl x1.fh) (Ow.zero l2) List.nodup_nil fun a z=>(by cases z))⟩
def sAsg (g:D→Env→Option Env) (f:EF):SF:=fun ρ=>(f ρ).bind fun d=>(g d ρ).bind fun ρ'=>some (.nx ρ')
theorem zju {gg:D→Env→Option Env} (he:XE X ct ms 0 e f) (hg:XG X ct ms 0 tg gg) (hs:swapsWithSole [tg] e pos.line X.env=pure false:=by rfl) (hw:swappedStores [tg] e X.env=pure none:=by rfl)
  (h1:(assignEach [tg] X.env).map (·.2)=[assign tg X.env]:=by rfl):XS X ct ms rk (.Assign [tg] e pos) (sAsg gg f):=by
 obtain ⟨t,pt,qt⟩:=he
 obtain ⟨t2,pt2,qt2⟩:=hg
 refine ⟨_,zi1 pt pt2 hs hw h1,fun F0 B F H ρ σ o E rs e z=>?_⟩
 obtain ⟨d,h1,h2⟩:=bind1 e
 obtain ⟨ρ',h3,h4⟩:=bind1 h2
 cases h4
 exact qt F0 B F H ρ σ d _ rs h1 fun v F' H' x l=>qt2 F0 B F' H' ρ ρ' σ d v _ (rs.ext x) l h3 fun σ' r=>z σ' F' H' r
end
end L3
namespace L3
open PySem PySem.Spec L2
open PyProof.Rows hiding St
def modesOk:List Nat→List Mo→Bool
 | [],_=>true
 | n::ns,.al m::ms=>decide (n=m) && modesOk ns ms
 | n::ns,.ow m::ms=>decide (n=0) && decide (m=0) && modesOk ns ms
 | _,_=>false
theorem zl:∀{pm:List Nat} {ms:List Mo},modesOk pm ms=true→∀(i n:Nat),pm[i]?=some n→ms[i]?=some (Mo.al n)∨(n=0∧ms[i]?=some (Mo.ow 0))
 | [],_,_,i,n,e=>by simp at e
 | x::ns,.al m::ms,h,i,n,e=>by
  simp only [modesOk,Bool.and_eq_true,decide_eq_true_eq] at h
  cases i with
  | zero=>simp at e; subst e; rw [h.1]; exact .inl rfl
  | succ i=>simpa using zl h.2 i n (by simpa using e)
 | x::ns,.ow m::ms,h,i,n,e=>by
  simp only [modesOk,Bool.and_eq_true,decide_eq_true_eq] at h
  cases i with
  | zero=>simp at e; subst e; rw [h.1.1,h.1.2]; exact .inr ⟨rfl,rfl⟩
  | succ i=>simpa using zl h.2 i n (by simpa using e)
 | _::_,[],h,_,_,_=>by simp [modesOk] at h
 | _::_,.px _::_,h,_,_,_=>by simp [modesOk] at h
 | _::_,.so _::_,h,_,_,_=>by simp [modesOk] at h
def blkOk (X:Cx) (scope:Scope) (N:List Str) (own:Nat) (cap:List Nat):Bool :=
 decide (scope.kind=.function) && scope.names.all (fun x=>(decide (x.2≠.cell) || decide (scope.names.lookup x.1=some .cell)) && (decide (x.2≠.local) || decide (scope.names.lookup x.1=some .local)) && (decide (x.2≠.free) || (decide (X.env.kindOf x.1=some .cell) || decide (X.env.kindOf x.1=some .free)))) &&
 decide (N.length=own+cap.length) && (List.range cap.length).all fun j=>match N[own+j]?,cap[j]? with
  | some x,some i=>decide (X.N[i]?=some x) && decide (scope.names.lookup x=some .free)
  | _,_=>false
theorem uc {X:Cx} {scope:Scope} {N:List Str} {own:Nat} {cap:List Nat} (h:blkOk X scope N own cap=true):BlkOk X scope N own cap:=by
 unfold blkOk at h
 simp only [Bool.and_eq_true,decide_eq_true_eq,List.all_eq_true,Bool.or_eq_true] at h
 obtain ⟨⟨⟨h1,h2⟩,h3⟩,h4⟩:=h
 refine ⟨h1,fun x hx hl=>((h2 x hx).1.1).elim (fun z=>absurd hl z) id,fun x hx hl=>((h2 x hx).1.2).elim (fun z=>absurd hl z) id,fun x hx hf=>((h2 x hx).2).elim (fun z=>absurd hf z) id,h3,fun j x hj=>?_⟩
 have hjl:j<cap.length:=by
  have:=(List.getElem?_eq_some_iff.mp hj).1
  omega
 have q:=h4 j (List.mem_range.mpr hjl)
 rw [hj] at q
 have hc:cap[j]?=some cap[j]:=by simp [hjl]
 rw [hc] at q
 simp only [Bool.and_eq_true,decide_eq_true_eq] at q
 exact ⟨_,hc,q.1,q.2⟩
def tyD:D→Option String
 | .non=>some "NoneType"
 | .bl _=>some "bool"
 | .int _=>some "int"
 | .str _=>some "str"
 | .lst _=>some "list"
 | .tup _=>some "tuple"
 | .dK _ _=>some "dict"
 | _=>none
def tyL (K:PySem.W.Frag) (H:Hp) (v:V) (t:String):Prop:=TyOf K H v (.type t)∨(t = "list"∧∃a xs,v=.ref a∧SqL K H a xs)
theorem Al.ty {K:PySem.W.Frag} {ct:Nat→Addr} {F H:Hp} {n:Nat} {d:D} {v:V} {t:String} (s:Same F H) (h:Al K ct F H n d v) (e:tyD d=some t):tyL K H v t:=by
 cases d with
 | non=>cases e; rw [h.non]; exact .inl .non
 | bl b=>cases e; rw [h.bl]; exact .inl (.bl b)
 | int b=>cases e; rw [h.int]; exact .inl (.int b)
 | str b=>cases e; rw [h.str]; exact .inl (.str b)
 | lst xs =>
  cases e
  obtain ⟨a,vs,rfl,ha,_⟩:=h.lst s
  exact .inr ⟨rfl,a,vs,rfl,ha⟩
 | tup xs =>
  cases e
  obtain ⟨a,vs,rfl,ha,_⟩:=h.tup s
  exact .inl (.tup ha)
 | dK ks xs =>
  cases e
  obtain ⟨a,vs,rfl,ha,_⟩:=h.dK s
  exact .inl (.dK ha)
 | _=>cases e
theorem zjv {X:Cx}:CallR X (.builtin "isinstance") (fun xs H Q=>∃x c t b,xs=[x,.ty c]∧tyL X.K H x t∧PySem.W.kitOne X.K (.type t) (.type c)=some b∧Q (.bl b) H):=by
 intro pins s σ H xs us Q I r h
 obtain ⟨x,c,t,b,rfl,ty,e,q⟩:=h
 rcases ty with ty | ⟨rfl,a,ys,rfl,hq⟩
 ·exact zlj pins s σ H _ us Q I r ⟨x,c,_,b,rfl,ty,e,q⟩
 ·obtain ⟨u,w',rfl,ru,rw'⟩:=vals2 r
  cases (show w'=Value.type c from rw')
  cases (show u=Value.ref a from ru)
  obtain ⟨its,rv,⟨o,n,h1,h2,_⟩,_⟩:=I.list hq
  exact PySem.W.kia_one PySem.W.kitx_list I.kIn ⟨o,h1,h2⟩ e (fun z=>nomatch z) fun tk=>⟨.bl b,H,I.tok tk,rfl,q⟩
def isiT (t c:String):Bool:=t == c || (t == "bool" && c == "int")
theorem zoo {K:PySem.W.Frag}:∀t∈(["NoneType","bool","int","str","list","tuple","dict"]:List String),∀c∈(["bool","int","str","list","tuple","dict"]:List String),PySem.W.kitOne K (.type t) (.type c)=some (isiT t c):=by
 intro t ht c hc
 simp only [List.mem_cons,List.not_mem_nil,or_false] at ht hc
 rcases ht with rfl | rfl | rfl | rfl | rfl | rfl | rfl <;> rcases hc with rfl | rfl | rfl | rfl | rfl | rfl <;> rfl
theorem zop {d:D} {t:String} (e:tyD d=some t):t∈(["NoneType","bool","int","str","list","tuple","dict"]:List String):=by
 cases d <;> simp [tyD] at e <;> subst e <;> decide
section
variable {X:Cx} {ct:Nat→Addr} {ms:List Mo} {rk n m k:Nat} {a b c e tg:Expr} {f g h:EF} {pos:Pos}
def isiD (c:String) (d:D):Option D:=(tyD d).bind fun t=>some (.bl (isiT t c))
theorem zhh {c:String} {pp p2:Pos} (hc:c∈(["bool","int","str","list","tuple","dict"]:List String)) (hm:X.mg "isinstance"=none) (hm2:X.mg c=none) (hb:bootBuiltins c=some (.type c)) (he:XE X ct ms n e f) (hg:Gl X "isinstance":=by rfl) (hg2:Gl X c:=by rfl) (hn2:Str.ofString c≠"__name__":=by decide) (hd2:(Str.ofString c == ("__debug__":Str))=false:=by decide)
  (hs1:starEach [e,.Name c p2] X.env=(false,eval e X.env)::starEach [.Name c p2] X.env:=by rfl) (hs2:starEach [.Name c p2] X.env=(false,eval (.Name c p2) X.env)::starEach [] X.env:=by rfl) (hpl:(backTo pos (starEach [.Name c p2] X.env)).any (·.1)=false:=by rfl) :
  XE X ct ms k (.Call (.Name "isinstance" pp) [e,.Name c p2] [] pos) (e1 (isiD c) f):=by
 obtain ⟨t,pt,qt⟩:=he
 refine ⟨_,zby zjv hg hm zaz (vg pt (vg (znn (v:=.ty c) hg2 hm2 hb rfl hn2 hd2) j8 hs2) hs1) (by decide) (by decide) hs1 hpl,fun F0 B F H ρ σ d Q rs e w=>?_⟩
 obtain ⟨d1,h1,h2⟩:=bind1 e
 obtain ⟨ty,h3,h4⟩:=bind1 h2
 cases h4
 exact qt F0 B F H ρ σ d1 _ rs h1 fun v F' H' x l=>⟨v,c,ty,_,rfl,l.ty x.fh h3,zoo _ (zop h3) _ hc,w _ F' H' x (Al.of (.bl _))⟩
end
end L3
namespace L3
open PySem PySem.Spec L2
open PyProof.Rows hiding St
def spLaw (K:PySem.W.Frag):Sp:=fun vs H Q _=>∃(a:Addr) (ns:List Int),vs=[.ref a]∧SqL K H a (ns.map V.int)∧ns.length≤63∧∀H',Q (.bl true) H'
theorem Dts.ints {K:PySem.W.Frag} {ct:Nat→Addr} {F:Hp}:∀ns:List Int,Dts K ct F (ns.map D.int) (ns.map V.int)
 | []=>.nil
 | n::ns=>.cons (.int n) (Dts.ints ns)
theorem zq9 {P:Program} {w:World} {K:PySem.W.Frag} {mg:Str→Option Value} {base:Heap} {k:Nat} {f:Addr} {fd:FuncData} {ps:List Str} {ct:Nat→Addr} {m:List D→Option D} (Fn:FnOk P w K mg base CX0 k f fd ps (LSp K ct [0] 0 m))
  (h:∀ns:List Int,ns.length≤63→m [.lst (ns.map .int)]=some (.bl true)):FnOk P w K mg base CX0 k f fd ps (spLaw K):=by
 have to:∀vs H Q E,spLaw K vs H Q E→LSp K ct [0] 0 m vs H Q E:=by
  rintro vs H Q E ⟨a,ns,rfl,hS,hl,q⟩
  refine ⟨H,[.lst (ns.map .int)],.bl true,.refl _,.cons (Dt.lst hS (Dts.ints ns)) .nil,h ns hl,fun v F' H' fp x o nd hf=>?_⟩
  have hv:v=.bl true:=by
   have o:Dt K ct F' (.bl true) v∧fp=[]:=o
   cases o.1
   rfl
  subst hv
  exact q H'
 exact ⟨fun vs H Q E z=>Fn.len vs H Q E (to vs H Q E z),fun A outer s H args us vs Q E hr e0 hb hv z=>Fn.run A outer s H args us vs Q E hr e0 hb hv (to vs H Q E z)⟩
theorem zfd {g:D→Env→Option Env} {b:SF} (I:List D→Env→Prop) (all:List D) (st:∀pre d post ρ,all=pre++d::post→I pre ρ→∃ρ1 ρ2,g d ρ=some ρ1∧(b ρ1=some (.nx ρ2)∨b ρ1=some (.ct ρ2))∧I (pre++[d]) ρ2):∀(ds pre:List D) (ρ:Env),all=pre++ds→I pre ρ →
  ∃ρ',forD g b ds ρ=some (.nx ρ')∧I all ρ'
 | [],pre,ρ,e,h=>⟨ρ,rfl,by rw [e,List.append_nil]; exact h⟩
 | d::ds,pre,ρ,e,h=>by
  obtain ⟨ρ1,ρ2,h1,h2,h3⟩:=st pre d ds ρ e h
  obtain ⟨ρ',h4,h5⟩:=zfd I all st ds (pre++[d]) ρ2 (by rw [e]; simp) h3
  refine ⟨ρ',?_,h5⟩
  show (g d ρ).bind _=_
  rw [h1]
  show (b ρ1).bind _=_
  rcases h2 with h2 | h2 <;> (rw [h2]; exact h4)
theorem zhi {g:D→Env→Option Env} {b:SF} (I:List D→Env→Prop) {ds:List D} {ρ:Env} (h:I [] ρ) (st:∀pre d post ρ,ds=pre++d::post→I pre ρ→∃ρ1 ρ2,g d ρ=some ρ1∧(b ρ1=some (.nx ρ2)∨b ρ1=some (.ct ρ2))∧I (pre++[d]) ρ2) :
  ∃ρ',forD g b ds ρ=some (.nx ρ')∧I ds ρ':=zfd I ds st ds [] ρ rfl h
theorem zra {α:Type} {all pre post:List α} {d:α} (h:all=pre++d::post):all[pre.length]?=some d:=by subst h; simp
theorem zfe {α S:Type} {g:D→Env→Option Env} {b:SF} (enc:α→D) (st:S→Env) (f:S→α→S) (P:S→Prop):∀(xs:List α) (s:S),P s →
  (∀s x,x∈xs→P s→∃ρ1,g (enc x) (st s)=some ρ1∧(b ρ1=some (.nx (st (f s x)))∨b ρ1=some (.ct (st (f s x))))∧P (f s x))→forD g b (xs.map enc) (st s)=some (.nx (st (xs.foldl f s)))∧P (xs.foldl f s)
 | [],s,hp,_=>⟨rfl,hp⟩
 | x::xs,s,hp,h=>by
  obtain ⟨ρ1,h1,h2,h3⟩:=h s x List.mem_cons_self hp
  have ih:=zfe enc st f P xs (f s x) h3 fun s y hy=>h s y (List.mem_cons_of_mem _ hy)
  refine ⟨?_,ih.2⟩
  show (g (enc x) (st s)).bind _=_
  rw [h1]
  show (b ρ1).bind _=_
  rcases h2 with h2 | h2 <;> (rw [h2]; exact ih.1)
theorem zff {g:D→Env→Option Env} {b:SF} (I:Nat→Env→Prop) (lo:Int):∀(n k:Nat) (ρ:Env),I k ρ →
  (∀j ρ,k≤j→j<k+n→I j ρ→∃ρ1 ρ2,g (.int (lo+(j:Int))) ρ=some ρ1∧(b ρ1=some (.nx ρ2)∨b ρ1=some (.ct ρ2))∧I (j+1) ρ2) →
  ∃ρ',forD g b ((List.range' k n).map fun (t:Nat)=>D.int (lo+(t:Int))) ρ=some (.nx ρ')∧I (k+n) ρ'
 | 0,k,ρ,h,_=>⟨ρ,rfl,h⟩
 | n+1,k,ρ,h,st=>by
  obtain ⟨ρ1,ρ2,h1,h2,h3⟩:=st k ρ (Nat.le_refl _) (by omega) h
  obtain ⟨ρ',h4,h5⟩:=zff I lo n (k+1) ρ2 h3 fun j ρ hj hl hI=>st j ρ (by omega) (by omega) hI
  refine ⟨ρ',?_,by rw [show k+(n+1)=k+1+n by omega]; exact h5⟩
  rw [List.range'_succ,List.map_cons]
  show (g _ ρ).bind _=_
  rw [h1]
  show (b ρ1).bind _=_
  rcases h2 with h2 | h2 <;> (rw [h2]; exact h4)
theorem zc9 {g:D→Env→Option Env} {b:SF} (I:Nat→Env→Prop) {lo:Int} {n:Nat} {ρ:Env} (h:I 0 ρ)
  (st:∀j ρ,j<n→I j ρ→∃ρ1 ρ2,g (.int (lo+(j:Int))) ρ=some ρ1∧(b ρ1=some (.nx ρ2)∨b ρ1=some (.ct ρ2))∧I (j+1) ρ2):∃ρ',forD g b (upto lo n) ρ=some (.nx ρ')∧I n ρ':=by
 obtain ⟨ρ',h1,h2⟩:=zff (g:=g) (b:=b) I lo n 0 ρ h fun j ρ _ hj hI=>st j ρ (by omega) hI
 rw [Nat.zero_add] at h2
 exact ⟨ρ',by unfold upto; rw [List.range_eq_range']; exact h1,h2⟩
theorem zan {S:Type} {c:BF} {b:SF} (st:S→Env) (t:S→Bool) (f:S→S) (μ:S→Nat) (P:S→Prop) (hc:∀s,P s→c (st s)=some (t s)) (hb:∀s,P s→t s=true→(b (st s)=some (.nx (st (f s)))∨b (st s)=some (.ct (st (f s))))∧P (f s)∧μ (f s) < μ s) :
  ∀(n:Nat) (s:S),P s→μ s<n→∃s',whileD c b n (st s)=some (.nx (st s'))∧P s'∧t s'=false∧∃j,s'=Nat.repeat f j s
 | 0,s,_,h=>absurd h (by omega)
 | n+1,s,hp,h=>by
  cases ht:t s with
  | false =>
   refine ⟨s,?_,hp,ht,0,rfl⟩
   show (c (st s)).bind _=_
   rw [hc s hp,ht]
   rfl
  | true =>
   obtain ⟨h1,h2,h3⟩:=hb s hp ht
   obtain ⟨s',h4,h5,h6,j,h7⟩:=zan st t f μ P hc hb n (f s) h2 (by omega)
   refine ⟨s',?_,h5,h6,j+1,?_⟩
   ·show (c (st s)).bind _=_
    rw [hc s hp,ht]
    show (b (st s)).bind _=_
    rcases h1 with h1 | h1 <;> (rw [h1]; exact h4)
   ·rw [h7]
    clear h4 h5 h6 h7
    induction j with
    | zero=>rfl
    | succ j ih=>show f (Nat.repeat f j (f s))=f (Nat.repeat f (j+1) s); rw [ih]
theorem zda {c:BF} {b:SF} (I:Env→Prop) (μ:Env→Nat) (st:∀ρ,I ρ→∃t,c ρ=some t∧(t=true→∃ρ',(b ρ=some (.nx ρ')∨b ρ=some (.ct ρ'))∧I ρ'∧μ ρ' < μ ρ)) :
  ∀(n:Nat) (ρ:Env),I ρ→μ ρ<n→∃ρ',whileD c b n ρ=some (.nx ρ')∧I ρ'∧c ρ'=some false
 | 0,_,_,h=>absurd h (by omega)
 | n+1,ρ,hI,h=>by
  obtain ⟨t,h1,h2⟩:=st ρ hI
  cases t with
  | false=>exact ⟨ρ,by show (c ρ).bind _=_; rw [h1]; rfl,hI,h1⟩
  | true =>
   obtain ⟨ρ',h3,h4,h5⟩:=h2 rfl
   obtain ⟨ρ2,h6,h7,h8⟩:=zda I μ st n ρ' h4 (by omega)
   refine ⟨ρ2,?_,h7,h8⟩
   show (c ρ).bind _=_
   rw [h1]
   show (b ρ).bind _=_
   rcases h3 with h3 | h3 <;> (rw [h3]; exact h6)
theorem zgi {n k:Nat} (h:n<2 ^ k) (hk:k≤9000):n<FUEL:=Nat.lt_of_lt_of_le h (Nat.pow_le_pow_right (by decide) hk)
theorem zgj {n:Nat} (h:n<1048576):n<FUEL:=zgi (k:=20) h (by decide)
theorem zjw {i j:Int} (h:j≠0):modD (.int i) (.int j)=some (.int (i.fmod j)):=by
 unfold modD
 by_cases h0:0<j
 ·simp [h0,Int.fmod_eq_emod_of_nonneg i (by omega:0≤j)]
 ·simp [h0,h]
theorem zbz {i j:Int} (h:j≠0) (hz:Sz 9000 j):fdivD (.int i) (.int j)=some (.int (i.fdiv j)):=by
 unfold fdivD
 by_cases h0:0<j∧j<4611686018427387904
 ·simp [h0,Int.fdiv_eq_ediv_of_nonneg i (by omega:0≤j)]
 ·have hz:j.natAbs<BIG:=hz
  simp [h0,h,hz]
theorem zjx {i j:Int} (h1:0<j) (h2:j<4611686018427387904):fdivD (.int i) (.int j)=some (.int (i / j)):=by unfold fdivD; simp [h1,h2]
theorem u4 {i j:Int} (h:0<j):modD (.int i) (.int j)=some (.int (i % j)):=by unfold modD; simp [h]
theorem zdb {i j:Int} (h1:-18446744073709551616<j) (h2:j<18446744073709551616):mulI (.int i) (.int j)=some (.int (i * j)):=by simp [mulI,i2c,mulOk,h1,h2]
theorem j9 {i j:Int} (h1:-18446744073709551616<i) (h2:i<18446744073709551616):mulI (.int i) (.int j)=some (.int (i * j)):=by simp [mulI,i2c,mulOk,h1,h2]
theorem zln {i j:Int} (h1:0≤j) (h2:j≤1000000) (h3:i.natAbs<18446744073709551616):powD (.int i) (.int j)=some (.int (i ^ j.toNat)):=by simp [powD,i2c,powOk,h1,h2,h3]
theorem zlo {i j:Int} (h1:0≤j) (h2:j≤1000000) (h3:i.natAbs<18446744073709551616):shlD (.int i) (.int j)=some (.int (i * 2 ^ j.toNat)):=by simp [shlD,i2c,powOk,h1,h2,h3]
theorem zhj {i j:Int} (h1:0≤j):shrD (.int i) (.int j)=some (.int (i / 2 ^ j.toNat)):=by simp [shrD,i2c,h1]
theorem zlp (i j:Int):addD (.int i) (.int j)=some (.int (i+j)):=rfl
theorem zd0 {xs ys:List D} (h:xs.length+ys.length≤16777216):addD (.lst xs) (.lst ys)=some (.lst (xs++ys)):=by simp [addD,h]
theorem zlq {x y:Str} (h:x.length+y.length≤16777216):addD (.str x) (.str y)=some (.str (x++y)):=by simp [addD,h]
theorem zlr (i j:Int):subD (.int i) (.int j)=some (.int (i-j)):=rfl
theorem zjy (i j:Int):ltD (.int i) (.int j)=some (.bl (decide (i<j))):=rfl
theorem zoq (i j:Int):leD (.int i) (.int j)=some (.bl (decide (i≤j))):=rfl
theorem zbf (i j:Int):gtD (.int i) (.int j)=some (.bl (decide (j<i))):=rfl
theorem zor (i j:Int):geD (.int i) (.int j)=some (.bl (decide (j≤i))):=rfl
theorem zls (i:Int):negD (.int i)=some (.int (-i)):=rfl
theorem vf (ds:List D):lenD [.lst ds]=some (.int ds.length):=rfl
theorem zlt (ds:List D):lenD [.tup ds]=some (.int ds.length):=rfl
theorem zlu (i:Int):absD [.int i]=some (.int (if i<0 then -i else i)):=rfl
theorem zfg (i j:Int):max2D [.int i,.int j]=some (.int (if j > i then j else i)):=rfl
theorem zjz (i j:Int):min2D [.int i,.int j]=some (.int (if j<i then j else i)):=rfl
theorem zos (neg:Bool) (d:D):isD neg d .non=some (.bl (if neg then !d.isN else d.isN)):=by cases d <;> rfl
theorem zrb (neg b:Bool) (d:D):isD neg d (.bl b)=some (.bl (if neg then !d.isB b else d.isB b)):=by cases d <;> rfl
theorem zrc (b:Bool):asB (.bl b)=some b:=rfl
theorem zot (ds:List D):asL (.lst ds)=some ds:=rfl
theorem zdc (ds:List D) (l h:Option Int):sliceD (.lst ds) l h=some (.lst (cutD ds l h)):=rfl
theorem zb0 {j:Int} (h1:-4611686018427387904≤j) (h2:j<4611686018427387904):rng1 [.int j]=some (upto 0 j.toNat):=by simp [rng1,h1,h2]
theorem zou {α:Type} (enc:α→D) {xs:List α} {i:Int} {j:Nat} {x:α} (hi:i=(j:Int)∨i=(j:Int)-xs.length) (h:xs[j]?=some x):atI (xs.map enc) i=some (enc x):=by
 have hj:=(List.getElem?_eq_some_iff.mp h).1
 unfold L2.atI L2.ixN
 rw [List.length_map]
 rcases hi with rfl | rfl
 ·rw [if_pos (by omega),if_pos (by omega)]
  simp [h]
 ·rw [if_neg (by omega),if_pos (by omega)]
  have:((j:Int)-(xs.length:Int)+(xs.length:Int)).toNat=j:=by omega
  simp [this,h]
theorem zfh (xs:List D) (k:Nat):cutD xs (some (k:Int)) none=xs.drop k:=by
 unfold cutD
 rw [HT.sIx_none,HT.sIx_nat]
 rcases Nat.le_total k xs.length with h | h
 ·rw [Nat.min_eq_left h,List.take_of_length_le (by rw [List.length_drop]; omega)]
 ·rw [Nat.min_eq_right h,List.drop_of_length_le (Nat.le_refl _),List.drop_of_length_le h]
  simp
theorem zd1 (xs:List D) (k l:Nat):cutD xs (some (k:Int)) (some (l:Int))=(xs.drop k).take (l-k):=by
 unfold cutD
 rw [HT.sIx_nat,HT.sIx_nat]
 rcases Nat.le_total k xs.length with h | h
 ·rw [Nat.min_eq_left h]
  rcases Nat.le_total l xs.length with g | g
  ·rw [Nat.min_eq_left g]
  ·rw [Nat.min_eq_right g,List.take_of_length_le (by rw [List.length_drop]; omega),List.take_of_length_le (by rw [List.length_drop]; omega)]
 ·rw [Nat.min_eq_right h,List.drop_of_length_le (Nat.le_refl _),List.drop_of_length_le h]
  simp
theorem zlv {i j:Int} {n m:Nat} (h:Sz n i) (h':Sz m j) (hn:n≤100000) (hm:m≤100000):mulOk i j:=.inr (.inr ⟨h.mono hn,h'.mono hm⟩)
theorem zbg {i j:Int} {n m:Nat} (h:Sz n i) (h':Sz m j) (hn:n≤100000) (hm:m≤100000):mulI (.int i) (.int j)=some (.int (i * j)):=by
 have:=zlv h h' hn hm
 simp [mulI,i2c,this]
theorem zfi {α:Type} {g:D→Env→Option Env} {p:BF} {f:EF} {ρ0:Env} (enc:α→D) (q:α→Bool) (h:α→D):∀(xs:List α),(∀x∈xs,∃ρ1,g (enc x) ρ0=some ρ1∧p ρ1=some (q x)∧(q x=true→f ρ1=some (h x)))→compD g p f ρ0 (xs.map enc)=some ((xs.filter q).map h)
 | [],_=>rfl
 | x::xs,H=>by
  obtain ⟨ρ1,h1,h2,h3⟩:=H x List.mem_cons_self
  have ih:=zfi enc q h xs fun y hy=>H y (List.mem_cons_of_mem _ hy)
  show (g (enc x) ρ0).bind _=_
  rw [h1]
  show (p ρ1).bind _=_
  rw [h2]
  cases hq:q x with
  | false =>
   rw [Option.bind_some,if_neg Bool.false_ne_true,List.filter_cons_of_neg (by rw [hq]; exact Bool.false_ne_true)]
   exact ih
  | true =>
   rw [Option.bind_some,if_pos rfl,h3 hq,List.filter_cons_of_pos hq]
   show (compD g p f ρ0 (xs.map enc)).bind _=_
   rw [ih]
   rfl
end L3
namespace L3
open PySem PySem.Spec L2
structure EncD (α:Type) [DecidableEq α] where
 enc:α→D
 py:α→PyData
 dep:Nat
 is:∀x,(enc x).py=some (py x)
 lay:∀x,(py x).canLay0=true
 dp:∀x,(py x).depth≤dep
 eqv:∀x y,PyData.eqv (py x) (py y)=decide (x=y)
section
variable {α β γ δ ε:Type} [DecidableEq α] [DecidableEq β] [DecidableEq γ] [DecidableEq δ] [DecidableEq ε]
theorem EncD.eq (E:EncD α) (h:E.dep≤60) {neg:Bool} (x y:α):eqD neg (E.enc x) (E.enc y)=some (.bl (if neg then !decide (x=y) else decide (x=y))):=by
 have h1:pyOk (E.py x)=true:=by unfold pyOk; rw [E.lay x,decide_eq_true (Nat.le_trans (E.dp x) h)]; rfl
 have h2:pyOk (E.py y)=true:=by unfold pyOk; rw [E.lay y,decide_eq_true (Nat.le_trans (E.dp y) h)]; rfl
 unfold eqD
 rw [E.is x,E.is y]
 simp only [Option.bind_some]
 rw [if_pos ⟨h1,h2⟩,E.eqv]
def Ei:EncD Int:=⟨.int,.int,0,fun _=>by simp [D.py],fun _=>rfl,fun _=>by simp [PyData.depth],fun x y=>by show (x == y)=_; by_cases h:x=y <;> simp [h]⟩
def Eb:EncD Bool:=⟨.bl,.bool,0,fun _=>by simp [D.py],fun _=>rfl,fun _=>by simp [PyData.depth],fun x y=>by cases x <;> cases y <;> rfl⟩
theorem zj0 (E:EncD α):∀xs:List α,D.pys (xs.map E.enc)=some (xs.map E.py)
 | []=>by simp [D.pys]
 | x::xs=>by simp [D.pys,E.is x,zj0 E xs]
theorem zdd (E:EncD α):∀xs:List α,PyData.canLayAll0 (xs.map E.py)=true
 | []=>by simp [PyData.canLayAll0]
 | x::xs=>by simp [PyData.canLayAll0,E.lay x,zdd E xs]
theorem zde (E:EncD α):∀xs:List α,PyData.depthAll (xs.map E.py)≤E.dep
 | []=>by simp [PyData.depthAll]
 | x::xs=>by
  have:=zde E xs
  have:=E.dp x
  simp only [List.map_cons,PyData.depthAll]
  omega
theorem zdf (E:EncD α):∀xs ys:List α,PyData.eqvAll (xs.map E.py) (ys.map E.py)=decide (xs=ys)
 | [],[]=>by simp [PyData.eqvAll]
 | [],_::_=>by simp [PyData.eqvAll]
 | _::_,[]=>by simp [PyData.eqvAll]
 | x::xs,y::ys=>by
  simp only [List.map_cons,PyData.eqvAll,E.eqv,zdf E xs ys]
  by_cases h:x=y <;> by_cases g:xs=ys <;> simp [h,g]
def El (E:EncD α):EncD (List α):=⟨fun xs=>.lst (xs.map E.enc),fun xs=>.list (xs.map E.py),E.dep+1,fun xs=>by simp [D.py,zj0],fun xs=>by simp [PyData.canLay0,zdd],fun xs=>by have:=zde E xs; simp only [PyData.depth]; omega,fun xs ys=>by simp only [PyData.eqv,zdf]⟩
def E2 (A:EncD α) (B:EncD β):EncD (α×β):=⟨fun p=>.tup [A.enc p.1,B.enc p.2],fun p=>.tuple [A.py p.1,B.py p.2],max A.dep B.dep+1,fun p=>by simp [D.py,D.pys,A.is,B.is],fun p=>by simp [PyData.canLay0,PyData.canLayAll0,A.lay,B.lay],
 fun p=>by have:=A.dp p.1; have:=B.dp p.2; simp only [PyData.depth,PyData.depthAll]; omega,fun p q=>by
  simp only [PyData.eqv,PyData.eqvAll,A.eqv,B.eqv]
  obtain ⟨a,b⟩:=p
  obtain ⟨c,d⟩:=q
  by_cases h:a=c <;> by_cases g:b=d <;> simp [h,g]⟩
def E4 (A:EncD α) (B:EncD β) (C:EncD γ) (M:EncD δ):EncD (α×β×γ×δ):=⟨fun p=>.tup [A.enc p.1,B.enc p.2.1,C.enc p.2.2.1,M.enc p.2.2.2],fun p=>.tuple [A.py p.1,B.py p.2.1,C.py p.2.2.1,M.py p.2.2.2],max (max A.dep B.dep) (max C.dep M.dep)+1,fun p=>by simp [D.py,D.pys,A.is,B.is,C.is,M.is],fun p=>by simp [PyData.canLay0,PyData.canLayAll0,A.lay,B.lay,C.lay,M.lay],
 fun p=>by have:=A.dp p.1; have:=B.dp p.2.1; have:=C.dp p.2.2.1; have:=M.dp p.2.2.2; simp only [PyData.depth,PyData.depthAll]; omega,fun p q=>by
  simp only [PyData.eqv,PyData.eqvAll,A.eqv,B.eqv,C.eqv,M.eqv]
  obtain ⟨a,b,c,d⟩:=p
  obtain ⟨a',b',c',d'⟩:=q
  by_cases h:a=a' <;> by_cases g:b=b' <;> by_cases k:c=c' <;> by_cases l:d=d' <;> simp [h,g,k,l]⟩
end
theorem zd2 {neg:Bool} (a b:Int):eqD neg (.int a) (.int b)=some (.bl (if neg then !decide (a=b) else decide (a=b))):=Ei.eq (by decide) a b
theorem zrd {neg:Bool} (a b:Bool):eqD neg (.bl a) (.bl b)=some (.bl (if neg then !decide (a=b) else decide (a=b))):=Eb.eq (by decide) a b
end L3
namespace L3
open PySem PySem.Spec L2
open PyProof.Rows hiding St
section
variable {X:Cx} {ct:Nat→Addr} {K:PySem.W.Frag} {n m k:Nat}
theorem IntsAre.of {ns:List Int} {us:List Value} (h:Vals (ns.map V.int) us):IntsAre us ns:=zid h
theorem za5 (hc:X.calm=true):CallR X (.builtin "sum") (fun xs H Q=>∃(a:Addr) (ns:List Int),xs=[.ref a]∧SqL X.K H a (ns.map V.int)∧Q (.int ns.sum) H):=by
 intro pins s σ H xs us Q I r h
 obtain ⟨a,ns,rfl,hq,q⟩:=h
 obtain ⟨u,rfl,ru⟩:=r.one
 cases (show u=Value.ref a from ru)
 obtain ⟨its,rv,pl,hz⟩:=I.list hq
 have hi:=IntsAre.of rv
 obtain ⟨ys,hx⟩:=hi.allInts.items
 have hl':s.heap.IsList a (intItems ys):=hx ▸ pl.isList
 refine sum_intListG (I.ok.hd hc) hl' fun h' tk t' hk=>?_
 have e1:ns=ys.toList.map (·.1):=by
  rw [← nums_intItems,← hx]
  exact (show numsOf its.toArray.toList=ns from hi.numsOf).symm
 have e2:preSum (numAt ys) ys.size=ns.sum:=by
  rw [preSum_eq,List.take_of_length_le (by simp),e1]
 rw [e2]
 exact ⟨.int ns.sum,H,I.kept (t':=tk) hk,⟨_,rfl⟩,q⟩
theorem zj1 (hc:X.calm=true):CallR X (.builtin "max") (fun xs H Q=>∃(a:Addr) (ns:List Int),xs=[.ref a]∧SqL X.K H a (ns.map V.int)∧ns≠[]∧∀M,M∈ns→(∀z∈ns,z≤M)→Q (.int M) H):=by
 intro pins s σ H xs us Q I r h
 obtain ⟨a,ns,rfl,hq,hne,q⟩:=h
 obtain ⟨u,rfl,ru⟩:=r.one
 cases (show u=Value.ref a from ru)
 obtain ⟨its,rv,pl,hz⟩:=I.list hq
 have hi:=IntsAre.of rv
 obtain ⟨ys,e⟩:=hi.allInts.items
 have hns:ns=ys.toList.map (·.1):=by rw [← hi.numsOf,← nums_intItems,← e]
 have hsz:0<ys.size:=by
  have h3:0<ns.length:=List.length_pos_iff.mpr hne
  rw [hns,List.length_map,Array.length_toList] at h3; exact h3
 have hl':s.heap.IsList a (intItems ys):=e ▸ pl.isList
 refine max_intList (I.ok.hd hc) hl' hsz fun v h' tk hv hk=>?_
 obtain ⟨t,rfl⟩:=intItems_at hv
 obtain ⟨h1,h2⟩:=argBest_gt (numAt ys) (ys.size-1)
 refine ⟨.int (numAt ys (argBest (fun i j=>decide (numAt ys i > numAt ys j)) (ys.size-1))),H,I.kept (t':=tk) hk,⟨_,rfl⟩,q _ ?_ fun z hz=>?_⟩
 ·rw [hns,numAt_eq]; exact getD_mem (by rw [List.length_map,Array.length_toList]; omega)
 ·rw [hns] at hz
  obtain ⟨j,hj,rfl⟩:=mem_getD hz
  rw [List.length_map,Array.length_toList] at hj
  rw [← numAt_eq]; exact h2 j (by omega)
theorem zj2 (hc:X.calm=true):CallR X (.builtin "min") (fun xs H Q=>∃(a:Addr) (ns:List Int),xs=[.ref a]∧SqL X.K H a (ns.map V.int)∧ns≠[]∧∀M,M∈ns→(∀z∈ns,M≤z)→Q (.int M) H):=by
 intro pins s σ H xs us Q I r h
 obtain ⟨a,ns,rfl,hq,hne,q⟩:=h
 obtain ⟨u,rfl,ru⟩:=r.one
 cases (show u=Value.ref a from ru)
 obtain ⟨its,rv,pl,hz⟩:=I.list hq
 have hi:=IntsAre.of rv
 obtain ⟨ys,e⟩:=hi.allInts.items
 have hns:ns=ys.toList.map (·.1):=by rw [← hi.numsOf,← nums_intItems,← e]
 have hsz:0<ys.size:=by
  have h3:0<ns.length:=List.length_pos_iff.mpr hne
  rw [hns,List.length_map,Array.length_toList] at h3; exact h3
 have hl':s.heap.IsList a (intItems ys):=e ▸ pl.isList
 refine min_intList (I.ok.hd hc) hl' hsz fun v h' tk hv hk=>?_
 obtain ⟨t,rfl⟩:=intItems_at hv
 obtain ⟨h1,h2⟩:=argBest_lt (numAt ys) (ys.size-1)
 refine ⟨.int (numAt ys (argBest (fun i j=>decide (numAt ys i<numAt ys j)) (ys.size-1))),H,I.kept (t':=tk) hk,⟨_,rfl⟩,q _ ?_ fun z hz=>?_⟩
 ·rw [hns,numAt_eq]; exact getD_mem (by rw [List.length_map,Array.length_toList]; omega)
 ·rw [hns] at hz
  obtain ⟨j,hj,rfl⟩:=mem_getD hz
  rw [List.length_map,Array.length_toList] at hj
  rw [← numAt_eq]; exact h2 j (by omega)
theorem zfj:∀{bs:List Bool} {us:List Value},Vals (bs.map V.bl) us→us=bs.map Value.bool
 | [],_,.nil=>rfl
 | b::bs,_,.cons r t=>by rw [zfj t]; cases (show _=Value.bool b from r); rfl
theorem zfk (hc:X.calm=true):CallR X (.builtin "all") (fun xs H Q=>∃(a:Addr) (bs:List Bool),xs=[.ref a]∧SqL X.K H a (bs.map V.bl)∧Q (.bl (bs.all id)) H):=by
 intro pins s σ H xs us Q I r h
 obtain ⟨a,bs,rfl,hq,q⟩:=h
 obtain ⟨u,rfl,ru⟩:=r.one
 cases (show u=Value.ref a from ru)
 obtain ⟨its,rv,pl,hz⟩:=I.list hq
 have hb:=zfj rv
 subst hb
 have hl:=pl.isList
 have hlt:a<s.heap.objs.size:=by obtain ⟨_,e,_⟩:=hl; exact Heap.lt_size e
 refine PySem.call_all_walk (wpAny_pyIter_list hl ?_)
 refine ⟨s.heap.objs.size,[s.heap.objs.size,a],[s.heap.objs.size],(bs.map Value.bool).toArray.size,_,_,fun i=>(bs[i]?).getD true,rfl,Walks.list (A:=X.A.in1) (I.ok.hd hc) _ a (Nat.ne_of_lt hlt) (bs.map Value.bool).toArray,
  ⟨⟨_,Heap.get?_push_size _ rfl,rfl,rfl⟩,hl.push _⟩,fun i v s' Q' E' hP hQ=>?_,fun h' tk hk=>?_⟩
 ·have hP:(bs.map Value.bool)[i]?=some v:=by simpa using hP
  rw [List.getElem?_map] at hP
  obtain ⟨b,hb,rfl⟩:=Option.map_eq_some_iff.mp hP
  simp only [hb,Option.getD_some] at hQ
  exact wpAny_truthy_bool hQ
 ·have e:((List.range (bs.map Value.bool).toArray.size).all fun i=>(bs[i]?).getD true)=bs.all id:=by
   rw [List.size_toArray,List.length_map]; exact PyProof.Rows.LSm.range_all bs
  rw [e]
  refine ⟨.bl (bs.all id),H,I.kept (t':=tk) fun b o hbo=>hk b o (fun hm=>?_) (Heap.get?_push_of_some _ hbo),rfl,q⟩
  rw [List.mem_singleton.mp hm] at hbo
  exact Nat.lt_irrefl _ (Heap.lt_size hbo)
def intsD:List D→Option (List Int)
 | []=>some []
 | .int i::ds=>(intsD ds).bind fun ns=>some (i::ns)
 | _=>none
theorem zbh:∀{ds:List D} {ns:List Int},intsD ds=some ns→ds=ns.map .int
 | [],_,e=>by cases e; rfl
 | d::ds,ns,e=>by
  cases d with
  | int i =>
   obtain ⟨ms,h1,h2⟩:=bind1 (show (intsD ds).bind _=_ from e)
   cases h2
   rw [zbh h1]; rfl
  | _=>cases e
theorem qm:∀ns:List Int,intsD (ns.map .int)=some ns
 | []=>rfl
 | n::ns=>by show (intsD (ns.map .int)).bind _=_; rw [qm ns]; rfl
theorem Pr.intV {F G:Hp}:∀{ns:List Int} {vs:List V},Pr (Al K ct F G n) (ns.map .int) vs→vs=ns.map V.int
 | [],_,.nil=>rfl
 | i::ns,_,.cons h t=>by rw [Pr.intV t,h.int]; rfl
def boolsD:List D→Option (List Bool)
 | []=>some []
 | .bl i::ds=>(boolsD ds).bind fun ns=>some (i::ns)
 | _=>none
theorem zci:∀{ds:List D} {ns:List Bool},boolsD ds=some ns→ds=ns.map .bl
 | [],_,e=>by cases e; rfl
 | d::ds,ns,e=>by
  cases d with
  | bl i =>
   obtain ⟨ms,h1,h2⟩:=bind1 (show (boolsD ds).bind _=_ from e)
   cases h2
   rw [zci h1]; rfl
  | _=>cases e
theorem Pr.blV {F G:Hp}:∀{ns:List Bool} {vs:List V},Pr (Al K ct F G n) (ns.map .bl) vs→vs=ns.map V.bl
 | [],_,.nil=>rfl
 | i::ns,_,.cons h t=>by rw [Pr.blV t,h.bl]; rfl
def maxI:List Int→Option Int
 | []=>none
 | x::xs=>some (xs.foldl max x)
def minI:List Int→Option Int
 | []=>none
 | x::xs=>some (xs.foldl min x)
theorem zfl:∀(xs:List Int) (x:Int),(xs.foldl max x=x∨xs.foldl max x∈xs)∧x≤xs.foldl max x∧∀z∈xs,z≤xs.foldl max x
 | [],x=>⟨.inl rfl,Int.le_refl _,fun z h=>by cases h⟩
 | y::xs,x=>by
  obtain ⟨h1,h2,h3⟩:=zfl xs (max x y)
  refine ⟨?_,by show x≤xs.foldl max (max x y); omega,fun z hz=>?_⟩
  ·rcases h1 with h1 | h1
   ·show xs.foldl max (max x y)=x∨xs.foldl max (max x y)∈y::xs
    rw [h1]
    rcases Int.le_total x y with h | h
    ·rw [Int.max_eq_right h]; exact .inr List.mem_cons_self
    ·rw [Int.max_eq_left h]; exact .inl rfl
   ·exact .inr (List.mem_cons_of_mem _ h1)
  ·rcases List.mem_cons.mp hz with rfl | hz
   ·show z≤xs.foldl max (max x z); omega
   ·exact h3 z hz
theorem zfm:∀(xs:List Int) (x:Int),(xs.foldl min x=x∨xs.foldl min x∈xs)∧xs.foldl min x≤x∧∀z∈xs,xs.foldl min x≤z
 | [],x=>⟨.inl rfl,Int.le_refl _,fun z h=>by cases h⟩
 | y::xs,x=>by
  obtain ⟨h1,h2,h3⟩:=zfm xs (min x y)
  refine ⟨?_,by show xs.foldl min (min x y)≤x; omega,fun z hz=>?_⟩
  ·rcases h1 with h1 | h1
   ·show xs.foldl min (min x y)=x∨xs.foldl min (min x y)∈y::xs
    rw [h1]
    rcases Int.le_total x y with h | h
    ·rw [Int.min_eq_left h]; exact .inl rfl
    ·rw [Int.min_eq_right h]; exact .inr List.mem_cons_self
   ·exact .inr (List.mem_cons_of_mem _ h1)
  ·rcases List.mem_cons.mp hz with rfl | hz
   ·show xs.foldl min (min x z)≤z; omega
   ·exact h3 z hz
theorem zhk {ns:List Int} {M:Int} (h:maxI ns=some M):M∈ns∧∀z∈ns,z≤M:=by
 cases ns with
 | nil=>cases h
 | cons x xs =>
  cases h
  obtain ⟨h1,h2,h3⟩:=zfl xs x
  refine ⟨?_,fun z hz=>?_⟩
  ·rcases h1 with h1 | h1
   ·rw [h1]; exact List.mem_cons_self
   ·exact List.mem_cons_of_mem _ h1
  ·rcases List.mem_cons.mp hz with rfl | hz
   ·exact h2
   ·exact h3 z hz
theorem zhl {ns:List Int} {M:Int} (h:minI ns=some M):M∈ns∧∀z∈ns,M≤z:=by
 cases ns with
 | nil=>cases h
 | cons x xs =>
  cases h
  obtain ⟨h1,h2,h3⟩:=zfm xs x
  refine ⟨?_,fun z hz=>?_⟩
  ·rcases h1 with h1 | h1
   ·rw [h1]; exact List.mem_cons_self
   ·exact List.mem_cons_of_mem _ h1
  ·rcases List.mem_cons.mp hz with rfl | hz
   ·exact h2
   ·exact h3 z hz
def sumD:List D→Option D
 | [.lst ds]=>(intsD ds).bind fun ns=>some (.int ns.sum)
 | _=>none
def maxD:List D→Option D
 | [.lst ds]=>(intsD ds).bind fun ns=>(maxI ns).bind fun M=>some (.int M)
 | _=>none
def minD:List D→Option D
 | [.lst ds]=>(intsD ds).bind fun ns=>(minI ns).bind fun M=>some (.int M)
 | _=>none
def allD:List D→Option D
 | [.lst ds]=>(boolsD ds).bind fun bs=>some (.bl (bs.all id))
 | _=>none
theorem zd3 {F H:Hp} {vs:List V} {ds:List D} {ns:List Int} (s:Same F H) (l:AlL K ct F H [n] [.lst ds] vs) (e:intsD ds=some ns):∃a,vs=[.ref a]∧SqL K H a (ns.map V.int):=by
 cases l with
 | cons h t =>
  cases t
  obtain ⟨a,us,rfl,ha,hp⟩:=h.lst s
  have:=zbh e
  subst this
  have:=hp.intV
  subst this
  exact ⟨a,rfl,ha⟩
theorem zd4:OpN K ct [n] k (fun xs H Q=>∃(a:Addr) (ns:List Int),xs=[.ref a]∧SqL K H a (ns.map V.int)∧Q (.int ns.sum) H) sumD:=by
 intro F H vs ds d Q s l e w
 match ds,l,e with
 | [.lst xs],l,e =>
  obtain ⟨ns,h1,h2⟩:=bind1 (show (intsD xs).bind _=_ from e)
  cases h2
  obtain ⟨a,rfl,ha⟩:=zd3 s l h1
  exact ⟨a,ns,rfl,ha,w _ F H (.refl s) (Al.of (.int _))⟩
theorem zov:OpN K ct [n] k (fun xs H Q=>∃(a:Addr) (ns:List Int),xs=[.ref a]∧SqL K H a (ns.map V.int)∧ns≠[]∧∀M,M∈ns→(∀z∈ns,z≤M)→Q (.int M) H) maxD:=by
 intro F H vs ds d Q s l e w
 match ds,l,e with
 | [.lst xs],l,e =>
  obtain ⟨ns,h1,h2⟩:=bind1 (show (intsD xs).bind _=_ from e)
  obtain ⟨M,h3,h4⟩:=bind1 h2
  cases h4
  obtain ⟨a,rfl,ha⟩:=zd3 s l h1
  obtain ⟨m1,m2⟩:=zhk h3
  refine ⟨a,ns,rfl,ha,(fun z=>by rw [z] at m1; cases m1),fun M' h5 h6=>?_⟩
  have:M'=M:=Int.le_antisymm (m2 M' h5) (h6 M m1)
  subst this
  exact w _ F H (.refl s) (Al.of (.int _))
theorem zow:OpN K ct [n] k (fun xs H Q=>∃(a:Addr) (ns:List Int),xs=[.ref a]∧SqL K H a (ns.map V.int)∧ns≠[]∧∀M,M∈ns→(∀z∈ns,M≤z)→Q (.int M) H) minD:=by
 intro F H vs ds d Q s l e w
 match ds,l,e with
 | [.lst xs],l,e =>
  obtain ⟨ns,h1,h2⟩:=bind1 (show (intsD xs).bind _=_ from e)
  obtain ⟨M,h3,h4⟩:=bind1 h2
  cases h4
  obtain ⟨a,rfl,ha⟩:=zd3 s l h1
  obtain ⟨m1,m2⟩:=zhl h3
  refine ⟨a,ns,rfl,ha,(fun z=>by rw [z] at m1; cases m1),fun M' h5 h6=>?_⟩
  have:M'=M:=Int.le_antisymm (h6 M m1) (m2 M' h5)
  subst this
  exact w _ F H (.refl s) (Al.of (.int _))
theorem zj3:OpN K ct [n] k (fun xs H Q=>∃(a:Addr) (bs:List Bool),xs=[.ref a]∧SqL K H a (bs.map V.bl)∧Q (.bl (bs.all id)) H) allD:=by
 intro F H vs ds d Q s l e w
 match ds,l,e with
 | [.lst xs],l,e =>
  obtain ⟨bs,h1,h2⟩:=bind1 (show (boolsD xs).bind _=_ from e)
  cases h2
  cases l with
  | cons h t =>
   cases t
   obtain ⟨a,us,rfl,ha,hp⟩:=h.lst s
   have:=zci h1
   subst this
   have:=hp.blV
   subst this
   exact ⟨a,bs,rfl,ha,w _ F H (.refl s) (Al.of (.bl _))⟩
end
end L3
namespace L3
open PySem PySem.Spec L2
open PyProof.Rows hiding St
def hid (H:Hp) (x:Addr):Hp:=fun b=>if b=x then none else H b
theorem zb1 (H:Hp) (x:Addr):Same (hid H x) H:=fun b o h=>by
 unfold hid at h
 by_cases e:b=x
 ·rw [if_pos e] at h; cases h
 ·rw [if_neg e] at h; exact h
theorem zhm (H:Hp) (x:Addr):hid H x x=none:=if_pos rfl
theorem je {H:Hp} {x b:Addr} (h:b≠x):hid H x b=H b:=if_neg h
def ISp (K:PySem.W.Frag) (ct:Nat→Addr) (cs:List Nat) (pm:List Nat) (mi:Nat→List D→Option D):Sp:=fun vs H Q _=>∃(F:Hp) (c:Nat) (ds:List D) (d:D) (x dx:Addr) (us:List V),c∈cs∧vs=.ref x::us∧H x=some (.ins (ct c) dx [])∧F x=none∧Same F H∧AlL K ct F (hid H x) pm ds us∧mi c ds=some d ∧
 ∀F' H',Same F F'→Same (hid H x) H'→Same F' H'→(∀a o,hid H x a=some o→F a=none→F' a=none)→F' x=none→Ow K ct F' H' 1 d (.ref x) [x]→Q .non H'
theorem ISp.len {K:PySem.W.Frag} {ct:Nat→Addr} {cs pm:List Nat} {mi:Nat→List D→Option D} {ps:List Str} (h:pm.length+1=ps.length):∀vs H Q E,ISp K ct cs pm mi vs H Q E→vs.length=ps.length:=by
 rintro vs H Q E ⟨F,c,ds,d,x,dx,us,_,rfl,_,_,_,l,_⟩
 rw [List.length_cons,l.length,h]
def iOf (N:List Str) (b:SF) (c:Nat) (ds:List D):Option D:=(b (some (.obj c [] [])::startD N.tail ds)).bind fun o=>match o with
 | .nx ρ=>(ρ[0]?).join
 | _=>none
section
variable {X:Cx} {ct:Nat→Addr} {ms:List Mo} {rk n m k:Nat} {a b c e tg:Expr} {f g h:EF} {u w:SF} {pos:Pos}
theorem qo {P:Program} {w:World} {K:PySem.W.Frag} {mg:Str→Option Value} {base:Heap} {x qual:Str} {st:Stmt} {fa:Addr} {fd:FuncData} {N0:Str} {N ps:List Str} {kk:Nat} {cs pm:List Nat} {bf:SF} (Fn:Fun2 K x qual st fa fd) (S:FnScope (N0::N) ps (defScope st)) (hpm:pm.length+1=ps.length) (hms:ms.length=N.length) (hle:pm.length≤N.length)
  (hmo:∀(i n:Nat),pm[i]?=some n→ms[i]?=some (Mo.al n)∨(n=0∧ms[i]?=some (Mo.ow 0)))
  (body:∀(x:Addr) (cdv:Value) (A:Around) (outer:List PySem.Env) (s:Shared) (H:Hp) (E:XK),Room kk (A.deeper (envOfC qual (defScope st) s.heap.objs.size fa cdv))→XSs (cxOf CX0 P w K mg base (N0::N) qual (defScope st) fa cdv A outer s H E).nox ct (.so x::ms) rk (defBody st) bf) :
  FnOk P w K mg base CX0 (kk+1) fa fd ps (ISp K ct cs pm (iOf (N0::N) bf)):=by
 refine Fn.ok S (ISp.len hpm) fun cdv A outer s H vs Q E hr h=>?_
 obtain ⟨F,c,ds,d,x,dx,us,hc,rfl,hx,hF,sF,l,hm,q⟩:=h
 obtain ⟨t,pt,qt⟩:=body x cdv A outer s H E hr
 refine ⟨t,pt,?_⟩
 obtain ⟨o,h1,h2⟩:=bind1 hm
 have hdl:ds.length=us.length:=l.length'
 have hul:us.length=pm.length:=l.length
 have ow:Ow K ct F H 1 (.obj c [] []) (.ref x) [x]:=.inr (OwC.obj (vs:=[]) hF hx rfl .nil)
 have sFB:Same F (hid H x):=fun b o hb=>by
  rw [je (fun e=>by rw [e,hF] at hb; cases hb)]
  exact sF _ _ hb
 refine qt F (hid H x) F H (some (.obj c [] [])::startD N ds) (L2.start (N0::N) (.ref x::us)) o _ ⟨.refl _,zb1 H x,sF,fun _ _ _ h=>h,[x],?_,by simp,fun a z=>by rw [List.mem_singleton] at z; subst z; exact zhm H _⟩ h1 ?_
 ·have e:L2.start (N0::N) (.ref x::us)=some (.ref x)::(us.map some++List.replicate (N.length-us.length) none):=by
   unfold L2.start
   simp
  rw [e]
  unfold startD
  rw [hdl]
  exact SL.so (fp:=[]) ow (SL.start _ l hmo (by omega))
 ·cases o with
  | nx ρ =>
   intro σ F' H' r
   obtain ⟨fp,sl,nd,hb⟩:=r.sl
   cases sl with
   | no _=>cases h2
   | so ow' _ =>
    cases h2
    exact q F' H' r.f0 r.bh r.fh r.nf (ow'.cells x List.mem_cons_self).1 ow'
  | rt d'=>cases h2
  | bk ρ=>cases h2
  | ct ρ=>cases h2
end
end L3
namespace L3
open PySem PySem.Spec L2
open PyProof.Rows hiding St
theorem zhn {f:Str} {y:V}:∀{ns:List Str} {vs:List V},ns.length=vs.length→ns.contains f=false→putF f y (ns.zip vs)=(ns++[f]).zip (vs++[y])
 | [],[],_,_=>rfl
 | [],_::_,h,_=>by simp at h
 | _::_,[],h,_=>by simp at h
 | n::ns,v::vs,h,hc=>by
  rw [List.contains_cons,Bool.or_eq_false_iff] at hc
  have hn:¬n=f:=fun e=>by rw [e] at hc; simp at hc
  have ih:=zhn (f:=f) (y:=y) (ns:=ns) (vs:=vs) (by simpa using h) hc.2
  show putF f y ((n,v)::ns.zip vs)=(n,v)::(ns++[f]).zip (vs++[y])
  rw [← ih]
  show (if n=f then _ else _)=_
  rw [if_neg hn]
theorem Ow.obj_inv {ct:Nat→Addr} {K:PySem.W.Frag} {F H:Hp} {c k:Nat} {ns:List Str} {ds:List D} {v:V} {fp:List Addr} (h:Ow K ct F H (k+1) (.obj c ns ds) v fp):∃a dx vs fr,v=.ref a∧fp=a::fr∧F a=none∧H a=some (.ins (ct c) dx (ns.zip vs))∧ns.length=vs.length∧OwL (Ow K ct F H k) ds vs fr:=by
 rcases h with ⟨h,_⟩ | h
 ·cases h
 ·cases h with
  | obj h1 h2 h3 h4=>exact ⟨_,_,_,_,rfl,rfl,h1,h2,h3,h4⟩
section
variable {X:Cx} {ct:Nat→Addr} {ms:List Mo} {rk n m k:Nat} {a b c e tg:Expr} {f g h:EF} {u w:SF} {pos:Pos} {x0:Addr}
def sFldD (cs:List Nat) (x:Str) (f:EF):SF:=fun ρ=>(f ρ).bind fun d=>(eV 0 ρ).bind fun o=>match o with
 | .obj c ns ds=>if cs.contains c=true∧ns.contains x=false∧ns.length<900 then some (.nx (ρ.set 0 (some (.obj c (ns++[x]) (ds++[d]))))) else none
 | _=>none
theorem RS.self {K:PySem.W.Frag} {F0 B F H F' H':Hp} {ρ:Env} {σ:St} {d:D} (rs:RS K ct F0 B (.so x0::ms) F H ρ σ) (hd:ρ[0]?=some (some d)):σ[0]?=some (some (.ref x0))∧Ow K ct F H 1 d (.ref x0) [x0]∧B x0=none ∧
  ∀(F' H':Hp) (d':D),Same F F'→Same B H'→Same F' H'→(∀a o,B a=some o→F0 a=none→F' a=none)→(∀a o,H a=some o→a≠x0→H' a=some o)→(∀a o,H a=some o→a≠x0→F a=none→F' a=none)→Ow K ct F' H' 1 d' (.ref x0) [x0]→RS K ct F0 B (.so x0::ms) F' H' (ρ.set 0 (some d')) σ:=by
 obtain ⟨fp,sl,nd,hb⟩:=rs.sl
 cases sl with
 | no _=>simp at hd
 | so ow t =>
  simp at hd
  subst hd
  refine ⟨rfl,ow,hb _ List.mem_cons_self,fun F' H' d' s1 s2 s3 s4 k1 k2 o'=>⟨rs.f0.trans s1,s2,s3,s4,_,.so o' (t.frame s1 fun a z=>?_),nd,hb⟩⟩
  obtain ⟨hn,o,ho⟩:=t.cells a z
  have ne:a≠x0:=fun e=>(List.nodup_cons.mp nd).1 (by rw [← e]; exact z)
  exact ⟨(k1 a o ho ne).trans ho.symm,k2 a o ho ne hn⟩
theorem zdg {x s:Str} {cs:List Nat} {p1 pos':Pos} (hc:∀c∈cs,Cls X.K (ct c)∧NoAttr X.K (ct c) x) (he:XE X ct (.so x0::ms) 0 e f) (hN:X.N[0]?=some s:=by rfl) (hv:Vis X.env.scope s:=by first | exact Or.inl rfl | exact Or.inr (Or.inl rfl) | exact Or.inr (Or.inr rfl)) (hd:(s == ("__debug__":Str))=false:=by decide)
  (hcd:(s == ("__classdict__":Str))=false:=by decide) (hs:swapsWith e (some (.Attribute (.Name s p1) x pos')) pos.line X.env=pure false:=by rfl):XS X ct (.so x0::ms) rk (.Assign [.Attribute (.Name s p1) x pos'] e pos) (sFldD cs x f):=by
 obtain ⟨t,pt,qt⟩:=he
 refine ⟨_,zql (jc hN hv hd hcd) pt hs,fun F0 B F H ρ σ o E rs e z=>?_⟩
 obtain ⟨d,h1,h2⟩:=bind1 e
 obtain ⟨ob,h3,h4⟩:=bind1 h2
 refine qt F0 B F H ρ σ d _ rs h1 fun y F1 H1 x1 l=>?_
 have rs1:=rs.ext x1
 obtain ⟨hσ,ow,hB,put⟩:=rs1.self (F':=F) (H':=H) (yc h3)
 refine ⟨_,hσ,?_⟩
 cases ob with
 | obj c ns ds =>
  dsimp only at h4
  by_cases hz:cs.contains c=true∧ns.contains x=false∧ns.length<900
  ·rw [if_pos hz] at h4
   cases h4
   obtain ⟨a,dx,vs,fr,e1,e2,hF,hH,hl,ol⟩:=ow.obj_inv
   cases e1
   cases e2
   have hh:=hc c (by simpa using hz.1)
   refine ⟨x0,_,dx,_,rfl,hH,hh.1,hh.2,by rw [List.length_zip,← hl,Nat.min_self]; omega,?_⟩
   rw [zhn hl hz.2.1]
   refine z σ F1 _ (put F1 _ _ (.refl _) (fun b o h=>?_) (fun b o h=>?_) rs1.nf (fun b o h ne=>by rw [yh ne]; exact h) (fun b o h ne hn=>hn) (.inr (OwC.obj (vs:=vs++[y]) hF yo (by simp [hl]) ?_)))
   ·rw [yh (fun e=>by rw [e,hB] at h; cases h)]; exact rs1.bh _ _ h
   ·rw [yh (fun e=>by rw [e,hF] at h; cases h)]; exact rs1.fh _ _ h
   ·have o1:OwL (Ow X.K ct F1 (upd H1 x0 (.ins (ct c) dx ((ns++[x]).zip (vs++[y])))) 0) ds vs []:=ol.mono fun _ _ _ _ q=>⟨q.1,q.2⟩
    have:=o1.append (OwL.cons (f:=[]) (g:=[]) (R:=Ow X.K ct F1 (upd H1 x0 (.ins (ct c) dx ((ns++[x]).zip (vs++[y])))) 0) ⟨l,rfl⟩ .nil)
    exact this
  ·rw [if_neg hz] at h4; cases h4
 | _=>cases h4
variable {kk:Nat} {fa:Addr} {fd:FuncData} {ps:List Str} {pm cs:List Nat} {mi:Nat→List D→Option D} {x:Str} {pp:Pos}
theorem zd5 {c0:Nat} {es:List Expr} {ns nd:List Nat} {fs:Env→Option (List D)} {dvs:List V} {dds:List D} {dsv:List Value} (M:Mk X.K (ct c0) fa) (hcs:c0∈cs) (Fn:FnOk X.prog X.w X.K X.mg X.base CX0 kk fa fd ps (ISp X.K ct cs (ns++nd) mi)) (hr:Room (kk+1) X.A) (hg:Gl X x) (hm:X.mg x=some (.ref (ct c0)))
  (hb:Binds X.K fd ps dsv) (hd:Vals dvs dsv) (hdd:∀F G,AlL X.K ct F G nd dds dvs) (ha:XA X ct ms (e::es) ns fs)
  (hdb:(x == ("__debug__":Str))=false:=by decide) (he:starEach (e::es) X.env=(false,eval e X.env)::starEach es X.env:=by rfl) (hpl:(backTo pos (starEach es X.env)).any (·.1)=false:=by rfl) :
  XO X ct ms 1 (.Call (.Name x pp) (e::es) [] pos) (fun ρ=>(fs ρ).bind fun ds=>mi c0 (ds++dds)):=by
 obtain ⟨t,pt,_,qt⟩:=ha
 refine ⟨_,zn0 M Fn hr hg hm hb hd pass0 pt hdb he hpl,fun F0 B F H ρ σ r Q rs e w=>?_⟩
 obtain ⟨ds,h1,h2⟩:=bind1 e
 refine qt F0 B F H ρ σ ds _ rs h1 fun vs F1 H1 x1 l y dy hy hdy hne=>?_
 have sH:Same H1 (hid (upd (upd H1 dy (.own y)) y (.ins (ct c0) dy [])) y):=fun b o h=>by
  have n1:b≠y:=xp h hy
  rw [je n1,yh n1,yh (xp h hdy)]
  exact h
 have sH2:Same H1 (upd (upd H1 dy (.own y)) y (.ins (ct c0) dy [])):=sH.trans (zb1 _ _)
 refine ⟨F1,c0,ds++dds,r,y,dy,vs++dvs,hcs,rfl,yo,x1.fh.free hy,x1.fh.trans sH2,AlL.mono (.refl _) sH (AlL.append (hdd F1 H1) l),h2,fun F' H' s1 s2 s3 s4 hn ow=>⟨rfl,?_⟩⟩
 refine w _ F' H' [y] ⟨x1.ff.trans s1,(x1.hh.trans sH).trans s2,s3,fun b o h n=>s4 b o (sH _ _ (x1.hh _ _ h)) (x1.nf b o h n)⟩ ow (by simp) fun b z=>?_
 rw [List.mem_singleton] at z
 subst z
 exact x1.hh.free hy
theorem zlw {C:Addr} {sp:Sp} {dvs:List V} {ds:List Value} {E:XK} {m:Str} {p apos:Pos} {es:List Expr} {t:TA} {pl:Sem Bool} {mc:Value} (Fn:FnOk X.prog X.w X.K X.mg X.base CX0 kk fa fd ps sp) (hr:Room kk X.A) (hg:Gl X x) (hm:X.mg x=some (.ref C))
  (h1:PySem.W.specialIn X.K (.ref C) "__getattribute__"=some (some (.builtin "type.__getattribute__"))) (h2:PySem.W.readsIn X.K C mc=true) (h3:PySem.W.findCls X.K (.ref C) mc m=some (.val (.ref fa))) (hk:PySem.W.keepIn X.K (.ref fa)=true) (hb:Binds X.K fd ps ds) (hd:Vals dvs ds) (hx:Passes CX0 X E) (ha:PA X (e::es) t)
  (hdb:(x == ("__debug__":Str))=false:=by decide) (hst:starEach (e::es) X.env=(false,eval e X.env)::starEach es X.env:=by rfl) (hpl:(backTo pos (starEach es X.env)).any (·.1)=false:=by rfl)
  (ht:eval (.Call (.Attribute (.Name x p) m apos) (e::es) [] pos) X.env=(do
   let ov ← eval (.Name x p) X.env
   standAt apos.atName
   let (f,first) ← holding [ov] (getMethod ov m pl)
   callWith pos f first (backTo pos (starEach (e::es) X.env)) (backToKw pos (keywordEach [] X.env))):=by rfl) :
  PE X (.Call (.Attribute (.Name x p) m apos) (e::es) [] pos) (tCall sp dvs E t):=by
 intro pins s σ H Q I h
 refine PySem.W.methodCall_KW (pl:=pl) (zdn I hg hm ?_ hdb) ht
 refine PySem.W.method_cls I.kIn h1 (PySem.W.cls_value I.kIn h2 h3 rfl ?_)
 have I1:Inv X pins σ H { s with toks:=s.toks+1 }:=I.tok _
 refine PySem.W.callWith_K (first:=[]) (h₀:=X.base) I.ok.mod.kin hk (thn (ha pos pins _ σ H _ I1 h) fun us s2 ⟨vs,H2,I2,r,q2⟩=>⟨I2.kIn,?_⟩) hst hpl
 exact zm6 (us:=us) (vs:=vs) Fn hr hb hd hx I2 r q2
theorem AlL.flat {K:PySem.W.Frag} {F G G':Hp}:∀{ns:List Nat} {ds:List D} {vs:List V},AlL K ct F G ns ds vs→ns.all (· == 0)=true→AlL K ct F G' ns ds vs
 | _,_,_,.nil,_=>.nil
 | n::_,_,_,.cons h t,e=>by
  rw [List.all_cons,Bool.and_eq_true] at e
  have:n=0:=by simpa using e.1
  subst this
  exact .cons h (AlL.flat t e.2)
def sInitD (cs:List Nat) (fs:Env→Option (List D)) (mi:Nat→List D→Option D):SF:=fun ρ=>(eV 0 ρ).bind fun o=>(fs ρ).bind fun ds=>match o with
 | .obj c [] []=>if cs.contains c=true then (mi c ds).bind fun d=>some (.nx (ρ.set 0 (some d))) else none
 | _=>none
theorem zgk {C:Addr} {s m:Str} {p p1 cpos apos:Pos} {es:List Expr} {ns:List Nat} {fs:Env→Option (List D)} {pl:Sem Bool} {mc:Value} (Fn:FnOk X.prog X.w X.K X.mg X.base CX0 kk fa fd ps (ISp X.K ct cs ns mi)) (hr:Room kk X.A) (hm:X.mg x=some (.ref C))
  (h1:PySem.W.specialIn X.K (.ref C) "__getattribute__"=some (some (.builtin "type.__getattribute__"))) (h2:PySem.W.readsIn X.K C mc=true) (h3:PySem.W.findCls X.K (.ref C) mc m=some (.val (.ref fa))) (hk:PySem.W.keepIn X.K (.ref fa)=true) (hb:Binds X.K fd ps []) (hz:ns.all (· == 0)=true) (ha:XA X ct (.so x0::ms) es ns fs)
  (hg:Gl X x:=by rfl) (hN:X.N[0]?=some s:=by rfl) (hv:Vis X.env.scope s:=by first | exact Or.inl rfl | exact Or.inr (Or.inl rfl) | exact Or.inr (Or.inr rfl)) (hd:(s == ("__debug__":Str))=false:=by decide)
  (hcd:(s == ("__classdict__":Str))=false:=by decide) (hdb:(x == ("__debug__":Str))=false:=by decide) (hst:starEach (.Name s p1::es) X.env=(false,eval (.Name s p1) X.env)::starEach es X.env:=by rfl) (hpl:(backTo cpos (starEach es X.env)).any (·.1)=false:=by rfl)
  (ht:eval (.Call (.Attribute (.Name x p) m apos) (.Name s p1::es) [] cpos) X.env=(do
   let ov ← eval (.Name x p) X.env
   standAt apos.atName
   let (f,first) ← holding [ov] (getMethod ov m pl)
   callWith cpos f first (backTo cpos (starEach (.Name s p1::es) X.env)) (backToKw cpos (keywordEach [] X.env))):=by rfl)
  (hsw:swapsWith (.Call (.Attribute (.Name x p) m apos) (.Name s p1::es) [] cpos) none pos.line X.env=pure false:=by rfl) :
  XS X ct (.so x0::ms) rk (.Expr (.Call (.Attribute (.Name x p) m apos) (.Name s p1::es) [] cpos) pos) (sInitD cs fs mi):=by
 obtain ⟨t,pt,_,qt⟩:=ha
 refine ⟨_,zf8 (zlw (E:=E0) Fn hr hg hm h1 h2 h3 hk hb .nil pass0 (vg (jc hN hv hd hcd) pt hst) hdb hst hpl ht) hsw,fun F0 B F H ρ σ o E rs e z=>?_⟩
 obtain ⟨ob,ds,g1,g2,g3⟩:=bind2 e
 obtain ⟨hσ,ow,hB,put⟩:=rs.self (F':=F) (H':=H) (yc g1)
 refine ⟨_,hσ,qt F0 B F H ρ σ ds _ rs g2 fun vs F1 H1 x1 l=>?_⟩
 have rs1:=rs.ext x1
 obtain ⟨hσ,ow,hB,put⟩:=rs1.self (F':=F) (H':=H) (yc g1)
 match ob,g3,ow with
 | .obj c [] [],g3,ow =>
  dsimp only at g3
  by_cases hc:cs.contains c=true
  ·rw [if_pos hc] at g3
   obtain ⟨d,g4,g5⟩:=bind1 g3
   cases g5
   obtain ⟨a,dx,us,fr,e1,e2,hF,hH,hl,ol⟩:=ow.obj_inv
   cases e1
   cases e2
   refine ⟨F1,c,ds,d,x0,dx,vs++[],by simpa using hc,rfl,hH,hF,x1.fh,?_,g4,fun F' H' s1 s2 s3 s4 hn o'=>?_⟩
   ·rw [List.append_nil]; exact l.flat hz
   ·have sB:Same B (hid H1 x0):=fun b o h=>by
     rw [je (fun e=>by rw [e,hB] at h; cases h)]
     exact rs1.bh _ _ h
    exact z σ F' H' (put F' H' d s1 (sB.trans s2) s3 (fun b o h n=>s4 b o (sB _ _ h) (rs1.nf b o h n)) (fun b o h ne=>s2 _ _ (by rw [je ne]; exact h)) (fun b o h ne hn'=>s4 b o (by rw [je ne]; exact h) hn') o')
  ·rw [if_neg hc] at g3; cases g3
end
end L3
namespace L3
open PySem PySem.Spec L2
open PyProof.Rows hiding St
structure Dn2 (K:PySem.W.Frag) (mg:Str→Option Value) (x:Str) (st:Stmt) (ps:List Str) (f:Addr) (fd:FuncData):Prop where
 fn:Fun2 K x x st f fd
 mgx:mg x=some (.ref f)
 bd:Binds K fd ps []
structure Dm (K:PySem.W.Frag) (C:Addr) (m qual:Str) (st:Stmt) (ps:List Str) (f:Addr) (fd:FuncData):Prop where
 fn:Fun2 K m qual st f fd
 me:Meth K C m f
 bd:Binds K fd ps []
structure Dc (K:PySem.W.Frag) (mg:Str→Option Value) (x:Str) (C:Addr):Prop where
 cl:Cls K C
 mgx:mg x=some (.ref C)
 mks:PySem.W.makesIn K C=true
 kp:PySem.W.keepIn K (.ref C)=true
structure Dq (K:PySem.W.Frag) (C:Addr) (m:Str) (f:Addr):Prop where
 sp:PySem.W.specialIn K (.ref C) "__getattribute__"=some (some (.builtin "type.__getattribute__"))
 rd:PySem.W.readsIn K C (.type "type")=true
 fc:PySem.W.findCls K (.ref C) (.type "type") m=some (.val (.ref f))
theorem ya {K:PySem.W.Frag} {x qual:Str} {st:Stmt} {f:Addr} {oc:Value} {od an:Option Addr} {osl:Array (Option Value)} {dV kV doc pm cdv ct:Value} (l:K.lookup f=some ⟨oc,od,.func (PySem.W.fnOf x qual (defArgs st) (defBody st) (defScope st) dV kV doc pm an cdv ct),osl⟩)
  (c:PySem.W.codeIn K cdv qual=true) (k:PySem.W.keepIn K (.ref f)=true):Fun2 K x qual st f (PySem.W.fnOf x qual (defArgs st) (defBody st) (defScope st) dV kV doc pm an cdv ct):=⟨⟨oc,od,dV,kV,doc,pm,an,cdv,ct,osl,rfl,l,c⟩,k⟩
theorem zd6 {K:PySem.W.Frag} {fd:FuncData} {ps:List Str} {ds:List Value} {T:Addr} {o:Obj} {items:Array Value} {n:Nat} (hd:fd.defaults=.ref T) (ho:K.lookup T=some o) (hs:o.data=.seq items n)
  (h:∀us:List Value,(us++ds).length=ps.length→∃k,bindArgs fd ⟨us,[]⟩=seqItems? fd.defaults >>= k∧k (some items)=pure (ps.zip (us++ds))):Binds K fd ps ds:=fun s us X hl=>by
 obtain ⟨k,h1,h2⟩:=h us hl
 exact PySem.W.binds_K X hd ho hs h1 h2
end L3
namespace L3
open PySem PySem.Spec L2
open PyProof.Rows hiding St
def Its (x:Str):It:=⟨fun i _=>∃c,x.cps[i]?=some c,fun i H v H'=>H'=H∧∃c,x.cps[i]?=some c∧v=.str ⟨#[c]⟩,fun i _=>x.cps[i]?=none⟩
theorem zlx {P:Program} {w:World} {K:PySem.W.Frag} {tg:Expr} (x:Str) (t:Tok) (it:Addr):Turn P w K tg (Its x) [it] it (fun i h=>h.IsStrIter it (strIterType x) x t i) where
 mem:=by simp
 obj:=fun i h st b hb=>by
  have e:b=it:=by simpa using hb
  subst e
  obtain ⟨o,e,c,d⟩:=st
  exact ⟨o,e,fun v z=>by rw [d] at z; cases z⟩
 keep:=fun i h h' st k=>by
  obtain ⟨o,e,c,d⟩:=st
  exact ⟨o,k it (by simp) o e,c,d⟩
 item:=by
  intro X hP hw hK hc i pins s σ H E I hf st hg
  subst hP hw hK
  obtain ⟨c,hx⟩:=hg
  obtain ⟨f0,f1,f2,f3,f4,f5⟩:=hf it (by simp)
  have fin:∀h':Heap,h'.IsStrIter it (strIterType x) x t (i+1)→Heap.SameBut it s.heap h'→wpAny (model X.prog X.w) X.A (letOwnedTupleGo tg (.ref it) (.str ⟨#[c]⟩ s.toks)) (fun _ s2=>∃v H',Inv X pins σ H' s2∧RelV v (.str ⟨#[c]⟩ s.toks)∧(Its x).yld i H v H'∧s2.heap.IsStrIter it (strIterType x) x t (i+1)∧∀b∈[it],H' b=none) E { s with heap:=h',toks:=s.toks+1 }:=fun h' st' sb=>by
   have I1:Inv X pins σ H { s with heap:=h',toks:=s.toks+1 }:=I.turned (t':=s.toks+1) (fun b o hb e=>(sb.2 b hb).trans e) f0 f1 f3 f4 f5
   obtain ⟨o,e,cc,d⟩:=id st'
   refine zns (s:={ s with heap:=h',toks:=s.toks+1 }) e cc d ?_ ⟨.str ⟨#[c]⟩,H,I1,⟨_,rfl⟩,⟨rfl,c,hx,rfl⟩,st',fun b hb=>(hf b hb).1⟩
   unfold strIterType
   split <;> decide
  cases ha:x.cps.all (·<128) with
  | true =>
   have e:strIterType x = "str_ascii_iterator":=by unfold strIterType; rw [ha]; rfl
   rw [e] at st fin
   exact wpAny_pyNext_ascii_item st hx fun h' st' sb=>⟨_,rfl,by rw [e]; exact fin h' st' sb⟩
  | false =>
   have e:strIterType x = "str_iterator":=by unfold strIterType; rw [ha]; rfl
   rw [e] at st fin
   exact wpAny_pyNext_wide_item st hx fun h' st' sb=>⟨_,rfl,by rw [e]; exact fin h' st' sb⟩
 done:=by
  intro X hP hw hK hc i pins s σ H E I hf st hg
  subst hP hw hK
  obtain ⟨f0,f1,f2,f3,f4,f5⟩:=hf it (by simp)
  cases ha:x.cps.all (·<128) with
  | true =>
   have e:strIterType x = "str_ascii_iterator":=by unfold strIterType; rw [ha]; rfl
   rw [e] at st
   exact wpAny_pyNext_ascii_end (I.ok.hd hc) st hg fun h' eb=>⟨rfl,I.turned (t':=s.toks) (fun b o hb e=>eb b o hb e) f0 f1 f3 f4 f5⟩
  | false =>
   have e:strIterType x = "str_iterator":=by unfold strIterType; rw [ha]; rfl
   rw [e] at st
   exact wpAny_pyNext_wide_end (I.ok.hd hc) st hg fun h' eb=>⟨rfl,I.turned (t':=s.toks) (fun b o hb e=>eb b o hb e) f0 f1 f3 f4 f5⟩
 self:=fun A i s Q E st h=>by
  cases ha:x.cps.all (·<128) with
  | true =>
   have e:strIterType x = "str_ascii_iterator":=by unfold strIterType; rw [ha]; rfl
   rw [e] at st
   exact wpAny_pyIter_striter_ascii st h
  | false =>
   have e:strIterType x = "str_iterator":=by unfold strIterType; rw [ha]; rfl
   rw [e] at st
   exact wpAny_pyIter_striter_wide st h
def iStr (tl:TE):TI:=fun σ H R=>tl σ H fun x H1=>∃z,x=.str z∧R (Its z) H1
section
variable {X:Cx} {ct:Nat→Addr} {ms:List Mo} {rk n m k:Nat} {st:Stmt} {rest:List Stmt} {a b c e tg:Expr} {f g h:EF} {p q:BF} {u w:SF} {pos:Pos}
theorem zre {l:Expr} {tl:TE} (hl:PE X l tl):PI X tg l (iStr tl):=by
 intro pins s σ H R I h
 refine thn (hl pins s σ H _ I h) fun v s1 ⟨x,H1,I1,r,z,e,q⟩=>?_
 subst e
 obtain ⟨t,rfl⟩:=r
 refine wpAny_pyIter_strU ?_
 refine ⟨s1.heap.objs.size,[s1.heap.objs.size],_,_,H1,rfl,I1.kept (t':=s1.toks) fun b o e=>Heap.get?_push_of_some _ e,zlx z t _,⟨_,Heap.get?_push_size _ rfl,rfl,rfl⟩,fun b hb=>?_,q⟩
 have e:b=s1.heap.objs.size:=by simpa using hb
 subst e
 exact I1.fpOk (Nat.le_refl _) (I1.hok.fresh (Nat.le_refl _))
def signsD (x:Str):List D:=x.cps.toList.map fun c=>.str ⟨#[c]⟩
def asS:D→Option (List D)
 | .str x=>some (signsD x)
 | _=>none
theorem zrf (he:XE X ct ms m e f):XI X ct ms n tg e (fun ρ=>(f ρ).bind asS):=by
 obtain ⟨t,pt,qt⟩:=he
 refine ⟨_,zre pt,fun F0 B F H ρ σ ds R rs e w=>?_⟩
 obtain ⟨d,h1,h2⟩:=bind1 e
 refine qt F0 B F H ρ σ _ _ rs h1 fun v F' H' x l=>?_
 cases d with
 | str z =>
  cases h2
  refine ⟨z,l.str,w _ F' H' x fun i F2 H2 s1 s2 s3=>⟨fun d hd=>?_,fun hl=>?_⟩⟩
  ·unfold signsD at hd
   rw [List.getElem?_map] at hd
   obtain ⟨c,hc,rfl⟩:=Option.map_eq_some_iff.mp hd
   have hc':z.cps[i]?=some c:=by simpa using hc
   refine ⟨⟨c,hc'⟩,fun y H3 hy=>?_⟩
   obtain ⟨rfl,c2,h3,rfl⟩:=hy
   rw [hc'] at h3
   cases h3
   exact ⟨F2,.refl s3,Al.of (.str _)⟩
  ·unfold signsD at hl
   rw [List.length_map,Array.length_toList] at hl
   exact Array.getElem?_eq_none hl
 | _=>cases h2
theorem zly {κ:Type} [DecidableEq κ] (k:κ) (v:V):∀{ks:List κ} {vs:List V},ks.length=vs.length→putK (ks.zip vs) k v=(if ks.contains k=true then ks.zip ((ks.zip vs).map fun p=>if p.1=k then v else p.2) else (ks++[k]).zip (vs++[v])):=by
 intro ks vs hl
 unfold putK
 have e:((ks.zip vs).any fun kv=>decide (kv.1=k))=ks.contains k:=by
  rw [Bool.eq_iff_iff,List.any_eq_true,List.contains_iff_mem]
  constructor
  ·rintro ⟨p,hp,he⟩
   have:=decide_eq_true_iff.mp he
   rw [← this]
   exact (List.of_mem_zip hp).1
  ·intro hk
   obtain ⟨i,hi,rfl⟩:=List.getElem_of_mem hk
   exact ⟨(ks[i],vs[i]'(by omega)),List.mem_iff_getElem.mpr ⟨i,by simp; omega,by simp⟩,by simp⟩
 rw [e]
 by_cases h:ks.contains k=true
 ·rw [if_pos h,if_pos h]
  clear e h
  induction ks generalizing vs with
  | nil=>simp
  | cons y ks ih =>
   cases vs with
   | nil=>simp at hl
   | cons u vs =>
    simp only [List.zip_cons_cons,List.map_cons,ih (by simpa using hl)]
    by_cases hy:y=k <;> simp [hy]
 ·rw [if_neg h,if_neg h,List.zip_append hl]
  rfl
end
end L3
namespace L3
open PySem PySem.Spec L2
open PyProof.Rows hiding St
section
variable {X:Cx} {ct:Nat→Addr} {ms:List Mo} {rk n m k:Nat} {st:Stmt} {rest:List Stmt} {a b c e tg:Expr} {f g h:EF} {p q:BF} {u w:SF} {pos:Pos}
def sPutD (i:Nat) (fj f:EF):SF:=fun ρ=>(f ρ).bind fun d=>(eV i ρ).bind fun o=>(fj ρ).bind fun j=>match o with
 | .dK ks ds=>(keyD j).bind fun k=>if ks.length<16777216 then some (.nx (ρ.set i (some (.dK (putK' ks ds k d).1 (putK' ks ds k d).2)))) else none
 | .dT ks ds=>(match j with
  | .tup js=>(keysD js).bind fun k=>if ks.length<16777216 then some (.nx (ρ.set i (some (.dT (putK' ks ds k d).1 (putK' ks ds k d).2)))) else none
  | _=>none)
 | _=>none
theorem zb2 {κ:Type} [DecidableEq κ] {R:D→V→Prop} {d:D} {v:V} (r:R d v) (k:κ) {ks:List κ} {ds:List D} {vs:List V} (hl:ks.length=vs.length) (hp:Pr R ds vs) :
  ∃us,putK (ks.zip vs) k v=(putK' ks ds k d).1.zip us∧(putK' ks ds k d).1.length=us.length∧Pr R (putK' ks ds k d).2 us:=by
 rw [zly k v hl]
 unfold putK'
 by_cases h:ks.contains k=true
 ·rw [if_pos h,if_pos h]
  refine ⟨_,rfl,by simp [hl],?_⟩
  clear h
  induction ks generalizing ds vs with
  | nil=>simp; exact .nil
  | cons y ks ih =>
   cases hp with
   | nil=>simp at hl
   | cons h t =>
    simp only [List.zip_cons_cons,List.map_cons]
    refine .cons ?_ (ih (by simpa using hl) t)
    by_cases hy:y=k
    ·rw [if_pos hy,if_pos hy]; exact r
    ·rw [if_neg hy,if_neg hy]; exact h
 ·rw [if_neg h,if_neg h]
  exact ⟨_,rfl,by simp [hl],hp.append (.cons r .nil)⟩
theorem zgl (i:Nat) {x:Str} {j:Expr} {p1 tpos:Pos} {fj:EF} (hm:ms[i]?=some (.ow 1)) (hu:X.A.units+1<cLine) (hj:XE X ct ms 0 j fj) (he:XE X ct ms 0 e f) (hN:X.N[i]?=some x:=by rfl) (hv:Vis X.env.scope x:=by first | exact Or.inl rfl | exact Or.inr (Or.inl rfl) | exact Or.inr (Or.inr rfl)) (hd:(x == ("__debug__":Str))=false:=by decide)
  (hcd:(x == ("__classdict__":Str))=false:=by decide) (hs:swapsWith e (some (.Subscript (.Name x p1) j tpos)) pos.line X.env=pure false:=by rfl) :
  XS X ct ms rk (.Assign [.Subscript (.Name x p1) j tpos] e pos) (sPutD i fj f):=by
 obtain ⟨t,pt,qt⟩:=he
 obtain ⟨tj,ptj,qtj⟩:=hj
 refine ⟨_,zjh hu (jc hN hv hd hcd) ptj pt hs,fun F0 B F H ρ σ o E rs e z=>?_⟩
 obtain ⟨d,g1,g2⟩:=bind1 e
 obtain ⟨d1,dj',g3,g4,g5⟩:=bind2 g2
 refine qt F0 B F H ρ σ d _ rs g1 fun v0 F1 H1 x1 l0=>?_
 have rs1:=rs.ext x1
 obtain ⟨f1,fr,n1,b1,dj,i4,cf,put⟩:=rs1.put (F':=F) (H':=H) hm
 obtain ⟨v,hσ,ow⟩:=i4 d1 (yc g3)
 refine ⟨v,hσ,qtj F0 B F1 H1 ρ σ dj' _ rs1 g4 fun vj F2 H2 x2 lj=>?_⟩
 have l0':Dt X.K ct F2 d v0:=Dt.mono x2.ff l0
 cases d1 with
 | dK ks ds =>
  dsimp only at g5
  obtain ⟨key,g6,g7⟩:=bind1 g5
  by_cases hz:ks.length<16777216
  ·rw [if_pos hz] at g7
   cases g7
   obtain ⟨ad,vs,fr1,rfl,rfl,hF,hH,hl,ol⟩:=ow.dK_inv
   have hA:=x2.hh _ _ hH
   have fA:F2 ad=none:=x2.nf ad _ hH hF
   have e0:=ol.nil0
   subst e0
   have hp:Pr (Dt X.K ct F2) ds vs:=ol.pr fun _ _ _ _ q=>q.1.mono x2.ff
   obtain ⟨us,hu1,hu2,hu3⟩:=zb2 l0' key hl hp
   have hk:=zhb g6 lj
   subst hk
   refine ⟨ad,_,rfl,DPut.k hA (by rw [List.length_zip,← hl,Nat.min_self,sizeLine_eq]; exact hz),?_⟩
   rw [hu1]
   refine z σ F2 _ (rs1.change hm x2 hσ b1 dj cf put List.mem_cons_self fA (.inr (.dK fA yo hu2 (OwL.ofPr (hu3.mono fun _ _ q=>⟨q,rfl⟩)))) (fn:=[ad]) (by simp) ?_)
   intro a ha
   rw [List.mem_singleton] at ha
   subst ha
   exact .inl List.mem_cons_self
  ·rw [if_neg hz] at g7; cases g7
 | dT ks ds =>
  cases dj' with
  | tup js =>
   dsimp only at g5
   obtain ⟨key,g6,g7⟩:=bind1 g5
   by_cases hz:ks.length<16777216
   ·rw [if_pos hz] at g7
    cases g7
    obtain ⟨ad,vs,fr1,rfl,rfl,hF,hH,hl,ol⟩:=ow.dT_inv
    have hA:=x2.hh _ _ hH
    have fA:F2 ad=none:=x2.nf ad _ hH hF
    have e0:=ol.nil0
    subst e0
    have hp:Pr (Dt X.K ct F2) ds vs:=ol.pr fun _ _ _ _ q=>q.1.mono x2.ff
    obtain ⟨us,hu1,hu2,hu3⟩:=zb2 l0' key hl hp
    obtain ⟨bd,ws,rfl,hb,hpb⟩:=lj.tup x2.fh
    have hk:=zdz g6 hpb
    subst hk
    refine ⟨ad,_,rfl,DPut.t hA hb (by rw [List.length_zip,← hl,Nat.min_self,sizeLine_eq]; exact hz),?_⟩
    rw [hu1]
    refine z σ F2 _ (rs1.change hm x2 hσ b1 dj cf put List.mem_cons_self fA (.inr (.dT fA yo hu2 (OwL.ofPr (hu3.mono fun _ _ q=>⟨q,rfl⟩)))) (fn:=[ad]) (by simp) ?_)
    intro a ha
    rw [List.mem_singleton] at ha
    subst ha
    exact .inl List.mem_cons_self
   ·rw [if_neg hz] at g7; cases g7
  | _=>cases g5
 | _=>cases g5
def rGetL (K:PySem.W.Frag):V→V→Hp→VK→Prop:=fun o i H Q=>∃p xs k v,o=.ref p∧i=.int k∧SqL K H p xs∧atI xs k=some v∧Q v H
theorem zj4:PGet X (rGetL X.K):=by
 intro pins s σ H o i ov iv Q I ro ri h
 obtain ⟨p,xs,k,z,rfl,rfl,hq,he,q⟩:=h
 cases ro
 obtain ⟨t,rfl⟩:=ri
 obtain ⟨its,r,pl,hz⟩:=I.list hq
 obtain ⟨j,h1,h2,h3,h4,h5⟩:=zdq he
 obtain ⟨w,ew,rw'⟩:=r.get h2
 have hl:=r.length
 have hn:=line63
 have fin:EP X pins σ Q w s:=⟨z,H,I,rw',q⟩
 by_cases h0:0≤k
 ·have hj:k.toNat=j:=by
   rw [seqIndex_of h0 h5] at h1
   exact Option.some.inj h1
  exact wpAny_getItem_list pl.isList h0 (by omega) (by rw [hj]; simpa using ew) fin
 ·have hj:(k+(its.toArray.size:Int)).toNat=j:=by
   rw [seqIndex_neg (by omega) h4] at h1
   rw [List.size_toArray,← hl]
   exact Option.some.inj h1
  exact wpAny_getItem_list_neg pl.isList (by omega) (by rw [List.size_toArray] <;> omega) (by omega) (by rw [hj]; simpa using ew) fin
def sAugL (i:Nat) (fj:EF) (gi:Int→Int→Int) (f:EF):SF:=fun ρ=>(eV i ρ).bind fun o=>(fj ρ).bind fun j=>(f ρ).bind fun y=>match o,j with
 | .lst ds,.int z=>(atI ds z).bind fun x=>(match x,y with
  | .int a,.int b=>(setAt ds z (.int (gi a b))).bind fun ds'=>some (.nx (ρ.set i (some (.lst ds'))))
  | _,_=>none)
 | _,_=>none
theorem zj5 (i:Nat) {x:Str} {op:Operator} {j:Expr} {p1 tpos:Pos} {fj:EF} {gi:Int→Int→Int} (ho:PIp X op (ipI gi)) (hm:ms[i]?=some (.ow 1)) (hj:XE X ct ms n j fj) (he:XE X ct ms m e f) (hN:X.N[i]?=some x:=by rfl) (hv:Vis X.env.scope x:=by first | exact Or.inl rfl | exact Or.inr (Or.inl rfl) | exact Or.inr (Or.inr rfl)) (hd:(x == ("__debug__":Str))=false:=by decide)
  (hcd:(x == ("__classdict__":Str))=false:=by decide) (ha:∀ov iv new,augStore j ov iv new=(do holding [new,ov,iv] (setItem ov iv new); release [new,ov,iv] []; pure .next):=by intros; rfl) :
  XS X ct ms rk (.AugAssign (.Subscript (.Name x p1) j tpos) op e pos) (sAugL i fj gi f):=by
 obtain ⟨t,pt,qt⟩:=he
 obtain ⟨tj,ptj,qtj⟩:=hj
 refine ⟨_,znr (jc hN hv hd hcd) ptj zj4 pt ho zdr ha,fun F0 B F H ρ σ o E rs e z=>?_⟩
 obtain ⟨d1,dj',g3,g4,g5⟩:=bind2 e
 obtain ⟨d2,g6,g7⟩:=bind1 g5
 obtain ⟨f1,fr,n1,b1,dj,i4,cf,put⟩:=rs.put (F':=F) (H':=H) hm
 obtain ⟨v,hσ,ow⟩:=i4 d1 (yc g3)
 refine ⟨v,hσ,qtj F0 B F H ρ σ dj' _ rs g4 fun vj F2 H2 x2 lj=>?_⟩
 match d1,dj',g7,ow,lj with
 | .lst ds,.int zi,g7,ow,lj =>
  dsimp only at g7
  obtain ⟨da,g8,g9⟩:=bind1 g7
  obtain ⟨ad,vs,fr1,rfl,rfl,hF,hH,ol⟩:=ow.lst_inv
  have hA:H2 ad=some (.lst vs):=x2.hh _ _ hH
  have hp:Pr (Al X.K ct F2 H2 0) ds vs:=ol.pr fun _ _ _ _ q=>q.1.mono x2.ff
  obtain ⟨va,ha1,ha2⟩:=hp.atI g8
  refine ⟨ad,vs,zi,va,rfl,lj.int,SqL.of hA,ha1,qt F0 B F2 H2 ρ σ d2 _ (rs.ext x2) g6 fun vy F3 H3 x3 ly=>?_⟩
  have x23:=x2.trans x3
  match da,d2,g9,ha2,ly with
  | .int ia,.int ib,g9,ha2,ly =>
   dsimp only at g9
   obtain ⟨ds',g10,g11⟩:=bind1 g9
   cases g11
   obtain ⟨jn,g12,g13⟩:=bind1 g10
   cases g13
   have hA3:H3 ad=some (.lst vs):=x3.hh _ _ hA
   have fA:F3 ad=none:=x23.nf ad _ hH hF
   have e0:=ol.nil0
   subst e0
   refine ⟨ia,ib,ha2.int,ly.int,ad,vs,zi,jn,rfl,lj.int,hA3,by rw [← ol.length]; exact g12,?_⟩
   refine z σ F3 _ (rs.change hm x23 hσ b1 dj cf put List.mem_cons_self fA (.inr (.lst fA yo (OwL.set0 ⟨.int _,rfl⟩ (fun _ _ _ q=>q.2) jn (ol.mono fun _ _ _ _ q=>⟨q.1.mono x23.ff,q.2⟩)))) (fn:=[ad]) (by simp) ?_)
   intro a ha
   rw [List.mem_singleton] at ha
   subst ha
   exact .inl List.mem_cons_self
structure Ic (K:PySem.W.Frag) (C:Addr):Prop where
 cl:Cls K C
 ha:PySem.W.findIn K (.ref C) "__class__"=some (some (.builtin "object.__class__"))
 hn:PySem.W.specialIn K (.builtin "object.__class__") "__get__"=some (some (.builtin "getset_descriptor.__get__"))
 ht:PySem.W.takesIn K (.builtin "object.__class__")=some true
 hm:PySem.W.mroIn K C (.type "object")=some true
def isiC (all sub:List Nat):D→Option D
 | .obj c _ _=>if all.contains c=true then some (.bl (sub.contains c)) else none
 | _=>none
theorem zj6 {C:Addr} {x:Str} {all sub:List Nat} {pp p2:Pos} (hI:∀c∈all,Ic X.K (ct c)∧PySem.W.kitOne X.K (.ref (ct c)) (.ref C)=some (sub.contains c)) (hm:X.mg "isinstance"=none) (hm2:X.mg x=some (.ref C)) (he:XE X ct ms n e f) (hg:Gl X "isinstance":=by rfl) (hg2:Gl X x:=by rfl) (hd2:(x == ("__debug__":Str))=false:=by decide)
  (hs1:starEach [e,.Name x p2] X.env=(false,eval e X.env)::starEach [.Name x p2] X.env:=by rfl) (hs2:starEach [.Name x p2] X.env=(false,eval (.Name x p2) X.env)::starEach [] X.env:=by rfl) (hpl:(backTo pos (starEach [.Name x p2] X.env)).any (·.1)=false:=by rfl) :
  XE X ct ms k (.Call (.Name "isinstance" pp) [e,.Name x p2] [] pos) (e1 (isiC all sub) f):=by
 obtain ⟨t,pt,qt⟩:=he
 refine ⟨_,zby zjj hg hm zaz (vg pt (vg (zix (v:=.ref C) hg2 hm2 rfl hd2) j8 hs2) hs1) (by decide) (by decide) hs1 hpl,fun F0 B F H ρ σ d Q rs e w=>?_⟩
 obtain ⟨d1,h1,h2⟩:=bind1 e
 refine qt F0 B F H ρ σ d1 _ rs h1 fun v F' H' x l=>?_
 cases d1 with
 | obj c ns ds =>
  unfold isiC at h2
  dsimp only at h2
  by_cases hc:all.contains c=true
  ·rw [if_pos hc] at h2
   cases h2
   obtain ⟨a,dx,vs,rfl,ha,_⟩:=l.obj x.fh
   obtain ⟨ic,kit⟩:=hI c (by simpa using hc)
   exact ⟨_,C,_,_,rfl,.ins ha ic.cl ic.ha ic.hn ic.ht ic.hm,kit,w _ F' H' x (Al.of (.bl _))⟩
  ·rw [if_neg hc] at h2; cases h2
 | _=>cases h2
end
end L3
namespace L3
open PySem PySem.Spec L2
section
variable {K:PySem.W.Frag} {ct:Nat→Addr} {n m k:Nat}
def itx (i:Int):Str:=((toString i:String):Str)
def strD:List D→Option D
 | [.int i]=>if i.natAbs.log2<1920 then some (.str (itx i)) else none
 | _=>none
theorem zox:OpN K ct [n] k (fun xs H Q=>∃i,xs=[.int i]∧i.natAbs.log2<1920∧Q (.str (toString i)) H) strD:=by
 intro F H vs ds d Q s l e w
 cases l with
 | cons h t =>
  cases t
  rename_i d1 v
  cases d1 with
  | int i =>
   unfold strD at e
   dsimp only at e
   by_cases hz:i.natAbs.log2<1920
   ·rw [if_pos hz] at e
    cases e
    exact ⟨i,by rw [h.int],hz,w _ F H (.refl s) (Al.of (.str _))⟩
   ·rw [if_neg hz] at e; cases e
  | _=>cases e
end
theorem zlz {i:Int} (h:Sz 1900 i):strD [.int i]=some (.str (itx i)):=by
 unfold strD
 dsimp only
 rw [if_pos]
 by_cases h0:i.natAbs=0
 ·rw [h0]; decide
 ·rw [Nat.log2_lt h0]
  exact Nat.lt_of_lt_of_le h (Nat.pow_le_pow_right (by decide) (by decide))
theorem zoy {i:Int} (h:Sz 1900 i):(itx i).length≤1921:=by
 refine PyProof.Rows.int_text_len_1921 ?_
 by_cases h0:i.natAbs=0
 ·rw [h0]; decide
 ·rw [Nat.log2_lt h0]
  exact Nat.lt_of_lt_of_le h (Nat.pow_le_pow_right (by decide) (by decide))
end L3
namespace PySem
section
variable {prog:Program} {w:World} {A:Around} {R:Result→Shared→Prop} {I:Addr} {fp wr:List Addr} {n:Nat} {P:Nat→Value→Prop} {St:Nat→Heap→Prop} {kw:List (Str×Value)}
end
section
variable {prog:Program} {w:World} {A:Around} {E:Value→Shared→Prop} {s:Shared}
end
end PySem
namespace L3
open PySem PySem.Spec L2
section
variable {X:Cx} {ct:Nat→Addr} {ms:List Mo} {e b:Expr} {f g:EF} {n m k:Nat}
end
end L3
namespace L3
open PySem PySem.Spec L2
open PyProof.Rows hiding St
section
variable {X:Cx} {ct:Nat→Addr} {ms:List Mo} {rk n m k:Nat} {a b c e o:Expr} {f g h:EF} {pos:Pos}
def rIndex (K:PySem.W.Frag):V→List V→Hp→VK→Prop:=fun x vs H Q=>∃p ys y j,x=.ref p∧vs=[y]∧SqL K H p ys∧flatV y=true∧ys.all flatV=true∧ys.findIdx? (fun z=>eqV z y)=some j∧Q (.int (j:Nat)) H
theorem zj7:∀{xs:List V} {us:List Value} {x:V},Vals xs us→xs.all flatV=true→us.map (eqU x)=xs.map fun y=>eqV y x
 | _,_,_,.nil,_=>rfl
 | y::xs,u::us,x,.cons r t,f=>by
  rw [List.all_cons,Bool.and_eq_true] at f
  rw [List.map_cons,List.map_cons,zm7 r f.1,zj7 t f.2]
theorem zl0:MtR X "list.index" (rIndex X.K):=by
 intro pins s σ H x vs v us Q I rx rv h
 obtain ⟨p,ys,y,j,rfl,rfl,hq,fy,fs,hj,q⟩:=h
 cases rx
 obtain ⟨u,rfl,ru⟩:=rv.one
 obtain ⟨its,r,pl,hz⟩:=I.list hq
 obtain ⟨⟨cls,dd,data,sl⟩,ho,hc,n,hd⟩:=pl.isList
 simp only at hc hd
 subst hc hd
 have hm:=zj7 (x:=y) r fs
 have hlen:=r.length
 obtain ⟨j1,j2,j3⟩:=List.findIdx?_eq_some_iff_getElem.mp hj
 have hat:∀i (hi:i<its.length),eqU y its[i]=eqV (ys[i]'(by omega)) y:=fun i hi=>by
  have:=congrArg (fun l=>l[i]?) hm
  simp only [List.getElem?_map] at this
  rw [List.getElem?_eq_getElem hi,List.getElem?_eq_getElem (by omega)] at this
  simpa using this
 have hzl:ys.length≤16777216:=hz
 refine call_meets PySem.F.slot_list_index ⟨_,ho,rfl⟩ PySem.F.entry_list_index (PySem.F.args_list_index_2 _ _)
  (SeqAt.list_indexAt p its.toArray n dd sl u (eqU y) j (by simp; omega) (by omega) ?_ ?_) ⟨ho,fun w hw=>zg5 ru fy r fs w (by simpa using hw),.int (j:Nat),H,I.tok _,⟨_,rfl⟩,q⟩
 ·simp only [List.getElem_toArray]; rw [hat j (by omega)]; exact j2
 ·intro i hi hlt
  simp only [List.getElem_toArray]
  rw [hat i (by simpa using hi)]
  simpa using j3 i hlt
def idxD:D→D→Option D
 | .lst ds,x=>if x.sc=true∧ds.all D.sc=true then (ds.findIdx? fun y=>eqS y x).bind fun j=>some (.int (j:Nat)) else none
 | _,_=>none
theorem znf {x:D} (hx:x.sc=true):∀{ds:List D},ds.all D.sc=true→(ds.map D.v).findIdx? (fun z=>eqV z x.v)=ds.findIdx? fun y=>eqS y x
 | [],_=>rfl
 | d::ds,h=>by
  rw [List.all_cons,Bool.and_eq_true] at h
  rw [List.map_cons,List.findIdx?_cons,List.findIdx?_cons,zq3 h.1 hx,znf hx h.2]
theorem zl1 {apos cpos:Pos} (ho:XE X ct ms n o f) (he:XE X ct ms m e g) (hst:starEach [e] X.env=(false,eval e X.env)::starEach [] X.env:=by rfl)
  (hbase:attributeBase o "index" X.env (eval o X.env)=eval o X.env:=by rfl)
  (hfew:((backTo cpos (starEach [e] X.env)).all (fun x=>!x.1) && (backToKw cpos (keywordEach [] X.env)).all (fun x=>x.1.isSome)
   && decide ([e].length+([]:List Keyword).length+(if ([]:List Keyword).isEmpty then 0 else 1)<30))=true:=by rfl)
  (hline:(apos.endLine == cpos.line)=true:=by rfl) (hplain:(backTo cpos (starEach [] X.env)).any (·.1)=false:=by rfl) :
  XE X ct ms k (.Call (.Attribute o "index" apos) [e] [] cpos) (e2 idxD f g):=by
 obtain ⟨ta,pa,qa⟩:=ho
 obtain ⟨tb,pb,qb⟩:=he
 refine ⟨_,zle PySem.F.plainAttrs_list PySem.F.slot_list_index PySem.F.type_list_index zl0 pa (vg pb j8 hst) hbase hfew hline hst hplain,fun F0 B F H ρ σ d Q rs e w=>?_⟩
 obtain ⟨d1,d2,h1,h2,h3⟩:=bind2 e
 refine qa F0 B F H ρ σ d1 _ rs h1 fun v1 F1 H1 x1 l1=>?_
 cases d1 with
 | lst ds =>
  unfold idxD at h3
  dsimp only at h3
  by_cases hz:d2.sc=true∧ds.all D.sc=true
  ·rw [if_pos hz] at h3
   obtain ⟨j,hj,h4⟩:=bind1 h3
   cases h4
   obtain ⟨p,vs,rfl,hp,hvs⟩:=l1.lst x1.fh
   refine ⟨.inl ⟨rfl,_,hp⟩,qb F0 B F1 H1 ρ σ d2 _ (rs.ext x1) h2 fun v2 F2 H2 x2 l2=>?_⟩
   have hv:=hvs.vs hz.2
   subst hv
   have hx:=Al.v l2 hz.1
   subst hx
   exact ⟨p,_,_,j,rfl,rfl,x2.hh.seq hp,D.flat hz.1,zhd hz.2,by rw [znf hz.1 hz.2]; exact hj,w _ F2 H2 (x1.trans x2) (Al.of (.int _))⟩
  ·rw [if_neg hz] at h3; cases h3
 | _=>cases h3
theorem zgm:∀{xs:List V} {us:List Value},xs.length=us.length→(∀(i:Nat) (x:V) (u:Value),xs[i]?=some x→us[i]?=some u→L2.RelV x u)→Vals xs us
 | [],[],_,_=>.nil
 | [],_::_,h,_=>by cases h
 | _::_,[],h,_=>by cases h
 | x::xs,u::us,h,r=>.cons (r 0 x u rfl rfl) (zgm (by simpa using h) fun i y w hy hw=>r (i+1) y w (by simpa using hy) (by simpa using hw))
def rLRng:List V→Hp→VK→Prop:=fun vs H Q=>∃j:Int,vs=[.int j]∧0≤j∧j≤16777216∧∀l,H l=none→Q (.ref l) (upd H l (.lst ((upto 0 j.toNat).map D.v)))
def lrngD:List D→Option D
 | [.int j]=>if 0≤j∧j≤16777216 then some (.lst (upto 0 j.toNat)) else none
 | _=>none
theorem zl2 {lo:Int} {n i:Nat} {d:D} (h:(upto lo n)[i]?=some d):d=.int (lo+(i:Int)):=by
 unfold upto at h
 rw [List.getElem?_map] at h
 obtain ⟨t,ht,rfl⟩:=Option.map_eq_some_iff.mp h
 have:=List.getElem?_eq_some_iff.mp ht
 obtain ⟨h1,h2⟩:=this
 rw [List.getElem_range] at h2
 rw [h2]
theorem zoz {ta:TA} {p1 p2 pos2:Pos} (hc:X.calm=true) (hg:Gl X "list") (hm:X.mg "list"=none) (hg2:Gl X "range") (hm2:X.mg "range"=none) (ha:PA X [a] ta) (hs:starEach [a] X.env=[(false,eval a X.env)]:=by rfl)
    (hs2:starEach [.Call (.Name "range" p2) [a] [] pos2] X.env=[(false,eval (.Call (.Name "range" p2) [a] [] pos2) X.env)]:=by rfl) :
    PE X (.Call (.Name "list" p1) [.Call (.Name "range" p2) [a] [] pos2] [] pos) (tCB rLRng ta):=by
  intro pins s σ H Q I h
  refine wpAny_Call_Name_kw (zav I hg hm zca ?_ (by decide) (by decide))
  refine PyProof.Rows.callWith_type1 ?_ hs2 rfl
  rw [hs2]
  show wpAny _ _ (spliced ((false,eval (.Call (.Name "range" p2) [a] [] pos2) X.env)::[])) _ _ s
  refine Calls.spliced_cons ?_
  refine wpAny_Call_Name_kw (zav I hg2 hm2 boot_range ?_ (by decide) (by decide))
  refine PyProof.Rows.callWith_type1 (thn (ha pos2 pins s σ H _ I h) fun us s1 ⟨vs,H1,I1,r1,q1⟩=>?_) hs rfl
  obtain ⟨j,rfl,h1,h2,q⟩:=q1
  obtain ⟨u,rfl,t,rfl⟩:=vals1 r1
  refine call_range_1 (Calls.spliced_nil ?_)
  have I2:L2.Inv X pins σ H1 { s1 with heap:=s1.heap.push { cls:=.type "range",data:=.fields #[.int 0 s1.toks,.int j t,.int 1 (s1.toks+1)] },toks:=s1.toks+1+1 }:=I1.kept fun b o e=>Heap.get?_push_of_some _ e
  have hsz:Builtin.Range.rangeSize 0 j 1=(j.toNat:Int):=by rw [rangeSize_one]; split <;> omega
  refine call_list_range (n:=j.toNat) (I2.ok.hd hc) (IsRange.new ..) (small_one (by omega) (by omega) (by omega) (by omega)) hsz (by omega) fun h' tk acc' c' kp hS hacc=>?_
  have hv:Vals ((upto 0 j.toNat).map D.v) acc'.toList:=by
    obtain ⟨e1,e2⟩:=hacc
    refine zgm (by simp [upto,e1]) fun i x u hx hu=>?_
    obtain ⟨t,rfl⟩:=e2 i u (by simpa using hu)
    rw [List.getElem?_map] at hx
    obtain ⟨d,hd,rfl⟩:=Option.map_eq_some_iff.mp hx
    have hd:=zl2 hd
    subst hd
    exact ⟨t,by rw [Int.mul_one]⟩
  have hl:((upto 0 j.toNat).map D.v).length≤sizeLine:=by rw [sizeLine_eq]; simp [upto]; omega
  exact ⟨.ref _,_,I2.laid (t':=tk) kp (Nat.le_refl _) (show ObjOk X.prog X.w _ h' _ (.lst _) from ⟨hl,acc'.toList,c',hv,hS⟩),rfl,q _ (I2.hok.fresh (Nat.le_refl _))⟩
theorem zo0 (lo:Int) (n:Nat):(upto lo n).all D.sc=true:=by
 rw [List.all_eq_true]
 intro d hd
 unfold upto at hd
 obtain ⟨t,_,rfl⟩:=List.mem_map.mp hd
 rfl
theorem pr_v {K:PySem.W.Frag} {F G:Hp}:∀{ds:List D},ds.all D.sc=true→Pr (Al K ct F G 0) ds (ds.map D.v)
 | [],_=>.nil
 | d::ds,h=>by
  rw [List.all_cons,Bool.and_eq_true] at h
  refine .cons ?_ (pr_v h.2)
  cases d with
  | non=>exact Al.of .non
  | bl b=>exact Al.of (.bl b)
  | int b=>exact Al.of (.int b)
  | str b=>exact Al.of (.str b)
  | _=>cases h.1
theorem zl3 {K:PySem.W.Frag}:OpNO K ct [n] 1 rLRng lrngD:=by
 intro F H vs ds d Q s l e w
 cases l with
 | cons h t =>
  cases t
  rename_i d1 v
  cases d1 with
  | int j =>
   unfold lrngD at e
   dsimp only at e
   by_cases hz:0≤j∧j≤16777216
   ·rw [if_pos hz] at e
    cases e
    exact ⟨j,by rw [h.int],hz.1,hz.2,zam s (pr_v (zo0 0 j.toNat)) w⟩
   ·rw [if_neg hz] at e; cases e
  | _=>cases e
theorem zj8 {fs:Env→Option (List D)} {p1 p2 pos2:Pos} (hc:X.calm=true) (hg:Gl X "list") (hm:X.mg "list"=none) (hg2:Gl X "range") (hm2:X.mg "range"=none) (ha:XA X ct ms [a] [n] fs) (hs:starEach [a] X.env=[(false,eval a X.env)]:=by rfl)
  (hs2:starEach [.Call (.Name "range" p2) [a] [] pos2] X.env=[(false,eval (.Call (.Name "range" p2) [a] [] pos2) X.env)]:=by rfl) :
  XO X ct ms 1 (.Call (.Name "list" p1) [.Call (.Name "range" p2) [a] [] pos2] [] pos) (eN lrngD fs):=by
 obtain ⟨t,pt,_,qt⟩:=ha
 refine ⟨_,zoz hc hg hm hg2 hm2 pt hs hs2,fun F0 B F H ρ σ r Q rs e w=>?_⟩
 obtain ⟨ds,h1,h2⟩:=bind1 e
 exact qt F0 B F H ρ σ ds _ rs h1 fun vs F1 H1 x1 l=>zl3 F1 H1 vs ds r Q x1.fh l h2 fun v F2 H2 fp x2 l2 nd hf=>w v F2 H2 fp (x1.trans x2) l2 nd fun z hz=>x1.hh.free (hf z hz)
def sAppPop (i j:Nat) (f:EF):SF:=fun ρ=>(eV i ρ).bind fun o=>(eV j ρ).bind fun q=>(f ρ).bind fun z=>match o,q,z with
 | .lst ds,.lst es,.int y=>if ds.length<16777216∧es.length≤16777216 then (ixN es.length y).bind fun t=>es[t]?.bind fun d=>some (.nx ((ρ.set j (some (.lst (es.eraseIdx t)))).set i (some (.lst (ds++[d]))))) else none
 | _,_,_=>none
theorem Pr.erase {R:D→V→Prop}:∀{ds:List D} {vs:List V} (i:Nat),Pr R ds vs→Pr R (ds.eraseIdx i) (vs.eraseIdx i)
 | _,_,_,.nil=>.nil
 | _,_,0,.cons h t=>t
 | _,_,i+1,.cons h t=>.cons h (t.erase i)
theorem zj9 (i j:Nat) {x y:Str} {p1 p2 apos cpos apos2 cpos2:Pos} (hm:ms[i]?=some (.ow 1)) (hm2:ms[j]?=some (.ow 1)) (hij:i≠j) (he:XE X ct ms n e f)
  (hN:X.N[i]?=some x:=by rfl) (hv:Vis X.env.scope x:=by first | exact Or.inl rfl | exact Or.inr (Or.inl rfl) | exact Or.inr (Or.inr rfl)) (hd:(x == ("__debug__":Str))=false:=by decide) (hcd:(x == ("__classdict__":Str))=false:=by decide)
  (hN2:X.N[j]?=some y:=by rfl) (hv2:Vis X.env.scope y:=by first | exact Or.inl rfl | exact Or.inr (Or.inl rfl) | exact Or.inr (Or.inr rfl)) (hd2:(y == ("__debug__":Str))=false:=by decide) (hcd2:(y == ("__classdict__":Str))=false:=by decide)
  (hst:starEach [e] X.env=(false,eval e X.env)::starEach [] X.env:=by rfl)
  (hbase2:attributeBase (.Name y p2) "pop" X.env (eval (.Name y p2) X.env)=eval (.Name y p2) X.env:=by rfl)
  (hfew2:((backTo cpos2 (starEach [e] X.env)).all (fun x=>!x.1) && (backToKw cpos2 (keywordEach [] X.env)).all (fun x=>x.1.isSome)
   && decide ([e].length+([]:List Keyword).length+(if ([]:List Keyword).isEmpty then 0 else 1)<30))=true:=by rfl)
  (hline2:(apos2.endLine == cpos2.line)=true:=by rfl) (hplain2:(backTo cpos2 (starEach [] X.env)).any (·.1)=false:=by rfl)
  (hst2:starEach [.Call (.Attribute (.Name y p2) "pop" apos2) [e] [] cpos2] X.env=(false,eval (.Call (.Attribute (.Name y p2) "pop" apos2) [e] [] cpos2) X.env)::starEach [] X.env:=by rfl)
  (hbase:attributeBase (.Name x p1) "append" X.env (eval (.Name x p1) X.env)=eval (.Name x p1) X.env:=by rfl)
  (hfew:((backTo cpos (starEach [.Call (.Attribute (.Name y p2) "pop" apos2) [e] [] cpos2] X.env)).all (fun x=>!x.1) && (backToKw cpos (keywordEach [] X.env)).all (fun x=>x.1.isSome)
   && decide ([Expr.Call (.Attribute (.Name y p2) "pop" apos2) [e] [] cpos2].length+([]:List Keyword).length+(if ([]:List Keyword).isEmpty then 0 else 1)<30))=true:=by rfl)
  (hline:(apos.endLine == cpos.line)=true:=by rfl) (hplain:(backTo cpos (starEach [] X.env)).any (·.1)=false:=by rfl)
  (hsw:swapsWith (.Call (.Attribute (.Name x p1) "append" apos) [.Call (.Attribute (.Name y p2) "pop" apos2) [e] [] cpos2] [] cpos) none pos.line X.env=pure false:=by rfl) :
  XS X ct ms rk (.Expr (.Call (.Attribute (.Name x p1) "append" apos) [.Call (.Attribute (.Name y p2) "pop" apos2) [e] [] cpos2] [] cpos) pos) (sAppPop i j f):=by
 obtain ⟨t,pt,qt⟩:=he
 refine ⟨_,zf8 (zle PySem.F.plainAttrs_list PySem.F.slot_list_append PySem.F.type_list_append zaw (jc hN hv hd hcd)
  (vg (zle PySem.F.plainAttrs_list PySem.F.slot_list_pop PySem.F.type_list_pop zlf (jc hN2 hv2 hd2 hcd2) (vg pt j8 hst) hbase2 hfew2 hline2 hst hplain2) j8 hst2) hbase hfew hline hst2 hplain) hsw,fun F0 B F H ρ σ o E rs e z=>?_⟩
 obtain ⟨d1,d2,h1,h2,h3⟩:=bind2 e
 obtain ⟨d3,h4,h5⟩:=bind1 h3
 cases d1 with
 | lst ds =>
  cases d2 with
  | lst es =>
   cases d3 with
   | int w =>
    dsimp only at h5
    by_cases hz:ds.length<16777216∧es.length≤16777216
    ·rw [if_pos hz] at h5
     obtain ⟨t2,h6,h7⟩:=bind1 h5
     obtain ⟨d,h8,h9⟩:=bind1 h7
     cases h9
     obtain ⟨g1,gr,gn1,gb1,gdj,gi4,gcf,gput⟩:=rs.put (F':=F) (H':=H) hm
     obtain ⟨v,hσ,ow⟩:=gi4 _ (yc h1)
     obtain ⟨ad,vs,fr1,rfl,rfl,hF,hH,ol⟩:=ow.lst_inv
     obtain ⟨f1,fr,n1,b1,dj,i4,cf,put⟩:=rs.put (F':=F) (H':=H) hm2
     obtain ⟨v2,hσ2,ow2⟩:=i4 _ (yc h2)
     obtain ⟨bd,us,fr2,rfl,rfl,hF2,hH2,ol2⟩:=ow2.lst_inv
     have z2:=OwL.nil0 ol2
     subst z2
     refine ⟨_,hσ,.inl ⟨rfl,_,SqL.of hH⟩,_,hσ2,.inl ⟨rfl,_,SqL.of hH2⟩,qt F0 B F H ρ σ _ _ rs h4 fun v3 F' H' x1 l3=>?_⟩
     have hv3:=l3.int
     subst hv3
     obtain ⟨s1,s2,s3,s4⟩:=zgb h6
     have hB':H' bd=some (.lst us):=x1.hh _ _ hH2
     have fB:F' bd=none:=x1.nf bd _ hH2 hF2
     have lu:=ol2.length
     have pr2:Pr (fun d v=>Dt X.K ct F' d v) es us:=ol2.pr fun d v f _ q=>q.1.mono x1.ff
     obtain ⟨u,hu,ru⟩:=pr2.get' h8
     refine ⟨bd,us,w,t2,u,rfl,rfl,hB',by omega,by omega,by rw [← lu]; exact s1,hu,?_⟩
     have rs1:=rs.change hm2 x1 hσ2 b1 dj cf put List.mem_cons_self fB (d':=.lst (es.eraseIdx t2)) (o:=.lst (us.eraseIdx t2)) (.inr (.lst fB yo (OwL.ofPr ((pr2.erase t2).mono fun _ _ q=>Ow.zero q)))) (fn:=[bd]) (by simp) (fun a ha=>by
      rw [List.mem_singleton] at ha; subst ha; exact .inl List.mem_cons_self)
     obtain ⟨g1',gr',gn1',gb1',gdj',gi4',gcf',gput'⟩:=rs1.put (F':=F') (H':=upd H' bd (.lst (us.eraseIdx t2))) hm
     have hne:(ρ.set j (some (D.lst (es.eraseIdx t2))))[i]? = ρ[i]?:=List.getElem?_set_ne (fun e=>hij e.symm)
     obtain ⟨v',hσ',ow'⟩:=gi4' (.lst ds) (by rw [hne]; exact yc h1)
     rw [hσ] at hσ'
     cases hσ'
     obtain ⟨ad',vs',fr1',e1,rfl,hF',hH',ol'⟩:=ow'.lst_inv
     cases e1
     have zn:=OwL.nil0 ol'
     subst zn
     refine ⟨ad,vs',u,rfl,rfl,hH',by rw [← ol'.length,sizeLine_eq]; exact hz.1,?_⟩
     refine z σ F' _ (rs1.change hm (.refl rs1.fh) hσ gb1' gdj' gcf' gput' List.mem_cons_self hF' (.inr (.lst hF' yo ((ol'.mono fun _ _ f' hi o'=>?_).append (.cons (f:=[]) (Ow.zero ru) .nil)))) (fn:=[ad]) (by simp) fun a ha=>by
      rw [List.mem_singleton] at ha; subst ha; exact .inl List.mem_cons_self)
     exact o'
    ·rw [if_neg hz] at h5; cases h5
   | _=>cases h5
  | _=>cases h5
 | _=>cases h5
end
end L3
namespace L2
open PySem PyProof.Rows
theorem zl4 {X:Cx} {pins:List (Addr×Obj)} {σ:St} {H:Hp} {s:Shared} {QV:VK} {use:Option (Value→Sem Unit)} {Q0:Value→Shared→Prop} {elt iter tg:Expr} {ifs:List Expr} {scope:Scope} {pos pos2:Pos} {N:List Str} {own:Nat} {cap:List Nat} {wi:TI} {g:TG} {tt:TT} {te:TE} (B:BlkOk X scope N own cap) (hc:X.calm=true) (hi:PI X tg iter wi)
    (kg:keepsCaps own g)
    (hg:∀cl C fp s₀ H₀,PG (cxB X scope cl N C fp s₀ H₀) tg g) (ht:∀cl C fp s₀ H₀,PTs (cxB X scope cl N C fp s₀ H₀) ifs tt) (he:∀cl C fp s₀ H₀,PE (cxB X scope cl N C fp s₀ H₀) elt te)
    (hs:∀x,foldedSetIterable iter X.env x=pure x) (I:Inv X pins σ H s) (h:tComp wi own cap g tt te σ H QV)
    (fin:∀(D C:Addr) (H5:Hp) (s6:Shared) (r:Flow),QV (.ref D) H5→Inv X pins σ H5 s6→FpOk X pins H5 C→(∃m,s6.heap.Ns C m)→compPost (model X.prog X.w) X.A X.xe use Q0 (.ref D) C (.ok r) s6) :
    wpAny (model X.prog X.w) X.A (comprehension (.ListComp elt [⟨tg,iter,ifs,0⟩] scope pos) scope X.env pos2 (newList []) false (eval iter X.env) use) Q0 X.xe s:=by
  obtain ⟨cl,hcl,c1,c2,_⟩:=zaa (env:=X.env) scope.names [] (fun x hx hf=>I.ok.has x.1 (B.free x hx hf)) (fun y c e=>by simp at e)
  have hclos:closureFor scope X.env=pure cl:=by
    have e:closureFor scope X.env=(forIn scope.names ([]:List (Str×Addr)) (fun (x:Str×NameKind) (cs:List (Str×Addr))=>if (x.2 == NameKind.free)=true then do let a ← cellOf X.env x.1; pure (ForInStep.yield ((x.1,a)::cs)) else pure (ForInStep.yield cs)) >>= pure:Sem (List (Str×Addr))):=rfl
    rw [e,hcl]
    rfl
  refine wpAny_comprehension_free (use:=use) rfl hs hclos B.kind B.locs (thn (hi pins s σ H _ I h) fun v s1 h1=>thn h1 fun itv s2 h2=>?_)
  obtain ⟨it,fp,tn,J,H2,e,I2,T,st2,f2,W0⟩:=h2
  subst e
  obtain ⟨W,⟨m0,w0⟩,turn⟩:=W0 s2.heap.objs.size (I2.hok.fresh (Nat.le_refl _))
  refine wpAny_newObj_type ?_
  have I3:Inv X pins σ (upd H2 s2.heap.objs.size (.lst [])) { s2 with heap:=s2.heap.push { cls:=.type "list",data:=.seq ([]:List Value).toArray } }:=I2.lnew .nil (Nat.zero_le _)
  generalize hs3:({ s2 with heap:=s2.heap.push { cls:=.type "list",data:=.seq ([]:List Value).toArray } }:Shared)=s3 at I3
  have k3:∀b o,s2.heap.get? b=some o→s3.heap.get? b=some o:=fun b o e=>by rw [← hs3]; exact Heap.get?_push_of_some _ e
  have z3:s3.heap.objs.size=s2.heap.objs.size+1:=by rw [← hs3]; exact Heap.size_push _ _
  have hfo2:∀b∈fp,b<s2.heap.objs.size:=fun b hb=>by
    obtain ⟨o,e,_⟩:=T.obj _ _ st2 b hb
    exact Heap.lt_size e
  have hne:∀b∈fp,b≠s2.heap.objs.size:=fun b hb=>Nat.ne_of_lt (hfo2 b hb)
  have f3:∀b∈fp,FpOk X pins (upd H2 s2.heap.objs.size (.lst [])) b:=fun b hb=>⟨by rw [yh (hne b hb)]; exact (f2 b hb).1,(f2 b hb).2⟩
  have tn3:tn 0 s3.heap:=T.keep _ _ _ st2 fun b _ o e=>k3 b o e
  show wpAny _ _ (newFunctionEnv scope X.env.globals cl [] X.env.qual none .none (some X.env)) _ _ _
  refine zbn fun h₁ kk hns₁ hcs₁=>?_
  have IB:=ze8 (t':=s3.toks) B I3 c1 c2 f3 (fun b hb=>by rw [z3]; exact Nat.lt_succ_of_lt (hfo2 b hb)) hns₁ kk hcs₁
  generalize cellsFrom (s3.heap.objs.size+1) scope.names cl=cl at IB ⊢
  generalize hs4:({ s3 with heap:=h₁,toks:=s3.toks }:Shared)=s4 at IB
  have tn4:tn 0 s4.heap:=T.keep _ _ _ tn3 fun b _ o e=>by rw [← hs4]; exact kk b o e
  show codeAny (model X.prog X.w) X.A (.compStart (.ListComp elt [⟨tg,iter,ifs,0⟩] scope pos) 0 (.ref it) (.ref s2.heap.objs.size) (compEnvC scope cl s3.heap.objs.size X.env))
      (compPost (model X.prog X.w) X.A X.xe use Q0 (.ref s2.heap.objs.size) s3.heap.objs.size) s4
  have stat:∀{H':Hp},(∀b∈fp,H' b=none)→∀b∈fp,FpOk (cxB X scope cl N s3.heap.objs.size fp s3 (upd H2 s2.heap.objs.size (.lst []))) [] H' b:=fun hn b hb =>
    ⟨hn b hb,Nat.ne_of_lt (by show b<s3.heap.objs.size; rw [z3]; exact Nat.lt_succ_of_lt (hfo2 b hb)),IB.ok.exfs b hb,.inl hb,fun x c e=>(IB.ok.exf b hb).2 x c e,fun p hp=>(nomatch hp)⟩
  have loop:codeAny (model X.prog X.w) X.A (.compLoop (.ListComp elt [⟨tg,iter,ifs,0⟩] scope pos) 0 (.ref it) (.ref s2.heap.objs.size) (compEnvC scope cl s3.heap.objs.size X.env))
      (compPost (model X.prog X.w) X.A X.xe use Q0 (.ref s2.heap.objs.size) s3.heap.objs.size) s4:=by
    refine zbm (fun n s'=>∃i ys H',Inv (cxB X scope cl N s3.heap.objs.size fp s3 (upd H2 s2.heap.objs.size (.lst []))) [] (List.replicate own none++capsOf σ cap) H' s'∧tn i s'.heap∧(∀b∈fp,H' b=none)∧W i n ys H') ?_ m0
      ⟨0,[],_,IB,tn4,fun b hb=>(f3 b hb).1,w0⟩
    rintro n s5 ⟨i,ys,H5,I5,st5,fr5,w5⟩
    obtain ⟨hD,hgo⟩:=turn i n ys H5 w5
    rcases hgo with ⟨stop,qn⟩ | ⟨go,hlt,step⟩
    · refine thn (T.done (cxB X scope cl N s3.heap.objs.size fp s3 (upd H2 s2.heap.objs.size (.lst []))) rfl rfl rfl hc i [] s5 _ H5 (fun _ _=>False) I5 (stat fr5) st5 stop) fun r s6 ⟨hr,I6⟩=>?_
      subst hr
      obtain ⟨m,hm,_⟩:=id I6.loc
      refine fin s2.heap.objs.size s3.heap.objs.size H5 s6 _ qn ?_ (I3.fpOk (Nat.le_refl _) I6.free) ⟨m,hm⟩
      have sb:Heap.SameBut s3.heap.objs.size s6.heap s6.heap:=⟨rfl,fun _ _=>rfl⟩
      have U:=I6.base
      have nC:∀b o,s3.heap.get? b=some o→b≠s3.heap.objs.size:=fun b o e=>Nat.ne_of_lt (Heap.lt_size e)
      have nT:∀b o,H5 b=some o→b≠s3.heap.objs.size:=fun b o e z=>by
        have q:H5 s3.heap.objs.size=none:=I6.free
        rw [z,q] at e
        cases e
      refine I3.call' (ch:=fp) I6.os ?_ (fun a o e=>(I6.hok a o e).stay (fun b u hb q=>sb.extBut b u ?_ q) (fun _ q=>q) fun _ _ q=>q) I6.bare (fun b hb=>⟨(f3 b hb).2.2.2.1,(f3 b hb).2.1,(f3 b hb).2.2.2.2.1,(f3 b hb).2.2.2.2.2⟩)
      · exact {
          keep:=fun b o e z hb he=>sb.extBut b o (nC b o e) (U.keep b o e z hb he)
          slot:=fun b o e z hb he=>by
            obtain ⟨sl,q⟩:=U.slot b o e z hb he
            exact ⟨sl,sb.extBut b _ (nC b o e) q⟩
          free:=U.free
          there:=fun b o e he=>by
            obtain ⟨o',q⟩:=U.there b o e he
            exact ⟨o',sb.extBut b o' (nC b o e) q⟩
          tups:=U.tups
          frzs:=U.frzs
          tbls:=U.tbls }
      · rcases hb with rfl | hb
        · exact nT _ _ e
        · exact nT _ _ hb
    · refine thn (T.item (cxB X scope cl N s3.heap.objs.size fp s3 (upd H2 s2.heap.objs.size (.lst []))) rfl rfl rfl hc i [] s5 _ H5 (fun _ _=>False) I5 (stat fr5) st5 go) fun r s6 ⟨u,hr,h6⟩=>?_
      subst hr
      refine thn h6 fun _ s7 ⟨x,H7,I7,r7,y7,st7,fr7⟩=>?_
      have I7':=I7.pinned (stat fr7) (T.obj _ _ st7)
      refine thn (hg cl s3.heap.objs.size fp s3 _ _ s7 _ H7 x u _ I7' r7 (kg _ _ _ _ (step x H7 y7))) fun _ s8 ⟨σ8,H8,I8,q8,l8,p8⟩=>?_
      have back:∀{H9:Hp} {s9:Shared},Inv (cxB X scope cl N s3.heap.objs.size fp s3 (upd H2 s2.heap.objs.size (.lst []))) ([]++pinsAt fp s7.heap) σ8 H9 s9 →
          Inv (cxB X scope cl N s3.heap.objs.size fp s3 (upd H2 s2.heap.objs.size (.lst []))) [] (List.replicate own none++capsOf σ cap) H9 s9∧tn (i+1) s9.heap∧∀b∈fp,H9 b=none:=fun {H9 s9} I9=>by
        refine ⟨(I9.unpinned).weak l8.symm (fun j v e=>?_),T.keep _ _ _ st7 fun b hb o e=>(I9.pin (b,o) (List.mem_append_right _ (List.mem_append_right _ (jb hb e)))).1,fun b hb=>?_⟩
        · by_cases hj:j<own
          · rw [List.getElem?_append_left (by rw [List.length_replicate]; exact hj),List.getElem?_replicate,if_pos hj] at e
            cases e
          · rw [p8 j (by omega)]; exact e
        · obtain ⟨o,e,d⟩:=T.obj _ _ st7 b hb
          exact (I9.pin (b,o) (List.mem_append_right _ (List.mem_append_right _ (jb hb e)))).2.1
      refine thn (ht cl s3.heap.objs.size fp s3 _ _ s8 σ8 H8 _ I8 q8) fun ok s9 ⟨H9,I9,q9⟩=>?_
      cases ok with
      | false =>
        rw [if_neg Bool.false_ne_true]
        rw [if_neg Bool.false_ne_true] at q9
        obtain ⟨m',hm',w'⟩:=q9
        obtain ⟨b1,b2,b3⟩:=back I9
        exact ⟨m',hm',i+1,ys,H9,b1,b2,b3,w'⟩
      | true =>
        rw [if_pos rfl]
        rw [if_pos rfl] at q9
        refine thn (he cl s3.heap.objs.size fp s3 _ _ s9 σ8 H9 _ I9 q9) fun uy s10 ⟨y,H10,I10,r10,hD10,m',hm',w'⟩=>?_
        refine thn (zaw _ s10 σ8 H10 (.ref s2.heap.objs.size) [y] (.ref s2.heap.objs.size) [uy] (fun _ H11=>H11=upd H10 s2.heap.objs.size (.lst (ys++[y]))) I10 rfl (.cons r10 .nil) ⟨_,ys,y,rfl,rfl,hD10,hlt,rfl⟩) fun _ s11 ⟨_,H11,I11,_,e11⟩=>?_
        subst e11
        obtain ⟨b1,b2,b3⟩:=back I11
        exact ⟨m',hm',i+1,ys++[y],_,b1,b2,b3,w'⟩
  exact codeAny_compStart_list loop (T.self X.A 0 s4 _ _ tn4 loop)
theorem zik {X:Cx} {i:Nat} {x:Str} {pos' spos:Pos} {elt iter tg:Expr} {ifs:List Expr} {scope:Scope} {pos:Pos} {N:List Str} {own:Nat} {cap:List Nat} {wi:TI} {g:TG} {tt:TT} {te:TE} (B:BlkOk X scope N own cap) (hc:X.calm=true) (hi:PI X tg iter wi)
  (kg:keepsCaps own g)
  (hg:∀cl C fp s₀ H₀,PG (cxB X scope cl N C fp s₀ H₀) tg g) (ht:∀cl C fp s₀ H₀,PTs (cxB X scope cl N C fp s₀ H₀) ifs tt) (he:∀cl C fp s₀ H₀,PE (cxB X scope cl N C fp s₀ H₀) elt te)
  (hN:X.N.Nodup) (hi2:X.N[i]?=some x) (hx:Loc X.env.scope x) (hsw:swapsWith (.ListComp elt [⟨tg,iter,ifs,0⟩] scope pos) (some (.Name x pos')) spos.line X.env=pure true)
  (hs:∀x,foldedSetIterable iter X.env x=pure x:=by intro _; rfl) (hf:X.fn x=true∨X.env.scope.names.lookup x=some .local:=by first | exact .inl rfl | exact .inr rfl | assumption) :
  PS X (.Assign [.Name x pos'] (.ListComp elt [⟨tg,iter,ifs,0⟩] scope pos) spos) (tAsg (tComp wi own cap g tt te) (gName i)):=by
 intro pins s σ H D I h
 rw [exec_Assign_Name_used _ _ _ _ hsw]
 refine wpAny_bind (wpAny_standAt (wpAny_bind ?_))
 show wpAny _ X.A (do let _ ← comprehension (.ListComp elt [⟨tg,iter,ifs,0⟩] scope pos) scope X.env _ (newList []) false (eval iter X.env) (some (assign (.Name x pos') X.env))) _ _ s
 refine wpAny_bind (wpAny_mono (zl4 (use:=some (assign (.Name x pos') X.env)) (Q0:=fun _ s'=>∃σ' H',Inv X pins σ' H' s'∧D.nx σ' H') B hc hi kg hg ht he hs I h fun Da C H5 s6 r q I6 fo hm=>?_) (fun _ s' hq=>wpAny_pure (wpAny_pure hq)) fun _ _ e=>e)
 show wpAny _ X.A (assign (.Name x pos') X.env (.ref Da)) _ _ _
 refine wpAny_assign_Name (zeq (v:=.ref Da) I6 hN hi2 hx rfl (fun s7 I7 hsb=>?_) hf)
 obtain ⟨m,hm⟩:=hm
 obtain ⟨a,sb,ha⟩:=hsb
 obtain ⟨f0,f1,f2,f3,f4,f5⟩:=fo
 have hne:C≠a:=by
  rcases ha with rfl | ha
  ·exact f1
  ·exact fun z=>f4 x a ha z.symm
 refine ⟨m,hm.sameBut sb hne,fun h' sb'=>⟨_,H5,I7.turned (t':=s7.toks) (it:=C) (fun b o hb e=>sb'.extBut b o hb e) f0 f1 f3 f4 f5,q⟩⟩
end L2
namespace L3
open PySem PySem.Spec L2
open PyProof.Rows hiding St
section
variable {X:Cx} {ct:Nat→Addr} {ms:List Mo} {rk n m k:Nat} {a b c e o:Expr} {f g h:EF} {pos:Pos}
theorem vd {om:List Mo} {elt iter tg:Expr} {ifs:List Expr} {scope:Scope} {N:List Str} {own:Nat} {cap:List Nat} {fi:Env→Option (List D)} {gg:D→Env→Option Env} {p:BF} {i:Nat} {x:Str} {pos' spos:Pos}
  (hm:ms[i]?=some (.ow k)) (hN:X.N.Nodup) (hi2:X.N[i]?=some x) (hx:Loc X.env.scope x)
  (B:BlkOk X scope N own cap) (hc:X.calm=true) (ho:om.length=own) (hcap:∀i∈cap,i<ms.length) (hi:XIc X ct ms n tg iter fi)
  (hg:∀cl C fp s₀ H₀,XGc (cxB X scope cl N C fp s₀ H₀) ct (om++capsM ms cap) own n tg gg) (ht:∀cl C fp s₀ H₀,XTs (cxB X scope cl N C fp s₀ H₀) ct (om++capsM ms cap) ifs p) (he:∀cl C fp s₀ H₀,XO (cxB X scope cl N C fp s₀ H₀) ct (om++capsM ms cap) (k-1) elt f)
  (hsw:swapsWith (.ListComp elt [⟨tg,iter,ifs,0⟩] scope pos) (some (.Name x pos')) spos.line X.env=pure true:=by rfl)
  (hs:∀x,foldedSetIterable iter X.env x=pure x:=by intro _; rfl) (hf:X.fn x=true∨X.env.scope.names.lookup x=some .local:=by first | exact .inl rfl | exact .inr rfl | assumption) :
  XS X ct ms rk (.Assign [.Name x pos'] (.ListComp elt [⟨tg,iter,ifs,0⟩] scope pos) spos) (sSet i (eComp fi own cap gg p f)):=by
 obtain ⟨wi,g,tt,te,pi,kg,pg,pt,pe,q⟩:=zhe (k:=k-1) (pos:=pos) B hc ho hcap hi hg ht he
 refine ⟨_,zik B hc pi kg pg pt pe hN hi2 hx hsw hs hf,fun F0 B F H ρ σ o E rs e w=>?_⟩
 obtain ⟨d,h1,h2⟩:=bind1 e
 cases h2
 cases k with
 | succ k=>exact q F0 B F H ρ σ d _ rs h1 fun v F' H' fp x l nd hf=>w _ F' H' (rs.set hm x l nd hf)
 | zero =>
  refine q F0 B F H ρ σ d _ rs h1 fun v F' H' fp x l nd hf=>?_
  obtain ⟨F2,x2,l2⟩:=l.freeze x hf
  exact w _ F2 H' (rs.set hm x2 (Ow.zero l2) List.nodup_nil fun a z=>by cases z)
theorem zka {i:Nat} {x:Str} {pos':Pos} (hm:ms[i]?=some (.ow k)) (hN:X.N[i]?=some x:=by rfl) (hv:Vis X.env.scope x:=by first | exact Or.inl rfl | exact Or.inr (Or.inl rfl) | exact Or.inr (Or.inr rfl)) (hd:(x == ("__debug__":Str))=false:=by decide)
  (hcd:(x == ("__classdict__":Str))=false:=by decide):XS X ct ms 0 (.Return (some (.Name x pos')) pos) (sRet (eV i)):=by
 refine ⟨_,ziz (jc hN hv hd hcd),fun F0 B F H ρ σ o E rs e w=>?_⟩
 obtain ⟨d,h1,h2⟩:=bind1 e
 cases h2
 obtain ⟨fp,sl,nd,hb⟩:=rs.sl
 obtain ⟨f1,fr,i1,i2,i3,i4,i5⟩:=sl.put hm
 obtain ⟨v,hv',l⟩:=i4 d (yc h1)
 obtain ⟨F',x,l2⟩:=l.freeze (⟨rs.f0,rs.bh,rs.fh,rs.nf⟩:Ext F0 B F H) (fun z hz=>hb z (i1 z hz))
 exact ⟨v,hv',w v F' H [] x.ff x.hh x.fh x.nf (Ow.zero l2) List.nodup_nil fun z hz=>by cases hz⟩
theorem zrg (hu:X.A.units+1<cLine) (ha:XE X ct ms n a f) (hb:XE X ct ms m b g) (hm:behindInMarks .In b=false):XT X ct ms (.Compare a [.In] [b] pos) (tb fun ρ=>(f ρ).bind fun x=>(g ρ).bind fun y=>(dgetD y x).bind fun r=>some (.bl r.isSome)):=by
 obtain ⟨ta,tb',pa,pb,q⟩:=ha.bin hb
 refine ⟨_,zmz (zqu hu pa pb) hm,fun F0 B F H ρ σ t Q rs e w=>?_⟩
 obtain ⟨d0,h0,h9⟩:=bind1 e
 obtain ⟨d1,d2,h1,h2,h3⟩:=bind2 h0
 obtain ⟨r,h4,h5⟩:=bind1 h3
 cases h5
 cases h9
 refine q F0 B F H ρ σ d1 d2 _ rs h1 h2 fun x y F' H' x1 l1 l2=>?_
 obtain ⟨a,o,rfl,g,_,h⟩:=zgf (r:=r) x1.fh l2 l1 h4
 refine ⟨a,o,rfl,g,?_⟩
 cases r with
 | none=>rw [h.none_of]; exact ⟨_,rfl,w F' H' x1⟩
 | some d=>obtain ⟨u,rfl,hu'⟩:=h.some_of; exact ⟨_,rfl,w F' H' x1⟩
theorem zfn (hu:X.A.units+1<cLine) (ha:XE X ct ms n a f) (hb:XE X ct ms m b g) (hm:behindInMarks .NotIn b=false):XT X ct ms (.Compare a [.NotIn] [b] pos) (tb fun ρ=>(f ρ).bind fun x=>(g ρ).bind fun y=>(dgetD y x).bind fun r=>some (.bl (!r.isSome))):=by
 obtain ⟨ta,tb',pa,pb,q⟩:=ha.bin hb
 refine ⟨_,zmz (zjg hu pa pb) hm,fun F0 B F H ρ σ t Q rs e w=>?_⟩
 obtain ⟨d0,h0,h9⟩:=bind1 e
 obtain ⟨d1,d2,h1,h2,h3⟩:=bind2 h0
 obtain ⟨r,h4,h5⟩:=bind1 h3
 cases h5
 cases h9
 refine q F0 B F H ρ σ d1 d2 _ rs h1 h2 fun x y F' H' x1 l1 l2=>?_
 obtain ⟨a,o,rfl,g,_,h⟩:=zgf (r:=r) x1.fh l2 l1 h4
 refine ⟨a,o,rfl,g,?_⟩
 cases r with
 | none=>rw [h.none_of]; exact ⟨_,rfl,w F' H' x1⟩
 | some d=>obtain ⟨u,rfl,hu'⟩:=h.some_of; exact ⟨_,rfl,w F' H' x1⟩
end
end L3
namespace L2
open PySem PyProof.Rows
end L2
namespace L3
open PySem PySem.Spec L2
open PyProof.Rows hiding St
section
variable {X:Cx} {ct:Nat→Addr} {ms:List Mo} {rk n m k:Nat} {st:Stmt} {rest:List Stmt} {a b c e tg:Expr} {f g h:EF} {p q:BF} {u w:SF} {pos:Pos}
end
end L3
namespace L3
open PySem PySem.Spec L2
open PyProof.Rows hiding St
section
variable {X:Cx} {ct:Nat→Addr} {ms:List Mo} {rk n m k:Nat} {st:Stmt} {rest:List Stmt} {a b c e tg:Expr} {f g h:EF} {p q:BF} {u w:SF} {pos:Pos}
end
end L3
namespace L3
open PySem PySem.Spec L2
open PyProof.Rows hiding St
section
variable {K:PySem.W.Frag} {ct:Nat→Addr} {F F' H B F0:Hp}
theorem SL.fz:∀{ms:List Mo} {ρ:Env} {σ:St} {fp:List Addr} {i k:Nat},SL K ct F B H ms ρ σ fp→Same F H→fp.Nodup→ms[i]?=some (.ow k)→∃f1:List Addr,(∀a∈f1,a∈fp) ∧
  ∃fp',SL K ct (withC F H f1) B H (ms.set i (.ow 0)) ρ σ fp'∧fp'.Nodup∧∀a∈fp',a∈fp∧a∉f1
 | _,_,_,_,_,_,.nil,_,_,e=>by simp at e
 | _,_,_,fp,0,k,.no t,s,nd,e=>by
  obtain ⟨w1,w2,w3⟩:=uq (F:=F) (H:=H) (fp:=[]) s (fun a z=>by cases z)
  exact ⟨[],fun a z=>(by cases z),fp,.no (t.frame w1 fun a z=>⟨rfl,by unfold withC; rw [if_neg (by simp)]; exact (t.cells a z).1⟩),nd,fun a z=>⟨z,by simp⟩⟩
 | _,_,_,_,0,k,.al h t,_,_,e=>by simp at e
 | _,_,_,_,0,k,.px h t,_,_,e=>by simp at e
 | _,_,_,_,0,k,.so h t,_,_,e=>by simp at e
 | _,_,_,_,0,k,.ow (f:=f) (fp:=fp) h t,s,nd,e=>by
  obtain ⟨w1,w2,w3⟩:=uq (F:=F) (H:=H) (fp:=f) s (fun a z=>(h.cells a z).1)
  obtain ⟨n1,n2,n3⟩:=List.nodup_append.mp nd
  refine ⟨f,fun a z=>List.mem_append_left _ z,[]++fp,.ow ⟨h.dt w1 w3,rfl⟩ (t.frame w1 fun a z=>⟨rfl,?_⟩),n2,fun a z=>⟨List.mem_append_right _ z,fun q=>n3 a q a z rfl⟩⟩
  unfold withC
  rw [if_neg fun q=>n3 a q a z rfl]
  exact (t.cells a z).1
 | _,_,_,_,i+1,k,.no t,s,nd,e=>by
  obtain ⟨f1,h1,fp',q1,q2,q3⟩:=SL.fz (i:=i) (k:=k) t s nd (by simpa using e)
  exact ⟨f1,h1,fp',.no q1,q2,q3⟩
 | _,_,_,_,i+1,k,.al h t,s,nd,e=>by
  obtain ⟨f1,h1,fp',q1,q2,q3⟩:=SL.fz (i:=i) (k:=k) t s nd (by simpa using e)
  obtain ⟨w1,w2,w3⟩:=uq (F:=F) (H:=H) (fp:=f1) s (fun a z=>(t.cells a (h1 a z)).1)
  exact ⟨f1,h1,fp',.al (h.mono w1 (.refl _)) q1,q2,q3⟩
 | _,_,_,_,i+1,k,.px h t,s,nd,e=>by
  obtain ⟨f1,h1,fp',q1,q2,q3⟩:=SL.fz (i:=i) (k:=k) t s nd (by simpa using e)
  obtain ⟨w1,w2,w3⟩:=uq (F:=F) (H:=H) (fp:=f1) s (fun a z=>(t.cells a (h1 a z)).1)
  exact ⟨f1,h1,fp',.px (h.mono w1 (.refl _)) q1,q2,q3⟩
 | _,_,_,_,i+1,k,.so (x:=x) (fp:=fp) h t,s,nd,e=>by
  obtain ⟨n1,n2⟩:=List.nodup_cons.mp nd
  obtain ⟨f1,h1,fp',q1,q2,q3⟩:=SL.fz (i:=i) (k:=k) t s n2 (by simpa using e)
  obtain ⟨w1,w2,w3⟩:=uq (F:=F) (H:=H) (fp:=f1) s (fun a z=>(t.cells a (h1 a z)).1)
  refine ⟨f1,fun a z=>List.mem_cons_of_mem _ (h1 a z),x::fp',.so (h.frame w1 fun a z=>⟨rfl,?_⟩) q1,List.nodup_cons.mpr ⟨fun z=>n1 (q3 x z).1,q2⟩,fun a z=>?_⟩
  ·rw [List.mem_singleton] at z
   unfold withC
   rw [if_neg fun q=>n1 (z ▸ h1 a q)]
   exact (h.cells a (by rw [z]; exact List.mem_cons_self)).1
  ·rcases List.mem_cons.mp z with z | z
   ·exact ⟨z ▸ List.mem_cons_self,fun q=>n1 (z ▸ h1 a q)⟩
   ·exact ⟨List.mem_cons_of_mem _ (q3 a z).1,(q3 a z).2⟩
 | _,_,_,_,i+1,k,.ow (f:=f) (fp:=fp) h t,s,nd,e=>by
  obtain ⟨n1,n2,n3⟩:=List.nodup_append.mp nd
  obtain ⟨f1,h1,fp',q1,q2,q3⟩:=SL.fz (i:=i) (k:=k) t s n2 (by simpa using e)
  obtain ⟨w1,w2,w3⟩:=uq (F:=F) (H:=H) (fp:=f1) s (fun a z=>(t.cells a (h1 a z)).1)
  refine ⟨f1,fun a z=>List.mem_append_right _ (h1 a z),f++fp',.ow (h.frame w1 fun a z=>⟨rfl,?_⟩) q1,List.nodup_append.mpr ⟨n1,q2,fun a z b zb=>n3 a z b (q3 b zb).1⟩,fun a z=>?_⟩
  ·unfold withC
   rw [if_neg fun q=>n3 a z a (h1 a q) rfl]
   exact (h.cells a z).1
  ·rcases List.mem_append.mp z with z | z
   ·exact ⟨List.mem_append_left _ z,fun q=>n3 a z a (h1 a q) rfl⟩
   ·exact ⟨List.mem_append_right _ (q3 a z).1,(q3 a z).2⟩
theorem SL.forget (m':Mo):∀{ms:List Mo} {ρ:Env} {σ:St} {fp:List Addr} (i:Nat),SL K ct F B H ms ρ σ fp→∃fp',SL K ct F B H (ms.set i m') (ρ.set i none) σ fp'∧fp'.Sublist fp
 | _,_,_,_,_,.nil=>⟨[],.nil,.refl _⟩
 | _,_,_,fp,0,.no t=>⟨fp,.no t,.refl _⟩
 | _,_,_,fp,0,.al h t=>⟨fp,.no t,.refl _⟩
 | _,_,_,fp,0,.px h t=>⟨fp,.no t,.refl _⟩
 | _,_,_,_,0,.so (x:=x) (fp:=fp) h t=>⟨fp,.no t,List.sublist_cons_self _ _⟩
 | _,_,_,_,0,.ow (f:=f) (fp:=fp) h t=>⟨fp,.no t,List.sublist_append_right _ _⟩
 | _,_,_,_,i+1,.no t=>by
  obtain ⟨fp',q1,q2⟩:=SL.forget m' i t
  exact ⟨fp',.no q1,q2⟩
 | _,_,_,_,i+1,.al h t=>by
  obtain ⟨fp',q1,q2⟩:=SL.forget m' i t
  exact ⟨fp',.al h q1,q2⟩
 | _,_,_,_,i+1,.px h t=>by
  obtain ⟨fp',q1,q2⟩:=SL.forget m' i t
  exact ⟨fp',.px h q1,q2⟩
 | _,_,_,_,i+1,.so h t=>by
  obtain ⟨fp',q1,q2⟩:=SL.forget m' i t
  exact ⟨_,.so h q1,q2.cons₂ _⟩
 | _,_,_,_,i+1,.ow h t=>by
  obtain ⟨fp',q1,q2⟩:=SL.forget m' i t
  exact ⟨_,.ow h q1,(List.Sublist.refl _).append q2⟩
theorem RS.fz {ms:List Mo} {ρ:Env} {σ:St} {i k:Nat} (rs:RS K ct F0 B ms F H ρ σ) (hm:ms[i]?=some (.ow k)):∃F',RS K ct F0 B (ms.set i (.ow 0)) F' H ρ σ:=by
 obtain ⟨fp,sl,nd,hb⟩:=rs.sl
 obtain ⟨f1,h1,fp',q1,q2,q3⟩:=sl.fz rs.fh nd hm
 obtain ⟨w1,w2,w3⟩:=uq (F:=F) (H:=H) (fp:=f1) rs.fh (fun a z=>(sl.cells a (h1 a z)).1)
 refine ⟨withC F H f1,rs.f0.trans w1,rs.bh,w2,fun a o ho hn=>?_,fp',q1,q2,fun a z=>hb a (q3 a z).1⟩
 have:¬a∈f1:=fun z=>by rw [hb a (h1 a z)] at ho; cases ho
 unfold withC; rw [if_neg this]; exact rs.nf a o ho hn
theorem RS.forget {ms:List Mo} {ρ:Env} {σ:St} (m':Mo) (i:Nat) (rs:RS K ct F0 B ms F H ρ σ):RS K ct F0 B (ms.set i m') F H (ρ.set i none) σ:=by
 obtain ⟨fp,sl,nd,hb⟩:=rs.sl
 obtain ⟨fp',q1,q2⟩:=sl.forget m' i
 exact ⟨rs.f0,rs.bh,rs.fh,rs.nf,fp',q1,q2.nodup nd,fun a z=>hb a (q2.subset z)⟩
end
def outFz (i:Nat):Out→Out
 | .nx ρ=>.nx (ρ.set i none)
 | .rt d=>.rt d
 | .bk ρ=>.bk (ρ.set i none)
 | .ct ρ=>.ct (ρ.set i none)
def sFz (i:Nat) (u:SF):SF:=fun ρ=>(u ρ).bind fun o=>some (outFz i o)
section
variable {X:Cx} {ct:Nat→Addr} {ms:List Mo} {rk k:Nat}
theorem zil {ms:List Mo} {i k:Nat} (hm:ms[i]?=some (.ow k)):(ms.set i (.ow 0)).set i (.ow k)=ms:=by
 rw [List.set_set]
 apply List.ext_getElem?
 intro j
 rw [List.getElem?_set]
 split
 ·next h =>
  subst h
  rw [hm]
  have:=(List.getElem?_eq_some_iff.mp hm).1
  rw [if_pos this]
 ·rfl
theorem zsn {i:Nat} {t:Ends→St→Hp→Prop} {w:SF} (hm:ms[i]?=some (.ow k))
  (q:∀(F0 B F H:Hp) (ρ:Env) (σ:St) (o:Out) (E:Ends),RS X.K ct F0 B (ms.set i (.ow 0)) F H ρ σ→w ρ=some o→OutOk X.K ct F0 B (ms.set i (.ow 0)) rk E o→t E σ H)
  (F0 B F H:Hp) (ρ:Env) (σ:St) (o:Out) (E:Ends) (rs:RS X.K ct F0 B ms F H ρ σ) (e:sFz i w ρ=some o) (z:OutOk X.K ct F0 B ms rk E o):t E σ H:=by
 obtain ⟨F',r2⟩:=rs.fz hm
 obtain ⟨o1,e1,e2⟩:=bind1 e
 refine q F0 B F' H ρ σ o1 E r2 e1 ?_
 have back:∀{ρ':Env} {σ':St} {F2 H2:Hp},RS X.K ct F0 B (ms.set i (.ow 0)) F2 H2 ρ' σ'→RS X.K ct F0 B ms F2 H2 (ρ'.set i none) σ':=fun r=>by
  have:=r.forget (.ow k) i
  rw [zil hm] at this
  exact this
 cases o1 with
 | nx ρ'=>cases e2; exact fun σ' F2 H2 r=>z σ' F2 H2 (back r)
 | rt d=>cases e2; exact z
 | bk ρ'=>cases e2; exact fun σ' F2 H2 r=>z σ' F2 H2 (back r)
 | ct ρ'=>cases e2; exact fun σ' F2 H2 r=>z σ' F2 H2 (back r)
theorem zng {sts:List Stmt} {w:SF} {i:Nat} (hm:ms[i]?=some (.ow k)) (h:XSs X ct (ms.set i (.ow 0)) rk sts w):XSs X ct ms rk sts (sFz i w):=by
 obtain ⟨t,pt,qt⟩:=h
 exact ⟨t,pt,zsn hm qt⟩
theorem zl5 {i:Nat} {d:D}:outFz i (.rt d)=.rt d:=rfl
theorem zl6 {i:Nat} {ρ:Env}:outFz i (.nx ρ)=.nx (ρ.set i none):=rfl
end
end L3
namespace L3
open PySem PySem.Spec L2
open PyProof.Rows hiding St
section
variable {X:Cx} {ct:Nat→Addr} {ms:List Mo} {rk n m k:Nat} {a b c tg:Expr} {pos:Pos}
end
end L3
namespace L2
open PySem PySem.Spec PyProof.Rows
section
variable {X:Cx} {elts:List Expr} {kt:Nat} {pt:Pos}
end
end L2
namespace L3
open PySem PySem.Spec L2
open PyProof.Rows hiding St
section
variable {X:Cx} {ct:Nat→Addr} {ms:List Mo} {n:Nat} {a b:Expr} {pos:Pos}
end
end L3
namespace L3
open PySem PySem.Spec L2
open PyProof.Rows hiding St
section
variable {K:PySem.W.Frag} {ct:Nat→Addr} {n m k:Nat}
end
end L3
namespace L2
open PySem PySem.Spec PyProof.Rows
section
variable {X:Cx} {e sp:Expr} {te:TE} {tp:TO} {pos p2:Pos}
end
end L2
namespace L3
open PySem PySem.Spec L2
open PyProof.Rows hiding St
section
variable {X:Cx} {ct:Nat→Addr} {ms:List Mo} {n m:Nat} {e sp:Expr} {f g:EF} {pos p1:Pos}
end
end L3
namespace L3
open PySem PySem.Spec L2
open PyProof.Rows hiding St
def kg {α:Type} (p q:Nat) (rv:Bool) (us ws:List α):List α:=if us.length=p∧ws.length=q then us++(if rv then ws.reverse else ws) else []
section
variable {X:Cx} {ct:Nat→Addr} {ms:List Mo} {rk n m k kk:Nat} {e a:Expr} {f:EF} {x:Str} {pp pos kpos:Pos} {fa:Addr} {fd:FuncData} {ps ks:List Str} {mf:List D→Option D}
end
end L3
namespace L3
open PySem PySem.Spec L2
open PyProof.Rows hiding St
section
variable {X:Cx} {ct:Nat→Addr} {ms:List Mo} {rk n m k:Nat} {st:Stmt} {rest:List Stmt} {a b c e tg:Expr} {f g h:EF} {p q:BF} {u w:SF} {pos:Pos}
end
end L3
namespace L3
open PySem PySem.Spec L2
open PyProof.Rows hiding St
theorem zo1:typeLookup (Value.type "list_reverseiterator") (Str.ofString "__len__")=pure none:=by with_unfolding_all rfl
theorem zl7:typeLookup (Value.type "list_reverseiterator") (Str.ofString "__length_hint__")=pure (some (Value.builtin "list_reverseiterator.__length_hint__")):=by with_unfolding_all rfl
theorem zkb:splitId "list_reverseiterator.__length_hint__"=some ("list_reverseiterator","__length_hint__"):=by with_unfolding_all rfl
theorem zo2:isSubtype (Value.type "list_reverseiterator") (Value.type "list_reverseiterator")=pure true:=by with_unfolding_all rfl
theorem zl8 {prog:Program} {w:World} {A:Around} {E:Value→Shared→Prop} {s:Shared} {it l:Addr} {i:Int} {Q:Bool→Shared→Prop} (st:s.heap.IsRevIter it l i) (h:Q false s):wpAny (model prog w) A (Builtin.List.listLengthHint (Value.ref it)) Q E s:=by
 unfold Builtin.List.listLengthHint
 refine wpAny_bind (wpAny_specialOf st.typeIs zo1 ?_)
 simp only []
 refine wpAny_bind (wpAny_specialOf st.typeIs zl7 ?_)
 simp only [zkb]
 refine wpAny_bind (wpAny_isInstance st.typeIs zo2 ?_)
 rw [if_neg (by decide)]
 rw [if_pos (by with_unfolding_all decide),if_neg (by decide)]
 exact wpAny_pure h
theorem zim {prog:Program} {w:World} {A:Around} {s:Shared} {R:Result→Shared→Prop} {it l:Addr} {items:Array Value} (hh:A.handled=none) (st:s.heap.IsRevIter it l ((items.size:Int)-1)) (hl:s.heap.IsList l items) (hne:l≠it) (hsz:items.size≤sizeLine) (S:Addr) (res:Value) (c₀:Nat) (hS:s.heap.get? S=some { cls:=Value.type "list",data:=Data.seq #[] c₀ }) (hSl:S≠l)
    (hR:∀(h':Heap) (tk:Nat) (acc':Array Value) (c':Nat),(∀(b:Addr) (o:Obj),b≠S→b≠it→s.heap.get? b=some o→h'.get? b=some o)→h'.get? S=some { cls:=Value.type "list",data:=Data.seq acc' c' }→ItemsOf (fun i v=>items[items.size-1-i]?=some v) acc' items.size→R (Except.ok (Flow.ret res)) { s with heap:=h',toks:=tk }) :
    wpAny (model prog w) A.in1 (Builtin.List.listExtendWith (Value.ref S) (Value.ref it) res) (fun fin s'=>match fin with | Fin.done f=>R (Except.ok f) s' | Fin.again c'=>c'.quiet=true∧codeAny (model prog w) A c' R s') (fun e s'=>R (Except.error e) s') s:=by
  have hSit:S≠it:=fun e=>by
    obtain ⟨o,h1,h2,h3⟩:=st
    rw [← e,hS] at h1
    cases h1
    simp at h2
  have W:=(Walks.listRev (prog:=prog) (w:=w) (A:=A.in1) hh it l hne items).toS
  have key:codeAny (model prog w) A (Code.builtin "list.extend.loop" { pos:=[Value.ref S,Value.ref it,res] }) R s:=by
    refine codeAny_extend_loopS W hsz S (by simp [hSit,hSl]) res items.size 0 s #[] c₀ rfl (Nat.zero_le _) ⟨Nat.zero_le _,by simpa using st,hl⟩ hS (ItemsOf.nil _) fun s' acc' c' hm hS' hacc=>?_
    rw [Moved.eq_with hm]
    exact hR s'.heap s'.toks acc' c' (fun b o hb hi e=>hm.heap b o (by simp [hb,hi]) e) hS' hacc
  unfold Builtin.List.listExtendWith
  refine wpAny_bind (wpAny_typeOf st.typeIs ?_)
  have h1:Builtin.List.listSameRef (Value.ref S) (Value.ref it)=false:=by simp [Builtin.List.listSameRef,hSit]
  have h2:(Value.type "list_reverseiterator" == Value.type "list")=false:=by decide
  have h3:(Value.type "list_reverseiterator" == Value.type "tuple")=false:=by decide
  simp only [h1,h2,h3,Bool.or_false,Bool.false_eq_true,if_false]
  refine wpAny_bind (wpAny_pyIter_revIter st ?_)
  refine wpAny_bind (wpAny_holding (zl8 st ?_))
  rw [if_neg (by with_unfolding_all decide)]
  exact wpAny_pure ⟨plainId_quiet F.plain_extend_loop _,key⟩
theorem zd7 {prog:Program} {w:World} {A:Around} {E:Value→Shared→Prop} {s:Shared} {Q:Value→Shared→Prop} {it l:Addr} {items:Array Value} (hh:A.handled=none) (st:s.heap.IsRevIter it l ((items.size:Int)-1)) (hl:s.heap.IsList l items) (hne:l≠it) (hsz:items.size≤sizeLine)
    (hQ:∀(h':Heap) (tk:Nat) (acc':Array Value) (c':Nat),(∀(b:Addr) (o:Obj),b≠it→s.heap.get? b=some o→h'.get? b=some o)→h'.get? s.heap.objs.size=some { cls:=Value.type "list",data:=Data.seq acc' c' }→ItemsOf (fun i v=>items[items.size-1-i]?=some v) acc' items.size→Q (Value.ref s.heap.objs.size) { s with heap:=h',toks:=tk }) :
    wpAny (model prog w) A (call (Value.type "list") [Value.ref it]) Q E s:=by
  refine callType_codes (Q₁:=fun obj s₁=>obj=Value.ref s.heap.objs.size∧s₁ = { s with heap:=s.heap.push { cls:=Value.type "list",data:=Data.seq #[] } }) F.called_list (F.typeCall_list_1 (Value.ref it)) F.entry_list_init (code_list_new (Value.ref it) ⟨rfl,rfl⟩) fun obj s₁ h₁=>?_
  obtain ⟨rfl,rfl⟩:=h₁
  have hS:=Heap.get?_push_size s.heap (o:={ cls:=Value.type "list",data:=Data.seq #[] }) rfl
  refine ⟨⟨_,hS,rfl⟩,F.args_list_init_2 (Value.ref s.heap.objs.size) (Value.ref it),?_⟩
  have lts:∀b o,s.heap.get? b=some o→b≠s.heap.objs.size:=fun b o e=>Nat.ne_of_lt (Heap.lt_size e)
  have hlS:s.heap.objs.size≠l:=fun e=>by
    obtain ⟨o,h1,_⟩:=hl
    exact lts l o h1 e.symm
  have hz0:(#[]:Array Value).size≤sizeLine:=Nat.zero_le _
  have hz1:(#[]:Array Value).size≤sizeLine+1:=Nat.zero_le _
  show wpAny _ _ (Builtin.List.listItems (Value.ref s.heap.objs.size) >>= _) _ _ _
  refine wpAny_bind ?_
  show wpAny _ _ (seqItems? (Value.ref s.heap.objs.size) >>= _) _ _ _
  refine wpAny_bind (wpAny_seqItems hS rfl ?_)
  refine wpAny_pure ?_
  show wpAny _ _ (updateSeq s.heap.objs.size (fun _=>#[]) >>= _) _ _ _
  refine wpAny_bind (wpAny_updateSeq hS rfl ?_ hz0 hz1)
  have hS₂:((s.heap.push { cls:=Value.type "list",data:=Data.seq #[] }).update s.heap.objs.size (Obj.mapSeq fun _=>#[])).get? s.heap.objs.size=some { cls:=Value.type "list",data:=Data.seq #[] 0 }:=Heap.get?_update_self (Obj.mapSeq fun _=>#[]) hS rfl
  have oth:∀(b:Addr) (o:Obj),b≠s.heap.objs.size→s.heap.get? b=some o→((s.heap.push { cls:=Value.type "list",data:=Data.seq #[] }).update s.heap.objs.size (Obj.mapSeq fun _=>#[])).get? b=some o:=fun b o hb e=>(Heap.get?_update_other _ _ (Ne.symm hb)).trans (Heap.get?_push_of_some _ e)
  refine wpAny_bind (wpAny_letGo ?_)
  obtain ⟨oi,i1,i2,i3⟩:=st
  obtain ⟨ol,l1,l2,l3⟩:=hl
  refine zim (A:=A.in1) (R:=wants (fun r s₂=>r=Value.none∧Q (Value.ref s.heap.objs.size) s₂) E) (s:={ s with heap:=(s.heap.push { cls:=Value.type "list",data:=Data.seq #[] }).update s.heap.objs.size (Obj.mapSeq fun _=>#[]) }) (l:=l) (items:=items) hh ⟨oi,oth it oi (lts it oi i1) i1,i2,i3⟩ ⟨ol,oth l ol (lts l ol l1) l1,l2,l3⟩ hne hsz s.heap.objs.size Value.none _ hS₂ hlS fun h' tk acc' c' hk hS' hacc=>⟨rfl,hQ h' tk acc' c' (fun b o hb e=>hk b o (lts b o e) hb (oth b o (lts b o e) e)) hS' hacc⟩
section
variable {X:Cx} {ct:Nat→Addr} {ms:List Mo} {rk n m k:Nat} {a e:Expr} {f:EF} {pos:Pos}
def rLRev (K:PySem.W.Frag):V→Hp→VK→Prop:=fun x H Q=>∃a xs,x=.ref a∧SqL K H a xs∧∀p,H p=none→Q (.ref p) (upd H p (.lst xs.reverse))
def tLRev (K:PySem.W.Frag) (te:TE):TE:=fun σ H Q=>te σ H fun x H1=>rLRev K x H1 Q
theorem zo3 {te:TE} {p1 p2 pos2:Pos} (hc:X.calm=true) (hg:Gl X "list") (hm:X.mg "list"=none) (hg2:Gl X "reversed") (hm2:X.mg "reversed"=none) (he:PE X e te) (hs:starEach [e] X.env=[(false,eval e X.env)]:=by rfl)
  (hs2:starEach [.Call (.Name "reversed" p2) [e] [] pos2] X.env=[(false,eval (.Call (.Name "reversed" p2) [e] [] pos2) X.env)]:=by rfl) :
  PE X (.Call (.Name "list" p1) [.Call (.Name "reversed" p2) [e] [] pos2] [] pos) (tLRev X.K te):=by
 intro pins s σ H Q I h
 refine wpAny_Call_Name_kw (zav I hg hm zca ?_ (by decide) (by decide))
 refine PyProof.Rows.callWith_type1 ?_ hs2 rfl
 rw [hs2]
 show wpAny _ _ (spliced ((false,eval (.Call (.Name "reversed" p2) [e] [] pos2) X.env)::[])) _ _ s
 refine Calls.spliced_cons ?_
 refine wpAny_Call_Name_kw (zav (u:=.type "reversed") I hg2 hm2 (by rfl) ?_ (by decide) (by decide))
 refine PyProof.Rows.callWith_type1 (thn ((vg he j8 hs) pos2 pins s σ H (fun vs H1=>match vs with | [x]=>rLRev X.K x H1 Q | _=>False) I h) fun us s1 ⟨vs,H1,I1,r,q⟩=>?_) hs rfl
 match vs,q with
 | [x],q =>
  obtain ⟨a,xs,rfl,hq,q⟩:=q
  obtain ⟨u,rfl,ru⟩:=r.one
  cases ru
  obtain ⟨its,rv,pl,hz⟩:=I1.list hq
  have hl:=rv.length
  refine call_reversed_list pl.isList (Calls.spliced_nil ?_)
  have I2:L2.Inv X pins σ H1 { s1 with heap:=s1.heap.push (revObj a ((its.toArray.size:Int)-1)) }:=I1.kept (t':=s1.toks) fun b o e=>Heap.get?_push_of_some _ e
  have st:(s1.heap.push (revObj a ((its.toArray.size:Int)-1))).IsRevIter s1.heap.objs.size a ((its.toArray.size:Int)-1):=⟨_,Heap.get?_push_size _ rfl,rfl,by simp [revObj]⟩
  have pl2:(s1.heap.push (revObj a ((its.toArray.size:Int)-1))).IsList a its.toArray:=by
   obtain ⟨o,h1,h2⟩:=pl.isList
   exact ⟨o,Heap.get?_push_of_some _ h1,h2⟩
  have ane:a≠s1.heap.objs.size:=by
   obtain ⟨o,h1,h2⟩:=pl.isList
   exact Nat.ne_of_lt (Heap.lt_size h1)
  refine zd7 (I2.ok.hd hc) st pl2 ane (by rw [List.size_toArray,← hl]; exact hz) fun h' tk acc' c' kp hS hacc=>?_
  have hsize:(s1.heap.push (revObj a ((its.toArray.size:Int)-1))).objs.size=s1.heap.objs.size+1:=by simp [Heap.push]
  have hv:Vals xs.reverse acc'.toList:=by
   obtain ⟨e1,e2⟩:=hacc
   have e3:acc'.size=its.length:=by rw [e1,List.size_toArray]
   refine zgm ((List.length_reverse).trans (hl.trans (e3.symm.trans Array.length_toList.symm))) fun i x u hx hu=>?_
   have hi:i<xs.length:=by
    have:=(List.getElem?_eq_some_iff.mp hx).1
    rwa [List.length_reverse] at this
   rw [List.getElem?_reverse hi] at hx
   obtain ⟨u',hu',ru⟩:=rv.get hx
   have:=e2 i u (by simpa using hu)
   rw [List.size_toArray,← hl] at this
   have h3:its[xs.length-1-i]?=some u:=by simpa using this
   rw [hu'] at h3
   cases h3
   exact ru
  have hlen:xs.reverse.length≤sizeLine:=by rw [List.length_reverse]; exact hz
  refine ⟨.ref _,_,I1.laid (t':=tk) (fun b o e=>kp b o (Nat.ne_of_lt (Heap.lt_size e)) (Heap.get?_push_of_some _ e)) (by rw [hsize]; omega) (show ObjOk X.prog X.w _ h' _ (.lst _) from ⟨hlen,acc'.toList,c',hv,hS⟩),rfl,q _ (I1.hok.fresh (by rw [hsize]; omega))⟩
def lrevD:D→Option D
 | .lst ds=>some (.lst ds.reverse)
 | _=>none
theorem zo4 {p1 p2 pos2:Pos} (hn:n≤1) (hc:X.calm=true) (hg:Gl X "list") (hm:X.mg "list"=none) (hg2:Gl X "reversed") (hm2:X.mg "reversed"=none) (he:XE X ct ms n e f) (hs:starEach [e] X.env=[(false,eval e X.env)]:=by rfl)
  (hs2:starEach [.Call (.Name "reversed" p2) [e] [] pos2] X.env=[(false,eval (.Call (.Name "reversed" p2) [e] [] pos2) X.env)]:=by rfl) :
  XO X ct ms 1 (.Call (.Name "list" p1) [.Call (.Name "reversed" p2) [e] [] pos2] [] pos) (e1 lrevD f):=by
 obtain ⟨t,pt,qt⟩:=he
 refine ⟨_,zo3 hc hg hm hg2 hm2 pt hs hs2,fun F0 B F H ρ σ r Q rs e w=>?_⟩
 obtain ⟨d,h1,h2⟩:=bind1 e
 refine qt F0 B F H ρ σ d _ rs h1 fun v F1 H1 x1 l=>?_
 cases d with
 | lst ds =>
  cases h2
  obtain ⟨a,vs,rfl,ha,hp⟩:=Al.lst1 hn l x1.fh
  exact ⟨a,vs,rfl,ha,zam x1.fh (Pr.reverse hp) fun v F2 H2 fp x2 l2 nd hf=>w v F2 H2 fp (x1.trans x2) l2 nd fun z hz=>x1.hh.free (hf z hz)⟩
 | _=>cases h2
end
end L3
namespace L3
open PySem PySem.Spec L2
open PyProof.Rows hiding St
section
variable {X:Cx} {ct:Nat→Addr} {ms:List Mo} {n m l k:Nat} {a b c:Expr} {f g h:EF} {pos:Pos}
end
end L3
namespace L3
open PySem PySem.Spec L2
open PyProof.Rows hiding St
def eSc (f:EF):EF:=fun ρ=>(f ρ).bind fun d=>if d.sc=true then some d else none
section
variable {X:Cx} {ct:Nat→Addr} {ms:List Mo} {rk n m k:Nat} {a b c e tg:Expr} {f g h:EF} {pos:Pos}
theorem zrh (he:XE X ct ms n e f):XO X ct ms k e (eSc f):=by
 obtain ⟨t,p,q⟩:=he
 refine ⟨t,p,fun F0 B F H ρ σ d Q r e w=>?_⟩
 obtain ⟨d0,h1,h2⟩:=bind1 e
 by_cases hs:d0.sc=true
 ·rw [if_pos hs] at h2
  cases h2
  exact q F0 B F H ρ σ d Q r h1 fun v F' H' x l=>w v F' H' [] x (Ow.scal (Al.scal l hs) hs) List.nodup_nil fun a z=>(by cases z)
 ·rw [if_neg hs] at h2; cases h2
end
end L3
namespace L3
open PySem PySem.Spec L2
open PyProof.Rows hiding St
section
variable {X:Cx} {ct:Nat→Addr} {ms:List Mo} {n:Nat} {e tg:Expr} {f:EF} {pos:Pos}
end
end L3
namespace L3
open PySem PySem.Spec L2
open PyProof.Rows hiding St
section
variable {X:Cx} {K:PySem.W.Frag} {ct:Nat→Addr} {ms:List Mo} {n k:Nat}
end
end L3
namespace L3
open PySem PySem.Spec L2
open PyProof.Rows hiding St
def dst (ns:List Int):List Int:=firstMet (fun i=>ns.getD i 0) ns.length
section
variable {X:Cx} {ct:Nat→Addr} {ms:List Mo} {rk n m k:Nat} {a b c e:Expr} {f g h:EF} {pos:Pos}
theorem zkc (hc:X.calm=true):CallR X (.type "set") (fun xs H Q=>∃(a:Addr) (ns:List Int),xs=[.ref a]∧SqL X.K H a (ns.map V.int)∧ns.length<4000∧∀p,H p=none→Q (.ref p) (upd H p (.set (fun k=>(dst ns).any (· == k)) (dst ns).length))):=by
 intro pins s σ H xs us Q I r h
 obtain ⟨a,ns,rfl,hq,h64,q⟩:=h
 obtain ⟨u,rfl,ru⟩:=r.one
 cases (show u=Value.ref a from ru)
 obtain ⟨its,rv,pl,hz⟩:=I.list hq
 have hi:=IntsAre.of rv
 have hlen:its.length=ns.length:=by rw [← rv.length,List.length_map]
 have hsz:its.toArray.size=ns.length:=by rw [List.size_toArray,hlen]
 refine call_set_list (items:=its.toArray) (ns:=ns) (I.ok.hd hc) pl.isList (by simpa using hi) (by rw [hsz]; unfold scanBound; omega) fun h' tk hS hk=>?_
 rw [hsz] at hS
 exact ⟨.ref _,_,I.laid (a:=s.heap.objs.size) (o:=.set (fun k=>(dst ns).any (· == k)) (dst ns).length) (t':=tk) (fun b u hb=>hk b u (Heap.lt_size hb) hb) (Nat.le_refl _) hS,rfl,q _ (I.hok.fresh (Nat.le_refl _))⟩
theorem zkd:CallR X (.builtin "len") (fun xs H Q=>∃(p:Addr) (S:Int→Bool) (n:Nat),xs=[.ref p]∧H p=some (.set S n)∧Q (.int n) H):=by
 intro pins s σ H xs us Q I r h
 obtain ⟨p,S,n,rfl,hp,q⟩:=h
 obtain ⟨u,rfl,ru⟩:=r.one
 cases (show u=Value.ref p from ru)
 obtain ⟨o,es,ep,t,h1,h2,h3,h4,h5,h6,h7,h8⟩:=(show s.heap.SetOf (intKind X.prog X.w) p S n from I.hok p _ hp)
 refine call_len_set h1 h2 h3 h7 (by unfold scanBound at h6; omega) ?_
 refine ⟨.int n,H,I.kept (t':=s.toks+1+1) (fun _ _ h=>h),⟨s.toks+1,by rw [h8]⟩,q⟩
def lenSetD:D→Option D
 | .lst ds=>(intsD ds).bind fun ns=>if ns.length<4000 then some (.int ((dst ns).length:Int)) else none
 | _=>none
theorem zke {p1 p2 pos2:Pos} (hc:X.calm=true) (hg:Gl X "len") (hm:X.mg "len"=none) (hg2:Gl X "set") (hm2:X.mg "set"=none) (he:XE X ct ms n e f) (hs:starEach [e] X.env=[(false,eval e X.env)]:=by rfl)
  (hs2:starEach [.Call (.Name "set" p2) [e] [] pos2] X.env=[(false,eval (.Call (.Name "set" p2) [e] [] pos2) X.env)]:=by rfl) :
  XE X ct ms k (.Call (.Name "len" p1) [.Call (.Name "set" p2) [e] [] pos2] [] pos) (e1 lenSetD f):=by
 obtain ⟨t,pt,qt⟩:=he
 refine ⟨_,zby zkd hg hm ww (vg (zb7 (zkc hc) hg2 hm2 zqx (vg pt j8 hs) (by decide) (by decide) hs (by rfl)) j8 hs2) (by decide) (by decide) hs2 (by rfl),fun F0 B F H ρ σ d Q rs e w=>?_⟩
 obtain ⟨d1,h1,h2⟩:=bind1 e
 cases d1 with
 | lst ds =>
  obtain ⟨ns,h3,h4⟩:=bind1 (show (intsD ds).bind _=_ from h2)
  by_cases hz:ns.length<4000
  ·rw [if_pos hz] at h4
   cases h4
   refine qt F0 B F H ρ σ _ _ rs h1 fun v F1 H1 x1 l1=>?_
   have hds:=zbh h3
   subst hds
   obtain ⟨a,vs,rfl,ha,hp⟩:=l1.lst x1.fh
   have hv:=hp.intV
   subst hv
   refine ⟨a,ns,rfl,ha,hz,fun p hp0=>⟨p,_,_,rfl,yo,?_⟩⟩
   exact w _ F1 _ (x1.trans (Ext.newO x1.fh hp0 _)) (Al.of (.int _))
  ·rw [if_neg hz] at h4; cases h4
 | _=>cases h2
def dispD (k d:D):Option D:=(keyD k).bind fun y=>some (.dK [y] [d])
theorem zl9 {kx vx:Expr} (hk:XE X ct ms n kx f) (hv:XE X ct ms 0 vx g):XO X ct ms 1 (.Dict [some kx] [vx] pos) (e2 dispD f g):=by
 obtain ⟨tk,pk,qk⟩:=hk
 obtain ⟨tv,pv,qv⟩:=hv
 refine ⟨_,zob (zli pk pv zoa) rfl rfl (by simp) (by simp),fun F0 B F H ρ σ r Q rs e w p hp=>?_⟩
 obtain ⟨d1,d2,h1,h2,h3⟩:=bind2 e
 obtain ⟨y,h4,h5⟩:=bind1 h3
 cases h5
 have x0:Ext F H F (upd H p (.dK [])):=Ext.newO rs.fh hp _
 refine qk F0 B F _ ρ σ d1 _ (rs.ext x0) h1 fun u F1 H1 x1 l1=>?_
 refine qv F0 B F1 H1 ρ σ d2 _ ((rs.ext x0).ext x1) h2 fun v F2 H2 x2 l2=>?_
 have x12:=x1.trans x2
 have hp2:H2 p=some (.dK []):=x12.hh _ _ yo
 have hFp:F2 p=none:=x12.nf p _ yo (rs.fh.free hp)
 have hu:u=kV y:=by
  cases d1 with
  | int i=>cases h4; rw [l1.int]; rfl
  | str s=>cases h4; rw [l1.str]; rfl
  | _=>cases h4
 refine ⟨hp2,[(y,v)],by rw [hu]; rfl,by simp,?_⟩
 have hne:∀{a:Addr} {o:HO},H a=some o→a≠p:=fun ha e=>by rw [e,hp] at ha; cases ha
 have xx:Ext F H F2 (upd H2 p (.dK [(y,v)])):=⟨x12.ff,fun a o ha=>by rw [yh (hne ha)]; exact x12.hh a o (by rw [yh (hne ha)]; exact ha),fun a o ha=>by
  rw [yh (fun e=>by rw [e,hFp] at ha; cases ha)]
  exact x12.fh a o ha,fun a o ha hf=>x12.nf a o (by rw [yh (hne ha)]; exact ha) hf⟩
 refine w _ F2 _ [p] xx (.inr (OwC.dK (ks:=[y]) (vs:=[v]) hFp yo rfl (OwL.cons (f:=[]) (g:=[]) ⟨l2,rfl⟩ .nil))) (by simp) fun z hz=>?_
 rw [List.mem_singleton] at hz; subst hz; exact hp
end
end L3
namespace L3
open PySem PySem.Spec L2
open PyProof.Rows hiding St
def isCell:D→Bool
 | .lst _=>true
 | .dK _ _=>true
 | .dT _ _=>true
 | _=>false
theorem Ow.cell {K:PySem.W.Frag} {ct:Nat→Addr} {F H:Hp} {d:D} {v:V} {fp:List Addr} (h:Ow K ct F H 1 d v fp) (hc:isCell d=true):∃a,v=.ref a∧fp=[a]:=by
 cases d with
 | lst ds=>obtain ⟨a,vs,fr,rfl,rfl,_,_,ol⟩:=h.lst_inv; have e0:=ol.nil0; subst e0; exact ⟨_,rfl,rfl⟩
 | dK ks ds=>obtain ⟨a,vs,fr,rfl,rfl,_,_,_,ol⟩:=h.dK_inv; have e0:=ol.nil0; subst e0; exact ⟨_,rfl,rfl⟩
 | dT ks ds=>obtain ⟨a,vs,fr,rfl,rfl,_,_,_,ol⟩:=h.dT_inv; have e0:=ol.nil0; subst e0; exact ⟨_,rfl,rfl⟩
 | _=>cases hc
section
variable {K:PySem.W.Frag} {ct:Nat→Addr} {F F' H H' B F0:Hp}
theorem SL.putS {x:Addr} {d:D}:∀{ms:List Mo} {ρ:Env} {σ:St} {fp:List Addr} {i:Nat},SL K ct F B H ms ρ σ fp→fp.Nodup→ms[i]?=some (.so x)→ρ[i]?=some (some d) →
  σ[i]?=some (some (.ref x))∧Ow K ct F H 1 d (.ref x) [x]∧x∈fp∧∀(F' H':Hp) (d':D),Same F F'→(∀a∈fp,a≠x→H' a=H a∧F' a=none)→Ow K ct F' H' 1 d' (.ref x) [x]→SL K ct F' B H' ms (ρ.set i (some d')) σ fp
 | _,_,_,_,_,.nil,_,e,_=>by simp at e
 | _,_,_,_,0,.no t,_,_,e=>by simp at e
 | _,_,_,_,0,.al h t,_,e,_=>by simp at e
 | _,_,_,_,0,.px h t,_,e,_=>by simp at e
 | _,_,_,_,0,.ow h t,_,e,_=>by simp at e
 | _,_,_,_,0,.so h t,nd,e,e'=>by
  simp at e e'
  subst e
  subst e'
  obtain ⟨n1,n2⟩:=List.nodup_cons.mp nd
  exact ⟨rfl,h,List.mem_cons_self,fun F' H' d' s k o=>.so o (t.frame s fun a z=>k a (List.mem_cons_of_mem _ z) fun e=>n1 (e ▸ z))⟩
 | _,_,_,_,i+1,.no t,nd,e,e'=>by
  obtain ⟨h1,h2,h3,h4⟩:=SL.putS (i:=i) t nd (by simpa using e) (by simpa using e')
  exact ⟨by simpa using h1,h2,h3,fun F' H' d' s k o=>.no (h4 F' H' d' s k o)⟩
 | _,_,_,_,i+1,.al h t,nd,e,e'=>by
  obtain ⟨h1,h2,h3,h4⟩:=SL.putS (i:=i) t nd (by simpa using e) (by simpa using e')
  exact ⟨by simpa using h1,h2,h3,fun F' H' d' s k o=>.al (h.mono s (.refl _)) (h4 F' H' d' s k o)⟩
 | _,_,_,_,i+1,.px h t,nd,e,e'=>by
  obtain ⟨h1,h2,h3,h4⟩:=SL.putS (i:=i) t nd (by simpa using e) (by simpa using e')
  exact ⟨by simpa using h1,h2,h3,fun F' H' d' s k o=>.px (h.mono s (.refl _)) (h4 F' H' d' s k o)⟩
 | _,_,_,_,i+1,.so (x:=y) h t,nd,e,e'=>by
  obtain ⟨n1,n2⟩:=List.nodup_cons.mp nd
  obtain ⟨h1,h2,h3,h4⟩:=SL.putS (i:=i) t n2 (by simpa using e) (by simpa using e')
  refine ⟨by simpa using h1,h2,List.mem_cons_of_mem _ h3,fun F' H' d' s k o=>.so (h.frame s fun a z=>?_) (h4 F' H' d' s (fun a z=>k a (List.mem_cons_of_mem _ z)) o)⟩
  rw [List.mem_singleton] at z
  subst z
  exact k a List.mem_cons_self fun e=>n1 (e ▸ h3)
 | _,_,_,_,i+1,.ow (f:=f) h t,nd,e,e'=>by
  obtain ⟨n1,n2,n3⟩:=List.nodup_append.mp nd
  obtain ⟨h1,h2,h3,h4⟩:=SL.putS (i:=i) t n2 (by simpa using e) (by simpa using e')
  refine ⟨by simpa using h1,h2,List.mem_append_right _ h3,fun F' H' d' s k o=>.ow (h.frame s fun a z=>?_) (h4 F' H' d' s (fun a z=>k a (List.mem_append_right _ z)) o)⟩
  exact k a (List.mem_append_left _ z) fun e=>n3 a z x h3 e
theorem RS.changeS {ms:List Mo} {ρ:Env} {σ:St} {i:Nat} {d d':D} {ad:Addr} {o:HO} (rs:RS K ct F0 B ms F H ρ σ) (hm:ms[i]?=some (.so ad)) (hρ:ρ[i]?=some (some d)) (x:Ext F H F' H') (fad:F' ad=none) (o':Ow K ct F' (upd H' ad o) 1 d' (.ref ad) [ad]) :
  RS K ct F0 B ms F' (upd H' ad o) (ρ.set i (some d')) σ:=by
 have r:=rs.ext x
 obtain ⟨fp,sl,nd,hb⟩:=rs.sl
 obtain ⟨h1,h2,h3,h4⟩:=sl.putS nd hm hρ
 have hB:B ad=none:=hb ad h3
 refine ⟨r.f0,fun z u h=>?_,fun z u h=>?_,r.nf,fp,h4 F' _ d' x.ff (fun a z ne=>?_) o',nd,hb⟩
 ·rw [yh (fun e=>by rw [e,hB] at h; cases h)]; exact r.bh _ _ h
 ·rw [yh (fun e=>by rw [e,fad] at h; cases h)]; exact x.fh _ _ h
 ·obtain ⟨hn,o,ho⟩:=sl.cells a z
  rw [yh ne]
  exact ⟨(x.hh _ _ ho).trans ho.symm,x.nf a o ho hn⟩
theorem RS.so_at {ms:List Mo} {ρ:Env} {σ:St} {i:Nat} {d:D} {ad:Addr} (rs:RS K ct F0 B ms F H ρ σ) (hm:ms[i]?=some (.so ad)) (hρ:ρ[i]?=some (some d)):σ[i]?=some (some (.ref ad))∧Ow K ct F H 1 d (.ref ad) [ad]∧B ad=none:=by
 obtain ⟨fp,sl,nd,hb⟩:=rs.sl
 obtain ⟨h1,h2,h3,h4⟩:=sl.putS nd hm hρ
 exact ⟨h1,h2,hb _ h3⟩
end
section
variable {X:Cx} {ct:Nat→Addr} {ms:List Mo} {rk n m k:Nat} {st:Stmt} {rest:List Stmt} {a b c e tg:Expr} {f g h:EF} {p q:BF} {u w:SF} {pos:Pos}
theorem zma (i:Nat) {xa:Addr} {x:Str} {j:Expr} {p1 tpos:Pos} {fj:EF} (hm:ms[i]?=some (.so xa)) (hj:XE X ct ms n j fj) (he:XE X ct ms 0 e f) (hN:X.N[i]?=some x:=by rfl) (hv:Vis X.env.scope x:=by first | exact Or.inl rfl | exact Or.inr (Or.inl rfl) | exact Or.inr (Or.inr rfl)) (hd:(x == ("__debug__":Str))=false:=by decide)
  (hcd:(x == ("__classdict__":Str))=false:=by decide)
  (ha:∀v,assign (.Subscript (.Name x p1) j tpos) X.env v=(do
   let ov ← holding [v] (eval (.Name x p1) X.env)
   let iv ← holding [v,ov] (eval j X.env)
   standAt tpos
   holding [v,ov,iv] (setItem ov iv v)
   release [v,ov,iv] []):=by intro _; rfl)
  (hs:swapsWithSole [.Subscript (.Name x p1) j tpos] e pos.line X.env=pure false:=by rfl) (hw:swappedStores [.Subscript (.Name x p1) j tpos] e X.env=pure none:=by rfl)
  (h1:(assignEach [.Subscript (.Name x p1) j tpos] X.env).map (·.2)=[assign (.Subscript (.Name x p1) j tpos) X.env]:=by rfl) :
  XS X ct ms rk (.Assign [.Subscript (.Name x p1) j tpos] e pos) (sPutL i fj f):=by
 obtain ⟨t,pt,qt⟩:=he
 obtain ⟨tj,ptj,qtj⟩:=hj
 refine ⟨_,zi1 pt (zm0 (jc hN hv hd hcd) ptj zdr ha) hs hw h1,fun F0 B F H ρ σ o E rs e z=>?_⟩
 obtain ⟨d,g1,g2⟩:=bind1 e
 obtain ⟨d1,dj',g3,g4,g5⟩:=bind2 g2
 refine qt F0 B F H ρ σ d _ rs g1 fun v0 F1 H1 x1 l0=>?_
 have rs1:=rs.ext x1
 obtain ⟨hσ,ow,hB⟩:=rs1.so_at hm (yc g3)
 refine ⟨_,hσ,qtj F0 B F1 H1 ρ σ dj' _ rs1 g4 fun vj F2 H2 x2 lj=>?_⟩
 cases d1 with
 | lst ds =>
  cases dj' with
  | int zi =>
   obtain ⟨ds',g6,g7⟩:=bind1 g5
   cases g7
   obtain ⟨jn,g8,g9⟩:=bind1 g6
   cases g9
   obtain ⟨ad,vs,fr1,ea,ef,hF,hH,ol⟩:=ow.lst_inv
   cases ea
   cases ef
   have hA:H2 xa=some (.lst vs):=x2.hh _ _ hH
   have fA:F2 xa=none:=x2.nf xa _ hH hF
   refine ⟨xa,vs,zi,jn,rfl,lj.int,hA,by rw [← ol.length]; exact g8,?_⟩
   exact z σ F2 _ (rs1.changeS hm (yc g3) x2 fA (.inr (.lst fA yo (OwL.set0 ⟨Dt.mono x2.ff l0,rfl⟩ (fun _ _ _ q=>q.2) jn (ol.mono fun _ _ _ _ q=>⟨q.1.mono x2.ff,q.2⟩)))))
  | _=>cases g5
 | _=>cases g5
theorem zmb (i:Nat) {xa:Addr} {x:Str} {j:Expr} {p1 tpos:Pos} {fj:EF} (hm:ms[i]?=some (.so xa)) (hu:X.A.units+1<cLine) (hj:XE X ct ms 0 j fj) (he:XE X ct ms 0 e f) (hN:X.N[i]?=some x:=by rfl) (hv:Vis X.env.scope x:=by first | exact Or.inl rfl | exact Or.inr (Or.inl rfl) | exact Or.inr (Or.inr rfl)) (hd:(x == ("__debug__":Str))=false:=by decide)
  (hcd:(x == ("__classdict__":Str))=false:=by decide) (hs:swapsWith e (some (.Subscript (.Name x p1) j tpos)) pos.line X.env=pure false:=by rfl) :
  XS X ct ms rk (.Assign [.Subscript (.Name x p1) j tpos] e pos) (sPutD i fj f):=by
 obtain ⟨t,pt,qt⟩:=he
 obtain ⟨tj,ptj,qtj⟩:=hj
 refine ⟨_,zjh hu (jc hN hv hd hcd) ptj pt hs,fun F0 B F H ρ σ o E rs e z=>?_⟩
 obtain ⟨d,g1,g2⟩:=bind1 e
 obtain ⟨d1,dj',g3,g4,g5⟩:=bind2 g2
 refine qt F0 B F H ρ σ d _ rs g1 fun v0 F1 H1 x1 l0=>?_
 have rs1:=rs.ext x1
 obtain ⟨hσ,ow,hB⟩:=rs1.so_at hm (yc g3)
 refine ⟨_,hσ,qtj F0 B F1 H1 ρ σ dj' _ rs1 g4 fun vj F2 H2 x2 lj=>?_⟩
 have l0':Dt X.K ct F2 d v0:=Dt.mono x2.ff l0
 cases d1 with
 | dK ks ds =>
  dsimp only at g5
  obtain ⟨key,g6,g7⟩:=bind1 g5
  by_cases hz:ks.length<16777216
  ·rw [if_pos hz] at g7
   cases g7
   obtain ⟨ad,vs,fr1,ea,ef,hF,hH,hl,ol⟩:=ow.dK_inv
   cases ea
   cases ef
   have hA:=x2.hh _ _ hH
   have fA:F2 xa=none:=x2.nf xa _ hH hF
   have hp:Pr (Dt X.K ct F2) ds vs:=ol.pr fun _ _ _ _ q=>q.1.mono x2.ff
   obtain ⟨us,hu1,hu2,hu3⟩:=zb2 l0' key hl hp
   have hk:=zhb g6 lj
   subst hk
   refine ⟨xa,_,rfl,DPut.k hA (by rw [List.length_zip,← hl,Nat.min_self,sizeLine_eq]; exact hz),?_⟩
   rw [hu1]
   exact z σ F2 _ (rs1.changeS hm (yc g3) x2 fA (.inr (.dK fA yo hu2 (OwL.ofPr (hu3.mono fun _ _ q=>⟨q,rfl⟩)))))
  ·rw [if_neg hz] at g7; cases g7
 | dT ks ds =>
  cases dj' with
  | tup js =>
   dsimp only at g5
   obtain ⟨key,g6,g7⟩:=bind1 g5
   by_cases hz:ks.length<16777216
   ·rw [if_pos hz] at g7
    cases g7
    obtain ⟨ad,vs,fr1,ea,ef,hF,hH,hl,ol⟩:=ow.dT_inv
    cases ea
    cases ef
    have hA:=x2.hh _ _ hH
    have fA:F2 xa=none:=x2.nf xa _ hH hF
    have hp:Pr (Dt X.K ct F2) ds vs:=ol.pr fun _ _ _ _ q=>q.1.mono x2.ff
    obtain ⟨us,hu1,hu2,hu3⟩:=zb2 l0' key hl hp
    obtain ⟨bd,ws,rfl,hb,hpb⟩:=lj.tup x2.fh
    have hk:=zdz g6 hpb
    subst hk
    refine ⟨xa,_,rfl,DPut.t hA hb (by rw [List.length_zip,← hl,Nat.min_self,sizeLine_eq]; exact hz),?_⟩
    rw [hu1]
    exact z σ F2 _ (rs1.changeS hm (yc g3) x2 fA (.inr (.dT fA yo hu2 (OwL.ofPr (hu3.mono fun _ _ q=>⟨q,rfl⟩)))))
   ·rw [if_neg hz] at g7; cases g7
  | _=>cases g5
 | _=>cases g5
abbrev EM:=Env→Option (D×Env)
def XSsM (X:Cx) (ct:Nat→Addr) (ms:List Mo) (st:List Stmt) (f:EM):Prop:=∃t,PSs X st t∧∀(F0 B F H:Hp) (ρ ρ':Env) (σ:St) (d:D) (E:Ends),RS X.K ct F0 B ms F H ρ σ→f ρ=some (d,ρ')→(∀v σ' F' H',RS X.K ct F0 B ms F' H' ρ' σ'→Dt X.K ct F' d v→E.rt v H')→t E σ H
def mSeq (f:SF) (g:EM):EM:=fun ρ=>(f ρ).bind fun o=>match o with
 | .nx ρ'=>g ρ'
 | _=>none
def mRet (f:EF):EM:=fun ρ=>(f ρ).bind fun d=>some (d,ρ)
theorem zri (he:XE X ct ms 0 e f):XSsM X ct ms [.Return (some e) pos] (mRet f):=by
 obtain ⟨t,pt,qt⟩:=he
 refine ⟨_,ziy (ziz pt),fun F0 B F H ρ ρ' σ d E rs e z=>?_⟩
 obtain ⟨d',h1,h2⟩:=bind1 e
 cases h2
 exact qt F0 B F H ρ σ _ _ rs h1 fun v F' H' x l=>z v σ F' H' (rs.ext x) l
theorem zkf {gm:EM} (h1:XS X ct ms 0 st u) (h2:XSsM X ct ms rest gm):XSsM X ct ms (st::rest) (mSeq u gm):=by
 obtain ⟨t,pt,qt⟩:=h1
 obtain ⟨t2,pt2,qt2⟩:=h2
 refine ⟨_,zg3 pt pt2,fun F0 B F H ρ ρ' σ d E rs e z=>?_⟩
 obtain ⟨o1,e1,e2⟩:=bind1 e
 refine qt F0 B F H ρ σ o1 _ rs e1 ?_
 cases o1 with
 | nx ρ1=>exact fun σ' F' H' rs'=>qt2 F0 B F' H' ρ1 ρ' σ' d E rs' e2 z
 | rt d=>cases e2
 | bk ρ'=>cases e2
 | ct ρ'=>cases e2
end
theorem SL.app {K:PySem.W.Frag} {ct:Nat→Addr} {F B H:Hp} {ms2:List Mo} {ρ2:Env} {σ2:St} {fp2:List Addr} (h2:SL K ct F B H ms2 ρ2 σ2 fp2):∀{ms:List Mo} {ρ:Env} {σ:St} {fp:List Addr},SL K ct F B H ms ρ σ fp→SL K ct F B H (ms++ms2) (ρ ++ ρ2) (σ ++ σ2) (fp++fp2)
 | _,_,_,_,.nil=>h2
 | _,_,_,_,.no t=>.no (SL.app h2 t)
 | _,_,_,_,.al h t=>.al h (SL.app h2 t)
 | _,_,_,_,.px h t=>.px h (SL.app h2 t)
 | _,_,_,_,.so h t=>.so h (SL.app h2 t)
 | _,_,_,_,.ow h t=>by
  rw [List.append_assoc]
  exact .ow h (SL.app h2 t)
theorem SL.none {K:PySem.W.Frag} {ct:Nat→Addr} {F B H:Hp}:∀(ms:List Mo),SL K ct F B H ms (List.replicate ms.length none) (List.replicate ms.length none) []
 | []=>.nil
 | m::ms=>.no (SL.none ms)
theorem SL.start0 {K:PySem.W.Frag} {ct:Nat→Addr} {F B H:Hp}:∀{ds:List D} {us:List V},Pr (Dt K ct F) ds us→SL K ct F B H (List.replicate ds.length (Mo.ow 0)) (ds.map some) (us.map some) []
 | _,_,.nil=>.nil
 | _,_,.cons h t=>SL.ow (f:=[]) (Ow.zero h) (SL.start0 t)
def MSp (K:PySem.W.Frag) (ct:Nat→Addr) (n:Nat) (mf:List D→Option D):Sp:=fun vs H Q _=>∃(F:Hp) (ds:List D) (us:List V) (d p q p' q':D) (a b:Addr),vs=us++[.ref a,.ref b]∧ds.length=n∧Same F H∧Pr (Dt K ct F) ds us∧a≠b∧Ow K ct F H 1 p (.ref a) [a]∧Ow K ct F H 1 q (.ref b) [b]∧mf (ds++[p,q])=some (.tup [d,p',q']) ∧
 ∀v F' H',Same F F'→(∀x o,H x=some o→x≠a→x≠b→H' x=some o)→Same F' H'→(∀x o,H x=some o→F x=none→F' x=none)→Ow K ct F' H' 1 p' (.ref a) [a]→Ow K ct F' H' 1 q' (.ref b) [b]→Dt K ct F' d v→Q v H'
theorem MSp.len {K:PySem.W.Frag} {ct:Nat→Addr} {n:Nat} {mf:List D→Option D} {ps:List Str} (h:n+2=ps.length):∀vs H Q E,MSp K ct n mf vs H Q E→vs.length=ps.length:=by
 rintro vs H Q E ⟨F,ds,us,d,p,q,p',q',a,b,rfl,hn,_,l,_⟩
 rw [← h,← hn,l.length,List.length_append]
 rfl
def mOfM (n:Nat) (N:List Str) (bf:EM) (ds:List D):Option D:=(bf (startD N ds)).bind fun r=>(r.2[n]?).join.bind fun p=>(r.2[n+1]?).join.bind fun q=>some (.tup [r.1,p,q])
theorem zmc {ct:Nat→Addr} {P:Program} {w:World} {K:PySem.W.Frag} {mg:Str→Option Value} {base:Heap} {x qual:Str} {st:Stmt} {fa:Addr} {fd:FuncData} {N ps:List Str} {kk n:Nat} {ms:List Mo} {bf:EM} (Fn:Fun2 K x qual st fa fd) (S:FnScope N ps (defScope st)) (hpm:n+2=ps.length) (hms:n+2+ms.length=N.length)
  (body:∀(a b:Addr) (cdv:Value) (A:Around) (outer:List PySem.Env) (s:Shared) (H:Hp) (E:XK),Room kk (A.deeper (envOfC qual (defScope st) s.heap.objs.size fa cdv))→XSsM (cxOf CX0 P w K mg base N qual (defScope st) fa cdv A outer s H E).nox ct (List.replicate n (Mo.ow 0) ++ .so a::.so b::ms) (defBody st) bf) :
  FnOk P w K mg base CX0 (kk+1) fa fd ps (MSp K ct n (mOfM n N bf)):=by
 refine Fn.ok S (MSp.len hpm) fun cdv A outer s H vs Q E hr h=>?_
 obtain ⟨F,ds,us,d,p,q,p',q',a,b,rfl,hn,sF,l,hab,oa,ob,hm,z⟩:=h
 subst hn
 obtain ⟨t,pt,qt⟩:=body a b cdv A outer s H E hr
 refine ⟨t,pt,?_⟩
 obtain ⟨⟨d1,ρ'⟩,h1,h2⟩:=bind1 hm
 obtain ⟨p1,h3,h4⟩:=bind1 h2
 obtain ⟨q1,h5,h6⟩:=bind1 h4
 cases h6
 have hul:us.length=ds.length:=l.length.symm
 have fa':=(oa.cells a List.mem_cons_self).1
 have fb':=(ob.cells b List.mem_cons_self).1
 have sFB:Same F (hid (hid H a) b):=fun y o hy=>by
  rw [je (fun e=>by rw [e,fb'] at hy; cases hy),je (fun e=>by rw [e,fa'] at hy; cases hy)]
  exact sF _ _ hy
 have hB:Same (hid (hid H a) b) H:=(zb1 _ _).trans (zb1 _ _)
 refine qt F (hid (hid H a) b) F H (startD N (ds++[p,q])) ρ' (L2.start N (us++[.ref a,.ref b])) d1 _ ⟨.refl _,hB,sF,fun _ _ _ h=>h,[a,b],?_,by simp [hab],fun y hy=>?_⟩ h1 ?_
 ·have e1:startD N (ds++[p,q])=ds.map some++(some p::some q::List.replicate ms.length none):=by
   unfold startD
   rw [show N.length-(ds++[p,q]).length=ms.length by rw [List.length_append]; simp; omega]
   simp
  have e2:L2.start N (us++[.ref a,.ref b])=us.map some++(some (.ref a)::some (.ref b)::List.replicate ms.length none):=by
   unfold L2.start
   rw [show N.length-(us++[V.ref a,V.ref b]).length=ms.length by rw [List.length_append]; simp; omega]
   simp
  rw [e1,e2]
  have:=SL.app (.so oa (.so ob (SL.none (K:=K) (ct:=ct) (F:=F) (B:=hid (hid H a) b) (H:=H) ms))) (SL.start0 (B:=hid (hid H a) b) (H:=H) l)
  have h7:SL K ct F (hid (hid H a) b) H (List.replicate ds.length (Mo.ow 0)++Mo.so a::Mo.so b::ms) (ds.map some++(some p::some q::List.replicate ms.length none)) (us.map some++(some (.ref a)::some (.ref b)::List.replicate ms.length none)) [a,b]:=by simpa using this
  exact h7
 ·simp at hy
  rcases hy with rfl | rfl
  ·rw [je hab]; exact zhm _ _
  ·exact zhm _ _
 ·intro v σ' F' H' r dt
  obtain ⟨_,o1,_⟩:=r.so_at (i:=ds.length) (ad:=a) (by simp) (yc h3)
  obtain ⟨_,o2,_⟩:=r.so_at (i:=ds.length+1) (ad:=b) (by simp) (yc h5)
  refine z v F' H' r.f0 (fun y o hy n1 n2=>r.bh _ _ (by rw [je n2,je n1]; exact hy)) r.fh (fun y o hy hn=>?_) o1 o2 dt
  by_cases ea:y=a
  ·subst ea; exact (o1.cells _ List.mem_cons_self).1
  by_cases eb:y=b
  ·subst eb; exact (o2.cells _ List.mem_cons_self).1
  exact r.nf y o (by rw [je eb,je ea]; exact hy) hn
section
variable {X:Cx} {ct:Nat→Addr} {ms:List Mo} {rk n m k:Nat} {st:Stmt} {rest:List Stmt} {a b c e tg:Expr} {f g h:EF} {p q:BF} {u w:SF} {pos:Pos} {i j:Nat}
def XAM (X:Cx) (ct:Nat→Addr) (ms:List Mo) (i j:Nat) (es:List Expr) (f:Env→Option (List D)):Prop:=∃t,PA X es t∧∀(F0 B F H:Hp) (ρ:Env) (σ:St) (ds:List D) (a b:Addr) (Q:List V→Hp→Prop),RS X.K ct F0 B ms F H ρ σ→f ρ=some ds→σ[i]?=some (some (.ref a))→σ[j]?=some (some (.ref b)) →
 (∀us F' H',Ext F H F' H'→Pr (Dt X.K ct F') ds us→Q (us++[.ref a,.ref b]) H')→t σ H Q
theorem zo5 {x y:Str} {p1 p2:Pos} (hN:X.N[i]?=some x:=by rfl) (hv:Vis X.env.scope x:=by first | exact Or.inl rfl | exact Or.inr (Or.inl rfl) | exact Or.inr (Or.inr rfl)) (hd:(x == ("__debug__":Str))=false:=by decide) (hcd:(x == ("__classdict__":Str))=false:=by decide)
  (hN2:X.N[j]?=some y:=by rfl) (hv2:Vis X.env.scope y:=by first | exact Or.inl rfl | exact Or.inr (Or.inl rfl) | exact Or.inr (Or.inr rfl)) (hd2:(y == ("__debug__":Str))=false:=by decide) (hcd2:(y == ("__classdict__":Str))=false:=by decide) :
  XAM X ct ms i j [.Name x p1,.Name y p2] aNil:=by
 refine ⟨_,vg (jc hN hv hd hcd) (vg (jc hN2 hv2 hd2 hcd2) j8),fun F0 B F H ρ σ ds a b Q rs e ha hb z=>?_⟩
 cases e
 exact ⟨_,ha,_,hb,z [] F H (.refl rs.fh) .nil⟩
theorem zd8 {es:List Expr} {fs:Env→Option (List D)} (h1:XE X ct ms 0 a f) (h2:XAM X ct ms i j es fs) (hs:starEach (a::es) X.env=(false,eval a X.env)::starEach es X.env:=by rfl):XAM X ct ms i j (a::es) (aCons f fs):=by
 obtain ⟨t,pt,qt⟩:=h1
 obtain ⟨t2,pt2,qt2⟩:=h2
 refine ⟨_,vg pt pt2 hs,fun F0 B F H ρ σ ds xa xb Q rs e ha hb z=>?_⟩
 obtain ⟨d,ds',g1,g2,g3⟩:=bind2 e
 cases g3
 refine qt F0 B F H ρ σ d _ rs g1 fun v F1 H1 x1 l=>?_
 exact qt2 F0 B F1 H1 ρ σ ds' xa xb _ (rs.ext x1) g2 ha hb fun us F2 H2 x2 l2=>z (v::us) F2 H2 (x1.trans x2) (.cons (Dt.mono x2.ff l) l2)
def XM (X:Cx) (ct:Nat→Addr) (ms:List Mo) (e:Expr) (g:EM):Prop:=∃t,PE X e t∧∀(F0 B F H:Hp) (ρ ρ':Env) (σ:St) (d:D) (Q:VK),RS X.K ct F0 B ms F H ρ σ→g ρ=some (d,ρ')→(∀v F' H',RS X.K ct F0 B ms F' H' ρ' σ→Dt X.K ct F' d v→Q v H')→t σ H Q
def callM (i j:Nat) (fs:Env→Option (List D)) (mf:List D→Option D):EM:=fun ρ=>(fs ρ).bind fun ds=>(eV i ρ).bind fun p=>(eV j ρ).bind fun q=>if isCell p=true∧isCell q=true then (mf (ds++[p,q])).bind fun r=>match r with
 | .tup [d,p',q']=>some (d,(ρ.set i (some p')).set j (some q'))
 | _=>none else none
theorem zho {σ:St} {i:Nat} {v:V} (h:σ[i]?=some (some v)):σ.set i (some v) = σ:=by
 apply List.ext_getElem?
 intro k
 rw [List.getElem?_set]
 by_cases e:i=k
 ·subst e
  rw [if_pos rfl]
  by_cases hl:i < σ.length
  ·rw [if_pos hl,h]
  ·rw [if_neg hl,List.getElem?_eq_none (by omega)]
 ·rw [if_neg e]
theorem RS.two {K:PySem.W.Frag} {F0 B F H:Hp} {ρ:Env} {σ:St} {p q:D} (rs:RS K ct F0 B ms F H ρ σ) (hij:i≠j) (hmi:ms[i]?=some (.ow 1)) (hmj:ms[j]?=some (.ow 1)) (hp:ρ[i]?=some (some p)) (hq:ρ[j]?=some (some q)) (cp:isCell p=true) (cq:isCell q=true) :
  ∃a b,σ[i]?=some (some (.ref a))∧σ[j]?=some (some (.ref b))∧a≠b∧Ow K ct F H 1 p (.ref a) [a]∧Ow K ct F H 1 q (.ref b) [b]∧B a=none∧B b=none ∧
   ∀(F' H':Hp) (p' q':D),Same F F'→(∀x o,H x=some o→x≠a→x≠b→H' x=some o)→Same F' H'→(∀x o,H x=some o→F x=none→F' x=none)→Ow K ct F' H' 1 p' (.ref a) [a]→Ow K ct F' H' 1 q' (.ref b) [b]→RS K ct F0 B ms F' H' ((ρ.set i (some p')).set j (some q')) σ:=by
 obtain ⟨f1,fr,n1,b1,dj,i4,cf,put⟩:=rs.put (F':=F) (H':=H) hmi
 obtain ⟨v,hσ,ow⟩:=i4 p hp
 obtain ⟨a,rfl,rfl⟩:=ow.cell cp
 obtain ⟨f2,fr2,n2,b2,dj2,i42,cf2,put2⟩:=rs.put (F':=F) (H':=H) hmj
 obtain ⟨v2,hσ2,ow2⟩:=i42 q hq
 obtain ⟨b,rfl,rfl⟩:=ow2.cell cq
 have ca:=ow.cells a List.mem_cons_self
 have cb:=ow2.cells b List.mem_cons_self
 have hab:a≠b:=by
  intro e
  subst e
  have r1:=put F (hid H a) (.non) .non [] (.refl _) (fun y o hy=>by rw [je (fun e=>by rw [e,b1 a List.mem_cons_self] at hy; cases hy)]; exact rs.bh _ _ hy) (fun y o hy=>by rw [je (fun e=>by rw [e,ca.1] at hy; cases hy)]; exact rs.fh _ _ hy) rs.nf
   (fun y hy=>⟨je (fun e=>dj a List.mem_cons_self (e ▸ hy)),(cf y hy).1⟩) (Ow.scal .non rfl) List.nodup_nil (fun y hy=>by cases hy) (fun y hy=>by cases hy)
  obtain ⟨f3,fr3,n3,b3,dj3,i43,cf3,put3⟩:=r1.put (F':=F) (H':=H) hmj
  obtain ⟨v3,hσ3,ow3⟩:=i43 q (by rw [List.getElem?_set_ne hij]; exact hq)
  obtain ⟨a3,rfl,rfl⟩:=ow3.cell cq
  rw [List.getElem?_set_ne hij,hσ2] at hσ3
  cases hσ3
  obtain ⟨o,ho⟩:=(ow3.cells a List.mem_cons_self).2
  rw [zhm] at ho
  cases ho
 refine ⟨a,b,hσ,hσ2,hab,ow,ow2,b1 a List.mem_cons_self,b2 b List.mem_cons_self,fun F' H' p' q' s1 kH s3 nf o1 o2=>?_⟩
 have Ba:=b1 a List.mem_cons_self
 have Bb:=b2 b List.mem_cons_self
 have fa':=(o1.cells a List.mem_cons_self).1
 have fb':=(o2.cells b List.mem_cons_self).1
 obtain ⟨ob,hob⟩:=cb.2
 have hm:∀y,y≠b→upd H' b ob y=H' y:=fun y ne=>yh ne
 have r1:=put F' (upd H' b ob) p' (.ref a) [a] s1 (fun y o hy=>by
   have na:y≠a:=fun e=>by rw [e,Ba] at hy; cases hy
   have nb:y≠b:=fun e=>by rw [e,Bb] at hy; cases hy
   rw [hm y nb]
   exact kH y o (rs.bh _ _ hy) na nb) (fun y o hy=>by
   rw [hm y (fun e=>by rw [e,fb'] at hy; cases hy)]
   exact s3 _ _ hy) (fun y o hy hn=>nf y o (rs.bh _ _ hy) (rs.nf y o hy hn)) (fun y hy=>by
   obtain ⟨hn,o,ho⟩:=cf y hy
   refine ⟨?_,nf y o ho hn⟩
   have na:y≠a:=fun e=>dj a List.mem_cons_self (e ▸ hy)
   by_cases nb:y=b
   ·subst nb; rw [yo,hob]
   ·rw [hm y nb,kH y o ho na nb,ho]) (o1.frame (.refl _) fun y hy=>by
   rw [List.mem_singleton] at hy
   subst hy
   exact ⟨hm _ hab,fa'⟩) (by simp) (fun y hy=>by
   rw [List.mem_singleton] at hy
   subst hy
   exact dj _ List.mem_cons_self) (fun y hy=>by
   rw [List.mem_singleton] at hy
   subst hy
   exact Ba)
 rw [zho hσ] at r1
 obtain ⟨f3,fr3,n3,b3,dj3,i43,cf3,put3⟩:=r1.put (F':=F) (H':=H) hmj
 obtain ⟨v3,hσ3,ow3⟩:=i43 q (by rw [List.getElem?_set_ne hij]; exact hq)
 obtain ⟨a3,rfl,rfl⟩:=ow3.cell cq
 rw [hσ2] at hσ3
 cases hσ3
 have r2:=put3 F' H' q' (.ref b) [b] (.refl _) (fun y o hy=>by
   have na:y≠a:=fun e=>by rw [e,Ba] at hy; cases hy
   have nb:y≠b:=fun e=>by rw [e,Bb] at hy; cases hy
   exact kH y o (rs.bh _ _ hy) na nb) s3 r1.nf (fun y hy=>by
   have nb:y≠b:=fun e=>dj3 b List.mem_cons_self (e ▸ hy)
   exact ⟨(hm y nb).symm,(cf3 y hy).1⟩) o2 (by simp) (fun y hy=>by
   rw [List.mem_singleton] at hy
   subst hy
   exact dj3 _ List.mem_cons_self) (fun y hy=>by
   rw [List.mem_singleton] at hy
   subst hy
   exact Bb)
 rw [zho hσ2] at r2
 exact r2
variable {kk:Nat} {fa:Addr} {fd:FuncData} {ps:List Str} {mf:List D→Option D} {x:Str} {pp:Pos}
theorem zo6 {es:List Expr} {fs:Env→Option (List D)} {dsv:List Value} (hij:i≠j) (hmi:ms[i]?=some (.ow 1)) (hmj:ms[j]?=some (.ow 1)) (Fn:FnOk X.prog X.w X.K X.mg X.base CX0 kk fa fd ps (MSp X.K ct n mf)) (hr:Room kk X.A) (hg:Gl X x) (hm:X.mg x=some (.ref fa)) (hk:PySem.W.keepIn X.K (.ref fa)=true)
  (hb:Binds X.K fd ps dsv) (hd:Vals [] dsv) (hn:∀ρ ds,fs ρ=some ds→ds.length=n) (ha:XAM X ct ms i j (e::es) fs)
  (hdb:(x == ("__debug__":Str))=false:=by decide) (he:starEach (e::es) X.env=(false,eval e X.env)::starEach es X.env:=by rfl) (hpl:(backTo pos (starEach es X.env)).any (·.1)=false:=by rfl) :
  XM X ct ms (.Call (.Name x pp) (e::es) [] pos) (callM i j fs mf):=by
 obtain ⟨t,pt,qt⟩:=ha
 refine ⟨_,zi9 Fn hr hg hm hk hb hd pass0 pt hdb he hpl,fun F0 B F H ρ ρ' σ d Q rs e z=>?_⟩
 obtain ⟨ds,h1,h2⟩:=bind1 e
 obtain ⟨p,h3,h4⟩:=bind1 h2
 obtain ⟨q,h5,h6⟩:=bind1 h4
 by_cases hc:isCell p=true∧isCell q=true
 ·rw [if_pos hc] at h6
  obtain ⟨r,h7,h8⟩:=bind1 h6
  have:∃p' q',r=.tup [d,p',q']∧ρ'=(ρ.set i (some p')).set j (some q'):=by
   split at h8
   ·cases h8; exact ⟨_,_,rfl,rfl⟩
   ·cases h8
  obtain ⟨p',q',rfl,rfl⟩:=this
  obtain ⟨a0,b0,hσ,hσ2,_⟩:=rs.two hij hmi hmj (yc h3) (yc h5) hc.1 hc.2
  refine qt F0 B F H ρ σ ds a0 b0 _ rs h1 hσ hσ2 fun us F1 H1 x1 l=>?_
  obtain ⟨a,b,hσ',hσ2',hab,oa,ob,Ba,Bb,put⟩:=(rs.ext x1).two hij hmi hmj (yc h3) (yc h5) hc.1 hc.2
  rw [hσ] at hσ'
  rw [hσ2] at hσ2'
  cases hσ'
  cases hσ2'
  refine ⟨F1,ds,us,d,p,q,p',q',a0,b0,by simp,hn _ _ h1,x1.fh,l,hab,oa,ob,h7,fun v F' H' s1 kH s3 nf o1 o2 dt=>?_⟩
  exact z v F' H' (put F' H' p' q' s1 kH s3 nf o1 o2) dt
 ·rw [if_neg hc] at h6; cases h6
theorem zrj:∀(ρ:Env) (ds:List D),aNil ρ=some ds→ds.length=0:=fun ρ ds e=>by cases e; rfl
theorem zgn {fs:Env→Option (List D)} (h:∀(ρ:Env) (ds:List D),fs ρ=some ds→ds.length=n):∀(ρ:Env) (ds:List D),aCons f fs ρ=some ds→ds.length=n+1:=fun ρ ds e=>by
 obtain ⟨x,xs,h1,h2,h3⟩:=bind2 e
 cases h3
 rw [List.length_cons,h ρ xs h2]
def sSetM (i:Nat) (g:EM):SF:=fun ρ=>(g ρ).bind fun r=>some (.nx (r.2.set i (some r.1)))
theorem zo7 {i:Nat} {x:Str} {pos':Pos} {gm:EM} (hm:ms[i]?=some (.ow 0)) (hN:X.N.Nodup) (hi:X.N[i]?=some x) (hx:Loc X.env.scope x) (he:XM X ct ms e gm) (hs:swapsWith e (some (.Name x pos')) pos.line X.env=pure false:=by rfl)
  (hf:X.fn x=true∨X.env.scope.names.lookup x=some .local:=by first | exact .inl rfl | exact .inr rfl | assumption):XS X ct ms rk (.Assign [.Name x pos'] e pos) (sSetM i gm):=by
 obtain ⟨t,pt,qt⟩:=he
 refine ⟨_,zm1 hN hi hx pt hs hf,fun F0 B F H ρ σ o E rs e w=>?_⟩
 obtain ⟨⟨d,ρ'⟩,h1,h2⟩:=bind1 e
 cases h2
 exact qt F0 B F H ρ ρ' σ d _ rs h1 fun v F' H' r l=>w _ F' H' (r.set hm (.refl r.fh) (Ow.zero l) List.nodup_nil fun a z=>(by cases z))
end
end L3
namespace L2
open PySem PySem.Spec
open PyProof.Rows hiding St
section
variable {X:Cx} {pos:Pos}
end
end L2
namespace L3
open PySem PySem.Spec L2
open PyProof.Rows hiding St
section
variable {X:Cx} {ct:Nat→Addr} {ms:List Mo} {n:Nat} {pos:Pos}
end
end L3
namespace L3
open PySem PySem.Spec L2
open PyProof.Rows hiding St
section
variable {X:Cx} {ct:Nat→Addr} {ms:List Mo} {rk n m k i:Nat} {a b c e:Expr} {f g h:EF} {pos:Pos}
end
end L3
namespace L3
open PySem PySem.Spec L2
open PyProof.Rows hiding St
section
variable {X:Cx} {ct:Nat→Addr} {ms:List Mo} {rk n m k:Nat} {a b c e o:Expr} {f g h:EF} {pos:Pos}
end
end L3
namespace L2
open PySem PySem.Spec
open PyProof.Rows hiding St
section
variable {X:Cx} {CX:CXT} {k:Nat} {f C:Addr} {fd:FuncData} {ps ks:List Str} {sp:Sp} {E:XK} {x m:Str} {p pos apos kpos:Pos} {e o:Expr} {es:List Expr} {kws:List Keyword} {te ta:TE} {t tk:TA} {nm:Option Str}
variable {g:List Value→List Value→List Value} {gV:List V→List V→List V}
end
end L2
namespace L3
open PySem PySem.Spec L2
open PyProof.Rows hiding St
section
variable {X:Cx} {ct:Nat→Addr} {ms:List Mo} {rk n m k kk:Nat} {e a:Expr} {f:EF} {x:Str} {pp pos kpos:Pos} {fa:Addr} {fd:FuncData} {ps ks:List Str} {pm cs:List Nat} {mi:Nat→List D→Option D}
end
end L3
namespace L3
open PySem PySem.Spec L2
open PyProof.Rows hiding St
section
variable {X:Cx} {ct:Nat→Addr} {ms:List Mo} {rk n m k i j:Nat} {a b c e:Expr} {f g h:EF} {pos:Pos}
variable {kk:Nat} {fa:Addr} {fd:FuncData} {ps:List Str} {mf:List D→Option D} {x y:Str} {pp:Pos}
end
end L3
namespace Fq
theorem gcd_step (a b:Int):Int.gcd b (a.fmod b)=Int.gcd a b:=by
 rw [Int.fmod_def,Int.gcd_sub_mul_left_right,Int.gcd_comm]
theorem fmod_less (a:Int) {b:Int} (hb:b≠0):(a.fmod b).natAbs<b.natAbs:=by
 rcases Int.lt_or_gt_of_ne hb with h | h
 ·have h1:=Int.fmod_lt_of_pos (-a) (b:=-b) (by omega)
  have h2:=Int.fmod_nonneg_of_pos (-a) (b:=-b) (by omega)
  have e:(-a).fmod (-b) = -(a.fmod b):=Int.neg_fmod_neg ..
  omega
 ·have h1:=Int.fmod_lt_of_pos a h
  have h2:=Int.fmod_nonneg_of_pos a h
  omega
theorem gcd_end (a:Int):(if a<0 then -a else a)=((Int.gcd a 0:Nat):Int):=by
 rw [Int.gcd_zero_right]
 split <;> omega
def dv (t b:Int):Int:=if b<0 then -((Int.gcd t b:Nat):Int) else ((Int.gcd t b:Nat):Int)
def mk (t b:Int):Int×Int:=(t.fdiv (dv t b),b.fdiv (dv t b))
structure Low (q:Int×Int):Prop where
 pos:1≤q.2
 cop:Int.gcd q.1 q.2=1
theorem gcd_pos {t b:Int} (hb:b≠0):0<Int.gcd t b:=Int.gcd_pos_of_ne_zero_right t hb
theorem zo8 {t b:Int} (hb:b≠0):dv t b≠0:=by
 have:=gcd_pos (t:=t) hb
 unfold dv; split <;> omega
theorem znh (t b:Int):(dv t b).natAbs=Int.gcd t b:=by
 unfold dv; split <;> omega
theorem dv_le {t b:Int} (hb:b≠0):(dv t b).natAbs≤b.natAbs:=by
 rw [znh]
 exact Nat.le_of_dvd (by omega) (Int.natAbs_dvd_natAbs.mpr (Int.gcd_dvd_right t b) |> fun h=>by simpa using h)
theorem zcj (t b:Int):dv t b ∣ t:=by
 unfold dv; split
 ·exact Int.neg_dvd.mpr (Int.gcd_dvd_left t b)
 ·exact Int.gcd_dvd_left t b
theorem zbs (t b:Int):dv t b ∣ b:=by
 unfold dv; split
 ·exact Int.neg_dvd.mpr (Int.gcd_dvd_right t b)
 ·exact Int.gcd_dvd_right t b
theorem zkg (t b:Int):t=dv t b * (mk t b).1:=by
 show t=dv t b * t.fdiv (dv t b)
 rw [Int.fdiv_eq_ediv_of_dvd (zcj t b),Int.mul_ediv_cancel' (zcj t b)]
theorem zkh (t b:Int):b=dv t b * (mk t b).2:=by
 show b=dv t b * b.fdiv (dv t b)
 rw [Int.fdiv_eq_ediv_of_dvd (zbs t b),Int.mul_ediv_cancel' (zbs t b)]
theorem mk_low {t b:Int} (hb:b≠0):Low (mk t b):=by
 have e1:=zkg t b
 have e2:=zkh t b
 have hd:=zo8 (t:=t) hb
 have hg:=gcd_pos (t:=t) hb
 constructor
 ·have hs:(b<0∧dv t b<0)∨(0<b∧0<dv t b):=by
   unfold dv; split <;> omega
  rcases hs with ⟨h1,h2⟩ | ⟨h1,h2⟩
  ·rcases Int.lt_or_le (mk t b).2 1 with h | h
   ·have:0≤dv t b * (mk t b).2:=Int.mul_nonneg_of_nonpos_of_nonpos (by omega) (by omega)
    omega
   ·exact h
  ·rcases Int.lt_or_le (mk t b).2 1 with h | h
   ·have:dv t b * (mk t b).2≤0:=Int.mul_nonpos_of_nonneg_of_nonpos (by omega) (by omega)
    omega
   ·exact h
 ·have h:Int.gcd (dv t b * (mk t b).1) (dv t b * (mk t b).2)=Int.gcd t b:=by rw [← e1,← e2]
  rw [Int.gcd_mul_left,znh] at h
  exact Nat.eq_of_mul_eq_mul_left hg (by rw [h,Nat.mul_one])
theorem mk_cross (t b:Int):(mk t b).1 * b=t * (mk t b).2:=by
 have e1:=zkg t b
 have e2:=zkh t b
 generalize (mk t b).1=x at *
 generalize (mk t b).2=y at *
 generalize dv t b=d at *
 subst e1
 rw [e2]
 grind
theorem zdh {d x:Int} (hd:d≠0):x.natAbs≤(d * x).natAbs:=by
 rw [Int.natAbs_mul]
 exact Nat.le_mul_of_pos_left _ (by omega)
theorem mk_le_one {t b:Int} (hb:b≠0):(mk t b).1.natAbs≤t.natAbs:=by
 have h:=zdh (x:=(mk t b).1) (zo8 (t:=t) hb)
 rwa [← zkg] at h
theorem mk_le_two {t b:Int} (hb:b≠0):(mk t b).2.natAbs≤b.natAbs:=by
 have h:=zdh (x:=(mk t b).2) (zo8 (t:=t) hb)
 rwa [← zkh] at h
def plus (p q:Int×Int):Int×Int:=mk (p.1 * q.2+q.1 * p.2) (p.2 * q.2)
def scaled (p:Int×Int) (n:Int):Int×Int:=mk (p.1 * n) p.2
def minus (p q:Int×Int):Int×Int:=plus p (scaled q (-1))
def under (p q:Int×Int):Bool:=decide (p.1 * q.2<q.1 * p.2)
theorem Low.ne {q:Int×Int} (h:Low q):q.2≠0:=by have:=h.pos; omega
theorem Low.mul_ne {p q:Int×Int} (h:Low p) (h':Low q):p.2 * q.2≠0:=Int.mul_ne_zero h.ne h'.ne
theorem plus_low {p q:Int×Int} (h:Low p) (h':Low q):Low (plus p q):=mk_low (h.mul_ne h')
theorem scaled_low {p:Int×Int} (h:Low p) (n:Int):Low (scaled p n):=mk_low h.ne
theorem minus_low {p q:Int×Int} (h:Low p) (h':Low q):Low (minus p q):=plus_low h (scaled_low h' _)
theorem plus_v (p q:Int×Int):(plus p q).1 * (p.2 * q.2)=(p.1 * q.2+q.1 * p.2) * (plus p q).2:=mk_cross _ _
theorem scaled_v (p:Int×Int) (n:Int):(scaled p n).1 * p.2=(p.1 * n) * (scaled p n).2:=mk_cross _ _
theorem minus_v {p q:Int×Int} (h':Low q):(minus p q).1 * (p.2 * q.2)=(p.1 * q.2-q.1 * p.2) * (minus p q).2:=by
 have e1:=plus_v p (scaled q (-1))
 have e2:=scaled_v q (-1)
 have hs:=(scaled_low h' (-1)).ne
 show (plus p (scaled q (-1))).1 * (p.2 * q.2)=(p.1 * q.2-q.1 * p.2) * (plus p (scaled q (-1))).2
 have k:(scaled q (-1)).2 * ((plus p (scaled q (-1))).1 * (p.2 * q.2))=(scaled q (-1)).2 * ((p.1 * q.2-q.1 * p.2) * (plus p (scaled q (-1))).2):=by grind
 exact Int.eq_of_mul_eq_mul_left hs k
theorem lt_congr {n d m e n' d' m' e':Int} (hd:0<d) (he:0<e) (hd':0<d') (he':0<e') (h:n * e=m * d) (h':n' * e'=m' * d'):(n * d'<n' * d↔m * e'<m' * e):=by
 have p1:0<e * e':=Int.mul_pos he he'
 have p2:0<d * d':=Int.mul_pos hd hd'
 have k:(e * e') * (n' * d-n * d')=(d * d') * (m' * e-m * e'):=by grind
 constructor
 ·intro q
  have:0<(d * d') * (m' * e-m * e'):=by rw [← k]; exact Int.mul_pos p1 (by omega)
  have:=Int.pos_of_mul_pos_right this (by omega)
  omega
 ·intro q
  have:0<(e * e') * (n' * d-n * d'):=by rw [k]; exact Int.mul_pos p2 (by omega)
  have:=Int.pos_of_mul_pos_right this (by omega)
  omega
theorem Low.gt {q:Int×Int} (h:Low q):0<q.2:=by have:=h.pos; omega
end Fq
set_option maxHeartbeats 4000000
namespace My
open PySem L2 L3
def top (i:Nat):Stmt:=PySem.Challenge.pw_ringbeat_k35_whole_what_holds_is_right.main.body.getD i (.Pass ⟨0,0,0,0⟩)
abbrev yq:Stmt:=inClass (top 2) 0
abbrev yw:Stmt:=inClass (top 3) 0
abbrev yf:Stmt:=inClass (top 4) 0
abbrev yg:Stmt:=inClass (top 5) 0
abbrev xw:Stmt:=top 16
abbrev xy:Stmt:=top 17
abbrev w9:Stmt:=top 18
abbrev xz:Stmt:=top 19
abbrev yx:Stmt:=top 20
abbrev wm:Stmt:=top 21
abbrev yi:Stmt:=top 22
abbrev zy:Stmt:=top 23
abbrev xj:Stmt:=inClass (top 25) 0
abbrev zz:Stmt:=top 27
abbrev uw:Stmt:=top 28
abbrev vp:Stmt:=top 31
abbrev qc:Stmt:=top 29
abbrev ux:Stmt:=top 30
abbrev uz:Stmt:=top 32
abbrev vb:Stmt:=top 34
abbrev qd:Stmt:=top 35
abbrev vc:Stmt:=top 36
abbrev qf:Stmt:=top 37
abbrev x6:Stmt:=top 38
abbrev zk:Stmt:=top 39
abbrev yj:Stmt:=top 40
abbrev wn:Stmt:=top 42
abbrev u0:Stmt:=top 43
abbrev yy:Stmt:=top 45
abbrev xk:Stmt:=top 46
abbrev x8:Stmt:=top 47
abbrev wo:Stmt:=top 48
abbrev x9:Stmt:=top 49
abbrev wp:Stmt:=top 50
abbrev xl:Stmt:=top 51
abbrev wa:Stmt:=top 52
abbrev wq:Stmt:=top 53
abbrev xm:Stmt:=top 54
abbrev wb:Stmt:=top 55
abbrev wc:Stmt:=top 56
abbrev zao:Stmt:=top 57
theorem zck:FnScope ["self","start","goal","time","behind"] ["self","start","goal","time","behind"] (defScope yq):=⟨rfl,rfl,rfl,by decide +kernel,rfl,by decide +kernel,by decide +kernel⟩
theorem zcv:FnScope ["self","start","goal","time"] ["self","start","goal","time"] (defScope yw):=⟨rfl,rfl,rfl,by decide +kernel,rfl,by decide +kernel,by decide +kernel⟩
theorem zcw:FnScope ["self","start","goal","time","behind"] ["self","start","goal","time","behind"] (defScope yf):=⟨rfl,rfl,rfl,by decide +kernel,rfl,by decide +kernel,by decide +kernel⟩
theorem zcx:FnScope ["self","start","goal","time","behind"] ["self","start","goal","time","behind"] (defScope yg):=⟨rfl,rfl,rfl,by decide +kernel,rfl,by decide +kernel,by decide +kernel⟩
theorem zfo:FnScope ["sign"] ["sign"] (defScope xw):=⟨rfl,rfl,rfl,by decide +kernel,rfl,by decide +kernel,by decide +kernel⟩
theorem zfp:FnScope ["sign"] ["sign"] (defScope xy):=⟨rfl,rfl,rfl,by decide +kernel,rfl,by decide +kernel,by decide +kernel⟩
theorem zin:FnScope ["word"] ["word"] (defScope w9):=⟨rfl,rfl,rfl,by decide +kernel,rfl,by decide +kernel,by decide +kernel⟩
theorem qp:FnScope ["names","seen","name"] ["names"] (defScope xz):=⟨rfl,rfl,rfl,by decide +kernel,rfl,by decide +kernel,by decide +kernel⟩
theorem zcy:FnScope ["number","least","most"] ["number","least","most"] (defScope yx):=⟨rfl,rfl,rfl,by decide +kernel,rfl,by decide +kernel,by decide +kernel⟩
theorem zap:FnScope ["arrow","many","least","most"] ["arrow","many"] (defScope wm):=⟨rfl,rfl,rfl,by decide +kernel,rfl,by decide +kernel,by decide +kernel⟩
theorem yz:FnScope ["many","arrows","within","waited","arrow","placed","done","here"] ["many","arrows"] (defScope yi):=⟨rfl,rfl,rfl,by decide +kernel,rfl,by decide +kernel,by decide +kernel⟩
theorem wx:FnScope ["arrows","chosen","going","here","seen","way"] ["arrows","chosen","going"] (defScope zy):=⟨rfl,rfl,rfl,by decide +kernel,rfl,by decide +kernel,by decide +kernel⟩
theorem u5:FnScope ["self","names","arrows","number","arrow","placed"] ["self","names","arrows"] (defScope xj):=⟨rfl,rfl,rfl,by decide +kernel,rfl,by decide +kernel,by decide +kernel⟩
theorem vk:FnScope ["one","other","rest"] ["one","other"] (defScope zz):=⟨rfl,rfl,rfl,by decide +kernel,rfl,by decide +kernel,by decide +kernel⟩
theorem zd9:FnScope ["top","bottom","divisor"] ["top","bottom"] (defScope uw):=⟨rfl,rfl,rfl,by decide +kernel,rfl,by decide +kernel,by decide +kernel⟩
theorem zki:FnScope ["one","whole"] ["one","whole"] (defScope vp):=⟨rfl,rfl,rfl,by decide +kernel,rfl,by decide +kernel,by decide +kernel⟩
theorem zo9:FnScope ["one","other"] ["one","other"] (defScope qc):=⟨rfl,rfl,rfl,by decide +kernel,rfl,by decide +kernel,by decide +kernel⟩
theorem zmd:FnScope ["one","other"] ["one","other"] (defScope ux):=⟨rfl,rfl,rfl,by decide +kernel,rfl,by decide +kernel,by decide +kernel⟩
theorem zme:FnScope ["one","other"] ["one","other"] (defScope uz):=⟨rfl,rfl,rfl,by decide +kernel,rfl,by decide +kernel,by decide +kernel⟩
theorem zbi:FnScope ["net","ring","starts","goals"] ["net","ring"] (defScope vb):=⟨rfl,rfl,rfl,by decide +kernel,rfl,by decide +kernel,by decide +kernel⟩
theorem zgo:FnScope ["net","ring","times","behinds"] ["net","ring"] (defScope qd):=⟨rfl,rfl,rfl,by decide +kernel,rfl,by decide +kernel,by decide +kernel⟩
theorem zdi:FnScope ["arrow","pace","times","earliest"] ["arrow","pace","times"] (defScope vc):=⟨rfl,rfl,rfl,by decide +kernel,rfl,by decide +kernel,by decide +kernel⟩
theorem zpa:FnScope ["net","pace","times"] ["net","pace","times"] (defScope qf):=⟨rfl,rfl,rfl,by decide +kernel,rfl,by decide +kernel,by decide +kernel⟩
theorem v6:FnScope ["net","pace","numbers","times","chosen","pushed","number","arrow","earliest"] ["net","pace","numbers","times","chosen"] (defScope x6):=⟨rfl,rfl,rfl,by decide +kernel,rfl,by decide +kernel,by decide +kernel⟩
theorem yu:FnScope ["net","pace","numbers","times","chosen","pushed","count"] ["net","pace","numbers"] (defScope zk):=⟨rfl,rfl,rfl,by decide +kernel,rfl,by decide +kernel,by decide +kernel⟩
theorem zbv:FnScope ["net","pace"] ["net","pace"] (defScope yj):=⟨rfl,rfl,rfl,by decide +kernel,rfl,by decide +kernel,by decide +kernel⟩
theorem zgp:FnScope ["net","ring","pace"] ["net","ring","pace"] (defScope wn):=⟨rfl,rfl,rfl,by decide +kernel,rfl,by decide +kernel,by decide +kernel⟩
theorem zmf:FnScope ["net","paper"] ["net","paper"] (defScope u0):=⟨rfl,rfl,rfl,by decide +kernel,rfl,by decide +kernel,by decide +kernel⟩
theorem zcz:FnScope ["_law_script","_law_k"] ["_law_script","_law_k"] (defScope yy):=⟨rfl,rfl,rfl,by decide +kernel,rfl,by decide +kernel,by decide +kernel⟩
theorem zea:FnScope ["_law_cell"] ["_law_cell"] (defScope xk):=⟨rfl,rfl,rfl,by decide +kernel,rfl,by decide +kernel,by decide +kernel⟩
theorem qr:FnScope ["_law_cell","_law_k","_law_number"] ["_law_cell","_law_k"] (defScope x8):=⟨rfl,rfl,rfl,by decide +kernel,rfl,by decide +kernel,by decide +kernel⟩
theorem jx:FnScope ["_law_turn","_law_many","_law_going","_law_order","_law_left","_law_k"] ["_law_turn","_law_many","_law_going"] (defScope wo):=⟨rfl,rfl,rfl,by decide +kernel,rfl,by decide +kernel,by decide +kernel⟩
theorem wt:FnScope ["_law_cell","_law_many","_law_turn","_law_number","_law_start","_law_goal","_law_behind","_law_time"] ["_law_cell","_law_many","_law_turn"] (defScope x9):=⟨rfl,rfl,rfl,by decide +kernel,rfl,by decide +kernel,by decide +kernel⟩
theorem jf:FnScope ["_law_arrow_here","_law_kind","_law_start","_law_goal","_law_time","_law_behind"] ["_law_arrow_here","_law_kind"] (defScope wp):=⟨rfl,rfl,rfl,by decide +kernel,rfl,by decide +kernel,by decide +kernel⟩
theorem u6:FnScope ["_law_top","_law_bottom","_law_one","_law_other"] ["_law_top","_law_bottom"] (defScope xl):=⟨rfl,rfl,rfl,by decide +kernel,rfl,by decide +kernel,by decide +kernel⟩
theorem v7:FnScope ["_law_arrows","_law_number","_law_way","_law_seen","_law_going","_law_onward"] ["_law_arrows","_law_number"] (defScope wa):=⟨rfl,rfl,rfl,by decide +kernel,rfl,by decide +kernel,by decide +kernel⟩
theorem zgq:FnScope ["_law_arrows","_law_ring"] ["_law_arrows","_law_ring"] (defScope wq):=⟨rfl,rfl,rfl,by decide +kernel,rfl,by decide +kernel,by decide +kernel⟩
theorem w6:FnScope ["_law_arrows","_law_beat","_law_many","_law_tops","_law_step","_law_start","_law_goal","_law_time","_law_behind"] ["_law_arrows","_law_beat","_law_many"] (defScope xm):=⟨rfl,rfl,rfl,by decide +kernel,rfl,by decide +kernel,by decide +kernel⟩
theorem wg:FnScope ["_law_arrows","_law_many","_law_cell","_law_number","_law_ring","_law_beat","_law_top","_law_bottom","_law_times"] ["_law_arrows","_law_many","_law_cell"] (defScope wb):=⟨rfl,rfl,rfl,by decide +kernel,rfl,by decide +kernel,by decide +kernel⟩
theorem ur:FnScope ["_law_beat","_law_cell","_law_number","_law_fine","_law_near","_law_free"] ["_law_beat","_law_cell"] (defScope wc):=⟨rfl,rfl,rfl,by decide +kernel,rfl,by decide +kernel,by decide +kernel⟩
theorem jq:FnScope ["_law_script","_law_many","_law_arrows","_law_net","_law_cell","_law_paper_here","_law_beat","_law_other","_law_ring","_law_top","_law_bottom","_law_asked_here","_law_is_less"] ["_law_script"] (defScope zao):=⟨rfl,rfl,rfl,by decide +kernel,rfl,by decide +kernel,by decide +kernel⟩
structure Adr where
 c_Arrow:Addr
 c_Ride:Addr
 c_Wait:Addr
 c_Back:Addr
 c_Net:Addr
 f_Arrow___init:Addr
 d_Arrow___init:FuncData
 f_Ride___init:Addr
 d_Ride___init:FuncData
 f_Wait___init:Addr
 d_Wait___init:FuncData
 f_Back___init:Addr
 d_Back___init:FuncData
 f_is_letter:Addr
 d_is_letter:FuncData
 f_is_figure:Addr
 d_is_figure:FuncData
 f_is_name:Addr
 d_is_name:FuncData
 f_are_names:Addr
 d_are_names:FuncData
 f_lies_within:Addr
 d_lies_within:FuncData
 f_is_right:Addr
 d_is_right:FuncData
 f_placed_goings:Addr
 d_placed_goings:FuncData
 f_ring_back_from:Addr
 d_ring_back_from:FuncData
 f_Net___init:Addr
 d_Net___init:FuncData
 f_common_divisor:Addr
 d_common_divisor:FuncData
 f_ratio:Addr
 d_ratio:FuncData
 f_scaled:Addr
 d_scaled:FuncData
 f_plus:Addr
 d_plus:FuncData
 f_minus:Addr
 d_minus:FuncData
 f_under:Addr
 d_under:FuncData
 f_is_ring:Addr
 d_is_ring:FuncData
 f_mean:Addr
 d_mean:FuncData
 f_is_kept:Addr
 d_is_kept:FuncData
 f_fits:Addr
 d_fits:FuncData
 f_push_once:Addr
 d_push_once:FuncData
 f_times_or_ring_along:Addr
 d_times_or_ring_along:FuncData
 f_times_or_ring:Addr
 d_times_or_ring:FuncData
 f_has_mean:Addr
 d_has_mean:FuncData
 f_holds:Addr
 d_holds:FuncData
 f_law_cell_at:Addr
 d_law_cell_at:FuncData
 f_law_is_row:Addr
 d_law_is_row:FuncData
 f_law_mixed:Addr
 d_law_mixed:FuncData
 f_law_rank:Addr
 d_law_rank:FuncData
 f_law_arrow:Addr
 d_law_arrow:FuncData
 f_law_made:Addr
 d_law_made:FuncData
 f_law_lowest:Addr
 d_law_lowest:FuncData
 f_law_found:Addr
 d_law_found:FuncData
 f_law_sums:Addr
 d_law_sums:FuncData
 f_law_pushed:Addr
 d_law_pushed:FuncData
 f_law_paper:Addr
 d_law_paper:FuncData
 f_law_asked:Addr
 d_law_asked:FuncData
 f_law:Addr
 d_law:FuncData
def Adr.ct (a:Adr):Nat→Addr
 | 0=>a.c_Arrow
 | 1=>a.c_Ride
 | 2=>a.c_Wait
 | 3=>a.c_Back
 | 4=>a.c_Net
 | _=>0
structure Txt (K:PySem.W.Frag) (mg:Str→Option Value) (a:Adr):Prop where
 Arrow:Dc K mg "Arrow" a.c_Arrow
 Ride:Dc K mg "Ride" a.c_Ride
 Wait:Dc K mg "Wait" a.c_Wait
 Back:Dc K mg "Back" a.c_Back
 Net:Dc K mg "Net" a.c_Net
 Arrow___init:Dm K a.c_Arrow "__init__" "Arrow.__init__" yq ["self","start","goal","time","behind"] a.f_Arrow___init a.d_Arrow___init
 Ride___init:Dm K a.c_Ride "__init__" "Ride.__init__" yw ["self","start","goal","time"] a.f_Ride___init a.d_Ride___init
 Wait___init:Dm K a.c_Wait "__init__" "Wait.__init__" yf ["self","start","goal","time","behind"] a.f_Wait___init a.d_Wait___init
 Wait___init_d1:∃dsv,True∧Vals [(V.int 0)] dsv∧Binds K a.d_Wait___init ["self","start","goal","time","behind"] dsv
 Back___init:Dm K a.c_Back "__init__" "Back.__init__" yg ["self","start","goal","time","behind"] a.f_Back___init a.d_Back___init
 Back___init_d1:∃dsv,True∧Vals [(V.int 1)] dsv∧Binds K a.d_Back___init ["self","start","goal","time","behind"] dsv
 is_letter:Dn2 K mg "is_letter" xw ["sign"] a.f_is_letter a.d_is_letter
 is_figure:Dn2 K mg "is_figure" xy ["sign"] a.f_is_figure a.d_is_figure
 is_name:Dn2 K mg "is_name" w9 ["word"] a.f_is_name a.d_is_name
 are_names:Dn2 K mg "are_names" xz ["names"] a.f_are_names a.d_are_names
 lies_within:Dn2 K mg "lies_within" yx ["number","least","most"] a.f_lies_within a.d_lies_within
 is_right:Dn2 K mg "is_right" wm ["arrow","many"] a.f_is_right a.d_is_right
 placed_goings:Dn2 K mg "placed_goings" yi ["many","arrows"] a.f_placed_goings a.d_placed_goings
 ring_back_from:Dn2 K mg "ring_back_from" zy ["arrows","chosen","going"] a.f_ring_back_from a.d_ring_back_from
 Net___init:Dm K a.c_Net "__init__" "Net.__init__" xj ["self","names","arrows"] a.f_Net___init a.d_Net___init
 common_divisor:Dn2 K mg "common_divisor" zz ["one","other"] a.f_common_divisor a.d_common_divisor
 ratio:Dn2 K mg "ratio" uw ["top","bottom"] a.f_ratio a.d_ratio
 scaled:Dn2 K mg "scaled" vp ["one","whole"] a.f_scaled a.d_scaled
 plus:Dn2 K mg "plus" qc ["one","other"] a.f_plus a.d_plus
 minus:Dn2 K mg "minus" ux ["one","other"] a.f_minus a.d_minus
 under:Dn2 K mg "under" uz ["one","other"] a.f_under a.d_under
 is_ring:Dn2 K mg "is_ring" vb ["net","ring"] a.f_is_ring a.d_is_ring
 mean:Dn2 K mg "mean" qd ["net","ring"] a.f_mean a.d_mean
 is_kept:Dn2 K mg "is_kept" vc ["arrow","pace","times"] a.f_is_kept a.d_is_kept
 fits:Dn2 K mg "fits" qf ["net","pace","times"] a.f_fits a.d_fits
 push_once:Dn2 K mg "push_once" x6 ["net","pace","numbers","times","chosen"] a.f_push_once a.d_push_once
 times_or_ring_along:Dn2 K mg "times_or_ring_along" zk ["net","pace","numbers"] a.f_times_or_ring_along a.d_times_or_ring_along
 times_or_ring:Dn2 K mg "times_or_ring" yj ["net","pace"] a.f_times_or_ring a.d_times_or_ring
 has_mean:Dn2 K mg "has_mean" wn ["net","ring","pace"] a.f_has_mean a.d_has_mean
 holds:Dn2 K mg "holds" u0 ["net","paper"] a.f_holds a.d_holds
 law_cell_at:Dn2 K mg "_law_cell_at" yy ["_law_script","_law_k"] a.f_law_cell_at a.d_law_cell_at
 law_is_row:Dn2 K mg "_law_is_row" xk ["_law_cell"] a.f_law_is_row a.d_law_is_row
 law_mixed:Dn2 K mg "_law_mixed" x8 ["_law_cell","_law_k"] a.f_law_mixed a.d_law_mixed
 law_rank:Dn2 K mg "_law_rank" wo ["_law_turn","_law_many","_law_going"] a.f_law_rank a.d_law_rank
 law_arrow:Dn2 K mg "_law_arrow" x9 ["_law_cell","_law_many","_law_turn"] a.f_law_arrow a.d_law_arrow
 law_made:Dn2 K mg "_law_made" wp ["_law_arrow_here","_law_kind"] a.f_law_made a.d_law_made
 law_lowest:Dn2 K mg "_law_lowest" xl ["_law_top","_law_bottom"] a.f_law_lowest a.d_law_lowest
 law_found:Dn2 K mg "_law_found" wa ["_law_arrows","_law_number"] a.f_law_found a.d_law_found
 law_sums:Dn2 K mg "_law_sums" wq ["_law_arrows","_law_ring"] a.f_law_sums a.d_law_sums
 law_pushed:Dn2 K mg "_law_pushed" xm ["_law_arrows","_law_beat","_law_many"] a.f_law_pushed a.d_law_pushed
 law_paper:Dn2 K mg "_law_paper" wb ["_law_arrows","_law_many","_law_cell"] a.f_law_paper a.d_law_paper
 law_asked:Dn2 K mg "_law_asked" wc ["_law_beat","_law_cell"] a.f_law_asked a.d_law_asked
 law:Dn2 K mg "law" zao ["_law_script"] a.f_law a.d_law
 q_Arrow:Dq K a.c_Arrow "__init__" a.f_Arrow___init
 fld_arrows:∀c∈([4]:List Nat),Cls K (a.ct c)∧NoAttr K (a.ct c) "arrows"
 fld_behind:∀c∈([0,1,2,3]:List Nat),Cls K (a.ct c)∧NoAttr K (a.ct c) "behind"
 fld_goal:∀c∈([0,1,2,3]:List Nat),Cls K (a.ct c)∧NoAttr K (a.ct c) "goal"
 fld_names:∀c∈([4]:List Nat),Cls K (a.ct c)∧NoAttr K (a.ct c) "names"
 fld_start:∀c∈([0,1,2,3]:List Nat),Cls K (a.ct c)∧NoAttr K (a.ct c) "start"
 fld_time:∀c∈([0,1,2,3]:List Nat),Cls K (a.ct c)∧NoAttr K (a.ct c) "time"
 isi_Back:∀c∈([0,1,2,3,4]:List Nat),Ic K (a.ct c)∧PySem.W.kitOne K (.ref (a.ct c)) (.ref a.c_Back)=some (List.contains [3] c)
 isi_Ride:∀c∈([0,1,2,3,4]:List Nat),Ic K (a.ct c)∧PySem.W.kitOne K (.ref (a.ct c)) (.ref a.c_Ride)=some (List.contains [1] c)
 b_abs:mg "abs"=none
 b_all:mg "all"=none
 b_bool:mg "bool"=none
 b_enumerate:mg "enumerate"=none
 b_int:mg "int"=none
 b_isinstance:mg "isinstance"=none
 b_len:mg "len"=none
 b_list:mg "list"=none
 b_max:mg "max"=none
 b_min:mg "min"=none
 b_range:mg "range"=none
 b_reversed:mg "reversed"=none
 b_set:mg "set"=none
 b_str:mg "str"=none
 b_sum:mg "sum"=none
 g_MOST_ARROWS:∃t,mg "MOST_ARROWS"=some (.int 120 t)
 g_MOST_BEHIND:∃t,mg "MOST_BEHIND"=some (.int 4 t)
 g_MOST_NAMES:∃t,mg "MOST_NAMES"=some (.int 40 t)
 g_MOST_SIGNS:∃t,mg "MOST_SIGNS"=some (.int 8 t)
 g_MOST_TIME:∃t,mg "MOST_TIME"=some (.int 1000000000 t)
section
variable {P:Program} {w:World} {K:PySem.W.Frag} {mg:Str→Option Value} {base:Heap} {a:Adr} {ct:Nat→Addr}
def um:Nat→List D→Option D:=iOf ["self","start","goal","time","behind"]
  (sSeq (sFldD [0,1,2,3] "start" (eV 1))
  (sSeq (sFldD [0,1,2,3] "goal" (eV 2))
  (sSeq (sFldD [0,1,2,3] "time" (eV 3))
  (sFldD [0,1,2,3] "behind" (eV 4)))))
theorem jg (T:Txt K mg a):FnOk P w K mg base CX0 1 a.f_Arrow___init a.d_Arrow___init ["self","start","goal","time","behind"] (ISp K a.ct [0,1,2,3] [0,0,0,0] um):=by
 refine qo (ms:=[.ow 0,.ow 0,.ow 0,.ow 0]) (rk:=0) T.Arrow___init.fn zck rfl rfl (by decide) (zl (by decide)) fun x0 cdv A outer s H E hr=>?_
 exact (ze (zdg T.fld_start (za 1 0))
  (ze (zdg T.fld_goal (za 2 0))
  (ze (zdg T.fld_time (za 3 0))
  (zh (zdg T.fld_behind (za 4 0))))))
def jy:Nat→List D→Option D:=iOf ["self","start","goal","time"]
  (sInitD [0,1,2,3] (aCons (eV 1) (aCons (eV 2) (aCons (eV 3) (aCons (eC (.int 0)) aNil)))) um)
theorem zc0 (T:Txt K mg a):FnOk P w K mg base CX0 2 a.f_Ride___init a.d_Ride___init ["self","start","goal","time"] (ISp K a.ct [1] [0,0,0] jy):=by
 have G_Arrow___init:=jg (P:=P) (w:=w) (base:=base) T
 refine qo (ms:=[.ow 0,.ow 0,.ow 0]) (rk:=0) T.Ride___init.fn zcv rfl rfl (by decide) (zl (by decide)) fun x0 cdv A outer s H E hr=>?_
 exact (zh (zgk (ns:=[0,0,0,0]) G_Arrow___init (hr.mono (by decide)) T.Arrow.mgx T.q_Arrow.sp T.q_Arrow.rd T.q_Arrow.fc T.Arrow___init.fn.kp T.Arrow___init.bd (by decide) (zc (za 1 0) (zc (za 2 0) (zc (za 3 0) (zc (zf (n:=0)) zg))))))
def jz:Nat→List D→Option D:=iOf ["self","start","goal","time","behind"]
  (sInitD [0,1,2,3] (aCons (eV 1) (aCons (eV 2) (aCons (eV 3) (aCons (eV 4) aNil)))) um)
theorem zc1 (T:Txt K mg a):FnOk P w K mg base CX0 2 a.f_Wait___init a.d_Wait___init ["self","start","goal","time","behind"] (ISp K a.ct [2] [0,0,0,0] jz):=by
 have G_Arrow___init:=jg (P:=P) (w:=w) (base:=base) T
 refine qo (ms:=[.ow 0,.ow 0,.ow 0,.ow 0]) (rk:=0) T.Wait___init.fn zcw rfl rfl (by decide) (zl (by decide)) fun x0 cdv A outer s H E hr=>?_
 exact (zh (zgk (ns:=[0,0,0,0]) G_Arrow___init (hr.mono (by decide)) T.Arrow.mgx T.q_Arrow.sp T.q_Arrow.rd T.q_Arrow.fc T.Arrow___init.fn.kp T.Arrow___init.bd (by decide) (zc (za 1 0) (zc (za 2 0) (zc (za 3 0) (zc (za 4 0) zg))))))
def j4:Nat→List D→Option D:=iOf ["self","start","goal","time","behind"]
  (sInitD [0,1,2,3] (aCons (eV 1) (aCons (eV 2) (aCons (eV 3) (aCons (eV 4) aNil)))) um)
theorem zc2 (T:Txt K mg a):FnOk P w K mg base CX0 2 a.f_Back___init a.d_Back___init ["self","start","goal","time","behind"] (ISp K a.ct [3] [0,0,0,0] j4):=by
 have G_Arrow___init:=jg (P:=P) (w:=w) (base:=base) T
 refine qo (ms:=[.ow 0,.ow 0,.ow 0,.ow 0]) (rk:=0) T.Back___init.fn zcx rfl rfl (by decide) (zl (by decide)) fun x0 cdv A outer s H E hr=>?_
 exact (zh (zgk (ns:=[0,0,0,0]) G_Arrow___init (hr.mono (by decide)) T.Arrow.mgx T.q_Arrow.sp T.q_Arrow.rd T.q_Arrow.fc T.Arrow___init.fn.kp T.Arrow___init.bd (by decide) (zc (za 1 0) (zc (za 2 0) (zc (za 3 0) (zc (za 4 0) zg))))))
def zaq:List D→Option D:=mOf ["sign"]
  (sRet (eB (bAnd (tb (e2 leD (eC (.str "a")) (eV 0))) (tb (e2 leD (eV 0) (eC (.str "z")))))))
theorem zfq (T:Txt K mg a):FnOk P w K mg base CX0 1 a.f_is_letter a.d_is_letter ["sign"] (LSp K a.ct [0] 0 zaq):=by
 refine lift (ms:=[.ow 0]) T.is_letter.fn zfo rfl rfl (by decide) (zl (by decide)) fun cdv A outer s H E hr=>?_
 exact (zh (yk (XE.ow (za2 (jj (k:=0) zc8 zbe (zbp (n:=0)) (za 0 0) (nomark _)) (zah (k:=0) (jj (k:=0) zc8 zbe (za 0 0) (zbp (n:=0)) (nomark _)))))))
def zcl:List D→Option D:=mOf ["sign"]
  (sRet (eB (bAnd (tb (e2 leD (eC (.str "0")) (eV 0))) (tb (e2 leD (eV 0) (eC (.str "9")))))))
theorem zfr (T:Txt K mg a):FnOk P w K mg base CX0 1 a.f_is_figure a.d_is_figure ["sign"] (LSp K a.ct [0] 0 zcl):=by
 refine lift (ms:=[.ow 0]) T.is_figure.fn zfp rfl rfl (by decide) (zl (by decide)) fun cdv A outer s H E hr=>?_
 exact (zh (yk (XE.ow (za2 (jj (k:=0) zc8 zbe (zbp (n:=0)) (za 0 0) (nomark _)) (zah (k:=0) (jj (k:=0) zc8 zbe (za 0 0) (zbp (n:=0)) (nomark _)))))))
def zgr:EF:=(eComp (fun ρ=>((eV 0) ρ).bind asS) 1 [] (gV 0) bTrue (eB (bOr (tb (fun ρ=>((aCons (eV 0) aNil) ρ).bind fun ds=>zaq (ds++[]))) (tb (fun ρ=>((aCons (eV 0) aNil) ρ).bind fun ds=>zcl (ds++[]))))))
def zfs:List D→Option D:=mOf ["word"]
  (sSeq (sIf (bOr (bNot (tb (e1 (isiD "str") (eV 0)))) (bOr (tb (e2 ltD (eN lenD (aCons (eV 0) aNil)) (eC (.int 1)))) (tb (e2 gtD (eN lenD (aCons (eV 0) aNil)) (eC (.int 8)))))) (sRet (eC (.bl false))) sSkip)
  (sRet (eB (bAnd (tb (fun ρ=>((aCons (e2 ixD (eV 0) (eC (.int 0))) aNil) ρ).bind fun ds=>zaq (ds++[]))) (tb (eN allD (aCons zgr aNil)))))))
theorem zio (T:Txt K mg a):FnOk P w K mg base CX0 2 a.f_is_name a.d_is_name ["word"] (LSp K a.ct [0] 0 zfs):=by
 have G_is_letter:=zfq (P:=P) (w:=w) (base:=base) T
 have G_is_figure:=zfr (P:=P) (w:=w) (base:=base) T
 refine lift (ms:=[.ow 0]) T.is_name.fn zin rfl rfl (by decide) (zl (by decide)) fun cdv A outer s H E hr=>?_
 exact (ze (vw (XW.t (zcu (za1 (jd (zhh (k:=0) (by decide) T.b_isinstance T.b_str zm9 (za 0 0)))) (zcu (xh (k:=0) zdo za4 (zu (k:=0) ye xt rfl T.b_len ww (zc (za 0 0) zg)) (zf (n:=0)) (nomark _)) (zcc (xh (k:=0) zer zbr (zu (k:=0) ye xt rfl T.b_len ww (zc (za 0 0) zg)) (zch (n:=0) (d:=(.int 8)) rfl T.g_MOST_SIGNS.choose_spec rfl ⟨_,rfl⟩) (nomark _)))))) (zh (yk (XE.ow (zbu (n:=0))))) y3)
  (zh (yk (XE.ow (za2 (XO.sh (n:=0) (zj (dds:=[]) (ns:=[0]) (nd:=[]) G_is_letter (hr.mono (by decide)) rfl T.is_letter.mgx T.is_letter.fn.kp T.is_letter.bd .nil (fun _ _=>.nil) (zc (yr (n:=0) zm zq (za 0 0) (zf (n:=0)) (fun _ _=>rfl)) zg))) (zah (k:=0) (zu (k:=0) (zfk rfl) zj3 rfl T.b_all znb (zc (XO.sh (n:=0) (jv (N:=["sign"]) (om:=[.ow 0]) (cap:=[]) (own:=1) (uc (by rfl)) rfl rfl (by decide) (XI.cc (zrf (n:=0) (za 0 0))) (fun _ _ _ _ _=>(we (by decide) rfl (show List.Nodup (["sign"]:List Str) from by decide +kernel) rfl (by first | exact Or.inl rfl | exact Or.inr rfl))) (fun _ _ _ _ _=>vm) (fun _ _ _ _ _=>(XE.ow (zsh (XO.sh (n:=0) (zj (dds:=[]) (ns:=[0]) (nd:=[]) G_is_letter (hr.mono (by decide)) rfl T.is_letter.mgx T.is_letter.fn.kp T.is_letter.bd .nil (fun _ _=>.nil) (zc (za 0 0) zg))) (zah (k:=0) (XO.sh (n:=0) (zj (dds:=[]) (ns:=[0]) (nd:=[]) G_is_figure (hr.mono (by decide)) rfl T.is_figure.mgx T.is_figure.fn.kp T.is_figure.bd .nil (fun _ _=>.nil) (zc (za 0 0) zg))))))))) zg))))))))
def zeb:SF:=(sSeq (sIf (bOr (bNot (tb (fun ρ=>((aCons (eV 2) aNil) ρ).bind fun ds=>zfs (ds++[])))) (tb (fun ρ=>((eV 2) ρ).bind fun x=>((eV 1) ρ).bind fun y=>(dgetD y x).bind fun r=>some (.bl r.isSome)))) (sRet (eC (.bl false))) sSkip)
  (sPutD 1 (eV 2) (eC (.bl true))))
def j5:List D→Option D:=mOf ["names","seen","name"]
  (sSeq (sIf (bOr (bNot (tb (e1 (isiD "list") (eV 0)))) (bOr (tb (e2 ltD (eN lenD (aCons (eV 0) aNil)) (eC (.int 1)))) (tb (e2 gtD (eN lenD (aCons (eV 0) aNil)) (eC (.int 40)))))) (sRet (eC (.bl false))) sSkip)
  (sSeq (sSet 1 (eC (.dK [] [])))
  (sSeq (sFor (lsD (eV 0)) (gV 2) zeb)
  (sRet (eC (.bl true))))))
theorem zft (T:Txt K mg a):FnOk P w K mg base CX0 3 a.f_are_names a.d_are_names ["names"] (LSp K a.ct [0] 0 j5):=by
 have G_is_name:=zio (P:=P) (w:=w) (base:=base) T
 refine lift (ms:=[.ow 0,.ow 1,.ow 0]) T.are_names.fn qp rfl rfl (by decide) (zl (by decide)) fun cdv A outer s H E hr=>?_
 exact (ze (vw (XW.t (zcu (za1 (jd (zhh (k:=0) (by decide) T.b_isinstance T.b_list zca (za 0 0)))) (zcu (xh (k:=0) zdo za4 (zu (k:=0) ye xt rfl T.b_len ww (zc (za 0 0) zg)) (zf (n:=0)) (nomark _)) (zcc (xh (k:=0) zer zbr (zu (k:=0) ye xt rfl T.b_len ww (zc (za 0 0) zg)) (zch (n:=0) (d:=(.int 40)) rfl T.g_MOST_NAMES.choose_spec rfl ⟨_,rfl⟩) (nomark _)))))) (zh (yk (XE.ow (zbu (n:=0))))) y3)
  (ze (zx rfl qp.nd rfl (Or.inl rfl) zdw)
  (ze (ql (zal (za 0 0)) (wk rfl qp.nd rfl (Or.inl rfl)) (ze (vw (XW.t (zcu (za1 (jd (XO.sh (n:=0) (zj (dds:=[]) (ns:=[0]) (nd:=[]) G_is_name (hr.mono (by decide)) rfl T.is_name.mgx T.is_name.fn.kp T.is_name.bd .nil (fun _ _=>.nil) (zc (za 2 0) zg))))) (zcc (zrg (zb9 hr) (za 2 0) (za 1 1) (by with_unfolding_all rfl))))) (zh (yk (XE.ow (zbu (n:=0))))) y3)
  (zh (zgl 1 rfl (zb9 hr) (za 2 0) (zbu (n:=0))))) PassesOwn.never rfl)
  (zh (yk (XE.ow (zbu (n:=0))))))))
def yt:List D→Option D:=mOf ["number","least","most"]
  (sSeq (sIf (bOr (bNot (tb (e1 (isiD "int") (eV 0)))) (tb (e1 (isiD "bool") (eV 0)))) (sRet (eC (.bl false))) sSkip)
  (sRet (eB (bAnd (tb (e2 leD (eV 1) (eV 0))) (tb (e2 leD (eV 0) (eV 2)))))))
theorem zc3 (T:Txt K mg a):FnOk P w K mg base CX0 1 a.f_lies_within a.d_lies_within ["number","least","most"] (LSp K a.ct [0,0,0] 0 yt):=by
 refine lift (ms:=[.ow 0,.ow 0,.ow 0]) T.lies_within.fn zcy rfl rfl (by decide) (zl (by decide)) fun cdv A outer s H E hr=>?_
 exact (ze (vw (XW.t (zcu (za1 (jd (zhh (k:=0) (by decide) T.b_isinstance T.b_int zqw (za 0 0)))) (zcc (jd (zhh (k:=0) (by decide) T.b_isinstance T.b_bool zoc (za 0 0)))))) (zh (yk (XE.ow (zbu (n:=0))))) y3)
  (zh (yk (XE.ow (za2 (jj (k:=0) zc8 zbe (za 1 0) (za 0 0) (nomark _)) (zah (k:=0) (jj (k:=0) zc8 zbe (za 0 0) (za 2 0) (nomark _))))))))
def zad:List D→Option D:=mOf ["arrow","many","least","most"]
  (sSeq (sSet 2 (eIf (tb (e1 (isiC [0,1,2,3,4] [3]) (eV 0))) (eC (.int 1)) (eC (.int 0))))
  (sSeq (sSet 3 (eIf (tb (e1 (isiC [0,1,2,3,4] [1]) (eV 0))) (eC (.int 0)) (eC (.int 4))))
  (sSeq (sIf (bOr (bNot (tb (fun ρ=>((aCons (e1 (fldD [0,1,2,3] "start") (eV 0)) (aCons (eC (.int 0)) (aCons (e2 subD (eV 1) (eC (.int 1))) aNil))) ρ).bind fun ds=>yt (ds++[])))) (bNot (tb (fun ρ=>((aCons (e1 (fldD [0,1,2,3] "goal") (eV 0)) (aCons (eC (.int 0)) (aCons (e2 subD (eV 1) (eC (.int 1))) aNil))) ρ).bind fun ds=>yt (ds++[]))))) (sRet (eC (.bl false))) sSkip)
  (sRet (eB (bAnd (tb (fun ρ=>((aCons (e1 (fldD [0,1,2,3] "time") (eV 0)) (aCons (eC (.int 0)) (aCons (eC (.int 1000000000)) aNil))) ρ).bind fun ds=>yt (ds++[]))) (tb (fun ρ=>((aCons (e1 (fldD [0,1,2,3] "behind") (eV 0)) (aCons (eV 2) (aCons (eV 3) aNil))) ρ).bind fun ds=>yt (ds++[])))))))))
theorem zgs (T:Txt K mg a):FnOk P w K mg base CX0 2 a.f_is_right a.d_is_right ["arrow","many"] (LSp K a.ct [0,0] 0 zad):=by
 have G_lies_within:=zc3 (P:=P) (w:=w) (base:=base) T
 refine lift (ms:=[.ow 0,.ow 0,.ow 0,.ow 0]) T.is_right.fn zap rfl rfl (by decide) (zl (by decide)) fun cdv A outer s H E hr=>?_
 exact (ze (zx rfl zap.nd rfl (Or.inl rfl) (XE.ow (zq0 (jd (zj6 (k:=0) T.isi_Back T.b_isinstance T.Back.mgx (za 0 0))) (zf (n:=0)) (zf (n:=0)))))
  (ze (zx rfl zap.nd rfl (Or.inl rfl) (XE.ow (zq0 (jd (zj6 (k:=0) T.isi_Ride T.b_isinstance T.Ride.mgx (za 0 0))) (zf (n:=0)) (zch (n:=0) (d:=(.int 4)) rfl T.g_MOST_BEHIND.choose_spec rfl ⟨_,rfl⟩))))
  (ze (vw (XW.t (zcu (za1 (jd (XO.sh (n:=0) (zj (dds:=[]) (ns:=[0,0,0]) (nd:=[]) G_lies_within (hr.mono (by decide)) rfl T.lies_within.mgx T.lies_within.fn.kp T.lies_within.bd .nil (fun _ _=>.nil) (zc (xi (n:=0) (za 0 0) T.fld_start rfl) (zc (zf (n:=0)) (zc (zw (k:=0) zc5 zbd (za 1 0) (zf (n:=0))) zg))))))) (zcc (za1 (jd (XO.sh (n:=0) (zj (dds:=[]) (ns:=[0,0,0]) (nd:=[]) G_lies_within (hr.mono (by decide)) rfl T.lies_within.mgx T.lies_within.fn.kp T.lies_within.bd .nil (fun _ _=>.nil) (zc (xi (n:=0) (za 0 0) T.fld_goal rfl) (zc (zf (n:=0)) (zc (zw (k:=0) zc5 zbd (za 1 0) (zf (n:=0))) zg)))))))))) (zh (yk (XE.ow (zbu (n:=0))))) y3)
  (zh (yk (XE.ow (za2 (XO.sh (n:=0) (zj (dds:=[]) (ns:=[0,0,0]) (nd:=[]) G_lies_within (hr.mono (by decide)) rfl T.lies_within.mgx T.lies_within.fn.kp T.lies_within.bd .nil (fun _ _=>.nil) (zc (xi (n:=0) (za 0 0) T.fld_time rfl) (zc (zf (n:=0)) (zc (zch (n:=0) (d:=(.int 1000000000)) rfl T.g_MOST_TIME.choose_spec rfl ⟨_,rfl⟩) zg))))) (zah (k:=0) (XO.sh (n:=0) (zj (dds:=[]) (ns:=[0,0,0]) (nd:=[]) G_lies_within (hr.mono (by decide)) rfl T.lies_within.mgx T.lies_within.fn.kp T.lies_within.bd .nil (fun _ _=>.nil) (zc (xi (n:=0) (za 0 0) T.fld_behind rfl) (zc (za 2 0) (zc (za 3 0) zg)))))))))))))
def wy:SF:=(sIf (tb (e2 (eqD false) (e1 (fldD [0,1,2,3] "start") (eV 4)) (eV 7))) (sSeq (sAugL 3 (e1 (fldD [0,1,2,3] "goal") (eV 4)) (fun i j=>i-j) (eC (.int 1)))
  (sIf (tb (e2 (eqD false) (e2 ixD (eV 3) (e1 (fldD [0,1,2,3] "goal") (eV 4))) (eC (.int 0)))) (sApp 5 (e1 (fldD [0,1,2,3] "goal") (eV 4))) sSkip)) sSkip)
def uh:SF:=(sSeq (sSet 7 (e2 ixD (eV 5) (eV 6)))
  (sSeq (sFor (lsD (eV 2)) (gV 4) wy)
  (sAug 6 (i2 fun i j=>.int (i+j)) (eC (.int 1)))))
def jr:EF:=(eComp (fun ρ=>((aCons (eV 0) aNil) ρ).bind rng1) 1 [3] (gV 0) (tb (e2 (eqD false) (e2 ixD (eV 1) (eV 0)) (eC (.int 0)))) (eV 0))
def ui:SF:=(sAugL 3 (e1 (fldD [0,1,2,3] "goal") (eV 4)) (fun i j=>i+j) (eC (.int 1)))
def jt:EF:=(eComp (lsD (eV 1)) 1 [] (gV 0) (tb (e2 (eqD false) (e1 (fldD [0,1,2,3] "behind") (eV 0)) (eC (.int 0)))) (eV 0))
def vh:List D→Option D:=mOf ["many","arrows","within","waited","arrow","placed","done","here"]
  (sSeq (sSet 2 jt)
  (sSeq (sSet 3 (e2 repD (fun ρ=>((aCons (eC (.int 0)) aNil) ρ).bind fun ds=>some (.lst ds)) (eV 0)))
  (sSeq (sFor (lsD (eV 2)) (gV 4) ui)
  (sSeq (sSet 5 jr)
  (sSeq (sSet 6 (eC (.int 0)))
  (sSeq (sWhile (tb (e2 ltD (eV 6) (eN lenD (aCons (eV 5) aNil)))) uh)
  (sRet (eV 5))))))))
theorem zbw (T:Txt K mg a):FnOk P w K mg base CX0 1 a.f_placed_goings a.d_placed_goings ["many","arrows"] (LSp K a.ct [0,0] 0 vh):=by
 refine lift (ms:=[.ow 0,.ow 0,.ow 0,.ow 1,.ow 0,.ow 1,.ow 0,.ow 0]) T.placed_goings.fn yz rfl rfl (by decide) (zl (by decide)) fun cdv A outer s H E hr=>?_
 exact (ze (vd (k:=0) (N:=["arrow"]) (om:=[.ow 0]) (cap:=[]) (own:=1) rfl yz.nd rfl (Or.inl rfl) (uc (by rfl)) rfl rfl (by decide) (vo (n:=0) (za 1 0)) (fun _ _ _ _ _=>(we (by decide) rfl (show List.Nodup (["arrow"]:List Str) from by decide +kernel) rfl (by first | exact Or.inl rfl | exact Or.inr rfl))) (fun _ _ _ _ _=>(zgg (xh (k:=0) (v5 hr.u64) w8 (xi (n:=0) (za 0 0) T.fld_behind rfl) (zf (n:=0)) (nomark _)))) (fun _ _ _ _ _=>(XE.ow (za 0 0))))
  (ze (zx rfl yz.nd rfl (Or.inr rfl) (zne (jp (k:=0) (yp (XE.ow (zf (n:=0))) wu)) (za 0 0)))
  (ze (ql (zal (za 2 0)) (wk rfl yz.nd rfl (Or.inl rfl)) (zh (zj5 3 zm2 rfl (xi (n:=0) (za 4 0) T.fld_goal rfl) (zf (n:=0)))) PassesOwn.never rfl)
  (ze (vd (k:=1) (N:=["going","waited"]) (om:=[.ow 0]) (cap:=[3]) (own:=1) rfl yz.nd rfl (Or.inl rfl) (uc (by rfl)) rfl rfl (by decide) (XI.cc (ua (n:=0) T.b_range (zc (za 0 0) zg))) (fun _ _ _ _ _=>(we (by decide) rfl (show List.Nodup (["going","waited"]:List Str) from by decide +kernel) rfl (by first | exact Or.inl rfl | exact Or.inr rfl))) (fun _ _ _ _ _=>(zgg (xh (k:=0) (v5 hr.u64) w8 (yr (n:=1) zm zq (za 1 1) (za 0 0) (fun _ _=>rfl)) (zf (n:=0)) (nomark _)))) (fun _ _ _ _ _=>(XE.ow (za 0 0))))
  (ze (zx rfl yz.nd rfl (Or.inl rfl) (XE.ow (zf (n:=0))))
  (ze (za3 (xh (k:=0) zdo za4 (za 6 0) (zu (k:=0) ye xt rfl T.b_len ww (zc (za 5 1) zg)) (nomark _)) (ze (zx rfl yz.nd rfl (Or.inl rfl) (XE.ow (yr (n:=1) zm zq (za 5 1) (za 6 0) (fun _ _=>rfl))))
  (ze (ql (zal (za 2 0)) (wk rfl yz.nd rfl (Or.inl rfl)) (zh (vw (xh (k:=0) (v5 hr.u64) w8 (xi (n:=0) (za 4 0) T.fld_start rfl) (za 7 0) (nomark _)) (ze (zj5 3 zqe rfl (xi (n:=0) (za 4 0) T.fld_goal rfl) (zf (n:=0)))
  (zh (vw (xh (k:=0) (v5 hr.u64) w8 (yr (n:=1) zm zq (za 3 1) (xi (n:=0) (za 4 0) T.fld_goal rfl) (fun _ _=>rfl)) (zf (n:=0)) (nomark _)) (zh (zcf 5 rfl (XE.ow (xi (n:=0) (za 4 0) T.fld_goal rfl)))) y3))) y3)) PassesOwn.never rfl)
  (zh (zq7 zm2 rfl yz.nd rfl (Or.inl rfl) (zf (n:=0)))))) PassesOwn.never)
  (zh (zka (i:=5) rfl))))))))
def ud:SF:=(sSeq (sPutD 4 (eV 3) (eN lenD (aCons (eV 5) aNil)))
  (sSeq (sApp 5 (fun ρ=>((eV 1) ρ).bind fun x=>((eV 3) ρ).bind fun y=>(dgetD x y).join))
  (sSet 3 (e1 (fldD [0,1,2,3] "start") (e2 ixD (eV 0) (fun ρ=>((eV 1) ρ).bind fun x=>((eV 3) ρ).bind fun y=>(dgetD x y).join))))))
def vq:List D→Option D:=mOf ["arrows","chosen","going","here","seen","way"]
  (sSeq (sSet 3 (eV 2))
  (sSeq (sSet 4 (eC (.dK [] [])))
  (sSeq (sSet 5 (fun ρ=>(aNil ρ).bind fun ds=>some (.lst ds)))
  (sSeq (sWhile (tb (fun ρ=>((eV 3) ρ).bind fun x=>((eV 4) ρ).bind fun y=>(dgetD y x).bind fun r=>some (.bl (!r.isSome)))) ud)
  (sRet (e1 lrevD (fun ρ=>((eV 5) ρ).bind fun d=>((pInt (fun ρ=>((eV 4) ρ).bind fun x=>((eV 3) ρ).bind fun y=>(dgetD x y).join)) ρ).bind fun l=>(pNo ρ).bind fun h=>sliceD d l h)))))))
theorem zbj (T:Txt K mg a):FnOk P w K mg base CX0 1 a.f_ring_back_from a.d_ring_back_from ["arrows","chosen","going"] (LSp K a.ct [0,0,0] 1 vq):=by
 refine lift (ms:=[.ow 0,.ow 0,.ow 0,.ow 0,.ow 1,.ow 1]) T.ring_back_from.fn wx rfl rfl (by decide) (zl (by decide)) fun cdv A outer s H E hr=>?_
 exact (ze (zx rfl wx.nd rfl (Or.inl rfl) (XE.ow (za 2 0)))
  (ze (zx rfl wx.nd rfl (Or.inl rfl) zdw)
  (ze (zx rfl wx.nd rfl (Or.inl rfl) (jp (k:=0) wu))
  (ze (za3 (zfn (zb9 hr) (za 3 0) (za 4 1) (by with_unfolding_all rfl)) (ze (zgl 4 rfl (zb9 hr) (za 3 0) (zu (k:=0) ye xt rfl T.b_len ww (zc (za 5 1) zg)))
  (ze (zcf 5 rfl (XE.ow (zhc (zb9 hr) (za 1 0) (za 3 0) (fun _ _=>rfl))))
  (zh (zx rfl wx.nd rfl (Or.inl rfl) (XE.ow (xi (n:=0) (yr (n:=0) zm zq (za 0 0) (zhc (zb9 hr) (za 1 0) (za 3 0) (fun _ _=>rfl)) (fun _ _=>rfl)) T.fld_start rfl)))))) PassesOwn.never)
  (zh (yk (zo4 (n:=0) (by decide) rfl rfl T.b_list rfl T.b_reversed (XO.sh (n:=0) (jw (n:=1) (by decide) (za 5 1) (jl (zhc (zb9 hr) (za 4 1) (za 3 0) (fun _ _=>rfl))) zll)))))))))
def jm:SF:=(sIf (bNot (tb (fun ρ=>((aCons (eV 4) (aCons (eN lenD (aCons (eV 1) aNil)) aNil)) ρ).bind fun ds=>zad (ds++[])))) sNever sSkip)
def jk:Nat→List D→Option D:=iOf ["self","names","arrows","number","arrow","placed"]
  (sSeq (sIf (bOr (bNot (tb (fun ρ=>((aCons (eV 1) aNil) ρ).bind fun ds=>j5 (ds++[])))) (tb (e2 gtD (eN lenD (aCons (eV 2) aNil)) (eC (.int 120))))) sNever sSkip)
  (sSeq (sFor (fun ρ=>((aCons (eV 2) aNil) ρ).bind fun ds=>match ds with | [.lst xs]=>some (enumD 0 xs) | _=>none) (gT (gsCons (gV 3) (gsCons (gV 4) gsNil))) jm)
  (sSeq (sSet 5 (fun ρ=>((aCons (eN lenD (aCons (eV 1) aNil)) (aCons (eV 2) aNil)) ρ).bind fun ds=>vh (ds++[])))
  (sSeq (sIf (tb (e2 ltD (eN lenD (aCons (eV 5) aNil)) (eN lenD (aCons (eV 1) aNil)))) sNever sSkip)
  (sSeq (sFldD [4] "names" (eN listD (aCons (eV 1) aNil)))
  (sFldD [4] "arrows" (eN listD (aCons (eV 2) aNil))))))))
theorem zec (T:Txt K mg a):FnOk P w K mg base CX0 4 a.f_Net___init a.d_Net___init ["self","names","arrows"] (ISp K a.ct [4] [0,0] jk):=by
 have G_are_names:=zft (P:=P) (w:=w) (base:=base) T
 have G_is_right:=zgs (P:=P) (w:=w) (base:=base) T
 have G_placed_goings:=zbw (P:=P) (w:=w) (base:=base) T
 refine qo (ms:=[.ow 0,.ow 0,.ow 0,.ow 0,.ow 0]) (rk:=0) T.Net___init.fn u5 rfl rfl (by decide) (zl (by decide)) fun x0 cdv A outer s H E hr=>?_
 exact (ze (vw (XW.t (zcu (za1 (jd (XO.sh (n:=0) (zj (dds:=[]) (ns:=[0]) (nd:=[]) G_are_names (hr.mono (by decide)) rfl T.are_names.mgx T.are_names.fn.kp T.are_names.bd .nil (fun _ _=>.nil) (zc (za 1 0) zg))))) (zcc (xh (k:=0) zer zbr (zu (k:=0) ye xt rfl T.b_len ww (zc (za 2 0) zg)) (zch (n:=0) (d:=(.int 120)) rfl T.g_MOST_ARROWS.choose_spec rfl ⟨_,rfl⟩) (nomark _))))) (zh zdx) y3)
  (ze (ql (zoj T.b_enumerate (zc (za 2 0) zg)) (zfb (n:=1) rfl (ve (wk rfl u5.nd rfl (Or.inl rfl)) (ve (wk rfl u5.nd rfl (Or.inl rfl)) zcd))) (zh (vw (za1 (jd (XO.sh (n:=0) (zj (dds:=[]) (ns:=[0,0]) (nd:=[]) G_is_right (hr.mono (by decide)) rfl T.is_right.mgx T.is_right.fn.kp T.is_right.bd .nil (fun _ _=>.nil) (zc (za 4 0) (zc (zu (k:=0) ye xt rfl T.b_len ww (zc (za 1 0) zg)) zg)))))) (zh zdx) y3)) PassesOwn.never rfl)
  (ze (zx rfl u5.nd rfl (Or.inl rfl) (zj (dds:=[]) (ns:=[0,0]) (nd:=[]) G_placed_goings (hr.mono (by decide)) rfl T.placed_goings.mgx T.placed_goings.fn.kp T.placed_goings.bd .nil (fun _ _=>.nil) (zc (zu (k:=0) ye xt rfl T.b_len ww (zc (za 1 0) zg)) (zc (za 2 0) zg))))
  (ze (vw (xh (k:=0) zdo za4 (zu (k:=0) ye xt rfl T.b_len ww (zc (za 5 0) zg)) (zu (k:=0) ye xt rfl T.b_len ww (zc (za 1 0) zg)) (nomark _)) (zh zdx) y3)
  (ze (zdg T.fld_names (XO.sh (n:=0) (zfa zbl (zhg (n:=0) (by decide)) rfl T.b_list zca (zc (za 1 0) zg))))
  (zh (zdg T.fld_arrows (XO.sh (n:=0) (zfa zbl (zhg (n:=0) (by decide)) rfl T.b_list zca (zc (za 2 0) zg))))))))))
def ue:SF:=(sSeq (sSet 2 (e2 modD (eV 0) (eV 1)))
  (sSeq (sSet 0 (eV 1))
  (sSet 1 (eV 2))))
def vt:List D→Option D:=mOf ["one","other","rest"]
  (sSeq (sWhile (tb (e2 (eqD true) (eV 1) (eC (.int 0)))) ue)
  (sRet (eN absD (aCons (eV 0) aNil))))
theorem zbk (T:Txt K mg a):FnOk P w K mg base CX0 1 a.f_common_divisor a.d_common_divisor ["one","other"] (LSp K a.ct [0,0] 0 vt):=by
 refine lift (ms:=[.ow 0,.ow 0,.ow 0]) T.common_divisor.fn vk rfl rfl (by decide) (zl (by decide)) fun cdv A outer s H E hr=>?_
 exact (ze (za3 (xh (k:=0) (ze7 hr.u64) w8 (za 1 0) (zf (n:=0)) (nomark _)) (ze (zx rfl vk.nd rfl (Or.inl rfl) (XE.ow (zw (k:=0) ym yn (za 0 0) (za 1 0))))
  (ze (zx rfl vk.nd rfl (Or.inl rfl) (XE.ow (za 1 0)))
  (zh (zx rfl vk.nd rfl (Or.inl rfl) (XE.ow (za 2 0)))))) PassesOwn.never)
  (zh (yk (XE.ow (zu (k:=0) zdp zgh rfl T.b_abs zjk (zc (za 0 0) zg))))))
def zar:List D→Option D:=mOf ["top","bottom","divisor"]
  (sSeq (sSet 2 (fun ρ=>((aCons (eV 0) (aCons (eV 1) aNil)) ρ).bind fun ds=>vt (ds++[])))
  (sSeq (sIf (tb (e2 ltD (eV 1) (eC (.int 0)))) (sSet 2 (e1 negD (eV 2))) sSkip)
  (sRet (fun ρ=>((aCons (e2 fdivD (eV 0) (eV 2)) (aCons (e2 fdivD (eV 1) (eV 2)) aNil)) ρ).bind fun ds=>some (.tup ds)))))
theorem zb3 (T:Txt K mg a):FnOk P w K mg base CX0 2 a.f_ratio a.d_ratio ["top","bottom"] (LSp K a.ct [0,0] 0 zar):=by
 have G_common_divisor:=zbk (P:=P) (w:=w) (base:=base) T
 refine lift (ms:=[.ow 0,.ow 0,.ow 0]) T.ratio.fn zd9 rfl rfl (by decide) (zl (by decide)) fun cdv A outer s H E hr=>?_
 exact (ze (zx rfl zd9.nd rfl (Or.inl rfl) (zj (dds:=[]) (ns:=[0,0]) (nd:=[]) G_common_divisor (hr.mono (by decide)) rfl T.common_divisor.mgx T.common_divisor.fn.kp T.common_divisor.bd .nil (fun _ _=>.nil) (zc (za 0 0) (zc (za 1 0) zg))))
  (ze (vw (xh (k:=0) zdo za4 (za 1 0) (zf (n:=0)) (nomark _)) (zh (zx rfl zd9.nd rfl (Or.inl rfl) (XE.ow (zcg (k:=0) (za 2 0))))) y3)
  (zh (yk (XE.ow (XO.sh (n:=0) (zbq (yp (XE.ow (zw (k:=0) xn xo (za 0 0) (za 2 0))) (yp (XE.ow (zw (k:=0) xn xo (za 1 0) (za 2 0))) wu)))))))))
def za6:List D→Option D:=mOf ["one","whole"]
  (sRet (fun ρ=>((aCons (e2 mulI (e2 ixD (eV 0) (eC (.int 0))) (eV 1)) (aCons (e2 ixD (eV 0) (eC (.int 1))) aNil)) ρ).bind fun ds=>zar (ds++[])))
theorem zfu (T:Txt K mg a):FnOk P w K mg base CX0 3 a.f_scaled a.d_scaled ["one","whole"] (LSp K a.ct [0,0] 0 za6):=by
 have G_ratio:=zb3 (P:=P) (w:=w) (base:=base) T
 refine lift (ms:=[.ow 0,.ow 0]) T.scaled.fn zki rfl rfl (by decide) (zl (by decide)) fun cdv A outer s H E hr=>?_
 exact (zh (yk (zj (dds:=[]) (ns:=[0,0]) (nd:=[]) G_ratio (hr.mono (by decide)) rfl T.ratio.mgx T.ratio.fn.kp T.ratio.bd .nil (fun _ _=>.nil) (zc (zw (k:=0) wj xg (yr (n:=0) zm zq (za 0 0) (zf (n:=0)) (fun _ _=>rfl)) (za 1 0)) (zc (yr (n:=0) zm zq (za 0 0) (zf (n:=0)) (fun _ _=>rfl)) zg)))))
def zfv:List D→Option D:=mOf ["one","other"]
  (sRet (fun ρ=>((aCons (e2 addD (e2 mulI (e2 ixD (eV 0) (eC (.int 0))) (e2 ixD (eV 1) (eC (.int 1)))) (e2 mulI (e2 ixD (eV 1) (eC (.int 0))) (e2 ixD (eV 0) (eC (.int 1))))) (aCons (e2 mulI (e2 ixD (eV 0) (eC (.int 1))) (e2 ixD (eV 1) (eC (.int 1)))) aNil)) ρ).bind fun ds=>zar (ds++[])))
theorem zkj (T:Txt K mg a):FnOk P w K mg base CX0 3 a.f_plus a.d_plus ["one","other"] (LSp K a.ct [0,0] 0 zfv):=by
 have G_ratio:=zb3 (P:=P) (w:=w) (base:=base) T
 refine lift (ms:=[.ow 0,.ow 0]) T.plus.fn zo9 rfl rfl (by decide) (zl (by decide)) fun cdv A outer s H E hr=>?_
 exact (zh (yk (zj (dds:=[]) (ns:=[0,0]) (nd:=[]) G_ratio (hr.mono (by decide)) rfl T.ratio.mgx T.ratio.fn.kp T.ratio.bd .nil (fun _ _=>.nil) (zc (XO.sh (n:=0) (v9 xc (xf (n:=0) (m:=0) (by decide) (by decide)) (zw (k:=0) wj xg (yr (n:=0) zm zq (za 0 0) (zf (n:=0)) (fun _ _=>rfl)) (yr (n:=0) zm zq (za 1 0) (zf (n:=0)) (fun _ _=>rfl))) (zw (k:=0) wj xg (yr (n:=0) zm zq (za 1 0) (zf (n:=0)) (fun _ _=>rfl)) (yr (n:=0) zm zq (za 0 0) (zf (n:=0)) (fun _ _=>rfl))))) (zc (zw (k:=0) wj xg (yr (n:=0) zm zq (za 0 0) (zf (n:=0)) (fun _ _=>rfl)) (yr (n:=0) zm zq (za 1 0) (zf (n:=0)) (fun _ _=>rfl))) zg)))))
def zed:List D→Option D:=mOf ["one","other"]
  (sRet (fun ρ=>((aCons (eV 0) (aCons (fun ρ=>((aCons (eV 1) (aCons (e1 negD (eC (.int 1))) aNil)) ρ).bind fun ds=>za6 (ds++[])) aNil)) ρ).bind fun ds=>zfv (ds++[])))
theorem zmg (T:Txt K mg a):FnOk P w K mg base CX0 4 a.f_minus a.d_minus ["one","other"] (LSp K a.ct [0,0] 0 zed):=by
 have G_plus:=zkj (P:=P) (w:=w) (base:=base) T
 have G_scaled:=zfu (P:=P) (w:=w) (base:=base) T
 refine lift (ms:=[.ow 0,.ow 0]) T.minus.fn zmd rfl rfl (by decide) (zl (by decide)) fun cdv A outer s H E hr=>?_
 exact (zh (yk (zj (dds:=[]) (ns:=[0,0]) (nd:=[]) G_plus (hr.mono (by decide)) rfl T.plus.mgx T.plus.fn.kp T.plus.bd .nil (fun _ _=>.nil) (zc (za 0 0) (zc (XO.sh (n:=0) (zj (dds:=[]) (ns:=[0,0]) (nd:=[]) G_scaled (hr.mono (by decide)) rfl T.scaled.mgx T.scaled.fn.kp T.scaled.bd .nil (fun _ _=>.nil) (zc (za 1 0) (zc (zcg (k:=0) (zf (n:=0))) zg)))) zg)))))
def zee:List D→Option D:=mOf ["one","other"]
  (sRet (e2 ltD (e2 mulI (e2 ixD (eV 0) (eC (.int 0))) (e2 ixD (eV 1) (eC (.int 1)))) (e2 mulI (e2 ixD (eV 1) (eC (.int 0))) (e2 ixD (eV 0) (eC (.int 1))))))
theorem zmh (T:Txt K mg a):FnOk P w K mg base CX0 1 a.f_under a.d_under ["one","other"] (LSp K a.ct [0,0] 0 zee):=by
 refine lift (ms:=[.ow 0,.ow 0]) T.under.fn zme rfl rfl (by decide) (zl (by decide)) fun cdv A outer s H E hr=>?_
 exact (zh (yk (XE.ow (jj (k:=0) zdo za4 (zw (k:=0) wj xg (yr (n:=0) zm zq (za 0 0) (zf (n:=0)) (fun _ _=>rfl)) (yr (n:=0) zm zq (za 1 0) (zf (n:=0)) (fun _ _=>rfl))) (zw (k:=0) wj xg (yr (n:=0) zm zq (za 1 0) (zf (n:=0)) (fun _ _=>rfl)) (yr (n:=0) zm zq (za 0 0) (zf (n:=0)) (fun _ _=>rfl))) (nomark _)))))
def zcm:EF:=(eComp (lsD (eV 1)) 1 [0] (gV 0) bTrue (e1 (fldD [0,1,2,3] "goal") (e2 ixD (e1 (fldD [4] "arrows") (eV 1)) (eV 0))))
def zcn:EF:=(eComp (lsD (eV 1)) 1 [0] (gV 0) bTrue (e1 (fldD [0,1,2,3] "start") (e2 ixD (e1 (fldD [4] "arrows") (eV 1)) (eV 0))))
def jh:List D→Option D:=mOf ["net","ring","starts","goals"]
  (sSeq (sIf (bOr (tb (e2 (eqD false) (eN lenD (aCons (eV 1) aNil)) (eC (.int 0)))) (bOr (tb (e2 ltD (eN minD (aCons (eV 1) aNil)) (eC (.int 0)))) (tb (e2 geD (eN maxD (aCons (eV 1) aNil)) (eN lenD (aCons (e1 (fldD [4] "arrows") (eV 0)) aNil)))))) (sRet (eC (.bl false))) sSkip)
  (sSeq (sSet 2 zcn)
  (sSeq (sSet 3 zcm)
  (sRet (eB (bAnd (tb (e2 (eqD false) (eV 2) (e2 addD (fun ρ=>((eV 3) ρ).bind fun d=>((pInt (e1 negD (eC (.int 1)))) ρ).bind fun l=>(pNo ρ).bind fun h=>sliceD d l h) (fun ρ=>((eV 3) ρ).bind fun d=>(pNo ρ).bind fun l=>((pInt (e1 negD (eC (.int 1)))) ρ).bind fun h=>sliceD d l h)))) (tb (e2 (eqD false) (e1 lenSetD (eV 3)) (eN lenD (aCons (eV 3) aNil))))))))))
theorem ziq (T:Txt K mg a):FnOk P w K mg base CX0 1 a.f_is_ring a.d_is_ring ["net","ring"] (LSp K a.ct [0,0] 0 jh):=by
 refine lift (ms:=[.ow 0,.ow 0,.ow 0,.ow 0]) T.is_ring.fn zbi rfl rfl (by decide) (zl (by decide)) fun cdv A outer s H E hr=>?_
 exact (ze (vw (XW.t (zcu (xh (k:=0) (v5 hr.u64) w8 (zu (k:=0) ye xt rfl T.b_len ww (zc (za 1 0) zg)) (zf (n:=0)) (nomark _)) (zcu (xh (k:=0) zdo za4 (zu (k:=0) (zj2 rfl) zow rfl T.b_min zqy (zc (za 1 0) zg)) (zf (n:=0)) (nomark _)) (zcc (xh (k:=0) znu zjt (zu (k:=0) (zj1 rfl) zov rfl T.b_max zna (zc (za 1 0) zg)) (zu (k:=0) ye xt rfl T.b_len ww (zc (xi (n:=0) (za 0 0) T.fld_arrows rfl) zg)) (nomark _)))))) (zh (yk (XE.ow (zbu (n:=0))))) y3)
  (ze (vd (k:=0) (N:=["number","net"]) (om:=[.ow 0]) (cap:=[0]) (own:=1) rfl zbi.nd rfl (Or.inl rfl) (uc (by rfl)) rfl rfl (by decide) (vo (n:=0) (za 1 0)) (fun _ _ _ _ _=>(we (by decide) rfl (show List.Nodup (["number","net"]:List Str) from by decide +kernel) rfl (by first | exact Or.inl rfl | exact Or.inr rfl))) (fun _ _ _ _ _=>vm) (fun _ _ _ _ _=>(XE.ow (xi (n:=0) (yr (n:=0) zm zq (xi (n:=0) (za 1 0) T.fld_arrows rfl) (za 0 0) (fun _ _=>rfl)) T.fld_start rfl))))
  (ze (vd (k:=0) (N:=["number","net"]) (om:=[.ow 0]) (cap:=[0]) (own:=1) rfl zbi.nd rfl (Or.inl rfl) (uc (by rfl)) rfl rfl (by decide) (vo (n:=0) (za 1 0)) (fun _ _ _ _ _=>(we (by decide) rfl (show List.Nodup (["number","net"]:List Str) from by decide +kernel) rfl (by first | exact Or.inl rfl | exact Or.inr rfl))) (fun _ _ _ _ _=>vm) (fun _ _ _ _ _=>(XE.ow (xi (n:=0) (yr (n:=0) zm zq (xi (n:=0) (za 1 0) T.fld_arrows rfl) (za 0 0) (fun _ _=>rfl)) T.fld_goal rfl))))
  (zh (yk (XE.ow (za2 (jj (k:=0) (v5 hr.u64) w8 (za 2 0) (XO.sh (n:=0) (v9 xc (xf (n:=0) (m:=0) (by decide) (by decide)) (XO.sh (n:=0) (jw (n:=0) (by decide) (za 3 0) (jl (zcg (k:=0) (zf (n:=0)))) zll)) (XO.sh (n:=0) (jw (n:=0) (by decide) (za 3 0) zll (jl (zcg (k:=0) (zf (n:=0)))))))) (nomark _)) (zah (k:=0) (jj (k:=0) (v5 hr.u64) w8 (zke (k:=0) rfl rfl T.b_len rfl T.b_set (za 3 0)) (zu (k:=0) ye xt rfl T.b_len ww (zc (za 3 0) zg)) (nomark _))))))))))
def zef:EF:=(eComp (lsD (eV 1)) 1 [0] (gV 0) bTrue (e1 (fldD [0,1,2,3] "behind") (e2 ixD (e1 (fldD [4] "arrows") (eV 1)) (eV 0))))
def zeg:EF:=(eComp (lsD (eV 1)) 1 [0] (gV 0) bTrue (e1 (fldD [0,1,2,3] "time") (e2 ixD (e1 (fldD [4] "arrows") (eV 1)) (eV 0))))
def zhp:List D→Option D:=mOf ["net","ring","times","behinds"]
  (sSeq (sSet 2 (eN sumD (aCons zeg aNil)))
  (sSeq (sSet 3 (eN sumD (aCons zef aNil)))
  (sRet (fun ρ=>((aCons (eV 2) (aCons (eV 3) aNil)) ρ).bind fun ds=>zar (ds++[])))))
theorem zpb (T:Txt K mg a):FnOk P w K mg base CX0 3 a.f_mean a.d_mean ["net","ring"] (LSp K a.ct [0,0] 0 zhp):=by
 have G_ratio:=zb3 (P:=P) (w:=w) (base:=base) T
 refine lift (ms:=[.ow 0,.ow 0,.ow 0,.ow 0]) T.mean.fn zgo rfl rfl (by decide) (zl (by decide)) fun cdv A outer s H E hr=>?_
 exact (ze (zx rfl zgo.nd rfl (Or.inl rfl) (XE.ow (zu (k:=0) (za5 rfl) zd4 rfl T.b_sum zg8 (zc (XO.sh (n:=0) (jv (N:=["number","net"]) (om:=[.ow 0]) (cap:=[0]) (own:=1) (uc (by rfl)) rfl rfl (by decide) (vo (n:=0) (za 1 0)) (fun _ _ _ _ _=>(we (by decide) rfl (show List.Nodup (["number","net"]:List Str) from by decide +kernel) rfl (by first | exact Or.inl rfl | exact Or.inr rfl))) (fun _ _ _ _ _=>vm) (fun _ _ _ _ _=>(XE.ow (xi (n:=0) (yr (n:=0) zm zq (xi (n:=0) (za 1 0) T.fld_arrows rfl) (za 0 0) (fun _ _=>rfl)) T.fld_time rfl))))) zg))))
  (ze (zx rfl zgo.nd rfl (Or.inl rfl) (XE.ow (zu (k:=0) (za5 rfl) zd4 rfl T.b_sum zg8 (zc (XO.sh (n:=0) (jv (N:=["number","net"]) (om:=[.ow 0]) (cap:=[0]) (own:=1) (uc (by rfl)) rfl rfl (by decide) (vo (n:=0) (za 1 0)) (fun _ _ _ _ _=>(we (by decide) rfl (show List.Nodup (["number","net"]:List Str) from by decide +kernel) rfl (by first | exact Or.inl rfl | exact Or.inr rfl))) (fun _ _ _ _ _=>vm) (fun _ _ _ _ _=>(XE.ow (xi (n:=0) (yr (n:=0) zm zq (xi (n:=0) (za 1 0) T.fld_arrows rfl) (za 0 0) (fun _ _=>rfl)) T.fld_behind rfl))))) zg))))
  (zh (yk (zj (dds:=[]) (ns:=[0,0]) (nd:=[]) G_ratio (hr.mono (by decide)) rfl T.ratio.mgx T.ratio.fn.kp T.ratio.bd .nil (fun _ _=>.nil) (zc (za 2 0) (zc (za 3 0) zg)))))))
def za7:List D→Option D:=mOf ["arrow","pace","times","earliest"]
  (sSeq (sSet 3 (fun ρ=>((aCons (fun ρ=>((aCons (e2 ixD (eV 2) (e1 (fldD [0,1,2,3] "start") (eV 0))) (aCons (fun ρ=>((aCons (e1 (fldD [0,1,2,3] "time") (eV 0)) (aCons (eC (.int 1)) aNil)) ρ).bind fun ds=>some (.tup ds)) aNil)) ρ).bind fun ds=>zfv (ds++[])) (aCons (fun ρ=>((aCons (eV 1) (aCons (e1 (fldD [0,1,2,3] "behind") (eV 0)) aNil)) ρ).bind fun ds=>za6 (ds++[])) aNil)) ρ).bind fun ds=>zed (ds++[])))
  (sRet (eB (bNot (tb (fun ρ=>((aCons (e2 ixD (eV 2) (e1 (fldD [0,1,2,3] "goal") (eV 0))) (aCons (eV 3) aNil)) ρ).bind fun ds=>zee (ds++[])))))))
theorem zir (T:Txt K mg a):FnOk P w K mg base CX0 5 a.f_is_kept a.d_is_kept ["arrow","pace","times"] (LSp K a.ct [0,0,0] 0 za7):=by
 have G_minus:=zmg (P:=P) (w:=w) (base:=base) T
 have G_plus:=zkj (P:=P) (w:=w) (base:=base) T
 have G_scaled:=zfu (P:=P) (w:=w) (base:=base) T
 have G_under:=zmh (P:=P) (w:=w) (base:=base) T
 refine lift (ms:=[.ow 0,.ow 0,.ow 0,.ow 0]) T.is_kept.fn zdi rfl rfl (by decide) (zl (by decide)) fun cdv A outer s H E hr=>?_
 exact (ze (zx rfl zdi.nd rfl (Or.inl rfl) (zj (dds:=[]) (ns:=[0,0]) (nd:=[]) G_minus (hr.mono (by decide)) rfl T.minus.mgx T.minus.fn.kp T.minus.bd .nil (fun _ _=>.nil) (zc (XO.sh (n:=0) (zj (dds:=[]) (ns:=[0,0]) (nd:=[]) G_plus (hr.mono (by decide)) rfl T.plus.mgx T.plus.fn.kp T.plus.bd .nil (fun _ _=>.nil) (zc (yr (n:=0) zm zq (za 2 0) (xi (n:=0) (za 0 0) T.fld_start rfl) (fun _ _=>rfl)) (zc (XO.sh (n:=0) (zbq (yp (XE.ow (xi (n:=0) (za 0 0) T.fld_time rfl)) (yp (XE.ow (zf (n:=0))) wu)))) zg)))) (zc (XO.sh (n:=0) (zj (dds:=[]) (ns:=[0,0]) (nd:=[]) G_scaled (hr.mono (by decide)) rfl T.scaled.mgx T.scaled.fn.kp T.scaled.bd .nil (fun _ _=>.nil) (zc (za 1 0) (zc (xi (n:=0) (za 0 0) T.fld_behind rfl) zg)))) zg))))
  (zh (yk (XE.ow (zqz (k:=0) (XO.sh (n:=0) (zj (dds:=[]) (ns:=[0,0]) (nd:=[]) G_under (hr.mono (by decide)) rfl T.under.mgx T.under.fn.kp T.under.bd .nil (fun _ _=>.nil) (zc (yr (n:=0) zm zq (za 2 0) (xi (n:=0) (za 0 0) T.fld_goal rfl) (fun _ _=>rfl)) (zc (za 3 0) zg)))))))))
def zeh:EF:=(eComp (lsD (e1 (fldD [4] "arrows") (eV 0))) 1 [1,2] (gV 0) bTrue (fun ρ=>((aCons (eV 0) (aCons (eV 1) (aCons (eV 2) aNil))) ρ).bind fun ds=>za7 (ds++[])))
def zfw:List D→Option D:=mOf ["net","pace","times"]
  (sSeq (sIf (tb (e2 (eqD true) (eN lenD (aCons (eV 2) aNil)) (eN lenD (aCons (e1 (fldD [4] "names") (eV 0)) aNil)))) (sRet (eC (.bl false))) sSkip)
  (sRet (eN allD (aCons zeh aNil))))
theorem zpc (T:Txt K mg a):FnOk P w K mg base CX0 6 a.f_fits a.d_fits ["net","pace","times"] (LSp K a.ct [0,0,0] 0 zfw):=by
 have G_is_kept:=zir (P:=P) (w:=w) (base:=base) T
 refine lift (ms:=[.ow 0,.ow 0,.ow 0]) T.fits.fn zpa rfl rfl (by decide) (zl (by decide)) fun cdv A outer s H E hr=>?_
 exact (ze (vw (xh (k:=0) (ze7 hr.u64) w8 (zu (k:=0) ye xt rfl T.b_len ww (zc (za 2 0) zg)) (zu (k:=0) ye xt rfl T.b_len ww (zc (xi (n:=0) (za 0 0) T.fld_names rfl) zg)) (nomark _)) (zh (yk (XE.ow (zbu (n:=0))))) y3)
  (zh (yk (XE.ow (zu (k:=0) (zfk rfl) zj3 rfl T.b_all znb (zc (XO.sh (n:=0) (jv (N:=["arrow","pace","times"]) (om:=[.ow 0]) (cap:=[1,2]) (own:=1) (uc (by rfl)) rfl rfl (by decide) (vo (n:=0) (xi (n:=0) (za 0 0) T.fld_arrows rfl)) (fun _ _ _ _ _=>(we (by decide) rfl (show List.Nodup (["arrow","pace","times"]:List Str) from by decide +kernel) rfl (by first | exact Or.inl rfl | exact Or.inr rfl))) (fun _ _ _ _ _=>vm) (fun _ _ _ _ _=>(zj (dds:=[]) (ns:=[0,0,0]) (nd:=[]) G_is_kept (hr.mono (by decide)) rfl T.is_kept.mgx T.is_kept.fn.kp T.is_kept.bd .nil (fun _ _=>.nil) (zc (za 0 0) (zc (za 1 0) (zc (za 2 0) zg))))))) zg))))))
def xq:SF:=(sSeq (sSet 7 (e2 ixD (e1 (fldD [4] "arrows") (eV 0)) (eV 6)))
  (sSeq (sSet 8 (e2 subD (e2 addD (e2 ixD (eV 3) (e1 (fldD [0,1,2,3] "start") (eV 7))) (e2 mulI (e1 (fldD [0,1,2,3] "time") (eV 7)) (e2 ixD (eV 1) (eC (.int 1))))) (e2 mulI (e1 (fldD [0,1,2,3] "behind") (eV 7)) (e2 ixD (eV 1) (eC (.int 0))))))
  (sIf (tb (e2 gtD (eV 8) (e2 ixD (eV 3) (e1 (fldD [0,1,2,3] "goal") (eV 7))))) (sSeq (sPutL 3 (e1 (fldD [0,1,2,3] "goal") (eV 7)) (eV 8))
  (sSeq (sPutD 4 (e1 (fldD [0,1,2,3] "goal") (eV 7)) (eV 6))
  (sSet 5 (e1 (fldD [0,1,2,3] "goal") (eV 7))))) sSkip)))
def vi:List D→Option D:=mOfM 3 ["net","pace","numbers","times","chosen","pushed","number","arrow","earliest"]
  (mSeq (sSet 5 (eC .non))
  (mSeq (sFor (lsD (eV 2)) (gV 6) xq)
  (mRet (eV 5))))
theorem zfx (T:Txt K mg a):FnOk P w K mg base CX0 1 a.f_push_once a.d_push_once ["net","pace","numbers","times","chosen"] (MSp K a.ct 3 vi):=by
 refine zmc (n:=3) (ms:=[.ow 0,.ow 0,.ow 0,.ow 0]) T.push_once.fn v6 rfl rfl fun xa xb cdv A outer s H E hr=>?_
 exact (zkf (zx rfl v6.nd rfl (Or.inl rfl) (XE.ow (zjo (n:=0))))
  (zkf (ql (zal (za 2 0)) (wk rfl v6.nd rfl (Or.inl rfl)) (ze (zx rfl v6.nd rfl (Or.inl rfl) (XE.ow (yr (n:=0) zm zq (xi (n:=0) (za 0 0) T.fld_arrows rfl) (za 6 0) (fun _ _=>rfl))))
  (ze (zx rfl v6.nd rfl (Or.inl rfl) (XE.ow (zw (k:=0) zc5 zbd (XO.sh (n:=0) (v9 xc (xf (n:=0) (m:=0) (by decide) (by decide)) (yr (n:=1) zm zq (za 3 1) (xi (n:=0) (za 7 0) T.fld_start rfl) (fun _ _=>rfl)) (zw (k:=0) wj xg (xi (n:=0) (za 7 0) T.fld_time rfl) (yr (n:=0) zm zq (za 1 0) (zf (n:=0)) (fun _ _=>rfl))))) (zw (k:=0) wj xg (xi (n:=0) (za 7 0) T.fld_behind rfl) (yr (n:=0) zm zq (za 1 0) (zf (n:=0)) (fun _ _=>rfl))))))
  (zh (vw (xh (k:=0) zer zbr (za 8 0) (yr (n:=1) zm zq (za 3 1) (xi (n:=0) (za 7 0) T.fld_goal rfl) (fun _ _=>rfl)) (nomark _)) (ze (zma 3 rfl (xi (n:=0) (za 7 0) T.fld_goal rfl) (za 8 0))
  (ze (zmb 4 rfl (zb9 hr) (xi (n:=0) (za 7 0) T.fld_goal rfl) (za 6 0))
  (zh (zx rfl v6.nd rfl (Or.inl rfl) (XE.ow (xi (n:=0) (za 7 0) T.fld_goal rfl)))))) y3)))) PassesOwn.never rfl)
  (zri (za 5 0))))
def uf:EF:=(eComp (lsD (eV 3)) 1 [1] (gV 0) bTrue (fun ρ=>((aCons (eV 0) (aCons (e2 ixD (eV 1) (eC (.int 1))) aNil)) ρ).bind fun ds=>zar (ds++[])))
def wf:SF:=(sSeq (sSetM 5 (callM 3 4 (aCons (eV 0) (aCons (eV 1) (aCons (eV 2) aNil))) vi))
  (sIf (tb (e2 (isD false) (eV 5) (eC .non))) (sFz 3 (sRet (fun ρ=>((aCons (eSc (eC (.str "times"))) (aCons uf aNil)) ρ).bind fun ds=>some (.tup ds)))) sSkip))
def xu:List D→Option D:=mOf ["net","pace","numbers","times","chosen","pushed","count"]
  (sSeq (sSet 3 (e2 repD (fun ρ=>((aCons (eC (.int 0)) aNil) ρ).bind fun ds=>some (.lst ds)) (eN lenD (aCons (e1 (fldD [4] "names") (eV 0)) aNil))))
  (sSeq (sSet 4 (eC (.dK [] [])))
  (sSeq (sSet 5 (eC .non))
  (sSeq (sFor (fun ρ=>((aCons (eN lenD (aCons (e1 (fldD [4] "names") (eV 0)) aNil)) aNil) ρ).bind rng1) (gV 6) wf)
  (sFz 4 (sRet (fun ρ=>((aCons (eSc (eC (.str "ring"))) (aCons (fun ρ=>((aCons (e1 (fldD [4] "arrows") (eV 0)) (aCons (eV 4) (aCons (eV 5) aNil))) ρ).bind fun ds=>vq (ds++[])) aNil)) ρ).bind fun ds=>some (.tup ds))))))))
theorem qh (T:Txt K mg a):FnOk P w K mg base CX0 3 a.f_times_or_ring_along a.d_times_or_ring_along ["net","pace","numbers"] (LSp K a.ct [0,0,0] 2 xu):=by
 have G_push_once:=zfx (P:=P) (w:=w) (base:=base) T
 have G_ratio:=zb3 (P:=P) (w:=w) (base:=base) T
 have G_ring_back_from:=zbj (P:=P) (w:=w) (base:=base) T
 refine lift (ms:=[.ow 0,.ow 0,.ow 0,.ow 1,.ow 1,.ow 0,.ow 0]) T.times_or_ring_along.fn yu rfl rfl (by decide) (zl (by decide)) fun cdv A outer s H E hr=>?_
 exact (ze (zx rfl yu.nd rfl (Or.inl rfl) (zne (jp (k:=0) (yp (XE.ow (zf (n:=0))) wu)) (zu (k:=0) ye xt rfl T.b_len ww (zc (xi (n:=0) (za 0 0) T.fld_names rfl) zg))))
  (ze (zx rfl yu.nd rfl (Or.inl rfl) zdw)
  (ze (zx rfl yu.nd rfl (Or.inl rfl) (XE.ow (zjo (n:=0))))
  (ze (ql (ua (n:=0) T.b_range (zc (zu (k:=0) ye xt rfl T.b_len ww (zc (xi (n:=0) (za 0 0) T.fld_names rfl) zg)) zg)) (wk rfl yu.nd rfl (Or.inl rfl)) (ze (zo7 rfl yu.nd rfl (Or.inl rfl) (zo6 (i:=3) (j:=4) (by decide) rfl rfl G_push_once (hr.mono (by decide)) rfl T.push_once.mgx T.push_once.fn.kp T.push_once.bd .nil (zgn (zgn (zgn zrj))) (zd8 (za 0 0) (zd8 (za 1 0) (zd8 (za 2 0) (zo5 (i:=3) (j:=4)))))))
  (zh (vw (xh (k:=0) zsi zq2 (za 5 0) (zjo (n:=0)) (nomark _)) (zng (i:=3) rfl (zh (yk (zbq (yp (zrh (zbp (n:=0))) (yp (jv (N:=["time","pace"]) (om:=[.ow 0]) (cap:=[1]) (own:=1) (uc (by rfl)) rfl rfl (by decide) (vo (n:=0) (za 3 0)) (fun _ _ _ _ _=>(we (by decide) rfl (show List.Nodup (["time","pace"]:List Str) from by decide +kernel) rfl (by first | exact Or.inl rfl | exact Or.inr rfl))) (fun _ _ _ _ _=>vm) (fun _ _ _ _ _=>(zj (dds:=[]) (ns:=[0,0]) (nd:=[]) G_ratio (hr.mono (by decide)) rfl T.ratio.mgx T.ratio.fn.kp T.ratio.bd .nil (fun _ _=>.nil) (zc (za 0 0) (zc (yr (n:=0) zm zq (za 1 0) (zf (n:=0)) (fun _ _=>rfl)) zg))))) wu)))))) y3))) PassesOwn.never rfl)
  (zng (i:=4) rfl (zh (yk (zbq (yp (zrh (zbp (n:=0))) (yp (zj (dds:=[]) (ns:=[0,0,0]) (nd:=[]) G_ring_back_from (hr.mono (by decide)) rfl T.ring_back_from.mgx T.ring_back_from.fn.kp T.ring_back_from.bd .nil (fun _ _=>.nil) (zc (xi (n:=0) (za 0 0) T.fld_arrows rfl) (zc (za 4 0) (zc (za 5 0) zg)))) wu))))))))))
def ug:List D→Option D:=mOf ["net","pace"]
  (sRet (fun ρ=>((aCons (eV 0) (aCons (eV 1) (aCons (eN lrngD (aCons (eN lenD (aCons (e1 (fldD [4] "arrows") (eV 0)) aNil)) aNil)) aNil))) ρ).bind fun ds=>xu (ds++[])))
theorem zbx (T:Txt K mg a):FnOk P w K mg base CX0 4 a.f_times_or_ring a.d_times_or_ring ["net","pace"] (LSp K a.ct [0,0] 2 ug):=by
 have G_times_or_ring_along:=qh (P:=P) (w:=w) (base:=base) T
 refine lift (ms:=[.ow 0,.ow 0]) T.times_or_ring.fn zbv rfl rfl (by decide) (zl (by decide)) fun cdv A outer s H E hr=>?_
 exact (zh (yk (zj (dds:=[]) (ns:=[0,0,0]) (nd:=[]) G_times_or_ring_along (hr.mono (by decide)) rfl T.times_or_ring_along.mgx T.times_or_ring_along.fn.kp T.times_or_ring_along.bd .nil (fun _ _=>.nil) (zc (za 0 0) (zc (za 1 0) (zc (XO.sh (n:=0) (zj8 rfl rfl T.b_list rfl T.b_range (zc (zu (k:=0) ye xt rfl T.b_len ww (zc (xi (n:=0) (za 0 0) T.fld_arrows rfl) zg)) zg))) zg))))))
def ju:List D→Option D:=mOf ["net","ring","pace"]
  (sRet (eB (bAnd (tb (fun ρ=>((aCons (eV 0) (aCons (eV 1) aNil)) ρ).bind fun ds=>jh (ds++[]))) (tb (e2 (eqD false) (fun ρ=>((aCons (eV 0) (aCons (eV 1) aNil)) ρ).bind fun ds=>zhp (ds++[])) (eV 2))))))
theorem zgt (T:Txt K mg a):FnOk P w K mg base CX0 4 a.f_has_mean a.d_has_mean ["net","ring","pace"] (LSp K a.ct [0,0,0] 0 ju):=by
 have G_is_ring:=ziq (P:=P) (w:=w) (base:=base) T
 have G_mean:=zpb (P:=P) (w:=w) (base:=base) T
 refine lift (ms:=[.ow 0,.ow 0,.ow 0]) T.has_mean.fn zgp rfl rfl (by decide) (zl (by decide)) fun cdv A outer s H E hr=>?_
 exact (zh (yk (XE.ow (za2 (XO.sh (n:=0) (zj (dds:=[]) (ns:=[0,0]) (nd:=[]) G_is_ring (hr.mono (by decide)) rfl T.is_ring.mgx T.is_ring.fn.kp T.is_ring.bd .nil (fun _ _=>.nil) (zc (za 0 0) (zc (za 1 0) zg)))) (zah (k:=0) (jj (k:=0) (v5 hr.u64) w8 (XO.sh (n:=0) (zj (dds:=[]) (ns:=[0,0]) (nd:=[]) G_mean (hr.mono (by decide)) rfl T.mean.mgx T.mean.fn.kp T.mean.bd .nil (fun _ _=>.nil) (zc (za 0 0) (zc (za 1 0) zg)))) (za 2 0) (nomark _)))))))
def zei:List D→Option D:=mOf ["net","paper"]
  (sRet (eB (bAnd (tb (fun ρ=>((aCons (eV 0) (aCons (e2 ixD (eV 1) (eC (.int 1))) (aCons (e2 ixD (eV 1) (eC (.int 0))) aNil))) ρ).bind fun ds=>ju (ds++[]))) (tb (fun ρ=>((aCons (eV 0) (aCons (e2 ixD (eV 1) (eC (.int 0))) (aCons (e2 ixD (eV 1) (eC (.int 2))) aNil))) ρ).bind fun ds=>zfw (ds++[]))))))
theorem zmi (T:Txt K mg a):FnOk P w K mg base CX0 7 a.f_holds a.d_holds ["net","paper"] (LSp K a.ct [0,0] 0 zei):=by
 have G_has_mean:=zgt (P:=P) (w:=w) (base:=base) T
 have G_fits:=zpc (P:=P) (w:=w) (base:=base) T
 refine lift (ms:=[.ow 0,.ow 0]) T.holds.fn zmf rfl rfl (by decide) (zl (by decide)) fun cdv A outer s H E hr=>?_
 exact (zh (yk (XE.ow (za2 (XO.sh (n:=0) (zj (dds:=[]) (ns:=[0,0,0]) (nd:=[]) G_has_mean (hr.mono (by decide)) rfl T.has_mean.mgx T.has_mean.fn.kp T.has_mean.bd .nil (fun _ _=>.nil) (zc (za 0 0) (zc (yr (n:=0) zm zq (za 1 0) (zf (n:=0)) (fun _ _=>rfl)) (zc (yr (n:=0) zm zq (za 1 0) (zf (n:=0)) (fun _ _=>rfl)) zg))))) (zah (k:=0) (XO.sh (n:=0) (zj (dds:=[]) (ns:=[0,0,0]) (nd:=[]) G_fits (hr.mono (by decide)) rfl T.fits.mgx T.fits.fn.kp T.fits.bd .nil (fun _ _=>.nil) (zc (za 0 0) (zc (yr (n:=0) zm zq (za 1 0) (zf (n:=0)) (fun _ _=>rfl)) (zc (yr (n:=0) zm zq (za 1 0) (zf (n:=0)) (fun _ _=>rfl)) zg))))))))))
def xr:List D→Option D:=mOf ["_law_script","_law_k"]
  (sSeq (sIf (tb (e2 ltD (eV 1) (eN lenD (aCons (eV 0) aNil)))) (sRet (e2 ixD (eV 0) (eV 1))) sSkip)
  (sRet (eC (.int 0))))
theorem zc4 (T:Txt K mg a):FnOk P w K mg base CX0 1 a.f_law_cell_at a.d_law_cell_at ["_law_script","_law_k"] (LSp K a.ct [0,0] 0 xr):=by
 refine lift (ms:=[.ow 0,.ow 0]) T.law_cell_at.fn zcz rfl rfl (by decide) (zl (by decide)) fun cdv A outer s H E hr=>?_
 exact (ze (vw (xh (k:=0) zdo za4 (za 1 0) (zu (k:=0) ye xt rfl T.b_len ww (zc (za 0 0) zg)) (nomark _)) (zh (yk (XE.ow (yr (n:=0) zm zq (za 0 0) (za 1 0) (fun _ _=>rfl))))) y3)
  (zh (yk (XE.ow (zf (n:=0))))))
def v8:List D→Option D:=mOf ["_law_cell"]
  (sRet (eB (bAnd (tb (e2 geD (eV 0) (e2 shlD (eC (.int 1)) (eC (.int 90))))) (tb (e2 (eqD false) (e2 modD (eV 0) (eC (.int 2))) (eC (.int 1)))))))
theorem j6 (T:Txt K mg a):FnOk P w K mg base CX0 1 a.f_law_is_row a.d_law_is_row ["_law_cell"] (LSp K a.ct [0] 0 v8):=by
 refine lift (ms:=[.ow 0]) T.law_is_row.fn zea rfl rfl (by decide) (zl (by decide)) fun cdv A outer s H E hr=>?_
 exact (zh (yk (XE.ow (za2 (jj (k:=0) znu zjt (za 0 0) (zw (k:=0) zqh zoi (zf (n:=0)) (zf (n:=0))) (nomark _)) (zah (k:=0) (jj (k:=0) (v5 hr.u64) w8 (zw (k:=0) ym yn (za 0 0) (zf (n:=0))) (zf (n:=0)) (nomark _)))))))
def yb:List D→Option D:=mOf ["_law_cell","_law_k","_law_number"]
  (sSeq (sIf (bAnd (tb (fun ρ=>((aCons (eV 0) aNil) ρ).bind fun ds=>v8 (ds++[]))) (tb (e2 gtD (e2 shrD (eV 0) (e2 addD (eC (.int 1)) (e2 mulI (eC (.int 31)) (eV 1)))) (eC (.int 0))))) (sRet (e2 modD (e2 shrD (eV 0) (e2 addD (eC (.int 1)) (e2 mulI (eC (.int 31)) (eV 1)))) (eC (.int 2147483648)))) sSkip)
  (sSeq (sSet 2 (e2 modD (e2 mulI (e2 addD (e2 addD (eV 0) (e2 mulI (eC (.int 7919)) (eV 1))) (eC (.int 1))) (eC (.int 48271))) (eC (.int 2147483647))))
  (sSeq (sSet 2 (e2 modD (e2 mulI (eV 2) (e2 addD (e2 fdivD (eV 2) (eC (.int 1009))) (eC (.int 69621)))) (eC (.int 2147483647))))
  (sRet (e2 modD (e2 mulI (eV 2) (e2 addD (e2 addD (e2 fdivD (eV 2) (eC (.int 2003))) (eC (.int 39373))) (eV 1))) (eC (.int 2147483629)))))))
theorem ut (T:Txt K mg a):FnOk P w K mg base CX0 2 a.f_law_mixed a.d_law_mixed ["_law_cell","_law_k"] (LSp K a.ct [0,0] 0 yb):=by
 have G_law_is_row:=j6 (P:=P) (w:=w) (base:=base) T
 refine lift (ms:=[.ow 0,.ow 0,.ow 0]) T.law_mixed.fn qr rfl rfl (by decide) (zl (by decide)) fun cdv A outer s H E hr=>?_
 exact (ze (vw (XW.t (ze9 (jd (XO.sh (n:=0) (zj (dds:=[]) (ns:=[0]) (nd:=[]) G_law_is_row (hr.mono (by decide)) rfl T.law_is_row.mgx T.law_is_row.fn.kp T.law_is_row.bd .nil (fun _ _=>.nil) (zc (za 0 0) zg)))) (zcb (xh (k:=0) zer zbr (zw (k:=0) zm4 zjs (za 0 0) (XO.sh (n:=0) (v9 xc (xf (n:=0) (m:=0) (by decide) (by decide)) (zf (n:=0)) (zw (k:=0) wj xg (zf (n:=0)) (za 1 0))))) (zf (n:=0)) (nomark _))))) (zh (yk (XE.ow (zw (k:=0) ym yn (zw (k:=0) zm4 zjs (za 0 0) (XO.sh (n:=0) (v9 xc (xf (n:=0) (m:=0) (by decide) (by decide)) (zf (n:=0)) (zw (k:=0) wj xg (zf (n:=0)) (za 1 0))))) (zf (n:=0)))))) y3)
  (ze (zx rfl qr.nd rfl (Or.inl rfl) (XE.ow (zw (k:=0) ym yn (zw (k:=0) wj xg (XO.sh (n:=0) (v9 xc (xf (n:=0) (m:=0) (by decide) (by decide)) (XO.sh (n:=0) (v9 xc (xf (n:=0) (m:=0) (by decide) (by decide)) (za 0 0) (zw (k:=0) wj xg (zf (n:=0)) (za 1 0)))) (zf (n:=0)))) (zf (n:=0))) (zf (n:=0)))))
  (ze (zx rfl qr.nd rfl (Or.inl rfl) (XE.ow (zw (k:=0) ym yn (zw (k:=0) wj xg (za 2 0) (XO.sh (n:=0) (v9 xc (xf (n:=0) (m:=0) (by decide) (by decide)) (zw (k:=0) xn xo (za 2 0) (zf (n:=0))) (zf (n:=0))))) (zf (n:=0)))))
  (zh (yk (XE.ow (zw (k:=0) ym yn (zw (k:=0) wj xg (za 2 0) (XO.sh (n:=0) (v9 xc (xf (n:=0) (m:=0) (by decide) (by decide)) (XO.sh (n:=0) (v9 xc (xf (n:=0) (m:=0) (by decide) (by decide)) (zw (k:=0) xn xo (za 2 0) (zf (n:=0))) (zf (n:=0)))) (za 1 0)))) (zf (n:=0)))))))))
def uu:SF:=(sAppPop 3 4 (e2 modD (fun ρ=>((aCons (eV 0) (aCons (eV 5) aNil)) ρ).bind fun ds=>yb (ds++[])) (eN lenD (aCons (eV 4) aNil))))
def uj:List D→Option D:=mOf ["_law_turn","_law_many","_law_going","_law_order","_law_left","_law_k"]
  (sSeq (sIf (bNot (tb (fun ρ=>((aCons (eV 0) aNil) ρ).bind fun ds=>v8 (ds++[])))) (sRet (e2 modD (e2 addD (eV 2) (eV 0)) (eV 1))) sSkip)
  (sSeq (sSet 3 (fun ρ=>(aNil ρ).bind fun ds=>some (.lst ds)))
  (sSeq (sSet 4 (eN lrngD (aCons (eV 1) aNil)))
  (sSeq (sFor (fun ρ=>((aCons (eV 1) aNil) ρ).bind rng1) (gV 5) uu)
  (sRet (e2 idxD (eV 3) (eV 2)))))))
theorem zgu (T:Txt K mg a):FnOk P w K mg base CX0 3 a.f_law_rank a.d_law_rank ["_law_turn","_law_many","_law_going"] (LSp K a.ct [0,0,0] 0 uj):=by
 have G_law_is_row:=j6 (P:=P) (w:=w) (base:=base) T
 have G_law_mixed:=ut (P:=P) (w:=w) (base:=base) T
 refine lift (ms:=[.ow 0,.ow 0,.ow 0,.ow 1,.ow 1,.ow 0]) T.law_rank.fn jx rfl rfl (by decide) (zl (by decide)) fun cdv A outer s H E hr=>?_
 exact (ze (vw (za1 (jd (XO.sh (n:=0) (zj (dds:=[]) (ns:=[0]) (nd:=[]) G_law_is_row (hr.mono (by decide)) rfl T.law_is_row.mgx T.law_is_row.fn.kp T.law_is_row.bd .nil (fun _ _=>.nil) (zc (za 0 0) zg))))) (zh (yk (XE.ow (zw (k:=0) ym yn (XO.sh (n:=0) (v9 xc (xf (n:=0) (m:=0) (by decide) (by decide)) (za 2 0) (za 0 0))) (za 1 0))))) y3)
  (ze (zx rfl jx.nd rfl (Or.inl rfl) (jp (k:=0) wu))
  (ze (zx rfl jx.nd rfl (Or.inl rfl) (zj8 rfl rfl T.b_list rfl T.b_range (zc (za 1 0) zg)))
  (ze (ql (ua (n:=0) T.b_range (zc (za 1 0) zg)) (wk rfl jx.nd rfl (Or.inl rfl)) (zh (zj9 3 4 rfl rfl (by decide) (zw (k:=0) ym yn (XO.sh (n:=0) (zj (dds:=[]) (ns:=[0,0]) (nd:=[]) G_law_mixed (hr.mono (by decide)) rfl T.law_mixed.mgx T.law_mixed.fn.kp T.law_mixed.bd .nil (fun _ _=>.nil) (zc (za 0 0) (zc (za 5 0) zg)))) (zu (k:=0) ye xt rfl T.b_len ww (zc (za 4 1) zg))))) PassesOwn.never rfl)
  (zh (yk (XE.ow (zl1 (k:=0) (za 3 1) (za 2 0)))))))))
def u7:SF:=(sSeq (sSet 7 (e2 modD (e2 fdivD (eV 3) (eC (.int 1000))) (eC (.int 10))))
  (sSeq (sIf (tb (e2 (eqD false) (e2 modD (eV 0) (eC (.int 3))) (eC (.int 2)))) (sSet 7 (e2 modD (e2 fdivD (eV 0) (eC (.int 3))) (e2 addD (e2 powD (eC (.int 10)) (eC (.int 9))) (eC (.int 1))))) sSkip)
  (sSeq (sIf (tb (fun ρ=>((aCons (eV 0) aNil) ρ).bind fun ds=>v8 (ds++[]))) (sSet 7 (e2 modD (fun ρ=>((aCons (eV 0) (aCons (eC (.int 30)) aNil)) ρ).bind fun ds=>yb (ds++[])) (e2 addD (e2 powD (eC (.int 10)) (eC (.int 9))) (eC (.int 1))))) sSkip)
  (sRet (fun ρ=>((aCons (eV 4) (aCons (eV 5) (aCons (eV 7) (aCons (eV 6) aNil)))) ρ).bind fun ds=>some (.tup ds))))))
def wv:List D→Option D:=mOf ["_law_cell","_law_many","_law_turn","_law_number","_law_start","_law_goal","_law_behind","_law_time"]
  (sSeq (sSet 3 (fun ρ=>((aCons (eV 0) (aCons (eC (.int 1)) aNil)) ρ).bind fun ds=>yb (ds++[])))
  (sSeq (sSet 4 (e2 modD (eV 3) (eV 1)))
  (sSeq (sSet 5 (e2 modD (e2 fdivD (eV 3) (eC (.int 8))) (eV 1)))
  (sSeq (sSet 6 (e2 modD (e2 fdivD (eV 3) (eC (.int 64))) (eC (.int 5))))
  (sSeq (sIf (bAnd (tb (e2 (eqD false) (eV 6) (eC (.int 0)))) (tb (e2 geD (fun ρ=>((aCons (eV 2) (aCons (eV 1) (aCons (eV 4) aNil))) ρ).bind fun ds=>uj (ds++[])) (fun ρ=>((aCons (eV 2) (aCons (eV 1) (aCons (eV 5) aNil))) ρ).bind fun ds=>uj (ds++[]))))) (sSet 6 (e2 addD (eC (.int 1)) (e2 modD (e2 fdivD (eV 3) (eC (.int 320))) (eC (.int 2))))) sSkip)
  u7)))))
theorem zfy (T:Txt K mg a):FnOk P w K mg base CX0 4 a.f_law_arrow a.d_law_arrow ["_law_cell","_law_many","_law_turn"] (LSp K a.ct [0,0,0] 0 wv):=by
 have G_law_mixed:=ut (P:=P) (w:=w) (base:=base) T
 have G_law_rank:=zgu (P:=P) (w:=w) (base:=base) T
 have G_law_is_row:=j6 (P:=P) (w:=w) (base:=base) T
 refine lift (ms:=[.ow 0,.ow 0,.ow 0,.ow 0,.ow 0,.ow 0,.ow 0,.ow 0]) T.law_arrow.fn wt rfl rfl (by decide) (zl (by decide)) fun cdv A outer s H E hr=>?_
 exact (ze (zx rfl wt.nd rfl (Or.inl rfl) (zj (dds:=[]) (ns:=[0,0]) (nd:=[]) G_law_mixed (hr.mono (by decide)) rfl T.law_mixed.mgx T.law_mixed.fn.kp T.law_mixed.bd .nil (fun _ _=>.nil) (zc (za 0 0) (zc (zf (n:=0)) zg))))
  (ze (zx rfl wt.nd rfl (Or.inl rfl) (XE.ow (zw (k:=0) ym yn (za 3 0) (za 1 0))))
  (ze (zx rfl wt.nd rfl (Or.inl rfl) (XE.ow (zw (k:=0) ym yn (zw (k:=0) xn xo (za 3 0) (zf (n:=0))) (za 1 0))))
  (ze (zx rfl wt.nd rfl (Or.inl rfl) (XE.ow (zw (k:=0) ym yn (zw (k:=0) xn xo (za 3 0) (zf (n:=0))) (zf (n:=0)))))
  (ze (vw (XW.t (ze9 (xh (k:=0) (v5 hr.u64) w8 (za 6 0) (zf (n:=0)) (nomark _)) (zcb (xh (k:=0) znu zjt (XO.sh (n:=0) (zj (dds:=[]) (ns:=[0,0,0]) (nd:=[]) G_law_rank (hr.mono (by decide)) rfl T.law_rank.mgx T.law_rank.fn.kp T.law_rank.bd .nil (fun _ _=>.nil) (zc (za 2 0) (zc (za 1 0) (zc (za 4 0) zg))))) (XO.sh (n:=0) (zj (dds:=[]) (ns:=[0,0,0]) (nd:=[]) G_law_rank (hr.mono (by decide)) rfl T.law_rank.mgx T.law_rank.fn.kp T.law_rank.bd .nil (fun _ _=>.nil) (zc (za 2 0) (zc (za 1 0) (zc (za 5 0) zg))))) (nomark _))))) (zh (zx rfl wt.nd rfl (Or.inl rfl) (XE.ow (XO.sh (n:=0) (v9 xc (xf (n:=0) (m:=0) (by decide) (by decide)) (zf (n:=0)) (zw (k:=0) ym yn (zw (k:=0) xn xo (za 3 0) (zf (n:=0))) (zf (n:=0)))))))) y3)
  (ze (zx rfl wt.nd rfl (Or.inl rfl) (XE.ow (zw (k:=0) ym yn (zw (k:=0) xn xo (za 3 0) (zf (n:=0))) (zf (n:=0)))))
  (ze (vw (xh (k:=0) (v5 hr.u64) w8 (zw (k:=0) ym yn (za 0 0) (zf (n:=0))) (zf (n:=0)) (nomark _)) (zh (zx rfl wt.nd rfl (Or.inl rfl) (XE.ow (zw (k:=0) ym yn (zw (k:=0) xn xo (za 0 0) (zf (n:=0))) (XO.sh (n:=0) (v9 xc (xf (n:=0) (m:=0) (by decide) (by decide)) (zw (k:=0) zm3 zjr (zf (n:=0)) (zf (n:=0))) (zf (n:=0)))))))) y3)
  (ze (vw (jd (XO.sh (n:=0) (zj (dds:=[]) (ns:=[0]) (nd:=[]) G_law_is_row (hr.mono (by decide)) rfl T.law_is_row.mgx T.law_is_row.fn.kp T.law_is_row.bd .nil (fun _ _=>.nil) (zc (za 0 0) zg)))) (zh (zx rfl wt.nd rfl (Or.inl rfl) (XE.ow (zw (k:=0) ym yn (XO.sh (n:=0) (zj (dds:=[]) (ns:=[0,0]) (nd:=[]) G_law_mixed (hr.mono (by decide)) rfl T.law_mixed.mgx T.law_mixed.fn.kp T.law_mixed.bd .nil (fun _ _=>.nil) (zc (za 0 0) (zc (zf (n:=0)) zg)))) (XO.sh (n:=0) (v9 xc (xf (n:=0) (m:=0) (by decide) (by decide)) (zw (k:=0) zm3 zjr (zf (n:=0)) (zf (n:=0))) (zf (n:=0)))))))) y3)
  (zh (yk (XE.ow (XO.sh (n:=0) (zbq (yp (XE.ow (za 4 0)) (yp (XE.ow (za 5 0)) (yp (XE.ow (za 7 0)) (yp (XE.ow (za 6 0)) wu)))))))))))))))))
def zae:List D→Option D:=mOf ["_law_arrow_here","_law_kind","_law_start","_law_goal","_law_time","_law_behind"]
  (sSeq (sAsg (gT (gsCons (gV 2) (gsCons (gV 3) (gsCons (gV 4) (gsCons (gV 5) gsNil))))) (eV 0))
  (sSeq (sIf (bAnd (tb (e2 (eqD false) (eV 5) (eC (.int 0)))) (tb (e2 (eqD false) (e2 modD (eV 1) (eC (.int 2))) (eC (.int 0))))) (sRet (fun ρ=>((aCons (eV 2) (aCons (eV 3) (aCons (eV 4) aNil))) ρ).bind fun ds=>jy 1 (ds++[]))) sSkip)
  (sSeq (sIf (bAnd (tb (e2 gtD (eV 5) (eC (.int 0)))) (tb (e2 (eqD false) (e2 modD (eV 1) (eC (.int 2))) (eC (.int 0))))) (sRet (fun ρ=>((aCons (eV 2) (aCons (eV 3) (aCons (eV 4) (aCons (eV 5) aNil)))) ρ).bind fun ds=>j4 3 (ds++[]))) sSkip)
  (sRet (fun ρ=>((aCons (eV 2) (aCons (eV 3) (aCons (eV 4) (aCons (eV 5) aNil)))) ρ).bind fun ds=>jz 2 (ds++[]))))))
theorem zgv (T:Txt K mg a):FnOk P w K mg base CX0 4 a.f_law_made a.d_law_made ["_law_arrow_here","_law_kind"] (LSp K a.ct [0,0] 0 zae):=by
 have G_Ride___init:=zc0 (P:=P) (w:=w) (base:=base) T
 have G_Back___init:=zc2 (P:=P) (w:=w) (base:=base) T
 have B_Back___init_1:=T.Back___init_d1.choose_spec
 have G_Wait___init:=zc1 (P:=P) (w:=w) (base:=base) T
 have B_Wait___init_1:=T.Wait___init_d1.choose_spec
 refine lift (ms:=[.ow 0,.ow 0,.ow 0,.ow 0,.ow 0,.ow 0]) T.law_made.fn jf rfl rfl (by decide) (zl (by decide)) fun cdv A outer s H E hr=>?_
 exact (ze (zju (za 0 0) (zfb (n:=0) rfl (ve (wk rfl jf.nd rfl (Or.inl rfl)) (ve (wk rfl jf.nd rfl (Or.inl rfl)) (ve (wk rfl jf.nd rfl (Or.inl rfl)) (ve (wk rfl jf.nd rfl (Or.inl rfl)) zcd))))))
  (ze (vw (XW.t (ze9 (xh (k:=0) (v5 hr.u64) w8 (za 5 0) (zf (n:=0)) (nomark _)) (zcb (xh (k:=0) (v5 hr.u64) w8 (zw (k:=0) ym yn (za 1 0) (zf (n:=0))) (zf (n:=0)) (nomark _))))) (zh (yk (XE.ow (XO.sh (n:=0) (zd5 (c0:=1) (dds:=[]) (ns:=[0,0,0]) (nd:=[]) ⟨T.Ride.mks,T.Ride___init.me.at_,T.Ride___init.me.fn,T.Ride.kp⟩ (by decide) G_Ride___init (hr.mono (by decide)) rfl T.Ride.mgx T.Ride___init.bd .nil (fun _ _=>.nil) (zc (za 2 0) (zc (za 3 0) (zc (za 4 0) zg)))))))) y3)
  (ze (vw (XW.t (ze9 (xh (k:=0) zer zbr (za 5 0) (zf (n:=0)) (nomark _)) (zcb (xh (k:=0) (v5 hr.u64) w8 (zw (k:=0) ym yn (za 1 0) (zf (n:=0))) (zf (n:=0)) (nomark _))))) (zh (yk (XE.ow (XO.sh (n:=0) (zd5 (c0:=3) (dds:=[]) (ns:=[0,0,0,0]) (nd:=[]) ⟨T.Back.mks,T.Back___init.me.at_,T.Back___init.me.fn,T.Back.kp⟩ (by decide) G_Back___init (hr.mono (by decide)) rfl T.Back.mgx T.Back___init.bd .nil (fun _ _=>.nil) (zc (za 2 0) (zc (za 3 0) (zc (za 4 0) (zc (za 5 0) zg))))))))) y3)
  (zh (yk (XE.ow (XO.sh (n:=0) (zd5 (c0:=2) (dds:=[]) (ns:=[0,0,0,0]) (nd:=[]) ⟨T.Wait.mks,T.Wait___init.me.at_,T.Wait___init.me.fn,T.Wait.kp⟩ (by decide) G_Wait___init (hr.mono (by decide)) rfl T.Wait.mgx T.Wait___init.bd .nil (fun _ _=>.nil) (zc (za 2 0) (zc (za 3 0) (zc (za 4 0) (zc (za 5 0) zg))))))))))))
def jo:SF:=(sPar 2 3 (aCons (eV 3) (aCons (e2 modD (eV 2) (eV 3)) aNil)))
def xv:List D→Option D:=mOf ["_law_top","_law_bottom","_law_one","_law_other"]
  (sSeq (sSet 2 (eV 0))
  (sSeq (sSet 3 (eV 1))
  (sSeq (sWhile (tb (e2 (eqD true) (eV 3) (eC (.int 0)))) jo)
  (sRet (fun ρ=>((aCons (e2 fdivD (eV 0) (eN absD (aCons (eV 2) aNil))) (aCons (e2 fdivD (eV 1) (eN absD (aCons (eV 2) aNil))) aNil)) ρ).bind fun ds=>some (.tup ds))))))
theorem za8 (T:Txt K mg a):FnOk P w K mg base CX0 1 a.f_law_lowest a.d_law_lowest ["_law_top","_law_bottom"] (LSp K a.ct [0,0] 0 xv):=by
 refine lift (ms:=[.ow 0,.ow 0,.ow 0,.ow 0]) T.law_lowest.fn u6 rfl rfl (by decide) (zl (by decide)) fun cdv A outer s H E hr=>?_
 exact (ze (zx rfl u6.nd rfl (Or.inl rfl) (XE.ow (za 0 0)))
  (ze (zx rfl u6.nd rfl (Or.inl rfl) (XE.ow (za 1 0)))
  (ze (za3 (xh (k:=0) (ze7 hr.u64) w8 (za 3 0) (zf (n:=0)) (nomark _)) (zh (zq8 rfl rfl rfl u6.nd rfl rfl (by decide) rfl rfl (zc (za 3 0) (zc (zw (k:=0) ym yn (za 2 0) (za 3 0)) zg)) rfl)) PassesOwn.never)
  (zh (yk (XE.ow (XO.sh (n:=0) (zbq (yp (XE.ow (zw (k:=0) xn xo (za 0 0) (zu (k:=0) zdp zgh rfl T.b_abs zjk (zc (za 2 0) zg)))) (yp (XE.ow (zw (k:=0) xn xo (za 1 0) (zu (k:=0) zdp zgh rfl T.b_abs zjk (zc (za 2 0) zg)))) wu))))))))))
def za9:EF:=(eComp (fun ρ=>((aCons (eN lenD (aCons (eV 0) aNil)) aNil) ρ).bind rng1) 1 [0,4] (gV 0) (tb (e2 (eqD false) (e2 ixD (e2 ixD (eV 1) (eV 0)) (eC (.int 0))) (eV 2))) (eV 0))
def u8:SF:=(sSeq (sSet 4 (e2 ixD (e2 ixD (eV 0) (e2 ixD (eV 2) (e1 negD (eC (.int 1))))) (eC (.int 1))))
  (sSeq (sPutD 3 (eV 4) (eN lenD (aCons (eV 2) aNil)))
  (sSeq (sSet 5 za9)
  (sSeq (sIf (tb (e2 (eqD false) (eV 5) (fun ρ=>(aNil ρ).bind fun ds=>some (.lst ds)))) (sRet (fun ρ=>(aNil ρ).bind fun ds=>some (.lst ds))) sSkip)
  (sSeq (sSet 1 (e2 modD (e2 mulI (eV 1) (e2 addD (e2 fdivD (eV 1) (eC (.int 1009))) (eC (.int 69621)))) (eC (.int 2147483647))))
  (sApp 2 (e2 ixD (eV 5) (e2 modD (eV 1) (eN lenD (aCons (eV 5) aNil))))))))))
def vz:List D→Option D:=mOf ["_law_arrows","_law_number","_law_way","_law_seen","_law_going","_law_onward"]
  (sSeq (sIf (tb (e2 (eqD false) (eV 0) (fun ρ=>(aNil ρ).bind fun ds=>some (.lst ds)))) (sRet (fun ρ=>(aNil ρ).bind fun ds=>some (.lst ds))) sSkip)
  (sSeq (sSet 2 (fun ρ=>((aCons (e2 modD (eV 1) (eN lenD (aCons (eV 0) aNil))) aNil) ρ).bind fun ds=>some (.lst ds)))
  (sSeq (sSet 3 (e2 dispD (e2 ixD (e2 ixD (eV 0) (e2 ixD (eV 2) (eC (.int 0)))) (eC (.int 0))) (eC (.int 0))))
  (sSeq (sWhile (tb (fun ρ=>((e2 ixD (e2 ixD (eV 0) (e2 ixD (eV 2) (e1 negD (eC (.int 1))))) (eC (.int 1))) ρ).bind fun x=>((eV 3) ρ).bind fun y=>(dgetD y x).bind fun r=>some (.bl (!r.isSome)))) u8)
  (sRet (fun ρ=>((eV 2) ρ).bind fun d=>((pInt (fun ρ=>((eV 3) ρ).bind fun x=>((e2 ixD (e2 ixD (eV 0) (e2 ixD (eV 2) (e1 negD (eC (.int 1))))) (eC (.int 1))) ρ).bind fun y=>(dgetD x y).join)) ρ).bind fun l=>(pNo ρ).bind fun h=>sliceD d l h))))))
theorem zbt (T:Txt K mg a):FnOk P w K mg base CX0 1 a.f_law_found a.d_law_found ["_law_arrows","_law_number"] (LSp K a.ct [0,0] 0 vz):=by
 refine lift (ms:=[.ow 0,.ow 0,.ow 1,.ow 1,.ow 0,.ow 0]) T.law_found.fn v7 rfl rfl (by decide) (zl (by decide)) fun cdv A outer s H E hr=>?_
 exact (ze (vw (xh (k:=0) (v5 hr.u64) w8 (za 0 0) (XO.sh (n:=0) (jp (k:=0) wu)) (nomark _)) (zh (yk (XE.ow (XO.sh (n:=0) (jp (k:=0) wu))))) y3)
  (ze (zx rfl v7.nd rfl (Or.inl rfl) (jp (k:=0) (yp (XE.ow (zw (k:=0) ym yn (za 1 0) (zu (k:=0) ye xt rfl T.b_len ww (zc (za 0 0) zg)))) wu)))
  (ze (zx rfl v7.nd rfl (Or.inl rfl) (zl9 (yr (n:=0) zm zq (yr (n:=0) zm zq (za 0 0) (yr (n:=1) zm zq (za 2 1) (zf (n:=0)) (fun _ _=>rfl)) (fun _ _=>rfl)) (zf (n:=0)) (fun _ _=>rfl)) (zf (n:=0))))
  (ze (za3 (zfn (zb9 hr) (yr (n:=0) zm zq (yr (n:=0) zm zq (za 0 0) (yr (n:=1) zm zq (za 2 1) (zcg (k:=0) (zf (n:=0))) (fun _ _=>rfl)) (fun _ _=>rfl)) (zf (n:=0)) (fun _ _=>rfl)) (za 3 1) (by with_unfolding_all rfl)) (ze (zx rfl v7.nd rfl (Or.inr rfl) (XE.ow (yr (n:=0) zm zq (yr (n:=0) zm zq (za 0 0) (yr (n:=1) zm zq (za 2 1) (zcg (k:=0) (zf (n:=0))) (fun _ _=>rfl)) (fun _ _=>rfl)) (zf (n:=0)) (fun _ _=>rfl))))
  (ze (zgl 3 rfl (zb9 hr) (za 4 0) (zu (k:=0) ye xt rfl T.b_len ww (zc (za 2 1) zg)))
  (ze (vd (k:=0) (N:=["_law_k","_law_arrows","_law_going"]) (om:=[.ow 0]) (cap:=[0,4]) (own:=1) rfl v7.nd rfl (Or.inl rfl) (uc (by rfl)) rfl rfl (by decide) (XI.cc (ua (n:=0) T.b_range (zc (zu (k:=0) ye xt rfl T.b_len ww (zc (za 0 0) zg)) zg))) (fun _ _ _ _ _=>(we (by decide) rfl (show List.Nodup (["_law_k","_law_arrows","_law_going"]:List Str) from by decide +kernel) rfl (by first | exact Or.inl rfl | exact Or.inr rfl))) (fun _ _ _ _ _=>(zgg (xh (k:=0) (v5 hr.u64) w8 (yr (n:=0) zm zq (yr (n:=0) zm zq (za 1 0) (za 0 0) (fun _ _=>rfl)) (zf (n:=0)) (fun _ _=>rfl)) (za 2 0) (nomark _)))) (fun _ _ _ _ _=>(XE.ow (za 0 0))))
  (ze (vw (xh (k:=0) (v5 hr.u64) w8 (za 5 0) (XO.sh (n:=0) (jp (k:=0) wu)) (nomark _)) (zh (yk (XE.ow (XO.sh (n:=0) (jp (k:=0) wu))))) y3)
  (ze (zx rfl v7.nd rfl (Or.inl rfl) (XE.ow (zw (k:=0) ym yn (zw (k:=0) wj xg (za 1 0) (XO.sh (n:=0) (v9 xc (xf (n:=0) (m:=0) (by decide) (by decide)) (zw (k:=0) xn xo (za 1 0) (zf (n:=0))) (zf (n:=0))))) (zf (n:=0)))))
  (zh (zcf 2 rfl (XE.ow (yr (n:=0) zm zq (za 5 0) (zw (k:=0) ym yn (za 1 0) (zu (k:=0) ye xt rfl T.b_len ww (zc (za 5 0) zg))) (fun _ _=>rfl)))))))))) PassesOwn.never)
  (zh (yk (XE.ow (XO.sh (n:=0) (jw (n:=1) (by decide) (za 2 1) (jl (zhc (zb9 hr) (za 3 1) (yr (n:=0) zm zq (yr (n:=0) zm zq (za 0 0) (yr (n:=1) zm zq (za 2 1) (zcg (k:=0) (zf (n:=0))) (fun _ _=>rfl)) (fun _ _=>rfl)) (zf (n:=0)) (fun _ _=>rfl)) (fun _ _=>rfl))) zll)))))))))
def qw:EF:=(eComp (lsD (eV 1)) 1 [0] (gV 0) bTrue (e2 ixD (e2 ixD (eV 1) (eV 0)) (eC (.int 3))))
def qx:EF:=(eComp (lsD (eV 1)) 1 [0] (gV 0) bTrue (e2 ixD (e2 ixD (eV 1) (eV 0)) (eC (.int 2))))
def uk:List D→Option D:=mOf ["_law_arrows","_law_ring"]
  (sRet (fun ρ=>((aCons (eN sumD (aCons qx aNil)) (aCons (eN sumD (aCons qw aNil)) aNil)) ρ).bind fun ds=>some (.tup ds)))
theorem zco (T:Txt K mg a):FnOk P w K mg base CX0 1 a.f_law_sums a.d_law_sums ["_law_arrows","_law_ring"] (LSp K a.ct [0,0] 0 uk):=by
 refine lift (ms:=[.ow 0,.ow 0]) T.law_sums.fn zgq rfl rfl (by decide) (zl (by decide)) fun cdv A outer s H E hr=>?_
 exact (zh (yk (XE.ow (XO.sh (n:=0) (zbq (yp (XE.ow (zu (k:=0) (za5 rfl) zd4 rfl T.b_sum zg8 (zc (XO.sh (n:=0) (jv (N:=["_law_k","_law_arrows"]) (om:=[.ow 0]) (cap:=[0]) (own:=1) (uc (by rfl)) rfl rfl (by decide) (vo (n:=0) (za 1 0)) (fun _ _ _ _ _=>(we (by decide) rfl (show List.Nodup (["_law_k","_law_arrows"]:List Str) from by decide +kernel) rfl (by first | exact Or.inl rfl | exact Or.inr rfl))) (fun _ _ _ _ _=>vm) (fun _ _ _ _ _=>(XE.ow (yr (n:=0) zm zq (yr (n:=0) zm zq (za 1 0) (za 0 0) (fun _ _=>rfl)) (zf (n:=0)) (fun _ _=>rfl)))))) zg))) (yp (XE.ow (zu (k:=0) (za5 rfl) zd4 rfl T.b_sum zg8 (zc (XO.sh (n:=0) (jv (N:=["_law_k","_law_arrows"]) (om:=[.ow 0]) (cap:=[0]) (own:=1) (uc (by rfl)) rfl rfl (by decide) (vo (n:=0) (za 1 0)) (fun _ _ _ _ _=>(we (by decide) rfl (show List.Nodup (["_law_k","_law_arrows"]:List Str) from by decide +kernel) rfl (by first | exact Or.inl rfl | exact Or.inr rfl))) (fun _ _ _ _ _=>vm) (fun _ _ _ _ _=>(XE.ow (yr (n:=0) zm zq (yr (n:=0) zm zq (za 1 0) (za 0 0) (fun _ _=>rfl)) (zf (n:=0)) (fun _ _=>rfl)))))) zg))) wu)))))))
def vn:SF:=(sPutL 3 (eV 6) (eN max2D (aCons (e2 ixD (eV 3) (eV 6)) (aCons (e2 subD (e2 addD (e2 ixD (eV 3) (eV 5)) (e2 mulI (eV 7) (e2 ixD (eV 1) (eC (.int 1))))) (e2 mulI (e2 ixD (eV 1) (eC (.int 0))) (eV 8))) aNil))))
def zai:SF:=(sFor (lsD (eV 0)) (gT (gsCons (gV 5) (gsCons (gV 6) (gsCons (gV 7) (gsCons (gV 8) gsNil))))) vn)
def zaj:EF:=(eComp (fun ρ=>((aCons (eV 2) aNil) ρ).bind rng1) 1 [] (gV 0) bTrue (eC (.int 0)))
def uv:List D→Option D:=mOf ["_law_arrows","_law_beat","_law_many","_law_tops","_law_step","_law_start","_law_goal","_law_time","_law_behind"]
  (sSeq (sSet 3 zaj)
  (sSeq (sFor (fun ρ=>((aCons (eV 2) aNil) ρ).bind rng1) (gV 4) zai)
  (sRet (eV 3))))
theorem zej (T:Txt K mg a):FnOk P w K mg base CX0 1 a.f_law_pushed a.d_law_pushed ["_law_arrows","_law_beat","_law_many"] (LSp K a.ct [0,0,0] 0 uv):=by
 refine lift (ms:=[.ow 0,.ow 0,.ow 0,.ow 1,.ow 0,.ow 0,.ow 0,.ow 0,.ow 0]) T.law_pushed.fn w6 rfl rfl (by decide) (zl (by decide)) fun cdv A outer s H E hr=>?_
 exact (ze (vd (k:=1) (N:=["_law_k"]) (om:=[.ow 0]) (cap:=[]) (own:=1) rfl w6.nd rfl (Or.inl rfl) (uc (by rfl)) rfl rfl (by decide) (XI.cc (ua (n:=0) T.b_range (zc (za 2 0) zg))) (fun _ _ _ _ _=>(we (by decide) rfl (show List.Nodup (["_law_k"]:List Str) from by decide +kernel) rfl (by first | exact Or.inl rfl | exact Or.inr rfl))) (fun _ _ _ _ _=>vm) (fun _ _ _ _ _=>(XE.ow (zf (n:=0)))))
  (ze (ql (ua (n:=0) T.b_range (zc (za 2 0) zg)) (wk rfl w6.nd rfl (Or.inl rfl)) (zh (ql (zal (za 0 0)) (zfb (n:=0) rfl (ve (wk rfl w6.nd rfl (Or.inl rfl)) (ve (wk rfl w6.nd rfl (Or.inl rfl)) (ve (wk rfl w6.nd rfl (Or.inl rfl)) (ve (wk rfl w6.nd rfl (Or.inl rfl)) zcd))))) (zh (zok 3 rfl (za 6 0) (zu (k:=0) (zi6 rfl) zlm rfl T.b_max zna (zc (yr (n:=1) zm zq (za 3 1) (za 6 0) (fun _ _=>rfl)) (zc (zw (k:=0) zc5 zbd (XO.sh (n:=0) (v9 xc (xf (n:=0) (m:=0) (by decide) (by decide)) (yr (n:=1) zm zq (za 3 1) (za 5 0) (fun _ _=>rfl)) (zw (k:=0) wj xg (za 7 0) (yr (n:=0) zm zq (za 1 0) (zf (n:=0)) (fun _ _=>rfl))))) (zw (k:=0) wj xg (yr (n:=0) zm zq (za 1 0) (zf (n:=0)) (fun _ _=>rfl)) (za 8 0))) zg))))) PassesOwn.never rfl)) PassesOwn.never rfl)
  (zh (zka (i:=3) rfl))))
def u9:EF:=(eComp (fun ρ=>((aCons (eV 1) aNil) ρ).bind rng1) 1 [2,3] (gV 0) bTrue (fun ρ=>((aCons (e2 modD (fun ρ=>((aCons (eV 1) (aCons (e2 addD (eC (.int 9)) (eV 0)) aNil)) ρ).bind fun ds=>yb (ds++[])) (eC (.int 200))) (aCons (e2 addD (eC (.int 1)) (e2 modD (e2 fdivD (eV 2) (eC (.int 5760))) (eC (.int 7)))) aNil)) ρ).bind fun ds=>xv (ds++[])))
def zba:EF:=(eComp (lsD (fun ρ=>((aCons (eV 0) (aCons (eV 5) (aCons (eV 1) aNil))) ρ).bind fun ds=>uv (ds++[]))) 1 [5] (gV 0) bTrue (fun ρ=>((aCons (eV 0) (aCons (e2 ixD (eV 1) (eC (.int 1))) aNil)) ρ).bind fun ds=>xv (ds++[])))
def ja:EF:=(eComp (fun ρ=>((aCons (e2 addD (eC (.int 1)) (e2 modD (e2 fdivD (eV 3) (eC (.int 5760))) (eC (.int 3)))) aNil) ρ).bind rng1) 1 [2,0] (gV 0) bTrue (e2 modD (fun ρ=>((aCons (eV 1) (aCons (e2 addD (eC (.int 4)) (eV 0)) aNil)) ρ).bind fun ds=>yb (ds++[])) (e2 addD (eN lenD (aCons (eV 2) aNil)) (eC (.int 1)))))
def j7:List D→Option D:=mOf ["_law_arrows","_law_many","_law_cell","_law_number","_law_ring","_law_beat","_law_top","_law_bottom","_law_times"]
  (sSeq (sSet 3 (fun ρ=>((aCons (eV 2) (aCons (eC (.int 2)) aNil)) ρ).bind fun ds=>yb (ds++[])))
  (sSeq (sSet 4 (fun ρ=>((aCons (eV 0) (aCons (fun ρ=>((aCons (eV 2) (aCons (eC (.int 3)) aNil)) ρ).bind fun ds=>yb (ds++[])) aNil)) ρ).bind fun ds=>vz (ds++[])))
  (sSeq (sSet 5 (fun ρ=>((aCons (e2 modD (e2 fdivD (eV 3) (eC (.int 12))) (eC (.int 60))) (aCons (e2 addD (eC (.int 1)) (e2 modD (eV 3) (eC (.int 12)))) aNil)) ρ).bind fun ds=>xv (ds++[])))
  (sSeq (sIf (bAnd (tb (e2 (eqD true) (eV 4) (fun ρ=>(aNil ρ).bind fun ds=>some (.lst ds)))) (tb (e2 gtD (e2 modD (e2 fdivD (eV 3) (eC (.int 720))) (eC (.int 8))) (eC (.int 0))))) (sSeq (sAsg (gT (gsCons (gV 6) (gsCons (gV 7) gsNil))) (fun ρ=>((aCons (eV 0) (aCons (eV 4) aNil)) ρ).bind fun ds=>uk (ds++[])))
  (sSet 5 (fun ρ=>((aCons (eV 6) (aCons (eV 7) aNil)) ρ).bind fun ds=>xv (ds++[])))) sSkip)
  (sSeq (sIf (tb (e2 (eqD false) (e2 modD (e2 fdivD (eV 3) (eC (.int 720))) (eC (.int 8))) (eC (.int 1)))) (sSet 4 ja) sSkip)
  (sSeq (sSet 8 zba)
  (sSeq (sIf (tb (e2 (eqD false) (e2 modD (e2 fdivD (eV 3) (eC (.int 720))) (eC (.int 8))) (eC (.int 2)))) (sSet 8 u9) sSkip)
  (sRet (fun ρ=>((aCons (eV 5) (aCons (eV 4) (aCons (eV 8) aNil))) ρ).bind fun ds=>some (.tup ds))))))))))
theorem zfz (T:Txt K mg a):FnOk P w K mg base CX0 3 a.f_law_paper a.d_law_paper ["_law_arrows","_law_many","_law_cell"] (LSp K a.ct [0,0,0] 0 j7):=by
 have G_law_mixed:=ut (P:=P) (w:=w) (base:=base) T
 have G_law_found:=zbt (P:=P) (w:=w) (base:=base) T
 have G_law_lowest:=za8 (P:=P) (w:=w) (base:=base) T
 have G_law_sums:=zco (P:=P) (w:=w) (base:=base) T
 have G_law_pushed:=zej (P:=P) (w:=w) (base:=base) T
 refine lift (ms:=[.ow 0,.ow 0,.ow 0,.ow 0,.ow 0,.ow 0,.ow 0,.ow 0,.ow 0]) T.law_paper.fn wg rfl rfl (by decide) (zl (by decide)) fun cdv A outer s H E hr=>?_
 exact (ze (zx rfl wg.nd rfl (Or.inr rfl) (zj (dds:=[]) (ns:=[0,0]) (nd:=[]) G_law_mixed (hr.mono (by decide)) rfl T.law_mixed.mgx T.law_mixed.fn.kp T.law_mixed.bd .nil (fun _ _=>.nil) (zc (za 2 0) (zc (zf (n:=0)) zg))))
  (ze (zx rfl wg.nd rfl (Or.inl rfl) (zj (dds:=[]) (ns:=[0,0]) (nd:=[]) G_law_found (hr.mono (by decide)) rfl T.law_found.mgx T.law_found.fn.kp T.law_found.bd .nil (fun _ _=>.nil) (zc (za 0 0) (zc (XO.sh (n:=0) (zj (dds:=[]) (ns:=[0,0]) (nd:=[]) G_law_mixed (hr.mono (by decide)) rfl T.law_mixed.mgx T.law_mixed.fn.kp T.law_mixed.bd .nil (fun _ _=>.nil) (zc (za 2 0) (zc (zf (n:=0)) zg)))) zg))))
  (ze (zx rfl wg.nd rfl (Or.inr rfl) (zj (dds:=[]) (ns:=[0,0]) (nd:=[]) G_law_lowest (hr.mono (by decide)) rfl T.law_lowest.mgx T.law_lowest.fn.kp T.law_lowest.bd .nil (fun _ _=>.nil) (zc (zw (k:=0) ym yn (zw (k:=0) xn xo (za 3 0) (zf (n:=0))) (zf (n:=0))) (zc (XO.sh (n:=0) (v9 xc (xf (n:=0) (m:=0) (by decide) (by decide)) (zf (n:=0)) (zw (k:=0) ym yn (za 3 0) (zf (n:=0))))) zg))))
  (ze (vw (XW.t (ze9 (xh (k:=0) (ze7 hr.u64) w8 (za 4 0) (XO.sh (n:=0) (jp (k:=0) wu)) (nomark _)) (zcb (xh (k:=0) zer zbr (zw (k:=0) ym yn (zw (k:=0) xn xo (za 3 0) (zf (n:=0))) (zf (n:=0))) (zf (n:=0)) (nomark _))))) (ze (zju (XO.sh (n:=0) (zj (dds:=[]) (ns:=[0,0]) (nd:=[]) G_law_sums (hr.mono (by decide)) rfl T.law_sums.mgx T.law_sums.fn.kp T.law_sums.bd .nil (fun _ _=>.nil) (zc (za 0 0) (zc (za 4 0) zg)))) (zfb (n:=0) rfl (ve (wk rfl wg.nd rfl (Or.inl rfl)) (ve (wk rfl wg.nd rfl (Or.inl rfl)) zcd))))
  (zh (zx rfl wg.nd rfl (Or.inr rfl) (zj (dds:=[]) (ns:=[0,0]) (nd:=[]) G_law_lowest (hr.mono (by decide)) rfl T.law_lowest.mgx T.law_lowest.fn.kp T.law_lowest.bd .nil (fun _ _=>.nil) (zc (za 6 0) (zc (za 7 0) zg)))))) y3)
  (ze (vw (xh (k:=0) (v5 hr.u64) w8 (zw (k:=0) ym yn (zw (k:=0) xn xo (za 3 0) (zf (n:=0))) (zf (n:=0))) (zf (n:=0)) (nomark _)) (zh (vd (k:=0) (N:=["_law_k","_law_cell","_law_arrows"]) (om:=[.ow 0]) (cap:=[2,0]) (own:=1) rfl wg.nd rfl (Or.inl rfl) (uc (by rfl)) rfl rfl (by decide) (XI.cc (ua (n:=0) T.b_range (zc (XO.sh (n:=0) (v9 xc (xf (n:=0) (m:=0) (by decide) (by decide)) (zf (n:=0)) (zw (k:=0) ym yn (zw (k:=0) xn xo (za 3 0) (zf (n:=0))) (zf (n:=0))))) zg))) (fun _ _ _ _ _=>(we (by decide) rfl (show List.Nodup (["_law_k","_law_cell","_law_arrows"]:List Str) from by decide +kernel) rfl (by first | exact Or.inl rfl | exact Or.inr rfl))) (fun _ _ _ _ _=>vm) (fun _ _ _ _ _=>(XE.ow (zw (k:=0) ym yn (XO.sh (n:=0) (zj (dds:=[]) (ns:=[0,0]) (nd:=[]) G_law_mixed (hr.mono (by decide)) rfl T.law_mixed.mgx T.law_mixed.fn.kp T.law_mixed.bd .nil (fun _ _=>.nil) (zc (za 1 0) (zc (XO.sh (n:=0) (v9 xc (xf (n:=0) (m:=0) (by decide) (by decide)) (zf (n:=0)) (za 0 0))) zg)))) (XO.sh (n:=0) (v9 xc (xf (n:=0) (m:=0) (by decide) (by decide)) (zu (k:=0) ye xt rfl T.b_len ww (zc (za 2 0) zg)) (zf (n:=0))))))))) y3)
  (ze (vd (k:=0) (N:=["_law_top","_law_beat"]) (om:=[.ow 0]) (cap:=[5]) (own:=1) rfl wg.nd rfl (Or.inl rfl) (uc (by rfl)) rfl rfl (by decide) (vo (n:=0) (XO.sh (n:=0) (zj (dds:=[]) (ns:=[0,0,0]) (nd:=[]) G_law_pushed (hr.mono (by decide)) rfl T.law_pushed.mgx T.law_pushed.fn.kp T.law_pushed.bd .nil (fun _ _=>.nil) (zc (za 0 0) (zc (za 5 0) (zc (za 1 0) zg)))))) (fun _ _ _ _ _=>(we (by decide) rfl (show List.Nodup (["_law_top","_law_beat"]:List Str) from by decide +kernel) rfl (by first | exact Or.inl rfl | exact Or.inr rfl))) (fun _ _ _ _ _=>vm) (fun _ _ _ _ _=>(zj (dds:=[]) (ns:=[0,0]) (nd:=[]) G_law_lowest (hr.mono (by decide)) rfl T.law_lowest.mgx T.law_lowest.fn.kp T.law_lowest.bd .nil (fun _ _=>.nil) (zc (za 0 0) (zc (yr (n:=0) zm zq (za 1 0) (zf (n:=0)) (fun _ _=>rfl)) zg)))))
  (ze (vw (xh (k:=0) (v5 hr.u64) w8 (zw (k:=0) ym yn (zw (k:=0) xn xo (za 3 0) (zf (n:=0))) (zf (n:=0))) (zf (n:=0)) (nomark _)) (zh (vd (k:=0) (N:=["_law_k","_law_cell","_law_number"]) (om:=[.ow 0]) (cap:=[2,3]) (own:=1) rfl wg.nd rfl (Or.inl rfl) (uc (by rfl)) rfl rfl (by decide) (XI.cc (ua (n:=0) T.b_range (zc (za 1 0) zg))) (fun _ _ _ _ _=>(we (by decide) rfl (show List.Nodup (["_law_k","_law_cell","_law_number"]:List Str) from by decide +kernel) rfl (by first | exact Or.inl rfl | exact Or.inr rfl))) (fun _ _ _ _ _=>vm) (fun _ _ _ _ _=>(zj (dds:=[]) (ns:=[0,0]) (nd:=[]) G_law_lowest (hr.mono (by decide)) rfl T.law_lowest.mgx T.law_lowest.fn.kp T.law_lowest.bd .nil (fun _ _=>.nil) (zc (zw (k:=0) ym yn (XO.sh (n:=0) (zj (dds:=[]) (ns:=[0,0]) (nd:=[]) G_law_mixed (hr.mono (by decide)) rfl T.law_mixed.mgx T.law_mixed.fn.kp T.law_mixed.bd .nil (fun _ _=>.nil) (zc (za 1 0) (zc (XO.sh (n:=0) (v9 xc (xf (n:=0) (m:=0) (by decide) (by decide)) (zf (n:=0)) (za 0 0))) zg)))) (zf (n:=0))) (zc (XO.sh (n:=0) (v9 xc (xf (n:=0) (m:=0) (by decide) (by decide)) (zf (n:=0)) (zw (k:=0) ym yn (zw (k:=0) xn xo (za 2 0) (zf (n:=0))) (zf (n:=0))))) zg)))))) y3)
  (zh (yk (XE.ow (XO.sh (n:=0) (zbq (yp (XE.ow (za 5 0)) (yp (XE.ow (za 4 0)) (yp (XE.ow (za 8 0)) wu)))))))))))))))
def ji:List D→Option D:=mOf ["_law_beat","_law_cell","_law_number","_law_fine","_law_near","_law_free"]
  (sSeq (sSet 2 (fun ρ=>((aCons (eV 1) (aCons (eC (.int 5)) aNil)) ρ).bind fun ds=>yb (ds++[])))
  (sSeq (sSet 3 (e2 addD (eC (.int 1)) (e2 modD (e2 fdivD (eV 2) (eC (.int 4))) (eC (.int 100000)))))
  (sSeq (sSet 4 (fun ρ=>((aCons (e2 subD (e2 addD (e2 mulI (e2 ixD (eV 0) (eC (.int 0))) (eV 3)) (e2 modD (e2 fdivD (eV 2) (eC (.int 400000))) (eC (.int 3)))) (eC (.int 1))) (aCons (e2 mulI (e2 ixD (eV 0) (eC (.int 1))) (eV 3)) aNil)) ρ).bind fun ds=>xv (ds++[])))
  (sSeq (sSet 5 (fun ρ=>((aCons (e2 subD (e2 modD (e2 fdivD (eV 2) (eC (.int 12))) (eC (.int 60))) (eC (.int 12))) (aCons (e2 addD (eC (.int 1)) (e2 modD (eV 2) (eC (.int 12)))) aNil)) ρ).bind fun ds=>xv (ds++[])))
  (sRet (e2 ixD (fun ρ=>((aCons (eV 4) (aCons (eV 4) (aCons (eV 0) (aCons (eV 5) aNil)))) ρ).bind fun ds=>some (.lst ds)) (e2 modD (eV 2) (eC (.int 4)))))))))
theorem zf0 (T:Txt K mg a):FnOk P w K mg base CX0 3 a.f_law_asked a.d_law_asked ["_law_beat","_law_cell"] (LSp K a.ct [0,0] 0 ji):=by
 have G_law_mixed:=ut (P:=P) (w:=w) (base:=base) T
 have G_law_lowest:=za8 (P:=P) (w:=w) (base:=base) T
 refine lift (ms:=[.ow 0,.ow 0,.ow 0,.ow 0,.ow 0,.ow 0]) T.law_asked.fn ur rfl rfl (by decide) (zl (by decide)) fun cdv A outer s H E hr=>?_
 exact (ze (zx rfl ur.nd rfl (Or.inl rfl) (zj (dds:=[]) (ns:=[0,0]) (nd:=[]) G_law_mixed (hr.mono (by decide)) rfl T.law_mixed.mgx T.law_mixed.fn.kp T.law_mixed.bd .nil (fun _ _=>.nil) (zc (za 1 0) (zc (zf (n:=0)) zg))))
  (ze (zx rfl ur.nd rfl (Or.inl rfl) (XE.ow (XO.sh (n:=0) (v9 xc (xf (n:=0) (m:=0) (by decide) (by decide)) (zf (n:=0)) (zw (k:=0) ym yn (zw (k:=0) xn xo (za 2 0) (zf (n:=0))) (zf (n:=0)))))))
  (ze (zx rfl ur.nd rfl (Or.inl rfl) (zj (dds:=[]) (ns:=[0,0]) (nd:=[]) G_law_lowest (hr.mono (by decide)) rfl T.law_lowest.mgx T.law_lowest.fn.kp T.law_lowest.bd .nil (fun _ _=>.nil) (zc (zw (k:=0) zc5 zbd (XO.sh (n:=0) (v9 xc (xf (n:=0) (m:=0) (by decide) (by decide)) (zw (k:=0) wj xg (yr (n:=0) zm zq (za 0 0) (zf (n:=0)) (fun _ _=>rfl)) (za 3 0)) (zw (k:=0) ym yn (zw (k:=0) xn xo (za 2 0) (zf (n:=0))) (zf (n:=0))))) (zf (n:=0))) (zc (zw (k:=0) wj xg (yr (n:=0) zm zq (za 0 0) (zf (n:=0)) (fun _ _=>rfl)) (za 3 0)) zg))))
  (ze (zx rfl ur.nd rfl (Or.inl rfl) (zj (dds:=[]) (ns:=[0,0]) (nd:=[]) G_law_lowest (hr.mono (by decide)) rfl T.law_lowest.mgx T.law_lowest.fn.kp T.law_lowest.bd .nil (fun _ _=>.nil) (zc (zw (k:=0) zc5 zbd (zw (k:=0) ym yn (zw (k:=0) xn xo (za 2 0) (zf (n:=0))) (zf (n:=0))) (zf (n:=0))) (zc (XO.sh (n:=0) (v9 xc (xf (n:=0) (m:=0) (by decide) (by decide)) (zf (n:=0)) (zw (k:=0) ym yn (za 2 0) (zf (n:=0))))) zg))))
  (zh (yk (XE.ow (yr (n:=0) zm zq (XO.sh (n:=0) (jp (k:=0) (yp (XE.ow (za 4 0)) (yp (XE.ow (za 4 0)) (yp (XE.ow (za 0 0)) (yp (XE.ow (za 5 0)) wu)))))) (zw (k:=0) ym yn (za 2 0) (zf (n:=0))) (fun _ _=>rfl)))))))))
def zek:SF:=(sSeq (sSet 8 (fun ρ=>((aCons (eV 2) (aCons (fun ρ=>((aCons (eV 7) (aCons (eC (.int 6)) aNil)) ρ).bind fun ds=>yb (ds++[])) aNil)) ρ).bind fun ds=>vz (ds++[])))
  (sSeq (sAsg (gT (gsCons (gV 9) (gsCons (gV 10) gsNil))) (fun ρ=>((aCons (eV 2) (aCons (eV 8) aNil)) ρ).bind fun ds=>uk (ds++[])))
  (sSeq (sIf (tb (e2 gtD (e2 mulI (eV 9) (e2 ixD (eV 6) (eC (.int 1)))) (e2 mulI (e2 ixD (eV 6) (eC (.int 0))) (eV 10)))) (sRet (eC (.bl false))) sSkip)
  (sSeq (sSet 11 (fun ρ=>((aCons (eV 6) (aCons (eV 7) aNil)) ρ).bind fun ds=>ji (ds++[])))
  (sSeq (sSet 12 (e2 ltD (e2 mulI (e2 ixD (eV 11) (eC (.int 0))) (e2 ixD (eV 6) (eC (.int 1)))) (e2 mulI (e2 ixD (eV 6) (eC (.int 0))) (e2 ixD (eV 11) (eC (.int 1))))))
  (sIf (tb (e2 (eqD true) (e2 (eqD false) (e2 ixD (fun ρ=>((aCons (eV 3) (aCons (eV 11) aNil)) ρ).bind fun ds=>ug (ds++[])) (eC (.int 0))) (eC (.str "ring"))) (eV 12))) (sRet (eC (.bl false))) sSkip))))))
def zcp:SF:=(sSeq (sSet 5 (fun ρ=>((aCons (eV 2) (aCons (eV 1) (aCons (eV 4) aNil))) ρ).bind fun ds=>j7 (ds++[])))
  (sIf (tb (fun ρ=>((aCons (eV 3) (aCons (eV 5) aNil)) ρ).bind fun ds=>zei (ds++[]))) (sSeq (sSet 6 (e2 ixD (eV 5) (eC (.int 0))))
  (sFor (lsD (e2 addD (fun ρ=>((aCons (fun ρ=>((aCons (eV 0) (aCons (eC (.int 3)) aNil)) ρ).bind fun ds=>xr (ds++[])) aNil) ρ).bind fun ds=>some (.lst ds)) (fun ρ=>((eV 0) ρ).bind fun d=>((pInt (eC (.int 30))) ρ).bind fun l=>((pInt (eC (.int 40))) ρ).bind fun h=>sliceD d l h))) (gV 7) zek)) sSkip))
def zkk:EF:=(eComp (lsD (eV 2)) 1 [] (gV 0) bTrue (fun ρ=>((aCons (eV 0) (aCons (e2 ixD (eV 0) (eC (.int 0))) aNil)) ρ).bind fun ds=>zae (ds++[])))
def zkl:EF:=(eComp (fun ρ=>((aCons (eV 1) aNil) ρ).bind rng1) 1 [] (gV 0) bTrue (e2 addD (eC (.str "a")) (eN strD (aCons (eV 0) aNil))))
def zkm:EF:=(eComp (lsD (fun ρ=>((eV 0) ρ).bind fun d=>((pInt (eC (.int 4))) ρ).bind fun l=>((pInt (eC (.int 20))) ρ).bind fun h=>sliceD d l h)) 1 [1,0] (gV 0) bTrue (fun ρ=>((aCons (eV 0) (aCons (eV 1) (aCons (e2 fdivD (fun ρ=>((aCons (eV 2) (aCons (eC (.int 0)) aNil)) ρ).bind fun ds=>xr (ds++[])) (eC (.int 8))) aNil))) ρ).bind fun ds=>wv (ds++[])))
def zpd:List D→Option D:=mOf ["_law_script","_law_many","_law_arrows","_law_net","_law_cell","_law_paper_here","_law_beat","_law_other","_law_ring","_law_top","_law_bottom","_law_asked_here","_law_is_less"]
  (sSeq (sSet 1 (e2 addD (eC (.int 1)) (e2 modD (fun ρ=>((aCons (eV 0) (aCons (eC (.int 0)) aNil)) ρ).bind fun ds=>xr (ds++[])) (eC (.int 8)))))
  (sSeq (sSet 2 zkm)
  (sSeq (sSet 3 (fun ρ=>((aCons zkl (aCons zkk aNil)) ρ).bind fun ds=>jk 4 (ds++[])))
  (sSeq (sFor (lsD (e2 addD (fun ρ=>((aCons (fun ρ=>((aCons (eV 0) (aCons (eC (.int 1)) aNil)) ρ).bind fun ds=>xr (ds++[])) (aCons (fun ρ=>((aCons (eV 0) (aCons (eC (.int 2)) aNil)) ρ).bind fun ds=>xr (ds++[])) aNil)) ρ).bind fun ds=>some (.lst ds)) (fun ρ=>((eV 0) ρ).bind fun d=>((pInt (eC (.int 20))) ρ).bind fun l=>((pInt (eC (.int 30))) ρ).bind fun h=>sliceD d l h))) (gV 4) zcp)
  (sRet (eC (.bl true)))))))
theorem zrk (T:Txt K mg a):FnOk P w K mg base CX0 8 a.f_law a.d_law ["_law_script"] (LSp K a.ct [0] 0 zpd):=by
 have G_law_cell_at:=zc4 (P:=P) (w:=w) (base:=base) T
 have G_law_arrow:=zfy (P:=P) (w:=w) (base:=base) T
 have G_Net___init:=zec (P:=P) (w:=w) (base:=base) T
 have G_law_made:=zgv (P:=P) (w:=w) (base:=base) T
 have G_law_paper:=zfz (P:=P) (w:=w) (base:=base) T
 have G_holds:=zmi (P:=P) (w:=w) (base:=base) T
 have G_law_found:=zbt (P:=P) (w:=w) (base:=base) T
 have G_law_mixed:=ut (P:=P) (w:=w) (base:=base) T
 have G_law_sums:=zco (P:=P) (w:=w) (base:=base) T
 have G_law_asked:=zf0 (P:=P) (w:=w) (base:=base) T
 have G_times_or_ring:=zbx (P:=P) (w:=w) (base:=base) T
 refine lift (ms:=[.ow 0,.ow 0,.ow 0,.ow 0,.ow 0,.ow 0,.ow 0,.ow 0,.ow 0,.ow 0,.ow 0,.ow 0,.ow 0]) T.law.fn jq rfl rfl (by decide) (zl (by decide)) fun cdv A outer s H E hr=>?_
 exact (ze (zx rfl jq.nd rfl (Or.inr rfl) (XE.ow (XO.sh (n:=0) (v9 xc (xf (n:=0) (m:=0) (by decide) (by decide)) (zf (n:=0)) (zw (k:=0) ym yn (XO.sh (n:=0) (zj (dds:=[]) (ns:=[0,0]) (nd:=[]) G_law_cell_at (hr.mono (by decide)) rfl T.law_cell_at.mgx T.law_cell_at.fn.kp T.law_cell_at.bd .nil (fun _ _=>.nil) (zc (za 0 0) (zc (zf (n:=0)) zg)))) (zf (n:=0)))))))
  (ze (vd (k:=0) (N:=["_law_cell","_law_many","_law_script"]) (om:=[.ow 0]) (cap:=[1,0]) (own:=1) rfl jq.nd rfl (Or.inl rfl) (uc (by rfl)) rfl rfl (by decide) (vo (n:=0) (XO.sh (n:=0) (jw (n:=0) (by decide) (za 0 0) (jl (zf (n:=0))) (jl (zf (n:=0)))))) (fun _ _ _ _ _=>(we (by decide) rfl (show List.Nodup (["_law_cell","_law_many","_law_script"]:List Str) from by decide +kernel) rfl (by first | exact Or.inl rfl | exact Or.inr rfl))) (fun _ _ _ _ _=>vm) (fun _ _ _ _ _=>(zj (dds:=[]) (ns:=[0,0,0]) (nd:=[]) G_law_arrow (hr.mono (by decide)) rfl T.law_arrow.mgx T.law_arrow.fn.kp T.law_arrow.bd .nil (fun _ _=>.nil) (zc (za 0 0) (zc (za 1 0) (zc (zw (k:=0) xn xo (XO.sh (n:=0) (zj (dds:=[]) (ns:=[0,0]) (nd:=[]) G_law_cell_at (hr.mono (by decide)) rfl T.law_cell_at.mgx T.law_cell_at.fn.kp T.law_cell_at.bd .nil (fun _ _=>.nil) (zc (za 2 0) (zc (zf (n:=0)) zg)))) (zf (n:=0))) zg))))))
  (ze (zx rfl jq.nd rfl (Or.inl rfl) (XE.ow (XO.sh (n:=0) (zd5 (c0:=4) (dds:=[]) (ns:=[0,0]) (nd:=[]) ⟨T.Net.mks,T.Net___init.me.at_,T.Net___init.me.fn,T.Net.kp⟩ (by decide) G_Net___init (hr.mono (by decide)) rfl T.Net.mgx T.Net___init.bd .nil (fun _ _=>.nil) (zc (XO.sh (n:=0) (jv (N:=["_law_k"]) (om:=[.ow 0]) (cap:=[]) (own:=1) (uc (by rfl)) rfl rfl (by decide) (XI.cc (ua (n:=0) T.b_range (zc (za 1 0) zg))) (fun _ _ _ _ _=>(we (by decide) rfl (show List.Nodup (["_law_k"]:List Str) from by decide +kernel) rfl (by first | exact Or.inl rfl | exact Or.inr rfl))) (fun _ _ _ _ _=>vm) (fun _ _ _ _ _=>(XE.ow (XO.sh (n:=0) (v9 xc (xf (n:=0) (m:=0) (by decide) (by decide)) (zbp (n:=0)) (zjq (k:=0) zes zox rfl T.b_str zm9 (zc (za 0 0) zg)))))))) (zc (XO.sh (n:=0) (jv (N:=["_law_arrow_here"]) (om:=[.ow 0]) (cap:=[]) (own:=1) (uc (by rfl)) rfl rfl (by decide) (vo (n:=0) (za 2 0)) (fun _ _ _ _ _=>(we (by decide) rfl (show List.Nodup (["_law_arrow_here"]:List Str) from by decide +kernel) rfl (by first | exact Or.inl rfl | exact Or.inr rfl))) (fun _ _ _ _ _=>vm) (fun _ _ _ _ _=>(zj (dds:=[]) (ns:=[0,0]) (nd:=[]) G_law_made (hr.mono (by decide)) rfl T.law_made.mgx T.law_made.fn.kp T.law_made.bd .nil (fun _ _=>.nil) (zc (za 0 0) (zc (yr (n:=0) zm zq (za 0 0) (zf (n:=0)) (fun _ _=>rfl)) zg)))))) zg))))))
  (ze (ql (zal (XO.sh (n:=0) (v9 xc (xf (n:=0) (m:=0) (by decide) (by decide)) (XO.sh (n:=0) (jp (k:=0) (yp (zj (dds:=[]) (ns:=[0,0]) (nd:=[]) G_law_cell_at (hr.mono (by decide)) rfl T.law_cell_at.mgx T.law_cell_at.fn.kp T.law_cell_at.bd .nil (fun _ _=>.nil) (zc (za 0 0) (zc (zf (n:=0)) zg))) (yp (zj (dds:=[]) (ns:=[0,0]) (nd:=[]) G_law_cell_at (hr.mono (by decide)) rfl T.law_cell_at.mgx T.law_cell_at.fn.kp T.law_cell_at.bd .nil (fun _ _=>.nil) (zc (za 0 0) (zc (zf (n:=0)) zg))) wu)))) (XO.sh (n:=0) (jw (n:=0) (by decide) (za 0 0) (jl (zf (n:=0))) (jl (zf (n:=0)))))))) (wk rfl jq.nd rfl (Or.inl rfl)) (ze (zx rfl jq.nd rfl (Or.inl rfl) (zj (dds:=[]) (ns:=[0,0,0]) (nd:=[]) G_law_paper (hr.mono (by decide)) rfl T.law_paper.mgx T.law_paper.fn.kp T.law_paper.bd .nil (fun _ _=>.nil) (zc (za 2 0) (zc (za 1 0) (zc (za 4 0) zg)))))
  (zh (vw (jd (XO.sh (n:=0) (zj (dds:=[]) (ns:=[0,0]) (nd:=[]) G_holds (hr.mono (by decide)) rfl T.holds.mgx T.holds.fn.kp T.holds.bd .nil (fun _ _=>.nil) (zc (za 3 0) (zc (za 5 0) zg))))) (ze (zx rfl jq.nd rfl (Or.inl rfl) (XE.ow (yr (n:=0) zm zq (za 5 0) (zf (n:=0)) (fun _ _=>rfl))))
  (zh (ql (zal (XO.sh (n:=0) (v9 xc (xf (n:=0) (m:=0) (by decide) (by decide)) (XO.sh (n:=0) (jp (k:=0) (yp (zj (dds:=[]) (ns:=[0,0]) (nd:=[]) G_law_cell_at (hr.mono (by decide)) rfl T.law_cell_at.mgx T.law_cell_at.fn.kp T.law_cell_at.bd .nil (fun _ _=>.nil) (zc (za 0 0) (zc (zf (n:=0)) zg))) wu))) (XO.sh (n:=0) (jw (n:=0) (by decide) (za 0 0) (jl (zf (n:=0))) (jl (zf (n:=0)))))))) (wk rfl jq.nd rfl (Or.inl rfl)) (ze (zx rfl jq.nd rfl (Or.inl rfl) (zj (dds:=[]) (ns:=[0,0]) (nd:=[]) G_law_found (hr.mono (by decide)) rfl T.law_found.mgx T.law_found.fn.kp T.law_found.bd .nil (fun _ _=>.nil) (zc (za 2 0) (zc (XO.sh (n:=0) (zj (dds:=[]) (ns:=[0,0]) (nd:=[]) G_law_mixed (hr.mono (by decide)) rfl T.law_mixed.mgx T.law_mixed.fn.kp T.law_mixed.bd .nil (fun _ _=>.nil) (zc (za 7 0) (zc (zf (n:=0)) zg)))) zg))))
  (ze (zju (XO.sh (n:=0) (zj (dds:=[]) (ns:=[0,0]) (nd:=[]) G_law_sums (hr.mono (by decide)) rfl T.law_sums.mgx T.law_sums.fn.kp T.law_sums.bd .nil (fun _ _=>.nil) (zc (za 2 0) (zc (za 8 0) zg)))) (zfb (n:=0) rfl (ve (wk rfl jq.nd rfl (Or.inl rfl)) (ve (wk rfl jq.nd rfl (Or.inl rfl)) zcd))))
  (ze (vw (xh (k:=0) zer zbr (zw (k:=0) wj xg (za 9 0) (yr (n:=0) zm zq (za 6 0) (zf (n:=0)) (fun _ _=>rfl))) (zw (k:=0) wj xg (yr (n:=0) zm zq (za 6 0) (zf (n:=0)) (fun _ _=>rfl)) (za 10 0)) (nomark _)) (zh (yk (XE.ow (zbu (n:=0))))) y3)
  (ze (zx rfl jq.nd rfl (Or.inl rfl) (zj (dds:=[]) (ns:=[0,0]) (nd:=[]) G_law_asked (hr.mono (by decide)) rfl T.law_asked.mgx T.law_asked.fn.kp T.law_asked.bd .nil (fun _ _=>.nil) (zc (za 6 0) (zc (za 7 0) zg))))
  (ze (zx rfl jq.nd rfl (Or.inl rfl) (XE.ow (jj (k:=0) zdo za4 (zw (k:=0) wj xg (yr (n:=0) zm zq (za 11 0) (zf (n:=0)) (fun _ _=>rfl)) (yr (n:=0) zm zq (za 6 0) (zf (n:=0)) (fun _ _=>rfl))) (zw (k:=0) wj xg (yr (n:=0) zm zq (za 6 0) (zf (n:=0)) (fun _ _=>rfl)) (yr (n:=0) zm zq (za 11 0) (zf (n:=0)) (fun _ _=>rfl))) (nomark _))))
  (zh (vw (xh (k:=0) (ze7 hr.u64) w8 (jj (k:=0) (v5 hr.u64) w8 (yr (n:=0) zm zq (XO.sh (n:=0) (zj (dds:=[]) (ns:=[0,0]) (nd:=[]) G_times_or_ring (hr.mono (by decide)) rfl T.times_or_ring.mgx T.times_or_ring.fn.kp T.times_or_ring.bd .nil (fun _ _=>.nil) (zc (za 3 0) (zc (za 11 0) zg)))) (zf (n:=0)) (fun _ _=>rfl)) (zbp (n:=0)) (nomark _)) (za 12 0) (nomark _)) (zh (yk (XE.ow (zbu (n:=0))))) y3))))))) PassesOwn.never rfl))) y3))) PassesOwn.never rfl)
  (zh (yk (XE.ow (zbu (n:=0)))))))))
end
local macro_rules | `(tactic| walk_at "mir")=>`(tactic| simp -implicitDefEqProofs [mOf,startD,sSeq,sIf,sSet,sRet,sRetN,sDrop,sPar,sAsg,sApp,sFor,lsD,zot,sSkip,eV,eC,e1,e2,eN,aNil,aCons,pNo,pInt,zdc,tb,zrc,bNot,bAnd,bOr,eB,eIf,gV,gT,gsCons,gsNil,zlp,zlr,zjy,zoq,zbf,zor,vf,zlt,zls,zlu,zos,zrb,D.isN,D.isB,zd2,zrd,zjx,u4,j9,zdb,zln,zlo,zhj,zdc,zfg,zjz,sFz,zl5,zl6, *])
def vec (n:Nat) (f:Nat→Int):List D:=(List.range n).map fun g=>D.int (f g)
theorem zpe (n:Nat) (f:Nat→Int):(vec n f).length=n:=by simp [vec]
theorem zcq {n:Nat} (f:Nat→Int) {g:Nat} (h:g<n):atI (vec n f) (g:Int)=some (.int (f g)):=by
 refine qj ?_
 simp [vec,h]
theorem zgw {n:Nat} (f:Nat→Int) {g:Nat} (h:g<n) (v:Int):setAt (vec n f) (g:Int) (.int v)=some (vec n fun x=>if x=g then v else f x):=by
 unfold setAt
 have hx:ixN (vec n f).length (g:Int)=some g:=by
  unfold ixN
  rw [zpe]
  rw [if_pos (by omega),if_pos (by omega)]
  simp
 rw [hx]
 simp only [Option.bind_some,Option.some.injEq]
 apply List.ext_getElem
 ·simp [vec]
 ·intro i h1 h2
  simp [vec,List.getElem_set]
  by_cases hi:g=i
  ·subst hi; simp
  ·rw [if_neg hi,if_neg (fun z=>hi z.symm)]
theorem zkn {i:Nat} {fj f:EF} {gi:Int→Int→Int} {ρ:L3.Env} {n g:Nat} {w:Nat→Int} {y:Int} (h1:(ρ[i]?).join=some (.lst (vec n w))) (h2:fj ρ=some (.int (g:Int))) (h3:f ρ=some (.int y)) (hg:g<n) :
  sAugL i fj gi f ρ=some (.nx (ρ.set i (some (.lst (vec n fun x=>if x=g then gi (w g) y else w x))))):=by
 unfold sAugL
 have:eV i ρ=some (.lst (vec n w)):=h1
 rw [this,h2,h3]
 simp only [Option.bind_some,zcq w hg,zgw w hg]
def nats (p:List Nat):List D:=p.map fun (x:Nat)=>D.int (x:Int)
theorem zdj {f:EF} {r:L3.Env} {n:Nat} (h:f r=some (.int (n:Int))) (hn:n≤1000000):((aCons f aNil) r).bind rng1=some ((List.range n).map fun (t:Nat)=>D.int (t:Int)):=by
 have e:(aCons f aNil) r=some [.int (n:Int)]:=by unfold aCons; rw [h]; rfl
 rw [e,Option.bind_some,zb0 (by omega) (by omega)]
 unfold upto
 simp
theorem zel {α:Type} {fi:L3.Env→Option (List D)} {own:Nat} {cap:List Nat} {g:D→L3.Env→Option L3.Env} {p:BF} {f:EF} {r:L3.Env} (enc:α→D) (q:α→Bool) (h:α→D) (xs:List α) (hi:fi r=some (xs.map enc)) (hl:xs.length≤16777216)
  (st:∀x∈xs,∃ρ1,g (enc x) (List.replicate own none++capsD r cap)=some ρ1∧p ρ1=some (q x)∧(q x=true→f ρ1=some (h x))):eComp fi own cap g p f r=some (.lst ((xs.filter q).map h)):=by
 unfold eComp
 rw [hi]
 simp only [Option.bind_some,List.length_map]
 rw [if_pos hl,zfi enc q h xs st]
 rfl
theorem zpf {n i:Nat} (h:i<n):ixN n (i:Int)=some i:=by
 unfold ixN
 rw [if_pos (by omega),if_pos (by omega)]
 simp
theorem uo {α:Type} {fi:L3.Env→Option (List D)} {own:Nat} {cap:List Nat} {g:D→L3.Env→Option L3.Env} {f:EF} {r:L3.Env} (enc:α→D) (h:α→D) (xs:List α) (hi:fi r=some (xs.map enc)) (hl:xs.length≤16777216)
  (st:∀x∈xs,∃ρ1,g (enc x) (List.replicate own none++capsD r cap)=some ρ1∧f ρ1=some (h x)):eComp fi own cap g bTrue f r=some (.lst (xs.map h)):=by
 have:=zel (p:=bTrue) enc (fun _=>true) h xs hi hl fun x hx=>by
  obtain ⟨ρ1,h1,h2⟩:=st x hx
  exact ⟨ρ1,h1,rfl,fun _=>h2⟩
 rw [this,List.filter_eq_self.mpr fun _ _=>rfl]
inductive Kd where
 | ride | wait | back
deriving DecidableEq
structure Arw where
 c:Kd
 s:Nat
 g:Nat
 t:Int
 b:Nat
deriving DecidableEq
namespace Kahn
def cnt (W:List Arw) (P:List Nat) (g:Nat):Nat:=W.countP fun a=>decide (a.g=g∧a.s∉P)
structure Ok (W:List Arw) (many:Nat) (p:List Nat):Prop where
 nd:p.Nodup
 lt:∀x∈p,x<many
 ord:∀(i x:Nat),p[i]?=some x→∀a∈W,a.g=x→a.s∈p.take i
theorem Ok.snoc {W:List Arw} {many:Nat} {p:List Nat} {x:Nat} (h:Ok W many p) (hx:x∉p) (hl:x<many) (ho:∀a∈W,a.g=x→a.s∈p):Ok W many (p++[x]) where
 nd:=by
  rw [List.nodup_append]
  exact ⟨h.nd,by simp,fun a ha b hb e=>by simp at hb; subst hb; subst e; exact hx ha⟩
 lt:=fun y hy=>by
  rcases List.mem_append.mp hy with hy | hy
  ·exact h.lt y hy
  ·simp at hy; subst hy; exact hl
 ord:=fun i y hy a ha e=>by
  by_cases hi:i<p.length
  ·rw [List.getElem?_append_left hi] at hy
   rw [List.take_append_of_le_length (by omega)]
   exact h.ord i y hy a ha e
  ·rw [List.getElem?_append_right (by omega)] at hy
   have hi':i-p.length=0:=by
    cases hq:i-p.length with
    | zero=>rfl
    | succ k=>rw [hq] at hy; simp at hy
   rw [hi'] at hy
   simp at hy
   subst hy
   have:i=p.length:=by omega
   rw [this,List.take_left']
   ·exact ho a ha e
   ·rfl
def stp (here:Nat) (S:(Nat→Int)×List Nat) (a:Arw):(Nat→Int)×List Nat :=
 if a.s=here then
  let f':Nat→Int:=fun x=>if x=a.g then S.1 a.g-1 else S.1 x
  (f',if f' a.g=0 then S.2++[a.g] else S.2)
 else S
structure In (W:List Arw) (many:Nat) (P:List Nat) (here:Nat) (pre:List Arw) (S:(Nat→Int)×List Nat):Prop where
 ok:Ok W many S.2
 f:∀g,S.1 g=(cnt W P g:Int)-(pre.countP fun a=>decide (a.g=g∧a.s=here):Nat)
 z:∀g,g<many→(g∈S.2↔S.1 g=0)
 sub:∀x,(x∈P∨x=here)→x∈S.2
theorem zrl {W pre post:List Arw} {P:List Nat} {here:Nat} {a:Arw} (e:W=pre++a::post) (hP:here∉P) (ha:a.s=here):(pre.countP fun x=>decide (x.g=a.g∧x.s=here))+1≤cnt W P a.g:=by
 unfold cnt
 rw [e,List.countP_append,List.countP_cons]
 have h1:(pre.countP fun x=>decide (x.g=a.g∧x.s=here))≤pre.countP fun x=>decide (x.g=a.g∧x.s∉P):=by
  apply List.countP_mono_left
  intro x _ hx
  simp at hx ⊢
  exact ⟨hx.1,by rw [hx.2]; exact hP⟩
 have h2:(decide (a.g=a.g∧a.s∉P))=true:=by simp [ha,hP]
 rw [h2]
 simp only [if_true]
 omega
theorem In.step {W pre post:List Arw} {many:Nat} {P:List Nat} {here:Nat} {a:Arw} {S:(Nat→Int)×List Nat} (h:In W many P here pre S) (e:W=pre++a::post) (hP:here∉P) (hl:a.g<many):In W many P here (pre++[a]) (stp here S a):=by
 by_cases ha:a.s=here
 ·have hge:=zrl e hP ha
  have hf:∀g,(if g=a.g then S.1 a.g-1 else S.1 g)=(cnt W P g:Int)-((pre++[a]).countP fun x=>decide (x.g=g∧x.s=here):Nat):=fun g=>by
   rw [List.countP_append,List.countP_singleton]
   by_cases hg:g=a.g
   ·subst hg
    rw [if_pos rfl,h.f]
    have:decide (a.g=a.g∧a.s=here)=true:=by simp [ha]
    rw [this]
    simp only [if_true]
    omega
   ·rw [if_neg hg,h.f]
    have:decide (a.g=g∧a.s=here)=false:=by simp; intro z; exact absurd z.symm hg
    rw [this]
    simp
  have hne:S.1 a.g≠0:=by rw [h.f]; omega
  have hnot:a.g∉S.2:=fun z=>hne ((h.z a.g hl).mp z)
  by_cases h0:S.1 a.g-1=0
  ·have es:stp here S a=(fun x=>if x=a.g then S.1 a.g-1 else S.1 x,S.2++[a.g]):=by unfold stp; simp [ha,h0]
   rw [es]
   refine ⟨h.ok.snoc hnot hl fun b hb eb=>?_,hf,fun g hg=>?_,fun x hx=>List.mem_append_left _ (h.sub x hx)⟩
   ·
    refine h.sub _ (Classical.byContradiction fun hc=>?_)
    have hc1:b.s∉P:=fun z=>hc (.inl z)
    have hc2:b.s≠here:=fun z=>hc (.inr z)
    have h1:cnt W P a.g=(pre.countP fun x=>decide (x.g=a.g∧x.s=here))+1:=by
     have:=h.f a.g
     omega
    have h2:(W.countP fun x=>decide (x.g=a.g∧x.s=here))+(W.countP fun x=>decide (x.g=a.g∧x.s∉P∧x.s≠here))≤cnt W P a.g:=by
     have:cnt W P a.g=(W.countP fun x=>decide (x.g=a.g∧x.s=here))+(W.countP fun x=>decide (x.g=a.g∧x.s∉P∧x.s≠here)):=by
      unfold cnt
      clear h1 hc hc1 hc2 eb hb h0 hf hge e h
      induction W with
      | nil=>rfl
      | cons x W ih =>
       simp only [List.countP_cons]
       rw [ih]
       by_cases q1:x.g=a.g <;> by_cases q2:x.s=here <;> by_cases q3:x.s∈P <;> simp_all <;> omega
     omega
    have h3:(pre.countP fun x=>decide (x.g=a.g∧x.s=here))+1≤W.countP fun x=>decide (x.g=a.g∧x.s=here):=by
     rw [e,List.countP_append,List.countP_cons]
     have:decide (a.g=a.g∧a.s=here)=true:=by simp [ha]
     rw [this]
     simp only [if_true]
     omega
    have h4:0<W.countP fun x=>decide (x.g=a.g∧x.s∉P∧x.s≠here):=by
     rw [List.countP_pos_iff]
     exact ⟨b,hb,by simp [eb,hc1,hc2]⟩
    omega
   ·rw [List.mem_append,List.mem_singleton]
    by_cases hg2:g=a.g
    ·subst hg2; simp [h0]
    ·dsimp only; rw [if_neg hg2,h.z g hg]; simp [hg2]
  ·have es:stp here S a=(fun x=>if x=a.g then S.1 a.g-1 else S.1 x,S.2):=by unfold stp; simp [ha,h0]
   rw [es]
   refine ⟨h.ok,hf,fun g hg=>?_,h.sub⟩
   by_cases hg2:g=a.g
   ·subst hg2
    dsimp only
    rw [if_pos rfl]
    exact ⟨fun z=>absurd z hnot,fun z=>absurd z h0⟩
   ·dsimp only; rw [if_neg hg2]; exact h.z g hg
 ·have:stp here S a=S:=by unfold stp; rw [if_neg ha]
  rw [this]
  refine ⟨h.ok,fun g=>?_,h.z,h.sub⟩
  rw [List.countP_append,List.countP_singleton]
  have:decide (a.g=g∧a.s=here)=false:=by simp [ha]
  rw [this,h.f]
  simp
theorem In.fold {W:List Arw} {many:Nat} {P:List Nat} {here:Nat} (hP:here∉P) (hl:∀a∈W,a.g<many):∀(post pre:List Arw) (S:(Nat→Int)×List Nat),W=pre++post→In W many P here pre S→In W many P here W (post.foldl (stp here) S)
 | [],pre,S,e,h=>by rw [e] ; simpa using (by rw [List.append_nil] at e; subst e; exact h)
 | a::post,pre,S,e,h=>by
  have:=In.fold hP hl post (pre++[a]) (stp here S a) (by rw [e]; simp) (h.step e hP (hl a (by rw [e]; simp)))
  exact this
theorem zmj {W:List Arw} {P:List Nat} {here g:Nat} (hP:here∉P):(cnt W P g:Int)-(W.countP fun a=>decide (a.g=g∧a.s=here):Nat)=cnt W (P++[here]) g:=by
 have:cnt W P g=(W.countP fun a=>decide (a.g=g∧a.s=here))+cnt W (P++[here]) g:=by
  unfold cnt
  induction W with
  | nil=>rfl
  | cons x W ih =>
   simp only [List.countP_cons]
   rw [ih]
   by_cases q1:x.g=g <;> by_cases q2:x.s=here <;> by_cases q3:x.s∈P <;> simp_all <;> omega
 omega
structure Wh (W:List Arw) (many:Nat) (f:Nat→Int) (p:List Nat) (d:Nat):Prop where
 ok:Ok W many p
 dl:d≤p.length
 fe:∀g,f g=cnt W (p.take d) g
 z:∀g,g<many→(g∈p↔f g=0)
theorem Wh.step {W:List Arw} {many:Nat} {f:Nat→Int} {p:List Nat} {d here:Nat} (h:Wh W many f p d) (hl:∀a∈W,a.g<many) (hh:p[d]?=some here) :
  Wh W many (W.foldl (stp here) (f,p)).1 (W.foldl (stp here) (f,p)).2 (d+1)∧∃q,(W.foldl (stp here) (f,p)).2=p++q:=by
 have hd:d<p.length:=(List.getElem?_eq_some_iff.mp hh).1
 have hP:here∉p.take d:=fun z=>by
  obtain ⟨i,hi,e⟩:=List.mem_iff_getElem.mp z
  have hi':i<d:=by rw [List.length_take] at hi; omega
  rw [List.getElem_take] at e
  have e2:p[d]=here:=by have:=List.getElem?_eq_some_iff.mp hh; exact this.2
  have:=(List.getElem_inj (xs:=p) (h₀:=by omega) (h₁:=hd) h.ok.nd).mp (e.trans e2.symm)
  omega
 have hext:∀(l:List Arw) (S:(Nat→Int)×List Nat),∃q,(l.foldl (stp here) S).2=S.2++q:=by
  intro l
  induction l with
  | nil=>exact fun S=>⟨[],by simp⟩
  | cons a l ih =>
   intro S
   obtain ⟨q,hq⟩:=ih (stp here S a)
   have:∃r,(stp here S a).2=S.2++r:=by
    by_cases ha:a.s=here
    ·by_cases h0:S.1 a.g-1=0
     ·exact ⟨[a.g],by unfold stp; simp [ha,h0]⟩
     ·exact ⟨[],by unfold stp; simp [ha,h0]⟩
    ·exact ⟨[],by unfold stp; simp [ha]⟩
   obtain ⟨r,hr⟩:=this
   exact ⟨r++q,by rw [List.foldl_cons,hq,hr,List.append_assoc]⟩
 obtain ⟨q,hq⟩:=hext W (f,p)
 have I:=In.fold hP hl W [] (f,p) rfl ⟨h.ok,fun g=>by show f g=_; rw [h.fe]; simp,h.z,fun x hx=>by
  rcases hx with hx | rfl
  ·exact List.mem_of_mem_take hx
  ·exact List.mem_iff_getElem?.mpr ⟨d,hh⟩⟩
 have htake:(W.foldl (stp here) (f,p)).2.take (d+1)=p.take d++[here]:=by
  rw [hq]
  show (p++q).take (d+1)=_
  rw [List.take_append_of_le_length (by omega),List.take_succ,hh]
  rfl
 refine ⟨⟨I.ok,?_,fun g=>?_,I.z⟩,q,hq⟩
 ·rw [hq]
  show d+1≤(p++q).length
  rw [List.length_append]; omega
 ·rw [I.f,htake]
  exact zmj hP
theorem cnt_zero {W:List Arw} {P:List Nat} {g:Nat}:cnt W P g=0↔∀a∈W,a.g=g→a.s∈P:=by
 unfold cnt
 rw [List.countP_eq_zero]
 constructor
 ·intro h a ha e
  have:=h a ha
  simp at this
  exact Classical.byContradiction fun z=>z (this e)
 ·intro h a ha
  simp
  exact h a ha
theorem Wh.all {W:List Arw} {many:Nat} {f:Nat→Int} {p:List Nat} (h:Wh W many f p p.length) (rank:Nat→Nat) (hr:∀a∈W,rank a.s<rank a.g) (hs:∀a∈W,a.s<many):∀g,g<many→g∈p:=by
 have:∀n g,rank g<n→g<many→g∈p:=by
  intro n
  induction n with
  | zero=>intro g h; omega
  | succ n ih =>
   intro g hg hl
   rw [h.z g hl,h.fe,List.take_length]
   have:cnt W p g=0:=cnt_zero.mpr fun a ha e=>ih a.s (by have:=hr a ha; rw [e] at this; omega) (hs a ha)
   rw [this]; rfl
 exact fun g hl=>this (rank g+1) g (by omega) hl
theorem len_of {many:Nat} {p:List Nat} (nd:p.Nodup) (lt:∀x∈p,x<many) (all:∀g,g<many→g∈p):p.length=many:=by
 have h1:p.Perm (List.range many):=by
  rw [List.perm_ext_iff_of_nodup nd List.nodup_range]
  intro a
  rw [List.mem_range]
  exact ⟨lt a,all a⟩
 simpa using h1.length_eq
theorem len_le {many:Nat} {p:List Nat} (nd:p.Nodup) (lt:∀x∈p,x<many):p.length≤many:=by
 have h1:(p++(List.range many).filter fun x=>decide (x∉p)).Perm (List.range many):=by
  rw [List.perm_ext_iff_of_nodup (by
   rw [List.nodup_append]
   refine ⟨nd,List.nodup_range.filter _,fun a ha b hb e=>?_⟩
   subst e
   simp at hb
   exact hb.2 ha) List.nodup_range]
  intro a
  rw [List.mem_append,List.mem_filter,List.mem_range]
  constructor
  ·rintro (h | h)
   ·exact lt a h
   ·exact h.1
  ·intro h
   by_cases ha:a∈p
   ·exact .inl ha
   ·exact .inr ⟨h,by simpa using ha⟩
 have:=h1.length_eq
 rw [List.length_append,List.length_range] at this
 omega
end Kahn
def Kd.n:Kd→Nat
 | .ride=>1 | .wait=>2 | .back=>3
def encA (a:Arw):D:=.obj a.c.n ["start","goal","time","behind"] [.int a.s,.int a.g,.int a.t,.int a.b]
theorem fs (a:Arw):fldD [0,1,2,3] "start" (encA a)=some (.int a.s):=by obtain ⟨c,_,_,_,_⟩:=a; cases c <;> rfl
theorem fg (a:Arw):fldD [0,1,2,3] "goal" (encA a)=some (.int a.g):=by obtain ⟨c,_,_,_,_⟩:=a; cases c <;> rfl
theorem ft (a:Arw):fldD [0,1,2,3] "time" (encA a)=some (.int a.t):=by obtain ⟨c,_,_,_,_⟩:=a; cases c <;> rfl
theorem fb (a:Arw):fldD [0,1,2,3] "behind" (encA a)=some (.int a.b):=by obtain ⟨c,_,_,_,_⟩:=a; cases c <;> rfl
structure Right (many:Nat) (a:Arw):Prop where
 s:a.s<many
 g:a.g<many
 t0:0≤a.t
 t1:a.t≤1000000000
 b:a.b≤4
 r:a.c=.ride→a.b=0
 k:a.c=.back→1≤a.b
theorem zaf {n l m:Int} (h1:l≤n) (h2:n≤m):yt [.int n,.int l,.int m]=some (.bl true):=by
 unfold yt
 have q1 (i:Int):isiD "int" (.int i)=some (.bl true):=rfl
 have q2 (i:Int):isiD "bool" (.int i)=some (.bl false):=rfl
 walk_at "mir"
theorem isA (all sub:List Nat) (a:Arw):isiC all sub (encA a)=if all.contains a.c.n=true then some (.bl (sub.contains a.c.n)) else none:=rfl
theorem zpg {many:Nat} {a:Arw} (h:Right many a):zad [encA a,.int (many:Int)]=some (.bl true):=by
 have w1:yt [.int (a.s:Int),.int 0,.int ((many:Int)-1)]=some (.bl true):=zaf (by omega) (by have:=h.s; omega)
 have w2:yt [.int (a.g:Int),.int 0,.int ((many:Int)-1)]=some (.bl true):=zaf (by omega) (by have:=h.g; omega)
 have w3:yt [.int a.t,.int 0,.int 1000000000]=some (.bl true):=zaf h.t0 h.t1
 have f1:=fs a
 have f2:=fg a
 have f3:=ft a
 have f4:=fb a
 have hi:=fun all sub=>isA all sub a
 have hb:=h.b
 have hr:=h.r
 have hk:=h.k
 clear h
 unfold zad
 cases hc:a.c with
 | ride =>
  have w4:yt [.int (a.b:Int),.int 0,.int 0]=some (.bl true):=zaf (by omega) (by have:=hr hc; omega)
  rw [hc] at hi
  clear hr hk hb
  have hn:Kd.ride.n=1:=rfl
  walk_at "mir"
 | wait =>
  have w4:yt [.int (a.b:Int),.int 0,.int 4]=some (.bl true):=zaf (by omega) (by omega)
  rw [hc] at hi
  clear hr hk hb
  have hn:Kd.wait.n=2:=rfl
  walk_at "mir"
 | back =>
  have w4:yt [.int (a.b:Int),.int 1,.int 4]=some (.bl true):=zaf (by have:=hk hc; omega) (by omega)
  rw [hc] at hi
  clear hr hk hb
  have hn:Kd.back.n=3:=rfl
  walk_at "mir"
def W0 (as:List Arw):List Arw:=as.filter fun a=>decide (a.b=0)
theorem zem (as:List Arw) (l:as.length≤16777216) (r:L3.Env) (h:r[1]?.join=some (.lst (as.map encA))) :
  jt r=some (.lst ((W0 as).map encA)):=by
 have e:lsD (eV 1) r=some (as.map encA):=by unfold lsD; have:eV 1 r=some (.lst (as.map encA)):=h; rw [this]; rfl
 refine zel encA (fun a=>decide (a.b=0)) encA as e l fun a _=>⟨_,rfl,?_,fun _=>rfl⟩
 have:=fb a
 walk_at "mir"
def cst (s:(Nat→Int)×Option D) (a:Arw):(Nat→Int)×Option D:=(fun x=>if x=a.g then s.1 a.g+1 else s.1 x,some (encA a))
theorem zhq:∀(W:List Arw) (s:(Nat→Int)×Option D) (g:Nat),(W.foldl cst s).1 g=s.1 g+(W.countP fun a=>decide (a.g=g):Nat)
 | [],s,g=>by simp
 | a::W,s,g=>by
  rw [List.foldl_cons,zhq W,List.countP_cons]
  by_cases hg:g=a.g
  ·subst hg; simp [cst]; omega
  ·have:decide (a.g=g)=false:=by simp; exact fun z=>hg z.symm
   simp [cst,hg,this]
theorem zhr (p:List Nat) (x:Nat):nats p++[D.int (x:Int)]=nats (p++[x]):=by simp [nats]
theorem zph {many:Nat} {as:List Arw} {f:Nat→Int} {p:List Nat} {here d:Nat} {x4:Option D} (hm:many≤1000) (hW:∀a∈W0 as,a.s<many∧a.g<many) (h:Kahn.Wh (W0 as) many f p d) (hh:p[d]?=some here) :
  ∃x,forD (gV 4) wy ((W0 as).map encA) [some (.int (many:Int)),some (.lst (as.map encA)),some (.lst ((W0 as).map encA)),some (.lst (vec many f)),x4,some (.lst (nats p)),some (.int (d:Int)),some (.int (here:Int))] =
   some (.nx [some (.int (many:Int)),some (.lst (as.map encA)),some (.lst ((W0 as).map encA)),some (.lst (vec many ((W0 as).foldl (Kahn.stp here) (f,p)).1)),x,some (.lst (nats ((W0 as).foldl (Kahn.stp here) (f,p)).2)),some (.int (d:Int)),some (.int (here:Int))]):=by
 have hd:d<p.length:=(List.getElem?_eq_some_iff.mp hh).1
 have hP:here∉p.take d:=fun z=>by
  obtain ⟨i,hi,e⟩:=List.mem_iff_getElem.mp z
  have hi':i<d:=by rw [List.length_take] at hi; omega
  rw [List.getElem_take] at e
  have e2:p[d]=here:=(List.getElem?_eq_some_iff.mp hh).2
  have:=(List.getElem_inj (xs:=p) (h₀:=by omega) (h₁:=hd) h.ok.nd).mp (e.trans e2.symm)
  omega
 obtain ⟨ρ',h1,x,pre,e1,e2⟩:=zhi (g:=gV 4) (b:=wy) (ds:=(W0 as).map encA) (ρ:=[some (.int (many:Int)),some (.lst (as.map encA)),some (.lst ((W0 as).map encA)),some (.lst (vec many f)),x4,some (.lst (nats p)),some (.int (d:Int)),some (.int (here:Int))])
  (fun ds ρ=>∃x pre,ds=pre.map encA∧(∃post,W0 as=pre++post)∧Kahn.In (W0 as) many (p.take d) here pre (pre.foldl (Kahn.stp here) (f,p))∧ρ=[some (.int (many:Int)),some (.lst (as.map encA)),some (.lst ((W0 as).map encA)),some (.lst (vec many (pre.foldl (Kahn.stp here) (f,p)).1)),x,some (.lst (nats (pre.foldl (Kahn.stp here) (f,p)).2)),some (.int (d:Int)),some (.int (here:Int))])
  ⟨x4,[],rfl,⟨_,rfl⟩,⟨h.ok,fun g=>by show f g=_; rw [h.fe]; simp,h.z,fun x hx=>by
   rcases hx with hx | rfl
   ·exact List.mem_of_mem_take hx
   ·exact List.mem_iff_getElem?.mpr ⟨d,hh⟩⟩,rfl⟩ (by
  rintro ds dd post ρ e ⟨x,pre,rfl,⟨post',e'⟩,I,rfl⟩
  rw [e',List.map_append] at e
  have e3:=List.append_cancel_left e
  cases post' with
  | nil=>cases e3
  | cons a post' =>
   rw [List.map_cons] at e3
   cases e3
   have ha:a∈W0 as:=by rw [e']; simp
   have hl:=Kahn.len_le I.ok.nd I.ok.lt
   have I2:=I.step e' hP (hW a ha).2
   refine ⟨_,_,rfl,.inl ?_,some (encA a),pre++[a],by simp,⟨post',by rw [e']; simp⟩,by rw [List.foldl_append]; exact I2,rfl⟩
   rw [List.foldl_append]
   generalize pre.foldl (Kahn.stp here) (f,p)=S at hl
   show wy _=some (.nx [_,_,_,some (.lst (vec many (Kahn.stp here S a).1)),_,some (.lst (nats (Kahn.stp here S a).2)),_,_])
   have f1:=fs a
   have f2:=fg a
   have hlen:(nats S.2).length<16777216:=by simp [nats]; omega
   unfold wy
   by_cases hs:a.s=here
   ·have hs':((a.s:Nat):Int)=(here:Int):=by rw [hs]
    have au:=zkn (i:=3) (fj:=e1 (fldD [0,1,2,3] "goal") (eV 4)) (f:=eC (.int 1)) (gi:=fun i j=>i-j) (ρ:=[some (.int (many:Int)),some (.lst (as.map encA)),some (.lst ((W0 as).map encA)),some (.lst (vec many S.1)),some (encA a),some (.lst (nats S.2)),some (.int (d:Int)),some (.int (here:Int))]) (n:=many) (g:=a.g) (w:=S.1) (y:=1) rfl (by walk_at "mir") rfl (hW a ha).2
    have va:ixD (.lst (vec many fun x=>if x=a.g then S.1 a.g-1 else S.1 x)) (.int (a.g:Int))=some (.int (S.1 a.g-1)):=by
     have:=zcq (fun x=>if x=a.g then S.1 a.g-1 else S.1 x) (hW a ha).2
     rw [if_pos rfl] at this
     exact this
    by_cases h0:S.1 a.g-1=0
    ·have es:Kahn.stp here S a=(fun x=>if x=a.g then S.1 a.g-1 else S.1 x,S.2++[a.g]):=by unfold Kahn.stp; simp [hs,h0]
     rw [es,← zhr]
     rw [h0] at va
     clear I I2 e' es
     walk_at "mir"
    ·have es:Kahn.stp here S a=(fun x=>if x=a.g then S.1 a.g-1 else S.1 x,S.2):=by unfold Kahn.stp; simp [hs,h0]
     rw [es]
     clear I I2 e' es
     walk_at "mir"
   ·have es:Kahn.stp here S a=S:=by unfold Kahn.stp; rw [if_neg hs]
    rw [es]
    have hs':¬((a.s:Nat):Int)=(here:Int):=by omega
    clear I I2 e' es
    walk_at "mir")
 obtain ⟨⟨post,e2⟩,I,rfl⟩:=e2
 have:pre=W0 as:=by
  have:=congrArg List.length e1
  rw [List.length_map,List.length_map] at this
  rw [e2,List.length_append] at this
  have hp:post=[]:=List.eq_nil_of_length_eq_zero (by omega)
  rw [e2,hp,List.append_nil]
 rw [this] at h1
 exact ⟨x,h1⟩
theorem zmk {many:Nat} (as:List Arw) (l:as.length≤1000) (hm:many≤1000) (hs:∀a∈as,a.s<many∧a.g<many) :
  ∃(f:Nat→Int) (p:List Nat),vh [.int (many:Int),.lst (as.map encA)]=some (.lst (nats p))∧Kahn.Wh (W0 as) many f p p.length:=by
 have hW:∀a∈W0 as,a.s<many∧a.g<many:=fun a ha=>hs a (List.mem_filter.mp ha).1
 obtain ⟨c1,_⟩:=zfe (g:=gV 4) (b:=ui) encA (fun s:(Nat→Int)×Option D=>[some (.int (many:Int)),some (.lst (as.map encA)),some (.lst ((W0 as).map encA)),some (.lst (vec many s.1)),s.2,none,none,none])
  cst (fun _=>True) (W0 as) (fun _=>0,none) trivial (fun s a ha _=>by
   refine ⟨_,rfl,.inl ?_,trivial⟩
   unfold ui
   have f2:=fg a
   rw [zkn (n:=many) (g:=a.g) (w:=s.1) (y:=1) rfl (by walk_at "mir") rfl (hW a ha).2]
   rfl)
 have c2:=zhq (W0 as) (fun _=>0,none)
 generalize hS0:(W0 as).foldl cst (fun _=>0,none)=S0 at c1 c2
 obtain ⟨f0,y4⟩:=S0
 dsimp only at c1 c2
 have hp0:∀r:L3.Env,r[0]?.join=some (.int (many:Int))→r[3]?.join=some (.lst (vec many f0))→jr r=some (.lst (nats ((List.range many).filter fun g=>decide (f0 g=0)))):=by
  intro r h0 h3
  refine zel (fun (t:Nat)=>D.int (t:Int)) (fun g=>decide (f0 g=0)) (fun (t:Nat)=>D.int (t:Int)) (List.range many) (zdj h0 (by omega)) (by rw [List.length_range]; omega) ?_
  ·intro g hg
   refine ⟨_,rfl,?_,fun _=>rfl⟩
   have hg:g<many:=List.mem_range.mp hg
   have hv:ixD (.lst (vec many f0)) (.int (g:Int))=some (.int (f0 g)):=zcq f0 hg
   have hc:capsD r [3]=[some (.lst (vec many f0))]:=by unfold capsD; simp [h3]
   rw [hc]
   walk_at "mir"
 generalize hq:((List.range many).filter fun g=>decide (f0 g=0))=p0 at hp0
 have w0:Kahn.Wh (W0 as) many f0 p0 0:=by
  have hf:∀g,f0 g=Kahn.cnt (W0 as) [] g:=fun g=>by
   rw [c2 g]
   unfold Kahn.cnt
   simp
  refine ⟨⟨by rw [← hq]; exact List.nodup_range.filter _,fun x hx=>by rw [← hq,List.mem_filter,List.mem_range] at hx; exact hx.1,fun i x hx a ha e=>?_⟩,by omega,hf,fun g hg=>by rw [← hq,List.mem_filter,List.mem_range]; simp [hg]⟩
  have hx':x∈p0:=List.mem_iff_getElem?.mpr ⟨i,hx⟩
  rw [← hq,List.mem_filter] at hx'
  have h0:f0 x=0:=by simpa using hx'.2
  rw [hf] at h0
  have:=Kahn.cnt_zero.mp (by exact_mod_cast h0) a ha e
  cases this
 obtain ⟨ρ',h1,⟨f,p,d,x4,x7,rfl,wh⟩,h3⟩:=zda (c:=tb (e2 ltD (eV 6) (eN lenD (aCons (eV 5) aNil)))) (b:=uh)
  (fun ρ=>∃f p d x4 x7,ρ=[some (.int (many:Int)),some (.lst (as.map encA)),some (.lst ((W0 as).map encA)),some (.lst (vec many f)),x4,some (.lst (nats p)),some (.int ((d:Nat):Int)),x7]∧Kahn.Wh (W0 as) many f p d)
  (fun ρ:L3.Env=>match ρ[6]? with | some (some (D.int i))=>(1001-i).toNat | _=>0) (by
   rintro ρ ⟨f,p,d,x4,x7,rfl,wh⟩
   have hl:(nats p).length=p.length:=by simp [nats]
   refine ⟨decide ((d:Int)<(p.length:Int)),by walk_at "mir",fun ht=>?_⟩
   have hd:d<p.length:=by simpa using ht
   have hh:p[d]?=some p[d]:=by simp [hd]
   obtain ⟨x,hin⟩:=zph (x4:=x4) hm hW wh hh
   obtain ⟨wh2,q,_⟩:=wh.step (fun a ha=>(hW a ha).2) hh
   have hle:=Kahn.len_le wh2.ok.nd wh2.ok.lt
   have hdl:=wh2.dl
   refine ⟨_,.inl ?_,⟨_,_,d+1,x,some (.int (p[d]:Int)),rfl,wh2⟩,?_⟩
   ·have hix:ixD (.lst (nats p)) (.int (d:Int))=some (.int (p[d]:Int)):=qj (by simp [nats,hd])
    have hau:i2 (fun i j=>D.int (i+j)) (.int (d:Int)) (.int 1)=some (.int ((d+1:Nat):Int)):=by simp [i2]
    unfold uh sAug
    clear wh wh2 hle hdl
    walk_at "mir"
   ·show (1001-((d+1:Nat):Int)).toNat<(1001-(d:Int)).toNat
    omega) FUEL [some (.int (many:Int)),some (.lst (as.map encA)),some (.lst ((W0 as).map encA)),some (.lst (vec many f0)),y4,some (.lst (nats p0)),some (.int ((0:Nat):Int)),none] ⟨f0,p0,0,y4,none,rfl,w0⟩ (by
   show (1001-((0:Nat):Int)).toNat<FUEL
   have:(1001:Nat)<FUEL:=zgj (by decide)
   omega)
 have hd:d=p.length:=by
  have hl:(nats p).length=p.length:=by simp [nats]
  have h4:(tb (e2 ltD (eV 6) (eN lenD (aCons (eV 5) aNil)))) [some (.int (many:Int)),some (.lst (as.map encA)),some (.lst ((W0 as).map encA)),some (.lst (vec many f)),x4,some (.lst (nats p)),some (.int (d:Int)),x7]=some (decide ((d:Int)<(p.length:Int))):=by walk_at "mir"
  rw [h4] at h3
  have:=wh.dl
  simp at h3
  omega
 subst hd
 refine ⟨f,p,?_,wh⟩
 have r1:=zem as (by omega)
 have rp:repD (.lst [.int 0]) (.int (many:Int))=some (.lst (vec many fun _=>0)):=by
  unfold repD
  dsimp only
  rw [if_pos ⟨by omega,by omega,by simp⟩]
  congr 2
  unfold vec
  rw [List.map_const',List.length_range]
  simp
 rw [show (((0:Nat):Int))=0 from rfl] at h1
 unfold vh sWhile
 clear hs hW c2 hS0 hq w0 wh h3 l hm
 walk_at "mir"
def netD (ns:List D) (as:List Arw):D:=.obj 4 ["names","arrows"] [.lst ns,.lst (as.map encA)]
structure NetOk (many:Nat) (as:List Arw):Prop where
 pos:1≤many
 le:many≤40
 len:as.length≤120
 right:∀a∈as,Right many a
 rank:∃rank:Nat→Nat,∀a∈as,a.b=0→rank a.s<rank a.g
theorem NetOk.placed {many:Nat} {as:List Arw} (h:NetOk many as):∃p:List Nat,vh [.int (many:Int),.lst (as.map encA)]=some (.lst (nats p))∧Kahn.Ok (W0 as) many p∧p.length=many∧∀g,g<many→g∈p:=by
 obtain ⟨f,p,h1,h2⟩:=zmk (many:=many) as (by have:=h.len; omega) (by have:=h.le; omega) (fun a ha=>⟨(h.right a ha).s,(h.right a ha).g⟩)
 obtain ⟨rank,hr⟩:=h.rank
 have all:=h2.all rank (fun a ha=>by
  have:=List.mem_filter.mp ha
  exact hr a this.1 (by simpa using this.2)) (fun a ha=>(h.right a (List.mem_filter.mp ha).1).s)
 exact ⟨p,h1,h2.ok,Kahn.len_of h2.ok.nd h2.ok.lt all,all⟩
theorem zso {many:Nat} {as:List Arw} {ns:List D} (h:NetOk many as) (hn:ns.length=many) (hnm:j5 [.lst ns]=some (.bl true)):jk 4 [.lst ns,.lst (as.map encA)]=some (netD ns as):=by
 obtain ⟨p,hp,_,hl,_⟩:=h.placed
 have hlen:=h.len
 obtain ⟨ρ',h1,x3,x4,rfl⟩:=zhi (g:=gT (gsCons (gV 3) (gsCons (gV 4) gsNil))) (b:=jm) (ds:=enumD 0 (as.map encA)) (ρ:=[some (.obj 4 [] []),some (.lst ns),some (.lst (as.map encA)),none,none,none])
  (fun _ ρ=>∃x3 x4,ρ=[some (.obj 4 [] []),some (.lst ns),some (.lst (as.map encA)),x3,x4,none]) ⟨none,none,rfl⟩ (by
   rintro pre d post ρ e ⟨x3,x4,rfl⟩
   obtain ⟨x,hx,rfl⟩:=zce (zra e)
   rw [List.getElem?_map] at hx
   obtain ⟨a,ha,rfl⟩:=Option.map_eq_some_iff.mp hx
   have hr:=zpg (h.right a (List.mem_iff_getElem?.mpr ⟨_,ha⟩))
   refine ⟨_,_,rfl,.inl ?_,some (.int (0+pre.length:Nat)),some (encA a),rfl⟩
   unfold jm
   rw [← hn] at hr
   clear hp hl hn hlen h
   walk_at "mir")
 have hz:(nats p).length=many:=by simp [nats,hl]
 have hgt:¬((as.length:Int) > 120):=by omega
 rw [← hn] at hp hz
 have l1:∀ds:List D,listD [.lst ds]=some (.lst ds):=fun _=>rfl
 have s1:sFldD [4] "names" (eN listD (aCons (eV 1) aNil)) [some (D.obj 4 [] []),some (.lst ns),some (.lst (as.map encA)),x3,x4,some (.lst (nats p))]=some (.nx [some (D.obj 4 ["names"] [.lst ns]),some (.lst ns),some (.lst (as.map encA)),x3,x4,some (.lst (nats p))]):=rfl
 have s2:sFldD [4] "arrows" (eN listD (aCons (eV 2) aNil)) [some (D.obj 4 ["names"] [.lst ns]),some (.lst ns),some (.lst (as.map encA)),x3,x4,some (.lst (nats p))]=some (.nx [some (netD ns as),some (.lst ns),some (.lst (as.map encA)),x3,x4,some (.lst (nats p))]):=rfl
 clear h hlen hl hn
 unfold jk iOf
 walk_at "mir"
theorem zhs (ns:List Int) (i:Int) (hi:0≤i):∃c,xr [.lst (ns.map .int),.int i]=some (.int c):=by
 obtain ⟨k,rfl⟩:∃k:Nat,i=k:=⟨i.toNat,by omega⟩
 unfold xr
 by_cases h:k<ns.length
 ·refine ⟨ns[k],?_⟩
  have:ixD (.lst (ns.map .int)) (.int (k:Int))=some (.int ns[k]):=zou D.int (.inl rfl) (by simp [h])
  walk_at "mir"
 ·refine ⟨0,?_⟩
  walk_at "mir"
def isRow (c:Int):Bool:=decide (1237940039285380274899124224≤c) && decide (c % 2=1)
theorem zgx (c:Int):v8 [.int c]=some (.bl (isRow c)):=by
 unfold v8 isRow
 by_cases h1:(1237940039285380274899124224:Int)≤c <;> by_cases h2:c % 2=1 <;> walk_at "mir"
theorem zas (c:Int) {k:Int} (h0:0≤k) (h1:k≤1000000):∃r:Nat,yb [.int c,.int k]=some (.int (r:Int))∧r<2147483648:=by
 have m0:mulI (.int 31) (.int k)=some (.int (31 * k)):=j9 (by decide) (by decide)
 have s0:shrD (.int c) (.int (1+31 * k))=some (.int (c / 2 ^ (1+31 * k).toNat)):=zhj (by omega)
 have r0:=zgx c
 have fin:∀z:Int,∀m:Int,0<m→m≤2147483648→∃r:Nat,(some (D.int (z % m)):Option D)=some (.int (r:Int))∧r<2147483648:=fun z m hm hm2=>by
  have a1:=Int.emod_nonneg z (by omega:m≠0)
  have a2:=Int.emod_lt_of_pos z hm
  exact ⟨(z % m).toNat,by rw [Int.toNat_of_nonneg a1],by omega⟩
 generalize hn:(c+7919 * k+1) * 48271 % 2147483647=n1
 have b1:0≤n1∧n1<2147483647:=by omega
 have m1:mulI (.int 7919) (.int k)=some (.int (7919 * k)):=j9 (by decide) (by decide)
 have m2:mulI (.int (c+7919 * k+1)) (.int 48271)=some (.int ((c+7919 * k+1) * 48271)):=zdb (by decide) (by decide)
 have m3:mulI (.int n1) (.int (n1 / 1009+69621))=some (.int (n1 * (n1 / 1009+69621))):=j9 (by omega) (by omega)
 generalize hn2:n1 * (n1 / 1009+69621) % 2147483647=n2
 have b2:0≤n2∧n2<2147483647:=by omega
 have m4:mulI (.int n2) (.int (n2 / 2003+39373+k))=some (.int (n2 * (n2 / 2003+39373+k))):=j9 (by omega) (by omega)
 unfold yb
 by_cases hr:isRow c=true
 ·by_cases hs:c / 2 ^ (1+31 * k).toNat > 0
  ·obtain ⟨r,e1,e2⟩:=fin (c / 2 ^ (1+31 * k).toNat) 2147483648 (by decide) (by decide)
   refine ⟨r,?_,e2⟩
   rw [← e1]
   generalize c / 2 ^ (1+31 * k).toNat=q at s0 hs
   clear e1 e2 fin hn hn2 b1 b2 h0 h1
   walk_at "mir"
  ·obtain ⟨r,e1,e2⟩:=fin (n2 * (n2 / 2003+39373+k)) 2147483629 (by decide) (by decide)
   refine ⟨r,?_,e2⟩
   rw [← e1]
   generalize c / 2 ^ (1+31 * k).toNat=q at s0 hs
   clear e1 e2 fin b1 b2 h0 h1
   walk_at "mir"
 ·obtain ⟨r,e1,e2⟩:=fin (n2 * (n2 / 2003+39373+k)) 2147483629 (by decide) (by decide)
  refine ⟨r,?_,e2⟩
  rw [← e1]
  clear e1 e2 fin b1 b2 h0 h1 s0
  walk_at "mir"
theorem zht (g:Nat):∀O:List Nat,g∈O→∃j:Nat,(nats O).findIdx? (fun y=>eqS y (.int (g:Int)))=some j
 | [],h=>by cases h
 | x::O,h=>by
  have hc:nats (x::O)=.int (x:Int)::nats O:=rfl
  rw [hc,List.findIdx?_cons]
  by_cases hx:x=g
  ·refine ⟨0,?_⟩
   have:eqS (.int (x:Int)) (.int (g:Int))=true:=by simp [eqS,hx]
   rw [this]; rfl
  ·have:eqS (.int (x:Int)) (.int (g:Int))=false:=by simp [eqS]; omega
   rw [this]
   obtain ⟨j,hj⟩:=zht g O (by
    rcases List.mem_cons.mp h with e | e
    ·exact absurd e.symm hx
    ·exact e)
   exact ⟨j+1,by rw [hj]; rfl⟩
theorem zpi (O:List Nat):(nats O).all D.sc=true:=by
 rw [List.all_eq_true]
 intro d hd
 obtain ⟨t,_,rfl⟩:=List.mem_map.mp hd
 rfl
def ixO (O:List Nat) (g:Nat):Nat:=((nats O).findIdx? (fun y=>eqS y (.int (g:Int)))).getD 0
theorem zml {g:Nat} {O:List Nat} (h:g∈O):idxD (.lst (nats O)) (.int (g:Int))=some (.int (ixO O g:Int)):=by
 obtain ⟨j,hj⟩:=zht g O h
 unfold idxD ixO
 dsimp only
 rw [if_pos ⟨rfl,zpi O⟩,hj]
 rfl
def mixN (c k:Int):Nat:=match yb [.int c,.int k] with
 | some (.int r)=>r.toNat
 | _=>0
theorem zgy (c:Int) {k:Int} (h0:0≤k) (h1:k≤1000000):yb [.int c,.int k]=some (.int (mixN c k:Int))∧mixN c k<2147483648:=by
 obtain ⟨r,h,hr⟩:=zas c h0 h1
 unfold mixN
 rw [h]
 simpa using hr
def drw (turn:Int) (many:Nat):Nat→List Nat×List Nat
 | 0=>([],List.range many)
 | k+1 =>
  let S:=drw turn many k
  let i:=mixN turn (k:Int) % S.2.length
  (S.1++[S.2.getD i 0],S.2.eraseIdx i)
theorem zdk {α:Type}:∀(l:List α) (i:Nat) (h:i<l.length),(l[i]::l.eraseIdx i).Perm l
 | [],_,h=>by simp at h
 | x::l,0,_=>by simp
 | x::l,i+1,h=>by
  have ih:=zdk l i (by simpa using h)
  simp only [List.getElem_cons_succ,List.eraseIdx_cons_succ]
  exact (List.Perm.swap x _ _).trans (ih.cons x)
theorem zko (turn:Int) (many:Nat):∀k,k≤many→(drw turn many k).2.length=many-k∧((drw turn many k).1++(drw turn many k).2).Perm (List.range many)
 | 0,_=>by simp [drw]
 | k+1,h=>by
  obtain ⟨h1,h2⟩:=zko turn many k (by omega)
  unfold drw
  dsimp only
  generalize drw turn many k=S at h1 h2
  have hi:mixN turn (k:Int) % S.2.length<S.2.length:=Nat.mod_lt _ (by omega)
  generalize mixN turn (k:Int) % S.2.length=i at hi
  refine ⟨by rw [List.length_eraseIdx_of_lt hi]; omega,?_⟩
  have e:=zdk S.2 i hi
  have hg:S.2.getD i 0=S.2[i]:=by simp [hi]
  rw [hg,List.append_assoc]
  exact (List.Perm.append_left S.1 e).trans h2
theorem zdl:∀(L:List Nat) (i:Nat),(nats L).eraseIdx i=nats (L.eraseIdx i)
 | [],_=>rfl
 | _::_,0=>rfl
 | x::L,i+1=>by
  have ih:=zdl L i
  show D.int (x:Int)::(nats L).eraseIdx i=D.int (x:Int)::nats (L.eraseIdx i)
  rw [ih]
theorem zmm (turn:Int) {many:Nat} (h2:many≤1000) (g:Nat):∃x5:Option D,forD (gV 5) uu (upto 0 many) [some (.int turn),some (.int (many:Int)),some (.int (g:Int)),some (.lst []),some (.lst (upto 0 many)),none] =
  some (.nx [some (.int turn),some (.int (many:Int)),some (.int (g:Int)),some (.lst (nats (drw turn many many).1)),some (.lst (nats (drw turn many many).2)),x5]):=by
 have hu:upto 0 many=nats (List.range many):=by simp [upto,nats]
 obtain ⟨ρ',h1,x5,rfl⟩:=zc9 (g:=gV 5) (b:=uu) (lo:=0) (n:=many) (ρ:=[some (.int turn),some (.int (many:Int)),some (.int (g:Int)),some (.lst []),some (.lst (upto 0 many)),none])
  (fun k ρ=>∃x5,ρ=[some (.int turn),some (.int (many:Int)),some (.int (g:Int)),some (.lst (nats (drw turn many k).1)),some (.lst (nats (drw turn many k).2)),x5]) ⟨none,by rw [hu]; rfl⟩ (by
   rintro k ρ hk ⟨x5,rfl⟩
   obtain ⟨o1,o2⟩:=zko turn many k (by omega)
   have o3:=o2.length_eq
   rw [List.length_append,List.length_range] at o3
   obtain ⟨mx,mb⟩:=zgy turn (k:=0+(k:Int)) (by omega) (by omega)
   refine ⟨_,_,rfl,.inl ?_,some (.int (0+(k:Int))),rfl⟩
   have e0:(0:Int)+(k:Int)=(k:Int):=by omega
   rw [e0] at mx ⊢
   show uu [some (.int turn),some (.int (many:Int)),some (.int (g:Int)),some (.lst (nats (drw turn many k).1)),some (.lst (nats (drw turn many k).2)),some (.int (k:Int))]=some (.nx [some (.int turn),some (.int (many:Int)),some (.int (g:Int)),some (.lst (nats ((drw turn many k).1++[(drw turn many k).2.getD (mixN turn (k:Int) % (drw turn many k).2.length) 0]))),some (.lst (nats ((drw turn many k).2.eraseIdx (mixN turn (k:Int) % (drw turn many k).2.length)))),some (.int (k:Int))])
   generalize drw turn many k=S at o1 o3
   have hi:mixN turn (k:Int) % S.2.length<S.2.length:=Nat.mod_lt _ (by omega)
   have md:modD (.int (mixN turn (k:Int):Int)) (.int ((nats S.2).length:Int))=some (.int ((mixN turn (k:Int) % S.2.length:Nat):Int)):=by
    rw [u4 (by simp [nats]; omega)]
    simp [nats]
   generalize mixN turn (k:Int) % S.2.length=i at hi md
   have hg:S.2.getD i 0=S.2[i]:=by simp [hi]
   have l1:(nats S.1).length<16777216:=by simp [nats]; omega
   have l2:(nats S.2).length≤16777216:=by simp [nats]; omega
   have ix:ixN (nats S.2).length (i:Int)=some i:=zpf (by simp [nats]; exact hi)
   have gt:(nats S.2)[i]?=some (.int (S.2[i]:Int)):=by simp [nats,hi]
   have ev:eN lenD (aCons (eV 4) aNil) [some (.int turn),some (.int (many:Int)),some (.int (g:Int)),some (.lst (nats S.1)),some (.lst (nats S.2)),some (.int (k:Int))]=some (.int ((nats S.2).length:Int)):=rfl
   have em:(aCons (eV 0) (aCons (eV 5) aNil) [some (.int turn),some (.int (many:Int)),some (.int (g:Int)),some (.lst (nats S.1)),some (.lst (nats S.2)),some (.int (k:Int))]).bind (fun ds=>yb (ds++[]))=some (.int (mixN turn (k:Int):Int)):=mx
   have ee:e2 modD (fun ρ=>((aCons (eV 0) (aCons (eV 5) aNil)) ρ).bind fun ds=>yb (ds++[])) (eN lenD (aCons (eV 4) aNil)) [some (.int turn),some (.int (many:Int)),some (.int (g:Int)),some (.lst (nats S.1)),some (.lst (nats S.2)),some (.int (k:Int))]=some (.int (i:Int)):=by
    unfold e2
    dsimp only
    rw [em,ev]
    exact md
   unfold uu sAppPop
   rw [ee]
   show (if (nats S.1).length<16777216∧(nats S.2).length≤16777216 then _ else _)=_
   rw [if_pos ⟨l1,l2⟩,ix]
   show ((nats S.2)[i]?).bind _=_
   rw [gt,hg,← zhr,← zdl]
   rfl)
 exact ⟨x5,h1⟩
theorem zrm (turn:Int) {many:Nat} (h1:1≤many) (h2:many≤1000):∃rk:Nat→Nat,∀g,g<many→uj [.int turn,.int (many:Int),.int (g:Int)]=some (.int (rk g:Int)):=by
 have hr:=zgx turn
 cases hrow:isRow turn with
 | false =>
  refine ⟨fun g=>(((g:Int)+turn) % (many:Int)).toNat,fun g hg=>?_⟩
  have a1:=Int.emod_nonneg ((g:Int)+turn) (by omega:(many:Int)≠0)
  have a2:modD (.int ((g:Int)+turn)) (.int (many:Int))=some (.int (((g:Int)+turn) % (many:Int))):=u4 (by omega)
  rw [Int.toNat_of_nonneg a1]
  unfold uj
  clear a1
  walk_at "mir"
 | true =>
  obtain ⟨o1,o2⟩:=zko turn many many (Nat.le_refl _)
  rw [Nat.sub_self] at o1
  have o3:(drw turn many many).2=[]:=List.eq_nil_of_length_eq_zero o1
  rw [o3,List.append_nil] at o2
  refine ⟨ixO (drw turn many many).1,fun g hg=>?_⟩
  obtain ⟨x5,lp⟩:=zmm turn h2 g
  have ix:=zml (g:=g) (O:=(drw turn many many).1) (o2.mem_iff.mpr (List.mem_range.mpr hg))
  have lr:lrngD [.int (many:Int)]=some (.lst (upto 0 many)):=by
   unfold lrngD
   dsimp only
   rw [if_pos ⟨by omega,by omega⟩]
   simp
  have r1:rng1 [.int (many:Int)]=some (upto 0 many):=by
   rw [zb0 (by omega) (by omega)]
   simp
  unfold uj
  generalize drw turn many many=S at lp ix
  clear o1 o2 o3
  walk_at "mir"
def encT (a:Arw):D:=.tup [.int a.s,.int a.g,.int a.t,.int a.b]
theorem zf1 (c many turn n s g b:Int):∃t:Int,0≤t∧t≤1000000000∧u7 [some (.int c),some (.int many),some (.int turn),some (.int n),some (.int s),some (.int g),some (.int b),none]=some (.rt (.tup [.int s,.int g,.int t,.int b])):=by
 obtain ⟨m2,_⟩:=zgy c (k:=30) (by decide) (by decide)
 generalize mixN c 30=u at m2
 have row:=zgx c
 unfold u7
 by_cases hr:isRow c=true
 ·refine ⟨(u:Int) % 1000000001,by omega,by omega,?_⟩
  by_cases h3:c % 3=2 <;> walk_at "mir"
 ·by_cases h3:c % 3=2
  ·refine ⟨c / 3 % 1000000001,by omega,by omega,?_⟩
   walk_at "mir"
  ·refine ⟨n / 1000 % 10,by omega,by omega,?_⟩
   walk_at "mir"
theorem zpj (c turn:Int) {many:Nat} (h1:1≤many) (h2:many≤1000) (rk:Nat→Nat) (hrk:∀g,g<many→uj [.int turn,.int (many:Int),.int (g:Int)]=some (.int (rk g:Int))) :
  ∃a:Arw,wv [.int c,.int (many:Int),.int turn]=some (encT a)∧a.s<many∧a.g<many∧0≤a.t∧a.t≤1000000000∧a.b≤4∧(a.b=0→rk a.s<rk a.g):=by
 obtain ⟨m1,_⟩:=zgy c (k:=1) (by decide) (by decide)
 generalize mixN c 1=n at m1
 have hs:n % many<many:=Nat.mod_lt _ (by omega)
 have hg:n / 8 % many<many:=Nat.mod_lt _ (by omega)
 have e1:modD (.int (n:Int)) (.int (many:Int))=some (.int ((n % many:Nat):Int)):=by rw [u4 (by omega)]; simp
 have e2:modD (.int ((n:Int) / 8)) (.int (many:Int))=some (.int ((n / 8 % many:Nat):Int)):=by rw [u4 (by omega)]; simp
 have k1:=hrk _ hs
 have k2:=hrk _ hg
 generalize n % many=s0 at *
 generalize n / 8 % many=g0 at *
 have fin:∀b:Nat,b≤4→(b=0→rk s0<rk g0)→(∀t:Int,u7 [some (.int c),some (.int (many:Int)),some (.int turn),some (.int (n:Int)),some (.int (s0:Int)),some (.int (g0:Int)),some (.int (b:Int)),none]=some (.rt (.tup [.int s0,.int g0,.int t,.int b]))→wv [.int c,.int (many:Int),.int turn]=some (.tup [.int s0,.int g0,.int t,.int b])) →
   ∃a:Arw,wv [.int c,.int (many:Int),.int turn]=some (encT a)∧a.s<many∧a.g<many∧0≤a.t∧a.t≤1000000000∧a.b≤4∧(a.b=0→rk a.s<rk a.g):=by
  intro b hb hb0 h
  obtain ⟨t,t0,t1,ht⟩:=zf1 c many turn n s0 g0 b
  exact ⟨⟨.wait,s0,g0,t,b⟩,h t ht,hs,hg,t0,t1,hb,hb0⟩
 have eb:((n:Int) / 64) % 5=((n / 64 % 5:Nat):Int):=by omega
 have eb2:(1:Int)+(n:Int) / 320 % 2=((1+n / 320 % 2:Nat):Int):=by omega
 by_cases q:n / 64 % 5=0
 ·have q':((n:Int) / 64) % 5=0:=by omega
  by_cases q2:rk g0≤rk s0
  ·have q2':((rk g0:Nat):Int)≤(rk s0:Int):=by omega
   refine fin (1+n / 320 % 2) (by omega) (by omega) fun t ht=>?_
   rw [← eb2] at ht ⊢
   unfold wv
   clear eb eb2 q hs hg q2 hrk fin
   walk_at "mir"
  ·have q2':¬((rk g0:Nat):Int)≤(rk s0:Int):=by omega
   refine fin 0 (by omega) (by omega) fun t ht=>?_
   rw [show ((0:Nat):Int)=0 from rfl] at ht ⊢
   unfold wv
   clear eb eb2 q hs hg q2 hrk fin
   walk_at "mir"
 ·have q':¬((n:Int) / 64) % 5=0:=by omega
  refine fin (n / 64 % 5) (by omega) (by omega) fun t ht=>?_
  rw [← eb] at ht ⊢
  unfold wv
  clear eb eb2 q hs hg hrk fin
  walk_at "mir"
def kdOf (b:Nat) (kind:Int):Kd:=if b=0∧kind % 2=0 then .ride else if 0<b∧kind % 2=0 then .back else .wait
def mkA (a:Arw) (kind:Int):Arw:={ a with c:=kdOf a.b kind }
theorem zrn (s g t:Int):jy 1 [.int s,.int g,.int t]=some (.obj 1 ["start","goal","time","behind"] [.int s,.int g,.int t,.int 0]):=rfl
theorem zro (s g t b:Int):jz 2 [.int s,.int g,.int t,.int b]=some (.obj 2 ["start","goal","time","behind"] [.int s,.int g,.int t,.int b]):=rfl
theorem zrp (s g t b:Int):j4 3 [.int s,.int g,.int t,.int b]=some (.obj 3 ["start","goal","time","behind"] [.int s,.int g,.int t,.int b]):=rfl
theorem zrq (a:Arw) (kind:Int):zae [encT a,.int kind]=some (encA (mkA a kind)):=by
 obtain ⟨c,s,g,t,b⟩:=a
 have r1:=zrn
 have r2:=zro
 have r3:=zrp
 unfold zae encT mkA encA
 dsimp only
 by_cases hb:b=0
 ·by_cases hk:kind % 2=0
  ·subst hb
   have:kdOf 0 kind=.ride:=by unfold kdOf; rw [if_pos ⟨rfl,hk⟩]
   rw [this]
   have e:(((0:Nat)):Int)=0:=rfl
   have hn:Kd.ride.n=1:=rfl
   walk_at "mir"
  ·have:kdOf b kind=.wait:=by unfold kdOf; rw [if_neg (fun z=>hk z.2),if_neg (fun z=>hk z.2)]
   rw [this]
   have hn:Kd.wait.n=2:=rfl
   have hb':(b:Int)=0:=by omega
   walk_at "mir"
 ·have hb':¬(b:Int)=0:=by omega
  have hb2:0<b:=by omega
  by_cases hk:kind % 2=0
  ·have:kdOf b kind=.back:=by unfold kdOf; rw [if_neg (fun z=>hb z.1),if_pos ⟨by omega,hk⟩]
   rw [this]
   have hn:Kd.back.n=3:=rfl
   clear hb'
   walk_at "mir"
  ·have:kdOf b kind=.wait:=by unfold kdOf; rw [if_neg (fun z=>hk z.2),if_neg (fun z=>hk z.2)]
   rw [this]
   have hn:Kd.wait.n=2:=rfl
   clear hb'
   walk_at "mir"
def nm (n:Nat):List D:=(List.range n).map fun (k:Nat)=>D.str ("a"++itx (k:Int))
def isT:Option D→Bool
 | some (.bl true)=>true
 | _=>false
theorem zrr {x:Option D} (h:isT x=true):x=some (.bl true):=by
 unfold isT at h
 split at h
 ·rfl
 ·cases h
theorem zpk {n:Nat} (h1:1≤n) (h2:n≤8):j5 [.lst (nm n)]=some (.bl true):=by
 have:n=1∨n=2∨n=3∨n=4∨n=5∨n=6∨n=7∨n=8:=by omega
 rcases this with rfl | rfl | rfl | rfl | rfl | rfl | rfl | rfl <;> exact zrr (by decide +kernel)
structure Drawn (many:Nat) (rk:Nat→Nat) (a:Arw):Prop where
 s:a.s<many
 g:a.g<many
 t0:0≤a.t
 t1:a.t≤1000000000
 b:a.b≤4
 r:a.b=0→rk a.s<rk a.g
theorem Drawn.right {many:Nat} {rk:Nat→Nat} {a:Arw} (h:Drawn many rk a) (kind:Int):Right many (mkA a kind):=by
 refine ⟨h.s,h.g,h.t0,h.t1,h.b,fun z=>?_,fun z=>?_⟩
 ·change kdOf a.b kind=.ride at z
  unfold kdOf at z
  split at z
  ·next q=>exact q.1
  ·split at z <;> cases z
 ·change kdOf a.b kind=.back at z
  unfold kdOf at z
  split at z
  ·cases z
  ·split at z
   ·next q=>exact q.1
   ·cases z
theorem zrs {many:Nat} {rk:Nat→Nat} {as:List Arw} (k:Arw→Int) (h1:1≤many) (h2:many≤8) (h3:as.length≤120) (h:∀a∈as,Drawn many rk a):NetOk many (as.map fun a=>mkA a (k a)):=by
 refine ⟨h1,by omega,by rw [List.length_map]; exact h3,fun b hb=>?_,rk,fun b hb hb0=>?_⟩
 ·obtain ⟨a,ha,rfl⟩:=List.mem_map.mp hb
  exact (h a ha).right _
 ·obtain ⟨a,ha,rfl⟩:=List.mem_map.mp hb
  exact (h a ha).r hb0
theorem zf2 {κ:Type} (h:κ×D→D):∀(ks:List κ) (ds:List D),ks.zip ((ks.zip ds).map h)=(ks.zip ds).map fun p=>(p.1,h p)
 | [],_=>rfl
 | _::_,[]=>rfl
 | k::ks,d::ds=>by
  show (k,h (k,d))::ks.zip ((ks.zip ds).map h)=(k,h (k,d))::(ks.zip ds).map _
  rw [zf2 h ks ds]
theorem zmn {κ:Type} [DecidableEq κ] {ks:List κ} {ds:List D} (hl:ks.length=ds.length) (k k':κ) (d:D):getK (putK' ks ds k d).1 (putK' ks ds k d).2 k'=if k'=k then some d else getK ks ds k':=by
 unfold putK'
 by_cases hc:ks.contains k=true
 ·rw [if_pos hc]
  unfold getK
  dsimp only
  rw [zf2,List.find?_map]
  by_cases hk:k'=k
  ·subst hk
   rw [if_pos rfl]
   have hm:k'∈ks:=by simpa using hc
   have:∃p∈ks.zip ds,p.1=k':=by
    obtain ⟨i,hi,e⟩:=List.mem_iff_getElem.mp hm
    refine ⟨(ks[i],ds[i]),?_,e⟩
    rw [List.mem_iff_getElem]
    exact ⟨i,by rw [List.length_zip]; omega,by simp⟩
   obtain ⟨p,hp,he⟩:=this
   cases hf:(ks.zip ds).find? ((fun p:κ×D=>decide (p.1=k')) ∘ fun p:κ×D=>(p.1,if p.1=k' then d else p.2)) with
   | none =>
    rw [List.find?_eq_none] at hf
    have:=hf p hp
    simp [he] at this
   | some q =>
    have hq:=List.find?_some hf
    simp at hq
    simp [hq]
  ·rw [if_neg hk]
   have:((fun p:κ×D=>decide (p.1=k')) ∘ fun p:κ×D=>(p.1,if p.1=k then d else p.2))=fun p:κ×D=>decide (p.1=k'):=rfl
   rw [this]
   cases hf:(ks.zip ds).find? fun p=>decide (p.1=k') with
   | none=>rfl
   | some q =>
    have hq:=List.find?_some hf
    simp at hq
    have hne:¬q.1=k:=fun z=>hk (hq ▸ z)
    simp [hne]
 ·rw [if_neg hc]
  unfold getK
  dsimp only
  have hz:(ks++[k]).zip (ds++[d])=ks.zip ds++[(k,d)]:=by
   rw [List.zip_append hl]; rfl
  rw [hz,List.find?_append]
  by_cases hk:k'=k
  ·subst hk
   rw [if_pos rfl]
   have hn:(ks.zip ds).find? (fun p=>decide (p.1=k'))=none:=by
    rw [List.find?_eq_none]
    intro p hp
    have hm:=(List.of_mem_zip (a:=p.1) (b:=p.2) hp).1
    have hm2:¬k'∈ks:=by simpa using hc
    simp
    intro z
    exact hm2 (z ▸ hm)
   rw [hn]
   simp
  ·rw [if_neg hk]
   have:¬k=k':=fun z=>hk z.symm
   cases hf:(ks.zip ds).find? (fun p=>decide (p.1=k')) <;> simp [this]
theorem zkp {κ:Type} [DecidableEq κ] {ks:List κ} {ds:List D} (hl:ks.length=ds.length) (k:κ) (d:D):(putK' ks ds k d).1.length=(putK' ks ds k d).2.length∧(putK' ks ds k d).1.length≤ks.length+1:=by
 unfold putK'
 by_cases hc:ks.contains k=true
 ·rw [if_pos hc]; simp; omega
 ·rw [if_neg hc]; simp [hl]
theorem zhu (ns:List D) (as:List Arw):fldD [4] "names" (netD ns as)=some (.lst ns):=rfl
theorem qy (ns:List D) (as:List Arw):fldD [4] "arrows" (netD ns as)=some (.lst (as.map encA)):=rfl
def quad (a:Arw):Int×Int×Int×Int:=(a.s,a.g,a.t,a.b)
theorem zpl (neg:Bool) (as:List Arw):eqD neg (.lst (as.map encT)) (.lst [])=some (.bl (if neg then !decide (as=[]) else decide (as=[]))):=by
 have:=(El (E4 Ei Ei Ei Ei)).eq (by decide) (neg:=neg) (as.map quad) []
 have e1:(El (E4 Ei Ei Ei Ei)).enc (as.map quad)=.lst (as.map encT):=by show D.lst _=_; rw [List.map_map]; rfl
 rw [e1] at this
 rw [show D.lst []=(El (E4 Ei Ei Ei Ei)).enc [] from rfl,this]
 cases as <;> rfl
theorem zmo {ns:List Int} {r:L3.Env} (i a b:Nat) (h:r[i]?.join=some (.lst (ns.map .int))):lsD (fun ρ=>((eV i) ρ).bind fun d=>((pInt (eC (.int a))) ρ).bind fun l=>((pInt (eC (.int b))) ρ).bind fun h=>sliceD d l h) r=some (((ns.drop a).take (b-a)).map .int):=by
 have e:eV i r=some (.lst (ns.map .int)):=h
 unfold lsD
 show (((eV i) r).bind _).bind _=_
 rw [e]
 show some (cutD (ns.map .int) (some (a:Int)) (some (b:Int)))=_
 rw [zd1,List.map_take,List.map_drop]
theorem drawn (turn:Int) {many:Nat} (h1:1≤many) (h2:many≤1000):∃(mk:Int→Arw) (rk:Nat→Nat),(∀c,wv [.int c,.int (many:Int),.int turn]=some (encT (mk c)))∧∀c,Drawn many rk (mk c):=by
 obtain ⟨rk,hrk⟩:=zrm turn h1 h2
 have:=fun c=>zpj c turn h1 h2 rk hrk
 refine ⟨fun c=>Classical.choose (this c),rk,fun c=>(Classical.choose_spec (this c)).1,fun c=>?_⟩
 obtain ⟨_,a,b,c,d,e,f⟩:=Classical.choose_spec (this c)
 exact ⟨a,b,c,d,e,f⟩
theorem zpm (g:Nat) (hg:g≤1000000):strD [.int (g:Int)]=some (.str (itx (g:Int)))∧addD (.str "a") (.str (itx (g:Int)))=some (.str ("a"++itx (g:Int))):=by
 have h:Sz 1900 (g:Int):=by
  show (g:Int).natAbs<2 ^ 1900
  have:(2:Nat) ^ 20≤2 ^ 1900:=Nat.pow_le_pow_right (by decide) (by decide)
  omega
 have h2:=zoy h
 have h3:("a":Str).length=1:=by decide
 exact ⟨zlz h,zlq (by omega)⟩
def fr (q:Int×Int):D:=.tup [.int q.1,.int q.2]
theorem fr0 (q:Int×Int):ixD (fr q) (.int 0)=some (.int q.1):=rfl
theorem fr1 (q:Int×Int):ixD (fr q) (.int 1)=some (.int q.2):=rfl
def Fz (n:Nat) (q:Int×Int):Prop:=Sz n q.1∧Sz n q.2
theorem Fz.mono {n m:Nat} {q:Int×Int} (h:Fz n q) (hm:n≤m):Fz m q:=⟨h.1.mono hm,h.2.mono hm⟩
theorem eqF {neg:Bool} (p q:Int×Int):eqD neg (fr p) (fr q)=some (.bl (if neg then !decide (p=q) else decide (p=q))):=(E2 Ei Ei).eq (by decide) p q
theorem zat {n:Nat} {i w:Int} (h1:-w≤i) (h2:i≤w) (hw:w<2 ^ n):Sz n i:=by
 unfold Sz
 have:(i.natAbs:Int)<2 ^ n:=by omega
 exact_mod_cast this
theorem t_cd {x y:Int} (hy:Sz 8000 y):vt [.int x,.int y]=some (.int ((Int.gcd x y:Nat):Int)):=by
 obtain ⟨s',h1,h2,h3,r,h5⟩:=zan (c:=tb (e2 (eqD true) (eV 1) (eC (D.int 0)))) (b:=ue) (fun s:Int×Int×Option D=>[some (.int s.1),some (.int s.2.1),s.2.2]) (fun s=>!decide (s.2.1=0)) (fun s=>(s.2.1,s.1.fmod s.2.1,some (.int (s.1.fmod s.2.1)))) (fun s=>s.2.1.natAbs) (fun s=>Int.gcd s.1 s.2.1=Int.gcd x y)
  (fun s hp=>by walk_at "mir") (fun s hp ht=>by
   have hs:s.2.1≠0:=by simpa using ht
   refine ⟨.inl ?_,(Fq.gcd_step s.1 s.2.1).trans hp,Fq.fmod_less s.1 hs⟩
   unfold ue
   have:=zjw (i:=s.1) hs
   walk_at "mir") FUEL (x,y,none) rfl (zgi hy (by decide))
 have h3:s'.2.1=0:=by simpa using h3
 have h4:=Fq.gcd_end s'.1
 rw [h3] at h2
 rw [h2] at h4
 clear h5
 unfold vt sWhile
 walk_at "mir"
theorem zen {t b:Int} (hb:b≠0) (hz:Sz 8000 b):zar [.int t,.int b]=some (fr (Fq.mk t b)):=by
 have e:=t_cd (x:=t) hz
 have hg:=Fq.gcd_pos (t:=t) (b:=b) hb
 have hd:Fq.dv t b≠0:=by unfold Fq.dv; split <;> omega
 have hz2:Sz 9000 (Fq.dv t b):=(hz.le (Fq.dv_le hb)).mono (by decide)
 have e1:=zbz (i:=t) hd hz2
 have e2:=zbz (i:=b) hd hz2
 unfold zar fr Fq.mk
 by_cases hn:b<0
 ·have hd:Fq.dv t b = -((Int.gcd t b:Nat):Int):=by unfold Fq.dv; rw [if_pos hn]
  rw [hd] at e1 e2 ⊢
  walk_at "mir"
 ·have hd:Fq.dv t b=((Int.gcd t b:Nat):Int):=by unfold Fq.dv; rw [if_neg hn]
  rw [hd] at e1 e2 ⊢
  walk_at "mir"
theorem zpn {n:Nat} {t b:Int} (hb:b≠0) (ht:Sz n t) (hz:Sz n b):Fz n (Fq.mk t b):=⟨ht.le (Fq.mk_le_one hb),hz.le (Fq.mk_le_two hb)⟩
def Wlk (S G:Nat→Nat):Nat→List Nat→Nat→Prop
 | a,[],b=>a=b
 | a,n::l,b=>S n=a∧Wlk S G (G n) l b
theorem Wlk.app {S G:Nat→Nat} {b c:Nat} {m:List Nat} (h2:Wlk S G b m c):∀{a:Nat} {l:List Nat},Wlk S G a l b→Wlk S G a (l++m) c
 | a,[],h=>by
  have h:a=b:=h
  rw [h]; exact h2
 | a,n::l,h=>⟨h.1,Wlk.app h2 h.2⟩
theorem Wlk.one (S G:Nat→Nat) (n:Nat):Wlk S G (S n) [n] (G n):=⟨rfl,rfl⟩
section
variable {ts:List Nat} {S G:Nat→Nat} {going:Nat} {re:List Nat} {ch:Nat→Option Nat} {done:Nat}
end
theorem zeo {step:List Int→Int→List Int} (hs:∀l x,step l x=if l.any (· == x) then l else l++[x]):∀(xs acc:List Int),(xs.foldl step acc).length≤acc.length+xs.length∧(acc.Nodup→((xs.foldl step acc).length=acc.length+xs.length↔(acc++xs).Nodup))
 | [],acc=>by simp
 | x::xs,acc=>by
  rw [List.foldl_cons,hs]
  by_cases h:acc.any (· == x)=true
  ·rw [if_pos h]
   obtain ⟨h1,h2⟩:=zeo hs xs acc
   refine ⟨by rw [List.length_cons]; omega,fun nd=>?_⟩
   rw [List.length_cons]
   constructor
   ·intro e; omega
   ·intro e
    exfalso
    obtain ⟨y,hy,hxy⟩:=List.any_eq_true.mp h
    have hxy:y=x:=by simpa using hxy
    rw [hxy] at hy
    exact (List.nodup_append.mp e).2.2 x hy x List.mem_cons_self rfl
  ·rw [if_neg h]
   obtain ⟨h1,h2⟩:=zeo hs xs (acc++[x])
   rw [List.length_append,List.length_singleton] at h1 h2
   have hx:x∉acc:=fun hm=>h (List.any_eq_true.mpr ⟨x,hm,by simp⟩)
   refine ⟨by rw [List.length_cons]; omega,fun nd=>?_⟩
   have nd2:(acc++[x]).Nodup:=List.nodup_append.mpr ⟨nd,by simp,fun a ha b hb e=>hx (by rw [← List.mem_singleton.mp hb,← e]; exact ha)⟩
   have:=h2 nd2
   rw [List.append_assoc,List.singleton_append] at this
   rw [List.length_cons]
   constructor
   ·intro e; exact this.mp (by omega)
   ·intro e; have:=this.mpr e; omega
def rot {α:Type} (l:List α):List α:=l.drop (l.length-1)++l.take (l.length-1)
theorem zkq {α:Type} (l:List α) {j:Nat} (hj:j<l.length):(rot l)[j]?=l[if j=0 then l.length-1 else j-1]?:=by
 unfold rot
 by_cases h0:j=0
 ·subst h0
  rw [List.getElem?_append_left (by rw [List.length_drop]; omega),List.getElem?_drop,if_pos rfl]
  congr 1
 ·rw [if_neg h0,List.getElem?_append_right (by rw [List.length_drop]; omega),List.length_drop,List.getElem?_take]
  rw [if_pos (by omega)]
  congr 1
  omega
theorem zbb {α:Type} (l:List α):(rot l).Perm l:=by
 unfold rot
 refine List.perm_append_comm.trans ?_
 rw [List.take_append_drop]
theorem zpo {α:Type} (l:List α):(rot l).length=l.length:=(zbb l).length_eq
def prv (n j:Nat):Nat:=if j=0 then n-1 else j-1
def CndR (S G:Int→Nat) (n:Nat) (is:List Int) (j:Nat):Prop:=(0≤is.getD j 0∧is.getD j 0<(n:Int))∧(0≤is.getD (prv is.length j) 0∧is.getD (prv is.length j) 0<(n:Int))∧S (is.getD j 0)=G (is.getD (prv is.length j) 0)∧∀i,i<j→S (is.getD i 0)≠S (is.getD j 0)
def RngR (S G:Int→Nat) (n:Nat) (is:List Int):Prop:=is≠[]∧(∀i∈is,0≤i∧i<(n:Int))∧is.map S=rot (is.map G)∧(is.map G).Nodup
theorem vv {is:List Int} {j:Nat} (h:j<is.length):is[j]?=some (is.getD j 0):=by
 rw [List.getD_eq_getElem?_getD,List.getElem?_eq_getElem h]; rfl
theorem zsp {S G:Int→Nat} {n:Nat} {is:List Int}:RngR S G n is↔is≠[]∧∀j,j<is.length→CndR S G n is j:=by
 constructor
 ·rintro ⟨h1,h2,h3,h4⟩
  refine ⟨h1,fun j hj=>?_⟩
  have hp:prv is.length j<is.length:=by unfold prv; split <;> omega
  have m1:=h2 _ (List.mem_iff_getElem?.mpr ⟨j,vv hj⟩)
  have m2:=h2 _ (List.mem_iff_getElem?.mpr ⟨_,vv hp⟩)
  have hs:(is.map S)[j]?=(rot (is.map G))[j]?:=by rw [h3]
  rw [zkq _ (by rw [List.length_map]; exact hj),List.length_map,List.getElem?_map,List.getElem?_map,vv hj] at hs
  have hs2:some (S (is.getD j 0))=(is[prv is.length j]?).map G:=hs
  rw [vv hp] at hs2
  refine ⟨m1,m2,Option.some.inj hs2,fun i hi e=>?_⟩
  have nd:(is.map S).Nodup:=by rw [h3]; exact (zbb _).nodup_iff.mpr h4
  have:=(List.pairwise_iff_getElem.mp nd) i j (by rw [List.length_map]; omega) (by rw [List.length_map]; omega) hi
  rw [List.getElem_map,List.getElem_map] at this
  have e1:is[i]=is.getD i 0:=by have:=vv (is:=is) (j:=i) (by omega); rw [List.getElem?_eq_getElem (by omega)] at this; exact Option.some.inj this
  have e2:is[j]=is.getD j 0:=by have:=vv hj; rw [List.getElem?_eq_getElem hj] at this; exact Option.some.inj this
  rw [e1,e2] at this
  exact this e
 ·rintro ⟨h1,h2⟩
  have hst:is.map S=rot (is.map G):=by
   apply List.ext_getElem?
   intro j
   by_cases hj:j<is.length
   ·have hp:prv is.length j<is.length:=by unfold prv; split <;> omega
    rw [zkq _ (by rw [List.length_map]; exact hj),List.length_map,List.getElem?_map,List.getElem?_map,vv hj]
    show some (S (is.getD j 0))=(is[prv is.length j]?).map G
    rw [vv hp,(h2 j hj).2.2.1]
    rfl
   ·rw [List.getElem?_eq_none (by rw [List.length_map]; omega),List.getElem?_eq_none (by rw [zpo,List.length_map]; omega)]
  refine ⟨h1,fun i hi=>?_,hst,?_⟩
  ·obtain ⟨j,hj⟩:=List.mem_iff_getElem?.mp hi
   have hl:=(List.getElem?_eq_some_iff.mp hj).1
   have:=vv hl
   rw [hj] at this
   rw [Option.some.inj this]
   exact (h2 j hl).1
  ·have nd:(is.map S).Nodup:=List.pairwise_iff_getElem.mpr fun i j hi hj hij=>by
    rw [List.length_map] at hi hj
    rw [List.getElem_map,List.getElem_map]
    have e1:is[i]=is.getD i 0:=by have:=vv hi; rw [List.getElem?_eq_getElem hi] at this; exact Option.some.inj this
    have e2:is[j]=is.getD j 0:=by have:=vv hj; rw [List.getElem?_eq_getElem hj] at this; exact Option.some.inj this
    rw [e1,e2]
    exact (h2 j hj).2.2.2 i hij
   rw [hst] at nd
   exact (zbb _).nodup_iff.mp nd
theorem zf3 {g:D→L3.Env→Option L3.Env} {b:SF} {n:Nat} (I:Nat→L3.Env→Prop) (R:D→Prop) (st:∀i ρ,i<n→I i ρ→∃ρ1,g (.int (i:Int)) ρ=some ρ1∧((∃ρ2,b ρ1=some (.nx ρ2)∧I (i+1) ρ2)∨∃w,b ρ1=some (.rt w)∧R w)) :
  ∀(m k:Nat) (ρ:L3.Env),k+m=n→I k ρ→(∃ρ',forD g b ((List.range' k m).map fun (i:Nat)=>D.int (i:Int)) ρ=some (.nx ρ')∧I n ρ')∨∃w,forD g b ((List.range' k m).map fun (i:Nat)=>D.int (i:Int)) ρ=some (.rt w)∧R w
 | 0,k,ρ,hk,hI=>by
  have:k=n:=by omega
  subst this
  exact .inl ⟨ρ,rfl,hI⟩
 | m+1,k,ρ,hk,hI=>by
  obtain ⟨ρ1,h1,h2⟩:=st k ρ (by omega) hI
  have unf:forD g b ((List.range' k (m+1)).map fun (i:Nat)=>D.int (i:Int)) ρ=(g (.int (k:Int)) ρ).bind fun ρ1=>(b ρ1).bind fun o=>match o with
    | .nx ρ'=>forD g b ((List.range' (k+1) m).map fun (i:Nat)=>D.int (i:Int)) ρ'
    | .ct ρ'=>forD g b ((List.range' (k+1) m).map fun (i:Nat)=>D.int (i:Int)) ρ'
    | .bk ρ'=>some (.nx ρ')
    | .rt d=>some (.rt d):=rfl
  rw [unf,h1,Option.bind_some]
  rcases h2 with ⟨ρ2,h2,h3⟩ | ⟨w,h2,h3⟩
  ·rw [h2]
   exact zf3 I R st m (k+1) ρ2 (by omega) h3
  ·rw [h2]
   exact .inr ⟨w,rfl,h3⟩
def aN (as:List Arw) (n:Nat):Arw:=(as[n]?).getD ⟨.wait,0,0,0,0⟩
theorem zf4 {as:List Arw} {n:Nat} (h:n<as.length):as[n]?=some (aN as n):=by
 unfold aN
 rw [List.getElem?_eq_getElem h]
 rfl
def sI (as:List Arw) (i:Int):Nat:=(aN as i.toNat).s
def gI (as:List Arw) (i:Int):Nat:=(aN as i.toNat).g
theorem zrt {as:List Arw} {i:Int} (h0:0≤i) (h1:i<(as.length:Int)):ixD (.lst (as.map encA)) (.int i)=some (encA (aN as i.toNat)):=by
 obtain ⟨n,rfl⟩:∃n:Nat,i=(n:Int):=⟨i.toNat,by omega⟩
 rw [Int.toNat_natCast]
 exact qj (by rw [List.getElem?_map,zf4 (by omega)]; rfl)
theorem zhv {ns:List D} {as:List Arw} {is:List Int} {fld:Str} {f:Arw→Int} {q:EF} (hq:q=eComp (lsD (eV 1)) 1 [0] (gV 0) bTrue (e1 (fldD [0,1,2,3] fld) (e2 ixD (e1 (fldD [4] "arrows") (eV 1)) (eV 0)))) (hf:∀a,fldD [0,1,2,3] fld (encA a)=some (.int (f a))) (hl:is.length≤1000) (hr:∀i∈is,0≤i∧i<(as.length:Int)) (r:L3.Env) (h0:r[0]?.join=some (netD ns as)) (h1:r[1]?.join=some (.lst (is.map .int))) :
  q r=some (.lst ((is.map fun i=>f (aN as i.toNat)).map .int)):=by
 rw [hq,List.map_map]
 refine uo D.int (fun i=>D.int (f (aN as i.toNat))) is (by unfold lsD; have:eV 1 r=_:=h1; rw [this]; rfl) (by omega) fun i hi=>⟨_,rfl,?_⟩
 have hcap:capsD r [0]=[some (netD ns as)]:=by unfold capsD; simp [h0]
 rw [hcap]
 have i1:=zrt (hr i hi).1 (hr i hi).2
 have f1:=hf (aN as i.toNat)
 have f4:=qy ns as
 generalize f (aN as i.toNat)=v at *
 generalize encA (aN as i.toNat)=ea at *
 generalize as.map encA=al at *
 generalize netD ns as=net at *
 clear hcap h0 h1 hr hi hl hf hq
 walk_at "mir"
theorem zru (gs:List Int):(dst gs).length=gs.length↔gs.Nodup:=by
 have e:(List.range gs.length).map (fun i=>gs.getD i 0)=gs:=by
  apply List.ext_getElem?
  intro i
  rw [List.getElem?_map]
  by_cases hi:i<gs.length
  ·rw [List.getElem?_range hi,vv hi]; rfl
  ·rw [List.getElem?_eq_none (by rw [List.length_range]; omega),List.getElem?_eq_none (by omega)]; rfl
 have:=(zeo (step:=PyProof.Rows.step_dedup) (fun _ _=>rfl) gs []).2 (by simp)
 rw [List.nil_append,List.length_nil,Nat.zero_add] at this
 show ((((List.range gs.length).map fun i=>gs.getD i 0).foldl PyProof.Rows.step_dedup []).length=gs.length)↔_
 rw [e]
 exact this
theorem zkr (xs:List D):cutD xs (some (-1)) none=xs.drop (xs.length-1):=by
 unfold cutD
 rw [HT.sIx_none]
 have:HT.sIx xs.length 0 (some (-1))=xs.length-1:=by
  show (if (-1:Int)<0 then (-1+(xs.length:Int)).toNat else min (-1:Int).toNat xs.length)=_
  rw [if_pos (by decide)]
  omega
 rw [this,List.take_of_length_le (by rw [List.length_drop]; omega)]
theorem zks (xs:List D):cutD xs none (some (-1))=xs.take (xs.length-1):=by
 unfold cutD
 rw [HT.sIx_none]
 have:HT.sIx xs.length xs.length (some (-1))=xs.length-1:=by
  show (if (-1:Int)<0 then (-1+(xs.length:Int)).toNat else min (-1:Int).toNat xs.length)=_
  rw [if_pos (by decide)]
  omega
 rw [this,List.drop_zero,Nat.sub_zero]
theorem zmp (a b:List Int):eqD false (.lst (a.map .int)) (.lst (b.map .int))=some (.bl (decide (a=b))):=by
 have:=(El Ei).eq (by decide) (neg:=false) a b
 rw [if_neg (by decide)] at this
 exact this
theorem zpp {is:List Int} (h:is≠[]):∃mn mx:Int,minD [.lst (is.map .int)]=some (.int mn)∧maxD [.lst (is.map .int)]=some (.int mx)∧(mn∈is∧∀z∈is,mn≤z)∧(mx∈is∧∀z∈is,z≤mx):=by
 cases is with
 | nil=>exact absurd rfl h
 | cons x xs =>
  refine ⟨_,_,?_,?_,zhl (ns:=x::xs) rfl,zhk (ns:=x::xs) rfl⟩
  ·show (intsD ((x::xs).map .int)).bind _=_
   rw [qm]
   rfl
  ·show (intsD ((x::xs).map .int)).bind _=_
   rw [qm]
   rfl
theorem zkt {ns:List D} {as:List Arw} {is:List Int} (hl:is.length≤1000) (hal:as.length≤1000):∃b:Bool,jh [netD ns as,.lst (is.map .int)]=some (.bl b)∧(b=true↔RngR (sI as) (gI as) as.length is):=by
 have ln:lenD [.lst (is.map .int)]=some (.int (is.length:Int)):=(vf _).trans (by rw [List.length_map])
 have la:lenD [.lst (as.map encA)]=some (.int (as.length:Int)):=(vf _).trans (by rw [List.length_map])
 have f4:=qy ns as
 by_cases h0:is=[]
 ·refine ⟨false,?_,by simp [RngR,h0]⟩
  subst h0
  have ln:lenD [.lst []]=some (.int 0):=rfl
  rw [List.map_nil]
  generalize netD ns as=net at *
  unfold jh
  clear hl hal la f4
  walk_at "mir"
 ·have hlp:¬(is.length:Int)=0:=by
   have:=List.length_pos_iff.mpr h0
   omega
  obtain ⟨mn,mx,e1,e2',⟨a1,a2⟩,⟨b1,b2⟩⟩:=zpp h0
  by_cases h1:mn<0
  ·refine ⟨false,?_,?_⟩
   ·generalize netD ns as=net at *
    generalize is.map D.int=il at *
    unfold jh
    clear hl hal la f4 e2' a1 a2 b1 b2 hlp
    walk_at "mir"
   ·constructor
    ·intro z; cases z
    ·intro z; have:=(z.2.1 mn a1).1; omega
  ·by_cases h2:mx ≥ (as.length:Int)
   ·refine ⟨false,?_,?_⟩
    ·generalize netD ns as=net at *
     generalize is.map D.int=il at *
     generalize as.map encA=al at *
     unfold jh
     clear hl hal a1 a2 b1 b2 hlp
     walk_at "mir"
    ·constructor
     ·intro z; cases z
     ·intro z; have:=(z.2.1 mx b1).2; omega
   ·have hr:∀i∈is,0≤i∧i<(as.length:Int):=fun i hi=>⟨by have:=a2 i hi; omega,by have:=b2 i hi; omega⟩
    have q1:=fun r=>zhv (ns:=ns) (as:=as) (is:=is) (fld:="start") (f:=fun a=>(a.s:Int)) (q:=zcn) rfl fs hl hr r
    have q2:=fun r=>zhv (ns:=ns) (as:=as) (is:=is) (fld:="goal") (f:=fun a=>(a.g:Int)) (q:=zcm) rfl fg hl hr r
    have es:(is.map fun i=>((aN as i.toNat).s:Int))=(is.map (sI as)).map fun (x:Nat)=>(x:Int):=by rw [List.map_map]; rfl
    have eg:(is.map fun i=>((aN as i.toNat).g:Int))=(is.map (gI as)).map fun (x:Nat)=>(x:Int):=by rw [List.map_map]; rfl
    generalize hS:(is.map fun i=>((aN as i.toNat).s:Int))=ss at *
    generalize hG:(is.map fun i=>((aN as i.toNat).g:Int))=gs at *
    have hgl:gs.length=is.length:=by rw [← hG,List.length_map]
    refine ⟨decide (ss=rot gs) && decide ((dst gs).length=gs.length),?_,?_⟩
    ·have k1:=q1 [some (netD ns as),some (.lst (is.map .int)),none,none] rfl rfl
     have k2:=q2 [some (netD ns as),some (.lst (is.map .int)),some (.lst (ss.map .int)),none] rfl rfl
     have c1:cutD (gs.map .int) (some (-1)) none=(gs.drop (gs.length-1)).map .int:=by rw [zkr,List.length_map,List.map_drop]
     have c2:cutD (gs.map .int) none (some (-1))=(gs.take (gs.length-1)).map .int:=by rw [zks,List.length_map,List.map_take]
     have ad:addD (.lst ((gs.drop (gs.length-1)).map .int)) (.lst ((gs.take (gs.length-1)).map .int))=some (.lst ((rot gs).map .int)):=by
      rw [zd0 (by rw [List.length_map,List.length_map,List.length_drop,List.length_take]; omega),← List.map_append]
      rfl
     have q:=zmp ss (rot gs)
     have ls:lenSetD (.lst (gs.map .int))=some (.int ((dst gs).length:Int)):=by
      show (intsD (gs.map .int)).bind _=_
      rw [qm]
      show (if gs.length<4000 then _ else _)=_
      rw [if_pos (by omega)]
     have lg:lenD [.lst (gs.map .int)]=some (.int (gs.length:Int)):=(vf _).trans (by rw [List.length_map])
     have qq:eqD false (.int ((dst gs).length:Int)) (.int (gs.length:Int))=some (.bl (decide ((dst gs).length=gs.length))):=(zd2 _ _).trans (by rw [if_neg (by decide),show decide (((dst gs).length:Int)=(gs.length:Int))=decide ((dst gs).length=gs.length) from decide_eq_decide.mpr (by omega)])
     generalize decide ((dst gs).length=gs.length)=bb2 at *
     generalize decide (ss=rot gs)=bb1 at *
     generalize ((dst gs).length:Int)=dl at *
     generalize (gs.length:Int)=gl at *
     generalize (gs.drop (gs.length-1)).map D.int=l1 at *
     generalize (gs.take (gs.length-1)).map D.int=l2 at *
     generalize (rot gs).map D.int=l3 at *
     generalize gs.map D.int=gd at *
     generalize ss.map D.int=sd at *
     generalize is.map D.int=il at *
     generalize as.map encA=al at *
     generalize netD ns as=net at *
     unfold jh
     clear hl hal a1 a2 b1 b2 q1 q2 hgl hr es eg hS hG hlp
     cases bb1
     ·walk_at "mir"
     ·walk_at "mir"
    ·rw [Bool.and_eq_true,decide_eq_true_iff,decide_eq_true_iff,zru]
     unfold RngR
     have inj:∀a b:List Nat,(a.map fun (x:Nat)=>(x:Int))=b.map (fun (x:Nat)=>(x:Int))↔a=b:=fun a b=>List.map_inj_right (fun x y h=>by omega)
     have rm:rot ((is.map (gI as)).map fun (x:Nat)=>(x:Int))=(rot (is.map (gI as))).map fun (x:Nat)=>(x:Int):=by
      unfold rot
      rw [List.length_map (f:=fun (x:Nat)=>(x:Int)),List.map_append,List.map_drop,List.map_take]
     rw [es,eg,rm,inj]
     have nd:((is.map (gI as)).map fun (x:Nat)=>(x:Int)).Nodup↔(is.map (gI as)).Nodup:=by
      constructor
      ·intro h; exact (List.pairwise_map.mp h).imp fun h e=>h (by rw [e])
      ·intro h; exact List.pairwise_map.mpr (h.imp fun h e=>h (by omega))
     rw [nd]
     exact ⟨fun z=>⟨h0,hr,z.1,z.2⟩,fun z=>⟨z.2.2.1,z.2.2.2⟩⟩
theorem zhw (xs:List Int):sumD [.lst (xs.map .int)]=some (.int xs.sum):=by
 show (intsD (xs.map .int)).bind _=_
 rw [qm]
 rfl
def tI (as:List Arw) (i:Int):Int:=(aN as i.toNat).t
def bI (as:List Arw) (i:Int):Int:=((aN as i.toNat).b:Int)
theorem zni {f:Int→Int} {m:Int} (hm:0≤m):∀is:List Int,(∀i∈is,0≤f i∧f i≤m)→0≤(is.map f).sum∧(is.map f).sum≤m * (is.length:Int)
 | [],_=>by simp
 | i::is,h=>by
  obtain ⟨h1,h2⟩:=zni hm is fun j hj=>h j (List.mem_cons_of_mem _ hj)
  obtain ⟨h3,h4⟩:=h i List.mem_cons_self
  rw [List.map_cons,List.sum_cons,List.length_cons]
  refine ⟨by omega,?_⟩
  rw [show ((is.length+1:Nat):Int)=(is.length:Int)+1 by omega,Int.mul_add,Int.mul_one]
  omega
theorem zrv {ns:List D} {as:List Arw} {is:List Int} (hl:is.length≤1000) (hb:∀a∈as,a.b≤4) (hr:∀i∈is,0≤i∧i<(as.length:Int)) (h0:(is.map (bI as)).sum≠0):zhp [netD ns as,.lst (is.map .int)]=some (fr (Fq.mk (is.map (tI as)).sum (is.map (bI as)).sum)):=by
 have k1:=zhv (ns:=ns) (as:=as) (is:=is) (fld:="time") (f:=fun a=>a.t) (q:=zeg) rfl ft hl hr [some (netD ns as),some (.lst (is.map .int)),none,none] rfl rfl
 have k2:=zhv (ns:=ns) (as:=as) (is:=is) (fld:="behind") (f:=fun a=>(a.b:Int)) (q:=zef) rfl fb hl hr [some (netD ns as),some (.lst (is.map .int)),some (.int (is.map (tI as)).sum),none] rfl rfl
 have s1:=zhw (is.map (tI as))
 have s2:=zhw (is.map (bI as))
 have bd:=zni (f:=bI as) (m:=4) (by decide) is fun i hi=>by
  have:=hb (aN as i.toNat) (List.mem_iff_getElem?.mpr ⟨i.toNat,zf4 (by have:=hr i hi; omega)⟩)
  unfold bI
  omega
 have ra:=zen (t:=(is.map (tI as)).sum) h0 (zat (w:=4000) (by omega) (by omega) (by decide))
 replace k1:zeg _=some (.lst ((is.map (tI as)).map .int)):=k1
 replace k2:zef _=some (.lst ((is.map (bI as)).map .int)):=k2
 generalize fr (Fq.mk (is.map (tI as)).sum (is.map (bI as)).sum)=F at *
 generalize (is.map (tI as)).map D.int=tl at *
 generalize (is.map (bI as)).map D.int=bl at *
 generalize (is.map (tI as)).sum=T at *
 generalize (is.map (bI as)).sum=Bh at *
 generalize netD ns as=net at *
 generalize is.map D.int=il at *
 unfold zhp
 clear bd hl hb hr h0
 walk_at "mir"
theorem zhx {as:List Arw} {is:List Int} {rank:Nat→Nat} (hrk:∀a∈as,a.b=0→rank a.s<rank a.g) (h:RngR (sI as) (gI as) as.length is):1≤(is.map (bI as)).sum:=by
 obtain ⟨h1,h2,h3,h4⟩:=h
 have hm:∀i∈is,aN as i.toNat∈as:=fun i hi=>List.mem_iff_getElem?.mpr ⟨i.toNat,zf4 (by have:=h2 i hi; omega)⟩
 have pe:((is.map (sI as)).map rank).sum=((is.map (gI as)).map rank).sum:=by
  rw [h3]
  exact ((zbb _).map _).sum_nat
 have key:∀js:List Int,(∀i∈js,aN as i.toNat∈as)→0≤(js.map (bI as)).sum∧((js.map (bI as)).sum=0→((js.map (sI as)).map rank).sum+js.length≤((js.map (gI as)).map rank).sum):=by
  intro js
  induction js with
  | nil=>intro _; simp
  | cons i js ih =>
   intro hj
   obtain ⟨q1,q2⟩:=ih fun j hj'=>hj j (List.mem_cons_of_mem _ hj')
   simp only [List.map_cons,List.sum_cons,List.length_cons]
   have q3:0≤bI as i:=by unfold bI; omega
   refine ⟨by omega,fun e=>?_⟩
   have q4:=q2 (by omega)
   have q9:bI as i=0:=by omega
   have q5:=hrk _ (hj i List.mem_cons_self) (by unfold bI at q9; omega)
   have q6:sI as i=(aN as i.toNat).s:=rfl
   have q7:gI as i=(aN as i.toNat).g:=rfl
   rw [q6,q7]
   omega
 obtain ⟨k1,k2⟩:=key is hm
 by_cases e:(is.map (bI as)).sum=0
 ·have:=k2 e
  have:=List.length_pos_iff.mpr h1
  omega
 ·omega
structure DictI (d:D) (ch:Nat→Option Nat) (m:Nat):Prop where
 is:∃ks ds,d=.dK ks ds∧ks.length=ds.length∧ks.length≤m∧∀x:Nat,getK ks ds (.inl (x:Int))=(ch x).map fun (n:Nat)=>D.int (n:Int)
theorem DictI.get {d:D} {ch:Nat→Option Nat} {m:Nat} (h:DictI d ch m) {x n:Nat} (e:ch x=some n):(dgetD d (.int (x:Int))).join=some (.int (n:Int)):=by
 obtain ⟨ks,ds,rfl,_,_,h3⟩:=h.is
 show getK ks ds (.inl (x:Int))=_
 rw [h3,e]
 rfl
theorem DictI.put {d:D} {ch:Nat→Option Nat} {m:Nat} (h:DictI d ch m) (hm:m<16777216) (x n:Nat):∃d',(∀(ρ:L3.Env) (i:Nat) (fj f:EF),f ρ=some (.int (n:Int))→eV i ρ=some d→fj ρ=some (.int (x:Int))→sPutD i fj f ρ=some (.nx (ρ.set i (some d'))))∧DictI d' (fun y=>if y=x then some n else ch y) (m+1):=by
 obtain ⟨ks,ds,rfl,h1,h2,h3⟩:=h.is
 refine ⟨.dK (putK' ks ds (.inl (x:Int)) (.int (n:Int))).1 (putK' ks ds (.inl (x:Int)) (.int (n:Int))).2,fun ρ i fj f e1 e2 e3=>?_,⟨_,_,rfl,(zkp h1 _ _).1,by have:=(zkp h1 (.inl (x:Int)) (.int (n:Int))).2; omega,fun y=>?_⟩⟩
 ·unfold sPutD
  rw [e1]
  show (eV i ρ).bind _=_
  rw [e2]
  show (fj ρ).bind _=_
  rw [e3]
  show (if ks.length<16777216 then some (Out.nx (ρ.set i (some (.dK (putK' ks ds (.inl (x:Int)) (.int (n:Int))).1 (putK' ks ds (.inl (x:Int)) (.int (n:Int))).2)))) else none)=_
  rw [if_pos (by omega)]
 ·rw [zmn h1]
  by_cases e:y=x
  ·subst e
   rw [if_pos rfl,if_pos rfl]
   rfl
  ·rw [if_neg (fun z=>e (by have:=Sum.inl.inj z; omega)),if_neg e]
   exact h3 y
theorem zcr {c:BF} {b:SF} (I:L3.Env→Prop) (μ:L3.Env→Nat) (R:D→Prop) (st:∀ρ,I ρ→∃t,c ρ=some t∧(t=true→(∃ρ',b ρ=some (.nx ρ')∧I ρ'∧μ ρ' < μ ρ)∨∃d,b ρ=some (.rt d)∧R d)) :
  ∀(n:Nat) (ρ:L3.Env),I ρ→μ ρ<n→(∃ρ',whileD c b n ρ=some (.nx ρ')∧I ρ'∧c ρ'=some false)∨∃d,whileD c b n ρ=some (.rt d)∧R d
 | 0,_,_,h=>absurd h (by omega)
 | n+1,ρ,hI,h=>by
  obtain ⟨t,h1,h2⟩:=st ρ hI
  cases t with
  | false=>exact .inl ⟨ρ,by show (c ρ).bind _=_; rw [h1]; rfl,hI,h1⟩
  | true =>
   rcases h2 rfl with ⟨ρ',h3,h4,h5⟩ | ⟨d,h3,h4⟩
   ·rcases zcr I μ R st n ρ' h4 (by omega) with ⟨ρ2,h6,h7,h8⟩ | ⟨d,h6,h7⟩
    ·refine .inl ⟨ρ2,?_,h7,h8⟩
     show (c ρ).bind _=_
     rw [h1]
     show (b ρ).bind _=_
     rw [h3]; exact h6
    ·refine .inr ⟨d,?_,h7⟩
     show (c ρ).bind _=_
     rw [h1]
     show (b ρ).bind _=_
     rw [h3]; exact h6
   ·refine .inr ⟨d,?_,h4⟩
    show (c ρ).bind _=_
    rw [h1]
    show (b ρ).bind _=_
    rw [h3]; rfl
theorem zpq {p q:Int×Int} (h1:Fz 9000 p) (h2:Fz 9000 q):zee [fr p,fr q]=some (.bl (Fq.under p q)):=by
 have e1:=zbg h1.1 h2.2 (by decide) (by decide)
 have e2:=zbg h2.1 h1.2 (by decide) (by decide)
 unfold zee
 have f0:=fr0
 have f1:=fr1
 walk_at "mir"
 rfl
theorem zku {n:Nat} {x y:Int×Int} (lx:Fq.Low x) (ly:Fq.Low y) (hx:Fz n x) (hy:Fz n y):Fz (n+n+1) (Fq.plus x y) :=
 zpn (lx.mul_ne ly) (Sz.add (hx.1.mul hy.2) (hy.1.mul hx.2)) ((hx.2.mul hy.2).mono (by omega))
theorem zcs {n m:Nat} {x:Int×Int} {k:Int} (lx:Fq.Low x) (hx:Fz n x) (hk:Sz m k):Fz (n+m) (Fq.scaled x k):=zpn lx.ne (hx.1.mul hk) (hx.2.mono (Nat.le_add_right _ _))
theorem znj {n:Nat} {p q:Int×Int} (hn:n≤2000) (lp:Fq.Low p) (lq:Fq.Low q) (h1:Fz n p) (h2:Fz n q):zfv [fr p,fr q]=some (fr (Fq.plus p q)):=by
 have e1:=zbg h1.1 h2.2 (by omega) (by omega)
 have e2:=zbg h2.1 h1.2 (by omega) (by omega)
 have e3:=zbg h1.2 h2.2 (by omega) (by omega)
 have r:=zen (t:=p.1 * q.2+q.1 * p.2) (lp.mul_ne lq) ((h1.2.mul h2.2).mono (by omega))
 have f0:=fr0
 have f1:=fr1
 unfold zfv Fq.plus
 clear h1 h2 lp lq hn
 generalize fr (Fq.mk (p.1 * q.2+q.1 * p.2) (p.2 * q.2))=rr at *
 walk_at "mir"
theorem zhy {n m:Nat} {p:Int×Int} {k:Int} (hn:n≤2000) (hm:m≤2000) (lp:Fq.Low p) (h1:Fz n p) (hk:Sz m k):za6 [fr p,.int k]=some (fr (Fq.scaled p k)):=by
 have e1:=zbg h1.1 hk (by omega) (by omega)
 have r:=zen (t:=p.1 * k) lp.ne (h1.2.mono (by omega))
 have f0:=fr0
 have f1:=fr1
 unfold za6 Fq.scaled
 clear h1 hk lp hn hm
 generalize fr (Fq.mk (p.1 * k) p.2)=rr at *
 walk_at "mir"
theorem zkv:Sz 1 (-1):=by unfold Sz; decide
theorem zpr {n:Nat} {p q:Int×Int} (hn:n≤1000) (lp:Fq.Low p) (lq:Fq.Low q) (h1:Fz n p) (h2:Fz n q):zed [fr p,fr q]=some (fr (Fq.minus p q)):=by
 have e1:=zhy (by omega) (by decide) lq h2 zkv
 have e2:=znj (n:=n+1) (by omega) lp (Fq.scaled_low lq (-1)) (h1.mono (by omega)) (zcs lq h2 zkv)
 unfold zed Fq.minus
 clear h1 h2 lp lq hn
 generalize fr (Fq.plus p (Fq.scaled q (-1)))=rr at *
 generalize fr (Fq.scaled q (-1))=sq at *
 walk_at "mir"
theorem zmq {n:Nat} {x y:Int×Int} (lx:Fq.Low x) (ly:Fq.Low y) (hx:Fz n x) (hy:Fz n y):Fz (n+1+(n+1)+1) (Fq.minus x y) :=
 zku lx (Fq.scaled_low ly (-1)) (hx.mono (by omega)) (zcs ly hy zkv)
def early (pace:Int×Int) (tm:Nat→Int×Int) (a:Arw):Int×Int:=Fq.minus (Fq.plus (tm a.s) (a.t,1)) (Fq.scaled pace (a.b:Int))
theorem zct (t:Int):Fq.Low (t,1):=⟨Int.le_refl 1,by show Int.gcd t 1=1; simp⟩
theorem zkw {pace:Int×Int} {tm:Nat→Int×Int} {a:Arw} (lp:Fq.Low pace) (lt:Fq.Low (tm a.s)):Fq.Low (early pace tm a):=Fq.minus_low (Fq.plus_low lt (zct _)) (Fq.scaled_low lp _)
def frs' (many:Nat) (tm:Nat→Int×Int):List D:=(List.range many).map fun g=>fr (tm g)
theorem znk {many:Nat} (tm:Nat→Int×Int) {g:Nat} (h:g<many):ixD (.lst (frs' many tm)) (.int (g:Int))=some (fr (tm g)):=qj (by simp [frs',h])
theorem zrw {many:Nat} {pace:Int×Int} {tm:Nat→Int×Int} {a:Arw} (hr:Right many a) (lp:Fq.Low pace) (lt:∀g,Fq.Low (tm g)) (zp:Fz 300 pace) (zt:∀g,Fz 300 (tm g)):za7 [encA a,fr pace,.lst (frs' many tm)]=some (.bl (!Fq.under (tm a.g) (early pace tm a))):=by
 have g1:=fs a
 have g2:=fg a
 have g3:=ft a
 have g4:=fb a
 have i1:=znk tm hr.s
 have i2:=znk tm hr.g
 have st:Sz 300 a.t:=zat (w:=1000000000) (by have:=hr.t0; omega) hr.t1 (by decide)
 have sb:Sz 10 (a.b:Int):=zat (w:=4) (by omega) (by have:=hr.b; omega) (by decide)
 have zo:Fz 300 (a.t,1):=⟨st,zat (i:=1) (w:=1) (by decide) (by decide) (by decide)⟩
 have p1:=znj (n:=300) (by decide) (lt a.s) (zct a.t) (zt a.s) zo
 have z1:=zku (lt a.s) (zct a.t) (zt a.s) zo
 have s1:=zhy (n:=300) (m:=10) (by decide) (by decide) lp zp sb
 have z2:=zcs lp zp sb
 have l1:=Fq.plus_low (lt a.s) (zct a.t)
 have l2:=Fq.scaled_low lp (a.b:Int)
 have m1:=zpr (n:=601) (by decide) l1 l2 z1 (z2.mono (by decide))
 have z3:=zmq l1 l2 z1 (z2.mono (by decide))
 have u1:=zpq (p:=tm a.g) (q:=early pace tm a) ((zt a.g).mono (by decide)) (z3.mono (by decide))
 have f2:(.tup [.int a.t,.int 1]:D)=fr (a.t,1):=rfl
 unfold early at u1 ⊢
 clear zp zt lt lp hr st sb zo z1 z2 z3 l1 l2
 generalize fr (Fq.minus (Fq.plus (tm a.s) (a.t,1)) (Fq.scaled pace (a.b:Int)))=fm at *
 generalize Fq.under (tm a.g) (Fq.minus (Fq.plus (tm a.s) (a.t,1)) (Fq.scaled pace (a.b:Int)))=ub at *
 generalize fr (Fq.plus (tm a.s) (a.t,1))=fp at *
 generalize fr (Fq.scaled pace (a.b:Int))=fsc at *
 generalize fr (tm a.s)=fts at *
 generalize fr (tm a.g)=ftg at *
 generalize fr pace=fpc at *
 generalize frs' many tm=fl at *
 unfold za7
 rw [← f2] at p1
 clear f2
 walk_at "mir"
theorem zrx (bs:List Bool):allD [.lst (bs.map .bl)]=some (.bl (bs.all id)):=by
 show (boolsD (bs.map .bl)).bind _=_
 have:boolsD (bs.map .bl)=some bs:=by
  induction bs with
  | nil=>rfl
  | cons b bs ih=>show (boolsD (bs.map .bl)).bind _=_; rw [ih]; rfl
 rw [this]
 rfl
theorem zry {ns:List D} {many:Nat} {as:List Arw} {pace:Int×Int} {tm:Nat→Int×Int} (h:NetOk many as) (hn:ns.length=many) (lp:Fq.Low pace) (lt:∀g,Fq.Low (tm g)) (zp:Fz 300 pace) (zt:∀g,Fz 300 (tm g)) :
  zfw [netD ns as,fr pace,.lst (frs' many tm)]=some (.bl (as.all fun a=>!Fq.under (tm a.g) (early pace tm a))):=by
 have hlen:=h.len
 have hq:zeh [some (netD ns as),some (fr pace),some (.lst (frs' many tm))]=some (.lst ((as.map fun a=>!Fq.under (tm a.g) (early pace tm a)).map .bl)):=by
  rw [List.map_map]
  refine uo (own:=1) (cap:=[1,2]) (g:=gV 0) encA (D.bl ∘ fun a=>!Fq.under (tm a.g) (early pace tm a)) as (by rfl) (by omega) fun a ha=>⟨_,rfl,?_⟩
  exact zrw (h.right a ha) lp lt zp zt
 have al:=zrx (as.map fun a=>!Fq.under (tm a.g) (early pace tm a))
 rw [List.all_map] at al
 have al2:allD [.lst ((as.map fun a=>!Fq.under (tm a.g) (early pace tm a)).map .bl)]=some (.bl (as.all fun a=>!Fq.under (tm a.g) (early pace tm a))):=al
 clear al
 have f5:=zhu ns as
 have l1:lenD [.lst ns]=some (.int (many:Int)):=(vf _).trans (by rw [hn])
 have l2:lenD [.lst (frs' many tm)]=some (.int (many:Int)):=(vf _).trans (by unfold frs'; simp)
 have q1:eqD true (.int (many:Int)) (.int (many:Int))=some (.bl false):=(zd2 _ _).trans (by simp)
 generalize ((as.map fun a=>!Fq.under (tm a.g) (early pace tm a)).map D.bl)=bl at *
 generalize (as.all fun a=>!Fq.under (tm a.g) (early pace tm a))=ab at *
 generalize netD ns as=net at *
 generalize fr pace=fpc at *
 generalize frs' many tm=fl at *
 clear h hlen lp lt zp zt hn
 unfold zfw
 generalize zeh=qq at *
 walk_at "mir"
theorem zps {pace:Int×Int} {tm:Nat→Int×Int} {a:Arw} {T W:Int} (lp:Fq.Low pace) (lt:Fq.Low (tm a.s)) (hW:0<W) (hT:(tm a.s).1 * W=T * (tm a.s).2) :
  (early pace tm a).1 * (W * pace.2)=(T * pace.2+(a.t * W * pace.2-pace.1 * (a.b:Int) * W)) * (early pace tm a).2:=by
 have l1:=Fq.plus_low lt (zct a.t)
 have l2:=Fq.scaled_low lp (a.b:Int)
 have v1:=Fq.plus_v (tm a.s) (a.t,1)
 have v2:=Fq.scaled_v pace (a.b:Int)
 have v3:=Fq.minus_v (p:=Fq.plus (tm a.s) (a.t,1)) l2
 unfold early
 generalize Fq.minus (Fq.plus (tm a.s) (a.t,1)) (Fq.scaled pace (a.b:Int))=q at *
 have p1:=l1.gt
 have p2:=l2.gt
 have p3:=lt.gt
 generalize Fq.plus (tm a.s) (a.t,1)=A at *
 generalize Fq.scaled pace (a.b:Int)=S at *
 generalize tm a.s=t at *
 obtain ⟨q1,q2⟩:=q
 obtain ⟨A1,A2⟩:=A
 obtain ⟨S1,S2⟩:=S
 obtain ⟨t1,t2⟩:=t
 obtain ⟨P,Q⟩:=pace
 dsimp only at *
 generalize (a.b:Int)=b at *
 generalize a.t=u at *
 have hne:A2 * S2 * t2≠0:=Int.mul_ne_zero (Int.mul_ne_zero (by omega) (by omega)) (by omega)
 apply Int.eq_of_mul_eq_mul_right hne
 grind
theorem zmr {pace:Int×Int} {tm:Nat→Int×Int} {a:Arw} {W:Int} {top:Nat→Int} (lp:Fq.Low pace) (lt:∀g,Fq.Low (tm g)) (hW:0<W) (hT:∀g,(tm g).1 * W=top g * (tm g).2) :
  (!Fq.under (tm a.g) (early pace tm a))=decide (top a.g * pace.2 ≥ top a.s * pace.2+(a.t * W * pace.2-pace.1 * (a.b:Int) * W)):=by
 have hQ:=lp.gt
 have e:=Fq.lt_congr (lt a.g).gt hW (zkw (tm:=tm) (a:=a) lp (lt a.s)).gt (Int.mul_pos hW hQ) (hT a.g) (zps lp (lt a.s) hW (hT a.s))
 have e2:top a.g * (W * pace.2)<(top a.s * pace.2+(a.t * W * pace.2-pace.1 * (a.b:Int) * W)) * W↔top a.g * pace.2<top a.s * pace.2+(a.t * W * pace.2-pace.1 * (a.b:Int) * W):=by
  generalize top a.s * pace.2+(a.t * W * pace.2-pace.1 * (a.b:Int) * W)=Z
  have:top a.g * (W * pace.2)=(top a.g * pace.2) * W:=by grind
  rw [this]
  exact ⟨fun h=>Int.lt_of_mul_lt_mul_right h (by omega),fun h=>Int.mul_lt_mul_of_pos_right h hW⟩
 rw [e2] at e
 unfold Fq.under
 rw [decide_eq_decide.mpr e]
 by_cases h:top a.g * pace.2<top a.s * pace.2+(a.t * W * pace.2-pace.1 * (a.b:Int) * W)
 ·rw [decide_eq_true h,decide_eq_false (by omega)]; rfl
 ·rw [decide_eq_false h,decide_eq_true (by omega)]; rfl
theorem DictI.one (x n:Nat):∃d,dispD (.int (x:Int)) (.int (n:Int))=some d∧DictI d (fun y=>if y=x then some n else none) 1:=by
 refine ⟨.dK [.inl (x:Int)] [.int (n:Int)],rfl,⟨_,_,rfl,rfl,by simp,fun y=>?_⟩⟩
 unfold getK
 by_cases h:y=x
 ·subst h
  rw [if_pos rfl]
  simp
 ·rw [if_neg h]
  have:¬(x:Int)=(y:Int):=by omega
  simp [this]
theorem DictI.has {d:D} {ch:Nat→Option Nat} {m:Nat} (h:DictI d ch m) (x:Nat):dgetD d (.int (x:Int))=some ((ch x).map fun (n:Nat)=>D.int (n:Int)):=by
 obtain ⟨ks,ds,rfl,_,_,h3⟩:=h.is
 show some (getK ks ds (.inl (x:Int)))=_
 rw [h3]
def muF (ρ:L3.Env):Nat:=match ρ[2]?.join with
 | some (D.lst ds)=>1000-ds.length
 | _=>0
def cF:BF:=tb (fun ρ=>((e2 ixD (e2 ixD (eV 0) (e2 ixD (eV 2) (e1 negD (eC (.int 1))))) (eC (.int 1))) ρ).bind fun x=>((eV 3) ρ).bind fun y=>(dgetD y x).bind fun r=>some (.bl (!r.isSome)))
theorem Wlk.last {S G:Nat→Nat} {n:Nat}:∀{w:List Nat} {a b:Nat},Wlk S G a (w++[n]) b→G n=b
 | [],a,b,h=>h.2
 | m::w,a,b,h=>Wlk.last (w:=w) h.2
theorem Wlk.drop {S G:Nat→Nat}:∀{w:List Nat} {a b:Nat} {j n:Nat},Wlk S G a w b→w[j]?=some n→Wlk S G (S n) (w.drop j) b
 | [],a,b,j,n,h,e=>by simp at e
 | m::w,a,b,0,n,h,e=>by
  have e:m=n:=by simpa using e
  subst e
  exact ⟨rfl,h.2⟩
 | m::w,a,b,j+1,n,h,e=>by
  rw [List.drop_succ_cons]
  exact Wlk.drop h.2 (by simpa using e)
theorem zkx {w:List Nat} (h:w≠[]):∃n,n∈w∧(∃w',w=w'++[n])∧ixD (.lst (nats w)) (.int (-1))=some (.int (n:Int)):=by
 have hl:=List.length_pos_iff.mpr h
 refine ⟨w[w.length-1]'(by omega),List.getElem_mem _,⟨w.dropLast,?_⟩,?_⟩
 ·have:=(List.dropLast_concat_getLast h).symm
  rw [List.getLast_eq_getElem] at this
  exact this
 show atI _ _=_
 unfold atI
 have:ixN (nats w).length (-1)=some (w.length-1):=by
  unfold nats
  rw [List.length_map]
  unfold ixN
  rw [if_neg (by omega),if_pos (by omega)]
  congr 1
  omega
 rw [this]
 show (nats w)[w.length-1]?=_
 unfold nats
 rw [List.getElem?_map,List.getElem?_eq_getElem (by omega)]
 rfl
theorem zis {as:List Arw} {n:Nat} (h1:n<as.length):ixD (.lst (as.map encT)) (.int (n:Int))=some (.tup [.int ((aN as n).s:Int),.int ((aN as n).g:Int),.int (aN as n).t,.int ((aN as n).b:Int)]):=qj (by rw [List.getElem?_map,zf4 h1]; rfl)
theorem zms {as:List Arw} {g:Nat} (hl:as.length≤1000) (r:L3.Env) (h0:r[0]?.join=some (.lst (as.map encT))) (h4:r[4]?.join=some (.int (g:Int))):za9 r=some (.lst (nats ((List.range as.length).filter fun n=>decide ((aN as n).s=g)))):=by
 have e0:eV 0 r=_:=h0
 have ln:eN lenD (aCons (eV 0) aNil) r=some (.int (as.length:Int)):=by
  unfold eN aCons aNil
  rw [e0]
  show lenD [.lst (as.map encT)]=_
  rw [vf,List.length_map]
 refine zel (fun (t:Nat)=>D.int (t:Int)) (fun (n:Nat)=>decide ((aN as n).s=g)) (fun (n:Nat)=>D.int (n:Int)) (List.range as.length) (zdj ln (by omega)) (by rw [List.length_range]; omega) fun n hn=>⟨_,rfl,?_,fun _=>rfl⟩
 have hcap:capsD r [0,4]=[some (.lst (as.map encT)),some (.int (g:Int))]:=by unfold capsD; simp [h0,h4]
 rw [hcap]
 have i1:=zis (as:=as) (List.mem_range.mp hn)
 have e0:∀(a b c d:D),ixD (.tup [a,b,c,d]) (.int 0)=some a:=fun _ _ _ _=>rfl
 have q:eqD false (.int ((aN as n).s:Int)) (.int (g:Int))=some (.bl (decide ((aN as n).s=g))):=(zd2 _ _).trans (by rw [if_neg (by decide),show decide (((aN as n).s:Int)=(g:Int))=decide ((aN as n).s=g) from decide_eq_decide.mpr (by omega)])
 generalize decide ((aN as n).s=g)=bb at *
 generalize as.map encT=al at *
 clear hcap h0 h4 hn hl ln
 walk_at "mir"
theorem zky (neg:Bool) (w:List Nat):eqD neg (.lst (nats w)) (.lst [])=some (.bl (if neg then !decide (w=[]) else decide (w=[]))):=by
 have:=(El Ei).eq (by decide) (neg:=neg) (w.map fun (x:Nat)=>(x:Int)) []
 have e:(El Ei).enc (w.map fun (x:Nat)=>(x:Int))=.lst (nats w):=by
  show D.lst ((w.map fun (x:Nat)=>(x:Int)).map D.int)=_
  rw [List.map_map]; rfl
 rw [e] at this
 have hd:decide ((w.map fun (x:Nat)=>(x:Int))=[])=decide (w=[]):=decide_eq_decide.mpr (by simp)
 rw [hd] at this
 exact this
theorem zhz {as:List Arw} {many z:Nat} (hm:many≤1000-100) (hl:as.length≤1000) (hs:∀a∈as,a.s<many∧a.g<many) (hz:z<2147483648):∃w:List Nat,w.length≤many∧(∀n∈w,n<as.length)∧(w≠[]→∃x,Wlk (fun n=>(aN as n).s) (fun n=>(aN as n).g) x w x)∧vz [.lst (as.map encT),.int (z:Int)]=some (.lst (nats w)):=by
 have q0:=zpl false as
 rw [if_neg (by decide)] at q0
 by_cases h0:as=[]
 ·refine ⟨[],by simp,fun n hn=>(by cases hn),fun z=>absurd rfl z,?_⟩
  rw [decide_eq_true h0] at q0
  have n0:nats []=[]:=rfl
  rw [n0]
  generalize as.map encT=al at *
  unfold vz
  clear h0 hm hl hs hz n0
  walk_at "mir"
 ·rw [decide_eq_false h0] at q0
  have hlp:=List.length_pos_iff.mpr h0
  have la:lenD [.lst (as.map encT)]=some (.int (as.length:Int)):=(vf _).trans (by rw [List.length_map])
  have md:modD (.int (z:Int)) (.int (as.length:Int))=some (.int ((z % as.length:Nat):Int)):=by rw [u4 (by omega)]; simp
  have hn0:z % as.length<as.length:=Nat.mod_lt _ hlp
  generalize z % as.length=n0 at *
  have mem:∀n,n<as.length→aN as n∈as:=fun n hn=>List.mem_iff_getElem?.mpr ⟨n,zf4 hn⟩
  obtain ⟨d0,hd0,hD0⟩:=DictI.one (aN as n0).s 0
  replace hd0:dispD (.int ((aN as n0).s:Int)) (.int 0)=some d0:=hd0
  have z0:∀(a b c d:D),ixD (.tup [a,b,c,d]) (.int 0)=some a:=fun _ _ _ _=>rfl
  have z1:∀(a b c d:D),ixD (.tup [a,b,c,d]) (.int 1)=some b:=fun _ _ _ _=>rfl
  have cnd:∀(w:List Nat) (n:Nat) (d:D) (ch:Nat→Option Nat) (m:Nat) (y1 y4 y5:Option D),ixD (.lst (nats w)) (.int (-1))=some (.int (n:Int))→n<as.length→DictI d ch m→cF [some (.lst (as.map encT)),y1,some (.lst (nats w)),some d,y4,y5]=some (!(ch (aN as n).g).isSome):=by
   intro w n d ch m y1 y4 y5 hw hn hd
   have i1:=zis (as:=as) hn
   have g1:=hd.has (aN as n).g
   have e2':((ch (aN as n).g).map fun (n:Nat)=>D.int (n:Int)).isSome=(ch (aN as n).g).isSome:=by cases ch (aN as n).g <;> rfl
   rw [← e2']
   generalize (ch (aN as n).g).map (fun (n:Nat)=>D.int (n:Int))=o at *
   generalize as.map encT=al at *
   generalize nats w=wl at *
   unfold cF
   clear hd hn hs hm hl hz q0 h0 hlp la md hn0 mem hd0 hD0 e2'
   walk_at "mir"
  have lp:=zcr (c:=cF) (b:=u8)
   (fun ρ=>∃(w sn:List Nat) (ch:Nat→Option Nat) (d:D) (x:Nat) (y4 y5:Option D),ρ=[some (.lst (as.map encT)),some (.int (x:Int)),some (.lst (nats w)),some d,y4,y5]∧w≠[]∧(∀n∈w,n<as.length)∧x<2147483648∧DictI d ch w.length∧sn.Nodup∧(∀x∈sn,x<many)∧sn.length=w.length∧(∀x,(ch x).isSome=true↔x∈sn)∧(∀x n,ch x=some n→n≤w.length)∧(∃s0 b,Wlk (fun n=>(aN as n).s) (fun n=>(aN as n).g) s0 w b)∧∀y v,ch y=some v→∃n,w[v]?=some n∧(aN as n).s=y) muF
   (fun d=>d=.lst []) (by
    rintro ρ ⟨w,sn,ch,d,x,y4,y5,rfl,a1,a2,a3,a4,a5,a6,a7,a8,a9,⟨s0,b0,a10⟩,a11⟩
    obtain ⟨n,hn1,⟨w',hw'⟩,hn2⟩:=zkx a1
    have hn:=a2 n hn1
    have hb0:(aN as n).g=b0:=Wlk.last (w:=w') (n:=n) (by rw [← hw']; exact a10)
    have hwl:w.length≤many:=by rw [← a7]; exact Kahn.len_le a5 a6
    refine ⟨_,cnd w n d ch _ _ y4 y5 hn2 hn a4,fun ht=>?_⟩
    have hnone:ch (aN as n).g=none:=by
     cases hc:ch (aN as n).g with
     | none=>rfl
     | some v=>rw [hc] at ht; cases ht
    obtain ⟨d2,put,hd2⟩:=a4.put (by omega) (aN as n).g w.length
    have on:=zms (as:=as) (g:=(aN as n).g) hl [some (.lst (as.map encT)),some (.int (x:Int)),some (.lst (nats w)),some d2,some (.int ((aN as n).g:Int)),y5] rfl rfl
    have onm:∀k∈(List.range as.length).filter (fun k=>decide ((aN as k).s=(aN as n).g)),k<as.length∧(aN as k).s=(aN as n).g:=fun k hk=>⟨List.mem_range.mp (List.mem_filter.mp hk).1,by simpa using (List.mem_filter.mp hk).2⟩
    generalize (List.range as.length).filter (fun k=>decide ((aN as k).s=(aN as n).g))=ow at *
    have i1:=zis (as:=as) hn
    have lw:lenD [.lst (nats w)]=some (.int (w.length:Int)):=(vf _).trans (by unfold nats; rw [List.length_map])
    have q:=zky false ow
    rw [if_neg (by decide)] at q
    have put:=put [some (.lst (as.map encT)),some (.int (x:Int)),some (.lst (nats w)),some d,some (.int ((aN as n).g:Int)),y5] 3 (eV 4) (eN lenD (aCons (eV 2) aNil)) (by
     show lenD [.lst (nats w)]=_
     rw [lw]) rfl rfl
    by_cases ho:ow=[]
    ·refine .inr ⟨_,?_,rfl⟩
     rw [decide_eq_true ho] at q
     generalize as.map encT=al at *
     generalize nats w=wl at *
     generalize nats ow=ol at *
     unfold u8
     generalize sPutD 3 (eV 4) (eN lenD (aCons (eV 2) aNil))=PP at *
     clear ho onm hd2 hnone ht hwl hn hn1 a1 a2 a3 a4 a5 a6 a7 a8 a9 a10 a11 hw' hb0 cnd hs hm hl hz q0 h0 hlp la md hn0 mem hd0 hD0 lw
     walk_at "mir"
    ·rw [decide_eq_false ho] at q
     have hop:=List.length_pos_iff.mpr ho
     obtain ⟨x2,hx2,hx3⟩:∃x2:Nat,(x:Int) * ((x:Int) / 1009+69621) % 2147483647=(x2:Int)∧x2<2147483648:=⟨((x:Int) * ((x:Int) / 1009+69621) % 2147483647).toNat,by have:=Int.emod_nonneg ((x:Int) * ((x:Int) / 1009+69621)) (b:=2147483647) (by decide); omega,by have:=Int.emod_lt_of_pos ((x:Int) * ((x:Int) / 1009+69621)) (b:=2147483647) (by decide); omega⟩
     have mu:mulI (.int (x:Int)) (.int ((x:Int) / 1009+69621))=some (.int ((x:Int) * ((x:Int) / 1009+69621))):=j9 (by omega) (by omega)
     have lo:lenD [.lst (nats ow)]=some (.int (ow.length:Int)):=(vf _).trans (by unfold nats; rw [List.length_map])
     have mo:modD (.int (x2:Int)) (.int (ow.length:Int))=some (.int ((x2 % ow.length:Nat):Int)):=by rw [u4 (by omega)]; simp
     have hk:=Nat.mod_lt x2 hop
     generalize x2 % ow.length=kk at *
     have ik:ixD (.lst (nats ow)) (.int (kk:Int))=some (.int ((ow[kk]'hk:Nat):Int)):=qj (by unfold nats; rw [List.getElem?_map,List.getElem?_eq_getElem hk]; rfl)
     obtain ⟨hnk,hnk2⟩:=onm _ (List.getElem_mem hk)
     generalize ow[kk]'hk=nk at *
     refine .inl ⟨[some (.lst (as.map encT)),some (.int (x2:Int)),some (.lst (nats (w++[nk]))),some d2,some (.int ((aN as n).g:Int)),some (.lst (nats ow))],?_,⟨w++[nk],sn++[(aN as n).g],fun y=>if y=(aN as n).g then some w.length else ch y,d2,x2,_,_,rfl,by simp,fun k hk'=>?_,hx3,?_,?_,fun y hy=>?_,?_,fun y=>?_,fun y v hv=>?_,⟨s0,(aN as nk).g,Wlk.app (b:=b0) (show Wlk (fun n=>(aN as n).s) (fun n=>(aN as n).g) b0 [nk] (aN as nk).g from ⟨by rw [← hb0]; exact hnk2,rfl⟩) a10⟩,fun y v hv=>?_⟩,?_⟩
     ·have e3:nats (w++[nk])=nats w++[.int (nk:Int)]:=by unfold nats; rw [List.map_append]; rfl
      have hz2:(nats w).length<16777216:=by unfold nats; rw [List.length_map]; omega
      have e5:D.int ((x:Int) * ((x:Int) / 1009+69621) % 2147483647)=D.int (x2:Int):=by rw [hx2]
      rw [e3]
      generalize as.map encT=al at *
      generalize nats w=wl at *
      generalize nats ow=ol at *
      generalize (ow.length:Int)=oll at *
      unfold u8
      generalize sPutD 3 (eV 4) (eN lenD (aCons (eV 2) aNil))=PP at *
      clear e5 ho onm hd2 hnone ht hwl hn hn1 a1 a2 a3 a4 a5 a6 a7 a8 a9 a10 a11 hw' hb0 cnd hs hm hl hz q0 h0 hlp la md hn0 mem hd0 hD0 lw hop hx3 hk hnk hnk2 e3
      walk_at "mir"
     ·rcases List.mem_append.mp hk' with h | h
      ·exact a2 k h
      ·rw [List.mem_singleton.mp h]; exact hnk
     ·rw [List.length_append,List.length_singleton]; exact hd2
     ·refine List.nodup_append.mpr ⟨a5,by simp,fun a ha b hb e=>?_⟩
      rw [List.mem_singleton.mp hb] at e
      have:=(a8 a).mpr ha
      rw [e,hnone] at this
      cases this
     ·rcases List.mem_append.mp hy with h | h
      ·exact a6 y h
      ·rw [List.mem_singleton.mp h]; exact (hs _ (mem n hn)).2
     ·rw [List.length_append,List.length_append,a7]; rfl
     ·show (if y=(aN as n).g then some w.length else ch y).isSome=true↔_
      rw [List.mem_append,List.mem_singleton,← a8 y]
      by_cases e:y=(aN as n).g
      ·rw [if_pos e]; simp [e]
      ·rw [if_neg e]; simp [e]
     ·replace hv:(if y=(aN as n).g then some w.length else ch y)=some v:=hv
      rw [List.length_append,List.length_singleton]
      by_cases e:y=(aN as n).g
      ·rw [if_pos e] at hv
       have:=Option.some.inj hv
       omega
      ·rw [if_neg e] at hv
       have:=a9 y v hv
       omega
     ·replace hv:(if y=(aN as n).g then some w.length else ch y)=some v:=hv
      by_cases e:y=(aN as n).g
      ·rw [if_pos e] at hv
       have:=Option.some.inj hv
       subst this
       exact ⟨nk,by simp,by rw [hnk2,e]⟩
      ·rw [if_neg e] at hv
       obtain ⟨n',b1,b2⟩:=a11 y v hv
       exact ⟨n',by rw [List.getElem?_append_left (List.getElem?_eq_some_iff.mp b1).1]; exact b1,b2⟩
     ·show 1000-(nats (w++[nk])).length<1000-(nats w).length
      unfold nats
      rw [List.length_map,List.length_map,List.length_append,List.length_singleton]
      omega) FUEL [some (.lst (as.map encT)),some (.int (z:Int)),some (.lst (nats [n0])),some d0,none,none]
   ⟨[n0],[(aN as n0).s],fun y=>if y=(aN as n0).s then some 0 else none,d0,z,none,none,rfl,by simp,fun n hn=>by rw [List.mem_singleton.mp hn]; exact hn0,hz,hD0,by simp,fun x hx=>by rw [List.mem_singleton.mp hx]; exact (hs _ (mem n0 hn0)).1,rfl,fun x=>by
    show (if x=(aN as n0).s then some 0 else none).isSome=true↔_
    rw [List.mem_singleton]
    by_cases e:x=(aN as n0).s
    ·simp [e]
    ·simp [e],(fun x n hx=>by
    replace hx:(if x=(aN as n0).s then some 0 else none)=some n:=hx
    by_cases e:x=(aN as n0).s
    ·rw [if_pos e] at hx; have:=Option.some.inj hx; simp; omega
    ·rw [if_neg e] at hx; cases hx),⟨(aN as n0).s,(aN as n0).g,rfl,rfl⟩,(fun y v hv=>by
    replace hv:(if y=(aN as n0).s then some 0 else none)=some v:=hv
    by_cases e:y=(aN as n0).s
    ·rw [if_pos e] at hv
     have:=Option.some.inj hv
     subst this
     exact ⟨n0,rfl,e.symm⟩
    ·rw [if_neg e] at hv; cases hv)⟩ (zgj (by show 1000-(nats [n0]).length<1048576; omega))
  have i0:=zis (as:=as) hn0
  have w0:ixD (.lst [.int (n0:Int)]) (.int 0)=some (.int (n0:Int)):=rfl
  have n1:nats [n0]=[.int (n0:Int)]:=rfl
  rw [n1] at lp
  rcases lp with ⟨ρ',l1,⟨w,sn,ch,d,x,y4,y5,rfl,a1,a2,a3,a4,a5,a6,a7,a8,a9,⟨s0,b0,a10⟩,a11⟩,hc⟩ | ⟨dd,l1,rfl⟩
  ·obtain ⟨n,hn1,⟨w',hw'⟩,hn2⟩:=zkx a1
   have hn:=a2 n hn1
   rw [cnd w n d ch _ _ y4 y5 hn2 hn a4] at hc
   obtain ⟨v,hv⟩:∃v,ch (aN as n).g=some v:=by
    cases hq:ch (aN as n).g with
    | none=>rw [hq] at hc; cases hc
    | some v=>exact ⟨v,rfl⟩
   have gv:=a4.get hv
   refine ⟨w.drop v,?_,fun k hk=>a2 k (List.mem_of_mem_drop hk),fun _=>⟨(aN as n).g,?_⟩,?_⟩
   ·rw [List.length_drop]
    have:=Kahn.len_le a5 a6
    omega
   ·obtain ⟨m,q1,q2⟩:=a11 _ _ hv
    have q3:=Wlk.drop a10 q1
    have q4:(aN as n).g=b0:=Wlk.last (w:=w') (n:=n) (by rw [← hw']; exact a10)
    rw [← q4] at q3
    replace q3:Wlk (fun n=>(aN as n).s) (fun n=>(aN as n).g) (aN as m).s (w.drop v) (aN as n).g:=q3
    rw [q2] at q3
    exact q3
   ·have in1:=zis (as:=as) hn
    have ct:cutD (nats w) (some (v:Int)) none=nats (w.drop v):=by
     rw [zfh]
     unfold nats
     rw [List.map_drop]
    unfold cF at l1
    generalize nats (w.drop v)=wd at *
    generalize as.map encT=al at *
    generalize nats w=wl at *
    unfold vz sWhile
    generalize (tb (fun ρ=>((e2 ixD (e2 ixD (eV 0) (e2 ixD (eV 2) (e1 negD (eC (.int 1))))) (eC (.int 1))) ρ).bind fun x=>((eV 3) ρ).bind fun y=>(dgetD y x).bind fun r=>some (.bl (!r.isSome))))=cc at *
    generalize (as.length:Int)=all at *
    clear hc hv a1 a2 a3 a4 a5 a6 a7 a8 a9 a10 a11 hw' hn hn1 cnd hs hm hl hz h0 hlp hn0 mem hD0 n1
    walk_at "mir"
  ·refine ⟨[],by simp,fun n hn=>(by cases hn),fun z=>absurd rfl z,?_⟩
   have nn:nats []=[]:=rfl
   rw [nn]
   unfold cF at l1
   generalize as.map encT=al at *
   unfold vz sWhile
   generalize (tb (fun ρ=>((e2 ixD (e2 ixD (eV 0) (e2 ixD (eV 2) (e1 negD (eC (.int 1))))) (eC (.int 1))) ρ).bind fun x=>((eV 3) ρ).bind fun y=>(dgetD y x).bind fun r=>some (.bl (!r.isSome))))=cc at *
   generalize (as.length:Int)=all at *
   clear cnd hs hm hl hz h0 hlp hn0 mem hD0 n1 nn
   walk_at "mir"
def cst' (as:List Arw) (p:Int×Int) (n:Nat):Int:=(aN as n).t * p.2-((aN as n).b:Int) * p.1
def aS (as:List Arw) (n:Nat):Nat:=(aN as n).s
def aG (as:List Arw) (n:Nat):Nat:=(aN as n).g
structure AOk (many:Nat) (a:Arw):Prop where
 s:a.s<many
 g:a.g<many
 t0:0≤a.t
 t1:a.t≤1000000000
 b:a.b≤4
theorem qz {as:List Arw} {n:Nat} (hn:n<as.length):aN as n∈as:=List.mem_iff_getElem?.mpr ⟨n,zf4 hn⟩
def upI (T:Nat→Int) (x:Nat) (v:Int):Nat→Int:=fun y=>if y=x then v else T y
def upO (T:Nat→Option Nat) (x v:Nat):Nat→Option Nat:=fun y=>if y=x then some v else T y
def upN (T:Nat→Nat) (x v:Nat):Nat→Nat:=fun y=>if y=x then v else T y
structure Psh (nums:List Nat) (S G:Nat→Nat) (c:Nat→Int) (r:Nat) (dn:List Nat) (T:Nat→Int) (ch:Nat→Option Nat) (lr ts:Nat→Nat) (k:Nat):Prop where
 le:∀x,lr x≤r
 st:∀x,ts x<k
 ch:∀x,0<lr x→∃n,ch x=some n∧n∈nums∧G n=x∧lr x≤lr (S n)+1∧T x≤T (S n)+c n∧(T x<T (S n)+c n∨ts (S n)<ts x)
 old:∀n∈nums,lr (S n)+1<r→T (S n)+c n≤T (G n)
 dn:∀n∈dn,lr (S n)<r→T (S n)+c n≤T (G n)
 pos:∀x,0≤T x
section
variable {nums:List Nat} {S G:Nat→Nat} {c:Nat→Int} {r:Nat} {dn:List Nat} {T:Nat→Int} {ch:Nat→Option Nat} {lr ts:Nat→Nat} {k:Nat}
theorem Psh.start:Psh nums S G c 1 [] (fun _=>0) (fun _=>none) (fun _=>0) (fun _=>0) 1 where
 le:=fun _=>Nat.zero_le _
 st:=fun _=>Nat.zero_lt_one
 ch:=fun _ h=>absurd h (Nat.lt_irrefl 0)
 old:=fun _ _ h=>absurd h (by omega)
 dn:=fun _ h=>by cases h
 pos:=fun _=>Int.le_refl 0
theorem Psh.next (h:Psh nums S G c r nums T ch lr ts k):Psh nums S G c (r+1) [] T ch lr ts k where
 le:=fun x=>Nat.le_succ_of_le (h.le x)
 st:=h.st
 ch:=h.ch
 old:=fun n hn h1=>h.dn n hn (by omega)
 dn:=fun _ h=>by cases h
 pos:=h.pos
theorem Psh.stay (h:Psh nums S G c r dn T ch lr ts k) {n:Nat} (hn:T (S n)+c n≤T (G n)):Psh nums S G c r (dn++[n]) T ch lr ts k where
 le:=h.le
 st:=h.st
 ch:=h.ch
 old:=h.old
 dn:=fun m hm h1=>by
  rcases List.mem_append.mp hm with hm | hm
  ·exact h.dn m hm h1
  ·rw [List.mem_singleton.mp hm]; exact hn
 pos:=h.pos
theorem Psh.push (h:Psh nums S G c r dn T ch lr ts k) {n:Nat} (hn:n∈nums) (hp:T (G n)<T (S n)+c n) :
  Psh nums S G c r (dn++[n]) (upI T (G n) (T (S n)+c n)) (upO ch (G n) n) (upN lr (G n) r) (upN ts (G n) k) (k+1) where
 le:=fun x=>by
  unfold upN
  split
  ·exact Nat.le_refl _
  ·exact h.le x
 st:=fun x=>by
  unfold upN
  have:=h.st x
  split <;> omega
 ch:=fun x hx=>by
  have up:∀y,T y≤upI T (G n) (T (S n)+c n) y:=fun y=>by
   unfold upI
   split
   ·rename_i e; rw [e]; omega
   ·exact Int.le_refl _
  have ul:∀y,lr y≤upN lr (G n) r y:=fun y=>by
   unfold upN
   split
   ·exact h.le y
   ·exact Nat.le_refl _
  by_cases e:x=G n
  ·subst e
   refine ⟨n,by simp [upO],hn,rfl,?_,?_,?_⟩
   ·have h1:¬lr (S n)+1<r:=fun z=>by have:=h.old n hn z; omega
    have h2:=ul (S n)
    have h3:upN lr (G n) r (G n)=r:=by simp [upN]
    omega
   ·have h2:=up (S n)
    have h3:upI T (G n) (T (S n)+c n) (G n)=T (S n)+c n:=by simp [upI]
    omega
   ·have h3:upI T (G n) (T (S n)+c n) (G n)=T (S n)+c n:=by simp [upI]
    by_cases e2:S n=G n
    ·left
     rw [e2] at hp h3 ⊢
     omega
    ·right
     have h4:upN ts (G n) k (G n)=k:=by simp [upN]
     have h5:upN ts (G n) k (S n)=ts (S n):=by simp [upN,e2]
     have:=h.st (S n)
     omega
  ·have hx':upN lr (G n) r x=lr x:=by simp [upN,e]
   have ht:upI T (G n) (T (S n)+c n) x=T x:=by simp [upI,e]
   rw [hx'] at hx
   obtain ⟨m,h1,h2,h3,h4,h5,h6⟩:=h.ch x hx
   refine ⟨m,by simp [upO,e,h1],h2,h3,?_,?_,?_⟩
   ·have:=ul (S m); omega
   ·have:=up (S m); omega
   ·by_cases e2:S m=G n
    ·left
     have h7:upI T (G n) (T (S n)+c n) (S m)=T (S n)+c n:=by simp [upI,e2]
     rw [e2] at h5
     omega
    ·have h7:upI T (G n) (T (S n)+c n) (S m)=T (S m):=by simp [upI,e2]
     have h8:upN ts (G n) k (S m)=ts (S m):=by simp [upN,e2]
     have h9:upN ts (G n) k x=ts x:=by simp [upN,e]
     rw [h7,h8,h9,ht]
     exact h6
 old:=fun m hm h1=>by
  have e2:S m≠G n:=fun e=>by
   have:upN lr (G n) r (S m)=r:=by simp [upN,e]
   omega
  have h7:upI T (G n) (T (S n)+c n) (S m)=T (S m):=by simp [upI,e2]
  have h8:upN lr (G n) r (S m)=lr (S m):=by simp [upN,e2]
  rw [h8] at h1
  have h9:=h.old m hm h1
  have:T (G m)≤upI T (G n) (T (S n)+c n) (G m):=by
   unfold upI
   split
   ·rename_i e; rw [e]; omega
   ·exact Int.le_refl _
  omega
 dn:=fun m hm h1=>by
  have e2:S m≠G n:=fun e=>by
   have:upN lr (G n) r (S m)=r:=by simp [upN,e]
   omega
  have h7:upI T (G n) (T (S n)+c n) (S m)=T (S m):=by simp [upI,e2]
  have h8:upN lr (G n) r (S m)=lr (S m):=by simp [upN,e2]
  rw [h8] at h1
  rcases List.mem_append.mp hm with hm | hm
  ·have h9:=h.dn m hm h1
   have:T (G m)≤upI T (G n) (T (S n)+c n) (G m):=by
    unfold upI
    split
    ·rename_i e; rw [e]; omega
    ·exact Int.le_refl _
   omega
  ·have hm:=List.mem_singleton.mp hm
   subst hm
   have h3:upI T (G m) (T (S m)+c m) (G m)=T (S m)+c m:=by simp [upI]
   omega
 pos:=fun x=>by
  unfold upI
  split
  ·have:=h.pos (G n); omega
  ·exact h.pos x
theorem Psh.cost {Q:Nat→Prop} (h:∀n,Q n→T (G n)≤T (S n)+c n∧(T (G n)<T (S n)+c n∨ts (S n)<ts (G n))):∀{w:List Nat} {a b:Nat},Wlk S G a w b→(∀n∈w,Q n)→T b≤T a+(w.map c).sum∧(w=[]∨T b<T a+(w.map c).sum∨ts a<ts b)
 | [],a,b,hw,_=>by
  have hw:a=b:=hw
  subst hw
  simp
 | n::w,a,b,hw,hq=>by
  obtain ⟨h1,h2⟩:=hw
  obtain ⟨i1,i2⟩:=Psh.cost h h2 fun m hm=>hq m (List.mem_cons_of_mem _ hm)
  obtain ⟨j1,j2⟩:=h n (hq n List.mem_cons_self)
  rw [List.map_cons,List.sum_cons]
  rw [← h1]
  refine ⟨by omega,.inr ?_⟩
  rcases i2 with i2 | i2 | i2
  ·subst i2
   have h2:G n=b:=h2
   subst h2
   simp at i1 ⊢
   rcases j2 with j2 | j2
   ·left; omega
   ·right; exact j2
  ·left; omega
  ·rcases j2 with j2 | j2
   ·left; omega
   ·right; omega
end
def Chn (S G:Nat→Nat):Nat→List Nat→Nat→Prop
 | a,[],b=>a=b
 | a,n::l,b=>G n=a∧Chn S G (S n) l b
theorem Chn.snoc {S G:Nat→Nat} {n:Nat}:∀{w:List Nat} {a b:Nat},Chn S G a w b→G n=b→Chn S G a (w++[n]) (S n)
 | [],a,b,h,e=>by
  have h:a=b:=h
  exact ⟨by rw [e,h],rfl⟩
 | m::w,a,b,h,e=>⟨h.1,Chn.snoc h.2 e⟩
theorem Chn.wlk {S G:Nat→Nat}:∀{w:List Nat} {a b:Nat},Chn S G a w b→Wlk S G b w.reverse a
 | [],a,b,h=>by
  have h:a=b:=h
  exact h.symm
 | n::w,a,b,h=>by
  rw [List.reverse_cons]
  exact Wlk.app (h.1 ▸ Wlk.one S G n) (Chn.wlk h.2)
theorem Chn.drop {S G:Nat→Nat}:∀{w:List Nat} {a b:Nat} {j n:Nat},Chn S G a w b→w[j]?=some n→Chn S G (G n) (w.drop j) b
 | [],a,b,j,n,h,e=>by simp at e
 | m::w,a,b,0,n,h,e=>by
  have e:m=n:=by simpa using e
  subst e
  exact ⟨rfl,h.2⟩
 | m::w,a,b,j+1,n,h,e=>by
  rw [List.drop_succ_cons]
  exact Chn.drop h.2 (by simpa using e)
structure Wk (ch:Nat→Option Nat) (S G:Nat→Nat) (lr:Nat→Nat) (v here:Nat) (ws:List Nat):Prop where
 ch:∀n∈ws,ch (G n)=some n∧0<lr (G n)
 way:Chn S G v ws here
 nd:(ws.map G).Nodup
 lr:lr v≤lr here+ws.length
def Pu (many:Nat) (lr:Nat→Nat) (r:Nat) (pu:D):Prop:=(pu=.non∧∀x,lr x<r)∨∃v:Nat,pu=.int (v:Int)∧v<many∧lr v=r
theorem zgz {many:Nat} {as:List Arw} {ns:List D} {p:Int×Int} {nums:List Nat} {r:Nat} {M:Int} (hal:∀a∈as,AOk many a) (hM:∀n,n<as.length→cst' as p n≤M) (hM0:0≤M) (hr:0<r) (hn:∀n∈nums,n<as.length) {e2:Option D} :
  ∀(post pre:List Nat) (T:Nat→Int) (d:D) (ch:Nat→Option Nat) (lr ts:Nat→Nat) (k m:Nat) (C:Int) (pu:D) (y6 y7 y8:Option D),nums=pre++post→Psh nums (aS as) (aG as) (cst' as p) r pre T ch lr ts k→DictI d ch m→m+post.length≤1000000→(∀x,T x≤C)→Pu many lr r pu →
  ∃(T':Nat→Int) (d':D) (ch':Nat→Option Nat) (lr' ts':Nat→Nat) (k':Nat) (pu':D) (z6 z7 z8:Option D),forD (gV 6) xq (nats post) [some (netD ns as),some (fr p),e2,some (.lst (vec many T)),some d,some pu,y6,y7,y8]=some (.nx [some (netD ns as),some (fr p),e2,some (.lst (vec many T')),some d',some pu',z6,z7,z8]) ∧
   Psh nums (aS as) (aG as) (cst' as p) r nums T' ch' lr' ts' k'∧DictI d' ch' (m+post.length)∧(∀x,T' x≤C+(post.length:Int) * M)∧Pu many lr' r pu'
 | [],pre,T,d,ch,lr,ts,k,m,C,pu,y6,y7,y8,e,hP,hD,_,hC,hu=>by
  rw [List.append_nil] at e
  subst e
  exact ⟨T,d,ch,lr,ts,k,pu,y6,y7,y8,rfl,hP,hD,fun x=>by have:=hC x; simp; omega,hu⟩
 | n::post,pre,T,d,ch,lr,ts,k,m,C,pu,y6,y7,y8,e,hP,hD,hm,hC,hu=>by
  rw [List.length_cons] at hm
  have hnn:n∈nums:=by rw [e]; simp
  have hna:=hn n hnn
  have ok:=hal _ (qz hna)
  have f4:=qy ns as
  have i1:ixD (.lst (as.map encA)) (.int (n:Int))=some (encA (aN as n)):=qj (by rw [List.getElem?_map,zf4 hna]; rfl)
  have f1:=fs (aN as n)
  have f2:=fg (aN as n)
  have f3:=ft (aN as n)
  have f5:=fb (aN as n)
  have v1:ixD (.lst (vec many T)) (.int ((aN as n).s:Int))=some (.int (T (aN as n).s)):=zcq T ok.s
  have v2:ixD (.lst (vec many T)) (.int ((aN as n).g:Int))=some (.int (T (aN as n).g)):=zcq T ok.g
  have m1:mulI (.int (aN as n).t) (.int p.2)=some (.int ((aN as n).t * p.2)):=j9 (by have:=ok.t0; omega) (by have:=ok.t1; omega)
  have m2:mulI (.int ((aN as n).b:Int)) (.int p.1)=some (.int (((aN as n).b:Int) * p.1)):=j9 (by omega) (by have:=ok.b; omega)
  have e8:T (aN as n).s+(aN as n).t * p.2-((aN as n).b:Int) * p.1=T (aS as n)+cst' as p n:=by unfold cst' aS; omega
  have eg:(aN as n).g=aG as n:=rfl
  have p0:=fr0 p
  have p1:=fr1 p
  have unf:forD (gV 6) xq (nats (n::post)) [some (netD ns as),some (fr p),e2,some (.lst (vec many T)),some d,some pu,y6,y7,y8]=(xq [some (netD ns as),some (fr p),e2,some (.lst (vec many T)),some d,some pu,some (.int (n:Int)),y7,y8]).bind fun o=>match o with
    | .nx ρ'=>forD (gV 6) xq (nats post) ρ'
    | .ct ρ'=>forD (gV 6) xq (nats post) ρ'
    | .bk ρ'=>some (.nx ρ')
    | .rt d=>some (.rt d):=rfl
  have pe:nums=(pre++[n])++post:=by rw [e]; simp
  by_cases hg:T (aG as n)<T (aS as n)+cst' as p n
  ·obtain ⟨d2,put,hd2⟩:=hD.put (by omega) (aG as n) n
   have gt:gtD (.int (T (aS as n)+cst' as p n)) (.int (T (aN as n).g))=some (.bl true):=(zbf _ _).trans (by rw [decide_eq_true (by rw [eg]; omega)])
   have ps:setAt (vec many T) ((aN as n).g:Int) (.int (T (aS as n)+cst' as p n))=some (vec many (upI T (aG as n) (T (aS as n)+cst' as p n))):=zgw T ok.g _
   have st:xq [some (netD ns as),some (fr p),e2,some (.lst (vec many T)),some d,some pu,some (.int (n:Int)),y7,y8]=some (.nx [some (netD ns as),some (fr p),e2,some (.lst (vec many (upI T (aG as n) (T (aS as n)+cst' as p n)))),some d2,some (.int ((aG as n:Nat):Int)),some (.int (n:Int)),some (encA (aN as n)),some (.int (T (aS as n)+cst' as p n))]):=by
    have put:=put [some (netD ns as),some (fr p),e2,some (.lst (vec many (upI T (aG as n) (T (aS as n)+cst' as p n)))),some d,some pu,some (.int (n:Int)),some (encA (aN as n)),some (.int (T (aS as n)+cst' as p n))] 4 (e1 (fldD [0,1,2,3] "goal") (eV 7)) (eV 6) rfl rfl f2
    have pl:sPutL 3 (e1 (fldD [0,1,2,3] "goal") (eV 7)) (eV 8) [some (netD ns as),some (fr p),e2,some (.lst (vec many T)),some d,some pu,some (.int (n:Int)),some (encA (aN as n)),some (.int (T (aS as n)+cst' as p n))]=some (.nx [some (netD ns as),some (fr p),e2,some (.lst (vec many (upI T (aG as n) (T (aS as n)+cst' as p n)))),some d,some pu,some (.int (n:Int)),some (encA (aN as n)),some (.int (T (aS as n)+cst' as p n))]):=by
     unfold sPutL e1 eV
     generalize encA (aN as n)=ea at *
     simp [f2,ps]
    have hlt:T (aN as n).g<T (aS as n)+cst' as p n:=hg
    generalize T (aS as n)+cst' as p n=w at *
    generalize vec many (upI T (aG as n) w)=v' at *
    generalize T (aN as n).g=tg at *
    rw [← eg]
    generalize vec many T=v0 at *
    generalize fr p=F at *
    generalize as.map encA=al at *
    generalize netD ns as=net at *
    generalize encA (aN as n)=ea at *
    unfold xq
    generalize sPutL 3 (e1 (fldD [0,1,2,3] "goal") (eV 7)) (eV 8)=PL at *
    generalize sPutD 4 (e1 (fldD [0,1,2,3] "goal") (eV 7)) (eV 6)=PD at *
    clear unf pe hP hD hm hC hu e hnn hna ok hg hd2 eg hal hM hM0 hn ps
    walk_at "mir"
   obtain ⟨T',d',ch',lr',ts',k',pu',z6,z7,z8,h1,h2,h3,h4,h5⟩:=zgz (ns:=ns) hal hM hM0 hr hn (e2:=e2) post (pre++[n]) _ d2 _ _ _ _ (m+1) (C+M) (.int ((aG as n:Nat):Int)) (some (.int (n:Int))) (some (encA (aN as n))) (some (.int (T (aS as n)+cst' as p n))) pe (hP.push hnn hg) hd2 (by omega) (fun x=>by
     unfold upI
     have h1:=hC x
     have h2:=hC (aS as n)
     have h3:=hM n hna
     split <;> omega) (.inr ⟨aG as n,rfl,ok.g,by simp [upN]⟩)
   refine ⟨T',d',ch',lr',ts',k',pu',z6,z7,z8,?_,h2,?_,fun x=>?_,h5⟩
   ·rw [unf,st]
    exact h1
   ·rw [List.length_cons,show m+(post.length+1)=m+1+post.length by omega]; exact h3
   ·have:=h4 x
    rw [List.length_cons,show ((post.length+1:Nat):Int)=(post.length:Int)+1 by omega,Int.add_mul,Int.one_mul]
    omega
  ·have gt:gtD (.int (T (aS as n)+cst' as p n)) (.int (T (aN as n).g))=some (.bl false):=(zbf _ _).trans (by rw [decide_eq_false (by rw [eg]; omega)])
   have st:xq [some (netD ns as),some (fr p),e2,some (.lst (vec many T)),some d,some pu,some (.int (n:Int)),y7,y8]=some (.nx [some (netD ns as),some (fr p),e2,some (.lst (vec many T)),some d,some pu,some (.int (n:Int)),some (encA (aN as n)),some (.int (T (aS as n)+cst' as p n))]):=by
    have hlt:¬T (aN as n).g<T (aS as n)+cst' as p n:=hg
    generalize T (aS as n)+cst' as p n=w at *
    generalize T (aN as n).g=tg at *
    generalize vec many T=v0 at *
    generalize fr p=F at *
    generalize as.map encA=al at *
    generalize netD ns as=net at *
    generalize encA (aN as n)=ea at *
    unfold xq
    clear unf pe hP hD hm hC hu e hnn hna ok hg eg hal hM hM0 hn
    walk_at "mir"
   obtain ⟨T',d',ch',lr',ts',k',pu',z6,z7,z8,h1,h2,h3,h4,h5⟩:=zgz (ns:=ns) hal hM hM0 hr hn (e2:=e2) post (pre++[n]) T d ch lr ts k m C pu (some (.int (n:Int))) (some (encA (aN as n))) (some (.int (T (aS as n)+cst' as p n))) pe (hP.stay (by omega)) hD (by omega) hC hu
   refine ⟨T',d',ch',lr',ts',k',pu',z6,z7,z8,?_,h2,?_,fun x=>?_,h5⟩
   ·rw [unf,st]
    exact h1
   ·obtain ⟨ks,ds,q1,q2,q3,q4⟩:=h3.is
    exact ⟨ks,ds,q1,q2,by rw [List.length_cons]; omega,q4⟩
   ·have:=h4 x
    rw [List.length_cons,show ((post.length+1:Nat):Int)=(post.length:Int)+1 by omega,Int.add_mul,Int.one_mul]
    omega
theorem zrz {many:Nat} {as:List Arw} {ns:List D} {p:Int×Int} {nums:List Nat} {r:Nat} {M:Int} (hal:∀a∈as,AOk many a) (hM:∀n,n<as.length→cst' as p n≤M) (hM0:0≤M) (hr:0<r) (hn:∀n∈nums,n<as.length) {T:Nat→Int} {d:D} {ch:Nat→Option Nat} {lr ts:Nat→Nat} {k m:Nat} {C:Int} (hP:Psh nums (aS as) (aG as) (cst' as p) r [] T ch lr ts k) (hD:DictI d ch m) (hm:m+nums.length≤1000000) (hC:∀x,T x≤C) (hl:∀x,lr x<r) :
  ∃(T':Nat→Int) (d':D) (ch':Nat→Option Nat) (lr' ts':Nat→Nat) (k':Nat) (pu':D),vi [netD ns as,fr p,.lst (nats nums),.lst (vec many T),d]=some (.tup [pu',.lst (vec many T'),d']) ∧
   Psh nums (aS as) (aG as) (cst' as p) r nums T' ch' lr' ts' k'∧DictI d' ch' (m+nums.length)∧(∀x,T' x≤C+(nums.length:Int) * M)∧Pu many lr' r pu':=by
 obtain ⟨T',d',ch',lr',ts',k',pu',z6,z7,z8,h1,h2,h3,h4,h5⟩:=zgz (ns:=ns) hal hM hM0 hr hn (e2:=some (.lst (nats nums))) nums [] T d ch lr ts k m C .non none none none rfl hP hD hm hC (.inl ⟨rfl,hl⟩)
 refine ⟨T',d',ch',lr',ts',k',pu',?_,h2,h3,h4,h5⟩
 unfold vi mOfM mSeq mRet
 generalize vec many T=v0 at *
 generalize vec many T'=v1 at *
 generalize fr p=F at *
 generalize netD ns as=net at *
 generalize nats nums=nl at *
 clear hP hD hm hC hl hal hM hM0 hn h2 h3 h4 h5
 walk_at "mir"
theorem DictI.congr {d:D} {ch ch':Nat→Option Nat} {m:Nat} (h:DictI d ch m) (e:∀x,ch x=ch' x):DictI d ch' m:=by
 have:ch=ch':=funext e
 rw [← this]; exact h
theorem DictI.mono {d:D} {ch:Nat→Option Nat} {m m':Nat} (h:DictI d ch m) (e:m≤m'):DictI d ch m':=by
 obtain ⟨ks,ds,q1,q2,q3,q4⟩:=h.is
 exact ⟨ks,ds,q1,q2,by omega,q4⟩
theorem DictI.nil:DictI (.dK [] []) (fun _=>none) 0:=⟨[],[],rfl,rfl,by simp,fun _=>rfl⟩
def ixF (us:List Nat) (y:Nat):Option Nat:=if y∈us then some (us.idxOf y) else none
theorem zpt (us:List Nat) {x:Nat} (h:x∉us) (y:Nat):(if y=x then some us.length else ixF us y)=ixF (us++[x]) y:=by
 unfold ixF
 by_cases e:y=x
 ·subst e
  rw [if_pos rfl,if_pos (by simp),List.idxOf_append,if_neg h]
  simp
 ·rw [if_neg e]
  by_cases hy:y∈us
  ·rw [if_pos hy,if_pos (by simp [hy]),List.idxOf_append,if_pos hy]
  ·rw [if_neg hy,if_neg (by simp [hy,e])]
def muR (ρ:L3.Env):Nat:=match ρ[5]?.join with
 | some (D.lst ds)=>1000-ds.length
 | _=>0
def cR:BF:=tb (fun ρ=>((eV 3) ρ).bind fun x=>((eV 4) ρ).bind fun y=>(dgetD y x).bind fun r=>some (.bl (!r.isSome)))
theorem zsq {as:List Arw} {many m v:Nat} {d:D} {ch:Nat→Option Nat} {lr:Nat→Nat} (hD:DictI d ch m) (hch:∀x,0<lr x→∃n,ch x=some n∧n<as.length∧aG as n=x∧lr x≤lr (aS as n)+1) (hal:∀a∈as,AOk many a) (hv:v<many) (hlr:many≤lr v) (hm:many≤900) :
  ∃(R:List Nat) (x:Nat),vq [.lst (as.map encA),d,.int (v:Int)]=some (.lst (nats R))∧R≠[]∧Wlk (aS as) (aG as) x R x∧(R.map (aG as)).Nodup∧∀n∈R,ch (aG as n)=some n∧0<lr (aG as n):=by
 have cnd:∀(here:Nat) (us:List Nat) (d2:D) (k:Nat) (y0 y1 y2 y5:Option D),DictI d2 (ixF us) k→cR [y0,y1,y2,some (.int (here:Int)),some d2,y5]=some (!decide (here∈us)):=by
  intro here us d2 k y0 y1 y2 y5 h
  have g1:=h.has here
  have e2':((ixF us here).map fun (n:Nat)=>D.int (n:Int)).isSome=decide (here∈us):=by
   unfold ixF
   by_cases hh:here∈us
   ·rw [if_pos hh,decide_eq_true hh]; rfl
   ·rw [if_neg hh,decide_eq_false hh]; rfl
  rw [← e2']
  generalize (ixF us here).map (fun (n:Nat)=>D.int (n:Int))=o at *
  unfold cR
  clear h e2' hch hal hD
  walk_at "mir"
 have lp:=zcr (c:=cR) (b:=ud)
  (fun ρ=>∃(ws:List Nat) (here:Nat) (d2:D),ρ=[some (.lst (as.map encA)),some d,some (.int (v:Int)),some (.int (here:Int)),some d2,some (.lst (nats ws))]∧Wk ch (aS as) (aG as) lr v here ws∧here<many∧(∀n∈ws,n<as.length)∧DictI d2 (ixF (ws.map (aG as))) ws.length) muR
  (fun _=>False) (by
   rintro ρ ⟨ws,here,d2,rfl,hw,hh,hn,h2⟩
   have hwl:ws.length≤many:=by
    rw [← List.length_map (f:=aG as)]
    refine Kahn.len_le hw.nd fun x hx=>?_
    obtain ⟨n,h1,rfl⟩:=List.mem_map.mp hx
    exact (hal _ (qz (hn n h1))).g
   refine ⟨_,cnd here _ d2 _ _ _ _ _ h2,fun ht=>.inl ?_⟩
   have hnot:here∉ws.map (aG as):=by simpa using ht
   have nd2:(ws.map (aG as)++[here]).Nodup:=List.nodup_append.mpr ⟨hw.nd,by simp,fun a ha b hb e=>hnot (by rw [← List.mem_singleton.mp hb,← e]; exact ha)⟩
   have hl2:=Kahn.len_le (many:=many) nd2 fun x hx=>by
    rcases List.mem_append.mp hx with hx | hx
    ·obtain ⟨n,h1,rfl⟩:=List.mem_map.mp hx
     exact (hal _ (qz (hn n h1))).g
    ·rw [List.mem_singleton.mp hx]; exact hh
   rw [List.length_append,List.length_map,List.length_singleton] at hl2
   have hl:=hw.lr
   obtain ⟨n,c1,c2,c3,c4⟩:=hch here (by omega)
   obtain ⟨d3,put,hd3⟩:=h2.put (by omega) here ws.length
   have put:=put [some (.lst (as.map encA)),some d,some (.int (v:Int)),some (.int (here:Int)),some d2,some (.lst (nats ws))] 4 (eV 3) (eN lenD (aCons (eV 5) aNil)) (by
    show lenD [.lst (nats ws)]=_
    rw [vf]; unfold nats; rw [List.length_map]) rfl rfl
   have g1:=hD.get c1
   have f1:=fs (aN as n)
   have i1:ixD (.lst (as.map encA)) (.int (n:Int))=some (encA (aN as n)):=qj (by rw [List.getElem?_map,zf4 c2]; rfl)
   refine ⟨[some (.lst (as.map encA)),some d,some (.int (v:Int)),some (.int ((aN as n).s:Int)),some d3,some (.lst (nats (ws++[n])))],?_,⟨ws++[n],(aN as n).s,d3,rfl,⟨fun k hk=>?_,hw.way.snoc c3,?_,?_⟩,(hal _ (qz c2)).s,fun k hk=>?_,?_⟩,?_⟩
   ·have e3:nats (ws++[n])=nats ws++[.int (n:Int)]:=by unfold nats; rw [List.map_append]; rfl
    have hz:(nats ws).length<16777216:=by unfold nats; rw [List.length_map]; omega
    rw [e3]
    generalize as.map encA=al at *
    generalize nats ws=wl at *
    generalize encA (aN as n)=ea at *
    unfold ud
    generalize sPutD 4 (eV 3) (eN lenD (aCons (eV 5) aNil))=PP at *
    clear e3 hd3 c1 c2 c3 c4 hl hl2 nd2 hnot ht hwl h2 hn hh hw cnd hD hch hal hv hlr hm
    walk_at "mir"
   ·rcases List.mem_append.mp hk with hk | hk
    ·exact hw.ch k hk
    ·rw [List.mem_singleton.mp hk,c3]; exact ⟨c1,by omega⟩
   ·rw [List.map_append,List.map_singleton,c3]; exact nd2
   ·rw [List.length_append,List.length_singleton]
    have:(aN as n).s=aS as n:=rfl
    rw [this]
    omega
   ·rcases List.mem_append.mp hk with hk | hk
    ·exact hn k hk
    ·rw [List.mem_singleton.mp hk]; exact c2
   ·rw [List.length_append,List.length_singleton,List.map_append,List.map_singleton,c3]
    refine hd3.congr fun y=>?_
    have:=zpt (ws.map (aG as)) hnot y
    rw [List.length_map] at this
    exact this
   ·show 1000-(nats (ws++[n])).length<1000-(nats ws).length
    unfold nats
    rw [List.length_map,List.length_map,List.length_append,List.length_singleton]
    omega) FUEL [some (.lst (as.map encA)),some d,some (.int (v:Int)),some (.int (v:Int)),some (.dK [] []),some (.lst (nats []))]
  ⟨[],v,.dK [] [],rfl,⟨fun n hn=>(by cases hn),rfl,by simp,by simp⟩,hv,fun n hn=>(by cases hn),DictI.nil.congr fun _=>by simp [ixF]⟩ (zgj (by show 1000-(nats []).length<1048576; omega))
 have n0:nats []=[]:=rfl
 rw [n0] at lp
 rcases lp with ⟨ρ',l1,⟨ws,here,d2,rfl,hw,hh,hn,h2⟩,hc⟩ | ⟨_,_,f⟩
 ·rw [cnd here _ d2 _ _ _ _ _ h2] at hc
  have hin:here∈ws.map (aG as):=by simpa using hc
  have hj:ixF (ws.map (aG as)) here=some ((ws.map (aG as)).idxOf here):=by unfold ixF; rw [if_pos hin]
  have hjl:=List.idxOf_lt_length_iff.mpr hin
  have hje:(ws.map (aG as))[(ws.map (aG as)).idxOf here]?=some here:=by
   rw [List.getElem?_eq_getElem hjl,List.getElem_idxOf]
  generalize (ws.map (aG as)).idxOf here=j at *
  rw [List.length_map] at hjl
  rw [List.getElem?_map,List.getElem?_eq_getElem hjl] at hje
  replace hje:aG as ws[j]=here:=by simpa using hje
  have wlk:Chn (aS as) (aG as) here (ws.drop j) here:=by
   have:=hw.way.drop (j:=j) (n:=ws[j]) (List.getElem?_eq_getElem hjl)
   rw [hje] at this
   exact this
  refine ⟨(ws.drop j).reverse,here,?_,?_,wlk.wlk,?_,fun n hn'=>?_⟩
  ·have gv:=h2.get hj
   have ct:cutD (nats ws) (some (j:Int)) none=nats (ws.drop j):=by
    rw [zfh]
    unfold nats
    rw [List.map_drop]
   have lv:lrevD (.lst (nats (ws.drop j)))=some (.lst (nats (ws.drop j).reverse)):=by
    show some (D.lst (nats (ws.drop j)).reverse)=_
    unfold nats
    rw [← List.map_reverse]
   unfold cR at l1
   generalize nats (ws.drop j).reverse=wr at *
   generalize nats (ws.drop j)=wd at *
   generalize as.map encA=al at *
   generalize nats ws=wl at *
   unfold vq sWhile
   generalize (tb (fun ρ=>((eV 3) ρ).bind fun x=>((eV 4) ρ).bind fun y=>(dgetD y x).bind fun r=>some (.bl (!r.isSome))))=cc at *
   clear wlk hje hjl hj hin hc h2 hn hh hw cnd hD hch hal hv hlr hm
   walk_at "mir"
  ·intro e
   have:=congrArg List.length e
   rw [List.length_reverse,List.length_drop] at this
   simp at this
   omega
  ·rw [List.map_reverse,List.map_drop]
   exact List.pairwise_reverse.mpr ((List.Pairwise.sublist (List.drop_sublist _ _) hw.nd).imp fun h e=>h e.symm)
  ·exact hw.ch n (List.mem_of_mem_drop (List.mem_reverse.mp hn'))
 ·exact f.elim
def tmD (many:Nat) (p:Int×Int) (T:Nat→Int):D:=.lst ((List.range many).map fun g=>fr (Fq.mk (T g) p.2))
def TOR (many:Nat) (as:List Arw) (p:Int×Int) (nums:List Nat) (B:Int) (d:D):Prop :=
 (∃T:Nat→Int,d=.tup [.str "times",tmD many p T]∧(∀n∈nums,T (aS as n)+cst' as p n≤T (aG as n))∧∀x,0≤T x∧T x≤B) ∨
 ∃(R:List Nat) (x:Nat),d=.tup [.str "ring",.lst (nats R)]∧R≠[]∧Wlk (aS as) (aG as) x R x∧(R.map (aG as)).Nodup∧(∀n∈R,n∈nums)∧0<(R.map (cst' as p)).sum
theorem zpu (many:Nat):(List.replicate many [D.int 0]).flatten=vec many fun _=>0:=by
 unfold vec
 rw [List.map_const',List.length_range]
 induction many with
 | zero=>rfl
 | succ n ih=>rw [List.replicate_succ,List.flatten_cons,ih,List.replicate_succ]; rfl
theorem zmt {many:Nat} {p:Int×Int} {T:Nat→Int} (hm:many≤1000) (hp:p.2≠0) (hz2:Sz 8000 p.2) (r:L3.Env) (h1:r[1]?.join=some (fr p)) (h3:r[3]?.join=some (.lst (vec many T))):uf r=some (tmD many p T):=by
 unfold tmD
 refine uo (fun (g:Nat)=>D.int (T g)) (fun g=>fr (Fq.mk (T g) p.2)) (List.range many) (by unfold lsD; have:eV 3 r=_:=h3; rw [this]; rfl) (by rw [List.length_range]; omega) fun g _=>⟨_,rfl,?_⟩
 have hcap:capsD r [1]=[some (fr p)]:=by unfold capsD; simp [h1]
 rw [hcap]
 have p1:=fr1 p
 have ra:=zen (t:=T g) hp hz2
 generalize fr (Fq.mk (T g) p.2)=F at *
 generalize fr p=fp at *
 clear hcap h1 h3 hm hz2
 walk_at "mir"
theorem zmu {many:Nat} {as:List Arw} {ns:List D} {p:Int×Int} {nums:List Nat} {M:Int} (hns:ns.length=many) (hm1:1≤many) (hm:many≤900) (hnl:nums.length≤1000) (hal:∀a∈as,AOk many a) (hp:p.2≠0) (hz2:Sz 8000 p.2) (hM:∀n,n<as.length→cst' as p n≤M) (hM0:0≤M) (hn:∀n∈nums,n<as.length) :
  ∃d,xu [netD ns as,fr p,.lst (nats nums)]=some d∧TOR many as p nums ((many:Int) * ((nums.length:Int) * M)) d:=by
 have ln:lenD [.lst ns]=some (.int (many:Int)):=(vf _).trans (by rw [hns])
 have fnm:=zhu ns as
 have fna:=qy ns as
 have hNM:0≤(nums.length:Int) * M:=Int.mul_nonneg (by omega) hM0
 have lp:=zf3 (g:=gV 6) (b:=wf) (n:=many)
  (fun i ρ=>∃(T:Nat→Int) (d:D) (ch:Nat→Option Nat) (lr ts:Nat→Nat) (k:Nat) (pu:D) (y6:Option D),ρ=[some (netD ns as),some (fr p),some (.lst (nats nums)),some (.lst (vec many T)),some d,some pu,y6]∧Psh nums (aS as) (aG as) (cst' as p) (i+1) [] T ch lr ts k∧DictI d ch (i * nums.length)∧(∀x,T x≤(i:Int) * ((nums.length:Int) * M))∧(∀x,lr x≤i)∧(i=0∨∃v:Nat,pu=.int (v:Int)∧v<many∧lr v=i))
  (TOR many as p nums ((many:Int) * ((nums.length:Int) * M))) (by
   rintro i ρ hi ⟨T,d,ch,lr,ts,k,pu,y6,rfl,hP,hD,hC,hl,_⟩
   have hil:i * nums.length+nums.length≤1000000:=by
    have:i * nums.length≤900 * 1000:=Nat.mul_le_mul (by omega) hnl
    omega
   obtain ⟨T',d',ch',lr',ts',k',pu',h1,h2,h3,h4,h5⟩:=zrz (ns:=ns) (nums:=nums) hal hM hM0 (Nat.succ_pos i) hn hP hD hil hC (fun x=>by have:=hl x; omega)
   have hcl:isCell d=true∧isCell (.lst (vec many T))=true:=by
    obtain ⟨ks,ds,rfl,_⟩:=hD.is
    exact ⟨rfl,rfl⟩
   have hB:∀x,T' x≤((i+1:Nat):Int) * ((nums.length:Int) * M):=fun x=>by
    have:=h4 x
    rw [show ((i+1:Nat):Int)=(i:Int)+1 by omega,Int.add_mul,Int.one_mul]
    omega
   have hcm:callM 3 4 (aCons (eV 0) (aCons (eV 1) (aCons (eV 2) aNil))) vi [some (netD ns as),some (fr p),some (.lst (nats nums)),some (.lst (vec many T)),some d,some pu,some (.int (i:Int))]=some (pu',[some (netD ns as),some (fr p),some (.lst (nats nums)),some (.lst (vec many T')),some d',some pu,some (.int (i:Int))]):=by
    obtain ⟨c1,c2⟩:=hcl
    generalize vec many T=v0 at *
    generalize vec many T'=v1 at *
    generalize fr p=F at *
    generalize netD ns as=net at *
    generalize nats nums=nl at *
    unfold callM
    clear hP hD hC hl hil h2 h3 h4 h5 hB hal hz2 hM hM0 hn hNM ln fnm fna
    walk_at "mir"
   have ss:sSetM 5 (callM 3 4 (aCons (eV 0) (aCons (eV 1) (aCons (eV 2) aNil))) vi) [some (netD ns as),some (fr p),some (.lst (nats nums)),some (.lst (vec many T)),some d,some pu,some (.int (i:Int))]=some (.nx [some (netD ns as),some (fr p),some (.lst (nats nums)),some (.lst (vec many T')),some d',some pu',some (.int (i:Int))]):=by
    unfold sSetM
    rw [hcm]
    rfl
   refine ⟨[some (netD ns as),some (fr p),some (.lst (nats nums)),some (.lst (vec many T)),some d,some pu,some (.int (i:Int))],rfl,?_⟩
   rcases h5 with ⟨rfl,hno⟩ | ⟨v,rfl,hv,hlv⟩
   ·refine .inr ⟨.tup [.str "times",tmD many p T'],?_,.inl ⟨T',rfl,fun n hn=>h2.dn n hn (hno _),fun x=>⟨h2.pos x,?_⟩⟩⟩
    ·have q:=zmt (T:=T') (p:=p) (many:=many) (by omega) hp hz2 [some (netD ns as),some (fr p),some (.lst (nats nums)),some (.lst (vec many T')),some d',some .non,some (.int (i:Int))] rfl rfl
     have sc:(D.str "times").sc=true:=rfl
     generalize vec many T=v0 at *
     generalize vec many T'=v1 at *
     generalize fr p=F at *
     generalize netD ns as=net at *
     generalize nats nums=nl at *
     generalize tmD many p T'=TM at *
     unfold wf eSc
     generalize sSetM 5 (callM 3 4 (aCons (eV 0) (aCons (eV 1) (aCons (eV 2) aNil))) vi)=SM at *
     clear hP hD hC hl hil h1 h2 h3 h4 hno hB hal hz2 hM hM0 hn hNM ln fnm fna hcl hcm
     walk_at "mir"
    ·have h6:=hB x
     have h7:((i+1:Nat):Int) * ((nums.length:Int) * M)≤(many:Int) * ((nums.length:Int) * M):=Int.mul_le_mul_of_nonneg_right (by omega) hNM
     omega
   ·refine .inl ⟨[some (netD ns as),some (fr p),some (.lst (nats nums)),some (.lst (vec many T')),some d',some (.int (v:Int)),some (.int (i:Int))],?_,⟨T',d',ch',lr',ts',k',_,_,rfl,h2.next,?_,hB,h2.le,.inr ⟨v,rfl,hv,hlv⟩⟩⟩
    ·generalize vec many T=v0 at *
     generalize vec many T'=v1 at *
     generalize fr p=F at *
     generalize netD ns as=net at *
     generalize nats nums=nl at *
     unfold wf
     generalize sSetM 5 (callM 3 4 (aCons (eV 0) (aCons (eV 1) (aCons (eV 2) aNil))) vi)=SM at *
     clear hP hD hC hl hil h1 h2 h3 h4 hlv hB hal hz2 hM hM0 hn hNM ln fnm fna hcl hcm hv
     walk_at "mir"
    ·rw [Nat.add_mul,Nat.one_mul]; exact h3)
  many 0 [some (netD ns as),some (fr p),some (.lst (nats nums)),some (.lst (vec many fun _=>0)),some (.dK [] []),some .non,none] (by omega)
  ⟨fun _=>0,.dK [] [],fun _=>none,fun _=>0,fun _=>0,1,.non,none,rfl,Psh.start,DictI.nil.mono (by omega),fun x=>by simp,fun x=>Nat.le_refl 0,.inl rfl⟩
 have hrg:rng1 [.int (many:Int)]=some ((List.range many).map fun (t:Nat)=>D.int (t:Int)):=by
  rw [zb0 (by omega) (by omega)]
  unfold upto
  simp
 have rp:repD (.lst [.int 0]) (.int (many:Int))=some (.lst (vec many fun _=>0)):=by
  show (if -1000000<(many:Int)∧(many:Int)<1000000∧[D.int 0].length≤16 then some (D.lst (List.replicate (many:Int).toNat [D.int 0]).flatten) else none)=_
  rw [if_pos ⟨by omega,by omega,by simp⟩,Int.toNat_natCast,zpu many]
 rw [← List.range_eq_range'] at lp
 rcases lp with ⟨ρ',l1,⟨T,d,ch,lr,ts,k,pu,y6,rfl,hP,hD,hC,hl,hv⟩⟩ | ⟨w,l1,hw⟩
 ·rcases hv with hv | ⟨v,rfl,hv,hlv⟩
  ·omega
  obtain ⟨R,x,r1,r2,r3,r4,r5⟩:=zsq (as:=as) (many:=many) (v:=v) hD (fun x hx=>by
   obtain ⟨n,c1,c2,c3,c4,_⟩:=hP.ch x hx
   exact ⟨n,c1,hn n c2,c3,c4⟩) hal hv (by omega) hm
  have key:∀n∈R,n∈nums∧T (aG as n)≤T (aS as n)+cst' as p n∧(T (aG as n)<T (aS as n)+cst' as p n∨ts (aS as n)<ts (aG as n)):=fun n hnR=>by
   obtain ⟨q1,q2⟩:=r5 n hnR
   obtain ⟨n',c1,c2,c3,c4,c5,c6⟩:=hP.ch _ q2
   rw [q1] at c1
   have:=Option.some.inj c1
   subst this
   exact ⟨c2,c5,c6⟩
  obtain ⟨_,k2⟩:=Psh.cost (T:=T) (ts:=ts) (S:=aS as) (G:=aG as) (c:=cst' as p) (Q:=fun n=>n∈R) (fun n h=>(key n h).2) r3 (fun n h=>h)
  refine ⟨.tup [.str "ring",.lst (nats R)],?_,.inr ⟨R,x,rfl,r2,r3,r4,fun n h=>(key n h).1,?_⟩⟩
  ·have sc:(D.str "ring").sc=true:=rfl
   clear hP hD hC hl hlv hv key k2 r2 r3 r4 r5 hal hz2 hM hM0 hn hNM
   generalize vec many T=v0 at *
   generalize (vec many fun _=>0)=v1 at *
   generalize fr p=F at *
   generalize as.map encA=al at *
   generalize netD ns as=net at *
   generalize nats nums=nl at *
   generalize nats R=rl at *
   generalize (List.range many).map (fun (t:Nat)=>D.int (t:Int))=rgl at *
   unfold xu eSc
   walk_at "mir"
  ·rcases k2 with k2 | k2 | k2
   ·exact absurd k2 r2
   ·omega
   ·omega
 ·refine ⟨w,?_,hw⟩
  clear hw hal hz2 hM hM0 hn hNM
  generalize (vec many fun _=>0)=v1 at *
  generalize fr p=F at *
  generalize as.map encA=al at *
  generalize netD ns as=net at *
  generalize nats nums=nl at *
  generalize (List.range many).map (fun (t:Nat)=>D.int (t:Int))=rgl at *
  unfold xu eSc
  walk_at "mir"
theorem zpv {many:Nat} {as:List Arw} {ns:List D} {p:Int×Int} {M:Int} (hns:ns.length=many) (hm1:1≤many) (hm:many≤900) (hnl:as.length≤1000) (hal:∀a∈as,AOk many a) (hp:p.2≠0) (hz2:Sz 8000 p.2) (hM:∀n,n<as.length→cst' as p n≤M) (hM0:0≤M) :
  ∃d,ug [netD ns as,fr p]=some d∧TOR many as p (List.range as.length) ((many:Int) * ((as.length:Int) * M)) d:=by
 obtain ⟨d,h1,h2⟩:=zmu (ns:=ns) (nums:=List.range as.length) hns hm1 hm (by rw [List.length_range]; exact hnl) hal hp hz2 hM hM0 (fun n h=>List.mem_range.mp h)
 rw [List.length_range] at h2
 refine ⟨d,?_,h2⟩
 have la:lenD [.lst (as.map encA)]=some (.int (as.length:Int)):=(vf _).trans (by rw [List.length_map])
 have fna:=qy ns as
 have lr:lrngD [.int (as.length:Int)]=some (.lst (nats (List.range as.length))):=by
  show (if 0≤(as.length:Int)∧(as.length:Int)≤16777216 then some (D.lst (upto 0 (as.length:Int).toNat)) else none)=_
  rw [if_pos ⟨by omega,by omega⟩]
  unfold upto nats
  simp
 generalize fr p=F at *
 generalize as.map encA=al at *
 generalize netD ns as=net at *
 generalize nats (List.range as.length)=nl at *
 unfold ug
 clear h2 hal hz2 hM hM0 hnl
 walk_at "mir"
theorem zag {t b:Int} (hb:0<b) (hz:Sz 8000 b):xv [.int t,.int b]=some (fr (Fq.mk t b)):=by
 obtain ⟨s',h1,h2,h3,_⟩:=zan (c:=tb (e2 (eqD true) (eV 3) (eC (D.int 0)))) (b:=jo) (fun s:Int×Int=>[some (.int t),some (.int b),some (.int s.1),some (.int s.2)]) (fun s=>!decide (s.2=0)) (fun s=>(s.2,s.1.fmod s.2)) (fun s=>s.2.natAbs) (fun s=>Int.gcd s.1 s.2=Int.gcd t b)
  (fun s hp=>by walk_at "mir") (fun s hp ht=>by
   have hs:s.2≠0:=by simpa using ht
   refine ⟨.inl ?_,(Fq.gcd_step s.1 s.2).trans hp,Fq.fmod_less s.1 hs⟩
   unfold jo
   have:=zjw (i:=s.1) hs
   walk_at "mir") FUEL (t,b) rfl (zgi hz (by decide))
 have h3:s'.2=0:=by simpa using h3
 have h4:=Fq.gcd_end s'.1
 rw [h3] at h2
 rw [h2] at h4
 have hg:((Int.gcd t b:Nat):Int)≠0:=by
  have:=Fq.gcd_pos (t:=t) (b:=b) (by omega)
  omega
 have hd:Fq.dv t b=((Int.gcd t b:Nat):Int):=by unfold Fq.dv; rw [if_neg (by omega)]
 have hz2:Sz 9000 ((Int.gcd t b:Nat):Int):=by
  rw [← hd]
  exact (hz.le (by have:=Fq.dv_le (t:=t) (b:=b) (by omega); exact this)).mono (by decide)
 have e1:=zbz (i:=t) hg hz2
 have e2:=zbz (i:=b) hg hz2
 unfold xv fr Fq.mk sWhile
 rw [hd]
 walk_at "mir"
theorem zf5 (as:List Arw) (f:Arw→Int) (n:Nat):(aN (as.map fun a=>mkA a (f a)) n).s=(aN as n).s∧(aN (as.map fun a=>mkA a (f a)) n).g=(aN as n).g∧(aN (as.map fun a=>mkA a (f a)) n).t=(aN as n).t∧(aN (as.map fun a=>mkA a (f a)) n).b=(aN as n).b:=by
 unfold aN
 rw [List.getElem?_map]
 cases as[n]? <;> exact ⟨rfl,rfl,rfl,rfl⟩
theorem zsr (as:List Arw) (f:Arw→Int):aS (as.map fun a=>mkA a (f a))=aS as:=funext fun n=>(zf5 as f n).1
theorem zss (as:List Arw) (f:Arw→Int):aG (as.map fun a=>mkA a (f a))=aG as:=funext fun n=>(zf5 as f n).2.1
theorem zr0 (as:List Arw) (f:Arw→Int) (p:Int×Int):cst' (as.map fun a=>mkA a (f a)) p=cst' as p:=funext fun n=>by
 unfold cst'
 rw [(zf5 as f n).2.2.1,(zf5 as f n).2.2.2]
def tN (as:List Arw) (n:Nat):Int:=(aN as n).t
def bN (as:List Arw) (n:Nat):Int:=((aN as n).b:Int)
theorem zg0 {as:List Arw} {p:Int×Int}:∀w:List Nat,(w.map (cst' as p)).sum=(w.map (tN as)).sum * p.2-(w.map (bN as)).sum * p.1
 | []=>by simp
 | n::w=>by
  rw [List.map_cons,List.map_cons,List.map_cons,List.sum_cons,List.sum_cons,List.sum_cons,zg0 w]
  unfold cst' tN bN
  grind
theorem zg1 {f:Nat→Int} {m:Int} (hm:0≤m):∀is:List Nat,(∀i∈is,0≤f i∧f i≤m)→0≤(is.map f).sum∧(is.map f).sum≤m * (is.length:Int)
 | [],_=>by simp
 | i::is,h=>by
  obtain ⟨h1,h2⟩:=zg1 hm is fun j hj=>h j (List.mem_cons_of_mem _ hj)
  obtain ⟨h3,h4⟩:=h i List.mem_cons_self
  rw [List.map_cons,List.sum_cons,List.length_cons]
  refine ⟨by omega,?_⟩
  rw [show ((is.length+1:Nat):Int)=(is.length:Int)+1 by omega,Int.mul_add,Int.mul_one]
  omega
theorem zh0 {as:List Arw} {rank:Nat→Nat} (hrk:∀a∈as,a.b=0→rank a.s<rank a.g):∀{w:List Nat} {a b:Nat},Wlk (aS as) (aG as) a w b→(∀n∈w,n<as.length)→0≤(w.map (bN as)).sum∧((w.map (bN as)).sum=0→rank a+w.length≤rank b)
 | [],a,b,h,_=>by
  have h:a=b:=h
  subst h
  simp
 | n::w,a,b,h,hn=>by
  obtain ⟨i1,i2⟩:=zh0 hrk h.2 fun m hm=>hn m (List.mem_cons_of_mem _ hm)
  rw [List.map_cons,List.sum_cons,List.length_cons]
  have h0:0≤bN as n:=by unfold bN; omega
  refine ⟨by omega,fun e=>?_⟩
  have h1:bN as n=0:=by omega
  have h2:=hrk _ (qz (hn n List.mem_cons_self)) (by unfold bN at h1; omega)
  have h3:=i2 (by omega)
  have e1:a=(aN as n).s:=h.1.symm
  have e2:aG as n=(aN as n).g:=rfl
  rw [e2] at h3
  rw [e1]
  omega
theorem znl {as:List Arw} {w:List Nat} {j:Int} {f:Arw→Int} {q:EF} {fi:L3.Env→Option (List D)} (hq:q=eComp fi 1 [0] (gV 0) bTrue (e2 ixD (e2 ixD (eV 1) (eV 0)) (eC (.int j)))) (hf:∀a:Arw,ixD (.tup [.int (a.s:Int),.int (a.g:Int),.int a.t,.int (a.b:Int)]) (.int j)=some (.int (f a))) (hl:w.length≤1000) (hr:∀n∈w,n<as.length) (r:L3.Env) (h0:r[0]?.join=some (.lst (as.map encT))) (hi:fi r=some (nats w)) :
  q r=some (.lst ((w.map fun n=>f (aN as n)).map .int)):=by
 rw [hq,List.map_map]
 refine uo (fun (n:Nat)=>D.int (n:Int)) (fun n=>D.int (f (aN as n))) w hi (by omega) fun n hn=>⟨_,rfl,?_⟩
 have hcap:capsD r [0]=[some (.lst (as.map encT))]:=by unfold capsD; simp [h0]
 rw [hcap]
 have i1:=zis (as:=as) (hr n hn)
 have f1:=hf (aN as n)
 generalize f (aN as n)=v at *
 generalize as.map encT=al at *
 generalize (D.tup [.int ((aN as n).s:Int),.int ((aN as n).g:Int),.int (aN as n).t,.int ((aN as n).b:Int)])=tp at *
 clear hcap h0 hr hn hl hf hq hi
 walk_at "mir"
theorem zr1 {t b W:Int} (hb:0<b) (h1:-W≤t) (h2:t≤W) (h3:b≤W):Fq.Low (Fq.mk t b)∧-W≤(Fq.mk t b).1∧(Fq.mk t b).1≤W∧(Fq.mk t b).2≤W:=by
 have k1:=Fq.mk_le_one (t:=t) (b:=b) (by omega)
 have k2:=Fq.mk_le_two (t:=t) (b:=b) (by omega)
 exact ⟨Fq.mk_low (by omega),by omega,by omega,by omega⟩
def Kpt (pace:Int×Int) (tm:Nat→Int×Int) (as:List Arw):Bool:=as.all fun a=>!Fq.under (tm a.g) (early pace tm a)
theorem zit {ns:List D} {as:List Arw} {is:List Int} {pace:Int×Int} {rank:Nat→Nat} (hl:is.length≤1000) (hal:as.length≤1000) (hb:∀a∈as,a.b≤4) (hrk:∀a∈as,a.b=0→rank a.s<rank a.g) :
  ∃b:Bool,ju [netD ns as,.lst (is.map .int),fr pace]=some (.bl b)∧(b=true↔RngR (sI as) (gI as) as.length is∧Fq.mk (is.map (tI as)).sum (is.map (bI as)).sum=pace):=by
 obtain ⟨b,h1,h2⟩:=zkt (ns:=ns) (as:=as) (is:=is) hl hal
 cases b with
 | false =>
  refine ⟨false,?_,?_⟩
  ·generalize netD ns as=net at *
   generalize is.map D.int=il at *
   generalize fr pace=F at *
   clear h2 hl hal hb hrk
   unfold ju
   walk_at "mir"
  ·constructor
   ·intro z; cases z
   ·intro z; exact h2.mpr z.1
 | true =>
  have rg:=h2.mp rfl
  have pos:=zhx hrk rg
  have mn:=zrv (ns:=ns) (as:=as) (is:=is) hl hb rg.2.1 (by omega)
  have e:=eqF (neg:=false) (Fq.mk (is.map (tI as)).sum (is.map (bI as)).sum) pace
  rw [if_neg (by decide)] at e
  refine ⟨decide (Fq.mk (is.map (tI as)).sum (is.map (bI as)).sum=pace),?_,?_⟩
  ·generalize decide (Fq.mk (is.map (tI as)).sum (is.map (bI as)).sum=pace)=bb at *
   generalize fr (Fq.mk (is.map (tI as)).sum (is.map (bI as)).sum)=M at *
   generalize netD ns as=net at *
   generalize is.map D.int=il at *
   generalize fr pace=F at *
   clear h2 hl hal hb hrk pos rg
   unfold ju
   walk_at "mir"
  ·rw [decide_eq_true_iff]
   exact ⟨fun z=>⟨rg,z⟩,fun z=>z.2⟩
theorem zpw {ns:List D} {many:Nat} {as:List Arw} {is:List Int} {pace:Int×Int} {tm:Nat→Int×Int} {rank:Nat→Nat} (h:NetOk many as) (hn:ns.length=many) (hl:is.length≤1000) (hal:as.length≤1000) (hb:∀a∈as,a.b≤4) (hrk:∀a∈as,a.b=0→rank a.s<rank a.g) (lp:Fq.Low pace) (lt:∀g,Fq.Low (tm g)) (zp:Fz 300 pace) (zt:∀g,Fz 300 (tm g)) :
  ∃b:Bool,zei [netD ns as,.tup [fr pace,.lst (is.map .int),.lst (frs' many tm)]]=some (.bl b)∧(b=true↔RngR (sI as) (gI as) as.length is∧Fq.mk (is.map (tI as)).sum (is.map (bI as)).sum=pace∧Kpt pace tm as=true):=by
 obtain ⟨b,h1,h2⟩:=zit (ns:=ns) (as:=as) (is:=is) (pace:=pace) hl hal hb hrk
 have ft:=zry (ns:=ns) (pace:=pace) h hn lp lt zp zt
 replace ft:zfw [netD ns as,fr pace,.lst (frs' many tm)]=some (.bl (Kpt pace tm as)):=ft
 refine ⟨b && Kpt pace tm as,?_,?_⟩
 ·have i0:∀a b c:D,ixD (.tup [a,b,c]) (.int 0)=some a:=fun _ _ _=>rfl
  have i1:∀a b c:D,ixD (.tup [a,b,c]) (.int 1)=some b:=fun _ _ _=>rfl
  have i2:∀a b c:D,ixD (.tup [a,b,c]) (.int 2)=some c:=fun _ _ _=>rfl
  generalize Kpt pace tm as=bb at *
  generalize netD ns as=net at *
  generalize is.map D.int=il at *
  generalize frs' many tm=fl at *
  generalize fr pace=F at *
  clear h2 hl hal hb hrk lp lt zp zt h
  unfold zei
  cases b
  ·walk_at "mir"
  ·walk_at "mir"
 ·rw [Bool.and_eq_true,h2,and_assoc]
theorem zkz {l1 l2:List Int} (p:l1.Perm l2):l1.sum=l2.sum:=by
 induction p with
 | nil=>rfl
 | cons x _ ih=>rw [List.sum_cons,List.sum_cons,ih]
 | swap x y l=>rw [List.sum_cons,List.sum_cons,List.sum_cons,List.sum_cons]; omega
 | trans _ _ ih1 ih2=>exact ih1.trans ih2
theorem zmv {as:List Arw} {is:List Int} (h:RngR (sI as) (gI as) as.length is) (f:Nat→Int):(is.map fun i=>f (sI as i)).sum=(is.map fun i=>f (gI as i)).sum:=by
 have h3:=h.2.2.1
 have e1:(is.map fun i=>f (sI as i))=(is.map (sI as)).map f:=by rw [List.map_map]; rfl
 have e2:(is.map fun i=>f (gI as i))=(is.map (gI as)).map f:=by rw [List.map_map]; rfl
 rw [e1,e2,h3]
 exact zkz ((zbb (is.map (gI as))).map f)
theorem zdm {f g:Int→Int}:∀is:List Int,(∀i∈is,f i≤g i)→(is.map f).sum≤(is.map g).sum
 | [],_=>by simp
 | i::is,h=>by
  have:=zdm is fun j hj=>h j (List.mem_cons_of_mem _ hj)
  have:=h i List.mem_cons_self
  rw [List.map_cons,List.map_cons,List.sum_cons,List.sum_cons]
  omega
theorem zh1 {as:List Arw} {p:Int×Int}:∀w:List Int,(w.map fun i=>cst' as p i.toNat).sum=(w.map (tI as)).sum * p.2-(w.map (bI as)).sum * p.1
 | []=>by simp
 | n::w=>by
  rw [List.map_cons,List.map_cons,List.map_cons,List.sum_cons,List.sum_cons,List.sum_cons,zh1 w]
  unfold cst' tI bI
  grind
theorem zh2 {f g:Int→Int}:∀is:List Int,(is.map fun i=>g i-f i).sum=(is.map g).sum-(is.map f).sum
 | []=>by simp
 | i::is=>by
  rw [List.map_cons,List.map_cons,List.map_cons,List.sum_cons,List.sum_cons,List.sum_cons,zh2 is]
  omega
theorem zk0 {as:List Arw} {is:List Int} {p:Int×Int} {T:Nat→Int} (h:RngR (sI as) (gI as) as.length is) (hk:∀n∈List.range as.length,T (aS as n)+cst' as p n≤T (aG as n)):(is.map (tI as)).sum * p.2≤(is.map (bI as)).sum * p.1:=by
 have h1:=zdm (f:=fun i=>cst' as p i.toNat) (g:=fun i=>T (gI as i)-T (sI as i)) is fun i hi=>by
  have hb:=h.2.1 i hi
  have:=hk i.toNat (List.mem_range.mpr (by omega))
  unfold gI sI
  unfold aS aG at this
  omega
 rw [zh1,zh2,zmv h T] at h1
 omega
theorem zh3 {as:List Arw} {p:Int×Int} {T:Nat→Int} (hk:∀n∈List.range as.length,T (aS as n)+cst' as p n≤T (aG as n)):∀{w:List Nat} {a b:Nat},Wlk (aS as) (aG as) a w b→(∀n∈w,n<as.length)→T a+(w.map (cst' as p)).sum≤T b
 | [],a,b,h,_=>by
  have h:a=b:=h
  subst h
  simp
 | n::w,a,b,h,hn=>by
  have i1:=zh3 hk h.2 fun m hm=>hn m (List.mem_cons_of_mem _ hm)
  have i2:=hk n (List.mem_range.mpr (hn n List.mem_cons_self))
  rw [h.1] at i2
  rw [List.map_cons,List.sum_cons]
  omega
theorem zh4 {many:Nat} {P Q:Int} (hQ:0<Q∧Q≤40) (hP:0≤P∧P≤10000000000) {e0 e2' e4:Option D}:∀(as:List Arw) (top:Nat→Int) (C:Int) (y5 y6 y7 y8:Option D),(∀a∈as,AOk many a)→(∀g,0≤top g∧top g≤C) →
  ∃(top':Nat→Int) (z5 z6 z7 z8:Option D),forD (gT (gsCons (gV 5) (gsCons (gV 6) (gsCons (gV 7) (gsCons (gV 8) gsNil))))) vn (as.map encT) [e0,some (.tup [.int P,.int Q]),e2',some (.lst (vec many top)),e4,y5,y6,y7,y8]=some (.nx [e0,some (.tup [.int P,.int Q]),e2',some (.lst (vec many top')),e4,z5,z6,z7,z8])∧∀g,0≤top' g∧top' g≤C+(as.length:Int) * 40000000000
 | [],top,C,y5,y6,y7,y8,_,h=>⟨top,y5,y6,y7,y8,rfl,fun g=>by have:=h g; simp; omega⟩
 | a::as,top,C,y5,y6,y7,y8,ha,h=>by
  have ok:=ha a List.mem_cons_self
  have i1:ixD (.lst (vec many top)) (.int (a.s:Int))=some (.int (top a.s)):=zcq top ok.s
  have i2:ixD (.lst (vec many top)) (.int (a.g:Int))=some (.int (top a.g)):=zcq top ok.g
  have m1:mulI (.int a.t) (.int Q)=some (.int (a.t * Q)):=zdb (by omega) (by omega)
  have m2:mulI (.int P) (.int (a.b:Int))=some (.int (P * (a.b:Int))):=zdb (by omega) (by have:=ok.b; omega)
  have j0:ixD (.tup [.int P,.int Q]) (.int 0)=some (.int P):=rfl
  have j1:ixD (.tup [.int P,.int Q]) (.int 1)=some (.int Q):=rfl
  have b1:0≤a.t * Q∧a.t * Q≤1000000000 * 40:=⟨Int.mul_nonneg ok.t0 (by omega),Int.mul_le_mul ok.t1 hQ.2 (by omega) (by decide)⟩
  have b2:0≤P * (a.b:Int):=Int.mul_nonneg hP.1 (by omega)
  obtain ⟨v,hv⟩:∃v:Int,v=max (top a.g) (top a.s+a.t * Q-P * (a.b:Int)):=⟨_,rfl⟩
  have hset:=zgw top ok.g v
  have st:vn [e0,some (.tup [.int P,.int Q]),e2',some (.lst (vec many top)),e4,some (.int (a.s:Int)),some (.int (a.g:Int)),some (.int a.t),some (.int (a.b:Int))]=some (.nx [e0,some (.tup [.int P,.int Q]),e2',some (.lst (vec many fun x=>if x=a.g then v else top x)),e4,some (.int (a.s:Int)),some (.int (a.g:Int)),some (.int a.t),some (.int (a.b:Int))]):=by
   have mx:max2D [.int (top a.g),.int (top a.s+a.t * Q-P * (a.b:Int))]=some (.int v):=(zfg _ _).trans (by rw [hv]; congr 2; omega)
   clear hv
   generalize vec many (fun x=>if x=a.g then v else top x)=vs2 at *
   generalize vec many top=vs at *
   generalize a.t * Q=w1 at *
   generalize P * (a.b:Int)=w2 at *
   clear b1 b2 h ha ok hQ hP
   unfold vn sPutL
   walk_at "mir"
  obtain ⟨top',z5,z6,z7,z8,k1,k2⟩:=zh4 hQ hP (e0:=e0) (e2':=e2') (e4:=e4) as (fun x=>if x=a.g then v else top x) (C+40000000000) (some (.int (a.s:Int))) (some (.int (a.g:Int))) (some (.int a.t)) (some (.int (a.b:Int))) (fun b hb=>ha b (List.mem_cons_of_mem _ hb)) (fun g=>by
   have h1:=h g
   have h2:=h a.s
   have h3:=h a.g
   split <;> omega)
  refine ⟨top',z5,z6,z7,z8,?_,fun g=>?_⟩
  ·rw [List.map_cons]
   show (vn [e0,some (.tup [.int P,.int Q]),e2',some (.lst (vec many top)),e4,some (.int (a.s:Int)),some (.int (a.g:Int)),some (.int a.t),some (.int (a.b:Int))]).bind _=_
   rw [st]
   exact k1
  ·have:=k2 g
   rw [List.length_cons]
   omega
theorem zk1 {many:Nat} {P Q:Int} {as:List Arw} (hm:many≤8) (hl:as.length≤16) (hQ:0<Q∧Q≤40) (hP:0≤P∧P≤10000000000) (ha:∀a∈as,AOk many a) :
  ∃top:Nat→Int,uv [.lst (as.map encT),.tup [.int P,.int Q],.int (many:Int)]=some (.lst (vec many top))∧∀g,0≤top g∧top g≤10000000000000:=by
 obtain ⟨ρ',h1,hI⟩:=zc9 (g:=gV 4) (b:=zai) (lo:=0) (n:=many) (ρ:=[some (.lst (as.map encT)),some (.tup [.int P,.int Q]),some (.int (many:Int)),some (.lst (vec many fun _=>0)),none,none,none,none,none])
  (fun k ρ=>∃(t':Nat→Int) (y4 y5 y6 y7 y8:Option D),ρ=[some (.lst (as.map encT)),some (.tup [.int P,.int Q]),some (.int (many:Int)),some (.lst (vec many t')),y4,y5,y6,y7,y8]∧∀g,0≤t' g∧t' g≤(k:Int) * 640000000000)
  ⟨fun _=>0,_,_,_,_,_,rfl,fun g=>by simp⟩ (by
   rintro k ρ hk ⟨t',y4,y5,y6,y7,y8,rfl,hb⟩
   obtain ⟨t2,z5,z6,z7,z8,i1,i2⟩:=zh4 hQ hP (e0:=some (.lst (as.map encT))) (e2':=some (.int (many:Int))) (e4:=some (.int (0+(k:Int)))) as t' ((k:Int) * 640000000000) y5 y6 y7 y8 ha hb
   exact ⟨_,_,rfl,.inl i1,t2,_,z5,z6,z7,z8,rfl,fun g=>by have:=i2 g; omega⟩)
 obtain ⟨t',y4,y5,y6,y7,y8,rfl,hb⟩:=hI
 refine ⟨t',?_,fun g=>by have:=hb g; omega⟩
 have r1:rng1 [.int (many:Int)]=some (upto 0 many):=by rw [zb0 (by omega) (by omega)]; rfl
 have q1:zaj [some (.lst (as.map encT)),some (.tup [.int P,.int Q]),some (.int (many:Int)),none,none,none,none,none,none]=some (.lst (vec many fun _=>0)):=by
  refine uo (fun (t:Nat)=>D.int (t:Int)) (fun _=>D.int 0) (List.range many) (zdj rfl (by omega)) (by rw [List.length_range]; omega) fun g _=>⟨_,rfl,rfl⟩
 clear hb ha hm hl hQ hP
 generalize vec many t'=vs2 at *
 generalize (vec many fun _=>0)=vs at *
 generalize as.map encT=al at *
 unfold uv
 walk_at "mir"
theorem zst {ns:List Int} {c0:Int} {many:Nat} {mk:Int→Arw} (hc0:xr [.lst (ns.map .int),.int 0]=some (.int c0)) (hmk:∀c,wv [.int c,.int (many:Int),.int (c0 / 8)]=some (encT (mk c))) (r:L3.Env) (h0:r[0]?.join=some (.lst (ns.map .int))) (h1:r[1]?.join=some (.int (many:Int))):zkm r=some (.lst ((((ns.drop 4).take 16).map mk).map encT)):=by
 rw [List.map_map]
 refine uo D.int (fun c=>encT (mk c)) ((ns.drop 4).take 16) (zmo 0 4 20 h0) (by rw [List.length_take]; omega) fun c _=>⟨_,rfl,?_⟩
 have hcap:capsD r [1,0]=[some (.int (many:Int)),some (.lst (ns.map .int))]:=by unfold capsD; simp [h0,h1]
 rw [hcap]
 have:=hmk c
 clear hcap hmk h0 h1
 walk_at "mir"
theorem zsu {many:Nat} (hm:many≤8) (r:L3.Env) (h1:r[1]?.join=some (.int (many:Int))):zkl r=some (.lst (nm many)):=by
 refine uo (fun (t:Nat)=>D.int (t:Int)) (fun (k:Nat)=>D.str ("a"++itx (k:Int))) (List.range many) (zdj h1 (by omega)) (by rw [List.length_range]; omega) fun g hg=>⟨_,rfl,?_⟩
 have hg:=List.mem_range.mp hg
 obtain ⟨s1,s2⟩:=zpm g (by omega)
 clear hg h1 hm
 walk_at "mir"
theorem zsv {as:List Arw} (hl:as.length≤1000) (r:L3.Env) (h3:r[2]?.join=some (.lst (as.map encT))):zkk r=some (.lst ((as.map fun a=>mkA a a.s).map encA)):=by
 rw [List.map_map]
 refine uo encT (fun a=>encA (mkA a a.s)) as (by unfold lsD; have:eV 2 r=_:=h3; rw [this]; rfl) (by omega) fun a _=>⟨_,rfl,?_⟩
 have i0:ixD (encT a) (.int 0)=some (.int (a.s:Int)):=rfl
 have:=zrq a a.s
 clear hl h3
 walk_at "mir"
theorem zep {α:Type} {g:D→L3.Env→Option L3.Env} {b:SF} (enc:α→D) (f:α→Bool) (I:L3.Env→Prop) (w:D):∀(xs:List α) (ρ:L3.Env),I ρ→(∀x∈xs,∀ρ,I ρ→∃ρ1,g (enc x) ρ=some ρ1∧((f x=true∧∃ρ2,b ρ1=some (.nx ρ2)∧I ρ2)∨(f x=false∧b ρ1=some (.rt w)))) →
  (xs.all f=true∧∃ρ',forD g b (xs.map enc) ρ=some (.nx ρ')∧I ρ')∨(xs.all f=false∧forD g b (xs.map enc) ρ=some (.rt w))
 | [],ρ,h,_=>.inl ⟨rfl,ρ,rfl,h⟩
 | x::xs,ρ,h,st=>by
  obtain ⟨ρ1,h1,h2⟩:=st x List.mem_cons_self ρ h
  have unf:forD g b ((x::xs).map enc) ρ=(g (enc x) ρ).bind fun ρ1=>(b ρ1).bind fun o=>match o with
    | .nx ρ'=>forD g b (xs.map enc) ρ'
    | .ct ρ'=>forD g b (xs.map enc) ρ'
    | .bk ρ'=>some (.nx ρ')
    | .rt d=>some (.rt d):=rfl
  rw [unf,h1,Option.bind_some,List.all_cons]
  rcases h2 with ⟨e,ρ2,h2,h3⟩ | ⟨e,h2⟩
  ·rw [h2,e]
   exact zep enc f I w xs ρ2 h3 fun y hy=>st y (List.mem_cons_of_mem _ hy)
  ·rw [h2,e]
   exact .inr ⟨rfl,rfl⟩
theorem zk2 {as:List Arw} {w:List Nat} (hl:w.length≤1000) (hw:∀n∈w,n<as.length):uk [.lst (as.map encT),.lst (nats w)]=some (.tup [.int (w.map (tN as)).sum,.int (w.map (bN as)).sum]):=by
 have k3:=znl (as:=as) (w:=w) (j:=3) (f:=fun a=>(a.b:Int)) (q:=qw) (fi:=lsD (eV 1)) rfl (fun _=>rfl) (by omega) hw [some (.lst (as.map encT)),some (.lst (nats w))] rfl rfl
 have k2:=znl (as:=as) (w:=w) (j:=2) (f:=fun a=>a.t) (q:=qx) (fi:=lsD (eV 1)) rfl (fun _=>rfl) (by omega) hw [some (.lst (as.map encT)),some (.lst (nats w))] rfl rfl
 replace k2:qx _=some (.lst ((w.map (tN as)).map .int)):=k2
 replace k3:qw _=some (.lst ((w.map (bN as)).map .int)):=k3
 have u2:=zhw (w.map (tN as))
 have u3:=zhw (w.map (bN as))
 generalize (w.map (tN as)).map D.int=tl at *
 generalize (w.map (bN as)).map D.int=bl at *
 generalize (w.map (tN as)).sum=T at *
 generalize (w.map (bN as)).sum=Bh at *
 generalize as.map encT=al at *
 generalize nats w=wl at *
 clear hl hw
 unfold uk
 walk_at "mir"
theorem zh5 {as:List Arw} {many:Nat} {rk:Nat→Nat} (had:∀a∈as,Drawn many rk a) {w:List Nat} {x:Nat} (hx:Wlk (aS as) (aG as) x w x) (hw:w≠[]) (hn:∀n∈w,n<as.length) (hl:w.length≤8):(0≤(w.map (tN as)).sum∧(w.map (tN as)).sum≤8000000000)∧1≤(w.map (bN as)).sum∧(w.map (bN as)).sum≤32:=by
 obtain ⟨r1,r2⟩:=zh0 (rank:=rk) (fun a ha=>(had a ha).r) hx hn
 have hwp:=List.length_pos_iff.mpr hw
 have bt:=zg1 (f:=tN as) (m:=1000000000) (by decide) w fun n h=>⟨(had _ (qz (hn n h))).t0,(had _ (qz (hn n h))).t1⟩
 have bb:=zg1 (f:=bN as) (m:=4) (by decide) w fun n h=>by
  have:=(had _ (qz (hn n h))).b
  unfold bN
  omega
 have hb0:1≤(w.map (bN as)).sum:=by
  by_cases e:(w.map (bN as)).sum=0
  ·have:=r2 e; omega
  ·omega
 exact ⟨⟨bt.1,by omega⟩,hb0,by omega⟩
theorem zr2 {fi:L3.Env→Option (List D)} {cap:List Nat} {top:Nat→Int} {W:Int} {q f:EF} {g:D→L3.Env→Option L3.Env} {enc:Nat→D} {many:Nat} {r:L3.Env} (hq:q=eComp fi 1 cap g bTrue f) (hm:many≤1000) (hi:fi r=some ((List.range many).map enc)) (st:∀k,k<many→∃ρ1,g (enc k) (List.replicate 1 none++capsD r cap)=some ρ1∧f ρ1=some (fr (Fq.mk (top k) W))):q r=some (.lst (frs' many fun k=>Fq.mk (top k) W)):=by
 rw [hq]
 exact uo enc (fun k=>fr (Fq.mk (top k) W)) (List.range many) hi (by rw [List.length_range]; omega) fun k hk=>st k (List.mem_range.mp hk)
theorem zmw {as:List Arw} {many:Nat} {rk:Nat→Nat} (hm:many≤8) (hal:as.length≤16) (had:∀a∈as,Drawn many rk a) (c:Int) :
  ∃(beat:Int×Int) (is:List Int) (W:Int) (top:Nat→Int),j7 [.lst (as.map encT),.int (many:Int),.int c]=some (.tup [fr beat,.lst (is.map .int),.lst (frs' many fun g=>Fq.mk (top g) W)])∧Fq.Low beat∧(0≤beat.1∧beat.1≤10000000000)∧beat.2≤40∧is.length≤8∧(0<W∧W≤40)∧∀g,0≤top g∧top g≤10000000000000:=by
 obtain ⟨z,mx,hz⟩:=zas c (k:=2) (by decide) (by decide)
 obtain ⟨z3,mx3,hz3⟩:=zas c (k:=3) (by decide) (by decide)
 obtain ⟨w,w1,w2,w3,w4⟩:=zhz (as:=as) (many:=many) (z:=z3) (by omega) (by omega) (fun a ha=>⟨(had a ha).s,(had a ha).g⟩) hz3
 have ok:∀a∈as,AOk many a:=fun a ha=>⟨(had a ha).s,(had a ha).g,(had a ha).t0,(had a ha).t1,(had a ha).b⟩
 have lo:=zag (t:=(z:Int) / 12 % 60) (b:=1+(z:Int) % 12) (by omega) (zat (w:=100) (by omega) (by omega) (by decide))
 have l0:=Fq.mk_low (t:=(z:Int) / 12 % 60) (b:=1+(z:Int) % 12) (by omega)
 have b0:=Fq.mk_le_one (t:=(z:Int) / 12 % 60) (b:=1+(z:Int) % 12) (by omega)
 have b1:=Fq.mk_le_two (t:=(z:Int) / 12 % 60) (b:=1+(z:Int) % 12) (by omega)
 have c0:=Fq.mk_cross ((z:Int) / 12 % 60) (1+(z:Int) % 12)
 have nn:∀{t b:Int},0≤t→0<b→0≤(Fq.mk t b).1:=fun {t b} ht hb=>by
  have h1:=Fq.mk_cross t b
  have h2:=(Fq.mk_low (t:=t) (b:=b) (by omega)).gt
  have h3:0≤t * (Fq.mk t b).2:=Int.mul_nonneg ht (by omega)
  exact Int.nonneg_of_mul_nonneg_left (by rw [h1]; exact h3) hb
 have q:=zky true w
 rw [if_pos rfl] at q
 have blk1:∃(beat:Int×Int) (y6 y7:Option D),(sIf (bAnd (tb (e2 (eqD true) (eV 4) (fun ρ=>(aNil ρ).bind fun ds=>some (.lst ds)))) (tb (e2 gtD (e2 modD (e2 fdivD (eV 3) (eC (.int 720))) (eC (.int 8))) (eC (.int 0))))) (sSeq (sAsg (gT (gsCons (gV 6) (gsCons (gV 7) gsNil))) (fun ρ=>((aCons (eV 0) (aCons (eV 4) aNil)) ρ).bind fun ds=>uk (ds++[])))
  (sSet 5 (fun ρ=>((aCons (eV 6) (aCons (eV 7) aNil)) ρ).bind fun ds=>xv (ds++[])))) sSkip) [some (.lst (as.map encT)),some (.int (many:Int)),some (.int c),some (.int (z:Int)),some (.lst (nats w)),some (fr (Fq.mk ((z:Int) / 12 % 60) (1+(z:Int) % 12))),none,none,none]=some (.nx [some (.lst (as.map encT)),some (.int (many:Int)),some (.int c),some (.int (z:Int)),some (.lst (nats w)),some (fr beat),y6,y7,none])∧Fq.Low beat∧(0≤beat.1∧beat.1≤10000000000)∧beat.2≤40:=by
  by_cases hB:w=[]∨(z:Int) / 720 % 8=0
  ·refine ⟨Fq.mk ((z:Int) / 12 % 60) (1+(z:Int) % 12),none,none,?_,l0,⟨nn (by omega) (by omega),by omega⟩,by omega⟩
   clear b0 b1 c0 nn l0 lo ok w1 w2 w3 w4 hz hz3 mx mx3 had hal hm
   generalize fr (Fq.mk ((z:Int) / 12 % 60) (1+(z:Int) % 12))=F at *
   generalize as.map encT=al at *
   by_cases hw:w=[]
   ·rw [decide_eq_true hw] at q
    generalize nats w=wl at *
    clear hB hw
    walk_at "mir"
   ·have h7:(z:Int) / 720 % 8=0:=hB.resolve_left hw
    rw [decide_eq_false hw] at q
    have gt:gtD (.int ((z:Int) / 720 % 8)) (.int 0)=some (.bl false):=(zbf _ _).trans (by rw [h7]; rfl)
    generalize nats w=wl at *
    clear hB hw h7
    walk_at "mir"
  ·have hw:w≠[]:=fun h=>hB (.inl h)
   have h7:¬(z:Int) / 720 % 8=0:=fun h=>hB (.inr h)
   rw [decide_eq_false hw] at q
   obtain ⟨x,hx⟩:=w3 hw
   obtain ⟨⟨t1,t2⟩,u1,u2⟩:=zh5 had hx hw w2 (by omega)
   have sm:=zk2 (as:=as) (w:=w) (by omega) w2
   generalize (w.map (tN as)).sum=T at *
   generalize (w.map (bN as)).sum=Bh at *
   have lo2:=zag (t:=T) (b:=Bh) (by omega) (zat (w:=100) (by omega) (by omega) (by decide))
   have l2:=Fq.mk_low (t:=T) (b:=Bh) (by omega)
   have b2:=Fq.mk_le_one (t:=T) (b:=Bh) (by omega)
   have b3:=Fq.mk_le_two (t:=T) (b:=Bh) (by omega)
   have n1:=nn (t:=T) (b:=Bh) (by omega) (by omega)
   refine ⟨Fq.mk T Bh,some (.int T),some (.int Bh),?_,l2,⟨n1,by omega⟩,by have:=l2.gt; omega⟩
   have gt:gtD (.int ((z:Int) / 720 % 8)) (.int 0)=some (.bl true):=(zbf _ _).trans (by rw [decide_eq_true (by omega)])
   clear b0 b1 c0 nn l0 lo ok w1 w2 w3 w4 hz hz3 mx mx3 had hal hm hB hw h7 b2 b3 n1 l2 t1 t2 u1 u2 hx
   generalize fr (Fq.mk ((z:Int) / 12 % 60) (1+(z:Int) % 12))=F at *
   generalize fr (Fq.mk T Bh)=F2 at *
   generalize as.map encT=al at *
   generalize nats w=wl at *
   walk_at "mir"
 obtain ⟨beat,y6,y7,k1,lb,bb1,bb2⟩:=blk1
 have lbg:=lb.gt
 have blk2:∃is:List Int,(sIf (tb (e2 (eqD false) (e2 modD (e2 fdivD (eV 3) (eC (.int 720))) (eC (.int 8))) (eC (.int 1)))) (sSet 4 ja) sSkip) [some (.lst (as.map encT)),some (.int (many:Int)),some (.int c),some (.int (z:Int)),some (.lst (nats w)),some (fr beat),y6,y7,none]=some (.nx [some (.lst (as.map encT)),some (.int (many:Int)),some (.int c),some (.int (z:Int)),some (.lst (is.map .int)),some (fr beat),y6,y7,none])∧is.length≤8:=by
  by_cases h1:(z:Int) / 720 % 8=1
  ·obtain ⟨kn,hkn,hk3⟩:∃k:Nat,1+(z:Int) / 5760 % 3=(k:Int)∧k≤3:=⟨(1+(z:Int) / 5760 % 3).toNat,by omega,by omega⟩
   have mxk:∀k:Nat,k<kn→∃v:Int,(e2 modD (fun ρ=>((aCons (eV 1) (aCons (e2 addD (eC (.int 4)) (eV 0)) aNil)) ρ).bind fun ds=>yb (ds++[])) (e2 addD (eN lenD (aCons (eV 2) aNil)) (eC (.int 1)))) [some (.int (k:Int)),some (.int c),some (.lst (as.map encT))]=some (.int v):=fun k hk=>by
    obtain ⟨u,mu,_⟩:=zas c (k:=4+(k:Int)) (by omega) (by omega)
    have la:lenD [.lst (as.map encT)]=some (.int (as.length:Int)):=(vf _).trans (by rw [List.length_map])
    have mo:modD (.int (u:Int)) (.int ((as.length:Int)+1))=some (.int ((u:Int) % ((as.length:Int)+1))):=u4 (by omega)
    refine ⟨(u:Int) % ((as.length:Int)+1),?_⟩
    clear k1 lb bb1 bb2 lbg b0 b1 c0 nn l0 lo ok w1 w2 w3 w4 hz hz3 mx mx3 had hal hm h1 hk hk3 hkn q
    generalize as.map encT=al at *
    generalize (u:Int) % ((as.length:Int)+1)=v at *
    generalize (as.length:Int)=aln at *
    walk_at "mir"
   have hch:∃v:Nat→Int,∀k:Nat,k<kn→(e2 modD (fun ρ=>((aCons (eV 1) (aCons (e2 addD (eC (.int 4)) (eV 0)) aNil)) ρ).bind fun ds=>yb (ds++[])) (e2 addD (eN lenD (aCons (eV 2) aNil)) (eC (.int 1)))) [some (.int (k:Int)),some (.int c),some (.lst (as.map encT))]=some (.int (v k)) :=
    ⟨fun k=>if h:k<kn then Classical.choose (mxk k h) else 0,fun k h=>by dsimp only; rw [dif_pos h]; exact Classical.choose_spec (mxk k h)⟩
   obtain ⟨v,hv⟩:=hch
   refine ⟨(List.range kn).map v,?_,by rw [List.length_map,List.length_range]; omega⟩
   have q3:ja [some (.lst (as.map encT)),some (.int (many:Int)),some (.int c),some (.int (z:Int)),some (.lst (nats w)),some (fr beat),y6,y7,none]=some (.lst (((List.range kn).map v).map .int)):=by
    rw [List.map_map]
    refine uo (fun (t:Nat)=>D.int (t:Int)) (fun k=>D.int (v k)) (List.range kn) (zdj ?_ (by omega)) (by rw [List.length_range]; omega) fun k hk=>⟨_,rfl,hv k (List.mem_range.mp hk)⟩
    clear hv k1 lb bb1 bb2 lbg b0 b1 c0 nn l0 lo ok w1 w2 w3 w4 hz hz3 mx mx3 had hal hm h1 hk3 q
    generalize as.map encT=al at *
    generalize nats w=wl at *
    generalize fr beat=F at *
    rw [← hkn]
    walk_at "mir"
   clear hv k1 lb bb1 bb2 lbg b0 b1 c0 nn l0 lo ok w1 w2 w3 w4 hz hz3 mx mx3 had hal hm hk3 q hkn
   generalize ((List.range kn).map v).map D.int=vl at *
   generalize as.map encT=al at *
   generalize nats w=wl at *
   generalize fr beat=F at *
   walk_at "mir"
  ·refine ⟨w.map fun (n:Nat)=>(n:Int),?_,by rw [List.length_map]; omega⟩
   have en:(w.map fun (n:Nat)=>(n:Int)).map D.int=nats w:=by rw [List.map_map]; rfl
   rw [en]
   clear en k1 lb bb1 bb2 lbg b0 b1 c0 nn l0 lo ok w1 w2 w3 w4 hz hz3 mx mx3 had hal hm q
   generalize as.map encT=al at *
   generalize nats w=wl at *
   generalize fr beat=F at *
   walk_at "mir"
 obtain ⟨is,k2,his⟩:=blk2
 obtain ⟨tp,pu,htp⟩:=zk1 (as:=as) (many:=many) (P:=beat.1) (Q:=beat.2) hm hal ⟨lbg,bb2⟩ bb1 ok
 replace pu:uv [.lst (as.map encT),fr beat,.int (many:Int)]=some (.lst (vec many tp)):=pu
 have q2:zba [some (.lst (as.map encT)),some (.int (many:Int)),some (.int c),some (.int (z:Int)),some (.lst (is.map .int)),some (fr beat),y6,y7,none]=some (.lst (frs' many fun g=>Fq.mk (tp g) beat.2)):=by
  refine zr2 (cap:=[5]) (enc:=fun g=>D.int (tp g)) rfl (by omega) ?_ fun k hk=>⟨_,rfl,?_⟩
  ·have hv:(List.range many).map (fun g=>D.int (tp g))=vec many tp:=rfl
   rw [hv]
   clear k1 k2 lb bb1 bb2 lbg b0 b1 c0 nn l0 lo ok w1 w2 w3 w4 hz hz3 mx mx3 had hal hm q htp hv
   generalize as.map encT=al at *
   generalize is.map D.int=il at *
   generalize fr beat=F at *
   generalize vec many tp=vs at *
   walk_at "mir"
  ·have l3:=zag (t:=tp k) (b:=beat.2) lbg (zat (w:=40) (by omega) (by omega) (by decide))
   have hcap:capsD [some (.lst (as.map encT)),some (.int (many:Int)),some (.int c),some (.int (z:Int)),some (.lst (is.map .int)),some (fr beat),y6,y7,none] [5]=[some (fr beat)]:=rfl
   rw [hcap]
   have f1:=fr1 beat
   generalize fr (Fq.mk (tp k) beat.2)=F3 at *
   generalize fr beat=F at *
   clear hcap k1 k2 lb bb1 bb2 lbg b0 b1 c0 nn l0 lo ok w1 w2 w3 w4 hz hz3 mx mx3 had hal hm q htp pu
   walk_at "mir"
 have blk3:∃(W:Int) (top:Nat→Int),(sIf (tb (e2 (eqD false) (e2 modD (e2 fdivD (eV 3) (eC (.int 720))) (eC (.int 8))) (eC (.int 2)))) (sSet 8 u9) sSkip) [some (.lst (as.map encT)),some (.int (many:Int)),some (.int c),some (.int (z:Int)),some (.lst (is.map .int)),some (fr beat),y6,y7,some (.lst (frs' many fun g=>Fq.mk (tp g) beat.2))]=some (.nx [some (.lst (as.map encT)),some (.int (many:Int)),some (.int c),some (.int (z:Int)),some (.lst (is.map .int)),some (fr beat),y6,y7,some (.lst (frs' many fun g=>Fq.mk (top g) W))])∧(0<W∧W≤40)∧∀g,0≤top g∧top g≤10000000000000:=by
  by_cases h2:(z:Int) / 720 % 8=2
  ·have mxk:∀k:Nat,∃u:Nat,k<many→yb [.int c,.int (9+(k:Int))]=some (.int (u:Int)):=fun k=>by
    by_cases hk:k<many
    ·obtain ⟨u,mu,_⟩:=zas c (k:=9+(k:Int)) (by omega) (by omega)
     exact ⟨u,fun _=>mu⟩
    ·exact ⟨0,fun h=>absurd h hk⟩
   have hch:∃v:Nat→Nat,∀k:Nat,k<many→yb [.int c,.int (9+(k:Int))]=some (.int (v k:Int)):=⟨fun k=>Classical.choose (mxk k),fun k=>Classical.choose_spec (mxk k)⟩
   obtain ⟨v,hv⟩:=hch
   refine ⟨1+(z:Int) / 5760 % 7,fun k=>(v k:Int) % 200,?_,by omega,fun g=>by dsimp only; omega⟩
   have q1:u9 [some (.lst (as.map encT)),some (.int (many:Int)),some (.int c),some (.int (z:Int)),some (.lst (is.map .int)),some (fr beat),y6,y7,some (.lst (frs' many fun g=>Fq.mk (tp g) beat.2))]=some (.lst (frs' many fun k=>Fq.mk ((v k:Int) % 200) (1+(z:Int) / 5760 % 7))):=by
    refine zr2 (cap:=[2,3]) (enc:=fun (k:Nat)=>D.int (k:Int)) rfl (by omega) (zdj rfl (by omega)) fun k hk=>⟨_,rfl,?_⟩
    have l3:=zag (t:=(v k:Int) % 200) (b:=1+(z:Int) / 5760 % 7) (by omega) (zat (w:=40) (by omega) (by omega) (by decide))
    have hcap:capsD [some (.lst (as.map encT)),some (.int (many:Int)),some (.int c),some (.int (z:Int)),some (.lst (is.map .int)),some (fr beat),y6,y7,some (.lst (frs' many fun g=>Fq.mk (tp g) beat.2))] [2,3]=[some (.int c),some (.int (z:Int))]:=rfl
    rw [hcap]
    have mk:=hv k hk
    generalize fr (Fq.mk ((v k:Int) % 200) (1+(z:Int) / 5760 % 7))=F3 at *
    clear hcap k1 k2 lb bb1 bb2 lbg b0 b1 c0 nn l0 lo ok w1 w2 w3 w4 hz hz3 mx mx3 had hal hm q htp pu q2 hv h2
    walk_at "mir"
   clear k1 k2 lb bb1 bb2 lbg b0 b1 c0 nn l0 lo ok w1 w2 w3 w4 hz hz3 mx mx3 had hal hm q htp pu q2 hv
   generalize frs' many (fun k=>Fq.mk ((v k:Int) % 200) (1+(z:Int) / 5760 % 7))=fl2 at *
   generalize frs' many (fun g=>Fq.mk (tp g) beat.2)=fl at *
   generalize as.map encT=al at *
   generalize is.map D.int=il at *
   generalize fr beat=F at *
   walk_at "mir"
  ·refine ⟨beat.2,tp,?_,⟨lbg,bb2⟩,htp⟩
   clear k1 k2 lb bb1 bb2 lbg b0 b1 c0 nn l0 lo ok w1 w2 w3 w4 hz hz3 mx mx3 had hal hm q htp pu q2
   generalize frs' many (fun g=>Fq.mk (tp g) beat.2)=fl at *
   generalize as.map encT=al at *
   generalize is.map D.int=il at *
   generalize fr beat=F at *
   walk_at "mir"
 obtain ⟨W,top,k3,hW,htop⟩:=blk3
 refine ⟨beat,is,W,top,?_,lb,bb1,bb2,his,hW,htop⟩
 clear lb bb1 bb2 lbg b0 b1 c0 nn l0 ok w1 w2 w3 hz hz3 had hal hm q htp pu hW htop his
 generalize fr (Fq.mk ((z:Int) / 12 % 60) (1+(z:Int) % 12))=F0 at *
 generalize frs' many (fun k=>Fq.mk (top k) W)=fl2 at *
 generalize frs' many (fun g=>Fq.mk (tp g) beat.2)=fl at *
 generalize as.map encT=al at *
 generalize is.map D.int=il at *
 generalize nats w=wl at *
 generalize fr beat=F at *
 unfold j7
 generalize (sIf (bAnd (tb (e2 (eqD true) (eV 4) (fun ρ=>(aNil ρ).bind fun ds=>some (.lst ds)))) (tb (e2 gtD (e2 modD (e2 fdivD (eV 3) (eC (.int 720))) (eC (.int 8))) (eC (.int 0))))) (sSeq (sAsg (gT (gsCons (gV 6) (gsCons (gV 7) gsNil))) (fun ρ=>((aCons (eV 0) (aCons (eV 4) aNil)) ρ).bind fun ds=>uk (ds++[])))
  (sSet 5 (fun ρ=>((aCons (eV 6) (aCons (eV 7) aNil)) ρ).bind fun ds=>xv (ds++[])))) sSkip)=B1 at *
 generalize (sIf (tb (e2 (eqD false) (e2 modD (e2 fdivD (eV 3) (eC (.int 720))) (eC (.int 8))) (eC (.int 1)))) (sSet 4 ja) sSkip)=B2 at *
 generalize (sIf (tb (e2 (eqD false) (e2 modD (e2 fdivD (eV 3) (eC (.int 720))) (eC (.int 8))) (eC (.int 2)))) (sSet 8 u9) sSkip)=B3 at *
 walk_at "mir"
theorem zmx {beat:Int×Int} (lb:Fq.Low beat) (h1:0≤beat.1∧beat.1≤10000000000) (h2:beat.2≤40) (c:Int):∃p:Int×Int,ji [fr beat,.int c]=some (fr p)∧Fq.Low p∧-10000000000000000≤p.1∧p.1≤10000000000000000∧p.2≤10000000000000000:=by
 obtain ⟨z,mx,hz⟩:=zas c (k:=5) (by decide) (by decide)
 have hb:=lb.gt
 have f0:=fr0 beat
 have f1:=fr1 beat
 obtain ⟨fi,hfi,hf1,hf2⟩:∃fi:Int,fi=1+(z:Int) / 4 % 100000∧1≤fi∧fi≤100000:=⟨_,rfl,by omega,by omega⟩
 have m1:mulI (.int beat.1) (.int fi)=some (.int (beat.1 * fi)):=j9 (by omega) (by omega)
 have m2:mulI (.int beat.2) (.int fi)=some (.int (beat.2 * fi)):=j9 (by omega) (by omega)
 have g1:0≤beat.1 * fi∧beat.1 * fi≤10000000000 * 100000:=⟨Int.mul_nonneg h1.1 (by omega),Int.mul_le_mul h1.2 hf2 (by omega) (by decide)⟩
 have g2:0<beat.2 * fi∧beat.2 * fi≤40 * 100000:=⟨Int.mul_pos hb (by omega),Int.mul_le_mul h2 hf2 (by omega) (by decide)⟩
 have lo:=zag (t:=beat.1 * fi+(z:Int) / 400000 % 3-1) (b:=beat.2 * fi) g2.1 (zat (w:=4000000) (by omega) (by omega) (by decide))
 have lo2:=zag (t:=(z:Int) / 12 % 60-12) (b:=1+(z:Int) % 12) (by omega) (zat (w:=100) (by omega) (by omega) (by decide))
 have d1:=zr1 (W:=10000000000000000) (t:=beat.1 * fi+(z:Int) / 400000 % 3-1) (b:=beat.2 * fi) g2.1 (by omega) (by omega) (by omega)
 have d2:=zr1 (W:=10000000000000000) (t:=(z:Int) / 12 % 60-12) (b:=1+(z:Int) % 12) (by omega) (by omega) (by omega) (by omega)
 have hr:(z:Int) % 4=0∨(z:Int) % 4=1∨(z:Int) % 4=2∨(z:Int) % 4=3:=by omega
 have ix:∀(a b c:D),ixD (.lst [a,a,b,c]) (.int 0)=some a∧ixD (.lst [a,a,b,c]) (.int 1)=some a∧ixD (.lst [a,a,b,c]) (.int 2)=some b∧ixD (.lst [a,a,b,c]) (.int 3)=some c:=fun _ _ _=>⟨rfl,rfl,rfl,rfl⟩
 have ix:=ix (fr (Fq.mk (beat.1 * fi+(z:Int) / 400000 % 3-1) (beat.2 * fi))) (fr beat) (fr (Fq.mk ((z:Int) / 12 % 60-12) (1+(z:Int) % 12)))
 obtain ⟨ix0,ix1,ix2,ix3⟩:=ix
 have d3:Fq.Low beat∧-10000000000000000≤beat.1∧beat.1≤10000000000000000∧beat.2≤10000000000000000:=⟨lb,by omega,by omega,by omega⟩
 have key:∀(i:Int) (p:Int×Int),(z:Int) % 4=i→ixD (.lst [fr (Fq.mk (beat.1 * fi+(z:Int) / 400000 % 3-1) (beat.2 * fi)),fr (Fq.mk (beat.1 * fi+(z:Int) / 400000 % 3-1) (beat.2 * fi)),fr beat,fr (Fq.mk ((z:Int) / 12 % 60-12) (1+(z:Int) % 12))]) (.int i)=some (fr p)→ji [fr beat,.int c]=some (fr p):=by
  intro i p hi hx
  have mo:modD (.int (z:Int)) (.int 4)=some (.int i):=(u4 (by decide)).trans (by rw [hi])
  clear hi hr d1 d2 d3 ix0 ix1 ix2 ix3 g1 g2 hz h1 h2 lb hb hf1 hf2
  generalize fr (Fq.mk (beat.1 * fi+(z:Int) / 400000 % 3-1) (beat.2 * fi))=F1 at *
  generalize fr (Fq.mk ((z:Int) / 12 % 60-12) (1+(z:Int) % 12))=F2 at *
  generalize fr beat=F at *
  generalize fr p=Fp at *
  generalize beat.1 * fi=w1 at *
  generalize beat.2 * fi=w2 at *
  subst hfi
  unfold ji
  walk_at "mir"
 rcases hr with hr | hr | hr | hr
 ·exact ⟨_,key 0 _ hr ix0,d1⟩
 ·exact ⟨_,key 1 _ hr ix1,d1⟩
 ·exact ⟨_,key 2 _ hr ix2,d3⟩
 ·exact ⟨_,key 3 _ hr ix3,d2⟩
theorem zsw (as:List Arw) (f:Arw→Int):sI (as.map fun a=>mkA a (f a))=sI as∧gI (as.map fun a=>mkA a (f a))=gI as∧tI (as.map fun a=>mkA a (f a))=tI as∧bI (as.map fun a=>mkA a (f a))=bI as:=by
 refine ⟨funext fun i=>(zf5 as f i.toNat).1,funext fun i=>(zf5 as f i.toNat).2.1,funext fun i=>(zf5 as f i.toNat).2.2.1,funext fun i=>?_⟩
 unfold bI
 rw [(zf5 as f i.toNat).2.2.2]
theorem alg1 {T B P Q p1 p2:Int} (hB:0<B) (hQ:0<Q) (e:T * Q=P * B) (h:T * p2≤B * p1):P * p2≤p1 * Q:=by
 have h1:=Int.mul_le_mul_of_nonneg_right h (Int.le_of_lt hQ)
 have e1:T * p2 * Q=B * (P * p2):=by
  have:T * p2 * Q=(T * Q) * p2:=by grind
  rw [this,e]; grind
 have e2:B * p1 * Q=B * (p1 * Q):=by grind
 rw [e1,e2] at h1
 exact Int.le_of_mul_le_mul_left h1 hB
theorem alg2 {T B P Q p1 p2:Int} (hB:0<B) (hQ:0<Q) (hp:0<p2) (h1:B * p1<T * p2) (h2:T * Q≤P * B):p1 * Q<P * p2:=by
 have h3:=Int.mul_lt_mul_of_pos_right h1 hQ
 have h4:=Int.mul_le_mul_of_nonneg_right h2 (Int.le_of_lt hp)
 have e1:T * p2 * Q=T * Q * p2:=by grind
 have e2:B * p1 * Q=B * (p1 * Q):=by grind
 have e3:P * B * p2=B * (P * p2):=by grind
 rw [e1,e2] at h3
 rw [e3] at h4
 exact Int.lt_of_mul_lt_mul_left (Int.lt_of_lt_of_le h3 h4) (Int.le_of_lt hB)
theorem alg3 {T B P Q W:Int} (hW:0<W) (h:T * (W * Q)-B * (W * P)≤0):T * Q≤P * B:=by
 have e:T * (W * Q)-B * (W * P)=W * (T * Q-P * B):=by grind
 rw [e] at h
 have h2:W * (T * Q-P * B)≤W * 0:=by omega
 have:=Int.le_of_mul_le_mul_left h2 hW
 omega
theorem zr3 (b:Bool):eqD true (.bl b) (.bl b)=some (.bl false):=by cases b <;> rfl
theorem zk3 {e0 e4 e5:Option D} {ns:List D} {many:Nat} {as:List Arw} {rk:Nat→Nat} {beat:Int×Int} {is:List Int} (hm1:1≤many) (hm:many≤8) (hns:ns.length=many) (hal:as.length≤16) (had:∀a∈as,Drawn many rk a) (lb:Fq.Low beat) (hb1:0≤beat.1∧beat.1≤10000000000) (hb2:beat.2≤40) (hr:RngR (sI as) (gI as) as.length is) (hrb:1≤(is.map (bI as)).sum) (hre:(is.map (tI as)).sum * beat.2=beat.1 * (is.map (bI as)).sum)
  (hk:∀(w:List Nat) (x:Nat),Wlk (aS as) (aG as) x w x→(∀n∈w,n<as.length)→(w.map (tN as)).sum * beat.2≤beat.1 * (w.map (bN as)).sum) (c:Int) (y8 y9 y10 y11 y12:Option D) :
  ∃z8 z9 z10 z11 z12,zek [e0,some (.int (many:Int)),some (.lst (as.map encT)),some (netD ns (as.map fun a=>mkA a a.s)),e4,e5,some (fr beat),some (.int c),y8,y9,y10,y11,y12]=some (.nx [e0,some (.int (many:Int)),some (.lst (as.map encT)),some (netD ns (as.map fun a=>mkA a a.s)),e4,e5,some (fr beat),some (.int c),z8,z9,z10,z11,z12]):=by
 have hq:=lb.gt
 obtain ⟨z,mx,hz⟩:=zas c (k:=6) (by decide) (by decide)
 obtain ⟨w,w1,w2,w3,w4⟩:=zhz (as:=as) (many:=many) (z:=z) (by omega) (by omega) (fun a ha=>⟨(had a ha).s,(had a ha).g⟩) hz
 have sm:=zk2 (as:=as) (w:=w) (by omega) w2
 have hw:(w.map (tN as)).sum * beat.2≤beat.1 * (w.map (bN as)).sum:=by
  by_cases e:w=[]
  ·subst e; simp
  ·obtain ⟨x,hx⟩:=w3 e
   exact hk w x hx w2
 generalize (w.map (tN as)).sum=T at *
 generalize (w.map (bN as)).sum=Bh at *
 have m1:mulI (.int T) (.int beat.2)=some (.int (T * beat.2)):=zdb (by omega) (by omega)
 have m2:mulI (.int beat.1) (.int Bh)=some (.int (beat.1 * Bh)):=j9 (by omega) (by omega)
 have gt:gtD (.int (T * beat.2)) (.int (beat.1 * Bh))=some (.bl false):=(zbf _ _).trans (by rw [decide_eq_false (by omega)])
 obtain ⟨p,ask,lp,p1,p2,p3⟩:=zmx lb hb1 hb2 c
 have hp:=lp.gt
 have n1:mulI (.int p.1) (.int beat.2)=some (.int (p.1 * beat.2)):=zdb (by omega) (by omega)
 have n2:mulI (.int beat.1) (.int p.2)=some (.int (beat.1 * p.2)):=j9 (by omega) (by omega)
 have ok2:∀a∈(as.map fun a=>mkA a (a.s:Int)),AOk many a:=fun a ha=>by
  obtain ⟨a',h1,rfl⟩:=List.mem_map.mp ha
  exact ⟨(had a' h1).s,(had a' h1).g,(had a' h1).t0,(had a' h1).t1,(had a' h1).b⟩
 have hM:∀n,n<(as.map fun a=>mkA a (a.s:Int)).length→cst' (as.map fun a=>mkA a (a.s:Int)) p n≤100000000000000000000000000:=fun n hn=>by
  have o:=ok2 _ (qz hn)
  unfold cst'
  generalize aN (as.map fun a=>mkA a (a.s:Int)) n=a at *
  have g1:a.t * p.2≤1000000000 * 10000000000000000:=Int.mul_le_mul o.t1 p3 (by omega) (by decide)
  have hb':a.b=0∨a.b=1∨a.b=2∨a.b=3∨a.b=4:=by have:=o.b; omega
  rcases hb' with e | e | e | e | e <;> rw [e] <;> simp <;> omega
 obtain ⟨d,t1,t2⟩:=zpv (ns:=ns) (as:=as.map fun a=>mkA a (a.s:Int)) (p:=p) (M:=100000000000000000000000000) hns hm1 (by omega) (by rw [List.length_map]; omega) ok2 (by omega) (zat (w:=10000000000000000) (by omega) p3 (by decide)) hM (by decide)
 have t3:TOR many as p (List.range as.length) ((many:Int) * ((as.length:Int) * 100000000000000000000000000)) d:=by
  unfold TOR at t2 ⊢
  rw [zsr,zss,zr0,List.length_map] at t2
  exact t2
 have key:∃(s:Str) (L:List D),d=.tup [.str s,.lst L]∧eqD false (.str s) (.str "ring")=some (.bl (decide (p.1 * beat.2<beat.1 * p.2))):=by
  rcases t3 with ⟨T',rfl,h1,_⟩ | ⟨R,x,rfl,r1,r2,r3,r4,r5⟩
  ·refine ⟨_,_,rfl,?_⟩
   have a1:=alg1 (by omega) hq hre (zk0 hr h1)
   rw [decide_eq_false (by omega)]
   with_unfolding_all rfl
  ·refine ⟨_,_,rfl,?_⟩
   have hRn:∀n∈R,n<as.length:=fun n hn=>List.mem_range.mp (r4 n hn)
   have hRl:R.length≤many:=by
    rw [← List.length_map (f:=aG as)]
    refine Kahn.len_le r3 fun y hy=>?_
    obtain ⟨n,q1,rfl⟩:=List.mem_map.mp hy
    exact (had _ (qz (hRn n q1))).g
   obtain ⟨_,u1,u2⟩:=zh5 had r2 r1 hRn (by omega)
   have h2:=hk R x r2 hRn
   rw [zg0] at r5
   have a2:=alg2 (T:=(R.map (tN as)).sum) (B:=(R.map (bN as)).sum) (P:=beat.1) (Q:=beat.2) (p1:=p.1) (p2:=p.2) (by omega) hq hp (by omega) h2
   rw [decide_eq_true a2]
   with_unfolding_all rfl
 obtain ⟨s,L,rfl,e⟩:=key
 have lt:ltD (.int (p.1 * beat.2)) (.int (beat.1 * p.2))=some (.bl (decide (p.1 * beat.2<beat.1 * p.2))):=zjy _ _
 generalize decide (p.1 * beat.2<beat.1 * p.2)=bb at *
 have ee:=zr3 bb
 have i0:ixD (.tup [.str s,.lst L]) (.int 0)=some (.str s):=rfl
 have f0:=fr0 beat
 have f1:=fr1 beat
 have g0:=fr0 p
 have g1:=fr1 p
 refine ⟨some (.lst (nats w)),some (.int T),some (.int Bh),some (fr p),some (.bl bb),?_⟩
 clear t2 t3 hM ok2 hp p1 p2 p3 lp hw w1 w2 w3 hz hk hre hrb hr hb2 hb1 lb had hal hns hm hm1 hq
 generalize netD ns (as.map fun a=>mkA a a.s)=net at *
 generalize as.map encT=al at *
 generalize fr p=Fp at *
 generalize fr beat=F at *
 generalize nats w=wl at *
 generalize p.1 * beat.2=v1 at *
 generalize beat.1 * p.2=v2 at *
 generalize T * beat.2=v3 at *
 generalize beat.1 * Bh=v4 at *
 generalize (D.tup [.str s,.lst L])=DL at *
 unfold zek
 cases bb
 ·walk_at "mir"
 ·walk_at "mir"
theorem zk4 {ns:List Int} {many:Nat} {as:List Arw} {rk:Nat→Nat} {c3:Int} (hl:ns.length≤63) (hc3:xr [.lst (ns.map .int),.int 3]=some (.int c3)) (hm1:1≤many) (hm:many≤8) (hal:as.length≤16) (had:∀a∈as,Drawn many rk a) (ok:NetOk many (as.map fun a=>mkA a a.s)) (hnm:(nm many).length=many) (c:Int) (y5 y6 y7 y8 y9 y10 y11 y12:Option D) :
  ∃z5 z6 z7 z8 z9 z10 z11 z12,zcp [some (.lst (ns.map .int)),some (.int (many:Int)),some (.lst (as.map encT)),some (netD (nm many) (as.map fun a=>mkA a a.s)),some (.int c),y5,y6,y7,y8,y9,y10,y11,y12]=some (.nx [some (.lst (ns.map .int)),some (.int (many:Int)),some (.lst (as.map encT)),some (netD (nm many) (as.map fun a=>mkA a a.s)),some (.int c),z5,z6,z7,z8,z9,z10,z11,z12]):=by
 obtain ⟨beat,is,W,top,pp,lb,hb1,hb2,his,hW,htop⟩:=zmw hm hal had c
 have hq:=lb.gt
 have low:∀g,Fq.Low (Fq.mk (top g) W):=fun g=>Fq.mk_low (by omega)
 have rk2:∀a∈(as.map fun a=>mkA a (a.s:Int)),a.b=0→rk a.s<rk a.g:=fun a ha=>by
  obtain ⟨a',h1,rfl⟩:=List.mem_map.mp ha
  exact (had a' h1).r
 have bb2:∀a∈(as.map fun a=>mkA a (a.s:Int)),a.b≤4:=fun a ha=>by
  obtain ⟨a',h1,rfl⟩:=List.mem_map.mp ha
  exact (had a' h1).b
 obtain ⟨b,h1,h2⟩:=zpw (ns:=nm many) (is:=is) (pace:=beat) (tm:=fun g=>Fq.mk (top g) W) ok hnm (by omega) (by rw [List.length_map]; omega) bb2 rk2 lb low ⟨zat (w:=10000000000) (by omega) hb1.2 (by decide),zat (w:=40) (by omega) hb2 (by decide)⟩ (fun g=>zpn (by omega) (zat (w:=10000000000000) (by have:=htop g; omega) (htop g).2 (by decide)) (zat (w:=40) (by omega) hW.2 (by decide)))
 cases b with
 | false =>
  refine ⟨some (.tup [fr beat,.lst (is.map .int),.lst (frs' many fun g=>Fq.mk (top g) W)]),y6,y7,y8,y9,y10,y11,y12,?_⟩
  clear h2 bb2 rk2 low hq htop hW his hb1 hb2 lb had hal hm hm1 hl hnm ok
  generalize (D.tup [fr beat,.lst (is.map .int),.lst (frs' many fun g=>Fq.mk (top g) W)])=PD at *
  generalize netD (nm many) (as.map fun a=>mkA a a.s)=net at *
  generalize as.map encT=al at *
  unfold zcp
  walk_at "mir"
 | true =>
  obtain ⟨r1,r2,r3⟩:=h2.mp rfl
  obtain ⟨s1,s2,s3,s4⟩:=zsw as (fun a=>(a.s:Int))
  rw [s1,s2,List.length_map] at r1
  rw [s3,s4] at r2
  have hrb:1≤(is.map (bI as)).sum:=zhx (rank:=rk) (fun a ha=>(had a ha).r) r1
  have hre:(is.map (tI as)).sum * beat.2=beat.1 * (is.map (bI as)).sum:=by
   have:=Fq.mk_cross (is.map (tI as)).sum (is.map (bI as)).sum
   rw [r2] at this
   exact this.symm
  have hkk:∀n∈List.range as.length,(fun g=>top g * beat.2) (aS as n)+cst' as (W * beat.1,W * beat.2) n≤(fun g=>top g * beat.2) (aG as n):=fun n hn=>by
   have hn:=List.mem_range.mp hn
   have hmem:mkA (aN as n) ((aN as n).s:Int)∈as.map fun a=>mkA a (a.s:Int):=List.mem_map.mpr ⟨_,qz hn,rfl⟩
   have h4:=List.all_eq_true.mp r3 _ hmem
   rw [zmr (W:=W) (top:=top) lb low hW.1 (fun g=>Fq.mk_cross (top g) W)] at h4
   have h4:=of_decide_eq_true h4
   unfold cst' aS aG
   dsimp only
   have e0:(mkA (aN as n) ((aN as n).s:Int)).s=(aN as n).s:=rfl
   have e1:(mkA (aN as n) ((aN as n).s:Int)).g=(aN as n).g:=rfl
   have e2:(mkA (aN as n) ((aN as n).s:Int)).t=(aN as n).t:=rfl
   have e3:(mkA (aN as n) ((aN as n).s:Int)).b=(aN as n).b:=rfl
   rw [e0,e1,e2,e3] at h4
   have e5:(aN as n).t * (W * beat.2)-((aN as n).b:Int) * (W * beat.1)=(aN as n).t * W * beat.2-beat.1 * ((aN as n).b:Int) * W:=by grind
   rw [e5]
   exact h4
  have hk:∀(w:List Nat) (x:Nat),Wlk (aS as) (aG as) x w x→(∀n∈w,n<as.length)→(w.map (tN as)).sum * beat.2≤beat.1 * (w.map (bN as)).sum:=fun w x hx hn=>by
   have h5:=zh3 (T:=fun g=>top g * beat.2) (p:=(W * beat.1,W * beat.2)) hkk hx hn
   rw [zg0] at h5
   exact alg3 hW.1 (by dsimp only at h5; omega)
  have hcut:cutD (ns.map D.int) (some 30) (some 40)=((ns.drop 30).take 10).map D.int:=by
   have:=zd1 (ns.map D.int) 30 40
   rw [List.map_take,List.map_drop]
   exact this
  have hcl:((ns.drop 30).take 10).length≤10:=by rw [List.length_take]; omega
  generalize (ns.drop 30).take 10=cl at *
  have ad:addD (.lst [.int c3]) (.lst (cl.map .int))=some (.lst ((c3::cl).map .int)):=by rw [zd0 (by rw [List.length_map,List.length_singleton]; omega)]; rfl
  have lp:=zep (g:=gV 7) (b:=zek) D.int (fun _=>true) (fun ρ=>∃y7 y8 y9 y10 y11 y12,ρ=[some (.lst (ns.map .int)),some (.int (many:Int)),some (.lst (as.map encT)),some (netD (nm many) (as.map fun a=>mkA a a.s)),some (.int c),some (.tup [fr beat,.lst (is.map .int),.lst (frs' many fun g=>Fq.mk (top g) W)]),some (fr beat),y7,y8,y9,y10,y11,y12]) (.bl false) (c3::cl) [some (.lst (ns.map .int)),some (.int (many:Int)),some (.lst (as.map encT)),some (netD (nm many) (as.map fun a=>mkA a a.s)),some (.int c),some (.tup [fr beat,.lst (is.map .int),.lst (frs' many fun g=>Fq.mk (top g) W)]),some (fr beat),y7,y8,y9,y10,y11,y12] ⟨_,_,_,_,_,_,rfl⟩ (by
   rintro o _ ρ ⟨y7,y8,y9,y10,y11,y12,rfl⟩
   obtain ⟨z8,z9,z10,z11,z12,hz⟩:=zk3 (e0:=some (.lst (ns.map .int))) (e4:=some (.int c)) (e5:=some (.tup [fr beat,.lst (is.map .int),.lst (frs' many fun g=>Fq.mk (top g) W)])) (ns:=nm many) hm1 hm hnm hal had lb hb1 hb2 r1 hrb hre hk o y8 y9 y10 y11 y12
   exact ⟨_,rfl,.inl ⟨rfl,_,hz,_,_,_,_,_,_,rfl⟩⟩)
  rcases lp with ⟨_,ρ',lp,z7,z8,z9,z10,z11,z12,rfl⟩ | ⟨h1,_⟩
  ·refine ⟨some (.tup [fr beat,.lst (is.map .int),.lst (frs' many fun g=>Fq.mk (top g) W)]),some (fr beat),z7,z8,z9,z10,z11,z12,?_⟩
   have i0:∀a b c:D,ixD (.tup [a,b,c]) (.int 0)=some a:=fun _ _ _=>rfl
   have i0:=i0 (fr beat) (.lst (is.map .int)) (.lst (frs' many fun g=>Fq.mk (top g) W))
   clear h2 bb2 rk2 low hq htop hW his hb1 hb2 lb had hal hm hm1 hl hnm ok hk hkk hre hrb r1 r2 r3 s1 s2 s3 s4 hcl
   generalize (c3::cl).map D.int=cll at *
   generalize (D.tup [fr beat,.lst (is.map .int),.lst (frs' many fun g=>Fq.mk (top g) W)])=PD at *
   generalize netD (nm many) (as.map fun a=>mkA a a.s)=net at *
   generalize as.map encT=al at *
   generalize cl.map D.int=cd at *
   generalize fr beat=F at *
   unfold zcp
   walk_at "mir"
  ·have:(c3::cl).all (fun _=>true)=true:=by simp
   rw [this] at h1; cases h1
theorem zmy (ns:List Int) (hl:ns.length≤63):zpd [.lst (ns.map .int)]=some (.bl true):=by
 obtain ⟨c0,hc0⟩:=zhs ns 0 (by decide)
 obtain ⟨c1,hc1⟩:=zhs ns 1 (by decide)
 obtain ⟨c2,hc2⟩:=zhs ns 2 (by decide)
 obtain ⟨c3,hc3⟩:=zhs ns 3 (by decide)
 obtain ⟨many,hmany,hm1,hm8⟩:∃m:Nat,1+c0 % 8=(m:Int)∧1≤m∧m≤8:=⟨(1+c0 % 8).toNat,by omega,by omega,by omega⟩
 obtain ⟨mk,rk,hmk,hdr⟩:=drawn (c0 / 8) hm1 (by omega:many≤1000)
 generalize has:((ns.drop 4).take 16).map mk=as
 have hal:as.length≤16:=by rw [← has,List.length_map,List.length_take]; omega
 have had:∀a∈as,Drawn many rk a:=fun a ha=>by
  rw [← has] at ha
  obtain ⟨c,_,rfl⟩:=List.mem_map.mp ha
  exact hdr c
 have ok:=zrs (rk:=rk) (fun a=>(a.s:Int)) hm1 hm8 (as:=as) (by omega) had
 have hnm:(nm many).length=many:=by unfold nm; rw [List.length_map,List.length_range]
 have hnet:=zso ok hnm (zpk hm1 hm8)
 have k5:=zst (ns:=ns) (many:=many) hc0 hmk [some (.lst (ns.map .int)),some (.int (many:Int)),none,none,none,none,none,none,none,none,none,none,none] rfl rfl
 rw [has] at k5
 have k4:=zsu hm8 [some (.lst (ns.map .int)),some (.int (many:Int)),some (.lst (as.map encT)),none,none,none,none,none,none,none,none,none,none] rfl
 have k3:=zsv (as:=as) (by omega) [some (.lst (ns.map .int)),some (.int (many:Int)),some (.lst (as.map encT)),none,none,none,none,none,none,none,none,none,none] rfl
 have hcut:cutD (ns.map D.int) (some 20) (some 30)=((ns.drop 20).take 10).map D.int:=by
  have:=zd1 (ns.map D.int) 20 30
  rw [List.map_take,List.map_drop]
  exact this
 have hcl:((ns.drop 20).take 10).length≤10:=by rw [List.length_take]; omega
 generalize (ns.drop 20).take 10=cl at *
 have ad:addD (.lst [.int c1,.int c2]) (.lst (cl.map .int))=some (.lst ((c1::c2::cl).map .int)):=by rw [zd0 (by simp; omega)]; rfl
 have lp:=zep (g:=gV 4) (b:=zcp) D.int (fun _=>true) (fun ρ=>∃y4 y5 y6 y7 y8 y9 y10 y11 y12,ρ=[some (.lst (ns.map .int)),some (.int (many:Int)),some (.lst (as.map encT)),some (netD (nm many) (as.map fun a=>mkA a a.s)),y4,y5,y6,y7,y8,y9,y10,y11,y12]) (.bl false) (c1::c2::cl) [some (.lst (ns.map .int)),some (.int (many:Int)),some (.lst (as.map encT)),some (netD (nm many) (as.map fun a=>mkA a a.s)),none,none,none,none,none,none,none,none,none] ⟨_,_,_,_,_,_,_,_,_,rfl⟩ (by
  rintro c _ ρ ⟨y4,y5,y6,y7,y8,y9,y10,y11,y12,rfl⟩
  obtain ⟨z5,z6,z7,z8,z9,z10,z11,z12,hz⟩:=zk4 hl hc3 hm1 hm8 hal had ok hnm c y5 y6 y7 y8 y9 y10 y11 y12
  exact ⟨_,rfl,.inl ⟨rfl,_,hz,_,_,_,_,_,_,_,_,_,rfl⟩⟩)
 rcases lp with ⟨_,ρ',lp,y4,y5,y6,y7,y8,y9,y10,y11,y12,rfl⟩ | ⟨h1,_⟩
 ·clear hcl had ok hnm hal hm1 hm8 hl has hdr hmk hc3
  generalize (c1::c2::cl).map D.int=cll at *
  generalize netD (nm many) (as.map fun a=>mkA a a.s)=net at *
  generalize (as.map fun a=>mkA a a.s).map encA=mks at *
  generalize as.map encT=al at *
  generalize nm many=nml at *
  generalize cl.map D.int=cd at *
  unfold zpd
  walk_at "mir"
 ·have:(c1::c2::cl).all (fun _=>true)=true:=by simp
  rw [this] at h1; cases h1
section
variable {P:Program} {w:World} {K:PySem.W.Frag} {mg:Str→Option Value} {base:Heap} {a:Adr}
theorem zr4 (T:Txt K mg a):FnOk P w K mg base CX0 8 a.f_law a.d_law ["_law_script"] (spLaw K):=zq9 (zrk T) zmy
end
theorem all_mk {l:PySem.W.OpenLaw} {w:World} {K:PySem.W.Frag} {h:Heap} {mg:Str→Option Value} {fa f0 f1 f2 f3 f4 f5 f6 f7 f8 f9 f10 f11 f12 f13 f14 f15 f16 f17 f18 f19 f20 f21 f22 f23 f24 f25 f26 f27 f28 f29 f30 f31 f32 f33 f34 f35 f36 f37 f38 f39 f40 c_Arrow c_Ride c_Wait c_Back c_Net td2 td3:Addr} (X:K.In h) (G:h.Ns mainGlobals mg) (hfa:mg "law"=some (.ref fa))
  {od0 an0 od1 an1 od2 an2 od3 an3 od4 an4 od5 an5 od6 an6 od7 an7 od8 an8 od9 an9 od10 an10 od11 an11 od12 an12 od13 an13 od14 an14 od15 an15 od16 an16 od17 an17 od18 an18 od19 an19 od20 an20 od21 an21 od22 an22 od23 an23 od24 an24 od25 an25 od26 an26 od27 an27 od28 an28 od29 an29 od30 an30 od31 an31 od32 an32 od33 an33 od34 an34 od35 an35 od36 an36 od37 an37 od38 an38 od39 an39 od40 an40 tdd2 tdd3:Option Addr} {sl0 sl1 sl2 sl3 sl4 sl5 sl6 sl7 sl8 sl9 sl10 sl11 sl12 sl13 sl14 sl15 sl16 sl17 sl18 sl19 sl20 sl21 sl22 sl23 sl24 sl25 sl26 sl27 sl28 sl29 sl30 sl31 sl32 sl33 sl34 sl35 sl36 sl37 sl38 sl39 sl40 tsl2 tsl3:Array (Option Value)} {oc0 kV0 dc0 pm0 cd0 ct0 oc1 kV1 dc1 pm1 cd1 ct1 oc2 kV2 dc2 pm2 cd2 ct2 oc3 kV3 dc3 pm3 cd3 ct3 oc4 kV4 dc4 pm4 cd4 ct4 oc5 kV5 dc5 pm5 cd5 ct5 oc6 kV6 dc6 pm6 cd6 ct6 oc7 kV7 dc7 pm7 cd7 ct7 oc8 kV8 dc8 pm8 cd8 ct8 oc9 kV9 dc9 pm9 cd9 ct9 oc10 kV10 dc10 pm10 cd10 ct10 oc11 kV11 dc11 pm11 cd11 ct11 oc12 kV12 dc12 pm12 cd12 ct12 oc13 kV13 dc13 pm13 cd13 ct13 oc14 kV14 dc14 pm14 cd14 ct14 oc15 kV15 dc15 pm15 cd15 ct15 oc16 kV16 dc16 pm16 cd16 ct16 oc17 kV17 dc17 pm17 cd17 ct17 oc18 kV18 dc18 pm18 cd18 ct18 oc19 kV19 dc19 pm19 cd19 ct19 oc20 kV20 dc20 pm20 cd20 ct20 oc21 kV21 dc21 pm21 cd21 ct21 oc22 kV22 dc22 pm22 cd22 ct22 oc23 kV23 dc23 pm23 cd23 ct23 oc24 kV24 dc24 pm24 cd24 ct24 oc25 kV25 dc25 pm25 cd25 ct25 oc26 kV26 dc26 pm26 cd26 ct26 oc27 kV27 dc27 pm27 cd27 ct27 oc28 kV28 dc28 pm28 cd28 ct28 oc29 kV29 dc29 pm29 cd29 ct29 oc30 kV30 dc30 pm30 cd30 ct30 oc31 kV31 dc31 pm31 cd31 ct31 oc32 kV32 dc32 pm32 cd32 ct32 oc33 kV33 dc33 pm33 cd33 ct33 oc34 kV34 dc34 pm34 cd34 ct34 oc35 kV35 dc35 pm35 cd35 ct35 oc36 kV36 dc36 pm36 cd36 ct36 oc37 kV37 dc37 pm37 cd37 ct37 oc38 kV38 dc38 pm38 cd38 ct38 oc39 kV39 dc39 pm39 cd39 ct39 oc40 kV40 dc40 pm40 cd40 ct40 tc2 tc3:Value} {tk2_0 tk3_0 gt0 gt1 gt2 gt3 gt4:Tok} {tn2 tn3:Nat}
  (aC_Arrow:PySem.W.nsIn K mainGlobals "Arrow"=some (some (.ref c_Arrow))) (pg_Arrow:PySem.W.plainGet K c_Arrow Str.empty=true) (hd_Arrow:PySem.W.hasDictIn K c_Arrow=true) (po_Arrow:PySem.W.plainOver K c_Arrow=true) (sa_Arrow:PySem.W.findIn K (.ref c_Arrow) "__setattr__"=some (some (.builtin "object.__setattr__"))) (mk_Arrow:PySem.W.makesIn K c_Arrow=true) (kc_Arrow:PySem.W.keepIn K (.ref c_Arrow)=true)
  (aC_Ride:PySem.W.nsIn K mainGlobals "Ride"=some (some (.ref c_Ride))) (pg_Ride:PySem.W.plainGet K c_Ride Str.empty=true) (hd_Ride:PySem.W.hasDictIn K c_Ride=true) (po_Ride:PySem.W.plainOver K c_Ride=true) (sa_Ride:PySem.W.findIn K (.ref c_Ride) "__setattr__"=some (some (.builtin "object.__setattr__"))) (mk_Ride:PySem.W.makesIn K c_Ride=true) (kc_Ride:PySem.W.keepIn K (.ref c_Ride)=true)
  (aC_Wait:PySem.W.nsIn K mainGlobals "Wait"=some (some (.ref c_Wait))) (pg_Wait:PySem.W.plainGet K c_Wait Str.empty=true) (hd_Wait:PySem.W.hasDictIn K c_Wait=true) (po_Wait:PySem.W.plainOver K c_Wait=true) (sa_Wait:PySem.W.findIn K (.ref c_Wait) "__setattr__"=some (some (.builtin "object.__setattr__"))) (mk_Wait:PySem.W.makesIn K c_Wait=true) (kc_Wait:PySem.W.keepIn K (.ref c_Wait)=true)
  (aC_Back:PySem.W.nsIn K mainGlobals "Back"=some (some (.ref c_Back))) (pg_Back:PySem.W.plainGet K c_Back Str.empty=true) (hd_Back:PySem.W.hasDictIn K c_Back=true) (po_Back:PySem.W.plainOver K c_Back=true) (sa_Back:PySem.W.findIn K (.ref c_Back) "__setattr__"=some (some (.builtin "object.__setattr__"))) (mk_Back:PySem.W.makesIn K c_Back=true) (kc_Back:PySem.W.keepIn K (.ref c_Back)=true)
  (aC_Net:PySem.W.nsIn K mainGlobals "Net"=some (some (.ref c_Net))) (pg_Net:PySem.W.plainGet K c_Net Str.empty=true) (hd_Net:PySem.W.hasDictIn K c_Net=true) (po_Net:PySem.W.plainOver K c_Net=true) (sa_Net:PySem.W.findIn K (.ref c_Net) "__setattr__"=some (some (.builtin "object.__setattr__"))) (mk_Net:PySem.W.makesIn K c_Net=true) (kc_Net:PySem.W.keepIn K (.ref c_Net)=true)
  (a0:PySem.W.findIn K (.ref c_Arrow) "__init__"=some (some (.ref f0))) (i0:PySem.W.isFn K (.ref f0)=true)
  (l0:K.lookup f0=some ⟨oc0,od0,.func (PySem.W.fnOf "__init__" "Arrow.__init__" (defArgs yq) (defBody yq) (defScope yq) .none kV0 dc0 pm0 an0 cd0 ct0),sl0⟩) (c0:PySem.W.codeIn K cd0 "Arrow.__init__"=true) (k0:PySem.W.keepIn K (.ref f0)=true)
  (a1:PySem.W.findIn K (.ref c_Ride) "__init__"=some (some (.ref f1))) (i1:PySem.W.isFn K (.ref f1)=true)
  (l1:K.lookup f1=some ⟨oc1,od1,.func (PySem.W.fnOf "__init__" "Ride.__init__" (defArgs yw) (defBody yw) (defScope yw) .none kV1 dc1 pm1 an1 cd1 ct1),sl1⟩) (c1:PySem.W.codeIn K cd1 "Ride.__init__"=true) (k1:PySem.W.keepIn K (.ref f1)=true)
  (a2:PySem.W.findIn K (.ref c_Wait) "__init__"=some (some (.ref f2))) (i2:PySem.W.isFn K (.ref f2)=true)
  (l2:K.lookup f2=some ⟨oc2,od2,.func (PySem.W.fnOf "__init__" "Wait.__init__" (defArgs yf) (defBody yf) (defScope yf) (.ref td2) kV2 dc2 pm2 an2 cd2 ct2),sl2⟩) (c2:PySem.W.codeIn K cd2 "Wait.__init__"=true) (k2:PySem.W.keepIn K (.ref f2)=true)
  (t2:K.lookup td2=some ⟨tc2,tdd2,.seq #[.int 0 tk2_0] tn2,tsl2⟩)
  (a3:PySem.W.findIn K (.ref c_Back) "__init__"=some (some (.ref f3))) (i3:PySem.W.isFn K (.ref f3)=true)
  (l3:K.lookup f3=some ⟨oc3,od3,.func (PySem.W.fnOf "__init__" "Back.__init__" (defArgs yg) (defBody yg) (defScope yg) (.ref td3) kV3 dc3 pm3 an3 cd3 ct3),sl3⟩) (c3:PySem.W.codeIn K cd3 "Back.__init__"=true) (k3:PySem.W.keepIn K (.ref f3)=true)
  (t3:K.lookup td3=some ⟨tc3,tdd3,.seq #[.int 1 tk3_0] tn3,tsl3⟩)
  (a4:PySem.W.nsIn K mainGlobals "is_letter"=some (some (.ref f4)))
  (l4:K.lookup f4=some ⟨oc4,od4,.func (PySem.W.fnOf "is_letter" "is_letter" (defArgs xw) (defBody xw) (defScope xw) .none kV4 dc4 pm4 an4 cd4 ct4),sl4⟩) (c4:PySem.W.codeIn K cd4 "is_letter"=true) (k4:PySem.W.keepIn K (.ref f4)=true)
  (a5:PySem.W.nsIn K mainGlobals "is_figure"=some (some (.ref f5)))
  (l5:K.lookup f5=some ⟨oc5,od5,.func (PySem.W.fnOf "is_figure" "is_figure" (defArgs xy) (defBody xy) (defScope xy) .none kV5 dc5 pm5 an5 cd5 ct5),sl5⟩) (c5:PySem.W.codeIn K cd5 "is_figure"=true) (k5:PySem.W.keepIn K (.ref f5)=true)
  (a6:PySem.W.nsIn K mainGlobals "is_name"=some (some (.ref f6)))
  (l6:K.lookup f6=some ⟨oc6,od6,.func (PySem.W.fnOf "is_name" "is_name" (defArgs w9) (defBody w9) (defScope w9) .none kV6 dc6 pm6 an6 cd6 ct6),sl6⟩) (c6:PySem.W.codeIn K cd6 "is_name"=true) (k6:PySem.W.keepIn K (.ref f6)=true)
  (a7:PySem.W.nsIn K mainGlobals "are_names"=some (some (.ref f7)))
  (l7:K.lookup f7=some ⟨oc7,od7,.func (PySem.W.fnOf "are_names" "are_names" (defArgs xz) (defBody xz) (defScope xz) .none kV7 dc7 pm7 an7 cd7 ct7),sl7⟩) (c7:PySem.W.codeIn K cd7 "are_names"=true) (k7:PySem.W.keepIn K (.ref f7)=true)
  (a8:PySem.W.nsIn K mainGlobals "lies_within"=some (some (.ref f8)))
  (l8:K.lookup f8=some ⟨oc8,od8,.func (PySem.W.fnOf "lies_within" "lies_within" (defArgs yx) (defBody yx) (defScope yx) .none kV8 dc8 pm8 an8 cd8 ct8),sl8⟩) (c8:PySem.W.codeIn K cd8 "lies_within"=true) (k8:PySem.W.keepIn K (.ref f8)=true)
  (a9:PySem.W.nsIn K mainGlobals "is_right"=some (some (.ref f9)))
  (l9:K.lookup f9=some ⟨oc9,od9,.func (PySem.W.fnOf "is_right" "is_right" (defArgs wm) (defBody wm) (defScope wm) .none kV9 dc9 pm9 an9 cd9 ct9),sl9⟩) (c9:PySem.W.codeIn K cd9 "is_right"=true) (k9:PySem.W.keepIn K (.ref f9)=true)
  (a10:PySem.W.nsIn K mainGlobals "placed_goings"=some (some (.ref f10)))
  (l10:K.lookup f10=some ⟨oc10,od10,.func (PySem.W.fnOf "placed_goings" "placed_goings" (defArgs yi) (defBody yi) (defScope yi) .none kV10 dc10 pm10 an10 cd10 ct10),sl10⟩) (c10:PySem.W.codeIn K cd10 "placed_goings"=true) (k10:PySem.W.keepIn K (.ref f10)=true)
  (a11:PySem.W.nsIn K mainGlobals "ring_back_from"=some (some (.ref f11)))
  (l11:K.lookup f11=some ⟨oc11,od11,.func (PySem.W.fnOf "ring_back_from" "ring_back_from" (defArgs zy) (defBody zy) (defScope zy) .none kV11 dc11 pm11 an11 cd11 ct11),sl11⟩) (c11:PySem.W.codeIn K cd11 "ring_back_from"=true) (k11:PySem.W.keepIn K (.ref f11)=true)
  (a12:PySem.W.findIn K (.ref c_Net) "__init__"=some (some (.ref f12))) (i12:PySem.W.isFn K (.ref f12)=true)
  (l12:K.lookup f12=some ⟨oc12,od12,.func (PySem.W.fnOf "__init__" "Net.__init__" (defArgs xj) (defBody xj) (defScope xj) .none kV12 dc12 pm12 an12 cd12 ct12),sl12⟩) (c12:PySem.W.codeIn K cd12 "Net.__init__"=true) (k12:PySem.W.keepIn K (.ref f12)=true)
  (a13:PySem.W.nsIn K mainGlobals "common_divisor"=some (some (.ref f13)))
  (l13:K.lookup f13=some ⟨oc13,od13,.func (PySem.W.fnOf "common_divisor" "common_divisor" (defArgs zz) (defBody zz) (defScope zz) .none kV13 dc13 pm13 an13 cd13 ct13),sl13⟩) (c13:PySem.W.codeIn K cd13 "common_divisor"=true) (k13:PySem.W.keepIn K (.ref f13)=true)
  (a14:PySem.W.nsIn K mainGlobals "ratio"=some (some (.ref f14)))
  (l14:K.lookup f14=some ⟨oc14,od14,.func (PySem.W.fnOf "ratio" "ratio" (defArgs uw) (defBody uw) (defScope uw) .none kV14 dc14 pm14 an14 cd14 ct14),sl14⟩) (c14:PySem.W.codeIn K cd14 "ratio"=true) (k14:PySem.W.keepIn K (.ref f14)=true)
  (a15:PySem.W.nsIn K mainGlobals "scaled"=some (some (.ref f15)))
  (l15:K.lookup f15=some ⟨oc15,od15,.func (PySem.W.fnOf "scaled" "scaled" (defArgs vp) (defBody vp) (defScope vp) .none kV15 dc15 pm15 an15 cd15 ct15),sl15⟩) (c15:PySem.W.codeIn K cd15 "scaled"=true) (k15:PySem.W.keepIn K (.ref f15)=true)
  (a16:PySem.W.nsIn K mainGlobals "plus"=some (some (.ref f16)))
  (l16:K.lookup f16=some ⟨oc16,od16,.func (PySem.W.fnOf "plus" "plus" (defArgs qc) (defBody qc) (defScope qc) .none kV16 dc16 pm16 an16 cd16 ct16),sl16⟩) (c16:PySem.W.codeIn K cd16 "plus"=true) (k16:PySem.W.keepIn K (.ref f16)=true)
  (a17:PySem.W.nsIn K mainGlobals "minus"=some (some (.ref f17)))
  (l17:K.lookup f17=some ⟨oc17,od17,.func (PySem.W.fnOf "minus" "minus" (defArgs ux) (defBody ux) (defScope ux) .none kV17 dc17 pm17 an17 cd17 ct17),sl17⟩) (c17:PySem.W.codeIn K cd17 "minus"=true) (k17:PySem.W.keepIn K (.ref f17)=true)
  (a18:PySem.W.nsIn K mainGlobals "under"=some (some (.ref f18)))
  (l18:K.lookup f18=some ⟨oc18,od18,.func (PySem.W.fnOf "under" "under" (defArgs uz) (defBody uz) (defScope uz) .none kV18 dc18 pm18 an18 cd18 ct18),sl18⟩) (c18:PySem.W.codeIn K cd18 "under"=true) (k18:PySem.W.keepIn K (.ref f18)=true)
  (a19:PySem.W.nsIn K mainGlobals "is_ring"=some (some (.ref f19)))
  (l19:K.lookup f19=some ⟨oc19,od19,.func (PySem.W.fnOf "is_ring" "is_ring" (defArgs vb) (defBody vb) (defScope vb) .none kV19 dc19 pm19 an19 cd19 ct19),sl19⟩) (c19:PySem.W.codeIn K cd19 "is_ring"=true) (k19:PySem.W.keepIn K (.ref f19)=true)
  (a20:PySem.W.nsIn K mainGlobals "mean"=some (some (.ref f20)))
  (l20:K.lookup f20=some ⟨oc20,od20,.func (PySem.W.fnOf "mean" "mean" (defArgs qd) (defBody qd) (defScope qd) .none kV20 dc20 pm20 an20 cd20 ct20),sl20⟩) (c20:PySem.W.codeIn K cd20 "mean"=true) (k20:PySem.W.keepIn K (.ref f20)=true)
  (a21:PySem.W.nsIn K mainGlobals "is_kept"=some (some (.ref f21)))
  (l21:K.lookup f21=some ⟨oc21,od21,.func (PySem.W.fnOf "is_kept" "is_kept" (defArgs vc) (defBody vc) (defScope vc) .none kV21 dc21 pm21 an21 cd21 ct21),sl21⟩) (c21:PySem.W.codeIn K cd21 "is_kept"=true) (k21:PySem.W.keepIn K (.ref f21)=true)
  (a22:PySem.W.nsIn K mainGlobals "fits"=some (some (.ref f22)))
  (l22:K.lookup f22=some ⟨oc22,od22,.func (PySem.W.fnOf "fits" "fits" (defArgs qf) (defBody qf) (defScope qf) .none kV22 dc22 pm22 an22 cd22 ct22),sl22⟩) (c22:PySem.W.codeIn K cd22 "fits"=true) (k22:PySem.W.keepIn K (.ref f22)=true)
  (a23:PySem.W.nsIn K mainGlobals "push_once"=some (some (.ref f23)))
  (l23:K.lookup f23=some ⟨oc23,od23,.func (PySem.W.fnOf "push_once" "push_once" (defArgs x6) (defBody x6) (defScope x6) .none kV23 dc23 pm23 an23 cd23 ct23),sl23⟩) (c23:PySem.W.codeIn K cd23 "push_once"=true) (k23:PySem.W.keepIn K (.ref f23)=true)
  (a24:PySem.W.nsIn K mainGlobals "times_or_ring_along"=some (some (.ref f24)))
  (l24:K.lookup f24=some ⟨oc24,od24,.func (PySem.W.fnOf "times_or_ring_along" "times_or_ring_along" (defArgs zk) (defBody zk) (defScope zk) .none kV24 dc24 pm24 an24 cd24 ct24),sl24⟩) (c24:PySem.W.codeIn K cd24 "times_or_ring_along"=true) (k24:PySem.W.keepIn K (.ref f24)=true)
  (a25:PySem.W.nsIn K mainGlobals "times_or_ring"=some (some (.ref f25)))
  (l25:K.lookup f25=some ⟨oc25,od25,.func (PySem.W.fnOf "times_or_ring" "times_or_ring" (defArgs yj) (defBody yj) (defScope yj) .none kV25 dc25 pm25 an25 cd25 ct25),sl25⟩) (c25:PySem.W.codeIn K cd25 "times_or_ring"=true) (k25:PySem.W.keepIn K (.ref f25)=true)
  (a26:PySem.W.nsIn K mainGlobals "has_mean"=some (some (.ref f26)))
  (l26:K.lookup f26=some ⟨oc26,od26,.func (PySem.W.fnOf "has_mean" "has_mean" (defArgs wn) (defBody wn) (defScope wn) .none kV26 dc26 pm26 an26 cd26 ct26),sl26⟩) (c26:PySem.W.codeIn K cd26 "has_mean"=true) (k26:PySem.W.keepIn K (.ref f26)=true)
  (a27:PySem.W.nsIn K mainGlobals "holds"=some (some (.ref f27)))
  (l27:K.lookup f27=some ⟨oc27,od27,.func (PySem.W.fnOf "holds" "holds" (defArgs u0) (defBody u0) (defScope u0) .none kV27 dc27 pm27 an27 cd27 ct27),sl27⟩) (c27:PySem.W.codeIn K cd27 "holds"=true) (k27:PySem.W.keepIn K (.ref f27)=true)
  (a28:PySem.W.nsIn K mainGlobals "_law_cell_at"=some (some (.ref f28)))
  (l28:K.lookup f28=some ⟨oc28,od28,.func (PySem.W.fnOf "_law_cell_at" "_law_cell_at" (defArgs yy) (defBody yy) (defScope yy) .none kV28 dc28 pm28 an28 cd28 ct28),sl28⟩) (c28:PySem.W.codeIn K cd28 "_law_cell_at"=true) (k28:PySem.W.keepIn K (.ref f28)=true)
  (a29:PySem.W.nsIn K mainGlobals "_law_is_row"=some (some (.ref f29)))
  (l29:K.lookup f29=some ⟨oc29,od29,.func (PySem.W.fnOf "_law_is_row" "_law_is_row" (defArgs xk) (defBody xk) (defScope xk) .none kV29 dc29 pm29 an29 cd29 ct29),sl29⟩) (c29:PySem.W.codeIn K cd29 "_law_is_row"=true) (k29:PySem.W.keepIn K (.ref f29)=true)
  (a30:PySem.W.nsIn K mainGlobals "_law_mixed"=some (some (.ref f30)))
  (l30:K.lookup f30=some ⟨oc30,od30,.func (PySem.W.fnOf "_law_mixed" "_law_mixed" (defArgs x8) (defBody x8) (defScope x8) .none kV30 dc30 pm30 an30 cd30 ct30),sl30⟩) (c30:PySem.W.codeIn K cd30 "_law_mixed"=true) (k30:PySem.W.keepIn K (.ref f30)=true)
  (a31:PySem.W.nsIn K mainGlobals "_law_rank"=some (some (.ref f31)))
  (l31:K.lookup f31=some ⟨oc31,od31,.func (PySem.W.fnOf "_law_rank" "_law_rank" (defArgs wo) (defBody wo) (defScope wo) .none kV31 dc31 pm31 an31 cd31 ct31),sl31⟩) (c31:PySem.W.codeIn K cd31 "_law_rank"=true) (k31:PySem.W.keepIn K (.ref f31)=true)
  (a32:PySem.W.nsIn K mainGlobals "_law_arrow"=some (some (.ref f32)))
  (l32:K.lookup f32=some ⟨oc32,od32,.func (PySem.W.fnOf "_law_arrow" "_law_arrow" (defArgs x9) (defBody x9) (defScope x9) .none kV32 dc32 pm32 an32 cd32 ct32),sl32⟩) (c32:PySem.W.codeIn K cd32 "_law_arrow"=true) (k32:PySem.W.keepIn K (.ref f32)=true)
  (a33:PySem.W.nsIn K mainGlobals "_law_made"=some (some (.ref f33)))
  (l33:K.lookup f33=some ⟨oc33,od33,.func (PySem.W.fnOf "_law_made" "_law_made" (defArgs wp) (defBody wp) (defScope wp) .none kV33 dc33 pm33 an33 cd33 ct33),sl33⟩) (c33:PySem.W.codeIn K cd33 "_law_made"=true) (k33:PySem.W.keepIn K (.ref f33)=true)
  (a34:PySem.W.nsIn K mainGlobals "_law_lowest"=some (some (.ref f34)))
  (l34:K.lookup f34=some ⟨oc34,od34,.func (PySem.W.fnOf "_law_lowest" "_law_lowest" (defArgs xl) (defBody xl) (defScope xl) .none kV34 dc34 pm34 an34 cd34 ct34),sl34⟩) (c34:PySem.W.codeIn K cd34 "_law_lowest"=true) (k34:PySem.W.keepIn K (.ref f34)=true)
  (a35:PySem.W.nsIn K mainGlobals "_law_found"=some (some (.ref f35)))
  (l35:K.lookup f35=some ⟨oc35,od35,.func (PySem.W.fnOf "_law_found" "_law_found" (defArgs wa) (defBody wa) (defScope wa) .none kV35 dc35 pm35 an35 cd35 ct35),sl35⟩) (c35:PySem.W.codeIn K cd35 "_law_found"=true) (k35:PySem.W.keepIn K (.ref f35)=true)
  (a36:PySem.W.nsIn K mainGlobals "_law_sums"=some (some (.ref f36)))
  (l36:K.lookup f36=some ⟨oc36,od36,.func (PySem.W.fnOf "_law_sums" "_law_sums" (defArgs wq) (defBody wq) (defScope wq) .none kV36 dc36 pm36 an36 cd36 ct36),sl36⟩) (c36:PySem.W.codeIn K cd36 "_law_sums"=true) (k36:PySem.W.keepIn K (.ref f36)=true)
  (a37:PySem.W.nsIn K mainGlobals "_law_pushed"=some (some (.ref f37)))
  (l37:K.lookup f37=some ⟨oc37,od37,.func (PySem.W.fnOf "_law_pushed" "_law_pushed" (defArgs xm) (defBody xm) (defScope xm) .none kV37 dc37 pm37 an37 cd37 ct37),sl37⟩) (c37:PySem.W.codeIn K cd37 "_law_pushed"=true) (k37:PySem.W.keepIn K (.ref f37)=true)
  (a38:PySem.W.nsIn K mainGlobals "_law_paper"=some (some (.ref f38)))
  (l38:K.lookup f38=some ⟨oc38,od38,.func (PySem.W.fnOf "_law_paper" "_law_paper" (defArgs wb) (defBody wb) (defScope wb) .none kV38 dc38 pm38 an38 cd38 ct38),sl38⟩) (c38:PySem.W.codeIn K cd38 "_law_paper"=true) (k38:PySem.W.keepIn K (.ref f38)=true)
  (a39:PySem.W.nsIn K mainGlobals "_law_asked"=some (some (.ref f39)))
  (l39:K.lookup f39=some ⟨oc39,od39,.func (PySem.W.fnOf "_law_asked" "_law_asked" (defArgs wc) (defBody wc) (defScope wc) .none kV39 dc39 pm39 an39 cd39 ct39),sl39⟩) (c39:PySem.W.codeIn K cd39 "_law_asked"=true) (k39:PySem.W.keepIn K (.ref f39)=true)
  (a40:PySem.W.nsIn K mainGlobals "law"=some (some (.ref f40)))
  (l40:K.lookup f40=some ⟨oc40,od40,.func (PySem.W.fnOf "law" "law" (defArgs zao) (defBody zao) (defScope zao) .none kV40 dc40 pm40 an40 cd40 ct40),sl40⟩) (c40:PySem.W.codeIn K cd40 "law"=true) (k40:PySem.W.keepIn K (.ref f40)=true)
  (qs_Arrow:PySem.W.specialIn K (.ref c_Arrow) "__getattribute__"=some (some (.builtin "type.__getattribute__"))) (qr_Arrow:PySem.W.readsIn K c_Arrow (.type "type")=true) (qf_Arrow:PySem.W.findCls K (.ref c_Arrow) (.type "type") "__init__"=some (.val (.ref f0)))
  (n_Net_arrows:PySem.W.findIn K (.ref c_Net) "arrows"=some none)
  (n_Arrow_behind:PySem.W.findIn K (.ref c_Arrow) "behind"=some none)
  (n_Ride_behind:PySem.W.findIn K (.ref c_Ride) "behind"=some none)
  (n_Wait_behind:PySem.W.findIn K (.ref c_Wait) "behind"=some none)
  (n_Back_behind:PySem.W.findIn K (.ref c_Back) "behind"=some none)
  (n_Arrow_goal:PySem.W.findIn K (.ref c_Arrow) "goal"=some none)
  (n_Ride_goal:PySem.W.findIn K (.ref c_Ride) "goal"=some none)
  (n_Wait_goal:PySem.W.findIn K (.ref c_Wait) "goal"=some none)
  (n_Back_goal:PySem.W.findIn K (.ref c_Back) "goal"=some none)
  (n_Net_names:PySem.W.findIn K (.ref c_Net) "names"=some none)
  (n_Arrow_start:PySem.W.findIn K (.ref c_Arrow) "start"=some none)
  (n_Ride_start:PySem.W.findIn K (.ref c_Ride) "start"=some none)
  (n_Wait_start:PySem.W.findIn K (.ref c_Wait) "start"=some none)
  (n_Back_start:PySem.W.findIn K (.ref c_Back) "start"=some none)
  (n_Arrow_time:PySem.W.findIn K (.ref c_Arrow) "time"=some none)
  (n_Ride_time:PySem.W.findIn K (.ref c_Ride) "time"=some none)
  (n_Wait_time:PySem.W.findIn K (.ref c_Wait) "time"=some none)
  (n_Back_time:PySem.W.findIn K (.ref c_Back) "time"=some none)
  (ign:PySem.W.specialIn K (.builtin "object.__class__") "__get__"=some (some (.builtin "getset_descriptor.__get__"))) (igt:PySem.W.takesIn K (.builtin "object.__class__")=some true)
  (iga_Arrow:PySem.W.findIn K (.ref c_Arrow) "__class__"=some (some (.builtin "object.__class__"))) (igm_Arrow:PySem.W.mroIn K c_Arrow (.type "object")=some true)
  (kit_Arrow_Back:PySem.W.kitOne K (.ref c_Arrow) (.ref c_Back)=some false)
  (kit_Arrow_Ride:PySem.W.kitOne K (.ref c_Arrow) (.ref c_Ride)=some false)
  (iga_Ride:PySem.W.findIn K (.ref c_Ride) "__class__"=some (some (.builtin "object.__class__"))) (igm_Ride:PySem.W.mroIn K c_Ride (.type "object")=some true)
  (kit_Ride_Back:PySem.W.kitOne K (.ref c_Ride) (.ref c_Back)=some false)
  (kit_Ride_Ride:PySem.W.kitOne K (.ref c_Ride) (.ref c_Ride)=some true)
  (iga_Wait:PySem.W.findIn K (.ref c_Wait) "__class__"=some (some (.builtin "object.__class__"))) (igm_Wait:PySem.W.mroIn K c_Wait (.type "object")=some true)
  (kit_Wait_Back:PySem.W.kitOne K (.ref c_Wait) (.ref c_Back)=some false)
  (kit_Wait_Ride:PySem.W.kitOne K (.ref c_Wait) (.ref c_Ride)=some false)
  (iga_Back:PySem.W.findIn K (.ref c_Back) "__class__"=some (some (.builtin "object.__class__"))) (igm_Back:PySem.W.mroIn K c_Back (.type "object")=some true)
  (kit_Back_Back:PySem.W.kitOne K (.ref c_Back) (.ref c_Back)=some true)
  (kit_Back_Ride:PySem.W.kitOne K (.ref c_Back) (.ref c_Ride)=some false)
  (iga_Net:PySem.W.findIn K (.ref c_Net) "__class__"=some (some (.builtin "object.__class__"))) (igm_Net:PySem.W.mroIn K c_Net (.type "object")=some true)
  (kit_Net_Back:PySem.W.kitOne K (.ref c_Net) (.ref c_Back)=some false)
  (kit_Net_Ride:PySem.W.kitOne K (.ref c_Net) (.ref c_Ride)=some false)
  (z0:PySem.W.nsIn K mainGlobals "abs"=some none)
  (z1:PySem.W.nsIn K mainGlobals "all"=some none)
  (z2:PySem.W.nsIn K mainGlobals "bool"=some none)
  (z3:PySem.W.nsIn K mainGlobals "enumerate"=some none)
  (z4:PySem.W.nsIn K mainGlobals "int"=some none)
  (z5:PySem.W.nsIn K mainGlobals "isinstance"=some none)
  (z6:PySem.W.nsIn K mainGlobals "len"=some none)
  (z7:PySem.W.nsIn K mainGlobals "list"=some none)
  (z8:PySem.W.nsIn K mainGlobals "max"=some none)
  (z9:PySem.W.nsIn K mainGlobals "min"=some none)
  (z10:PySem.W.nsIn K mainGlobals "range"=some none)
  (z11:PySem.W.nsIn K mainGlobals "reversed"=some none)
  (z12:PySem.W.nsIn K mainGlobals "set"=some none)
  (z13:PySem.W.nsIn K mainGlobals "str"=some none)
  (z14:PySem.W.nsIn K mainGlobals "sum"=some none)
  (gc0:PySem.W.nsIn K mainGlobals "MOST_ARROWS"=some (some (.int 120 gt0)))
  (gc1:PySem.W.nsIn K mainGlobals "MOST_BEHIND"=some (some (.int 4 gt1)))
  (gc2:PySem.W.nsIn K mainGlobals "MOST_NAMES"=some (some (.int 40 gt2)))
  (gc3:PySem.W.nsIn K mainGlobals "MOST_SIGNS"=some (some (.int 8 gt3)))
  (gc4:PySem.W.nsIn K mainGlobals "MOST_TIME"=some (some (.int 1000000000 gt4))) :
  ∃fd:FuncData,(∀(s:Shared) (v:Value),BindsTo s fd ⟨[v],[]⟩ [("_law_script",v)])∧∀base:Heap,K.In base→base.Ns mainGlobals mg→FnOk l.prog w K mg base CX0 8 fa fd ["_law_script"] (spLaw K):=by
 have e:=hfa.symm.trans (PySem.W.mg_of X G a40)
 cases e
 have F0:=ya (st:=yq) l0 c0 k0
 have b0:Binds K (PySem.W.fnOf "__init__" "Arrow.__init__" (defArgs yq) (defBody yq) (defScope yq) .none kV0 dc0 pm0 an0 cd0 ct0) ["self","start","goal","time","behind"] []:=.all fun us hl=>match us,hl with | [_,_,_,_,_],_=>rfl
 have F1:=ya (st:=yw) l1 c1 k1
 have b1:Binds K (PySem.W.fnOf "__init__" "Ride.__init__" (defArgs yw) (defBody yw) (defScope yw) .none kV1 dc1 pm1 an1 cd1 ct1) ["self","start","goal","time"] []:=.all fun us hl=>match us,hl with | [_,_,_,_],_=>rfl
 have F2:=ya (st:=yf) l2 c2 k2
 have b2:Binds K (PySem.W.fnOf "__init__" "Wait.__init__" (defArgs yf) (defBody yf) (defScope yf) (.ref td2) kV2 dc2 pm2 an2 cd2 ct2) ["self","start","goal","time","behind"] []:=zd6 (T:=td2) rfl t2 rfl fun us hl=>by
  have hl:us.length=5:=by simpa using hl
  exact match us,hl with | [_,_,_,_,_],_=>⟨_,rfl,rfl⟩
 have b2_1:Binds K (PySem.W.fnOf "__init__" "Wait.__init__" (defArgs yf) (defBody yf) (defScope yf) (.ref td2) kV2 dc2 pm2 an2 cd2 ct2) ["self","start","goal","time","behind"] [.int 0 tk2_0]:=zd6 (T:=td2) rfl t2 rfl fun us hl=>by
  have hl:us.length=4:=by simpa using hl
  exact match us,hl with | [_,_,_,_],_=>⟨_,rfl,rfl⟩
 have F3:=ya (st:=yg) l3 c3 k3
 have b3:Binds K (PySem.W.fnOf "__init__" "Back.__init__" (defArgs yg) (defBody yg) (defScope yg) (.ref td3) kV3 dc3 pm3 an3 cd3 ct3) ["self","start","goal","time","behind"] []:=zd6 (T:=td3) rfl t3 rfl fun us hl=>by
  have hl:us.length=5:=by simpa using hl
  exact match us,hl with | [_,_,_,_,_],_=>⟨_,rfl,rfl⟩
 have b3_1:Binds K (PySem.W.fnOf "__init__" "Back.__init__" (defArgs yg) (defBody yg) (defScope yg) (.ref td3) kV3 dc3 pm3 an3 cd3 ct3) ["self","start","goal","time","behind"] [.int 1 tk3_0]:=zd6 (T:=td3) rfl t3 rfl fun us hl=>by
  have hl:us.length=4:=by simpa using hl
  exact match us,hl with | [_,_,_,_],_=>⟨_,rfl,rfl⟩
 have F4:=ya (st:=xw) l4 c4 k4
 have b4:Binds K (PySem.W.fnOf "is_letter" "is_letter" (defArgs xw) (defBody xw) (defScope xw) .none kV4 dc4 pm4 an4 cd4 ct4) ["sign"] []:=.all fun us hl=>match us,hl with | [_],_=>rfl
 have F5:=ya (st:=xy) l5 c5 k5
 have b5:Binds K (PySem.W.fnOf "is_figure" "is_figure" (defArgs xy) (defBody xy) (defScope xy) .none kV5 dc5 pm5 an5 cd5 ct5) ["sign"] []:=.all fun us hl=>match us,hl with | [_],_=>rfl
 have F6:=ya (st:=w9) l6 c6 k6
 have b6:Binds K (PySem.W.fnOf "is_name" "is_name" (defArgs w9) (defBody w9) (defScope w9) .none kV6 dc6 pm6 an6 cd6 ct6) ["word"] []:=.all fun us hl=>match us,hl with | [_],_=>rfl
 have F7:=ya (st:=xz) l7 c7 k7
 have b7:Binds K (PySem.W.fnOf "are_names" "are_names" (defArgs xz) (defBody xz) (defScope xz) .none kV7 dc7 pm7 an7 cd7 ct7) ["names"] []:=.all fun us hl=>match us,hl with | [_],_=>rfl
 have F8:=ya (st:=yx) l8 c8 k8
 have b8:Binds K (PySem.W.fnOf "lies_within" "lies_within" (defArgs yx) (defBody yx) (defScope yx) .none kV8 dc8 pm8 an8 cd8 ct8) ["number","least","most"] []:=.all fun us hl=>match us,hl with | [_,_,_],_=>rfl
 have F9:=ya (st:=wm) l9 c9 k9
 have b9:Binds K (PySem.W.fnOf "is_right" "is_right" (defArgs wm) (defBody wm) (defScope wm) .none kV9 dc9 pm9 an9 cd9 ct9) ["arrow","many"] []:=.all fun us hl=>match us,hl with | [_,_],_=>rfl
 have F10:=ya (st:=yi) l10 c10 k10
 have b10:Binds K (PySem.W.fnOf "placed_goings" "placed_goings" (defArgs yi) (defBody yi) (defScope yi) .none kV10 dc10 pm10 an10 cd10 ct10) ["many","arrows"] []:=.all fun us hl=>match us,hl with | [_,_],_=>rfl
 have F11:=ya (st:=zy) l11 c11 k11
 have b11:Binds K (PySem.W.fnOf "ring_back_from" "ring_back_from" (defArgs zy) (defBody zy) (defScope zy) .none kV11 dc11 pm11 an11 cd11 ct11) ["arrows","chosen","going"] []:=.all fun us hl=>match us,hl with | [_,_,_],_=>rfl
 have F12:=ya (st:=xj) l12 c12 k12
 have b12:Binds K (PySem.W.fnOf "__init__" "Net.__init__" (defArgs xj) (defBody xj) (defScope xj) .none kV12 dc12 pm12 an12 cd12 ct12) ["self","names","arrows"] []:=.all fun us hl=>match us,hl with | [_,_,_],_=>rfl
 have F13:=ya (st:=zz) l13 c13 k13
 have b13:Binds K (PySem.W.fnOf "common_divisor" "common_divisor" (defArgs zz) (defBody zz) (defScope zz) .none kV13 dc13 pm13 an13 cd13 ct13) ["one","other"] []:=.all fun us hl=>match us,hl with | [_,_],_=>rfl
 have F14:=ya (st:=uw) l14 c14 k14
 have b14:Binds K (PySem.W.fnOf "ratio" "ratio" (defArgs uw) (defBody uw) (defScope uw) .none kV14 dc14 pm14 an14 cd14 ct14) ["top","bottom"] []:=.all fun us hl=>match us,hl with | [_,_],_=>rfl
 have F15:=ya (st:=vp) l15 c15 k15
 have b15:Binds K (PySem.W.fnOf "scaled" "scaled" (defArgs vp) (defBody vp) (defScope vp) .none kV15 dc15 pm15 an15 cd15 ct15) ["one","whole"] []:=.all fun us hl=>match us,hl with | [_,_],_=>rfl
 have F16:=ya (st:=qc) l16 c16 k16
 have b16:Binds K (PySem.W.fnOf "plus" "plus" (defArgs qc) (defBody qc) (defScope qc) .none kV16 dc16 pm16 an16 cd16 ct16) ["one","other"] []:=.all fun us hl=>match us,hl with | [_,_],_=>rfl
 have F17:=ya (st:=ux) l17 c17 k17
 have b17:Binds K (PySem.W.fnOf "minus" "minus" (defArgs ux) (defBody ux) (defScope ux) .none kV17 dc17 pm17 an17 cd17 ct17) ["one","other"] []:=.all fun us hl=>match us,hl with | [_,_],_=>rfl
 have F18:=ya (st:=uz) l18 c18 k18
 have b18:Binds K (PySem.W.fnOf "under" "under" (defArgs uz) (defBody uz) (defScope uz) .none kV18 dc18 pm18 an18 cd18 ct18) ["one","other"] []:=.all fun us hl=>match us,hl with | [_,_],_=>rfl
 have F19:=ya (st:=vb) l19 c19 k19
 have b19:Binds K (PySem.W.fnOf "is_ring" "is_ring" (defArgs vb) (defBody vb) (defScope vb) .none kV19 dc19 pm19 an19 cd19 ct19) ["net","ring"] []:=.all fun us hl=>match us,hl with | [_,_],_=>rfl
 have F20:=ya (st:=qd) l20 c20 k20
 have b20:Binds K (PySem.W.fnOf "mean" "mean" (defArgs qd) (defBody qd) (defScope qd) .none kV20 dc20 pm20 an20 cd20 ct20) ["net","ring"] []:=.all fun us hl=>match us,hl with | [_,_],_=>rfl
 have F21:=ya (st:=vc) l21 c21 k21
 have b21:Binds K (PySem.W.fnOf "is_kept" "is_kept" (defArgs vc) (defBody vc) (defScope vc) .none kV21 dc21 pm21 an21 cd21 ct21) ["arrow","pace","times"] []:=.all fun us hl=>match us,hl with | [_,_,_],_=>rfl
 have F22:=ya (st:=qf) l22 c22 k22
 have b22:Binds K (PySem.W.fnOf "fits" "fits" (defArgs qf) (defBody qf) (defScope qf) .none kV22 dc22 pm22 an22 cd22 ct22) ["net","pace","times"] []:=.all fun us hl=>match us,hl with | [_,_,_],_=>rfl
 have F23:=ya (st:=x6) l23 c23 k23
 have b23:Binds K (PySem.W.fnOf "push_once" "push_once" (defArgs x6) (defBody x6) (defScope x6) .none kV23 dc23 pm23 an23 cd23 ct23) ["net","pace","numbers","times","chosen"] []:=.all fun us hl=>match us,hl with | [_,_,_,_,_],_=>rfl
 have F24:=ya (st:=zk) l24 c24 k24
 have b24:Binds K (PySem.W.fnOf "times_or_ring_along" "times_or_ring_along" (defArgs zk) (defBody zk) (defScope zk) .none kV24 dc24 pm24 an24 cd24 ct24) ["net","pace","numbers"] []:=.all fun us hl=>match us,hl with | [_,_,_],_=>rfl
 have F25:=ya (st:=yj) l25 c25 k25
 have b25:Binds K (PySem.W.fnOf "times_or_ring" "times_or_ring" (defArgs yj) (defBody yj) (defScope yj) .none kV25 dc25 pm25 an25 cd25 ct25) ["net","pace"] []:=.all fun us hl=>match us,hl with | [_,_],_=>rfl
 have F26:=ya (st:=wn) l26 c26 k26
 have b26:Binds K (PySem.W.fnOf "has_mean" "has_mean" (defArgs wn) (defBody wn) (defScope wn) .none kV26 dc26 pm26 an26 cd26 ct26) ["net","ring","pace"] []:=.all fun us hl=>match us,hl with | [_,_,_],_=>rfl
 have F27:=ya (st:=u0) l27 c27 k27
 have b27:Binds K (PySem.W.fnOf "holds" "holds" (defArgs u0) (defBody u0) (defScope u0) .none kV27 dc27 pm27 an27 cd27 ct27) ["net","paper"] []:=.all fun us hl=>match us,hl with | [_,_],_=>rfl
 have F28:=ya (st:=yy) l28 c28 k28
 have b28:Binds K (PySem.W.fnOf "_law_cell_at" "_law_cell_at" (defArgs yy) (defBody yy) (defScope yy) .none kV28 dc28 pm28 an28 cd28 ct28) ["_law_script","_law_k"] []:=.all fun us hl=>match us,hl with | [_,_],_=>rfl
 have F29:=ya (st:=xk) l29 c29 k29
 have b29:Binds K (PySem.W.fnOf "_law_is_row" "_law_is_row" (defArgs xk) (defBody xk) (defScope xk) .none kV29 dc29 pm29 an29 cd29 ct29) ["_law_cell"] []:=.all fun us hl=>match us,hl with | [_],_=>rfl
 have F30:=ya (st:=x8) l30 c30 k30
 have b30:Binds K (PySem.W.fnOf "_law_mixed" "_law_mixed" (defArgs x8) (defBody x8) (defScope x8) .none kV30 dc30 pm30 an30 cd30 ct30) ["_law_cell","_law_k"] []:=.all fun us hl=>match us,hl with | [_,_],_=>rfl
 have F31:=ya (st:=wo) l31 c31 k31
 have b31:Binds K (PySem.W.fnOf "_law_rank" "_law_rank" (defArgs wo) (defBody wo) (defScope wo) .none kV31 dc31 pm31 an31 cd31 ct31) ["_law_turn","_law_many","_law_going"] []:=.all fun us hl=>match us,hl with | [_,_,_],_=>rfl
 have F32:=ya (st:=x9) l32 c32 k32
 have b32:Binds K (PySem.W.fnOf "_law_arrow" "_law_arrow" (defArgs x9) (defBody x9) (defScope x9) .none kV32 dc32 pm32 an32 cd32 ct32) ["_law_cell","_law_many","_law_turn"] []:=.all fun us hl=>match us,hl with | [_,_,_],_=>rfl
 have F33:=ya (st:=wp) l33 c33 k33
 have b33:Binds K (PySem.W.fnOf "_law_made" "_law_made" (defArgs wp) (defBody wp) (defScope wp) .none kV33 dc33 pm33 an33 cd33 ct33) ["_law_arrow_here","_law_kind"] []:=.all fun us hl=>match us,hl with | [_,_],_=>rfl
 have F34:=ya (st:=xl) l34 c34 k34
 have b34:Binds K (PySem.W.fnOf "_law_lowest" "_law_lowest" (defArgs xl) (defBody xl) (defScope xl) .none kV34 dc34 pm34 an34 cd34 ct34) ["_law_top","_law_bottom"] []:=.all fun us hl=>match us,hl with | [_,_],_=>rfl
 have F35:=ya (st:=wa) l35 c35 k35
 have b35:Binds K (PySem.W.fnOf "_law_found" "_law_found" (defArgs wa) (defBody wa) (defScope wa) .none kV35 dc35 pm35 an35 cd35 ct35) ["_law_arrows","_law_number"] []:=.all fun us hl=>match us,hl with | [_,_],_=>rfl
 have F36:=ya (st:=wq) l36 c36 k36
 have b36:Binds K (PySem.W.fnOf "_law_sums" "_law_sums" (defArgs wq) (defBody wq) (defScope wq) .none kV36 dc36 pm36 an36 cd36 ct36) ["_law_arrows","_law_ring"] []:=.all fun us hl=>match us,hl with | [_,_],_=>rfl
 have F37:=ya (st:=xm) l37 c37 k37
 have b37:Binds K (PySem.W.fnOf "_law_pushed" "_law_pushed" (defArgs xm) (defBody xm) (defScope xm) .none kV37 dc37 pm37 an37 cd37 ct37) ["_law_arrows","_law_beat","_law_many"] []:=.all fun us hl=>match us,hl with | [_,_,_],_=>rfl
 have F38:=ya (st:=wb) l38 c38 k38
 have b38:Binds K (PySem.W.fnOf "_law_paper" "_law_paper" (defArgs wb) (defBody wb) (defScope wb) .none kV38 dc38 pm38 an38 cd38 ct38) ["_law_arrows","_law_many","_law_cell"] []:=.all fun us hl=>match us,hl with | [_,_,_],_=>rfl
 have F39:=ya (st:=wc) l39 c39 k39
 have b39:Binds K (PySem.W.fnOf "_law_asked" "_law_asked" (defArgs wc) (defBody wc) (defScope wc) .none kV39 dc39 pm39 an39 cd39 ct39) ["_law_beat","_law_cell"] []:=.all fun us hl=>match us,hl with | [_,_],_=>rfl
 have F40:=ya (st:=zao) l40 c40 k40
 have b40:Binds K (PySem.W.fnOf "law" "law" (defArgs zao) (defBody zao) (defScope zao) .none kV40 dc40 pm40 an40 cd40 ct40) ["_law_script"] []:=.all fun us hl=>match us,hl with | [_],_=>rfl
 have T:Txt K mg ⟨c_Arrow,c_Ride,c_Wait,c_Back,c_Net,f0,PySem.W.fnOf "__init__" "Arrow.__init__" (defArgs yq) (defBody yq) (defScope yq) .none kV0 dc0 pm0 an0 cd0 ct0,f1,PySem.W.fnOf "__init__" "Ride.__init__" (defArgs yw) (defBody yw) (defScope yw) .none kV1 dc1 pm1 an1 cd1 ct1,f2,PySem.W.fnOf "__init__" "Wait.__init__" (defArgs yf) (defBody yf) (defScope yf) (.ref td2) kV2 dc2 pm2 an2 cd2 ct2,f3,PySem.W.fnOf "__init__" "Back.__init__" (defArgs yg) (defBody yg) (defScope yg) (.ref td3) kV3 dc3 pm3 an3 cd3 ct3,f4,PySem.W.fnOf "is_letter" "is_letter" (defArgs xw) (defBody xw) (defScope xw) .none kV4 dc4 pm4 an4 cd4 ct4,f5,PySem.W.fnOf "is_figure" "is_figure" (defArgs xy) (defBody xy) (defScope xy) .none kV5 dc5 pm5 an5 cd5 ct5,f6,PySem.W.fnOf "is_name" "is_name" (defArgs w9) (defBody w9) (defScope w9) .none kV6 dc6 pm6 an6 cd6 ct6,f7,PySem.W.fnOf "are_names" "are_names" (defArgs xz) (defBody xz) (defScope xz) .none kV7 dc7 pm7 an7 cd7 ct7,f8,PySem.W.fnOf "lies_within" "lies_within" (defArgs yx) (defBody yx) (defScope yx) .none kV8 dc8 pm8 an8 cd8 ct8,f9,PySem.W.fnOf "is_right" "is_right" (defArgs wm) (defBody wm) (defScope wm) .none kV9 dc9 pm9 an9 cd9 ct9,f10,PySem.W.fnOf "placed_goings" "placed_goings" (defArgs yi) (defBody yi) (defScope yi) .none kV10 dc10 pm10 an10 cd10 ct10,f11,PySem.W.fnOf "ring_back_from" "ring_back_from" (defArgs zy) (defBody zy) (defScope zy) .none kV11 dc11 pm11 an11 cd11 ct11,f12,PySem.W.fnOf "__init__" "Net.__init__" (defArgs xj) (defBody xj) (defScope xj) .none kV12 dc12 pm12 an12 cd12 ct12,f13,PySem.W.fnOf "common_divisor" "common_divisor" (defArgs zz) (defBody zz) (defScope zz) .none kV13 dc13 pm13 an13 cd13 ct13,f14,PySem.W.fnOf "ratio" "ratio" (defArgs uw) (defBody uw) (defScope uw) .none kV14 dc14 pm14 an14 cd14 ct14,f15,PySem.W.fnOf "scaled" "scaled" (defArgs vp) (defBody vp) (defScope vp) .none kV15 dc15 pm15 an15 cd15 ct15,f16,PySem.W.fnOf "plus" "plus" (defArgs qc) (defBody qc) (defScope qc) .none kV16 dc16 pm16 an16 cd16 ct16,f17,PySem.W.fnOf "minus" "minus" (defArgs ux) (defBody ux) (defScope ux) .none kV17 dc17 pm17 an17 cd17 ct17,f18,PySem.W.fnOf "under" "under" (defArgs uz) (defBody uz) (defScope uz) .none kV18 dc18 pm18 an18 cd18 ct18,f19,PySem.W.fnOf "is_ring" "is_ring" (defArgs vb) (defBody vb) (defScope vb) .none kV19 dc19 pm19 an19 cd19 ct19,f20,PySem.W.fnOf "mean" "mean" (defArgs qd) (defBody qd) (defScope qd) .none kV20 dc20 pm20 an20 cd20 ct20,f21,PySem.W.fnOf "is_kept" "is_kept" (defArgs vc) (defBody vc) (defScope vc) .none kV21 dc21 pm21 an21 cd21 ct21,f22,PySem.W.fnOf "fits" "fits" (defArgs qf) (defBody qf) (defScope qf) .none kV22 dc22 pm22 an22 cd22 ct22,f23,PySem.W.fnOf "push_once" "push_once" (defArgs x6) (defBody x6) (defScope x6) .none kV23 dc23 pm23 an23 cd23 ct23,f24,PySem.W.fnOf "times_or_ring_along" "times_or_ring_along" (defArgs zk) (defBody zk) (defScope zk) .none kV24 dc24 pm24 an24 cd24 ct24,f25,PySem.W.fnOf "times_or_ring" "times_or_ring" (defArgs yj) (defBody yj) (defScope yj) .none kV25 dc25 pm25 an25 cd25 ct25,f26,PySem.W.fnOf "has_mean" "has_mean" (defArgs wn) (defBody wn) (defScope wn) .none kV26 dc26 pm26 an26 cd26 ct26,f27,PySem.W.fnOf "holds" "holds" (defArgs u0) (defBody u0) (defScope u0) .none kV27 dc27 pm27 an27 cd27 ct27,f28,PySem.W.fnOf "_law_cell_at" "_law_cell_at" (defArgs yy) (defBody yy) (defScope yy) .none kV28 dc28 pm28 an28 cd28 ct28,f29,PySem.W.fnOf "_law_is_row" "_law_is_row" (defArgs xk) (defBody xk) (defScope xk) .none kV29 dc29 pm29 an29 cd29 ct29,f30,PySem.W.fnOf "_law_mixed" "_law_mixed" (defArgs x8) (defBody x8) (defScope x8) .none kV30 dc30 pm30 an30 cd30 ct30,f31,PySem.W.fnOf "_law_rank" "_law_rank" (defArgs wo) (defBody wo) (defScope wo) .none kV31 dc31 pm31 an31 cd31 ct31,f32,PySem.W.fnOf "_law_arrow" "_law_arrow" (defArgs x9) (defBody x9) (defScope x9) .none kV32 dc32 pm32 an32 cd32 ct32,f33,PySem.W.fnOf "_law_made" "_law_made" (defArgs wp) (defBody wp) (defScope wp) .none kV33 dc33 pm33 an33 cd33 ct33,f34,PySem.W.fnOf "_law_lowest" "_law_lowest" (defArgs xl) (defBody xl) (defScope xl) .none kV34 dc34 pm34 an34 cd34 ct34,f35,PySem.W.fnOf "_law_found" "_law_found" (defArgs wa) (defBody wa) (defScope wa) .none kV35 dc35 pm35 an35 cd35 ct35,f36,PySem.W.fnOf "_law_sums" "_law_sums" (defArgs wq) (defBody wq) (defScope wq) .none kV36 dc36 pm36 an36 cd36 ct36,f37,PySem.W.fnOf "_law_pushed" "_law_pushed" (defArgs xm) (defBody xm) (defScope xm) .none kV37 dc37 pm37 an37 cd37 ct37,f38,PySem.W.fnOf "_law_paper" "_law_paper" (defArgs wb) (defBody wb) (defScope wb) .none kV38 dc38 pm38 an38 cd38 ct38,f39,PySem.W.fnOf "_law_asked" "_law_asked" (defArgs wc) (defBody wc) (defScope wc) .none kV39 dc39 pm39 an39 cd39 ct39,fa,PySem.W.fnOf "law" "law" (defArgs zao) (defBody zao) (defScope zao) .none kV40 dc40 pm40 an40 cd40 ct40⟩:=by
  constructor
  ·exact ⟨⟨pg_Arrow,hd_Arrow,po_Arrow,sa_Arrow⟩,PySem.W.mg_of X G aC_Arrow,mk_Arrow,kc_Arrow⟩
  ·exact ⟨⟨pg_Ride,hd_Ride,po_Ride,sa_Ride⟩,PySem.W.mg_of X G aC_Ride,mk_Ride,kc_Ride⟩
  ·exact ⟨⟨pg_Wait,hd_Wait,po_Wait,sa_Wait⟩,PySem.W.mg_of X G aC_Wait,mk_Wait,kc_Wait⟩
  ·exact ⟨⟨pg_Back,hd_Back,po_Back,sa_Back⟩,PySem.W.mg_of X G aC_Back,mk_Back,kc_Back⟩
  ·exact ⟨⟨pg_Net,hd_Net,po_Net,sa_Net⟩,PySem.W.mg_of X G aC_Net,mk_Net,kc_Net⟩
  ·exact ⟨F0,⟨a0,i0,k0⟩,b0⟩
  ·exact ⟨F1,⟨a1,i1,k1⟩,b1⟩
  ·exact ⟨F2,⟨a2,i2,k2⟩,b2⟩
  ·exact ⟨_,trivial,(.cons ⟨_,rfl⟩ .nil),b2_1⟩
  ·exact ⟨F3,⟨a3,i3,k3⟩,b3⟩
  ·exact ⟨_,trivial,(.cons ⟨_,rfl⟩ .nil),b3_1⟩
  ·exact ⟨F4,PySem.W.mg_of X G a4,b4⟩
  ·exact ⟨F5,PySem.W.mg_of X G a5,b5⟩
  ·exact ⟨F6,PySem.W.mg_of X G a6,b6⟩
  ·exact ⟨F7,PySem.W.mg_of X G a7,b7⟩
  ·exact ⟨F8,PySem.W.mg_of X G a8,b8⟩
  ·exact ⟨F9,PySem.W.mg_of X G a9,b9⟩
  ·exact ⟨F10,PySem.W.mg_of X G a10,b10⟩
  ·exact ⟨F11,PySem.W.mg_of X G a11,b11⟩
  ·exact ⟨F12,⟨a12,i12,k12⟩,b12⟩
  ·exact ⟨F13,PySem.W.mg_of X G a13,b13⟩
  ·exact ⟨F14,PySem.W.mg_of X G a14,b14⟩
  ·exact ⟨F15,PySem.W.mg_of X G a15,b15⟩
  ·exact ⟨F16,PySem.W.mg_of X G a16,b16⟩
  ·exact ⟨F17,PySem.W.mg_of X G a17,b17⟩
  ·exact ⟨F18,PySem.W.mg_of X G a18,b18⟩
  ·exact ⟨F19,PySem.W.mg_of X G a19,b19⟩
  ·exact ⟨F20,PySem.W.mg_of X G a20,b20⟩
  ·exact ⟨F21,PySem.W.mg_of X G a21,b21⟩
  ·exact ⟨F22,PySem.W.mg_of X G a22,b22⟩
  ·exact ⟨F23,PySem.W.mg_of X G a23,b23⟩
  ·exact ⟨F24,PySem.W.mg_of X G a24,b24⟩
  ·exact ⟨F25,PySem.W.mg_of X G a25,b25⟩
  ·exact ⟨F26,PySem.W.mg_of X G a26,b26⟩
  ·exact ⟨F27,PySem.W.mg_of X G a27,b27⟩
  ·exact ⟨F28,PySem.W.mg_of X G a28,b28⟩
  ·exact ⟨F29,PySem.W.mg_of X G a29,b29⟩
  ·exact ⟨F30,PySem.W.mg_of X G a30,b30⟩
  ·exact ⟨F31,PySem.W.mg_of X G a31,b31⟩
  ·exact ⟨F32,PySem.W.mg_of X G a32,b32⟩
  ·exact ⟨F33,PySem.W.mg_of X G a33,b33⟩
  ·exact ⟨F34,PySem.W.mg_of X G a34,b34⟩
  ·exact ⟨F35,PySem.W.mg_of X G a35,b35⟩
  ·exact ⟨F36,PySem.W.mg_of X G a36,b36⟩
  ·exact ⟨F37,PySem.W.mg_of X G a37,b37⟩
  ·exact ⟨F38,PySem.W.mg_of X G a38,b38⟩
  ·exact ⟨F39,PySem.W.mg_of X G a39,b39⟩
  ·exact ⟨F40,PySem.W.mg_of X G a40,b40⟩
  ·exact ⟨qs_Arrow,qr_Arrow,qf_Arrow⟩
  ·exact fun c hc=>by
    simp only [List.mem_cons,List.not_mem_nil,or_false] at hc
    rcases hc with rfl
    all_goals first | exact ⟨⟨pg_Net,hd_Net,po_Net,sa_Net⟩,n_Net_arrows⟩
  ·exact fun c hc=>by
    simp only [List.mem_cons,List.not_mem_nil,or_false] at hc
    rcases hc with rfl | rfl | rfl | rfl
    all_goals first | exact ⟨⟨pg_Arrow,hd_Arrow,po_Arrow,sa_Arrow⟩,n_Arrow_behind⟩ | exact ⟨⟨pg_Ride,hd_Ride,po_Ride,sa_Ride⟩,n_Ride_behind⟩ | exact ⟨⟨pg_Wait,hd_Wait,po_Wait,sa_Wait⟩,n_Wait_behind⟩ | exact ⟨⟨pg_Back,hd_Back,po_Back,sa_Back⟩,n_Back_behind⟩
  ·exact fun c hc=>by
    simp only [List.mem_cons,List.not_mem_nil,or_false] at hc
    rcases hc with rfl | rfl | rfl | rfl
    all_goals first | exact ⟨⟨pg_Arrow,hd_Arrow,po_Arrow,sa_Arrow⟩,n_Arrow_goal⟩ | exact ⟨⟨pg_Ride,hd_Ride,po_Ride,sa_Ride⟩,n_Ride_goal⟩ | exact ⟨⟨pg_Wait,hd_Wait,po_Wait,sa_Wait⟩,n_Wait_goal⟩ | exact ⟨⟨pg_Back,hd_Back,po_Back,sa_Back⟩,n_Back_goal⟩
  ·exact fun c hc=>by
    simp only [List.mem_cons,List.not_mem_nil,or_false] at hc
    rcases hc with rfl
    all_goals first | exact ⟨⟨pg_Net,hd_Net,po_Net,sa_Net⟩,n_Net_names⟩
  ·exact fun c hc=>by
    simp only [List.mem_cons,List.not_mem_nil,or_false] at hc
    rcases hc with rfl | rfl | rfl | rfl
    all_goals first | exact ⟨⟨pg_Arrow,hd_Arrow,po_Arrow,sa_Arrow⟩,n_Arrow_start⟩ | exact ⟨⟨pg_Ride,hd_Ride,po_Ride,sa_Ride⟩,n_Ride_start⟩ | exact ⟨⟨pg_Wait,hd_Wait,po_Wait,sa_Wait⟩,n_Wait_start⟩ | exact ⟨⟨pg_Back,hd_Back,po_Back,sa_Back⟩,n_Back_start⟩
  ·exact fun c hc=>by
    simp only [List.mem_cons,List.not_mem_nil,or_false] at hc
    rcases hc with rfl | rfl | rfl | rfl
    all_goals first | exact ⟨⟨pg_Arrow,hd_Arrow,po_Arrow,sa_Arrow⟩,n_Arrow_time⟩ | exact ⟨⟨pg_Ride,hd_Ride,po_Ride,sa_Ride⟩,n_Ride_time⟩ | exact ⟨⟨pg_Wait,hd_Wait,po_Wait,sa_Wait⟩,n_Wait_time⟩ | exact ⟨⟨pg_Back,hd_Back,po_Back,sa_Back⟩,n_Back_time⟩
  ·exact fun c hc=>by
    simp only [List.mem_cons,List.not_mem_nil,or_false] at hc
    rcases hc with rfl | rfl | rfl | rfl | rfl
    all_goals first | exact ⟨⟨⟨pg_Arrow,hd_Arrow,po_Arrow,sa_Arrow⟩,iga_Arrow,ign,igt,igm_Arrow⟩,kit_Arrow_Back⟩ | exact ⟨⟨⟨pg_Ride,hd_Ride,po_Ride,sa_Ride⟩,iga_Ride,ign,igt,igm_Ride⟩,kit_Ride_Back⟩ | exact ⟨⟨⟨pg_Wait,hd_Wait,po_Wait,sa_Wait⟩,iga_Wait,ign,igt,igm_Wait⟩,kit_Wait_Back⟩ | exact ⟨⟨⟨pg_Back,hd_Back,po_Back,sa_Back⟩,iga_Back,ign,igt,igm_Back⟩,kit_Back_Back⟩ | exact ⟨⟨⟨pg_Net,hd_Net,po_Net,sa_Net⟩,iga_Net,ign,igt,igm_Net⟩,kit_Net_Back⟩
  ·exact fun c hc=>by
    simp only [List.mem_cons,List.not_mem_nil,or_false] at hc
    rcases hc with rfl | rfl | rfl | rfl | rfl
    all_goals first | exact ⟨⟨⟨pg_Arrow,hd_Arrow,po_Arrow,sa_Arrow⟩,iga_Arrow,ign,igt,igm_Arrow⟩,kit_Arrow_Ride⟩ | exact ⟨⟨⟨pg_Ride,hd_Ride,po_Ride,sa_Ride⟩,iga_Ride,ign,igt,igm_Ride⟩,kit_Ride_Ride⟩ | exact ⟨⟨⟨pg_Wait,hd_Wait,po_Wait,sa_Wait⟩,iga_Wait,ign,igt,igm_Wait⟩,kit_Wait_Ride⟩ | exact ⟨⟨⟨pg_Back,hd_Back,po_Back,sa_Back⟩,iga_Back,ign,igt,igm_Back⟩,kit_Back_Ride⟩ | exact ⟨⟨⟨pg_Net,hd_Net,po_Net,sa_Net⟩,iga_Net,ign,igt,igm_Net⟩,kit_Net_Ride⟩
  ·exact PySem.W.mg_none_of X G z0
  ·exact PySem.W.mg_none_of X G z1
  ·exact PySem.W.mg_none_of X G z2
  ·exact PySem.W.mg_none_of X G z3
  ·exact PySem.W.mg_none_of X G z4
  ·exact PySem.W.mg_none_of X G z5
  ·exact PySem.W.mg_none_of X G z6
  ·exact PySem.W.mg_none_of X G z7
  ·exact PySem.W.mg_none_of X G z8
  ·exact PySem.W.mg_none_of X G z9
  ·exact PySem.W.mg_none_of X G z10
  ·exact PySem.W.mg_none_of X G z11
  ·exact PySem.W.mg_none_of X G z12
  ·exact PySem.W.mg_none_of X G z13
  ·exact PySem.W.mg_none_of X G z14
  ·exact ⟨_,PySem.W.mg_of X G gc0⟩
  ·exact ⟨_,PySem.W.mg_of X G gc1⟩
  ·exact ⟨_,PySem.W.mg_of X G gc2⟩
  ·exact ⟨_,PySem.W.mg_of X G gc3⟩
  ·exact ⟨_,PySem.W.mg_of X G gc4⟩
 exact ⟨PySem.W.fnOf "law" "law" (defArgs zao) (defBody zao) (defScope zao) .none kV40 dc40 pm40 an40 cd40 ct40,fun s v=>.of_eq rfl,fun base _ _=>zr4 T⟩
theorem walk {l:PySem.W.OpenLaw} {q:Program} {loose:List Str} {XP:(Str→Option Value)→Heap→Prop} {YP:World→Heap→Prop} {d:DefRec} {K:Params→PySem.W.Frag} (hn:l.most=some 63) (hdf:d.params.defaults=[])
  (hY:∀(w:World) (h:Heap),YP w h→(K w.params).In h)
  (F:∀(w:World) (mg:Str→Option Value) (fa:Addr) (h:Heap),(K w.params).In h→h.Ns mainGlobals mg→mg d.name=some (.ref fa) →
   ∃fd:FuncData,(∀(s:Shared) (u:Value),BindsTo s fd ⟨[u],[]⟩ [("_law_script",u)])∧∀base:Heap,(K w.params).In base→base.Ns mainGlobals mg→FnOk l.prog w (K w.params) mg base CX0 8 fa fd ["_law_script"] (spLaw (K w.params))) :
  PySem.W.WalkO q loose XP YP l.row.toRowW d [] (fun f vs=>PySem.call f vs) :=
 L2.walk_of (n:=63) (k:=8) (x:="_law_script") (CX:=fun _=>CX0) (sp:=fun w=>spLaw (K w.params)) hn (by decide) hdf ⟨rfl,by decide,by decide⟩ hY F (fun _ _ a ns hl _ hS=>⟨a,ns,rfl,hS,hl,fun _=>rfl⟩) fun _ _ _ _ _ z=>z
end My
-- KEEP
def PySem.W.Fast.tw1637055074973975781 : Nat := 0
def PySem.W.Fast.tw8019200048979128525 : Nat := 0
def PySem.W.Fast.tw3550784389979135153 : Nat := 0
def PySem.W.Fast.tw11225339328404775370 : Nat := 0
def PySem.W.Fast.tw13000579960633541626 : Nat := 0
def PySem.W.Fast.tw10075566423009958289 : Nat := 0
def PySem.W.Fast.tw10005152911528152868 : Nat := 0
def PySem.W.Fast.tw9823889270502576478 : Nat := 0
def PySem.W.Fast.tw5207178813597203402 : Nat := 0
def PySem.W.Fast.tw1407429837298626249 : Nat := 0
def PySem.W.Fast.tw13533808189309186651 : Nat := 0
def PySem.W.Fast.tw16149947742254310239 : Nat := 0
def PySem.W.Fast.tw4611250650604694329 : Nat := 0
def PySem.W.Fast.tw11822457458875202121 : Nat := 0
def PySem.W.Fast.tw15169764034357442746 : Nat := 0
def PySem.W.Fast.tw11144090843140673481 : Nat := 0
def PySem.W.Fast.tw12400715141574105249 : Nat := 0
def PySem.W.Fast.tw11707745850396360731 : Nat := 0
def PySem.W.Fast.tw4547315707889579666 : Nat := 0
def PySem.W.Fast.tw12144530378368296630 : Nat := 0
def PySem.W.Fast.tw6777616559677650535 : Nat := 0
def PySem.W.Fast.tw12318940163144476503 : Nat := 0
def PySem.W.Fast.tw8500638775496734422 : Nat := 0
def PySem.W.Fast.tw2358252091704280037 : Nat := 0
def PySem.W.Fast.tw12013157672062320107 : Nat := 0
def PySem.W.Fast.tw7437230214576519130 : Nat := 0
def PySem.W.Fast.tw15465257966031655537 : Nat := 0
def PySem.W.Fast.tw17458651213050502400 : Nat := 0
def PySem.W.Fast.tw3755122967961738325 : Nat := 0
def PySem.W.Fast.tw2298401483813033768 : Nat := 0
def PySem.W.Fast.tw242546733820470789 : Nat := 0
def PySem.W.Fast.tw13632362707550179447 : Nat := 0
def PySem.W.Fast.tw16745679476343496101 : Nat := 0
def PySem.W.Fast.tw9360229272392011531 : Nat := 0
def PySem.W.Fast.tw3147848597474801298 : Nat := 0
def PySem.W.Fast.tw9692158996756713673 : Nat := 0
def PySem.W.Fast.tw8104060227169443941 : Nat := 0
def PySem.W.Fast.tw3021589597337167696 : Nat := 0
def PySem.W.Fast.tw6146370332213287924 : Nat := 0
def PySem.W.Fast.tw10330052854772235804 : Nat := 0
def PySem.W.Fast.tw9452947200077455639 : Nat := 0
def PySem.W.Fast.tw3355081038012784259 : Nat := 0
def PySem.W.Fast.tw948031701022301819 : Nat := 0
def PySem.W.Fast.tw13858998909427684795 : Nat := 0
def PySem.W.Fast.tw11947161166050504862 : Nat := 0
def PySem.W.Fast.tw14490875477234621903 : Nat := 0
def PySem.W.Fast.tw5934544767884938151 : Nat := 0
def PySem.W.Fast.tw7140131536267932930 : Nat := 0
def PySem.W.Fast.tw5785374642949626482 : Nat := 0
def PySem.W.Fast.tw3838452725712056958 : Nat := 0
def PySem.W.Fast.tw5371504389237253304 : Nat := 0
def PySem.W.Fast.tw3988132255120285754 : Nat := 0
def PySem.W.Fast.tw39401130619125242 : Nat := 0
def PySem.W.Fast.tw17324207978887824518 : Nat := 0
def PySem.W.Fast.tw3953827346042198008 : Nat := 0
def PySem.W.Fast.tw16017229321552769244 : Nat := 0
def PySem.W.Fast.tw14666469004602973042 : Nat := 0
def PySem.W.Fast.tw8479645355832443543 : Nat := 0
def PySem.W.Fast.tw8645522893321400930 : Nat := 0
def PySem.W.Fast.tw14879279909711286260 : Nat := 0
def PySem.W.Fast.tw14133184807458010583 : Nat := 0
def PySem.W.Fast.tw8763793785579018707 : Nat := 0
def PySem.W.Fast.tw10311618407557432196 : Nat := 0
def PySem.W.Fast.tw4415025024690535163 : Nat := 0
open PySem PySem.W PyProof.Rows
set_option maxRecDepth 100000 in
set_option maxHeartbeats 0 in
theorem PySem.Challenge.cw_ringbeat_k35_whole_what_holds_is_right_holds : PySem.Challenge.rw_ringbeat_k35_whole_what_holds_is_right.Holds := by
  w_on; o_law; k_head; (case hw => w_witness2)
  k_fill
  refine My.walk (l := PySem.Challenge.rw_ringbeat_k35_whole_what_holds_is_right) rfl rfl (fun w h Y => PySem.W.kIn_of Y) ?F
  case F =>
    intro w mg fa h KX G hmg
    refine' My.all_mk KX G hmg ?aC_Arrow ?pg_Arrow ?hd_Arrow ?po_Arrow ?sa_Arrow ?mk_Arrow ?kc_Arrow ?aC_Ride ?pg_Ride ?hd_Ride ?po_Ride ?sa_Ride ?mk_Ride ?kc_Ride ?aC_Wait ?pg_Wait ?hd_Wait ?po_Wait ?sa_Wait ?mk_Wait ?kc_Wait ?aC_Back ?pg_Back ?hd_Back ?po_Back ?sa_Back ?mk_Back ?kc_Back ?aC_Net ?pg_Net ?hd_Net ?po_Net ?sa_Net ?mk_Net ?kc_Net ?a0 ?i0 ?l0 ?c0 ?k0 ?a1 ?i1 ?l1 ?c1 ?k1 ?a2 ?i2 ?l2 ?c2 ?k2 ?t2 ?a3 ?i3 ?l3 ?c3 ?k3 ?t3 ?a4 ?l4 ?c4 ?k4 ?a5 ?l5 ?c5 ?k5 ?a6 ?l6 ?c6 ?k6 ?a7 ?l7 ?c7 ?k7 ?a8 ?l8 ?c8 ?k8 ?a9 ?l9 ?c9 ?k9 ?a10 ?l10 ?c10 ?k10 ?a11 ?l11 ?c11 ?k11 ?a12 ?i12 ?l12 ?c12 ?k12 ?a13 ?l13 ?c13 ?k13 ?a14 ?l14 ?c14 ?k14 ?a15 ?l15 ?c15 ?k15 ?a16 ?l16 ?c16 ?k16 ?a17 ?l17 ?c17 ?k17 ?a18 ?l18 ?c18 ?k18 ?a19 ?l19 ?c19 ?k19 ?a20 ?l20 ?c20 ?k20 ?a21 ?l21 ?c21 ?k21 ?a22 ?l22 ?c22 ?k22 ?a23 ?l23 ?c23 ?k23 ?a24 ?l24 ?c24 ?k24 ?a25 ?l25 ?c25 ?k25 ?a26 ?l26 ?c26 ?k26 ?a27 ?l27 ?c27 ?k27 ?a28 ?l28 ?c28 ?k28 ?a29 ?l29 ?c29 ?k29 ?a30 ?l30 ?c30 ?k30 ?a31 ?l31 ?c31 ?k31 ?a32 ?l32 ?c32 ?k32 ?a33 ?l33 ?c33 ?k33 ?a34 ?l34 ?c34 ?k34 ?a35 ?l35 ?c35 ?k35 ?a36 ?l36 ?c36 ?k36 ?a37 ?l37 ?c37 ?k37 ?a38 ?l38 ?c38 ?k38 ?a39 ?l39 ?c39 ?k39 ?a40 ?l40 ?c40 ?k40 ?qs_Arrow ?qr_Arrow ?qf_Arrow ?n_Net_arrows ?n_Arrow_behind ?n_Ride_behind ?n_Wait_behind ?n_Back_behind ?n_Arrow_goal ?n_Ride_goal ?n_Wait_goal ?n_Back_goal ?n_Net_names ?n_Arrow_start ?n_Ride_start ?n_Wait_start ?n_Back_start ?n_Arrow_time ?n_Ride_time ?n_Wait_time ?n_Back_time ?ign ?igt ?iga_Arrow ?igm_Arrow ?kit_Arrow_Back ?kit_Arrow_Ride ?iga_Ride ?igm_Ride ?kit_Ride_Back ?kit_Ride_Ride ?iga_Wait ?igm_Wait ?kit_Wait_Back ?kit_Wait_Ride ?iga_Back ?igm_Back ?kit_Back_Back ?kit_Back_Ride ?iga_Net ?igm_Net ?kit_Net_Back ?kit_Net_Ride ?z0 ?z1 ?z2 ?z3 ?z4 ?z5 ?z6 ?z7 ?z8 ?z9 ?z10 ?z11 ?z12 ?z13 ?z14 ?gc0 ?gc1 ?gc2 ?gc3 ?gc4
    (case aC_Arrow => k_is)
    (case pg_Arrow => k_is)
    (case hd_Arrow => k_is)
    (case po_Arrow => k_is)
    (case sa_Arrow => k_is)
    (case mk_Arrow => k_is)
    (case kc_Arrow => k_is)
    (case aC_Ride => k_is)
    (case pg_Ride => k_is)
    (case hd_Ride => k_is)
    (case po_Ride => k_is)
    (case sa_Ride => k_is)
    (case mk_Ride => k_is)
    (case kc_Ride => k_is)
    (case aC_Wait => k_is)
    (case pg_Wait => k_is)
    (case hd_Wait => k_is)
    (case po_Wait => k_is)
    (case sa_Wait => k_is)
    (case mk_Wait => k_is)
    (case kc_Wait => k_is)
    (case aC_Back => k_is)
    (case pg_Back => k_is)
    (case hd_Back => k_is)
    (case po_Back => k_is)
    (case sa_Back => k_is)
    (case mk_Back => k_is)
    (case kc_Back => k_is)
    (case aC_Net => k_is)
    (case pg_Net => k_is)
    (case hd_Net => k_is)
    (case po_Net => k_is)
    (case sa_Net => k_is)
    (case mk_Net => k_is)
    (case kc_Net => k_is)
    (case a0 => k_is)
    (case i0 => k_is)
    (case l0 => k_is)
    (case c0 => k_is)
    (case k0 => k_is)
    (case a1 => k_is)
    (case i1 => k_is)
    (case l1 => k_is)
    (case c1 => k_is)
    (case k1 => k_is)
    (case a2 => k_is)
    (case i2 => k_is)
    (case l2 => k_is)
    (case c2 => k_is)
    (case k2 => k_is)
    (case t2 => k_is)
    (case a3 => k_is)
    (case i3 => k_is)
    (case l3 => k_is)
    (case c3 => k_is)
    (case k3 => k_is)
    (case t3 => k_is)
    (case a4 => k_is)
    (case l4 => k_is)
    (case c4 => k_is)
    (case k4 => k_is)
    (case a5 => k_is)
    (case l5 => k_is)
    (case c5 => k_is)
    (case k5 => k_is)
    (case a6 => k_is)
    (case l6 => k_is)
    (case c6 => k_is)
    (case k6 => k_is)
    (case a7 => k_is)
    (case l7 => k_is)
    (case c7 => k_is)
    (case k7 => k_is)
    (case a8 => k_is)
    (case l8 => k_is)
    (case c8 => k_is)
    (case k8 => k_is)
    (case a9 => k_is)
    (case l9 => k_is)
    (case c9 => k_is)
    (case k9 => k_is)
    (case a10 => k_is)
    (case l10 => k_is)
    (case c10 => k_is)
    (case k10 => k_is)
    (case a11 => k_is)
    (case l11 => k_is)
    (case c11 => k_is)
    (case k11 => k_is)
    (case a12 => k_is)
    (case i12 => k_is)
    (case l12 => k_is)
    (case c12 => k_is)
    (case k12 => k_is)
    (case a13 => k_is)
    (case l13 => k_is)
    (case c13 => k_is)
    (case k13 => k_is)
    (case a14 => k_is)
    (case l14 => k_is)
    (case c14 => k_is)
    (case k14 => k_is)
    (case a15 => k_is)
    (case l15 => k_is)
    (case c15 => k_is)
    (case k15 => k_is)
    (case a16 => k_is)
    (case l16 => k_is)
    (case c16 => k_is)
    (case k16 => k_is)
    (case a17 => k_is)
    (case l17 => k_is)
    (case c17 => k_is)
    (case k17 => k_is)
    (case a18 => k_is)
    (case l18 => k_is)
    (case c18 => k_is)
    (case k18 => k_is)
    (case a19 => k_is)
    (case l19 => k_is)
    (case c19 => k_is)
    (case k19 => k_is)
    (case a20 => k_is)
    (case l20 => k_is)
    (case c20 => k_is)
    (case k20 => k_is)
    (case a21 => k_is)
    (case l21 => k_is)
    (case c21 => k_is)
    (case k21 => k_is)
    (case a22 => k_is)
    (case l22 => k_is)
    (case c22 => k_is)
    (case k22 => k_is)
    (case a23 => k_is)
    (case l23 => k_is)
    (case c23 => k_is)
    (case k23 => k_is)
    (case a24 => k_is)
    (case l24 => k_is)
    (case c24 => k_is)
    (case k24 => k_is)
    (case a25 => k_is)
    (case l25 => k_is)
    (case c25 => k_is)
    (case k25 => k_is)
    (case a26 => k_is)
    (case l26 => k_is)
    (case c26 => k_is)
    (case k26 => k_is)
    (case a27 => k_is)
    (case l27 => k_is)
    (case c27 => k_is)
    (case k27 => k_is)
    (case a28 => k_is)
    (case l28 => k_is)
    (case c28 => k_is)
    (case k28 => k_is)
    (case a29 => k_is)
    (case l29 => k_is)
    (case c29 => k_is)
    (case k29 => k_is)
    (case a30 => k_is)
    (case l30 => k_is)
    (case c30 => k_is)
    (case k30 => k_is)
    (case a31 => k_is)
    (case l31 => k_is)
    (case c31 => k_is)
    (case k31 => k_is)
    (case a32 => k_is)
    (case l32 => k_is)
    (case c32 => k_is)
    (case k32 => k_is)
    (case a33 => k_is)
    (case l33 => k_is)
    (case c33 => k_is)
    (case k33 => k_is)
    (case a34 => k_is)
    (case l34 => k_is)
    (case c34 => k_is)
    (case k34 => k_is)
    (case a35 => k_is)
    (case l35 => k_is)
    (case c35 => k_is)
    (case k35 => k_is)
    (case a36 => k_is)
    (case l36 => k_is)
    (case c36 => k_is)
    (case k36 => k_is)
    (case a37 => k_is)
    (case l37 => k_is)
    (case c37 => k_is)
    (case k37 => k_is)
    (case a38 => k_is)
    (case l38 => k_is)
    (case c38 => k_is)
    (case k38 => k_is)
    (case a39 => k_is)
    (case l39 => k_is)
    (case c39 => k_is)
    (case k39 => k_is)
    (case a40 => k_is)
    (case l40 => k_is)
    (case c40 => k_is)
    (case k40 => k_is)
    (case qs_Arrow => k_is)
    (case qr_Arrow => k_is)
    (case qf_Arrow => k_is)
    (case n_Net_arrows => k_is)
    (case n_Arrow_behind => k_is)
    (case n_Ride_behind => k_is)
    (case n_Wait_behind => k_is)
    (case n_Back_behind => k_is)
    (case n_Arrow_goal => k_is)
    (case n_Ride_goal => k_is)
    (case n_Wait_goal => k_is)
    (case n_Back_goal => k_is)
    (case n_Net_names => k_is)
    (case n_Arrow_start => k_is)
    (case n_Ride_start => k_is)
    (case n_Wait_start => k_is)
    (case n_Back_start => k_is)
    (case n_Arrow_time => k_is)
    (case n_Ride_time => k_is)
    (case n_Wait_time => k_is)
    (case n_Back_time => k_is)
    (case ign => k_is)
    (case igt => k_is)
    (case iga_Arrow => k_is)
    (case igm_Arrow => k_is)
    (case kit_Arrow_Back => kit_is)
    (case kit_Arrow_Ride => kit_is)
    (case iga_Ride => k_is)
    (case igm_Ride => k_is)
    (case kit_Ride_Back => kit_is)
    (case kit_Ride_Ride => kit_is)
    (case iga_Wait => k_is)
    (case igm_Wait => k_is)
    (case kit_Wait_Back => kit_is)
    (case kit_Wait_Ride => kit_is)
    (case iga_Back => k_is)
    (case igm_Back => k_is)
    (case kit_Back_Back => kit_is)
    (case kit_Back_Ride => kit_is)
    (case iga_Net => k_is)
    (case igm_Net => k_is)
    (case kit_Net_Back => kit_is)
    (case kit_Net_Ride => kit_is)
    (case z0 => k_is)
    (case z1 => k_is)
    (case z2 => k_is)
    (case z3 => k_is)
    (case z4 => k_is)
    (case z5 => k_is)
    (case z6 => k_is)
    (case z7 => k_is)
    (case z8 => k_is)
    (case z9 => k_is)
    (case z10 => k_is)
    (case z11 => k_is)
    (case z12 => k_is)
    (case z13 => k_is)
    (case z14 => k_is)
    (case gc0 => k_is)
    (case gc1 => k_is)
    (case gc2 => k_is)
    (case gc3 => k_is)
    (case gc4 => k_is)
