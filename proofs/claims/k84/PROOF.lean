import PyProof.Rows.All
import Wide.All
import OpenK.AllK
import Wide.FinOn
import Lean
import PyProof.EqAt
import PyProof.EqKinds
import PyProof.TupleCall
import PyProof.ExcClass3
import PyProof.ExcBaseAll.ValueError
import KE.KTryMore
import PyProof.FString2
import KE.KDictList
import PyProof.StrCalls
import PyProof.StrBlock2
import PyProof.StrBlockI
import PySem.Challenge.RW_ringbeat_k84_almanacs
set_option Elab.async false
set_option linter.all false
set_option maxRecDepth 100000
namespace L2
open PySem PySem.Spec PyProof.Rows

abbrev Key := Sum Int Str
def keyIs : Key → Value → Bool
  | .inl k, v => Value.isInt k v
  | .inr x, v => Value.isStrOf x v
def keyH (w : World) : Key → Int
  | .inl k => hashInt k
  | .inr x => hashStr w x
theorem keyIs_shape : ∀ {k : Key} {v : Value}, keyIs k v = true → (∃ i t, k = Sum.inl i ∧ v = Value.int i t) ∨ (∃ x t, k = Sum.inr x ∧ v = Value.str x t)
  | .inl i, v, h => by
    obtain ⟨t, e⟩ := Value.isInt_shape (k := i) (v := v) h
    exact .inl ⟨i, t, rfl, e⟩
  | .inr x, v, h => by
    obtain ⟨t, e⟩ := Value.isStrOf_shape (x := x) (v := v) h
    exact .inr ⟨x, t, rfl, e⟩
theorem key_ll (a b : Int) : decide ((Sum.inl a : Key) = Sum.inl b) = (a == b) := by
  by_cases e : a = b
  · subst e; simp
  · have h : ¬ (Sum.inl a : Key) = Sum.inl b := fun q => e (Sum.inl.inj q)
    rw [decide_eq_false h]
    exact (beq_eq_false_iff_ne.mpr e).symm
theorem key_rr (a b : Str) : decide ((Sum.inr a : Key) = Sum.inr b) = decide (a = b) := by
  by_cases e : a = b
  · subst e; simp
  · have h : ¬ (Sum.inr a : Key) = Sum.inr b := fun q => e (Sum.inr.inj q)
    rw [decide_eq_false h, decide_eq_false e]
theorem key_lr (a : Int) (b : Str) : decide ((Sum.inl a : Key) = Sum.inr b) = false := decide_eq_false (fun q => nomatch q)
theorem key_rl (a : Str) (b : Int) : decide ((Sum.inr a : Key) = Sum.inl b) = false := decide_eq_false (fun q => nomatch q)

def mixKind (prog : Program) (w : World) : PySem.KeyKind prog w Key where
  is := keyIs
  hash := keyH w
  inj := fun v a b ha hb => by
    rcases keyIs_shape ha with ⟨i, t, rfl, rfl⟩ | ⟨x, t, rfl, rfl⟩
    · rcases keyIs_shape hb with ⟨j, u, rfl, e⟩ | ⟨y, u, rfl, e⟩
      · injection e with e1 _; rw [e1]
      · exact nomatch e
    · rcases keyIs_shape hb with ⟨j, u, rfl, e⟩ | ⟨y, u, rfl, e⟩
      · exact nomatch e
      · injection e with e1 _; rw [e1]
  byValue := fun k v h => by
    rcases keyIs_shape h with ⟨i, t, rfl, rfl⟩ | ⟨x, t, rfl, rfl⟩ <;> rfl
  pyHash := fun hv h => by
    rcases keyIs_shape hv with ⟨i, t, rfl, rfl⟩ | ⟨x, t, rfl, rfl⟩
    · exact wpAny_pyHash_int h
    · exact wpAny_pyHash_str h
  eqBool := fun hu hv h => by
    rcases keyIs_shape hu with ⟨i, t, rfl, rfl⟩ | ⟨x, t, rfl, rfl⟩
    · rcases keyIs_shape hv with ⟨j, u, rfl, rfl⟩ | ⟨y, u, rfl, rfl⟩
      · rw [key_ll] at h; exact wpAny_eqBool_int h
      · rw [key_lr] at h; exact SeqAt.EqAt.int_str i t y u _ _ _ _ h
    · rcases keyIs_shape hv with ⟨j, u, rfl, rfl⟩ | ⟨y, u, rfl, rfl⟩
      · rw [key_rl] at h; exact SeqAt.EqAt.str_int x t j u _ _ _ _ h
      · rw [key_rr] at h; exact wpAny_eqBool_str h
  «strs» := fun k x t v h => by
    rcases keyIs_shape h with ⟨i, u, rfl, e⟩ | ⟨y, u, rfl, e⟩
    · exact nomatch e
    · injection e with e1 _
      subst e1
      cases v <;> rfl

end L2

namespace L2
open PySem PySem.Spec PyProof.Rows

inductive V where
  | non | bl (b : Bool) | int (i : Int) | str (x : Str) | byt (b : Array UInt8) | flt (b : UInt64) | ref (a : Addr) | ty (n : String)
  deriving DecidableEq

def RelV : V → Value → Prop
  | .non, u => u = Value.none
  | .bl b, u => u = Value.bool b
  | .int i, u => ∃ t, u = Value.int i t
  | .str x, u => ∃ t, u = Value.str x t
  | .byt b, u => ∃ t, u = Value.bytes b t
  | .flt b, u => ∃ t, u = Value.float b t
  | .ref a, u => u = Value.ref a
  | .ty n, u => u = Value.type n

abbrev Vals : List V → List Value → Prop := Paired RelV
theorem Vals.length {xs : List V} {us : List Value} (r : Vals xs us) : xs.length = us.length := Paired.length r
theorem Vals.get : ∀ {xs : List V} {us : List Value} {i : Nat} {x : V}, Vals xs us → xs[i]? = some x → ∃ u, us[i]? = some u ∧ RelV x u
  | _, _, _, _, .nil, e => by simp at e
  | _, _, 0, _, .cons r _, e => by simp at e; subst e; exact ⟨_, rfl, r⟩
  | _, _, i + 1, x, .cons _ t, e => by
    obtain ⟨u, h1, h2⟩ := Vals.get (i := i) (x := x) t (by simpa using e)
    exact ⟨u, by simpa using h1, h2⟩
theorem Vals.append : ∀ {xs ys : List V} {us ws : List Value}, Vals xs us → Vals ys ws → Vals (xs ++ ys) (us ++ ws)
  | _, _, _, _, .nil, s => s
  | _, _, _, _, .cons r t, s => .cons r (Vals.append t s)
theorem Vals.take : ∀ {xs : List V} {us : List Value} (n : Nat), Vals xs us → Vals (xs.take n) (us.take n)
  | _, _, 0, _ => .nil
  | _, _, _ + 1, .nil => .nil
  | _, _, n + 1, .cons r t => .cons r (Vals.take n t)
theorem Vals.drop : ∀ {xs : List V} {us : List Value} (n : Nat), Vals xs us → Vals (xs.drop n) (us.drop n)
  | _, _, 0, r => r
  | _, _, _ + 1, .nil => .nil
  | _, _, n + 1, .cons _ t => Vals.drop n t
def RelO : Option V → Option Value → Prop
  | some v, some u => RelV v u
  | none, none => True
  | _, _ => False
def KV {κ : Type} : List (κ × V) → List (κ × Value) → Prop := Paired fun (p : κ × V) (q : κ × Value) => p.1 = q.1 ∧ RelV p.2 q.2

def kV : Key → V
  | .inl i => .int i
  | .inr x => .str x

inductive HO where
  | lst (xs : List V)
  | tup (xs : List V)
  | dK (kvs : List (Key × V)) | dT (kvs : List (List Key × V))
  | set (S : Int → Bool) (n : Nat)
  | ins (C dx : Addr) (fs : List (Str × V))
  | own (x : Addr)
  | xd (fs : List (Str × V))
  | met (f x : Addr)
  | rng (lo hi : Int)
  | frz (o : Obj) (u : HO)
  | tbl (ps : Array Value)
  | ext (φ : Heap → Prop)

abbrev Hp := Addr → Option HO
def upd (H : Hp) (a : Addr) (o : HO) : Hp := fun b => if b = a then some o else H b
theorem upd_same {H : Hp} {a : Addr} {o : HO} : upd H a o a = some o := by unfold upd; rw [if_pos rfl]
theorem upd_ne {H : Hp} {a b : Addr} {o : HO} (h : b ≠ a) : upd H a o b = H b := by unfold upd; rw [if_neg h]
theorem ne_of_none {H : Hp} {a b : Addr} {o : HO} (h : H a = some o) (h' : H b = none) : a ≠ b := by
  intro e; subst e; rw [h] at h'; cases h'

section
variable (P : Program) (w : World)
def ObjOk (H : Hp) (h : Heap) (a : Addr) : HO → Prop
  | .lst xs => xs.length ≤ sizeLine ∧ ∃ (its : List Value) (n : Nat), Vals xs its ∧ h.get? a = some { cls := .type "list", data := .seq its.toArray n }
  | .tup xs => xs.length ≤ sizeLine ∧ ∃ its : List Value, Vals xs its ∧ IsTup h a its.toArray
  | .dK kvs => kvs.length ≤ sizeLine ∧ (a == sysModules) = false ∧ ∃ vs, KV kvs vs ∧ h.DictOf (mixKind P w) a vs
  | .dT kvs => kvs.length ≤ sizeLine ∧ (a == sysModules) = false ∧ ∃ xs : List (List Key × Addr × Value),
      Paired (fun (p : List Key × V) (q : List Key × Addr × Value) => p.1 = q.1 ∧ H q.2.1 = some (.tup (p.1.map kV)) ∧ RelV p.2 q.2.2) kvs xs ∧
      ∃ o es ep, h.get? a = some o ∧ o.ExactDict ∧ o.data = .dict es ep ∧ es.toList = xs.map (entryOfKey (tupleKind (mixKind P w))) ∧ (xs.map (·.1)).Nodup
  | .set S n => h.SetOf (intKind P w) a S n
  | .ins C dx fs => H dx = some (.own a) ∧ fs.length ≤ 1000 ∧ dx ≠ a ∧ h.get? a = some (PySem.W.instObj C dx) ∧
      ∃ mA, h.Ns1 dx mA ∧ (∀ f, RelO (fs.lookup f) (mA f)) ∧ PySem.Within mA (fs.map (·.1))
  | .own _ => ∃ o, h.get? a = some o
  | .xd fs => ∃ mA, h.Ns1 a mA ∧ ∀ f, RelO (fs.lookup f) (mA f)
  | .rng lo hi => ∃ t u v, h.get? a = some { cls := .type "range", data := .fields #[.int lo t, .int hi u, .int 1 v] }
  | .frz o u => h.get? a = some o ∧ ObjOk H h a u
  | .tbl ps => h.get? a = some { cls := .none, data := .fields ps }
  | .met f x => h.get? a = some (PySem.W.methodObj (.ref f) (.ref x))
  | .ext φ => φ h ∧ (∃ o, h.get? a = some o) ∧ ∀ h1 h2 : Heap, φ h1 → (∀ o, h1.get? a = some o → h2.get? a = some o) → φ h2
def HOk (H : Hp) (h : Heap) : Prop := ∀ a o, H a = some o → ObjOk P w H h a o
end

section
variable {P : Program} {w : World} {H H' : Hp} {h h' : Heap} {a : Addr} {o : HO}
theorem ObjOk.lt (x : ObjOk P w H h a o) : a < h.objs.size := by
  cases o with
  | lst xs => obtain ⟨_, _, _, _, e⟩ := x; exact Heap.lt_size e
  | tup xs => obtain ⟨_, _, _, p⟩ := x; exact p.lt
  | dK kvs => obtain ⟨_, _, _, _, o, _, _, e, _⟩ := x; exact Heap.lt_size e
  | dT kvs => obtain ⟨_, _, _, _, o, _, _, e, _⟩ := x; exact Heap.lt_size e
  | set S n => obtain ⟨o, _, _, _, e, _⟩ := x; exact Heap.lt_size e
  | ins C dx fs => obtain ⟨_, _, _, e, _⟩ := x; exact Heap.lt_size e
  | own y => obtain ⟨_, e⟩ := x; exact Heap.lt_size e
  | xd fs => obtain ⟨_, ⟨_, _, _, e, _⟩, _⟩ := x; exact Heap.lt_size e
  | rng lo hi => obtain ⟨_, _, _, e⟩ := x; exact Heap.lt_size e
  | frz ob u => obtain ⟨e, _⟩ := x; exact Heap.lt_size e
  | tbl ps => exact Heap.lt_size (show h.get? a = some _ from x)
  | met f y => exact Heap.lt_size (show h.get? a = some _ from x)
  | ext φ => obtain ⟨_, ⟨_, e⟩, _⟩ := x; exact Heap.lt_size e
theorem Paired.mapP {α β : Type} {F G : α → β → Prop} : ∀ {l₁ : List α} {l₂ : List β}, Paired F l₁ l₂ → (∀ a b, F a b → G a b) → Paired G l₁ l₂
  | _, _, .nil, _ => .nil
  | _, _, .cons r t, f => .cons (f _ _ r) (Paired.mapP t f)
theorem ObjOk.stay (x : ObjOk P w H h a o) (k : ∀ b u, (b = a ∨ H b = some (.own a)) → h.get? b = some u → h'.get? b = some u)
    (ho : ∀ b, H b = some (.own a) → H' b = some (.own a)) (ht : ∀ b xs, H b = some (.tup xs) → H' b = some (.tup xs)) : ObjOk P w H' h' a o := by
  induction o with
  | lst xs => obtain ⟨z, its, n, r, e⟩ := x; exact ⟨z, its, n, r, k _ _ (.inl rfl) e⟩
  | tup xs => obtain ⟨z, its, r, ob, e, c⟩ := x; exact ⟨z, its, r, ob, k _ _ (.inl rfl) e, c⟩
  | dK kvs => obtain ⟨z, y, vs, r, ob, es, ep, e, c⟩ := x; exact ⟨z, y, vs, r, ob, es, ep, k _ _ (.inl rfl) e, c⟩
  | dT kvs =>
    obtain ⟨z, y, xs, r, ob, es, ep, e, c⟩ := x
    exact ⟨z, y, xs, Paired.mapP r fun p q z => ⟨z.1, ht _ _ z.2.1, z.2.2⟩, ob, es, ep, k _ _ (.inl rfl) e, c⟩
  | set S n => obtain ⟨ob, es, ep, t, e, c⟩ := x; exact ⟨ob, es, ep, t, k _ _ (.inl rfl) e, c⟩
  | ins C dx fs =>
    obtain ⟨d, z, ne, e, mA, ⟨od, es, ep, e2, c⟩, r⟩ := x
    exact ⟨ho _ d, z, ne, k _ _ (.inl rfl) e, mA, ⟨od, es, ep, k _ _ (.inr d) e2, c⟩, r⟩
  | own y => obtain ⟨ob, e⟩ := x; exact ⟨ob, k _ _ (.inl rfl) e⟩
  | xd fs => obtain ⟨mA, ⟨od, es, ep, e, c⟩, r⟩ := x; exact ⟨mA, ⟨od, es, ep, k _ _ (.inl rfl) e, c⟩, r⟩
  | rng lo hi => obtain ⟨t, u, v, e⟩ := x; exact ⟨t, u, v, k _ _ (.inl rfl) e⟩
  | frz ob u ih => obtain ⟨e, q⟩ := x; exact ⟨k _ _ (.inl rfl) e, ih q⟩
  | tbl ps =>
    have e : h.get? a = some { cls := .none, data := .fields ps } := x
    show h'.get? a = some { cls := .none, data := .fields ps }
    exact k a _ (.inl rfl) e
  | met f y =>
    have e : h.get? a = some (PySem.W.methodObj (.ref f) (.ref y)) := x
    show h'.get? a = some (PySem.W.methodObj (.ref f) (.ref y))
    exact k a _ (.inl rfl) e
  | ext φ => obtain ⟨p, ⟨o, e⟩, st⟩ := x; exact ⟨st _ _ p fun o q => k _ _ (.inl rfl) q, ⟨o, k _ _ (.inl rfl) e⟩, st⟩
theorem HOk.lt (x : HOk P w H h) (e : H a = some o) : a < h.objs.size := (x a o e).lt
theorem HOk.fresh (x : HOk P w H h) (e : h.objs.size ≤ a) : H a = none := by
  cases q : H a with
  | none => rfl
  | some u => exact absurd (Nat.lt_of_lt_of_le (x.lt q) e) (Nat.lt_irrefl _)
theorem HOk.kept (x : HOk P w H h) (k : ∀ b u, h.get? b = some u → h'.get? b = some u) : HOk P w H h' := fun a o e =>
  (x a o e).stay (fun b u _ q => k b u q) (fun _ q => q) fun _ _ q => q
theorem HOk.laid (x : HOk P w H h) (k : ∀ b u, h.get? b = some u → h'.get? b = some u) (hp : h.objs.size ≤ a) (new : ObjOk P w (upd H a o) h' a o) : HOk P w (upd H a o) h' := fun b u e => by
  have hn := x.fresh hp
  by_cases hb : b = a
  · subst hb; rw [upd_same] at e; cases e; exact new
  · rw [upd_ne hb] at e
    exact (x b u e).stay (fun c v _ q => k c v q) (fun c q => by rw [upd_ne (ne_of_none q hn)]; exact q) fun c xs q => by rw [upd_ne (ne_of_none q hn)]; exact q
end

def Rd (H : Hp) (a : Addr) (u : HO) : Prop := H a = some u ∨ ∃ o, H a = some (.frz o u)
theorem Rd.ok {P : Program} {w : World} {H : Hp} {h : Heap} {a : Addr} {u : HO} (r : Rd H a u) (x : HOk P w H h) : ObjOk P w H h a u := by
  rcases r with r | ⟨o, r⟩
  · exact x a u r
  · obtain ⟨_, q⟩ := x a _ r
    exact q
def Mut : Option HO → Prop
  | some (.lst _) => True
  | some (.dK _) => True
  | some (.dT _) => True
  | some (.set _ _) => True
  | some (.ins _ _ _) => True
  | some (.ext _) => True
  | _ => False
section
variable {P : Program} {w : World} {H : Hp} {h h' : Heap} {x e : Addr} {o' : HO}
theorem HOk.write (ok : HOk P w H h) (mu : Mut (H x)) (he : e = x ∨ H e = some (.own x)) (k : ∀ b u, b ≠ e → h.get? b = some u → h'.get? b = some u) (heo : ∃ u, h'.get? e = some u)
    (new : ObjOk P w (upd H x o') h' x o') : HOk P w (upd H x o') h' := fun b u q => by
  have nown : ∀ c y, H c = some (.own y) → c ≠ x := fun c y r z => by subst z; rw [r] at mu; exact mu
  have ntup : ∀ c xs, H c = some (.tup xs) → c ≠ x := fun c xs r z => by subst z; rw [r] at mu; exact mu
  by_cases hb : b = x
  · subst hb; rw [upd_same] at q; cases q; exact new
  · rw [upd_ne hb] at q
    by_cases hbe : b = e
    · have q' : H b = some (.own x) := by
        rcases he with z | z
        · exact absurd (hbe.trans z) hb
        · rw [hbe]; exact z
      rw [q] at q'; cases q'
      obtain ⟨v, hv⟩ := heo
      exact ⟨v, by rw [hbe]; exact hv⟩
    · refine (ok b u q).stay (fun c v hc r => k c v ?_ r) (fun c r => by rw [upd_ne (nown c b r)]; exact r) fun c xs r => by rw [upd_ne (ntup c xs r)]; exact r
      rcases hc with rfl | hc
      · exact hbe
      · rintro rfl
        rcases he with z | z
        · exact nown c b hc z
        · rw [hc] at z; cases z; exact hb rfl
end

structure Un (fs ex : List Addr) (H H' : Hp) (h h' : Heap) : Prop where
  keep : ∀ b o, h.get? b = some o → H b = none → b ∉ fs → b ∉ ex → h'.get? b = some o
  slot : ∀ b o, h.get? b = some o → H b = none → b ∈ fs → b ∉ ex → ∃ sl, h'.get? b = some { o with slots := sl }
  free : ∀ b o, h.get? b = some o → H b = none → b ∉ ex → H' b = none
  there : ∀ b o, h.get? b = some o → b ∉ ex → ∃ o', h'.get? b = some o'
  tups : ∀ b xs, H b = some (.tup xs) → H' b = some (.tup xs)
  frzs : ∀ b o u, H b = some (.frz o u) → H' b = some (.frz o u)
  tbls : ∀ b ps, H b = some (.tbl ps) → ∃ more, H' b = some (.tbl (ps ++ more))
section
variable {fs fs' ex ex' : List Addr} {H H1 H2 : Hp} {h h1 h2 h' : Heap} {a x e : Addr} {o : HO}
theorem Un.any (u : Un fs ex H H1 h h1) {b : Addr} {ob : Obj} (q : h.get? b = some ob) (n : H b = none) (hx : b ∉ ex) : ∃ sl, h1.get? b = some { ob with slots := sl } := by
  by_cases hb : b ∈ fs
  · exact u.slot b ob q n hb hx
  · exact ⟨ob.slots, u.keep b ob q n hb hx⟩
theorem Un.kept (k : ∀ b u, h.get? b = some u → h'.get? b = some u) : Un fs ex H H h h' :=
  ⟨fun b ob q _ _ _ => k b ob q, fun b ob q _ _ _ => ⟨ob.slots, k b ob q⟩, fun _ _ _ n _ => n, fun b ob q _ => ⟨ob, k b ob q⟩, fun _ _ q => q, fun _ _ _ q => q, fun _ ps q => ⟨#[], by rw [q]; simp⟩⟩
theorem Un.refl : Un fs ex H H h h := Un.kept fun _ _ q => q
theorem Un.laid (k : ∀ b u, h.get? b = some u → h'.get? b = some u) (hp : h.objs.size ≤ a) (hn : H a = none) : Un fs ex H (upd H a o) h h' where
  keep := fun b u q _ _ _ => k b u q
  slot := fun b u q _ _ _ => ⟨u.slots, k b u q⟩
  free := fun b u q n _ => by rw [upd_ne (Nat.ne_of_lt (Nat.lt_of_lt_of_le (Heap.lt_size q) hp))]; exact n
  there := fun b u q _ => ⟨u, k b u q⟩
  tups := fun b xs q => by rw [upd_ne (ne_of_none q hn)]; exact q
  frzs := fun b u xs q => by rw [upd_ne (ne_of_none q hn)]; exact q
  tbls := fun b ps q => ⟨#[], by rw [upd_ne (ne_of_none q hn), q]; simp⟩
theorem Un.write (mu : Mut (H x)) (he : e = x ∨ H e = some (.own x)) (k : ∀ b u, b ≠ e → h.get? b = some u → h'.get? b = some u) (heo : ∃ u, h'.get? e = some u) : Un fs ex H (upd H x o) h h' := by
  have hx : ∀ b, H b = none → b ≠ x := fun b n z => by subst z; rw [n] at mu; exact mu
  have hb : ∀ b, H b = none → b ≠ e := fun b n z => by
    subst z
    rcases he with r | r
    · exact hx b n r
    · rw [n] at r; cases r
  have hm : ∀ b u, H b = some u → ¬ Mut (some u) → b ≠ x := fun b u q nm z => by subst z; rw [q] at mu; exact nm mu
  refine ⟨fun b u q n _ _ => k b u (hb b n) q, fun b u q n _ _ => ⟨u.slots, k b u (hb b n) q⟩, fun b u q n _ => by rw [upd_ne (hx b n)]; exact n, fun b u q _ => ?_,
    fun b xs q => by rw [upd_ne (hm b _ q fun z => z)]; exact q, fun b u xs q => by rw [upd_ne (hm b _ q fun z => z)]; exact q, fun b ps q => ⟨#[], by rw [upd_ne (hm b _ q fun z => z), q]; simp⟩⟩
  by_cases hbe : b = e
  · subst hbe; exact heo
  · exact ⟨u, k b u hbe q⟩
end

def trk (h : Heap) (H : Hp) : List Addr := (List.range h.objs.size).filter fun a => (H a).isSome
def hidT (h : Heap) (H : Hp) : Heap := PySem.W.hideAll h (trk h H)
theorem hidT_size (h : Heap) (H : Hp) : (hidT h H).objs.size = h.objs.size := PySem.W.hideAll_size _ _
theorem hidT_get {h : Heap} {H : Hp} {b : Addr} {o : Obj} (e : h.get? b = some o) (n : H b = none) : (hidT h H).get? b = some o :=
  PySem.W.hideAll_get _ e fun hm => by
    have q : (H b).isSome = true := (List.mem_filter.mp hm).2
    rw [n] at q; simp at q
theorem of_hidT {h : Heap} {H : Hp} {b : Addr} {o : Obj} (e : (hidT h H).get? b = some o) : h.get? b = some o ∧ H b = none := by
  have e' : h.get? b = some o := PySem.W.of_hideAll (trk h H) e
  refine ⟨e', ?_⟩
  cases q : H b with
  | none => rfl
  | some x =>
    have hm : b ∈ trk h H := List.mem_filter.mpr ⟨List.mem_range.mpr (Heap.lt_size e'), by simp [q]⟩
    have z : (hidT h H).get? b = none := PySem.W.hideAll_none (trk h H) hm
    rw [z] at e; cases e

def allNews (g h : Heap) (L : Addr) : List (Addr × Obj) := (List.range h.objs.size).filterMap fun a => if a = L ∨ (g.get? a).isSome = true then none else (h.get? a).map fun o => (a, o)
def rest (g h : Heap) (L d : Addr) : List (Addr × Obj) := (allNews g h L).filter fun p => decide (p.1 ≠ d)
end L2

namespace L2
open PySem PySem.Spec PyProof.Rows

structure Mod (K : PySem.W.Frag) (mg : Str → Option Value) (base : Heap) : Prop where
  kin : K.In base
  glob : base.Ns mainGlobals mg
  blt : ∃ mb, base.Ns builtinsNs mb ∧ ∀ x : Str, x ≠ "__name__" → mb x = bootBuiltins x
  nolimit : base.NoLimit

structure Cx where
  prog : Program
  w : World
  K : PySem.W.Frag
  mg : Str → Option Value
  base : Heap
  A : Around
  N : List Str
  s₀ : Shared
  H₀ : Hp
  env : Env
  outer : List Env
  stack : List Env
  ex : List Addr
  fn : Str → Bool
  calm : Bool
  pn : List (Addr × Obj)
  xe : Value → Shared → Prop
def frs (l : List Env) : List Addr := l.filterMap (·.frame)
abbrev Cx.fs (X : Cx) : List Addr := frs X.outer

def Vis (sc : Scope) (x : Str) : Prop := sc.names.lookup x = some .local ∨ sc.names.lookup x = some .cell ∨ sc.names.lookup x = some .free
def Loc (sc : Scope) (x : Str) : Prop := sc.names.lookup x = some .local ∨ sc.names.lookup x = some .cell
def Look (env : Env) (h : Heap) (m : Str → Option Value) (x : Str) (u : Value) : Prop :=
  (env.kindOf x = some .local ∧ m x = some u) ∨ ((env.kindOf x = some .cell ∨ env.kindOf x = some .free) ∧ ∃ c, env.cells.lookup x = some c ∧ h.IsCell c (some u))

structure Cx.Ok (X : Cx) : Prop where
  mod : Mod X.K X.mg X.base
  kind : X.env.scope.kind = .function
  glob : X.env.globals = mainGlobals
  blt : X.env.builtins = builtinsNs
  above : X.s₀.heap.objs.size ≤ X.env.locals
  inj : ∀ x y c, X.env.cells.lookup x = some c → X.env.cells.lookup y = some c → x = y
  has : ∀ x, (X.env.kindOf x = some .cell ∨ X.env.kindOf x = some .free) → ∃ c, X.env.cells.lookup x = some c
  cab : ∀ x c, X.fn x = true → X.env.cells.lookup x = some c → X.s₀.heap.objs.size ≤ c
  hd : X.calm = true → X.A.handled = none
  frames : X.A.frames = some X.stack
  stk : X.stack = X.outer ∨ (X.stack = X.env :: X.outer ∧ X.env.frame = some X.env.locals)
  exf : ∀ b ∈ X.ex, b ≠ X.env.locals ∧ ∀ x c, X.env.cells.lookup x = some c → c ≠ b
  bs : ∀ b o, X.base.get? b = some o → X.s₀.heap.get? b = some o ∧ X.H₀ b = none
  bsz : X.base.objs.size ≤ X.s₀.heap.objs.size
  noex : ∀ b o, X.base.get? b = some o → b ∉ X.ex
  exfs : ∀ b ∈ X.ex, b ∉ X.fs
  funs : X.s₀.heap.FunFrames X.base X.outer
  frf : ∀ b ∈ X.fs, X.H₀ b = none

structure Inv (X : Cx) (pins : List (Addr × Obj)) (σ : List (Option V)) (H : Hp) (s : Shared) : Prop where
  ok : X.Ok
  os : s.os = X.s₀.os
  bare : AllBare s.gens
  base : Un X.fs X.ex X.H₀ H X.s₀.heap s.heap
  loc : ∃ m, s.heap.Ns X.env.locals m ∧ ∀ (i : Nat) (x : Str) (v : V), X.N[i]? = some x → σ[i]? = some (some v) → Vis X.env.scope x → ∃ u, RelV v u ∧ Look X.env s.heap m x u
  cell : ∀ x c, X.env.cells.lookup x = some c → ∃ v, s.heap.IsCell c v
  free : H X.env.locals = none
  freeC : ∀ x c, X.env.cells.lookup x = some c → H c = none
  pin : ∀ p ∈ X.pn ++ pins, s.heap.get? p.1 = some p.2 ∧ H p.1 = none ∧ p.1 ≠ X.env.locals ∧ p.1 ∉ X.fs ∧ ∀ v, p.2.data ≠ .cell v
  hok : HOk X.prog X.w H s.heap
  len : σ.length = X.N.length

section
variable {X : Cx} {pins : List (Addr × Obj)} {σ : List (Option V)} {H H' : Hp} {s : Shared} {h' : Heap}

theorem Cx.Ok.nofr (ok : X.Ok) {b : Addr} {o : Obj} (e : X.base.get? b = some o) : b ∉ X.fs := fun hb => by
  have := (ok.funs.mem hb).1
  rw [e] at this; cases this
theorem Inv.bs (I : Inv X pins σ H s) : ∀ b o, X.base.get? b = some o → s.heap.get? b = some o ∧ H b = none := fun b o e =>
  ⟨I.base.keep b o (I.ok.bs b o e).1 (I.ok.bs b o e).2 (I.ok.nofr e) (I.ok.noex b o e), I.base.free b o (I.ok.bs b o e).1 (I.ok.bs b o e).2 (I.ok.noex b o e)⟩
theorem Inv.bk (I : Inv X pins σ H s) : ∀ b o, X.base.get? b = some o → s.heap.get? b = some o := fun b o e => (I.bs b o e).1
theorem Inv.mod (I : Inv X pins σ H s) : Mod X.K X.mg X.base := I.ok.mod
theorem Inv.kIn (I : Inv X pins σ H s) : X.K.In s.heap := I.ok.mod.kin.keeps I.bk
theorem Inv.fr (I : Inv X pins σ H s) : ∃ m, Fr X.base X.env.locals s.heap m :=
  let ⟨m, hn, _⟩ := I.loc
  ⟨m, hn, I.bk, Nat.le_trans I.ok.bsz I.ok.above⟩
theorem Inv.lt (I : Inv X pins σ H s) : X.env.locals < s.heap.objs.size := let ⟨_, hn, _⟩ := I.loc; hn.lt
theorem Inv.sz (I : Inv X pins σ H s) : X.s₀.heap.objs.size ≤ s.heap.objs.size := Nat.le_trans I.ok.above (Nat.le_of_lt I.lt)
theorem Inv.nofs (I : Inv X pins σ H s) {a : Addr} (h : s.heap.objs.size ≤ a) : a ∉ X.fs := fun hb => by
  obtain ⟨_, o, ho, _⟩ := I.ok.funs.mem hb
  exact absurd (Nat.lt_of_lt_of_le (Heap.lt_size ho) (Nat.le_trans I.sz h)) (Nat.lt_irrefl _)
theorem Inv.cne (I : Inv X pins σ H s) : ∀ x c, X.env.cells.lookup x = some c → c ≠ X.env.locals := fun x c e z => by
  obtain ⟨v, o, ho, hd⟩ := I.cell x c e
  obtain ⟨m, ⟨o', es, ep, ho', hd', _⟩, _⟩ := I.loc
  rw [z, ho'] at ho; cases ho; rw [hd'] at hd; cases hd
theorem Inv.funs (I : Inv X pins σ H s) : s.heap.FunFrames X.base X.outer := by
  have all : ∀ (l : List Env), (∀ b ∈ frs l, b ∈ X.fs) → X.s₀.heap.FunFrames X.base l → s.heap.FunFrames X.base l := by
    intro l
    induction l with
    | nil => intro _ _; trivial
    | cons env r ih =>
      intro hs hl
      obtain ⟨hk, ⟨L, o, hf, hn, ho, hd⟩, hr⟩ := hl
      have hL : L ∈ X.fs := hs L (by unfold frs; rw [List.filterMap_cons, hf]; exact List.mem_cons_self)
      obtain ⟨sl, e⟩ := I.base.slot L o ho (I.ok.frf L hL) hL fun z => I.ok.exfs L z hL
      exact ⟨hk, ⟨L, _, hf, hn, e, hd⟩, ih (fun b hb => hs b (by unfold frs; rw [List.filterMap_cons, hf]; exact List.mem_cons_of_mem _ hb)) hr⟩
  exact all X.outer (fun _ hb => hb) I.ok.funs

theorem Inv.stack (I : Inv X pins σ H s) : s.heap.FunFrames X.base X.stack := by
  rcases I.ok.stk with e | ⟨e, hf⟩
  · rw [e]; exact I.funs
  · rw [e]
    obtain ⟨m, hn, _⟩ := I.loc
    refine .cons (by rw [I.ok.kind]; decide) hf hn ?_ I.funs
    exact Heap.get?_none_of_le (Nat.le_trans I.ok.bsz I.ok.above)
theorem Inv.stkSub (I : Inv X pins σ H s) : ∀ b ∈ frs X.stack, b ∈ X.env.locals :: X.fs := fun b hb => by
  rcases I.ok.stk with e | ⟨e, hf⟩
  · rw [e] at hb; exact List.mem_cons_of_mem _ hb
  · rw [e] at hb
    unfold frs at hb
    rw [List.filterMap_cons, hf] at hb
    exact hb
theorem Inv.stkFree (I : Inv X pins σ H s) : ∀ b ∈ frs X.stack, H b = none := fun b hb => by
  rcases List.mem_cons.mp (I.stkSub b hb) with e | hb
  · rw [e]; exact I.free
  · obtain ⟨_, o, ho, _⟩ := I.ok.funs.mem hb
    exact I.base.free b o ho (I.ok.frf b hb) fun z => I.ok.exfs b z hb

theorem Inv.step {g' : Array GenState} {t' : Nat} {d' : Drawn} {ch : List Addr} (I : Inv X pins σ H s)
    (hch : ∀ b ∈ ch, (b ∈ X.ex ∨ X.s₀.heap.objs.size ≤ b) ∧ b ≠ X.env.locals ∧ (∀ x c, X.env.cells.lookup x = some c → c ≠ b) ∧ ∀ p ∈ X.pn ++ pins, p.1 ≠ b)
    (keep : ∀ b o, b ≠ X.env.locals → b ∉ X.fs → b ∉ ch → s.heap.get? b = some o → H b = none → h'.get? b = some o)
    (slot : ∀ b o, b ≠ X.env.locals → b ∈ X.fs → b ∉ ch → s.heap.get? b = some o → H b = none → ∃ sl, h'.get? b = some { o with slots := sl }) (free : ∀ b o, b ∉ ch → s.heap.get? b = some o → H b = none → H' b = none)
    (there : ∀ b o, b ∉ ch → s.heap.get? b = some o → ∃ o', h'.get? b = some o')
    (tups : ∀ b xs, H b = some (.tup xs) → H' b = some (.tup xs)) (frzs : ∀ b o u, H b = some (.frz o u) → H' b = some (.frz o u)) (tbls : ∀ b ps, H b = some (.tbl ps) → ∃ more, H' b = some (.tbl (ps ++ more)))
    (ns : ∀ m, s.heap.Ns X.env.locals m → h'.Ns X.env.locals m) (hok : HOk X.prog X.w H' h') (hg : AllBare g') :
    Inv X pins σ H' { s with heap := h', gens := g', drawn := d', toks := t' } := by
  have neL : ∀ b o, X.s₀.heap.get? b = some o → b ≠ X.env.locals := fun b o e => Nat.ne_of_lt (Nat.lt_of_lt_of_le (Heap.lt_size e) I.ok.above)
  have neC : ∀ b o, X.s₀.heap.get? b = some o → b ∉ X.ex → b ∉ ch := fun b o e hx hb => by
    rcases (hch b hb).1 with z | z
    · exact hx z
    · exact absurd (Nat.lt_of_lt_of_le (Heap.lt_size e) z) (Nat.lt_irrefl _)
  have cellK : ∀ x c, X.env.cells.lookup x = some c → ∀ v, s.heap.IsCell c v → h'.IsCell c v := fun x c e v ⟨o, ho, hd⟩ => by
    have nch : c ∉ ch := fun z => (hch c z).2.2.1 x c e rfl
    by_cases hc : c ∈ X.fs
    · obtain ⟨sl, q⟩ := slot c o (I.cne x c e) hc nch ho (I.freeC x c e)
      exact ⟨_, q, hd⟩
    · exact ⟨o, keep c o (I.cne x c e) hc nch ho (I.freeC x c e), hd⟩
  refine ⟨I.ok, I.os, hg, ⟨fun b o e n hb hx => ?_, fun b o e n hb hx => ?_, fun b o e n hx => ?_, fun b o e hx => ?_, fun b xs e => tups b xs (I.base.tups b xs e), fun b o xs e => frzs b o xs (I.base.frzs b o xs e), fun b ps e => ?_⟩, ?_, fun x c e => ?_, ?_, fun x c e => ?_, fun p hp => ?_, hok, I.len⟩
  · exact keep b o (neL b o e) hb (neC b o e hx) (I.base.keep b o e n hb hx) (I.base.free b o e n hx)
  · obtain ⟨sl, e1⟩ := I.base.slot b o e n hb hx
    obtain ⟨sl', e2⟩ := slot b _ (neL b o e) hb (neC b o e hx) e1 (I.base.free b o e n hx)
    exact ⟨sl', e2⟩
  · obtain ⟨o', e1⟩ := I.base.there b o e hx
    exact free b o' (neC b o e hx) e1 (I.base.free b o e n hx)
  · obtain ⟨o', e1⟩ := I.base.there b o e hx
    exact there b o' (neC b o e hx) e1
  · obtain ⟨m1, e1⟩ := I.base.tbls b ps e
    obtain ⟨m2, e2⟩ := tbls b _ e1
    exact ⟨m1 ++ m2, by rw [e2, Array.append_assoc]⟩
  · obtain ⟨m, hn, hl⟩ := I.loc
    refine ⟨m, ns m hn, fun i x v e1 e2 e3 => ?_⟩
    obtain ⟨u, r, l⟩ := hl i x v e1 e2 e3
    refine ⟨u, r, ?_⟩
    rcases l with l | ⟨k, c, e, z⟩
    · exact .inl l
    · exact .inr ⟨k, c, e, cellK x c e _ z⟩
  · obtain ⟨v, z⟩ := I.cell x c e
    exact ⟨v, cellK x c e v z⟩
  · obtain ⟨m, ⟨o, _, _, ho, _⟩, _⟩ := I.loc
    exact free _ o (fun z => (hch _ z).2.1 rfl) ho I.free
  · obtain ⟨v, o, ho, hd⟩ := I.cell x c e
    exact free c o (fun z => (hch c z).2.2.1 x c e rfl) ho (I.freeC x c e)
  · obtain ⟨e, n, ne, nf, d⟩ := I.pin p hp
    have nch : p.1 ∉ ch := fun z => (hch p.1 z).2.2.2 p hp rfl
    exact ⟨keep p.1 p.2 ne nf nch e n, free p.1 p.2 nch e n, ne, nf, d⟩
theorem Inv.un {t' : Nat} (I : Inv X pins σ H s) (u : Un X.fs [] H H' s.heap h') (hok : HOk X.prog X.w H' h') : Inv X pins σ H' { s with heap := h', toks := t' } := by
  obtain ⟨m, ⟨o, es, ep, ho, r⟩, _⟩ := id I.loc
  obtain ⟨sl, hL⟩ := u.any ho I.free (by simp)
  exact I.step (g' := s.gens) (d' := s.drawn) (ch := []) (fun _ z => nomatch z) (fun b o _ hb _ e n => u.keep b o e n hb (by simp)) (fun b o _ hb _ e n => u.slot b o e n hb (by simp)) (fun b o _ e n => u.free b o e n (by simp)) (fun b o _ e => u.there b o e (by simp)) u.tups u.frzs u.tbls (fun m' hm => by
    obtain ⟨o', es', ep', ho', r'⟩ := hm
    rw [ho] at ho'; cases ho'
    exact ⟨_, es', ep', hL, r'⟩) hok I.bare
theorem Inv.call {g' : Array GenState} {t' : Nat} {d' : Drawn} {ch : List Addr} (I : Inv X pins σ H s) (u : Un (frs X.stack) ch H H' s.heap h') (hok : HOk X.prog X.w H' h') (hg : AllBare g')
    (hch : ∀ b ∈ ch, (b ∈ X.ex ∨ X.s₀.heap.objs.size ≤ b) ∧ b ≠ X.env.locals ∧ (∀ x c, X.env.cells.lookup x = some c → c ≠ b) ∧ ∀ p ∈ X.pn ++ pins, p.1 ≠ b) :
    Inv X pins σ H' { s with heap := h', gens := g', drawn := d', toks := t' } := by
  obtain ⟨m, ⟨o, es, ep, ho, r⟩, _⟩ := id I.loc
  obtain ⟨sl, hL⟩ := u.any ho I.free fun z => (hch _ z).2.1 rfl
  exact I.step (ch := ch) hch (fun b o hL hb hc e n => u.keep b o e n (fun z => (List.mem_cons.mp (I.stkSub b z)).elim hL hb) hc) (fun b o _ _ hc e n => u.any e n hc) (fun b o hc e n => u.free b o e n hc) (fun b o hc e => u.there b o e hc) u.tups u.frzs u.tbls (fun m' hm => by
    obtain ⟨o', es', ep', ho', r'⟩ := hm
    rw [ho] at ho'; cases ho'
    exact ⟨_, es', ep', hL, r'⟩) hok hg
theorem Inv.turned {t' : Nat} {it : Addr} (I : Inv X pins σ H s) (k : ∀ b o, b ≠ it → s.heap.get? b = some o → h'.get? b = some o) (hn : H it = none) (hL : it ≠ X.env.locals)
    (h1 : it ∈ X.ex ∨ X.s₀.heap.objs.size ≤ it) (h2 : ∀ x c, X.env.cells.lookup x = some c → c ≠ it) (h3 : ∀ p ∈ X.pn ++ pins, p.1 ≠ it) : Inv X pins σ H { s with heap := h', toks := t' } := by
  have nit : ∀ b u, H b = some u → b ≠ it := fun b u e z => by rw [z, hn] at e; cases e
  refine I.step (g' := s.gens) (d' := s.drawn) (ch := [it]) (fun b hb => ?_) (fun b o _ _ hc e _ => k b o (fun z => hc (by simp [z])) e) (fun b o _ _ hc e _ => ⟨o.slots, k b o (fun z => hc (by simp [z])) e⟩) (fun _ _ _ _ n => n)
    (fun b o hc e => ⟨o, k b o (fun z => hc (by simp [z])) e⟩) (fun _ _ e => e) (fun _ _ _ e => e) (fun b ps e => ⟨#[], by rw [e]; simp⟩) (fun m hm => ?_) (fun b u e => ?_) I.bare
  · have e : b = it := by simpa using hb
    subst e
    exact ⟨h1, hL, h2, h3⟩
  · obtain ⟨o, es, ep, ho, r⟩ := hm
    exact ⟨o, es, ep, k _ o (Ne.symm hL) ho, r⟩
  · refine (I.hok b u e).stay (fun c v hc q => k c v ?_ q) (fun _ q => q) fun _ _ q => q
    rcases hc with z | z
    · rw [z]; exact nit b u e
    · exact nit c _ z
theorem Inv.tok (I : Inv X pins σ H s) (t : Nat) : Inv X pins σ H { s with toks := t } := I.un (h' := s.heap) (t' := t) Un.refl I.hok
theorem Inv.kept {t' : Nat} (I : Inv X pins σ H s) (k : ∀ b u, s.heap.get? b = some u → h'.get? b = some u) : Inv X pins σ H { s with heap := h', toks := t' } := I.un (Un.kept k) (I.hok.kept k)
theorem Inv.laid {a : Addr} {o : HO} {t' : Nat} (I : Inv X pins σ H s) (k : ∀ b u, s.heap.get? b = some u → h'.get? b = some u) (hp : s.heap.objs.size ≤ a) (new : ObjOk X.prog X.w (upd H a o) h' a o) :
    Inv X pins σ (upd H a o) { s with heap := h', toks := t' } := I.un (Un.laid k hp (I.hok.fresh hp)) (I.hok.laid k hp new)
theorem Inv.write {x e : Addr} {o : HO} {t' : Nat} (I : Inv X pins σ H s) (mu : Mut (H x)) (he : e = x ∨ H e = some (.own x)) (k : ∀ b u, b ≠ e → s.heap.get? b = some u → h'.get? b = some u) (heo : ∃ u, h'.get? e = some u)
    (new : ObjOk X.prog X.w (upd H x o) h' x o) : Inv X pins σ (upd H x o) { s with heap := h', toks := t' } := I.un (Un.write mu he k heo) (I.hok.write mu he k heo new)
theorem Inv.weak {σ' : List (Option V)} (I : Inv X pins σ H s) (hl : σ'.length = σ.length) (w : ∀ (i : Nat) v, σ'[i]? = some (some v) → σ[i]? = some (some v)) : Inv X pins σ' H s :=
  ⟨I.ok, I.os, I.bare, I.base, let ⟨m, hn, hl'⟩ := I.loc; ⟨m, hn, fun i x v e1 e2 e3 => hl' i x v e1 (w i v e2) e3⟩, I.cell, I.free, I.freeC, I.pin, I.hok, hl.trans I.len⟩
theorem Inv.pins_of {pins' : List (Addr × Obj)} (I : Inv X pins σ H s) (h : ∀ p ∈ pins', s.heap.get? p.1 = some p.2 ∧ H p.1 = none ∧ p.1 ≠ X.env.locals ∧ p.1 ∉ X.fs ∧ ∀ v, p.2.data ≠ .cell v) : Inv X pins' σ H s :=
  ⟨I.ok, I.os, I.bare, I.base, I.loc, I.cell, I.free, I.freeC, fun p hp => (List.mem_append.mp hp).elim (fun z => I.pin p (List.mem_append_left _ z)) (h p), I.hok, I.len⟩

theorem nodup_ix {N : List Str} (hN : N.Nodup) {i j : Nat} {x : Str} (a : N[i]? = some x) (b : N[j]? = some x) : i = j := by
  obtain ⟨h1, e1⟩ := List.getElem?_eq_some_iff.mp a
  obtain ⟨h2, e2⟩ := List.getElem?_eq_some_iff.mp b
  exact (List.getElem_inj hN).mp (e1.trans e2.symm)

theorem store_ok2 {M : Model} {A : Around} {E : Value → Shared → Prop} {i : Nat} {x : Str} {v : V} {u : Value} {Q : Unit → Shared → Prop} (I : Inv X pins σ H s) (hN : X.N.Nodup) (hi : X.N[i]? = some x) (hx : Loc X.env.scope x) (r : RelV v u)
    (h : ∀ s', Inv X pins (σ.set i (some v)) H s' → (∃ a, Heap.SameBut a s.heap s'.heap ∧ (a = X.env.locals ∨ X.env.cells.lookup x = some a)) → Q () s') (hf : X.fn x = true ∨ X.env.scope.names.lookup x = some .local := by first | exact .inl rfl | exact .inr rfl | assumption) : wpAny M A (storeName X.env x u) Q E s := by
  obtain ⟨m, hn, hl⟩ := id I.loc
  have hcls : (X.env.scope.kind == .class || (X.env.scope.kind == .module && X.env.locals != X.env.globals)) = false := by rw [I.ok.kind]; rfl
  have hiσ : i < σ.length := by rw [I.len]; exact (List.getElem?_eq_some_iff.mp hi).1
  have cne := I.cne
  have tracked : ∀ {a : Addr} {h' : Heap}, (∃ o, s.heap.get? a = some o ∧ H a = none) → Heap.SameBut a s.heap h' → HOk X.prog X.w H h' := fun {a h'} ha hs b ob e => by
    obtain ⟨_, _, hfree⟩ := ha
    refine (I.hok b ob e).stay (fun c w' hc q => (hs.2 c ?_).trans q) (fun _ q => q) fun _ _ q => q
    rintro rfl
    rcases hc with rfl | hc
    · rw [hfree] at e; cases e
    · rw [hfree] at hc; cases hc
  rcases hx with hk | hk
  · refine wpAny_storeName_local hk hn (fun h' hn' hs => ?_) hcls
    obtain ⟨oL, _, _, hoL, _⟩ := id hn
    refine h _ ⟨I.ok, I.os, I.bare, ⟨fun b o e n hb hx => ?_, fun b o e n hb hx => ?_, I.base.free, fun b o e hx => ?_, I.base.tups, I.base.frzs, I.base.tbls⟩, ⟨_, hn', fun j y v' e1 e2 e3 => ?_⟩, fun y c e => ?_, I.free, I.freeC, fun p hp => ?_, tracked ⟨oL, hoL, I.free⟩ hs, by simpa using I.len⟩ ⟨_, hs, .inl rfl⟩
    · exact (hs.2 b (Nat.ne_of_lt (Nat.lt_of_lt_of_le (Heap.lt_size e) I.ok.above))).trans (I.base.keep b o e n hb hx)
    · obtain ⟨sl, e1⟩ := I.base.slot b o e n hb hx
      exact ⟨sl, (hs.2 b (Nat.ne_of_lt (Nat.lt_of_lt_of_le (Heap.lt_size e) I.ok.above))).trans e1⟩
    · obtain ⟨o', e1⟩ := I.base.there b o e hx
      exact ⟨o', (hs.2 b (Nat.ne_of_lt (Nat.lt_of_lt_of_le (Heap.lt_size e) I.ok.above))).trans e1⟩
    · by_cases hj : j = i
      · subst hj
        rw [hi] at e1; cases e1
        rw [List.getElem?_set_self hiσ] at e2
        cases e2
        exact ⟨u, r, .inl ⟨hk, by simp⟩⟩
      · rw [List.getElem?_set_ne (Ne.symm hj)] at e2
        obtain ⟨u', r', q⟩ := hl j y v' e1 e2 e3
        refine ⟨u', r', ?_⟩
        rcases q with ⟨k, e⟩ | ⟨k, c, e, z⟩
        · refine .inl ⟨k, ?_⟩
          have : y ≠ x := fun e => hj (nodup_ix hN e1 (e ▸ hi))
          simp [this, e]
        · exact .inr ⟨k, c, e, z.sameBut hs (cne y c e)⟩
    · obtain ⟨w', z⟩ := I.cell y c e
      exact ⟨w', z.sameBut hs (cne y c e)⟩
    · obtain ⟨e, n, ne, nf, d⟩ := I.pin p hp
      exact ⟨(hs.2 p.1 ne).trans e, n, ne, nf, d⟩
  · have hfn : X.fn x = true := by
      rcases hf with z | z
      · exact z
      · rw [z] at hk; cases hk
    obtain ⟨c, hc⟩ := I.ok.has x (.inl hk)
    obtain ⟨w', z⟩ := I.cell x c hc
    refine wpAny_storeName_cell I.ok.kind hk hc z (fun h' hc' hs => ?_)
    obtain ⟨oc, hoc, hocd⟩ := id z
    refine h { s with heap := h' } ⟨I.ok, I.os, I.bare, ⟨fun b o e n hb hx => ?_, fun b o e n hb hx => ?_, I.base.free, fun b o e hx => ?_, I.base.tups, I.base.frzs, I.base.tbls⟩, ⟨m, hn.sameBut hs (Ne.symm (cne x c hc)), fun j y v' e1 e2 e3 => ?_⟩, fun y c' e => ?_, I.free, I.freeC, fun p hp => ?_, tracked ⟨oc, hoc, I.freeC x c hc⟩ hs, by simpa using I.len⟩ ⟨c, hs, .inr hc⟩
    · exact (hs.2 b (Nat.ne_of_lt (Nat.lt_of_lt_of_le (Heap.lt_size e) (I.ok.cab x c hfn hc)))).trans (I.base.keep b o e n hb hx)
    · obtain ⟨sl, e1⟩ := I.base.slot b o e n hb hx
      exact ⟨sl, (hs.2 b (Nat.ne_of_lt (Nat.lt_of_lt_of_le (Heap.lt_size e) (I.ok.cab x c hfn hc)))).trans e1⟩
    · obtain ⟨o', e1⟩ := I.base.there b o e hx
      exact ⟨o', (hs.2 b (Nat.ne_of_lt (Nat.lt_of_lt_of_le (Heap.lt_size e) (I.ok.cab x c hfn hc)))).trans e1⟩
    · by_cases hj : j = i
      · subst hj
        rw [hi] at e1; cases e1
        rw [List.getElem?_set_self hiσ] at e2
        cases e2
        exact ⟨u, r, .inr ⟨.inl hk, c, hc, hc'⟩⟩
      · rw [List.getElem?_set_ne (Ne.symm hj)] at e2
        obtain ⟨u', r', q⟩ := hl j y v' e1 e2 e3
        refine ⟨u', r', ?_⟩
        rcases q with q | ⟨k, c', e, z'⟩
        · exact .inl q
        · refine .inr ⟨k, c', e, z'.sameBut hs ?_⟩
          rintro rfl
          exact hj (nodup_ix hN e1 (I.ok.inj _ _ _ e hc ▸ hi))
    · by_cases hcc : c' = c
      · subst hcc; exact ⟨_, hc'⟩
      · obtain ⟨w2, z2⟩ := I.cell y c' e
        exact ⟨w2, z2.sameBut hs hcc⟩
    · obtain ⟨e, n, ne, nf, d⟩ := I.pin p hp
      refine ⟨(hs.2 p.1 ?_).trans e, n, ne, nf, d⟩
      intro q
      rw [q, hoc] at e
      have q' : oc = p.2 := Option.some.inj e
      exact d w' (by rw [← q']; exact hocd)
theorem store_ok {M : Model} {A : Around} {E : Value → Shared → Prop} {i : Nat} {x : Str} {v : V} {u : Value} {Q : Unit → Shared → Prop} (I : Inv X pins σ H s) (hN : X.N.Nodup) (hi : X.N[i]? = some x) (hx : Loc X.env.scope x) (r : RelV v u)
    (h : ∀ s', Inv X pins (σ.set i (some v)) H s' → Q () s') (hf : X.fn x = true ∨ X.env.scope.names.lookup x = some .local := by first | exact .inl rfl | exact .inr rfl | assumption) : wpAny M A (storeName X.env x u) Q E s :=
  store_ok2 I hN hi hx r (fun s' I' _ => h s' I') hf
theorem Inv.call' {s' : Shared} {ch : List Addr} (I : Inv X pins σ H s) (ho : s'.os = s.os) (u : Un (frs X.stack) ch H H' s.heap s'.heap) (hok : HOk X.prog X.w H' s'.heap) (hg : AllBare s'.gens)
    (hch : ∀ b ∈ ch, (b ∈ X.ex ∨ X.s₀.heap.objs.size ≤ b) ∧ b ≠ X.env.locals ∧ (∀ x c, X.env.cells.lookup x = some c → c ≠ b) ∧ ∀ p ∈ X.pn ++ pins, p.1 ≠ b) : Inv X pins σ H' s' := by
  obtain ⟨h', g', d', t', o'⟩ := s'
  have e : o' = s.os := ho
  subst e
  exact I.call (g' := g') (t' := t') (d' := d') u hok hg hch
end

abbrev XK := Value → Option Addr → Hp → Prop
abbrev St := List (Option V)
abbrev VK := V → Hp → Prop
abbrev TE := St → Hp → VK → Prop
abbrev TT := St → Hp → (Bool → Hp → Prop) → Prop
abbrev TA := St → Hp → (List V → Hp → Prop) → Prop
structure Ends where
  nx : St → Hp → Prop
  rt : VK
  bk : St → Hp → Prop := fun _ _ => False
  ct : St → Hp → Prop := fun _ _ => False
abbrev TS := Ends → St → Hp → Prop

def EP (X : Cx) (pins : List (Addr × Obj)) (σ : St) (Q : VK) (u : Value) (s' : Shared) : Prop := ∃ v H', Inv X pins σ H' s' ∧ RelV v u ∧ Q v H'
def TP (X : Cx) (pins : List (Addr × Obj)) (σ : St) (Q : Bool → Hp → Prop) (b : Bool) (s' : Shared) : Prop := ∃ H', Inv X pins σ H' s' ∧ Q b H'
def AP (X : Cx) (pins : List (Addr × Obj)) (σ : St) (Q : List V → Hp → Prop) (us : List Value) (s' : Shared) : Prop := ∃ vs H', Inv X pins σ H' s' ∧ Vals vs us ∧ Q vs H'
def SP (X : Cx) (pins : List (Addr × Obj)) (D : Ends) (f : Flow) (s' : Shared) : Prop :=
  match f with
  | .next => ∃ σ' H', Inv X pins σ' H' s' ∧ D.nx σ' H'
  | .brk => ∃ σ' H', Inv X pins σ' H' s' ∧ D.bk σ' H'
  | .cont => ∃ σ' H', Inv X pins σ' H' s' ∧ D.ct σ' H'
  | .ret u => ∃ v σ' H', Inv X pins σ' H' s' ∧ RelV v u ∧ D.rt v H'

def PE (X : Cx) (e : Expr) (t : TE) : Prop :=
  ∀ (pins : List (Addr × Obj)) (s : Shared) (σ : St) (H : Hp) (Q : VK), Inv X pins σ H s → t σ H Q → wpAny (model X.prog X.w) X.A (eval e X.env) (EP X pins σ Q) X.xe s
def PT (X : Cx) (e : Expr) (t : TT) : Prop :=
  ∀ (pins : List (Addr × Obj)) (s : Shared) (σ : St) (H : Hp) (Q : Bool → Hp → Prop), Inv X pins σ H s → t σ H Q → wpAny (model X.prog X.w) X.A (isTrue e X.env (eval e X.env)) (TP X pins σ Q) X.xe s
def PW (X : Cx) (e : Expr) (t : TT) : Prop :=
  ∀ (whole : Sem Value) (pins : List (Addr × Obj)) (s : Shared) (σ : St) (H : Hp) (Q : Bool → Hp → Prop), Inv X pins σ H s → t σ H Q → wpAny (model X.prog X.w) X.A (isTrue e X.env whole) (TP X pins σ Q) X.xe s
theorem PW.pt {X : Cx} {e : Expr} {t : TT} (h : PW X e t) : PT X e t := h _
def PA (X : Cx) (es : List Expr) (t : TA) : Prop :=
  ∀ (pos : Pos) (pins : List (Addr × Obj)) (s : Shared) (σ : St) (H : Hp) (Q : List V → Hp → Prop), Inv X pins σ H s → t σ H Q → wpAny (model X.prog X.w) X.A (spliced (backTo pos (starEach es X.env))) (AP X pins σ Q) X.xe s
def PS (X : Cx) (st : Stmt) (t : TS) : Prop :=
  ∀ (pins : List (Addr × Obj)) (s : Shared) (σ : St) (H : Hp) (D : Ends), Inv X pins σ H s → t D σ H → wpAny (model X.prog X.w) X.A (exec st X.env) (SP X pins D) X.xe s
def PSs (X : Cx) (st : List Stmt) (t : TS) : Prop :=
  ∀ (pins : List (Addr × Obj)) (s : Shared) (σ : St) (H : Hp) (D : Ends), Inv X pins σ H s → t D σ H → wpAny (model X.prog X.w) X.A (execs st X.env) (SP X pins D) X.xe s
theorem thn {α : Type} {t : Sem α} {Q Q' : α → Shared → Prop} {M : Model} {A : Around} {E : Value → Shared → Prop} {s : Shared} (h : wpAny M A t Q E s) (hQ : ∀ a s, Q a s → Q' a s) : wpAny M A t Q' E s := wpAny_mono h hQ fun _ _ x => x
end L2

namespace L2
open PySem PySem.Spec PyProof.Rows
section
variable {X : Cx}

theorem bin {a b : Expr} {ta tb : TE} (ha : PE X a ta) (hb : PE X b tb) {pins : List (Addr × Obj)} {s : Shared} {σ : St} {H : Hp} {R : V → V → Hp → Prop} (I : Inv X pins σ H s) (h : ta σ H fun x H1 => tb σ H1 fun y H2 => R x y H2)
    {α : Type} {Q : α → Shared → Prop} {f : Value → Value → Sem α}
    (hf : ∀ v u s2 x y H2, Inv X pins σ H2 s2 → RelV x v → RelV y u → R x y H2 → wpAny (model X.prog X.w) X.A (f v u) Q X.xe s2) :
    wpAny (model X.prog X.w) X.A (eval a X.env) (fun v s₁ => wpAny (model X.prog X.w) X.A (eval b X.env) (fun u s₂ => wpAny (model X.prog X.w) X.A (f v u) Q X.xe s₂) X.xe s₁) X.xe s := by
  refine thn (ha pins s σ H _ I h) fun v s1 hq9 => ?_
  obtain ⟨x, H1, I1, r1, q1⟩ := hq9
  refine thn (hb pins s1 σ H1 _ I1 q1) fun u s2 hq9 => ?_
  obtain ⟨y, H2, I2, r2, q2⟩ := hq9
  exact hf v u s2 x y H2 I2 r1 r2 q2

def tVar (i : Nat) : TE := fun σ H Q => ∃ v, σ[i]? = some (some v) ∧ Q v H
def tC (v : V) : TE := fun _ H Q => Q v H
theorem pe_var {i : Nat} {x : Str} {pos : Pos} (hN : X.N[i]? = some x) (hv : Vis X.env.scope x) (hd : (x == ("__debug__" : Str)) = false := by decide) (hcd : (x == ("__classdict__" : Str)) = false := by decide) : PE X (.Name x pos) (tVar i) := by
  intro pins s σ H Q I h
  obtain ⟨v, e, h⟩ := h
  obtain ⟨m, hn, hl⟩ := I.loc
  obtain ⟨u, r, l⟩ := hl i x v hN e hv
  have fin : EP X pins σ Q u s := ⟨v, H, I, r, h⟩
  rcases l with ⟨hk, hm⟩ | ⟨hk, c, hc, hcell⟩
  · exact wpAny_Name (wpAny_loadName_local I.ok.kind hk hn hm fin) hd
  · rcases hk with hk | hk
    · exact wpAny_Name (wpAny_loadName_cell I.ok.kind hk hc hcell fin) hd
    · exact wpAny_Name (wpAny_loadName_free I.ok.kind hk hc hcell fin hcd) hd
theorem pe_int {i j pos} : PE X (.Constant (.int i) j pos) (tC (.int i)) := fun _ _ _ H _ I h => wpAny_Constant_int ⟨.int i, H, I.tok _, ⟨_, rfl⟩, h⟩
theorem pe_bl {b j pos} : PE X (.Constant (.bool b) j pos) (tC (.bl b)) := fun _ _ _ H _ I h => Constant_bool ⟨.bl b, H, I, rfl, h⟩
theorem pe_non {j pos} : PE X (.Constant .none j pos) (tC .non) := fun _ _ _ H _ I h => Constant_none ⟨.non, H, I, rfl, h⟩
theorem pe_str {x j pos} : PE X (.Constant (.str x) j pos) (tC (.str x)) := fun _ _ _ H _ I h => Calls.Constant_str ⟨.str x, H, I.tok _, ⟨_, rfl⟩, h⟩

def Gl (X : Cx) (x : Str) : Prop := X.env.kindOf x = some .globalImplicit
theorem ld_glob {E : Value → Shared → Prop} {pins : List (Addr × Obj)} {s : Shared} {σ : St} {H : Hp} {x : Str} {u : Value} {pos : Pos} {Q : Value → Shared → Prop} (I : Inv X pins σ H s) (hg : Gl X x) (hm : X.mg x = some u) (h : Q u s)
    (hd : (x == ("__debug__" : Str)) = false := by decide) : wpAny (model X.prog X.w) X.A (eval (.Name x pos) X.env) Q E s :=
  Calls.Name_function_global I.ok.kind hg (Calls.loadGlobal_global (by rw [I.ok.glob]; exact I.mod.glob.keeps I.bk) hm h) hd
theorem ld_blt {E : Value → Shared → Prop} {pins : List (Addr × Obj)} {s : Shared} {σ : St} {H : Hp} {x : Str} {u : Value} {pos : Pos} {Q : Value → Shared → Prop} (I : Inv X pins σ H s) (hg : Gl X x) (hm : X.mg x = none) (hv : bootBuiltins x = some u) (h : Q u s)
    (hn : x ≠ "__name__" := by decide) (hd : (x == ("__debug__" : Str)) = false := by decide) : wpAny (model X.prog X.w) X.A (eval (.Name x pos) X.env) Q E s := by
  obtain ⟨mb, h1, h2⟩ := I.mod.blt
  exact Calls.Name_function_global I.ok.kind hg (Calls.loadGlobal_builtin (by rw [I.ok.glob]; exact I.mod.glob.keeps I.bk) hm (by rw [I.ok.blt]; exact h1.keeps I.bk) ((h2 x hn).trans hv) h) hd
theorem pe_bltn {x : Str} {v : V} {u : Value} {pos : Pos} (hg : Gl X x) (hm : X.mg x = none) (hv : bootBuiltins x = some u) (r : RelV v u) (hn : x ≠ "__name__" := by decide) (hd : (x == ("__debug__" : Str)) = false := by decide) : PE X (.Name x pos) (tC v) :=
  fun _ _ _ H _ I h => ld_blt I hg hm hv ⟨v, H, I, r, h⟩ hn hd

variable {a b : Expr} {ta tb : TE} {pos : Pos}
def PC (X : Cx) (op : CmpOp) (a b : Expr) (t : TE) : Prop :=
  ∀ (pins : List (Addr × Obj)) (s : Shared) (σ : St) (H : Hp) (Q : VK), Inv X pins σ H s → t σ H Q →
    wpAny (model X.prog X.w) X.A (eval a X.env) (fun v s₁ => wpAny (model X.prog X.w) X.A (eval b X.env) (fun u s₂ => wpAny (model X.prog X.w) X.A (compareOp op v u) (EP X pins σ Q) X.xe s₂) X.xe s₁) X.xe s
theorem nobehind (b : Expr) {op : CmpOp} (h : op ≠ .In) (h2 : op ≠ .NotIn) : behindInMarks op b = false := by
  have e1 : (op == CmpOp.In) = false := by cases op <;> first | rfl | exact absurd rfl h
  have e2 : (op == CmpOp.NotIn) = false := by cases op <;> first | rfl | exact absurd rfl h2
  cases b <;> simp [behindInMarks, e1, e2]
def tB (t : TE) : TT := fun σ H Q => t σ H fun x H1 => ∃ c, x = .bl c ∧ Q c H1
theorem pt_cmp {op : CmpOp} {t : TE} (h : PC X op a b t) (h1 : behindInMarks op b = false := by first | exact nobehind _ (by decide) (by decide) | rfl) : PT X (.Compare a [op] [b] pos) (tB t) := by
  intro pins s σ H Q I hw
  refine wpAny_isTrue_Compare1 (thn (h pins s σ H _ I hw) fun v s1 h1 => thn h1 fun u s2 h2 => thn h2 fun c s3 ⟨x, H1, I1, r1, q1⟩ => ?_) h1
  obtain ⟨d, rfl, q⟩ := q1
  cases r1
  exact wpAny_truthy_bool ⟨H1, I1, q⟩
theorem pt_val {e : Expr} {t : TE} (h : PE X e t) (he : ∀ whole, isTrue e X.env whole = (do let v ← whole; standAt e.pos; holding [v] (truthy v)) := by intro _; rfl) : PT X e (tB t) := by
  intro pins s σ H Q I hw
  refine isTrue_plain (thn (h pins s σ H _ I hw) fun v s1 ⟨x, H1, I1, r1, q1⟩ => ?_) (he _)
  obtain ⟨d, rfl, q⟩ := q1
  cases r1
  exact wpAny_truthy_bool ⟨H1, I1, q⟩

variable {tA tB' : TT} {rest : List Expr}
def tAnd (t u : TT) : TT := fun σ H Q => t σ H fun c H1 => if c = true then u σ H1 Q else Q false H1
def tOr (t u : TT) : TT := fun σ H Q => t σ H fun c H1 => if c = true then Q true H1 else u σ H1 Q
def tNot (t : TT) : TT := fun σ H Q => t σ H fun c H1 => Q (!c) H1
theorem pw_and1 (ha : PT X a tA) : PW X (.BoolOp .And [a] pos) tA := by
  intro wh pins s σ H Q I h
  refine isTrue_and (thn (ha pins s σ H Q I h) fun c s1 e => ?_)
  cases c with
  | true => exact isTrue_and_nil e
  | false => exact e
theorem pw_or1 (ha : PT X a tA) : PW X (.BoolOp .Or [a] pos) tA := by
  intro wh pins s σ H Q I h
  refine isTrue_or (thn (ha pins s σ H Q I h) fun c s1 e => ?_)
  cases c with
  | false => exact isTrue_or_nil e
  | true => exact e
theorem pw_and (ha : PT X a tA) (hb : PW X (.BoolOp .And (b :: rest) pos) tB') : PW X (.BoolOp .And (a :: b :: rest) pos) (tAnd tA tB') := by
  intro wh pins s σ H Q I h
  refine isTrue_and (thn (ha pins s σ H _ I h) fun c s1 hq9 => ?_)
  obtain ⟨H1, I1, q1⟩ := hq9
  cases c with
  | true => exact hb wh pins s1 σ H1 Q I1 q1
  | false => exact ⟨H1, I1, q1⟩
theorem pw_or (ha : PT X a tA) (hb : PW X (.BoolOp .Or (b :: rest) pos) tB') : PW X (.BoolOp .Or (a :: b :: rest) pos) (tOr tA tB') := by
  intro wh pins s σ H Q I h
  refine isTrue_or (thn (ha pins s σ H _ I h) fun c s1 hq9 => ?_)
  obtain ⟨H1, I1, q1⟩ := hq9
  cases c with
  | true => exact ⟨H1, I1, q1⟩
  | false => exact hb wh pins s1 σ H1 Q I1 q1
theorem pt_not (ha : PT X a tA) : PT X (.UnaryOp .Not a pos) (tNot tA) := by
  intro pins s σ H Q I h
  exact isTrue_not (ha pins s σ H (fun c H1 => Q (!c) H1) I h)
def tIf (t : TT) (ta tb : TE) : TE := fun σ H Q => t σ H fun c H1 => if c = true then ta σ H1 Q else tb σ H1 Q
theorem pe_ifExp {c : Expr} (hc : PT X c tA) (ha : PE X a ta) (hb : PE X b tb) : PE X (.IfExp c a b pos) (tIf tA ta tb) := by
  intro pins s σ H Q I h
  refine wpAny_IfExp (thn (hc pins s σ H _ I h) fun d s1 hq9 => ?_)
  obtain ⟨H1, I1, q1⟩ := hq9
  cases d with
  | true => exact ha pins s1 σ H1 Q I1 q1
  | false => exact hb pins s1 σ H1 Q I1 q1
end
end L2

namespace L2
open PySem PySem.Spec PyProof.Rows

def SqL (K : PySem.W.Frag) (H : Hp) (a : Addr) (xs : List V) : Prop :=
  Rd H a (.lst xs) ∨
    ∃ (o : Obj) (its : Array Value) (n : Nat), K.lookup a = some o ∧ o.cls = .type "list" ∧ o.dict = none ∧ o.data = .seq its n ∧ its.size ≤ sizeLine ∧ Vals xs its.toList
def SqT (K : PySem.W.Frag) (H : Hp) (a : Addr) (xs : List V) : Prop :=
  Rd H a (.tup xs) ∨
    ∃ (o : Obj) (its : Array Value) (n : Nat), K.lookup a = some o ∧ o.cls = .type "tuple" ∧ o.data = .seq its n ∧ its.size ≤ sizeLine ∧ Vals xs its.toList
def absV : Value → Option V
  | .none => some .non
  | .bool b => some (.bl b)
  | .int i _ => some (.int i)
  | .str x _ => some (.str x)
  | .bytes b _ => some (.byt b)
  | .float b _ => some (.flt b)
  | .ref a => some (.ref a)
  | .type n => some (.ty n)
  | _ => none
theorem RelV.abs {x : V} {u : Value} (r : RelV x u) : absV u = some x := by
  cases x with
  | non => cases r; rfl
  | bl _ => cases r; rfl
  | int _ => obtain ⟨t, rfl⟩ := r; rfl
  | str _ => obtain ⟨t, rfl⟩ := r; rfl
  | byt _ => obtain ⟨t, rfl⟩ := r; rfl
  | flt _ => obtain ⟨t, rfl⟩ := r; rfl
  | ref _ => cases r; rfl
  | ty _ => cases r; rfl
theorem RelV.inj {x y : V} {u : Value} (r : RelV x u) (q : RelV y u) : x = y := Option.some.inj (r.abs.symm.trans q.abs)
theorem Vals.inj : ∀ {xs ys : List V} {us : List Value}, Vals xs us → Vals ys us → xs = ys
  | _, _, _, .nil, .nil => rfl
  | _, _, _, .cons r t, .cons r' t' => by rw [r.inj r', Vals.inj t t']
section
variable {X : Cx} {pins : List (Addr × Obj)} {σ : St} {H : Hp} {s : Shared} {a : Addr} {xs ys : List V}
theorem SqL.of {K : PySem.W.Frag} (h : H a = some (.lst xs)) : SqL K H a xs := .inl (.inl h)
theorem SqT.of {K : PySem.W.Frag} (h : H a = some (.tup xs)) : SqT K H a xs := .inl (.inl h)
theorem Inv.list (I : Inv X pins σ H s) (h : SqL X.K H a xs) : ∃ its : List Value, Vals xs its ∧ PlainL s.heap a its.toArray ∧ xs.length ≤ sizeLine := by
  rcases h with h | ⟨o, its, n, hk, hc, hd, hs, hz, r⟩
  · obtain ⟨z, its, n, r, e⟩ := h.ok I.hok
    exact ⟨its, r, ⟨_, n, e, rfl, rfl, rfl⟩, z⟩
  · refine ⟨its.toList, r, ⟨o, n, I.kIn a o hk, hc, hd, by simpa using hs⟩, ?_⟩
    have e := r.length
    simp only [Array.length_toList] at e
    omega
theorem Inv.tuple (I : Inv X pins σ H s) (h : SqT X.K H a xs) : ∃ its : List Value, Vals xs its ∧ IsTup s.heap a its.toArray ∧ xs.length ≤ sizeLine := by
  rcases h with h | ⟨o, its, n, hk, hc, hs, hz, r⟩
  · obtain ⟨z, its, r, p⟩ := h.ok I.hok
    exact ⟨its, r, p, z⟩
  · refine ⟨its.toList, r, ⟨o, I.kIn a o hk, hc, n, by simpa using hs⟩, ?_⟩
    have e := r.length
    simp only [Array.length_toList] at e
    omega
theorem Inv.list_inj (I : Inv X pins σ H s) (h : SqL X.K H a xs) (h' : SqL X.K H a ys) : xs = ys := by
  obtain ⟨its, r, ⟨o, n, e, _, _, d⟩, _⟩ := I.list h
  obtain ⟨its', r', ⟨o', n', e', _, _, d'⟩, _⟩ := I.list h'
  rw [e] at e'; cases e'
  rw [d] at d'
  injection d' with d1 _
  have : its = its' := by simpa using congrArg Array.toList d1
  subst this
  exact r.inj r'
end

abbrev Cx.wish (X : Cx) (E : Value → Shared → Prop) : Cx := { X with xe := E }
abbrev Cx.nox (X : Cx) : Cx := X.wish fun _ _ => False
theorem Cx.Ok.wish {X : Cx} (ok : X.Ok) (E : Value → Shared → Prop) : (X.wish E).Ok :=
  ⟨ok.mod, ok.kind, ok.glob, ok.blt, ok.above, ok.inj, ok.has, ok.cab, ok.hd, ok.frames, ok.stk, ok.exf, ok.bs, ok.bsz, ok.noex, ok.exfs, ok.funs, ok.frf⟩
theorem Cx.Ok.unwish {X : Cx} {E : Value → Shared → Prop} (ok : (X.wish E).Ok) : X.Ok :=
  ⟨ok.mod, ok.kind, ok.glob, ok.blt, ok.above, ok.inj, ok.has, ok.cab, ok.hd, ok.frames, ok.stk, ok.exf, ok.bs, ok.bsz, ok.noex, ok.exfs, ok.funs, ok.frf⟩
section
variable {X : Cx} {pins : List (Addr × Obj)} {σ : St} {H : Hp} {s : Shared} {E : Value → Shared → Prop}
theorem Inv.wish (I : Inv X pins σ H s) (E : Value → Shared → Prop) : Inv (X.wish E) pins σ H s := ⟨I.ok.wish E, I.os, I.bare, I.base, I.loc, I.cell, I.free, I.freeC, I.pin, I.hok, I.len⟩
theorem Inv.unwish (I : Inv (X.wish E) pins σ H s) : Inv X pins σ H s := ⟨I.ok.unwish, I.os, I.bare, I.base, I.loc, I.cell, I.free, I.freeC, I.pin, I.hok, I.len⟩
theorem SP.unwish {D : Ends} {f : Flow} {s' : Shared} (h : SP (X.wish E) pins D f s') : SP X pins D f s' := by
  cases f with
  | next => obtain ⟨σ', H', I, q⟩ := h; exact ⟨σ', H', I.unwish, q⟩
  | brk => obtain ⟨σ', H', I, q⟩ := h; exact ⟨σ', H', I.unwish, q⟩
  | cont => obtain ⟨σ', H', I, q⟩ := h; exact ⟨σ', H', I.unwish, q⟩
  | ret u => obtain ⟨v, σ', H', I, r, q⟩ := h; exact ⟨v, σ', H', I.unwish, r, q⟩
theorem PSs.nox {st : List Stmt} {t : TS} (h : PSs X.nox st t) : PSs X st t := fun pins s σ H D I hw =>
  wpAny_mono (h pins s σ H D (I.wish _) hw) (fun _ _ q => q.unwish) fun _ _ z => False.elim z
end

section
variable {X : Cx} {st : Stmt} {rest : List Stmt} {t u : TS} {e : Expr} {te : TE} {pos : Pos}
def tNext : TS := fun D σ H => D.nx σ H
def tSeq (t u : TS) : TS := fun D σ H => t { D with nx := u D } σ H
theorem pss_nil : PSs X [] tNext := fun _ _ σ H _ I h => wpAny_execs_nil ⟨σ, H, I, h⟩
theorem pss_cons (h1 : PS X st t) (h2 : PSs X rest u) : PSs X (st :: rest) (tSeq t u) := by
  intro pins s σ H D I h
  refine wpAny_execs_cons (thn (h1 pins s σ H { D with nx := u D } I h) fun f s1 q => ?_)
  cases f with
  | next =>
    obtain ⟨σ', H', I', q⟩ := q
    exact h2 pins s1 σ' H' D I' q
  | ret v => exact q
  | brk => exact q
  | cont => exact q
theorem pss_one (h1 : PS X st t) : PSs X [st] t := by
  intro pins s σ H D I h
  refine wpAny_execs_cons (thn (h1 pins s σ H D I h) fun f s1 q => ?_)
  cases f with
  | next => exact wpAny_execs_nil q
  | ret v => exact q
  | brk => exact q
  | cont => exact q
theorem Inv.quiet {pins : List (Addr × Obj)} {σ : St} {H : Hp} {s : Shared} (I : Inv X pins σ H s) : interactive X.env = false := by simp [interactive, I.ok.kind]
def tDrop (te : TE) : TS := fun D σ H => te σ H fun _ H1 => D.nx σ H1
theorem ps_expr (he : PE X e te) (hs : swapsWith e none pos.line X.env = pure false := by rfl) : PS X (.Expr e pos) (tDrop te) := by
  intro pins s σ H D I h
  exact wpAny_Expr_any (thn (he pins s σ H _ I h) fun v s1 ⟨x, H1, I1, r1, q1⟩ => ⟨σ, H1, I1, q1⟩) I.quiet hs
def tRet (te : TE) : TS := fun D σ H => te σ H D.rt
theorem ps_ret (he : PE X e te) : PS X (.Return (some e) pos) (tRet te) := by
  intro pins s σ H D I h
  exact wpAny_Return_some (thn (he pins s σ H _ I h) fun v s1 ⟨x, H1, I1, r1, q1⟩ => ⟨x, σ, H1, I1, r1, q1⟩)
def tIfS (c : TT) (t u : TS) : TS := fun D σ H => c σ H fun b H1 => if b = true then t D σ H1 else u D σ H1
theorem ps_if {c : Expr} {a b : List Stmt} {tc : TT} (hc : PT X c tc) (ha : PSs X a t) (hb : PSs X b u) : PS X (.If c a b pos) (tIfS tc t u) := by
  intro pins s σ H D I h
  refine wpAny_If (thn (hc pins s σ H _ I h) fun d s1 hq9 => ?_)
  obtain ⟨H1, I1, q1⟩ := hq9
  cases d with
  | true => exact ha pins s1 σ H1 D I1 q1
  | false => exact hb pins s1 σ H1 D I1 q1
end

abbrev TG := V → St → Hp → (St → Hp → Prop) → Prop
abbrev TGs := List V → St → Hp → (St → Hp → Prop) → Prop
def PG (X : Cx) (target : Expr) (t : TG) : Prop :=
  ∀ (pins : List (Addr × Obj)) (s : Shared) (σ : St) (H : Hp) (v : V) (u : Value) (Q : St → Hp → Prop), Inv X pins σ H s → RelV v u → t v σ H Q →
    wpAny (model X.prog X.w) X.A (assign target X.env u) (fun _ s' => ∃ σ' H', Inv X pins σ' H' s' ∧ Q σ' H') X.xe s
def PGs (X : Cx) (ts : List Expr) (t : TGs) : Prop :=
  ∀ (pins : List (Addr × Obj)) (s : Shared) (σ : St) (H : Hp) (vs : List V) (us : List Value) (Q : St → Hp → Prop), Inv X pins σ H s → Vals vs us → t vs σ H Q →
    wpAny (model X.prog X.w) X.A (assignInOrder ((assignEach ts X.env).map (·.2)) us) (fun _ s' => ∃ σ' H', Inv X pins σ' H' s' ∧ Q σ' H') X.xe s
section
variable {X : Cx} {pos : Pos}
def gName (i : Nat) : TG := fun v σ H Q => Q (σ.set i (some v)) H
theorem pg_name {i : Nat} {x : Str} (hN : X.N.Nodup) (hi : X.N[i]? = some x) (hx : Loc X.env.scope x) (hf : X.fn x = true ∨ X.env.scope.names.lookup x = some .local := by first | exact .inl rfl | exact .inr rfl | assumption) : PG X (.Name x pos) (gName i) := by
  intro pins s σ H v u Q I r h
  exact wpAny_assign_Name (store_ok I hN hi hx r (fun s' I' => ⟨_, H, I', h⟩) hf)
def gNil : TGs := fun vs σ H Q => vs = [] ∧ Q σ H
def gCons (t : TG) (u : TGs) : TGs := fun vs σ H Q => ∃ v r, vs = v :: r ∧ t v σ H fun σ' H' => u r σ' H' Q
theorem pgs_nil : PGs X [] gNil := by
  intro pins s σ H vs us Q I r h
  obtain ⟨e, h⟩ := h
  subst e
  cases r
  exact assignInOrder_nil ⟨σ, H, I, h⟩
theorem pgs_cons {e : Expr} {es : List Expr} {t : TG} {u : TGs} (h1 : PG X e t) (h2 : PGs X es u)
    (hs : (assignEach (e :: es) X.env).map (·.2) = assign e X.env :: (assignEach es X.env).map (·.2) := by rfl) : PGs X (e :: es) (gCons t u) := by
  intro pins s σ H vs us Q I r h
  obtain ⟨v, vr, e1, h⟩ := h
  subst e1
  cases r with
  | cons r rr =>
    rw [hs]
    refine assignInOrder_cons (thn (h1 pins s σ H _ _ _ I r h) fun _ s1 hq9 => ?_)
    obtain ⟨σ1, H1, I1, q1⟩ := hq9
    exact h2 pins s1 σ1 H1 _ _ Q I1 rr q1
def gTup (K : PySem.W.Frag) (n : Nat) (t : TGs) : TG := fun v σ H Q => ∃ a xs, v = .ref a ∧ SqT K H a xs ∧ xs.length = n ∧ t xs σ H Q
theorem pg_tup {es : List Expr} {k : Nat} {t : TGs} {n : Nat} (hc : X.calm = true) (h : PGs X es t)
    (hn : (assignEach es X.env).length = n := by rfl) (hst : (assignEach es X.env).findIdx? (·.1) = none := by rfl) : PG X (.Tuple es k pos) (gTup X.K n t) := by
  intro pins s σ H v u Q I r hw
  obtain ⟨a, xs, e1, hq, hl, hw⟩ := hw
  subst e1
  cases r
  obtain ⟨its, rv, ht, hz⟩ := I.tuple hq
  refine assign_Tuple_tuple (I.ok.hd hc) ht (by simp [hn, ← hl, rv.length]) hst fun h' hx => ?_
  have I1 : Inv X pins σ H { s with heap := h' } := I.kept (t' := s.toks) fun b o e => hx b o (Nat.ne_of_lt (Heap.lt_size e)) e
  exact h pins _ σ H xs _ Q I1 (by simpa using rv) hw
def tAsg (te : TE) (g : TG) : TS := fun D σ H => te σ H fun x H1 => g x σ H1 D.nx
theorem ps_set {i : Nat} {x : Str} {e : Expr} {te : TE} {pos' : Pos} (hN : X.N.Nodup) (hi : X.N[i]? = some x) (hx : Loc X.env.scope x) (he : PE X e te) (hs : swapsWith e (some (.Name x pos')) pos.line X.env = pure false := by rfl) (hf : X.fn x = true ∨ X.env.scope.names.lookup x = some .local := by first | exact .inl rfl | exact .inr rfl | assumption) :
    PS X (.Assign [.Name x pos'] e pos) (tAsg te (gName i)) := by
  intro pins s σ H D I h
  refine wpAny_Assign_Name (thn (he pins s σ H _ I h) fun v s1 ⟨y, H1, I1, r1, q1⟩ => ?_) hs
  exact store_ok I1 hN hi hx r1 (fun s2 I2 => ⟨_, H1, I2, q1⟩) hf
end

section
variable {X : Cx} {pos : Pos}
end

structure It where
  go : Nat → Hp → Prop
  yld : Nat → Hp → V → Hp → Prop
  stop : Nat → Hp → Prop
def FpOk (X : Cx) (pins : List (Addr × Obj)) (H : Hp) (b : Addr) : Prop :=
  H b = none ∧ b ≠ X.env.locals ∧ b ∉ X.fs ∧ (b ∈ X.ex ∨ X.s₀.heap.objs.size ≤ b) ∧ (∀ x c, X.env.cells.lookup x = some c → c ≠ b) ∧ ∀ p ∈ X.pn ++ pins, p.1 ≠ b
theorem Inv.fpOk {X : Cx} {pins : List (Addr × Obj)} {σ : St} {H H' : Hp} {s : Shared} {b : Addr} (I : Inv X pins σ H s) (hb : s.heap.objs.size ≤ b) (hn : H' b = none) : FpOk X pins H' b := by
  refine ⟨hn, Nat.ne_of_gt (Nat.lt_of_lt_of_le I.lt hb), I.nofs hb, .inr (Nat.le_trans I.sz hb), fun x c e z => ?_, fun p hp z => ?_⟩
  · obtain ⟨v, q⟩ := I.cell x c e
    exact absurd (Nat.lt_of_lt_of_le q.lt (by rw [z]; exact hb)) (Nat.lt_irrefl _)
  · exact absurd (Nat.lt_of_lt_of_le (Heap.lt_size (I.pin p hp).1) (by rw [z]; exact hb)) (Nat.lt_irrefl _)
structure Turn (P : Program) (w : World) (K : PySem.W.Frag) (tg : Expr) (J : It) (fp : List Addr) (it : Addr) (tn : Nat → Heap → Prop) : Prop where
  mem : it ∈ fp
  obj : ∀ i h, tn i h → ∀ b ∈ fp, ∃ o, h.get? b = some o ∧ ∀ v, o.data ≠ .cell v
  keep : ∀ i h h', tn i h → (∀ b ∈ fp, ∀ o, h.get? b = some o → h'.get? b = some o) → tn i h'
  item : ∀ (X : Cx), X.prog = P → X.w = w → X.K = K → X.calm = true → ∀ (i : Nat) (pins : List (Addr × Obj)) (s : Shared) (σ : St) (H : Hp) (E : Value → Shared → Prop), Inv X pins σ H s → (∀ b ∈ fp, FpOk X pins H b) → tn i s.heap → J.go i H →
    wpAny (model P w) X.A (pyNext (.ref it)) (fun r s1 => ∃ u, r = some u ∧
      wpAny (model P w) X.A (letOwnedTupleGo tg (.ref it) u) (fun _ s2 => ∃ x H', Inv X pins σ H' s2 ∧ RelV x u ∧ J.yld i H x H' ∧ tn (i + 1) s2.heap ∧ ∀ b ∈ fp, H' b = none) E s1) E s
  done : ∀ (X : Cx), X.prog = P → X.w = w → X.K = K → X.calm = true → ∀ (i : Nat) (pins : List (Addr × Obj)) (s : Shared) (σ : St) (H : Hp) (E : Value → Shared → Prop), Inv X pins σ H s → (∀ b ∈ fp, FpOk X pins H b) → tn i s.heap → J.stop i H →
    wpAny (model P w) X.A (pyNext (.ref it)) (fun r s1 => r = none ∧ Inv X pins σ H s1) E s
  self : ∀ (A : Around) (i : Nat) (s : Shared) (Q : Value → Shared → Prop) (E : Value → Shared → Prop), tn i s.heap → Q (.ref it) s → wpAny (model P w) A (pyIter (.ref it)) Q E s
abbrev TI := St → Hp → (It → Hp → Prop) → Prop
def PIE (X : Cx) (pins : List (Addr × Obj)) (σ : St) (tg : Expr) (R : It → Hp → Prop) (itv : Value) (s2 : Shared) : Prop :=
  ∃ (it : Addr) (fp : List Addr) (tn : Nat → Heap → Prop) (J : It) (H' : Hp), itv = .ref it ∧ Inv X pins σ H' s2 ∧ Turn X.prog X.w X.K tg J fp it tn ∧ tn 0 s2.heap ∧ (∀ b ∈ fp, FpOk X pins H' b) ∧ R J H'
def PI (X : Cx) (tg iter : Expr) (wi : TI) : Prop :=
  ∀ (pins : List (Addr × Obj)) (s : Shared) (σ : St) (H : Hp) (R : It → Hp → Prop), Inv X pins σ H s → wi σ H R →
    wpAny (model X.prog X.w) X.A (eval iter X.env) (fun v s1 => wpAny (model X.prog X.w) X.A (pyIter v) (PIE X pins σ tg R) X.xe s1) X.xe s

theorem go_of {M : Model} {A : Around} {E : Value → Shared → Prop} {s : Shared} {tg : Expr} {it : Addr} {u : Value} {o : Obj} {n : String} {vs : Array Value} {Q : Unit → Shared → Prop} (ho : s.heap.get? it = some o) (hc : o.cls = .type n) (hd : o.data = .fields vs)
    (hn : ["enumerate", "zip", "dict_itemiterator", "dict_reverseitemiterator", "odict_iterator", "itertools.zip_longest", "itertools.pairwise"].contains n = false) (hQ : Q () s) : wpAny M A (letOwnedTupleGo tg (.ref it) u) Q E s := by
  unfold letOwnedTupleGo
  cases tg <;> first
    | exact wpAny_pure hQ
    | (cases u <;> first
        | exact wpAny_pure hQ
        | (refine wpAny_bind (wpAny_load ho ?_)
           rw [hc, hd]
           show wpAny M A (if (["enumerate", "zip", "dict_itemiterator", "dict_reverseitemiterator", "odict_iterator", "itertools.zip_longest", "itertools.pairwise"].contains n && vs[0]? == some (rawInt _)) = true then _ else _) Q E s
           rw [if_neg (by intro h; rw [hn, Bool.false_and] at h; cases h)]
           exact wpAny_pure hQ))

def Itl (K : PySem.W.Frag) (a : Addr) : It :=
  ⟨fun i H => ∃ xs x, SqL K H a xs ∧ xs[i]? = some x, fun i H x H' => H' = H ∧ ∀ xs, SqL K H a xs → xs[i]? = some x, fun i H => ∃ xs, SqL K H a xs ∧ xs.length ≤ i⟩
def Itr (lo : Int) (n : Nat) : It := ⟨fun i _ => i < n, fun i H x H' => H' = H ∧ x = .int (lo + i), fun i _ => n ≤ i⟩
theorem turn_list {P : Program} {w : World} {K : PySem.W.Frag} {tg : Expr} (a it : Addr) : Turn P w K tg (Itl K a) [it] it (fun i h => h.IsListIter it a i) where
  mem := by simp
  obj := fun i h st b hb => by
    have e : b = it := by simpa using hb
    subst e
    obtain ⟨o, e, c, d⟩ := st
    exact ⟨o, e, fun v z => by rw [d] at z; cases z⟩
  keep := fun i h h' st k => st.at fun o e => k it (by simp) o e
  item := by
    intro X hP hw hK hc i pins s σ H E I hf st hg
    subst hP hw hK
    obtain ⟨xs, x, hq, hx⟩ := hg
    obtain ⟨its, rv, p, hz⟩ := I.list hq
    obtain ⟨u, hu, ru⟩ := rv.get hx
    obtain ⟨f0, f1, f2, f3, f4, f5⟩ := hf it (by simp)
    refine wpAny_pyNext_list_item st p.isList (x := u) (by simpa using hu) fun h' st' sb => ?_
    have I1 : Inv X pins σ H { s with heap := h' } := I.turned (t' := s.toks) (fun b o hb e => (sb.2 b hb).trans e) f0 f1 f3 f4 f5
    obtain ⟨o, e, c, d⟩ := id st'
    exact ⟨u, rfl, go_of (s := { s with heap := h' }) e c d (by decide) ⟨x, H, I1, ru, ⟨rfl, fun ys hy => by rw [I.list_inj hy hq]; exact hx⟩, st', fun b hb => (hf b hb).1⟩⟩
  done := by
    intro X hP hw hK hc i pins s σ H E I hf st hg
    subst hP hw hK
    obtain ⟨xs, hq, hx⟩ := hg
    obtain ⟨its, rv, p, hz⟩ := I.list hq
    obtain ⟨f0, f1, f2, f3, f4, f5⟩ := hf it (by simp)
    have hl := rv.length
    exact wpAny_pyNext_list_end (I.ok.hd hc) st p.isList (by simp; omega) fun h' eb => ⟨rfl, I.turned (t' := s.toks) (fun b o hb e => eb b o hb e) f0 f1 f3 f4 f5⟩
  self := fun _ _ _ _ _ st h => wpAny_pyIter_listiter st h
theorem turn_range {P : Program} {w : World} {K : PySem.W.Frag} {tg : Expr} (it : Addr) (lo : Int) (n : Nat) : Turn P w K tg (Itr lo n) [it] it (fun i h => IsRangeIter h it (lo + (i : Nat) * 1) ((n : Int) - (i : Nat)) 1) where
  mem := by simp
  obj := fun i h st b hb => by
    have e : b = it := by simpa using hb
    subst e
    exact ⟨_, st, fun v z => by
      have z' : Data.fields _ = Data.cell v := z
      cases z'⟩
  keep := fun i h h' st k => k it (by simp) _ st
  item := by
    intro X hP hw hK hc i pins s σ H E I hf st hg
    subst hP hw hK
    obtain ⟨f0, f1, f2, f3, f4, f5⟩ := hf it (by simp)
    have W := Walks.range (prog := X.prog) (w := X.w) (I.ok.hd hc) it lo 1 n
    refine W.item i s _ _ hg st fun v h' tk hv st' kk => ?_
    obtain ⟨t, rfl⟩ := hv
    have I1 : Inv X pins σ H { s with heap := h', toks := tk } := I.turned (fun b o hb e => kk b o (by simpa using hb) e) f0 f1 f3 f4 f5
    refine ⟨_, rfl, go_of (s := { s with heap := h', toks := tk }) (n := "range_iterator") st' rfl rfl (by decide) ⟨.int (lo + i), H, I1, ⟨t, ?_⟩, ⟨rfl, rfl⟩, st', fun b hb => (hf b hb).1⟩⟩
    rw [Int.mul_one]
  done := by
    intro X hP hw hK hc i pins s σ H E I hf st hg
    subst hP hw hK
    obtain ⟨f0, f1, f2, f3, f4, f5⟩ := hf it (by simp)
    exact wpAny_pyNext_range_end (I.ok.hd hc) st (by have : n ≤ i := hg; omega) fun h' eb => ⟨rfl, I.turned (t' := s.toks) (fun b o hb e => eb b o hb e) f0 f1 f3 f4 f5⟩
  self := fun _ _ _ _ _ st h => wpAny_pyIter_rangeiter st h
end L2

namespace L2
open PySem PySem.Spec PyProof.Rows
section
variable {X : Cx} {tg : Expr}
def iList (K : PySem.W.Frag) (tl : TE) : TI := fun σ H R => tl σ H fun x H1 => ∃ a, x = .ref a ∧ (∃ xs, SqL K H1 a xs) ∧ R (Itl K a) H1
theorem pi_list {l : Expr} {tl : TE} (hl : PE X l tl) : PI X tg l (iList X.K tl) := by
  intro pins s σ H R I h
  refine thn (hl pins s σ H _ I h) fun v s1 hq9 => ?_
  obtain ⟨x, H1, I1, r1, q1⟩ := hq9
  obtain ⟨a, e, ⟨xs, hq⟩, q⟩ := q1
  subst e
  cases r1
  obtain ⟨its, rv, p, hz⟩ := I1.list hq
  refine wpAny_pyIter_list p.isList ?_
  refine ⟨s1.heap.objs.size, [s1.heap.objs.size], _, _, H1, rfl, I1.kept (t' := s1.toks) fun b o e => Heap.get?_push_of_some _ e, turn_list a _, ⟨_, Heap.get?_push_size _ rfl, rfl, rfl⟩, fun b hb => ?_, q⟩
  have e : b = s1.heap.objs.size := by simpa using hb
  subst e
  exact I1.fpOk (Nat.le_refl _) (I1.hok.fresh (Nat.le_refl _))
theorem range_it {pins : List (Addr × Obj)} {σ : St} {H : Hp} {s : Shared} {R : It → Hp → Prop} {E : Value → Shared → Prop} {lo hi : Int} {t u v : Tok} {tk : Nat} (I : Inv X pins σ H s) (h1 : -(2 ^ 62) ≤ lo) (h2 : lo < 2 ^ 62) (h3 : -(2 ^ 62) ≤ hi) (h4 : hi < 2 ^ 62)
    (q : R (Itr lo (hi - lo).toNat) H) : wpAny (model X.prog X.w) X.A (pyIter (.ref s.heap.objs.size)) (PIE X pins σ tg R) E { s with heap := s.heap.push { cls := .type "range", data := .fields #[.int lo t, .int hi u, .int 1 v] }, toks := tk } := by
  refine wpAny_pyIter_range (IsRange.new ..) (small_one h1 h2 h3 h4) ?_
  have I1 : Inv X pins σ H { s with heap := s.heap.push { cls := .type "range", data := .fields #[.int lo t, .int hi u, .int 1 v] }, toks := tk } := I.kept fun b o e => Heap.get?_push_of_some _ e
  refine ⟨(s.heap.push { cls := .type "range", data := .fields #[.int lo t, .int hi u, .int 1 v] }).objs.size, [(s.heap.push { cls := .type "range", data := .fields #[.int lo t, .int hi u, .int 1 v] }).objs.size], _, _, H, rfl,
    I1.kept (t' := tk) fun b o e => Heap.get?_push_of_some _ e, turn_range _ lo (hi - lo).toNat, ?_, fun b hb => ?_, q⟩
  · have e1 : lo + ((0 : Nat) : Int) * 1 = lo := by simp
    have e2 : (((hi - lo).toNat : Nat) : Int) - ((0 : Nat) : Int) = Builtin.Range.rangeSize lo hi 1 := by rw [rangeSize_one]; split <;> omega
    show IsRangeIter _ _ (lo + ((0 : Nat) : Int) * 1) ((((hi - lo).toNat : Nat) : Int) - ((0 : Nat) : Int)) 1
    rw [e1, e2]
    exact Heap.get?_push_size _ rfl
  · have e : b = (s.heap.push { cls := .type "range", data := .fields #[.int lo t, .int hi u, .int 1 v] }).objs.size := by simpa using hb
    subst e
    exact I1.fpOk (Nat.le_refl _) (I1.hok.fresh (Nat.le_refl _))
def iRng1 (ta : TA) : TI := fun σ H R => ta σ H fun vs H1 => ∃ j : Int, vs = [.int j] ∧ -(2 ^ 62) ≤ j ∧ j < 2 ^ 62 ∧ R (Itr 0 j.toNat) H1
theorem pi_range1 {a : Expr} {ta : TA} {p pos : Pos} (hg : Gl X "range") (hm : X.mg "range" = none) (ha : PA X [a] ta) (hs : starEach [a] X.env = [(false, eval a X.env)] := by rfl) : PI X tg (.Call (.Name "range" p) [a] [] pos) (iRng1 ta) := by
  intro pins s σ H R I h
  refine Call_ (ld_blt I hg hm boot_range (PyProof.Rows.callWith_type1 (thn (ha pos pins s σ H _ I h) fun us s1 ⟨vs, H1, I1, r1, q1⟩ => ?_) hs rfl))
  obtain ⟨j, e, q1, q2, q⟩ := q1
  subst e
  cases r1 with
  | cons r rr =>
    cases rr
    obtain ⟨t, rfl⟩ := r
    exact call_range_1 (range_it I1 (by omega) (by omega) q1 q2 (by simpa using q))
def tFor (wi : TI) (g : TG) (tb : TS) : TS := fun D σ H => wi σ H fun J H1 => ∃ W : Nat → Nat → St → Hp → Prop, (∃ m, W 0 m σ H1) ∧ ∀ i m σ H, W i m σ H →
  (J.stop i H ∧ D.nx σ H) ∨ (J.go i H ∧ ∃ N : St → Hp → Prop, (∀ σ' H', N σ' H' → ∃ m', m' < m ∧ W (i + 1) m' σ' H') ∧ ∀ x H', J.yld i H x H' → g x σ H' fun σ2 H2 => tb { D with nx := N, ct := N, bk := D.nx } σ2 H2)
def pinsAt (fp : List Addr) (h : Heap) : List (Addr × Obj) := fp.filterMap fun b => (h.get? b).map fun o => (b, o)
theorem mem_pinsAt {fp : List Addr} {h : Heap} {b : Addr} {o : Obj} (hb : b ∈ fp) (e : h.get? b = some o) : (b, o) ∈ pinsAt fp h := List.mem_filterMap.mpr ⟨b, hb, by rw [e]; rfl⟩
theorem of_pinsAt {fp : List Addr} {h : Heap} {p : Addr × Obj} (hp : p ∈ pinsAt fp h) : p.1 ∈ fp ∧ h.get? p.1 = some p.2 := by
  obtain ⟨b, hb, e⟩ := List.mem_filterMap.mp hp
  cases q : h.get? b with
  | none => rw [q] at e; cases e
  | some o =>
    rw [q] at e
    have e' : (b, o) = p := Option.some.inj e
    subst e'
    exact ⟨hb, q⟩
theorem Inv.pinned {pins : List (Addr × Obj)} {σ : St} {H : Hp} {s : Shared} {fp : List Addr} (I : Inv X pins σ H s) (hf : ∀ b ∈ fp, FpOk X pins H b) (ho : ∀ b ∈ fp, ∃ o, s.heap.get? b = some o ∧ ∀ v, o.data ≠ .cell v) : Inv X (pins ++ pinsAt fp s.heap) σ H s :=
  I.pins_of fun p hp => (List.mem_append.mp hp).elim (fun z => I.pin p (List.mem_append_right _ z)) fun z => by
    obtain ⟨hb, e⟩ := of_pinsAt z
    obtain ⟨f0, f1, f2, _⟩ := hf p.1 hb
    obtain ⟨o, e', d⟩ := ho p.1 hb
    rw [e] at e'; cases e'
    exact ⟨e, f0, f1, f2, d⟩
theorem Inv.unpinned {pins pl : List (Addr × Obj)} {σ : St} {H : Hp} {s : Shared} (I : Inv X (pins ++ pl) σ H s) : Inv X pins σ H s := I.pins_of fun p hp => I.pin p (List.mem_append_right _ (List.mem_append_left _ hp))
theorem ps_for {iter : Expr} {body : List Stmt} {wi : TI} {g : TG} {tb : TS} {pos : Pos} (hp : PassesOwn (model X.prog X.w) X.A X.env X.xe) (hc : X.calm = true) (hi : PI X tg iter wi) (hg : PG X tg g) (hb : PSs X body tb)
    (hs : ∀ x, foldedSetIterable iter X.env x = pure x := by intro _; rfl) : PS X (.For tg iter body [] pos) (tFor wi g tb) := by
  intro pins s σ H D I h
  refine wpAny_For (thn (hi pins s σ H _ I h) fun v s1 h1 => thn h1 fun itv s2 h2 => ?_) hs
  obtain ⟨it, fp, tn, J, H2, e, I2, T, st2, f2, W, ⟨m0, w0⟩, turn⟩ := h2
  subst e
  have stat : ∀ {H' : Hp}, (∀ b ∈ fp, H' b = none) → ∀ b ∈ fp, FpOk X pins H' b := fun hn b hb => ⟨hn b hb, (f2 b hb).2⟩
  refine codeAny_forLoop_any (fun n s' => ∃ i σ' H', Inv X pins σ' H' s' ∧ tn i s'.heap ∧ (∀ b ∈ fp, H' b = none) ∧ W i n σ' H') ?_ m0 ⟨0, σ, H2, I2, st2, fun b hb => (f2 b hb).1, w0⟩
  rintro n s3 ⟨i, σ3, H3, I3, st3, fr3, w3⟩
  rcases turn i n σ3 H3 w3 with ⟨stop, qn⟩ | ⟨go, N, hN, step⟩
  · refine wpAny_passesOwn hp (thn (T.done X rfl rfl rfl hc i pins s3 σ3 H3 X.xe I3 (stat fr3) st3 stop) fun r s4 hq9 => ?_)
    obtain ⟨hr, I4⟩ := hq9
    subst hr
    exact wpAny_execs_nil ⟨σ3, H3, I4, qn⟩
  · refine wpAny_passesOwn hp (thn (T.item X rfl rfl rfl hc i pins s3 σ3 H3 X.xe I3 (stat fr3) st3 go) fun r s4 hq9 => ?_)
    obtain ⟨u, hr, h4⟩ := hq9
    subst hr
    refine wpAny_passesOwn hp (thn h4 fun _ s5 hq9 => ?_)
    obtain ⟨x, H5, I5, r5, y5, st5, fr5⟩ := hq9
    have I5' := I5.pinned (stat fr5) (T.obj _ _ st5)
    refine wpAny_passesOwn hp (thn (hg _ s5 σ3 H5 x u _ I5' r5 (step x H5 y5)) fun _ s6 hq9 => ?_)
    obtain ⟨σ6, H6, I6, q6⟩ := hq9
    refine wpAny_passesOwn hp (thn (hb _ s6 σ6 H6 _ I6 q6) fun f s7 q7 => ?_)
    have again : ∀ {σ7 : St} {H7 : Hp}, Inv X (pins ++ pinsAt fp s5.heap) σ7 H7 s7 → N σ7 H7 → ∃ m, m < n ∧ ∃ i σ' H', Inv X pins σ' H' s7 ∧ tn i s7.heap ∧ (∀ b ∈ fp, H' b = none) ∧ W i m σ' H' := fun {σ7 H7} I7 n7 => by
      obtain ⟨m', hm, w7⟩ := hN σ7 H7 n7
      refine ⟨m', hm, i + 1, σ7, H7, I7.unpinned, T.keep _ _ _ st5 fun b hb o e => (I7.pin (b, o) (List.mem_append_right _ (List.mem_append_right _ (mem_pinsAt hb e)))).1, fun b hb => ?_, w7⟩
      obtain ⟨o, e, d⟩ := T.obj _ _ st5 b hb
      exact (I7.pin (b, o) (List.mem_append_right _ (List.mem_append_right _ (mem_pinsAt hb e)))).2.1
    cases f with
    | next => obtain ⟨σ7, H7, I7, n7⟩ := q7; exact again I7 n7
    | cont => obtain ⟨σ7, H7, I7, n7⟩ := q7; exact again I7 n7
    | brk => obtain ⟨σ7, H7, I7, q7⟩ := q7; exact ⟨σ7, H7, I7.unpinned, q7⟩
    | ret v => obtain ⟨x7, σ7, H7, I7, r7, q7⟩ := q7; exact ⟨x7, σ7, H7, I7.unpinned, r7, q7⟩
end

end L2

namespace L2
open PySem PySem.Spec PyProof.Rows

abbrev R2 := V → V → Hp → VK → Prop
def OpR (X : Cx) (f : Value → Value → Sem Value) (r : R2) : Prop :=
  ∀ (pins : List (Addr × Obj)) (s : Shared) (σ : St) (H : Hp) (x y : V) (v u : Value) (Q : VK), Inv X pins σ H s → RelV x v → RelV y u → r x y H Q →
    wpAny (model X.prog X.w) X.A (f v u) (EP X pins σ Q) X.xe s
def CallR (X : Cx) (f : Value) (r : List V → Hp → VK → Prop) : Prop :=
  ∀ (pins : List (Addr × Obj)) (s : Shared) (σ : St) (H : Hp) (xs : List V) (us : List Value) (Q : VK), Inv X pins σ H s → Vals xs us → r xs H Q →
    wpAny (model X.prog X.w) X.A (call f us) (EP X pins σ Q) X.xe s
def tOp (r : R2) (ta tb : TE) : TE := fun σ H Q => ta σ H fun x H1 => tb σ H1 fun y H2 => r x y H2 Q
def rI (C : Int → Int → Prop) (g : Int → Int → V) : R2 := fun x y H Q => ∃ i j, x = .int i ∧ y = .int j ∧ C i j ∧ Q (g i j) H
def rI0 (g : Int → Int → V) : R2 := fun x y H Q => ∃ i j, x = .int i ∧ y = .int j ∧ Q (g i j) H
section
variable {X : Cx} {a b c : Expr} {ta tb tc : TE} {pos : Pos}

theorem binT (ha : PE X a ta) (hb : PE X b tb) {pins : List (Addr × Obj)} {s : Shared} {σ : St} {H : Hp} {R : V → V → Hp → Prop} (I : Inv X pins σ H s)
    (h : ta σ H fun x H1 => tb σ H1 fun y H2 => R x y H2) {Q : Value → Shared → Prop} {f : Value → Value → Sem Value}
    (hf : ∀ v u s2 x y H2, Inv X pins σ H2 s2 → RelV x v → RelV y u → R x y H2 → wpAny (model X.prog X.w) X.A (f v u) Q X.xe s2) :
    wpAny (model X.prog X.w) X.A (eval a X.env) (fun v s₁ => wpAny (model X.prog X.w) X.A (eval b X.env) (fun u s₂ => wpAny (model X.prog X.w) X.A (f v u) Q X.xe s₂) X.xe s₁) X.xe s := by
  refine thn (ha pins s σ H _ I h) fun v s1 hq9 => ?_
  obtain ⟨x, H1, I1, r1, q1⟩ := hq9
  refine thn (hb pins s1 σ H1 _ I1 q1) fun u s2 hq9 => ?_
  obtain ⟨y, H2, I2, r2, q2⟩ := hq9
  exact hf v u s2 x y H2 I2 r1 r2 q2

theorem pe_op {op : Operator} {r : R2} (ho : OpR X (binaryOp op) r) (ha : PE X a ta) (hb : PE X b tb) : PE X (.BinOp a op b pos) (tOp r ta tb) := by
  intro pins s σ H Q I h
  exact wpAny_BinOp (binT ha hb I h fun v u s2 x y H2 I2 rx ry q => ho pins s2 σ H2 x y v u Q I2 rx ry q)
theorem opI {f : Value → Value → Sem Value} {C : Int → Int → Prop} {g : Int → Int → Int}
    (rule : ∀ (i j : Int) (t u : Tok) (s : Shared) (Q : Value → Shared → Prop) (E : Value → Shared → Prop), C i j → Q (.int (g i j) s.toks) { s with toks := s.toks + 1 } → wpAny (model X.prog X.w) X.A (f (.int i t) (.int j u)) Q E s) :
    OpR X f (rI C fun i j => .int (g i j)) := by
  intro pins s σ H x y v u Q I rx ry h
  obtain ⟨i, j, rfl, rfl, hc, q⟩ := h
  obtain ⟨t, rfl⟩ := rx
  obtain ⟨t', rfl⟩ := ry
  exact rule i j t t' s _ _ hc ⟨.int (g i j), H, I.tok _, ⟨_, rfl⟩, q⟩
theorem opI0 {f : Value → Value → Sem Value} {g : Int → Int → Int}
    (rule : ∀ (i j : Int) (t u : Tok) (s : Shared) (Q : Value → Shared → Prop) (E : Value → Shared → Prop), Q (.int (g i j) s.toks) { s with toks := s.toks + 1 } → wpAny (model X.prog X.w) X.A (f (.int i t) (.int j u)) Q E s) :
    OpR X f (rI0 fun i j => .int (g i j)) := by
  intro pins s σ H x y v u Q I rx ry h
  obtain ⟨i, j, rfl, rfl, q⟩ := h
  obtain ⟨t, rfl⟩ := rx
  obtain ⟨t', rfl⟩ := ry
  exact rule i j t t' s _ _ ⟨.int (g i j), H, I.tok _, ⟨_, rfl⟩, q⟩
theorem opB0 {f : Value → Value → Sem Value} {g : Int → Int → Bool}
    (rule : ∀ (i j : Int) (t u : Tok) (s : Shared) (Q : Value → Shared → Prop) (E : Value → Shared → Prop), Q (.bool (g i j)) s → wpAny (model X.prog X.w) X.A (f (.int i t) (.int j u)) Q E s) :
    OpR X f (rI0 fun i j => .bl (g i j)) := by
  intro pins s σ H x y v u Q I rx ry h
  obtain ⟨i, j, rfl, rfl, q⟩ := h
  obtain ⟨t, rfl⟩ := rx
  obtain ⟨t', rfl⟩ := ry
  exact rule i j t t' s _ _ ⟨.bl (g i j), H, I, rfl, q⟩

def CPow (i j : Int) : Prop := 0 ≤ j ∧ j ≤ 1000000 ∧ i.natAbs < 2 ^ 64
def CMul (i j : Int) : Prop := (-(2 ^ 64) < i ∧ i < 2 ^ 64) ∨ (-(2 ^ 64) < j ∧ j < 2 ^ 64)
theorem CMul.ok {i j : Int} (h : CMul i j) : IntMulOk i j := by
  rcases h with ⟨h1, h2⟩ | ⟨h1, h2⟩
  · exact .of_left (intBits_le_64 h1 h2)
  · exact .of_right (intBits_le_64 h1 h2)
theorem two_pow_nn (k : Nat) : (0 : Int) ≤ 2 ^ k := by
  rw [two_pow_cast]
  exact Int.natCast_nonneg _

theorem op_add : OpR X (binaryOp .Add) (rI0 fun i j => .int (i + j)) := opI0 fun _ _ _ _ _ _ _ q => add_int q
theorem op_sub : OpR X (binaryOp .Sub) (rI0 fun i j => .int (i - j)) := opI0 fun _ _ _ _ _ _ _ q => sub_int q
theorem op_modN : OpR X (binaryOp .Mod) (rI (fun _ j => j ≠ 0) fun i j => .int (i.fmod j)) := opI fun _ _ _ _ _ _ _ hc q => mod_int' hc q
theorem op_pow : OpR X (binaryOp .Pow) (rI CPow fun i j => .int (i ^ j.toNat)) := opI fun _ _ _ _ _ _ _ hc q => pow_int_small hc.1 hc.2.1 hc.2.2 q
theorem op_shl : OpR X (binaryOp .LShift) (rI CPow fun i j => .int (i * 2 ^ j.toNat)) := opI fun _ _ _ _ _ _ _ hc q => lshift_int_small hc.1 hc.2.1 hc.2.2 q
theorem op_shr : OpR X (binaryOp .RShift) (rI (fun _ j => 0 ≤ j) fun i j => .int (i / 2 ^ j.toNat)) := opI fun i j _ _ _ _ _ hc q =>
  rshift_int hc (by rw [Int.fdiv_eq_ediv_of_nonneg i (two_pow_nn _)]; exact q)
end

section
variable {X : Cx} {a b c : Expr} {ta tb tc : TE} {pos : Pos}
theorem fin_bl {pins : List (Addr × Obj)} {σ : St} {H : Hp} {s : Shared} {Q : VK} {k k' : Bool} (I : Inv X pins σ H s) (q : Q (.bl k) H) (e : k = k') : EP X pins σ Q (.bool k') s := by
  subst e
  exact ⟨.bl k, H, I, rfl, q⟩
theorem op_lt : OpR X (compareOp .Lt) (rI0 fun i j => .bl (decide (i < j))) := opB0 fun _ _ _ _ _ _ _ q => lt_int q
theorem op_gt : OpR X (compareOp .Gt) (rI0 fun i j => .bl (decide (j < i))) := opB0 fun _ _ _ _ _ _ _ q => gt_int q
theorem op_ge : OpR X (compareOp .GtE) (rI0 fun i j => .bl (decide (j ≤ i))) := opB0 fun _ _ _ _ _ _ _ q => ge_int q
theorem op_isN : OpR X (compareOp .Is) (fun x y H Q => y = .non ∧ Q (.bl (decide (x = .non))) H) := by
  intro pins s σ H x y v u Q I rx ry h
  obtain ⟨rfl, q⟩ := h
  cases ry
  refine is_none_gen (fin_bl I q ?_)
  cases x <;> first
    | (cases rx; rfl)
    | (obtain ⟨t, rfl⟩ := rx; rfl)
theorem OpR.or {f : Value → Value → Sem Value} {r r' : R2} (h : OpR X f r) (h' : OpR X f r') : OpR X f (fun x y H Q => r x y H Q ∨ r' x y H Q) := by
  intro pins s σ H x y v u Q I rx ry q
  rcases q with q | q
  · exact h pins s σ H x y v u Q I rx ry q
  · exact h' pins s σ H x y v u Q I rx ry q

theorem nomark (b : Expr) {op : CmpOp} (h : op ≠ .In := by decide) (h2 : op ≠ .NotIn := by decide) : behindInMarks op b = false := by
  have e1 : (op == CmpOp.In) = false := by cases op <;> first | rfl | exact absurd rfl h
  have e2 : (op == CmpOp.NotIn) = false := by cases op <;> first | rfl | exact absurd rfl h2
  cases b <;> simp [behindInMarks, e1, e2]
theorem pe_cmpR {op : CmpOp} {r : R2} (ho : OpR X (compareOp op) r) (ha : PE X a ta) (hb : PE X b tb) (hm : behindInMarks op b = false) : PE X (.Compare a [op] [b] pos) (tOp r ta tb) := by
  intro pins s σ H Q I h
  exact wpAny_Compare1 (binT ha hb I h fun v u s2 x y H2 I2 rx ry q => ho pins s2 σ H2 x y v u Q I2 rx ry q) hm
def tTest (t : TE) : TT := fun σ H Q => t σ H fun x H' => ∃ k, x = .bl k ∧ Q k H'
theorem pt_cmpR {op : CmpOp} {r : R2} (ho : OpR X (compareOp op) r) (ha : PE X a ta) (hb : PE X b tb) (hm : behindInMarks op b = false) : PT X (.Compare a [op] [b] pos) (tTest (tOp r ta tb)) := by
  intro pins s σ H Q I h
  refine wpAny_isTrue_Compare1 (thn (ha pins s σ H _ I h) fun v s1 ⟨x, H1, I1, r1, q1⟩ => thn (hb pins s1 σ H1 _ I1 q1) fun u s2 ⟨y, H2, I2, r2, q2⟩ =>
    thn (ho pins s2 σ H2 x y v u _ I2 r1 r2 q2) fun c s3 ⟨z, H3, I3, r3, k, e, q3⟩ => ?_) hm
  subst e
  cases r3
  exact wpAny_truthy_bool ⟨H3, I3, q3⟩
theorem line63 : (sizeLine : Nat) < 2 ^ 63 := by rw [sizeLine_eq]; decide
theorem op_add_str : OpR X (binaryOp .Add) (fun x y H Q => ∃ i j, x = .str i ∧ y = .str j ∧ i.length + j.length ≤ sizeLine ∧ Q (.str (i ++ j)) H) := by
  intro pins s σ H x y v u Q I rx ry h
  obtain ⟨i, j, rfl, rfl, hz, q⟩ := h
  obtain ⟨t, rfl⟩ := rx
  obtain ⟨t', rfl⟩ := ry
  exact add_str (fun t' tk => ⟨.str (i ++ j), H, I.tok _, ⟨_, rfl⟩, q⟩) hz
theorem vals1 {x : V} {us : List Value} (r : Vals [x] us) : ∃ u, us = [u] ∧ RelV x u := by
  cases r with
  | cons r1 r2 => cases r2; exact ⟨_, rfl, r1⟩
theorem vals2 {x y : V} {us : List Value} (r : Vals [x, y] us) : ∃ u w', us = [u, w'] ∧ RelV x u ∧ RelV y w' := by
  cases r with
  | cons r1 r2 =>
    cases r2 with
    | cons r3 r4 => cases r4; exact ⟨_, _, rfl, r1, r3⟩
theorem call_int1 : CallR X (.type "int") (fun xs H Q => (∃ i, xs = [.int i] ∧ Q (.int i) H) ∨ ∃ k, xs = [.bl k] ∧ Q (.int (if k then 1 else 0)) H) := by
  intro pins s σ H xs us Q I r h
  rcases h with ⟨i, rfl, q⟩ | ⟨k, rfl, q⟩
  · obtain ⟨u, rfl, t, rfl⟩ := vals1 r
    exact call_int_int ⟨.int i, H, I, ⟨_, rfl⟩, q⟩
  · obtain ⟨u, rfl, r1⟩ := vals1 r
    cases r1
    exact call_int_bool ⟨.int (if k then 1 else 0), H, I.tok _, ⟨_, rfl⟩, q⟩
theorem call_str_int : CallR X (.type "str") (fun xs H Q => ∃ i, xs = [.int i] ∧ i.natAbs.log2 < 1920 ∧ Q (.str (toString i)) H) := by
  intro pins s σ H xs us Q I r h
  obtain ⟨i, rfl, hz, q⟩ := h
  obtain ⟨u, rfl, t, rfl⟩ := vals1 r
  exact PySem.P.str_of_int hz ⟨.str _, H, I.tok _, ⟨_, rfl⟩, q⟩
end
end L2

namespace L2
open PySem PySem.Spec PyProof.Rows

structure ObjM (h : Heap) (x dx C : Addr) (mA : Str → Option Value) : Prop where
  obj : h.get? x = some (PySem.W.instObj C dx)
  ns : h.Ns1 dx mA
  ne : dx ≠ x

theorem lookIn_ns {h : Heap} {dx : Addr} {mA : Str → Option Value} (n : h.Ns1 dx mA) : ∃ od, h.get? dx = some od ∧ ∀ name, PySem.W.lookIn name od = some (mA name) := by
  obtain ⟨o, es, ep, ho, hd, hk, _, hm⟩ := n
  refine ⟨o, ho, fun name => ?_⟩
  have e := hm name
  unfold nsFind findBy at e
  rw [← Array.find?_toList] at e
  unfold PySem.W.lookIn
  rw [hd]
  dsimp only
  split
  · rename_i y q
    rw [q] at e
    exact congrArg some e
  · rename_i q
    rw [q] at e
    have a : es.toList.any (·.refKey) = false := by
      rw [List.any_eq_false]
      intro y hy
      obtain ⟨z, t, hkey⟩ := hk y (Array.mem_toList_iff.mp hy)
      simp [DictEntry.refKey, hkey]
    have a' : ¬ es.toList.any (·.refKey) = true := by rw [a]; exact Bool.false_ne_true
    rw [if_neg a']
    exact congrArg some e

theorem ObjM.look {h : Heap} {x dx C : Addr} {mA : Str → Option Value} (I : ObjM h x dx C mA) : ∃ od, PySem.W.InstAt h x (PySem.W.instObj C dx) C (some od) ∧ ∀ name, PySem.W.lookIn name od = some (mA name) :=
  let ⟨od, ho, hl⟩ := lookIn_ns I.ns
  ⟨od, ⟨I.obj, rfl, rfl, ho⟩, hl⟩

section
variable {prog : Program} {w : World} {A : Around} {E : Value → Shared → Prop} {s : Shared} {K : PySem.W.Frag} {x dx C f : Addr} {mA : Str → Option Value} {name : Str} {v : Value}

end

section
variable {P : Program} {w : World} {H H' : Hp} {h h' : Heap} {a C dx : Addr} {fs fs' : List (Str × V)}
theorem ins_get (hok : HOk P w H h) (e : H a = some (.ins C dx fs)) : ∃ mA, ObjM h a dx C mA ∧ (∀ f, RelO (fs.lookup f) (mA f)) ∧ PySem.Within mA (fs.map (·.1)) ∧ fs.length ≤ 1000 ∧ H dx = some (.own a) := by
  obtain ⟨d, z, ne, ob, mA, n, r, q⟩ := (show ObjOk P w H h a (.ins C dx fs) from hok a _ e)
  exact ⟨mA, ⟨ob, n, ne⟩, r, q, z, d⟩
end

structure Cls (K : PySem.W.Frag) (C : Addr) : Prop where
  pg : PySem.W.plainGet K C Str.empty = true
  hd : PySem.W.hasDictIn K C = true
  po : PySem.W.plainOver K C = true
  sa : PySem.W.findIn K (.ref C) "__setattr__" = some (some (.builtin "object.__setattr__"))
theorem Cls.get {K : PySem.W.Frag} {C : Addr} (c : Cls K C) (f : Str) : PySem.W.plainGet K C f = true := c.pg
section
variable {X : Cx} {pins : List (Addr × Obj)} {σ : St} {H : Hp} {s : Shared} {a C dx : Addr} {fs : List (Str × V)} {f : Str} {v : V} {A : Around} {E : Value → Shared → Prop}

end

section
variable {X : Cx} {o e value : Expr} {f : Str} {pos pos' tpos : Pos} {ta tv : TE}
def rAdd : V → V → Hp → VK → Prop := fun x y H Q => ∃ i j, x = .int i ∧ y = .int j ∧ Q (.int (i + j)) H
end

section
variable {X : Cx} {pins : List (Addr × Obj)} {σ : St} {H : Hp} {s : Shared} {A : Around} {E : Value → Shared → Prop} {Q : Value → Shared → Prop} {c : Value} {b : Bool}
inductive TyOf (K : PySem.W.Frag) (H : Hp) : V → Value → Prop where
  | non : TyOf K H .non (.type "NoneType")
  | bl (x : Bool) : TyOf K H (.bl x) (.type "bool")
  | int (i : Int) : TyOf K H (.int i) (.type "int")
  | str (x : Str) : TyOf K H (.str x) (.type "str")
  | flt (x : UInt64) : TyOf K H (.flt x) (.type "float")
  | lst {a : Addr} {xs : List V} (e : H a = some (.lst xs)) : TyOf K H (.ref a) (.type "list")
  | frz {a : Addr} {o : Obj} {xs : List V} (e : H a = some (.frz o (.lst xs))) : TyOf K H (.ref a) (.type "list")
  | tup {a : Addr} {xs : List V} (e : H a = some (.tup xs)) : TyOf K H (.ref a) (.type "tuple")
  | dK {a : Addr} {kvs : List (Key × V)} (e : H a = some (.dK kvs)) : TyOf K H (.ref a) (.type "dict")
  | dT {a : Addr} {kvs : List (List Key × V)} (e : H a = some (.dT kvs)) : TyOf K H (.ref a) (.type "dict")
  | ins {a C dx : Addr} {fs : List (Str × V)} (e : H a = some (.ins C dx fs)) (cl : Cls K C) (ha : PySem.W.findIn K (.ref C) "__class__" = some (some (.builtin "object.__class__")))
      (hn : PySem.W.specialIn K (.builtin "object.__class__") "__get__" = some (some (.builtin "getset_descriptor.__get__"))) (htk : PySem.W.takesIn K (.builtin "object.__class__") = some true)
      (hm : PySem.W.mroIn K C (.type "object") = some true) : TyOf K H (.ref a) (.ref C)
theorem isinst_ok {x : V} {u t : Value} (I : Inv X pins σ H s) (rx : RelV x u) (ty : TyOf X.K H x t) (e : PySem.W.kitOne X.K t c = some b) (h : ∀ tk, Q (.bool b) { s with toks := tk }) :
    wpAny (model X.prog X.w) A (call (.builtin "isinstance") [u, c]) Q E s := by
  cases ty with
  | non => cases (show u = Value.none from rx); exact PySem.W.kia_one PySem.W.kitx_none I.kIn True.intro e (fun z => nomatch z) h
  | bl y => cases (show u = Value.bool y from rx); exact PySem.W.kia_one PySem.W.kitx_bool I.kIn True.intro e (fun z => nomatch z) h
  | int i => obtain ⟨t, q⟩ := (show ∃ t, u = Value.int i t from rx); cases q; exact PySem.W.kia_one PySem.W.kitx_int I.kIn True.intro e (fun z => nomatch z) h
  | str y => obtain ⟨t, q⟩ := (show ∃ t, u = Value.str y t from rx); cases q; exact PySem.W.kia_one PySem.W.kitx_str I.kIn True.intro e (fun z => nomatch z) h
  | flt y => obtain ⟨t, q⟩ := (show ∃ t, u = Value.float y t from rx); cases q; exact PySem.W.kia_one PySem.W.kitx_float I.kIn True.intro e (fun z => nomatch z) h
  | @lst a xs ea =>
    cases (show u = Value.ref a from rx)
    obtain ⟨_, _, n, _, h1⟩ := (show ObjOk X.prog X.w H s.heap a (.lst xs) from I.hok a _ ea)
    exact PySem.W.kia_one PySem.W.kitx_list I.kIn ⟨_, h1, rfl⟩ e (fun z => nomatch z) h
  | @frz a ob xs ea =>
    cases (show u = Value.ref a from rx)
    obtain ⟨_, _, _, n, _, h1⟩ := (show ObjOk X.prog X.w H s.heap a (.frz ob (.lst xs)) from I.hok a _ ea)
    exact PySem.W.kia_one PySem.W.kitx_list I.kIn ⟨_, h1, rfl⟩ e (fun z => nomatch z) h
  | @tup a xs ea =>
    cases (show u = Value.ref a from rx)
    obtain ⟨_, _, _, p⟩ := (show ObjOk X.prog X.w H s.heap a (.tup xs) from I.hok a _ ea)
    obtain ⟨o, h1, h2, _⟩ := p
    exact PySem.W.kia_one PySem.W.kitx_tuple I.kIn ⟨o, h1, h2⟩ e (fun z => nomatch z) h
  | @dK a kvs ea =>
    cases (show u = Value.ref a from rx)
    obtain ⟨_, _, vs, _, p⟩ := (show ObjOk X.prog X.w H s.heap a (.dK kvs) from I.hok a _ ea)
    obtain ⟨o, es, ep, h1, h2, _⟩ := p
    exact PySem.W.kia_one PySem.W.kitx_dict I.kIn ⟨o, h1, h2.1⟩ e (fun z => nomatch z) h
  | @dT a kvs ea =>
    cases (show u = Value.ref a from rx)
    obtain ⟨_, _, xs, _, o, es, ep, h1, h2, _⟩ := (show ObjOk X.prog X.w H s.heap a (.dT kvs) from I.hok a _ ea)
    exact PySem.W.kia_one PySem.W.kitx_dict I.kIn ⟨o, h1, h2.1⟩ e (fun z => nomatch z) h
  | @ins a C dx fs ea cl ha hn htk hm =>
    cases (show u = Value.ref a from rx)
    obtain ⟨mA, O, _⟩ := ins_get I.hok ea
    obtain ⟨od, J, _⟩ := O.look
    exact PySem.W.kia_one (PySem.W.kitx_own (cl.get _) cl.hd ha hn htk hm) I.kIn J e (fun z => nomatch z) h
end
end L2

namespace L2
open PySem PySem.Spec PyProof.Rows

structure Room (k : Nat) (A : Around) : Prop where
  hd : A.handled = none
  dp : A.depth + 3 * k + 5 < recursionLimit
  un : A.units + 16 * k + 200 < cLine
theorem Room.mono {j k : Nat} {A : Around} (r : Room k A) (h : j ≤ k) : Room j A := ⟨r.hd, by have := r.dp; omega, by have := r.un; omega⟩
theorem Room.deeper {k : Nat} {A : Around} (r : Room (k + 1) A) (env : Env) : Room k (A.deeper env) :=
  ⟨r.hd, by have := r.dp; show A.depth + 1 + 3 * k + 5 < _; omega, by have := r.un; show A.units + 3 + 16 * k + 200 < _; omega⟩
theorem Room.depth {k : Nat} {A : Around} (r : Room k A) : A.depth < recursionLimit := by have := r.dp; omega
theorem Room.units {k : Nat} {A : Around} (r : Room k A) : A.units + 64 < cLine := by have := r.un; omega
def tNil : TA := fun _ H Q => Q [] H
def tCons (ta : TE) (tr : TA) : TA := fun σ H Q => ta σ H fun x H1 => tr σ H1 fun xs H2 => Q (x :: xs) H2
section
variable {X : Cx} {e : Expr} {es : List Expr} {te : TE} {t : TA} {pos : Pos}
theorem pa_nil : PA X [] tNil := fun _ _ _ _ H Q I h => Calls.spliced_nil ⟨[], H, I, .nil, h⟩
theorem pa_cons (ha : PE X e te) (hr : PA X es t) (hs : starEach (e :: es) X.env = (false, eval e X.env) :: starEach es X.env := by rfl) : PA X (e :: es) (tCons te t) := by
  intro pos pins s σ H Q I h
  rw [hs]
  show wpAny _ _ (spliced ((false, eval e X.env) :: backTo pos (starEach es X.env))) _ _ s
  refine Calls.spliced_cons (thn (ha pins s σ H _ I h) fun u s1 hq9 => ?_)
  obtain ⟨x, H1, I1, r1, q1⟩ := hq9
  exact thn (hr pos pins s1 σ H1 _ I1 q1) fun us s2 ⟨xs, H2, I2, r2, q2⟩ => ⟨x :: xs, H2, I2, .cons r1 r2, q2⟩

def tLst (t : TA) : TE := fun σ H Q => t σ H fun xs H1 => xs.length ≤ sizeLine ∧ ∀ p, H1 p = none → Q (.ref p) (upd H1 p (.lst xs))
theorem pe_lst (h : PA X es t) : PE X (.List es pos) (tLst t) := by
  intro pins s σ H Q I hq
  refine wpAny_List_spliced (thn (h pos pins s σ H _ I hq) fun us s1 ⟨xs, H1, I1, r, z, q⟩ => ⟨by rw [← r.length]; exact z, ?_⟩)
  have hf : H1 s1.heap.objs.size = none := I1.hok.fresh (Nat.le_refl _)
  refine ⟨.ref s1.heap.objs.size, upd H1 s1.heap.objs.size (.lst xs), I1.laid (t' := s1.toks) (fun b u e => Heap.get?_push_of_some _ e) (Nat.le_refl _) ?_, rfl, q _ hf⟩
  exact ⟨z, us, 0, r, Heap.get?_push_size _ rfl⟩
end

abbrev Sp := List V → Hp → VK → XK → Prop
abbrev CXT := List Env → Hp → Shared → XK → Value → Shared → Prop

structure Env0 (P : Program) (w : World) (K : PySem.W.Frag) (mg : Str → Option Value) (base : Heap) (A : Around) (outer : List Env) (s : Shared) (H : Hp) : Prop where
  frames : A.frames = some outer
  mod : Mod K mg base
  bs : ∀ b o, base.get? b = some o → s.heap.get? b = some o ∧ H b = none
  bsz : base.objs.size ≤ s.heap.objs.size
  funs : s.heap.FunFrames base outer
  frf : ∀ b ∈ frs outer, H b = none
  hok : HOk P w H s.heap
  bare : AllBare s.gens
def CE (outer : List Env) (P : Program) (w : World) (H : Hp) (s : Shared) (Q : VK) (u : Value) (s' : Shared) : Prop :=
  ∃ v H', s'.os = s.os ∧ AllBare s'.gens ∧ Un (frs outer) [] H H' s.heap s'.heap ∧ HOk P w H' s'.heap ∧ RelV v u ∧ Q v H'
def CR (CX : CXT) (outer : List Env) (P : Program) (w : World) (H : Hp) (s : Shared) (Q : VK) (E : XK) (r : Result) (s' : Shared) : Prop :=
  match r with
  | .ok (.ret u) => CE outer P w H s Q u s'
  | .ok _ => False
  | .error e => CX outer H s E e s'
structure FnOk (P : Program) (w : World) (K : PySem.W.Frag) (mg : Str → Option Value) (base : Heap) (CX : CXT) (k : Nat) (f : Addr) (fd : FuncData) (ps : List Str) (sp : Sp) : Prop where
  len : ∀ vs H Q E, sp vs H Q E → vs.length = ps.length
  run : ∀ (A : Around) (outer : List Env) (s : Shared) (H : Hp) (args : Args) (us : List Value) (vs : List V) (Q : VK) (E : XK), Room k A → Env0 P w K mg base A outer s H → BindsTo s fd args (ps.zip us) → Vals vs us → sp vs H Q E →
    codeAny (model P w) A (.call (.ref f) args) (CR CX outer P w H s Q E) s
section
variable {X : Cx} {pins : List (Addr × Obj)} {σ : St} {H : Hp} {s s' : Shared}
theorem Inv.env0 (I : Inv X pins σ H s) : Env0 X.prog X.w X.K X.mg X.base X.A X.stack s H :=
  ⟨I.ok.frames, I.ok.mod, I.bs, Nat.le_trans I.ok.bsz I.sz, I.stack, I.stkFree, I.hok, I.bare⟩
theorem Inv.after {Q : VK} {u : Value} (I : Inv X pins σ H s) (h : CE X.stack X.prog X.w H s Q u s') : EP X pins σ Q u s' := by
  obtain ⟨v, H', os, bare, un, hok, r, q⟩ := h
  obtain ⟨hh, g, d, t, os'⟩ := s'
  obtain rfl : os' = s.os := os
  exact ⟨v, H', I.call (h' := hh) (g' := g) (d' := d) (t' := t) (ch := []) un hok bare (fun b z => absurd z (by simp)), r, q⟩
end

def tCall (sp : Sp) (dvs : List V) (E : XK) (t : TA) : TE := fun σ H Q => t σ H fun vs H1 => sp (vs ++ dvs) H1 Q E
def Binds (K : PySem.W.Frag) (fd : FuncData) (ps : List Str) (ds : List Value) : Prop :=
  ∀ (s : Shared) (us : List Value), K.In s.heap → (us ++ ds).length = ps.length → BindsTo s fd ⟨us, []⟩ (ps.zip (us ++ ds))
theorem Binds.all {K : PySem.W.Frag} {fd : FuncData} {ps : List Str} (h : ∀ us : List Value, us.length = ps.length → bindArgs fd ⟨us, []⟩ = pure (ps.zip us)) : Binds K fd ps [] := fun s us _ hl => by
  rw [List.append_nil] at hl ⊢
  exact .of_eq (h us hl)

def Passes (CX : CXT) (X : Cx) (E : XK) : Prop := ∀ (pins : List (Addr × Obj)) (σ : St) (H : Hp) (s : Shared) (e : Value) (s' : Shared), Inv X pins σ H s → CX X.stack H s E e s' → X.xe e s'

section
variable {X : Cx} {CX : CXT} {k : Nat} {f C : Addr} {fd : FuncData} {ps : List Str} {sp : Sp} {dvs : List V} {ds : List Value} {E : XK} {x m : Str} {p pos apos : Pos} {e o : Expr} {es : List Expr} {ta : TE} {t : TA}

theorem run_fn {pins : List (Addr × Obj)} {σ : St} {H : Hp} {s : Shared} {Q : VK} {us : List Value} {vs : List V} (F : FnOk X.prog X.w X.K X.mg X.base CX k f fd ps sp) (hr : Room k X.A) (hb : Binds X.K fd ps ds) (hd : Vals dvs ds) (hx : Passes CX X E)
    (I : Inv X pins σ H s) (r : Vals vs us) (h : sp (vs ++ dvs) H Q E) : wpAny (model X.prog X.w) X.A (call (.ref f) us) (EP X pins σ Q) X.xe s := by
  have r2 : Vals (vs ++ dvs) (us ++ ds) := r.append hd
  have hl : (us ++ ds).length = ps.length := by rw [← r2.length]; exact F.len _ _ _ _ h
  refine wpAny_call (codeAny_mono (F.run X.A X.stack s H ⟨us, []⟩ (us ++ ds) (vs ++ dvs) Q E hr I.env0 (hb s us I.kIn hl) r2 h) fun r s' hq => ?_)
  cases r with
  | error e => exact hx pins σ H s e s' I hq
  | ok fl =>
    cases fl with
    | ret u => exact I.after hq
    | next => exact False.elim hq
    | brk => exact False.elim hq
    | cont => exact False.elim hq

theorem pe_call (F : FnOk X.prog X.w X.K X.mg X.base CX k f fd ps sp) (hr : Room k X.A) (hg : Gl X x) (hm : X.mg x = some (.ref f)) (hk : PySem.W.keepIn X.K (.ref f) = true) (hb : Binds X.K fd ps ds) (hd : Vals dvs ds) (hx : Passes CX X E)
    (ha : PA X (e :: es) t) (hdb : (x == ("__debug__" : Str)) = false := by decide) (he : starEach (e :: es) X.env = (false, eval e X.env) :: starEach es X.env := by rfl) (hpl : (backTo pos (starEach es X.env)).any (·.1) = false := by rfl) :
    PE X (.Call (.Name x p) (e :: es) [] pos) (tCall sp dvs E t) := by
  intro pins s σ H Q I h
  refine wpAny_Call_Name_kw (ld_glob I hg hm ?_ hdb)
  refine PySem.W.callWith_K (h₀ := X.base) I.ok.mod.kin hk (thn (ha pos pins s σ H _ I h) fun us s1 ⟨vs, H1, I1, r, q⟩ => ⟨I1.kIn, ?_⟩) he hpl
  exact run_fn F hr hb hd hx I1 r q
end

section
variable {X : Cx} {CX : CXT} {k : Nat} {f C : Addr} {fd : FuncData} {ps ks : List Str} {sp : Sp} {E : XK} {x m : Str} {p pos apos kpos : Pos} {e o : Expr} {es : List Expr} {kws : List Keyword} {te ta : TE} {t tk : TA} {nm : Option Str}
variable {g : List Value → List Value → List Value} {gV : List V → List V → List V}
end

structure FnScope (N P : List Str) (sc : Scope) : Prop where
  kind : sc.kind = .function
  co : sc.isCoroutine = false
  gen : sc.isGenerator = false
  nd : N.Nodup
  pre : N.take P.length = P
  par : ∀ x ∈ P, sc.names.lookup x = some .local ∨ sc.names.lookup x = some .cell
  nofree : ∀ y ∈ sc.names, y.2 ≠ .free

theorem bindL_out {kindOf : Str → Option NameKind} {x : Str} : ∀ {binds : List (Str × Value)} {m : Str → Option Value}, (∀ v, (x, v) ∉ binds) → bindL kindOf binds m x = m x
  | [], _, _ => rfl
  | (n, v) :: r, m, h => by
    unfold bindL
    rw [bindL_out fun w hw => h w (List.mem_cons_of_mem _ hw)]
    split
    · have : x ≠ n := by rintro rfl; exact h v List.mem_cons_self
      simp [this]
    · rfl
theorem bindC_out {kindOf : Str → Option NameKind} {x : Str} : ∀ {binds : List (Str × Value)} {m : Str → Option Value}, (∀ v, (x, v) ∉ binds) → bindC kindOf binds m x = m x
  | [], _, _ => rfl
  | (n, v) :: r, m, h => by
    unfold bindC
    rw [bindC_out fun w hw => h w (List.mem_cons_of_mem _ hw)]
    split
    · rfl
    · have : x ≠ n := by rintro rfl; exact h v List.mem_cons_self
      simp [this]
theorem bindL_get {kindOf : Str → Option NameKind} {x : Str} {v : Value} : ∀ {P : List Str} {vs : List Value} {i : Nat} {m : Str → Option Value}, P.Nodup → P[i]? = some x → vs[i]? = some v → kindOf x = some .local →
    bindL kindOf (P.zip vs) m x = some v
  | [], _, _, _, _, h, _, _ => by simp at h
  | _ :: _, [], _, _, _, _, h, _ => by simp at h
  | p :: P, w :: vs, 0, m, nd, h1, h2, hk => by
    simp at h1 h2; subst h1; subst h2
    show bindL kindOf ((p, w) :: P.zip vs) m p = _
    unfold bindL
    rw [bindL_out fun v hv => (List.nodup_cons.mp nd).1 (List.of_mem_zip hv).1, if_pos hk]
    simp
  | p :: P, w :: vs, i + 1, m, nd, h1, h2, hk => by
    show bindL kindOf ((p, w) :: P.zip vs) m x = _
    unfold bindL
    exact bindL_get (i := i) (List.nodup_cons.mp nd).2 (by simpa using h1) (by simpa using h2) hk
theorem bindC_get {kindOf : Str → Option NameKind} {x : Str} {v : Value} : ∀ {P : List Str} {vs : List Value} {i : Nat} {m : Str → Option Value}, P.Nodup → P[i]? = some x → vs[i]? = some v → kindOf x ≠ some .local →
    bindC kindOf (P.zip vs) m x = some v
  | [], _, _, _, _, h, _, _ => by simp at h
  | _ :: _, [], _, _, _, _, h, _ => by simp at h
  | p :: P, w :: vs, 0, m, nd, h1, h2, hk => by
    simp at h1 h2; subst h1; subst h2
    show bindC kindOf ((p, w) :: P.zip vs) m p = _
    unfold bindC
    rw [bindC_out fun v hv => (List.nodup_cons.mp nd).1 (List.of_mem_zip hv).1, if_neg hk]
    simp
  | p :: P, w :: vs, i + 1, m, nd, h1, h2, hk => by
    show bindC kindOf ((p, w) :: P.zip vs) m x = _
    unfold bindC
    exact bindC_get (i := i) (List.nodup_cons.mp nd).2 (by simpa using h1) (by simpa using h2) hk

def start (N : List Str) (vs : List V) : St := vs.map some ++ List.replicate (N.length - vs.length) none

def cxOf (CX : CXT) (P : Program) (w : World) (K : PySem.W.Frag) (mg : Str → Option Value) (base : Heap) (N : List Str) (qual : Str) (scope : Scope) (f : Addr) (cd : Value) (A : Around) (outer : List Env) (s : Shared) (H : Hp) (E : XK) : Cx where
  prog := P
  w := w
  K := K
  mg := mg
  base := base
  A := A.deeper (envOfC qual scope s.heap.objs.size f cd)
  N := N
  s₀ := s
  H₀ := H
  env := envOfC qual scope s.heap.objs.size f cd
  outer := outer
  stack := envOfC qual scope s.heap.objs.size f cd :: outer
  ex := []
  calm := true
  fn := fun _ => true
  pn := []
  xe := fun e s' => wpAny (model P w) (A.deeper (envOfC qual scope s.heap.objs.size f cd)) (leaving (envOfC qual scope s.heap.objs.size f cd) e) (fun _ s'' => CX outer H s E e s'') (fun e' s'' => CX outer H s E e' s'') s'

theorem cell_has {sc : Scope} {n : Nat} {x : Str} (h : sc.names.lookup x = some .cell) : ∃ c, (cellsFrom n sc.names []).lookup x = some c := by
  have q := PySem.W.cellsFrom_some sc.names n [] (.inl h)
  exact Option.isSome_iff_exists.mp q

theorem inv_start {CX : CXT} {P : Program} {w : World} {K : PySem.W.Frag} {mg : Str → Option Value} {base : Heap} {N ps : List Str} {qual : Str} {scope : Scope} {f : Addr} {cd : Value} {A : Around} {outer : List Env} {s s1 : Shared} {H : Hp} {E : XK} {us : List Value} {vs : List V}
    (S : FnScope N ps scope) (hd : A.handled = none) (e0 : Env0 P w K mg base A outer s H) (hl : vs.length = ps.length) (r : Vals vs us)
    (x : InCallC s s.heap.objs.size (bindL (envOfC qual scope s.heap.objs.size f cd).kindOf (ps.zip us) fun _ => none) (cellsFrom (s.heap.objs.size + 1) scope.names []) (bindC (envOfC qual scope s.heap.objs.size f cd).kindOf (ps.zip us) fun _ => none) s1) :
    Inv (cxOf CX P w K mg base N qual scope f cd A outer s H E) [] (start N vs) H s1 := by
  have hpl : ps.length ≤ N.length := by have := congrArg List.length S.pre; rw [List.length_take] at this; omega
  obtain ⟨h1, tk, rfl, hk⟩ := x.done
  have noA : ∀ b : Addr, b ∉ (cxOf CX P w K mg base N qual scope f cd A outer s H E).ex := fun b z => absurd (show b ∈ ([] : List Addr) from z) (by simp)
  refine ⟨⟨e0.mod, S.kind, rfl, rfl, Nat.le_refl _, fun y z c h1 h2 => ?_, fun y hy => ?_, fun y c _ h => ?_, fun _ => hd, Around.frames_deeper e0.frames, .inr ⟨rfl, rfl⟩, fun b z => absurd z (noA b), e0.bs, e0.bsz, fun b _ _ => noA b, fun b z => absurd z (noA b), e0.funs, e0.frf⟩,
    rfl, e0.bare, Un.kept hk, ⟨_, x.toInCall.ns, fun i y v h1 h2 h3 => ?_⟩, fun y c h => ⟨_, x.cell y c h⟩, e0.hok.fresh (Nat.le_refl _), fun y c h => ?_, fun p hp => absurd (show p ∈ ([] : List (Addr × Obj)) from hp) (by simp), e0.hok.kept hk, ?_⟩
  · exact name_of_addr x.apart (PySem.mem_of_lookup h1) (PySem.mem_of_lookup h2)
  · have hy : scope.names.lookup y = some .cell ∨ scope.names.lookup y = some .free := hy
    rcases hy with hy | hy
    · exact cell_has hy
    · exact absurd rfl (S.nofree _ (PySem.mem_of_lookup hy))
  · exact Nat.le_of_lt (x.above y c (PySem.mem_of_lookup h))
  · have hi : i < vs.length := by
      unfold start at h2
      by_cases hi : i < vs.length
      · exact hi
      · rw [List.getElem?_append_right (by simpa using hi)] at h2
        rw [List.getElem?_replicate] at h2
        split at h2 <;> cases h2
    have ha : vs[i]? = some v := by
      unfold start at h2
      rw [List.getElem?_append_left (by simpa using hi), List.getElem?_map] at h2
      cases e : vs[i]? with
      | none => rw [e] at h2; cases h2
      | some a => rw [e] at h2; cases h2; rfl
    obtain ⟨u, hu, rv⟩ := r.get ha
    have hp : ps[i]? = some y := by
      rw [← S.pre, List.getElem?_take_of_lt (by omega)]; exact h1
    have ndP : ps.Nodup := by rw [← S.pre]; exact S.nd.sublist (List.take_sublist _ _)
    refine ⟨u, rv, ?_⟩
    rcases S.par y (List.mem_of_getElem? hp) with k | k
    · exact .inl ⟨k, bindL_get ndP hp hu k⟩
    · obtain ⟨c, e⟩ := cell_has (n := s.heap.objs.size + 1) k
      refine .inr ⟨.inl k, c, e, ?_⟩
      have q := x.cell y c e
      rw [bindC_get ndP hp hu (by show scope.names.lookup y ≠ _; rw [k]; decide)] at q
      exact q
  · exact e0.hok.fresh (Nat.le_of_lt (x.above y c (PySem.mem_of_lookup h)))
  · unfold start
    show _ = N.length
    rw [List.length_append, List.length_map, List.length_replicate]
    omega

theorem fn_of {CX : CXT} {P : Program} {w : World} {K : PySem.W.Frag} {mg : Str → Option Value} {base : Heap} {k : Nat} {f : Addr} {name qual : Str} {params : Arguments} {body : List Stmt} {scope : Scope} {dV kV doc pm cdv ct oc : Value} {an od : Option Addr}
    {osl : Array (Option Value)} {N ps : List Str} {sp : Sp} (lk : K.lookup f = some ⟨oc, od, .func (PySem.W.fnOf name qual params body scope dV kV doc pm an cdv ct), osl⟩) (hcd : PySem.W.codeIn K cdv qual = true) (S : FnScope N ps scope)
    (len : ∀ vs H Q E, sp vs H Q E → vs.length = ps.length)
    (hbody : ∀ (A : Around) (outer : List Env) (s : Shared) (H : Hp) (vs : List V) (Q : VK) (E : XK), Room k (A.deeper (envOfC qual scope s.heap.objs.size f cdv)) → sp vs H Q E →
      ∃ t, PSs (cxOf CX P w K mg base N qual scope f cdv A outer s H E) body t ∧ t { nx := fun _ H' => Q .non H', rt := Q } (start N vs) H) :
    FnOk P w K mg base CX (k + 1) f (PySem.W.fnOf name qual params body scope dV kV doc pm an cdv ct) ps sp := by
  refine ⟨len, fun A outer s H args us vs Q E hr e0 hb r hsp => ?_⟩
  have hl := len _ _ _ _ hsp
  have KX : K.In s.heap := e0.mod.kin.keeps fun b o e => (e0.bs b o e).1
  have lim : s.heap.NoLimit := e0.mod.nolimit.keeps fun b o e => (e0.bs b o e).1
  have hkind : ∀ y ∈ ps.zip us, scope.names.lookup y.1 = some .local ∨ (scope.names.lookup y.1 = some .cell ∧ ((cellsFrom (s.heap.objs.size + 1) scope.names []).lookup y.1).isSome = true) := fun ⟨n, v⟩ hy => by
    rcases S.par n (List.of_mem_zip hy).1 with q | q
    · exact .inl q
    · exact .inr ⟨q, PySem.W.cellsFrom_some _ _ _ (.inl q)⟩
  refine codeAny_call_function hr.depth (KX _ _ lk) rfl S.co S.gen rfl (PySem.W.codeRec_of KX hcd) (hb _ _ _ _ ?_)
  refine wpAny_newFunctionEnv_cells S.kind hkind fun env he s1 x => ?_
  subst he
  refine ⟨lim.keeps x.toInCall.keep, codeAny_func ?_⟩
  obtain ⟨t, ht, hq⟩ := hbody A outer s H vs Q E (hr.deeper _) hsp
  have I : Inv (cxOf CX P w K mg base N qual scope f cdv A outer s H E) [] (start N vs) H s1 := inv_start S hr.hd e0 hl r x
  refine wpAny_mono (ht [] s1 (start N vs) H _ I hq) (fun fl s' hs => ?_) fun e s' hs => hs
  have fin : ∀ {σ' : St} {H' : Hp} {v : V} {u : Value}, Inv (cxOf CX P w K mg base N qual scope f cdv A outer s H E) [] σ' H' s' → RelV v u → Q v H' → CE outer P w H s Q u s' :=
    fun {σ' H' v u} J rv q => ⟨v, H', J.os, J.bare, J.base, J.hok, rv, q⟩
  cases fl with
  | ret u =>
    obtain ⟨v, σ', H', J, rv, q⟩ := hs
    exact fin J rv q
  | next =>
    obtain ⟨σ', H', J, q⟩ := hs
    exact fin (v := V.non) (u := Value.none) J rfl q
  | brk =>
    obtain ⟨_, _, _, q⟩ := hs
    exact False.elim q
  | cont =>
    obtain ⟨_, _, _, q⟩ := hs
    exact False.elim q
end L2

namespace L2
open PySem PySem.Spec PyProof.Rows
section
variable {X : Cx} {x : Str} {p pos : Pos} {e : Expr} {es : List Expr} {t : TA} {id T : String} {r : List V → Hp → VK → Prop}

def tCB (r : List V → Hp → VK → Prop) (t : TA) : TE := fun σ H Q => t σ H fun vs H1 => r vs H1 Q
theorem pe_callB (hc : CallR X (.builtin id) r) (hg : Gl X x) (hm : X.mg x = none) (hv : bootBuiltins x = some (.builtin id)) (ha : PA X (e :: es) t) (hn : x ≠ "__name__" := by decide) (hdb : (x == ("__debug__" : Str)) = false := by decide)
    (he : starEach (e :: es) X.env = (false, eval e X.env) :: starEach es X.env := by rfl) (hpl : (backTo pos (starEach es X.env)).any (·.1) = false := by rfl) : PE X (.Call (.Name x p) (e :: es) [] pos) (tCB r t) := by
  intro pins s σ H Q I h
  refine wpAny_Call_Name_kw (ld_blt I hg hm hv ?_ hn hdb)
  exact PyProof.Rows.callWith_builtin1 (thn (ha pos pins s σ H _ I h) fun us s1 ⟨vs, H1, I1, r1, q1⟩ => hc pins s1 σ H1 vs us Q I1 r1 q1) he hpl
theorem pe_callTy (hc : CallR X (.type T) r) (hg : Gl X x) (hm : X.mg x = none) (hv : bootBuiltins x = some (.type T)) (ha : PA X (e :: es) t) (hn : x ≠ "__name__" := by decide) (hdb : (x == ("__debug__" : Str)) = false := by decide)
    (he : starEach (e :: es) X.env = (false, eval e X.env) :: starEach es X.env := by rfl) (hpl : (backTo pos (starEach es X.env)).any (·.1) = false := by rfl) : PE X (.Call (.Name x p) (e :: es) [] pos) (tCB r t) := by
  intro pins s σ H Q I h
  refine wpAny_Call_Name_kw (ld_blt I hg hm hv ?_ hn hdb)
  exact PyProof.Rows.callWith_type1 (thn (ha pos pins s σ H _ I h) fun us s1 ⟨vs, H1, I1, r1, q1⟩ => hc pins s1 σ H1 vs us Q I1 r1 q1) he hpl
end
end L2

namespace HT
open PySem PyProof.Rows

section
open PySem.SeqAt
open PySem.AutoSeq1 (wpAny_loadPart')
open PySem.MeetsSeq PySem.MeetsSeq2 PySem.MeetsSeq3

end

section
variable {prog : Program} {w : World} {A : Around} {E : Value → Shared → Prop} {s : Shared}

theorem cat_tup {t b : Addr} {vs ws : List Value} {Q : Value → Shared → Prop} (ht : IsTup s.heap t vs.toArray) (hb : IsTup s.heap b ws.toArray) (hv : vs ≠ [])
    (h1 : ws = [] → Q (.ref t) s) (h2 : ws ≠ [] → Q (.ref s.heap.objs.size) { s with heap := s.heap.push { cls := .type "tuple", data := .seq (vs ++ ws).toArray } })
    (hsz : vs.length + ws.length ≤ sizeLine) : wpAny (model prog w) A (binaryOp .Add (.ref t) (.ref b)) Q E s := by
  obtain ⟨⟨cls, dd, data, sl⟩, ho, hc, n, hd⟩ := id ht
  obtain ⟨⟨cls2, dd2, data2, sl2⟩, ho2, hc2, n2, hd2⟩ := id hb
  simp only at hc hd hc2 hd2
  subst hc hd hc2 hd2
  have e : vs.toArray ++ ws.toArray = (vs ++ ws).toArray := by simp
  by_cases hw : ws = []
  · exact concat_meets ⟨_, ho, rfl⟩ ⟨_, ho2, rfl⟩ noFill_tuple_add seq_tuple_add PySem.F.slot_tuple_add PySem.F.entry_tuple_add (PySem.F.args_tuple_add_2 _ _)
      (tuple_addW1 t b vs.toArray ws.toArray n n2 dd dd2 sl sl2 (by simpa using hv) (by simp [hw])) ⟨ho, ho2, h1 hw⟩
  · refine concat_meets ⟨_, ho, rfl⟩ ⟨_, ho2, rfl⟩ noFill_tuple_add seq_tuple_add PySem.F.slot_tuple_add PySem.F.entry_tuple_add (PySem.F.args_tuple_add_2 _ _)
      (tuple_addW2 t b vs.toArray ws.toArray n n2 dd dd2 sl sl2 (by simpa using hv) (by simpa using hw) (by rw [List.size_toArray, List.size_toArray]; exact hsz)) ⟨ho, ho2, ?_⟩
    rw [e]
    exact h2 hw

def sIx (n d : Nat) : Option Int → Nat
  | none => d
  | some v => if v < 0 then (v + (n : Int)).toNat else min v.toNat n
end
end HT

namespace L2
open PySem PySem.Spec PyProof.Rows

abbrev TO := St → Hp → (Option Int → Hp → Prop) → Prop
def PO (X : Cx) (e : Option Expr) (t : TO) : Prop :=
  ∀ (pins : List (Addr × Obj)) (s : Shared) (σ : St) (H : Hp) (Q : Option Int → Hp → Prop), Inv X pins σ H s → t σ H Q →
    wpAny (model X.prog X.w) X.A (evalPart e X.env) (fun u s' => ∃ o H', Inv X pins σ H' s' ∧ IsPart u o ∧ Q o H') X.xe s
def tNoPart : TO := fun _ H Q => Q none H
def tPart (t : TE) : TO := fun σ H Q => t σ H fun x H1 => ∃ i, x = .int i ∧ Q (some i) H1

theorem intsAre_of {ns : List Int} : ∀ {us : List Value}, Vals (ns.map V.int) us → IntsAre us ns := by
  induction ns with
  | nil => intro us r; rw [List.map_nil] at r; cases r; exact .nil
  | cons n ns ih =>
    intro us r
    rw [List.map_cons] at r
    cases r with
    | cons r1 r2 =>
      obtain ⟨t, e⟩ := r1
      subst e
      exact .cons n t (ih r2)

section
variable {X : Cx} {e : Expr} {te : TE} {lo hi : Option Expr} {tl th : TO} {pos p2 : Pos}

theorem po_none : PO X none tNoPart := by
  intro pins s σ H Q I h
  rw [evalPart_none]
  exact wpAny_pure ⟨none, H, I, .none, h⟩
theorem po_some (h : PE X e te) : PO X (some e) (tPart te) := by
  intro pins s σ H Q I hw
  rw [evalPart_some]
  refine thn (h pins s σ H _ I hw) fun u s1 hq9 => ?_
  obtain ⟨x, H1, I1, r1, q1⟩ := hq9
  obtain ⟨i, rfl, q⟩ := q1
  obtain ⟨t, rfl⟩ := r1
  exact ⟨some i, H1, I1, .int i t, q⟩

def SlR (X : Cx) (r : V → Option Int → Option Int → Hp → VK → Prop) : Prop :=
  ∀ (pins : List (Addr × Obj)) (s : Shared) (σ : St) (H : Hp) (x : V) (v vl vu : Value) (lo hi : Option Int) (sl : Addr) (Q : VK), Inv X pins σ H s → RelV x v → s.heap.IsSliceOf sl vl vu .none → IsPart vl lo → IsPart vu hi → r x lo hi H Q →
    ∃ T id, typeLookup (.type T) "__getitem__" = pure (some (.builtin id)) ∧ s.TypeIs v T ∧ wpAny (model X.prog X.w) X.A (getItem v (.ref sl)) (EP X pins σ Q) X.xe s
def tSl (r : V → Option Int → Option Int → Hp → VK → Prop) (te : TE) (tl th : TO) : TE := fun σ H Q => te σ H fun x H1 => tl σ H1 fun l H2 => th σ H2 fun u H3 => r x l u H3 Q
theorem pe_slice {r : V → Option Int → Option Int → Hp → VK → Prop} (hr : SlR X r) (he : PE X e te) (hl : PO X lo tl) (hu : PO X hi th) : PE X (.Subscript e (.Slice lo hi none p2) pos) (tSl r te tl th) := by
  intro pins s σ H Q I h
  refine Subscript_ (thn (he pins s σ H _ I h) fun v s1 hq9 => ?_)
  obtain ⟨x, H1, I1, r1, q1⟩ := hq9
  refine wpAny_Slice (thn (hl pins s1 σ H1 _ I1 q1) fun vl s2 ⟨l, H2, I2, pl, q2⟩ => thn (hu pins s2 σ H2 _ I2 q2) fun vu s3 hq9 => ?_)
  obtain ⟨u, H3, I3, pu, q3⟩ := hq9
  rw [evalPart_none]
  refine wpAny_pure ?_
  have I4 : Inv X pins σ H3 { s3 with heap := s3.heap.push { cls := .type "slice", data := .fields #[vl, vu, .none] } } := I3.kept (t' := s3.toks) fun b ob q => Heap.get?_push_of_some _ q
  obtain ⟨T, id, hT, ht, hg⟩ := hr pins { s3 with heap := s3.heap.push { cls := .type "slice", data := .fields #[vl, vu, .none] } } σ H3 x v vl vu l u s3.heap.objs.size Q I4 r1 (Heap.IsSliceOf.new ..) pl pu q3
  show wpAny (model X.prog X.w) X.A (subscriptTail e (.Slice lo hi none p2) v (.ref s3.heap.objs.size)) (EP X pins σ Q) X.xe { s3 with heap := s3.heap.push { cls := .type "slice", data := .fields #[vl, vu, .none] } }
  exact tail_any (ops := [.ref s3.heap.objs.size, v]) ht hT hg (by with_unfolding_all rfl)

def cutV (xs : List V) (lo hi : Option Int) : List V := (xs.drop (HT.sIx xs.length 0 lo)).take (HT.sIx xs.length xs.length hi - HT.sIx xs.length 0 lo)
theorem cutV_length (xs : List V) (lo hi : Option Int) : (cutV xs lo hi).length ≤ xs.length := by
  unfold cutV
  rw [List.length_take, List.length_drop]
  omega
def rCatT (K : PySem.W.Frag) : R2 := fun x y H Q => ∃ a b xs ys, x = .ref a ∧ y = .ref b ∧ SqT K H a xs ∧ SqT K H b ys ∧ xs ≠ [] ∧ xs.length + ys.length ≤ sizeLine ∧
  (ys = [] → Q (.ref a) H) ∧ (ys ≠ [] → ∀ p, H p = none → Q (.ref p) (upd H p (.tup (xs ++ ys))))
theorem Vals.nil_iff {xs : List V} {us : List Value} (r : Vals xs us) : us = [] ↔ xs = [] := by
  cases r with
  | nil => simp
  | cons _ _ => simp
theorem op_catT : OpR X (binaryOp .Add) (rCatT X.K) := by
  intro pins s σ H x y v u Q I rx ry h
  obtain ⟨a, b, xs, ys, rfl, rfl, ha, hb, hx, hz, q1, q2⟩ := h
  cases rx
  cases ry
  obtain ⟨its, r1, p1, _⟩ := I.tuple ha
  obtain ⟨its2, r2, p2, _⟩ := I.tuple hb
  refine HT.cat_tup p1 p2 (fun z => hx (r1.nil_iff.mp z)) (fun z => ⟨.ref a, H, I, rfl, q1 (r2.nil_iff.mp z)⟩) (fun z => ?_) (by rw [← r1.length, ← r2.length]; exact hz)
  refine ⟨.ref s.heap.objs.size, _, I.laid (t' := s.toks) (o := .tup (xs ++ ys)) (fun b ob q => Heap.get?_push_of_some _ q) (Nat.le_refl _) ?_, rfl, q2 (fun w => z (r2.nil_iff.mpr w)) _ (I.hok.fresh (Nat.le_refl _))⟩
  exact ⟨by rw [List.length_append]; exact hz, _, r1.append r2, IsTup.new _ _⟩
end
end L2

namespace L2
open PySem PySem.Spec PyProof.Rows

def ixN (n : Nat) (i : Int) : Option Nat := if 0 ≤ i then (if i < n then some i.toNat else none) else if -(n : Int) ≤ i then some (i + n).toNat else none
def atI {α : Type} (xs : List α) (i : Int) : Option α := (ixN xs.length i).bind fun j => xs[j]?
theorem ixN_seq {n : Nat} {i : Int} {j : Nat} (h : ixN n i = some j) : seqIndex? i n = some j ∧ j < n ∧ -(n : Int) ≤ i ∧ i < n := by
  unfold ixN at h
  by_cases h0 : 0 ≤ i
  · rw [if_pos h0] at h
    by_cases h1 : i < n
    · rw [if_pos h1] at h
      have e : i.toNat = j := Option.some.inj h
      exact ⟨by rw [seqIndex_of h0 h1, e], by omega, by omega, h1⟩
    · rw [if_neg h1] at h; cases h
  · rw [if_neg h0] at h
    by_cases h1 : -(n : Int) ≤ i
    · rw [if_pos h1] at h
      have e : (i + n).toNat = j := Option.some.inj h
      exact ⟨by rw [seqIndex_neg (by omega) h1, e], by omega, h1, by omega⟩
    · rw [if_neg h1] at h; cases h
theorem atI_get {α : Type} {xs : List α} {i : Int} {v : α} (h : atI xs i = some v) : ∃ j, seqIndex? i xs.length = some j ∧ xs[j]? = some v ∧ j < xs.length ∧ -(xs.length : Int) ≤ i ∧ i < xs.length := by
  unfold atI at h
  cases e : ixN xs.length i with
  | none => rw [e] at h; cases h
  | some j =>
    rw [e] at h
    obtain ⟨h1, h2, h3, h4⟩ := ixN_seq e
    exact ⟨j, h1, h, h2, h3, h4⟩
theorem atI_nat {α : Type} {xs : List α} {j : Nat} {v : α} (h : xs[j]? = some v) : atI xs (j : Int) = some v := by
  have hj : j < xs.length := (List.getElem?_eq_some_iff.mp h).1
  have e : ixN xs.length (j : Int) = some j := by
    unfold ixN
    rw [if_pos (by omega), if_pos (by omega)]; simp
  unfold atI; rw [e]; exact h
def PlainIx (b : Expr) : Prop := ∀ o i, subscripted b false o i = operate [o, i] (getItem o i)
def IxR (X : Cx) (r : R2) : Prop :=
  ∀ (value slice : Expr) (pins : List (Addr × Obj)) (s : Shared) (σ : St) (H : Hp) (x y : V) (v u : Value) (Q : VK), Inv X pins σ H s → RelV x v → RelV y u → r x y H Q →
    subscripted slice false v u = operate [v, u] (getItem v u) → wpAny (model X.prog X.w) X.A (subscriptTail value slice v u) (EP X pins σ Q) X.xe s
def MtR (X : Cx) (id : String) (r : V → List V → Hp → VK → Prop) : Prop :=
  ∀ (pins : List (Addr × Obj)) (s : Shared) (σ : St) (H : Hp) (x : V) (xs : List V) (v : Value) (us : List Value) (Q : VK), Inv X pins σ H s → RelV x v → Vals xs us → r x xs H Q →
    wpAny (model X.prog X.w) X.A (call (.builtin id) (v :: us)) (EP X pins σ Q) X.xe s
section
variable {X : Cx} {a b : Expr} {ta tb : TE} {pos : Pos}
theorem IxR.or {r r' : R2} (h : IxR X r) (h' : IxR X r') : IxR X (fun x y H Q => r x y H Q ∨ r' x y H Q) := by
  intro value slice pins s σ H x y v u Q I rx ry q hs
  rcases q with q | q
  · exact h value slice pins s σ H x y v u Q I rx ry q hs
  · exact h' value slice pins s σ H x y v u Q I rx ry q hs
theorem pe_ix {r : R2} (hr : IxR X r) (ha : PE X a ta) (hb : PE X b tb) (hs : PlainIx b) : PE X (.Subscript a b pos) (tOp r ta tb) := by
  intro pins s σ H Q I h
  exact Subscript_ (binT ha hb I h fun v u s2 x y H2 I2 rx ry q => hr a b pins s2 σ H2 x y v u Q I2 rx ry q (hs _ _))

def rIxL (K : PySem.W.Frag) : R2 := fun x y H Q => ∃ p xs i v, x = .ref p ∧ y = .int i ∧ SqL K H p xs ∧ atI xs i = some v ∧ Q v H
def rIxT (K : PySem.W.Frag) : R2 := fun x y H Q => ∃ p xs i v, x = .ref p ∧ y = .int i ∧ SqT K H p xs ∧ atI xs i = some v ∧ Q v H
def rIxS : R2 := fun x y H Q => ∃ z i c, x = .str z ∧ y = .int i ∧ z.length ≤ sizeLine ∧ atI z.cps.toList i = some c ∧ Q (.str ⟨#[c]⟩) H
theorem ix_list : IxR X (rIxL X.K) := by
  intro value slice pins s σ H x y v u Q I rx ry h hs
  obtain ⟨p, xs, i, z, rfl, rfl, hq, he, q⟩ := h
  cases rx
  obtain ⟨t, rfl⟩ := ry
  obtain ⟨its, r, pl, hz⟩ := I.list hq
  obtain ⟨j, h1, h2, h3, h4, h5⟩ := atI_get he
  obtain ⟨w, ew, rw'⟩ := r.get h2
  have hl := r.length
  have hn := line63
  have fin : EP X pins σ Q w s := ⟨z, H, I, rw', q⟩
  by_cases h0 : 0 ≤ i
  · have hj : i.toNat = j := by
      rw [seqIndex_of h0 h5] at h1
      exact Option.some.inj h1
    exact item_listR pl.isList h0 (by omega) (by rw [hj]; simpa using ew) fin hs
  · have hj : (i + (its.toArray.size : Int)).toNat = j := by
      rw [seqIndex_neg (by omega) h4] at h1
      rw [List.size_toArray, ← hl]
      exact Option.some.inj h1
    exact subscriptTail_builtinR (x := w) pl.isList.typeIs slot_list_getitem.lookup
      (wpAny_getItem_list_neg (Q := fun r s' => r = w ∧ EP X pins σ Q r s') pl.isList (by omega) (by rw [List.size_toArray] <;> omega) (by omega) (by rw [hj]; simpa using ew) ⟨rfl, fin⟩) hs
theorem ix_tup : IxR X (rIxT X.K) := by
  intro value slice pins s σ H x y v u Q I rx ry h hs
  obtain ⟨p, xs, i, z, rfl, rfl, hq, he, q⟩ := h
  cases rx
  obtain ⟨t, rfl⟩ := ry
  obtain ⟨its, r, pl, hz⟩ := I.tuple hq
  obtain ⟨j, h1, h2, h3, h4, h5⟩ := atI_get he
  obtain ⟨w, ew, rw'⟩ := r.get h2
  have hl := r.length
  have hn := line63
  have fin : EP X pins σ Q w s := ⟨z, H, I, rw', q⟩
  exact subscriptTail_builtinR (x := w) pl.typeIs slot_tuple_getitem.lookup
    (getItem_tuple (j := j) (Q := fun r s' => r = w ∧ EP X pins σ Q r s') pl (by omega) (by omega) (by rw [List.size_toArray, ← hl]; exact h1) (by simpa using ew) ⟨rfl, fin⟩) hs
theorem ix_str : IxR X rIxS := by
  intro value slice pins s σ H x y v u Q I rx ry h hs
  obtain ⟨z, i, c, rfl, rfl, hz, he, q⟩ := h
  obtain ⟨t, rfl⟩ := rx
  obtain ⟨t', rfl⟩ := ry
  obtain ⟨j, h1, h2, h3, h4, h5⟩ := atI_get he
  have hl : z.cps.toList.length = z.length := by simp [Str.length]
  rw [hl] at h1 h4 h5
  have hn := line63
  exact tail_any (typeIs_str s z t) slot_str_getitem.lookup (getItem_str (c := c) (by
    have e1 : decide (i < -(2 ^ 63 : Int)) = false := decide_eq_false (by omega)
    have e2 : decide (i ≥ 2 ^ 63) = false := decide_eq_false (by omega)
    rw [e1, e2, Bool.or_false]) (by rw [h1]; simpa using h2) ⟨.str ⟨#[c]⟩, H, I.tok _, ⟨_, rfl⟩, q⟩) hs
def rIx (K : PySem.W.Frag) : R2 := fun x y H Q => rIxL K x y H Q ∨ rIxT K x y H Q ∨ rIxS x y H Q
theorem ix_seq : IxR X (rIx X.K) := ix_list.or (ix_tup.or ix_str)

theorem slice_bounds (lo hi : Option Int) (n : Nat) : (sliceBounds lo hi none n).1 = ((HT.sIx n 0 lo : Nat) : Int) ∧ (sliceBounds lo hi none n).2.1 = ((HT.sIx n n hi : Nat) : Int) ∧ (sliceBounds lo hi none n).2.2 = 1 := by
  refine ⟨?_, ?_, rfl⟩
  · cases lo with
    | none => simp [sliceBounds, HT.sIx]
    | some i =>
      simp only [sliceBounds, HT.sIx, Option.getD_none, show (1 : Int) > 0 by decide, if_true]
      by_cases h : i < 0
      · simp only [h, if_true] <;> omega
      · simp only [h, if_false] <;> omega
  · cases hi with
    | none => simp [sliceBounds, HT.sIx]
    | some i =>
      simp only [sliceBounds, HT.sIx, Option.getD_none, show (1 : Int) > 0 by decide, if_true]
      by_cases h : i < 0
      · simp only [h, if_true] <;> omega
      · simp only [h, if_false] <;> omega
theorem slicePick_cut (its : List Value) (lo hi : Option Int) : slicePick its.toArray lo hi none = ((its.drop (HT.sIx its.length 0 lo)).take (HT.sIx its.length its.length hi - HT.sIx its.length 0 lo)).toArray := by
  obtain ⟨h1, h2, h3⟩ := slice_bounds lo hi its.toArray.size
  unfold slicePick
  rw [h1, h2, h3]
  simp only [sliceRange_one, pick_run, List.size_toArray] <;> rfl
def rSlL (K : PySem.W.Frag) : V → Option Int → Option Int → Hp → VK → Prop := fun x lo hi H Q => ∃ a xs, x = .ref a ∧ SqL K H a xs ∧ ∀ p, H p = none → Q (.ref p) (upd H p (.lst (cutV xs lo hi)))
theorem sl_list : SlR X (rSlL X.K) := by
  intro pins s σ H x v vl vu lo hi sl Q I rx hs pl pu h
  obtain ⟨a, xs, rfl, hx, q⟩ := h
  cases rx
  obtain ⟨its, r, ht, hz⟩ := I.list hx
  have hlen := r.length
  refine ⟨"list", _, slot_list_getitem.lookup, ht.isList.typeIs, ?_⟩
  refine wpAny_getItem_list_slice ht.isList hs pl pu .none (by simp) ?_ (by rw [List.size_toArray] <;> omega)
  rw [slicePick_cut, ← hlen]
  refine ⟨.ref s.heap.objs.size, _, I.laid (t' := s.toks) (o := .lst (cutV xs lo hi)) (fun b ob q => Heap.get?_push_of_some _ q) (Nat.le_refl _) ?_, rfl, q _ (I.hok.fresh (Nat.le_refl _))⟩
  exact ⟨Nat.le_trans (cutV_length xs lo hi) hz, _, 0, (r.drop (HT.sIx xs.length 0 lo)).take (HT.sIx xs.length xs.length hi - HT.sIx xs.length 0 lo), Heap.get?_push_size _ rfl⟩

theorem call_len_seq : CallR X (.builtin "len") (fun xs H Q => ∃ p ys, xs = [.ref p] ∧ (SqL X.K H p ys ∨ SqT X.K H p ys) ∧ Q (.int ys.length) H) := by
  intro pins s σ H xs us Q I r h
  obtain ⟨p, ys, rfl, hq, q⟩ := h
  obtain ⟨u, rfl, rx⟩ := vals1 r
  cases rx
  have hn := line63
  rcases hq with hq | hq
  · obtain ⟨its, r', pl, hz⟩ := I.list hq
    have hlen := r'.length
    exact Calls.call_len_list pl.isList (by simp only [List.size_toArray] <;> omega) ⟨.int ys.length, H, I.tok _, ⟨s.toks + 1, by rw [List.size_toArray, hlen]⟩, q⟩
  · obtain ⟨its, r', pl, hz⟩ := I.tuple hq
    have hlen := r'.length
    exact len_tuple pl (by simp only [List.size_toArray] <;> omega) ⟨.int ys.length, H, I.tok _, ⟨s.toks + 1, by rw [List.size_toArray, hlen]⟩, q⟩
theorem call_len_str : CallR X (.builtin "len") (fun xs H Q => ∃ z, xs = [.str z] ∧ z.length ≤ sizeLine ∧ Q (.int z.length) H) := by
  intro pins s σ H xs us Q I r h
  obtain ⟨z, rfl, hz, q⟩ := h
  obtain ⟨u, rfl, t, rfl⟩ := vals1 r
  have hn := line63
  exact len_str (by omega) ⟨.int z.length, H, I.tok _, ⟨_, rfl⟩, q⟩
theorem CallR.or {f : Value} {r r' : List V → Hp → VK → Prop} (h : CallR X f r) (h' : CallR X f r') : CallR X f (fun xs H Q => r xs H Q ∨ r' xs H Q) := by
  intro pins s σ H xs us Q I rs q
  rcases q with q | q
  · exact h pins s σ H xs us Q I rs q
  · exact h' pins s σ H xs us Q I rs q
theorem call_list_of : CallR X (.type "list") (fun xs H Q => ∃ p ys, xs = [.ref p] ∧ (SqL X.K H p ys ∨ SqT X.K H p ys) ∧ ∀ l, H l = none → Q (.ref l) (upd H l (.lst ys))) := by
  intro pins s σ H xs us Q I r h
  obtain ⟨p, ys, rfl, hq, q⟩ := h
  obtain ⟨u, rfl, rx⟩ := vals1 r
  cases rx
  have fin : ∀ (its : List Value), Vals ys its → ys.length ≤ sizeLine → ∀ (h' : Heap) (c' : Nat), (∀ b o', s.heap.get? b = some o' → h'.get? b = some o') →
      h'.get? s.heap.objs.size = some { cls := .type "list", dict := none, data := .seq its.toArray c', slots := #[] } → EP X pins σ Q (.ref s.heap.objs.size) { s with heap := h' } := fun its r' hz h' c' kp e =>
    ⟨.ref s.heap.objs.size, _, I.laid (t' := s.toks) kp (Nat.le_refl _) (show ObjOk X.prog X.w _ h' _ (.lst ys) from ⟨hz, its, c', r', e⟩), rfl, q _ (I.hok.fresh (Nat.le_refl _))⟩
  rcases hq with hq | hq
  · obtain ⟨its, r', pl, hz⟩ := I.list hq
    have hlen := r'.length
    obtain ⟨o, ho, hc, n, hd⟩ := pl.isList
    exact call_list_seq p (.inl rfl) ho hc hd (fun h' c' kp e => fin its r' hz h' c' kp e) (by simp only [List.size_toArray] <;> omega)
  · obtain ⟨its, r', pl, hz⟩ := I.tuple hq
    have hlen := r'.length
    obtain ⟨o, ho, hc, n, hd⟩ := pl
    exact call_list_seq p (.inr rfl) ho hc hd (fun h' c' kp e => fin its r' hz h' c' kp e) (by simp only [List.size_toArray] <;> omega)
def tyV (K : PySem.W.Frag) (T : String) (x : V) (H : Hp) : Prop := match x with
  | .str _ => T = "str"
  | .int _ => T = "int"
  | .ref p => (T = "list" ∧ ∃ xs, SqL K H p xs) ∨ (T = "tuple" ∧ ∃ o, K.lookup p = some o ∧ o.cls = .type "tuple" ∧ o.dict = none) ∨
      (T = "dict" ∧ ((∃ kvs, H p = some (.dK kvs)) ∨ ∃ kvs, H p = some (.dT kvs))) ∨ (T = "set" ∧ ∃ S n, H p = some (.set S n))
  | _ => False
theorem tyV_is {pins : List (Addr × Obj)} {σ : St} {H : Hp} {s : Shared} {T : String} {x : V} {v : Value} (I : Inv X pins σ H s) (r : RelV x v) (ty : tyV X.K T x H) :
    s.TypeIs v T ∧ ∀ a, v = .ref a → ∃ ob, s.heap.get? a = some ob ∧ ob.dict = none := by
  cases x with
  | str z =>
    obtain ⟨t, rfl⟩ := r
    cases (show T = "str" from ty)
    exact ⟨typeIs_str s z t, fun _ e => nomatch e⟩
  | int i =>
    obtain ⟨t, rfl⟩ := r
    cases (show T = "int" from ty)
    exact ⟨typeIs_int s i t, fun _ e => nomatch e⟩
  | ref p =>
    cases r
    rcases ty with ⟨rfl, xs, hq⟩ | ⟨rfl, o, hk, hc, hd⟩ | ⟨rfl, hk⟩ | ⟨rfl, S, n, hk⟩
    · obtain ⟨its, _, pl, _⟩ := I.list hq
      refine ⟨pl.isList.typeIs, fun a e => ?_⟩
      cases e
      obtain ⟨o, n, e, c, hd, _⟩ := pl
      exact ⟨o, e, hd⟩
    · refine ⟨⟨o, I.kIn p o hk, hc⟩, fun a e => ?_⟩
      cases e
      exact ⟨o, I.kIn _ o hk, hd⟩
    · have z : ∃ o, s.heap.get? p = some o ∧ o.ExactDict := by
        rcases hk with ⟨kvs, hk⟩ | ⟨kvs, hk⟩
        · obtain ⟨_, _, _, _, o, _, _, e, ex, _⟩ := I.hok p _ hk
          exact ⟨o, e, ex⟩
        · obtain ⟨_, _, _, _, o, _, _, e, ex, _⟩ := I.hok p _ hk
          exact ⟨o, e, ex⟩
      obtain ⟨o, e, ex⟩ := z
      refine ⟨⟨o, e, ex.1⟩, fun a e2 => ?_⟩
      cases e2
      exact ⟨o, e, ex.2.1⟩
    · obtain ⟨o, _, _, _, e, ex, _⟩ := I.hok p _ hk
      refine ⟨⟨o, e, ex.1⟩, fun a e2 => ?_⟩
      cases e2
      exact ⟨o, e, ex.2.1⟩
  | _ => exact False.elim ty
def tBM (K : PySem.W.Frag) (T : String) (r : V → List V → Hp → VK → Prop) (to : TE) (t : TA) : TE := fun σ H Q => to σ H fun x H1 => tyV K T x H1 ∧ t σ H1 fun xs H2 => r x xs H2 Q
variable {o e : Expr} {es : List Expr} {to : TE} {t : TA} {name : Str} {apos cpos : Pos} {T id : String} {r : V → List V → Hp → VK → Prop}
theorem pe_bm (pa : PlainAttrs T) (slot : Slot T name id) (hty : typeOf (.builtin id) = pure (.type "method_descriptor")) (hm : MtR X id r) (ho : PE X o to) (ha : PA X (e :: es) t)
    (hbase : attributeBase o name X.env (eval o X.env) = eval o X.env := by rfl)
    (hfew : ((backTo cpos (starEach (e :: es) X.env)).all (fun x => !x.1) && (backToKw cpos (keywordEach [] X.env)).all (fun x => x.1.isSome)
      && decide ((e :: es).length + ([] : List Keyword).length + (if ([] : List Keyword).isEmpty then 0 else 1) < 30)) = true := by rfl)
    (hline : (apos.endLine == cpos.line) = true := by rfl) (hs : starEach (e :: es) X.env = (false, eval e X.env) :: starEach es X.env := by rfl) (hplain : (backTo cpos (starEach es X.env)).any (·.1) = false := by rfl) :
    PE X (.Call (.Attribute o name apos) (e :: es) [] cpos) (tBM X.K T r to t) := by
  intro pins s σ H Q I h
  refine wpAny_Call_method_late hbase hfew hline rfl (thn (ho pins s σ H _ I h) fun v s1 hq9 => ?_)
  obtain ⟨x, H1, I1, r1, ty, q1⟩ := hq9
  obtain ⟨h1, h2⟩ := tyV_is I1 r1 ty
  refine ⟨T, id, pa, slot, hty, h1, h2, ?_⟩
  have hA := ha cpos pins s1 σ H1 _ I1 q1
  rw [hs] at hA ⊢
  refine Calls.callWith_builtin (by show (false || (backTo cpos (starEach es X.env)).any (·.1)) = false; rw [hplain] <;> rfl) (Calls.evalArgs_plain ?_)
  exact thn hA fun us s2 ⟨vs, H2, I2, r2, q2⟩ => hm pins s2 σ H2 x vs v us Q I2 r1 r2 q2
end
end L2

namespace L2
open PySem PySem.Spec PyProof.Rows

def MtM (X : Cx) (id : String) (r : V → List V → Hp → VK → Prop) : Prop :=
  ∀ (pins : List (Addr × Obj)) (s : Shared) (σ : St) (H : Hp) (x : V) (xs : List V) (v : Value) (us : List Value) (Q : VK), Inv X pins σ H s → RelV x v → Vals xs us → r x xs H Q →
    wpAny (model X.prog X.w) X.A (call (.builtin id) (v :: us)) (EP X pins σ Q) X.xe s

theorem Vals.one : ∀ {x : V} {us : List Value}, Vals [x] us → ∃ u, us = [u] ∧ RelV x u
  | _, _, .cons r .nil => ⟨_, rfl, r⟩
theorem foldl_rep (its : List Value) : ∀ (k : Nat) (acc : List Value),
    List.foldl (fun x1 x2 => x1 ++ x2) acc.toArray (List.replicate k its.toArray) = (acc ++ (List.replicate k its).flatten).toArray
  | 0, acc => by simp
  | k + 1, acc => by
    have e : acc.toArray ++ its.toArray = (acc ++ its).toArray := by simp
    have e2 : (acc ++ its) ++ (List.replicate k its).flatten = acc ++ (List.replicate (k + 1) its).flatten := by
      rw [List.replicate_succ, List.flatten_cons, List.append_assoc]
    rw [← e2, ← foldl_rep its k (acc ++ its), ← e, List.replicate_succ, List.foldl_cons]

section
variable {X : Cx} {pins : List (Addr × Obj)} {σ : St} {H : Hp} {s : Shared} {l b : Addr} {xs ys zs : List V}

theorem Inv.lset {its its' : List Value} {n : Nat} {f : Array Value → Array Value} {t' : Nat} (I : Inv X pins σ H s) (hH : H l = some (.lst xs))
    (e : s.heap.get? l = some { cls := .type "list", data := .seq its.toArray n }) (hf : f its.toArray = its'.toArray) (hv : Vals ys its') (hz : ys.length ≤ sizeLine) :
    Inv X pins σ (upd H l (.lst ys)) { s with heap := s.heap.update l (Obj.mapSeq f), toks := t' } := by
  have q := PySem.IsL.update e f
  rw [hf] at q
  refine I.write (x := l) (e := l) (by rw [hH]; exact trivial) (.inl rfl) (fun b' u hb hu => (Heap.get?_update_other s.heap (Obj.mapSeq f) (Ne.symm hb)).trans hu) ⟨_, q⟩ ?_
  exact ⟨hz, its', _, hv, q⟩
theorem Inv.lnew {its : List Value} {t' : Nat} (I : Inv X pins σ H s) (hv : Vals ys its) (hz : ys.length ≤ sizeLine) :
    Inv X pins σ (upd H s.heap.objs.size (.lst ys)) { s with heap := s.heap.push { cls := .type "list", data := .seq its.toArray }, toks := t' } :=
  I.laid (fun _ _ q => Heap.get?_push_of_some _ q) (Nat.le_refl _) ⟨hz, its, 0, hv, Heap.get?_push_size _ rfl⟩
theorem Inv.fresh (I : Inv X pins σ H s) : H s.heap.objs.size = none := I.hok.fresh (Nat.le_refl _)
theorem Inv.lstM (I : Inv X pins σ H s) (hH : H l = some (.lst xs)) : xs.length ≤ sizeLine ∧ ∃ (its : List Value) (n : Nat), Vals xs its ∧ xs.length = its.length ∧ s.heap.get? l = some { cls := .type "list", data := .seq its.toArray n } := by
  obtain ⟨z, its, n, r, e⟩ := I.hok l _ hH
  exact ⟨z, its, n, r, r.length, e⟩

end

section
variable {X : Cx}

def rAppend : V → List V → Hp → VK → Prop := fun x vs H Q => ∃ l xs y, x = .ref l ∧ vs = [y] ∧ H l = some (.lst xs) ∧ xs.length < sizeLine ∧ Q .non (upd H l (.lst (xs ++ [y])))
theorem mt_append : MtM X "list.append" rAppend := by
  intro pins s σ H x vs v us Q I rx rv h
  obtain ⟨l, xs, y, rfl, rfl, hH, hz, q⟩ := h
  cases rx
  obtain ⟨u, rfl, ru⟩ := rv.one
  obtain ⟨z, its, n, r, hl, e⟩ := I.lstM hH
  refine call_meets F.slot_list_append ⟨_, e, rfl⟩ F.entry_list_append (F.args_list_append_2 _ _) (PySem.list_append l its.toArray n u (by rw [List.size_toArray]; omega)) ⟨e, ?_⟩
  refine ⟨.non, _, I.lset (its' := its ++ [u]) hH e (by simp) (r.append (.cons ru .nil)) ?_, rfl, q⟩
  rw [List.length_append, List.length_singleton]
  omega

end

section
variable {prog : Program} {w : World} {A : Around} {E : Value → Shared → Prop} {s : Shared}
end

section
variable {X : Cx}
end
end L2

namespace Att
open PySem PySem.W PySem.Calls PyProof.Rows

theorem ints_of_wellAll {P : Params} {h : Heap} : ∀ (ns : List Int) (vs : List Value), WellAll P h vs (ns.map WData.int) → IntsAre vs ns := by
  intro ns
  induction ns with
  | nil =>
    intro vs w
    rw [List.map_nil] at w
    cases w
    exact .nil
  | cons n ns ih =>
    intro vs w
    rw [List.map_cons] at w
    cases w with
    | cons a b =>
      cases a
      exact .cons _ _ (ih _ b)

theorem script_of {l : OpenLaw} {n : Nat} (hn : l.most = some n) {P : Params} {h : Heap} {args : List WData} {vals : List Value}
    (hpre : l.row.toRowW.claim.pre args = true) (hwl : WellAll P h vals args) :
    ∃ a vs ns, vals = [Value.ref a] ∧ args = [WData.list (ns.map WData.int)] ∧ h.get? a = some { cls := .type "list", data := .seq vs.toArray } ∧ IntsAre vs ns ∧ ns.length ≤ n := by
  have hsh : WShape.hasAll [] args [.list .int] = true := (pre_splitW hpre).1
  have hc : l.pre.holds [] { args := args } = true := (pre_splitW hpre).2
  obtain ⟨d, r, rfl, h1, h2⟩ := hasAllW_cons hsh
  obtain rfl := hasAllW_nil h2
  obtain ⟨xs, rfl, h3⟩ := hasW_list h1
  obtain ⟨ns, rfl⟩ := items_int h3
  have hlen : ns.length ≤ n := by
    unfold OpenLaw.pre at hc
    have h4 : (WTm.not (.lt (.lit (.int (n : Int))) (.len (.arg 0)))).holds [] { args := [.list (ns.map .int)] } = true := by
      have h4 := (holds_andW hc).1
      rw [hn] at h4
      exact h4
    have h5 := condW_of h4 (w_not (w_lt w_lit (w_len_list (w_arg rfl))))
    rw [List.length_map] at h5
    refine Nat.le_of_not_lt fun q => ?_
    have q' : (n : Int) < ((ns.length : Nat) : Int) := by omega
    first
      | (rw [decide_eq_true q'] at h5; exact absurd h5 (by decide))
      | (simp at h5; omega)
  cases hwl with
  | cons w1 w2 =>
    cases w2
    cases w1 with
    | list ho hall => exact ⟨_, _, ns, rfl, rfl, ho, ints_of_wellAll ns _ hall, hlen⟩

theorem post_true (l : OpenLaw) (args : List WData) : l.row.toRowW.claim.post args (.bool true) args = true :=
  postW_of (r := l.row.toRowW) (X := (true == true))
    (show WShape.has [] (.bool true) .bool = true by first | rfl | decide | simp [WShape.has, WShape.arms, WShape.armsAll])
    (show (WTm.eq .res (.lit (.bool true))).value [] { args := args, res := some (.bool true), after := args } = some (.bool (true == true)) from w_eq_bool (w_res rfl) w_lit) rfl

theorem attach_call {l : OpenLaw} {n : Nat} {q : Program} {loose : List Str} {XP : (Str → Option Value) → Heap → Prop} {YP : World → Heap → Prop} {d : DefRec}
    (hn : l.most = some n) (hdf : d.params.defaults = [])
    (call : ∀ (w : World) (s₀ s₁ : Shared) (mg mb : Str → Option Value) (fa : Addr) (o : Obj) (pm cd doc : Value) (a : Addr) (vs : List Value) (ns : List Int),
      Ground q loose [] XP w s₀ mg mb s₁.heap → YP w s₁.heap →
      s₁.heap.get? fa = some o → o.data = .func (docDef d.name d.params d.body d.scope pm cd doc) → s₁.heap.CodeRec cd d.name → mg d.name = some (.ref fa) →
      s₁.heap.get? a = some { cls := .type "list", data := .seq vs.toArray } → IntsAre vs ns → ns.length ≤ n → s₁.gens = #[] →
      codeAny (model l.prog w) callerA (.call (.ref fa) ⟨[.ref a], []⟩) (fun r s' => r = .ok (.ret (.bool true)) ∧ OldK s₁.heap s'.heap ∧ s'.os = s₁.os ∧ AllBare s'.gens) s₁) :
    WalkO q loose XP YP l.row.toRowW d [] (fun f vs => PySem.call f vs) := by
  intro w s₀ s₁ mg mb G Y fa o pm cd doc dV kV ho hd hcd hD hmg hg args vals as hpre hlay hrd hwl hlo
  obtain rfl : dV = .none := Dflts.none hD hdf
  obtain rfl : kV = .none := Dflts.noKw hD
  obtain ⟨a, vs, ns, rfl, rfl, hobj, hints, hlen⟩ := script_of hn hpre hwl
  refine enter_call (codeAny_mono (call w s₀ s₁ mg mb fa o pm cd doc a vs ns G Y ho (fd_plain hd) hcd hmg hobj hints hlen hg) fun r s' hq => ?_)
  obtain ⟨rfl, h2, h3, h4⟩ := hq
  exact ⟨.inl ⟨.bool true, .bool true, [], rfl, fun _ => rfl, .bool true, post_true l _, fun _ => ⟨List.Pairwise.nil, fun _ hm => (nomatch hm)⟩⟩, h2, h3, h4⟩

section
variable {prog : Program} {w : World} {A : Around} {E : Value → Shared → Prop} {s : Shared} {K : Frag}

end
end Att

namespace L2
open PySem PySem.Spec PyProof.Rows

theorem vals_ints : ∀ {vs : List Value} {ns : List Int}, IntsAre vs ns → Vals (ns.map V.int) vs
  | _, _, .nil => .nil
  | _, _, .cons n t h => .cons ⟨t, rfl⟩ (vals_ints h)

def Only (H : Hp) : Prop := ∀ b, H b = none ∨ ∃ o xs, H b = some (.frz o (.lst xs))

theorem law_call {P : Program} {w : World} {K : PySem.W.Frag} {mg mb : Str → Option Value} {CX : CXT} {k : Nat} {fa a : Addr} {fd : FuncData} {x : Str} {sp : Sp} {s₁ : Shared} {vs : List Value} {ns : List Int}
    (KX : K.In s₁.heap) (hns : s₁.heap.Ns mainGlobals mg) (hb : s₁.heap.Ns builtinsNs mb) (hbb : ∀ x : Str, x ≠ "__name__" → mb x = bootBuiltins x) (hlim : s₁.heap.NoLimit) (hg : s₁.gens = #[])
    (ha : s₁.heap.get? a = some { cls := .type "list", data := .seq vs.toArray }) (hi : IntsAre vs ns) (hl : ns.length ≤ sizeLine) (hr : Room k callerA)
    (F : ∀ base : Heap, K.In base → base.Ns mainGlobals mg → FnOk P w K mg base CX k fa fd [x] sp) (hbind : ∀ (s : Shared) (u : Value), BindsTo s fd ⟨[u], []⟩ [(x, u)])
    (hsp : ∀ H : Hp, Only H → SqL K H a (ns.map V.int) → sp [.ref a] H (fun v _ => v = .bl true) fun _ _ _ => False)
    (hCX : ∀ H e s', CX [] H s₁ (fun _ _ _ => False) e s' → False) :
    codeAny (model P w) callerA (.call (.ref fa) ⟨[.ref a], []⟩) (fun r s' => r = .ok (.ret (.bool true)) ∧ OldK s₁.heap s'.heap ∧ s'.os = s₁.os ∧ AllBare s'.gens) s₁ := by
  have rv := vals_ints hi
  have lenV := hi.length
  have core : ∀ H : Hp, Only H → SqL K H a (ns.map V.int) → HOk P w H s₁.heap → (∀ b, H b ≠ none → b = a) → (H a ≠ none → K.lookup a = none) →
      codeAny (model P w) callerA (.call (.ref fa) ⟨[.ref a], []⟩) (fun r s' => r = .ok (.ret (.bool true)) ∧ OldK s₁.heap s'.heap ∧ s'.os = s₁.os ∧ AllBare s'.gens) s₁ := by
    intro H hO hS hok hA hK
    have base_of : ∀ {b : Addr} {o : Obj}, s₁.heap.get? b = some o → H b = none → (hidT s₁.heap H).get? b = some o := fun e n => hidT_get e n
    have noA : ∀ {b : Addr} {o : Obj} {es : Array DictEntry} {ep : Nat}, s₁.heap.get? b = some o → o.data = .dict es ep → H b = none := fun {b o es ep} e d => by
      cases q : H b with
      | none => rfl
      | some u =>
        have e' : b = a := hA b (by rw [q]; simp)
        subst e'
        rw [ha] at e; cases e
        have d' : Data.seq vs.toArray _ = Data.dict es ep := d
        cases d'
    have nsK : ∀ {b : Addr} {m : Str → Option Value}, s₁.heap.Ns b m → (hidT s₁.heap H).Ns b m := fun {b m} ⟨o, es, ep, e, d, r⟩ => ⟨o, es, ep, base_of e (noA e d), d, r⟩
    have hKb : K.In (hidT s₁.heap H) := fun b o e => base_of (KX b o e) (by
      cases q : H b with
      | none => rfl
      | some u =>
        have e' : b = a := hA b (by rw [q]; simp)
        subst e'
        rw [hK (by rw [q]; simp)] at e; cases e)
    have hM : Mod K mg (hidT s₁.heap H) := ⟨hKb, nsK hns, ⟨mb, nsK hb, hbb⟩, let ⟨mc, h1, h2⟩ := hlim; ⟨mc, nsK h1, h2⟩⟩
    have e0 : Env0 P w K mg (hidT s₁.heap H) callerA [] s₁ H := ⟨rfl, hM, fun b o e => of_hidT e, Nat.le_of_eq (hidT_size _ _), trivial, fun b hb => absurd (show b ∈ ([] : List Addr) from hb) (by simp), hok, .of_eq hg⟩
    refine codeAny_mono ((F _ hKb (nsK hns)).run callerA [] s₁ H ⟨[.ref a], []⟩ [.ref a] [.ref a] _ _ hr e0 (hbind s₁ (.ref a)) (.cons rfl .nil) (hsp H hO hS)) fun r s' h => ?_
    cases r with
    | error e => exact (hCX H e s' h).elim
    | ok fl =>
      cases fl with
      | next => exact False.elim h
      | brk => exact False.elim h
      | cont => exact False.elim h
      | ret u =>
        obtain ⟨v, H', os, bare, un, hok', r', q⟩ := h
        have q' : v = .bl true := q
        subst q'
        obtain rfl : u = Value.bool true := r'
        refine ⟨rfl, OldK.of_keep fun b o e => ?_, os, bare⟩
        cases q : H b with
        | none => exact un.keep b o e q (by intro z; exact absurd (show b ∈ ([] : List Addr) from z) (by simp)) (by simp)
        | some u =>
          rcases hO b with z | ⟨ob, xs, z⟩
          · rw [q] at z; cases z
          · have z2 := un.frzs b ob _ z
            obtain ⟨e1, _⟩ := hok b _ z
            obtain ⟨e2, _⟩ := hok' b _ z2
            rw [e] at e1; cases e1
            exact e2
  cases hk : K.lookup a with
  | some o =>
    have e := KX a o hk
    rw [ha] at e
    cases e
    refine core (fun _ => none) (fun _ => .inl rfl) (.inr ⟨_, vs.toArray, _, hk, rfl, rfl, rfl, by rw [List.size_toArray, lenV]; exact hl, by simpa using rv⟩) (fun b u z => by have z' : (none : Option HO) = some u := z; cases z') (fun b z => absurd rfl z) fun z => absurd rfl z
  | none =>
    refine core (fun b => if b = a then some (.frz { cls := .type "list", data := .seq vs.toArray } (.lst (ns.map V.int))) else none) (fun b => ?_) (.inl (.inr ⟨{ cls := .type "list", data := .seq vs.toArray }, if_pos rfl⟩)) (fun b u z => ?_) (fun b z => ?_) fun _ => hk
    · by_cases hb : b = a
      · exact .inr ⟨_, _, if_pos hb⟩
      · exact .inl (if_neg hb)
    · by_cases hb : b = a
      · have z' := (if_pos hb).symm.trans z
        cases z'
        subst hb
        exact ⟨ha, by rw [List.length_map]; exact hl, vs, _, rv, ha⟩
      · have z' := (if_neg hb).symm.trans z
        cases z'
    · by_cases hb : b = a
      · exact hb
      · exact absurd (if_neg hb) z
end L2

namespace L2
open PySem PySem.Spec PyProof.Rows

theorem walk_of {l : PySem.W.OpenLaw} {n k : Nat} {q : Program} {loose : List Str} {XP : (Str → Option Value) → Heap → Prop} {YP : World → Heap → Prop} {d : DefRec} {K : Params → PySem.W.Frag} {CX : World → CXT} {sp : World → Sp} {x : Str}
    (hn : l.most = some n) (hn2 : n ≤ sizeLine) (hdf : d.params.defaults = []) (hr : Room k callerA)
    (hY : ∀ (w : World) (h : Heap), YP w h → (K w.params).In h)
    (F : ∀ (w : World) (mg : Str → Option Value) (fa : Addr) (h : Heap), (K w.params).In h → h.Ns mainGlobals mg → mg d.name = some (.ref fa) →
      ∃ fd : FuncData, (∀ (s : Shared) (u : Value), BindsTo s fd ⟨[u], []⟩ [(x, u)]) ∧
        ∀ base : Heap, (K w.params).In base → base.Ns mainGlobals mg → FnOk l.prog w (K w.params) mg base (CX w) k fa fd [x] (sp w))
    (hsp : ∀ (w : World) (H : Hp) (a : Addr) (ns : List Int), ns.length ≤ n → Only H → SqL (K w.params) H a (ns.map V.int) → sp w [.ref a] H (fun v _ => v = .bl true) fun _ _ _ => False)
    (hCX : ∀ (w : World) (H : Hp) (s : Shared) (e : Value) (s' : Shared), CX w [] H s (fun _ _ _ => False) e s' → False) :
    PySem.W.WalkO q loose XP YP l.row.toRowW d [] (fun f vs => PySem.call f vs) := by
  refine Att.attach_call hn hdf fun w s₀ s₁ mg mb fa o pm cd doc a vs ns G Y ho hd hcd hmg hobj hints hlen hg => ?_
  have KX := hY w _ Y
  obtain ⟨fd, hb, hF⟩ := F w mg fa _ KX G.T.g hmg
  exact law_call KX G.T.g G.T.b G.T.builtins G.T.nolimit hg hobj hints (Nat.le_trans hlen hn2) hr hF hb (fun H hO hS => hsp w H a ns hlen hO hS) fun H e s' => hCX w H s₁ e s'
end L2


namespace L2
open PySem PySem.Spec PyProof.Rows

def defArgs (s : Stmt) : Arguments := match s with
  | .FunctionDef _ a _ _ _ _ _ _ _ _ => a
  | _ => { posonlyargs := [], args := [], vararg := none, kwonlyargs := [], kw_defaults := [], kwarg := none, defaults := [] }
def defBody (s : Stmt) : List Stmt := match s with
  | .FunctionDef _ _ b _ _ _ _ _ _ _ => b
  | _ => []
def defScope (s : Stmt) : Scope := match s with
  | .FunctionDef _ _ _ _ _ _ sc _ _ _ => sc
  | _ => { kind := .function, names := [], isGenerator := false, isCoroutine := false }

abbrev CX0 : CXT := fun _ _ _ _ _ _ => False
abbrev E0 : XK := fun _ _ _ => False
theorem pass0 {X : Cx} : Passes CX0 X E0 := fun _ _ _ _ _ _ _ h => h.elim

section
variable {P : Program} {w : World} {K : PySem.W.Frag} {mg : Str → Option Value} {base : Heap}
end
theorem small1000 {n : Nat} (h : n ≤ 1000) : n < sizeLine := Nat.lt_of_le_of_lt h (by decide)

section
variable {X : Cx}
end

def Same (H H' : Hp) : Prop := ∀ b o, H b = some o → H' b = some o
theorem Same.refl (H : Hp) : Same H H := fun _ _ h => h
theorem Same.trans {H H1 H2 : Hp} (a : Same H H1) (b : Same H1 H2) : Same H H2 := fun c o h => b c o (a c o h)
theorem Same.free {H H' : Hp} (e : Same H H') {l : Addr} (h : H' l = Option.none) : H l = Option.none := by
  cases q : H l with
  | none => rfl
  | some o =>
    rw [e l o q] at h
    cases h
theorem Same.seq {K : PySem.W.Frag} {H H' : Hp} {a : Addr} {xs : List V} (e : Same H H') (h : SqL K H a xs) : SqL K H' a xs := by
  rcases h with (h | ⟨o, h⟩) | h
  · exact .inl (.inl (e _ _ h))
  · exact .inl (.inr ⟨o, e _ _ h⟩)
  · exact .inr h

end L2

namespace L2
open PySem PySem.Spec PyProof.Rows
def XcO (a C : Addr) (dx tb : Option Addr) (h : Heap) : Prop :=
  ∃ a0, h.get? a = some { cls := .ref C, dict := dx, data := .fields #[a0, tb.elim Value.none .ref, .none, .none, .bool false, .none] }
abbrev xcH (a C : Addr) (dx tb : Option Addr) : HO := .ext (XcO a C dx tb)
section
variable {X : Cx} {pins : List (Addr × Obj)} {σ : St} {H : Hp} {s : Shared} {a C : Addr} {dx tb : Option Addr} {M : Model} {A1 A2 : Around} {E1 E2 : Value → Shared → Prop}
end
abbrev GK := St → Addr → Hp → Prop
section
variable {X : Cx} {k : Nat} {f C : Addr} {fd : FuncData} {ps : List Str} {sp : Sp} {dvs : List V} {ds : List Value} {G : GK} {x m : Str} {p pos apos : Pos} {e o : Expr} {es : List Expr} {ta : TE} {t : TA}
end
end L2

namespace L2
open PySem PySem.Spec PyProof.Rows
section
variable {nm q : Str} {C N : Addr} {bs bm : List Value} {hdct : Bool} {sn : List Str} {sub : List Value} {ab : Bool} {col : Option Bool} {dd : Option Addr} {k0 k1 k2 k3 k5 : Option Value}
variable {prog : Program} {w : World} {A : Around} {R : Result → Shared → Prop} {h : Heap} {g : Array GenState} {d : Drawn} {t : Nat} {os : OsState}
end
end L2

namespace L2
open PySem PySem.Spec PyProof.Rows
section
variable {nm q : Str} {C N : Addr} {bs bm : List Value} {hdct : Bool} {sn : List Str} {sub : List Value} {ab : Bool} {col : Option Bool} {dd : Option Addr} {k0 k1 k2 k3 k5 : Option Value}
variable {prog : Program} {w : World} {A : Around} {E : Value → Shared → Prop} {h : Heap} {g : Array GenState} {d : Drawn} {t : Nat} {os : OsState}
end
section
variable {nm q : Str} {C N : Addr} {bs bm : List Value} {sn : List Str} {sub : List Value} {ab : Bool} {col : Option Bool} {dd : Option Addr} {k0 k1 k2 k3 k5 : Option Value}
variable {prog : Program} {w : World} {A : Around} {E : Value → Shared → Prop} {s : Shared} {K : PySem.W.Frag} {x : Addr} {dt : Data} {sl : Array (Option Value)} {name : Str} {v : Value}
end
end L2

set_option maxHeartbeats 4000000
namespace L2
open PySem PySem.Spec PyProof.Rows
section
variable {X : Cx} {pins : List (Addr × Obj)} {σ : St} {H : Hp} {s : Shared} {C : Addr}
variable {k : Nat} {f : Addr} {fd : FuncData} {ps : List Str} {sp : Sp} {x : Str} {p pos : Pos} {e : Expr} {es : List Expr} {t : TA} {te : TE} {G : GK}
end
end L2

set_option maxHeartbeats 4000000
namespace L2
open PySem PySem.Spec PyProof.Rows
section
variable {X : Cx} {e : Expr} {es : List Expr} {te : TE} {pos : Pos}
abbrev TF := St → Hp → (Hp → Prop) → Prop
def PF (X : Cx) (e : Expr) (n : Nat) (t : TF) : Prop := ∀ (pins : List (Addr × Obj)) (s : Shared) (σ : St) (H : Hp) (Q : Hp → Prop), Inv X pins σ H s → t σ H Q →
  wpAny (model X.prog X.w) X.A (eval e X.env) (fun v s1 => ∃ y tk H1, v = .str y tk ∧ y.length ≤ n ∧ Inv X pins σ H1 s1 ∧ Q H1) X.xe s
end
structure XIc (K : PySem.W.Frag) (C : Addr) : Prop where
  ga : PySem.W.findIn K (.ref C) "__getattribute__" = some (some (.builtin "BaseException.__getattribute__"))
  gn : PySem.W.findIn K (.ref C) "__getattr__" = some none
  mB : PySem.W.mroIn K C (.type "BaseException") = some true
  hd : PySem.W.hasDictIn K C = true
  ca : PySem.W.findIn K (.ref C) "__class__" = some (some (.builtin "object.__class__"))
  cg : PySem.W.specialIn K (.builtin "object.__class__") "__get__" = some (some (.builtin "getset_descriptor.__get__"))
  ct : PySem.W.takesIn K (.builtin "object.__class__") = some true
  mO : PySem.W.mroIn K C (.type "object") = some true
section
variable {prog : Program} {w : World} {A : Around} {E : Value → Shared → Prop} {s : Shared} {K : PySem.W.Frag} {x C : Addr} {ox : Obj} {od : Option Obj}
end
end L2

set_option maxHeartbeats 4000000
namespace L2
open PySem PySem.Spec PyProof.Rows
section
variable {X : Cx} {pins : List (Addr × Obj)} {σ : St} {H : Hp} {s : Shared} {E : Value → Shared → Prop} {a : Addr}
end
end L2

namespace L2
open PySem PySem.Spec PyProof.Rows

section
variable {κ : Type} [DecidableEq κ]
theorem KV.length {kvs : List (κ × V)} {vs : List (κ × Value)} (r : KV kvs vs) : kvs.length = vs.length := Paired.length r
end


section
variable {P : Program} {w : World} {H : Hp} {h : Heap} {a : Addr}
theorem rd_of {u : HO} (ok : HOk P w H h) (e : Rd H a u) : ObjOk P w H h a u := e.ok ok
theorem dk_rd {kvs : List (Key × V)} (ok : HOk P w H h) (e : Rd H a (.dK kvs)) : kvs.length ≤ sizeLine ∧ (a == sysModules) = false ∧ ∃ vs, KV kvs vs ∧ h.DictOf (mixKind P w) a vs :=
  show ObjOk P w H h a (.dK kvs) from rd_of ok e
end

section
variable {X : Cx} {pins : List (Addr × Obj)} {σ : St} {H : Hp} {s : Shared} {a : Addr} {y v : V} {u r : Value} {o : Option V} {A : Around} {E : Value → Shared → Prop}

end

section
variable {X : Cx} {pins : List (Addr × Obj)} {σ : St} {H : Hp} {s : Shared} {a : Addr} {kvs : List (Key × V)} {k : Key} {u : Value} {A : Around} {E : Value → Shared → Prop}
theorem d_len {Q : Value → Shared → Prop} (I : Inv X pins σ H s) (e : Rd H a (.dK kvs)) (h : ∀ t s', Inv X pins σ H s' → Q (.int kvs.length t) s') : wpAny (model X.prog X.w) A (call (.builtin "len") [.ref a]) Q E s := by
  obtain ⟨z, hd, vs, rel, dd⟩ := dk_rd I.hok e
  refine call_len_dict hd dd (by rw [← rel.length]; rw [sizeLine_eq] at z; omega) ?_
  rw [← rel.length]
  exact h _ _ (I.tok _)
end


section
variable {X : Cx} {o i e value : Expr} {pos pos' tpos : Pos} {td ty tv : TE}
end


section
variable {X : Cx} {pos : Pos}
end

section
variable {X : Cx} {pins : List (Addr × Obj)} {σ : St} {H : Hp} {s : Shared} {a : Addr} {y d : V} {u r : Value} {o : Option V} {A : Around} {E : Value → Shared → Prop}
end

section
variable {X : Cx} {o e f : Expr} {apos cpos : Pos} {td ty tx : TE}
end

section
variable {X : Cx} {pins : List (Addr × Obj)} {σ : St} {H : Hp} {s : Shared} {a : Addr} {kvs : List (Key × V)} {A : Around} {E : Value → Shared → Prop}
end


section
variable {X : Cx} {pins : List (Addr × Obj)} {σ : St} {H : Hp} {s : Shared} {a : Addr} {y : V} {u : Value} {A : Around} {E : Value → Shared → Prop}
end
end L2
namespace L2
open PySem PySem.Spec PyProof.Rows
section
variable {X : Cx}
theorem call_lenD : CallR X (.builtin "len") (fun xs H Q => ∃ a kvs, xs = [V.ref a] ∧ H a = some (.dK kvs) ∧ Q (.int kvs.length) H) := by
  intro pins s σ H xs us Q I r h
  obtain ⟨a, kvs, rfl, ha, q⟩ := h
  obtain ⟨u, rfl, ru⟩ := vals1 r
  cases ru
  exact d_len I (.inl ha) fun t s' I' => ⟨.int kvs.length, H, I', ⟨t, rfl⟩, q⟩
end
end L2
namespace L2
open PySem
section
variable {κ : Type} [DecidableEq κ]
end
end L2

namespace L2
open PySem PySem.Spec PyProof.Rows
def Sz (n : Nat) (i : Int) : Prop := i.natAbs < 2 ^ n
theorem Sz.bits {n : Nat} {i : Int} (h : Sz n i) : Builtin.Int.intBits i ≤ n := by
  unfold Builtin.Int.intBits
  by_cases h0 : (i == 0) = true
  · rw [if_pos h0]; exact Nat.zero_le _
  · rw [if_neg h0]
    have hi : i.natAbs ≠ 0 := by
      have : i ≠ 0 := by simpa using h0
      omega
    exact Nat.succ_le_of_lt ((Nat.log2_lt hi).mpr h)
theorem Sz.log {n : Nat} {i : Int} (h : Sz n i) (hn : 0 < n) : i.natAbs.log2 < n := by
  by_cases hi : i.natAbs = 0
  · rw [hi]; exact hn
  · exact (Nat.log2_lt hi).mpr h
theorem Sz.mono {n m : Nat} {i : Int} (h : Sz n i) (hm : n ≤ m) : Sz m i := Nat.lt_of_lt_of_le h (Nat.pow_le_pow_right (by decide) hm)
def CMulS (i j : Int) : Prop := CMul i j ∨ (Sz 100000 i ∧ Sz 100000 j)
theorem CMulS.ok {i j : Int} (h : CMulS i j) : IntMulOk i j := by
  rcases h with h | h
  · exact h.ok
  · exact IntMulOk.of_bits (Nat.le_trans h.1.bits (by decide)) (Nat.le_trans h.2.bits (by decide))
section
variable {X : Cx}
theorem op_mulS : OpR X (binaryOp .Mult) (rI CMulS fun i j => .int (i * j)) := opI fun _ _ _ _ _ _ _ hc q => mul_int q hc.ok
theorem op_fdivS : OpR X (binaryOp .FloorDiv) (rI (fun _ j => j ≠ 0 ∧ Sz 9000 j) fun i j => .int (i.fdiv j)) :=
  opI fun _ _ _ _ _ _ _ hc q => floordiv_int hc.1 q (.inl (PyProof.noPylong_of_log2 (hc.2.log (by decide))))
theorem RelV.bool_iff {x : V} {v : Value} {b : Bool} (r : RelV x v) : (v == Value.bool b) = decide (x = .bl b) := by
  cases x with
  | bl c =>
    cases (show v = Value.bool c from r)
    by_cases h : c = b
    · subst h; simp
    · have h1 : ¬ V.bl c = V.bl b := fun z => h (V.bl.inj z)
      rw [decide_eq_false h1]
      exact beq_eq_false_iff_ne.mpr fun z => h (by injection z)
  | non => cases (show v = Value.none from r); rw [decide_eq_false (fun z => nomatch z)]; exact beq_eq_false_iff_ne.mpr fun z => nomatch z
  | int i => obtain ⟨t, rfl⟩ := (show ∃ t, v = Value.int i t from r); rw [decide_eq_false (fun z => nomatch z)]; exact beq_eq_false_iff_ne.mpr fun z => nomatch z
  | str i => obtain ⟨t, rfl⟩ := (show ∃ t, v = Value.str i t from r); rw [decide_eq_false (fun z => nomatch z)]; exact beq_eq_false_iff_ne.mpr fun z => nomatch z
  | byt i => obtain ⟨t, rfl⟩ := (show ∃ t, v = Value.bytes i t from r); rw [decide_eq_false (fun z => nomatch z)]; exact beq_eq_false_iff_ne.mpr fun z => nomatch z
  | flt i => obtain ⟨t, rfl⟩ := (show ∃ t, v = Value.float i t from r); rw [decide_eq_false (fun z => nomatch z)]; exact beq_eq_false_iff_ne.mpr fun z => nomatch z
  | ref i => cases (show v = Value.ref i from r); rw [decide_eq_false (fun z => nomatch z)]; exact beq_eq_false_iff_ne.mpr fun z => nomatch z
  | ty i => cases (show v = Value.type i from r); rw [decide_eq_false (fun z => nomatch z)]; exact beq_eq_false_iff_ne.mpr fun z => nomatch z
theorem plainIs_bool {x : V} {v : Value} {b : Bool} (r : RelV x v) : plainIs v (.bool b) = true := by
  cases x with
  | bl c => cases (show v = Value.bool c from r); rfl
  | non => cases (show v = Value.none from r); rfl
  | int i => obtain ⟨t, rfl⟩ := (show ∃ t, v = Value.int i t from r); rfl
  | str i => obtain ⟨t, rfl⟩ := (show ∃ t, v = Value.str i t from r); rfl
  | byt i => obtain ⟨t, rfl⟩ := (show ∃ t, v = Value.bytes i t from r); rfl
  | flt i => obtain ⟨t, rfl⟩ := (show ∃ t, v = Value.float i t from r); rfl
  | ref i => cases (show v = Value.ref i from r); rfl
  | ty i => cases (show v = Value.type i from r); rfl
theorem op_isB : OpR X (compareOp .Is) (fun x y H Q => ∃ b, y = .bl b ∧ Q (.bl (decide (x = .bl b))) H) := by
  intro pins s σ H x y v u Q I rx ry h
  obtain ⟨b, rfl, q⟩ := h
  cases ry
  exact wpAny_is_plain (plainIs_bool rx) (fin_bl I q (RelV.bool_iff rx).symm)
theorem call_isi : CallR X (.builtin "isinstance") (fun xs H Q => ∃ x c t b, xs = [x, .ty c] ∧ TyOf X.K H x t ∧ PySem.W.kitOne X.K t (.type c) = some b ∧ Q (.bl b) H) := by
  intro pins s σ H xs us Q I r h
  obtain ⟨x, c, t, b, rfl, ty, e, q⟩ := h
  obtain ⟨u, w', rfl, ru, rw'⟩ := vals2 r
  cases (show w' = Value.type c from rw')
  exact isinst_ok I ru ty e fun tk => ⟨.bl b, H, I.tok tk, rfl, q⟩
end
mutual
inductive Dt (K : PySem.W.Frag) (H : Hp) : V → PyData → Prop
  | non : Dt K H .non .none
  | bl (b : Bool) : Dt K H (.bl b) (.bool b)
  | int (i : Int) : Dt K H (.int i) (.int i)
  | str (x : Str) : Dt K H (.str x) (.str x)
  | lst {a : Addr} {xs : List V} {ds : List PyData} : SqL K H a xs → Dts K H xs ds → Dt K H (.ref a) (.list ds)
  | tup {a : Addr} {xs : List V} {ds : List PyData} : SqT K H a xs → Dts K H xs ds → Dt K H (.ref a) (.tuple ds)
inductive Dts (K : PySem.W.Frag) (H : Hp) : List V → List PyData → Prop
  | nil : Dts K H [] []
  | cons {v : V} {d : PyData} {vs : List V} {ds : List PyData} : Dt K H v d → Dts K H vs ds → Dts K H (v :: vs) (d :: ds)
end
section
variable {X : Cx} {pins : List (Addr × Obj)} {σ : St} {H : Hp} {s : Shared}
mutual
theorem Dt.reads (I : Inv X pins σ H s) : ∀ {v : V} {d : PyData} {u : Value}, Dt X.K H v d → RelV v u → ∃ as, Reads s.heap u d as
  | _, _, _, .non, r => by cases r; exact ⟨_, .none⟩
  | _, _, _, .bl b, r => by cases r; exact ⟨_, .bool b⟩
  | _, _, _, .int i, r => by obtain ⟨t, rfl⟩ := r; exact ⟨_, .int i t⟩
  | _, _, _, .str x, r => by obtain ⟨t, rfl⟩ := r; exact ⟨_, .str x t⟩
  | _, _, _, .lst hq ds, r => by
    obtain ⟨its, rv, ⟨o, n, e, c, _, dd⟩, _⟩ := I.list hq
    obtain ⟨as, ra⟩ := Dts.reads I ds rv
    cases r
    exact ⟨_, .list e c dd (by simpa using ra)⟩
  | _, _, _, .tup hq ds, r => by
    obtain ⟨its, rv, ⟨o, e, c, n, dd⟩, _⟩ := I.tuple hq
    obtain ⟨as, ra⟩ := Dts.reads I ds rv
    cases r
    exact ⟨_, .tuple e c dd (by simpa using ra)⟩
theorem Dts.reads (I : Inv X pins σ H s) : ∀ {vs : List V} {ds : List PyData} {us : List Value}, Dts X.K H vs ds → Vals vs us → ∃ as, ReadsAll s.heap us ds as
  | _, _, _, .nil, r => by cases r; exact ⟨_, .nil⟩
  | _, _, _, .cons h t, r => by
    cases r with
    | cons p q =>
      obtain ⟨as, ra⟩ := Dt.reads I h p
      obtain ⟨bs, rb⟩ := Dts.reads I t q
      exact ⟨_, .cons ra rb⟩
end
end
section
variable {X : Cx}
def rEqD (K : PySem.W.Frag) (neg : Bool) : R2 := fun x y H Q => ∃ d e, Dt K H x d ∧ Dt K H y e ∧ d.canLay0 = true ∧ e.canLay0 = true ∧ min d.depth e.depth ≤ 60 ∧ Q (.bl (if neg then !PyData.eqv d e else PyData.eqv d e)) H
theorem op_eqD (hu : X.A.units + 64 < cLine) : OpR X (compareOp .Eq) (rEqD X.K false) := by
  intro pins s σ H x y v u Q I rx ry h
  obtain ⟨d, e, hd, he, c1, c2, dp, q⟩ := h
  obtain ⟨as, ra⟩ := hd.reads I rx
  obtain ⟨bs, rb⟩ := he.reads I ry
  exact SeqAt.compareEq_reads ra rb c1 c2 (by omega) ⟨.bl _, H, I, rfl, q⟩
theorem op_neD (hu : X.A.units + 64 < cLine) : OpR X (compareOp .NotEq) (rEqD X.K true) := by
  intro pins s σ H x y v u Q I rx ry h
  obtain ⟨d, e, hd, he, c1, c2, dp, q⟩ := h
  obtain ⟨as, ra⟩ := hd.reads I rx
  obtain ⟨bs, rb⟩ := he.reads I ry
  exact SeqAt.compareNe_reads ra rb c1 c2 (by omega) ⟨.bl _, H, I, rfl, q⟩
theorem Dts.ints (K : PySem.W.Frag) (H : Hp) : ∀ ns : List Int, Dts K H (ns.map V.int) (ns.map PyData.int)
  | [] => .nil
  | n :: r => .cons (.int n) (Dts.ints K H r)
end
theorem same_new {H : Hp} {p : Addr} (h : H p = none) (o : HO) : Same H (upd H p o) := fun b u q => by rw [upd_ne (ne_of_none q h)]; exact q
theorem Room.u64 {k : Nat} {A : Around} (r : Room k A) : A.units + 64 < cLine := r.units
theorem small {n : Nat} (h : n ≤ 1000) : n ≤ sizeLine := Nat.le_of_lt (small1000 h)
end L2
namespace L2
open PySem PySem.Spec PyProof.Rows
end L2
namespace L2
open PySem PySem.Spec PyProof.Rows
end L2
namespace L2
open PySem
theorem bt_int : bootBuiltins "int" = some (.type "int") := by decide +kernel
theorem bt_str : bootBuiltins "str" = some (.type "str") := by decide +kernel
theorem bt_list : bootBuiltins "list" = some (.type "list") := by decide +kernel
theorem bt_len : bootBuiltins "len" = some (.builtin "len") := by decide +kernel
theorem bt_max : bootBuiltins "max" = some (.builtin "max") := by decide +kernel
theorem bt_isinstance : bootBuiltins "isinstance" = some (.builtin "isinstance") := by decide +kernel
end L2

namespace L2
open PySem PySem.Spec PyProof.Rows
section
variable {prog : Program} {w : World} {A : Around} {R : Result → Shared → Prop} {s : Shared}
theorem compLoop_any {elt target iter : Expr} {ifs : List Expr} {scope : Scope} {pos : Pos} {it acc : Value} {env : Env} (I : Nat → Shared → Prop)
    (turn : ∀ n s, I n s → wpAny (model prog w) A (pyNext it) (fun r s₁ => match r with
      | none => R (.ok .next) s₁
      | some v => wpAny (model prog w) A (letOwnedTupleGo target it v) (fun _ s₁' => wpAny (model prog w) A (assign target env v) (fun _ s₂ =>
          wpAny (model prog w) A (forIn ifs true fun c r => if r = true then do let ok ← isTrue c env (eval c env); pure (ForInStep.yield ok) else pure (ForInStep.yield r)) (fun ok s₃ =>
            if ok = true then wpAny (model prog w) A (eval elt env) (fun x s₄ =>
              wpAny (model prog w) A (call (.builtin "list.append") [acc, x]) (fun _ s₅ => ∃ m, m < n ∧ I m s₅) (fun _ _ => False) s₄) (fun _ _ => False) s₃
            else ∃ m, m < n ∧ I m s₃) (fun _ _ => False) s₂) (fun _ _ => False) s₁') (fun _ _ => False) s₁) (fun _ _ => False) s)
    (n : Nat) (h : I n s) :
    codeAny (model prog w) A (.compLoop (.ListComp elt [⟨target, iter, ifs, 0⟩] scope pos) 0 it acc env) R s := by
  have up : ∀ {α : Type} {m : Sem α} {Q : α → Shared → Prop} {E : Value → Shared → Prop} {s : Shared}, wpAny (model prog w) A m Q (fun _ _ => False) s → wpAny (model prog w) A m Q E s := fun h => wpAny_mono h (fun _ _ q => q) fun _ _ f => f.elim
  refine codeAny_loop rfl I (fun n s hI => ?_) n h
  show wpAny _ A ((compTurn (.ListComp elt [⟨target, iter, ifs, 0⟩] scope pos) 0 it acc env).onRaise (fun x => do noteFrame x env; theTreesLotGoes x)) _ _ s
  refine wpAny_noted ?_
  rw [compTurn_list]
  refine wpAny_bind (wpAny_standAt (wpAny_bind (wpAny_mono (up (turn n s hI)) (fun r s₁ h₁ => ?_) fun _ _ h' => h')))
  cases r with
  | none => exact wpAny_pure h₁
  | some v =>
    refine wpAny_bind (wpAny_mono (up h₁) (fun _ s₁' h₁' => ?_) fun _ _ h' => h')
    refine wpAny_bind (wpAny_mono (up h₁') (fun _ s₂ h₂ => wpAny_bind (wpAny_mono (up h₂) (fun ok s₃ h₃ => ?_) fun _ _ h' => h')) fun _ _ h' => h')
    cases ok with
    | false => exact wpAny_pure ⟨rfl, h₃⟩
    | true =>
      exact wpAny_bind (wpAny_bind (wpAny_mono (up h₃) (fun x s₄ h₄ => wpAny_bind (wpAny_mono (up h₄) (fun _ s₅ h₅ => wpAny_pure (wpAny_pure ⟨rfl, h₅⟩)) fun _ _ h' => h')) fun _ _ h' => h'))
end
theorem closure_ex {env : Env} : ∀ (names : List (Str × NameKind)) (acc : List (Str × Addr)), (∀ x ∈ names, x.2 = .free → ∃ c, env.cells.lookup x.1 = some c) → (∀ y c, acc.lookup y = some c → env.cells.lookup y = some c) →
    ∃ cl, (forIn names acc fun (x : Str × NameKind) (cs : List (Str × Addr)) => if (x.2 == NameKind.free) = true then do let a ← cellOf env x.1; pure (ForInStep.yield ((x.1, a) :: cs)) else pure (ForInStep.yield cs) : Sem (List (Str × Addr))) = pure cl ∧
      (∀ y c, cl.lookup y = some c → env.cells.lookup y = some c) ∧ (∀ x ∈ names, x.2 = .free → ∃ c, cl.lookup x.1 = some c) ∧ ∀ y c, acc.lookup y = some c → ∃ c', cl.lookup y = some c'
  | [], acc, _, ha => ⟨acc, rfl, ha, fun _ h => (nomatch h), fun y c h => ⟨c, h⟩⟩
  | (n, k) :: r, acc, hn, ha => by
    by_cases hk : k = .free
    · subst hk
      obtain ⟨c, hc⟩ := hn (n, .free) List.mem_cons_self rfl
      have e1 : cellOf env n = pure c := by unfold cellOf; rw [hc]
      have ha' : ∀ y d, ((n, c) :: acc).lookup y = some d → env.cells.lookup y = some d := fun y d h => by
        rw [List.lookup_cons] at h
        cases hy : y == n with
        | true =>
          rw [hy] at h
          have : y = n := eq_of_beq hy
          subst this
          cases h
          exact hc
        | false => rw [hy] at h; exact ha y d h
      obtain ⟨cl, h1, h2, h3, h4⟩ := closure_ex r ((n, c) :: acc) (fun x hx => hn x (List.mem_cons_of_mem _ hx)) ha'
      refine ⟨cl, ?_, h2, ?_, ?_⟩
      · rw [List.forIn_cons]
        simp only [beq_self_eq_true, if_true, e1, pure_bind]
        exact h1
      · intro x hx hf
        rcases List.mem_cons.mp hx with rfl | hx
        · exact h4 n c (by rw [List.lookup_cons, beq_self_eq_true])
        · exact h3 x hx hf
      · intro y d hy
        cases hb : y == n with
        | true => exact h4 y c (by rw [List.lookup_cons, hb])
        | false => exact h4 y d (by rw [List.lookup_cons, hb]; exact hy)
    · have hb : (k == NameKind.free) = false := by simpa using hk
      obtain ⟨cl, h1, h2, h3, h4⟩ := closure_ex r acc (fun x hx => hn x (List.mem_cons_of_mem _ hx)) ha
      refine ⟨cl, ?_, h2, ?_, h4⟩
      · rw [List.forIn_cons]
        simp only [hb, Bool.false_eq_true, if_false, pure_bind]
        exact h1
      · intro x hx hf
        rcases List.mem_cons.mp hx with rfl | hx
        · exact absurd hf hk
        · exact h3 x hx hf
theorem cf_cell (n : Nat) (a : Str) (r : List (Str × NameKind)) (acc : List (Str × Addr)) : cellsFrom n ((a, .cell) :: r) acc = cellsFrom (n + 1) r ((a, n) :: acc) := rfl
theorem cf_not {k : NameKind} (hk : k ≠ .cell) (n : Nat) (a : Str) (r : List (Str × NameKind)) (acc : List (Str × Addr)) : cellsFrom n ((a, k) :: r) acc = cellsFrom n r acc := by
  cases k <;> first | rfl | exact absurd rfl hk
def ncell (names : List (Str × NameKind)) : Nat := (names.filter fun y => y.2 == NameKind.cell).length
theorem nc_cell (a : Str) (r : List (Str × NameKind)) : ncell ((a, .cell) :: r) = ncell r + 1 := by unfold ncell; rw [List.filter_cons_of_pos (by rfl), List.length_cons]
theorem nc_not {k : NameKind} (hk : k ≠ .cell) (a : Str) (r : List (Str × NameKind)) : ncell ((a, k) :: r) = ncell r := by unfold ncell; rw [List.filter_cons_of_neg (by simpa using hk)]
theorem cf_at : ∀ (names : List (Str × NameKind)) (n : Nat) (acc : List (Str × Addr)) {x : Str} {c : Nat}, (cellsFrom n names acc).lookup x = some c → (n ≤ c ∧ c < n + ncell names ∧ (x, NameKind.cell) ∈ names) ∨ (acc.lookup x = some c ∧ (x, NameKind.cell) ∉ names)
  | [], _, _, _, _, h => .inr ⟨h, by simp⟩
  | (a, k) :: r, n, acc, x, c, h => by
    by_cases hk : k = .cell
    · subst hk
      rw [cf_cell] at h
      rcases cf_at r (n + 1) _ h with ⟨h1, h2, h3⟩ | ⟨h1, h2⟩
      · refine .inl ⟨by omega, ?_, List.mem_cons_of_mem _ h3⟩
        rw [nc_cell]; omega
      · rw [List.lookup_cons] at h1
        cases hx : x == a with
        | true =>
          rw [hx] at h1
          cases h1
          refine .inl ⟨Nat.le_refl _, ?_, by rw [eq_of_beq hx]; exact List.mem_cons_self⟩
          rw [nc_cell]; omega
        | false =>
          rw [hx] at h1
          refine .inr ⟨h1, fun z => ?_⟩
          rcases List.mem_cons.mp z with z | z
          · cases z; simp at hx
          · exact h2 z
    · rw [cf_not hk] at h
      have hf := nc_not hk a r
      rw [hf]
      rcases cf_at r n _ h with ⟨h1, h2, h3⟩ | ⟨h1, h2⟩
      · exact .inl ⟨h1, h2, List.mem_cons_of_mem _ h3⟩
      · refine .inr ⟨h1, fun z => ?_⟩
        rcases List.mem_cons.mp z with z | z
        · cases z; exact hk rfl
        · exact h2 z
theorem cf_out : ∀ (names : List (Str × NameKind)) (n : Nat) (acc : List (Str × Addr)) {x : Str}, (x, NameKind.cell) ∉ names → (cellsFrom n names acc).lookup x = acc.lookup x
  | [], _, _, _, _ => rfl
  | (a, k) :: r, n, acc, x, h => by
    have hr : (x, NameKind.cell) ∉ r := fun z => h (List.mem_cons_of_mem _ z)
    by_cases hk : k = .cell
    · subst hk
      rw [cf_cell, cf_out r _ _ hr, List.lookup_cons]
      cases hx : x == a with
      | true => exact absurd (by rw [eq_of_beq hx]; exact List.mem_cons_self) h
      | false => rfl
    · rw [cf_not hk, cf_out r _ _ hr]
theorem cf_inj : ∀ (names : List (Str × NameKind)) (n : Nat) (acc : List (Str × Addr)), (∀ x y c, acc.lookup x = some c → acc.lookup y = some c → x = y) → (∀ x c, acc.lookup x = some c → c < n) → ∀ x y c, (cellsFrom n names acc).lookup x = some c → (cellsFrom n names acc).lookup y = some c → x = y
  | [], _, _, h, _ => h
  | (a, k) :: r, n, acc, h, hb => by
    by_cases hk : k = .cell
    · subst hk
      rw [cf_cell]
      refine cf_inj r (n + 1) _ (fun x y c e e' => ?_) fun x c e => ?_
      · rw [List.lookup_cons] at e e'
        cases hx : x == a with
        | true =>
          rw [hx] at e
          cases e
          cases hy : y == a with
          | true => rw [eq_of_beq hx, eq_of_beq hy]
          | false => rw [hy] at e'; exact absurd (hb _ _ e') (Nat.lt_irrefl _)
        | false =>
          rw [hx] at e
          cases hy : y == a with
          | true => rw [hy] at e'; cases e'; exact absurd (hb _ _ e) (Nat.lt_irrefl _)
          | false => rw [hy] at e'; exact h x y c e e'
      · rw [List.lookup_cons] at e
        cases hx : x == a with
        | true => rw [hx] at e; cases e; exact Nat.lt_succ_self _
        | false => rw [hx] at e; exact Nat.lt_succ_of_lt (hb _ _ e)
    · rw [cf_not hk]
      exact cf_inj r n acc h hb
theorem cells_make {M : Model} {A : Around} {E : Value → Shared → Prop} : ∀ (names : List (Str × NameKind)) (cells : List (Str × Addr)) (s : Shared) (Q : List (Str × Addr) → Shared → Prop),
    (∀ h' : Heap, (∀ b o, s.heap.get? b = some o → h'.get? b = some o) → (∀ c, s.heap.objs.size ≤ c → c < s.heap.objs.size + ncell names → h'.IsCell c none) → Q (cellsFrom s.heap.objs.size names cells) { s with heap := h' }) →
    wpAny M A (forIn names cells fun (x : Str × NameKind) (cells : List (Str × Addr)) => if (x.2 == NameKind.cell) = true then do let a ← alloc { cls := Value.type "cell", data := Data.cell none }; pure (ForInStep.yield ((x.1, a) :: cells)) else pure (ForInStep.yield cells)) Q E s
  | [], cells, s, Q, h => by
    have := h s.heap (fun _ _ e => e) (fun c h1 h2 => by rw [show ncell [] = 0 from rfl] at h2; omega)
    rw [List.forIn_nil]
    exact wpAny_pure this
  | (a, k) :: r, cells, s, Q, h => by
    rw [List.forIn_cons]
    by_cases hk : k = .cell
    · subst hk
      simp only [beq_self_eq_true, if_true, bind_assoc, pure_bind]
      refine wpAny_bind (wpAny_alloc ?_)
      have ih := cells_make (M := M) (A := A) (E := E) r ((a, s.heap.objs.size) :: cells) { s with heap := s.heap.push { cls := Value.type "cell", data := Data.cell none } } Q (fun h' k1 k2 => by
        have hz : (s.heap.push { cls := Value.type "cell", data := Data.cell none }).objs.size = s.heap.objs.size + 1 := Heap.size_push _ _
        have := h h' (fun b o e => k1 b o (Heap.get?_push_of_some _ e)) (fun c h1 h2 => by
          rw [nc_cell] at h2
          by_cases hc : c = s.heap.objs.size
          · subst hc
            exact ⟨_, k1 _ _ (Heap.get?_push_size _ rfl), rfl⟩
          · exact k2 c (by show (s.heap.push _).objs.size ≤ c; rw [hz]; omega) (by show c < (s.heap.push _).objs.size + _; rw [hz]; omega))
        rw [cf_cell] at this
        have e : (({ s with heap := s.heap.push { cls := Value.type "cell", data := Data.cell none } } : Shared)).heap.objs.size = s.heap.objs.size + 1 := hz
        rw [e]
        exact this)
      exact ih
    · have hb : (k == NameKind.cell) = false := by simpa using hk
      simp only [hb, Bool.false_eq_true, if_false, pure_bind]
      refine cells_make r cells s Q fun h' k1 k2 => ?_
      have hf := nc_not hk a r
      have := h h' k1 (by rw [hf]; exact k2)
      rw [cf_not hk] at this
      exact this
theorem newEnv_cells {M : Model} {A : Around} {E : Value → Shared → Prop} {s : Shared} {scope : Scope} {globals : Addr} {closure : List (Str × Addr)} {qual : Str} {code : Value} {out : Env} {builtins : Addr} {Q : Env → Shared → Prop}
    (h : ∀ h' : Heap, (∀ b o, s.heap.get? b = some o → h'.get? b = some o) → h'.Ns s.heap.objs.size (fun _ => none) → (∀ c, s.heap.objs.size + 1 ≤ c → c < s.heap.objs.size + 1 + ncell scope.names → h'.IsCell c none) →
      Q (newEnv scope s.heap.objs.size globals (cellsFrom (s.heap.objs.size + 1) scope.names closure) qual none code (some out) builtins) { s with heap := h' }) :
    wpAny M A (newFunctionEnv scope globals closure [] qual none code (some out) builtins) Q E s := by
  unfold newFunctionEnv
  refine wpAny_bind (wpAny_alloc ?_)
  have hz : (s.heap.push { cls := Value.type "dict", data := Data.dict #[] }).objs.size = s.heap.objs.size + 1 := Heap.size_push _ _
  refine wpAny_bind (cells_make scope.names closure { s with heap := s.heap.push { cls := Value.type "dict", data := Data.dict #[] } } _ fun h' k1 k2 => ?_)
  have hz' : (({ s with heap := s.heap.push { cls := Value.type "dict", data := Data.dict #[] } } : Shared)).heap.objs.size = s.heap.objs.size + 1 := hz
  rw [hz'] at k2 ⊢
  dsimp only
  rw [List.forIn_nil]
  refine wpAny_bind (wpAny_pure (wpAny_pure ?_))
  exact h h' (fun b o e => k1 b o (Heap.get?_push_of_some _ e)) ((Heap.Ns.new s.heap _).keeps k1) k2
def cxB (X : Cx) (scope : Scope) (cl : List (Str × Addr)) (N : List Str) (C : Addr) (fp : List Addr) (s₀ : Shared) (H₀ : Hp) : Cx :=
  { X with N := N, s₀ := s₀, H₀ := H₀, env := compEnvC scope cl C X.env, outer := X.stack, stack := X.stack, ex := fp, fn := fun x => scope.names.lookup x == some .cell, pn := [], xe := fun _ _ => False }
structure BlkOk (X : Cx) (scope : Scope) (N : List Str) (own : Nat) (cap : List Nat) : Prop where
  kind : scope.kind = .function
  cells : ∀ x ∈ scope.names, x.2 = .cell → scope.names.lookup x.1 = some .cell
  locs : ∀ x ∈ scope.names, x.2 = .local → scope.names.lookup x.1 = some .local
  free : ∀ x ∈ scope.names, x.2 = .free → X.env.kindOf x.1 = some .cell ∨ X.env.kindOf x.1 = some .free
  len : N.length = own + cap.length
  caps : ∀ (j : Nat) (x : Str), N[own + j]? = some x → ∃ i, cap[j]? = some i ∧ X.N[i]? = some x ∧ (scope.names.lookup x = some .free)
theorem lookup_mem {α β : Type} [BEq α] [LawfulBEq α] {x : α} {y : β} : ∀ {l : List (α × β)}, l.lookup x = some y → (x, y) ∈ l
  | [], h => by simp at h
  | (a, b) :: r, h => by
    rw [List.lookup_cons] at h
    cases hb : x == a with
    | true => rw [hb] at h; cases h; rw [eq_of_beq hb]; exact List.mem_cons_self
    | false => rw [hb] at h; exact List.mem_cons_of_mem _ (lookup_mem h)
theorem relabel_free {env : Env} {x : Str} : ∀ {names : List (Str × NameKind)}, names.lookup x = some .free →
    (names.map fun (n, k) => if (k == NameKind.free && env.scope.kind == .function && env.kindOf n == some .cell) then (n, NameKind.cell) else (n, k)).lookup x = some .cell ∨
    (names.map fun (n, k) => if (k == NameKind.free && env.scope.kind == .function && env.kindOf n == some .cell) then (n, NameKind.cell) else (n, k)).lookup x = some .free
  | [], h => by simp at h
  | (n, k) :: r, h => by
    rw [List.lookup_cons] at h
    rw [List.map_cons]
    cases hx : x == n with
    | true =>
      rw [hx] at h
      cases h
      by_cases hc : (NameKind.free == NameKind.free && env.scope.kind == .function && env.kindOf n == some .cell) = true
      · left
        simp only [hc, if_true, List.lookup_cons, hx]
      · right
        simp only [hc, if_false, List.lookup_cons, hx, Bool.false_eq_true]
    | false =>
      rw [hx] at h
      rcases relabel_free (env := env) h with q | q
      · left
        by_cases hc : (k == NameKind.free && env.scope.kind == .function && env.kindOf n == some .cell) = true
        · simp only [hc, if_true, List.lookup_cons, hx]; exact q
        · simp only [hc, if_false, List.lookup_cons, hx, Bool.false_eq_true]; exact q
      · right
        by_cases hc : (k == NameKind.free && env.scope.kind == .function && env.kindOf n == some .cell) = true
        · simp only [hc, if_true, List.lookup_cons, hx]; exact q
        · simp only [hc, if_false, List.lookup_cons, hx, Bool.false_eq_true]; exact q
theorem relabel_backC {env : Env} {x : Str} : ∀ {names : List (Str × NameKind)}, ((names.map fun (n, k) => if (k == NameKind.free && env.scope.kind == .function && env.kindOf n == some .cell) then (n, NameKind.cell) else (n, k)).lookup x = some .cell ∨
    (names.map fun (n, k) => if (k == NameKind.free && env.scope.kind == .function && env.kindOf n == some .cell) then (n, NameKind.cell) else (n, k)).lookup x = some .free) → (x, NameKind.free) ∈ names ∨ (x, NameKind.cell) ∈ names
  | [], h => by simp at h
  | (n, k) :: r, h => by
    rw [List.map_cons] at h
    cases hx : x == n with
    | true =>
      have e : x = n := eq_of_beq hx
      by_cases hc : (k == NameKind.free && env.scope.kind == .function && env.kindOf n == some .cell) = true
      · have : k = .free := by
          rw [Bool.and_eq_true, Bool.and_eq_true] at hc
          exact eq_of_beq hc.1.1
        left
        rw [e, this]; exact List.mem_cons_self
      · simp only [hc, if_false, List.lookup_cons, hx, Bool.false_eq_true] at h
        rcases h with h | h
        · cases h; right; rw [e]; exact List.mem_cons_self
        · cases h; left; rw [e]; exact List.mem_cons_self
    | false =>
      refine (relabel_backC (env := env) (names := r) ?_).imp (List.mem_cons_of_mem _) (List.mem_cons_of_mem _)
      by_cases hc : (k == NameKind.free && env.scope.kind == .function && env.kindOf n == some .cell) = true
      · simpa only [hc, if_true, List.lookup_cons, hx] using h
      · simpa only [hc, if_false, List.lookup_cons, hx, Bool.false_eq_true] using h
def capsOf (σ : St) (cap : List Nat) : St := cap.map fun i => (σ[i]?).join
theorem capsOf_get {σ : St} {cap : List Nat} {j i : Nat} {v : V} (hj : cap[j]? = some i) (h : (capsOf σ cap)[j]? = some (some v)) : σ[i]? = some (some v) := by
  unfold capsOf at h
  rw [List.getElem?_map, hj] at h
  cases e : σ[i]? with
  | none => rw [Option.map_some, e] at h; cases h
  | some o =>
    rw [Option.map_some, e] at h
    cases o with
    | none => cases h
    | some u => exact h
section
variable {X : Cx} {pins : List (Addr × Obj)} {σ : St} {H : Hp} {s : Shared}
theorem blk_start {scope : Scope} {cl : List (Str × Addr)} {N : List Str} {own : Nat} {cap : List Nat} {fp : List Addr} {h₁ : Heap} {t' : Nat} {m₀ : Str → Option Value} (B : BlkOk X scope N own cap) (I : Inv X pins σ H s)
    (c1 : ∀ y c, cl.lookup y = some c → X.env.cells.lookup y = some c) (c2 : ∀ x ∈ scope.names, x.2 = .free → ∃ c, cl.lookup x.1 = some c)
    (hf : ∀ b ∈ fp, FpOk X pins H b) (hfo : ∀ b ∈ fp, b < s.heap.objs.size) (hns : h₁.Ns s.heap.objs.size m₀) (k : ∀ b o, s.heap.get? b = some o → h₁.get? b = some o)
    (hcs : ∀ c, s.heap.objs.size + 1 ≤ c → c < s.heap.objs.size + 1 + ncell scope.names → h₁.IsCell c none) :
    Inv (cxB X scope (cellsFrom (s.heap.objs.size + 1) scope.names cl) N s.heap.objs.size fp s H) [] (List.replicate own none ++ capsOf σ cap) H { s with heap := h₁, toks := t' } :=
  have low : ∀ x c, cl.lookup x = some c → c < s.heap.objs.size := fun x c e => by
    obtain ⟨v, o, q, _⟩ := I.cell x c (c1 x c e)
    exact Heap.lt_size q
  { ok := {
      mod := I.mod
      kind := B.kind
      glob := I.ok.glob
      blt := I.ok.blt
      above := Nat.le_refl _
      inj := cf_inj _ _ _ (fun x y c e e' => I.ok.inj x y c (c1 x c e) (c1 y c e')) fun x c e => Nat.lt_succ_of_lt (low x c e)
      has := fun x hx => by
        refine Option.isSome_iff_exists.mp (PySem.W.cellsFrom_some scope.names _ _ ?_)
        rcases relabel_backC hx with q | q
        · right
          obtain ⟨c, e⟩ := c2 _ q rfl
          rw [e]; rfl
        · exact .inl (B.cells _ q rfl)
      cab := fun x c e e' => by
        have hx : scope.names.lookup x = some .cell := eq_of_beq e
        rcases cf_at _ _ _ e' with ⟨h1, _⟩ | ⟨_, h2⟩
        · exact Nat.le_of_succ_le h1
        · exact absurd (lookup_mem hx) h2
      hd := I.ok.hd
      frames := I.ok.frames
      stk := .inl rfl
      exf := fun b hb => ⟨Nat.ne_of_lt (hfo b hb), fun x c e => by
        rcases cf_at _ _ _ e with ⟨h1, _⟩ | ⟨h1, _⟩
        · exact fun z => absurd (hfo b hb) (by rw [← z]; exact Nat.not_lt.mpr (Nat.le_of_succ_le h1))
        · exact (hf b hb).2.2.2.2.1 x c (c1 x c h1)⟩
      bs := I.bs
      bsz := Nat.le_trans I.ok.bsz I.sz
      noex := fun b o e hb => by
        rcases (hf b hb).2.2.2.1 with q | q
        · exact I.ok.noex b o e q
        · exact absurd (Nat.lt_of_lt_of_le (Heap.lt_size e) I.ok.bsz) (Nat.not_lt.mpr q)
      exfs := fun b hb hz => by
        rcases List.mem_cons.mp (I.stkSub b hz) with q | q
        · exact (hf b hb).2.1 q
        · exact (hf b hb).2.2.1 q
      funs := I.stack
      frf := I.stkFree }
    os := rfl
    bare := I.bare
    base := Un.kept k
    loc := by
      refine ⟨m₀, hns, fun i x v hN hσ hv => ?_⟩
      by_cases hi : i < own
      · rw [List.getElem?_append_left (by rw [List.length_replicate]; exact hi), List.getElem?_replicate, if_pos hi] at hσ
        cases hσ
      · obtain ⟨j, rfl⟩ : ∃ j, i = own + j := ⟨i - own, by omega⟩
        obtain ⟨i', e1, e2, e3⟩ := B.caps j x hN
        rw [List.getElem?_append_right (by rw [List.length_replicate]; omega), List.length_replicate, Nat.add_sub_cancel_left] at hσ
        have hσ' := capsOf_get e1 hσ
        have hk := B.free (x, .free) (lookup_mem e3) rfl
        obtain ⟨m, hm, hl⟩ := I.loc
        obtain ⟨u, ru, hu⟩ := hl i' x v e2 hσ' (.inr hk)
        refine ⟨u, ru, ?_⟩
        rcases hu with ⟨q, _⟩ | ⟨_, c, hc, ic⟩
        · rcases hk with hk | hk
          · rw [hk] at q; cases q
          · rw [hk] at q; cases q
        · obtain ⟨c', hc'⟩ := c2 (x, .free) (lookup_mem e3) rfl
          have ec := c1 x c' hc'
          rw [hc] at ec
          cases ec
          have hn : (x, NameKind.cell) ∉ scope.names := fun z => by
            have := B.cells _ z rfl
            rw [e3] at this
            cases this
          exact .inr ⟨relabel_free e3, c, by show (cellsFrom _ _ _).lookup x = _; rw [cf_out _ _ _ hn]; exact hc', ic.keeps k⟩
    cell := fun x c e => by
      rcases cf_at _ _ _ e with ⟨h1, h2, _⟩ | ⟨h1, _⟩
      · exact ⟨none, hcs c h1 h2⟩
      · obtain ⟨v, q⟩ := I.cell x c (c1 x c h1)
        exact ⟨v, q.keeps k⟩
    free := I.hok.fresh (Nat.le_refl _)
    freeC := fun x c e => by
      rcases cf_at _ _ _ e with ⟨h1, _⟩ | ⟨h1, _⟩
      · exact I.hok.fresh (Nat.le_of_succ_le h1)
      · exact I.freeC x c (c1 x c h1)
    pin := fun p hp => (nomatch hp)
    hok := I.hok.kept k
    len := by
      show (List.replicate own none ++ capsOf σ cap).length = N.length
      rw [List.length_append, List.length_replicate, B.len]
      unfold capsOf
      rw [List.length_map] }
end
def tNoTest : TT := fun _ H Q => Q true H
def PTs (X : Cx) (ifs : List Expr) (t : TT) : Prop :=
  ∀ (pins : List (Addr × Obj)) (s : Shared) (σ : St) (H : Hp) (Q : Bool → Hp → Prop), Inv X pins σ H s → t σ H Q →
    wpAny (model X.prog X.w) X.A (forIn ifs true fun c r => if r = true then do let ok ← isTrue c X.env (eval c X.env); pure (ForInStep.yield ok) else pure (ForInStep.yield r)) (TP X pins σ Q) X.xe s
theorem pts_nil {X : Cx} : PTs X [] tNoTest := fun _ _ _ H _ I h => wpAny_tests_nil ⟨H, I, h⟩
def tComp (wi : TI) (own : Nat) (cap : List Nat) (g : TG) (tt : TT) (te : TE) : TE := fun σ H Q => wi σ H fun J H1 => ∀ D, H1 D = none → ∃ W : Nat → Nat → List V → Hp → Prop, (∃ m, W 0 m [] (upd H1 D (.lst []))) ∧
  ∀ i m ys H2, W i m ys H2 → H2 D = some (.lst ys) ∧ ((J.stop i H2 ∧ Q (.ref D) H2) ∨ (J.go i H2 ∧ ys.length < sizeLine ∧ ∀ x H3, J.yld i H2 x H3 → g x (List.replicate own none ++ capsOf σ cap) H3 fun σ2 H4 => tt σ2 H4 fun b H5 =>
    if b = true then te σ2 H5 fun y H6 => H6 D = some (.lst ys) ∧ ∃ m', m' < m ∧ W (i + 1) m' (ys ++ [y]) (upd H6 D (.lst (ys ++ [y]))) else ∃ m', m' < m ∧ W (i + 1) m' ys H5))
def keepsCaps (own : Nat) (g : TG) : Prop := ∀ v σ H Q, g v σ H Q → g v σ H fun σ' H' => Q σ' H' ∧ σ'.length = σ.length ∧ ∀ i, own ≤ i → σ'[i]? = σ[i]?
theorem keeps_name (i own : Nat) (h : i < own) : keepsCaps own (gName i) := fun v σ H Q q => ⟨q, by rw [List.length_set], fun j hj => by rw [List.getElem?_set_ne (by omega)]⟩
theorem pe_comp {X : Cx} {elt iter tg : Expr} {ifs : List Expr} {scope : Scope} {pos : Pos} {N : List Str} {own : Nat} {cap : List Nat} {wi : TI} {g : TG} {tt : TT} {te : TE} (B : BlkOk X scope N own cap) (hc : X.calm = true) (hi : PI X tg iter wi)
    (kg : keepsCaps own g)
    (hg : ∀ cl C fp s₀ H₀, PG (cxB X scope cl N C fp s₀ H₀) tg g) (ht : ∀ cl C fp s₀ H₀, PTs (cxB X scope cl N C fp s₀ H₀) ifs tt) (he : ∀ cl C fp s₀ H₀, PE (cxB X scope cl N C fp s₀ H₀) elt te)
    (hs : ∀ x, foldedSetIterable iter X.env x = pure x := by intro _; rfl) : PE X (.ListComp elt [⟨tg, iter, ifs, 0⟩] scope pos) (tComp wi own cap g tt te) := by
  intro pins s σ H Q I h
  obtain ⟨cl, hcl, c1, c2, _⟩ := closure_ex (env := X.env) scope.names [] (fun x hx hf => I.ok.has x.1 (B.free x hx hf)) (fun y c e => by simp at e)
  have hclos : closureFor scope X.env = pure cl := by
    have e : closureFor scope X.env = (forIn scope.names ([] : List (Str × Addr)) (fun (x : Str × NameKind) (cs : List (Str × Addr)) => if (x.2 == NameKind.free) = true then do let a ← cellOf X.env x.1; pure (ForInStep.yield ((x.1, a) :: cs)) else pure (ForInStep.yield cs)) >>= pure : Sem (List (Str × Addr))) := rfl
    rw [e, hcl]
    rfl
  rw [eval_ListComp]
  refine wpAny_comprehension_free (use := none) rfl hs hclos B.kind B.locs (thn (hi pins s σ H _ I h) fun v s1 h1 => thn h1 fun itv s2 h2 => ?_)
  obtain ⟨it, fp, tn, J, H2, e, I2, T, st2, f2, W0⟩ := h2
  subst e
  obtain ⟨W, ⟨m0, w0⟩, turn⟩ := W0 s2.heap.objs.size (I2.hok.fresh (Nat.le_refl _))
  refine wpAny_newObj_type ?_
  have I3 : Inv X pins σ (upd H2 s2.heap.objs.size (.lst [])) { s2 with heap := s2.heap.push { cls := .type "list", data := .seq ([] : List Value).toArray } } := I2.lnew .nil (Nat.zero_le _)
  generalize hs3 : ({ s2 with heap := s2.heap.push { cls := .type "list", data := .seq ([] : List Value).toArray } } : Shared) = s3 at I3
  have k3 : ∀ b o, s2.heap.get? b = some o → s3.heap.get? b = some o := fun b o e => by rw [← hs3]; exact Heap.get?_push_of_some _ e
  have z3 : s3.heap.objs.size = s2.heap.objs.size + 1 := by rw [← hs3]; exact Heap.size_push _ _
  have hfo2 : ∀ b ∈ fp, b < s2.heap.objs.size := fun b hb => by
    obtain ⟨o, e, _⟩ := T.obj _ _ st2 b hb
    exact Heap.lt_size e
  have hne : ∀ b ∈ fp, b ≠ s2.heap.objs.size := fun b hb => Nat.ne_of_lt (hfo2 b hb)
  have f3 : ∀ b ∈ fp, FpOk X pins (upd H2 s2.heap.objs.size (.lst [])) b := fun b hb => ⟨by rw [upd_ne (hne b hb)]; exact (f2 b hb).1, (f2 b hb).2⟩
  have tn3 : tn 0 s3.heap := T.keep _ _ _ st2 fun b _ o e => k3 b o e
  show wpAny _ _ (newFunctionEnv scope X.env.globals cl [] X.env.qual none .none (some X.env)) _ _ _
  refine newEnv_cells fun h₁ kk hns₁ hcs₁ => ?_
  have IB := blk_start (t' := s3.toks) B I3 c1 c2 f3 (fun b hb => by rw [z3]; exact Nat.lt_succ_of_lt (hfo2 b hb)) hns₁ kk hcs₁
  generalize cellsFrom (s3.heap.objs.size + 1) scope.names cl = cl at IB ⊢
  generalize hs4 : ({ s3 with heap := h₁, toks := s3.toks } : Shared) = s4 at IB
  have tn4 : tn 0 s4.heap := T.keep _ _ _ tn3 fun b _ o e => by rw [← hs4]; exact kk b o e
  show codeAny (model X.prog X.w) X.A (.compStart (.ListComp elt [⟨tg, iter, ifs, 0⟩] scope pos) 0 (.ref it) (.ref s2.heap.objs.size) (compEnvC scope cl s3.heap.objs.size X.env))
      (compPost (model X.prog X.w) X.A X.xe none (EP X pins σ Q) (.ref s2.heap.objs.size) s3.heap.objs.size) s4
  have stat : ∀ {H' : Hp}, (∀ b ∈ fp, H' b = none) → ∀ b ∈ fp, FpOk (cxB X scope cl N s3.heap.objs.size fp s3 (upd H2 s2.heap.objs.size (.lst []))) [] H' b := fun hn b hb =>
    ⟨hn b hb, Nat.ne_of_lt (by show b < s3.heap.objs.size; rw [z3]; exact Nat.lt_succ_of_lt (hfo2 b hb)), IB.ok.exfs b hb, .inl hb, fun x c e => (IB.ok.exf b hb).2 x c e, fun p hp => (nomatch hp)⟩
  have loop : codeAny (model X.prog X.w) X.A (.compLoop (.ListComp elt [⟨tg, iter, ifs, 0⟩] scope pos) 0 (.ref it) (.ref s2.heap.objs.size) (compEnvC scope cl s3.heap.objs.size X.env))
      (compPost (model X.prog X.w) X.A X.xe none (EP X pins σ Q) (.ref s2.heap.objs.size) s3.heap.objs.size) s4 := by
    refine compLoop_any (fun n s' => ∃ i ys H', Inv (cxB X scope cl N s3.heap.objs.size fp s3 (upd H2 s2.heap.objs.size (.lst []))) [] (List.replicate own none ++ capsOf σ cap) H' s' ∧ tn i s'.heap ∧ (∀ b ∈ fp, H' b = none) ∧ W i n ys H') ?_ m0
      ⟨0, [], _, IB, tn4, fun b hb => (f3 b hb).1, w0⟩
    rintro n s5 ⟨i, ys, H5, I5, st5, fr5, w5⟩
    obtain ⟨hD, hgo⟩ := turn i n ys H5 w5
    rcases hgo with ⟨stop, qn⟩ | ⟨go, hlt, step⟩
    · refine thn (T.done (cxB X scope cl N s3.heap.objs.size fp s3 (upd H2 s2.heap.objs.size (.lst []))) rfl rfl rfl hc i [] s5 _ H5 (fun _ _ => False) I5 (stat fr5) st5 stop) fun r s6 hq9 => ?_
      obtain ⟨hr, I6⟩ := hq9
      subst hr
      obtain ⟨m, hm, _⟩ := id I6.loc
      refine ⟨m, hm, fun h' sb => ⟨.ref s2.heap.objs.size, H5, ?_, rfl, qn⟩⟩
      have U := I6.base
      have nC : ∀ b o, s3.heap.get? b = some o → b ≠ s3.heap.objs.size := fun b o e => Nat.ne_of_lt (Heap.lt_size e)
      have nT : ∀ b o, H5 b = some o → b ≠ s3.heap.objs.size := fun b o e z => by
        have q : H5 s3.heap.objs.size = none := I6.free
        rw [z, q] at e
        cases e
      refine I3.call' (ch := fp) I6.os ?_ (fun a o e => (I6.hok a o e).stay (fun b u hb q => sb.extBut b u ?_ q) (fun _ q => q) fun _ _ q => q) I6.bare (fun b hb => ⟨(f3 b hb).2.2.2.1, (f3 b hb).2.1, (f3 b hb).2.2.2.2.1, (f3 b hb).2.2.2.2.2⟩)
      · exact {
          keep := fun b o e z hb he => sb.extBut b o (nC b o e) (U.keep b o e z hb he)
          slot := fun b o e z hb he => by
            obtain ⟨sl, q⟩ := U.slot b o e z hb he
            exact ⟨sl, sb.extBut b _ (nC b o e) q⟩
          free := U.free
          there := fun b o e he => by
            obtain ⟨o', q⟩ := U.there b o e he
            exact ⟨o', sb.extBut b o' (nC b o e) q⟩
          tups := U.tups
          frzs := U.frzs
          tbls := U.tbls }
      · rcases hb with rfl | hb
        · exact nT _ _ e
        · exact nT _ _ hb
    · refine thn (T.item (cxB X scope cl N s3.heap.objs.size fp s3 (upd H2 s2.heap.objs.size (.lst []))) rfl rfl rfl hc i [] s5 _ H5 (fun _ _ => False) I5 (stat fr5) st5 go) fun r s6 hq9 => ?_
      obtain ⟨u, hr, h6⟩ := hq9
      subst hr
      refine thn h6 fun _ s7 hq9 => ?_
      obtain ⟨x, H7, I7, r7, y7, st7, fr7⟩ := hq9
      have I7' := I7.pinned (stat fr7) (T.obj _ _ st7)
      refine thn (hg cl s3.heap.objs.size fp s3 _ _ s7 _ H7 x u _ I7' r7 (kg _ _ _ _ (step x H7 y7))) fun _ s8 hq9 => ?_
      obtain ⟨σ8, H8, I8, q8, l8, p8⟩ := hq9
      have back : ∀ {H9 : Hp} {s9 : Shared}, Inv (cxB X scope cl N s3.heap.objs.size fp s3 (upd H2 s2.heap.objs.size (.lst []))) ([] ++ pinsAt fp s7.heap) σ8 H9 s9 →
          Inv (cxB X scope cl N s3.heap.objs.size fp s3 (upd H2 s2.heap.objs.size (.lst []))) [] (List.replicate own none ++ capsOf σ cap) H9 s9 ∧ tn (i + 1) s9.heap ∧ ∀ b ∈ fp, H9 b = none := fun {H9 s9} I9 => by
        refine ⟨(I9.unpinned).weak l8.symm (fun j v e => ?_), T.keep _ _ _ st7 fun b hb o e => (I9.pin (b, o) (List.mem_append_right _ (List.mem_append_right _ (mem_pinsAt hb e)))).1, fun b hb => ?_⟩
        · by_cases hj : j < own
          · rw [List.getElem?_append_left (by rw [List.length_replicate]; exact hj), List.getElem?_replicate, if_pos hj] at e
            cases e
          · rw [p8 j (by omega)]; exact e
        · obtain ⟨o, e, d⟩ := T.obj _ _ st7 b hb
          exact (I9.pin (b, o) (List.mem_append_right _ (List.mem_append_right _ (mem_pinsAt hb e)))).2.1
      refine thn (ht cl s3.heap.objs.size fp s3 _ _ s8 σ8 H8 _ I8 q8) fun ok s9 hq9 => ?_
      obtain ⟨H9, I9, q9⟩ := hq9
      cases ok with
      | false =>
        rw [if_neg Bool.false_ne_true]
        rw [if_neg Bool.false_ne_true] at q9
        obtain ⟨m', hm', w'⟩ := q9
        obtain ⟨b1, b2, b3⟩ := back I9
        exact ⟨m', hm', i + 1, ys, H9, b1, b2, b3, w'⟩
      | true =>
        rw [if_pos rfl]
        rw [if_pos rfl] at q9
        refine thn (he cl s3.heap.objs.size fp s3 _ _ s9 σ8 H9 _ I9 q9) fun uy s10 hq9 => ?_
        obtain ⟨y, H10, I10, r10, hD10, m', hm', w'⟩ := hq9
        refine thn (mt_append _ s10 σ8 H10 (.ref s2.heap.objs.size) [y] (.ref s2.heap.objs.size) [uy] (fun _ H11 => H11 = upd H10 s2.heap.objs.size (.lst (ys ++ [y]))) I10 rfl (.cons r10 .nil) ⟨_, ys, y, rfl, rfl, hD10, hlt, rfl⟩) fun _ s11 hq9 => ?_
        obtain ⟨_, H11, I11, _, e11⟩ := hq9
        subst e11
        obtain ⟨b1, b2, b3⟩ := back I11
        exact ⟨m', hm', i + 1, ys ++ [y], _, b1, b2, b3, w'⟩
  exact codeAny_compStart_list loop (T.self X.A 0 s4 _ _ tn4 loop)
end L2

namespace L2
open PySem PySem.Spec PyProof.Rows
section
variable {X : Cx} {pins : List (Addr × Obj)} {σ : St} {H : Hp} {s : Shared} {h' : Heap}
theorem Inv.turnLay {ch : List Addr} {a : Addr} {o : HO} {t' : Nat} (I : Inv X pins σ H s) (hch : ∀ b ∈ ch, FpOk X pins H b) (k : ∀ b o, b ∉ ch → s.heap.get? b = some o → h'.get? b = some o) (hp : s.heap.objs.size ≤ a)
    (new : ObjOk X.prog X.w (upd H a o) h' a o) : Inv X pins σ (upd H a o) { s with heap := h', toks := t' } := by
  have hn : H a = none := I.hok.fresh hp
  have nin : ∀ b u, H b = some u → b ∉ ch := fun b u e z => by rw [(hch b z).1] at e; cases e
  refine I.step (g' := s.gens) (d' := s.drawn) (ch := ch) (fun b hb => ⟨(hch b hb).2.2.2.1, (hch b hb).2.1, (hch b hb).2.2.2.2.1, (hch b hb).2.2.2.2.2⟩) (fun b o _ _ hc e _ => k b o hc e) (fun b o _ _ hc e _ => ⟨o.slots, k b o hc e⟩)
    (fun b o _ e n => by rw [upd_ne (Nat.ne_of_lt (Nat.lt_of_lt_of_le (Heap.lt_size e) hp))]; exact n) (fun b o hc e => ⟨o, k b o hc e⟩) (fun b xs q => by rw [upd_ne (ne_of_none q hn)]; exact q) (fun b u xs q => by rw [upd_ne (ne_of_none q hn)]; exact q)
    (fun b ps q => ⟨#[], by rw [upd_ne (ne_of_none q hn), q]; simp⟩) (fun m hm => ?_) (fun b u e => ?_) I.bare
  · obtain ⟨o', es, ep, ho, r⟩ := hm
    exact ⟨o', es, ep, k _ o' (fun z => (hch _ z).2.1 rfl) ho, r⟩
  · by_cases hb : b = a
    · subst hb
      rw [upd_same] at e
      cases e
      exact new
    · rw [upd_ne hb] at e
      refine (I.hok b u e).stay (fun c v hc q => k c v ?_ q) (fun c q => by rw [upd_ne (ne_of_none q hn)]; exact q) fun c xs q => by rw [upd_ne (ne_of_none q hn)]; exact q
      rcases hc with z | z
      · rw [z]; exact nin b u e
      · exact nin c _ z
theorem Inv.turnedL {ch : List Addr} {t' : Nat} (I : Inv X pins σ H s) (hch : ∀ b ∈ ch, FpOk X pins H b) (k : ∀ b o, b ∉ ch → s.heap.get? b = some o → h'.get? b = some o) : Inv X pins σ H { s with heap := h', toks := t' } := by
  have nin : ∀ b u, H b = some u → b ∉ ch := fun b u e z => by rw [(hch b z).1] at e; cases e
  refine I.step (g' := s.gens) (d' := s.drawn) (ch := ch) (fun b hb => ⟨(hch b hb).2.2.2.1, (hch b hb).2.1, (hch b hb).2.2.2.2.1, (hch b hb).2.2.2.2.2⟩) (fun b o _ _ hc e _ => k b o hc e) (fun b o _ _ hc e _ => ⟨o.slots, k b o hc e⟩)
    (fun _ _ _ _ n => n) (fun b o hc e => ⟨o, k b o hc e⟩) (fun _ _ e => e) (fun _ _ _ e => e) (fun b ps e => ⟨#[], by rw [e]; simp⟩) (fun m hm => ?_) (fun b u e => ?_) I.bare
  · obtain ⟨o', es, ep, ho, r⟩ := hm
    exact ⟨o', es, ep, k _ o' (fun z => (hch _ z).2.1 rfl) ho, r⟩
  · refine (I.hok b u e).stay (fun c v hc q => k c v ?_ q) (fun _ q => q) fun _ _ q => q
    rcases hc with z | z
    · rw [z]; exact nin b u e
    · exact nin c _ z
end
def Ite (K : PySem.W.Frag) (a : Addr) : It :=
  ⟨fun i H => ∃ xs x, SqL K H a xs ∧ xs[i]? = some x, fun i H x H' => ∃ p y, H p = none ∧ x = .ref p ∧ H' = upd H p (.tup [.int i, y]) ∧ ∀ xs, SqL K H a xs → xs[i]? = some y, fun i H => ∃ xs, SqL K H a xs ∧ xs.length ≤ i⟩
theorem turn_enum {P : Program} {w : World} {K : PySem.W.Frag} {elts : List Expr} {kt : Nat} {pt : Pos} (a e it : Addr) (hei : e ≠ it) :
    Turn P w K (.Tuple elts kt pt) (Ite K a) [e, it] e (fun i h => (∃ old, IsEnum h e it i old) ∧ h.IsListIter it a i) where
  mem := by simp
  obj := fun i h st b hb => by
    obtain ⟨⟨old, he⟩, o, e1, c, d⟩ := st
    rcases List.mem_cons.mp hb with rfl | hb
    · exact ⟨_, he, fun v z => by cases z⟩
    · have e2 : b = it := by simpa using hb
      subst e2
      exact ⟨o, e1, fun v z => by rw [d] at z; cases z⟩
  keep := fun i h h' st k => by
    obtain ⟨⟨old, he⟩, hit⟩ := st
    exact ⟨⟨old, k e (by simp) _ he⟩, hit.at fun o x => k it (by simp) o x⟩
  item := by
    intro X hP hw hK hc i pins s σ H E I hf st hg
    subst hP hw hK
    obtain ⟨xs, x, hq, hx⟩ := hg
    obtain ⟨its, rv, p, hz⟩ := I.list hq
    obtain ⟨u, hu, ru⟩ := rv.get hx
    obtain ⟨⟨old, he⟩, hit⟩ := st
    refine wpAny_pyNext_enum_item he hit p.isList (x := u) (by simpa using hu) hei fun h1 ho hit1 hT hsz hk => ?_
    refine ⟨_, rfl, wpAny_letOwnedTupleGo_enum (s := { s with heap := h1, toks := s.toks + 1 }) ho fun h2 he2 sb2 => ?_⟩
    have elt : e < s.heap.objs.size := Heap.lt_size he
    have ilt : it < s.heap.objs.size := by obtain ⟨_, q, _⟩ := hit; exact Heap.lt_size q
    have hT2 : h2.get? s.heap.objs.size = some { cls := .type "tuple", data := .seq #[.int i s.toks, u] } := (sb2.2 _ (Nat.ne_of_gt elt)).trans hT
    have hfr : H s.heap.objs.size = none := I.hok.fresh (Nat.le_refl _)
    have I1 : Inv X pins σ (upd H s.heap.objs.size (.tup [.int i, x])) { s with heap := h2, toks := s.toks + 1 } := by
      refine I.turnLay (ch := [e, it]) hf (fun b o hb q => ?_) (Nat.le_refl _) ⟨by show 2 ≤ sizeLine; decide, [.int i s.toks, u], .cons ⟨_, rfl⟩ (.cons ru .nil), _, hT2, rfl, _, rfl⟩
      have h1' : b ≠ e := fun z => hb (by simp [z])
      have h2' : b ≠ it := fun z => hb (by simp [z])
      exact (sb2.2 b h1').trans (hk b o h1' h2' q)
    refine ⟨.ref s.heap.objs.size, _, I1, rfl, ⟨_, x, hfr, rfl, rfl, fun ys hy => by rw [I.list_inj hy hq]; exact hx⟩, ⟨⟨u, by simpa using he2⟩, hit1.at fun o q => (sb2.2 it hei.symm).trans q⟩, fun b hb => ?_⟩
    rw [upd_ne ?_]
    · exact (hf b hb).1
    · rcases List.mem_cons.mp hb with rfl | hb
      · exact Nat.ne_of_lt elt
      · have e2 : b = it := by simpa using hb
        rw [e2]; exact Nat.ne_of_lt ilt
  done := by
    intro X hP hw hK hc i pins s σ H E I hf st hg
    subst hP hw hK
    obtain ⟨xs, hq, hx⟩ := hg
    obtain ⟨its, rv, p, hz⟩ := I.list hq
    obtain ⟨⟨old, he⟩, hit⟩ := st
    have hl := rv.length
    exact wpAny_pyNext_enum_end (I.ok.hd hc) he hit p.isList (by simp; omega) fun h' eb => ⟨rfl, I.turnedL (ch := [e, it]) (t' := s.toks) hf fun b o hb q => eb b o (fun z => hb (by simp [z])) q⟩
  self := fun _ _ _ _ _ st h => wpAny_pyIter_enum st.1.choose_spec h
section
variable {X : Cx} {elts : List Expr} {kt : Nat} {pt : Pos}
def iEnum (K : PySem.W.Frag) (ta : TA) : TI := fun σ H R => ta σ H fun vs H1 => ∃ a, vs = [.ref a] ∧ (∃ xs, SqL K H1 a xs) ∧ R (Ite K a) H1
theorem pi_enum {l : Expr} {ta : TA} {p pos : Pos} (hg : Gl X "enumerate") (hm : X.mg "enumerate" = none) (ha : PA X [l] ta) (hs : starEach [l] X.env = [(false, eval l X.env)] := by rfl) :
    PI X (.Tuple elts kt pt) (.Call (.Name "enumerate" p) [l] [] pos) (iEnum X.K ta) := by
  intro pins s σ H R I h
  refine Call_ (ld_blt I hg hm PyProof.Rows.boot_enumerate (PyProof.Rows.callWith_type1 (thn (ha pos pins s σ H _ I h) fun us s1 ⟨vs, H1, I1, r1, q1⟩ => ?_) hs rfl))
  obtain ⟨a, e, ⟨xs, hq⟩, q⟩ := q1
  subst e
  cases r1 with
  | cons r rr =>
    cases rr
    cases r
    obtain ⟨its, rv, pl, hz⟩ := I1.list hq
    refine call_enumerate_list pl.isList fun h' he hit hsz hk => ?_
    refine wpAny_pyIter_enum (s := { s1 with heap := h' }) he ?_
    refine ⟨s1.heap.objs.size + 1, [s1.heap.objs.size + 1, s1.heap.objs.size], _, _, H1, rfl, I1.kept (t' := s1.toks) hk, turn_enum a _ _ (Nat.succ_ne_self _), ⟨⟨_, he⟩, hit⟩, fun b hb => ?_, q⟩
    rcases List.mem_cons.mp hb with rfl | hb
    · exact I1.fpOk (Nat.le_succ _) (I1.hok.fresh (Nat.le_succ _))
    · have e : b = s1.heap.objs.size := by simpa using hb
      subst e
      exact I1.fpOk (Nat.le_refl _) (I1.hok.fresh (Nat.le_refl _))
end
end L2

namespace L3
open PySem PySem.Spec L2
open PyProof.Rows hiding St
inductive D where
  | non | bl (b : Bool) | int (i : Int) | str (x : Str)
  | lst (xs : List D) | tup (xs : List D) | dK (ks : List Key) (ds : List D) | dT (ks : List (List Key)) (ds : List D)
  | obj (c : Nat) (ns : List Str) (ds : List D)
  | exc (c : Nat) (ns : List Str) (ds : List D)
  deriving Inhabited

inductive Pr (R : D → V → Prop) : List D → List V → Prop
  | nil : Pr R [] []
  | cons {d : D} {v : V} {ds : List D} {vs : List V} : R d v → Pr R ds vs → Pr R (d :: ds) (v :: vs)
theorem Pr.mono {R R' : D → V → Prop} (f : ∀ d v, R d v → R' d v) {ds : List D} {vs : List V} (h : Pr R ds vs) : Pr R' ds vs := by
  induction h with
  | nil => exact .nil
  | cons h t ih => exact .cons (f _ _ h) ih
theorem Pr.length {R : D → V → Prop} {ds : List D} {vs : List V} (h : Pr R ds vs) : ds.length = vs.length := by
  induction h with
  | nil => rfl
  | cons h t ih => rw [List.length_cons, List.length_cons, ih]
theorem Pr.get' {R : D → V → Prop} {ds : List D} {vs : List V} {i : Nat} {d : D} (h : Pr R ds vs) (e : ds[i]? = some d) : ∃ v, vs[i]? = some v ∧ R d v := by
  induction h generalizing i with
  | nil => cases e
  | cons h t ih =>
    cases i with
    | zero => cases e; exact ⟨_, rfl, h⟩
    | succ i => exact ih e
theorem Pr.append {R : D → V → Prop} {ds es : List D} {vs us : List V} (h : Pr R ds vs) (s : Pr R es us) : Pr R (ds ++ es) (vs ++ us) := by
  induction h with
  | nil => exact s
  | cons h t ih => exact .cons h ih
mutual
inductive Dt (K : PySem.W.Frag) (ct : Nat → Addr) (F : Hp) : D → V → Prop
  | non : Dt K ct F .non .non
  | bl (b : Bool) : Dt K ct F (.bl b) (.bl b)
  | int (i : Int) : Dt K ct F (.int i) (.int i)
  | str (x : Str) : Dt K ct F (.str x) (.str x)
  | lst {a : Addr} {vs : List V} {ds : List D} : SqL K F a vs → Dts K ct F ds vs → Dt K ct F (.lst ds) (.ref a)
  | tup {a : Addr} {vs : List V} {ds : List D} : F a = some (.tup vs) → Dts K ct F ds vs → Dt K ct F (.tup ds) (.ref a)
  | dK {a : Addr} {ks : List Key} {vs : List V} {ds : List D} : F a = some (.dK (ks.zip vs)) → ks.length = vs.length → Dts K ct F ds vs → Dt K ct F (.dK ks ds) (.ref a)
  | dT {a : Addr} {ks : List (List Key)} {vs : List V} {ds : List D} : F a = some (.dT (ks.zip vs)) → ks.length = vs.length → Dts K ct F ds vs → Dt K ct F (.dT ks ds) (.ref a)
  | obj {a dx : Addr} {c : Nat} {ns : List Str} {vs : List V} {ds : List D} : F a = some (.ins (ct c) dx (ns.zip vs)) → ns.length = vs.length → Dts K ct F ds vs → Dt K ct F (.obj c ns ds) (.ref a)
  | exc0 {a : Addr} {c : Nat} {tb : Option Addr} : F a = some (xcH a (ct c) none tb) → Dt K ct F (.exc c [] []) (.ref a)
  | exc {a dx : Addr} {c : Nat} {tb : Option Addr} {ns : List Str} {vs : List V} {ds : List D} : F a = some (xcH a (ct c) (some dx) tb) → F dx = some (.xd (ns.zip vs)) → ns.length = vs.length → Dts K ct F ds vs → Dt K ct F (.exc c ns ds) (.ref a)
inductive Dts (K : PySem.W.Frag) (ct : Nat → Addr) (F : Hp) : List D → List V → Prop
  | nil : Dts K ct F [] []
  | cons {d : D} {v : V} {ds : List D} {vs : List V} : Dt K ct F d v → Dts K ct F ds vs → Dts K ct F (d :: ds) (v :: vs)
end
section
variable {K : PySem.W.Frag} {ct : Nat → Addr} {F F' G G' H H' B B' : Hp}
theorem Dts.pr {ds : List D} {vs : List V} (h : Dts K ct F ds vs) : Pr (Dt K ct F) ds vs := by
  induction ds generalizing vs with
  | nil => cases h; exact .nil
  | cons d ds ih => cases h with | cons h t => exact .cons h (ih t)
theorem Dts.of {ds : List D} {vs : List V} (h : Pr (Dt K ct F) ds vs) : Dts K ct F ds vs := by
  induction h with
  | nil => exact .nil
  | cons h t ih => exact .cons h ih
theorem Dt.mono (s : Same F F') {d : D} {v : V} (h : Dt K ct F d v) : Dt K ct F' d v :=
  Dt.rec (motive_1 := fun d v _ => Dt K ct F' d v) (motive_2 := fun d v _ => Dts K ct F' d v) .non .bl .int .str (fun h _ t => .lst (s.seq h) t) (fun h _ t => .tup (s _ _ h) t) (fun h l _ t => .dK (s _ _ h) l t) (fun h l _ t => .dT (s _ _ h) l t) (fun h l _ t => .obj (s _ _ h) l t) (fun h => .exc0 (s _ _ h)) (fun h h' l _ t => .exc (s _ _ h) (s _ _ h') l t) .nil (fun _ _ h t => .cons h t) h
end

def D.sc : D → Bool
  | .non => true | .bl _ => true | .int _ => true | .str _ => true | _ => false

inductive AlC (K : PySem.W.Frag) (ct : Nat → Addr) (F G : Hp) (R : D → V → Prop) : D → V → Prop
  | lst {a : Addr} {vs : List V} {ds : List D} : G a = some (.lst vs) → Pr R ds vs → AlC K ct F G R (.lst ds) (.ref a)
  | tup {a : Addr} {vs : List V} {ds : List D} : F a = some (.tup vs) → Pr R ds vs → AlC K ct F G R (.tup ds) (.ref a)
  | dK {a : Addr} {ks : List Key} {vs : List V} {ds : List D} : G a = some (.dK (ks.zip vs)) → ks.length = vs.length → Pr R ds vs → AlC K ct F G R (.dK ks ds) (.ref a)
  | dT {a : Addr} {ks : List (List Key)} {vs : List V} {ds : List D} : G a = some (.dT (ks.zip vs)) → ks.length = vs.length → Pr R ds vs → AlC K ct F G R (.dT ks ds) (.ref a)
  | obj {a dx : Addr} {c : Nat} {ns : List Str} {vs : List V} {ds : List D} : G a = some (.ins (ct c) dx (ns.zip vs)) → ns.length = vs.length → Pr R ds vs → AlC K ct F G R (.obj c ns ds) (.ref a)
def Al (K : PySem.W.Frag) (ct : Nat → Addr) (F G : Hp) : Nat → D → V → Prop
  | 0, d, v => Dt K ct F d v
  | n + 1, d, v => Dt K ct F d v ∨ AlC K ct F G (Al K ct F G n) d v
inductive OwL (R : D → V → List Addr → Prop) : List D → List V → List Addr → Prop
  | nil : OwL R [] [] []
  | cons {d : D} {v : V} {ds : List D} {vs : List V} {f g : List Addr} : R d v f → OwL R ds vs g → OwL R (d :: ds) (v :: vs) (f ++ g)
inductive OwC (K : PySem.W.Frag) (ct : Nat → Addr) (F H : Hp) (R : D → V → List Addr → Prop) : D → V → List Addr → Prop
  | lst {a : Addr} {vs : List V} {ds : List D} {fp : List Addr} : F a = none → H a = some (.lst vs) → OwL R ds vs fp → OwC K ct F H R (.lst ds) (.ref a) (a :: fp)
  | tup {a : Addr} {vs : List V} {ds : List D} {fp : List Addr} : F a = some (.tup vs) → OwL R ds vs fp → OwC K ct F H R (.tup ds) (.ref a) fp
  | dK {a : Addr} {ks : List Key} {vs : List V} {ds : List D} {fp : List Addr} : F a = none → H a = some (.dK (ks.zip vs)) → ks.length = vs.length → OwL R ds vs fp → OwC K ct F H R (.dK ks ds) (.ref a) (a :: fp)
  | dT {a : Addr} {ks : List (List Key)} {vs : List V} {ds : List D} {fp : List Addr} : F a = none → H a = some (.dT (ks.zip vs)) → ks.length = vs.length → OwL R ds vs fp → OwC K ct F H R (.dT ks ds) (.ref a) (a :: fp)
  | obj {a dx : Addr} {c : Nat} {ns : List Str} {vs : List V} {ds : List D} {fp : List Addr} : F a = none → H a = some (.ins (ct c) dx (ns.zip vs)) → ns.length = vs.length → OwL R ds vs fp → OwC K ct F H R (.obj c ns ds) (.ref a) (a :: fp)
def Ow (K : PySem.W.Frag) (ct : Nat → Addr) (F H : Hp) : Nat → D → V → List Addr → Prop
  | 0, d, v, fp => Dt K ct F d v ∧ fp = []
  | n + 1, d, v, fp => (d.sc = true ∧ Dt K ct F d v ∧ fp = []) ∨ OwC K ct F H (Ow K ct F H n) d v fp

structure Ext (F H F' H' : Hp) : Prop where
  ff : Same F F'
  hh : Same H H'
  fh : Same F' H'
  nf : ∀ a o, H a = some o → F a = none → F' a = none
theorem Ext.refl {F H : Hp} (h : Same F H) : Ext F H F H := ⟨.refl _, .refl _, h, fun _ _ _ h => h⟩
theorem Ext.trans {F H F1 H1 F2 H2 : Hp} (a : Ext F H F1 H1) (b : Ext F1 H1 F2 H2) : Ext F H F2 H2 :=
  ⟨a.ff.trans b.ff, a.hh.trans b.hh, b.fh, fun c o h n => b.nf c o (a.hh _ _ h) (a.nf c o h n)⟩
theorem Ext.newO {F H : Hp} {p : Addr} (s : Same F H) (h : H p = none) (o : HO) : Ext F H F (upd H p o) :=
  ⟨.refl _, same_new h o, s.trans (same_new h o), fun _ _ _ h => h⟩
theorem Ext.newS {F H : Hp} {p : Addr} (s : Same F H) (h : H p = none) (o : HO) : Ext F H (upd F p o) (upd H p o) :=
  ⟨same_new (s.free h) o, same_new h o, fun b u q => by
    by_cases e : b = p
    · subst e; rw [upd_same] at q ⊢; exact q
    · rw [upd_ne e] at q ⊢; exact s _ _ q,
   fun b u q n => by rw [upd_ne (ne_of_none q h)]; exact n⟩

section
variable {K : PySem.W.Frag} {ct : Nat → Addr} {F F' G G' H H' B B' : Hp}
theorem Al.mono (sF : Same F F') (sG : Same G G') {n : Nat} : ∀ {d : D} {v : V}, Al K ct F G n d v → Al K ct F' G' n d v := by
  induction n with
  | zero => exact fun h => Dt.mono sF h
  | succ n ih =>
    intro d v h
    rcases h with h | h
    · exact .inl (Dt.mono sF h)
    · cases h with
      | lst h p => exact .inr (.lst (sG _ _ h) (p.mono fun _ _ q => ih q))
      | tup h p => exact .inr (.tup (sF _ _ h) (p.mono fun _ _ q => ih q))
      | dK h l p => exact .inr (.dK (sG _ _ h) l (p.mono fun _ _ q => ih q))
      | dT h l p => exact .inr (.dT (sG _ _ h) l (p.mono fun _ _ q => ih q))
      | obj h l p => exact .inr (.obj (sG _ _ h) l (p.mono fun _ _ q => ih q))
theorem Al.of : ∀ {n : Nat} {d : D} {v : V}, Dt K ct F d v → Al K ct F G n d v
  | 0, _, _, h => h
  | _ + 1, _, _, h => .inl h
theorem Dt.scal {d : D} {v : V} (h : Dt K ct F d v) (hs : d.sc = true) : Dt K ct F' d v := by
  cases h with
  | non => exact .non
  | bl b => exact .bl b
  | int i => exact .int i
  | str x => exact .str x
  | lst _ _ => cases hs
  | tup _ _ => cases hs
  | dK _ _ _ => cases hs
  | dT _ _ _ => cases hs
  | obj _ _ _ => cases hs
  | exc0 _ => cases hs
  | exc _ _ _ _ => cases hs
theorem Al.scal {n : Nat} {d : D} {v : V} (h : Al K ct F G n d v) (hs : d.sc = true) : Dt K ct F' d v := by
  cases n with
  | zero => exact Dt.scal h hs
  | succ n =>
    rcases h with h | h
    · exact h.scal hs
    · cases h <;> cases hs
theorem Al.int {n : Nat} {i : Int} {v : V} (h : Al K ct F G n (.int i) v) : v = .int i := by
  have q := Al.scal (F' := F) h rfl
  cases q; rfl
theorem Al.bl {n : Nat} {b : Bool} {v : V} (h : Al K ct F G n (.bl b) v) : v = .bl b := by
  have q := Al.scal (F' := F) h rfl
  cases q; rfl
theorem Al.str {n : Nat} {x : Str} {v : V} (h : Al K ct F G n (.str x) v) : v = .str x := by
  have q := Al.scal (F' := F) h rfl
  cases q; rfl
theorem Al.non {n : Nat} {v : V} (h : Al K ct F G n .non v) : v = .non := by
  have q := Al.scal (F' := F) h rfl
  cases q; rfl
theorem Al.lst {n : Nat} {ds : List D} {v : V} (h : Al K ct F G n (.lst ds) v) (s : Same F G) : ∃ a vs, v = .ref a ∧ SqL K G a vs ∧ Pr (Al K ct F G (n - 1)) ds vs := by
  cases n with
  | zero =>
    have h : Dt K ct F (.lst ds) v := h
    cases h with
    | lst q t => exact ⟨_, _, rfl, s.seq q, t.pr⟩
  | succ n =>
    rcases h with h | h
    · cases h with
      | lst q t => exact ⟨_, _, rfl, s.seq q, t.pr.mono fun _ _ => Al.of⟩
    · cases h with
      | lst q t => exact ⟨_, _, rfl, SqL.of q, t⟩
theorem Al.tup {n : Nat} {ds : List D} {v : V} (h : Al K ct F G n (.tup ds) v) (s : Same F G) : ∃ a vs, v = .ref a ∧ G a = some (.tup vs) ∧ Pr (Al K ct F G (n - 1)) ds vs := by
  cases n with
  | zero =>
    have h : Dt K ct F (.tup ds) v := h
    cases h with
    | tup q t => exact ⟨_, _, rfl, s _ _ q, t.pr⟩
  | succ n =>
    rcases h with h | h
    · cases h with
      | tup q t => exact ⟨_, _, rfl, s _ _ q, t.pr.mono fun _ _ => Al.of⟩
    · cases h with
      | tup q t => exact ⟨_, _, rfl, s _ _ q, t⟩
theorem Al.dK {n : Nat} {ks : List Key} {ds : List D} {v : V} (h : Al K ct F G n (.dK ks ds) v) (s : Same F G) : ∃ a vs, v = .ref a ∧ G a = some (.dK (ks.zip vs)) ∧ ks.length = vs.length ∧ Pr (Al K ct F G (n - 1)) ds vs := by
  cases n with
  | zero =>
    have h : Dt K ct F (.dK ks ds) v := h
    cases h with
    | dK q l t => exact ⟨_, _, rfl, s _ _ q, l, t.pr⟩
  | succ n =>
    rcases h with h | h
    · cases h with
      | dK q l t => exact ⟨_, _, rfl, s _ _ q, l, t.pr.mono fun _ _ => Al.of⟩
    · cases h with
      | dK q l t => exact ⟨_, _, rfl, q, l, t⟩
theorem OwL.mono {R R' : D → V → List Addr → Prop} {ds : List D} {vs : List V} {fp : List Addr} (h : OwL R ds vs fp) : (∀ d v f, (∀ a ∈ f, a ∈ fp) → R d v f → R' d v f) → OwL R' ds vs fp := by
  induction h with
  | nil => exact fun _ => .nil
  | cons h t ih => exact fun q => .cons (q _ _ _ (fun a z => List.mem_append_left _ z) h) (ih fun d v f i r => q d v f (fun a z => List.mem_append_right _ (i a z)) r)
theorem OwL.pr {R : D → V → List Addr → Prop} {R' : D → V → Prop} {ds : List D} {vs : List V} {fp : List Addr} (h : OwL R ds vs fp) : (∀ d v f, (∀ a ∈ f, a ∈ fp) → R d v f → R' d v) → Pr R' ds vs := by
  induction h with
  | nil => exact fun _ => .nil
  | cons h t ih => exact fun q => .cons (q _ _ _ (fun a z => List.mem_append_left _ z) h) (ih fun d v f i r => q d v f (fun a z => List.mem_append_right _ (i a z)) r)
theorem OwL.ofPr {R : D → V → List Addr → Prop} {ds : List D} {vs : List V} (h : Pr (fun d v => R d v []) ds vs) : OwL R ds vs [] := by
  induction h with
  | nil => exact .nil
  | cons h t ih => exact OwL.cons (f := []) (g := []) h ih
theorem OwL.append {R : D → V → List Addr → Prop} {ds es : List D} {vs us : List V} {f g : List Addr} (h : OwL R ds vs f) (s : OwL R es us g) : OwL R (ds ++ es) (vs ++ us) (f ++ g) := by
  induction h with
  | nil => exact s
  | cons h t ih => rw [List.append_assoc]; exact .cons h ih
theorem OwL.length {R : D → V → List Addr → Prop} {ds : List D} {vs : List V} {fp : List Addr} (h : OwL R ds vs fp) : ds.length = vs.length := by
  induction h with
  | nil => rfl
  | cons _ t ih => simp [ih]
theorem Ow.frame (sF : Same F F') {n : Nat} : ∀ {d : D} {v : V} {fp : List Addr}, Ow K ct F H n d v fp → (∀ a ∈ fp, H' a = H a ∧ F' a = none) → Ow K ct F' H' n d v fp := by
  induction n with
  | zero => exact fun h _ => ⟨h.1.mono sF, h.2⟩
  | succ n ih =>
    intro d v fp h k
    rcases h with h | h
    · exact .inl ⟨h.1, h.2.1.mono sF, h.2.2⟩
    · cases h with
      | lst hn h p => exact .inr (.lst (k _ List.mem_cons_self).2 ((k _ List.mem_cons_self).1.trans h) (p.mono fun _ _ _ i q => ih q fun a z => k a (List.mem_cons_of_mem _ (i a z))))
      | tup h p => exact .inr (.tup (sF _ _ h) (p.mono fun _ _ _ i q => ih q fun a z => k a (i a z)))
      | dK hn h l p => exact .inr (.dK (k _ List.mem_cons_self).2 ((k _ List.mem_cons_self).1.trans h) l (p.mono fun _ _ _ i q => ih q fun a z => k a (List.mem_cons_of_mem _ (i a z))))
      | dT hn h l p => exact .inr (.dT (k _ List.mem_cons_self).2 ((k _ List.mem_cons_self).1.trans h) l (p.mono fun _ _ _ i q => ih q fun a z => k a (List.mem_cons_of_mem _ (i a z))))
      | obj hn h l p => exact .inr (.obj (k _ List.mem_cons_self).2 ((k _ List.mem_cons_self).1.trans h) l (p.mono fun _ _ _ i q => ih q fun a z => k a (List.mem_cons_of_mem _ (i a z))))
theorem OwL.cells0 {R : D → V → List Addr → Prop} (k : ∀ d v f, R d v f → ∀ a ∈ f, F a = none ∧ ∃ o, H a = some o) {ds : List D} {vs : List V} {fp : List Addr} (h : OwL R ds vs fp) : ∀ a ∈ fp, F a = none ∧ ∃ o, H a = some o := by
  induction h with
  | nil => exact fun a z => by cases z
  | cons h t ih => exact fun a z => (List.mem_append.mp z).elim (fun z => k _ _ _ h a z) (ih a)
theorem Ow.cells {n : Nat} : ∀ {d : D} {v : V} {fp : List Addr}, Ow K ct F H n d v fp → ∀ a ∈ fp, F a = none ∧ ∃ o, H a = some o := by
  induction n with
  | zero => exact fun h a z => by rw [h.2] at z; cases z
  | succ n ih =>
    intro d v fp h a z
    rcases h with h | h
    · rw [h.2.2] at z; cases z
    · cases h with
      | lst hn h p => exact (List.mem_cons.mp z).elim (fun e => by rw [e]; exact ⟨hn, _, h⟩) (OwL.cells0 (fun d v f q => ih q) p a)
      | tup h p => exact OwL.cells0 (fun d v f q => ih q) p a z
      | dK hn h l p => exact (List.mem_cons.mp z).elim (fun e => by rw [e]; exact ⟨hn, _, h⟩) (OwL.cells0 (fun d v f q => ih q) p a)
      | dT hn h l p => exact (List.mem_cons.mp z).elim (fun e => by rw [e]; exact ⟨hn, _, h⟩) (OwL.cells0 (fun d v f q => ih q) p a)
      | obj hn h l p => exact (List.mem_cons.mp z).elim (fun e => by rw [e]; exact ⟨hn, _, h⟩) (OwL.cells0 (fun d v f q => ih q) p a)
theorem Ow.ext {n : Nat} {d : D} {v : V} {fp : List Addr} (h : Ow K ct F H n d v fp) (e : Ext F H F' H') : Ow K ct F' H' n d v fp :=
  h.frame e.ff fun a z => by
    obtain ⟨hn, o, ho⟩ := h.cells a z
    exact ⟨(e.hh _ _ ho).trans ho.symm, e.nf a o ho hn⟩
theorem Ow.al (s : Same F H) {n : Nat} : ∀ {d : D} {v : V} {fp : List Addr}, Ow K ct F H n d v fp → Al K ct F H n d v := by
  induction n with
  | zero => exact fun h => h.1
  | succ n ih =>
    intro d v fp h
    rcases h with h | h
    · exact .inl h.2.1
    · cases h with
      | lst hn h p => exact .inr (.lst h (p.pr fun _ _ _ _ q => ih q))
      | tup h p => exact .inr (.tup h (p.pr fun _ _ _ _ q => ih q))
      | dK hn h l p => exact .inr (.dK h l (p.pr fun _ _ _ _ q => ih q))
      | dT hn h l p => exact .inr (.dT h l (p.pr fun _ _ _ _ q => ih q))
      | obj hn h l p => exact .inr (.obj h l (p.pr fun _ _ _ _ q => ih q))
theorem Ow.dt (sF : Same F F') {n : Nat} : ∀ {d : D} {v : V} {fp : List Addr}, Ow K ct F H n d v fp → (∀ a ∈ fp, F' a = H a) → Dt K ct F' d v := by
  induction n with
  | zero => exact fun h _ => h.1.mono sF
  | succ n ih =>
    intro d v fp h k
    rcases h with h | h
    · exact h.2.1.mono sF
    · cases h with
      | lst hn h p => exact .lst (SqL.of ((k _ List.mem_cons_self).trans h)) (.of (p.pr fun _ _ _ i q => ih q fun a z => k a (List.mem_cons_of_mem _ (i a z))))
      | tup h p => exact .tup (sF _ _ h) (.of (p.pr fun _ _ _ i q => ih q fun a z => k a (i a z)))
      | dK hn h l p => exact .dK ((k _ List.mem_cons_self).trans h) l (.of (p.pr fun _ _ _ i q => ih q fun a z => k a (List.mem_cons_of_mem _ (i a z))))
      | dT hn h l p => exact .dT ((k _ List.mem_cons_self).trans h) l (.of (p.pr fun _ _ _ i q => ih q fun a z => k a (List.mem_cons_of_mem _ (i a z))))
      | obj hn h l p => exact .obj ((k _ List.mem_cons_self).trans h) l (.of (p.pr fun _ _ _ i q => ih q fun a z => k a (List.mem_cons_of_mem _ (i a z))))
def withC (F H : Hp) (fp : List Addr) : Hp := fun a => if a ∈ fp then H a else F a
theorem withC_ext {fp : List Addr} (s : Same F H) (hf : ∀ a ∈ fp, F a = none) : Same F (withC F H fp) ∧ Same (withC F H fp) H ∧ ∀ a ∈ fp, withC F H fp a = H a := by
  refine ⟨fun a o h => ?_, fun a o h => ?_, fun a z => if_pos z⟩
  · have : ¬ a ∈ fp := fun z => by rw [hf a z] at h; cases h
    unfold withC; rw [if_neg this]; exact h
  · unfold withC at h
    by_cases z : a ∈ fp
    · rw [if_pos z] at h; exact h
    · rw [if_neg z] at h; exact s _ _ h
theorem Ow.freeze {n : Nat} {d : D} {v : V} {fp : List Addr} {F0 H0 : Hp} (h : Ow K ct F H n d v fp) (e : Ext F0 H0 F H) (hf : ∀ a ∈ fp, H0 a = none) : ∃ F', Ext F0 H0 F' H ∧ Dt K ct F' d v := by
  obtain ⟨w1, w2, w3⟩ := withC_ext (fp := fp) e.fh (fun a z => (h.cells a z).1)
  refine ⟨withC F H fp, ⟨e.ff.trans w1, e.hh, w2, fun a o ho hn => ?_⟩, h.dt w1 w3⟩
  have : ¬ a ∈ fp := fun z => by rw [hf a z] at ho; cases ho
  unfold withC; rw [if_neg this]; exact e.nf a o ho hn
theorem Ow.zero {d : D} {v : V} (h : Dt K ct F d v) : Ow K ct F H 0 d v [] := ⟨h, rfl⟩
theorem Ow.scal {n : Nat} {d : D} {v : V} (h : Dt K ct F d v) (hs : d.sc = true) : Ow K ct F H n d v [] := by
  cases n with
  | zero => exact ⟨h, rfl⟩
  | succ n => exact .inl ⟨hs, h, rfl⟩
end
end L3

namespace L3
open PySem PySem.Spec L2
open PyProof.Rows hiding St

abbrev Env := List (Option D)
inductive Mo where
  | al (n : Nat) | ow (n : Nat) | px (v : V) | so (x : Addr)
def Mo.lv : Mo → Nat
  | .al n => n
  | .ow n => n
  | .px _ => 1
  | .so _ => 1
section
variable (K : PySem.W.Frag) (ct : Nat → Addr)
inductive SL (F B H : Hp) : List Mo → Env → St → List Addr → Prop
  | nil : SL F B H [] [] [] []
  | no {m : Mo} {o : Option V} {ms : List Mo} {ρ : Env} {σ : St} {fp : List Addr} : SL F B H ms ρ σ fp → SL F B H (m :: ms) (none :: ρ) (o :: σ) fp
  | al {n : Nat} {d : D} {v : V} {ms : List Mo} {ρ : Env} {σ : St} {fp : List Addr} : Al K ct F B n d v → SL F B H ms ρ σ fp → SL F B H (.al n :: ms) (some d :: ρ) (some v :: σ) fp
  | px {d : D} {v : V} {ms : List Mo} {ρ : Env} {σ : St} {fp : List Addr} : Al K ct F B 1 d v → SL F B H ms ρ σ fp → SL F B H (.px v :: ms) (some d :: ρ) (some v :: σ) fp
  | so {d : D} {x : Addr} {ms : List Mo} {ρ : Env} {σ : St} {fp : List Addr} : Ow K ct F H 1 d (.ref x) [x] → SL F B H ms ρ σ fp → SL F B H (.so x :: ms) (some d :: ρ) (some (.ref x) :: σ) (x :: fp)
  | ow {n : Nat} {d : D} {v : V} {ms : List Mo} {ρ : Env} {σ : St} {f fp : List Addr} : Ow K ct F H n d v f → SL F B H ms ρ σ fp → SL F B H (.ow n :: ms) (some d :: ρ) (some v :: σ) (f ++ fp)
structure RS (F0 B : Hp) (ms : List Mo) (F H : Hp) (ρ : Env) (σ : St) : Prop where
  f0 : Same F0 F
  bh : Same B H
  fh : Same F H
  nf : ∀ a o, B a = some o → F0 a = none → F a = none
  sl : ∃ fp, SL K ct F B H ms ρ σ fp ∧ fp.Nodup ∧ ∀ a ∈ fp, B a = none
end
section
variable {K : PySem.W.Frag} {ct : Nat → Addr} {F F' G G' H H' B B' F0 : Hp} {ms : List Mo} {ρ : Env} {σ : St}
theorem SL.cells {ms : List Mo} {ρ : Env} {σ : St} {fp : List Addr} (h : SL K ct F B H ms ρ σ fp) : ∀ a ∈ fp, F a = none ∧ ∃ o, H a = some o := by
  induction h with
  | nil => intro a z; cases z
  | no t ih => exact ih
  | al _ t ih => exact ih
  | px _ t ih => exact ih
  | so h t ih => exact fun a z => (List.mem_cons.mp z).elim (fun z => h.cells a (by rw [z]; exact List.mem_cons_self)) (ih a)
  | ow h t ih => exact fun a z => (List.mem_append.mp z).elim (h.cells a) (ih a)
theorem SL.frame (sF : Same F F') {ms : List Mo} {ρ : Env} {σ : St} {fp : List Addr} (h : SL K ct F B H ms ρ σ fp) : (∀ a ∈ fp, H' a = H a ∧ F' a = none) → SL K ct F' B H' ms ρ σ fp := by
  induction h with
  | nil => exact fun _ => .nil
  | no t ih => exact fun k => .no (ih k)
  | al h t ih => exact fun k => .al (h.mono sF (.refl _)) (ih k)
  | px h t ih => exact fun k => .px (h.mono sF (.refl _)) (ih k)
  | so h t ih => exact fun k => .so (h.frame sF fun a z => k a (by rw [List.mem_singleton] at z; rw [z]; exact List.mem_cons_self)) (ih fun a z => k a (List.mem_cons_of_mem _ z))
  | ow h t ih => exact fun k => .ow (h.frame sF fun a z => k a (List.mem_append_left _ z)) (ih fun a z => k a (List.mem_append_right _ z))
theorem RS.ext (r : RS K ct F0 B ms F H ρ σ) (e : Ext F H F' H') : RS K ct F0 B ms F' H' ρ σ := by
  obtain ⟨fp, s, nd, hb⟩ := r.sl
  refine ⟨r.f0.trans e.ff, r.bh.trans e.hh, e.fh, fun a o h n => e.nf a o (r.bh _ _ h) (r.nf a o h n), fp, s.frame e.ff fun a z => ?_, nd, hb⟩
  obtain ⟨hn, o, ho⟩ := s.cells a z
  exact ⟨(e.hh _ _ ho).trans ho.symm, e.nf a o ho hn⟩
theorem SL.get {ms : List Mo} {ρ : Env} {σ : St} {fp : List Addr} {i : Nat} {m : Mo} {d : D} (h : SL K ct F B H ms ρ σ fp) (s : Same F H) (s' : Same B H) : ms[i]? = some m → ρ[i]? = some (some d) → ∃ v, σ[i]? = some (some v) ∧ Al K ct F H m.lv d v := by
  induction h generalizing i with
  | nil => intro e; simp at e
  | no t ih =>
    intro e e'
    cases i with
    | zero => simp at e'
    | succ i => simpa using ih (by simpa using e) (by simpa using e')
  | al h t ih =>
    intro e e'
    cases i with
    | zero =>
      simp at e e'; subst e; subst e'
      exact ⟨_, rfl, h.mono (.refl _) s'⟩
    | succ i => simpa using ih (by simpa using e) (by simpa using e')
  | px h t ih =>
    intro e e'
    cases i with
    | zero =>
      simp at e e'; subst e; subst e'
      exact ⟨_, rfl, h.mono (.refl _) s'⟩
    | succ i => simpa using ih (by simpa using e) (by simpa using e')
  | so h t ih =>
    intro e e'
    cases i with
    | zero =>
      simp at e e'; subst e; subst e'
      exact ⟨_, rfl, h.al s⟩
    | succ i => simpa using ih (by simpa using e) (by simpa using e')
  | ow h t ih =>
    intro e e'
    cases i with
    | zero =>
      simp at e e'; subst e; subst e'
      exact ⟨_, rfl, h.al s⟩
    | succ i => simpa using ih (by simpa using e) (by simpa using e')
theorem RS.get (r : RS K ct F0 B ms F H ρ σ) {i : Nat} {m : Mo} {d : D} (hm : ms[i]? = some m) (e : ρ[i]? = some (some d)) : ∃ v, σ[i]? = some (some v) ∧ Al K ct F H m.lv d v := by
  obtain ⟨fp, s, _, _⟩ := r.sl
  exact s.get r.fh r.bh hm e
theorem SL.put {ms : List Mo} {ρ : Env} {σ : St} {fp : List Addr} {i k : Nat} (h0 : SL K ct F B H ms ρ σ fp) : ms[i]? = some (.ow k) →
    ∃ f1 fr : List Addr, (∀ a ∈ f1, a ∈ fp) ∧ (∀ a ∈ fr, a ∈ fp) ∧ (fp.Nodup → f1.Nodup ∧ fr.Nodup ∧ ∀ a ∈ f1, a ∉ fr) ∧ (∀ d, ρ[i]? = some (some d) → ∃ v, σ[i]? = some (some v) ∧ Ow K ct F H k d v f1) ∧
      ∀ (F' H' : Hp) (d' : D) (v' : V) (f' : List Addr), Same F F' → (∀ a ∈ fr, H' a = H a ∧ F' a = none) → Ow K ct F' H' k d' v' f' →
        ∃ fp', SL K ct F' B H' ms (ρ.set i (some d')) (σ.set i (some v')) fp' ∧ (∀ a ∈ fp', a ∈ f' ∨ a ∈ fr) ∧ (f'.Nodup → fr.Nodup → (∀ a ∈ f', a ∉ fr) → fp'.Nodup) := by
  induction h0 generalizing i with
  | nil =>
    intro e
    simp at e
  | @no m0 o0 ms ρ σ fp t ih =>
    intro e
    cases i with
    | zero =>
      simp at e; subst e
      refine ⟨[], fp, fun a z => (by cases z), fun a z => z, fun n => ⟨List.nodup_nil, n, fun a z => (by cases z)⟩, fun d q => (by simp at q), fun F' H' d' v' f' s kf h => ⟨f' ++ fp, .ow h (t.frame s kf), fun a z => List.mem_append.mp z, fun n1 n2 dj => ?_⟩⟩
      exact List.nodup_append.mpr ⟨n1, n2, fun a z b zb e => dj a z (e ▸ zb)⟩
    | succ i =>
      obtain ⟨f1, fr, h1, h2, h3, h4, h5⟩ := ih (i := i) (by simpa using e)
      refine ⟨f1, fr, h1, h2, h3, fun d q => by simpa using h4 d (by simpa using q), fun F' H' d' v' f' s kf h => ?_⟩
      obtain ⟨fp', q1, q2, q3⟩ := h5 F' H' d' v' f' s kf h
      exact ⟨fp', .no q1, q2, q3⟩
  | @al n0 d0 v0 ms ρ σ fp h t ih =>
    intro e
    cases i with
    | zero =>
      simp at e
    | succ i =>
      obtain ⟨f1, fr, h1, h2, h3, h4, h5⟩ := ih (i := i) (by simpa using e)
      refine ⟨f1, fr, h1, h2, h3, fun d q => by simpa using h4 d (by simpa using q), fun F' H' d' v' f' s kf h' => ?_⟩
      obtain ⟨fp', q1, q2, q3⟩ := h5 F' H' d' v' f' s kf h'
      exact ⟨fp', .al (h.mono s (.refl _)) q1, q2, q3⟩
  | @px d0 v0 ms ρ σ fp h t ih =>
    intro e
    cases i with
    | zero =>
      simp at e
    | succ i =>
      obtain ⟨f1, fr, h1, h2, h3, h4, h5⟩ := ih (i := i) (by simpa using e)
      refine ⟨f1, fr, h1, h2, h3, fun d q => by simpa using h4 d (by simpa using q), fun F' H' d' v' f' s kf h' => ?_⟩
      obtain ⟨fp', q1, q2, q3⟩ := h5 F' H' d' v' f' s kf h'
      exact ⟨fp', .px (h.mono s (.refl _)) q1, q2, q3⟩
  | @so d0 x ms ρ σ fp h t ih =>
    intro e
    cases i with
    | zero =>
      simp at e
    | succ i =>
      obtain ⟨f1, fr, h1, h2, h3, h4, h5⟩ := ih (i := i) (by simpa using e)
      refine ⟨f1, x :: fr, fun a z => List.mem_cons_of_mem _ (h1 a z), fun a z => (List.mem_cons.mp z).elim (fun z => by rw [z]; exact List.mem_cons_self) fun z => List.mem_cons_of_mem _ (h2 a z), fun n => ?_, fun d q => by simpa using h4 d (by simpa using q), fun F' H' d' v' f' s kf h' => ?_⟩
      · obtain ⟨n1, n2⟩ := List.nodup_cons.mp n
        obtain ⟨m1, m2, m3⟩ := h3 n2
        refine ⟨m1, List.nodup_cons.mpr ⟨fun z => n1 (h2 x z), m2⟩, fun a z zb => ?_⟩
        rcases List.mem_cons.mp zb with zb | zb
        · rw [zb] at z; exact n1 (h1 x z)
        · exact m3 a z zb
      · obtain ⟨fp', q1, q2, q3⟩ := h5 F' H' d' v' f' s (fun a z => kf a (List.mem_cons_of_mem _ z)) h'
        refine ⟨x :: fp', .so (h.frame s fun a z => kf a (by rw [List.mem_singleton] at z; rw [z]; exact List.mem_cons_self)) q1, fun a z => ?_, fun n1 n2 dj => ?_⟩
        · rcases List.mem_cons.mp z with z | z
          · exact .inr (by rw [z]; exact List.mem_cons_self)
          · exact (q2 a z).imp id fun z => List.mem_cons_of_mem _ z
        · obtain ⟨m1, m2⟩ := List.nodup_cons.mp n2
          refine List.nodup_cons.mpr ⟨fun z => ?_, q3 n1 m2 fun a z zb => dj a z (List.mem_cons_of_mem _ zb)⟩
          rcases q2 x z with z | z
          · exact dj x z List.mem_cons_self
          · exact m1 z
  | @ow n0 d0 v0 ms ρ σ f fp h t ih =>
    intro e
    cases i with
    | zero =>
      simp at e; subst e
      refine ⟨f, fp, fun a z => List.mem_append_left _ z, fun a z => List.mem_append_right _ z, fun n => ?_, fun d q => ?_, fun F' H' d' v' f' s kf h => ⟨f' ++ fp, .ow h (t.frame s kf), fun a z => List.mem_append.mp z, fun n1 n2 dj => ?_⟩⟩
      · obtain ⟨n1, n2, n3⟩ := List.nodup_append.mp n
        exact ⟨n1, n2, fun a z zb => n3 a z a zb rfl⟩
      · simp at q; subst q; exact ⟨_, rfl, h⟩
      · exact List.nodup_append.mpr ⟨n1, n2, fun a z b zb e => dj a z (e ▸ zb)⟩
    | succ i =>
      obtain ⟨f1, fr, h1, h2, h3, h4, h5⟩ := ih (i := i) (by simpa using e)
      refine ⟨f1, f ++ fr, fun a z => List.mem_append_right _ (h1 a z), fun a z => (List.mem_append.mp z).elim (fun z => List.mem_append_left _ z) fun z => List.mem_append_right _ (h2 a z), fun n => ?_, fun d q => by simpa using h4 d (by simpa using q), fun F' H' d' v' f' s kf h' => ?_⟩
      · obtain ⟨n1, n2, n3⟩ := List.nodup_append.mp n
        obtain ⟨m1, m2, m3⟩ := h3 n2
        refine ⟨m1, List.nodup_append.mpr ⟨n1, m2, fun a z b zb => n3 a z b (h2 b zb)⟩, fun a z zb => ?_⟩
        rcases List.mem_append.mp zb with zb | zb
        · exact n3 a zb a (h1 a z) rfl
        · exact m3 a z zb
      · obtain ⟨fp', q1, q2, q3⟩ := h5 F' H' d' v' f' s (fun a z => kf a (List.mem_append_right _ z)) h'
        refine ⟨f ++ fp', .ow (h.frame s fun a z => kf a (List.mem_append_left _ z)) q1, fun a z => ?_, fun n1 n2 dj => ?_⟩
        · rcases List.mem_append.mp z with z | z
          · exact .inr (List.mem_append_left _ z)
          · exact (q2 a z).imp id fun z => List.mem_append_right _ z
        · obtain ⟨m1, m2, m3⟩ := List.nodup_append.mp n2
          refine List.nodup_append.mpr ⟨m1, q3 n1 m2 fun a z zb => dj a z (List.mem_append_right _ zb), fun a z b zb e => ?_⟩
          subst e
          rcases q2 a zb with zb | zb
          · exact dj a zb (List.mem_append_left _ z)
          · exact m3 a z a zb rfl
end

abbrev EF := Env → Option D
inductive AlL (K : PySem.W.Frag) (ct : Nat → Addr) (F G : Hp) : List Nat → List D → List V → Prop
  | nil : AlL K ct F G [] [] []
  | cons {n : Nat} {d : D} {v : V} {ns : List Nat} {ds : List D} {vs : List V} : Al K ct F G n d v → AlL K ct F G ns ds vs → AlL K ct F G (n :: ns) (d :: ds) (v :: vs)
theorem AlL.length {K : PySem.W.Frag} {ct : Nat → Addr} {F G : Hp} {ns : List Nat} {ds : List D} {vs : List V} (h : AlL K ct F G ns ds vs) : vs.length = ns.length := by
  induction h with
  | nil => rfl
  | cons h t ih => rw [List.length_cons, List.length_cons, ih]
theorem AlL.length' {K : PySem.W.Frag} {ct : Nat → Addr} {F G : Hp} {ns : List Nat} {ds : List D} {vs : List V} (h : AlL K ct F G ns ds vs) : ds.length = vs.length := by
  induction h with
  | nil => rfl
  | cons h t ih => rw [List.length_cons, List.length_cons, ih]
theorem AlL.append {K : PySem.W.Frag} {ct : Nat → Addr} {F G : Hp} {ns' : List Nat} {ds' : List D} {vs' : List V} (q : AlL K ct F G ns' ds' vs') {ns : List Nat} {ds : List D} {vs : List V} (h : AlL K ct F G ns ds vs) : AlL K ct F G (ns ++ ns') (ds ++ ds') (vs ++ vs') := by
  induction h with
  | nil => exact q
  | cons h t ih => exact .cons h ih
section
variable (X : Cx) (ct : Nat → Addr) (ms : List Mo)
def XE (n : Nat) (e : Expr) (f : EF) : Prop := ∃ t, PE X e t ∧ ∀ (F0 B F H : Hp) (ρ : Env) (σ : St) (d : D) (Q : VK), RS X.K ct F0 B ms F H ρ σ → f ρ = some d →
  (∀ v F' H', Ext F H F' H' → Al X.K ct F' H' n d v → Q v H') → t σ H Q
def XO (k : Nat) (e : Expr) (f : EF) : Prop := ∃ t, PE X e t ∧ ∀ (F0 B F H : Hp) (ρ : Env) (σ : St) (d : D) (Q : VK), RS X.K ct F0 B ms F H ρ σ → f ρ = some d →
  (∀ v F' H' fp, Ext F H F' H' → Ow X.K ct F' H' k d v fp → fp.Nodup → (∀ a ∈ fp, H a = none) → Q v H') → t σ H Q
def XT (e : Expr) (f : Env → Option Bool) : Prop := ∃ t, PT X e t ∧ ∀ (F0 B F H : Hp) (ρ : Env) (σ : St) (b : Bool) (Q : Bool → Hp → Prop), RS X.K ct F0 B ms F H ρ σ → f ρ = some b →
  (∀ F' H', Ext F H F' H' → Q b H') → t σ H Q
def XW (e : Expr) (f : Env → Option Bool) : Prop := ∃ t, PW X e t ∧ ∀ (F0 B F H : Hp) (ρ : Env) (σ : St) (b : Bool) (Q : Bool → Hp → Prop), RS X.K ct F0 B ms F H ρ σ → f ρ = some b →
  (∀ F' H', Ext F H F' H' → Q b H') → t σ H Q
def XA (es : List Expr) (ns : List Nat) (f : Env → Option (List D)) : Prop := ∃ t, PA X es t ∧ (∀ ρ ds, f ρ = some ds → ds.length = es.length) ∧ ∀ (F0 B F H : Hp) (ρ : Env) (σ : St) (ds : List D) (Q : List V → Hp → Prop), RS X.K ct F0 B ms F H ρ σ → f ρ = some ds →
  (∀ vs F' H', Ext F H F' H' → AlL X.K ct F' H' ns ds vs → Q vs H') → t σ H Q
end
def e2 (op : D → D → Option D) (f g : EF) : EF := fun ρ => (f ρ).bind fun x => (g ρ).bind fun y => op x y
def e1 (op : D → Option D) (f : EF) : EF := fun ρ => (f ρ).bind op
def eN (op : List D → Option D) (f : Env → Option (List D)) : EF := fun ρ => (f ρ).bind op
def eC (d : D) : EF := fun _ => some d
def eV (i : Nat) : EF := fun ρ => (ρ[i]?).join
def aNil : Env → Option (List D) := fun _ => some []
def aCons (f : EF) (g : Env → Option (List D)) : Env → Option (List D) := fun ρ => (f ρ).bind fun x => (g ρ).bind fun xs => some (x :: xs)
theorem bind2 {α β γ : Type} {o : Option α} {p : Option β} {op : α → β → Option γ} {r : γ} (h : (o.bind fun x => p.bind fun y => op x y) = some r) : ∃ x y, o = some x ∧ p = some y ∧ op x y = some r := by
  cases o with
  | none => cases h
  | some x =>
    cases p with
    | none => cases h
    | some y => exact ⟨x, y, rfl, rfl, h⟩
theorem bind1 {α β : Type} {o : Option α} {op : α → Option β} {r : β} (h : o.bind op = some r) : ∃ x, o = some x ∧ op x = some r := by
  cases o with
  | none => cases h
  | some x => exact ⟨x, rfl, h⟩
theorem join_some {α : Type} {o : Option (Option α)} {x : α} (h : o.join = some x) : o = some (some x) := by
  cases o with
  | none => cases h
  | some y => exact congrArg some h

def Op2 (K : PySem.W.Frag) (ct : Nat → Addr) (n m k : Nat) (r : R2) (op : D → D → Option D) : Prop :=
  ∀ (F H : Hp) (x y : V) (d1 d2 d : D) (Q : VK), Same F H → Al K ct F H n d1 x → Al K ct F H m d2 y → op d1 d2 = some d → (∀ v F' H', Ext F H F' H' → Al K ct F' H' k d v → Q v H') → r x y H Q
def Op2O (K : PySem.W.Frag) (ct : Nat → Addr) (n m k : Nat) (r : R2) (op : D → D → Option D) : Prop :=
  ∀ (F H : Hp) (x y : V) (d1 d2 d : D) (Q : VK), Same F H → Al K ct F H n d1 x → Al K ct F H m d2 y → op d1 d2 = some d →
    (∀ v F' H' fp, Ext F H F' H' → Ow K ct F' H' k d v fp → fp.Nodup → (∀ a ∈ fp, H a = none) → Q v H') → r x y H Q
def OpN (K : PySem.W.Frag) (ct : Nat → Addr) (ns : List Nat) (k : Nat) (r : List V → Hp → VK → Prop) (op : List D → Option D) : Prop :=
  ∀ (F H : Hp) (vs : List V) (ds : List D) (d : D) (Q : VK), Same F H → AlL K ct F H ns ds vs → op ds = some d → (∀ v F' H', Ext F H F' H' → Al K ct F' H' k d v → Q v H') → r vs H Q
def OpNO (K : PySem.W.Frag) (ct : Nat → Addr) (ns : List Nat) (k : Nat) (r : List V → Hp → VK → Prop) (op : List D → Option D) : Prop :=
  ∀ (F H : Hp) (vs : List V) (ds : List D) (d : D) (Q : VK), Same F H → AlL K ct F H ns ds vs → op ds = some d →
    (∀ v F' H' fp, Ext F H F' H' → Ow K ct F' H' k d v fp → fp.Nodup → (∀ a ∈ fp, H a = none) → Q v H') → r vs H Q

section
variable {X : Cx} {ct : Nat → Addr} {ms : List Mo} {n m k : Nat} {a b c e : Expr} {f g h : EF} {pos : Pos}
theorem XO.sh (he : XO X ct ms k e f) : XE X ct ms n e f := by
  obtain ⟨t, p, q⟩ := he
  refine ⟨t, p, fun F0 B F H ρ σ d Q r e w => q F0 B F H ρ σ d Q r e fun v F' H' fp x o nd hf => ?_⟩
  obtain ⟨F2, x2, h2⟩ := o.freeze x hf
  exact w v F2 H' x2 (Al.of h2)
theorem XE.ow (he : XE X ct ms 0 e f) : XO X ct ms 0 e f := by
  obtain ⟨t, p, q⟩ := he
  exact ⟨t, p, fun F0 B F H ρ σ d Q r e w => q F0 B F H ρ σ d Q r e fun v F' H' x l => w v F' H' [] x ⟨l, rfl⟩ List.nodup_nil fun a z => (by cases z)⟩
theorem xe_var (i n : Nat) {x : Str} {m : Mo} (hm : ms[i]? = some m := by rfl) (hl : m.lv = n := by rfl) (hN : X.N[i]? = some x := by rfl) (hv : Vis X.env.scope x := by first | exact Or.inl rfl | exact Or.inr (Or.inl rfl) | exact Or.inr (Or.inr rfl)) (hd : (x == ("__debug__" : Str)) = false := by decide)
    (hcd : (x == ("__classdict__" : Str)) = false := by decide) : XE X ct ms n (.Name x pos) (eV i) := by
  subst hl
  refine ⟨_, pe_var hN hv hd hcd, fun F0 B F H ρ σ d Q r e w => ?_⟩
  obtain ⟨v, hv, l⟩ := r.get hm (join_some e)
  exact ⟨v, hv, w v F H (.refl r.fh) l⟩
theorem xe_int {i : Int} {j} : XE X ct ms n (.Constant (.int i) j pos) (eC (.int i)) := ⟨_, pe_int, fun F0 B F H ρ σ d Q r e w => by cases e; exact w _ F H (.refl r.fh) (Al.of (.int i))⟩
theorem xe_bl {i : Bool} {j} : XE X ct ms n (.Constant (.bool i) j pos) (eC (.bl i)) := ⟨_, pe_bl, fun F0 B F H ρ σ d Q r e w => by cases e; exact w _ F H (.refl r.fh) (Al.of (.bl i))⟩
theorem xe_str {i : Str} {j} : XE X ct ms n (.Constant (.str i) j pos) (eC (.str i)) := ⟨_, pe_str, fun F0 B F H ρ σ d Q r e w => by cases e; exact w _ F H (.refl r.fh) (Al.of (.str i))⟩
theorem xe_non {j} : XE X ct ms n (.Constant .none j pos) (eC .non) := ⟨_, pe_non, fun F0 B F H ρ σ d Q r e w => by cases e; exact w _ F H (.refl r.fh) (Al.of .non)⟩
theorem XE.bin (ha : XE X ct ms n a f) (hb : XE X ct ms m b g) : ∃ ta tb, PE X a ta ∧ PE X b tb ∧ ∀ (F0 B F H : Hp) (ρ : Env) (σ : St) (d1 d2 : D) (R : V → V → Hp → Prop), RS X.K ct F0 B ms F H ρ σ → f ρ = some d1 → g ρ = some d2 →
    (∀ x y F' H', Ext F H F' H' → Al X.K ct F' H' n d1 x → Al X.K ct F' H' m d2 y → R x y H') → ta σ H fun x H1 => tb σ H1 fun y H2 => R x y H2 := by
  obtain ⟨ta, pa, qa⟩ := ha
  obtain ⟨tb, pb, qb⟩ := hb
  refine ⟨ta, tb, pa, pb, fun F0 B F H ρ σ d1 d2 R r e1 e2 w => qa F0 B F H ρ σ d1 _ r e1 fun x F1 H1 x1 l1 => ?_⟩
  exact qb F0 B F1 H1 ρ σ d2 _ (r.ext x1) e2 fun y F2 H2 x2 l2 => w x y F2 H2 (x1.trans x2) (l1.mono x2.ff x2.hh) l2
theorem xe_op {op : Operator} {r : R2} {o : D → D → Option D} (ho : OpR X (binaryOp op) r) (hs : Op2 X.K ct n m k r o) (ha : XE X ct ms n a f) (hb : XE X ct ms m b g) : XE X ct ms k (.BinOp a op b pos) (e2 o f g) := by
  obtain ⟨ta, tb, pa, pb, q⟩ := ha.bin hb
  refine ⟨_, pe_op ho pa pb, fun F0 B F H ρ σ d Q rs e w => ?_⟩
  obtain ⟨d1, d2, h1, h2, h3⟩ := bind2 e
  exact q F0 B F H ρ σ d1 d2 _ rs h1 h2 fun x y F' H' x1 l1 l2 => hs F' H' x y d1 d2 d Q x1.fh l1 l2 h3 fun v F2 H2 x2 l => w v F2 H2 (x1.trans x2) l
theorem xo_op {op : Operator} {r : R2} {o : D → D → Option D} (ho : OpR X (binaryOp op) r) (hs : Op2O X.K ct n m k r o) (ha : XE X ct ms n a f) (hb : XE X ct ms m b g) : XO X ct ms k (.BinOp a op b pos) (e2 o f g) := by
  obtain ⟨ta, tb, pa, pb, q⟩ := ha.bin hb
  refine ⟨_, pe_op ho pa pb, fun F0 B F H ρ σ d Q rs e w => ?_⟩
  obtain ⟨d1, d2, h1, h2, h3⟩ := bind2 e
  exact q F0 B F H ρ σ d1 d2 _ rs h1 h2 fun x y F' H' x1 l1 l2 => hs F' H' x y d1 d2 d Q x1.fh l1 l2 h3 fun v F2 H2 fp x2 l nd hf => w v F2 H2 fp (x1.trans x2) l nd fun z hz => x1.hh.free (hf z hz)
theorem xe_cmp {op : CmpOp} {r : R2} {o : D → D → Option D} (ho : OpR X (compareOp op) r) (hs : Op2 X.K ct n m k r o) (ha : XE X ct ms n a f) (hb : XE X ct ms m b g) (hm : behindInMarks op b = false) : XE X ct ms k (.Compare a [op] [b] pos) (e2 o f g) := by
  obtain ⟨ta, tb, pa, pb, q⟩ := ha.bin hb
  refine ⟨_, pe_cmpR ho pa pb hm, fun F0 B F H ρ σ d Q rs e w => ?_⟩
  obtain ⟨d1, d2, h1, h2, h3⟩ := bind2 e
  exact q F0 B F H ρ σ d1 d2 _ rs h1 h2 fun x y F' H' x1 l1 l2 => hs F' H' x y d1 d2 d Q x1.fh l1 l2 h3 fun v F2 H2 x2 l => w v F2 H2 (x1.trans x2) l
theorem xe_ix {r : R2} {o : D → D → Option D} (hr : IxR X r) (hs : Op2 X.K ct n m k r o) (ha : XE X ct ms n a f) (hb : XE X ct ms m b g) (hp : PlainIx b) : XE X ct ms k (.Subscript a b pos) (e2 o f g) := by
  obtain ⟨ta, tb, pa, pb, q⟩ := ha.bin hb
  refine ⟨_, pe_ix hr pa pb hp, fun F0 B F H ρ σ d Q rs e w => ?_⟩
  obtain ⟨d1, d2, h1, h2, h3⟩ := bind2 e
  exact q F0 B F H ρ σ d1 d2 _ rs h1 h2 fun x y F' H' x1 l1 l2 => hs F' H' x y d1 d2 d Q x1.fh l1 l2 h3 fun v F2 H2 x2 l => w v F2 H2 (x1.trans x2) l
theorem xa_nil : XA X ct ms [] [] aNil := ⟨_, pa_nil, fun ρ ds e => (by cases e; rfl), fun F0 B F H ρ σ ds Q r e w => by cases e; exact w [] F H (.refl r.fh) .nil⟩
theorem xa_cons {es : List Expr} {ns : List Nat} {fs : Env → Option (List D)} (ha : XE X ct ms n a f) (hr : XA X ct ms es ns fs) (hs : starEach (a :: es) X.env = (false, eval a X.env) :: starEach es X.env := by rfl) : XA X ct ms (a :: es) (n :: ns) (aCons f fs) := by
  obtain ⟨ta, pa, qa⟩ := ha
  obtain ⟨tb, pb, lb, qb⟩ := hr
  refine ⟨_, pa_cons pa pb hs, fun ρ ds e => (by obtain ⟨x, xs, h1, h2, h3⟩ := bind2 e; cases h3; rw [List.length_cons, List.length_cons, lb _ _ h2]), fun F0 B F H ρ σ ds Q r e w => ?_⟩
  obtain ⟨x, xs, h1, h2, h3⟩ := bind2 e
  cases h3
  refine qa F0 B F H ρ σ x _ r h1 fun v F1 H1 x1 l1 => ?_
  exact qb F0 B F1 H1 ρ σ xs _ (r.ext x1) h2 fun vs F2 H2 x2 l2 => w (v :: vs) F2 H2 (x1.trans x2) (.cons (l1.mono x2.ff x2.hh) l2)
def XAO (X : Cx) (ct : Nat → Addr) (ms : List Mo) (k : Nat) (es : List Expr) (f : Env → Option (List D)) : Prop := ∃ t, PA X es t ∧ (∀ ρ ds, f ρ = some ds → ds.length = es.length) ∧ ∀ (F0 B F H : Hp) (ρ : Env) (σ : St) (ds : List D) (Q : List V → Hp → Prop), RS X.K ct F0 B ms F H ρ σ → f ρ = some ds →
  (∀ vs F' H' fp, Ext F H F' H' → OwL (Ow X.K ct F' H' k) ds vs fp → fp.Nodup → (∀ a ∈ fp, H a = none) → Q vs H') → t σ H Q
theorem xao_nil : XAO X ct ms k [] aNil := ⟨_, pa_nil, fun ρ ds e => (by cases e; rfl), fun F0 B F H ρ σ ds Q r e w => by cases e; exact w [] F H [] (.refl r.fh) .nil List.nodup_nil fun a z => (by cases z)⟩
theorem xao_cons {es : List Expr} {fs : Env → Option (List D)} (ha : XO X ct ms k a f) (hr : XAO X ct ms k es fs) (hs : starEach (a :: es) X.env = (false, eval a X.env) :: starEach es X.env := by rfl) : XAO X ct ms k (a :: es) (aCons f fs) := by
  obtain ⟨ta, pa, qa⟩ := ha
  obtain ⟨tb, pb, lb, qb⟩ := hr
  refine ⟨_, pa_cons pa pb hs, fun ρ ds e => (by obtain ⟨x, xs, h1, h2, h3⟩ := bind2 e; cases h3; rw [List.length_cons, List.length_cons, lb _ _ h2]), fun F0 B F H ρ σ ds Q r e w => ?_⟩
  obtain ⟨x, xs, h1, h2, h3⟩ := bind2 e
  cases h3
  refine qa F0 B F H ρ σ x _ r h1 fun v F1 H1 f1 x1 l1 n1 a1 => ?_
  refine qb F0 B F1 H1 ρ σ xs _ (r.ext x1) h2 fun vs F2 H2 f2 x2 l2 n2 a2 => w (v :: vs) F2 H2 (f1 ++ f2) (x1.trans x2) (.cons (l1.ext x2) l2) (List.nodup_append.mpr ⟨n1, n2, fun z hz y hy e => ?_⟩) fun z hz => ?_
  · subst e
    obtain ⟨_, o, ho⟩ := l1.cells z hz
    rw [a2 z hy] at ho
    cases ho
  · rcases List.mem_append.mp hz with hz | hz
    · exact a1 z hz
    · exact x1.hh.free (a2 z hz)
end
end L3

namespace L3
open PySem PySem.Spec L2
open PyProof.Rows hiding St
def asB : D → Option Bool
  | .bl b => some b
  | _ => none
theorem asB_some {d : D} {b : Bool} (h : asB d = some b) : d = .bl b := by cases d <;> simp [asB] at h; subst h; rfl
abbrev BF := Env → Option Bool
def tb (f : EF) : BF := fun ρ => (f ρ).bind asB
def bNot (f : BF) : BF := fun ρ => (f ρ).bind fun b => some (!b)
def bAnd (f g : BF) : BF := fun ρ => (f ρ).bind fun b => if b = true then g ρ else some false
def bOr (f g : BF) : BF := fun ρ => (f ρ).bind fun b => if b = true then some true else g ρ
def eB (f : BF) : EF := fun ρ => (f ρ).bind fun b => some (.bl b)
def eIf (c : BF) (f g : EF) : EF := fun ρ => (c ρ).bind fun b => if b = true then f ρ else g ρ
section
variable {X : Cx} {ct : Nat → Addr} {ms : List Mo} {n m k : Nat} {a b c e : Expr} {f g h : EF} {p q : BF} {pos : Pos}
theorem xt_val (he : XE X ct ms n e f) (hi : ∀ whole, isTrue e X.env whole = (do let v ← whole; standAt e.pos; holding [v] (truthy v)) := by intro _; rfl) : XT X ct ms e (tb f) := by
  obtain ⟨t, pt, qt⟩ := he
  refine ⟨_, pt_val pt hi, fun F0 B F H ρ σ b Q r e w => ?_⟩
  obtain ⟨d, h1, h2⟩ := bind1 e
  rw [asB_some h2] at h1
  exact qt F0 B F H ρ σ _ _ r h1 fun v F' H' x l => ⟨b, l.bl, w F' H' x⟩
theorem xt_cmp {op : CmpOp} {r : R2} {o : D → D → Option D} (ho : OpR X (compareOp op) r) (hs : Op2 X.K ct n m k r o) (ha : XE X ct ms n a f) (hb : XE X ct ms m b g) (hm : behindInMarks op b = false) : XT X ct ms (.Compare a [op] [b] pos) (tb (e2 o f g)) := by
  obtain ⟨ta, tb, pa, pb, q⟩ := ha.bin hb
  refine ⟨_, pt_cmpR ho pa pb hm, fun F0 B F H ρ σ b Q rs e w => ?_⟩
  obtain ⟨d, h0, h4⟩ := bind1 e
  rw [asB_some h4] at h0
  obtain ⟨d1, d2, h1, h2, h3⟩ := bind2 h0
  exact q F0 B F H ρ σ d1 d2 _ rs h1 h2 fun x y F' H' x1 l1 l2 => hs F' H' x y d1 d2 _ _ x1.fh l1 l2 h3 fun v F2 H2 x2 l => ⟨b, l.bl, w F2 H2 (x1.trans x2)⟩
theorem XW.t (h : XW X ct ms e p) : XT X ct ms e p := by
  obtain ⟨t, pt, qt⟩ := h
  exact ⟨t, pt.pt, qt⟩
theorem xw_and1 (ha : XT X ct ms a p) : XW X ct ms (.BoolOp .And [a] pos) p := by
  obtain ⟨t, pt, qt⟩ := ha
  exact ⟨t, pw_and1 pt, qt⟩
theorem xw_or1 (ha : XT X ct ms a p) : XW X ct ms (.BoolOp .Or [a] pos) p := by
  obtain ⟨t, pt, qt⟩ := ha
  exact ⟨t, pw_or1 pt, qt⟩
theorem xw_and {rest : List Expr} (ha : XT X ct ms a p) (hb : XW X ct ms (.BoolOp .And (b :: rest) pos) q) : XW X ct ms (.BoolOp .And (a :: b :: rest) pos) (bAnd p q) := by
  obtain ⟨t, pt, qt⟩ := ha
  obtain ⟨u, pu, qu⟩ := hb
  refine ⟨_, pw_and pt pu, fun F0 B F H ρ σ r Q rs e w => ?_⟩
  obtain ⟨x, h1, h2⟩ := bind1 e
  refine qt F0 B F H ρ σ x _ rs h1 fun F1 H1 x1 => ?_
  cases x with
  | true => rw [if_pos rfl]; exact qu F0 B F1 H1 ρ σ r _ (rs.ext x1) h2 fun F2 H2 x2 => w F2 H2 (x1.trans x2)
  | false => cases h2; rw [if_neg Bool.false_ne_true]; exact w F1 H1 x1
theorem xw_or {rest : List Expr} (ha : XT X ct ms a p) (hb : XW X ct ms (.BoolOp .Or (b :: rest) pos) q) : XW X ct ms (.BoolOp .Or (a :: b :: rest) pos) (bOr p q) := by
  obtain ⟨t, pt, qt⟩ := ha
  obtain ⟨u, pu, qu⟩ := hb
  refine ⟨_, pw_or pt pu, fun F0 B F H ρ σ r Q rs e w => ?_⟩
  obtain ⟨x, h1, h2⟩ := bind1 e
  refine qt F0 B F H ρ σ x _ rs h1 fun F1 H1 x1 => ?_
  cases x with
  | true => cases h2; rw [if_pos rfl]; exact w F1 H1 x1
  | false => rw [if_neg Bool.false_ne_true]; exact qu F0 B F1 H1 ρ σ r _ (rs.ext x1) h2 fun F2 H2 x2 => w F2 H2 (x1.trans x2)
theorem xt_not (ha : XT X ct ms a p) : XT X ct ms (.UnaryOp .Not a pos) (bNot p) := by
  obtain ⟨t, pt, qt⟩ := ha
  refine ⟨_, pt_not pt, fun F0 B F H ρ σ r Q rs e w => ?_⟩
  obtain ⟨x, h1, h2⟩ := bind1 e
  cases h2
  exact qt F0 B F H ρ σ x _ rs h1 fun F1 H1 x1 => w F1 H1 x1
theorem xe_if (hc : XT X ct ms c p) (ha : XE X ct ms k a f) (hb : XE X ct ms k b g) : XE X ct ms k (.IfExp c a b pos) (eIf p f g) := by
  obtain ⟨s, ps, qs⟩ := hc
  obtain ⟨t, pt, qt⟩ := ha
  obtain ⟨u, pu, qu⟩ := hb
  refine ⟨_, pe_ifExp ps pt pu, fun F0 B F H ρ σ r Q rs e w => ?_⟩
  obtain ⟨x, h1, h2⟩ := bind1 e
  refine qs F0 B F H ρ σ x _ rs h1 fun F1 H1 x1 => ?_
  cases x with
  | true => rw [if_pos rfl] at h2 ⊢; exact qt F0 B F1 H1 ρ σ _ _ (rs.ext x1) h2 fun v F2 H2 x2 l => w v F2 H2 (x1.trans x2) l
  | false => rw [if_neg Bool.false_ne_true] at h2 ⊢; exact qu F0 B F1 H1 ρ σ _ _ (rs.ext x1) h2 fun v F2 H2 x2 l => w v F2 H2 (x1.trans x2) l
theorem OwL.cellsOf {K : PySem.W.Frag} {F H : Hp} {ds : List D} {vs : List V} {fp : List Addr} (l : OwL (Ow K ct F H k) ds vs fp) : ∀ a ∈ fp, F a = none ∧ ∃ o, H a = some o := OwL.cells0 (fun d v f q => Ow.cells q) l
theorem new_lst {K : PySem.W.Frag} {F H : Hp} {ds : List D} {vs : List V} {fp : List Addr} {p : Addr} (s : Same F H) (l : OwL (Ow K ct F H k) ds vs fp) (hp : H p = none) : Ow K ct F (upd H p (.lst vs)) (k + 1) (.lst ds) (.ref p) (p :: fp) ∧ (fp.Nodup → (p :: fp).Nodup) :=
  ⟨.inr (.lst (s.free hp) upd_same (l.mono fun _ _ _ _ o => o.ext (Ext.newO s hp _))), fun nd => List.nodup_cons.mpr ⟨fun z => (by
    obtain ⟨_, o, ho⟩ := OwL.cellsOf l p z
    rw [hp] at ho
    cases ho), nd⟩⟩
theorem xo_lst {es : List Expr} {fs : Env → Option (List D)} (h : XAO X ct ms k es fs) (hl : es.length ≤ 1000 := by decide) : XO X ct ms (k + 1) (.List es pos) (fun ρ => (fs ρ).bind fun ds => some (.lst ds)) := by
  obtain ⟨t, pt, lt, qt⟩ := h
  refine ⟨_, pe_lst pt, fun F0 B F H ρ σ r Q rs e w => ?_⟩
  obtain ⟨ds, h1, h2⟩ := bind1 e
  cases h2
  refine qt F0 B F H ρ σ ds _ rs h1 fun vs F1 H1 fp x1 l nd hf => ⟨?_, fun p hp => ?_⟩
  · rw [← l.length, lt _ _ h1]; exact small hl
  · obtain ⟨o, n2⟩ := new_lst x1.fh l hp
    refine w _ _ _ (p :: fp) (x1.trans (Ext.newO x1.fh hp _)) o (n2 nd) fun z hz => ?_
    rcases List.mem_cons.mp hz with rfl | hz
    · exact x1.hh.free hp
    · exact hf z hz
def LSp (K : PySem.W.Frag) (ct : Nat → Addr) (pm : List Nat) (rk : Nat) (m : List D → Option D) : Sp := fun vs H Q _ => ∃ (F : Hp) (ds : List D) (d : D), Same F H ∧ AlL K ct F H pm ds vs ∧ m ds = some d ∧
  ∀ v F' H' fp, Ext F H F' H' → Ow K ct F' H' rk d v fp → fp.Nodup → (∀ a ∈ fp, H a = none) → Q v H'
theorem LSp.len {K : PySem.W.Frag} {ct : Nat → Addr} {pm : List Nat} {rk : Nat} {m : List D → Option D} {ps : List Str} (h : pm.length = ps.length) : ∀ vs H Q E, LSp K ct pm rk m vs H Q E → vs.length = ps.length := by
  rintro vs H Q E ⟨F, ds, d, _, l, _⟩
  rw [l.length, h]
variable {kk : Nat} {fa : Addr} {fd : FuncData} {ps : List Str} {pm : List Nat} {rk : Nat} {mf : List D → Option D} {x : Str} {pp : Pos}
theorem xo_call {es : List Expr} {ns nd : List Nat} {fs : Env → Option (List D)} {dvs : List V} {dds : List D} {dsv : List Value} (Fn : FnOk X.prog X.w X.K X.mg X.base CX0 kk fa fd ps (LSp X.K ct (ns ++ nd) rk mf)) (hr : Room kk X.A) (hg : Gl X x) (hm : X.mg x = some (.ref fa)) (hk : PySem.W.keepIn X.K (.ref fa) = true)
    (hb : Binds X.K fd ps dsv) (hd : Vals dvs dsv) (hdd : ∀ F G, AlL X.K ct F G nd dds dvs) (ha : XA X ct ms (e :: es) ns fs)
    (hdb : (x == ("__debug__" : Str)) = false := by decide) (he : starEach (e :: es) X.env = (false, eval e X.env) :: starEach es X.env := by rfl) (hpl : (backTo pos (starEach es X.env)).any (·.1) = false := by rfl) :
    XO X ct ms rk (.Call (.Name x pp) (e :: es) [] pos) (fun ρ => (fs ρ).bind fun ds => mf (ds ++ dds)) := by
  obtain ⟨t, pt, _, qt⟩ := ha
  refine ⟨_, pe_call Fn hr hg hm hk hb hd pass0 pt hdb he hpl, fun F0 B F H ρ σ r Q rs e w => ?_⟩
  obtain ⟨ds, h1, h2⟩ := bind1 e
  refine qt F0 B F H ρ σ ds _ rs h1 fun vs F1 H1 x1 l => ⟨F1, ds ++ dds, r, x1.fh, AlL.append (hdd F1 H1) l, h2, fun v F2 H2 fp x2 o nd hf => ?_⟩
  exact w v F2 H2 fp (x1.trans x2) o nd fun z hz => x1.hh.free (hf z hz)
theorem xe_callB {es : List Expr} {ns : List Nat} {fs : Env → Option (List D)} {id : String} {r : List V → Hp → VK → Prop} {op : List D → Option D} (hc : CallR X (.builtin id) r) (hs : OpN X.K ct ns k r op) (hg : Gl X x) (hm : X.mg x = none) (hv : bootBuiltins x = some (.builtin id)) (ha : XA X ct ms (e :: es) ns fs)
    (hn : x ≠ "__name__" := by decide) (hdb : (x == ("__debug__" : Str)) = false := by decide) (he : starEach (e :: es) X.env = (false, eval e X.env) :: starEach es X.env := by rfl) (hpl : (backTo pos (starEach es X.env)).any (·.1) = false := by rfl) :
    XE X ct ms k (.Call (.Name x pp) (e :: es) [] pos) (eN op fs) := by
  obtain ⟨t, pt, _, qt⟩ := ha
  refine ⟨_, pe_callB hc hg hm hv pt hn hdb he hpl, fun F0 B F H ρ σ r Q rs e w => ?_⟩
  obtain ⟨ds, h1, h2⟩ := bind1 e
  exact qt F0 B F H ρ σ ds _ rs h1 fun vs F1 H1 x1 l => hs F1 H1 vs ds r Q x1.fh l h2 fun v F2 H2 x2 l2 => w v F2 H2 (x1.trans x2) l2
theorem xe_callTy {es : List Expr} {ns : List Nat} {fs : Env → Option (List D)} {id : String} {r : List V → Hp → VK → Prop} {op : List D → Option D} (hc : CallR X (.type id) r) (hs : OpN X.K ct ns k r op) (hg : Gl X x) (hm : X.mg x = none) (hv : bootBuiltins x = some (.type id)) (ha : XA X ct ms (e :: es) ns fs)
    (hn : x ≠ "__name__" := by decide) (hdb : (x == ("__debug__" : Str)) = false := by decide) (he : starEach (e :: es) X.env = (false, eval e X.env) :: starEach es X.env := by rfl) (hpl : (backTo pos (starEach es X.env)).any (·.1) = false := by rfl) :
    XE X ct ms k (.Call (.Name x pp) (e :: es) [] pos) (eN op fs) := by
  obtain ⟨t, pt, _, qt⟩ := ha
  refine ⟨_, pe_callTy hc hg hm hv pt hn hdb he hpl, fun F0 B F H ρ σ r Q rs e w => ?_⟩
  obtain ⟨ds, h1, h2⟩ := bind1 e
  exact qt F0 B F H ρ σ ds _ rs h1 fun vs F1 H1 x1 l => hs F1 H1 vs ds r Q x1.fh l h2 fun v F2 H2 x2 l2 => w v F2 H2 (x1.trans x2) l2
theorem xo_callTy {es : List Expr} {ns : List Nat} {fs : Env → Option (List D)} {id : String} {r : List V → Hp → VK → Prop} {op : List D → Option D} (hc : CallR X (.type id) r) (hs : OpNO X.K ct ns k r op) (hg : Gl X x) (hm : X.mg x = none) (hv : bootBuiltins x = some (.type id)) (ha : XA X ct ms (e :: es) ns fs)
    (hn : x ≠ "__name__" := by decide) (hdb : (x == ("__debug__" : Str)) = false := by decide) (he : starEach (e :: es) X.env = (false, eval e X.env) :: starEach es X.env := by rfl) (hpl : (backTo pos (starEach es X.env)).any (·.1) = false := by rfl) :
    XO X ct ms k (.Call (.Name x pp) (e :: es) [] pos) (eN op fs) := by
  obtain ⟨t, pt, _, qt⟩ := ha
  refine ⟨_, pe_callTy hc hg hm hv pt hn hdb he hpl, fun F0 B F H ρ σ r Q rs e w => ?_⟩
  obtain ⟨ds, h1, h2⟩ := bind1 e
  exact qt F0 B F H ρ σ ds _ rs h1 fun vs F1 H1 x1 l => hs F1 H1 vs ds r Q x1.fh l h2 fun v F2 H2 fp x2 l2 nd hf => w v F2 H2 fp (x1.trans x2) l2 nd fun z hz => x1.hh.free (hf z hz)
end
end L3

namespace L3
open PySem PySem.Spec L2
open PyProof.Rows hiding St
inductive Out where
  | nx (ρ : Env) | rt (d : D) | bk (ρ : Env) | ct (ρ : Env)
abbrev SF := Env → Option Out
def OutOk (K : PySem.W.Frag) (cl : Nat → Addr) (F0 B : Hp) (ms : List Mo) (rk : Nat) (E : Ends) : Out → Prop
  | .nx ρ => ∀ σ F H, RS K cl F0 B ms F H ρ σ → E.nx σ H
  | .bk ρ => ∀ σ F H, RS K cl F0 B ms F H ρ σ → E.bk σ H
  | .ct ρ => ∀ σ F H, RS K cl F0 B ms F H ρ σ → E.ct σ H
  | .rt d => ∀ v F H fp, Same F0 F → Same B H → Same F H → (∀ a o, B a = some o → F0 a = none → F a = none) → Ow K cl F H rk d v fp → fp.Nodup → (∀ a ∈ fp, B a = none) → E.rt v H
section
variable (X : Cx) (ct : Nat → Addr) (ms : List Mo) (rk : Nat)
def XS (st : Stmt) (f : SF) : Prop := ∃ t, PS X st t ∧ ∀ (F0 B F H : Hp) (ρ : Env) (σ : St) (o : Out) (E : Ends), RS X.K ct F0 B ms F H ρ σ → f ρ = some o → OutOk X.K ct F0 B ms rk E o → t E σ H
def XSs (st : List Stmt) (f : SF) : Prop := ∃ t, PSs X st t ∧ ∀ (F0 B F H : Hp) (ρ : Env) (σ : St) (o : Out) (E : Ends), RS X.K ct F0 B ms F H ρ σ → f ρ = some o → OutOk X.K ct F0 B ms rk E o → t E σ H
end
def sSkip : SF := fun ρ => some (.nx ρ)
def sSeq (f g : SF) : SF := fun ρ => (f ρ).bind fun o => match o with
  | .nx ρ' => g ρ'
  | o => some o
def sIf (c : BF) (f g : SF) : SF := fun ρ => (c ρ).bind fun b => if b = true then f ρ else g ρ
def sSet (i : Nat) (f : EF) : SF := fun ρ => (f ρ).bind fun d => some (.nx (ρ.set i (some d)))
def sRet (f : EF) : SF := fun ρ => (f ρ).bind fun d => some (.rt d)
def sRetN : SF := fun _ => some (.rt .non)
def sDrop (f : EF) : SF := fun ρ => (f ρ).bind fun _ => some (.nx ρ)
def whileD (c : BF) (b : SF) : Nat → SF
  | 0, _ => none
  | n + 1, ρ => (c ρ).bind fun t => if t = true then (b ρ).bind fun o => match o with
      | .nx ρ' => whileD c b n ρ'
      | .ct ρ' => whileD c b n ρ'
      | .bk ρ' => some (.nx ρ')
      | .rt d => some (.rt d)
    else some (.nx ρ)
def forD (g : D → Env → Option Env) (b : SF) : List D → SF
  | [], ρ => some (.nx ρ)
  | d :: ds, ρ => (g d ρ).bind fun ρ1 => (b ρ1).bind fun o => match o with
      | .nx ρ' => forD g b ds ρ'
      | .ct ρ' => forD g b ds ρ'
      | .bk ρ' => some (.nx ρ')
      | .rt d => some (.rt d)
def sFor (f : Env → Option (List D)) (g : D → Env → Option Env) (b : SF) : SF := fun ρ => (f ρ).bind fun ds => forD g b ds ρ

section
variable {X : Cx} {ct : Nat → Addr} {ms : List Mo} {rk n m k : Nat} {st : Stmt} {rest : List Stmt} {a b c e : Expr} {f g h : EF} {p q : BF} {u w : SF} {pos : Pos}
theorem xss_nil : XSs X ct ms rk [] sSkip := ⟨_, pss_nil, fun F0 B F H ρ σ o E rs e w => by cases e; exact w σ F H rs⟩
theorem xss_cons (h1 : XS X ct ms rk st u) (h2 : XSs X ct ms rk rest w) : XSs X ct ms rk (st :: rest) (sSeq u w) := by
  obtain ⟨t, pt, qt⟩ := h1
  obtain ⟨t2, pt2, qt2⟩ := h2
  refine ⟨_, pss_cons pt pt2, fun F0 B F H ρ σ o E rs e z => ?_⟩
  obtain ⟨o1, e1, e2⟩ := bind1 e
  refine qt F0 B F H ρ σ o1 _ rs e1 ?_
  cases o1 with
  | nx ρ' => exact fun σ' F' H' rs' => qt2 F0 B F' H' ρ' σ' o E rs' e2 z
  | rt d => cases e2; exact z
  | bk ρ' => cases e2; exact z
  | ct ρ' => cases e2; exact z
theorem xss_one (h1 : XS X ct ms rk st u) : XSs X ct ms rk [st] u := by
  obtain ⟨t, pt, qt⟩ := h1
  exact ⟨_, pss_one pt, qt⟩
theorem xs_ret (he : XO X ct ms rk e f) : XS X ct ms rk (.Return (some e) pos) (sRet f) := by
  obtain ⟨t, pt, qt⟩ := he
  refine ⟨_, ps_ret pt, fun F0 B F H ρ σ o E rs e w => ?_⟩
  obtain ⟨d, h1, h2⟩ := bind1 e
  cases h2
  refine qt F0 B F H ρ σ d _ rs h1 fun v F' H' fp x l nd hf => ?_
  have r := rs.ext x
  exact w v F' H' fp r.f0 r.bh r.fh r.nf l nd fun z hz => rs.bh.free (hf z hz)
theorem xs_if {st1 st2 : List Stmt} (hc : XT X ct ms c p) (h1 : XSs X ct ms rk st1 u) (h2 : XSs X ct ms rk st2 w) : XS X ct ms rk (.If c st1 st2 pos) (sIf p u w) := by
  obtain ⟨t, pt, qt⟩ := hc
  obtain ⟨t1, pt1, qt1⟩ := h1
  obtain ⟨t2, pt2, qt2⟩ := h2
  refine ⟨_, ps_if pt pt1 pt2, fun F0 B F H ρ σ o E rs e z => ?_⟩
  obtain ⟨x, h1, h2⟩ := bind1 e
  refine qt F0 B F H ρ σ x _ rs h1 fun F1 H1 x1 => ?_
  cases x with
  | true => rw [if_pos rfl] at h2 ⊢; exact qt1 F0 B F1 H1 ρ σ o E (rs.ext x1) h2 z
  | false => rw [if_neg Bool.false_ne_true] at h2 ⊢; exact qt2 F0 B F1 H1 ρ σ o E (rs.ext x1) h2 z
theorem RS.put {K : PySem.W.Frag} {F0 B F H F' H' : Hp} {ρ : Env} {σ : St} {i : Nat} (rs : RS K ct F0 B ms F H ρ σ) (hm : ms[i]? = some (.ow k)) :
    ∃ f1 fr : List Addr, f1.Nodup ∧ (∀ a ∈ f1, B a = none) ∧ (∀ a ∈ f1, a ∉ fr) ∧ (∀ d, ρ[i]? = some (some d) → ∃ v, σ[i]? = some (some v) ∧ Ow K ct F H k d v f1) ∧ (∀ a ∈ fr, F a = none ∧ ∃ o, H a = some o) ∧
      ∀ (F' H' : Hp) (d' : D) (v' : V) (f' : List Addr), Same F F' → Same B H' → Same F' H' → (∀ a o, B a = some o → F0 a = none → F' a = none) → (∀ a ∈ fr, H' a = H a ∧ F' a = none) → Ow K ct F' H' k d' v' f' → f'.Nodup → (∀ a ∈ f', a ∉ fr) → (∀ a ∈ f', B a = none) →
        RS K ct F0 B ms F' H' (ρ.set i (some d')) (σ.set i (some v')) := by
  obtain ⟨fp, sl, nd, hb⟩ := rs.sl
  obtain ⟨f1, fr, i1, i2, i3, i4, i5⟩ := sl.put hm
  obtain ⟨n1, n2, n3⟩ := i3 nd
  refine ⟨f1, fr, n1, fun a z => hb a (i1 a z), n3, i4, fun a z => sl.cells a (i2 a z), fun F' H' d' v' f' s1 s2 s3 s4 kf o ndf dj hbf => ?_⟩
  obtain ⟨fp', q1, q2, q3⟩ := i5 F' H' d' v' f' s1 kf o
  exact ⟨rs.f0.trans s1, s2, s3, s4, fp', q1, q3 ndf n2 dj, fun a z => (q2 a z).elim (hbf a) fun z => hb a (i2 a z)⟩
theorem RS.set {K : PySem.W.Frag} {F0 B F H F' H' : Hp} {ρ : Env} {σ : St} {i : Nat} {d : D} {v : V} {fp : List Addr} (rs : RS K ct F0 B ms F H ρ σ) (hm : ms[i]? = some (.ow k)) (x : Ext F H F' H') (o : Ow K ct F' H' k d v fp) (nd : fp.Nodup) (hf : ∀ a ∈ fp, H a = none) :
    RS K ct F0 B ms F' H' (ρ.set i (some d)) (σ.set i (some v)) := by
  have r := rs.ext x
  obtain ⟨f1, fr, n1, b1, n3, i4, cf, put⟩ := rs.put (F' := F') (H' := H') hm
  refine put F' H' d v fp x.ff r.bh x.fh r.nf (fun a z => ?_) o nd (fun a z zb => ?_) fun a z => rs.bh.free (hf a z)
  · obtain ⟨hn, o, ho⟩ := cf a z
    exact ⟨(x.hh _ _ ho).trans ho.symm, x.nf a o ho hn⟩
  · obtain ⟨hn, o, ho⟩ := cf a zb
    rw [hf a z] at ho
    cases ho
theorem xs_set {i : Nat} {x : Str} {pos' : Pos} (hm : ms[i]? = some (.ow k)) (hN : X.N.Nodup) (hi : X.N[i]? = some x) (hx : Loc X.env.scope x) (he : XO X ct ms k e f) (hs : swapsWith e (some (.Name x pos')) pos.line X.env = pure false := by rfl)
    (hf : X.fn x = true ∨ X.env.scope.names.lookup x = some .local := by first | exact .inl rfl | exact .inr rfl | assumption) : XS X ct ms rk (.Assign [.Name x pos'] e pos) (sSet i f) := by
  obtain ⟨t, pt, qt⟩ := he
  refine ⟨_, ps_set hN hi hx pt hs hf, fun F0 B F H ρ σ o E rs e w => ?_⟩
  obtain ⟨d, h1, h2⟩ := bind1 e
  cases h2
  exact qt F0 B F H ρ σ d _ rs h1 fun v F' H' fp x l nd hf => w _ F' H' (rs.set hm x l nd hf)
theorem RS.re {K : PySem.W.Frag} {F0 B F H : Hp} {ρ : Env} {σ : St} (r : RS K ct F0 B ms F H ρ σ) : RS K ct F B ms F H ρ σ := ⟨.refl _, r.bh, r.fh, fun _ _ _ h => h, r.sl⟩
theorem RS.back {K : PySem.W.Frag} {F0 B F H F' H' : Hp} {ρ ρ' : Env} {σ σ' : St} (r : RS K ct F0 B ms F H ρ σ) (q : RS K ct F B ms F' H' ρ' σ') : RS K ct F0 B ms F' H' ρ' σ' :=
  ⟨r.f0.trans q.f0, q.bh, q.fh, fun a o h n => q.nf a o h (r.nf a o h n), q.sl⟩
theorem OutOk.re {K : PySem.W.Frag} {F0 B F H : Hp} {ρ : Env} {σ : St} {E : Ends} {o : Out} (r : RS K ct F0 B ms F H ρ σ) (z : OutOk K ct F0 B ms rk E o) : OutOk K ct F B ms rk E o := by
  cases o with
  | nx ρ => exact fun σ' F' H' q => z σ' F' H' (r.back q)
  | bk ρ => exact fun σ' F' H' q => z σ' F' H' (r.back q)
  | ct ρ => exact fun σ' F' H' q => z σ' F' H' (r.back q)
  | rt d => exact fun v F' H' fp s1 s2 s3 s4 => z v F' H' fp (r.f0.trans s1) s2 s3 fun a o h n => s4 a o h (r.nf a o h n)
def ItOk (K : PySem.W.Frag) (ct : Nat → Addr) (F B : Hp) (n : Nat) (J : It) (ds : List D) : Prop :=
  ∀ (i : Nat) (F' H' : Hp), Same F F' → Same B H' → Same F' H' → (∀ d, ds[i]? = some d → J.go i H' ∧ ∀ x H2, J.yld i H' x H2 → ∃ F2, Ext F' H' F2 H2 ∧ Al K ct F2 B n d x) ∧ (ds.length ≤ i → J.stop i H')
def XI (X : Cx) (ct : Nat → Addr) (ms : List Mo) (n : Nat) (tg iter : Expr) (f : Env → Option (List D)) : Prop := ∃ wi, PI X tg iter wi ∧ ∀ (F0 B F H : Hp) (ρ : Env) (σ : St) (ds : List D) (R : It → Hp → Prop), RS X.K ct F0 B ms F H ρ σ → f ρ = some ds →
  (∀ J F' H', Ext F H F' H' → ItOk X.K ct F' B n J ds → R J H') → wi σ H R
def XIc (X : Cx) (ct : Nat → Addr) (ms : List Mo) (n : Nat) (tg iter : Expr) (f : Env → Option (List D)) : Prop := ∃ wi, PI X tg iter wi ∧ ∀ (F0 B F H : Hp) (ρ : Env) (σ : St) (ds : List D) (R : It → Hp → Prop), RS X.K ct F0 B ms F H ρ σ → f ρ = some ds →
  (∀ J F' H', Ext F H F' H' → ItOk X.K ct F' H' n J ds → R J H') → wi σ H R
def XG (X : Cx) (ct : Nat → Addr) (ms : List Mo) (n : Nat) (tg : Expr) (g : D → Env → Option Env) : Prop := ∃ t, PG X tg t ∧ ∀ (F0 B F H : Hp) (ρ ρ' : Env) (σ : St) (d : D) (v : V) (Q : St → Hp → Prop), RS X.K ct F0 B ms F H ρ σ → Al X.K ct F B n d v → g d ρ = some ρ' →
  (∀ σ', RS X.K ct F0 B ms F H ρ' σ' → Q σ' H) → t v σ H Q
theorem xs_for {tg iter : Expr} {fi : Env → Option (List D)} {gg : D → Env → Option Env} (hi : XI X ct ms n tg iter fi) (hg : XG X ct ms n tg gg) (hb : XSs X ct ms rk rest u) (hp : PassesOwn (model X.prog X.w) X.A X.env X.xe) (hc : X.calm = true)
    (hs : ∀ x, foldedSetIterable iter X.env x = pure x := by intro _; rfl) : XS X ct ms rk (.For tg iter rest [] pos) (sFor fi gg u) := by
  obtain ⟨wi, pi, qi⟩ := hi
  obtain ⟨tg', pg, qg⟩ := hg
  obtain ⟨t1, pt1, qt1⟩ := hb
  refine ⟨_, ps_for hp hc pi pg pt1 hs, fun F0 B F H ρ σ o E rs e z => ?_⟩
  obtain ⟨ds, h1, h2⟩ := bind1 e
  refine qi F0 B F H ρ σ ds _ rs h1 fun J F1 H1 x1 ok => ?_
  refine ⟨fun i m σ H => m = ds.length - i ∧ i ≤ ds.length ∧ ∃ F ρ, Same F1 F ∧ RS X.K ct F0 B ms F H ρ σ ∧ forD gg u (ds.drop i) ρ = some o, ⟨ds.length, rfl, Nat.zero_le _, F1, ρ, .refl _, rs.ext x1, h2⟩, ?_⟩
  rintro i m σ H ⟨rfl, hil, F, ρ, s1, rs, e⟩
  obtain ⟨k1, k2⟩ := ok i F H s1 rs.bh rs.fh
  by_cases hlt : i < ds.length
  · right
    have hd : ds[i]? = some ds[i] := by simp [hlt]
    obtain ⟨go, yl⟩ := k1 _ hd
    rw [List.drop_eq_getElem_cons hlt] at e
    obtain ⟨ρ1, h3, h4⟩ := bind1 e
    obtain ⟨o1, h5, h6⟩ := bind1 h4
    refine ⟨go, fun σ H => i + 1 ≤ ds.length ∧ ∃ F ρ, Same F1 F ∧ RS X.K ct F0 B ms F H ρ σ ∧ forD gg u (ds.drop (i + 1)) ρ = some o, fun σ' H' h => ⟨ds.length - (i + 1), by omega, rfl, h⟩, fun x H2 y => ?_⟩
    obtain ⟨F2, x2, l⟩ := yl x H2 y
    refine qg F0 B F2 H2 ρ ρ1 σ _ x _ (rs.ext x2) l h3 fun σ' r => ?_
    have s2 := s1.trans x2.ff
    refine qt1 F2 B F2 H2 ρ1 σ' o1 _ r.re h5 ?_
    cases o1 with
    | nx ρ' => exact fun σ' F' H' q => ⟨hlt, F', ρ', s2.trans q.f0, r.back q, h6⟩
    | ct ρ' => exact fun σ' F' H' q => ⟨hlt, F', ρ', s2.trans q.f0, r.back q, h6⟩
    | bk ρ' => cases h6; exact fun σ' F' H' q => z σ' F' H' (r.back q)
    | rt d => cases h6; exact OutOk.re (o := .rt d) r z
  · left
    refine ⟨k2 (by omega), ?_⟩
    have : ds.drop i = [] := List.drop_eq_nil_of_le (by omega)
    rw [this] at e
    cases e
    exact z σ F H rs
def gV (i : Nat) : D → Env → Option Env := fun d ρ => some (ρ.set i (some d))
theorem xg_name {i : Nat} {x : Str} (hm : ms[i]? = some (.ow 0)) (hN : X.N.Nodup) (hi : X.N[i]? = some x) (hx : Loc X.env.scope x)
    (hf : X.fn x = true ∨ X.env.scope.names.lookup x = some .local := by first | exact .inl rfl | exact .inr rfl | assumption) : XG X ct ms 0 (.Name x pos) (gV i) := by
  refine ⟨_, pg_name hN hi hx hf, fun F0 B F H ρ ρ' σ d v Q rs l e w => ?_⟩
  cases e
  exact w _ (rs.set hm (.refl rs.fh) (Ow.zero l) List.nodup_nil fun a z => (by cases z))
def XGs (X : Cx) (ct : Nat → Addr) (ms : List Mo) (n : Nat) (tgs : List Expr) (g : List D → Env → Option Env) : Prop := ∃ t, PGs X tgs t ∧ (∀ ds ρ ρ', g ds ρ = some ρ' → ds.length = tgs.length) ∧ ∀ (F0 B F H : Hp) (ρ ρ' : Env) (σ : St) (ds : List D) (vs : List V) (Q : St → Hp → Prop), RS X.K ct F0 B ms F H ρ σ → Pr (Al X.K ct F B n) ds vs → g ds ρ = some ρ' →
  (∀ σ', RS X.K ct F0 B ms F H ρ' σ' → Q σ' H) → t vs σ H Q
def gsNil : List D → Env → Option Env := fun ds ρ => match ds with
  | [] => some ρ
  | _ => none
def gsCons (g : D → Env → Option Env) (gs : List D → Env → Option Env) : List D → Env → Option Env := fun ds ρ => match ds with
  | d :: ds => (g d ρ).bind fun ρ' => gs ds ρ'
  | [] => none
theorem xgs_nil : XGs X ct ms n [] gsNil := by
  refine ⟨_, pgs_nil, fun ds ρ ρ' e => ?_, fun F0 B F H ρ ρ' σ ds vs Q rs l e w => ?_⟩
  · cases ds with
    | nil => rfl
    | cons d ds => cases e
  · cases l with
    | nil => cases e; exact ⟨rfl, w σ rs⟩
    | cons _ _ => cases e
theorem xgs_cons {tg : Expr} {tgs : List Expr} {gg : D → Env → Option Env} {gs : List D → Env → Option Env} (h1 : XG X ct ms n tg gg) (h2 : XGs X ct ms n tgs gs)
    (hs : (assignEach (tg :: tgs) X.env).map (·.2) = assign tg X.env :: (assignEach tgs X.env).map (·.2) := by rfl) : XGs X ct ms n (tg :: tgs) (gsCons gg gs) := by
  obtain ⟨t, pt, qt⟩ := h1
  obtain ⟨t2, pt2, lt2, qt2⟩ := h2
  refine ⟨_, pgs_cons pt pt2 hs, fun ds ρ ρ' e => ?_, fun F0 B F H ρ ρ' σ ds vs Q rs l e w => ?_⟩
  · cases ds with
    | nil => cases e
    | cons d ds =>
      obtain ⟨ρ1, h3, h4⟩ := bind1 e
      rw [List.length_cons, List.length_cons, lt2 _ _ _ h4]
  · cases l with
    | nil => cases e
    | cons h t =>
      obtain ⟨ρ1, h3, h4⟩ := bind1 e
      exact ⟨_, _, rfl, qt F0 B F H ρ ρ1 σ _ _ _ rs h h3 fun σ1 r1 => qt2 F0 B F H ρ1 ρ' σ1 _ _ _ r1 t h4 w⟩
def gT (gs : List D → Env → Option Env) : D → Env → Option Env := fun d ρ => match d with
  | .tup ds => gs ds ρ
  | _ => none
theorem xg_tup {tgs : List Expr} {j : Nat} {gs : List D → Env → Option Env} (hc : X.calm = true) (h : XGs X ct ms (n - 1) tgs gs) (hl : (assignEach tgs X.env).length = tgs.length := by rfl) (hst : (assignEach tgs X.env).findIdx? (·.1) = none := by rfl) : XG X ct ms n (.Tuple tgs j pos) (gT gs) := by
  obtain ⟨t, pt, lt, qt⟩ := h
  refine ⟨_, pg_tup (n := tgs.length) hc pt hl hst, fun F0 B F H ρ ρ' σ d v Q rs l e w => ?_⟩
  cases d with
  | tup ds =>
    have l' : Al X.K ct F H n (.tup ds) v := l.mono (.refl _) rs.bh
    have : ∃ a vs, v = .ref a ∧ SqT X.K H a vs ∧ Pr (Al X.K ct F B (n - 1)) ds vs := by
      cases n with
      | zero =>
        have l : Dt X.K ct F (.tup ds) v := l
        cases l with
        | tup q t => exact ⟨_, _, rfl, SqT.of (rs.fh _ _ q), t.pr⟩
      | succ n =>
        rcases l with l | l
        · cases l with
          | tup q t => exact ⟨_, _, rfl, SqT.of (rs.fh _ _ q), t.pr.mono fun _ _ => Al.of⟩
        · cases l with
          | tup q t => exact ⟨_, _, rfl, SqT.of (rs.fh _ _ q), t⟩
    obtain ⟨a, vs, rfl, ha, hp⟩ := this
    exact ⟨a, vs, rfl, ha, hp.length.symm.trans (lt _ _ _ e), qt F0 B F H ρ ρ' σ ds vs Q rs hp e w⟩
  | _ => cases e
def startD (N : List Str) (ds : List D) : Env := ds.map some ++ List.replicate (N.length - ds.length) none
def mOf (N : List Str) (b : SF) (ds : List D) : Option D := (b (startD N ds)).bind fun o => match o with
  | .rt d => some d
  | .nx _ => some .non
  | _ => none
theorem SL.start {K : PySem.W.Frag} {F B H : Hp} : ∀ {pm : List Nat} {ds : List D} {vs : List V} {ms : List Mo} (j : Nat), AlL K ct F B pm ds vs → (∀ (i n : Nat), pm[i]? = some n → ms[i]? = some (Mo.al n) ∨ (n = 0 ∧ ms[i]? = some (Mo.ow 0))) → ms.length = pm.length + j →
    SL K ct F B H ms (ds.map some ++ List.replicate j none) (vs.map some ++ List.replicate j none) []
  | _, _, _, ms, j, .nil, _, hl => by
    have : ∀ (j : Nat) (ms : List Mo), ms.length = j → SL K ct F B H ms (List.replicate j none) (List.replicate j none) [] := by
      intro j
      induction j with
      | zero => intro ms h; cases ms with
        | nil => exact .nil
        | cons _ _ => simp at h
      | succ j ih => intro ms h; cases ms with
        | nil => simp at h
        | cons m ms => exact .no (ih ms (by simpa using h))
    simpa using this j ms (by simpa using hl)
  | _, _, _, [], j, .cons h t, _, hl => by simp at hl; omega
  | _, _, _, m :: ms, j, .cons (n := n) h t, hm, hl => by
    have ih := SL.start (ms := ms) (H := H) j t (fun i n e => by simpa using hm (i + 1) n (by simpa using e)) (by simp at hl; omega)
    rcases hm 0 n rfl with e | ⟨rfl, e⟩
    · simp at e; subst e; exact .al h ih
    · simp at e; subst e; exact SL.ow (f := []) (Ow.zero h) ih
structure Fun2 (K : PySem.W.Frag) (x qual : Str) (st : Stmt) (f : Addr) (fd : FuncData) : Prop where
  ex : ∃ (oc : Value) (od : Option Addr) (dV kV doc pm : Value) (an : Option Addr) (cdv ct : Value) (osl : Array (Option Value)),
    fd = PySem.W.fnOf x qual (defArgs st) (defBody st) (defScope st) dV kV doc pm an cdv ct ∧ K.lookup f = some ⟨oc, od, .func fd, osl⟩ ∧ PySem.W.codeIn K cdv qual = true
  kp : PySem.W.keepIn K (.ref f) = true
theorem Fun2.ok {P : Program} {w : World} {K : PySem.W.Frag} {mg : Str → Option Value} {base : Heap} {x qual : Str} {st : Stmt} {f : Addr} {fd : FuncData} {N ps : List Str} {k : Nat} {sp : Sp} (F : Fun2 K x qual st f fd) (S : FnScope N ps (defScope st)) (len : ∀ vs H Q E, sp vs H Q E → vs.length = ps.length)
    (hbody : ∀ (cdv : Value) (A : Around) (outer : List PySem.Env) (s : Shared) (H : Hp) (vs : List V) (Q : VK) (E : XK), Room k (A.deeper (envOfC qual (defScope st) s.heap.objs.size f cdv)) → sp vs H Q E →
      ∃ t, PSs (cxOf CX0 P w K mg base N qual (defScope st) f cdv A outer s H E).nox (defBody st) t ∧ t { nx := fun _ H' => Q .non H', rt := Q } (L2.start N vs) H) : FnOk P w K mg base CX0 (k + 1) f fd ps sp := by
  obtain ⟨oc, od, dV, kV, doc, pm, an, cdv, ct, osl, rfl, lk, hcd⟩ := F.ex
  refine fn_of lk hcd S len fun A outer s H vs Q E hr hsp => ?_
  obtain ⟨t, h, q⟩ := hbody cdv A outer s H vs Q E hr hsp
  exact ⟨t, h.nox, q⟩
theorem lift {P : Program} {w : World} {K : PySem.W.Frag} {mg : Str → Option Value} {base : Heap} {x qual : Str} {st : Stmt} {fa : Addr} {fd : FuncData} {N ps : List Str} {kk : Nat} {pm : List Nat} {bf : SF} (Fn : Fun2 K x qual st fa fd) (S : FnScope N ps (defScope st)) (hpm : pm.length = ps.length) (hms : ms.length = N.length) (hle : ps.length ≤ N.length)
    (hmo : ∀ (i n : Nat), pm[i]? = some n → ms[i]? = some (Mo.al n) ∨ (n = 0 ∧ ms[i]? = some (Mo.ow 0)))
    (body : ∀ (cdv : Value) (A : Around) (outer : List PySem.Env) (s : Shared) (H : Hp) (E : XK), Room kk (A.deeper (envOfC qual (defScope st) s.heap.objs.size fa cdv)) → XSs (cxOf CX0 P w K mg base N qual (defScope st) fa cdv A outer s H E).nox ct ms rk (defBody st) bf) :
    FnOk P w K mg base CX0 (kk + 1) fa fd ps (LSp K ct pm rk (mOf N bf)) := by
  refine Fn.ok S (LSp.len hpm) fun cdv A outer s H vs Q E hr h => ?_
  obtain ⟨F, ds, d, sF, l, hm, q⟩ := h
  obtain ⟨t, pt, qt⟩ := body cdv A outer s H E hr
  refine ⟨t, pt, ?_⟩
  obtain ⟨o, h1, h2⟩ := bind1 hm
  have hvl : vs.length = pm.length := l.length
  have hdl : ds.length = vs.length := l.length'
  refine qt F H F H (startD N ds) (L2.start N vs) o _ ⟨.refl _, .refl _, sF, fun _ _ _ h => h, [], ?_, List.nodup_nil, fun a z => (by cases z)⟩ h1 ?_
  · unfold startD L2.start
    rw [hdl]
    exact SL.start _ l hmo (by omega)
  · cases o with
    | nx ρ =>
      cases h2
      exact fun σ F' H' r => q .non F' H' [] ⟨r.f0, r.bh, r.fh, r.nf⟩ (Ow.scal .non rfl) List.nodup_nil fun a z => (by cases z)
    | rt d' =>
      cases h2
      exact fun v F' H' fp s1 s2 s3 s4 o nd hf => q v F' H' fp ⟨s1, s2, s3, s4⟩ o nd hf
    | bk ρ => cases h2
    | ct ρ => cases h2
end
end L3

namespace L3
open PySem PySem.Spec L2
open PyProof.Rows hiding St
theorem OpR.or {X : Cx} {f : Value → Value → Sem Value} {r r' : R2} (h : OpR X f r) (h' : OpR X f r') : OpR X f (fun x y H Q => r x y H Q ∨ r' x y H Q) :=
  fun pins s σ H x y v u Q I rx ry q => q.elim (h pins s σ H x y v u Q I rx ry) (h' pins s σ H x y v u Q I rx ry)
section
variable {K : PySem.W.Frag} {ct : Nat → Addr} {n m k : Nat}
def i2 (g : Int → Int → D) : D → D → Option D
  | .int i, .int j => some (g i j)
  | _, _ => none
def i2c (C : Int → Int → Prop) [∀ i j, Decidable (C i j)] (g : Int → Int → D) : D → D → Option D
  | .int i, .int j => if C i j then some (g i j) else none
  | _, _ => none
theorem op2_i {g : Int → Int → D} {gv : Int → Int → V} (hg : ∀ i j F, Dt K ct F (g i j) (gv i j)) : Op2 K ct n m k (rI0 gv) (i2 g) := by
  intro F H x y d1 d2 d Q s l1 l2 e w
  cases d1 with
  | int i =>
    cases d2 with
    | int j => cases e; exact ⟨i, j, l1.int, l2.int, w _ F H (.refl s) (Al.of (hg i j F))⟩
    | _ => cases e
  | _ => cases e
theorem op2_ic {C C' : Int → Int → Prop} [∀ i j, Decidable (C i j)] {g : Int → Int → D} {gv : Int → Int → V} (hC : ∀ i j, C i j → C' i j) (hg : ∀ i j F, Dt K ct F (g i j) (gv i j)) : Op2 K ct n m k (rI C' gv) (i2c C g) := by
  intro F H x y d1 d2 d Q s l1 l2 e w
  cases d1 with
  | int i =>
    cases d2 with
    | int j =>
      unfold i2c at e
      dsimp only at e
      by_cases h : C i j
      · rw [if_pos h] at e; cases e; exact ⟨i, j, l1.int, l2.int, hC i j h, w _ F H (.refl s) (Al.of (hg i j F))⟩
      · rw [if_neg h] at e; cases e
    | _ => cases e
  | _ => cases e
def BIG : Nat := 2 ^ 9000
def HUGE : Nat := 2 ^ 100000
def subD : D → D → Option D := i2 fun i j => .int (i - j)
theorem op2_sub : Op2 K ct n m k (rI0 fun i j => .int (i - j)) subD := op2_i fun _ _ _ => .int _
def mulOk (i j : Int) : Prop := (-18446744073709551616 < i ∧ i < 18446744073709551616) ∨ (-18446744073709551616 < j ∧ j < 18446744073709551616) ∨ (i.natAbs < HUGE ∧ j.natAbs < HUGE)
instance (i j : Int) : Decidable (mulOk i j) := by unfold mulOk; infer_instance
def mulI : D → D → Option D := i2c mulOk fun i j => .int (i * j)
theorem mulOk.ok {i j : Int} (h : mulOk i j) : CMulS i j := by
  rcases h with h | h | h
  · exact .inl (.inl ⟨by have := h.1; omega, by have := h.2; omega⟩)
  · exact .inl (.inr ⟨by have := h.1; omega, by have := h.2; omega⟩)
  · exact .inr h
theorem op2_mul : Op2 K ct n m k (rI CMulS fun i j => .int (i * j)) mulI := op2_ic (fun _ _ => mulOk.ok) fun _ _ _ => .int _

def D.v : D → V
  | .bl b => .bl b
  | .int i => .int i
  | .str x => .str x
  | _ => .non
theorem Dt.v {F : Hp} {d : D} {v : V} (h : Dt K ct F d v) (hs : d.sc = true) : v = d.v := by
  cases h <;> first | rfl | cases hs
theorem Al.v {F G : Hp} {d : D} {v : V} (h : Al K ct F G n d v) (hs : d.sc = true) : v = d.v := Dt.v (Al.scal (F' := F) h hs) hs
def fdivD : D → D → Option D
  | .int i, .int j => if 0 < j ∧ j < 4611686018427387904 then some (.int (i / j)) else if j ≠ 0 ∧ j.natAbs < BIG then some (.int (i.fdiv j)) else none
  | _, _ => none
theorem op2_fdiv : Op2 K ct n m k (rI (fun _ j => j ≠ 0 ∧ Sz 9000 j) fun i j => .int (i.fdiv j)) fdivD := by
  intro F H x y d1 d2 d Q s l1 l2 e w
  cases d1 with
  | int i =>
    cases d2 with
    | int j =>
      unfold fdivD at e
      dsimp only at e
      by_cases h : 0 < j ∧ j < 4611686018427387904
      · rw [if_pos h] at e
        cases e
        refine ⟨i, j, l1.int, l2.int, ⟨by omega, ?_⟩, ?_⟩
        · have : Sz 62 j := by unfold Sz; omega
          exact this.mono (by decide)
        · show Q (.int (i.fdiv j)) H
          rw [Int.fdiv_eq_ediv_of_nonneg i (by omega)]
          exact w _ F H (.refl s) (Al.of (.int _))
      · rw [if_neg h] at e
        by_cases h : j ≠ 0 ∧ j.natAbs < BIG
        · rw [if_pos h] at e
          cases e
          exact ⟨i, j, l1.int, l2.int, h, w _ F H (.refl s) (Al.of (.int _))⟩
        · rw [if_neg h] at e; cases e
    | _ => cases e
  | _ => cases e
def modD : D → D → Option D
  | .int i, .int j => if 0 < j then some (.int (i % j)) else if j ≠ 0 then some (.int (i.fmod j)) else none
  | _, _ => none
theorem op2_mod : Op2 K ct n m k (rI (fun _ j => j ≠ 0) fun i j => .int (i.fmod j)) modD := by
  intro F H x y d1 d2 d Q s l1 l2 e w
  cases d1 with
  | int i =>
    cases d2 with
    | int j =>
      unfold modD at e
      dsimp only at e
      by_cases h : 0 < j
      · rw [if_pos h] at e
        cases e
        refine ⟨i, j, l1.int, l2.int, by omega, ?_⟩
        show Q (.int (i.fmod j)) H
        rw [Int.fmod_eq_emod_of_nonneg i (by omega)]
        exact w _ F H (.refl s) (Al.of (.int _))
      · rw [if_neg h] at e
        by_cases h : j ≠ 0
        · rw [if_pos h] at e
          cases e
          exact ⟨i, j, l1.int, l2.int, h, w _ F H (.refl s) (Al.of (.int _))⟩
        · rw [if_neg h] at e; cases e
    | _ => cases e
  | _ => cases e
def powOk (i j : Int) : Prop := 0 ≤ j ∧ j ≤ 1000000 ∧ i.natAbs < 18446744073709551616
instance (i j : Int) : Decidable (powOk i j) := by unfold powOk; infer_instance
def powD : D → D → Option D := i2c powOk fun i j => .int (i ^ j.toNat)
theorem op2_pow : Op2 K ct n m k (rI CPow fun i j => .int (i ^ j.toNat)) powD := op2_ic (fun _ _ h => ⟨h.1, h.2.1, by have := h.2.2; omega⟩) fun _ _ _ => .int _
def shlD : D → D → Option D := i2c powOk fun i j => .int (i * 2 ^ j.toNat)
theorem op2_shl : Op2 K ct n m k (rI CPow fun i j => .int (i * 2 ^ j.toNat)) shlD := op2_ic (fun _ _ h => ⟨h.1, h.2.1, by have := h.2.2; omega⟩) fun _ _ _ => .int _
def shrD : D → D → Option D := i2c (fun _ j => 0 ≤ j) fun i j => .int (i / 2 ^ j.toNat)
theorem op2_shr : Op2 K ct n m k (rI (fun _ j => 0 ≤ j) fun i j => .int (i / 2 ^ j.toNat)) shrD := op2_ic (fun _ _ h => h) fun _ _ _ => .int _
def ltD : D → D → Option D := i2 fun i j => .bl (decide (i < j))
def gtD : D → D → Option D := i2 fun i j => .bl (decide (j < i))
def geD : D → D → Option D := i2 fun i j => .bl (decide (j ≤ i))
theorem op2_lt : Op2 K ct n m k (rI0 fun i j => .bl (decide (i < j))) ltD := op2_i fun _ _ _ => .bl _
theorem op2_gt : Op2 K ct n m k (rI0 fun i j => .bl (decide (j < i))) gtD := op2_i fun _ _ _ => .bl _
theorem op2_ge : Op2 K ct n m k (rI0 fun i j => .bl (decide (j ≤ i))) geD := op2_i fun _ _ _ => .bl _
def leD : D → D → Option D
  | .int i, .int j => some (.bl (decide (i ≤ j)))
  | .str i, .str j => some (.bl (!(decide (j.cps.toList < i.cps.toList))))
  | _, _ => none
def D.isN : D → Bool
  | .non => true
  | _ => false
def D.isB (b : Bool) : D → Bool
  | .bl c => c == b
  | _ => false
def isD (neg : Bool) : D → D → Option D
  | d, .non => some (.bl (if neg then !d.isN else d.isN))
  | d, .bl b => some (.bl (if neg then !d.isB b else d.isB b))
  | _, _ => none
theorem Al.ref {F G : Hp} {d : D} {v : V} (h : Al K ct F G n d v) (hs : d.sc = false) : ∃ a, v = .ref a := by
  cases n with
  | zero => cases (show Dt K ct F d v from h) <;> first | cases hs; done | exact ⟨_, rfl⟩
  | succ n => rcases h with h | h <;> cases h <;> first | cases hs; done | exact ⟨_, rfl⟩
theorem Al.isn {F G : Hp} {d : D} {v : V} (h : Al K ct F G n d v) : decide (v = .non) = d.isN := by
  cases hs : d.sc with
  | true =>
    have := Al.v h hs
    subst this
    cases d <;> first | rfl | cases hs
  | false =>
    obtain ⟨a, rfl⟩ := h.ref hs
    cases d <;> first | rfl | cases hs
theorem Al.isb {F G : Hp} {d : D} {v : V} {b : Bool} (h : Al K ct F G n d v) : decide (v = .bl b) = d.isB b := by
  cases hs : d.sc with
  | true =>
    have := Al.v h hs
    subst this
    cases d <;> first | rfl | (cases hs; done) | (rename_i c; cases b <;> cases c <;> rfl)
  | false =>
    obtain ⟨a, rfl⟩ := h.ref hs
    cases d <;> first | rfl | cases hs
def rIs : R2 := fun x y H Q => (y = .non ∧ Q (.bl (decide (x = .non))) H) ∨ ∃ b, y = .bl b ∧ Q (.bl (decide (x = .bl b))) H
theorem op_is {X : Cx} : OpR X (compareOp .Is) rIs := OpR.or op_isN op_isB
theorem op2_is : Op2 K ct n m k rIs (isD false) := by
  intro F H x y d1 d2 d Q s l1 l2 e w
  cases d2 with
  | non =>
    cases e
    refine .inl ⟨l2.non, ?_⟩
    rw [l1.isn]
    exact w _ F H (.refl s) (Al.of (.bl _))
  | bl b =>
    cases e
    refine .inr ⟨b, l2.bl, ?_⟩
    rw [l1.isb]
    exact w _ F H (.refl s) (Al.of (.bl _))
  | _ => cases e
mutual
def D.py : D → Option PyData
  | .non => some .none
  | .bl b => some (.bool b)
  | .int i => some (.int i)
  | .str x => some (.str x)
  | .lst xs => (D.pys xs).bind fun ys => some (.list ys)
  | .tup xs => (D.pys xs).bind fun ys => some (.tuple ys)
  | _ => none
def D.pys : List D → Option (List PyData)
  | [] => some []
  | d :: ds => (D.py d).bind fun x => (D.pys ds).bind fun xs => some (x :: xs)
end
theorem Dt.toPy {F H : Hp} (s : Same F H) {d : D} {v : V} {e : PyData} (h : Dt K ct F d v) (q : d.py = some e) : L2.Dt K H v e := by
  refine Dt.rec (motive_1 := fun d v _ => ∀ e, d.py = some e → L2.Dt K H v e) (motive_2 := fun ds vs _ => ∀ es, D.pys ds = some es → L2.Dts K H vs es) ?_ ?_ ?_ ?_ ?_ ?_ ?_ ?_ ?_ ?_ ?_ ?_ ?_ h e q
  · intro e h; rw [D.py] at h; cases h; exact .non
  · intro b e h; rw [D.py] at h; cases h; exact .bl b
  · intro b e h; rw [D.py] at h; cases h; exact .int b
  · intro b e h; rw [D.py] at h; cases h; exact .str b
  · intro _ _ _ q _ t e h
    rw [D.py] at h
    obtain ⟨ys, h1, h2⟩ := bind1 h
    cases h2
    exact .lst (s.seq q) (t _ h1)
  · intro _ _ _ q _ t e h
    rw [D.py] at h
    obtain ⟨ys, h1, h2⟩ := bind1 h
    cases h2
    exact .tup (SqT.of (s _ _ q)) (t _ h1)
  · intro _ _ _ _ _ _ _ _ e h; simp only [D.py] at h; cases h
  · intro _ _ _ _ _ _ _ _ e h; simp only [D.py] at h; cases h
  · intro _ _ _ _ _ _ _ _ _ _ e h; simp only [D.py] at h; cases h
  · intro _ _ _ _ e h; simp only [D.py] at h; cases h
  · intro _ _ _ _ _ _ _ _ _ _ _ _ e h; simp only [D.py] at h; cases h
  · intro e h; rw [D.pys] at h; cases h; exact .nil
  · intro _ _ _ _ _ _ p t e h
    rw [D.pys] at h
    obtain ⟨y, ys, h1, h2, h3⟩ := bind2 h
    cases h3
    exact .cons (p _ h1) (t _ h2)
theorem Pr.toPy {H : Hp} {R : D → V → Prop} (f : ∀ d v e, R d v → d.py = some e → L2.Dt K H v e) {ds : List D} {vs : List V} {es : List PyData} (h : Pr R ds vs) (e : D.pys ds = some es) : L2.Dts K H vs es := by
  induction h generalizing es with
  | nil => rw [D.pys] at e; cases e; exact .nil
  | cons h t ih =>
    rw [D.pys] at e
    obtain ⟨y, ys, h1, h2, h3⟩ := bind2 e
    cases h3
    exact .cons (f _ _ _ h h1) (ih h2)
theorem Al.toPy {F H : Hp} (s : Same F H) {n : Nat} {d : D} {v : V} {e : PyData} (h : Al K ct F H n d v) (q : d.py = some e) : L2.Dt K H v e := by
  induction n generalizing d v e with
  | zero => exact Dt.toPy s h q
  | succ n ih =>
    cases h with
    | inl h => exact Dt.toPy s h q
    | inr h =>
      cases h with
      | lst h t =>
        rw [D.py] at q
        obtain ⟨ys, h1, h2⟩ := bind1 q
        cases h2
        exact .lst (SqL.of h) (Pr.toPy (fun _ _ _ => ih) t h1)
      | tup h t =>
        rw [D.py] at q
        obtain ⟨ys, h1, h2⟩ := bind1 q
        cases h2
        exact .tup (SqT.of (s _ _ h)) (Pr.toPy (fun _ _ _ => ih) t h1)
      | _ => simp only [D.py] at q; cases q
def pyOk (a : PyData) : Bool := a.canLay0 && decide (a.depth ≤ 60)
def eqD (neg : Bool) (x y : D) : Option D := x.py.bind fun a => y.py.bind fun b => if pyOk a = true ∧ pyOk b = true then some (.bl (if neg then !PyData.eqv a b else PyData.eqv a b)) else none
theorem op2_eq {neg : Bool} : Op2 K ct n m k (rEqD K neg) (eqD neg) := by
  intro F H x y d1 d2 d Q s l1 l2 e w
  obtain ⟨a, b, h1, h2, h3⟩ := bind2 e
  by_cases h : pyOk a = true ∧ pyOk b = true
  · rw [if_pos h] at h3
    cases h3
    have o1 := h.1
    have o2 := h.2
    unfold pyOk at o1 o2
    rw [Bool.and_eq_true, decide_eq_true_iff] at o1 o2
    exact ⟨a, b, Al.toPy s l1 h1, Al.toPy s l2 h2, o1.1, o2.1, Nat.le_trans (Nat.min_le_left _ _) o1.2, w _ F H (.refl s) (Al.of (.bl _))⟩
  · rw [if_neg h] at h3; cases h3
end
end L3

namespace L3
open PySem PySem.Spec L2
open PyProof.Rows hiding St
section
variable {K : PySem.W.Frag} {ct : Nat → Addr} {n m k : Nat} {X : Cx}
theorem Pr.atI {R : D → V → Prop} {ds : List D} {vs : List V} {i : Int} {d : D} (h : Pr R ds vs) (e : atI ds i = some d) : ∃ v, atI vs i = some v ∧ R d v := by
  unfold L2.atI at e ⊢
  rw [← h.length]
  obtain ⟨j, h1, h2⟩ := bind1 e
  obtain ⟨v, h3, h4⟩ := h.get' h2
  exact ⟨v, by rw [h1]; exact h3, h4⟩
def ixD : D → D → Option D
  | .lst ds, .int i => atI ds i
  | .tup ds, .int i => atI ds i
  | .str x, .int i => if x.length ≤ 16777216 then (atI x.cps.toList i).bind fun c => some (.str ⟨#[c]⟩) else none
  | _, _ => none
theorem op2_ix : Op2 K ct n m (n - 1) (rIx K) ixD := by
  intro F H x y d1 d2 d Q s l1 l2 e w
  cases d1 with
  | lst ds =>
    cases d2 with
    | int i =>
      obtain ⟨a, vs, rfl, ha, hp⟩ := l1.lst s
      obtain ⟨v, h1, h2⟩ := hp.atI e
      exact .inl ⟨a, vs, i, v, rfl, l2.int, ha, h1, w v F H (.refl s) h2⟩
    | _ => cases e
  | tup ds =>
    cases d2 with
    | int i =>
      obtain ⟨a, vs, rfl, ha, hp⟩ := l1.tup s
      obtain ⟨v, h1, h2⟩ := hp.atI e
      exact .inr (.inl ⟨a, vs, i, v, rfl, l2.int, SqT.of ha, h1, w v F H (.refl s) h2⟩)
    | _ => cases e
  | str z =>
    cases d2 with
    | int i =>
      unfold ixD at e
      dsimp only at e
      by_cases h : z.length ≤ 16777216
      · rw [if_pos h] at e
        obtain ⟨c, h1, h2⟩ := bind1 e
        cases h2
        exact .inr (.inr ⟨z, i, c, l1.str, l2.int, by rw [sizeLine_eq]; exact h, h1, w _ F H (.refl s) (Al.of (.str _))⟩)
      · rw [if_neg h] at e; cases e
    | _ => cases e
  | _ => cases e
def lenD : List D → Option D
  | [.lst ds] => some (.int ds.length)
  | [.tup ds] => some (.int ds.length)
  | [.dK ks _] => some (.int ks.length)
  | [.str x] => if x.length ≤ 16777216 then some (.int x.length) else none
  | _ => none
def rLen (K : PySem.W.Frag) : List V → Hp → VK → Prop := fun xs H Q => (∃ p ys, xs = [.ref p] ∧ (SqL K H p ys ∨ SqT K H p ys) ∧ Q (.int ys.length) H) ∨ (∃ z, xs = [.str z] ∧ z.length ≤ sizeLine ∧ Q (.int z.length) H) ∨ ∃ a kvs, xs = [V.ref a] ∧ H a = some (.dK kvs) ∧ Q (.int kvs.length) H
theorem call_lenA : CallR X (.builtin "len") (rLen X.K) := call_len_seq.or (call_len_str.or call_lenD)
theorem opn_len : OpN K ct [n] k (rLen K) lenD := by
  intro F H vs ds d Q s l e w
  cases l with
  | cons h t =>
    cases t
    rename_i d1 v
    cases d1 with
    | lst xs =>
      cases e
      obtain ⟨a, us, rfl, ha, hp⟩ := h.lst s
      refine .inl ⟨a, us, rfl, .inl ha, ?_⟩
      rw [← hp.length]
      exact w _ F H (.refl s) (Al.of (.int _))
    | tup xs =>
      cases e
      obtain ⟨a, us, rfl, ha, hp⟩ := h.tup s
      refine .inl ⟨a, us, rfl, .inr (SqT.of ha), ?_⟩
      rw [← hp.length]
      exact w _ F H (.refl s) (Al.of (.int _))
    | str x =>
      unfold lenD at e
      dsimp only at e
      by_cases hz : x.length ≤ 16777216
      · rw [if_pos hz] at e
        cases e
        exact .inr (.inl ⟨x, by rw [h.str], by rw [sizeLine_eq]; exact hz, w _ F H (.refl s) (Al.of (.int _))⟩)
      · rw [if_neg hz] at e; cases e
    | dK ks xs =>
      cases e
      obtain ⟨a, us, rfl, ha, hl, hp⟩ := h.dK s
      refine .inr (.inr ⟨a, _, rfl, ha, ?_⟩)
      rw [List.length_zip, ← hl, Nat.min_self]
      exact w _ F H (.refl s) (Al.of (.int _))
    | _ => cases e
end
end L3

namespace L3
open PySem PySem.Spec L2
open PyProof.Rows hiding St
section
variable {ct : Nat → Addr} {K : PySem.W.Frag}
theorem fam_o {ι : Type} {Xs : ι → Cx} {ms : List Mo} {n : Nat} {e : Expr} {f : EF} (hK : ∀ i, (Xs i).K = K) (h : ∀ i, XO (Xs i) ct ms n e f) : ∃ t, (∀ i, PE (Xs i) e t) ∧ ∀ (F0 B F H : Hp) (ρ : Env) (σ : St) (d : D) (Q : VK), RS K ct F0 B ms F H ρ σ → f ρ = some d →
    (∀ v F' H' fp, Ext F H F' H' → Ow K ct F' H' n d v fp → fp.Nodup → (∀ a ∈ fp, H a = none) → Q v H') → t σ H Q := by
  refine ⟨fun σ H Q => ∀ i, (h i).choose σ H Q, fun i pins s σ H Q I q => (h i).choose_spec.1 pins s σ H Q I (q i), fun F0 B F H ρ σ d Q rs e w i => ?_⟩
  exact (h i).choose_spec.2 F0 B F H ρ σ d Q (by rw [hK i]; exact rs) e fun v F' H' fp x l => w v F' H' fp x (by rw [← hK i]; exact l)
def XTs (X : Cx) (ct : Nat → Addr) (ms : List Mo) (ifs : List Expr) (f : BF) : Prop := ∃ t, PTs X ifs t ∧ ∀ (F0 B F H : Hp) (ρ : Env) (σ : St) (b : Bool) (Q : Bool → Hp → Prop), RS X.K ct F0 B ms F H ρ σ → f ρ = some b → (∀ F' H', Ext F H F' H' → Q b H') → t σ H Q
def bTrue : BF := fun _ => some true
theorem xts_nil {X : Cx} {ms : List Mo} : XTs X ct ms [] bTrue := ⟨_, pts_nil, fun F0 B F H ρ σ b Q rs e w => by cases e; exact w F H (.refl rs.fh)⟩
theorem fam_t {ι : Type} {Xs : ι → Cx} {ms : List Mo} {ifs : List Expr} {f : BF} (hK : ∀ i, (Xs i).K = K) (h : ∀ i, XTs (Xs i) ct ms ifs f) : ∃ t, (∀ i, PTs (Xs i) ifs t) ∧ ∀ (F0 B F H : Hp) (ρ : Env) (σ : St) (b : Bool) (Q : Bool → Hp → Prop), RS K ct F0 B ms F H ρ σ → f ρ = some b →
    (∀ F' H', Ext F H F' H' → Q b H') → t σ H Q := by
  refine ⟨fun σ H Q => ∀ i, (h i).choose σ H Q, fun i pins s σ H Q I q => (h i).choose_spec.1 pins s σ H Q I (q i), fun F0 B F H ρ σ d Q rs e w i => ?_⟩
  exact (h i).choose_spec.2 F0 B F H ρ σ d Q (by rw [hK i]; exact rs) e w
def monoG {α : Type} (g : α → St → Hp → (St → Hp → Prop) → Prop) : Prop := ∀ v σ H Q Q', (∀ σ' H', Q σ' H' → Q' σ' H') → g v σ H Q → g v σ H Q'
def XGc (X : Cx) (ct : Nat → Addr) (ms : List Mo) (own n : Nat) (tg : Expr) (g : D → Env → Option Env) : Prop := ∃ t, PG X tg t ∧ keepsCaps own t ∧ monoG t ∧ ∀ (F0 B F H : Hp) (ρ ρ' : Env) (σ : St) (d : D) (v : V) (Q : St → Hp → Prop), RS X.K ct F0 B ms F H ρ σ → Al X.K ct F B n d v → g d ρ = some ρ' →
  (∀ σ', RS X.K ct F0 B ms F H ρ' σ' → Q σ' H) → t v σ H Q
theorem fam_g {ι : Type} {Xs : ι → Cx} {ms : List Mo} {own n : Nat} {tg : Expr} {g : D → Env → Option Env} (hK : ∀ i, (Xs i).K = K) (h : ∀ i, XGc (Xs i) ct ms own n tg g) : ∃ t, (∀ i, PG (Xs i) tg t) ∧ keepsCaps own t ∧ ∀ (F0 B F H : Hp) (ρ ρ' : Env) (σ : St) (d : D) (v : V) (Q : St → Hp → Prop), RS K ct F0 B ms F H ρ σ → Al K ct F B n d v → g d ρ = some ρ' →
    (∀ σ', RS K ct F0 B ms F H ρ' σ' → Q σ' H) → t v σ H Q := by
  refine ⟨fun v σ H Q => ∀ i, (h i).choose v σ H Q, fun i pins s σ H v u Q I r q => (h i).choose_spec.1 pins s σ H v u Q I r (q i), fun v σ H Q q i => (h i).choose_spec.2.1 v σ H Q (q i), fun F0 B F H ρ ρ' σ d v Q rs l e w i => ?_⟩
  exact (h i).choose_spec.2.2.2 F0 B F H ρ ρ' σ d v Q (by rw [hK i]; exact rs) (by rw [hK i]; exact l) e fun σ' r => w σ' (by rw [← hK i]; exact r)
theorem xgc_name {X : Cx} {ms : List Mo} {own i : Nat} {x : Str} {pos : Pos} (ho : i < own) (hm : ms[i]? = some (.ow 0)) (hN : X.N.Nodup) (hi : X.N[i]? = some x) (hx : Loc X.env.scope x)
    (hf : X.fn x = true ∨ X.env.scope.names.lookup x = some .local := by first | exact .inl rfl | exact .inr rfl | assumption) : XGc X ct ms own 0 (.Name x pos) (gV i) := by
  refine ⟨_, pg_name hN hi hx hf, keeps_name i own ho, fun v σ H Q Q' m q => m _ _ q, fun F0 B F H ρ ρ' σ d v Q rs l e w => ?_⟩
  cases e
  exact w _ (rs.set hm (.refl rs.fh) (Ow.zero l) List.nodup_nil fun a z => (by cases z))
def capsD (ρ : Env) (cap : List Nat) : Env := cap.map fun i => (ρ[i]?).join
def capsM (ms : List Mo) (cap : List Nat) : List Mo := cap.map fun i => .al (((ms[i]?).map Mo.lv).getD 0)
def compD (g : D → Env → Option Env) (p : BF) (f : EF) (ρ0 : Env) : List D → Option (List D)
  | [] => some []
  | d :: ds => (g d ρ0).bind fun ρ1 => (p ρ1).bind fun b => if b = true then (f ρ1).bind fun y => (compD g p f ρ0 ds).bind fun ys => some (y :: ys) else compD g p f ρ0 ds
def eComp (fi : Env → Option (List D)) (own : Nat) (cap : List Nat) (g : D → Env → Option Env) (p : BF) (f : EF) : EF := fun ρ => (fi ρ).bind fun ds => if ds.length ≤ 16777216 then (compD g p f (List.replicate own none ++ capsD ρ cap) ds).bind fun ys => some (.lst ys) else none
theorem SL.caps {F B H : Hp} {ms : List Mo} {ρ : Env} {σ : St} (rs : RS K ct F0 B ms F H ρ σ) : ∀ {cap : List Nat}, (∀ i ∈ cap, i < ms.length) → SL K ct F H H (capsM ms cap) (capsD ρ cap) (capsOf σ cap) []
  | [], _ => .nil
  | i :: cap, h => by
    have ih := SL.caps rs (cap := cap) fun j hj => h j (List.mem_cons_of_mem _ hj)
    have hi : i < ms.length := h i List.mem_cons_self
    have hm : ms[i]? = some ms[i] := by simp [hi]
    show SL K ct F H H (.al (((ms[i]?).map Mo.lv).getD 0) :: capsM ms cap) ((ρ[i]?).join :: capsD ρ cap) ((σ[i]?).join :: capsOf σ cap) []
    cases e : (ρ[i]?).join with
    | none => exact .no ih
    | some d =>
      obtain ⟨v, hv, l⟩ := rs.get hm (join_some e)
      rw [hv, hm]
      exact .al l ih
theorem SL.nones {F B H : Hp} {ms ms' : List Mo} {ρ : Env} {σ : St} {fp : List Addr} (t : SL K ct F B H ms ρ σ fp) : ∀ {om : List Mo}, SL K ct F B H (om ++ ms) (List.replicate om.length none ++ ρ) (List.replicate om.length none ++ σ) fp
  | [] => t
  | m :: om => .no (SL.nones (ms' := ms') t)
theorem xo_compF {X : Cx} {ms om : List Mo} {n k : Nat} {elt iter tg : Expr} {ifs : List Expr} {scope : Scope} {pos : Pos} {N : List Str} {own : Nat} {cap : List Nat} {fi : Env → Option (List D)} {gg : D → Env → Option Env} {p : BF} {f : EF}
    (B : BlkOk X scope N own cap) (hc : X.calm = true) (ho : om.length = own) (hcap : ∀ i ∈ cap, i < ms.length) (hi : XIc X ct ms n tg iter fi)
    (hg : ∀ cl C fp s₀ H₀, XGc (cxB X scope cl N C fp s₀ H₀) ct (om ++ capsM ms cap) own n tg gg) (ht : ∀ cl C fp s₀ H₀, XTs (cxB X scope cl N C fp s₀ H₀) ct (om ++ capsM ms cap) ifs p) (he : ∀ cl C fp s₀ H₀, XO (cxB X scope cl N C fp s₀ H₀) ct (om ++ capsM ms cap) k elt f)
    :
    ∃ wi g tt te, PI X tg iter wi ∧ keepsCaps own g ∧ (∀ cl C fp s₀ H₀, PG (cxB X scope cl N C fp s₀ H₀) tg g) ∧ (∀ cl C fp s₀ H₀, PTs (cxB X scope cl N C fp s₀ H₀) ifs tt) ∧ (∀ cl C fp s₀ H₀, PE (cxB X scope cl N C fp s₀ H₀) elt te) ∧
      ∀ (F0 B F H : Hp) (ρ : Env) (σ : St) (d : D) (Q : VK), RS X.K ct F0 B ms F H ρ σ → eComp fi own cap gg p f ρ = some d → (∀ v F' H' fp, Ext F H F' H' → Ow X.K ct F' H' (k + 1) d v fp → fp.Nodup → (∀ a ∈ fp, H a = none) → Q v H') → tComp wi own cap g tt te σ H Q := by
  obtain ⟨wi, pi, qi⟩ := hi
  obtain ⟨tg', pg, kg, qg⟩ := fam_g (K := X.K) (Xs := fun z : List (Str × Addr) × Addr × List Addr × Shared × Hp => cxB X scope z.1 N z.2.1 z.2.2.1 z.2.2.2.1 z.2.2.2.2) (fun _ => rfl) (fun z => hg z.1 z.2.1 z.2.2.1 z.2.2.2.1 z.2.2.2.2)
  obtain ⟨tt, pt, qt⟩ := fam_t (K := X.K) (Xs := fun z : List (Str × Addr) × Addr × List Addr × Shared × Hp => cxB X scope z.1 N z.2.1 z.2.2.1 z.2.2.2.1 z.2.2.2.2) (fun _ => rfl) (fun z => ht z.1 z.2.1 z.2.2.1 z.2.2.2.1 z.2.2.2.2)
  obtain ⟨te, pe, qe⟩ := fam_o (K := X.K) (Xs := fun z : List (Str × Addr) × Addr × List Addr × Shared × Hp => cxB X scope z.1 N z.2.1 z.2.2.1 z.2.2.2.1 z.2.2.2.2) (fun _ => rfl) (fun z => he z.1 z.2.1 z.2.2.1 z.2.2.2.1 z.2.2.2.2)
  refine ⟨wi, tg', tt, te, pi, kg, (fun cl C fp s₀ H₀ => pg (cl, C, fp, s₀, H₀)), (fun cl C fp s₀ H₀ => pt (cl, C, fp, s₀, H₀)), (fun cl C fp s₀ H₀ => pe (cl, C, fp, s₀, H₀)), fun F0 B F H ρ σ r Q rs e w => ?_⟩
  obtain ⟨ds, h1, h2⟩ := bind1 e
  by_cases hz : ds.length ≤ 16777216
  case neg => rw [if_neg hz] at h2; cases h2
  rw [if_pos hz] at h2
  obtain ⟨ys, h3, h4⟩ := bind1 h2
  cases h4
  refine qi F0 B F H ρ σ ds _ rs h1 fun J F1 H1 x1 ok A hA => ?_
  have rs1 := rs.ext x1
  refine ⟨fun i m us H2 => m = ds.length - i ∧ i ≤ ds.length ∧ us.length ≤ i ∧ H2 A = some (.lst us) ∧ ∃ F2 yd zd fp, Ext F1 H1 F2 H2 ∧ F2 A = none ∧ OwL (Ow X.K ct F2 H2 k) yd us fp ∧ fp.Nodup ∧ (∀ a ∈ fp, H1 a = none ∧ a ≠ A) ∧ compD gg p f (List.replicate own none ++ capsD ρ cap) (ds.drop i) = some zd ∧ yd ++ zd = ys,
    ⟨ds.length, rfl, Nat.zero_le _, Nat.le_refl _, upd_same, F1, [], ys, [], Ext.newO x1.fh hA _, x1.fh.free hA, .nil, List.nodup_nil, fun a z => (by cases z), h3, rfl⟩, ?_⟩
  rintro i m us H2 ⟨rfl, hil, hul, hA2, F2, yd, zd, fp, x2, fA, ol, nd, hf, hcd, hys⟩
  refine ⟨hA2, ?_⟩
  have rs2 := rs1.ext x2
  obtain ⟨k1, k2⟩ := ok i F2 H2 x2.ff x2.hh x2.fh
  by_cases hlt : i < ds.length
  · right
    have hd : ds[i]? = some ds[i] := by simp [hlt]
    obtain ⟨go, yl⟩ := k1 _ hd
    rw [List.drop_eq_getElem_cons hlt] at hcd
    obtain ⟨ρ1, h5, h6⟩ := bind1 hcd
    obtain ⟨b, h7, h8⟩ := bind1 h6
    refine ⟨go, by rw [sizeLine_eq]; omega, fun x H3 y => ?_⟩
    obtain ⟨F3, x3, l⟩ := yl x H3 y
    have rs3 := rs2.ext x3
    have sl := SL.nones (ms' := []) (SL.caps rs3 hcap) (om := om)
    rw [ho] at sl
    have rsI : RS X.K ct F3 H3 (om ++ capsM ms cap) F3 H3 (List.replicate own none ++ capsD ρ cap) (List.replicate own none ++ capsOf σ cap) := ⟨.refl _, .refl _, x3.fh, fun _ _ _ h => h, [], sl, List.nodup_nil, fun a z => (by cases z)⟩
    have A3 : H3 A = some (.lst us) := x3.hh _ _ hA2
    have fA3 : F3 A = none := x3.nf A _ hA2 fA
    refine qg F3 H3 F3 H3 _ ρ1 _ _ x _ rsI (l.mono (.refl _) (x2.trans x3).hh) h5 fun σ1 r1 => ?_
    refine qt F3 H3 F3 H3 ρ1 σ1 b _ r1 h7 fun F4 H4 x4 => ?_
    cases b with
    | false =>
      rw [if_neg Bool.false_ne_true] at h8 ⊢
      have x24 := x3.trans x4
      refine ⟨ds.length - (i + 1), by omega, rfl, hlt, by omega, x4.hh _ _ A3, F4, yd, zd, fp, x2.trans x24, x4.nf A _ A3 fA3, ol.mono fun _ _ _ _ o => o.ext x24, nd, hf, h8, hys⟩
    | true =>
      rw [if_pos rfl] at h8 ⊢
      obtain ⟨yv, h9, h10⟩ := bind1 h8
      obtain ⟨zs, h11, h12⟩ := bind1 h10
      cases h12
      refine qe F3 H3 F4 H4 ρ1 σ1 yv _ (r1.ext x4) h9 fun v F5 H5 f5 x5 o5 n5 hf5 => ?_
      have x25 := (x3.trans x4).trans x5
      have x45 := x4.trans x5
      have A5 : H5 A = some (.lst us) := x45.hh _ _ A3
      have fA5 : F5 A = none := x45.nf A _ A3 fA3
      have A4 : H4 A = some (.lst us) := x4.hh _ _ A3
      have hA5 : ∀ a ∈ f5, a ≠ A := fun a z e => by rw [e] at z; rw [hf5 A z] at A4; cases A4
      refine ⟨A5, ds.length - (i + 1), by omega, rfl, hlt, by rw [List.length_append, List.length_singleton]; omega, upd_same, F5, yd ++ [yv], zs, fp ++ (f5 ++ []), ?_, fA5, ?_, ?_, ?_, h11, by rw [List.append_assoc]; exact hys⟩
      · have x15 := x2.trans x25
        refine ⟨x15.ff, fun a o h => ?_, fun a o h => ?_, x15.nf⟩
        · rw [upd_ne (ne_of_none h hA)]; exact x15.hh _ _ h
        · rw [upd_ne (fun z => by rw [z] at h; rw [fA5] at h; cases h)]; exact x15.fh _ _ h
      · refine (ol.mono fun _ _ f hfi o => ?_).append (.cons ?_ .nil)
        · refine (o.ext x25).frame (.refl _) fun a z => ⟨upd_ne (hf a (hfi a z)).2, ((o.ext x25).cells a z).1⟩
        · exact o5.frame (.refl _) fun a z => ⟨upd_ne (hA5 a z), (o5.cells a z).1⟩
      · rw [List.append_nil]
        refine List.nodup_append.mpr ⟨nd, n5, fun a z c hc e => ?_⟩
        subst e
        have : ∃ o, H2 a = some o := (OwL.cellsOf ol a z).2
        obtain ⟨o, ho⟩ := this
        have := x4.hh _ _ (x3.hh _ _ ho)
        rw [hf5 a hc] at this
        cases this
      · intro a z
        rw [List.append_nil] at z
        rcases List.mem_append.mp z with z | z
        · exact hf a z
        · refine ⟨?_, hA5 a z⟩
          have x14 := x2.trans (x3.trans x4)
          exact x14.hh.free (hf5 a z)
  · left
    refine ⟨k2 (by omega), ?_⟩
    have : ds.drop i = [] := List.drop_eq_nil_of_le (by omega)
    rw [this] at hcd
    cases hcd
    rw [List.append_nil] at hys
    subst hys
    refine w _ F2 H2 (A :: fp) (x1.trans x2) (.inr (.lst fA hA2 ol)) (List.nodup_cons.mpr ⟨fun z => (hf A z).2 rfl, nd⟩) fun a z => ?_
    rcases List.mem_cons.mp z with rfl | z
    · exact x1.hh.free hA
    · exact x1.hh.free (hf a z).1
theorem xo_comp {X : Cx} {ms om : List Mo} {n k : Nat} {elt iter tg : Expr} {ifs : List Expr} {scope : Scope} {pos : Pos} {N : List Str} {own : Nat} {cap : List Nat} {fi : Env → Option (List D)} {gg : D → Env → Option Env} {p : BF} {f : EF}
    (B : BlkOk X scope N own cap) (hc : X.calm = true) (ho : om.length = own) (hcap : ∀ i ∈ cap, i < ms.length) (hi : XIc X ct ms n tg iter fi)
    (hg : ∀ cl C fp s₀ H₀, XGc (cxB X scope cl N C fp s₀ H₀) ct (om ++ capsM ms cap) own n tg gg) (ht : ∀ cl C fp s₀ H₀, XTs (cxB X scope cl N C fp s₀ H₀) ct (om ++ capsM ms cap) ifs p) (he : ∀ cl C fp s₀ H₀, XO (cxB X scope cl N C fp s₀ H₀) ct (om ++ capsM ms cap) k elt f)
    (hs : ∀ x, foldedSetIterable iter X.env x = pure x := by intro _; rfl) : XO X ct ms (k + 1) (.ListComp elt [⟨tg, iter, ifs, 0⟩] scope pos) (eComp fi own cap gg p f) := by
  obtain ⟨wi, g, tt, te, pi, kg, pg, pt, pe, q⟩ := xo_compF (k := k) (pos := pos) B hc ho hcap hi hg ht he
  exact ⟨_, pe_comp B hc pi kg pg pt pe hs, q⟩
end
end L3

namespace L3
open PySem PySem.Spec L2
open PyProof.Rows hiding St
section
variable {X : Cx} {ct : Nat → Addr} {ms : List Mo} {rk n m k : Nat} {st : Stmt} {rest : List Stmt} {a b c e tg : Expr} {f g h : EF} {p q : BF} {u w : SF} {pos : Pos}
def asL : D → Option (List D)
  | .lst ds => some ds
  | _ => none
theorem asL_some {d : D} {ds : List D} (h : asL d = some ds) : d = .lst ds := by cases d <;> simp [asL] at h; subst h; rfl
def lsD (f : EF) : Env → Option (List D) := fun ρ => (f ρ).bind asL
theorem itl_ok {K : PySem.W.Frag} {F B G : Hp} {a : Addr} {vs : List V} {ds : List D} (hp : Pr (Al K ct F B n) ds vs) (keep : ∀ F' H', Same F F' → Same B H' → Same F' H' → SqL K H' a vs) : ItOk K ct F B n (Itl K a) ds := by
  intro i F' H' s1 s2 s3
  have hs : SqL K H' a vs := keep F' H' s1 s2 s3
  refine ⟨fun d hd => ?_, fun hl => ⟨vs, hs, by rw [← hp.length]; exact hl⟩⟩
  obtain ⟨v, hv, l⟩ := hp.get' hd
  refine ⟨⟨vs, v, hs, hv⟩, fun x H2 y => ?_⟩
  obtain ⟨e, y⟩ := y
  subst e
  have := y vs hs
  rw [hv] at this
  cases this
  exact ⟨F', .refl s3, l.mono s1 (.refl _)⟩
theorem Dt.lst_inv {K : PySem.W.Frag} {F : Hp} {ds : List D} {v : V} (h : Dt K ct F (.lst ds) v) : ∃ a vs, v = .ref a ∧ SqL K F a vs ∧ Dts K ct F ds vs := by
  cases h with
  | lst q t => exact ⟨_, _, rfl, q, t⟩
theorem xic_list (he : XE X ct ms n e f) : XIc X ct ms (n - 1) tg e (lsD f) := by
  obtain ⟨t, pt, qt⟩ := he
  refine ⟨_, pi_list pt, fun F0 B F H ρ σ ds R rs e w => ?_⟩
  obtain ⟨d, h1, h2⟩ := bind1 e
  rw [asL_some h2] at h1
  refine qt F0 B F H ρ σ _ _ rs h1 fun v F' H' x l => ?_
  obtain ⟨a, vs, rfl, ha, hp⟩ := l.lst x.fh
  exact ⟨a, rfl, ⟨vs, ha⟩, w _ F' H' x (itl_ok (G := H') hp fun F2 H2 s1 s2 s3 => s2.seq ha)⟩
theorem XI.cc {fi : Env → Option (List D)} (h : XI X ct ms n tg e fi) : XIc X ct ms n tg e fi := by
  obtain ⟨t, pt, qt⟩ := h
  refine ⟨t, pt, fun F0 B F H ρ σ ds R rs e w => qt F0 B F H ρ σ ds R rs e fun J F' H' x ok => w J F' H' x fun i F2 H2 s1 s2 s3 => ?_⟩
  obtain ⟨k1, k2⟩ := ok i F2 H2 s1 ((rs.ext x).bh.trans s2) s3
  refine ⟨fun d hd => ?_, k2⟩
  obtain ⟨go, yl⟩ := k1 d hd
  refine ⟨go, fun v H3 y => ?_⟩
  obtain ⟨F3, x3, l⟩ := yl v H3 y
  exact ⟨F3, x3, l.mono (.refl _) (rs.ext x).bh⟩
def upto (lo : Int) (j : Nat) : List D := (List.range j).map fun (t : Nat) => .int (lo + (t : Int))
def rng1 : List D → Option (List D)
  | [.int j] => if -4611686018427387904 ≤ j ∧ j < 4611686018427387904 then some (upto 0 j.toNat) else none
  | _ => none
theorem itr_ok {K : PySem.W.Frag} {F B : Hp} {lo : Int} {j : Nat} : ItOk K ct F B n (Itr lo j) (upto lo j) := by
  intro i F' H' s1 s2 s3
  unfold upto
  refine ⟨fun d hd => ?_, fun hl => (show j ≤ i by simpa using hl)⟩
  rw [List.getElem?_map] at hd
  by_cases h : i < j
  · rw [List.getElem?_range h] at hd
    cases hd
    refine ⟨h, fun x H2 y => ?_⟩
    obtain ⟨e, y⟩ := y
    subst e
    subst y
    exact ⟨F', .refl s3, Al.of (.int _)⟩
  · rw [List.getElem?_eq_none (by simpa using h)] at hd
    cases hd
theorem xi_range1 {fs : Env → Option (List D)} {pp : Pos} (hm : X.mg "range" = none) (ha : XA X ct ms [a] [m] fs) (hg : Gl X "range" := by rfl) (hs : starEach [a] X.env = [(false, eval a X.env)] := by rfl) : XI X ct ms n tg (.Call (.Name "range" pp) [a] [] pos) (fun ρ => (fs ρ).bind rng1) := by
  obtain ⟨t, pt, _, qt⟩ := ha
  refine ⟨_, pi_range1 hg hm pt hs, fun F0 B F H ρ σ ds R rs e w => ?_⟩
  obtain ⟨ds', h1, h2⟩ := bind1 e
  refine qt F0 B F H ρ σ _ _ rs h1 fun vs F' H' x l => ?_
  cases l with
  | cons h t =>
    cases t
    rename_i d v
    cases d with
    | int j =>
      unfold rng1 at h2
      dsimp only at h2
      by_cases hj : -4611686018427387904 ≤ j ∧ j < 4611686018427387904
      · rw [if_pos hj] at h2
        cases h2
        exact ⟨j, by rw [h.int], by omega, by omega, w _ F' H' x itr_ok⟩
      · rw [if_neg hj] at h2; cases h2
    | _ => cases h2
def enumD (i : Nat) : List D → List D
  | [] => []
  | d :: ds => .tup [.int i, d] :: enumD (i + 1) ds
theorem enumD_get : ∀ {ds : List D} {j i : Nat} {d : D}, (enumD j ds)[i]? = some d → ∃ x, ds[i]? = some x ∧ d = .tup [.int (j + i : Nat), x]
  | [], _, _, _, h => by simp [enumD] at h
  | x :: ds, j, 0, d, h => by simp [enumD] at h; subst h; exact ⟨x, rfl, rfl⟩
  | x :: ds, j, i + 1, d, h => by
    obtain ⟨y, h1, h2⟩ := enumD_get (ds := ds) (j := j + 1) (i := i) (d := d) (by simpa [enumD] using h)
    exact ⟨y, by simpa using h1, by rw [h2, Nat.add_assoc, Nat.add_comm 1 i]⟩
theorem enumD_len : ∀ {ds : List D} {j : Nat}, (enumD j ds).length = ds.length
  | [], _ => rfl
  | _ :: ds, j => by simp [enumD, enumD_len (ds := ds)]
theorem ite_ok {K : PySem.W.Frag} {F B : Hp} {a : Addr} {vs : List V} {ds : List D} (hp : Pr (Al K ct F B n) ds vs) (keep : ∀ F' H', Same F F' → Same B H' → Same F' H' → SqL K H' a vs) : ItOk K ct F B (n + 1) (Ite K a) (enumD 0 ds) := by
  intro i F' H' s1 s2 s3
  have hs : SqL K H' a vs := keep F' H' s1 s2 s3
  refine ⟨fun d hd => ?_, fun hl => ⟨vs, hs, by rw [← hp.length]; rw [enumD_len] at hl; exact hl⟩⟩
  obtain ⟨x, hx, rfl⟩ := enumD_get hd
  obtain ⟨v, hv, l⟩ := hp.get' hx
  refine ⟨⟨vs, v, hs, hv⟩, fun z H2 y => ?_⟩
  obtain ⟨r, y', hr, rfl, rfl, y⟩ := y
  have := y vs hs
  rw [hv] at this
  cases this
  refine ⟨_, Ext.newS s3 hr _, .inr (.tup upd_same (.cons (Al.of ?_) (.cons (l.mono (s1.trans (same_new (s3.free hr) _)) (.refl _)) .nil)))⟩
  rw [Nat.zero_add]
  exact .int _
theorem xi_enum {fs : Env → Option (List D)} {elts : List Expr} {kt : Nat} {pt pp : Pos} (hm : X.mg "enumerate" = none) (ha : XA X ct ms [a] [0] fs) (hg : Gl X "enumerate" := by rfl) (hs : starEach [a] X.env = [(false, eval a X.env)] := by rfl) :
    XI X ct ms 1 (.Tuple elts kt pt) (.Call (.Name "enumerate" pp) [a] [] pos) (fun ρ => (fs ρ).bind fun ds => match ds with | [.lst xs] => some (enumD 0 xs) | _ => none) := by
  obtain ⟨t, pt, _, qt⟩ := ha
  refine ⟨_, pi_enum hg hm pt hs, fun F0 B F H ρ σ ds R rs e w => ?_⟩
  obtain ⟨ds', h1, h2⟩ := bind1 e
  refine qt F0 B F H ρ σ _ _ rs h1 fun vs F' H' x l => ?_
  cases l with
  | cons h t =>
    cases t
    rename_i d v
    cases d with
    | lst xs =>
      cases h2
      obtain ⟨a, vs, rfl, ha, hp⟩ := Dt.lst_inv h
      exact ⟨a, rfl, ⟨vs, x.fh.seq ha⟩, w _ F' H' x (ite_ok (n := 0) hp.pr fun F2 H2 s1 s2 s3 => s3.seq (s1.seq ha))⟩
    | _ => cases h2
end
end L3

namespace L3
open PySem PySem.Spec L2
open PyProof.Rows hiding St
section
variable {X : Cx} {ct : Nat → Addr} {ms : List Mo} {rk n m k : Nat} {st : Stmt} {rest : List Stmt} {a b c e tg : Expr} {f g h : EF} {p q : BF} {u w : SF} {pos : Pos}
theorem Ow.lst_inv {K : PySem.W.Frag} {F H : Hp} {ds : List D} {v : V} {fp : List Addr} (h : Ow K ct F H (k + 1) (.lst ds) v fp) : ∃ a vs fr, v = .ref a ∧ fp = a :: fr ∧ F a = none ∧ H a = some (.lst vs) ∧ OwL (Ow K ct F H k) ds vs fr := by
  rcases h with ⟨h, _⟩ | h
  · cases h
  · cases h with
    | lst h1 h2 h3 => exact ⟨_, _, _, rfl, rfl, h1, h2, h3⟩
theorem RS.change {K : PySem.W.Frag} {F0 B F H F' H' : Hp} {ρ : Env} {σ : St} {i : Nat} {d' : D} {v : V} {f1 fr fn : List Addr} {ad : Addr} {o : HO} (rs : RS K ct F0 B ms F H ρ σ) (hm : ms[i]? = some (.ow k)) (x : Ext F H F' H')
    (hσ : σ[i]? = some (some v)) (b1 : ∀ a ∈ f1, B a = none) (dj : ∀ a ∈ f1, a ∉ fr) (cf : ∀ a ∈ fr, F a = none ∧ ∃ o, H a = some o)
    (put : ∀ (F' H' : Hp) (d' : D) (v' : V) (f' : List Addr), Same F F' → Same B H' → Same F' H' → (∀ a o, B a = some o → F0 a = none → F' a = none) → (∀ a ∈ fr, H' a = H a ∧ F' a = none) → Ow K ct F' H' k d' v' f' → f'.Nodup → (∀ a ∈ f', a ∉ fr) → (∀ a ∈ f', B a = none) →
        RS K ct F0 B ms F' H' (ρ.set i (some d')) (σ.set i (some v')))
    (had : ad ∈ f1) (fad : F' ad = none) (o' : Ow K ct F' (upd H' ad o) k d' v fn) (nd : fn.Nodup) (hfn : ∀ a ∈ fn, a ∈ f1 ∨ H a = none) : RS K ct F0 B ms F' (upd H' ad o) (ρ.set i (some d')) σ := by
  have r := rs.ext x
  have hB : B ad = none := b1 ad had
  have res := put F' (upd H' ad o) d' v fn x.ff (fun z u h => by rw [upd_ne (fun e => by rw [e, hB] at h; cases h)]; exact r.bh _ _ h) (fun z u h => by rw [upd_ne (fun e => by rw [e, fad] at h; cases h)]; exact x.fh _ _ h) r.nf
    (fun z hz => by
      obtain ⟨hn, o, ho⟩ := cf z hz
      refine ⟨?_, x.nf z o ho hn⟩
      have ne : z ≠ ad := fun e => dj ad had (by rw [← e]; exact hz)
      rw [upd_ne ne]
      exact (x.hh _ _ ho).trans ho.symm) o' nd
    (fun z hz zr => by
      rcases hfn z hz with h | h
      · exact dj z h zr
      · obtain ⟨_, o, ho⟩ := cf z zr
        rw [h] at ho
        cases ho)
    (fun z hz => (hfn z hz).elim (b1 z) fun h => rs.bh.free h)
  have e : σ.set i (some v) = σ := by
    apply List.ext_getElem?
    intro j
    by_cases hj : i = j
    · subst hj
      rw [List.getElem?_set_self (by
        have := List.getElem?_eq_some_iff.mp hσ
        exact this.1), hσ]
    · rw [List.getElem?_set_ne hj]
  rw [e] at res
  exact res
def sApp (i : Nat) (f : EF) : SF := fun ρ => (eV i ρ).bind fun o => (f ρ).bind fun d => match o with
  | .lst ds => if ds.length < 16777216 then some (.nx (ρ.set i (some (.lst (ds ++ [d]))))) else none
  | _ => none
theorem xs_append (i : Nat) {x : Str} {p1 apos cpos : Pos} (hm : ms[i]? = some (.ow (k + 1))) (he : XO X ct ms k e f) (hN : X.N[i]? = some x := by rfl) (hv : Vis X.env.scope x := by first | exact Or.inl rfl | exact Or.inr (Or.inl rfl) | exact Or.inr (Or.inr rfl)) (hd : (x == ("__debug__" : Str)) = false := by decide)
    (hcd : (x == ("__classdict__" : Str)) = false := by decide) (hst : starEach [e] X.env = (false, eval e X.env) :: starEach [] X.env := by rfl)
    (hbase : attributeBase (.Name x p1) "append" X.env (eval (.Name x p1) X.env) = eval (.Name x p1) X.env := by rfl)
    (hfew : ((backTo cpos (starEach [e] X.env)).all (fun x => !x.1) && (backToKw cpos (keywordEach [] X.env)).all (fun x => x.1.isSome)
      && decide ([e].length + ([] : List Keyword).length + (if ([] : List Keyword).isEmpty then 0 else 1) < 30)) = true := by rfl)
    (hline : (apos.endLine == cpos.line) = true := by rfl) (hplain : (backTo cpos (starEach [] X.env)).any (·.1) = false := by rfl)
    (hsw : swapsWith (.Call (.Attribute (.Name x p1) "append" apos) [e] [] cpos) none pos.line X.env = pure false := by rfl) :
    XS X ct ms rk (.Expr (.Call (.Attribute (.Name x p1) "append" apos) [e] [] cpos) pos) (sApp i f) := by
  obtain ⟨t, pt, qt⟩ := he
  refine ⟨_, ps_expr (pe_bm PySem.F.plainAttrs_list PySem.F.slot_list_append PySem.F.type_list_append mt_append (pe_var hN hv hd hcd) (pa_cons pt pa_nil hst) hbase hfew hline hst hplain) hsw, fun F0 B F H ρ σ o E rs e z => ?_⟩
  obtain ⟨d1, d2, h1, h2, h3⟩ := bind2 e
  obtain ⟨f1, fr, n1, b1, dj, i4, cf, put⟩ := rs.put (F' := F) (H' := H) hm
  obtain ⟨v, hσ, ow⟩ := i4 d1 (join_some h1)
  refine ⟨v, hσ, ?_⟩
  cases d1 with
  | lst ds =>
    dsimp only at h3
    by_cases hz : ds.length < 16777216
    · rw [if_pos hz] at h3
      cases h3
      obtain ⟨ad, vs, fr1, rfl, rfl, hF, hH, ol⟩ := ow.lst_inv
      refine ⟨.inl ⟨rfl, _, SqL.of hH⟩, qt F0 B F H ρ σ d2 _ rs h2 fun v2 F' H' fp x1 o2 nd2 hf2 => ?_⟩
      have hA : H' ad = some (.lst vs) := x1.hh _ _ hH
      have fA : F' ad = none := x1.nf ad _ hH hF
      have nA : ∀ a ∈ fp, a ≠ ad := fun a hz e => by rw [e] at hz; rw [hf2 ad hz] at hH; cases hH
      have n1' := List.nodup_cons.mp n1
      refine ⟨ad, vs, v2, rfl, rfl, hA, by rw [← ol.length, sizeLine_eq]; exact hz, ?_⟩
      refine z σ F' _ (rs.change hm x1 hσ b1 dj cf put List.mem_cons_self fA (.inr (.lst fA upd_same ((ol.mono fun _ _ f' hi o' => ?_).append (.cons (f := fp) ?_ .nil)))) (fn := ad :: (fr1 ++ (fp ++ []))) ?_ ?_)
      · refine (o'.ext x1).frame (.refl _) fun a ha => ⟨upd_ne fun e => n1'.1 (e ▸ hi a ha), ((o'.ext x1).cells a ha).1⟩
      · exact o2.frame (.refl _) fun a ha => ⟨upd_ne (nA a ha), (o2.cells a ha).1⟩
      · rw [List.append_nil]
        refine List.nodup_cons.mpr ⟨fun hz => ?_, List.nodup_append.mpr ⟨n1'.2, nd2, fun a ha b hb e => ?_⟩⟩
        · rcases List.mem_append.mp hz with hz | hz
          · exact n1'.1 hz
          · exact nA ad hz rfl
        · subst e
          obtain ⟨_, o, ho⟩ := OwL.cellsOf ol a ha
          rw [hf2 a hb] at ho
          cases ho
      · intro a ha
        rw [List.append_nil] at ha
        rcases List.mem_cons.mp ha with rfl | ha
        · exact .inl List.mem_cons_self
        · rcases List.mem_append.mp ha with ha | ha
          · exact .inl (List.mem_cons_of_mem _ ha)
          · exact .inr (hf2 a ha)
    · rw [if_neg hz] at h3; cases h3
  | _ => cases h3
end
end L3

namespace L3
open PySem PySem.Spec L2
open PyProof.Rows hiding St
section
variable {X : Cx} {ct : Nat → Addr} {ms : List Mo} {rk n m k : Nat} {st : Stmt} {rest : List Stmt} {a b c e tg : Expr} {f g h : EF} {p q : BF} {u w : SF} {pos : Pos} {K : PySem.W.Frag}
def rCatR (K : PySem.W.Frag) : R2 := fun x y H Q => ∃ l b xs zs, x = .ref l ∧ y = .ref b ∧ SqL K H l xs ∧ SqL K H b zs ∧ xs.length + zs.length ≤ sizeLine ∧ ∀ p, H p = none → Q (.ref p) (upd H p (.lst (xs ++ zs)))
theorem op_catR : OpR X (binaryOp .Add) (rCatR X.K) := by
  intro pins s σ H x y v u Q I rx ry h
  obtain ⟨l, b, xs, zs, rfl, rfl, hH, hB, hz, q⟩ := h
  cases rx
  cases ry
  obtain ⟨its, r, ⟨⟨cls, dd, data, sl⟩, n, e, c1, c2, c3⟩, z⟩ := I.list hH
  obtain ⟨its2, r2, ⟨⟨cls2, dd2, data2, sl2⟩, n2, e2, c4, c5, c6⟩, z2⟩ := I.list hB
  simp only at c1 c3 c4 c6
  subst c1 c3 c4 c6
  have hl := r.length
  have hl2 := r2.length
  refine concat_meets ⟨_, e, rfl⟩ ⟨_, e2, rfl⟩ noFill_list_add seq_list_add PySem.F.slot_list_add PySem.F.entry_list_add (PySem.F.args_list_add_2 _ _) (list_addW l b its.toArray its2.toArray n n2 dd dd2 sl sl2 (by rw [List.size_toArray, List.size_toArray]; omega)) ⟨e, e2, ?_⟩
  have ea : its.toArray ++ its2.toArray = (its ++ its2).toArray := by simp
  rw [ea]
  exact ⟨.ref _, _, I.lnew (t' := s.toks) (r.append r2) (by rw [List.length_append]; omega), rfl, q _ I.fresh⟩
def rAddS : R2 := fun x y H Q => ∃ i j, x = .str i ∧ y = .str j ∧ i.length + j.length ≤ sizeLine ∧ Q (.str (i ++ j)) H
def rAdd (K : PySem.W.Frag) : R2 := fun x y H Q => rI0 (fun i j => .int (i + j)) x y H Q ∨ rAddS x y H Q ∨ rCatR K x y H Q ∨ rCatT K x y H Q
theorem op_addA : OpR X (binaryOp .Add) (rAdd X.K) := OpR.or op_add (OpR.or op_add_str (OpR.or op_catR op_catT))
def addD : D → D → Option D
  | .int i, .int j => some (.int (i + j))
  | .str x, .str y => if x.length + y.length ≤ 16777216 then some (.str (x ++ y)) else none
  | .lst xs, .lst ys => if xs.length + ys.length ≤ 16777216 then some (.lst (xs ++ ys)) else none
  | .tup xs, .tup ys => if xs.isEmpty = false ∧ ys.isEmpty = false ∧ xs.length + ys.length ≤ 1000000 then some (.tup (xs ++ ys)) else none
  | _, _ => none
theorem Pr.ow0 {F G H : Hp} {ds : List D} {vs : List V} (h : Pr (Al K ct F G 0) ds vs) : OwL (Ow K ct F H 0) ds vs [] := OwL.ofPr (h.mono fun _ _ q => ⟨q, rfl⟩)
theorem Al.lst1 {F G : Hp} {ds : List D} {v : V} (hn : n ≤ 1) (h : Al K ct F G n (.lst ds) v) (s : Same F G) : ∃ a vs, v = .ref a ∧ SqL K G a vs ∧ Pr (Al K ct F G 0) ds vs := by
  obtain ⟨a, vs, e, h1, h2⟩ := h.lst s
  have : n - 1 = 0 := by omega
  rw [this] at h2
  exact ⟨a, vs, e, h1, h2⟩
theorem Al.tup1 {F G : Hp} {ds : List D} {v : V} (hn : n ≤ 1) (h : Al K ct F G n (.tup ds) v) (s : Same F G) : ∃ a vs, v = .ref a ∧ G a = some (.tup vs) ∧ Pr (Al K ct F G 0) ds vs := by
  obtain ⟨a, vs, e, h1, h2⟩ := h.tup s
  have : n - 1 = 0 := by omega
  rw [this] at h2
  exact ⟨a, vs, e, h1, h2⟩
theorem new_own {F H : Hp} {ds : List D} {vs : List V} {Q : VK} (s : Same F H) (hp : Pr (Al K ct F H 0) ds vs) (w : ∀ v F' H' fp, Ext F H F' H' → Ow K ct F' H' 1 (.lst ds) v fp → fp.Nodup → (∀ a ∈ fp, H a = none) → Q v H') : ∀ p, H p = none → Q (.ref p) (upd H p (.lst vs)) := fun p h0 => by
  obtain ⟨o, nd⟩ := new_lst s (hp.ow0 (H := H)) h0
  exact w _ F _ [p] (Ext.newO s h0 _) o (nd List.nodup_nil) fun a z => by rw [List.mem_singleton] at z; subst z; exact h0
theorem op2_add (hn : n ≤ 1) (hm : m ≤ 1) : Op2O K ct n m 1 (rAdd K) addD := by
  intro F H x y d1 d2 d Q s l1 l2 e w
  have ws : ∀ d v, d.sc = true → Dt K ct F d v → (∀ v F' H' fp, Ext F H F' H' → Ow K ct F' H' 1 d v fp → fp.Nodup → (∀ a ∈ fp, H a = none) → Q v H') → Q v H := fun d v hs hd w => w v F H [] (.refl s) (Ow.scal hd hs) List.nodup_nil fun a z => (by cases z)
  cases d1 with
  | int i =>
    cases d2 with
    | int j => cases e; exact .inl ⟨i, j, l1.int, l2.int, ws _ _ rfl (.int _) w⟩
    | _ => cases e
  | str i =>
    cases d2 with
    | str j =>
      unfold addD at e
      dsimp only at e
      by_cases hz : i.length + j.length ≤ 16777216
      · rw [if_pos hz] at e
        cases e
        exact .inr (.inl ⟨i, j, l1.str, l2.str, by rw [sizeLine_eq]; exact hz, ws _ _ rfl (.str _) w⟩)
      · rw [if_neg hz] at e; cases e
    | _ => cases e
  | lst xs =>
    cases d2 with
    | lst ys =>
      unfold addD at e
      dsimp only at e
      by_cases hz : xs.length + ys.length ≤ 16777216
      · rw [if_pos hz] at e
        cases e
        obtain ⟨a, vs, rfl, ha, hp⟩ := Al.lst1 hn l1 s
        obtain ⟨b, us, rfl, hb, hq⟩ := Al.lst1 hm l2 s
        exact .inr (.inr (.inl ⟨a, b, vs, us, rfl, rfl, ha, hb, by rw [← hp.length, ← hq.length, sizeLine_eq]; exact hz, new_own s (hp.append hq) w⟩))
      · rw [if_neg hz] at e; cases e
    | _ => cases e
  | tup xs =>
    cases d2 with
    | tup ys =>
      unfold addD at e
      dsimp only at e
      by_cases hz : xs.isEmpty = false ∧ ys.isEmpty = false ∧ xs.length + ys.length ≤ 1000000
      · rw [if_pos hz] at e
        cases e
        obtain ⟨a, vs, rfl, ha, hp⟩ := Al.tup1 hn l1 s
        obtain ⟨b, us, rfl, hb, hq⟩ := Al.tup1 hm l2 s
        have hl := hp.length
        have hl2 := hq.length
        have e1 : vs ≠ [] := fun z => by
          rw [z] at hl
          have := List.length_eq_zero_iff.mp hl
          rw [this] at hz
          exact absurd hz.1 (by decide)
        have e2 : us ≠ [] := fun z => by
          rw [z] at hl2
          have := List.length_eq_zero_iff.mp hl2
          rw [this] at hz
          exact absurd hz.2.1 (by decide)
        refine .inr (.inr (.inr ⟨a, b, vs, us, rfl, rfl, SqT.of ha, SqT.of hb, e1, by rw [← hl, ← hl2, sizeLine_eq]; omega, fun z => absurd z e2, fun _ p h0 => ?_⟩))
        have x2 := Ext.newS s h0 (.tup (vs ++ us))
        exact w _ _ _ [] x2 (.inr (.tup upd_same (OwL.ofPr ((hp.append hq).mono fun _ _ q => ⟨Dt.mono x2.ff q, rfl⟩)))) List.nodup_nil fun a z => (by cases z)
      · rw [if_neg hz] at e; cases e
    | _ => cases e
  | _ => cases e
theorem op2_mulI : Op2 K ct n m k (rI CMulS fun i j => .int (i * j)) mulI := op2_mul
def negD : D → Option D
  | .int i => some (.int (-i))
  | _ => none
def listD : List D → Option D
  | [.lst ds] => some (.lst ds)
  | [.tup ds] => some (.lst ds)
  | _ => none
theorem opn_list (hn : n ≤ 1) : OpNO K ct [n] 1 (fun xs H Q => ∃ p ys, xs = [.ref p] ∧ (SqL K H p ys ∨ SqT K H p ys) ∧ ∀ l, H l = none → Q (.ref l) (upd H l (.lst ys))) listD := by
  intro F H vs ds d Q s l e w
  cases l with
  | cons h t =>
    cases t
    rename_i d1 v
    cases d1 with
    | lst xs =>
      cases e
      obtain ⟨a, us, rfl, ha, hp⟩ := Al.lst1 hn h s
      exact ⟨a, us, rfl, .inl ha, new_own s hp w⟩
    | tup xs =>
      cases e
      obtain ⟨a, us, rfl, ha, hp⟩ := Al.tup1 hn h s
      exact ⟨a, us, rfl, .inr (SqT.of ha), new_own s hp w⟩
    | _ => cases e
abbrev PF := Env → Option (Option Int)
def pNo : PF := fun _ => some none
def pInt (f : EF) : PF := fun ρ => (f ρ).bind fun d => match d with
  | .int i => some (some i)
  | _ => none
def XP (X : Cx) (ct : Nat → Addr) (ms : List Mo) (e : Option Expr) (f : PF) : Prop := ∃ t, PO X e t ∧ ∀ (F0 B F H : Hp) (ρ : Env) (σ : St) (o : Option Int) (Q : Option Int → Hp → Prop), RS X.K ct F0 B ms F H ρ σ → f ρ = some o → (∀ F' H', Ext F H F' H' → Q o H') → t σ H Q
theorem xp_no : XP X ct ms none pNo := ⟨_, po_none, fun F0 B F H ρ σ o Q rs e w => by cases e; exact w F H (.refl rs.fh)⟩
theorem xp_some (h : XE X ct ms n e f) : XP X ct ms (some e) (pInt f) := by
  obtain ⟨t, pt, qt⟩ := h
  refine ⟨_, po_some pt, fun F0 B F H ρ σ o Q rs e w => ?_⟩
  obtain ⟨d, h1, h2⟩ := bind1 e
  refine qt F0 B F H ρ σ d _ rs h1 fun v F' H' x l => ?_
  cases d with
  | int i => cases h2; exact ⟨i, l.int, w F' H' x⟩
  | _ => cases h2
def cutD (xs : List D) (lo hi : Option Int) : List D := (xs.drop (HT.sIx xs.length 0 lo)).take (HT.sIx xs.length xs.length hi - HT.sIx xs.length 0 lo)
def sliceD (d : D) (lo hi : Option Int) : Option D := match d with
  | .lst xs => some (.lst (cutD xs lo hi))
  | _ => none
def intB : List D → Option D
  | [.int i] => some (.int i)
  | [.bl b] => some (.int (if b then 1 else 0))
  | _ => none
theorem opn_int : OpN K ct [n] k (fun xs H Q => (∃ i, xs = [.int i] ∧ Q (.int i) H) ∨ ∃ b, xs = [.bl b] ∧ Q (.int (if b then 1 else 0)) H) intB := by
  intro F H vs ds d Q s l e w
  cases l with
  | cons h t =>
    cases t
    rename_i d1 v
    cases d1 with
    | int i => cases e; exact .inl ⟨i, by rw [h.int], w _ F H (.refl s) (Al.of (.int _))⟩
    | bl i => cases e; exact .inr ⟨i, by rw [h.bl], w _ F H (.refl s) (Al.of (.int _))⟩
    | _ => cases e
def absD : List D → Option D
  | [.int i] => some (.int (if i < 0 then -i else i))
  | _ => none
def ii (g : Int → Int → D) : List D → Option D
  | [.int i, .int j] => some (g i j)
  | _ => none
def max2D : List D → Option D := ii fun i j => .int (if j > i then j else i)
def min2D : List D → Option D := ii fun i j => .int (if j < i then j else i)
def sPar (i j : Nat) (fs : Env → Option (List D)) : SF := fun ρ => (fs ρ).bind fun ds => match ds with
  | [x, y] => some (.nx ((ρ.set i (some x)).set j (some y)))
  | _ => none
def sAsg (g : D → Env → Option Env) (f : EF) : SF := fun ρ => (f ρ).bind fun d => (g d ρ).bind fun ρ' => some (.nx ρ')
end
end L3

namespace L3
open PySem PySem.Spec L2
open PyProof.Rows hiding St
def modesOk : List Nat → List Mo → Bool
  | [], _ => true
  | n :: ns, .al m :: ms => decide (n = m) && modesOk ns ms
  | n :: ns, .ow m :: ms => decide (n = 0) && decide (m = 0) && modesOk ns ms
  | _, _ => false
theorem modes_of : ∀ {pm : List Nat} {ms : List Mo}, modesOk pm ms = true → ∀ (i n : Nat), pm[i]? = some n → ms[i]? = some (Mo.al n) ∨ (n = 0 ∧ ms[i]? = some (Mo.ow 0))
  | [], _, _, i, n, e => by simp at e
  | x :: ns, .al m :: ms, h, i, n, e => by
    simp only [modesOk, Bool.and_eq_true, decide_eq_true_eq] at h
    cases i with
    | zero => simp at e; subst e; rw [h.1]; exact .inl rfl
    | succ i => simpa using modes_of h.2 i n (by simpa using e)
  | x :: ns, .ow m :: ms, h, i, n, e => by
    simp only [modesOk, Bool.and_eq_true, decide_eq_true_eq] at h
    cases i with
    | zero => simp at e; subst e; rw [h.1.1, h.1.2]; exact .inr ⟨rfl, rfl⟩
    | succ i => simpa using modes_of h.2 i n (by simpa using e)
  | _ :: _, [], h, _, _, _ => by simp [modesOk] at h
  | _ :: _, .px _ :: _, h, _, _, _ => by simp [modesOk] at h
  | _ :: _, .so _ :: _, h, _, _, _ => by simp [modesOk] at h
def blkOk (X : Cx) (scope : Scope) (N : List Str) (own : Nat) (cap : List Nat) : Bool :=
  decide (scope.kind = .function) && scope.names.all (fun x => (decide (x.2 ≠ .cell) || decide (scope.names.lookup x.1 = some .cell)) && (decide (x.2 ≠ .local) || decide (scope.names.lookup x.1 = some .local)) && (decide (x.2 ≠ .free) || (decide (X.env.kindOf x.1 = some .cell) || decide (X.env.kindOf x.1 = some .free)))) &&
  decide (N.length = own + cap.length) && (List.range cap.length).all fun j => match N[own + j]?, cap[j]? with
    | some x, some i => decide (X.N[i]? = some x) && decide (scope.names.lookup x = some .free)
    | _, _ => false
theorem blk_of {X : Cx} {scope : Scope} {N : List Str} {own : Nat} {cap : List Nat} (h : blkOk X scope N own cap = true) : BlkOk X scope N own cap := by
  unfold blkOk at h
  simp only [Bool.and_eq_true, decide_eq_true_eq, List.all_eq_true, Bool.or_eq_true] at h
  obtain ⟨⟨⟨h1, h2⟩, h3⟩, h4⟩ := h
  refine ⟨h1, fun x hx hl => ((h2 x hx).1.1).elim (fun z => absurd hl z) id, fun x hx hl => ((h2 x hx).1.2).elim (fun z => absurd hl z) id, fun x hx hf => ((h2 x hx).2).elim (fun z => absurd hf z) id, h3, fun j x hj => ?_⟩
  have hjl : j < cap.length := by
    have := (List.getElem?_eq_some_iff.mp hj).1
    omega
  have q := h4 j (List.mem_range.mpr hjl)
  rw [hj] at q
  have hc : cap[j]? = some cap[j] := by simp [hjl]
  rw [hc] at q
  simp only [Bool.and_eq_true, decide_eq_true_eq] at q
  exact ⟨_, hc, q.1, q.2⟩
def tyD : D → Option String
  | .non => some "NoneType"
  | .bl _ => some "bool"
  | .int _ => some "int"
  | .str _ => some "str"
  | .lst _ => some "list"
  | .tup _ => some "tuple"
  | .dK _ _ => some "dict"
  | _ => none
def tyL (K : PySem.W.Frag) (H : Hp) (v : V) (t : String) : Prop := TyOf K H v (.type t) ∨ (t = "list" ∧ ∃ a xs, v = .ref a ∧ SqL K H a xs)
theorem Al.ty {K : PySem.W.Frag} {ct : Nat → Addr} {F H : Hp} {n : Nat} {d : D} {v : V} {t : String} (s : Same F H) (h : Al K ct F H n d v) (e : tyD d = some t) : tyL K H v t := by
  cases d with
  | non => cases e; rw [h.non]; exact .inl .non
  | bl b => cases e; rw [h.bl]; exact .inl (.bl b)
  | int b => cases e; rw [h.int]; exact .inl (.int b)
  | str b => cases e; rw [h.str]; exact .inl (.str b)
  | lst xs =>
    cases e
    obtain ⟨a, vs, rfl, ha, _⟩ := h.lst s
    exact .inr ⟨rfl, a, vs, rfl, ha⟩
  | tup xs =>
    cases e
    obtain ⟨a, vs, rfl, ha, _⟩ := h.tup s
    exact .inl (.tup ha)
  | dK ks xs =>
    cases e
    obtain ⟨a, vs, rfl, ha, _⟩ := h.dK s
    exact .inl (.dK ha)
  | _ => cases e
theorem call_isiA {X : Cx} : CallR X (.builtin "isinstance") (fun xs H Q => ∃ x c t b, xs = [x, .ty c] ∧ tyL X.K H x t ∧ PySem.W.kitOne X.K (.type t) (.type c) = some b ∧ Q (.bl b) H) := by
  intro pins s σ H xs us Q I r h
  obtain ⟨x, c, t, b, rfl, ty, e, q⟩ := h
  rcases ty with ty | ⟨rfl, a, ys, rfl, hq⟩
  · exact call_isi pins s σ H _ us Q I r ⟨x, c, _, b, rfl, ty, e, q⟩
  · obtain ⟨u, w', rfl, ru, rw'⟩ := vals2 r
    cases (show w' = Value.type c from rw')
    cases (show u = Value.ref a from ru)
    obtain ⟨its, rv, ⟨o, n, h1, h2, _⟩, _⟩ := I.list hq
    exact PySem.W.kia_one PySem.W.kitx_list I.kIn ⟨o, h1, h2⟩ e (fun z => nomatch z) fun tk => ⟨.bl b, H, I.tok tk, rfl, q⟩
def isiT (t c : String) : Bool := t == c || (t == "bool" && c == "int")
theorem kit_one {K : PySem.W.Frag} : ∀ t ∈ (["NoneType", "bool", "int", "str", "list", "tuple", "dict"] : List String), ∀ c ∈ (["bool", "int", "str", "list", "tuple", "dict"] : List String), PySem.W.kitOne K (.type t) (.type c) = some (isiT t c) := by
  intro t ht c hc
  simp only [List.mem_cons, List.not_mem_nil, or_false] at ht hc
  rcases ht with rfl | rfl | rfl | rfl | rfl | rfl | rfl <;> rcases hc with rfl | rfl | rfl | rfl | rfl | rfl <;> rfl
theorem tyD_mem {d : D} {t : String} (e : tyD d = some t) : t ∈ (["NoneType", "bool", "int", "str", "list", "tuple", "dict"] : List String) := by
  cases d <;> simp [tyD] at e <;> subst e <;> decide
section
variable {X : Cx} {ct : Nat → Addr} {ms : List Mo} {rk n m k : Nat} {a b c e tg : Expr} {f g h : EF} {pos : Pos}
def isiD (c : String) (d : D) : Option D := (tyD d).bind fun t => some (.bl (isiT t c))
theorem xe_isi {c : String} {pp p2 : Pos} (hc : c ∈ (["bool", "int", "str", "list", "tuple", "dict"] : List String)) (hm : X.mg "isinstance" = none) (hm2 : X.mg c = none) (hb : bootBuiltins c = some (.type c)) (he : XE X ct ms n e f) (hg : Gl X "isinstance" := by rfl) (hg2 : Gl X c := by rfl) (hn2 : Str.ofString c ≠ "__name__" := by decide) (hd2 : (Str.ofString c == ("__debug__" : Str)) = false := by decide)
    (hs1 : starEach [e, .Name c p2] X.env = (false, eval e X.env) :: starEach [.Name c p2] X.env := by rfl) (hs2 : starEach [.Name c p2] X.env = (false, eval (.Name c p2) X.env) :: starEach [] X.env := by rfl) (hpl : (backTo pos (starEach [.Name c p2] X.env)).any (·.1) = false := by rfl) :
    XE X ct ms k (.Call (.Name "isinstance" pp) [e, .Name c p2] [] pos) (e1 (isiD c) f) := by
  obtain ⟨t, pt, qt⟩ := he
  refine ⟨_, pe_callB call_isiA hg hm bt_isinstance (pa_cons pt (pa_cons (pe_bltn (v := .ty c) hg2 hm2 hb rfl hn2 hd2) pa_nil hs2) hs1) (by decide) (by decide) hs1 hpl, fun F0 B F H ρ σ d Q rs e w => ?_⟩
  obtain ⟨d1, h1, h2⟩ := bind1 e
  obtain ⟨ty, h3, h4⟩ := bind1 h2
  cases h4
  exact qt F0 B F H ρ σ d1 _ rs h1 fun v F' H' x l => ⟨v, c, ty, _, rfl, l.ty x.fh h3, kit_one _ (tyD_mem h3) _ hc, w _ F' H' x (Al.of (.bl _))⟩
end
end L3

namespace L3
open PySem PySem.Spec L2
open PyProof.Rows hiding St
def spLaw (K : PySem.W.Frag) : Sp := fun vs H Q _ => ∃ (a : Addr) (ns : List Int), vs = [.ref a] ∧ SqL K H a (ns.map V.int) ∧ ns.length ≤ 63 ∧ ∀ H', Q (.bl true) H'
theorem Dts.ints {K : PySem.W.Frag} {ct : Nat → Addr} {F : Hp} : ∀ ns : List Int, Dts K ct F (ns.map D.int) (ns.map V.int)
  | [] => .nil
  | n :: ns => .cons (.int n) (Dts.ints ns)
theorem law_ok {P : Program} {w : World} {K : PySem.W.Frag} {mg : Str → Option Value} {base : Heap} {k : Nat} {f : Addr} {fd : FuncData} {ps : List Str} {ct : Nat → Addr} {m : List D → Option D} (Fn : FnOk P w K mg base CX0 k f fd ps (LSp K ct [0] 0 m))
    (h : ∀ ns : List Int, ns.length ≤ 63 → m [.lst (ns.map .int)] = some (.bl true)) : FnOk P w K mg base CX0 k f fd ps (spLaw K) := by
  have to : ∀ vs H Q E, spLaw K vs H Q E → LSp K ct [0] 0 m vs H Q E := by
    rintro vs H Q E ⟨a, ns, rfl, hS, hl, q⟩
    refine ⟨H, [.lst (ns.map .int)], .bl true, .refl _, .cons (Dt.lst hS (Dts.ints ns)) .nil, h ns hl, fun v F' H' fp x o nd hf => ?_⟩
    have hv : v = .bl true := by
      have o : Dt K ct F' (.bl true) v ∧ fp = [] := o
      cases o.1
      rfl
    subst hv
    exact q H'
  exact ⟨fun vs H Q E z => Fn.len vs H Q E (to vs H Q E z), fun A outer s H args us vs Q E hr e0 hb hv z => Fn.run A outer s H args us vs Q E hr e0 hb hv (to vs H Q E z)⟩
theorem forD_inv' {g : D → Env → Option Env} {b : SF} (I : List D → Env → Prop) (all : List D) (st : ∀ pre d post ρ, all = pre ++ d :: post → I pre ρ → ∃ ρ1 ρ2, g d ρ = some ρ1 ∧ (b ρ1 = some (.nx ρ2) ∨ b ρ1 = some (.ct ρ2)) ∧ I (pre ++ [d]) ρ2) : ∀ (ds pre : List D) (ρ : Env), all = pre ++ ds → I pre ρ →
    ∃ ρ', forD g b ds ρ = some (.nx ρ') ∧ I all ρ'
  | [], pre, ρ, e, h => ⟨ρ, rfl, by rw [e, List.append_nil]; exact h⟩
  | d :: ds, pre, ρ, e, h => by
    obtain ⟨ρ1, ρ2, h1, h2, h3⟩ := st pre d ds ρ e h
    obtain ⟨ρ', h4, h5⟩ := forD_inv' I all st ds (pre ++ [d]) ρ2 (by rw [e]; simp) h3
    refine ⟨ρ', ?_, h5⟩
    show (g d ρ).bind _ = _
    rw [h1]
    show (b ρ1).bind _ = _
    rcases h2 with h2 | h2 <;> (rw [h2]; exact h4)
theorem forD_inv {g : D → Env → Option Env} {b : SF} (I : List D → Env → Prop) {ds : List D} {ρ : Env} (h : I [] ρ) (st : ∀ pre d post ρ, ds = pre ++ d :: post → I pre ρ → ∃ ρ1 ρ2, g d ρ = some ρ1 ∧ (b ρ1 = some (.nx ρ2) ∨ b ρ1 = some (.ct ρ2)) ∧ I (pre ++ [d]) ρ2) :
    ∃ ρ', forD g b ds ρ = some (.nx ρ') ∧ I ds ρ' := forD_inv' I ds st ds [] ρ rfl h
theorem at_mid {α : Type} {all pre post : List α} {d : α} (h : all = pre ++ d :: post) : all[pre.length]? = some d := by subst h; simp
theorem forD_upto {g : D → Env → Option Env} {b : SF} (I : Nat → Env → Prop) (lo : Int) : ∀ (n k : Nat) (ρ : Env), I k ρ →
    (∀ j ρ, k ≤ j → j < k + n → I j ρ → ∃ ρ1 ρ2, g (.int (lo + (j : Int))) ρ = some ρ1 ∧ (b ρ1 = some (.nx ρ2) ∨ b ρ1 = some (.ct ρ2)) ∧ I (j + 1) ρ2) →
    ∃ ρ', forD g b ((List.range' k n).map fun (t : Nat) => D.int (lo + (t : Int))) ρ = some (.nx ρ') ∧ I (k + n) ρ'
  | 0, k, ρ, h, _ => ⟨ρ, rfl, h⟩
  | n + 1, k, ρ, h, st => by
    obtain ⟨ρ1, ρ2, h1, h2, h3⟩ := st k ρ (Nat.le_refl _) (by omega) h
    obtain ⟨ρ', h4, h5⟩ := forD_upto I lo n (k + 1) ρ2 h3 fun j ρ hj hl hI => st j ρ (by omega) (by omega) hI
    refine ⟨ρ', ?_, by rw [show k + (n + 1) = k + 1 + n by omega]; exact h5⟩
    rw [List.range'_succ, List.map_cons]
    show (g _ ρ).bind _ = _
    rw [h1]
    show (b ρ1).bind _ = _
    rcases h2 with h2 | h2 <;> (rw [h2]; exact h4)
theorem forD_range {g : D → Env → Option Env} {b : SF} (I : Nat → Env → Prop) {lo : Int} {n : Nat} {ρ : Env} (h : I 0 ρ)
    (st : ∀ j ρ, j < n → I j ρ → ∃ ρ1 ρ2, g (.int (lo + (j : Int))) ρ = some ρ1 ∧ (b ρ1 = some (.nx ρ2) ∨ b ρ1 = some (.ct ρ2)) ∧ I (j + 1) ρ2) : ∃ ρ', forD g b (upto lo n) ρ = some (.nx ρ') ∧ I n ρ' := by
  obtain ⟨ρ', h1, h2⟩ := forD_upto (g := g) (b := b) I lo n 0 ρ h fun j ρ _ hj hI => st j ρ (by omega) hI
  rw [Nat.zero_add] at h2
  exact ⟨ρ', by unfold upto; rw [List.range_eq_range']; exact h1, h2⟩
theorem fdivD_lit {i j : Int} (h1 : 0 < j) (h2 : j < 4611686018427387904) : fdivD (.int i) (.int j) = some (.int (i / j)) := by unfold fdivD; simp [h1, h2]
theorem modD_pos {i j : Int} (h : 0 < j) : modD (.int i) (.int j) = some (.int (i % j)) := by unfold modD; simp [h]
theorem mulI_r {i j : Int} (h1 : -18446744073709551616 < j) (h2 : j < 18446744073709551616) : mulI (.int i) (.int j) = some (.int (i * j)) := by simp [mulI, i2c, mulOk, h1, h2]
theorem mulI_l {i j : Int} (h1 : -18446744073709551616 < i) (h2 : i < 18446744073709551616) : mulI (.int i) (.int j) = some (.int (i * j)) := by simp [mulI, i2c, mulOk, h1, h2]
theorem powD_lit {i j : Int} (h1 : 0 ≤ j) (h2 : j ≤ 1000000) (h3 : i.natAbs < 18446744073709551616) : powD (.int i) (.int j) = some (.int (i ^ j.toNat)) := by simp [powD, i2c, powOk, h1, h2, h3]
theorem shlD_lit {i j : Int} (h1 : 0 ≤ j) (h2 : j ≤ 1000000) (h3 : i.natAbs < 18446744073709551616) : shlD (.int i) (.int j) = some (.int (i * 2 ^ j.toNat)) := by simp [shlD, i2c, powOk, h1, h2, h3]
theorem shrD_lit {i j : Int} (h1 : 0 ≤ j) : shrD (.int i) (.int j) = some (.int (i / 2 ^ j.toNat)) := by simp [shrD, i2c, h1]
theorem addD_int (i j : Int) : addD (.int i) (.int j) = some (.int (i + j)) := rfl
theorem addD_lst {xs ys : List D} (h : xs.length + ys.length ≤ 16777216) : addD (.lst xs) (.lst ys) = some (.lst (xs ++ ys)) := by simp [addD, h]
theorem addD_str {x y : Str} (h : x.length + y.length ≤ 16777216) : addD (.str x) (.str y) = some (.str (x ++ y)) := by simp [addD, h]
theorem subD_int (i j : Int) : subD (.int i) (.int j) = some (.int (i - j)) := rfl
theorem ltD_int (i j : Int) : ltD (.int i) (.int j) = some (.bl (decide (i < j))) := rfl
theorem leD_int (i j : Int) : leD (.int i) (.int j) = some (.bl (decide (i ≤ j))) := rfl
theorem gtD_int (i j : Int) : gtD (.int i) (.int j) = some (.bl (decide (j < i))) := rfl
theorem geD_int (i j : Int) : geD (.int i) (.int j) = some (.bl (decide (j ≤ i))) := rfl
theorem negD_int (i : Int) : negD (.int i) = some (.int (-i)) := rfl
theorem lenD_lst (ds : List D) : lenD [.lst ds] = some (.int ds.length) := rfl
theorem lenD_tup (ds : List D) : lenD [.tup ds] = some (.int ds.length) := rfl
theorem absD_int (i : Int) : absD [.int i] = some (.int (if i < 0 then -i else i)) := rfl
theorem max2D_int (i j : Int) : max2D [.int i, .int j] = some (.int (if j > i then j else i)) := rfl
theorem min2D_int (i j : Int) : min2D [.int i, .int j] = some (.int (if j < i then j else i)) := rfl
theorem isD_non (neg : Bool) (d : D) : isD neg d .non = some (.bl (if neg then !d.isN else d.isN)) := by cases d <;> rfl
theorem isD_bl (neg b : Bool) (d : D) : isD neg d (.bl b) = some (.bl (if neg then !d.isB b else d.isB b)) := by cases d <;> rfl
theorem asB_bl (b : Bool) : asB (.bl b) = some b := rfl
theorem asL_lst (ds : List D) : asL (.lst ds) = some ds := rfl
theorem sliceD_lst (ds : List D) (l h : Option Int) : sliceD (.lst ds) l h = some (.lst (cutD ds l h)) := rfl
theorem rng1_int {j : Int} (h1 : -4611686018427387904 ≤ j) (h2 : j < 4611686018427387904) : rng1 [.int j] = some (upto 0 j.toNat) := by simp [rng1, h1, h2]
theorem atI_map {α : Type} (enc : α → D) {xs : List α} {i : Int} {j : Nat} {x : α} (hi : i = (j : Int) ∨ i = (j : Int) - xs.length) (h : xs[j]? = some x) : atI (xs.map enc) i = some (enc x) := by
  have hj := (List.getElem?_eq_some_iff.mp h).1
  unfold L2.atI L2.ixN
  rw [List.length_map]
  rcases hi with rfl | rfl
  · rw [if_pos (by omega), if_pos (by omega)]
    simp [h]
  · rw [if_neg (by omega), if_pos (by omega)]
    have : ((j : Int) - (xs.length : Int) + (xs.length : Int)).toNat = j := by omega
    simp [this, h]
theorem compD_map {α : Type} {g : D → Env → Option Env} {p : BF} {f : EF} {ρ0 : Env} (enc : α → D) (q : α → Bool) (h : α → D) : ∀ (xs : List α), (∀ x ∈ xs, ∃ ρ1, g (enc x) ρ0 = some ρ1 ∧ p ρ1 = some (q x) ∧ (q x = true → f ρ1 = some (h x))) → compD g p f ρ0 (xs.map enc) = some ((xs.filter q).map h)
  | [], _ => rfl
  | x :: xs, H => by
    obtain ⟨ρ1, h1, h2, h3⟩ := H x List.mem_cons_self
    have ih := compD_map enc q h xs fun y hy => H y (List.mem_cons_of_mem _ hy)
    show (g (enc x) ρ0).bind _ = _
    rw [h1]
    show (p ρ1).bind _ = _
    rw [h2]
    cases hq : q x with
    | false =>
      rw [Option.bind_some, if_neg Bool.false_ne_true, List.filter_cons_of_neg (by rw [hq]; exact Bool.false_ne_true)]
      exact ih
    | true =>
      rw [Option.bind_some, if_pos rfl, h3 hq, List.filter_cons_of_pos hq]
      show (compD g p f ρ0 (xs.map enc)).bind _ = _
      rw [ih]
      rfl
end L3

namespace L3
open PySem PySem.Spec L2
structure EncD (α : Type) [DecidableEq α] where
  enc : α → D
  py : α → PyData
  dep : Nat
  is : ∀ x, (enc x).py = some (py x)
  lay : ∀ x, (py x).canLay0 = true
  dp : ∀ x, (py x).depth ≤ dep
  eqv : ∀ x y, PyData.eqv (py x) (py y) = decide (x = y)
section
variable {α β γ δ ε : Type} [DecidableEq α] [DecidableEq β] [DecidableEq γ] [DecidableEq δ] [DecidableEq ε]
theorem EncD.eq (E : EncD α) (h : E.dep ≤ 60) {neg : Bool} (x y : α) : eqD neg (E.enc x) (E.enc y) = some (.bl (if neg then !decide (x = y) else decide (x = y))) := by
  have h1 : pyOk (E.py x) = true := by unfold pyOk; rw [E.lay x, decide_eq_true (Nat.le_trans (E.dp x) h)]; rfl
  have h2 : pyOk (E.py y) = true := by unfold pyOk; rw [E.lay y, decide_eq_true (Nat.le_trans (E.dp y) h)]; rfl
  unfold eqD
  rw [E.is x, E.is y]
  simp only [Option.bind_some]
  rw [if_pos ⟨h1, h2⟩, E.eqv]
def Ei : EncD Int := ⟨.int, .int, 0, fun _ => by simp [D.py], fun _ => rfl, fun _ => by simp [PyData.depth], fun x y => by show (x == y) = _; by_cases h : x = y <;> simp [h]⟩
def Eb : EncD Bool := ⟨.bl, .bool, 0, fun _ => by simp [D.py], fun _ => rfl, fun _ => by simp [PyData.depth], fun x y => by cases x <;> cases y <;> rfl⟩
def encO : Option Int → D
  | none => .non
  | some i => .int i
def pyO : Option Int → PyData
  | none => .none
  | some i => .int i
def Eo : EncD (Option Int) := ⟨encO, pyO, 0, fun x => by cases x <;> simp [encO, pyO, D.py], fun x => by cases x <;> rfl, fun x => by cases x <;> simp [pyO, PyData.depth], fun x y => by
  cases x <;> cases y
  · rfl
  · rfl
  · rfl
  · rename_i a b; show (a == b) = _; by_cases h : a = b <;> simp [h]⟩
theorem pys_map (E : EncD α) : ∀ xs : List α, D.pys (xs.map E.enc) = some (xs.map E.py)
  | [] => by simp [D.pys]
  | x :: xs => by simp [D.pys, E.is x, pys_map E xs]
theorem layAll_map (E : EncD α) : ∀ xs : List α, PyData.canLayAll0 (xs.map E.py) = true
  | [] => by simp [PyData.canLayAll0]
  | x :: xs => by simp [PyData.canLayAll0, E.lay x, layAll_map E xs]
theorem depAll_map (E : EncD α) : ∀ xs : List α, PyData.depthAll (xs.map E.py) ≤ E.dep
  | [] => by simp [PyData.depthAll]
  | x :: xs => by
    have := depAll_map E xs
    have := E.dp x
    simp only [List.map_cons, PyData.depthAll]
    omega
theorem eqvAll_map (E : EncD α) : ∀ xs ys : List α, PyData.eqvAll (xs.map E.py) (ys.map E.py) = decide (xs = ys)
  | [], [] => by simp [PyData.eqvAll]
  | [], _ :: _ => by simp [PyData.eqvAll]
  | _ :: _, [] => by simp [PyData.eqvAll]
  | x :: xs, y :: ys => by
    simp only [List.map_cons, PyData.eqvAll, E.eqv, eqvAll_map E xs ys]
    by_cases h : x = y <;> by_cases g : xs = ys <;> simp [h, g]
def El (E : EncD α) : EncD (List α) := ⟨fun xs => .lst (xs.map E.enc), fun xs => .list (xs.map E.py), E.dep + 1, fun xs => by simp [D.py, pys_map], fun xs => by simp [PyData.canLay0, layAll_map], fun xs => by have := depAll_map E xs; simp only [PyData.depth]; omega, fun xs ys => by simp only [PyData.eqv, eqvAll_map]⟩
def E2 (A : EncD α) (B : EncD β) : EncD (α × β) := ⟨fun p => .tup [A.enc p.1, B.enc p.2], fun p => .tuple [A.py p.1, B.py p.2], max A.dep B.dep + 1, fun p => by simp [D.py, D.pys, A.is, B.is], fun p => by simp [PyData.canLay0, PyData.canLayAll0, A.lay, B.lay],
  fun p => by have := A.dp p.1; have := B.dp p.2; simp only [PyData.depth, PyData.depthAll]; omega, fun p q => by
    simp only [PyData.eqv, PyData.eqvAll, A.eqv, B.eqv]
    obtain ⟨a, b⟩ := p
    obtain ⟨c, d⟩ := q
    by_cases h : a = c <;> by_cases g : b = d <;> simp [h, g]⟩
end
theorem eqD_int {neg : Bool} (a b : Int) : eqD neg (.int a) (.int b) = some (.bl (if neg then !decide (a = b) else decide (a = b))) := Ei.eq (by decide) a b
theorem eqD_bl {neg : Bool} (a b : Bool) : eqD neg (.bl a) (.bl b) = some (.bl (if neg then !decide (a = b) else decide (a = b))) := Eb.eq (by decide) a b
end L3

namespace L3
open PySem PySem.Spec L2
open PyProof.Rows hiding St
section
variable {X : Cx} {ct : Nat → Addr} {K : PySem.W.Frag} {n m k : Nat}
theorem IntsAre.of {ns : List Int} {us : List Value} (h : Vals (ns.map V.int) us) : IntsAre us ns := intsAre_of h
theorem call_maxL (hc : X.calm = true) : CallR X (.builtin "max") (fun xs H Q => ∃ (a : Addr) (ns : List Int), xs = [.ref a] ∧ SqL X.K H a (ns.map V.int) ∧ ns ≠ [] ∧ ∀ M, M ∈ ns → (∀ z ∈ ns, z ≤ M) → Q (.int M) H) := by
  intro pins s σ H xs us Q I r h
  obtain ⟨a, ns, rfl, hq, hne, q⟩ := h
  obtain ⟨u, rfl, ru⟩ := r.one
  cases (show u = Value.ref a from ru)
  obtain ⟨its, rv, pl, hz⟩ := I.list hq
  have hi := IntsAre.of rv
  obtain ⟨ys, e⟩ := hi.allInts.items
  have hns : ns = ys.toList.map (·.1) := by rw [← hi.numsOf, ← nums_intItems, ← e]
  have hsz : 0 < ys.size := by
    have h3 : 0 < ns.length := List.length_pos_iff.mpr hne
    rw [hns, List.length_map, Array.length_toList] at h3; exact h3
  have hl' : s.heap.IsList a (intItems ys) := e ▸ pl.isList
  refine max_intList (I.ok.hd hc) hl' hsz fun v h' tk hv hk => ?_
  obtain ⟨t, rfl⟩ := intItems_at hv
  obtain ⟨h1, h2⟩ := argBest_gt (numAt ys) (ys.size - 1)
  refine ⟨.int (numAt ys (argBest (fun i j => decide (numAt ys i > numAt ys j)) (ys.size - 1))), H, I.kept (t' := tk) hk, ⟨_, rfl⟩, q _ ?_ fun z hz => ?_⟩
  · rw [hns, numAt_eq]; exact getD_mem (by rw [List.length_map, Array.length_toList]; omega)
  · rw [hns] at hz
    obtain ⟨j, hj, rfl⟩ := mem_getD hz
    rw [List.length_map, Array.length_toList] at hj
    rw [← numAt_eq]; exact h2 j (by omega)
def intsD : List D → Option (List Int)
  | [] => some []
  | .int i :: ds => (intsD ds).bind fun ns => some (i :: ns)
  | _ => none
theorem intsD_some : ∀ {ds : List D} {ns : List Int}, intsD ds = some ns → ds = ns.map .int
  | [], _, e => by cases e; rfl
  | d :: ds, ns, e => by
    cases d with
    | int i =>
      obtain ⟨ms, h1, h2⟩ := bind1 (show (intsD ds).bind _ = _ from e)
      cases h2
      rw [intsD_some h1]; rfl
    | _ => cases e
theorem intsD_map : ∀ ns : List Int, intsD (ns.map .int) = some ns
  | [] => rfl
  | n :: ns => by show (intsD (ns.map .int)).bind _ = _; rw [intsD_map ns]; rfl
theorem Pr.intV {F G : Hp} : ∀ {ns : List Int} {vs : List V}, Pr (Al K ct F G n) (ns.map .int) vs → vs = ns.map V.int
  | [], _, .nil => rfl
  | i :: ns, _, .cons h t => by rw [Pr.intV t, h.int]; rfl
def maxI : List Int → Option Int
  | [] => none
  | x :: xs => some (xs.foldl max x)
theorem foldl_max : ∀ (xs : List Int) (x : Int), (xs.foldl max x = x ∨ xs.foldl max x ∈ xs) ∧ x ≤ xs.foldl max x ∧ ∀ z ∈ xs, z ≤ xs.foldl max x
  | [], x => ⟨.inl rfl, Int.le_refl _, fun z h => by cases h⟩
  | y :: xs, x => by
    obtain ⟨h1, h2, h3⟩ := foldl_max xs (max x y)
    refine ⟨?_, by show x ≤ xs.foldl max (max x y); omega, fun z hz => ?_⟩
    · rcases h1 with h1 | h1
      · show xs.foldl max (max x y) = x ∨ xs.foldl max (max x y) ∈ y :: xs
        rw [h1]
        rcases Int.le_total x y with h | h
        · rw [Int.max_eq_right h]; exact .inr List.mem_cons_self
        · rw [Int.max_eq_left h]; exact .inl rfl
      · exact .inr (List.mem_cons_of_mem _ h1)
    · rcases List.mem_cons.mp hz with rfl | hz
      · show z ≤ xs.foldl max (max x z); omega
      · exact h3 z hz
theorem maxI_mem {ns : List Int} {M : Int} (h : maxI ns = some M) : M ∈ ns ∧ ∀ z ∈ ns, z ≤ M := by
  cases ns with
  | nil => cases h
  | cons x xs =>
    cases h
    obtain ⟨h1, h2, h3⟩ := foldl_max xs x
    refine ⟨?_, fun z hz => ?_⟩
    · rcases h1 with h1 | h1
      · rw [h1]; exact List.mem_cons_self
      · exact List.mem_cons_of_mem _ h1
    · rcases List.mem_cons.mp hz with rfl | hz
      · exact h2
      · exact h3 z hz
def sumD : List D → Option D
  | [.lst ds] => (intsD ds).bind fun ns => some (.int ns.sum)
  | _ => none
def maxD : List D → Option D
  | [.lst ds] => (intsD ds).bind fun ns => (maxI ns).bind fun M => some (.int M)
  | _ => none
theorem lst_ints {F H : Hp} {vs : List V} {ds : List D} {ns : List Int} (s : Same F H) (l : AlL K ct F H [n] [.lst ds] vs) (e : intsD ds = some ns) : ∃ a, vs = [.ref a] ∧ SqL K H a (ns.map V.int) := by
  cases l with
  | cons h t =>
    cases t
    obtain ⟨a, us, rfl, ha, hp⟩ := h.lst s
    have := intsD_some e
    subst this
    have := hp.intV
    subst this
    exact ⟨a, rfl, ha⟩
theorem opn_max : OpN K ct [n] k (fun xs H Q => ∃ (a : Addr) (ns : List Int), xs = [.ref a] ∧ SqL K H a (ns.map V.int) ∧ ns ≠ [] ∧ ∀ M, M ∈ ns → (∀ z ∈ ns, z ≤ M) → Q (.int M) H) maxD := by
  intro F H vs ds d Q s l e w
  match ds, l, e with
  | [.lst xs], l, e =>
    obtain ⟨ns, h1, h2⟩ := bind1 (show (intsD xs).bind _ = _ from e)
    obtain ⟨M, h3, h4⟩ := bind1 h2
    cases h4
    obtain ⟨a, rfl, ha⟩ := lst_ints s l h1
    obtain ⟨m1, m2⟩ := maxI_mem h3
    refine ⟨a, ns, rfl, ha, (fun z => by rw [z] at m1; cases m1), fun M' h5 h6 => ?_⟩
    have : M' = M := Int.le_antisymm (m2 M' h5) (h6 M m1)
    subst this
    exact w _ F H (.refl s) (Al.of (.int _))
end
end L3

namespace L3
open PySem PySem.Spec L2
open PyProof.Rows hiding St
section
variable {X : Cx} {ct : Nat → Addr} {ms : List Mo} {rk n m k : Nat} {a b c e tg : Expr} {f g h : EF} {u w : SF} {pos : Pos}
end
end L3

namespace L3
open PySem PySem.Spec L2
open PyProof.Rows hiding St
section
variable {X : Cx} {ct : Nat → Addr} {ms : List Mo} {rk n m k : Nat} {a b c e tg : Expr} {f g h : EF} {u w : SF} {pos : Pos} {x0 : Addr}
variable {kk : Nat} {fa : Addr} {fd : FuncData} {ps : List Str} {pm cs : List Nat} {mi : Nat → List D → Option D} {x : Str} {pp : Pos}
end
end L3

namespace L3
open PySem PySem.Spec L2
open PyProof.Rows hiding St
structure Dn2 (K : PySem.W.Frag) (mg : Str → Option Value) (x : Str) (st : Stmt) (ps : List Str) (f : Addr) (fd : FuncData) : Prop where
  fn : Fun2 K x x st f fd
  mgx : mg x = some (.ref f)
  bd : Binds K fd ps []
theorem fun2_mk {K : PySem.W.Frag} {x qual : Str} {st : Stmt} {f : Addr} {oc : Value} {od an : Option Addr} {osl : Array (Option Value)} {dV kV doc pm cdv ct : Value} (l : K.lookup f = some ⟨oc, od, .func (PySem.W.fnOf x qual (defArgs st) (defBody st) (defScope st) dV kV doc pm an cdv ct), osl⟩)
    (c : PySem.W.codeIn K cdv qual = true) (k : PySem.W.keepIn K (.ref f) = true) : Fun2 K x qual st f (PySem.W.fnOf x qual (defArgs st) (defBody st) (defScope st) dV kV doc pm an cdv ct) := ⟨⟨oc, od, dV, kV, doc, pm, an, cdv, ct, osl, rfl, l, c⟩, k⟩
end L3

namespace L3
open PySem PySem.Spec L2
open PyProof.Rows hiding St
section
variable {X : Cx} {ct : Nat → Addr} {ms : List Mo} {rk n m k : Nat} {st : Stmt} {rest : List Stmt} {a b c e tg : Expr} {f g h : EF} {p q : BF} {u w : SF} {pos : Pos}
end
end L3

namespace L3
open PySem PySem.Spec L2
open PyProof.Rows hiding St
section
variable {X : Cx} {ct : Nat → Addr} {ms : List Mo} {rk n m k : Nat} {st : Stmt} {rest : List Stmt} {a b c e tg : Expr} {f g h : EF} {p q : BF} {u w : SF} {pos : Pos}
end
end L3

namespace L3
open PySem PySem.Spec L2
section
variable {K : PySem.W.Frag} {ct : Nat → Addr} {n m k : Nat}
def itx (i : Int) : Str := ((toString i : String) : Str)
def strD : List D → Option D
  | [.int i] => if i.natAbs.log2 < 1920 then some (.str (itx i)) else none
  | _ => none
theorem opn_str : OpN K ct [n] k (fun xs H Q => ∃ i, xs = [.int i] ∧ i.natAbs.log2 < 1920 ∧ Q (.str (toString i)) H) strD := by
  intro F H vs ds d Q s l e w
  cases l with
  | cons h t =>
    cases t
    rename_i d1 v
    cases d1 with
    | int i =>
      unfold strD at e
      dsimp only at e
      by_cases hz : i.natAbs.log2 < 1920
      · rw [if_pos hz] at e
        cases e
        exact ⟨i, by rw [h.int], hz, w _ F H (.refl s) (Al.of (.str _))⟩
      · rw [if_neg hz] at e; cases e
    | _ => cases e
end
theorem strD_int {i : Int} (h : Sz 1900 i) : strD [.int i] = some (.str (itx i)) := by
  unfold strD
  dsimp only
  rw [if_pos]
  by_cases h0 : i.natAbs = 0
  · rw [h0]; decide
  · rw [Nat.log2_lt h0]
    exact Nat.lt_of_lt_of_le h (Nat.pow_le_pow_right (by decide) (by decide))
theorem ok_lit (s : String) : PyData.strOk (s : Str) = true := by
  unfold PyData.strOk
  rw [← Array.all_toList, List.all_eq_true]
  intro x hx
  rw [decide_eq_true_iff]
  show x < 0x110000
  rw [Str.ofString_eq_toList] at hx
  simp at hx
  obtain ⟨c, _, rfl⟩ := hx
  have h := c.valid
  rcases h with h | ⟨h1, h2⟩
  · have : c.val.toNat < 0xd800 := h
    show c.val.toNat < _
    omega
  · exact h2
theorem ok_int (i : Int) : PyData.strOk (itx i) = true := ok_lit _
theorem ok_app {x y : Str} (hx : PyData.strOk x = true) (hy : PyData.strOk y = true) : PyData.strOk (x ++ y) = true := by
  unfold PyData.strOk at *
  show (x.cps ++ y.cps).all _ = true
  rw [Array.all_append, hx, hy]; rfl
def Es : EncD {x : Str // PyData.strOk x = true} := ⟨fun x => .str x.1, fun x => .str x.1, 0, fun _ => by simp [D.py], fun x => by simp only [PyData.canLay0]; exact x.2, fun _ => by simp [PyData.depth], fun x y => by
  show (x.1 == y.1) = _
  by_cases h : x = y
  · subst h; simp
  · have : x.1 ≠ y.1 := fun z => h (Subtype.ext z)
    simp [h, this]⟩
theorem eqD_str {neg : Bool} {x y : Str} (hx : PyData.strOk x = true) (hy : PyData.strOk y = true) : eqD neg (.str x) (.str y) = some (.bl (if neg then !decide (x = y) else decide (x = y))) := by
  have := Es.eq (by decide) (neg := neg) ⟨x, hx⟩ ⟨y, hy⟩
  simpa [Es] using this
theorem int_len {i : Int} (h : Sz 1900 i) : (itx i).length ≤ 1921 := by
  refine PyProof.Rows.int_text_len_1921 ?_
  by_cases h0 : i.natAbs = 0
  · rw [h0]; decide
  · rw [Nat.log2_lt h0]
    exact Nat.lt_of_lt_of_le h (Nat.pow_le_pow_right (by decide) (by decide))
theorem len_app (x y : Str) : (x ++ y).length = x.length + y.length := by
  show (x.cps ++ y.cps).size = _
  rw [Array.size_append]; rfl
end L3

namespace PySem
section
variable {prog : Program} {w : World} {A : Around} {R : Result → Shared → Prop} {I : Addr} {fp wr : List Addr} {n : Nat} {P : Nat → Value → Prop} {St : Nat → Heap → Prop} {kw : List (Str × Value)}
end
section
variable {prog : Program} {w : World} {A : Around} {E : Value → Shared → Prop} {s : Shared}
end
end PySem

namespace L3
open PySem PySem.Spec L2
section
variable {X : Cx} {ct : Nat → Addr} {ms : List Mo} {e b : Expr} {f g : EF} {n m k : Nat}
end
end L3

namespace L3
open PySem PySem.Spec L2
open PyProof.Rows hiding St
section
variable {X : Cx} {ct : Nat → Addr} {ms : List Mo} {rk n m k : Nat} {a b c e o : Expr} {f g h : EF} {pos : Pos}
end
end L3

namespace L2
open PySem PyProof.Rows
theorem comp_run {X : Cx} {pins : List (Addr × Obj)} {σ : St} {H : Hp} {s : Shared} {QV : VK} {use : Option (Value → Sem Unit)} {Q0 : Value → Shared → Prop} {elt iter tg : Expr} {ifs : List Expr} {scope : Scope} {pos pos2 : Pos} {N : List Str} {own : Nat} {cap : List Nat} {wi : TI} {g : TG} {tt : TT} {te : TE} (B : BlkOk X scope N own cap) (hc : X.calm = true) (hi : PI X tg iter wi)
    (kg : keepsCaps own g)
    (hg : ∀ cl C fp s₀ H₀, PG (cxB X scope cl N C fp s₀ H₀) tg g) (ht : ∀ cl C fp s₀ H₀, PTs (cxB X scope cl N C fp s₀ H₀) ifs tt) (he : ∀ cl C fp s₀ H₀, PE (cxB X scope cl N C fp s₀ H₀) elt te)
    (hs : ∀ x, foldedSetIterable iter X.env x = pure x) (I : Inv X pins σ H s) (h : tComp wi own cap g tt te σ H QV)
    (fin : ∀ (D C : Addr) (H5 : Hp) (s6 : Shared) (r : Flow), QV (.ref D) H5 → Inv X pins σ H5 s6 → FpOk X pins H5 C → (∃ m, s6.heap.Ns C m) → compPost (model X.prog X.w) X.A X.xe use Q0 (.ref D) C (.ok r) s6) :
    wpAny (model X.prog X.w) X.A (comprehension (.ListComp elt [⟨tg, iter, ifs, 0⟩] scope pos) scope X.env pos2 (newList []) false (eval iter X.env) use) Q0 X.xe s := by
  obtain ⟨cl, hcl, c1, c2, _⟩ := closure_ex (env := X.env) scope.names [] (fun x hx hf => I.ok.has x.1 (B.free x hx hf)) (fun y c e => by simp at e)
  have hclos : closureFor scope X.env = pure cl := by
    have e : closureFor scope X.env = (forIn scope.names ([] : List (Str × Addr)) (fun (x : Str × NameKind) (cs : List (Str × Addr)) => if (x.2 == NameKind.free) = true then do let a ← cellOf X.env x.1; pure (ForInStep.yield ((x.1, a) :: cs)) else pure (ForInStep.yield cs)) >>= pure : Sem (List (Str × Addr))) := rfl
    rw [e, hcl]
    rfl
  refine wpAny_comprehension_free (use := use) rfl hs hclos B.kind B.locs (thn (hi pins s σ H _ I h) fun v s1 h1 => thn h1 fun itv s2 h2 => ?_)
  obtain ⟨it, fp, tn, J, H2, e, I2, T, st2, f2, W0⟩ := h2
  subst e
  obtain ⟨W, ⟨m0, w0⟩, turn⟩ := W0 s2.heap.objs.size (I2.hok.fresh (Nat.le_refl _))
  refine wpAny_newObj_type ?_
  have I3 : Inv X pins σ (upd H2 s2.heap.objs.size (.lst [])) { s2 with heap := s2.heap.push { cls := .type "list", data := .seq ([] : List Value).toArray } } := I2.lnew .nil (Nat.zero_le _)
  generalize hs3 : ({ s2 with heap := s2.heap.push { cls := .type "list", data := .seq ([] : List Value).toArray } } : Shared) = s3 at I3
  have k3 : ∀ b o, s2.heap.get? b = some o → s3.heap.get? b = some o := fun b o e => by rw [← hs3]; exact Heap.get?_push_of_some _ e
  have z3 : s3.heap.objs.size = s2.heap.objs.size + 1 := by rw [← hs3]; exact Heap.size_push _ _
  have hfo2 : ∀ b ∈ fp, b < s2.heap.objs.size := fun b hb => by
    obtain ⟨o, e, _⟩ := T.obj _ _ st2 b hb
    exact Heap.lt_size e
  have hne : ∀ b ∈ fp, b ≠ s2.heap.objs.size := fun b hb => Nat.ne_of_lt (hfo2 b hb)
  have f3 : ∀ b ∈ fp, FpOk X pins (upd H2 s2.heap.objs.size (.lst [])) b := fun b hb => ⟨by rw [upd_ne (hne b hb)]; exact (f2 b hb).1, (f2 b hb).2⟩
  have tn3 : tn 0 s3.heap := T.keep _ _ _ st2 fun b _ o e => k3 b o e
  show wpAny _ _ (newFunctionEnv scope X.env.globals cl [] X.env.qual none .none (some X.env)) _ _ _
  refine newEnv_cells fun h₁ kk hns₁ hcs₁ => ?_
  have IB := blk_start (t' := s3.toks) B I3 c1 c2 f3 (fun b hb => by rw [z3]; exact Nat.lt_succ_of_lt (hfo2 b hb)) hns₁ kk hcs₁
  generalize cellsFrom (s3.heap.objs.size + 1) scope.names cl = cl at IB ⊢
  generalize hs4 : ({ s3 with heap := h₁, toks := s3.toks } : Shared) = s4 at IB
  have tn4 : tn 0 s4.heap := T.keep _ _ _ tn3 fun b _ o e => by rw [← hs4]; exact kk b o e
  show codeAny (model X.prog X.w) X.A (.compStart (.ListComp elt [⟨tg, iter, ifs, 0⟩] scope pos) 0 (.ref it) (.ref s2.heap.objs.size) (compEnvC scope cl s3.heap.objs.size X.env))
      (compPost (model X.prog X.w) X.A X.xe use Q0 (.ref s2.heap.objs.size) s3.heap.objs.size) s4
  have stat : ∀ {H' : Hp}, (∀ b ∈ fp, H' b = none) → ∀ b ∈ fp, FpOk (cxB X scope cl N s3.heap.objs.size fp s3 (upd H2 s2.heap.objs.size (.lst []))) [] H' b := fun hn b hb =>
    ⟨hn b hb, Nat.ne_of_lt (by show b < s3.heap.objs.size; rw [z3]; exact Nat.lt_succ_of_lt (hfo2 b hb)), IB.ok.exfs b hb, .inl hb, fun x c e => (IB.ok.exf b hb).2 x c e, fun p hp => (nomatch hp)⟩
  have loop : codeAny (model X.prog X.w) X.A (.compLoop (.ListComp elt [⟨tg, iter, ifs, 0⟩] scope pos) 0 (.ref it) (.ref s2.heap.objs.size) (compEnvC scope cl s3.heap.objs.size X.env))
      (compPost (model X.prog X.w) X.A X.xe use Q0 (.ref s2.heap.objs.size) s3.heap.objs.size) s4 := by
    refine compLoop_any (fun n s' => ∃ i ys H', Inv (cxB X scope cl N s3.heap.objs.size fp s3 (upd H2 s2.heap.objs.size (.lst []))) [] (List.replicate own none ++ capsOf σ cap) H' s' ∧ tn i s'.heap ∧ (∀ b ∈ fp, H' b = none) ∧ W i n ys H') ?_ m0
      ⟨0, [], _, IB, tn4, fun b hb => (f3 b hb).1, w0⟩
    rintro n s5 ⟨i, ys, H5, I5, st5, fr5, w5⟩
    obtain ⟨hD, hgo⟩ := turn i n ys H5 w5
    rcases hgo with ⟨stop, qn⟩ | ⟨go, hlt, step⟩
    · refine thn (T.done (cxB X scope cl N s3.heap.objs.size fp s3 (upd H2 s2.heap.objs.size (.lst []))) rfl rfl rfl hc i [] s5 _ H5 (fun _ _ => False) I5 (stat fr5) st5 stop) fun r s6 hq9 => ?_
      obtain ⟨hr, I6⟩ := hq9
      subst hr
      obtain ⟨m, hm, _⟩ := id I6.loc
      refine fin s2.heap.objs.size s3.heap.objs.size H5 s6 _ qn ?_ (I3.fpOk (Nat.le_refl _) I6.free) ⟨m, hm⟩
      have sb : Heap.SameBut s3.heap.objs.size s6.heap s6.heap := ⟨rfl, fun _ _ => rfl⟩
      have U := I6.base
      have nC : ∀ b o, s3.heap.get? b = some o → b ≠ s3.heap.objs.size := fun b o e => Nat.ne_of_lt (Heap.lt_size e)
      have nT : ∀ b o, H5 b = some o → b ≠ s3.heap.objs.size := fun b o e z => by
        have q : H5 s3.heap.objs.size = none := I6.free
        rw [z, q] at e
        cases e
      refine I3.call' (ch := fp) I6.os ?_ (fun a o e => (I6.hok a o e).stay (fun b u hb q => sb.extBut b u ?_ q) (fun _ q => q) fun _ _ q => q) I6.bare (fun b hb => ⟨(f3 b hb).2.2.2.1, (f3 b hb).2.1, (f3 b hb).2.2.2.2.1, (f3 b hb).2.2.2.2.2⟩)
      · exact {
          keep := fun b o e z hb he => sb.extBut b o (nC b o e) (U.keep b o e z hb he)
          slot := fun b o e z hb he => by
            obtain ⟨sl, q⟩ := U.slot b o e z hb he
            exact ⟨sl, sb.extBut b _ (nC b o e) q⟩
          free := U.free
          there := fun b o e he => by
            obtain ⟨o', q⟩ := U.there b o e he
            exact ⟨o', sb.extBut b o' (nC b o e) q⟩
          tups := U.tups
          frzs := U.frzs
          tbls := U.tbls }
      · rcases hb with rfl | hb
        · exact nT _ _ e
        · exact nT _ _ hb
    · refine thn (T.item (cxB X scope cl N s3.heap.objs.size fp s3 (upd H2 s2.heap.objs.size (.lst []))) rfl rfl rfl hc i [] s5 _ H5 (fun _ _ => False) I5 (stat fr5) st5 go) fun r s6 hq9 => ?_
      obtain ⟨u, hr, h6⟩ := hq9
      subst hr
      refine thn h6 fun _ s7 hq9 => ?_
      obtain ⟨x, H7, I7, r7, y7, st7, fr7⟩ := hq9
      have I7' := I7.pinned (stat fr7) (T.obj _ _ st7)
      refine thn (hg cl s3.heap.objs.size fp s3 _ _ s7 _ H7 x u _ I7' r7 (kg _ _ _ _ (step x H7 y7))) fun _ s8 hq9 => ?_
      obtain ⟨σ8, H8, I8, q8, l8, p8⟩ := hq9
      have back : ∀ {H9 : Hp} {s9 : Shared}, Inv (cxB X scope cl N s3.heap.objs.size fp s3 (upd H2 s2.heap.objs.size (.lst []))) ([] ++ pinsAt fp s7.heap) σ8 H9 s9 →
          Inv (cxB X scope cl N s3.heap.objs.size fp s3 (upd H2 s2.heap.objs.size (.lst []))) [] (List.replicate own none ++ capsOf σ cap) H9 s9 ∧ tn (i + 1) s9.heap ∧ ∀ b ∈ fp, H9 b = none := fun {H9 s9} I9 => by
        refine ⟨(I9.unpinned).weak l8.symm (fun j v e => ?_), T.keep _ _ _ st7 fun b hb o e => (I9.pin (b, o) (List.mem_append_right _ (List.mem_append_right _ (mem_pinsAt hb e)))).1, fun b hb => ?_⟩
        · by_cases hj : j < own
          · rw [List.getElem?_append_left (by rw [List.length_replicate]; exact hj), List.getElem?_replicate, if_pos hj] at e
            cases e
          · rw [p8 j (by omega)]; exact e
        · obtain ⟨o, e, d⟩ := T.obj _ _ st7 b hb
          exact (I9.pin (b, o) (List.mem_append_right _ (List.mem_append_right _ (mem_pinsAt hb e)))).2.1
      refine thn (ht cl s3.heap.objs.size fp s3 _ _ s8 σ8 H8 _ I8 q8) fun ok s9 hq9 => ?_
      obtain ⟨H9, I9, q9⟩ := hq9
      cases ok with
      | false =>
        rw [if_neg Bool.false_ne_true]
        rw [if_neg Bool.false_ne_true] at q9
        obtain ⟨m', hm', w'⟩ := q9
        obtain ⟨b1, b2, b3⟩ := back I9
        exact ⟨m', hm', i + 1, ys, H9, b1, b2, b3, w'⟩
      | true =>
        rw [if_pos rfl]
        rw [if_pos rfl] at q9
        refine thn (he cl s3.heap.objs.size fp s3 _ _ s9 σ8 H9 _ I9 q9) fun uy s10 hq9 => ?_
        obtain ⟨y, H10, I10, r10, hD10, m', hm', w'⟩ := hq9
        refine thn (mt_append _ s10 σ8 H10 (.ref s2.heap.objs.size) [y] (.ref s2.heap.objs.size) [uy] (fun _ H11 => H11 = upd H10 s2.heap.objs.size (.lst (ys ++ [y]))) I10 rfl (.cons r10 .nil) ⟨_, ys, y, rfl, rfl, hD10, hlt, rfl⟩) fun _ s11 hq9 => ?_
        obtain ⟨_, H11, I11, _, e11⟩ := hq9
        subst e11
        obtain ⟨b1, b2, b3⟩ := back I11
        exact ⟨m', hm', i + 1, ys ++ [y], _, b1, b2, b3, w'⟩
  exact codeAny_compStart_list loop (T.self X.A 0 s4 _ _ tn4 loop)
theorem ps_compSet {X : Cx} {i : Nat} {x : Str} {pos' spos : Pos} {elt iter tg : Expr} {ifs : List Expr} {scope : Scope} {pos : Pos} {N : List Str} {own : Nat} {cap : List Nat} {wi : TI} {g : TG} {tt : TT} {te : TE} (B : BlkOk X scope N own cap) (hc : X.calm = true) (hi : PI X tg iter wi)
    (kg : keepsCaps own g)
    (hg : ∀ cl C fp s₀ H₀, PG (cxB X scope cl N C fp s₀ H₀) tg g) (ht : ∀ cl C fp s₀ H₀, PTs (cxB X scope cl N C fp s₀ H₀) ifs tt) (he : ∀ cl C fp s₀ H₀, PE (cxB X scope cl N C fp s₀ H₀) elt te)
    (hN : X.N.Nodup) (hi2 : X.N[i]? = some x) (hx : Loc X.env.scope x) (hsw : swapsWith (.ListComp elt [⟨tg, iter, ifs, 0⟩] scope pos) (some (.Name x pos')) spos.line X.env = pure true)
    (hs : ∀ x, foldedSetIterable iter X.env x = pure x := by intro _; rfl) (hf : X.fn x = true ∨ X.env.scope.names.lookup x = some .local := by first | exact .inl rfl | exact .inr rfl | assumption) :
    PS X (.Assign [.Name x pos'] (.ListComp elt [⟨tg, iter, ifs, 0⟩] scope pos) spos) (tAsg (tComp wi own cap g tt te) (gName i)) := by
  intro pins s σ H D I h
  rw [exec_Assign_Name_used _ _ _ _ hsw]
  refine wpAny_bind (wpAny_standAt (wpAny_bind ?_))
  show wpAny _ X.A (do let _ ← comprehension (.ListComp elt [⟨tg, iter, ifs, 0⟩] scope pos) scope X.env _ (newList []) false (eval iter X.env) (some (assign (.Name x pos') X.env))) _ _ s
  refine wpAny_bind (wpAny_mono (comp_run (use := some (assign (.Name x pos') X.env)) (Q0 := fun _ s' => ∃ σ' H', Inv X pins σ' H' s' ∧ D.nx σ' H') B hc hi kg hg ht he hs I h fun Da C H5 s6 r q I6 fo hm => ?_) (fun _ s' hq => wpAny_pure (wpAny_pure hq)) fun _ _ e => e)
  show wpAny _ X.A (assign (.Name x pos') X.env (.ref Da)) _ _ _
  refine wpAny_assign_Name (store_ok2 (v := .ref Da) I6 hN hi2 hx rfl (fun s7 I7 hsb => ?_) hf)
  obtain ⟨m, hm⟩ := hm
  obtain ⟨a, sb, ha⟩ := hsb
  obtain ⟨f0, f1, f2, f3, f4, f5⟩ := fo
  have hne : C ≠ a := by
    rcases ha with rfl | ha
    · exact f1
    · exact fun z => f4 x a ha z.symm
  refine ⟨m, hm.sameBut sb hne, fun h' sb' => ⟨_, H5, I7.turned (t' := s7.toks) (it := C) (fun b o hb e => sb'.extBut b o hb e) f0 f1 f3 f4 f5, q⟩⟩
end L2

namespace L3
open PySem PySem.Spec L2
open PyProof.Rows hiding St
section
variable {X : Cx} {ct : Nat → Addr} {ms : List Mo} {rk n m k : Nat} {a b c e o : Expr} {f g h : EF} {pos : Pos}
theorem xs_compSet {om : List Mo} {elt iter tg : Expr} {ifs : List Expr} {scope : Scope} {N : List Str} {own : Nat} {cap : List Nat} {fi : Env → Option (List D)} {gg : D → Env → Option Env} {p : BF} {i : Nat} {x : Str} {pos' spos : Pos}
    (hm : ms[i]? = some (.ow k)) (hN : X.N.Nodup) (hi2 : X.N[i]? = some x) (hx : Loc X.env.scope x)
    (B : BlkOk X scope N own cap) (hc : X.calm = true) (ho : om.length = own) (hcap : ∀ i ∈ cap, i < ms.length) (hi : XIc X ct ms n tg iter fi)
    (hg : ∀ cl C fp s₀ H₀, XGc (cxB X scope cl N C fp s₀ H₀) ct (om ++ capsM ms cap) own n tg gg) (ht : ∀ cl C fp s₀ H₀, XTs (cxB X scope cl N C fp s₀ H₀) ct (om ++ capsM ms cap) ifs p) (he : ∀ cl C fp s₀ H₀, XO (cxB X scope cl N C fp s₀ H₀) ct (om ++ capsM ms cap) (k - 1) elt f)
    (hsw : swapsWith (.ListComp elt [⟨tg, iter, ifs, 0⟩] scope pos) (some (.Name x pos')) spos.line X.env = pure true := by rfl)
    (hs : ∀ x, foldedSetIterable iter X.env x = pure x := by intro _; rfl) (hf : X.fn x = true ∨ X.env.scope.names.lookup x = some .local := by first | exact .inl rfl | exact .inr rfl | assumption) :
    XS X ct ms rk (.Assign [.Name x pos'] (.ListComp elt [⟨tg, iter, ifs, 0⟩] scope pos) spos) (sSet i (eComp fi own cap gg p f)) := by
  obtain ⟨wi, g, tt, te, pi, kg, pg, pt, pe, q⟩ := xo_compF (k := k - 1) (pos := pos) B hc ho hcap hi hg ht he
  refine ⟨_, ps_compSet B hc pi kg pg pt pe hN hi2 hx hsw hs hf, fun F0 B F H ρ σ o E rs e w => ?_⟩
  obtain ⟨d, h1, h2⟩ := bind1 e
  cases h2
  cases k with
  | succ k => exact q F0 B F H ρ σ d _ rs h1 fun v F' H' fp x l nd hf => w _ F' H' (rs.set hm x l nd hf)
  | zero =>
    refine q F0 B F H ρ σ d _ rs h1 fun v F' H' fp x l nd hf => ?_
    obtain ⟨F2, x2, l2⟩ := l.freeze x hf
    exact w _ F2 H' (rs.set hm x2 (Ow.zero l2) List.nodup_nil fun a z => by cases z)
theorem xs_retS {i : Nat} {x : Str} {pos' : Pos} (hm : ms[i]? = some (.ow k)) (hN : X.N[i]? = some x := by rfl) (hv : Vis X.env.scope x := by first | exact Or.inl rfl | exact Or.inr (Or.inl rfl) | exact Or.inr (Or.inr rfl)) (hd : (x == ("__debug__" : Str)) = false := by decide)
    (hcd : (x == ("__classdict__" : Str)) = false := by decide) : XS X ct ms 0 (.Return (some (.Name x pos')) pos) (sRet (eV i)) := by
  refine ⟨_, ps_ret (pe_var hN hv hd hcd), fun F0 B F H ρ σ o E rs e w => ?_⟩
  obtain ⟨d, h1, h2⟩ := bind1 e
  cases h2
  obtain ⟨fp, sl, nd, hb⟩ := rs.sl
  obtain ⟨f1, fr, i1, i2, i3, i4, i5⟩ := sl.put hm
  obtain ⟨v, hv', l⟩ := i4 d (join_some h1)
  obtain ⟨F', x, l2⟩ := l.freeze (⟨rs.f0, rs.bh, rs.fh, rs.nf⟩ : Ext F0 B F H) (fun z hz => hb z (i1 z hz))
  exact ⟨v, hv', w v F' H [] x.ff x.hh x.fh x.nf (Ow.zero l2) List.nodup_nil fun z hz => by cases hz⟩
end
end L3

namespace L2
open PySem PyProof.Rows
end L2

namespace L3
open PySem PySem.Spec L2
open PyProof.Rows hiding St
section
variable {X : Cx} {ct : Nat → Addr} {ms : List Mo} {rk n m k : Nat} {st : Stmt} {rest : List Stmt} {a b c e tg : Expr} {f g h : EF} {p q : BF} {u w : SF} {pos : Pos}
end
end L3

namespace L3
open PySem PySem.Spec L2
open PyProof.Rows hiding St
section
variable {X : Cx} {ct : Nat → Addr} {ms : List Mo} {rk n m k : Nat} {st : Stmt} {rest : List Stmt} {a b c e tg : Expr} {f g h : EF} {p q : BF} {u w : SF} {pos : Pos}
end
end L3

namespace L3
open PySem PySem.Spec L2
open PyProof.Rows hiding St
section
variable {K : PySem.W.Frag} {ct : Nat → Addr} {F F' H B F0 : Hp}
theorem SL.fz {ms : List Mo} {ρ : Env} {σ : St} {fp : List Addr} {i k : Nat} (h0 : SL K ct F B H ms ρ σ fp) (s : Same F H) : fp.Nodup → ms[i]? = some (.ow k) → ∃ f1 : List Addr, (∀ a ∈ f1, a ∈ fp) ∧
    ∃ fp', SL K ct (withC F H f1) B H (ms.set i (.ow 0)) ρ σ fp' ∧ fp'.Nodup ∧ ∀ a ∈ fp', a ∈ fp ∧ a ∉ f1 := by
  induction h0 generalizing i with
  | nil =>
    intro _ e
    simp at e
  | @no m0 o0 ms ρ σ fp t ih =>
    intro nd e
    cases i with
    | zero =>
      obtain ⟨w1, w2, w3⟩ := withC_ext (F := F) (H := H) (fp := []) s (fun a z => by cases z)
      exact ⟨[], fun a z => (by cases z), fp, .no (t.frame w1 fun a z => ⟨rfl, by unfold withC; rw [if_neg (by simp)]; exact (t.cells a z).1⟩), nd, fun a z => ⟨z, by simp⟩⟩
    | succ i =>
      obtain ⟨f1, h1, fp', q1, q2, q3⟩ := ih (i := i) nd (by simpa using e)
      exact ⟨f1, h1, fp', .no q1, q2, q3⟩
  | @al n0 d0 v0 ms ρ σ fp h t ih =>
    intro nd e
    cases i with
    | zero =>
      simp at e
    | succ i =>
      obtain ⟨f1, h1, fp', q1, q2, q3⟩ := ih (i := i) nd (by simpa using e)
      obtain ⟨w1, w2, w3⟩ := withC_ext (F := F) (H := H) (fp := f1) s (fun a z => (t.cells a (h1 a z)).1)
      exact ⟨f1, h1, fp', .al (h.mono w1 (.refl _)) q1, q2, q3⟩
  | @px d0 v0 ms ρ σ fp h t ih =>
    intro nd e
    cases i with
    | zero =>
      simp at e
    | succ i =>
      obtain ⟨f1, h1, fp', q1, q2, q3⟩ := ih (i := i) nd (by simpa using e)
      obtain ⟨w1, w2, w3⟩ := withC_ext (F := F) (H := H) (fp := f1) s (fun a z => (t.cells a (h1 a z)).1)
      exact ⟨f1, h1, fp', .px (h.mono w1 (.refl _)) q1, q2, q3⟩
  | @so d0 x ms ρ σ fp h t ih =>
    intro nd e
    cases i with
    | zero =>
      simp at e
    | succ i =>
      obtain ⟨n1, n2⟩ := List.nodup_cons.mp nd
      obtain ⟨f1, h1, fp', q1, q2, q3⟩ := ih (i := i) n2 (by simpa using e)
      obtain ⟨w1, w2, w3⟩ := withC_ext (F := F) (H := H) (fp := f1) s (fun a z => (t.cells a (h1 a z)).1)
      refine ⟨f1, fun a z => List.mem_cons_of_mem _ (h1 a z), x :: fp', .so (h.frame w1 fun a z => ⟨rfl, ?_⟩) q1, List.nodup_cons.mpr ⟨fun z => n1 (q3 x z).1, q2⟩, fun a z => ?_⟩
      · rw [List.mem_singleton] at z
        unfold withC
        rw [if_neg fun q => n1 (z ▸ h1 a q)]
        exact (h.cells a (by rw [z]; exact List.mem_cons_self)).1
      · rcases List.mem_cons.mp z with z | z
        · exact ⟨z ▸ List.mem_cons_self, fun q => n1 (z ▸ h1 a q)⟩
        · exact ⟨List.mem_cons_of_mem _ (q3 a z).1, (q3 a z).2⟩
  | @ow n0 d0 v0 ms ρ σ f fp h t ih =>
    intro nd e
    cases i with
    | zero =>
      obtain ⟨w1, w2, w3⟩ := withC_ext (F := F) (H := H) (fp := f) s (fun a z => (h.cells a z).1)
      obtain ⟨n1, n2, n3⟩ := List.nodup_append.mp nd
      refine ⟨f, fun a z => List.mem_append_left _ z, [] ++ fp, .ow ⟨h.dt w1 w3, rfl⟩ (t.frame w1 fun a z => ⟨rfl, ?_⟩), n2, fun a z => ⟨List.mem_append_right _ z, fun q => n3 a q a z rfl⟩⟩
      unfold withC
      rw [if_neg fun q => n3 a q a z rfl]
      exact (t.cells a z).1
    | succ i =>
      obtain ⟨n1, n2, n3⟩ := List.nodup_append.mp nd
      obtain ⟨f1, h1, fp', q1, q2, q3⟩ := ih (i := i) n2 (by simpa using e)
      obtain ⟨w1, w2, w3⟩ := withC_ext (F := F) (H := H) (fp := f1) s (fun a z => (t.cells a (h1 a z)).1)
      refine ⟨f1, fun a z => List.mem_append_right _ (h1 a z), f ++ fp', .ow (h.frame w1 fun a z => ⟨rfl, ?_⟩) q1, List.nodup_append.mpr ⟨n1, q2, fun a z b zb => n3 a z b (q3 b zb).1⟩, fun a z => ?_⟩
      · unfold withC
        rw [if_neg fun q => n3 a z a (h1 a q) rfl]
        exact (h.cells a z).1
      · rcases List.mem_append.mp z with z | z
        · exact ⟨List.mem_append_left _ z, fun q => n3 a z a (h1 a q) rfl⟩
        · exact ⟨List.mem_append_right _ (q3 a z).1, (q3 a z).2⟩
theorem SL.forget (m' : Mo) {ms : List Mo} {ρ : Env} {σ : St} {fp : List Addr} (i : Nat) (h0 : SL K ct F B H ms ρ σ fp) : ∃ fp', SL K ct F B H (ms.set i m') (ρ.set i none) σ fp' ∧ fp'.Sublist fp := by
  induction h0 generalizing i with
  | nil =>
    exact ⟨[], .nil, .refl _⟩
  | @no m0 o0 ms ρ σ fp t ih =>
    cases i with
    | zero =>
      exact ⟨fp, .no t, .refl _⟩
    | succ i =>
      obtain ⟨fp', q1, q2⟩ := ih i
      exact ⟨fp', .no q1, q2⟩
  | @al n0 d0 v0 ms ρ σ fp h t ih =>
    cases i with
    | zero =>
      exact ⟨fp, .no t, .refl _⟩
    | succ i =>
      obtain ⟨fp', q1, q2⟩ := ih i
      exact ⟨fp', .al h q1, q2⟩
  | @px d0 v0 ms ρ σ fp h t ih =>
    cases i with
    | zero =>
      exact ⟨fp, .no t, .refl _⟩
    | succ i =>
      obtain ⟨fp', q1, q2⟩ := ih i
      exact ⟨fp', .px h q1, q2⟩
  | @so d0 x ms ρ σ fp h t ih =>
    cases i with
    | zero =>
      exact ⟨fp, .no t, List.sublist_cons_self _ _⟩
    | succ i =>
      obtain ⟨fp', q1, q2⟩ := ih i
      exact ⟨_, .so h q1, q2.cons₂ _⟩
  | @ow n0 d0 v0 ms ρ σ f fp h t ih =>
    cases i with
    | zero =>
      exact ⟨fp, .no t, List.sublist_append_right _ _⟩
    | succ i =>
      obtain ⟨fp', q1, q2⟩ := ih i
      exact ⟨_, .ow h q1, (List.Sublist.refl _).append q2⟩
theorem RS.fz {ms : List Mo} {ρ : Env} {σ : St} {i k : Nat} (rs : RS K ct F0 B ms F H ρ σ) (hm : ms[i]? = some (.ow k)) : ∃ F', RS K ct F0 B (ms.set i (.ow 0)) F' H ρ σ := by
  obtain ⟨fp, sl, nd, hb⟩ := rs.sl
  obtain ⟨f1, h1, fp', q1, q2, q3⟩ := sl.fz rs.fh nd hm
  obtain ⟨w1, w2, w3⟩ := withC_ext (F := F) (H := H) (fp := f1) rs.fh (fun a z => (sl.cells a (h1 a z)).1)
  refine ⟨withC F H f1, rs.f0.trans w1, rs.bh, w2, fun a o ho hn => ?_, fp', q1, q2, fun a z => hb a (q3 a z).1⟩
  have : ¬ a ∈ f1 := fun z => by rw [hb a (h1 a z)] at ho; cases ho
  unfold withC; rw [if_neg this]; exact rs.nf a o ho hn
theorem RS.forget {ms : List Mo} {ρ : Env} {σ : St} (m' : Mo) (i : Nat) (rs : RS K ct F0 B ms F H ρ σ) : RS K ct F0 B (ms.set i m') F H (ρ.set i none) σ := by
  obtain ⟨fp, sl, nd, hb⟩ := rs.sl
  obtain ⟨fp', q1, q2⟩ := sl.forget m' i
  exact ⟨rs.f0, rs.bh, rs.fh, rs.nf, fp', q1, q2.nodup nd, fun a z => hb a (q2.subset z)⟩
end
def outFz (i : Nat) : Out → Out
  | .nx ρ => .nx (ρ.set i none)
  | .rt d => .rt d
  | .bk ρ => .bk (ρ.set i none)
  | .ct ρ => .ct (ρ.set i none)
def sFz (i : Nat) (u : SF) : SF := fun ρ => (u ρ).bind fun o => some (outFz i o)
section
variable {X : Cx} {ct : Nat → Addr} {ms : List Mo} {rk k : Nat}
theorem set_set_ow {ms : List Mo} {i k : Nat} (hm : ms[i]? = some (.ow k)) : (ms.set i (.ow 0)).set i (.ow k) = ms := by
  rw [List.set_set]
  apply List.ext_getElem?
  intro j
  rw [List.getElem?_set]
  split
  · next h =>
    subst h
    rw [hm]
    have := (List.getElem?_eq_some_iff.mp hm).1
    rw [if_pos this]
  · rfl
theorem fz_ok {i : Nat} {t : Ends → St → Hp → Prop} {w : SF} (hm : ms[i]? = some (.ow k))
    (q : ∀ (F0 B F H : Hp) (ρ : Env) (σ : St) (o : Out) (E : Ends), RS X.K ct F0 B (ms.set i (.ow 0)) F H ρ σ → w ρ = some o → OutOk X.K ct F0 B (ms.set i (.ow 0)) rk E o → t E σ H)
    (F0 B F H : Hp) (ρ : Env) (σ : St) (o : Out) (E : Ends) (rs : RS X.K ct F0 B ms F H ρ σ) (e : sFz i w ρ = some o) (z : OutOk X.K ct F0 B ms rk E o) : t E σ H := by
  obtain ⟨F', r2⟩ := rs.fz hm
  obtain ⟨o1, e1, e2⟩ := bind1 e
  refine q F0 B F' H ρ σ o1 E r2 e1 ?_
  have back : ∀ {ρ' : Env} {σ' : St} {F2 H2 : Hp}, RS X.K ct F0 B (ms.set i (.ow 0)) F2 H2 ρ' σ' → RS X.K ct F0 B ms F2 H2 (ρ'.set i none) σ' := fun r => by
    have := r.forget (.ow k) i
    rw [set_set_ow hm] at this
    exact this
  cases o1 with
  | nx ρ' => cases e2; exact fun σ' F2 H2 r => z σ' F2 H2 (back r)
  | rt d => cases e2; exact z
  | bk ρ' => cases e2; exact fun σ' F2 H2 r => z σ' F2 H2 (back r)
  | ct ρ' => cases e2; exact fun σ' F2 H2 r => z σ' F2 H2 (back r)
theorem xss_fz {sts : List Stmt} {w : SF} {i : Nat} (hm : ms[i]? = some (.ow k)) (h : XSs X ct (ms.set i (.ow 0)) rk sts w) : XSs X ct ms rk sts (sFz i w) := by
  obtain ⟨t, pt, qt⟩ := h
  exact ⟨t, pt, fz_ok hm qt⟩
theorem outFz_rt {i : Nat} {d : D} : outFz i (.rt d) = .rt d := rfl
theorem outFz_nx {i : Nat} {ρ : Env} : outFz i (.nx ρ) = .nx (ρ.set i none) := rfl
end
end L3

namespace L3
open PySem PySem.Spec L2
open PyProof.Rows hiding St
section
variable {X : Cx} {ct : Nat → Addr} {ms : List Mo} {rk n m k : Nat} {a b c tg : Expr} {pos : Pos}
end
end L3

namespace L2
open PySem PySem.Spec PyProof.Rows
section
variable {X : Cx} {elts : List Expr} {kt : Nat} {pt : Pos}
end
end L2
namespace L3
open PySem PySem.Spec L2
open PyProof.Rows hiding St
section
variable {X : Cx} {ct : Nat → Addr} {ms : List Mo} {n : Nat} {a b : Expr} {pos : Pos}
end
end L3

namespace L3
open PySem PySem.Spec L2
open PyProof.Rows hiding St
section
variable {K : PySem.W.Frag} {ct : Nat → Addr} {n m k : Nat}
end
end L3

namespace L2
open PySem PySem.Spec PyProof.Rows
section
variable {X : Cx} {e sp : Expr} {te : TE} {tp : TO} {pos p2 : Pos}
end
end L2
namespace L3
open PySem PySem.Spec L2
open PyProof.Rows hiding St
section
variable {X : Cx} {ct : Nat → Addr} {ms : List Mo} {n m : Nat} {e sp : Expr} {f g : EF} {pos p1 : Pos}
end
end L3

namespace L3
open PySem PySem.Spec L2
open PyProof.Rows hiding St
def kg {α : Type} (p q : Nat) (rv : Bool) (us ws : List α) : List α := if us.length = p ∧ ws.length = q then us ++ (if rv then ws.reverse else ws) else []
section
variable {X : Cx} {ct : Nat → Addr} {ms : List Mo} {rk n m k kk : Nat} {e a : Expr} {f : EF} {x : Str} {pp pos kpos : Pos} {fa : Addr} {fd : FuncData} {ps ks : List Str} {mf : List D → Option D}
end
end L3

namespace L3
open PySem PySem.Spec L2
open PyProof.Rows hiding St
section
variable {X : Cx} {ct : Nat → Addr} {ms : List Mo} {rk n m k : Nat} {st : Stmt} {rest : List Stmt} {a b c e tg : Expr} {f g h : EF} {p q : BF} {u w : SF} {pos : Pos}
end
end L3

namespace L3
open PySem PySem.Spec L2
open PyProof.Rows hiding St
section
variable {X : Cx} {ct : Nat → Addr} {ms : List Mo} {rk n m k : Nat} {a e : Expr} {f : EF} {pos : Pos}
end

end L3

namespace L3
open PySem PySem.Spec L2
open PyProof.Rows hiding St
section
variable {X : Cx} {ct : Nat → Addr} {ms : List Mo} {n m l k : Nat} {a b c : Expr} {f g h : EF} {pos : Pos}
end
end L3

namespace L3
open PySem PySem.Spec L2
open PyProof.Rows hiding St
section
variable {X : Cx} {ct : Nat → Addr} {ms : List Mo} {rk n m k : Nat} {a b c e tg : Expr} {f g h : EF} {pos : Pos}
end
end L3

namespace L3
open PySem PySem.Spec L2
open PyProof.Rows hiding St
section
variable {X : Cx} {ct : Nat → Addr} {ms : List Mo} {n : Nat} {e tg : Expr} {f : EF} {pos : Pos}
end
end L3

namespace L3
open PySem PySem.Spec L2
open PyProof.Rows hiding St
section
variable {X : Cx} {K : PySem.W.Frag} {ct : Nat → Addr} {ms : List Mo} {n k : Nat}
end
end L3

namespace L3
open PySem PySem.Spec L2
open PyProof.Rows hiding St
section
variable {X : Cx} {ct : Nat → Addr} {ms : List Mo} {rk n m k : Nat} {a b c e : Expr} {f g h : EF} {pos : Pos}
end
end L3

namespace L3
open PySem PySem.Spec L2
open PyProof.Rows hiding St
section
variable {K : PySem.W.Frag} {ct : Nat → Addr} {F F' H H' B F0 : Hp}
end
section
variable {X : Cx} {ct : Nat → Addr} {ms : List Mo} {rk n m k : Nat} {st : Stmt} {rest : List Stmt} {a b c e tg : Expr} {f g h : EF} {p q : BF} {u w : SF} {pos : Pos}
end
section
variable {X : Cx} {ct : Nat → Addr} {ms : List Mo} {rk n m k : Nat} {st : Stmt} {rest : List Stmt} {a b c e tg : Expr} {f g h : EF} {p q : BF} {u w : SF} {pos : Pos} {i j : Nat}
variable {kk : Nat} {fa : Addr} {fd : FuncData} {ps : List Str} {mf : List D → Option D} {x : Str} {pp : Pos}
end
end L3

namespace L2
open PySem PySem.Spec
open PyProof.Rows hiding St
section
variable {X : Cx} {pos : Pos}
end
end L2
namespace L3
open PySem PySem.Spec L2
open PyProof.Rows hiding St
section
variable {X : Cx} {ct : Nat → Addr} {ms : List Mo} {n : Nat} {pos : Pos}
end
end L3

namespace L3
open PySem PySem.Spec L2
open PyProof.Rows hiding St
section
variable {X : Cx} {ct : Nat → Addr} {ms : List Mo} {rk n m k i : Nat} {a b c e : Expr} {f g h : EF} {pos : Pos}
end
end L3

namespace L3
open PySem PySem.Spec L2
open PyProof.Rows hiding St
section
variable {X : Cx} {ct : Nat → Addr} {ms : List Mo} {rk n m k : Nat} {a b c e o : Expr} {f g h : EF} {pos : Pos}
def rJoin (K : PySem.W.Frag) : V → List V → Hp → VK → Prop := fun x vs H Q => ∃ sp p ys, x = .str sp ∧ vs = [.ref p] ∧ SqL K H p (ys.map V.str) ∧ (ys.map (·.length)).sum + ys.length * sp.length ≤ 16777216 ∧ Q (.str (PySem.Str.join sp ys)) H
theorem vals_strs : ∀ {ys : List Str} {us : List Value}, Vals (ys.map V.str) us → StrsAre us ys
  | [], _, .nil => .nil
  | y :: ys, _, .cons r t => by
    obtain ⟨tk, rfl⟩ := r
    exact .cons y tk (vals_strs t)
theorem mt_join : MtR X "str.join" (rJoin X.K) := by
  intro pins s σ H x vs v us Q I rx rv h
  obtain ⟨sp, p, ys, rfl, rfl, hq, hl, q⟩ := h
  obtain ⟨tk, rfl⟩ := rx
  obtain ⟨u, rfl, ru⟩ := rv.one
  cases ru
  obtain ⟨its, r, pl, hz⟩ := I.list hq
  refine PyProof.Rows.join_list pl.isList (by simpa using vals_strs r) hl fun t' k => ⟨.str (PySem.Str.join sp ys), H, I.tok _, ⟨t', ?_⟩, q⟩
  have : PySem.Txt.join sp ys = PySem.Str.join sp ys := PySem.StrLaws.glued_eq_join sp ys
  rw [this]
def strsD : List D → Option (List Str)
  | [] => some []
  | .str i :: ds => (strsD ds).bind fun ns => some (i :: ns)
  | _ => none
theorem strsD_some : ∀ {ds : List D} {ns : List Str}, strsD ds = some ns → ds = ns.map .str
  | [], _, e => by cases e; rfl
  | d :: ds, ns, e => by
    cases d with
    | str i =>
      obtain ⟨ms, h1, h2⟩ := bind1 (show (strsD ds).bind _ = _ from e)
      cases h2
      rw [strsD_some h1]; rfl
    | _ => cases e
def joinD : D → D → Option D
  | .str sp, .lst ds => (strsD ds).bind fun ys => if (ys.map (·.length)).sum + ys.length * sp.length ≤ 16777216 then some (.str (PySem.Str.join sp ys)) else none
  | _, _ => none
theorem strs_v {F H : Hp} {K : PySem.W.Frag} : ∀ {ys : List Str} {vs : List V}, Pr (Al K ct F H n) (ys.map D.str) vs → vs = ys.map V.str
  | [], _, .nil => rfl
  | y :: ys, _, .cons h t => by
    have q := Al.scal (F' := F) h rfl
    cases q
    rw [strs_v t]
    rfl
theorem xe_join {apos cpos : Pos} (ho : XE X ct ms n o f) (he : XE X ct ms m e g) (hst : starEach [e] X.env = (false, eval e X.env) :: starEach [] X.env := by rfl)
    (hbase : attributeBase o "join" X.env (eval o X.env) = eval o X.env := by rfl)
    (hfew : ((backTo cpos (starEach [e] X.env)).all (fun x => !x.1) && (backToKw cpos (keywordEach [] X.env)).all (fun x => x.1.isSome)
      && decide ([e].length + ([] : List Keyword).length + (if ([] : List Keyword).isEmpty then 0 else 1) < 30)) = true := by rfl)
    (hline : (apos.endLine == cpos.line) = true := by rfl) (hplain : (backTo cpos (starEach [] X.env)).any (·.1) = false := by rfl) :
    XE X ct ms k (.Call (.Attribute o "join" apos) [e] [] cpos) (e2 joinD f g) := by
  obtain ⟨ta, pa, qa⟩ := ho
  obtain ⟨tb, pb, qb⟩ := he
  refine ⟨_, pe_bm PySem.F.plainAttrs_str PySem.F.slot_str_join PySem.F.type_str_join mt_join pa (pa_cons pb pa_nil hst) hbase hfew hline hst hplain, fun F0 B F H ρ σ d Q rs e w => ?_⟩
  obtain ⟨d1, d2, h1, h2, h3⟩ := bind2 e
  refine qa F0 B F H ρ σ d1 _ rs h1 fun v1 F1 H1 x1 l1 => ?_
  cases d1 with
  | str sp =>
    cases d2 with
    | lst ds =>
      obtain ⟨ys, h4, h5⟩ := bind1 (show (strsD ds).bind _ = _ from h3)
      by_cases hz : (ys.map (·.length)).sum + ys.length * sp.length ≤ 16777216
      · rw [if_pos hz] at h5
        cases h5
        have q1 := Al.scal (F' := F1) l1 rfl
        cases q1
        refine ⟨rfl, qb F0 B F1 H1 ρ σ _ _ (rs.ext x1) h2 fun v2 F2 H2 x2 l2 => ?_⟩
        obtain ⟨p, vs, rfl, hp, hvs⟩ := l2.lst x2.fh
        rw [strsD_some h4] at hvs
        have hv := strs_v hvs
        subst hv
        exact ⟨sp, p, ys, rfl, rfl, hp, hz, w _ F2 H2 (x1.trans x2) (Al.of (.str _))⟩
      · rw [if_neg hz] at h5; cases h5
    | _ => cases h3
  | _ => cases h3
end
end L3

namespace L2
open PySem PySem.Spec
open PyProof.Rows hiding St
section
variable {X : Cx} {CX : CXT} {k : Nat} {f C : Addr} {fd : FuncData} {ps ks : List Str} {sp : Sp} {E : XK} {x m : Str} {p pos apos kpos : Pos} {e o : Expr} {es : List Expr} {kws : List Keyword} {te ta : TE} {t tk : TA} {nm : Option Str}
variable {g : List Value → List Value → List Value} {gV : List V → List V → List V}
end
end L2
namespace L3
open PySem PySem.Spec L2
open PyProof.Rows hiding St
section
variable {X : Cx} {ct : Nat → Addr} {ms : List Mo} {rk n m k kk : Nat} {e a : Expr} {f : EF} {x : Str} {pp pos kpos : Pos} {fa : Addr} {fd : FuncData} {ps ks : List Str} {pm cs : List Nat} {mi : Nat → List D → Option D}
end
end L3

namespace L3
open PySem PySem.Spec L2
open PyProof.Rows hiding St
section
variable {X : Cx} {ct : Nat → Addr} {ms : List Mo} {rk n m k i j : Nat} {a b c e : Expr} {f g h : EF} {pos : Pos}
variable {kk : Nat} {fa : Addr} {fd : FuncData} {ps : List Str} {mf : List D → Option D} {x y : Str} {pp : Pos}
end
end L3

namespace L3
open PySem PySem.Spec L2
open PyProof.Rows hiding St
open Classical in
open Classical in
section
variable {X : Cx}
end
section
variable {K : PySem.W.Frag} {ct : Nat → Addr} {n m k : Nat}
end
section
variable {α : Type} [DecidableEq α]
end
end L3

namespace L3
open PySem PySem.Spec L2
open PyProof.Rows hiding St
section
variable {X : Cx} {ct : Nat → Addr} {ms : List Mo} {rk n m k : Nat} {st : Stmt} {rest : List Stmt} {a b c e tg : Expr} {f g h : EF} {p q : BF} {u w : SF} {pos : Pos} {K : PySem.W.Frag}
end
end L3

namespace L3
open PySem PySem.Spec L2
open PyProof.Rows hiding St
section
variable {X : Cx} {ct : Nat → Addr} {ms : List Mo} {rk n m k kk kq : Nat} {st : Stmt} {rest : List Stmt} {a b c e tg : Expr} {f g h : EF} {p q : BF} {u w : SF} {pos pp : Pos} {K : PySem.W.Frag} {x : Str} {fa : Addr} {fd : FuncData} {ps : List Str} {mf : List D → Option D}
theorem eos (h : XO X ct ms k e f) : XO X ct ms 0 e f := XE.ow (XO.sh (n := 0) h)
theorem xgn {own i : Nat} (hN : X.N.Nodup) (ho : i < own := by decide) (hm : ms[i]? = some (.ow 0) := by rfl) (hi : X.N[i]? = some x := by rfl) (hx : Loc X.env.scope x := by first | exact Or.inl rfl | exact Or.inr rfl)
    (hf : X.fn x = true ∨ X.env.scope.names.lookup x = some .local := by first | exact .inl rfl | exact .inr rfl | assumption) : XGc X ct ms own 0 (.Name x pos) (gV i) := xgc_name ho hm hN hi hx hf
theorem xsS {i : Nat} {pos' : Pos} (hN : X.N.Nodup) (he : XO X ct ms k e f) (hm : ms[i]? = some (.ow k) := by rfl) (hi : X.N[i]? = some x := by rfl) (hx : Loc X.env.scope x := by first | exact Or.inl rfl | exact Or.inr rfl)
    (hs : swapsWith e (some (.Name x pos')) pos.line X.env = pure false := by rfl)
    (hf : X.fn x = true ∨ X.env.scope.names.lookup x = some .local := by first | exact .inl rfl | exact .inr rfl | assumption) : XS X ct ms rk (.Assign [.Name x pos'] e pos) (sSet i f) := xs_set hm hN hi hx he hs hf
theorem xgN {i : Nat} (hN : X.N.Nodup) (hm : ms[i]? = some (.ow 0) := by rfl) (hi : X.N[i]? = some x := by rfl) (hx : Loc X.env.scope x := by first | exact Or.inl rfl | exact Or.inr rfl)
    (hf : X.fn x = true ∨ X.env.scope.names.lookup x = some .local := by first | exact .inl rfl | exact .inr rfl | assumption) : XG X ct ms 0 (.Name x pos) (gV i) := xg_name hm hN hi hx hf
theorem xo_c {es : List Expr} {ns : List Nat} {fs : Env → Option (List D)} (d : Dn2 X.K X.mg x st ps fa fd) (Fn : FnOk X.prog X.w X.K X.mg X.base CX0 kk fa fd ps (LSp X.K ct ns rk mf)) (hr : Room kq X.A) (ha : XA X ct ms (e :: es) ns fs) (hle : kk ≤ kq := by decide) (hg : Gl X x := by rfl)
    (hdb : (x == ("__debug__" : Str)) = false := by decide) (he : starEach (e :: es) X.env = (false, eval e X.env) :: starEach es X.env := by rfl) (hpl : (backTo pos (starEach es X.env)).any (·.1) = false := by rfl) :
    XO X ct ms rk (.Call (.Name x pp) (e :: es) [] pos) (fun ρ => (fs ρ).bind fun ds => mf (ds ++ [])) :=
  xo_call (ns := ns) (nd := []) (dds := []) (by rw [List.append_nil]; exact Fn) (hr.mono hle) hg d.mgx d.fn.kp d.bd .nil (fun _ _ => .nil) ha hdb he hpl
theorem xo_cp {om : List Mo} {elt iter : Expr} {ifs : List Expr} {scope : Scope} {N : List Str} {own : Nat} {cap : List Nat} {fi : Env → Option (List D)} {gg : D → Env → Option Env} (hi : XIc X ct ms n tg iter fi)
    (hg : ∀ cl C fp s₀ H₀, XGc (cxB X scope cl N C fp s₀ H₀) ct (om ++ capsM ms cap) own n tg gg) (ht : ∀ cl C fp s₀ H₀, XTs (cxB X scope cl N C fp s₀ H₀) ct (om ++ capsM ms cap) ifs p) (he : ∀ cl C fp s₀ H₀, XO (cxB X scope cl N C fp s₀ H₀) ct (om ++ capsM ms cap) k elt f)
    (B : BlkOk X scope N own cap := by exact blk_of (by rfl)) (hc : X.calm = true := by rfl) (ho : om.length = own := by rfl) (hcap : ∀ i ∈ cap, i < ms.length := by decide)
    (hs : ∀ x, foldedSetIterable iter X.env x = pure x := by intro _; rfl) : XO X ct ms (k + 1) (.ListComp elt [⟨tg, iter, ifs, 0⟩] scope pos) (eComp fi own cap gg p f) := xo_comp B hc ho hcap hi hg ht he hs
theorem lif {P : Program} {w : World} {mg : Str → Option Value} {base : Heap} {qual : Str} {N : List Str} {pm : List Nat} {bf : SF} (Fn : Fun2 K x qual st fa fd) (S : FnScope N ps (defScope st))
    (body : ∀ (cdv : Value) (A : Around) (outer : List PySem.Env) (s : Shared) (H : Hp) (E : XK), Room kk (A.deeper (envOfC qual (defScope st) s.heap.objs.size fa cdv)) → XSs (cxOf CX0 P w K mg base N qual (defScope st) fa cdv A outer s H E).nox ct ms rk (defBody st) bf)
    (hpm : pm.length = ps.length := by rfl) (hms : ms.length = N.length := by rfl) (hle : ps.length ≤ N.length := by decide) (hmo : ∀ (i n : Nat), pm[i]? = some n → ms[i]? = some (Mo.al n) ∨ (n = 0 ∧ ms[i]? = some (Mo.ow 0)) := by exact modes_of (by decide)) :
    FnOk P w K mg base CX0 (kk + 1) fa fd ps (LSp K ct pm rk (mOf N bf)) := lift Fn S hpm hms hle hmo body
theorem xi0 {i : Int} {j} : XE X ct ms 0 (.Constant (.int i) j pos) (eC (.int i)) := xe_int
theorem xn0 {j} : XE X ct ms 0 (.Constant .none j pos) (eC .non) := xe_non
theorem xa0 (ha : XE X ct ms 0 a f) (hb : XE X ct ms 0 b g) : XO X ct ms 1 (.BinOp a .Add b pos) (e2 addD f g) := xo_op op_addA (op2_add (by decide) (by decide)) ha hb
theorem xix (ha : XE X ct ms 0 a f) (hb : XE X ct ms 0 b g) (hp : PlainIx b := by exact fun _ _ => rfl) : XE X ct ms 0 (.Subscript a b pos) (e2 ixD f g) := xe_ix (n := 0) ix_seq op2_ix ha hb hp
theorem xln {fs : Env → Option (List D)} (hm : X.mg "len" = none) (ha : XA X ct ms [e] [n] fs) (hg : Gl X "len" := by rfl) (he : starEach [e] X.env = (false, eval e X.env) :: starEach [] X.env := by rfl) (hpl : (backTo pos (starEach [] X.env)).any (·.1) = false := by rfl) : XE X ct ms 0 (.Call (.Name "len" pp) [e] [] pos) (eN lenD fs) := xe_callB (k := 0) call_lenA opn_len hg hm bt_len ha (by decide) (by decide) he hpl
theorem lA0 {P : List Value → Prop} (h : P []) (us : List Value) (e : us.length = 0) : P us := by
  cases us with
  | nil => exact h
  | cons a t => cases e
theorem lA1 {P : List Value → Prop} (h : ∀ a1, P [a1]) (us : List Value) (e : us.length = 1) : P us := by
  cases us with
  | nil => cases e
  | cons a t => exact lA0 (P := fun t => P (a :: t)) (h a) t (Nat.succ.inj e)
theorem lA2 {P : List Value → Prop} (h : ∀ a1 a2, P [a1, a2]) (us : List Value) (e : us.length = 2) : P us := by
  cases us with
  | nil => cases e
  | cons a t => exact lA1 (P := fun t => P (a :: t)) (h a) t (Nat.succ.inj e)
theorem lA3 {P : List Value → Prop} (h : ∀ a1 a2 a3, P [a1, a2, a3]) (us : List Value) (e : us.length = 3) : P us := by
  cases us with
  | nil => cases e
  | cons a t => exact lA2 (P := fun t => P (a :: t)) (h a) t (Nat.succ.inj e)
end
end L3

namespace L3
open PySem PySem.Spec L2
open PyProof.Rows hiding St
section
variable {K : PySem.W.Frag} {ct : Nat → Addr} {F B H : Hp}
end
section
variable {X : Cx} {ct : Nat → Addr} {ms : List Mo} {rk n m k i j : Nat} {a b c e : Expr} {f g h : EF} {p q : BF} {pos : Pos} {K : PySem.W.Frag}
end
end L3

set_option maxHeartbeats 1000000
namespace L3
open PySem PySem.Spec L2
open PyProof.Rows hiding St
inductive ResX where
  | ok (d : D) | xc (d : D)
inductive OutX where
  | ok (o : Out) | xc (ρ : Env) (d : D)
abbrev SFx := Env → Option OutX
section
variable (X : Cx) (G : GK) (ct : Nat → Addr) (ms : List Mo) (rk : Nat)
end
section
variable {X : Cx} {G : GK} {ct : Nat → Addr} {ms : List Mo} {rk n m k : Nat} {st : Stmt} {rest : List Stmt} {a b c e : Expr} {f g h : EF} {p q : BF} {u w : SFx} {pos : Pos}
end
end L3

set_option maxHeartbeats 1000000
namespace L3
open PySem PySem.Spec L2
open PyProof.Rows hiding St
section
variable {X : Cx} {G : GK} {ct : Nat → Addr} {ms : List Mo} {rk n m k kk : Nat} {st : Stmt} {rest : List Stmt} {a b c e : Expr} {f g h : EF} {p q : BF} {u w : SFx} {pos pp : Pos} {fa : Addr} {fd : FuncData} {ps : List Str} {mf : List D → Option ResX} {x : Str}
end
end L3

set_option maxHeartbeats 1000000
namespace L3
open PySem PySem.Spec L2
open PyProof.Rows hiding St
section
variable {X : Cx} {G : GK} {ct : Nat → Addr} {ms : List Mo} {rk n m k kk : Nat} {a b c e tg : Expr} {f g h : EF} {u w : SF} {pos pp : Pos} {fa : Addr} {fd : FuncData} {ps : List Str} {x : Str}
end
end L3

set_option maxHeartbeats 1000000
namespace L2
open PySem PySem.Spec PyProof.Rows
section
variable {X : Cx}
end
end L2
namespace L3
open PySem PySem.Spec L2
open PyProof.Rows hiding St
section
variable {X : Cx} {ct : Nat → Addr} {ms : List Mo} {n m k : Nat} {e : Expr} {f : EF} {pos : Pos}
end
end L3

set_option maxHeartbeats 1000000
namespace L3
open PySem PySem.Spec L2
open PyProof.Rows hiding St
end L3

set_option maxHeartbeats 1000000
namespace L3
open PySem PySem.Spec L2
open PyProof.Rows hiding St
end L3

set_option maxHeartbeats 1000000
namespace L2
open PySem PySem.Spec PyProof.Rows
structure Z3 (z TI TO i1 i2 i3 l1 l2 l3 : Addr) : Prop where
  TIz : TI ≠ z
  TOz : TO ≠ z
  i1z : i1 ≠ z
  i2z : i2 ≠ z
  i3z : i3 ≠ z
  TITO : TI ≠ TO
  TIi1 : TI ≠ i1
  TIi2 : TI ≠ i2
  TIi3 : TI ≠ i3
  TOi1 : TO ≠ i1
  TOi2 : TO ≠ i2
  TOi3 : TO ≠ i3
  i12 : i1 ≠ i2
  i13 : i1 ≠ i3
  i23 : i2 ≠ i3
  l1z : l1 ≠ z
  l2z : l2 ≠ z
  l2TO : l2 ≠ TO
  l2i1 : l2 ≠ i1
  l3z : l3 ≠ z
  l3TO : l3 ≠ TO
  l3i1 : l3 ≠ i1
  l3i2 : l3 ≠ i2
section
variable {prog : Program} {w : World} {A : Around} {E : Value → Shared → Prop} {s : Shared} {z TI TO i1 i2 i3 l1 l2 l3 : Addr} {xs ys zs : Array Value} {k1 k2 k3 : Nat}
end
end L2

set_option maxHeartbeats 1000000
namespace L2
open PySem PySem.Spec PyProof.Rows
section
variable {X : Cx} {elts : List Expr} {kt : Nat} {pt : Pos}
end
end L2
namespace L3
open PySem PySem.Spec L2
open PyProof.Rows hiding St
section
variable {X : Cx} {ct : Nat → Addr} {ms : List Mo} {n : Nat} {a b c : Expr} {pos : Pos}
end
end L3

set_option maxHeartbeats 1000000
namespace L2
open PySem PySem.Spec PyProof.Rows
section
variable {X : Cx} {k : Nat} {f : Addr} {fd : FuncData} {ps : List Str} {sp : Sp} {ds : List Value} {dvs : List V} {E : XK} {x : Str} {p pos : Pos} {e : Expr} {es : List Expr} {t : TA}
end
end L2
namespace L3
open PySem PySem.Spec L2
open PyProof.Rows hiding St
section
variable {X : Cx} {ct : Nat → Addr} {ms : List Mo} {rk kk : Nat} {fa : Addr} {fd : FuncData} {ps : List Str} {mf : List D → Option D} {x : Str} {pp pos : Pos} {e : Expr}
end
end L3

namespace PySem
section
variable {prog : Program} {w : World} {A : Around} {R : Result → Shared → Prop} {I : Addr} {fp wr : List Addr} {n : Nat} {P : Nat → Value → Prop} {St : Nat → Heap → Prop} {kw : List (Str × Value)}
end
section
variable {prog : Program} {w : World} {A : Around} {E : Value → Shared → Prop} {s : Shared}
end
end PySem
namespace L3
open PySem PySem.Spec L2
section
variable {X : Cx} {ct : Nat → Addr} {ms : List Mo} {e b : Expr} {f g : EF} {n m k : Nat}
end
end L3

set_option maxHeartbeats 1000000
namespace L3
open PySem PySem.Spec L2
open PyProof.Rows hiding St
section
variable {X : Cx} {ct : Nat → Addr} {ms : List Mo} {n : Nat} {a b c : Expr} {pos : Pos}
end
end L3

set_option maxHeartbeats 1000000
namespace L3
open PySem PySem.Spec L2
open PyProof.Rows hiding St
section
variable {X : Cx} {ct : Nat → Addr} {ms : List Mo} {n m k : Nat} {e o : Expr} {f g : EF} {pos : Pos}
def rPad (T : Str → Int → Str) : V → List V → Hp → VK → Prop := fun x vs H Q => ∃ y i, x = .str y ∧ vs = [.int i] ∧ PadOk i = true ∧ Q (.str (T y i)) H
def padD (T : Str → Int → Str) : D → D → Option D
  | .str y, .int i => if PadOk i = true then some (.str (T y i)) else none
  | _, _ => none
theorem mt_ljust : MtR X "str.ljust" (rPad Txt.ljust) := by
  intro pins s σ H x vs v us Q I rx rv h
  obtain ⟨y, i, rfl, rfl, hp, q⟩ := h
  obtain ⟨tk, rfl⟩ := rx
  obtain ⟨u, rfl, ru⟩ := rv.one
  obtain ⟨tu, rfl⟩ := ru
  exact PySem.SC.ljust hp fun t' k => ⟨.str (Txt.ljust y i), H, I.tok _, ⟨t', rfl⟩, q⟩
theorem xe_ljust {apos cpos : Pos} (ho : XE X ct ms n o f) (he : XE X ct ms m e g) (hst : starEach [e] X.env = (false, eval e X.env) :: starEach [] X.env := by rfl)
    (hbase : attributeBase o "ljust" X.env (eval o X.env) = eval o X.env := by rfl)
    (hfew : ((backTo cpos (starEach [e] X.env)).all (fun x => !x.1) && (backToKw cpos (keywordEach [] X.env)).all (fun x => x.1.isSome)
      && decide ([e].length + ([] : List Keyword).length + (if ([] : List Keyword).isEmpty then 0 else 1) < 30)) = true := by rfl)
    (hline : (apos.endLine == cpos.line) = true := by rfl) (hplain : (backTo cpos (starEach [] X.env)).any (·.1) = false := by rfl) :
    XE X ct ms k (.Call (.Attribute o "ljust" apos) [e] [] cpos) (e2 (padD Txt.ljust) f g) := by
  obtain ⟨ta, pa, qa⟩ := ho
  obtain ⟨tb, pb, qb⟩ := he
  refine ⟨_, pe_bm PySem.F.plainAttrs_str PySem.F.slot_str_ljust PySem.F.type_str_ljust mt_ljust pa (pa_cons pb pa_nil hst) hbase hfew hline hst hplain, fun F0 B F H ρ σ d Q rs e w => ?_⟩
  obtain ⟨d1, d2, h1, h2, h3⟩ := bind2 e
  refine qa F0 B F H ρ σ d1 _ rs h1 fun v1 F1 H1 x1 l1 => ?_
  cases d1 with
  | str y =>
    cases d2 with
    | int i =>
      have h3 : (if PadOk i = true then some (D.str (Txt.ljust y i)) else none) = some d := h3
      by_cases hp : PadOk i = true
      · rw [if_pos hp] at h3
        cases h3
        have q1 := Al.scal (F' := F1) l1 rfl
        cases q1
        refine ⟨rfl, qb F0 B F1 H1 ρ σ _ _ (rs.ext x1) h2 fun v2 F2 H2 x2 l2 => ?_⟩
        have q2 := Al.scal (F' := F2) l2 rfl
        cases q2
        exact ⟨y, i, rfl, rfl, hp, w _ F2 H2 (x1.trans x2) (Al.of (.str _))⟩
      · rw [if_neg hp] at h3; cases h3
    | _ => cases h3
  | _ => cases h3
theorem mt_rjust : MtR X "str.rjust" (rPad Txt.rjust) := by
  intro pins s σ H x vs v us Q I rx rv h
  obtain ⟨y, i, rfl, rfl, hp, q⟩ := h
  obtain ⟨tk, rfl⟩ := rx
  obtain ⟨u, rfl, ru⟩ := rv.one
  obtain ⟨tu, rfl⟩ := ru
  exact PySem.SC.rjust hp fun t' k => ⟨.str (Txt.rjust y i), H, I.tok _, ⟨t', rfl⟩, q⟩
theorem xe_rjust {apos cpos : Pos} (ho : XE X ct ms n o f) (he : XE X ct ms m e g) (hst : starEach [e] X.env = (false, eval e X.env) :: starEach [] X.env := by rfl)
    (hbase : attributeBase o "rjust" X.env (eval o X.env) = eval o X.env := by rfl)
    (hfew : ((backTo cpos (starEach [e] X.env)).all (fun x => !x.1) && (backToKw cpos (keywordEach [] X.env)).all (fun x => x.1.isSome)
      && decide ([e].length + ([] : List Keyword).length + (if ([] : List Keyword).isEmpty then 0 else 1) < 30)) = true := by rfl)
    (hline : (apos.endLine == cpos.line) = true := by rfl) (hplain : (backTo cpos (starEach [] X.env)).any (·.1) = false := by rfl) :
    XE X ct ms k (.Call (.Attribute o "rjust" apos) [e] [] cpos) (e2 (padD Txt.rjust) f g) := by
  obtain ⟨ta, pa, qa⟩ := ho
  obtain ⟨tb, pb, qb⟩ := he
  refine ⟨_, pe_bm PySem.F.plainAttrs_str PySem.F.slot_str_rjust PySem.F.type_str_rjust mt_rjust pa (pa_cons pb pa_nil hst) hbase hfew hline hst hplain, fun F0 B F H ρ σ d Q rs e w => ?_⟩
  obtain ⟨d1, d2, h1, h2, h3⟩ := bind2 e
  refine qa F0 B F H ρ σ d1 _ rs h1 fun v1 F1 H1 x1 l1 => ?_
  cases d1 with
  | str y =>
    cases d2 with
    | int i =>
      have h3 : (if PadOk i = true then some (D.str (Txt.rjust y i)) else none) = some d := h3
      by_cases hp : PadOk i = true
      · rw [if_pos hp] at h3
        cases h3
        have q1 := Al.scal (F' := F1) l1 rfl
        cases q1
        refine ⟨rfl, qb F0 B F1 H1 ρ σ _ _ (rs.ext x1) h2 fun v2 F2 H2 x2 l2 => ?_⟩
        have q2 := Al.scal (F' := F2) l2 rfl
        cases q2
        exact ⟨y, i, rfl, rfl, hp, w _ F2 H2 (x1.trans x2) (Al.of (.str _))⟩
      · rw [if_neg hp] at h3; cases h3
    | _ => cases h3
  | _ => cases h3
theorem mt_zfill : MtR X "str.zfill" (rPad Txt.zfill) := by
  intro pins s σ H x vs v us Q I rx rv h
  obtain ⟨y, i, rfl, rfl, hp, q⟩ := h
  obtain ⟨tk, rfl⟩ := rx
  obtain ⟨u, rfl, ru⟩ := rv.one
  obtain ⟨tu, rfl⟩ := ru
  exact PySem.SC.zfill hp fun t' k => ⟨.str (Txt.zfill y i), H, I.tok _, ⟨t', rfl⟩, q⟩
theorem xe_zfill {apos cpos : Pos} (ho : XE X ct ms n o f) (he : XE X ct ms m e g) (hst : starEach [e] X.env = (false, eval e X.env) :: starEach [] X.env := by rfl)
    (hbase : attributeBase o "zfill" X.env (eval o X.env) = eval o X.env := by rfl)
    (hfew : ((backTo cpos (starEach [e] X.env)).all (fun x => !x.1) && (backToKw cpos (keywordEach [] X.env)).all (fun x => x.1.isSome)
      && decide ([e].length + ([] : List Keyword).length + (if ([] : List Keyword).isEmpty then 0 else 1) < 30)) = true := by rfl)
    (hline : (apos.endLine == cpos.line) = true := by rfl) (hplain : (backTo cpos (starEach [] X.env)).any (·.1) = false := by rfl) :
    XE X ct ms k (.Call (.Attribute o "zfill" apos) [e] [] cpos) (e2 (padD Txt.zfill) f g) := by
  obtain ⟨ta, pa, qa⟩ := ho
  obtain ⟨tb, pb, qb⟩ := he
  refine ⟨_, pe_bm PySem.F.plainAttrs_str PySem.F.slot_str_zfill PySem.F.type_str_zfill mt_zfill pa (pa_cons pb pa_nil hst) hbase hfew hline hst hplain, fun F0 B F H ρ σ d Q rs e w => ?_⟩
  obtain ⟨d1, d2, h1, h2, h3⟩ := bind2 e
  refine qa F0 B F H ρ σ d1 _ rs h1 fun v1 F1 H1 x1 l1 => ?_
  cases d1 with
  | str y =>
    cases d2 with
    | int i =>
      have h3 : (if PadOk i = true then some (D.str (Txt.zfill y i)) else none) = some d := h3
      by_cases hp : PadOk i = true
      · rw [if_pos hp] at h3
        cases h3
        have q1 := Al.scal (F' := F1) l1 rfl
        cases q1
        refine ⟨rfl, qb F0 B F1 H1 ρ σ _ _ (rs.ext x1) h2 fun v2 F2 H2 x2 l2 => ?_⟩
        have q2 := Al.scal (F' := F2) l2 rfl
        cases q2
        exact ⟨y, i, rfl, rfl, hp, w _ F2 H2 (x1.trans x2) (Al.of (.str _))⟩
      · rw [if_neg hp] at h3; cases h3
    | _ => cases h3
  | _ => cases h3
end
end L3

set_option maxHeartbeats 1000000
namespace L3
open PySem PySem.Spec L2
open PyProof.Rows hiding St
def repS (c n : Nat) : Str := ⟨Array.replicate n c⟩
theorem foldl_rep (c : Nat) : ∀ (n : Nat) (acc : Array Nat), (List.replicate n #[c]).foldl (· ++ ·) acc = acc ++ Array.replicate n c
  | 0, acc => by simp
  | n + 1, acc => by
    rw [List.replicate_succ, List.foldl_cons, foldl_rep c n, Array.append_assoc]
    congr 1
    apply Array.toList_inj.mp
    simp [List.replicate_succ]
theorem mul_rep (c : Nat) (i : Int) : Txt.mul ⟨#[c]⟩ i = repS c i.toNat := by
  unfold Txt.mul repS
  by_cases h : i < 1
  · rw [if_pos h, show i.toNat = 0 by omega]; rfl
  · rw [if_neg h]
    by_cases h1 : i = 1
    · subst h1; rfl
    · rw [if_neg (by
        have : (i == 1) = false := by simpa using h1
        rw [this]; exact Bool.false_ne_true)]
      rw [foldl_rep]
      simp
def rMulS : R2 := fun x y H Q => ∃ c i, x = .str ⟨#[c]⟩ ∧ y = .int i ∧ -1000000 ≤ i ∧ i ≤ 1000000 ∧ Q (.str (repS c i.toNat)) H
def mulS : D → D → Option D
  | .str y, .int i => match y.cps.toList with
    | [c] => if -1000000 ≤ i ∧ i ≤ 1000000 then some (.str (repS c i.toNat)) else none
    | _ => none
  | _, _ => none
section
variable {X : Cx} {ct : Nat → Addr} {K : PySem.W.Frag} {ms : List Mo} {n m k : Nat} {e o : Expr} {f g : EF} {pos : Pos}
theorem op_mulStr : OpR X (binaryOp .Mult) rMulS := by
  intro pins s σ H x y v u Q I rx ry h
  obtain ⟨c, i, rfl, rfl, h1, h2, q⟩ := h
  obtain ⟨t, rfl⟩ := rx
  obtain ⟨t', rfl⟩ := ry
  refine PySem.SB.mul ⟨?_, fun h3 h4 => ?_, fun h3 h4 => ?_⟩ fun tk kk => ⟨.str (repS c i.toNat), H, I.tok _, ⟨tk, by rw [mul_rep]⟩, q⟩
  · rw [decide_eq_false (by omega), decide_eq_false (by omega)]; rfl
  · have h5 : ((⟨#[c]⟩ : Str).length : Int) = 1 := rfl
    rw [h5]
    have : 1 ≤ (2 ^ 63 - 1 : Int) / i := Int.le_ediv_of_mul_le (by omega) (by omega)
    omega
  · unfold Builtin.Str.tooLong
    have h5 : (⟨#[c]⟩ : Str).length = 1 := rfl
    rw [h5]
    apply decide_eq_false
    unfold sizeLine
    omega
theorem op2_mulS : Op2 K ct n m k rMulS mulS := by
  intro F H x y d1 d2 d Q s l1 l2 e w
  cases d1 with
  | str z =>
    cases d2 with
    | int i =>
      have e : (match z.cps.toList with | [c] => if -1000000 ≤ i ∧ i ≤ 1000000 then some (D.str (repS c i.toNat)) else none | _ => none) = some d := e
      split at e
      · rename_i c hz
        by_cases hb : -1000000 ≤ i ∧ i ≤ 1000000
        · rw [if_pos hb] at e
          cases e
          have q1 := Al.scal (F' := F) l1 rfl
          cases q1
          have q2 := Al.scal (F' := F) l2 rfl
          cases q2
          have : z = ⟨#[c]⟩ := by
            cases z with | mk cps => exact congrArg Str.mk (Array.toList_inj.mp hz)
          exact ⟨c, i, by rw [this], rfl, hb.1, hb.2, w _ F H (.refl s) (Al.of (.str _))⟩
        · rw [if_neg hb] at e; cases e
      · cases e
    | _ => cases e
  | _ => cases e
def rSlS : V → Option Int → Option Int → Hp → VK → Prop := fun x lo hi H Q => ∃ y, x = .str y ∧ y.length ≤ sizeLine ∧ Q (.str (Txt.slice y lo hi)) H
theorem sl_str : SlR X rSlS := by
  intro pins s σ H x v vl vu lo hi sl Q I rx hs pl pu h
  obtain ⟨y, rfl, hz, q⟩ := h
  obtain ⟨t, rfl⟩ := rx
  have key : ∀ l u : Option (Int × Tok), vl = PySem.partValue l → vu = PySem.partValue u → lo = l.map (·.1) → hi = u.map (·.1) → wpAny (model X.prog X.w) X.A (getItem (.str y t) (.ref sl)) (EP X pins σ Q) X.xe s := by
    rintro l u rfl rfl rfl rfl
    refine wpAny_getItem_str_slice (l := l) (u := u) (st := none) hs rfl (post_val_or_str ⟨Nat.le_trans (Txt.slice_le y (l.map (·.1)) (u.map (·.1))) hz, fun t' k => ⟨.str (Txt.slice y (l.map (·.1)) (u.map (·.1))), H, I.tok _, ⟨t', rfl⟩, q⟩⟩)
  refine ⟨"str", _, F.slot_str_getitem.lookup, typeIs_str _ _ _, ?_⟩
  cases pl with
  | none => cases pu with
    | none => exact key none none rfl rfl rfl rfl
    | int j tj => exact key none (some (j, tj)) rfl rfl rfl rfl
  | int i ti => cases pu with
    | none => exact key (some (i, ti)) none rfl rfl rfl rfl
    | int j tj => exact key (some (i, ti)) (some (j, tj)) rfl rfl rfl rfl
def sliceS (d : D) (lo hi : Option Int) : Option D := match d with
  | .str y => if y.length ≤ 16777216 then some (.str (Txt.slice y lo hi)) else none
  | _ => none
theorem xe_sliceS {lo hi : Option Expr} {pl ph : PF} {p1} (he : XE X ct ms n e f) (hl : XP X ct ms lo pl) (hh : XP X ct ms hi ph) : XE X ct ms k (.Subscript e (.Slice lo hi none p1) pos) (fun ρ => (f ρ).bind fun d => (pl ρ).bind fun l => (ph ρ).bind fun h => sliceS d l h) := by
  obtain ⟨t, pt, qt⟩ := he
  obtain ⟨t1, pt1, qt1⟩ := hl
  obtain ⟨t2, pt2, qt2⟩ := hh
  refine ⟨_, pe_slice sl_str pt pt1 pt2, fun F0 B F H ρ σ r Q rs e w => ?_⟩
  obtain ⟨d, l, h1, h2, h3⟩ := bind2 e
  obtain ⟨hh, h4, h5⟩ := bind1 h3
  refine qt F0 B F H ρ σ d _ rs h1 fun v F1 H1 x1 l1 => ?_
  refine qt1 F0 B F1 H1 ρ σ l _ (rs.ext x1) h2 fun F2 H2 x2 => ?_
  refine qt2 F0 B F2 H2 ρ σ hh _ ((rs.ext x1).ext x2) h4 fun F3 H3 x3 => ?_
  cases d with
  | str y =>
    have h5 : (if y.length ≤ 16777216 then some (D.str (Txt.slice y l hh)) else none) = some r := h5
    by_cases hz : y.length ≤ 16777216
    · rw [if_pos hz] at h5
      cases h5
      have q1 := Al.scal (F' := F1) l1 rfl
      cases q1
      exact ⟨y, rfl, hz, w _ F3 H3 ((x1.trans x2).trans x3) (Al.of (.str _))⟩
    · rw [if_neg hz] at h5; cases h5
  | _ => cases h5
end
end L3

namespace Fq
def dv (t b : Int) : Int := if b < 0 then -((Int.gcd t b : Nat) : Int) else ((Int.gcd t b : Nat) : Int)
def mk (t b : Int) : Int × Int := (t.fdiv (dv t b), b.fdiv (dv t b))
end Fq

set_option maxHeartbeats 4000000
namespace My
open PySem L2 L3
def top (i : Nat) : Stmt := PySem.Challenge.pw_ringbeat_k84_almanacs.main.body.getD i (.Pass ⟨0, 0, 0, 0⟩)
abbrev s_time_word : Stmt := top 1
abbrev s_widest : Stmt := top 2
abbrev s_number_column : Stmt := top 3
abbrev s_time_column : Stmt := top 4
abbrev s_line_across : Stmt := top 5
abbrev s_almanac : Stmt := top 6
abbrev s_law_cell_at : Stmt := top 8
abbrev s_law_mixed : Stmt := top 9
abbrev s_law_names : Stmt := top 10
abbrev s_law_longer : Stmt := top 11
abbrev s_law_time : Stmt := top 12
abbrev s_law_word : Stmt := top 13
abbrev s_law_filled : Stmt := top 14
abbrev s_law_due : Stmt := top 15
abbrev s_law : Stmt := top 16
theorem sc_time_word : FnScope ["time"] ["time"] (defScope s_time_word) := ⟨rfl, rfl, rfl, by decide +kernel, rfl, by decide +kernel, by decide +kernel⟩
theorem sc_widest : FnScope ["words"] ["words"] (defScope s_widest) := ⟨rfl, rfl, rfl, by decide +kernel, rfl, by decide +kernel, by decide +kernel⟩
theorem sc_number_column : FnScope ["first", "many", "words", "width"] ["first", "many"] (defScope s_number_column) := ⟨rfl, rfl, rfl, by decide +kernel, rfl, by decide +kernel, by decide +kernel⟩
theorem sc_time_column : FnScope ["name", "times", "words", "width"] ["name", "times"] (defScope s_time_column) := ⟨rfl, rfl, rfl, by decide +kernel, rfl, by decide +kernel, by decide +kernel⟩
theorem sc_line_across : FnScope ["columns", "place"] ["columns", "place"] (defScope s_line_across) := ⟨rfl, rfl, rfl, by decide +kernel, rfl, by decide +kernel, by decide +kernel⟩
theorem sc_almanac : FnScope ["names", "rows", "first", "columns", "going", "name"] ["names", "rows", "first"] (defScope s_almanac) := ⟨rfl, rfl, rfl, by decide +kernel, rfl, by decide +kernel, by decide +kernel⟩
theorem sc_law_cell_at : FnScope ["_law_script", "_law_k"] ["_law_script", "_law_k"] (defScope s_law_cell_at) := ⟨rfl, rfl, rfl, by decide +kernel, rfl, by decide +kernel, by decide +kernel⟩
theorem sc_law_mixed : FnScope ["_law_cell", "_law_k", "_law_number"] ["_law_cell", "_law_k"] (defScope s_law_mixed) := ⟨rfl, rfl, rfl, by decide +kernel, rfl, by decide +kernel, by decide +kernel⟩
theorem sc_law_names : FnScope ["_law_cell", "_law_many", "_law_letters", "_law_signs", "_law_size", "_law_at", "_law_names_here", "_law_k", "_law_name", "_law_j", "_law_sign"] ["_law_cell", "_law_many"] (defScope s_law_names) := ⟨rfl, rfl, rfl, by decide +kernel, rfl, by decide +kernel, by decide +kernel⟩
theorem sc_law_longer : FnScope ["_law_name", "_law_k"] ["_law_name", "_law_k"] (defScope s_law_longer) := ⟨rfl, rfl, rfl, by decide +kernel, rfl, by decide +kernel, by decide +kernel⟩
theorem sc_law_time : FnScope ["_law_cell", "_law_k", "_law_number", "_law_some"] ["_law_cell", "_law_k"] (defScope s_law_time) := ⟨rfl, rfl, rfl, by decide +kernel, rfl, by decide +kernel, by decide +kernel⟩
theorem sc_law_word : FnScope ["_law_time_here"] ["_law_time_here"] (defScope s_law_word) := ⟨rfl, rfl, rfl, by decide +kernel, rfl, by decide +kernel, by decide +kernel⟩
theorem sc_law_filled : FnScope ["_law_word_here", "_law_wide", "_law_sign"] ["_law_word_here", "_law_wide", "_law_sign"] (defScope s_law_filled) := ⟨rfl, rfl, rfl, by decide +kernel, rfl, by decide +kernel, by decide +kernel⟩
theorem sc_law_due : FnScope ["_law_names_here", "_law_rows", "_law_first", "_law_columns", "_law_j", "_law_lines", "_law_k", "_law_parts", "_law_wide"] ["_law_names_here", "_law_rows", "_law_first"] (defScope s_law_due) := ⟨rfl, rfl, rfl, by decide +kernel, rfl, by decide +kernel, by decide +kernel⟩
theorem sc_law : FnScope ["_law_script", "_law_cell", "_law_names_here", "_law_rows", "_law_k", "_law_more", "_law_second", "_law_first", "_law_handed", "_law_found"] ["_law_script"] (defScope s_law) := ⟨rfl, rfl, rfl, by decide +kernel, rfl, by decide +kernel, by decide +kernel⟩
structure Adr where
  f_time_word : Addr
  d_time_word : FuncData
  f_widest : Addr
  d_widest : FuncData
  f_number_column : Addr
  d_number_column : FuncData
  f_time_column : Addr
  d_time_column : FuncData
  f_line_across : Addr
  d_line_across : FuncData
  f_almanac : Addr
  d_almanac : FuncData
  f_law_cell_at : Addr
  d_law_cell_at : FuncData
  f_law_mixed : Addr
  d_law_mixed : FuncData
  f_law_names : Addr
  d_law_names : FuncData
  f_law_longer : Addr
  d_law_longer : FuncData
  f_law_time : Addr
  d_law_time : FuncData
  f_law_word : Addr
  d_law_word : FuncData
  f_law_filled : Addr
  d_law_filled : FuncData
  f_law_due : Addr
  d_law_due : FuncData
  f_law : Addr
  d_law : FuncData
structure Txt (K : PySem.W.Frag) (mg : Str → Option Value) (a : Adr) : Prop where
  time_word : Dn2 K mg "time_word" s_time_word ["time"] a.f_time_word a.d_time_word
  widest : Dn2 K mg "widest" s_widest ["words"] a.f_widest a.d_widest
  number_column : Dn2 K mg "number_column" s_number_column ["first", "many"] a.f_number_column a.d_number_column
  time_column : Dn2 K mg "time_column" s_time_column ["name", "times"] a.f_time_column a.d_time_column
  line_across : Dn2 K mg "line_across" s_line_across ["columns", "place"] a.f_line_across a.d_line_across
  almanac : Dn2 K mg "almanac" s_almanac ["names", "rows", "first"] a.f_almanac a.d_almanac
  law_cell_at : Dn2 K mg "_law_cell_at" s_law_cell_at ["_law_script", "_law_k"] a.f_law_cell_at a.d_law_cell_at
  law_mixed : Dn2 K mg "_law_mixed" s_law_mixed ["_law_cell", "_law_k"] a.f_law_mixed a.d_law_mixed
  law_names : Dn2 K mg "_law_names" s_law_names ["_law_cell", "_law_many"] a.f_law_names a.d_law_names
  law_longer : Dn2 K mg "_law_longer" s_law_longer ["_law_name", "_law_k"] a.f_law_longer a.d_law_longer
  law_time : Dn2 K mg "_law_time" s_law_time ["_law_cell", "_law_k"] a.f_law_time a.d_law_time
  law_word : Dn2 K mg "_law_word" s_law_word ["_law_time_here"] a.f_law_word a.d_law_word
  law_filled : Dn2 K mg "_law_filled" s_law_filled ["_law_word_here", "_law_wide", "_law_sign"] a.f_law_filled a.d_law_filled
  law_due : Dn2 K mg "_law_due" s_law_due ["_law_names_here", "_law_rows", "_law_first"] a.f_law_due a.d_law_due
  law : Dn2 K mg "law" s_law ["_law_script"] a.f_law a.d_law
  b_enumerate : mg "enumerate" = none
  b_int : mg "int" = none
  b_isinstance : mg "isinstance" = none
  b_len : mg "len" = none
  b_list : mg "list" = none
  b_max : mg "max" = none
  b_range : mg "range" = none
  b_str : mg "str" = none
section
variable {P : Program} {w : World} {K : PySem.W.Frag} {mg : Str → Option Value} {base : Heap} {a : Adr} {ct : Nat → Addr}
def m_time_word : List D → Option D := mOf ["time"]
    (sRet (eIf (tb (e2 (isD false) (eV 0) (eC .non))) (eC (.str "-")) (eN strD (aCons (eV 0) aNil))))
theorem ok_time_word (T : Txt K mg a) : FnOk P w K mg base CX0 1 a.f_time_word a.d_time_word ["time"] (LSp K ct [0] 0 m_time_word) := by
  refine lif (ms := [.ow 0]) T.time_word.fn sc_time_word fun _ _ _ _ _ _ hr => ?_
  exact (xss_one (xs_ret (XE.ow (xe_if (xt_cmp (k := 0) op_is op2_is (xe_var 0 0) xn0 (nomark _)) (xe_str (n := 0)) (xe_callTy (k := 0) call_str_int opn_str rfl T.b_str bt_str (xa_cons (xe_var 0 0) xa_nil))))))
def q_widest_1 : EF := (eComp (lsD (eV 0)) 1 [] (gV 0) bTrue (eN lenD (aCons (eV 0) aNil)))
def m_widest : List D → Option D := mOf ["words"]
    (sRet (eN maxD (aCons q_widest_1 aNil)))
theorem ok_widest (T : Txt K mg a) : FnOk P w K mg base CX0 1 a.f_widest a.d_widest ["words"] (LSp K ct [0] 0 m_widest) := by
  refine lif (ms := [.ow 0]) T.widest.fn sc_widest fun _ _ _ _ _ _ hr => ?_
  exact (xss_one (xs_ret (XE.ow (xe_callB (k := 0) (call_maxL rfl) opn_max rfl T.b_max bt_max (xa_cons (XO.sh (n := 0) (xo_cp (N := ["word"]) (om := [.ow 0]) (cap := []) (own := 1) (xic_list (n := 0) (xe_var 0 0)) (fun _ _ _ _ _ => (xgn (show List.Nodup (["word"] : List Str) from by decide +kernel))) (fun _ _ _ _ _ => xts_nil) (fun _ _ _ _ _ => (XE.ow (xln T.b_len (xa_cons (xe_var 0 0) xa_nil)))))) xa_nil)))))
def q_number_column_1 : EF := (eComp (lsD (eV 2)) 1 [3] (gV 0) bTrue (e2 (padD Txt.zfill) (eV 0) (eV 1)))
def q_number_column_2 : EF := (eComp (fun ρ => ((aCons (eV 1) aNil) ρ).bind rng1) 1 [0] (gV 0) bTrue (eN strD (aCons (e2 addD (eV 1) (eV 0)) aNil)))
def m_number_column : List D → Option D := mOf ["first", "many", "words", "width"]
    (sSeq (sSet 2 q_number_column_2)
    (sSeq (sSet 3 (fun ρ => ((aCons (e2 addD (fun ρ => ((aCons (eC (.str "round")) aNil) ρ).bind fun ds => some (.lst ds)) (eV 2)) aNil) ρ).bind fun ds => m_widest (ds ++ [])))
    (sRet (e2 addD (fun ρ => ((aCons (e2 (padD Txt.ljust) (eC (.str "round")) (eV 3)) aNil) ρ).bind fun ds => some (.lst ds)) q_number_column_1))))
theorem ok_number_column (T : Txt K mg a) : FnOk P w K mg base CX0 2 a.f_number_column a.d_number_column ["first", "many"] (LSp K ct [0, 0] 0 m_number_column) := by
  have G_widest := ok_widest (P := P) (w := w) (base := base) (ct := ct) T
  refine lif (ms := [.ow 0, .ow 0, .ow 0, .ow 0]) T.number_column.fn sc_number_column fun _ _ _ _ _ _ hr => ?_
  exact (xss_cons (xs_compSet (k := 0) (N := ["count", "first"]) (om := [.ow 0]) (cap := [0]) (own := 1) rfl sc_number_column.nd rfl (Or.inl rfl) (blk_of (by rfl)) rfl rfl (by decide) (XI.cc (xi_range1 (n := 0) T.b_range (xa_cons (xe_var 1 0) xa_nil))) (fun _ _ _ _ _ => (xgn (show List.Nodup (["count", "first"] : List Str) from by decide +kernel))) (fun _ _ _ _ _ => xts_nil) (fun _ _ _ _ _ => (XE.ow (xe_callTy (k := 0) call_str_int opn_str rfl T.b_str bt_str (xa_cons (XO.sh (n := 0) (xa0 (xe_var 1 0) (xe_var 0 0))) xa_nil)))))
    (xss_cons (xsS sc_number_column.nd (xo_c T.widest G_widest hr (xa_cons (XO.sh (n := 0) (xa0 (XO.sh (n := 0) (xo_lst (k := 0) (xao_cons (XE.ow (xe_str (n := 0))) xao_nil))) (xe_var 2 0))) xa_nil)))
    (xss_one (xs_ret (eos (xa0 (XO.sh (n := 0) (xo_lst (k := 0) (xao_cons (XE.ow (xe_ljust (k := 0) (xe_str (n := 0)) (xe_var 3 0))) xao_nil))) (XO.sh (n := 0) (xo_cp (N := ["word", "width"]) (om := [.ow 0]) (cap := [3]) (own := 1) (xic_list (n := 0) (xe_var 2 0)) (fun _ _ _ _ _ => (xgn (show List.Nodup (["word", "width"] : List Str) from by decide +kernel))) (fun _ _ _ _ _ => xts_nil) (fun _ _ _ _ _ => (XE.ow (xe_zfill (k := 0) (xe_var 0 0) (xe_var 1 0))))))))))))
def q_time_column_1 : EF := (eComp (lsD (eV 2)) 1 [3] (gV 0) bTrue (e2 (padD Txt.rjust) (eV 0) (eV 1)))
def q_time_column_2 : EF := (eComp (lsD (eV 1)) 1 [] (gV 0) bTrue (fun ρ => ((aCons (eV 0) aNil) ρ).bind fun ds => m_time_word (ds ++ [])))
def m_time_column : List D → Option D := mOf ["name", "times", "words", "width"]
    (sSeq (sSet 2 (e2 addD (fun ρ => ((aCons (eV 0) aNil) ρ).bind fun ds => some (.lst ds)) q_time_column_2))
    (sSeq (sSet 3 (fun ρ => ((aCons (eV 2) aNil) ρ).bind fun ds => m_widest (ds ++ [])))
    (sRet q_time_column_1)))
theorem ok_time_column (T : Txt K mg a) : FnOk P w K mg base CX0 2 a.f_time_column a.d_time_column ["name", "times"] (LSp K ct [0, 0] 0 m_time_column) := by
  have G_time_word := ok_time_word (P := P) (w := w) (base := base) (ct := ct) T
  have G_widest := ok_widest (P := P) (w := w) (base := base) (ct := ct) T
  refine lif (ms := [.ow 0, .ow 0, .ow 0, .ow 0]) T.time_column.fn sc_time_column fun _ _ _ _ _ _ hr => ?_
  exact (xss_cons (xsS sc_time_column.nd (eos (xa0 (XO.sh (n := 0) (xo_lst (k := 0) (xao_cons (XE.ow (xe_var 0 0)) xao_nil))) (XO.sh (n := 0) (xo_cp (N := ["time"]) (om := [.ow 0]) (cap := []) (own := 1) (xic_list (n := 0) (xe_var 1 0)) (fun _ _ _ _ _ => (xgn (show List.Nodup (["time"] : List Str) from by decide +kernel))) (fun _ _ _ _ _ => xts_nil) (fun _ _ _ _ _ => (xo_c T.time_word G_time_word hr (xa_cons (xe_var 0 0) xa_nil))))))))
    (xss_cons (xsS sc_time_column.nd (xo_c T.widest G_widest hr (xa_cons (xe_var 2 0) xa_nil)))
    (xss_one (xs_ret (eos (xo_cp (N := ["word", "width"]) (om := [.ow 0]) (cap := [3]) (own := 1) (xic_list (n := 0) (xe_var 2 0)) (fun _ _ _ _ _ => (xgn (show List.Nodup (["word", "width"] : List Str) from by decide +kernel))) (fun _ _ _ _ _ => xts_nil) (fun _ _ _ _ _ => (XE.ow (xe_rjust (k := 0) (xe_var 0 0) (xe_var 1 0))))))))))
def q_line_across_1 : EF := (eComp (lsD (eV 0)) 1 [1] (gV 0) bTrue (e2 ixD (eV 0) (eV 1)))
def m_line_across : List D → Option D := mOf ["columns", "place"]
    (sRet (e2 joinD (eC (.str " ")) q_line_across_1))
theorem ok_line_across (T : Txt K mg a) : FnOk P w K mg base CX0 1 a.f_line_across a.d_line_across ["columns", "place"] (LSp K ct [0, 0] 0 m_line_across) := by
  refine lif (ms := [.ow 0, .ow 0]) T.line_across.fn sc_line_across fun _ _ _ _ _ _ hr => ?_
  exact (xss_one (xs_ret (XE.ow (xe_join (k := 0) (xe_str (n := 0)) (XO.sh (n := 0) (xo_cp (N := ["column", "place"]) (om := [.ow 0]) (cap := [1]) (own := 1) (xic_list (n := 0) (xe_var 0 0)) (fun _ _ _ _ _ => (xgn (show List.Nodup (["column", "place"] : List Str) from by decide +kernel))) (fun _ _ _ _ _ => xts_nil) (fun _ _ _ _ _ => (XE.ow (xix (xe_var 0 0) (xe_var 1 0))))))))))
def q_almanac_1 : EF := (eComp (fun ρ => ((aCons (e2 addD (eN lenD (aCons (eV 1) aNil)) (eC (.int 1))) aNil) ρ).bind rng1) 1 [3] (gV 0) bTrue (fun ρ => ((aCons (eV 1) (aCons (eV 0) aNil)) ρ).bind fun ds => m_line_across (ds ++ [])))
def q_almanac_2 : EF := (eComp (lsD (eV 1)) 1 [4] (gV 0) bTrue (e2 ixD (eV 0) (eV 1)))
def b_almanac_1 : SF := (sApp 3 (fun ρ => ((aCons (eV 5) (aCons q_almanac_2 aNil)) ρ).bind fun ds => m_time_column (ds ++ [])))
def m_almanac : List D → Option D := mOf ["names", "rows", "first", "columns", "going", "name"]
    (sSeq (sSet 3 (fun ρ => ((aCons (fun ρ => ((aCons (eV 2) (aCons (eN lenD (aCons (eV 1) aNil)) aNil)) ρ).bind fun ds => m_number_column (ds ++ [])) aNil) ρ).bind fun ds => some (.lst ds)))
    (sSeq (sFor (fun ρ => ((aCons (eV 0) aNil) ρ).bind fun ds => match ds with | [.lst xs] => some (enumD 0 xs) | _ => none) (gT (gsCons (gV 4) (gsCons (gV 5) gsNil))) b_almanac_1)
    (sFz 3 (sRet (e2 joinD (eC (.str "\n")) q_almanac_1)))))
theorem ok_almanac (T : Txt K mg a) : FnOk P w K mg base CX0 3 a.f_almanac a.d_almanac ["names", "rows", "first"] (LSp K ct [0, 0, 0] 0 m_almanac) := by
  have G_number_column := ok_number_column (P := P) (w := w) (base := base) (ct := ct) T
  have G_time_column := ok_time_column (P := P) (w := w) (base := base) (ct := ct) T
  have G_line_across := ok_line_across (P := P) (w := w) (base := base) (ct := ct) T
  refine lif (ms := [.ow 0, .ow 0, .ow 0, .ow 1, .ow 0, .ow 0]) T.almanac.fn sc_almanac fun _ _ _ _ _ _ hr => ?_
  exact (xss_cons (xsS sc_almanac.nd (xo_lst (k := 0) (xao_cons (xo_c T.number_column G_number_column hr (xa_cons (xe_var 2 0) (xa_cons (xln T.b_len (xa_cons (xe_var 1 0) xa_nil)) xa_nil))) xao_nil)))
    (xss_cons (xs_for (xi_enum T.b_enumerate (xa_cons (xe_var 0 0) xa_nil)) (xg_tup (n := 1) rfl (xgs_cons (xgN sc_almanac.nd) (xgs_cons (xgN sc_almanac.nd) xgs_nil))) (xss_one (xs_append 3 rfl (xo_c T.time_column G_time_column hr (xa_cons (xe_var 5 0) (xa_cons (XO.sh (n := 0) (xo_cp (N := ["row", "going"]) (om := [.ow 0]) (cap := [4]) (own := 1) (xic_list (n := 0) (xe_var 1 0)) (fun _ _ _ _ _ => (xgn (show List.Nodup (["row", "going"] : List Str) from by decide +kernel))) (fun _ _ _ _ _ => xts_nil) (fun _ _ _ _ _ => (XE.ow (xix (xe_var 0 0) (xe_var 1 0)))))) xa_nil))))) PassesOwn.never rfl)
    (xss_fz (i := 3) rfl (xss_one (xs_ret (XE.ow (xe_join (k := 0) (xe_str (n := 0)) (XO.sh (n := 0) (xo_cp (N := ["place", "columns"]) (om := [.ow 0]) (cap := [3]) (own := 1) (XI.cc (xi_range1 (n := 0) T.b_range (xa_cons (XO.sh (n := 0) (xa0 (xln T.b_len (xa_cons (xe_var 1 0) xa_nil)) xi0)) xa_nil))) (fun _ _ _ _ _ => (xgn (show List.Nodup (["place", "columns"] : List Str) from by decide +kernel))) (fun _ _ _ _ _ => xts_nil) (fun _ _ _ _ _ => (xo_c T.line_across G_line_across hr (xa_cons (xe_var 1 0) (xa_cons (xe_var 0 0) xa_nil)))))))))))))
def m_law_cell_at : List D → Option D := mOf ["_law_script", "_law_k"]
    (sSeq (sIf (tb (e2 ltD (eV 1) (eN lenD (aCons (eV 0) aNil)))) (sRet (e2 ixD (eV 0) (eV 1))) sSkip)
    (sRet (eC (.int 0))))
theorem ok_law_cell_at (T : Txt K mg a) : FnOk P w K mg base CX0 1 a.f_law_cell_at a.d_law_cell_at ["_law_script", "_law_k"] (LSp K ct [0, 0] 0 m_law_cell_at) := by
  refine lif (ms := [.ow 0, .ow 0]) T.law_cell_at.fn sc_law_cell_at fun _ _ _ _ _ _ hr => ?_
  exact (xss_cons (xs_if (xt_cmp (k := 0) op_lt op2_lt (xe_var 1 0) (xln T.b_len (xa_cons (xe_var 0 0) xa_nil)) (nomark _)) (xss_one (xs_ret (XE.ow (xix (xe_var 0 0) (xe_var 1 0))))) xss_nil)
    (xss_one (xs_ret (XE.ow xi0))))
def m_law_mixed : List D → Option D := mOf ["_law_cell", "_law_k", "_law_number"]
    (sSeq (sIf (bAnd (tb (e2 geD (eV 0) (e2 shlD (eC (.int 1)) (eC (.int 90))))) (tb (e2 gtD (e2 shrD (eV 0) (e2 addD (eC (.int 64)) (e2 mulI (eC (.int 31)) (eV 1)))) (eC (.int 0))))) (sRet (e2 modD (e2 shrD (eV 0) (e2 addD (eC (.int 64)) (e2 mulI (eC (.int 31)) (eV 1)))) (eC (.int 2147483648)))) sSkip)
    (sSeq (sSet 2 (e2 modD (e2 mulI (e2 addD (e2 addD (eV 0) (e2 mulI (eC (.int 7919)) (eV 1))) (eC (.int 1))) (eC (.int 48271))) (eC (.int 2147483647))))
    (sSeq (sSet 2 (e2 modD (e2 mulI (eV 2) (e2 addD (e2 fdivD (eV 2) (eC (.int 1009))) (eC (.int 69621)))) (eC (.int 2147483647))))
    (sRet (e2 modD (e2 mulI (eV 2) (e2 addD (e2 fdivD (eV 2) (eC (.int 1013))) (eC (.int 16807)))) (eC (.int 2147483647)))))))
theorem ok_law_mixed (T : Txt K mg a) : FnOk P w K mg base CX0 1 a.f_law_mixed a.d_law_mixed ["_law_cell", "_law_k"] (LSp K ct [0, 0] 0 m_law_mixed) := by
  refine lif (ms := [.ow 0, .ow 0, .ow 0]) T.law_mixed.fn sc_law_mixed fun _ _ _ _ _ _ hr => ?_
  exact (xss_cons (xs_if (XW.t (xw_and (xt_cmp (k := 0) op_ge op2_ge (xe_var 0 0) (xe_op (k := 0) op_shl op2_shl xi0 xi0) (nomark _)) (xw_and1 (xt_cmp (k := 0) op_gt op2_gt (xe_op (k := 0) op_shr op2_shr (xe_var 0 0) (XO.sh (n := 0) (xa0 xi0 (xe_op (k := 0) op_mulS op2_mulI xi0 (xe_var 1 0))))) xi0 (nomark _))))) (xss_one (xs_ret (XE.ow (xe_op (k := 0) op_modN op2_mod (xe_op (k := 0) op_shr op2_shr (xe_var 0 0) (XO.sh (n := 0) (xa0 xi0 (xe_op (k := 0) op_mulS op2_mulI xi0 (xe_var 1 0))))) xi0)))) xss_nil)
    (xss_cons (xsS sc_law_mixed.nd (XE.ow (xe_op (k := 0) op_modN op2_mod (xe_op (k := 0) op_mulS op2_mulI (XO.sh (n := 0) (xa0 (XO.sh (n := 0) (xa0 (xe_var 0 0) (xe_op (k := 0) op_mulS op2_mulI xi0 (xe_var 1 0)))) xi0)) xi0) xi0)))
    (xss_cons (xsS sc_law_mixed.nd (XE.ow (xe_op (k := 0) op_modN op2_mod (xe_op (k := 0) op_mulS op2_mulI (xe_var 2 0) (XO.sh (n := 0) (xa0 (xe_op (k := 0) op_fdivS op2_fdiv (xe_var 2 0) xi0) xi0))) xi0)))
    (xss_one (xs_ret (XE.ow (xe_op (k := 0) op_modN op2_mod (xe_op (k := 0) op_mulS op2_mulI (xe_var 2 0) (XO.sh (n := 0) (xa0 (xe_op (k := 0) op_fdivS op2_fdiv (xe_var 2 0) xi0) xi0))) xi0)))))))
def b_law_names_1 : SF := (sSeq (sSet 10 (e2 addD (e2 fdivD (eV 0) (e2 addD (eC (.int 64)) (e2 mulI (eC (.int 37)) (eV 9)))) (e2 mulI (eV 7) (eN intB (aCons (e2 (eqD false) (eV 9) (eV 5)) aNil)))))
    (sIf (tb (e2 (eqD false) (eV 9) (eC (.int 0)))) (sSet 8 (e2 ixD (eV 2) (e2 modD (eV 10) (eC (.int 26))))) (sSet 8 (e2 addD (eV 8) (e2 ixD (eV 3) (e2 modD (eV 10) (eC (.int 36))))))))
def b_law_names_2 : SF := (sSeq (sSet 8 (eC (.str "")))
    (sSeq (sFor (fun ρ => ((aCons (eV 4) aNil) ρ).bind rng1) (gV 9) b_law_names_1)
    (sApp 6 (eV 8))))
def m_law_names : List D → Option D := mOf ["_law_cell", "_law_many", "_law_letters", "_law_signs", "_law_size", "_law_at", "_law_names_here", "_law_k", "_law_name", "_law_j", "_law_sign"]
    (sSeq (sSet 2 (eC (.str "abcdefghijklmnopqrstuvwxyz")))
    (sSeq (sSet 3 (e2 addD (eV 2) (eC (.str "0123456789"))))
    (sSeq (sSet 4 (e2 addD (eC (.int 1)) (e2 modD (eV 0) (eC (.int 8)))))
    (sSeq (sSet 5 (e2 modD (e2 fdivD (eV 0) (eC (.int 8))) (eV 4)))
    (sSeq (sSet 6 (fun ρ => (aNil ρ).bind fun ds => some (.lst ds)))
    (sSeq (sFor (fun ρ => ((aCons (eV 1) aNil) ρ).bind rng1) (gV 7) b_law_names_2)
    (sRet (eV 6))))))))
theorem ok_law_names (T : Txt K mg a) : FnOk P w K mg base CX0 1 a.f_law_names a.d_law_names ["_law_cell", "_law_many"] (LSp K ct [0, 0] 0 m_law_names) := by
  refine lif (ms := [.ow 0, .ow 0, .ow 0, .ow 0, .ow 0, .ow 0, .ow 1, .ow 0, .ow 0, .ow 0, .ow 0]) T.law_names.fn sc_law_names fun _ _ _ _ _ _ hr => ?_
  exact (xss_cons (xsS sc_law_names.nd (XE.ow (xe_str (n := 0))))
    (xss_cons (xsS sc_law_names.nd (eos (xa0 (xe_var 2 0) (xe_str (n := 0)))))
    (xss_cons (xsS sc_law_names.nd (eos (xa0 xi0 (xe_op (k := 0) op_modN op2_mod (xe_var 0 0) xi0))))
    (xss_cons (xsS sc_law_names.nd (XE.ow (xe_op (k := 0) op_modN op2_mod (xe_op (k := 0) op_fdivS op2_fdiv (xe_var 0 0) xi0) (xe_var 4 0))))
    (xss_cons (xsS sc_law_names.nd (xo_lst (k := 0) xao_nil))
    (xss_cons (xs_for (xi_range1 (n := 0) T.b_range (xa_cons (xe_var 1 0) xa_nil)) (xgN sc_law_names.nd) (xss_cons (xsS sc_law_names.nd (XE.ow (xe_str (n := 0))))
    (xss_cons (xs_for (xi_range1 (n := 0) T.b_range (xa_cons (xe_var 4 0) xa_nil)) (xgN sc_law_names.nd) (xss_cons (xsS sc_law_names.nd (eos (xa0 (xe_op (k := 0) op_fdivS op2_fdiv (xe_var 0 0) (XO.sh (n := 0) (xa0 xi0 (xe_op (k := 0) op_mulS op2_mulI xi0 (xe_var 9 0))))) (xe_op (k := 0) op_mulS op2_mulI (xe_var 7 0) (xe_callTy (k := 0) call_int1 opn_int rfl T.b_int bt_int (xa_cons (xe_cmp (k := 0) (op_eqD hr.u64) op2_eq (xe_var 9 0) (xe_var 5 0) (nomark _)) xa_nil))))))
    (xss_one (xs_if (xt_cmp (k := 0) (op_eqD hr.u64) op2_eq (xe_var 9 0) xi0 (nomark _)) (xss_one (xsS sc_law_names.nd (XE.ow (xix (xe_var 2 0) (xe_op (k := 0) op_modN op2_mod (xe_var 10 0) xi0))))) (xss_one (xsS sc_law_names.nd (eos (xa0 (xe_var 8 0) (xix (xe_var 3 0) (xe_op (k := 0) op_modN op2_mod (xe_var 10 0) xi0))))))))) PassesOwn.never rfl)
    (xss_one (xs_append 6 rfl (XE.ow (xe_var 8 0)))))) PassesOwn.never rfl)
    (xss_one (xs_retS (i := 6) rfl))))))))
def m_law_longer : List D → Option D := mOf ["_law_name", "_law_k"]
    (sRet (e2 addD (fun ρ => ((eV 0) ρ).bind fun d => (pNo ρ).bind fun l => ((pInt (e2 addD (eC (.int 1)) (e2 modD (eV 1) (eC (.int 8))))) ρ).bind fun h => sliceS d l h) (fun ρ => ((eV 0) ρ).bind fun d => (pNo ρ).bind fun l => ((pInt (e2 subD (eC (.int 8)) (eN lenD (aCons (eV 0) aNil)))) ρ).bind fun h => sliceS d l h)))
theorem ok_law_longer (T : Txt K mg a) : FnOk P w K mg base CX0 1 a.f_law_longer a.d_law_longer ["_law_name", "_law_k"] (LSp K ct [0, 0] 0 m_law_longer) := by
  refine lif (ms := [.ow 0, .ow 0]) T.law_longer.fn sc_law_longer fun _ _ _ _ _ _ hr => ?_
  exact (xss_one (xs_ret (eos (xa0 (xe_sliceS (k := 0) (xe_var 0 0) xp_no (xp_some (XO.sh (n := 0) (xa0 xi0 (xe_op (k := 0) op_modN op2_mod (xe_var 1 0) xi0))))) (xe_sliceS (k := 0) (xe_var 0 0) xp_no (xp_some (xe_op (k := 0) op_sub op2_sub xi0 (xln T.b_len (xa_cons (xe_var 0 0) xa_nil)))))))))
def m_law_time : List D → Option D := mOf ["_law_cell", "_law_k", "_law_number", "_law_some"]
    (sSeq (sSet 2 (fun ρ => ((aCons (eV 0) (aCons (eV 1) aNil)) ρ).bind fun ds => m_law_mixed (ds ++ [])))
    (sSeq (sSet 3 (fun ρ => ((aCons (eC .non) (aCons (e2 modD (e2 fdivD (eV 2) (eC (.int 8))) (eC (.int 10))) (aCons (e2 modD (e2 fdivD (eV 2) (eC (.int 8))) (eC (.int 1000))) (aCons (e2 subD (eC (.int 0)) (e2 modD (e2 fdivD (eV 2) (eC (.int 8))) (eC (.int 1000)))) (aCons (e2 modD (e2 mulI (eV 2) (eC (.int 48271))) (e2 addD (e2 powD (eC (.int 10)) (eC (.int 12))) (eC (.int 1)))) aNil))))) ρ).bind fun ds => some (.lst ds)))
    (sRet (e2 ixD (e2 addD (eV 3) (fun ρ => ((aCons (e2 subD (eC (.int 0)) (e2 modD (e2 mulI (eV 2) (eC (.int 69621))) (e2 powD (eC (.int 10)) (eC (.int 12))))) (aCons (e2 modD (e2 fdivD (eV 2) (eC (.int 8))) (e2 powD (eC (.int 10)) (eC (.int 5)))) (aCons (eC (.int 0)) aNil))) ρ).bind fun ds => some (.lst ds))) (e2 modD (eV 2) (eC (.int 8)))))))
theorem ok_law_time (T : Txt K mg a) : FnOk P w K mg base CX0 2 a.f_law_time a.d_law_time ["_law_cell", "_law_k"] (LSp K ct [0, 0] 0 m_law_time) := by
  have G_law_mixed := ok_law_mixed (P := P) (w := w) (base := base) (ct := ct) T
  refine lif (ms := [.ow 0, .ow 0, .ow 0, .ow 0]) T.law_time.fn sc_law_time fun _ _ _ _ _ _ hr => ?_
  exact (xss_cons (xsS sc_law_time.nd (xo_c T.law_mixed G_law_mixed hr (xa_cons (xe_var 0 0) (xa_cons (xe_var 1 0) xa_nil))))
    (xss_cons (xsS sc_law_time.nd (eos (xo_lst (k := 0) (xao_cons (XE.ow xn0) (xao_cons (XE.ow (xe_op (k := 0) op_modN op2_mod (xe_op (k := 0) op_fdivS op2_fdiv (xe_var 2 0) xi0) xi0)) (xao_cons (XE.ow (xe_op (k := 0) op_modN op2_mod (xe_op (k := 0) op_fdivS op2_fdiv (xe_var 2 0) xi0) xi0)) (xao_cons (XE.ow (xe_op (k := 0) op_sub op2_sub xi0 (xe_op (k := 0) op_modN op2_mod (xe_op (k := 0) op_fdivS op2_fdiv (xe_var 2 0) xi0) xi0))) (xao_cons (XE.ow (xe_op (k := 0) op_modN op2_mod (xe_op (k := 0) op_mulS op2_mulI (xe_var 2 0) xi0) (XO.sh (n := 0) (xa0 (xe_op (k := 0) op_pow op2_pow xi0 xi0) xi0)))) xao_nil))))))))
    (xss_one (xs_ret (XE.ow (xix (XO.sh (n := 0) (xa0 (xe_var 3 0) (XO.sh (n := 0) (xo_lst (k := 0) (xao_cons (XE.ow (xe_op (k := 0) op_sub op2_sub xi0 (xe_op (k := 0) op_modN op2_mod (xe_op (k := 0) op_mulS op2_mulI (xe_var 2 0) xi0) (xe_op (k := 0) op_pow op2_pow xi0 xi0)))) (xao_cons (XE.ow (xe_op (k := 0) op_modN op2_mod (xe_op (k := 0) op_fdivS op2_fdiv (xe_var 2 0) xi0) (xe_op (k := 0) op_pow op2_pow xi0 xi0))) (xao_cons (XE.ow xi0) xao_nil))))))) (xe_op (k := 0) op_modN op2_mod (xe_var 2 0) xi0)))))))
def m_law_word : List D → Option D := mOf ["_law_time_here"]
    (sSeq (sIf (tb (e2 (isD false) (eV 0) (eC .non))) (sRet (eC (.str "-"))) sSkip)
    (sRet (eN strD (aCons (eV 0) aNil))))
theorem ok_law_word (T : Txt K mg a) : FnOk P w K mg base CX0 1 a.f_law_word a.d_law_word ["_law_time_here"] (LSp K ct [0] 0 m_law_word) := by
  refine lif (ms := [.ow 0]) T.law_word.fn sc_law_word fun _ _ _ _ _ _ hr => ?_
  exact (xss_cons (xs_if (xt_cmp (k := 0) op_is op2_is (xe_var 0 0) xn0 (nomark _)) (xss_one (xs_ret (XE.ow (xe_str (n := 0))))) xss_nil)
    (xss_one (xs_ret (XE.ow (xe_callTy (k := 0) call_str_int opn_str rfl T.b_str bt_str (xa_cons (xe_var 0 0) xa_nil))))))
def m_law_filled : List D → Option D := mOf ["_law_word_here", "_law_wide", "_law_sign"]
    (sRet (e2 addD (e2 mulS (eV 2) (e2 subD (eV 1) (eN lenD (aCons (eV 0) aNil)))) (eV 0)))
theorem ok_law_filled (T : Txt K mg a) : FnOk P w K mg base CX0 1 a.f_law_filled a.d_law_filled ["_law_word_here", "_law_wide", "_law_sign"] (LSp K ct [0, 0, 0] 0 m_law_filled) := by
  refine lif (ms := [.ow 0, .ow 0, .ow 0]) T.law_filled.fn sc_law_filled fun _ _ _ _ _ _ hr => ?_
  exact (xss_one (xs_ret (eos (xa0 (xe_op (k := 0) op_mulStr op2_mulS (xe_var 2 0) (xe_op (k := 0) op_sub op2_sub (xe_var 1 0) (xln T.b_len (xa_cons (xe_var 0 0) xa_nil)))) (xe_var 0 0)))))
def q_law_due_1 : EF := (eComp (lsD (e2 ixD (eV 3) (eV 4))) 1 [] (gV 0) bTrue (eN lenD (aCons (eV 0) aNil)))
def b_law_due_1 : SF := (sSeq (sSet 8 (eN maxD (aCons q_law_due_1 aNil)))
    (sIf (bAnd (tb (e2 (eqD false) (eV 4) (eC (.int 0)))) (tb (e2 (eqD false) (eV 6) (eC (.int 0))))) (sApp 7 (e2 addD (eC (.str "round")) (e2 mulS (eC (.str " ")) (e2 subD (eV 8) (eC (.int 5)))))) (sApp 7 (fun ρ => ((aCons (e2 ixD (e2 ixD (eV 3) (eV 4)) (eV 6)) (aCons (eV 8) (aCons (e2 ixD (fun ρ => ((aCons (eC (.str " ")) (aCons (eC (.str "0")) aNil)) ρ).bind fun ds => some (.lst ds)) (eN intB (aCons (e2 (eqD false) (eV 4) (eC (.int 0))) aNil))) aNil))) ρ).bind fun ds => m_law_filled (ds ++ [])))))
def b_law_due_2 : SF := (sSeq (sSet 7 (fun ρ => (aNil ρ).bind fun ds => some (.lst ds)))
    (sSeq (sFor (fun ρ => ((aCons (eN lenD (aCons (eV 3) aNil)) aNil) ρ).bind rng1) (gV 4) b_law_due_1)
    (sApp 5 (e2 joinD (eC (.str " ")) (eV 7)))))
def q_law_due_2 : EF := (eComp (lsD (eV 1)) 1 [4] (gV 0) bTrue (fun ρ => ((aCons (e2 ixD (eV 0) (eV 1)) aNil) ρ).bind fun ds => m_law_word (ds ++ [])))
def b_law_due_3 : SF := (sApp 3 (e2 addD (fun ρ => ((aCons (e2 ixD (eV 0) (eV 4)) aNil) ρ).bind fun ds => some (.lst ds)) q_law_due_2))
def q_law_due_3 : EF := (eComp (fun ρ => ((aCons (eN lenD (aCons (eV 1) aNil)) aNil) ρ).bind rng1) 1 [2] (gV 0) bTrue (eN strD (aCons (e2 addD (eV 1) (eV 0)) aNil)))
def m_law_due : List D → Option D := mOf ["_law_names_here", "_law_rows", "_law_first", "_law_columns", "_law_j", "_law_lines", "_law_k", "_law_parts", "_law_wide"]
    (sSeq (sSet 3 (fun ρ => ((aCons (e2 addD (fun ρ => ((aCons (eC (.str "round")) aNil) ρ).bind fun ds => some (.lst ds)) q_law_due_3) aNil) ρ).bind fun ds => some (.lst ds)))
    (sSeq (sFor (fun ρ => ((aCons (eN lenD (aCons (eV 0) aNil)) aNil) ρ).bind rng1) (gV 4) b_law_due_3)
    (sSeq (sSet 5 (fun ρ => (aNil ρ).bind fun ds => some (.lst ds)))
    (sSeq (sFor (fun ρ => ((aCons (e2 addD (eN lenD (aCons (eV 1) aNil)) (eC (.int 1))) aNil) ρ).bind rng1) (gV 6) b_law_due_2)
    (sRet (e2 joinD (eC (.str "\n")) (eV 5)))))))
theorem ok_law_due (T : Txt K mg a) : FnOk P w K mg base CX0 2 a.f_law_due a.d_law_due ["_law_names_here", "_law_rows", "_law_first"] (LSp K ct [0, 0, 0] 0 m_law_due) := by
  have G_law_word := ok_law_word (P := P) (w := w) (base := base) (ct := ct) T
  have G_law_filled := ok_law_filled (P := P) (w := w) (base := base) (ct := ct) T
  refine lif (ms := [.ow 0, .ow 0, .ow 0, .ow 1, .ow 0, .ow 1, .ow 0, .ow 1, .ow 0]) T.law_due.fn sc_law_due fun _ _ _ _ _ _ hr => ?_
  exact (xss_cons (xsS sc_law_due.nd (xo_lst (k := 0) (xao_cons (eos (xa0 (XO.sh (n := 0) (xo_lst (k := 0) (xao_cons (XE.ow (xe_str (n := 0))) xao_nil))) (XO.sh (n := 0) (xo_cp (N := ["_law_k", "_law_first"]) (om := [.ow 0]) (cap := [2]) (own := 1) (XI.cc (xi_range1 (n := 0) T.b_range (xa_cons (xln T.b_len (xa_cons (xe_var 1 0) xa_nil)) xa_nil))) (fun _ _ _ _ _ => (xgn (show List.Nodup (["_law_k", "_law_first"] : List Str) from by decide +kernel))) (fun _ _ _ _ _ => xts_nil) (fun _ _ _ _ _ => (XE.ow (xe_callTy (k := 0) call_str_int opn_str rfl T.b_str bt_str (xa_cons (XO.sh (n := 0) (xa0 (xe_var 1 0) (xe_var 0 0))) xa_nil)))))))) xao_nil)))
    (xss_cons (xs_for (xi_range1 (n := 0) T.b_range (xa_cons (xln T.b_len (xa_cons (xe_var 0 0) xa_nil)) xa_nil)) (xgN sc_law_due.nd) (xss_one (xs_append 3 rfl (eos (xa0 (XO.sh (n := 0) (xo_lst (k := 0) (xao_cons (XE.ow (xix (xe_var 0 0) (xe_var 4 0))) xao_nil))) (XO.sh (n := 0) (xo_cp (N := ["_law_row", "_law_j"]) (om := [.ow 0]) (cap := [4]) (own := 1) (xic_list (n := 0) (xe_var 1 0)) (fun _ _ _ _ _ => (xgn (show List.Nodup (["_law_row", "_law_j"] : List Str) from by decide +kernel))) (fun _ _ _ _ _ => xts_nil) (fun _ _ _ _ _ => (xo_c T.law_word G_law_word hr (xa_cons (xix (xe_var 0 0) (xe_var 1 0)) xa_nil))))))))) PassesOwn.never rfl)
    (xss_cons (xsS sc_law_due.nd (xo_lst (k := 0) xao_nil))
    (xss_cons (xs_for (xi_range1 (n := 0) T.b_range (xa_cons (XO.sh (n := 0) (xa0 (xln T.b_len (xa_cons (xe_var 1 0) xa_nil)) xi0)) xa_nil)) (xgN sc_law_due.nd) (xss_cons (xsS sc_law_due.nd (xo_lst (k := 0) xao_nil))
    (xss_cons (xs_for (xi_range1 (n := 0) T.b_range (xa_cons (xln T.b_len (xa_cons (xe_var 3 1) xa_nil)) xa_nil)) (xgN sc_law_due.nd) (xss_cons (xsS sc_law_due.nd (XE.ow (xe_callB (k := 0) (call_maxL rfl) opn_max rfl T.b_max bt_max (xa_cons (XO.sh (n := 0) (xo_cp (N := ["_law_word_here"]) (om := [.ow 0]) (cap := []) (own := 1) (xic_list (n := 0) (xe_ix (n := 1) ix_seq op2_ix (xe_var 3 1) (xe_var 4 0) (fun _ _ => rfl))) (fun _ _ _ _ _ => (xgn (show List.Nodup (["_law_word_here"] : List Str) from by decide +kernel))) (fun _ _ _ _ _ => xts_nil) (fun _ _ _ _ _ => (XE.ow (xln T.b_len (xa_cons (xe_var 0 0) xa_nil)))))) xa_nil))))
    (xss_one (xs_if (XW.t (xw_and (xt_cmp (k := 0) (op_eqD hr.u64) op2_eq (xe_var 4 0) xi0 (nomark _)) (xw_and1 (xt_cmp (k := 0) (op_eqD hr.u64) op2_eq (xe_var 6 0) xi0 (nomark _))))) (xss_one (xs_append 7 rfl (eos (xa0 (xe_str (n := 0)) (xe_op (k := 0) op_mulStr op2_mulS (xe_str (n := 0)) (xe_op (k := 0) op_sub op2_sub (xe_var 8 0) xi0)))))) (xss_one (xs_append 7 rfl (xo_c T.law_filled G_law_filled hr (xa_cons (xix (xe_ix (n := 1) ix_seq op2_ix (xe_var 3 1) (xe_var 4 0) (fun _ _ => rfl)) (xe_var 6 0)) (xa_cons (xe_var 8 0) (xa_cons (xix (XO.sh (n := 0) (xo_lst (k := 0) (xao_cons (XE.ow (xe_str (n := 0))) (xao_cons (XE.ow (xe_str (n := 0))) xao_nil)))) (xe_callTy (k := 0) call_int1 opn_int rfl T.b_int bt_int (xa_cons (xe_cmp (k := 0) (op_eqD hr.u64) op2_eq (xe_var 4 0) xi0 (nomark _)) xa_nil))) xa_nil))))))))) PassesOwn.never rfl)
    (xss_one (xs_append 5 rfl (XE.ow (xe_join (k := 0) (xe_str (n := 0)) (xe_var 7 1))))))) PassesOwn.never rfl)
    (xss_one (xs_ret (XE.ow (xe_join (k := 0) (xe_str (n := 0)) (xe_var 5 1)))))))))
def q_law_1 : EF := (eComp (lsD (eV 3)) 1 [] (gV 0) bTrue (eN listD (aCons (eV 0) aNil)))
def q_law_2 : EF := (eComp (fun ρ => ((aCons (eN lenD (aCons (eV 2) aNil)) aNil) ρ).bind rng1) 1 [5, 4] (gV 0) bTrue (fun ρ => ((aCons (eV 1) (aCons (e2 addD (e2 mulI (eC (.int 30)) (eV 2)) (eV 0)) aNil)) ρ).bind fun ds => m_law_time (ds ++ [])))
def b_law_1 : SF := (sSeq (sSet 5 (fun ρ => ((aCons (eV 0) (aCons (e2 addD (eC (.int 2)) (eV 4)) aNil)) ρ).bind fun ds => m_law_cell_at (ds ++ [])))
    (sApp 3 q_law_2))
def q_law_3 : EF := (eComp (fun ρ => ((aCons (eN lenD (aCons (eV 2) aNil)) aNil) ρ).bind rng1) 1 [2] (gV 0) bTrue (fun ρ => ((aCons (e2 ixD (eV 1) (eV 0)) (aCons (eV 0) aNil)) ρ).bind fun ds => m_law_longer (ds ++ [])))
def m_law : List D → Option D := mOf ["_law_script", "_law_cell", "_law_names_here", "_law_rows", "_law_k", "_law_more", "_law_second", "_law_first", "_law_handed", "_law_found"]
    (sSeq (sSet 1 (fun ρ => ((aCons (eV 0) (aCons (eC (.int 0)) aNil)) ρ).bind fun ds => m_law_cell_at (ds ++ [])))
    (sSeq (sSet 2 (fun ρ => ((aCons (eV 1) (aCons (e2 modD (fun ρ => ((aCons (eV 1) (aCons (eC (.int 2)) aNil)) ρ).bind fun ds => m_law_mixed (ds ++ [])) (eC (.int 8))) aNil)) ρ).bind fun ds => m_law_names (ds ++ [])))
    (sSeq (sIf (tb (e2 (eqD false) (e2 modD (eV 1) (eC (.int 3))) (eC (.int 1)))) (sSet 2 q_law_3) sSkip)
    (sSeq (sSet 3 (fun ρ => (aNil ρ).bind fun ds => some (.lst ds)))
    (sSeq (sFor (fun ρ => ((aCons (e2 modD (fun ρ => ((aCons (eV 1) (aCons (eC (.int 3)) aNil)) ρ).bind fun ds => m_law_mixed (ds ++ [])) (eC (.int 21))) aNil) ρ).bind rng1) (gV 4) b_law_1)
    (sFz 3 (sSeq (sSet 6 (fun ρ => ((aCons (eV 0) (aCons (eC (.int 1)) aNil)) ρ).bind fun ds => m_law_cell_at (ds ++ [])))
    (sSeq (sSet 7 (e2 ixD (fun ρ => ((aCons (e2 modD (e2 fdivD (eV 6) (eC (.int 4))) (eC (.int 21))) (aCons (e2 modD (e2 fdivD (eV 6) (eC (.int 4))) (eC (.int 100000))) (aCons (e2 modD (e2 fdivD (eV 6) (eC (.int 4))) (e2 powD (eC (.int 10)) (eC (.int 9)))) (aCons (eC (.int 99990)) aNil)))) ρ).bind fun ds => some (.lst ds)) (e2 modD (eV 6) (eC (.int 4)))))
    (sSeq (sSet 8 (fun ρ => ((aCons (eN listD (aCons (eV 2) aNil)) (aCons q_law_1 aNil)) ρ).bind fun ds => some (.lst ds)))
    (sSeq (sSet 9 (fun ρ => ((aCons (e2 ixD (eV 8) (eC (.int 0))) (aCons (e2 ixD (eV 8) (eC (.int 1))) (aCons (eV 7) aNil))) ρ).bind fun ds => m_almanac (ds ++ [])))
    (sSeq (sIf (bOr (tb (e2 (eqD true) (eV 8) (fun ρ => ((aCons (eV 2) (aCons (eV 3) aNil)) ρ).bind fun ds => some (.lst ds)))) (bNot (tb (e1 (isiD "str") (eV 9))))) (sRet (eC (.bl false))) sSkip)
    (sRet (e2 (eqD false) (eV 9) (fun ρ => ((aCons (eV 2) (aCons (eV 3) (aCons (eV 7) aNil))) ρ).bind fun ds => m_law_due (ds ++ [])))))))))))))))
theorem ok_law (T : Txt K mg a) : FnOk P w K mg base CX0 4 a.f_law a.d_law ["_law_script"] (LSp K ct [0] 0 m_law) := by
  have G_law_cell_at := ok_law_cell_at (P := P) (w := w) (base := base) (ct := ct) T
  have G_law_names := ok_law_names (P := P) (w := w) (base := base) (ct := ct) T
  have G_law_mixed := ok_law_mixed (P := P) (w := w) (base := base) (ct := ct) T
  have G_law_longer := ok_law_longer (P := P) (w := w) (base := base) (ct := ct) T
  have G_law_time := ok_law_time (P := P) (w := w) (base := base) (ct := ct) T
  have G_almanac := ok_almanac (P := P) (w := w) (base := base) (ct := ct) T
  have G_law_due := ok_law_due (P := P) (w := w) (base := base) (ct := ct) T
  refine lif (ms := [.ow 0, .ow 0, .ow 0, .ow 1, .ow 0, .ow 0, .ow 0, .ow 0, .ow 0, .ow 0]) T.law.fn sc_law fun _ _ _ _ _ _ hr => ?_
  exact (xss_cons (xsS sc_law.nd (xo_c T.law_cell_at G_law_cell_at hr (xa_cons (xe_var 0 0) (xa_cons xi0 xa_nil))))
    (xss_cons (xsS sc_law.nd (xo_c T.law_names G_law_names hr (xa_cons (xe_var 1 0) (xa_cons (xe_op (k := 0) op_modN op2_mod (XO.sh (n := 0) (xo_c T.law_mixed G_law_mixed hr (xa_cons (xe_var 1 0) (xa_cons xi0 xa_nil)))) xi0) xa_nil))))
    (xss_cons (xs_if (xt_cmp (k := 0) (op_eqD hr.u64) op2_eq (xe_op (k := 0) op_modN op2_mod (xe_var 1 0) xi0) xi0 (nomark _)) (xss_one (xsS sc_law.nd (eos (xo_cp (N := ["_law_k", "_law_names_here"]) (om := [.ow 0]) (cap := [2]) (own := 1) (XI.cc (xi_range1 (n := 0) T.b_range (xa_cons (xln T.b_len (xa_cons (xe_var 2 0) xa_nil)) xa_nil))) (fun _ _ _ _ _ => (xgn (show List.Nodup (["_law_k", "_law_names_here"] : List Str) from by decide +kernel))) (fun _ _ _ _ _ => xts_nil) (fun _ _ _ _ _ => (xo_c T.law_longer G_law_longer hr (xa_cons (xix (xe_var 1 0) (xe_var 0 0)) (xa_cons (xe_var 0 0) xa_nil)))))))) xss_nil)
    (xss_cons (xsS sc_law.nd (xo_lst (k := 0) xao_nil))
    (xss_cons (xs_for (xi_range1 (n := 0) T.b_range (xa_cons (xe_op (k := 0) op_modN op2_mod (XO.sh (n := 0) (xo_c T.law_mixed G_law_mixed hr (xa_cons (xe_var 1 0) (xa_cons xi0 xa_nil)))) xi0) xa_nil)) (xgN sc_law.nd) (xss_cons (xsS sc_law.nd (xo_c T.law_cell_at G_law_cell_at hr (xa_cons (xe_var 0 0) (xa_cons (XO.sh (n := 0) (xa0 xi0 (xe_var 4 0))) xa_nil))))
    (xss_one (xs_append 3 rfl (eos (xo_cp (N := ["_law_j", "_law_more", "_law_k"]) (om := [.ow 0]) (cap := [5, 4]) (own := 1) (XI.cc (xi_range1 (n := 0) T.b_range (xa_cons (xln T.b_len (xa_cons (xe_var 2 0) xa_nil)) xa_nil))) (fun _ _ _ _ _ => (xgn (show List.Nodup (["_law_j", "_law_more", "_law_k"] : List Str) from by decide +kernel))) (fun _ _ _ _ _ => xts_nil) (fun _ _ _ _ _ => (xo_c T.law_time G_law_time hr (xa_cons (xe_var 1 0) (xa_cons (XO.sh (n := 0) (xa0 (xe_op (k := 0) op_mulS op2_mulI xi0 (xe_var 2 0)) (xe_var 0 0))) xa_nil))))))))) PassesOwn.never rfl)
    (xss_fz (i := 3) rfl (xss_cons (xsS sc_law.nd (xo_c T.law_cell_at G_law_cell_at hr (xa_cons (xe_var 0 0) (xa_cons xi0 xa_nil))))
    (xss_cons (xsS sc_law.nd (XE.ow (xix (XO.sh (n := 0) (xo_lst (k := 0) (xao_cons (XE.ow (xe_op (k := 0) op_modN op2_mod (xe_op (k := 0) op_fdivS op2_fdiv (xe_var 6 0) xi0) xi0)) (xao_cons (XE.ow (xe_op (k := 0) op_modN op2_mod (xe_op (k := 0) op_fdivS op2_fdiv (xe_var 6 0) xi0) xi0)) (xao_cons (XE.ow (xe_op (k := 0) op_modN op2_mod (xe_op (k := 0) op_fdivS op2_fdiv (xe_var 6 0) xi0) (xe_op (k := 0) op_pow op2_pow xi0 xi0))) (xao_cons (XE.ow xi0) xao_nil)))))) (xe_op (k := 0) op_modN op2_mod (xe_var 6 0) xi0))))
    (xss_cons (xsS sc_law.nd (eos (xo_lst (k := 0) (xao_cons (eos (xo_callTy call_list_of (opn_list (n := 0) (by decide)) rfl T.b_list bt_list (xa_cons (xe_var 2 0) xa_nil))) (xao_cons (eos (xo_cp (N := ["_law_row"]) (om := [.ow 0]) (cap := []) (own := 1) (xic_list (n := 0) (xe_var 3 0)) (fun _ _ _ _ _ => (xgn (show List.Nodup (["_law_row"] : List Str) from by decide +kernel))) (fun _ _ _ _ _ => xts_nil) (fun _ _ _ _ _ => (eos (xo_callTy call_list_of (opn_list (n := 0) (by decide)) rfl T.b_list bt_list (xa_cons (xe_var 0 0) xa_nil)))))) xao_nil)))))
    (xss_cons (xsS sc_law.nd (xo_c T.almanac G_almanac hr (xa_cons (xix (xe_var 8 0) xi0) (xa_cons (xix (xe_var 8 0) xi0) (xa_cons (xe_var 7 0) xa_nil)))))
    (xss_cons (xs_if (XW.t (xw_or (xt_cmp (k := 0) (op_neD hr.u64) op2_eq (xe_var 8 0) (XO.sh (n := 0) (xo_lst (k := 0) (xao_cons (XE.ow (xe_var 2 0)) (xao_cons (XE.ow (xe_var 3 0)) xao_nil)))) (nomark _)) (xw_or1 (xt_not (xt_val (xe_isi (k := 0) (by decide) T.b_isinstance T.b_str bt_str (xe_var 9 0))))))) (xss_one (xs_ret (XE.ow (xe_bl (n := 0))))) xss_nil)
    (xss_one (xs_ret (XE.ow (xe_cmp (k := 0) (op_eqD hr.u64) op2_eq (xe_var 9 0) (XO.sh (n := 0) (xo_c T.law_due G_law_due hr (xa_cons (xe_var 2 0) (xa_cons (xe_var 3 0) (xa_cons (xe_var 7 0) xa_nil))))) (nomark _))))))))))))))))
end
local macro_rules | `(tactic| walk_at "mir") => `(tactic| simp -implicitDefEqProofs [mOf, startD, sSeq, sIf, sSet, sRet, sRetN, sDrop, sPar, sAsg, sApp, sFor, lsD, asL_lst, sSkip, eV, eC, e1, e2, eN, aNil, aCons, pNo, pInt, sliceD_lst, tb, asB_bl, bNot, bAnd, bOr, eB, eIf, gV, gT, gsCons, gsNil, addD_int, subD_int, ltD_int, leD_int, gtD_int, geD_int, lenD_lst, lenD_tup, negD_int, absD_int, isD_non, isD_bl, D.isN, D.isB, eqD_int, eqD_bl, fdivD_lit, modD_pos, mulI_l, mulI_r, powD_lit, shlD_lit, shrD_lit, sliceD_lst, max2D_int, min2D_int, sFz, outFz_rt, outFz_nx, *])

theorem rng_of {f : EF} {r : L3.Env} {n : Nat} (h : f r = some (.int (n : Int))) (hn : n ≤ 1000000) : ((aCons f aNil) r).bind rng1 = some ((List.range n).map fun (t : Nat) => D.int (t : Int)) := by
  have e : (aCons f aNil) r = some [.int (n : Int)] := by unfold aCons; rw [h]; rfl
  rw [e, Option.bind_some, rng1_int (by omega) (by omega)]
  unfold upto
  simp
theorem comp_of {α : Type} {fi : L3.Env → Option (List D)} {own : Nat} {cap : List Nat} {g : D → L3.Env → Option L3.Env} {p : BF} {f : EF} {r : L3.Env} (enc : α → D) (q : α → Bool) (h : α → D) (xs : List α) (hi : fi r = some (xs.map enc)) (hl : xs.length ≤ 16777216)
    (st : ∀ x ∈ xs, ∃ ρ1, g (enc x) (List.replicate own none ++ capsD r cap) = some ρ1 ∧ p ρ1 = some (q x) ∧ (q x = true → f ρ1 = some (h x))) : eComp fi own cap g p f r = some (.lst ((xs.filter q).map h)) := by
  unfold eComp
  rw [hi]
  simp only [Option.bind_some, List.length_map]
  rw [if_pos hl, compD_map enc q h xs st]
  rfl
theorem comp_all {α : Type} {fi : L3.Env → Option (List D)} {own : Nat} {cap : List Nat} {g : D → L3.Env → Option L3.Env} {f : EF} {r : L3.Env} (enc : α → D) (h : α → D) (xs : List α) (hi : fi r = some (xs.map enc)) (hl : xs.length ≤ 16777216)
    (st : ∀ x ∈ xs, ∃ ρ1, g (enc x) (List.replicate own none ++ capsD r cap) = some ρ1 ∧ f ρ1 = some (h x)) : eComp fi own cap g bTrue f r = some (.lst (xs.map h)) := by
  have := comp_of (p := bTrue) enc (fun _ => true) h xs hi hl fun x hx => by
    obtain ⟨ρ1, h1, h2⟩ := st x hx
    exact ⟨ρ1, h1, rfl, fun _ => h2⟩
  rw [this, List.filter_eq_self.mpr fun _ _ => rfl]
theorem enum_zip {α : Type} (enc : α → D) : ∀ (as : List α) (k : Nat), enumD k (as.map enc) = (as.zipIdx k).map fun (p : α × Nat) => D.tup [.int (p.2 : Int), enc p.1]
  | [], _ => rfl
  | a :: as, k => by
    show _ :: enumD (k + 1) (as.map enc) = _ :: _
    rw [enum_zip enc as (k + 1)]
theorem t_cell (ns : List Int) (i : Int) (hi : 0 ≤ i) : ∃ c, m_law_cell_at [.lst (ns.map .int), .int i] = some (.int c) := by
  obtain ⟨k, rfl⟩ : ∃ k : Nat, i = k := ⟨i.toNat, by omega⟩
  unfold m_law_cell_at
  by_cases h : k < ns.length
  · refine ⟨ns[k], ?_⟩
    have : ixD (.lst (ns.map .int)) (.int (k : Int)) = some (.int ns[k]) := atI_map D.int (.inl rfl) (by simp [h])
    walk_at "mir"
  · refine ⟨0, ?_⟩
    walk_at "mir"
theorem t_mixed (c : Int) {k : Int} (h0 : 0 ≤ k) (h1 : k ≤ 1000000) : ∃ r : Nat, m_law_mixed [.int c, .int k] = some (.int (r : Int)) ∧ r < 2147483648 := by
  have m0 : mulI (.int 31) (.int k) = some (.int (31 * k)) := mulI_l (by decide) (by decide)
  have s0 : shrD (.int c) (.int (64 + 31 * k)) = some (.int (c / 2 ^ (64 + 31 * k).toNat)) := shrD_lit (by omega)
  have fin : ∀ z : Int, ∀ m : Int, 0 < m → m ≤ 2147483648 → ∃ r : Nat, (some (D.int (z % m)) : Option D) = some (.int (r : Int)) ∧ r < 2147483648 := fun z m hm hm2 => by
    have a1 := Int.emod_nonneg z (by omega : m ≠ 0)
    have a2 := Int.emod_lt_of_pos z hm
    exact ⟨(z % m).toNat, by rw [Int.toNat_of_nonneg a1], by omega⟩
  generalize hn : (c + 7919 * k + 1) * 48271 % 2147483647 = n1
  have b1 : 0 ≤ n1 ∧ n1 < 2147483647 := by omega
  have m1 : mulI (.int 7919) (.int k) = some (.int (7919 * k)) := mulI_l (by decide) (by decide)
  have m2 : mulI (.int (c + 7919 * k + 1)) (.int 48271) = some (.int ((c + 7919 * k + 1) * 48271)) := mulI_r (by decide) (by decide)
  have m3 : mulI (.int n1) (.int (n1 / 1009 + 69621)) = some (.int (n1 * (n1 / 1009 + 69621))) := mulI_l (by omega) (by omega)
  generalize hn2 : n1 * (n1 / 1009 + 69621) % 2147483647 = n2
  have b2 : 0 ≤ n2 ∧ n2 < 2147483647 := by omega
  have m4 : mulI (.int n2) (.int (n2 / 1013 + 16807)) = some (.int (n2 * (n2 / 1013 + 16807))) := mulI_l (by omega) (by omega)
  unfold m_law_mixed
  by_cases hr : (1237940039285380274899124224 : Int) ≤ c
  · by_cases hs : c / 2 ^ (64 + 31 * k).toNat > 0
    · obtain ⟨r, e1, e2⟩ := fin (c / 2 ^ (64 + 31 * k).toNat) 2147483648 (by decide) (by decide)
      refine ⟨r, ?_, e2⟩
      rw [← e1]
      generalize c / 2 ^ (64 + 31 * k).toNat = q at s0 hs
      clear e1 e2 fin hn hn2 b1 b2 h0 h1
      walk_at "mir"
    · obtain ⟨r, e1, e2⟩ := fin (n2 * (n2 / 1013 + 16807)) 2147483647 (by decide) (by decide)
      refine ⟨r, ?_, e2⟩
      rw [← e1]
      generalize c / 2 ^ (64 + 31 * k).toNat = q at s0 hs
      clear e1 e2 fin b1 b2 h0 h1
      walk_at "mir"
  · obtain ⟨r, e1, e2⟩ := fin (n2 * (n2 / 1013 + 16807)) 2147483647 (by decide) (by decide)
    refine ⟨r, ?_, e2⟩
    rw [← e1]
    clear e1 e2 fin b1 b2 h0 h1 s0
    walk_at "mir"
def mixN (c k : Int) : Nat := match m_law_mixed [.int c, .int k] with
  | some (.int r) => r.toNat
  | _ => 0
theorem pick4 (a b c d : Int) (k : Int) : ∃ x, atI [D.int a, D.int b, D.int c, D.int d] (k % 4) = some (.int x) ∧ (x = a ∨ x = b ∨ x = c ∨ x = d) := by
  have : k % 4 = 0 ∨ k % 4 = 1 ∨ k % 4 = 2 ∨ k % 4 = 3 := by omega
  rcases this with h | h | h | h <;> rw [h]
  · exact ⟨a, rfl, .inl rfl⟩
  · exact ⟨b, rfl, .inr (.inl rfl)⟩
  · exact ⟨c, rfl, .inr (.inr (.inl rfl))⟩
  · exact ⟨d, rfl, .inr (.inr (.inr rfl))⟩

theorem sz_of {n : Nat} {i w : Int} (h1 : -w ≤ i) (h2 : i ≤ w) (hw : w < 2 ^ n) : Sz n i := by
  unfold Sz
  have : (i.natAbs : Int) < 2 ^ n := by omega
  exact_mod_cast this
theorem lenD_str {x : Str} (h : x.length ≤ 16777216) : lenD [.str x] = some (.int (x.length : Int)) := by
  show (if x.length ≤ 16777216 then some (D.int x.length) else none) = _
  rw [if_pos h]
def wide (ws : List Str) : Nat := (ws.map (·.length)).foldr max 0
theorem wide_le {ws : List Str} {n : Nat} (h : ∀ w ∈ ws, w.length ≤ n) : wide ws ≤ n := by
  induction ws with
  | nil => exact Nat.zero_le _
  | cons x xs ih =>
    have h1 := h x List.mem_cons_self
    have h2 := ih fun w hw => h w (List.mem_cons_of_mem _ hw)
    show max x.length (wide xs) ≤ n
    omega
theorem le_wide {ws : List Str} {w : Str} (h : w ∈ ws) : w.length ≤ wide ws := by
  induction ws with
  | nil => cases h
  | cons x xs ih =>
    show w.length ≤ max x.length (wide xs)
    rcases List.mem_cons.mp h with rfl | h
    · omega
    · have := ih h; omega
theorem wide_mem {ws : List Str} (h : ws ≠ []) : ∃ w ∈ ws, w.length = wide ws := by
  induction ws with
  | nil => exact absurd rfl h
  | cons x xs ih =>
    show ∃ w ∈ x :: xs, w.length = max x.length (wide xs)
    by_cases hx : xs = []
    · exact ⟨x, List.mem_cons_self, by subst hx; show _ = max _ 0; omega⟩
    · obtain ⟨w, hw, e⟩ := ih hx
      by_cases hc : wide xs ≤ x.length
      · exact ⟨x, List.mem_cons_self, by omega⟩
      · exact ⟨w, List.mem_cons_of_mem _ hw, by omega⟩
theorem max_wide {ws : List Str} (h : ws ≠ []) : maxD [.lst (ws.map fun w => D.int (w.length : Int))] = some (.int (wide ws : Int)) := by
  have e : (ws.map fun w => D.int (w.length : Int)) = (ws.map fun w => (w.length : Int)).map D.int := by rw [List.map_map]; rfl
  obtain ⟨y, ys, rfl⟩ : ∃ y ys, ws = y :: ys := by
    cases ws with
    | nil => exact absurd rfl h
    | cons y ys => exact ⟨y, ys, rfl⟩
  have hm : ∀ M, maxI (((y :: ys).map fun w => (w.length : Int))) = some M → M = (wide (y :: ys) : Int) := by
    intro M hM
    obtain ⟨h1, h2⟩ := maxI_mem hM
    obtain ⟨w, hw, ew⟩ := List.mem_map.mp h1
    obtain ⟨w2, hw2, ew2⟩ := wide_mem (ws := y :: ys) (by simp)
    have a1 := le_wide hw
    have a2 := h2 _ (List.mem_map.mpr ⟨w2, hw2, rfl⟩)
    omega
  rw [e]
  show (intsD _).bind _ = _
  rw [intsD_map, Option.bind_some]
  have : ∃ M, maxI ((y :: ys).map fun w => (w.length : Int)) = some M := ⟨_, rfl⟩
  obtain ⟨M, hM⟩ := this
  rw [hM, hm M hM]
  rfl
def strL (ws : List Str) : D := .lst (ws.map D.str)
theorem q_lens {ws : List Str} (hb : ∀ w ∈ ws, w.length ≤ 2000) (hl : ws.length ≤ 1000) (r : L3.Env) {f : EF} (h : f r = some (strL ws)) :
    eComp (lsD f) 1 [] (gV 0) bTrue (eN lenD (aCons (eV 0) aNil)) r = some (.lst (ws.map fun w => D.int (w.length : Int))) := by
  refine comp_all D.str (fun w => D.int (w.length : Int)) ws (by unfold lsD; rw [h]; rfl) (by omega) fun w hw => ⟨[some (.str w)], rfl, ?_⟩
  have := lenD_str (x := w) (by have := hb w hw; omega)
  clear hb
  walk_at "mir"
theorem t_widest {ws : List Str} (h : ws ≠ []) (hb : ∀ w ∈ ws, w.length ≤ 2000) (hl : ws.length ≤ 1000) : m_widest [strL ws] = some (.int (wide ws : Int)) := by
  have q := q_lens hb hl [some (strL ws)] (f := eV 0) rfl
  have m := max_wide h
  have q : q_widest_1 [some (strL ws)] = some (.lst (ws.map fun w => D.int (w.length : Int))) := q
  generalize strL ws = L at *
  generalize (ws.map fun w => D.int (w.length : Int)) = L2 at *
  clear hb hl h
  unfold m_widest
  walk_at "mir"
def fillS (c : Nat) (w : Str) (n : Nat) : Str := repS c (n - w.length) ++ w
theorem str_nil (w : Str) (c : Nat) : repS c 0 ++ w = w := by
  cases w with | mk a => show (⟨Array.replicate 0 c ++ a⟩ : Str) = ⟨a⟩; simp
theorem rjust_fill (w : Str) (n : Nat) : Txt.rjust w (n : Int) = fillS 32 w n := by
  unfold Txt.rjust fillS
  by_cases h : (n : Int) ≤ w.length
  · rw [if_pos h, show n - w.length = 0 by omega, str_nil]
  · rw [if_neg h, Int.toNat_natCast]
    unfold Builtin.Str.padded
    show (⟨_⟩ : Str) = ⟨Array.replicate _ 32 ++ w.cps⟩
    simp
theorem zfill_fill (w : Str) (n : Nat) (h1 : w.cps[0]? ≠ some 43) (h2 : w.cps[0]? ≠ some 45) : Txt.zfill w (n : Int) = fillS 48 w n := by
  unfold Txt.zfill fillS
  by_cases h : (n : Int) ≤ w.length
  · rw [if_pos h, show n - w.length = 0 by omega, str_nil]
  · rw [if_neg h, Int.toNat_natCast]
    unfold PySem.zfilled
    split
    · rename_i e; exact absurd e h1
    · rename_i e; exact absurd e h2
    · unfold Builtin.Str.padded
      show (⟨_⟩ : Str) = ⟨Array.replicate _ 48 ++ w.cps⟩
      simp
theorem ljust_fill (w : Str) (n : Nat) : Txt.ljust w (n : Int) = w ++ repS 32 (n - w.length) := by
  unfold Txt.ljust
  by_cases h : (n : Int) ≤ w.length
  · rw [if_pos h, show n - w.length = 0 by omega]
    cases w with | mk a => show (⟨a⟩ : Str) = ⟨a ++ Array.replicate 0 32⟩; simp
  · rw [if_neg h, Int.toNat_natCast]
    unfold Builtin.Str.padded
    show (⟨_⟩ : Str) = ⟨w.cps ++ Array.replicate _ 32⟩
    simp
theorem padOk {n : Nat} (h : n ≤ 10000) : PadOk (n : Int) = true := by
  unfold PadOk fitsSsize Builtin.Str.tooLong sizeLine
  rw [Int.toNat_natCast]
  simp
  omega
theorem padD_ok {T : Str → Int → Str} {w : Str} {n : Nat} (h : n ≤ 10000) : padD T (.str w) (.int (n : Int)) = some (.str (T w (n : Int))) := by
  show (if PadOk (n : Int) = true then _ else none) = _
  rw [if_pos (padOk h)]
theorem itx_head {i : Int} (h : 0 ≤ i) : (itx i).cps[0]? ≠ some 43 ∧ (itx i).cps[0]? ≠ some 45 := by
  obtain ⟨n, rfl⟩ : ∃ n : Nat, i = n := ⟨i.toNat, by omega⟩
  have key : ∀ x ∈ (itx (n : Int)).cps.toList, 48 ≤ x := by
    intro x hx
    unfold itx at hx
    rw [Str.ofString_eq_toList] at hx
    simp at hx
    obtain ⟨c, hc, rfl⟩ := hx
    have hc : c ∈ (Nat.repr n).toList := hc
    unfold Nat.repr at hc
    rw [String.toList_ofList] at hc
    have := Nat.isDigit_of_mem_toDigits (b := 10) (by decide) (by decide) hc
    unfold Char.isDigit at this
    simp at this
    exact this.1
  constructor
  · intro e
    have := key 43 (by rw [← Array.mem_def]; exact Array.mem_of_getElem? e)
    omega
  · intro e
    have := key 45 (by rw [← Array.mem_def]; exact Array.mem_of_getElem? e)
    omega

theorem strsD_map : ∀ ys : List Str, strsD (ys.map .str) = some ys
  | [] => rfl
  | y :: ys => by
    show (strsD (ys.map .str)).bind _ = _
    rw [strsD_map ys]; rfl
theorem sum_le {b : Nat} : ∀ {ys : List Str}, (∀ y ∈ ys, y.length ≤ b) → (ys.map (·.length)).sum ≤ ys.length * b
  | [], _ => by simp
  | y :: ys, h => by
    have h1 := h y List.mem_cons_self
    have h2 := sum_le (b := b) (ys := ys) fun z hz => h z (List.mem_cons_of_mem _ hz)
    rw [List.map_cons, List.sum_cons, List.length_cons, Nat.succ_mul]
    omega
theorem join_len (sp : Str) : ∀ ys : List Str, (Str.join sp ys).length ≤ (ys.map (·.length)).sum + ys.length * sp.length
  | [] => by unfold Str.join; exact Nat.zero_le _
  | [y] => by unfold Str.join; simp
  | y :: z :: ys => by
    have ih := join_len sp (z :: ys)
    unfold Str.join
    rw [len_app, len_app]
    simp only [List.map_cons, List.sum_cons, List.length_cons] at ih ⊢
    rw [Nat.succ_mul]
    omega
theorem join_ok {sp : Str} (hs : PyData.strOk sp = true) : ∀ {ys : List Str}, (∀ y ∈ ys, PyData.strOk y = true) → PyData.strOk (Str.join sp ys) = true
  | [], _ => by unfold Str.join; decide +kernel
  | [y], h => by unfold Str.join; exact h y List.mem_cons_self
  | y :: z :: ys, h => by
    have ih := join_ok hs (ys := z :: ys) fun x hx => h x (List.mem_cons_of_mem _ hx)
    unfold Str.join
    exact ok_app (ok_app (h y List.mem_cons_self) hs) ih
theorem t_join {sp : Str} {ys : List Str} {b : Nat} (h : ∀ y ∈ ys, y.length ≤ b) (hb : ys.length * b + ys.length * sp.length ≤ 16777216) : joinD (.str sp) (strL ys) = some (.str (Str.join sp ys)) := by
  show (strsD (ys.map .str)).bind _ = _
  rw [strsD_map]
  show (if _ then _ else _) = _
  rw [if_pos (by have := sum_le h; omega)]
theorem rep_ok {c : Nat} (h : c < 1000) (n : Nat) : PyData.strOk (repS c n) = true := by
  unfold PyData.strOk repS
  rw [← Array.all_toList, List.all_eq_true]
  intro x hx
  simp at hx
  rw [decide_eq_true_iff, hx.2]
  omega
theorem rep_len (c n : Nat) : (repS c n).length = n := by show (Array.replicate n c).size = n; simp
theorem fill_len {c n : Nat} {w : Str} (h : w.length ≤ n) : (fillS c w n).length = n := by
  unfold fillS
  rw [len_app, rep_len]; omega
theorem round_len : ("round" : Str).length = 5 := by with_unfolding_all rfl
def wT : Option Int → Str
  | none => "-"
  | some i => itx i
def TOk (t : Option Int) : Prop := ∀ i, t = some i → Sz 1900 i
theorem wT_len {t : Option Int} (h : TOk t) : (wT t).length ≤ 2000 := by
  cases t with
  | none => decide
  | some i => have := int_len (h i rfl); show (itx i).length ≤ 2000; omega
theorem wT_ok (t : Option Int) : PyData.strOk (wT t) = true := by
  cases t with
  | none => exact ok_lit _
  | some i => exact ok_int i
theorem t_time_word {t : Option Int} (h : TOk t) : m_time_word [encO t] = some (.str (wT t)) := by
  cases t with
  | none => rfl
  | some i =>
    have := strD_int (h i rfl)
    unfold m_time_word wT encO
    clear h
    walk_at "mir"
theorem t_law_word {t : Option Int} (h : TOk t) : m_law_word [encO t] = some (.str (wT t)) := by
  cases t with
  | none => rfl
  | some i =>
    have := strD_int (h i rfl)
    unfold m_law_word wT encO
    clear h
    walk_at "mir"
def colT (name : Str) (ts : List (Option Int)) : List Str := name :: ts.map wT
def fCol (ws : List Str) : List Str := ws.map fun w => fillS 32 w (wide ws)
theorem colT_b {name : Str} {ts : List (Option Int)} (hn : name.length ≤ 2000) (ht : ∀ t ∈ ts, TOk t) : ∀ w ∈ colT name ts, w.length ≤ 2000 := by
  intro w hw
  rcases List.mem_cons.mp hw with rfl | hw
  · exact hn
  · obtain ⟨t, ht2, rfl⟩ := List.mem_map.mp hw
    exact wT_len (ht t ht2)
theorem add_str1 (x : Str) (ys : List Str) (h : ys.length ≤ 1000) : addD (.lst [.str x]) (strL ys) = some (strL (x :: ys)) := by
  unfold strL
  rw [addD_lst (by simp; omega)]
  rfl
theorem t_time_column {name : Str} {ts : List (Option Int)} (hn : name.length ≤ 2000) (ht : ∀ t ∈ ts, TOk t) (hl : ts.length ≤ 900) : m_time_column [.str name, .lst (ts.map encO)] = some (strL (fCol (colT name ts))) := by
  have q2 : q_time_column_2 [some (.str name), some (.lst (ts.map encO)), none, none] = some (strL (ts.map wT)) := by
    unfold strL
    rw [List.map_map]
    refine comp_all encO (fun t => D.str (wT t)) ts rfl (by omega) fun t h => ⟨[some (encO t)], rfl, ?_⟩
    have := t_time_word (ht t h)
    clear ht
    walk_at "mir"
  have a1 := add_str1 name (ts.map wT) (by simp; omega)
  have hb := colT_b hn ht
  have w1 := t_widest (ws := colT name ts) (by unfold colT; simp) hb (by unfold colT; simp; omega)
  have hw := wide_le hb
  have q1 : q_time_column_1 [some (.str name), some (.lst (ts.map encO)), some (strL (colT name ts)), some (.int (wide (colT name ts) : Int))] = some (strL (fCol (colT name ts))) := by
    unfold strL fCol
    rw [List.map_map]
    refine comp_all D.str (fun w => D.str (fillS 32 w (wide (colT name ts)))) (colT name ts) rfl (by unfold colT; simp; omega) fun w hw2 => ⟨[some (.str w), some (.int (wide (colT name ts) : Int))], rfl, ?_⟩
    have := padD_ok (T := Txt.rjust) (w := w) (n := wide (colT name ts)) (by omega)
    rw [rjust_fill] at this
    clear hw hb ht hl
    walk_at "mir"
  have e : strL (name :: ts.map wT) = strL (colT name ts) := rfl
  rw [e] at a1
  generalize strL (fCol (colT name ts)) = L1 at *
  generalize strL (colT name ts) = L2 at *
  generalize (wide (colT name ts) : Int) = W at *
  generalize strL (ts.map wT) = L3 at *
  generalize ts.map encO = L4 at *
  clear hw hb ht hl hn e
  unfold m_time_column
  walk_at "mir"
def nums (first : Int) (n : Nat) : List Str := (List.range n).map fun (k : Nat) => itx (first + (k : Int))
def F0 (first : Int) (n : Nat) : List Str := (("round" : Str) ++ repS 32 (wide ("round" :: nums first n) - 5)) :: (nums first n).map fun w => fillS 48 w (wide ("round" :: nums first n))
theorem sz_num {first : Int} {k : Nat} (h : 0 ≤ first ∧ first ≤ 1000000000) (hk : k ≤ 1000) : Sz 1900 (first + (k : Int)) := (sz_of (n := 64) (w := 1000001000) (by omega) (by omega) (by decide)).mono (by decide)
theorem nums_b {first : Int} {n : Nat} (h : 0 ≤ first ∧ first ≤ 1000000000) (hn : n ≤ 900) : ∀ w ∈ nums first n, w.length ≤ 2000 := by
  intro w hw
  obtain ⟨k, hk, rfl⟩ := List.mem_map.mp hw
  have := int_len (sz_num (k := k) h (by have := List.mem_range.mp hk; omega))
  omega
theorem nums_l (first : Int) (n : Nat) : (nums first n).length = n := by unfold nums; simp
theorem rnd_b {first : Int} {n : Nat} (h : 0 ≤ first ∧ first ≤ 1000000000) (hn : n ≤ 900) : ∀ w ∈ ("round" : Str) :: nums first n, w.length ≤ 2000 := by
  intro w hw
  rcases List.mem_cons.mp hw with rfl | hw
  · rw [round_len]; decide
  · exact nums_b h hn w hw
theorem q_nums {first : Int} {n : Nat} (h : 0 ≤ first ∧ first ≤ 1000000000) (hn : n ≤ 900) {fi : L3.Env → Option (List D)} {cap : List Nat} (r : L3.Env) (hr : fi r = some ((List.range n).map fun (t : Nat) => D.int (t : Int))) (hc : capsD r cap = [some (.int first)]) :
    eComp fi 1 cap (gV 0) bTrue (eN strD (aCons (e2 addD (eV 1) (eV 0)) aNil)) r = some (strL (nums first n)) := by
  unfold strL nums
  rw [List.map_map]
  refine comp_all (fun (t : Nat) => D.int (t : Int)) (fun k => D.str (itx (first + (k : Int)))) (List.range n) hr (by simp; omega) fun k hk => ⟨[some (.int (k : Int)), some (.int first)], by rw [hc]; rfl, ?_⟩
  have := strD_int (sz_num (k := k) h (by have := List.mem_range.mp hk; omega))
  clear hc hr h hn hk
  walk_at "mir"
theorem t_number_column {first : Int} {n : Nat} (h : 0 ≤ first ∧ first ≤ 1000000000) (hn : n ≤ 900) : m_number_column [.int first, .int (n : Int)] = some (strL (F0 first n)) := by
  have q2 : q_number_column_2 [some (.int first), some (.int (n : Int)), none, none] = some (strL (nums first n)) := q_nums h hn _ (rng_of rfl (by omega)) rfl
  have a1 := add_str1 "round" (nums first n) (by rw [nums_l]; omega)
  have hb := rnd_b h hn
  have w1 := t_widest (ws := "round" :: nums first n) (by simp) hb (by rw [List.length_cons, nums_l]; omega)
  have hw := wide_le hb
  have q1 : q_number_column_1 [some (.int first), some (.int (n : Int)), some (strL (nums first n)), some (.int (wide ("round" :: nums first n) : Int))] = some (strL ((nums first n).map fun w => fillS 48 w (wide ("round" :: nums first n)))) := by
    unfold strL
    rw [List.map_map]
    refine comp_all D.str (fun w => D.str (fillS 48 w (wide ("round" :: nums first n)))) (nums first n) rfl (by rw [nums_l]; omega) fun w hw2 => ⟨[some (.str w), some (.int (wide ("round" :: nums first n) : Int))], rfl, ?_⟩
    have := padD_ok (T := Txt.zfill) (w := w) (n := wide ("round" :: nums first n)) (by omega)
    obtain ⟨k, hk, ek⟩ := List.mem_map.mp hw2
    have hh := itx_head (i := first + (k : Int)) (by omega)
    rw [ek] at hh
    rw [zfill_fill _ _ hh.1 hh.2] at this
    clear hw hb w1 a1 q2 hw2 hk ek hh
    walk_at "mir"
  have p1 := padD_ok (T := Txt.ljust) (w := "round") (n := wide ("round" :: nums first n)) (by omega)
  rw [ljust_fill, round_len] at p1
  have a2 := add_str1 (("round" : Str) ++ repS 32 (wide ("round" :: nums first n) - 5)) ((nums first n).map fun w => fillS 48 w (wide ("round" :: nums first n))) (by rw [List.length_map, nums_l]; omega)
  unfold F0
  generalize strL ((("round" : Str) ++ repS 32 (wide ("round" :: nums first n) - 5)) :: (nums first n).map fun w => fillS 48 w (wide ("round" :: nums first n))) = L1 at *
  generalize (("round" : Str) ++ repS 32 (wide ("round" :: nums first n) - 5)) = L0 at *
  generalize strL ((nums first n).map fun w => fillS 48 w (wide ("round" :: nums first n))) = L2 at *
  generalize strL ("round" :: nums first n) = L3 at *
  generalize strL (nums first n) = L4 at *
  generalize (wide ("round" :: nums first n) : Int) = W at *
  clear hw hb h hn
  unfold m_number_column
  walk_at "mir"

def rowD (row : List (Option Int)) : D := .lst (row.map encO)
section
variable (names : List Str) (rows : List (List (Option Int))) (first : Int)
def raw (j : Nat) : List Str := if j = 0 then "round" :: nums first rows.length else colT (names.getD (j - 1) "") (rows.map fun row => row.getD (j - 1) none)
def FC (j : Nat) : List Str := if j = 0 then F0 first rows.length else fCol (raw names rows first j)
def lineF (k : Nat) : Str := Str.join " " ((List.range (names.length + 1)).map fun j => (FC names rows first j).getD k "")
def alm : Str := Str.join "\n" ((List.range (rows.length + 1)).map (lineF names rows first))
def partF (j k : Nat) : Str := if j = 0 ∧ k = 0 then ("round" : Str) ++ repS 32 (wide (raw names rows first 0) - 5) else fillS (if j = 0 then 48 else 32) ((raw names rows first j).getD k "") (wide (raw names rows first j))
structure AOk : Prop where
  n : ∀ x ∈ names, PyData.strOk x = true ∧ x.length ≤ 100
  nl : names.length ≤ 7
  r : ∀ row ∈ rows, row.length = names.length ∧ ∀ t ∈ row, TOk t
  rl : rows.length ≤ 20
  f : 0 ≤ first ∧ first ≤ 1000000000
end
section
variable {names : List Str} {rows : List (List (Option Int))} {first : Int}
theorem raw_len (j : Nat) : (raw names rows first j).length = rows.length + 1 := by
  unfold raw
  by_cases h : j = 0
  · rw [if_pos h, List.length_cons, nums_l]
  · rw [if_neg h]; unfold colT; simp
theorem col_ok (O : AOk names rows first) (i : Nat) : ∀ t ∈ rows.map (fun row => row.getD i none), TOk t := by
  intro t ht
  obtain ⟨row, hr, rfl⟩ := List.mem_map.mp ht
  have h := (O.r row hr).2
  rw [List.getD_eq_getElem?_getD]
  cases e : row[i]? with
  | none => intro z hz; cases hz
  | some x => exact h x (List.mem_of_getElem? e)
theorem name_b (O : AOk names rows first) (i : Nat) : PyData.strOk (names.getD i "") = true ∧ (names.getD i "").length ≤ 2000 := by
  rw [List.getD_eq_getElem?_getD]
  cases e : names[i]? with
  | none => exact ⟨ok_lit _, by decide⟩
  | some x => have := O.n x (List.mem_of_getElem? e); exact ⟨this.1, by show x.length ≤ 2000; omega⟩
theorem raw_b (O : AOk names rows first) (j : Nat) : ∀ w ∈ raw names rows first j, w.length ≤ 2000 := by
  unfold raw
  have := O.rl
  by_cases h : j = 0
  · rw [if_pos h]; exact rnd_b O.f (by omega)
  · rw [if_neg h]; exact colT_b (name_b O _).2 (col_ok O _)
theorem raw_ok (O : AOk names rows first) (j : Nat) : ∀ w ∈ raw names rows first j, PyData.strOk w = true := by
  unfold raw
  by_cases h : j = 0
  · rw [if_pos h]
    intro w hw
    rcases List.mem_cons.mp hw with rfl | hw
    · exact ok_lit _
    · obtain ⟨k, _, rfl⟩ := List.mem_map.mp hw
      exact ok_int _
  · rw [if_neg h]
    intro w hw
    rcases List.mem_cons.mp hw with rfl | hw
    · exact (name_b O _).1
    · obtain ⟨t, _, rfl⟩ := List.mem_map.mp hw
      exact wT_ok t
theorem raw_ne (j : Nat) : raw names rows first j ≠ [] := by
  intro h
  have := raw_len (names := names) (rows := rows) (first := first) j
  rw [h] at this
  cases this
theorem raw_at (j : Nat) {k : Nat} (hk : k < rows.length + 1) : (raw names rows first j)[k]? = some ((raw names rows first j).getD k "") ∧ (raw names rows first j).getD k "" ∈ raw names rows first j := by
  have h : k < (raw names rows first j).length := by rw [raw_len]; exact hk
  have e : (raw names rows first j)[k]? = some ((raw names rows first j)[k]) := by simp [h]
  rw [List.getD_eq_getElem?_getD, e]
  exact ⟨rfl, List.getElem_mem h⟩
theorem FC_at (j : Nat) {k : Nat} (hk : k < rows.length + 1) : (FC names rows first j)[k]? = some (partF names rows first j k) := by
  unfold FC partF
  by_cases h : j = 0
  · subst h
    rw [if_pos rfl]
    unfold F0
    cases k with
    | zero => rw [if_pos ⟨rfl, rfl⟩]; rfl
    | succ k =>
      rw [if_neg (fun z => by cases z.2), if_pos rfl, List.getElem?_cons_succ, List.getElem?_map]
      have e : raw names rows first 0 = ("round" : Str) :: nums first rows.length := by unfold raw; rw [if_pos rfl]
      rw [e, List.getD_cons_succ]
      have hl : k < (nums first rows.length).length := by rw [nums_l]; omega
      rw [List.getD_eq_getElem?_getD, List.getElem?_eq_getElem hl]
      rfl
  · rw [if_neg h, if_neg (fun z => h z.1), if_neg h]
    unfold fCol
    rw [List.getElem?_map, (raw_at j hk).1]
    rfl
theorem part_b (O : AOk names rows first) (j : Nat) {k : Nat} (hk : k < rows.length + 1) : (partF names rows first j k).length ≤ 2000 ∧ PyData.strOk (partF names rows first j k) = true := by
  have h1 := wide_le (raw_b O j)
  have h2 := (raw_at (names := names) (first := first) j hk).2
  unfold partF
  by_cases h : j = 0 ∧ k = 0
  · rw [if_pos h]
    have h3 := wide_le (raw_b O 0)
    have h4 : 5 ≤ wide (raw names rows first 0) := by
      have := le_wide (ws := raw names rows first 0) (w := "round") (by unfold raw; rw [if_pos rfl]; exact List.mem_cons_self)
      rw [round_len] at this
      exact this
    exact ⟨by rw [len_app, rep_len, round_len]; omega, ok_app (ok_lit _) (rep_ok (by decide) _)⟩
  · rw [if_neg h]
    refine ⟨by rw [fill_len (le_wide h2)]; exact h1, ?_⟩
    unfold fillS
    refine ok_app (rep_ok ?_ _) (raw_ok O j _ h2)
    split <;> decide
def FCs (names : List Str) (rows : List (List (Option Int))) (first : Int) (n : Nat) : List D := (List.range n).map fun j => strL (FC names rows first j)
theorem FCs_s (n : Nat) : FCs names rows first (n + 1) = FCs names rows first n ++ [strL (FC names rows first n)] := by
  unfold FCs; rw [List.range_succ, List.map_append]; rfl
def lineP (names : List Str) (rows : List (List (Option Int))) (first : Int) (k : Nat) : List Str := (List.range (names.length + 1)).map fun j => partF names rows first j k
theorem line_eq {k : Nat} (hk : k < rows.length + 1) : lineF names rows first k = Str.join " " (lineP names rows first k) := by
  unfold lineF lineP
  congr 1
  refine List.map_congr_left fun j _ => ?_
  rw [List.getD_eq_getElem?_getD, FC_at j hk]
  rfl
theorem lineP_b (O : AOk names rows first) {k : Nat} (hk : k < rows.length + 1) : ∀ y ∈ lineP names rows first k, y.length ≤ 2000 ∧ PyData.strOk y = true := by
  intro y hy
  obtain ⟨j, _, rfl⟩ := List.mem_map.mp hy
  exact part_b O j hk
theorem lineP_l (k : Nat) : (lineP names rows first k).length = names.length + 1 := by unfold lineP; simp
theorem sp_len : (" " : Str).length = 1 ∧ ("\n" : Str).length = 1 := by decide
theorem line_join (O : AOk names rows first) {k : Nat} (hk : k < rows.length + 1) : joinD (.str " ") (strL (lineP names rows first k)) = some (.str (lineF names rows first k)) := by
  rw [line_eq hk]
  refine t_join (b := 2000) (fun y hy => (lineP_b O hk y hy).1) ?_
  have := O.nl
  rw [lineP_l, sp_len.1]
  omega
theorem line_b (O : AOk names rows first) {k : Nat} (hk : k < rows.length + 1) : (lineF names rows first k).length ≤ 20000 ∧ PyData.strOk (lineF names rows first k) = true := by
  rw [line_eq hk]
  have h1 := join_len " " (lineP names rows first k)
  have h2 := sum_le (b := 2000) fun y hy => (lineP_b O hk y hy).1
  have := O.nl
  rw [lineP_l, sp_len.1] at h1
  rw [lineP_l] at h2
  exact ⟨by omega, join_ok (ok_lit _) fun y hy => (lineP_b O hk y hy).2⟩
def linesF (names : List Str) (rows : List (List (Option Int))) (first : Int) (n : Nat) : List Str := (List.range n).map (lineF names rows first)
theorem alm_join (O : AOk names rows first) : joinD (.str "\n") (strL (linesF names rows first (rows.length + 1))) = some (.str (alm names rows first)) := by
  refine t_join (b := 20000) (fun y hy => ?_) ?_
  · obtain ⟨k, hk, rfl⟩ := List.mem_map.mp hy
    exact (line_b O (List.mem_range.mp hk)).1
  · have := O.rl
    unfold linesF
    rw [List.length_map, List.length_range, sp_len.2]
    omega
theorem alm_ok (O : AOk names rows first) : PyData.strOk (alm names rows first) = true := join_ok (ok_lit _) fun y hy => by
  obtain ⟨k, hk, rfl⟩ := List.mem_map.mp hy
  exact (line_b O (List.mem_range.mp hk)).2
theorem t_across (O : AOk names rows first) {k : Nat} (hk : k < rows.length + 1) : m_line_across [.lst (FCs names rows first (names.length + 1)), .int (k : Int)] = some (.str (lineF names rows first k)) := by
  have q : q_line_across_1 [some (.lst (FCs names rows first (names.length + 1))), some (.int (k : Int))] = some (strL (lineP names rows first k)) := by
    unfold strL lineP
    rw [List.map_map]
    refine comp_all (fun j => strL (FC names rows first j)) (fun j => D.str (partF names rows first j k)) (List.range (names.length + 1)) rfl (by have := O.nl; simp; omega) fun j hj => ⟨[some (strL (FC names rows first j)), some (.int (k : Int))], rfl, ?_⟩
    show atI _ _ = _
    exact atI_map D.str (.inl rfl) (FC_at j hk)
  have j := line_join O hk
  generalize strL (lineP names rows first k) = L1 at *
  generalize FCs names rows first (names.length + 1) = L2 at *
  generalize lineF names rows first k = L3 at *
  clear hk O
  unfold m_line_across
  walk_at "mir"
theorem enum_at {α : Type} (enc : α → D) {as : List α} {i : Nat} {d : D} (h : (enumD 0 (as.map enc))[i]? = some d) : ∃ x, as[i]? = some x ∧ d = .tup [.int (i : Int), enc x] := by
  rw [enum_zip enc, List.getElem?_map, List.getElem?_zipIdx] at h
  cases e : as[i]? with
  | none => rw [e] at h; cases h
  | some x => rw [e] at h; cases h; exact ⟨x, rfl, by simp⟩
theorem t_almanac (O : AOk names rows first) : m_almanac [strL names, .lst (rows.map rowD), .int first] = some (.str (alm names rows first)) := by
  have hn := O.nl
  have hr := O.rl
  have n0 := t_number_column (n := rows.length) O.f (by omega)
  have l1 : lenD [.lst (rows.map rowD)] = some (.int (rows.length : Int)) := (lenD_lst _).trans (by rw [List.length_map])
  obtain ⟨ρ', h1, x4, x5, rfl⟩ := forD_inv (g := gT (gsCons (gV 4) (gsCons (gV 5) gsNil))) (b := b_almanac_1) (ds := enumD 0 (names.map D.str)) (ρ := [some (strL names), some (.lst (rows.map rowD)), some (.int first), some (.lst (FCs names rows first 1)), none, none])
    (fun pre ρ => ∃ x4 x5, ρ = [some (strL names), some (.lst (rows.map rowD)), some (.int first), some (.lst (FCs names rows first (pre.length + 1))), x4, x5]) ⟨none, none, rfl⟩ (by
      rintro pre d post ρ he ⟨x4, x5, rfl⟩
      obtain ⟨x, hx, rfl⟩ := enum_at D.str (at_mid he)
      have hi : pre.length < names.length := (List.getElem?_eq_some_iff.mp hx).1
      refine ⟨_, _, rfl, .inl ?_, some (.int (pre.length : Int)), some (.str x), rfl⟩
      rw [List.length_append, List.length_singleton, FCs_s (pre.length + 1)]
      generalize hp : pre.length = i at *
      have e : FC names rows first (i + 1) = fCol (colT x (rows.map fun row => row.getD i none)) := by
        unfold FC raw
        rw [if_neg (by omega), if_neg (by omega), Nat.add_sub_cancel, List.getD_eq_getElem?_getD, hx]
        rfl
      rw [e]
      have q : q_almanac_2 [some (strL names), some (.lst (rows.map rowD)), some (.int first), some (.lst (FCs names rows first (i + 1))), some (.int (i : Int)), some (.str x)] = some (.lst ((rows.map fun row => row.getD i none).map encO)) := by
        rw [List.map_map]
        refine comp_all rowD (fun row => encO (row.getD i none)) rows rfl (by omega) fun row hrow => ⟨[some (rowD row), some (.int (i : Int))], rfl, ?_⟩
        show atI _ _ = _
        have hl := (O.r row hrow).1
        refine atI_map encO (.inl rfl) ?_
        rw [List.getD_eq_getElem?_getD, List.getElem?_eq_getElem (by omega)]
        rfl
      have tc := t_time_column (name := x) (ts := rows.map fun row => row.getD i none) (by have := (O.n x (List.mem_of_getElem? hx)).2; omega) (col_ok O i) (by rw [List.length_map]; omega)
      have hl : (FCs names rows first (i + 1)).length < 16777216 := by unfold FCs; rw [List.length_map, List.length_range]; omega
      generalize strL (fCol (colT x (rows.map fun row => row.getD i none))) = L1 at *
      generalize (rows.map fun row => row.getD i none).map encO = L2 at *
      generalize FCs names rows first (i + 1) = L3 at *
      generalize strL names = L4 at *
      generalize rows.map rowD = L5 at *
      clear e hi hx he hp n0 l1 hn hr O
      unfold b_almanac_1
      walk_at "mir")
  have hlen : (enumD 0 (names.map D.str)).length = names.length := by rw [enum_zip D.str]; simp
  rw [hlen] at h1
  have q1 : q_almanac_1 [some (strL names), some (.lst (rows.map rowD)), some (.int first), some (.lst (FCs names rows first (names.length + 1))), x4, x5] = some (strL (linesF names rows first (rows.length + 1))) := by
    unfold strL linesF
    rw [List.map_map]
    refine comp_all (fun (t : Nat) => D.int (t : Int)) (fun k => D.str (lineF names rows first k)) (List.range (rows.length + 1)) (rng_of (n := rows.length + 1) ?_ (by omega)) (by simp; omega) fun k hk => ⟨[some (.int (k : Int)), some (.lst (FCs names rows first (names.length + 1)))], rfl, ?_⟩
    · show (eN lenD (aCons (eV 1) aNil) [some (strL names), some (.lst (rows.map rowD)), some (.int first), some (.lst (FCs names rows first (names.length + 1))), x4, x5]).bind (fun x => addD x (.int 1)) = _
      show (lenD [.lst (rows.map rowD)]).bind _ = _
      rw [l1]
      show some (D.int ((rows.length : Int) + 1)) = _
      rw [show ((rows.length : Int) + 1) = ((rows.length + 1 : Nat) : Int) by omega]
    · have := t_across O (List.mem_range.mp hk)
      generalize FCs names rows first (names.length + 1) = L at *
      clear hk h1 l1 hlen n0 hn hr O
      walk_at "mir"
  have j := alm_join O
  have f0 : FCs names rows first 1 = [strL (F0 first rows.length)] := rfl
  rw [f0] at h1
  unfold strL at n0 q1 h1 j
  unfold strL
  generalize D.lst ((F0 first rows.length).map D.str) = c0 at *
  generalize FCs names rows first (names.length + 1) = L3 at *
  generalize alm names rows first = L0 at *
  generalize names.map D.str = L4 at *
  generalize rows.map rowD = L5 at *
  generalize (linesF names rows first (rows.length + 1)).map D.str = L6 at *
  clear hn hr f0 hlen O
  unfold m_almanac
  walk_at "mir"
end

theorem mulS_sp {i : Int} (h1 : -1000000 ≤ i) (h2 : i ≤ 1000000) : mulS (.str " ") (.int i) = some (.str (repS 32 i.toNat)) ∧ mulS (.str "0") (.int i) = some (.str (repS 48 i.toNat)) := by
  have e1 : (" " : Str).cps.toList = [32] := by decide +kernel
  have e2 : ("0" : Str).cps.toList = [48] := by decide +kernel
  constructor
  · show (match (" " : Str).cps.toList with | [c] => if -1000000 ≤ i ∧ i ≤ 1000000 then some (D.str (repS c i.toNat)) else none | _ => none) = _
    rw [e1]
    show (if _ then _ else _) = _
    rw [if_pos ⟨h1, h2⟩]
  · show (match ("0" : Str).cps.toList with | [c] => if -1000000 ≤ i ∧ i ≤ 1000000 then some (D.str (repS c i.toNat)) else none | _ => none) = _
    rw [e2]
    show (if _ then _ else _) = _
    rw [if_pos ⟨h1, h2⟩]
def sgD (b : Bool) : Str := if b then "0" else " "
theorem t_filled {w : Str} {n : Nat} (b : Bool) (hw : w.length ≤ 2000) (hn : n ≤ 2000) : m_law_filled [.str w, .int (n : Int), .str (sgD b)] = some (.str (fillS (if b = true then 48 else 32) w n)) := by
  have l := lenD_str (x := w) (by omega)
  have m := mulS_sp (i := (n : Int) - (w.length : Int)) (by omega) (by omega)
  have e : ((n : Int) - (w.length : Int)).toNat = n - w.length := by omega
  rw [e] at m
  have a1 : addD (.str (repS (if b = true then 48 else 32) (n - w.length))) (.str w) = some (.str (fillS (if b = true then 48 else 32) w n)) := addD_str (by rw [rep_len]; omega)
  have m2 : mulS (.str (sgD b)) (.int ((n : Int) - (w.length : Int))) = some (.str (repS (if b = true then 48 else 32) (n - w.length))) := by
    cases b
    · exact m.1
    · exact m.2
  generalize repS (if b = true then 48 else 32) (n - w.length) = r at *
  generalize fillS (if b = true then 48 else 32) w n = r2 at *
  generalize sgD b = sg at *
  clear e m hw hn
  unfold m_law_filled
  walk_at "mir"
section
variable {names : List Str} {rows : List (List (Option Int))} {first : Int}
def raws (names : List Str) (rows : List (List (Option Int))) (first : Int) (n : Nat) : List D := (List.range n).map fun j => strL (raw names rows first j)
theorem raws_s (n : Nat) : raws names rows first (n + 1) = raws names rows first n ++ [strL (raw names rows first n)] := by
  unfold raws; rw [List.range_succ, List.map_append]; rfl
theorem raws_at {n j : Nat} (h : j < n) : ixD (.lst (raws names rows first n)) (.int (j : Int)) = some (strL (raw names rows first j)) := by
  refine atI_nat ?_
  unfold raws
  rw [List.getElem?_map, List.getElem?_range h]
  rfl
theorem raws_l (n : Nat) : (raws names rows first n).length = n := by unfold raws; simp
theorem due_1 (O : AOk names rows first) {j k : Nat} (hj : j < names.length + 1) (hk : k < rows.length + 1) (y0 y1 y2 y5 y8 : Option D) (ps : List Str) (hp : ps.length ≤ 1000) :
    b_law_due_1 [y0, y1, y2, some (.lst (raws names rows first (names.length + 1))), some (.int (j : Int)), y5, some (.int (k : Int)), some (strL ps), y8] =
      some (.nx [y0, y1, y2, some (.lst (raws names rows first (names.length + 1))), some (.int (j : Int)), y5, some (.int (k : Int)), some (strL (ps ++ [partF names rows first j k])), some (.int (wide (raw names rows first j) : Int))]) := by
  have hb := raw_b O j
  have hw := wide_le hb
  have rl := O.rl
  have nl := O.nl
  have x1 := raws_at (names := names) (rows := rows) (first := first) hj
  have q : q_law_due_1 [y0, y1, y2, some (.lst (raws names rows first (names.length + 1))), some (.int (j : Int)), y5, some (.int (k : Int)), some (strL ps), y8] = some (.lst ((raw names rows first j).map fun w => D.int (w.length : Int))) :=
    q_lens hb (by rw [raw_len]; omega) _ (f := e2 ixD (eV 3) (eV 4)) x1
  have m := max_wide (raw_ne (names := names) (rows := rows) (first := first) j)
  have ra := raw_at (names := names) (first := first) j hk
  have x2 : ixD (strL (raw names rows first j)) (.int (k : Int)) = some (.str ((raw names rows first j).getD k "")) := atI_map D.str (.inl rfl) ra.1
  have hpl : (ps.map D.str).length < 16777216 := by rw [List.length_map]; omega
  have hlen := hb _ ra.2
  have ep : strL (ps ++ [partF names rows first j k]) = .lst (ps.map D.str ++ [.str (partF names rows first j k)]) := by unfold strL; rw [List.map_append]; rfl
  rw [ep]
  have h5 : 5 ≤ wide (raw names rows first 0) := by
    have := le_wide (ws := raw names rows first 0) (w := "round") (by unfold raw; rw [if_pos rfl]; exact List.mem_cons_self)
    rw [round_len] at this
    exact this
  have tf := t_filled (w := (raw names rows first j).getD k "") (n := wide (raw names rows first j)) (decide (j = 0)) hlen hw
  have i1 : intB [.bl true] = some (.int 1) := rfl
  have i0 : intB [.bl false] = some (.int 0) := rfl
  have s1 : ixD (.lst [.str " ", .str "0"]) (.int 1) = some (.str (sgD true)) := rfl
  have s0 : ixD (.lst [.str " ", .str "0"]) (.int 0) = some (.str (sgD false)) := rfl
  by_cases h : j = 0 ∧ k = 0
  · obtain ⟨rfl, rfl⟩ := h
    have ms := (mulS_sp (i := (wide (raw names rows first 0) : Int) - 5) (by omega) (by omega)).1
    have e : ((wide (raw names rows first 0) : Int) - 5).toNat = wide (raw names rows first 0) - 5 := by omega
    rw [e] at ms
    have a1 : addD (.str "round") (.str (repS 32 (wide (raw names rows first 0) - 5))) = some (.str (partF names rows first 0 0)) := by
      rw [addD_str (by rw [rep_len, round_len]; omega)]
      unfold partF
      rw [if_pos ⟨rfl, rfl⟩]
    generalize partF names rows first 0 0 = L0 at *
    generalize repS 32 (wide (raw names rows first 0) - 5) = L1 at *
    generalize (wide (raw names rows first 0) : Int) = W at *
    generalize (raw names rows first 0).map (fun w => D.int (w.length : Int)) = L2 at *
    generalize raws names rows first (names.length + 1) = L3 at *
    unfold strL
    unfold strL at q
    generalize ps.map D.str = L4 at *
    have z0 : ((0 : Nat) : Int) = 0 := rfl
    rw [z0] at q ⊢
    clear e tf hlen ra x2 x1 hb hw rl nl hj hk h5 ep O z0 i1 i0 s1 s0
    unfold b_law_due_1
    walk_at "mir"
  · have pe : partF names rows first j k = fillS (if decide (j = 0) = true then 48 else 32) ((raw names rows first j).getD k "") (wide (raw names rows first j)) := by
      unfold partF
      rw [if_neg h]
      by_cases h0 : j = 0 <;> simp [h0]
    rw [pe]
    generalize fillS (if decide (j = 0) = true then 48 else 32) ((raw names rows first j).getD k "") (wide (raw names rows first j)) = L0 at *
    unfold strL at *
    generalize (raw names rows first j).map (fun w => D.int (w.length : Int)) = L2 at *
    generalize (raw names rows first j).map D.str = L5 at *
    generalize (raw names rows first j).getD k "" = L6 at *
    generalize (wide (raw names rows first j) : Int) = W at *
    generalize raws names rows first (names.length + 1) = L3 at *
    generalize ps.map D.str = L4 at *
    clear hlen ra hb hw rl nl hj hk h5 ep O pe
    by_cases h0 : j = 0
    · have hk0 : ¬ k = 0 := fun z => h ⟨h0, z⟩
      rw [decide_eq_true h0] at tf
      generalize sgD true = sg at *
      clear h s0 i0
      subst h0
      have z0 : ((0 : Nat) : Int) = 0 := rfl
      rw [z0] at q x1 ⊢
      unfold b_law_due_1
      walk_at "mir"
    · rw [decide_eq_false h0] at tf
      generalize sgD false = sg at *
      clear h s1 i1
      unfold b_law_due_1
      walk_at "mir"
theorem due_2 (O : AOk names rows first) {k : Nat} (hk : k < rows.length + 1) (y0 y1 y2 y4 y7 y8 : Option D) (ls : List Str) (hp : ls.length ≤ 1000) :
    ∃ z4 z7 z8, b_law_due_2 [y0, y1, y2, some (.lst (raws names rows first (names.length + 1))), y4, some (strL ls), some (.int (k : Int)), y7, y8] =
      some (.nx [y0, y1, y2, some (.lst (raws names rows first (names.length + 1))), z4, some (strL (ls ++ [lineF names rows first k])), some (.int (k : Int)), z7, z8]) := by
  have nl := O.nl
  obtain ⟨ρ', h1, z4, z8, rfl⟩ := forD_range (g := gV 4) (b := b_law_due_1) (lo := 0) (n := names.length + 1) (ρ := [y0, y1, y2, some (.lst (raws names rows first (names.length + 1))), y4, some (strL ls), some (.int (k : Int)), some (.lst []), y8])
    (fun n ρ => ∃ z4 z8, ρ = [y0, y1, y2, some (.lst (raws names rows first (names.length + 1))), z4, some (strL ls), some (.int (k : Int)), some (strL ((List.range n).map fun j => partF names rows first j k)), z8]) ⟨_, _, rfl⟩ (by
      rintro j ρ hj ⟨z4, z8, rfl⟩
      refine ⟨_, _, rfl, .inl ?_, some (.int (j : Int)), some (.int (wide (raw names rows first j) : Int)), rfl⟩
      rw [Int.zero_add, List.range_succ, List.map_append]
      exact due_1 O hj hk y0 y1 y2 (some (strL ls)) z8 _ (by rw [List.length_map, List.length_range]; omega))
  refine ⟨z4, some (strL (lineP names rows first k)), z8, ?_⟩
  have l1 : lenD [.lst (raws names rows first (names.length + 1))] = some (.int ((names.length + 1 : Nat) : Int)) := (lenD_lst _).trans (by rw [raws_l])
  have r1 := rng1_int (j := ((names.length + 1 : Nat) : Int)) (by omega) (by omega)
  rw [Int.toNat_natCast] at r1
  have jn := line_join O hk
  have e : strL ((List.range (names.length + 1)).map fun j => partF names rows first j k) = strL (lineP names rows first k) := rfl
  rw [e] at h1
  have ep : strL (ls ++ [lineF names rows first k]) = .lst (ls.map D.str ++ [.str (lineF names rows first k)]) := by unfold strL; rw [List.map_append]; rfl
  rw [ep]
  have hpl : (ls.map D.str).length < 16777216 := by rw [List.length_map]; omega
  have es : strL ls = .lst (ls.map D.str) := rfl
  rw [es] at h1 ⊢
  generalize ((names.length + 1 : Nat) : Int) = N at *
  generalize strL (lineP names rows first k) = L1 at *
  generalize lineF names rows first k = L2 at *
  generalize raws names rows first (names.length + 1) = L3 at *
  generalize ls.map D.str = L4 at *
  generalize upto 0 (names.length + 1) = L5 at *
  clear e ep es nl O hk
  unfold b_law_due_2
  walk_at "mir"
theorem t_due (O : AOk names rows first) : m_law_due [strL names, .lst (rows.map rowD), .int first] = some (.str (alm names rows first)) := by
  have hn := O.nl
  have hr := O.rl
  have l1 : lenD [.lst (rows.map rowD)] = some (.int (rows.length : Int)) := (lenD_lst _).trans (by rw [List.length_map])
  have l2 : lenD [strL names] = some (.int (names.length : Int)) := (lenD_lst _).trans (by rw [List.length_map])
  have q3 : q_law_due_3 [some (strL names), some (.lst (rows.map rowD)), some (.int first), none, none, none, none, none, none] = some (strL (nums first rows.length)) := q_nums O.f (by omega) _ (rng_of l1 (by omega)) rfl
  have a0 := add_str1 "round" (nums first rows.length) (by rw [nums_l]; omega)
  obtain ⟨ρ1, h1, x4, rfl⟩ := forD_range (g := gV 4) (b := b_law_due_3) (lo := 0) (n := names.length) (ρ := [some (strL names), some (.lst (rows.map rowD)), some (.int first), some (.lst (raws names rows first 1)), none, none, none, none, none])
    (fun n ρ => ∃ x4, ρ = [some (strL names), some (.lst (rows.map rowD)), some (.int first), some (.lst (raws names rows first (n + 1))), x4, none, none, none, none]) ⟨none, rfl⟩ (by
      rintro i ρ hi ⟨x4, rfl⟩
      refine ⟨_, _, rfl, .inl ?_, some (.int (i : Int)), rfl⟩
      rw [Int.zero_add, raws_s (i + 1)]
      have hx : names[i]? = some (names.getD i "") := by rw [List.getD_eq_getElem?_getD, List.getElem?_eq_getElem hi]; rfl
      have e : raw names rows first (i + 1) = colT (names.getD i "") (rows.map fun row => row.getD i none) := by
        unfold raw
        rw [if_neg (by omega), Nat.add_sub_cancel]
      rw [e]
      have q : q_law_due_2 [some (strL names), some (.lst (rows.map rowD)), some (.int first), some (.lst (raws names rows first (i + 1))), some (.int (i : Int)), none, none, none, none] = some (strL ((rows.map fun row => row.getD i none).map wT)) := by
        unfold strL
        rw [List.map_map, List.map_map]
        refine comp_all rowD (fun row => D.str (wT (row.getD i none))) rows rfl (by omega) fun row hrow => ⟨[some (rowD row), some (.int (i : Int))], rfl, ?_⟩
        have hl := (O.r row hrow).1
        have x1 : ixD (rowD row) (.int (i : Int)) = some (encO (row.getD i none)) := by
          refine atI_map encO (.inl rfl) ?_
          rw [List.getD_eq_getElem?_getD, List.getElem?_eq_getElem (by omega)]
          rfl
        have tw := t_law_word (col_ok O i _ (List.mem_map.mpr ⟨row, hrow, rfl⟩))
        generalize encO (row.getD i none) = z at *
        generalize rowD row = z2 at *
        clear hl hx e hi l1 l2 q3 a0 hn hr O hrow
        walk_at "mir"
      have x1 : ixD (strL names) (.int (i : Int)) = some (.str (names.getD i "")) := atI_map D.str (.inl rfl) hx
      have a1 := add_str1 (names.getD i "") ((rows.map fun row => row.getD i none).map wT) (by rw [List.length_map, List.length_map]; omega)
      have e2 : strL (names.getD i "" :: (rows.map fun row => row.getD i none).map wT) = strL (colT (names.getD i "") (rows.map fun row => row.getD i none)) := rfl
      rw [e2] at a1
      have hl : (raws names rows first (i + 1)).length < 16777216 := by rw [raws_l]; omega
      generalize strL (colT (names.getD i "") (rows.map fun row => row.getD i none)) = L1 at *
      generalize strL ((rows.map fun row => row.getD i none).map wT) = L2 at *
      generalize raws names rows first (i + 1) = L3 at *
      generalize strL names = L4 at *
      generalize names.getD i "" = x at *
      generalize rows.map rowD = L5 at *
      clear e hi hx l1 l2 q3 a0 e2 hn hr O
      unfold b_law_due_3
      walk_at "mir")
  obtain ⟨ρ2, h2, z4, z6, z7, z8, rfl⟩ := forD_range (g := gV 6) (b := b_law_due_2) (lo := 0) (n := rows.length + 1) (ρ := [some (strL names), some (.lst (rows.map rowD)), some (.int first), some (.lst (raws names rows first (names.length + 1))), x4, some (.lst []), none, none, none])
    (fun n ρ => ∃ z4 z6 z7 z8, ρ = [some (strL names), some (.lst (rows.map rowD)), some (.int first), some (.lst (raws names rows first (names.length + 1))), z4, some (strL (linesF names rows first n)), z6, z7, z8]) ⟨_, _, _, _, rfl⟩ (by
      rintro k ρ hk ⟨z4, z6, z7, z8, rfl⟩
      obtain ⟨w4, w7, w8, e⟩ := due_2 O hk (some (strL names)) (some (.lst (rows.map rowD))) (some (.int first)) z4 z7 z8 (linesF names rows first k) (by unfold linesF; rw [List.length_map, List.length_range]; omega)
      refine ⟨_, _, rfl, .inl ?_, w4, some (.int (k : Int)), w7, w8, rfl⟩
      rw [Int.zero_add]
      have : linesF names rows first (k + 1) = linesF names rows first k ++ [lineF names rows first k] := by unfold linesF; rw [List.range_succ, List.map_append]; rfl
      rw [this]
      exact e)
  have jn := alm_join O
  have r1 := rng1_int (j := (names.length : Int)) (by omega) (by omega)
  have r2 := rng1_int (j := (rows.length : Int) + 1) (by omega) (by omega)
  rw [Int.toNat_natCast] at r1
  rw [show ((rows.length : Int) + 1).toNat = rows.length + 1 by omega] at r2
  have f0 : raws names rows first 1 = [strL ("round" :: nums first rows.length)] := rfl
  rw [f0] at h1
  generalize strL (linesF names rows first (rows.length + 1)) = L1 at *
  generalize alm names rows first = L2 at *
  generalize raws names rows first (names.length + 1) = L3 at *
  generalize strL ("round" :: nums first rows.length) = L4 at *
  generalize strL (nums first rows.length) = L5 at *
  generalize strL names = L6 at *
  generalize rows.map rowD = L7 at *
  generalize upto 0 names.length = L8 at *
  generalize upto 0 (rows.length + 1) = L9 at *
  clear hn hr O f0
  unfold m_law_due
  walk_at "mir"
end

def isSg (x : Option D) : Bool := match x with
  | some (.str a) => decide (a.length = 1) && PyData.strOk a
  | _ => false
theorem of_isSg {x : Option D} (h : isSg x = true) : ∃ a, x = some (.str a) ∧ a.length = 1 ∧ PyData.strOk a = true := by
  unfold isSg at h
  split at h
  · rename_i a
    rw [Bool.and_eq_true, decide_eq_true_iff] at h
    exact ⟨a, rfl, h.1, h.2⟩
  · cases h
theorem ix_let : ∀ l, l < 26 → isSg (ixD (.str "abcdefghijklmnopqrstuvwxyz") (.int ((l : Nat) : Int))) = true := by decide +kernel
theorem ix_sgn : ∀ l, l < 36 → isSg (ixD (.str ("abcdefghijklmnopqrstuvwxyz" ++ "0123456789")) (.int ((l : Nat) : Int))) = true := by decide +kernel
theorem mod_nat (z : Int) {m : Nat} (h : 0 < m) : ∃ l : Nat, z % (m : Int) = (l : Int) ∧ l < m := by
  have a1 := Int.emod_nonneg z (show (m : Int) ≠ 0 by omega)
  have a2 := Int.emod_lt_of_pos z (show (0 : Int) < (m : Int) by omega)
  exact ⟨(z % (m : Int)).toNat, by omega, by omega⟩
theorem names_1 (c at_ : Int) (k j n : Nat) (hj : j < 8) (y1 y4 y6 y10 : Option D) (w : Str) (hw : w.length ≤ n) (hn : n ≤ 100) (ok : PyData.strOk w = true) : ∃ (w' : Str) (z10 : Option D),
    b_law_names_1 [some (.int c), y1, some (.str "abcdefghijklmnopqrstuvwxyz"), some (.str ("abcdefghijklmnopqrstuvwxyz" ++ "0123456789")), y4, some (.int at_), y6, some (.int (k : Int)), some (.str w), some (.int (j : Int)), y10] =
      some (.nx [some (.int c), y1, some (.str "abcdefghijklmnopqrstuvwxyz"), some (.str ("abcdefghijklmnopqrstuvwxyz" ++ "0123456789")), y4, some (.int at_), y6, some (.int (k : Int)), some (.str w'), some (.int (j : Int)), z10]) ∧ w'.length ≤ n + 1 ∧ PyData.strOk w' = true := by
  have i1 : intB [.bl true] = some (.int 1) := rfl
  have i0 : intB [.bl false] = some (.int 0) := rfl
  have m1 : mulI (.int 37) (.int (j : Int)) = some (.int (37 * (j : Int))) := mulI_l (by decide) (by decide)
  have f1 : fdivD (.int c) (.int (64 + 37 * (j : Int))) = some (.int (c / (64 + 37 * (j : Int)))) := fdivD_lit (by omega) (by omega)
  obtain ⟨S, ev⟩ : ∃ S : Int, (e2 addD (e2 fdivD (eV 0) (e2 addD (eC (.int 64)) (e2 mulI (eC (.int 37)) (eV 9)))) (e2 mulI (eV 7) (eN intB (aCons (e2 (eqD false) (eV 9) (eV 5)) aNil)))) [some (.int c), y1, some (.str "abcdefghijklmnopqrstuvwxyz"), some (.str ("abcdefghijklmnopqrstuvwxyz" ++ "0123456789")), y4, some (.int at_), y6, some (.int (k : Int)), some (.str w), some (.int (j : Int)), y10] = some (.int S) := by
    generalize ("abcdefghijklmnopqrstuvwxyz" ++ "0123456789" : Str) = B at *
    generalize ("abcdefghijklmnopqrstuvwxyz" : Str) = A at *
    by_cases hb : (j : Int) = at_
    · refine ⟨c / (64 + 37 * (j : Int)) + (k : Int) * 1, ?_⟩
      have m2 : mulI (.int (k : Int)) (.int 1) = some (.int ((k : Int) * 1)) := mulI_r (by decide) (by decide)
      subst hb
      generalize c / (64 + 37 * (j : Int)) = C at *
      generalize (k : Int) * 1 = E at *
      clear hw hn hj ok i0
      walk_at "mir"
    · refine ⟨c / (64 + 37 * (j : Int)) + (k : Int) * 0, ?_⟩
      have m2 : mulI (.int (k : Int)) (.int 0) = some (.int ((k : Int) * 0)) := mulI_r (by decide) (by decide)
      generalize c / (64 + 37 * (j : Int)) = C at *
      generalize (k : Int) * 0 = E at *
      clear hw hn hj ok i1
      walk_at "mir"
  clear f1 m1 i0 i1
  obtain ⟨l1, e1, h1⟩ := mod_nat S (m := 26) (by decide)
  obtain ⟨l2, e2', h2⟩ := mod_nat S (m := 36) (by decide)
  obtain ⟨a1, x1, la1, ok1⟩ := of_isSg (ix_let l1 h1)
  obtain ⟨a2, x2, la2, ok2⟩ := of_isSg (ix_sgn l2 h2)
  have g1 : modD (.int S) (.int 26) = some (.int (l1 : Int)) := by rw [modD_pos (by decide)]; exact congrArg (fun z => some (D.int z)) e1
  have g2 : modD (.int S) (.int 36) = some (.int (l2 : Int)) := by rw [modD_pos (by decide)]; exact congrArg (fun z => some (D.int z)) e2'
  have ad : addD (.str w) (.str a2) = some (.str (w ++ a2)) := addD_str (by omega)
  have lad : (w ++ a2).length ≤ n + 1 := by rw [len_app]; omega
  have okd := ok_app ok ok2
  generalize ("abcdefghijklmnopqrstuvwxyz" ++ "0123456789" : Str) = B at *
  generalize ("abcdefghijklmnopqrstuvwxyz" : Str) = A at *
  unfold b_law_names_1
  generalize (e2 addD (e2 fdivD (eV 0) (e2 addD (eC (.int 64)) (e2 mulI (eC (.int 37)) (eV 9)))) (e2 mulI (eV 7) (eN intB (aCons (e2 (eqD false) (eV 9) (eV 5)) aNil)))) = EV at *
  clear hw hn h1 h2 la2 ok2 e1 e2'
  by_cases h0 : j = 0
  · refine ⟨a1, some (.int S), ?_, by omega, ok1⟩
    clear hj la1 lad okd ok1 ok
    subst h0
    have z0 : ((0 : Nat) : Int) = 0 := rfl
    rw [z0] at ev ⊢
    walk_at "mir"
  · refine ⟨w ++ a2, some (.int S), ?_, lad, okd⟩
    clear hj la1 lad okd ok1 ok
    walk_at "mir"
theorem t_names (c : Int) {many : Nat} (hm : many ≤ 7) : ∃ ns : List Str, m_law_names [.int c, .int (many : Int)] = some (strL ns) ∧ ns.length = many ∧ ∀ x ∈ ns, PyData.strOk x = true ∧ x.length ≤ 8 := by
  obtain ⟨sz, hsz, hs8⟩ : ∃ s : Nat, 1 + c % 8 = (s : Int) ∧ 1 ≤ s ∧ s ≤ 8 := ⟨(1 + c % 8).toNat, by omega, by omega, by omega⟩
  have ad : addD (.str "abcdefghijklmnopqrstuvwxyz") (.str "0123456789") = some (.str ("abcdefghijklmnopqrstuvwxyz" ++ "0123456789")) := addD_str (by decide +kernel)
  have md : modD (.int (c / 8)) (.int (sz : Int)) = some (.int (c / 8 % (sz : Int))) := modD_pos (by omega)
  have r1 := rng1_int (j := (many : Int)) (by omega) (by omega)
  have r2 := rng1_int (j := (sz : Int)) (by omega) (by omega)
  rw [Int.toNat_natCast] at r1 r2
  generalize c / 8 % (sz : Int) = at_ at md
  obtain ⟨ρ', h1, ns, y7, y8, y9, y10, rfl, hl, hb⟩ := forD_range (g := gV 7) (b := b_law_names_2) (lo := 0) (n := many) (ρ := [some (.int c), some (.int (many : Int)), some (.str "abcdefghijklmnopqrstuvwxyz"), some (.str ("abcdefghijklmnopqrstuvwxyz" ++ "0123456789")), some (.int (sz : Int)), some (.int at_), some (.lst []), none, none, none, none])
    (fun n ρ => ∃ (ns : List Str) (y7 y8 y9 y10 : Option D), ρ = [some (.int c), some (.int (many : Int)), some (.str "abcdefghijklmnopqrstuvwxyz"), some (.str ("abcdefghijklmnopqrstuvwxyz" ++ "0123456789")), some (.int (sz : Int)), some (.int at_), some (strL ns), y7, y8, y9, y10] ∧ ns.length = n ∧ ∀ x ∈ ns, PyData.strOk x = true ∧ x.length ≤ 8) ⟨[], _, _, _, _, rfl, rfl, fun x hx => by cases hx⟩ (by
      rintro k ρ hk ⟨ns, y7, y8, y9, y10, rfl, hl, hb⟩
      obtain ⟨ρ2, h2, w, z9, z10, rfl, hwl, hwo⟩ := forD_range (g := gV 9) (b := b_law_names_1) (lo := 0) (n := sz) (ρ := [some (.int c), some (.int (many : Int)), some (.str "abcdefghijklmnopqrstuvwxyz"), some (.str ("abcdefghijklmnopqrstuvwxyz" ++ "0123456789")), some (.int (sz : Int)), some (.int at_), some (strL ns), some (.int (k : Int)), some (.str ""), y9, y10])
        (fun n ρ => ∃ (w : Str) (z9 z10 : Option D), ρ = [some (.int c), some (.int (many : Int)), some (.str "abcdefghijklmnopqrstuvwxyz"), some (.str ("abcdefghijklmnopqrstuvwxyz" ++ "0123456789")), some (.int (sz : Int)), some (.int at_), some (strL ns), some (.int (k : Int)), some (.str w), z9, z10] ∧ w.length ≤ n ∧ PyData.strOk w = true) ⟨"", _, _, rfl, by decide, ok_lit _⟩ (by
          rintro j ρ hj ⟨w, z9, z10, rfl, hw, ok⟩
          obtain ⟨w', z, e, hw', ok'⟩ := names_1 c at_ k j j (by omega) (some (.int (many : Int))) (some (.int (sz : Int))) (some (strL ns)) z10 w hw (by omega) ok
          refine ⟨_, _, rfl, .inl ?_, w', some (.int (j : Int)), z, rfl, hw', ok'⟩
          rw [Int.zero_add]
          exact e)
      refine ⟨_, _, rfl, .inl ?_, ns ++ [w], some (.int (k : Int)), some (.str w), z9, z10, rfl, by rw [List.length_append, hl]; rfl, fun x hx => ?_⟩
      · rw [Int.zero_add]
        have ep : strL (ns ++ [w]) = .lst (ns.map D.str ++ [.str w]) := by unfold strL; rw [List.map_append]; rfl
        have es : strL ns = .lst (ns.map D.str) := rfl
        have hpl : (ns.map D.str).length < 16777216 := by rw [List.length_map]; omega
        rw [ep]
        rw [es] at h2 ⊢
        generalize ns.map D.str = L1 at *
        generalize ("abcdefghijklmnopqrstuvwxyz" ++ "0123456789" : Str) = B at *
        generalize ("abcdefghijklmnopqrstuvwxyz" : Str) = A at *
        generalize (sz : Int) = SZ at *
        generalize upto 0 sz = U at *
        clear ep es hwl hwo hl hb hs8 hm ad md r1 hk hsz
        unfold b_law_names_2
        walk_at "mir"
      · rcases List.mem_append.mp hx with hx | hx
        · exact hb x hx
        · rw [List.mem_singleton.mp hx]; exact ⟨hwo, by omega⟩)
  refine ⟨ns, ?_, hl, hb⟩
  unfold m_law_names
  generalize strL ns = L1 at *
  generalize ("abcdefghijklmnopqrstuvwxyz" ++ "0123456789" : Str) = B at *
  generalize ("abcdefghijklmnopqrstuvwxyz" : Str) = A at *
  clear hb hl hm hs8 r2
  generalize (sz : Int) = SZ at *
  generalize upto 0 many = U at *
  walk_at "mir"
theorem slice_ok {x : Str} (h : PyData.strOk x = true) (l u : Option Int) : PyData.strOk (Txt.slice x l u) = true := by
  unfold Txt.slice
  split
  · exact h
  · unfold PyData.strOk at *
    rw [← Array.all_toList, List.all_eq_true] at *
    intro y hy
    obtain ⟨i, _, e⟩ := List.mem_filterMap.mp hy
    exact h y (Array.mem_toList_iff.mpr (Array.mem_of_getElem? e))
theorem t_longer {x : Str} (h : PyData.strOk x = true ∧ x.length ≤ 8) (k : Nat) : ∃ y : Str, m_law_longer [.str x, .int (k : Int)] = some (.str y) ∧ PyData.strOk y = true ∧ y.length ≤ 100 := by
  have l := lenD_str (x := x) (by omega)
  have s1 : sliceS (.str x) none (some (1 + (k : Int) % 8)) = some (.str (Txt.slice x none (some (1 + (k : Int) % 8)))) := by
    show (if x.length ≤ 16777216 then _ else _) = _
    rw [if_pos (by omega)]
  have s2 : sliceS (.str x) none (some (8 - (x.length : Int))) = some (.str (Txt.slice x none (some (8 - (x.length : Int))))) := by
    show (if x.length ≤ 16777216 then _ else _) = _
    rw [if_pos (by omega)]
  have b1 := Txt.slice_le x none (some (1 + (k : Int) % 8))
  have b2 := Txt.slice_le x none (some (8 - (x.length : Int)))
  have o1 := slice_ok h.1 none (some (1 + (k : Int) % 8))
  have o2 := slice_ok h.1 none (some (8 - (x.length : Int)))
  have hx := h.2
  generalize Txt.slice x none (some (1 + (k : Int) % 8)) = A at *
  generalize Txt.slice x none (some (8 - (x.length : Int))) = B at *
  have ad : addD (.str A) (.str B) = some (.str (A ++ B)) := addD_str (by omega)
  refine ⟨A ++ B, ?_, ok_app o1 o2, by rw [len_app]; omega⟩
  generalize A ++ B = R at *
  clear h b1 b2 o1 o2 hx
  unfold m_law_longer
  walk_at "mir"
theorem pick8 (ds : List D) (h : ds.length = 8) (P : D → Prop) (hp : ∀ d ∈ ds, P d) (k : Int) : ∃ d, atI ds (k % 8) = some d ∧ P d := by
  obtain ⟨l, e, hl⟩ := mod_nat k (m := 8) (by decide)
  have e : k % 8 = (l : Int) := e
  rw [e]
  have hl' : l < ds.length := by omega
  exact ⟨ds[l], atI_nat (List.getElem?_eq_getElem hl'), hp _ (List.getElem_mem hl')⟩
theorem t_time (c : Int) {k : Int} (h0 : 0 ≤ k) (h1 : k ≤ 1000000) : ∃ t : Option Int, m_law_time [.int c, .int k] = some (encO t) ∧ TOk t := by
  obtain ⟨z, hz, hz1⟩ := t_mixed c h0 h1
  have m1 : mulI (.int (z : Int)) (.int 48271) = some (.int ((z : Int) * 48271)) := mulI_r (by decide) (by decide)
  have m2 : mulI (.int (z : Int)) (.int 69621) = some (.int ((z : Int) * 69621)) := mulI_r (by decide) (by decide)
  obtain ⟨d, hd, t, rfl, ht⟩ := pick8 [.non, .int ((z : Int) / 8 % 10), .int ((z : Int) / 8 % 1000), .int (-((z : Int) / 8 % 1000)), .int ((z : Int) * 48271 % 1000000000001), .int (-((z : Int) * 69621 % 1000000000000)), .int ((z : Int) / 8 % 100000), .int 0] rfl (fun d => ∃ t : Option Int, d = encO t ∧ TOk t) (by
    have key : ∀ i : Int, -2000000000000 ≤ i → i ≤ 2000000000000 → ∃ t : Option Int, D.int i = encO t ∧ TOk t := fun i h1 h2 => ⟨some i, rfl, fun j hj => by cases hj; exact (sz_of (n := 64) (w := 2000000000000) (by omega) (by omega) (by decide)).mono (by decide)⟩
    intro d hd
    simp only [List.mem_cons, List.not_mem_nil, or_false] at hd
    rcases hd with rfl | rfl | rfl | rfl | rfl | rfl | rfl | rfl
    · exact ⟨none, rfl, fun j hj => by cases hj⟩
    all_goals exact key _ (by omega) (by omega)) (z : Int)
  refine ⟨t, ?_, ht⟩
  have ix : ixD (.lst ([.non, .int ((z : Int) / 8 % 10), .int ((z : Int) / 8 % 1000), .int (-((z : Int) / 8 % 1000)), .int ((z : Int) * 48271 % 1000000000001)] ++ [.int (-((z : Int) * 69621 % 1000000000000)), .int ((z : Int) / 8 % 100000), .int 0])) (.int ((z : Int) % 8)) = some (encO t) := hd
  have ad : addD (.lst [.non, .int ((z : Int) / 8 % 10), .int ((z : Int) / 8 % 1000), .int (-((z : Int) / 8 % 1000)), .int ((z : Int) * 48271 % 1000000000001)]) (.lst [.int (-((z : Int) * 69621 % 1000000000000)), .int ((z : Int) / 8 % 100000), .int 0]) = some (.lst ([.non, .int ((z : Int) / 8 % 10), .int ((z : Int) / 8 % 1000), .int (-((z : Int) / 8 % 1000)), .int ((z : Int) * 48271 % 1000000000001)] ++ [.int (-((z : Int) * 69621 % 1000000000000)), .int ((z : Int) / 8 % 100000), .int 0])) := addD_lst (by show 5 + 3 ≤ 16777216; decide)
  generalize (([.non, .int ((z : Int) / 8 % 10), .int ((z : Int) / 8 % 1000), .int (-((z : Int) / 8 % 1000)), .int ((z : Int) * 48271 % 1000000000001)] : List D) ++ [.int (-((z : Int) * 69621 % 1000000000000)), .int ((z : Int) / 8 % 100000), .int 0]) = LL at *
  clear hd ht hz1
  generalize encO t = R at *
  unfold m_law_time
  walk_at "mir"

def E2l {α β : Type} [DecidableEq α] [DecidableEq β] (A : EncD α) (B : EncD β) : EncD (α × β) := ⟨fun p => .lst [A.enc p.1, B.enc p.2], fun p => .list [A.py p.1, B.py p.2], max A.dep B.dep + 1, fun p => by simp [D.py, D.pys, A.is, B.is], fun p => by simp [PyData.canLay0, PyData.canLayAll0, A.lay, B.lay],
  fun p => by have := A.dp p.1; have := B.dp p.2; simp only [PyData.depth, PyData.depthAll]; omega, fun p q => by
    simp only [PyData.eqv, PyData.eqvAll, A.eqv, B.eqv]
    obtain ⟨a, b⟩ := p
    obtain ⟨c, d⟩ := q
    by_cases h : a = c <;> by_cases g : b = d <;> simp [h, g]⟩
theorem eq_handed {names : List Str} (h : ∀ x ∈ names, PyData.strOk x = true) (rows : List (List (Option Int))) : eqD true (.lst [strL names, .lst (rows.map rowD)]) (.lst [strL names, .lst (rows.map rowD)]) = some (.bl false) := by
  have := (E2l (El Es) (El (El Eo))).eq (by decide) (neg := true) (names.pmap Subtype.mk h, rows) (names.pmap Subtype.mk h, rows)
  have e : (E2l (El Es) (El (El Eo))).enc (names.pmap Subtype.mk h, rows) = .lst [strL names, .lst (rows.map rowD)] := by
    show D.lst [.lst ((names.pmap Subtype.mk h).map Es.enc), .lst (rows.map (El Eo).enc)] = _
    rw [List.map_pmap]
    show D.lst [.lst (names.pmap (fun x _ => D.str x) h), .lst (rows.map rowD)] = _
    rw [List.pmap_eq_map]
    rfl
  rw [e] at this
  rw [this]
  simp
def timeF (c k : Int) : Option Int := match m_law_time [.int c, .int k] with
  | some (.int i) => some i
  | _ => none
theorem timeF_eq (c : Int) {k : Int} (h0 : 0 ≤ k) (h1 : k ≤ 1000000) : m_law_time [.int c, .int k] = some (encO (timeF c k)) ∧ TOk (timeF c k) := by
  obtain ⟨t, h, ht⟩ := t_time c h0 h1
  unfold timeF
  rw [h]
  cases t with
  | none => exact ⟨rfl, ht⟩
  | some i => exact ⟨rfl, ht⟩
theorem law_1 {S : D} (hS : ∀ k : Nat, k ≤ 100 → ∃ c, m_law_cell_at [S, .int (2 + (k : Int))] = some (.int c)) {names : List Str} (hn : names.length ≤ 7) (k : Nat) (hk : k ≤ 20) (rows : List (List (Option Int))) (hr : rows.length ≤ 20) (y1 y4 y5 : Option D) : ∃ (row : List (Option Int)) (z5 : Option D), (row.length = names.length ∧ ∀ t ∈ row, TOk t) ∧
    b_law_1 [some S, y1, some (strL names), some (.lst (rows.map rowD)), some (.int (k : Int)), y5, none, none, none, none] = some (.nx [some S, y1, some (strL names), some (.lst ((rows ++ [row]).map rowD)), some (.int (k : Int)), z5, none, none, none, none]) := by
  obtain ⟨c, hc⟩ := hS k (by omega)
  have m1 : mulI (.int 30) (.int (k : Int)) = some (.int (30 * (k : Int))) := mulI_l (by decide) (by decide)
  refine ⟨(List.range names.length).map fun (j : Nat) => timeF c (30 * (k : Int) + (j : Int)), some (.int c), ⟨by simp, fun t ht => ?_⟩, ?_⟩
  · obtain ⟨j, hj, rfl⟩ := List.mem_map.mp ht
    have := List.mem_range.mp hj
    exact (timeF_eq c (by omega) (by omega)).2
  · have l2 : lenD [strL names] = some (.int (names.length : Int)) := (lenD_lst _).trans (by rw [List.length_map])
    have q : q_law_2 [some S, y1, some (strL names), some (.lst (rows.map rowD)), some (.int (k : Int)), some (.int c), none, none, none, none] = some (rowD ((List.range names.length).map fun (j : Nat) => timeF c (30 * (k : Int) + (j : Int)))) := by
      unfold rowD
      rw [List.map_map]
      refine comp_all (fun (t : Nat) => D.int (t : Int)) (fun (j : Nat) => encO (timeF c (30 * (k : Int) + (j : Int)))) (List.range names.length) (rng_of l2 (by omega)) (by simp; omega) fun j hj => ⟨[some (.int (j : Int)), some (.int c), some (.int (k : Int))], rfl, ?_⟩
      have := List.mem_range.mp hj
      have tt := (timeF_eq c (k := 30 * (k : Int) + (j : Int)) (by omega) (by omega)).1
      generalize encO (timeF c (30 * (k : Int) + (j : Int))) = R at *
      clear this hj l2 hS hc hn hk hr
      walk_at "mir"
    have ep : (rows ++ [(List.range names.length).map fun (j : Nat) => timeF c (30 * (k : Int) + (j : Int))]).map rowD = rows.map rowD ++ [rowD ((List.range names.length).map fun (j : Nat) => timeF c (30 * (k : Int) + (j : Int)))] := by rw [List.map_append]; rfl
    have hl : (rows.map rowD).length < 16777216 := by rw [List.length_map]; omega
    rw [ep]
    generalize rowD ((List.range names.length).map fun (j : Nat) => timeF c (30 * (k : Int) + (j : Int))) = R at *
    generalize rows.map rowD = L1 at *
    generalize strL names = L2 at *
    clear ep l2 m1 hS hn hk hr
    unfold b_law_1
    walk_at "mir"
theorem law_true (ns : List Int) (_ : ns.length ≤ 63) : m_law [.lst (ns.map .int)] = some (.bl true) := by
  obtain ⟨c, c0⟩ := t_cell ns 0 (by decide)
  obtain ⟨s, c1⟩ := t_cell ns 1 (by decide)
  have hS : ∀ k : Nat, k ≤ 100 → ∃ c, m_law_cell_at [.lst (ns.map .int), .int (2 + (k : Int))] = some (.int c) := fun k _ => t_cell ns _ (by omega)
  generalize D.lst (ns.map .int) = S at *
  obtain ⟨z2, m2, _⟩ := t_mixed c (k := 2) (by decide) (by decide)
  obtain ⟨z3, m3, _⟩ := t_mixed c (k := 3) (by decide) (by decide)
  obtain ⟨n1, hn1, hl1, hb1⟩ := t_names c (many := z2 % 8) (by omega)
  have g2 : modD (.int (z2 : Int)) (.int 8) = some (.int ((z2 % 8 : Nat) : Int)) := by rw [modD_pos (by decide)]; exact congrArg (fun z => some (D.int z)) (by omega)
  have g3 : modD (.int (z3 : Int)) (.int 21) = some (.int ((z3 % 21 : Nat) : Int)) := by rw [modD_pos (by decide)]; exact congrArg (fun z => some (D.int z)) (by omega)
  obtain ⟨names, hnl, hnb, blk⟩ : ∃ names : List Str, names.length ≤ 7 ∧ (∀ x ∈ names, PyData.strOk x = true ∧ x.length ≤ 100) ∧
      sIf (tb (e2 (eqD false) (e2 modD (eV 1) (eC (.int 3))) (eC (.int 1)))) (sSet 2 q_law_3) sSkip [some S, some (.int c), some (strL n1), none, none, none, none, none, none, none] = some (.nx [some S, some (.int c), some (strL names), none, none, none, none, none, none, none]) := by
    by_cases h3 : c % 3 = 1
    · have key : ∀ k : Nat, ∃ y : Str, k < n1.length → m_law_longer [.str (n1.getD k ""), .int (k : Int)] = some (.str y) ∧ PyData.strOk y = true ∧ y.length ≤ 100 := by
        intro k
        by_cases hk : k < n1.length
        · have hm : n1.getD k "" ∈ n1 := by rw [List.getD_eq_getElem?_getD, List.getElem?_eq_getElem hk]; exact List.getElem_mem hk
          obtain ⟨y, hy⟩ := t_longer (hb1 _ hm) k
          exact ⟨y, fun _ => hy⟩
        · exact ⟨"", fun z => absurd z hk⟩
      obtain ⟨Y, hY⟩ := Classical.axiomOfChoice key
      refine ⟨(List.range n1.length).map Y, by rw [List.length_map, List.length_range]; omega, fun x hx => ?_, ?_⟩
      · obtain ⟨k, hk, rfl⟩ := List.mem_map.mp hx
        exact (hY k (List.mem_range.mp hk)).2
      · have l1 : lenD [strL n1] = some (.int (n1.length : Int)) := (lenD_lst _).trans (by rw [List.length_map])
        have q3 : q_law_3 [some S, some (.int c), some (strL n1), none, none, none, none, none, none, none] = some (strL ((List.range n1.length).map Y)) := by
          unfold strL
          rw [List.map_map]
          refine comp_all (fun (t : Nat) => D.int (t : Int)) (fun (k : Nat) => D.str (Y k)) (List.range n1.length) (rng_of l1 (by omega)) (by simp; omega) fun k hk => ⟨[some (.int (k : Int)), some (strL n1)], rfl, ?_⟩
          have hk := List.mem_range.mp hk
          have y1 := (hY k hk).1
          have x1 : ixD (strL n1) (.int (k : Int)) = some (.str (n1.getD k "")) := atI_map D.str (.inl rfl) (by rw [List.getD_eq_getElem?_getD, List.getElem?_eq_getElem hk]; rfl)
          generalize n1.getD k "" = X at *
          generalize strL n1 = L1 at *
          clear hY hk l1 hb1 hS
          walk_at "mir"
        generalize strL ((List.range n1.length).map Y) = L2 at *
        generalize strL n1 = L1 at *
        clear hY l1 hb1 hS key
        walk_at "mir"
    · refine ⟨n1, by omega, fun x hx => ⟨(hb1 x hx).1, by have := (hb1 x hx).2; omega⟩, ?_⟩
      generalize strL n1 = L1 at *
      clear hb1 hS
      walk_at "mir"
  obtain ⟨ρ', h1, rows, y4, y5, rfl, hrl, hrb⟩ := forD_range (g := gV 4) (b := b_law_1) (lo := 0) (n := z3 % 21) (ρ := [some S, some (.int c), some (strL names), some (.lst []), none, none, none, none, none, none])
    (fun n ρ => ∃ (rows : List (List (Option Int))) (y4 y5 : Option D), ρ = [some S, some (.int c), some (strL names), some (.lst (rows.map rowD)), y4, y5, none, none, none, none] ∧ rows.length = n ∧ ∀ row ∈ rows, row.length = names.length ∧ ∀ t ∈ row, TOk t) ⟨[], _, _, rfl, rfl, fun x hx => by cases hx⟩ (by
      rintro k ρ hk ⟨rows, y4, y5, rfl, hl, hb⟩
      obtain ⟨row, z5, h5, e⟩ := law_1 hS hnl k (by omega) rows (by omega) (some (.int c)) y4 y5
      refine ⟨_, _, rfl, .inl (by rw [Int.zero_add]; exact e), rows ++ [row], some (.int (k : Int)), z5, rfl, by rw [List.length_append, hl]; rfl, fun x hx => ?_⟩
      rcases List.mem_append.mp hx with hx | hx
      · exact hb x hx
      · rw [List.mem_singleton.mp hx]; exact h5)
  obtain ⟨f, hf, hf4⟩ := pick4 (s / 4 % 21) (s / 4 % 100000) (s / 4 % 1000000000) 99990 s
  have O : AOk names rows f := ⟨hnb, hnl, hrb, by omega, by omega⟩
  have hf : ixD (.lst [.int (s / 4 % 21), .int (s / 4 % 100000), .int (s / 4 % 1000000000), .int 99990]) (.int (s % 4)) = some (.int f) := hf
  have ta := t_almanac O
  have td := t_due O
  have e1 := eq_handed (fun x hx => (hnb x hx).1) rows
  have e2' := eqD_str (neg := false) (alm_ok O) (alm_ok O)
  have li : listD [strL names] = some (strL names) := rfl
  have q1 : ∀ y4 y5 y6 y7, q_law_1 [some S, some (.int c), some (strL names), some (.lst (rows.map rowD)), y4, y5, y6, y7, none, none] = some (.lst (rows.map rowD)) := fun y4 y5 y6 y7 =>
    comp_all rowD rowD rows rfl (by omega) fun row _ => ⟨[some (rowD row)], rfl, rfl⟩
  have q1 := q1 y4 y5 (some (.int s)) (some (.int f))
  have r1 := rng1_int (j := ((z3 % 21 : Nat) : Int)) (by omega) (by omega)
  rw [Int.toNat_natCast] at r1
  have x0 : ixD (.lst [strL names, .lst (rows.map rowD)]) (.int 0) = some (strL names) := rfl
  have x1 : ixD (.lst [strL names, .lst (rows.map rowD)]) (.int 1) = some (.lst (rows.map rowD)) := rfl
  have is : isiD "str" (.str (alm names rows f)) = some (.bl true) := rfl
  rw [decide_eq_true rfl, if_neg (by decide)] at e2'
  clear O hf4 hrb hrl hnb hnl hb1 hl1 hS
  generalize ((z2 % 8 : Nat) : Int) = Z2 at *
  generalize ((z3 % 21 : Nat) : Int) = Z3 at *
  generalize upto 0 (z3 % 21) = U at *
  unfold m_law
  generalize (sIf (tb (e2 (eqD false) (e2 modD (eV 1) (eC (.int 3))) (eC (.int 1)))) (sSet 2 q_law_3) sSkip) = B at *
  generalize alm names rows f = A at *
  generalize rows.map rowD = L1 at *
  generalize strL names = L2 at *
  generalize strL n1 = L3 at *
  walk_at "mir"

section
variable {P : Program} {w : World} {K : PySem.W.Frag} {mg : Str → Option Value} {base : Heap} {a : Adr}
theorem ok_top (T : Txt K mg a) : FnOk P w K mg base CX0 4 a.f_law a.d_law ["_law_script"] (spLaw K) := law_ok (ok_law (ct := fun _ => 0) T) law_true
end
theorem all_mk {l : PySem.W.OpenLaw} {w : World} {K : PySem.W.Frag} {h : Heap} {mg : Str → Option Value} {fa f0 f1 f2 f3 f4 f5 f6 f7 f8 f9 f10 f11 f12 f13 f14 : Addr} (X : K.In h) (G : h.Ns mainGlobals mg) (hfa : mg "law" = some (.ref fa))
    {od0 an0 od1 an1 od2 an2 od3 an3 od4 an4 od5 an5 od6 an6 od7 an7 od8 an8 od9 an9 od10 an10 od11 an11 od12 an12 od13 an13 od14 an14 : Option Addr} {sl0 sl1 sl2 sl3 sl4 sl5 sl6 sl7 sl8 sl9 sl10 sl11 sl12 sl13 sl14 : Array (Option Value)} {oc0 kV0 dc0 pm0 cd0 ct0 oc1 kV1 dc1 pm1 cd1 ct1 oc2 kV2 dc2 pm2 cd2 ct2 oc3 kV3 dc3 pm3 cd3 ct3 oc4 kV4 dc4 pm4 cd4 ct4 oc5 kV5 dc5 pm5 cd5 ct5 oc6 kV6 dc6 pm6 cd6 ct6 oc7 kV7 dc7 pm7 cd7 ct7 oc8 kV8 dc8 pm8 cd8 ct8 oc9 kV9 dc9 pm9 cd9 ct9 oc10 kV10 dc10 pm10 cd10 ct10 oc11 kV11 dc11 pm11 cd11 ct11 oc12 kV12 dc12 pm12 cd12 ct12 oc13 kV13 dc13 pm13 cd13 ct13 oc14 kV14 dc14 pm14 cd14 ct14 : Value} 
    (a0 : PySem.W.nsIn K mainGlobals "time_word" = some (some (.ref f0)))
    (l0 : K.lookup f0 = some ⟨oc0, od0, .func (PySem.W.fnOf "time_word" "time_word" (defArgs s_time_word) (defBody s_time_word) (defScope s_time_word) .none kV0 dc0 pm0 an0 cd0 ct0), sl0⟩) (c0 : PySem.W.codeIn K cd0 "time_word" = true) (k0 : PySem.W.keepIn K (.ref f0) = true)
    (a1 : PySem.W.nsIn K mainGlobals "widest" = some (some (.ref f1)))
    (l1 : K.lookup f1 = some ⟨oc1, od1, .func (PySem.W.fnOf "widest" "widest" (defArgs s_widest) (defBody s_widest) (defScope s_widest) .none kV1 dc1 pm1 an1 cd1 ct1), sl1⟩) (c1 : PySem.W.codeIn K cd1 "widest" = true) (k1 : PySem.W.keepIn K (.ref f1) = true)
    (a2 : PySem.W.nsIn K mainGlobals "number_column" = some (some (.ref f2)))
    (l2 : K.lookup f2 = some ⟨oc2, od2, .func (PySem.W.fnOf "number_column" "number_column" (defArgs s_number_column) (defBody s_number_column) (defScope s_number_column) .none kV2 dc2 pm2 an2 cd2 ct2), sl2⟩) (c2 : PySem.W.codeIn K cd2 "number_column" = true) (k2 : PySem.W.keepIn K (.ref f2) = true)
    (a3 : PySem.W.nsIn K mainGlobals "time_column" = some (some (.ref f3)))
    (l3 : K.lookup f3 = some ⟨oc3, od3, .func (PySem.W.fnOf "time_column" "time_column" (defArgs s_time_column) (defBody s_time_column) (defScope s_time_column) .none kV3 dc3 pm3 an3 cd3 ct3), sl3⟩) (c3 : PySem.W.codeIn K cd3 "time_column" = true) (k3 : PySem.W.keepIn K (.ref f3) = true)
    (a4 : PySem.W.nsIn K mainGlobals "line_across" = some (some (.ref f4)))
    (l4 : K.lookup f4 = some ⟨oc4, od4, .func (PySem.W.fnOf "line_across" "line_across" (defArgs s_line_across) (defBody s_line_across) (defScope s_line_across) .none kV4 dc4 pm4 an4 cd4 ct4), sl4⟩) (c4 : PySem.W.codeIn K cd4 "line_across" = true) (k4 : PySem.W.keepIn K (.ref f4) = true)
    (a5 : PySem.W.nsIn K mainGlobals "almanac" = some (some (.ref f5)))
    (l5 : K.lookup f5 = some ⟨oc5, od5, .func (PySem.W.fnOf "almanac" "almanac" (defArgs s_almanac) (defBody s_almanac) (defScope s_almanac) .none kV5 dc5 pm5 an5 cd5 ct5), sl5⟩) (c5 : PySem.W.codeIn K cd5 "almanac" = true) (k5 : PySem.W.keepIn K (.ref f5) = true)
    (a6 : PySem.W.nsIn K mainGlobals "_law_cell_at" = some (some (.ref f6)))
    (l6 : K.lookup f6 = some ⟨oc6, od6, .func (PySem.W.fnOf "_law_cell_at" "_law_cell_at" (defArgs s_law_cell_at) (defBody s_law_cell_at) (defScope s_law_cell_at) .none kV6 dc6 pm6 an6 cd6 ct6), sl6⟩) (c6 : PySem.W.codeIn K cd6 "_law_cell_at" = true) (k6 : PySem.W.keepIn K (.ref f6) = true)
    (a7 : PySem.W.nsIn K mainGlobals "_law_mixed" = some (some (.ref f7)))
    (l7 : K.lookup f7 = some ⟨oc7, od7, .func (PySem.W.fnOf "_law_mixed" "_law_mixed" (defArgs s_law_mixed) (defBody s_law_mixed) (defScope s_law_mixed) .none kV7 dc7 pm7 an7 cd7 ct7), sl7⟩) (c7 : PySem.W.codeIn K cd7 "_law_mixed" = true) (k7 : PySem.W.keepIn K (.ref f7) = true)
    (a8 : PySem.W.nsIn K mainGlobals "_law_names" = some (some (.ref f8)))
    (l8 : K.lookup f8 = some ⟨oc8, od8, .func (PySem.W.fnOf "_law_names" "_law_names" (defArgs s_law_names) (defBody s_law_names) (defScope s_law_names) .none kV8 dc8 pm8 an8 cd8 ct8), sl8⟩) (c8 : PySem.W.codeIn K cd8 "_law_names" = true) (k8 : PySem.W.keepIn K (.ref f8) = true)
    (a9 : PySem.W.nsIn K mainGlobals "_law_longer" = some (some (.ref f9)))
    (l9 : K.lookup f9 = some ⟨oc9, od9, .func (PySem.W.fnOf "_law_longer" "_law_longer" (defArgs s_law_longer) (defBody s_law_longer) (defScope s_law_longer) .none kV9 dc9 pm9 an9 cd9 ct9), sl9⟩) (c9 : PySem.W.codeIn K cd9 "_law_longer" = true) (k9 : PySem.W.keepIn K (.ref f9) = true)
    (a10 : PySem.W.nsIn K mainGlobals "_law_time" = some (some (.ref f10)))
    (l10 : K.lookup f10 = some ⟨oc10, od10, .func (PySem.W.fnOf "_law_time" "_law_time" (defArgs s_law_time) (defBody s_law_time) (defScope s_law_time) .none kV10 dc10 pm10 an10 cd10 ct10), sl10⟩) (c10 : PySem.W.codeIn K cd10 "_law_time" = true) (k10 : PySem.W.keepIn K (.ref f10) = true)
    (a11 : PySem.W.nsIn K mainGlobals "_law_word" = some (some (.ref f11)))
    (l11 : K.lookup f11 = some ⟨oc11, od11, .func (PySem.W.fnOf "_law_word" "_law_word" (defArgs s_law_word) (defBody s_law_word) (defScope s_law_word) .none kV11 dc11 pm11 an11 cd11 ct11), sl11⟩) (c11 : PySem.W.codeIn K cd11 "_law_word" = true) (k11 : PySem.W.keepIn K (.ref f11) = true)
    (a12 : PySem.W.nsIn K mainGlobals "_law_filled" = some (some (.ref f12)))
    (l12 : K.lookup f12 = some ⟨oc12, od12, .func (PySem.W.fnOf "_law_filled" "_law_filled" (defArgs s_law_filled) (defBody s_law_filled) (defScope s_law_filled) .none kV12 dc12 pm12 an12 cd12 ct12), sl12⟩) (c12 : PySem.W.codeIn K cd12 "_law_filled" = true) (k12 : PySem.W.keepIn K (.ref f12) = true)
    (a13 : PySem.W.nsIn K mainGlobals "_law_due" = some (some (.ref f13)))
    (l13 : K.lookup f13 = some ⟨oc13, od13, .func (PySem.W.fnOf "_law_due" "_law_due" (defArgs s_law_due) (defBody s_law_due) (defScope s_law_due) .none kV13 dc13 pm13 an13 cd13 ct13), sl13⟩) (c13 : PySem.W.codeIn K cd13 "_law_due" = true) (k13 : PySem.W.keepIn K (.ref f13) = true)
    (a14 : PySem.W.nsIn K mainGlobals "law" = some (some (.ref f14)))
    (l14 : K.lookup f14 = some ⟨oc14, od14, .func (PySem.W.fnOf "law" "law" (defArgs s_law) (defBody s_law) (defScope s_law) .none kV14 dc14 pm14 an14 cd14 ct14), sl14⟩) (c14 : PySem.W.codeIn K cd14 "law" = true) (k14 : PySem.W.keepIn K (.ref f14) = true)
    (z0 : PySem.W.nsIn K mainGlobals "enumerate" = some none)
    (z1 : PySem.W.nsIn K mainGlobals "int" = some none)
    (z2 : PySem.W.nsIn K mainGlobals "isinstance" = some none)
    (z3 : PySem.W.nsIn K mainGlobals "len" = some none)
    (z4 : PySem.W.nsIn K mainGlobals "list" = some none)
    (z5 : PySem.W.nsIn K mainGlobals "max" = some none)
    (z6 : PySem.W.nsIn K mainGlobals "range" = some none)
    (z7 : PySem.W.nsIn K mainGlobals "str" = some none) :
    ∃ fd : FuncData, (∀ (s : Shared) (v : Value), BindsTo s fd ⟨[v], []⟩ [("_law_script", v)]) ∧ ∀ base : Heap, K.In base → base.Ns mainGlobals mg → FnOk l.prog w K mg base CX0 4 fa fd ["_law_script"] (spLaw K) := by
  have e := hfa.symm.trans (PySem.W.mg_of X G a14)
  cases e
  have F0 := fun2_mk (st := s_time_word) l0 c0 k0
  have b0 : Binds K (PySem.W.fnOf "time_word" "time_word" (defArgs s_time_word) (defBody s_time_word) (defScope s_time_word) .none kV0 dc0 pm0 an0 cd0 ct0) ["time"] [] := .all (lA1 fun _ => rfl)
  have F1 := fun2_mk (st := s_widest) l1 c1 k1
  have b1 : Binds K (PySem.W.fnOf "widest" "widest" (defArgs s_widest) (defBody s_widest) (defScope s_widest) .none kV1 dc1 pm1 an1 cd1 ct1) ["words"] [] := .all (lA1 fun _ => rfl)
  have F2 := fun2_mk (st := s_number_column) l2 c2 k2
  have b2 : Binds K (PySem.W.fnOf "number_column" "number_column" (defArgs s_number_column) (defBody s_number_column) (defScope s_number_column) .none kV2 dc2 pm2 an2 cd2 ct2) ["first", "many"] [] := .all (lA2 fun _ _ => rfl)
  have F3 := fun2_mk (st := s_time_column) l3 c3 k3
  have b3 : Binds K (PySem.W.fnOf "time_column" "time_column" (defArgs s_time_column) (defBody s_time_column) (defScope s_time_column) .none kV3 dc3 pm3 an3 cd3 ct3) ["name", "times"] [] := .all (lA2 fun _ _ => rfl)
  have F4 := fun2_mk (st := s_line_across) l4 c4 k4
  have b4 : Binds K (PySem.W.fnOf "line_across" "line_across" (defArgs s_line_across) (defBody s_line_across) (defScope s_line_across) .none kV4 dc4 pm4 an4 cd4 ct4) ["columns", "place"] [] := .all (lA2 fun _ _ => rfl)
  have F5 := fun2_mk (st := s_almanac) l5 c5 k5
  have b5 : Binds K (PySem.W.fnOf "almanac" "almanac" (defArgs s_almanac) (defBody s_almanac) (defScope s_almanac) .none kV5 dc5 pm5 an5 cd5 ct5) ["names", "rows", "first"] [] := .all (lA3 fun _ _ _ => rfl)
  have F6 := fun2_mk (st := s_law_cell_at) l6 c6 k6
  have b6 : Binds K (PySem.W.fnOf "_law_cell_at" "_law_cell_at" (defArgs s_law_cell_at) (defBody s_law_cell_at) (defScope s_law_cell_at) .none kV6 dc6 pm6 an6 cd6 ct6) ["_law_script", "_law_k"] [] := .all (lA2 fun _ _ => rfl)
  have F7 := fun2_mk (st := s_law_mixed) l7 c7 k7
  have b7 : Binds K (PySem.W.fnOf "_law_mixed" "_law_mixed" (defArgs s_law_mixed) (defBody s_law_mixed) (defScope s_law_mixed) .none kV7 dc7 pm7 an7 cd7 ct7) ["_law_cell", "_law_k"] [] := .all (lA2 fun _ _ => rfl)
  have F8 := fun2_mk (st := s_law_names) l8 c8 k8
  have b8 : Binds K (PySem.W.fnOf "_law_names" "_law_names" (defArgs s_law_names) (defBody s_law_names) (defScope s_law_names) .none kV8 dc8 pm8 an8 cd8 ct8) ["_law_cell", "_law_many"] [] := .all (lA2 fun _ _ => rfl)
  have F9 := fun2_mk (st := s_law_longer) l9 c9 k9
  have b9 : Binds K (PySem.W.fnOf "_law_longer" "_law_longer" (defArgs s_law_longer) (defBody s_law_longer) (defScope s_law_longer) .none kV9 dc9 pm9 an9 cd9 ct9) ["_law_name", "_law_k"] [] := .all (lA2 fun _ _ => rfl)
  have F10 := fun2_mk (st := s_law_time) l10 c10 k10
  have b10 : Binds K (PySem.W.fnOf "_law_time" "_law_time" (defArgs s_law_time) (defBody s_law_time) (defScope s_law_time) .none kV10 dc10 pm10 an10 cd10 ct10) ["_law_cell", "_law_k"] [] := .all (lA2 fun _ _ => rfl)
  have F11 := fun2_mk (st := s_law_word) l11 c11 k11
  have b11 : Binds K (PySem.W.fnOf "_law_word" "_law_word" (defArgs s_law_word) (defBody s_law_word) (defScope s_law_word) .none kV11 dc11 pm11 an11 cd11 ct11) ["_law_time_here"] [] := .all (lA1 fun _ => rfl)
  have F12 := fun2_mk (st := s_law_filled) l12 c12 k12
  have b12 : Binds K (PySem.W.fnOf "_law_filled" "_law_filled" (defArgs s_law_filled) (defBody s_law_filled) (defScope s_law_filled) .none kV12 dc12 pm12 an12 cd12 ct12) ["_law_word_here", "_law_wide", "_law_sign"] [] := .all (lA3 fun _ _ _ => rfl)
  have F13 := fun2_mk (st := s_law_due) l13 c13 k13
  have b13 : Binds K (PySem.W.fnOf "_law_due" "_law_due" (defArgs s_law_due) (defBody s_law_due) (defScope s_law_due) .none kV13 dc13 pm13 an13 cd13 ct13) ["_law_names_here", "_law_rows", "_law_first"] [] := .all (lA3 fun _ _ _ => rfl)
  have F14 := fun2_mk (st := s_law) l14 c14 k14
  have b14 : Binds K (PySem.W.fnOf "law" "law" (defArgs s_law) (defBody s_law) (defScope s_law) .none kV14 dc14 pm14 an14 cd14 ct14) ["_law_script"] [] := .all (lA1 fun _ => rfl)
  have T : Txt K mg ⟨f0, PySem.W.fnOf "time_word" "time_word" (defArgs s_time_word) (defBody s_time_word) (defScope s_time_word) .none kV0 dc0 pm0 an0 cd0 ct0, f1, PySem.W.fnOf "widest" "widest" (defArgs s_widest) (defBody s_widest) (defScope s_widest) .none kV1 dc1 pm1 an1 cd1 ct1, f2, PySem.W.fnOf "number_column" "number_column" (defArgs s_number_column) (defBody s_number_column) (defScope s_number_column) .none kV2 dc2 pm2 an2 cd2 ct2, f3, PySem.W.fnOf "time_column" "time_column" (defArgs s_time_column) (defBody s_time_column) (defScope s_time_column) .none kV3 dc3 pm3 an3 cd3 ct3, f4, PySem.W.fnOf "line_across" "line_across" (defArgs s_line_across) (defBody s_line_across) (defScope s_line_across) .none kV4 dc4 pm4 an4 cd4 ct4, f5, PySem.W.fnOf "almanac" "almanac" (defArgs s_almanac) (defBody s_almanac) (defScope s_almanac) .none kV5 dc5 pm5 an5 cd5 ct5, f6, PySem.W.fnOf "_law_cell_at" "_law_cell_at" (defArgs s_law_cell_at) (defBody s_law_cell_at) (defScope s_law_cell_at) .none kV6 dc6 pm6 an6 cd6 ct6, f7, PySem.W.fnOf "_law_mixed" "_law_mixed" (defArgs s_law_mixed) (defBody s_law_mixed) (defScope s_law_mixed) .none kV7 dc7 pm7 an7 cd7 ct7, f8, PySem.W.fnOf "_law_names" "_law_names" (defArgs s_law_names) (defBody s_law_names) (defScope s_law_names) .none kV8 dc8 pm8 an8 cd8 ct8, f9, PySem.W.fnOf "_law_longer" "_law_longer" (defArgs s_law_longer) (defBody s_law_longer) (defScope s_law_longer) .none kV9 dc9 pm9 an9 cd9 ct9, f10, PySem.W.fnOf "_law_time" "_law_time" (defArgs s_law_time) (defBody s_law_time) (defScope s_law_time) .none kV10 dc10 pm10 an10 cd10 ct10, f11, PySem.W.fnOf "_law_word" "_law_word" (defArgs s_law_word) (defBody s_law_word) (defScope s_law_word) .none kV11 dc11 pm11 an11 cd11 ct11, f12, PySem.W.fnOf "_law_filled" "_law_filled" (defArgs s_law_filled) (defBody s_law_filled) (defScope s_law_filled) .none kV12 dc12 pm12 an12 cd12 ct12, f13, PySem.W.fnOf "_law_due" "_law_due" (defArgs s_law_due) (defBody s_law_due) (defScope s_law_due) .none kV13 dc13 pm13 an13 cd13 ct13, fa, PySem.W.fnOf "law" "law" (defArgs s_law) (defBody s_law) (defScope s_law) .none kV14 dc14 pm14 an14 cd14 ct14⟩ := by
    constructor
    · exact ⟨F0, PySem.W.mg_of X G a0, b0⟩
    · exact ⟨F1, PySem.W.mg_of X G a1, b1⟩
    · exact ⟨F2, PySem.W.mg_of X G a2, b2⟩
    · exact ⟨F3, PySem.W.mg_of X G a3, b3⟩
    · exact ⟨F4, PySem.W.mg_of X G a4, b4⟩
    · exact ⟨F5, PySem.W.mg_of X G a5, b5⟩
    · exact ⟨F6, PySem.W.mg_of X G a6, b6⟩
    · exact ⟨F7, PySem.W.mg_of X G a7, b7⟩
    · exact ⟨F8, PySem.W.mg_of X G a8, b8⟩
    · exact ⟨F9, PySem.W.mg_of X G a9, b9⟩
    · exact ⟨F10, PySem.W.mg_of X G a10, b10⟩
    · exact ⟨F11, PySem.W.mg_of X G a11, b11⟩
    · exact ⟨F12, PySem.W.mg_of X G a12, b12⟩
    · exact ⟨F13, PySem.W.mg_of X G a13, b13⟩
    · exact ⟨F14, PySem.W.mg_of X G a14, b14⟩
    · exact PySem.W.mg_none_of X G z0
    · exact PySem.W.mg_none_of X G z1
    · exact PySem.W.mg_none_of X G z2
    · exact PySem.W.mg_none_of X G z3
    · exact PySem.W.mg_none_of X G z4
    · exact PySem.W.mg_none_of X G z5
    · exact PySem.W.mg_none_of X G z6
    · exact PySem.W.mg_none_of X G z7
  exact ⟨PySem.W.fnOf "law" "law" (defArgs s_law) (defBody s_law) (defScope s_law) .none kV14 dc14 pm14 an14 cd14 ct14, fun s v => .of_eq rfl, fun base _ _ => ok_top T⟩
theorem walk {l : PySem.W.OpenLaw} {q : Program} {loose : List Str} {XP : (Str → Option Value) → Heap → Prop} {YP : World → Heap → Prop} {d : DefRec} {K : Params → PySem.W.Frag} (hn : l.most = some 63) (hdf : d.params.defaults = [])
    (hY : ∀ (w : World) (h : Heap), YP w h → (K w.params).In h)
    (F : ∀ (w : World) (mg : Str → Option Value) (fa : Addr) (h : Heap), (K w.params).In h → h.Ns mainGlobals mg → mg d.name = some (.ref fa) →
      ∃ fd : FuncData, (∀ (s : Shared) (u : Value), BindsTo s fd ⟨[u], []⟩ [("_law_script", u)]) ∧ ∀ base : Heap, (K w.params).In base → base.Ns mainGlobals mg → FnOk l.prog w (K w.params) mg base CX0 4 fa fd ["_law_script"] (spLaw (K w.params))) :
    PySem.W.WalkO q loose XP YP l.row.toRowW d [] (fun f vs => PySem.call f vs) :=
  L2.walk_of (n := 63) (k := 4) (x := "_law_script") (CX := fun _ => CX0) (sp := fun w => spLaw (K w.params)) hn (by decide) hdf ⟨rfl, by decide, by decide⟩ hY F (fun _ _ a ns hl _ hS => ⟨a, ns, rfl, hS, hl, fun _ => rfl⟩) fun _ _ _ _ _ z => z
end My
-- KEEP
def PySem.W.Fast.tw10076875639288175296 : Nat := 0
def PySem.W.Fast.tw17370908721999417205 : Nat := 0
def PySem.W.Fast.tw1822414610056354590 : Nat := 0
def PySem.W.Fast.tw13398208260231303458 : Nat := 0
def PySem.W.Fast.tw2876483576001169747 : Nat := 0
def PySem.W.Fast.tw512780685207651971 : Nat := 0
def PySem.W.Fast.tw3116367617443805385 : Nat := 0
def PySem.W.Fast.tw15996195519683844901 : Nat := 0
def PySem.W.Fast.tw16924627221468449331 : Nat := 0
def PySem.W.Fast.tw1094894557089959302 : Nat := 0
def PySem.W.Fast.tw9576912250401278505 : Nat := 0
def PySem.W.Fast.tw9496094523756103335 : Nat := 0
def PySem.W.Fast.tw8788949442813190361 : Nat := 0
def PySem.W.Fast.tw1071520409378016632 : Nat := 0
def PySem.W.Fast.tw1041992421845962900 : Nat := 0
def PySem.W.Fast.tw4940110491074825584 : Nat := 0
def PySem.W.Fast.tw10007733082909391717 : Nat := 0
def PySem.W.Fast.tw9956180806324360932 : Nat := 0
def PySem.W.Fast.tw11758217541560594109 : Nat := 0
def PySem.W.Fast.tw15405949446238114543 : Nat := 0
open PySem PySem.W PyProof.Rows
set_option maxRecDepth 100000 in
set_option maxHeartbeats 0 in
theorem PySem.Challenge.cw_ringbeat_k84_almanacs_holds : PySem.Challenge.rw_ringbeat_k84_almanacs.Holds := by
  w_on; o_law; k_head; (case hw => w_witness2)
  k_fill
  refine My.walk (l := PySem.Challenge.rw_ringbeat_k84_almanacs) rfl rfl (fun w h Y => PySem.W.kIn_of Y) ?F
  case F =>
    intro w mg fa h KX G hmg
    refine' My.all_mk KX G hmg ?a0 ?l0 ?c0 ?k0 ?a1 ?l1 ?c1 ?k1 ?a2 ?l2 ?c2 ?k2 ?a3 ?l3 ?c3 ?k3 ?a4 ?l4 ?c4 ?k4 ?a5 ?l5 ?c5 ?k5 ?a6 ?l6 ?c6 ?k6 ?a7 ?l7 ?c7 ?k7 ?a8 ?l8 ?c8 ?k8 ?a9 ?l9 ?c9 ?k9 ?a10 ?l10 ?c10 ?k10 ?a11 ?l11 ?c11 ?k11 ?a12 ?l12 ?c12 ?k12 ?a13 ?l13 ?c13 ?k13 ?a14 ?l14 ?c14 ?k14 ?z0 ?z1 ?z2 ?z3 ?z4 ?z5 ?z6 ?z7
    (case a0 => k_is)
    (case l0 => k_is)
    (case c0 => k_is)
    (case k0 => k_is)
    (case a1 => k_is)
    (case l1 => k_is)
    (case c1 => k_is)
    (case k1 => k_is)
    (case a2 => k_is)
    (case l2 => k_is)
    (case c2 => k_is)
    (case k2 => k_is)
    (case a3 => k_is)
    (case l3 => k_is)
    (case c3 => k_is)
    (case k3 => k_is)
    (case a4 => k_is)
    (case l4 => k_is)
    (case c4 => k_is)
    (case k4 => k_is)
    (case a5 => k_is)
    (case l5 => k_is)
    (case c5 => k_is)
    (case k5 => k_is)
    (case a6 => k_is)
    (case l6 => k_is)
    (case c6 => k_is)
    (case k6 => k_is)
    (case a7 => k_is)
    (case l7 => k_is)
    (case c7 => k_is)
    (case k7 => k_is)
    (case a8 => k_is)
    (case l8 => k_is)
    (case c8 => k_is)
    (case k8 => k_is)
    (case a9 => k_is)
    (case l9 => k_is)
    (case c9 => k_is)
    (case k9 => k_is)
    (case a10 => k_is)
    (case l10 => k_is)
    (case c10 => k_is)
    (case k10 => k_is)
    (case a11 => k_is)
    (case l11 => k_is)
    (case c11 => k_is)
    (case k11 => k_is)
    (case a12 => k_is)
    (case l12 => k_is)
    (case c12 => k_is)
    (case k12 => k_is)
    (case a13 => k_is)
    (case l13 => k_is)
    (case c13 => k_is)
    (case k13 => k_is)
    (case a14 => k_is)
    (case l14 => k_is)
    (case c14 => k_is)
    (case k14 => k_is)
    (case z0 => k_is)
    (case z1 => k_is)
    (case z2 => k_is)
    (case z3 => k_is)
    (case z4 => k_is)
    (case z5 => k_is)
    (case z6 => k_is)
    (case z7 => k_is)
