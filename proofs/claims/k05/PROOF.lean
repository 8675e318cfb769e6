import PyProof.Rows.All
import Wide.All
import OpenK.AllK
import Wide.FinOn
import Lean
import PyProof.EqAt
import PyProof.EqKinds
import PyProof.TupleCall
import PySem.Challenge.RW_ringbeat_k05_never
set_option Elab.async false
set_option linter.all false
set_option maxRecDepth 100000
-- CHANGE: your row's module here, as the last of these rows
namespace L2
open PySem PySem.Spec PyProof.Rows

abbrev Key := Sum Int Str
def keyIs : Key → Value → Bool
  | .inl k, v => Value.isInt k v
  | .inr x, v => Value.isStrOf x v
def keyH (w : World) : Key → Int
  | .inl k => hashInt k
  | .inr x => hashStr w x
theorem keyIs_shape : ∀ {k : Key} {v : Value}, keyIs k v = true → (∃ i t, k = Sum.inl i ∧ v = Value.int i t) ∨ (∃ x t, k = Sum.inr x ∧ v = Value.str x t)
  | .inl i, v, h => by
    obtain ⟨t, e⟩ := Value.isInt_shape (k := i) (v := v) h
    exact .inl ⟨i, t, rfl, e⟩
  | .inr x, v, h => by
    obtain ⟨t, e⟩ := Value.isStrOf_shape (x := x) (v := v) h
    exact .inr ⟨x, t, rfl, e⟩
theorem key_ll (a b : Int) : decide ((Sum.inl a : Key) = Sum.inl b) = (a == b) := by
  by_cases e : a = b
  · subst e; simp
  · have h : ¬ (Sum.inl a : Key) = Sum.inl b := fun q => e (Sum.inl.inj q)
    rw [decide_eq_false h]
    exact (beq_eq_false_iff_ne.mpr e).symm
theorem key_rr (a b : Str) : decide ((Sum.inr a : Key) = Sum.inr b) = decide (a = b) := by
  by_cases e : a = b
  · subst e; simp
  · have h : ¬ (Sum.inr a : Key) = Sum.inr b := fun q => e (Sum.inr.inj q)
    rw [decide_eq_false h, decide_eq_false e]
theorem key_lr (a : Int) (b : Str) : decide ((Sum.inl a : Key) = Sum.inr b) = false := decide_eq_false (fun q => nomatch q)
theorem key_rl (a : Str) (b : Int) : decide ((Sum.inr a : Key) = Sum.inl b) = false := decide_eq_false (fun q => nomatch q)

def mixKind (prog : Program) (w : World) : PySem.KeyKind prog w Key where
  is := keyIs
  hash := keyH w
  inj := fun v a b ha hb => by
    rcases keyIs_shape ha with ⟨i, t, rfl, rfl⟩ | ⟨x, t, rfl, rfl⟩
    · rcases keyIs_shape hb with ⟨j, u, rfl, e⟩ | ⟨y, u, rfl, e⟩
      · injection e with e1 _; rw [e1]
      · exact nomatch e
    · rcases keyIs_shape hb with ⟨j, u, rfl, e⟩ | ⟨y, u, rfl, e⟩
      · exact nomatch e
      · injection e with e1 _; rw [e1]
  byValue := fun k v h => by
    rcases keyIs_shape h with ⟨i, t, rfl, rfl⟩ | ⟨x, t, rfl, rfl⟩ <;> rfl
  pyHash := fun hv h => by
    rcases keyIs_shape hv with ⟨i, t, rfl, rfl⟩ | ⟨x, t, rfl, rfl⟩
    · exact wpAny_pyHash_int h
    · exact wpAny_pyHash_str h
  eqBool := fun hu hv h => by
    rcases keyIs_shape hu with ⟨i, t, rfl, rfl⟩ | ⟨x, t, rfl, rfl⟩
    · rcases keyIs_shape hv with ⟨j, u, rfl, rfl⟩ | ⟨y, u, rfl, rfl⟩
      · rw [key_ll] at h; exact wpAny_eqBool_int h
      · rw [key_lr] at h; exact SeqAt.EqAt.int_str i t y u _ _ _ _ h
    · rcases keyIs_shape hv with ⟨j, u, rfl, rfl⟩ | ⟨y, u, rfl, rfl⟩
      · rw [key_rl] at h; exact SeqAt.EqAt.str_int x t j u _ _ _ _ h
      · rw [key_rr] at h; exact wpAny_eqBool_str h
  «strs» := fun k x t v h => by
    rcases keyIs_shape h with ⟨i, u, rfl, e⟩ | ⟨y, u, rfl, e⟩
    · exact nomatch e
    · injection e with e1 _
      subst e1
      cases v <;> rfl

end L2

namespace L2
open PySem PySem.Spec PyProof.Rows

inductive V where
  | non | bl (b : Bool) | int (i : Int) | str (x : Str) | byt (b : Array UInt8) | flt (b : UInt64) | ref (a : Addr) | ty (n : String)
  deriving DecidableEq

def RelV : V → Value → Prop
  | .non, u => u = Value.none
  | .bl b, u => u = Value.bool b
  | .int i, u => ∃ t, u = Value.int i t
  | .str x, u => ∃ t, u = Value.str x t
  | .byt b, u => ∃ t, u = Value.bytes b t
  | .flt b, u => ∃ t, u = Value.float b t
  | .ref a, u => u = Value.ref a
  | .ty n, u => u = Value.type n

abbrev Vals : List V → List Value → Prop := Paired RelV
theorem Vals.length {xs : List V} {us : List Value} (r : Vals xs us) : xs.length = us.length := Paired.length r
theorem Vals.get : ∀ {xs : List V} {us : List Value} {i : Nat} {x : V}, Vals xs us → xs[i]? = some x → ∃ u, us[i]? = some u ∧ RelV x u
  | _, _, _, _, .nil, e => by simp at e
  | _, _, 0, _, .cons r _, e => by simp at e; subst e; exact ⟨_, rfl, r⟩
  | _, _, i + 1, x, .cons _ t, e => by
    obtain ⟨u, h1, h2⟩ := Vals.get (i := i) (x := x) t (by simpa using e)
    exact ⟨u, by simpa using h1, h2⟩
theorem Vals.set {x : V} {u : Value} (r : RelV x u) : ∀ {xs : List V} {us : List Value} (i : Nat), Vals xs us → Vals (xs.set i x) (us.set i u)
  | _, _, _, .nil => .nil
  | _, _, 0, .cons _ t => .cons r t
  | _, _, i + 1, .cons q t => .cons q (Vals.set r i t)
theorem Vals.append : ∀ {xs ys : List V} {us ws : List Value}, Vals xs us → Vals ys ws → Vals (xs ++ ys) (us ++ ws)
  | _, _, _, _, .nil, s => s
  | _, _, _, _, .cons r t, s => .cons r (Vals.append t s)
theorem Vals.take : ∀ {xs : List V} {us : List Value} (n : Nat), Vals xs us → Vals (xs.take n) (us.take n)
  | _, _, 0, _ => .nil
  | _, _, _ + 1, .nil => .nil
  | _, _, n + 1, .cons r t => .cons r (Vals.take n t)
theorem Vals.drop : ∀ {xs : List V} {us : List Value} (n : Nat), Vals xs us → Vals (xs.drop n) (us.drop n)
  | _, _, 0, r => r
  | _, _, _ + 1, .nil => .nil
  | _, _, n + 1, .cons _ t => Vals.drop n t
def RelO : Option V → Option Value → Prop
  | some v, some u => RelV v u
  | none, none => True
  | _, _ => False
def KV {κ : Type} : List (κ × V) → List (κ × Value) → Prop := Paired fun (p : κ × V) (q : κ × Value) => p.1 = q.1 ∧ RelV p.2 q.2

def kV : Key → V
  | .inl i => .int i
  | .inr x => .str x

inductive HO where
  /-- a list -/
  | lst (xs : List V)
  /-- a tuple (never changes) -/
  | tup (xs : List V)
  /-- a dict whose keys are ints and texts; one whose keys are tuples of ints and texts (the empty one is both) -/
  | dK (kvs : List (Key × V)) | dT (kvs : List (List Key × V))
  /-- a set of ints: its members, its size -/
  | set (S : Int → Bool) (n : Nat)
  /-- an instance of the class at C, its dict at dx, its attributes -/
  | ins (C dx : Addr) (fs : List (Str × V))
  /-- the dict of the instance at x -/
  | own (x : Addr)
  /-- the dict of an exception -/
  | xd (fs : List (Str × V))
  /-- a bound method, f of x -/
  | met (f x : Addr)
  /-- a range object lo, lo + 1, .. below hi -/
  | rng (lo hi : Int)
  /-- a thing that is known to the object (the script; a dict while a loop walks it): read, never written while it is so -/
  | frz (o : Obj) (u : HO)
  /-- a code object's table -/
  | tbl (ps : Array Value)
  /-- any other thing, by what is true of its one object (a def of one's own: SetO a S n := HO.ext fun h => ..) -/
  | ext (φ : Heap → Prop)

abbrev Hp := Addr → Option HO
def upd (H : Hp) (a : Addr) (o : HO) : Hp := fun b => if b = a then some o else H b
theorem upd_same {H : Hp} {a : Addr} {o : HO} : upd H a o a = some o := by unfold upd; rw [if_pos rfl]
theorem upd_ne {H : Hp} {a b : Addr} {o : HO} (h : b ≠ a) : upd H a o b = H b := by unfold upd; rw [if_neg h]
theorem ne_of_none {H : Hp} {a b : Addr} {o : HO} (h : H a = some o) (h' : H b = none) : a ≠ b := by
  intro e; subst e; rw [h] at h'; cases h'

section
variable (P : Program) (w : World)
def ObjOk (H : Hp) (h : Heap) (a : Addr) : HO → Prop
  | .lst xs => xs.length ≤ sizeLine ∧ ∃ (its : List Value) (n : Nat), Vals xs its ∧ h.get? a = some { cls := .type "list", data := .seq its.toArray n }
  | .tup xs => xs.length ≤ sizeLine ∧ ∃ its : List Value, Vals xs its ∧ IsTup h a its.toArray
  | .dK kvs => kvs.length ≤ sizeLine ∧ (a == sysModules) = false ∧ ∃ vs, KV kvs vs ∧ h.DictOf (mixKind P w) a vs
  | .dT kvs => kvs.length ≤ sizeLine ∧ (a == sysModules) = false ∧ ∃ xs : List (List Key × Addr × Value),
      Paired (fun (p : List Key × V) (q : List Key × Addr × Value) => p.1 = q.1 ∧ H q.2.1 = some (.tup (p.1.map kV)) ∧ RelV p.2 q.2.2) kvs xs ∧
      ∃ o es ep, h.get? a = some o ∧ o.ExactDict ∧ o.data = .dict es ep ∧ es.toList = xs.map (entryOfKey (tupleKind (mixKind P w))) ∧ (xs.map (·.1)).Nodup
  | .set S n => h.SetOf (intKind P w) a S n
  | .ins C dx fs => H dx = some (.own a) ∧ fs.length ≤ 1000 ∧ dx ≠ a ∧ h.get? a = some (PySem.W.instObj C dx) ∧
      ∃ mA, h.Ns1 dx mA ∧ (∀ f, RelO (fs.lookup f) (mA f)) ∧ PySem.Within mA (fs.map (·.1))
  | .own _ => ∃ o, h.get? a = some o
  | .xd fs => ∃ mA, h.Ns1 a mA ∧ ∀ f, RelO (fs.lookup f) (mA f)
  | .rng lo hi => ∃ t u v, h.get? a = some { cls := .type "range", data := .fields #[.int lo t, .int hi u, .int 1 v] }
  | .frz o u => h.get? a = some o ∧ ObjOk H h a u
  | .tbl ps => h.get? a = some { cls := .none, data := .fields ps }
  | .met f x => h.get? a = some (PySem.W.methodObj (.ref f) (.ref x))
  | .ext φ => φ h ∧ (∃ o, h.get? a = some o) ∧ ∀ h1 h2 : Heap, φ h1 → (∀ o, h1.get? a = some o → h2.get? a = some o) → φ h2
def HOk (H : Hp) (h : Heap) : Prop := ∀ a o, H a = some o → ObjOk P w H h a o
end

section
variable {P : Program} {w : World} {H H' : Hp} {h h' : Heap} {a : Addr} {o : HO}
theorem ObjOk.lt (x : ObjOk P w H h a o) : a < h.objs.size := by
  cases o with
  | lst xs => obtain ⟨_, _, _, _, e⟩ := x; exact Heap.lt_size e
  | tup xs => obtain ⟨_, _, _, p⟩ := x; exact p.lt
  | dK kvs => obtain ⟨_, _, _, _, o, _, _, e, _⟩ := x; exact Heap.lt_size e
  | dT kvs => obtain ⟨_, _, _, _, o, _, _, e, _⟩ := x; exact Heap.lt_size e
  | set S n => obtain ⟨o, _, _, _, e, _⟩ := x; exact Heap.lt_size e
  | ins C dx fs => obtain ⟨_, _, _, e, _⟩ := x; exact Heap.lt_size e
  | own y => obtain ⟨_, e⟩ := x; exact Heap.lt_size e
  | xd fs => obtain ⟨_, ⟨_, _, _, e, _⟩, _⟩ := x; exact Heap.lt_size e
  | rng lo hi => obtain ⟨_, _, _, e⟩ := x; exact Heap.lt_size e
  | frz ob u => obtain ⟨e, _⟩ := x; exact Heap.lt_size e
  | tbl ps => exact Heap.lt_size (show h.get? a = some _ from x)
  | met f y => exact Heap.lt_size (show h.get? a = some _ from x)
  | ext φ => obtain ⟨_, ⟨_, e⟩, _⟩ := x; exact Heap.lt_size e
theorem Paired.mapP {α β : Type} {F G : α → β → Prop} : ∀ {l₁ : List α} {l₂ : List β}, Paired F l₁ l₂ → (∀ a b, F a b → G a b) → Paired G l₁ l₂
  | _, _, .nil, _ => .nil
  | _, _, .cons r t, f => .cons (f _ _ r) (Paired.mapP t f)
theorem ObjOk.stay (x : ObjOk P w H h a o) (k : ∀ b u, (b = a ∨ H b = some (.own a)) → h.get? b = some u → h'.get? b = some u)
    (ho : ∀ b, H b = some (.own a) → H' b = some (.own a)) (ht : ∀ b xs, H b = some (.tup xs) → H' b = some (.tup xs)) : ObjOk P w H' h' a o := by
  induction o with
  | lst xs => obtain ⟨z, its, n, r, e⟩ := x; exact ⟨z, its, n, r, k _ _ (.inl rfl) e⟩
  | tup xs => obtain ⟨z, its, r, ob, e, c⟩ := x; exact ⟨z, its, r, ob, k _ _ (.inl rfl) e, c⟩
  | dK kvs => obtain ⟨z, y, vs, r, ob, es, ep, e, c⟩ := x; exact ⟨z, y, vs, r, ob, es, ep, k _ _ (.inl rfl) e, c⟩
  | dT kvs =>
    obtain ⟨z, y, xs, r, ob, es, ep, e, c⟩ := x
    exact ⟨z, y, xs, Paired.mapP r fun p q z => ⟨z.1, ht _ _ z.2.1, z.2.2⟩, ob, es, ep, k _ _ (.inl rfl) e, c⟩
  | set S n => obtain ⟨ob, es, ep, t, e, c⟩ := x; exact ⟨ob, es, ep, t, k _ _ (.inl rfl) e, c⟩
  | ins C dx fs =>
    obtain ⟨d, z, ne, e, mA, ⟨od, es, ep, e2, c⟩, r⟩ := x
    exact ⟨ho _ d, z, ne, k _ _ (.inl rfl) e, mA, ⟨od, es, ep, k _ _ (.inr d) e2, c⟩, r⟩
  | own y => obtain ⟨ob, e⟩ := x; exact ⟨ob, k _ _ (.inl rfl) e⟩
  | xd fs => obtain ⟨mA, ⟨od, es, ep, e, c⟩, r⟩ := x; exact ⟨mA, ⟨od, es, ep, k _ _ (.inl rfl) e, c⟩, r⟩
  | rng lo hi => obtain ⟨t, u, v, e⟩ := x; exact ⟨t, u, v, k _ _ (.inl rfl) e⟩
  | frz ob u ih => obtain ⟨e, q⟩ := x; exact ⟨k _ _ (.inl rfl) e, ih q⟩
  | tbl ps =>
    have e : h.get? a = some { cls := .none, data := .fields ps } := x
    show h'.get? a = some { cls := .none, data := .fields ps }
    exact k a _ (.inl rfl) e
  | met f y =>
    have e : h.get? a = some (PySem.W.methodObj (.ref f) (.ref y)) := x
    show h'.get? a = some (PySem.W.methodObj (.ref f) (.ref y))
    exact k a _ (.inl rfl) e
  | ext φ => obtain ⟨p, ⟨o, e⟩, st⟩ := x; exact ⟨st _ _ p fun o q => k _ _ (.inl rfl) q, ⟨o, k _ _ (.inl rfl) e⟩, st⟩
theorem HOk.lt (x : HOk P w H h) (e : H a = some o) : a < h.objs.size := (x a o e).lt
theorem HOk.fresh (x : HOk P w H h) (e : h.objs.size ≤ a) : H a = none := by
  cases q : H a with
  | none => rfl
  | some u => exact absurd (Nat.lt_of_lt_of_le (x.lt q) e) (Nat.lt_irrefl _)
theorem HOk.kept (x : HOk P w H h) (k : ∀ b u, h.get? b = some u → h'.get? b = some u) : HOk P w H h' := fun a o e =>
  (x a o e).stay (fun b u _ q => k b u q) (fun _ q => q) fun _ _ q => q
theorem HOk.laid (x : HOk P w H h) (k : ∀ b u, h.get? b = some u → h'.get? b = some u) (hp : h.objs.size ≤ a) (new : ObjOk P w (upd H a o) h' a o) : HOk P w (upd H a o) h' := fun b u e => by
  have hn := x.fresh hp
  by_cases hb : b = a
  · subst hb; rw [upd_same] at e; cases e; exact new
  · rw [upd_ne hb] at e
    exact (x b u e).stay (fun c v _ q => k c v q) (fun c q => by rw [upd_ne (ne_of_none q hn)]; exact q) fun c xs q => by rw [upd_ne (ne_of_none q hn)]; exact q
end

def Rd (H : Hp) (a : Addr) (u : HO) : Prop := H a = some u ∨ ∃ o, H a = some (.frz o u)
theorem Rd.of {H : Hp} {a : Addr} {u : HO} (h : H a = some u) : Rd H a u := .inl h
theorem Rd.ok {P : Program} {w : World} {H : Hp} {h : Heap} {a : Addr} {u : HO} (r : Rd H a u) (x : HOk P w H h) : ObjOk P w H h a u := by
  rcases r with r | ⟨o, r⟩
  · exact x a u r
  · obtain ⟨_, q⟩ := x a _ r
    exact q
def Mut : Option HO → Prop
  | some (.lst _) => True
  | some (.dK _) => True
  | some (.dT _) => True
  | some (.set _ _) => True
  | some (.ins _ _ _) => True
  | some (.ext _) => True
  | _ => False
section
variable {P : Program} {w : World} {H : Hp} {h h' : Heap} {x e : Addr} {o' : HO}
theorem HOk.write (ok : HOk P w H h) (mu : Mut (H x)) (he : e = x ∨ H e = some (.own x)) (k : ∀ b u, b ≠ e → h.get? b = some u → h'.get? b = some u) (heo : ∃ u, h'.get? e = some u)
    (new : ObjOk P w (upd H x o') h' x o') : HOk P w (upd H x o') h' := fun b u q => by
  have nown : ∀ c y, H c = some (.own y) → c ≠ x := fun c y r z => by subst z; rw [r] at mu; exact mu
  have ntup : ∀ c xs, H c = some (.tup xs) → c ≠ x := fun c xs r z => by subst z; rw [r] at mu; exact mu
  by_cases hb : b = x
  · subst hb; rw [upd_same] at q; cases q; exact new
  · rw [upd_ne hb] at q
    by_cases hbe : b = e
    · have q' : H b = some (.own x) := by
        rcases he with z | z
        · exact absurd (hbe.trans z) hb
        · rw [hbe]; exact z
      rw [q] at q'; cases q'
      obtain ⟨v, hv⟩ := heo
      exact ⟨v, by rw [hbe]; exact hv⟩
    · refine (ok b u q).stay (fun c v hc r => k c v ?_ r) (fun c r => by rw [upd_ne (nown c b r)]; exact r) fun c xs r => by rw [upd_ne (ntup c xs r)]; exact r
      rcases hc with rfl | hc
      · exact hbe
      · rintro rfl
        rcases he with z | z
        · exact nown c b hc z
        · rw [hc] at z; cases z; exact hb rfl
end

structure Un (fs ex : List Addr) (H H' : Hp) (h h' : Heap) : Prop where
  keep : ∀ b o, h.get? b = some o → H b = none → b ∉ fs → b ∉ ex → h'.get? b = some o
  slot : ∀ b o, h.get? b = some o → H b = none → b ∈ fs → b ∉ ex → ∃ sl, h'.get? b = some { o with slots := sl }
  free : ∀ b o, h.get? b = some o → H b = none → b ∉ ex → H' b = none
  there : ∀ b o, h.get? b = some o → b ∉ ex → ∃ o', h'.get? b = some o'
  tups : ∀ b xs, H b = some (.tup xs) → H' b = some (.tup xs)
  frzs : ∀ b o u, H b = some (.frz o u) → H' b = some (.frz o u)
  tbls : ∀ b ps, H b = some (.tbl ps) → ∃ more, H' b = some (.tbl (ps ++ more))
section
variable {fs fs' ex ex' : List Addr} {H H1 H2 : Hp} {h h1 h2 h' : Heap} {a x e : Addr} {o : HO}
theorem Un.any (u : Un fs ex H H1 h h1) {b : Addr} {ob : Obj} (q : h.get? b = some ob) (n : H b = none) (hx : b ∉ ex) : ∃ sl, h1.get? b = some { ob with slots := sl } := by
  by_cases hb : b ∈ fs
  · exact u.slot b ob q n hb hx
  · exact ⟨ob.slots, u.keep b ob q n hb hx⟩
theorem Un.trans (a : Un fs ex H H1 h h1) (b : Un fs ex H1 H2 h1 h2) : Un fs ex H H2 h h2 where
  keep := fun c ob q n hc hx => b.keep c ob (a.keep c ob q n hc hx) (a.free c ob q n hx) hc hx
  slot := fun c ob q n hc hx => by
    obtain ⟨sl, e1⟩ := a.slot c ob q n hc hx
    obtain ⟨sl', e2⟩ := b.slot c _ e1 (a.free c ob q n hx) hc hx
    exact ⟨sl', e2⟩
  free := fun c ob q n hx => by
    obtain ⟨o', e1⟩ := a.there c ob q hx
    exact b.free c o' e1 (a.free c ob q n hx) hx
  there := fun c ob q hx => by
    obtain ⟨o', e1⟩ := a.there c ob q hx
    exact b.there c o' e1 hx
  tups := fun c xs q => b.tups c xs (a.tups c xs q)
  frzs := fun c ob xs q => b.frzs c ob xs (a.frzs c ob xs q)
  tbls := fun c ps q => by
    obtain ⟨m1, e1⟩ := a.tbls c ps q
    obtain ⟨m2, e2⟩ := b.tbls c _ e1
    exact ⟨m1 ++ m2, by rw [e2, Array.append_assoc]⟩
theorem Un.kept (k : ∀ b u, h.get? b = some u → h'.get? b = some u) : Un fs ex H H h h' :=
  ⟨fun b ob q _ _ _ => k b ob q, fun b ob q _ _ _ => ⟨ob.slots, k b ob q⟩, fun _ _ _ n _ => n, fun b ob q _ => ⟨ob, k b ob q⟩, fun _ _ q => q, fun _ _ _ q => q, fun _ ps q => ⟨#[], by rw [q]; simp⟩⟩
theorem Un.refl : Un fs ex H H h h := Un.kept fun _ _ q => q
theorem Un.laid (k : ∀ b u, h.get? b = some u → h'.get? b = some u) (hp : h.objs.size ≤ a) (hn : H a = none) : Un fs ex H (upd H a o) h h' where
  keep := fun b u q _ _ _ => k b u q
  slot := fun b u q _ _ _ => ⟨u.slots, k b u q⟩
  free := fun b u q n _ => by rw [upd_ne (Nat.ne_of_lt (Nat.lt_of_lt_of_le (Heap.lt_size q) hp))]; exact n
  there := fun b u q _ => ⟨u, k b u q⟩
  tups := fun b xs q => by rw [upd_ne (ne_of_none q hn)]; exact q
  frzs := fun b u xs q => by rw [upd_ne (ne_of_none q hn)]; exact q
  tbls := fun b ps q => ⟨#[], by rw [upd_ne (ne_of_none q hn), q]; simp⟩
theorem Un.write (mu : Mut (H x)) (he : e = x ∨ H e = some (.own x)) (k : ∀ b u, b ≠ e → h.get? b = some u → h'.get? b = some u) (heo : ∃ u, h'.get? e = some u) : Un fs ex H (upd H x o) h h' := by
  have hx : ∀ b, H b = none → b ≠ x := fun b n z => by subst z; rw [n] at mu; exact mu
  have hb : ∀ b, H b = none → b ≠ e := fun b n z => by
    subst z
    rcases he with r | r
    · exact hx b n r
    · rw [n] at r; cases r
  have hm : ∀ b u, H b = some u → ¬ Mut (some u) → b ≠ x := fun b u q nm z => by subst z; rw [q] at mu; exact nm mu
  refine ⟨fun b u q n _ _ => k b u (hb b n) q, fun b u q n _ _ => ⟨u.slots, k b u (hb b n) q⟩, fun b u q n _ => by rw [upd_ne (hx b n)]; exact n, fun b u q _ => ?_,
    fun b xs q => by rw [upd_ne (hm b _ q fun z => z)]; exact q, fun b u xs q => by rw [upd_ne (hm b _ q fun z => z)]; exact q, fun b ps q => ⟨#[], by rw [upd_ne (hm b _ q fun z => z), q]; simp⟩⟩
  by_cases hbe : b = e
  · subst hbe; exact heo
  · exact ⟨u, k b u hbe q⟩
theorem Un.mono (u : Un fs ex H H1 h h1) (hs : ∀ b ∈ fs, b ∈ fs') (hx : ∀ b ∈ ex, b ∈ ex') : Un fs' ex' H H1 h h1 :=
  ⟨fun b ob q n hb he => u.keep b ob q n (fun z => hb (hs b z)) fun z => he (hx b z), fun _ _ q n _ he => u.any q n fun z => he (hx _ z), fun b ob q n he => u.free b ob q n fun z => he (hx b z), fun b ob q he => u.there b ob q fun z => he (hx b z), u.tups, u.frzs, u.tbls⟩
end

def trk (h : Heap) (H : Hp) : List Addr := (List.range h.objs.size).filter fun a => (H a).isSome
def hidT (h : Heap) (H : Hp) : Heap := PySem.W.hideAll h (trk h H)
theorem hidT_size (h : Heap) (H : Hp) : (hidT h H).objs.size = h.objs.size := PySem.W.hideAll_size _ _
theorem hidT_get {h : Heap} {H : Hp} {b : Addr} {o : Obj} (e : h.get? b = some o) (n : H b = none) : (hidT h H).get? b = some o :=
  PySem.W.hideAll_get _ e fun hm => by
    have q : (H b).isSome = true := (List.mem_filter.mp hm).2
    rw [n] at q; simp at q
theorem of_hidT {h : Heap} {H : Hp} {b : Addr} {o : Obj} (e : (hidT h H).get? b = some o) : h.get? b = some o ∧ H b = none := by
  have e' : h.get? b = some o := PySem.W.of_hideAll (trk h H) e
  refine ⟨e', ?_⟩
  cases q : H b with
  | none => rfl
  | some x =>
    have hm : b ∈ trk h H := List.mem_filter.mpr ⟨List.mem_range.mpr (Heap.lt_size e'), by simp [q]⟩
    have z : (hidT h H).get? b = none := PySem.W.hideAll_none (trk h H) hm
    rw [z] at e; cases e

def allNews (g h : Heap) (L : Addr) : List (Addr × Obj) := (List.range h.objs.size).filterMap fun a => if a = L ∨ (g.get? a).isSome = true then none else (h.get? a).map fun o => (a, o)
def rest (g h : Heap) (L d : Addr) : List (Addr × Obj) := (allNews g h L).filter fun p => decide (p.1 ≠ d)
end L2

namespace L2
open PySem PySem.Spec PyProof.Rows

structure Mod (K : PySem.W.Frag) (mg : Str → Option Value) (base : Heap) : Prop where
  kin : K.In base
  glob : base.Ns mainGlobals mg
  blt : ∃ mb, base.Ns builtinsNs mb ∧ ∀ x : Str, x ≠ "__name__" → mb x = bootBuiltins x
  nolimit : base.NoLimit

structure Cx where
  prog : Program
  w : World
  K : PySem.W.Frag
  mg : Str → Option Value
  base : Heap
  A : Around
  N : List Str
  s₀ : Shared
  H₀ : Hp
  env : Env
  outer : List Env
  stack : List Env
  ex : List Addr
  fn : Str → Bool
  calm : Bool
  pn : List (Addr × Obj)
  xe : Value → Shared → Prop
def frs (l : List Env) : List Addr := l.filterMap (·.frame)
abbrev Cx.fs (X : Cx) : List Addr := frs X.outer

def Vis (sc : Scope) (x : Str) : Prop := sc.names.lookup x = some .local ∨ sc.names.lookup x = some .cell ∨ sc.names.lookup x = some .free
def Loc (sc : Scope) (x : Str) : Prop := sc.names.lookup x = some .local ∨ sc.names.lookup x = some .cell
def Look (env : Env) (h : Heap) (m : Str → Option Value) (x : Str) (u : Value) : Prop :=
  (env.kindOf x = some .local ∧ m x = some u) ∨ ((env.kindOf x = some .cell ∨ env.kindOf x = some .free) ∧ ∃ c, env.cells.lookup x = some c ∧ h.IsCell c (some u))

structure Cx.Ok (X : Cx) : Prop where
  mod : Mod X.K X.mg X.base
  kind : X.env.scope.kind = .function
  glob : X.env.globals = mainGlobals
  blt : X.env.builtins = builtinsNs
  above : X.s₀.heap.objs.size ≤ X.env.locals
  inj : ∀ x y c, X.env.cells.lookup x = some c → X.env.cells.lookup y = some c → x = y
  has : ∀ x, (X.env.kindOf x = some .cell ∨ X.env.kindOf x = some .free) → ∃ c, X.env.cells.lookup x = some c
  cab : ∀ x c, X.fn x = true → X.env.cells.lookup x = some c → X.s₀.heap.objs.size ≤ c
  hd : X.calm = true → X.A.handled = none
  frames : X.A.frames = some X.stack
  stk : X.stack = X.outer ∨ (X.stack = X.env :: X.outer ∧ X.env.frame = some X.env.locals)
  exf : ∀ b ∈ X.ex, b ≠ X.env.locals ∧ ∀ x c, X.env.cells.lookup x = some c → c ≠ b
  bs : ∀ b o, X.base.get? b = some o → X.s₀.heap.get? b = some o ∧ X.H₀ b = none
  bsz : X.base.objs.size ≤ X.s₀.heap.objs.size
  noex : ∀ b o, X.base.get? b = some o → b ∉ X.ex
  exfs : ∀ b ∈ X.ex, b ∉ X.fs
  funs : X.s₀.heap.FunFrames X.base X.outer
  frf : ∀ b ∈ X.fs, X.H₀ b = none

structure Inv (X : Cx) (pins : List (Addr × Obj)) (σ : List (Option V)) (H : Hp) (s : Shared) : Prop where
  ok : X.Ok
  os : s.os = X.s₀.os
  bare : AllBare s.gens
  base : Un X.fs X.ex X.H₀ H X.s₀.heap s.heap
  loc : ∃ m, s.heap.Ns X.env.locals m ∧ ∀ (i : Nat) (x : Str) (v : V), X.N[i]? = some x → σ[i]? = some (some v) → Vis X.env.scope x → ∃ u, RelV v u ∧ Look X.env s.heap m x u
  cell : ∀ x c, X.env.cells.lookup x = some c → ∃ v, s.heap.IsCell c v
  free : H X.env.locals = none
  freeC : ∀ x c, X.env.cells.lookup x = some c → H c = none
  pin : ∀ p ∈ X.pn ++ pins, s.heap.get? p.1 = some p.2 ∧ H p.1 = none ∧ p.1 ≠ X.env.locals ∧ p.1 ∉ X.fs ∧ ∀ v, p.2.data ≠ .cell v
  hok : HOk X.prog X.w H s.heap
  len : σ.length = X.N.length

section
variable {X : Cx} {pins : List (Addr × Obj)} {σ : List (Option V)} {H H' : Hp} {s : Shared} {h' : Heap}

theorem Cx.Ok.nofr (ok : X.Ok) {b : Addr} {o : Obj} (e : X.base.get? b = some o) : b ∉ X.fs := fun hb => by
  have := (ok.funs.mem hb).1
  rw [e] at this; cases this
theorem Inv.bs (I : Inv X pins σ H s) : ∀ b o, X.base.get? b = some o → s.heap.get? b = some o ∧ H b = none := fun b o e =>
  ⟨I.base.keep b o (I.ok.bs b o e).1 (I.ok.bs b o e).2 (I.ok.nofr e) (I.ok.noex b o e), I.base.free b o (I.ok.bs b o e).1 (I.ok.bs b o e).2 (I.ok.noex b o e)⟩
theorem Inv.bk (I : Inv X pins σ H s) : ∀ b o, X.base.get? b = some o → s.heap.get? b = some o := fun b o e => (I.bs b o e).1
theorem Inv.mod (I : Inv X pins σ H s) : Mod X.K X.mg X.base := I.ok.mod
theorem Inv.kIn (I : Inv X pins σ H s) : X.K.In s.heap := I.ok.mod.kin.keeps I.bk
theorem Inv.nolimit (I : Inv X pins σ H s) : s.heap.NoLimit := I.ok.mod.nolimit.keeps I.bk
theorem Inv.fr (I : Inv X pins σ H s) : ∃ m, Fr X.base X.env.locals s.heap m :=
  let ⟨m, hn, _⟩ := I.loc
  ⟨m, hn, I.bk, Nat.le_trans I.ok.bsz I.ok.above⟩
theorem Inv.lt (I : Inv X pins σ H s) : X.env.locals < s.heap.objs.size := let ⟨_, hn, _⟩ := I.loc; hn.lt
theorem Inv.sz (I : Inv X pins σ H s) : X.s₀.heap.objs.size ≤ s.heap.objs.size := Nat.le_trans I.ok.above (Nat.le_of_lt I.lt)
theorem Inv.nofs (I : Inv X pins σ H s) {a : Addr} (h : s.heap.objs.size ≤ a) : a ∉ X.fs := fun hb => by
  obtain ⟨_, o, ho, _⟩ := I.ok.funs.mem hb
  exact absurd (Nat.lt_of_lt_of_le (Heap.lt_size ho) (Nat.le_trans I.sz h)) (Nat.lt_irrefl _)
theorem Inv.cne (I : Inv X pins σ H s) : ∀ x c, X.env.cells.lookup x = some c → c ≠ X.env.locals := fun x c e z => by
  obtain ⟨v, o, ho, hd⟩ := I.cell x c e
  obtain ⟨m, ⟨o', es, ep, ho', hd', _⟩, _⟩ := I.loc
  rw [z, ho'] at ho; cases ho; rw [hd'] at hd; cases hd
theorem Inv.funs (I : Inv X pins σ H s) : s.heap.FunFrames X.base X.outer := by
  have all : ∀ (l : List Env), (∀ b ∈ frs l, b ∈ X.fs) → X.s₀.heap.FunFrames X.base l → s.heap.FunFrames X.base l := by
    intro l
    induction l with
    | nil => intro _ _; trivial
    | cons env r ih =>
      intro hs hl
      obtain ⟨hk, ⟨L, o, hf, hn, ho, hd⟩, hr⟩ := hl
      have hL : L ∈ X.fs := hs L (by unfold frs; rw [List.filterMap_cons, hf]; exact List.mem_cons_self)
      obtain ⟨sl, e⟩ := I.base.slot L o ho (I.ok.frf L hL) hL fun z => I.ok.exfs L z hL
      exact ⟨hk, ⟨L, _, hf, hn, e, hd⟩, ih (fun b hb => hs b (by unfold frs; rw [List.filterMap_cons, hf]; exact List.mem_cons_of_mem _ hb)) hr⟩
  exact all X.outer (fun _ hb => hb) I.ok.funs

theorem Inv.stack (I : Inv X pins σ H s) : s.heap.FunFrames X.base X.stack := by
  rcases I.ok.stk with e | ⟨e, hf⟩
  · rw [e]; exact I.funs
  · rw [e]
    obtain ⟨m, hn, _⟩ := I.loc
    refine .cons (by rw [I.ok.kind]; decide) hf hn ?_ I.funs
    exact Heap.get?_none_of_le (Nat.le_trans I.ok.bsz I.ok.above)
theorem Inv.stkSub (I : Inv X pins σ H s) : ∀ b ∈ frs X.stack, b ∈ X.env.locals :: X.fs := fun b hb => by
  rcases I.ok.stk with e | ⟨e, hf⟩
  · rw [e] at hb; exact List.mem_cons_of_mem _ hb
  · rw [e] at hb
    unfold frs at hb
    rw [List.filterMap_cons, hf] at hb
    exact hb
theorem Inv.stkFree (I : Inv X pins σ H s) : ∀ b ∈ frs X.stack, H b = none := fun b hb => by
  rcases List.mem_cons.mp (I.stkSub b hb) with e | hb
  · rw [e]; exact I.free
  · obtain ⟨_, o, ho, _⟩ := I.ok.funs.mem hb
    exact I.base.free b o ho (I.ok.frf b hb) fun z => I.ok.exfs b z hb

theorem Inv.step {g' : Array GenState} {t' : Nat} {d' : Drawn} {ch : List Addr} (I : Inv X pins σ H s)
    (hch : ∀ b ∈ ch, (b ∈ X.ex ∨ X.s₀.heap.objs.size ≤ b) ∧ b ≠ X.env.locals ∧ (∀ x c, X.env.cells.lookup x = some c → c ≠ b) ∧ ∀ p ∈ X.pn ++ pins, p.1 ≠ b)
    (keep : ∀ b o, b ≠ X.env.locals → b ∉ X.fs → b ∉ ch → s.heap.get? b = some o → H b = none → h'.get? b = some o)
    (slot : ∀ b o, b ≠ X.env.locals → b ∈ X.fs → b ∉ ch → s.heap.get? b = some o → H b = none → ∃ sl, h'.get? b = some { o with slots := sl }) (free : ∀ b o, b ∉ ch → s.heap.get? b = some o → H b = none → H' b = none)
    (there : ∀ b o, b ∉ ch → s.heap.get? b = some o → ∃ o', h'.get? b = some o')
    (tups : ∀ b xs, H b = some (.tup xs) → H' b = some (.tup xs)) (frzs : ∀ b o u, H b = some (.frz o u) → H' b = some (.frz o u)) (tbls : ∀ b ps, H b = some (.tbl ps) → ∃ more, H' b = some (.tbl (ps ++ more)))
    (ns : ∀ m, s.heap.Ns X.env.locals m → h'.Ns X.env.locals m) (hok : HOk X.prog X.w H' h') (hg : AllBare g') :
    Inv X pins σ H' { s with heap := h', gens := g', drawn := d', toks := t' } := by
  have neL : ∀ b o, X.s₀.heap.get? b = some o → b ≠ X.env.locals := fun b o e => Nat.ne_of_lt (Nat.lt_of_lt_of_le (Heap.lt_size e) I.ok.above)
  have neC : ∀ b o, X.s₀.heap.get? b = some o → b ∉ X.ex → b ∉ ch := fun b o e hx hb => by
    rcases (hch b hb).1 with z | z
    · exact hx z
    · exact absurd (Nat.lt_of_lt_of_le (Heap.lt_size e) z) (Nat.lt_irrefl _)
  have cellK : ∀ x c, X.env.cells.lookup x = some c → ∀ v, s.heap.IsCell c v → h'.IsCell c v := fun x c e v ⟨o, ho, hd⟩ => by
    have nch : c ∉ ch := fun z => (hch c z).2.2.1 x c e rfl
    by_cases hc : c ∈ X.fs
    · obtain ⟨sl, q⟩ := slot c o (I.cne x c e) hc nch ho (I.freeC x c e)
      exact ⟨_, q, hd⟩
    · exact ⟨o, keep c o (I.cne x c e) hc nch ho (I.freeC x c e), hd⟩
  refine ⟨I.ok, I.os, hg, ⟨fun b o e n hb hx => ?_, fun b o e n hb hx => ?_, fun b o e n hx => ?_, fun b o e hx => ?_, fun b xs e => tups b xs (I.base.tups b xs e), fun b o xs e => frzs b o xs (I.base.frzs b o xs e), fun b ps e => ?_⟩, ?_, fun x c e => ?_, ?_, fun x c e => ?_, fun p hp => ?_, hok, I.len⟩
  · exact keep b o (neL b o e) hb (neC b o e hx) (I.base.keep b o e n hb hx) (I.base.free b o e n hx)
  · obtain ⟨sl, e1⟩ := I.base.slot b o e n hb hx
    obtain ⟨sl', e2⟩ := slot b _ (neL b o e) hb (neC b o e hx) e1 (I.base.free b o e n hx)
    exact ⟨sl', e2⟩
  · obtain ⟨o', e1⟩ := I.base.there b o e hx
    exact free b o' (neC b o e hx) e1 (I.base.free b o e n hx)
  · obtain ⟨o', e1⟩ := I.base.there b o e hx
    exact there b o' (neC b o e hx) e1
  · obtain ⟨m1, e1⟩ := I.base.tbls b ps e
    obtain ⟨m2, e2⟩ := tbls b _ e1
    exact ⟨m1 ++ m2, by rw [e2, Array.append_assoc]⟩
  · obtain ⟨m, hn, hl⟩ := I.loc
    refine ⟨m, ns m hn, fun i x v e1 e2 e3 => ?_⟩
    obtain ⟨u, r, l⟩ := hl i x v e1 e2 e3
    refine ⟨u, r, ?_⟩
    rcases l with l | ⟨k, c, e, z⟩
    · exact .inl l
    · exact .inr ⟨k, c, e, cellK x c e _ z⟩
  · obtain ⟨v, z⟩ := I.cell x c e
    exact ⟨v, cellK x c e v z⟩
  · obtain ⟨m, ⟨o, _, _, ho, _⟩, _⟩ := I.loc
    exact free _ o (fun z => (hch _ z).2.1 rfl) ho I.free
  · obtain ⟨v, o, ho, hd⟩ := I.cell x c e
    exact free c o (fun z => (hch c z).2.2.1 x c e rfl) ho (I.freeC x c e)
  · obtain ⟨e, n, ne, nf, d⟩ := I.pin p hp
    have nch : p.1 ∉ ch := fun z => (hch p.1 z).2.2.2 p hp rfl
    exact ⟨keep p.1 p.2 ne nf nch e n, free p.1 p.2 nch e n, ne, nf, d⟩
theorem Inv.un {t' : Nat} (I : Inv X pins σ H s) (u : Un X.fs [] H H' s.heap h') (hok : HOk X.prog X.w H' h') : Inv X pins σ H' { s with heap := h', toks := t' } := by
  obtain ⟨m, ⟨o, es, ep, ho, r⟩, _⟩ := id I.loc
  obtain ⟨sl, hL⟩ := u.any ho I.free (by simp)
  exact I.step (g' := s.gens) (d' := s.drawn) (ch := []) (fun _ z => nomatch z) (fun b o _ hb _ e n => u.keep b o e n hb (by simp)) (fun b o _ hb _ e n => u.slot b o e n hb (by simp)) (fun b o _ e n => u.free b o e n (by simp)) (fun b o _ e => u.there b o e (by simp)) u.tups u.frzs u.tbls (fun m' hm => by
    obtain ⟨o', es', ep', ho', r'⟩ := hm
    rw [ho] at ho'; cases ho'
    exact ⟨_, es', ep', hL, r'⟩) hok I.bare
theorem Inv.call {g' : Array GenState} {t' : Nat} {d' : Drawn} {ch : List Addr} (I : Inv X pins σ H s) (u : Un (frs X.stack) ch H H' s.heap h') (hok : HOk X.prog X.w H' h') (hg : AllBare g')
    (hch : ∀ b ∈ ch, (b ∈ X.ex ∨ X.s₀.heap.objs.size ≤ b) ∧ b ≠ X.env.locals ∧ (∀ x c, X.env.cells.lookup x = some c → c ≠ b) ∧ ∀ p ∈ X.pn ++ pins, p.1 ≠ b) :
    Inv X pins σ H' { s with heap := h', gens := g', drawn := d', toks := t' } := by
  obtain ⟨m, ⟨o, es, ep, ho, r⟩, _⟩ := id I.loc
  obtain ⟨sl, hL⟩ := u.any ho I.free fun z => (hch _ z).2.1 rfl
  exact I.step (ch := ch) hch (fun b o hL hb hc e n => u.keep b o e n (fun z => (List.mem_cons.mp (I.stkSub b z)).elim hL hb) hc) (fun b o _ _ hc e n => u.any e n hc) (fun b o hc e n => u.free b o e n hc) (fun b o hc e => u.there b o e hc) u.tups u.frzs u.tbls (fun m' hm => by
    obtain ⟨o', es', ep', ho', r'⟩ := hm
    rw [ho] at ho'; cases ho'
    exact ⟨_, es', ep', hL, r'⟩) hok hg
theorem Inv.turned {t' : Nat} {it : Addr} (I : Inv X pins σ H s) (k : ∀ b o, b ≠ it → s.heap.get? b = some o → h'.get? b = some o) (hn : H it = none) (hL : it ≠ X.env.locals)
    (h1 : it ∈ X.ex ∨ X.s₀.heap.objs.size ≤ it) (h2 : ∀ x c, X.env.cells.lookup x = some c → c ≠ it) (h3 : ∀ p ∈ X.pn ++ pins, p.1 ≠ it) : Inv X pins σ H { s with heap := h', toks := t' } := by
  have nit : ∀ b u, H b = some u → b ≠ it := fun b u e z => by rw [z, hn] at e; cases e
  refine I.step (g' := s.gens) (d' := s.drawn) (ch := [it]) (fun b hb => ?_) (fun b o _ _ hc e _ => k b o (fun z => hc (by simp [z])) e) (fun b o _ _ hc e _ => ⟨o.slots, k b o (fun z => hc (by simp [z])) e⟩) (fun _ _ _ _ n => n)
    (fun b o hc e => ⟨o, k b o (fun z => hc (by simp [z])) e⟩) (fun _ _ e => e) (fun _ _ _ e => e) (fun b ps e => ⟨#[], by rw [e]; simp⟩) (fun m hm => ?_) (fun b u e => ?_) I.bare
  · have e : b = it := by simpa using hb
    subst e
    exact ⟨h1, hL, h2, h3⟩
  · obtain ⟨o, es, ep, ho, r⟩ := hm
    exact ⟨o, es, ep, k _ o (Ne.symm hL) ho, r⟩
  · refine (I.hok b u e).stay (fun c v hc q => k c v ?_ q) (fun _ q => q) fun _ _ q => q
    rcases hc with z | z
    · rw [z]; exact nit b u e
    · exact nit c _ z
theorem Inv.tok (I : Inv X pins σ H s) (t : Nat) : Inv X pins σ H { s with toks := t } := I.un (h' := s.heap) (t' := t) Un.refl I.hok
theorem Inv.kept {t' : Nat} (I : Inv X pins σ H s) (k : ∀ b u, s.heap.get? b = some u → h'.get? b = some u) : Inv X pins σ H { s with heap := h', toks := t' } := I.un (Un.kept k) (I.hok.kept k)
theorem Inv.laid {a : Addr} {o : HO} {t' : Nat} (I : Inv X pins σ H s) (k : ∀ b u, s.heap.get? b = some u → h'.get? b = some u) (hp : s.heap.objs.size ≤ a) (new : ObjOk X.prog X.w (upd H a o) h' a o) :
    Inv X pins σ (upd H a o) { s with heap := h', toks := t' } := I.un (Un.laid k hp (I.hok.fresh hp)) (I.hok.laid k hp new)
theorem Inv.write {x e : Addr} {o : HO} {t' : Nat} (I : Inv X pins σ H s) (mu : Mut (H x)) (he : e = x ∨ H e = some (.own x)) (k : ∀ b u, b ≠ e → s.heap.get? b = some u → h'.get? b = some u) (heo : ∃ u, h'.get? e = some u)
    (new : ObjOk X.prog X.w (upd H x o) h' x o) : Inv X pins σ (upd H x o) { s with heap := h', toks := t' } := I.un (Un.write mu he k heo) (I.hok.write mu he k heo new)
theorem Inv.weak {σ' : List (Option V)} (I : Inv X pins σ H s) (hl : σ'.length = σ.length) (w : ∀ (i : Nat) v, σ'[i]? = some (some v) → σ[i]? = some (some v)) : Inv X pins σ' H s :=
  ⟨I.ok, I.os, I.bare, I.base, let ⟨m, hn, hl'⟩ := I.loc; ⟨m, hn, fun i x v e1 e2 e3 => hl' i x v e1 (w i v e2) e3⟩, I.cell, I.free, I.freeC, I.pin, I.hok, hl.trans I.len⟩
theorem Inv.pins_of {pins' : List (Addr × Obj)} (I : Inv X pins σ H s) (h : ∀ p ∈ pins', s.heap.get? p.1 = some p.2 ∧ H p.1 = none ∧ p.1 ≠ X.env.locals ∧ p.1 ∉ X.fs ∧ ∀ v, p.2.data ≠ .cell v) : Inv X pins' σ H s :=
  ⟨I.ok, I.os, I.bare, I.base, I.loc, I.cell, I.free, I.freeC, fun p hp => (List.mem_append.mp hp).elim (fun z => I.pin p (List.mem_append_left _ z)) (h p), I.hok, I.len⟩

theorem nodup_ix {N : List Str} (hN : N.Nodup) {i j : Nat} {x : Str} (a : N[i]? = some x) (b : N[j]? = some x) : i = j := by
  obtain ⟨h1, e1⟩ := List.getElem?_eq_some_iff.mp a
  obtain ⟨h2, e2⟩ := List.getElem?_eq_some_iff.mp b
  exact (List.getElem_inj hN).mp (e1.trans e2.symm)

theorem store_ok2 {M : Model} {A : Around} {E : Value → Shared → Prop} {i : Nat} {x : Str} {v : V} {u : Value} {Q : Unit → Shared → Prop} (I : Inv X pins σ H s) (hN : X.N.Nodup) (hi : X.N[i]? = some x) (hx : Loc X.env.scope x) (r : RelV v u)
    (h : ∀ s', Inv X pins (σ.set i (some v)) H s' → (∃ a, Heap.SameBut a s.heap s'.heap ∧ (a = X.env.locals ∨ X.env.cells.lookup x = some a)) → Q () s') (hf : X.fn x = true ∨ X.env.scope.names.lookup x = some .local := by first | exact .inl rfl | exact .inr rfl | assumption) : wpAny M A (storeName X.env x u) Q E s := by
  obtain ⟨m, hn, hl⟩ := id I.loc
  have hcls : (X.env.scope.kind == .class || (X.env.scope.kind == .module && X.env.locals != X.env.globals)) = false := by rw [I.ok.kind]; rfl
  have hiσ : i < σ.length := by rw [I.len]; exact (List.getElem?_eq_some_iff.mp hi).1
  have cne := I.cne
  have tracked : ∀ {a : Addr} {h' : Heap}, (∃ o, s.heap.get? a = some o ∧ H a = none) → Heap.SameBut a s.heap h' → HOk X.prog X.w H h' := fun {a h'} ha hs b ob e => by
    obtain ⟨_, _, hfree⟩ := ha
    refine (I.hok b ob e).stay (fun c w' hc q => (hs.2 c ?_).trans q) (fun _ q => q) fun _ _ q => q
    rintro rfl
    rcases hc with rfl | hc
    · rw [hfree] at e; cases e
    · rw [hfree] at hc; cases hc
  rcases hx with hk | hk
  · refine wpAny_storeName_local hk hn (fun h' hn' hs => ?_) hcls
    obtain ⟨oL, _, _, hoL, _⟩ := id hn
    refine h _ ⟨I.ok, I.os, I.bare, ⟨fun b o e n hb hx => ?_, fun b o e n hb hx => ?_, I.base.free, fun b o e hx => ?_, I.base.tups, I.base.frzs, I.base.tbls⟩, ⟨_, hn', fun j y v' e1 e2 e3 => ?_⟩, fun y c e => ?_, I.free, I.freeC, fun p hp => ?_, tracked ⟨oL, hoL, I.free⟩ hs, by simpa using I.len⟩ ⟨_, hs, .inl rfl⟩
    · exact (hs.2 b (Nat.ne_of_lt (Nat.lt_of_lt_of_le (Heap.lt_size e) I.ok.above))).trans (I.base.keep b o e n hb hx)
    · obtain ⟨sl, e1⟩ := I.base.slot b o e n hb hx
      exact ⟨sl, (hs.2 b (Nat.ne_of_lt (Nat.lt_of_lt_of_le (Heap.lt_size e) I.ok.above))).trans e1⟩
    · obtain ⟨o', e1⟩ := I.base.there b o e hx
      exact ⟨o', (hs.2 b (Nat.ne_of_lt (Nat.lt_of_lt_of_le (Heap.lt_size e) I.ok.above))).trans e1⟩
    · by_cases hj : j = i
      · subst hj
        rw [hi] at e1; cases e1
        rw [List.getElem?_set_self hiσ] at e2
        cases e2
        exact ⟨u, r, .inl ⟨hk, by simp⟩⟩
      · rw [List.getElem?_set_ne (Ne.symm hj)] at e2
        obtain ⟨u', r', q⟩ := hl j y v' e1 e2 e3
        refine ⟨u', r', ?_⟩
        rcases q with ⟨k, e⟩ | ⟨k, c, e, z⟩
        · refine .inl ⟨k, ?_⟩
          have : y ≠ x := fun e => hj (nodup_ix hN e1 (e ▸ hi))
          simp [this, e]
        · exact .inr ⟨k, c, e, z.sameBut hs (cne y c e)⟩
    · obtain ⟨w', z⟩ := I.cell y c e
      exact ⟨w', z.sameBut hs (cne y c e)⟩
    · obtain ⟨e, n, ne, nf, d⟩ := I.pin p hp
      exact ⟨(hs.2 p.1 ne).trans e, n, ne, nf, d⟩
  · have hfn : X.fn x = true := by
      rcases hf with z | z
      · exact z
      · rw [z] at hk; cases hk
    obtain ⟨c, hc⟩ := I.ok.has x (.inl hk)
    obtain ⟨w', z⟩ := I.cell x c hc
    refine wpAny_storeName_cell I.ok.kind hk hc z (fun h' hc' hs => ?_)
    obtain ⟨oc, hoc, hocd⟩ := id z
    refine h { s with heap := h' } ⟨I.ok, I.os, I.bare, ⟨fun b o e n hb hx => ?_, fun b o e n hb hx => ?_, I.base.free, fun b o e hx => ?_, I.base.tups, I.base.frzs, I.base.tbls⟩, ⟨m, hn.sameBut hs (Ne.symm (cne x c hc)), fun j y v' e1 e2 e3 => ?_⟩, fun y c' e => ?_, I.free, I.freeC, fun p hp => ?_, tracked ⟨oc, hoc, I.freeC x c hc⟩ hs, by simpa using I.len⟩ ⟨c, hs, .inr hc⟩
    · exact (hs.2 b (Nat.ne_of_lt (Nat.lt_of_lt_of_le (Heap.lt_size e) (I.ok.cab x c hfn hc)))).trans (I.base.keep b o e n hb hx)
    · obtain ⟨sl, e1⟩ := I.base.slot b o e n hb hx
      exact ⟨sl, (hs.2 b (Nat.ne_of_lt (Nat.lt_of_lt_of_le (Heap.lt_size e) (I.ok.cab x c hfn hc)))).trans e1⟩
    · obtain ⟨o', e1⟩ := I.base.there b o e hx
      exact ⟨o', (hs.2 b (Nat.ne_of_lt (Nat.lt_of_lt_of_le (Heap.lt_size e) (I.ok.cab x c hfn hc)))).trans e1⟩
    · by_cases hj : j = i
      · subst hj
        rw [hi] at e1; cases e1
        rw [List.getElem?_set_self hiσ] at e2
        cases e2
        exact ⟨u, r, .inr ⟨.inl hk, c, hc, hc'⟩⟩
      · rw [List.getElem?_set_ne (Ne.symm hj)] at e2
        obtain ⟨u', r', q⟩ := hl j y v' e1 e2 e3
        refine ⟨u', r', ?_⟩
        rcases q with q | ⟨k, c', e, z'⟩
        · exact .inl q
        · refine .inr ⟨k, c', e, z'.sameBut hs ?_⟩
          rintro rfl
          exact hj (nodup_ix hN e1 (I.ok.inj _ _ _ e hc ▸ hi))
    · by_cases hcc : c' = c
      · subst hcc; exact ⟨_, hc'⟩
      · obtain ⟨w2, z2⟩ := I.cell y c' e
        exact ⟨w2, z2.sameBut hs hcc⟩
    · obtain ⟨e, n, ne, nf, d⟩ := I.pin p hp
      refine ⟨(hs.2 p.1 ?_).trans e, n, ne, nf, d⟩
      intro q
      rw [q, hoc] at e
      have q' : oc = p.2 := Option.some.inj e
      exact d w' (by rw [← q']; exact hocd)
theorem store_ok {M : Model} {A : Around} {E : Value → Shared → Prop} {i : Nat} {x : Str} {v : V} {u : Value} {Q : Unit → Shared → Prop} (I : Inv X pins σ H s) (hN : X.N.Nodup) (hi : X.N[i]? = some x) (hx : Loc X.env.scope x) (r : RelV v u)
    (h : ∀ s', Inv X pins (σ.set i (some v)) H s' → Q () s') (hf : X.fn x = true ∨ X.env.scope.names.lookup x = some .local := by first | exact .inl rfl | exact .inr rfl | assumption) : wpAny M A (storeName X.env x u) Q E s :=
  store_ok2 I hN hi hx r (fun s' I' _ => h s' I') hf
theorem Inv.call' {s' : Shared} {ch : List Addr} (I : Inv X pins σ H s) (ho : s'.os = s.os) (u : Un (frs X.stack) ch H H' s.heap s'.heap) (hok : HOk X.prog X.w H' s'.heap) (hg : AllBare s'.gens)
    (hch : ∀ b ∈ ch, (b ∈ X.ex ∨ X.s₀.heap.objs.size ≤ b) ∧ b ≠ X.env.locals ∧ (∀ x c, X.env.cells.lookup x = some c → c ≠ b) ∧ ∀ p ∈ X.pn ++ pins, p.1 ≠ b) : Inv X pins σ H' s' := by
  obtain ⟨h', g', d', t', o'⟩ := s'
  have e : o' = s.os := ho
  subst e
  exact I.call (g' := g') (t' := t') (d' := d') u hok hg hch
end

abbrev XK := Value → Option Addr → Hp → Prop
abbrev St := List (Option V)
abbrev VK := V → Hp → Prop
abbrev TE := St → Hp → VK → Prop
abbrev TT := St → Hp → (Bool → Hp → Prop) → Prop
abbrev TA := St → Hp → (List V → Hp → Prop) → Prop
structure Ends where
  nx : St → Hp → Prop
  rt : VK
  bk : St → Hp → Prop := fun _ _ => False
  ct : St → Hp → Prop := fun _ _ => False
abbrev TS := Ends → St → Hp → Prop

def EP (X : Cx) (pins : List (Addr × Obj)) (σ : St) (Q : VK) (u : Value) (s' : Shared) : Prop := ∃ v H', Inv X pins σ H' s' ∧ RelV v u ∧ Q v H'
def TP (X : Cx) (pins : List (Addr × Obj)) (σ : St) (Q : Bool → Hp → Prop) (b : Bool) (s' : Shared) : Prop := ∃ H', Inv X pins σ H' s' ∧ Q b H'
def AP (X : Cx) (pins : List (Addr × Obj)) (σ : St) (Q : List V → Hp → Prop) (us : List Value) (s' : Shared) : Prop := ∃ vs H', Inv X pins σ H' s' ∧ Vals vs us ∧ Q vs H'
def SP (X : Cx) (pins : List (Addr × Obj)) (D : Ends) (f : Flow) (s' : Shared) : Prop :=
  match f with
  | .next => ∃ σ' H', Inv X pins σ' H' s' ∧ D.nx σ' H'
  | .brk => ∃ σ' H', Inv X pins σ' H' s' ∧ D.bk σ' H'
  | .cont => ∃ σ' H', Inv X pins σ' H' s' ∧ D.ct σ' H'
  | .ret u => ∃ v σ' H', Inv X pins σ' H' s' ∧ RelV v u ∧ D.rt v H'

def PE (X : Cx) (e : Expr) (t : TE) : Prop :=
  ∀ (pins : List (Addr × Obj)) (s : Shared) (σ : St) (H : Hp) (Q : VK), Inv X pins σ H s → t σ H Q → wpAny (model X.prog X.w) X.A (eval e X.env) (EP X pins σ Q) X.xe s
def PT (X : Cx) (e : Expr) (t : TT) : Prop :=
  ∀ (pins : List (Addr × Obj)) (s : Shared) (σ : St) (H : Hp) (Q : Bool → Hp → Prop), Inv X pins σ H s → t σ H Q → wpAny (model X.prog X.w) X.A (isTrue e X.env (eval e X.env)) (TP X pins σ Q) X.xe s
def PW (X : Cx) (e : Expr) (t : TT) : Prop :=
  ∀ (whole : Sem Value) (pins : List (Addr × Obj)) (s : Shared) (σ : St) (H : Hp) (Q : Bool → Hp → Prop), Inv X pins σ H s → t σ H Q → wpAny (model X.prog X.w) X.A (isTrue e X.env whole) (TP X pins σ Q) X.xe s
theorem PW.pt {X : Cx} {e : Expr} {t : TT} (h : PW X e t) : PT X e t := h _
def PA (X : Cx) (es : List Expr) (t : TA) : Prop :=
  ∀ (pos : Pos) (pins : List (Addr × Obj)) (s : Shared) (σ : St) (H : Hp) (Q : List V → Hp → Prop), Inv X pins σ H s → t σ H Q → wpAny (model X.prog X.w) X.A (spliced (backTo pos (starEach es X.env))) (AP X pins σ Q) X.xe s
def PS (X : Cx) (st : Stmt) (t : TS) : Prop :=
  ∀ (pins : List (Addr × Obj)) (s : Shared) (σ : St) (H : Hp) (D : Ends), Inv X pins σ H s → t D σ H → wpAny (model X.prog X.w) X.A (exec st X.env) (SP X pins D) X.xe s
def PSs (X : Cx) (st : List Stmt) (t : TS) : Prop :=
  ∀ (pins : List (Addr × Obj)) (s : Shared) (σ : St) (H : Hp) (D : Ends), Inv X pins σ H s → t D σ H → wpAny (model X.prog X.w) X.A (execs st X.env) (SP X pins D) X.xe s
theorem thn {α : Type} {t : Sem α} {Q Q' : α → Shared → Prop} {M : Model} {A : Around} {E : Value → Shared → Prop} {s : Shared} (h : wpAny M A t Q E s) (hQ : ∀ a s, Q a s → Q' a s) : wpAny M A t Q' E s := wpAny_mono h hQ fun _ _ x => x
end L2

namespace L2
open PySem PySem.Spec PyProof.Rows
section
variable {X : Cx}

theorem bin {a b : Expr} {ta tb : TE} (ha : PE X a ta) (hb : PE X b tb) {pins : List (Addr × Obj)} {s : Shared} {σ : St} {H : Hp} {R : V → V → Hp → Prop} (I : Inv X pins σ H s) (h : ta σ H fun x H1 => tb σ H1 fun y H2 => R x y H2)
    {α : Type} {Q : α → Shared → Prop} {f : Value → Value → Sem α}
    (hf : ∀ v u s2 x y H2, Inv X pins σ H2 s2 → RelV x v → RelV y u → R x y H2 → wpAny (model X.prog X.w) X.A (f v u) Q X.xe s2) :
    wpAny (model X.prog X.w) X.A (eval a X.env) (fun v s₁ => wpAny (model X.prog X.w) X.A (eval b X.env) (fun u s₂ => wpAny (model X.prog X.w) X.A (f v u) Q X.xe s₂) X.xe s₁) X.xe s := by
  refine thn (ha pins s σ H _ I h) fun v s1 ⟨x, H1, I1, r1, q1⟩ => ?_
  refine thn (hb pins s1 σ H1 _ I1 q1) fun u s2 ⟨y, H2, I2, r2, q2⟩ => ?_
  exact hf v u s2 x y H2 I2 r1 r2 q2

def tVar (i : Nat) : TE := fun σ H Q => ∃ v, σ[i]? = some (some v) ∧ Q v H
def tC (v : V) : TE := fun _ H Q => Q v H
theorem pe_var {i : Nat} {x : Str} {pos : Pos} (hN : X.N[i]? = some x) (hv : Vis X.env.scope x) (hd : (x == ("__debug__" : Str)) = false := by decide) (hcd : (x == ("__classdict__" : Str)) = false := by decide) : PE X (.Name x pos) (tVar i) := by
  intro pins s σ H Q I h
  obtain ⟨v, e, h⟩ := h
  obtain ⟨m, hn, hl⟩ := I.loc
  obtain ⟨u, r, l⟩ := hl i x v hN e hv
  have fin : EP X pins σ Q u s := ⟨v, H, I, r, h⟩
  rcases l with ⟨hk, hm⟩ | ⟨hk, c, hc, hcell⟩
  · exact wpAny_Name (wpAny_loadName_local I.ok.kind hk hn hm fin) hd
  · rcases hk with hk | hk
    · exact wpAny_Name (wpAny_loadName_cell I.ok.kind hk hc hcell fin) hd
    · exact wpAny_Name (wpAny_loadName_free I.ok.kind hk hc hcell fin hcd) hd
theorem pe_int {i j pos} : PE X (.Constant (.int i) j pos) (tC (.int i)) := fun _ _ _ H _ I h => wpAny_Constant_int ⟨.int i, H, I.tok _, ⟨_, rfl⟩, h⟩
theorem pe_bl {b j pos} : PE X (.Constant (.bool b) j pos) (tC (.bl b)) := fun _ _ _ H _ I h => Constant_bool ⟨.bl b, H, I, rfl, h⟩
theorem pe_non {j pos} : PE X (.Constant .none j pos) (tC .non) := fun _ _ _ H _ I h => Constant_none ⟨.non, H, I, rfl, h⟩
def Gl (X : Cx) (x : Str) : Prop := X.env.kindOf x = some .globalImplicit
theorem ld_glob {E : Value → Shared → Prop} {pins : List (Addr × Obj)} {s : Shared} {σ : St} {H : Hp} {x : Str} {u : Value} {pos : Pos} {Q : Value → Shared → Prop} (I : Inv X pins σ H s) (hg : Gl X x) (hm : X.mg x = some u) (h : Q u s)
    (hd : (x == ("__debug__" : Str)) = false := by decide) : wpAny (model X.prog X.w) X.A (eval (.Name x pos) X.env) Q E s :=
  Calls.Name_function_global I.ok.kind hg (Calls.loadGlobal_global (by rw [I.ok.glob]; exact I.mod.glob.keeps I.bk) hm h) hd
theorem ld_blt {E : Value → Shared → Prop} {pins : List (Addr × Obj)} {s : Shared} {σ : St} {H : Hp} {x : Str} {u : Value} {pos : Pos} {Q : Value → Shared → Prop} (I : Inv X pins σ H s) (hg : Gl X x) (hm : X.mg x = none) (hv : bootBuiltins x = some u) (h : Q u s)
    (hn : x ≠ "__name__" := by decide) (hd : (x == ("__debug__" : Str)) = false := by decide) : wpAny (model X.prog X.w) X.A (eval (.Name x pos) X.env) Q E s := by
  obtain ⟨mb, h1, h2⟩ := I.mod.blt
  exact Calls.Name_function_global I.ok.kind hg (Calls.loadGlobal_builtin (by rw [I.ok.glob]; exact I.mod.glob.keeps I.bk) hm (by rw [I.ok.blt]; exact h1.keeps I.bk) ((h2 x hn).trans hv) h) hd
theorem pe_bltn {x : Str} {v : V} {u : Value} {pos : Pos} (hg : Gl X x) (hm : X.mg x = none) (hv : bootBuiltins x = some u) (r : RelV v u) (hn : x ≠ "__name__" := by decide) (hd : (x == ("__debug__" : Str)) = false := by decide) : PE X (.Name x pos) (tC v) :=
  fun _ _ _ H _ I h => ld_blt I hg hm hv ⟨v, H, I, r, h⟩ hn hd

def t2I (ta tb : TE) (k : Int → Int → Hp → Prop) : St → Hp → Prop := fun σ H => ta σ H fun x H1 => tb σ H1 fun y H2 => ∃ i j, x = .int i ∧ y = .int j ∧ k i j H2
def tAdd (ta tb : TE) : TE := fun σ H Q => t2I ta tb (fun i j H2 => Q (.int (i + j)) H2) σ H
def tSub (ta tb : TE) : TE := fun σ H Q => t2I ta tb (fun i j H2 => Q (.int (i - j)) H2) σ H
def tMul (ta tb : TE) : TE := fun σ H Q => t2I ta tb (fun i j H2 => (-(2 ^ 64) < i ∧ i < 2 ^ 64) ∧ Q (.int (i * j)) H2) σ H
variable {a b : Expr} {ta tb : TE} {pos : Pos}
def PC (X : Cx) (op : CmpOp) (a b : Expr) (t : TE) : Prop :=
  ∀ (pins : List (Addr × Obj)) (s : Shared) (σ : St) (H : Hp) (Q : VK), Inv X pins σ H s → t σ H Q →
    wpAny (model X.prog X.w) X.A (eval a X.env) (fun v s₁ => wpAny (model X.prog X.w) X.A (eval b X.env) (fun u s₂ => wpAny (model X.prog X.w) X.A (compareOp op v u) (EP X pins σ Q) X.xe s₂) X.xe s₁) X.xe s
def tCmp (p : Int → Int → Bool) (ta tb : TE) : TE := fun σ H Q => t2I ta tb (fun i j H2 => Q (.bl (p i j)) H2) σ H
abbrev tLt : TE → TE → TE := tCmp fun i j => decide (i < j)
abbrev tLe : TE → TE → TE := tCmp fun i j => decide (i ≤ j)
abbrev tGt : TE → TE → TE := tCmp fun i j => decide (j < i)
abbrev tGe : TE → TE → TE := tCmp fun i j => decide (j ≤ i)
abbrev tEqI : TE → TE → TE := tCmp fun i j => decide (i = j)
abbrev tNeI : TE → TE → TE := tCmp fun i j => !decide (i = j)
def tIsN (ta : TE) : TE := fun σ H Q => ta σ H fun x H1 => Q (.bl (decide (x = .non))) H1
def tNotN (ta : TE) : TE := fun σ H Q => ta σ H fun x H1 => Q (.bl (!decide (x = .non))) H1
def tB (t : TE) : TT := fun σ H Q => t σ H fun x H1 => ∃ c, x = .bl c ∧ Q c H1
theorem pt_val {e : Expr} {t : TE} (h : PE X e t) (he : ∀ whole, isTrue e X.env whole = (do let v ← whole; standAt e.pos; holding [v] (truthy v)) := by intro _; rfl) : PT X e (tB t) := by
  intro pins s σ H Q I hw
  refine isTrue_plain (thn (h pins s σ H _ I hw) fun v s1 ⟨x, H1, I1, r1, q1⟩ => ?_) (he _)
  obtain ⟨d, rfl, q⟩ := q1
  cases r1
  exact wpAny_truthy_bool ⟨H1, I1, q⟩

variable {tA tB' : TT} {rest : List Expr}
def tAnd (t u : TT) : TT := fun σ H Q => t σ H fun c H1 => if c = true then u σ H1 Q else Q false H1
def tOr (t u : TT) : TT := fun σ H Q => t σ H fun c H1 => if c = true then Q true H1 else u σ H1 Q
def tNot (t : TT) : TT := fun σ H Q => t σ H fun c H1 => Q (!c) H1
theorem pw_or1 (ha : PT X a tA) : PW X (.BoolOp .Or [a] pos) tA := by
  intro wh pins s σ H Q I h
  refine isTrue_or (thn (ha pins s σ H Q I h) fun c s1 e => ?_)
  cases c with
  | false => exact isTrue_or_nil e
  | true => exact e
theorem pw_or (ha : PT X a tA) (hb : PW X (.BoolOp .Or (b :: rest) pos) tB') : PW X (.BoolOp .Or (a :: b :: rest) pos) (tOr tA tB') := by
  intro wh pins s σ H Q I h
  refine isTrue_or (thn (ha pins s σ H _ I h) fun c s1 ⟨H1, I1, q1⟩ => ?_)
  cases c with
  | true => exact ⟨H1, I1, q1⟩
  | false => exact hb wh pins s1 σ H1 Q I1 q1
theorem pt_not (ha : PT X a tA) : PT X (.UnaryOp .Not a pos) (tNot tA) := by
  intro pins s σ H Q I h
  exact isTrue_not (ha pins s σ H (fun c H1 => Q (!c) H1) I h)
def tAndV (ta tb : TE) : TE := fun σ H Q => ta σ H fun x H1 => ∃ c, x = .bl c ∧ if c = true then tb σ H1 Q else Q (.bl false) H1
def tOrV (ta tb : TE) : TE := fun σ H Q => ta σ H fun x H1 => ∃ c, x = .bl c ∧ if c = true then Q (.bl true) H1 else tb σ H1 Q
def tNotV (ta : TE) : TE := fun σ H Q => ta σ H fun x H1 => ∃ c, x = .bl c ∧ Q (.bl (!c)) H1
theorem pe_one {op} {t : TE} (h : PE X a t) : PE X (.BoolOp op [a] pos) t := fun pins s σ H Q I hw => BoolOp_one (h pins s σ H Q I hw)
theorem pe_and (ha : PE X a ta) (hb : PE X (.BoolOp .And (b :: rest) pos) tb) : PE X (.BoolOp .And (a :: b :: rest) pos) (tAndV ta tb) := by
  intro pins s σ H Q I h
  refine BoolOp_and (thn (ha pins s σ H _ I h) fun v s1 ⟨x, H1, I1, r1, q1⟩ => ?_)
  obtain ⟨c, rfl, q1⟩ := q1
  cases r1
  refine wpAny_truthy_bool ?_
  cases c with
  | true => exact hb pins s1 σ H1 Q I1 q1
  | false => exact ⟨.bl false, H1, I1, rfl, q1⟩
theorem pe_not (ha : PE X a ta) : PE X (.UnaryOp .Not a pos) (tNotV ta) := by
  intro pins s σ H Q I h
  refine UnaryOp_ (thn (ha pins s σ H _ I h) fun v s1 ⟨x, H1, I1, r1, q1⟩ => ?_)
  obtain ⟨c, rfl, q1⟩ := q1
  cases r1
  exact not_of (wpAny_truthy_bool ⟨.bl (!c), H1, I1, rfl, q1⟩)
def tIf (t : TT) (ta tb : TE) : TE := fun σ H Q => t σ H fun c H1 => if c = true then ta σ H1 Q else tb σ H1 Q
end
end L2

namespace L2
open PySem PySem.Spec PyProof.Rows

def SqL (K : PySem.W.Frag) (H : Hp) (a : Addr) (xs : List V) : Prop :=
  Rd H a (.lst xs) ∨
    ∃ (o : Obj) (its : Array Value) (n : Nat), K.lookup a = some o ∧ o.cls = .type "list" ∧ o.dict = none ∧ o.data = .seq its n ∧ its.size ≤ sizeLine ∧ Vals xs its.toList
def SqT (K : PySem.W.Frag) (H : Hp) (a : Addr) (xs : List V) : Prop :=
  Rd H a (.tup xs) ∨
    ∃ (o : Obj) (its : Array Value) (n : Nat), K.lookup a = some o ∧ o.cls = .type "tuple" ∧ o.data = .seq its n ∧ its.size ≤ sizeLine ∧ Vals xs its.toList
def absV : Value → Option V
  | .none => some .non
  | .bool b => some (.bl b)
  | .int i _ => some (.int i)
  | .str x _ => some (.str x)
  | .bytes b _ => some (.byt b)
  | .float b _ => some (.flt b)
  | .ref a => some (.ref a)
  | .type n => some (.ty n)
  | _ => none
theorem RelV.abs {x : V} {u : Value} (r : RelV x u) : absV u = some x := by
  cases x with
  | non => cases r; rfl
  | bl _ => cases r; rfl
  | int _ => obtain ⟨t, rfl⟩ := r; rfl
  | str _ => obtain ⟨t, rfl⟩ := r; rfl
  | byt _ => obtain ⟨t, rfl⟩ := r; rfl
  | flt _ => obtain ⟨t, rfl⟩ := r; rfl
  | ref _ => cases r; rfl
  | ty _ => cases r; rfl
theorem RelV.inj {x y : V} {u : Value} (r : RelV x u) (q : RelV y u) : x = y := Option.some.inj (r.abs.symm.trans q.abs)
theorem Vals.inj : ∀ {xs ys : List V} {us : List Value}, Vals xs us → Vals ys us → xs = ys
  | _, _, _, .nil, .nil => rfl
  | _, _, _, .cons r t, .cons r' t' => by rw [r.inj r', Vals.inj t t']
section
variable {X : Cx} {pins : List (Addr × Obj)} {σ : St} {H : Hp} {s : Shared} {a : Addr} {xs ys : List V}
theorem SqL.of {K : PySem.W.Frag} (h : H a = some (.lst xs)) : SqL K H a xs := .inl (.inl h)
theorem SqT.of {K : PySem.W.Frag} (h : H a = some (.tup xs)) : SqT K H a xs := .inl (.inl h)
theorem Inv.list (I : Inv X pins σ H s) (h : SqL X.K H a xs) : ∃ its : List Value, Vals xs its ∧ PlainL s.heap a its.toArray ∧ xs.length ≤ sizeLine := by
  rcases h with h | ⟨o, its, n, hk, hc, hd, hs, hz, r⟩
  · obtain ⟨z, its, n, r, e⟩ := h.ok I.hok
    exact ⟨its, r, ⟨_, n, e, rfl, rfl, rfl⟩, z⟩
  · refine ⟨its.toList, r, ⟨o, n, I.kIn a o hk, hc, hd, by simpa using hs⟩, ?_⟩
    have e := r.length
    simp only [Array.length_toList] at e
    omega
theorem Inv.tuple (I : Inv X pins σ H s) (h : SqT X.K H a xs) : ∃ its : List Value, Vals xs its ∧ IsTup s.heap a its.toArray ∧ xs.length ≤ sizeLine := by
  rcases h with h | ⟨o, its, n, hk, hc, hs, hz, r⟩
  · obtain ⟨z, its, r, p⟩ := h.ok I.hok
    exact ⟨its, r, p, z⟩
  · refine ⟨its.toList, r, ⟨o, I.kIn a o hk, hc, n, by simpa using hs⟩, ?_⟩
    have e := r.length
    simp only [Array.length_toList] at e
    omega
theorem Inv.list_inj (I : Inv X pins σ H s) (h : SqL X.K H a xs) (h' : SqL X.K H a ys) : xs = ys := by
  obtain ⟨its, r, ⟨o, n, e, _, _, d⟩, _⟩ := I.list h
  obtain ⟨its', r', ⟨o', n', e', _, _, d'⟩, _⟩ := I.list h'
  rw [e] at e'; cases e'
  rw [d] at d'
  injection d' with d1 _
  have : its = its' := by simpa using congrArg Array.toList d1
  subst this
  exact r.inj r'
end

abbrev Cx.wish (X : Cx) (E : Value → Shared → Prop) : Cx := { X with xe := E }
abbrev Cx.nox (X : Cx) : Cx := X.wish fun _ _ => False
theorem Cx.Ok.wish {X : Cx} (ok : X.Ok) (E : Value → Shared → Prop) : (X.wish E).Ok :=
  ⟨ok.mod, ok.kind, ok.glob, ok.blt, ok.above, ok.inj, ok.has, ok.cab, ok.hd, ok.frames, ok.stk, ok.exf, ok.bs, ok.bsz, ok.noex, ok.exfs, ok.funs, ok.frf⟩
theorem Cx.Ok.unwish {X : Cx} {E : Value → Shared → Prop} (ok : (X.wish E).Ok) : X.Ok :=
  ⟨ok.mod, ok.kind, ok.glob, ok.blt, ok.above, ok.inj, ok.has, ok.cab, ok.hd, ok.frames, ok.stk, ok.exf, ok.bs, ok.bsz, ok.noex, ok.exfs, ok.funs, ok.frf⟩
section
variable {X : Cx} {pins : List (Addr × Obj)} {σ : St} {H : Hp} {s : Shared} {E : Value → Shared → Prop}
theorem Inv.wish (I : Inv X pins σ H s) (E : Value → Shared → Prop) : Inv (X.wish E) pins σ H s := ⟨I.ok.wish E, I.os, I.bare, I.base, I.loc, I.cell, I.free, I.freeC, I.pin, I.hok, I.len⟩
theorem Inv.unwish (I : Inv (X.wish E) pins σ H s) : Inv X pins σ H s := ⟨I.ok.unwish, I.os, I.bare, I.base, I.loc, I.cell, I.free, I.freeC, I.pin, I.hok, I.len⟩
theorem SP.unwish {D : Ends} {f : Flow} {s' : Shared} (h : SP (X.wish E) pins D f s') : SP X pins D f s' := by
  cases f with
  | next => obtain ⟨σ', H', I, q⟩ := h; exact ⟨σ', H', I.unwish, q⟩
  | brk => obtain ⟨σ', H', I, q⟩ := h; exact ⟨σ', H', I.unwish, q⟩
  | cont => obtain ⟨σ', H', I, q⟩ := h; exact ⟨σ', H', I.unwish, q⟩
  | ret u => obtain ⟨v, σ', H', I, r, q⟩ := h; exact ⟨v, σ', H', I.unwish, r, q⟩
theorem PE.nox {e : Expr} {t : TE} (h : PE X.nox e t) : PE X e t := fun pins s σ H Q I hw =>
  wpAny_mono (h pins s σ H Q (I.wish _) hw) (fun _ _ ⟨v, H', I', r, q⟩ => ⟨v, H', I'.unwish, r, q⟩) fun _ _ z => False.elim z
theorem PT.nox {e : Expr} {t : TT} (h : PT X.nox e t) : PT X e t := fun pins s σ H Q I hw =>
  wpAny_mono (h pins s σ H Q (I.wish _) hw) (fun _ _ ⟨H', I', q⟩ => ⟨H', I'.unwish, q⟩) fun _ _ z => False.elim z
theorem PSs.nox {st : List Stmt} {t : TS} (h : PSs X.nox st t) : PSs X st t := fun pins s σ H D I hw =>
  wpAny_mono (h pins s σ H D (I.wish _) hw) (fun _ _ q => q.unwish) fun _ _ z => False.elim z
end

section
variable {X : Cx} {st : Stmt} {rest : List Stmt} {t u : TS} {e : Expr} {te : TE} {pos : Pos}
def tNext : TS := fun D σ H => D.nx σ H
def tSeq (t u : TS) : TS := fun D σ H => t { D with nx := u D } σ H
theorem pss_nil : PSs X [] tNext := fun _ _ σ H _ I h => wpAny_execs_nil ⟨σ, H, I, h⟩
theorem pss_cons (h1 : PS X st t) (h2 : PSs X rest u) : PSs X (st :: rest) (tSeq t u) := by
  intro pins s σ H D I h
  refine wpAny_execs_cons (thn (h1 pins s σ H { D with nx := u D } I h) fun f s1 q => ?_)
  cases f with
  | next =>
    obtain ⟨σ', H', I', q⟩ := q
    exact h2 pins s1 σ' H' D I' q
  | ret v => exact q
  | brk => exact q
  | cont => exact q
theorem pss_one (h1 : PS X st t) : PSs X [st] t := by
  intro pins s σ H D I h
  refine wpAny_execs_cons (thn (h1 pins s σ H D I h) fun f s1 q => ?_)
  cases f with
  | next => exact wpAny_execs_nil q
  | ret v => exact q
  | brk => exact q
  | cont => exact q
def tBreak : TS := fun D σ H => D.bk σ H
def tCont : TS := fun D σ H => D.ct σ H
theorem Inv.quiet {pins : List (Addr × Obj)} {σ : St} {H : Hp} {s : Shared} (I : Inv X pins σ H s) : interactive X.env = false := by simp [interactive, I.ok.kind]
def tDrop (te : TE) : TS := fun D σ H => te σ H fun _ H1 => D.nx σ H1
def tRet (te : TE) : TS := fun D σ H => te σ H D.rt
theorem ps_ret (he : PE X e te) : PS X (.Return (some e) pos) (tRet te) := by
  intro pins s σ H D I h
  exact wpAny_Return_some (thn (he pins s σ H _ I h) fun v s1 ⟨x, H1, I1, r1, q1⟩ => ⟨x, σ, H1, I1, r1, q1⟩)
def tRetN : TS := fun D _ H => D.rt .non H
def tIfS (c : TT) (t u : TS) : TS := fun D σ H => c σ H fun b H1 => if b = true then t D σ H1 else u D σ H1
theorem ps_if {c : Expr} {a b : List Stmt} {tc : TT} (hc : PT X c tc) (ha : PSs X a t) (hb : PSs X b u) : PS X (.If c a b pos) (tIfS tc t u) := by
  intro pins s σ H D I h
  refine wpAny_If (thn (hc pins s σ H _ I h) fun d s1 ⟨H1, I1, q1⟩ => ?_)
  cases d with
  | true => exact ha pins s1 σ H1 D I1 q1
  | false => exact hb pins s1 σ H1 D I1 q1
def tNever : TS := fun _ _ _ => False
end

abbrev TG := V → St → Hp → (St → Hp → Prop) → Prop
abbrev TGs := List V → St → Hp → (St → Hp → Prop) → Prop
def PG (X : Cx) (target : Expr) (t : TG) : Prop :=
  ∀ (pins : List (Addr × Obj)) (s : Shared) (σ : St) (H : Hp) (v : V) (u : Value) (Q : St → Hp → Prop), Inv X pins σ H s → RelV v u → t v σ H Q →
    wpAny (model X.prog X.w) X.A (assign target X.env u) (fun _ s' => ∃ σ' H', Inv X pins σ' H' s' ∧ Q σ' H') X.xe s
def PGs (X : Cx) (ts : List Expr) (t : TGs) : Prop :=
  ∀ (pins : List (Addr × Obj)) (s : Shared) (σ : St) (H : Hp) (vs : List V) (us : List Value) (Q : St → Hp → Prop), Inv X pins σ H s → Vals vs us → t vs σ H Q →
    wpAny (model X.prog X.w) X.A (assignInOrder ((assignEach ts X.env).map (·.2)) us) (fun _ s' => ∃ σ' H', Inv X pins σ' H' s' ∧ Q σ' H') X.xe s
abbrev TSet := V → V → V → Hp → (Hp → Prop) → Prop
def PSet (X : Cx) (t : TSet) : Prop :=
  ∀ (pins : List (Addr × Obj)) (s : Shared) (σ : St) (H : Hp) (o i v : V) (ov iv u : Value) (Q : Hp → Prop), Inv X pins σ H s → RelV o ov → RelV i iv → RelV v u → t o i v H Q →
    wpAny (model X.prog X.w) X.A (setItem ov iv u) (fun _ s' => ∃ H', Inv X pins σ H' s' ∧ Q H') X.xe s
abbrev TIp := V → V → Hp → VK → Prop
def PIp (X : Cx) (op : Operator) (t : TIp) : Prop :=
  ∀ (pins : List (Addr × Obj)) (s : Shared) (σ : St) (H : Hp) (x y : V) (v u : Value) (Q : VK), Inv X pins σ H s → RelV x v → RelV y u → t x y H Q →
    wpAny (model X.prog X.w) X.A (inplaceOp op v u) (EP X pins σ Q) X.xe s
section
variable {X : Cx} {pos : Pos}
def gName (i : Nat) : TG := fun v σ H Q => Q (σ.set i (some v)) H
theorem pg_name {i : Nat} {x : Str} (hN : X.N.Nodup) (hi : X.N[i]? = some x) (hx : Loc X.env.scope x) (hf : X.fn x = true ∨ X.env.scope.names.lookup x = some .local := by first | exact .inl rfl | exact .inr rfl | assumption) : PG X (.Name x pos) (gName i) := by
  intro pins s σ H v u Q I r h
  exact wpAny_assign_Name (store_ok I hN hi hx r (fun s' I' => ⟨_, H, I', h⟩) hf)
def gNil : TGs := fun vs σ H Q => vs = [] ∧ Q σ H
def gCons (t : TG) (u : TGs) : TGs := fun vs σ H Q => ∃ v r, vs = v :: r ∧ t v σ H fun σ' H' => u r σ' H' Q
def gTup (K : PySem.W.Frag) (n : Nat) (t : TGs) : TG := fun v σ H Q => ∃ a xs, v = .ref a ∧ SqT K H a xs ∧ xs.length = n ∧ t xs σ H Q
def gSub (to ti : TE) (t : TSet) : TG := fun v σ H Q => to σ H fun o H1 => ti σ H1 fun i H2 => t o i v H2 fun H3 => Q σ H3
def tAsg (te : TE) (g : TG) : TS := fun D σ H => te σ H fun x H1 => g x σ H1 D.nx
theorem ps_set {i : Nat} {x : Str} {e : Expr} {te : TE} {pos' : Pos} (hN : X.N.Nodup) (hi : X.N[i]? = some x) (hx : Loc X.env.scope x) (he : PE X e te) (hs : swapsWith e (some (.Name x pos')) pos.line X.env = pure false := by rfl) (hf : X.fn x = true ∨ X.env.scope.names.lookup x = some .local := by first | exact .inl rfl | exact .inr rfl | assumption) :
    PS X (.Assign [.Name x pos'] e pos) (tAsg te (gName i)) := by
  intro pins s σ H D I h
  refine wpAny_Assign_Name (thn (he pins s σ H _ I h) fun v s1 ⟨y, H1, I1, r1, q1⟩ => ?_) hs
  exact store_ok I1 hN hi hx r1 (fun s2 I2 => ⟨_, H1, I2, q1⟩) hf
def tPar (i j : Nat) (ta : TA) : TS := fun D σ H => ta σ H fun vs H1 => ∃ v w, vs = [v, w] ∧ D.nx ((σ.set i (some v)).set j (some w)) H1
def tAug (i : Nat) (te : TE) (ti : TIp) : TS := fun D σ H => ∃ x, σ[i]? = some (some x) ∧ te σ H fun y H1 => ti x y H1 fun z H2 => D.nx (σ.set i (some z)) H2
def tAugS (to ti te : TE) (tget : V → V → Hp → VK → Prop) (tip : TIp) (tset : TSet) : TS := fun D σ H => to σ H fun o H1 => ti σ H1 fun i H2 => tget o i H2 fun x H3 => te σ H3 fun y H4 => tip x y H4 fun z H5 => tset o i z H5 fun H6 => D.nx σ H6
def PGet (X : Cx) (t : V → V → Hp → VK → Prop) : Prop :=
  ∀ (pins : List (Addr × Obj)) (s : Shared) (σ : St) (H : Hp) (o i : V) (ov iv : Value) (Q : VK), Inv X pins σ H s → RelV o ov → RelV i iv → t o i H Q →
    wpAny (model X.prog X.w) X.A (getItem ov iv) (EP X pins σ Q) X.xe s
def ipI (f : Int → Int → Int) : TIp := fun x y H Q => ∃ i j, x = .int i ∧ y = .int j ∧ Q (.int (f i j)) H
end

section
variable {X : Cx} {pos : Pos}
def tWhile (c : TT) (tb : TS) : TS := fun D σ H => ∃ W : Nat → St → Hp → Prop, (∃ m, W m σ H) ∧ ∀ m σ H, W m σ H →
  c σ H fun b H1 => if b = true then ∃ N : St → Hp → Prop, (∀ σ' H', N σ' H' → ∃ m', m' < m ∧ W m' σ' H') ∧ tb { D with nx := N, ct := N, bk := D.nx } σ H1 else D.nx σ H1
end

structure It where
  go : Nat → Hp → Prop
  yld : Nat → Hp → V → Hp → Prop
  stop : Nat → Hp → Prop
def FpOk (X : Cx) (pins : List (Addr × Obj)) (H : Hp) (b : Addr) : Prop :=
  H b = none ∧ b ≠ X.env.locals ∧ b ∉ X.fs ∧ (b ∈ X.ex ∨ X.s₀.heap.objs.size ≤ b) ∧ (∀ x c, X.env.cells.lookup x = some c → c ≠ b) ∧ ∀ p ∈ X.pn ++ pins, p.1 ≠ b
theorem Inv.fpOk {X : Cx} {pins : List (Addr × Obj)} {σ : St} {H H' : Hp} {s : Shared} {b : Addr} (I : Inv X pins σ H s) (hb : s.heap.objs.size ≤ b) (hn : H' b = none) : FpOk X pins H' b := by
  refine ⟨hn, Nat.ne_of_gt (Nat.lt_of_lt_of_le I.lt hb), I.nofs hb, .inr (Nat.le_trans I.sz hb), fun x c e z => ?_, fun p hp z => ?_⟩
  · obtain ⟨v, q⟩ := I.cell x c e
    exact absurd (Nat.lt_of_lt_of_le q.lt (by rw [z]; exact hb)) (Nat.lt_irrefl _)
  · exact absurd (Nat.lt_of_lt_of_le (Heap.lt_size (I.pin p hp).1) (by rw [z]; exact hb)) (Nat.lt_irrefl _)
structure Turn (P : Program) (w : World) (K : PySem.W.Frag) (tg : Expr) (J : It) (fp : List Addr) (it : Addr) (tn : Nat → Heap → Prop) : Prop where
  mem : it ∈ fp
  obj : ∀ i h, tn i h → ∀ b ∈ fp, ∃ o, h.get? b = some o ∧ ∀ v, o.data ≠ .cell v
  keep : ∀ i h h', tn i h → (∀ b ∈ fp, ∀ o, h.get? b = some o → h'.get? b = some o) → tn i h'
  item : ∀ (X : Cx), X.prog = P → X.w = w → X.K = K → X.calm = true → ∀ (i : Nat) (pins : List (Addr × Obj)) (s : Shared) (σ : St) (H : Hp) (E : Value → Shared → Prop), Inv X pins σ H s → (∀ b ∈ fp, FpOk X pins H b) → tn i s.heap → J.go i H →
    wpAny (model P w) X.A (pyNext (.ref it)) (fun r s1 => ∃ u, r = some u ∧
      wpAny (model P w) X.A (letOwnedTupleGo tg (.ref it) u) (fun _ s2 => ∃ x H', Inv X pins σ H' s2 ∧ RelV x u ∧ J.yld i H x H' ∧ tn (i + 1) s2.heap ∧ ∀ b ∈ fp, H' b = none) E s1) E s
  done : ∀ (X : Cx), X.prog = P → X.w = w → X.K = K → X.calm = true → ∀ (i : Nat) (pins : List (Addr × Obj)) (s : Shared) (σ : St) (H : Hp) (E : Value → Shared → Prop), Inv X pins σ H s → (∀ b ∈ fp, FpOk X pins H b) → tn i s.heap → J.stop i H →
    wpAny (model P w) X.A (pyNext (.ref it)) (fun r s1 => r = none ∧ Inv X pins σ H s1) E s
  self : ∀ (A : Around) (i : Nat) (s : Shared) (Q : Value → Shared → Prop) (E : Value → Shared → Prop), tn i s.heap → Q (.ref it) s → wpAny (model P w) A (pyIter (.ref it)) Q E s
abbrev TI := St → Hp → (It → Hp → Prop) → Prop
def PIE (X : Cx) (pins : List (Addr × Obj)) (σ : St) (tg : Expr) (R : It → Hp → Prop) (itv : Value) (s2 : Shared) : Prop :=
  ∃ (it : Addr) (fp : List Addr) (tn : Nat → Heap → Prop) (J : It) (H' : Hp), itv = .ref it ∧ Inv X pins σ H' s2 ∧ Turn X.prog X.w X.K tg J fp it tn ∧ tn 0 s2.heap ∧ (∀ b ∈ fp, FpOk X pins H' b) ∧ R J H'
def PI (X : Cx) (tg iter : Expr) (wi : TI) : Prop :=
  ∀ (pins : List (Addr × Obj)) (s : Shared) (σ : St) (H : Hp) (R : It → Hp → Prop), Inv X pins σ H s → wi σ H R →
    wpAny (model X.prog X.w) X.A (eval iter X.env) (fun v s1 => wpAny (model X.prog X.w) X.A (pyIter v) (PIE X pins σ tg R) X.xe s1) X.xe s

theorem go_of {M : Model} {A : Around} {E : Value → Shared → Prop} {s : Shared} {tg : Expr} {it : Addr} {u : Value} {o : Obj} {n : String} {vs : Array Value} {Q : Unit → Shared → Prop} (ho : s.heap.get? it = some o) (hc : o.cls = .type n) (hd : o.data = .fields vs)
    (hn : ["enumerate", "zip", "dict_itemiterator", "dict_reverseitemiterator", "odict_iterator", "itertools.zip_longest", "itertools.pairwise"].contains n = false) (hQ : Q () s) : wpAny M A (letOwnedTupleGo tg (.ref it) u) Q E s := by
  unfold letOwnedTupleGo
  cases tg <;> first
    | exact wpAny_pure hQ
    | (cases u <;> first
        | exact wpAny_pure hQ
        | (refine wpAny_bind (wpAny_load ho ?_)
           rw [hc, hd]
           show wpAny M A (if (["enumerate", "zip", "dict_itemiterator", "dict_reverseitemiterator", "odict_iterator", "itertools.zip_longest", "itertools.pairwise"].contains n && vs[0]? == some (rawInt _)) = true then _ else _) Q E s
           rw [if_neg (by intro h; rw [hn, Bool.false_and] at h; cases h)]
           exact wpAny_pure hQ))

def Itl (K : PySem.W.Frag) (a : Addr) : It :=
  ⟨fun i H => ∃ xs x, SqL K H a xs ∧ xs[i]? = some x, fun i H x H' => H' = H ∧ ∀ xs, SqL K H a xs → xs[i]? = some x, fun i H => ∃ xs, SqL K H a xs ∧ xs.length ≤ i⟩
def Itt (K : PySem.W.Frag) (a : Addr) : It :=
  ⟨fun i H => ∃ xs x, SqT K H a xs ∧ xs[i]? = some x, fun i H x H' => H' = H ∧ ∀ xs, SqT K H a xs → xs[i]? = some x, fun i H => ∃ xs, SqT K H a xs ∧ xs.length ≤ i⟩
def Itr (lo : Int) (n : Nat) : It := ⟨fun i _ => i < n, fun i H x H' => H' = H ∧ x = .int (lo + i), fun i _ => n ≤ i⟩
theorem turn_list {P : Program} {w : World} {K : PySem.W.Frag} {tg : Expr} (a it : Addr) : Turn P w K tg (Itl K a) [it] it (fun i h => h.IsListIter it a i) where
  mem := by simp
  obj := fun i h st b hb => by
    have e : b = it := by simpa using hb
    subst e
    obtain ⟨o, e, c, d⟩ := st
    exact ⟨o, e, fun v z => by rw [d] at z; cases z⟩
  keep := fun i h h' st k => st.at fun o e => k it (by simp) o e
  item := by
    intro X hP hw hK hc i pins s σ H E I hf st hg
    subst hP hw hK
    obtain ⟨xs, x, hq, hx⟩ := hg
    obtain ⟨its, rv, p, hz⟩ := I.list hq
    obtain ⟨u, hu, ru⟩ := rv.get hx
    obtain ⟨f0, f1, f2, f3, f4, f5⟩ := hf it (by simp)
    refine wpAny_pyNext_list_item st p.isList (x := u) (by simpa using hu) fun h' st' sb => ?_
    have I1 : Inv X pins σ H { s with heap := h' } := I.turned (t' := s.toks) (fun b o hb e => (sb.2 b hb).trans e) f0 f1 f3 f4 f5
    obtain ⟨o, e, c, d⟩ := id st'
    exact ⟨u, rfl, go_of (s := { s with heap := h' }) e c d (by decide) ⟨x, H, I1, ru, ⟨rfl, fun ys hy => by rw [I.list_inj hy hq]; exact hx⟩, st', fun b hb => (hf b hb).1⟩⟩
  done := by
    intro X hP hw hK hc i pins s σ H E I hf st hg
    subst hP hw hK
    obtain ⟨xs, hq, hx⟩ := hg
    obtain ⟨its, rv, p, hz⟩ := I.list hq
    obtain ⟨f0, f1, f2, f3, f4, f5⟩ := hf it (by simp)
    have hl := rv.length
    exact wpAny_pyNext_list_end (I.ok.hd hc) st p.isList (by simp; omega) fun h' eb => ⟨rfl, I.turned (t' := s.toks) (fun b o hb e => eb b o hb e) f0 f1 f3 f4 f5⟩
  self := fun _ _ _ _ _ st h => wpAny_pyIter_listiter st h
theorem turn_range {P : Program} {w : World} {K : PySem.W.Frag} {tg : Expr} (it : Addr) (lo : Int) (n : Nat) : Turn P w K tg (Itr lo n) [it] it (fun i h => IsRangeIter h it (lo + (i : Nat) * 1) ((n : Int) - (i : Nat)) 1) where
  mem := by simp
  obj := fun i h st b hb => by
    have e : b = it := by simpa using hb
    subst e
    exact ⟨_, st, fun v z => by
      have z' : Data.fields _ = Data.cell v := z
      cases z'⟩
  keep := fun i h h' st k => k it (by simp) _ st
  item := by
    intro X hP hw hK hc i pins s σ H E I hf st hg
    subst hP hw hK
    obtain ⟨f0, f1, f2, f3, f4, f5⟩ := hf it (by simp)
    have W := Walks.range (prog := X.prog) (w := X.w) (I.ok.hd hc) it lo 1 n
    refine W.item i s _ _ hg st fun v h' tk hv st' kk => ?_
    obtain ⟨t, rfl⟩ := hv
    have I1 : Inv X pins σ H { s with heap := h', toks := tk } := I.turned (fun b o hb e => kk b o (by simpa using hb) e) f0 f1 f3 f4 f5
    refine ⟨_, rfl, go_of (s := { s with heap := h', toks := tk }) (n := "range_iterator") st' rfl rfl (by decide) ⟨.int (lo + i), H, I1, ⟨t, ?_⟩, ⟨rfl, rfl⟩, st', fun b hb => (hf b hb).1⟩⟩
    rw [Int.mul_one]
  done := by
    intro X hP hw hK hc i pins s σ H E I hf st hg
    subst hP hw hK
    obtain ⟨f0, f1, f2, f3, f4, f5⟩ := hf it (by simp)
    exact wpAny_pyNext_range_end (I.ok.hd hc) st (by have : n ≤ i := hg; omega) fun h' eb => ⟨rfl, I.turned (t' := s.toks) (fun b o hb e => eb b o hb e) f0 f1 f3 f4 f5⟩
  self := fun _ _ _ _ _ st h => wpAny_pyIter_rangeiter st h
end L2

namespace L2
open PySem PySem.Spec PyProof.Rows
section
variable {X : Cx} {tg : Expr}
def iList (K : PySem.W.Frag) (tl : TE) : TI := fun σ H R => tl σ H fun x H1 => ∃ a, x = .ref a ∧ (∃ xs, SqL K H1 a xs) ∧ R (Itl K a) H1
def iTup (K : PySem.W.Frag) (tl : TE) : TI := fun σ H R => tl σ H fun x H1 => ∃ a, x = .ref a ∧ (∃ xs, SqT K H1 a xs) ∧ R (Itt K a) H1
theorem pi_list {l : Expr} {tl : TE} (hl : PE X l tl) : PI X tg l (iList X.K tl) := by
  intro pins s σ H R I h
  refine thn (hl pins s σ H _ I h) fun v s1 ⟨x, H1, I1, r1, q1⟩ => ?_
  obtain ⟨a, e, ⟨xs, hq⟩, q⟩ := q1
  subst e
  cases r1
  obtain ⟨its, rv, p, hz⟩ := I1.list hq
  refine wpAny_pyIter_list p.isList ?_
  refine ⟨s1.heap.objs.size, [s1.heap.objs.size], _, _, H1, rfl, I1.kept (t' := s1.toks) fun b o e => Heap.get?_push_of_some _ e, turn_list a _, ⟨_, Heap.get?_push_size _ rfl, rfl, rfl⟩, fun b hb => ?_, q⟩
  have e : b = s1.heap.objs.size := by simpa using hb
  subst e
  exact I1.fpOk (Nat.le_refl _) (I1.hok.fresh (Nat.le_refl _))
theorem range_it {pins : List (Addr × Obj)} {σ : St} {H : Hp} {s : Shared} {R : It → Hp → Prop} {E : Value → Shared → Prop} {lo hi : Int} {t u v : Tok} {tk : Nat} (I : Inv X pins σ H s) (h1 : -(2 ^ 62) ≤ lo) (h2 : lo < 2 ^ 62) (h3 : -(2 ^ 62) ≤ hi) (h4 : hi < 2 ^ 62)
    (q : R (Itr lo (hi - lo).toNat) H) : wpAny (model X.prog X.w) X.A (pyIter (.ref s.heap.objs.size)) (PIE X pins σ tg R) E { s with heap := s.heap.push { cls := .type "range", data := .fields #[.int lo t, .int hi u, .int 1 v] }, toks := tk } := by
  refine wpAny_pyIter_range (IsRange.new ..) (small_one h1 h2 h3 h4) ?_
  have I1 : Inv X pins σ H { s with heap := s.heap.push { cls := .type "range", data := .fields #[.int lo t, .int hi u, .int 1 v] }, toks := tk } := I.kept fun b o e => Heap.get?_push_of_some _ e
  refine ⟨(s.heap.push { cls := .type "range", data := .fields #[.int lo t, .int hi u, .int 1 v] }).objs.size, [(s.heap.push { cls := .type "range", data := .fields #[.int lo t, .int hi u, .int 1 v] }).objs.size], _, _, H, rfl,
    I1.kept (t' := tk) fun b o e => Heap.get?_push_of_some _ e, turn_range _ lo (hi - lo).toNat, ?_, fun b hb => ?_, q⟩
  · have e1 : lo + ((0 : Nat) : Int) * 1 = lo := by simp
    have e2 : (((hi - lo).toNat : Nat) : Int) - ((0 : Nat) : Int) = Builtin.Range.rangeSize lo hi 1 := by rw [rangeSize_one]; split <;> omega
    show IsRangeIter _ _ (lo + ((0 : Nat) : Int) * 1) ((((hi - lo).toNat : Nat) : Int) - ((0 : Nat) : Int)) 1
    rw [e1, e2]
    exact Heap.get?_push_size _ rfl
  · have e : b = (s.heap.push { cls := .type "range", data := .fields #[.int lo t, .int hi u, .int 1 v] }).objs.size := by simpa using hb
    subst e
    exact I1.fpOk (Nat.le_refl _) (I1.hok.fresh (Nat.le_refl _))
def iRng1 (ta : TA) : TI := fun σ H R => ta σ H fun vs H1 => ∃ j : Int, vs = [.int j] ∧ -(2 ^ 62) ≤ j ∧ j < 2 ^ 62 ∧ R (Itr 0 j.toNat) H1
def iRng2 (ta : TA) : TI := fun σ H R => ta σ H fun vs H1 => ∃ i j : Int, vs = [.int i, .int j] ∧ (-(2 ^ 62) ≤ i ∧ i < 2 ^ 62 ∧ -(2 ^ 62) ≤ j ∧ j < 2 ^ 62) ∧ R (Itr i (j - i).toNat) H1
theorem pi_range1 {a : Expr} {ta : TA} {p pos : Pos} (hg : Gl X "range") (hm : X.mg "range" = none) (ha : PA X [a] ta) (hs : starEach [a] X.env = [(false, eval a X.env)] := by rfl) : PI X tg (.Call (.Name "range" p) [a] [] pos) (iRng1 ta) := by
  intro pins s σ H R I h
  refine Call_ (ld_blt I hg hm boot_range (PyProof.Rows.callWith_type1 (thn (ha pos pins s σ H _ I h) fun us s1 ⟨vs, H1, I1, r1, q1⟩ => ?_) hs rfl))
  obtain ⟨j, e, q1, q2, q⟩ := q1
  subst e
  cases r1 with
  | cons r rr =>
    cases rr
    obtain ⟨t, rfl⟩ := r
    exact call_range_1 (range_it I1 (by omega) (by omega) q1 q2 (by simpa using q))
def tFor (wi : TI) (g : TG) (tb : TS) : TS := fun D σ H => wi σ H fun J H1 => ∃ W : Nat → Nat → St → Hp → Prop, (∃ m, W 0 m σ H1) ∧ ∀ i m σ H, W i m σ H →
  (J.stop i H ∧ D.nx σ H) ∨ (J.go i H ∧ ∃ N : St → Hp → Prop, (∀ σ' H', N σ' H' → ∃ m', m' < m ∧ W (i + 1) m' σ' H') ∧ ∀ x H', J.yld i H x H' → g x σ H' fun σ2 H2 => tb { D with nx := N, ct := N, bk := D.nx } σ2 H2)
def pinsAt (fp : List Addr) (h : Heap) : List (Addr × Obj) := fp.filterMap fun b => (h.get? b).map fun o => (b, o)
theorem mem_pinsAt {fp : List Addr} {h : Heap} {b : Addr} {o : Obj} (hb : b ∈ fp) (e : h.get? b = some o) : (b, o) ∈ pinsAt fp h := List.mem_filterMap.mpr ⟨b, hb, by rw [e]; rfl⟩
theorem of_pinsAt {fp : List Addr} {h : Heap} {p : Addr × Obj} (hp : p ∈ pinsAt fp h) : p.1 ∈ fp ∧ h.get? p.1 = some p.2 := by
  obtain ⟨b, hb, e⟩ := List.mem_filterMap.mp hp
  cases q : h.get? b with
  | none => rw [q] at e; cases e
  | some o =>
    rw [q] at e
    have e' : (b, o) = p := Option.some.inj e
    subst e'
    exact ⟨hb, q⟩
theorem Inv.pinned {pins : List (Addr × Obj)} {σ : St} {H : Hp} {s : Shared} {fp : List Addr} (I : Inv X pins σ H s) (hf : ∀ b ∈ fp, FpOk X pins H b) (ho : ∀ b ∈ fp, ∃ o, s.heap.get? b = some o ∧ ∀ v, o.data ≠ .cell v) : Inv X (pins ++ pinsAt fp s.heap) σ H s :=
  I.pins_of fun p hp => (List.mem_append.mp hp).elim (fun z => I.pin p (List.mem_append_right _ z)) fun z => by
    obtain ⟨hb, e⟩ := of_pinsAt z
    obtain ⟨f0, f1, f2, _⟩ := hf p.1 hb
    obtain ⟨o, e', d⟩ := ho p.1 hb
    rw [e] at e'; cases e'
    exact ⟨e, f0, f1, f2, d⟩
theorem Inv.unpinned {pins pl : List (Addr × Obj)} {σ : St} {H : Hp} {s : Shared} (I : Inv X (pins ++ pl) σ H s) : Inv X pins σ H s := I.pins_of fun p hp => I.pin p (List.mem_append_right _ (List.mem_append_left _ hp))
theorem ps_for {iter : Expr} {body : List Stmt} {wi : TI} {g : TG} {tb : TS} {pos : Pos} (hp : PassesOwn (model X.prog X.w) X.A X.env X.xe) (hc : X.calm = true) (hi : PI X tg iter wi) (hg : PG X tg g) (hb : PSs X body tb)
    (hs : ∀ x, foldedSetIterable iter X.env x = pure x := by intro _; rfl) : PS X (.For tg iter body [] pos) (tFor wi g tb) := by
  intro pins s σ H D I h
  refine wpAny_For (thn (hi pins s σ H _ I h) fun v s1 h1 => thn h1 fun itv s2 h2 => ?_) hs
  obtain ⟨it, fp, tn, J, H2, e, I2, T, st2, f2, W, ⟨m0, w0⟩, turn⟩ := h2
  subst e
  -- what stays true of the iterator's objects through the loop
  have stat : ∀ {H' : Hp}, (∀ b ∈ fp, H' b = none) → ∀ b ∈ fp, FpOk X pins H' b := fun hn b hb => ⟨hn b hb, (f2 b hb).2⟩
  refine codeAny_forLoop_any (fun n s' => ∃ i σ' H', Inv X pins σ' H' s' ∧ tn i s'.heap ∧ (∀ b ∈ fp, H' b = none) ∧ W i n σ' H') ?_ m0 ⟨0, σ, H2, I2, st2, fun b hb => (f2 b hb).1, w0⟩
  rintro n s3 ⟨i, σ3, H3, I3, st3, fr3, w3⟩
  rcases turn i n σ3 H3 w3 with ⟨stop, qn⟩ | ⟨go, N, hN, step⟩
  · refine wpAny_passesOwn hp (thn (T.done X rfl rfl rfl hc i pins s3 σ3 H3 X.xe I3 (stat fr3) st3 stop) fun r s4 ⟨hr, I4⟩ => ?_)
    subst hr
    exact wpAny_execs_nil ⟨σ3, H3, I4, qn⟩
  · refine wpAny_passesOwn hp (thn (T.item X rfl rfl rfl hc i pins s3 σ3 H3 X.xe I3 (stat fr3) st3 go) fun r s4 ⟨u, hr, h4⟩ => ?_)
    subst hr
    refine wpAny_passesOwn hp (thn h4 fun _ s5 ⟨x, H5, I5, r5, y5, st5, fr5⟩ => ?_)
    have I5' := I5.pinned (stat fr5) (T.obj _ _ st5)
    refine wpAny_passesOwn hp (thn (hg _ s5 σ3 H5 x u _ I5' r5 (step x H5 y5)) fun _ s6 ⟨σ6, H6, I6, q6⟩ => ?_)
    refine wpAny_passesOwn hp (thn (hb _ s6 σ6 H6 _ I6 q6) fun f s7 q7 => ?_)
    have again : ∀ {σ7 : St} {H7 : Hp}, Inv X (pins ++ pinsAt fp s5.heap) σ7 H7 s7 → N σ7 H7 → ∃ m, m < n ∧ ∃ i σ' H', Inv X pins σ' H' s7 ∧ tn i s7.heap ∧ (∀ b ∈ fp, H' b = none) ∧ W i m σ' H' := fun {σ7 H7} I7 n7 => by
      obtain ⟨m', hm, w7⟩ := hN σ7 H7 n7
      refine ⟨m', hm, i + 1, σ7, H7, I7.unpinned, T.keep _ _ _ st5 fun b hb o e => (I7.pin (b, o) (List.mem_append_right _ (List.mem_append_right _ (mem_pinsAt hb e)))).1, fun b hb => ?_, w7⟩
      obtain ⟨o, e, d⟩ := T.obj _ _ st5 b hb
      exact (I7.pin (b, o) (List.mem_append_right _ (List.mem_append_right _ (mem_pinsAt hb e)))).2.1
    cases f with
    | next => obtain ⟨σ7, H7, I7, n7⟩ := q7; exact again I7 n7
    | cont => obtain ⟨σ7, H7, I7, n7⟩ := q7; exact again I7 n7
    | brk => obtain ⟨σ7, H7, I7, q7⟩ := q7; exact ⟨σ7, H7, I7.unpinned, q7⟩
    | ret v => obtain ⟨x7, σ7, H7, I7, r7, q7⟩ := q7; exact ⟨x7, σ7, H7, I7.unpinned, r7, q7⟩
end

end L2

namespace L2
open PySem PySem.Spec PyProof.Rows

abbrev R2 := V → V → Hp → VK → Prop
def OpR (X : Cx) (f : Value → Value → Sem Value) (r : R2) : Prop :=
  ∀ (pins : List (Addr × Obj)) (s : Shared) (σ : St) (H : Hp) (x y : V) (v u : Value) (Q : VK), Inv X pins σ H s → RelV x v → RelV y u → r x y H Q →
    wpAny (model X.prog X.w) X.A (f v u) (EP X pins σ Q) X.xe s
def UnR (X : Cx) (f : Value → Sem Value) (r : V → Hp → VK → Prop) : Prop :=
  ∀ (pins : List (Addr × Obj)) (s : Shared) (σ : St) (H : Hp) (x : V) (v : Value) (Q : VK), Inv X pins σ H s → RelV x v → r x H Q →
    wpAny (model X.prog X.w) X.A (f v) (EP X pins σ Q) X.xe s
def CallR (X : Cx) (f : Value) (r : List V → Hp → VK → Prop) : Prop :=
  ∀ (pins : List (Addr × Obj)) (s : Shared) (σ : St) (H : Hp) (xs : List V) (us : List Value) (Q : VK), Inv X pins σ H s → Vals xs us → r xs H Q →
    wpAny (model X.prog X.w) X.A (call f us) (EP X pins σ Q) X.xe s
def TruR (X : Cx) (r : V → Hp → (Bool → Hp → Prop) → Prop) : Prop :=
  ∀ (pins : List (Addr × Obj)) (s : Shared) (σ : St) (H : Hp) (x : V) (v : Value) (Q : Bool → Hp → Prop), Inv X pins σ H s → RelV x v → r x H Q →
    wpAny (model X.prog X.w) X.A (truthy v) (TP X pins σ Q) X.xe s

def tOp (r : R2) (ta tb : TE) : TE := fun σ H Q => ta σ H fun x H1 => tb σ H1 fun y H2 => r x y H2 Q
def tUn (r : V → Hp → VK → Prop) (ta : TE) : TE := fun σ H Q => ta σ H fun x H1 => r x H1 Q
def rI (C : Int → Int → Prop) (g : Int → Int → V) : R2 := fun x y H Q => ∃ i j, x = .int i ∧ y = .int j ∧ C i j ∧ Q (g i j) H
def rI0 (g : Int → Int → V) : R2 := fun x y H Q => ∃ i j, x = .int i ∧ y = .int j ∧ Q (g i j) H
def rU (g : Int → V) : V → Hp → VK → Prop := fun x H Q => ∃ i, x = .int i ∧ Q (g i) H

section
variable {X : Cx} {a b c : Expr} {ta tb tc : TE} {pos : Pos}

theorem binT (ha : PE X a ta) (hb : PE X b tb) {pins : List (Addr × Obj)} {s : Shared} {σ : St} {H : Hp} {R : V → V → Hp → Prop} (I : Inv X pins σ H s)
    (h : ta σ H fun x H1 => tb σ H1 fun y H2 => R x y H2) {Q : Value → Shared → Prop} {f : Value → Value → Sem Value}
    (hf : ∀ v u s2 x y H2, Inv X pins σ H2 s2 → RelV x v → RelV y u → R x y H2 → wpAny (model X.prog X.w) X.A (f v u) Q X.xe s2) :
    wpAny (model X.prog X.w) X.A (eval a X.env) (fun v s₁ => wpAny (model X.prog X.w) X.A (eval b X.env) (fun u s₂ => wpAny (model X.prog X.w) X.A (f v u) Q X.xe s₂) X.xe s₁) X.xe s := by
  refine thn (ha pins s σ H _ I h) fun v s1 ⟨x, H1, I1, r1, q1⟩ => ?_
  refine thn (hb pins s1 σ H1 _ I1 q1) fun u s2 ⟨y, H2, I2, r2, q2⟩ => ?_
  exact hf v u s2 x y H2 I2 r1 r2 q2

theorem pe_op {op : Operator} {r : R2} (ho : OpR X (binaryOp op) r) (ha : PE X a ta) (hb : PE X b tb) : PE X (.BinOp a op b pos) (tOp r ta tb) := by
  intro pins s σ H Q I h
  exact wpAny_BinOp (binT ha hb I h fun v u s2 x y H2 I2 rx ry q => ho pins s2 σ H2 x y v u Q I2 rx ry q)
theorem opI {f : Value → Value → Sem Value} {C : Int → Int → Prop} {g : Int → Int → Int}
    (rule : ∀ (i j : Int) (t u : Tok) (s : Shared) (Q : Value → Shared → Prop) (E : Value → Shared → Prop), C i j → Q (.int (g i j) s.toks) { s with toks := s.toks + 1 } → wpAny (model X.prog X.w) X.A (f (.int i t) (.int j u)) Q E s) :
    OpR X f (rI C fun i j => .int (g i j)) := by
  intro pins s σ H x y v u Q I rx ry h
  obtain ⟨i, j, rfl, rfl, hc, q⟩ := h
  obtain ⟨t, rfl⟩ := rx
  obtain ⟨t', rfl⟩ := ry
  exact rule i j t t' s _ _ hc ⟨.int (g i j), H, I.tok _, ⟨_, rfl⟩, q⟩
theorem opI0 {f : Value → Value → Sem Value} {g : Int → Int → Int}
    (rule : ∀ (i j : Int) (t u : Tok) (s : Shared) (Q : Value → Shared → Prop) (E : Value → Shared → Prop), Q (.int (g i j) s.toks) { s with toks := s.toks + 1 } → wpAny (model X.prog X.w) X.A (f (.int i t) (.int j u)) Q E s) :
    OpR X f (rI0 fun i j => .int (g i j)) := by
  intro pins s σ H x y v u Q I rx ry h
  obtain ⟨i, j, rfl, rfl, q⟩ := h
  obtain ⟨t, rfl⟩ := rx
  obtain ⟨t', rfl⟩ := ry
  exact rule i j t t' s _ _ ⟨.int (g i j), H, I.tok _, ⟨_, rfl⟩, q⟩
def CDiv (i j : Int) : Prop := 0 < j ∧ j < 1073741824
def CDivN (i j : Int) : Prop := j ≠ 0 ∧ j.natAbs < 1073741824
def CPow (i j : Int) : Prop := 0 ≤ j ∧ j ≤ 1000000 ∧ i.natAbs < 2 ^ 64
def CMul (i j : Int) : Prop := (-(2 ^ 64) < i ∧ i < 2 ^ 64) ∨ (-(2 ^ 64) < j ∧ j < 2 ^ 64)
theorem CMul.ok {i j : Int} (h : CMul i j) : IntMulOk i j := by
  rcases h with ⟨h1, h2⟩ | ⟨h1, h2⟩
  · exact .of_left (intBits_le_64 h1 h2)
  · exact .of_right (intBits_le_64 h1 h2)
theorem op_add : OpR X (binaryOp .Add) (rI0 fun i j => .int (i + j)) := opI0 fun _ _ _ _ _ _ _ q => add_int q
theorem op_sub : OpR X (binaryOp .Sub) (rI0 fun i j => .int (i - j)) := opI0 fun _ _ _ _ _ _ _ q => sub_int q
theorem op_modN : OpR X (binaryOp .Mod) (rI (fun _ j => j ≠ 0) fun i j => .int (i.fmod j)) := opI fun _ _ _ _ _ _ _ hc q => mod_int' hc q
theorem op_pow : OpR X (binaryOp .Pow) (rI CPow fun i j => .int (i ^ j.toNat)) := opI fun _ _ _ _ _ _ _ hc q => pow_int_small hc.1 hc.2.1 hc.2.2 q
end

def scal : V → V → Bool
  | .non, .non => true | .non, .int _ => true | .int _, .non => true | .non, .bl _ => true | .bl _, .non => true | .non, .str _ => true | .str _, .non => true
  | .int _, .int _ => true | .bl _, .bl _ => true | .str _, .str _ => true | .byt _, .byt _ => true
  | .int _, .str _ => true | .str _, .int _ => true | .bl _, .str _ => true | .str _, .bl _ => true
  | _, _ => false
def rEq : R2 := fun x y H Q => scal x y = true ∧ Q (.bl (decide (x = y))) H
def rNe : R2 := fun x y H Q => scal x y = true ∧ Q (.bl (!decide (x = y))) H

section
variable {X : Cx} {a b c : Expr} {ta tb tc : TE} {pos : Pos}
theorem fin_bl {pins : List (Addr × Obj)} {σ : St} {H : Hp} {s : Shared} {Q : VK} {k k' : Bool} (I : Inv X pins σ H s) (q : Q (.bl k) H) (e : k = k') : EP X pins σ Q (.bool k') s := by
  subst e
  exact ⟨.bl k, H, I, rfl, q⟩
theorem op_isN : OpR X (compareOp .Is) (fun x y H Q => y = .non ∧ Q (.bl (decide (x = .non))) H) := by
  intro pins s σ H x y v u Q I rx ry h
  obtain ⟨rfl, q⟩ := h
  cases ry
  refine is_none_gen (fin_bl I q ?_)
  cases x <;> first
    | (cases rx; rfl)
    | (obtain ⟨t, rfl⟩ := rx; rfl)
theorem op_notN : OpR X (compareOp .IsNot) (fun x y H Q => y = .non ∧ Q (.bl (!decide (x = .non))) H) := by
  intro pins s σ H x y v u Q I rx ry h
  obtain ⟨rfl, q⟩ := h
  cases ry
  refine isnot_none_gen (fin_bl I q ?_)
  cases x <;> first
    | (cases rx; rfl)
    | (obtain ⟨t, rfl⟩ := rx; rfl)

def isObj : HO → Bool
  | .lst _ => true
  | .ins _ _ _ => true
  | _ => false
theorem OpR.or {f : Value → Value → Sem Value} {r r' : R2} (h : OpR X f r) (h' : OpR X f r') : OpR X f (fun x y H Q => r x y H Q ∨ r' x y H Q) := by
  intro pins s σ H x y v u Q I rx ry q
  rcases q with q | q
  · exact h pins s σ H x y v u Q I rx ry q
  · exact h' pins s σ H x y v u Q I rx ry q

theorem nomark (b : Expr) {op : CmpOp} (h : op ≠ .In := by decide) (h2 : op ≠ .NotIn := by decide) : behindInMarks op b = false := by
  have e1 : (op == CmpOp.In) = false := by cases op <;> first | rfl | exact absurd rfl h
  have e2 : (op == CmpOp.NotIn) = false := by cases op <;> first | rfl | exact absurd rfl h2
  cases b <;> simp [behindInMarks, e1, e2]
theorem pe_cmpR {op : CmpOp} {r : R2} (ho : OpR X (compareOp op) r) (ha : PE X a ta) (hb : PE X b tb) (hm : behindInMarks op b = false) : PE X (.Compare a [op] [b] pos) (tOp r ta tb) := by
  intro pins s σ H Q I h
  exact wpAny_Compare1 (binT ha hb I h fun v u s2 x y H2 I2 rx ry q => ho pins s2 σ H2 x y v u Q I2 rx ry q) hm
def tTest (t : TE) : TT := fun σ H Q => t σ H fun x H' => ∃ k, x = .bl k ∧ Q k H'
theorem pt_cmpR {op : CmpOp} {r : R2} (ho : OpR X (compareOp op) r) (ha : PE X a ta) (hb : PE X b tb) (hm : behindInMarks op b = false) : PT X (.Compare a [op] [b] pos) (tTest (tOp r ta tb)) := by
  intro pins s σ H Q I h
  refine wpAny_isTrue_Compare1 (thn (ha pins s σ H _ I h) fun v s1 ⟨x, H1, I1, r1, q1⟩ => thn (hb pins s1 σ H1 _ I1 q1) fun u s2 ⟨y, H2, I2, r2, q2⟩ =>
    thn (ho pins s2 σ H2 x y v u _ I2 r1 r2 q2) fun c s3 ⟨z, H3, I3, r3, k, e, q3⟩ => ?_) hm
  subst e
  cases r3
  exact wpAny_truthy_bool ⟨H3, I3, q3⟩
def tChain (r r' : R2) (ta tb tc : TE) : TE := fun σ H Q => ta σ H fun x H1 => tb σ H1 fun y H2 => r x y H2 fun z H3 => ∃ k, z = .bl k ∧
  (if k = true then tc σ H3 fun w' H4 => r' y w' H4 Q else Q (.bl false) H3)
def TruV (K : PySem.W.Frag) (x : V) (H : Hp) (k : Bool) : Prop :=
  match x with
  | .non => k = false
  | .bl b => k = b
  | .int i => k = (i != 0)
  | .str y => y.length ≤ sizeLine ∧ k = ((y.length : Int) != 0)
  | .byt y => y.size ≤ sizeLine ∧ k = ((y.size : Int) != 0)
  | .ref p => (∃ xs, SqL K H p xs ∧ k = !xs.isEmpty) ∨ (∃ xs, SqT K H p xs ∧ k = !xs.isEmpty) ∨ ∃ kvs, H p = some (.dK kvs) ∧ k = !kvs.isEmpty
  | _ => False
theorem line63 : (sizeLine : Nat) < 2 ^ 63 := by rw [sizeLine_eq]; decide
theorem op_add_str : OpR X (binaryOp .Add) (fun x y H Q => ∃ i j, x = .str i ∧ y = .str j ∧ i.length + j.length ≤ sizeLine ∧ Q (.str (i ++ j)) H) := by
  intro pins s σ H x y v u Q I rx ry h
  obtain ⟨i, j, rfl, rfl, hz, q⟩ := h
  obtain ⟨t, rfl⟩ := rx
  obtain ⟨t', rfl⟩ := ry
  exact add_str (fun t' tk => ⟨.str (i ++ j), H, I.tok _, ⟨_, rfl⟩, q⟩) hz
def PlainIxT (b : Expr) : Prop := ∀ o i, subscripted b false o i = operate [o, i] (getItem o i)
theorem vals1 {x : V} {us : List Value} (r : Vals [x] us) : ∃ u, us = [u] ∧ RelV x u := by
  cases r with
  | cons r1 r2 => cases r2; exact ⟨_, rfl, r1⟩
theorem vals2 {x y : V} {us : List Value} (r : Vals [x, y] us) : ∃ u w', us = [u, w'] ∧ RelV x u ∧ RelV y w' := by
  cases r with
  | cons r1 r2 =>
    cases r2 with
    | cons r3 r4 => cases r4; exact ⟨_, _, rfl, r1, r3⟩
theorem call_max2 (hc : X.calm = true) : CallR X (.builtin "max") (fun xs H Q => ∃ i j, xs = [.int i, .int j] ∧ Q (.int (if j > i then j else i)) H) := by
  intro pins s σ H xs us Q I r h
  obtain ⟨i, j, rfl, q⟩ := h
  obtain ⟨u, w', rfl, ⟨t, rfl⟩, ⟨t', rfl⟩⟩ := vals2 r
  refine max_two_ints (I.ok.hd hc) fun h' tk k => ⟨_, H, I.kept k, ?_, q⟩
  by_cases hj : j > i
  · rw [if_pos hj, if_pos hj]; exact ⟨_, rfl⟩
  · rw [if_neg hj, if_neg hj]; exact ⟨_, rfl⟩
def LenV (K : PySem.W.Frag) (x : V) (H : Hp) (n : Nat) : Prop :=
  match x with
  | .str y => y.length ≤ sizeLine ∧ n = y.length
  | .byt y => y.size ≤ sizeLine ∧ n = y.size
  | .ref p => (∃ xs, SqL K H p xs ∧ n = xs.length) ∨ ∃ xs, SqT K H p xs ∧ n = xs.length
  | _ => False
end
end L2

namespace L2
open PySem PySem.Spec PyProof.Rows

structure ObjM (h : Heap) (x dx C : Addr) (mA : Str → Option Value) : Prop where
  obj : h.get? x = some (PySem.W.instObj C dx)
  ns : h.Ns1 dx mA
  ne : dx ≠ x

theorem lookIn_ns {h : Heap} {dx : Addr} {mA : Str → Option Value} (n : h.Ns1 dx mA) : ∃ od, h.get? dx = some od ∧ ∀ name, PySem.W.lookIn name od = some (mA name) := by
  obtain ⟨o, es, ep, ho, hd, hk, _, hm⟩ := n
  refine ⟨o, ho, fun name => ?_⟩
  have e := hm name
  unfold nsFind findBy at e
  rw [← Array.find?_toList] at e
  unfold PySem.W.lookIn
  rw [hd]
  dsimp only
  split
  · rename_i y q
    rw [q] at e
    exact congrArg some e
  · rename_i q
    rw [q] at e
    have a : es.toList.any (·.refKey) = false := by
      rw [List.any_eq_false]
      intro y hy
      obtain ⟨z, t, hkey⟩ := hk y (Array.mem_toList_iff.mp hy)
      simp [DictEntry.refKey, hkey]
    have a' : ¬ es.toList.any (·.refKey) = true := by rw [a]; exact Bool.false_ne_true
    rw [if_neg a']
    exact congrArg some e

theorem ObjM.look {h : Heap} {x dx C : Addr} {mA : Str → Option Value} (I : ObjM h x dx C mA) : ∃ od, PySem.W.InstAt h x (PySem.W.instObj C dx) C (some od) ∧ ∀ name, PySem.W.lookIn name od = some (mA name) :=
  let ⟨od, ho, hl⟩ := lookIn_ns I.ns
  ⟨od, ⟨I.obj, rfl, rfl, ho⟩, hl⟩

section
variable {prog : Program} {w : World} {A : Around} {E : Value → Shared → Prop} {s : Shared} {K : PySem.W.Frag} {x dx C f : Addr} {mA : Str → Option Value} {name : Str} {v : Value}

end

def putF (f : Str) (v : V) : List (Str × V) → List (Str × V)
  | [] => [(f, v)]
  | (g, x) :: r => if g = f then (g, v) :: r else (g, x) :: putF f v r
section
variable {P : Program} {w : World} {H H' : Hp} {h h' : Heap} {a C dx : Addr} {fs fs' : List (Str × V)}
theorem ins_get (hok : HOk P w H h) (e : H a = some (.ins C dx fs)) : ∃ mA, ObjM h a dx C mA ∧ (∀ f, RelO (fs.lookup f) (mA f)) ∧ PySem.Within mA (fs.map (·.1)) ∧ fs.length ≤ 1000 ∧ H dx = some (.own a) := by
  obtain ⟨d, z, ne, ob, mA, n, r, q⟩ := (show ObjOk P w H h a (.ins C dx fs) from hok a _ e)
  exact ⟨mA, ⟨ob, n, ne⟩, r, q, z, d⟩
end

structure Cls (K : PySem.W.Frag) (C : Addr) : Prop where
  pg : PySem.W.plainGet K C Str.empty = true
  hd : PySem.W.hasDictIn K C = true
  po : PySem.W.plainOver K C = true
  sa : PySem.W.findIn K (.ref C) "__setattr__" = some (some (.builtin "object.__setattr__"))
theorem Cls.get {K : PySem.W.Frag} {C : Addr} (c : Cls K C) (f : Str) : PySem.W.plainGet K C f = true := c.pg
def NoAttr (K : PySem.W.Frag) (C : Addr) (f : Str) : Prop := PySem.W.findIn K (.ref C) f = some none
structure Con (K : PySem.W.Frag) (C : Addr) (f : Str) (v : V) (u : Value) : Prop where
  at_ : PySem.W.findIn K (.ref C) f = some (some u)
  rel : RelV v u
  get : PySem.W.specialIn K u "__get__" = some none
  cp : PySem.W.copiedNames.contains f = false
structure Meth (K : PySem.W.Frag) (C : Addr) (m : Str) (f : Addr) : Prop where
  at_ : PySem.W.findIn K (.ref C) m = some (some (.ref f))
  fn : PySem.W.isFn K (.ref f) = true
  kp : PySem.W.keepIn K (.ref f) = true

section
variable {X : Cx} {pins : List (Addr × Obj)} {σ : St} {H : Hp} {s : Shared} {a C dx : Addr} {fs : List (Str × V)} {f : Str} {v : V} {A : Around} {E : Value → Shared → Prop}

end

def tFld (K : PySem.W.Frag) (ta : TE) (f : Str) : TE := fun σ H Q => ta σ H fun x H1 => ∃ a C dx fs v, x = .ref a ∧ H1 a = some (.ins C dx fs) ∧ Cls K C ∧ NoAttr K C f ∧ fs.lookup f = some v ∧ Q v H1
def tCon (K : PySem.W.Frag) (ta : TE) (f : Str) : TE := fun σ H Q => ta σ H fun x H1 => ∃ a C dx fs v u, x = .ref a ∧ H1 a = some (.ins C dx fs) ∧ Cls K C ∧ Con K C f v u ∧ fs.lookup f = none ∧ Q v H1
def sFld (K : PySem.W.Frag) (ta tv : TE) (f : Str) : TS := fun D σ H => tv σ H fun y H1 => ta σ H1 fun x H2 => ∃ a C dx fs, x = .ref a ∧ H2 a = some (.ins C dx fs) ∧ Cls K C ∧ NoAttr K C f ∧ fs.length < 1000 ∧
  D.nx σ (upd H2 a (.ins C dx (putF f y fs)))
def InOp (X : Cx) (op : Operator) (rd : V → V → Hp → VK → Prop) : Prop :=
  ∀ (pins : List (Addr × Obj)) (s : Shared) (σ : St) (H : Hp) (x y : V) (u v : Value) (Q : VK), Inv X pins σ H s → RelV x u → RelV y v → rd x y H Q → wpAny (model X.prog X.w) X.A (inplaceOp op u v) (EP X pins σ Q) X.xe s
def sFldAug (K : PySem.W.Frag) (ta tv : TE) (rd : V → V → Hp → VK → Prop) (f : Str) : TS := fun D σ H => ta σ H fun x H1 => ∃ a C dx fs v, x = .ref a ∧ H1 a = some (.ins C dx fs) ∧ Cls K C ∧ NoAttr K C f ∧ fs.lookup f = some v ∧
  tv σ H1 fun y H2 => rd v y H2 fun z H3 => ∃ dx' fs', H3 a = some (.ins C dx' fs') ∧ fs'.length < 1000 ∧ D.nx σ (upd H3 a (.ins C dx' (putF f z fs')))

section
variable {X : Cx} {o e value : Expr} {f : Str} {pos pos' tpos : Pos} {ta tv : TE}
def rAdd : V → V → Hp → VK → Prop := fun x y H Q => ∃ i j, x = .int i ∧ y = .int j ∧ Q (.int (i + j)) H
def rSub : V → V → Hp → VK → Prop := fun x y H Q => ∃ i j, x = .int i ∧ y = .int j ∧ Q (.int (i - j)) H
end

section
variable {X : Cx} {pins : List (Addr × Obj)} {σ : St} {H : Hp} {s : Shared} {A : Around} {E : Value → Shared → Prop} {Q : Value → Shared → Prop} {c : Value} {b : Bool}
inductive TyOf (K : PySem.W.Frag) (H : Hp) : V → Value → Prop where
  | non : TyOf K H .non (.type "NoneType")
  | bl (x : Bool) : TyOf K H (.bl x) (.type "bool")
  | int (i : Int) : TyOf K H (.int i) (.type "int")
  | str (x : Str) : TyOf K H (.str x) (.type "str")
  | flt (x : UInt64) : TyOf K H (.flt x) (.type "float")
  | lst {a : Addr} {xs : List V} (e : H a = some (.lst xs)) : TyOf K H (.ref a) (.type "list")
  | frz {a : Addr} {o : Obj} {xs : List V} (e : H a = some (.frz o (.lst xs))) : TyOf K H (.ref a) (.type "list")
  | tup {a : Addr} {xs : List V} (e : H a = some (.tup xs)) : TyOf K H (.ref a) (.type "tuple")
  | dK {a : Addr} {kvs : List (Key × V)} (e : H a = some (.dK kvs)) : TyOf K H (.ref a) (.type "dict")
  | dT {a : Addr} {kvs : List (List Key × V)} (e : H a = some (.dT kvs)) : TyOf K H (.ref a) (.type "dict")
  | ins {a C dx : Addr} {fs : List (Str × V)} (e : H a = some (.ins C dx fs)) (cl : Cls K C) (ha : PySem.W.findIn K (.ref C) "__class__" = some (some (.builtin "object.__class__")))
      (hn : PySem.W.specialIn K (.builtin "object.__class__") "__get__" = some (some (.builtin "getset_descriptor.__get__"))) (htk : PySem.W.takesIn K (.builtin "object.__class__") = some true)
      (hm : PySem.W.mroIn K C (.type "object") = some true) : TyOf K H (.ref a) (.ref C)
theorem isinst_ok {x : V} {u t : Value} (I : Inv X pins σ H s) (rx : RelV x u) (ty : TyOf X.K H x t) (e : PySem.W.kitOne X.K t c = some b) (h : ∀ tk, Q (.bool b) { s with toks := tk }) :
    wpAny (model X.prog X.w) A (call (.builtin "isinstance") [u, c]) Q E s := by
  cases ty with
  | non => cases (show u = Value.none from rx); exact PySem.W.kia_one PySem.W.kitx_none I.kIn True.intro e (fun z => nomatch z) h
  | bl y => cases (show u = Value.bool y from rx); exact PySem.W.kia_one PySem.W.kitx_bool I.kIn True.intro e (fun z => nomatch z) h
  | int i => obtain ⟨t, q⟩ := (show ∃ t, u = Value.int i t from rx); cases q; exact PySem.W.kia_one PySem.W.kitx_int I.kIn True.intro e (fun z => nomatch z) h
  | str y => obtain ⟨t, q⟩ := (show ∃ t, u = Value.str y t from rx); cases q; exact PySem.W.kia_one PySem.W.kitx_str I.kIn True.intro e (fun z => nomatch z) h
  | flt y => obtain ⟨t, q⟩ := (show ∃ t, u = Value.float y t from rx); cases q; exact PySem.W.kia_one PySem.W.kitx_float I.kIn True.intro e (fun z => nomatch z) h
  | @lst a xs ea =>
    cases (show u = Value.ref a from rx)
    obtain ⟨_, _, n, _, h1⟩ := (show ObjOk X.prog X.w H s.heap a (.lst xs) from I.hok a _ ea)
    exact PySem.W.kia_one PySem.W.kitx_list I.kIn ⟨_, h1, rfl⟩ e (fun z => nomatch z) h
  | @frz a ob xs ea =>
    cases (show u = Value.ref a from rx)
    obtain ⟨_, _, _, n, _, h1⟩ := (show ObjOk X.prog X.w H s.heap a (.frz ob (.lst xs)) from I.hok a _ ea)
    exact PySem.W.kia_one PySem.W.kitx_list I.kIn ⟨_, h1, rfl⟩ e (fun z => nomatch z) h
  | @tup a xs ea =>
    cases (show u = Value.ref a from rx)
    obtain ⟨_, _, _, p⟩ := (show ObjOk X.prog X.w H s.heap a (.tup xs) from I.hok a _ ea)
    obtain ⟨o, h1, h2, _⟩ := p
    exact PySem.W.kia_one PySem.W.kitx_tuple I.kIn ⟨o, h1, h2⟩ e (fun z => nomatch z) h
  | @dK a kvs ea =>
    cases (show u = Value.ref a from rx)
    obtain ⟨_, _, vs, _, p⟩ := (show ObjOk X.prog X.w H s.heap a (.dK kvs) from I.hok a _ ea)
    obtain ⟨o, es, ep, h1, h2, _⟩ := p
    exact PySem.W.kia_one PySem.W.kitx_dict I.kIn ⟨o, h1, h2.1⟩ e (fun z => nomatch z) h
  | @dT a kvs ea =>
    cases (show u = Value.ref a from rx)
    obtain ⟨_, _, xs, _, o, es, ep, h1, h2, _⟩ := (show ObjOk X.prog X.w H s.heap a (.dT kvs) from I.hok a _ ea)
    exact PySem.W.kia_one PySem.W.kitx_dict I.kIn ⟨o, h1, h2.1⟩ e (fun z => nomatch z) h
  | @ins a C dx fs ea cl ha hn htk hm =>
    cases (show u = Value.ref a from rx)
    obtain ⟨mA, O, _⟩ := ins_get I.hok ea
    obtain ⟨od, J, _⟩ := O.look
    exact PySem.W.kia_one (PySem.W.kitx_own (cl.get _) cl.hd ha hn htk hm) I.kIn J e (fun z => nomatch z) h
end
end L2

namespace L2
open PySem PySem.Spec PyProof.Rows

structure Room (k : Nat) (A : Around) : Prop where
  hd : A.handled = none
  dp : A.depth + 3 * k + 5 < recursionLimit
  un : A.units + 16 * k + 200 < cLine
theorem Room.mono {j k : Nat} {A : Around} (r : Room k A) (h : j ≤ k) : Room j A := ⟨r.hd, by have := r.dp; omega, by have := r.un; omega⟩
theorem Room.deeper {k : Nat} {A : Around} (r : Room (k + 1) A) (env : Env) : Room k (A.deeper env) :=
  ⟨r.hd, by have := r.dp; show A.depth + 1 + 3 * k + 5 < _; omega, by have := r.un; show A.units + 3 + 16 * k + 200 < _; omega⟩
theorem Room.in1 {k : Nat} {A : Around} (r : Room (k + 1) A) : Room k A.in1 :=
  ⟨r.hd, by have := r.dp; show A.depth + 3 * k + 5 < _; omega, by have := r.un; show A.units + 1 + 16 * k + 200 < _; omega⟩
theorem Room.depth {k : Nat} {A : Around} (r : Room k A) : A.depth < recursionLimit := by have := r.dp; omega
theorem Room.units {k : Nat} {A : Around} (r : Room k A) : A.units + 64 < cLine := by have := r.un; omega
def tNil : TA := fun _ H Q => Q [] H
def tCons (ta : TE) (tr : TA) : TA := fun σ H Q => ta σ H fun x H1 => tr σ H1 fun xs H2 => Q (x :: xs) H2
section
variable {X : Cx} {e : Expr} {es : List Expr} {te : TE} {t : TA} {pos : Pos}
theorem pa_nil : PA X [] tNil := fun _ _ _ _ H Q I h => Calls.spliced_nil ⟨[], H, I, .nil, h⟩
theorem pa_cons (ha : PE X e te) (hr : PA X es t) (hs : starEach (e :: es) X.env = (false, eval e X.env) :: starEach es X.env := by rfl) : PA X (e :: es) (tCons te t) := by
  intro pos pins s σ H Q I h
  rw [hs]
  show wpAny _ _ (spliced ((false, eval e X.env) :: backTo pos (starEach es X.env))) _ _ s
  refine Calls.spliced_cons (thn (ha pins s σ H _ I h) fun u s1 ⟨x, H1, I1, r1, q1⟩ => ?_)
  exact thn (hr pos pins s1 σ H1 _ I1 q1) fun us s2 ⟨xs, H2, I2, r2, q2⟩ => ⟨x :: xs, H2, I2, .cons r1 r2, q2⟩

def tTup (t : TA) : TE := fun σ H Q => t σ H fun xs H1 => xs.length ≤ sizeLine ∧ ∀ p, H1 p = none → Q (.ref p) (upd H1 p (.tup xs))
def tLst (t : TA) : TE := fun σ H Q => t σ H fun xs H1 => xs.length ≤ sizeLine ∧ ∀ p, H1 p = none → Q (.ref p) (upd H1 p (.lst xs))
theorem pe_lst (h : PA X es t) : PE X (.List es pos) (tLst t) := by
  intro pins s σ H Q I hq
  refine wpAny_List_spliced (thn (h pos pins s σ H _ I hq) fun us s1 ⟨xs, H1, I1, r, z, q⟩ => ⟨by rw [← r.length]; exact z, ?_⟩)
  have hf : H1 s1.heap.objs.size = none := I1.hok.fresh (Nat.le_refl _)
  refine ⟨.ref s1.heap.objs.size, upd H1 s1.heap.objs.size (.lst xs), I1.laid (t' := s1.toks) (fun b u e => Heap.get?_push_of_some _ e) (Nat.le_refl _) ?_, rfl, q _ hf⟩
  exact ⟨z, us, 0, r, Heap.get?_push_size _ rfl⟩
end

abbrev Sp := List V → Hp → VK → XK → Prop
abbrev CXT := List Env → Hp → Shared → XK → Value → Shared → Prop

structure Env0 (P : Program) (w : World) (K : PySem.W.Frag) (mg : Str → Option Value) (base : Heap) (A : Around) (outer : List Env) (s : Shared) (H : Hp) : Prop where
  frames : A.frames = some outer
  mod : Mod K mg base
  bs : ∀ b o, base.get? b = some o → s.heap.get? b = some o ∧ H b = none
  bsz : base.objs.size ≤ s.heap.objs.size
  funs : s.heap.FunFrames base outer
  frf : ∀ b ∈ frs outer, H b = none
  hok : HOk P w H s.heap
  bare : AllBare s.gens
def CE (outer : List Env) (P : Program) (w : World) (H : Hp) (s : Shared) (Q : VK) (u : Value) (s' : Shared) : Prop :=
  ∃ v H', s'.os = s.os ∧ AllBare s'.gens ∧ Un (frs outer) [] H H' s.heap s'.heap ∧ HOk P w H' s'.heap ∧ RelV v u ∧ Q v H'
def CR (CX : CXT) (outer : List Env) (P : Program) (w : World) (H : Hp) (s : Shared) (Q : VK) (E : XK) (r : Result) (s' : Shared) : Prop :=
  match r with
  | .ok (.ret u) => CE outer P w H s Q u s'
  | .ok _ => False
  | .error e => CX outer H s E e s'
structure FnOk (P : Program) (w : World) (K : PySem.W.Frag) (mg : Str → Option Value) (base : Heap) (CX : CXT) (k : Nat) (f : Addr) (fd : FuncData) (ps : List Str) (sp : Sp) : Prop where
  len : ∀ vs H Q E, sp vs H Q E → vs.length = ps.length
  run : ∀ (A : Around) (outer : List Env) (s : Shared) (H : Hp) (args : Args) (us : List Value) (vs : List V) (Q : VK) (E : XK), Room k A → Env0 P w K mg base A outer s H → BindsTo s fd args (ps.zip us) → Vals vs us → sp vs H Q E →
    codeAny (model P w) A (.call (.ref f) args) (CR CX outer P w H s Q E) s
theorem FnOk.mono {P : Program} {w : World} {K : PySem.W.Frag} {mg : Str → Option Value} {base : Heap} {CX : CXT} {j k : Nat} {f : Addr} {fd : FuncData} {ps : List Str} {sp : Sp} (F : FnOk P w K mg base CX j f fd ps sp) (h : j ≤ k) :
    FnOk P w K mg base CX k f fd ps sp := ⟨F.len, fun A outer s H args us vs Q E hr => F.run A outer s H args us vs Q E (hr.mono h)⟩
theorem FnOk.imp {P : Program} {w : World} {K : PySem.W.Frag} {mg : Str → Option Value} {base : Heap} {CX : CXT} {k : Nat} {f : Addr} {fd : FuncData} {ps : List Str} {sp sp' : Sp} (F : FnOk P w K mg base CX k f fd ps sp)
    (h : ∀ vs H Q E, sp' vs H Q E → sp vs H Q E) : FnOk P w K mg base CX k f fd ps sp' :=
  ⟨fun vs H Q E q => F.len vs H Q E (h _ _ _ _ q), fun A outer s H args us vs Q E hr he hb hv hs => F.run A outer s H args us vs Q E hr he hb hv (h _ _ _ _ hs)⟩

theorem Env0.in1 {P : Program} {w : World} {K : PySem.W.Frag} {mg : Str → Option Value} {base : Heap} {A : Around} {outer : List Env} {s : Shared} {H : Hp} (e : Env0 P w K mg base A outer s H) :
    Env0 P w K mg base A.in1 outer s H := ⟨e.frames, e.mod, e.bs, e.bsz, e.funs, e.frf, e.hok, e.bare⟩

section
variable {X : Cx} {pins : List (Addr × Obj)} {σ : St} {H : Hp} {s s' : Shared}
theorem Inv.env0 (I : Inv X pins σ H s) : Env0 X.prog X.w X.K X.mg X.base X.A X.stack s H :=
  ⟨I.ok.frames, I.ok.mod, I.bs, Nat.le_trans I.ok.bsz I.sz, I.stack, I.stkFree, I.hok, I.bare⟩
theorem Inv.after {Q : VK} {u : Value} (I : Inv X pins σ H s) (h : CE X.stack X.prog X.w H s Q u s') : EP X pins σ Q u s' := by
  obtain ⟨v, H', os, bare, un, hok, r, q⟩ := h
  obtain ⟨hh, g, d, t, os'⟩ := s'
  obtain rfl : os' = s.os := os
  exact ⟨v, H', I.call (h' := hh) (g' := g) (d' := d) (t' := t) (ch := []) un hok bare (fun b z => absurd z (by simp)), r, q⟩
end

def tCall (sp : Sp) (dvs : List V) (E : XK) (t : TA) : TE := fun σ H Q => t σ H fun vs H1 => sp (vs ++ dvs) H1 Q E
def tMeth (C : Addr) (m : Str) (sp : Sp) (dvs : List V) (E : XK) (ta : TE) (t : TA) : TE := fun σ H Q => ta σ H fun x H1 => ∃ a dx fs, x = .ref a ∧ H1 a = some (.ins C dx fs) ∧ fs.lookup m = none ∧
  t σ H1 fun vs H2 => sp (x :: (vs ++ dvs)) H2 Q E
def tMake (C : Addr) (sp : Sp) (dvs : List V) (E : XK) (t : TA) : TE := fun σ H Q => t σ H fun vs H1 => ∀ x dx, H1 x = none → H1 dx = none → dx ≠ x →
  sp (.ref x :: (vs ++ dvs)) (upd (upd H1 dx (.own x)) x (.ins C dx [])) (fun v H2 => v = .non ∧ Q (.ref x) H2) E

def Binds (K : PySem.W.Frag) (fd : FuncData) (ps : List Str) (ds : List Value) : Prop :=
  ∀ (s : Shared) (us : List Value), K.In s.heap → (us ++ ds).length = ps.length → BindsTo s fd ⟨us, []⟩ (ps.zip (us ++ ds))
theorem Binds.all {K : PySem.W.Frag} {fd : FuncData} {ps : List Str} (h : ∀ us : List Value, us.length = ps.length → bindArgs fd ⟨us, []⟩ = pure (ps.zip us)) : Binds K fd ps [] := fun s us _ hl => by
  rw [List.append_nil] at hl ⊢
  exact .of_eq (h us hl)

def Passes (CX : CXT) (X : Cx) (E : XK) : Prop := ∀ (pins : List (Addr × Obj)) (σ : St) (H : Hp) (s : Shared) (e : Value) (s' : Shared), Inv X pins σ H s → CX X.stack H s E e s' → X.xe e s'

section
variable {X : Cx} {CX : CXT} {k : Nat} {f C : Addr} {fd : FuncData} {ps : List Str} {sp : Sp} {dvs : List V} {ds : List Value} {E : XK} {x m : Str} {p pos apos : Pos} {e o : Expr} {es : List Expr} {ta : TE} {t : TA}

theorem run_fn {pins : List (Addr × Obj)} {σ : St} {H : Hp} {s : Shared} {Q : VK} {us : List Value} {vs : List V} (F : FnOk X.prog X.w X.K X.mg X.base CX k f fd ps sp) (hr : Room k X.A) (hb : Binds X.K fd ps ds) (hd : Vals dvs ds) (hx : Passes CX X E)
    (I : Inv X pins σ H s) (r : Vals vs us) (h : sp (vs ++ dvs) H Q E) : wpAny (model X.prog X.w) X.A (call (.ref f) us) (EP X pins σ Q) X.xe s := by
  have r2 : Vals (vs ++ dvs) (us ++ ds) := r.append hd
  have hl : (us ++ ds).length = ps.length := by rw [← r2.length]; exact F.len _ _ _ _ h
  refine wpAny_call (codeAny_mono (F.run X.A X.stack s H ⟨us, []⟩ (us ++ ds) (vs ++ dvs) Q E hr I.env0 (hb s us I.kIn hl) r2 h) fun r s' hq => ?_)
  cases r with
  | error e => exact hx pins σ H s e s' I hq
  | ok fl =>
    cases fl with
    | ret u => exact I.after hq
    | next => exact False.elim hq
    | brk => exact False.elim hq
    | cont => exact False.elim hq

theorem pe_call (F : FnOk X.prog X.w X.K X.mg X.base CX k f fd ps sp) (hr : Room k X.A) (hg : Gl X x) (hm : X.mg x = some (.ref f)) (hk : PySem.W.keepIn X.K (.ref f) = true) (hb : Binds X.K fd ps ds) (hd : Vals dvs ds) (hx : Passes CX X E)
    (ha : PA X (e :: es) t) (hdb : (x == ("__debug__" : Str)) = false := by decide) (he : starEach (e :: es) X.env = (false, eval e X.env) :: starEach es X.env := by rfl) (hpl : (backTo pos (starEach es X.env)).any (·.1) = false := by rfl) :
    PE X (.Call (.Name x p) (e :: es) [] pos) (tCall sp dvs E t) := by
  intro pins s σ H Q I h
  refine wpAny_Call_Name_kw (ld_glob I hg hm ?_ hdb)
  refine PySem.W.callWith_K (h₀ := X.base) I.ok.mod.kin hk (thn (ha pos pins s σ H _ I h) fun us s1 ⟨vs, H1, I1, r, q⟩ => ⟨I1.kIn, ?_⟩) he hpl
  exact run_fn F hr hb hd hx I1 r q
structure Mk (K : PySem.W.Frag) (C f : Addr) : Prop where
  makes : PySem.W.makesIn K C = true
  init : PySem.W.findIn K (.ref C) "__init__" = some (some (.ref f))
  fn : PySem.W.isFn K (.ref f) = true
  kp : PySem.W.keepIn K (.ref C) = true

end

def PK (X : Cx) (kws : List Keyword) (t : TA) : Prop :=
  ∀ (pos : Pos) (pins : List (Addr × Obj)) (s : Shared) (σ : St) (H : Hp) (Q : List V → Hp → Prop), Inv X pins σ H s → t σ H Q → wpAny (model X.prog X.w) X.A (evalAll ((backToKw pos (keywordEach kws X.env)).map (·.2))) (AP X pins σ Q) X.xe s
section
variable {X : Cx} {CX : CXT} {k : Nat} {f C : Addr} {fd : FuncData} {ps ks : List Str} {sp : Sp} {E : XK} {x m : Str} {p pos apos kpos : Pos} {e o : Expr} {es : List Expr} {kws : List Keyword} {te ta : TE} {t tk : TA} {nm : Option Str}
theorem pk_nil : PK X [] tNil := fun _ _ _ _ H Q I h => wpAny_evalAll_nil ⟨[], H, I, .nil, h⟩
theorem pk_cons (ha : PE X e te) (hr : PK X kws t) : PK X (⟨nm, e, kpos⟩ :: kws) (tCons te t) := by
  intro pos pins s σ H Q I h
  show wpAny _ _ (evalAll ((do let v ← eval e X.env; standAt pos; pure v) :: (backToKw pos (keywordEach kws X.env)).map (·.2))) _ _ s
  refine wpAny_evalAll_cons (wpAny_bind (thn (ha pins s σ H _ I h) fun u s1 ⟨x, H1, I1, r1, q1⟩ => wpAny_bind (wpAny_standAt (wpAny_pure ?_))))
  exact thn (hr pos pins s1 σ H1 _ I1 q1) fun us s2 ⟨xs, H2, I2, r2, q2⟩ => ⟨x :: xs, H2, I2, .cons r1 r2, q2⟩

structure KBinds (K : PySem.W.Frag) (fd : FuncData) (ps ks : List Str) (g : List Value → List Value → List Value) (gV : List V → List V → List V) : Prop where
  to : ∀ (s : Shared) (us ws : List Value), K.In s.heap → (g us ws).length = ps.length → BindsTo s fd ⟨us, ks.zip ws⟩ (ps.zip (g us ws))
  rel : ∀ {vs : List V} {us : List Value} {zs : List V} {ws : List Value}, Vals vs us → Vals zs ws → Vals (gV vs zs) (g us ws)
def tCallK (sp : Sp) (gV : List V → List V → List V) (E : XK) (t tk : TA) : TE := fun σ H Q => t σ H fun vs H1 => tk σ H1 fun zs H2 => sp (gV vs zs) H2 Q E
variable {g : List Value → List Value → List Value} {gV : List V → List V → List V}
end

structure FnScope (N P : List Str) (sc : Scope) : Prop where
  kind : sc.kind = .function
  co : sc.isCoroutine = false
  gen : sc.isGenerator = false
  nd : N.Nodup
  pre : N.take P.length = P
  par : ∀ x ∈ P, sc.names.lookup x = some .local ∨ sc.names.lookup x = some .cell
  nofree : ∀ y ∈ sc.names, y.2 ≠ .free

theorem bindL_out {kindOf : Str → Option NameKind} {x : Str} : ∀ {binds : List (Str × Value)} {m : Str → Option Value}, (∀ v, (x, v) ∉ binds) → bindL kindOf binds m x = m x
  | [], _, _ => rfl
  | (n, v) :: r, m, h => by
    unfold bindL
    rw [bindL_out fun w hw => h w (List.mem_cons_of_mem _ hw)]
    split
    · have : x ≠ n := by rintro rfl; exact h v List.mem_cons_self
      simp [this]
    · rfl
theorem bindC_out {kindOf : Str → Option NameKind} {x : Str} : ∀ {binds : List (Str × Value)} {m : Str → Option Value}, (∀ v, (x, v) ∉ binds) → bindC kindOf binds m x = m x
  | [], _, _ => rfl
  | (n, v) :: r, m, h => by
    unfold bindC
    rw [bindC_out fun w hw => h w (List.mem_cons_of_mem _ hw)]
    split
    · rfl
    · have : x ≠ n := by rintro rfl; exact h v List.mem_cons_self
      simp [this]
theorem bindL_get {kindOf : Str → Option NameKind} {x : Str} {v : Value} : ∀ {P : List Str} {vs : List Value} {i : Nat} {m : Str → Option Value}, P.Nodup → P[i]? = some x → vs[i]? = some v → kindOf x = some .local →
    bindL kindOf (P.zip vs) m x = some v
  | [], _, _, _, _, h, _, _ => by simp at h
  | _ :: _, [], _, _, _, _, h, _ => by simp at h
  | p :: P, w :: vs, 0, m, nd, h1, h2, hk => by
    simp at h1 h2; subst h1; subst h2
    show bindL kindOf ((p, w) :: P.zip vs) m p = _
    unfold bindL
    rw [bindL_out fun v hv => (List.nodup_cons.mp nd).1 (List.of_mem_zip hv).1, if_pos hk]
    simp
  | p :: P, w :: vs, i + 1, m, nd, h1, h2, hk => by
    show bindL kindOf ((p, w) :: P.zip vs) m x = _
    unfold bindL
    exact bindL_get (i := i) (List.nodup_cons.mp nd).2 (by simpa using h1) (by simpa using h2) hk
theorem bindC_get {kindOf : Str → Option NameKind} {x : Str} {v : Value} : ∀ {P : List Str} {vs : List Value} {i : Nat} {m : Str → Option Value}, P.Nodup → P[i]? = some x → vs[i]? = some v → kindOf x ≠ some .local →
    bindC kindOf (P.zip vs) m x = some v
  | [], _, _, _, _, h, _, _ => by simp at h
  | _ :: _, [], _, _, _, _, h, _ => by simp at h
  | p :: P, w :: vs, 0, m, nd, h1, h2, hk => by
    simp at h1 h2; subst h1; subst h2
    show bindC kindOf ((p, w) :: P.zip vs) m p = _
    unfold bindC
    rw [bindC_out fun v hv => (List.nodup_cons.mp nd).1 (List.of_mem_zip hv).1, if_neg hk]
    simp
  | p :: P, w :: vs, i + 1, m, nd, h1, h2, hk => by
    show bindC kindOf ((p, w) :: P.zip vs) m x = _
    unfold bindC
    exact bindC_get (i := i) (List.nodup_cons.mp nd).2 (by simpa using h1) (by simpa using h2) hk

def start (N : List Str) (vs : List V) : St := vs.map some ++ List.replicate (N.length - vs.length) none

def cxOf (CX : CXT) (P : Program) (w : World) (K : PySem.W.Frag) (mg : Str → Option Value) (base : Heap) (N : List Str) (qual : Str) (scope : Scope) (f : Addr) (cd : Value) (A : Around) (outer : List Env) (s : Shared) (H : Hp) (E : XK) : Cx where
  prog := P
  w := w
  K := K
  mg := mg
  base := base
  A := A.deeper (envOfC qual scope s.heap.objs.size f cd)
  N := N
  s₀ := s
  H₀ := H
  env := envOfC qual scope s.heap.objs.size f cd
  outer := outer
  stack := envOfC qual scope s.heap.objs.size f cd :: outer
  ex := []
  calm := true
  fn := fun _ => true
  pn := []
  xe := fun e s' => wpAny (model P w) (A.deeper (envOfC qual scope s.heap.objs.size f cd)) (leaving (envOfC qual scope s.heap.objs.size f cd) e) (fun _ s'' => CX outer H s E e s'') (fun e' s'' => CX outer H s E e' s'') s'

theorem cell_has {sc : Scope} {n : Nat} {x : Str} (h : sc.names.lookup x = some .cell) : ∃ c, (cellsFrom n sc.names []).lookup x = some c := by
  have q := PySem.W.cellsFrom_some sc.names n [] (.inl h)
  exact Option.isSome_iff_exists.mp q

theorem inv_start {CX : CXT} {P : Program} {w : World} {K : PySem.W.Frag} {mg : Str → Option Value} {base : Heap} {N ps : List Str} {qual : Str} {scope : Scope} {f : Addr} {cd : Value} {A : Around} {outer : List Env} {s s1 : Shared} {H : Hp} {E : XK} {us : List Value} {vs : List V}
    (S : FnScope N ps scope) (hd : A.handled = none) (e0 : Env0 P w K mg base A outer s H) (hl : vs.length = ps.length) (r : Vals vs us)
    (x : InCallC s s.heap.objs.size (bindL (envOfC qual scope s.heap.objs.size f cd).kindOf (ps.zip us) fun _ => none) (cellsFrom (s.heap.objs.size + 1) scope.names []) (bindC (envOfC qual scope s.heap.objs.size f cd).kindOf (ps.zip us) fun _ => none) s1) :
    Inv (cxOf CX P w K mg base N qual scope f cd A outer s H E) [] (start N vs) H s1 := by
  have hpl : ps.length ≤ N.length := by have := congrArg List.length S.pre; rw [List.length_take] at this; omega
  obtain ⟨h1, tk, rfl, hk⟩ := x.done
  have noA : ∀ b : Addr, b ∉ (cxOf CX P w K mg base N qual scope f cd A outer s H E).ex := fun b z => absurd (show b ∈ ([] : List Addr) from z) (by simp)
  refine ⟨⟨e0.mod, S.kind, rfl, rfl, Nat.le_refl _, fun y z c h1 h2 => ?_, fun y hy => ?_, fun y c _ h => ?_, fun _ => hd, Around.frames_deeper e0.frames, .inr ⟨rfl, rfl⟩, fun b z => absurd z (noA b), e0.bs, e0.bsz, fun b _ _ => noA b, fun b z => absurd z (noA b), e0.funs, e0.frf⟩,
    rfl, e0.bare, Un.kept hk, ⟨_, x.toInCall.ns, fun i y v h1 h2 h3 => ?_⟩, fun y c h => ⟨_, x.cell y c h⟩, e0.hok.fresh (Nat.le_refl _), fun y c h => ?_, fun p hp => absurd (show p ∈ ([] : List (Addr × Obj)) from hp) (by simp), e0.hok.kept hk, ?_⟩
  · exact name_of_addr x.apart (PySem.mem_of_lookup h1) (PySem.mem_of_lookup h2)
  · have hy : scope.names.lookup y = some .cell ∨ scope.names.lookup y = some .free := hy
    rcases hy with hy | hy
    · exact cell_has hy
    · exact absurd rfl (S.nofree _ (PySem.mem_of_lookup hy))
  · exact Nat.le_of_lt (x.above y c (PySem.mem_of_lookup h))
  · have hi : i < vs.length := by
      unfold start at h2
      by_cases hi : i < vs.length
      · exact hi
      · rw [List.getElem?_append_right (by simpa using hi)] at h2
        rw [List.getElem?_replicate] at h2
        split at h2 <;> cases h2
    have ha : vs[i]? = some v := by
      unfold start at h2
      rw [List.getElem?_append_left (by simpa using hi), List.getElem?_map] at h2
      cases e : vs[i]? with
      | none => rw [e] at h2; cases h2
      | some a => rw [e] at h2; cases h2; rfl
    obtain ⟨u, hu, rv⟩ := r.get ha
    have hp : ps[i]? = some y := by
      rw [← S.pre, List.getElem?_take_of_lt (by omega)]; exact h1
    have ndP : ps.Nodup := by rw [← S.pre]; exact S.nd.sublist (List.take_sublist _ _)
    refine ⟨u, rv, ?_⟩
    rcases S.par y (List.mem_of_getElem? hp) with k | k
    · exact .inl ⟨k, bindL_get ndP hp hu k⟩
    · obtain ⟨c, e⟩ := cell_has (n := s.heap.objs.size + 1) k
      refine .inr ⟨.inl k, c, e, ?_⟩
      have q := x.cell y c e
      rw [bindC_get ndP hp hu (by show scope.names.lookup y ≠ _; rw [k]; decide)] at q
      exact q
  · exact e0.hok.fresh (Nat.le_of_lt (x.above y c (PySem.mem_of_lookup h)))
  · unfold start
    show _ = N.length
    rw [List.length_append, List.length_map, List.length_replicate]
    omega

theorem fn_of {CX : CXT} {P : Program} {w : World} {K : PySem.W.Frag} {mg : Str → Option Value} {base : Heap} {k : Nat} {f : Addr} {name qual : Str} {params : Arguments} {body : List Stmt} {scope : Scope} {dV kV doc pm cdv ct oc : Value} {an od : Option Addr}
    {osl : Array (Option Value)} {N ps : List Str} {sp : Sp} (lk : K.lookup f = some ⟨oc, od, .func (PySem.W.fnOf name qual params body scope dV kV doc pm an cdv ct), osl⟩) (hcd : PySem.W.codeIn K cdv qual = true) (S : FnScope N ps scope)
    (len : ∀ vs H Q E, sp vs H Q E → vs.length = ps.length)
    (hbody : ∀ (A : Around) (outer : List Env) (s : Shared) (H : Hp) (vs : List V) (Q : VK) (E : XK), Room k (A.deeper (envOfC qual scope s.heap.objs.size f cdv)) → sp vs H Q E →
      ∃ t, PSs (cxOf CX P w K mg base N qual scope f cdv A outer s H E) body t ∧ t { nx := fun _ H' => Q .non H', rt := Q } (start N vs) H) :
    FnOk P w K mg base CX (k + 1) f (PySem.W.fnOf name qual params body scope dV kV doc pm an cdv ct) ps sp := by
  refine ⟨len, fun A outer s H args us vs Q E hr e0 hb r hsp => ?_⟩
  have hl := len _ _ _ _ hsp
  have KX : K.In s.heap := e0.mod.kin.keeps fun b o e => (e0.bs b o e).1
  have lim : s.heap.NoLimit := e0.mod.nolimit.keeps fun b o e => (e0.bs b o e).1
  have hkind : ∀ y ∈ ps.zip us, scope.names.lookup y.1 = some .local ∨ (scope.names.lookup y.1 = some .cell ∧ ((cellsFrom (s.heap.objs.size + 1) scope.names []).lookup y.1).isSome = true) := fun ⟨n, v⟩ hy => by
    rcases S.par n (List.of_mem_zip hy).1 with q | q
    · exact .inl q
    · exact .inr ⟨q, PySem.W.cellsFrom_some _ _ _ (.inl q)⟩
  refine codeAny_call_function hr.depth (KX _ _ lk) rfl S.co S.gen rfl (PySem.W.codeRec_of KX hcd) (hb _ _ _ _ ?_)
  refine wpAny_newFunctionEnv_cells S.kind hkind fun env he s1 x => ?_
  subst he
  refine ⟨lim.keeps x.toInCall.keep, codeAny_func ?_⟩
  obtain ⟨t, ht, hq⟩ := hbody A outer s H vs Q E (hr.deeper _) hsp
  have I : Inv (cxOf CX P w K mg base N qual scope f cdv A outer s H E) [] (start N vs) H s1 := inv_start S hr.hd e0 hl r x
  refine wpAny_mono (ht [] s1 (start N vs) H _ I hq) (fun fl s' hs => ?_) fun e s' hs => hs
  have fin : ∀ {σ' : St} {H' : Hp} {v : V} {u : Value}, Inv (cxOf CX P w K mg base N qual scope f cdv A outer s H E) [] σ' H' s' → RelV v u → Q v H' → CE outer P w H s Q u s' :=
    fun {σ' H' v u} J rv q => ⟨v, H', J.os, J.bare, J.base, J.hok, rv, q⟩
  cases fl with
  | ret u =>
    obtain ⟨v, σ', H', J, rv, q⟩ := hs
    exact fin J rv q
  | next =>
    obtain ⟨σ', H', J, q⟩ := hs
    exact fin (v := V.non) (u := Value.none) J rfl q
  | brk =>
    obtain ⟨_, _, _, q⟩ := hs
    exact False.elim q
  | cont =>
    obtain ⟨_, _, _, q⟩ := hs
    exact False.elim q
end L2

namespace L2
open PySem PySem.Spec PyProof.Rows
section
variable {X : Cx} {x : Str} {p pos : Pos} {e : Expr} {es : List Expr} {t : TA} {id T : String} {r : List V → Hp → VK → Prop}

def tCB (r : List V → Hp → VK → Prop) (t : TA) : TE := fun σ H Q => t σ H fun vs H1 => r vs H1 Q
theorem pe_callB (hc : CallR X (.builtin id) r) (hg : Gl X x) (hm : X.mg x = none) (hv : bootBuiltins x = some (.builtin id)) (ha : PA X (e :: es) t) (hn : x ≠ "__name__" := by decide) (hdb : (x == ("__debug__" : Str)) = false := by decide)
    (he : starEach (e :: es) X.env = (false, eval e X.env) :: starEach es X.env := by rfl) (hpl : (backTo pos (starEach es X.env)).any (·.1) = false := by rfl) : PE X (.Call (.Name x p) (e :: es) [] pos) (tCB r t) := by
  intro pins s σ H Q I h
  refine wpAny_Call_Name_kw (ld_blt I hg hm hv ?_ hn hdb)
  exact PyProof.Rows.callWith_builtin1 (thn (ha pos pins s σ H _ I h) fun us s1 ⟨vs, H1, I1, r1, q1⟩ => hc pins s1 σ H1 vs us Q I1 r1 q1) he hpl
end
end L2

namespace HT
open PySem PyProof.Rows

def lexLt : List Int → List Int → Bool
  | [], [] => false
  | [], _ :: _ => true
  | _ :: _, [] => false
  | x :: xs, y :: ys => if x = y then lexLt xs ys else decide (x < y)
section
open PySem.SeqAt
open PySem.AutoSeq1 (wpAny_loadPart')
open PySem.MeetsSeq PySem.MeetsSeq2 PySem.MeetsSeq3

end

section
variable {prog : Program} {w : World} {A : Around} {E : Value → Shared → Prop} {s : Shared}

theorem cat_tup {t b : Addr} {vs ws : List Value} {Q : Value → Shared → Prop} (ht : IsTup s.heap t vs.toArray) (hb : IsTup s.heap b ws.toArray) (hv : vs ≠ [])
    (h1 : ws = [] → Q (.ref t) s) (h2 : ws ≠ [] → Q (.ref s.heap.objs.size) { s with heap := s.heap.push { cls := .type "tuple", data := .seq (vs ++ ws).toArray } })
    (hsz : vs.length + ws.length ≤ sizeLine) : wpAny (model prog w) A (binaryOp .Add (.ref t) (.ref b)) Q E s := by
  obtain ⟨⟨cls, dd, data, sl⟩, ho, hc, n, hd⟩ := id ht
  obtain ⟨⟨cls2, dd2, data2, sl2⟩, ho2, hc2, n2, hd2⟩ := id hb
  simp only at hc hd hc2 hd2
  subst hc hd hc2 hd2
  have e : vs.toArray ++ ws.toArray = (vs ++ ws).toArray := by simp
  by_cases hw : ws = []
  · exact concat_meets ⟨_, ho, rfl⟩ ⟨_, ho2, rfl⟩ noFill_tuple_add seq_tuple_add PySem.F.slot_tuple_add PySem.F.entry_tuple_add (PySem.F.args_tuple_add_2 _ _)
      (tuple_addW1 t b vs.toArray ws.toArray n n2 dd dd2 sl sl2 (by simpa using hv) (by simp [hw])) ⟨ho, ho2, h1 hw⟩
  · refine concat_meets ⟨_, ho, rfl⟩ ⟨_, ho2, rfl⟩ noFill_tuple_add seq_tuple_add PySem.F.slot_tuple_add PySem.F.entry_tuple_add (PySem.F.args_tuple_add_2 _ _)
      (tuple_addW2 t b vs.toArray ws.toArray n n2 dd dd2 sl sl2 (by simpa using hv) (by simpa using hw) (by rw [List.size_toArray, List.size_toArray]; exact hsz)) ⟨ho, ho2, ?_⟩
    rw [e]
    exact h2 hw

def sIx (n d : Nat) : Option Int → Nat
  | none => d
  | some v => if v < 0 then (v + (n : Int)).toNat else min v.toNat n
theorem sIx_none (n d : Nat) : sIx n d none = d := rfl
theorem sIx_nat (n d k : Nat) : sIx n d (some (k : Int)) = min k n := by
  show (if (k : Int) < 0 then ((k : Int) + (n : Int)).toNat else min (k : Int).toNat n) = min k n
  rw [if_neg (by omega), Int.toNat_natCast]
end
end HT

namespace L2
open PySem PySem.Spec PyProof.Rows

abbrev TO := St → Hp → (Option Int → Hp → Prop) → Prop
def PO (X : Cx) (e : Option Expr) (t : TO) : Prop :=
  ∀ (pins : List (Addr × Obj)) (s : Shared) (σ : St) (H : Hp) (Q : Option Int → Hp → Prop), Inv X pins σ H s → t σ H Q →
    wpAny (model X.prog X.w) X.A (evalPart e X.env) (fun u s' => ∃ o H', Inv X pins σ H' s' ∧ IsPart u o ∧ Q o H') X.xe s
def tNoPart : TO := fun _ H Q => Q none H
def tPart (t : TE) : TO := fun σ H Q => t σ H fun x H1 => ∃ i, x = .int i ∧ Q (some i) H1

theorem intsAre_of {ns : List Int} : ∀ {us : List Value}, Vals (ns.map V.int) us → IntsAre us ns := by
  induction ns with
  | nil => intro us r; rw [List.map_nil] at r; cases r; exact .nil
  | cons n ns ih =>
    intro us r
    rw [List.map_cons] at r
    cases r with
    | cons r1 r2 =>
      obtain ⟨t, e⟩ := r1
      subst e
      exact .cons n t (ih r2)

section
variable {X : Cx} {e : Expr} {te : TE} {lo hi : Option Expr} {tl th : TO} {pos p2 : Pos}

theorem po_none : PO X none tNoPart := by
  intro pins s σ H Q I h
  rw [evalPart_none]
  exact wpAny_pure ⟨none, H, I, .none, h⟩
theorem po_some (h : PE X e te) : PO X (some e) (tPart te) := by
  intro pins s σ H Q I hw
  rw [evalPart_some]
  refine thn (h pins s σ H _ I hw) fun u s1 ⟨x, H1, I1, r1, q1⟩ => ?_
  obtain ⟨i, rfl, q⟩ := q1
  obtain ⟨t, rfl⟩ := r1
  exact ⟨some i, H1, I1, .int i t, q⟩

def SlR (X : Cx) (r : V → Option Int → Option Int → Hp → VK → Prop) : Prop :=
  ∀ (pins : List (Addr × Obj)) (s : Shared) (σ : St) (H : Hp) (x : V) (v vl vu : Value) (lo hi : Option Int) (sl : Addr) (Q : VK), Inv X pins σ H s → RelV x v → s.heap.IsSliceOf sl vl vu .none → IsPart vl lo → IsPart vu hi → r x lo hi H Q →
    ∃ T id, typeLookup (.type T) "__getitem__" = pure (some (.builtin id)) ∧ s.TypeIs v T ∧ wpAny (model X.prog X.w) X.A (getItem v (.ref sl)) (EP X pins σ Q) X.xe s
theorem SlR.or {r r' : V → Option Int → Option Int → Hp → VK → Prop} (h : SlR X r) (h' : SlR X r') : SlR X (fun x lo hi H Q => r x lo hi H Q ∨ r' x lo hi H Q) := by
  intro pins s σ H x v vl vu lo hi sl Q I rx hs pl pu q
  rcases q with q | q
  · exact h pins s σ H x v vl vu lo hi sl Q I rx hs pl pu q
  · exact h' pins s σ H x v vl vu lo hi sl Q I rx hs pl pu q
def tSl (r : V → Option Int → Option Int → Hp → VK → Prop) (te : TE) (tl th : TO) : TE := fun σ H Q => te σ H fun x H1 => tl σ H1 fun l H2 => th σ H2 fun u H3 => r x l u H3 Q
theorem pe_slice {r : V → Option Int → Option Int → Hp → VK → Prop} (hr : SlR X r) (he : PE X e te) (hl : PO X lo tl) (hu : PO X hi th) : PE X (.Subscript e (.Slice lo hi none p2) pos) (tSl r te tl th) := by
  intro pins s σ H Q I h
  refine Subscript_ (thn (he pins s σ H _ I h) fun v s1 ⟨x, H1, I1, r1, q1⟩ => ?_)
  refine wpAny_Slice (thn (hl pins s1 σ H1 _ I1 q1) fun vl s2 ⟨l, H2, I2, pl, q2⟩ => thn (hu pins s2 σ H2 _ I2 q2) fun vu s3 ⟨u, H3, I3, pu, q3⟩ => ?_)
  rw [evalPart_none]
  refine wpAny_pure ?_
  have I4 : Inv X pins σ H3 { s3 with heap := s3.heap.push { cls := .type "slice", data := .fields #[vl, vu, .none] } } := I3.kept (t' := s3.toks) fun b ob q => Heap.get?_push_of_some _ q
  obtain ⟨T, id, hT, ht, hg⟩ := hr pins { s3 with heap := s3.heap.push { cls := .type "slice", data := .fields #[vl, vu, .none] } } σ H3 x v vl vu l u s3.heap.objs.size Q I4 r1 (Heap.IsSliceOf.new ..) pl pu q3
  show wpAny (model X.prog X.w) X.A (subscriptTail e (.Slice lo hi none p2) v (.ref s3.heap.objs.size)) (EP X pins σ Q) X.xe { s3 with heap := s3.heap.push { cls := .type "slice", data := .fields #[vl, vu, .none] } }
  exact tail_any (ops := [.ref s3.heap.objs.size, v]) ht hT hg (by with_unfolding_all rfl)

def cutV (xs : List V) (lo hi : Option Int) : List V := (xs.drop (HT.sIx xs.length 0 lo)).take (HT.sIx xs.length xs.length hi - HT.sIx xs.length 0 lo)
theorem cutV_length (xs : List V) (lo hi : Option Int) : (cutV xs lo hi).length ≤ xs.length := by
  unfold cutV
  rw [List.length_take, List.length_drop]
  omega
def rSlT (K : PySem.W.Frag) : V → Option Int → Option Int → Hp → VK → Prop := fun x lo hi H Q => ∃ a xs, x = .ref a ∧ SqT K H a xs ∧
  ¬ (HT.sIx xs.length 0 lo = 0 ∧ HT.sIx xs.length xs.length hi = xs.length) ∧ ∀ p, H p = none → Q (.ref p) (upd H p (.tup (cutV xs lo hi)))
def rLtT (K : PySem.W.Frag) : R2 := fun x y H Q => ∃ a b ns ms, x = .ref a ∧ y = .ref b ∧ SqT K H a (ns.map V.int) ∧ SqT K H b (ms.map V.int) ∧ Q (.bl (HT.lexLt ns ms)) H
def rCatT (K : PySem.W.Frag) : R2 := fun x y H Q => ∃ a b xs ys, x = .ref a ∧ y = .ref b ∧ SqT K H a xs ∧ SqT K H b ys ∧ xs ≠ [] ∧ xs.length + ys.length ≤ sizeLine ∧
  (ys = [] → Q (.ref a) H) ∧ (ys ≠ [] → ∀ p, H p = none → Q (.ref p) (upd H p (.tup (xs ++ ys))))
theorem Vals.nil_iff {xs : List V} {us : List Value} (r : Vals xs us) : us = [] ↔ xs = [] := by
  cases r with
  | nil => simp
  | cons _ _ => simp
theorem op_catT : OpR X (binaryOp .Add) (rCatT X.K) := by
  intro pins s σ H x y v u Q I rx ry h
  obtain ⟨a, b, xs, ys, rfl, rfl, ha, hb, hx, hz, q1, q2⟩ := h
  cases rx
  cases ry
  obtain ⟨its, r1, p1, _⟩ := I.tuple ha
  obtain ⟨its2, r2, p2, _⟩ := I.tuple hb
  refine HT.cat_tup p1 p2 (fun z => hx (r1.nil_iff.mp z)) (fun z => ⟨.ref a, H, I, rfl, q1 (r2.nil_iff.mp z)⟩) (fun z => ?_) (by rw [← r1.length, ← r2.length]; exact hz)
  refine ⟨.ref s.heap.objs.size, _, I.laid (t' := s.toks) (o := .tup (xs ++ ys)) (fun b ob q => Heap.get?_push_of_some _ q) (Nat.le_refl _) ?_, rfl, q2 (fun w => z (r2.nil_iff.mpr w)) _ (I.hok.fresh (Nat.le_refl _))⟩
  exact ⟨by rw [List.length_append]; exact hz, _, r1.append r2, IsTup.new _ _⟩
end
end L2

namespace L2
open PySem PySem.Spec PyProof.Rows

def ixN (n : Nat) (i : Int) : Option Nat := if 0 ≤ i then (if i < n then some i.toNat else none) else if -(n : Int) ≤ i then some (i + n).toNat else none
def atI {α : Type} (xs : List α) (i : Int) : Option α := (ixN xs.length i).bind fun j => xs[j]?
theorem ixN_seq {n : Nat} {i : Int} {j : Nat} (h : ixN n i = some j) : seqIndex? i n = some j ∧ j < n ∧ -(n : Int) ≤ i ∧ i < n := by
  unfold ixN at h
  by_cases h0 : 0 ≤ i
  · rw [if_pos h0] at h
    by_cases h1 : i < n
    · rw [if_pos h1] at h
      have e : i.toNat = j := Option.some.inj h
      exact ⟨by rw [seqIndex_of h0 h1, e], by omega, by omega, h1⟩
    · rw [if_neg h1] at h; cases h
  · rw [if_neg h0] at h
    by_cases h1 : -(n : Int) ≤ i
    · rw [if_pos h1] at h
      have e : (i + n).toNat = j := Option.some.inj h
      exact ⟨by rw [seqIndex_neg (by omega) h1, e], by omega, h1, by omega⟩
    · rw [if_neg h1] at h; cases h
theorem atI_get {α : Type} {xs : List α} {i : Int} {v : α} (h : atI xs i = some v) : ∃ j, seqIndex? i xs.length = some j ∧ xs[j]? = some v ∧ j < xs.length ∧ -(xs.length : Int) ≤ i ∧ i < xs.length := by
  unfold atI at h
  cases e : ixN xs.length i with
  | none => rw [e] at h; cases h
  | some j =>
    rw [e] at h
    obtain ⟨h1, h2, h3, h4⟩ := ixN_seq e
    exact ⟨j, h1, h, h2, h3, h4⟩
def PlainIx (b : Expr) : Prop := ∀ o i, subscripted b false o i = operate [o, i] (getItem o i)
def IxR (X : Cx) (r : R2) : Prop :=
  ∀ (value slice : Expr) (pins : List (Addr × Obj)) (s : Shared) (σ : St) (H : Hp) (x y : V) (v u : Value) (Q : VK), Inv X pins σ H s → RelV x v → RelV y u → r x y H Q →
    subscripted slice false v u = operate [v, u] (getItem v u) → wpAny (model X.prog X.w) X.A (subscriptTail value slice v u) (EP X pins σ Q) X.xe s
def MtR (X : Cx) (id : String) (r : V → List V → Hp → VK → Prop) : Prop :=
  ∀ (pins : List (Addr × Obj)) (s : Shared) (σ : St) (H : Hp) (x : V) (xs : List V) (v : Value) (us : List Value) (Q : VK), Inv X pins σ H s → RelV x v → Vals xs us → r x xs H Q →
    wpAny (model X.prog X.w) X.A (call (.builtin id) (v :: us)) (EP X pins σ Q) X.xe s
section
variable {X : Cx} {a b : Expr} {ta tb : TE} {pos : Pos}
theorem IxR.or {r r' : R2} (h : IxR X r) (h' : IxR X r') : IxR X (fun x y H Q => r x y H Q ∨ r' x y H Q) := by
  intro value slice pins s σ H x y v u Q I rx ry q hs
  rcases q with q | q
  · exact h value slice pins s σ H x y v u Q I rx ry q hs
  · exact h' value slice pins s σ H x y v u Q I rx ry q hs
theorem MtR.or {id : String} {r r' : V → List V → Hp → VK → Prop} (h : MtR X id r) (h' : MtR X id r') : MtR X id (fun x xs H Q => r x xs H Q ∨ r' x xs H Q) := by
  intro pins s σ H x xs v us Q I rx rs q
  rcases q with q | q
  · exact h pins s σ H x xs v us Q I rx rs q
  · exact h' pins s σ H x xs v us Q I rx rs q
theorem pe_ix {r : R2} (hr : IxR X r) (ha : PE X a ta) (hb : PE X b tb) (hs : PlainIx b) : PE X (.Subscript a b pos) (tOp r ta tb) := by
  intro pins s σ H Q I h
  exact Subscript_ (binT ha hb I h fun v u s2 x y H2 I2 rx ry q => hr a b pins s2 σ H2 x y v u Q I2 rx ry q (hs _ _))

def rIxL (K : PySem.W.Frag) : R2 := fun x y H Q => ∃ p xs i v, x = .ref p ∧ y = .int i ∧ SqL K H p xs ∧ atI xs i = some v ∧ Q v H
def rIxT (K : PySem.W.Frag) : R2 := fun x y H Q => ∃ p xs i v, x = .ref p ∧ y = .int i ∧ SqT K H p xs ∧ atI xs i = some v ∧ Q v H
def rIxS : R2 := fun x y H Q => ∃ z i c, x = .str z ∧ y = .int i ∧ z.length ≤ sizeLine ∧ atI z.cps.toList i = some c ∧ Q (.str ⟨#[c]⟩) H
theorem ix_list : IxR X (rIxL X.K) := by
  intro value slice pins s σ H x y v u Q I rx ry h hs
  obtain ⟨p, xs, i, z, rfl, rfl, hq, he, q⟩ := h
  cases rx
  obtain ⟨t, rfl⟩ := ry
  obtain ⟨its, r, pl, hz⟩ := I.list hq
  obtain ⟨j, h1, h2, h3, h4, h5⟩ := atI_get he
  obtain ⟨w, ew, rw'⟩ := r.get h2
  have hl := r.length
  have hn := line63
  have fin : EP X pins σ Q w s := ⟨z, H, I, rw', q⟩
  by_cases h0 : 0 ≤ i
  · have hj : i.toNat = j := by
      rw [seqIndex_of h0 h5] at h1
      exact Option.some.inj h1
    exact item_listR pl.isList h0 (by omega) (by rw [hj]; simpa using ew) fin hs
  · have hj : (i + (its.toArray.size : Int)).toNat = j := by
      rw [seqIndex_neg (by omega) h4] at h1
      rw [List.size_toArray, ← hl]
      exact Option.some.inj h1
    exact subscriptTail_builtinR (x := w) pl.isList.typeIs slot_list_getitem.lookup
      (wpAny_getItem_list_neg (Q := fun r s' => r = w ∧ EP X pins σ Q r s') pl.isList (by omega) (by rw [List.size_toArray] <;> omega) (by omega) (by rw [hj]; simpa using ew) ⟨rfl, fin⟩) hs
theorem ix_tup : IxR X (rIxT X.K) := by
  intro value slice pins s σ H x y v u Q I rx ry h hs
  obtain ⟨p, xs, i, z, rfl, rfl, hq, he, q⟩ := h
  cases rx
  obtain ⟨t, rfl⟩ := ry
  obtain ⟨its, r, pl, hz⟩ := I.tuple hq
  obtain ⟨j, h1, h2, h3, h4, h5⟩ := atI_get he
  obtain ⟨w, ew, rw'⟩ := r.get h2
  have hl := r.length
  have hn := line63
  have fin : EP X pins σ Q w s := ⟨z, H, I, rw', q⟩
  exact subscriptTail_builtinR (x := w) pl.typeIs slot_tuple_getitem.lookup
    (getItem_tuple (j := j) (Q := fun r s' => r = w ∧ EP X pins σ Q r s') pl (by omega) (by omega) (by rw [List.size_toArray, ← hl]; exact h1) (by simpa using ew) ⟨rfl, fin⟩) hs
theorem ix_str : IxR X rIxS := by
  intro value slice pins s σ H x y v u Q I rx ry h hs
  obtain ⟨z, i, c, rfl, rfl, hz, he, q⟩ := h
  obtain ⟨t, rfl⟩ := rx
  obtain ⟨t', rfl⟩ := ry
  obtain ⟨j, h1, h2, h3, h4, h5⟩ := atI_get he
  have hl : z.cps.toList.length = z.length := by simp [Str.length]
  rw [hl] at h1 h4 h5
  have hn := line63
  exact tail_any (typeIs_str s z t) slot_str_getitem.lookup (getItem_str (c := c) (by
    have e1 : decide (i < -(2 ^ 63 : Int)) = false := decide_eq_false (by omega)
    have e2 : decide (i ≥ 2 ^ 63) = false := decide_eq_false (by omega)
    rw [e1, e2, Bool.or_false]) (by rw [h1]; simpa using h2) ⟨.str ⟨#[c]⟩, H, I.tok _, ⟨_, rfl⟩, q⟩) hs
def rIx (K : PySem.W.Frag) : R2 := fun x y H Q => rIxL K x y H Q ∨ rIxT K x y H Q ∨ rIxS x y H Q
theorem ix_seq : IxR X (rIx X.K) := ix_list.or (ix_tup.or ix_str)

theorem Inv.lst {pins : List (Addr × Obj)} {σ : St} {H : Hp} {s : Shared} {p : Addr} {xs : List V} (I : Inv X pins σ H s) (h : H p = some (.lst xs)) :
    ∃ (its : List Value) (n : Nat), Vals xs its ∧ s.heap.get? p = some { cls := .type "list", data := .seq its.toArray n } ∧ xs.length ≤ sizeLine := by
  obtain ⟨z, its, n, r, e⟩ := I.hok p _ h
  exact ⟨its, n, r, e, z⟩
def rSetL : V → V → V → Hp → (Hp → Prop) → Prop := fun o i v H Q => ∃ p xs k j, o = .ref p ∧ i = .int k ∧ H p = some (.lst xs) ∧ ixN xs.length k = some j ∧ Q (upd H p (.lst (xs.set j v)))
theorem slice_bounds (lo hi : Option Int) (n : Nat) : (sliceBounds lo hi none n).1 = ((HT.sIx n 0 lo : Nat) : Int) ∧ (sliceBounds lo hi none n).2.1 = ((HT.sIx n n hi : Nat) : Int) ∧ (sliceBounds lo hi none n).2.2 = 1 := by
  refine ⟨?_, ?_, rfl⟩
  · cases lo with
    | none => simp [sliceBounds, HT.sIx]
    | some i =>
      simp only [sliceBounds, HT.sIx, Option.getD_none, show (1 : Int) > 0 by decide, if_true]
      by_cases h : i < 0
      · simp only [h, if_true] <;> omega
      · simp only [h, if_false] <;> omega
  · cases hi with
    | none => simp [sliceBounds, HT.sIx]
    | some i =>
      simp only [sliceBounds, HT.sIx, Option.getD_none, show (1 : Int) > 0 by decide, if_true]
      by_cases h : i < 0
      · simp only [h, if_true] <;> omega
      · simp only [h, if_false] <;> omega
theorem slicePick_cut (its : List Value) (lo hi : Option Int) : slicePick its.toArray lo hi none = ((its.drop (HT.sIx its.length 0 lo)).take (HT.sIx its.length its.length hi - HT.sIx its.length 0 lo)).toArray := by
  obtain ⟨h1, h2, h3⟩ := slice_bounds lo hi its.toArray.size
  unfold slicePick
  rw [h1, h2, h3]
  simp only [sliceRange_one, pick_run, List.size_toArray] <;> rfl
def rSlL (K : PySem.W.Frag) : V → Option Int → Option Int → Hp → VK → Prop := fun x lo hi H Q => ∃ a xs, x = .ref a ∧ SqL K H a xs ∧ ∀ p, H p = none → Q (.ref p) (upd H p (.lst (cutV xs lo hi)))
theorem sl_list : SlR X (rSlL X.K) := by
  intro pins s σ H x v vl vu lo hi sl Q I rx hs pl pu h
  obtain ⟨a, xs, rfl, hx, q⟩ := h
  cases rx
  obtain ⟨its, r, ht, hz⟩ := I.list hx
  have hlen := r.length
  refine ⟨"list", _, slot_list_getitem.lookup, ht.isList.typeIs, ?_⟩
  refine wpAny_getItem_list_slice ht.isList hs pl pu .none (by simp) ?_ (by rw [List.size_toArray] <;> omega)
  rw [slicePick_cut, ← hlen]
  refine ⟨.ref s.heap.objs.size, _, I.laid (t' := s.toks) (o := .lst (cutV xs lo hi)) (fun b ob q => Heap.get?_push_of_some _ q) (Nat.le_refl _) ?_, rfl, q _ (I.hok.fresh (Nat.le_refl _))⟩
  exact ⟨Nat.le_trans (cutV_length xs lo hi) hz, _, 0, (r.drop (HT.sIx xs.length 0 lo)).take (HT.sIx xs.length xs.length hi - HT.sIx xs.length 0 lo), Heap.get?_push_size _ rfl⟩

def flatV : V → Bool
  | .non => true
  | .bl _ => true
  | .int _ => true
  | .str _ => true
  | _ => false
def eqV : V → V → Bool
  | .non, .non => true
  | .bl a, .bl b => a == b
  | .bl a, .int b => (if a then 1 else 0) == b
  | .int a, .bl b => a == (if b then 1 else 0)
  | .int a, .int b => a == b
  | .str a, .str b => a == b
  | _, _ => false
def eqU (x : V) (u : Value) : Bool := match u with
  | .none => eqV .non x
  | .bool b => eqV (.bl b) x
  | .int i _ => eqV (.int i) x
  | .str z _ => eqV (.str z) x
  | _ => false
def inV (x : V) (xs : List V) : Bool := xs.any fun y => eqV y x
def rIn (K : PySem.W.Frag) (neg : Bool) : R2 := fun x y H Q => ∃ p xs, y = .ref p ∧ (SqL K H p xs ∨ SqT K H p xs) ∧ flatV x = true ∧ xs.all flatV = true ∧ Q (.bl (if neg then !inV x xs else inV x xs)) H
theorem call_len_seq : CallR X (.builtin "len") (fun xs H Q => ∃ p ys, xs = [.ref p] ∧ (SqL X.K H p ys ∨ SqT X.K H p ys) ∧ Q (.int ys.length) H) := by
  intro pins s σ H xs us Q I r h
  obtain ⟨p, ys, rfl, hq, q⟩ := h
  obtain ⟨u, rfl, rx⟩ := vals1 r
  cases rx
  have hn := line63
  rcases hq with hq | hq
  · obtain ⟨its, r', pl, hz⟩ := I.list hq
    have hlen := r'.length
    exact Calls.call_len_list pl.isList (by simp only [List.size_toArray] <;> omega) ⟨.int ys.length, H, I.tok _, ⟨s.toks + 1, by rw [List.size_toArray, hlen]⟩, q⟩
  · obtain ⟨its, r', pl, hz⟩ := I.tuple hq
    have hlen := r'.length
    exact len_tuple pl (by simp only [List.size_toArray] <;> omega) ⟨.int ys.length, H, I.tok _, ⟨s.toks + 1, by rw [List.size_toArray, hlen]⟩, q⟩
theorem call_len_str : CallR X (.builtin "len") (fun xs H Q => ∃ z, xs = [.str z] ∧ z.length ≤ sizeLine ∧ Q (.int z.length) H) := by
  intro pins s σ H xs us Q I r h
  obtain ⟨z, rfl, hz, q⟩ := h
  obtain ⟨u, rfl, t, rfl⟩ := vals1 r
  have hn := line63
  exact len_str (by omega) ⟨.int z.length, H, I.tok _, ⟨_, rfl⟩, q⟩
theorem CallR.or {f : Value} {r r' : List V → Hp → VK → Prop} (h : CallR X f r) (h' : CallR X f r') : CallR X f (fun xs H Q => r xs H Q ∨ r' xs H Q) := by
  intro pins s σ H xs us Q I rs q
  rcases q with q | q
  · exact h pins s σ H xs us Q I rs q
  · exact h' pins s σ H xs us Q I rs q
def tyV (K : PySem.W.Frag) (T : String) (x : V) (H : Hp) : Prop := match x with
  | .str _ => T = "str"
  | .int _ => T = "int"
  | .ref p => (T = "list" ∧ ∃ xs, SqL K H p xs) ∨ (T = "tuple" ∧ ∃ o, K.lookup p = some o ∧ o.cls = .type "tuple" ∧ o.dict = none) ∨
      (T = "dict" ∧ ((∃ kvs, H p = some (.dK kvs)) ∨ ∃ kvs, H p = some (.dT kvs))) ∨ (T = "set" ∧ ∃ S n, H p = some (.set S n))
  | _ => False
def tBM0 (K : PySem.W.Frag) (T : String) (r : V → List V → Hp → VK → Prop) (to : TE) : TE := fun σ H Q => to σ H fun x H1 => tyV K T x H1 ∧ r x [] H1 Q
def tBM (K : PySem.W.Frag) (T : String) (r : V → List V → Hp → VK → Prop) (to : TE) (t : TA) : TE := fun σ H Q => to σ H fun x H1 => tyV K T x H1 ∧ t σ H1 fun xs H2 => r x xs H2 Q
variable {o e : Expr} {es : List Expr} {to : TE} {t : TA} {name : Str} {apos cpos : Pos} {T id : String} {r : V → List V → Hp → VK → Prop}
end
end L2

namespace L2
open PySem PySem.Spec PyProof.Rows

def MtM (X : Cx) (id : String) (r : V → List V → Hp → VK → Prop) : Prop :=
  ∀ (pins : List (Addr × Obj)) (s : Shared) (σ : St) (H : Hp) (x : V) (xs : List V) (v : Value) (us : List Value) (Q : VK), Inv X pins σ H s → RelV x v → Vals xs us → r x xs H Q →
    wpAny (model X.prog X.w) X.A (call (.builtin id) (v :: us)) (EP X pins σ Q) X.xe s

theorem Vals.one : ∀ {x : V} {us : List Value}, Vals [x] us → ∃ u, us = [u] ∧ RelV x u
  | _, _, .cons r .nil => ⟨_, rfl, r⟩
theorem Vals.zero : ∀ {us : List Value}, Vals [] us → us = []
  | _, .nil => rfl
theorem Vals.dropLast {xs : List V} {us : List Value} (h : Vals xs us) : Vals xs.dropLast us.dropLast := by
  induction h with
  | nil => exact .nil
  | cons r t ih =>
    cases t with
    | nil => exact .nil
    | cons q t' => exact .cons r ih
theorem Vals.eraseIdx : ∀ {xs : List V} {us : List Value} (i : Nat), Vals xs us → Vals (xs.eraseIdx i) (us.eraseIdx i)
  | _, _, _, .nil => .nil
  | _, _, 0, .cons _ t => t
  | _, _, i + 1, .cons r t => .cons r (Vals.eraseIdx i t)
theorem Vals.reverse {xs : List V} {us : List Value} (h : Vals xs us) : Vals xs.reverse us.reverse := by
  induction h with
  | nil => exact .nil
  | cons r t ih => rw [List.reverse_cons, List.reverse_cons]; exact Vals.append ih (.cons r .nil)
section
variable {X : Cx} {pins : List (Addr × Obj)} {σ : St} {H : Hp} {s : Shared} {l b : Addr} {xs ys zs : List V}

theorem Inv.lset {its its' : List Value} {n : Nat} {f : Array Value → Array Value} {t' : Nat} (I : Inv X pins σ H s) (hH : H l = some (.lst xs))
    (e : s.heap.get? l = some { cls := .type "list", data := .seq its.toArray n }) (hf : f its.toArray = its'.toArray) (hv : Vals ys its') (hz : ys.length ≤ sizeLine) :
    Inv X pins σ (upd H l (.lst ys)) { s with heap := s.heap.update l (Obj.mapSeq f), toks := t' } := by
  have q := PySem.IsL.update e f
  rw [hf] at q
  refine I.write (x := l) (e := l) (by rw [hH]; exact trivial) (.inl rfl) (fun b' u hb hu => (Heap.get?_update_other s.heap (Obj.mapSeq f) (Ne.symm hb)).trans hu) ⟨_, q⟩ ?_
  exact ⟨hz, its', _, hv, q⟩
theorem Inv.lnew {its : List Value} {t' : Nat} (I : Inv X pins σ H s) (hv : Vals ys its) (hz : ys.length ≤ sizeLine) :
    Inv X pins σ (upd H s.heap.objs.size (.lst ys)) { s with heap := s.heap.push { cls := .type "list", data := .seq its.toArray }, toks := t' } :=
  I.laid (fun _ _ q => Heap.get?_push_of_some _ q) (Nat.le_refl _) ⟨hz, its, 0, hv, Heap.get?_push_size _ rfl⟩
theorem Inv.fresh (I : Inv X pins σ H s) : H s.heap.objs.size = none := I.hok.fresh (Nat.le_refl _)
theorem Inv.lstM (I : Inv X pins σ H s) (hH : H l = some (.lst xs)) : xs.length ≤ sizeLine ∧ ∃ (its : List Value) (n : Nat), Vals xs its ∧ xs.length = its.length ∧ s.heap.get? l = some { cls := .type "list", data := .seq its.toArray n } := by
  obtain ⟨z, its, n, r, e⟩ := I.hok l _ hH
  exact ⟨z, its, n, r, r.length, e⟩

end

section
variable {X : Cx}

def rAppend : V → List V → Hp → VK → Prop := fun x vs H Q => ∃ l xs y, x = .ref l ∧ vs = [y] ∧ H l = some (.lst xs) ∧ xs.length < sizeLine ∧ Q .non (upd H l (.lst (xs ++ [y])))
theorem mt_append : MtM X "list.append" rAppend := by
  intro pins s σ H x vs v us Q I rx rv h
  obtain ⟨l, xs, y, rfl, rfl, hH, hz, q⟩ := h
  cases rx
  obtain ⟨u, rfl, ru⟩ := rv.one
  obtain ⟨z, its, n, r, hl, e⟩ := I.lstM hH
  refine call_meets F.slot_list_append ⟨_, e, rfl⟩ F.entry_list_append (F.args_list_append_2 _ _) (PySem.list_append l its.toArray n u (by rw [List.size_toArray]; omega)) ⟨e, ?_⟩
  refine ⟨.non, _, I.lset (its' := its ++ [u]) hH e (by simp) (r.append (.cons ru .nil)) ?_, rfl, q⟩
  rw [List.length_append, List.length_singleton]
  omega

def rExtend : V → List V → Hp → VK → Prop := fun x vs H Q => ∃ l b xs zs, x = .ref l ∧ vs = [.ref b] ∧ H l = some (.lst xs) ∧ H b = some (.lst zs) ∧ xs.length + zs.length ≤ sizeLine ∧ Q .non (upd H l (.lst (xs ++ zs)))
def rPop : V → List V → Hp → VK → Prop := fun x vs H Q => ∃ l xs y, x = .ref l ∧ vs = [] ∧ H l = some (.lst xs) ∧ xs[xs.length - 1]? = some y ∧ Q y (upd H l (.lst xs.dropLast))
def rPopAt : V → List V → Hp → VK → Prop := fun x vs H Q => ∃ l xs i k y, x = .ref l ∧ vs = [.int i] ∧ H l = some (.lst xs) ∧ -(2 ^ 63) ≤ i ∧ i < 2 ^ 63 ∧ seqIndex? i xs.length = some k ∧ xs[k]? = some y ∧ Q y (upd H l (.lst (xs.eraseIdx k)))
def rReverse : V → List V → Hp → VK → Prop := fun x vs H Q => ∃ l xs, x = .ref l ∧ vs = [] ∧ H l = some (.lst xs) ∧ Q .non (upd H l (.lst xs.reverse))
def rClear : V → List V → Hp → VK → Prop := fun x vs H Q => ∃ l xs, x = .ref l ∧ vs = [] ∧ H l = some (.lst xs) ∧ Q .non (upd H l (.lst []))
def rCat : R2 := fun x y H Q => ∃ l b xs zs, x = .ref l ∧ y = .ref b ∧ H l = some (.lst xs) ∧ H b = some (.lst zs) ∧ xs.length + zs.length ≤ sizeLine ∧ ∀ p, H p = none → Q (.ref p) (upd H p (.lst (xs ++ zs)))
def rRep : R2 := fun x y H Q => ∃ l k xs, x = .ref l ∧ y = .int k ∧ H l = some (.lst xs) ∧ -(2 ^ 63) ≤ k ∧ k < 2 ^ 63 ∧ xs.length * k.toNat ≤ sizeLine ∧
  ∀ p, H p = none → Q (.ref p) (upd H p (.lst (List.replicate k.toNat xs).flatten))
end

section
variable {prog : Program} {w : World} {A : Around} {E : Value → Shared → Prop} {s : Shared}
end

section
variable {X : Cx}
end
end L2

namespace Att
open PySem PySem.W PySem.Calls PyProof.Rows

theorem ints_of_wellAll {P : Params} {h : Heap} : ∀ (ns : List Int) (vs : List Value), WellAll P h vs (ns.map WData.int) → IntsAre vs ns := by
  intro ns
  induction ns with
  | nil =>
    intro vs w
    rw [List.map_nil] at w
    cases w
    exact .nil
  | cons n ns ih =>
    intro vs w
    rw [List.map_cons] at w
    cases w with
    | cons a b =>
      cases a
      exact .cons _ _ (ih _ b)

theorem script_of {l : OpenLaw} {n : Nat} (hn : l.most = some n) {P : Params} {h : Heap} {args : List WData} {vals : List Value}
    (hpre : l.row.toRowW.claim.pre args = true) (hwl : WellAll P h vals args) :
    ∃ a vs ns, vals = [Value.ref a] ∧ args = [WData.list (ns.map WData.int)] ∧ h.get? a = some { cls := .type "list", data := .seq vs.toArray } ∧ IntsAre vs ns ∧ ns.length ≤ n := by
  have hsh : WShape.hasAll [] args [.list .int] = true := (pre_splitW hpre).1
  have hc : l.pre.holds [] { args := args } = true := (pre_splitW hpre).2
  obtain ⟨d, r, rfl, h1, h2⟩ := hasAllW_cons hsh
  obtain rfl := hasAllW_nil h2
  obtain ⟨xs, rfl, h3⟩ := hasW_list h1
  obtain ⟨ns, rfl⟩ := items_int h3
  have hlen : ns.length ≤ n := by
    unfold OpenLaw.pre at hc
    have h4 : (WTm.not (.lt (.lit (.int (n : Int))) (.len (.arg 0)))).holds [] { args := [.list (ns.map .int)] } = true := by
      have h4 := (holds_andW hc).1
      rw [hn] at h4
      exact h4
    have h5 := condW_of h4 (w_not (w_lt w_lit (w_len_list (w_arg rfl))))
    rw [List.length_map] at h5
    refine Nat.le_of_not_lt fun q => ?_
    have q' : (n : Int) < ((ns.length : Nat) : Int) := by omega
    first
      | (rw [decide_eq_true q'] at h5; exact absurd h5 (by decide))
      | (simp at h5; omega)
  cases hwl with
  | cons w1 w2 =>
    cases w2
    cases w1 with
    | list ho hall => exact ⟨_, _, ns, rfl, rfl, ho, ints_of_wellAll ns _ hall, hlen⟩

theorem post_true (l : OpenLaw) (args : List WData) : l.row.toRowW.claim.post args (.bool true) args = true :=
  postW_of (r := l.row.toRowW) (X := (true == true))
    (show WShape.has [] (.bool true) .bool = true by first | rfl | decide | simp [WShape.has, WShape.arms, WShape.armsAll])
    (show (WTm.eq .res (.lit (.bool true))).value [] { args := args, res := some (.bool true), after := args } = some (.bool (true == true)) from w_eq_bool (w_res rfl) w_lit) rfl

theorem attach_call {l : OpenLaw} {n : Nat} {q : Program} {loose : List Str} {XP : (Str → Option Value) → Heap → Prop} {YP : World → Heap → Prop} {d : DefRec}
    (hn : l.most = some n) (hdf : d.params.defaults = [])
    (call : ∀ (w : World) (s₀ s₁ : Shared) (mg mb : Str → Option Value) (fa : Addr) (o : Obj) (pm cd doc : Value) (a : Addr) (vs : List Value) (ns : List Int),
      Ground q loose [] XP w s₀ mg mb s₁.heap → YP w s₁.heap →
      s₁.heap.get? fa = some o → o.data = .func (docDef d.name d.params d.body d.scope pm cd doc) → s₁.heap.CodeRec cd d.name → mg d.name = some (.ref fa) →
      s₁.heap.get? a = some { cls := .type "list", data := .seq vs.toArray } → IntsAre vs ns → ns.length ≤ n → s₁.gens = #[] →
      codeAny (model l.prog w) callerA (.call (.ref fa) ⟨[.ref a], []⟩) (fun r s' => r = .ok (.ret (.bool true)) ∧ OldK s₁.heap s'.heap ∧ s'.os = s₁.os ∧ AllBare s'.gens) s₁) :
    WalkO q loose XP YP l.row.toRowW d [] (fun f vs => PySem.call f vs) := by
  intro w s₀ s₁ mg mb G Y fa o pm cd doc dV kV ho hd hcd hD hmg hg args vals as hpre hlay hrd hwl hlo
  obtain rfl : dV = .none := Dflts.none hD hdf
  obtain rfl : kV = .none := Dflts.noKw hD
  obtain ⟨a, vs, ns, rfl, rfl, hobj, hints, hlen⟩ := script_of hn hpre hwl
  refine enter_call (codeAny_mono (call w s₀ s₁ mg mb fa o pm cd doc a vs ns G Y ho (fd_plain hd) hcd hmg hobj hints hlen hg) fun r s' hq => ?_)
  obtain ⟨rfl, h2, h3, h4⟩ := hq
  exact ⟨.inl ⟨.bool true, .bool true, [], rfl, fun _ => rfl, .bool true, post_true l _, fun _ => ⟨List.Pairwise.nil, fun _ hm => (nomatch hm)⟩⟩, h2, h3, h4⟩

section
variable {prog : Program} {w : World} {A : Around} {E : Value → Shared → Prop} {s : Shared} {K : Frag}

def noObjs (h : Heap) : Heap := { h with objs := #[] }
def ledger (h : Heap) (L d : Addr) : List (Addr × Obj) := (List.range h.objs.size).filterMap fun a => if a = L ∨ a = d then none else (h.get? a).map fun o => (a, o)
end
end Att

namespace L2
open PySem PySem.Spec PyProof.Rows

theorem vals_ints : ∀ {vs : List Value} {ns : List Int}, IntsAre vs ns → Vals (ns.map V.int) vs
  | _, _, .nil => .nil
  | _, _, .cons n t h => .cons ⟨t, rfl⟩ (vals_ints h)

def Only (H : Hp) : Prop := ∀ b, H b = none ∨ ∃ o xs, H b = some (.frz o (.lst xs))

theorem law_call {P : Program} {w : World} {K : PySem.W.Frag} {mg mb : Str → Option Value} {CX : CXT} {k : Nat} {fa a : Addr} {fd : FuncData} {x : Str} {sp : Sp} {s₁ : Shared} {vs : List Value} {ns : List Int}
    (KX : K.In s₁.heap) (hns : s₁.heap.Ns mainGlobals mg) (hb : s₁.heap.Ns builtinsNs mb) (hbb : ∀ x : Str, x ≠ "__name__" → mb x = bootBuiltins x) (hlim : s₁.heap.NoLimit) (hg : s₁.gens = #[])
    (ha : s₁.heap.get? a = some { cls := .type "list", data := .seq vs.toArray }) (hi : IntsAre vs ns) (hl : ns.length ≤ sizeLine) (hr : Room k callerA)
    (F : ∀ base : Heap, K.In base → base.Ns mainGlobals mg → FnOk P w K mg base CX k fa fd [x] sp) (hbind : ∀ (s : Shared) (u : Value), BindsTo s fd ⟨[u], []⟩ [(x, u)])
    (hsp : ∀ H : Hp, Only H → SqL K H a (ns.map V.int) → sp [.ref a] H (fun v _ => v = .bl true) fun _ _ _ => False)
    (hCX : ∀ H e s', CX [] H s₁ (fun _ _ _ => False) e s' → False) :
    codeAny (model P w) callerA (.call (.ref fa) ⟨[.ref a], []⟩) (fun r s' => r = .ok (.ret (.bool true)) ∧ OldK s₁.heap s'.heap ∧ s'.os = s₁.os ∧ AllBare s'.gens) s₁ := by
  have rv := vals_ints hi
  have lenV := hi.length
  -- from an abstract heap in which nothing but the script may be tracked
  have core : ∀ H : Hp, Only H → SqL K H a (ns.map V.int) → HOk P w H s₁.heap → (∀ b, H b ≠ none → b = a) → (H a ≠ none → K.lookup a = none) →
      codeAny (model P w) callerA (.call (.ref fa) ⟨[.ref a], []⟩) (fun r s' => r = .ok (.ret (.bool true)) ∧ OldK s₁.heap s'.heap ∧ s'.os = s₁.os ∧ AllBare s'.gens) s₁ := by
    intro H hO hS hok hA hK
    have base_of : ∀ {b : Addr} {o : Obj}, s₁.heap.get? b = some o → H b = none → (hidT s₁.heap H).get? b = some o := fun e n => hidT_get e n
    have noA : ∀ {b : Addr} {o : Obj} {es : Array DictEntry} {ep : Nat}, s₁.heap.get? b = some o → o.data = .dict es ep → H b = none := fun {b o es ep} e d => by
      cases q : H b with
      | none => rfl
      | some u =>
        have e' : b = a := hA b (by rw [q]; simp)
        subst e'
        rw [ha] at e; cases e
        have d' : Data.seq vs.toArray _ = Data.dict es ep := d
        cases d'
    have nsK : ∀ {b : Addr} {m : Str → Option Value}, s₁.heap.Ns b m → (hidT s₁.heap H).Ns b m := fun {b m} ⟨o, es, ep, e, d, r⟩ => ⟨o, es, ep, base_of e (noA e d), d, r⟩
    have hKb : K.In (hidT s₁.heap H) := fun b o e => base_of (KX b o e) (by
      cases q : H b with
      | none => rfl
      | some u =>
        have e' : b = a := hA b (by rw [q]; simp)
        subst e'
        rw [hK (by rw [q]; simp)] at e; cases e)
    have hM : Mod K mg (hidT s₁.heap H) := ⟨hKb, nsK hns, ⟨mb, nsK hb, hbb⟩, let ⟨mc, h1, h2⟩ := hlim; ⟨mc, nsK h1, h2⟩⟩
    have e0 : Env0 P w K mg (hidT s₁.heap H) callerA [] s₁ H := ⟨rfl, hM, fun b o e => of_hidT e, Nat.le_of_eq (hidT_size _ _), trivial, fun b hb => absurd (show b ∈ ([] : List Addr) from hb) (by simp), hok, .of_eq hg⟩
    refine codeAny_mono ((F _ hKb (nsK hns)).run callerA [] s₁ H ⟨[.ref a], []⟩ [.ref a] [.ref a] _ _ hr e0 (hbind s₁ (.ref a)) (.cons rfl .nil) (hsp H hO hS)) fun r s' h => ?_
    cases r with
    | error e => exact (hCX H e s' h).elim
    | ok fl =>
      cases fl with
      | next => exact False.elim h
      | brk => exact False.elim h
      | cont => exact False.elim h
      | ret u =>
        obtain ⟨v, H', os, bare, un, hok', r', q⟩ := h
        have q' : v = .bl true := q
        subst q'
        obtain rfl : u = Value.bool true := r'
        refine ⟨rfl, OldK.of_keep fun b o e => ?_, os, bare⟩
        cases q : H b with
        | none => exact un.keep b o e q (by intro z; exact absurd (show b ∈ ([] : List Addr) from z) (by simp)) (by simp)
        | some u =>
          rcases hO b with z | ⟨ob, xs, z⟩
          · rw [q] at z; cases z
          · have z2 := un.frzs b ob _ z
            obtain ⟨e1, _⟩ := hok b _ z
            obtain ⟨e2, _⟩ := hok' b _ z2
            rw [e] at e1; cases e1
            exact e2
  cases hk : K.lookup a with
  | some o =>
    -- the script is one of the module's own objects
    have e := KX a o hk
    rw [ha] at e
    cases e
    refine core (fun _ => none) (fun _ => .inl rfl) (.inr ⟨_, vs.toArray, _, hk, rfl, rfl, rfl, by rw [List.size_toArray, lenV]; exact hl, by simpa using rv⟩) (fun b u z => by have z' : (none : Option HO) = some u := z; cases z') (fun b z => absurd rfl z) fun z => absurd rfl z
  | none =>
    refine core (fun b => if b = a then some (.frz { cls := .type "list", data := .seq vs.toArray } (.lst (ns.map V.int))) else none) (fun b => ?_) (.inl (.inr ⟨{ cls := .type "list", data := .seq vs.toArray }, if_pos rfl⟩)) (fun b u z => ?_) (fun b z => ?_) fun _ => hk
    · by_cases hb : b = a
      · exact .inr ⟨_, _, if_pos hb⟩
      · exact .inl (if_neg hb)
    · by_cases hb : b = a
      · have z' := (if_pos hb).symm.trans z
        cases z'
        subst hb
        exact ⟨ha, by rw [List.length_map]; exact hl, vs, _, rv, ha⟩
      · have z' := (if_neg hb).symm.trans z
        cases z'
    · by_cases hb : b = a
      · exact hb
      · exact absurd (if_neg hb) z
end L2

namespace L2
open PySem PySem.Spec PyProof.Rows

abbrev KOf {K : PySem.W.Frag} {h : Heap} (_ : K.In h) : PySem.W.Frag := K

theorem walk_of {l : PySem.W.OpenLaw} {n k : Nat} {q : Program} {loose : List Str} {XP : (Str → Option Value) → Heap → Prop} {YP : World → Heap → Prop} {d : DefRec} {K : Params → PySem.W.Frag} {CX : World → CXT} {sp : World → Sp} {x : Str}
    (hn : l.most = some n) (hn2 : n ≤ sizeLine) (hdf : d.params.defaults = []) (hr : Room k callerA)
    (hY : ∀ (w : World) (h : Heap), YP w h → (K w.params).In h)
    (F : ∀ (w : World) (mg : Str → Option Value) (fa : Addr) (h : Heap), (K w.params).In h → h.Ns mainGlobals mg → mg d.name = some (.ref fa) →
      ∃ fd : FuncData, (∀ (s : Shared) (u : Value), BindsTo s fd ⟨[u], []⟩ [(x, u)]) ∧
        ∀ base : Heap, (K w.params).In base → base.Ns mainGlobals mg → FnOk l.prog w (K w.params) mg base (CX w) k fa fd [x] (sp w))
    (hsp : ∀ (w : World) (H : Hp) (a : Addr) (ns : List Int), ns.length ≤ n → Only H → SqL (K w.params) H a (ns.map V.int) → sp w [.ref a] H (fun v _ => v = .bl true) fun _ _ _ => False)
    (hCX : ∀ (w : World) (H : Hp) (s : Shared) (e : Value) (s' : Shared), CX w [] H s (fun _ _ _ => False) e s' → False) :
    PySem.W.WalkO q loose XP YP l.row.toRowW d [] (fun f vs => PySem.call f vs) := by
  refine Att.attach_call hn hdf fun w s₀ s₁ mg mb fa o pm cd doc a vs ns G Y ho hd hcd hmg hobj hints hlen hg => ?_
  have KX := hY w _ Y
  obtain ⟨fd, hb, hF⟩ := F w mg fa _ KX G.T.g hmg
  exact law_call KX G.T.g G.T.b G.T.builtins G.T.nolimit hg hobj hints (Nat.le_trans hlen hn2) hr hF hb (fun H hO hS => hsp w H a ns hlen hO hS) fun H e s' => hCX w H s₁ e s'
end L2


namespace L2
open PySem PySem.Spec PyProof.Rows

def inClass (s : Stmt) (j : Nat) : Stmt := match s with
  | .ClassDef _ _ _ body _ _ _ _ _ _ _ => body.getD j (.Pass ⟨0, 0, 0, 0⟩)
  | _ => .Pass ⟨0, 0, 0, 0⟩
def defArgs (s : Stmt) : Arguments := match s with
  | .FunctionDef _ a _ _ _ _ _ _ _ _ => a
  | _ => { posonlyargs := [], args := [], vararg := none, kwonlyargs := [], kw_defaults := [], kwarg := none, defaults := [] }
def defBody (s : Stmt) : List Stmt := match s with
  | .FunctionDef _ _ b _ _ _ _ _ _ _ => b
  | _ => []
def defScope (s : Stmt) : Scope := match s with
  | .FunctionDef _ _ _ _ _ _ sc _ _ _ => sc
  | _ => { kind := .function, names := [], isGenerator := false, isCoroutine := false }

abbrev CX0 : CXT := fun _ _ _ _ _ _ => False
abbrev E0 : XK := fun _ _ _ => False
theorem pass0 {X : Cx} : Passes CX0 X E0 := fun _ _ _ _ _ _ _ h => h.elim

structure Fun (K : PySem.W.Frag) (x qual : Str) (st : Stmt) (f : Addr) (fd : FuncData) : Prop where
  ex : ∃ (oc : Value) (od : Option Addr) (kV doc pm : Value) (an : Option Addr) (cdv ct : Value) (osl : Array (Option Value)),
    fd = PySem.W.fnOf x qual (defArgs st) (defBody st) (defScope st) .none kV doc pm an cdv ct ∧ K.lookup f = some ⟨oc, od, .func fd, osl⟩ ∧ PySem.W.codeIn K cdv qual = true
  kp : PySem.W.keepIn K (.ref f) = true
section
variable {P : Program} {w : World} {K : PySem.W.Frag} {mg : Str → Option Value} {base : Heap}
theorem Fun.ok {x qual : Str} {st : Stmt} {f : Addr} {fd : FuncData} {N ps : List Str} {k : Nat} {sp : Sp} (F : Fun K x qual st f fd) (S : FnScope N ps (defScope st)) (len : ∀ vs H Q E, sp vs H Q E → vs.length = ps.length)
    (hbody : ∀ (cdv : Value) (A : Around) (outer : List Env) (s : Shared) (H : Hp) (vs : List V) (Q : VK) (E : XK), Room k (A.deeper (envOfC qual (defScope st) s.heap.objs.size f cdv)) → sp vs H Q E →
      ∃ t, PSs (cxOf CX0 P w K mg base N qual (defScope st) f cdv A outer s H E).nox (defBody st) t ∧ t { nx := fun _ H' => Q .non H', rt := Q } (start N vs) H) : FnOk P w K mg base CX0 (k + 1) f fd ps sp := by
  obtain ⟨oc, od, kV, doc, pm, an, cdv, ct, osl, rfl, lk, hcd⟩ := F.ex
  refine fn_of lk hcd S len fun A outer s H vs Q E hr hsp => ?_
  obtain ⟨t, h, q⟩ := hbody cdv A outer s H vs Q E hr hsp
  exact ⟨t, h.nox, q⟩
theorem Fun.binds {x qual : Str} {st : Stmt} {f : Addr} {fd : FuncData} {ps : List Str} (F : Fun K x qual st f fd)
    (h : ∀ (kV doc pm : Value) (an : Option Addr) (cdv ct : Value) (us : List Value), us.length = ps.length → bindArgs (PySem.W.fnOf x qual (defArgs st) (defBody st) (defScope st) .none kV doc pm an cdv ct) ⟨us, []⟩ = pure (ps.zip us)) : Binds K fd ps [] := by
  obtain ⟨oc, od, kV, doc, pm, an, cdv, ct, osl, rfl, lk, hcd⟩ := F.ex
  exact .all (h kV doc pm an cdv ct)
end
theorem small1000 {n : Nat} (h : n ≤ 1000) : n < sizeLine := Nat.lt_of_le_of_lt h (by decide)

section
variable {X : Cx}
end

def Same (H H' : Hp) : Prop := ∀ b o, H b = some o → H' b = some o
theorem Same.refl (H : Hp) : Same H H := fun _ _ h => h
theorem Same.trans {H H1 H2 : Hp} (a : Same H H1) (b : Same H1 H2) : Same H H2 := fun c o h => b c o (a c o h)
theorem Same.free {H H' : Hp} (e : Same H H') {l : Addr} (h : H' l = Option.none) : H l = Option.none := by
  cases q : H l with
  | none => rfl
  | some o =>
    rw [e l o q] at h
    cases h
theorem Same.seq {K : PySem.W.Frag} {H H' : Hp} {a : Addr} {xs : List V} (e : Same H H') (h : SqL K H a xs) : SqL K H' a xs := by
  rcases h with (h | ⟨o, h⟩) | h
  · exact .inl (.inl (e _ _ h))
  · exact .inl (.inr ⟨o, e _ _ h⟩)
  · exact .inr h

end L2

namespace L2
open PySem PySem.Spec PyProof.Rows

section
variable {κ : Type} [DecidableEq κ]
def valV (kvs : List (κ × V)) (k : κ) : Option V := (kvs.find? fun kv => decide (kv.1 = k)).map (·.2)
def putK (kvs : List (κ × V)) (k : κ) (v : V) : List (κ × V) :=
  if (kvs.any fun kv => decide (kv.1 = k)) = true then kvs.map (fun kv => if kv.1 = k then (kv.1, v) else kv) else kvs ++ [(k, v)]
def dropK (kvs : List (κ × V)) (k : κ) : List (κ × V) := kvs.filter fun kv => decide (kv.1 ≠ k)

theorem valV_pos {p : κ × V} {r : List (κ × V)} {k : κ} (e : p.1 = k) : valV (p :: r) k = some p.2 := by simp [valV, List.find?_cons, e]
theorem valV_neg {p : κ × V} {r : List (κ × V)} {k : κ} (e : ¬ p.1 = k) : valV (p :: r) k = valV r k := by simp [valV, List.find?_cons, e]
theorem valV_any (k : κ) : ∀ kvs : List (κ × V), (kvs.any fun kv => decide (kv.1 = k)) = (valV kvs k).isSome
  | [] => rfl
  | p :: r => by
    rw [List.any_cons]
    by_cases e : p.1 = k
    · simp only [valV_pos e, decide_eq_true e, Bool.true_or, Option.isSome_some]
    · rw [valV_neg e, decide_eq_false e, Bool.false_or]; exact valV_any k r
theorem RelO.isSome_eq {o : Option V} {u : Option Value} (r : RelO o u) : o.isSome = u.isSome := by
  cases o with
  | none => cases u with
    | none => rfl
    | some _ => exact (show False from r).elim
  | some _ => cases u with
    | none => exact (show False from r).elim
    | some _ => rfl
theorem RelO.getD {o : Option V} {u : Option Value} {d : V} {d' : Value} (r : RelO o u) (rd : RelV d d') : RelV (o.getD d) (u.getD d') := by
  cases o with
  | none => cases u with
    | none => exact rd
    | some _ => exact (show False from r).elim
  | some _ => cases u with
    | none => exact (show False from r).elim
    | some _ => exact r

theorem KV.val {kvs : List (κ × V)} {vs : List (κ × Value)} (r : KV kvs vs) (k : κ) : RelO (valV kvs k) (valueAt vs k) := by
  unfold KV at r
  induction r with
  | nil => exact True.intro
  | @cons p q ps qs h t ih =>
    obtain ⟨h1, h2⟩ := h
    by_cases e : p.1 = k
    · have e' : q.1 = k := h1.symm.trans e
      have b : valueAt (q :: qs) k = some q.2 := by simp [valueAt, List.find?_cons, e']
      rw [valV_pos e, b]; exact h2
    · have e' : ¬ q.1 = k := fun z => e (h1.trans z)
      have b : valueAt (q :: qs) k = valueAt qs k := by simp [valueAt, List.find?_cons, e']
      rw [valV_neg e, b]; exact ih
theorem KV.any {kvs : List (κ × V)} {vs : List (κ × Value)} (r : KV kvs vs) (k : κ) : (kvs.any fun kv => decide (kv.1 = k)) = vs.any fun kv => decide (kv.1 = k) := by
  unfold KV at r
  induction r with
  | nil => rfl
  | cons h t ih => rw [List.any_cons, List.any_cons, ih, h.1]
theorem KV.repl {kvs : List (κ × V)} {vs : List (κ × Value)} (r : KV kvs vs) (k : κ) {y : V} {u : Value} (ry : RelV y u) :
    KV (kvs.map fun kv => if kv.1 = k then (kv.1, y) else kv) (vs.map fun kv => if kv.1 = k then (kv.1, u) else kv) := by
  unfold KV at r ⊢
  induction r with
  | nil => exact .nil
  | @cons p q ps qs h t ih =>
    rw [List.map_cons, List.map_cons]
    refine .cons ?_ ih
    obtain ⟨h1, h2⟩ := h
    by_cases e : p.1 = k
    · rw [if_pos e, if_pos (h1.symm.trans e)]; exact ⟨h1, ry⟩
    · rw [if_neg e, if_neg (fun z => e (h1.trans z))]; exact ⟨h1, h2⟩
theorem KV.put {kvs : List (κ × V)} {vs : List (κ × Value)} (r : KV kvs vs) (k : κ) {y : V} {u : Value} (ry : RelV y u) : KV (putK kvs k y) (stored vs k u) := by
  unfold putK stored
  rw [r.any k]
  by_cases e : (vs.any fun kv => decide (kv.1 = k)) = true
  · rw [if_pos e, if_pos e]; exact r.repl k ry
  · rw [if_neg e, if_neg e]; exact Paired.snoc r ⟨rfl, ry⟩
theorem KV.drop {kvs : List (κ × V)} {vs : List (κ × Value)} (r : KV kvs vs) (k : κ) : KV (dropK kvs k) (without vs k) := by
  unfold KV at r ⊢
  unfold dropK without
  induction r with
  | nil => exact .nil
  | @cons p q ps qs h t ih =>
    obtain ⟨h1, h2⟩ := h
    rw [List.filter_cons, List.filter_cons]
    by_cases e : p.1 = k
    · have a : ¬ decide (p.1 ≠ k) = true := by simp [e]
      have b : ¬ decide (q.1 ≠ k) = true := by simp [h1.symm.trans e]
      rw [if_neg a, if_neg b]; exact ih
    · have e' : ¬ q.1 = k := fun z => e (h1.trans z)
      have a : decide (p.1 ≠ k) = true := by simp [e]
      have b : decide (q.1 ≠ k) = true := by simp [e']
      rw [if_pos a, if_pos b]; exact .cons ⟨h1, h2⟩ ih
theorem KV.keys {kvs : List (κ × V)} {vs : List (κ × Value)} (r : KV kvs vs) : kvs.map (·.1) = vs.map (·.1) := by
  unfold KV at r
  induction r with
  | nil => rfl
  | cons h t ih => rw [List.map_cons, List.map_cons, ih, h.1]
theorem KV.length {kvs : List (κ × V)} {vs : List (κ × Value)} (r : KV kvs vs) : kvs.length = vs.length := Paired.length r
end


abbrev KT (H : Hp) : List (List Key × V) → List (List Key × Addr × Value) → Prop := Paired fun p q => p.1 = q.1 ∧ H q.2.1 = some (.tup (p.1.map kV)) ∧ RelV p.2 q.2.2
theorem KT.val {H : Hp} {kvs : List (List Key × V)} {xs : List (List Key × Addr × Value)} (r : KT H kvs xs) (k : List Key) : RelO (valV kvs k) ((atKey xs k).map (·.2)) := by
  induction r with
  | nil => exact True.intro
  | @cons p q ps qs h t ih =>
    obtain ⟨h1, _, h2⟩ := h
    by_cases e : p.1 = k
    · have e' : q.1 = k := h1.symm.trans e
      have b : atKey (q :: qs) k = some q.2 := by simp [atKey, List.find?_cons, e']
      rw [valV_pos e, b]; exact h2
    · have e' : ¬ q.1 = k := fun z => e (h1.trans z)
      have b : atKey (q :: qs) k = atKey qs k := by simp [atKey, List.find?_cons, e']
      rw [valV_neg e, b]; exact ih
theorem KT.repl {H : Hp} {kvs : List (List Key × V)} {xs : List (List Key × Addr × Value)} (r : KT H kvs xs) (k : List Key) {y : V} {u : Value} (ry : RelV y u) :
    KT H (kvs.map fun kv => if kv.1 = k then (kv.1, y) else kv) (xs.map (putAt k u)) := by
  induction r with
  | nil => exact .nil
  | @cons p q ps qs h t ih =>
    rw [List.map_cons, List.map_cons]
    refine .cons ?_ ih
    obtain ⟨h1, h2, h3⟩ := h
    unfold putAt
    by_cases e : p.1 = k
    · rw [if_pos e, if_pos (h1.symm.trans e)]; exact ⟨h1, h2, ry⟩
    · rw [if_neg e, if_neg (fun z => e (h1.trans z))]; exact ⟨h1, h2, h3⟩
theorem KT.put {H : Hp} {kvs : List (List Key × V)} {xs : List (List Key × Addr × Value)} (r : KT H kvs xs) (k : List Key) {b : Addr} {y : V} {u : Value} (hb : H b = some (.tup (k.map kV))) (ry : RelV y u) :
    KT H (putK kvs k y) (storedH xs k b u) := by
  have e : (kvs.any fun kv => decide (kv.1 = k)) = (atKey xs k).isSome := by
    rw [valV_any, (r.val k).isSome_eq, Option.isSome_map]
  unfold putK storedH
  rw [e]
  by_cases q : (atKey xs k).isSome = true
  · rw [if_pos q, if_pos q]; exact r.repl k ry
  · rw [if_neg q, if_neg q]; exact Paired.snoc r ⟨rfl, hb, ry⟩
theorem KT.keeps {H H' : Hp} {kvs : List (List Key × V)} {xs : List (List Key × Addr × Value)} (r : KT H kvs xs) (ht : ∀ b ys, H b = some (.tup ys) → H' b = some (.tup ys)) : KT H' kvs xs :=
  Paired.mapP r fun _ _ z => ⟨z.1, ht _ _ z.2.1, z.2.2⟩

section
variable {P : Program} {w : World} {H : Hp} {h : Heap} {a : Addr}
theorem rd_of {u : HO} (ok : HOk P w H h) (e : Rd H a u) : ObjOk P w H h a u := e.ok ok
theorem dk_rd {kvs : List (Key × V)} (ok : HOk P w H h) (e : Rd H a (.dK kvs)) : kvs.length ≤ sizeLine ∧ (a == sysModules) = false ∧ ∃ vs, KV kvs vs ∧ h.DictOf (mixKind P w) a vs :=
  show ObjOk P w H h a (.dK kvs) from rd_of ok e
end

def DGet (H : Hp) (a : Addr) (y : V) (r : Option V) : Prop :=
  (∃ kvs k, Rd H a (.dK kvs) ∧ y = kV k ∧ r = valV kvs k) ∨ ∃ kvs k b, Rd H a (.dT kvs) ∧ y = .ref b ∧ H b = some (.tup (k.map kV)) ∧ r = valV kvs k
def DPut (H : Hp) (a : Addr) (y v : V) (H' : Hp) : Prop :=
  (∃ kvs k, H a = some (.dK kvs) ∧ y = kV k ∧ kvs.length < sizeLine ∧ H' = upd H a (.dK (putK kvs k v))) ∨
  ∃ kvs k b, H a = some (.dT kvs) ∧ y = .ref b ∧ H b = some (.tup (k.map kV)) ∧ kvs.length < sizeLine ∧ H' = upd H a (.dT (putK kvs k v))
theorem DGet.k {H : Hp} {a : Addr} {kvs : List (Key × V)} {k : Key} (e : H a = some (.dK kvs)) : DGet H a (kV k) (valV kvs k) := .inl ⟨kvs, k, .inl e, rfl, rfl⟩
theorem DGet.t {H : Hp} {a b : Addr} {kvs : List (List Key × V)} {k : List Key} (e : H a = some (.dT kvs)) (eb : H b = some (.tup (k.map kV))) : DGet H a (.ref b) (valV kvs k) := .inr ⟨kvs, k, b, .inl e, rfl, eb, rfl⟩
theorem DPut.k {H : Hp} {a : Addr} {kvs : List (Key × V)} {k : Key} {v : V} (e : H a = some (.dK kvs)) (hl : kvs.length < sizeLine) : DPut H a (kV k) v (upd H a (.dK (putK kvs k v))) := .inl ⟨kvs, k, e, rfl, hl, rfl⟩
theorem DPut.t {H : Hp} {a b : Addr} {kvs : List (List Key × V)} {k : List Key} {v : V} (e : H a = some (.dT kvs)) (eb : H b = some (.tup (k.map kV))) (hl : kvs.length < sizeLine) :
    DPut H a (.ref b) v (upd H a (.dT (putK kvs k v))) := .inr ⟨kvs, k, b, e, rfl, eb, hl, rfl⟩


section
variable {X : Cx} {pins : List (Addr × Obj)} {σ : St} {H : Hp} {s : Shared} {a : Addr} {y v : V} {u r : Value} {o : Option V} {A : Around} {E : Value → Shared → Prop}

end

section
variable {X : Cx} {pins : List (Addr × Obj)} {σ : St} {H : Hp} {s : Shared} {a : Addr} {kvs : List (Key × V)} {k : Key} {u : Value} {A : Around} {E : Value → Shared → Prop}
theorem d_len {Q : Value → Shared → Prop} (I : Inv X pins σ H s) (e : Rd H a (.dK kvs)) (h : ∀ t s', Inv X pins σ H s' → Q (.int kvs.length t) s') : wpAny (model X.prog X.w) A (call (.builtin "len") [.ref a]) Q E s := by
  obtain ⟨z, hd, vs, rel, dd⟩ := dk_rd I.hok e
  refine call_len_dict hd dd (by rw [← rel.length]; rw [sizeLine_eq] at z; omega) ?_
  rw [← rel.length]
  exact h _ _ (I.tok _)
end


def NoSl (i : Expr) : Prop := ∀ ov iv, subscripted i false ov iv = operate [ov, iv] (getItem ov iv)
def tDGet (td ty : TE) : TE := fun σ H Q => td σ H fun x H1 => ty σ H1 fun y H2 => ∃ a v, x = .ref a ∧ DGet H2 a y (some v) ∧ Q v H2
def tDIn (ty td : TE) : TE := fun σ H Q => ty σ H fun y H1 => td σ H1 fun x H2 => ∃ a o, x = .ref a ∧ DGet H2 a y o ∧ Q (.bl o.isSome) H2
def tDNotIn (ty td : TE) : TE := fun σ H Q => ty σ H fun y H1 => td σ H1 fun x H2 => ∃ a o, x = .ref a ∧ DGet H2 a y o ∧ Q (.bl (!o.isSome)) H2
def sDPut (td ty tv : TE) : TS := fun D σ H => tv σ H fun v H1 => td σ H1 fun x H2 => ty σ H2 fun y H3 => ∃ a H4, x = .ref a ∧ DPut H3 a y v H4 ∧ D.nx σ H4
def sDAug (td ty tv : TE) (rd : V → V → Hp → VK → Prop) : TS := fun D σ H => td σ H fun x H1 => ty σ H1 fun y H2 => ∃ a v, x = .ref a ∧ DGet H2 a y (some v) ∧
  tv σ H2 fun y2 H3 => rd v y2 H3 fun z H4 => ∃ H5, DPut H4 a y z H5 ∧ D.nx σ H5
def sDDel (td ty : TE) : TS := fun D σ H => td σ H fun x H1 => ty σ H1 fun y H2 => ∃ a kvs k, x = .ref a ∧ H2 a = some (.dK kvs) ∧ y = kV k ∧ (valV kvs k).isSome = true ∧ D.nx σ (upd H2 a (.dK (dropK kvs k)))

section
variable {X : Cx} {o i e value : Expr} {pos pos' tpos : Pos} {td ty tv : TE}
end


def tDNewK : TE := fun _ H Q => ∀ p, H p = none → Q (.ref p) (upd H p (.dK []))
def tDNewT : TE := fun _ H Q => ∀ p, H p = none → Q (.ref p) (upd H p (.dT []))
section
variable {X : Cx} {pos : Pos}
end

def tPairs : List (TE × TE) → St → Hp → (List (V × V) → Hp → Prop) → Prop
  | [], _, H, Q => Q [] H
  | (tk, tv) :: r, σ, H, Q => tk σ H fun x H1 => tv σ H1 fun y H2 => tPairs r σ H2 fun ps H3 => Q ((x, y) :: ps) H3
abbrev VV : List (V × V) → List (Value × Value) → Prop := Paired fun p q => RelV p.1 q.1 ∧ RelV p.2 q.2
def PPs (X : Cx) (pos : Pos) (keys : List (Option Expr)) (values : List Expr) (trs : List (TE × TE)) : Prop :=
  ∀ (pins : List (Addr × Obj)) (s : Shared) (σ : St) (H : Hp) (Q : List (V × V) → Hp → Prop), Inv X pins σ H s → tPairs trs σ H Q →
    wpAny (model X.prog X.w) X.A (evalPairs (pairTrees keys values X.env pos)) (fun vs s' => ∃ ps H', Inv X pins σ H' s' ∧ VV ps vs ∧ Q ps H') X.xe s
def mergeK (kvs more : List (Key × V)) : List (Key × V) := more.foldl (fun acc kv => putK acc kv.1 kv.2) kvs
def tDisp (trs : List (TE × TE)) : TE := fun σ H Q => ∀ p, H p = none → tPairs trs σ (upd H p (.dK [])) fun ps H2 => H2 p = some (.dK []) ∧ ∃ kvs : List (Key × V), ps = kvs.map (fun kv => (kV kv.1, kv.2)) ∧ kvs.length ≤ 15 ∧ Q (.ref p) (upd H2 p (.dK (mergeK [] kvs)))
structure M1 (X : Cx) (o : Expr) (m : Str) (apos : Pos) (e : Expr) (cpos : Pos) : Prop where
  base : attributeBase o m X.env (eval o X.env) = eval o X.env
  few : ((backTo cpos (starEach [e] X.env)).all (fun x => !x.1) && (backToKw cpos (keywordEach [] X.env)).all (fun x => x.1.isSome)
    && decide (([e] : List Expr).length + ([] : List Keyword).length + (if ([] : List Keyword).isEmpty then 0 else 1) < 30)) = true
  line : (apos.endLine == cpos.line) = true
  trees : backTo cpos (starEach [e] X.env) = [(false, eval e X.env)]
structure M2 (X : Cx) (o : Expr) (m : Str) (apos : Pos) (e f : Expr) (cpos : Pos) : Prop where
  base : attributeBase o m X.env (eval o X.env) = eval o X.env
  few : ((backTo cpos (starEach [e, f] X.env)).all (fun x => !x.1) && (backToKw cpos (keywordEach [] X.env)).all (fun x => x.1.isSome)
    && decide (([e, f] : List Expr).length + ([] : List Keyword).length + (if ([] : List Keyword).isEmpty then 0 else 1) < 30)) = true
  line : (apos.endLine == cpos.line) = true
  trees : backTo cpos (starEach [e, f] X.env) = [(false, eval e X.env), (false, eval f X.env)]

def IsD (H : Hp) (a : Addr) : Prop := (∃ kvs, Rd H a (.dK kvs)) ∨ ∃ kvs, Rd H a (.dT kvs)
section
variable {X : Cx} {pins : List (Addr × Obj)} {σ : St} {H : Hp} {s : Shared} {a : Addr} {y d : V} {u r : Value} {o : Option V} {A : Around} {E : Value → Shared → Prop}
end

def tDGet1 (td ty : TE) : TE := fun σ H Q => td σ H fun x H1 => ∃ a, x = .ref a ∧ IsD H1 a ∧ ty σ H1 fun y H2 => ∃ o, DGet H2 a y o ∧ Q (o.getD .non) H2
def tDGet2 (td ty tx : TE) : TE := fun σ H Q => td σ H fun x H1 => ∃ a, x = .ref a ∧ IsD H1 a ∧ ty σ H1 fun y H2 => tx σ H2 fun z H3 => ∃ o, DGet H3 a y o ∧ Q (o.getD z) H3
def tDPop1 (td ty : TE) : TE := fun σ H Q => td σ H fun x H1 => ∃ a, x = .ref a ∧ IsD H1 a ∧ ty σ H1 fun y H2 => ∃ kvs k v, H2 a = some (.dK kvs) ∧ y = kV k ∧ valV kvs k = some v ∧ Q v (upd H2 a (.dK (dropK kvs k)))
def tDPop2 (td ty tx : TE) : TE := fun σ H Q => td σ H fun x H1 => ∃ a, x = .ref a ∧ IsD H1 a ∧ ty σ H1 fun y H2 => tx σ H2 fun z H3 => ∃ kvs k, H3 a = some (.dK kvs) ∧ y = kV k ∧
  (∀ v, valV kvs k = some v → Q v (upd H3 a (.dK (dropK kvs k)))) ∧ (valV kvs k = none → Q z H3)
section
variable {X : Cx} {o e f : Expr} {apos cpos : Pos} {td ty tx : TE}
end

section
variable {X : Cx} {pins : List (Addr × Obj)} {σ : St} {H : Hp} {s : Shared} {a : Addr} {kvs : List (Key × V)} {A : Around} {E : Value → Shared → Prop}
end


section
variable {X : Cx} {pins : List (Addr × Obj)} {σ : St} {H : Hp} {s : Shared} {a : Addr} {y : V} {u : Value} {A : Around} {E : Value → Shared → Prop}
end
end L2
namespace L2
open PySem PySem.Spec PyProof.Rows
section
variable {X : Cx}
theorem call_lenD : CallR X (.builtin "len") (fun xs H Q => ∃ a kvs, xs = [V.ref a] ∧ H a = some (.dK kvs) ∧ Q (.int kvs.length) H) := by
  intro pins s σ H xs us Q I r h
  obtain ⟨a, kvs, rfl, ha, q⟩ := h
  obtain ⟨u, rfl, ru⟩ := vals1 r
  cases ru
  exact d_len I (.inl ha) fun t s' I' => ⟨.int kvs.length, H, I', ⟨t, rfl⟩, q⟩
end
end L2
namespace L2
open PySem
section
variable {κ : Type} [DecidableEq κ]
end
end L2

namespace L2
open PySem PySem.Spec PyProof.Rows
def Sz (n : Nat) (i : Int) : Prop := i.natAbs < 2 ^ n
theorem Sz.bits {n : Nat} {i : Int} (h : Sz n i) : Builtin.Int.intBits i ≤ n := by
  unfold Builtin.Int.intBits
  by_cases h0 : (i == 0) = true
  · rw [if_pos h0]; exact Nat.zero_le _
  · rw [if_neg h0]
    have hi : i.natAbs ≠ 0 := by
      have : i ≠ 0 := by simpa using h0
      omega
    exact Nat.succ_le_of_lt ((Nat.log2_lt hi).mpr h)
theorem Sz.log {n : Nat} {i : Int} (h : Sz n i) (hn : 0 < n) : i.natAbs.log2 < n := by
  by_cases hi : i.natAbs = 0
  · rw [hi]; exact hn
  · exact (Nat.log2_lt hi).mpr h
theorem Sz.mono {n m : Nat} {i : Int} (h : Sz n i) (hm : n ≤ m) : Sz m i := Nat.lt_of_lt_of_le h (Nat.pow_le_pow_right (by decide) hm)
theorem Sz.sub {n : Nat} {i j : Int} (h : Sz n i) (h' : Sz n j) : Sz (n + 1) (i - j) := by
  unfold Sz at *
  rw [Nat.pow_succ]
  omega
theorem Sz.neg {n : Nat} {i : Int} (h : Sz n i) : Sz n (-i) := by
  unfold Sz at *
  omega
def CMulS (i j : Int) : Prop := CMul i j ∨ (Sz 100000 i ∧ Sz 100000 j)
theorem CMulS.ok {i j : Int} (h : CMulS i j) : IntMulOk i j := by
  rcases h with h | h
  · exact h.ok
  · exact IntMulOk.of_bits (Nat.le_trans h.1.bits (by decide)) (Nat.le_trans h.2.bits (by decide))
section
variable {X : Cx}
theorem op_mulS : OpR X (binaryOp .Mult) (rI CMulS fun i j => .int (i * j)) := opI fun _ _ _ _ _ _ _ hc q => mul_int q hc.ok
theorem op_fdivS : OpR X (binaryOp .FloorDiv) (rI (fun _ j => j ≠ 0 ∧ Sz 9000 j) fun i j => .int (i.fdiv j)) :=
  opI fun _ _ _ _ _ _ _ hc q => floordiv_int hc.1 q (.inl (PyProof.noPylong_of_log2 (hc.2.log (by decide))))
theorem RelV.bool_iff {x : V} {v : Value} {b : Bool} (r : RelV x v) : (v == Value.bool b) = decide (x = .bl b) := by
  cases x with
  | bl c =>
    cases (show v = Value.bool c from r)
    by_cases h : c = b
    · subst h; simp
    · have h1 : ¬ V.bl c = V.bl b := fun z => h (V.bl.inj z)
      rw [decide_eq_false h1]
      exact beq_eq_false_iff_ne.mpr fun z => h (by injection z)
  | non => cases (show v = Value.none from r); rw [decide_eq_false (fun z => nomatch z)]; exact beq_eq_false_iff_ne.mpr fun z => nomatch z
  | int i => obtain ⟨t, rfl⟩ := (show ∃ t, v = Value.int i t from r); rw [decide_eq_false (fun z => nomatch z)]; exact beq_eq_false_iff_ne.mpr fun z => nomatch z
  | str i => obtain ⟨t, rfl⟩ := (show ∃ t, v = Value.str i t from r); rw [decide_eq_false (fun z => nomatch z)]; exact beq_eq_false_iff_ne.mpr fun z => nomatch z
  | byt i => obtain ⟨t, rfl⟩ := (show ∃ t, v = Value.bytes i t from r); rw [decide_eq_false (fun z => nomatch z)]; exact beq_eq_false_iff_ne.mpr fun z => nomatch z
  | flt i => obtain ⟨t, rfl⟩ := (show ∃ t, v = Value.float i t from r); rw [decide_eq_false (fun z => nomatch z)]; exact beq_eq_false_iff_ne.mpr fun z => nomatch z
  | ref i => cases (show v = Value.ref i from r); rw [decide_eq_false (fun z => nomatch z)]; exact beq_eq_false_iff_ne.mpr fun z => nomatch z
  | ty i => cases (show v = Value.type i from r); rw [decide_eq_false (fun z => nomatch z)]; exact beq_eq_false_iff_ne.mpr fun z => nomatch z
theorem plainIs_bool {x : V} {v : Value} {b : Bool} (r : RelV x v) : plainIs v (.bool b) = true := by
  cases x with
  | bl c => cases (show v = Value.bool c from r); rfl
  | non => cases (show v = Value.none from r); rfl
  | int i => obtain ⟨t, rfl⟩ := (show ∃ t, v = Value.int i t from r); rfl
  | str i => obtain ⟨t, rfl⟩ := (show ∃ t, v = Value.str i t from r); rfl
  | byt i => obtain ⟨t, rfl⟩ := (show ∃ t, v = Value.bytes i t from r); rfl
  | flt i => obtain ⟨t, rfl⟩ := (show ∃ t, v = Value.float i t from r); rfl
  | ref i => cases (show v = Value.ref i from r); rfl
  | ty i => cases (show v = Value.type i from r); rfl
theorem op_isB : OpR X (compareOp .Is) (fun x y H Q => ∃ b, y = .bl b ∧ Q (.bl (decide (x = .bl b))) H) := by
  intro pins s σ H x y v u Q I rx ry h
  obtain ⟨b, rfl, q⟩ := h
  cases ry
  exact wpAny_is_plain (plainIs_bool rx) (fin_bl I q (RelV.bool_iff rx).symm)
theorem op_isnotB : OpR X (compareOp .IsNot) (fun x y H Q => ∃ b, y = .bl b ∧ Q (.bl (!decide (x = .bl b))) H) := by
  intro pins s σ H x y v u Q I rx ry h
  obtain ⟨b, rfl, q⟩ := h
  cases ry
  exact wpAny_isNot_plain (plainIs_bool rx) (fin_bl I q (by rw [RelV.bool_iff rx]))
theorem call_isi : CallR X (.builtin "isinstance") (fun xs H Q => ∃ x c t b, xs = [x, .ty c] ∧ TyOf X.K H x t ∧ PySem.W.kitOne X.K t (.type c) = some b ∧ Q (.bl b) H) := by
  intro pins s σ H xs us Q I r h
  obtain ⟨x, c, t, b, rfl, ty, e, q⟩ := h
  obtain ⟨u, w', rfl, ru, rw'⟩ := vals2 r
  cases (show w' = Value.type c from rw')
  exact isinst_ok I ru ty e fun tk => ⟨.bl b, H, I.tok tk, rfl, q⟩
end
mutual
inductive Dt (K : PySem.W.Frag) (H : Hp) : V → PyData → Prop
  | non : Dt K H .non .none
  | bl (b : Bool) : Dt K H (.bl b) (.bool b)
  | int (i : Int) : Dt K H (.int i) (.int i)
  | str (x : Str) : Dt K H (.str x) (.str x)
  | lst {a : Addr} {xs : List V} {ds : List PyData} : SqL K H a xs → Dts K H xs ds → Dt K H (.ref a) (.list ds)
  | tup {a : Addr} {xs : List V} {ds : List PyData} : SqT K H a xs → Dts K H xs ds → Dt K H (.ref a) (.tuple ds)
inductive Dts (K : PySem.W.Frag) (H : Hp) : List V → List PyData → Prop
  | nil : Dts K H [] []
  | cons {v : V} {d : PyData} {vs : List V} {ds : List PyData} : Dt K H v d → Dts K H vs ds → Dts K H (v :: vs) (d :: ds)
end
section
variable {X : Cx} {pins : List (Addr × Obj)} {σ : St} {H : Hp} {s : Shared}
mutual
theorem Dt.reads (I : Inv X pins σ H s) : ∀ {v : V} {d : PyData} {u : Value}, Dt X.K H v d → RelV v u → ∃ as, Reads s.heap u d as
  | _, _, _, .non, r => by cases r; exact ⟨_, .none⟩
  | _, _, _, .bl b, r => by cases r; exact ⟨_, .bool b⟩
  | _, _, _, .int i, r => by obtain ⟨t, rfl⟩ := r; exact ⟨_, .int i t⟩
  | _, _, _, .str x, r => by obtain ⟨t, rfl⟩ := r; exact ⟨_, .str x t⟩
  | _, _, _, .lst hq ds, r => by
    obtain ⟨its, rv, ⟨o, n, e, c, _, dd⟩, _⟩ := I.list hq
    obtain ⟨as, ra⟩ := Dts.reads I ds rv
    cases r
    exact ⟨_, .list e c dd (by simpa using ra)⟩
  | _, _, _, .tup hq ds, r => by
    obtain ⟨its, rv, ⟨o, e, c, n, dd⟩, _⟩ := I.tuple hq
    obtain ⟨as, ra⟩ := Dts.reads I ds rv
    cases r
    exact ⟨_, .tuple e c dd (by simpa using ra)⟩
theorem Dts.reads (I : Inv X pins σ H s) : ∀ {vs : List V} {ds : List PyData} {us : List Value}, Dts X.K H vs ds → Vals vs us → ∃ as, ReadsAll s.heap us ds as
  | _, _, _, .nil, r => by cases r; exact ⟨_, .nil⟩
  | _, _, _, .cons h t, r => by
    cases r with
    | cons p q =>
      obtain ⟨as, ra⟩ := Dt.reads I h p
      obtain ⟨bs, rb⟩ := Dts.reads I t q
      exact ⟨_, .cons ra rb⟩
end
end
section
variable {X : Cx}
def rEqD (K : PySem.W.Frag) (neg : Bool) : R2 := fun x y H Q => ∃ d e, Dt K H x d ∧ Dt K H y e ∧ d.canLay0 = true ∧ e.canLay0 = true ∧ min d.depth e.depth ≤ 60 ∧ Q (.bl (if neg then !PyData.eqv d e else PyData.eqv d e)) H
theorem op_eqD (hu : X.A.units + 64 < cLine) : OpR X (compareOp .Eq) (rEqD X.K false) := by
  intro pins s σ H x y v u Q I rx ry h
  obtain ⟨d, e, hd, he, c1, c2, dp, q⟩ := h
  obtain ⟨as, ra⟩ := hd.reads I rx
  obtain ⟨bs, rb⟩ := he.reads I ry
  exact SeqAt.compareEq_reads ra rb c1 c2 (by omega) ⟨.bl _, H, I, rfl, q⟩
theorem op_neD (hu : X.A.units + 64 < cLine) : OpR X (compareOp .NotEq) (rEqD X.K true) := by
  intro pins s σ H x y v u Q I rx ry h
  obtain ⟨d, e, hd, he, c1, c2, dp, q⟩ := h
  obtain ⟨as, ra⟩ := hd.reads I rx
  obtain ⟨bs, rb⟩ := he.reads I ry
  exact SeqAt.compareNe_reads ra rb c1 c2 (by omega) ⟨.bl _, H, I, rfl, q⟩
theorem Dts.ints (K : PySem.W.Frag) (H : Hp) : ∀ ns : List Int, Dts K H (ns.map V.int) (ns.map PyData.int)
  | [] => .nil
  | n :: r => .cons (.int n) (Dts.ints K H r)
theorem lay_ints : ∀ ns : List Int, PyData.canLayAll0 (ns.map PyData.int) = true
  | [] => rfl
  | _ :: r => by
    show (PyData.canLay0 (.int _) && PyData.canLayAll0 (r.map PyData.int)) = true
    rw [lay_ints r]; rfl
theorem depth_ints : ∀ ns : List Int, PyData.depthAll (ns.map PyData.int) ≤ 1
  | [] => by show PyData.depthAll [] ≤ 1; simp [PyData.depthAll]
  | n :: r => by
    have := depth_ints r
    show PyData.depthAll (PyData.int n :: r.map PyData.int) ≤ 1
    simp only [PyData.depthAll, PyData.depth]
    omega
theorem eqv_ints : ∀ ns ms : List Int, PyData.eqvAll (ns.map PyData.int) (ms.map PyData.int) = decide (ns = ms)
  | [], [] => rfl
  | [], _ :: _ => rfl
  | _ :: _, [] => rfl
  | a :: r, b :: t => by
    show (PyData.eqv (.int a) (.int b) && PyData.eqvAll (r.map PyData.int) (t.map PyData.int)) = _
    rw [eqv_ints r t]
    by_cases h : a = b
    · by_cases g : r = t
      · subst h; subst g; simp [PyData.eqv]
      · have : ¬ (a :: r) = (b :: t) := fun z => g (by injection z)
        rw [decide_eq_false g, decide_eq_false this, Bool.and_false]
    · have : ¬ (a :: r) = (b :: t) := fun z => h (by injection z)
      rw [decide_eq_false this]
      have : PyData.eqv (.int a) (.int b) = false := by show (a == b) = false; exact beq_eq_false_iff_ne.mpr h
      rw [this, Bool.false_and]
def rEqT (K : PySem.W.Frag) (neg : Bool) : R2 := fun x y H Q => ∃ (a b : Addr) (ns ms : List Int), x = .ref a ∧ y = .ref b ∧ SqT K H a (ns.map V.int) ∧ SqT K H b (ms.map V.int) ∧ Q (.bl (if neg then !decide (ns = ms) else decide (ns = ms))) H
theorem rEqT.to {K : PySem.W.Frag} {neg : Bool} {x y : V} {H : Hp} {Q : VK} (h : rEqT K neg x y H Q) : rEqD K neg x y H Q := by
  obtain ⟨a, b, ns, ms, rfl, rfl, ha, hb, q⟩ := h
  refine ⟨.tuple (ns.map .int), .tuple (ms.map .int), .tup ha (Dts.ints K H ns), .tup hb (Dts.ints K H ms), lay_ints ns, lay_ints ms, ?_, ?_⟩
  · have := depth_ints ns
    simp only [PyData.depth]
    omega
  · have e : PyData.eqv (.tuple (ns.map .int)) (.tuple (ms.map .int)) = decide (ns = ms) := by rw [← eqv_ints]; rfl
    rw [e]; exact q
def rEqT2 (K : PySem.W.Frag) : R2 := fun x y H Q => ∃ (a b : Addr) (ns ms : List Int), x = .ref a ∧ y = .ref b ∧ SqT K H a (ns.map V.int) ∧ SqT K H b (ms.map V.int) ∧ Q (.bl (decide (ns = ms))) H
def rNeT2 (K : PySem.W.Frag) : R2 := fun x y H Q => ∃ (a b : Addr) (ns ms : List Int), x = .ref a ∧ y = .ref b ∧ SqT K H a (ns.map V.int) ∧ SqT K H b (ms.map V.int) ∧ Q (.bl (!decide (ns = ms))) H
end
structure Dn (K : PySem.W.Frag) (mg : Str → Option Value) (x : Str) (st : Stmt) (ps : List Str) (f : Addr) (fd : FuncData) : Prop where
  fn : Fun K x x st f fd
  mgx : mg x = some (.ref f)
  bd : Binds K fd ps []
theorem same_new {H : Hp} {p : Addr} (h : H p = none) (o : HO) : Same H (upd H p o) := fun b u q => by rw [upd_ne (ne_of_none q h)]; exact q
theorem Room.u64 {k : Nat} {A : Around} (r : Room k A) : A.units + 64 < cLine := r.units
theorem small {n : Nat} (h : n ≤ 1000) : n ≤ sizeLine := Nat.le_of_lt (small1000 h)
end L2
namespace L2
open PySem PySem.Spec PyProof.Rows
end L2
namespace L2
open PySem PySem.Spec PyProof.Rows
def tJoin (t : TS) : TS := fun D σ H => ∃ J : St → Hp → Prop, t { D with nx := J } σ H ∧ ∀ σ' H', J σ' H' → D.nx σ' H'
end L2
namespace L2
open PySem
theorem bt_int : bootBuiltins "int" = some (.type "int") := by decide +kernel
theorem bt_bool : bootBuiltins "bool" = some (.type "bool") := by decide +kernel
theorem bt_len : bootBuiltins "len" = some (.builtin "len") := by decide +kernel
theorem bt_max : bootBuiltins "max" = some (.builtin "max") := by decide +kernel
theorem bt_isinstance : bootBuiltins "isinstance" = some (.builtin "isinstance") := by decide +kernel
end L2

namespace L2
open PySem PySem.Spec PyProof.Rows
section
variable {prog : Program} {w : World} {A : Around} {R : Result → Shared → Prop} {s : Shared}
theorem compLoop_any {elt target iter : Expr} {ifs : List Expr} {scope : Scope} {pos : Pos} {it acc : Value} {env : Env} (I : Nat → Shared → Prop)
    (turn : ∀ n s, I n s → wpAny (model prog w) A (pyNext it) (fun r s₁ => match r with
      | none => R (.ok .next) s₁
      | some v => wpAny (model prog w) A (letOwnedTupleGo target it v) (fun _ s₁' => wpAny (model prog w) A (assign target env v) (fun _ s₂ =>
          wpAny (model prog w) A (forIn ifs true fun c r => if r = true then do let ok ← isTrue c env (eval c env); pure (ForInStep.yield ok) else pure (ForInStep.yield r)) (fun ok s₃ =>
            if ok = true then wpAny (model prog w) A (eval elt env) (fun x s₄ =>
              wpAny (model prog w) A (call (.builtin "list.append") [acc, x]) (fun _ s₅ => ∃ m, m < n ∧ I m s₅) (fun _ _ => False) s₄) (fun _ _ => False) s₃
            else ∃ m, m < n ∧ I m s₃) (fun _ _ => False) s₂) (fun _ _ => False) s₁') (fun _ _ => False) s₁) (fun _ _ => False) s)
    (n : Nat) (h : I n s) :
    codeAny (model prog w) A (.compLoop (.ListComp elt [⟨target, iter, ifs, 0⟩] scope pos) 0 it acc env) R s := by
  have up : ∀ {α : Type} {m : Sem α} {Q : α → Shared → Prop} {E : Value → Shared → Prop} {s : Shared}, wpAny (model prog w) A m Q (fun _ _ => False) s → wpAny (model prog w) A m Q E s := fun h => wpAny_mono h (fun _ _ q => q) fun _ _ f => f.elim
  refine codeAny_loop rfl I (fun n s hI => ?_) n h
  show wpAny _ A ((compTurn (.ListComp elt [⟨target, iter, ifs, 0⟩] scope pos) 0 it acc env).onRaise (fun x => do noteFrame x env; theTreesLotGoes x)) _ _ s
  refine wpAny_noted ?_
  rw [compTurn_list]
  refine wpAny_bind (wpAny_standAt (wpAny_bind (wpAny_mono (up (turn n s hI)) (fun r s₁ h₁ => ?_) fun _ _ h' => h')))
  cases r with
  | none => exact wpAny_pure h₁
  | some v =>
    refine wpAny_bind (wpAny_mono (up h₁) (fun _ s₁' h₁' => ?_) fun _ _ h' => h')
    refine wpAny_bind (wpAny_mono (up h₁') (fun _ s₂ h₂ => wpAny_bind (wpAny_mono (up h₂) (fun ok s₃ h₃ => ?_) fun _ _ h' => h')) fun _ _ h' => h')
    cases ok with
    | false => exact wpAny_pure ⟨rfl, h₃⟩
    | true =>
      exact wpAny_bind (wpAny_bind (wpAny_mono (up h₃) (fun x s₄ h₄ => wpAny_bind (wpAny_mono (up h₄) (fun _ s₅ h₅ => wpAny_pure (wpAny_pure ⟨rfl, h₅⟩)) fun _ _ h' => h')) fun _ _ h' => h'))
end
theorem closure_ex {env : Env} : ∀ (names : List (Str × NameKind)) (acc : List (Str × Addr)), (∀ x ∈ names, x.2 = .free → ∃ c, env.cells.lookup x.1 = some c) → (∀ y c, acc.lookup y = some c → env.cells.lookup y = some c) →
    ∃ cl, (forIn names acc fun (x : Str × NameKind) (cs : List (Str × Addr)) => if (x.2 == NameKind.free) = true then do let a ← cellOf env x.1; pure (ForInStep.yield ((x.1, a) :: cs)) else pure (ForInStep.yield cs) : Sem (List (Str × Addr))) = pure cl ∧
      (∀ y c, cl.lookup y = some c → env.cells.lookup y = some c) ∧ (∀ x ∈ names, x.2 = .free → ∃ c, cl.lookup x.1 = some c) ∧ ∀ y c, acc.lookup y = some c → ∃ c', cl.lookup y = some c'
  | [], acc, _, ha => ⟨acc, rfl, ha, fun _ h => (nomatch h), fun y c h => ⟨c, h⟩⟩
  | (n, k) :: r, acc, hn, ha => by
    by_cases hk : k = .free
    · subst hk
      obtain ⟨c, hc⟩ := hn (n, .free) List.mem_cons_self rfl
      have e1 : cellOf env n = pure c := by unfold cellOf; rw [hc]
      have ha' : ∀ y d, ((n, c) :: acc).lookup y = some d → env.cells.lookup y = some d := fun y d h => by
        rw [List.lookup_cons] at h
        cases hy : y == n with
        | true =>
          rw [hy] at h
          have : y = n := eq_of_beq hy
          subst this
          cases h
          exact hc
        | false => rw [hy] at h; exact ha y d h
      obtain ⟨cl, h1, h2, h3, h4⟩ := closure_ex r ((n, c) :: acc) (fun x hx => hn x (List.mem_cons_of_mem _ hx)) ha'
      refine ⟨cl, ?_, h2, ?_, ?_⟩
      · rw [List.forIn_cons]
        simp only [beq_self_eq_true, if_true, e1, pure_bind]
        exact h1
      · intro x hx hf
        rcases List.mem_cons.mp hx with rfl | hx
        · exact h4 n c (by rw [List.lookup_cons, beq_self_eq_true])
        · exact h3 x hx hf
      · intro y d hy
        cases hb : y == n with
        | true => exact h4 y c (by rw [List.lookup_cons, hb])
        | false => exact h4 y d (by rw [List.lookup_cons, hb]; exact hy)
    · have hb : (k == NameKind.free) = false := by simpa using hk
      obtain ⟨cl, h1, h2, h3, h4⟩ := closure_ex r acc (fun x hx => hn x (List.mem_cons_of_mem _ hx)) ha
      refine ⟨cl, ?_, h2, ?_, h4⟩
      · rw [List.forIn_cons]
        simp only [hb, Bool.false_eq_true, if_false, pure_bind]
        exact h1
      · intro x hx hf
        rcases List.mem_cons.mp hx with rfl | hx
        · exact absurd hf hk
        · exact h3 x hx hf
def cxB (X : Cx) (scope : Scope) (cl : List (Str × Addr)) (N : List Str) (C : Addr) (fp : List Addr) (s₀ : Shared) (H₀ : Hp) : Cx :=
  { X with N := N, s₀ := s₀, H₀ := H₀, env := compEnvC scope cl C X.env, outer := X.stack, stack := X.stack, ex := fp, fn := fun _ => false, pn := [], xe := fun _ _ => False }
structure BlkOk (X : Cx) (scope : Scope) (N : List Str) (own : Nat) (cap : List Nat) : Prop where
  kind : scope.kind = .function
  nocell : ∀ x ∈ scope.names, x.2 ≠ .cell
  locs : ∀ x ∈ scope.names, x.2 = .local → scope.names.lookup x.1 = some .local
  free : ∀ x ∈ scope.names, x.2 = .free → X.env.kindOf x.1 = some .cell ∨ X.env.kindOf x.1 = some .free
  len : N.length = own + cap.length
  caps : ∀ (j : Nat) (x : Str), N[own + j]? = some x → ∃ i, cap[j]? = some i ∧ X.N[i]? = some x ∧ (scope.names.lookup x = some .free)
theorem lookup_mem {α β : Type} [BEq α] [LawfulBEq α] {x : α} {y : β} : ∀ {l : List (α × β)}, l.lookup x = some y → (x, y) ∈ l
  | [], h => by simp at h
  | (a, b) :: r, h => by
    rw [List.lookup_cons] at h
    cases hb : x == a with
    | true => rw [hb] at h; cases h; rw [eq_of_beq hb]; exact List.mem_cons_self
    | false => rw [hb] at h; exact List.mem_cons_of_mem _ (lookup_mem h)
theorem relabel_free {env : Env} {x : Str} : ∀ {names : List (Str × NameKind)}, names.lookup x = some .free →
    (names.map fun (n, k) => if (k == NameKind.free && env.scope.kind == .function && env.kindOf n == some .cell) then (n, NameKind.cell) else (n, k)).lookup x = some .cell ∨
    (names.map fun (n, k) => if (k == NameKind.free && env.scope.kind == .function && env.kindOf n == some .cell) then (n, NameKind.cell) else (n, k)).lookup x = some .free
  | [], h => by simp at h
  | (n, k) :: r, h => by
    rw [List.lookup_cons] at h
    rw [List.map_cons]
    cases hx : x == n with
    | true =>
      rw [hx] at h
      cases h
      by_cases hc : (NameKind.free == NameKind.free && env.scope.kind == .function && env.kindOf n == some .cell) = true
      · left
        simp only [hc, if_true, List.lookup_cons, hx]
      · right
        simp only [hc, if_false, List.lookup_cons, hx, Bool.false_eq_true]
    | false =>
      rw [hx] at h
      rcases relabel_free (env := env) h with q | q
      · left
        by_cases hc : (k == NameKind.free && env.scope.kind == .function && env.kindOf n == some .cell) = true
        · simp only [hc, if_true, List.lookup_cons, hx]; exact q
        · simp only [hc, if_false, List.lookup_cons, hx, Bool.false_eq_true]; exact q
      · right
        by_cases hc : (k == NameKind.free && env.scope.kind == .function && env.kindOf n == some .cell) = true
        · simp only [hc, if_true, List.lookup_cons, hx]; exact q
        · simp only [hc, if_false, List.lookup_cons, hx, Bool.false_eq_true]; exact q
theorem relabel_back {env : Env} {x : Str} : ∀ {names : List (Str × NameKind)}, (∀ y ∈ names, y.2 ≠ .cell) → ((names.map fun (n, k) => if (k == NameKind.free && env.scope.kind == .function && env.kindOf n == some .cell) then (n, NameKind.cell) else (n, k)).lookup x = some .cell ∨
    (names.map fun (n, k) => if (k == NameKind.free && env.scope.kind == .function && env.kindOf n == some .cell) then (n, NameKind.cell) else (n, k)).lookup x = some .free) → (x, NameKind.free) ∈ names
  | [], _, h => by simp at h
  | (n, k) :: r, hn, h => by
    rw [List.map_cons] at h
    have hk : k ≠ .cell := hn (n, k) List.mem_cons_self
    cases hx : x == n with
    | true =>
      have e : x = n := eq_of_beq hx
      by_cases hc : (k == NameKind.free && env.scope.kind == .function && env.kindOf n == some .cell) = true
      · have : k = .free := by
          rw [Bool.and_eq_true, Bool.and_eq_true] at hc
          exact eq_of_beq hc.1.1
        rw [e, this]; exact List.mem_cons_self
      · simp only [hc, if_false, List.lookup_cons, hx, Bool.false_eq_true] at h
        rcases h with h | h
        · cases h; exact absurd rfl hk
        · cases h; rw [e]; exact List.mem_cons_self
    | false =>
      refine List.mem_cons_of_mem _ (relabel_back (env := env) (fun y hy => hn y (List.mem_cons_of_mem _ hy)) ?_)
      by_cases hc : (k == NameKind.free && env.scope.kind == .function && env.kindOf n == some .cell) = true
      · simpa only [hc, if_true, List.lookup_cons, hx] using h
      · simpa only [hc, if_false, List.lookup_cons, hx, Bool.false_eq_true] using h
def capsOf (σ : St) (cap : List Nat) : St := cap.map fun i => (σ[i]?).join
theorem capsOf_get {σ : St} {cap : List Nat} {j i : Nat} {v : V} (hj : cap[j]? = some i) (h : (capsOf σ cap)[j]? = some (some v)) : σ[i]? = some (some v) := by
  unfold capsOf at h
  rw [List.getElem?_map, hj] at h
  cases e : σ[i]? with
  | none => rw [Option.map_some, e] at h; cases h
  | some o =>
    rw [Option.map_some, e] at h
    cases o with
    | none => cases h
    | some u => exact h
section
variable {X : Cx} {pins : List (Addr × Obj)} {σ : St} {H : Hp} {s : Shared}
theorem blk_start {scope : Scope} {cl : List (Str × Addr)} {N : List Str} {own : Nat} {cap : List Nat} {fp : List Addr} {h₁ : Heap} {t' : Nat} {m₀ : Str → Option Value} (B : BlkOk X scope N own cap) (I : Inv X pins σ H s)
    (c1 : ∀ y c, cl.lookup y = some c → X.env.cells.lookup y = some c) (c2 : ∀ x ∈ scope.names, x.2 = .free → ∃ c, cl.lookup x.1 = some c)
    (hf : ∀ b ∈ fp, FpOk X pins H b) (hfo : ∀ b ∈ fp, b < s.heap.objs.size) (hns : h₁.Ns s.heap.objs.size m₀) (k : ∀ b o, s.heap.get? b = some o → h₁.get? b = some o) :
    Inv (cxB X scope cl N s.heap.objs.size fp s H) [] (List.replicate own none ++ capsOf σ cap) H { s with heap := h₁, toks := t' } where
  ok := {
    mod := I.mod
    kind := B.kind
    glob := I.ok.glob
    blt := I.ok.blt
    above := Nat.le_refl _
    inj := fun x y c e e' => I.ok.inj x y c (c1 x c e) (c1 y c e')
    has := fun x hx => c2 (x, .free) (relabel_back B.nocell hx) rfl
    cab := fun x c e => (Bool.false_ne_true e).elim
    hd := I.ok.hd
    frames := I.ok.frames
    stk := .inl rfl
    exf := fun b hb => ⟨Nat.ne_of_lt (hfo b hb), fun x c e => (hf b hb).2.2.2.2.1 x c (c1 x c e)⟩
    bs := I.bs
    bsz := Nat.le_trans I.ok.bsz I.sz
    noex := fun b o e hb => by
      rcases (hf b hb).2.2.2.1 with q | q
      · exact I.ok.noex b o e q
      · exact absurd (Nat.lt_of_lt_of_le (Heap.lt_size e) I.ok.bsz) (Nat.not_lt.mpr q)
    exfs := fun b hb hz => by
      rcases List.mem_cons.mp (I.stkSub b hz) with q | q
      · exact (hf b hb).2.1 q
      · exact (hf b hb).2.2.1 q
    funs := I.stack
    frf := I.stkFree }
  os := rfl
  bare := I.bare
  base := Un.kept k
  loc := by
    refine ⟨m₀, hns, fun i x v hN hσ hv => ?_⟩
    by_cases hi : i < own
    · rw [List.getElem?_append_left (by rw [List.length_replicate]; exact hi), List.getElem?_replicate, if_pos hi] at hσ
      cases hσ
    · obtain ⟨j, rfl⟩ : ∃ j, i = own + j := ⟨i - own, by omega⟩
      obtain ⟨i', e1, e2, e3⟩ := B.caps j x hN
      rw [List.getElem?_append_right (by rw [List.length_replicate]; omega), List.length_replicate, Nat.add_sub_cancel_left] at hσ
      have hσ' := capsOf_get e1 hσ
      have hk := B.free (x, .free) (lookup_mem e3) rfl
      obtain ⟨m, hm, hl⟩ := I.loc
      obtain ⟨u, ru, hu⟩ := hl i' x v e2 hσ' (.inr hk)
      refine ⟨u, ru, ?_⟩
      rcases hu with ⟨q, _⟩ | ⟨_, c, hc, ic⟩
      · rcases hk with hk | hk
        · rw [hk] at q; cases q
        · rw [hk] at q; cases q
      · obtain ⟨c', hc'⟩ := c2 (x, .free) (lookup_mem e3) rfl
        have ec := c1 x c' hc'
        rw [hc] at ec
        cases ec
        exact .inr ⟨relabel_free e3, c, hc', ic.keeps k⟩
  cell := fun x c e => by
    obtain ⟨v, q⟩ := I.cell x c (c1 x c e)
    exact ⟨v, q.keeps k⟩
  free := I.hok.fresh (Nat.le_refl _)
  freeC := fun x c e => I.freeC x c (c1 x c e)
  pin := fun p hp => (nomatch hp)
  hok := I.hok.kept k
  len := by
    show (List.replicate own none ++ capsOf σ cap).length = N.length
    rw [List.length_append, List.length_replicate, B.len]
    unfold capsOf
    rw [List.length_map]
end
def tNoTest : TT := fun _ H Q => Q true H
def PTs (X : Cx) (ifs : List Expr) (t : TT) : Prop :=
  ∀ (pins : List (Addr × Obj)) (s : Shared) (σ : St) (H : Hp) (Q : Bool → Hp → Prop), Inv X pins σ H s → t σ H Q →
    wpAny (model X.prog X.w) X.A (forIn ifs true fun c r => if r = true then do let ok ← isTrue c X.env (eval c X.env); pure (ForInStep.yield ok) else pure (ForInStep.yield r)) (TP X pins σ Q) X.xe s
theorem pts_one {X : Cx} {c : Expr} {t : TT} (h : PT X c t) : PTs X [c] t := fun pins s σ H Q I q => wpAny_tests_one (h pins s σ H Q I q)
def tComp (wi : TI) (own : Nat) (cap : List Nat) (g : TG) (tt : TT) (te : TE) : TE := fun σ H Q => wi σ H fun J H1 => ∀ D, H1 D = none → ∃ W : Nat → Nat → List V → Hp → Prop, (∃ m, W 0 m [] (upd H1 D (.lst []))) ∧
  ∀ i m ys H2, W i m ys H2 → H2 D = some (.lst ys) ∧ ((J.stop i H2 ∧ Q (.ref D) H2) ∨ (J.go i H2 ∧ ys.length < sizeLine ∧ ∀ x H3, J.yld i H2 x H3 → g x (List.replicate own none ++ capsOf σ cap) H3 fun σ2 H4 => tt σ2 H4 fun b H5 =>
    if b = true then te σ2 H5 fun y H6 => H6 D = some (.lst ys) ∧ ∃ m', m' < m ∧ W (i + 1) m' (ys ++ [y]) (upd H6 D (.lst (ys ++ [y]))) else ∃ m', m' < m ∧ W (i + 1) m' ys H5))
def keepsCaps (own : Nat) (g : TG) : Prop := ∀ v σ H Q, g v σ H Q → g v σ H fun σ' H' => Q σ' H' ∧ σ'.length = σ.length ∧ ∀ i, own ≤ i → σ'[i]? = σ[i]?
theorem keeps_name (i own : Nat) (h : i < own) : keepsCaps own (gName i) := fun v σ H Q q => ⟨q, by rw [List.length_set], fun j hj => by rw [List.getElem?_set_ne (by omega)]⟩
theorem pe_comp {X : Cx} {elt iter tg : Expr} {ifs : List Expr} {scope : Scope} {pos : Pos} {N : List Str} {own : Nat} {cap : List Nat} {wi : TI} {g : TG} {tt : TT} {te : TE} (B : BlkOk X scope N own cap) (hc : X.calm = true) (hi : PI X tg iter wi)
    (kg : keepsCaps own g)
    (hg : ∀ cl C fp s₀ H₀, PG (cxB X scope cl N C fp s₀ H₀) tg g) (ht : ∀ cl C fp s₀ H₀, PTs (cxB X scope cl N C fp s₀ H₀) ifs tt) (he : ∀ cl C fp s₀ H₀, PE (cxB X scope cl N C fp s₀ H₀) elt te)
    (hs : ∀ x, foldedSetIterable iter X.env x = pure x := by intro _; rfl) : PE X (.ListComp elt [⟨tg, iter, ifs, 0⟩] scope pos) (tComp wi own cap g tt te) := by
  intro pins s σ H Q I h
  obtain ⟨cl, hcl, c1, c2, _⟩ := closure_ex (env := X.env) scope.names [] (fun x hx hf => I.ok.has x.1 (B.free x hx hf)) (fun y c e => by simp at e)
  have hclos : closureFor scope X.env = pure cl := by
    have e : closureFor scope X.env = (forIn scope.names ([] : List (Str × Addr)) (fun (x : Str × NameKind) (cs : List (Str × Addr)) => if (x.2 == NameKind.free) = true then do let a ← cellOf X.env x.1; pure (ForInStep.yield ((x.1, a) :: cs)) else pure (ForInStep.yield cs)) >>= pure : Sem (List (Str × Addr))) := rfl
    rw [e, hcl]
    rfl
  rw [eval_ListComp]
  refine wpAny_comprehension_free (use := none) rfl hs hclos B.kind B.locs (thn (hi pins s σ H _ I h) fun v s1 h1 => thn h1 fun itv s2 h2 => ?_)
  obtain ⟨it, fp, tn, J, H2, e, I2, T, st2, f2, W0⟩ := h2
  subst e
  obtain ⟨W, ⟨m0, w0⟩, turn⟩ := W0 s2.heap.objs.size (I2.hok.fresh (Nat.le_refl _))
  refine wpAny_newObj_type ?_
  have I3 : Inv X pins σ (upd H2 s2.heap.objs.size (.lst [])) { s2 with heap := s2.heap.push { cls := .type "list", data := .seq ([] : List Value).toArray } } := I2.lnew .nil (Nat.zero_le _)
  generalize hs3 : ({ s2 with heap := s2.heap.push { cls := .type "list", data := .seq ([] : List Value).toArray } } : Shared) = s3 at I3
  have k3 : ∀ b o, s2.heap.get? b = some o → s3.heap.get? b = some o := fun b o e => by rw [← hs3]; exact Heap.get?_push_of_some _ e
  have z3 : s3.heap.objs.size = s2.heap.objs.size + 1 := by rw [← hs3]; exact Heap.size_push _ _
  have hfo2 : ∀ b ∈ fp, b < s2.heap.objs.size := fun b hb => by
    obtain ⟨o, e, _⟩ := T.obj _ _ st2 b hb
    exact Heap.lt_size e
  have hne : ∀ b ∈ fp, b ≠ s2.heap.objs.size := fun b hb => Nat.ne_of_lt (hfo2 b hb)
  have f3 : ∀ b ∈ fp, FpOk X pins (upd H2 s2.heap.objs.size (.lst [])) b := fun b hb => ⟨by rw [upd_ne (hne b hb)]; exact (f2 b hb).1, (f2 b hb).2⟩
  have tn3 : tn 0 s3.heap := T.keep _ _ _ st2 fun b _ o e => k3 b o e
  show wpAny _ _ (newFunctionEnv scope X.env.globals cl [] X.env.qual none .none (some X.env)) _ _ _
  refine wpAny_newFunctionEnv B.nocell (fun y hy => by simp at hy) (fun h₁ hns₁ hsb₁ => ?_) B.kind
  have kk : ∀ b o, s3.heap.get? b = some o → h₁.get? b = some o := fun b o e => hsb₁.extBut b o (Nat.ne_of_lt (Heap.lt_size e)) (Heap.get?_push_of_some _ e)
  have IB := blk_start (t' := s3.toks + ([] : List (Str × Value)).length) B I3 c1 c2 f3 (fun b hb => by rw [z3]; exact Nat.lt_succ_of_lt (hfo2 b hb)) hns₁ kk
  generalize hs4 : ({ s3 with heap := h₁, toks := s3.toks + ([] : List (Str × Value)).length } : Shared) = s4 at IB
  have tn4 : tn 0 s4.heap := T.keep _ _ _ tn3 fun b _ o e => by rw [← hs4]; exact kk b o e
  show codeAny (model X.prog X.w) X.A (.compStart (.ListComp elt [⟨tg, iter, ifs, 0⟩] scope pos) 0 (.ref it) (.ref s2.heap.objs.size) (compEnvC scope cl s3.heap.objs.size X.env))
      (compPost (model X.prog X.w) X.A X.xe none (EP X pins σ Q) (.ref s2.heap.objs.size) s3.heap.objs.size) s4
  -- what stays true of the iterator's objects
  have stat : ∀ {H' : Hp}, (∀ b ∈ fp, H' b = none) → ∀ b ∈ fp, FpOk (cxB X scope cl N s3.heap.objs.size fp s3 (upd H2 s2.heap.objs.size (.lst []))) [] H' b := fun hn b hb =>
    ⟨hn b hb, Nat.ne_of_lt (by show b < s3.heap.objs.size; rw [z3]; exact Nat.lt_succ_of_lt (hfo2 b hb)), IB.ok.exfs b hb, .inl hb, fun x c e => (IB.ok.exf b hb).2 x c e, fun p hp => (nomatch hp)⟩
  have loop : codeAny (model X.prog X.w) X.A (.compLoop (.ListComp elt [⟨tg, iter, ifs, 0⟩] scope pos) 0 (.ref it) (.ref s2.heap.objs.size) (compEnvC scope cl s3.heap.objs.size X.env))
      (compPost (model X.prog X.w) X.A X.xe none (EP X pins σ Q) (.ref s2.heap.objs.size) s3.heap.objs.size) s4 := by
    refine compLoop_any (fun n s' => ∃ i ys H', Inv (cxB X scope cl N s3.heap.objs.size fp s3 (upd H2 s2.heap.objs.size (.lst []))) [] (List.replicate own none ++ capsOf σ cap) H' s' ∧ tn i s'.heap ∧ (∀ b ∈ fp, H' b = none) ∧ W i n ys H') ?_ m0
      ⟨0, [], _, IB, tn4, fun b hb => (f3 b hb).1, w0⟩
    rintro n s5 ⟨i, ys, H5, I5, st5, fr5, w5⟩
    obtain ⟨hD, hgo⟩ := turn i n ys H5 w5
    rcases hgo with ⟨stop, qn⟩ | ⟨go, hlt, step⟩
    · refine thn (T.done (cxB X scope cl N s3.heap.objs.size fp s3 (upd H2 s2.heap.objs.size (.lst []))) rfl rfl rfl hc i [] s5 _ H5 (fun _ _ => False) I5 (stat fr5) st5 stop) fun r s6 ⟨hr, I6⟩ => ?_
      subst hr
      obtain ⟨m, hm, _⟩ := id I6.loc
      refine ⟨m, hm, fun h' sb => ⟨.ref s2.heap.objs.size, H5, ?_, rfl, qn⟩⟩
      have U := I6.base
      have nC : ∀ b o, s3.heap.get? b = some o → b ≠ s3.heap.objs.size := fun b o e => Nat.ne_of_lt (Heap.lt_size e)
      have nT : ∀ b o, H5 b = some o → b ≠ s3.heap.objs.size := fun b o e z => by
        have q : H5 s3.heap.objs.size = none := I6.free
        rw [z, q] at e
        cases e
      refine I3.call' (ch := fp) I6.os ?_ (fun a o e => (I6.hok a o e).stay (fun b u hb q => sb.extBut b u ?_ q) (fun _ q => q) fun _ _ q => q) I6.bare (fun b hb => ⟨(f3 b hb).2.2.2.1, (f3 b hb).2.1, (f3 b hb).2.2.2.2.1, (f3 b hb).2.2.2.2.2⟩)
      · exact {
          keep := fun b o e z hb he => sb.extBut b o (nC b o e) (U.keep b o e z hb he)
          slot := fun b o e z hb he => by
            obtain ⟨sl, q⟩ := U.slot b o e z hb he
            exact ⟨sl, sb.extBut b _ (nC b o e) q⟩
          free := U.free
          there := fun b o e he => by
            obtain ⟨o', q⟩ := U.there b o e he
            exact ⟨o', sb.extBut b o' (nC b o e) q⟩
          tups := U.tups
          frzs := U.frzs
          tbls := U.tbls }
      · rcases hb with rfl | hb
        · exact nT _ _ e
        · exact nT _ _ hb
    · refine thn (T.item (cxB X scope cl N s3.heap.objs.size fp s3 (upd H2 s2.heap.objs.size (.lst []))) rfl rfl rfl hc i [] s5 _ H5 (fun _ _ => False) I5 (stat fr5) st5 go) fun r s6 ⟨u, hr, h6⟩ => ?_
      subst hr
      refine thn h6 fun _ s7 ⟨x, H7, I7, r7, y7, st7, fr7⟩ => ?_
      have I7' := I7.pinned (stat fr7) (T.obj _ _ st7)
      refine thn (hg cl s3.heap.objs.size fp s3 _ _ s7 _ H7 x u _ I7' r7 (kg _ _ _ _ (step x H7 y7))) fun _ s8 ⟨σ8, H8, I8, q8, l8, p8⟩ => ?_
      have back : ∀ {H9 : Hp} {s9 : Shared}, Inv (cxB X scope cl N s3.heap.objs.size fp s3 (upd H2 s2.heap.objs.size (.lst []))) ([] ++ pinsAt fp s7.heap) σ8 H9 s9 →
          Inv (cxB X scope cl N s3.heap.objs.size fp s3 (upd H2 s2.heap.objs.size (.lst []))) [] (List.replicate own none ++ capsOf σ cap) H9 s9 ∧ tn (i + 1) s9.heap ∧ ∀ b ∈ fp, H9 b = none := fun {H9 s9} I9 => by
        refine ⟨(I9.unpinned).weak l8.symm (fun j v e => ?_), T.keep _ _ _ st7 fun b hb o e => (I9.pin (b, o) (List.mem_append_right _ (List.mem_append_right _ (mem_pinsAt hb e)))).1, fun b hb => ?_⟩
        · by_cases hj : j < own
          · rw [List.getElem?_append_left (by rw [List.length_replicate]; exact hj), List.getElem?_replicate, if_pos hj] at e
            cases e
          · rw [p8 j (by omega)]; exact e
        · obtain ⟨o, e, d⟩ := T.obj _ _ st7 b hb
          exact (I9.pin (b, o) (List.mem_append_right _ (List.mem_append_right _ (mem_pinsAt hb e)))).2.1
      refine thn (ht cl s3.heap.objs.size fp s3 _ _ s8 σ8 H8 _ I8 q8) fun ok s9 ⟨H9, I9, q9⟩ => ?_
      cases ok with
      | false =>
        rw [if_neg Bool.false_ne_true]
        rw [if_neg Bool.false_ne_true] at q9
        obtain ⟨m', hm', w'⟩ := q9
        obtain ⟨b1, b2, b3⟩ := back I9
        exact ⟨m', hm', i + 1, ys, H9, b1, b2, b3, w'⟩
      | true =>
        rw [if_pos rfl]
        rw [if_pos rfl] at q9
        refine thn (he cl s3.heap.objs.size fp s3 _ _ s9 σ8 H9 _ I9 q9) fun uy s10 ⟨y, H10, I10, r10, hD10, m', hm', w'⟩ => ?_
        refine thn (mt_append _ s10 σ8 H10 (.ref s2.heap.objs.size) [y] (.ref s2.heap.objs.size) [uy] (fun _ H11 => H11 = upd H10 s2.heap.objs.size (.lst (ys ++ [y]))) I10 rfl (.cons r10 .nil) ⟨_, ys, y, rfl, rfl, hD10, hlt, rfl⟩) fun _ s11 ⟨_, H11, I11, _, e11⟩ => ?_
        subst e11
        obtain ⟨b1, b2, b3⟩ := back I11
        exact ⟨m', hm', i + 1, ys ++ [y], _, b1, b2, b3, w'⟩
  exact codeAny_compStart_list loop (T.self X.A 0 s4 _ _ tn4 loop)
end L2

namespace L2
open PySem PySem.Spec PyProof.Rows
section
variable {X : Cx} {pins : List (Addr × Obj)} {σ : St} {H : Hp} {s : Shared} {h' : Heap}
end
def Ite (K : PySem.W.Frag) (a : Addr) : It :=
  ⟨fun i H => ∃ xs x, SqL K H a xs ∧ xs[i]? = some x, fun i H x H' => ∃ p y, H p = none ∧ x = .ref p ∧ H' = upd H p (.tup [.int i, y]) ∧ ∀ xs, SqL K H a xs → xs[i]? = some y, fun i H => ∃ xs, SqL K H a xs ∧ xs.length ≤ i⟩
section
variable {X : Cx} {elts : List Expr} {kt : Nat} {pt : Pos}
def iEnum (K : PySem.W.Frag) (ta : TA) : TI := fun σ H R => ta σ H fun vs H1 => ∃ a, vs = [.ref a] ∧ (∃ xs, SqL K H1 a xs) ∧ R (Ite K a) H1
end
end L2

namespace L3
open PySem PySem.Spec L2
open PyProof.Rows hiding St
theorem _root_.L2.Same.rd {H H' : Hp} {a : Addr} {u : HO} (e : Same H H') (h : Rd H a u) : Rd H' a u := h.elim (fun h => .inl (e _ _ h)) fun ⟨o, h⟩ => .inr ⟨o, e _ _ h⟩

inductive D where
  | non | bl (b : Bool) | int (i : Int) | str (x : Str)
  | lst (xs : List D) | tup (xs : List D) | dK (ks : List Key) (ds : List D) | dT (ks : List (List Key)) (ds : List D)
  | obj (c : Nat) (ns : List Str) (ds : List D)
  deriving Inhabited

inductive Pr (R : D → V → Prop) : List D → List V → Prop
  | nil : Pr R [] []
  | cons {d : D} {v : V} {ds : List D} {vs : List V} : R d v → Pr R ds vs → Pr R (d :: ds) (v :: vs)
theorem Pr.mono {R R' : D → V → Prop} (f : ∀ d v, R d v → R' d v) : ∀ {ds : List D} {vs : List V}, Pr R ds vs → Pr R' ds vs
  | _, _, .nil => .nil
  | _, _, .cons h t => .cons (f _ _ h) (Pr.mono f t)
theorem Pr.length {R : D → V → Prop} : ∀ {ds : List D} {vs : List V}, Pr R ds vs → ds.length = vs.length
  | _, _, .nil => rfl
  | _, _, .cons _ t => by simp [Pr.length t]
theorem Pr.get {R : D → V → Prop} : ∀ {ds : List D} {vs : List V} {i : Nat} {v : V}, Pr R ds vs → vs[i]? = some v → ∃ d, ds[i]? = some d ∧ R d v
  | _, _, _, _, .nil, e => by simp at e
  | _, _, 0, _, .cons h _, e => by simp at e; subst e; exact ⟨_, rfl, h⟩
  | _, _, i + 1, v, .cons _ t, e => by
    obtain ⟨d, h1, h2⟩ := Pr.get (i := i) (v := v) t (by simpa using e)
    exact ⟨d, by simpa using h1, h2⟩
theorem Pr.get' {R : D → V → Prop} : ∀ {ds : List D} {vs : List V} {i : Nat} {d : D}, Pr R ds vs → ds[i]? = some d → ∃ v, vs[i]? = some v ∧ R d v
  | _, _, _, _, .nil, e => by simp at e
  | _, _, 0, _, .cons h _, e => by simp at e; subst e; exact ⟨_, rfl, h⟩
  | _, _, i + 1, v, .cons _ t, e => by
    obtain ⟨d, h1, h2⟩ := Pr.get' (i := i) (d := v) t (by simpa using e)
    exact ⟨d, by simpa using h1, h2⟩
theorem Pr.append {R : D → V → Prop} : ∀ {ds es : List D} {vs us : List V}, Pr R ds vs → Pr R es us → Pr R (ds ++ es) (vs ++ us)
  | _, _, _, _, .nil, s => s
  | _, _, _, _, .cons h t, s => .cons h (Pr.append t s)
theorem Pr.take {R : D → V → Prop} : ∀ {ds : List D} {vs : List V} (n : Nat), Pr R ds vs → Pr R (ds.take n) (vs.take n)
  | _, _, 0, _ => .nil
  | _, _, _ + 1, .nil => .nil
  | _, _, n + 1, .cons h t => .cons h (Pr.take n t)
theorem Pr.drop {R : D → V → Prop} : ∀ {ds : List D} {vs : List V} (n : Nat), Pr R ds vs → Pr R (ds.drop n) (vs.drop n)
  | _, _, 0, r => r
  | _, _, _ + 1, .nil => .nil
  | _, _, n + 1, .cons _ t => Pr.drop n t
theorem Pr.reverse {R : D → V → Prop} {ds : List D} {vs : List V} (h : Pr R ds vs) : Pr R ds.reverse vs.reverse := by
  induction h with
  | nil => exact .nil
  | cons h t ih => rw [List.reverse_cons, List.reverse_cons]; exact ih.append (.cons h .nil)
theorem Pr.set {R : D → V → Prop} {d : D} {v : V} (r : R d v) : ∀ {ds : List D} {vs : List V} (i : Nat), Pr R ds vs → Pr R (ds.set i d) (vs.set i v)
  | _, _, _, .nil => .nil
  | _, _, 0, .cons _ t => .cons r t
  | _, _, i + 1, .cons q t => .cons q (Pr.set r i t)

mutual
inductive Dt (K : PySem.W.Frag) (ct : Nat → Addr) (F : Hp) : D → V → Prop
  | non : Dt K ct F .non .non
  | bl (b : Bool) : Dt K ct F (.bl b) (.bl b)
  | int (i : Int) : Dt K ct F (.int i) (.int i)
  | str (x : Str) : Dt K ct F (.str x) (.str x)
  | lst {a : Addr} {vs : List V} {ds : List D} : SqL K F a vs → Dts K ct F ds vs → Dt K ct F (.lst ds) (.ref a)
  | tup {a : Addr} {vs : List V} {ds : List D} : F a = some (.tup vs) → Dts K ct F ds vs → Dt K ct F (.tup ds) (.ref a)
  | dK {a : Addr} {ks : List Key} {vs : List V} {ds : List D} : F a = some (.dK (ks.zip vs)) → ks.length = vs.length → Dts K ct F ds vs → Dt K ct F (.dK ks ds) (.ref a)
  | dT {a : Addr} {ks : List (List Key)} {vs : List V} {ds : List D} : F a = some (.dT (ks.zip vs)) → ks.length = vs.length → Dts K ct F ds vs → Dt K ct F (.dT ks ds) (.ref a)
  | obj {a dx : Addr} {c : Nat} {ns : List Str} {vs : List V} {ds : List D} : F a = some (.ins (ct c) dx (ns.zip vs)) → ns.length = vs.length → Dts K ct F ds vs → Dt K ct F (.obj c ns ds) (.ref a)
inductive Dts (K : PySem.W.Frag) (ct : Nat → Addr) (F : Hp) : List D → List V → Prop
  | nil : Dts K ct F [] []
  | cons {d : D} {v : V} {ds : List D} {vs : List V} : Dt K ct F d v → Dts K ct F ds vs → Dts K ct F (d :: ds) (v :: vs)
end
section
variable {K : PySem.W.Frag} {ct : Nat → Addr} {F F' G G' H H' B B' : Hp}
theorem Dts.pr : ∀ {ds : List D} {vs : List V}, Dts K ct F ds vs → Pr (Dt K ct F) ds vs
  | _, _, .nil => .nil
  | _, _, .cons h t => .cons h (Dts.pr t)
theorem Dts.of : ∀ {ds : List D} {vs : List V}, Pr (Dt K ct F) ds vs → Dts K ct F ds vs
  | _, _, .nil => .nil
  | _, _, .cons h t => .cons h (Dts.of t)
mutual
theorem Dt.mono (s : Same F F') : ∀ {d : D} {v : V}, Dt K ct F d v → Dt K ct F' d v
  | _, _, .non => .non
  | _, _, .bl b => .bl b
  | _, _, .int i => .int i
  | _, _, .str x => .str x
  | _, _, .lst h t => .lst (s.seq h) (Dts.mono s t)
  | _, _, .tup h t => .tup (s _ _ h) (Dts.mono s t)
  | _, _, .dK h l t => .dK (s _ _ h) l (Dts.mono s t)
  | _, _, .dT h l t => .dT (s _ _ h) l (Dts.mono s t)
  | _, _, .obj h l t => .obj (s _ _ h) l (Dts.mono s t)
theorem Dts.mono (s : Same F F') : ∀ {ds : List D} {vs : List V}, Dts K ct F ds vs → Dts K ct F' ds vs
  | _, _, .nil => .nil
  | _, _, .cons h t => .cons (Dt.mono s h) (Dts.mono s t)
end
end

def D.sc : D → Bool
  | .non => true | .bl _ => true | .int _ => true | .str _ => true | _ => false

inductive AlC (K : PySem.W.Frag) (ct : Nat → Addr) (F G : Hp) (R : D → V → Prop) : D → V → Prop
  | lst {a : Addr} {vs : List V} {ds : List D} : G a = some (.lst vs) → Pr R ds vs → AlC K ct F G R (.lst ds) (.ref a)
  | tup {a : Addr} {vs : List V} {ds : List D} : F a = some (.tup vs) → Pr R ds vs → AlC K ct F G R (.tup ds) (.ref a)
  | dK {a : Addr} {ks : List Key} {vs : List V} {ds : List D} : G a = some (.dK (ks.zip vs)) → ks.length = vs.length → Pr R ds vs → AlC K ct F G R (.dK ks ds) (.ref a)
  | dT {a : Addr} {ks : List (List Key)} {vs : List V} {ds : List D} : G a = some (.dT (ks.zip vs)) → ks.length = vs.length → Pr R ds vs → AlC K ct F G R (.dT ks ds) (.ref a)
  | obj {a dx : Addr} {c : Nat} {ns : List Str} {vs : List V} {ds : List D} : G a = some (.ins (ct c) dx (ns.zip vs)) → ns.length = vs.length → Pr R ds vs → AlC K ct F G R (.obj c ns ds) (.ref a)
def Al (K : PySem.W.Frag) (ct : Nat → Addr) (F G : Hp) : Nat → D → V → Prop
  | 0, d, v => Dt K ct F d v
  | n + 1, d, v => Dt K ct F d v ∨ AlC K ct F G (Al K ct F G n) d v
inductive OwL (R : D → V → List Addr → Prop) : List D → List V → List Addr → Prop
  | nil : OwL R [] [] []
  | cons {d : D} {v : V} {ds : List D} {vs : List V} {f g : List Addr} : R d v f → OwL R ds vs g → OwL R (d :: ds) (v :: vs) (f ++ g)
inductive OwC (K : PySem.W.Frag) (ct : Nat → Addr) (F H : Hp) (R : D → V → List Addr → Prop) : D → V → List Addr → Prop
  | lst {a : Addr} {vs : List V} {ds : List D} {fp : List Addr} : F a = none → H a = some (.lst vs) → OwL R ds vs fp → OwC K ct F H R (.lst ds) (.ref a) (a :: fp)
  | tup {a : Addr} {vs : List V} {ds : List D} {fp : List Addr} : F a = some (.tup vs) → OwL R ds vs fp → OwC K ct F H R (.tup ds) (.ref a) fp
  | dK {a : Addr} {ks : List Key} {vs : List V} {ds : List D} {fp : List Addr} : F a = none → H a = some (.dK (ks.zip vs)) → ks.length = vs.length → OwL R ds vs fp → OwC K ct F H R (.dK ks ds) (.ref a) (a :: fp)
  | dT {a : Addr} {ks : List (List Key)} {vs : List V} {ds : List D} {fp : List Addr} : F a = none → H a = some (.dT (ks.zip vs)) → ks.length = vs.length → OwL R ds vs fp → OwC K ct F H R (.dT ks ds) (.ref a) (a :: fp)
  | obj {a dx : Addr} {c : Nat} {ns : List Str} {vs : List V} {ds : List D} {fp : List Addr} : F a = none → H a = some (.ins (ct c) dx (ns.zip vs)) → ns.length = vs.length → OwL R ds vs fp → OwC K ct F H R (.obj c ns ds) (.ref a) (a :: fp)
def Ow (K : PySem.W.Frag) (ct : Nat → Addr) (F H : Hp) : Nat → D → V → List Addr → Prop
  | 0, d, v, fp => Dt K ct F d v ∧ fp = []
  | n + 1, d, v, fp => (d.sc = true ∧ Dt K ct F d v ∧ fp = []) ∨ OwC K ct F H (Ow K ct F H n) d v fp

structure Ext (F H F' H' : Hp) : Prop where
  ff : Same F F'
  hh : Same H H'
  fh : Same F' H'
  nf : ∀ a o, H a = some o → F a = none → F' a = none
theorem Ext.refl {F H : Hp} (h : Same F H) : Ext F H F H := ⟨.refl _, .refl _, h, fun _ _ _ h => h⟩
theorem Ext.trans {F H F1 H1 F2 H2 : Hp} (a : Ext F H F1 H1) (b : Ext F1 H1 F2 H2) : Ext F H F2 H2 :=
  ⟨a.ff.trans b.ff, a.hh.trans b.hh, b.fh, fun c o h n => b.nf c o (a.hh _ _ h) (a.nf c o h n)⟩
theorem Ext.newO {F H : Hp} {p : Addr} (s : Same F H) (h : H p = none) (o : HO) : Ext F H F (upd H p o) :=
  ⟨.refl _, same_new h o, s.trans (same_new h o), fun _ _ _ h => h⟩
theorem Ext.newS {F H : Hp} {p : Addr} (s : Same F H) (h : H p = none) (o : HO) : Ext F H (upd F p o) (upd H p o) :=
  ⟨same_new (s.free h) o, same_new h o, fun b u q => by
    by_cases e : b = p
    · subst e; rw [upd_same] at q ⊢; exact q
    · rw [upd_ne e] at q ⊢; exact s _ _ q,
   fun b u q n => by rw [upd_ne (ne_of_none q h)]; exact n⟩

section
variable {K : PySem.W.Frag} {ct : Nat → Addr} {F F' G G' H H' B B' : Hp}
theorem Al.mono (sF : Same F F') (sG : Same G G') : ∀ {n : Nat} {d : D} {v : V}, Al K ct F G n d v → Al K ct F' G' n d v
  | 0, _, _, h => Dt.mono sF h
  | n + 1, _, _, .inl h => .inl (Dt.mono sF h)
  | n + 1, _, _, .inr (.lst h p) => .inr (.lst (sG _ _ h) (p.mono fun _ _ q => Al.mono sF sG q))
  | n + 1, _, _, .inr (.tup h p) => .inr (.tup (sF _ _ h) (p.mono fun _ _ q => Al.mono sF sG q))
  | n + 1, _, _, .inr (.dK h l p) => .inr (.dK (sG _ _ h) l (p.mono fun _ _ q => Al.mono sF sG q))
  | n + 1, _, _, .inr (.dT h l p) => .inr (.dT (sG _ _ h) l (p.mono fun _ _ q => Al.mono sF sG q))
  | n + 1, _, _, .inr (.obj h l p) => .inr (.obj (sG _ _ h) l (p.mono fun _ _ q => Al.mono sF sG q))
theorem Al.of : ∀ {n : Nat} {d : D} {v : V}, Dt K ct F d v → Al K ct F G n d v
  | 0, _, _, h => h
  | _ + 1, _, _, h => .inl h
theorem Al.up : ∀ {n m : Nat} {d : D} {v : V}, Al K ct F G n d v → n ≤ m → Al K ct F G m d v
  | 0, _, _, _, h, _ => Al.of h
  | n + 1, 0, _, _, _, l => absurd l (by omega)
  | n + 1, m + 1, _, _, .inl h, _ => .inl h
  | n + 1, m + 1, _, _, .inr (.lst h p), l => .inr (.lst h (p.mono fun _ _ q => Al.up q (by omega)))
  | n + 1, m + 1, _, _, .inr (.tup h p), l => .inr (.tup h (p.mono fun _ _ q => Al.up q (by omega)))
  | n + 1, m + 1, _, _, .inr (.dK h e p), l => .inr (.dK h e (p.mono fun _ _ q => Al.up q (by omega)))
  | n + 1, m + 1, _, _, .inr (.dT h e p), l => .inr (.dT h e (p.mono fun _ _ q => Al.up q (by omega)))
  | n + 1, m + 1, _, _, .inr (.obj h e p), l => .inr (.obj h e (p.mono fun _ _ q => Al.up q (by omega)))
theorem Dt.scal {d : D} {v : V} (h : Dt K ct F d v) (hs : d.sc = true) : Dt K ct F' d v := by
  cases h with
  | non => exact .non
  | bl b => exact .bl b
  | int i => exact .int i
  | str x => exact .str x
  | lst _ _ => cases hs
  | tup _ _ => cases hs
  | dK _ _ _ => cases hs
  | dT _ _ _ => cases hs
  | obj _ _ _ => cases hs
theorem Al.scal {n : Nat} {d : D} {v : V} (h : Al K ct F G n d v) (hs : d.sc = true) : Dt K ct F' d v := by
  cases n with
  | zero => exact Dt.scal h hs
  | succ n =>
    rcases h with h | h
    · exact h.scal hs
    · cases h <;> cases hs
theorem Al.int {n : Nat} {i : Int} {v : V} (h : Al K ct F G n (.int i) v) : v = .int i := by
  have q := Al.scal (F' := F) h rfl
  cases q; rfl
theorem Al.bl {n : Nat} {b : Bool} {v : V} (h : Al K ct F G n (.bl b) v) : v = .bl b := by
  have q := Al.scal (F' := F) h rfl
  cases q; rfl
theorem Al.str {n : Nat} {x : Str} {v : V} (h : Al K ct F G n (.str x) v) : v = .str x := by
  have q := Al.scal (F' := F) h rfl
  cases q; rfl
theorem Al.non {n : Nat} {v : V} (h : Al K ct F G n .non v) : v = .non := by
  have q := Al.scal (F' := F) h rfl
  cases q; rfl
theorem Al.lst {n : Nat} {ds : List D} {v : V} (h : Al K ct F G n (.lst ds) v) (s : Same F G) : ∃ a vs, v = .ref a ∧ SqL K G a vs ∧ Pr (Al K ct F G (n - 1)) ds vs := by
  cases n with
  | zero =>
    have h : Dt K ct F (.lst ds) v := h
    cases h with
    | lst q t => exact ⟨_, _, rfl, s.seq q, t.pr⟩
  | succ n =>
    rcases h with h | h
    · cases h with
      | lst q t => exact ⟨_, _, rfl, s.seq q, t.pr.mono fun _ _ => Al.of⟩
    · cases h with
      | lst q t => exact ⟨_, _, rfl, SqL.of q, t⟩
theorem Al.tup {n : Nat} {ds : List D} {v : V} (h : Al K ct F G n (.tup ds) v) (s : Same F G) : ∃ a vs, v = .ref a ∧ G a = some (.tup vs) ∧ Pr (Al K ct F G (n - 1)) ds vs := by
  cases n with
  | zero =>
    have h : Dt K ct F (.tup ds) v := h
    cases h with
    | tup q t => exact ⟨_, _, rfl, s _ _ q, t.pr⟩
  | succ n =>
    rcases h with h | h
    · cases h with
      | tup q t => exact ⟨_, _, rfl, s _ _ q, t.pr.mono fun _ _ => Al.of⟩
    · cases h with
      | tup q t => exact ⟨_, _, rfl, s _ _ q, t⟩
theorem Al.dK {n : Nat} {ks : List Key} {ds : List D} {v : V} (h : Al K ct F G n (.dK ks ds) v) (s : Same F G) : ∃ a vs, v = .ref a ∧ G a = some (.dK (ks.zip vs)) ∧ ks.length = vs.length ∧ Pr (Al K ct F G (n - 1)) ds vs := by
  cases n with
  | zero =>
    have h : Dt K ct F (.dK ks ds) v := h
    cases h with
    | dK q l t => exact ⟨_, _, rfl, s _ _ q, l, t.pr⟩
  | succ n =>
    rcases h with h | h
    · cases h with
      | dK q l t => exact ⟨_, _, rfl, s _ _ q, l, t.pr.mono fun _ _ => Al.of⟩
    · cases h with
      | dK q l t => exact ⟨_, _, rfl, q, l, t⟩
theorem Al.dT {n : Nat} {ks : List (List Key)} {ds : List D} {v : V} (h : Al K ct F G n (.dT ks ds) v) (s : Same F G) : ∃ a vs, v = .ref a ∧ G a = some (.dT (ks.zip vs)) ∧ ks.length = vs.length ∧ Pr (Al K ct F G (n - 1)) ds vs := by
  cases n with
  | zero =>
    have h : Dt K ct F (.dT ks ds) v := h
    cases h with
    | dT q l t => exact ⟨_, _, rfl, s _ _ q, l, t.pr⟩
  | succ n =>
    rcases h with h | h
    · cases h with
      | dT q l t => exact ⟨_, _, rfl, s _ _ q, l, t.pr.mono fun _ _ => Al.of⟩
    · cases h with
      | dT q l t => exact ⟨_, _, rfl, q, l, t⟩
theorem Al.obj {n : Nat} {c : Nat} {ns : List Str} {ds : List D} {v : V} (h : Al K ct F G n (.obj c ns ds) v) (s : Same F G) : ∃ a dx vs, v = .ref a ∧ G a = some (.ins (ct c) dx (ns.zip vs)) ∧ ns.length = vs.length ∧ Pr (Al K ct F G (n - 1)) ds vs := by
  cases n with
  | zero =>
    have h : Dt K ct F (.obj c ns ds) v := h
    cases h with
    | obj q l t => exact ⟨_, _, _, rfl, s _ _ q, l, t.pr⟩
  | succ n =>
    rcases h with h | h
    · cases h with
      | obj q l t => exact ⟨_, _, _, rfl, s _ _ q, l, t.pr.mono fun _ _ => Al.of⟩
    · cases h with
      | obj q l t => exact ⟨_, _, _, rfl, q, l, t⟩

theorem OwL.mono {R R' : D → V → List Addr → Prop} : ∀ {ds : List D} {vs : List V} {fp : List Addr}, OwL R ds vs fp → (∀ d v f, (∀ a ∈ f, a ∈ fp) → R d v f → R' d v f) → OwL R' ds vs fp
  | _, _, _, .nil, _ => .nil
  | _, _, _, .cons h t, q => .cons (q _ _ _ (fun a z => List.mem_append_left _ z) h) (OwL.mono t fun d v f i r => q d v f (fun a z => List.mem_append_right _ (i a z)) r)
theorem OwL.pr {R : D → V → List Addr → Prop} {R' : D → V → Prop} : ∀ {ds : List D} {vs : List V} {fp : List Addr}, OwL R ds vs fp → (∀ d v f, (∀ a ∈ f, a ∈ fp) → R d v f → R' d v) → Pr R' ds vs
  | _, _, _, .nil, _ => .nil
  | _, _, _, .cons h t, q => .cons (q _ _ _ (fun a z => List.mem_append_left _ z) h) (OwL.pr t fun d v f i r => q d v f (fun a z => List.mem_append_right _ (i a z)) r)
theorem OwL.ofPr {R : D → V → List Addr → Prop} : ∀ {ds : List D} {vs : List V}, Pr (fun d v => R d v []) ds vs → OwL R ds vs []
  | _, _, .nil => .nil
  | _, _, .cons h t => OwL.cons (f := []) (g := []) h (OwL.ofPr t)
theorem OwL.append {R : D → V → List Addr → Prop} : ∀ {ds es : List D} {vs us : List V} {f g : List Addr}, OwL R ds vs f → OwL R es us g → OwL R (ds ++ es) (vs ++ us) (f ++ g)
  | _, _, _, _, _, _, .nil, s => s
  | _, _, _, _, _, _, .cons h t, s => by rw [List.append_assoc]; exact .cons h (OwL.append t s)
theorem OwL.length {R : D → V → List Addr → Prop} : ∀ {ds : List D} {vs : List V} {fp : List Addr}, OwL R ds vs fp → ds.length = vs.length
  | _, _, _, .nil => rfl
  | _, _, _, .cons _ t => by simp [OwL.length t]
theorem Ow.frame (sF : Same F F') : ∀ {n : Nat} {d : D} {v : V} {fp : List Addr}, Ow K ct F H n d v fp → (∀ a ∈ fp, H' a = H a ∧ F' a = none) → Ow K ct F' H' n d v fp
  | 0, _, _, _, ⟨h, e⟩, _ => ⟨h.mono sF, e⟩
  | n + 1, _, _, _, .inl ⟨c, h, e⟩, _ => .inl ⟨c, h.mono sF, e⟩
  | n + 1, _, _, _, .inr (.lst hn h p), k => .inr (.lst (k _ List.mem_cons_self).2 ((k _ List.mem_cons_self).1.trans h) (p.mono fun _ _ _ i q => Ow.frame sF q fun a z => k a (List.mem_cons_of_mem _ (i a z))))
  | n + 1, _, _, _, .inr (.tup h p), k => .inr (.tup (sF _ _ h) (p.mono fun _ _ _ i q => Ow.frame sF q fun a z => k a (i a z)))
  | n + 1, _, _, _, .inr (.dK hn h l p), k => .inr (.dK (k _ List.mem_cons_self).2 ((k _ List.mem_cons_self).1.trans h) l (p.mono fun _ _ _ i q => Ow.frame sF q fun a z => k a (List.mem_cons_of_mem _ (i a z))))
  | n + 1, _, _, _, .inr (.obj hn h l p), k => .inr (.obj (k _ List.mem_cons_self).2 ((k _ List.mem_cons_self).1.trans h) l (p.mono fun _ _ _ i q => Ow.frame sF q fun a z => k a (List.mem_cons_of_mem _ (i a z))))
  | n + 1, _, _, _, .inr (.dT hn h l p), k => .inr (.dT (k _ List.mem_cons_self).2 ((k _ List.mem_cons_self).1.trans h) l (p.mono fun _ _ _ i q => Ow.frame sF q fun a z => k a (List.mem_cons_of_mem _ (i a z))))
theorem Ow.cells : ∀ {n : Nat} {d : D} {v : V} {fp : List Addr}, Ow K ct F H n d v fp → ∀ a ∈ fp, F a = none ∧ ∃ o, H a = some o
  | 0, _, _, _, ⟨_, e⟩, a, z => by subst e; cases z
  | n + 1, _, _, _, .inl ⟨_, _, e⟩, a, z => by subst e; cases z
  | n + 1, _, _, _, .inr (.lst hn h p), a, z => by
    rcases List.mem_cons.mp z with rfl | z
    · exact ⟨hn, _, h⟩
    · exact OwL.cells (fun d v f q => Ow.cells q) p a z
  | n + 1, _, _, _, .inr (.tup h p), a, z => OwL.cells (fun d v f q => Ow.cells q) p a z
  | n + 1, _, _, _, .inr (.dK hn h l p), a, z => by
    rcases List.mem_cons.mp z with rfl | z
    · exact ⟨hn, _, h⟩
    · exact OwL.cells (fun d v f q => Ow.cells q) p a z
  | n + 1, _, _, _, .inr (.obj hn h l p), a, z => by
    rcases List.mem_cons.mp z with rfl | z
    · exact ⟨hn, _, h⟩
    · exact OwL.cells (fun d v f q => Ow.cells q) p a z
  | n + 1, _, _, _, .inr (.dT hn h l p), a, z => by
    rcases List.mem_cons.mp z with rfl | z
    · exact ⟨hn, _, h⟩
    · exact OwL.cells (fun d v f q => Ow.cells q) p a z
where
  OwL.cells {R : D → V → List Addr → Prop} (k : ∀ d v f, R d v f → ∀ a ∈ f, F a = none ∧ ∃ o, H a = some o) : ∀ {ds : List D} {vs : List V} {fp : List Addr}, OwL R ds vs fp → ∀ a ∈ fp, F a = none ∧ ∃ o, H a = some o
  | _, _, _, .nil, a, z => by cases z
  | _, _, _, .cons h t, a, z => (List.mem_append.mp z).elim (fun z => k _ _ _ h a z) fun z => OwL.cells k t a z
theorem Ow.ext {n : Nat} {d : D} {v : V} {fp : List Addr} (h : Ow K ct F H n d v fp) (e : Ext F H F' H') : Ow K ct F' H' n d v fp :=
  h.frame e.ff fun a z => by
    obtain ⟨hn, o, ho⟩ := h.cells a z
    exact ⟨(e.hh _ _ ho).trans ho.symm, e.nf a o ho hn⟩
theorem Ow.al (s : Same F H) : ∀ {n : Nat} {d : D} {v : V} {fp : List Addr}, Ow K ct F H n d v fp → Al K ct F H n d v
  | 0, _, _, _, ⟨h, _⟩ => h
  | n + 1, _, _, _, .inl ⟨_, h, _⟩ => .inl h
  | n + 1, _, _, _, .inr (.lst hn h p) => .inr (.lst h (p.pr fun _ _ _ _ q => Ow.al s q))
  | n + 1, _, _, _, .inr (.tup h p) => .inr (.tup h (p.pr fun _ _ _ _ q => Ow.al s q))
  | n + 1, _, _, _, .inr (.dK hn h l p) => .inr (.dK h l (p.pr fun _ _ _ _ q => Ow.al s q))
  | n + 1, _, _, _, .inr (.obj hn h l p) => .inr (.obj h l (p.pr fun _ _ _ _ q => Ow.al s q))
  | n + 1, _, _, _, .inr (.dT hn h l p) => .inr (.dT h l (p.pr fun _ _ _ _ q => Ow.al s q))
theorem Ow.dt (sF : Same F F') : ∀ {n : Nat} {d : D} {v : V} {fp : List Addr}, Ow K ct F H n d v fp → (∀ a ∈ fp, F' a = H a) → Dt K ct F' d v
  | 0, _, _, _, ⟨h, _⟩, _ => h.mono sF
  | n + 1, _, _, _, .inl ⟨_, h, _⟩, _ => h.mono sF
  | n + 1, _, _, _, .inr (.lst hn h p), k => .lst (SqL.of ((k _ List.mem_cons_self).trans h)) (.of (p.pr fun _ _ _ i q => Ow.dt sF q fun a z => k a (List.mem_cons_of_mem _ (i a z))))
  | n + 1, _, _, _, .inr (.tup h p), k => .tup (sF _ _ h) (.of (p.pr fun _ _ _ i q => Ow.dt sF q fun a z => k a (i a z)))
  | n + 1, _, _, _, .inr (.dK hn h l p), k => .dK ((k _ List.mem_cons_self).trans h) l (.of (p.pr fun _ _ _ i q => Ow.dt sF q fun a z => k a (List.mem_cons_of_mem _ (i a z))))
  | n + 1, _, _, _, .inr (.obj hn h l p), k => .obj ((k _ List.mem_cons_self).trans h) l (.of (p.pr fun _ _ _ i q => Ow.dt sF q fun a z => k a (List.mem_cons_of_mem _ (i a z))))
  | n + 1, _, _, _, .inr (.dT hn h l p), k => .dT ((k _ List.mem_cons_self).trans h) l (.of (p.pr fun _ _ _ i q => Ow.dt sF q fun a z => k a (List.mem_cons_of_mem _ (i a z))))
def withC (F H : Hp) (fp : List Addr) : Hp := fun a => if a ∈ fp then H a else F a
theorem withC_ext {fp : List Addr} (s : Same F H) (hf : ∀ a ∈ fp, F a = none) : Same F (withC F H fp) ∧ Same (withC F H fp) H ∧ ∀ a ∈ fp, withC F H fp a = H a := by
  refine ⟨fun a o h => ?_, fun a o h => ?_, fun a z => if_pos z⟩
  · have : ¬ a ∈ fp := fun z => by rw [hf a z] at h; cases h
    unfold withC; rw [if_neg this]; exact h
  · unfold withC at h
    by_cases z : a ∈ fp
    · rw [if_pos z] at h; exact h
    · rw [if_neg z] at h; exact s _ _ h
theorem Ow.freeze {n : Nat} {d : D} {v : V} {fp : List Addr} {F0 H0 : Hp} (h : Ow K ct F H n d v fp) (e : Ext F0 H0 F H) (hf : ∀ a ∈ fp, H0 a = none) : ∃ F', Ext F0 H0 F' H ∧ Dt K ct F' d v := by
  obtain ⟨w1, w2, w3⟩ := withC_ext (fp := fp) e.fh (fun a z => (h.cells a z).1)
  refine ⟨withC F H fp, ⟨e.ff.trans w1, e.hh, w2, fun a o ho hn => ?_⟩, h.dt w1 w3⟩
  have : ¬ a ∈ fp := fun z => by rw [hf a z] at ho; cases ho
  unfold withC; rw [if_neg this]; exact e.nf a o ho hn
theorem Ow.zero {d : D} {v : V} (h : Dt K ct F d v) : Ow K ct F H 0 d v [] := ⟨h, rfl⟩
theorem Ow.scal {n : Nat} {d : D} {v : V} (h : Dt K ct F d v) (hs : d.sc = true) : Ow K ct F H n d v [] := by
  cases n with
  | zero => exact ⟨h, rfl⟩
  | succ n => exact .inl ⟨hs, h, rfl⟩
end
end L3

namespace L3
open PySem PySem.Spec L2
open PyProof.Rows hiding St

abbrev Env := List (Option D)
inductive Mo where
  | al (n : Nat) | ow (n : Nat) | px (v : V) | so (x : Addr)
def Mo.lv : Mo → Nat
  | .al n => n
  | .ow n => n
  | .px _ => 1
  | .so _ => 1
section
variable (K : PySem.W.Frag) (ct : Nat → Addr)
inductive SL (F B H : Hp) : List Mo → Env → St → List Addr → Prop
  | nil : SL F B H [] [] [] []
  | no {m : Mo} {o : Option V} {ms : List Mo} {ρ : Env} {σ : St} {fp : List Addr} : SL F B H ms ρ σ fp → SL F B H (m :: ms) (none :: ρ) (o :: σ) fp
  | al {n : Nat} {d : D} {v : V} {ms : List Mo} {ρ : Env} {σ : St} {fp : List Addr} : Al K ct F B n d v → SL F B H ms ρ σ fp → SL F B H (.al n :: ms) (some d :: ρ) (some v :: σ) fp
  | px {d : D} {v : V} {ms : List Mo} {ρ : Env} {σ : St} {fp : List Addr} : Al K ct F B 1 d v → SL F B H ms ρ σ fp → SL F B H (.px v :: ms) (some d :: ρ) (some v :: σ) fp
  | so {d : D} {x : Addr} {ms : List Mo} {ρ : Env} {σ : St} {fp : List Addr} : Ow K ct F H 1 d (.ref x) [x] → SL F B H ms ρ σ fp → SL F B H (.so x :: ms) (some d :: ρ) (some (.ref x) :: σ) (x :: fp)
  | ow {n : Nat} {d : D} {v : V} {ms : List Mo} {ρ : Env} {σ : St} {f fp : List Addr} : Ow K ct F H n d v f → SL F B H ms ρ σ fp → SL F B H (.ow n :: ms) (some d :: ρ) (some v :: σ) (f ++ fp)
structure RS (F0 B : Hp) (ms : List Mo) (F H : Hp) (ρ : Env) (σ : St) : Prop where
  f0 : Same F0 F
  bh : Same B H
  fh : Same F H
  nf : ∀ a o, B a = some o → F0 a = none → F a = none
  sl : ∃ fp, SL K ct F B H ms ρ σ fp ∧ fp.Nodup ∧ ∀ a ∈ fp, B a = none
end
section
variable {K : PySem.W.Frag} {ct : Nat → Addr} {F F' G G' H H' B B' F0 : Hp} {ms : List Mo} {ρ : Env} {σ : St}
theorem SL.cells : ∀ {ms : List Mo} {ρ : Env} {σ : St} {fp : List Addr}, SL K ct F B H ms ρ σ fp → ∀ a ∈ fp, F a = none ∧ ∃ o, H a = some o
  | _, _, _, _, .nil, _, z => by cases z
  | _, _, _, _, .no t, a, z => SL.cells t a z
  | _, _, _, _, .al _ t, a, z => SL.cells t a z
  | _, _, _, _, .px _ t, a, z => SL.cells t a z
  | _, _, _, _, .so h t, a, z => (List.mem_cons.mp z).elim (fun z => h.cells a (by rw [z]; exact List.mem_cons_self)) fun z => SL.cells t a z
  | _, _, _, _, .ow h t, a, z => (List.mem_append.mp z).elim (fun z => h.cells a z) fun z => SL.cells t a z
theorem SL.frame (sF : Same F F') : ∀ {ms : List Mo} {ρ : Env} {σ : St} {fp : List Addr}, SL K ct F B H ms ρ σ fp → (∀ a ∈ fp, H' a = H a ∧ F' a = none) → SL K ct F' B H' ms ρ σ fp
  | _, _, _, _, .nil, _ => .nil
  | _, _, _, _, .no t, k => .no (SL.frame sF t k)
  | _, _, _, _, .al h t, k => .al (h.mono sF (.refl _)) (SL.frame sF t k)
  | _, _, _, _, .px h t, k => .px (h.mono sF (.refl _)) (SL.frame sF t k)
  | _, _, _, _, .so h t, k => .so (h.frame sF fun a z => k a (by rw [List.mem_singleton] at z; rw [z]; exact List.mem_cons_self)) (SL.frame sF t fun a z => k a (List.mem_cons_of_mem _ z))
  | _, _, _, _, .ow h t, k => .ow (h.frame sF fun a z => k a (List.mem_append_left _ z)) (SL.frame sF t fun a z => k a (List.mem_append_right _ z))
theorem RS.ext (r : RS K ct F0 B ms F H ρ σ) (e : Ext F H F' H') : RS K ct F0 B ms F' H' ρ σ := by
  obtain ⟨fp, s, nd, hb⟩ := r.sl
  refine ⟨r.f0.trans e.ff, r.bh.trans e.hh, e.fh, fun a o h n => e.nf a o (r.bh _ _ h) (r.nf a o h n), fp, s.frame e.ff fun a z => ?_, nd, hb⟩
  obtain ⟨hn, o, ho⟩ := s.cells a z
  exact ⟨(e.hh _ _ ho).trans ho.symm, e.nf a o ho hn⟩
theorem SL.get : ∀ {ms : List Mo} {ρ : Env} {σ : St} {fp : List Addr} {i : Nat} {m : Mo} {d : D}, SL K ct F B H ms ρ σ fp → Same F H → Same B H → ms[i]? = some m → ρ[i]? = some (some d) → ∃ v, σ[i]? = some (some v) ∧ Al K ct F H m.lv d v
  | _, _, _, _, _, _, _, .nil, _, _, e, _ => by simp at e
  | _, _, _, _, 0, _, _, .no t, _, _, _, e => by simp at e
  | _, _, _, _, 0, _, _, .al h t, _, s, e, e' => by
    simp at e e'; subst e; subst e'
    exact ⟨_, rfl, h.mono (.refl _) s⟩
  | _, _, _, _, 0, _, _, .px h t, _, s, e, e' => by
    simp at e e'; subst e; subst e'
    exact ⟨_, rfl, h.mono (.refl _) s⟩
  | _, _, _, _, 0, _, _, .so h t, s, _, e, e' => by
    simp at e e'; subst e; subst e'
    exact ⟨_, rfl, h.al s⟩
  | _, _, _, _, 0, _, _, .ow h t, s, _, e, e' => by
    simp at e e'; subst e; subst e'
    exact ⟨_, rfl, h.al s⟩
  | _, _, _, _, i + 1, _, _, .no t, s, s', e, e' => by simpa using SL.get (i := i) t s s' (by simpa using e) (by simpa using e')
  | _, _, _, _, i + 1, _, _, .al h t, s, s', e, e' => by simpa using SL.get (i := i) t s s' (by simpa using e) (by simpa using e')
  | _, _, _, _, i + 1, _, _, .px h t, s, s', e, e' => by simpa using SL.get (i := i) t s s' (by simpa using e) (by simpa using e')
  | _, _, _, _, i + 1, _, _, .so h t, s, s', e, e' => by simpa using SL.get (i := i) t s s' (by simpa using e) (by simpa using e')
  | _, _, _, _, i + 1, _, _, .ow h t, s, s', e, e' => by simpa using SL.get (i := i) t s s' (by simpa using e) (by simpa using e')
theorem RS.get (r : RS K ct F0 B ms F H ρ σ) {i : Nat} {m : Mo} {d : D} (hm : ms[i]? = some m) (e : ρ[i]? = some (some d)) : ∃ v, σ[i]? = some (some v) ∧ Al K ct F H m.lv d v := by
  obtain ⟨fp, s, _, _⟩ := r.sl
  exact s.get r.fh r.bh hm e
theorem SL.put : ∀ {ms : List Mo} {ρ : Env} {σ : St} {fp : List Addr} {i k : Nat}, SL K ct F B H ms ρ σ fp → ms[i]? = some (.ow k) →
    ∃ f1 fr : List Addr, (∀ a ∈ f1, a ∈ fp) ∧ (∀ a ∈ fr, a ∈ fp) ∧ (fp.Nodup → f1.Nodup ∧ fr.Nodup ∧ ∀ a ∈ f1, a ∉ fr) ∧ (∀ d, ρ[i]? = some (some d) → ∃ v, σ[i]? = some (some v) ∧ Ow K ct F H k d v f1) ∧
      ∀ (F' H' : Hp) (d' : D) (v' : V) (f' : List Addr), Same F F' → (∀ a ∈ fr, H' a = H a ∧ F' a = none) → Ow K ct F' H' k d' v' f' →
        ∃ fp', SL K ct F' B H' ms (ρ.set i (some d')) (σ.set i (some v')) fp' ∧ (∀ a ∈ fp', a ∈ f' ∨ a ∈ fr) ∧ (f'.Nodup → fr.Nodup → (∀ a ∈ f', a ∉ fr) → fp'.Nodup)
  | _, _, _, _, _, _, .nil, e => by simp at e
  | _, _, _, fp, 0, k, .no t, e => by
    simp at e; subst e
    refine ⟨[], fp, fun a z => (by cases z), fun a z => z, fun n => ⟨List.nodup_nil, n, fun a z => (by cases z)⟩, fun d q => (by simp at q), fun F' H' d' v' f' s kf h => ⟨f' ++ fp, .ow h (t.frame s kf), fun a z => List.mem_append.mp z, fun n1 n2 dj => ?_⟩⟩
    exact List.nodup_append.mpr ⟨n1, n2, fun a z b zb e => dj a z (e ▸ zb)⟩
  | _, _, _, _, 0, k, .al h t, e => by simp at e
  | _, _, _, _, 0, k, .px h t, e => by simp at e
  | _, _, _, _, 0, k, .so h t, e => by simp at e
  | _, _, _, _, 0, k, .ow (f := f) (fp := fp) h t, e => by
    simp at e; subst e
    refine ⟨f, fp, fun a z => List.mem_append_left _ z, fun a z => List.mem_append_right _ z, fun n => ?_, fun d q => ?_, fun F' H' d' v' f' s kf h => ⟨f' ++ fp, .ow h (t.frame s kf), fun a z => List.mem_append.mp z, fun n1 n2 dj => ?_⟩⟩
    · obtain ⟨n1, n2, n3⟩ := List.nodup_append.mp n
      exact ⟨n1, n2, fun a z zb => n3 a z a zb rfl⟩
    · simp at q; subst q; exact ⟨_, rfl, h⟩
    · exact List.nodup_append.mpr ⟨n1, n2, fun a z b zb e => dj a z (e ▸ zb)⟩
  | _, _, _, _, i + 1, k, .no t, e => by
    obtain ⟨f1, fr, h1, h2, h3, h4, h5⟩ := SL.put (i := i) (k := k) t (by simpa using e)
    refine ⟨f1, fr, h1, h2, h3, fun d q => by simpa using h4 d (by simpa using q), fun F' H' d' v' f' s kf h => ?_⟩
    obtain ⟨fp', q1, q2, q3⟩ := h5 F' H' d' v' f' s kf h
    exact ⟨fp', .no q1, q2, q3⟩
  | _, _, _, _, i + 1, k, .al h t, e => by
    obtain ⟨f1, fr, h1, h2, h3, h4, h5⟩ := SL.put (i := i) (k := k) t (by simpa using e)
    refine ⟨f1, fr, h1, h2, h3, fun d q => by simpa using h4 d (by simpa using q), fun F' H' d' v' f' s kf h' => ?_⟩
    obtain ⟨fp', q1, q2, q3⟩ := h5 F' H' d' v' f' s kf h'
    exact ⟨fp', .al (h.mono s (.refl _)) q1, q2, q3⟩
  | _, _, _, _, i + 1, k, .px h t, e => by
    obtain ⟨f1, fr, h1, h2, h3, h4, h5⟩ := SL.put (i := i) (k := k) t (by simpa using e)
    refine ⟨f1, fr, h1, h2, h3, fun d q => by simpa using h4 d (by simpa using q), fun F' H' d' v' f' s kf h' => ?_⟩
    obtain ⟨fp', q1, q2, q3⟩ := h5 F' H' d' v' f' s kf h'
    exact ⟨fp', .px (h.mono s (.refl _)) q1, q2, q3⟩
  | _, _, _, _, i + 1, k, .so (x := x) (fp := fp) h t, e => by
    obtain ⟨f1, fr, h1, h2, h3, h4, h5⟩ := SL.put (i := i) (k := k) t (by simpa using e)
    refine ⟨f1, x :: fr, fun a z => List.mem_cons_of_mem _ (h1 a z), fun a z => (List.mem_cons.mp z).elim (fun z => by rw [z]; exact List.mem_cons_self) fun z => List.mem_cons_of_mem _ (h2 a z), fun n => ?_, fun d q => by simpa using h4 d (by simpa using q), fun F' H' d' v' f' s kf h' => ?_⟩
    · obtain ⟨n1, n2⟩ := List.nodup_cons.mp n
      obtain ⟨m1, m2, m3⟩ := h3 n2
      refine ⟨m1, List.nodup_cons.mpr ⟨fun z => n1 (h2 x z), m2⟩, fun a z zb => ?_⟩
      rcases List.mem_cons.mp zb with zb | zb
      · rw [zb] at z; exact n1 (h1 x z)
      · exact m3 a z zb
    · obtain ⟨fp', q1, q2, q3⟩ := h5 F' H' d' v' f' s (fun a z => kf a (List.mem_cons_of_mem _ z)) h'
      refine ⟨x :: fp', .so (h.frame s fun a z => kf a (by rw [List.mem_singleton] at z; rw [z]; exact List.mem_cons_self)) q1, fun a z => ?_, fun n1 n2 dj => ?_⟩
      · rcases List.mem_cons.mp z with z | z
        · exact .inr (by rw [z]; exact List.mem_cons_self)
        · exact (q2 a z).imp id fun z => List.mem_cons_of_mem _ z
      · obtain ⟨m1, m2⟩ := List.nodup_cons.mp n2
        refine List.nodup_cons.mpr ⟨fun z => ?_, q3 n1 m2 fun a z zb => dj a z (List.mem_cons_of_mem _ zb)⟩
        rcases q2 x z with z | z
        · exact dj x z List.mem_cons_self
        · exact m1 z
  | _, _, _, _, i + 1, k, .ow (f := f) (fp := fp) h t, e => by
    obtain ⟨f1, fr, h1, h2, h3, h4, h5⟩ := SL.put (i := i) (k := k) t (by simpa using e)
    refine ⟨f1, f ++ fr, fun a z => List.mem_append_right _ (h1 a z), fun a z => (List.mem_append.mp z).elim (fun z => List.mem_append_left _ z) fun z => List.mem_append_right _ (h2 a z), fun n => ?_, fun d q => by simpa using h4 d (by simpa using q), fun F' H' d' v' f' s kf h' => ?_⟩
    · obtain ⟨n1, n2, n3⟩ := List.nodup_append.mp n
      obtain ⟨m1, m2, m3⟩ := h3 n2
      refine ⟨m1, List.nodup_append.mpr ⟨n1, m2, fun a z b zb => n3 a z b (h2 b zb)⟩, fun a z zb => ?_⟩
      rcases List.mem_append.mp zb with zb | zb
      · exact n3 a zb a (h1 a z) rfl
      · exact m3 a z zb
    · obtain ⟨fp', q1, q2, q3⟩ := h5 F' H' d' v' f' s (fun a z => kf a (List.mem_append_right _ z)) h'
      refine ⟨f ++ fp', .ow (h.frame s fun a z => kf a (List.mem_append_left _ z)) q1, fun a z => ?_, fun n1 n2 dj => ?_⟩
      · rcases List.mem_append.mp z with z | z
        · exact .inr (List.mem_append_left _ z)
        · exact (q2 a z).imp id fun z => List.mem_append_right _ z
      · obtain ⟨m1, m2, m3⟩ := List.nodup_append.mp n2
        refine List.nodup_append.mpr ⟨m1, q3 n1 m2 fun a z zb => dj a z (List.mem_append_right _ zb), fun a z b zb e => ?_⟩
        subst e
        rcases q2 a zb with zb | zb
        · exact dj a zb (List.mem_append_left _ z)
        · exact m3 a z a zb rfl
end

abbrev EF := Env → Option D
inductive AlL (K : PySem.W.Frag) (ct : Nat → Addr) (F G : Hp) : List Nat → List D → List V → Prop
  | nil : AlL K ct F G [] [] []
  | cons {n : Nat} {d : D} {v : V} {ns : List Nat} {ds : List D} {vs : List V} : Al K ct F G n d v → AlL K ct F G ns ds vs → AlL K ct F G (n :: ns) (d :: ds) (v :: vs)
theorem AlL.mono {K : PySem.W.Frag} {ct : Nat → Addr} {F F' G G' : Hp} (sF : Same F F') (sG : Same G G') : ∀ {ns : List Nat} {ds : List D} {vs : List V}, AlL K ct F G ns ds vs → AlL K ct F' G' ns ds vs
  | _, _, _, .nil => .nil
  | _, _, _, .cons h t => .cons (h.mono sF sG) (AlL.mono sF sG t)
theorem AlL.length {K : PySem.W.Frag} {ct : Nat → Addr} {F G : Hp} : ∀ {ns : List Nat} {ds : List D} {vs : List V}, AlL K ct F G ns ds vs → vs.length = ns.length
  | _, _, _, .nil => rfl
  | _, _, _, .cons _ t => by simp [AlL.length t]
theorem AlL.length' {K : PySem.W.Frag} {ct : Nat → Addr} {F G : Hp} : ∀ {ns : List Nat} {ds : List D} {vs : List V}, AlL K ct F G ns ds vs → ds.length = vs.length
  | _, _, _, .nil => rfl
  | _, _, _, .cons _ t => by simp [AlL.length' t]
theorem AlL.append {K : PySem.W.Frag} {ct : Nat → Addr} {F G : Hp} {ns' : List Nat} {ds' : List D} {vs' : List V} (q : AlL K ct F G ns' ds' vs') : ∀ {ns : List Nat} {ds : List D} {vs : List V}, AlL K ct F G ns ds vs → AlL K ct F G (ns ++ ns') (ds ++ ds') (vs ++ vs')
  | _, _, _, .nil => q
  | _, _, _, .cons h t => .cons h (AlL.append q t)

section
variable (X : Cx) (ct : Nat → Addr) (ms : List Mo)
def XE (n : Nat) (e : Expr) (f : EF) : Prop := ∃ t, PE X e t ∧ ∀ (F0 B F H : Hp) (ρ : Env) (σ : St) (d : D) (Q : VK), RS X.K ct F0 B ms F H ρ σ → f ρ = some d →
  (∀ v F' H', Ext F H F' H' → Al X.K ct F' H' n d v → Q v H') → t σ H Q
def XO (k : Nat) (e : Expr) (f : EF) : Prop := ∃ t, PE X e t ∧ ∀ (F0 B F H : Hp) (ρ : Env) (σ : St) (d : D) (Q : VK), RS X.K ct F0 B ms F H ρ σ → f ρ = some d →
  (∀ v F' H' fp, Ext F H F' H' → Ow X.K ct F' H' k d v fp → fp.Nodup → (∀ a ∈ fp, H a = none) → Q v H') → t σ H Q
def XT (e : Expr) (f : Env → Option Bool) : Prop := ∃ t, PT X e t ∧ ∀ (F0 B F H : Hp) (ρ : Env) (σ : St) (b : Bool) (Q : Bool → Hp → Prop), RS X.K ct F0 B ms F H ρ σ → f ρ = some b →
  (∀ F' H', Ext F H F' H' → Q b H') → t σ H Q
def XW (e : Expr) (f : Env → Option Bool) : Prop := ∃ t, PW X e t ∧ ∀ (F0 B F H : Hp) (ρ : Env) (σ : St) (b : Bool) (Q : Bool → Hp → Prop), RS X.K ct F0 B ms F H ρ σ → f ρ = some b →
  (∀ F' H', Ext F H F' H' → Q b H') → t σ H Q
def XA (es : List Expr) (ns : List Nat) (f : Env → Option (List D)) : Prop := ∃ t, PA X es t ∧ (∀ ρ ds, f ρ = some ds → ds.length = es.length) ∧ ∀ (F0 B F H : Hp) (ρ : Env) (σ : St) (ds : List D) (Q : List V → Hp → Prop), RS X.K ct F0 B ms F H ρ σ → f ρ = some ds →
  (∀ vs F' H', Ext F H F' H' → AlL X.K ct F' H' ns ds vs → Q vs H') → t σ H Q
end
def e2 (op : D → D → Option D) (f g : EF) : EF := fun ρ => (f ρ).bind fun x => (g ρ).bind fun y => op x y
def e1 (op : D → Option D) (f : EF) : EF := fun ρ => (f ρ).bind op
def eN (op : List D → Option D) (f : Env → Option (List D)) : EF := fun ρ => (f ρ).bind op
def eC (d : D) : EF := fun _ => some d
def eV (i : Nat) : EF := fun ρ => (ρ[i]?).join
def aNil : Env → Option (List D) := fun _ => some []
def aCons (f : EF) (g : Env → Option (List D)) : Env → Option (List D) := fun ρ => (f ρ).bind fun x => (g ρ).bind fun xs => some (x :: xs)
theorem bind2 {α β γ : Type} {o : Option α} {p : Option β} {op : α → β → Option γ} {r : γ} (h : (o.bind fun x => p.bind fun y => op x y) = some r) : ∃ x y, o = some x ∧ p = some y ∧ op x y = some r := by
  cases o with
  | none => cases h
  | some x =>
    cases p with
    | none => cases h
    | some y => exact ⟨x, y, rfl, rfl, h⟩
theorem bind1 {α β : Type} {o : Option α} {op : α → Option β} {r : β} (h : o.bind op = some r) : ∃ x, o = some x ∧ op x = some r := by
  cases o with
  | none => cases h
  | some x => exact ⟨x, rfl, h⟩
theorem join_some {α : Type} {o : Option (Option α)} {x : α} (h : o.join = some x) : o = some (some x) := by
  cases o with
  | none => cases h
  | some y => exact congrArg some h

def Op2 (K : PySem.W.Frag) (ct : Nat → Addr) (n m k : Nat) (r : R2) (op : D → D → Option D) : Prop :=
  ∀ (F H : Hp) (x y : V) (d1 d2 d : D) (Q : VK), Same F H → Al K ct F H n d1 x → Al K ct F H m d2 y → op d1 d2 = some d → (∀ v F' H', Ext F H F' H' → Al K ct F' H' k d v → Q v H') → r x y H Q
def Op2O (K : PySem.W.Frag) (ct : Nat → Addr) (n m k : Nat) (r : R2) (op : D → D → Option D) : Prop :=
  ∀ (F H : Hp) (x y : V) (d1 d2 d : D) (Q : VK), Same F H → Al K ct F H n d1 x → Al K ct F H m d2 y → op d1 d2 = some d →
    (∀ v F' H' fp, Ext F H F' H' → Ow K ct F' H' k d v fp → fp.Nodup → (∀ a ∈ fp, H a = none) → Q v H') → r x y H Q
def OpN (K : PySem.W.Frag) (ct : Nat → Addr) (ns : List Nat) (k : Nat) (r : List V → Hp → VK → Prop) (op : List D → Option D) : Prop :=
  ∀ (F H : Hp) (vs : List V) (ds : List D) (d : D) (Q : VK), Same F H → AlL K ct F H ns ds vs → op ds = some d → (∀ v F' H', Ext F H F' H' → Al K ct F' H' k d v → Q v H') → r vs H Q
def OpNO (K : PySem.W.Frag) (ct : Nat → Addr) (ns : List Nat) (k : Nat) (r : List V → Hp → VK → Prop) (op : List D → Option D) : Prop :=
  ∀ (F H : Hp) (vs : List V) (ds : List D) (d : D) (Q : VK), Same F H → AlL K ct F H ns ds vs → op ds = some d →
    (∀ v F' H' fp, Ext F H F' H' → Ow K ct F' H' k d v fp → fp.Nodup → (∀ a ∈ fp, H a = none) → Q v H') → r vs H Q

section
variable {X : Cx} {ct : Nat → Addr} {ms : List Mo} {n m k : Nat} {a b c e : Expr} {f g h : EF} {pos : Pos}
theorem XE.up (he : XE X ct ms n e f) (hk : n ≤ k) : XE X ct ms k e f := by
  obtain ⟨t, p, q⟩ := he
  exact ⟨t, p, fun F0 B F H ρ σ d Q r e w => q F0 B F H ρ σ d Q r e fun v F' H' x l => w v F' H' x (l.up hk)⟩
theorem XO.sh (he : XO X ct ms k e f) : XE X ct ms n e f := by
  obtain ⟨t, p, q⟩ := he
  refine ⟨t, p, fun F0 B F H ρ σ d Q r e w => q F0 B F H ρ σ d Q r e fun v F' H' fp x o nd hf => ?_⟩
  obtain ⟨F2, x2, h2⟩ := o.freeze x hf
  exact w v F2 H' x2 (Al.of h2)
theorem XE.ow (he : XE X ct ms 0 e f) : XO X ct ms 0 e f := by
  obtain ⟨t, p, q⟩ := he
  exact ⟨t, p, fun F0 B F H ρ σ d Q r e w => q F0 B F H ρ σ d Q r e fun v F' H' x l => w v F' H' [] x ⟨l, rfl⟩ List.nodup_nil fun a z => (by cases z)⟩
theorem XE.sc (he : XE X ct ms n e f) (hs : ∀ ρ d, f ρ = some d → d.sc = true) : XO X ct ms k e f := by
  obtain ⟨t, p, q⟩ := he
  exact ⟨t, p, fun F0 B F H ρ σ d Q r e w => q F0 B F H ρ σ d Q r e fun v F' H' x l => w v F' H' [] x (Ow.scal (Al.scal l (hs _ _ e)) (hs _ _ e)) List.nodup_nil fun a z => (by cases z)⟩

theorem xe_var (i n : Nat) {x : Str} {m : Mo} (hm : ms[i]? = some m := by rfl) (hl : m.lv = n := by rfl) (hN : X.N[i]? = some x := by rfl) (hv : Vis X.env.scope x := by first | exact Or.inl rfl | exact Or.inr (Or.inl rfl) | exact Or.inr (Or.inr rfl)) (hd : (x == ("__debug__" : Str)) = false := by decide)
    (hcd : (x == ("__classdict__" : Str)) = false := by decide) : XE X ct ms n (.Name x pos) (eV i) := by
  subst hl
  refine ⟨_, pe_var hN hv hd hcd, fun F0 B F H ρ σ d Q r e w => ?_⟩
  obtain ⟨v, hv, l⟩ := r.get hm (join_some e)
  exact ⟨v, hv, w v F H (.refl r.fh) l⟩
theorem xe_int {i : Int} {j} : XE X ct ms n (.Constant (.int i) j pos) (eC (.int i)) := ⟨_, pe_int, fun F0 B F H ρ σ d Q r e w => by cases e; exact w _ F H (.refl r.fh) (Al.of (.int i))⟩
theorem xe_bl {i : Bool} {j} : XE X ct ms n (.Constant (.bool i) j pos) (eC (.bl i)) := ⟨_, pe_bl, fun F0 B F H ρ σ d Q r e w => by cases e; exact w _ F H (.refl r.fh) (Al.of (.bl i))⟩
theorem xe_non {j} : XE X ct ms n (.Constant .none j pos) (eC .non) := ⟨_, pe_non, fun F0 B F H ρ σ d Q r e w => by cases e; exact w _ F H (.refl r.fh) (Al.of .non)⟩
theorem XE.bin (ha : XE X ct ms n a f) (hb : XE X ct ms m b g) : ∃ ta tb, PE X a ta ∧ PE X b tb ∧ ∀ (F0 B F H : Hp) (ρ : Env) (σ : St) (d1 d2 : D) (R : V → V → Hp → Prop), RS X.K ct F0 B ms F H ρ σ → f ρ = some d1 → g ρ = some d2 →
    (∀ x y F' H', Ext F H F' H' → Al X.K ct F' H' n d1 x → Al X.K ct F' H' m d2 y → R x y H') → ta σ H fun x H1 => tb σ H1 fun y H2 => R x y H2 := by
  obtain ⟨ta, pa, qa⟩ := ha
  obtain ⟨tb, pb, qb⟩ := hb
  refine ⟨ta, tb, pa, pb, fun F0 B F H ρ σ d1 d2 R r e1 e2 w => qa F0 B F H ρ σ d1 _ r e1 fun x F1 H1 x1 l1 => ?_⟩
  exact qb F0 B F1 H1 ρ σ d2 _ (r.ext x1) e2 fun y F2 H2 x2 l2 => w x y F2 H2 (x1.trans x2) (l1.mono x2.ff x2.hh) l2
theorem xe_op {op : Operator} {r : R2} {o : D → D → Option D} (ho : OpR X (binaryOp op) r) (hs : Op2 X.K ct n m k r o) (ha : XE X ct ms n a f) (hb : XE X ct ms m b g) : XE X ct ms k (.BinOp a op b pos) (e2 o f g) := by
  obtain ⟨ta, tb, pa, pb, q⟩ := ha.bin hb
  refine ⟨_, pe_op ho pa pb, fun F0 B F H ρ σ d Q rs e w => ?_⟩
  obtain ⟨d1, d2, h1, h2, h3⟩ := bind2 e
  exact q F0 B F H ρ σ d1 d2 _ rs h1 h2 fun x y F' H' x1 l1 l2 => hs F' H' x y d1 d2 d Q x1.fh l1 l2 h3 fun v F2 H2 x2 l => w v F2 H2 (x1.trans x2) l
theorem xo_op {op : Operator} {r : R2} {o : D → D → Option D} (ho : OpR X (binaryOp op) r) (hs : Op2O X.K ct n m k r o) (ha : XE X ct ms n a f) (hb : XE X ct ms m b g) : XO X ct ms k (.BinOp a op b pos) (e2 o f g) := by
  obtain ⟨ta, tb, pa, pb, q⟩ := ha.bin hb
  refine ⟨_, pe_op ho pa pb, fun F0 B F H ρ σ d Q rs e w => ?_⟩
  obtain ⟨d1, d2, h1, h2, h3⟩ := bind2 e
  exact q F0 B F H ρ σ d1 d2 _ rs h1 h2 fun x y F' H' x1 l1 l2 => hs F' H' x y d1 d2 d Q x1.fh l1 l2 h3 fun v F2 H2 fp x2 l nd hf => w v F2 H2 fp (x1.trans x2) l nd fun z hz => x1.hh.free (hf z hz)
theorem xe_cmp {op : CmpOp} {r : R2} {o : D → D → Option D} (ho : OpR X (compareOp op) r) (hs : Op2 X.K ct n m k r o) (ha : XE X ct ms n a f) (hb : XE X ct ms m b g) (hm : behindInMarks op b = false) : XE X ct ms k (.Compare a [op] [b] pos) (e2 o f g) := by
  obtain ⟨ta, tb, pa, pb, q⟩ := ha.bin hb
  refine ⟨_, pe_cmpR ho pa pb hm, fun F0 B F H ρ σ d Q rs e w => ?_⟩
  obtain ⟨d1, d2, h1, h2, h3⟩ := bind2 e
  exact q F0 B F H ρ σ d1 d2 _ rs h1 h2 fun x y F' H' x1 l1 l2 => hs F' H' x y d1 d2 d Q x1.fh l1 l2 h3 fun v F2 H2 x2 l => w v F2 H2 (x1.trans x2) l
theorem xe_ix {r : R2} {o : D → D → Option D} (hr : IxR X r) (hs : Op2 X.K ct n m k r o) (ha : XE X ct ms n a f) (hb : XE X ct ms m b g) (hp : PlainIx b) : XE X ct ms k (.Subscript a b pos) (e2 o f g) := by
  obtain ⟨ta, tb, pa, pb, q⟩ := ha.bin hb
  refine ⟨_, pe_ix hr pa pb hp, fun F0 B F H ρ σ d Q rs e w => ?_⟩
  obtain ⟨d1, d2, h1, h2, h3⟩ := bind2 e
  exact q F0 B F H ρ σ d1 d2 _ rs h1 h2 fun x y F' H' x1 l1 l2 => hs F' H' x y d1 d2 d Q x1.fh l1 l2 h3 fun v F2 H2 x2 l => w v F2 H2 (x1.trans x2) l
theorem xa_nil : XA X ct ms [] [] aNil := ⟨_, pa_nil, fun ρ ds e => (by cases e; rfl), fun F0 B F H ρ σ ds Q r e w => by cases e; exact w [] F H (.refl r.fh) .nil⟩
theorem xa_cons {es : List Expr} {ns : List Nat} {fs : Env → Option (List D)} (ha : XE X ct ms n a f) (hr : XA X ct ms es ns fs) (hs : starEach (a :: es) X.env = (false, eval a X.env) :: starEach es X.env := by rfl) : XA X ct ms (a :: es) (n :: ns) (aCons f fs) := by
  obtain ⟨ta, pa, qa⟩ := ha
  obtain ⟨tb, pb, lb, qb⟩ := hr
  refine ⟨_, pa_cons pa pb hs, fun ρ ds e => (by obtain ⟨x, xs, h1, h2, h3⟩ := bind2 e; cases h3; rw [List.length_cons, List.length_cons, lb _ _ h2]), fun F0 B F H ρ σ ds Q r e w => ?_⟩
  obtain ⟨x, xs, h1, h2, h3⟩ := bind2 e
  cases h3
  refine qa F0 B F H ρ σ x _ r h1 fun v F1 H1 x1 l1 => ?_
  exact qb F0 B F1 H1 ρ σ xs _ (r.ext x1) h2 fun vs F2 H2 x2 l2 => w (v :: vs) F2 H2 (x1.trans x2) (.cons (l1.mono x2.ff x2.hh) l2)
def XAO (X : Cx) (ct : Nat → Addr) (ms : List Mo) (k : Nat) (es : List Expr) (f : Env → Option (List D)) : Prop := ∃ t, PA X es t ∧ (∀ ρ ds, f ρ = some ds → ds.length = es.length) ∧ ∀ (F0 B F H : Hp) (ρ : Env) (σ : St) (ds : List D) (Q : List V → Hp → Prop), RS X.K ct F0 B ms F H ρ σ → f ρ = some ds →
  (∀ vs F' H' fp, Ext F H F' H' → OwL (Ow X.K ct F' H' k) ds vs fp → fp.Nodup → (∀ a ∈ fp, H a = none) → Q vs H') → t σ H Q
theorem xao_nil : XAO X ct ms k [] aNil := ⟨_, pa_nil, fun ρ ds e => (by cases e; rfl), fun F0 B F H ρ σ ds Q r e w => by cases e; exact w [] F H [] (.refl r.fh) .nil List.nodup_nil fun a z => (by cases z)⟩
theorem xao_cons {es : List Expr} {fs : Env → Option (List D)} (ha : XO X ct ms k a f) (hr : XAO X ct ms k es fs) (hs : starEach (a :: es) X.env = (false, eval a X.env) :: starEach es X.env := by rfl) : XAO X ct ms k (a :: es) (aCons f fs) := by
  obtain ⟨ta, pa, qa⟩ := ha
  obtain ⟨tb, pb, lb, qb⟩ := hr
  refine ⟨_, pa_cons pa pb hs, fun ρ ds e => (by obtain ⟨x, xs, h1, h2, h3⟩ := bind2 e; cases h3; rw [List.length_cons, List.length_cons, lb _ _ h2]), fun F0 B F H ρ σ ds Q r e w => ?_⟩
  obtain ⟨x, xs, h1, h2, h3⟩ := bind2 e
  cases h3
  refine qa F0 B F H ρ σ x _ r h1 fun v F1 H1 f1 x1 l1 n1 a1 => ?_
  refine qb F0 B F1 H1 ρ σ xs _ (r.ext x1) h2 fun vs F2 H2 f2 x2 l2 n2 a2 => w (v :: vs) F2 H2 (f1 ++ f2) (x1.trans x2) (.cons (l1.ext x2) l2) (List.nodup_append.mpr ⟨n1, n2, fun z hz y hy e => ?_⟩) fun z hz => ?_
  · subst e
    obtain ⟨_, o, ho⟩ := l1.cells z hz
    rw [a2 z hy] at ho
    cases ho
  · rcases List.mem_append.mp hz with hz | hz
    · exact a1 z hz
    · exact x1.hh.free (a2 z hz)
end
end L3

namespace L3
open PySem PySem.Spec L2
open PyProof.Rows hiding St
def asB : D → Option Bool
  | .bl b => some b
  | _ => none
theorem asB_some {d : D} {b : Bool} (h : asB d = some b) : d = .bl b := by cases d <;> simp [asB] at h; subst h; rfl
abbrev BF := Env → Option Bool
def tb (f : EF) : BF := fun ρ => (f ρ).bind asB
def bNot (f : BF) : BF := fun ρ => (f ρ).bind fun b => some (!b)
def bAnd (f g : BF) : BF := fun ρ => (f ρ).bind fun b => if b = true then g ρ else some false
def bOr (f g : BF) : BF := fun ρ => (f ρ).bind fun b => if b = true then some true else g ρ
def eB (f : BF) : EF := fun ρ => (f ρ).bind fun b => some (.bl b)
def eIf (c : BF) (f g : EF) : EF := fun ρ => (c ρ).bind fun b => if b = true then f ρ else g ρ
section
variable {X : Cx} {ct : Nat → Addr} {ms : List Mo} {n m k : Nat} {a b c e : Expr} {f g h : EF} {p q : BF} {pos : Pos}
theorem xt_val (he : XE X ct ms n e f) (hi : ∀ whole, isTrue e X.env whole = (do let v ← whole; standAt e.pos; holding [v] (truthy v)) := by intro _; rfl) : XT X ct ms e (tb f) := by
  obtain ⟨t, pt, qt⟩ := he
  refine ⟨_, pt_val pt hi, fun F0 B F H ρ σ b Q r e w => ?_⟩
  obtain ⟨d, h1, h2⟩ := bind1 e
  rw [asB_some h2] at h1
  exact qt F0 B F H ρ σ _ _ r h1 fun v F' H' x l => ⟨b, l.bl, w F' H' x⟩
theorem xt_cmp {op : CmpOp} {r : R2} {o : D → D → Option D} (ho : OpR X (compareOp op) r) (hs : Op2 X.K ct n m k r o) (ha : XE X ct ms n a f) (hb : XE X ct ms m b g) (hm : behindInMarks op b = false) : XT X ct ms (.Compare a [op] [b] pos) (tb (e2 o f g)) := by
  obtain ⟨ta, tb, pa, pb, q⟩ := ha.bin hb
  refine ⟨_, pt_cmpR ho pa pb hm, fun F0 B F H ρ σ b Q rs e w => ?_⟩
  obtain ⟨d, h0, h4⟩ := bind1 e
  rw [asB_some h4] at h0
  obtain ⟨d1, d2, h1, h2, h3⟩ := bind2 h0
  exact q F0 B F H ρ σ d1 d2 _ rs h1 h2 fun x y F' H' x1 l1 l2 => hs F' H' x y d1 d2 _ _ x1.fh l1 l2 h3 fun v F2 H2 x2 l => ⟨b, l.bl, w F2 H2 (x1.trans x2)⟩
theorem XW.t (h : XW X ct ms e p) : XT X ct ms e p := by
  obtain ⟨t, pt, qt⟩ := h
  exact ⟨t, pt.pt, qt⟩
theorem xw_or1 (ha : XT X ct ms a p) : XW X ct ms (.BoolOp .Or [a] pos) p := by
  obtain ⟨t, pt, qt⟩ := ha
  exact ⟨t, pw_or1 pt, qt⟩
theorem xw_or {rest : List Expr} (ha : XT X ct ms a p) (hb : XW X ct ms (.BoolOp .Or (b :: rest) pos) q) : XW X ct ms (.BoolOp .Or (a :: b :: rest) pos) (bOr p q) := by
  obtain ⟨t, pt, qt⟩ := ha
  obtain ⟨u, pu, qu⟩ := hb
  refine ⟨_, pw_or pt pu, fun F0 B F H ρ σ r Q rs e w => ?_⟩
  obtain ⟨x, h1, h2⟩ := bind1 e
  refine qt F0 B F H ρ σ x _ rs h1 fun F1 H1 x1 => ?_
  cases x with
  | true => cases h2; rw [if_pos rfl]; exact w F1 H1 x1
  | false => rw [if_neg Bool.false_ne_true]; exact qu F0 B F1 H1 ρ σ r _ (rs.ext x1) h2 fun F2 H2 x2 => w F2 H2 (x1.trans x2)
theorem xt_not (ha : XT X ct ms a p) : XT X ct ms (.UnaryOp .Not a pos) (bNot p) := by
  obtain ⟨t, pt, qt⟩ := ha
  refine ⟨_, pt_not pt, fun F0 B F H ρ σ r Q rs e w => ?_⟩
  obtain ⟨x, h1, h2⟩ := bind1 e
  cases h2
  exact qt F0 B F H ρ σ x _ rs h1 fun F1 H1 x1 => w F1 H1 x1
theorem xe_not (ha : XE X ct ms n a f) : XE X ct ms k (.UnaryOp .Not a pos) (eB (bNot (tb f))) := by
  obtain ⟨t, pt, qt⟩ := ha
  refine ⟨_, pe_not pt, fun F0 B F H ρ σ r Q rs e w => ?_⟩
  obtain ⟨x, h1, h2⟩ := bind1 e
  obtain ⟨y, h3, h4⟩ := bind1 h1
  obtain ⟨z, h5, h6⟩ := bind1 h3
  cases h2; cases h4
  rw [asB_some h6] at h5
  exact qt F0 B F H ρ σ _ _ rs h5 fun v F1 H1 x1 l => ⟨y, l.bl, w _ F1 H1 x1 (Al.of (.bl _))⟩
theorem xe_one {op} (ha : XE X ct ms n a f) : XE X ct ms k (.BoolOp op [a] pos) (eB (tb f)) := by
  obtain ⟨t, pt, qt⟩ := ha
  refine ⟨_, pe_one pt, fun F0 B F H ρ σ r Q rs e w => ?_⟩
  obtain ⟨y, h3, h4⟩ := bind1 e
  obtain ⟨z, h5, h6⟩ := bind1 h3
  cases h4
  rw [asB_some h6] at h5
  exact qt F0 B F H ρ σ _ _ rs h5 fun v F1 H1 x1 l => w _ F1 H1 x1 (by rw [l.bl]; exact Al.of (.bl _))
theorem xe_and {rest : List Expr} (ha : XE X ct ms n a f) (hb : XE X ct ms k (.BoolOp .And (b :: rest) pos) (eB q)) : XE X ct ms k (.BoolOp .And (a :: b :: rest) pos) (eB (bAnd (tb f) q)) := by
  obtain ⟨t, pt, qt⟩ := ha
  obtain ⟨u, pu, qu⟩ := hb
  refine ⟨_, pe_and pt pu, fun F0 B F H ρ σ r Q rs e w => ?_⟩
  obtain ⟨y, h3, h4⟩ := bind1 e
  obtain ⟨x, h1, h2⟩ := bind1 h3
  obtain ⟨z, h5, h6⟩ := bind1 h1
  cases h4
  rw [asB_some h6] at h5
  refine qt F0 B F H ρ σ _ _ rs h5 fun v F1 H1 x1 l => ⟨x, l.bl, ?_⟩
  cases x with
  | true => rw [if_pos rfl]; exact qu F0 B F1 H1 ρ σ _ _ (rs.ext x1) (show (q ρ).bind _ = _ by rw [if_pos rfl] at h2; rw [h2]; rfl) fun v F2 H2 x2 l => w v F2 H2 (x1.trans x2) l
  | false => rw [if_neg Bool.false_ne_true] at h2 ⊢; cases h2; exact w _ F1 H1 x1 (Al.of (.bl _))
theorem OwL.cellsOf {K : PySem.W.Frag} {F H : Hp} {ds : List D} {vs : List V} {fp : List Addr} (l : OwL (Ow K ct F H k) ds vs fp) : ∀ a ∈ fp, F a = none ∧ ∃ o, H a = some o := Ow.cells.OwL.cells (fun d v f q => Ow.cells q) l
theorem new_lst {K : PySem.W.Frag} {F H : Hp} {ds : List D} {vs : List V} {fp : List Addr} {p : Addr} (s : Same F H) (l : OwL (Ow K ct F H k) ds vs fp) (hp : H p = none) : Ow K ct F (upd H p (.lst vs)) (k + 1) (.lst ds) (.ref p) (p :: fp) ∧ (fp.Nodup → (p :: fp).Nodup) :=
  ⟨.inr (.lst (s.free hp) upd_same (l.mono fun _ _ _ _ o => o.ext (Ext.newO s hp _))), fun nd => List.nodup_cons.mpr ⟨fun z => (by
    obtain ⟨_, o, ho⟩ := OwL.cellsOf l p z
    rw [hp] at ho
    cases ho), nd⟩⟩
theorem xo_lst {es : List Expr} {fs : Env → Option (List D)} (h : XAO X ct ms k es fs) (hl : es.length ≤ 1000 := by decide) : XO X ct ms (k + 1) (.List es pos) (fun ρ => (fs ρ).bind fun ds => some (.lst ds)) := by
  obtain ⟨t, pt, lt, qt⟩ := h
  refine ⟨_, pe_lst pt, fun F0 B F H ρ σ r Q rs e w => ?_⟩
  obtain ⟨ds, h1, h2⟩ := bind1 e
  cases h2
  refine qt F0 B F H ρ σ ds _ rs h1 fun vs F1 H1 fp x1 l nd hf => ⟨?_, fun p hp => ?_⟩
  · rw [← l.length, lt _ _ h1]; exact small hl
  · obtain ⟨o, n2⟩ := new_lst x1.fh l hp
    refine w _ _ _ (p :: fp) (x1.trans (Ext.newO x1.fh hp _)) o (n2 nd) fun z hz => ?_
    rcases List.mem_cons.mp hz with rfl | hz
    · exact x1.hh.free hp
    · exact hf z hz
def LSp (K : PySem.W.Frag) (ct : Nat → Addr) (pm : List Nat) (rk : Nat) (m : List D → Option D) : Sp := fun vs H Q _ => ∃ (F : Hp) (ds : List D) (d : D), Same F H ∧ AlL K ct F H pm ds vs ∧ m ds = some d ∧
  ∀ v F' H' fp, Ext F H F' H' → Ow K ct F' H' rk d v fp → fp.Nodup → (∀ a ∈ fp, H a = none) → Q v H'
theorem LSp.len {K : PySem.W.Frag} {ct : Nat → Addr} {pm : List Nat} {rk : Nat} {m : List D → Option D} {ps : List Str} (h : pm.length = ps.length) : ∀ vs H Q E, LSp K ct pm rk m vs H Q E → vs.length = ps.length := by
  rintro vs H Q E ⟨F, ds, d, _, l, _⟩
  rw [l.length, h]
variable {kk : Nat} {fa : Addr} {fd : FuncData} {ps : List Str} {pm : List Nat} {rk : Nat} {mf : List D → Option D} {x : Str} {pp : Pos}
theorem xo_call {es : List Expr} {ns nd : List Nat} {fs : Env → Option (List D)} {dvs : List V} {dds : List D} {dsv : List Value} (Fn : FnOk X.prog X.w X.K X.mg X.base CX0 kk fa fd ps (LSp X.K ct (ns ++ nd) rk mf)) (hr : Room kk X.A) (hg : Gl X x) (hm : X.mg x = some (.ref fa)) (hk : PySem.W.keepIn X.K (.ref fa) = true)
    (hb : Binds X.K fd ps dsv) (hd : Vals dvs dsv) (hdd : ∀ F G, AlL X.K ct F G nd dds dvs) (ha : XA X ct ms (e :: es) ns fs)
    (hdb : (x == ("__debug__" : Str)) = false := by decide) (he : starEach (e :: es) X.env = (false, eval e X.env) :: starEach es X.env := by rfl) (hpl : (backTo pos (starEach es X.env)).any (·.1) = false := by rfl) :
    XO X ct ms rk (.Call (.Name x pp) (e :: es) [] pos) (fun ρ => (fs ρ).bind fun ds => mf (ds ++ dds)) := by
  obtain ⟨t, pt, _, qt⟩ := ha
  refine ⟨_, pe_call Fn hr hg hm hk hb hd pass0 pt hdb he hpl, fun F0 B F H ρ σ r Q rs e w => ?_⟩
  obtain ⟨ds, h1, h2⟩ := bind1 e
  refine qt F0 B F H ρ σ ds _ rs h1 fun vs F1 H1 x1 l => ⟨F1, ds ++ dds, r, x1.fh, AlL.append (hdd F1 H1) l, h2, fun v F2 H2 fp x2 o nd hf => ?_⟩
  exact w v F2 H2 fp (x1.trans x2) o nd fun z hz => x1.hh.free (hf z hz)
theorem xe_callB {es : List Expr} {ns : List Nat} {fs : Env → Option (List D)} {id : String} {r : List V → Hp → VK → Prop} {op : List D → Option D} (hc : CallR X (.builtin id) r) (hs : OpN X.K ct ns k r op) (hg : Gl X x) (hm : X.mg x = none) (hv : bootBuiltins x = some (.builtin id)) (ha : XA X ct ms (e :: es) ns fs)
    (hn : x ≠ "__name__" := by decide) (hdb : (x == ("__debug__" : Str)) = false := by decide) (he : starEach (e :: es) X.env = (false, eval e X.env) :: starEach es X.env := by rfl) (hpl : (backTo pos (starEach es X.env)).any (·.1) = false := by rfl) :
    XE X ct ms k (.Call (.Name x pp) (e :: es) [] pos) (eN op fs) := by
  obtain ⟨t, pt, _, qt⟩ := ha
  refine ⟨_, pe_callB hc hg hm hv pt hn hdb he hpl, fun F0 B F H ρ σ r Q rs e w => ?_⟩
  obtain ⟨ds, h1, h2⟩ := bind1 e
  exact qt F0 B F H ρ σ ds _ rs h1 fun vs F1 H1 x1 l => hs F1 H1 vs ds r Q x1.fh l h2 fun v F2 H2 x2 l2 => w v F2 H2 (x1.trans x2) l2
theorem PE.or {t u : TE} (h1 : PE X e t) (h2 : PE X e u) : PE X e (fun σ H Q => t σ H Q ∨ u σ H Q) := fun pins s σ H Q I h => h.elim (h1 pins s σ H Q I) (h2 pins s σ H Q I)
def fldD (cs : List Nat) (x : Str) : D → Option D
  | .obj c ns ds => if cs.contains c = true then (ns.zip ds).lookup x else none
  | _ => none
def metD (c0 : Nat) (m : Str) (mf : List D → Option D) (o : D) (ds : List D) : Option D := match o with
  | .obj c ns _ => if c = c0 ∧ ns.contains m = false then mf (o :: ds) else none
  | _ => none
end
end L3

namespace L3
open PySem PySem.Spec L2
open PyProof.Rows hiding St
inductive Out where
  | nx (ρ : Env) | rt (d : D) | bk (ρ : Env) | ct (ρ : Env)
abbrev SF := Env → Option Out
def OutOk (K : PySem.W.Frag) (cl : Nat → Addr) (F0 B : Hp) (ms : List Mo) (rk : Nat) (E : Ends) : Out → Prop
  | .nx ρ => ∀ σ F H, RS K cl F0 B ms F H ρ σ → E.nx σ H
  | .bk ρ => ∀ σ F H, RS K cl F0 B ms F H ρ σ → E.bk σ H
  | .ct ρ => ∀ σ F H, RS K cl F0 B ms F H ρ σ → E.ct σ H
  | .rt d => ∀ v F H fp, Same F0 F → Same B H → Same F H → (∀ a o, B a = some o → F0 a = none → F a = none) → Ow K cl F H rk d v fp → fp.Nodup → (∀ a ∈ fp, B a = none) → E.rt v H
section
variable (X : Cx) (ct : Nat → Addr) (ms : List Mo) (rk : Nat)
def XS (st : Stmt) (f : SF) : Prop := ∃ t, PS X st t ∧ ∀ (F0 B F H : Hp) (ρ : Env) (σ : St) (o : Out) (E : Ends), RS X.K ct F0 B ms F H ρ σ → f ρ = some o → OutOk X.K ct F0 B ms rk E o → t E σ H
def XSs (st : List Stmt) (f : SF) : Prop := ∃ t, PSs X st t ∧ ∀ (F0 B F H : Hp) (ρ : Env) (σ : St) (o : Out) (E : Ends), RS X.K ct F0 B ms F H ρ σ → f ρ = some o → OutOk X.K ct F0 B ms rk E o → t E σ H
end
def sSkip : SF := fun ρ => some (.nx ρ)
def sSeq (f g : SF) : SF := fun ρ => (f ρ).bind fun o => match o with
  | .nx ρ' => g ρ'
  | o => some o
def sIf (c : BF) (f g : SF) : SF := fun ρ => (c ρ).bind fun b => if b = true then f ρ else g ρ
def sSet (i : Nat) (f : EF) : SF := fun ρ => (f ρ).bind fun d => some (.nx (ρ.set i (some d)))
def sRet (f : EF) : SF := fun ρ => (f ρ).bind fun d => some (.rt d)
def sRetN : SF := fun _ => some (.rt .non)
def sDrop (f : EF) : SF := fun ρ => (f ρ).bind fun _ => some (.nx ρ)
def sBreak : SF := fun ρ => some (.bk ρ)
def sCont : SF := fun ρ => some (.ct ρ)
def sNever : SF := fun _ => none
def FUEL : Nat := 2 ^ 9000
def whileD (c : BF) (b : SF) : Nat → SF
  | 0, _ => none
  | n + 1, ρ => (c ρ).bind fun t => if t = true then (b ρ).bind fun o => match o with
      | .nx ρ' => whileD c b n ρ'
      | .ct ρ' => whileD c b n ρ'
      | .bk ρ' => some (.nx ρ')
      | .rt d => some (.rt d)
    else some (.nx ρ)
def sWhile (c : BF) (b : SF) : SF := whileD c b FUEL
def forD (g : D → Env → Option Env) (b : SF) : List D → SF
  | [], ρ => some (.nx ρ)
  | d :: ds, ρ => (g d ρ).bind fun ρ1 => (b ρ1).bind fun o => match o with
      | .nx ρ' => forD g b ds ρ'
      | .ct ρ' => forD g b ds ρ'
      | .bk ρ' => some (.nx ρ')
      | .rt d => some (.rt d)
def sFor (f : Env → Option (List D)) (g : D → Env → Option Env) (b : SF) : SF := fun ρ => (f ρ).bind fun ds => forD g b ds ρ

section
variable {X : Cx} {ct : Nat → Addr} {ms : List Mo} {rk n m k : Nat} {st : Stmt} {rest : List Stmt} {a b c e : Expr} {f g h : EF} {p q : BF} {u w : SF} {pos : Pos}
theorem xss_nil : XSs X ct ms rk [] sSkip := ⟨_, pss_nil, fun F0 B F H ρ σ o E rs e w => by cases e; exact w σ F H rs⟩
theorem xss_cons (h1 : XS X ct ms rk st u) (h2 : XSs X ct ms rk rest w) : XSs X ct ms rk (st :: rest) (sSeq u w) := by
  obtain ⟨t, pt, qt⟩ := h1
  obtain ⟨t2, pt2, qt2⟩ := h2
  refine ⟨_, pss_cons pt pt2, fun F0 B F H ρ σ o E rs e z => ?_⟩
  obtain ⟨o1, e1, e2⟩ := bind1 e
  refine qt F0 B F H ρ σ o1 _ rs e1 ?_
  cases o1 with
  | nx ρ' => exact fun σ' F' H' rs' => qt2 F0 B F' H' ρ' σ' o E rs' e2 z
  | rt d => cases e2; exact z
  | bk ρ' => cases e2; exact z
  | ct ρ' => cases e2; exact z
theorem xss_one (h1 : XS X ct ms rk st u) : XSs X ct ms rk [st] u := by
  obtain ⟨t, pt, qt⟩ := h1
  exact ⟨_, pss_one pt, qt⟩
theorem xs_ret (he : XO X ct ms rk e f) : XS X ct ms rk (.Return (some e) pos) (sRet f) := by
  obtain ⟨t, pt, qt⟩ := he
  refine ⟨_, ps_ret pt, fun F0 B F H ρ σ o E rs e w => ?_⟩
  obtain ⟨d, h1, h2⟩ := bind1 e
  cases h2
  refine qt F0 B F H ρ σ d _ rs h1 fun v F' H' fp x l nd hf => ?_
  have r := rs.ext x
  exact w v F' H' fp r.f0 r.bh r.fh r.nf l nd fun z hz => rs.bh.free (hf z hz)
theorem xs_if {st1 st2 : List Stmt} (hc : XT X ct ms c p) (h1 : XSs X ct ms rk st1 u) (h2 : XSs X ct ms rk st2 w) : XS X ct ms rk (.If c st1 st2 pos) (sIf p u w) := by
  obtain ⟨t, pt, qt⟩ := hc
  obtain ⟨t1, pt1, qt1⟩ := h1
  obtain ⟨t2, pt2, qt2⟩ := h2
  refine ⟨_, ps_if pt pt1 pt2, fun F0 B F H ρ σ o E rs e z => ?_⟩
  obtain ⟨x, h1, h2⟩ := bind1 e
  refine qt F0 B F H ρ σ x _ rs h1 fun F1 H1 x1 => ?_
  cases x with
  | true => rw [if_pos rfl] at h2 ⊢; exact qt1 F0 B F1 H1 ρ σ o E (rs.ext x1) h2 z
  | false => rw [if_neg Bool.false_ne_true] at h2 ⊢; exact qt2 F0 B F1 H1 ρ σ o E (rs.ext x1) h2 z
theorem RS.put {K : PySem.W.Frag} {F0 B F H F' H' : Hp} {ρ : Env} {σ : St} {i : Nat} (rs : RS K ct F0 B ms F H ρ σ) (hm : ms[i]? = some (.ow k)) :
    ∃ f1 fr : List Addr, f1.Nodup ∧ (∀ a ∈ f1, B a = none) ∧ (∀ a ∈ f1, a ∉ fr) ∧ (∀ d, ρ[i]? = some (some d) → ∃ v, σ[i]? = some (some v) ∧ Ow K ct F H k d v f1) ∧ (∀ a ∈ fr, F a = none ∧ ∃ o, H a = some o) ∧
      ∀ (F' H' : Hp) (d' : D) (v' : V) (f' : List Addr), Same F F' → Same B H' → Same F' H' → (∀ a o, B a = some o → F0 a = none → F' a = none) → (∀ a ∈ fr, H' a = H a ∧ F' a = none) → Ow K ct F' H' k d' v' f' → f'.Nodup → (∀ a ∈ f', a ∉ fr) → (∀ a ∈ f', B a = none) →
        RS K ct F0 B ms F' H' (ρ.set i (some d')) (σ.set i (some v')) := by
  obtain ⟨fp, sl, nd, hb⟩ := rs.sl
  obtain ⟨f1, fr, i1, i2, i3, i4, i5⟩ := sl.put hm
  obtain ⟨n1, n2, n3⟩ := i3 nd
  refine ⟨f1, fr, n1, fun a z => hb a (i1 a z), n3, i4, fun a z => sl.cells a (i2 a z), fun F' H' d' v' f' s1 s2 s3 s4 kf o ndf dj hbf => ?_⟩
  obtain ⟨fp', q1, q2, q3⟩ := i5 F' H' d' v' f' s1 kf o
  exact ⟨rs.f0.trans s1, s2, s3, s4, fp', q1, q3 ndf n2 dj, fun a z => (q2 a z).elim (hbf a) fun z => hb a (i2 a z)⟩
theorem RS.set {K : PySem.W.Frag} {F0 B F H F' H' : Hp} {ρ : Env} {σ : St} {i : Nat} {d : D} {v : V} {fp : List Addr} (rs : RS K ct F0 B ms F H ρ σ) (hm : ms[i]? = some (.ow k)) (x : Ext F H F' H') (o : Ow K ct F' H' k d v fp) (nd : fp.Nodup) (hf : ∀ a ∈ fp, H a = none) :
    RS K ct F0 B ms F' H' (ρ.set i (some d)) (σ.set i (some v)) := by
  have r := rs.ext x
  obtain ⟨f1, fr, n1, b1, n3, i4, cf, put⟩ := rs.put (F' := F') (H' := H') hm
  refine put F' H' d v fp x.ff r.bh x.fh r.nf (fun a z => ?_) o nd (fun a z zb => ?_) fun a z => rs.bh.free (hf a z)
  · obtain ⟨hn, o, ho⟩ := cf a z
    exact ⟨(x.hh _ _ ho).trans ho.symm, x.nf a o ho hn⟩
  · obtain ⟨hn, o, ho⟩ := cf a zb
    rw [hf a z] at ho
    cases ho
theorem xs_set {i : Nat} {x : Str} {pos' : Pos} (hm : ms[i]? = some (.ow k)) (hN : X.N.Nodup) (hi : X.N[i]? = some x) (hx : Loc X.env.scope x) (he : XO X ct ms k e f) (hs : swapsWith e (some (.Name x pos')) pos.line X.env = pure false := by rfl)
    (hf : X.fn x = true ∨ X.env.scope.names.lookup x = some .local := by first | exact .inl rfl | exact .inr rfl | assumption) : XS X ct ms rk (.Assign [.Name x pos'] e pos) (sSet i f) := by
  obtain ⟨t, pt, qt⟩ := he
  refine ⟨_, ps_set hN hi hx pt hs hf, fun F0 B F H ρ σ o E rs e w => ?_⟩
  obtain ⟨d, h1, h2⟩ := bind1 e
  cases h2
  exact qt F0 B F H ρ σ d _ rs h1 fun v F' H' fp x l nd hf => w _ F' H' (rs.set hm x l nd hf)
theorem RS.re {K : PySem.W.Frag} {F0 B F H : Hp} {ρ : Env} {σ : St} (r : RS K ct F0 B ms F H ρ σ) : RS K ct F B ms F H ρ σ := ⟨.refl _, r.bh, r.fh, fun _ _ _ h => h, r.sl⟩
theorem RS.back {K : PySem.W.Frag} {F0 B F H F' H' : Hp} {ρ ρ' : Env} {σ σ' : St} (r : RS K ct F0 B ms F H ρ σ) (q : RS K ct F B ms F' H' ρ' σ') : RS K ct F0 B ms F' H' ρ' σ' :=
  ⟨r.f0.trans q.f0, q.bh, q.fh, fun a o h n => q.nf a o h (r.nf a o h n), q.sl⟩
theorem OutOk.re {K : PySem.W.Frag} {F0 B F H : Hp} {ρ : Env} {σ : St} {E : Ends} {o : Out} (r : RS K ct F0 B ms F H ρ σ) (z : OutOk K ct F0 B ms rk E o) : OutOk K ct F B ms rk E o := by
  cases o with
  | nx ρ => exact fun σ' F' H' q => z σ' F' H' (r.back q)
  | bk ρ => exact fun σ' F' H' q => z σ' F' H' (r.back q)
  | ct ρ => exact fun σ' F' H' q => z σ' F' H' (r.back q)
  | rt d => exact fun v F' H' fp s1 s2 s3 s4 => z v F' H' fp (r.f0.trans s1) s2 s3 fun a o h n => s4 a o h (r.nf a o h n)
def ItOk (K : PySem.W.Frag) (ct : Nat → Addr) (F B : Hp) (n : Nat) (J : It) (ds : List D) : Prop :=
  ∀ (i : Nat) (F' H' : Hp), Same F F' → Same B H' → Same F' H' → (∀ d, ds[i]? = some d → J.go i H' ∧ ∀ x H2, J.yld i H' x H2 → ∃ F2, Ext F' H' F2 H2 ∧ Al K ct F2 B n d x) ∧ (ds.length ≤ i → J.stop i H')
def XI (X : Cx) (ct : Nat → Addr) (ms : List Mo) (n : Nat) (tg iter : Expr) (f : Env → Option (List D)) : Prop := ∃ wi, PI X tg iter wi ∧ ∀ (F0 B F H : Hp) (ρ : Env) (σ : St) (ds : List D) (R : It → Hp → Prop), RS X.K ct F0 B ms F H ρ σ → f ρ = some ds →
  (∀ J F' H', Ext F H F' H' → ItOk X.K ct F' B n J ds → R J H') → wi σ H R
def XIc (X : Cx) (ct : Nat → Addr) (ms : List Mo) (n : Nat) (tg iter : Expr) (f : Env → Option (List D)) : Prop := ∃ wi, PI X tg iter wi ∧ ∀ (F0 B F H : Hp) (ρ : Env) (σ : St) (ds : List D) (R : It → Hp → Prop), RS X.K ct F0 B ms F H ρ σ → f ρ = some ds →
  (∀ J F' H', Ext F H F' H' → ItOk X.K ct F' H' n J ds → R J H') → wi σ H R
def XG (X : Cx) (ct : Nat → Addr) (ms : List Mo) (n : Nat) (tg : Expr) (g : D → Env → Option Env) : Prop := ∃ t, PG X tg t ∧ ∀ (F0 B F H : Hp) (ρ ρ' : Env) (σ : St) (d : D) (v : V) (Q : St → Hp → Prop), RS X.K ct F0 B ms F H ρ σ → Al X.K ct F B n d v → g d ρ = some ρ' →
  (∀ σ', RS X.K ct F0 B ms F H ρ' σ' → Q σ' H) → t v σ H Q
theorem xs_for {tg iter : Expr} {fi : Env → Option (List D)} {gg : D → Env → Option Env} (hi : XI X ct ms n tg iter fi) (hg : XG X ct ms n tg gg) (hb : XSs X ct ms rk rest u) (hp : PassesOwn (model X.prog X.w) X.A X.env X.xe) (hc : X.calm = true)
    (hs : ∀ x, foldedSetIterable iter X.env x = pure x := by intro _; rfl) : XS X ct ms rk (.For tg iter rest [] pos) (sFor fi gg u) := by
  obtain ⟨wi, pi, qi⟩ := hi
  obtain ⟨tg', pg, qg⟩ := hg
  obtain ⟨t1, pt1, qt1⟩ := hb
  refine ⟨_, ps_for hp hc pi pg pt1 hs, fun F0 B F H ρ σ o E rs e z => ?_⟩
  obtain ⟨ds, h1, h2⟩ := bind1 e
  refine qi F0 B F H ρ σ ds _ rs h1 fun J F1 H1 x1 ok => ?_
  refine ⟨fun i m σ H => m = ds.length - i ∧ i ≤ ds.length ∧ ∃ F ρ, Same F1 F ∧ RS X.K ct F0 B ms F H ρ σ ∧ forD gg u (ds.drop i) ρ = some o, ⟨ds.length, rfl, Nat.zero_le _, F1, ρ, .refl _, rs.ext x1, h2⟩, ?_⟩
  rintro i m σ H ⟨rfl, hil, F, ρ, s1, rs, e⟩
  obtain ⟨k1, k2⟩ := ok i F H s1 rs.bh rs.fh
  by_cases hlt : i < ds.length
  · right
    have hd : ds[i]? = some ds[i] := by simp [hlt]
    obtain ⟨go, yl⟩ := k1 _ hd
    rw [List.drop_eq_getElem_cons hlt] at e
    obtain ⟨ρ1, h3, h4⟩ := bind1 e
    obtain ⟨o1, h5, h6⟩ := bind1 h4
    refine ⟨go, fun σ H => i + 1 ≤ ds.length ∧ ∃ F ρ, Same F1 F ∧ RS X.K ct F0 B ms F H ρ σ ∧ forD gg u (ds.drop (i + 1)) ρ = some o, fun σ' H' h => ⟨ds.length - (i + 1), by omega, rfl, h⟩, fun x H2 y => ?_⟩
    obtain ⟨F2, x2, l⟩ := yl x H2 y
    refine qg F0 B F2 H2 ρ ρ1 σ _ x _ (rs.ext x2) l h3 fun σ' r => ?_
    have s2 := s1.trans x2.ff
    refine qt1 F2 B F2 H2 ρ1 σ' o1 _ r.re h5 ?_
    cases o1 with
    | nx ρ' => exact fun σ' F' H' q => ⟨hlt, F', ρ', s2.trans q.f0, r.back q, h6⟩
    | ct ρ' => exact fun σ' F' H' q => ⟨hlt, F', ρ', s2.trans q.f0, r.back q, h6⟩
    | bk ρ' => cases h6; exact fun σ' F' H' q => z σ' F' H' (r.back q)
    | rt d => cases h6; exact OutOk.re (o := .rt d) r z
  · left
    refine ⟨k2 (by omega), ?_⟩
    have : ds.drop i = [] := List.drop_eq_nil_of_le (by omega)
    rw [this] at e
    cases e
    exact z σ F H rs
def gV (i : Nat) : D → Env → Option Env := fun d ρ => some (ρ.set i (some d))
theorem xg_name {i : Nat} {x : Str} (hm : ms[i]? = some (.ow 0)) (hN : X.N.Nodup) (hi : X.N[i]? = some x) (hx : Loc X.env.scope x)
    (hf : X.fn x = true ∨ X.env.scope.names.lookup x = some .local := by first | exact .inl rfl | exact .inr rfl | assumption) : XG X ct ms 0 (.Name x pos) (gV i) := by
  refine ⟨_, pg_name hN hi hx hf, fun F0 B F H ρ ρ' σ d v Q rs l e w => ?_⟩
  cases e
  exact w _ (rs.set hm (.refl rs.fh) (Ow.zero l) List.nodup_nil fun a z => (by cases z))
def XGs (X : Cx) (ct : Nat → Addr) (ms : List Mo) (n : Nat) (tgs : List Expr) (g : List D → Env → Option Env) : Prop := ∃ t, PGs X tgs t ∧ (∀ ds ρ ρ', g ds ρ = some ρ' → ds.length = tgs.length) ∧ ∀ (F0 B F H : Hp) (ρ ρ' : Env) (σ : St) (ds : List D) (vs : List V) (Q : St → Hp → Prop), RS X.K ct F0 B ms F H ρ σ → Pr (Al X.K ct F B n) ds vs → g ds ρ = some ρ' →
  (∀ σ', RS X.K ct F0 B ms F H ρ' σ' → Q σ' H) → t vs σ H Q
def gsNil : List D → Env → Option Env := fun ds ρ => match ds with
  | [] => some ρ
  | _ => none
def gsCons (g : D → Env → Option Env) (gs : List D → Env → Option Env) : List D → Env → Option Env := fun ds ρ => match ds with
  | d :: ds => (g d ρ).bind fun ρ' => gs ds ρ'
  | [] => none
def gT (gs : List D → Env → Option Env) : D → Env → Option Env := fun d ρ => match d with
  | .tup ds => gs ds ρ
  | _ => none
def startD (N : List Str) (ds : List D) : Env := ds.map some ++ List.replicate (N.length - ds.length) none
def mOf (N : List Str) (b : SF) (ds : List D) : Option D := (b (startD N ds)).bind fun o => match o with
  | .rt d => some d
  | .nx _ => some .non
  | _ => none
theorem SL.start {K : PySem.W.Frag} {F B H : Hp} : ∀ {pm : List Nat} {ds : List D} {vs : List V} {ms : List Mo} (j : Nat), AlL K ct F B pm ds vs → (∀ (i n : Nat), pm[i]? = some n → ms[i]? = some (Mo.al n) ∨ (n = 0 ∧ ms[i]? = some (Mo.ow 0))) → ms.length = pm.length + j →
    SL K ct F B H ms (ds.map some ++ List.replicate j none) (vs.map some ++ List.replicate j none) []
  | _, _, _, ms, j, .nil, _, hl => by
    have : ∀ (j : Nat) (ms : List Mo), ms.length = j → SL K ct F B H ms (List.replicate j none) (List.replicate j none) [] := by
      intro j
      induction j with
      | zero => intro ms h; cases ms with
        | nil => exact .nil
        | cons _ _ => simp at h
      | succ j ih => intro ms h; cases ms with
        | nil => simp at h
        | cons m ms => exact .no (ih ms (by simpa using h))
    simpa using this j ms (by simpa using hl)
  | _, _, _, [], j, .cons h t, _, hl => by simp at hl; omega
  | _, _, _, m :: ms, j, .cons (n := n) h t, hm, hl => by
    have ih := SL.start (ms := ms) (H := H) j t (fun i n e => by simpa using hm (i + 1) n (by simpa using e)) (by simp at hl; omega)
    rcases hm 0 n rfl with e | ⟨rfl, e⟩
    · simp at e; subst e; exact .al h ih
    · simp at e; subst e; exact SL.ow (f := []) (Ow.zero h) ih
structure Fun2 (K : PySem.W.Frag) (x qual : Str) (st : Stmt) (f : Addr) (fd : FuncData) : Prop where
  ex : ∃ (oc : Value) (od : Option Addr) (dV kV doc pm : Value) (an : Option Addr) (cdv ct : Value) (osl : Array (Option Value)),
    fd = PySem.W.fnOf x qual (defArgs st) (defBody st) (defScope st) dV kV doc pm an cdv ct ∧ K.lookup f = some ⟨oc, od, .func fd, osl⟩ ∧ PySem.W.codeIn K cdv qual = true
  kp : PySem.W.keepIn K (.ref f) = true
theorem Fun2.ok {P : Program} {w : World} {K : PySem.W.Frag} {mg : Str → Option Value} {base : Heap} {x qual : Str} {st : Stmt} {f : Addr} {fd : FuncData} {N ps : List Str} {k : Nat} {sp : Sp} (F : Fun2 K x qual st f fd) (S : FnScope N ps (defScope st)) (len : ∀ vs H Q E, sp vs H Q E → vs.length = ps.length)
    (hbody : ∀ (cdv : Value) (A : Around) (outer : List PySem.Env) (s : Shared) (H : Hp) (vs : List V) (Q : VK) (E : XK), Room k (A.deeper (envOfC qual (defScope st) s.heap.objs.size f cdv)) → sp vs H Q E →
      ∃ t, PSs (cxOf CX0 P w K mg base N qual (defScope st) f cdv A outer s H E).nox (defBody st) t ∧ t { nx := fun _ H' => Q .non H', rt := Q } (L2.start N vs) H) : FnOk P w K mg base CX0 (k + 1) f fd ps sp := by
  obtain ⟨oc, od, dV, kV, doc, pm, an, cdv, ct, osl, rfl, lk, hcd⟩ := F.ex
  refine fn_of lk hcd S len fun A outer s H vs Q E hr hsp => ?_
  obtain ⟨t, h, q⟩ := hbody cdv A outer s H vs Q E hr hsp
  exact ⟨t, h.nox, q⟩
theorem lift {P : Program} {w : World} {K : PySem.W.Frag} {mg : Str → Option Value} {base : Heap} {x qual : Str} {st : Stmt} {fa : Addr} {fd : FuncData} {N ps : List Str} {kk : Nat} {pm : List Nat} {bf : SF} (Fn : Fun2 K x qual st fa fd) (S : FnScope N ps (defScope st)) (hpm : pm.length = ps.length) (hms : ms.length = N.length) (hle : ps.length ≤ N.length)
    (hmo : ∀ (i n : Nat), pm[i]? = some n → ms[i]? = some (Mo.al n) ∨ (n = 0 ∧ ms[i]? = some (Mo.ow 0)))
    (body : ∀ (cdv : Value) (A : Around) (outer : List PySem.Env) (s : Shared) (H : Hp) (E : XK), Room kk (A.deeper (envOfC qual (defScope st) s.heap.objs.size fa cdv)) → XSs (cxOf CX0 P w K mg base N qual (defScope st) fa cdv A outer s H E).nox ct ms rk (defBody st) bf) :
    FnOk P w K mg base CX0 (kk + 1) fa fd ps (LSp K ct pm rk (mOf N bf)) := by
  refine Fn.ok S (LSp.len hpm) fun cdv A outer s H vs Q E hr h => ?_
  obtain ⟨F, ds, d, sF, l, hm, q⟩ := h
  obtain ⟨t, pt, qt⟩ := body cdv A outer s H E hr
  refine ⟨t, pt, ?_⟩
  obtain ⟨o, h1, h2⟩ := bind1 hm
  have hvl : vs.length = pm.length := l.length
  have hdl : ds.length = vs.length := l.length'
  refine qt F H F H (startD N ds) (L2.start N vs) o _ ⟨.refl _, .refl _, sF, fun _ _ _ h => h, [], ?_, List.nodup_nil, fun a z => (by cases z)⟩ h1 ?_
  · unfold startD L2.start
    rw [hdl]
    exact SL.start _ l hmo (by omega)
  · cases o with
    | nx ρ =>
      cases h2
      exact fun σ F' H' r => q .non F' H' [] ⟨r.f0, r.bh, r.fh, r.nf⟩ (Ow.scal .non rfl) List.nodup_nil fun a z => (by cases z)
    | rt d' =>
      cases h2
      exact fun v F' H' fp s1 s2 s3 s4 o nd hf => q v F' H' fp ⟨s1, s2, s3, s4⟩ o nd hf
    | bk ρ => cases h2
    | ct ρ => cases h2
end
end L3

namespace L3
open PySem PySem.Spec L2
open PyProof.Rows hiding St
theorem OpR.or {X : Cx} {f : Value → Value → Sem Value} {r r' : R2} (h : OpR X f r) (h' : OpR X f r') : OpR X f (fun x y H Q => r x y H Q ∨ r' x y H Q) :=
  fun pins s σ H x y v u Q I rx ry q => q.elim (h pins s σ H x y v u Q I rx ry) (h' pins s σ H x y v u Q I rx ry)
section
variable {K : PySem.W.Frag} {ct : Nat → Addr} {n m k : Nat}
theorem Op2.or {r r' : R2} {op : D → D → Option D} (h : ∀ (F H : Hp) (x y : V) (d1 d2 d : D) (Q : VK), Same F H → Al K ct F H n d1 x → Al K ct F H m d2 y → op d1 d2 = some d → (∀ v F' H', Ext F H F' H' → Al K ct F' H' k d v → Q v H') → r x y H Q ∨ r' x y H Q) : Op2 K ct n m k (fun x y H Q => r x y H Q ∨ r' x y H Q) op := h
def i2 (g : Int → Int → D) : D → D → Option D
  | .int i, .int j => some (g i j)
  | _, _ => none
def i2c (C : Int → Int → Prop) [∀ i j, Decidable (C i j)] (g : Int → Int → D) : D → D → Option D
  | .int i, .int j => if C i j then some (g i j) else none
  | _, _ => none
theorem op2_i {g : Int → Int → D} {gv : Int → Int → V} (hg : ∀ i j F, Dt K ct F (g i j) (gv i j)) : Op2 K ct n m k (rI0 gv) (i2 g) := by
  intro F H x y d1 d2 d Q s l1 l2 e w
  cases d1 with
  | int i =>
    cases d2 with
    | int j => cases e; exact ⟨i, j, l1.int, l2.int, w _ F H (.refl s) (Al.of (hg i j F))⟩
    | _ => cases e
  | _ => cases e
theorem op2_ic {C C' : Int → Int → Prop} [∀ i j, Decidable (C i j)] {g : Int → Int → D} {gv : Int → Int → V} (hC : ∀ i j, C i j → C' i j) (hg : ∀ i j F, Dt K ct F (g i j) (gv i j)) : Op2 K ct n m k (rI C' gv) (i2c C g) := by
  intro F H x y d1 d2 d Q s l1 l2 e w
  cases d1 with
  | int i =>
    cases d2 with
    | int j =>
      unfold i2c at e
      dsimp only at e
      by_cases h : C i j
      · rw [if_pos h] at e; cases e; exact ⟨i, j, l1.int, l2.int, hC i j h, w _ F H (.refl s) (Al.of (hg i j F))⟩
      · rw [if_neg h] at e; cases e
    | _ => cases e
  | _ => cases e
def BIG : Nat := 2 ^ 9000
def HUGE : Nat := 2 ^ 100000
def subD : D → D → Option D := i2 fun i j => .int (i - j)
theorem op2_sub : Op2 K ct n m k (rI0 fun i j => .int (i - j)) subD := op2_i fun _ _ _ => .int _
def mulOk (i j : Int) : Prop := (-18446744073709551616 < i ∧ i < 18446744073709551616) ∨ (-18446744073709551616 < j ∧ j < 18446744073709551616) ∨ (i.natAbs < HUGE ∧ j.natAbs < HUGE)
instance (i j : Int) : Decidable (mulOk i j) := by unfold mulOk; infer_instance
def mulI : D → D → Option D := i2c mulOk fun i j => .int (i * j)
theorem mulOk.ok {i j : Int} (h : mulOk i j) : CMulS i j := by
  rcases h with h | h | h
  · exact .inl (.inl ⟨by have := h.1; omega, by have := h.2; omega⟩)
  · exact .inl (.inr ⟨by have := h.1; omega, by have := h.2; omega⟩)
  · exact .inr h
theorem op2_mul : Op2 K ct n m k (rI CMulS fun i j => .int (i * j)) mulI := op2_ic (fun _ _ => mulOk.ok) fun _ _ _ => .int _

def D.v : D → V
  | .bl b => .bl b
  | .int i => .int i
  | .str x => .str x
  | _ => .non
theorem Dt.v {F : Hp} {d : D} {v : V} (h : Dt K ct F d v) (hs : d.sc = true) : v = d.v := by
  cases h <;> first | rfl | cases hs
theorem Al.v {F G : Hp} {d : D} {v : V} (h : Al K ct F G n d v) (hs : d.sc = true) : v = d.v := Dt.v (Al.scal (F' := F) h hs) hs
theorem Pr.vs {F G : Hp} : ∀ {ds : List D} {vs : List V}, Pr (Al K ct F G n) ds vs → ds.all D.sc = true → vs = ds.map D.v
  | _, _, .nil, _ => rfl
  | d :: ds, v :: vs, .cons h t, e => by
    rw [List.all_cons, Bool.and_eq_true] at e
    rw [List.map_cons, Al.v h e.1, Pr.vs t e.2]
def fdivD : D → D → Option D
  | .int i, .int j => if 0 < j ∧ j < 4611686018427387904 then some (.int (i / j)) else if j ≠ 0 ∧ j.natAbs < BIG then some (.int (i.fdiv j)) else none
  | _, _ => none
theorem op2_fdiv : Op2 K ct n m k (rI (fun _ j => j ≠ 0 ∧ Sz 9000 j) fun i j => .int (i.fdiv j)) fdivD := by
  intro F H x y d1 d2 d Q s l1 l2 e w
  cases d1 with
  | int i =>
    cases d2 with
    | int j =>
      unfold fdivD at e
      dsimp only at e
      by_cases h : 0 < j ∧ j < 4611686018427387904
      · rw [if_pos h] at e
        cases e
        refine ⟨i, j, l1.int, l2.int, ⟨by omega, ?_⟩, ?_⟩
        · have : Sz 62 j := by unfold Sz; omega
          exact this.mono (by decide)
        · show Q (.int (i.fdiv j)) H
          rw [Int.fdiv_eq_ediv_of_nonneg i (by omega)]
          exact w _ F H (.refl s) (Al.of (.int _))
      · rw [if_neg h] at e
        by_cases h : j ≠ 0 ∧ j.natAbs < BIG
        · rw [if_pos h] at e
          cases e
          exact ⟨i, j, l1.int, l2.int, h, w _ F H (.refl s) (Al.of (.int _))⟩
        · rw [if_neg h] at e; cases e
    | _ => cases e
  | _ => cases e
def modD : D → D → Option D
  | .int i, .int j => if 0 < j then some (.int (i % j)) else if j ≠ 0 then some (.int (i.fmod j)) else none
  | _, _ => none
theorem op2_mod : Op2 K ct n m k (rI (fun _ j => j ≠ 0) fun i j => .int (i.fmod j)) modD := by
  intro F H x y d1 d2 d Q s l1 l2 e w
  cases d1 with
  | int i =>
    cases d2 with
    | int j =>
      unfold modD at e
      dsimp only at e
      by_cases h : 0 < j
      · rw [if_pos h] at e
        cases e
        refine ⟨i, j, l1.int, l2.int, by omega, ?_⟩
        show Q (.int (i.fmod j)) H
        rw [Int.fmod_eq_emod_of_nonneg i (by omega)]
        exact w _ F H (.refl s) (Al.of (.int _))
      · rw [if_neg h] at e
        by_cases h : j ≠ 0
        · rw [if_pos h] at e
          cases e
          exact ⟨i, j, l1.int, l2.int, h, w _ F H (.refl s) (Al.of (.int _))⟩
        · rw [if_neg h] at e; cases e
    | _ => cases e
  | _ => cases e
def powOk (i j : Int) : Prop := 0 ≤ j ∧ j ≤ 1000000 ∧ i.natAbs < 18446744073709551616
instance (i j : Int) : Decidable (powOk i j) := by unfold powOk; infer_instance
def powD : D → D → Option D := i2c powOk fun i j => .int (i ^ j.toNat)
theorem op2_pow : Op2 K ct n m k (rI CPow fun i j => .int (i ^ j.toNat)) powD := op2_ic (fun _ _ h => ⟨h.1, h.2.1, by have := h.2.2; omega⟩) fun _ _ _ => .int _
def shlD : D → D → Option D := i2c powOk fun i j => .int (i * 2 ^ j.toNat)
def shrD : D → D → Option D := i2c (fun _ j => 0 ≤ j) fun i j => .int (i / 2 ^ j.toNat)
def ltD : D → D → Option D := i2 fun i j => .bl (decide (i < j))
def leI : D → D → Option D := i2 fun i j => .bl (decide (i ≤ j))
def gtD : D → D → Option D := i2 fun i j => .bl (decide (j < i))
def geD : D → D → Option D := i2 fun i j => .bl (decide (j ≤ i))
def rLeS : R2 := fun x y H Q => ∃ i j, x = .str i ∧ y = .str j ∧ Q (.bl (!(decide (j.cps.toList < i.cps.toList)))) H
def leD : D → D → Option D
  | .int i, .int j => some (.bl (decide (i ≤ j)))
  | .str i, .str j => some (.bl (!(decide (j.cps.toList < i.cps.toList))))
  | _, _ => none
def D.isN : D → Bool
  | .non => true
  | _ => false
def D.isB (b : Bool) : D → Bool
  | .bl c => c == b
  | _ => false
def isD (neg : Bool) : D → D → Option D
  | d, .non => some (.bl (if neg then !d.isN else d.isN))
  | d, .bl b => some (.bl (if neg then !d.isB b else d.isB b))
  | _, _ => none
theorem Al.ref {F G : Hp} {d : D} {v : V} (h : Al K ct F G n d v) (hs : d.sc = false) : ∃ a, v = .ref a := by
  cases n with
  | zero => cases (show Dt K ct F d v from h) <;> first | cases hs; done | exact ⟨_, rfl⟩
  | succ n => rcases h with h | h <;> cases h <;> first | cases hs; done | exact ⟨_, rfl⟩
theorem Al.isn {F G : Hp} {d : D} {v : V} (h : Al K ct F G n d v) : decide (v = .non) = d.isN := by
  cases hs : d.sc with
  | true =>
    have := Al.v h hs
    subst this
    cases d <;> first | rfl | cases hs
  | false =>
    obtain ⟨a, rfl⟩ := h.ref hs
    cases d <;> first | rfl | cases hs
theorem Al.isb {F G : Hp} {d : D} {v : V} {b : Bool} (h : Al K ct F G n d v) : decide (v = .bl b) = d.isB b := by
  cases hs : d.sc with
  | true =>
    have := Al.v h hs
    subst this
    cases d <;> first | rfl | (cases hs; done) | (rename_i c; cases b <;> cases c <;> rfl)
  | false =>
    obtain ⟨a, rfl⟩ := h.ref hs
    cases d <;> first | rfl | cases hs
def rIs : R2 := fun x y H Q => (y = .non ∧ Q (.bl (decide (x = .non))) H) ∨ ∃ b, y = .bl b ∧ Q (.bl (decide (x = .bl b))) H
def rIsNot : R2 := fun x y H Q => (y = .non ∧ Q (.bl (!decide (x = .non))) H) ∨ ∃ b, y = .bl b ∧ Q (.bl (!decide (x = .bl b))) H
theorem op_is {X : Cx} : OpR X (compareOp .Is) rIs := OpR.or op_isN op_isB
theorem op_isNot {X : Cx} : OpR X (compareOp .IsNot) rIsNot := OpR.or op_notN op_isnotB
theorem op2_is : Op2 K ct n m k rIs (isD false) := by
  intro F H x y d1 d2 d Q s l1 l2 e w
  cases d2 with
  | non =>
    cases e
    refine .inl ⟨l2.non, ?_⟩
    rw [l1.isn]
    exact w _ F H (.refl s) (Al.of (.bl _))
  | bl b =>
    cases e
    refine .inr ⟨b, l2.bl, ?_⟩
    rw [l1.isb]
    exact w _ F H (.refl s) (Al.of (.bl _))
  | _ => cases e
theorem op2_isNot : Op2 K ct n m k rIsNot (isD true) := by
  intro F H x y d1 d2 d Q s l1 l2 e w
  cases d2 with
  | non =>
    cases e
    refine .inl ⟨l2.non, ?_⟩
    rw [l1.isn]
    exact w _ F H (.refl s) (Al.of (.bl _))
  | bl b =>
    cases e
    refine .inr ⟨b, l2.bl, ?_⟩
    rw [l1.isb]
    exact w _ F H (.refl s) (Al.of (.bl _))
  | _ => cases e
mutual
def D.py : D → Option PyData
  | .non => some .none
  | .bl b => some (.bool b)
  | .int i => some (.int i)
  | .str x => some (.str x)
  | .lst xs => (D.pys xs).bind fun ys => some (.list ys)
  | .tup xs => (D.pys xs).bind fun ys => some (.tuple ys)
  | _ => none
def D.pys : List D → Option (List PyData)
  | [] => some []
  | d :: ds => (D.py d).bind fun x => (D.pys ds).bind fun xs => some (x :: xs)
end
mutual
theorem Dt.toPy {F H : Hp} (s : Same F H) : ∀ {d : D} {v : V} {e : PyData}, Dt K ct F d v → d.py = some e → L2.Dt K H v e
  | _, _, _, .non, h => by simp only [D.py] at h; cases h; exact .non
  | _, _, _, .bl b, h => by simp only [D.py] at h; cases h; exact .bl b
  | _, _, _, .int b, h => by simp only [D.py] at h; cases h; exact .int b
  | _, _, _, .str b, h => by simp only [D.py] at h; cases h; exact .str b
  | _, _, _, .lst q t, h => by
    simp only [D.py] at h
    obtain ⟨ys, h1, h2⟩ := bind1 h
    cases h2
    exact .lst (s.seq q) (Dts.toPy s t h1)
  | _, _, _, .tup q t, h => by
    simp only [D.py] at h
    obtain ⟨ys, h1, h2⟩ := bind1 h
    cases h2
    exact .tup (SqT.of (s _ _ q)) (Dts.toPy s t h1)
  | _, _, _, .dK _ _ _, h => by simp only [D.py] at h; cases h
  | _, _, _, .dT _ _ _, h => by simp only [D.py] at h; cases h
  | _, _, _, .obj _ _ _, h => by simp only [D.py] at h; cases h
theorem Dts.toPy {F H : Hp} (s : Same F H) : ∀ {ds : List D} {vs : List V} {es : List PyData}, Dts K ct F ds vs → D.pys ds = some es → L2.Dts K H vs es
  | _, _, _, .nil, h => by simp only [D.pys] at h; cases h; exact .nil
  | _, _, _, .cons h t, e => by
    simp only [D.pys] at e
    obtain ⟨y, ys, h1, h2, h3⟩ := bind2 e
    cases h3
    exact .cons (Dt.toPy s h h1) (Dts.toPy s t h2)
end
theorem Pr.toPy {H : Hp} {R : D → V → Prop} (f : ∀ d v e, R d v → d.py = some e → L2.Dt K H v e) : ∀ {ds : List D} {vs : List V} {es : List PyData}, Pr R ds vs → D.pys ds = some es → L2.Dts K H vs es
  | _, _, _, .nil, h => by simp only [D.pys] at h; cases h; exact .nil
  | _, _, _, .cons h t, e => by
    simp only [D.pys] at e
    obtain ⟨y, ys, h1, h2, h3⟩ := bind2 e
    cases h3
    exact .cons (f _ _ _ h h1) (Pr.toPy f t h2)
theorem Al.toPy {F H : Hp} (s : Same F H) : ∀ {n : Nat} {d : D} {v : V} {e : PyData}, Al K ct F H n d v → d.py = some e → L2.Dt K H v e
  | 0, _, _, _, h, q => Dt.toPy s h q
  | n + 1, _, _, _, .inl h, q => Dt.toPy s h q
  | n + 1, _, _, _, .inr (.lst h t), q => by
    simp only [D.py] at q
    obtain ⟨ys, h1, h2⟩ := bind1 q
    cases h2
    exact .lst (SqL.of h) (Pr.toPy (fun _ _ _ => Al.toPy s) t h1)
  | n + 1, _, _, _, .inr (.tup h t), q => by
    simp only [D.py] at q
    obtain ⟨ys, h1, h2⟩ := bind1 q
    cases h2
    exact .tup (SqT.of (s _ _ h)) (Pr.toPy (fun _ _ _ => Al.toPy s) t h1)
  | n + 1, _, _, _, .inr (.dK _ _ _), q => by simp only [D.py] at q; cases q
  | n + 1, _, _, _, .inr (.dT _ _ _), q => by simp only [D.py] at q; cases q
  | n + 1, _, _, _, .inr (.obj _ _ _), q => by simp only [D.py] at q; cases q
def pyOk (a : PyData) : Bool := a.canLay0 && decide (a.depth ≤ 60)
def eqD (neg : Bool) (x y : D) : Option D := x.py.bind fun a => y.py.bind fun b => if pyOk a = true ∧ pyOk b = true then some (.bl (if neg then !PyData.eqv a b else PyData.eqv a b)) else none
theorem op2_eq {neg : Bool} : Op2 K ct n m k (rEqD K neg) (eqD neg) := by
  intro F H x y d1 d2 d Q s l1 l2 e w
  obtain ⟨a, b, h1, h2, h3⟩ := bind2 e
  by_cases h : pyOk a = true ∧ pyOk b = true
  · rw [if_pos h] at h3
    cases h3
    have o1 := h.1
    have o2 := h.2
    unfold pyOk at o1 o2
    rw [Bool.and_eq_true, decide_eq_true_iff] at o1 o2
    exact ⟨a, b, Al.toPy s l1 h1, Al.toPy s l2 h2, o1.1, o2.1, Nat.le_trans (Nat.min_le_left _ _) o1.2, w _ F H (.refl s) (Al.of (.bl _))⟩
  · rw [if_neg h] at h3; cases h3
end
end L3

namespace L3
open PySem PySem.Spec L2
open PyProof.Rows hiding St
section
variable {K : PySem.W.Frag} {ct : Nat → Addr} {n m k : Nat} {X : Cx}
theorem Pr.atI {R : D → V → Prop} {ds : List D} {vs : List V} {i : Int} {d : D} (h : Pr R ds vs) (e : atI ds i = some d) : ∃ v, atI vs i = some v ∧ R d v := by
  unfold L2.atI at e ⊢
  rw [← h.length]
  obtain ⟨j, h1, h2⟩ := bind1 e
  obtain ⟨v, h3, h4⟩ := h.get' h2
  exact ⟨v, by rw [h1]; exact h3, h4⟩
def keyD : D → Option Key
  | .int i => some (.inl i)
  | .str x => some (.inr x)
  | _ => none
def keysD : List D → Option (List Key)
  | [] => some []
  | d :: ds => (keyD d).bind fun k => (keysD ds).bind fun ks => some (k :: ks)
def getK {κ : Type} [DecidableEq κ] (ks : List κ) (ds : List D) (k : κ) : Option D := ((ks.zip ds).find? fun p => decide (p.1 = k)).map (·.2)
def RO (R : D → V → Prop) : Option D → Option V → Prop
  | some d, some u => R d u
  | none, none => True
  | _, _ => False
def dgetD (o y : D) : Option (Option D) := match o with
  | .dK ks ds => (keyD y).bind fun k => some (getK ks ds k)
  | .dT ks ds => (match y with | .tup ys => (keysD ys).bind fun k => some (getK ks ds k) | _ => none)
  | _ => none
def ixD : D → D → Option D
  | .lst ds, .int i => atI ds i
  | .tup ds, .int i => atI ds i
  | .str x, .int i => if x.length ≤ 16777216 then (atI x.cps.toList i).bind fun c => some (.str ⟨#[c]⟩) else none
  | _, _ => none
theorem op2_ix : Op2 K ct n m (n - 1) (rIx K) ixD := by
  intro F H x y d1 d2 d Q s l1 l2 e w
  cases d1 with
  | lst ds =>
    cases d2 with
    | int i =>
      obtain ⟨a, vs, rfl, ha, hp⟩ := l1.lst s
      obtain ⟨v, h1, h2⟩ := hp.atI e
      exact .inl ⟨a, vs, i, v, rfl, l2.int, ha, h1, w v F H (.refl s) h2⟩
    | _ => cases e
  | tup ds =>
    cases d2 with
    | int i =>
      obtain ⟨a, vs, rfl, ha, hp⟩ := l1.tup s
      obtain ⟨v, h1, h2⟩ := hp.atI e
      exact .inr (.inl ⟨a, vs, i, v, rfl, l2.int, SqT.of ha, h1, w v F H (.refl s) h2⟩)
    | _ => cases e
  | str z =>
    cases d2 with
    | int i =>
      unfold ixD at e
      dsimp only at e
      by_cases h : z.length ≤ 16777216
      · rw [if_pos h] at e
        obtain ⟨c, h1, h2⟩ := bind1 e
        cases h2
        exact .inr (.inr ⟨z, i, c, l1.str, l2.int, by rw [sizeLine_eq]; exact h, h1, w _ F H (.refl s) (Al.of (.str _))⟩)
      · rw [if_neg h] at e; cases e
    | _ => cases e
  | _ => cases e
theorem XE.or {ms : List Mo} {e : Expr} {f g : EF} (ha : XE X ct ms k e f) (hb : XE X ct ms k e g) : XE X ct ms k e (fun ρ => (f ρ).or (g ρ)) := by
  obtain ⟨t, pt, qt⟩ := ha
  obtain ⟨u, pu, qu⟩ := hb
  refine ⟨_, PE.or pt pu, fun F0 B F H ρ σ r Q rs e w => ?_⟩
  dsimp only at e ⊢
  cases h : f ρ with
  | some d =>
    rw [h] at e
    cases e
    exact .inl (qt F0 B F H ρ σ _ Q rs h w)
  | none =>
    rw [h] at e
    exact .inr (qu F0 B F H ρ σ r Q rs e w)
def eqS : D → D → Bool
  | .non, .non => true
  | .bl a, .bl b => a == b
  | .bl a, .int b => (if a then 1 else 0) == b
  | .int a, .bl b => a == (if b then 1 else 0)
  | .int a, .int b => a == b
  | .str a, .str b => a == b
  | _, _ => false
def inS (x : D) (ds : List D) : Bool := ds.any fun y => eqS y x
def inD (neg : Bool) (x y : D) : Option D := match y with
  | .lst ds => if x.sc = true ∧ ds.all D.sc = true then some (.bl (if neg then !inS x ds else inS x ds)) else none
  | .tup ds => if x.sc = true ∧ ds.all D.sc = true then some (.bl (if neg then !inS x ds else inS x ds)) else none
  | _ => none
def lenD : List D → Option D
  | [.lst ds] => some (.int ds.length)
  | [.tup ds] => some (.int ds.length)
  | [.dK ks _] => some (.int ks.length)
  | [.str x] => if x.length ≤ 16777216 then some (.int x.length) else none
  | _ => none
def rLen (K : PySem.W.Frag) : List V → Hp → VK → Prop := fun xs H Q => (∃ p ys, xs = [.ref p] ∧ (SqL K H p ys ∨ SqT K H p ys) ∧ Q (.int ys.length) H) ∨ (∃ z, xs = [.str z] ∧ z.length ≤ sizeLine ∧ Q (.int z.length) H) ∨ ∃ a kvs, xs = [V.ref a] ∧ H a = some (.dK kvs) ∧ Q (.int kvs.length) H
theorem call_lenA : CallR X (.builtin "len") (rLen X.K) := call_len_seq.or (call_len_str.or call_lenD)
theorem AlL.one {F G : Hp} {d : D} {ds : List D} {vs : List V} (h : AlL K ct F G [n] (d :: ds) vs) : ∃ v, ds = [] ∧ vs = [v] ∧ Al K ct F G n d v := by
  cases h with
  | cons h t => cases t; exact ⟨_, rfl, rfl, h⟩
theorem opn_len : OpN K ct [n] k (rLen K) lenD := by
  intro F H vs ds d Q s l e w
  cases l with
  | cons h t =>
    cases t
    rename_i d1 v
    cases d1 with
    | lst xs =>
      cases e
      obtain ⟨a, us, rfl, ha, hp⟩ := h.lst s
      refine .inl ⟨a, us, rfl, .inl ha, ?_⟩
      rw [← hp.length]
      exact w _ F H (.refl s) (Al.of (.int _))
    | tup xs =>
      cases e
      obtain ⟨a, us, rfl, ha, hp⟩ := h.tup s
      refine .inl ⟨a, us, rfl, .inr (SqT.of ha), ?_⟩
      rw [← hp.length]
      exact w _ F H (.refl s) (Al.of (.int _))
    | str x =>
      unfold lenD at e
      dsimp only at e
      by_cases hz : x.length ≤ 16777216
      · rw [if_pos hz] at e
        cases e
        exact .inr (.inl ⟨x, by rw [h.str], by rw [sizeLine_eq]; exact hz, w _ F H (.refl s) (Al.of (.int _))⟩)
      · rw [if_neg hz] at e; cases e
    | dK ks xs =>
      cases e
      obtain ⟨a, us, rfl, ha, hl, hp⟩ := h.dK s
      refine .inr (.inr ⟨a, _, rfl, ha, ?_⟩)
      rw [List.length_zip, ← hl, Nat.min_self]
      exact w _ F H (.refl s) (Al.of (.int _))
    | _ => cases e
end
end L3

namespace L3
open PySem PySem.Spec L2
open PyProof.Rows hiding St
section
variable {ct : Nat → Addr} {K : PySem.W.Frag}
theorem fam_o {ι : Type} {Xs : ι → Cx} {ms : List Mo} {n : Nat} {e : Expr} {f : EF} (hK : ∀ i, (Xs i).K = K) (h : ∀ i, XO (Xs i) ct ms n e f) : ∃ t, (∀ i, PE (Xs i) e t) ∧ ∀ (F0 B F H : Hp) (ρ : Env) (σ : St) (d : D) (Q : VK), RS K ct F0 B ms F H ρ σ → f ρ = some d →
    (∀ v F' H' fp, Ext F H F' H' → Ow K ct F' H' n d v fp → fp.Nodup → (∀ a ∈ fp, H a = none) → Q v H') → t σ H Q := by
  refine ⟨fun σ H Q => ∀ i, (h i).choose σ H Q, fun i pins s σ H Q I q => (h i).choose_spec.1 pins s σ H Q I (q i), fun F0 B F H ρ σ d Q rs e w i => ?_⟩
  exact (h i).choose_spec.2 F0 B F H ρ σ d Q (by rw [hK i]; exact rs) e fun v F' H' fp x l => w v F' H' fp x (by rw [← hK i]; exact l)
def XTs (X : Cx) (ct : Nat → Addr) (ms : List Mo) (ifs : List Expr) (f : BF) : Prop := ∃ t, PTs X ifs t ∧ ∀ (F0 B F H : Hp) (ρ : Env) (σ : St) (b : Bool) (Q : Bool → Hp → Prop), RS X.K ct F0 B ms F H ρ σ → f ρ = some b → (∀ F' H', Ext F H F' H' → Q b H') → t σ H Q
def bTrue : BF := fun _ => some true
theorem xts_one {X : Cx} {ms : List Mo} {c : Expr} {p : BF} (h : XT X ct ms c p) : XTs X ct ms [c] p := by
  obtain ⟨t, pt, qt⟩ := h
  exact ⟨t, pts_one pt, qt⟩
theorem fam_t {ι : Type} {Xs : ι → Cx} {ms : List Mo} {ifs : List Expr} {f : BF} (hK : ∀ i, (Xs i).K = K) (h : ∀ i, XTs (Xs i) ct ms ifs f) : ∃ t, (∀ i, PTs (Xs i) ifs t) ∧ ∀ (F0 B F H : Hp) (ρ : Env) (σ : St) (b : Bool) (Q : Bool → Hp → Prop), RS K ct F0 B ms F H ρ σ → f ρ = some b →
    (∀ F' H', Ext F H F' H' → Q b H') → t σ H Q := by
  refine ⟨fun σ H Q => ∀ i, (h i).choose σ H Q, fun i pins s σ H Q I q => (h i).choose_spec.1 pins s σ H Q I (q i), fun F0 B F H ρ σ d Q rs e w i => ?_⟩
  exact (h i).choose_spec.2 F0 B F H ρ σ d Q (by rw [hK i]; exact rs) e w
def monoG {α : Type} (g : α → St → Hp → (St → Hp → Prop) → Prop) : Prop := ∀ v σ H Q Q', (∀ σ' H', Q σ' H' → Q' σ' H') → g v σ H Q → g v σ H Q'
def XGc (X : Cx) (ct : Nat → Addr) (ms : List Mo) (own n : Nat) (tg : Expr) (g : D → Env → Option Env) : Prop := ∃ t, PG X tg t ∧ keepsCaps own t ∧ monoG t ∧ ∀ (F0 B F H : Hp) (ρ ρ' : Env) (σ : St) (d : D) (v : V) (Q : St → Hp → Prop), RS X.K ct F0 B ms F H ρ σ → Al X.K ct F B n d v → g d ρ = some ρ' →
  (∀ σ', RS X.K ct F0 B ms F H ρ' σ' → Q σ' H) → t v σ H Q
theorem fam_g {ι : Type} {Xs : ι → Cx} {ms : List Mo} {own n : Nat} {tg : Expr} {g : D → Env → Option Env} (hK : ∀ i, (Xs i).K = K) (h : ∀ i, XGc (Xs i) ct ms own n tg g) : ∃ t, (∀ i, PG (Xs i) tg t) ∧ keepsCaps own t ∧ ∀ (F0 B F H : Hp) (ρ ρ' : Env) (σ : St) (d : D) (v : V) (Q : St → Hp → Prop), RS K ct F0 B ms F H ρ σ → Al K ct F B n d v → g d ρ = some ρ' →
    (∀ σ', RS K ct F0 B ms F H ρ' σ' → Q σ' H) → t v σ H Q := by
  refine ⟨fun v σ H Q => ∀ i, (h i).choose v σ H Q, fun i pins s σ H v u Q I r q => (h i).choose_spec.1 pins s σ H v u Q I r (q i), fun v σ H Q q i => (h i).choose_spec.2.1 v σ H Q (q i), fun F0 B F H ρ ρ' σ d v Q rs l e w i => ?_⟩
  exact (h i).choose_spec.2.2.2 F0 B F H ρ ρ' σ d v Q (by rw [hK i]; exact rs) (by rw [hK i]; exact l) e fun σ' r => w σ' (by rw [← hK i]; exact r)
theorem xgc_name {X : Cx} {ms : List Mo} {own i : Nat} {x : Str} {pos : Pos} (ho : i < own) (hm : ms[i]? = some (.ow 0)) (hN : X.N.Nodup) (hi : X.N[i]? = some x) (hx : Loc X.env.scope x)
    (hf : X.fn x = true ∨ X.env.scope.names.lookup x = some .local := by first | exact .inl rfl | exact .inr rfl | assumption) : XGc X ct ms own 0 (.Name x pos) (gV i) := by
  refine ⟨_, pg_name hN hi hx hf, keeps_name i own ho, fun v σ H Q Q' m q => m _ _ q, fun F0 B F H ρ ρ' σ d v Q rs l e w => ?_⟩
  cases e
  exact w _ (rs.set hm (.refl rs.fh) (Ow.zero l) List.nodup_nil fun a z => (by cases z))
def keepsS (own : Nat) (g : TGs) : Prop := ∀ v σ H Q, g v σ H Q → g v σ H fun σ' H' => Q σ' H' ∧ σ'.length = σ.length ∧ ∀ i, own ≤ i → σ'[i]? = σ[i]?
def XGsc (X : Cx) (ct : Nat → Addr) (ms : List Mo) (own n : Nat) (tgs : List Expr) (g : List D → Env → Option Env) : Prop := ∃ t, PGs X tgs t ∧ keepsS own t ∧ monoG t ∧ (∀ ds ρ ρ', g ds ρ = some ρ' → ds.length = tgs.length) ∧ ∀ (F0 B F H : Hp) (ρ ρ' : Env) (σ : St) (ds : List D) (vs : List V) (Q : St → Hp → Prop), RS X.K ct F0 B ms F H ρ σ → Pr (Al X.K ct F B n) ds vs → g ds ρ = some ρ' →
  (∀ σ', RS X.K ct F0 B ms F H ρ' σ' → Q σ' H) → t vs σ H Q
def capsD (ρ : Env) (cap : List Nat) : Env := cap.map fun i => (ρ[i]?).join
def capsM (ms : List Mo) (cap : List Nat) : List Mo := cap.map fun i => .al (((ms[i]?).map Mo.lv).getD 0)
def compD (g : D → Env → Option Env) (p : BF) (f : EF) (ρ0 : Env) : List D → Option (List D)
  | [] => some []
  | d :: ds => (g d ρ0).bind fun ρ1 => (p ρ1).bind fun b => if b = true then (f ρ1).bind fun y => (compD g p f ρ0 ds).bind fun ys => some (y :: ys) else compD g p f ρ0 ds
def eComp (fi : Env → Option (List D)) (own : Nat) (cap : List Nat) (g : D → Env → Option Env) (p : BF) (f : EF) : EF := fun ρ => (fi ρ).bind fun ds => if ds.length ≤ 16777216 then (compD g p f (List.replicate own none ++ capsD ρ cap) ds).bind fun ys => some (.lst ys) else none
theorem SL.caps {F B H : Hp} {ms : List Mo} {ρ : Env} {σ : St} (rs : RS K ct F0 B ms F H ρ σ) : ∀ {cap : List Nat}, (∀ i ∈ cap, i < ms.length) → SL K ct F H H (capsM ms cap) (capsD ρ cap) (capsOf σ cap) []
  | [], _ => .nil
  | i :: cap, h => by
    have ih := SL.caps rs (cap := cap) fun j hj => h j (List.mem_cons_of_mem _ hj)
    have hi : i < ms.length := h i List.mem_cons_self
    have hm : ms[i]? = some ms[i] := by simp [hi]
    show SL K ct F H H (.al (((ms[i]?).map Mo.lv).getD 0) :: capsM ms cap) ((ρ[i]?).join :: capsD ρ cap) ((σ[i]?).join :: capsOf σ cap) []
    cases e : (ρ[i]?).join with
    | none => exact .no ih
    | some d =>
      obtain ⟨v, hv, l⟩ := rs.get hm (join_some e)
      rw [hv, hm]
      exact .al l ih
theorem SL.nones {F B H : Hp} {ms ms' : List Mo} {ρ : Env} {σ : St} {fp : List Addr} (t : SL K ct F B H ms ρ σ fp) : ∀ {om : List Mo}, SL K ct F B H (om ++ ms) (List.replicate om.length none ++ ρ) (List.replicate om.length none ++ σ) fp
  | [] => t
  | m :: om => .no (SL.nones (ms' := ms') t)
theorem xo_comp {X : Cx} {ms om : List Mo} {n k : Nat} {elt iter tg : Expr} {ifs : List Expr} {scope : Scope} {pos : Pos} {N : List Str} {own : Nat} {cap : List Nat} {fi : Env → Option (List D)} {gg : D → Env → Option Env} {p : BF} {f : EF}
    (B : BlkOk X scope N own cap) (hc : X.calm = true) (ho : om.length = own) (hcap : ∀ i ∈ cap, i < ms.length) (hi : XIc X ct ms n tg iter fi)
    (hg : ∀ cl C fp s₀ H₀, XGc (cxB X scope cl N C fp s₀ H₀) ct (om ++ capsM ms cap) own n tg gg) (ht : ∀ cl C fp s₀ H₀, XTs (cxB X scope cl N C fp s₀ H₀) ct (om ++ capsM ms cap) ifs p) (he : ∀ cl C fp s₀ H₀, XO (cxB X scope cl N C fp s₀ H₀) ct (om ++ capsM ms cap) k elt f)
    (hs : ∀ x, foldedSetIterable iter X.env x = pure x := by intro _; rfl) : XO X ct ms (k + 1) (.ListComp elt [⟨tg, iter, ifs, 0⟩] scope pos) (eComp fi own cap gg p f) := by
  obtain ⟨wi, pi, qi⟩ := hi
  obtain ⟨tg', pg, kg, qg⟩ := fam_g (K := X.K) (Xs := fun z : List (Str × Addr) × Addr × List Addr × Shared × Hp => cxB X scope z.1 N z.2.1 z.2.2.1 z.2.2.2.1 z.2.2.2.2) (fun _ => rfl) (fun z => hg z.1 z.2.1 z.2.2.1 z.2.2.2.1 z.2.2.2.2)
  obtain ⟨tt, pt, qt⟩ := fam_t (K := X.K) (Xs := fun z : List (Str × Addr) × Addr × List Addr × Shared × Hp => cxB X scope z.1 N z.2.1 z.2.2.1 z.2.2.2.1 z.2.2.2.2) (fun _ => rfl) (fun z => ht z.1 z.2.1 z.2.2.1 z.2.2.2.1 z.2.2.2.2)
  obtain ⟨te, pe, qe⟩ := fam_o (K := X.K) (Xs := fun z : List (Str × Addr) × Addr × List Addr × Shared × Hp => cxB X scope z.1 N z.2.1 z.2.2.1 z.2.2.2.1 z.2.2.2.2) (fun _ => rfl) (fun z => he z.1 z.2.1 z.2.2.1 z.2.2.2.1 z.2.2.2.2)
  refine ⟨_, pe_comp B hc pi kg (fun cl C fp s₀ H₀ => pg (cl, C, fp, s₀, H₀)) (fun cl C fp s₀ H₀ => pt (cl, C, fp, s₀, H₀)) (fun cl C fp s₀ H₀ => pe (cl, C, fp, s₀, H₀)) hs, fun F0 B F H ρ σ r Q rs e w => ?_⟩
  obtain ⟨ds, h1, h2⟩ := bind1 e
  by_cases hz : ds.length ≤ 16777216
  case neg => rw [if_neg hz] at h2; cases h2
  rw [if_pos hz] at h2
  obtain ⟨ys, h3, h4⟩ := bind1 h2
  cases h4
  refine qi F0 B F H ρ σ ds _ rs h1 fun J F1 H1 x1 ok A hA => ?_
  have rs1 := rs.ext x1
  refine ⟨fun i m us H2 => m = ds.length - i ∧ i ≤ ds.length ∧ us.length ≤ i ∧ H2 A = some (.lst us) ∧ ∃ F2 yd zd fp, Ext F1 H1 F2 H2 ∧ F2 A = none ∧ OwL (Ow X.K ct F2 H2 k) yd us fp ∧ fp.Nodup ∧ (∀ a ∈ fp, H1 a = none ∧ a ≠ A) ∧ compD gg p f (List.replicate own none ++ capsD ρ cap) (ds.drop i) = some zd ∧ yd ++ zd = ys,
    ⟨ds.length, rfl, Nat.zero_le _, Nat.le_refl _, upd_same, F1, [], ys, [], Ext.newO x1.fh hA _, x1.fh.free hA, .nil, List.nodup_nil, fun a z => (by cases z), h3, rfl⟩, ?_⟩
  rintro i m us H2 ⟨rfl, hil, hul, hA2, F2, yd, zd, fp, x2, fA, ol, nd, hf, hcd, hys⟩
  refine ⟨hA2, ?_⟩
  have rs2 := rs1.ext x2
  obtain ⟨k1, k2⟩ := ok i F2 H2 x2.ff x2.hh x2.fh
  by_cases hlt : i < ds.length
  · right
    have hd : ds[i]? = some ds[i] := by simp [hlt]
    obtain ⟨go, yl⟩ := k1 _ hd
    rw [List.drop_eq_getElem_cons hlt] at hcd
    obtain ⟨ρ1, h5, h6⟩ := bind1 hcd
    obtain ⟨b, h7, h8⟩ := bind1 h6
    refine ⟨go, by rw [sizeLine_eq]; omega, fun x H3 y => ?_⟩
    obtain ⟨F3, x3, l⟩ := yl x H3 y
    have rs3 := rs2.ext x3
    have sl := SL.nones (ms' := []) (SL.caps rs3 hcap) (om := om)
    rw [ho] at sl
    have rsI : RS X.K ct F3 H3 (om ++ capsM ms cap) F3 H3 (List.replicate own none ++ capsD ρ cap) (List.replicate own none ++ capsOf σ cap) := ⟨.refl _, .refl _, x3.fh, fun _ _ _ h => h, [], sl, List.nodup_nil, fun a z => (by cases z)⟩
    have A3 : H3 A = some (.lst us) := x3.hh _ _ hA2
    have fA3 : F3 A = none := x3.nf A _ hA2 fA
    refine qg F3 H3 F3 H3 _ ρ1 _ _ x _ rsI (l.mono (.refl _) (x2.trans x3).hh) h5 fun σ1 r1 => ?_
    refine qt F3 H3 F3 H3 ρ1 σ1 b _ r1 h7 fun F4 H4 x4 => ?_
    cases b with
    | false =>
      rw [if_neg Bool.false_ne_true] at h8 ⊢
      have x24 := x3.trans x4
      refine ⟨ds.length - (i + 1), by omega, rfl, hlt, by omega, x4.hh _ _ A3, F4, yd, zd, fp, x2.trans x24, x4.nf A _ A3 fA3, ol.mono fun _ _ _ _ o => o.ext x24, nd, hf, h8, hys⟩
    | true =>
      rw [if_pos rfl] at h8 ⊢
      obtain ⟨yv, h9, h10⟩ := bind1 h8
      obtain ⟨zs, h11, h12⟩ := bind1 h10
      cases h12
      refine qe F3 H3 F4 H4 ρ1 σ1 yv _ (r1.ext x4) h9 fun v F5 H5 f5 x5 o5 n5 hf5 => ?_
      have x25 := (x3.trans x4).trans x5
      have x45 := x4.trans x5
      have A5 : H5 A = some (.lst us) := x45.hh _ _ A3
      have fA5 : F5 A = none := x45.nf A _ A3 fA3
      have A4 : H4 A = some (.lst us) := x4.hh _ _ A3
      have hA5 : ∀ a ∈ f5, a ≠ A := fun a z e => by rw [e] at z; rw [hf5 A z] at A4; cases A4
      refine ⟨A5, ds.length - (i + 1), by omega, rfl, hlt, by rw [List.length_append, List.length_singleton]; omega, upd_same, F5, yd ++ [yv], zs, fp ++ (f5 ++ []), ?_, fA5, ?_, ?_, ?_, h11, by rw [List.append_assoc]; exact hys⟩
      · have x15 := x2.trans x25
        refine ⟨x15.ff, fun a o h => ?_, fun a o h => ?_, x15.nf⟩
        · rw [upd_ne (ne_of_none h hA)]; exact x15.hh _ _ h
        · rw [upd_ne (fun z => by rw [z] at h; rw [fA5] at h; cases h)]; exact x15.fh _ _ h
      · refine (ol.mono fun _ _ f hfi o => ?_).append (.cons ?_ .nil)
        · refine (o.ext x25).frame (.refl _) fun a z => ⟨upd_ne (hf a (hfi a z)).2, ((o.ext x25).cells a z).1⟩
        · exact o5.frame (.refl _) fun a z => ⟨upd_ne (hA5 a z), (o5.cells a z).1⟩
      · rw [List.append_nil]
        refine List.nodup_append.mpr ⟨nd, n5, fun a z c hc e => ?_⟩
        subst e
        have : ∃ o, H2 a = some o := (OwL.cellsOf ol a z).2
        obtain ⟨o, ho⟩ := this
        have := x4.hh _ _ (x3.hh _ _ ho)
        rw [hf5 a hc] at this
        cases this
      · intro a z
        rw [List.append_nil] at z
        rcases List.mem_append.mp z with z | z
        · exact hf a z
        · refine ⟨?_, hA5 a z⟩
          have x14 := x2.trans (x3.trans x4)
          exact x14.hh.free (hf5 a z)
  · left
    refine ⟨k2 (by omega), ?_⟩
    have : ds.drop i = [] := List.drop_eq_nil_of_le (by omega)
    rw [this] at hcd
    cases hcd
    rw [List.append_nil] at hys
    subst hys
    refine w _ F2 H2 (A :: fp) (x1.trans x2) (.inr (.lst fA hA2 ol)) (List.nodup_cons.mpr ⟨fun z => (hf A z).2 rfl, nd⟩) fun a z => ?_
    rcases List.mem_cons.mp z with rfl | z
    · exact x1.hh.free hA
    · exact x1.hh.free (hf a z).1
end
end L3

namespace L3
open PySem PySem.Spec L2
open PyProof.Rows hiding St
section
variable {X : Cx} {ct : Nat → Addr} {ms : List Mo} {rk n m k : Nat} {st : Stmt} {rest : List Stmt} {a b c e tg : Expr} {f g h : EF} {p q : BF} {u w : SF} {pos : Pos}
def asL : D → Option (List D)
  | .lst ds => some ds
  | _ => none
def asT : D → Option (List D)
  | .tup ds => some ds
  | _ => none
theorem asL_some {d : D} {ds : List D} (h : asL d = some ds) : d = .lst ds := by cases d <;> simp [asL] at h; subst h; rfl
def lsD (f : EF) : Env → Option (List D) := fun ρ => (f ρ).bind asL
def tsD (f : EF) : Env → Option (List D) := fun ρ => (f ρ).bind asT
theorem itl_ok {K : PySem.W.Frag} {F B G : Hp} {a : Addr} {vs : List V} {ds : List D} (hp : Pr (Al K ct F B n) ds vs) (keep : ∀ F' H', Same F F' → Same B H' → Same F' H' → SqL K H' a vs) : ItOk K ct F B n (Itl K a) ds := by
  intro i F' H' s1 s2 s3
  have hs : SqL K H' a vs := keep F' H' s1 s2 s3
  refine ⟨fun d hd => ?_, fun hl => ⟨vs, hs, by rw [← hp.length]; exact hl⟩⟩
  obtain ⟨v, hv, l⟩ := hp.get' hd
  refine ⟨⟨vs, v, hs, hv⟩, fun x H2 y => ?_⟩
  obtain ⟨e, y⟩ := y
  subst e
  have := y vs hs
  rw [hv] at this
  cases this
  exact ⟨F', .refl s3, l.mono s1 (.refl _)⟩
theorem xic_list (he : XE X ct ms n e f) : XIc X ct ms (n - 1) tg e (lsD f) := by
  obtain ⟨t, pt, qt⟩ := he
  refine ⟨_, pi_list pt, fun F0 B F H ρ σ ds R rs e w => ?_⟩
  obtain ⟨d, h1, h2⟩ := bind1 e
  rw [asL_some h2] at h1
  refine qt F0 B F H ρ σ _ _ rs h1 fun v F' H' x l => ?_
  obtain ⟨a, vs, rfl, ha, hp⟩ := l.lst x.fh
  exact ⟨a, rfl, ⟨vs, ha⟩, w _ F' H' x (itl_ok (G := H') hp fun F2 H2 s1 s2 s3 => s2.seq ha)⟩
def upto (lo : Int) (j : Nat) : List D := (List.range j).map fun (t : Nat) => .int (lo + (t : Int))
def rng1 : List D → Option (List D)
  | [.int j] => if -4611686018427387904 ≤ j ∧ j < 4611686018427387904 then some (upto 0 j.toNat) else none
  | _ => none
def rng2 : List D → Option (List D)
  | [.int i, .int j] => if -4611686018427387904 ≤ i ∧ i < 4611686018427387904 ∧ -4611686018427387904 ≤ j ∧ j < 4611686018427387904 then some (upto i (j - i).toNat) else none
  | _ => none
theorem itr_ok {K : PySem.W.Frag} {F B : Hp} {lo : Int} {j : Nat} : ItOk K ct F B n (Itr lo j) (upto lo j) := by
  intro i F' H' s1 s2 s3
  unfold upto
  refine ⟨fun d hd => ?_, fun hl => (show j ≤ i by simpa using hl)⟩
  rw [List.getElem?_map] at hd
  by_cases h : i < j
  · rw [List.getElem?_range h] at hd
    cases hd
    refine ⟨h, fun x H2 y => ?_⟩
    obtain ⟨e, y⟩ := y
    subst e
    subst y
    exact ⟨F', .refl s3, Al.of (.int _)⟩
  · rw [List.getElem?_eq_none (by simpa using h)] at hd
    cases hd
theorem xi_range1 {fs : Env → Option (List D)} {pp : Pos} (hm : X.mg "range" = none) (ha : XA X ct ms [a] [m] fs) (hg : Gl X "range" := by rfl) (hs : starEach [a] X.env = [(false, eval a X.env)] := by rfl) : XI X ct ms n tg (.Call (.Name "range" pp) [a] [] pos) (fun ρ => (fs ρ).bind rng1) := by
  obtain ⟨t, pt, _, qt⟩ := ha
  refine ⟨_, pi_range1 hg hm pt hs, fun F0 B F H ρ σ ds R rs e w => ?_⟩
  obtain ⟨ds', h1, h2⟩ := bind1 e
  refine qt F0 B F H ρ σ _ _ rs h1 fun vs F' H' x l => ?_
  cases l with
  | cons h t =>
    cases t
    rename_i d v
    cases d with
    | int j =>
      unfold rng1 at h2
      dsimp only at h2
      by_cases hj : -4611686018427387904 ≤ j ∧ j < 4611686018427387904
      · rw [if_pos hj] at h2
        cases h2
        exact ⟨j, by rw [h.int], by omega, by omega, w _ F' H' x itr_ok⟩
      · rw [if_neg hj] at h2; cases h2
    | _ => cases h2
def enumD (i : Nat) : List D → List D
  | [] => []
  | d :: ds => .tup [.int i, d] :: enumD (i + 1) ds
end
end L3

namespace L3
open PySem PySem.Spec L2
open PyProof.Rows hiding St
section
variable {X : Cx} {ct : Nat → Addr} {ms : List Mo} {rk n m k : Nat} {st : Stmt} {rest : List Stmt} {a b c e tg : Expr} {f g h : EF} {p q : BF} {u w : SF} {pos : Pos}
theorem PS.or {t u : TS} (h1 : PS X st t) (h2 : PS X st u) : PS X st (fun D σ H => t D σ H ∨ u D σ H) := fun pins s σ H D I h => h.elim (h1 pins s σ H D I) (h2 pins s σ H D I)
def sApp (i : Nat) (f : EF) : SF := fun ρ => (eV i ρ).bind fun o => (f ρ).bind fun d => match o with
  | .lst ds => if ds.length < 16777216 then some (.nx (ρ.set i (some (.lst (ds ++ [d]))))) else none
  | _ => none
def setAt (ds : List D) (i : Int) (d : D) : Option (List D) := (ixN ds.length i).bind fun j => some (ds.set j d)
def putK' {κ : Type} [DecidableEq κ] (ks : List κ) (ds : List D) (k : κ) (d : D) : List κ × List D := if ks.contains k = true then (ks, (ks.zip ds).map fun p => if p.1 = k then d else p.2) else (ks ++ [k], ds ++ [d])
def sPutL (i : Nat) (fj f : EF) : SF := fun ρ => (f ρ).bind fun d => (eV i ρ).bind fun o => (fj ρ).bind fun j => match o, j with
  | .lst ds, .int z => (setAt ds z d).bind fun ds' => some (.nx (ρ.set i (some (.lst ds'))))
  | _, _ => none
end
end L3

namespace L3
open PySem PySem.Spec L2
open PyProof.Rows hiding St
section
variable {X : Cx} {ct : Nat → Addr} {ms : List Mo} {rk n m k : Nat} {st : Stmt} {rest : List Stmt} {a b c e tg : Expr} {f g h : EF} {p q : BF} {u w : SF} {pos : Pos} {K : PySem.W.Frag}
def rCatR (K : PySem.W.Frag) : R2 := fun x y H Q => ∃ l b xs zs, x = .ref l ∧ y = .ref b ∧ SqL K H l xs ∧ SqL K H b zs ∧ xs.length + zs.length ≤ sizeLine ∧ ∀ p, H p = none → Q (.ref p) (upd H p (.lst (xs ++ zs)))
theorem op_catR : OpR X (binaryOp .Add) (rCatR X.K) := by
  intro pins s σ H x y v u Q I rx ry h
  obtain ⟨l, b, xs, zs, rfl, rfl, hH, hB, hz, q⟩ := h
  cases rx
  cases ry
  obtain ⟨its, r, ⟨⟨cls, dd, data, sl⟩, n, e, c1, c2, c3⟩, z⟩ := I.list hH
  obtain ⟨its2, r2, ⟨⟨cls2, dd2, data2, sl2⟩, n2, e2, c4, c5, c6⟩, z2⟩ := I.list hB
  simp only at c1 c3 c4 c6
  subst c1 c3 c4 c6
  have hl := r.length
  have hl2 := r2.length
  refine concat_meets ⟨_, e, rfl⟩ ⟨_, e2, rfl⟩ noFill_list_add seq_list_add PySem.F.slot_list_add PySem.F.entry_list_add (PySem.F.args_list_add_2 _ _) (list_addW l b its.toArray its2.toArray n n2 dd dd2 sl sl2 (by rw [List.size_toArray, List.size_toArray]; omega)) ⟨e, e2, ?_⟩
  have ea : its.toArray ++ its2.toArray = (its ++ its2).toArray := by simp
  rw [ea]
  exact ⟨.ref _, _, I.lnew (t' := s.toks) (r.append r2) (by rw [List.length_append]; omega), rfl, q _ I.fresh⟩
def rAddS : R2 := fun x y H Q => ∃ i j, x = .str i ∧ y = .str j ∧ i.length + j.length ≤ sizeLine ∧ Q (.str (i ++ j)) H
def rAdd (K : PySem.W.Frag) : R2 := fun x y H Q => rI0 (fun i j => .int (i + j)) x y H Q ∨ rAddS x y H Q ∨ rCatR K x y H Q ∨ rCatT K x y H Q
theorem op_addA : OpR X (binaryOp .Add) (rAdd X.K) := OpR.or op_add (OpR.or op_add_str (OpR.or op_catR op_catT))
def addD : D → D → Option D
  | .int i, .int j => some (.int (i + j))
  | .str x, .str y => if x.length + y.length ≤ 16777216 then some (.str (x ++ y)) else none
  | .lst xs, .lst ys => if xs.length + ys.length ≤ 16777216 then some (.lst (xs ++ ys)) else none
  | .tup xs, .tup ys => if xs.isEmpty = false ∧ ys.isEmpty = false ∧ xs.length + ys.length ≤ 1000000 then some (.tup (xs ++ ys)) else none
  | _, _ => none
theorem Pr.ow0 {F G H : Hp} {ds : List D} {vs : List V} (h : Pr (Al K ct F G 0) ds vs) : OwL (Ow K ct F H 0) ds vs [] := OwL.ofPr (h.mono fun _ _ q => ⟨q, rfl⟩)
theorem Al.lst1 {F G : Hp} {ds : List D} {v : V} (hn : n ≤ 1) (h : Al K ct F G n (.lst ds) v) (s : Same F G) : ∃ a vs, v = .ref a ∧ SqL K G a vs ∧ Pr (Al K ct F G 0) ds vs := by
  obtain ⟨a, vs, e, h1, h2⟩ := h.lst s
  have : n - 1 = 0 := by omega
  rw [this] at h2
  exact ⟨a, vs, e, h1, h2⟩
theorem Al.tup1 {F G : Hp} {ds : List D} {v : V} (hn : n ≤ 1) (h : Al K ct F G n (.tup ds) v) (s : Same F G) : ∃ a vs, v = .ref a ∧ G a = some (.tup vs) ∧ Pr (Al K ct F G 0) ds vs := by
  obtain ⟨a, vs, e, h1, h2⟩ := h.tup s
  have : n - 1 = 0 := by omega
  rw [this] at h2
  exact ⟨a, vs, e, h1, h2⟩
theorem new_own {F H : Hp} {ds : List D} {vs : List V} {Q : VK} (s : Same F H) (hp : Pr (Al K ct F H 0) ds vs) (w : ∀ v F' H' fp, Ext F H F' H' → Ow K ct F' H' 1 (.lst ds) v fp → fp.Nodup → (∀ a ∈ fp, H a = none) → Q v H') : ∀ p, H p = none → Q (.ref p) (upd H p (.lst vs)) := fun p h0 => by
  obtain ⟨o, nd⟩ := new_lst s (hp.ow0 (H := H)) h0
  exact w _ F _ [p] (Ext.newO s h0 _) o (nd List.nodup_nil) fun a z => by rw [List.mem_singleton] at z; subst z; exact h0
theorem op2_add (hn : n ≤ 1) (hm : m ≤ 1) : Op2O K ct n m 1 (rAdd K) addD := by
  intro F H x y d1 d2 d Q s l1 l2 e w
  have ws : ∀ d v, d.sc = true → Dt K ct F d v → (∀ v F' H' fp, Ext F H F' H' → Ow K ct F' H' 1 d v fp → fp.Nodup → (∀ a ∈ fp, H a = none) → Q v H') → Q v H := fun d v hs hd w => w v F H [] (.refl s) (Ow.scal hd hs) List.nodup_nil fun a z => (by cases z)
  cases d1 with
  | int i =>
    cases d2 with
    | int j => cases e; exact .inl ⟨i, j, l1.int, l2.int, ws _ _ rfl (.int _) w⟩
    | _ => cases e
  | str i =>
    cases d2 with
    | str j =>
      unfold addD at e
      dsimp only at e
      by_cases hz : i.length + j.length ≤ 16777216
      · rw [if_pos hz] at e
        cases e
        exact .inr (.inl ⟨i, j, l1.str, l2.str, by rw [sizeLine_eq]; exact hz, ws _ _ rfl (.str _) w⟩)
      · rw [if_neg hz] at e; cases e
    | _ => cases e
  | lst xs =>
    cases d2 with
    | lst ys =>
      unfold addD at e
      dsimp only at e
      by_cases hz : xs.length + ys.length ≤ 16777216
      · rw [if_pos hz] at e
        cases e
        obtain ⟨a, vs, rfl, ha, hp⟩ := Al.lst1 hn l1 s
        obtain ⟨b, us, rfl, hb, hq⟩ := Al.lst1 hm l2 s
        exact .inr (.inr (.inl ⟨a, b, vs, us, rfl, rfl, ha, hb, by rw [← hp.length, ← hq.length, sizeLine_eq]; exact hz, new_own s (hp.append hq) w⟩))
      · rw [if_neg hz] at e; cases e
    | _ => cases e
  | tup xs =>
    cases d2 with
    | tup ys =>
      unfold addD at e
      dsimp only at e
      by_cases hz : xs.isEmpty = false ∧ ys.isEmpty = false ∧ xs.length + ys.length ≤ 1000000
      · rw [if_pos hz] at e
        cases e
        obtain ⟨a, vs, rfl, ha, hp⟩ := Al.tup1 hn l1 s
        obtain ⟨b, us, rfl, hb, hq⟩ := Al.tup1 hm l2 s
        have hl := hp.length
        have hl2 := hq.length
        have e1 : vs ≠ [] := fun z => by
          rw [z] at hl
          have := List.length_eq_zero_iff.mp hl
          rw [this] at hz
          exact absurd hz.1 (by decide)
        have e2 : us ≠ [] := fun z => by
          rw [z] at hl2
          have := List.length_eq_zero_iff.mp hl2
          rw [this] at hz
          exact absurd hz.2.1 (by decide)
        refine .inr (.inr (.inr ⟨a, b, vs, us, rfl, rfl, SqT.of ha, SqT.of hb, e1, by rw [← hl, ← hl2, sizeLine_eq]; omega, fun z => absurd z e2, fun _ p h0 => ?_⟩))
        have x2 := Ext.newS s h0 (.tup (vs ++ us))
        exact w _ _ _ [] x2 (.inr (.tup upd_same (OwL.ofPr ((hp.append hq).mono fun _ _ q => ⟨Dt.mono x2.ff q, rfl⟩)))) List.nodup_nil fun a z => (by cases z)
      · rw [if_neg hz] at e; cases e
    | _ => cases e
  | _ => cases e
def rRepR : R2 := fun x y H Q => ∃ l k xs, x = .ref l ∧ y = .int k ∧ Rd H l (.lst xs) ∧ -(2 ^ 63) ≤ k ∧ k < 2 ^ 63 ∧ xs.length * k.toNat ≤ sizeLine ∧
  ∀ p, H p = none → Q (.ref p) (upd H p (.lst (List.replicate k.toNat xs).flatten))
theorem op2_mulI : Op2 K ct n m k (rI CMulS fun i j => .int (i * j)) mulI := op2_mul
def repD : D → D → Option D
  | .lst xs, .int j => if -1000000 < j ∧ j < 1000000 ∧ xs.length ≤ 16 then some (.lst (List.replicate j.toNat xs).flatten) else none
  | _, _ => none
def negD : D → Option D
  | .int i => some (.int (-i))
  | _ => none
def listD : List D → Option D
  | [.lst ds] => some (.lst ds)
  | [.tup ds] => some (.lst ds)
  | _ => none
abbrev PF := Env → Option (Option Int)
def pNo : PF := fun _ => some none
def pInt (f : EF) : PF := fun ρ => (f ρ).bind fun d => match d with
  | .int i => some (some i)
  | _ => none
def XP (X : Cx) (ct : Nat → Addr) (ms : List Mo) (e : Option Expr) (f : PF) : Prop := ∃ t, PO X e t ∧ ∀ (F0 B F H : Hp) (ρ : Env) (σ : St) (o : Option Int) (Q : Option Int → Hp → Prop), RS X.K ct F0 B ms F H ρ σ → f ρ = some o → (∀ F' H', Ext F H F' H' → Q o H') → t σ H Q
theorem xp_no : XP X ct ms none pNo := ⟨_, po_none, fun F0 B F H ρ σ o Q rs e w => by cases e; exact w F H (.refl rs.fh)⟩
theorem xp_some (h : XE X ct ms n e f) : XP X ct ms (some e) (pInt f) := by
  obtain ⟨t, pt, qt⟩ := h
  refine ⟨_, po_some pt, fun F0 B F H ρ σ o Q rs e w => ?_⟩
  obtain ⟨d, h1, h2⟩ := bind1 e
  refine qt F0 B F H ρ σ d _ rs h1 fun v F' H' x l => ?_
  cases d with
  | int i => cases h2; exact ⟨i, l.int, w F' H' x⟩
  | _ => cases h2
def cutD (xs : List D) (lo hi : Option Int) : List D := (xs.drop (HT.sIx xs.length 0 lo)).take (HT.sIx xs.length xs.length hi - HT.sIx xs.length 0 lo)
theorem cutD_pr {R : D → V → Prop} {ds : List D} {vs : List V} {lo hi : Option Int} (h : Pr R ds vs) : Pr R (cutD ds lo hi) (cutV vs lo hi) := by
  unfold cutD cutV
  rw [h.length]
  exact (h.drop _).take _
def sliceD (d : D) (lo hi : Option Int) : Option D := match d with
  | .lst xs => some (.lst (cutD xs lo hi))
  | _ => none
theorem xo_slice {lo hi : Option Expr} {pl ph : PF} {p1} (hn : n ≤ 1) (he : XE X ct ms n e f) (hl : XP X ct ms lo pl) (hh : XP X ct ms hi ph) : XO X ct ms 1 (.Subscript e (.Slice lo hi none p1) pos) (fun ρ => (f ρ).bind fun d => (pl ρ).bind fun l => (ph ρ).bind fun h => sliceD d l h) := by
  obtain ⟨t, pt, qt⟩ := he
  obtain ⟨t1, pt1, qt1⟩ := hl
  obtain ⟨t2, pt2, qt2⟩ := hh
  refine ⟨_, pe_slice sl_list pt pt1 pt2, fun F0 B F H ρ σ r Q rs e w => ?_⟩
  obtain ⟨d, l, h1, h2, h3⟩ := bind2 e
  obtain ⟨hh, h4, h5⟩ := bind1 h3
  refine qt F0 B F H ρ σ d _ rs h1 fun v F1 H1 x1 l1 => ?_
  refine qt1 F0 B F1 H1 ρ σ l _ (rs.ext x1) h2 fun F2 H2 x2 => ?_
  refine qt2 F0 B F2 H2 ρ σ hh _ ((rs.ext x1).ext x2) h4 fun F3 H3 x3 => ?_
  cases d with
  | lst xs =>
    cases h5
    have x23 := x2.trans x3
    obtain ⟨a, vs, rfl, ha, hp⟩ := Al.lst1 hn (l1.mono x23.ff x23.hh) x23.fh
    exact ⟨a, vs, rfl, ha, new_own x23.fh (cutD_pr hp) fun v F' H' fp x o nd hf => w v F' H' fp ((x1.trans x23).trans x) o nd fun z hz => (x1.trans x23).hh.free (hf z hz)⟩
  | _ => cases h5
def intB : List D → Option D
  | [.int i] => some (.int i)
  | [.bl b] => some (.int (if b then 1 else 0))
  | _ => none
def absD : List D → Option D
  | [.int i] => some (.int (if i < 0 then -i else i))
  | _ => none
def ii (g : Int → Int → D) : List D → Option D
  | [.int i, .int j] => some (g i j)
  | _ => none
theorem opn_ii {g : Int → Int → D} {gv : Int → Int → V} (hg : ∀ i j F, Dt K ct F (g i j) (gv i j)) : OpN K ct [n, m] k (fun xs H Q => ∃ i j, xs = [.int i, .int j] ∧ Q (gv i j) H) (ii g) := by
  intro F H vs ds d Q s l e w
  cases l with
  | cons h t =>
    cases t with
    | cons h' t =>
      cases t
      rename_i d1 v d2 v2
      cases d1 with
      | int i =>
        cases d2 with
        | int j => cases e; exact ⟨i, j, by rw [h.int, h'.int], w _ F H (.refl s) (Al.of (hg i j F))⟩
        | _ => cases e
      | _ => cases e
def max2D : List D → Option D := ii fun i j => .int (if j > i then j else i)
def min2D : List D → Option D := ii fun i j => .int (if j < i then j else i)
theorem opn_max2 : OpN K ct [n, m] k (fun xs H Q => ∃ i j, xs = [.int i, .int j] ∧ Q (.int (if j > i then j else i)) H) max2D := opn_ii fun _ _ _ => .int _
def sAug (i : Nat) (o : D → D → Option D) (f : EF) : SF := fun ρ => (eV i ρ).bind fun x => (f ρ).bind fun y => (o x y).bind fun d => some (.nx (ρ.set i (some d)))
def plusI : D → D → Option D := i2 fun i j => .int (i + j)
def sPar (i j : Nat) (fs : Env → Option (List D)) : SF := fun ρ => (fs ρ).bind fun ds => match ds with
  | [x, y] => some (.nx ((ρ.set i (some x)).set j (some y)))
  | _ => none
def sAsg (g : D → Env → Option Env) (f : EF) : SF := fun ρ => (f ρ).bind fun d => (g d ρ).bind fun ρ' => some (.nx ρ')
end
end L3

namespace L3
open PySem PySem.Spec L2
open PyProof.Rows hiding St
def modesOk : List Nat → List Mo → Bool
  | [], _ => true
  | n :: ns, .al m :: ms => decide (n = m) && modesOk ns ms
  | n :: ns, .ow m :: ms => decide (n = 0) && decide (m = 0) && modesOk ns ms
  | _, _ => false
theorem modes_of : ∀ {pm : List Nat} {ms : List Mo}, modesOk pm ms = true → ∀ (i n : Nat), pm[i]? = some n → ms[i]? = some (Mo.al n) ∨ (n = 0 ∧ ms[i]? = some (Mo.ow 0))
  | [], _, _, i, n, e => by simp at e
  | x :: ns, .al m :: ms, h, i, n, e => by
    simp only [modesOk, Bool.and_eq_true, decide_eq_true_eq] at h
    cases i with
    | zero => simp at e; subst e; rw [h.1]; exact .inl rfl
    | succ i => simpa using modes_of h.2 i n (by simpa using e)
  | x :: ns, .ow m :: ms, h, i, n, e => by
    simp only [modesOk, Bool.and_eq_true, decide_eq_true_eq] at h
    cases i with
    | zero => simp at e; subst e; rw [h.1.1, h.1.2]; exact .inr ⟨rfl, rfl⟩
    | succ i => simpa using modes_of h.2 i n (by simpa using e)
  | _ :: _, [], h, _, _, _ => by simp [modesOk] at h
  | _ :: _, .px _ :: _, h, _, _, _ => by simp [modesOk] at h
  | _ :: _, .so _ :: _, h, _, _, _ => by simp [modesOk] at h
def blkOk (X : Cx) (scope : Scope) (N : List Str) (own : Nat) (cap : List Nat) : Bool :=
  decide (scope.kind = .function) && scope.names.all (fun x => decide (x.2 ≠ .cell) && (decide (x.2 ≠ .local) || decide (scope.names.lookup x.1 = some .local)) && (decide (x.2 ≠ .free) || (decide (X.env.kindOf x.1 = some .cell) || decide (X.env.kindOf x.1 = some .free)))) &&
  decide (N.length = own + cap.length) && (List.range cap.length).all fun j => match N[own + j]?, cap[j]? with
    | some x, some i => decide (X.N[i]? = some x) && decide (scope.names.lookup x = some .free)
    | _, _ => false
theorem blk_of {X : Cx} {scope : Scope} {N : List Str} {own : Nat} {cap : List Nat} (h : blkOk X scope N own cap = true) : BlkOk X scope N own cap := by
  unfold blkOk at h
  simp only [Bool.and_eq_true, decide_eq_true_eq, List.all_eq_true, Bool.or_eq_true] at h
  obtain ⟨⟨⟨h1, h2⟩, h3⟩, h4⟩ := h
  refine ⟨h1, fun x hx => (h2 x hx).1.1, fun x hx hl => ((h2 x hx).1.2).elim (fun z => absurd hl z) id, fun x hx hf => ((h2 x hx).2).elim (fun z => absurd hf z) id, h3, fun j x hj => ?_⟩
  have hjl : j < cap.length := by
    have := (List.getElem?_eq_some_iff.mp hj).1
    omega
  have q := h4 j (List.mem_range.mpr hjl)
  rw [hj] at q
  have hc : cap[j]? = some cap[j] := by simp [hjl]
  rw [hc] at q
  simp only [Bool.and_eq_true, decide_eq_true_eq] at q
  exact ⟨_, hc, q.1, q.2⟩
def tyD : D → Option String
  | .non => some "NoneType"
  | .bl _ => some "bool"
  | .int _ => some "int"
  | .str _ => some "str"
  | .lst _ => some "list"
  | .tup _ => some "tuple"
  | .dK _ _ => some "dict"
  | _ => none
def tyL (K : PySem.W.Frag) (H : Hp) (v : V) (t : String) : Prop := TyOf K H v (.type t) ∨ (t = "list" ∧ ∃ a xs, v = .ref a ∧ SqL K H a xs)
theorem Al.ty {K : PySem.W.Frag} {ct : Nat → Addr} {F H : Hp} {n : Nat} {d : D} {v : V} {t : String} (s : Same F H) (h : Al K ct F H n d v) (e : tyD d = some t) : tyL K H v t := by
  cases d with
  | non => cases e; rw [h.non]; exact .inl .non
  | bl b => cases e; rw [h.bl]; exact .inl (.bl b)
  | int b => cases e; rw [h.int]; exact .inl (.int b)
  | str b => cases e; rw [h.str]; exact .inl (.str b)
  | lst xs =>
    cases e
    obtain ⟨a, vs, rfl, ha, _⟩ := h.lst s
    exact .inr ⟨rfl, a, vs, rfl, ha⟩
  | tup xs =>
    cases e
    obtain ⟨a, vs, rfl, ha, _⟩ := h.tup s
    exact .inl (.tup ha)
  | dK ks xs =>
    cases e
    obtain ⟨a, vs, rfl, ha, _⟩ := h.dK s
    exact .inl (.dK ha)
  | _ => cases e
theorem call_isiA {X : Cx} : CallR X (.builtin "isinstance") (fun xs H Q => ∃ x c t b, xs = [x, .ty c] ∧ tyL X.K H x t ∧ PySem.W.kitOne X.K (.type t) (.type c) = some b ∧ Q (.bl b) H) := by
  intro pins s σ H xs us Q I r h
  obtain ⟨x, c, t, b, rfl, ty, e, q⟩ := h
  rcases ty with ty | ⟨rfl, a, ys, rfl, hq⟩
  · exact call_isi pins s σ H _ us Q I r ⟨x, c, _, b, rfl, ty, e, q⟩
  · obtain ⟨u, w', rfl, ru, rw'⟩ := vals2 r
    cases (show w' = Value.type c from rw')
    cases (show u = Value.ref a from ru)
    obtain ⟨its, rv, ⟨o, n, h1, h2, _⟩, _⟩ := I.list hq
    exact PySem.W.kia_one PySem.W.kitx_list I.kIn ⟨o, h1, h2⟩ e (fun z => nomatch z) fun tk => ⟨.bl b, H, I.tok tk, rfl, q⟩
def isiT (t c : String) : Bool := t == c || (t == "bool" && c == "int")
theorem kit_one {K : PySem.W.Frag} : ∀ t ∈ (["NoneType", "bool", "int", "str", "list", "tuple", "dict"] : List String), ∀ c ∈ (["bool", "int", "str", "list", "tuple", "dict"] : List String), PySem.W.kitOne K (.type t) (.type c) = some (isiT t c) := by
  intro t ht c hc
  simp only [List.mem_cons, List.not_mem_nil, or_false] at ht hc
  rcases ht with rfl | rfl | rfl | rfl | rfl | rfl | rfl <;> rcases hc with rfl | rfl | rfl | rfl | rfl | rfl <;> rfl
theorem tyD_mem {d : D} {t : String} (e : tyD d = some t) : t ∈ (["NoneType", "bool", "int", "str", "list", "tuple", "dict"] : List String) := by
  cases d <;> simp [tyD] at e <;> subst e <;> decide
section
variable {X : Cx} {ct : Nat → Addr} {ms : List Mo} {rk n m k : Nat} {a b c e tg : Expr} {f g h : EF} {pos : Pos}
def isiD (c : String) (d : D) : Option D := (tyD d).bind fun t => some (.bl (isiT t c))
theorem xe_isi {c : String} {pp p2 : Pos} (hc : c ∈ (["bool", "int", "str", "list", "tuple", "dict"] : List String)) (hm : X.mg "isinstance" = none) (hm2 : X.mg c = none) (hb : bootBuiltins c = some (.type c)) (he : XE X ct ms n e f) (hg : Gl X "isinstance" := by rfl) (hg2 : Gl X c := by rfl) (hn2 : Str.ofString c ≠ "__name__" := by decide) (hd2 : (Str.ofString c == ("__debug__" : Str)) = false := by decide)
    (hs1 : starEach [e, .Name c p2] X.env = (false, eval e X.env) :: starEach [.Name c p2] X.env := by rfl) (hs2 : starEach [.Name c p2] X.env = (false, eval (.Name c p2) X.env) :: starEach [] X.env := by rfl) (hpl : (backTo pos (starEach [.Name c p2] X.env)).any (·.1) = false := by rfl) :
    XE X ct ms k (.Call (.Name "isinstance" pp) [e, .Name c p2] [] pos) (e1 (isiD c) f) := by
  obtain ⟨t, pt, qt⟩ := he
  refine ⟨_, pe_callB call_isiA hg hm bt_isinstance (pa_cons pt (pa_cons (pe_bltn (v := .ty c) hg2 hm2 hb rfl hn2 hd2) pa_nil hs2) hs1) (by decide) (by decide) hs1 hpl, fun F0 B F H ρ σ d Q rs e w => ?_⟩
  obtain ⟨d1, h1, h2⟩ := bind1 e
  obtain ⟨ty, h3, h4⟩ := bind1 h2
  cases h4
  exact qt F0 B F H ρ σ d1 _ rs h1 fun v F' H' x l => ⟨v, c, ty, _, rfl, l.ty x.fh h3, kit_one _ (tyD_mem h3) _ hc, w _ F' H' x (Al.of (.bl _))⟩
end
end L3

namespace L3
open PySem PySem.Spec L2
open PyProof.Rows hiding St
def spLaw (K : PySem.W.Frag) : Sp := fun vs H Q _ => ∃ (a : Addr) (ns : List Int), vs = [.ref a] ∧ SqL K H a (ns.map V.int) ∧ ns.length ≤ 63 ∧ ∀ H', Q (.bl true) H'
theorem Dts.ints {K : PySem.W.Frag} {ct : Nat → Addr} {F : Hp} : ∀ ns : List Int, Dts K ct F (ns.map D.int) (ns.map V.int)
  | [] => .nil
  | n :: ns => .cons (.int n) (Dts.ints ns)
theorem law_ok {P : Program} {w : World} {K : PySem.W.Frag} {mg : Str → Option Value} {base : Heap} {k : Nat} {f : Addr} {fd : FuncData} {ps : List Str} {ct : Nat → Addr} {m : List D → Option D} (Fn : FnOk P w K mg base CX0 k f fd ps (LSp K ct [0] 0 m))
    (h : ∀ ns : List Int, ns.length ≤ 63 → m [.lst (ns.map .int)] = some (.bl true)) : FnOk P w K mg base CX0 k f fd ps (spLaw K) := by
  have to : ∀ vs H Q E, spLaw K vs H Q E → LSp K ct [0] 0 m vs H Q E := by
    rintro vs H Q E ⟨a, ns, rfl, hS, hl, q⟩
    refine ⟨H, [.lst (ns.map .int)], .bl true, .refl _, .cons (Dt.lst hS (Dts.ints ns)) .nil, h ns hl, fun v F' H' fp x o nd hf => ?_⟩
    have hv : v = .bl true := by
      have o : Dt K ct F' (.bl true) v ∧ fp = [] := o
      cases o.1
      rfl
    subst hv
    exact q H'
  exact ⟨fun vs H Q E z => Fn.len vs H Q E (to vs H Q E z), fun A outer s H args us vs Q E hr e0 hb hv z => Fn.run A outer s H args us vs Q E hr e0 hb hv (to vs H Q E z)⟩
theorem forD_upto {g : D → Env → Option Env} {b : SF} (I : Nat → Env → Prop) (lo : Int) : ∀ (n k : Nat) (ρ : Env), I k ρ →
    (∀ j ρ, k ≤ j → j < k + n → I j ρ → ∃ ρ1 ρ2, g (.int (lo + (j : Int))) ρ = some ρ1 ∧ (b ρ1 = some (.nx ρ2) ∨ b ρ1 = some (.ct ρ2)) ∧ I (j + 1) ρ2) →
    ∃ ρ', forD g b ((List.range' k n).map fun (t : Nat) => D.int (lo + (t : Int))) ρ = some (.nx ρ') ∧ I (k + n) ρ'
  | 0, k, ρ, h, _ => ⟨ρ, rfl, h⟩
  | n + 1, k, ρ, h, st => by
    obtain ⟨ρ1, ρ2, h1, h2, h3⟩ := st k ρ (Nat.le_refl _) (by omega) h
    obtain ⟨ρ', h4, h5⟩ := forD_upto I lo n (k + 1) ρ2 h3 fun j ρ hj hl hI => st j ρ (by omega) (by omega) hI
    refine ⟨ρ', ?_, by rw [show k + (n + 1) = k + 1 + n by omega]; exact h5⟩
    rw [List.range'_succ, List.map_cons]
    show (g _ ρ).bind _ = _
    rw [h1]
    show (b ρ1).bind _ = _
    rcases h2 with h2 | h2 <;> (rw [h2]; exact h4)
theorem forD_range {g : D → Env → Option Env} {b : SF} (I : Nat → Env → Prop) {lo : Int} {n : Nat} {ρ : Env} (h : I 0 ρ)
    (st : ∀ j ρ, j < n → I j ρ → ∃ ρ1 ρ2, g (.int (lo + (j : Int))) ρ = some ρ1 ∧ (b ρ1 = some (.nx ρ2) ∨ b ρ1 = some (.ct ρ2)) ∧ I (j + 1) ρ2) : ∃ ρ', forD g b (upto lo n) ρ = some (.nx ρ') ∧ I n ρ' := by
  obtain ⟨ρ', h1, h2⟩ := forD_upto (g := g) (b := b) I lo n 0 ρ h fun j ρ _ hj hI => st j ρ (by omega) hI
  rw [Nat.zero_add] at h2
  exact ⟨ρ', by unfold upto; rw [List.range_eq_range']; exact h1, h2⟩
theorem fdivD_lit {i j : Int} (h1 : 0 < j) (h2 : j < 4611686018427387904) : fdivD (.int i) (.int j) = some (.int (i / j)) := by unfold fdivD; simp [h1, h2]
theorem modD_pos {i j : Int} (h : 0 < j) : modD (.int i) (.int j) = some (.int (i % j)) := by unfold modD; simp [h]
theorem mulI_r {i j : Int} (h1 : -18446744073709551616 < j) (h2 : j < 18446744073709551616) : mulI (.int i) (.int j) = some (.int (i * j)) := by simp [mulI, i2c, mulOk, h1, h2]
theorem mulI_l {i j : Int} (h1 : -18446744073709551616 < i) (h2 : i < 18446744073709551616) : mulI (.int i) (.int j) = some (.int (i * j)) := by simp [mulI, i2c, mulOk, h1, h2]
theorem powD_lit {i j : Int} (h1 : 0 ≤ j) (h2 : j ≤ 1000000) (h3 : i.natAbs < 18446744073709551616) : powD (.int i) (.int j) = some (.int (i ^ j.toNat)) := by simp [powD, i2c, powOk, h1, h2, h3]
theorem shlD_lit {i j : Int} (h1 : 0 ≤ j) (h2 : j ≤ 1000000) (h3 : i.natAbs < 18446744073709551616) : shlD (.int i) (.int j) = some (.int (i * 2 ^ j.toNat)) := by simp [shlD, i2c, powOk, h1, h2, h3]
theorem shrD_lit {i j : Int} (h1 : 0 ≤ j) : shrD (.int i) (.int j) = some (.int (i / 2 ^ j.toNat)) := by simp [shrD, i2c, h1]
theorem addD_int (i j : Int) : addD (.int i) (.int j) = some (.int (i + j)) := rfl
theorem subD_int (i j : Int) : subD (.int i) (.int j) = some (.int (i - j)) := rfl
theorem ltD_int (i j : Int) : ltD (.int i) (.int j) = some (.bl (decide (i < j))) := rfl
theorem leD_int (i j : Int) : leD (.int i) (.int j) = some (.bl (decide (i ≤ j))) := rfl
theorem gtD_int (i j : Int) : gtD (.int i) (.int j) = some (.bl (decide (j < i))) := rfl
theorem geD_int (i j : Int) : geD (.int i) (.int j) = some (.bl (decide (j ≤ i))) := rfl
theorem negD_int (i : Int) : negD (.int i) = some (.int (-i)) := rfl
theorem lenD_lst (ds : List D) : lenD [.lst ds] = some (.int ds.length) := rfl
theorem lenD_tup (ds : List D) : lenD [.tup ds] = some (.int ds.length) := rfl
theorem absD_int (i : Int) : absD [.int i] = some (.int (if i < 0 then -i else i)) := rfl
theorem max2D_int (i j : Int) : max2D [.int i, .int j] = some (.int (if j > i then j else i)) := rfl
theorem min2D_int (i j : Int) : min2D [.int i, .int j] = some (.int (if j < i then j else i)) := rfl
theorem isD_non (neg : Bool) (d : D) : isD neg d .non = some (.bl (if neg then !d.isN else d.isN)) := by cases d <;> rfl
theorem isD_bl (neg b : Bool) (d : D) : isD neg d (.bl b) = some (.bl (if neg then !d.isB b else d.isB b)) := by cases d <;> rfl
theorem asB_bl (b : Bool) : asB (.bl b) = some b := rfl
theorem asL_lst (ds : List D) : asL (.lst ds) = some ds := rfl
theorem sliceD_lst (ds : List D) (l h : Option Int) : sliceD (.lst ds) l h = some (.lst (cutD ds l h)) := rfl
theorem rng1_int {j : Int} (h1 : -4611686018427387904 ≤ j) (h2 : j < 4611686018427387904) : rng1 [.int j] = some (upto 0 j.toNat) := by simp [rng1, h1, h2]
theorem atI_map {α : Type} (enc : α → D) {xs : List α} {i : Int} {j : Nat} {x : α} (hi : i = (j : Int) ∨ i = (j : Int) - xs.length) (h : xs[j]? = some x) : atI (xs.map enc) i = some (enc x) := by
  have hj := (List.getElem?_eq_some_iff.mp h).1
  unfold L2.atI L2.ixN
  rw [List.length_map]
  rcases hi with rfl | rfl
  · rw [if_pos (by omega), if_pos (by omega)]
    simp [h]
  · rw [if_neg (by omega), if_pos (by omega)]
    have : ((j : Int) - (xs.length : Int) + (xs.length : Int)).toNat = j := by omega
    simp [this, h]
theorem cutD_take (xs : List D) (k : Nat) : cutD xs none (some (k : Int)) = xs.take k := by
  unfold cutD
  rw [HT.sIx_none, HT.sIx_nat, Nat.sub_zero, List.drop_zero]
  rcases Nat.le_total k xs.length with h | h
  · rw [Nat.min_eq_left h]
  · rw [Nat.min_eq_right h, List.take_of_length_le (Nat.le_refl _), List.take_of_length_le h]
end L3

namespace L3
open PySem PySem.Spec L2
structure EncD (α : Type) [DecidableEq α] where
  enc : α → D
  py : α → PyData
  dep : Nat
  is : ∀ x, (enc x).py = some (py x)
  lay : ∀ x, (py x).canLay0 = true
  dp : ∀ x, (py x).depth ≤ dep
  eqv : ∀ x y, PyData.eqv (py x) (py y) = decide (x = y)
section
variable {α β γ δ ε : Type} [DecidableEq α] [DecidableEq β] [DecidableEq γ] [DecidableEq δ] [DecidableEq ε]
theorem EncD.eq (E : EncD α) (h : E.dep ≤ 60) {neg : Bool} (x y : α) : eqD neg (E.enc x) (E.enc y) = some (.bl (if neg then !decide (x = y) else decide (x = y))) := by
  have h1 : pyOk (E.py x) = true := by unfold pyOk; rw [E.lay x, decide_eq_true (Nat.le_trans (E.dp x) h)]; rfl
  have h2 : pyOk (E.py y) = true := by unfold pyOk; rw [E.lay y, decide_eq_true (Nat.le_trans (E.dp y) h)]; rfl
  unfold eqD
  rw [E.is x, E.is y]
  simp only [Option.bind_some]
  rw [if_pos ⟨h1, h2⟩, E.eqv]
def Ei : EncD Int := ⟨.int, .int, 0, fun _ => by simp [D.py], fun _ => rfl, fun _ => by simp [PyData.depth], fun x y => by show (x == y) = _; by_cases h : x = y <;> simp [h]⟩
def Eb : EncD Bool := ⟨.bl, .bool, 0, fun _ => by simp [D.py], fun _ => rfl, fun _ => by simp [PyData.depth], fun x y => by cases x <;> cases y <;> rfl⟩
def encO : Option Int → D
  | none => .non
  | some i => .int i
def pyO : Option Int → PyData
  | none => .none
  | some i => .int i
def Eo : EncD (Option Int) := ⟨encO, pyO, 0, fun x => by cases x <;> simp [encO, pyO, D.py], fun x => by cases x <;> rfl, fun x => by cases x <;> simp [pyO, PyData.depth], fun x y => by
  cases x <;> cases y
  · rfl
  · rfl
  · rfl
  · rename_i a b; show (a == b) = _; by_cases h : a = b <;> simp [h]⟩
theorem pys_map (E : EncD α) : ∀ xs : List α, D.pys (xs.map E.enc) = some (xs.map E.py)
  | [] => by simp [D.pys]
  | x :: xs => by simp [D.pys, E.is x, pys_map E xs]
theorem layAll_map (E : EncD α) : ∀ xs : List α, PyData.canLayAll0 (xs.map E.py) = true
  | [] => by simp [PyData.canLayAll0]
  | x :: xs => by simp [PyData.canLayAll0, E.lay x, layAll_map E xs]
theorem depAll_map (E : EncD α) : ∀ xs : List α, PyData.depthAll (xs.map E.py) ≤ E.dep
  | [] => by simp [PyData.depthAll]
  | x :: xs => by
    have := depAll_map E xs
    have := E.dp x
    simp only [List.map_cons, PyData.depthAll]
    omega
theorem eqvAll_map (E : EncD α) : ∀ xs ys : List α, PyData.eqvAll (xs.map E.py) (ys.map E.py) = decide (xs = ys)
  | [], [] => by simp [PyData.eqvAll]
  | [], _ :: _ => by simp [PyData.eqvAll]
  | _ :: _, [] => by simp [PyData.eqvAll]
  | x :: xs, y :: ys => by
    simp only [List.map_cons, PyData.eqvAll, E.eqv, eqvAll_map E xs ys]
    by_cases h : x = y <;> by_cases g : xs = ys <;> simp [h, g]
def El (E : EncD α) : EncD (List α) := ⟨fun xs => .lst (xs.map E.enc), fun xs => .list (xs.map E.py), E.dep + 1, fun xs => by simp [D.py, pys_map], fun xs => by simp [PyData.canLay0, layAll_map], fun xs => by have := depAll_map E xs; simp only [PyData.depth]; omega, fun xs ys => by simp only [PyData.eqv, eqvAll_map]⟩
def E2 (A : EncD α) (B : EncD β) : EncD (α × β) := ⟨fun p => .tup [A.enc p.1, B.enc p.2], fun p => .tuple [A.py p.1, B.py p.2], max A.dep B.dep + 1, fun p => by simp [D.py, D.pys, A.is, B.is], fun p => by simp [PyData.canLay0, PyData.canLayAll0, A.lay, B.lay],
  fun p => by have := A.dp p.1; have := B.dp p.2; simp only [PyData.depth, PyData.depthAll]; omega, fun p q => by
    simp only [PyData.eqv, PyData.eqvAll, A.eqv, B.eqv]
    obtain ⟨a, b⟩ := p
    obtain ⟨c, d⟩ := q
    by_cases h : a = c <;> by_cases g : b = d <;> simp [h, g]⟩
def E3 (A : EncD α) (B : EncD β) (C : EncD γ) : EncD (α × β × γ) := ⟨fun p => .tup [A.enc p.1, B.enc p.2.1, C.enc p.2.2], fun p => .tuple [A.py p.1, B.py p.2.1, C.py p.2.2], max (max A.dep B.dep) C.dep + 1, fun p => by simp [D.py, D.pys, A.is, B.is, C.is], fun p => by simp [PyData.canLay0, PyData.canLayAll0, A.lay, B.lay, C.lay],
  fun p => by have := A.dp p.1; have := B.dp p.2.1; have := C.dp p.2.2; simp only [PyData.depth, PyData.depthAll]; omega, fun p q => by
    simp only [PyData.eqv, PyData.eqvAll, A.eqv, B.eqv, C.eqv]
    obtain ⟨a, b, c⟩ := p
    obtain ⟨a', b', c'⟩ := q
    by_cases h : a = a' <;> by_cases g : b = b' <;> by_cases k : c = c' <;> simp [h, g, k]⟩
def E4 (A : EncD α) (B : EncD β) (C : EncD γ) (M : EncD δ) : EncD (α × β × γ × δ) := ⟨fun p => .tup [A.enc p.1, B.enc p.2.1, C.enc p.2.2.1, M.enc p.2.2.2], fun p => .tuple [A.py p.1, B.py p.2.1, C.py p.2.2.1, M.py p.2.2.2], max (max A.dep B.dep) (max C.dep M.dep) + 1, fun p => by simp [D.py, D.pys, A.is, B.is, C.is, M.is], fun p => by simp [PyData.canLay0, PyData.canLayAll0, A.lay, B.lay, C.lay, M.lay],
  fun p => by have := A.dp p.1; have := B.dp p.2.1; have := C.dp p.2.2.1; have := M.dp p.2.2.2; simp only [PyData.depth, PyData.depthAll]; omega, fun p q => by
    simp only [PyData.eqv, PyData.eqvAll, A.eqv, B.eqv, C.eqv, M.eqv]
    obtain ⟨a, b, c, d⟩ := p
    obtain ⟨a', b', c', d'⟩ := q
    by_cases h : a = a' <;> by_cases g : b = b' <;> by_cases k : c = c' <;> by_cases l : d = d' <;> simp [h, g, k, l]⟩
end
theorem eqD_int {neg : Bool} (a b : Int) : eqD neg (.int a) (.int b) = some (.bl (if neg then !decide (a = b) else decide (a = b))) := Ei.eq (by decide) a b
theorem eqD_bl {neg : Bool} (a b : Bool) : eqD neg (.bl a) (.bl b) = some (.bl (if neg then !decide (a = b) else decide (a = b))) := Eb.eq (by decide) a b
theorem eqD_opt {neg : Bool} (a b : Option Int) : eqD neg (encO a) (encO b) = some (.bl (if neg then !decide (a = b) else decide (a = b))) := Eo.eq (by decide) a b
end L3

namespace L3
open PySem PySem.Spec L2
open PyProof.Rows hiding St
section
variable {X : Cx} {ct : Nat → Addr} {K : PySem.W.Frag} {n m k : Nat}
theorem IntsAre.of {ns : List Int} {us : List Value} (h : Vals (ns.map V.int) us) : IntsAre us ns := intsAre_of h
def intsD : List D → Option (List Int)
  | [] => some []
  | .int i :: ds => (intsD ds).bind fun ns => some (i :: ns)
  | _ => none
theorem intsD_some : ∀ {ds : List D} {ns : List Int}, intsD ds = some ns → ds = ns.map .int
  | [], _, e => by cases e; rfl
  | d :: ds, ns, e => by
    cases d with
    | int i =>
      obtain ⟨ms, h1, h2⟩ := bind1 (show (intsD ds).bind _ = _ from e)
      cases h2
      rw [intsD_some h1]; rfl
    | _ => cases e
theorem Pr.intV {F G : Hp} : ∀ {ns : List Int} {vs : List V}, Pr (Al K ct F G n) (ns.map .int) vs → vs = ns.map V.int
  | [], _, .nil => rfl
  | i :: ns, _, .cons h t => by rw [Pr.intV t, h.int]; rfl
def boolsD : List D → Option (List Bool)
  | [] => some []
  | .bl i :: ds => (boolsD ds).bind fun ns => some (i :: ns)
  | _ => none
def maxI : List Int → Option Int
  | [] => none
  | x :: xs => some (xs.foldl max x)
def minI : List Int → Option Int
  | [] => none
  | x :: xs => some (xs.foldl min x)
theorem foldl_max : ∀ (xs : List Int) (x : Int), (xs.foldl max x = x ∨ xs.foldl max x ∈ xs) ∧ x ≤ xs.foldl max x ∧ ∀ z ∈ xs, z ≤ xs.foldl max x
  | [], x => ⟨.inl rfl, Int.le_refl _, fun z h => by cases h⟩
  | y :: xs, x => by
    obtain ⟨h1, h2, h3⟩ := foldl_max xs (max x y)
    refine ⟨?_, by show x ≤ xs.foldl max (max x y); omega, fun z hz => ?_⟩
    · rcases h1 with h1 | h1
      · show xs.foldl max (max x y) = x ∨ xs.foldl max (max x y) ∈ y :: xs
        rw [h1]
        rcases Int.le_total x y with h | h
        · rw [Int.max_eq_right h]; exact .inr List.mem_cons_self
        · rw [Int.max_eq_left h]; exact .inl rfl
      · exact .inr (List.mem_cons_of_mem _ h1)
    · rcases List.mem_cons.mp hz with rfl | hz
      · show z ≤ xs.foldl max (max x z); omega
      · exact h3 z hz
theorem maxI_mem {ns : List Int} {M : Int} (h : maxI ns = some M) : M ∈ ns ∧ ∀ z ∈ ns, z ≤ M := by
  cases ns with
  | nil => cases h
  | cons x xs =>
    cases h
    obtain ⟨h1, h2, h3⟩ := foldl_max xs x
    refine ⟨?_, fun z hz => ?_⟩
    · rcases h1 with h1 | h1
      · rw [h1]; exact List.mem_cons_self
      · exact List.mem_cons_of_mem _ h1
    · rcases List.mem_cons.mp hz with rfl | hz
      · exact h2
      · exact h3 z hz
def sumD : List D → Option D
  | [.lst ds] => (intsD ds).bind fun ns => some (.int ns.sum)
  | _ => none
def maxD : List D → Option D
  | [.lst ds] => (intsD ds).bind fun ns => (maxI ns).bind fun M => some (.int M)
  | _ => none
def minD : List D → Option D
  | [.lst ds] => (intsD ds).bind fun ns => (minI ns).bind fun M => some (.int M)
  | _ => none
def allD : List D → Option D
  | [.lst ds] => (boolsD ds).bind fun bs => some (.bl (bs.all id))
  | _ => none
def insI (x : Int) : List Int → List Int
  | [] => [x]
  | y :: ys => if x ≤ y then x :: y :: ys else y :: insI x ys
def sortI : List Int → List Int
  | [] => []
  | x :: xs => insI x (sortI xs)
def sortD : List D → Option D
  | [.lst ds] => (intsD ds).bind fun ns => if ns.length < 64 then some (.lst ((sortI ns).map .int)) else none
  | _ => none
theorem lst_ints {F H : Hp} {vs : List V} {ds : List D} {ns : List Int} (s : Same F H) (l : AlL K ct F H [n] [.lst ds] vs) (e : intsD ds = some ns) : ∃ a, vs = [.ref a] ∧ SqL K H a (ns.map V.int) := by
  cases l with
  | cons h t =>
    cases t
    obtain ⟨a, us, rfl, ha, hp⟩ := h.lst s
    have := intsD_some e
    subst this
    have := hp.intV
    subst this
    exact ⟨a, rfl, ha⟩
end
end L3

namespace L3
open PySem PySem.Spec L2
open PyProof.Rows hiding St
def hid (H : Hp) (x : Addr) : Hp := fun b => if b = x then none else H b
def ISp (K : PySem.W.Frag) (ct : Nat → Addr) (cs : List Nat) (pm : List Nat) (mi : Nat → List D → Option D) : Sp := fun vs H Q _ => ∃ (F : Hp) (c : Nat) (ds : List D) (d : D) (x dx : Addr) (us : List V), c ∈ cs ∧ vs = .ref x :: us ∧ H x = some (.ins (ct c) dx []) ∧ F x = none ∧ Same F H ∧ AlL K ct F (hid H x) pm ds us ∧ mi c ds = some d ∧
  ∀ F' H', Same F F' → Same (hid H x) H' → Same F' H' → (∀ a o, hid H x a = some o → F a = none → F' a = none) → F' x = none → Ow K ct F' H' 1 d (.ref x) [x] → Q .non H'
theorem ISp.len {K : PySem.W.Frag} {ct : Nat → Addr} {cs pm : List Nat} {mi : Nat → List D → Option D} {ps : List Str} (h : pm.length + 1 = ps.length) : ∀ vs H Q E, ISp K ct cs pm mi vs H Q E → vs.length = ps.length := by
  rintro vs H Q E ⟨F, c, ds, d, x, dx, us, _, rfl, _, _, _, l, _⟩
  rw [List.length_cons, l.length, h]
def iOf (N : List Str) (b : SF) (c : Nat) (ds : List D) : Option D := (b (some (.obj c [] []) :: startD N.tail ds)).bind fun o => match o with
  | .nx ρ => (ρ[0]?).join
  | _ => none
section
variable {X : Cx} {ct : Nat → Addr} {ms : List Mo} {rk n m k : Nat} {a b c e tg : Expr} {f g h : EF} {u w : SF} {pos : Pos}
end
end L3

namespace L3
open PySem PySem.Spec L2
open PyProof.Rows hiding St
section
variable {X : Cx} {ct : Nat → Addr} {ms : List Mo} {rk n m k : Nat} {a b c e tg : Expr} {f g h : EF} {u w : SF} {pos : Pos} {x0 : Addr}
def sFldD (cs : List Nat) (x : Str) (f : EF) : SF := fun ρ => (f ρ).bind fun d => (eV 0 ρ).bind fun o => match o with
  | .obj c ns ds => if cs.contains c = true ∧ ns.contains x = false ∧ ns.length < 900 then some (.nx (ρ.set 0 (some (.obj c (ns ++ [x]) (ds ++ [d]))))) else none
  | _ => none
theorem RS.self {K : PySem.W.Frag} {F0 B F H F' H' : Hp} {ρ : Env} {σ : St} {d : D} (rs : RS K ct F0 B (.so x0 :: ms) F H ρ σ) (hd : ρ[0]? = some (some d)) : σ[0]? = some (some (.ref x0)) ∧ Ow K ct F H 1 d (.ref x0) [x0] ∧ B x0 = none ∧
    ∀ (F' H' : Hp) (d' : D), Same F F' → Same B H' → Same F' H' → (∀ a o, B a = some o → F0 a = none → F' a = none) → (∀ a o, H a = some o → a ≠ x0 → H' a = some o) → (∀ a o, H a = some o → a ≠ x0 → F a = none → F' a = none) → Ow K ct F' H' 1 d' (.ref x0) [x0] → RS K ct F0 B (.so x0 :: ms) F' H' (ρ.set 0 (some d')) σ := by
  obtain ⟨fp, sl, nd, hb⟩ := rs.sl
  cases sl with
  | no _ => simp at hd
  | so ow t =>
    simp at hd
    subst hd
    refine ⟨rfl, ow, hb _ List.mem_cons_self, fun F' H' d' s1 s2 s3 s4 k1 k2 o' => ⟨rs.f0.trans s1, s2, s3, s4, _, .so o' (t.frame s1 fun a z => ?_), nd, hb⟩⟩
    obtain ⟨hn, o, ho⟩ := t.cells a z
    have ne : a ≠ x0 := fun e => (List.nodup_cons.mp nd).1 (by rw [← e]; exact z)
    exact ⟨(k1 a o ho ne).trans ho.symm, k2 a o ho ne hn⟩
variable {kk : Nat} {fa : Addr} {fd : FuncData} {ps : List Str} {pm cs : List Nat} {mi : Nat → List D → Option D} {x : Str} {pp : Pos}
def sInitD (cs : List Nat) (fs : Env → Option (List D)) (mi : Nat → List D → Option D) : SF := fun ρ => (eV 0 ρ).bind fun o => (fs ρ).bind fun ds => match o with
  | .obj c [] [] => if cs.contains c = true then (mi c ds).bind fun d => some (.nx (ρ.set 0 (some d))) else none
  | _ => none
end
end L3

namespace L3
open PySem PySem.Spec L2
open PyProof.Rows hiding St
structure Dn2 (K : PySem.W.Frag) (mg : Str → Option Value) (x : Str) (st : Stmt) (ps : List Str) (f : Addr) (fd : FuncData) : Prop where
  fn : Fun2 K x x st f fd
  mgx : mg x = some (.ref f)
  bd : Binds K fd ps []
structure Dm (K : PySem.W.Frag) (C : Addr) (m qual : Str) (st : Stmt) (ps : List Str) (f : Addr) (fd : FuncData) : Prop where
  fn : Fun2 K m qual st f fd
  me : Meth K C m f
  bd : Binds K fd ps []
structure Dc (K : PySem.W.Frag) (mg : Str → Option Value) (x : Str) (C : Addr) : Prop where
  cl : Cls K C
  mgx : mg x = some (.ref C)
  mks : PySem.W.makesIn K C = true
  kp : PySem.W.keepIn K (.ref C) = true
structure Dq (K : PySem.W.Frag) (C : Addr) (m : Str) (f : Addr) : Prop where
  sp : PySem.W.specialIn K (.ref C) "__getattribute__" = some (some (.builtin "type.__getattribute__"))
  rd : PySem.W.readsIn K C (.type "type") = true
  fc : PySem.W.findCls K (.ref C) (.type "type") m = some (.val (.ref f))
theorem fun2_mk {K : PySem.W.Frag} {x qual : Str} {st : Stmt} {f : Addr} {oc : Value} {od an : Option Addr} {osl : Array (Option Value)} {dV kV doc pm cdv ct : Value} (l : K.lookup f = some ⟨oc, od, .func (PySem.W.fnOf x qual (defArgs st) (defBody st) (defScope st) dV kV doc pm an cdv ct), osl⟩)
    (c : PySem.W.codeIn K cdv qual = true) (k : PySem.W.keepIn K (.ref f) = true) : Fun2 K x qual st f (PySem.W.fnOf x qual (defArgs st) (defBody st) (defScope st) dV kV doc pm an cdv ct) := ⟨⟨oc, od, dV, kV, doc, pm, an, cdv, ct, osl, rfl, l, c⟩, k⟩
end L3

namespace L3
open PySem PySem.Spec L2
open PyProof.Rows hiding St
def Its (x : Str) : It := ⟨fun i _ => ∃ c, x.cps[i]? = some c, fun i H v H' => H' = H ∧ ∃ c, x.cps[i]? = some c ∧ v = .str ⟨#[c]⟩, fun i _ => x.cps[i]? = none⟩
def iStr (tl : TE) : TI := fun σ H R => tl σ H fun x H1 => ∃ z, x = .str z ∧ R (Its z) H1
section
variable {X : Cx} {ct : Nat → Addr} {ms : List Mo} {rk n m k : Nat} {st : Stmt} {rest : List Stmt} {a b c e tg : Expr} {f g h : EF} {p q : BF} {u w : SF} {pos : Pos}
def signsD (x : Str) : List D := x.cps.toList.map fun c => .str ⟨#[c]⟩
def asS : D → Option (List D)
  | .str x => some (signsD x)
  | _ => none
end
end L3

namespace L3
open PySem PySem.Spec L2
open PyProof.Rows hiding St
section
variable {X : Cx} {ct : Nat → Addr} {ms : List Mo} {rk n m k : Nat} {st : Stmt} {rest : List Stmt} {a b c e tg : Expr} {f g h : EF} {p q : BF} {u w : SF} {pos : Pos}
def sPutD (i : Nat) (fj f : EF) : SF := fun ρ => (f ρ).bind fun d => (eV i ρ).bind fun o => (fj ρ).bind fun j => match o with
  | .dK ks ds => (keyD j).bind fun k => if ks.length < 16777216 then some (.nx (ρ.set i (some (.dK (putK' ks ds k d).1 (putK' ks ds k d).2)))) else none
  | .dT ks ds => (match j with
    | .tup js => (keysD js).bind fun k => if ks.length < 16777216 then some (.nx (ρ.set i (some (.dT (putK' ks ds k d).1 (putK' ks ds k d).2)))) else none
    | _ => none)
  | _ => none
def rGetL (K : PySem.W.Frag) : V → V → Hp → VK → Prop := fun o i H Q => ∃ p xs k v, o = .ref p ∧ i = .int k ∧ SqL K H p xs ∧ atI xs k = some v ∧ Q v H
def sAugL (i : Nat) (fj : EF) (gi : Int → Int → Int) (f : EF) : SF := fun ρ => (eV i ρ).bind fun o => (fj ρ).bind fun j => (f ρ).bind fun y => match o, j with
  | .lst ds, .int z => (atI ds z).bind fun x => (match x, y with
    | .int a, .int b => (setAt ds z (.int (gi a b))).bind fun ds' => some (.nx (ρ.set i (some (.lst ds'))))
    | _, _ => none)
  | _, _ => none
structure Ic (K : PySem.W.Frag) (C : Addr) : Prop where
  cl : Cls K C
  ha : PySem.W.findIn K (.ref C) "__class__" = some (some (.builtin "object.__class__"))
  hn : PySem.W.specialIn K (.builtin "object.__class__") "__get__" = some (some (.builtin "getset_descriptor.__get__"))
  ht : PySem.W.takesIn K (.builtin "object.__class__") = some true
  hm : PySem.W.mroIn K C (.type "object") = some true
def isiC (all sub : List Nat) : D → Option D
  | .obj c _ _ => if all.contains c = true then some (.bl (sub.contains c)) else none
  | _ => none
end
end L3

namespace L3
open PySem PySem.Spec L2
section
variable {K : PySem.W.Frag} {ct : Nat → Addr} {n m k : Nat}
def itx (i : Int) : Str := ((toString i : String) : Str)
def strD : List D → Option D
  | [.int i] => if i.natAbs.log2 < 1920 then some (.str (itx i)) else none
  | _ => none
end
def Es : EncD {x : Str // PyData.strOk x = true} := ⟨fun x => .str x.1, fun x => .str x.1, 0, fun _ => by simp [D.py], fun x => by simp only [PyData.canLay0]; exact x.2, fun _ => by simp [PyData.depth], fun x y => by
  show (x.1 == y.1) = _
  by_cases h : x = y
  · subst h; simp
  · have : x.1 ≠ y.1 := fun z => h (Subtype.ext z)
    simp [h, this]⟩
end L3

namespace PySem
section
variable {prog : Program} {w : World} {A : Around} {R : Result → Shared → Prop} {I : Addr} {fp wr : List Addr} {n : Nat} {P : Nat → Value → Prop} {St : Nat → Heap → Prop} {kw : List (Str × Value)}
theorem maxD_go (W : Walks prog w A.in1 I fp wr n P St) (bt : Nat → Nat → Bool) (hcmp : CmpOf prog w A.in1 .Gt P bt) (S : Addr) (hSf : S ∉ fp) :
    ∀ (k j : Nat) (s : Shared) (vb : Value) (c : Nat), n - (j + 1) = k → j + 1 ≤ n → St (j + 1) s.heap → P (argBest bt j) vb →
    s.heap.get? S = some { cls := .type "list", dict := none, data := .seq #[vb, vb] c, slots := #[] } →
    (∀ v h' tk, P (argBest bt (n - 1)) v → (∀ b o, b ∉ wr → b ≠ S → s.heap.get? b = some o → h'.get? b = some o) → R (.ok (.ret v)) { s with heap := h', toks := tk }) →
    codeAny (model prog w) A (.builtin "max.loop" ⟨[.ref I, .none, .ref S], kw⟩) R s := by
  have hSw : S ∉ wr := fun h => hSf (W.sub _ h)
  have hname : (toString "max" ++ toString ".loop" : String) = "max.loop" := by decide
  intro k
  induction k with
  | zero =>
    intro j s vb c hk hj hst hPb hS hR
    have hin : j + 1 = n := by omega
    refine codeAny_builtin F.entry_max_loop ?_
    rw [Around.under_plainId F.plain_max_loop _]
    show wpAny _ A.in1 (seqItems? (.ref S) >>= _) _ _ s
    refine wpAny_bind (wpAny_seqItems hS rfl ?_)
    show wpAny _ A.in1 (tryCatch (pyNext (.ref I)) _ >>= _) _ _ s
    refine wpAny_bind (wpAny_tryCatch (W.done s _ _ (hin ▸ hst) fun h' tk hk' => ?_))
    show wpAny _ A.in1 (updateSeq S (fun _ => #[]) >>= _) _ _ _
    refine wpAny_bind (wpAny_updateSeq (hk' S _ hSw hS) rfl (wpAny_bind (wpAny_letGo (wpAny_pure ?_))))
    exact hR vb _ tk (by rw [← hin]; exact hPb) fun b o hbw hbS e => (Heap.get?_update_other _ _ (Ne.symm hbS)).trans (hk' b o hbw e)
  | succ k ih =>
    intro j s vb c hk hj hst hPb hS hR
    refine codeAny_builtin F.entry_max_loop ?_
    rw [Around.under_plainId F.plain_max_loop _]
    show wpAny _ A.in1 (seqItems? (.ref S) >>= _) _ _ s
    refine wpAny_bind (wpAny_seqItems hS rfl ?_)
    show wpAny _ A.in1 (tryCatch (pyNext (.ref I)) _ >>= _) _ _ s
    refine wpAny_bind (wpAny_tryCatch (W.item (j + 1) s _ _ (by omega) hst fun v h' tk hP hst' hk' => ?_))
    have hS' := hk' S _ hSw hS
    show wpAny _ A.in1 (tryCatch (holding [v, v] (richCompare .Gt v vb >>= _)) _ >>= _) _ _ _
    refine wpAny_bind (wpAny_tryCatch (wpAny_holding (wpAny_bind (hcmp (j + 1) (argBest bt j) v vb _ _ _ hP hPb ?_))))
    refine wpAny_bind (wpAny_holding (wpAny_truthy_bool (wpAny_bind (wpAny_letGo (wpAny_pure ?_)))))
    cases hb : bt (j + 1) (argBest bt j) with
    | true =>
      simp only [if_true]
      refine wpAny_bind (wpAny_updateSeq hS' rfl (wpAny_bind (wpAny_letGo ?_)))
      rw [hname]
      refine wpAny_pure ⟨plainId_quiet F.plain_max_loop _, ih (j + 1) _ v _ (by omega) (by omega) (W.frame _ _ _ hst' fun b hbf o e => (Heap.get?_update_other _ _ (fun h : S = b => hSf (by rw [h]; exact hbf))).trans e) (by simp only [argBest, hb, if_true]; exact hP) (Heap.get?_update_self _ hS' rfl)
        fun v' h'' tk'' hP' hk'' => hR v' h'' tk'' hP' fun b o hbw hbS e => hk'' b o hbw hbS ((Heap.get?_update_other _ _ (Ne.symm hbS)).trans (hk' b o hbw e))⟩
    | false =>
      simp only [Bool.false_eq_true, if_false]
      refine wpAny_bind (wpAny_letGo ?_)
      rw [hname]
      exact wpAny_pure ⟨plainId_quiet F.plain_max_loop _, ih (j + 1) _ vb c (by omega) (by omega) hst' (by simp only [argBest, hb, Bool.false_eq_true, if_false]; exact hPb) hS' fun v' h'' tk'' hP' hk'' => hR v' h'' tk'' hP' fun b o hbw hbS e => hk'' b o hbw hbS (hk' b o hbw e)⟩
theorem maxD_loop {dk : Str} {d : Value} (W : Walks prog w A.in1 I fp wr n P St) (bt : Nat → Nat → Bool) (hcmp : CmpOf prog w A.in1 .Gt P bt) (S : Addr) (hSf : S ∉ fp) {s : Shared} {c : Nat} (hst : St 0 s.heap)
    (hS : s.heap.get? S = some { cls := .type "list", dict := none, data := .seq #[] c, slots := #[] })
    (hR : ∀ v h' tk, (if n = 0 then v = d else P (argBest bt (n - 1)) v) → (∀ b o, b ∉ wr → b ≠ S → s.heap.get? b = some o → h'.get? b = some o) → R (.ok (.ret v)) { s with heap := h', toks := tk }) :
    codeAny (model prog w) A (.builtin "max.loop" ⟨[.ref I, .none, .ref S], [(dk, d)]⟩) R s := by
  have hSw : S ∉ wr := fun h => hSf (W.sub _ h)
  have hname : (toString "max" ++ toString ".loop" : String) = "max.loop" := by decide
  refine codeAny_builtin F.entry_max_loop ?_
  rw [Around.under_plainId F.plain_max_loop _]
  show wpAny _ A.in1 (seqItems? (.ref S) >>= _) _ _ s
  refine wpAny_bind (wpAny_seqItems hS rfl ?_)
  show wpAny _ A.in1 (tryCatch (pyNext (.ref I)) _ >>= _) _ _ s
  by_cases hn : n = 0
  · subst hn
    refine wpAny_bind (wpAny_tryCatch (W.done s _ _ hst fun h' tk hk' => ?_))
    have hd := hR d h' tk rfl fun b o hbw _ e => hk' b o hbw e
    refine wpAny_bind ?_
    first | exact wpAny_pure (wpAny_pure hd) | exact wpAny_rule (wpAny_pure hd)
  · refine wpAny_bind (wpAny_tryCatch (W.item 0 s _ _ (by omega) hst fun v h' tk hP hst' hk' => ?_))
    have hS' := hk' S _ hSw hS
    show wpAny _ A.in1 (updateSeq S (fun _ => #[v, v]) >>= _) _ _ _
    refine wpAny_bind (wpAny_updateSeq hS' rfl ?_)
    rw [hname]
    refine wpAny_pure ⟨plainId_quiet F.plain_max_loop _, maxD_go W bt hcmp S hSf _ 0 _ v _ rfl (by omega) (W.frame _ _ _ hst' fun b hbf o e => (Heap.get?_update_other _ _ (fun h : S = b => hSf (by rw [h]; exact hbf))).trans e) hP (Heap.get?_update_self _ hS' rfl) fun v' h'' tk'' hP' hk'' => ?_⟩
    exact hR v' h'' tk'' (by rw [if_neg hn]; exact hP') fun b o hbw hbS e => hk'' b o hbw hbS ((Heap.get?_update_other _ _ (Ne.symm hbS)).trans (hk' b o hbw e))
end
section
variable {prog : Program} {w : World} {A : Around} {E : Value → Shared → Prop} {s : Shared}
theorem tree_kw {id : String} {b : Builtin} {args : List Value} {kw : List (Str × Value)} {Q : Value → Shared → Prop} (hk : builtinKind id = none) (hp : plainId id = true)
    (hb : entryFor table id = some b) (ha : argsOk id ⟨args, kw⟩)
    (hc : wpAny (model prog w) A.in1 (b ⟨args, kw⟩) (fun fin s' => match fin with
      | .done f => (match (Except.ok f : Result) with | .ok (.ret v) => Q v s' | .ok _ => False | .error e => E e s')
      | .again c' => c'.quiet = true ∧ codeAny (model prog w) A c' (fun r s' => match r with | .ok (.ret v) => Q v s' | .ok _ => False | .error e => E e s') s') E s) :
    wpAny (model prog w) A (call (.builtin id) args kw) Q E s := by
  refine wpAny_call (codeAny_call_builtin hp hb ?_)
  simp only [checkBuiltinCall, hk]
  cases hsig : Manifest.signature? id with
  | none => exact wpAny_pure hc
  | some sig =>
    have ha' : Bind.checkArgs id sig ⟨args, kw⟩ = pure () := by simpa only [argsOk, hsig] using ha
    simp only [ha']
    exact wpAny_pure hc
theorem maxD_call {x d : Value} {Q : Value → Shared → Prop}
    (h : wpAny (model prog w) A.in1 (pyIter x) (fun it s₂ => ∃ I fp wr n P St bt, it = .ref I ∧ Walks prog w A.in1 I fp wr n P St ∧ St 0 s₂.heap ∧ (∀ b ∈ fp, b < s₂.heap.objs.size) ∧ CmpOf prog w A.in1 .Gt P bt ∧
      ∀ v h' tk, (if n = 0 then v = d else P (argBest bt (n - 1)) v) → (∀ b o, b ∉ wr → s₂.heap.get? b = some o → h'.get? b = some o) → Q v { s₂ with heap := h', toks := tk }) E s) :
    wpAny (model prog w) A (call (.builtin "max") [x] [("default", d)]) Q E s := by
  have hname : (toString "max" ++ toString ".loop" : String) = "max.loop" := by decide
  refine tree_kw F.kind_max F.plain_max F.entry_max (by unfold argsOk; kernel_rfl) ?_
  show wpAny _ A.in1 (Builtin.Builtins.bindParams "max" ["key", "default"] 0 ⟨[], [("default", d)]⟩ >>= _) _ _ s
  refine wpAny_bind (wpAny_of_eq (show Builtin.Builtins.bindParams "max" ["key", "default"] 0 ⟨[], [("default", d)]⟩ = pure [none, some d] from rfl) ?_)
  refine wpAny_bind (wpAny_pure ?_)
  refine wpAny_bind (wpAny_mono h (fun it s₂ h₂ => ?_) fun _ _ e => e)
  obtain ⟨I, fp, wr, n, P, St, bt, rfl, W, hst, hfp, hcmp, hQ⟩ := h₂
  refine wpAny_bind (wpAny_newObj_type ?_)
  have hSf : s₂.heap.objs.size ∉ fp := fun hm => Nat.lt_irrefl _ (hfp _ hm)
  rw [hname]
  refine wpAny_pure ⟨plainId_quiet F.plain_max_loop _, maxD_loop W bt hcmp s₂.heap.objs.size hSf (W.frame _ _ _ hst fun b _ o e => Heap.get?_push_of_some _ e) (Heap.get?_push_size _ rfl) fun v h' tk hP hk => ?_⟩
  exact hQ v h' tk hP fun b o hbw e => hk b o hbw (Nat.ne_of_lt (Heap.lt_size e)) (Heap.get?_push_of_some _ e)
end
end PySem

namespace L3
open PySem PySem.Spec L2
section
variable {X : Cx} {ct : Nat → Addr} {ms : List Mo} {e b : Expr} {f g : EF} {n m k : Nat}
def rMaxD (K : PySem.W.Frag) : R2 := fun x y H Q => ∃ (a : Addr) (ns : List Int), x = .ref a ∧ SqL K H a (ns.map V.int) ∧ (ns = [] → Q y H) ∧ ∀ M, M ∈ ns → (∀ z ∈ ns, z ≤ M) → Q (.int M) H
theorem pe_maxD {ta tb : TE} {p pos kp : Pos} (hc : X.calm = true) (hg : Gl X "max") (hm : X.mg "max" = none) (ha : PE X e ta) (hb : PE X b tb) (he : starEach [e] X.env = (false, eval e X.env) :: starEach [] X.env := by rfl) : PE X (.Call (.Name "max" p) [e] [⟨some "default", b, kp⟩] pos) (tOp (rMaxD X.K) ta tb) := by
  intro pins s σ H Q I h
  refine wpAny_Call_Name_kw (ld_blt (u := .builtin "max") I hg hm bt_max ?_ (by decide) (by decide))
  refine PyProof.Rows.callWith_kw (thn ((pa_cons ha pa_nil he) pos pins s σ H (fun vs H1 => match vs with | [x] => tb σ H1 fun y H2 => rMaxD X.K x y H2 Q | _ => False) I ?_) fun us s1 ⟨vs, H1, I1, r, q⟩ => ?_) (by rw [he]; rfl) (by rw [he]; rfl)
  · exact h
  · match vs, q with
    | [x], q =>
      obtain ⟨u, rfl, ru⟩ := r.one
      refine thn ((pk_cons (nm := some "default") (kpos := kp) hb pk_nil) pos pins s1 σ H1 (fun vs H1 => match vs with | [y] => rMaxD X.K x y H1 Q | _ => False) I1 q) fun us s2 ⟨vs, H2, I2, r2, q2⟩ => ?_
      match vs, q2 with
      | [y], q2 =>
        obtain ⟨z, rfl, rz⟩ := r2.one
        obtain ⟨a, ns, rfl, hq, q0, q1⟩ := q2
        cases (show u = Value.ref a from ru)
        obtain ⟨its, rv, pl, hz⟩ := I2.list hq
        have hi := IntsAre.of rv
        obtain ⟨ys, ey⟩ := hi.allInts.items
        have hns : ns = ys.toList.map (·.1) := by rw [← hi.numsOf, ← nums_intItems, ← ey]
        have hl' : s2.heap.IsList a (intItems ys) := ey ▸ pl.isList
        refine maxD_call (iter_intList hl' fun s₃ e3 st hfp hlI => ?_)
        subst e3
        refine ⟨_, _, _, _, _, _, _, rfl, Walks.list (A := X.A.in1) (I2.ok.hd hc) _ a hlI (intItems ys), st, hfp, CmpOf.ints_gt (numAt ys) (fun _ _ => intItems_at), fun v h' tk hP hk => ?_⟩
        have hk := old_kept hk
        have hlen : ns.length = ys.size := by rw [hns, List.length_map, Array.length_toList]
        by_cases h0 : (intItems ys).size = 0
        · rw [if_pos h0] at hP
          subst hP
          have : ns = [] := List.eq_nil_of_length_eq_zero (by rw [hlen]; simpa [intItems] using h0)
          exact ⟨y, H2, I2.kept (t' := tk) hk, rz, q0 this⟩
        · rw [if_neg h0] at hP
          have h0 : 0 < ys.size := by simp [intItems] at h0; exact Array.size_pos_iff.mpr h0
          rw [show (intItems ys).size = ys.size by simp [intItems]] at hP
          obtain ⟨t, rfl⟩ := intItems_at hP
          obtain ⟨h1, h2⟩ := argBest_gt (numAt ys) (ys.size - 1)
          refine ⟨.int (numAt ys (argBest (fun i j => decide (numAt ys i > numAt ys j)) (ys.size - 1))), H2, I2.kept (t' := tk) hk, ⟨_, rfl⟩, q1 _ ?_ fun z hz => ?_⟩
          · rw [hns, numAt_eq]; exact getD_mem (by rw [List.length_map, Array.length_toList]; omega)
          · rw [hns] at hz
            obtain ⟨j, hj, rfl⟩ := mem_getD hz
            rw [List.length_map, Array.length_toList] at hj
            rw [← numAt_eq]; exact h2 j (by omega)
def maxDD : D → D → Option D
  | .lst ds, z => if z.sc = true then (intsD ds).bind fun ns => match ns with | [] => some z | _ => (maxI ns).bind fun M => some (.int M) else none
  | _, _ => none
theorem op2_maxD {K : PySem.W.Frag} : Op2 K ct n m k (rMaxD K) maxDD := by
  intro F H x y d1 d2 d Q s l1 l2 e w
  cases d1 with
  | lst xs =>
    unfold maxDD at e
    dsimp only at e
    by_cases hz : d2.sc = true
    · rw [if_pos hz] at e
      obtain ⟨ns, h1, h2⟩ := bind1 e
      obtain ⟨a, h3, ha⟩ := lst_ints s (.cons l1 .nil : AlL K ct F H [n] [.lst xs] [x]) h1
      cases h3
      refine ⟨a, ns, rfl, ha, fun h0 => ?_, fun M h5 h6 => ?_⟩
      · subst h0
        cases h2
        exact w _ F H (.refl s) (Al.of (l2.scal hz))
      · cases ns with
        | nil => cases h5
        | cons n0 ns =>
          obtain ⟨M', h3, h4⟩ := bind1 h2
          cases h4
          obtain ⟨m1, m2⟩ := maxI_mem h3
          have : M' = M := Int.le_antisymm (h6 M' m1) (m2 M h5)
          subst this
          exact w _ F H (.refl s) (Al.of (.int _))
    · rw [if_neg hz] at e; cases e
  | _ => cases e
theorem xe_maxD {p pos kp : Pos} (hc : X.calm = true) (hg : Gl X "max") (hm : X.mg "max" = none) (ha : XE X ct ms n e f) (hb : XE X ct ms m b g) (he : starEach [e] X.env = (false, eval e X.env) :: starEach [] X.env := by rfl) : XE X ct ms k (.Call (.Name "max" p) [e] [⟨some "default", b, kp⟩] pos) (e2 maxDD f g) := by
  obtain ⟨ta, tb, pa, pb, q⟩ := ha.bin hb
  refine ⟨_, pe_maxD hc hg hm pa pb he, fun F0 B F H ρ σ d Q rs e w => ?_⟩
  obtain ⟨d1, d2, h1, h2, h3⟩ := bind2 e
  exact q F0 B F H ρ σ d1 d2 _ rs h1 h2 fun x y F' H' x1 l1 l2 => op2_maxD F' H' x y d1 d2 d Q x1.fh l1 l2 h3 fun v F2 H2 x2 l => w v F2 H2 (x1.trans x2) l
end
end L3

namespace Fq
def dv (t b : Int) : Int := if b < 0 then -((Int.gcd t b : Nat) : Int) else ((Int.gcd t b : Nat) : Int)
def mk (t b : Int) : Int × Int := (t.fdiv (dv t b), b.fdiv (dv t b))
structure Low (q : Int × Int) : Prop where
  pos : 1 ≤ q.2
  cop : Int.gcd q.1 q.2 = 1
def plus (p q : Int × Int) : Int × Int := mk (p.1 * q.2 + q.1 * p.2) (p.2 * q.2)
def scaled (p : Int × Int) (n : Int) : Int × Int := mk (p.1 * n) p.2
def minus (p q : Int × Int) : Int × Int := plus p (scaled q (-1))
def under (p q : Int × Int) : Bool := decide (p.1 * q.2 < q.1 * p.2)
theorem Low.ne {q : Int × Int} (h : Low q) : q.2 ≠ 0 := by have := h.pos; omega
end Fq

-- BODY
set_option maxHeartbeats 4000000
namespace My
open PySem L2 L3
def top (i : Nat) : Stmt := PySem.Challenge.pw_ringbeat_k05_never.main.body.getD i (.Pass ⟨0, 0, 0, 0⟩)
abbrev s_later : Stmt := top 1
abbrev s_latest : Stmt := top 2
abbrev s_law_time : Stmt := top 4
abbrev s_law_alike : Stmt := top 5
abbrev s_law_sum : Stmt := top 6
abbrev s_law_greater : Stmt := top 7
abbrev s_law : Stmt := top 8
theorem sc_later : FnScope ["when", "more"] ["when", "more"] (defScope s_later) := ⟨rfl, rfl, rfl, by decide +kernel, rfl, by decide +kernel, by decide +kernel⟩
theorem sc_latest : FnScope ["one", "other"] ["one", "other"] (defScope s_latest) := ⟨rfl, rfl, rfl, by decide +kernel, rfl, by decide +kernel, by decide +kernel⟩
theorem sc_law_time : FnScope ["_law_cell"] ["_law_cell"] (defScope s_law_time) := ⟨rfl, rfl, rfl, by decide +kernel, rfl, by decide +kernel, by decide +kernel⟩
theorem sc_law_alike : FnScope ["_law_found", "_law_due"] ["_law_found", "_law_due"] (defScope s_law_alike) := ⟨rfl, rfl, rfl, by decide +kernel, rfl, by decide +kernel, by decide +kernel⟩
theorem sc_law_sum : FnScope ["_law_when", "_law_more"] ["_law_when", "_law_more"] (defScope s_law_sum) := ⟨rfl, rfl, rfl, by decide +kernel, rfl, by decide +kernel, by decide +kernel⟩
theorem sc_law_greater : FnScope ["_law_one", "_law_other"] ["_law_one", "_law_other"] (defScope s_law_greater) := ⟨rfl, rfl, rfl, by decide +kernel, rfl, by decide +kernel, by decide +kernel⟩
theorem sc_law : FnScope ["_law_script", "_law_cells", "_law_k", "_law_one", "_law_two", "_law_three", "_law_more"] ["_law_script"] (defScope s_law) := ⟨rfl, rfl, rfl, by decide +kernel, rfl, by decide +kernel, by decide +kernel⟩
structure Adr where
  f_later : Addr
  d_later : FuncData
  f_latest : Addr
  d_latest : FuncData
  f_law_time : Addr
  d_law_time : FuncData
  f_law_alike : Addr
  d_law_alike : FuncData
  f_law_sum : Addr
  d_law_sum : FuncData
  f_law_greater : Addr
  d_law_greater : FuncData
  f_law : Addr
  d_law : FuncData
structure Txt (K : PySem.W.Frag) (mg : Str → Option Value) (a : Adr) : Prop where
  later : Dn2 K mg "later" s_later ["when", "more"] a.f_later a.d_later
  latest : Dn2 K mg "latest" s_latest ["one", "other"] a.f_latest a.d_latest
  law_time : Dn2 K mg "_law_time" s_law_time ["_law_cell"] a.f_law_time a.d_law_time
  law_alike : Dn2 K mg "_law_alike" s_law_alike ["_law_found", "_law_due"] a.f_law_alike a.d_law_alike
  law_sum : Dn2 K mg "_law_sum" s_law_sum ["_law_when", "_law_more"] a.f_law_sum a.d_law_sum
  law_greater : Dn2 K mg "_law_greater" s_law_greater ["_law_one", "_law_other"] a.f_law_greater a.d_law_greater
  law : Dn2 K mg "law" s_law ["_law_script"] a.f_law a.d_law
  b_bool : mg "bool" = none
  b_int : mg "int" = none
  b_isinstance : mg "isinstance" = none
  b_len : mg "len" = none
  b_max : mg "max" = none
  b_range : mg "range" = none
section
variable {P : Program} {w : World} {K : PySem.W.Frag} {mg : Str → Option Value} {base : Heap} {a : Adr} {ct : Nat → Addr}
def m_later : List D → Option D := mOf ["when", "more"]
    (sSeq (sIf (tb (e2 (isD false) (eV 0) (eC .non))) (sRet (eC .non)) sSkip)
    (sRet (e2 addD (eV 0) (eV 1))))
theorem ok_later (T : Txt K mg a) : FnOk P w K mg base CX0 1 a.f_later a.d_later ["when", "more"] (LSp K ct [0, 0] 0 m_later) := by
  refine lift (ms := [.ow 0, .ow 0]) T.later.fn sc_later rfl rfl (by decide) (modes_of (by decide)) fun cdv A outer s H E hr => ?_
  exact (xss_cons (xs_if (xt_cmp (k := 0) op_is op2_is (xe_var 0 0) (xe_non (n := 0)) (nomark _)) (xss_one (xs_ret (XE.ow (xe_non (n := 0))))) xss_nil)
    (xss_one (xs_ret (XE.ow (XO.sh (n := 0) (xo_op op_addA (op2_add (n := 0) (m := 0) (by decide) (by decide)) (xe_var 0 0) (xe_var 1 0)))))))
def m_latest : List D → Option D := mOf ["one", "other"]
    (sSeq (sIf (tb (e2 (isD false) (eV 0) (eC .non))) (sRet (eV 1)) sSkip)
    (sSeq (sIf (tb (e2 (isD false) (eV 1) (eC .non))) (sRet (eV 0)) sSkip)
    (sRet (eN max2D (aCons (eV 0) (aCons (eV 1) aNil))))))
theorem ok_latest (T : Txt K mg a) : FnOk P w K mg base CX0 1 a.f_latest a.d_latest ["one", "other"] (LSp K ct [0, 0] 0 m_latest) := by
  refine lift (ms := [.ow 0, .ow 0]) T.latest.fn sc_latest rfl rfl (by decide) (modes_of (by decide)) fun cdv A outer s H E hr => ?_
  exact (xss_cons (xs_if (xt_cmp (k := 0) op_is op2_is (xe_var 0 0) (xe_non (n := 0)) (nomark _)) (xss_one (xs_ret (XE.ow (xe_var 1 0)))) xss_nil)
    (xss_cons (xs_if (xt_cmp (k := 0) op_is op2_is (xe_var 1 0) (xe_non (n := 0)) (nomark _)) (xss_one (xs_ret (XE.ow (xe_var 0 0)))) xss_nil)
    (xss_one (xs_ret (XE.ow (xe_callB (k := 0) (call_max2 rfl) opn_max2 rfl T.b_max bt_max (xa_cons (xe_var 0 0) (xa_cons (xe_var 1 0) xa_nil))))))))
def m_law_time : List D → Option D := mOf ["_law_cell"]
    (sSeq (sIf (tb (e2 (eqD false) (e2 modD (eV 0) (eC (.int 4))) (eC (.int 0)))) (sRet (eC .non)) sSkip)
    (sSeq (sIf (tb (e2 (eqD false) (e2 modD (eV 0) (eC (.int 4))) (eC (.int 1)))) (sRet (e2 subD (e2 modD (e2 fdivD (eV 0) (eC (.int 4))) (eC (.int 21))) (eC (.int 10)))) sSkip)
    (sSeq (sIf (tb (e2 (eqD false) (e2 modD (eV 0) (eC (.int 4))) (eC (.int 2)))) (sRet (e2 subD (e2 modD (e2 fdivD (eV 0) (eC (.int 4))) (e2 addD (e2 mulI (eC (.int 2)) (e2 powD (eC (.int 10)) (eC (.int 12)))) (eC (.int 1)))) (e2 powD (eC (.int 10)) (eC (.int 12))))) sSkip)
    (sRet (e2 subD (e2 modD (e2 fdivD (eV 0) (eC (.int 4))) (e2 addD (e2 mulI (eC (.int 2)) (e2 powD (eC (.int 10)) (eC (.int 59)))) (eC (.int 1)))) (e2 powD (eC (.int 10)) (eC (.int 59))))))))
theorem ok_law_time (T : Txt K mg a) : FnOk P w K mg base CX0 1 a.f_law_time a.d_law_time ["_law_cell"] (LSp K ct [0] 0 m_law_time) := by
  refine lift (ms := [.ow 0]) T.law_time.fn sc_law_time rfl rfl (by decide) (modes_of (by decide)) fun cdv A outer s H E hr => ?_
  exact (xss_cons (xs_if (xt_cmp (k := 0) (op_eqD hr.u64) op2_eq (xe_op (k := 0) op_modN op2_mod (xe_var 0 0) (xe_int (n := 0))) (xe_int (n := 0)) (nomark _)) (xss_one (xs_ret (XE.ow (xe_non (n := 0))))) xss_nil)
    (xss_cons (xs_if (xt_cmp (k := 0) (op_eqD hr.u64) op2_eq (xe_op (k := 0) op_modN op2_mod (xe_var 0 0) (xe_int (n := 0))) (xe_int (n := 0)) (nomark _)) (xss_one (xs_ret (XE.ow (xe_op (k := 0) op_sub op2_sub (xe_op (k := 0) op_modN op2_mod (xe_op (k := 0) op_fdivS op2_fdiv (xe_var 0 0) (xe_int (n := 0))) (xe_int (n := 0))) (xe_int (n := 0)))))) xss_nil)
    (xss_cons (xs_if (xt_cmp (k := 0) (op_eqD hr.u64) op2_eq (xe_op (k := 0) op_modN op2_mod (xe_var 0 0) (xe_int (n := 0))) (xe_int (n := 0)) (nomark _)) (xss_one (xs_ret (XE.ow (xe_op (k := 0) op_sub op2_sub (xe_op (k := 0) op_modN op2_mod (xe_op (k := 0) op_fdivS op2_fdiv (xe_var 0 0) (xe_int (n := 0))) (XO.sh (n := 0) (xo_op op_addA (op2_add (n := 0) (m := 0) (by decide) (by decide)) (xe_op (k := 0) op_mulS op2_mulI (xe_int (n := 0)) (xe_op (k := 0) op_pow op2_pow (xe_int (n := 0)) (xe_int (n := 0)))) (xe_int (n := 0))))) (xe_op (k := 0) op_pow op2_pow (xe_int (n := 0)) (xe_int (n := 0))))))) xss_nil)
    (xss_one (xs_ret (XE.ow (xe_op (k := 0) op_sub op2_sub (xe_op (k := 0) op_modN op2_mod (xe_op (k := 0) op_fdivS op2_fdiv (xe_var 0 0) (xe_int (n := 0))) (XO.sh (n := 0) (xo_op op_addA (op2_add (n := 0) (m := 0) (by decide) (by decide)) (xe_op (k := 0) op_mulS op2_mulI (xe_int (n := 0)) (xe_op (k := 0) op_pow op2_pow (xe_int (n := 0)) (xe_int (n := 0)))) (xe_int (n := 0))))) (xe_op (k := 0) op_pow op2_pow (xe_int (n := 0)) (xe_int (n := 0))))))))))
def m_law_alike : List D → Option D := mOf ["_law_found", "_law_due"]
    (sSeq (sIf (tb (e2 (isD false) (eV 1) (eC .non))) (sRet (e2 (isD false) (eV 0) (eC .non))) sSkip)
    (sRet (eB (bAnd (tb (e1 (isiD "int") (eV 0))) (bAnd (tb (eB (bNot (tb (e1 (isiD "bool") (eV 0)))))) (tb (e2 (eqD false) (eV 0) (eV 1))))))))
theorem ok_law_alike (T : Txt K mg a) : FnOk P w K mg base CX0 1 a.f_law_alike a.d_law_alike ["_law_found", "_law_due"] (LSp K ct [0, 0] 0 m_law_alike) := by
  refine lift (ms := [.ow 0, .ow 0]) T.law_alike.fn sc_law_alike rfl rfl (by decide) (modes_of (by decide)) fun cdv A outer s H E hr => ?_
  exact (xss_cons (xs_if (xt_cmp (k := 0) op_is op2_is (xe_var 1 0) (xe_non (n := 0)) (nomark _)) (xss_one (xs_ret (XE.ow (xe_cmp (k := 0) op_is op2_is (xe_var 0 0) (xe_non (n := 0)) (nomark _))))) xss_nil)
    (xss_one (xs_ret (XE.ow (xe_and (xe_isi (k := 0) (by decide) T.b_isinstance T.b_int bt_int (xe_var 0 0)) (xe_and (xe_not (k := 0) (xe_isi (k := 0) (by decide) T.b_isinstance T.b_bool bt_bool (xe_var 0 0))) (xe_one (k := 0) (xe_cmp (k := 0) (op_eqD hr.u64) op2_eq (xe_var 0 0) (xe_var 1 0) (nomark _)))))))))
def m_law_sum : List D → Option D := mOf ["_law_when", "_law_more"]
    (sSeq (sIf (tb (e2 (isD false) (eV 0) (eC .non))) (sRet (eC .non)) sSkip)
    (sRet (e2 addD (eV 0) (eV 1))))
theorem ok_law_sum (T : Txt K mg a) : FnOk P w K mg base CX0 1 a.f_law_sum a.d_law_sum ["_law_when", "_law_more"] (LSp K ct [0, 0] 0 m_law_sum) := by
  refine lift (ms := [.ow 0, .ow 0]) T.law_sum.fn sc_law_sum rfl rfl (by decide) (modes_of (by decide)) fun cdv A outer s H E hr => ?_
  exact (xss_cons (xs_if (xt_cmp (k := 0) op_is op2_is (xe_var 0 0) (xe_non (n := 0)) (nomark _)) (xss_one (xs_ret (XE.ow (xe_non (n := 0))))) xss_nil)
    (xss_one (xs_ret (XE.ow (XO.sh (n := 0) (xo_op op_addA (op2_add (n := 0) (m := 0) (by decide) (by decide)) (xe_var 0 0) (xe_var 1 0)))))))
def m_law_greater : List D → Option D := mOf ["_law_one", "_law_other"]
    (sRet (e2 maxDD (eComp (lsD (fun ρ => ((aCons (eV 0) (aCons (eV 1) aNil)) ρ).bind fun ds => some (.lst ds))) 1 [] (gV 0) (tb (e2 (isD true) (eV 0) (eC .non))) (eV 0)) (eC .non)))
theorem ok_law_greater (T : Txt K mg a) : FnOk P w K mg base CX0 1 a.f_law_greater a.d_law_greater ["_law_one", "_law_other"] (LSp K ct [0, 0] 0 m_law_greater) := by
  refine lift (ms := [.ow 0, .ow 0]) T.law_greater.fn sc_law_greater rfl rfl (by decide) (modes_of (by decide)) fun cdv A outer s H E hr => ?_
  exact (xss_one (xs_ret (XE.ow (xe_maxD (k := 0) rfl rfl T.b_max (XO.sh (n := 0) (xo_comp (N := ["_law_when"]) (om := [.ow 0]) (cap := []) (own := 1) (blk_of (by rfl)) rfl rfl (by decide) (xic_list (n := 0) (XO.sh (n := 0) (xo_lst (xao_cons (XE.ow (xe_var 0 0)) (xao_cons (XE.ow (xe_var 1 0)) xao_nil))))) (fun _ _ _ _ _ => (xgc_name (by decide) rfl (show List.Nodup (["_law_when"] : List Str) from by decide +kernel) rfl (Or.inl rfl))) (fun _ _ _ _ _ => (xts_one (xt_cmp (k := 0) op_isNot op2_isNot (xe_var 0 0) (xe_non (n := 0)) (nomark _)))) (fun _ _ _ _ _ => (XE.ow (xe_var 0 0))))) (xe_non (n := 0))))))
def b_law_1 : SF := (sSeq (sSet 3 (fun ρ => ((aCons (e2 ixD (eV 1) (eV 2)) aNil) ρ).bind fun ds => m_law_time (ds ++ [])))
    (sSeq (sSet 4 (fun ρ => ((aCons (e2 fdivD (e2 ixD (eV 1) (e2 subD (eV 2) (eC (.int 1)))) (eC (.int 3))) aNil) ρ).bind fun ds => m_law_time (ds ++ [])))
    (sSeq (sSet 5 (fun ρ => ((aCons (e2 fdivD (e2 ixD (eV 1) (e2 subD (eV 2) (eC (.int 2)))) (eC (.int 5))) aNil) ρ).bind fun ds => m_law_time (ds ++ [])))
    (sSeq (sSet 6 (e2 ixD (fun ρ => ((aCons (e2 subD (e2 modD (e2 fdivD (e2 ixD (eV 1) (eV 2)) (eC (.int 7))) (eC (.int 19))) (eC (.int 9))) (aCons (e2 subD (e2 modD (e2 fdivD (e2 ixD (eV 1) (eV 2)) (eC (.int 7))) (e2 addD (e2 mulI (eC (.int 2)) (e2 powD (eC (.int 10)) (eC (.int 50)))) (eC (.int 1)))) (e2 powD (eC (.int 10)) (eC (.int 50)))) aNil)) ρ).bind fun ds => some (.lst ds)) (e2 modD (e2 ixD (eV 1) (e2 subD (eV 2) (eC (.int 1)))) (eC (.int 2)))))
    (sSeq (sIf (bNot (tb (fun ρ => ((aCons (fun ρ => ((aCons (eV 3) (aCons (eV 6) aNil)) ρ).bind fun ds => m_later (ds ++ [])) (aCons (fun ρ => ((aCons (eV 3) (aCons (eV 6) aNil)) ρ).bind fun ds => m_law_sum (ds ++ [])) aNil)) ρ).bind fun ds => m_law_alike (ds ++ [])))) (sRet (eC (.bl false))) sSkip)
    (sSeq (sIf (bOr (bNot (tb (fun ρ => ((aCons (fun ρ => ((aCons (eV 3) (aCons (eV 4) aNil)) ρ).bind fun ds => m_latest (ds ++ [])) (aCons (fun ρ => ((aCons (eV 3) (aCons (eV 4) aNil)) ρ).bind fun ds => m_law_greater (ds ++ [])) aNil)) ρ).bind fun ds => m_law_alike (ds ++ [])))) (tb (e2 (eqD true) (fun ρ => ((aCons (eV 4) (aCons (eV 3) aNil)) ρ).bind fun ds => m_latest (ds ++ [])) (fun ρ => ((aCons (eV 3) (aCons (eV 4) aNil)) ρ).bind fun ds => m_latest (ds ++ []))))) (sRet (eC (.bl false))) sSkip)
    (sSeq (sIf (bOr (tb (e2 (eqD true) (fun ρ => ((aCons (fun ρ => ((aCons (eV 3) (aCons (eV 4) aNil)) ρ).bind fun ds => m_latest (ds ++ [])) (aCons (eV 5) aNil)) ρ).bind fun ds => m_latest (ds ++ [])) (fun ρ => ((aCons (eV 3) (aCons (fun ρ => ((aCons (eV 4) (aCons (eV 5) aNil)) ρ).bind fun ds => m_latest (ds ++ [])) aNil)) ρ).bind fun ds => m_latest (ds ++ [])))) (tb (e2 (eqD true) (fun ρ => ((aCons (eV 3) (aCons (eV 3) aNil)) ρ).bind fun ds => m_latest (ds ++ [])) (eV 3)))) (sRet (eC (.bl false))) sSkip)
    (sIf (tb (e2 (eqD true) (fun ρ => ((aCons (fun ρ => ((aCons (eV 3) (aCons (eV 4) aNil)) ρ).bind fun ds => m_latest (ds ++ [])) (aCons (eV 6) aNil)) ρ).bind fun ds => m_later (ds ++ [])) (fun ρ => ((aCons (fun ρ => ((aCons (eV 3) (aCons (eV 6) aNil)) ρ).bind fun ds => m_later (ds ++ [])) (aCons (fun ρ => ((aCons (eV 4) (aCons (eV 6) aNil)) ρ).bind fun ds => m_later (ds ++ [])) aNil)) ρ).bind fun ds => m_latest (ds ++ [])))) (sRet (eC (.bl false))) sSkip))))))))
def m_law : List D → Option D := mOf ["_law_script", "_law_cells", "_law_k", "_law_one", "_law_two", "_law_three", "_law_more"]
    (sSeq (sSet 1 (e2 addD (fun ρ => ((aCons (eC (.int 3)) (aCons (eC (.int 14)) aNil)) ρ).bind fun ds => some (.lst ds)) (fun ρ => ((eV 0) ρ).bind fun d => (pNo ρ).bind fun l => ((pInt (eC (.int 30))) ρ).bind fun h => sliceD d l h)))
    (sSeq (sFor (fun ρ => ((aCons (eN lenD (aCons (eV 1) aNil)) aNil) ρ).bind rng1) (gV 2) b_law_1)
    (sRet (eB (bAnd (tb (e2 (isD false) (fun ρ => ((aCons (eC .non) (aCons (eC .non) aNil)) ρ).bind fun ds => m_latest (ds ++ [])) (eC .non))) (tb (e2 (isD false) (fun ρ => ((aCons (eC .non) (aCons (eC (.int 5)) aNil)) ρ).bind fun ds => m_later (ds ++ [])) (eC .non))))))))
theorem ok_law (T : Txt K mg a) : FnOk P w K mg base CX0 2 a.f_law a.d_law ["_law_script"] (LSp K ct [0] 0 m_law) := by
  have G_law_time := ok_law_time (P := P) (w := w) (base := base) (ct := ct) T
  have G_law_alike := ok_law_alike (P := P) (w := w) (base := base) (ct := ct) T
  have G_later := ok_later (P := P) (w := w) (base := base) (ct := ct) T
  have G_latest := ok_latest (P := P) (w := w) (base := base) (ct := ct) T
  have G_law_sum := ok_law_sum (P := P) (w := w) (base := base) (ct := ct) T
  have G_law_greater := ok_law_greater (P := P) (w := w) (base := base) (ct := ct) T
  refine lift (ms := [.ow 0, .ow 0, .ow 0, .ow 0, .ow 0, .ow 0, .ow 0]) T.law.fn sc_law rfl rfl (by decide) (modes_of (by decide)) fun cdv A outer s H E hr => ?_
  exact (xss_cons (xs_set rfl sc_law.nd rfl (Or.inl rfl) (XE.ow (XO.sh (n := 0) (xo_op op_addA (op2_add (n := 0) (m := 0) (by decide) (by decide)) (XO.sh (n := 0) (xo_lst (xao_cons (XE.ow (xe_int (n := 0))) (xao_cons (XE.ow (xe_int (n := 0))) xao_nil)))) (XO.sh (n := 0) (xo_slice (n := 0) (by decide) (xe_var 0 0) xp_no (xp_some (xe_int (n := 0)))))))))
    (xss_cons (xs_for (xi_range1 (n := 0) T.b_range (xa_cons (xe_callB (k := 0) call_lenA opn_len rfl T.b_len bt_len (xa_cons (xe_var 1 0) xa_nil)) xa_nil)) (xg_name rfl sc_law.nd rfl (Or.inl rfl)) (xss_cons (xs_set rfl sc_law.nd rfl (Or.inl rfl) (xo_call (dds := []) (ns := [0]) (nd := []) G_law_time (hr.mono (by decide)) rfl T.law_time.mgx T.law_time.fn.kp T.law_time.bd .nil (fun _ _ => .nil) (xa_cons (xe_ix (n := 0) ix_seq op2_ix (xe_var 1 0) (xe_var 2 0) (fun _ _ => rfl)) xa_nil)))
    (xss_cons (xs_set rfl sc_law.nd rfl (Or.inl rfl) (xo_call (dds := []) (ns := [0]) (nd := []) G_law_time (hr.mono (by decide)) rfl T.law_time.mgx T.law_time.fn.kp T.law_time.bd .nil (fun _ _ => .nil) (xa_cons (xe_op (k := 0) op_fdivS op2_fdiv (xe_ix (n := 0) ix_seq op2_ix (xe_var 1 0) (xe_op (k := 0) op_sub op2_sub (xe_var 2 0) (xe_int (n := 0))) (fun _ _ => rfl)) (xe_int (n := 0))) xa_nil)))
    (xss_cons (xs_set rfl sc_law.nd rfl (Or.inl rfl) (xo_call (dds := []) (ns := [0]) (nd := []) G_law_time (hr.mono (by decide)) rfl T.law_time.mgx T.law_time.fn.kp T.law_time.bd .nil (fun _ _ => .nil) (xa_cons (xe_op (k := 0) op_fdivS op2_fdiv (xe_ix (n := 0) ix_seq op2_ix (xe_var 1 0) (xe_op (k := 0) op_sub op2_sub (xe_var 2 0) (xe_int (n := 0))) (fun _ _ => rfl)) (xe_int (n := 0))) xa_nil)))
    (xss_cons (xs_set rfl sc_law.nd rfl (Or.inl rfl) (XE.ow (xe_ix (n := 0) ix_seq op2_ix (XO.sh (n := 0) (xo_lst (xao_cons (XE.ow (xe_op (k := 0) op_sub op2_sub (xe_op (k := 0) op_modN op2_mod (xe_op (k := 0) op_fdivS op2_fdiv (xe_ix (n := 0) ix_seq op2_ix (xe_var 1 0) (xe_var 2 0) (fun _ _ => rfl)) (xe_int (n := 0))) (xe_int (n := 0))) (xe_int (n := 0)))) (xao_cons (XE.ow (xe_op (k := 0) op_sub op2_sub (xe_op (k := 0) op_modN op2_mod (xe_op (k := 0) op_fdivS op2_fdiv (xe_ix (n := 0) ix_seq op2_ix (xe_var 1 0) (xe_var 2 0) (fun _ _ => rfl)) (xe_int (n := 0))) (XO.sh (n := 0) (xo_op op_addA (op2_add (n := 0) (m := 0) (by decide) (by decide)) (xe_op (k := 0) op_mulS op2_mulI (xe_int (n := 0)) (xe_op (k := 0) op_pow op2_pow (xe_int (n := 0)) (xe_int (n := 0)))) (xe_int (n := 0))))) (xe_op (k := 0) op_pow op2_pow (xe_int (n := 0)) (xe_int (n := 0))))) xao_nil)))) (xe_op (k := 0) op_modN op2_mod (xe_ix (n := 0) ix_seq op2_ix (xe_var 1 0) (xe_op (k := 0) op_sub op2_sub (xe_var 2 0) (xe_int (n := 0))) (fun _ _ => rfl)) (xe_int (n := 0))) (fun _ _ => rfl))))
    (xss_cons (xs_if (xt_not (xt_val (XO.sh (n := 0) (xo_call (dds := []) (ns := [0, 0]) (nd := []) G_law_alike (hr.mono (by decide)) rfl T.law_alike.mgx T.law_alike.fn.kp T.law_alike.bd .nil (fun _ _ => .nil) (xa_cons (XO.sh (n := 0) (xo_call (dds := []) (ns := [0, 0]) (nd := []) G_later (hr.mono (by decide)) rfl T.later.mgx T.later.fn.kp T.later.bd .nil (fun _ _ => .nil) (xa_cons (xe_var 3 0) (xa_cons (xe_var 6 0) xa_nil)))) (xa_cons (XO.sh (n := 0) (xo_call (dds := []) (ns := [0, 0]) (nd := []) G_law_sum (hr.mono (by decide)) rfl T.law_sum.mgx T.law_sum.fn.kp T.law_sum.bd .nil (fun _ _ => .nil) (xa_cons (xe_var 3 0) (xa_cons (xe_var 6 0) xa_nil)))) xa_nil)))))) (xss_one (xs_ret (XE.ow (xe_bl (n := 0))))) xss_nil)
    (xss_cons (xs_if (XW.t (xw_or (xt_not (xt_val (XO.sh (n := 0) (xo_call (dds := []) (ns := [0, 0]) (nd := []) G_law_alike (hr.mono (by decide)) rfl T.law_alike.mgx T.law_alike.fn.kp T.law_alike.bd .nil (fun _ _ => .nil) (xa_cons (XO.sh (n := 0) (xo_call (dds := []) (ns := [0, 0]) (nd := []) G_latest (hr.mono (by decide)) rfl T.latest.mgx T.latest.fn.kp T.latest.bd .nil (fun _ _ => .nil) (xa_cons (xe_var 3 0) (xa_cons (xe_var 4 0) xa_nil)))) (xa_cons (XO.sh (n := 0) (xo_call (dds := []) (ns := [0, 0]) (nd := []) G_law_greater (hr.mono (by decide)) rfl T.law_greater.mgx T.law_greater.fn.kp T.law_greater.bd .nil (fun _ _ => .nil) (xa_cons (xe_var 3 0) (xa_cons (xe_var 4 0) xa_nil)))) xa_nil)))))) (xw_or1 (xt_cmp (k := 0) (op_neD hr.u64) op2_eq (XO.sh (n := 0) (xo_call (dds := []) (ns := [0, 0]) (nd := []) G_latest (hr.mono (by decide)) rfl T.latest.mgx T.latest.fn.kp T.latest.bd .nil (fun _ _ => .nil) (xa_cons (xe_var 4 0) (xa_cons (xe_var 3 0) xa_nil)))) (XO.sh (n := 0) (xo_call (dds := []) (ns := [0, 0]) (nd := []) G_latest (hr.mono (by decide)) rfl T.latest.mgx T.latest.fn.kp T.latest.bd .nil (fun _ _ => .nil) (xa_cons (xe_var 3 0) (xa_cons (xe_var 4 0) xa_nil)))) (nomark _))))) (xss_one (xs_ret (XE.ow (xe_bl (n := 0))))) xss_nil)
    (xss_cons (xs_if (XW.t (xw_or (xt_cmp (k := 0) (op_neD hr.u64) op2_eq (XO.sh (n := 0) (xo_call (dds := []) (ns := [0, 0]) (nd := []) G_latest (hr.mono (by decide)) rfl T.latest.mgx T.latest.fn.kp T.latest.bd .nil (fun _ _ => .nil) (xa_cons (XO.sh (n := 0) (xo_call (dds := []) (ns := [0, 0]) (nd := []) G_latest (hr.mono (by decide)) rfl T.latest.mgx T.latest.fn.kp T.latest.bd .nil (fun _ _ => .nil) (xa_cons (xe_var 3 0) (xa_cons (xe_var 4 0) xa_nil)))) (xa_cons (xe_var 5 0) xa_nil)))) (XO.sh (n := 0) (xo_call (dds := []) (ns := [0, 0]) (nd := []) G_latest (hr.mono (by decide)) rfl T.latest.mgx T.latest.fn.kp T.latest.bd .nil (fun _ _ => .nil) (xa_cons (xe_var 3 0) (xa_cons (XO.sh (n := 0) (xo_call (dds := []) (ns := [0, 0]) (nd := []) G_latest (hr.mono (by decide)) rfl T.latest.mgx T.latest.fn.kp T.latest.bd .nil (fun _ _ => .nil) (xa_cons (xe_var 4 0) (xa_cons (xe_var 5 0) xa_nil)))) xa_nil)))) (nomark _)) (xw_or1 (xt_cmp (k := 0) (op_neD hr.u64) op2_eq (XO.sh (n := 0) (xo_call (dds := []) (ns := [0, 0]) (nd := []) G_latest (hr.mono (by decide)) rfl T.latest.mgx T.latest.fn.kp T.latest.bd .nil (fun _ _ => .nil) (xa_cons (xe_var 3 0) (xa_cons (xe_var 3 0) xa_nil)))) (xe_var 3 0) (nomark _))))) (xss_one (xs_ret (XE.ow (xe_bl (n := 0))))) xss_nil)
    (xss_one (xs_if (xt_cmp (k := 0) (op_neD hr.u64) op2_eq (XO.sh (n := 0) (xo_call (dds := []) (ns := [0, 0]) (nd := []) G_later (hr.mono (by decide)) rfl T.later.mgx T.later.fn.kp T.later.bd .nil (fun _ _ => .nil) (xa_cons (XO.sh (n := 0) (xo_call (dds := []) (ns := [0, 0]) (nd := []) G_latest (hr.mono (by decide)) rfl T.latest.mgx T.latest.fn.kp T.latest.bd .nil (fun _ _ => .nil) (xa_cons (xe_var 3 0) (xa_cons (xe_var 4 0) xa_nil)))) (xa_cons (xe_var 6 0) xa_nil)))) (XO.sh (n := 0) (xo_call (dds := []) (ns := [0, 0]) (nd := []) G_latest (hr.mono (by decide)) rfl T.latest.mgx T.latest.fn.kp T.latest.bd .nil (fun _ _ => .nil) (xa_cons (XO.sh (n := 0) (xo_call (dds := []) (ns := [0, 0]) (nd := []) G_later (hr.mono (by decide)) rfl T.later.mgx T.later.fn.kp T.later.bd .nil (fun _ _ => .nil) (xa_cons (xe_var 3 0) (xa_cons (xe_var 6 0) xa_nil)))) (xa_cons (XO.sh (n := 0) (xo_call (dds := []) (ns := [0, 0]) (nd := []) G_later (hr.mono (by decide)) rfl T.later.mgx T.later.fn.kp T.later.bd .nil (fun _ _ => .nil) (xa_cons (xe_var 4 0) (xa_cons (xe_var 6 0) xa_nil)))) xa_nil)))) (nomark _)) (xss_one (xs_ret (XE.ow (xe_bl (n := 0))))) xss_nil))))))))) PassesOwn.never rfl)
    (xss_one (xs_ret (XE.ow (xe_and (xe_cmp (k := 0) op_is op2_is (XO.sh (n := 0) (xo_call (dds := []) (ns := [0, 0]) (nd := []) G_latest (hr.mono (by decide)) rfl T.latest.mgx T.latest.fn.kp T.latest.bd .nil (fun _ _ => .nil) (xa_cons (xe_non (n := 0)) (xa_cons (xe_non (n := 0)) xa_nil)))) (xe_non (n := 0)) (nomark _)) (xe_one (k := 0) (xe_cmp (k := 0) op_is op2_is (XO.sh (n := 0) (xo_call (dds := []) (ns := [0, 0]) (nd := []) G_later (hr.mono (by decide)) rfl T.later.mgx T.later.fn.kp T.later.bd .nil (fun _ _ => .nil) (xa_cons (xe_non (n := 0)) (xa_cons (xe_int (n := 0)) xa_nil)))) (xe_non (n := 0)) (nomark _)))))))))
end
local macro_rules | `(tactic| walk_at "mir") => `(tactic| simp -implicitDefEqProofs [mOf, startD, sSeq, sIf, sSet, sRet, sRetN, sDrop, sPar, sAsg, sApp, sFor, lsD, asL_lst, sSkip, eV, eC, e1, e2, eN, aNil, aCons, pNo, pInt, sliceD_lst, tb, asB_bl, bNot, bAnd, bOr, eB, eIf, gV, gT, gsCons, gsNil, addD_int, subD_int, ltD_int, leD_int, gtD_int, geD_int, lenD_lst, lenD_tup, negD_int, absD_int, isD_non, isD_bl, D.isN, D.isB, eqD_int, eqD_bl, fdivD_lit, modD_pos, mulI_l, mulI_r, powD_lit, shlD_lit, shrD_lit, sliceD_lst, max2D_int, min2D_int, *])

abbrev T := Option Int
def lt (m : Int) : T → T
  | none => none
  | some i => some (i + m)
def mx : T → T → T
  | none, b => b
  | a, none => a
  | some i, some j => some (if j > i then j else i)
theorem t_later (o : T) (m : Int) : m_later [encO o, .int m] = some (encO (lt m o)) := by
  unfold m_later
  cases o <;> simp only [encO, lt] <;> walk_at "mir"
theorem t_sum (o : T) (m : Int) : m_law_sum [encO o, .int m] = some (encO (lt m o)) := by
  unfold m_law_sum
  cases o <;> simp only [encO, lt] <;> walk_at "mir"
theorem t_latest (a b : T) : m_latest [encO a, encO b] = some (encO (mx a b)) := by
  unfold m_latest
  cases a <;> cases b <;> simp only [encO, mx] <;> walk_at "mir"
theorem t_alike (a : T) : m_law_alike [encO a, encO a] = some (.bl true) := by
  unfold m_law_alike
  cases a
  · rfl
  · simp only [encO]
    have h1 (i : Int) : isiD "int" (.int i) = some (.bl true) := rfl
    have h2 (i : Int) : isiD "bool" (.int i) = some (.bl false) := rfl
    walk_at "mir"
theorem t_greater (a b : T) : m_law_greater [encO a, encO b] = some (encO (mx a b)) := by
  cases a with
  | none =>
    cases b with
    | none => rfl
    | some j => rfl
  | some i =>
    cases b with
    | none => rfl
    | some j =>
      have : m_law_greater [encO (some i), encO (some j)] = some (.int (max i j)) := rfl
      rw [this]
      show some (D.int (max i j)) = some (.int (if j > i then j else i))
      have : max i j = if j > i then j else i := by omega
      rw [this]
theorem t_time (c : Int) : ∃ o : T, m_law_time [.int c] = some (encO o) := by
  unfold m_law_time
  have h : c % 4 = 0 ∨ c % 4 = 1 ∨ c % 4 = 2 ∨ c % 4 = 3 := by omega
  rcases h with h | h | h | h
  · exact ⟨none, by simp only [encO]; walk_at "mir"⟩
  · exact ⟨some _, by simp only [encO]; walk_at "mir"; rfl⟩
  · exact ⟨some _, by simp only [encO]; walk_at "mir"; rfl⟩
  · exact ⟨some _, by simp only [encO]; walk_at "mir"; rfl⟩
theorem mx_comm (a b : T) : mx a b = mx b a := by cases a <;> cases b <;> simp only [mx]; congr 1; omega
theorem mx_assoc (a b c : T) : mx (mx a b) c = mx a (mx b c) := by cases a <;> cases b <;> cases c <;> simp only [mx]; congr 1; omega
theorem mx_self (a : T) : mx a a = a := by cases a <;> simp only [mx]; congr 1; omega
theorem mx_lt (m : Int) (a b : T) : lt m (mx a b) = mx (lt m a) (lt m b) := by cases a <;> cases b <;> simp only [mx, lt]; congr 1; omega
theorem t_turn {s C x3 x4 x5 x6 : Option D} {k c0 c1 c2 : Int} (hC : C.isSome) (h0 : ixD (C.get hC) (.int k) = some (.int c0)) (h1 : ixD (C.get hC) (.int (k - 1)) = some (.int c1)) (h2 : ixD (C.get hC) (.int (k - 2)) = some (.int c2)) :
    ∃ y3 y4 y5 y6, b_law_1 [s, C, some (.int k), x3, x4, x5, x6] = some (.nx [s, C, some (.int k), y3, y4, y5, y6]) := by
  obtain ⟨C, rfl⟩ := Option.isSome_iff_exists.mp hC
  dsimp only [Option.get] at h0 h1 h2
  obtain ⟨a, e0⟩ := t_time c0
  obtain ⟨b, e1⟩ := t_time (c1 / 3)
  obtain ⟨c, e2⟩ := t_time (c2 / 5)
  obtain ⟨m, em⟩ : ∃ m, ixD (.lst [.int (c0 / 7 % 19 - 9), .int (c0 / 7 % 200000000000000000000000000000000000000000000000001 - 100000000000000000000000000000000000000000000000000)]) (.int (c1 % 2)) = some (.int m) := by
    have h : c1 % 2 = 0 ∨ c1 % 2 = 1 := by omega
    rcases h with h | h <;> rw [h] <;> exact ⟨_, rfl⟩
  refine ⟨some (encO a), some (encO b), some (encO c), some (.int m), ?_⟩
  have f1 := t_later
  have f2 := t_sum
  have f3 := t_latest
  have f4 := t_alike
  have f5 := t_greater
  have g1 := @eqD_opt
  have q1 := mx_comm b a
  have q2 := mx_assoc
  have q3 := mx_self
  have q4 := mx_lt
  unfold b_law_1
  walk_at "mir"
theorem law_true (ns : List Int) (hl : ns.length ≤ 63) : m_law [.lst (ns.map .int)] = some (.bl true) := by
  have cut : cutD (ns.map .int) none (some 30) = (ns.map .int).take 30 := cutD_take _ 30
  generalize hC : ([3, 14] ++ ns.take 30 : List Int) = cs
  have hlen : cs.length ≤ 32 ∧ 2 ≤ cs.length := by rw [← hC, List.length_append, List.length_take]; simp; omega
  have hadd : addD (.lst [.int 3, .int 14]) (.lst ((ns.map .int).take 30)) = some (.lst (cs.map .int)) := by
    rw [← hC]
    unfold addD
    dsimp only
    rw [if_pos (by rw [List.length_take]; simp only [List.length_cons, List.length_nil]; omega), ← List.map_take]
    rfl
  have at_ : ∀ (i : Int) (j : Nat), (i = (j : Int) ∨ i = (j : Int) - cs.length) → j < cs.length → ∃ c, ixD (.lst (cs.map .int)) (.int i) = some (.int c) := fun i j hi hj => ⟨cs[j], atI_map .int hi (by simp [hj])⟩
  obtain ⟨ρ1, h1, x2, x3, x4, x5, x6, rfl⟩ := forD_range (g := gV 2) (b := b_law_1) (lo := 0) (n := cs.length) (ρ := [some (.lst (ns.map .int)), some (.lst (cs.map .int)), none, none, none, none, none])
    (fun _ ρ => ∃ x2 x3 x4 x5 x6, ρ = [some (.lst (ns.map .int)), some (.lst (cs.map .int)), x2, x3, x4, x5, x6]) ⟨_, _, _, _, _, rfl⟩ (by
      rintro j ρ hj ⟨x2, x3, x4, x5, x6, rfl⟩
      obtain ⟨c0, e0⟩ := at_ (0 + (j : Int)) j (by omega) hj
      obtain ⟨c1, e1⟩ : ∃ c, ixD (.lst (cs.map .int)) (.int (0 + (j : Int) - 1)) = some (.int c) := by
        by_cases h0 : 1 ≤ j
        · exact at_ _ (j - 1) (by omega) (by omega)
        · exact at_ _ (cs.length - 1) (by omega) (by omega)
      obtain ⟨c2, e2⟩ : ∃ c, ixD (.lst (cs.map .int)) (.int (0 + (j : Int) - 2)) = some (.int c) := by
        by_cases h0 : 2 ≤ j
        · exact at_ _ (j - 2) (by omega) (by omega)
        · exact at_ _ (cs.length + j - 2) (by omega) (by omega)
      obtain ⟨y3, y4, y5, y6, hb⟩ := t_turn (s := some (.lst (ns.map .int))) (C := some (.lst (cs.map .int))) (x3 := x3) (x4 := x4) (x5 := x5) (x6 := x6) rfl e0 e1 e2
      exact ⟨_, _, rfl, .inl hb, _, _, _, _, _, rfl⟩)
  have r1 : rng1 [.int (cs.length : Int)] = some (upto 0 cs.length) := by
    rw [rng1_int (by omega) (by omega)]
    simp
  have z1 : m_latest [.non, .non] = some .non := rfl
  have z2 : m_later [.non, .int 5] = some .non := rfl
  clear hlen at_ hC
  unfold m_law
  walk_at "mir"

section
variable {P : Program} {w : World} {K : PySem.W.Frag} {mg : Str → Option Value} {base : Heap} {a : Adr}
theorem ok_top (T : Txt K mg a) : FnOk P w K mg base CX0 2 a.f_law a.d_law ["_law_script"] (spLaw K) := law_ok (ok_law (ct := fun _ => 0) T) law_true
end
theorem all_mk {l : PySem.W.OpenLaw} {w : World} {K : PySem.W.Frag} {h : Heap} {mg : Str → Option Value} {fa f0 f1 f2 f3 f4 f5 f6 : Addr} (X : K.In h) (G : h.Ns mainGlobals mg) (hfa : mg "law" = some (.ref fa))
    {od0 an0 od1 an1 od2 an2 od3 an3 od4 an4 od5 an5 od6 an6 : Option Addr} {sl0 sl1 sl2 sl3 sl4 sl5 sl6 : Array (Option Value)} {oc0 kV0 dc0 pm0 cd0 ct0 oc1 kV1 dc1 pm1 cd1 ct1 oc2 kV2 dc2 pm2 cd2 ct2 oc3 kV3 dc3 pm3 cd3 ct3 oc4 kV4 dc4 pm4 cd4 ct4 oc5 kV5 dc5 pm5 cd5 ct5 oc6 kV6 dc6 pm6 cd6 ct6 : Value} 
    (a0 : PySem.W.nsIn K mainGlobals "later" = some (some (.ref f0)))
    (l0 : K.lookup f0 = some ⟨oc0, od0, .func (PySem.W.fnOf "later" "later" (defArgs s_later) (defBody s_later) (defScope s_later) .none kV0 dc0 pm0 an0 cd0 ct0), sl0⟩) (c0 : PySem.W.codeIn K cd0 "later" = true) (k0 : PySem.W.keepIn K (.ref f0) = true)
    (a1 : PySem.W.nsIn K mainGlobals "latest" = some (some (.ref f1)))
    (l1 : K.lookup f1 = some ⟨oc1, od1, .func (PySem.W.fnOf "latest" "latest" (defArgs s_latest) (defBody s_latest) (defScope s_latest) .none kV1 dc1 pm1 an1 cd1 ct1), sl1⟩) (c1 : PySem.W.codeIn K cd1 "latest" = true) (k1 : PySem.W.keepIn K (.ref f1) = true)
    (a2 : PySem.W.nsIn K mainGlobals "_law_time" = some (some (.ref f2)))
    (l2 : K.lookup f2 = some ⟨oc2, od2, .func (PySem.W.fnOf "_law_time" "_law_time" (defArgs s_law_time) (defBody s_law_time) (defScope s_law_time) .none kV2 dc2 pm2 an2 cd2 ct2), sl2⟩) (c2 : PySem.W.codeIn K cd2 "_law_time" = true) (k2 : PySem.W.keepIn K (.ref f2) = true)
    (a3 : PySem.W.nsIn K mainGlobals "_law_alike" = some (some (.ref f3)))
    (l3 : K.lookup f3 = some ⟨oc3, od3, .func (PySem.W.fnOf "_law_alike" "_law_alike" (defArgs s_law_alike) (defBody s_law_alike) (defScope s_law_alike) .none kV3 dc3 pm3 an3 cd3 ct3), sl3⟩) (c3 : PySem.W.codeIn K cd3 "_law_alike" = true) (k3 : PySem.W.keepIn K (.ref f3) = true)
    (a4 : PySem.W.nsIn K mainGlobals "_law_sum" = some (some (.ref f4)))
    (l4 : K.lookup f4 = some ⟨oc4, od4, .func (PySem.W.fnOf "_law_sum" "_law_sum" (defArgs s_law_sum) (defBody s_law_sum) (defScope s_law_sum) .none kV4 dc4 pm4 an4 cd4 ct4), sl4⟩) (c4 : PySem.W.codeIn K cd4 "_law_sum" = true) (k4 : PySem.W.keepIn K (.ref f4) = true)
    (a5 : PySem.W.nsIn K mainGlobals "_law_greater" = some (some (.ref f5)))
    (l5 : K.lookup f5 = some ⟨oc5, od5, .func (PySem.W.fnOf "_law_greater" "_law_greater" (defArgs s_law_greater) (defBody s_law_greater) (defScope s_law_greater) .none kV5 dc5 pm5 an5 cd5 ct5), sl5⟩) (c5 : PySem.W.codeIn K cd5 "_law_greater" = true) (k5 : PySem.W.keepIn K (.ref f5) = true)
    (a6 : PySem.W.nsIn K mainGlobals "law" = some (some (.ref f6)))
    (l6 : K.lookup f6 = some ⟨oc6, od6, .func (PySem.W.fnOf "law" "law" (defArgs s_law) (defBody s_law) (defScope s_law) .none kV6 dc6 pm6 an6 cd6 ct6), sl6⟩) (c6 : PySem.W.codeIn K cd6 "law" = true) (k6 : PySem.W.keepIn K (.ref f6) = true)
    (z0 : PySem.W.nsIn K mainGlobals "bool" = some none)
    (z1 : PySem.W.nsIn K mainGlobals "int" = some none)
    (z2 : PySem.W.nsIn K mainGlobals "isinstance" = some none)
    (z3 : PySem.W.nsIn K mainGlobals "len" = some none)
    (z4 : PySem.W.nsIn K mainGlobals "max" = some none)
    (z5 : PySem.W.nsIn K mainGlobals "range" = some none) :
    ∃ fd : FuncData, (∀ (s : Shared) (v : Value), BindsTo s fd ⟨[v], []⟩ [("_law_script", v)]) ∧ ∀ base : Heap, K.In base → base.Ns mainGlobals mg → FnOk l.prog w K mg base CX0 2 fa fd ["_law_script"] (spLaw K) := by
  have e := hfa.symm.trans (PySem.W.mg_of X G a6)
  cases e
  have F0 := fun2_mk (st := s_later) l0 c0 k0
  have b0 : Binds K (PySem.W.fnOf "later" "later" (defArgs s_later) (defBody s_later) (defScope s_later) .none kV0 dc0 pm0 an0 cd0 ct0) ["when", "more"] [] := .all fun us hl => match us, hl with | [_, _], _ => rfl
  have F1 := fun2_mk (st := s_latest) l1 c1 k1
  have b1 : Binds K (PySem.W.fnOf "latest" "latest" (defArgs s_latest) (defBody s_latest) (defScope s_latest) .none kV1 dc1 pm1 an1 cd1 ct1) ["one", "other"] [] := .all fun us hl => match us, hl with | [_, _], _ => rfl
  have F2 := fun2_mk (st := s_law_time) l2 c2 k2
  have b2 : Binds K (PySem.W.fnOf "_law_time" "_law_time" (defArgs s_law_time) (defBody s_law_time) (defScope s_law_time) .none kV2 dc2 pm2 an2 cd2 ct2) ["_law_cell"] [] := .all fun us hl => match us, hl with | [_], _ => rfl
  have F3 := fun2_mk (st := s_law_alike) l3 c3 k3
  have b3 : Binds K (PySem.W.fnOf "_law_alike" "_law_alike" (defArgs s_law_alike) (defBody s_law_alike) (defScope s_law_alike) .none kV3 dc3 pm3 an3 cd3 ct3) ["_law_found", "_law_due"] [] := .all fun us hl => match us, hl with | [_, _], _ => rfl
  have F4 := fun2_mk (st := s_law_sum) l4 c4 k4
  have b4 : Binds K (PySem.W.fnOf "_law_sum" "_law_sum" (defArgs s_law_sum) (defBody s_law_sum) (defScope s_law_sum) .none kV4 dc4 pm4 an4 cd4 ct4) ["_law_when", "_law_more"] [] := .all fun us hl => match us, hl with | [_, _], _ => rfl
  have F5 := fun2_mk (st := s_law_greater) l5 c5 k5
  have b5 : Binds K (PySem.W.fnOf "_law_greater" "_law_greater" (defArgs s_law_greater) (defBody s_law_greater) (defScope s_law_greater) .none kV5 dc5 pm5 an5 cd5 ct5) ["_law_one", "_law_other"] [] := .all fun us hl => match us, hl with | [_, _], _ => rfl
  have F6 := fun2_mk (st := s_law) l6 c6 k6
  have b6 : Binds K (PySem.W.fnOf "law" "law" (defArgs s_law) (defBody s_law) (defScope s_law) .none kV6 dc6 pm6 an6 cd6 ct6) ["_law_script"] [] := .all fun us hl => match us, hl with | [_], _ => rfl
  have T : Txt K mg ⟨f0, PySem.W.fnOf "later" "later" (defArgs s_later) (defBody s_later) (defScope s_later) .none kV0 dc0 pm0 an0 cd0 ct0, f1, PySem.W.fnOf "latest" "latest" (defArgs s_latest) (defBody s_latest) (defScope s_latest) .none kV1 dc1 pm1 an1 cd1 ct1, f2, PySem.W.fnOf "_law_time" "_law_time" (defArgs s_law_time) (defBody s_law_time) (defScope s_law_time) .none kV2 dc2 pm2 an2 cd2 ct2, f3, PySem.W.fnOf "_law_alike" "_law_alike" (defArgs s_law_alike) (defBody s_law_alike) (defScope s_law_alike) .none kV3 dc3 pm3 an3 cd3 ct3, f4, PySem.W.fnOf "_law_sum" "_law_sum" (defArgs s_law_sum) (defBody s_law_sum) (defScope s_law_sum) .none kV4 dc4 pm4 an4 cd4 ct4, f5, PySem.W.fnOf "_law_greater" "_law_greater" (defArgs s_law_greater) (defBody s_law_greater) (defScope s_law_greater) .none kV5 dc5 pm5 an5 cd5 ct5, fa, PySem.W.fnOf "law" "law" (defArgs s_law) (defBody s_law) (defScope s_law) .none kV6 dc6 pm6 an6 cd6 ct6⟩ := by
    constructor
    · exact ⟨F0, PySem.W.mg_of X G a0, b0⟩
    · exact ⟨F1, PySem.W.mg_of X G a1, b1⟩
    · exact ⟨F2, PySem.W.mg_of X G a2, b2⟩
    · exact ⟨F3, PySem.W.mg_of X G a3, b3⟩
    · exact ⟨F4, PySem.W.mg_of X G a4, b4⟩
    · exact ⟨F5, PySem.W.mg_of X G a5, b5⟩
    · exact ⟨F6, PySem.W.mg_of X G a6, b6⟩
    · exact PySem.W.mg_none_of X G z0
    · exact PySem.W.mg_none_of X G z1
    · exact PySem.W.mg_none_of X G z2
    · exact PySem.W.mg_none_of X G z3
    · exact PySem.W.mg_none_of X G z4
    · exact PySem.W.mg_none_of X G z5
  exact ⟨PySem.W.fnOf "law" "law" (defArgs s_law) (defBody s_law) (defScope s_law) .none kV6 dc6 pm6 an6 cd6 ct6, fun s v => .of_eq rfl, fun base _ _ => ok_top T⟩
theorem walk {l : PySem.W.OpenLaw} {q : Program} {loose : List Str} {XP : (Str → Option Value) → Heap → Prop} {YP : World → Heap → Prop} {d : DefRec} {K : Params → PySem.W.Frag} (hn : l.most = some 63) (hdf : d.params.defaults = [])
    (hY : ∀ (w : World) (h : Heap), YP w h → (K w.params).In h)
    (F : ∀ (w : World) (mg : Str → Option Value) (fa : Addr) (h : Heap), (K w.params).In h → h.Ns mainGlobals mg → mg d.name = some (.ref fa) →
      ∃ fd : FuncData, (∀ (s : Shared) (u : Value), BindsTo s fd ⟨[u], []⟩ [("_law_script", u)]) ∧ ∀ base : Heap, (K w.params).In base → base.Ns mainGlobals mg → FnOk l.prog w (K w.params) mg base CX0 2 fa fd ["_law_script"] (spLaw (K w.params))) :
    PySem.W.WalkO q loose XP YP l.row.toRowW d [] (fun f vs => PySem.call f vs) :=
  L2.walk_of (n := 63) (k := 2) (x := "_law_script") (CX := fun _ => CX0) (sp := fun w => spLaw (K w.params)) hn (by decide) hdf ⟨rfl, by decide, by decide⟩ hY F (fun _ _ a ns hl _ hS => ⟨a, ns, rfl, hS, hl, fun _ => rfl⟩) fun _ _ _ _ _ z => z
end My
open PySem PySem.W PyProof.Rows
set_option maxRecDepth 100000 in
set_option maxHeartbeats 0 in
theorem PySem.Challenge.cw_ringbeat_k05_never_holds : PySem.Challenge.rw_ringbeat_k05_never.Holds := by
  w_on; o_law; k_head; (case hw => w_witness2)
  k_fill
  refine My.walk (l := PySem.Challenge.rw_ringbeat_k05_never) rfl rfl (fun w h Y => PySem.W.kIn_of Y) ?F
  case F =>
    intro w mg fa h KX G hmg
    refine' My.all_mk KX G hmg ?a0 ?l0 ?c0 ?k0 ?a1 ?l1 ?c1 ?k1 ?a2 ?l2 ?c2 ?k2 ?a3 ?l3 ?c3 ?k3 ?a4 ?l4 ?c4 ?k4 ?a5 ?l5 ?c5 ?k5 ?a6 ?l6 ?c6 ?k6 ?z0 ?z1 ?z2 ?z3 ?z4 ?z5
    (case a0 => k_is)
    (case l0 => k_is)
    (case c0 => k_is)
    (case k0 => k_is)
    (case a1 => k_is)
    (case l1 => k_is)
    (case c1 => k_is)
    (case k1 => k_is)
    (case a2 => k_is)
    (case l2 => k_is)
    (case c2 => k_is)
    (case k2 => k_is)
    (case a3 => k_is)
    (case l3 => k_is)
    (case c3 => k_is)
    (case k3 => k_is)
    (case a4 => k_is)
    (case l4 => k_is)
    (case c4 => k_is)
    (case k4 => k_is)
    (case a5 => k_is)
    (case l5 => k_is)
    (case c5 => k_is)
    (case k5 => k_is)
    (case a6 => k_is)
    (case l6 => k_is)
    (case c6 => k_is)
    (case k6 => k_is)
    (case z0 => k_is)
    (case z1 => k_is)
    (case z2 => k_is)
    (case z3 => k_is)
    (case z4 => k_is)
    (case z5 => k_is)
