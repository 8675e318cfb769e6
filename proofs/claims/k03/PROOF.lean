import PyProof.Rows.All
import Wide.All
import OpenK.AllK
import Wide.FinOn
import Lean
import PyProof.EqAt
import PyProof.EqKinds
import PyProof.TupleCall
import PySem.Challenge.RW_ringbeat_k03_fractions_in_order
set_option Elab.async false
set_option linter.all false
set_option maxRecDepth 100000
-- CHANGE: your row's module here, as the last of these rows
/-! THE HAND LAYER, for ints, bools, texts, own classes, LISTS and tuples (index, slices, in, append, pop ..), calls, loops. Paste it whole ahead of your own text; what your proof does not reach may be deleted. -/
namespace L2
open PySem PySem.Spec PyProof.Rows

/-- a key: an int or a str -/
abbrev Key := Sum Int Str
def keyIs : Key → Value → Bool
  | .inl k, v => Value.isInt k v
  | .inr x, v => Value.isStrOf x v
def keyH (w : World) : Key → Int
  | .inl k => hashInt k
  | .inr x => hashStr w x
theorem keyIs_shape : ∀ {k : Key} {v : Value}, keyIs k v = true → (∃ i t, k = Sum.inl i ∧ v = Value.int i t) ∨ (∃ x t, k = Sum.inr x ∧ v = Value.str x t)
  | .inl i, v, h => by
    obtain ⟨t, e⟩ := Value.isInt_shape (k := i) (v := v) h
    exact .inl ⟨i, t, rfl, e⟩
  | .inr x, v, h => by
    obtain ⟨t, e⟩ := Value.isStrOf_shape (x := x) (v := v) h
    exact .inr ⟨x, t, rfl, e⟩
theorem keyIs_int (i : Int) (t : Tok) : keyIs (.inl i) (.int i t) = true := by simp [keyIs, Value.isInt]
theorem keyIs_str (x : Str) (t : Tok) : keyIs (.inr x) (.str x t) = true := by simp [keyIs, Value.isStrOf]
theorem key_ll (a b : Int) : decide ((Sum.inl a : Key) = Sum.inl b) = (a == b) := by
  by_cases e : a = b
  · subst e; simp
  · have h : ¬ (Sum.inl a : Key) = Sum.inl b := fun q => e (Sum.inl.inj q)
    rw [decide_eq_false h]
    exact (beq_eq_false_iff_ne.mpr e).symm
theorem key_rr (a b : Str) : decide ((Sum.inr a : Key) = Sum.inr b) = decide (a = b) := by
  by_cases e : a = b
  · subst e; simp
  · have h : ¬ (Sum.inr a : Key) = Sum.inr b := fun q => e (Sum.inr.inj q)
    rw [decide_eq_false h, decide_eq_false e]
theorem key_lr (a : Int) (b : Str) : decide ((Sum.inl a : Key) = Sum.inr b) = false := decide_eq_false (fun q => nomatch q)
theorem key_rl (a : Str) (b : Int) : decide ((Sum.inr a : Key) = Sum.inl b) = false := decide_eq_false (fun q => nomatch q)

def mixKind (prog : Program) (w : World) : PySem.KeyKind prog w Key where
  is := keyIs
  hash := keyH w
  inj := fun v a b ha hb => by
    rcases keyIs_shape ha with ⟨i, t, rfl, rfl⟩ | ⟨x, t, rfl, rfl⟩
    · rcases keyIs_shape hb with ⟨j, u, rfl, e⟩ | ⟨y, u, rfl, e⟩
      · injection e with e1 _; rw [e1]
      · exact nomatch e
    · rcases keyIs_shape hb with ⟨j, u, rfl, e⟩ | ⟨y, u, rfl, e⟩
      · exact nomatch e
      · injection e with e1 _; rw [e1]
  byValue := fun k v h => by
    rcases keyIs_shape h with ⟨i, t, rfl, rfl⟩ | ⟨x, t, rfl, rfl⟩ <;> rfl
  pyHash := fun hv h => by
    rcases keyIs_shape hv with ⟨i, t, rfl, rfl⟩ | ⟨x, t, rfl, rfl⟩
    · exact wpAny_pyHash_int h
    · exact wpAny_pyHash_str h
  eqBool := fun hu hv h => by
    rcases keyIs_shape hu with ⟨i, t, rfl, rfl⟩ | ⟨x, t, rfl, rfl⟩
    · rcases keyIs_shape hv with ⟨j, u, rfl, rfl⟩ | ⟨y, u, rfl, rfl⟩
      · rw [key_ll] at h; exact wpAny_eqBool_int h
      · rw [key_lr] at h; exact SeqAt.EqAt.int_str i t y u _ _ _ _ h
    · rcases keyIs_shape hv with ⟨j, u, rfl, rfl⟩ | ⟨y, u, rfl, rfl⟩
      · rw [key_rl] at h; exact SeqAt.EqAt.str_int x t j u _ _ _ _ h
      · rw [key_rr] at h; exact wpAny_eqBool_str h
  «strs» := fun k x t v h => by
    rcases keyIs_shape h with ⟨i, u, rfl, e⟩ | ⟨y, u, rfl, e⟩
    · exact nomatch e
    · injection e with e1 _
      subst e1
      cases v <;> rfl

theorem mixKind_is (prog : Program) (w : World) (k : Key) (v : Value) : (mixKind prog w).is k v = keyIs k v := rfl
theorem mixKind_int (prog : Program) (w : World) (i : Int) (t : Tok) : (mixKind prog w).is (.inl i) (.int i t) = true := keyIs_int i t
theorem mixKind_str (prog : Program) (w : World) (x : Str) (t : Tok) : (mixKind prog w).is (.inr x) (.str x t) = true := keyIs_str x t
end L2

namespace L2
open PySem PySem.Spec PyProof.Rows

/-- a value, without the heap -/
inductive V where
  | non | bl (b : Bool) | int (i : Int) | str (x : Str) | byt (b : Array UInt8) | flt (b : UInt64) | ref (a : Addr) | ty (n : String)
  deriving DecidableEq

def RelV : V → Value → Prop
  | .non, u => u = Value.none
  | .bl b, u => u = Value.bool b
  | .int i, u => ∃ t, u = Value.int i t
  | .str x, u => ∃ t, u = Value.str x t
  | .byt b, u => ∃ t, u = Value.bytes b t
  | .flt b, u => ∃ t, u = Value.float b t
  | .ref a, u => u = Value.ref a
  | .ty n, u => u = Value.type n

abbrev Vals : List V → List Value → Prop := Paired RelV
theorem Vals.length {xs : List V} {us : List Value} (r : Vals xs us) : xs.length = us.length := Paired.length r
theorem Vals.get : ∀ {xs : List V} {us : List Value} {i : Nat} {x : V}, Vals xs us → xs[i]? = some x → ∃ u, us[i]? = some u ∧ RelV x u
  | _, _, _, _, .nil, e => by simp at e
  | _, _, 0, _, .cons r _, e => by simp at e; subst e; exact ⟨_, rfl, r⟩
  | _, _, i + 1, x, .cons _ t, e => by
    obtain ⟨u, h1, h2⟩ := Vals.get (i := i) (x := x) t (by simpa using e)
    exact ⟨u, by simpa using h1, h2⟩
theorem Vals.set {x : V} {u : Value} (r : RelV x u) : ∀ {xs : List V} {us : List Value} (i : Nat), Vals xs us → Vals (xs.set i x) (us.set i u)
  | _, _, _, .nil => .nil
  | _, _, 0, .cons _ t => .cons r t
  | _, _, i + 1, .cons q t => .cons q (Vals.set r i t)
theorem Vals.append : ∀ {xs ys : List V} {us ws : List Value}, Vals xs us → Vals ys ws → Vals (xs ++ ys) (us ++ ws)
  | _, _, _, _, .nil, s => s
  | _, _, _, _, .cons r t, s => .cons r (Vals.append t s)
theorem Vals.take : ∀ {xs : List V} {us : List Value} (n : Nat), Vals xs us → Vals (xs.take n) (us.take n)
  | _, _, 0, _ => .nil
  | _, _, _ + 1, .nil => .nil
  | _, _, n + 1, .cons r t => .cons r (Vals.take n t)
theorem Vals.drop : ∀ {xs : List V} {us : List Value} (n : Nat), Vals xs us → Vals (xs.drop n) (us.drop n)
  | _, _, 0, r => r
  | _, _, _ + 1, .nil => .nil
  | _, _, n + 1, .cons _ t => Vals.drop n t
theorem Vals.none_of : ∀ {xs : List V} {us : List Value} {i : Nat}, Vals xs us → xs[i]? = none → us[i]? = none := fun {xs us i} r e => by
  have h1 := r.length
  have h2 : xs.length ≤ i := List.getElem?_eq_none_iff.mp e
  exact List.getElem?_eq_none_iff.mpr (by omega)

def RelO : Option V → Option Value → Prop
  | some v, some u => RelV v u
  | none, none => True
  | _, _ => False
def KV {κ : Type} : List (κ × V) → List (κ × Value) → Prop := Paired fun (p : κ × V) (q : κ × Value) => p.1 = q.1 ∧ RelV p.2 q.2

/-- a key of a dict (00_mix): an int or a text -/
def kV : Key → V
  | .inl i => .int i
  | .inr x => .str x

/-- what stands at a tracked address -/
inductive HO where
  /-- a list -/
  | lst (xs : List V)
  /-- a tuple (never changes) -/
  | tup (xs : List V)
  /-- a dict whose keys are ints and texts; one whose keys are tuples of ints and texts (the empty one is both) -/
  | dK (kvs : List (Key × V)) | dT (kvs : List (List Key × V))
  /-- a set of ints: its members, its size -/
  | set (S : Int → Bool) (n : Nat)
  /-- an instance of the class at C, its dict at dx, its attributes -/
  | ins (C dx : Addr) (fs : List (Str × V))
  /-- the dict of the instance at x -/
  | own (x : Addr)
  /-- the dict of an exception -/
  | xd (fs : List (Str × V))
  /-- a bound method, f of x -/
  | met (f x : Addr)
  /-- a range object lo, lo + 1, .. below hi -/
  | rng (lo hi : Int)
  /-- a thing that is known to the object (the script; a dict while a loop walks it): read, never written while it is so -/
  | frz (o : Obj) (u : HO)
  /-- a code object's table -/
  | tbl (ps : Array Value)
  /-- any other thing, by what is true of its one object (a def of one's own: SetO a S n := HO.ext fun h => ..) -/
  | ext (φ : Heap → Prop)

abbrev Hp := Addr → Option HO
def upd (H : Hp) (a : Addr) (o : HO) : Hp := fun b => if b = a then some o else H b
theorem upd_same {H : Hp} {a : Addr} {o : HO} : upd H a o a = some o := by unfold upd; rw [if_pos rfl]
theorem upd_ne {H : Hp} {a b : Addr} {o : HO} (h : b ≠ a) : upd H a o b = H b := by unfold upd; rw [if_neg h]
theorem upd_upd {H : Hp} {a : Addr} {o u : HO} : upd (upd H a o) a u = upd H a u := by
  funext b; unfold upd; split <;> rfl
/-- two objects of different content stand apart -/
theorem ne_of {H : Hp} {a b : Addr} {o u : HO} (h : H a = some o) (h' : H b = some u) (d : o ≠ u) : a ≠ b := by
  intro e; subst e; rw [h] at h'; exact d (Option.some.inj h')
theorem ne_of_none {H : Hp} {a b : Addr} {o : HO} (h : H a = some o) (h' : H b = none) : a ≠ b := by
  intro e; subst e; rw [h] at h'; cases h'

section
variable (P : Program) (w : World)
def ObjOk (H : Hp) (h : Heap) (a : Addr) : HO → Prop
  | .lst xs => xs.length ≤ sizeLine ∧ ∃ (its : List Value) (n : Nat), Vals xs its ∧ h.get? a = some { cls := .type "list", data := .seq its.toArray n }
  | .tup xs => xs.length ≤ sizeLine ∧ ∃ its : List Value, Vals xs its ∧ IsTup h a its.toArray
  | .dK kvs => kvs.length ≤ sizeLine ∧ (a == sysModules) = false ∧ ∃ vs, KV kvs vs ∧ h.DictOf (mixKind P w) a vs
  | .dT kvs => kvs.length ≤ sizeLine ∧ (a == sysModules) = false ∧ ∃ xs : List (List Key × Addr × Value),
      Paired (fun (p : List Key × V) (q : List Key × Addr × Value) => p.1 = q.1 ∧ H q.2.1 = some (.tup (p.1.map kV)) ∧ RelV p.2 q.2.2) kvs xs ∧
      ∃ o es ep, h.get? a = some o ∧ o.ExactDict ∧ o.data = .dict es ep ∧ es.toList = xs.map (entryOfKey (tupleKind (mixKind P w))) ∧ (xs.map (·.1)).Nodup
  | .set S n => h.SetOf (intKind P w) a S n
  | .ins C dx fs => H dx = some (.own a) ∧ fs.length ≤ 1000 ∧ dx ≠ a ∧ h.get? a = some (PySem.W.instObj C dx) ∧
      ∃ mA, h.Ns1 dx mA ∧ (∀ f, RelO (fs.lookup f) (mA f)) ∧ PySem.Within mA (fs.map (·.1))
  | .own _ => ∃ o, h.get? a = some o
  | .xd fs => ∃ mA, h.Ns1 a mA ∧ ∀ f, RelO (fs.lookup f) (mA f)
  | .rng lo hi => ∃ t u v, h.get? a = some { cls := .type "range", data := .fields #[.int lo t, .int hi u, .int 1 v] }
  | .frz o u => h.get? a = some o ∧ ObjOk H h a u
  | .tbl ps => h.get? a = some { cls := .none, data := .fields ps }
  | .met f x => h.get? a = some (PySem.W.methodObj (.ref f) (.ref x))
  | .ext φ => φ h ∧ (∃ o, h.get? a = some o) ∧ ∀ h1 h2 : Heap, φ h1 → (∀ o, h1.get? a = some o → h2.get? a = some o) → φ h2
/-- the abstract heap is held -/
def HOk (H : Hp) (h : Heap) : Prop := ∀ a o, H a = some o → ObjOk P w H h a o
end

section
variable {P : Program} {w : World} {H H' : Hp} {h h' : Heap} {a : Addr} {o : HO}
theorem ObjOk.lt (x : ObjOk P w H h a o) : a < h.objs.size := by
  cases o with
  | lst xs => obtain ⟨_, _, _, _, e⟩ := x; exact Heap.lt_size e
  | tup xs => obtain ⟨_, _, _, p⟩ := x; exact p.lt
  | dK kvs => obtain ⟨_, _, _, _, o, _, _, e, _⟩ := x; exact Heap.lt_size e
  | dT kvs => obtain ⟨_, _, _, _, o, _, _, e, _⟩ := x; exact Heap.lt_size e
  | set S n => obtain ⟨o, _, _, _, e, _⟩ := x; exact Heap.lt_size e
  | ins C dx fs => obtain ⟨_, _, _, e, _⟩ := x; exact Heap.lt_size e
  | own y => obtain ⟨_, e⟩ := x; exact Heap.lt_size e
  | xd fs => obtain ⟨_, ⟨_, _, _, e, _⟩, _⟩ := x; exact Heap.lt_size e
  | rng lo hi => obtain ⟨_, _, _, e⟩ := x; exact Heap.lt_size e
  | frz ob u => obtain ⟨e, _⟩ := x; exact Heap.lt_size e
  | tbl ps => exact Heap.lt_size (show h.get? a = some _ from x)
  | met f y => exact Heap.lt_size (show h.get? a = some _ from x)
  | ext φ => obtain ⟨_, ⟨_, e⟩, _⟩ := x; exact Heap.lt_size e
theorem Paired.mapP {α β : Type} {F G : α → β → Prop} : ∀ {l₁ : List α} {l₂ : List β}, Paired F l₁ l₂ → (∀ a b, F a b → G a b) → Paired G l₁ l₂
  | _, _, .nil, _ => .nil
  | _, _, .cons r t, f => .cons (f _ _ r) (Paired.mapP t f)
theorem Paired.imp' {α β : Type} {F G : α → β → Prop} (f : ∀ a b, F a b → G a b) {l₁ : List α} {l₂ : List β} (r : Paired F l₁ l₂) : Paired G l₁ l₂ := Paired.mapP r f
/-- what an object's description leans on: its own object, its own dict, the tuples -/
theorem ObjOk.stay (x : ObjOk P w H h a o) (k : ∀ b u, (b = a ∨ H b = some (.own a)) → h.get? b = some u → h'.get? b = some u)
    (ho : ∀ b, H b = some (.own a) → H' b = some (.own a)) (ht : ∀ b xs, H b = some (.tup xs) → H' b = some (.tup xs)) : ObjOk P w H' h' a o := by
  induction o with
  | lst xs => obtain ⟨z, its, n, r, e⟩ := x; exact ⟨z, its, n, r, k _ _ (.inl rfl) e⟩
  | tup xs => obtain ⟨z, its, r, ob, e, c⟩ := x; exact ⟨z, its, r, ob, k _ _ (.inl rfl) e, c⟩
  | dK kvs => obtain ⟨z, y, vs, r, ob, es, ep, e, c⟩ := x; exact ⟨z, y, vs, r, ob, es, ep, k _ _ (.inl rfl) e, c⟩
  | dT kvs =>
    obtain ⟨z, y, xs, r, ob, es, ep, e, c⟩ := x
    exact ⟨z, y, xs, Paired.mapP r fun p q z => ⟨z.1, ht _ _ z.2.1, z.2.2⟩, ob, es, ep, k _ _ (.inl rfl) e, c⟩
  | set S n => obtain ⟨ob, es, ep, t, e, c⟩ := x; exact ⟨ob, es, ep, t, k _ _ (.inl rfl) e, c⟩
  | ins C dx fs =>
    obtain ⟨d, z, ne, e, mA, ⟨od, es, ep, e2, c⟩, r⟩ := x
    exact ⟨ho _ d, z, ne, k _ _ (.inl rfl) e, mA, ⟨od, es, ep, k _ _ (.inr d) e2, c⟩, r⟩
  | own y => obtain ⟨ob, e⟩ := x; exact ⟨ob, k _ _ (.inl rfl) e⟩
  | xd fs => obtain ⟨mA, ⟨od, es, ep, e, c⟩, r⟩ := x; exact ⟨mA, ⟨od, es, ep, k _ _ (.inl rfl) e, c⟩, r⟩
  | rng lo hi => obtain ⟨t, u, v, e⟩ := x; exact ⟨t, u, v, k _ _ (.inl rfl) e⟩
  | frz ob u ih => obtain ⟨e, q⟩ := x; exact ⟨k _ _ (.inl rfl) e, ih q⟩
  | tbl ps =>
    have e : h.get? a = some { cls := .none, data := .fields ps } := x
    show h'.get? a = some { cls := .none, data := .fields ps }
    exact k a _ (.inl rfl) e
  | met f y =>
    have e : h.get? a = some (PySem.W.methodObj (.ref f) (.ref y)) := x
    show h'.get? a = some (PySem.W.methodObj (.ref f) (.ref y))
    exact k a _ (.inl rfl) e
  | ext φ => obtain ⟨p, ⟨o, e⟩, st⟩ := x; exact ⟨st _ _ p fun o q => k _ _ (.inl rfl) q, ⟨o, k _ _ (.inl rfl) e⟩, st⟩
theorem HOk.lt (x : HOk P w H h) (e : H a = some o) : a < h.objs.size := (x a o e).lt
theorem HOk.fresh (x : HOk P w H h) (e : h.objs.size ≤ a) : H a = none := by
  cases q : H a with
  | none => rfl
  | some u => exact absurd (Nat.lt_of_lt_of_le (x.lt q) e) (Nat.lt_irrefl _)
/-- every object of the heap is kept -/
theorem HOk.kept (x : HOk P w H h) (k : ∀ b u, h.get? b = some u → h'.get? b = some u) : HOk P w H h' := fun a o e =>
  (x a o e).stay (fun b u _ q => k b u q) (fun _ q => q) fun _ _ q => q
/-- a new object is laid and tracked -/
theorem HOk.laid (x : HOk P w H h) (k : ∀ b u, h.get? b = some u → h'.get? b = some u) (hp : h.objs.size ≤ a) (new : ObjOk P w (upd H a o) h' a o) : HOk P w (upd H a o) h' := fun b u e => by
  have hn := x.fresh hp
  by_cases hb : b = a
  · subst hb; rw [upd_same] at e; cases e; exact new
  · rw [upd_ne hb] at e
    exact (x b u e).stay (fun c v _ q => k c v q) (fun c q => by rw [upd_ne (ne_of_none q hn)]; exact q) fun c xs q => by rw [upd_ne (ne_of_none q hn)]; exact q
end

/-- what may be read as u: it is u, or a known u -/
def Rd (H : Hp) (a : Addr) (u : HO) : Prop := H a = some u ∨ ∃ o, H a = some (.frz o u)
theorem Rd.of {H : Hp} {a : Addr} {u : HO} (h : H a = some u) : Rd H a u := .inl h
theorem Rd.ok {P : Program} {w : World} {H : Hp} {h : Heap} {a : Addr} {u : HO} (r : Rd H a u) (x : HOk P w H h) : ObjOk P w H h a u := by
  rcases r with r | ⟨o, r⟩
  · exact x a u r
  · obtain ⟨_, q⟩ := x a _ r
    exact q
/-- what may be written -/
def Mut : Option HO → Prop
  | some (.lst _) => True
  | some (.dK _) => True
  | some (.dT _) => True
  | some (.set _ _) => True
  | some (.ins _ _ _) => True
  | some (.ext _) => True
  | _ => False
section
variable {P : Program} {w : World} {H : Hp} {h h' : Heap} {x e : Addr} {o' : HO}
/-- the object at e is changed: x itself, or the dict of the instance x -/
theorem HOk.write (ok : HOk P w H h) (mu : Mut (H x)) (he : e = x ∨ H e = some (.own x)) (k : ∀ b u, b ≠ e → h.get? b = some u → h'.get? b = some u) (heo : ∃ u, h'.get? e = some u)
    (new : ObjOk P w (upd H x o') h' x o') : HOk P w (upd H x o') h' := fun b u q => by
  have nown : ∀ c y, H c = some (.own y) → c ≠ x := fun c y r z => by subst z; rw [r] at mu; exact mu
  have ntup : ∀ c xs, H c = some (.tup xs) → c ≠ x := fun c xs r z => by subst z; rw [r] at mu; exact mu
  by_cases hb : b = x
  · subst hb; rw [upd_same] at q; cases q; exact new
  · rw [upd_ne hb] at q
    by_cases hbe : b = e
    · have q' : H b = some (.own x) := by
        rcases he with z | z
        · exact absurd (hbe.trans z) hb
        · rw [hbe]; exact z
      rw [q] at q'; cases q'
      obtain ⟨v, hv⟩ := heo
      exact ⟨v, by rw [hbe]; exact hv⟩
    · refine (ok b u q).stay (fun c v hc r => k c v ?_ r) (fun c r => by rw [upd_ne (nown c b r)]; exact r) fun c xs r => by rw [upd_ne (ntup c xs r)]; exact r
      rcases hc with rfl | hc
      · exact hbe
      · rintro rfl
        rcases he with z | z
        · exact nown c b hc z
        · rw [hc] at z; cases z; exact hb rfl
end

/-! ### kept unless tracked; of the frames at fs (the callers') the slots may change (an exception that passes writes there); of the records at ex (iterators) nothing is said -/
structure Un (fs ex : List Addr) (H H' : Hp) (h h' : Heap) : Prop where
  keep : ∀ b o, h.get? b = some o → H b = none → b ∉ fs → b ∉ ex → h'.get? b = some o
  slot : ∀ b o, h.get? b = some o → H b = none → b ∈ fs → b ∉ ex → ∃ sl, h'.get? b = some { o with slots := sl }
  free : ∀ b o, h.get? b = some o → H b = none → b ∉ ex → H' b = none
  there : ∀ b o, h.get? b = some o → b ∉ ex → ∃ o', h'.get? b = some o'
  tups : ∀ b xs, H b = some (.tup xs) → H' b = some (.tup xs)
  frzs : ∀ b o u, H b = some (.frz o u) → H' b = some (.frz o u)
  tbls : ∀ b ps, H b = some (.tbl ps) → ∃ more, H' b = some (.tbl (ps ++ more))
section
variable {fs fs' ex ex' : List Addr} {H H1 H2 : Hp} {h h1 h2 h' : Heap} {a x e : Addr} {o : HO}
theorem Un.any (u : Un fs ex H H1 h h1) {b : Addr} {ob : Obj} (q : h.get? b = some ob) (n : H b = none) (hx : b ∉ ex) : ∃ sl, h1.get? b = some { ob with slots := sl } := by
  by_cases hb : b ∈ fs
  · exact u.slot b ob q n hb hx
  · exact ⟨ob.slots, u.keep b ob q n hb hx⟩
theorem Un.trans (a : Un fs ex H H1 h h1) (b : Un fs ex H1 H2 h1 h2) : Un fs ex H H2 h h2 where
  keep := fun c ob q n hc hx => b.keep c ob (a.keep c ob q n hc hx) (a.free c ob q n hx) hc hx
  slot := fun c ob q n hc hx => by
    obtain ⟨sl, e1⟩ := a.slot c ob q n hc hx
    obtain ⟨sl', e2⟩ := b.slot c _ e1 (a.free c ob q n hx) hc hx
    exact ⟨sl', e2⟩
  free := fun c ob q n hx => by
    obtain ⟨o', e1⟩ := a.there c ob q hx
    exact b.free c o' e1 (a.free c ob q n hx) hx
  there := fun c ob q hx => by
    obtain ⟨o', e1⟩ := a.there c ob q hx
    exact b.there c o' e1 hx
  tups := fun c xs q => b.tups c xs (a.tups c xs q)
  frzs := fun c ob xs q => b.frzs c ob xs (a.frzs c ob xs q)
  tbls := fun c ps q => by
    obtain ⟨m1, e1⟩ := a.tbls c ps q
    obtain ⟨m2, e2⟩ := b.tbls c _ e1
    exact ⟨m1 ++ m2, by rw [e2, Array.append_assoc]⟩
theorem Un.kept (k : ∀ b u, h.get? b = some u → h'.get? b = some u) : Un fs ex H H h h' :=
  ⟨fun b ob q _ _ _ => k b ob q, fun b ob q _ _ _ => ⟨ob.slots, k b ob q⟩, fun _ _ _ n _ => n, fun b ob q _ => ⟨ob, k b ob q⟩, fun _ _ q => q, fun _ _ _ q => q, fun _ ps q => ⟨#[], by rw [q]; simp⟩⟩
theorem Un.refl : Un fs ex H H h h := Un.kept fun _ _ q => q
theorem Un.laid (k : ∀ b u, h.get? b = some u → h'.get? b = some u) (hp : h.objs.size ≤ a) (hn : H a = none) : Un fs ex H (upd H a o) h h' where
  keep := fun b u q _ _ _ => k b u q
  slot := fun b u q _ _ _ => ⟨u.slots, k b u q⟩
  free := fun b u q n _ => by rw [upd_ne (Nat.ne_of_lt (Nat.lt_of_lt_of_le (Heap.lt_size q) hp))]; exact n
  there := fun b u q _ => ⟨u, k b u q⟩
  tups := fun b xs q => by rw [upd_ne (ne_of_none q hn)]; exact q
  frzs := fun b u xs q => by rw [upd_ne (ne_of_none q hn)]; exact q
  tbls := fun b ps q => ⟨#[], by rw [upd_ne (ne_of_none q hn), q]; simp⟩
theorem Un.write (mu : Mut (H x)) (he : e = x ∨ H e = some (.own x)) (k : ∀ b u, b ≠ e → h.get? b = some u → h'.get? b = some u) (heo : ∃ u, h'.get? e = some u) : Un fs ex H (upd H x o) h h' := by
  have hx : ∀ b, H b = none → b ≠ x := fun b n z => by subst z; rw [n] at mu; exact mu
  have hb : ∀ b, H b = none → b ≠ e := fun b n z => by
    subst z
    rcases he with r | r
    · exact hx b n r
    · rw [n] at r; cases r
  have hm : ∀ b u, H b = some u → ¬ Mut (some u) → b ≠ x := fun b u q nm z => by subst z; rw [q] at mu; exact nm mu
  refine ⟨fun b u q n _ _ => k b u (hb b n) q, fun b u q n _ _ => ⟨u.slots, k b u (hb b n) q⟩, fun b u q n _ => by rw [upd_ne (hx b n)]; exact n, fun b u q _ => ?_,
    fun b xs q => by rw [upd_ne (hm b _ q fun z => z)]; exact q, fun b u xs q => by rw [upd_ne (hm b _ q fun z => z)]; exact q, fun b ps q => ⟨#[], by rw [upd_ne (hm b _ q fun z => z), q]; simp⟩⟩
  by_cases hbe : b = e
  · subst hbe; exact heo
  · exact ⟨u, k b u hbe q⟩
theorem Un.mono (u : Un fs ex H H1 h h1) (hs : ∀ b ∈ fs, b ∈ fs') (hx : ∀ b ∈ ex, b ∈ ex') : Un fs' ex' H H1 h h1 :=
  ⟨fun b ob q n hb he => u.keep b ob q n (fun z => hb (hs b z)) fun z => he (hx b z), fun _ _ q n _ he => u.any q n fun z => he (hx _ z), fun b ob q n he => u.free b ob q n fun z => he (hx b z), fun b ob q he => u.there b ob q fun z => he (hx b z), u.tups, u.frzs, u.tbls⟩
end

/-! ### the heap without what is tracked -/
def trk (h : Heap) (H : Hp) : List Addr := (List.range h.objs.size).filter fun a => (H a).isSome
def hidT (h : Heap) (H : Hp) : Heap := PySem.W.hideAll h (trk h H)
theorem hidT_size (h : Heap) (H : Hp) : (hidT h H).objs.size = h.objs.size := PySem.W.hideAll_size _ _
theorem hidT_get {h : Heap} {H : Hp} {b : Addr} {o : Obj} (e : h.get? b = some o) (n : H b = none) : (hidT h H).get? b = some o :=
  PySem.W.hideAll_get _ e fun hm => by
    have q : (H b).isSome = true := (List.mem_filter.mp hm).2
    rw [n] at q; simp at q
theorem of_hidT {h : Heap} {H : Hp} {b : Addr} {o : Obj} (e : (hidT h H).get? b = some o) : h.get? b = some o ∧ H b = none := by
  have e' : h.get? b = some o := PySem.W.of_hideAll (trk h H) e
  refine ⟨e', ?_⟩
  cases q : H b with
  | none => rfl
  | some x =>
    have hm : b ∈ trk h H := List.mem_filter.mpr ⟨List.mem_range.mpr (Heap.lt_size e'), by simp [q]⟩
    have z : (hidT h H).get? b = none := PySem.W.hideAll_none (trk h H) hm
    rw [z] at e; cases e

/-! ### OpenK's ledger, filled with every new object but one -/
def allNews (g h : Heap) (L : Addr) : List (Addr × Obj) := (List.range h.objs.size).filterMap fun a => if a = L ∨ (g.get? a).isSome = true then none else (h.get? a).map fun o => (a, o)
theorem mem_allNews {g h : Heap} {L a : Addr} {o : Obj} (h1 : a ≠ L) (h2 : g.get? a = none) (h3 : h.get? a = some o) : (a, o) ∈ allNews g h L :=
  List.mem_filterMap.mpr ⟨a, List.mem_range.mpr (Heap.lt_size h3), by simp [h1, h2, h3]⟩
theorem of_mem_allNews {g h : Heap} {L : Addr} {p : Addr × Obj} (hp : p ∈ allNews g h L) : p.1 ≠ L ∧ g.get? p.1 = none ∧ h.get? p.1 = some p.2 := by
  obtain ⟨b, _, e⟩ := List.mem_filterMap.mp hp
  split at e
  · cases e
  · rename_i hn
    cases q : h.get? b with
    | none => rw [q] at e; simp at e
    | some u =>
      rw [q] at e
      simp only [Option.map_some, Option.some.injEq] at e
      subst e
      refine ⟨fun z => hn (.inl z), ?_, q⟩
      show g.get? b = none
      cases r : g.get? b with
      | none => rfl
      | some v => exact (hn (.inr (by simp [r]))).elim
def rest (g h : Heap) (L d : Addr) : List (Addr × Obj) := (allNews g h L).filter fun p => decide (p.1 ≠ d)
theorem rest_ne {g h : Heap} {L d : Addr} : ∀ p ∈ rest g h L d, p.1 ≠ d := fun p hp => of_decide_eq_true (List.mem_filter.mp hp).2
theorem mem_rest {g h : Heap} {L d a : Addr} {o : Obj} (h1 : a ≠ L) (h2 : g.get? a = none) (h3 : h.get? a = some o) (h4 : a ≠ d) : (a, o) ∈ rest g h L d :=
  List.mem_filter.mpr ⟨mem_allNews h1 h2 h3, decide_eq_true h4⟩
theorem news_all {g h : Heap} {L : Addr} : News g L h (allNews g h L) := fun p hp => let ⟨a, b, c⟩ := of_mem_allNews hp; ⟨c, a, b⟩
theorem news_at {g h : Heap} {L d : Addr} {o : Obj} (h1 : d ≠ L) (h2 : g.get? d = none) (h3 : h.get? d = some o) : News g L h ((d, o) :: rest g h L d) := fun p hp => by
  rcases List.mem_cons.mp hp with rfl | hp
  · exact ⟨h3, h1, h2⟩
  · exact news_all p (List.mem_filter.mp hp).1
/-- behind a rule that changed d alone: all else but the frame is kept -/
theorem kept_of_news {g h h' : Heap} {L d : Addr} {m : Str → Option Value} (k : ∀ b o, g.get? b = some o → h.get? b = some o) (F : Fr g L h' m) (N : News g L h' (rest g h L d)) :
    ∀ b o, b ≠ L → b ≠ d → h.get? b = some o → h'.get? b = some o := fun b o h1 h2 e => by
  cases q : g.get? b with
  | some u =>
    have := k b u q
    rw [e] at this; cases this
    exact F.keep b _ q
  | none => exact (N (b, o) (mem_rest h1 q e h2)).1
end L2

namespace L2
open PySem PySem.Spec PyProof.Rows

/-- the module's facts, over the base: the heap at the law's entry without what is tracked there -/
structure Mod (K : PySem.W.Frag) (mg : Str → Option Value) (base : Heap) : Prop where
  kin : K.In base
  glob : base.Ns mainGlobals mg
  blt : ∃ mb, base.Ns builtinsNs mb ∧ ∀ x : Str, x ≠ "__name__" → mb x = bootBuiltins x
  nolimit : base.NoLimit

/-- the context: a def's body (or a comprehension's block) running. base: fixed through the whole law; s₀, H₀: the entry; outer: the frames whose slots others may change (a def's callers); stack: all frames that run;
   ex: iterators that were made ahead of the entry and are walked here (a comprehension's); fn: the names whose cells were made at the entry (a def: all; a comprehension's block: its own); calm: not within an except suite; pn: pins that every state bears; xe: what is wanted of an exception that leaves the code -/
structure Cx where
  prog : Program
  w : World
  K : PySem.W.Frag
  mg : Str → Option Value
  base : Heap
  A : Around
  N : List Str
  s₀ : Shared
  H₀ : Hp
  env : Env
  outer : List Env
  stack : List Env
  ex : List Addr
  fn : Str → Bool
  calm : Bool
  pn : List (Addr × Obj)
  xe : Value → Shared → Prop
/-- the callers' frames -/
def frs (l : List Env) : List Addr := l.filterMap (·.frame)
abbrev Cx.fs (X : Cx) : List Addr := frs X.outer

def Vis (sc : Scope) (x : Str) : Prop := sc.names.lookup x = some .local ∨ sc.names.lookup x = some .cell ∨ sc.names.lookup x = some .free
def Loc (sc : Scope) (x : Str) : Prop := sc.names.lookup x = some .local ∨ sc.names.lookup x = some .cell
def Look (env : Env) (h : Heap) (m : Str → Option Value) (x : Str) (u : Value) : Prop :=
  (env.kindOf x = some .local ∧ m x = some u) ∨ ((env.kindOf x = some .cell ∨ env.kindOf x = some .free) ∧ ∃ c, env.cells.lookup x = some c ∧ h.IsCell c (some u))

structure Cx.Ok (X : Cx) : Prop where
  mod : Mod X.K X.mg X.base
  kind : X.env.scope.kind = .function
  glob : X.env.globals = mainGlobals
  blt : X.env.builtins = builtinsNs
  above : X.s₀.heap.objs.size ≤ X.env.locals
  inj : ∀ x y c, X.env.cells.lookup x = some c → X.env.cells.lookup y = some c → x = y
  has : ∀ x, (X.env.kindOf x = some .cell ∨ X.env.kindOf x = some .free) → ∃ c, X.env.cells.lookup x = some c
  cab : ∀ x c, X.fn x = true → X.env.cells.lookup x = some c → X.s₀.heap.objs.size ≤ c
  hd : X.calm = true → X.A.handled = none
  frames : X.A.frames = some X.stack
  stk : X.stack = X.outer ∨ (X.stack = X.env :: X.outer ∧ X.env.frame = some X.env.locals)
  exf : ∀ b ∈ X.ex, b ≠ X.env.locals ∧ ∀ x c, X.env.cells.lookup x = some c → c ≠ b
  bs : ∀ b o, X.base.get? b = some o → X.s₀.heap.get? b = some o ∧ X.H₀ b = none
  bsz : X.base.objs.size ≤ X.s₀.heap.objs.size
  noex : ∀ b o, X.base.get? b = some o → b ∉ X.ex
  exfs : ∀ b ∈ X.ex, b ∉ X.fs
  funs : X.s₀.heap.FunFrames X.base X.outer
  frf : ∀ b ∈ X.fs, X.H₀ b = none

structure Inv (X : Cx) (pins : List (Addr × Obj)) (σ : List (Option V)) (H : Hp) (s : Shared) : Prop where
  ok : X.Ok
  os : s.os = X.s₀.os
  bare : AllBare s.gens
  base : Un X.fs X.ex X.H₀ H X.s₀.heap s.heap
  loc : ∃ m, s.heap.Ns X.env.locals m ∧ ∀ (i : Nat) (x : Str) (v : V), X.N[i]? = some x → σ[i]? = some (some v) → Vis X.env.scope x → ∃ u, RelV v u ∧ Look X.env s.heap m x u
  cell : ∀ x c, X.env.cells.lookup x = some c → ∃ v, s.heap.IsCell c v
  free : H X.env.locals = none
  freeC : ∀ x c, X.env.cells.lookup x = some c → H c = none
  pin : ∀ p ∈ X.pn ++ pins, s.heap.get? p.1 = some p.2 ∧ H p.1 = none ∧ p.1 ≠ X.env.locals ∧ p.1 ∉ X.fs ∧ ∀ v, p.2.data ≠ .cell v
  hok : HOk X.prog X.w H s.heap
  len : σ.length = X.N.length

section
variable {X : Cx} {pins : List (Addr × Obj)} {σ : List (Option V)} {H H' : Hp} {s : Shared} {h' : Heap}

theorem Cx.Ok.nofr (ok : X.Ok) {b : Addr} {o : Obj} (e : X.base.get? b = some o) : b ∉ X.fs := fun hb => by
  have := (ok.funs.mem hb).1
  rw [e] at this; cases this
theorem Inv.bs (I : Inv X pins σ H s) : ∀ b o, X.base.get? b = some o → s.heap.get? b = some o ∧ H b = none := fun b o e =>
  ⟨I.base.keep b o (I.ok.bs b o e).1 (I.ok.bs b o e).2 (I.ok.nofr e) (I.ok.noex b o e), I.base.free b o (I.ok.bs b o e).1 (I.ok.bs b o e).2 (I.ok.noex b o e)⟩
theorem Inv.bk (I : Inv X pins σ H s) : ∀ b o, X.base.get? b = some o → s.heap.get? b = some o := fun b o e => (I.bs b o e).1
theorem Inv.mod (I : Inv X pins σ H s) : Mod X.K X.mg X.base := I.ok.mod
theorem Inv.kIn (I : Inv X pins σ H s) : X.K.In s.heap := I.ok.mod.kin.keeps I.bk
theorem Inv.nolimit (I : Inv X pins σ H s) : s.heap.NoLimit := I.ok.mod.nolimit.keeps I.bk
/-- the frame over the base: for OpenK's rules (K.In X.base is I.mod.kin) -/
theorem Inv.fr (I : Inv X pins σ H s) : ∃ m, Fr X.base X.env.locals s.heap m :=
  let ⟨m, hn, _⟩ := I.loc
  ⟨m, hn, I.bk, Nat.le_trans I.ok.bsz I.ok.above⟩
theorem Inv.lt (I : Inv X pins σ H s) : X.env.locals < s.heap.objs.size := let ⟨_, hn, _⟩ := I.loc; hn.lt
theorem Inv.sz (I : Inv X pins σ H s) : X.s₀.heap.objs.size ≤ s.heap.objs.size := Nat.le_trans I.ok.above (Nat.le_of_lt I.lt)
theorem Inv.nofs (I : Inv X pins σ H s) {a : Addr} (h : s.heap.objs.size ≤ a) : a ∉ X.fs := fun hb => by
  obtain ⟨_, o, ho, _⟩ := I.ok.funs.mem hb
  exact absurd (Nat.lt_of_lt_of_le (Heap.lt_size ho) (Nat.le_trans I.sz h)) (Nat.lt_irrefl _)
theorem Inv.cne (I : Inv X pins σ H s) : ∀ x c, X.env.cells.lookup x = some c → c ≠ X.env.locals := fun x c e z => by
  obtain ⟨v, o, ho, hd⟩ := I.cell x c e
  obtain ⟨m, ⟨o', es, ep, ho', hd', _⟩, _⟩ := I.loc
  rw [z, ho'] at ho; cases ho; rw [hd'] at hd; cases hd
theorem Inv.funs (I : Inv X pins σ H s) : s.heap.FunFrames X.base X.outer := by
  have all : ∀ (l : List Env), (∀ b ∈ frs l, b ∈ X.fs) → X.s₀.heap.FunFrames X.base l → s.heap.FunFrames X.base l := by
    intro l
    induction l with
    | nil => intro _ _; trivial
    | cons env r ih =>
      intro hs hl
      obtain ⟨hk, ⟨L, o, hf, hn, ho, hd⟩, hr⟩ := hl
      have hL : L ∈ X.fs := hs L (by unfold frs; rw [List.filterMap_cons, hf]; exact List.mem_cons_self)
      obtain ⟨sl, e⟩ := I.base.slot L o ho (I.ok.frf L hL) hL fun z => I.ok.exfs L z hL
      exact ⟨hk, ⟨L, _, hf, hn, e, hd⟩, ih (fun b hb => hs b (by unfold frs; rw [List.filterMap_cons, hf]; exact List.mem_cons_of_mem _ hb)) hr⟩
  exact all X.outer (fun _ hb => hb) I.ok.funs

/-- the frames that run, for a call -/
theorem Inv.stack (I : Inv X pins σ H s) : s.heap.FunFrames X.base X.stack := by
  rcases I.ok.stk with e | ⟨e, hf⟩
  · rw [e]; exact I.funs
  · rw [e]
    obtain ⟨m, hn, _⟩ := I.loc
    refine .cons (by rw [I.ok.kind]; decide) hf hn ?_ I.funs
    exact Heap.get?_none_of_le (Nat.le_trans I.ok.bsz I.ok.above)
theorem Inv.stkSub (I : Inv X pins σ H s) : ∀ b ∈ frs X.stack, b ∈ X.env.locals :: X.fs := fun b hb => by
  rcases I.ok.stk with e | ⟨e, hf⟩
  · rw [e] at hb; exact List.mem_cons_of_mem _ hb
  · rw [e] at hb
    unfold frs at hb
    rw [List.filterMap_cons, hf] at hb
    exact hb
theorem Inv.stkFree (I : Inv X pins σ H s) : ∀ b ∈ frs X.stack, H b = none := fun b hb => by
  rcases List.mem_cons.mp (I.stkSub b hb) with e | hb
  · rw [e]; exact I.free
  · obtain ⟨_, o, ho, _⟩ := I.ok.funs.mem hb
    exact I.base.free b o ho (I.ok.frf b hb) fun z => I.ok.exfs b z hb

/-- THE STEP: the untracked objects but the frame and the records at ch are kept (the callers' frames up to slots), the frame's map is kept, the new abstract heap is held -/
theorem Inv.step {g' : Array GenState} {t' : Nat} {d' : Drawn} {ch : List Addr} (I : Inv X pins σ H s)
    (hch : ∀ b ∈ ch, (b ∈ X.ex ∨ X.s₀.heap.objs.size ≤ b) ∧ b ≠ X.env.locals ∧ (∀ x c, X.env.cells.lookup x = some c → c ≠ b) ∧ ∀ p ∈ X.pn ++ pins, p.1 ≠ b)
    (keep : ∀ b o, b ≠ X.env.locals → b ∉ X.fs → b ∉ ch → s.heap.get? b = some o → H b = none → h'.get? b = some o)
    (slot : ∀ b o, b ≠ X.env.locals → b ∈ X.fs → b ∉ ch → s.heap.get? b = some o → H b = none → ∃ sl, h'.get? b = some { o with slots := sl }) (free : ∀ b o, b ∉ ch → s.heap.get? b = some o → H b = none → H' b = none)
    (there : ∀ b o, b ∉ ch → s.heap.get? b = some o → ∃ o', h'.get? b = some o')
    (tups : ∀ b xs, H b = some (.tup xs) → H' b = some (.tup xs)) (frzs : ∀ b o u, H b = some (.frz o u) → H' b = some (.frz o u)) (tbls : ∀ b ps, H b = some (.tbl ps) → ∃ more, H' b = some (.tbl (ps ++ more)))
    (ns : ∀ m, s.heap.Ns X.env.locals m → h'.Ns X.env.locals m) (hok : HOk X.prog X.w H' h') (hg : AllBare g') :
    Inv X pins σ H' { s with heap := h', gens := g', drawn := d', toks := t' } := by
  have neL : ∀ b o, X.s₀.heap.get? b = some o → b ≠ X.env.locals := fun b o e => Nat.ne_of_lt (Nat.lt_of_lt_of_le (Heap.lt_size e) I.ok.above)
  have neC : ∀ b o, X.s₀.heap.get? b = some o → b ∉ X.ex → b ∉ ch := fun b o e hx hb => by
    rcases (hch b hb).1 with z | z
    · exact hx z
    · exact absurd (Nat.lt_of_lt_of_le (Heap.lt_size e) z) (Nat.lt_irrefl _)
  have cellK : ∀ x c, X.env.cells.lookup x = some c → ∀ v, s.heap.IsCell c v → h'.IsCell c v := fun x c e v ⟨o, ho, hd⟩ => by
    have nch : c ∉ ch := fun z => (hch c z).2.2.1 x c e rfl
    by_cases hc : c ∈ X.fs
    · obtain ⟨sl, q⟩ := slot c o (I.cne x c e) hc nch ho (I.freeC x c e)
      exact ⟨_, q, hd⟩
    · exact ⟨o, keep c o (I.cne x c e) hc nch ho (I.freeC x c e), hd⟩
  refine ⟨I.ok, I.os, hg, ⟨fun b o e n hb hx => ?_, fun b o e n hb hx => ?_, fun b o e n hx => ?_, fun b o e hx => ?_, fun b xs e => tups b xs (I.base.tups b xs e), fun b o xs e => frzs b o xs (I.base.frzs b o xs e), fun b ps e => ?_⟩, ?_, fun x c e => ?_, ?_, fun x c e => ?_, fun p hp => ?_, hok, I.len⟩
  · exact keep b o (neL b o e) hb (neC b o e hx) (I.base.keep b o e n hb hx) (I.base.free b o e n hx)
  · obtain ⟨sl, e1⟩ := I.base.slot b o e n hb hx
    obtain ⟨sl', e2⟩ := slot b _ (neL b o e) hb (neC b o e hx) e1 (I.base.free b o e n hx)
    exact ⟨sl', e2⟩
  · obtain ⟨o', e1⟩ := I.base.there b o e hx
    exact free b o' (neC b o e hx) e1 (I.base.free b o e n hx)
  · obtain ⟨o', e1⟩ := I.base.there b o e hx
    exact there b o' (neC b o e hx) e1
  · obtain ⟨m1, e1⟩ := I.base.tbls b ps e
    obtain ⟨m2, e2⟩ := tbls b _ e1
    exact ⟨m1 ++ m2, by rw [e2, Array.append_assoc]⟩
  · obtain ⟨m, hn, hl⟩ := I.loc
    refine ⟨m, ns m hn, fun i x v e1 e2 e3 => ?_⟩
    obtain ⟨u, r, l⟩ := hl i x v e1 e2 e3
    refine ⟨u, r, ?_⟩
    rcases l with l | ⟨k, c, e, z⟩
    · exact .inl l
    · exact .inr ⟨k, c, e, cellK x c e _ z⟩
  · obtain ⟨v, z⟩ := I.cell x c e
    exact ⟨v, cellK x c e v z⟩
  · obtain ⟨m, ⟨o, _, _, ho, _⟩, _⟩ := I.loc
    exact free _ o (fun z => (hch _ z).2.1 rfl) ho I.free
  · obtain ⟨v, o, ho, hd⟩ := I.cell x c e
    exact free c o (fun z => (hch c z).2.2.1 x c e rfl) ho (I.freeC x c e)
  · obtain ⟨e, n, ne, nf, d⟩ := I.pin p hp
    have nch : p.1 ∉ ch := fun z => (hch p.1 z).2.2.2 p hp rfl
    exact ⟨keep p.1 p.2 ne nf nch e n, free p.1 p.2 nch e n, ne, nf, d⟩
/-- .. where the frame's own object is kept too -/
theorem Inv.un {t' : Nat} (I : Inv X pins σ H s) (u : Un X.fs [] H H' s.heap h') (hok : HOk X.prog X.w H' h') : Inv X pins σ H' { s with heap := h', toks := t' } := by
  obtain ⟨m, ⟨o, es, ep, ho, r⟩, _⟩ := id I.loc
  obtain ⟨sl, hL⟩ := u.any ho I.free (by simp)
  exact I.step (g' := s.gens) (d' := s.drawn) (ch := []) (fun _ z => nomatch z) (fun b o _ hb _ e n => u.keep b o e n hb (by simp)) (fun b o _ hb _ e n => u.slot b o e n hb (by simp)) (fun b o _ e n => u.free b o e n (by simp)) (fun b o _ e => u.there b o e (by simp)) u.tups u.frzs u.tbls (fun m' hm => by
    obtain ⟨o', es', ep', ho', r'⟩ := hm
    rw [ho] at ho'; cases ho'
    exact ⟨_, es', ep', hL, r'⟩) hok I.bare
/-- behind a call (or a comprehension's block): the slots of this frame may have changed too, the records at ch may have turned -/
theorem Inv.call {g' : Array GenState} {t' : Nat} {d' : Drawn} {ch : List Addr} (I : Inv X pins σ H s) (u : Un (frs X.stack) ch H H' s.heap h') (hok : HOk X.prog X.w H' h') (hg : AllBare g')
    (hch : ∀ b ∈ ch, (b ∈ X.ex ∨ X.s₀.heap.objs.size ≤ b) ∧ b ≠ X.env.locals ∧ (∀ x c, X.env.cells.lookup x = some c → c ≠ b) ∧ ∀ p ∈ X.pn ++ pins, p.1 ≠ b) :
    Inv X pins σ H' { s with heap := h', gens := g', drawn := d', toks := t' } := by
  obtain ⟨m, ⟨o, es, ep, ho, r⟩, _⟩ := id I.loc
  obtain ⟨sl, hL⟩ := u.any ho I.free fun z => (hch _ z).2.1 rfl
  exact I.step (ch := ch) hch (fun b o hL hb hc e n => u.keep b o e n (fun z => (List.mem_cons.mp (I.stkSub b z)).elim hL hb) hc) (fun b o _ _ hc e n => u.any e n hc) (fun b o hc e n => u.free b o e n hc) (fun b o hc e => u.there b o e hc) u.tups u.frzs u.tbls (fun m' hm => by
    obtain ⟨o', es', ep', ho', r'⟩ := hm
    rw [ho] at ho'; cases ho'
    exact ⟨_, es', ep', hL, r'⟩) hok hg
/-- an untracked record of ours (an iterator) has turned -/
theorem Inv.turned {t' : Nat} {it : Addr} (I : Inv X pins σ H s) (k : ∀ b o, b ≠ it → s.heap.get? b = some o → h'.get? b = some o) (hn : H it = none) (hL : it ≠ X.env.locals)
    (h1 : it ∈ X.ex ∨ X.s₀.heap.objs.size ≤ it) (h2 : ∀ x c, X.env.cells.lookup x = some c → c ≠ it) (h3 : ∀ p ∈ X.pn ++ pins, p.1 ≠ it) : Inv X pins σ H { s with heap := h', toks := t' } := by
  have nit : ∀ b u, H b = some u → b ≠ it := fun b u e z => by rw [z, hn] at e; cases e
  refine I.step (g' := s.gens) (d' := s.drawn) (ch := [it]) (fun b hb => ?_) (fun b o _ _ hc e _ => k b o (fun z => hc (by simp [z])) e) (fun b o _ _ hc e _ => ⟨o.slots, k b o (fun z => hc (by simp [z])) e⟩) (fun _ _ _ _ n => n)
    (fun b o hc e => ⟨o, k b o (fun z => hc (by simp [z])) e⟩) (fun _ _ e => e) (fun _ _ _ e => e) (fun b ps e => ⟨#[], by rw [e]; simp⟩) (fun m hm => ?_) (fun b u e => ?_) I.bare
  · have e : b = it := by simpa using hb
    subst e
    exact ⟨h1, hL, h2, h3⟩
  · obtain ⟨o, es, ep, ho, r⟩ := hm
    exact ⟨o, es, ep, k _ o (Ne.symm hL) ho, r⟩
  · refine (I.hok b u e).stay (fun c v hc q => k c v ?_ q) (fun _ q => q) fun _ _ q => q
    rcases hc with z | z
    · rw [z]; exact nit b u e
    · exact nit c _ z
theorem Inv.tok (I : Inv X pins σ H s) (t : Nat) : Inv X pins σ H { s with toks := t } := I.un (h' := s.heap) (t' := t) Un.refl I.hok
/-- all objects kept -/
theorem Inv.kept {t' : Nat} (I : Inv X pins σ H s) (k : ∀ b u, s.heap.get? b = some u → h'.get? b = some u) : Inv X pins σ H { s with heap := h', toks := t' } := I.un (Un.kept k) (I.hok.kept k)
/-- a new object laid and tracked -/
theorem Inv.laid {a : Addr} {o : HO} {t' : Nat} (I : Inv X pins σ H s) (k : ∀ b u, s.heap.get? b = some u → h'.get? b = some u) (hp : s.heap.objs.size ≤ a) (new : ObjOk X.prog X.w (upd H a o) h' a o) :
    Inv X pins σ (upd H a o) { s with heap := h', toks := t' } := I.un (Un.laid k hp (I.hok.fresh hp)) (I.hok.laid k hp new)
/-- an object written -/
theorem Inv.write {x e : Addr} {o : HO} {t' : Nat} (I : Inv X pins σ H s) (mu : Mut (H x)) (he : e = x ∨ H e = some (.own x)) (k : ∀ b u, b ≠ e → s.heap.get? b = some u → h'.get? b = some u) (heo : ∃ u, h'.get? e = some u)
    (new : ObjOk X.prog X.w (upd H x o) h' x o) : Inv X pins σ (upd H x o) { s with heap := h', toks := t' } := I.un (Un.write mu he k heo) (I.hok.write mu he k heo new)
/-- forgetting slots, pins -/
theorem Inv.weak {σ' : List (Option V)} (I : Inv X pins σ H s) (hl : σ'.length = σ.length) (w : ∀ (i : Nat) v, σ'[i]? = some (some v) → σ[i]? = some (some v)) : Inv X pins σ' H s :=
  ⟨I.ok, I.os, I.bare, I.base, let ⟨m, hn, hl'⟩ := I.loc; ⟨m, hn, fun i x v e1 e2 e3 => hl' i x v e1 (w i v e2) e3⟩, I.cell, I.free, I.freeC, I.pin, I.hok, hl.trans I.len⟩
theorem Inv.pins_of {pins' : List (Addr × Obj)} (I : Inv X pins σ H s) (h : ∀ p ∈ pins', s.heap.get? p.1 = some p.2 ∧ H p.1 = none ∧ p.1 ≠ X.env.locals ∧ p.1 ∉ X.fs ∧ ∀ v, p.2.data ≠ .cell v) : Inv X pins' σ H s :=
  ⟨I.ok, I.os, I.bare, I.base, I.loc, I.cell, I.free, I.freeC, fun p hp => (List.mem_append.mp hp).elim (fun z => I.pin p (List.mem_append_left _ z)) (h p), I.hok, I.len⟩

theorem nodup_ix {N : List Str} (hN : N.Nodup) {i j : Nat} {x : Str} (a : N[i]? = some x) (b : N[j]? = some x) : i = j := by
  obtain ⟨h1, e1⟩ := List.getElem?_eq_some_iff.mp a
  obtain ⟨h2, e2⟩ := List.getElem?_eq_some_iff.mp b
  exact (List.getElem_inj hN).mp (e1.trans e2.symm)

/-- a name is stored; what changed -/
theorem store_ok2 {M : Model} {A : Around} {E : Value → Shared → Prop} {i : Nat} {x : Str} {v : V} {u : Value} {Q : Unit → Shared → Prop} (I : Inv X pins σ H s) (hN : X.N.Nodup) (hi : X.N[i]? = some x) (hx : Loc X.env.scope x) (r : RelV v u)
    (h : ∀ s', Inv X pins (σ.set i (some v)) H s' → (∃ a, Heap.SameBut a s.heap s'.heap ∧ (a = X.env.locals ∨ X.env.cells.lookup x = some a)) → Q () s') (hf : X.fn x = true ∨ X.env.scope.names.lookup x = some .local := by first | exact .inl rfl | exact .inr rfl | assumption) : wpAny M A (storeName X.env x u) Q E s := by
  obtain ⟨m, hn, hl⟩ := id I.loc
  have hcls : (X.env.scope.kind == .class || (X.env.scope.kind == .module && X.env.locals != X.env.globals)) = false := by rw [I.ok.kind]; rfl
  have hiσ : i < σ.length := by rw [I.len]; exact (List.getElem?_eq_some_iff.mp hi).1
  have cne := I.cne
  have tracked : ∀ {a : Addr} {h' : Heap}, (∃ o, s.heap.get? a = some o ∧ H a = none) → Heap.SameBut a s.heap h' → HOk X.prog X.w H h' := fun {a h'} ha hs b ob e => by
    obtain ⟨_, _, hfree⟩ := ha
    refine (I.hok b ob e).stay (fun c w' hc q => (hs.2 c ?_).trans q) (fun _ q => q) fun _ _ q => q
    rintro rfl
    rcases hc with rfl | hc
    · rw [hfree] at e; cases e
    · rw [hfree] at hc; cases hc
  rcases hx with hk | hk
  · refine wpAny_storeName_local hk hn (fun h' hn' hs => ?_) hcls
    obtain ⟨oL, _, _, hoL, _⟩ := id hn
    refine h _ ⟨I.ok, I.os, I.bare, ⟨fun b o e n hb hx => ?_, fun b o e n hb hx => ?_, I.base.free, fun b o e hx => ?_, I.base.tups, I.base.frzs, I.base.tbls⟩, ⟨_, hn', fun j y v' e1 e2 e3 => ?_⟩, fun y c e => ?_, I.free, I.freeC, fun p hp => ?_, tracked ⟨oL, hoL, I.free⟩ hs, by simpa using I.len⟩ ⟨_, hs, .inl rfl⟩
    · exact (hs.2 b (Nat.ne_of_lt (Nat.lt_of_lt_of_le (Heap.lt_size e) I.ok.above))).trans (I.base.keep b o e n hb hx)
    · obtain ⟨sl, e1⟩ := I.base.slot b o e n hb hx
      exact ⟨sl, (hs.2 b (Nat.ne_of_lt (Nat.lt_of_lt_of_le (Heap.lt_size e) I.ok.above))).trans e1⟩
    · obtain ⟨o', e1⟩ := I.base.there b o e hx
      exact ⟨o', (hs.2 b (Nat.ne_of_lt (Nat.lt_of_lt_of_le (Heap.lt_size e) I.ok.above))).trans e1⟩
    · by_cases hj : j = i
      · subst hj
        rw [hi] at e1; cases e1
        rw [List.getElem?_set_self hiσ] at e2
        cases e2
        exact ⟨u, r, .inl ⟨hk, by simp⟩⟩
      · rw [List.getElem?_set_ne (Ne.symm hj)] at e2
        obtain ⟨u', r', q⟩ := hl j y v' e1 e2 e3
        refine ⟨u', r', ?_⟩
        rcases q with ⟨k, e⟩ | ⟨k, c, e, z⟩
        · refine .inl ⟨k, ?_⟩
          have : y ≠ x := fun e => hj (nodup_ix hN e1 (e ▸ hi))
          simp [this, e]
        · exact .inr ⟨k, c, e, z.sameBut hs (cne y c e)⟩
    · obtain ⟨w', z⟩ := I.cell y c e
      exact ⟨w', z.sameBut hs (cne y c e)⟩
    · obtain ⟨e, n, ne, nf, d⟩ := I.pin p hp
      exact ⟨(hs.2 p.1 ne).trans e, n, ne, nf, d⟩
  · have hfn : X.fn x = true := by
      rcases hf with z | z
      · exact z
      · rw [z] at hk; cases hk
    obtain ⟨c, hc⟩ := I.ok.has x (.inl hk)
    obtain ⟨w', z⟩ := I.cell x c hc
    refine wpAny_storeName_cell I.ok.kind hk hc z (fun h' hc' hs => ?_)
    obtain ⟨oc, hoc, hocd⟩ := id z
    refine h { s with heap := h' } ⟨I.ok, I.os, I.bare, ⟨fun b o e n hb hx => ?_, fun b o e n hb hx => ?_, I.base.free, fun b o e hx => ?_, I.base.tups, I.base.frzs, I.base.tbls⟩, ⟨m, hn.sameBut hs (Ne.symm (cne x c hc)), fun j y v' e1 e2 e3 => ?_⟩, fun y c' e => ?_, I.free, I.freeC, fun p hp => ?_, tracked ⟨oc, hoc, I.freeC x c hc⟩ hs, by simpa using I.len⟩ ⟨c, hs, .inr hc⟩
    · exact (hs.2 b (Nat.ne_of_lt (Nat.lt_of_lt_of_le (Heap.lt_size e) (I.ok.cab x c hfn hc)))).trans (I.base.keep b o e n hb hx)
    · obtain ⟨sl, e1⟩ := I.base.slot b o e n hb hx
      exact ⟨sl, (hs.2 b (Nat.ne_of_lt (Nat.lt_of_lt_of_le (Heap.lt_size e) (I.ok.cab x c hfn hc)))).trans e1⟩
    · obtain ⟨o', e1⟩ := I.base.there b o e hx
      exact ⟨o', (hs.2 b (Nat.ne_of_lt (Nat.lt_of_lt_of_le (Heap.lt_size e) (I.ok.cab x c hfn hc)))).trans e1⟩
    · by_cases hj : j = i
      · subst hj
        rw [hi] at e1; cases e1
        rw [List.getElem?_set_self hiσ] at e2
        cases e2
        exact ⟨u, r, .inr ⟨.inl hk, c, hc, hc'⟩⟩
      · rw [List.getElem?_set_ne (Ne.symm hj)] at e2
        obtain ⟨u', r', q⟩ := hl j y v' e1 e2 e3
        refine ⟨u', r', ?_⟩
        rcases q with q | ⟨k, c', e, z'⟩
        · exact .inl q
        · refine .inr ⟨k, c', e, z'.sameBut hs ?_⟩
          rintro rfl
          exact hj (nodup_ix hN e1 (I.ok.inj _ _ _ e hc ▸ hi))
    · by_cases hcc : c' = c
      · subst hcc; exact ⟨_, hc'⟩
      · obtain ⟨w2, z2⟩ := I.cell y c' e
        exact ⟨w2, z2.sameBut hs hcc⟩
    · obtain ⟨e, n, ne, nf, d⟩ := I.pin p hp
      refine ⟨(hs.2 p.1 ?_).trans e, n, ne, nf, d⟩
      intro q
      rw [q, hoc] at e
      have q' : oc = p.2 := Option.some.inj e
      exact d w' (by rw [← q']; exact hocd)
theorem store_ok {M : Model} {A : Around} {E : Value → Shared → Prop} {i : Nat} {x : Str} {v : V} {u : Value} {Q : Unit → Shared → Prop} (I : Inv X pins σ H s) (hN : X.N.Nodup) (hi : X.N[i]? = some x) (hx : Loc X.env.scope x) (r : RelV v u)
    (h : ∀ s', Inv X pins (σ.set i (some v)) H s' → Q () s') (hf : X.fn x = true ∨ X.env.scope.names.lookup x = some .local := by first | exact .inl rfl | exact .inr rfl | assumption) : wpAny M A (storeName X.env x u) Q E s :=
  store_ok2 I hN hi hx r (fun s' I' _ => h s' I') hf
/-- behind a call or a block, the state as it is -/
theorem Inv.call' {s' : Shared} {ch : List Addr} (I : Inv X pins σ H s) (ho : s'.os = s.os) (u : Un (frs X.stack) ch H H' s.heap s'.heap) (hok : HOk X.prog X.w H' s'.heap) (hg : AllBare s'.gens)
    (hch : ∀ b ∈ ch, (b ∈ X.ex ∨ X.s₀.heap.objs.size ≤ b) ∧ b ≠ X.env.locals ∧ (∀ x c, X.env.cells.lookup x = some c → c ≠ b) ∧ ∀ p ∈ X.pn ++ pins, p.1 ≠ b) : Inv X pins σ H' s' := by
  obtain ⟨h', g', d', t', o'⟩ := s'
  have e : o' = s.os := ho
  subst e
  exact I.call (g' := g') (t' := t') (d' := d') u hok hg hch
end

/-! ### the judgements -/
/-- an exception: its class, its own dict's address (where it has one), the abstract heap behind it -/
abbrev XK := Value → Option Addr → Hp → Prop
abbrev St := List (Option V)
abbrev VK := V → Hp → Prop
/-- an expression's reading; a test's; an argument list's -/
abbrev TE := St → Hp → VK → Prop
abbrev TT := St → Hp → (Bool → Hp → Prop) → Prop
abbrev TA := St → Hp → (List V → Hp → Prop) → Prop
/-- what is wanted behind a statement -/
structure Ends where
  nx : St → Hp → Prop
  rt : VK
  bk : St → Hp → Prop := fun _ _ => False
  ct : St → Hp → Prop := fun _ _ => False
abbrev TS := Ends → St → Hp → Prop

def EP (X : Cx) (pins : List (Addr × Obj)) (σ : St) (Q : VK) (u : Value) (s' : Shared) : Prop := ∃ v H', Inv X pins σ H' s' ∧ RelV v u ∧ Q v H'
def TP (X : Cx) (pins : List (Addr × Obj)) (σ : St) (Q : Bool → Hp → Prop) (b : Bool) (s' : Shared) : Prop := ∃ H', Inv X pins σ H' s' ∧ Q b H'
def AP (X : Cx) (pins : List (Addr × Obj)) (σ : St) (Q : List V → Hp → Prop) (us : List Value) (s' : Shared) : Prop := ∃ vs H', Inv X pins σ H' s' ∧ Vals vs us ∧ Q vs H'
def SP (X : Cx) (pins : List (Addr × Obj)) (D : Ends) (f : Flow) (s' : Shared) : Prop :=
  match f with
  | .next => ∃ σ' H', Inv X pins σ' H' s' ∧ D.nx σ' H'
  | .brk => ∃ σ' H', Inv X pins σ' H' s' ∧ D.bk σ' H'
  | .cont => ∃ σ' H', Inv X pins σ' H' s' ∧ D.ct σ' H'
  | .ret u => ∃ v σ' H', Inv X pins σ' H' s' ∧ RelV v u ∧ D.rt v H'

def PE (X : Cx) (e : Expr) (t : TE) : Prop :=
  ∀ (pins : List (Addr × Obj)) (s : Shared) (σ : St) (H : Hp) (Q : VK), Inv X pins σ H s → t σ H Q → wpAny (model X.prog X.w) X.A (eval e X.env) (EP X pins σ Q) X.xe s
def PT (X : Cx) (e : Expr) (t : TT) : Prop :=
  ∀ (pins : List (Addr × Obj)) (s : Shared) (σ : St) (H : Hp) (Q : Bool → Hp → Prop), Inv X pins σ H s → t σ H Q → wpAny (model X.prog X.w) X.A (isTrue e X.env (eval e X.env)) (TP X pins σ Q) X.xe s
/-- a test whatever its 'whole' is (and, or) -/
def PW (X : Cx) (e : Expr) (t : TT) : Prop :=
  ∀ (whole : Sem Value) (pins : List (Addr × Obj)) (s : Shared) (σ : St) (H : Hp) (Q : Bool → Hp → Prop), Inv X pins σ H s → t σ H Q → wpAny (model X.prog X.w) X.A (isTrue e X.env whole) (TP X pins σ Q) X.xe s
theorem PW.pt {X : Cx} {e : Expr} {t : TT} (h : PW X e t) : PT X e t := h _
/-- an argument list (no star), from the left -/
def PA (X : Cx) (es : List Expr) (t : TA) : Prop :=
  ∀ (pos : Pos) (pins : List (Addr × Obj)) (s : Shared) (σ : St) (H : Hp) (Q : List V → Hp → Prop), Inv X pins σ H s → t σ H Q → wpAny (model X.prog X.w) X.A (spliced (backTo pos (starEach es X.env))) (AP X pins σ Q) X.xe s
def PS (X : Cx) (st : Stmt) (t : TS) : Prop :=
  ∀ (pins : List (Addr × Obj)) (s : Shared) (σ : St) (H : Hp) (D : Ends), Inv X pins σ H s → t D σ H → wpAny (model X.prog X.w) X.A (exec st X.env) (SP X pins D) X.xe s
def PSs (X : Cx) (st : List Stmt) (t : TS) : Prop :=
  ∀ (pins : List (Addr × Obj)) (s : Shared) (σ : St) (H : Hp) (D : Ends), Inv X pins σ H s → t D σ H → wpAny (model X.prog X.w) X.A (execs st X.env) (SP X pins D) X.xe s
/-- weaken the end -/
theorem thn {α : Type} {t : Sem α} {Q Q' : α → Shared → Prop} {M : Model} {A : Around} {E : Value → Shared → Prop} {s : Shared} (h : wpAny M A t Q E s) (hQ : ∀ a s, Q a s → Q' a s) : wpAny M A t Q' E s := wpAny_mono h hQ fun _ _ x => x
end L2

namespace L2
open PySem PySem.Spec PyProof.Rows
section
variable {X : Cx}

/-- two expressions in a row -/
theorem bin {a b : Expr} {ta tb : TE} (ha : PE X a ta) (hb : PE X b tb) {pins : List (Addr × Obj)} {s : Shared} {σ : St} {H : Hp} {R : V → V → Hp → Prop} (I : Inv X pins σ H s) (h : ta σ H fun x H1 => tb σ H1 fun y H2 => R x y H2)
    {α : Type} {Q : α → Shared → Prop} {f : Value → Value → Sem α}
    (hf : ∀ v u s2 x y H2, Inv X pins σ H2 s2 → RelV x v → RelV y u → R x y H2 → wpAny (model X.prog X.w) X.A (f v u) Q X.xe s2) :
    wpAny (model X.prog X.w) X.A (eval a X.env) (fun v s₁ => wpAny (model X.prog X.w) X.A (eval b X.env) (fun u s₂ => wpAny (model X.prog X.w) X.A (f v u) Q X.xe s₂) X.xe s₁) X.xe s := by
  refine thn (ha pins s σ H _ I h) fun v s1 ⟨x, H1, I1, r1, q1⟩ => ?_
  refine thn (hb pins s1 σ H1 _ I1 q1) fun u s2 ⟨y, H2, I2, r2, q2⟩ => ?_
  exact hf v u s2 x y H2 I2 r1 r2 q2

/-! ### names and constants -/
def tVar (i : Nat) : TE := fun σ H Q => ∃ v, σ[i]? = some (some v) ∧ Q v H
def tC (v : V) : TE := fun _ H Q => Q v H
theorem pe_var {i : Nat} {x : Str} {pos : Pos} (hN : X.N[i]? = some x) (hv : Vis X.env.scope x) (hd : (x == ("__debug__" : Str)) = false := by decide) (hcd : (x == ("__classdict__" : Str)) = false := by decide) : PE X (.Name x pos) (tVar i) := by
  intro pins s σ H Q I h
  obtain ⟨v, e, h⟩ := h
  obtain ⟨m, hn, hl⟩ := I.loc
  obtain ⟨u, r, l⟩ := hl i x v hN e hv
  have fin : EP X pins σ Q u s := ⟨v, H, I, r, h⟩
  rcases l with ⟨hk, hm⟩ | ⟨hk, c, hc, hcell⟩
  · exact wpAny_Name (wpAny_loadName_local I.ok.kind hk hn hm fin) hd
  · rcases hk with hk | hk
    · exact wpAny_Name (wpAny_loadName_cell I.ok.kind hk hc hcell fin) hd
    · exact wpAny_Name (wpAny_loadName_free I.ok.kind hk hc hcell fin hcd) hd
theorem pe_int {i j pos} : PE X (.Constant (.int i) j pos) (tC (.int i)) := fun _ _ _ H _ I h => wpAny_Constant_int ⟨.int i, H, I.tok _, ⟨_, rfl⟩, h⟩
theorem pe_bl {b j pos} : PE X (.Constant (.bool b) j pos) (tC (.bl b)) := fun _ _ _ H _ I h => Constant_bool ⟨.bl b, H, I, rfl, h⟩
theorem pe_non {j pos} : PE X (.Constant .none j pos) (tC .non) := fun _ _ _ H _ I h => Constant_none ⟨.non, H, I, rfl, h⟩
theorem pe_str {x j pos} : PE X (.Constant (.str x) j pos) (tC (.str x)) := fun _ _ _ H _ I h => Calls.Constant_str ⟨.str x, H, I.tok _, ⟨_, rfl⟩, h⟩

/-- a global name of the def -/
def Gl (X : Cx) (x : Str) : Prop := X.env.kindOf x = some .globalImplicit
theorem ld_glob {E : Value → Shared → Prop} {pins : List (Addr × Obj)} {s : Shared} {σ : St} {H : Hp} {x : Str} {u : Value} {pos : Pos} {Q : Value → Shared → Prop} (I : Inv X pins σ H s) (hg : Gl X x) (hm : X.mg x = some u) (h : Q u s)
    (hd : (x == ("__debug__" : Str)) = false := by decide) : wpAny (model X.prog X.w) X.A (eval (.Name x pos) X.env) Q E s :=
  Calls.Name_function_global I.ok.kind hg (Calls.loadGlobal_global (by rw [I.ok.glob]; exact I.mod.glob.keeps I.bk) hm h) hd
theorem ld_blt {E : Value → Shared → Prop} {pins : List (Addr × Obj)} {s : Shared} {σ : St} {H : Hp} {x : Str} {u : Value} {pos : Pos} {Q : Value → Shared → Prop} (I : Inv X pins σ H s) (hg : Gl X x) (hm : X.mg x = none) (hv : bootBuiltins x = some u) (h : Q u s)
    (hn : x ≠ "__name__" := by decide) (hd : (x == ("__debug__" : Str)) = false := by decide) : wpAny (model X.prog X.w) X.A (eval (.Name x pos) X.env) Q E s := by
  obtain ⟨mb, h1, h2⟩ := I.mod.blt
  exact Calls.Name_function_global I.ok.kind hg (Calls.loadGlobal_builtin (by rw [I.ok.glob]; exact I.mod.glob.keeps I.bk) hm (by rw [I.ok.blt]; exact h1.keeps I.bk) ((h2 x hn).trans hv) h) hd
/-- a module's constant, a class, a function, as a value -/
theorem pe_glob {x : Str} {v : V} {u : Value} {pos : Pos} (hg : Gl X x) (hm : X.mg x = some u) (r : RelV v u) (hd : (x == ("__debug__" : Str)) = false := by decide) : PE X (.Name x pos) (tC v) :=
  fun _ _ _ H _ I h => ld_glob I hg hm ⟨v, H, I, r, h⟩ hd
theorem pe_bltn {x : Str} {v : V} {u : Value} {pos : Pos} (hg : Gl X x) (hm : X.mg x = none) (hv : bootBuiltins x = some u) (r : RelV v u) (hn : x ≠ "__name__" := by decide) (hd : (x == ("__debug__" : Str)) = false := by decide) : PE X (.Name x pos) (tC v) :=
  fun _ _ _ H _ I h => ld_blt I hg hm hv ⟨v, H, I, r, h⟩ hn hd

/-! ### arithmetic -/
/-- two ints -/
def t2I (ta tb : TE) (k : Int → Int → Hp → Prop) : St → Hp → Prop := fun σ H => ta σ H fun x H1 => tb σ H1 fun y H2 => ∃ i j, x = .int i ∧ y = .int j ∧ k i j H2
def tAdd (ta tb : TE) : TE := fun σ H Q => t2I ta tb (fun i j H2 => Q (.int (i + j)) H2) σ H
def tSub (ta tb : TE) : TE := fun σ H Q => t2I ta tb (fun i j H2 => Q (.int (i - j)) H2) σ H
/-- the left factor below 2^64 -/
def tMul (ta tb : TE) : TE := fun σ H Q => t2I ta tb (fun i j H2 => (-(2 ^ 64) < i ∧ i < 2 ^ 64) ∧ Q (.int (i * j)) H2) σ H
variable {a b : Expr} {ta tb : TE} {pos : Pos}
theorem pe_add (ha : PE X a ta) (hb : PE X b tb) : PE X (.BinOp a .Add b pos) (tAdd ta tb) := by
  intro pins s σ H Q I h
  refine wpAny_BinOp (bin ha hb I h fun v u s2 x y H2 I2 rx ry q => ?_)
  obtain ⟨i, j, rfl, rfl, q⟩ := q
  obtain ⟨t, rfl⟩ := rx
  obtain ⟨t', rfl⟩ := ry
  exact add_int ⟨.int _, H2, I2.tok _, ⟨_, rfl⟩, q⟩
theorem pe_sub (ha : PE X a ta) (hb : PE X b tb) : PE X (.BinOp a .Sub b pos) (tSub ta tb) := by
  intro pins s σ H Q I h
  refine wpAny_BinOp (bin ha hb I h fun v u s2 x y H2 I2 rx ry q => ?_)
  obtain ⟨i, j, rfl, rfl, q⟩ := q
  obtain ⟨t, rfl⟩ := rx
  obtain ⟨t', rfl⟩ := ry
  exact sub_int ⟨.int _, H2, I2.tok _, ⟨_, rfl⟩, q⟩
theorem pe_mul (ha : PE X a ta) (hb : PE X b tb) : PE X (.BinOp a .Mult b pos) (tMul ta tb) := by
  intro pins s σ H Q I h
  refine wpAny_BinOp (bin ha hb I h fun v u s2 x y H2 I2 rx ry q => ?_)
  obtain ⟨i, j, rfl, rfl, ⟨q1, q2⟩, q⟩ := q
  obtain ⟨t, rfl⟩ := rx
  obtain ⟨t', rfl⟩ := ry
  exact mul_int ⟨.int _, H2, I2.tok _, ⟨_, rfl⟩, q⟩ (.of_left (intBits_le_64 q1 q2))

/-! ### comparisons -/
def PC (X : Cx) (op : CmpOp) (a b : Expr) (t : TE) : Prop :=
  ∀ (pins : List (Addr × Obj)) (s : Shared) (σ : St) (H : Hp) (Q : VK), Inv X pins σ H s → t σ H Q →
    wpAny (model X.prog X.w) X.A (eval a X.env) (fun v s₁ => wpAny (model X.prog X.w) X.A (eval b X.env) (fun u s₂ => wpAny (model X.prog X.w) X.A (compareOp op v u) (EP X pins σ Q) X.xe s₂) X.xe s₁) X.xe s
theorem nobehind (b : Expr) {op : CmpOp} (h : op ≠ .In) (h2 : op ≠ .NotIn) : behindInMarks op b = false := by
  have e1 : (op == CmpOp.In) = false := by cases op <;> first | rfl | exact absurd rfl h
  have e2 : (op == CmpOp.NotIn) = false := by cases op <;> first | rfl | exact absurd rfl h2
  cases b <;> simp [behindInMarks, e1, e2]
def tCmp (p : Int → Int → Bool) (ta tb : TE) : TE := fun σ H Q => t2I ta tb (fun i j H2 => Q (.bl (p i j)) H2) σ H
abbrev tLt : TE → TE → TE := tCmp fun i j => decide (i < j)
abbrev tLe : TE → TE → TE := tCmp fun i j => decide (i ≤ j)
abbrev tGt : TE → TE → TE := tCmp fun i j => decide (j < i)
abbrev tGe : TE → TE → TE := tCmp fun i j => decide (j ≤ i)
abbrev tEqI : TE → TE → TE := tCmp fun i j => decide (i = j)
abbrev tNeI : TE → TE → TE := tCmp fun i j => !decide (i = j)
/-- a comparison of two ints, by its rule -/
theorem pc_int {op : CmpOp} {p : Int → Int → Bool} (ha : PE X a ta) (hb : PE X b tb)
    (rule : ∀ (i j : Int) (t u : Tok) (Q : Value → Shared → Prop) (s : Shared), Q (.bool (p i j)) s → wpAny (model X.prog X.w) X.A (compareOp op (.int i t) (.int j u)) Q X.xe s) : PC X op a b (tCmp p ta tb) := by
  intro pins s σ H Q I h
  refine bin ha hb I h fun v u s2 x y H2 I2 rx ry q => ?_
  obtain ⟨i, j, rfl, rfl, q⟩ := q
  obtain ⟨t, rfl⟩ := rx
  obtain ⟨t', rfl⟩ := ry
  exact rule i j t t' _ s2 ⟨.bl _, H2, I2, rfl, q⟩
theorem pc_lt (ha : PE X a ta) (hb : PE X b tb) : PC X .Lt a b (tLt ta tb) := pc_int ha hb fun _ _ _ _ _ _ h => lt_int h
theorem pc_le (ha : PE X a ta) (hb : PE X b tb) : PC X .LtE a b (tLe ta tb) := pc_int ha hb fun _ _ _ _ _ _ h => le_int h
theorem pc_gt (ha : PE X a ta) (hb : PE X b tb) : PC X .Gt a b (tGt ta tb) := pc_int ha hb fun _ _ _ _ _ _ h => gt_int h
theorem pc_ge (ha : PE X a ta) (hb : PE X b tb) : PC X .GtE a b (tGe ta tb) := pc_int ha hb fun _ _ _ _ _ _ h => ge_int h
theorem pc_eqI (ha : PE X a ta) (hb : PE X b tb) : PC X .Eq a b (tEqI ta tb) := pc_int ha hb fun _ _ _ _ _ _ h => eq_int (by rw [Bool.beq_eq_decide_eq]; exact h)
theorem pc_neI (ha : PE X a ta) (hb : PE X b tb) : PC X .NotEq a b (tNeI ta tb) := pc_int ha hb fun _ _ _ _ _ _ h => ne_int (by rw [bne, Bool.beq_eq_decide_eq]; exact h)
/-- is None -/
def tIsN (ta : TE) : TE := fun σ H Q => ta σ H fun x H1 => Q (.bl (decide (x = .non))) H1
def tNotN (ta : TE) : TE := fun σ H Q => ta σ H fun x H1 => Q (.bl (!decide (x = .non))) H1
theorem RelV.none_iff {x : V} {v : Value} (r : RelV x v) : (v == Value.none) = decide (x = .non) := by
  cases x with
  | non => cases r; rfl
  | bl _ => cases r; rfl
  | int _ => obtain ⟨t, rfl⟩ := r; rfl
  | str _ => obtain ⟨t, rfl⟩ := r; rfl
  | byt _ => obtain ⟨t, rfl⟩ := r; rfl
  | flt _ => obtain ⟨t, rfl⟩ := r; rfl
  | ref _ => cases r; rfl
  | ty _ => cases r; rfl
theorem pc_isN {j pos'} (ha : PE X a ta) : PC X .Is a (.Constant .none j pos') (tIsN ta) := by
  intro pins s σ H Q I h
  refine thn (ha pins s σ H _ I h) fun v s1 ⟨x, H1, I1, r1, q1⟩ => ?_
  exact Constant_none (is_none_gen ⟨.bl _, H1, I1, by rw [r1.none_iff]; rfl, q1⟩)
theorem pc_notN {j pos'} (ha : PE X a ta) : PC X .IsNot a (.Constant .none j pos') (tNotN ta) := by
  intro pins s σ H Q I h
  refine thn (ha pins s σ H _ I h) fun v s1 ⟨x, H1, I1, r1, q1⟩ => ?_
  exact Constant_none (isnot_none_gen ⟨.bl _, H1, I1, by rw [r1.none_iff]; rfl, q1⟩)
/-- a comparison as a value, as a test -/
def tB (t : TE) : TT := fun σ H Q => t σ H fun x H1 => ∃ c, x = .bl c ∧ Q c H1
theorem pe_cmp {op : CmpOp} {t : TE} (h : PC X op a b t) (h1 : behindInMarks op b = false := by first | exact nobehind _ (by decide) (by decide) | rfl) : PE X (.Compare a [op] [b] pos) t := fun pins s σ H Q I hw => wpAny_Compare1 (h pins s σ H Q I hw) h1
theorem pt_cmp {op : CmpOp} {t : TE} (h : PC X op a b t) (h1 : behindInMarks op b = false := by first | exact nobehind _ (by decide) (by decide) | rfl) : PT X (.Compare a [op] [b] pos) (tB t) := by
  intro pins s σ H Q I hw
  refine wpAny_isTrue_Compare1 (thn (h pins s σ H _ I hw) fun v s1 h1 => thn h1 fun u s2 h2 => thn h2 fun c s3 ⟨x, H1, I1, r1, q1⟩ => ?_) h1
  obtain ⟨d, rfl, q⟩ := q1
  cases r1
  exact wpAny_truthy_bool ⟨H1, I1, q⟩
/-- an expression whose value is a bool, as a test -/
theorem pt_val {e : Expr} {t : TE} (h : PE X e t) (he : ∀ whole, isTrue e X.env whole = (do let v ← whole; standAt e.pos; holding [v] (truthy v)) := by intro _; rfl) : PT X e (tB t) := by
  intro pins s σ H Q I hw
  refine isTrue_plain (thn (h pins s σ H _ I hw) fun v s1 ⟨x, H1, I1, r1, q1⟩ => ?_) (he _)
  obtain ⟨d, rfl, q⟩ := q1
  cases r1
  exact wpAny_truthy_bool ⟨H1, I1, q⟩

/-! ### and, or, not -/
variable {tA tB' : TT} {rest : List Expr}
def tAnd (t u : TT) : TT := fun σ H Q => t σ H fun c H1 => if c = true then u σ H1 Q else Q false H1
def tOr (t u : TT) : TT := fun σ H Q => t σ H fun c H1 => if c = true then Q true H1 else u σ H1 Q
def tNot (t : TT) : TT := fun σ H Q => t σ H fun c H1 => Q (!c) H1
theorem pw_and1 (ha : PT X a tA) : PW X (.BoolOp .And [a] pos) tA := by
  intro wh pins s σ H Q I h
  refine isTrue_and (thn (ha pins s σ H Q I h) fun c s1 e => ?_)
  cases c with
  | true => exact isTrue_and_nil e
  | false => exact e
theorem pw_or1 (ha : PT X a tA) : PW X (.BoolOp .Or [a] pos) tA := by
  intro wh pins s σ H Q I h
  refine isTrue_or (thn (ha pins s σ H Q I h) fun c s1 e => ?_)
  cases c with
  | false => exact isTrue_or_nil e
  | true => exact e
theorem pw_and (ha : PT X a tA) (hb : PW X (.BoolOp .And (b :: rest) pos) tB') : PW X (.BoolOp .And (a :: b :: rest) pos) (tAnd tA tB') := by
  intro wh pins s σ H Q I h
  refine isTrue_and (thn (ha pins s σ H _ I h) fun c s1 ⟨H1, I1, q1⟩ => ?_)
  cases c with
  | true => exact hb wh pins s1 σ H1 Q I1 q1
  | false => exact ⟨H1, I1, q1⟩
theorem pw_or (ha : PT X a tA) (hb : PW X (.BoolOp .Or (b :: rest) pos) tB') : PW X (.BoolOp .Or (a :: b :: rest) pos) (tOr tA tB') := by
  intro wh pins s σ H Q I h
  refine isTrue_or (thn (ha pins s σ H _ I h) fun c s1 ⟨H1, I1, q1⟩ => ?_)
  cases c with
  | true => exact ⟨H1, I1, q1⟩
  | false => exact hb wh pins s1 σ H1 Q I1 q1
theorem pt_not (ha : PT X a tA) : PT X (.UnaryOp .Not a pos) (tNot tA) := by
  intro pins s σ H Q I h
  exact isTrue_not (ha pins s σ H (fun c H1 => Q (!c) H1) I h)
/-- .. as values (bools) -/
def tAndV (ta tb : TE) : TE := fun σ H Q => ta σ H fun x H1 => ∃ c, x = .bl c ∧ if c = true then tb σ H1 Q else Q (.bl false) H1
def tOrV (ta tb : TE) : TE := fun σ H Q => ta σ H fun x H1 => ∃ c, x = .bl c ∧ if c = true then Q (.bl true) H1 else tb σ H1 Q
def tNotV (ta : TE) : TE := fun σ H Q => ta σ H fun x H1 => ∃ c, x = .bl c ∧ Q (.bl (!c)) H1
theorem pe_one {op} {t : TE} (h : PE X a t) : PE X (.BoolOp op [a] pos) t := fun pins s σ H Q I hw => BoolOp_one (h pins s σ H Q I hw)
theorem pe_and (ha : PE X a ta) (hb : PE X (.BoolOp .And (b :: rest) pos) tb) : PE X (.BoolOp .And (a :: b :: rest) pos) (tAndV ta tb) := by
  intro pins s σ H Q I h
  refine BoolOp_and (thn (ha pins s σ H _ I h) fun v s1 ⟨x, H1, I1, r1, q1⟩ => ?_)
  obtain ⟨c, rfl, q1⟩ := q1
  cases r1
  refine wpAny_truthy_bool ?_
  cases c with
  | true => exact hb pins s1 σ H1 Q I1 q1
  | false => exact ⟨.bl false, H1, I1, rfl, q1⟩
theorem pe_or (ha : PE X a ta) (hb : PE X (.BoolOp .Or (b :: rest) pos) tb) : PE X (.BoolOp .Or (a :: b :: rest) pos) (tOrV ta tb) := by
  intro pins s σ H Q I h
  refine BoolOp_or (thn (ha pins s σ H _ I h) fun v s1 ⟨x, H1, I1, r1, q1⟩ => ?_)
  obtain ⟨c, rfl, q1⟩ := q1
  cases r1
  refine wpAny_truthy_bool ?_
  cases c with
  | false => exact hb pins s1 σ H1 Q I1 q1
  | true => exact ⟨.bl true, H1, I1, rfl, q1⟩
theorem pe_not (ha : PE X a ta) : PE X (.UnaryOp .Not a pos) (tNotV ta) := by
  intro pins s σ H Q I h
  refine UnaryOp_ (thn (ha pins s σ H _ I h) fun v s1 ⟨x, H1, I1, r1, q1⟩ => ?_)
  obtain ⟨c, rfl, q1⟩ := q1
  cases r1
  exact not_of (wpAny_truthy_bool ⟨.bl (!c), H1, I1, rfl, q1⟩)
/-- a if t else b -/
def tIf (t : TT) (ta tb : TE) : TE := fun σ H Q => t σ H fun c H1 => if c = true then ta σ H1 Q else tb σ H1 Q
theorem pe_ifExp {c : Expr} (hc : PT X c tA) (ha : PE X a ta) (hb : PE X b tb) : PE X (.IfExp c a b pos) (tIf tA ta tb) := by
  intro pins s σ H Q I h
  refine wpAny_IfExp (thn (hc pins s σ H _ I h) fun d s1 ⟨H1, I1, q1⟩ => ?_)
  cases d with
  | true => exact ha pins s1 σ H1 Q I1 q1
  | false => exact hb pins s1 σ H1 Q I1 q1
end
end L2

namespace L2
open PySem PySem.Spec PyProof.Rows

/-! ### a list, a tuple that is read: tracked, frozen, or an object of the module -/
def SqL (K : PySem.W.Frag) (H : Hp) (a : Addr) (xs : List V) : Prop :=
  Rd H a (.lst xs) ∨
    ∃ (o : Obj) (its : Array Value) (n : Nat), K.lookup a = some o ∧ o.cls = .type "list" ∧ o.dict = none ∧ o.data = .seq its n ∧ its.size ≤ sizeLine ∧ Vals xs its.toList
def SqT (K : PySem.W.Frag) (H : Hp) (a : Addr) (xs : List V) : Prop :=
  Rd H a (.tup xs) ∨
    ∃ (o : Obj) (its : Array Value) (n : Nat), K.lookup a = some o ∧ o.cls = .type "tuple" ∧ o.data = .seq its n ∧ its.size ≤ sizeLine ∧ Vals xs its.toList
def absV : Value → Option V
  | .none => some .non
  | .bool b => some (.bl b)
  | .int i _ => some (.int i)
  | .str x _ => some (.str x)
  | .bytes b _ => some (.byt b)
  | .float b _ => some (.flt b)
  | .ref a => some (.ref a)
  | .type n => some (.ty n)
  | _ => none
theorem RelV.abs {x : V} {u : Value} (r : RelV x u) : absV u = some x := by
  cases x with
  | non => cases r; rfl
  | bl _ => cases r; rfl
  | int _ => obtain ⟨t, rfl⟩ := r; rfl
  | str _ => obtain ⟨t, rfl⟩ := r; rfl
  | byt _ => obtain ⟨t, rfl⟩ := r; rfl
  | flt _ => obtain ⟨t, rfl⟩ := r; rfl
  | ref _ => cases r; rfl
  | ty _ => cases r; rfl
theorem RelV.inj {x y : V} {u : Value} (r : RelV x u) (q : RelV y u) : x = y := Option.some.inj (r.abs.symm.trans q.abs)
theorem Vals.inj : ∀ {xs ys : List V} {us : List Value}, Vals xs us → Vals ys us → xs = ys
  | _, _, _, .nil, .nil => rfl
  | _, _, _, .cons r t, .cons r' t' => by rw [r.inj r', Vals.inj t t']
section
variable {X : Cx} {pins : List (Addr × Obj)} {σ : St} {H : Hp} {s : Shared} {a : Addr} {xs ys : List V}
theorem SqL.of {K : PySem.W.Frag} (h : H a = some (.lst xs)) : SqL K H a xs := .inl (.inl h)
theorem SqT.of {K : PySem.W.Frag} (h : H a = some (.tup xs)) : SqT K H a xs := .inl (.inl h)
theorem Inv.list (I : Inv X pins σ H s) (h : SqL X.K H a xs) : ∃ its : List Value, Vals xs its ∧ PlainL s.heap a its.toArray ∧ xs.length ≤ sizeLine := by
  rcases h with h | ⟨o, its, n, hk, hc, hd, hs, hz, r⟩
  · obtain ⟨z, its, n, r, e⟩ := h.ok I.hok
    exact ⟨its, r, ⟨_, n, e, rfl, rfl, rfl⟩, z⟩
  · refine ⟨its.toList, r, ⟨o, n, I.kIn a o hk, hc, hd, by simpa using hs⟩, ?_⟩
    have e := r.length
    simp only [Array.length_toList] at e
    omega
theorem Inv.tuple (I : Inv X pins σ H s) (h : SqT X.K H a xs) : ∃ its : List Value, Vals xs its ∧ IsTup s.heap a its.toArray ∧ xs.length ≤ sizeLine := by
  rcases h with h | ⟨o, its, n, hk, hc, hs, hz, r⟩
  · obtain ⟨z, its, r, p⟩ := h.ok I.hok
    exact ⟨its, r, p, z⟩
  · refine ⟨its.toList, r, ⟨o, I.kIn a o hk, hc, n, by simpa using hs⟩, ?_⟩
    have e := r.length
    simp only [Array.length_toList] at e
    omega
theorem Inv.list_inj (I : Inv X pins σ H s) (h : SqL X.K H a xs) (h' : SqL X.K H a ys) : xs = ys := by
  obtain ⟨its, r, ⟨o, n, e, _, _, d⟩, _⟩ := I.list h
  obtain ⟨its', r', ⟨o', n', e', _, _, d'⟩, _⟩ := I.list h'
  rw [e] at e'; cases e'
  rw [d] at d'
  injection d' with d1 _
  have : its = its' := by simpa using congrArg Array.toList d1
  subst this
  exact r.inj r'
theorem Inv.tuple_inj (I : Inv X pins σ H s) (h : SqT X.K H a xs) (h' : SqT X.K H a ys) : xs = ys := by
  obtain ⟨its, r, ⟨o, e, _, n, d⟩, _⟩ := I.tuple h
  obtain ⟨its', r', ⟨o', e', _, n', d'⟩, _⟩ := I.tuple h'
  rw [e] at e'; cases e'
  rw [d] at d'
  injection d' with d1 _
  have : its = its' := by simpa using congrArg Array.toList d1
  subst this
  exact r.inj r'
end

/-! ### another wish about exceptions -/
abbrev Cx.wish (X : Cx) (E : Value → Shared → Prop) : Cx := { X with xe := E }
/-- no exception leaves -/
abbrev Cx.nox (X : Cx) : Cx := X.wish fun _ _ => False
theorem Cx.Ok.wish {X : Cx} (ok : X.Ok) (E : Value → Shared → Prop) : (X.wish E).Ok :=
  ⟨ok.mod, ok.kind, ok.glob, ok.blt, ok.above, ok.inj, ok.has, ok.cab, ok.hd, ok.frames, ok.stk, ok.exf, ok.bs, ok.bsz, ok.noex, ok.exfs, ok.funs, ok.frf⟩
theorem Cx.Ok.unwish {X : Cx} {E : Value → Shared → Prop} (ok : (X.wish E).Ok) : X.Ok :=
  ⟨ok.mod, ok.kind, ok.glob, ok.blt, ok.above, ok.inj, ok.has, ok.cab, ok.hd, ok.frames, ok.stk, ok.exf, ok.bs, ok.bsz, ok.noex, ok.exfs, ok.funs, ok.frf⟩
section
variable {X : Cx} {pins : List (Addr × Obj)} {σ : St} {H : Hp} {s : Shared} {E : Value → Shared → Prop}
theorem Inv.wish (I : Inv X pins σ H s) (E : Value → Shared → Prop) : Inv (X.wish E) pins σ H s := ⟨I.ok.wish E, I.os, I.bare, I.base, I.loc, I.cell, I.free, I.freeC, I.pin, I.hok, I.len⟩
theorem Inv.unwish (I : Inv (X.wish E) pins σ H s) : Inv X pins σ H s := ⟨I.ok.unwish, I.os, I.bare, I.base, I.loc, I.cell, I.free, I.freeC, I.pin, I.hok, I.len⟩
theorem SP.unwish {D : Ends} {f : Flow} {s' : Shared} (h : SP (X.wish E) pins D f s') : SP X pins D f s' := by
  cases f with
  | next => obtain ⟨σ', H', I, q⟩ := h; exact ⟨σ', H', I.unwish, q⟩
  | brk => obtain ⟨σ', H', I, q⟩ := h; exact ⟨σ', H', I.unwish, q⟩
  | cont => obtain ⟨σ', H', I, q⟩ := h; exact ⟨σ', H', I.unwish, q⟩
  | ret u => obtain ⟨v, σ', H', I, r, q⟩ := h; exact ⟨v, σ', H', I.unwish, r, q⟩
theorem PE.nox {e : Expr} {t : TE} (h : PE X.nox e t) : PE X e t := fun pins s σ H Q I hw =>
  wpAny_mono (h pins s σ H Q (I.wish _) hw) (fun _ _ ⟨v, H', I', r, q⟩ => ⟨v, H', I'.unwish, r, q⟩) fun _ _ z => False.elim z
theorem PT.nox {e : Expr} {t : TT} (h : PT X.nox e t) : PT X e t := fun pins s σ H Q I hw =>
  wpAny_mono (h pins s σ H Q (I.wish _) hw) (fun _ _ ⟨H', I', q⟩ => ⟨H', I'.unwish, q⟩) fun _ _ z => False.elim z
theorem PSs.nox {st : List Stmt} {t : TS} (h : PSs X.nox st t) : PSs X st t := fun pins s σ H D I hw =>
  wpAny_mono (h pins s σ H D (I.wish _) hw) (fun _ _ q => q.unwish) fun _ _ z => False.elim z
end

/-! ### blocks and small statements -/
section
variable {X : Cx} {st : Stmt} {rest : List Stmt} {t u : TS} {e : Expr} {te : TE} {pos : Pos}
def tNext : TS := fun D σ H => D.nx σ H
def tSeq (t u : TS) : TS := fun D σ H => t { D with nx := u D } σ H
theorem pss_nil : PSs X [] tNext := fun _ _ σ H _ I h => wpAny_execs_nil ⟨σ, H, I, h⟩
theorem pss_cons (h1 : PS X st t) (h2 : PSs X rest u) : PSs X (st :: rest) (tSeq t u) := by
  intro pins s σ H D I h
  refine wpAny_execs_cons (thn (h1 pins s σ H { D with nx := u D } I h) fun f s1 q => ?_)
  cases f with
  | next =>
    obtain ⟨σ', H', I', q⟩ := q
    exact h2 pins s1 σ' H' D I' q
  | ret v => exact q
  | brk => exact q
  | cont => exact q
theorem pss_one (h1 : PS X st t) : PSs X [st] t := by
  intro pins s σ H D I h
  refine wpAny_execs_cons (thn (h1 pins s σ H D I h) fun f s1 q => ?_)
  cases f with
  | next => exact wpAny_execs_nil q
  | ret v => exact q
  | brk => exact q
  | cont => exact q
def tBreak : TS := fun D σ H => D.bk σ H
def tCont : TS := fun D σ H => D.ct σ H
theorem ps_pass : PS X (.Pass pos) tNext := fun _ _ σ H _ I h => wpAny_Pass ⟨σ, H, I, h⟩
theorem ps_break : PS X (.Break pos) tBreak := fun _ _ σ H _ I h => wpAny_Break ⟨σ, H, I, h⟩
theorem ps_continue : PS X (.Continue pos) tCont := fun _ _ σ H _ I h => wpAny_Continue ⟨σ, H, I, h⟩
/-- in a def's body nothing is shown -/
theorem Inv.quiet {pins : List (Addr × Obj)} {σ : St} {H : Hp} {s : Shared} (I : Inv X pins σ H s) : interactive X.env = false := by simp [interactive, I.ok.kind]
/-- a docstring -/
theorem ps_doc {x j pos pos'} : PS X (.Expr (.Constant (.str x) j pos) pos') tNext := fun _ s σ H _ I h => wpAny_Expr (Calls.Constant_str (show SP X _ _ .next { s with toks := s.toks + 1 } from ⟨σ, H, I.tok _, h⟩)) I.quiet
/-- an expression whose value is dropped -/
def tDrop (te : TE) : TS := fun D σ H => te σ H fun _ H1 => D.nx σ H1
theorem ps_expr (he : PE X e te) (hs : swapsWith e none pos.line X.env = pure false := by rfl) : PS X (.Expr e pos) (tDrop te) := by
  intro pins s σ H D I h
  exact wpAny_Expr_any (thn (he pins s σ H _ I h) fun v s1 ⟨x, H1, I1, r1, q1⟩ => ⟨σ, H1, I1, q1⟩) I.quiet hs
def tRet (te : TE) : TS := fun D σ H => te σ H D.rt
theorem ps_ret (he : PE X e te) : PS X (.Return (some e) pos) (tRet te) := by
  intro pins s σ H D I h
  exact wpAny_Return_some (thn (he pins s σ H _ I h) fun v s1 ⟨x, H1, I1, r1, q1⟩ => ⟨x, σ, H1, I1, r1, q1⟩)
def tRetN : TS := fun D _ H => D.rt .non H
theorem ps_retN : PS X (.Return none pos) tRetN := fun _ _ σ H _ I h => wpAny_Return_none ⟨.non, σ, H, I, rfl, h⟩
def tIfS (c : TT) (t u : TS) : TS := fun D σ H => c σ H fun b H1 => if b = true then t D σ H1 else u D σ H1
theorem ps_if {c : Expr} {a b : List Stmt} {tc : TT} (hc : PT X c tc) (ha : PSs X a t) (hb : PSs X b u) : PS X (.If c a b pos) (tIfS tc t u) := by
  intro pins s σ H D I h
  refine wpAny_If (thn (hc pins s σ H _ I h) fun d s1 ⟨H1, I1, q1⟩ => ?_)
  cases d with
  | true => exact ha pins s1 σ H1 D I1 q1
  | false => exact hb pins s1 σ H1 D I1 q1
/-- code that the proof never comes to -/
def tNever : TS := fun _ _ _ => False
theorem ps_never : PS X st tNever := fun _ _ _ _ _ _ h => h.elim
theorem pss_never {sts : List Stmt} : PSs X sts tNever := fun _ _ _ _ _ _ h => h.elim
end

/-! ### targets -/
abbrev TG := V → St → Hp → (St → Hp → Prop) → Prop
abbrev TGs := List V → St → Hp → (St → Hp → Prop) → Prop
def PG (X : Cx) (target : Expr) (t : TG) : Prop :=
  ∀ (pins : List (Addr × Obj)) (s : Shared) (σ : St) (H : Hp) (v : V) (u : Value) (Q : St → Hp → Prop), Inv X pins σ H s → RelV v u → t v σ H Q →
    wpAny (model X.prog X.w) X.A (assign target X.env u) (fun _ s' => ∃ σ' H', Inv X pins σ' H' s' ∧ Q σ' H') X.xe s
/-- several targets, one after another -/
def PGs (X : Cx) (ts : List Expr) (t : TGs) : Prop :=
  ∀ (pins : List (Addr × Obj)) (s : Shared) (σ : St) (H : Hp) (vs : List V) (us : List Value) (Q : St → Hp → Prop), Inv X pins σ H s → Vals vs us → t vs σ H Q →
    wpAny (model X.prog X.w) X.A (assignInOrder ((assignEach ts X.env).map (·.2)) us) (fun _ s' => ∃ σ' H', Inv X pins σ' H' s' ∧ Q σ' H') X.xe s
/-- o[i] = v, by values -/
abbrev TSet := V → V → V → Hp → (Hp → Prop) → Prop
def PSet (X : Cx) (t : TSet) : Prop :=
  ∀ (pins : List (Addr × Obj)) (s : Shared) (σ : St) (H : Hp) (o i v : V) (ov iv u : Value) (Q : Hp → Prop), Inv X pins σ H s → RelV o ov → RelV i iv → RelV v u → t o i v H Q →
    wpAny (model X.prog X.w) X.A (setItem ov iv u) (fun _ s' => ∃ H', Inv X pins σ H' s' ∧ Q H') X.xe s
/-- a op= b, by values -/
abbrev TIp := V → V → Hp → VK → Prop
def PIp (X : Cx) (op : Operator) (t : TIp) : Prop :=
  ∀ (pins : List (Addr × Obj)) (s : Shared) (σ : St) (H : Hp) (x y : V) (v u : Value) (Q : VK), Inv X pins σ H s → RelV x v → RelV y u → t x y H Q →
    wpAny (model X.prog X.w) X.A (inplaceOp op v u) (EP X pins σ Q) X.xe s
section
variable {X : Cx} {pos : Pos}
def gName (i : Nat) : TG := fun v σ H Q => Q (σ.set i (some v)) H
theorem pg_name {i : Nat} {x : Str} (hN : X.N.Nodup) (hi : X.N[i]? = some x) (hx : Loc X.env.scope x) (hf : X.fn x = true ∨ X.env.scope.names.lookup x = some .local := by first | exact .inl rfl | exact .inr rfl | assumption) : PG X (.Name x pos) (gName i) := by
  intro pins s σ H v u Q I r h
  exact wpAny_assign_Name (store_ok I hN hi hx r (fun s' I' => ⟨_, H, I', h⟩) hf)
def gNil : TGs := fun vs σ H Q => vs = [] ∧ Q σ H
def gCons (t : TG) (u : TGs) : TGs := fun vs σ H Q => ∃ v r, vs = v :: r ∧ t v σ H fun σ' H' => u r σ' H' Q
theorem pgs_nil : PGs X [] gNil := by
  intro pins s σ H vs us Q I r h
  obtain ⟨e, h⟩ := h
  subst e
  cases r
  exact assignInOrder_nil ⟨σ, H, I, h⟩
theorem pgs_cons {e : Expr} {es : List Expr} {t : TG} {u : TGs} (h1 : PG X e t) (h2 : PGs X es u)
    (hs : (assignEach (e :: es) X.env).map (·.2) = assign e X.env :: (assignEach es X.env).map (·.2) := by rfl) : PGs X (e :: es) (gCons t u) := by
  intro pins s σ H vs us Q I r h
  obtain ⟨v, vr, e1, h⟩ := h
  subst e1
  cases r with
  | cons r rr =>
    rw [hs]
    refine assignInOrder_cons (thn (h1 pins s σ H _ _ _ I r h) fun _ s1 ⟨σ1, H1, I1, q1⟩ => ?_)
    exact h2 pins s1 σ1 H1 _ _ Q I1 rr q1
/-- (a, b, ..) = a tuple of that length -/
def gTup (K : PySem.W.Frag) (n : Nat) (t : TGs) : TG := fun v σ H Q => ∃ a xs, v = .ref a ∧ SqT K H a xs ∧ xs.length = n ∧ t xs σ H Q
theorem pg_tup {es : List Expr} {k : Nat} {t : TGs} {n : Nat} (hc : X.calm = true) (h : PGs X es t)
    (hn : (assignEach es X.env).length = n := by rfl) (hst : (assignEach es X.env).findIdx? (·.1) = none := by rfl) : PG X (.Tuple es k pos) (gTup X.K n t) := by
  intro pins s σ H v u Q I r hw
  obtain ⟨a, xs, e1, hq, hl, hw⟩ := hw
  subst e1
  cases r
  obtain ⟨its, rv, ht, hz⟩ := I.tuple hq
  refine assign_Tuple_tuple (I.ok.hd hc) ht (by simp [hn, ← hl, rv.length]) hst fun h' hx => ?_
  have I1 : Inv X pins σ H { s with heap := h' } := I.kept (t' := s.toks) fun b o e => hx b o (Nat.ne_of_lt (Heap.lt_size e)) e
  exact h pins _ σ H xs _ Q I1 (by simpa using rv) hw
/-- o[i] = .. -/
def gSub (to ti : TE) (t : TSet) : TG := fun v σ H Q => to σ H fun o H1 => ti σ H1 fun i H2 => t o i v H2 fun H3 => Q σ H3
theorem pg_sub {o i : Expr} {to ti : TE} {t : TSet} (ho : PE X o to) (hi : PE X i ti) (hs : PSet X t)
    (ha : ∀ v, assign (.Subscript o i pos) X.env v = (do
      let ov ← holding [v] (eval o X.env)
      let iv ← holding [v, ov] (eval i X.env)
      standAt pos
      holding [v, ov, iv] (setItem ov iv v)
      release [v, ov, iv] []) := by intro _; rfl) : PG X (.Subscript o i pos) (gSub to ti t) := by
  intro pins s σ H v u Q I r h
  rw [ha]
  refine wpAny_bind (wpAny_holding (thn (ho pins s σ H _ I h) fun ov s1 ⟨x, H1, I1, r1, q1⟩ => ?_))
  refine wpAny_bind (wpAny_holding (thn (hi pins s1 σ H1 _ I1 q1) fun iv s2 ⟨y, H2, I2, r2, q2⟩ => ?_))
  refine wpAny_bind (wpAny_standAt (wpAny_bind (wpAny_holding (thn (hs pins s2 σ H2 x y v ov iv u _ I2 r1 r2 r q2) fun _ s3 ⟨H3, I3, q3⟩ => ?_))))
  exact wpAny_release ⟨σ, H3, I3, q3⟩
/-- target = value -/
def tAsg (te : TE) (g : TG) : TS := fun D σ H => te σ H fun x H1 => g x σ H1 D.nx
theorem ps_asg {tg e : Expr} {te : TE} {g : TG} (he : PE X e te) (hg : PG X tg g) (hs : swapsWithSole [tg] e pos.line X.env = pure false := by rfl) (hw : swappedStores [tg] e X.env = pure none := by rfl)
    (h1 : (assignEach [tg] X.env).map (·.2) = [assign tg X.env] := by rfl) : PS X (.Assign [tg] e pos) (tAsg te g) := by
  intro pins s σ H D I h
  refine wpAny_Assign_stores (thn (he pins s σ H _ I h) fun v s1 ⟨x, H1, I1, r1, q1⟩ => ?_) hs hw
  rw [h1]
  exact thn (hg pins s1 σ H1 x v _ I1 r1 q1) fun _ s2 q => q
/-- name = value -/
theorem ps_set {i : Nat} {x : Str} {e : Expr} {te : TE} {pos' : Pos} (hN : X.N.Nodup) (hi : X.N[i]? = some x) (hx : Loc X.env.scope x) (he : PE X e te) (hs : swapsWith e (some (.Name x pos')) pos.line X.env = pure false := by rfl) (hf : X.fn x = true ∨ X.env.scope.names.lookup x = some .local := by first | exact .inl rfl | exact .inr rfl | assumption) :
    PS X (.Assign [.Name x pos'] e pos) (tAsg te (gName i)) := by
  intro pins s σ H D I h
  refine wpAny_Assign_Name (thn (he pins s σ H _ I h) fun v s1 ⟨y, H1, I1, r1, q1⟩ => ?_) hs
  exact store_ok I1 hN hi hx r1 (fun s2 I2 => ⟨_, H1, I2, q1⟩) hf
/-- a, b = x, y with plain local names: stored from the right; the pair itself is not tracked (the opening rows as in PyProof/Rows/TupAssign.lean:23) -/
def tPar (i j : Nat) (ta : TA) : TS := fun D σ H => ta σ H fun vs H1 => ∃ v w, vs = [v, w] ∧ D.nx ((σ.set i (some v)).set j (some w)) H1
theorem ps_par {i j : Nat} {x y : Str} {a b : Expr} {ta : TA} {px py pt : Pos} {kt k2 pt2} (hc : X.calm = true) (hN : X.N.Nodup) (hi : X.N[i]? = some x) (hj : X.N[j]? = some y) (hij : i ≠ j)
    (hx : X.env.scope.names.lookup x = some .local) (hy : X.env.scope.names.lookup y = some .local) (ha : PA X [a, b] ta)
    (hw : swappedStores [.Tuple [.Name x px, .Name y py] kt pt] (.Tuple [a, b] k2 pt2) X.env = pure (some [x, y]))
    (hs : swapsWithSole [.Tuple [.Name x px, .Name y py] kt pt] (.Tuple [a, b] k2 pt2) pos.line X.env = pure false := by rfl) :
    PS X (.Assign [.Tuple [.Name x px, .Name y py] kt pt] (.Tuple [a, b] k2 pt2) pos) (tPar i j ta) := by
  intro pins s σ H D I h
  rw [exec_Assign_arm]
  refine wpAny_bind (wpAny_standAt ?_)
  rw [hs]
  refine wpAny_bind (wpAny_pure ?_)
  rw [if_neg (by decide)]
  refine wpAny_bind (Tuple_ (thn (ha _ pins s σ H _ I h) fun us s1 ⟨vs, H1, I1, r1, q1⟩ => ?_))
  obtain ⟨v, w, e1, q1⟩ := q1
  subst e1
  obtain ⟨u1, u2, rfl, rv, rw'⟩ : ∃ u1 u2, us = [u1, u2] ∧ RelV v u1 ∧ RelV w u2 := by
    cases r1 with
    | cons p q =>
      cases q with
      | cons p' q' =>
        cases q'
        exact ⟨_, _, rfl, p, p'⟩
  refine wpAny_newObj_type ?_ (by show 2 ≤ sizeLine; decide)
  have I2 : Inv X pins σ H1 { s1 with heap := s1.heap.push { cls := .type "tuple", data := .seq [u1, u2].toArray } } := I1.kept (t' := s1.toks) fun b o e => Heap.get?_push_of_some _ e
  rw [hw]
  refine wpAny_bind (wpAny_pure ?_)
  show wpAny (model X.prog X.w) X.A (do rule "assign.swapped-stores"; let items ← unpackItems (.ref s1.heap.objs.size) 2 none; assignInOrder [fun v => bindName X.env y v, fun v => bindName X.env x v] items.reverse; pure Flow.next) _ _ _
  refine wpAny_bind (wpAny_rule (wpAny_bind (unpackItems_tuple (items := #[u1, u2]) (I.ok.hd hc) (IsTup.new s1.heap _) fun h' hx' => ?_)))
  have I3 := I2.kept (h' := h') (t' := s1.toks) fun b o e => hx' b o (Nat.ne_of_lt (Heap.lt_size e)) e
  show wpAny _ _ (assignInOrder [fun v => bindName X.env y v, fun v => bindName X.env x v] [u2, u1] >>= fun _ => pure Flow.next) _ _ _
  refine wpAny_bind (assignInOrder_cons (wpAny_bindName (store_ok I3 hN hj (.inl hy) rw' (fun s2 I4 => ?_) (.inr hy))))
  refine assignInOrder_cons (wpAny_bindName (store_ok I4 hN hi (.inl hx) rv (fun s3 I5 => assignInOrder_nil (wpAny_pure ?_)) (.inr hx)))
  rw [List.set_comm _ _ (Ne.symm hij)] at I5
  exact ⟨_, H1, I5, q1⟩
/-- name op= e -/
def tAug (i : Nat) (te : TE) (ti : TIp) : TS := fun D σ H => ∃ x, σ[i]? = some (some x) ∧ te σ H fun y H1 => ti x y H1 fun z H2 => D.nx (σ.set i (some z)) H2
theorem ps_aug {i : Nat} {x : Str} {e : Expr} {te : TE} {op : Operator} {ti : TIp} {pos' : Pos} (hN : X.N.Nodup) (hi : X.N[i]? = some x) (hx : Loc X.env.scope x) (he : PE X e te) (ho : PIp X op ti) (hf : X.fn x = true ∨ X.env.scope.names.lookup x = some .local := by first | exact .inl rfl | exact .inr rfl | assumption) :
    PS X (.AugAssign (.Name x pos') op e pos) (tAug i te ti) := by
  intro pins s σ H D I h
  obtain ⟨v, e1, h⟩ := h
  obtain ⟨m, hn, hl⟩ := I.loc
  have vis : Vis X.env.scope x := by rcases hx with k | k; exact .inl k; exact .inr (.inl k)
  obtain ⟨u, r, l⟩ := hl i x v hi e1 vis
  refine wpAny_AugAssign_Name ?_
  have go : wpAny (model X.prog X.w) X.A (eval e X.env) (fun w s₂ => wpAny (model X.prog X.w) X.A (inplaceOp op u w) (fun r s₃ => wpAny (model X.prog X.w) X.A (storeName X.env x r) (fun _ => SP X pins D .next) X.xe s₃) X.xe s₂) X.xe s := by
    refine thn (he pins s σ H _ I h) fun w s1 ⟨y, H1, I1, r1, q1⟩ => ?_
    refine thn (ho pins s1 σ H1 v y u w _ I1 r r1 q1) fun z s2 ⟨zv, H2, I2, r2, q2⟩ => ?_
    exact store_ok I2 hN hi hx r2 (fun s3 I3 => ⟨_, H2, I3, q2⟩) hf
  rcases l with ⟨hk, hm⟩ | ⟨hk, c, hc, hcell⟩
  · exact wpAny_loadName_local I.ok.kind hk hn hm go
  · rcases hk with hk | hk
    · exact wpAny_loadName_cell I.ok.kind hk hc hcell go
    · rcases hx with k | k
      · have : X.env.scope.names.lookup x = some .free := hk
        rw [k] at this; cases this
      · have : X.env.scope.names.lookup x = some .free := hk
        rw [k] at this; cases this
/-- o[i] op= e -/
def tAugS (to ti te : TE) (tget : V → V → Hp → VK → Prop) (tip : TIp) (tset : TSet) : TS := fun D σ H => to σ H fun o H1 => ti σ H1 fun i H2 => tget o i H2 fun x H3 => te σ H3 fun y H4 => tip x y H4 fun z H5 => tset o i z H5 fun H6 => D.nx σ H6
/-- o[i], by values -/
def PGet (X : Cx) (t : V → V → Hp → VK → Prop) : Prop :=
  ∀ (pins : List (Addr × Obj)) (s : Shared) (σ : St) (H : Hp) (o i : V) (ov iv : Value) (Q : VK), Inv X pins σ H s → RelV o ov → RelV i iv → t o i H Q →
    wpAny (model X.prog X.w) X.A (getItem ov iv) (EP X pins σ Q) X.xe s
theorem ps_augS {o i e : Expr} {to ti te : TE} {tget : V → V → Hp → VK → Prop} {tip : TIp} {tset : TSet} {op : Operator} {tpos : Pos} (ho : PE X o to) (hi : PE X i ti) (hg : PGet X tget) (he : PE X e te) (hp : PIp X op tip) (hs : PSet X tset)
    (ha : ∀ ov iv new, augStore i ov iv new = (do holding [new, ov, iv] (setItem ov iv new); release [new, ov, iv] []; pure .next) := by intros; rfl) : PS X (.AugAssign (.Subscript o i tpos) op e pos) (tAugS to ti te tget tip tset) := by
  intro pins s σ H D I h
  refine wpAny_AugAssign_SubscriptAny (thn (ho pins s σ H _ I h) fun ov s1 ⟨x1, H1, I1, r1, q1⟩ => ?_) ha
  refine thn (hi pins s1 σ H1 _ I1 q1) fun iv s2 ⟨x2, H2, I2, r2, q2⟩ => ?_
  refine thn (hg pins s2 σ H2 x1 x2 ov iv _ I2 r1 r2 q2) fun old s3 ⟨x3, H3, I3, r3, q3⟩ => ?_
  refine thn (he pins s3 σ H3 _ I3 q3) fun v s4 ⟨x4, H4, I4, r4, q4⟩ => ?_
  refine thn (hp pins s4 σ H4 x3 x4 old v _ I4 r3 r4 q4) fun new s5 ⟨x5, H5, I5, r5, q5⟩ => ?_
  exact thn (hs pins s5 σ H5 x1 x2 x5 ov iv new _ I5 r1 r2 r5 q5) fun _ s6 ⟨H6, I6, q6⟩ => ⟨σ, H6, I6, q6⟩
/-- ints -/
def ipI (f : Int → Int → Int) : TIp := fun x y H Q => ∃ i j, x = .int i ∧ y = .int j ∧ Q (.int (f i j)) H
theorem ip_add : PIp X .Add (ipI fun i j => i + j) := by
  intro pins s σ H x y v u Q I r1 r2 h
  obtain ⟨i, j, e1, e2, q⟩ := h
  subst e1; subst e2
  obtain ⟨t, rfl⟩ := r1
  obtain ⟨t', rfl⟩ := r2
  exact iadd_int ⟨.int _, H, I.tok _, ⟨_, rfl⟩, q⟩
theorem ip_sub : PIp X .Sub (ipI fun i j => i - j) := by
  intro pins s σ H x y v u Q I r1 r2 h
  obtain ⟨i, j, e1, e2, q⟩ := h
  subst e1; subst e2
  obtain ⟨t, rfl⟩ := r1
  obtain ⟨t', rfl⟩ := r2
  exact isub_int ⟨.int _, H, I.tok _, ⟨_, rfl⟩, q⟩
end

/-! ### while -/
section
variable {X : Cx} {pos : Pos}
/-- the invariant W with its measure -/
def tWhile (c : TT) (tb : TS) : TS := fun D σ H => ∃ W : Nat → St → Hp → Prop, (∃ m, W m σ H) ∧ ∀ m σ H, W m σ H →
  c σ H fun b H1 => if b = true then ∃ N : St → Hp → Prop, (∀ σ' H', N σ' H' → ∃ m', m' < m ∧ W m' σ' H') ∧ tb { D with nx := N, ct := N, bk := D.nx } σ H1 else D.nx σ H1
theorem ps_while {c : Expr} {body : List Stmt} {tc : TT} {tb : TS} (hp : PassesOwn (model X.prog X.w) X.A X.env X.xe) (hc : PT X c tc) (hb : PSs X body tb) : PS X (.While c body [] pos) (tWhile tc tb) := by
  intro pins s σ H D I h
  obtain ⟨W, ⟨m0, w0⟩, turn⟩ := h
  refine wpAny_While (codeAny_whileLoop (fun n s' => ∃ σ' H', Inv X pins σ' H' s' ∧ W n σ' H') ?_ m0 ⟨σ, H, I, w0⟩)
  rintro n s1 ⟨σ1, H1, I1, w1⟩
  refine wpAny_passesOwn hp (thn (hc pins s1 σ1 H1 _ I1 (turn n σ1 H1 w1)) fun b s2 ⟨H2, I2, q2⟩ => ?_)
  cases b with
  | true =>
    obtain ⟨N, hN, q2⟩ := q2
    rw [if_pos rfl]
    refine wpAny_passesOwn hp (thn (hb pins s2 σ1 H2 _ I2 q2) fun f s3 q3 => ?_)
    cases f with
    | next =>
      obtain ⟨σ3, H3, I3, n3⟩ := q3
      obtain ⟨m', hm, w3⟩ := hN σ3 H3 n3
      exact ⟨m', hm, σ3, H3, I3, w3⟩
    | cont =>
      obtain ⟨σ3, H3, I3, n3⟩ := q3
      obtain ⟨m', hm, w3⟩ := hN σ3 H3 n3
      exact ⟨m', hm, σ3, H3, I3, w3⟩
    | brk => exact q3
    | ret v => exact q3
  | false =>
    rw [if_neg Bool.false_ne_true]
    exact wpAny_execs_nil ⟨σ1, H2, I2, q2⟩
end

/-! ### what a loop or a comprehension walks -/
/-- at turn i: it yields x (the heap may grow), or it stops -/
structure It where
  go : Nat → Hp → Prop
  yld : Nat → Hp → V → Hp → Prop
  stop : Nat → Hp → Prop
/-- the iterator's own objects may turn: they are not the frame's, not pinned, younger than the entry (or a comprehension's own) -/
def FpOk (X : Cx) (pins : List (Addr × Obj)) (H : Hp) (b : Addr) : Prop :=
  H b = none ∧ b ≠ X.env.locals ∧ b ∉ X.fs ∧ (b ∈ X.ex ∨ X.s₀.heap.objs.size ≤ b) ∧ (∀ x c, X.env.cells.lookup x = some c → c ≠ b) ∧ ∀ p ∈ X.pn ++ pins, p.1 ≠ b
theorem Inv.fpOk {X : Cx} {pins : List (Addr × Obj)} {σ : St} {H H' : Hp} {s : Shared} {b : Addr} (I : Inv X pins σ H s) (hb : s.heap.objs.size ≤ b) (hn : H' b = none) : FpOk X pins H' b := by
  refine ⟨hn, Nat.ne_of_gt (Nat.lt_of_lt_of_le I.lt hb), I.nofs hb, .inr (Nat.le_trans I.sz hb), fun x c e z => ?_, fun p hp z => ?_⟩
  · obtain ⟨v, q⟩ := I.cell x c e
    exact absurd (Nat.lt_of_lt_of_le q.lt (by rw [z]; exact hb)) (Nat.lt_irrefl _)
  · exact absurd (Nat.lt_of_lt_of_le (Heap.lt_size (I.pin p hp).1) (by rw [z]; exact hb)) (Nat.lt_irrefl _)
structure Turn (P : Program) (w : World) (K : PySem.W.Frag) (tg : Expr) (J : It) (fp : List Addr) (it : Addr) (tn : Nat → Heap → Prop) : Prop where
  mem : it ∈ fp
  obj : ∀ i h, tn i h → ∀ b ∈ fp, ∃ o, h.get? b = some o ∧ ∀ v, o.data ≠ .cell v
  keep : ∀ i h h', tn i h → (∀ b ∈ fp, ∀ o, h.get? b = some o → h'.get? b = some o) → tn i h'
  item : ∀ (X : Cx), X.prog = P → X.w = w → X.K = K → X.calm = true → ∀ (i : Nat) (pins : List (Addr × Obj)) (s : Shared) (σ : St) (H : Hp) (E : Value → Shared → Prop), Inv X pins σ H s → (∀ b ∈ fp, FpOk X pins H b) → tn i s.heap → J.go i H →
    wpAny (model P w) X.A (pyNext (.ref it)) (fun r s1 => ∃ u, r = some u ∧
      wpAny (model P w) X.A (letOwnedTupleGo tg (.ref it) u) (fun _ s2 => ∃ x H', Inv X pins σ H' s2 ∧ RelV x u ∧ J.yld i H x H' ∧ tn (i + 1) s2.heap ∧ ∀ b ∈ fp, H' b = none) E s1) E s
  done : ∀ (X : Cx), X.prog = P → X.w = w → X.K = K → X.calm = true → ∀ (i : Nat) (pins : List (Addr × Obj)) (s : Shared) (σ : St) (H : Hp) (E : Value → Shared → Prop), Inv X pins σ H s → (∀ b ∈ fp, FpOk X pins H b) → tn i s.heap → J.stop i H →
    wpAny (model P w) X.A (pyNext (.ref it)) (fun r s1 => r = none ∧ Inv X pins σ H s1) E s
  self : ∀ (A : Around) (i : Nat) (s : Shared) (Q : Value → Shared → Prop) (E : Value → Shared → Prop), tn i s.heap → Q (.ref it) s → wpAny (model P w) A (pyIter (.ref it)) Q E s
abbrev TI := St → Hp → (It → Hp → Prop) → Prop
/-- an iterator has come -/
def PIE (X : Cx) (pins : List (Addr × Obj)) (σ : St) (tg : Expr) (R : It → Hp → Prop) (itv : Value) (s2 : Shared) : Prop :=
  ∃ (it : Addr) (fp : List Addr) (tn : Nat → Heap → Prop) (J : It) (H' : Hp), itv = .ref it ∧ Inv X pins σ H' s2 ∧ Turn X.prog X.w X.K tg J fp it tn ∧ tn 0 s2.heap ∧ (∀ b ∈ fp, FpOk X pins H' b) ∧ R J H'
def PI (X : Cx) (tg iter : Expr) (wi : TI) : Prop :=
  ∀ (pins : List (Addr × Obj)) (s : Shared) (σ : St) (H : Hp) (R : It → Hp → Prop), Inv X pins σ H s → wi σ H R →
    wpAny (model X.prog X.w) X.A (eval iter X.env) (fun v s1 => wpAny (model X.prog X.w) X.A (pyIter v) (PIE X pins σ tg R) X.xe s1) X.xe s

/-- the step ahead of the store is nothing for an iterator that keeps no tuple -/
theorem go_of {M : Model} {A : Around} {E : Value → Shared → Prop} {s : Shared} {tg : Expr} {it : Addr} {u : Value} {o : Obj} {n : String} {vs : Array Value} {Q : Unit → Shared → Prop} (ho : s.heap.get? it = some o) (hc : o.cls = .type n) (hd : o.data = .fields vs)
    (hn : ["enumerate", "zip", "dict_itemiterator", "dict_reverseitemiterator", "odict_iterator", "itertools.zip_longest", "itertools.pairwise"].contains n = false) (hQ : Q () s) : wpAny M A (letOwnedTupleGo tg (.ref it) u) Q E s := by
  unfold letOwnedTupleGo
  cases tg <;> first
    | exact wpAny_pure hQ
    | (cases u <;> first
        | exact wpAny_pure hQ
        | (refine wpAny_bind (wpAny_load ho ?_)
           rw [hc, hd]
           show wpAny M A (if (["enumerate", "zip", "dict_itemiterator", "dict_reverseitemiterator", "odict_iterator", "itertools.zip_longest", "itertools.pairwise"].contains n && vs[0]? == some (rawInt _)) = true then _ else _) Q E s
           rw [if_neg (by intro h; rw [hn, Bool.false_and] at h; cases h)]
           exact wpAny_pure hQ))

/-- the list at a, as it stands at each turn (a loop may append to it) -/
def Itl (K : PySem.W.Frag) (a : Addr) : It :=
  ⟨fun i H => ∃ xs x, SqL K H a xs ∧ xs[i]? = some x, fun i H x H' => H' = H ∧ ∀ xs, SqL K H a xs → xs[i]? = some x, fun i H => ∃ xs, SqL K H a xs ∧ xs.length ≤ i⟩
def Itt (K : PySem.W.Frag) (a : Addr) : It :=
  ⟨fun i H => ∃ xs x, SqT K H a xs ∧ xs[i]? = some x, fun i H x H' => H' = H ∧ ∀ xs, SqT K H a xs → xs[i]? = some x, fun i H => ∃ xs, SqT K H a xs ∧ xs.length ≤ i⟩
/-- lo, lo + 1, .. (n of them) -/
def Itr (lo : Int) (n : Nat) : It := ⟨fun i _ => i < n, fun i H x H' => H' = H ∧ x = .int (lo + i), fun i _ => n ≤ i⟩
theorem turn_list {P : Program} {w : World} {K : PySem.W.Frag} {tg : Expr} (a it : Addr) : Turn P w K tg (Itl K a) [it] it (fun i h => h.IsListIter it a i) where
  mem := by simp
  obj := fun i h st b hb => by
    have e : b = it := by simpa using hb
    subst e
    obtain ⟨o, e, c, d⟩ := st
    exact ⟨o, e, fun v z => by rw [d] at z; cases z⟩
  keep := fun i h h' st k => st.at fun o e => k it (by simp) o e
  item := by
    intro X hP hw hK hc i pins s σ H E I hf st hg
    subst hP hw hK
    obtain ⟨xs, x, hq, hx⟩ := hg
    obtain ⟨its, rv, p, hz⟩ := I.list hq
    obtain ⟨u, hu, ru⟩ := rv.get hx
    obtain ⟨f0, f1, f2, f3, f4, f5⟩ := hf it (by simp)
    refine wpAny_pyNext_list_item st p.isList (x := u) (by simpa using hu) fun h' st' sb => ?_
    have I1 : Inv X pins σ H { s with heap := h' } := I.turned (t' := s.toks) (fun b o hb e => (sb.2 b hb).trans e) f0 f1 f3 f4 f5
    obtain ⟨o, e, c, d⟩ := id st'
    exact ⟨u, rfl, go_of (s := { s with heap := h' }) e c d (by decide) ⟨x, H, I1, ru, ⟨rfl, fun ys hy => by rw [I.list_inj hy hq]; exact hx⟩, st', fun b hb => (hf b hb).1⟩⟩
  done := by
    intro X hP hw hK hc i pins s σ H E I hf st hg
    subst hP hw hK
    obtain ⟨xs, hq, hx⟩ := hg
    obtain ⟨its, rv, p, hz⟩ := I.list hq
    obtain ⟨f0, f1, f2, f3, f4, f5⟩ := hf it (by simp)
    have hl := rv.length
    exact wpAny_pyNext_list_end (I.ok.hd hc) st p.isList (by simp; omega) fun h' eb => ⟨rfl, I.turned (t' := s.toks) (fun b o hb e => eb b o hb e) f0 f1 f3 f4 f5⟩
  self := fun _ _ _ _ _ st h => wpAny_pyIter_listiter st h
theorem turn_tuple {P : Program} {w : World} {K : PySem.W.Frag} {tg : Expr} (a it : Addr) : Turn P w K tg (Itt K a) [it] it (fun i h => h.IsTupleIter it a i) where
  mem := by simp
  obj := fun i h st b hb => by
    have e : b = it := by simpa using hb
    subst e
    obtain ⟨o, e, c, d⟩ := st
    exact ⟨o, e, fun v z => by rw [d] at z; cases z⟩
  keep := fun i h h' st k => st.at fun o e => k it (by simp) o e
  item := by
    intro X hP hw hK hc i pins s σ H E I hf st hg
    subst hP hw hK
    obtain ⟨xs, x, hq, hx⟩ := hg
    obtain ⟨its, rv, p, hz⟩ := I.tuple hq
    obtain ⟨u, hu, ru⟩ := rv.get hx
    obtain ⟨f0, f1, f2, f3, f4, f5⟩ := hf it (by simp)
    refine wpAny_pyNext_tuple_item st (show s.heap.IsTuple a its.toArray from p) (x := u) (by simpa using hu) fun h' st' sb => ?_
    have I1 : Inv X pins σ H { s with heap := h' } := I.turned (t' := s.toks) (fun b o hb e => (sb.2 b hb).trans e) f0 f1 f3 f4 f5
    obtain ⟨o, e, c, d⟩ := id st'
    exact ⟨u, rfl, go_of (s := { s with heap := h' }) e c d (by decide) ⟨x, H, I1, ru, ⟨rfl, fun ys hy => by rw [I.tuple_inj hy hq]; exact hx⟩, st', fun b hb => (hf b hb).1⟩⟩
  done := by
    intro X hP hw hK hc i pins s σ H E I hf st hg
    subst hP hw hK
    obtain ⟨xs, hq, hx⟩ := hg
    obtain ⟨its, rv, p, hz⟩ := I.tuple hq
    obtain ⟨f0, f1, f2, f3, f4, f5⟩ := hf it (by simp)
    have hl := rv.length
    exact wpAny_pyNext_tuple_end (I.ok.hd hc) st (show s.heap.IsTuple a its.toArray from p) (by simp; omega) fun h' eb => ⟨rfl, I.turned (t' := s.toks) (fun b o hb e => eb b o hb e) f0 f1 f3 f4 f5⟩
  self := fun _ _ _ _ _ st h => wpAny_pyIter_tupleiter st h
theorem turn_range {P : Program} {w : World} {K : PySem.W.Frag} {tg : Expr} (it : Addr) (lo : Int) (n : Nat) : Turn P w K tg (Itr lo n) [it] it (fun i h => IsRangeIter h it (lo + (i : Nat) * 1) ((n : Int) - (i : Nat)) 1) where
  mem := by simp
  obj := fun i h st b hb => by
    have e : b = it := by simpa using hb
    subst e
    exact ⟨_, st, fun v z => by
      have z' : Data.fields _ = Data.cell v := z
      cases z'⟩
  keep := fun i h h' st k => k it (by simp) _ st
  item := by
    intro X hP hw hK hc i pins s σ H E I hf st hg
    subst hP hw hK
    obtain ⟨f0, f1, f2, f3, f4, f5⟩ := hf it (by simp)
    have W := Walks.range (prog := X.prog) (w := X.w) (I.ok.hd hc) it lo 1 n
    refine W.item i s _ _ hg st fun v h' tk hv st' kk => ?_
    obtain ⟨t, rfl⟩ := hv
    have I1 : Inv X pins σ H { s with heap := h', toks := tk } := I.turned (fun b o hb e => kk b o (by simpa using hb) e) f0 f1 f3 f4 f5
    refine ⟨_, rfl, go_of (s := { s with heap := h', toks := tk }) (n := "range_iterator") st' rfl rfl (by decide) ⟨.int (lo + i), H, I1, ⟨t, ?_⟩, ⟨rfl, rfl⟩, st', fun b hb => (hf b hb).1⟩⟩
    rw [Int.mul_one]
  done := by
    intro X hP hw hK hc i pins s σ H E I hf st hg
    subst hP hw hK
    obtain ⟨f0, f1, f2, f3, f4, f5⟩ := hf it (by simp)
    exact wpAny_pyNext_range_end (I.ok.hd hc) st (by have : n ≤ i := hg; omega) fun h' eb => ⟨rfl, I.turned (t' := s.toks) (fun b o hb e => eb b o hb e) f0 f1 f3 f4 f5⟩
  self := fun _ _ _ _ _ st h => wpAny_pyIter_rangeiter st h
end L2

namespace L2
open PySem PySem.Spec PyProof.Rows
section
variable {X : Cx} {tg : Expr}
def iList (K : PySem.W.Frag) (tl : TE) : TI := fun σ H R => tl σ H fun x H1 => ∃ a, x = .ref a ∧ (∃ xs, SqL K H1 a xs) ∧ R (Itl K a) H1
def iTup (K : PySem.W.Frag) (tl : TE) : TI := fun σ H R => tl σ H fun x H1 => ∃ a, x = .ref a ∧ (∃ xs, SqT K H1 a xs) ∧ R (Itt K a) H1
theorem pi_list {l : Expr} {tl : TE} (hl : PE X l tl) : PI X tg l (iList X.K tl) := by
  intro pins s σ H R I h
  refine thn (hl pins s σ H _ I h) fun v s1 ⟨x, H1, I1, r1, q1⟩ => ?_
  obtain ⟨a, e, ⟨xs, hq⟩, q⟩ := q1
  subst e
  cases r1
  obtain ⟨its, rv, p, hz⟩ := I1.list hq
  refine wpAny_pyIter_list p.isList ?_
  refine ⟨s1.heap.objs.size, [s1.heap.objs.size], _, _, H1, rfl, I1.kept (t' := s1.toks) fun b o e => Heap.get?_push_of_some _ e, turn_list a _, ⟨_, Heap.get?_push_size _ rfl, rfl, rfl⟩, fun b hb => ?_, q⟩
  have e : b = s1.heap.objs.size := by simpa using hb
  subst e
  exact I1.fpOk (Nat.le_refl _) (I1.hok.fresh (Nat.le_refl _))
theorem pi_tup {l : Expr} {tl : TE} (hl : PE X l tl) : PI X tg l (iTup X.K tl) := by
  intro pins s σ H R I h
  refine thn (hl pins s σ H _ I h) fun v s1 ⟨x, H1, I1, r1, q1⟩ => ?_
  obtain ⟨a, e, ⟨xs, hq⟩, q⟩ := q1
  subst e
  cases r1
  obtain ⟨its, rv, p, hz⟩ := I1.tuple hq
  refine wpAny_pyIter_tuple (show s1.heap.IsTuple a its.toArray from p) ?_
  refine ⟨s1.heap.objs.size, [s1.heap.objs.size], _, _, H1, rfl, I1.kept (t' := s1.toks) fun b o e => Heap.get?_push_of_some _ e, turn_tuple a _, ⟨_, Heap.get?_push_size _ rfl, rfl, rfl⟩, fun b hb => ?_, q⟩
  have e : b = s1.heap.objs.size := by simpa using hb
  subst e
  exact I1.fpOk (Nat.le_refl _) (I1.hok.fresh (Nat.le_refl _))
/-- a range object just made, walked -/
theorem range_it {pins : List (Addr × Obj)} {σ : St} {H : Hp} {s : Shared} {R : It → Hp → Prop} {E : Value → Shared → Prop} {lo hi : Int} {t u v : Tok} {tk : Nat} (I : Inv X pins σ H s) (h1 : -(2 ^ 62) ≤ lo) (h2 : lo < 2 ^ 62) (h3 : -(2 ^ 62) ≤ hi) (h4 : hi < 2 ^ 62)
    (q : R (Itr lo (hi - lo).toNat) H) : wpAny (model X.prog X.w) X.A (pyIter (.ref s.heap.objs.size)) (PIE X pins σ tg R) E { s with heap := s.heap.push { cls := .type "range", data := .fields #[.int lo t, .int hi u, .int 1 v] }, toks := tk } := by
  refine wpAny_pyIter_range (IsRange.new ..) (small_one h1 h2 h3 h4) ?_
  have I1 : Inv X pins σ H { s with heap := s.heap.push { cls := .type "range", data := .fields #[.int lo t, .int hi u, .int 1 v] }, toks := tk } := I.kept fun b o e => Heap.get?_push_of_some _ e
  refine ⟨(s.heap.push { cls := .type "range", data := .fields #[.int lo t, .int hi u, .int 1 v] }).objs.size, [(s.heap.push { cls := .type "range", data := .fields #[.int lo t, .int hi u, .int 1 v] }).objs.size], _, _, H, rfl,
    I1.kept (t' := tk) fun b o e => Heap.get?_push_of_some _ e, turn_range _ lo (hi - lo).toNat, ?_, fun b hb => ?_, q⟩
  · have e1 : lo + ((0 : Nat) : Int) * 1 = lo := by simp
    have e2 : (((hi - lo).toNat : Nat) : Int) - ((0 : Nat) : Int) = Builtin.Range.rangeSize lo hi 1 := by rw [rangeSize_one]; split <;> omega
    show IsRangeIter _ _ (lo + ((0 : Nat) : Int) * 1) ((((hi - lo).toNat : Nat) : Int) - ((0 : Nat) : Int)) 1
    rw [e1, e2]
    exact Heap.get?_push_size _ rfl
  · have e : b = (s.heap.push { cls := .type "range", data := .fields #[.int lo t, .int hi u, .int 1 v] }).objs.size := by simpa using hb
    subst e
    exact I1.fpOk (Nat.le_refl _) (I1.hok.fresh (Nat.le_refl _))
def iRng1 (ta : TA) : TI := fun σ H R => ta σ H fun vs H1 => ∃ j : Int, vs = [.int j] ∧ -(2 ^ 62) ≤ j ∧ j < 2 ^ 62 ∧ R (Itr 0 j.toNat) H1
def iRng2 (ta : TA) : TI := fun σ H R => ta σ H fun vs H1 => ∃ i j : Int, vs = [.int i, .int j] ∧ (-(2 ^ 62) ≤ i ∧ i < 2 ^ 62 ∧ -(2 ^ 62) ≤ j ∧ j < 2 ^ 62) ∧ R (Itr i (j - i).toNat) H1
theorem pi_range1 {a : Expr} {ta : TA} {p pos : Pos} (hg : Gl X "range") (hm : X.mg "range" = none) (ha : PA X [a] ta) (hs : starEach [a] X.env = [(false, eval a X.env)] := by rfl) : PI X tg (.Call (.Name "range" p) [a] [] pos) (iRng1 ta) := by
  intro pins s σ H R I h
  refine Call_ (ld_blt I hg hm boot_range (PyProof.Rows.callWith_type1 (thn (ha pos pins s σ H _ I h) fun us s1 ⟨vs, H1, I1, r1, q1⟩ => ?_) hs rfl))
  obtain ⟨j, e, q1, q2, q⟩ := q1
  subst e
  cases r1 with
  | cons r rr =>
    cases rr
    obtain ⟨t, rfl⟩ := r
    exact call_range_1 (range_it I1 (by omega) (by omega) q1 q2 (by simpa using q))
theorem pi_range2 {a b : Expr} {ta : TA} {p pos : Pos} (hg : Gl X "range") (hm : X.mg "range" = none) (ha : PA X [a, b] ta) (hs : starEach [a, b] X.env = [(false, eval a X.env), (false, eval b X.env)] := by rfl) (hs2 : starEach [b] X.env = [(false, eval b X.env)] := by rfl) :
    PI X tg (.Call (.Name "range" p) [a, b] [] pos) (iRng2 ta) := by
  intro pins s σ H R I h
  refine Call_ (ld_blt I hg hm boot_range (PyProof.Rows.callWith_type1 (thn (ha pos pins s σ H _ I h) fun us s1 ⟨vs, H1, I1, r1, q1⟩ => ?_) (by rw [hs, hs2]) (by rw [hs2]; rfl)))
  obtain ⟨i, j, e, ⟨q1, q2, q3, q4⟩, q⟩ := q1
  subst e
  cases r1 with
  | cons r rr =>
    cases rr with
    | cons r' rr =>
      cases rr
      obtain ⟨t, rfl⟩ := r
      obtain ⟨t', rfl⟩ := r'
      exact call_range_2 (range_it I1 q1 q2 q3 q4 q)

/-! ### for -/
/-- W: the invariant by the turn and a measure; N: what the body is to reach -/
def tFor (wi : TI) (g : TG) (tb : TS) : TS := fun D σ H => wi σ H fun J H1 => ∃ W : Nat → Nat → St → Hp → Prop, (∃ m, W 0 m σ H1) ∧ ∀ i m σ H, W i m σ H →
  (J.stop i H ∧ D.nx σ H) ∨ (J.go i H ∧ ∃ N : St → Hp → Prop, (∀ σ' H', N σ' H' → ∃ m', m' < m ∧ W (i + 1) m' σ' H') ∧ ∀ x H', J.yld i H x H' → g x σ H' fun σ2 H2 => tb { D with nx := N, ct := N, bk := D.nx } σ2 H2)
/-- the records at fp as they stand -/
def pinsAt (fp : List Addr) (h : Heap) : List (Addr × Obj) := fp.filterMap fun b => (h.get? b).map fun o => (b, o)
theorem mem_pinsAt {fp : List Addr} {h : Heap} {b : Addr} {o : Obj} (hb : b ∈ fp) (e : h.get? b = some o) : (b, o) ∈ pinsAt fp h := List.mem_filterMap.mpr ⟨b, hb, by rw [e]; rfl⟩
theorem of_pinsAt {fp : List Addr} {h : Heap} {p : Addr × Obj} (hp : p ∈ pinsAt fp h) : p.1 ∈ fp ∧ h.get? p.1 = some p.2 := by
  obtain ⟨b, hb, e⟩ := List.mem_filterMap.mp hp
  cases q : h.get? b with
  | none => rw [q] at e; cases e
  | some o =>
    rw [q] at e
    have e' : (b, o) = p := Option.some.inj e
    subst e'
    exact ⟨hb, q⟩
theorem Inv.pinned {pins : List (Addr × Obj)} {σ : St} {H : Hp} {s : Shared} {fp : List Addr} (I : Inv X pins σ H s) (hf : ∀ b ∈ fp, FpOk X pins H b) (ho : ∀ b ∈ fp, ∃ o, s.heap.get? b = some o ∧ ∀ v, o.data ≠ .cell v) : Inv X (pins ++ pinsAt fp s.heap) σ H s :=
  I.pins_of fun p hp => (List.mem_append.mp hp).elim (fun z => I.pin p (List.mem_append_right _ z)) fun z => by
    obtain ⟨hb, e⟩ := of_pinsAt z
    obtain ⟨f0, f1, f2, _⟩ := hf p.1 hb
    obtain ⟨o, e', d⟩ := ho p.1 hb
    rw [e] at e'; cases e'
    exact ⟨e, f0, f1, f2, d⟩
theorem Inv.unpinned {pins pl : List (Addr × Obj)} {σ : St} {H : Hp} {s : Shared} (I : Inv X (pins ++ pl) σ H s) : Inv X pins σ H s := I.pins_of fun p hp => I.pin p (List.mem_append_right _ (List.mem_append_left _ hp))
theorem ps_for {iter : Expr} {body : List Stmt} {wi : TI} {g : TG} {tb : TS} {pos : Pos} (hp : PassesOwn (model X.prog X.w) X.A X.env X.xe) (hc : X.calm = true) (hi : PI X tg iter wi) (hg : PG X tg g) (hb : PSs X body tb)
    (hs : ∀ x, foldedSetIterable iter X.env x = pure x := by intro _; rfl) : PS X (.For tg iter body [] pos) (tFor wi g tb) := by
  intro pins s σ H D I h
  refine wpAny_For (thn (hi pins s σ H _ I h) fun v s1 h1 => thn h1 fun itv s2 h2 => ?_) hs
  obtain ⟨it, fp, tn, J, H2, e, I2, T, st2, f2, W, ⟨m0, w0⟩, turn⟩ := h2
  subst e
  -- what stays true of the iterator's objects through the loop
  have stat : ∀ {H' : Hp}, (∀ b ∈ fp, H' b = none) → ∀ b ∈ fp, FpOk X pins H' b := fun hn b hb => ⟨hn b hb, (f2 b hb).2⟩
  refine codeAny_forLoop_any (fun n s' => ∃ i σ' H', Inv X pins σ' H' s' ∧ tn i s'.heap ∧ (∀ b ∈ fp, H' b = none) ∧ W i n σ' H') ?_ m0 ⟨0, σ, H2, I2, st2, fun b hb => (f2 b hb).1, w0⟩
  rintro n s3 ⟨i, σ3, H3, I3, st3, fr3, w3⟩
  rcases turn i n σ3 H3 w3 with ⟨stop, qn⟩ | ⟨go, N, hN, step⟩
  · refine wpAny_passesOwn hp (thn (T.done X rfl rfl rfl hc i pins s3 σ3 H3 X.xe I3 (stat fr3) st3 stop) fun r s4 ⟨hr, I4⟩ => ?_)
    subst hr
    exact wpAny_execs_nil ⟨σ3, H3, I4, qn⟩
  · refine wpAny_passesOwn hp (thn (T.item X rfl rfl rfl hc i pins s3 σ3 H3 X.xe I3 (stat fr3) st3 go) fun r s4 ⟨u, hr, h4⟩ => ?_)
    subst hr
    refine wpAny_passesOwn hp (thn h4 fun _ s5 ⟨x, H5, I5, r5, y5, st5, fr5⟩ => ?_)
    have I5' := I5.pinned (stat fr5) (T.obj _ _ st5)
    refine wpAny_passesOwn hp (thn (hg _ s5 σ3 H5 x u _ I5' r5 (step x H5 y5)) fun _ s6 ⟨σ6, H6, I6, q6⟩ => ?_)
    refine wpAny_passesOwn hp (thn (hb _ s6 σ6 H6 _ I6 q6) fun f s7 q7 => ?_)
    have again : ∀ {σ7 : St} {H7 : Hp}, Inv X (pins ++ pinsAt fp s5.heap) σ7 H7 s7 → N σ7 H7 → ∃ m, m < n ∧ ∃ i σ' H', Inv X pins σ' H' s7 ∧ tn i s7.heap ∧ (∀ b ∈ fp, H' b = none) ∧ W i m σ' H' := fun {σ7 H7} I7 n7 => by
      obtain ⟨m', hm, w7⟩ := hN σ7 H7 n7
      refine ⟨m', hm, i + 1, σ7, H7, I7.unpinned, T.keep _ _ _ st5 fun b hb o e => (I7.pin (b, o) (List.mem_append_right _ (List.mem_append_right _ (mem_pinsAt hb e)))).1, fun b hb => ?_, w7⟩
      obtain ⟨o, e, d⟩ := T.obj _ _ st5 b hb
      exact (I7.pin (b, o) (List.mem_append_right _ (List.mem_append_right _ (mem_pinsAt hb e)))).2.1
    cases f with
    | next => obtain ⟨σ7, H7, I7, n7⟩ := q7; exact again I7 n7
    | cont => obtain ⟨σ7, H7, I7, n7⟩ := q7; exact again I7 n7
    | brk => obtain ⟨σ7, H7, I7, q7⟩ := q7; exact ⟨σ7, H7, I7.unpinned, q7⟩
    | ret v => obtain ⟨x7, σ7, H7, I7, r7, q7⟩ := q7; exact ⟨x7, σ7, H7, I7.unpinned, r7, q7⟩
end

/-! ### the forms one uses -/
/-- over a list that the body leaves as it is -/
theorem for_list {K : PySem.W.Frag} {a : Addr} {xs : List V} {g : TG} {tb : TS} {D : Ends} {σ : St} {H : Hp} (Pv : Nat → St → Hp → Prop) (h0 : Pv 0 σ H) (hl : ∀ i σ H, i ≤ xs.length → Pv i σ H → SqL K H a xs)
    (hs : ∀ i x σ H, xs[i]? = some x → Pv i σ H → g x σ H fun σ2 H2 => tb { D with nx := Pv (i + 1), ct := Pv (i + 1), bk := D.nx } σ2 H2) (hd : ∀ σ H, Pv xs.length σ H → D.nx σ H) :
    ∃ W : Nat → Nat → St → Hp → Prop, (∃ m, W 0 m σ H) ∧ ∀ i m σ H, W i m σ H →
      ((Itl K a).stop i H ∧ D.nx σ H) ∨ ((Itl K a).go i H ∧ ∃ N : St → Hp → Prop, (∀ σ' H', N σ' H' → ∃ m', m' < m ∧ W (i + 1) m' σ' H') ∧ ∀ x H', (Itl K a).yld i H x H' → g x σ H' fun σ2 H2 => tb { D with nx := N, ct := N, bk := D.nx } σ2 H2) := by
  refine ⟨fun i m σ H => m = xs.length - i ∧ i ≤ xs.length ∧ Pv i σ H, ⟨xs.length, by simp, Nat.zero_le _, h0⟩, ?_⟩
  rintro i m σ H ⟨rfl, hi, p⟩
  have q := hl i σ H hi p
  by_cases hlt : i < xs.length
  · refine .inr ⟨⟨xs, xs[i], q, by simp [hlt]⟩, Pv (i + 1), fun σ' H' p' => ⟨xs.length - (i + 1), by omega, rfl, hlt, p'⟩, fun x H' y => ?_⟩
    obtain ⟨e, y⟩ := y
    subst e
    exact hs i x σ _ (y xs q) p
  · have e : i = xs.length := by omega
    subst e
    exact .inl ⟨⟨xs, q, Nat.le_refl _⟩, hd σ H p⟩
theorem for_tup {K : PySem.W.Frag} {a : Addr} {xs : List V} {g : TG} {tb : TS} {D : Ends} {σ : St} {H : Hp} (Pv : Nat → St → Hp → Prop) (h0 : Pv 0 σ H) (hl : ∀ i σ H, i ≤ xs.length → Pv i σ H → SqT K H a xs)
    (hs : ∀ i x σ H, xs[i]? = some x → Pv i σ H → g x σ H fun σ2 H2 => tb { D with nx := Pv (i + 1), ct := Pv (i + 1), bk := D.nx } σ2 H2) (hd : ∀ σ H, Pv xs.length σ H → D.nx σ H) :
    ∃ W : Nat → Nat → St → Hp → Prop, (∃ m, W 0 m σ H) ∧ ∀ i m σ H, W i m σ H →
      ((Itt K a).stop i H ∧ D.nx σ H) ∨ ((Itt K a).go i H ∧ ∃ N : St → Hp → Prop, (∀ σ' H', N σ' H' → ∃ m', m' < m ∧ W (i + 1) m' σ' H') ∧ ∀ x H', (Itt K a).yld i H x H' → g x σ H' fun σ2 H2 => tb { D with nx := N, ct := N, bk := D.nx } σ2 H2) := by
  refine ⟨fun i m σ H => m = xs.length - i ∧ i ≤ xs.length ∧ Pv i σ H, ⟨xs.length, by simp, Nat.zero_le _, h0⟩, ?_⟩
  rintro i m σ H ⟨rfl, hi, p⟩
  have q := hl i σ H hi p
  by_cases hlt : i < xs.length
  · refine .inr ⟨⟨xs, xs[i], q, by simp [hlt]⟩, Pv (i + 1), fun σ' H' p' => ⟨xs.length - (i + 1), by omega, rfl, hlt, p'⟩, fun x H' y => ?_⟩
    obtain ⟨e, y⟩ := y
    subst e
    exact hs i x σ _ (y xs q) p
  · have e : i = xs.length := by omega
    subst e
    exact .inl ⟨⟨xs, q, Nat.le_refl _⟩, hd σ H p⟩
theorem for_range {lo : Int} {n : Nat} {g : TG} {tb : TS} {D : Ends} {σ : St} {H : Hp} (Pv : Nat → St → Hp → Prop) (h0 : Pv 0 σ H)
    (hs : ∀ i σ H, i < n → Pv i σ H → g (.int (lo + i)) σ H fun σ2 H2 => tb { D with nx := Pv (i + 1), ct := Pv (i + 1), bk := D.nx } σ2 H2) (hd : ∀ σ H, Pv n σ H → D.nx σ H) :
    ∃ W : Nat → Nat → St → Hp → Prop, (∃ m, W 0 m σ H) ∧ ∀ i m σ H, W i m σ H →
      ((Itr lo n).stop i H ∧ D.nx σ H) ∨ ((Itr lo n).go i H ∧ ∃ N : St → Hp → Prop, (∀ σ' H', N σ' H' → ∃ m', m' < m ∧ W (i + 1) m' σ' H') ∧ ∀ x H', (Itr lo n).yld i H x H' → g x σ H' fun σ2 H2 => tb { D with nx := N, ct := N, bk := D.nx } σ2 H2) := by
  refine ⟨fun i m σ H => m = n - i ∧ i ≤ n ∧ Pv i σ H, ⟨n, by simp, Nat.zero_le _, h0⟩, ?_⟩
  rintro i m σ H ⟨rfl, hi, p⟩
  by_cases hlt : i < n
  · refine .inr ⟨hlt, Pv (i + 1), fun σ' H' p' => ⟨n - (i + 1), by omega, rfl, hlt, p'⟩, fun x H' y => ?_⟩
    obtain ⟨e, y⟩ := y
    subst e y
    exact hs i σ _ hlt p
  · have e : i = n := by omega
    subst e
    exact .inl ⟨Nat.le_refl _, hd σ H p⟩
/-- while, by a word and a measure of the state -/
theorem while_by {c : TT} {tb : TS} {D : Ends} {σ : St} {H : Hp} (Pv : St → Hp → Prop) (μ : St → Hp → Nat) (h0 : Pv σ H)
    (hs : ∀ σ H, Pv σ H → c σ H fun b H1 => if b = true then tb { D with nx := fun σ' H' => Pv σ' H' ∧ μ σ' H' < μ σ H, ct := fun σ' H' => Pv σ' H' ∧ μ σ' H' < μ σ H, bk := D.nx } σ H1 else D.nx σ H1)
    (mono : ∀ σ H Q Q', (∀ b H1, Q b H1 → Q' b H1) → c σ H Q → c σ H Q') : tWhile c tb D σ H := by
  refine ⟨fun m σ H => m = μ σ H ∧ Pv σ H, ⟨_, rfl, h0⟩, ?_⟩
  rintro m σ H ⟨rfl, p⟩
  refine mono σ H _ _ (fun b H1 q => ?_) (hs σ H p)
  cases b with
  | true => exact ⟨_, fun σ' H' ⟨p', l⟩ => ⟨_, l, rfl, p'⟩, q⟩
  | false => exact q
end L2

namespace L2
open PySem PySem.Spec PyProof.Rows

abbrev R2 := V → V → Hp → VK → Prop
/-- a two-place operation on values: f is binaryOp op, inplaceOp op or compareOp op -/
def OpR (X : Cx) (f : Value → Value → Sem Value) (r : R2) : Prop :=
  ∀ (pins : List (Addr × Obj)) (s : Shared) (σ : St) (H : Hp) (x y : V) (v u : Value) (Q : VK), Inv X pins σ H s → RelV x v → RelV y u → r x y H Q →
    wpAny (model X.prog X.w) X.A (f v u) (EP X pins σ Q) X.xe s
/-- a one-place operation -/
def UnR (X : Cx) (f : Value → Sem Value) (r : V → Hp → VK → Prop) : Prop :=
  ∀ (pins : List (Addr × Obj)) (s : Shared) (σ : St) (H : Hp) (x : V) (v : Value) (Q : VK), Inv X pins σ H s → RelV x v → r x H Q →
    wpAny (model X.prog X.w) X.A (f v) (EP X pins σ Q) X.xe s
/-- a call of a value that is known (a builtin, a type) with values -/
def CallR (X : Cx) (f : Value) (r : List V → Hp → VK → Prop) : Prop :=
  ∀ (pins : List (Addr × Obj)) (s : Shared) (σ : St) (H : Hp) (xs : List V) (us : List Value) (Q : VK), Inv X pins σ H s → Vals xs us → r xs H Q →
    wpAny (model X.prog X.w) X.A (call f us) (EP X pins σ Q) X.xe s
/-- a value's truth -/
def TruR (X : Cx) (r : V → Hp → (Bool → Hp → Prop) → Prop) : Prop :=
  ∀ (pins : List (Addr × Obj)) (s : Shared) (σ : St) (H : Hp) (x : V) (v : Value) (Q : Bool → Hp → Prop), Inv X pins σ H s → RelV x v → r x H Q →
    wpAny (model X.prog X.w) X.A (truthy v) (TP X pins σ Q) X.xe s

def tOp (r : R2) (ta tb : TE) : TE := fun σ H Q => ta σ H fun x H1 => tb σ H1 fun y H2 => r x y H2 Q
def tUn (r : V → Hp → VK → Prop) (ta : TE) : TE := fun σ H Q => ta σ H fun x H1 => r x H1 Q
/-- ints in, under C, and a value out -/
def rI (C : Int → Int → Prop) (g : Int → Int → V) : R2 := fun x y H Q => ∃ i j, x = .int i ∧ y = .int j ∧ C i j ∧ Q (g i j) H
def rI0 (g : Int → Int → V) : R2 := fun x y H Q => ∃ i j, x = .int i ∧ y = .int j ∧ Q (g i j) H
def rU (g : Int → V) : V → Hp → VK → Prop := fun x H Q => ∃ i, x = .int i ∧ Q (g i) H

section
variable {X : Cx} {a b c : Expr} {ta tb tc : TE} {pos : Pos}

theorem binT (ha : PE X a ta) (hb : PE X b tb) {pins : List (Addr × Obj)} {s : Shared} {σ : St} {H : Hp} {R : V → V → Hp → Prop} (I : Inv X pins σ H s)
    (h : ta σ H fun x H1 => tb σ H1 fun y H2 => R x y H2) {Q : Value → Shared → Prop} {f : Value → Value → Sem Value}
    (hf : ∀ v u s2 x y H2, Inv X pins σ H2 s2 → RelV x v → RelV y u → R x y H2 → wpAny (model X.prog X.w) X.A (f v u) Q X.xe s2) :
    wpAny (model X.prog X.w) X.A (eval a X.env) (fun v s₁ => wpAny (model X.prog X.w) X.A (eval b X.env) (fun u s₂ => wpAny (model X.prog X.w) X.A (f v u) Q X.xe s₂) X.xe s₁) X.xe s := by
  refine thn (ha pins s σ H _ I h) fun v s1 ⟨x, H1, I1, r1, q1⟩ => ?_
  refine thn (hb pins s1 σ H1 _ I1 q1) fun u s2 ⟨y, H2, I2, r2, q2⟩ => ?_
  exact hf v u s2 x y H2 I2 r1 r2 q2

theorem pe_op {op : Operator} {r : R2} (ho : OpR X (binaryOp op) r) (ha : PE X a ta) (hb : PE X b tb) : PE X (.BinOp a op b pos) (tOp r ta tb) := by
  intro pins s σ H Q I h
  exact wpAny_BinOp (binT ha hb I h fun v u s2 x y H2 I2 rx ry q => ho pins s2 σ H2 x y v u Q I2 rx ry q)
theorem pe_un {op : UnaryOp} {r : V → Hp → VK → Prop} (ho : UnR X (unaryOp op) r) (ha : PE X a ta) : PE X (.UnaryOp op a pos) (tUn r ta) := by
  intro pins s σ H Q I h
  exact UnaryOp_ (thn (ha pins s σ H _ I h) fun v s1 ⟨x, H1, I1, r1, q1⟩ => ho pins s1 σ H1 x v Q I1 r1 q1)
/-- a op= e at a name: the name's slot i -/
theorem augR {op : Operator} {r : R2} (ho : OpR X (inplaceOp op) r) {pins : List (Addr × Obj)} {s : Shared} {σ : St} {H : Hp} {x y : V} {v u : Value} {Q : VK} (I : Inv X pins σ H s)
    (rx : RelV x v) (ry : RelV y u) (q : r x y H Q) : wpAny (model X.prog X.w) X.A (inplaceOp op v u) (EP X pins σ Q) X.xe s := ho pins s σ H x y v u Q I rx ry q

/-! ### ints -/
theorem opI {f : Value → Value → Sem Value} {C : Int → Int → Prop} {g : Int → Int → Int}
    (rule : ∀ (i j : Int) (t u : Tok) (s : Shared) (Q : Value → Shared → Prop) (E : Value → Shared → Prop), C i j → Q (.int (g i j) s.toks) { s with toks := s.toks + 1 } → wpAny (model X.prog X.w) X.A (f (.int i t) (.int j u)) Q E s) :
    OpR X f (rI C fun i j => .int (g i j)) := by
  intro pins s σ H x y v u Q I rx ry h
  obtain ⟨i, j, rfl, rfl, hc, q⟩ := h
  obtain ⟨t, rfl⟩ := rx
  obtain ⟨t', rfl⟩ := ry
  exact rule i j t t' s _ _ hc ⟨.int (g i j), H, I.tok _, ⟨_, rfl⟩, q⟩
theorem opI0 {f : Value → Value → Sem Value} {g : Int → Int → Int}
    (rule : ∀ (i j : Int) (t u : Tok) (s : Shared) (Q : Value → Shared → Prop) (E : Value → Shared → Prop), Q (.int (g i j) s.toks) { s with toks := s.toks + 1 } → wpAny (model X.prog X.w) X.A (f (.int i t) (.int j u)) Q E s) :
    OpR X f (rI0 fun i j => .int (g i j)) := by
  intro pins s σ H x y v u Q I rx ry h
  obtain ⟨i, j, rfl, rfl, q⟩ := h
  obtain ⟨t, rfl⟩ := rx
  obtain ⟨t', rfl⟩ := ry
  exact rule i j t t' s _ _ ⟨.int (g i j), H, I.tok _, ⟨_, rfl⟩, q⟩
theorem opB0 {f : Value → Value → Sem Value} {g : Int → Int → Bool}
    (rule : ∀ (i j : Int) (t u : Tok) (s : Shared) (Q : Value → Shared → Prop) (E : Value → Shared → Prop), Q (.bool (g i j)) s → wpAny (model X.prog X.w) X.A (f (.int i t) (.int j u)) Q E s) :
    OpR X f (rI0 fun i j => .bl (g i j)) := by
  intro pins s σ H x y v u Q I rx ry h
  obtain ⟨i, j, rfl, rfl, q⟩ := h
  obtain ⟨t, rfl⟩ := rx
  obtain ⟨t', rfl⟩ := ry
  exact rule i j t t' s _ _ ⟨.bl (g i j), H, I, rfl, q⟩

def CDiv (i j : Int) : Prop := 0 < j ∧ j < 1073741824
def CDivN (i j : Int) : Prop := j ≠ 0 ∧ j.natAbs < 1073741824
def CPow (i j : Int) : Prop := 0 ≤ j ∧ j ≤ 1000000 ∧ i.natAbs < 2 ^ 64
def CMul (i j : Int) : Prop := (-(2 ^ 64) < i ∧ i < 2 ^ 64) ∨ (-(2 ^ 64) < j ∧ j < 2 ^ 64)
theorem CMul.ok {i j : Int} (h : CMul i j) : IntMulOk i j := by
  rcases h with ⟨h1, h2⟩ | ⟨h1, h2⟩
  · exact .of_left (intBits_le_64 h1 h2)
  · exact .of_right (intBits_le_64 h1 h2)
theorem two_pow_nn (k : Nat) : (0 : Int) ≤ 2 ^ k := by
  rw [two_pow_cast]
  exact Int.natCast_nonneg _

theorem op_add : OpR X (binaryOp .Add) (rI0 fun i j => .int (i + j)) := opI0 fun _ _ _ _ _ _ _ q => add_int q
theorem op_sub : OpR X (binaryOp .Sub) (rI0 fun i j => .int (i - j)) := opI0 fun _ _ _ _ _ _ _ q => sub_int q
theorem op_mul : OpR X (binaryOp .Mult) (rI CMul fun i j => .int (i * j)) := opI fun _ _ _ _ _ _ _ hc q => mul_int q hc.ok
/-- // by a positive divisor -/
theorem op_fdiv : OpR X (binaryOp .FloorDiv) (rI CDiv fun i j => .int (i / j)) := opI fun i j _ _ _ _ _ hc q => by
  have h1 : (0 : Int) < j := hc.1
  have h2 : j < 1073741824 := hc.2
  exact floordiv_int (by omega) (by rw [Int.fdiv_eq_ediv_of_nonneg i (by omega)]; exact q) (.inl (PyProof.noPylong_small (by omega)))
theorem op_fdivN : OpR X (binaryOp .FloorDiv) (rI CDivN fun i j => .int (i.fdiv j)) := opI fun _ _ _ _ _ _ _ hc q => floordiv_int hc.1 q (.inl (PyProof.noPylong_small hc.2))
/-- % by a positive divisor of any size -/
theorem op_mod : OpR X (binaryOp .Mod) (rI (fun _ j => 0 < j) fun i j => .int (i % j)) := opI fun i j _ _ _ _ _ hc q => by
  have h1 : (0 : Int) < j := hc
  exact mod_int' (by omega) (by rw [Int.fmod_eq_emod_of_nonneg i (by omega)]; exact q)
theorem op_modN : OpR X (binaryOp .Mod) (rI (fun _ j => j ≠ 0) fun i j => .int (i.fmod j)) := opI fun _ _ _ _ _ _ _ hc q => mod_int' hc q
theorem op_pow : OpR X (binaryOp .Pow) (rI CPow fun i j => .int (i ^ j.toNat)) := opI fun _ _ _ _ _ _ _ hc q => pow_int_small hc.1 hc.2.1 hc.2.2 q
theorem op_shl : OpR X (binaryOp .LShift) (rI CPow fun i j => .int (i * 2 ^ j.toNat)) := opI fun _ _ _ _ _ _ _ hc q => lshift_int_small hc.1 hc.2.1 hc.2.2 q
theorem op_shr : OpR X (binaryOp .RShift) (rI (fun _ j => 0 ≤ j) fun i j => .int (i / 2 ^ j.toNat)) := opI fun i j _ _ _ _ _ hc q =>
  rshift_int hc (by rw [Int.fdiv_eq_ediv_of_nonneg i (two_pow_nn _)]; exact q)
theorem op_and : OpR X (binaryOp .BitAnd) (rI0 fun i j => .int (Builtin.bitAnd i j)) := opI0 fun _ _ _ _ _ _ _ q => and_int q
theorem op_or : OpR X (binaryOp .BitOr) (rI0 fun i j => .int (Builtin.bitOr i j)) := opI0 fun _ _ _ _ _ _ _ q => or_int q
theorem op_xor : OpR X (binaryOp .BitXor) (rI0 fun i j => .int (Builtin.bitXor i j)) := opI0 fun _ _ _ _ _ _ _ q => xor_int q

theorem iop_add : OpR X (inplaceOp .Add) (rI0 fun i j => .int (i + j)) := opI0 fun _ _ _ _ _ _ _ q => iadd_int q
theorem iop_sub : OpR X (inplaceOp .Sub) (rI0 fun i j => .int (i - j)) := opI0 fun _ _ _ _ _ _ _ q => isub_int q
theorem iop_mul : OpR X (inplaceOp .Mult) (rI CMul fun i j => .int (i * j)) := opI fun _ _ _ _ _ _ _ hc q => imul_int q hc.ok
theorem iop_fdiv : OpR X (inplaceOp .FloorDiv) (rI CDiv fun i j => .int (i / j)) := opI fun i j _ _ _ _ _ hc q => by
  have h1 : (0 : Int) < j := hc.1
  have h2 : j < 1073741824 := hc.2
  exact ifloordiv_int (by omega) (by rw [Int.fdiv_eq_ediv_of_nonneg i (by omega)]; exact q) (.inl (PyProof.noPylong_small (by omega)))
theorem iop_mod : OpR X (inplaceOp .Mod) (rI (fun _ j => 0 < j) fun i j => .int (i % j)) := opI fun i j _ _ _ _ _ hc q => by
  have h1 : (0 : Int) < j := hc
  exact imod_int (by omega) (by rw [Int.fmod_eq_emod_of_nonneg i (by omega)]; exact q)
theorem iop_shl : OpR X (inplaceOp .LShift) (rI CPow fun i j => .int (i * 2 ^ j.toNat)) := opI fun _ _ _ _ _ _ _ hc q => ilshift_int_small hc.1 hc.2.1 hc.2.2 q
theorem iop_shr : OpR X (inplaceOp .RShift) (rI (fun _ j => 0 ≤ j) fun i j => .int (i / 2 ^ j.toNat)) := opI fun i j _ _ _ _ _ hc q =>
  irshift_int hc (by rw [Int.fdiv_eq_ediv_of_nonneg i (two_pow_nn _)]; exact q)
theorem iop_and : OpR X (inplaceOp .BitAnd) (rI0 fun i j => .int (Builtin.bitAnd i j)) := opI0 fun _ _ _ _ _ _ _ q => iand_int q
theorem iop_or : OpR X (inplaceOp .BitOr) (rI0 fun i j => .int (Builtin.bitOr i j)) := opI0 fun _ _ _ _ _ _ _ q => ior_int q
theorem iop_xor : OpR X (inplaceOp .BitXor) (rI0 fun i j => .int (Builtin.bitXor i j)) := opI0 fun _ _ _ _ _ _ _ q => ixor_int q

theorem unI {f : Value → Sem Value} {g : Int → Int}
    (rule : ∀ (i : Int) (t : Tok) (s : Shared) (Q : Value → Shared → Prop) (E : Value → Shared → Prop), Q (.int (g i) s.toks) { s with toks := s.toks + 1 } → wpAny (model X.prog X.w) X.A (f (.int i t)) Q E s) :
    UnR X f (rU fun i => .int (g i)) := by
  intro pins s σ H x v Q I rx h
  obtain ⟨i, rfl, q⟩ := h
  obtain ⟨t, rfl⟩ := rx
  exact rule i t s _ _ ⟨.int (g i), H, I.tok _, ⟨_, rfl⟩, q⟩
theorem un_neg : UnR X (unaryOp .USub) (rU fun i => .int (-i)) := unI fun _ _ _ _ _ q => neg_int q
theorem un_inv : UnR X (unaryOp .Invert) (rU fun i => .int (Builtin.bitNot i)) := unI fun _ _ _ _ _ q => invert_int q

/-! ### bools among ints: n += (a < b) -/
theorem op_add_ib : OpR X (binaryOp .Add) (fun x y H Q => ∃ i k, x = .int i ∧ y = .bl k ∧ Q (.int (i + b2i k)) H) := by
  intro pins s σ H x y v u Q I rx ry h
  obtain ⟨i, k, rfl, rfl, q⟩ := h
  obtain ⟨t, rfl⟩ := rx
  cases ry
  exact add_int_bool ⟨.int (i + b2i k), H, I.tok _, ⟨_, rfl⟩, q⟩
end

/-! ### comparisons -/
/-- the scalars that == tells apart as data does -/
def scal : V → V → Bool
  | .non, .non => true | .non, .int _ => true | .int _, .non => true | .non, .bl _ => true | .bl _, .non => true | .non, .str _ => true | .str _, .non => true
  | .int _, .int _ => true | .bl _, .bl _ => true | .str _, .str _ => true | .byt _, .byt _ => true
  | .int _, .str _ => true | .str _, .int _ => true | .bl _, .str _ => true | .str _, .bl _ => true
  | _, _ => false
def rEq : R2 := fun x y H Q => scal x y = true ∧ Q (.bl (decide (x = y))) H
def rNe : R2 := fun x y H Q => scal x y = true ∧ Q (.bl (!decide (x = y))) H

theorem dec_int {i j : Int} : decide (V.int i = V.int j) = (i == j) := by
  rw [Bool.eq_iff_iff]
  simp
theorem dec_bl {i j : Bool} : decide (V.bl i = V.bl j) = (i == j) := by
  rw [Bool.eq_iff_iff]
  simp
theorem dec_str {i j : Str} : decide (V.str i = V.str j) = (i == j) := by
  rw [Bool.eq_iff_iff]
  simp
theorem dec_byt {i j : Array UInt8} : decide (V.byt i = V.byt j) = (i.toList == j.toList) := by
  rw [Bool.eq_iff_iff]
  cases i
  cases j
  simp

section
variable {X : Cx} {a b c : Expr} {ta tb tc : TE} {pos : Pos}
theorem fin_bl {pins : List (Addr × Obj)} {σ : St} {H : Hp} {s : Shared} {Q : VK} {k k' : Bool} (I : Inv X pins σ H s) (q : Q (.bl k) H) (e : k = k') : EP X pins σ Q (.bool k') s := by
  subst e
  exact ⟨.bl k, H, I, rfl, q⟩
theorem op_eq : OpR X (compareOp .Eq) rEq := by
  intro pins s σ H x y v u Q I rx ry h
  obtain ⟨hs, q⟩ := h
  cases x with
  | non =>
    cases rx
    cases y with
    | non => cases ry; exact PySem.EqNone.eq_none_none (fin_bl I q (by simp))
    | bl j => cases ry; exact PySem.EqNone.eq_none_bool (fin_bl I q (by simp))
    | int j => obtain ⟨t', rfl⟩ := ry; exact PySem.EqNone.eq_none_int (fin_bl I q (by simp))
    | str j => obtain ⟨t', rfl⟩ := ry; exact PySem.EqNone.eq_none_str (fin_bl I q (by simp))
    | _ => exact absurd (show false = true from hs) Bool.false_ne_true
  | bl i =>
    cases rx
    cases y with
    | non => cases ry; exact PySem.EqNone.eq_bool_none (fin_bl I q (by simp))
    | bl j => cases ry; exact eq_bool (fin_bl I q dec_bl)
    | str j => obtain ⟨t', rfl⟩ := ry; exact PySem.EqMixed.eq_bool_str (fin_bl I q (by simp))
    | _ => exact absurd (show false = true from hs) Bool.false_ne_true
  | int i =>
    obtain ⟨t, rfl⟩ := rx
    cases y with
    | non => cases ry; exact PySem.EqNone.eq_int_none (fin_bl I q (by simp))
    | int j => obtain ⟨t', rfl⟩ := ry; exact eq_int (fin_bl I q dec_int)
    | str j => obtain ⟨t', rfl⟩ := ry; exact PySem.EqMixed.eq_int_str (fin_bl I q (by simp))
    | _ => exact absurd (show false = true from hs) Bool.false_ne_true
  | str i =>
    obtain ⟨t, rfl⟩ := rx
    cases y with
    | non => cases ry; exact PySem.EqNone.eq_str_none (fin_bl I q (by simp))
    | bl j => cases ry; exact PySem.EqMixed.eq_str_bool (fin_bl I q (by simp))
    | int j => obtain ⟨t', rfl⟩ := ry; exact PySem.EqMixed.eq_str_int (fin_bl I q (by simp))
    | str j => obtain ⟨t', rfl⟩ := ry; exact eq_str (fin_bl I q dec_str)
    | _ => exact absurd (show false = true from hs) Bool.false_ne_true
  | byt i =>
    obtain ⟨t, rfl⟩ := rx
    cases y with
    | byt j => obtain ⟨t', rfl⟩ := ry; exact PySem.W.eq_bytes (fin_bl I q dec_byt)
    | _ => exact absurd (show false = true from hs) Bool.false_ne_true
  | _ => cases y <;> exact absurd (show false = true from hs) Bool.false_ne_true
theorem op_ne : OpR X (compareOp .NotEq) rNe := by
  intro pins s σ H x y v u Q I rx ry h
  obtain ⟨hs, q⟩ := h
  cases x with
  | non =>
    cases rx
    cases y with
    | non => cases ry; exact PySem.EqNone.ne_none_none (fin_bl I q (by simp))
    | bl j => cases ry; exact PySem.EqNone.ne_none_bool (fin_bl I q (by simp))
    | int j => obtain ⟨t', rfl⟩ := ry; exact PySem.EqNone.ne_none_int (fin_bl I q (by simp))
    | str j => obtain ⟨t', rfl⟩ := ry; exact PySem.EqNone.ne_none_str (fin_bl I q (by simp))
    | _ => exact absurd (show false = true from hs) Bool.false_ne_true
  | bl i =>
    cases rx
    cases y with
    | non => cases ry; exact PySem.EqNone.ne_bool_none (fin_bl I q (by simp))
    | bl j => cases ry; exact ne_bool (fin_bl I q (congrArg not dec_bl))
    | str j => obtain ⟨t', rfl⟩ := ry; exact PySem.EqMixed.ne_bool_str (fin_bl I q (by simp))
    | _ => exact absurd (show false = true from hs) Bool.false_ne_true
  | int i =>
    obtain ⟨t, rfl⟩ := rx
    cases y with
    | non => cases ry; exact PySem.EqNone.ne_int_none (fin_bl I q (by simp))
    | int j => obtain ⟨t', rfl⟩ := ry; exact ne_int (fin_bl I q (congrArg not dec_int))
    | str j => obtain ⟨t', rfl⟩ := ry; exact PySem.EqMixed.ne_int_str (fin_bl I q (by simp))
    | _ => exact absurd (show false = true from hs) Bool.false_ne_true
  | str i =>
    obtain ⟨t, rfl⟩ := rx
    cases y with
    | non => cases ry; exact PySem.EqNone.ne_str_none (fin_bl I q (by simp))
    | bl j => cases ry; exact PySem.EqMixed.ne_str_bool (fin_bl I q (by simp))
    | int j => obtain ⟨t', rfl⟩ := ry; exact PySem.EqMixed.ne_str_int (fin_bl I q (by simp))
    | str j => obtain ⟨t', rfl⟩ := ry; exact ne_str (fin_bl I q (congrArg not dec_str))
    | _ => exact absurd (show false = true from hs) Bool.false_ne_true
  | byt i =>
    obtain ⟨t, rfl⟩ := rx
    cases y with
    | byt j => obtain ⟨t', rfl⟩ := ry; exact PySem.W.ne_bytes (fin_bl I q (congrArg not dec_byt))
    | _ => exact absurd (show false = true from hs) Bool.false_ne_true
  | _ => cases y <;> exact absurd (show false = true from hs) Bool.false_ne_true

theorem op_lt : OpR X (compareOp .Lt) (rI0 fun i j => .bl (decide (i < j))) := opB0 fun _ _ _ _ _ _ _ q => lt_int q
theorem op_le : OpR X (compareOp .LtE) (rI0 fun i j => .bl (decide (i ≤ j))) := opB0 fun _ _ _ _ _ _ _ q => le_int q
theorem op_gt : OpR X (compareOp .Gt) (rI0 fun i j => .bl (decide (j < i))) := opB0 fun _ _ _ _ _ _ _ q => gt_int q
theorem op_ge : OpR X (compareOp .GtE) (rI0 fun i j => .bl (decide (j ≤ i))) := opB0 fun _ _ _ _ _ _ _ q => ge_int q
theorem op_lt_str : OpR X (compareOp .Lt) (fun x y H Q => ∃ i j, x = .str i ∧ y = .str j ∧ Q (.bl (decide (i.cps.toList < j.cps.toList))) H) := by
  intro pins s σ H x y v u Q I rx ry h
  obtain ⟨i, j, rfl, rfl, q⟩ := h
  obtain ⟨t, rfl⟩ := rx
  obtain ⟨t', rfl⟩ := ry
  exact lt_str (fin_bl I q rfl)
/-- the one string within the other -/
theorem op_in_str : OpR X (compareOp .In) (fun x y H Q => ∃ i j, x = .str i ∧ y = .str j ∧ Q (.bl (!(Builtin.Str.occurrences j i 0 j.length 1).isEmpty)) H) := by
  intro pins s σ H x y v u Q I rx ry h
  obtain ⟨i, j, rfl, rfl, q⟩ := h
  obtain ⟨t, rfl⟩ := rx
  obtain ⟨t', rfl⟩ := ry
  exact in_str (fin_bl I q rfl)

/-- is None, is not None: the right side a value none -/
theorem op_isN : OpR X (compareOp .Is) (fun x y H Q => y = .non ∧ Q (.bl (decide (x = .non))) H) := by
  intro pins s σ H x y v u Q I rx ry h
  obtain ⟨rfl, q⟩ := h
  cases ry
  refine is_none_gen (fin_bl I q ?_)
  cases x <;> first
    | (cases rx; rfl)
    | (obtain ⟨t, rfl⟩ := rx; rfl)
theorem op_notN : OpR X (compareOp .IsNot) (fun x y H Q => y = .non ∧ Q (.bl (!decide (x = .non))) H) := by
  intro pins s σ H x y v u Q I rx ry h
  obtain ⟨rfl, q⟩ := h
  cases ry
  refine isnot_none_gen (fin_bl I q ?_)
  cases x <;> first
    | (cases rx; rfl)
    | (obtain ⟨t, rfl⟩ := rx; rfl)

theorem op_notin_str : OpR X (compareOp .NotIn) (fun x y H Q => ∃ i j, x = .str i ∧ y = .str j ∧ Q (.bl (!(!(Builtin.Str.occurrences j i 0 j.length 1).isEmpty))) H) := by
  intro pins s σ H x y v u Q I rx ry h
  obtain ⟨i, j, rfl, rfl, q⟩ := h
  obtain ⟨t, rfl⟩ := rx
  obtain ⟨t', rfl⟩ := ry
  exact notIn_str (fin_bl I q rfl)
/-- is, is not of two objects that are tracked lists or instances -/
def isObj : HO → Bool
  | .lst _ => true
  | .ins _ _ _ => true
  | _ => false
theorem obj_there {pins : List (Addr × Obj)} {s : Shared} {σ : St} {H : Hp} {a : Addr} {o : HO} (I : Inv X pins σ H s) (h : H a = some o) (p : isObj o = true) : ∃ ob, s.heap.get? a = some ob ∧ ob.cls ≠ .type "tuple" := by
  cases o with
  | lst xs =>
    obtain ⟨_, its, n, _, e⟩ : xs.length ≤ sizeLine ∧ ∃ (its : List Value) (n : Nat), Vals xs its ∧ s.heap.get? a = some { cls := .type "list", data := .seq its.toArray n } := I.hok a _ h
    exact ⟨_, e, (by show Value.type "list" ≠ .type "tuple"; decide +kernel)⟩
  | ins C dx fs =>
    have x := I.hok a _ h
    obtain ⟨_, _, _, e, _⟩ := x
    exact ⟨_, e, (by show Value.ref C ≠ .type "tuple"; exact fun z => by cases z)⟩
  | _ => exact absurd (show false = true from p) Bool.false_ne_true
theorem op_is_ref : OpR X (compareOp .Is) (fun x y H Q => ∃ a b oa ob, x = .ref a ∧ y = .ref b ∧ H a = some oa ∧ isObj oa = true ∧ H b = some ob ∧ isObj ob = true ∧ Q (.bl (decide (a = b))) H) := by
  intro pins s σ H x y v u Q I rx ry h
  obtain ⟨a, b, oa, ob, rfl, rfl, ha, pa, hb, pb, q⟩ := h
  cases rx
  cases ry
  obtain ⟨o1, e1, n1⟩ := obj_there I ha pa
  obtain ⟨o2, e2, _⟩ := obj_there I hb pb
  by_cases z : a = b
  · subst z
    exact wpAny_is_ref_self (fin_bl I q (by simp))
  · exact wpAny_is_ref_other z e1 e2 n1 (fin_bl I q (by simp [z]))
theorem op_isnot_ref : OpR X (compareOp .IsNot) (fun x y H Q => ∃ a b oa ob, x = .ref a ∧ y = .ref b ∧ H a = some oa ∧ isObj oa = true ∧ H b = some ob ∧ isObj ob = true ∧ Q (.bl (!decide (a = b))) H) := by
  intro pins s σ H x y v u Q I rx ry h
  obtain ⟨a, b, oa, ob, rfl, rfl, ha, pa, hb, pb, q⟩ := h
  cases rx
  cases ry
  obtain ⟨o1, e1, n1⟩ := obj_there I ha pa
  obtain ⟨o2, e2, _⟩ := obj_there I hb pb
  by_cases z : a = b
  · subst z
    exact wpAny_isNot_ref_self (fin_bl I q (by simp))
  · exact wpAny_isNot_ref_other z e1 e2 n1 (fin_bl I q (by simp [z]))

/-- two rules for one operation: by cases -/
theorem OpR.or {f : Value → Value → Sem Value} {r r' : R2} (h : OpR X f r) (h' : OpR X f r') : OpR X f (fun x y H Q => r x y H Q ∨ r' x y H Q) := by
  intro pins s σ H x y v u Q I rx ry q
  rcases q with q | q
  · exact h pins s σ H x y v u Q I rx ry q
  · exact h' pins s σ H x y v u Q I rx ry q

theorem nomark (b : Expr) {op : CmpOp} (h : op ≠ .In := by decide) (h2 : op ≠ .NotIn := by decide) : behindInMarks op b = false := by
  have e1 : (op == CmpOp.In) = false := by cases op <;> first | rfl | exact absurd rfl h
  have e2 : (op == CmpOp.NotIn) = false := by cases op <;> first | rfl | exact absurd rfl h2
  cases b <;> simp [behindInMarks, e1, e2]
/-- a comparison as a value; hm: nomark b, or (for in, not in) by with_unfolding_all rfl -/
theorem pe_cmpR {op : CmpOp} {r : R2} (ho : OpR X (compareOp op) r) (ha : PE X a ta) (hb : PE X b tb) (hm : behindInMarks op b = false) : PE X (.Compare a [op] [b] pos) (tOp r ta tb) := by
  intro pins s σ H Q I h
  exact wpAny_Compare1 (binT ha hb I h fun v u s2 x y H2 I2 rx ry q => ho pins s2 σ H2 x y v u Q I2 rx ry q) hm
/-- a reading of a value as a test -/
def tTest (t : TE) : TT := fun σ H Q => t σ H fun x H' => ∃ k, x = .bl k ∧ Q k H'
theorem pt_cmpR {op : CmpOp} {r : R2} (ho : OpR X (compareOp op) r) (ha : PE X a ta) (hb : PE X b tb) (hm : behindInMarks op b = false) : PT X (.Compare a [op] [b] pos) (tTest (tOp r ta tb)) := by
  intro pins s σ H Q I h
  refine wpAny_isTrue_Compare1 (thn (ha pins s σ H _ I h) fun v s1 ⟨x, H1, I1, r1, q1⟩ => thn (hb pins s1 σ H1 _ I1 q1) fun u s2 ⟨y, H2, I2, r2, q2⟩ =>
    thn (ho pins s2 σ H2 x y v u _ I2 r1 r2 q2) fun c s3 ⟨z, H3, I3, r3, k, e, q3⟩ => ?_) hm
  subst e
  cases r3
  exact wpAny_truthy_bool ⟨H3, I3, q3⟩
/-- a op1 b op2 c -/
def tChain (r r' : R2) (ta tb tc : TE) : TE := fun σ H Q => ta σ H fun x H1 => tb σ H1 fun y H2 => r x y H2 fun z H3 => ∃ k, z = .bl k ∧
  (if k = true then tc σ H3 fun w' H4 => r' y w' H4 Q else Q (.bl false) H3)
theorem pe_chain {op op' : CmpOp} {r r' : R2} (ho : OpR X (compareOp op) r) (ho' : OpR X (compareOp op') r') (ha : PE X a ta) (hb : PE X b tb) (hc : PE X c tc)
    (hm : lastMarks [op, op'] [b, c] = false := by with_unfolding_all rfl) : PE X (.Compare a [op, op'] [b, c] pos) (tChain r r' ta tb tc) := by
  intro pins s σ H Q I h
  refine Compare_chain (thn (ha pins s σ H _ I h) fun v s1 ⟨x, H1, I1, r1, q1⟩ => chain_link (thn (hb pins s1 σ H1 _ I1 q1) fun u s2 ⟨y, H2, I2, r2, q2⟩ =>
    thn (ho pins s2 σ H2 x y v u _ I2 r1 r2 q2) fun d s3 ⟨z, H3, I3, r3, k, e, q3⟩ => ?_)) hm
  subst e
  cases r3
  refine wpAny_truthy_bool ?_
  cases k with
  | false => exact ite_ff ⟨.bl false, H3, I3, rfl, q3⟩
  | true => exact ite_tt (chain_last (thn (hc pins s3 σ H3 _ I3 q3) fun w' s4 ⟨z', H4, I4, r4, q4⟩ => ho' pins s4 σ H4 y z' u w' Q I4 r2 r4 q4))
theorem pt_chain {op op' : CmpOp} {r r' : R2} (ho : OpR X (compareOp op) r) (ho' : OpR X (compareOp op') r') (ha : PE X a ta) (hb : PE X b tb) (hc : PE X c tc)
    (hm : lastMarks [op, op'] [b, c] = false := by with_unfolding_all rfl) : PT X (.Compare a [op, op'] [b, c] pos) (tTest (tChain r r' ta tb tc)) := by
  intro pins s σ H Q I h
  refine isTrue_chain (thn (ha pins s σ H _ I h) fun v s1 ⟨x, H1, I1, r1, q1⟩ => test_link (thn (hb pins s1 σ H1 _ I1 q1) fun u s2 ⟨y, H2, I2, r2, q2⟩ =>
    thn (ho pins s2 σ H2 x y v u _ I2 r1 r2 q2) fun d s3 ⟨z, H3, I3, r3, k, e, q3⟩ => ?_)) hm
  subst e
  cases r3
  refine wpAny_truthy_bool ?_
  cases k with
  | false =>
    obtain ⟨k', e', q'⟩ := q3
    cases e'
    exact ite_ff ⟨H3, I3, q'⟩
  | true =>
    refine ite_tt (test_last (thn (hc pins s3 σ H3 _ I3 q3) fun w' s4 ⟨z', H4, I4, r4, q4⟩ => thn (ho' pins s4 σ H4 y z' u w' _ I4 r2 r4 q4) fun d' s5 ⟨z2, H5, I5, r5, k2, e2, q5⟩ => ?_))
    subst e2
    cases r5
    exact wpAny_truthy_bool ⟨H5, I5, q5⟩

/-! ### truth -/
/-- a value's truth by the abstract heap -/
def TruV (K : PySem.W.Frag) (x : V) (H : Hp) (k : Bool) : Prop :=
  match x with
  | .non => k = false
  | .bl b => k = b
  | .int i => k = (i != 0)
  | .str y => y.length ≤ sizeLine ∧ k = ((y.length : Int) != 0)
  | .byt y => y.size ≤ sizeLine ∧ k = ((y.size : Int) != 0)
  | .ref p => (∃ xs, SqL K H p xs ∧ k = !xs.isEmpty) ∨ (∃ xs, SqT K H p xs ∧ k = !xs.isEmpty) ∨ ∃ kvs, H p = some (.dK kvs) ∧ k = !kvs.isEmpty
  | _ => False
theorem isEmpty_kv {κ : Type} {kvs : List (κ × V)} {vs : List (κ × Value)} (r : KV kvs vs) : (!vs.isEmpty) = !kvs.isEmpty := by
  cases r <;> rfl
theorem isEmpty_of {xs : List V} {its : List Value} (r : Vals xs its) : (!its.toArray.isEmpty) = !xs.isEmpty := by
  cases r <;> simp
theorem line63 : (sizeLine : Nat) < 2 ^ 63 := by rw [sizeLine_eq]; decide
theorem tru_ok : TruR X (fun x H Q => ∃ k, TruV X.K x H k ∧ Q k H) := by
  intro pins s σ H x v Q I rx h
  obtain ⟨k, e, q⟩ := h
  have hl := line63
  have hs : sizeLine = 16777216 := sizeLine_eq
  cases x with
  | non =>
    cases rx
    have e' : k = false := e
    subst e'
    exact truthy_none ⟨H, I, q⟩
  | bl b =>
    cases rx
    have e' : k = b := e
    subst e'
    exact wpAny_truthy_bool ⟨H, I, q⟩
  | int i =>
    obtain ⟨t, rfl⟩ := rx
    have e' : k = (i != 0) := e
    subst e'
    exact PySem.P.truthy_int ⟨H, I, q⟩
  | str y =>
    obtain ⟨t, rfl⟩ := rx
    obtain ⟨hy, e'⟩ : y.length ≤ sizeLine ∧ k = ((y.length : Int) != 0) := e
    subst e'
    exact PySem.P.truthy_str (by omega) ⟨H, I.tok _, q⟩
  | byt y =>
    obtain ⟨t, rfl⟩ := rx
    obtain ⟨hy, e'⟩ : y.size ≤ sizeLine ∧ k = ((y.size : Int) != 0) := e
    subst e'
    exact PySem.W.truthy_bytes (by omega) ⟨H, I.tok _, q⟩
  | ref p =>
    cases rx
    have e' : (∃ xs, SqL X.K H p xs ∧ k = !xs.isEmpty) ∨ (∃ xs, SqT X.K H p xs ∧ k = !xs.isEmpty) ∨ ∃ kvs, H p = some (.dK kvs) ∧ k = !kvs.isEmpty := e
    rcases e' with ⟨xs, hx, e'⟩ | ⟨xs, hx, e'⟩ | ⟨kvs, hx, e'⟩
    · subst e'
      obtain ⟨its, r, pl, hz⟩ := I.list hx
      have hlen := r.length
      exact wpAny_truthy_list pl.isList (by simp only [List.size_toArray]; omega) ⟨H, I.tok _, by rw [isEmpty_of r]; exact q⟩
    · subst e'
      obtain ⟨its, r, pl, hz⟩ := I.tuple hx
      have hlen := r.length
      exact truthy_tuple pl (by simp only [List.size_toArray]; omega) ⟨H, I.tok _, by rw [isEmpty_of r]; exact q⟩
    · subst e'
      obtain ⟨hz, hS, vs, r, m⟩ : kvs.length ≤ sizeLine ∧ (p == sysModules) = false ∧ ∃ vs, KV kvs vs ∧ s.heap.DictOf (mixKind X.prog X.w) p vs := I.hok p _ hx
      have hlen : kvs.length = vs.length := Paired.length r
      exact wpAny_truthy_dict hS m (by omega) ⟨H, I.tok _, by rw [isEmpty_kv r]; exact q⟩
  | _ => exact (show False from e).elim
/-- any expression whose test is its value's truth (a name, a call, a subscript, a field ..: he by fun _ => rfl) -/
theorem pt_truth (ha : PE X a ta) (he : ∀ whole, isTrue a X.env whole = (do let v ← whole; standAt a.pos; holding [v] (truthy v))) :
    PT X a (fun σ H Q => ta σ H fun x H' => ∃ k, TruV X.K x H' k ∧ Q k H') := by
  intro pins s σ H Q I h
  exact isTrue_plain (thn (ha pins s σ H _ I h) fun v s1 ⟨x, H1, I1, r1, q1⟩ => tru_ok pins s1 σ H1 x v Q I1 r1 q1) (he _)

/-! ### strs and bytes -/
theorem pe_byt {x : List UInt8} {k : Nat} : PE X (.Constant (.bytes x) k pos) (fun _ H Q => Q (.byt x.toArray) H) := fun _ _ _ H _ I h => PySem.W.Constant_bytes ⟨.byt x.toArray, H, I.tok _, ⟨_, rfl⟩, h⟩
theorem op_add_str : OpR X (binaryOp .Add) (fun x y H Q => ∃ i j, x = .str i ∧ y = .str j ∧ i.length + j.length ≤ sizeLine ∧ Q (.str (i ++ j)) H) := by
  intro pins s σ H x y v u Q I rx ry h
  obtain ⟨i, j, rfl, rfl, hz, q⟩ := h
  obtain ⟨t, rfl⟩ := rx
  obtain ⟨t', rfl⟩ := ry
  exact add_str (fun t' tk => ⟨.str (i ++ j), H, I.tok _, ⟨_, rfl⟩, q⟩) hz
theorem iop_add_str : OpR X (inplaceOp .Add) (fun x y H Q => ∃ i j, x = .str i ∧ y = .str j ∧ i.length + j.length ≤ sizeLine ∧ Q (.str (i ++ j)) H) := by
  intro pins s σ H x y v u Q I rx ry h
  obtain ⟨i, j, rfl, rfl, hz, q⟩ := h
  obtain ⟨t, rfl⟩ := rx
  obtain ⟨t', rfl⟩ := ry
  exact iadd_str (fun t' tk => ⟨.str (i ++ j), H, I.tok _, ⟨_, rfl⟩, q⟩) hz
theorem op_add_byt : OpR X (binaryOp .Add) (fun x y H Q => ∃ i j, x = .byt i ∧ y = .byt j ∧ i.size + j.size ≤ 16777216 ∧ Q (.byt (i ++ j)) H) := by
  intro pins s σ H x y v u Q I rx ry h
  obtain ⟨i, j, rfl, rfl, hz, q⟩ := h
  obtain ⟨t, rfl⟩ := rx
  obtain ⟨t', rfl⟩ := ry
  exact PySem.W.KBy.add_bytes hz (fun t' tk => ⟨.byt (i ++ j), H, I.tok _, ⟨_, rfl⟩, q⟩)

def PlainIxT (b : Expr) : Prop := ∀ o i, subscripted b false o i = operate [o, i] (getItem o i)
/-- s[i], 0 ≤ i < len -/
theorem pe_item_str (ha : PE X a ta) (hb : PE X b tb) (hs : PlainIxT b) :
    PE X (.Subscript a b pos) (tOp (fun x y H Q => ∃ z i c, x = .str z ∧ y = .int i ∧ 0 ≤ i ∧ i < 2 ^ 63 ∧ i < z.length ∧ z.cps[i.toNat]? = some c ∧ Q (.str ⟨#[c]⟩) H) ta tb) := by
  intro pins s σ H Q I h
  refine Subscript_ (binT ha hb I h fun v u s2 x y H2 I2 rx ry q => ?_)
  obtain ⟨z, i, c, rfl, rfl, h0, h63, h1, hc, q⟩ := q
  obtain ⟨t, rfl⟩ := rx
  obtain ⟨t', rfl⟩ := ry
  have e : seqIndex? i z.length = some i.toNat := PySem.StrLaws.seqIndex_nonneg h0 h1
  exact tail_any (typeIs_str s2 z t) slot_str_getitem.lookup (getItem_str (c := c) (by
    have e1 : decide (i < -(2 ^ 63 : Int)) = false := decide_eq_false (by omega)
    have e2 : decide (i ≥ 2 ^ 63) = false := decide_eq_false (by omega)
    rw [e1, e2] <;> rfl) (by rw [e]; exact hc) ⟨.str ⟨#[c]⟩, H2, I2.tok _, ⟨_, rfl⟩, q⟩) (hs _ _)
/-- b[i], 0 ≤ i < len -/
theorem pe_item_byt (ha : PE X a ta) (hb : PE X b tb) (hs : PlainIxT b) :
    PE X (.Subscript a b pos) (tOp (fun x y H Q => ∃ (z : List UInt8) (i : Int), x = .byt z.toArray ∧ y = .int i ∧ z.length ≤ sizeLine ∧ 0 ≤ i ∧ i < z.length ∧ Q (.int ((z.getD i.toNat 0).toNat : Nat)) H) ta tb) := by
  intro pins s σ H Q I h
  refine Subscript_ (binT ha hb I h fun v u s2 x y H2 I2 rx ry q => ?_)
  obtain ⟨z, i, rfl, rfl, hz, h0, h1, q⟩ := q
  obtain ⟨t, rfl⟩ := rx
  obtain ⟨t', rfl⟩ := ry
  have hl : sizeLine = 16777216 := sizeLine_eq
  exact tail_any (PySem.W.typeIs_bytes s2 z.toArray t) PySem.W.FB.slot_bytes_getitem.lookup (PySem.W.getItem_bytes (by omega) h0 h1 ⟨.int ((z.getD i.toNat 0).toNat : Nat), H2, I2.tok _, ⟨_, rfl⟩, q⟩) (hs _ _)

/-! ### scalar builtins, by CallR -/
theorem vals1 {x : V} {us : List Value} (r : Vals [x] us) : ∃ u, us = [u] ∧ RelV x u := by
  cases r with
  | cons r1 r2 => cases r2; exact ⟨_, rfl, r1⟩
theorem vals2 {x y : V} {us : List Value} (r : Vals [x, y] us) : ∃ u w', us = [u, w'] ∧ RelV x u ∧ RelV y w' := by
  cases r with
  | cons r1 r2 =>
    cases r2 with
    | cons r3 r4 => cases r4; exact ⟨_, _, rfl, r1, r3⟩
theorem call_abs : CallR X (.builtin "abs") (fun xs H Q => ∃ i, xs = [.int i] ∧ Q (.int (if i < 0 then -i else i)) H) := by
  intro pins s σ H xs us Q I r h
  obtain ⟨i, rfl, q⟩ := h
  obtain ⟨u, rfl, t, rfl⟩ := vals1 r
  exact call_abs_int fun u tk => ⟨.int (if i < 0 then -i else i), H, I.tok _, ⟨_, rfl⟩, q⟩
theorem call_max2 (hc : X.calm = true) : CallR X (.builtin "max") (fun xs H Q => ∃ i j, xs = [.int i, .int j] ∧ Q (.int (if j > i then j else i)) H) := by
  intro pins s σ H xs us Q I r h
  obtain ⟨i, j, rfl, q⟩ := h
  obtain ⟨u, w', rfl, ⟨t, rfl⟩, ⟨t', rfl⟩⟩ := vals2 r
  refine max_two_ints (I.ok.hd hc) fun h' tk k => ⟨_, H, I.kept k, ?_, q⟩
  by_cases hj : j > i
  · rw [if_pos hj, if_pos hj]; exact ⟨_, rfl⟩
  · rw [if_neg hj, if_neg hj]; exact ⟨_, rfl⟩
theorem call_min2 (hc : X.calm = true) : CallR X (.builtin "min") (fun xs H Q => ∃ i j, xs = [.int i, .int j] ∧ Q (.int (if j < i then j else i)) H) := by
  intro pins s σ H xs us Q I r h
  obtain ⟨i, j, rfl, q⟩ := h
  obtain ⟨u, w', rfl, ⟨t, rfl⟩, ⟨t', rfl⟩⟩ := vals2 r
  refine min_two_ints (I.ok.hd hc) fun h' tk k => ⟨_, H, I.kept k, ?_, q⟩
  by_cases hj : j < i
  · rw [if_pos hj, if_pos hj]; exact ⟨_, rfl⟩
  · rw [if_neg hj, if_neg hj]; exact ⟨_, rfl⟩
theorem call_int1 : CallR X (.type "int") (fun xs H Q => (∃ i, xs = [.int i] ∧ Q (.int i) H) ∨ ∃ k, xs = [.bl k] ∧ Q (.int (if k then 1 else 0)) H) := by
  intro pins s σ H xs us Q I r h
  rcases h with ⟨i, rfl, q⟩ | ⟨k, rfl, q⟩
  · obtain ⟨u, rfl, t, rfl⟩ := vals1 r
    exact call_int_int ⟨.int i, H, I, ⟨_, rfl⟩, q⟩
  · obtain ⟨u, rfl, r1⟩ := vals1 r
    cases r1
    exact call_int_bool ⟨.int (if k then 1 else 0), H, I.tok _, ⟨_, rfl⟩, q⟩
theorem call_bool1 : CallR X (.type "bool") (fun xs H Q => (∃ i, xs = [.int i] ∧ Q (.bl (i != 0)) H) ∨ ∃ k, xs = [.bl k] ∧ Q (.bl k) H) := by
  intro pins s σ H xs us Q I r h
  rcases h with ⟨i, rfl, q⟩ | ⟨k, rfl, q⟩
  · obtain ⟨u, rfl, t, rfl⟩ := vals1 r
    exact call_bool_int ⟨.bl (i != 0), H, I, rfl, q⟩
  · obtain ⟨u, rfl, r1⟩ := vals1 r
    cases r1
    exact call_bool_bool ⟨.bl k, H, I, rfl, q⟩
theorem call_str_int : CallR X (.type "str") (fun xs H Q => ∃ i, xs = [.int i] ∧ i.natAbs.log2 < 1920 ∧ Q (.str (toString i)) H) := by
  intro pins s σ H xs us Q I r h
  obtain ⟨i, rfl, hz, q⟩ := h
  obtain ⟨u, rfl, t, rfl⟩ := vals1 r
  exact PySem.P.str_of_int hz ⟨.str _, H, I.tok _, ⟨_, rfl⟩, q⟩
theorem call_ord : CallR X (.builtin "ord") (fun xs H Q => ∃ x, xs = [.str x] ∧ x.length = 1 ∧ Q (.int (x.cps.getD 0 0 : Nat)) H) := by
  intro pins s σ H xs us Q I r h
  obtain ⟨x, rfl, hz, q⟩ := h
  obtain ⟨u, rfl, t, rfl⟩ := vals1 r
  exact ord_of_one hz ⟨.int _, H, I.tok _, ⟨_, rfl⟩, q⟩
theorem call_chr : CallR X (.builtin "chr") (fun xs H Q => ∃ i, xs = [.int i] ∧ 0 ≤ i ∧ i ≤ 1114111 ∧ Q (.str ⟨#[i.toNat]⟩) H) := by
  intro pins s σ H xs us Q I r h
  obtain ⟨i, rfl, h0, h1, q⟩ := h
  obtain ⟨u, rfl, t, rfl⟩ := vals1 r
  exact chr_of_range h0 h1 ⟨.str _, H, I.tok _, ⟨_, rfl⟩, q⟩
/-- len of a str, a bytes, a list, a tuple -/
def LenV (K : PySem.W.Frag) (x : V) (H : Hp) (n : Nat) : Prop :=
  match x with
  | .str y => y.length ≤ sizeLine ∧ n = y.length
  | .byt y => y.size ≤ sizeLine ∧ n = y.size
  | .ref p => (∃ xs, SqL K H p xs ∧ n = xs.length) ∨ ∃ xs, SqT K H p xs ∧ n = xs.length
  | _ => False
theorem call_len : CallR X (.builtin "len") (fun xs H Q => ∃ x n, xs = [x] ∧ LenV X.K x H n ∧ Q (.int n) H) := by
  intro pins s σ H xs us Q I r h
  obtain ⟨x, n, rfl, e, q⟩ := h
  obtain ⟨u, rfl, rx⟩ := vals1 r
  have hl := line63
  have hs : sizeLine = 16777216 := sizeLine_eq
  cases x with
  | str y =>
    obtain ⟨t, rfl⟩ := rx
    obtain ⟨hy, e'⟩ : y.length ≤ sizeLine ∧ n = y.length := e
    subst e'
    exact len_str (by omega) ⟨.int _, H, I.tok _, ⟨_, rfl⟩, q⟩
  | byt y =>
    obtain ⟨t, rfl⟩ := rx
    obtain ⟨hy, e'⟩ : y.size ≤ sizeLine ∧ n = y.size := e
    subst e'
    exact PySem.W.len_bytes (by omega) ⟨.int _, H, I.tok _, ⟨_, rfl⟩, q⟩
  | ref p =>
    cases rx
    have e' : (∃ xs, SqL X.K H p xs ∧ n = xs.length) ∨ ∃ xs, SqT X.K H p xs ∧ n = xs.length := e
    rcases e' with ⟨xs, hx, e'⟩ | ⟨xs, hx, e'⟩
    · subst e'
      obtain ⟨its, r', pl, hz⟩ := I.list hx
      have hlen := r'.length
      exact Calls.call_len_list pl.isList (by simp only [List.size_toArray]; omega) ⟨.int xs.length, H, I.tok _, ⟨_, by simp only [List.size_toArray]; rw [hlen]⟩, q⟩
    · subst e'
      obtain ⟨its, r', pl, hz⟩ := I.tuple hx
      have hlen := r'.length
      exact len_tuple pl (by simp only [List.size_toArray]; omega) ⟨.int xs.length, H, I.tok _, ⟨_, by simp only [List.size_toArray]; rw [hlen]⟩, q⟩
  | _ => exact (show False from e).elim
/-- divmod: a new tuple -/
theorem call_divmod : CallR X (.builtin "divmod") (fun xs H Q => ∃ i j, xs = [.int i, .int j] ∧ CDiv i j ∧ ∀ p, H p = none → Q (.ref p) (upd H p (.tup [.int (i / j), .int (i % j)]))) := by
  intro pins s σ H xs us Q I r h
  obtain ⟨i, j, rfl, ⟨h1, h2⟩, q⟩ := h
  obtain ⟨u, w', rfl, ⟨t, rfl⟩, ⟨t', rfl⟩⟩ := vals2 r
  refine divmod_int (by omega) ?_ (.inl (PyProof.noPylong_small (by omega)))
  rw [Int.fdiv_eq_ediv_of_nonneg i (by omega), Int.fmod_eq_emod_of_nonneg i (by omega)]
  have hn : H s.heap.objs.size = none := I.hok.fresh (Nat.le_refl _)
  refine ⟨.ref s.heap.objs.size, _, ?_, rfl, q _ hn⟩
  refine I.laid (fun b o e => Heap.get?_push_of_some _ e) (Nat.le_refl _) ⟨by simp only [List.length_cons, List.length_nil]; rw [sizeLine_eq]; decide, [.int (i / j) s.toks, .int (i % j) (s.toks + 1)], .cons ⟨_, rfl⟩ (.cons ⟨_, rfl⟩ .nil), ?_⟩
  exact ⟨_, Heap.get?_push_size s.heap rfl, rfl, 0, rfl⟩
end
end L2

namespace L2
open PySem PySem.Spec PyProof.Rows

/-! ### an instance, its attributes a map -/
structure ObjM (h : Heap) (x dx C : Addr) (mA : Str → Option Value) : Prop where
  obj : h.get? x = some (PySem.W.instObj C dx)
  ns : h.Ns1 dx mA
  ne : dx ≠ x

theorem lookIn_ns {h : Heap} {dx : Addr} {mA : Str → Option Value} (n : h.Ns1 dx mA) : ∃ od, h.get? dx = some od ∧ ∀ name, PySem.W.lookIn name od = some (mA name) := by
  obtain ⟨o, es, ep, ho, hd, hk, _, hm⟩ := n
  refine ⟨o, ho, fun name => ?_⟩
  have e := hm name
  unfold nsFind findBy at e
  rw [← Array.find?_toList] at e
  unfold PySem.W.lookIn
  rw [hd]
  dsimp only
  split
  · rename_i y q
    rw [q] at e
    exact congrArg some e
  · rename_i q
    rw [q] at e
    have a : es.toList.any (·.refKey) = false := by
      rw [List.any_eq_false]
      intro y hy
      obtain ⟨z, t, hkey⟩ := hk y (Array.mem_toList_iff.mp hy)
      simp [DictEntry.refKey, hkey]
    have a' : ¬ es.toList.any (·.refKey) = true := by rw [a]; exact Bool.false_ne_true
    rw [if_neg a']
    exact congrArg some e

theorem ObjM.look {h : Heap} {x dx C : Addr} {mA : Str → Option Value} (I : ObjM h x dx C mA) : ∃ od, PySem.W.InstAt h x (PySem.W.instObj C dx) C (some od) ∧ ∀ name, PySem.W.lookIn name od = some (mA name) :=
  let ⟨od, ho, hl⟩ := lookIn_ns I.ns
  ⟨od, ⟨I.obj, rfl, rfl, ho⟩, hl⟩

section
variable {prog : Program} {w : World} {A : Around} {E : Value → Shared → Prop} {s : Shared} {K : PySem.W.Frag} {x dx C f : Addr} {mA : Str → Option Value} {name : Str} {v : Value}

theorem get_map {expr : Bool} {Q : Value → Shared → Prop} (X : K.In s.heap) (I : ObjM s.heap x dx C mA) (hg : PySem.W.plainGet K C name = true) (hh : PySem.W.hasDictIn K C = true)
    (ha : PySem.W.findIn K (.ref C) name = some none) (hv : mA name = some v) (hv' : PySem.W.handedIn v = true) (h : Q v { s with toks := s.toks + 1 }) :
    wpAny (model prog w) A (getAttr (.ref x) name expr) Q E s := by
  obtain ⟨od, J, hl⟩ := I.look
  exact PySem.W.get_value X J (PySem.W.plainGet_of hg).1 (PySem.W.findObj_own hh ha rfl (by rw [hl, hv])) hv' h

theorem get_const {expr : Bool} {a : Value} {Q : Value → Shared → Prop} (X : K.In s.heap) (I : ObjM s.heap x dx C mA) (hg : PySem.W.plainGet K C name = true) (hh : PySem.W.hasDictIn K C = true)
    (ha : PySem.W.findIn K (.ref C) name = some (some a)) (hn : PySem.W.specialIn K a "__get__" = some none) (hc : PySem.W.copiedNames.contains name = false) (hv : mA name = none) (hv' : PySem.W.handedIn a = true)
    (h : Q a { s with toks := s.toks + 1 }) : wpAny (model prog w) A (getAttr (.ref x) name expr) Q E s := by
  obtain ⟨od, J, hl⟩ := I.look
  exact PySem.W.get_value X J (PySem.W.plainGet_of hg).1 (PySem.W.findObj_cls hh ha hn hv' hc (by rw [hl, hv])) hv' h

theorem get_meth {pl : Sem Bool} {Q : Value × List Value → Shared → Prop} (X : K.In s.heap) (I : ObjM s.heap x dx C mA) (hg : PySem.W.plainGet K C name = true)
    (hf : PySem.W.findIn K (.ref C) name = some (some (.ref f))) (ht : PySem.W.isFn K (.ref f) = true) (hv : mA name = none) (h : Q (.ref f, [.ref x]) s) :
    wpAny (model prog w) A (getMethod (.ref x) name pl) Q E s := by
  obtain ⟨od, J, hl⟩ := I.look
  exact PySem.W.method_fn X J (PySem.W.plainGet_of hg).1 (PySem.W.plainGet_of hg).2 hf (beq_iff_eq.mp ht) (by show (PySem.W.lookIn name od).map (·.isSome) = some false; rw [hl, hv]; rfl) h

theorem set_map {ns : List Str} {Q : Unit → Shared → Prop} (X : K.In s.heap) (I : ObjM s.heap x dx C mA)
    (hs : PySem.W.findIn K (.ref C) "__setattr__" = some (some (.builtin "object.__setattr__"))) (hp : PySem.W.plainOver K C = true) (ht : PySem.W.takerIn K C name = some none) (hh : PySem.W.hasDictIn K C = true)
    (hw : PySem.Within mA ns) (hsz : ns.length ≤ sizeLine)
    (h : ∀ h', ObjM h' x dx C (fun y => if y = name then some v else mA y) → Heap.SameBut dx s.heap h' → Q () { s with heap := h', toks := s.toks + 2 }) :
    wpAny (model prog w) A (setAttr (.ref x) name v) Q E s := by
  obtain ⟨od, J, hl⟩ := I.look
  refine PySem.W.set_plain X J hs (PySem.W.osa_open (s := { s with toks := s.toks + 1 }) (r := none) X J hp ht fun b => ?_)
  obtain ⟨cd, hc, hd'⟩ := PySem.W.any_some hh
  have hx : s.heap.get? x = some ⟨.ref C, some dx, .plain, #[]⟩ := I.obj
  refine wpAny_bind (wpAny_pure (wpAny_bind (wpAny_bind (wpAny_loadPart hx (wpAny_bind (PySem.W.Looks.here (s := { s with toks := s.toks + 1 }) (PySem.W.looks_clsIn X hc) ?_))))))
  rw [hd']
  refine wpAny_pure (a := some dx) (wpAny_bind (wpAny_pure (wpAny_bind ?_)))
  refine wpAny_nsSet1 (s := { s with toks := s.toks + 1 }) I.ns fun h' hn2 hs2 => ?_
  obtain ⟨oD, esD, epD, hoD, hdD, hcD⟩ := hn2.count (PySem.Within.cons name v hw)
  refine wpAny_bind (wpAny_lookBehind hoD (by rw [hdD]; exact pastItsLine_dict (Nat.le_trans hcD (by rw [List.length_cons]; omega))) ?_)
  exact wpAny_pure (h _ ⟨(hs2.2 _ (Ne.symm I.ne)).trans I.obj, hn2, I.ne⟩ hs2)

/-- C(..): the dict at the heap's end, the instance behind it; then its __init__ -/
theorem make_map {R : Result → Shared → Prop} {vs : List Value} {kw : List (Str × Value)} (X : K.In s.heap) (hm : PySem.W.makesIn K C = true)
    (hi : PySem.W.findIn K (.ref C) "__init__" = some (some (.ref f))) (hf : PySem.W.typeIn K (.ref f) = some (.type "function"))
    (h : codeAny (model prog w) (A.under (.builtin "type.__call__" ⟨.ref C :: vs, kw⟩)) (.call (.ref f) ⟨.ref (s.heap.objs.size + 1) :: vs, kw⟩) (PySem.W.InitBack (s.heap.objs.size + 1) R)
      { s with heap := (s.heap.push PySem.W.emptyDict).push (PySem.W.instObj C s.heap.objs.size) }) :
    codeAny (model prog w) A (.call (.ref C) ⟨vs, kw⟩) R s := by
  obtain ⟨hh, g, d, t, os⟩ := s
  exact PySem.W.make_core (PySem.W.makes_of X hm) (PySem.W.looks_findIn X hi) (fun self => PySem.W.bind_fn X self hf) (.inl rfl) h
/-- C() where there is no __init__ but object's -/
theorem make_map0 {R : Result → Shared → Prop} (X : K.In s.heap) (hm : PySem.W.makesIn K C = true)
    (hi : PySem.W.findIn K (.ref C) "__init__" = some (some (.builtin "object.__init__")))
    (hb : ∀ self, PySem.W.Looks (model prog w) s.heap (bindSpecial (.builtin "object.__init__") self) (.builtin "object.__init__", [self]))
    (h : codeAny (model prog w) (A.under (.builtin "type.__call__" ⟨[.ref C], []⟩)) (.call (.builtin "object.__init__") ⟨[.ref (s.heap.objs.size + 1)], []⟩) (PySem.W.InitBack (s.heap.objs.size + 1) R)
      { s with heap := (s.heap.push PySem.W.emptyDict).push (PySem.W.instObj C s.heap.objs.size) }) :
    codeAny (model prog w) A (.call (.ref C) ⟨[], []⟩) R s := by
  obtain ⟨hh, g, d, t, os⟩ := s
  exact PySem.W.make_core (PySem.W.makes_of X hm) (PySem.W.looks_findIn X hi) hb (.inr ⟨rfl, rfl⟩) h
end

/-! ### the attributes as a list of pairs -/
def putF (f : Str) (v : V) : List (Str × V) → List (Str × V)
  | [] => [(f, v)]
  | (g, x) :: r => if g = f then (g, v) :: r else (g, x) :: putF f v r
theorem lookup_putF (f g : Str) (v : V) : ∀ fs : List (Str × V), (putF f v fs).lookup g = if g = f then some v else fs.lookup g
  | [] => by
    show List.lookup g [(f, v)] = _
    by_cases h : g = f
    · have hb : (g == f) = true := beq_iff_eq.mpr h
      simp only [List.lookup, hb, if_pos h]
    · have hb : (g == f) = false := beq_eq_false_iff_ne.mpr h
      simp only [List.lookup, hb, if_neg h]
  | (k, x) :: r => by
    have ih := lookup_putF f g v r
    rw [show putF f v ((k, x) :: r) = (if k = f then (k, v) :: r else (k, x) :: putF f v r) from rfl]
    by_cases hk : k = f
    · rw [if_pos hk]
      by_cases h : g = k
      · have hb : (g == k) = true := beq_iff_eq.mpr h
        simp only [List.lookup, hb, if_pos (h.trans hk)]
      · have hb : (g == k) = false := beq_eq_false_iff_ne.mpr h
        simp only [List.lookup, hb, if_neg (fun e : g = f => h (e.trans hk.symm))]
    · rw [if_neg hk]
      by_cases h : g = k
      · have hb : (g == k) = true := beq_iff_eq.mpr h
        simp only [List.lookup, hb, if_neg (fun e : g = f => hk (h.symm.trans e))]
      · have hb : (g == k) = false := beq_eq_false_iff_ne.mpr h
        simp only [List.lookup, hb]
        exact ih
theorem keys_putF (f : Str) (v : V) : ∀ fs : List (Str × V), f ∈ (putF f v fs).map (·.1) ∧ ∀ g, g ∈ fs.map (·.1) → g ∈ (putF f v fs).map (·.1)
  | [] => ⟨by simp [putF], fun g h => by simp at h⟩
  | (k, x) :: r => by
    obtain ⟨i1, i2⟩ := keys_putF f v r
    rw [show putF f v ((k, x) :: r) = (if k = f then (k, v) :: r else (k, x) :: putF f v r) from rfl]
    by_cases hk : k = f
    · rw [if_pos hk]
      subst hk
      exact ⟨by simp, fun g h => by simpa using h⟩
    · rw [if_neg hk]
      refine ⟨?_, fun g h => ?_⟩
      · rw [List.map_cons]
        exact List.mem_cons_of_mem _ i1
      · rw [List.map_cons] at h ⊢
        rcases List.mem_cons.mp h with e | e
        · exact List.mem_cons.mpr (.inl e)
        · exact List.mem_cons_of_mem _ (i2 g e)
theorem length_putF (f : Str) (v : V) : ∀ fs : List (Str × V), (putF f v fs).length ≤ fs.length + 1
  | [] => by simp [putF]
  | (k, x) :: r => by
    have ih := length_putF f v r
    rw [show putF f v ((k, x) :: r) = (if k = f then (k, v) :: r else (k, x) :: putF f v r) from rfl]
    by_cases hk : k = f
    · rw [if_pos hk, List.length_cons, List.length_cons]; omega
    · rw [if_neg hk, List.length_cons, List.length_cons]; omega

theorem RelO.some_of {v : V} {o : Option Value} (r : RelO (some v) o) : ∃ u, o = some u ∧ RelV v u := by
  cases o with
  | none => exact (show False from r).elim
  | some u => exact ⟨u, rfl, r⟩
theorem RelO.none_of {o : Option Value} (r : RelO none o) : o = none := by
  cases o with
  | none => rfl
  | some u => exact (show False from r).elim
theorem handed_of {v : V} {u : Value} (r : RelV v u) : PySem.W.handedIn u = true := by
  cases v with
  | non => cases (show u = Value.none from r); rfl
  | bl b => cases (show u = Value.bool b from r); rfl
  | int i => obtain ⟨t, e⟩ := (show ∃ t, u = Value.int i t from r); cases e; rfl
  | str x => obtain ⟨t, e⟩ := (show ∃ t, u = Value.str x t from r); cases e; rfl
  | byt b => obtain ⟨t, e⟩ := (show ∃ t, u = Value.bytes b t from r); cases e; rfl
  | flt b => obtain ⟨t, e⟩ := (show ∃ t, u = Value.float b t from r); cases e; rfl
  | ref a => cases (show u = Value.ref a from r); rfl
  | ty n => cases (show u = Value.type n from r); rfl

section
variable {P : Program} {w : World} {H H' : Hp} {h h' : Heap} {a C dx : Addr} {fs fs' : List (Str × V)}
theorem ins_get (hok : HOk P w H h) (e : H a = some (.ins C dx fs)) : ∃ mA, ObjM h a dx C mA ∧ (∀ f, RelO (fs.lookup f) (mA f)) ∧ PySem.Within mA (fs.map (·.1)) ∧ fs.length ≤ 1000 ∧ H dx = some (.own a) := by
  obtain ⟨d, z, ne, ob, mA, n, r, q⟩ := (show ObjOk P w H h a (.ins C dx fs) from hok a _ e)
  exact ⟨mA, ⟨ob, n, ne⟩, r, q, z, d⟩
end

/-! ### what of the text a class must have -/
structure Cls (K : PySem.W.Frag) (C : Addr) : Prop where
  pg : PySem.W.plainGet K C Str.empty = true
  hd : PySem.W.hasDictIn K C = true
  po : PySem.W.plainOver K C = true
  sa : PySem.W.findIn K (.ref C) "__setattr__" = some (some (.builtin "object.__setattr__"))
theorem Cls.get {K : PySem.W.Frag} {C : Addr} (c : Cls K C) (f : Str) : PySem.W.plainGet K C f = true := c.pg
/-- no class of it has the name -/
def NoAttr (K : PySem.W.Frag) (C : Addr) (f : Str) : Prop := PySem.W.findIn K (.ref C) f = some none
theorem NoAttr.taker {K : PySem.W.Frag} {C : Addr} {f : Str} (n : NoAttr K C f) : PySem.W.takerIn K C f = some none := by
  unfold PySem.W.takerIn
  rw [show PySem.W.findIn K (.ref C) f = some none from n]
  rfl
/-- a constant of the class -/
structure Con (K : PySem.W.Frag) (C : Addr) (f : Str) (v : V) (u : Value) : Prop where
  at_ : PySem.W.findIn K (.ref C) f = some (some u)
  rel : RelV v u
  get : PySem.W.specialIn K u "__get__" = some none
  cp : PySem.W.copiedNames.contains f = false
/-- a method: a plain def of the class or of one above it -/
structure Meth (K : PySem.W.Frag) (C : Addr) (m : Str) (f : Addr) : Prop where
  at_ : PySem.W.findIn K (.ref C) m = some (some (.ref f))
  fn : PySem.W.isFn K (.ref f) = true
  kp : PySem.W.keepIn K (.ref f) = true

section
variable {X : Cx} {pins : List (Addr × Obj)} {σ : St} {H : Hp} {s : Shared} {a C dx : Addr} {fs : List (Str × V)} {f : Str} {v : V} {A : Around} {E : Value → Shared → Prop}

theorem getattr_ok {b : Bool} {Q : Value → Shared → Prop} (I : Inv X pins σ H s) (e : H a = some (.ins C dx fs)) (c : Cls X.K C) (n : NoAttr X.K C f) (l : fs.lookup f = some v)
    (h : ∀ u s', Inv X pins σ H s' → RelV v u → Q u s') : wpAny (model X.prog X.w) A (getAttr (.ref a) f b) Q E s := by
  obtain ⟨mA, O, r, _, _, _⟩ := ins_get I.hok e
  obtain ⟨u, hu, ru⟩ := RelO.some_of (v := v) (o := mA f) (by rw [← l]; exact r f)
  exact get_map I.kIn O (c.get f) c.hd n hu (handed_of ru) (h u _ (I.tok _) ru)

theorem getcon_ok {b : Bool} {u : Value} {Q : Value → Shared → Prop} (I : Inv X pins σ H s) (e : H a = some (.ins C dx fs)) (c : Cls X.K C) (k : Con X.K C f v u) (l : fs.lookup f = none)
    (h : ∀ s', Inv X pins σ H s' → Q u s') : wpAny (model X.prog X.w) A (getAttr (.ref a) f b) Q E s := by
  obtain ⟨mA, O, r, _, _, _⟩ := ins_get I.hok e
  have hn : mA f = none := RelO.none_of (by rw [← l]; exact r f)
  exact get_const I.kIn O (c.get f) c.hd k.at_ k.get k.cp hn (handed_of k.rel) (h _ (I.tok _))

theorem getmeth_ok {m : Str} {g : Addr} {pl : Sem Bool} {Q : Value × List Value → Shared → Prop} (I : Inv X pins σ H s) (e : H a = some (.ins C dx fs)) (c : Cls X.K C) (k : Meth X.K C m g) (l : fs.lookup m = none)
    (h : Q (.ref g, [.ref a]) s) : wpAny (model X.prog X.w) A (getMethod (.ref a) m pl) Q E s := by
  obtain ⟨mA, O, r, _, _, _⟩ := ins_get I.hok e
  have hn : mA m = none := RelO.none_of (by rw [← l]; exact r m)
  exact get_meth I.kIn O (c.get m) k.at_ k.fn hn h

theorem setattr_ok {y : V} {u : Value} {Q : Unit → Shared → Prop} (I : Inv X pins σ H s) (e : H a = some (.ins C dx fs)) (c : Cls X.K C) (n : NoAttr X.K C f) (hl : fs.length < 1000) (ry : RelV y u)
    (h : ∀ s', Inv X pins σ (upd H a (.ins C dx (putF f y fs))) s' → Q () s') : wpAny (model X.prog X.w) A (setAttr (.ref a) f u) Q E s := by
  obtain ⟨mA, O, r, wi, _, ho⟩ := ins_get I.hok e
  have hz : (fs.map (·.1)).length ≤ sizeLine := by rw [List.length_map, sizeLine_eq]; omega
  refine set_map I.kIn O c.sa c.po n.taker c.hd wi hz fun h' O' sb => h _ ?_
  have hd : ∃ o, h'.get? dx = some o := let ⟨o, _, _, e', _⟩ := O'.ns; ⟨o, e'⟩
  refine I.write (x := a) (e := dx) (by rw [e]; exact True.intro) (.inr ho) (fun b q hb z => (sb.2 b hb).trans z) hd ?_
  refine ⟨by rw [upd_ne O.ne]; exact ho, ?_, O.ne, O'.obj, _, O'.ns, fun g => ?_, fun g hg => ?_⟩
  · have := length_putF f y fs; omega
  · show RelO ((putF f y fs).lookup g) (if g = f then some u else mA g)
    rw [lookup_putF]
    by_cases q : g = f
    · rw [if_pos q, if_pos q]; exact ry
    · rw [if_neg q, if_neg q]; exact r g
  · by_cases q : g = f
    · rw [q]; exact (keys_putF f y fs).1
    · refine (keys_putF f y fs).2 g (wi g fun z => hg ?_)
      show (if g = f then some u else mA g) = none
      rw [if_neg q]; exact z

/-- a new instance, tracked, without attributes -/
theorem Inv.made (I : Inv X pins σ H s) : Inv X pins σ (upd (upd H s.heap.objs.size (.own (s.heap.objs.size + 1))) (s.heap.objs.size + 1) (.ins C s.heap.objs.size []))
    { s with heap := (s.heap.push PySem.W.emptyDict).push (PySem.W.instObj C s.heap.objs.size) } := by
  have e1 : (s.heap.push PySem.W.emptyDict).get? s.heap.objs.size = some PySem.W.emptyDict := Heap.get?_push_size s.heap rfl
  have e2 : ((s.heap.push PySem.W.emptyDict).push (PySem.W.instObj C s.heap.objs.size)).get? (s.heap.objs.size + 1) = some (PySem.W.instObj C s.heap.objs.size) := by
    have := Heap.get?_push_size (s.heap.push PySem.W.emptyDict) (o := PySem.W.instObj C s.heap.objs.size) rfl
    rwa [Heap.size_push] at this
  have e3 : (s.heap.push PySem.W.emptyDict).Ns s.heap.objs.size (fun _ => none) := ⟨PySem.W.emptyDict, #[], _, e1, rfl, (fun e he => absurd he (by simp)), fun _ => rfl⟩
  have I1 := I.laid (a := s.heap.objs.size) (o := .own (s.heap.objs.size + 1)) (h' := s.heap.push PySem.W.emptyDict) (t' := s.toks) (fun b u q => Heap.get?_push_of_some _ q) (Nat.le_refl _) ⟨_, e1⟩
  refine I1.laid (a := s.heap.objs.size + 1) (o := .ins C s.heap.objs.size []) (t' := s.toks) (fun b u q => Heap.get?_push_of_some _ q) (Nat.le_of_eq (Heap.size_push _ _)) ?_
  have ne : s.heap.objs.size ≠ s.heap.objs.size + 1 := Nat.ne_of_lt (Nat.lt_succ_self _)
  refine ⟨by rw [upd_ne ne, upd_same], Nat.zero_le _, ne, e2, fun _ => none, (Heap.Ns1.of_empty e3).at fun o q => Heap.get?_push_of_some _ q, fun _ => True.intro, fun y hy => absurd rfl hy⟩

/-- e.f where nothing but the object is asked: through attributeBase (super) and the last hold -/
theorem attr_of {prog : Program} {w : World} {env : Env} {e : Expr} {f : Str} {pos : Pos} {s : Shared} {Q : Value → Shared → Prop} (hb : attributeBase e f env (eval e env) = eval e env)
    (h : wpAny (model prog w) A (eval e env) (fun o s₁ => wpAny (model prog w) A (getAttr o f true) Q E s₁) E s) : wpAny (model prog w) A (eval (.Attribute e f pos) env) Q E s :=
  Attribute_any_ h (by rw [arm_eval_Attribute, hb])
end

/-! ### readings and rules -/
/-- e.f, an attribute of the instance -/
def tFld (K : PySem.W.Frag) (ta : TE) (f : Str) : TE := fun σ H Q => ta σ H fun x H1 => ∃ a C dx fs v, x = .ref a ∧ H1 a = some (.ins C dx fs) ∧ Cls K C ∧ NoAttr K C f ∧ fs.lookup f = some v ∧ Q v H1
/-- e.f, a constant of the class -/
def tCon (K : PySem.W.Frag) (ta : TE) (f : Str) : TE := fun σ H Q => ta σ H fun x H1 => ∃ a C dx fs v u, x = .ref a ∧ H1 a = some (.ins C dx fs) ∧ Cls K C ∧ Con K C f v u ∧ fs.lookup f = none ∧ Q v H1
/-- e.f = value -/
def sFld (K : PySem.W.Frag) (ta tv : TE) (f : Str) : TS := fun D σ H => tv σ H fun y H1 => ta σ H1 fun x H2 => ∃ a C dx fs, x = .ref a ∧ H2 a = some (.ins C dx fs) ∧ Cls K C ∧ NoAttr K C f ∧ fs.length < 1000 ∧
  D.nx σ (upd H2 a (.ins C dx (putF f y fs)))
/-- an augmented operator on two values -/
def InOp (X : Cx) (op : Operator) (rd : V → V → Hp → VK → Prop) : Prop :=
  ∀ (pins : List (Addr × Obj)) (s : Shared) (σ : St) (H : Hp) (x y : V) (u v : Value) (Q : VK), Inv X pins σ H s → RelV x u → RelV y v → rd x y H Q → wpAny (model X.prog X.w) X.A (inplaceOp op u v) (EP X pins σ Q) X.xe s
/-- e.f op= value -/
def sFldAug (K : PySem.W.Frag) (ta tv : TE) (rd : V → V → Hp → VK → Prop) (f : Str) : TS := fun D σ H => ta σ H fun x H1 => ∃ a C dx fs v, x = .ref a ∧ H1 a = some (.ins C dx fs) ∧ Cls K C ∧ NoAttr K C f ∧ fs.lookup f = some v ∧
  tv σ H1 fun y H2 => rd v y H2 fun z H3 => ∃ dx' fs', H3 a = some (.ins C dx' fs') ∧ fs'.length < 1000 ∧ D.nx σ (upd H3 a (.ins C dx' (putF f z fs')))

section
variable {X : Cx} {o e value : Expr} {f : Str} {pos pos' tpos : Pos} {ta tv : TE}
theorem pe_fld (he : PE X e ta) (hb : attributeBase e f X.env (eval e X.env) = eval e X.env) : PE X (.Attribute e f pos) (tFld X.K ta f) := by
  intro pins s σ H Q I h
  refine attr_of hb (thn (he pins s σ H _ I h) fun u s1 ⟨x, H1, I1, rx, a, C, dx, fs, v, ex, ea, c, n, l, q⟩ => ?_)
  subst ex
  obtain rfl : u = Value.ref a := rx
  exact getattr_ok I1 ea c n l fun u' s2 I2 ru => ⟨v, H1, I2, ru, q⟩
theorem pe_con (he : PE X e ta) (hb : attributeBase e f X.env (eval e X.env) = eval e X.env) : PE X (.Attribute e f pos) (tCon X.K ta f) := by
  intro pins s σ H Q I h
  refine attr_of hb (thn (he pins s σ H _ I h) fun u s1 ⟨x, H1, I1, rx, a, C, dx, fs, v, u0, ex, ea, c, k, l, q⟩ => ?_)
  subst ex
  obtain rfl : u = Value.ref a := rx
  exact getcon_ok I1 ea c k l fun s2 I2 => ⟨v, H1, I2, k.rel, q⟩
theorem ps_fld (ha : PE X o ta) (hv : PE X value tv) (hs : swapsWith value (some (.Attribute o f pos')) pos.line X.env = pure false) : PS X (.Assign [.Attribute o f pos'] value pos) (sFld X.K ta tv f) := by
  intro pins s σ H D I h
  refine plainObj_wpAny_Assign_Attribute (thn (hv pins s σ H _ I h) fun u s1 ⟨y, H1, I1, ry, q⟩ => thn (ha pins s1 σ H1 _ I1 q) fun ov s2 ⟨x, H2, I2, rx, a, C, dx, fs, ex, ea, c, n, l, q2⟩ => ?_) hs
  subst ex
  obtain rfl : ov = Value.ref a := rx
  exact setattr_ok I2 ea c n l ry fun s3 I3 => ⟨σ, _, I3, q2⟩
theorem ps_fldaug {op : Operator} {rd : V → V → Hp → VK → Prop} (ha : PE X o ta) (hv : PE X value tv) (hop : InOp X op rd) : PS X (.AugAssign (.Attribute o f tpos) op value pos) (sFldAug X.K ta tv rd f) := by
  intro pins s σ H D I h
  refine wpAny_AugAssign_AttributeAny (thn (ha pins s σ H _ I h) fun ov s1 ⟨x, H1, I1, rx, a, C, dx, fs, v, ex, ea, c, n, l, q⟩ => ?_)
  subst ex
  obtain rfl : ov = Value.ref a := rx
  refine getattr_ok I1 ea c n l fun u s2 I2 ru => thn (hv pins s2 σ H1 _ I2 q) fun w3 s3 ⟨y, H2, I3, ry, q3⟩ => thn (hop pins s3 σ H2 v y u w3 _ I3 ru ry q3) fun w4 s4 ⟨z, H3, I4, rz, dx', fs', ea', l', q4⟩ => ?_
  exact setattr_ok I4 ea' c n l' rz fun s5 I5 => ⟨σ, _, I5, q4⟩
def rAdd : V → V → Hp → VK → Prop := fun x y H Q => ∃ i j, x = .int i ∧ y = .int j ∧ Q (.int (i + j)) H
def rSub : V → V → Hp → VK → Prop := fun x y H Q => ∃ i j, x = .int i ∧ y = .int j ∧ Q (.int (i - j)) H
theorem in_add : InOp X .Add rAdd := by
  rintro pins s σ H x y u v Q I rx ry ⟨i, j, rfl, rfl, q⟩
  obtain ⟨t, rfl⟩ := (show ∃ t, u = Value.int i t from rx)
  obtain ⟨t', rfl⟩ := (show ∃ t', v = Value.int j t' from ry)
  exact PyProof.Rows.iadd_int ⟨.int (i + j), H, I.tok _, ⟨_, rfl⟩, q⟩
theorem in_sub : InOp X .Sub rSub := by
  rintro pins s σ H x y u v Q I rx ry ⟨i, j, rfl, rfl, q⟩
  obtain ⟨t, rfl⟩ := (show ∃ t, u = Value.int i t from rx)
  obtain ⟨t', rfl⟩ := (show ∃ t', v = Value.int j t' from ry)
  exact PyProof.Rows.isub_int ⟨.int (i - j), H, I.tok _, ⟨_, rfl⟩, q⟩

/-- what is between an instance and its method: the tree of a method call -/
theorem methcall_of {pl : Sem Bool} {m : Str} {apos : Pos} {args : List Expr} {pins : List (Addr × Obj)} {s : Shared} {σ : St} {H : Hp} {Q : Value → Shared → Prop} {te : TE} (he : PE X e te) (I : Inv X pins σ H s)
    (h : te σ H fun x H1 => ∃ a C dx fs g, x = .ref a ∧ H1 a = some (.ins C dx fs) ∧ Cls X.K C ∧ Meth X.K C m g ∧ fs.lookup m = none ∧
      ∀ s1, Inv X pins σ H1 s1 → wpAny (model X.prog X.w) X.A (callWith pos (.ref g) [.ref a] (backTo pos (starEach args X.env)) (backToKw pos (keywordEach [] X.env))) Q X.xe s1)
    (ht : eval (.Call (.Attribute e m apos) args [] pos) X.env = (do
      let ov ← eval e X.env
      standAt apos.atName
      let (f, first) ← holding [ov] (getMethod ov m pl)
      callWith pos f first (backTo pos (starEach args X.env)) (backToKw pos (keywordEach [] X.env)))) :
    wpAny (model X.prog X.w) X.A (eval (.Call (.Attribute e m apos) args [] pos) X.env) Q X.xe s := by
  refine PySem.W.methodCall_KW (pl := pl) (thn (he pins s σ H _ I h) fun u s1 ⟨x, H1, I1, rx, a, C, dx, fs, g, ex, ea, c, k, l, q⟩ => ?_) ht
  subst ex
  obtain rfl : u = Value.ref a := rx
  exact getmeth_ok I1 ea c k l (q s1 I1)
end

/-! ### isinstance -/
section
variable {X : Cx} {pins : List (Addr × Obj)} {σ : St} {H : Hp} {s : Shared} {A : Around} {E : Value → Shared → Prop} {Q : Value → Shared → Prop} {c : Value} {b : Bool}
/-- the type of a value, as the fragment's deciders take it; for an instance its class -/
inductive TyOf (K : PySem.W.Frag) (H : Hp) : V → Value → Prop where
  | non : TyOf K H .non (.type "NoneType")
  | bl (x : Bool) : TyOf K H (.bl x) (.type "bool")
  | int (i : Int) : TyOf K H (.int i) (.type "int")
  | str (x : Str) : TyOf K H (.str x) (.type "str")
  | flt (x : UInt64) : TyOf K H (.flt x) (.type "float")
  | lst {a : Addr} {xs : List V} (e : H a = some (.lst xs)) : TyOf K H (.ref a) (.type "list")
  | frz {a : Addr} {o : Obj} {xs : List V} (e : H a = some (.frz o (.lst xs))) : TyOf K H (.ref a) (.type "list")
  | tup {a : Addr} {xs : List V} (e : H a = some (.tup xs)) : TyOf K H (.ref a) (.type "tuple")
  | dK {a : Addr} {kvs : List (Key × V)} (e : H a = some (.dK kvs)) : TyOf K H (.ref a) (.type "dict")
  | dT {a : Addr} {kvs : List (List Key × V)} (e : H a = some (.dT kvs)) : TyOf K H (.ref a) (.type "dict")
  | ins {a C dx : Addr} {fs : List (Str × V)} (e : H a = some (.ins C dx fs)) (cl : Cls K C) (ha : PySem.W.findIn K (.ref C) "__class__" = some (some (.builtin "object.__class__")))
      (hn : PySem.W.specialIn K (.builtin "object.__class__") "__get__" = some (some (.builtin "getset_descriptor.__get__"))) (htk : PySem.W.takesIn K (.builtin "object.__class__") = some true)
      (hm : PySem.W.mroIn K C (.type "object") = some true) : TyOf K H (.ref a) (.ref C)
/-- isinstance(x, c) for one class c, a built-in or an own one: kitOne's answer -/
theorem isinst_ok {x : V} {u t : Value} (I : Inv X pins σ H s) (rx : RelV x u) (ty : TyOf X.K H x t) (e : PySem.W.kitOne X.K t c = some b) (h : ∀ tk, Q (.bool b) { s with toks := tk }) :
    wpAny (model X.prog X.w) A (call (.builtin "isinstance") [u, c]) Q E s := by
  cases ty with
  | non => cases (show u = Value.none from rx); exact PySem.W.kia_one PySem.W.kitx_none I.kIn True.intro e (fun z => nomatch z) h
  | bl y => cases (show u = Value.bool y from rx); exact PySem.W.kia_one PySem.W.kitx_bool I.kIn True.intro e (fun z => nomatch z) h
  | int i => obtain ⟨t, q⟩ := (show ∃ t, u = Value.int i t from rx); cases q; exact PySem.W.kia_one PySem.W.kitx_int I.kIn True.intro e (fun z => nomatch z) h
  | str y => obtain ⟨t, q⟩ := (show ∃ t, u = Value.str y t from rx); cases q; exact PySem.W.kia_one PySem.W.kitx_str I.kIn True.intro e (fun z => nomatch z) h
  | flt y => obtain ⟨t, q⟩ := (show ∃ t, u = Value.float y t from rx); cases q; exact PySem.W.kia_one PySem.W.kitx_float I.kIn True.intro e (fun z => nomatch z) h
  | @lst a xs ea =>
    cases (show u = Value.ref a from rx)
    obtain ⟨_, _, n, _, h1⟩ := (show ObjOk X.prog X.w H s.heap a (.lst xs) from I.hok a _ ea)
    exact PySem.W.kia_one PySem.W.kitx_list I.kIn ⟨_, h1, rfl⟩ e (fun z => nomatch z) h
  | @frz a ob xs ea =>
    cases (show u = Value.ref a from rx)
    obtain ⟨_, _, _, n, _, h1⟩ := (show ObjOk X.prog X.w H s.heap a (.frz ob (.lst xs)) from I.hok a _ ea)
    exact PySem.W.kia_one PySem.W.kitx_list I.kIn ⟨_, h1, rfl⟩ e (fun z => nomatch z) h
  | @tup a xs ea =>
    cases (show u = Value.ref a from rx)
    obtain ⟨_, _, _, p⟩ := (show ObjOk X.prog X.w H s.heap a (.tup xs) from I.hok a _ ea)
    obtain ⟨o, h1, h2, _⟩ := p
    exact PySem.W.kia_one PySem.W.kitx_tuple I.kIn ⟨o, h1, h2⟩ e (fun z => nomatch z) h
  | @dK a kvs ea =>
    cases (show u = Value.ref a from rx)
    obtain ⟨_, _, vs, _, p⟩ := (show ObjOk X.prog X.w H s.heap a (.dK kvs) from I.hok a _ ea)
    obtain ⟨o, es, ep, h1, h2, _⟩ := p
    exact PySem.W.kia_one PySem.W.kitx_dict I.kIn ⟨o, h1, h2.1⟩ e (fun z => nomatch z) h
  | @dT a kvs ea =>
    cases (show u = Value.ref a from rx)
    obtain ⟨_, _, xs, _, o, es, ep, h1, h2, _⟩ := (show ObjOk X.prog X.w H s.heap a (.dT kvs) from I.hok a _ ea)
    exact PySem.W.kia_one PySem.W.kitx_dict I.kIn ⟨o, h1, h2.1⟩ e (fun z => nomatch z) h
  | @ins a C dx fs ea cl ha hn htk hm =>
    cases (show u = Value.ref a from rx)
    obtain ⟨mA, O, _⟩ := ins_get I.hok ea
    obtain ⟨od, J, _⟩ := O.look
    exact PySem.W.kia_one (PySem.W.kitx_own (cl.get _) cl.hd ha hn htk hm) I.kIn J e (fun z => nomatch z) h
end
end L2

namespace L2
open PySem PySem.Spec PyProof.Rows

/-! ### room -/
structure Room (k : Nat) (A : Around) : Prop where
  hd : A.handled = none
  dp : A.depth + 3 * k + 5 < recursionLimit
  un : A.units + 16 * k + 200 < cLine
theorem Room.mono {j k : Nat} {A : Around} (r : Room k A) (h : j ≤ k) : Room j A := ⟨r.hd, by have := r.dp; omega, by have := r.un; omega⟩
theorem Room.deeper {k : Nat} {A : Around} (r : Room (k + 1) A) (env : Env) : Room k (A.deeper env) :=
  ⟨r.hd, by have := r.dp; show A.depth + 1 + 3 * k + 5 < _; omega, by have := r.un; show A.units + 3 + 16 * k + 200 < _; omega⟩
theorem Room.in1 {k : Nat} {A : Around} (r : Room (k + 1) A) : Room k A.in1 :=
  ⟨r.hd, by have := r.dp; show A.depth + 3 * k + 5 < _; omega, by have := r.un; show A.units + 1 + 16 * k + 200 < _; omega⟩
theorem make_depth {A : Around} {C : Addr} {us : List Value} {kw : List (Str × Value)} : (A.under (.builtin "type.__call__" ⟨.ref C :: us, kw⟩)).depth = A.depth + 1 := by
  first | rfl | simp [Around.under, Code.weight, Code.isCreation, Code.isGuard, Code.isCaller, Code.frames, Code.isFrame, guardIds]
theorem make_units {A : Around} {C : Addr} {us : List Value} {kw : List (Str × Value)} : (A.under (.builtin "type.__call__" ⟨.ref C :: us, kw⟩)).units = A.units + 1 := by
  first | rfl | simp [Around.under, Code.cUnits, Code.frames, Code.isFrame]
theorem Room.make {k : Nat} {A : Around} (r : Room (k + 1) A) (C : Addr) (us : List Value) (kw : List (Str × Value)) : Room k (A.under (.builtin "type.__call__" ⟨.ref C :: us, kw⟩)) :=
  ⟨r.hd, by have := r.dp; rw [make_depth]; omega, by have := r.un; rw [make_units]; omega⟩
theorem Room.depth {k : Nat} {A : Around} (r : Room k A) : A.depth < recursionLimit := by have := r.dp; omega
theorem Room.units {k : Nat} {A : Around} (r : Room k A) : A.units + 64 < cLine := by have := r.un; omega
theorem Room.units0 {k : Nat} {A : Around} (r : Room k A) : A.units < cLine := by have := r.un; omega

/-! ### argument lists and displays -/
def tNil : TA := fun _ H Q => Q [] H
def tCons (ta : TE) (tr : TA) : TA := fun σ H Q => ta σ H fun x H1 => tr σ H1 fun xs H2 => Q (x :: xs) H2
section
variable {X : Cx} {e : Expr} {es : List Expr} {te : TE} {t : TA} {pos : Pos}
theorem pa_nil : PA X [] tNil := fun _ _ _ _ H Q I h => Calls.spliced_nil ⟨[], H, I, .nil, h⟩
theorem pa_cons (ha : PE X e te) (hr : PA X es t) (hs : starEach (e :: es) X.env = (false, eval e X.env) :: starEach es X.env := by rfl) : PA X (e :: es) (tCons te t) := by
  intro pos pins s σ H Q I h
  rw [hs]
  show wpAny _ _ (spliced ((false, eval e X.env) :: backTo pos (starEach es X.env))) _ _ s
  refine Calls.spliced_cons (thn (ha pins s σ H _ I h) fun u s1 ⟨x, H1, I1, r1, q1⟩ => ?_)
  exact thn (hr pos pins s1 σ H1 _ I1 q1) fun us s2 ⟨xs, H2, I2, r2, q2⟩ => ⟨x :: xs, H2, I2, .cons r1 r2, q2⟩

/-- a tuple, a list of written items -/
def tTup (t : TA) : TE := fun σ H Q => t σ H fun xs H1 => xs.length ≤ sizeLine ∧ ∀ p, H1 p = none → Q (.ref p) (upd H1 p (.tup xs))
def tLst (t : TA) : TE := fun σ H Q => t σ H fun xs H1 => xs.length ≤ sizeLine ∧ ∀ p, H1 p = none → Q (.ref p) (upd H1 p (.lst xs))
theorem pe_tup {x1} (h : PA X es t) : PE X (.Tuple es x1 pos) (tTup t) := by
  intro pins s σ H Q I hq
  refine wpAny_Tuple_spliced (thn (h pos pins s σ H _ I hq) fun us s1 ⟨xs, H1, I1, r, z, q⟩ => ⟨by rw [← r.length]; exact z, ?_⟩)
  have hf : H1 s1.heap.objs.size = none := I1.hok.fresh (Nat.le_refl _)
  refine ⟨.ref s1.heap.objs.size, upd H1 s1.heap.objs.size (.tup xs), I1.laid (t' := s1.toks) (fun b u e => Heap.get?_push_of_some _ e) (Nat.le_refl _) ?_, rfl, q _ hf⟩
  exact ⟨z, us, r, ⟨_, Heap.get?_push_size _ rfl, rfl, _, rfl⟩⟩
theorem pe_lst (h : PA X es t) : PE X (.List es pos) (tLst t) := by
  intro pins s σ H Q I hq
  refine wpAny_List_spliced (thn (h pos pins s σ H _ I hq) fun us s1 ⟨xs, H1, I1, r, z, q⟩ => ⟨by rw [← r.length]; exact z, ?_⟩)
  have hf : H1 s1.heap.objs.size = none := I1.hok.fresh (Nat.le_refl _)
  refine ⟨.ref s1.heap.objs.size, upd H1 s1.heap.objs.size (.lst xs), I1.laid (t' := s1.toks) (fun b u e => Heap.get?_push_of_some _ e) (Nat.le_refl _) ?_, rfl, q _ hf⟩
  exact ⟨z, us, 0, r, Heap.get?_push_size _ rfl⟩
end

/-! ### what a def promises -/
/-- a def's promise: the bound arguments in the parameters' order, the heap, the wanted end, the wanted exception -/
abbrev Sp := List V → Hp → VK → XK → Prop
/-- how an exception lies behind a call (file 08 gives it): the callers' frames, abstract heap and state ahead of the call, the wish, the exception, the state -/
abbrev CXT := List Env → Hp → Shared → XK → Value → Shared → Prop

/-- the state at a call -/
structure Env0 (P : Program) (w : World) (K : PySem.W.Frag) (mg : Str → Option Value) (base : Heap) (A : Around) (outer : List Env) (s : Shared) (H : Hp) : Prop where
  frames : A.frames = some outer
  mod : Mod K mg base
  bs : ∀ b o, base.get? b = some o → s.heap.get? b = some o ∧ H b = none
  bsz : base.objs.size ≤ s.heap.objs.size
  funs : s.heap.FunFrames base outer
  frf : ∀ b ∈ frs outer, H b = none
  hok : HOk P w H s.heap
  bare : AllBare s.gens
/-- a call's end -/
def CE (outer : List Env) (P : Program) (w : World) (H : Hp) (s : Shared) (Q : VK) (u : Value) (s' : Shared) : Prop :=
  ∃ v H', s'.os = s.os ∧ AllBare s'.gens ∧ Un (frs outer) [] H H' s.heap s'.heap ∧ HOk P w H' s'.heap ∧ RelV v u ∧ Q v H'
def CR (CX : CXT) (outer : List Env) (P : Program) (w : World) (H : Hp) (s : Shared) (Q : VK) (E : XK) (r : Result) (s' : Shared) : Prop :=
  match r with
  | .ok (.ret u) => CE outer P w H s Q u s'
  | .ok _ => False
  | .error e => CX outer H s E e s'
structure FnOk (P : Program) (w : World) (K : PySem.W.Frag) (mg : Str → Option Value) (base : Heap) (CX : CXT) (k : Nat) (f : Addr) (fd : FuncData) (ps : List Str) (sp : Sp) : Prop where
  len : ∀ vs H Q E, sp vs H Q E → vs.length = ps.length
  run : ∀ (A : Around) (outer : List Env) (s : Shared) (H : Hp) (args : Args) (us : List Value) (vs : List V) (Q : VK) (E : XK), Room k A → Env0 P w K mg base A outer s H → BindsTo s fd args (ps.zip us) → Vals vs us → sp vs H Q E →
    codeAny (model P w) A (.call (.ref f) args) (CR CX outer P w H s Q E) s
theorem FnOk.mono {P : Program} {w : World} {K : PySem.W.Frag} {mg : Str → Option Value} {base : Heap} {CX : CXT} {j k : Nat} {f : Addr} {fd : FuncData} {ps : List Str} {sp : Sp} (F : FnOk P w K mg base CX j f fd ps sp) (h : j ≤ k) :
    FnOk P w K mg base CX k f fd ps sp := ⟨F.len, fun A outer s H args us vs Q E hr => F.run A outer s H args us vs Q E (hr.mono h)⟩
/-- a weaker promise -/
theorem FnOk.imp {P : Program} {w : World} {K : PySem.W.Frag} {mg : Str → Option Value} {base : Heap} {CX : CXT} {k : Nat} {f : Addr} {fd : FuncData} {ps : List Str} {sp sp' : Sp} (F : FnOk P w K mg base CX k f fd ps sp)
    (h : ∀ vs H Q E, sp' vs H Q E → sp vs H Q E) : FnOk P w K mg base CX k f fd ps sp' :=
  ⟨fun vs H Q E q => F.len vs H Q E (h _ _ _ _ q), fun A outer s H args us vs Q E hr he hb hv hs => F.run A outer s H args us vs Q E hr he hb hv (h _ _ _ _ hs)⟩

theorem Env0.make {P : Program} {w : World} {K : PySem.W.Frag} {mg : Str → Option Value} {base : Heap} {A : Around} {outer : List Env} {s : Shared} {H : Hp} (e : Env0 P w K mg base A outer s H) (C : Addr) (us : List Value) (kw : List (Str × Value)) :
    Env0 P w K mg base (A.under (.builtin "type.__call__" ⟨.ref C :: us, kw⟩)) outer s H := ⟨by first | exact e.frames | (simpa [Around.under, Code.envs, Code.isFrame, pushEnvs] using e.frames), e.mod, e.bs, e.bsz, e.funs, e.frf, e.hok, e.bare⟩
theorem Env0.in1 {P : Program} {w : World} {K : PySem.W.Frag} {mg : Str → Option Value} {base : Heap} {A : Around} {outer : List Env} {s : Shared} {H : Hp} (e : Env0 P w K mg base A outer s H) :
    Env0 P w K mg base A.in1 outer s H := ⟨e.frames, e.mod, e.bs, e.bsz, e.funs, e.frf, e.hok, e.bare⟩

section
variable {X : Cx} {pins : List (Addr × Obj)} {σ : St} {H : Hp} {s s' : Shared}
/-- from a body: what a callee wants -/
theorem Inv.env0 (I : Inv X pins σ H s) : Env0 X.prog X.w X.K X.mg X.base X.A X.stack s H :=
  ⟨I.ok.frames, I.ok.mod, I.bs, Nat.le_trans I.ok.bsz I.sz, I.stack, I.stkFree, I.hok, I.bare⟩
/-- behind a call -/
theorem Inv.after {Q : VK} {u : Value} (I : Inv X pins σ H s) (h : CE X.stack X.prog X.w H s Q u s') : EP X pins σ Q u s' := by
  obtain ⟨v, H', os, bare, un, hok, r, q⟩ := h
  obtain ⟨hh, g, d, t, os'⟩ := s'
  obtain rfl : os' = s.os := os
  exact ⟨v, H', I.call (h' := hh) (g' := g) (d' := d) (t' := t) (ch := []) un hok bare (fun b z => absurd z (by simp)), r, q⟩
end

/-! ### calls -/
/-- f(..): the written arguments, then the defaults dvs; E: what is wanted of an exception -/
def tCall (sp : Sp) (dvs : List V) (E : XK) (t : TA) : TE := fun σ H Q => t σ H fun vs H1 => sp (vs ++ dvs) H1 Q E
/-- o.m(..) of an instance of the class at C -/
def tMeth (C : Addr) (m : Str) (sp : Sp) (dvs : List V) (E : XK) (ta : TE) (t : TA) : TE := fun σ H Q => ta σ H fun x H1 => ∃ a dx fs, x = .ref a ∧ H1 a = some (.ins C dx fs) ∧ fs.lookup m = none ∧
  t σ H1 fun vs H2 => sp (x :: (vs ++ dvs)) H2 Q E
/-- C(..): a new instance and its dict, then __init__ -/
def tMake (C : Addr) (sp : Sp) (dvs : List V) (E : XK) (t : TA) : TE := fun σ H Q => t σ H fun vs H1 => ∀ x dx, H1 x = none → H1 dx = none → dx ≠ x →
  sp (.ref x :: (vs ++ dvs)) (upd (upd H1 dx (.own x)) x (.ins C dx [])) (fun v H2 => v = .non ∧ Q (.ref x) H2) E

/-- how the parameters are bound: us the positional arguments, kw the keywords' values by name, ds the defaults that fill up -/
def Binds (K : PySem.W.Frag) (fd : FuncData) (ps : List Str) (ds : List Value) : Prop :=
  ∀ (s : Shared) (us : List Value), K.In s.heap → (us ++ ds).length = ps.length → BindsTo s fd ⟨us, []⟩ (ps.zip (us ++ ds))
/-- every parameter is given -/
theorem Binds.all {K : PySem.W.Frag} {fd : FuncData} {ps : List Str} (h : ∀ us : List Value, us.length = ps.length → bindArgs fd ⟨us, []⟩ = pure (ps.zip us)) : Binds K fd ps [] := fun s us _ hl => by
  rw [List.append_nil] at hl ⊢
  exact .of_eq (h us hl)

/-- an exception of a callee reaches what this body wants of exceptions -/
def Passes (CX : CXT) (X : Cx) (E : XK) : Prop := ∀ (pins : List (Addr × Obj)) (σ : St) (H : Hp) (s : Shared) (e : Value) (s' : Shared), Inv X pins σ H s → CX X.stack H s E e s' → X.xe e s'

section
variable {X : Cx} {CX : CXT} {k : Nat} {f C : Addr} {fd : FuncData} {ps : List Str} {sp : Sp} {dvs : List V} {ds : List Value} {E : XK} {x m : Str} {p pos apos : Pos} {e o : Expr} {es : List Expr} {ta : TE} {t : TA}

/-- the callee runs -/
theorem run_fn {pins : List (Addr × Obj)} {σ : St} {H : Hp} {s : Shared} {Q : VK} {us : List Value} {vs : List V} (F : FnOk X.prog X.w X.K X.mg X.base CX k f fd ps sp) (hr : Room k X.A) (hb : Binds X.K fd ps ds) (hd : Vals dvs ds) (hx : Passes CX X E)
    (I : Inv X pins σ H s) (r : Vals vs us) (h : sp (vs ++ dvs) H Q E) : wpAny (model X.prog X.w) X.A (call (.ref f) us) (EP X pins σ Q) X.xe s := by
  have r2 : Vals (vs ++ dvs) (us ++ ds) := r.append hd
  have hl : (us ++ ds).length = ps.length := by rw [← r2.length]; exact F.len _ _ _ _ h
  refine wpAny_call (codeAny_mono (F.run X.A X.stack s H ⟨us, []⟩ (us ++ ds) (vs ++ dvs) Q E hr I.env0 (hb s us I.kIn hl) r2 h) fun r s' hq => ?_)
  cases r with
  | error e => exact hx pins σ H s e s' I hq
  | ok fl =>
    cases fl with
    | ret u => exact I.after hq
    | next => exact False.elim hq
    | brk => exact False.elim hq
    | cont => exact False.elim hq

theorem pe_call (F : FnOk X.prog X.w X.K X.mg X.base CX k f fd ps sp) (hr : Room k X.A) (hg : Gl X x) (hm : X.mg x = some (.ref f)) (hk : PySem.W.keepIn X.K (.ref f) = true) (hb : Binds X.K fd ps ds) (hd : Vals dvs ds) (hx : Passes CX X E)
    (ha : PA X (e :: es) t) (hdb : (x == ("__debug__" : Str)) = false := by decide) (he : starEach (e :: es) X.env = (false, eval e X.env) :: starEach es X.env := by rfl) (hpl : (backTo pos (starEach es X.env)).any (·.1) = false := by rfl) :
    PE X (.Call (.Name x p) (e :: es) [] pos) (tCall sp dvs E t) := by
  intro pins s σ H Q I h
  refine wpAny_Call_Name_kw (ld_glob I hg hm ?_ hdb)
  refine PySem.W.callWith_K (h₀ := X.base) I.ok.mod.kin hk (thn (ha pos pins s σ H _ I h) fun us s1 ⟨vs, H1, I1, r, q⟩ => ⟨I1.kIn, ?_⟩) he hpl
  exact run_fn F hr hb hd hx I1 r q
theorem pe_call0 (F : FnOk X.prog X.w X.K X.mg X.base CX k f fd ps sp) (hr : Room k X.A) (hg : Gl X x) (hm : X.mg x = some (.ref f)) (hk : PySem.W.keepIn X.K (.ref f) = true) (hb : Binds X.K fd ps ds) (hd : Vals dvs ds) (hx : Passes CX X E)
    (hdb : (x == ("__debug__" : Str)) = false := by decide) : PE X (.Call (.Name x p) [] [] pos) (tCall sp dvs E tNil) := by
  intro pins s σ H Q I h
  refine wpAny_Call_Name_kw (ld_glob I hg hm ?_ hdb)
  exact PySem.W.callWith_K0 I.kIn hk (run_fn (us := []) F hr hb hd hx I .nil h)

/-- o.m(e, ..) -/
theorem pe_meth {pl : Sem Bool} (he : PE X o ta) (c : Cls X.K C) (hm : Meth X.K C m f) (F : FnOk X.prog X.w X.K X.mg X.base CX k f fd ps sp) (hr : Room k X.A) (hb : Binds X.K fd ps ds) (hd : Vals dvs ds) (hx : Passes CX X E) (ha : PA X (e :: es) t)
    (hst : starEach (e :: es) X.env = (false, eval e X.env) :: starEach es X.env := by rfl) (hpl : (backTo pos (starEach es X.env)).any (·.1) = false := by rfl)
    (ht : eval (.Call (.Attribute o m apos) (e :: es) [] pos) X.env = (do
      let ov ← eval o X.env
      standAt apos.atName
      let (f, first) ← holding [ov] (getMethod ov m pl)
      callWith pos f first (backTo pos (starEach (e :: es) X.env)) (backToKw pos (keywordEach [] X.env))) := by rfl) :
    PE X (.Call (.Attribute o m apos) (e :: es) [] pos) (tMeth C m sp dvs E ta t) := by
  intro pins s σ H Q I h
  refine PySem.W.methodCall_KW (pl := pl) (thn (he pins s σ H _ I h) fun u s1 ⟨x, H1, I1, rx, a, dx, fs, ex, ea, l, q⟩ => ?_) ht
  subst ex
  obtain rfl : u = Value.ref a := rx
  refine getmeth_ok I1 ea c hm l ?_
  refine PySem.W.callWith_K (first := [.ref a]) (h₀ := X.base) I.ok.mod.kin hm.kp (thn (ha pos pins s1 σ H1 _ I1 q) fun us s2 ⟨vs, H2, I2, r, q2⟩ => ⟨I2.kIn, ?_⟩) hst hpl
  exact run_fn (us := .ref a :: us) (vs := .ref a :: vs) F hr hb hd hx I2 (.cons rfl r) q2
/-- o.m() -/
theorem pe_meth0 {pl : Sem Bool} (he : PE X o ta) (c : Cls X.K C) (hm : Meth X.K C m f) (F : FnOk X.prog X.w X.K X.mg X.base CX k f fd ps sp) (hr : Room k X.A) (hb : Binds X.K fd ps ds) (hd : Vals dvs ds) (hx : Passes CX X E)
    (ht : eval (.Call (.Attribute o m apos) [] [] pos) X.env = (do
      let ov ← eval o X.env
      standAt apos.atName
      let (f, first) ← holding [ov] (getMethod ov m pl)
      callWith pos f first (backTo pos (starEach [] X.env)) (backToKw pos (keywordEach [] X.env))) := by rfl) :
    PE X (.Call (.Attribute o m apos) [] [] pos) (tMeth C m sp dvs E ta tNil) := by
  intro pins s σ H Q I h
  refine PySem.W.methodCall_KW (pl := pl) (thn (he pins s σ H _ I h) fun u s1 ⟨x, H1, I1, rx, a, dx, fs, ex, ea, l, q⟩ => ?_) ht
  subst ex
  obtain rfl : u = Value.ref a := rx
  refine getmeth_ok I1 ea c hm l ?_
  exact PySem.W.callWith_K0 (first := [.ref a]) I1.kIn hm.kp (run_fn (us := [.ref a]) (vs := [.ref a]) F hr hb hd hx I1 (.cons rfl .nil) q)

/-- what a class must have to be made -/
structure Mk (K : PySem.W.Frag) (C f : Addr) : Prop where
  makes : PySem.W.makesIn K C = true
  init : PySem.W.findIn K (.ref C) "__init__" = some (some (.ref f))
  fn : PySem.W.isFn K (.ref f) = true
  kp : PySem.W.keepIn K (.ref C) = true

theorem run_make {pins : List (Addr × Obj)} {σ : St} {H : Hp} {s : Shared} {Q : VK} {us : List Value} {vs : List V} (M : Mk X.K C f) (F : FnOk X.prog X.w X.K X.mg X.base CX k f fd ps sp) (hr : Room (k + 1) X.A) (hb : Binds X.K fd ps ds) (hd : Vals dvs ds)
    (hx : Passes CX X E) (I : Inv X pins σ H s) (r : Vals vs us)
    (h : ∀ x dx, H x = none → H dx = none → dx ≠ x → sp (.ref x :: (vs ++ dvs)) (upd (upd H dx (.own x)) x (.ins C dx [])) (fun v H2 => v = .non ∧ Q (.ref x) H2) E) :
    wpAny (model X.prog X.w) X.A (call (.ref C) us) (EP X pins σ Q) X.xe s := by
  have hq := h (s.heap.objs.size + 1) s.heap.objs.size (I.hok.fresh (Nat.le_succ _)) (I.hok.fresh (Nat.le_refl _)) (Nat.ne_of_lt (Nat.lt_succ_self _))
  have I2 := Inv.made (C := C) I
  have r2 : Vals (V.ref (s.heap.objs.size + 1) :: (vs ++ dvs)) (Value.ref (s.heap.objs.size + 1) :: (us ++ ds)) := .cons rfl (r.append hd)
  have hl : (Value.ref (s.heap.objs.size + 1) :: us ++ ds).length = ps.length := by
    have e := r2.length
    rw [F.len _ _ _ _ hq] at e
    exact e.symm
  refine wpAny_call (make_map (f := f) I.kIn M.makes M.init (beq_iff_eq.mp M.fn) (codeAny_mono (F.run _ X.stack _ _ ⟨Value.ref (s.heap.objs.size + 1) :: us, []⟩ (Value.ref (s.heap.objs.size + 1) :: (us ++ ds)) _ _ E (hr.make C us [])
    (I2.env0.make C us []) (hb _ (Value.ref (s.heap.objs.size + 1) :: us) I2.kIn hl) r2 hq) fun r s' hq' => ?_))
  cases r with
  | error e => exact hx pins σ _ _ e s' I2 hq'
  | ok fl =>
    cases fl with
    | ret u =>
      obtain ⟨v, H', I3, rv, ev, q3⟩ := I2.after hq'
      subst ev
      exact ⟨rv, ⟨V.ref (s.heap.objs.size + 1), H', I3, rfl, q3⟩⟩
    | next => exact False.elim hq'
    | brk => exact False.elim hq'
    | cont => exact False.elim hq'
theorem pe_make (M : Mk X.K C f) (F : FnOk X.prog X.w X.K X.mg X.base CX k f fd ps sp) (hr : Room (k + 1) X.A) (hg : Gl X x) (hm : X.mg x = some (.ref C)) (hb : Binds X.K fd ps ds) (hd : Vals dvs ds) (hx : Passes CX X E)
    (ha : PA X (e :: es) t) (hdb : (x == ("__debug__" : Str)) = false := by decide) (he : starEach (e :: es) X.env = (false, eval e X.env) :: starEach es X.env := by rfl) (hpl : (backTo pos (starEach es X.env)).any (·.1) = false := by rfl) :
    PE X (.Call (.Name x p) (e :: es) [] pos) (tMake C sp dvs E t) := by
  intro pins s σ H Q I h
  refine wpAny_Call_Name_kw (ld_glob I hg hm ?_ hdb)
  refine PySem.W.callWith_K (h₀ := X.base) I.ok.mod.kin M.kp (thn (ha pos pins s σ H _ I h) fun us s1 ⟨vs, H1, I1, r, q⟩ => ⟨I1.kIn, ?_⟩) he hpl
  exact run_make M F hr hb hd hx I1 r q
theorem pe_make0 (M : Mk X.K C f) (F : FnOk X.prog X.w X.K X.mg X.base CX k f fd ps sp) (hr : Room (k + 1) X.A) (hg : Gl X x) (hm : X.mg x = some (.ref C)) (hb : Binds X.K fd ps ds) (hd : Vals dvs ds) (hx : Passes CX X E)
    (hdb : (x == ("__debug__" : Str)) = false := by decide) : PE X (.Call (.Name x p) [] [] pos) (tMake C sp dvs E tNil) := by
  intro pins s σ H Q I h
  refine wpAny_Call_Name_kw (ld_glob I hg hm ?_ hdb)
  exact PySem.W.callWith_K0 I.kIn M.kp (run_make (us := []) M F hr hb hd hx I .nil h)
end

/-! ### keywords -/
/-- the values of the keywords, from the left -/
def PK (X : Cx) (kws : List Keyword) (t : TA) : Prop :=
  ∀ (pos : Pos) (pins : List (Addr × Obj)) (s : Shared) (σ : St) (H : Hp) (Q : List V → Hp → Prop), Inv X pins σ H s → t σ H Q → wpAny (model X.prog X.w) X.A (evalAll ((backToKw pos (keywordEach kws X.env)).map (·.2))) (AP X pins σ Q) X.xe s
section
variable {X : Cx} {CX : CXT} {k : Nat} {f C : Addr} {fd : FuncData} {ps ks : List Str} {sp : Sp} {E : XK} {x m : Str} {p pos apos kpos : Pos} {e o : Expr} {es : List Expr} {kws : List Keyword} {te ta : TE} {t tk : TA} {nm : Option Str}
theorem pk_nil : PK X [] tNil := fun _ _ _ _ H Q I h => wpAny_evalAll_nil ⟨[], H, I, .nil, h⟩
theorem pk_cons (ha : PE X e te) (hr : PK X kws t) : PK X (⟨nm, e, kpos⟩ :: kws) (tCons te t) := by
  intro pos pins s σ H Q I h
  show wpAny _ _ (evalAll ((do let v ← eval e X.env; standAt pos; pure v) :: (backToKw pos (keywordEach kws X.env)).map (·.2))) _ _ s
  refine wpAny_evalAll_cons (wpAny_bind (thn (ha pins s σ H _ I h) fun u s1 ⟨x, H1, I1, r1, q1⟩ => wpAny_bind (wpAny_standAt (wpAny_pure ?_))))
  exact thn (hr pos pins s1 σ H1 _ I1 q1) fun us s2 ⟨xs, H2, I2, r2, q2⟩ => ⟨x :: xs, H2, I2, .cons r1 r2, q2⟩

/-- how a call with keywords binds: g puts the positional values us and the keywords' values ws (names ks) in the parameters' order, defaults among them -/
structure KBinds (K : PySem.W.Frag) (fd : FuncData) (ps ks : List Str) (g : List Value → List Value → List Value) (gV : List V → List V → List V) : Prop where
  to : ∀ (s : Shared) (us ws : List Value), K.In s.heap → (g us ws).length = ps.length → BindsTo s fd ⟨us, ks.zip ws⟩ (ps.zip (g us ws))
  rel : ∀ {vs : List V} {us : List Value} {zs : List V} {ws : List Value}, Vals vs us → Vals zs ws → Vals (gV vs zs) (g us ws)
def tCallK (sp : Sp) (gV : List V → List V → List V) (E : XK) (t tk : TA) : TE := fun σ H Q => t σ H fun vs H1 => tk σ H1 fun zs H2 => sp (gV vs zs) H2 Q E
variable {g : List Value → List Value → List Value} {gV : List V → List V → List V}
theorem run_fnk {pins : List (Addr × Obj)} {σ : St} {H : Hp} {s : Shared} {Q : VK} {us ws : List Value} {vs zs : List V} (F : FnOk X.prog X.w X.K X.mg X.base CX k f fd ps sp) (hr : Room k X.A) (hb : KBinds X.K fd ps ks g gV) (hx : Passes CX X E)
    (I : Inv X pins σ H s) (r : Vals vs us) (rz : Vals zs ws) (h : sp (gV vs zs) H Q E) : wpAny (model X.prog X.w) X.A (call (.ref f) us (ks.zip ws)) (EP X pins σ Q) X.xe s := by
  have r2 := hb.rel r rz
  have hl : (g us ws).length = ps.length := by rw [← r2.length]; exact F.len _ _ _ _ h
  refine wpAny_call (codeAny_mono (F.run X.A X.stack s H ⟨us, ks.zip ws⟩ (g us ws) (gV vs zs) Q E hr I.env0 (hb.to s us ws I.kIn hl) r2 h) fun r s' hq => ?_)
  cases r with
  | error e => exact hx pins σ H s e s' I hq
  | ok fl =>
    cases fl with
    | ret u => exact I.after hq
    | next => exact False.elim hq
    | brk => exact False.elim hq
    | cont => exact False.elim hq
/-- f(e, .., k = v, ..) -/
theorem pe_callK (F : FnOk X.prog X.w X.K X.mg X.base CX k f fd ps sp) (hr : Room k X.A) (hg : Gl X x) (hm : X.mg x = some (.ref f)) (hk : PySem.W.keepIn X.K (.ref f) = true) (hb : KBinds X.K fd ps ks g gV) (hx : Passes CX X E)
    (ha : PA X (e :: es) t) (hkw : PK X kws tk) (hall : (backToKw pos (keywordEach kws X.env)).all (·.1.isSome) = true := by rfl) (hks : (backToKw pos (keywordEach kws X.env)).filterMap (·.1) = ks := by rfl)
    (hdb : (x == ("__debug__" : Str)) = false := by decide) (he : starEach (e :: es) X.env = (false, eval e X.env) :: starEach es X.env := by rfl)
    (hpl : ((backTo pos (starEach (e :: es) X.env)).any (·.1) || (backToKw pos (keywordEach kws X.env)).any (·.1.isNone)) = false := by rfl) :
    PE X (.Call (.Name x p) (e :: es) kws pos) (tCallK sp gV E t tk) := by
  intro pins s σ H Q I h
  refine wpAny_Call_Name_kw (ld_glob I hg hm ?_ hdb)
  refine PySem.W.callWith_KW (h₀ := X.base) I.ok.mod.kin hk hall (thn (ha pos pins s σ H _ I h) fun us s1 ⟨vs, H1, I1, r, q⟩ => ?_) hpl he
  refine thn (hkw pos pins s1 σ H1 _ I1 q) fun ws s2 ⟨zs, H2, I2, rz, q2⟩ => ⟨I2.kIn, ?_⟩
  rw [hks]
  exact run_fnk F hr hb hx I2 r rz q2
end

/-! ### a def's body keeps its promise -/
/-- names: the parameters first -/
structure FnScope (N P : List Str) (sc : Scope) : Prop where
  kind : sc.kind = .function
  co : sc.isCoroutine = false
  gen : sc.isGenerator = false
  nd : N.Nodup
  pre : N.take P.length = P
  par : ∀ x ∈ P, sc.names.lookup x = some .local ∨ sc.names.lookup x = some .cell
  nofree : ∀ y ∈ sc.names, y.2 ≠ .free

theorem bindL_out {kindOf : Str → Option NameKind} {x : Str} : ∀ {binds : List (Str × Value)} {m : Str → Option Value}, (∀ v, (x, v) ∉ binds) → bindL kindOf binds m x = m x
  | [], _, _ => rfl
  | (n, v) :: r, m, h => by
    unfold bindL
    rw [bindL_out fun w hw => h w (List.mem_cons_of_mem _ hw)]
    split
    · have : x ≠ n := by rintro rfl; exact h v List.mem_cons_self
      simp [this]
    · rfl
theorem bindC_out {kindOf : Str → Option NameKind} {x : Str} : ∀ {binds : List (Str × Value)} {m : Str → Option Value}, (∀ v, (x, v) ∉ binds) → bindC kindOf binds m x = m x
  | [], _, _ => rfl
  | (n, v) :: r, m, h => by
    unfold bindC
    rw [bindC_out fun w hw => h w (List.mem_cons_of_mem _ hw)]
    split
    · rfl
    · have : x ≠ n := by rintro rfl; exact h v List.mem_cons_self
      simp [this]
theorem bindL_get {kindOf : Str → Option NameKind} {x : Str} {v : Value} : ∀ {P : List Str} {vs : List Value} {i : Nat} {m : Str → Option Value}, P.Nodup → P[i]? = some x → vs[i]? = some v → kindOf x = some .local →
    bindL kindOf (P.zip vs) m x = some v
  | [], _, _, _, _, h, _, _ => by simp at h
  | _ :: _, [], _, _, _, _, h, _ => by simp at h
  | p :: P, w :: vs, 0, m, nd, h1, h2, hk => by
    simp at h1 h2; subst h1; subst h2
    show bindL kindOf ((p, w) :: P.zip vs) m p = _
    unfold bindL
    rw [bindL_out fun v hv => (List.nodup_cons.mp nd).1 (List.of_mem_zip hv).1, if_pos hk]
    simp
  | p :: P, w :: vs, i + 1, m, nd, h1, h2, hk => by
    show bindL kindOf ((p, w) :: P.zip vs) m x = _
    unfold bindL
    exact bindL_get (i := i) (List.nodup_cons.mp nd).2 (by simpa using h1) (by simpa using h2) hk
theorem bindC_get {kindOf : Str → Option NameKind} {x : Str} {v : Value} : ∀ {P : List Str} {vs : List Value} {i : Nat} {m : Str → Option Value}, P.Nodup → P[i]? = some x → vs[i]? = some v → kindOf x ≠ some .local →
    bindC kindOf (P.zip vs) m x = some v
  | [], _, _, _, _, h, _, _ => by simp at h
  | _ :: _, [], _, _, _, _, h, _ => by simp at h
  | p :: P, w :: vs, 0, m, nd, h1, h2, hk => by
    simp at h1 h2; subst h1; subst h2
    show bindC kindOf ((p, w) :: P.zip vs) m p = _
    unfold bindC
    rw [bindC_out fun v hv => (List.nodup_cons.mp nd).1 (List.of_mem_zip hv).1, if_neg hk]
    simp
  | p :: P, w :: vs, i + 1, m, nd, h1, h2, hk => by
    show bindC kindOf ((p, w) :: P.zip vs) m x = _
    unfold bindC
    exact bindC_get (i := i) (List.nodup_cons.mp nd).2 (by simpa using h1) (by simpa using h2) hk

/-- the names' values at the entry -/
def start (N : List Str) (vs : List V) : St := vs.map some ++ List.replicate (N.length - vs.length) none

/-- the context of a def's body, at its entry; an exception leaves the frame, then lies as CX says -/
def cxOf (CX : CXT) (P : Program) (w : World) (K : PySem.W.Frag) (mg : Str → Option Value) (base : Heap) (N : List Str) (qual : Str) (scope : Scope) (f : Addr) (cd : Value) (A : Around) (outer : List Env) (s : Shared) (H : Hp) (E : XK) : Cx where
  prog := P
  w := w
  K := K
  mg := mg
  base := base
  A := A.deeper (envOfC qual scope s.heap.objs.size f cd)
  N := N
  s₀ := s
  H₀ := H
  env := envOfC qual scope s.heap.objs.size f cd
  outer := outer
  stack := envOfC qual scope s.heap.objs.size f cd :: outer
  ex := []
  calm := true
  fn := fun _ => true
  pn := []
  xe := fun e s' => wpAny (model P w) (A.deeper (envOfC qual scope s.heap.objs.size f cd)) (leaving (envOfC qual scope s.heap.objs.size f cd) e) (fun _ s'' => CX outer H s E e s'') (fun e' s'' => CX outer H s E e' s'') s'

theorem cell_has {sc : Scope} {n : Nat} {x : Str} (h : sc.names.lookup x = some .cell) : ∃ c, (cellsFrom n sc.names []).lookup x = some c := by
  have q := PySem.W.cellsFrom_some sc.names n [] (.inl h)
  exact Option.isSome_iff_exists.mp q

theorem inv_start {CX : CXT} {P : Program} {w : World} {K : PySem.W.Frag} {mg : Str → Option Value} {base : Heap} {N ps : List Str} {qual : Str} {scope : Scope} {f : Addr} {cd : Value} {A : Around} {outer : List Env} {s s1 : Shared} {H : Hp} {E : XK} {us : List Value} {vs : List V}
    (S : FnScope N ps scope) (hd : A.handled = none) (e0 : Env0 P w K mg base A outer s H) (hl : vs.length = ps.length) (r : Vals vs us)
    (x : InCallC s s.heap.objs.size (bindL (envOfC qual scope s.heap.objs.size f cd).kindOf (ps.zip us) fun _ => none) (cellsFrom (s.heap.objs.size + 1) scope.names []) (bindC (envOfC qual scope s.heap.objs.size f cd).kindOf (ps.zip us) fun _ => none) s1) :
    Inv (cxOf CX P w K mg base N qual scope f cd A outer s H E) [] (start N vs) H s1 := by
  have hpl : ps.length ≤ N.length := by have := congrArg List.length S.pre; rw [List.length_take] at this; omega
  obtain ⟨h1, tk, rfl, hk⟩ := x.done
  have noA : ∀ b : Addr, b ∉ (cxOf CX P w K mg base N qual scope f cd A outer s H E).ex := fun b z => absurd (show b ∈ ([] : List Addr) from z) (by simp)
  refine ⟨⟨e0.mod, S.kind, rfl, rfl, Nat.le_refl _, fun y z c h1 h2 => ?_, fun y hy => ?_, fun y c _ h => ?_, fun _ => hd, Around.frames_deeper e0.frames, .inr ⟨rfl, rfl⟩, fun b z => absurd z (noA b), e0.bs, e0.bsz, fun b _ _ => noA b, fun b z => absurd z (noA b), e0.funs, e0.frf⟩,
    rfl, e0.bare, Un.kept hk, ⟨_, x.toInCall.ns, fun i y v h1 h2 h3 => ?_⟩, fun y c h => ⟨_, x.cell y c h⟩, e0.hok.fresh (Nat.le_refl _), fun y c h => ?_, fun p hp => absurd (show p ∈ ([] : List (Addr × Obj)) from hp) (by simp), e0.hok.kept hk, ?_⟩
  · exact name_of_addr x.apart (PySem.mem_of_lookup h1) (PySem.mem_of_lookup h2)
  · have hy : scope.names.lookup y = some .cell ∨ scope.names.lookup y = some .free := hy
    rcases hy with hy | hy
    · exact cell_has hy
    · exact absurd rfl (S.nofree _ (PySem.mem_of_lookup hy))
  · exact Nat.le_of_lt (x.above y c (PySem.mem_of_lookup h))
  · have hi : i < vs.length := by
      unfold start at h2
      by_cases hi : i < vs.length
      · exact hi
      · rw [List.getElem?_append_right (by simpa using hi)] at h2
        rw [List.getElem?_replicate] at h2
        split at h2 <;> cases h2
    have ha : vs[i]? = some v := by
      unfold start at h2
      rw [List.getElem?_append_left (by simpa using hi), List.getElem?_map] at h2
      cases e : vs[i]? with
      | none => rw [e] at h2; cases h2
      | some a => rw [e] at h2; cases h2; rfl
    obtain ⟨u, hu, rv⟩ := r.get ha
    have hp : ps[i]? = some y := by
      rw [← S.pre, List.getElem?_take_of_lt (by omega)]; exact h1
    have ndP : ps.Nodup := by rw [← S.pre]; exact S.nd.sublist (List.take_sublist _ _)
    refine ⟨u, rv, ?_⟩
    rcases S.par y (List.mem_of_getElem? hp) with k | k
    · exact .inl ⟨k, bindL_get ndP hp hu k⟩
    · obtain ⟨c, e⟩ := cell_has (n := s.heap.objs.size + 1) k
      refine .inr ⟨.inl k, c, e, ?_⟩
      have q := x.cell y c e
      rw [bindC_get ndP hp hu (by show scope.names.lookup y ≠ _; rw [k]; decide)] at q
      exact q
  · exact e0.hok.fresh (Nat.le_of_lt (x.above y c (PySem.mem_of_lookup h)))
  · unfold start
    show _ = N.length
    rw [List.length_append, List.length_map, List.length_replicate]
    omega

/-- THE RULE: a def (or a method) of the text, by its body. The body's reading t is chosen for each entry; it is run at the parameters' values -/
theorem fn_of {CX : CXT} {P : Program} {w : World} {K : PySem.W.Frag} {mg : Str → Option Value} {base : Heap} {k : Nat} {f : Addr} {name qual : Str} {params : Arguments} {body : List Stmt} {scope : Scope} {dV kV doc pm cdv ct oc : Value} {an od : Option Addr}
    {osl : Array (Option Value)} {N ps : List Str} {sp : Sp} (lk : K.lookup f = some ⟨oc, od, .func (PySem.W.fnOf name qual params body scope dV kV doc pm an cdv ct), osl⟩) (hcd : PySem.W.codeIn K cdv qual = true) (S : FnScope N ps scope)
    (len : ∀ vs H Q E, sp vs H Q E → vs.length = ps.length)
    (hbody : ∀ (A : Around) (outer : List Env) (s : Shared) (H : Hp) (vs : List V) (Q : VK) (E : XK), Room k (A.deeper (envOfC qual scope s.heap.objs.size f cdv)) → sp vs H Q E →
      ∃ t, PSs (cxOf CX P w K mg base N qual scope f cdv A outer s H E) body t ∧ t { nx := fun _ H' => Q .non H', rt := Q } (start N vs) H) :
    FnOk P w K mg base CX (k + 1) f (PySem.W.fnOf name qual params body scope dV kV doc pm an cdv ct) ps sp := by
  refine ⟨len, fun A outer s H args us vs Q E hr e0 hb r hsp => ?_⟩
  have hl := len _ _ _ _ hsp
  have KX : K.In s.heap := e0.mod.kin.keeps fun b o e => (e0.bs b o e).1
  have lim : s.heap.NoLimit := e0.mod.nolimit.keeps fun b o e => (e0.bs b o e).1
  have hkind : ∀ y ∈ ps.zip us, scope.names.lookup y.1 = some .local ∨ (scope.names.lookup y.1 = some .cell ∧ ((cellsFrom (s.heap.objs.size + 1) scope.names []).lookup y.1).isSome = true) := fun ⟨n, v⟩ hy => by
    rcases S.par n (List.of_mem_zip hy).1 with q | q
    · exact .inl q
    · exact .inr ⟨q, PySem.W.cellsFrom_some _ _ _ (.inl q)⟩
  refine codeAny_call_function hr.depth (KX _ _ lk) rfl S.co S.gen rfl (PySem.W.codeRec_of KX hcd) (hb _ _ _ _ ?_)
  refine wpAny_newFunctionEnv_cells S.kind hkind fun env he s1 x => ?_
  subst he
  refine ⟨lim.keeps x.toInCall.keep, codeAny_func ?_⟩
  obtain ⟨t, ht, hq⟩ := hbody A outer s H vs Q E (hr.deeper _) hsp
  have I : Inv (cxOf CX P w K mg base N qual scope f cdv A outer s H E) [] (start N vs) H s1 := inv_start S hr.hd e0 hl r x
  refine wpAny_mono (ht [] s1 (start N vs) H _ I hq) (fun fl s' hs => ?_) fun e s' hs => hs
  have fin : ∀ {σ' : St} {H' : Hp} {v : V} {u : Value}, Inv (cxOf CX P w K mg base N qual scope f cdv A outer s H E) [] σ' H' s' → RelV v u → Q v H' → CE outer P w H s Q u s' :=
    fun {σ' H' v u} J rv q => ⟨v, H', J.os, J.bare, J.base, J.hok, rv, q⟩
  cases fl with
  | ret u =>
    obtain ⟨v, σ', H', J, rv, q⟩ := hs
    exact fin J rv q
  | next =>
    obtain ⟨σ', H', J, q⟩ := hs
    exact fin (v := V.non) (u := Value.none) J rfl q
  | brk =>
    obtain ⟨_, _, _, q⟩ := hs
    exact False.elim q
  | cont =>
    obtain ⟨_, _, _, q⟩ := hs
    exact False.elim q
end L2

namespace L2
open PySem PySem.Spec PyProof.Rows
section
variable {X : Cx} {x : Str} {p pos : Pos} {e : Expr} {es : List Expr} {t : TA} {id T : String} {r : List V → Hp → VK → Prop}

def tCB (r : List V → Hp → VK → Prop) (t : TA) : TE := fun σ H Q => t σ H fun vs H1 => r vs H1 Q
/-- f(e, ..), f a built-in function -/
theorem pe_callB (hc : CallR X (.builtin id) r) (hg : Gl X x) (hm : X.mg x = none) (hv : bootBuiltins x = some (.builtin id)) (ha : PA X (e :: es) t) (hn : x ≠ "__name__" := by decide) (hdb : (x == ("__debug__" : Str)) = false := by decide)
    (he : starEach (e :: es) X.env = (false, eval e X.env) :: starEach es X.env := by rfl) (hpl : (backTo pos (starEach es X.env)).any (·.1) = false := by rfl) : PE X (.Call (.Name x p) (e :: es) [] pos) (tCB r t) := by
  intro pins s σ H Q I h
  refine wpAny_Call_Name_kw (ld_blt I hg hm hv ?_ hn hdb)
  exact PyProof.Rows.callWith_builtin1 (thn (ha pos pins s σ H _ I h) fun us s1 ⟨vs, H1, I1, r1, q1⟩ => hc pins s1 σ H1 vs us Q I1 r1 q1) he hpl
/-- T(e, ..), T a built-in type -/
theorem pe_callTy (hc : CallR X (.type T) r) (hg : Gl X x) (hm : X.mg x = none) (hv : bootBuiltins x = some (.type T)) (ha : PA X (e :: es) t) (hn : x ≠ "__name__" := by decide) (hdb : (x == ("__debug__" : Str)) = false := by decide)
    (he : starEach (e :: es) X.env = (false, eval e X.env) :: starEach es X.env := by rfl) (hpl : (backTo pos (starEach es X.env)).any (·.1) = false := by rfl) : PE X (.Call (.Name x p) (e :: es) [] pos) (tCB r t) := by
  intro pins s σ H Q I h
  refine wpAny_Call_Name_kw (ld_blt I hg hm hv ?_ hn hdb)
  exact PyProof.Rows.callWith_type1 (thn (ha pos pins s σ H _ I h) fun us s1 ⟨vs, H1, I1, r1, q1⟩ => hc pins s1 σ H1 vs us Q I1 r1 q1) he hpl
/-- T() -/
theorem pe_callTy0 (hc : CallR X (.type T) r) (hg : Gl X x) (hm : X.mg x = none) (hv : bootBuiltins x = some (.type T)) (hn : x ≠ "__name__" := by decide) (hdb : (x == ("__debug__" : Str)) = false := by decide) :
    PE X (.Call (.Name x p) [] [] pos) (tCB r tNil) := by
  intro pins s σ H Q I h
  refine wpAny_Call_Name_kw (ld_blt I hg hm hv ?_ hn hdb)
  exact PyProof.Rows.callWith_type0 (hc pins s σ H [] [] Q I .nil h)
end
end L2

namespace HT
open PySem PyProof.Rows

/-- t < u of tuples of ints -/
def lexLt : List Int → List Int → Bool
  | [], [] => false
  | [], _ :: _ => true
  | _ :: _, [] => false
  | x :: xs, y :: ys => if x = y then lexLt xs ys else decide (x < y)
theorem lexLt_cons (x y : Int) (xs ys : List Int) : lexLt (x :: xs) (y :: ys) = if x = y then lexLt xs ys else decide (x < y) := rfl
theorem lexLt_nil_nil : lexLt [] [] = false := rfl
theorem lexLt_nil_cons (y : Int) (ys : List Int) : lexLt [] (y :: ys) = true := rfl
theorem lexLt_cons_nil (x : Int) (xs : List Int) : lexLt (x :: xs) [] = false := rfl

theorem eqAt_int (A : Around) (s : Shared) (a : Int) (t : Tok) (c : Int) (u : Tok) : ∃ e, SeqAt.EqAt A s (.int a t) (.int c u) e ∧ (e = true ↔ a = c) :=
  ⟨(a == c), SeqAt.EqAt.int_int a t c u, by simp⟩
theorem rcLt_int (A : Around) (s : Shared) (a : Int) (t : Tok) (c : Int) (u : Tok) (prog : Program) (w : World) (E : Value → Shared → Prop) (Q : Value → Shared → Prop) (h : Q (.bool (decide (a < c))) s) :
    wpAny (model prog w) A (richCompare .Lt (.int a t) (.int c u)) Q E s :=
  (PyProof.Rows.lt_int h : wpAny (model prog w) A (compareOp .Lt (.int a t) (.int c u)) Q E s)

section
open PySem.SeqAt
open PySem.AutoSeq1 (wpAny_loadPart')
open PySem.MeetsSeq PySem.MeetsSeq2 PySem.MeetsSeq3

theorem tuple_lt_ints (l b : Addr) (items items2 : Array Value) (n n2 : Nat) (dd dd2 : Option Addr) (sl sl2 : Array (Option Value)) (ns ms : List Int) (hi : IntsAre items.toList ns) (hj : IntsAre items2.toList ms) :
    Meets (Builtin.«tuple.__lt__» ⟨[.ref l, .ref b], []⟩)
      (fun _ R s => s.heap.get? l = some { cls := .type "tuple", dict := dd, data := .seq items n, slots := sl } ∧ s.heap.get? b = some { cls := .type "tuple", dict := dd2, data := .seq items2 n2, slots := sl2 } ∧
        R (.ok (.ret (.bool (lexLt ns ms)))) s) :=
  .of_wp fun prog w A R s h => by
    obtain ⟨hp, g, d, tk, os⟩ := s; obtain ⟨hl, hb, h⟩ := h
    have f2 := AutoSeq1.sub_tuple_tuple
    have z1 : items.size = ns.length := by rw [← hi.length]; simp
    have z2 : items2.size = ms.length := by rw [← hj.length]; simp
    wp_walk using wpAny_loadPart' hl, wpAny_loadPart' hb, wpAny_forIn_list _ (fun rest b s' => b.1 = none ∧ s' = ⟨hp, g, d, tk, os⟩ ∧ ∃ (vs ws : List Value) (ns' ms' : List Int), rest = vs.zip ws ∧
      IntsAre vs ns' ∧ IntsAre ws ms' ∧ ns'.length + items2.size = ms'.length + items.size ∧ R (.ok (.ret (.bool (lexLt ns' ms')))) ⟨hp, g, d, tk, os⟩) _
    case turn =>
      rintro ⟨y, x⟩ rest b s' ⟨hb', rfl, vs, ws, ns', ms', hz, hvi, hwi, hlen, hR⟩
      cases hvi with
      | nil => rw [List.zip_nil_left] at hz; cases hz
      | cons a t hvi' =>
        cases hwi with
        | nil => rw [List.zip_nil_right] at hz; cases hz
        | cons c u hwi' =>
          rw [List.zip_cons_cons] at hz
          injection hz with hyx hrest
          injection hyx with hy hx
          subst hy hx
          rw [lexLt_cons] at hR
          simp only [List.length_cons] at hlen
          obtain ⟨e, he, hiff⟩ := eqAt_int A.in1 ⟨hp, g, d, tk, os⟩ a t c u
          refine wpAny_bind (he prog w _ _ ?_)
          cases e with
          | true =>
            rw [if_pos (hiff.mp rfl)] at hR
            wp_walk
            exact ⟨rfl, rfl, _, _, _, _, hrest, hvi', hwi', by omega, hR⟩
          | false =>
            rw [if_neg (fun q => absurd (hiff.mpr q) Bool.false_ne_true)] at hR
            have hri := rcLt_int A.in1 ⟨hp, g, d, tk, os⟩ a t c u prog w
            wp_walk using hri
            exact ⟨_, rfl, by simpa using hR⟩
    case fin =>
      rintro ⟨b1, b2⟩ s' ⟨hb', rfl, vs, ws, ns', ms', hz, hvi, hwi, hlen, hR⟩
      simp only at hb'
      subst hb'
      have hv : lexLt ns' ms' = decide (items.size < items2.size) := by
        cases hvi with
        | nil =>
          cases hwi with
          | nil =>
            simp only [List.length_nil] at hlen
            rw [lexLt_nil_nil]
            exact (decide_eq_false (by omega)).symm
          | cons c u hw =>
            simp only [List.length_nil, List.length_cons] at hlen
            rw [lexLt_nil_cons]
            exact (decide_eq_true (by omega)).symm
        | cons a t hv =>
          cases hwi with
          | nil =>
            simp only [List.length_nil, List.length_cons] at hlen
            rw [lexLt_cons_nil]
            exact (decide_eq_false (by omega)).symm
          | cons c u hw =>
            rw [List.zip_cons_cons] at hz
            cases hz
      rw [hv] at hR
      wp_walk
      exact ⟨_, rfl, by simpa [Builtin.Tuple.tupleCompareSizes] using hR⟩
    case h =>
      exact ⟨rfl, rfl, items.toList, items2.toList, ns, ms, rfl, hi, hj, by omega, h⟩
end

section
variable {prog : Program} {w : World} {A : Around} {E : Value → Shared → Prop} {s : Shared}

theorem lt_tupInts {l b : Addr} {items items2 : Array Value} {ns ms : List Int} {Q : Value → Shared → Prop} (hl : IsTup s.heap l items) (hb : IsTup s.heap b items2) (hi : IntsAre items.toList ns) (hj : IntsAre items2.toList ms)
    (hu : A.units < cLine) (h : Q (.bool (lexLt ns ms)) s) : wpAny (model prog w) A (compareOp .Lt (.ref l) (.ref b)) Q E s := by
  obtain ⟨⟨cls, dd, data, sl⟩, ho, hc, n, hd⟩ := id hl
  obtain ⟨⟨cls2, dd2, data2, sl2⟩, ho2, hc2, n2, hd2⟩ := id hb
  simp only at hc hd hc2 hd2
  subst hc hd hc2 hd2
  exact richCompare_meets_room (op := .Lt) ⟨_, ho, rfl⟩ ⟨_, ho2, rfl⟩ PySem.F.slot_tuple_lt PySem.F.entry_tuple_lt (PySem.F.args_tuple_lt_2 _ _) (tuple_lt_ints l b items items2 n n2 dd dd2 sl sl2 ns ms hi hj)
    ⟨ho, ho2, show Value.bool (lexLt ns ms) ≠ Value.notImplemented ∧ Q (.bool (lexLt ns ms)) s from ⟨(fun x => nomatch x), h⟩⟩ hu

/-- t + u, t not empty -/
theorem cat_tup {t b : Addr} {vs ws : List Value} {Q : Value → Shared → Prop} (ht : IsTup s.heap t vs.toArray) (hb : IsTup s.heap b ws.toArray) (hv : vs ≠ [])
    (h1 : ws = [] → Q (.ref t) s) (h2 : ws ≠ [] → Q (.ref s.heap.objs.size) { s with heap := s.heap.push { cls := .type "tuple", data := .seq (vs ++ ws).toArray } })
    (hsz : vs.length + ws.length ≤ sizeLine) : wpAny (model prog w) A (binaryOp .Add (.ref t) (.ref b)) Q E s := by
  obtain ⟨⟨cls, dd, data, sl⟩, ho, hc, n, hd⟩ := id ht
  obtain ⟨⟨cls2, dd2, data2, sl2⟩, ho2, hc2, n2, hd2⟩ := id hb
  simp only at hc hd hc2 hd2
  subst hc hd hc2 hd2
  have e : vs.toArray ++ ws.toArray = (vs ++ ws).toArray := by simp
  by_cases hw : ws = []
  · exact concat_meets ⟨_, ho, rfl⟩ ⟨_, ho2, rfl⟩ noFill_tuple_add seq_tuple_add PySem.F.slot_tuple_add PySem.F.entry_tuple_add (PySem.F.args_tuple_add_2 _ _)
      (tuple_addW1 t b vs.toArray ws.toArray n n2 dd dd2 sl sl2 (by simpa using hv) (by simp [hw])) ⟨ho, ho2, h1 hw⟩
  · refine concat_meets ⟨_, ho, rfl⟩ ⟨_, ho2, rfl⟩ noFill_tuple_add seq_tuple_add PySem.F.slot_tuple_add PySem.F.entry_tuple_add (PySem.F.args_tuple_add_2 _ _)
      (tuple_addW2 t b vs.toArray ws.toArray n n2 dd dd2 sl sl2 (by simpa using hv) (by simpa using hw) (by rw [List.size_toArray, List.size_toArray]; exact hsz)) ⟨ho, ho2, ?_⟩
    rw [e]
    exact h2 hw

/-! ### t[a:b], not the whole -/
/-- a slice's bound as a place among n (d where it is left out) -/
def sIx (n d : Nat) : Option Int → Nat
  | none => d
  | some v => if v < 0 then (v + (n : Int)).toNat else min v.toNat n
theorem sIx_none (n d : Nat) : sIx n d none = d := rfl
theorem sIx_nat (n d k : Nat) : sIx n d (some (k : Int)) = min k n := by
  show (if (k : Int) < 0 then ((k : Int) + (n : Int)).toNat else min (k : Int).toNat n) = min k n
  rw [if_neg (by omega), Int.toNat_natCast]
theorem sIx_le (n d : Nat) (hd : d ≤ n) (o : Option Int) : sIx n d o ≤ n := by
  cases o with
  | none => exact hd
  | some v =>
    show (if v < 0 then (v + (n : Int)).toNat else min v.toNat n) ≤ n
    by_cases hv : v < 0
    · rw [if_pos hv]; omega
    · rw [if_neg hv]; exact Nat.min_le_right _ _
theorem clip_eq (v : Int) (n d : Nat) : (if v < 0 then max (v + (n : Int)) 0 else min v (n : Int)) = ((sIx n d (some v) : Nat) : Int) := by
  show (if v < 0 then max (v + (n : Int)) 0 else min v (n : Int)) = (((if v < 0 then (v + (n : Int)).toNat else min v.toNat n) : Nat) : Int)
  by_cases hv : v < 0
  · simp only [if_pos hv]; omega
  · simp only [if_neg hv]; omega
theorem adjust_gen (lo hi : Option Int) (n : Nat) : Builtin.Slice.sliceAdjust lo hi 1 (n : Int) = (((sIx n 0 lo : Nat) : Int), ((sIx n n hi : Nat) : Int)) := by
  have h1 : ¬ ((1 : Int) < 0) := by omega
  unfold Builtin.Slice.sliceAdjust
  simp only [h1, if_false]
  refine Prod.ext ?_ ?_
  · cases lo with
    | none => rfl
    | some v => exact clip_eq v n 0
  · cases hi with
    | none => rfl
    | some v => exact clip_eq v n n
theorem places_gen (i j : Nat) : Builtin.Slice.slicePlaces (i : Int) (j : Int) 1 = j - i := by
  unfold Builtin.Slice.slicePlaces
  have h1 : (1 : Int) > 0 := by omega
  simp only [h1, if_true, Int.ediv_one]
  split <;> omega
theorem slicePart_ {v : Value} {o : Option Int} {Q : Option Int → Shared → Prop} (p : IsPart v o) (h : Q o s) : wpAny (model prog w) A (Builtin.Slice.slicePartIndex v) Q E s := by
  cases p with
  | none => exact slicePart_none h
  | int i t => exact slicePart_int h
theorem sliceApplied_gen {sl : Addr} {vl vu : Value} {lo hi : Option Int} {n : Nat} {Q : Int × Int × Nat → Shared → Prop} (hs : s.heap.IsSliceOf sl vl vu .none) (pl : IsPart vl lo) (pu : IsPart vu hi)
    (h : Q (((sIx n 0 lo : Nat) : Int), 1, sIx n n hi - sIx n 0 lo) s) : wpAny (model prog w) A (Builtin.Slice.sliceApplied (.ref sl) (pure (n : Int))) Q E s := by
  obtain ⟨os, hos, hcs, hds⟩ := id hs
  unfold Builtin.Slice.sliceApplied Builtin.Slice.sliceFields
  refine wpAny_bind (wpAny_bind (wpAny_field hos hds (x := vl) rfl (wpAny_bind (wpAny_field hos hds (x := vu) rfl (wpAny_bind (wpAny_field hos hds (x := .none) rfl (wpAny_pure ?_)))))))
  refine wpAny_bind (slicePart_none ?_)
  show wpAny _ _ (if ((1 : Int) == 0) = true then _ else _) _ _ s
  rw [if_neg (by decide)]
  refine wpAny_bind (slicePart_ pl (wpAny_bind (slicePart_ pu (wpAny_bind (wpAny_pure ?_)))))
  show wpAny _ _ (match Builtin.Slice.sliceAdjust lo hi 1 (n : Int) with | (lo, hi) => pure (lo, (1 : Int), Builtin.Slice.slicePlaces lo hi 1)) _ _ s
  rw [adjust_gen lo hi n]
  show wpAny _ _ (pure (((sIx n 0 lo : Nat) : Int), (1 : Int), Builtin.Slice.slicePlaces ((sIx n 0 lo : Nat) : Int) ((sIx n n hi : Nat) : Int) 1)) _ _ s
  rw [places_gen]
  exact wpAny_pure h
theorem pick_gen (xs : Array Value) (i k : Nat) : ((List.range k).filterMap fun (m : Nat) => xs[((i : Int) + (m : Int) * 1).toNat]?).toArray = ((xs.toList.drop i).take k).toArray := by
  have e : (fun (m : Nat) => xs[((i : Int) + (m : Int) * 1).toNat]?) = fun m => xs[i + m]? := by
    funext m
    have : ((i : Int) + (m : Int) * 1).toNat = i + m := by omega
    rw [this]
  rw [e]
  have := pick_run xs i k
  rw [List.filterMap_map] at this
  have e2 : ((fun x => xs[x]?) ∘ fun x => i + x) = fun m => xs[i + m]? := rfl
  rw [e2] at this
  rw [this]

theorem getItem_tuple_cut {t sl : Addr} {items : Array Value} {vl vu : Value} {lo hi : Option Int} {Q : Value → Shared → Prop} (ht : IsTup s.heap t items) (hs : s.heap.IsSliceOf sl vl vu .none) (pl : IsPart vl lo) (pu : IsPart vu hi)
    (hw : ¬ (sIx items.size 0 lo = 0 ∧ sIx items.size items.size hi = items.size))
    (h : Q (.ref s.heap.objs.size) { s with heap := s.heap.push { cls := .type "tuple", data := .seq ((items.toList.drop (sIx items.size 0 lo)).take (sIx items.size items.size hi - sIx items.size 0 lo)).toArray } })
    (hsz : items.size ≤ sizeLine) : wpAny (model prog w) A (getItem (.ref t) (.ref sl)) Q E s := by
  have htake : sizeOk (.seq ((items.toList.drop (sIx items.size 0 lo)).take (sIx items.size items.size hi - sIx items.size 0 lo)).toArray) := by
    show ((items.toList.drop (sIx items.size 0 lo)).take (sIx items.size items.size hi - sIx items.size 0 lo)).toArray.size ≤ sizeLine
    rw [List.size_toArray, List.length_take, List.length_drop, Array.length_toList]
    omega
  have hj : sIx items.size items.size hi ≤ items.size := sIx_le _ _ (Nat.le_refl _) hi
  obtain ⟨os, hos, hcs, hds⟩ := id hs
  have hTs : s.TypeIs (.ref sl) "slice" := ⟨os, hos, hcs⟩
  unfold getItem
  try with_reducible refine wpAny_holding ?_
  first | refine wpAny_bind (wpAny_pure ?_) | skip
  refine wpAny_bind (wpAny_sequenceKey ht.typeIs (by decide) ?_)
  refine wpAny_bind (wpAny_callSpecial?_slot (name := Str.ofString "__getitem__") ht.typeIs PyProof.Rows.slot_tuple_getitem
    (wpAny_call_entry PyProof.Rows.slot_tuple_getitem ht.typeIs entry_tuple_getitem ?_ (args_tuple_getitem _ _)))
  show wpAny _ _ (Builtin.Tuple.tupleItemsOf (.ref t) >>= _) _ _ s
  refine wpAny_bind (tupleItemsOf_ ht ?_)
  refine wpAny_bind (wpAny_typeOf hTs ?_)
  rw [if_pos (by decide)]
  refine wpAny_bind (sliceApplied_gen hs pl pu ?_)
  have hno : ¬ ((((sIx items.size 0 lo : Nat) : Int) == 0 && (1 : Int) == 1 && (sIx items.size items.size hi - sIx items.size 0 lo) == items.size) = true) := by
    intro q
    rw [Bool.and_eq_true, Bool.and_eq_true] at q
    have q1 : ((sIx items.size 0 lo : Nat) : Int) = 0 := eq_of_beq q.1.1
    have q2 : sIx items.size items.size hi - sIx items.size 0 lo = items.size := eq_of_beq q.2
    exact hw ⟨by omega, by omega⟩
  show wpAny _ _ (if (((sIx items.size 0 lo : Nat) : Int) == 0 && (1 : Int) == 1 && (sIx items.size items.size hi - sIx items.size 0 lo) == items.size) = true then _ else _) _ _ s
  rw [if_neg hno, pick_gen]
  first
    | exact wpAny_bind (m := Builtin.Tuple.tupleExact _) (wpAny_newObj_type (wpAny_pure ⟨_, rfl, wpAny_pure h⟩) htake)
    | exact wpAny_bind (m := Builtin.Tuple.tupleExact _) (wpAny_newObj_type (wpAny_bind (wpAny_pure (wpAny_pure ⟨_, rfl, wpAny_pure h⟩))) htake)
    | exact wpAny_bind (wpAny_bind (m := Builtin.Tuple.tupleExact _) (wpAny_newObj_type (wpAny_pure (wpAny_pure ⟨_, rfl, wpAny_pure h⟩)) htake))
    | exact wpAny_bind (wpAny_bind (m := Builtin.Tuple.tupleExact _) (wpAny_newObj_type (wpAny_pure ⟨_, rfl, wpAny_pure h⟩) htake))
end
end HT

namespace L2
open PySem PySem.Spec PyProof.Rows

/-! ### the parts of a slice -/
abbrev TO := St → Hp → (Option Int → Hp → Prop) → Prop
/-- a slice's part (left out, or an int) -/
def PO (X : Cx) (e : Option Expr) (t : TO) : Prop :=
  ∀ (pins : List (Addr × Obj)) (s : Shared) (σ : St) (H : Hp) (Q : Option Int → Hp → Prop), Inv X pins σ H s → t σ H Q →
    wpAny (model X.prog X.w) X.A (evalPart e X.env) (fun u s' => ∃ o H', Inv X pins σ H' s' ∧ IsPart u o ∧ Q o H') X.xe s
def tNoPart : TO := fun _ H Q => Q none H
def tPart (t : TE) : TO := fun σ H Q => t σ H fun x H1 => ∃ i, x = .int i ∧ Q (some i) H1

theorem intsAre_of {ns : List Int} : ∀ {us : List Value}, Vals (ns.map V.int) us → IntsAre us ns := by
  induction ns with
  | nil => intro us r; rw [List.map_nil] at r; cases r; exact .nil
  | cons n ns ih =>
    intro us r
    rw [List.map_cons] at r
    cases r with
    | cons r1 r2 =>
      obtain ⟨t, e⟩ := r1
      subst e
      exact .cons n t (ih r2)

section
variable {X : Cx} {e : Expr} {te : TE} {lo hi : Option Expr} {tl th : TO} {pos p2 : Pos}

theorem po_none : PO X none tNoPart := by
  intro pins s σ H Q I h
  rw [evalPart_none]
  exact wpAny_pure ⟨none, H, I, .none, h⟩
theorem po_some (h : PE X e te) : PO X (some e) (tPart te) := by
  intro pins s σ H Q I hw
  rw [evalPart_some]
  refine thn (h pins s σ H _ I hw) fun u s1 ⟨x, H1, I1, r1, q1⟩ => ?_
  obtain ⟨i, rfl, q⟩ := q1
  obtain ⟨t, rfl⟩ := r1
  exact ⟨some i, H1, I1, .int i t, q⟩

/-- what a slice of a value is, by values: the slice object stands at sl -/
def SlR (X : Cx) (r : V → Option Int → Option Int → Hp → VK → Prop) : Prop :=
  ∀ (pins : List (Addr × Obj)) (s : Shared) (σ : St) (H : Hp) (x : V) (v vl vu : Value) (lo hi : Option Int) (sl : Addr) (Q : VK), Inv X pins σ H s → RelV x v → s.heap.IsSliceOf sl vl vu .none → IsPart vl lo → IsPart vu hi → r x lo hi H Q →
    ∃ T id, typeLookup (.type T) "__getitem__" = pure (some (.builtin id)) ∧ s.TypeIs v T ∧ wpAny (model X.prog X.w) X.A (getItem v (.ref sl)) (EP X pins σ Q) X.xe s
theorem SlR.or {r r' : V → Option Int → Option Int → Hp → VK → Prop} (h : SlR X r) (h' : SlR X r') : SlR X (fun x lo hi H Q => r x lo hi H Q ∨ r' x lo hi H Q) := by
  intro pins s σ H x v vl vu lo hi sl Q I rx hs pl pu q
  rcases q with q | q
  · exact h pins s σ H x v vl vu lo hi sl Q I rx hs pl pu q
  · exact h' pins s σ H x v vl vu lo hi sl Q I rx hs pl pu q
def tSl (r : V → Option Int → Option Int → Hp → VK → Prop) (te : TE) (tl th : TO) : TE := fun σ H Q => te σ H fun x H1 => tl σ H1 fun l H2 => th σ H2 fun u H3 => r x l u H3 Q
/-- a[lo:hi], any a -/
theorem pe_slice {r : V → Option Int → Option Int → Hp → VK → Prop} (hr : SlR X r) (he : PE X e te) (hl : PO X lo tl) (hu : PO X hi th) : PE X (.Subscript e (.Slice lo hi none p2) pos) (tSl r te tl th) := by
  intro pins s σ H Q I h
  refine Subscript_ (thn (he pins s σ H _ I h) fun v s1 ⟨x, H1, I1, r1, q1⟩ => ?_)
  refine wpAny_Slice (thn (hl pins s1 σ H1 _ I1 q1) fun vl s2 ⟨l, H2, I2, pl, q2⟩ => thn (hu pins s2 σ H2 _ I2 q2) fun vu s3 ⟨u, H3, I3, pu, q3⟩ => ?_)
  rw [evalPart_none]
  refine wpAny_pure ?_
  have I4 : Inv X pins σ H3 { s3 with heap := s3.heap.push { cls := .type "slice", data := .fields #[vl, vu, .none] } } := I3.kept (t' := s3.toks) fun b ob q => Heap.get?_push_of_some _ q
  obtain ⟨T, id, hT, ht, hg⟩ := hr pins { s3 with heap := s3.heap.push { cls := .type "slice", data := .fields #[vl, vu, .none] } } σ H3 x v vl vu l u s3.heap.objs.size Q I4 r1 (Heap.IsSliceOf.new ..) pl pu q3
  show wpAny (model X.prog X.w) X.A (subscriptTail e (.Slice lo hi none p2) v (.ref s3.heap.objs.size)) (EP X pins σ Q) X.xe { s3 with heap := s3.heap.push { cls := .type "slice", data := .fields #[vl, vu, .none] } }
  exact tail_any (ops := [.ref s3.heap.objs.size, v]) ht hT hg (by with_unfolding_all rfl)

/-- the items of xs[lo:hi] -/
def cutV (xs : List V) (lo hi : Option Int) : List V := (xs.drop (HT.sIx xs.length 0 lo)).take (HT.sIx xs.length xs.length hi - HT.sIx xs.length 0 lo)
theorem cutV_length (xs : List V) (lo hi : Option Int) : (cutV xs lo hi).length ≤ xs.length := by
  unfold cutV
  rw [List.length_take, List.length_drop]
  omega
/-- t[lo:hi], not the whole of it (the whole would be t itself) -/
def rSlT (K : PySem.W.Frag) : V → Option Int → Option Int → Hp → VK → Prop := fun x lo hi H Q => ∃ a xs, x = .ref a ∧ SqT K H a xs ∧
  ¬ (HT.sIx xs.length 0 lo = 0 ∧ HT.sIx xs.length xs.length hi = xs.length) ∧ ∀ p, H p = none → Q (.ref p) (upd H p (.tup (cutV xs lo hi)))
theorem sl_tup : SlR X (rSlT X.K) := by
  intro pins s σ H x v vl vu lo hi sl Q I rx hs pl pu h
  obtain ⟨a, xs, rfl, hx, hw, q⟩ := h
  cases rx
  obtain ⟨its, r, ht, hz⟩ := I.tuple hx
  have hlen : its.toArray.size = xs.length := by rw [List.size_toArray]; exact r.length.symm
  refine ⟨"tuple", _, PyProof.Rows.slot_tuple_getitem.lookup, ht.typeIs, ?_⟩
  refine HT.getItem_tuple_cut ht hs pl pu (by rw [hlen]; exact hw) ?_ (by rw [hlen]; exact hz)
  rw [hlen]
  refine ⟨.ref s.heap.objs.size, _, I.laid (t' := s.toks) (o := .tup (cutV xs lo hi)) (fun b ob q => Heap.get?_push_of_some _ q) (Nat.le_refl _) ?_, rfl, q _ (I.hok.fresh (Nat.le_refl _))⟩
  exact ⟨Nat.le_trans (cutV_length xs lo hi) hz, _, (r.drop (HT.sIx xs.length 0 lo)).take (HT.sIx xs.length xs.length hi - HT.sIx xs.length 0 lo), IsTup.new _ _⟩

/-! ### t < u, t + u -/
def rLtT (K : PySem.W.Frag) : R2 := fun x y H Q => ∃ a b ns ms, x = .ref a ∧ y = .ref b ∧ SqT K H a (ns.map V.int) ∧ SqT K H b (ms.map V.int) ∧ Q (.bl (HT.lexLt ns ms)) H
theorem op_ltT (hu : X.A.units < cLine) : OpR X (compareOp .Lt) (rLtT X.K) := by
  intro pins s σ H x y v u Q I rx ry h
  obtain ⟨a, b, ns, ms, rfl, rfl, ha, hb, q⟩ := h
  cases rx
  cases ry
  obtain ⟨its, r1, p1, _⟩ := I.tuple ha
  obtain ⟨its2, r2, p2, _⟩ := I.tuple hb
  have i1 : IntsAre its.toArray.toList ns := intsAre_of r1
  have i2 : IntsAre its2.toArray.toList ms := intsAre_of r2
  exact HT.lt_tupInts p1 p2 i1 i2 hu ⟨.bl (HT.lexLt ns ms), H, I, rfl, q⟩
/-- t + u, t not empty: u empty gives t itself -/
def rCatT (K : PySem.W.Frag) : R2 := fun x y H Q => ∃ a b xs ys, x = .ref a ∧ y = .ref b ∧ SqT K H a xs ∧ SqT K H b ys ∧ xs ≠ [] ∧ xs.length + ys.length ≤ sizeLine ∧
  (ys = [] → Q (.ref a) H) ∧ (ys ≠ [] → ∀ p, H p = none → Q (.ref p) (upd H p (.tup (xs ++ ys))))
theorem Vals.nil_iff {xs : List V} {us : List Value} (r : Vals xs us) : us = [] ↔ xs = [] := by
  cases r with
  | nil => simp
  | cons _ _ => simp
theorem op_catT : OpR X (binaryOp .Add) (rCatT X.K) := by
  intro pins s σ H x y v u Q I rx ry h
  obtain ⟨a, b, xs, ys, rfl, rfl, ha, hb, hx, hz, q1, q2⟩ := h
  cases rx
  cases ry
  obtain ⟨its, r1, p1, _⟩ := I.tuple ha
  obtain ⟨its2, r2, p2, _⟩ := I.tuple hb
  refine HT.cat_tup p1 p2 (fun z => hx (r1.nil_iff.mp z)) (fun z => ⟨.ref a, H, I, rfl, q1 (r2.nil_iff.mp z)⟩) (fun z => ?_) (by rw [← r1.length, ← r2.length]; exact hz)
  refine ⟨.ref s.heap.objs.size, _, I.laid (t' := s.toks) (o := .tup (xs ++ ys)) (fun b ob q => Heap.get?_push_of_some _ q) (Nat.le_refl _) ?_, rfl, q2 (fun w => z (r2.nil_iff.mpr w)) _ (I.hok.fresh (Nat.le_refl _))⟩
  exact ⟨by rw [List.length_append]; exact hz, _, r1.append r2, IsTup.new _ _⟩
/-- tuple(t) -/
theorem call_tupleT : CallR X (.type "tuple") (fun xs H Q => ∃ a ys, xs = [.ref a] ∧ SqT X.K H a ys ∧ Q (.ref a) H) := by
  intro pins s σ H xs us Q I r h
  obtain ⟨a, ys, rfl, ha, q⟩ := h
  obtain ⟨u, rfl, ru⟩ := vals1 r
  cases ru
  obtain ⟨its, _, p1, _⟩ := I.tuple ha
  exact call_tuple_same (items := its.toArray) p1 ⟨.ref a, H, I, rfl, q⟩
end
end L2

namespace L2
open PySem PySem.Spec PyProof.Rows

/-! ### places -/
/-- the place that an index of any sign means -/
def ixN (n : Nat) (i : Int) : Option Nat := if 0 ≤ i then (if i < n then some i.toNat else none) else if -(n : Int) ≤ i then some (i + n).toNat else none
def atI {α : Type} (xs : List α) (i : Int) : Option α := (ixN xs.length i).bind fun j => xs[j]?
theorem ixN_seq {n : Nat} {i : Int} {j : Nat} (h : ixN n i = some j) : seqIndex? i n = some j ∧ j < n ∧ -(n : Int) ≤ i ∧ i < n := by
  unfold ixN at h
  by_cases h0 : 0 ≤ i
  · rw [if_pos h0] at h
    by_cases h1 : i < n
    · rw [if_pos h1] at h
      have e : i.toNat = j := Option.some.inj h
      exact ⟨by rw [seqIndex_of h0 h1, e], by omega, by omega, h1⟩
    · rw [if_neg h1] at h; cases h
  · rw [if_neg h0] at h
    by_cases h1 : -(n : Int) ≤ i
    · rw [if_pos h1] at h
      have e : (i + n).toNat = j := Option.some.inj h
      exact ⟨by rw [seqIndex_neg (by omega) h1, e], by omega, h1, by omega⟩
    · rw [if_neg h1] at h; cases h
theorem atI_get {α : Type} {xs : List α} {i : Int} {v : α} (h : atI xs i = some v) : ∃ j, seqIndex? i xs.length = some j ∧ xs[j]? = some v ∧ j < xs.length ∧ -(xs.length : Int) ≤ i ∧ i < xs.length := by
  unfold atI at h
  cases e : ixN xs.length i with
  | none => rw [e] at h; cases h
  | some j =>
    rw [e] at h
    obtain ⟨h1, h2, h3, h4⟩ := ixN_seq e
    exact ⟨j, h1, h, h2, h3, h4⟩
theorem atI_nat {α : Type} {xs : List α} {j : Nat} {v : α} (h : xs[j]? = some v) : atI xs (j : Int) = some v := by
  have hj : j < xs.length := (List.getElem?_eq_some_iff.mp h).1
  have e : ixN xs.length (j : Int) = some j := by
    unfold ixN
    rw [if_pos (by omega), if_pos (by omega)]; simp
  unfold atI; rw [e]; exact h
theorem atI_last {α : Type} (xs : List α) (v : α) : atI (xs ++ [v]) (-1) = some v := by
  have hl : (xs ++ [v]).length = xs.length + 1 := by simp
  have e : ixN (xs ++ [v]).length (-1) = some xs.length := by
    unfold ixN
    rw [hl, if_neg (by decide), if_pos (by omega)]
    congr 1
    omega
  unfold atI
  rw [e]
  show (xs ++ [v])[xs.length]? = some v
  simp

/-! ### what may be subscripted -/
/-- what stands as an index of a plain subscript -/
def PlainIx (b : Expr) : Prop := ∀ o i, subscripted b false o i = operate [o, i] (getItem o i)
/-- a subscript by values -/
def IxR (X : Cx) (r : R2) : Prop :=
  ∀ (value slice : Expr) (pins : List (Addr × Obj)) (s : Shared) (σ : St) (H : Hp) (x y : V) (v u : Value) (Q : VK), Inv X pins σ H s → RelV x v → RelV y u → r x y H Q →
    subscripted slice false v u = operate [v, u] (getItem v u) → wpAny (model X.prog X.w) X.A (subscriptTail value slice v u) (EP X pins σ Q) X.xe s
/-- a call of a builtin's method by values: the receiver, the arguments -/
def MtR (X : Cx) (id : String) (r : V → List V → Hp → VK → Prop) : Prop :=
  ∀ (pins : List (Addr × Obj)) (s : Shared) (σ : St) (H : Hp) (x : V) (xs : List V) (v : Value) (us : List Value) (Q : VK), Inv X pins σ H s → RelV x v → Vals xs us → r x xs H Q →
    wpAny (model X.prog X.w) X.A (call (.builtin id) (v :: us)) (EP X pins σ Q) X.xe s
section
variable {X : Cx} {a b : Expr} {ta tb : TE} {pos : Pos}
theorem IxR.or {r r' : R2} (h : IxR X r) (h' : IxR X r') : IxR X (fun x y H Q => r x y H Q ∨ r' x y H Q) := by
  intro value slice pins s σ H x y v u Q I rx ry q hs
  rcases q with q | q
  · exact h value slice pins s σ H x y v u Q I rx ry q hs
  · exact h' value slice pins s σ H x y v u Q I rx ry q hs
theorem MtR.or {id : String} {r r' : V → List V → Hp → VK → Prop} (h : MtR X id r) (h' : MtR X id r') : MtR X id (fun x xs H Q => r x xs H Q ∨ r' x xs H Q) := by
  intro pins s σ H x xs v us Q I rx rs q
  rcases q with q | q
  · exact h pins s σ H x xs v us Q I rx rs q
  · exact h' pins s σ H x xs v us Q I rx rs q
/-- a[b] -/
theorem pe_ix {r : R2} (hr : IxR X r) (ha : PE X a ta) (hb : PE X b tb) (hs : PlainIx b) : PE X (.Subscript a b pos) (tOp r ta tb) := by
  intro pins s σ H Q I h
  exact Subscript_ (binT ha hb I h fun v u s2 x y H2 I2 rx ry q => hr a b pins s2 σ H2 x y v u Q I2 rx ry q (hs _ _))

def rIxL (K : PySem.W.Frag) : R2 := fun x y H Q => ∃ p xs i v, x = .ref p ∧ y = .int i ∧ SqL K H p xs ∧ atI xs i = some v ∧ Q v H
def rIxT (K : PySem.W.Frag) : R2 := fun x y H Q => ∃ p xs i v, x = .ref p ∧ y = .int i ∧ SqT K H p xs ∧ atI xs i = some v ∧ Q v H
def rIxS : R2 := fun x y H Q => ∃ z i c, x = .str z ∧ y = .int i ∧ z.length ≤ sizeLine ∧ atI z.cps.toList i = some c ∧ Q (.str ⟨#[c]⟩) H
theorem ix_list : IxR X (rIxL X.K) := by
  intro value slice pins s σ H x y v u Q I rx ry h hs
  obtain ⟨p, xs, i, z, rfl, rfl, hq, he, q⟩ := h
  cases rx
  obtain ⟨t, rfl⟩ := ry
  obtain ⟨its, r, pl, hz⟩ := I.list hq
  obtain ⟨j, h1, h2, h3, h4, h5⟩ := atI_get he
  obtain ⟨w, ew, rw'⟩ := r.get h2
  have hl := r.length
  have hn := line63
  have fin : EP X pins σ Q w s := ⟨z, H, I, rw', q⟩
  by_cases h0 : 0 ≤ i
  · have hj : i.toNat = j := by
      rw [seqIndex_of h0 h5] at h1
      exact Option.some.inj h1
    exact item_listR pl.isList h0 (by omega) (by rw [hj]; simpa using ew) fin hs
  · have hj : (i + (its.toArray.size : Int)).toNat = j := by
      rw [seqIndex_neg (by omega) h4] at h1
      rw [List.size_toArray, ← hl]
      exact Option.some.inj h1
    exact subscriptTail_builtinR (x := w) pl.isList.typeIs slot_list_getitem.lookup
      (wpAny_getItem_list_neg (Q := fun r s' => r = w ∧ EP X pins σ Q r s') pl.isList (by omega) (by rw [List.size_toArray] <;> omega) (by omega) (by rw [hj]; simpa using ew) ⟨rfl, fin⟩) hs
theorem ix_tup : IxR X (rIxT X.K) := by
  intro value slice pins s σ H x y v u Q I rx ry h hs
  obtain ⟨p, xs, i, z, rfl, rfl, hq, he, q⟩ := h
  cases rx
  obtain ⟨t, rfl⟩ := ry
  obtain ⟨its, r, pl, hz⟩ := I.tuple hq
  obtain ⟨j, h1, h2, h3, h4, h5⟩ := atI_get he
  obtain ⟨w, ew, rw'⟩ := r.get h2
  have hl := r.length
  have hn := line63
  have fin : EP X pins σ Q w s := ⟨z, H, I, rw', q⟩
  exact subscriptTail_builtinR (x := w) pl.typeIs slot_tuple_getitem.lookup
    (getItem_tuple (j := j) (Q := fun r s' => r = w ∧ EP X pins σ Q r s') pl (by omega) (by omega) (by rw [List.size_toArray, ← hl]; exact h1) (by simpa using ew) ⟨rfl, fin⟩) hs
theorem ix_str : IxR X rIxS := by
  intro value slice pins s σ H x y v u Q I rx ry h hs
  obtain ⟨z, i, c, rfl, rfl, hz, he, q⟩ := h
  obtain ⟨t, rfl⟩ := rx
  obtain ⟨t', rfl⟩ := ry
  obtain ⟨j, h1, h2, h3, h4, h5⟩ := atI_get he
  have hl : z.cps.toList.length = z.length := by simp [Str.length]
  rw [hl] at h1 h4 h5
  have hn := line63
  exact tail_any (typeIs_str s z t) slot_str_getitem.lookup (getItem_str (c := c) (by
    have e1 : decide (i < -(2 ^ 63 : Int)) = false := decide_eq_false (by omega)
    have e2 : decide (i ≥ 2 ^ 63) = false := decide_eq_false (by omega)
    rw [e1, e2, Bool.or_false]) (by rw [h1]; simpa using h2) ⟨.str ⟨#[c]⟩, H, I.tok _, ⟨_, rfl⟩, q⟩) hs
/-- list, tuple or str -/
def rIx (K : PySem.W.Frag) : R2 := fun x y H Q => rIxL K x y H Q ∨ rIxT K x y H Q ∨ rIxS x y H Q
theorem ix_seq : IxR X (rIx X.K) := ix_list.or (ix_tup.or ix_str)

/-! ### xs[i] = v, any sign -/
/-- the list's object behind a store -/
theorem mapSeq_set (its : List Value) (n j : Nat) (u : Value) : Obj.mapSeq (·.setIfInBounds j u) { cls := .type "list", data := .seq its.toArray n } = { cls := .type "list", data := .seq (its.set j u).toArray n } := by
  simp [Obj.mapSeq]
theorem Inv.lst {pins : List (Addr × Obj)} {σ : St} {H : Hp} {s : Shared} {p : Addr} {xs : List V} (I : Inv X pins σ H s) (h : H p = some (.lst xs)) :
    ∃ (its : List Value) (n : Nat), Vals xs its ∧ s.heap.get? p = some { cls := .type "list", data := .seq its.toArray n } ∧ xs.length ≤ sizeLine := by
  obtain ⟨z, its, n, r, e⟩ := I.hok p _ h
  exact ⟨its, n, r, e, z⟩
/-- the list at p is written by an update of its object -/
theorem Inv.lstUpd {pins : List (Addr × Obj)} {σ : St} {H : Hp} {s : Shared} {p : Addr} {xs ys : List V} {its its' : List Value} {n n' : Nat} {f : Obj → Obj} (I : Inv X pins σ H s) (h : H p = some (.lst xs))
    (ho : s.heap.get? p = some { cls := .type "list", data := .seq its.toArray n }) (hf : f { cls := .type "list", data := .seq its.toArray n } = { cls := .type "list", data := .seq its'.toArray n' }) (r : Vals ys its') (hz : ys.length ≤ sizeLine) (t : Nat) :
    Inv X pins σ (upd H p (.lst ys)) { s with heap := s.heap.update p f, toks := t } := by
  have e : (s.heap.update p f).get? p = some { cls := .type "list", data := .seq its'.toArray n' } := by
    rw [Heap.get?_update_self f ho (by rw [hf] <;> rfl), hf]
  refine I.write (x := p) (e := p) (by rw [h]; trivial) (.inl rfl) (fun b u hb q => (Heap.get?_update_other _ _ (Ne.symm hb)).trans q) ⟨_, e⟩ ?_
  exact ⟨hz, its', n', r, e⟩
def rSetL : V → V → V → Hp → (Hp → Prop) → Prop := fun o i v H Q => ∃ p xs k j, o = .ref p ∧ i = .int k ∧ H p = some (.lst xs) ∧ ixN xs.length k = some j ∧ Q (upd H p (.lst (xs.set j v)))
theorem set_list : PSet X rSetL := by
  intro pins s σ H o i v ov iv u Q I ro ri rv h
  obtain ⟨p, xs, k, j, rfl, rfl, hp, hj, q⟩ := h
  cases ro
  obtain ⟨t, rfl⟩ := ri
  obtain ⟨its, n, r, ho, hz⟩ := I.lst hp
  obtain ⟨h1, h2, h3, h4⟩ := ixN_seq hj
  have hl := r.length
  have hn := line63
  have I' : Inv X pins σ (upd H p (.lst (xs.set j v))) { s with heap := s.heap.update p (Obj.mapSeq (·.setIfInBounds j u)) } :=
    I.lstUpd hp ho (mapSeq_set its n j u) (r.set rv j) (by rw [List.length_set]; exact hz) s.toks
  by_cases h0 : 0 ≤ k
  · have hk : k.toNat = j := by
      rw [seqIndex_of h0 h4] at h1
      exact Option.some.inj h1
    exact PySem.W.ki_setAt ho h0 (by omega) (by rw [List.size_toArray, ← hl]; exact h4) (by rw [hk]; exact ⟨_, I', q⟩)
  · have hk : (k + (its.toArray.size : Int)).toNat = j := by
      rw [seqIndex_neg (by omega) h3] at h1
      rw [List.size_toArray, ← hl]
      exact Option.some.inj h1
    exact PySem.W.ki_setBack ho (by omega) (by rw [List.size_toArray, ← hl]; exact h3) (by omega) (by rw [hk]; exact ⟨_, I', q⟩)

/-! ### slices -/
theorem slice_bounds (lo hi : Option Int) (n : Nat) : (sliceBounds lo hi none n).1 = ((HT.sIx n 0 lo : Nat) : Int) ∧ (sliceBounds lo hi none n).2.1 = ((HT.sIx n n hi : Nat) : Int) ∧ (sliceBounds lo hi none n).2.2 = 1 := by
  refine ⟨?_, ?_, rfl⟩
  · cases lo with
    | none => simp [sliceBounds, HT.sIx]
    | some i =>
      simp only [sliceBounds, HT.sIx, Option.getD_none, show (1 : Int) > 0 by decide, if_true]
      by_cases h : i < 0
      · simp only [h, if_true] <;> omega
      · simp only [h, if_false] <;> omega
  · cases hi with
    | none => simp [sliceBounds, HT.sIx]
    | some i =>
      simp only [sliceBounds, HT.sIx, Option.getD_none, show (1 : Int) > 0 by decide, if_true]
      by_cases h : i < 0
      · simp only [h, if_true] <;> omega
      · simp only [h, if_false] <;> omega
theorem slicePick_cut (its : List Value) (lo hi : Option Int) : slicePick its.toArray lo hi none = ((its.drop (HT.sIx its.length 0 lo)).take (HT.sIx its.length its.length hi - HT.sIx its.length 0 lo)).toArray := by
  obtain ⟨h1, h2, h3⟩ := slice_bounds lo hi its.toArray.size
  unfold slicePick
  rw [h1, h2, h3]
  simp only [sliceRange_one, pick_run, List.size_toArray] <;> rfl
/-- xs[lo:hi] of a list: a new list -/
def rSlL (K : PySem.W.Frag) : V → Option Int → Option Int → Hp → VK → Prop := fun x lo hi H Q => ∃ a xs, x = .ref a ∧ SqL K H a xs ∧ ∀ p, H p = none → Q (.ref p) (upd H p (.lst (cutV xs lo hi)))
theorem sl_list : SlR X (rSlL X.K) := by
  intro pins s σ H x v vl vu lo hi sl Q I rx hs pl pu h
  obtain ⟨a, xs, rfl, hx, q⟩ := h
  cases rx
  obtain ⟨its, r, ht, hz⟩ := I.list hx
  have hlen := r.length
  refine ⟨"list", _, slot_list_getitem.lookup, ht.isList.typeIs, ?_⟩
  refine wpAny_getItem_list_slice ht.isList hs pl pu .none (by simp) ?_ (by rw [List.size_toArray] <;> omega)
  rw [slicePick_cut, ← hlen]
  refine ⟨.ref s.heap.objs.size, _, I.laid (t' := s.toks) (o := .lst (cutV xs lo hi)) (fun b ob q => Heap.get?_push_of_some _ q) (Nat.le_refl _) ?_, rfl, q _ (I.hok.fresh (Nat.le_refl _))⟩
  exact ⟨Nat.le_trans (cutV_length xs lo hi) hz, _, 0, (r.drop (HT.sIx xs.length 0 lo)).take (HT.sIx xs.length xs.length hi - HT.sIx xs.length 0 lo), Heap.get?_push_size _ rfl⟩

/-! ### in, not in: flat items -/
def flatV : V → Bool
  | .non => true
  | .bl _ => true
  | .int _ => true
  | .str _ => true
  | _ => false
/-- == of flat values -/
def eqV : V → V → Bool
  | .non, .non => true
  | .bl a, .bl b => a == b
  | .bl a, .int b => (if a then 1 else 0) == b
  | .int a, .bl b => a == (if b then 1 else 0)
  | .int a, .int b => a == b
  | .str a, .str b => a == b
  | _, _ => false
theorem eqAt_V {A : Around} {s : Shared} {y x : V} {u v : Value} (ry : RelV y u) (rx : RelV x v) (fy : flatV y = true) (fx : flatV x = true) : SeqAt.EqAt A s u v (eqV y x) := by
  cases y with
  | non =>
    cases ry
    cases x with
    | non => cases rx; exact SeqAt.EqAt.same _
    | bl b => cases rx; exact SeqAt.EqAt.none_bool b
    | int b => obtain ⟨t, rfl⟩ := rx; exact SeqAt.EqAt.none_int b t
    | str b => obtain ⟨t, rfl⟩ := rx; exact SeqAt.EqAt.none_str b t
    | _ => exact absurd (show false = true from fx) Bool.false_ne_true
  | bl a =>
    cases ry
    cases x with
    | non => cases rx; exact SeqAt.EqAt.bool_none a
    | bl b => cases rx; exact SeqAt.EqAt.bool_bool a b
    | int b => obtain ⟨t, rfl⟩ := rx; exact SeqAt.EqAt.bool_int a b t
    | str b => obtain ⟨t, rfl⟩ := rx; exact SeqAt.EqAt.bool_str a b t
    | _ => exact absurd (show false = true from fx) Bool.false_ne_true
  | int a =>
    obtain ⟨t', rfl⟩ := ry
    cases x with
    | non => cases rx; exact SeqAt.EqAt.int_none a t'
    | bl b => cases rx; exact SeqAt.EqAt.int_bool a t' b
    | int b => obtain ⟨t, rfl⟩ := rx; exact SeqAt.EqAt.int_int a t' b t
    | str b => obtain ⟨t, rfl⟩ := rx; exact SeqAt.EqAt.int_str a t' b t
    | _ => exact absurd (show false = true from fx) Bool.false_ne_true
  | str a =>
    obtain ⟨t', rfl⟩ := ry
    cases x with
    | non => cases rx; exact SeqAt.EqAt.str_none a t'
    | bl b => cases rx; exact SeqAt.EqAt.str_bool a t' b
    | int b => obtain ⟨t, rfl⟩ := rx; exact SeqAt.EqAt.str_int a t' b t
    | str b => obtain ⟨t, rfl⟩ := rx; exact SeqAt.EqAt.str_str a t' b t
    | _ => exact absurd (show false = true from fx) Bool.false_ne_true
  | _ => exact absurd (show false = true from fy) Bool.false_ne_true
/-- the items' answers, read off the values (a value's own answer does not lean on its token) -/
def eqU (x : V) (u : Value) : Bool := match u with
  | .none => eqV .non x
  | .bool b => eqV (.bl b) x
  | .int i _ => eqV (.int i) x
  | .str z _ => eqV (.str z) x
  | _ => false
theorem eqU_of {x y : V} {u : Value} (r : RelV y u) (f : flatV y = true) : eqU x u = eqV y x := by
  cases y with
  | non => cases r; rfl
  | bl b => cases r; rfl
  | int i => obtain ⟨t, rfl⟩ := r; rfl
  | str z => obtain ⟨t, rfl⟩ := r; rfl
  | _ => exact absurd (show false = true from f) Bool.false_ne_true
theorem any_eqU {x : V} : ∀ {xs : List V} {us : List Value}, Vals xs us → xs.all flatV = true → us.any (eqU x) = xs.any fun y => eqV y x
  | _, _, .nil, _ => rfl
  | y :: xs, u :: us, .cons r t, f => by
    rw [List.all_cons, Bool.and_eq_true] at f
    rw [List.any_cons, List.any_cons, eqU_of r f.1, any_eqU t f.2]
theorem mem_eqAt {A : Around} {s : Shared} {x : V} {v : Value} (rx : RelV x v) (fx : flatV x = true) : ∀ {xs : List V} {us : List Value}, Vals xs us → xs.all flatV = true → ∀ u ∈ us, SeqAt.EqAt A s u v (eqU x u)
  | _, _, .nil, _ => fun u hu => by cases hu
  | y :: xs, u :: us, .cons r t, f => fun u' hu => by
    rw [List.all_cons, Bool.and_eq_true] at f
    rcases List.mem_cons.mp hu with rfl | hu
    · rw [eqU_of r f.1]; exact eqAt_V r rx f.1 fx
    · exact mem_eqAt rx fx t f.2 u' hu
def inV (x : V) (xs : List V) : Bool := xs.any fun y => eqV y x
/-- x in a list or tuple of flat items -/
def rIn (K : PySem.W.Frag) (neg : Bool) : R2 := fun x y H Q => ∃ p xs, y = .ref p ∧ (SqL K H p xs ∨ SqT K H p xs) ∧ flatV x = true ∧ xs.all flatV = true ∧ Q (.bl (if neg then !inV x xs else inV x xs)) H
theorem op_in_seq : OpR X (compareOp .In) (rIn X.K false) := by
  intro pins s σ H x y v u Q I rx ry h
  obtain ⟨p, xs, rfl, hq, fx, fs, q⟩ := h
  cases ry
  rcases hq with hq | hq
  · obtain ⟨its, r, pl, hz⟩ := I.list hq
    refine SeqAt.in_listAt (eqU x) pl.isList (fun w hw => mem_eqAt rx fx r fs w (by simpa using hw)) ⟨.bl _, H, I, rfl, ?_⟩
    rw [show its.toArray.any (eqU x) = its.any (eqU x) by simp, any_eqU r fs]
    exact q
  · obtain ⟨its, r, pl, hz⟩ := I.tuple hq
    refine SeqAt.in_tupleAt (eqU x) pl (fun w hw => mem_eqAt rx fx r fs w (by simpa using hw)) ⟨.bl _, H, I, rfl, ?_⟩
    rw [show its.toArray.any (eqU x) = its.any (eqU x) by simp, any_eqU r fs]
    exact q
theorem op_notIn_seq : OpR X (compareOp .NotIn) (rIn X.K true) := by
  intro pins s σ H x y v u Q I rx ry h
  obtain ⟨p, xs, rfl, hq, fx, fs, q⟩ := h
  cases ry
  rcases hq with hq | hq
  · obtain ⟨its, r, pl, hz⟩ := I.list hq
    refine SeqAt.notIn_listAt (eqU x) pl.isList (fun w hw => mem_eqAt rx fx r fs w (by simpa using hw)) ⟨.bl _, H, I, rfl, ?_⟩
    rw [show its.toArray.any (eqU x) = its.any (eqU x) by simp, any_eqU r fs]
    exact q
  · obtain ⟨its, r, pl, hz⟩ := I.tuple hq
    refine SeqAt.notIn_tupleAt (eqU x) pl (fun w hw => mem_eqAt rx fx r fs w (by simpa using hw)) ⟨.bl _, H, I, rfl, ?_⟩
    rw [show its.toArray.any (eqU x) = its.any (eqU x) by simp, any_eqU r fs]
    exact q
theorem op_notIn_str : OpR X (compareOp .NotIn) (fun x y H Q => ∃ i j, x = .str i ∧ y = .str j ∧ Q (.bl (!(!(Builtin.Str.occurrences j i 0 j.length 1).isEmpty))) H) := by
  intro pins s σ H x y v u Q I rx ry h
  obtain ⟨i, j, rfl, rfl, q⟩ := h
  obtain ⟨t, rfl⟩ := rx
  obtain ⟨t', rfl⟩ := ry
  exact notIn_str ⟨.bl _, H, I, rfl, q⟩

/-! ### len, list(x), tuple(x) of any list or tuple that is read -/
theorem call_len_seq : CallR X (.builtin "len") (fun xs H Q => ∃ p ys, xs = [.ref p] ∧ (SqL X.K H p ys ∨ SqT X.K H p ys) ∧ Q (.int ys.length) H) := by
  intro pins s σ H xs us Q I r h
  obtain ⟨p, ys, rfl, hq, q⟩ := h
  obtain ⟨u, rfl, rx⟩ := vals1 r
  cases rx
  have hn := line63
  rcases hq with hq | hq
  · obtain ⟨its, r', pl, hz⟩ := I.list hq
    have hlen := r'.length
    exact Calls.call_len_list pl.isList (by simp only [List.size_toArray] <;> omega) ⟨.int ys.length, H, I.tok _, ⟨s.toks + 1, by rw [List.size_toArray, hlen]⟩, q⟩
  · obtain ⟨its, r', pl, hz⟩ := I.tuple hq
    have hlen := r'.length
    exact len_tuple pl (by simp only [List.size_toArray] <;> omega) ⟨.int ys.length, H, I.tok _, ⟨s.toks + 1, by rw [List.size_toArray, hlen]⟩, q⟩
theorem call_len_str : CallR X (.builtin "len") (fun xs H Q => ∃ z, xs = [.str z] ∧ z.length ≤ sizeLine ∧ Q (.int z.length) H) := by
  intro pins s σ H xs us Q I r h
  obtain ⟨z, rfl, hz, q⟩ := h
  obtain ⟨u, rfl, t, rfl⟩ := vals1 r
  have hn := line63
  exact len_str (by omega) ⟨.int z.length, H, I.tok _, ⟨_, rfl⟩, q⟩
theorem CallR.or {f : Value} {r r' : List V → Hp → VK → Prop} (h : CallR X f r) (h' : CallR X f r') : CallR X f (fun xs H Q => r xs H Q ∨ r' xs H Q) := by
  intro pins s σ H xs us Q I rs q
  rcases q with q | q
  · exact h pins s σ H xs us Q I rs q
  · exact h' pins s σ H xs us Q I rs q
theorem call_list_of : CallR X (.type "list") (fun xs H Q => ∃ p ys, xs = [.ref p] ∧ (SqL X.K H p ys ∨ SqT X.K H p ys) ∧ ∀ l, H l = none → Q (.ref l) (upd H l (.lst ys))) := by
  intro pins s σ H xs us Q I r h
  obtain ⟨p, ys, rfl, hq, q⟩ := h
  obtain ⟨u, rfl, rx⟩ := vals1 r
  cases rx
  have fin : ∀ (its : List Value), Vals ys its → ys.length ≤ sizeLine → ∀ (h' : Heap) (c' : Nat), (∀ b o', s.heap.get? b = some o' → h'.get? b = some o') →
      h'.get? s.heap.objs.size = some { cls := .type "list", dict := none, data := .seq its.toArray c', slots := #[] } → EP X pins σ Q (.ref s.heap.objs.size) { s with heap := h' } := fun its r' hz h' c' kp e =>
    ⟨.ref s.heap.objs.size, _, I.laid (t' := s.toks) kp (Nat.le_refl _) (show ObjOk X.prog X.w _ h' _ (.lst ys) from ⟨hz, its, c', r', e⟩), rfl, q _ (I.hok.fresh (Nat.le_refl _))⟩
  rcases hq with hq | hq
  · obtain ⟨its, r', pl, hz⟩ := I.list hq
    have hlen := r'.length
    obtain ⟨o, ho, hc, n, hd⟩ := pl.isList
    exact call_list_seq p (.inl rfl) ho hc hd (fun h' c' kp e => fin its r' hz h' c' kp e) (by simp only [List.size_toArray] <;> omega)
  · obtain ⟨its, r', pl, hz⟩ := I.tuple hq
    have hlen := r'.length
    obtain ⟨o, ho, hc, n, hd⟩ := pl
    exact call_list_seq p (.inr rfl) ho hc hd (fun h' c' kp e => fin its r' hz h' c' kp e) (by simp only [List.size_toArray] <;> omega)
theorem call_tuple_of : CallR X (.type "tuple") (fun xs H Q => ∃ p ys, xs = [.ref p] ∧ ((SqL X.K H p ys ∧ ∀ l, H l = none → Q (.ref l) (upd H l (.tup ys))) ∨ (SqT X.K H p ys ∧ Q (.ref p) H))) := by
  intro pins s σ H xs us Q I r h
  obtain ⟨p, ys, rfl, h⟩ := h
  obtain ⟨u, rfl, rx⟩ := vals1 r
  cases rx
  rcases h with ⟨hq, q⟩ | ⟨hq, q⟩
  · obtain ⟨its, r', pl, hz⟩ := I.list hq
    have hlen := r'.length
    refine call_tuple_list pl.isList (fun h' kp => ?_) (by simp only [List.size_toArray] <;> omega)
    have I1 : Inv X pins σ H { s with heap := h' } := I.kept (t' := s.toks) kp
    have I2 : Inv X pins σ (upd H h'.objs.size (.tup ys)) { s with heap := h'.push { cls := .type "tuple", data := .seq its.toArray } } :=
      I1.laid (t' := s.toks) (fun b o e => Heap.get?_push_of_some _ e) (Nat.le_refl _) (show ObjOk X.prog X.w _ _ _ (.tup ys) from ⟨hz, its, r', IsTup.new _ _⟩)
    exact ⟨.ref h'.objs.size, _, I2, rfl, q _ (I1.hok.fresh (Nat.le_refl _))⟩
  · obtain ⟨its, r', pl, hz⟩ := I.tuple hq
    exact call_tuple_same pl ⟨.ref p, H, I, rfl, q⟩

/-! ### the call of a builtin's method: o.m(..) -/
/-- the value is of that builtin type -/
def tyV (K : PySem.W.Frag) (T : String) (x : V) (H : Hp) : Prop := match x with
  | .str _ => T = "str"
  | .int _ => T = "int"
  | .ref p => (T = "list" ∧ ∃ xs, SqL K H p xs) ∨ (T = "tuple" ∧ ∃ o, K.lookup p = some o ∧ o.cls = .type "tuple" ∧ o.dict = none) ∨
      (T = "dict" ∧ ((∃ kvs, H p = some (.dK kvs)) ∨ ∃ kvs, H p = some (.dT kvs))) ∨ (T = "set" ∧ ∃ S n, H p = some (.set S n))
  | _ => False
theorem tyV_is {pins : List (Addr × Obj)} {σ : St} {H : Hp} {s : Shared} {T : String} {x : V} {v : Value} (I : Inv X pins σ H s) (r : RelV x v) (ty : tyV X.K T x H) :
    s.TypeIs v T ∧ ∀ a, v = .ref a → ∃ ob, s.heap.get? a = some ob ∧ ob.dict = none := by
  cases x with
  | str z =>
    obtain ⟨t, rfl⟩ := r
    cases (show T = "str" from ty)
    exact ⟨typeIs_str s z t, fun _ e => nomatch e⟩
  | int i =>
    obtain ⟨t, rfl⟩ := r
    cases (show T = "int" from ty)
    exact ⟨typeIs_int s i t, fun _ e => nomatch e⟩
  | ref p =>
    cases r
    rcases ty with ⟨rfl, xs, hq⟩ | ⟨rfl, o, hk, hc, hd⟩ | ⟨rfl, hk⟩ | ⟨rfl, S, n, hk⟩
    · obtain ⟨its, _, pl, _⟩ := I.list hq
      refine ⟨pl.isList.typeIs, fun a e => ?_⟩
      cases e
      obtain ⟨o, n, e, c, hd, _⟩ := pl
      exact ⟨o, e, hd⟩
    · refine ⟨⟨o, I.kIn p o hk, hc⟩, fun a e => ?_⟩
      cases e
      exact ⟨o, I.kIn _ o hk, hd⟩
    · have z : ∃ o, s.heap.get? p = some o ∧ o.ExactDict := by
        rcases hk with ⟨kvs, hk⟩ | ⟨kvs, hk⟩
        · obtain ⟨_, _, _, _, o, _, _, e, ex, _⟩ := I.hok p _ hk
          exact ⟨o, e, ex⟩
        · obtain ⟨_, _, _, _, o, _, _, e, ex, _⟩ := I.hok p _ hk
          exact ⟨o, e, ex⟩
      obtain ⟨o, e, ex⟩ := z
      refine ⟨⟨o, e, ex.1⟩, fun a e2 => ?_⟩
      cases e2
      exact ⟨o, e, ex.2.1⟩
    · obtain ⟨o, _, _, _, e, ex, _⟩ := I.hok p _ hk
      refine ⟨⟨o, e, ex.1⟩, fun a e2 => ?_⟩
      cases e2
      exact ⟨o, e, ex.2.1⟩
  | _ => exact False.elim ty
def tBM0 (K : PySem.W.Frag) (T : String) (r : V → List V → Hp → VK → Prop) (to : TE) : TE := fun σ H Q => to σ H fun x H1 => tyV K T x H1 ∧ r x [] H1 Q
def tBM (K : PySem.W.Frag) (T : String) (r : V → List V → Hp → VK → Prop) (to : TE) (t : TA) : TE := fun σ H Q => to σ H fun x H1 => tyV K T x H1 ∧ t σ H1 fun xs H2 => r x xs H2 Q
variable {o e : Expr} {es : List Expr} {to : TE} {t : TA} {name : Str} {apos cpos : Pos} {T id : String} {r : V → List V → Hp → VK → Prop}
theorem pe_bm0 (pa : PlainAttrs T) (slot : Slot T name id) (hty : typeOf (.builtin id) = pure (.type "method_descriptor")) (hm : MtR X id r) (ho : PE X o to)
    (hbase : attributeBase o name X.env (eval o X.env) = eval o X.env := by rfl) (hline : (apos.endLine == cpos.line) = true := by rfl) : PE X (.Call (.Attribute o name apos) [] [] cpos) (tBM0 X.K T r to) := by
  intro pins s σ H Q I h
  refine wpAny_Call_method0_late hbase hline (thn (ho pins s σ H _ I h) fun v s1 ⟨x, H1, I1, r1, ty, q1⟩ => ?_)
  obtain ⟨h1, h2⟩ := tyV_is I1 r1 ty
  exact ⟨T, id, pa, slot, hty, h1, h2, Calls.callWith_builtin rfl (PySem.evalArgs_none (hm pins s1 σ H1 x [] v [] Q I1 r1 .nil q1))⟩
theorem pe_bm (pa : PlainAttrs T) (slot : Slot T name id) (hty : typeOf (.builtin id) = pure (.type "method_descriptor")) (hm : MtR X id r) (ho : PE X o to) (ha : PA X (e :: es) t)
    (hbase : attributeBase o name X.env (eval o X.env) = eval o X.env := by rfl)
    (hfew : ((backTo cpos (starEach (e :: es) X.env)).all (fun x => !x.1) && (backToKw cpos (keywordEach [] X.env)).all (fun x => x.1.isSome)
      && decide ((e :: es).length + ([] : List Keyword).length + (if ([] : List Keyword).isEmpty then 0 else 1) < 30)) = true := by rfl)
    (hline : (apos.endLine == cpos.line) = true := by rfl) (hs : starEach (e :: es) X.env = (false, eval e X.env) :: starEach es X.env := by rfl) (hplain : (backTo cpos (starEach es X.env)).any (·.1) = false := by rfl) :
    PE X (.Call (.Attribute o name apos) (e :: es) [] cpos) (tBM X.K T r to t) := by
  intro pins s σ H Q I h
  refine wpAny_Call_method_late hbase hfew hline rfl (thn (ho pins s σ H _ I h) fun v s1 ⟨x, H1, I1, r1, ty, q1⟩ => ?_)
  obtain ⟨h1, h2⟩ := tyV_is I1 r1 ty
  refine ⟨T, id, pa, slot, hty, h1, h2, ?_⟩
  have hA := ha cpos pins s1 σ H1 _ I1 q1
  rw [hs] at hA ⊢
  refine Calls.callWith_builtin (by show (false || (backTo cpos (starEach es X.env)).any (·.1)) = false; rw [hplain] <;> rfl) (Calls.evalArgs_plain ?_)
  exact thn hA fun us s2 ⟨vs, H2, I2, r2, q2⟩ => hm pins s2 σ H2 x vs v us Q I2 r1 r2 q2
/- xs.append(e), list.index on a module's tuple .. are MtR facts of 06m -/
end
end L2

namespace L2
open PySem PySem.Spec PyProof.Rows

def MtM (X : Cx) (id : String) (r : V → List V → Hp → VK → Prop) : Prop :=
  ∀ (pins : List (Addr × Obj)) (s : Shared) (σ : St) (H : Hp) (x : V) (xs : List V) (v : Value) (us : List Value) (Q : VK), Inv X pins σ H s → RelV x v → Vals xs us → r x xs H Q →
    wpAny (model X.prog X.w) X.A (call (.builtin id) (v :: us)) (EP X pins σ Q) X.xe s

/-! ### lists of values -/
theorem Vals.one : ∀ {x : V} {us : List Value}, Vals [x] us → ∃ u, us = [u] ∧ RelV x u
  | _, _, .cons r .nil => ⟨_, rfl, r⟩
theorem Vals.two : ∀ {x y : V} {us : List Value}, Vals [x, y] us → ∃ u v, us = [u, v] ∧ RelV x u ∧ RelV y v
  | _, _, _, .cons r (.cons q .nil) => ⟨_, _, rfl, r, q⟩
theorem Vals.zero : ∀ {us : List Value}, Vals [] us → us = []
  | _, .nil => rfl
theorem Vals.dropLast {xs : List V} {us : List Value} (h : Vals xs us) : Vals xs.dropLast us.dropLast := by
  induction h with
  | nil => exact .nil
  | cons r t ih =>
    cases t with
    | nil => exact .nil
    | cons q t' => exact .cons r ih
theorem Vals.eraseIdx : ∀ {xs : List V} {us : List Value} (i : Nat), Vals xs us → Vals (xs.eraseIdx i) (us.eraseIdx i)
  | _, _, _, .nil => .nil
  | _, _, 0, .cons _ t => t
  | _, _, i + 1, .cons r t => .cons r (Vals.eraseIdx i t)
theorem Vals.reverse {xs : List V} {us : List Value} (h : Vals xs us) : Vals xs.reverse us.reverse := by
  induction h with
  | nil => exact .nil
  | cons r t ih => rw [List.reverse_cons, List.reverse_cons]; exact Vals.append ih (.cons r .nil)
theorem Vals.rep {xs : List V} {us : List Value} (h : Vals xs us) : ∀ k : Nat, Vals (List.replicate k xs).flatten (List.replicate k us).flatten
  | 0 => .nil
  | k + 1 => by
    rw [List.replicate_succ, List.replicate_succ, List.flatten_cons, List.flatten_cons]
    exact Vals.append h (Vals.rep h k)
theorem erase_last {α : Type} (l : List α) : l.eraseIdx (l.length - 1) = l.dropLast := by
  induction l with
  | nil => rfl
  | cons a r ih =>
    cases r with
    | nil => rfl
    | cons b r =>
      have e : (a :: b :: r).length - 1 = ((b :: r).length - 1) + 1 := by
        have h1 : (a :: b :: r).length = r.length + 2 := rfl
        have h2 : (b :: r).length = r.length + 1 := rfl
        omega
      rw [e, List.eraseIdx_cons_succ, ih]
      all_goals rfl
theorem len_erase {α : Type} : ∀ (l : List α) (i : Nat), (l.eraseIdx i).length ≤ l.length
  | [], _ => Nat.le_refl _
  | _ :: _, 0 => Nat.le_succ _
  | _ :: r, i + 1 => Nat.succ_le_succ (len_erase r i)
theorem foldl_rep (its : List Value) : ∀ (k : Nat) (acc : List Value),
    List.foldl (fun x1 x2 => x1 ++ x2) acc.toArray (List.replicate k its.toArray) = (acc ++ (List.replicate k its).flatten).toArray
  | 0, acc => by simp
  | k + 1, acc => by
    have e : acc.toArray ++ its.toArray = (acc ++ its).toArray := by simp
    have e2 : (acc ++ its) ++ (List.replicate k its).flatten = acc ++ (List.replicate (k + 1) its).flatten := by
      rw [List.replicate_succ, List.flatten_cons, List.append_assoc]
    rw [← e2, ← foldl_rep its k (acc ++ its), ← e, List.replicate_succ, List.foldl_cons]

section
variable {X : Cx} {pins : List (Addr × Obj)} {σ : St} {H : Hp} {s : Shared} {l b : Addr} {xs ys zs : List V}

/-! ### the two steps: a tracked list is rewritten, a new list is laid -/
theorem Inv.lset {its its' : List Value} {n : Nat} {f : Array Value → Array Value} {t' : Nat} (I : Inv X pins σ H s) (hH : H l = some (.lst xs))
    (e : s.heap.get? l = some { cls := .type "list", data := .seq its.toArray n }) (hf : f its.toArray = its'.toArray) (hv : Vals ys its') (hz : ys.length ≤ sizeLine) :
    Inv X pins σ (upd H l (.lst ys)) { s with heap := s.heap.update l (Obj.mapSeq f), toks := t' } := by
  have q := PySem.IsL.update e f
  rw [hf] at q
  refine I.write (x := l) (e := l) (by rw [hH]; exact trivial) (.inl rfl) (fun b' u hb hu => (Heap.get?_update_other s.heap (Obj.mapSeq f) (Ne.symm hb)).trans hu) ⟨_, q⟩ ?_
  exact ⟨hz, its', _, hv, q⟩
theorem Inv.lnew {its : List Value} {t' : Nat} (I : Inv X pins σ H s) (hv : Vals ys its) (hz : ys.length ≤ sizeLine) :
    Inv X pins σ (upd H s.heap.objs.size (.lst ys)) { s with heap := s.heap.push { cls := .type "list", data := .seq its.toArray }, toks := t' } :=
  I.laid (fun _ _ q => Heap.get?_push_of_some _ q) (Nat.le_refl _) ⟨hz, its, 0, hv, Heap.get?_push_size _ rfl⟩
theorem Inv.fresh (I : Inv X pins σ H s) : H s.heap.objs.size = none := I.hok.fresh (Nat.le_refl _)
theorem Inv.lstM (I : Inv X pins σ H s) (hH : H l = some (.lst xs)) : xs.length ≤ sizeLine ∧ ∃ (its : List Value) (n : Nat), Vals xs its ∧ xs.length = its.length ∧ s.heap.get? l = some { cls := .type "list", data := .seq its.toArray n } := by
  obtain ⟨z, its, n, r, e⟩ := I.hok l _ hH
  exact ⟨z, its, n, r, r.length, e⟩

theorem notLongL {n : Nat} (h : n ≤ sizeLine) : Builtin.List.listTooLong n = false := by
  unfold Builtin.List.listTooLong
  exact decide_eq_false (by omega)
end

section
variable {X : Cx}

/-! ### methods -/
def rAppend : V → List V → Hp → VK → Prop := fun x vs H Q => ∃ l xs y, x = .ref l ∧ vs = [y] ∧ H l = some (.lst xs) ∧ xs.length < sizeLine ∧ Q .non (upd H l (.lst (xs ++ [y])))
theorem mt_append : MtM X "list.append" rAppend := by
  intro pins s σ H x vs v us Q I rx rv h
  obtain ⟨l, xs, y, rfl, rfl, hH, hz, q⟩ := h
  cases rx
  obtain ⟨u, rfl, ru⟩ := rv.one
  obtain ⟨z, its, n, r, hl, e⟩ := I.lstM hH
  refine call_meets F.slot_list_append ⟨_, e, rfl⟩ F.entry_list_append (F.args_list_append_2 _ _) (PySem.list_append l its.toArray n u (by rw [List.size_toArray]; omega)) ⟨e, ?_⟩
  refine ⟨.non, _, I.lset (its' := its ++ [u]) hH e (by simp) (r.append (.cons ru .nil)) ?_, rfl, q⟩
  rw [List.length_append, List.length_singleton]
  omega

def rExtend : V → List V → Hp → VK → Prop := fun x vs H Q => ∃ l b xs zs, x = .ref l ∧ vs = [.ref b] ∧ H l = some (.lst xs) ∧ H b = some (.lst zs) ∧ xs.length + zs.length ≤ sizeLine ∧ Q .non (upd H l (.lst (xs ++ zs)))
theorem mt_extend : MtM X "list.extend" rExtend := by
  intro pins s σ H x vs v us Q I rx rv h
  obtain ⟨l, b, xs, zs, rfl, rfl, hH, hB, hz, q⟩ := h
  cases rx
  obtain ⟨u, rfl, ru⟩ := rv.one
  cases ru
  obtain ⟨z, its, n, r, hl, e⟩ := I.lstM hH
  obtain ⟨z2, its2, n2, r2, hl2, e2⟩ := I.lstM hB
  have hsz : its.toArray.size + its2.toArray.size ≤ sizeLine := by rw [List.size_toArray, List.size_toArray]; omega
  have hlong : ¬ (!its.toArray.isEmpty && Builtin.List.listTooLong (its.toArray.size + its2.toArray.size)) = true := by
    rw [notLongL hsz, Bool.and_false]
    exact Bool.false_ne_true
  refine call_meets F.slot_list_extend ⟨_, e, rfl⟩ F.entry_list_extend (F.args_list_extend_2 _ _)
    (AutoSeq1.list_extend_list_list_0 l its.toArray n b its2.toArray n2 hlong (by rw [List.size_toArray]; omega) (by omega)) ⟨e, e2, ?_⟩
  refine ⟨.non, _, I.lset (its' := its ++ its2) hH e (by simp) (r.append r2) ?_, rfl, q⟩
  rw [List.length_append]
  omega

def rPop : V → List V → Hp → VK → Prop := fun x vs H Q => ∃ l xs y, x = .ref l ∧ vs = [] ∧ H l = some (.lst xs) ∧ xs[xs.length - 1]? = some y ∧ Q y (upd H l (.lst xs.dropLast))
theorem mt_pop : MtM X "list.pop" rPop := by
  intro pins s σ H x vs v us Q I rx rv h
  obtain ⟨l, xs, y, rfl, rfl, hH, hy, q⟩ := h
  cases rx
  have hus := rv.zero
  subst hus
  obtain ⟨z, its, n, r, hl, e⟩ := I.lstM hH
  obtain ⟨u, hu, ru⟩ := r.get hy
  have hy' : its.toArray[its.toArray.size - 1]? = some u := by
    show its.toArray[its.length - 1]? = some u
    rw [← Array.getElem?_toList, ← hl]
    exact hu
  refine call_meets F.slot_list_pop ⟨_, e, rfl⟩ F.entry_list_pop (F.args_list_pop_1 _) (MeetsSeq.list_pop_last l its.toArray n u hy' (by rw [List.size_toArray]; omega)) ⟨e, ?_⟩
  refine ⟨y, _, I.lset (its' := its.dropLast) hH e ?_ r.dropLast ?_, ru, q⟩
  · show its.toArray.eraseIdxIfInBounds (its.toArray.size - 1) = its.dropLast.toArray
    rw [List.size_toArray, List.eraseIdxIfInBounds_toArray, erase_last]
  · rw [List.length_dropLast]
    omega

def rPopAt : V → List V → Hp → VK → Prop := fun x vs H Q => ∃ l xs i k y, x = .ref l ∧ vs = [.int i] ∧ H l = some (.lst xs) ∧ -(2 ^ 63) ≤ i ∧ i < 2 ^ 63 ∧ seqIndex? i xs.length = some k ∧ xs[k]? = some y ∧ Q y (upd H l (.lst (xs.eraseIdx k)))
theorem mt_popAt : MtM X "list.pop" rPopAt := by
  intro pins s σ H x vs v us Q I rx rv h
  obtain ⟨l, xs, i, k, y, rfl, rfl, hH, h1, h2, hk, hy, q⟩ := h
  cases rx
  obtain ⟨u, rfl, ru⟩ := rv.one
  obtain ⟨t, rfl⟩ := ru
  obtain ⟨z, its, n, r, hl, e⟩ := I.lstM hH
  obtain ⟨w, hw, rw'⟩ := r.get hy
  refine call_meets F.slot_list_pop ⟨_, e, rfl⟩ F.entry_list_pop (F.args_list_pop_2 _ _)
    (MeetsSeq.list_pop_at l its.toArray n i t k w (fitsIndex_both h1 h2) (by rw [List.size_toArray, ← hl]; exact hk) (by rw [← Array.getElem?_toList]; exact hw) (by rw [List.size_toArray]; omega)) ⟨e, ?_⟩
  refine ⟨y, _, I.lset (its' := its.eraseIdx k) hH e ?_ (r.eraseIdx k) ?_, rw', q⟩
  · show its.toArray.eraseIdxIfInBounds k = (its.eraseIdx k).toArray
    rw [List.eraseIdxIfInBounds_toArray]
  · have := len_erase xs k
    omega

def rReverse : V → List V → Hp → VK → Prop := fun x vs H Q => ∃ l xs, x = .ref l ∧ vs = [] ∧ H l = some (.lst xs) ∧ Q .non (upd H l (.lst xs.reverse))
theorem mt_reverse : MtM X "list.reverse" rReverse := by
  intro pins s σ H x vs v us Q I rx rv h
  obtain ⟨l, xs, rfl, rfl, hH, q⟩ := h
  cases rx
  have hus := rv.zero
  subst hus
  obtain ⟨z, its, n, r, hl, e⟩ := I.lstM hH
  refine call_meets F.slot_list_reverse ⟨_, e, rfl⟩ F.entry_list_reverse (F.args_list_reverse_1 _) (AutoSeq1.list_reverse_list_0 l its.toArray n (by rw [List.size_toArray]; omega)) ⟨e, ?_⟩
  refine ⟨.non, _, I.lset (its' := its.reverse) hH e (by simp) r.reverse ?_, rfl, q⟩
  rw [List.length_reverse]
  omega

def rClear : V → List V → Hp → VK → Prop := fun x vs H Q => ∃ l xs, x = .ref l ∧ vs = [] ∧ H l = some (.lst xs) ∧ Q .non (upd H l (.lst []))
theorem mt_clear : MtM X "list.clear" rClear := by
  intro pins s σ H x vs v us Q I rx rv h
  obtain ⟨l, xs, rfl, rfl, hH, q⟩ := h
  cases rx
  have hus := rv.zero
  subst hus
  obtain ⟨z, its, n, r, hl, e⟩ := I.lstM hH
  refine call_meets F.slot_list_clear ⟨_, e, rfl⟩ F.entry_list_clear (F.args_list_clear_1 _) (AutoSeq1.list_clear_list_0 l its.toArray n (by rw [List.size_toArray]; omega)) ⟨e, ?_⟩
  exact ⟨.non, _, I.lset (its' := []) (ys := []) hH e rfl .nil (Nat.zero_le _), rfl, q⟩

/-! ### list + list, list += list, list * int -/
def rCat : R2 := fun x y H Q => ∃ l b xs zs, x = .ref l ∧ y = .ref b ∧ H l = some (.lst xs) ∧ H b = some (.lst zs) ∧ xs.length + zs.length ≤ sizeLine ∧ ∀ p, H p = none → Q (.ref p) (upd H p (.lst (xs ++ zs)))
theorem op_cat : OpR X (binaryOp .Add) rCat := by
  intro pins s σ H x y v u Q I rx ry h
  obtain ⟨l, b, xs, zs, rfl, rfl, hH, hB, hz, q⟩ := h
  cases rx
  cases ry
  obtain ⟨z, its, n, r, hl, e⟩ := I.lstM hH
  obtain ⟨z2, its2, n2, r2, hl2, e2⟩ := I.lstM hB
  refine PySem.P.add_list e e2 ?_ (by rw [List.size_toArray, List.size_toArray]; omega)
  have ea : its.toArray ++ its2.toArray = (its ++ its2).toArray := by simp
  rw [ea]
  exact ⟨.ref _, _, I.lnew (t' := s.toks) (r.append r2) (by rw [List.length_append]; omega), rfl, q _ I.fresh⟩
/-- a list times an int (a negative one is nothing) -/
def rRep : R2 := fun x y H Q => ∃ l k xs, x = .ref l ∧ y = .int k ∧ H l = some (.lst xs) ∧ -(2 ^ 63) ≤ k ∧ k < 2 ^ 63 ∧ xs.length * k.toNat ≤ sizeLine ∧
  ∀ p, H p = none → Q (.ref p) (upd H p (.lst (List.replicate k.toNat xs).flatten))
theorem len_rep {α : Type} (xs : List α) (k : Nat) : (List.replicate k xs).flatten.length = k * xs.length := by
  induction k with
  | zero => simp
  | succ k ih => rw [List.replicate_succ, List.flatten_cons, List.length_append, ih, Nat.succ_mul, Nat.add_comm]
theorem op_rep : OpR X (binaryOp .Mult) rRep := by
  intro pins s σ H x y v u Q I rx ry h
  obtain ⟨l, k, xs, rfl, rfl, hH, h1, h2, hz, q⟩ := h
  cases rx
  obtain ⟨t, rfl⟩ := ry
  obtain ⟨z, its, n, r, hl, e⟩ := I.lstM hH
  have hlen : its.toArray.size * k.toNat ≤ sizeLine := by rw [List.size_toArray, ← hl]; exact hz
  have hcap : ¬ its.toArray.size * k.toNat > (2 ^ 63 - 1) / 8 := by
    have : (sizeLine : Nat) ≤ (2 ^ 63 - 1) / 8 := by decide
    omega
  have hfit : ¬ (!Builtin.List.listFitsIndex k) = true := by
    rw [fitsIndex_both h1 h2]
    exact Bool.false_ne_true
  have hlong : ¬ Builtin.List.listTooLong (its.toArray.size * k.toNat) = true := by
    rw [notLongL hlen]
    exact Bool.false_ne_true
  have hnew : List.foldl (fun x1 x2 => x1 ++ x2) #[] (List.replicate (if its.toArray.isEmpty = true then 0 else k.toNat) its.toArray) = (List.replicate k.toNat its).flatten.toArray := by
    have f0 : ∀ m : Nat, List.foldl (fun x1 x2 => x1 ++ x2) #[] (List.replicate m its.toArray) = (List.replicate m its).flatten.toArray := fun m => by
      have := foldl_rep its m []
      rw [List.nil_append] at this
      exact this
    rw [f0]
    cases its with
    | nil => simp
    | cons a r' => rw [if_neg (by simp)]
  refine wpAny_binaryOp_repeat_ref (T := "list") (U := "int") (by decide) ⟨_, e, rfl⟩ (fun s' => typeIs_int s' k t) noFill_list_mul F.fills_int_mul F.slot_int_rmul repeat_list F.slot_int_index.lookup
    (call_meets F.slot_int_rmul (typeIs_int s k t) F.entry_int_rmul (F.args_int_rmul_2 _ _) (int___rmul___int_list k t l its.toArray n)
      ⟨e, rfl, ⟨_, e, rfl⟩, call_meets F.slot_list_mul ⟨_, e, rfl⟩ F.entry_list_mul (F.args_list_mul_2 _ _) (AutoListH.list___mul___list_int_3 l its.toArray n k t hfit hcap hlong) ⟨e, ?_⟩⟩)
  rw [hnew]
  exact ⟨.ref _, _, I.lnew (t' := s.toks) (r.rep k.toNat) (by rw [len_rep, Nat.mul_comm]; exact hz), rfl, q _ I.fresh⟩

/-! ### del xs[i] -/
theorem del_list {pins : List (Addr × Obj)} {s : Shared} {σ : St} {H : Hp} {l : Addr} {xs : List V} {i : Int} {t : Tok} {k : Nat} {Q : Unit → Shared → Prop} (I : Inv X pins σ H s) (hH : H l = some (.lst xs))
    (h1 : -(2 ^ 63) ≤ i) (h2 : i < 2 ^ 63) (hk : seqIndex? i xs.length = some k) (h : ∀ s', Inv X pins σ (upd H l (.lst (xs.eraseIdx k))) s' → Q () s') :
    wpAny (model X.prog X.w) X.A (delItem (.ref l) (.int i t)) Q X.xe s := by
  obtain ⟨z, its, n, r, hl, e⟩ := I.lstM hH
  refine PySem.P.delItem_list (k := k) e (fitsIndex_both h1 h2) (by rw [List.size_toArray, ← hl]; exact hk) (h _ ?_) (by rw [List.size_toArray]; omega)
  refine I.lset (its' := its.eraseIdx k) (t' := s.toks) hH e ?_ (r.eraseIdx k) ?_
  · show its.toArray.eraseIdxIfInBounds k = (its.eraseIdx k).toArray
    rw [List.eraseIdxIfInBounds_toArray]
  · have := len_erase xs k
    omega
end

/-! ### xs[a:b] = ys -/
section
variable {prog : Program} {w : World} {A : Around} {E : Value → Shared → Prop} {s : Shared}
theorem splice_eq (its its2 : List Value) (a c : Nat) : its.toArray.extract 0 a ++ its2.toArray ++ its.toArray.extract c its.toArray.size = (its.take a ++ its2 ++ its.drop c).toArray := by
  apply Array.toList_inj.mp
  first
    | (simp
       exact List.take_of_length_le (by simp))
    | simp [List.take_of_length_le]
    | simp
theorem bounds_run {a c n : Nat} (hac : a ≤ c) (hc : c ≤ n) : sliceBounds (some (a : Int)) (some (c : Int)) none n = ((a : Int), (c : Int), 1) := by
  simp only [sliceBounds, Option.getD_none]
  have h1 : ¬ ((a : Int) < 0) := by omega
  have h2 : ¬ ((c : Int) < 0) := by omega
  simp only [h1, h2, if_false, show (1 : Int) > 0 by decide, if_true]
  congr 1
  · omega
  · congr 1; omega
/-- list.__setitem__ with a slice of step one and another list -/
theorem setItem_slice {l b sl : Addr} {items new : Array Value} {n n2 : Nat} {vl vu : Value} {a c : Nat} {Q : Unit → Shared → Prop}
    (e : s.heap.get? l = some { cls := .type "list", data := .seq items n }) (e2 : s.heap.get? b = some { cls := .type "list", data := .seq new n2 }) (hne : l ≠ b)
    (hs : s.heap.IsSliceOf sl vl vu .none) (pl : IsPart vl (some (a : Int))) (pu : IsPart vu (some (c : Int))) (hac : a ≤ c) (hc : c ≤ items.size)
    (hsz : items.size + new.size ≤ sizeLine) (h : Q () { s with heap := s.heap.update l (Obj.mapSeq fun xs => xs.extract 0 a ++ new ++ xs.extract c xs.size) }) :
    wpAny (model prog w) A (setItem (.ref l) (.ref sl) (.ref b)) Q E s := by
  have hl : s.heap.IsList l items := PySem.IsL.isList e
  have hb : s.heap.IsList b new := PySem.IsL.isList e2
  obtain ⟨os, hos, hcs, hds⟩ := id hs
  have hTs : s.TypeIs (.ref sl) "slice" := ⟨os, hos, hcs⟩
  have hstep : ¬ ((rawPart none == rawInt 0) = true) := Bool.false_ne_true
  have hsame : Builtin.List.listSameRef (.ref l) (.ref b) = false := by
    unfold Builtin.List.listSameRef
    exact beq_eq_false_iff_ne.mpr hne
  have hmax : (max (a : Int) (c : Int)).toNat = c := by omega
  have hz' : ((fun xs : Array Value => xs.extract 0 a ++ new ++ xs.extract c xs.size) items).size ≤ sizeLine + 1 := by
    simp only [Array.size_append, Array.size_extract]
    omega
  unfold setItem
  try with_reducible refine wpAny_holding ?_
  first | refine wpAny_bind (wpAny_pure ?_) | skip
  refine wpAny_bind (wpAny_sequenceKey hl.typeIs (by decide) ?_)
  refine wpAny_bind (wpAny_callSpecial?_slot (name := Str.ofString "__setitem__") hl.typeIs slot_list_setitem
    (wpAny_call_entry slot_list_setitem hl.typeIs entry_list_setitem ?_ (args_list_setitem _ _ _)))
  show wpAny _ _ (Builtin.List.listSubscript? (.ref sl) >>= _) _ _ s
  refine wpAny_bind ?_
  unfold Builtin.List.listSubscript?
  refine wpAny_bind (wpAny_specialOf hTs slice_no_index ?_)
  simp only [Option.isNone_none, if_true]
  refine wpAny_pure ?_
  show wpAny _ _ (typeOf (.ref sl) >>= _) _ _ s
  refine wpAny_bind (wpAny_typeOf hTs ?_)
  first
    | rw [if_neg (by decide)]
    | refine PySem.W.KFB.if_not (by decide) ?_
  rw [listSliceParts_eq]
  refine wpAny_bind (wpAny_bind (wpAny_field hos hds (x := .none) rfl (wpAny_bind (wpAny_listPart .none ?_))))
  rw [if_neg hstep]
  refine wpAny_bind (wpAny_field hos hds (x := vl) rfl (wpAny_bind (wpAny_listPart pl ?_)))
  refine wpAny_bind (wpAny_field hos hds (x := vu) rfl (wpAny_bind (wpAny_listPart pu (wpAny_pure ?_))))
  first
    | simp only [hsame, Bool.false_eq_true, if_false]
    | refine PySem.W.KFB.if_not hsame ?_
    | (dsimp only
       rw [if_neg (by rw [hsame]; exact Bool.false_ne_true)])
  refine wpAny_bind (m := Builtin.List.listAllItems (.ref b) "must assign iterable to extended slice") ?_
  unfold Builtin.List.listAllItems
  refine wpAny_bind (wpAny_typeOf hb.typeIs ?_)
  first
    | refine PySem.W.KFB.if_so (by decide) ?_
    | rw [if_pos (by decide)]
    | simp only [beq_self_eq_true, Bool.true_or, if_true]
  unfold Builtin.List.listItems
  refine wpAny_bind (wpAny_seqItems e2 rfl (wpAny_pure ?_))
  refine wpAny_bind (wpAny_bind (wpAny_seqItems e rfl (wpAny_pure ?_)))
  refine wpAny_bind (wpAny_of_eq ((sliceIndices_raw (some (a : Int)) (some (c : Int)) none items.size (by simp)).trans (congrArg (pure : Int × Int × Int → Sem (Int × Int × Int)) (bounds_run hac hc))) ?_)
  show wpAny _ _ (if ((1 : Int) == 1) = true then _ else _) _ _ s
  rw [if_pos (by decide)]
  refine wpAny_bind (wpAny_rule ?_)
  first
    | simp only [notLongL hsz, Bool.false_eq_true, if_false]
    | refine PySem.W.KFB.if_not (notLongL hsz) ?_
  first | refine wpAny_bind (wpAny_pure ?_) | skip
  show wpAny _ _ (updateSeq l (fun xs => xs.extract 0 ((a : Int)).toNat ++ new ++ xs.extract (max (a : Int) (c : Int)).toNat xs.size) >>= _) _ _ s
  rw [hmax, Int.toNat_natCast]
  refine wpAny_bind (wpAny_updateSeq (hz := Nat.le_trans (Nat.le_add_right _ _) hsz) (_hz' := hz') e rfl ?_)
  refine wpAny_bind (wpAny_letGo ?_)
  first
    | exact wpAny_bind (wpAny_pure (wpAny_pure ⟨.none, rfl, wpAny_pure h⟩))
    | exact wpAny_pure ⟨.none, rfl, wpAny_pure h⟩
end

section
variable {X : Cx}
/-- xs[a:c] = ys of another list, at the value level: sl is the slice object that was just made -/
theorem set_slice {pins : List (Addr × Obj)} {s : Shared} {σ : St} {H : Hp} {l b sl : Addr} {xs ys : List V} {a c : Int} {vl vu : Value} {Q : Unit → Shared → Prop} (I : Inv X pins σ H s)
    (hH : H l = some (.lst xs)) (hB : H b = some (.lst ys)) (hne : l ≠ b) (hs : s.heap.IsSliceOf sl vl vu .none) (ra : RelV (.int a) vl) (rc : RelV (.int c) vu) (h0 : 0 ≤ a) (hac : a ≤ c) (hc : c ≤ xs.length)
    (hz : xs.length + ys.length ≤ sizeLine) (h : ∀ s', Inv X pins σ (upd H l (.lst (xs.take a.toNat ++ ys ++ xs.drop c.toNat))) s' → Q () s') :
    wpAny (model X.prog X.w) X.A (setItem (.ref l) (.ref sl) (.ref b)) Q X.xe s := by
  obtain ⟨ta, rfl⟩ := ra
  obtain ⟨tc, rfl⟩ := rc
  obtain ⟨z, its, n, r, hl, e⟩ := I.lstM hH
  obtain ⟨z2, its2, n2, r2, hl2, e2⟩ := I.lstM hB
  obtain ⟨a', rfl⟩ := Int.eq_ofNat_of_zero_le h0
  obtain ⟨c', rfl⟩ := Int.eq_ofNat_of_zero_le (Int.le_trans h0 hac)
  simp only [Int.toNat_natCast] at h
  refine setItem_slice (a := a') (c := c') e e2 hne hs (.int _ _) (.int _ _) (by omega) (by rw [List.size_toArray]; omega) (by rw [List.size_toArray, List.size_toArray]; omega) (h _ ?_)
  refine I.lset (its' := its.take a' ++ its2 ++ its.drop c') (t' := s.toks) hH e ?_ (Vals.append (Vals.append (r.take _) r2) (r.drop _)) ?_
  · exact splice_eq its its2 a' c'
  · rw [List.length_append, List.length_append, List.length_take, List.length_drop]
    omega
end
end L2

namespace Att
open PySem PySem.W PySem.Calls PyProof.Rows

/-! ### the script -/
theorem ints_of_wellAll {P : Params} {h : Heap} : ∀ (ns : List Int) (vs : List Value), WellAll P h vs (ns.map WData.int) → IntsAre vs ns := by
  intro ns
  induction ns with
  | nil =>
    intro vs w
    rw [List.map_nil] at w
    cases w
    exact .nil
  | cons n ns ih =>
    intro vs w
    rw [List.map_cons] at w
    cases w with
    | cons a b =>
      cases a
      exact .cons _ _ (ih _ b)

theorem script_of {l : OpenLaw} {n : Nat} (hn : l.most = some n) {P : Params} {h : Heap} {args : List WData} {vals : List Value}
    (hpre : l.row.toRowW.claim.pre args = true) (hwl : WellAll P h vals args) :
    ∃ a vs ns, vals = [Value.ref a] ∧ args = [WData.list (ns.map WData.int)] ∧ h.get? a = some { cls := .type "list", data := .seq vs.toArray } ∧ IntsAre vs ns ∧ ns.length ≤ n := by
  have hsh : WShape.hasAll [] args [.list .int] = true := (pre_splitW hpre).1
  have hc : l.pre.holds [] { args := args } = true := (pre_splitW hpre).2
  obtain ⟨d, r, rfl, h1, h2⟩ := hasAllW_cons hsh
  obtain rfl := hasAllW_nil h2
  obtain ⟨xs, rfl, h3⟩ := hasW_list h1
  obtain ⟨ns, rfl⟩ := items_int h3
  have hlen : ns.length ≤ n := by
    unfold OpenLaw.pre at hc
    have h4 : (WTm.not (.lt (.lit (.int (n : Int))) (.len (.arg 0)))).holds [] { args := [.list (ns.map .int)] } = true := by
      have h4 := (holds_andW hc).1
      rw [hn] at h4
      exact h4
    have h5 := condW_of h4 (w_not (w_lt w_lit (w_len_list (w_arg rfl))))
    rw [List.length_map] at h5
    refine Nat.le_of_not_lt fun q => ?_
    have q' : (n : Int) < ((ns.length : Nat) : Int) := by omega
    first
      | (rw [decide_eq_true q'] at h5; exact absurd h5 (by decide))
      | (simp at h5; omega)
  cases hwl with
  | cons w1 w2 =>
    cases w2
    cases w1 with
    | list ho hall => exact ⟨_, _, ns, rfl, rfl, ho, ints_of_wellAll ns _ hall, hlen⟩

theorem post_true (l : OpenLaw) (args : List WData) : l.row.toRowW.claim.post args (.bool true) args = true :=
  postW_of (r := l.row.toRowW) (X := (true == true))
    (show WShape.has [] (.bool true) .bool = true by first | rfl | decide | simp [WShape.has, WShape.arms, WShape.armsAll])
    (show (WTm.eq .res (.lit (.bool true))).value [] { args := args, res := some (.bool true), after := args } = some (.bool (true == true)) from w_eq_bool (w_res rfl) w_lit) rfl

/-! ### the attachment: holds_open's last premise (the goal 'hc' behind k_head) from a wpAny of the law's body -/
theorem attach {l : OpenLaw} {n : Nat} {q : Program} {loose : List Str} {XP : (Str → Option Value) → Heap → Prop} {YP : World → Heap → Prop} {d : DefRec} {x : Str}
    (hn : l.most = some n) (hdf : d.params.defaults = [])
    (hbind : ∀ pm cd doc v : Value, bindArgs (docDef d.name d.params d.body d.scope pm cd doc) ⟨[v], []⟩ = pure [(x, v)])
    (hx : d.scope.names.lookup x = some .local ∨ d.scope.names.lookup x = some .cell)
    (hk : d.scope.kind = .function) (hco : d.scope.isCoroutine = false) (hgen : d.scope.isGenerator = false)
    (body : ∀ (w : World) (s₀ s₁ s : Shared) (mg mb : Str → Option Value) (fa : Addr) (o : Obj) (pm cd doc : Value) (a : Addr) (vs : List Value) (ns : List Int),
      Ground q loose [] XP w s₀ mg mb s₁.heap → YP w s₁.heap →
      s₁.heap.get? fa = some o → o.data = .func (docDef d.name d.params d.body d.scope pm cd doc) → s₁.heap.CodeRec cd d.name → mg d.name = some (.ref fa) →
      s₁.heap.get? a = some { cls := .type "list", data := .seq vs.toArray } → IntsAre vs ns → ns.length ≤ n →
      s.gens = #[] → s.os = s₁.os →
      Fr s₁.heap s₁.heap.objs.size s.heap (bindL (envOfC d.name d.scope s₁.heap.objs.size fa cd).kindOf [(x, .ref a)] fun _ => none) →
      Cl s₁.heap.objs.size (cellsFrom (s₁.heap.objs.size + 1) d.scope.names []) s.heap (bindC (envOfC d.name d.scope s₁.heap.objs.size fa cd).kindOf [(x, .ref a)] fun _ => none) →
      wpAny (model l.prog w) (callerA.deeper (envOfC d.name d.scope s₁.heap.objs.size fa cd)) (execs d.body (envOfC d.name d.scope s₁.heap.objs.size fa cd))
        (fun f s' => f = .ret (.bool true) ∧ OldK s₁.heap s'.heap ∧ s'.os = s₁.os ∧ AllBare s'.gens) (fun _ _ => False) s) :
    WalkO q loose XP YP l.row.toRowW d [] (fun f vs => PySem.call f vs) := by
  intro w s₀ s₁ mg mb G Y fa o pm cd doc dV kV ho hd hcd hD hmg hg args vals as hpre hlay hrd hwl hlo
  obtain rfl : dV = .none := Dflts.none hD hdf
  obtain rfl : kV = .none := Dflts.noKw hD
  obtain ⟨a, vs, ns, rfl, rfl, hobj, hints, hlen⟩ := script_of hn hpre hwl
  refine enter_call ?_
  refine call_cells_ret (o := o) (by rw [depth_caller]; decide) ho (fd_plain hd) G.T.nolimit hcd (hbind pm cd doc (.ref a)) (fun y hy => ?_) (fun h₁ tk F X => ?_) hco hgen hk
  · obtain rfl : y = (x, Value.ref a) := List.mem_singleton.mp hy
    rcases hx with e | e
    · exact .inl e
    · exact .inr ⟨e, cellsFrom_some _ _ _ (.inl e)⟩
  · refine wpAny_mono (body w s₀ s₁ { s₁ with heap := h₁, toks := tk } mg mb fa o pm cd doc a vs ns G Y ho (fd_plain hd) hcd hmg hobj hints hlen hg rfl F X) (fun f s' hq => ?_) (fun _ _ hq => hq)
    obtain ⟨rfl, h2, h3, h4⟩ := hq
    exact ⟨.inl ⟨.bool true, .bool true, [], rfl, fun _ => rfl, .bool true, post_true l _, fun _ => ⟨List.Pairwise.nil, fun _ hm => (nomatch hm)⟩⟩, h2, h3, h4⟩

/-- the same from a codeAny of the CALL (for a layer whose function contracts speak of calls) -/
theorem attach_call {l : OpenLaw} {n : Nat} {q : Program} {loose : List Str} {XP : (Str → Option Value) → Heap → Prop} {YP : World → Heap → Prop} {d : DefRec}
    (hn : l.most = some n) (hdf : d.params.defaults = [])
    (call : ∀ (w : World) (s₀ s₁ : Shared) (mg mb : Str → Option Value) (fa : Addr) (o : Obj) (pm cd doc : Value) (a : Addr) (vs : List Value) (ns : List Int),
      Ground q loose [] XP w s₀ mg mb s₁.heap → YP w s₁.heap →
      s₁.heap.get? fa = some o → o.data = .func (docDef d.name d.params d.body d.scope pm cd doc) → s₁.heap.CodeRec cd d.name → mg d.name = some (.ref fa) →
      s₁.heap.get? a = some { cls := .type "list", data := .seq vs.toArray } → IntsAre vs ns → ns.length ≤ n → s₁.gens = #[] →
      codeAny (model l.prog w) callerA (.call (.ref fa) ⟨[.ref a], []⟩) (fun r s' => r = .ok (.ret (.bool true)) ∧ OldK s₁.heap s'.heap ∧ s'.os = s₁.os ∧ AllBare s'.gens) s₁) :
    WalkO q loose XP YP l.row.toRowW d [] (fun f vs => PySem.call f vs) := by
  intro w s₀ s₁ mg mb G Y fa o pm cd doc dV kV ho hd hcd hD hmg hg args vals as hpre hlay hrd hwl hlo
  obtain rfl : dV = .none := Dflts.none hD hdf
  obtain rfl : kV = .none := Dflts.noKw hD
  obtain ⟨a, vs, ns, rfl, rfl, hobj, hints, hlen⟩ := script_of hn hpre hwl
  refine enter_call (codeAny_mono (call w s₀ s₁ mg mb fa o pm cd doc a vs ns G Y ho (fd_plain hd) hcd hmg hobj hints hlen hg) fun r s' hq => ?_)
  obtain ⟨rfl, h2, h3, h4⟩ := hq
  exact ⟨.inl ⟨.bool true, .bool true, [], rfl, fun _ => rfl, .bool true, post_true l _, fun _ => ⟨List.Pairwise.nil, fun _ hm => (nomatch hm)⟩⟩, h2, h3, h4⟩

/-- the same where the top left finished generators (o_head chose holds_openN): nothing may have changed at all and no generator may be left -/
theorem attachN {l : OpenLaw} {n : Nat} {q : Program} {loose : List Str} {XP : (Str → Option Value) → Heap → Prop} {YP : World → Heap → Prop} {d : DefRec} {x : Str}
    (hn : l.most = some n) (hdf : d.params.defaults = [])
    (hbind : ∀ pm cd doc v : Value, bindArgs (docDef d.name d.params d.body d.scope pm cd doc) ⟨[v], []⟩ = pure [(x, v)])
    (hx : d.scope.names.lookup x = some .local ∨ d.scope.names.lookup x = some .cell)
    (hk : d.scope.kind = .function) (hco : d.scope.isCoroutine = false) (hgen : d.scope.isGenerator = false)
    (body : ∀ (w : World) (s₀ s₁ s : Shared) (mg mb : Str → Option Value) (fa : Addr) (o : Obj) (pm cd doc : Value) (a : Addr) (vs : List Value) (ns : List Int),
      Ground q loose [] XP w s₀ mg mb s₁.heap → YP w s₁.heap →
      s₁.heap.get? fa = some o → o.data = .func (docDef d.name d.params d.body d.scope pm cd doc) → s₁.heap.CodeRec cd d.name → mg d.name = some (.ref fa) →
      s₁.heap.get? a = some { cls := .type "list", data := .seq vs.toArray } → IntsAre vs ns → ns.length ≤ n →
      s.gens = #[] → s.os = s₁.os →
      Fr s₁.heap s₁.heap.objs.size s.heap (bindL (envOfC d.name d.scope s₁.heap.objs.size fa cd).kindOf [(x, .ref a)] fun _ => none) →
      Cl s₁.heap.objs.size (cellsFrom (s₁.heap.objs.size + 1) d.scope.names []) s.heap (bindC (envOfC d.name d.scope s₁.heap.objs.size fa cd).kindOf [(x, .ref a)] fun _ => none) →
      wpAny (model l.prog w) (callerA.deeper (envOfC d.name d.scope s₁.heap.objs.size fa cd)) (execs d.body (envOfC d.name d.scope s₁.heap.objs.size fa cd))
        (fun f s' => f = .ret (.bool true) ∧ (∀ b o, s₁.heap.get? b = some o → s'.heap.get? b = some o) ∧ s'.os = s₁.os ∧ s'.gens = #[]) (fun _ _ => False) s) :
    WalkN q loose XP YP l.row.toRowW d [] (fun f vs => PySem.call f vs) := by
  intro w s₀ s₁ mg mb G Y fa o pm cd doc dV kV ho hd hcd hD hmg hg args vals as hpre hlay hrd hwl hlo
  obtain rfl : dV = .none := Dflts.none hD hdf
  obtain rfl : kV = .none := Dflts.noKw hD
  obtain ⟨a, vs, ns, rfl, rfl, hobj, hints, hlen⟩ := script_of hn hpre hwl
  refine enter_callW ?_
  refine call_cells_ret (o := o) (by rw [depth_caller]; decide) ho (fd_plain hd) G.T.nolimit hcd (hbind pm cd doc (.ref a)) (fun y hy => ?_) (fun h₁ tk F X => ?_) hco hgen hk
  · obtain rfl : y = (x, Value.ref a) := List.mem_singleton.mp hy
    rcases hx with e | e
    · exact .inl e
    · exact .inr ⟨e, cellsFrom_some _ _ _ (.inl e)⟩
  · refine wpAny_mono (body w s₀ s₁ { s₁ with heap := h₁, toks := tk } mg mb fa o pm cd doc a vs ns G Y ho (fd_plain hd) hcd hmg hobj hints hlen hg rfl F X) (fun f s' hq => ?_) (fun _ _ hq => hq)
    obtain ⟨rfl, h2, h3, h4⟩ := hq
    exact ⟨.inl ⟨.bool true, .bool true, [], rfl, fun _ => rfl, .bool true, post_true l _, fun _ => ⟨List.Pairwise.nil, fun _ hm => (nomatch hm)⟩⟩, h2, h3, h4⟩

/-! ### rules over ANY heap (no ledger) from facts about the written part K: the library's own take a ledger (News) for what they write -/
section
variable {prog : Program} {w : World} {A : Around} {E : Value → Shared → Prop} {s : Shared} {K : Frag}

/-- a def of the module, or a method (qual 'C.m'), entered: the frame is the next address; cells behind it -/
theorem call_fn {R : Result → Shared → Prop} {name qual : Str} {params : Arguments} {body : List Stmt} {scope : Scope} {dV kV doc pm cdv ct oc : Value} {an od : Option Addr} {osl : Array (Option Value)} {f : Addr} {args : Args} {binds : List (Str × Value)}
    (X : K.In s.heap) (hlim : s.heap.NoLimit) (ho : K.lookup f = some ⟨oc, od, .func (fnOf name qual params body scope dV kV doc pm an cdv ct), osl⟩) (hcd : codeIn K cdv qual = true) (hroom : A.depth < recursionLimit)
    (hbind : BindsTo s (fnOf name qual params body scope dV kV doc pm an cdv ct) args binds)
    (hkind : (binds.all fun y => scope.names.lookup y.1 == some .local || scope.names.lookup y.1 == some .cell) = true)
    (h : ∀ s₁, InCallC s s.heap.objs.size (bindL (envOfC qual scope s.heap.objs.size f cdv).kindOf binds fun _ => none) (cellsFrom (s.heap.objs.size + 1) scope.names [])
        (bindC (envOfC qual scope s.heap.objs.size f cdv).kindOf binds fun _ => none) s₁ →
      wpAny (model prog w) (A.deeper (envOfC qual scope s.heap.objs.size f cdv)) (execs body (envOfC qual scope s.heap.objs.size f cdv))
        (fun fl s' => R (.ok (.ret (match fl with | .ret v => v | _ => .none))) s')
        (fun e s' => wpAny (model prog w) (A.deeper (envOfC qual scope s.heap.objs.size f cdv)) (leaving (envOfC qual scope s.heap.objs.size f cdv) e) (fun _ s'' => R (.error e) s'') (fun e' s'' => R (.error e') s'') s') s₁)
    (hco : scope.isCoroutine = false) (hgen : scope.isGenerator = false) (hk : scope.kind = .function) : codeAny (model prog w) A (.call (.ref f) args) R s := by
  refine codeAny_call_function hroom (X _ _ ho) rfl hco hgen rfl (codeRec_of X hcd) (hbind _ _ _ _ ?_)
  refine wpAny_newFunctionEnv_cells hk (kindsX hkind _) fun env he s₁ x => ?_
  subst he
  exact ⟨hlim.keeps x.toInCall.keep, codeAny_func (h s₁ x)⟩

/-- C(..): dict at size, instance at size + 1, then __init__ -/
theorem make_obj {R : Result → Shared → Prop} {C fI : Addr} {rest : List Value} {kw : List (Str × Value)}
    (X : K.In s.heap) (hm : makesIn K C = true) (hi : findIn K (.ref C) "__init__" = some (some (.ref fI))) (hf : isFn K (.ref fI) = true)
    (h : codeAny (model prog w) (A.under (.builtin "type.__call__" ⟨.ref C :: rest, kw⟩)) (.call (.ref fI) ⟨.ref (s.heap.objs.size + 1) :: rest, kw⟩) (InitBack (s.heap.objs.size + 1) R)
      { s with heap := (s.heap.push emptyDict).push (instObj C s.heap.objs.size) }) : codeAny (model prog w) A (.call (.ref C) ⟨rest, kw⟩) R s := by
  obtain ⟨hh, g, d, t, os⟩ := s
  exact make_core (makes_of X hm) (looks_findIn X hi) (fun self => bind_fn X self (beq_iff_eq.mp hf)) (.inl rfl) h

/-- x.name where the instance's dict holds the name and the class does not -/
theorem get_field {x C : Addr} {ox : Obj} {es : List DictEntry} {n : Nat} {name : Str} {expr : Bool} {v : Value} {Q : Value → Shared → Prop}
    (X : K.In s.heap) (I : PySem.W.InstAt s.heap x ox C (some (dictOf es n))) (hg : plainGet K C name = true) (hh : hasDictIn K C = true) (ha : findIn K (.ref C) name = some none)
    (hl : getL name es = some (some v)) (hv : handedIn v = true) (h : Q v { s with toks := s.toks + 1 }) : wpAny (model prog w) A (getAttr (.ref x) name expr) Q E s :=
  get_value X I (plainGet_of hg).1 (findObj_own hh ha rfl hl) hv h

/-- x.m(..): the method found in the class -/
theorem get_method {x C f : Addr} {ox : Obj} {es : List DictEntry} {n : Nat} {name : Str} {pl : Sem Bool} {Q : Value × List Value → Shared → Prop}
    (X : K.In s.heap) (I : PySem.W.InstAt s.heap x ox C (some (dictOf es n))) (hg : plainGet K C name = true) (hf : findIn K (.ref C) name = some (some (.ref f))) (ht : isFn K (.ref f) = true)
    (hl : getL name es = some none) (h : Q (.ref f, [.ref x]) s) : wpAny (model prog w) A (getMethod (.ref x) name pl) Q E s :=
  method_fn X I (plainGet_of hg).1 (plainGet_of hg).2 hf (beq_iff_eq.mp ht) (by show (lookIn name (dictOf es n)).map _ = _; rw [lookIn_dict, hl]; rfl) h

/-! the whole heap as the ledger: makes every rule that writes through a ledger a rule over any heap -/
def noObjs (h : Heap) : Heap := { h with objs := #[] }
theorem noObjs_get (h : Heap) (b : Addr) : (noObjs h).get? b = none := by
  cases e : (noObjs h).get? b with
  | none => rfl
  | some o => exact absurd (Heap.lt_size e) (Nat.not_lt_zero _)
def ledger (h : Heap) (L d : Addr) : List (Addr × Obj) := (List.range h.objs.size).filterMap fun a => if a = L ∨ a = d then none else (h.get? a).map fun o => (a, o)
theorem mem_ledger {h : Heap} {L d a : Addr} {o : Obj} : (a, o) ∈ ledger h L d ↔ a ≠ L ∧ a ≠ d ∧ h.get? a = some o := by
  unfold ledger
  rw [List.mem_filterMap]
  constructor
  · rintro ⟨b, _, e⟩
    split at e
    · cases e
    · rename_i hb
      obtain ⟨o', ho, e'⟩ := Option.map_eq_some_iff.mp e
      cases e'
      exact ⟨fun q => hb (.inl q), fun q => hb (.inr q), ho⟩
  · rintro ⟨n1, n2, ho⟩
    refine ⟨a, List.mem_range.mpr (Heap.lt_size ho), ?_⟩
    rw [if_neg (show ¬ (a = L ∨ a = d) from fun q => q.elim n1 n2), ho] <;> rfl
theorem news_ledger {h : Heap} {L d : Addr} {od : Obj} (hne : d ≠ L) (ho : h.get? d = some od) : News (noObjs h) L h ([] ++ (d, od) :: ledger h L d) := by
  rintro ⟨a, o⟩ hp
  rcases List.mem_cons.mp hp with e | hp
  · cases e
    exact ⟨ho, hne, noObjs_get _ _⟩
  · obtain ⟨n1, n2, e⟩ := mem_ledger.mp hp
    exact ⟨e, n1, noObjs_get _ _⟩
theorem fr_all {h : Heap} {L : Addr} {m : Str → Option Value} (n : h.Ns L m) : Fr (noObjs h) L h m :=
  ⟨n, fun b o e => (by rw [noObjs_get] at e; cases e), Nat.zero_le _⟩
/-- Upd of the head entry (for append_K, setItem_K ..) -/
theorem upd_ledger {h : Heap} {L d : Addr} {o o' : Obj} : Upd d o o' ((d, o) :: ledger h L d) ((d, o') :: ledger h L d) :=
  .head fun ⟨_, _⟩ hp => (mem_ledger.mp hp).2.1

/-- x.name = v over any heap: L is any namespace of the heap (the frame's, say): its map stays, its object is not told; all else but the dict stays -/
theorem set_field {x C dx L : Addr} {ox : Obj} {m : Str → Option Value} {es es' : List DictEntry} {n n' : Nat} {name : Str} {v : Value} {Q : Unit → Shared → Prop}
    (X : K.In s.heap) (I : PySem.W.InstAt s.heap x ox C (some (dictOf es n))) (hd : ox.dict = some dx) (hL : s.heap.Ns L m) (hne : dx ≠ L)
    (hs : findIn K (.ref C) "__setattr__" = some (some (.builtin "object.__setattr__"))) (hp : plainOver K C = true) (ht : takerIn K C name = some none) (hh : hasDictIn K C = true) (hl : (getL name es).isSome = true)
    (e : (putL name (PyData.keyHash w.params name) (.str name (s.toks + 1)) v es, putN name es n) = (es', n')) (hz : es'.length ≤ 1000)
    (h : ∀ h' : Heap, h'.Ns L m → h'.get? dx = some (dictOf es' n') → (∀ b o, b ≠ dx → b ≠ L → s.heap.get? b = some o → h'.get? b = some o) → Q () { s with heap := h', toks := s.toks + 2 }) :
    wpAny (model prog w) A (setAttr (.ref x) name v) Q E s := by
  obtain ⟨e1, e2⟩ := Prod.mk.inj e
  have hdx : s.heap.get? dx = some (dictOf es n) := by
    have := I.dict
    rw [hd] at this
    exact this
  refine set_plain X I hs (osa_dict (s := { s with toks := s.toks + 1 }) (h₀ := noObjs s.heap) (L := L) (m := m) (od := dictOf es n) (od' := dictOf es' n') (es := es') (n := n') (pre := []) (post := ledger s.heap L dx)
    (fr_all hL) (news_ledger hne hdx) X I hd hp ht hh hl (fun _ q => nomatch q) (fun ⟨_, _⟩ q => (mem_ledger.mp q).2.1) (by rw [putName_dict, e1, e2]) rfl hz fun h' F' N' => ?_)
  exact h h' F'.ns (N'.get (List.Mem.head _)) fun b o n1 n2 ho => N'.get (List.Mem.tail _ (mem_ledger.mpr ⟨n2, n1, ho⟩))
end
end Att

namespace L2
open PySem PySem.Spec PyProof.Rows

theorem vals_ints : ∀ {vs : List Value} {ns : List Int}, IntsAre vs ns → Vals (ns.map V.int) vs
  | _, _, .nil => .nil
  | _, _, .cons n t h => .cons ⟨t, rfl⟩ (vals_ints h)

/-- nothing is tracked but the script, known to the object (or it is an object of the module) -/
def Only (H : Hp) : Prop := ∀ b, H b = none ∨ ∃ o xs, H b = some (.frz o (.lst xs))

/-- THE HEAD: the law's promise, at the heap behind the top. F, the promise of the law's def, may use that base is part of the heap (so K.In base, base.Ns mainGlobals mg stand in Mod) -/
theorem law_call {P : Program} {w : World} {K : PySem.W.Frag} {mg mb : Str → Option Value} {CX : CXT} {k : Nat} {fa a : Addr} {fd : FuncData} {x : Str} {sp : Sp} {s₁ : Shared} {vs : List Value} {ns : List Int}
    (KX : K.In s₁.heap) (hns : s₁.heap.Ns mainGlobals mg) (hb : s₁.heap.Ns builtinsNs mb) (hbb : ∀ x : Str, x ≠ "__name__" → mb x = bootBuiltins x) (hlim : s₁.heap.NoLimit) (hg : s₁.gens = #[])
    (ha : s₁.heap.get? a = some { cls := .type "list", data := .seq vs.toArray }) (hi : IntsAre vs ns) (hl : ns.length ≤ sizeLine) (hr : Room k callerA)
    (F : ∀ base : Heap, K.In base → base.Ns mainGlobals mg → FnOk P w K mg base CX k fa fd [x] sp) (hbind : ∀ (s : Shared) (u : Value), BindsTo s fd ⟨[u], []⟩ [(x, u)])
    (hsp : ∀ H : Hp, Only H → SqL K H a (ns.map V.int) → sp [.ref a] H (fun v _ => v = .bl true) fun _ _ _ => False)
    (hCX : ∀ H e s', CX [] H s₁ (fun _ _ _ => False) e s' → False) :
    codeAny (model P w) callerA (.call (.ref fa) ⟨[.ref a], []⟩) (fun r s' => r = .ok (.ret (.bool true)) ∧ OldK s₁.heap s'.heap ∧ s'.os = s₁.os ∧ AllBare s'.gens) s₁ := by
  have rv := vals_ints hi
  have lenV := hi.length
  -- from an abstract heap in which nothing but the script may be tracked
  have core : ∀ H : Hp, Only H → SqL K H a (ns.map V.int) → HOk P w H s₁.heap → (∀ b, H b ≠ none → b = a) → (H a ≠ none → K.lookup a = none) →
      codeAny (model P w) callerA (.call (.ref fa) ⟨[.ref a], []⟩) (fun r s' => r = .ok (.ret (.bool true)) ∧ OldK s₁.heap s'.heap ∧ s'.os = s₁.os ∧ AllBare s'.gens) s₁ := by
    intro H hO hS hok hA hK
    have base_of : ∀ {b : Addr} {o : Obj}, s₁.heap.get? b = some o → H b = none → (hidT s₁.heap H).get? b = some o := fun e n => hidT_get e n
    have noA : ∀ {b : Addr} {o : Obj} {es : Array DictEntry} {ep : Nat}, s₁.heap.get? b = some o → o.data = .dict es ep → H b = none := fun {b o es ep} e d => by
      cases q : H b with
      | none => rfl
      | some u =>
        have e' : b = a := hA b (by rw [q]; simp)
        subst e'
        rw [ha] at e; cases e
        have d' : Data.seq vs.toArray _ = Data.dict es ep := d
        cases d'
    have nsK : ∀ {b : Addr} {m : Str → Option Value}, s₁.heap.Ns b m → (hidT s₁.heap H).Ns b m := fun {b m} ⟨o, es, ep, e, d, r⟩ => ⟨o, es, ep, base_of e (noA e d), d, r⟩
    have hKb : K.In (hidT s₁.heap H) := fun b o e => base_of (KX b o e) (by
      cases q : H b with
      | none => rfl
      | some u =>
        have e' : b = a := hA b (by rw [q]; simp)
        subst e'
        rw [hK (by rw [q]; simp)] at e; cases e)
    have hM : Mod K mg (hidT s₁.heap H) := ⟨hKb, nsK hns, ⟨mb, nsK hb, hbb⟩, let ⟨mc, h1, h2⟩ := hlim; ⟨mc, nsK h1, h2⟩⟩
    have e0 : Env0 P w K mg (hidT s₁.heap H) callerA [] s₁ H := ⟨rfl, hM, fun b o e => of_hidT e, Nat.le_of_eq (hidT_size _ _), trivial, fun b hb => absurd (show b ∈ ([] : List Addr) from hb) (by simp), hok, .of_eq hg⟩
    refine codeAny_mono ((F _ hKb (nsK hns)).run callerA [] s₁ H ⟨[.ref a], []⟩ [.ref a] [.ref a] _ _ hr e0 (hbind s₁ (.ref a)) (.cons rfl .nil) (hsp H hO hS)) fun r s' h => ?_
    cases r with
    | error e => exact (hCX H e s' h).elim
    | ok fl =>
      cases fl with
      | next => exact False.elim h
      | brk => exact False.elim h
      | cont => exact False.elim h
      | ret u =>
        obtain ⟨v, H', os, bare, un, hok', r', q⟩ := h
        have q' : v = .bl true := q
        subst q'
        obtain rfl : u = Value.bool true := r'
        refine ⟨rfl, OldK.of_keep fun b o e => ?_, os, bare⟩
        cases q : H b with
        | none => exact un.keep b o e q (by intro z; exact absurd (show b ∈ ([] : List Addr) from z) (by simp)) (by simp)
        | some u =>
          rcases hO b with z | ⟨ob, xs, z⟩
          · rw [q] at z; cases z
          · have z2 := un.frzs b ob _ z
            obtain ⟨e1, _⟩ := hok b _ z
            obtain ⟨e2, _⟩ := hok' b _ z2
            rw [e] at e1; cases e1
            exact e2
  cases hk : K.lookup a with
  | some o =>
    -- the script is one of the module's own objects
    have e := KX a o hk
    rw [ha] at e
    cases e
    refine core (fun _ => none) (fun _ => .inl rfl) (.inr ⟨_, vs.toArray, _, hk, rfl, rfl, rfl, by rw [List.size_toArray, lenV]; exact hl, by simpa using rv⟩) (fun b u z => by have z' : (none : Option HO) = some u := z; cases z') (fun b z => absurd rfl z) fun z => absurd rfl z
  | none =>
    refine core (fun b => if b = a then some (.frz { cls := .type "list", data := .seq vs.toArray } (.lst (ns.map V.int))) else none) (fun b => ?_) (.inl (.inr ⟨{ cls := .type "list", data := .seq vs.toArray }, if_pos rfl⟩)) (fun b u z => ?_) (fun b z => ?_) fun _ => hk
    · by_cases hb : b = a
      · exact .inr ⟨_, _, if_pos hb⟩
      · exact .inl (if_neg hb)
    · by_cases hb : b = a
      · have z' := (if_pos hb).symm.trans z
        cases z'
        subst hb
        exact ⟨ha, by rw [List.length_map]; exact hl, vs, _, rv, ha⟩
      · have z' := (if_neg hb).symm.trans z
        cases z'
    · by_cases hb : b = a
      · exact hb
      · exact absurd (if_neg hb) z
end L2

namespace L2
open PySem PySem.Spec PyProof.Rows

abbrev KOf {K : PySem.W.Frag} {h : Heap} (_ : K.In h) : PySem.W.Frag := K

/-- the goal that k_head leaves (case hc), from the law's promise. F gives the function object fd (K's own) once, then the promise over every base -/
theorem walk_of {l : PySem.W.OpenLaw} {n k : Nat} {q : Program} {loose : List Str} {XP : (Str → Option Value) → Heap → Prop} {YP : World → Heap → Prop} {d : DefRec} {K : Params → PySem.W.Frag} {CX : World → CXT} {sp : World → Sp} {x : Str}
    (hn : l.most = some n) (hn2 : n ≤ sizeLine) (hdf : d.params.defaults = []) (hr : Room k callerA)
    (hY : ∀ (w : World) (h : Heap), YP w h → (K w.params).In h)
    (F : ∀ (w : World) (mg : Str → Option Value) (fa : Addr) (h : Heap), (K w.params).In h → h.Ns mainGlobals mg → mg d.name = some (.ref fa) →
      ∃ fd : FuncData, (∀ (s : Shared) (u : Value), BindsTo s fd ⟨[u], []⟩ [(x, u)]) ∧
        ∀ base : Heap, (K w.params).In base → base.Ns mainGlobals mg → FnOk l.prog w (K w.params) mg base (CX w) k fa fd [x] (sp w))
    (hsp : ∀ (w : World) (H : Hp) (a : Addr) (ns : List Int), ns.length ≤ n → Only H → SqL (K w.params) H a (ns.map V.int) → sp w [.ref a] H (fun v _ => v = .bl true) fun _ _ _ => False)
    (hCX : ∀ (w : World) (H : Hp) (s : Shared) (e : Value) (s' : Shared), CX w [] H s (fun _ _ _ => False) e s' → False) :
    PySem.W.WalkO q loose XP YP l.row.toRowW d [] (fun f vs => PySem.call f vs) := by
  refine Att.attach_call hn hdf fun w s₀ s₁ mg mb fa o pm cd doc a vs ns G Y ho hd hcd hmg hobj hints hlen hg => ?_
  have KX := hY w _ Y
  obtain ⟨fd, hb, hF⟩ := F w mg fa _ KX G.T.g hmg
  exact law_call KX G.T.g G.T.b G.T.builtins G.T.nolimit hg hobj hints (Nat.le_trans hlen hn2) hr hF hb (fun H hO hS => hsp w H a ns hlen hO hS) fun H e s' => hCX w H s₁ e s'
/-- the same where the promise hangs on the written part alone: (sp := My.sp_law), no hole under a binder -/
theorem walk_ofK {l : PySem.W.OpenLaw} {n k : Nat} {q : Program} {loose : List Str} {XP : (Str → Option Value) → Heap → Prop} {YP : World → Heap → Prop} {d : DefRec} {K : Params → PySem.W.Frag} {CX : CXT} {sp : PySem.W.Frag → Sp} {x : Str}
    (hn : l.most = some n) (hn2 : n ≤ sizeLine) (hdf : d.params.defaults = []) (hr : Room k callerA)
    (hY : ∀ (w : World) (h : Heap), YP w h → (K w.params).In h)
    (F : ∀ (w : World) (mg : Str → Option Value) (fa : Addr) (h : Heap), (K w.params).In h → h.Ns mainGlobals mg → mg d.name = some (.ref fa) →
      ∃ fd : FuncData, (∀ (s : Shared) (u : Value), BindsTo s fd ⟨[u], []⟩ [(x, u)]) ∧
        ∀ base : Heap, (K w.params).In base → base.Ns mainGlobals mg → FnOk l.prog w (K w.params) mg base CX k fa fd [x] (sp (K w.params)))
    (hsp : ∀ (K : PySem.W.Frag) (H : Hp) (a : Addr) (ns : List Int), ns.length ≤ n → Only H → SqL K H a (ns.map V.int) → sp K [.ref a] H (fun v _ => v = .bl true) fun _ _ _ => False)
    (hCX : ∀ (H : Hp) (s : Shared) (e : Value) (s' : Shared), CX [] H s (fun _ _ _ => False) e s' → False) :
    PySem.W.WalkO q loose XP YP l.row.toRowW d [] (fun f vs => PySem.call f vs) :=
  walk_of (K := K) (CX := fun _ => CX) (sp := fun w => sp (K w.params)) hn hn2 hdf hr hY F (fun w H a ns h1 h2 h3 => hsp (K w.params) H a ns h1 h2 h3) fun _ H s e s' => hCX H s e s'
end L2

/- THE LAST THEOREM (shape; LID, My.* are yours):
   My.Adr: a structure of the addresses that your layer names (classes, functions); My.Txt K t: a structure (Prop) of the equations over K;
   My.txt_mk : {K} {implicit addresses ..} (e1 : nsIn K mainGlobals "law" = some (some (.ref f))) (e2 : K.lookup f = some ⟨oc, od, .func (fnOf "law" "law" params body scope dV kV doc pm an cdv ct), sl⟩) (e3 : codeIn K cdv "law" = true) .. : ∃ t, My.Txt K t

set_option maxHeartbeats 0 in
theorem PySem.Challenge.cw_LID_holds : PySem.Challenge.rw_LID.Holds := by
  w_on; o_law; k_head; (case hw => w_witness2)
  k_fill
  refine L2.walk_of (l := PySem.Challenge.rw_LID) (n := 63) (k := 40) (x := "script") (CX := fun w => ..) (sp := fun _ => My.sp_law) rfl (by decide) rfl ⟨rfl, by decide, by decide⟩ (fun w h Y => PySem.W.kIn_of Y) ?F ?S ?C
  case F =>
    intro w mg fa h KX G hmg
    have T : ∃ t, My.Txt (L2.KOf KX) t := by
      dsimp only [L2.KOf]                          -- K must stand as «<heap const> w.params» for k_is
      refine' My.txt_mk ?e1 ?e2 ?e3 ..
      (case e1 => PySem.W.k_is)                    -- in the order: a name -> its address -> its object -> its parts
      (case e2 => PySem.W.k_is)
      ..
    obtain ⟨t, T⟩ := T
    have e0 := hmg.symm.trans (PySem.W.mg_of KX G T.law)
    cases e0                                       -- fa is the law's own address
    exact ⟨_, fun s u => .of_eq rfl, fun base kb nb => My.law_fn T kb nb⟩     -- if «.of_eq rfl» comes too early: refine' ⟨_, ?b, fun base kb nb => My.law_fn T kb nb⟩; exact fun s u => .of_eq rfl
  case S => exact fun w H a ns hl hO hS => ..
  case C => exact ..
(the tactic k_is has no namespace: write k_is) -/

/-! SHORT WORDS over the layer: a def of the text, its body, what a loop and a test want. -/
namespace L2
open PySem PySem.Spec PyProof.Rows

/-! ### the text by places -/
/-- the j-th statement of a class's body -/
def inClass (s : Stmt) (j : Nat) : Stmt := match s with
  | .ClassDef _ _ _ body _ _ _ _ _ _ _ => body.getD j (.Pass ⟨0, 0, 0, 0⟩)
  | _ => .Pass ⟨0, 0, 0, 0⟩
def defArgs (s : Stmt) : Arguments := match s with
  | .FunctionDef _ a _ _ _ _ _ _ _ _ => a
  | _ => { posonlyargs := [], args := [], vararg := none, kwonlyargs := [], kw_defaults := [], kwarg := none, defaults := [] }
def defBody (s : Stmt) : List Stmt := match s with
  | .FunctionDef _ _ b _ _ _ _ _ _ _ => b
  | _ => []
def defScope (s : Stmt) : Scope := match s with
  | .FunctionDef _ _ _ _ _ _ sc _ _ _ => sc
  | _ => { kind := .function, names := [], isGenerator := false, isCoroutine := false }

/-! ### no exception leaves a def -/
abbrev CX0 : CXT := fun _ _ _ _ _ _ => False
abbrev E0 : XK := fun _ _ _ => False
theorem pass0 {X : Cx} : Passes CX0 X E0 := fun _ _ _ _ _ _ _ h => h.elim

/-! ### a def (or method) of the text as it stands behind the top -/
structure Fun (K : PySem.W.Frag) (x qual : Str) (st : Stmt) (f : Addr) (fd : FuncData) : Prop where
  ex : ∃ (oc : Value) (od : Option Addr) (kV doc pm : Value) (an : Option Addr) (cdv ct : Value) (osl : Array (Option Value)),
    fd = PySem.W.fnOf x qual (defArgs st) (defBody st) (defScope st) .none kV doc pm an cdv ct ∧ K.lookup f = some ⟨oc, od, .func fd, osl⟩ ∧ PySem.W.codeIn K cdv qual = true
  kp : PySem.W.keepIn K (.ref f) = true
section
variable {P : Program} {w : World} {K : PySem.W.Frag} {mg : Str → Option Value} {base : Heap}
/-- THE RULE for a def: its body as a term of rules, and the reading of that term -/
theorem Fun.ok {x qual : Str} {st : Stmt} {f : Addr} {fd : FuncData} {N ps : List Str} {k : Nat} {sp : Sp} (F : Fun K x qual st f fd) (S : FnScope N ps (defScope st)) (len : ∀ vs H Q E, sp vs H Q E → vs.length = ps.length)
    (hbody : ∀ (cdv : Value) (A : Around) (outer : List Env) (s : Shared) (H : Hp) (vs : List V) (Q : VK) (E : XK), Room k (A.deeper (envOfC qual (defScope st) s.heap.objs.size f cdv)) → sp vs H Q E →
      ∃ t, PSs (cxOf CX0 P w K mg base N qual (defScope st) f cdv A outer s H E).nox (defBody st) t ∧ t { nx := fun _ H' => Q .non H', rt := Q } (start N vs) H) : FnOk P w K mg base CX0 (k + 1) f fd ps sp := by
  obtain ⟨oc, od, kV, doc, pm, an, cdv, ct, osl, rfl, lk, hcd⟩ := F.ex
  refine fn_of lk hcd S len fun A outer s H vs Q E hr hsp => ?_
  obtain ⟨t, h, q⟩ := hbody cdv A outer s H vs Q E hr hsp
  exact ⟨t, h.nox, q⟩
/-- how its arguments bind (no defaults): h is «fun _ _ _ _ _ _ us hl => match us, hl with | [_, _], _ => rfl», one _ a parameter -/
theorem Fun.binds {x qual : Str} {st : Stmt} {f : Addr} {fd : FuncData} {ps : List Str} (F : Fun K x qual st f fd)
    (h : ∀ (kV doc pm : Value) (an : Option Addr) (cdv ct : Value) (us : List Value), us.length = ps.length → bindArgs (PySem.W.fnOf x qual (defArgs st) (defBody st) (defScope st) .none kV doc pm an cdv ct) ⟨us, []⟩ = pure (ps.zip us)) : Binds K fd ps [] := by
  obtain ⟨oc, od, kV, doc, pm, an, cdv, ct, osl, rfl, lk, hcd⟩ := F.ex
  exact .all (h kV doc pm an cdv ct)
theorem fun_mk {x qual : Str} {st : Stmt} {f : Addr} {oc : Value} {od an : Option Addr} {osl : Array (Option Value)} {kV doc pm cdv ct : Value} (l : K.lookup f = some ⟨oc, od, .func (PySem.W.fnOf x qual (defArgs st) (defBody st) (defScope st) .none kV doc pm an cdv ct), osl⟩)
    (c : PySem.W.codeIn K cdv qual = true) (k : PySem.W.keepIn K (.ref f) = true) : Fun K x qual st f (PySem.W.fnOf x qual (defArgs st) (defBody st) (defScope st) .none kV doc pm an cdv ct) := ⟨⟨oc, od, kV, doc, pm, an, cdv, ct, osl, rfl, l, c⟩, k⟩
end
theorem hu_of {A : Around} {k : Nat} (hr : Room k A) : A.units + 1 < cLine := Nat.lt_of_le_of_lt (Nat.add_le_add_left (by decide : 1 ≤ 64) _) hr.units
theorem small1000 {n : Nat} (h : n ≤ 1000) : n < sizeLine := Nat.lt_of_le_of_lt h (by decide)

/-! ### expressions in short: the name that stands in the i-th slot -/
section
variable {X : Cx}
theorem pv (i : Nat) {x : Str} {pos : Pos} (hN : X.N[i]? = some x := by rfl) (hv : Vis X.env.scope x := by first | exact Or.inl rfl | exact Or.inr (Or.inl rfl) | exact Or.inr (Or.inr rfl)) (hd : (x == ("__debug__" : Str)) = false := by decide)
    (hcd : (x == ("__classdict__" : Str)) = false := by decide) : PE X (.Name x pos) (tVar i) := pe_var hN hv hd hcd
end

/-! ### tests -/
theorem iteF {A B : Prop} (h : B) : if false = true then A else B := by
  rw [if_neg Bool.false_ne_true]
  exact h
theorem iteT {A B : Prop} (h : A) : if true = true then A else B := by
  rw [if_pos rfl]
  exact h
theorem ite2 {c A B : Prop} [Decidable c] (h1 : c → A) (h2 : ¬ c → B) : if c then A else B := by
  by_cases h : c
  · rw [if_pos h]
    exact h1 h
  · rw [if_neg h]
    exact h2 h
theorem iteNS {c A B : Prop} [Decidable c] (hc : c) (h : B) : if (!decide c) = true then A else B := by
  rw [decide_eq_true hc]
  exact iteF h

/-! ### heaps -/
/-- all that was tracked is as it was -/
def Same (H H' : Hp) : Prop := ∀ b o, H b = some o → H' b = some o
theorem Same.refl (H : Hp) : Same H H := fun _ _ h => h
theorem Same.trans {H H1 H2 : Hp} (a : Same H H1) (b : Same H1 H2) : Same H H2 := fun c o h => b c o (a c o h)
theorem Same.free {H H' : Hp} (e : Same H H') {l : Addr} (h : H' l = Option.none) : H l = Option.none := by
  cases q : H l with
  | none => rfl
  | some o =>
    rw [e l o q] at h
    cases h
theorem Same.seq {K : PySem.W.Frag} {H H' : Hp} {a : Addr} {xs : List V} (e : Same H H') (h : SqL K H a xs) : SqL K H' a xs := by
  rcases h with (h | ⟨o, h⟩) | h
  · exact .inl (.inl (e _ _ h))
  · exact .inl (.inr ⟨o, e _ _ h⟩)
  · exact .inr h

end L2

namespace L2
open PySem PySem.Spec PyProof.Rows

/-! ### lists of pairs as tables -/
section
variable {κ : Type} [DecidableEq κ]
def valV (kvs : List (κ × V)) (k : κ) : Option V := (kvs.find? fun kv => decide (kv.1 = k)).map (·.2)
/-- in its place, or at the end -/
def putK (kvs : List (κ × V)) (k : κ) (v : V) : List (κ × V) :=
  if (kvs.any fun kv => decide (kv.1 = k)) = true then kvs.map (fun kv => if kv.1 = k then (kv.1, v) else kv) else kvs ++ [(k, v)]
def dropK (kvs : List (κ × V)) (k : κ) : List (κ × V) := kvs.filter fun kv => decide (kv.1 ≠ k)

theorem valV_nil {k : κ} : valV ([] : List (κ × V)) k = none := rfl
theorem valV_pos {p : κ × V} {r : List (κ × V)} {k : κ} (e : p.1 = k) : valV (p :: r) k = some p.2 := by simp [valV, List.find?_cons, e]
theorem valV_neg {p : κ × V} {r : List (κ × V)} {k : κ} (e : ¬ p.1 = k) : valV (p :: r) k = valV r k := by simp [valV, List.find?_cons, e]
theorem valV_any (k : κ) : ∀ kvs : List (κ × V), (kvs.any fun kv => decide (kv.1 = k)) = (valV kvs k).isSome
  | [] => rfl
  | p :: r => by
    rw [List.any_cons]
    by_cases e : p.1 = k
    · simp only [valV_pos e, decide_eq_true e, Bool.true_or, Option.isSome_some]
    · rw [valV_neg e, decide_eq_false e, Bool.false_or]; exact valV_any k r
theorem valV_map (k j : κ) (y : V) : ∀ kvs : List (κ × V), valV (kvs.map fun kv => if kv.1 = k then (kv.1, y) else kv) j = (valV kvs j).map fun x => if j = k then y else x
  | [] => rfl
  | p :: r => by
    have ih := valV_map k j y r
    rw [List.map_cons]
    by_cases h : p.1 = k
    · rw [if_pos h]
      by_cases e : p.1 = j
      · rw [valV_pos (p := (p.1, y)) e, valV_pos e, Option.map_some, if_pos (e.symm.trans h)]
      · rw [valV_neg (p := (p.1, y)) e, valV_neg e, ih]
    · rw [if_neg h]
      by_cases e : p.1 = j
      · rw [valV_pos (p := p) e, valV_pos e, Option.map_some, if_neg (fun z => h (e.trans z))]
      · rw [valV_neg (p := p) e, valV_neg e, ih]
theorem valV_snoc (k j : κ) (y : V) : ∀ kvs : List (κ × V), valV kvs k = none → valV (kvs ++ [(k, y)]) j = if j = k then some y else valV kvs j
  | [], _ => by
    by_cases e : k = j
    · rw [if_pos e.symm]; exact valV_pos (p := (k, y)) e
    · rw [if_neg (fun z => e z.symm)]; exact valV_neg (p := (k, y)) e
  | p :: r, hn => by
    rw [List.cons_append]
    have hk : ¬ p.1 = k := fun z => by rw [valV_pos z] at hn; cases hn
    rw [valV_neg hk] at hn
    have ih := valV_snoc k j y r hn
    by_cases e : p.1 = j
    · rw [valV_pos e, valV_pos e, if_neg (fun z => hk (e.trans z))]
    · rw [valV_neg e, valV_neg e, ih]
theorem valV_put (kvs : List (κ × V)) (k j : κ) (y : V) : valV (putK kvs k y) j = if j = k then some y else valV kvs j := by
  unfold putK
  by_cases a : (kvs.any fun kv => decide (kv.1 = k)) = true
  · rw [if_pos a, valV_map]
    rw [valV_any] at a
    by_cases e : j = k
    · obtain ⟨x, hx⟩ := Option.isSome_iff_exists.mp a
      rw [if_pos e, e, hx, Option.map_some, if_pos rfl]
    · rw [if_neg e]
      cases valV kvs j with
      | none => rfl
      | some x => rw [Option.map_some, if_neg e]
  · rw [if_neg a]
    refine valV_snoc k j y kvs ?_
    rw [valV_any] at a
    cases q : valV kvs k with
    | none => rfl
    | some x => rw [q] at a; exact (a rfl).elim
theorem length_putK (kvs : List (κ × V)) (k : κ) (v : V) : (putK kvs k v).length ≤ kvs.length + 1 := by
  unfold putK
  split
  · rw [List.length_map]; omega
  · rw [List.length_append, List.length_cons, List.length_nil]; omega
theorem putK_new {kvs : List (κ × V)} {k : κ} (v : V) (h : valV kvs k = none) : putK kvs k v = kvs ++ [(k, v)] := by
  unfold putK
  rw [valV_any, h]
  exact if_neg (by decide)

theorem RelO.isSome_eq {o : Option V} {u : Option Value} (r : RelO o u) : o.isSome = u.isSome := by
  cases o with
  | none => cases u with
    | none => rfl
    | some _ => exact (show False from r).elim
  | some _ => cases u with
    | none => exact (show False from r).elim
    | some _ => rfl
theorem RelO.getD {o : Option V} {u : Option Value} {d : V} {d' : Value} (r : RelO o u) (rd : RelV d d') : RelV (o.getD d) (u.getD d') := by
  cases o with
  | none => cases u with
    | none => exact rd
    | some _ => exact (show False from r).elim
  | some _ => cases u with
    | none => exact (show False from r).elim
    | some _ => exact r

/-- raw tables of the same keys -/
theorem KV.val {kvs : List (κ × V)} {vs : List (κ × Value)} (r : KV kvs vs) (k : κ) : RelO (valV kvs k) (valueAt vs k) := by
  unfold KV at r
  induction r with
  | nil => exact True.intro
  | @cons p q ps qs h t ih =>
    obtain ⟨h1, h2⟩ := h
    by_cases e : p.1 = k
    · have e' : q.1 = k := h1.symm.trans e
      have b : valueAt (q :: qs) k = some q.2 := by simp [valueAt, List.find?_cons, e']
      rw [valV_pos e, b]; exact h2
    · have e' : ¬ q.1 = k := fun z => e (h1.trans z)
      have b : valueAt (q :: qs) k = valueAt qs k := by simp [valueAt, List.find?_cons, e']
      rw [valV_neg e, b]; exact ih
theorem KV.any {kvs : List (κ × V)} {vs : List (κ × Value)} (r : KV kvs vs) (k : κ) : (kvs.any fun kv => decide (kv.1 = k)) = vs.any fun kv => decide (kv.1 = k) := by
  unfold KV at r
  induction r with
  | nil => rfl
  | cons h t ih => rw [List.any_cons, List.any_cons, ih, h.1]
theorem KV.repl {kvs : List (κ × V)} {vs : List (κ × Value)} (r : KV kvs vs) (k : κ) {y : V} {u : Value} (ry : RelV y u) :
    KV (kvs.map fun kv => if kv.1 = k then (kv.1, y) else kv) (vs.map fun kv => if kv.1 = k then (kv.1, u) else kv) := by
  unfold KV at r ⊢
  induction r with
  | nil => exact .nil
  | @cons p q ps qs h t ih =>
    rw [List.map_cons, List.map_cons]
    refine .cons ?_ ih
    obtain ⟨h1, h2⟩ := h
    by_cases e : p.1 = k
    · rw [if_pos e, if_pos (h1.symm.trans e)]; exact ⟨h1, ry⟩
    · rw [if_neg e, if_neg (fun z => e (h1.trans z))]; exact ⟨h1, h2⟩
theorem KV.put {kvs : List (κ × V)} {vs : List (κ × Value)} (r : KV kvs vs) (k : κ) {y : V} {u : Value} (ry : RelV y u) : KV (putK kvs k y) (stored vs k u) := by
  unfold putK stored
  rw [r.any k]
  by_cases e : (vs.any fun kv => decide (kv.1 = k)) = true
  · rw [if_pos e, if_pos e]; exact r.repl k ry
  · rw [if_neg e, if_neg e]; exact Paired.snoc r ⟨rfl, ry⟩
theorem KV.drop {kvs : List (κ × V)} {vs : List (κ × Value)} (r : KV kvs vs) (k : κ) : KV (dropK kvs k) (without vs k) := by
  unfold KV at r ⊢
  unfold dropK without
  induction r with
  | nil => exact .nil
  | @cons p q ps qs h t ih =>
    obtain ⟨h1, h2⟩ := h
    rw [List.filter_cons, List.filter_cons]
    by_cases e : p.1 = k
    · have a : ¬ decide (p.1 ≠ k) = true := by simp [e]
      have b : ¬ decide (q.1 ≠ k) = true := by simp [h1.symm.trans e]
      rw [if_neg a, if_neg b]; exact ih
    · have e' : ¬ q.1 = k := fun z => e (h1.trans z)
      have a : decide (p.1 ≠ k) = true := by simp [e]
      have b : decide (q.1 ≠ k) = true := by simp [e']
      rw [if_pos a, if_pos b]; exact .cons ⟨h1, h2⟩ ih
theorem KV.keys {kvs : List (κ × V)} {vs : List (κ × Value)} (r : KV kvs vs) : kvs.map (·.1) = vs.map (·.1) := by
  unfold KV at r
  induction r with
  | nil => rfl
  | cons h t ih => rw [List.map_cons, List.map_cons, ih, h.1]
theorem KV.length {kvs : List (κ × V)} {vs : List (κ × Value)} (r : KV kvs vs) : kvs.length = vs.length := Paired.length r
theorem dropK_le (kvs : List (κ × V)) (k : κ) : (dropK kvs k).length ≤ kvs.length := List.length_filter_le _ _
end


/-! ### a tracked dict, its keys ints and texts or tuples of these -/
theorem kV_is {P : Program} {w : World} {k : Key} {u : Value} (r : RelV (kV k) u) : (mixKind P w).is k u = true := by
  cases k with
  | inl i => obtain ⟨t, e⟩ := (show ∃ t, u = Value.int i t from r); subst e; exact mixKind_int P w i t
  | inr x => obtain ⟨t, e⟩ := (show ∃ t, u = Value.str x t from r); subst e; exact mixKind_str P w x t
theorem kV_inj {a b : Key} (e : kV a = kV b) : a = b := by
  cases a with
  | inl i => cases b with
    | inl j => have e' : V.int i = V.int j := e; injection e' with e'; rw [e']
    | inr y => exact nomatch (show V.int i = V.str y from e)
  | inr x => cases b with
    | inl j => exact nomatch (show V.str x = V.int j from e)
    | inr y => have e' : V.str x = V.str y := e; injection e' with e'; rw [e']
theorem kVs_inj : ∀ {a b : List Key}, a.map kV = b.map kV → a = b
  | [], [], _ => rfl
  | [], _ :: _, e => by simp at e
  | _ :: _, [], e => by simp at e
  | x :: xs, y :: ys, e => by
    rw [List.map_cons, List.map_cons] at e
    injection e with e1 e2
    rw [kV_inj e1, kVs_inj e2]
theorem items_are {P : Program} {w : World} : ∀ {ks : List Key} {us : List Value}, Vals (ks.map kV) us → ItemsAre (mixKind P w) ks us
  | [], _, r => by rw [List.map_nil] at r; cases r; exact .nil
  | k :: ks, _, r => by
    rw [List.map_cons] at r
    cases r with
    | cons h t => exact .cons (kV_is h) (items_are t)

/-- raw entries of a dict with tuple keys -/
abbrev KT (H : Hp) : List (List Key × V) → List (List Key × Addr × Value) → Prop := Paired fun p q => p.1 = q.1 ∧ H q.2.1 = some (.tup (p.1.map kV)) ∧ RelV p.2 q.2.2
theorem KT.val {H : Hp} {kvs : List (List Key × V)} {xs : List (List Key × Addr × Value)} (r : KT H kvs xs) (k : List Key) : RelO (valV kvs k) ((atKey xs k).map (·.2)) := by
  induction r with
  | nil => exact True.intro
  | @cons p q ps qs h t ih =>
    obtain ⟨h1, _, h2⟩ := h
    by_cases e : p.1 = k
    · have e' : q.1 = k := h1.symm.trans e
      have b : atKey (q :: qs) k = some q.2 := by simp [atKey, List.find?_cons, e']
      rw [valV_pos e, b]; exact h2
    · have e' : ¬ q.1 = k := fun z => e (h1.trans z)
      have b : atKey (q :: qs) k = atKey qs k := by simp [atKey, List.find?_cons, e']
      rw [valV_neg e, b]; exact ih
theorem KT.repl {H : Hp} {kvs : List (List Key × V)} {xs : List (List Key × Addr × Value)} (r : KT H kvs xs) (k : List Key) {y : V} {u : Value} (ry : RelV y u) :
    KT H (kvs.map fun kv => if kv.1 = k then (kv.1, y) else kv) (xs.map (putAt k u)) := by
  induction r with
  | nil => exact .nil
  | @cons p q ps qs h t ih =>
    rw [List.map_cons, List.map_cons]
    refine .cons ?_ ih
    obtain ⟨h1, h2, h3⟩ := h
    unfold putAt
    by_cases e : p.1 = k
    · rw [if_pos e, if_pos (h1.symm.trans e)]; exact ⟨h1, h2, ry⟩
    · rw [if_neg e, if_neg (fun z => e (h1.trans z))]; exact ⟨h1, h2, h3⟩
theorem KT.put {H : Hp} {kvs : List (List Key × V)} {xs : List (List Key × Addr × Value)} (r : KT H kvs xs) (k : List Key) {b : Addr} {y : V} {u : Value} (hb : H b = some (.tup (k.map kV))) (ry : RelV y u) :
    KT H (putK kvs k y) (storedH xs k b u) := by
  have e : (kvs.any fun kv => decide (kv.1 = k)) = (atKey xs k).isSome := by
    rw [valV_any, (r.val k).isSome_eq, Option.isSome_map]
  unfold putK storedH
  rw [e]
  by_cases q : (atKey xs k).isSome = true
  · rw [if_pos q, if_pos q]; exact r.repl k ry
  · rw [if_neg q, if_neg q]; exact Paired.snoc r ⟨rfl, hb, ry⟩
theorem KT.keeps {H H' : Hp} {kvs : List (List Key × V)} {xs : List (List Key × Addr × Value)} (r : KT H kvs xs) (ht : ∀ b ys, H b = some (.tup ys) → H' b = some (.tup ys)) : KT H' kvs xs :=
  Paired.mapP r fun _ _ z => ⟨z.1, ht _ _ z.2.1, z.2.2⟩

section
variable {P : Program} {w : World} {H : Hp} {h : Heap} {a : Addr}
theorem rd_of {u : HO} (ok : HOk P w H h) (e : Rd H a u) : ObjOk P w H h a u := e.ok ok
theorem dk_rd {kvs : List (Key × V)} (ok : HOk P w H h) (e : Rd H a (.dK kvs)) : kvs.length ≤ sizeLine ∧ (a == sysModules) = false ∧ ∃ vs, KV kvs vs ∧ h.DictOf (mixKind P w) a vs :=
  show ObjOk P w H h a (.dK kvs) from rd_of ok e
theorem dk_of {kvs : List (Key × V)} (ok : HOk P w H h) (e : H a = some (.dK kvs)) : kvs.length ≤ sizeLine ∧ (a == sysModules) = false ∧ ∃ vs, KV kvs vs ∧ h.DictOf (mixKind P w) a vs := dk_rd ok (.inl e)
/-- a tracked tuple of ints and texts is a key -/
theorem key_of {ks : List Key} (ok : HOk P w H h) (e : H a = some (.tup (ks.map kV))) : (tupleKind (mixKind P w)).is h ks a := by
  obtain ⟨_, its, r, o, h1, h2, n, h3⟩ := (show ObjOk P w H h a (.tup (ks.map kV)) from ok a _ e)
  exact ⟨o, its.toArray, n, h1, h2, h3, by simpa using items_are r⟩
theorem dt_rd {kvs : List (List Key × V)} (ok : HOk P w H h) (e : Rd H a (.dT kvs)) : kvs.length ≤ sizeLine ∧ (a == sysModules) = false ∧
    ∃ xs, KT H kvs xs ∧ h.DictOfH (tupleKind (mixKind P w)) a xs := by
  obtain ⟨z, y, xs, r, o, es, ep, h1, h2, h3, h4, h5⟩ := (show ObjOk P w H h a (.dT kvs) from rd_of ok e)
  refine ⟨z, y, xs, r, o, es, ep, h1, h2, h3, h4, fun x hx => ?_, h5⟩
  have all : ∀ {l : List (List Key × V)} {m : List (List Key × Addr × Value)}, KT H l m → ∀ x ∈ m, (tupleKind (mixKind P w)).is h x.1 x.2.1 := by
    intro l m q
    induction q with
    | nil => intro x hx; exact nomatch hx
    | @cons p q ps qs hq t ih =>
      intro x hx
      rcases List.mem_cons.mp hx with e | hx
      · subst e
        exact key_of ok (by rw [← hq.1]; exact hq.2.1)
      · exact ih x hx
  exact all r x hx
theorem dt_of {kvs : List (List Key × V)} (ok : HOk P w H h) (e : H a = some (.dT kvs)) : kvs.length ≤ sizeLine ∧ (a == sysModules) = false ∧
    ∃ xs, KT H kvs xs ∧ h.DictOfH (tupleKind (mixKind P w)) a xs := dt_rd ok (.inl e)
end

/-- what the dict at a holds at the key y -/
def DGet (H : Hp) (a : Addr) (y : V) (r : Option V) : Prop :=
  (∃ kvs k, Rd H a (.dK kvs) ∧ y = kV k ∧ r = valV kvs k) ∨ ∃ kvs k b, Rd H a (.dT kvs) ∧ y = .ref b ∧ H b = some (.tup (k.map kV)) ∧ r = valV kvs k
/-- the heap behind a[y] = v -/
def DPut (H : Hp) (a : Addr) (y v : V) (H' : Hp) : Prop :=
  (∃ kvs k, H a = some (.dK kvs) ∧ y = kV k ∧ kvs.length < sizeLine ∧ H' = upd H a (.dK (putK kvs k v))) ∨
  ∃ kvs k b, H a = some (.dT kvs) ∧ y = .ref b ∧ H b = some (.tup (k.map kV)) ∧ kvs.length < sizeLine ∧ H' = upd H a (.dT (putK kvs k v))
theorem DGet.k {H : Hp} {a : Addr} {kvs : List (Key × V)} {k : Key} (e : H a = some (.dK kvs)) : DGet H a (kV k) (valV kvs k) := .inl ⟨kvs, k, .inl e, rfl, rfl⟩
theorem DGet.t {H : Hp} {a b : Addr} {kvs : List (List Key × V)} {k : List Key} (e : H a = some (.dT kvs)) (eb : H b = some (.tup (k.map kV))) : DGet H a (.ref b) (valV kvs k) := .inr ⟨kvs, k, b, .inl e, rfl, eb, rfl⟩
theorem DPut.k {H : Hp} {a : Addr} {kvs : List (Key × V)} {k : Key} {v : V} (e : H a = some (.dK kvs)) (hl : kvs.length < sizeLine) : DPut H a (kV k) v (upd H a (.dK (putK kvs k v))) := .inl ⟨kvs, k, e, rfl, hl, rfl⟩
theorem DPut.t {H : Hp} {a b : Addr} {kvs : List (List Key × V)} {k : List Key} {v : V} (e : H a = some (.dT kvs)) (eb : H b = some (.tup (k.map kV))) (hl : kvs.length < sizeLine) :
    DPut H a (.ref b) v (upd H a (.dT (putK kvs k v))) := .inr ⟨kvs, k, b, e, rfl, eb, hl, rfl⟩


section
variable {X : Cx} {pins : List (Addr × Obj)} {σ : St} {H : Hp} {s : Shared} {a : Addr} {y v : V} {u r : Value} {o : Option V} {A : Around} {E : Value → Shared → Prop}

theorem Inv.big (I : Inv X pins σ H s) : sysModules < s.heap.objs.size := by
  have h : mainGlobals < s.heap.objs.size := (I.mod.glob.keeps I.bk).lt
  exact Nat.lt_trans (by decide) h

/-- d[y], there -/
theorem d_getItem {Q : Value → Shared → Prop} (hu : A.units + 1 < cLine) (I : Inv X pins σ H s) (g : DGet H a y (some v)) (ry : RelV y u) (h : ∀ w' s', Inv X pins σ H s' → RelV v w' → Q w' s') :
    wpAny (model X.prog X.w) A (getItem (.ref a) u) Q E s := by
  rcases g with ⟨kvs, k, e, ey, l⟩ | ⟨kvs, k, b, e, ey, eb, l⟩
  · subst ey
    obtain ⟨z, hd, vs, rel, dd⟩ := dk_rd I.hok e
    obtain ⟨w', hw, rw'⟩ := RelO.some_of (v := v) (o := valueAt vs k) (by rw [l]; exact rel.val k)
    exact wpAny_getItem_of (kV_is ry) dd.mapOf hw (h w' _ (I.tok _) rw')
  · subst ey
    cases (show u = Value.ref b from ry)
    obtain ⟨z, hd, xs, rel, dd⟩ := dt_rd I.hok e
    obtain ⟨w', hw, rw'⟩ := RelO.some_of (v := v) (o := (atKey xs k).map (·.2)) (by rw [l]; exact rel.val k)
    obtain ⟨p, hp, hp2⟩ := Option.map_eq_some_iff.mp hw
    refine wpAny_getItem_heap (tupleKind_room_in1 hu) (key_of I.hok eb) dd hp ?_
    rw [hp2]
    exact h w' _ (I.tok _) rw'
/-- y in d -/
theorem d_in {Q : Value → Shared → Prop} (hu : A.units + 1 < cLine) (I : Inv X pins σ H s) (g : DGet H a y o) (ry : RelV y u) (h : ∀ s', Inv X pins σ H s' → Q (.bool o.isSome) s') :
    wpAny (model X.prog X.w) A (compareOp .In u (.ref a)) Q E s := by
  rcases g with ⟨kvs, k, e, ey, l⟩ | ⟨kvs, k, b, e, ey, eb, l⟩
  · subst ey
    obtain ⟨z, hd, vs, rel, dd⟩ := dk_rd I.hok e
    refine wpAny_in_of (kV_is ry) hd dd.mapOf ?_
    rw [← (rel.val k).isSome_eq, ← l]
    exact h _ (I.tok _)
  · subst ey
    cases (show u = Value.ref b from ry)
    obtain ⟨z, hd, xs, rel, dd⟩ := dt_rd I.hok e
    refine wpAny_in_heap (tupleKind_room_in1 hu) (key_of I.hok eb) hd dd ?_
    have q := (rel.val k).isSome_eq
    rw [Option.isSome_map] at q
    rw [← q, ← l]
    exact h _ (I.tok _)
theorem d_notIn {Q : Value → Shared → Prop} (hu : A.units + 1 < cLine) (I : Inv X pins σ H s) (g : DGet H a y o) (ry : RelV y u) (h : ∀ s', Inv X pins σ H s' → Q (.bool (!o.isSome)) s') :
    wpAny (model X.prog X.w) A (compareOp .NotIn u (.ref a)) Q E s := by
  rcases g with ⟨kvs, k, e, ey, l⟩ | ⟨kvs, k, b, e, ey, eb, l⟩
  · subst ey
    obtain ⟨z, hd, vs, rel, dd⟩ := dk_rd I.hok e
    refine wpAny_notIn_of (kV_is ry) hd dd.mapOf ?_
    rw [← (rel.val k).isSome_eq, ← l]
    exact h _ (I.tok _)
  · subst ey
    cases (show u = Value.ref b from ry)
    obtain ⟨z, hd, xs, rel, dd⟩ := dt_rd I.hok e
    refine wpAny_notIn_heap (tupleKind_room_in1 hu) (key_of I.hok eb) hd dd ?_
    have q := (rel.val k).isSome_eq
    rw [Option.isSome_map] at q
    rw [← q, ← l]
    exact h _ (I.tok _)
/-- a dict's object is replaced -/
theorem d_write {h' : Heap} {t' : Nat} {ob : HO} (I : Inv X pins σ H s) (mu : Mut (H a)) (hs : Heap.SameBut a s.heap h') (he : ∃ q, h'.get? a = some q) (new : ObjOk X.prog X.w (upd H a ob) h' a ob) :
    Inv X pins σ (upd H a ob) { s with heap := h', toks := t' } :=
  I.write (x := a) (e := a) mu (.inl rfl) (fun b q hb z => (hs.2 b hb).trans z) he new
theorem dk_new {P : Program} {w : World} {H' : Hp} {h' : Heap} {kvs : List (Key × V)} {vs : List (Key × Value)} (z : kvs.length ≤ sizeLine) (hd : (a == sysModules) = false) (rel : KV kvs vs) (dd : h'.DictOf (mixKind P w) a vs) :
    ObjOk P w H' h' a (.dK kvs) := ⟨z, hd, vs, rel, dd⟩
/-- d[y] = v -/
theorem d_setItem {H' : Hp} {Q : Unit → Shared → Prop} (hu : A.units + 1 < cLine) (I : Inv X pins σ H s) (g : DPut H a y v H') (ry : RelV y u) (rv : RelV v r) (h : ∀ s', Inv X pins σ H' s' → Q () s') :
    wpAny (model X.prog X.w) A (setItem (.ref a) u r) Q E s := by
  rcases g with ⟨kvs, k, e, ey, l, eH⟩ | ⟨kvs, k, b, e, ey, eb, l, eH⟩
  · subst ey eH
    obtain ⟨z, hd, vs, rel, dd⟩ := dk_of I.hok e
    have hz : vs.length ≤ sizeLine := by rw [← rel.length]; exact z
    have hl : (putK kvs k v).length ≤ sizeLine := by have := length_putK kvs k v; omega
    refine wpAny_setItem_pairs (hsz := hz) (kV_is ry) dd fun h' dd' hs => h _ ?_
    have he : ∃ q, h'.get? a = some q := let ⟨q, _, _, hq, _⟩ := dd'; ⟨q, hq⟩
    exact d_write I (by rw [e]; exact True.intro) hs he (dk_new hl hd (rel.put k rv) dd')
  · subst ey eH
    cases (show u = Value.ref b from ry)
    obtain ⟨z, hd, xs, rel, dd⟩ := dt_of I.hok e
    have hz : xs.length ≤ sizeLine := by rw [← Paired.length rel]; exact z
    have hl : (putK kvs k v).length ≤ sizeLine := by have := length_putK kvs k v; omega
    refine wpAny_setItem_heap (hsz := hz) (tupleKind_room_in1 hu) (key_of I.hok eb) dd fun h' dd' hs => h _ ?_
    obtain ⟨q, es, ep, hq, h2, h3, h4, _, h5⟩ := dd'
    refine d_write I (by rw [e]; exact True.intro) hs ⟨q, hq⟩ ⟨hl, hd, _, (rel.put k eb rv).keeps fun c ys ec => ?_, q, es, ep, hq, h2, h3, h4, h5⟩
    rw [upd_ne (ne_of ec e (fun z => nomatch z))]
    exact ec
end

section
variable {X : Cx} {pins : List (Addr × Obj)} {σ : St} {H : Hp} {s : Shared} {a : Addr} {kvs : List (Key × V)} {k : Key} {u : Value} {A : Around} {E : Value → Shared → Prop}
/-- del d[k] -/
theorem d_delItem {Q : Unit → Shared → Prop} (I : Inv X pins σ H s) (e : H a = some (.dK kvs)) (ry : RelV (kV k) u) (l : (valV kvs k).isSome = true) (h : ∀ s', Inv X pins σ (upd H a (.dK (dropK kvs k))) s' → Q () s') :
    wpAny (model X.prog X.w) A (delItem (.ref a) u) Q E s := by
  obtain ⟨z, hd, vs, rel, dd⟩ := dk_of I.hok e
  refine wpAny_delItem_slot dd.typeIs (by decide) PySem.F.slot_dict_delitem
    (call_meetsIn PySem.F.slot_dict_delitem dd.typeIs PySem.F.entry_dict_delitem (PySem.F.args_dict_delitem_2 _ _) (meets_dict_delitem_pairs (mixKind X.prog X.w) a (kV_is ry)) ⟨vs, dd, by rw [← rel.length]; exact z, by rw [← (rel.val k).isSome_eq]; exact l, fun h' dd' hs => h _ ?_⟩)
  have he : ∃ q, h'.get? a = some q := let ⟨q, _, _, hq, _⟩ := dd'; ⟨q, hq⟩
  exact d_write I (by rw [e]; exact True.intro) hs he (dk_new (Nat.le_trans (dropK_le kvs k) z) hd (rel.drop k) dd')
/-- d.pop(k[, x]), there -/
theorem d_pop {v : V} {more : List Value} {Q : Value → Shared → Prop} (I : Inv X pins σ H s) (e : H a = some (.dK kvs)) (ry : RelV (kV k) u) (l : valV kvs k = some v) (hm : more = [] ∨ ∃ x, more = [x])
    (h : ∀ w' s', Inv X pins σ (upd H a (.dK (dropK kvs k))) s' → RelV v w' → Q w' s') : wpAny (model X.prog X.w) A (call (.builtin "dict.pop") (.ref a :: u :: more)) Q E s := by
  obtain ⟨z, hd, vs, rel, dd⟩ := dk_of I.hok e
  obtain ⟨w', hw, rw'⟩ := RelO.some_of (v := v) (o := valueAt vs k) (by rw [← l]; exact rel.val k)
  have hp : (keyPart u).isSome = true := by
    cases k with
    | inl i => obtain ⟨t, q⟩ := (show ∃ t, u = Value.int i t from ry); subst q; rfl
    | inr x => obtain ⟨t, q⟩ := (show ∃ t, u = Value.str x t from ry); subst q; rfl
  have ha : argsOk "dict.pop" ⟨.ref a :: u :: more, []⟩ := by
    rcases hm with q | ⟨x, q⟩
    · subst q; exact PySem.F.args_dict_pop_2 _ _
    · subst q; exact PySem.F.args_dict_pop_3 _ _ _
  refine call_meetsIn PySem.F.slot_dict_pop dd.typeIs PySem.F.entry_dict_pop ha (meets_dict_pop_there (mixKind X.prog X.w) a (kV_is ry) more hm hp)
    ⟨vs, w', dd, by rw [← rel.length]; exact z, hw, fun h' dd' hs => h w' _ ?_ rw'⟩
  have he : ∃ q, h'.get? a = some q := let ⟨q, _, _, hq, _⟩ := dd'; ⟨q, hq⟩
  exact d_write I (by rw [e]; exact True.intro) hs he (dk_new (Nat.le_trans (dropK_le kvs k) z) hd (rel.drop k) dd')
/-- d.pop(k, x), not there -/
theorem d_popD {r : Value} {Q : Value → Shared → Prop} (I : Inv X pins σ H s) (e : H a = some (.dK kvs)) (ry : RelV (kV k) u) (l : valV kvs k = none) (h : ∀ s', Inv X pins σ H s' → Q r s') :
    wpAny (model X.prog X.w) A (call (.builtin "dict.pop") [.ref a, u, r]) Q E s := by
  obtain ⟨z, hd, vs, rel, dd⟩ := dk_of I.hok e
  have hn : valueAt vs k = none := RelO.none_of (by rw [← l]; exact rel.val k)
  have hp : (keyPart u).isSome = true := by
    cases k with
    | inl i => obtain ⟨t, q⟩ := (show ∃ t, u = Value.int i t from ry); subst q; rfl
    | inr x => obtain ⟨t, q⟩ := (show ∃ t, u = Value.str x t from ry); subst q; rfl
  exact call_meetsIn PySem.F.slot_dict_pop dd.typeIs PySem.F.entry_dict_pop (PySem.F.args_dict_pop_3 _ _ _) (meets_dict_pop_default (mixKind X.prog X.w) a (kV_is ry) hd hp r) ⟨vs, dd, hn, h _ (I.tok _)⟩
/-- d.clear() -/
theorem d_clear {Q : Value → Shared → Prop} (I : Inv X pins σ H s) (e : H a = some (.dK kvs)) (h : ∀ s', Inv X pins σ (upd H a (.dK [])) s' → Q .none s') : wpAny (model X.prog X.w) A (call (.builtin "dict.clear") [.ref a]) Q E s := by
  obtain ⟨z, hd, vs, rel, dd⟩ := dk_of I.hok e
  refine call_meetsIn PySem.F.slot_dict_clear dd.typeIs PySem.F.entry_dict_clear (PySem.F.args_dict_clear_1 _) (meets_dict_clear (mixKind X.prog X.w) a) ⟨vs, dd, by rw [← rel.length]; exact z, fun h' dd' hs => h _ ?_⟩
  have he : ∃ q, h'.get? a = some q := let ⟨q, _, _, hq, _⟩ := dd'; ⟨q, hq⟩
  exact d_write (t' := s.toks) I (by rw [e]; exact True.intro) hs he (dk_new (Nat.zero_le _) hd .nil dd')
/-- len(d) -/
theorem d_len {Q : Value → Shared → Prop} (I : Inv X pins σ H s) (e : Rd H a (.dK kvs)) (h : ∀ t s', Inv X pins σ H s' → Q (.int kvs.length t) s') : wpAny (model X.prog X.w) A (call (.builtin "len") [.ref a]) Q E s := by
  obtain ⟨z, hd, vs, rel, dd⟩ := dk_rd I.hok e
  refine call_len_dict hd dd (by rw [← rel.length]; rw [sizeLine_eq] at z; omega) ?_
  rw [← rel.length]
  exact h _ _ (I.tok _)
/-- if d -/
theorem d_truth {Q : Bool → Shared → Prop} (I : Inv X pins σ H s) (e : Rd H a (.dK kvs)) (h : ∀ s', Inv X pins σ H s' → Q (!kvs.isEmpty) s') : wpAny (model X.prog X.w) A (truthy (.ref a)) Q E s := by
  obtain ⟨z, hd, vs, rel, dd⟩ := dk_rd I.hok e
  refine wpAny_truthy_dict hd dd (by rw [← rel.length]; rw [sizeLine_eq] at z; omega) ?_
  have q : kvs.isEmpty = vs.isEmpty := by cases rel <;> rfl
  rw [← q]
  exact h _ (I.tok _)
end


/-! ### readings and rules -/
/-- the element of a subscription, not a slice -/
def NoSl (i : Expr) : Prop := ∀ ov iv, subscripted i false ov iv = operate [ov, iv] (getItem ov iv)
theorem subD_of {prog : Program} {w : World} {A : Around} {E : Value → Shared → Prop} {s : Shared} {env : Env} {value slice : Expr} {pos : Pos} {T id : String} {Q : Value → Shared → Prop}
    (hl : typeLookup (.type T) "__getitem__" = pure (some (.builtin id))) (hs : NoSl slice)
    (h : wpAny (model prog w) A (eval value env) (fun o s₁ => wpAny (model prog w) A (eval slice env) (fun i s₂ => s₂.TypeIs o T ∧ wpAny (model prog w) A (getItem o i) Q E s₂) E s₁) E s) :
    wpAny (model prog w) A (eval (.Subscript value slice pos) env) Q E s := by
  refine Subscript_ (wpAny_mono h (fun o s₁ h₁ => wpAny_mono h₁ (fun i s₂ h₂ => ?_) fun _ _ x => x) fun _ _ x => x)
  obtain ⟨hT, h₂⟩ := h₂
  unfold subscriptTail
  refine wpAny_bind ?_
  rw [getitemInPython_of_ne hT.not_modules]
  refine wpAny_bind (wpAny_specialOf hT hl ?_)
  have fin : wpAny (model prog w) A (subscripted slice false o i) (fun r s₃ => wpAny (model prog w) A (letTemporaryGo value o r >>= fun _ => pure r) Q E s₃) E s₂ := by
    rw [hs o i]
    exact wpAny_operating (wpAny_mono h₂ (fun r s₃ h₃ => wpAny_bind (wpAny_letTemporaryGo (wpAny_pure h₃))) fun _ _ x => x)
  first
    | exact wpAny_pure (wpAny_bind fin)
    | exact wpAny_bind (wpAny_pure (wpAny_bind fin))
    | exact wpAny_bind fin

theorem dict_typeIs {X : Cx} {pins : List (Addr × Obj)} {σ : St} {H : Hp} {s : Shared} {a : Addr} {y : V} {o : Option V} (I : Inv X pins σ H s) (g : DGet H a y o) : s.TypeIs (.ref a) "dict" := by
  rcases g with ⟨kvs, k, e, _, _⟩ | ⟨kvs, k, b, e, _, _, _⟩
  · obtain ⟨_, _, vs, _, dd⟩ := dk_rd I.hok e
    exact dd.typeIs
  · obtain ⟨_, _, xs, _, dd⟩ := dt_rd I.hok e
    exact dd.typeIs
theorem dict_noDict {X : Cx} {pins : List (Addr × Obj)} {σ : St} {H : Hp} {s : Shared} {a : Addr} {y : V} {o : Option V} (I : Inv X pins σ H s) (g : DGet H a y o) :
    ∀ b, Value.ref a = .ref b → ∃ ob, s.heap.get? b = some ob ∧ ob.dict = none := fun b q => by
  cases q
  rcases g with ⟨kvs, k, e, _, _⟩ | ⟨kvs, k, b, e, _, _, _⟩
  · obtain ⟨_, _, vs, _, ob, _, _, h1, h2, _⟩ := dk_rd I.hok e
    exact ⟨ob, h1, h2.2.1⟩
  · obtain ⟨_, _, xs, _, ob, _, _, h1, h2, _⟩ := dt_rd I.hok e
    exact ⟨ob, h1, h2.2.1⟩

/-- d[y] -/
def tDGet (td ty : TE) : TE := fun σ H Q => td σ H fun x H1 => ty σ H1 fun y H2 => ∃ a v, x = .ref a ∧ DGet H2 a y (some v) ∧ Q v H2
/-- y in d, y not in d -/
def tDIn (ty td : TE) : TE := fun σ H Q => ty σ H fun y H1 => td σ H1 fun x H2 => ∃ a o, x = .ref a ∧ DGet H2 a y o ∧ Q (.bl o.isSome) H2
def tDNotIn (ty td : TE) : TE := fun σ H Q => ty σ H fun y H1 => td σ H1 fun x H2 => ∃ a o, x = .ref a ∧ DGet H2 a y o ∧ Q (.bl (!o.isSome)) H2
/-- d[y] = v -/
def sDPut (td ty tv : TE) : TS := fun D σ H => tv σ H fun v H1 => td σ H1 fun x H2 => ty σ H2 fun y H3 => ∃ a H4, x = .ref a ∧ DPut H3 a y v H4 ∧ D.nx σ H4
/-- d[y] op= v -/
def sDAug (td ty tv : TE) (rd : V → V → Hp → VK → Prop) : TS := fun D σ H => td σ H fun x H1 => ty σ H1 fun y H2 => ∃ a v, x = .ref a ∧ DGet H2 a y (some v) ∧
  tv σ H2 fun y2 H3 => rd v y2 H3 fun z H4 => ∃ H5, DPut H4 a y z H5 ∧ D.nx σ H5
/-- del d[y] -/
def sDDel (td ty : TE) : TS := fun D σ H => td σ H fun x H1 => ty σ H1 fun y H2 => ∃ a kvs k, x = .ref a ∧ H2 a = some (.dK kvs) ∧ y = kV k ∧ (valV kvs k).isSome = true ∧ D.nx σ (upd H2 a (.dK (dropK kvs k)))

section
variable {X : Cx} {o i e value : Expr} {pos pos' tpos : Pos} {td ty tv : TE}
theorem pe_dget (hu : X.A.units + 1 < cLine) (ho : PE X o td) (hi : PE X i ty) (hs : NoSl i) : PE X (.Subscript o i pos) (tDGet td ty) := by
  intro pins s σ H Q I h
  refine subD_of PySem.F.slot_dict_getitem.lookup hs (thn (ho pins s σ H _ I h) fun u s1 ⟨x, H1, I1, rx, q1⟩ => thn (hi pins s1 σ H1 _ I1 q1) fun iv s2 ⟨y, H2, I2, ry, a, v, ex, g, q2⟩ => ?_)
  subst ex
  obtain rfl : u = Value.ref a := rx
  exact ⟨dict_typeIs I2 g, d_getItem hu I2 g ry fun w' s3 I3 rw' => ⟨v, H2, I3, rw', q2⟩⟩
theorem pc_din (hu : X.A.units + 1 < cLine) (hi : PE X i ty) (ho : PE X o td) : PC X .In i o (tDIn ty td) := by
  intro pins s σ H Q I h
  refine thn (hi pins s σ H _ I h) fun iv s1 ⟨y, H1, I1, ry, q1⟩ => thn (ho pins s1 σ H1 _ I1 q1) fun u s2 ⟨x, H2, I2, rx, a, ov, ex, g, q2⟩ => ?_
  subst ex
  obtain rfl : u = Value.ref a := rx
  exact d_in hu I2 g ry fun s3 I3 => ⟨.bl ov.isSome, H2, I3, rfl, q2⟩
theorem pc_dnotin (hu : X.A.units + 1 < cLine) (hi : PE X i ty) (ho : PE X o td) : PC X .NotIn i o (tDNotIn ty td) := by
  intro pins s σ H Q I h
  refine thn (hi pins s σ H _ I h) fun iv s1 ⟨y, H1, I1, ry, q1⟩ => thn (ho pins s1 σ H1 _ I1 q1) fun u s2 ⟨x, H2, I2, rx, a, ov, ex, g, q2⟩ => ?_
  subst ex
  obtain rfl : u = Value.ref a := rx
  exact d_notIn hu I2 g ry fun s3 I3 => ⟨.bl (!ov.isSome), H2, I3, rfl, q2⟩
theorem ps_dput (hu : X.A.units + 1 < cLine) (ho : PE X o td) (hi : PE X i ty) (hv : PE X value tv) (hs : swapsWith value (some (.Subscript o i pos')) pos.line X.env = pure false) :
    PS X (.Assign [.Subscript o i pos'] value pos) (sDPut td ty tv) := by
  intro pins s σ H D I h
  refine wpAny_Assign_Subscript (thn (hv pins s σ H _ I h) fun r s1 ⟨v, H1, I1, rv, q1⟩ => thn (ho pins s1 σ H1 _ I1 q1) fun u s2 ⟨x, H2, I2, rx, q2⟩ => thn (hi pins s2 σ H2 _ I2 q2) fun iv s3 ⟨y, H3, I3, ry, a, H4, ex, g, q3⟩ => ?_) hs
  subst ex
  obtain rfl : u = Value.ref a := rx
  exact d_setItem hu I3 g ry rv fun s4 I4 => ⟨σ, H4, I4, q3⟩
theorem ps_daug {op : Operator} {rd : V → V → Hp → VK → Prop} (hu : X.A.units + 1 < cLine) (ho : PE X o td) (hi : PE X i ty) (hv : PE X value tv) (hop : InOp X op rd)
    (ha : ∀ ov iv new, augStore i ov iv new = (do holding [new, ov, iv] (setItem ov iv new); release [new, ov, iv] []; pure .next)) : PS X (.AugAssign (.Subscript o i tpos) op value pos) (sDAug td ty tv rd) := by
  intro pins s σ H D I h
  refine wpAny_AugAssign_SubscriptAny (thn (ho pins s σ H _ I h) fun u s1 ⟨x, H1, I1, rx, q1⟩ => thn (hi pins s1 σ H1 _ I1 q1) fun iv s2 ⟨y, H2, I2, ry, a, v, ex, g, q2⟩ => ?_) ha
  subst ex
  obtain rfl : u = Value.ref a := rx
  refine d_getItem hu I2 g ry fun w' s3 I3 rw' => thn (hv pins s3 σ H2 _ I3 q2) fun w2 s4 ⟨y2, H3, I4, ry2, q3⟩ => thn (hop pins s4 σ H3 v y2 w' w2 _ I4 rw' ry2 q3) fun w3 s5 ⟨z, H4, I5, rz, H5, g5, q4⟩ => ?_
  exact d_setItem hu I5 g5 ry rz fun s6 I6 => ⟨σ, H5, I6, q4⟩
theorem ps_ddel (ho : PE X o td) (hi : PE X i ty) : PS X (.Delete [.Subscript o i tpos] pos) (sDDel td ty) := by
  intro pins s σ H D I h
  refine wpAny_Delete (wpAny_deleteEach_cons (wpAny_delete_Subscript (thn (ho pins s σ H _ I h) fun u s1 ⟨x, H1, I1, rx, q1⟩ => thn (hi pins s1 σ H1 _ I1 q1) fun iv s2 ⟨y, H2, I2, ry, a, kvs, k, ex, e, ey, l, q2⟩ => ?_)))
  subst ex ey
  obtain rfl : u = Value.ref a := rx
  exact d_delItem I2 e ry l fun s3 I3 => wpAny_deleteEach_nil ⟨σ, _, I3, q2⟩
end


/-! ### displays -/
theorem dk_empty {P : Program} {w : World} {H : Hp} (h : Heap) (hb : sysModules < h.objs.size) : ObjOk P w H (h.push { cls := .type "dict", data := .dict #[] }) h.objs.size (.dK []) :=
  ⟨Nat.zero_le _, beq_eq_false_iff_ne.mpr (Ne.symm (Nat.ne_of_lt hb)), [], .nil, Heap.DictOf.new h⟩
theorem dt_empty {P : Program} {w : World} {H : Hp} (h : Heap) (hb : sysModules < h.objs.size) : ObjOk P w H (h.push { cls := .type "dict", data := .dict #[] }) h.objs.size (.dT []) :=
  ⟨Nat.zero_le _, beq_eq_false_iff_ne.mpr (Ne.symm (Nat.ne_of_lt hb)), [], .nil, _, #[], 0, Heap.get?_push_size _ rfl, ⟨rfl, rfl, rfl⟩, rfl, rfl, List.nodup_nil⟩
/-- {}, to be a dict of the kind that is wanted -/
def tDNewK : TE := fun _ H Q => ∀ p, H p = none → Q (.ref p) (upd H p (.dK []))
def tDNewT : TE := fun _ H Q => ∀ p, H p = none → Q (.ref p) (upd H p (.dT []))
section
variable {X : Cx} {pos : Pos}
theorem pe_dnewK : PE X (.Dict [] [] pos) tDNewK := fun pins s σ H Q I h =>
  wpAny_Dict_empty ⟨.ref s.heap.objs.size, _, I.laid (a := s.heap.objs.size) (o := .dK []) (t' := s.toks) (fun _ _ q => Heap.get?_push_of_some _ q) (Nat.le_refl _) (dk_empty s.heap I.big), rfl, h _ (I.hok.fresh (Nat.le_refl _))⟩
theorem pe_dnewT : PE X (.Dict [] [] pos) tDNewT := fun pins s σ H Q I h =>
  wpAny_Dict_empty ⟨.ref s.heap.objs.size, _, I.laid (a := s.heap.objs.size) (o := .dT []) (t' := s.toks) (fun _ _ q => Heap.get?_push_of_some _ q) (Nat.le_refl _) (dt_empty s.heap I.big), rfl, h _ (I.hok.fresh (Nat.le_refl _))⟩
end

/-- the pairs of a display, from the left -/
def tPairs : List (TE × TE) → St → Hp → (List (V × V) → Hp → Prop) → Prop
  | [], _, H, Q => Q [] H
  | (tk, tv) :: r, σ, H, Q => tk σ H fun x H1 => tv σ H1 fun y H2 => tPairs r σ H2 fun ps H3 => Q ((x, y) :: ps) H3
abbrev VV : List (V × V) → List (Value × Value) → Prop := Paired fun p q => RelV p.1 q.1 ∧ RelV p.2 q.2
def PPs (X : Cx) (pos : Pos) (keys : List (Option Expr)) (values : List Expr) (trs : List (TE × TE)) : Prop :=
  ∀ (pins : List (Addr × Obj)) (s : Shared) (σ : St) (H : Hp) (Q : List (V × V) → Hp → Prop), Inv X pins σ H s → tPairs trs σ H Q →
    wpAny (model X.prog X.w) X.A (evalPairs (pairTrees keys values X.env pos)) (fun vs s' => ∃ ps H', Inv X pins σ H' s' ∧ VV ps vs ∧ Q ps H') X.xe s
theorem pps_nil {X : Cx} {pos : Pos} : PPs X pos [] [] [] := fun pins s σ H Q I h => pairTrees_nil_walk ⟨[], H, I, .nil, h⟩
theorem pps_cons {X : Cx} {pos : Pos} {k v : Expr} {ks : List (Option Expr)} {vs : List Expr} {tk tv : TE} {trs : List (TE × TE)} (hk : PE X k tk) (hv : PE X v tv) (hr : PPs X pos ks vs trs) :
    PPs X pos (some k :: ks) (v :: vs) ((tk, tv) :: trs) := fun pins s σ H Q I h =>
  pairTrees_cons_walk (thn (hk pins s σ H _ I h) fun u s1 ⟨x, H1, I1, rx, q1⟩ => thn (hv pins s1 σ H1 _ I1 q1) fun w2 s2 ⟨y, H2, I2, ry, q2⟩ =>
    thn (hr pins s2 σ H2 _ I2 q2) fun ws s3 ⟨ps, H3, I3, rel, q3⟩ => ⟨(x, y) :: ps, H3, I3, .cons ⟨rx, ry⟩ rel, q3⟩)

def mergeK (kvs more : List (Key × V)) : List (Key × V) := more.foldl (fun acc kv => putK acc kv.1 kv.2) kvs
theorem KV.merge : ∀ {more : List (Key × V)} {rs : List (Key × Value)} {kvs : List (Key × V)} {vs : List (Key × Value)}, KV more rs → KV kvs vs → KV (mergeK kvs more) (merged vs rs) := by
  intro more rs kvs vs r
  unfold KV at r
  induction r generalizing kvs vs with
  | nil => intro q; exact q
  | @cons p q ps qs h t ih =>
    intro r0
    have e : KV (putK kvs p.1 p.2) (stored vs q.1 q.2) := by
      have := r0.put p.1 h.2
      rw [← h.1]; exact this
    exact ih e
theorem length_mergeK : ∀ (more kvs : List (Key × V)), (mergeK kvs more).length ≤ kvs.length + more.length
  | [], kvs => by show kvs.length ≤ kvs.length + 0; omega
  | p :: r, kvs => by
    have h1 := length_mergeK r (putK kvs p.1 p.2)
    have h2 := length_putK kvs p.1 p.2
    show (mergeK (putK kvs p.1 p.2) r).length ≤ _
    rw [List.length_cons]; omega
theorem carries_of {P : Program} {w : World} : ∀ {kvs : List (Key × V)} {ws : List (Value × Value)}, VV (kvs.map fun kv => (kV kv.1, kv.2)) ws → ∃ rs, Carries (mixKind P w) ws rs ∧ KV kvs rs
  | [], _, r => by rw [List.map_nil] at r; cases r; exact ⟨[], True.intro, .nil⟩
  | p :: kvs, _, r => by
    rw [List.map_cons] at r
    cases r with
    | @cons a b as bs h t =>
      obtain ⟨rs, c, q⟩ := carries_of (P := P) (w := w) t
      obtain ⟨b1, b2⟩ := b
      exact ⟨(p.1, b2) :: rs, ⟨kV_is h.1, rfl, c⟩, .cons ⟨rfl, h.2⟩ q⟩
/-- {k: v, ..} with keys ints and texts; the new dict stands empty while the pairs are made -/
def tDisp (trs : List (TE × TE)) : TE := fun σ H Q => ∀ p, H p = none → tPairs trs σ (upd H p (.dK [])) fun ps H2 => H2 p = some (.dK []) ∧ ∃ kvs : List (Key × V), ps = kvs.map (fun kv => (kV kv.1, kv.2)) ∧ kvs.length ≤ 15 ∧ Q (.ref p) (upd H2 p (.dK (mergeK [] kvs)))
theorem pe_disp {X : Cx} {pos : Pos} {keys : List (Option Expr)} {values : List Expr} {trs : List (TE × TE)} (h : PPs X pos keys values trs) (hall : keys.all (·.isSome) = true) (hl : keys.length = values.length) (h0 : keys ≠ [])
    (h15 : keys.length ≤ 15) : PE X (.Dict keys values pos) (tDisp trs) := by
  intro pins s σ H Q I q
  have hn := I.hok.fresh (Nat.le_refl s.heap.objs.size)
  have I1 := I.laid (a := s.heap.objs.size) (o := .dK []) (h' := s.heap.push { cls := .type "dict", data := .dict #[] }) (t' := s.toks) (fun _ _ q => Heap.get?_push_of_some _ q) (Nat.le_refl _) (dk_empty s.heap I.big)
  refine wpAny_Dict_walk (knd := mixKind X.prog X.w) hall hl h0 h15 (thn (h pins _ σ _ _ I1 (q _ hn)) fun ws s2 ⟨ps, H2, I2, rel, e, kvs, ep, lk, q2⟩ => ?_)
  subst ep
  obtain ⟨rs, c, rk⟩ := carries_of (P := X.prog) (w := X.w) rel
  obtain ⟨z, hd, vs0, r0, dd⟩ := dk_of I2.hok e
  cases r0
  refine ⟨rs, c, dd, fun h' dd' hs => ⟨.ref s.heap.objs.size, _, ?_, rfl, q2⟩⟩
  have hz : (mergeK [] kvs).length ≤ sizeLine := by
    have h1 := length_mergeK kvs []
    rw [List.length_nil] at h1
    rw [sizeLine_eq]; omega
  have he : ∃ q, h'.get? s.heap.objs.size = some q := let ⟨q, _, _, hq, _⟩ := dd'; ⟨q, hq⟩
  exact d_write I2 (by rw [e]; exact True.intro) hs he (dk_new hz hd (rk.merge .nil) dd')


/-! ### methods -/
/-- a method call o.m(e) of a built-in, with one argument: what must be seen of the text -/
structure M1 (X : Cx) (o : Expr) (m : Str) (apos : Pos) (e : Expr) (cpos : Pos) : Prop where
  base : attributeBase o m X.env (eval o X.env) = eval o X.env
  few : ((backTo cpos (starEach [e] X.env)).all (fun x => !x.1) && (backToKw cpos (keywordEach [] X.env)).all (fun x => x.1.isSome)
    && decide (([e] : List Expr).length + ([] : List Keyword).length + (if ([] : List Keyword).isEmpty then 0 else 1) < 30)) = true
  line : (apos.endLine == cpos.line) = true
  trees : backTo cpos (starEach [e] X.env) = [(false, eval e X.env)]
structure M2 (X : Cx) (o : Expr) (m : Str) (apos : Pos) (e f : Expr) (cpos : Pos) : Prop where
  base : attributeBase o m X.env (eval o X.env) = eval o X.env
  few : ((backTo cpos (starEach [e, f] X.env)).all (fun x => !x.1) && (backToKw cpos (keywordEach [] X.env)).all (fun x => x.1.isSome)
    && decide (([e, f] : List Expr).length + ([] : List Keyword).length + (if ([] : List Keyword).isEmpty then 0 else 1) < 30)) = true
  line : (apos.endLine == cpos.line) = true
  trees : backTo cpos (starEach [e, f] X.env) = [(false, eval e X.env), (false, eval f X.env)]

/-- a is a dict, whatever its keys -/
def IsD (H : Hp) (a : Addr) : Prop := (∃ kvs, Rd H a (.dK kvs)) ∨ ∃ kvs, Rd H a (.dT kvs)
theorem isD_at {X : Cx} {pins : List (Addr × Obj)} {σ : St} {H : Hp} {s : Shared} {a : Addr} (I : Inv X pins σ H s) (d : IsD H a) :
    s.TypeIs (.ref a) "dict" ∧ (∀ b, Value.ref a = .ref b → ∃ ob, s.heap.get? b = some ob ∧ ob.dict = none) ∧ (a == sysModules) = false := by
  rcases d with ⟨kvs, e⟩ | ⟨kvs, e⟩
  · obtain ⟨_, hd, vs, _, dd⟩ := dk_rd I.hok e
    refine ⟨dd.typeIs, fun b q => ?_, hd⟩
    cases q
    obtain ⟨ob, _, _, h1, h2, _⟩ := dd
    exact ⟨ob, h1, h2.2.1⟩
  · obtain ⟨_, hd, xs, _, dd⟩ := dt_rd I.hok e
    refine ⟨dd.typeIs, fun b q => ?_, hd⟩
    cases q
    obtain ⟨ob, _, _, h1, h2, _⟩ := dd
    exact ⟨ob, h1, h2.2.1⟩

section
variable {X : Cx} {pins : List (Addr × Obj)} {σ : St} {H : Hp} {s : Shared} {a : Addr} {y d : V} {u r : Value} {o : Option V} {A : Around} {E : Value → Shared → Prop}
/-- d.get(y) -/
theorem d_get1 {Q : Value → Shared → Prop} (hu : A.units + 1 < cLine) (I : Inv X pins σ H s) (g : DGet H a y o) (ry : RelV y u) (h : ∀ w' s', Inv X pins σ H s' → RelV (o.getD .non) w' → Q w' s') :
    wpAny (model X.prog X.w) A (call (.builtin "dict.get") [.ref a, u]) Q E s := by
  rcases g with ⟨kvs, k, e, ey, l⟩ | ⟨kvs, k, b, e, ey, eb, l⟩
  · subst ey
    obtain ⟨z, hd, vs, rel, dd⟩ := dk_rd I.hok e
    refine call_meetsIn PySem.F.slot_dict_get dd.typeIs PySem.F.entry_dict_get (PySem.F.args_dict_get_2 _ _) (meets_dict_get (mixKind X.prog X.w) a (kV_is ry) hd) ⟨_, dd.mapOf, h _ _ (I.tok _) ?_⟩
    rw [l]
    exact (rel.val k).getD rfl
  · subst ey
    cases (show u = Value.ref b from ry)
    obtain ⟨z, hd, xs, rel, dd⟩ := dt_rd I.hok e
    refine call_meetsIn PySem.F.slot_dict_get dd.typeIs PySem.F.entry_dict_get (PySem.F.args_dict_get_2 _ _) (meetsH_dict_get (tupleKind (mixKind X.prog X.w)) a b hd) ⟨tupleKind_room_in1 hu, k, xs, key_of I.hok eb, dd, h _ _ (I.tok _) ?_⟩
    rw [l]
    exact (rel.val k).getD rfl
/-- d.get(y, x) -/
theorem d_get2 {Q : Value → Shared → Prop} (hu : A.units + 1 < cLine) (I : Inv X pins σ H s) (g : DGet H a y o) (ry : RelV y u) (rd : RelV d r) (h : ∀ w' s', Inv X pins σ H s' → RelV (o.getD d) w' → Q w' s') :
    wpAny (model X.prog X.w) A (call (.builtin "dict.get") [.ref a, u, r]) Q E s := by
  rcases g with ⟨kvs, k, e, ey, l⟩ | ⟨kvs, k, b, e, ey, eb, l⟩
  · subst ey
    obtain ⟨z, hd, vs, rel, dd⟩ := dk_rd I.hok e
    refine call_meetsIn PySem.F.slot_dict_get dd.typeIs PySem.F.entry_dict_get (PySem.F.args_dict_get_3 _ _ _) (meets_dict_get_default (mixKind X.prog X.w) a (kV_is ry) hd r) ⟨_, dd.mapOf, h _ _ (I.tok _) ?_⟩
    rw [l]
    exact (rel.val k).getD rd
  · subst ey
    cases (show u = Value.ref b from ry)
    obtain ⟨z, hd, xs, rel, dd⟩ := dt_rd I.hok e
    refine call_meetsIn PySem.F.slot_dict_get dd.typeIs PySem.F.entry_dict_get (PySem.F.args_dict_get_3 _ _ _) (meetsH_dict_get_default (tupleKind (mixKind X.prog X.w)) a b hd r) ⟨tupleKind_room_in1 hu, k, xs, key_of I.hok eb, dd, h _ _ (I.tok _) ?_⟩
    rw [l]
    exact (rel.val k).getD rd
end

def tDGet1 (td ty : TE) : TE := fun σ H Q => td σ H fun x H1 => ∃ a, x = .ref a ∧ IsD H1 a ∧ ty σ H1 fun y H2 => ∃ o, DGet H2 a y o ∧ Q (o.getD .non) H2
def tDGet2 (td ty tx : TE) : TE := fun σ H Q => td σ H fun x H1 => ∃ a, x = .ref a ∧ IsD H1 a ∧ ty σ H1 fun y H2 => tx σ H2 fun z H3 => ∃ o, DGet H3 a y o ∧ Q (o.getD z) H3
/-- d.pop(k): there; d.pop(k, x): there or not -/
def tDPop1 (td ty : TE) : TE := fun σ H Q => td σ H fun x H1 => ∃ a, x = .ref a ∧ IsD H1 a ∧ ty σ H1 fun y H2 => ∃ kvs k v, H2 a = some (.dK kvs) ∧ y = kV k ∧ valV kvs k = some v ∧ Q v (upd H2 a (.dK (dropK kvs k)))
def tDPop2 (td ty tx : TE) : TE := fun σ H Q => td σ H fun x H1 => ∃ a, x = .ref a ∧ IsD H1 a ∧ ty σ H1 fun y H2 => tx σ H2 fun z H3 => ∃ kvs k, H3 a = some (.dK kvs) ∧ y = kV k ∧
  (∀ v, valV kvs k = some v → Q v (upd H3 a (.dK (dropK kvs k)))) ∧ (valV kvs k = none → Q z H3)
section
variable {X : Cx} {o e f : Expr} {apos cpos : Pos} {td ty tx : TE}
theorem pe_dget1 (hu : X.A.units + 1 < cLine) (ho : PE X o td) (he : PE X e ty) (m : M1 X o "get" apos e cpos) : PE X (.Call (.Attribute o "get" apos) [e] [] cpos) (tDGet1 td ty) := by
  intro pins s σ H Q I h
  refine wpAny_Call_method m.base m.few m.line PySem.F.plainAttrs_dict PySem.F.slot_dict_get PySem.F.type_dict_get (thn (ho pins s σ H _ I h) fun u s1 ⟨x, H1, I1, rx, a, ex, d, q1⟩ => ?_)
  subst ex
  obtain rfl : u = Value.ref a := rx
  obtain ⟨t1, t2, _⟩ := isD_at I1 d
  refine ⟨t1, t2, ?_⟩
  rw [m.trees]
  refine Calls.callWith_builtin rfl (Calls.evalArgs_plain (Calls.spliced_cons (thn (he pins s1 σ H1 _ I1 q1) fun iv s2 ⟨y, H2, I2, ry, ov, g, q2⟩ => Calls.spliced_nil ?_)))
  exact d_get1 hu I2 g ry fun w' s3 I3 rw' => ⟨_, H2, I3, rw', q2⟩
theorem pe_dget2 (hu : X.A.units + 1 < cLine) (ho : PE X o td) (he : PE X e ty) (hf : PE X f tx) (m : M2 X o "get" apos e f cpos) : PE X (.Call (.Attribute o "get" apos) [e, f] [] cpos) (tDGet2 td ty tx) := by
  intro pins s σ H Q I h
  refine wpAny_Call_method m.base m.few m.line PySem.F.plainAttrs_dict PySem.F.slot_dict_get PySem.F.type_dict_get (thn (ho pins s σ H _ I h) fun u s1 ⟨x, H1, I1, rx, a, ex, d, q1⟩ => ?_)
  subst ex
  obtain rfl : u = Value.ref a := rx
  obtain ⟨t1, t2, _⟩ := isD_at I1 d
  refine ⟨t1, t2, ?_⟩
  rw [m.trees]
  refine Calls.callWith_builtin rfl (Calls.evalArgs_plain (Calls.spliced_cons (thn (he pins s1 σ H1 _ I1 q1) fun iv s2 ⟨y, H2, I2, ry, q2⟩ =>
    Calls.spliced_cons (thn (hf pins s2 σ H2 _ I2 q2) fun fv s3 ⟨z, H3, I3, rz, ov, g, q3⟩ => Calls.spliced_nil ?_))))
  exact d_get2 hu I3 g ry rz fun w' s4 I4 rw' => ⟨_, H3, I4, rw', q3⟩
theorem pe_dpop1 (ho : PE X o td) (he : PE X e ty) (m : M1 X o "pop" apos e cpos) : PE X (.Call (.Attribute o "pop" apos) [e] [] cpos) (tDPop1 td ty) := by
  intro pins s σ H Q I h
  refine wpAny_Call_method m.base m.few m.line PySem.F.plainAttrs_dict PySem.F.slot_dict_pop PySem.F.type_dict_pop (thn (ho pins s σ H _ I h) fun u s1 ⟨x, H1, I1, rx, a, ex, d, q1⟩ => ?_)
  subst ex
  obtain rfl : u = Value.ref a := rx
  obtain ⟨t1, t2, _⟩ := isD_at I1 d
  refine ⟨t1, t2, ?_⟩
  rw [m.trees]
  refine Calls.callWith_builtin rfl (Calls.evalArgs_plain (Calls.spliced_cons (thn (he pins s1 σ H1 _ I1 q1) fun iv s2 ⟨y, H2, I2, ry, kvs, k, v, ea, ey, l, q2⟩ => Calls.spliced_nil ?_)))
  subst ey
  exact d_pop I2 ea ry l (.inl rfl) fun w' s3 I3 rw' => ⟨v, _, I3, rw', q2⟩
theorem pe_dpop2 (ho : PE X o td) (he : PE X e ty) (hf : PE X f tx) (m : M2 X o "pop" apos e f cpos) : PE X (.Call (.Attribute o "pop" apos) [e, f] [] cpos) (tDPop2 td ty tx) := by
  intro pins s σ H Q I h
  refine wpAny_Call_method m.base m.few m.line PySem.F.plainAttrs_dict PySem.F.slot_dict_pop PySem.F.type_dict_pop (thn (ho pins s σ H _ I h) fun u s1 ⟨x, H1, I1, rx, a, ex, d, q1⟩ => ?_)
  subst ex
  obtain rfl : u = Value.ref a := rx
  obtain ⟨t1, t2, _⟩ := isD_at I1 d
  refine ⟨t1, t2, ?_⟩
  rw [m.trees]
  refine Calls.callWith_builtin rfl (Calls.evalArgs_plain (Calls.spliced_cons (thn (he pins s1 σ H1 _ I1 q1) fun iv s2 ⟨y, H2, I2, ry, q2⟩ =>
    Calls.spliced_cons (thn (hf pins s2 σ H2 _ I2 q2) fun fv s3 ⟨z, H3, I3, rz, kvs, k, ea, ey, q3, q4⟩ => Calls.spliced_nil ?_))))
  subst ey
  cases l : valV kvs k with
  | some v => exact d_pop I3 ea ry l (.inr ⟨fv, rfl⟩) fun w' s4 I4 rw' => ⟨v, _, I4, rw', q3 v l⟩
  | none => exact d_popD I3 ea ry l fun s4 I4 => ⟨z, H3, I4, rz, q4 l⟩
end

/-! ### dict(d): a copy -/
section
variable {X : Cx} {pins : List (Addr × Obj)} {σ : St} {H : Hp} {s : Shared} {a : Addr} {kvs : List (Key × V)} {A : Around} {E : Value → Shared → Prop}
theorem d_copyOf {Q : Value → Shared → Prop} (I : Inv X pins σ H s) (e : Rd H a (.dK kvs)) (h : ∀ p s', H p = none → Inv X pins σ (upd H p (.dK kvs)) s' → Q (.ref p) s') : wpAny (model X.prog X.w) A (call (.type "dict") [.ref a]) Q E s := by
  obtain ⟨z, hd, vs, rel, dd⟩ := dk_rd I.hok e
  refine kt_call_dict hd dd (by rw [← rel.length]; exact z) fun h' dd' hs => ?_
  refine h _ _ (I.hok.fresh (Nat.le_refl _)) (I.laid (a := s.heap.objs.size) (o := .dK kvs) (t' := s.toks) (fun b q hq => ?_) (Nat.le_refl _) (dk_new z (beq_eq_false_iff_ne.mpr (Ne.symm (Nat.ne_of_lt I.big))) rel dd'))
  exact (hs.2 b (Nat.ne_of_lt (Heap.lt_size hq))).trans (Heap.get?_push_of_some _ hq)
end


section
variable {X : Cx} {pins : List (Addr × Obj)} {σ : St} {H : Hp} {s : Shared} {a : Addr} {y : V} {u : Value} {A : Around} {E : Value → Shared → Prop}
/-- d[y], not there: a KeyError -/
theorem d_missing {Q : Value → Shared → Prop} (hu : A.units + 1 < cLine) (hh : A.handled = none) (I : Inv X pins σ H s) (g : DGet H a y none) (ry : RelV y u)
    (h : ∀ h' e t', Heap.NewExc s.heap h' e "KeyError" → E (.ref e) { s with heap := h', toks := t' }) : wpAny (model X.prog X.w) A (getItem (.ref a) u) Q E s := by
  rcases g with ⟨kvs, k, e, ey, l⟩ | ⟨kvs, k, b, e, ey, eb, l⟩
  · subst ey
    obtain ⟨z, hd, vs, rel, dd⟩ := dk_rd I.hok e
    have hn : valueAt vs k = none := RelO.none_of (by rw [l]; exact rel.val k)
    exact wpAny_getItem_missing_of (kV_is ry) hd hh dd.mapOf hn fun h' ex ne => h h' ex _ ne
  · subst ey
    cases (show u = Value.ref b from ry)
    obtain ⟨z, hd, xs, rel, dd⟩ := dt_rd I.hok e
    have hn : (atKey xs k).map (·.2) = none := RelO.none_of (by rw [l]; exact rel.val k)
    exact wpAny_getItem_missing_heap (tupleKind_room_in1 hu) (key_of I.hok eb) hd hh dd (Option.map_eq_none_iff.mp hn) fun h' ex ne => h h' ex _ ne
end
end L2
namespace L2
open PySem PySem.Spec PyProof.Rows
section
variable {X : Cx}
theorem call_lenD : CallR X (.builtin "len") (fun xs H Q => ∃ a kvs, xs = [V.ref a] ∧ H a = some (.dK kvs) ∧ Q (.int kvs.length) H) := by
  intro pins s σ H xs us Q I r h
  obtain ⟨a, kvs, rfl, ha, q⟩ := h
  obtain ⟨u, rfl, ru⟩ := vals1 r
  cases ru
  exact d_len I (.inl ha) fun t s' I' => ⟨.int kvs.length, H, I', ⟨t, rfl⟩, q⟩
end
end L2
namespace L2
open PySem
section
variable {κ : Type} [DecidableEq κ]
theorem valV_not {kvs : List (κ × V)} {k : κ} (h : valV kvs k = none) : ¬ k ∈ kvs.map (·.1) := by
  intro m
  obtain ⟨p, hp, e⟩ := List.mem_map.mp m
  have q : (kvs.any fun kv => decide (kv.1 = k)) = true := List.any_eq_true.mpr ⟨p, hp, decide_eq_true e⟩
  rw [valV_any, h] at q
  exact absurd q (by simp)
theorem valV_in {kvs : List (κ × V)} {k : κ} {v : V} (h : valV kvs k = some v) : k ∈ kvs.map (·.1) := by
  have q : (kvs.any fun kv => decide (kv.1 = k)) = true := by
    rw [valV_any, h]
    all_goals rfl
  obtain ⟨p, hp, e⟩ := List.any_eq_true.mp q
  exact List.mem_map.mpr ⟨p, hp, of_decide_eq_true e⟩
theorem nd_snoc : ∀ {l : List κ} {k : κ}, l.Nodup → ¬ k ∈ l → (l ++ [k]).Nodup
  | [], k, _, _ => by simp
  | a :: r, k, h, hk => by
    obtain ⟨h1, h2⟩ := List.nodup_cons.mp h
    show (a :: (r ++ [k])).Nodup
    refine List.nodup_cons.mpr ⟨fun m => ?_, nd_snoc h2 fun m => hk (List.mem_cons.mpr (Or.inr m))⟩
    rcases List.mem_append.mp m with q | q
    · exact h1 q
    · exact hk (List.mem_cons.mpr (Or.inl (List.mem_singleton.mp q).symm))
theorem nd_putK {kvs : List (κ × V)} {k : κ} (v : V) (hn : (kvs.map (·.1)).Nodup) (h : valV kvs k = none) : ((putK kvs k v).map (·.1)).Nodup := by
  rw [putK_new v h, List.map_append]
  exact nd_snoc hn (valV_not h)
theorem dropK_pos {p : κ × V} {r : List (κ × V)} {k : κ} (e : p.1 = k) : dropK (p :: r) k = dropK r k := by
  unfold dropK
  rw [List.filter_cons, if_neg (by simp [e])]
theorem dropK_neg {p : κ × V} {r : List (κ × V)} {k : κ} (e : ¬ p.1 = k) : dropK (p :: r) k = p :: dropK r k := by
  unfold dropK
  rw [List.filter_cons, if_pos (by simp [e])]
theorem dropK_no : ∀ {kvs : List (κ × V)} {k : κ}, ¬ k ∈ kvs.map (·.1) → dropK kvs k = kvs
  | [], _, _ => rfl
  | p :: r, k, h => by
    have h' : ¬ k ∈ r.map (·.1) := fun m => by
      obtain ⟨q, hq, e⟩ := List.mem_map.mp m
      exact h (List.mem_map.mpr ⟨q, List.mem_cons.mpr (Or.inr hq), e⟩)
    rw [dropK_neg fun e => h (List.mem_map.mpr ⟨p, List.mem_cons.mpr (Or.inl rfl), e⟩), dropK_no h']
theorem dropK_mem {kvs : List (κ × V)} {k : κ} {p : κ × V} (h : p ∈ dropK kvs k) : p ∈ kvs := (List.mem_filter.mp h).1
theorem nd_dropK : ∀ {kvs : List (κ × V)} {k : κ}, (kvs.map (·.1)).Nodup → ((dropK kvs k).map (·.1)).Nodup
  | [], _, _ => List.nodup_nil
  | p :: r, k, h => by
    have h : (p.1 :: r.map (·.1)).Nodup := h
    obtain ⟨h1, h2⟩ := List.nodup_cons.mp h
    by_cases e : p.1 = k
    · rw [dropK_pos e]
      exact nd_dropK h2
    · rw [dropK_neg e]
      show (p.1 :: (dropK r k).map (·.1)).Nodup
      refine List.nodup_cons.mpr ⟨fun m => h1 ?_, nd_dropK h2⟩
      obtain ⟨q, hq, eq⟩ := List.mem_map.mp m
      exact List.mem_map.mpr ⟨q, dropK_mem hq, eq⟩
theorem dropK_len : ∀ {kvs : List (κ × V)} {k : κ}, (kvs.map (·.1)).Nodup → k ∈ kvs.map (·.1) → (dropK kvs k).length + 1 = kvs.length
  | [], _, _, m => by simp at m
  | p :: r, k, h, m => by
    have h : (p.1 :: r.map (·.1)).Nodup := h
    have m : k = p.1 ∨ k ∈ r.map (·.1) := List.mem_cons.mp m
    obtain ⟨h1, h2⟩ := List.nodup_cons.mp h
    by_cases e : p.1 = k
    · subst e
      rw [dropK_pos rfl, dropK_no h1]
      all_goals rfl
    · have m' : k ∈ r.map (·.1) := m.resolve_left fun z => e z.symm
      have q := dropK_len h2 m'
      rw [dropK_neg e, List.length_cons, List.length_cons]
      omega
end
end L2

/-! ## more rules over the layer -/
namespace L2
open PySem PySem.Spec PyProof.Rows
/-! ### sizes of ints -/
def Sz (n : Nat) (i : Int) : Prop := i.natAbs < 2 ^ n
theorem Sz.bits {n : Nat} {i : Int} (h : Sz n i) : Builtin.Int.intBits i ≤ n := by
  unfold Builtin.Int.intBits
  by_cases h0 : (i == 0) = true
  · rw [if_pos h0]; exact Nat.zero_le _
  · rw [if_neg h0]
    have hi : i.natAbs ≠ 0 := by
      have : i ≠ 0 := by simpa using h0
      omega
    exact Nat.succ_le_of_lt ((Nat.log2_lt hi).mpr h)
theorem Sz.log {n : Nat} {i : Int} (h : Sz n i) (hn : 0 < n) : i.natAbs.log2 < n := by
  by_cases hi : i.natAbs = 0
  · rw [hi]; exact hn
  · exact (Nat.log2_lt hi).mpr h
theorem Sz.mono {n m : Nat} {i : Int} (h : Sz n i) (hm : n ≤ m) : Sz m i := Nat.lt_of_lt_of_le h (Nat.pow_le_pow_right (by decide) hm)
theorem Sz.le {n : Nat} {i j : Int} (h : Sz n i) (hj : j.natAbs ≤ i.natAbs) : Sz n j := Nat.lt_of_le_of_lt hj h
theorem Sz.mul {n m : Nat} {i j : Int} (h : Sz n i) (h' : Sz m j) : Sz (n + m) (i * j) := by
  unfold Sz at *
  rw [Int.natAbs_mul, Nat.pow_add]
  exact Nat.mul_lt_mul'' h h'
theorem Sz.add {n : Nat} {i j : Int} (h : Sz n i) (h' : Sz n j) : Sz (n + 1) (i + j) := by
  unfold Sz at *
  rw [Nat.pow_succ]
  omega
theorem Sz.sub {n : Nat} {i j : Int} (h : Sz n i) (h' : Sz n j) : Sz (n + 1) (i - j) := by
  unfold Sz at *
  rw [Nat.pow_succ]
  omega
theorem Sz.neg {n : Nat} {i : Int} (h : Sz n i) : Sz n (-i) := by
  unfold Sz at *
  omega
def CMulS (i j : Int) : Prop := CMul i j ∨ (Sz 100000 i ∧ Sz 100000 j)
theorem CMulS.ok {i j : Int} (h : CMulS i j) : IntMulOk i j := by
  rcases h with h | h
  · exact h.ok
  · exact IntMulOk.of_bits (Nat.le_trans h.1.bits (by decide)) (Nat.le_trans h.2.bits (by decide))
section
variable {X : Cx}
theorem op_mulS : OpR X (binaryOp .Mult) (rI CMulS fun i j => .int (i * j)) := opI fun _ _ _ _ _ _ _ hc q => mul_int q hc.ok
/-- // by any divisor that is not 0, of fewer than 9000 bits -/
theorem op_fdivS : OpR X (binaryOp .FloorDiv) (rI (fun _ j => j ≠ 0 ∧ Sz 9000 j) fun i j => .int (i.fdiv j)) :=
  opI fun _ _ _ _ _ _ _ hc q => floordiv_int hc.1 q (.inl (PyProof.noPylong_of_log2 (hc.2.log (by decide))))
theorem op_fdivP : OpR X (binaryOp .FloorDiv) (rI (fun _ j => 0 < j ∧ Sz 9000 j) fun i j => .int (i / j)) :=
  opI fun i j _ _ _ _ _ hc q => floordiv_int (by have := hc.1; omega) (by rw [Int.fdiv_eq_ediv_of_nonneg i (by have := hc.1; omega)]; exact q) (.inl (PyProof.noPylong_of_log2 (hc.2.log (by decide))))
/-! ### is True, is not True -/
theorem RelV.bool_iff {x : V} {v : Value} {b : Bool} (r : RelV x v) : (v == Value.bool b) = decide (x = .bl b) := by
  cases x with
  | bl c =>
    cases (show v = Value.bool c from r)
    by_cases h : c = b
    · subst h; simp
    · have h1 : ¬ V.bl c = V.bl b := fun z => h (V.bl.inj z)
      rw [decide_eq_false h1]
      exact beq_eq_false_iff_ne.mpr fun z => h (by injection z)
  | non => cases (show v = Value.none from r); rw [decide_eq_false (fun z => nomatch z)]; exact beq_eq_false_iff_ne.mpr fun z => nomatch z
  | int i => obtain ⟨t, rfl⟩ := (show ∃ t, v = Value.int i t from r); rw [decide_eq_false (fun z => nomatch z)]; exact beq_eq_false_iff_ne.mpr fun z => nomatch z
  | str i => obtain ⟨t, rfl⟩ := (show ∃ t, v = Value.str i t from r); rw [decide_eq_false (fun z => nomatch z)]; exact beq_eq_false_iff_ne.mpr fun z => nomatch z
  | byt i => obtain ⟨t, rfl⟩ := (show ∃ t, v = Value.bytes i t from r); rw [decide_eq_false (fun z => nomatch z)]; exact beq_eq_false_iff_ne.mpr fun z => nomatch z
  | flt i => obtain ⟨t, rfl⟩ := (show ∃ t, v = Value.float i t from r); rw [decide_eq_false (fun z => nomatch z)]; exact beq_eq_false_iff_ne.mpr fun z => nomatch z
  | ref i => cases (show v = Value.ref i from r); rw [decide_eq_false (fun z => nomatch z)]; exact beq_eq_false_iff_ne.mpr fun z => nomatch z
  | ty i => cases (show v = Value.type i from r); rw [decide_eq_false (fun z => nomatch z)]; exact beq_eq_false_iff_ne.mpr fun z => nomatch z
theorem plainIs_bool {x : V} {v : Value} {b : Bool} (r : RelV x v) : plainIs v (.bool b) = true := by
  cases x with
  | bl c => cases (show v = Value.bool c from r); rfl
  | non => cases (show v = Value.none from r); rfl
  | int i => obtain ⟨t, rfl⟩ := (show ∃ t, v = Value.int i t from r); rfl
  | str i => obtain ⟨t, rfl⟩ := (show ∃ t, v = Value.str i t from r); rfl
  | byt i => obtain ⟨t, rfl⟩ := (show ∃ t, v = Value.bytes i t from r); rfl
  | flt i => obtain ⟨t, rfl⟩ := (show ∃ t, v = Value.float i t from r); rfl
  | ref i => cases (show v = Value.ref i from r); rfl
  | ty i => cases (show v = Value.type i from r); rfl
theorem op_isB : OpR X (compareOp .Is) (fun x y H Q => ∃ b, y = .bl b ∧ Q (.bl (decide (x = .bl b))) H) := by
  intro pins s σ H x y v u Q I rx ry h
  obtain ⟨b, rfl, q⟩ := h
  cases ry
  exact wpAny_is_plain (plainIs_bool rx) (fin_bl I q (RelV.bool_iff rx).symm)
theorem op_isnotB : OpR X (compareOp .IsNot) (fun x y H Q => ∃ b, y = .bl b ∧ Q (.bl (!decide (x = .bl b))) H) := by
  intro pins s σ H x y v u Q I rx ry h
  obtain ⟨b, rfl, q⟩ := h
  cases ry
  exact wpAny_isNot_plain (plainIs_bool rx) (fin_bl I q (by rw [RelV.bool_iff rx]))
/-! ### isinstance -/
theorem call_isi : CallR X (.builtin "isinstance") (fun xs H Q => ∃ x c t b, xs = [x, .ty c] ∧ TyOf X.K H x t ∧ PySem.W.kitOne X.K t (.type c) = some b ∧ Q (.bl b) H) := by
  intro pins s σ H xs us Q I r h
  obtain ⟨x, c, t, b, rfl, ty, e, q⟩ := h
  obtain ⟨u, w', rfl, ru, rw'⟩ := vals2 r
  cases (show w' = Value.type c from rw')
  exact isinst_ok I ru ty e fun tk => ⟨.bl b, H, I.tok tk, rfl, q⟩
theorem call_isiC : CallR X (.builtin "isinstance") (fun xs H Q => ∃ x C t b, xs = [x, .ref C] ∧ TyOf X.K H x t ∧ PySem.W.kitOne X.K t (.ref C) = some b ∧ Q (.bl b) H) := by
  intro pins s σ H xs us Q I r h
  obtain ⟨x, c, t, b, rfl, ty, e, q⟩ := h
  obtain ⟨u, w', rfl, ru, rw'⟩ := vals2 r
  cases (show w' = Value.ref c from rw')
  exact isinst_ok I ru ty e fun tk => ⟨.bl b, H, I.tok tk, rfl, q⟩
end
/-! ### data under a value: ==, != at any depth -/
mutual
inductive Dt (K : PySem.W.Frag) (H : Hp) : V → PyData → Prop
  | non : Dt K H .non .none
  | bl (b : Bool) : Dt K H (.bl b) (.bool b)
  | int (i : Int) : Dt K H (.int i) (.int i)
  | str (x : Str) : Dt K H (.str x) (.str x)
  | lst {a : Addr} {xs : List V} {ds : List PyData} : SqL K H a xs → Dts K H xs ds → Dt K H (.ref a) (.list ds)
  | tup {a : Addr} {xs : List V} {ds : List PyData} : SqT K H a xs → Dts K H xs ds → Dt K H (.ref a) (.tuple ds)
inductive Dts (K : PySem.W.Frag) (H : Hp) : List V → List PyData → Prop
  | nil : Dts K H [] []
  | cons {v : V} {d : PyData} {vs : List V} {ds : List PyData} : Dt K H v d → Dts K H vs ds → Dts K H (v :: vs) (d :: ds)
end
section
variable {X : Cx} {pins : List (Addr × Obj)} {σ : St} {H : Hp} {s : Shared}
mutual
theorem Dt.reads (I : Inv X pins σ H s) : ∀ {v : V} {d : PyData} {u : Value}, Dt X.K H v d → RelV v u → ∃ as, Reads s.heap u d as
  | _, _, _, .non, r => by cases r; exact ⟨_, .none⟩
  | _, _, _, .bl b, r => by cases r; exact ⟨_, .bool b⟩
  | _, _, _, .int i, r => by obtain ⟨t, rfl⟩ := r; exact ⟨_, .int i t⟩
  | _, _, _, .str x, r => by obtain ⟨t, rfl⟩ := r; exact ⟨_, .str x t⟩
  | _, _, _, .lst hq ds, r => by
    obtain ⟨its, rv, ⟨o, n, e, c, _, dd⟩, _⟩ := I.list hq
    obtain ⟨as, ra⟩ := Dts.reads I ds rv
    cases r
    exact ⟨_, .list e c dd (by simpa using ra)⟩
  | _, _, _, .tup hq ds, r => by
    obtain ⟨its, rv, ⟨o, e, c, n, dd⟩, _⟩ := I.tuple hq
    obtain ⟨as, ra⟩ := Dts.reads I ds rv
    cases r
    exact ⟨_, .tuple e c dd (by simpa using ra)⟩
theorem Dts.reads (I : Inv X pins σ H s) : ∀ {vs : List V} {ds : List PyData} {us : List Value}, Dts X.K H vs ds → Vals vs us → ∃ as, ReadsAll s.heap us ds as
  | _, _, _, .nil, r => by cases r; exact ⟨_, .nil⟩
  | _, _, _, .cons h t, r => by
    cases r with
    | cons p q =>
      obtain ⟨as, ra⟩ := Dt.reads I h p
      obtain ⟨bs, rb⟩ := Dts.reads I t q
      exact ⟨_, .cons ra rb⟩
end
end
section
variable {X : Cx}
/-- the two sides as data -/
def rEqD (K : PySem.W.Frag) (neg : Bool) : R2 := fun x y H Q => ∃ d e, Dt K H x d ∧ Dt K H y e ∧ d.canLay0 = true ∧ e.canLay0 = true ∧ min d.depth e.depth ≤ 60 ∧ Q (.bl (if neg then !PyData.eqv d e else PyData.eqv d e)) H
theorem op_eqD (hu : X.A.units + 64 < cLine) : OpR X (compareOp .Eq) (rEqD X.K false) := by
  intro pins s σ H x y v u Q I rx ry h
  obtain ⟨d, e, hd, he, c1, c2, dp, q⟩ := h
  obtain ⟨as, ra⟩ := hd.reads I rx
  obtain ⟨bs, rb⟩ := he.reads I ry
  exact SeqAt.compareEq_reads ra rb c1 c2 (by omega) ⟨.bl _, H, I, rfl, q⟩
theorem op_neD (hu : X.A.units + 64 < cLine) : OpR X (compareOp .NotEq) (rEqD X.K true) := by
  intro pins s σ H x y v u Q I rx ry h
  obtain ⟨d, e, hd, he, c1, c2, dp, q⟩ := h
  obtain ⟨as, ra⟩ := hd.reads I rx
  obtain ⟨bs, rb⟩ := he.reads I ry
  exact SeqAt.compareNe_reads ra rb c1 c2 (by omega) ⟨.bl _, H, I, rfl, q⟩
theorem Dts.ints (K : PySem.W.Frag) (H : Hp) : ∀ ns : List Int, Dts K H (ns.map V.int) (ns.map PyData.int)
  | [] => .nil
  | n :: r => .cons (.int n) (Dts.ints K H r)
theorem lay_ints : ∀ ns : List Int, PyData.canLayAll0 (ns.map PyData.int) = true
  | [] => rfl
  | _ :: r => by
    show (PyData.canLay0 (.int _) && PyData.canLayAll0 (r.map PyData.int)) = true
    rw [lay_ints r]; rfl
theorem depth_ints : ∀ ns : List Int, PyData.depthAll (ns.map PyData.int) ≤ 1
  | [] => by show PyData.depthAll [] ≤ 1; simp [PyData.depthAll]
  | n :: r => by
    have := depth_ints r
    show PyData.depthAll (PyData.int n :: r.map PyData.int) ≤ 1
    simp only [PyData.depthAll, PyData.depth]
    omega
theorem eqv_ints : ∀ ns ms : List Int, PyData.eqvAll (ns.map PyData.int) (ms.map PyData.int) = decide (ns = ms)
  | [], [] => rfl
  | [], _ :: _ => rfl
  | _ :: _, [] => rfl
  | a :: r, b :: t => by
    show (PyData.eqv (.int a) (.int b) && PyData.eqvAll (r.map PyData.int) (t.map PyData.int)) = _
    rw [eqv_ints r t]
    by_cases h : a = b
    · by_cases g : r = t
      · subst h; subst g; simp [PyData.eqv]
      · have : ¬ (a :: r) = (b :: t) := fun z => g (by injection z)
        rw [decide_eq_false g, decide_eq_false this, Bool.and_false]
    · have : ¬ (a :: r) = (b :: t) := fun z => h (by injection z)
      rw [decide_eq_false this]
      have : PyData.eqv (.int a) (.int b) = false := by show (a == b) = false; exact beq_eq_false_iff_ne.mpr h
      rw [this, Bool.false_and]
/-- two tuples of ints -/
def rEqT (K : PySem.W.Frag) (neg : Bool) : R2 := fun x y H Q => ∃ (a b : Addr) (ns ms : List Int), x = .ref a ∧ y = .ref b ∧ SqT K H a (ns.map V.int) ∧ SqT K H b (ms.map V.int) ∧ Q (.bl (if neg then !decide (ns = ms) else decide (ns = ms))) H
theorem rEqT.to {K : PySem.W.Frag} {neg : Bool} {x y : V} {H : Hp} {Q : VK} (h : rEqT K neg x y H Q) : rEqD K neg x y H Q := by
  obtain ⟨a, b, ns, ms, rfl, rfl, ha, hb, q⟩ := h
  refine ⟨.tuple (ns.map .int), .tuple (ms.map .int), .tup ha (Dts.ints K H ns), .tup hb (Dts.ints K H ms), lay_ints ns, lay_ints ms, ?_, ?_⟩
  · have := depth_ints ns
    simp only [PyData.depth]
    omega
  · have e : PyData.eqv (.tuple (ns.map .int)) (.tuple (ms.map .int)) = decide (ns = ms) := by rw [← eqv_ints]; rfl
    rw [e]; exact q
def rEqT2 (K : PySem.W.Frag) : R2 := fun x y H Q => ∃ (a b : Addr) (ns ms : List Int), x = .ref a ∧ y = .ref b ∧ SqT K H a (ns.map V.int) ∧ SqT K H b (ms.map V.int) ∧ Q (.bl (decide (ns = ms))) H
def rNeT2 (K : PySem.W.Frag) : R2 := fun x y H Q => ∃ (a b : Addr) (ns ms : List Int), x = .ref a ∧ y = .ref b ∧ SqT K H a (ns.map V.int) ∧ SqT K H b (ms.map V.int) ∧ Q (.bl (!decide (ns = ms))) H
theorem op_eqT (hu : X.A.units + 64 < cLine) : OpR X (compareOp .Eq) (rEqT2 X.K) := fun pins s σ H x y v u Q I rx ry h => op_eqD hu pins s σ H x y v u Q I rx ry (rEqT.to (neg := false) h)
theorem op_neT (hu : X.A.units + 64 < cLine) : OpR X (compareOp .NotEq) (rNeT2 X.K) := fun pins s σ H x y v u Q I rx ry h => op_neD hu pins s σ H x y v u Q I rx ry (rEqT.to (neg := true) h)
end
/-! ### a def of the text, as a call wants it -/
structure Dn (K : PySem.W.Frag) (mg : Str → Option Value) (x : Str) (st : Stmt) (ps : List Str) (f : Addr) (fd : FuncData) : Prop where
  fn : Fun K x x st f fd
  mgx : mg x = some (.ref f)
  bd : Binds K fd ps []
theorem same_new {H : Hp} {p : Addr} (h : H p = none) (o : HO) : Same H (upd H p o) := fun b u q => by rw [upd_ne (ne_of_none q h)]; exact q
theorem Same.seqT {K : PySem.W.Frag} {H H' : Hp} {a : Addr} {xs : List V} (e : Same H H') (h : SqT K H a xs) : SqT K H' a xs := by
  rcases h with (h | ⟨o, h⟩) | h
  · exact .inl (.inl (e _ _ h))
  · exact .inl (.inr ⟨o, e _ _ h⟩)
  · exact .inr h
theorem Room.u64 {k : Nat} {A : Around} (r : Room k A) : A.units + 64 < cLine := r.units
theorem small {n : Nat} (h : n ≤ 1000) : n ≤ sizeLine := Nat.le_of_lt (small1000 h)
theorem mapint_get {ns : List Int} {i : Nat} {y : V} (h : (ns.map V.int)[i]? = some y) : ∃ z, y = V.int z ∧ ns[i]? = some z := by
  rw [List.getElem?_map] at h
  cases e : ns[i]? with
  | none => rw [e] at h; cases h
  | some z => rw [e] at h; exact ⟨z, (Option.some.inj h).symm, rfl⟩
/-- xs[i] for an index within, either way -/
theorem atI_ex {ns : List Int} {i : Int} (h1 : -(ns.length : Int) ≤ i) (h2 : i < ns.length) : ∃ z, atI (ns.map V.int) i = some (.int z) := by
  unfold atI ixN
  rw [List.length_map]
  by_cases h : 0 ≤ i
  · rw [if_pos h, if_pos h2]
    show ∃ z, (ns.map V.int)[i.toNat]? = some (.int z)
    rw [List.getElem?_map, List.getElem?_eq_getElem (by omega)]
    exact ⟨_, rfl⟩
  · rw [if_neg h, if_pos h1]
    show ∃ z, (ns.map V.int)[(i + (ns.length : Int)).toNat]? = some (.int z)
    rw [List.getElem?_map, List.getElem?_eq_getElem (by omega)]
    exact ⟨_, rfl⟩
theorem cut_map (ns : List Int) (lo hi : Option Int) : ∃ ms : List Int, cutV (ns.map V.int) lo hi = ms.map V.int ∧ ms.length ≤ ns.length := by
  refine ⟨(ns.drop (HT.sIx ns.length 0 lo)).take (HT.sIx ns.length ns.length hi - HT.sIx ns.length 0 lo), ?_, ?_⟩
  · unfold cutV
    rw [List.length_map, List.map_take, List.map_drop]
  · rw [List.length_take, List.length_drop]
    omega
end L2
namespace L2
open PySem PySem.Spec PyProof.Rows
theorem iteNT {c A B : Prop} [Decidable c] (hc : ¬ c) (h : A) : if (!decide c) = true then A else B := by
  rw [if_pos (by rw [decide_eq_false hc]; rfl)]; exact h
theorem iteP {c A B : Prop} [Decidable c] (hc : c) (h : A) : if decide c = true then A else B := by
  rw [if_pos (decide_eq_true hc)]; exact h
theorem iteN {c A B : Prop} [Decidable c] (hc : ¬ c) (h : B) : if decide c = true then A else B := by
  rw [if_neg (by rw [decide_eq_false hc]; exact Bool.false_ne_true)]; exact h
/-- a test of a proposition, both ways -/
theorem ited {c A B : Prop} [Decidable c] (h1 : c → A) (h2 : ¬ c → B) : if decide c = true then A else B := by
  by_cases h : c
  · exact iteP h (h1 h)
  · exact iteN h (h2 h)
theorem iteb {b : Bool} {A B : Prop} (h1 : b = true → A) (h2 : b = false → B) : if b = true then A else B := by
  cases b with
  | true => rw [if_pos rfl]; exact h1 rfl
  | false => rw [if_neg Bool.false_ne_true]; exact h2 rfl
end L2
namespace L2
open PySem PySem.Spec PyProof.Rows
/-- a cut: what both ways come to -/
def tJoin (t : TS) : TS := fun D σ H => ∃ J : St → Hp → Prop, t { D with nx := J } σ H ∧ ∀ σ' H', J σ' H' → D.nx σ' H'
theorem ps_join {X : Cx} {st : Stmt} {t : TS} (h : PS X st t) : PS X st (tJoin t) := by
  intro pins s σ H D I q
  obtain ⟨J, q, hj⟩ := q
  refine thn (h pins s σ H _ I q) fun f s' z => ?_
  cases f with
  | next => obtain ⟨σ', H', I', q'⟩ := z; exact ⟨σ', H', I', hj _ _ q'⟩
  | brk => exact z
  | cont => exact z
  | ret v => exact z
end L2
namespace L2
open PySem
theorem bt_int : bootBuiltins "int" = some (.type "int") := by decide +kernel
theorem bt_str : bootBuiltins "str" = some (.type "str") := by decide +kernel
theorem bt_bool : bootBuiltins "bool" = some (.type "bool") := by decide +kernel
theorem bt_list : bootBuiltins "list" = some (.type "list") := by decide +kernel
theorem bt_tuple : bootBuiltins "tuple" = some (.type "tuple") := by decide +kernel
theorem bt_dict : bootBuiltins "dict" = some (.type "dict") := by decide +kernel
theorem bt_set : bootBuiltins "set" = some (.type "set") := by decide +kernel
theorem bt_range : bootBuiltins "range" = some (.type "range") := by decide +kernel
theorem bt_enumerate : bootBuiltins "enumerate" = some (.type "enumerate") := by decide +kernel
theorem bt_zip : bootBuiltins "zip" = some (.type "zip") := by decide +kernel
theorem bt_reversed : bootBuiltins "reversed" = some (.type "reversed") := by decide +kernel
theorem bt_frozenset : bootBuiltins "frozenset" = some (.type "frozenset") := by decide +kernel
theorem bt_len : bootBuiltins "len" = some (.builtin "len") := by decide +kernel
theorem bt_abs : bootBuiltins "abs" = some (.builtin "abs") := by decide +kernel
theorem bt_max : bootBuiltins "max" = some (.builtin "max") := by decide +kernel
theorem bt_min : bootBuiltins "min" = some (.builtin "min") := by decide +kernel
theorem bt_sum : bootBuiltins "sum" = some (.builtin "sum") := by decide +kernel
theorem bt_isinstance : bootBuiltins "isinstance" = some (.builtin "isinstance") := by decide +kernel
theorem bt_sorted : bootBuiltins "sorted" = some (.builtin "sorted") := by decide +kernel
theorem bt_any : bootBuiltins "any" = some (.builtin "any") := by decide +kernel
theorem bt_all : bootBuiltins "all" = some (.builtin "all") := by decide +kernel
theorem bt_divmod : bootBuiltins "divmod" = some (.builtin "divmod") := by decide +kernel
theorem bt_ord : bootBuiltins "ord" = some (.builtin "ord") := by decide +kernel
theorem bt_repr : bootBuiltins "repr" = some (.builtin "repr") := by decide +kernel
end L2

/-! ### a list comprehension of one clause -/
namespace L2
open PySem PySem.Spec PyProof.Rows
section
variable {prog : Program} {w : World} {A : Around} {R : Result → Shared → Prop} {s : Shared}
/-- one turn after another, whatever the target -/
theorem compLoop_any {elt target iter : Expr} {ifs : List Expr} {scope : Scope} {pos : Pos} {it acc : Value} {env : Env} (I : Nat → Shared → Prop)
    (turn : ∀ n s, I n s → wpAny (model prog w) A (pyNext it) (fun r s₁ => match r with
      | none => R (.ok .next) s₁
      | some v => wpAny (model prog w) A (letOwnedTupleGo target it v) (fun _ s₁' => wpAny (model prog w) A (assign target env v) (fun _ s₂ =>
          wpAny (model prog w) A (forIn ifs true fun c r => if r = true then do let ok ← isTrue c env (eval c env); pure (ForInStep.yield ok) else pure (ForInStep.yield r)) (fun ok s₃ =>
            if ok = true then wpAny (model prog w) A (eval elt env) (fun x s₄ =>
              wpAny (model prog w) A (call (.builtin "list.append") [acc, x]) (fun _ s₅ => ∃ m, m < n ∧ I m s₅) (fun _ _ => False) s₄) (fun _ _ => False) s₃
            else ∃ m, m < n ∧ I m s₃) (fun _ _ => False) s₂) (fun _ _ => False) s₁') (fun _ _ => False) s₁) (fun _ _ => False) s)
    (n : Nat) (h : I n s) :
    codeAny (model prog w) A (.compLoop (.ListComp elt [⟨target, iter, ifs, 0⟩] scope pos) 0 it acc env) R s := by
  have up : ∀ {α : Type} {m : Sem α} {Q : α → Shared → Prop} {E : Value → Shared → Prop} {s : Shared}, wpAny (model prog w) A m Q (fun _ _ => False) s → wpAny (model prog w) A m Q E s := fun h => wpAny_mono h (fun _ _ q => q) fun _ _ f => f.elim
  refine codeAny_loop rfl I (fun n s hI => ?_) n h
  show wpAny _ A ((compTurn (.ListComp elt [⟨target, iter, ifs, 0⟩] scope pos) 0 it acc env).onRaise (fun x => do noteFrame x env; theTreesLotGoes x)) _ _ s
  refine wpAny_noted ?_
  rw [compTurn_list]
  refine wpAny_bind (wpAny_standAt (wpAny_bind (wpAny_mono (up (turn n s hI)) (fun r s₁ h₁ => ?_) fun _ _ h' => h')))
  cases r with
  | none => exact wpAny_pure h₁
  | some v =>
    refine wpAny_bind (wpAny_mono (up h₁) (fun _ s₁' h₁' => ?_) fun _ _ h' => h')
    refine wpAny_bind (wpAny_mono (up h₁') (fun _ s₂ h₂ => wpAny_bind (wpAny_mono (up h₂) (fun ok s₃ h₃ => ?_) fun _ _ h' => h')) fun _ _ h' => h')
    cases ok with
    | false => exact wpAny_pure ⟨rfl, h₃⟩
    | true =>
      exact wpAny_bind (wpAny_bind (wpAny_mono (up h₃) (fun x s₄ h₄ => wpAny_bind (wpAny_mono (up h₄) (fun _ s₅ h₅ => wpAny_pure (wpAny_pure ⟨rfl, h₅⟩)) fun _ _ h' => h')) fun _ _ h' => h'))
end
/-- the cells that a block takes along -/
theorem closure_ex {env : Env} : ∀ (names : List (Str × NameKind)) (acc : List (Str × Addr)), (∀ x ∈ names, x.2 = .free → ∃ c, env.cells.lookup x.1 = some c) → (∀ y c, acc.lookup y = some c → env.cells.lookup y = some c) →
    ∃ cl, (forIn names acc fun (x : Str × NameKind) (cs : List (Str × Addr)) => if (x.2 == NameKind.free) = true then do let a ← cellOf env x.1; pure (ForInStep.yield ((x.1, a) :: cs)) else pure (ForInStep.yield cs) : Sem (List (Str × Addr))) = pure cl ∧
      (∀ y c, cl.lookup y = some c → env.cells.lookup y = some c) ∧ (∀ x ∈ names, x.2 = .free → ∃ c, cl.lookup x.1 = some c) ∧ ∀ y c, acc.lookup y = some c → ∃ c', cl.lookup y = some c'
  | [], acc, _, ha => ⟨acc, rfl, ha, fun _ h => (nomatch h), fun y c h => ⟨c, h⟩⟩
  | (n, k) :: r, acc, hn, ha => by
    by_cases hk : k = .free
    · subst hk
      obtain ⟨c, hc⟩ := hn (n, .free) List.mem_cons_self rfl
      have e1 : cellOf env n = pure c := by unfold cellOf; rw [hc]
      have ha' : ∀ y d, ((n, c) :: acc).lookup y = some d → env.cells.lookup y = some d := fun y d h => by
        rw [List.lookup_cons] at h
        cases hy : y == n with
        | true =>
          rw [hy] at h
          have : y = n := eq_of_beq hy
          subst this
          cases h
          exact hc
        | false => rw [hy] at h; exact ha y d h
      obtain ⟨cl, h1, h2, h3, h4⟩ := closure_ex r ((n, c) :: acc) (fun x hx => hn x (List.mem_cons_of_mem _ hx)) ha'
      refine ⟨cl, ?_, h2, ?_, ?_⟩
      · rw [List.forIn_cons]
        simp only [beq_self_eq_true, if_true, e1, pure_bind]
        exact h1
      · intro x hx hf
        rcases List.mem_cons.mp hx with rfl | hx
        · exact h4 n c (by rw [List.lookup_cons, beq_self_eq_true])
        · exact h3 x hx hf
      · intro y d hy
        cases hb : y == n with
        | true => exact h4 y c (by rw [List.lookup_cons, hb])
        | false => exact h4 y d (by rw [List.lookup_cons, hb]; exact hy)
    · have hb : (k == NameKind.free) = false := by simpa using hk
      obtain ⟨cl, h1, h2, h3, h4⟩ := closure_ex r acc (fun x hx => hn x (List.mem_cons_of_mem _ hx)) ha
      refine ⟨cl, ?_, h2, ?_, h4⟩
      · rw [List.forIn_cons]
        simp only [hb, Bool.false_eq_true, if_false, pure_bind]
        exact h1
      · intro x hx hf
        rcases List.mem_cons.mp hx with rfl | hx
        · exact absurd hf hk
        · exact h3 x hx hf
/-- the block's context -/
def cxB (X : Cx) (scope : Scope) (cl : List (Str × Addr)) (N : List Str) (C : Addr) (fp : List Addr) (s₀ : Shared) (H₀ : Hp) : Cx :=
  { X with N := N, s₀ := s₀, H₀ := H₀, env := compEnvC scope cl C X.env, outer := X.stack, stack := X.stack, ex := fp, fn := fun _ => false, pn := [], xe := fun _ _ => False }
/-- what a block's scope must have; cap: the places of the captured names among the def's -/
structure BlkOk (X : Cx) (scope : Scope) (N : List Str) (own : Nat) (cap : List Nat) : Prop where
  kind : scope.kind = .function
  nocell : ∀ x ∈ scope.names, x.2 ≠ .cell
  locs : ∀ x ∈ scope.names, x.2 = .local → scope.names.lookup x.1 = some .local
  free : ∀ x ∈ scope.names, x.2 = .free → X.env.kindOf x.1 = some .cell ∨ X.env.kindOf x.1 = some .free
  len : N.length = own + cap.length
  caps : ∀ (j : Nat) (x : Str), N[own + j]? = some x → ∃ i, cap[j]? = some i ∧ X.N[i]? = some x ∧ (scope.names.lookup x = some .free)
theorem lookup_mem {α β : Type} [BEq α] [LawfulBEq α] {x : α} {y : β} : ∀ {l : List (α × β)}, l.lookup x = some y → (x, y) ∈ l
  | [], h => by simp at h
  | (a, b) :: r, h => by
    rw [List.lookup_cons] at h
    cases hb : x == a with
    | true => rw [hb] at h; cases h; rw [eq_of_beq hb]; exact List.mem_cons_self
    | false => rw [hb] at h; exact List.mem_cons_of_mem _ (lookup_mem h)
/-- a free name stays free or becomes a cell -/
theorem relabel_free {env : Env} {x : Str} : ∀ {names : List (Str × NameKind)}, names.lookup x = some .free →
    (names.map fun (n, k) => if (k == NameKind.free && env.scope.kind == .function && env.kindOf n == some .cell) then (n, NameKind.cell) else (n, k)).lookup x = some .cell ∨
    (names.map fun (n, k) => if (k == NameKind.free && env.scope.kind == .function && env.kindOf n == some .cell) then (n, NameKind.cell) else (n, k)).lookup x = some .free
  | [], h => by simp at h
  | (n, k) :: r, h => by
    rw [List.lookup_cons] at h
    rw [List.map_cons]
    cases hx : x == n with
    | true =>
      rw [hx] at h
      cases h
      by_cases hc : (NameKind.free == NameKind.free && env.scope.kind == .function && env.kindOf n == some .cell) = true
      · left
        simp only [hc, if_true, List.lookup_cons, hx]
      · right
        simp only [hc, if_false, List.lookup_cons, hx, Bool.false_eq_true]
    | false =>
      rw [hx] at h
      rcases relabel_free (env := env) h with q | q
      · left
        by_cases hc : (k == NameKind.free && env.scope.kind == .function && env.kindOf n == some .cell) = true
        · simp only [hc, if_true, List.lookup_cons, hx]; exact q
        · simp only [hc, if_false, List.lookup_cons, hx, Bool.false_eq_true]; exact q
      · right
        by_cases hc : (k == NameKind.free && env.scope.kind == .function && env.kindOf n == some .cell) = true
        · simp only [hc, if_true, List.lookup_cons, hx]; exact q
        · simp only [hc, if_false, List.lookup_cons, hx, Bool.false_eq_true]; exact q
/-- what is a cell or free in the relabelled names was free (no cells) -/
theorem relabel_back {env : Env} {x : Str} : ∀ {names : List (Str × NameKind)}, (∀ y ∈ names, y.2 ≠ .cell) → ((names.map fun (n, k) => if (k == NameKind.free && env.scope.kind == .function && env.kindOf n == some .cell) then (n, NameKind.cell) else (n, k)).lookup x = some .cell ∨
    (names.map fun (n, k) => if (k == NameKind.free && env.scope.kind == .function && env.kindOf n == some .cell) then (n, NameKind.cell) else (n, k)).lookup x = some .free) → (x, NameKind.free) ∈ names
  | [], _, h => by simp at h
  | (n, k) :: r, hn, h => by
    rw [List.map_cons] at h
    have hk : k ≠ .cell := hn (n, k) List.mem_cons_self
    cases hx : x == n with
    | true =>
      have e : x = n := eq_of_beq hx
      by_cases hc : (k == NameKind.free && env.scope.kind == .function && env.kindOf n == some .cell) = true
      · have : k = .free := by
          rw [Bool.and_eq_true, Bool.and_eq_true] at hc
          exact eq_of_beq hc.1.1
        rw [e, this]; exact List.mem_cons_self
      · simp only [hc, if_false, List.lookup_cons, hx, Bool.false_eq_true] at h
        rcases h with h | h
        · cases h; exact absurd rfl hk
        · cases h; rw [e]; exact List.mem_cons_self
    | false =>
      refine List.mem_cons_of_mem _ (relabel_back (env := env) (fun y hy => hn y (List.mem_cons_of_mem _ hy)) ?_)
      by_cases hc : (k == NameKind.free && env.scope.kind == .function && env.kindOf n == some .cell) = true
      · simpa only [hc, if_true, List.lookup_cons, hx] using h
      · simpa only [hc, if_false, List.lookup_cons, hx, Bool.false_eq_true] using h
def capsOf (σ : St) (cap : List Nat) : St := cap.map fun i => (σ[i]?).join
theorem capsOf_get {σ : St} {cap : List Nat} {j i : Nat} {v : V} (hj : cap[j]? = some i) (h : (capsOf σ cap)[j]? = some (some v)) : σ[i]? = some (some v) := by
  unfold capsOf at h
  rw [List.getElem?_map, hj] at h
  cases e : σ[i]? with
  | none => rw [Option.map_some, e] at h; cases h
  | some o =>
    rw [Option.map_some, e] at h
    cases o with
    | none => cases h
    | some u => exact h
section
variable {X : Cx} {pins : List (Addr × Obj)} {σ : St} {H : Hp} {s : Shared}
theorem blk_start {scope : Scope} {cl : List (Str × Addr)} {N : List Str} {own : Nat} {cap : List Nat} {fp : List Addr} {h₁ : Heap} {t' : Nat} {m₀ : Str → Option Value} (B : BlkOk X scope N own cap) (I : Inv X pins σ H s)
    (c1 : ∀ y c, cl.lookup y = some c → X.env.cells.lookup y = some c) (c2 : ∀ x ∈ scope.names, x.2 = .free → ∃ c, cl.lookup x.1 = some c)
    (hf : ∀ b ∈ fp, FpOk X pins H b) (hfo : ∀ b ∈ fp, b < s.heap.objs.size) (hns : h₁.Ns s.heap.objs.size m₀) (k : ∀ b o, s.heap.get? b = some o → h₁.get? b = some o) :
    Inv (cxB X scope cl N s.heap.objs.size fp s H) [] (List.replicate own none ++ capsOf σ cap) H { s with heap := h₁, toks := t' } where
  ok := {
    mod := I.mod
    kind := B.kind
    glob := I.ok.glob
    blt := I.ok.blt
    above := Nat.le_refl _
    inj := fun x y c e e' => I.ok.inj x y c (c1 x c e) (c1 y c e')
    has := fun x hx => c2 (x, .free) (relabel_back B.nocell hx) rfl
    cab := fun x c e => (Bool.false_ne_true e).elim
    hd := I.ok.hd
    frames := I.ok.frames
    stk := .inl rfl
    exf := fun b hb => ⟨Nat.ne_of_lt (hfo b hb), fun x c e => (hf b hb).2.2.2.2.1 x c (c1 x c e)⟩
    bs := I.bs
    bsz := Nat.le_trans I.ok.bsz I.sz
    noex := fun b o e hb => by
      rcases (hf b hb).2.2.2.1 with q | q
      · exact I.ok.noex b o e q
      · exact absurd (Nat.lt_of_lt_of_le (Heap.lt_size e) I.ok.bsz) (Nat.not_lt.mpr q)
    exfs := fun b hb hz => by
      rcases List.mem_cons.mp (I.stkSub b hz) with q | q
      · exact (hf b hb).2.1 q
      · exact (hf b hb).2.2.1 q
    funs := I.stack
    frf := I.stkFree }
  os := rfl
  bare := I.bare
  base := Un.kept k
  loc := by
    refine ⟨m₀, hns, fun i x v hN hσ hv => ?_⟩
    by_cases hi : i < own
    · rw [List.getElem?_append_left (by rw [List.length_replicate]; exact hi), List.getElem?_replicate, if_pos hi] at hσ
      cases hσ
    · obtain ⟨j, rfl⟩ : ∃ j, i = own + j := ⟨i - own, by omega⟩
      obtain ⟨i', e1, e2, e3⟩ := B.caps j x hN
      rw [List.getElem?_append_right (by rw [List.length_replicate]; omega), List.length_replicate, Nat.add_sub_cancel_left] at hσ
      have hσ' := capsOf_get e1 hσ
      have hk := B.free (x, .free) (lookup_mem e3) rfl
      obtain ⟨m, hm, hl⟩ := I.loc
      obtain ⟨u, ru, hu⟩ := hl i' x v e2 hσ' (.inr hk)
      refine ⟨u, ru, ?_⟩
      rcases hu with ⟨q, _⟩ | ⟨_, c, hc, ic⟩
      · rcases hk with hk | hk
        · rw [hk] at q; cases q
        · rw [hk] at q; cases q
      · obtain ⟨c', hc'⟩ := c2 (x, .free) (lookup_mem e3) rfl
        have ec := c1 x c' hc'
        rw [hc] at ec
        cases ec
        exact .inr ⟨relabel_free e3, c, hc', ic.keeps k⟩
  cell := fun x c e => by
    obtain ⟨v, q⟩ := I.cell x c (c1 x c e)
    exact ⟨v, q.keeps k⟩
  free := I.hok.fresh (Nat.le_refl _)
  freeC := fun x c e => I.freeC x c (c1 x c e)
  pin := fun p hp => (nomatch hp)
  hok := I.hok.kept k
  len := by
    show (List.replicate own none ++ capsOf σ cap).length = N.length
    rw [List.length_append, List.length_replicate, B.len]
    unfold capsOf
    rw [List.length_map]
end
/-- no test; one test -/
def tNoTest : TT := fun _ H Q => Q true H
def PTs (X : Cx) (ifs : List Expr) (t : TT) : Prop :=
  ∀ (pins : List (Addr × Obj)) (s : Shared) (σ : St) (H : Hp) (Q : Bool → Hp → Prop), Inv X pins σ H s → t σ H Q →
    wpAny (model X.prog X.w) X.A (forIn ifs true fun c r => if r = true then do let ok ← isTrue c X.env (eval c X.env); pure (ForInStep.yield ok) else pure (ForInStep.yield r)) (TP X pins σ Q) X.xe s
theorem pts_nil {X : Cx} : PTs X [] tNoTest := fun _ _ _ H _ I h => wpAny_tests_nil ⟨H, I, h⟩
theorem pts_one {X : Cx} {c : Expr} {t : TT} (h : PT X c t) : PTs X [c] t := fun pins s σ H Q I q => wpAny_tests_one (h pins s σ H Q I q)
/-- the reading: the list grows at D -/
def tComp (wi : TI) (own : Nat) (cap : List Nat) (g : TG) (tt : TT) (te : TE) : TE := fun σ H Q => wi σ H fun J H1 => ∀ D, H1 D = none → ∃ W : Nat → Nat → List V → Hp → Prop, (∃ m, W 0 m [] (upd H1 D (.lst []))) ∧
  ∀ i m ys H2, W i m ys H2 → H2 D = some (.lst ys) ∧ ((J.stop i H2 ∧ Q (.ref D) H2) ∨ (J.go i H2 ∧ ys.length < sizeLine ∧ ∀ x H3, J.yld i H2 x H3 → g x (List.replicate own none ++ capsOf σ cap) H3 fun σ2 H4 => tt σ2 H4 fun b H5 =>
    if b = true then te σ2 H5 fun y H6 => H6 D = some (.lst ys) ∧ ∃ m', m' < m ∧ W (i + 1) m' (ys ++ [y]) (upd H6 D (.lst (ys ++ [y]))) else ∃ m', m' < m ∧ W (i + 1) m' ys H5))
/-- forgetting the block's own names -/
def keepsCaps (own : Nat) (g : TG) : Prop := ∀ v σ H Q, g v σ H Q → g v σ H fun σ' H' => Q σ' H' ∧ σ'.length = σ.length ∧ ∀ i, own ≤ i → σ'[i]? = σ[i]?
theorem keeps_name (i own : Nat) (h : i < own) : keepsCaps own (gName i) := fun v σ H Q q => ⟨q, by rw [List.length_set], fun j hj => by rw [List.getElem?_set_ne (by omega)]⟩
theorem pe_comp {X : Cx} {elt iter tg : Expr} {ifs : List Expr} {scope : Scope} {pos : Pos} {N : List Str} {own : Nat} {cap : List Nat} {wi : TI} {g : TG} {tt : TT} {te : TE} (B : BlkOk X scope N own cap) (hc : X.calm = true) (hi : PI X tg iter wi)
    (kg : keepsCaps own g)
    (hg : ∀ cl C fp s₀ H₀, PG (cxB X scope cl N C fp s₀ H₀) tg g) (ht : ∀ cl C fp s₀ H₀, PTs (cxB X scope cl N C fp s₀ H₀) ifs tt) (he : ∀ cl C fp s₀ H₀, PE (cxB X scope cl N C fp s₀ H₀) elt te)
    (hs : ∀ x, foldedSetIterable iter X.env x = pure x := by intro _; rfl) : PE X (.ListComp elt [⟨tg, iter, ifs, 0⟩] scope pos) (tComp wi own cap g tt te) := by
  intro pins s σ H Q I h
  obtain ⟨cl, hcl, c1, c2, _⟩ := closure_ex (env := X.env) scope.names [] (fun x hx hf => I.ok.has x.1 (B.free x hx hf)) (fun y c e => by simp at e)
  have hclos : closureFor scope X.env = pure cl := by
    have e : closureFor scope X.env = (forIn scope.names ([] : List (Str × Addr)) (fun (x : Str × NameKind) (cs : List (Str × Addr)) => if (x.2 == NameKind.free) = true then do let a ← cellOf X.env x.1; pure (ForInStep.yield ((x.1, a) :: cs)) else pure (ForInStep.yield cs)) >>= pure : Sem (List (Str × Addr))) := rfl
    rw [e, hcl]
    rfl
  rw [eval_ListComp]
  refine wpAny_comprehension_free (use := none) rfl hs hclos B.kind B.locs (thn (hi pins s σ H _ I h) fun v s1 h1 => thn h1 fun itv s2 h2 => ?_)
  obtain ⟨it, fp, tn, J, H2, e, I2, T, st2, f2, W0⟩ := h2
  subst e
  obtain ⟨W, ⟨m0, w0⟩, turn⟩ := W0 s2.heap.objs.size (I2.hok.fresh (Nat.le_refl _))
  refine wpAny_newObj_type ?_
  have I3 : Inv X pins σ (upd H2 s2.heap.objs.size (.lst [])) { s2 with heap := s2.heap.push { cls := .type "list", data := .seq ([] : List Value).toArray } } := I2.lnew .nil (Nat.zero_le _)
  generalize hs3 : ({ s2 with heap := s2.heap.push { cls := .type "list", data := .seq ([] : List Value).toArray } } : Shared) = s3 at I3
  have k3 : ∀ b o, s2.heap.get? b = some o → s3.heap.get? b = some o := fun b o e => by rw [← hs3]; exact Heap.get?_push_of_some _ e
  have z3 : s3.heap.objs.size = s2.heap.objs.size + 1 := by rw [← hs3]; exact Heap.size_push _ _
  have hfo2 : ∀ b ∈ fp, b < s2.heap.objs.size := fun b hb => by
    obtain ⟨o, e, _⟩ := T.obj _ _ st2 b hb
    exact Heap.lt_size e
  have hne : ∀ b ∈ fp, b ≠ s2.heap.objs.size := fun b hb => Nat.ne_of_lt (hfo2 b hb)
  have f3 : ∀ b ∈ fp, FpOk X pins (upd H2 s2.heap.objs.size (.lst [])) b := fun b hb => ⟨by rw [upd_ne (hne b hb)]; exact (f2 b hb).1, (f2 b hb).2⟩
  have tn3 : tn 0 s3.heap := T.keep _ _ _ st2 fun b _ o e => k3 b o e
  show wpAny _ _ (newFunctionEnv scope X.env.globals cl [] X.env.qual none .none (some X.env)) _ _ _
  refine wpAny_newFunctionEnv B.nocell (fun y hy => by simp at hy) (fun h₁ hns₁ hsb₁ => ?_) B.kind
  have kk : ∀ b o, s3.heap.get? b = some o → h₁.get? b = some o := fun b o e => hsb₁.extBut b o (Nat.ne_of_lt (Heap.lt_size e)) (Heap.get?_push_of_some _ e)
  have IB := blk_start (t' := s3.toks + ([] : List (Str × Value)).length) B I3 c1 c2 f3 (fun b hb => by rw [z3]; exact Nat.lt_succ_of_lt (hfo2 b hb)) hns₁ kk
  generalize hs4 : ({ s3 with heap := h₁, toks := s3.toks + ([] : List (Str × Value)).length } : Shared) = s4 at IB
  have tn4 : tn 0 s4.heap := T.keep _ _ _ tn3 fun b _ o e => by rw [← hs4]; exact kk b o e
  show codeAny (model X.prog X.w) X.A (.compStart (.ListComp elt [⟨tg, iter, ifs, 0⟩] scope pos) 0 (.ref it) (.ref s2.heap.objs.size) (compEnvC scope cl s3.heap.objs.size X.env))
      (compPost (model X.prog X.w) X.A X.xe none (EP X pins σ Q) (.ref s2.heap.objs.size) s3.heap.objs.size) s4
  -- what stays true of the iterator's objects
  have stat : ∀ {H' : Hp}, (∀ b ∈ fp, H' b = none) → ∀ b ∈ fp, FpOk (cxB X scope cl N s3.heap.objs.size fp s3 (upd H2 s2.heap.objs.size (.lst []))) [] H' b := fun hn b hb =>
    ⟨hn b hb, Nat.ne_of_lt (by show b < s3.heap.objs.size; rw [z3]; exact Nat.lt_succ_of_lt (hfo2 b hb)), IB.ok.exfs b hb, .inl hb, fun x c e => (IB.ok.exf b hb).2 x c e, fun p hp => (nomatch hp)⟩
  have loop : codeAny (model X.prog X.w) X.A (.compLoop (.ListComp elt [⟨tg, iter, ifs, 0⟩] scope pos) 0 (.ref it) (.ref s2.heap.objs.size) (compEnvC scope cl s3.heap.objs.size X.env))
      (compPost (model X.prog X.w) X.A X.xe none (EP X pins σ Q) (.ref s2.heap.objs.size) s3.heap.objs.size) s4 := by
    refine compLoop_any (fun n s' => ∃ i ys H', Inv (cxB X scope cl N s3.heap.objs.size fp s3 (upd H2 s2.heap.objs.size (.lst []))) [] (List.replicate own none ++ capsOf σ cap) H' s' ∧ tn i s'.heap ∧ (∀ b ∈ fp, H' b = none) ∧ W i n ys H') ?_ m0
      ⟨0, [], _, IB, tn4, fun b hb => (f3 b hb).1, w0⟩
    rintro n s5 ⟨i, ys, H5, I5, st5, fr5, w5⟩
    obtain ⟨hD, hgo⟩ := turn i n ys H5 w5
    rcases hgo with ⟨stop, qn⟩ | ⟨go, hlt, step⟩
    · refine thn (T.done (cxB X scope cl N s3.heap.objs.size fp s3 (upd H2 s2.heap.objs.size (.lst []))) rfl rfl rfl hc i [] s5 _ H5 (fun _ _ => False) I5 (stat fr5) st5 stop) fun r s6 ⟨hr, I6⟩ => ?_
      subst hr
      obtain ⟨m, hm, _⟩ := id I6.loc
      refine ⟨m, hm, fun h' sb => ⟨.ref s2.heap.objs.size, H5, ?_, rfl, qn⟩⟩
      have U := I6.base
      have nC : ∀ b o, s3.heap.get? b = some o → b ≠ s3.heap.objs.size := fun b o e => Nat.ne_of_lt (Heap.lt_size e)
      have nT : ∀ b o, H5 b = some o → b ≠ s3.heap.objs.size := fun b o e z => by
        have q : H5 s3.heap.objs.size = none := I6.free
        rw [z, q] at e
        cases e
      refine I3.call' (ch := fp) I6.os ?_ (fun a o e => (I6.hok a o e).stay (fun b u hb q => sb.extBut b u ?_ q) (fun _ q => q) fun _ _ q => q) I6.bare (fun b hb => ⟨(f3 b hb).2.2.2.1, (f3 b hb).2.1, (f3 b hb).2.2.2.2.1, (f3 b hb).2.2.2.2.2⟩)
      · exact {
          keep := fun b o e z hb he => sb.extBut b o (nC b o e) (U.keep b o e z hb he)
          slot := fun b o e z hb he => by
            obtain ⟨sl, q⟩ := U.slot b o e z hb he
            exact ⟨sl, sb.extBut b _ (nC b o e) q⟩
          free := U.free
          there := fun b o e he => by
            obtain ⟨o', q⟩ := U.there b o e he
            exact ⟨o', sb.extBut b o' (nC b o e) q⟩
          tups := U.tups
          frzs := U.frzs
          tbls := U.tbls }
      · rcases hb with rfl | hb
        · exact nT _ _ e
        · exact nT _ _ hb
    · refine thn (T.item (cxB X scope cl N s3.heap.objs.size fp s3 (upd H2 s2.heap.objs.size (.lst []))) rfl rfl rfl hc i [] s5 _ H5 (fun _ _ => False) I5 (stat fr5) st5 go) fun r s6 ⟨u, hr, h6⟩ => ?_
      subst hr
      refine thn h6 fun _ s7 ⟨x, H7, I7, r7, y7, st7, fr7⟩ => ?_
      have I7' := I7.pinned (stat fr7) (T.obj _ _ st7)
      refine thn (hg cl s3.heap.objs.size fp s3 _ _ s7 _ H7 x u _ I7' r7 (kg _ _ _ _ (step x H7 y7))) fun _ s8 ⟨σ8, H8, I8, q8, l8, p8⟩ => ?_
      have back : ∀ {H9 : Hp} {s9 : Shared}, Inv (cxB X scope cl N s3.heap.objs.size fp s3 (upd H2 s2.heap.objs.size (.lst []))) ([] ++ pinsAt fp s7.heap) σ8 H9 s9 →
          Inv (cxB X scope cl N s3.heap.objs.size fp s3 (upd H2 s2.heap.objs.size (.lst []))) [] (List.replicate own none ++ capsOf σ cap) H9 s9 ∧ tn (i + 1) s9.heap ∧ ∀ b ∈ fp, H9 b = none := fun {H9 s9} I9 => by
        refine ⟨(I9.unpinned).weak l8.symm (fun j v e => ?_), T.keep _ _ _ st7 fun b hb o e => (I9.pin (b, o) (List.mem_append_right _ (List.mem_append_right _ (mem_pinsAt hb e)))).1, fun b hb => ?_⟩
        · by_cases hj : j < own
          · rw [List.getElem?_append_left (by rw [List.length_replicate]; exact hj), List.getElem?_replicate, if_pos hj] at e
            cases e
          · rw [p8 j (by omega)]; exact e
        · obtain ⟨o, e, d⟩ := T.obj _ _ st7 b hb
          exact (I9.pin (b, o) (List.mem_append_right _ (List.mem_append_right _ (mem_pinsAt hb e)))).2.1
      refine thn (ht cl s3.heap.objs.size fp s3 _ _ s8 σ8 H8 _ I8 q8) fun ok s9 ⟨H9, I9, q9⟩ => ?_
      cases ok with
      | false =>
        rw [if_neg Bool.false_ne_true]
        rw [if_neg Bool.false_ne_true] at q9
        obtain ⟨m', hm', w'⟩ := q9
        obtain ⟨b1, b2, b3⟩ := back I9
        exact ⟨m', hm', i + 1, ys, H9, b1, b2, b3, w'⟩
      | true =>
        rw [if_pos rfl]
        rw [if_pos rfl] at q9
        refine thn (he cl s3.heap.objs.size fp s3 _ _ s9 σ8 H9 _ I9 q9) fun uy s10 ⟨y, H10, I10, r10, hD10, m', hm', w'⟩ => ?_
        refine thn (mt_append _ s10 σ8 H10 (.ref s2.heap.objs.size) [y] (.ref s2.heap.objs.size) [uy] (fun _ H11 => H11 = upd H10 s2.heap.objs.size (.lst (ys ++ [y]))) I10 rfl (.cons r10 .nil) ⟨_, ys, y, rfl, rfl, hD10, hlt, rfl⟩) fun _ s11 ⟨_, H11, I11, _, e11⟩ => ?_
        subst e11
        obtain ⟨b1, b2, b3⟩ := back I11
        exact ⟨m', hm', i + 1, ys ++ [y], _, b1, b2, b3, w'⟩
  exact codeAny_compStart_list loop (T.self X.A 0 s4 _ _ tn4 loop)
end L2

/-! ### enumerate -/
namespace L2
open PySem PySem.Spec PyProof.Rows
section
variable {X : Cx} {pins : List (Addr × Obj)} {σ : St} {H : Hp} {s : Shared} {h' : Heap}
/-- records of ours have turned, a new object is laid and tracked -/
theorem Inv.turnLay {ch : List Addr} {a : Addr} {o : HO} {t' : Nat} (I : Inv X pins σ H s) (hch : ∀ b ∈ ch, FpOk X pins H b) (k : ∀ b o, b ∉ ch → s.heap.get? b = some o → h'.get? b = some o) (hp : s.heap.objs.size ≤ a)
    (new : ObjOk X.prog X.w (upd H a o) h' a o) : Inv X pins σ (upd H a o) { s with heap := h', toks := t' } := by
  have hn : H a = none := I.hok.fresh hp
  have nin : ∀ b u, H b = some u → b ∉ ch := fun b u e z => by rw [(hch b z).1] at e; cases e
  refine I.step (g' := s.gens) (d' := s.drawn) (ch := ch) (fun b hb => ⟨(hch b hb).2.2.2.1, (hch b hb).2.1, (hch b hb).2.2.2.2.1, (hch b hb).2.2.2.2.2⟩) (fun b o _ _ hc e _ => k b o hc e) (fun b o _ _ hc e _ => ⟨o.slots, k b o hc e⟩)
    (fun b o _ e n => by rw [upd_ne (Nat.ne_of_lt (Nat.lt_of_lt_of_le (Heap.lt_size e) hp))]; exact n) (fun b o hc e => ⟨o, k b o hc e⟩) (fun b xs q => by rw [upd_ne (ne_of_none q hn)]; exact q) (fun b u xs q => by rw [upd_ne (ne_of_none q hn)]; exact q)
    (fun b ps q => ⟨#[], by rw [upd_ne (ne_of_none q hn), q]; simp⟩) (fun m hm => ?_) (fun b u e => ?_) I.bare
  · obtain ⟨o', es, ep, ho, r⟩ := hm
    exact ⟨o', es, ep, k _ o' (fun z => (hch _ z).2.1 rfl) ho, r⟩
  · by_cases hb : b = a
    · subst hb
      rw [upd_same] at e
      cases e
      exact new
    · rw [upd_ne hb] at e
      refine (I.hok b u e).stay (fun c v hc q => k c v ?_ q) (fun c q => by rw [upd_ne (ne_of_none q hn)]; exact q) fun c xs q => by rw [upd_ne (ne_of_none q hn)]; exact q
      rcases hc with z | z
      · rw [z]; exact nin b u e
      · exact nin c _ z
theorem Inv.turnedL {ch : List Addr} {t' : Nat} (I : Inv X pins σ H s) (hch : ∀ b ∈ ch, FpOk X pins H b) (k : ∀ b o, b ∉ ch → s.heap.get? b = some o → h'.get? b = some o) : Inv X pins σ H { s with heap := h', toks := t' } := by
  have nin : ∀ b u, H b = some u → b ∉ ch := fun b u e z => by rw [(hch b z).1] at e; cases e
  refine I.step (g' := s.gens) (d' := s.drawn) (ch := ch) (fun b hb => ⟨(hch b hb).2.2.2.1, (hch b hb).2.1, (hch b hb).2.2.2.2.1, (hch b hb).2.2.2.2.2⟩) (fun b o _ _ hc e _ => k b o hc e) (fun b o _ _ hc e _ => ⟨o.slots, k b o hc e⟩)
    (fun _ _ _ _ n => n) (fun b o hc e => ⟨o, k b o hc e⟩) (fun _ _ e => e) (fun _ _ _ e => e) (fun b ps e => ⟨#[], by rw [e]; simp⟩) (fun m hm => ?_) (fun b u e => ?_) I.bare
  · obtain ⟨o', es, ep, ho, r⟩ := hm
    exact ⟨o', es, ep, k _ o' (fun z => (hch _ z).2.1 rfl) ho, r⟩
  · refine (I.hok b u e).stay (fun c v hc q => k c v ?_ q) (fun _ q => q) fun _ _ q => q
    rcases hc with z | z
    · rw [z]; exact nin b u e
    · exact nin c _ z
end
/-- (0, xs[0]), (1, xs[1]) .. -/
def Ite (K : PySem.W.Frag) (a : Addr) : It :=
  ⟨fun i H => ∃ xs x, SqL K H a xs ∧ xs[i]? = some x, fun i H x H' => ∃ p y, H p = none ∧ x = .ref p ∧ H' = upd H p (.tup [.int i, y]) ∧ ∀ xs, SqL K H a xs → xs[i]? = some y, fun i H => ∃ xs, SqL K H a xs ∧ xs.length ≤ i⟩
theorem turn_enum {P : Program} {w : World} {K : PySem.W.Frag} {elts : List Expr} {kt : Nat} {pt : Pos} (a e it : Addr) (hei : e ≠ it) :
    Turn P w K (.Tuple elts kt pt) (Ite K a) [e, it] e (fun i h => (∃ old, IsEnum h e it i old) ∧ h.IsListIter it a i) where
  mem := by simp
  obj := fun i h st b hb => by
    obtain ⟨⟨old, he⟩, o, e1, c, d⟩ := st
    rcases List.mem_cons.mp hb with rfl | hb
    · exact ⟨_, he, fun v z => by cases z⟩
    · have e2 : b = it := by simpa using hb
      subst e2
      exact ⟨o, e1, fun v z => by rw [d] at z; cases z⟩
  keep := fun i h h' st k => by
    obtain ⟨⟨old, he⟩, hit⟩ := st
    exact ⟨⟨old, k e (by simp) _ he⟩, hit.at fun o x => k it (by simp) o x⟩
  item := by
    intro X hP hw hK hc i pins s σ H E I hf st hg
    subst hP hw hK
    obtain ⟨xs, x, hq, hx⟩ := hg
    obtain ⟨its, rv, p, hz⟩ := I.list hq
    obtain ⟨u, hu, ru⟩ := rv.get hx
    obtain ⟨⟨old, he⟩, hit⟩ := st
    refine wpAny_pyNext_enum_item he hit p.isList (x := u) (by simpa using hu) hei fun h1 ho hit1 hT hsz hk => ?_
    refine ⟨_, rfl, wpAny_letOwnedTupleGo_enum (s := { s with heap := h1, toks := s.toks + 1 }) ho fun h2 he2 sb2 => ?_⟩
    have elt : e < s.heap.objs.size := Heap.lt_size he
    have ilt : it < s.heap.objs.size := by obtain ⟨_, q, _⟩ := hit; exact Heap.lt_size q
    have hT2 : h2.get? s.heap.objs.size = some { cls := .type "tuple", data := .seq #[.int i s.toks, u] } := (sb2.2 _ (Nat.ne_of_gt elt)).trans hT
    have hfr : H s.heap.objs.size = none := I.hok.fresh (Nat.le_refl _)
    have I1 : Inv X pins σ (upd H s.heap.objs.size (.tup [.int i, x])) { s with heap := h2, toks := s.toks + 1 } := by
      refine I.turnLay (ch := [e, it]) hf (fun b o hb q => ?_) (Nat.le_refl _) ⟨by show 2 ≤ sizeLine; decide, [.int i s.toks, u], .cons ⟨_, rfl⟩ (.cons ru .nil), _, hT2, rfl, _, rfl⟩
      have h1' : b ≠ e := fun z => hb (by simp [z])
      have h2' : b ≠ it := fun z => hb (by simp [z])
      exact (sb2.2 b h1').trans (hk b o h1' h2' q)
    refine ⟨.ref s.heap.objs.size, _, I1, rfl, ⟨_, x, hfr, rfl, rfl, fun ys hy => by rw [I.list_inj hy hq]; exact hx⟩, ⟨⟨u, by simpa using he2⟩, hit1.at fun o q => (sb2.2 it hei.symm).trans q⟩, fun b hb => ?_⟩
    rw [upd_ne ?_]
    · exact (hf b hb).1
    · rcases List.mem_cons.mp hb with rfl | hb
      · exact Nat.ne_of_lt elt
      · have e2 : b = it := by simpa using hb
        rw [e2]; exact Nat.ne_of_lt ilt
  done := by
    intro X hP hw hK hc i pins s σ H E I hf st hg
    subst hP hw hK
    obtain ⟨xs, hq, hx⟩ := hg
    obtain ⟨its, rv, p, hz⟩ := I.list hq
    obtain ⟨⟨old, he⟩, hit⟩ := st
    have hl := rv.length
    exact wpAny_pyNext_enum_end (I.ok.hd hc) he hit p.isList (by simp; omega) fun h' eb => ⟨rfl, I.turnedL (ch := [e, it]) (t' := s.toks) hf fun b o hb q => eb b o (fun z => hb (by simp [z])) q⟩
  self := fun _ _ _ _ _ st h => wpAny_pyIter_enum st.1.choose_spec h
section
variable {X : Cx} {elts : List Expr} {kt : Nat} {pt : Pos}
def iEnum (K : PySem.W.Frag) (ta : TA) : TI := fun σ H R => ta σ H fun vs H1 => ∃ a, vs = [.ref a] ∧ (∃ xs, SqL K H1 a xs) ∧ R (Ite K a) H1
theorem pi_enum {l : Expr} {ta : TA} {p pos : Pos} (hg : Gl X "enumerate") (hm : X.mg "enumerate" = none) (ha : PA X [l] ta) (hs : starEach [l] X.env = [(false, eval l X.env)] := by rfl) :
    PI X (.Tuple elts kt pt) (.Call (.Name "enumerate" p) [l] [] pos) (iEnum X.K ta) := by
  intro pins s σ H R I h
  refine Call_ (ld_blt I hg hm PyProof.Rows.boot_enumerate (PyProof.Rows.callWith_type1 (thn (ha pos pins s σ H _ I h) fun us s1 ⟨vs, H1, I1, r1, q1⟩ => ?_) hs rfl))
  obtain ⟨a, e, ⟨xs, hq⟩, q⟩ := q1
  subst e
  cases r1 with
  | cons r rr =>
    cases rr
    cases r
    obtain ⟨its, rv, pl, hz⟩ := I1.list hq
    refine call_enumerate_list pl.isList fun h' he hit hsz hk => ?_
    refine wpAny_pyIter_enum (s := { s1 with heap := h' }) he ?_
    refine ⟨s1.heap.objs.size + 1, [s1.heap.objs.size + 1, s1.heap.objs.size], _, _, H1, rfl, I1.kept (t' := s1.toks) hk, turn_enum a _ _ (Nat.succ_ne_self _), ⟨⟨_, he⟩, hit⟩, fun b hb => ?_, q⟩
    rcases List.mem_cons.mp hb with rfl | hb
    · exact I1.fpOk (Nat.le_succ _) (I1.hok.fresh (Nat.le_succ _))
    · have e : b = s1.heap.objs.size := by simpa using hb
      subst e
      exact I1.fpOk (Nat.le_refl _) (I1.hok.fresh (Nat.le_refl _))
end
/-- over enumerate of a list that the body leaves as it is: the turn's tuple lies at a new place -/
theorem for_enum {K : PySem.W.Frag} {a : Addr} {xs : List V} {g : TG} {tb : TS} {D : Ends} {σ : St} {H : Hp} (Pv : Nat → St → Hp → Prop) (h0 : Pv 0 σ H) (hl : ∀ i σ H, i ≤ xs.length → Pv i σ H → SqL K H a xs)
    (hs : ∀ i x σ H p, xs[i]? = some x → Pv i σ H → H p = none → g (.ref p) σ (upd H p (.tup [.int i, x])) fun σ2 H2 => tb { D with nx := Pv (i + 1), ct := Pv (i + 1), bk := D.nx } σ2 H2) (hd : ∀ σ H, Pv xs.length σ H → D.nx σ H) :
    ∃ W : Nat → Nat → St → Hp → Prop, (∃ m, W 0 m σ H) ∧ ∀ i m σ H, W i m σ H →
      ((Ite K a).stop i H ∧ D.nx σ H) ∨ ((Ite K a).go i H ∧ ∃ N : St → Hp → Prop, (∀ σ' H', N σ' H' → ∃ m', m' < m ∧ W (i + 1) m' σ' H') ∧ ∀ x H', (Ite K a).yld i H x H' → g x σ H' fun σ2 H2 => tb { D with nx := N, ct := N, bk := D.nx } σ2 H2) := by
  refine ⟨fun i m σ H => m = xs.length - i ∧ i ≤ xs.length ∧ Pv i σ H, ⟨xs.length, by simp, Nat.zero_le _, h0⟩, ?_⟩
  rintro i m σ H ⟨rfl, hi, p⟩
  have q := hl i σ H hi p
  by_cases hlt : i < xs.length
  · refine .inr ⟨⟨xs, xs[i], q, by simp [hlt]⟩, Pv (i + 1), fun σ' H' p' => ⟨xs.length - (i + 1), by omega, rfl, hlt, p'⟩, fun x H' y => ?_⟩
    obtain ⟨r, z, hr, e1, e2, y⟩ := y
    subst e1
    subst e2
    exact hs i z σ _ r (y xs q) p hr
  · have e : i = xs.length := by omega
    subst e
    exact .inl ⟨⟨xs, q, Nat.le_refl _⟩, hd σ H p⟩
end L2

/-! ## data without a heap, and how it lies in one -/
namespace L3
open PySem PySem.Spec L2
open PyProof.Rows hiding St
theorem _root_.L2.Same.rd {H H' : Hp} {a : Addr} {u : HO} (e : Same H H') (h : Rd H a u) : Rd H' a u := h.elim (fun h => .inl (e _ _ h)) fun ⟨o, h⟩ => .inr ⟨o, e _ _ h⟩

inductive D where
  | non | bl (b : Bool) | int (i : Int) | str (x : Str)
  | lst (xs : List D) | tup (xs : List D) | dK (ks : List Key) (ds : List D) | dT (ks : List (List Key)) (ds : List D)
  | obj (c : Nat) (ns : List Str) (ds : List D)
  deriving Inhabited

/-- two lists, item by item -/
inductive Pr (R : D → V → Prop) : List D → List V → Prop
  | nil : Pr R [] []
  | cons {d : D} {v : V} {ds : List D} {vs : List V} : R d v → Pr R ds vs → Pr R (d :: ds) (v :: vs)
theorem Pr.mono {R R' : D → V → Prop} (f : ∀ d v, R d v → R' d v) : ∀ {ds : List D} {vs : List V}, Pr R ds vs → Pr R' ds vs
  | _, _, .nil => .nil
  | _, _, .cons h t => .cons (f _ _ h) (Pr.mono f t)
theorem Pr.length {R : D → V → Prop} : ∀ {ds : List D} {vs : List V}, Pr R ds vs → ds.length = vs.length
  | _, _, .nil => rfl
  | _, _, .cons _ t => by simp [Pr.length t]
theorem Pr.get {R : D → V → Prop} : ∀ {ds : List D} {vs : List V} {i : Nat} {v : V}, Pr R ds vs → vs[i]? = some v → ∃ d, ds[i]? = some d ∧ R d v
  | _, _, _, _, .nil, e => by simp at e
  | _, _, 0, _, .cons h _, e => by simp at e; subst e; exact ⟨_, rfl, h⟩
  | _, _, i + 1, v, .cons _ t, e => by
    obtain ⟨d, h1, h2⟩ := Pr.get (i := i) (v := v) t (by simpa using e)
    exact ⟨d, by simpa using h1, h2⟩
theorem Pr.get' {R : D → V → Prop} : ∀ {ds : List D} {vs : List V} {i : Nat} {d : D}, Pr R ds vs → ds[i]? = some d → ∃ v, vs[i]? = some v ∧ R d v
  | _, _, _, _, .nil, e => by simp at e
  | _, _, 0, _, .cons h _, e => by simp at e; subst e; exact ⟨_, rfl, h⟩
  | _, _, i + 1, v, .cons _ t, e => by
    obtain ⟨d, h1, h2⟩ := Pr.get' (i := i) (d := v) t (by simpa using e)
    exact ⟨d, by simpa using h1, h2⟩
theorem Pr.append {R : D → V → Prop} : ∀ {ds es : List D} {vs us : List V}, Pr R ds vs → Pr R es us → Pr R (ds ++ es) (vs ++ us)
  | _, _, _, _, .nil, s => s
  | _, _, _, _, .cons h t, s => .cons h (Pr.append t s)
theorem Pr.take {R : D → V → Prop} : ∀ {ds : List D} {vs : List V} (n : Nat), Pr R ds vs → Pr R (ds.take n) (vs.take n)
  | _, _, 0, _ => .nil
  | _, _, _ + 1, .nil => .nil
  | _, _, n + 1, .cons h t => .cons h (Pr.take n t)
theorem Pr.drop {R : D → V → Prop} : ∀ {ds : List D} {vs : List V} (n : Nat), Pr R ds vs → Pr R (ds.drop n) (vs.drop n)
  | _, _, 0, r => r
  | _, _, _ + 1, .nil => .nil
  | _, _, n + 1, .cons _ t => Pr.drop n t
theorem Pr.reverse {R : D → V → Prop} {ds : List D} {vs : List V} (h : Pr R ds vs) : Pr R ds.reverse vs.reverse := by
  induction h with
  | nil => exact .nil
  | cons h t ih => rw [List.reverse_cons, List.reverse_cons]; exact ih.append (.cons h .nil)
theorem Pr.rep {R : D → V → Prop} {ds : List D} {vs : List V} (h : Pr R ds vs) : ∀ k : Nat, Pr R (List.replicate k ds).flatten (List.replicate k vs).flatten
  | 0 => .nil
  | k + 1 => by rw [List.replicate_succ, List.flatten_cons, List.replicate_succ, List.flatten_cons]; exact h.append (Pr.rep h k)
theorem Pr.set {R : D → V → Prop} {d : D} {v : V} (r : R d v) : ∀ {ds : List D} {vs : List V} (i : Nat), Pr R ds vs → Pr R (ds.set i d) (vs.set i v)
  | _, _, _, .nil => .nil
  | _, _, 0, .cons _ t => .cons r t
  | _, _, i + 1, .cons q t => .cons q (Pr.set r i t)

/-! v is d in the heap F: what no one changes any more -/
mutual
inductive Dt (K : PySem.W.Frag) (ct : Nat → Addr) (F : Hp) : D → V → Prop
  | non : Dt K ct F .non .non
  | bl (b : Bool) : Dt K ct F (.bl b) (.bl b)
  | int (i : Int) : Dt K ct F (.int i) (.int i)
  | str (x : Str) : Dt K ct F (.str x) (.str x)
  | lst {a : Addr} {vs : List V} {ds : List D} : SqL K F a vs → Dts K ct F ds vs → Dt K ct F (.lst ds) (.ref a)
  | tup {a : Addr} {vs : List V} {ds : List D} : F a = some (.tup vs) → Dts K ct F ds vs → Dt K ct F (.tup ds) (.ref a)
  | dK {a : Addr} {ks : List Key} {vs : List V} {ds : List D} : F a = some (.dK (ks.zip vs)) → ks.length = vs.length → Dts K ct F ds vs → Dt K ct F (.dK ks ds) (.ref a)
  | dT {a : Addr} {ks : List (List Key)} {vs : List V} {ds : List D} : F a = some (.dT (ks.zip vs)) → ks.length = vs.length → Dts K ct F ds vs → Dt K ct F (.dT ks ds) (.ref a)
  | obj {a dx : Addr} {c : Nat} {ns : List Str} {vs : List V} {ds : List D} : F a = some (.ins (ct c) dx (ns.zip vs)) → ns.length = vs.length → Dts K ct F ds vs → Dt K ct F (.obj c ns ds) (.ref a)
inductive Dts (K : PySem.W.Frag) (ct : Nat → Addr) (F : Hp) : List D → List V → Prop
  | nil : Dts K ct F [] []
  | cons {d : D} {v : V} {ds : List D} {vs : List V} : Dt K ct F d v → Dts K ct F ds vs → Dts K ct F (d :: ds) (v :: vs)
end
section
variable {K : PySem.W.Frag} {ct : Nat → Addr} {F F' G G' H H' B B' : Hp}
theorem Dts.pr : ∀ {ds : List D} {vs : List V}, Dts K ct F ds vs → Pr (Dt K ct F) ds vs
  | _, _, .nil => .nil
  | _, _, .cons h t => .cons h (Dts.pr t)
theorem Dts.of : ∀ {ds : List D} {vs : List V}, Pr (Dt K ct F) ds vs → Dts K ct F ds vs
  | _, _, .nil => .nil
  | _, _, .cons h t => .cons h (Dts.of t)
mutual
theorem Dt.mono (s : Same F F') : ∀ {d : D} {v : V}, Dt K ct F d v → Dt K ct F' d v
  | _, _, .non => .non
  | _, _, .bl b => .bl b
  | _, _, .int i => .int i
  | _, _, .str x => .str x
  | _, _, .lst h t => .lst (s.seq h) (Dts.mono s t)
  | _, _, .tup h t => .tup (s _ _ h) (Dts.mono s t)
  | _, _, .dK h l t => .dK (s _ _ h) l (Dts.mono s t)
  | _, _, .dT h l t => .dT (s _ _ h) l (Dts.mono s t)
  | _, _, .obj h l t => .obj (s _ _ h) l (Dts.mono s t)
theorem Dts.mono (s : Same F F') : ∀ {ds : List D} {vs : List V}, Dts K ct F ds vs → Dts K ct F' ds vs
  | _, _, .nil => .nil
  | _, _, .cons h t => .cons (Dt.mono s h) (Dts.mono s t)
end
end

/-- a value without a heap -/
def D.sc : D → Bool
  | .non => true | .bl _ => true | .int _ => true | .str _ => true | _ => false

/-- a container's cell in G, its items by R -/
inductive AlC (K : PySem.W.Frag) (F G : Hp) (R : D → V → Prop) : D → V → Prop
  | lst {a : Addr} {vs : List V} {ds : List D} : G a = some (.lst vs) → Pr R ds vs → AlC K F G R (.lst ds) (.ref a)
  | tup {a : Addr} {vs : List V} {ds : List D} : F a = some (.tup vs) → Pr R ds vs → AlC K F G R (.tup ds) (.ref a)
  | dK {a : Addr} {ks : List Key} {vs : List V} {ds : List D} : G a = some (.dK (ks.zip vs)) → ks.length = vs.length → Pr R ds vs → AlC K F G R (.dK ks ds) (.ref a)
  | dT {a : Addr} {ks : List (List Key)} {vs : List V} {ds : List D} : G a = some (.dT (ks.zip vs)) → ks.length = vs.length → Pr R ds vs → AlC K F G R (.dT ks ds) (.ref a)
/-- v is d: in F, or down to depth n by cells in G -/
def Al (K : PySem.W.Frag) (ct : Nat → Addr) (F G : Hp) : Nat → D → V → Prop
  | 0, d, v => Dt K ct F d v
  | n + 1, d, v => Dt K ct F d v ∨ AlC K F G (Al K ct F G n) d v
/-- items and the cells that they own -/
inductive OwL (R : D → V → List Addr → Prop) : List D → List V → List Addr → Prop
  | nil : OwL R [] [] []
  | cons {d : D} {v : V} {ds : List D} {vs : List V} {f g : List Addr} : R d v f → OwL R ds vs g → OwL R (d :: ds) (v :: vs) (f ++ g)
inductive OwC (K : PySem.W.Frag) (F H : Hp) (R : D → V → List Addr → Prop) : D → V → List Addr → Prop
  | lst {a : Addr} {vs : List V} {ds : List D} {fp : List Addr} : F a = none → H a = some (.lst vs) → OwL R ds vs fp → OwC K F H R (.lst ds) (.ref a) (a :: fp)
  | tup {a : Addr} {vs : List V} {ds : List D} {fp : List Addr} : F a = some (.tup vs) → OwL R ds vs fp → OwC K F H R (.tup ds) (.ref a) fp
  | dK {a : Addr} {ks : List Key} {vs : List V} {ds : List D} {fp : List Addr} : F a = none → H a = some (.dK (ks.zip vs)) → ks.length = vs.length → OwL R ds vs fp → OwC K F H R (.dK ks ds) (.ref a) (a :: fp)
  | dT {a : Addr} {ks : List (List Key)} {vs : List V} {ds : List D} {fp : List Addr} : F a = none → H a = some (.dT (ks.zip vs)) → ks.length = vs.length → OwL R ds vs fp → OwC K F H R (.dT ks ds) (.ref a) (a :: fp)
/-- v is d, its cells down to depth n no one else's: fp -/
def Ow (K : PySem.W.Frag) (ct : Nat → Addr) (F H : Hp) : Nat → D → V → List Addr → Prop
  | 0, d, v, fp => Dt K ct F d v ∧ fp = []
  | n + 1, d, v, fp => (d.sc = true ∧ Dt K ct F d v ∧ fp = []) ∨ OwC K F H (Ow K ct F H n) d v fp

/-- the heap grows: shared F to F', all H to H'; what was not shared stays so -/
structure Ext (F H F' H' : Hp) : Prop where
  ff : Same F F'
  hh : Same H H'
  fh : Same F' H'
  nf : ∀ a o, H a = some o → F a = none → F' a = none
theorem Ext.refl {F H : Hp} (h : Same F H) : Ext F H F H := ⟨.refl _, .refl _, h, fun _ _ _ h => h⟩
theorem Ext.trans {F H F1 H1 F2 H2 : Hp} (a : Ext F H F1 H1) (b : Ext F1 H1 F2 H2) : Ext F H F2 H2 :=
  ⟨a.ff.trans b.ff, a.hh.trans b.hh, b.fh, fun c o h n => b.nf c o (a.hh _ _ h) (a.nf c o h n)⟩
theorem Ext.newO {F H : Hp} {p : Addr} (s : Same F H) (h : H p = none) (o : HO) : Ext F H F (upd H p o) :=
  ⟨.refl _, same_new h o, s.trans (same_new h o), fun _ _ _ h => h⟩
theorem Ext.newS {F H : Hp} {p : Addr} (s : Same F H) (h : H p = none) (o : HO) : Ext F H (upd F p o) (upd H p o) :=
  ⟨same_new (s.free h) o, same_new h o, fun b u q => by
    by_cases e : b = p
    · subst e; rw [upd_same] at q ⊢; exact q
    · rw [upd_ne e] at q ⊢; exact s _ _ q,
   fun b u q n => by rw [upd_ne (ne_of_none q h)]; exact n⟩

section
variable {K : PySem.W.Frag} {ct : Nat → Addr} {F F' G G' H H' B B' : Hp}
theorem Al.mono (sF : Same F F') (sG : Same G G') : ∀ {n : Nat} {d : D} {v : V}, Al K ct F G n d v → Al K ct F' G' n d v
  | 0, _, _, h => Dt.mono sF h
  | n + 1, _, _, .inl h => .inl (Dt.mono sF h)
  | n + 1, _, _, .inr (.lst h p) => .inr (.lst (sG _ _ h) (p.mono fun _ _ q => Al.mono sF sG q))
  | n + 1, _, _, .inr (.tup h p) => .inr (.tup (sF _ _ h) (p.mono fun _ _ q => Al.mono sF sG q))
  | n + 1, _, _, .inr (.dK h l p) => .inr (.dK (sG _ _ h) l (p.mono fun _ _ q => Al.mono sF sG q))
  | n + 1, _, _, .inr (.dT h l p) => .inr (.dT (sG _ _ h) l (p.mono fun _ _ q => Al.mono sF sG q))
theorem Al.of : ∀ {n : Nat} {d : D} {v : V}, Dt K ct F d v → Al K ct F G n d v
  | 0, _, _, h => h
  | _ + 1, _, _, h => .inl h
theorem Al.up : ∀ {n m : Nat} {d : D} {v : V}, Al K ct F G n d v → n ≤ m → Al K ct F G m d v
  | 0, _, _, _, h, _ => Al.of h
  | n + 1, 0, _, _, _, l => absurd l (by omega)
  | n + 1, m + 1, _, _, .inl h, _ => .inl h
  | n + 1, m + 1, _, _, .inr (.lst h p), l => .inr (.lst h (p.mono fun _ _ q => Al.up q (by omega)))
  | n + 1, m + 1, _, _, .inr (.tup h p), l => .inr (.tup h (p.mono fun _ _ q => Al.up q (by omega)))
  | n + 1, m + 1, _, _, .inr (.dK h e p), l => .inr (.dK h e (p.mono fun _ _ q => Al.up q (by omega)))
  | n + 1, m + 1, _, _, .inr (.dT h e p), l => .inr (.dT h e (p.mono fun _ _ q => Al.up q (by omega)))
/-- values without a heap are the same anywhere -/
theorem Dt.scal {d : D} {v : V} (h : Dt K ct F d v) (hs : d.sc = true) : Dt K ct F' d v := by
  cases h with
  | non => exact .non
  | bl b => exact .bl b
  | int i => exact .int i
  | str x => exact .str x
  | lst _ _ => cases hs
  | tup _ _ => cases hs
  | dK _ _ _ => cases hs
  | dT _ _ _ => cases hs
  | obj _ _ _ => cases hs
theorem Al.scal {n : Nat} {d : D} {v : V} (h : Al K ct F G n d v) (hs : d.sc = true) : Dt K ct F' d v := by
  cases n with
  | zero => exact Dt.scal h hs
  | succ n =>
    rcases h with h | h
    · exact h.scal hs
    · cases h <;> cases hs
theorem Al.int {n : Nat} {i : Int} {v : V} (h : Al K ct F G n (.int i) v) : v = .int i := by
  have q := Al.scal (F' := F) h rfl
  cases q; rfl
theorem Al.bl {n : Nat} {b : Bool} {v : V} (h : Al K ct F G n (.bl b) v) : v = .bl b := by
  have q := Al.scal (F' := F) h rfl
  cases q; rfl
theorem Al.str {n : Nat} {x : Str} {v : V} (h : Al K ct F G n (.str x) v) : v = .str x := by
  have q := Al.scal (F' := F) h rfl
  cases q; rfl
theorem Al.non {n : Nat} {v : V} (h : Al K ct F G n .non v) : v = .non := by
  have q := Al.scal (F' := F) h rfl
  cases q; rfl
theorem Al.lst {n : Nat} {ds : List D} {v : V} (h : Al K ct F G n (.lst ds) v) (s : Same F G) : ∃ a vs, v = .ref a ∧ SqL K G a vs ∧ Pr (Al K ct F G (n - 1)) ds vs := by
  cases n with
  | zero =>
    have h : Dt K ct F (.lst ds) v := h
    cases h with
    | lst q t => exact ⟨_, _, rfl, s.seq q, t.pr⟩
  | succ n =>
    rcases h with h | h
    · cases h with
      | lst q t => exact ⟨_, _, rfl, s.seq q, t.pr.mono fun _ _ => Al.of⟩
    · cases h with
      | lst q t => exact ⟨_, _, rfl, SqL.of q, t⟩
theorem Al.tup {n : Nat} {ds : List D} {v : V} (h : Al K ct F G n (.tup ds) v) (s : Same F G) : ∃ a vs, v = .ref a ∧ G a = some (.tup vs) ∧ Pr (Al K ct F G (n - 1)) ds vs := by
  cases n with
  | zero =>
    have h : Dt K ct F (.tup ds) v := h
    cases h with
    | tup q t => exact ⟨_, _, rfl, s _ _ q, t.pr⟩
  | succ n =>
    rcases h with h | h
    · cases h with
      | tup q t => exact ⟨_, _, rfl, s _ _ q, t.pr.mono fun _ _ => Al.of⟩
    · cases h with
      | tup q t => exact ⟨_, _, rfl, s _ _ q, t⟩
theorem Al.dK {n : Nat} {ks : List Key} {ds : List D} {v : V} (h : Al K ct F G n (.dK ks ds) v) (s : Same F G) : ∃ a vs, v = .ref a ∧ G a = some (.dK (ks.zip vs)) ∧ ks.length = vs.length ∧ Pr (Al K ct F G (n - 1)) ds vs := by
  cases n with
  | zero =>
    have h : Dt K ct F (.dK ks ds) v := h
    cases h with
    | dK q l t => exact ⟨_, _, rfl, s _ _ q, l, t.pr⟩
  | succ n =>
    rcases h with h | h
    · cases h with
      | dK q l t => exact ⟨_, _, rfl, s _ _ q, l, t.pr.mono fun _ _ => Al.of⟩
    · cases h with
      | dK q l t => exact ⟨_, _, rfl, q, l, t⟩
theorem Al.dT {n : Nat} {ks : List (List Key)} {ds : List D} {v : V} (h : Al K ct F G n (.dT ks ds) v) (s : Same F G) : ∃ a vs, v = .ref a ∧ G a = some (.dT (ks.zip vs)) ∧ ks.length = vs.length ∧ Pr (Al K ct F G (n - 1)) ds vs := by
  cases n with
  | zero =>
    have h : Dt K ct F (.dT ks ds) v := h
    cases h with
    | dT q l t => exact ⟨_, _, rfl, s _ _ q, l, t.pr⟩
  | succ n =>
    rcases h with h | h
    · cases h with
      | dT q l t => exact ⟨_, _, rfl, s _ _ q, l, t.pr.mono fun _ _ => Al.of⟩
    · cases h with
      | dT q l t => exact ⟨_, _, rfl, q, l, t⟩
theorem Al.obj {n : Nat} {c : Nat} {ns : List Str} {ds : List D} {v : V} (h : Al K ct F G n (.obj c ns ds) v) : ∃ a dx vs, v = .ref a ∧ F a = some (.ins (ct c) dx (ns.zip vs)) ∧ ns.length = vs.length ∧ Dts K ct F ds vs := by
  cases n with
  | zero =>
    have h : Dt K ct F (.obj c ns ds) v := h
    cases h with
    | obj q l t => exact ⟨_, _, _, rfl, q, l, t⟩
  | succ n =>
    rcases h with h | h
    · cases h with
      | obj q l t => exact ⟨_, _, _, rfl, q, l, t⟩
    · cases h

/-! ### what is owned -/
theorem OwL.mono {R R' : D → V → List Addr → Prop} : ∀ {ds : List D} {vs : List V} {fp : List Addr}, OwL R ds vs fp → (∀ d v f, (∀ a ∈ f, a ∈ fp) → R d v f → R' d v f) → OwL R' ds vs fp
  | _, _, _, .nil, _ => .nil
  | _, _, _, .cons h t, q => .cons (q _ _ _ (fun a z => List.mem_append_left _ z) h) (OwL.mono t fun d v f i r => q d v f (fun a z => List.mem_append_right _ (i a z)) r)
theorem OwL.pr {R : D → V → List Addr → Prop} {R' : D → V → Prop} : ∀ {ds : List D} {vs : List V} {fp : List Addr}, OwL R ds vs fp → (∀ d v f, (∀ a ∈ f, a ∈ fp) → R d v f → R' d v) → Pr R' ds vs
  | _, _, _, .nil, _ => .nil
  | _, _, _, .cons h t, q => .cons (q _ _ _ (fun a z => List.mem_append_left _ z) h) (OwL.pr t fun d v f i r => q d v f (fun a z => List.mem_append_right _ (i a z)) r)
theorem OwL.ofPr {R : D → V → List Addr → Prop} : ∀ {ds : List D} {vs : List V}, Pr (fun d v => R d v []) ds vs → OwL R ds vs []
  | _, _, .nil => .nil
  | _, _, .cons h t => OwL.cons (f := []) (g := []) h (OwL.ofPr t)
theorem OwL.append {R : D → V → List Addr → Prop} : ∀ {ds es : List D} {vs us : List V} {f g : List Addr}, OwL R ds vs f → OwL R es us g → OwL R (ds ++ es) (vs ++ us) (f ++ g)
  | _, _, _, _, _, _, .nil, s => s
  | _, _, _, _, _, _, .cons h t, s => by rw [List.append_assoc]; exact .cons h (OwL.append t s)
theorem OwL.length {R : D → V → List Addr → Prop} : ∀ {ds : List D} {vs : List V} {fp : List Addr}, OwL R ds vs fp → ds.length = vs.length
  | _, _, _, .nil => rfl
  | _, _, _, .cons _ t => by simp [OwL.length t]
/-- through growth and changes elsewhere -/
theorem Ow.frame (sF : Same F F') : ∀ {n : Nat} {d : D} {v : V} {fp : List Addr}, Ow K ct F H n d v fp → (∀ a ∈ fp, H' a = H a ∧ F' a = none) → Ow K ct F' H' n d v fp
  | 0, _, _, _, ⟨h, e⟩, _ => ⟨h.mono sF, e⟩
  | n + 1, _, _, _, .inl ⟨c, h, e⟩, _ => .inl ⟨c, h.mono sF, e⟩
  | n + 1, _, _, _, .inr (.lst hn h p), k => .inr (.lst (k _ List.mem_cons_self).2 ((k _ List.mem_cons_self).1.trans h) (p.mono fun _ _ _ i q => Ow.frame sF q fun a z => k a (List.mem_cons_of_mem _ (i a z))))
  | n + 1, _, _, _, .inr (.tup h p), k => .inr (.tup (sF _ _ h) (p.mono fun _ _ _ i q => Ow.frame sF q fun a z => k a (i a z)))
  | n + 1, _, _, _, .inr (.dK hn h l p), k => .inr (.dK (k _ List.mem_cons_self).2 ((k _ List.mem_cons_self).1.trans h) l (p.mono fun _ _ _ i q => Ow.frame sF q fun a z => k a (List.mem_cons_of_mem _ (i a z))))
  | n + 1, _, _, _, .inr (.dT hn h l p), k => .inr (.dT (k _ List.mem_cons_self).2 ((k _ List.mem_cons_self).1.trans h) l (p.mono fun _ _ _ i q => Ow.frame sF q fun a z => k a (List.mem_cons_of_mem _ (i a z))))
/-- the cells are there and not shared -/
theorem Ow.cells : ∀ {n : Nat} {d : D} {v : V} {fp : List Addr}, Ow K ct F H n d v fp → ∀ a ∈ fp, F a = none ∧ ∃ o, H a = some o
  | 0, _, _, _, ⟨_, e⟩, a, z => by subst e; cases z
  | n + 1, _, _, _, .inl ⟨_, _, e⟩, a, z => by subst e; cases z
  | n + 1, _, _, _, .inr (.lst hn h p), a, z => by
    rcases List.mem_cons.mp z with rfl | z
    · exact ⟨hn, _, h⟩
    · exact OwL.cells (fun d v f q => Ow.cells q) p a z
  | n + 1, _, _, _, .inr (.tup h p), a, z => OwL.cells (fun d v f q => Ow.cells q) p a z
  | n + 1, _, _, _, .inr (.dK hn h l p), a, z => by
    rcases List.mem_cons.mp z with rfl | z
    · exact ⟨hn, _, h⟩
    · exact OwL.cells (fun d v f q => Ow.cells q) p a z
  | n + 1, _, _, _, .inr (.dT hn h l p), a, z => by
    rcases List.mem_cons.mp z with rfl | z
    · exact ⟨hn, _, h⟩
    · exact OwL.cells (fun d v f q => Ow.cells q) p a z
where
  OwL.cells {R : D → V → List Addr → Prop} (k : ∀ d v f, R d v f → ∀ a ∈ f, F a = none ∧ ∃ o, H a = some o) : ∀ {ds : List D} {vs : List V} {fp : List Addr}, OwL R ds vs fp → ∀ a ∈ fp, F a = none ∧ ∃ o, H a = some o
  | _, _, _, .nil, a, z => by cases z
  | _, _, _, .cons h t, a, z => (List.mem_append.mp z).elim (fun z => k _ _ _ h a z) fun z => OwL.cells k t a z
theorem Ow.ext {n : Nat} {d : D} {v : V} {fp : List Addr} (h : Ow K ct F H n d v fp) (e : Ext F H F' H') : Ow K ct F' H' n d v fp :=
  h.frame e.ff fun a z => by
    obtain ⟨hn, o, ho⟩ := h.cells a z
    exact ⟨(e.hh _ _ ho).trans ho.symm, e.nf a o ho hn⟩
theorem Ow.al (s : Same F H) : ∀ {n : Nat} {d : D} {v : V} {fp : List Addr}, Ow K ct F H n d v fp → Al K ct F H n d v
  | 0, _, _, _, ⟨h, _⟩ => h
  | n + 1, _, _, _, .inl ⟨_, h, _⟩ => .inl h
  | n + 1, _, _, _, .inr (.lst hn h p) => .inr (.lst h (p.pr fun _ _ _ _ q => Ow.al s q))
  | n + 1, _, _, _, .inr (.tup h p) => .inr (.tup h (p.pr fun _ _ _ _ q => Ow.al s q))
  | n + 1, _, _, _, .inr (.dK hn h l p) => .inr (.dK h l (p.pr fun _ _ _ _ q => Ow.al s q))
  | n + 1, _, _, _, .inr (.dT hn h l p) => .inr (.dT h l (p.pr fun _ _ _ _ q => Ow.al s q))
/-- made shared -/
theorem Ow.dt (sF : Same F F') : ∀ {n : Nat} {d : D} {v : V} {fp : List Addr}, Ow K ct F H n d v fp → (∀ a ∈ fp, F' a = H a) → Dt K ct F' d v
  | 0, _, _, _, ⟨h, _⟩, _ => h.mono sF
  | n + 1, _, _, _, .inl ⟨_, h, _⟩, _ => h.mono sF
  | n + 1, _, _, _, .inr (.lst hn h p), k => .lst (SqL.of ((k _ List.mem_cons_self).trans h)) (.of (p.pr fun _ _ _ i q => Ow.dt sF q fun a z => k a (List.mem_cons_of_mem _ (i a z))))
  | n + 1, _, _, _, .inr (.tup h p), k => .tup (sF _ _ h) (.of (p.pr fun _ _ _ i q => Ow.dt sF q fun a z => k a (i a z)))
  | n + 1, _, _, _, .inr (.dK hn h l p), k => .dK ((k _ List.mem_cons_self).trans h) l (.of (p.pr fun _ _ _ i q => Ow.dt sF q fun a z => k a (List.mem_cons_of_mem _ (i a z))))
  | n + 1, _, _, _, .inr (.dT hn h l p), k => .dT ((k _ List.mem_cons_self).trans h) l (.of (p.pr fun _ _ _ i q => Ow.dt sF q fun a z => k a (List.mem_cons_of_mem _ (i a z))))
/-- F with the cells at fp -/
def withC (F H : Hp) (fp : List Addr) : Hp := fun a => if a ∈ fp then H a else F a
theorem withC_ext {fp : List Addr} (s : Same F H) (hf : ∀ a ∈ fp, F a = none) : Same F (withC F H fp) ∧ Same (withC F H fp) H ∧ ∀ a ∈ fp, withC F H fp a = H a := by
  refine ⟨fun a o h => ?_, fun a o h => ?_, fun a z => if_pos z⟩
  · have : ¬ a ∈ fp := fun z => by rw [hf a z] at h; cases h
    unfold withC; rw [if_neg this]; exact h
  · unfold withC at h
    by_cases z : a ∈ fp
    · rw [if_pos z] at h; exact h
    · rw [if_neg z] at h; exact s _ _ h
theorem Ow.freeze {n : Nat} {d : D} {v : V} {fp : List Addr} {F0 H0 : Hp} (h : Ow K ct F H n d v fp) (e : Ext F0 H0 F H) (hf : ∀ a ∈ fp, H0 a = none) : ∃ F', Ext F0 H0 F' H ∧ Dt K ct F' d v := by
  obtain ⟨w1, w2, w3⟩ := withC_ext (fp := fp) e.fh (fun a z => (h.cells a z).1)
  refine ⟨withC F H fp, ⟨e.ff.trans w1, e.hh, w2, fun a o ho hn => ?_⟩, h.dt w1 w3⟩
  have : ¬ a ∈ fp := fun z => by rw [hf a z] at ho; cases ho
  unfold withC; rw [if_neg this]; exact e.nf a o ho hn
theorem Ow.zero {d : D} {v : V} (h : Dt K ct F d v) : Ow K ct F H 0 d v [] := ⟨h, rfl⟩
theorem Ow.scal {n : Nat} {d : D} {v : V} (h : Dt K ct F d v) (hs : d.sc = true) : Ow K ct F H n d v [] := by
  cases n with
  | zero => exact ⟨h, rfl⟩
  | succ n => exact .inl ⟨hs, h, rfl⟩
end
end L3

/-! ## the names of a def as data; expressions as functions of them -/
namespace L3
open PySem PySem.Spec L2
open PyProof.Rows hiding St

abbrev Env := List (Option D)
/-- lent: by cells of the entry's heap down to depth n; owned down to depth n (0: shared) -/
inductive Mo where
  | al (n : Nat) | ow (n : Nat) | px (v : V)
def Mo.lv : Mo → Nat
  | .al n => n
  | .ow n => n
  | .px _ => 1
section
variable (K : PySem.W.Frag) (ct : Nat → Addr)
inductive SL (F B H : Hp) : List Mo → Env → St → List Addr → Prop
  | nil : SL F B H [] [] [] []
  | no {m : Mo} {o : Option V} {ms : List Mo} {ρ : Env} {σ : St} {fp : List Addr} : SL F B H ms ρ σ fp → SL F B H (m :: ms) (none :: ρ) (o :: σ) fp
  | al {n : Nat} {d : D} {v : V} {ms : List Mo} {ρ : Env} {σ : St} {fp : List Addr} : Al K ct F B n d v → SL F B H ms ρ σ fp → SL F B H (.al n :: ms) (some d :: ρ) (some v :: σ) fp
  | px {d : D} {v : V} {ms : List Mo} {ρ : Env} {σ : St} {fp : List Addr} : Al K ct F B 1 d v → SL F B H ms ρ σ fp → SL F B H (.px v :: ms) (some d :: ρ) (some v :: σ) fp
  | ow {n : Nat} {d : D} {v : V} {ms : List Mo} {ρ : Env} {σ : St} {f fp : List Addr} : Ow K ct F H n d v f → SL F B H ms ρ σ fp → SL F B H (.ow n :: ms) (some d :: ρ) (some v :: σ) (f ++ fp)
/-- the frame at hand: F0, B the entry's shared part and the part that stays -/
structure RS (F0 B : Hp) (ms : List Mo) (F H : Hp) (ρ : Env) (σ : St) : Prop where
  f0 : Same F0 F
  bh : Same B H
  fh : Same F H
  nf : ∀ a o, B a = some o → F0 a = none → F a = none
  sl : ∃ fp, SL K ct F B H ms ρ σ fp ∧ fp.Nodup ∧ ∀ a ∈ fp, B a = none
end
section
variable {K : PySem.W.Frag} {ct : Nat → Addr} {F F' G G' H H' B B' F0 : Hp} {ms : List Mo} {ρ : Env} {σ : St}
theorem SL.cells : ∀ {ms : List Mo} {ρ : Env} {σ : St} {fp : List Addr}, SL K ct F B H ms ρ σ fp → ∀ a ∈ fp, F a = none ∧ ∃ o, H a = some o
  | _, _, _, _, .nil, _, z => by cases z
  | _, _, _, _, .no t, a, z => SL.cells t a z
  | _, _, _, _, .al _ t, a, z => SL.cells t a z
  | _, _, _, _, .px _ t, a, z => SL.cells t a z
  | _, _, _, _, .ow h t, a, z => (List.mem_append.mp z).elim (fun z => h.cells a z) fun z => SL.cells t a z
theorem SL.frame (sF : Same F F') : ∀ {ms : List Mo} {ρ : Env} {σ : St} {fp : List Addr}, SL K ct F B H ms ρ σ fp → (∀ a ∈ fp, H' a = H a ∧ F' a = none) → SL K ct F' B H' ms ρ σ fp
  | _, _, _, _, .nil, _ => .nil
  | _, _, _, _, .no t, k => .no (SL.frame sF t k)
  | _, _, _, _, .al h t, k => .al (h.mono sF (.refl _)) (SL.frame sF t k)
  | _, _, _, _, .px h t, k => .px (h.mono sF (.refl _)) (SL.frame sF t k)
  | _, _, _, _, .ow h t, k => .ow (h.frame sF fun a z => k a (List.mem_append_left _ z)) (SL.frame sF t fun a z => k a (List.mem_append_right _ z))
theorem RS.ext (r : RS K ct F0 B ms F H ρ σ) (e : Ext F H F' H') : RS K ct F0 B ms F' H' ρ σ := by
  obtain ⟨fp, s, nd, hb⟩ := r.sl
  refine ⟨r.f0.trans e.ff, r.bh.trans e.hh, e.fh, fun a o h n => e.nf a o (r.bh _ _ h) (r.nf a o h n), fp, s.frame e.ff fun a z => ?_, nd, hb⟩
  obtain ⟨hn, o, ho⟩ := s.cells a z
  exact ⟨(e.hh _ _ ho).trans ho.symm, e.nf a o ho hn⟩
/-- what a name holds -/
theorem SL.get : ∀ {ms : List Mo} {ρ : Env} {σ : St} {fp : List Addr} {i : Nat} {m : Mo} {d : D}, SL K ct F B H ms ρ σ fp → Same F H → Same B H → ms[i]? = some m → ρ[i]? = some (some d) → ∃ v, σ[i]? = some (some v) ∧ Al K ct F H m.lv d v
  | _, _, _, _, _, _, _, .nil, _, _, e, _ => by simp at e
  | _, _, _, _, 0, _, _, .no t, _, _, _, e => by simp at e
  | _, _, _, _, 0, _, _, .al h t, _, s, e, e' => by
    simp at e e'; subst e; subst e'
    exact ⟨_, rfl, h.mono (.refl _) s⟩
  | _, _, _, _, 0, _, _, .px h t, _, s, e, e' => by
    simp at e e'; subst e; subst e'
    exact ⟨_, rfl, h.mono (.refl _) s⟩
  | _, _, _, _, 0, _, _, .ow h t, s, _, e, e' => by
    simp at e e'; subst e; subst e'
    exact ⟨_, rfl, h.al s⟩
  | _, _, _, _, i + 1, _, _, .no t, s, s', e, e' => by simpa using SL.get (i := i) t s s' (by simpa using e) (by simpa using e')
  | _, _, _, _, i + 1, _, _, .al h t, s, s', e, e' => by simpa using SL.get (i := i) t s s' (by simpa using e) (by simpa using e')
  | _, _, _, _, i + 1, _, _, .px h t, s, s', e, e' => by simpa using SL.get (i := i) t s s' (by simpa using e) (by simpa using e')
  | _, _, _, _, i + 1, _, _, .ow h t, s, s', e, e' => by simpa using SL.get (i := i) t s s' (by simpa using e) (by simpa using e')
theorem RS.get (r : RS K ct F0 B ms F H ρ σ) {i : Nat} {m : Mo} {d : D} (hm : ms[i]? = some m) (e : ρ[i]? = some (some d)) : ∃ v, σ[i]? = some (some v) ∧ Al K ct F H m.lv d v := by
  obtain ⟨fp, s, _, _⟩ := r.sl
  exact s.get r.fh r.bh hm e
/-- one owned name apart from the others -/
theorem SL.put : ∀ {ms : List Mo} {ρ : Env} {σ : St} {fp : List Addr} {i k : Nat}, SL K ct F B H ms ρ σ fp → ms[i]? = some (.ow k) →
    ∃ f1 fr : List Addr, (∀ a ∈ f1, a ∈ fp) ∧ (∀ a ∈ fr, a ∈ fp) ∧ (fp.Nodup → f1.Nodup ∧ fr.Nodup ∧ ∀ a ∈ f1, a ∉ fr) ∧ (∀ d, ρ[i]? = some (some d) → ∃ v, σ[i]? = some (some v) ∧ Ow K ct F H k d v f1) ∧
      ∀ (F' H' : Hp) (d' : D) (v' : V) (f' : List Addr), Same F F' → (∀ a ∈ fr, H' a = H a ∧ F' a = none) → Ow K ct F' H' k d' v' f' →
        ∃ fp', SL K ct F' B H' ms (ρ.set i (some d')) (σ.set i (some v')) fp' ∧ (∀ a ∈ fp', a ∈ f' ∨ a ∈ fr) ∧ (f'.Nodup → fr.Nodup → (∀ a ∈ f', a ∉ fr) → fp'.Nodup)
  | _, _, _, _, _, _, .nil, e => by simp at e
  | _, _, _, fp, 0, k, .no t, e => by
    simp at e; subst e
    refine ⟨[], fp, fun a z => (by cases z), fun a z => z, fun n => ⟨List.nodup_nil, n, fun a z => (by cases z)⟩, fun d q => (by simp at q), fun F' H' d' v' f' s kf h => ⟨f' ++ fp, .ow h (t.frame s kf), fun a z => List.mem_append.mp z, fun n1 n2 dj => ?_⟩⟩
    exact List.nodup_append.mpr ⟨n1, n2, fun a z b zb e => dj a z (e ▸ zb)⟩
  | _, _, _, _, 0, k, .al h t, e => by simp at e
  | _, _, _, _, 0, k, .px h t, e => by simp at e
  | _, _, _, _, 0, k, .ow (f := f) (fp := fp) h t, e => by
    simp at e; subst e
    refine ⟨f, fp, fun a z => List.mem_append_left _ z, fun a z => List.mem_append_right _ z, fun n => ?_, fun d q => ?_, fun F' H' d' v' f' s kf h => ⟨f' ++ fp, .ow h (t.frame s kf), fun a z => List.mem_append.mp z, fun n1 n2 dj => ?_⟩⟩
    · obtain ⟨n1, n2, n3⟩ := List.nodup_append.mp n
      exact ⟨n1, n2, fun a z zb => n3 a z a zb rfl⟩
    · simp at q; subst q; exact ⟨_, rfl, h⟩
    · exact List.nodup_append.mpr ⟨n1, n2, fun a z b zb e => dj a z (e ▸ zb)⟩
  | _, _, _, _, i + 1, k, .no t, e => by
    obtain ⟨f1, fr, h1, h2, h3, h4, h5⟩ := SL.put (i := i) (k := k) t (by simpa using e)
    refine ⟨f1, fr, h1, h2, h3, fun d q => by simpa using h4 d (by simpa using q), fun F' H' d' v' f' s kf h => ?_⟩
    obtain ⟨fp', q1, q2, q3⟩ := h5 F' H' d' v' f' s kf h
    exact ⟨fp', .no q1, q2, q3⟩
  | _, _, _, _, i + 1, k, .al h t, e => by
    obtain ⟨f1, fr, h1, h2, h3, h4, h5⟩ := SL.put (i := i) (k := k) t (by simpa using e)
    refine ⟨f1, fr, h1, h2, h3, fun d q => by simpa using h4 d (by simpa using q), fun F' H' d' v' f' s kf h' => ?_⟩
    obtain ⟨fp', q1, q2, q3⟩ := h5 F' H' d' v' f' s kf h'
    exact ⟨fp', .al (h.mono s (.refl _)) q1, q2, q3⟩
  | _, _, _, _, i + 1, k, .px h t, e => by
    obtain ⟨f1, fr, h1, h2, h3, h4, h5⟩ := SL.put (i := i) (k := k) t (by simpa using e)
    refine ⟨f1, fr, h1, h2, h3, fun d q => by simpa using h4 d (by simpa using q), fun F' H' d' v' f' s kf h' => ?_⟩
    obtain ⟨fp', q1, q2, q3⟩ := h5 F' H' d' v' f' s kf h'
    exact ⟨fp', .px (h.mono s (.refl _)) q1, q2, q3⟩
  | _, _, _, _, i + 1, k, .ow (f := f) (fp := fp) h t, e => by
    obtain ⟨f1, fr, h1, h2, h3, h4, h5⟩ := SL.put (i := i) (k := k) t (by simpa using e)
    refine ⟨f1, f ++ fr, fun a z => List.mem_append_right _ (h1 a z), fun a z => (List.mem_append.mp z).elim (fun z => List.mem_append_left _ z) fun z => List.mem_append_right _ (h2 a z), fun n => ?_, fun d q => by simpa using h4 d (by simpa using q), fun F' H' d' v' f' s kf h' => ?_⟩
    · obtain ⟨n1, n2, n3⟩ := List.nodup_append.mp n
      obtain ⟨m1, m2, m3⟩ := h3 n2
      refine ⟨m1, List.nodup_append.mpr ⟨n1, m2, fun a z b zb => n3 a z b (h2 b zb)⟩, fun a z zb => ?_⟩
      rcases List.mem_append.mp zb with zb | zb
      · exact n3 a zb a (h1 a z) rfl
      · exact m3 a z zb
    · obtain ⟨fp', q1, q2, q3⟩ := h5 F' H' d' v' f' s (fun a z => kf a (List.mem_append_right _ z)) h'
      refine ⟨f ++ fp', .ow (h.frame s fun a z => kf a (List.mem_append_left _ z)) q1, fun a z => ?_, fun n1 n2 dj => ?_⟩
      · rcases List.mem_append.mp z with z | z
        · exact .inr (List.mem_append_left _ z)
        · exact (q2 a z).imp id fun z => List.mem_append_right _ z
      · obtain ⟨m1, m2, m3⟩ := List.nodup_append.mp n2
        refine List.nodup_append.mpr ⟨m1, q3 n1 m2 fun a z zb => dj a z (List.mem_append_right _ zb), fun a z b zb e => ?_⟩
        subst e
        rcases q2 a zb with zb | zb
        · exact dj a zb (List.mem_append_left _ z)
        · exact m3 a z a zb rfl
end

/-! ### judgments -/
abbrev EF := Env → Option D
/-- lists of arguments at their depths -/
inductive AlL (K : PySem.W.Frag) (ct : Nat → Addr) (F G : Hp) : List Nat → List D → List V → Prop
  | nil : AlL K ct F G [] [] []
  | cons {n : Nat} {d : D} {v : V} {ns : List Nat} {ds : List D} {vs : List V} : Al K ct F G n d v → AlL K ct F G ns ds vs → AlL K ct F G (n :: ns) (d :: ds) (v :: vs)
theorem AlL.mono {K : PySem.W.Frag} {ct : Nat → Addr} {F F' G G' : Hp} (sF : Same F F') (sG : Same G G') : ∀ {ns : List Nat} {ds : List D} {vs : List V}, AlL K ct F G ns ds vs → AlL K ct F' G' ns ds vs
  | _, _, _, .nil => .nil
  | _, _, _, .cons h t => .cons (h.mono sF sG) (AlL.mono sF sG t)
theorem AlL.length {K : PySem.W.Frag} {ct : Nat → Addr} {F G : Hp} : ∀ {ns : List Nat} {ds : List D} {vs : List V}, AlL K ct F G ns ds vs → vs.length = ns.length
  | _, _, _, .nil => rfl
  | _, _, _, .cons _ t => by simp [AlL.length t]
theorem AlL.length' {K : PySem.W.Frag} {ct : Nat → Addr} {F G : Hp} : ∀ {ns : List Nat} {ds : List D} {vs : List V}, AlL K ct F G ns ds vs → ds.length = vs.length
  | _, _, _, .nil => rfl
  | _, _, _, .cons _ t => by simp [AlL.length' t]
theorem AlL.append {K : PySem.W.Frag} {ct : Nat → Addr} {F G : Hp} {ns' : List Nat} {ds' : List D} {vs' : List V} (q : AlL K ct F G ns' ds' vs') : ∀ {ns : List Nat} {ds : List D} {vs : List V}, AlL K ct F G ns ds vs → AlL K ct F G (ns ++ ns') (ds ++ ds') (vs ++ vs')
  | _, _, _, .nil => q
  | _, _, _, .cons h t => .cons h (AlL.append q t)

section
variable (X : Cx) (ct : Nat → Addr) (ms : List Mo)
/-- e is worth f, as something to read -/
def XE (n : Nat) (e : Expr) (f : EF) : Prop := ∃ t, PE X e t ∧ ∀ (F0 B F H : Hp) (ρ : Env) (σ : St) (d : D) (Q : VK), RS X.K ct F0 B ms F H ρ σ → f ρ = some d →
  (∀ v F' H', Ext F H F' H' → Al X.K ct F' H' n d v → Q v H') → t σ H Q
/-- e is worth f, and it is the taker's own down to depth k -/
def XO (k : Nat) (e : Expr) (f : EF) : Prop := ∃ t, PE X e t ∧ ∀ (F0 B F H : Hp) (ρ : Env) (σ : St) (d : D) (Q : VK), RS X.K ct F0 B ms F H ρ σ → f ρ = some d →
  (∀ v F' H' fp, Ext F H F' H' → Ow X.K ct F' H' k d v fp → fp.Nodup → (∀ a ∈ fp, H a = none) → Q v H') → t σ H Q
def XT (e : Expr) (f : Env → Option Bool) : Prop := ∃ t, PT X e t ∧ ∀ (F0 B F H : Hp) (ρ : Env) (σ : St) (b : Bool) (Q : Bool → Hp → Prop), RS X.K ct F0 B ms F H ρ σ → f ρ = some b →
  (∀ F' H', Ext F H F' H' → Q b H') → t σ H Q
def XW (e : Expr) (f : Env → Option Bool) : Prop := ∃ t, PW X e t ∧ ∀ (F0 B F H : Hp) (ρ : Env) (σ : St) (b : Bool) (Q : Bool → Hp → Prop), RS X.K ct F0 B ms F H ρ σ → f ρ = some b →
  (∀ F' H', Ext F H F' H' → Q b H') → t σ H Q
def XA (es : List Expr) (ns : List Nat) (f : Env → Option (List D)) : Prop := ∃ t, PA X es t ∧ (∀ ρ ds, f ρ = some ds → ds.length = es.length) ∧ ∀ (F0 B F H : Hp) (ρ : Env) (σ : St) (ds : List D) (Q : List V → Hp → Prop), RS X.K ct F0 B ms F H ρ σ → f ρ = some ds →
  (∀ vs F' H', Ext F H F' H' → AlL X.K ct F' H' ns ds vs → Q vs H') → t σ H Q
end
/-- two operands -/
def e2 (op : D → D → Option D) (f g : EF) : EF := fun ρ => (f ρ).bind fun x => (g ρ).bind fun y => op x y
def e1 (op : D → Option D) (f : EF) : EF := fun ρ => (f ρ).bind op
def eN (op : List D → Option D) (f : Env → Option (List D)) : EF := fun ρ => (f ρ).bind op
def eC (d : D) : EF := fun _ => some d
def eV (i : Nat) : EF := fun ρ => (ρ[i]?).join
def aNil : Env → Option (List D) := fun _ => some []
def aCons (f : EF) (g : Env → Option (List D)) : Env → Option (List D) := fun ρ => (f ρ).bind fun x => (g ρ).bind fun xs => some (x :: xs)
theorem bind2 {α β γ : Type} {o : Option α} {p : Option β} {op : α → β → Option γ} {r : γ} (h : (o.bind fun x => p.bind fun y => op x y) = some r) : ∃ x y, o = some x ∧ p = some y ∧ op x y = some r := by
  cases o with
  | none => cases h
  | some x =>
    cases p with
    | none => cases h
    | some y => exact ⟨x, y, rfl, rfl, h⟩
theorem bind1 {α β : Type} {o : Option α} {op : α → Option β} {r : β} (h : o.bind op = some r) : ∃ x, o = some x ∧ op x = some r := by
  cases o with
  | none => cases h
  | some x => exact ⟨x, rfl, h⟩
theorem join_some {α : Type} {o : Option (Option α)} {x : α} (h : o.join = some x) : o = some (some x) := by
  cases o with
  | none => cases h
  | some y => exact congrArg some h

/-- what an operation on two values does -/
def Op2 (K : PySem.W.Frag) (ct : Nat → Addr) (n m k : Nat) (r : R2) (op : D → D → Option D) : Prop :=
  ∀ (F H : Hp) (x y : V) (d1 d2 d : D) (Q : VK), Same F H → Al K ct F H n d1 x → Al K ct F H m d2 y → op d1 d2 = some d → (∀ v F' H', Ext F H F' H' → Al K ct F' H' k d v → Q v H') → r x y H Q
def Op2O (K : PySem.W.Frag) (ct : Nat → Addr) (n m k : Nat) (r : R2) (op : D → D → Option D) : Prop :=
  ∀ (F H : Hp) (x y : V) (d1 d2 d : D) (Q : VK), Same F H → Al K ct F H n d1 x → Al K ct F H m d2 y → op d1 d2 = some d →
    (∀ v F' H' fp, Ext F H F' H' → Ow K ct F' H' k d v fp → fp.Nodup → (∀ a ∈ fp, H a = none) → Q v H') → r x y H Q
def OpN (K : PySem.W.Frag) (ct : Nat → Addr) (ns : List Nat) (k : Nat) (r : List V → Hp → VK → Prop) (op : List D → Option D) : Prop :=
  ∀ (F H : Hp) (vs : List V) (ds : List D) (d : D) (Q : VK), Same F H → AlL K ct F H ns ds vs → op ds = some d → (∀ v F' H', Ext F H F' H' → Al K ct F' H' k d v → Q v H') → r vs H Q
def OpNO (K : PySem.W.Frag) (ct : Nat → Addr) (ns : List Nat) (k : Nat) (r : List V → Hp → VK → Prop) (op : List D → Option D) : Prop :=
  ∀ (F H : Hp) (vs : List V) (ds : List D) (d : D) (Q : VK), Same F H → AlL K ct F H ns ds vs → op ds = some d →
    (∀ v F' H' fp, Ext F H F' H' → Ow K ct F' H' k d v fp → fp.Nodup → (∀ a ∈ fp, H a = none) → Q v H') → r vs H Q

section
variable {X : Cx} {ct : Nat → Addr} {ms : List Mo} {n m k : Nat} {a b c e : Expr} {f g h : EF} {pos : Pos}
theorem XE.up (he : XE X ct ms n e f) (hk : n ≤ k) : XE X ct ms k e f := by
  obtain ⟨t, p, q⟩ := he
  exact ⟨t, p, fun F0 B F H ρ σ d Q r e w => q F0 B F H ρ σ d Q r e fun v F' H' x l => w v F' H' x (l.up hk)⟩
theorem XO.sh (he : XO X ct ms k e f) : XE X ct ms n e f := by
  obtain ⟨t, p, q⟩ := he
  refine ⟨t, p, fun F0 B F H ρ σ d Q r e w => q F0 B F H ρ σ d Q r e fun v F' H' fp x o nd hf => ?_⟩
  obtain ⟨F2, x2, h2⟩ := o.freeze x hf
  exact w v F2 H' x2 (Al.of h2)
theorem XE.ow (he : XE X ct ms 0 e f) : XO X ct ms 0 e f := by
  obtain ⟨t, p, q⟩ := he
  exact ⟨t, p, fun F0 B F H ρ σ d Q r e w => q F0 B F H ρ σ d Q r e fun v F' H' x l => w v F' H' [] x ⟨l, rfl⟩ List.nodup_nil fun a z => (by cases z)⟩
/-- scalars are everyone's -/
theorem XE.sc (he : XE X ct ms n e f) (hs : ∀ ρ d, f ρ = some d → d.sc = true) : XO X ct ms k e f := by
  obtain ⟨t, p, q⟩ := he
  exact ⟨t, p, fun F0 B F H ρ σ d Q r e w => q F0 B F H ρ σ d Q r e fun v F' H' x l => w v F' H' [] x (Ow.scal (Al.scal l (hs _ _ e)) (hs _ _ e)) List.nodup_nil fun a z => (by cases z)⟩

theorem xe_var (i n : Nat) {x : Str} {m : Mo} (hm : ms[i]? = some m := by rfl) (hl : m.lv = n := by rfl) (hN : X.N[i]? = some x := by rfl) (hv : Vis X.env.scope x := by first | exact Or.inl rfl | exact Or.inr (Or.inl rfl) | exact Or.inr (Or.inr rfl)) (hd : (x == ("__debug__" : Str)) = false := by decide)
    (hcd : (x == ("__classdict__" : Str)) = false := by decide) : XE X ct ms n (.Name x pos) (eV i) := by
  subst hl
  refine ⟨_, pe_var hN hv hd hcd, fun F0 B F H ρ σ d Q r e w => ?_⟩
  obtain ⟨v, hv, l⟩ := r.get hm (join_some e)
  exact ⟨v, hv, w v F H (.refl r.fh) l⟩
theorem xe_int {i : Int} {j} : XE X ct ms n (.Constant (.int i) j pos) (eC (.int i)) := ⟨_, pe_int, fun F0 B F H ρ σ d Q r e w => by cases e; exact w _ F H (.refl r.fh) (Al.of (.int i))⟩
theorem xe_bl {i : Bool} {j} : XE X ct ms n (.Constant (.bool i) j pos) (eC (.bl i)) := ⟨_, pe_bl, fun F0 B F H ρ σ d Q r e w => by cases e; exact w _ F H (.refl r.fh) (Al.of (.bl i))⟩
theorem xe_str {i : Str} {j} : XE X ct ms n (.Constant (.str i) j pos) (eC (.str i)) := ⟨_, pe_str, fun F0 B F H ρ σ d Q r e w => by cases e; exact w _ F H (.refl r.fh) (Al.of (.str i))⟩
theorem xe_non {j} : XE X ct ms n (.Constant .none j pos) (eC .non) := ⟨_, pe_non, fun F0 B F H ρ σ d Q r e w => by cases e; exact w _ F H (.refl r.fh) (Al.of .non)⟩
/-- two parts, then something -/
theorem XE.bin (ha : XE X ct ms n a f) (hb : XE X ct ms m b g) : ∃ ta tb, PE X a ta ∧ PE X b tb ∧ ∀ (F0 B F H : Hp) (ρ : Env) (σ : St) (d1 d2 : D) (R : V → V → Hp → Prop), RS X.K ct F0 B ms F H ρ σ → f ρ = some d1 → g ρ = some d2 →
    (∀ x y F' H', Ext F H F' H' → Al X.K ct F' H' n d1 x → Al X.K ct F' H' m d2 y → R x y H') → ta σ H fun x H1 => tb σ H1 fun y H2 => R x y H2 := by
  obtain ⟨ta, pa, qa⟩ := ha
  obtain ⟨tb, pb, qb⟩ := hb
  refine ⟨ta, tb, pa, pb, fun F0 B F H ρ σ d1 d2 R r e1 e2 w => qa F0 B F H ρ σ d1 _ r e1 fun x F1 H1 x1 l1 => ?_⟩
  exact qb F0 B F1 H1 ρ σ d2 _ (r.ext x1) e2 fun y F2 H2 x2 l2 => w x y F2 H2 (x1.trans x2) (l1.mono x2.ff x2.hh) l2
theorem xe_op {op : Operator} {r : R2} {o : D → D → Option D} (ho : OpR X (binaryOp op) r) (hs : Op2 X.K ct n m k r o) (ha : XE X ct ms n a f) (hb : XE X ct ms m b g) : XE X ct ms k (.BinOp a op b pos) (e2 o f g) := by
  obtain ⟨ta, tb, pa, pb, q⟩ := ha.bin hb
  refine ⟨_, pe_op ho pa pb, fun F0 B F H ρ σ d Q rs e w => ?_⟩
  obtain ⟨d1, d2, h1, h2, h3⟩ := bind2 e
  exact q F0 B F H ρ σ d1 d2 _ rs h1 h2 fun x y F' H' x1 l1 l2 => hs F' H' x y d1 d2 d Q x1.fh l1 l2 h3 fun v F2 H2 x2 l => w v F2 H2 (x1.trans x2) l
theorem xo_op {op : Operator} {r : R2} {o : D → D → Option D} (ho : OpR X (binaryOp op) r) (hs : Op2O X.K ct n m k r o) (ha : XE X ct ms n a f) (hb : XE X ct ms m b g) : XO X ct ms k (.BinOp a op b pos) (e2 o f g) := by
  obtain ⟨ta, tb, pa, pb, q⟩ := ha.bin hb
  refine ⟨_, pe_op ho pa pb, fun F0 B F H ρ σ d Q rs e w => ?_⟩
  obtain ⟨d1, d2, h1, h2, h3⟩ := bind2 e
  exact q F0 B F H ρ σ d1 d2 _ rs h1 h2 fun x y F' H' x1 l1 l2 => hs F' H' x y d1 d2 d Q x1.fh l1 l2 h3 fun v F2 H2 fp x2 l nd hf => w v F2 H2 fp (x1.trans x2) l nd fun z hz => x1.hh.free (hf z hz)
theorem xe_cmp {op : CmpOp} {r : R2} {o : D → D → Option D} (ho : OpR X (compareOp op) r) (hs : Op2 X.K ct n m k r o) (ha : XE X ct ms n a f) (hb : XE X ct ms m b g) (hm : behindInMarks op b = false) : XE X ct ms k (.Compare a [op] [b] pos) (e2 o f g) := by
  obtain ⟨ta, tb, pa, pb, q⟩ := ha.bin hb
  refine ⟨_, pe_cmpR ho pa pb hm, fun F0 B F H ρ σ d Q rs e w => ?_⟩
  obtain ⟨d1, d2, h1, h2, h3⟩ := bind2 e
  exact q F0 B F H ρ σ d1 d2 _ rs h1 h2 fun x y F' H' x1 l1 l2 => hs F' H' x y d1 d2 d Q x1.fh l1 l2 h3 fun v F2 H2 x2 l => w v F2 H2 (x1.trans x2) l
theorem xe_ix {r : R2} {o : D → D → Option D} (hr : IxR X r) (hs : Op2 X.K ct n m k r o) (ha : XE X ct ms n a f) (hb : XE X ct ms m b g) (hp : PlainIx b) : XE X ct ms k (.Subscript a b pos) (e2 o f g) := by
  obtain ⟨ta, tb, pa, pb, q⟩ := ha.bin hb
  refine ⟨_, pe_ix hr pa pb hp, fun F0 B F H ρ σ d Q rs e w => ?_⟩
  obtain ⟨d1, d2, h1, h2, h3⟩ := bind2 e
  exact q F0 B F H ρ σ d1 d2 _ rs h1 h2 fun x y F' H' x1 l1 l2 => hs F' H' x y d1 d2 d Q x1.fh l1 l2 h3 fun v F2 H2 x2 l => w v F2 H2 (x1.trans x2) l
theorem xe_un {op : UnaryOp} {r : V → Hp → VK → Prop} {o : D → Option D} (ho : UnR X (unaryOp op) r)
    (hs : ∀ (F H : Hp) (x : V) (d1 d : D) (Q : VK), Same F H → Al X.K ct F H n d1 x → o d1 = some d → (∀ v F' H', Ext F H F' H' → Al X.K ct F' H' k d v → Q v H') → r x H Q) (ha : XE X ct ms n a f) : XE X ct ms k (.UnaryOp op a pos) (e1 o f) := by
  obtain ⟨ta, pa, qa⟩ := ha
  refine ⟨_, pe_un ho pa, fun F0 B F H ρ σ d Q rs e w => ?_⟩
  obtain ⟨d1, h1, h2⟩ := bind1 e
  exact qa F0 B F H ρ σ d1 _ rs h1 fun x F' H' x1 l1 => hs F' H' x d1 d Q x1.fh l1 h2 fun v F2 H2 x2 l => w v F2 H2 (x1.trans x2) l
/-! ### argument lists -/
theorem xa_nil : XA X ct ms [] [] aNil := ⟨_, pa_nil, fun ρ ds e => (by cases e; rfl), fun F0 B F H ρ σ ds Q r e w => by cases e; exact w [] F H (.refl r.fh) .nil⟩
theorem xa_cons {es : List Expr} {ns : List Nat} {fs : Env → Option (List D)} (ha : XE X ct ms n a f) (hr : XA X ct ms es ns fs) (hs : starEach (a :: es) X.env = (false, eval a X.env) :: starEach es X.env := by rfl) : XA X ct ms (a :: es) (n :: ns) (aCons f fs) := by
  obtain ⟨ta, pa, qa⟩ := ha
  obtain ⟨tb, pb, lb, qb⟩ := hr
  refine ⟨_, pa_cons pa pb hs, fun ρ ds e => (by obtain ⟨x, xs, h1, h2, h3⟩ := bind2 e; cases h3; rw [List.length_cons, List.length_cons, lb _ _ h2]), fun F0 B F H ρ σ ds Q r e w => ?_⟩
  obtain ⟨x, xs, h1, h2, h3⟩ := bind2 e
  cases h3
  refine qa F0 B F H ρ σ x _ r h1 fun v F1 H1 x1 l1 => ?_
  exact qb F0 B F1 H1 ρ σ xs _ (r.ext x1) h2 fun vs F2 H2 x2 l2 => w (v :: vs) F2 H2 (x1.trans x2) (.cons (l1.mono x2.ff x2.hh) l2)
/-- args that are the taker's own -/
def XAO (X : Cx) (ct : Nat → Addr) (ms : List Mo) (k : Nat) (es : List Expr) (f : Env → Option (List D)) : Prop := ∃ t, PA X es t ∧ (∀ ρ ds, f ρ = some ds → ds.length = es.length) ∧ ∀ (F0 B F H : Hp) (ρ : Env) (σ : St) (ds : List D) (Q : List V → Hp → Prop), RS X.K ct F0 B ms F H ρ σ → f ρ = some ds →
  (∀ vs F' H' fp, Ext F H F' H' → OwL (Ow X.K ct F' H' k) ds vs fp → fp.Nodup → (∀ a ∈ fp, H a = none) → Q vs H') → t σ H Q
theorem xao_nil : XAO X ct ms k [] aNil := ⟨_, pa_nil, fun ρ ds e => (by cases e; rfl), fun F0 B F H ρ σ ds Q r e w => by cases e; exact w [] F H [] (.refl r.fh) .nil List.nodup_nil fun a z => (by cases z)⟩
theorem xao_cons {es : List Expr} {fs : Env → Option (List D)} (ha : XO X ct ms k a f) (hr : XAO X ct ms k es fs) (hs : starEach (a :: es) X.env = (false, eval a X.env) :: starEach es X.env := by rfl) : XAO X ct ms k (a :: es) (aCons f fs) := by
  obtain ⟨ta, pa, qa⟩ := ha
  obtain ⟨tb, pb, lb, qb⟩ := hr
  refine ⟨_, pa_cons pa pb hs, fun ρ ds e => (by obtain ⟨x, xs, h1, h2, h3⟩ := bind2 e; cases h3; rw [List.length_cons, List.length_cons, lb _ _ h2]), fun F0 B F H ρ σ ds Q r e w => ?_⟩
  obtain ⟨x, xs, h1, h2, h3⟩ := bind2 e
  cases h3
  refine qa F0 B F H ρ σ x _ r h1 fun v F1 H1 f1 x1 l1 n1 a1 => ?_
  refine qb F0 B F1 H1 ρ σ xs _ (r.ext x1) h2 fun vs F2 H2 f2 x2 l2 n2 a2 => w (v :: vs) F2 H2 (f1 ++ f2) (x1.trans x2) (.cons (l1.ext x2) l2) (List.nodup_append.mpr ⟨n1, n2, fun z hz y hy e => ?_⟩) fun z hz => ?_
  · subst e
    obtain ⟨_, o, ho⟩ := l1.cells z hz
    rw [a2 z hy] at ho
    cases ho
  · rcases List.mem_append.mp hz with hz | hz
    · exact a1 z hz
    · exact x1.hh.free (a2 z hz)
end
end L3

/-! ## tests, displays, calls, fields, methods, slices -/
namespace L3
open PySem PySem.Spec L2
open PyProof.Rows hiding St
def asB : D → Option Bool
  | .bl b => some b
  | _ => none
theorem asB_some {d : D} {b : Bool} (h : asB d = some b) : d = .bl b := by cases d <;> simp [asB] at h; subst h; rfl
abbrev BF := Env → Option Bool
def tb (f : EF) : BF := fun ρ => (f ρ).bind asB
def bNot (f : BF) : BF := fun ρ => (f ρ).bind fun b => some (!b)
def bAnd (f g : BF) : BF := fun ρ => (f ρ).bind fun b => if b = true then g ρ else some false
def bOr (f g : BF) : BF := fun ρ => (f ρ).bind fun b => if b = true then some true else g ρ
def eB (f : BF) : EF := fun ρ => (f ρ).bind fun b => some (.bl b)
def eIf (c : BF) (f g : EF) : EF := fun ρ => (c ρ).bind fun b => if b = true then f ρ else g ρ
section
variable {X : Cx} {ct : Nat → Addr} {ms : List Mo} {n m k : Nat} {a b c e : Expr} {f g h : EF} {p q : BF} {pos : Pos}
theorem xt_val (he : XE X ct ms n e f) (hi : ∀ whole, isTrue e X.env whole = (do let v ← whole; standAt e.pos; holding [v] (truthy v)) := by intro _; rfl) : XT X ct ms e (tb f) := by
  obtain ⟨t, pt, qt⟩ := he
  refine ⟨_, pt_val pt hi, fun F0 B F H ρ σ b Q r e w => ?_⟩
  obtain ⟨d, h1, h2⟩ := bind1 e
  rw [asB_some h2] at h1
  exact qt F0 B F H ρ σ _ _ r h1 fun v F' H' x l => ⟨b, l.bl, w F' H' x⟩
theorem xt_cmp {op : CmpOp} {r : R2} {o : D → D → Option D} (ho : OpR X (compareOp op) r) (hs : Op2 X.K ct n m k r o) (ha : XE X ct ms n a f) (hb : XE X ct ms m b g) (hm : behindInMarks op b = false) : XT X ct ms (.Compare a [op] [b] pos) (tb (e2 o f g)) := by
  obtain ⟨ta, tb, pa, pb, q⟩ := ha.bin hb
  refine ⟨_, pt_cmpR ho pa pb hm, fun F0 B F H ρ σ b Q rs e w => ?_⟩
  obtain ⟨d, h0, h4⟩ := bind1 e
  rw [asB_some h4] at h0
  obtain ⟨d1, d2, h1, h2, h3⟩ := bind2 h0
  exact q F0 B F H ρ σ d1 d2 _ rs h1 h2 fun x y F' H' x1 l1 l2 => hs F' H' x y d1 d2 _ _ x1.fh l1 l2 h3 fun v F2 H2 x2 l => ⟨b, l.bl, w F2 H2 (x1.trans x2)⟩
theorem XW.t (h : XW X ct ms e p) : XT X ct ms e p := by
  obtain ⟨t, pt, qt⟩ := h
  exact ⟨t, pt.pt, qt⟩
theorem xw_and1 (ha : XT X ct ms a p) : XW X ct ms (.BoolOp .And [a] pos) p := by
  obtain ⟨t, pt, qt⟩ := ha
  exact ⟨t, pw_and1 pt, qt⟩
theorem xw_or1 (ha : XT X ct ms a p) : XW X ct ms (.BoolOp .Or [a] pos) p := by
  obtain ⟨t, pt, qt⟩ := ha
  exact ⟨t, pw_or1 pt, qt⟩
theorem xw_and {rest : List Expr} (ha : XT X ct ms a p) (hb : XW X ct ms (.BoolOp .And (b :: rest) pos) q) : XW X ct ms (.BoolOp .And (a :: b :: rest) pos) (bAnd p q) := by
  obtain ⟨t, pt, qt⟩ := ha
  obtain ⟨u, pu, qu⟩ := hb
  refine ⟨_, pw_and pt pu, fun F0 B F H ρ σ r Q rs e w => ?_⟩
  obtain ⟨x, h1, h2⟩ := bind1 e
  refine qt F0 B F H ρ σ x _ rs h1 fun F1 H1 x1 => ?_
  cases x with
  | true => rw [if_pos rfl]; exact qu F0 B F1 H1 ρ σ r _ (rs.ext x1) h2 fun F2 H2 x2 => w F2 H2 (x1.trans x2)
  | false => cases h2; rw [if_neg Bool.false_ne_true]; exact w F1 H1 x1
theorem xw_or {rest : List Expr} (ha : XT X ct ms a p) (hb : XW X ct ms (.BoolOp .Or (b :: rest) pos) q) : XW X ct ms (.BoolOp .Or (a :: b :: rest) pos) (bOr p q) := by
  obtain ⟨t, pt, qt⟩ := ha
  obtain ⟨u, pu, qu⟩ := hb
  refine ⟨_, pw_or pt pu, fun F0 B F H ρ σ r Q rs e w => ?_⟩
  obtain ⟨x, h1, h2⟩ := bind1 e
  refine qt F0 B F H ρ σ x _ rs h1 fun F1 H1 x1 => ?_
  cases x with
  | true => cases h2; rw [if_pos rfl]; exact w F1 H1 x1
  | false => rw [if_neg Bool.false_ne_true]; exact qu F0 B F1 H1 ρ σ r _ (rs.ext x1) h2 fun F2 H2 x2 => w F2 H2 (x1.trans x2)
theorem xt_not (ha : XT X ct ms a p) : XT X ct ms (.UnaryOp .Not a pos) (bNot p) := by
  obtain ⟨t, pt, qt⟩ := ha
  refine ⟨_, pt_not pt, fun F0 B F H ρ σ r Q rs e w => ?_⟩
  obtain ⟨x, h1, h2⟩ := bind1 e
  cases h2
  exact qt F0 B F H ρ σ x _ rs h1 fun F1 H1 x1 => w F1 H1 x1
/-! ### the same as values -/
theorem xe_not (ha : XE X ct ms n a f) : XE X ct ms k (.UnaryOp .Not a pos) (eB (bNot (tb f))) := by
  obtain ⟨t, pt, qt⟩ := ha
  refine ⟨_, pe_not pt, fun F0 B F H ρ σ r Q rs e w => ?_⟩
  obtain ⟨x, h1, h2⟩ := bind1 e
  obtain ⟨y, h3, h4⟩ := bind1 h1
  obtain ⟨z, h5, h6⟩ := bind1 h3
  cases h2; cases h4
  rw [asB_some h6] at h5
  exact qt F0 B F H ρ σ _ _ rs h5 fun v F1 H1 x1 l => ⟨y, l.bl, w _ F1 H1 x1 (Al.of (.bl _))⟩
theorem xe_one {op} (ha : XE X ct ms n a f) : XE X ct ms k (.BoolOp op [a] pos) (eB (tb f)) := by
  obtain ⟨t, pt, qt⟩ := ha
  refine ⟨_, pe_one pt, fun F0 B F H ρ σ r Q rs e w => ?_⟩
  obtain ⟨y, h3, h4⟩ := bind1 e
  obtain ⟨z, h5, h6⟩ := bind1 h3
  cases h4
  rw [asB_some h6] at h5
  exact qt F0 B F H ρ σ _ _ rs h5 fun v F1 H1 x1 l => w _ F1 H1 x1 (by rw [l.bl]; exact Al.of (.bl _))
theorem xe_and {rest : List Expr} (ha : XE X ct ms n a f) (hb : XE X ct ms k (.BoolOp .And (b :: rest) pos) (eB q)) : XE X ct ms k (.BoolOp .And (a :: b :: rest) pos) (eB (bAnd (tb f) q)) := by
  obtain ⟨t, pt, qt⟩ := ha
  obtain ⟨u, pu, qu⟩ := hb
  refine ⟨_, pe_and pt pu, fun F0 B F H ρ σ r Q rs e w => ?_⟩
  obtain ⟨y, h3, h4⟩ := bind1 e
  obtain ⟨x, h1, h2⟩ := bind1 h3
  obtain ⟨z, h5, h6⟩ := bind1 h1
  cases h4
  rw [asB_some h6] at h5
  refine qt F0 B F H ρ σ _ _ rs h5 fun v F1 H1 x1 l => ⟨x, l.bl, ?_⟩
  cases x with
  | true => rw [if_pos rfl]; exact qu F0 B F1 H1 ρ σ _ _ (rs.ext x1) (show (q ρ).bind _ = _ by rw [if_pos rfl] at h2; rw [h2]; rfl) fun v F2 H2 x2 l => w v F2 H2 (x1.trans x2) l
  | false => rw [if_neg Bool.false_ne_true] at h2 ⊢; cases h2; exact w _ F1 H1 x1 (Al.of (.bl _))
theorem xe_or {rest : List Expr} (ha : XE X ct ms n a f) (hb : XE X ct ms k (.BoolOp .Or (b :: rest) pos) (eB q)) : XE X ct ms k (.BoolOp .Or (a :: b :: rest) pos) (eB (bOr (tb f) q)) := by
  obtain ⟨t, pt, qt⟩ := ha
  obtain ⟨u, pu, qu⟩ := hb
  refine ⟨_, pe_or pt pu, fun F0 B F H ρ σ r Q rs e w => ?_⟩
  obtain ⟨y, h3, h4⟩ := bind1 e
  obtain ⟨x, h1, h2⟩ := bind1 h3
  obtain ⟨z, h5, h6⟩ := bind1 h1
  cases h4
  rw [asB_some h6] at h5
  refine qt F0 B F H ρ σ _ _ rs h5 fun v F1 H1 x1 l => ⟨x, l.bl, ?_⟩
  cases x with
  | true => rw [if_pos rfl] at h2 ⊢; cases h2; exact w _ F1 H1 x1 (Al.of (.bl _))
  | false => rw [if_neg Bool.false_ne_true]; exact qu F0 B F1 H1 ρ σ _ _ (rs.ext x1) (show (q ρ).bind _ = _ by rw [if_neg Bool.false_ne_true] at h2; rw [h2]; rfl) fun v F2 H2 x2 l => w v F2 H2 (x1.trans x2) l
theorem xe_if (hc : XT X ct ms c p) (ha : XE X ct ms k a f) (hb : XE X ct ms k b g) : XE X ct ms k (.IfExp c a b pos) (eIf p f g) := by
  obtain ⟨s, ps, qs⟩ := hc
  obtain ⟨t, pt, qt⟩ := ha
  obtain ⟨u, pu, qu⟩ := hb
  refine ⟨_, pe_ifExp ps pt pu, fun F0 B F H ρ σ r Q rs e w => ?_⟩
  obtain ⟨x, h1, h2⟩ := bind1 e
  refine qs F0 B F H ρ σ x _ rs h1 fun F1 H1 x1 => ?_
  cases x with
  | true => rw [if_pos rfl] at h2 ⊢; exact qt F0 B F1 H1 ρ σ _ _ (rs.ext x1) h2 fun v F2 H2 x2 l => w v F2 H2 (x1.trans x2) l
  | false => rw [if_neg Bool.false_ne_true] at h2 ⊢; exact qu F0 B F1 H1 ρ σ _ _ (rs.ext x1) h2 fun v F2 H2 x2 l => w v F2 H2 (x1.trans x2) l
theorem xo_if (hc : XT X ct ms c p) (ha : XO X ct ms k a f) (hb : XO X ct ms k b g) : XO X ct ms k (.IfExp c a b pos) (eIf p f g) := by
  obtain ⟨s, ps, qs⟩ := hc
  obtain ⟨t, pt, qt⟩ := ha
  obtain ⟨u, pu, qu⟩ := hb
  refine ⟨_, pe_ifExp ps pt pu, fun F0 B F H ρ σ r Q rs e w => ?_⟩
  obtain ⟨x, h1, h2⟩ := bind1 e
  refine qs F0 B F H ρ σ x _ rs h1 fun F1 H1 x1 => ?_
  cases x with
  | true => rw [if_pos rfl] at h2 ⊢; exact qt F0 B F1 H1 ρ σ _ _ (rs.ext x1) h2 fun v F2 H2 fp x2 l nd hf => w v F2 H2 fp (x1.trans x2) l nd fun z hz => x1.hh.free (hf z hz)
  | false => rw [if_neg Bool.false_ne_true] at h2 ⊢; exact qu F0 B F1 H1 ρ σ _ _ (rs.ext x1) h2 fun v F2 H2 fp x2 l nd hf => w v F2 H2 fp (x1.trans x2) l nd fun z hz => x1.hh.free (hf z hz)
/-! ### displays -/
theorem xo_tup {es : List Expr} {fs : Env → Option (List D)} {x1} (h : XAO X ct ms k es fs) (hl : es.length ≤ 1000 := by decide) : XO X ct ms (k + 1) (.Tuple es x1 pos) (fun ρ => (fs ρ).bind fun ds => some (.tup ds)) := by
  obtain ⟨t, pt, lt, qt⟩ := h
  refine ⟨_, pe_tup pt, fun F0 B F H ρ σ r Q rs e w => ?_⟩
  obtain ⟨ds, h1, h2⟩ := bind1 e
  cases h2
  refine qt F0 B F H ρ σ ds _ rs h1 fun vs F1 H1 fp x1 l nd hf => ⟨?_, fun p hp => ?_⟩
  · rw [← l.length, lt _ _ h1]; exact small hl
  · have x2 := Ext.newS x1.fh hp (.tup vs)
    exact w _ _ _ fp (x1.trans x2) (.inr (.tup upd_same (l.mono fun _ _ _ _ o => o.ext x2))) nd hf
theorem OwL.cellsOf {K : PySem.W.Frag} {F H : Hp} {ds : List D} {vs : List V} {fp : List Addr} (l : OwL (Ow K ct F H k) ds vs fp) : ∀ a ∈ fp, F a = none ∧ ∃ o, H a = some o := Ow.cells.OwL.cells (fun d v f q => Ow.cells q) l
theorem new_lst {K : PySem.W.Frag} {F H : Hp} {ds : List D} {vs : List V} {fp : List Addr} {p : Addr} (s : Same F H) (l : OwL (Ow K ct F H k) ds vs fp) (hp : H p = none) : Ow K ct F (upd H p (.lst vs)) (k + 1) (.lst ds) (.ref p) (p :: fp) ∧ (fp.Nodup → (p :: fp).Nodup) :=
  ⟨.inr (.lst (s.free hp) upd_same (l.mono fun _ _ _ _ o => o.ext (Ext.newO s hp _))), fun nd => List.nodup_cons.mpr ⟨fun z => (by
    obtain ⟨_, o, ho⟩ := OwL.cellsOf l p z
    rw [hp] at ho
    cases ho), nd⟩⟩
theorem xo_lst {es : List Expr} {fs : Env → Option (List D)} (h : XAO X ct ms k es fs) (hl : es.length ≤ 1000 := by decide) : XO X ct ms (k + 1) (.List es pos) (fun ρ => (fs ρ).bind fun ds => some (.lst ds)) := by
  obtain ⟨t, pt, lt, qt⟩ := h
  refine ⟨_, pe_lst pt, fun F0 B F H ρ σ r Q rs e w => ?_⟩
  obtain ⟨ds, h1, h2⟩ := bind1 e
  cases h2
  refine qt F0 B F H ρ σ ds _ rs h1 fun vs F1 H1 fp x1 l nd hf => ⟨?_, fun p hp => ?_⟩
  · rw [← l.length, lt _ _ h1]; exact small hl
  · obtain ⟨o, n2⟩ := new_lst x1.fh l hp
    refine w _ _ _ (p :: fp) (x1.trans (Ext.newO x1.fh hp _)) o (n2 nd) fun z hz => ?_
    rcases List.mem_cons.mp hz with rfl | hz
    · exact x1.hh.free hp
    · exact hf z hz
theorem xo_dnewK : XO X ct ms (k + 1) (.Dict [] [] pos) (eC (.dK [] [])) := by
  refine ⟨_, pe_dnewK, fun F0 B F H ρ σ r Q rs e w p hp => ?_⟩
  cases e
  refine w _ F _ [p] (Ext.newO rs.fh hp _) (.inr (OwC.dK (vs := []) (rs.fh.free hp) upd_same rfl .nil)) (by simp) fun z hz => ?_
  rw [List.mem_singleton] at hz; subst hz; exact hp
theorem xo_dnewT : XO X ct ms (k + 1) (.Dict [] [] pos) (eC (.dT [] [])) := by
  refine ⟨_, pe_dnewT, fun F0 B F H ρ σ r Q rs e w p hp => ?_⟩
  cases e
  refine w _ F _ [p] (Ext.newO rs.fh hp _) (.inr (OwC.dT (vs := []) (rs.fh.free hp) upd_same rfl .nil)) (by simp) fun z hz => ?_
  rw [List.mem_singleton] at hz; subst hz; exact hp
/-! ### calls -/
/-- a def that reads data and hands back data, its own down to depth rk -/
def LSp (K : PySem.W.Frag) (ct : Nat → Addr) (pm : List Nat) (rk : Nat) (m : List D → Option D) : Sp := fun vs H Q _ => ∃ (F : Hp) (ds : List D) (d : D), Same F H ∧ AlL K ct F H pm ds vs ∧ m ds = some d ∧
  ∀ v F' H' fp, Ext F H F' H' → Ow K ct F' H' rk d v fp → fp.Nodup → (∀ a ∈ fp, H a = none) → Q v H'
theorem LSp.len {K : PySem.W.Frag} {ct : Nat → Addr} {pm : List Nat} {rk : Nat} {m : List D → Option D} {ps : List Str} (h : pm.length = ps.length) : ∀ vs H Q E, LSp K ct pm rk m vs H Q E → vs.length = ps.length := by
  rintro vs H Q E ⟨F, ds, d, _, l, _⟩
  rw [l.length, h]
variable {kk : Nat} {fa : Addr} {fd : FuncData} {ps : List Str} {pm : List Nat} {rk : Nat} {mf : List D → Option D} {x : Str} {pp : Pos}
theorem xo_call {es : List Expr} {ns nd : List Nat} {fs : Env → Option (List D)} {dvs : List V} {dds : List D} {dsv : List Value} (Fn : FnOk X.prog X.w X.K X.mg X.base CX0 kk fa fd ps (LSp X.K ct (ns ++ nd) rk mf)) (hr : Room kk X.A) (hg : Gl X x) (hm : X.mg x = some (.ref fa)) (hk : PySem.W.keepIn X.K (.ref fa) = true)
    (hb : Binds X.K fd ps dsv) (hd : Vals dvs dsv) (hdd : ∀ F G, AlL X.K ct F G nd dds dvs) (ha : XA X ct ms (e :: es) ns fs)
    (hdb : (x == ("__debug__" : Str)) = false := by decide) (he : starEach (e :: es) X.env = (false, eval e X.env) :: starEach es X.env := by rfl) (hpl : (backTo pos (starEach es X.env)).any (·.1) = false := by rfl) :
    XO X ct ms rk (.Call (.Name x pp) (e :: es) [] pos) (fun ρ => (fs ρ).bind fun ds => mf (ds ++ dds)) := by
  obtain ⟨t, pt, _, qt⟩ := ha
  refine ⟨_, pe_call Fn hr hg hm hk hb hd pass0 pt hdb he hpl, fun F0 B F H ρ σ r Q rs e w => ?_⟩
  obtain ⟨ds, h1, h2⟩ := bind1 e
  refine qt F0 B F H ρ σ ds _ rs h1 fun vs F1 H1 x1 l => ⟨F1, ds ++ dds, r, x1.fh, AlL.append (hdd F1 H1) l, h2, fun v F2 H2 fp x2 o nd hf => ?_⟩
  exact w v F2 H2 fp (x1.trans x2) o nd fun z hz => x1.hh.free (hf z hz)
theorem xo_call0 {nd : List Nat} {dvs : List V} {dds : List D} {dsv : List Value} (Fn : FnOk X.prog X.w X.K X.mg X.base CX0 kk fa fd ps (LSp X.K ct nd rk mf)) (hr : Room kk X.A) (hg : Gl X x) (hm : X.mg x = some (.ref fa)) (hk : PySem.W.keepIn X.K (.ref fa) = true)
    (hb : Binds X.K fd ps dsv) (hd : Vals dvs dsv) (hdd : ∀ F G, AlL X.K ct F G nd dds dvs) (hdb : (x == ("__debug__" : Str)) = false := by decide) : XO X ct ms rk (.Call (.Name x pp) [] [] pos) (fun ρ => mf dds) := by
  refine ⟨_, pe_call0 Fn hr hg hm hk hb hd pass0 hdb, fun F0 B F H ρ σ r Q rs e w => ?_⟩
  exact ⟨F, dds, r, rs.fh, hdd F H, e, fun v F2 H2 fp x2 o nd hf => w v F2 H2 fp x2 o nd hf⟩
/-- a builtin function, a type -/
theorem xe_callB {es : List Expr} {ns : List Nat} {fs : Env → Option (List D)} {id : String} {r : List V → Hp → VK → Prop} {op : List D → Option D} (hc : CallR X (.builtin id) r) (hs : OpN X.K ct ns k r op) (hg : Gl X x) (hm : X.mg x = none) (hv : bootBuiltins x = some (.builtin id)) (ha : XA X ct ms (e :: es) ns fs)
    (hn : x ≠ "__name__" := by decide) (hdb : (x == ("__debug__" : Str)) = false := by decide) (he : starEach (e :: es) X.env = (false, eval e X.env) :: starEach es X.env := by rfl) (hpl : (backTo pos (starEach es X.env)).any (·.1) = false := by rfl) :
    XE X ct ms k (.Call (.Name x pp) (e :: es) [] pos) (eN op fs) := by
  obtain ⟨t, pt, _, qt⟩ := ha
  refine ⟨_, pe_callB hc hg hm hv pt hn hdb he hpl, fun F0 B F H ρ σ r Q rs e w => ?_⟩
  obtain ⟨ds, h1, h2⟩ := bind1 e
  exact qt F0 B F H ρ σ ds _ rs h1 fun vs F1 H1 x1 l => hs F1 H1 vs ds r Q x1.fh l h2 fun v F2 H2 x2 l2 => w v F2 H2 (x1.trans x2) l2
theorem xo_callB {es : List Expr} {ns : List Nat} {fs : Env → Option (List D)} {id : String} {r : List V → Hp → VK → Prop} {op : List D → Option D} (hc : CallR X (.builtin id) r) (hs : OpNO X.K ct ns k r op) (hg : Gl X x) (hm : X.mg x = none) (hv : bootBuiltins x = some (.builtin id)) (ha : XA X ct ms (e :: es) ns fs)
    (hn : x ≠ "__name__" := by decide) (hdb : (x == ("__debug__" : Str)) = false := by decide) (he : starEach (e :: es) X.env = (false, eval e X.env) :: starEach es X.env := by rfl) (hpl : (backTo pos (starEach es X.env)).any (·.1) = false := by rfl) :
    XO X ct ms k (.Call (.Name x pp) (e :: es) [] pos) (eN op fs) := by
  obtain ⟨t, pt, _, qt⟩ := ha
  refine ⟨_, pe_callB hc hg hm hv pt hn hdb he hpl, fun F0 B F H ρ σ r Q rs e w => ?_⟩
  obtain ⟨ds, h1, h2⟩ := bind1 e
  exact qt F0 B F H ρ σ ds _ rs h1 fun vs F1 H1 x1 l => hs F1 H1 vs ds r Q x1.fh l h2 fun v F2 H2 fp x2 l2 nd hf => w v F2 H2 fp (x1.trans x2) l2 nd fun z hz => x1.hh.free (hf z hz)
theorem xe_callTy {es : List Expr} {ns : List Nat} {fs : Env → Option (List D)} {id : String} {r : List V → Hp → VK → Prop} {op : List D → Option D} (hc : CallR X (.type id) r) (hs : OpN X.K ct ns k r op) (hg : Gl X x) (hm : X.mg x = none) (hv : bootBuiltins x = some (.type id)) (ha : XA X ct ms (e :: es) ns fs)
    (hn : x ≠ "__name__" := by decide) (hdb : (x == ("__debug__" : Str)) = false := by decide) (he : starEach (e :: es) X.env = (false, eval e X.env) :: starEach es X.env := by rfl) (hpl : (backTo pos (starEach es X.env)).any (·.1) = false := by rfl) :
    XE X ct ms k (.Call (.Name x pp) (e :: es) [] pos) (eN op fs) := by
  obtain ⟨t, pt, _, qt⟩ := ha
  refine ⟨_, pe_callTy hc hg hm hv pt hn hdb he hpl, fun F0 B F H ρ σ r Q rs e w => ?_⟩
  obtain ⟨ds, h1, h2⟩ := bind1 e
  exact qt F0 B F H ρ σ ds _ rs h1 fun vs F1 H1 x1 l => hs F1 H1 vs ds r Q x1.fh l h2 fun v F2 H2 x2 l2 => w v F2 H2 (x1.trans x2) l2
theorem xo_callTy {es : List Expr} {ns : List Nat} {fs : Env → Option (List D)} {id : String} {r : List V → Hp → VK → Prop} {op : List D → Option D} (hc : CallR X (.type id) r) (hs : OpNO X.K ct ns k r op) (hg : Gl X x) (hm : X.mg x = none) (hv : bootBuiltins x = some (.type id)) (ha : XA X ct ms (e :: es) ns fs)
    (hn : x ≠ "__name__" := by decide) (hdb : (x == ("__debug__" : Str)) = false := by decide) (he : starEach (e :: es) X.env = (false, eval e X.env) :: starEach es X.env := by rfl) (hpl : (backTo pos (starEach es X.env)).any (·.1) = false := by rfl) :
    XO X ct ms k (.Call (.Name x pp) (e :: es) [] pos) (eN op fs) := by
  obtain ⟨t, pt, _, qt⟩ := ha
  refine ⟨_, pe_callTy hc hg hm hv pt hn hdb he hpl, fun F0 B F H ρ σ r Q rs e w => ?_⟩
  obtain ⟨ds, h1, h2⟩ := bind1 e
  exact qt F0 B F H ρ σ ds _ rs h1 fun vs F1 H1 x1 l => hs F1 H1 vs ds r Q x1.fh l h2 fun v F2 H2 fp x2 l2 nd hf => w v F2 H2 fp (x1.trans x2) l2 nd fun z hz => x1.hh.free (hf z hz)
/-! ### either of two readings -/
theorem PE.or {t u : TE} (h1 : PE X e t) (h2 : PE X e u) : PE X e (fun σ H Q => t σ H Q ∨ u σ H Q) := fun pins s σ H Q I h => h.elim (h1 pins s σ H Q I) (h2 pins s σ H Q I)
theorem xo_or (ha : XO X ct ms k e f) (hb : XO X ct ms k e g) : XO X ct ms k e (fun ρ => (f ρ).or (g ρ)) := by
  obtain ⟨t, pt, qt⟩ := ha
  obtain ⟨u, pu, qu⟩ := hb
  refine ⟨_, PE.or pt pu, fun F0 B F H ρ σ r Q rs e w => ?_⟩
  dsimp only at e ⊢
  cases h : f ρ with
  | some d =>
    rw [h] at e
    cases e
    exact .inl (qt F0 B F H ρ σ _ Q rs h w)
  | none =>
    rw [h] at e
    exact .inr (qu F0 B F H ρ σ r Q rs e w)
/-! ### fields and methods -/
def fldD (cs : List Nat) (x : Str) : D → Option D
  | .obj c ns ds => if cs.contains c = true then (ns.zip ds).lookup x else none
  | _ => none
theorem zip_lookup {K : PySem.W.Frag} {F : Hp} {x : Str} {d : D} : ∀ {ns : List Str} {ds : List D} {vs : List V}, Dts K ct F ds vs → (ns.zip ds).lookup x = some d → ∃ v, (ns.zip vs).lookup x = some v ∧ Dt K ct F d v
  | [], _, _, _, e => by simp at e
  | _ :: _, _, _, .nil, e => by simp at e
  | y :: ns, _, _, .cons h t, e => by
    rw [List.zip_cons_cons, List.lookup_cons] at e
    rw [List.zip_cons_cons, List.lookup_cons]
    cases q : x == y with
    | true => rw [q] at e; cases e; exact ⟨_, rfl, h⟩
    | false => rw [q] at e; exact zip_lookup t e
theorem zip_none {vs : List V} {x : Str} : ∀ {ns : List Str} {vs : List V}, ns.contains x = false → (ns.zip vs).lookup x = none
  | [], _, _ => by simp
  | _ :: _, [], _ => by simp
  | y :: ns, _ :: vs, h => by
    rw [List.contains_cons, Bool.or_eq_false_iff] at h
    rw [List.zip_cons_cons, List.lookup_cons, h.1]
    exact zip_none (vs := vs) h.2
theorem xe_fld {x : Str} {cs : List Nat} (he : XE X ct ms n e f) (hc : ∀ c ∈ cs, Cls X.K (ct c) ∧ NoAttr X.K (ct c) x) (hb : attributeBase e x X.env (eval e X.env) = eval e X.env) : XE X ct ms k (.Attribute e x pos) (e1 (fldD cs x) f) := by
  obtain ⟨t, pt, qt⟩ := he
  refine ⟨_, pe_fld pt hb, fun F0 B F H ρ σ r Q rs e w => ?_⟩
  obtain ⟨o, h1, h2⟩ := bind1 e
  refine qt F0 B F H ρ σ o _ rs h1 fun v F1 H1 x1 l => ?_
  cases o with
  | obj c ns ds =>
    obtain ⟨a, dx, vs, rfl, ha, hl, hds⟩ := l.obj
    unfold fldD at h2
    dsimp only at h2
    by_cases hcs : cs.contains c = true
    · rw [if_pos hcs] at h2
      obtain ⟨u, hu, du⟩ := zip_lookup hds h2
      have hh := hc c (by simpa using hcs)
      exact ⟨a, _, dx, _, u, rfl, x1.fh _ _ ha, hh.1, hh.2, hu, w u F1 H1 x1 (Al.of du)⟩
    · rw [if_neg hcs] at h2; cases h2
  | _ => cases h2
/-- a method of the class c -/
def metD (c0 : Nat) (m : Str) (mf : List D → Option D) (o : D) (ds : List D) : Option D := match o with
  | .obj c ns _ => if c = c0 ∧ ns.contains m = false then mf (o :: ds) else none
  | _ => none
theorem xo_meth {o : Expr} {x : Str} {apos : Pos} {pl : Sem Bool} {es : List Expr} {ns nd : List Nat} {fs : Env → Option (List D)} {dvs : List V} {dds : List D} {dsv : List Value} {c0 : Nat} (ho : XE X ct ms n o f) (c : Cls X.K (ct c0)) (hm : Meth X.K (ct c0) x fa) (Fn : FnOk X.prog X.w X.K X.mg X.base CX0 kk fa fd ps (LSp X.K ct (n :: (ns ++ nd)) rk mf)) (hr : Room kk X.A)
    (hb : Binds X.K fd ps dsv) (hd : Vals dvs dsv) (hdd : ∀ F G, AlL X.K ct F G nd dds dvs) (ha : XA X ct ms (e :: es) ns fs)
    (hst : starEach (e :: es) X.env = (false, eval e X.env) :: starEach es X.env := by rfl) (hpl : (backTo pos (starEach es X.env)).any (·.1) = false := by rfl)
    (ht : eval (.Call (.Attribute o x apos) (e :: es) [] pos) X.env = (do
      let ov ← eval o X.env
      standAt apos.atName
      let (f, first) ← holding [ov] (getMethod ov x pl)
      callWith pos f first (backTo pos (starEach (e :: es) X.env)) (backToKw pos (keywordEach [] X.env))) := by rfl) :
    XO X ct ms rk (.Call (.Attribute o x apos) (e :: es) [] pos) (fun ρ => (f ρ).bind fun o => (fs ρ).bind fun ds => metD c0 x mf o (ds ++ dds)) := by
  obtain ⟨u, pu, qu⟩ := ho
  obtain ⟨t, pt, _, qt⟩ := ha
  refine ⟨_, pe_meth pu c hm Fn hr hb hd pass0 pt hst hpl ht, fun F0 B F H ρ σ r Q rs e w => ?_⟩
  obtain ⟨o, ds, h1, h2, h3⟩ := bind2 e
  refine qu F0 B F H ρ σ o _ rs h1 fun v F1 H1 x1 l => ?_
  cases o with
  | obj c1 ns' ds' =>
    unfold metD at h3
    dsimp only at h3
    split at h3
    · rename_i hc
      obtain ⟨rfl, hns⟩ := hc
      obtain ⟨a, dx, vs, rfl, ha, hl, hds⟩ := l.obj
      refine ⟨a, dx, _, rfl, x1.fh _ _ ha, zip_none (vs := vs) hns, ?_⟩
      refine qt F0 B F1 H1 ρ σ ds _ (rs.ext x1) h2 fun us F2 H2 x2 l2 => ⟨F2, _, r, x2.fh, .cons (l.mono x2.ff x2.hh) (AlL.append (hdd F2 H2) l2), h3, fun v F3 H3 fp x3 o nd hf => ?_⟩
      exact w v F3 H3 fp ((x1.trans x2).trans x3) o nd fun z hz => (x1.trans x2).hh.free (hf z hz)
    · cases h3
  | _ => cases h3
theorem xo_meth0 {o : Expr} {x : Str} {apos : Pos} {pl : Sem Bool} {nd : List Nat} {dvs : List V} {dds : List D} {dsv : List Value} {c0 : Nat} (ho : XE X ct ms n o f) (c : Cls X.K (ct c0)) (hm : Meth X.K (ct c0) x fa) (Fn : FnOk X.prog X.w X.K X.mg X.base CX0 kk fa fd ps (LSp X.K ct (n :: nd) rk mf)) (hr : Room kk X.A)
    (hb : Binds X.K fd ps dsv) (hd : Vals dvs dsv) (hdd : ∀ F G, AlL X.K ct F G nd dds dvs)
    (ht : eval (.Call (.Attribute o x apos) [] [] pos) X.env = (do
      let ov ← eval o X.env
      standAt apos.atName
      let (f, first) ← holding [ov] (getMethod ov x pl)
      callWith pos f first (backTo pos (starEach [] X.env)) (backToKw pos (keywordEach [] X.env))) := by rfl) :
    XO X ct ms rk (.Call (.Attribute o x apos) [] [] pos) (fun ρ => (f ρ).bind fun o => metD c0 x mf o dds) := by
  obtain ⟨u, pu, qu⟩ := ho
  refine ⟨_, pe_meth0 pu c hm Fn hr hb hd pass0 ht, fun F0 B F H ρ σ r Q rs e w => ?_⟩
  obtain ⟨o, h1, h3⟩ := bind1 e
  refine qu F0 B F H ρ σ o _ rs h1 fun v F1 H1 x1 l => ?_
  cases o with
  | obj c1 ns' ds' =>
    unfold metD at h3
    dsimp only at h3
    split at h3
    · rename_i hc
      obtain ⟨rfl, hns⟩ := hc
      obtain ⟨a, dx, vs, rfl, ha, hl, hds⟩ := l.obj
      refine ⟨a, dx, _, rfl, x1.fh _ _ ha, zip_none (vs := vs) hns, F1, _, r, x1.fh, .cons l (hdd F1 H1), h3, fun v F3 H3 fp x3 o nd hf => ?_⟩
      exact w v F3 H3 fp (x1.trans x3) o nd fun z hz => x1.hh.free (hf z hz)
    · cases h3
  | _ => cases h3
end
end L3

/-! ## statements, loops, defs -/
namespace L3
open PySem PySem.Spec L2
open PyProof.Rows hiding St
inductive Out where
  | nx (ρ : Env) | rt (d : D) | bk (ρ : Env) | ct (ρ : Env)
abbrev SF := Env → Option Out
/-- what a way's end asks -/
def OutOk (K : PySem.W.Frag) (cl : Nat → Addr) (F0 B : Hp) (ms : List Mo) (rk : Nat) (E : Ends) : Out → Prop
  | .nx ρ => ∀ σ F H, RS K cl F0 B ms F H ρ σ → E.nx σ H
  | .bk ρ => ∀ σ F H, RS K cl F0 B ms F H ρ σ → E.bk σ H
  | .ct ρ => ∀ σ F H, RS K cl F0 B ms F H ρ σ → E.ct σ H
  | .rt d => ∀ v F H fp, Same F0 F → Same B H → Same F H → (∀ a o, B a = some o → F0 a = none → F a = none) → Ow K cl F H rk d v fp → fp.Nodup → (∀ a ∈ fp, B a = none) → E.rt v H
section
variable (X : Cx) (ct : Nat → Addr) (ms : List Mo) (rk : Nat)
def XS (st : Stmt) (f : SF) : Prop := ∃ t, PS X st t ∧ ∀ (F0 B F H : Hp) (ρ : Env) (σ : St) (o : Out) (E : Ends), RS X.K ct F0 B ms F H ρ σ → f ρ = some o → OutOk X.K ct F0 B ms rk E o → t E σ H
def XSs (st : List Stmt) (f : SF) : Prop := ∃ t, PSs X st t ∧ ∀ (F0 B F H : Hp) (ρ : Env) (σ : St) (o : Out) (E : Ends), RS X.K ct F0 B ms F H ρ σ → f ρ = some o → OutOk X.K ct F0 B ms rk E o → t E σ H
end
def sSkip : SF := fun ρ => some (.nx ρ)
def sSeq (f g : SF) : SF := fun ρ => (f ρ).bind fun o => match o with
  | .nx ρ' => g ρ'
  | o => some o
def sIf (c : BF) (f g : SF) : SF := fun ρ => (c ρ).bind fun b => if b = true then f ρ else g ρ
def sSet (i : Nat) (f : EF) : SF := fun ρ => (f ρ).bind fun d => some (.nx (ρ.set i (some d)))
def sRet (f : EF) : SF := fun ρ => (f ρ).bind fun d => some (.rt d)
def sRetN : SF := fun _ => some (.rt .non)
def sDrop (f : EF) : SF := fun ρ => (f ρ).bind fun _ => some (.nx ρ)
def sBreak : SF := fun ρ => some (.bk ρ)
def sCont : SF := fun ρ => some (.ct ρ)
def sNever : SF := fun _ => none
/-- turns of a while: at most so many -/
def FUEL : Nat := 2 ^ 9000
def whileD (c : BF) (b : SF) : Nat → SF
  | 0, _ => none
  | n + 1, ρ => (c ρ).bind fun t => if t = true then (b ρ).bind fun o => match o with
      | .nx ρ' => whileD c b n ρ'
      | .ct ρ' => whileD c b n ρ'
      | .bk ρ' => some (.nx ρ')
      | .rt d => some (.rt d)
    else some (.nx ρ)
def sWhile (c : BF) (b : SF) : SF := whileD c b FUEL
def forD (g : D → Env → Option Env) (b : SF) : List D → SF
  | [], ρ => some (.nx ρ)
  | d :: ds, ρ => (g d ρ).bind fun ρ1 => (b ρ1).bind fun o => match o with
      | .nx ρ' => forD g b ds ρ'
      | .ct ρ' => forD g b ds ρ'
      | .bk ρ' => some (.nx ρ')
      | .rt d => some (.rt d)
def sFor (f : Env → Option (List D)) (g : D → Env → Option Env) (b : SF) : SF := fun ρ => (f ρ).bind fun ds => forD g b ds ρ

section
variable {X : Cx} {ct : Nat → Addr} {ms : List Mo} {rk n m k : Nat} {st : Stmt} {rest : List Stmt} {a b c e : Expr} {f g h : EF} {p q : BF} {u w : SF} {pos : Pos}
theorem xss_nil : XSs X ct ms rk [] sSkip := ⟨_, pss_nil, fun F0 B F H ρ σ o E rs e w => by cases e; exact w σ F H rs⟩
theorem xss_cons (h1 : XS X ct ms rk st u) (h2 : XSs X ct ms rk rest w) : XSs X ct ms rk (st :: rest) (sSeq u w) := by
  obtain ⟨t, pt, qt⟩ := h1
  obtain ⟨t2, pt2, qt2⟩ := h2
  refine ⟨_, pss_cons pt pt2, fun F0 B F H ρ σ o E rs e z => ?_⟩
  obtain ⟨o1, e1, e2⟩ := bind1 e
  refine qt F0 B F H ρ σ o1 _ rs e1 ?_
  cases o1 with
  | nx ρ' => exact fun σ' F' H' rs' => qt2 F0 B F' H' ρ' σ' o E rs' e2 z
  | rt d => cases e2; exact z
  | bk ρ' => cases e2; exact z
  | ct ρ' => cases e2; exact z
theorem xss_one (h1 : XS X ct ms rk st u) : XSs X ct ms rk [st] u := by
  obtain ⟨t, pt, qt⟩ := h1
  exact ⟨_, pss_one pt, qt⟩
theorem xs_pass : XS X ct ms rk (.Pass pos) sSkip := ⟨_, ps_pass, fun F0 B F H ρ σ o E rs e w => by cases e; exact w σ F H rs⟩
theorem xs_break : XS X ct ms rk (.Break pos) sBreak := ⟨_, ps_break, fun F0 B F H ρ σ o E rs e w => by cases e; exact w σ F H rs⟩
theorem xs_cont : XS X ct ms rk (.Continue pos) sCont := ⟨_, ps_continue, fun F0 B F H ρ σ o E rs e w => by cases e; exact w σ F H rs⟩
theorem xs_never : XS X ct ms rk st sNever := ⟨_, ps_never, fun F0 B F H ρ σ o E rs e w => by cases e⟩
theorem xss_never {sts : List Stmt} : XSs X ct ms rk sts sNever := ⟨_, pss_never, fun F0 B F H ρ σ o E rs e w => by cases e⟩
theorem xs_doc {x j pos'} : XS X ct ms rk (.Expr (.Constant (.str x) j pos) pos') sSkip := ⟨_, ps_doc, fun F0 B F H ρ σ o E rs e w => by cases e; exact w σ F H rs⟩
theorem xs_expr (he : XE X ct ms n e f) (hs : swapsWith e none pos.line X.env = pure false := by rfl) : XS X ct ms rk (.Expr e pos) (sDrop f) := by
  obtain ⟨t, pt, qt⟩ := he
  refine ⟨_, ps_expr pt hs, fun F0 B F H ρ σ o E rs e w => ?_⟩
  obtain ⟨d, h1, h2⟩ := bind1 e
  cases h2
  exact qt F0 B F H ρ σ d _ rs h1 fun v F' H' x l => w σ F' H' (rs.ext x)
theorem xs_ret (he : XO X ct ms rk e f) : XS X ct ms rk (.Return (some e) pos) (sRet f) := by
  obtain ⟨t, pt, qt⟩ := he
  refine ⟨_, ps_ret pt, fun F0 B F H ρ σ o E rs e w => ?_⟩
  obtain ⟨d, h1, h2⟩ := bind1 e
  cases h2
  refine qt F0 B F H ρ σ d _ rs h1 fun v F' H' fp x l nd hf => ?_
  have r := rs.ext x
  exact w v F' H' fp r.f0 r.bh r.fh r.nf l nd fun z hz => rs.bh.free (hf z hz)
theorem xs_retN : XS X ct ms rk (.Return none pos) sRetN := ⟨_, ps_retN, fun F0 B F H ρ σ o E rs e w => by
  cases e
  exact w .non F H [] rs.f0 rs.bh rs.fh rs.nf (Ow.scal .non rfl) List.nodup_nil fun z hz => (by cases hz)⟩
/-- an owned name is handed back whole -/
theorem xs_retV {i : Nat} {x : Str} {pos' : Pos} (hm : ms[i]? = some (.ow rk)) (hN : X.N[i]? = some x := by rfl) (hv : Vis X.env.scope x := by first | exact Or.inl rfl | exact Or.inr (Or.inl rfl) | exact Or.inr (Or.inr rfl)) (hd : (x == ("__debug__" : Str)) = false := by decide)
    (hcd : (x == ("__classdict__" : Str)) = false := by decide) : XS X ct ms rk (.Return (some (.Name x pos')) pos) (sRet (eV i)) := by
  refine ⟨_, ps_ret (pe_var hN hv hd hcd), fun F0 B F H ρ σ o E rs e w => ?_⟩
  obtain ⟨d, h1, h2⟩ := bind1 e
  cases h2
  obtain ⟨fp, sl, nd, hb⟩ := rs.sl
  obtain ⟨f1, fr, i1, i2, i3, i4, i5⟩ := sl.put hm
  obtain ⟨v, hv', l⟩ := i4 d (join_some h1)
  exact ⟨v, hv', w v F H f1 rs.f0 rs.bh rs.fh rs.nf l (i3 nd).1 fun z hz => hb z (i1 z hz)⟩
theorem xs_if {st1 st2 : List Stmt} (hc : XT X ct ms c p) (h1 : XSs X ct ms rk st1 u) (h2 : XSs X ct ms rk st2 w) : XS X ct ms rk (.If c st1 st2 pos) (sIf p u w) := by
  obtain ⟨t, pt, qt⟩ := hc
  obtain ⟨t1, pt1, qt1⟩ := h1
  obtain ⟨t2, pt2, qt2⟩ := h2
  refine ⟨_, ps_if pt pt1 pt2, fun F0 B F H ρ σ o E rs e z => ?_⟩
  obtain ⟨x, h1, h2⟩ := bind1 e
  refine qt F0 B F H ρ σ x _ rs h1 fun F1 H1 x1 => ?_
  cases x with
  | true => rw [if_pos rfl] at h2 ⊢; exact qt1 F0 B F1 H1 ρ σ o E (rs.ext x1) h2 z
  | false => rw [if_neg Bool.false_ne_true] at h2 ⊢; exact qt2 F0 B F1 H1 ρ σ o E (rs.ext x1) h2 z
/-- the frame behind a new owned content of one name -/
theorem RS.put {K : PySem.W.Frag} {F0 B F H F' H' : Hp} {ρ : Env} {σ : St} {i : Nat} (rs : RS K ct F0 B ms F H ρ σ) (hm : ms[i]? = some (.ow k)) :
    ∃ f1 fr : List Addr, f1.Nodup ∧ (∀ a ∈ f1, B a = none) ∧ (∀ a ∈ f1, a ∉ fr) ∧ (∀ d, ρ[i]? = some (some d) → ∃ v, σ[i]? = some (some v) ∧ Ow K ct F H k d v f1) ∧ (∀ a ∈ fr, F a = none ∧ ∃ o, H a = some o) ∧
      ∀ (F' H' : Hp) (d' : D) (v' : V) (f' : List Addr), Same F F' → Same B H' → Same F' H' → (∀ a o, B a = some o → F0 a = none → F' a = none) → (∀ a ∈ fr, H' a = H a ∧ F' a = none) → Ow K ct F' H' k d' v' f' → f'.Nodup → (∀ a ∈ f', a ∉ fr) → (∀ a ∈ f', B a = none) →
        RS K ct F0 B ms F' H' (ρ.set i (some d')) (σ.set i (some v')) := by
  obtain ⟨fp, sl, nd, hb⟩ := rs.sl
  obtain ⟨f1, fr, i1, i2, i3, i4, i5⟩ := sl.put hm
  obtain ⟨n1, n2, n3⟩ := i3 nd
  refine ⟨f1, fr, n1, fun a z => hb a (i1 a z), n3, i4, fun a z => sl.cells a (i2 a z), fun F' H' d' v' f' s1 s2 s3 s4 kf o ndf dj hbf => ?_⟩
  obtain ⟨fp', q1, q2, q3⟩ := i5 F' H' d' v' f' s1 kf o
  exact ⟨rs.f0.trans s1, s2, s3, s4, fp', q1, q3 ndf n2 dj, fun a z => (q2 a z).elim (hbf a) fun z => hb a (i2 a z)⟩
theorem RS.set {K : PySem.W.Frag} {F0 B F H F' H' : Hp} {ρ : Env} {σ : St} {i : Nat} {d : D} {v : V} {fp : List Addr} (rs : RS K ct F0 B ms F H ρ σ) (hm : ms[i]? = some (.ow k)) (x : Ext F H F' H') (o : Ow K ct F' H' k d v fp) (nd : fp.Nodup) (hf : ∀ a ∈ fp, H a = none) :
    RS K ct F0 B ms F' H' (ρ.set i (some d)) (σ.set i (some v)) := by
  have r := rs.ext x
  obtain ⟨f1, fr, n1, b1, n3, i4, cf, put⟩ := rs.put (F' := F') (H' := H') hm
  refine put F' H' d v fp x.ff r.bh x.fh r.nf (fun a z => ?_) o nd (fun a z zb => ?_) fun a z => rs.bh.free (hf a z)
  · obtain ⟨hn, o, ho⟩ := cf a z
    exact ⟨(x.hh _ _ ho).trans ho.symm, x.nf a o ho hn⟩
  · obtain ⟨hn, o, ho⟩ := cf a zb
    rw [hf a z] at ho
    cases ho
theorem xs_set {i : Nat} {x : Str} {pos' : Pos} (hm : ms[i]? = some (.ow k)) (hN : X.N.Nodup) (hi : X.N[i]? = some x) (hx : Loc X.env.scope x) (he : XO X ct ms k e f) (hs : swapsWith e (some (.Name x pos')) pos.line X.env = pure false := by rfl)
    (hf : X.fn x = true ∨ X.env.scope.names.lookup x = some .local := by first | exact .inl rfl | exact .inr rfl | assumption) : XS X ct ms rk (.Assign [.Name x pos'] e pos) (sSet i f) := by
  obtain ⟨t, pt, qt⟩ := he
  refine ⟨_, ps_set hN hi hx pt hs hf, fun F0 B F H ρ σ o E rs e w => ?_⟩
  obtain ⟨d, h1, h2⟩ := bind1 e
  cases h2
  exact qt F0 B F H ρ σ d _ rs h1 fun v F' H' fp x l nd hf => w _ F' H' (rs.set hm x l nd hf)
/-! ### while -/
theorem xs_while (hc : XT X ct ms c p) (hb : XSs X ct ms rk rest u) (hp : PassesOwn (model X.prog X.w) X.A X.env X.xe) : XS X ct ms rk (.While c rest [] pos) (sWhile p u) := by
  obtain ⟨t, pt, qt⟩ := hc
  obtain ⟨t1, pt1, qt1⟩ := hb
  refine ⟨_, ps_while hp pt pt1, fun F0 B F H ρ σ o E rs e z => ?_⟩
  refine ⟨fun m σ H => ∃ F ρ, RS X.K ct F0 B ms F H ρ σ ∧ whileD p u m ρ = some o, ⟨FUEL, F, ρ, rs, e⟩, ?_⟩
  rintro m σ H ⟨F, ρ, rs, e⟩
  cases m with
  | zero => cases e
  | succ m =>
    obtain ⟨x, h1, h2⟩ := bind1 e
    refine qt F0 B F H ρ σ x _ rs h1 fun F1 H1 x1 => ?_
    cases x with
    | true =>
      rw [if_pos rfl] at h2 ⊢
      obtain ⟨o1, h3, h4⟩ := bind1 h2
      refine ⟨fun σ H => ∃ F ρ, RS X.K ct F0 B ms F H ρ σ ∧ whileD p u m ρ = some o, fun σ' H' h => ⟨m, Nat.lt_succ_self m, h⟩, ?_⟩
      refine qt1 F0 B F1 H1 ρ σ o1 _ (rs.ext x1) h3 ?_
      cases o1 with
      | nx ρ' => exact fun σ' F' H' r => ⟨F', ρ', r, h4⟩
      | ct ρ' => exact fun σ' F' H' r => ⟨F', ρ', r, h4⟩
      | bk ρ' => cases h4; exact z
      | rt d => cases h4; exact z
    | false =>
      rw [if_neg Bool.false_ne_true] at h2 ⊢
      cases h2
      exact z σ F1 H1 (rs.ext x1)
/-! ### for -/
theorem RS.re {K : PySem.W.Frag} {F0 B F H : Hp} {ρ : Env} {σ : St} (r : RS K ct F0 B ms F H ρ σ) : RS K ct F B ms F H ρ σ := ⟨.refl _, r.bh, r.fh, fun _ _ _ h => h, r.sl⟩
theorem RS.back {K : PySem.W.Frag} {F0 B F H F' H' : Hp} {ρ ρ' : Env} {σ σ' : St} (r : RS K ct F0 B ms F H ρ σ) (q : RS K ct F B ms F' H' ρ' σ') : RS K ct F0 B ms F' H' ρ' σ' :=
  ⟨r.f0.trans q.f0, q.bh, q.fh, fun a o h n => q.nf a o h (r.nf a o h n), q.sl⟩
theorem OutOk.re {K : PySem.W.Frag} {F0 B F H : Hp} {ρ : Env} {σ : St} {E : Ends} {o : Out} (r : RS K ct F0 B ms F H ρ σ) (z : OutOk K ct F0 B ms rk E o) : OutOk K ct F B ms rk E o := by
  cases o with
  | nx ρ => exact fun σ' F' H' q => z σ' F' H' (r.back q)
  | bk ρ => exact fun σ' F' H' q => z σ' F' H' (r.back q)
  | ct ρ => exact fun σ' F' H' q => z σ' F' H' (r.back q)
  | rt d => exact fun v F' H' fp s1 s2 s3 s4 => z v F' H' fp (r.f0.trans s1) s2 s3 fun a o h n => s4 a o h (r.nf a o h n)
/-- the walk yields these items -/
def ItOk (K : PySem.W.Frag) (ct : Nat → Addr) (F B : Hp) (n : Nat) (J : It) (ds : List D) : Prop :=
  ∀ (i : Nat) (F' H' : Hp), Same F F' → Same B H' → Same F' H' → (∀ d, ds[i]? = some d → J.go i H' ∧ ∀ x H2, J.yld i H' x H2 → ∃ F2, Ext F' H' F2 H2 ∧ Al K ct F2 B n d x) ∧ (ds.length ≤ i → J.stop i H')
def XI (X : Cx) (ct : Nat → Addr) (ms : List Mo) (n : Nat) (tg iter : Expr) (f : Env → Option (List D)) : Prop := ∃ wi, PI X tg iter wi ∧ ∀ (F0 B F H : Hp) (ρ : Env) (σ : St) (ds : List D) (R : It → Hp → Prop), RS X.K ct F0 B ms F H ρ σ → f ρ = some ds →
  (∀ J F' H', Ext F H F' H' → ItOk X.K ct F' B n J ds → R J H') → wi σ H R
/-- the same where nothing changes on the way -/
def XIc (X : Cx) (ct : Nat → Addr) (ms : List Mo) (n : Nat) (tg iter : Expr) (f : Env → Option (List D)) : Prop := ∃ wi, PI X tg iter wi ∧ ∀ (F0 B F H : Hp) (ρ : Env) (σ : St) (ds : List D) (R : It → Hp → Prop), RS X.K ct F0 B ms F H ρ σ → f ρ = some ds →
  (∀ J F' H', Ext F H F' H' → ItOk X.K ct F' H' n J ds → R J H') → wi σ H R
/-- a target that takes an item -/
def XG (X : Cx) (ct : Nat → Addr) (ms : List Mo) (n : Nat) (tg : Expr) (g : D → Env → Option Env) : Prop := ∃ t, PG X tg t ∧ ∀ (F0 B F H : Hp) (ρ ρ' : Env) (σ : St) (d : D) (v : V) (Q : St → Hp → Prop), RS X.K ct F0 B ms F H ρ σ → Al X.K ct F B n d v → g d ρ = some ρ' →
  (∀ σ', RS X.K ct F0 B ms F H ρ' σ' → Q σ' H) → t v σ H Q
theorem xs_for {tg iter : Expr} {fi : Env → Option (List D)} {gg : D → Env → Option Env} (hi : XI X ct ms n tg iter fi) (hg : XG X ct ms n tg gg) (hb : XSs X ct ms rk rest u) (hp : PassesOwn (model X.prog X.w) X.A X.env X.xe) (hc : X.calm = true)
    (hs : ∀ x, foldedSetIterable iter X.env x = pure x := by intro _; rfl) : XS X ct ms rk (.For tg iter rest [] pos) (sFor fi gg u) := by
  obtain ⟨wi, pi, qi⟩ := hi
  obtain ⟨tg', pg, qg⟩ := hg
  obtain ⟨t1, pt1, qt1⟩ := hb
  refine ⟨_, ps_for hp hc pi pg pt1 hs, fun F0 B F H ρ σ o E rs e z => ?_⟩
  obtain ⟨ds, h1, h2⟩ := bind1 e
  refine qi F0 B F H ρ σ ds _ rs h1 fun J F1 H1 x1 ok => ?_
  refine ⟨fun i m σ H => m = ds.length - i ∧ i ≤ ds.length ∧ ∃ F ρ, Same F1 F ∧ RS X.K ct F0 B ms F H ρ σ ∧ forD gg u (ds.drop i) ρ = some o, ⟨ds.length, rfl, Nat.zero_le _, F1, ρ, .refl _, rs.ext x1, h2⟩, ?_⟩
  rintro i m σ H ⟨rfl, hil, F, ρ, s1, rs, e⟩
  obtain ⟨k1, k2⟩ := ok i F H s1 rs.bh rs.fh
  by_cases hlt : i < ds.length
  · right
    have hd : ds[i]? = some ds[i] := by simp [hlt]
    obtain ⟨go, yl⟩ := k1 _ hd
    rw [List.drop_eq_getElem_cons hlt] at e
    obtain ⟨ρ1, h3, h4⟩ := bind1 e
    obtain ⟨o1, h5, h6⟩ := bind1 h4
    refine ⟨go, fun σ H => i + 1 ≤ ds.length ∧ ∃ F ρ, Same F1 F ∧ RS X.K ct F0 B ms F H ρ σ ∧ forD gg u (ds.drop (i + 1)) ρ = some o, fun σ' H' h => ⟨ds.length - (i + 1), by omega, rfl, h⟩, fun x H2 y => ?_⟩
    obtain ⟨F2, x2, l⟩ := yl x H2 y
    refine qg F0 B F2 H2 ρ ρ1 σ _ x _ (rs.ext x2) l h3 fun σ' r => ?_
    have s2 := s1.trans x2.ff
    refine qt1 F2 B F2 H2 ρ1 σ' o1 _ r.re h5 ?_
    cases o1 with
    | nx ρ' => exact fun σ' F' H' q => ⟨hlt, F', ρ', s2.trans q.f0, r.back q, h6⟩
    | ct ρ' => exact fun σ' F' H' q => ⟨hlt, F', ρ', s2.trans q.f0, r.back q, h6⟩
    | bk ρ' => cases h6; exact fun σ' F' H' q => z σ' F' H' (r.back q)
    | rt d => cases h6; exact OutOk.re (o := .rt d) r z
  · left
    refine ⟨k2 (by omega), ?_⟩
    have : ds.drop i = [] := List.drop_eq_nil_of_le (by omega)
    rw [this] at e
    cases e
    exact z σ F H rs
/-! ### targets -/
def gV (i : Nat) : D → Env → Option Env := fun d ρ => some (ρ.set i (some d))
theorem xg_name {i : Nat} {x : Str} (hm : ms[i]? = some (.ow 0)) (hN : X.N.Nodup) (hi : X.N[i]? = some x) (hx : Loc X.env.scope x)
    (hf : X.fn x = true ∨ X.env.scope.names.lookup x = some .local := by first | exact .inl rfl | exact .inr rfl | assumption) : XG X ct ms 0 (.Name x pos) (gV i) := by
  refine ⟨_, pg_name hN hi hx hf, fun F0 B F H ρ ρ' σ d v Q rs l e w => ?_⟩
  cases e
  exact w _ (rs.set hm (.refl rs.fh) (Ow.zero l) List.nodup_nil fun a z => (by cases z))
/-- a lent item -/
theorem SL.setA {K : PySem.W.Frag} {F B H : Hp} {d : D} {v : V} (l : Al K ct F B n d v) : ∀ {ms : List Mo} {ρ : Env} {σ : St} {fp : List Addr} {i : Nat}, SL K ct F B H ms ρ σ fp → ms[i]? = some (.al n) → SL K ct F B H ms (ρ.set i (some d)) (σ.set i (some v)) fp
  | _, _, _, _, _, .nil, e => by simp at e
  | _, _, _, _, 0, .no t, e => by simp at e; subst e; exact .al l t
  | _, _, _, _, 0, .al h t, e => by simp at e; subst e; exact .al l t
  | _, _, _, _, 0, .ow h t, e => by simp at e
  | _, _, _, _, 0, .px h t, e => by simp at e
  | _, _, _, _, i + 1, .no t, e => .no (SL.setA l t (by simpa using e))
  | _, _, _, _, i + 1, .al h t, e => .al h (SL.setA l t (by simpa using e))
  | _, _, _, _, i + 1, .ow h t, e => .ow h (SL.setA l t (by simpa using e))
  | _, _, _, _, i + 1, .px h t, e => .px h (SL.setA l t (by simpa using e))
theorem xg_nameA {i : Nat} {x : Str} (hm : ms[i]? = some (.al n)) (hN : X.N.Nodup) (hi : X.N[i]? = some x) (hx : Loc X.env.scope x)
    (hf : X.fn x = true ∨ X.env.scope.names.lookup x = some .local := by first | exact .inl rfl | exact .inr rfl | assumption) : XG X ct ms n (.Name x pos) (gV i) := by
  refine ⟨_, pg_name hN hi hx hf, fun F0 B F H ρ ρ' σ d v Q rs l e w => ?_⟩
  cases e
  obtain ⟨fp, sl, nd, hb⟩ := rs.sl
  exact w _ ⟨rs.f0, rs.bh, rs.fh, rs.nf, fp, sl.setA l hm, nd, hb⟩
/-- several targets -/
def XGs (X : Cx) (ct : Nat → Addr) (ms : List Mo) (n : Nat) (tgs : List Expr) (g : List D → Env → Option Env) : Prop := ∃ t, PGs X tgs t ∧ (∀ ds ρ ρ', g ds ρ = some ρ' → ds.length = tgs.length) ∧ ∀ (F0 B F H : Hp) (ρ ρ' : Env) (σ : St) (ds : List D) (vs : List V) (Q : St → Hp → Prop), RS X.K ct F0 B ms F H ρ σ → Pr (Al X.K ct F B n) ds vs → g ds ρ = some ρ' →
  (∀ σ', RS X.K ct F0 B ms F H ρ' σ' → Q σ' H) → t vs σ H Q
def gsNil : List D → Env → Option Env := fun ds ρ => match ds with
  | [] => some ρ
  | _ => none
def gsCons (g : D → Env → Option Env) (gs : List D → Env → Option Env) : List D → Env → Option Env := fun ds ρ => match ds with
  | d :: ds => (g d ρ).bind fun ρ' => gs ds ρ'
  | [] => none
theorem xgs_nil : XGs X ct ms n [] gsNil := by
  refine ⟨_, pgs_nil, fun ds ρ ρ' e => ?_, fun F0 B F H ρ ρ' σ ds vs Q rs l e w => ?_⟩
  · cases ds with
    | nil => rfl
    | cons d ds => cases e
  · cases l with
    | nil => cases e; exact ⟨rfl, w σ rs⟩
    | cons _ _ => cases e
theorem xgs_cons {tg : Expr} {tgs : List Expr} {gg : D → Env → Option Env} {gs : List D → Env → Option Env} (h1 : XG X ct ms n tg gg) (h2 : XGs X ct ms n tgs gs)
    (hs : (assignEach (tg :: tgs) X.env).map (·.2) = assign tg X.env :: (assignEach tgs X.env).map (·.2) := by rfl) : XGs X ct ms n (tg :: tgs) (gsCons gg gs) := by
  obtain ⟨t, pt, qt⟩ := h1
  obtain ⟨t2, pt2, lt2, qt2⟩ := h2
  refine ⟨_, pgs_cons pt pt2 hs, fun ds ρ ρ' e => ?_, fun F0 B F H ρ ρ' σ ds vs Q rs l e w => ?_⟩
  · cases ds with
    | nil => cases e
    | cons d ds =>
      obtain ⟨ρ1, h3, h4⟩ := bind1 e
      rw [List.length_cons, List.length_cons, lt2 _ _ _ h4]
  · cases l with
    | nil => cases e
    | cons h t =>
      obtain ⟨ρ1, h3, h4⟩ := bind1 e
      exact ⟨_, _, rfl, qt F0 B F H ρ ρ1 σ _ _ _ rs h h3 fun σ1 r1 => qt2 F0 B F H ρ1 ρ' σ1 _ _ _ r1 t h4 w⟩
def gT (gs : List D → Env → Option Env) : D → Env → Option Env := fun d ρ => match d with
  | .tup ds => gs ds ρ
  | _ => none
theorem xg_tup {tgs : List Expr} {j : Nat} {gs : List D → Env → Option Env} (hc : X.calm = true) (h : XGs X ct ms (n - 1) tgs gs) (hl : (assignEach tgs X.env).length = tgs.length := by rfl) (hst : (assignEach tgs X.env).findIdx? (·.1) = none := by rfl) : XG X ct ms n (.Tuple tgs j pos) (gT gs) := by
  obtain ⟨t, pt, lt, qt⟩ := h
  refine ⟨_, pg_tup (n := tgs.length) hc pt hl hst, fun F0 B F H ρ ρ' σ d v Q rs l e w => ?_⟩
  cases d with
  | tup ds =>
    have l' : Al X.K ct F H n (.tup ds) v := l.mono (.refl _) rs.bh
    have : ∃ a vs, v = .ref a ∧ SqT X.K H a vs ∧ Pr (Al X.K ct F B (n - 1)) ds vs := by
      cases n with
      | zero =>
        have l : Dt X.K ct F (.tup ds) v := l
        cases l with
        | tup q t => exact ⟨_, _, rfl, SqT.of (rs.fh _ _ q), t.pr⟩
      | succ n =>
        rcases l with l | l
        · cases l with
          | tup q t => exact ⟨_, _, rfl, SqT.of (rs.fh _ _ q), t.pr.mono fun _ _ => Al.of⟩
        · cases l with
          | tup q t => exact ⟨_, _, rfl, SqT.of (rs.fh _ _ q), t⟩
    obtain ⟨a, vs, rfl, ha, hp⟩ := this
    exact ⟨a, vs, rfl, ha, hp.length.symm.trans (lt _ _ _ e), qt F0 B F H ρ ρ' σ ds vs Q rs hp e w⟩
  | _ => cases e
/-! ### a def -/
def startD (N : List Str) (ds : List D) : Env := ds.map some ++ List.replicate (N.length - ds.length) none
/-- the def as a function of data -/
def mOf (N : List Str) (b : SF) (ds : List D) : Option D := (b (startD N ds)).bind fun o => match o with
  | .rt d => some d
  | .nx _ => some .non
  | _ => none
theorem SL.start {K : PySem.W.Frag} {F B H : Hp} : ∀ {pm : List Nat} {ds : List D} {vs : List V} {ms : List Mo} (j : Nat), AlL K ct F B pm ds vs → (∀ (i n : Nat), pm[i]? = some n → ms[i]? = some (Mo.al n) ∨ (n = 0 ∧ ms[i]? = some (Mo.ow 0))) → ms.length = pm.length + j →
    SL K ct F B H ms (ds.map some ++ List.replicate j none) (vs.map some ++ List.replicate j none) []
  | _, _, _, ms, j, .nil, _, hl => by
    have : ∀ (j : Nat) (ms : List Mo), ms.length = j → SL K ct F B H ms (List.replicate j none) (List.replicate j none) [] := by
      intro j
      induction j with
      | zero => intro ms h; cases ms with
        | nil => exact .nil
        | cons _ _ => simp at h
      | succ j ih => intro ms h; cases ms with
        | nil => simp at h
        | cons m ms => exact .no (ih ms (by simpa using h))
    simpa using this j ms (by simpa using hl)
  | _, _, _, [], j, .cons h t, _, hl => by simp at hl; omega
  | _, _, _, m :: ms, j, .cons (n := n) h t, hm, hl => by
    have ih := SL.start (ms := ms) (H := H) j t (fun i n e => by simpa using hm (i + 1) n (by simpa using e)) (by simp at hl; omega)
    rcases hm 0 n rfl with e | ⟨rfl, e⟩
    · simp at e; subst e; exact .al h ih
    · simp at e; subst e; exact SL.ow (f := []) (Ow.zero h) ih
theorem lift {P : Program} {w : World} {K : PySem.W.Frag} {mg : Str → Option Value} {base : Heap} {x qual : Str} {st : Stmt} {fa : Addr} {fd : FuncData} {N ps : List Str} {kk : Nat} {pm : List Nat} {bf : SF} (Fn : Fun K x qual st fa fd) (S : FnScope N ps (defScope st)) (hpm : pm.length = ps.length) (hms : ms.length = N.length) (hle : ps.length ≤ N.length)
    (hmo : ∀ (i n : Nat), pm[i]? = some n → ms[i]? = some (Mo.al n) ∨ (n = 0 ∧ ms[i]? = some (Mo.ow 0)))
    (body : ∀ (cdv : Value) (A : Around) (outer : List PySem.Env) (s : Shared) (H : Hp) (E : XK), Room kk (A.deeper (envOfC qual (defScope st) s.heap.objs.size fa cdv)) → XSs (cxOf CX0 P w K mg base N qual (defScope st) fa cdv A outer s H E).nox ct ms rk (defBody st) bf) :
    FnOk P w K mg base CX0 (kk + 1) fa fd ps (LSp K ct pm rk (mOf N bf)) := by
  refine Fn.ok S (LSp.len hpm) fun cdv A outer s H vs Q E hr h => ?_
  obtain ⟨F, ds, d, sF, l, hm, q⟩ := h
  obtain ⟨t, pt, qt⟩ := body cdv A outer s H E hr
  refine ⟨t, pt, ?_⟩
  obtain ⟨o, h1, h2⟩ := bind1 hm
  have hvl : vs.length = pm.length := l.length
  have hdl : ds.length = vs.length := l.length'
  refine qt F H F H (startD N ds) (L2.start N vs) o _ ⟨.refl _, .refl _, sF, fun _ _ _ h => h, [], ?_, List.nodup_nil, fun a z => (by cases z)⟩ h1 ?_
  · unfold startD L2.start
    rw [hdl]
    exact SL.start _ l hmo (by omega)
  · cases o with
    | nx ρ =>
      cases h2
      exact fun σ F' H' r => q .non F' H' [] ⟨r.f0, r.bh, r.fh, r.nf⟩ (Ow.scal .non rfl) List.nodup_nil fun a z => (by cases z)
    | rt d' =>
      cases h2
      exact fun v F' H' fp s1 s2 s3 s4 o nd hf => q v F' H' fp ⟨s1, s2, s3, s4⟩ o nd hf
    | bk ρ => cases h2
    | ct ρ => cases h2
end
end L3

/-! ## operations on data -/
namespace L3
open PySem PySem.Spec L2
open PyProof.Rows hiding St
theorem OpR.or {X : Cx} {f : Value → Value → Sem Value} {r r' : R2} (h : OpR X f r) (h' : OpR X f r') : OpR X f (fun x y H Q => r x y H Q ∨ r' x y H Q) :=
  fun pins s σ H x y v u Q I rx ry q => q.elim (h pins s σ H x y v u Q I rx ry) (h' pins s σ H x y v u Q I rx ry)
section
variable {K : PySem.W.Frag} {ct : Nat → Addr} {n m k : Nat}
theorem Op2.or {r r' : R2} {op : D → D → Option D} (h : ∀ (F H : Hp) (x y : V) (d1 d2 d : D) (Q : VK), Same F H → Al K ct F H n d1 x → Al K ct F H m d2 y → op d1 d2 = some d → (∀ v F' H', Ext F H F' H' → Al K ct F' H' k d v → Q v H') → r x y H Q ∨ r' x y H Q) : Op2 K ct n m k (fun x y H Q => r x y H Q ∨ r' x y H Q) op := h
/-- ints -/
def i2 (g : Int → Int → D) : D → D → Option D
  | .int i, .int j => some (g i j)
  | _, _ => none
def i2c (C : Int → Int → Prop) [∀ i j, Decidable (C i j)] (g : Int → Int → D) : D → D → Option D
  | .int i, .int j => if C i j then some (g i j) else none
  | _, _ => none
theorem op2_i {g : Int → Int → D} {gv : Int → Int → V} (hg : ∀ i j F, Dt K ct F (g i j) (gv i j)) : Op2 K ct n m k (rI0 gv) (i2 g) := by
  intro F H x y d1 d2 d Q s l1 l2 e w
  cases d1 with
  | int i =>
    cases d2 with
    | int j => cases e; exact ⟨i, j, l1.int, l2.int, w _ F H (.refl s) (Al.of (hg i j F))⟩
    | _ => cases e
  | _ => cases e
theorem op2_ic {C C' : Int → Int → Prop} [∀ i j, Decidable (C i j)] {g : Int → Int → D} {gv : Int → Int → V} (hC : ∀ i j, C i j → C' i j) (hg : ∀ i j F, Dt K ct F (g i j) (gv i j)) : Op2 K ct n m k (rI C' gv) (i2c C g) := by
  intro F H x y d1 d2 d Q s l1 l2 e w
  cases d1 with
  | int i =>
    cases d2 with
    | int j =>
      unfold i2c at e
      dsimp only at e
      by_cases h : C i j
      · rw [if_pos h] at e; cases e; exact ⟨i, j, l1.int, l2.int, hC i j h, w _ F H (.refl s) (Al.of (hg i j F))⟩
      · rw [if_neg h] at e; cases e
    | _ => cases e
  | _ => cases e
def BIG : Nat := 2 ^ 9000
def HUGE : Nat := 2 ^ 100000
def subD : D → D → Option D := i2 fun i j => .int (i - j)
theorem op2_sub : Op2 K ct n m k (rI0 fun i j => .int (i - j)) subD := op2_i fun _ _ _ => .int _
def mulOk (i j : Int) : Prop := (-18446744073709551616 < i ∧ i < 18446744073709551616) ∨ (-18446744073709551616 < j ∧ j < 18446744073709551616) ∨ (i.natAbs < HUGE ∧ j.natAbs < HUGE)
instance (i j : Int) : Decidable (mulOk i j) := by unfold mulOk; infer_instance
def mulI : D → D → Option D := i2c mulOk fun i j => .int (i * j)
theorem mulOk.ok {i j : Int} (h : mulOk i j) : CMulS i j := by
  rcases h with h | h | h
  · exact .inl (.inl ⟨by have := h.1; omega, by have := h.2; omega⟩)
  · exact .inl (.inr ⟨by have := h.1; omega, by have := h.2; omega⟩)
  · exact .inr h
theorem op2_mul : Op2 K ct n m k (rI CMulS fun i j => .int (i * j)) mulI := op2_ic (fun _ _ => mulOk.ok) fun _ _ _ => .int _

/-- scalars as values -/
def D.v : D → V
  | .bl b => .bl b
  | .int i => .int i
  | .str x => .str x
  | _ => .non
theorem Dt.v {F : Hp} {d : D} {v : V} (h : Dt K ct F d v) (hs : d.sc = true) : v = d.v := by
  cases h <;> first | rfl | cases hs
theorem Al.v {F G : Hp} {d : D} {v : V} (h : Al K ct F G n d v) (hs : d.sc = true) : v = d.v := Dt.v (Al.scal (F' := F) h hs) hs
theorem D.flat {d : D} (hs : d.sc = true) : flatV d.v = true := by cases d <;> first | rfl | cases hs
theorem Pr.vs {F G : Hp} : ∀ {ds : List D} {vs : List V}, Pr (Al K ct F G n) ds vs → ds.all D.sc = true → vs = ds.map D.v
  | _, _, .nil, _ => rfl
  | d :: ds, v :: vs, .cons h t, e => by
    rw [List.all_cons, Bool.and_eq_true] at e
    rw [List.map_cons, Al.v h e.1, Pr.vs t e.2]
/-! ### // % ** << >> -/
def fdivD : D → D → Option D
  | .int i, .int j => if 0 < j ∧ j < 4611686018427387904 then some (.int (i / j)) else if j ≠ 0 ∧ j.natAbs < BIG then some (.int (i.fdiv j)) else none
  | _, _ => none
theorem op2_fdiv : Op2 K ct n m k (rI (fun _ j => j ≠ 0 ∧ Sz 9000 j) fun i j => .int (i.fdiv j)) fdivD := by
  intro F H x y d1 d2 d Q s l1 l2 e w
  cases d1 with
  | int i =>
    cases d2 with
    | int j =>
      unfold fdivD at e
      dsimp only at e
      by_cases h : 0 < j ∧ j < 4611686018427387904
      · rw [if_pos h] at e
        cases e
        refine ⟨i, j, l1.int, l2.int, ⟨by omega, ?_⟩, ?_⟩
        · have : Sz 62 j := by unfold Sz; omega
          exact this.mono (by decide)
        · show Q (.int (i.fdiv j)) H
          rw [Int.fdiv_eq_ediv_of_nonneg i (by omega)]
          exact w _ F H (.refl s) (Al.of (.int _))
      · rw [if_neg h] at e
        by_cases h : j ≠ 0 ∧ j.natAbs < BIG
        · rw [if_pos h] at e
          cases e
          exact ⟨i, j, l1.int, l2.int, h, w _ F H (.refl s) (Al.of (.int _))⟩
        · rw [if_neg h] at e; cases e
    | _ => cases e
  | _ => cases e
def modD : D → D → Option D
  | .int i, .int j => if 0 < j then some (.int (i % j)) else if j ≠ 0 then some (.int (i.fmod j)) else none
  | _, _ => none
theorem op2_mod : Op2 K ct n m k (rI (fun _ j => j ≠ 0) fun i j => .int (i.fmod j)) modD := by
  intro F H x y d1 d2 d Q s l1 l2 e w
  cases d1 with
  | int i =>
    cases d2 with
    | int j =>
      unfold modD at e
      dsimp only at e
      by_cases h : 0 < j
      · rw [if_pos h] at e
        cases e
        refine ⟨i, j, l1.int, l2.int, by omega, ?_⟩
        show Q (.int (i.fmod j)) H
        rw [Int.fmod_eq_emod_of_nonneg i (by omega)]
        exact w _ F H (.refl s) (Al.of (.int _))
      · rw [if_neg h] at e
        by_cases h : j ≠ 0
        · rw [if_pos h] at e
          cases e
          exact ⟨i, j, l1.int, l2.int, h, w _ F H (.refl s) (Al.of (.int _))⟩
        · rw [if_neg h] at e; cases e
    | _ => cases e
  | _ => cases e
def powOk (i j : Int) : Prop := 0 ≤ j ∧ j ≤ 1000000 ∧ i.natAbs < 18446744073709551616
instance (i j : Int) : Decidable (powOk i j) := by unfold powOk; infer_instance
def powD : D → D → Option D := i2c powOk fun i j => .int (i ^ j.toNat)
theorem op2_pow : Op2 K ct n m k (rI CPow fun i j => .int (i ^ j.toNat)) powD := op2_ic (fun _ _ h => ⟨h.1, h.2.1, by have := h.2.2; omega⟩) fun _ _ _ => .int _
def shlD : D → D → Option D := i2c powOk fun i j => .int (i * 2 ^ j.toNat)
theorem op2_shl : Op2 K ct n m k (rI CPow fun i j => .int (i * 2 ^ j.toNat)) shlD := op2_ic (fun _ _ h => ⟨h.1, h.2.1, by have := h.2.2; omega⟩) fun _ _ _ => .int _
def shrD : D → D → Option D := i2c (fun _ j => 0 ≤ j) fun i j => .int (i / 2 ^ j.toNat)
theorem op2_shr : Op2 K ct n m k (rI (fun _ j => 0 ≤ j) fun i j => .int (i / 2 ^ j.toNat)) shrD := op2_ic (fun _ _ h => h) fun _ _ _ => .int _
/-! ### < <= > >= of ints; of texts -/
def ltD : D → D → Option D := i2 fun i j => .bl (decide (i < j))
def leI : D → D → Option D := i2 fun i j => .bl (decide (i ≤ j))
def gtD : D → D → Option D := i2 fun i j => .bl (decide (j < i))
def geD : D → D → Option D := i2 fun i j => .bl (decide (j ≤ i))
theorem op2_lt : Op2 K ct n m k (rI0 fun i j => .bl (decide (i < j))) ltD := op2_i fun _ _ _ => .bl _
theorem op2_le : Op2 K ct n m k (rI0 fun i j => .bl (decide (i ≤ j))) leI := op2_i fun _ _ _ => .bl _
theorem op2_gt : Op2 K ct n m k (rI0 fun i j => .bl (decide (j < i))) gtD := op2_i fun _ _ _ => .bl _
theorem op2_ge : Op2 K ct n m k (rI0 fun i j => .bl (decide (j ≤ i))) geD := op2_i fun _ _ _ => .bl _
def rLeS : R2 := fun x y H Q => ∃ i j, x = .str i ∧ y = .str j ∧ Q (.bl (!(decide (j.cps.toList < i.cps.toList)))) H
theorem op_leS {X : Cx} : OpR X (compareOp .LtE) rLeS := by
  intro pins s σ H x y v u Q I rx ry h
  obtain ⟨i, j, rfl, rfl, q⟩ := h
  obtain ⟨t, rfl⟩ := rx
  obtain ⟨t', rfl⟩ := ry
  exact PySem.P.le_str ⟨.bl _, H, I, rfl, q⟩
def leD : D → D → Option D
  | .int i, .int j => some (.bl (decide (i ≤ j)))
  | .str i, .str j => some (.bl (!(decide (j.cps.toList < i.cps.toList))))
  | _, _ => none
theorem op2_leA : Op2 K ct n m k (fun x y H Q => rI0 (fun i j => .bl (decide (i ≤ j))) x y H Q ∨ rLeS x y H Q) leD := by
  intro F H x y d1 d2 d Q s l1 l2 e w
  cases d1 with
  | int i =>
    cases d2 with
    | int j => cases e; exact .inl ⟨i, j, l1.int, l2.int, w _ F H (.refl s) (Al.of (.bl _))⟩
    | _ => cases e
  | str i =>
    cases d2 with
    | str j => cases e; exact .inr ⟨i, j, l1.str, l2.str, w _ F H (.refl s) (Al.of (.bl _))⟩
    | _ => cases e
  | _ => cases e
theorem op_leA {X : Cx} : OpR X (compareOp .LtE) (fun x y H Q => rI0 (fun i j => .bl (decide (i ≤ j))) x y H Q ∨ rLeS x y H Q) := OpR.or op_le op_leS
/-! ### is None, is True -/
def D.isN : D → Bool
  | .non => true
  | _ => false
def D.isB (b : Bool) : D → Bool
  | .bl c => c == b
  | _ => false
def isD (neg : Bool) : D → D → Option D
  | d, .non => some (.bl (if neg then !d.isN else d.isN))
  | d, .bl b => some (.bl (if neg then !d.isB b else d.isB b))
  | _, _ => none
theorem Al.ref {F G : Hp} {d : D} {v : V} (h : Al K ct F G n d v) (hs : d.sc = false) : ∃ a, v = .ref a := by
  cases n with
  | zero => cases (show Dt K ct F d v from h) <;> first | cases hs; done | exact ⟨_, rfl⟩
  | succ n => rcases h with h | h <;> cases h <;> first | cases hs; done | exact ⟨_, rfl⟩
theorem Al.isn {F G : Hp} {d : D} {v : V} (h : Al K ct F G n d v) : decide (v = .non) = d.isN := by
  cases hs : d.sc with
  | true =>
    have := Al.v h hs
    subst this
    cases d <;> first | rfl | cases hs
  | false =>
    obtain ⟨a, rfl⟩ := h.ref hs
    cases d <;> first | rfl | cases hs
theorem Al.isb {F G : Hp} {d : D} {v : V} {b : Bool} (h : Al K ct F G n d v) : decide (v = .bl b) = d.isB b := by
  cases hs : d.sc with
  | true =>
    have := Al.v h hs
    subst this
    cases d <;> first | rfl | (cases hs; done) | (rename_i c; cases b <;> cases c <;> rfl)
  | false =>
    obtain ⟨a, rfl⟩ := h.ref hs
    cases d <;> first | rfl | cases hs
def rIs : R2 := fun x y H Q => (y = .non ∧ Q (.bl (decide (x = .non))) H) ∨ ∃ b, y = .bl b ∧ Q (.bl (decide (x = .bl b))) H
def rIsNot : R2 := fun x y H Q => (y = .non ∧ Q (.bl (!decide (x = .non))) H) ∨ ∃ b, y = .bl b ∧ Q (.bl (!decide (x = .bl b))) H
theorem op_is {X : Cx} : OpR X (compareOp .Is) rIs := OpR.or op_isN op_isB
theorem op_isNot {X : Cx} : OpR X (compareOp .IsNot) rIsNot := OpR.or op_notN op_isnotB
theorem op2_is : Op2 K ct n m k rIs (isD false) := by
  intro F H x y d1 d2 d Q s l1 l2 e w
  cases d2 with
  | non =>
    cases e
    refine .inl ⟨l2.non, ?_⟩
    rw [l1.isn]
    exact w _ F H (.refl s) (Al.of (.bl _))
  | bl b =>
    cases e
    refine .inr ⟨b, l2.bl, ?_⟩
    rw [l1.isb]
    exact w _ F H (.refl s) (Al.of (.bl _))
  | _ => cases e
theorem op2_isNot : Op2 K ct n m k rIsNot (isD true) := by
  intro F H x y d1 d2 d Q s l1 l2 e w
  cases d2 with
  | non =>
    cases e
    refine .inl ⟨l2.non, ?_⟩
    rw [l1.isn]
    exact w _ F H (.refl s) (Al.of (.bl _))
  | bl b =>
    cases e
    refine .inr ⟨b, l2.bl, ?_⟩
    rw [l1.isb]
    exact w _ F H (.refl s) (Al.of (.bl _))
  | _ => cases e
/-! ### == != -/
mutual
def D.py : D → Option PyData
  | .non => some .none
  | .bl b => some (.bool b)
  | .int i => some (.int i)
  | .str x => some (.str x)
  | .lst xs => (D.pys xs).bind fun ys => some (.list ys)
  | .tup xs => (D.pys xs).bind fun ys => some (.tuple ys)
  | _ => none
def D.pys : List D → Option (List PyData)
  | [] => some []
  | d :: ds => (D.py d).bind fun x => (D.pys ds).bind fun xs => some (x :: xs)
end
mutual
theorem Dt.toPy {F H : Hp} (s : Same F H) : ∀ {d : D} {v : V} {e : PyData}, Dt K ct F d v → d.py = some e → L2.Dt K H v e
  | _, _, _, .non, h => by simp only [D.py] at h; cases h; exact .non
  | _, _, _, .bl b, h => by simp only [D.py] at h; cases h; exact .bl b
  | _, _, _, .int b, h => by simp only [D.py] at h; cases h; exact .int b
  | _, _, _, .str b, h => by simp only [D.py] at h; cases h; exact .str b
  | _, _, _, .lst q t, h => by
    simp only [D.py] at h
    obtain ⟨ys, h1, h2⟩ := bind1 h
    cases h2
    exact .lst (s.seq q) (Dts.toPy s t h1)
  | _, _, _, .tup q t, h => by
    simp only [D.py] at h
    obtain ⟨ys, h1, h2⟩ := bind1 h
    cases h2
    exact .tup (SqT.of (s _ _ q)) (Dts.toPy s t h1)
  | _, _, _, .dK _ _ _, h => by simp only [D.py] at h; cases h
  | _, _, _, .dT _ _ _, h => by simp only [D.py] at h; cases h
  | _, _, _, .obj _ _ _, h => by simp only [D.py] at h; cases h
theorem Dts.toPy {F H : Hp} (s : Same F H) : ∀ {ds : List D} {vs : List V} {es : List PyData}, Dts K ct F ds vs → D.pys ds = some es → L2.Dts K H vs es
  | _, _, _, .nil, h => by simp only [D.pys] at h; cases h; exact .nil
  | _, _, _, .cons h t, e => by
    simp only [D.pys] at e
    obtain ⟨y, ys, h1, h2, h3⟩ := bind2 e
    cases h3
    exact .cons (Dt.toPy s h h1) (Dts.toPy s t h2)
end
theorem Pr.toPy {H : Hp} {R : D → V → Prop} (f : ∀ d v e, R d v → d.py = some e → L2.Dt K H v e) : ∀ {ds : List D} {vs : List V} {es : List PyData}, Pr R ds vs → D.pys ds = some es → L2.Dts K H vs es
  | _, _, _, .nil, h => by simp only [D.pys] at h; cases h; exact .nil
  | _, _, _, .cons h t, e => by
    simp only [D.pys] at e
    obtain ⟨y, ys, h1, h2, h3⟩ := bind2 e
    cases h3
    exact .cons (f _ _ _ h h1) (Pr.toPy f t h2)
theorem Al.toPy {F H : Hp} (s : Same F H) : ∀ {n : Nat} {d : D} {v : V} {e : PyData}, Al K ct F H n d v → d.py = some e → L2.Dt K H v e
  | 0, _, _, _, h, q => Dt.toPy s h q
  | n + 1, _, _, _, .inl h, q => Dt.toPy s h q
  | n + 1, _, _, _, .inr (.lst h t), q => by
    simp only [D.py] at q
    obtain ⟨ys, h1, h2⟩ := bind1 q
    cases h2
    exact .lst (SqL.of h) (Pr.toPy (fun _ _ _ => Al.toPy s) t h1)
  | n + 1, _, _, _, .inr (.tup h t), q => by
    simp only [D.py] at q
    obtain ⟨ys, h1, h2⟩ := bind1 q
    cases h2
    exact .tup (SqT.of (s _ _ h)) (Pr.toPy (fun _ _ _ => Al.toPy s) t h1)
  | n + 1, _, _, _, .inr (.dK _ _ _), q => by simp only [D.py] at q; cases q
  | n + 1, _, _, _, .inr (.dT _ _ _), q => by simp only [D.py] at q; cases q
def pyOk (a : PyData) : Bool := a.canLay0 && decide (a.depth ≤ 60)
def eqD (neg : Bool) (x y : D) : Option D := x.py.bind fun a => y.py.bind fun b => if pyOk a = true ∧ pyOk b = true then some (.bl (if neg then !PyData.eqv a b else PyData.eqv a b)) else none
theorem op2_eq {neg : Bool} : Op2 K ct n m k (rEqD K neg) (eqD neg) := by
  intro F H x y d1 d2 d Q s l1 l2 e w
  obtain ⟨a, b, h1, h2, h3⟩ := bind2 e
  by_cases h : pyOk a = true ∧ pyOk b = true
  · rw [if_pos h] at h3
    cases h3
    have o1 := h.1
    have o2 := h.2
    unfold pyOk at o1 o2
    rw [Bool.and_eq_true, decide_eq_true_iff] at o1 o2
    exact ⟨a, b, Al.toPy s l1 h1, Al.toPy s l2 h2, o1.1, o2.1, Nat.le_trans (Nat.min_le_left _ _) o1.2, w _ F H (.refl s) (Al.of (.bl _))⟩
  · rw [if_neg h] at h3; cases h3
end
end L3

/-! ## containers -/
namespace L3
open PySem PySem.Spec L2
open PyProof.Rows hiding St
section
variable {K : PySem.W.Frag} {ct : Nat → Addr} {n m k : Nat} {X : Cx}
theorem Pr.atI {R : D → V → Prop} {ds : List D} {vs : List V} {i : Int} {d : D} (h : Pr R ds vs) (e : atI ds i = some d) : ∃ v, atI vs i = some v ∧ R d v := by
  unfold L2.atI at e ⊢
  rw [← h.length]
  obtain ⟨j, h1, h2⟩ := bind1 e
  obtain ⟨v, h3, h4⟩ := h.get' h2
  exact ⟨v, by rw [h1]; exact h3, h4⟩
/-! ### o[i] -/
def keyD : D → Option Key
  | .int i => some (.inl i)
  | .str x => some (.inr x)
  | _ => none
def keysD : List D → Option (List Key)
  | [] => some []
  | d :: ds => (keyD d).bind fun k => (keysD ds).bind fun ks => some (k :: ks)
def getK {κ : Type} [DecidableEq κ] (ks : List κ) (ds : List D) (k : κ) : Option D := ((ks.zip ds).find? fun p => decide (p.1 = k)).map (·.2)
def RO (R : D → V → Prop) : Option D → Option V → Prop
  | some d, some u => R d u
  | none, none => True
  | _, _ => False
theorem RO.some_of {R : D → V → Prop} {d : D} {q : Option V} (h : RO R (some d) q) : ∃ u, q = some u ∧ R d u := by
  cases q with
  | none => exact h.elim
  | some u => exact ⟨u, rfl, h⟩
theorem RO.none_of {R : D → V → Prop} {q : Option V} (h : RO R none q) : q = none := by
  cases q with
  | none => rfl
  | some u => exact h.elim
theorem getK_val {κ : Type} [DecidableEq κ] {R : D → V → Prop} {k : κ} : ∀ {ks : List κ} {ds : List D} {vs : List V}, Pr R ds vs → RO R (getK ks ds k) (valV (ks.zip vs) k)
  | [], _, _, _ => by simp [getK, valV, RO]
  | _ :: _, _, _, .nil => by simp [getK, valV, RO]
  | y :: ks, d :: ds, v :: vs, .cons h t => by
    by_cases e : y = k
    · have h1 : getK (y :: ks) (d :: ds) k = some d := by simp [getK, List.find?_cons, e]
      have h2 : valV ((y :: ks).zip (v :: vs)) k = some v := by simp [valV, List.find?_cons, e]
      rw [h1, h2]
      exact h
    · have h1 : getK (y :: ks) (d :: ds) k = getK ks ds k := by simp [getK, List.find?_cons, e]
      have h2 : valV ((y :: ks).zip (v :: vs)) k = valV (ks.zip vs) k := by simp [valV, List.find?_cons, e]
      rw [h1, h2]
      exact getK_val t
theorem keyD_v {F G : Hp} {d : D} {v : V} {k : Key} (e : keyD d = some k) (h : Al K ct F G n d v) : v = kV k := by
  cases d with
  | int i => cases e; exact h.int
  | str i => cases e; exact h.str
  | _ => cases e
theorem keysD_v {F G : Hp} : ∀ {ds : List D} {vs : List V} {ks : List Key}, keysD ds = some ks → Pr (Al K ct F G n) ds vs → vs = ks.map kV
  | [], _, _, e, .nil => by cases e; rfl
  | d :: ds, _, _, e, .cons h t => by
    unfold keysD at e
    obtain ⟨k, ks, h1, h2, h3⟩ := bind2 e
    cases h3
    rw [keyD_v h1 h, keysD_v h2 t]; rfl
def dgetD (o y : D) : Option (Option D) := match o with
  | .dK ks ds => (keyD y).bind fun k => some (getK ks ds k)
  | .dT ks ds => (match y with | .tup ys => (keysD ys).bind fun k => some (getK ks ds k) | _ => none)
  | _ => none
/-- a dict's answer at a key, as the layer wants it -/
theorem dget_of {F G : Hp} {o y : D} {x v : V} (s : Same F G) (l1 : Al K ct F G n o x) (l2 : Al K ct F G m y v) {r : Option D} (e : dgetD o y = some r) :
    ∃ a q, x = .ref a ∧ DGet G a v q ∧ IsD G a ∧ RO (Al K ct F G (n - 1)) r q := by
  cases o with
  | dK ks ds =>
    obtain ⟨a, vs, rfl, ha, hl, hp⟩ := l1.dK s
    obtain ⟨k, h1, h2⟩ := bind1 e
    cases h2
    have hv := keyD_v h1 l2
    subst hv
    exact ⟨a, _, rfl, DGet.k ha, .inl ⟨_, .inl ha⟩, getK_val hp⟩
  | dT ks ds =>
    obtain ⟨a, vs, rfl, ha, hl, hp⟩ := l1.dT s
    cases y with
    | tup ys =>
      obtain ⟨k, h1, h2⟩ := bind1 e
      cases h2
      obtain ⟨b, us, rfl, hb, hpb⟩ := l2.tup s
      have hv := keysD_v h1 hpb
      subst hv
      exact ⟨a, _, rfl, DGet.t ha hb, .inr ⟨_, .inl ha⟩, getK_val hp⟩
    | _ => cases e
  | _ => cases e
/-- o[i] of a list, a tuple, a text -/
def ixD : D → D → Option D
  | .lst ds, .int i => atI ds i
  | .tup ds, .int i => atI ds i
  | .str x, .int i => if x.length ≤ 16777216 then (atI x.cps.toList i).bind fun c => some (.str ⟨#[c]⟩) else none
  | _, _ => none
theorem op2_ix : Op2 K ct n m (n - 1) (rIx K) ixD := by
  intro F H x y d1 d2 d Q s l1 l2 e w
  cases d1 with
  | lst ds =>
    cases d2 with
    | int i =>
      obtain ⟨a, vs, rfl, ha, hp⟩ := l1.lst s
      obtain ⟨v, h1, h2⟩ := hp.atI e
      exact .inl ⟨a, vs, i, v, rfl, l2.int, ha, h1, w v F H (.refl s) h2⟩
    | _ => cases e
  | tup ds =>
    cases d2 with
    | int i =>
      obtain ⟨a, vs, rfl, ha, hp⟩ := l1.tup s
      obtain ⟨v, h1, h2⟩ := hp.atI e
      exact .inr (.inl ⟨a, vs, i, v, rfl, l2.int, SqT.of ha, h1, w v F H (.refl s) h2⟩)
    | _ => cases e
  | str z =>
    cases d2 with
    | int i =>
      unfold ixD at e
      dsimp only at e
      by_cases h : z.length ≤ 16777216
      · rw [if_pos h] at e
        obtain ⟨c, h1, h2⟩ := bind1 e
        cases h2
        exact .inr (.inr ⟨z, i, c, l1.str, l2.int, by rw [sizeLine_eq]; exact h, h1, w _ F H (.refl s) (Al.of (.str _))⟩)
      · rw [if_neg h] at e; cases e
    | _ => cases e
  | _ => cases e
/-- o[i] of a dict -/
theorem xe_dix {ms : List Mo} {a b : Expr} {f g : EF} {pos : Pos} (hu : X.A.units + 1 < cLine) (ha : XE X ct ms n a f) (hb : XE X ct ms m b g) (hs : NoSl b) : XE X ct ms (n - 1) (.Subscript a b pos) (fun ρ => (f ρ).bind fun x => (g ρ).bind fun y => (dgetD x y).join) := by
  obtain ⟨ta, tb, pa, pb, q⟩ := ha.bin hb
  refine ⟨_, pe_dget hu pa pb hs, fun F0 B F H ρ σ d Q rs e w => ?_⟩
  obtain ⟨d1, d2, h1, h2, h3⟩ := bind2 e
  refine q F0 B F H ρ σ d1 d2 _ rs h1 h2 fun x y F' H' x1 l1 l2 => ?_
  obtain ⟨a, o, rfl, g, _, h⟩ := dget_of (r := some d) x1.fh l1 l2 (join_some h3)
  obtain ⟨u, rfl, hu'⟩ := h.some_of
  exact ⟨a, u, rfl, g, w u F' H' x1 hu'⟩
/-- any of them -/
theorem XE.or {ms : List Mo} {e : Expr} {f g : EF} (ha : XE X ct ms k e f) (hb : XE X ct ms k e g) : XE X ct ms k e (fun ρ => (f ρ).or (g ρ)) := by
  obtain ⟨t, pt, qt⟩ := ha
  obtain ⟨u, pu, qu⟩ := hb
  refine ⟨_, PE.or pt pu, fun F0 B F H ρ σ r Q rs e w => ?_⟩
  dsimp only at e ⊢
  cases h : f ρ with
  | some d =>
    rw [h] at e
    cases e
    exact .inl (qt F0 B F H ρ σ _ Q rs h w)
  | none =>
    rw [h] at e
    exact .inr (qu F0 B F H ρ σ r Q rs e w)
/-- d.get(k), d.get(k, x) -/
theorem xe_get1 {ms : List Mo} {o e : Expr} {f g : EF} {apos cpos : Pos} (hu : X.A.units + 1 < cLine) (ho : XE X ct ms n o f) (he : XE X ct ms m e g) (h1 : M1 X o "get" apos e cpos) : XE X ct ms (n - 1) (.Call (.Attribute o "get" apos) [e] [] cpos) (fun ρ => (f ρ).bind fun x => (g ρ).bind fun y => (dgetD x y).bind fun r => some (r.getD .non)) := by
  obtain ⟨ta, pa, qa⟩ := ho
  obtain ⟨tb, pb, qb⟩ := he
  refine ⟨_, pe_dget1 hu pa pb h1, fun F0 B F H ρ σ d Q rs e w => ?_⟩
  obtain ⟨d1, d2, e1, e2, e3⟩ := bind2 e
  obtain ⟨r, e4, e5⟩ := bind1 e3
  cases e5
  refine qa F0 B F H ρ σ d1 _ rs e1 fun x F1 H1 x1 l1 => ?_
  have : ∃ a, x = .ref a ∧ IsD H1 a := by
    cases d1 with
    | dK ks ds => obtain ⟨a, vs, rfl, ha, _⟩ := l1.dK x1.fh; exact ⟨a, rfl, .inl ⟨_, .inl ha⟩⟩
    | dT ks ds => obtain ⟨a, vs, rfl, ha, _⟩ := l1.dT x1.fh; exact ⟨a, rfl, .inr ⟨_, .inl ha⟩⟩
    | _ => cases e4
  obtain ⟨a, rfl, isd⟩ := this
  refine ⟨a, rfl, isd, qb F0 B F1 H1 ρ σ d2 _ (rs.ext x1) e2 fun y F2 H2 x2 l2 => ?_⟩
  obtain ⟨a', o, ea, gg, _, h⟩ := dget_of (r := r) x2.fh (l1.mono x2.ff x2.hh) l2 e4
  cases ea
  refine ⟨o, gg, ?_⟩
  cases r with
  | none => rw [h.none_of]; exact w _ F2 H2 (x1.trans x2) (Al.of .non)
  | some d => obtain ⟨u, rfl, hu'⟩ := h.some_of; exact w _ F2 H2 (x1.trans x2) hu'
theorem xe_get2 {ms : List Mo} {o e z : Expr} {f g h : EF} {apos cpos : Pos} (hu : X.A.units + 1 < cLine) (ho : XE X ct ms n o f) (he : XE X ct ms m e g) (hz : XE X ct ms (n - 1) z h) (h1 : M2 X o "get" apos e z cpos) : XE X ct ms (n - 1) (.Call (.Attribute o "get" apos) [e, z] [] cpos) (fun ρ => (f ρ).bind fun x => (g ρ).bind fun y => (h ρ).bind fun z => (dgetD x y).bind fun r => some (r.getD z)) := by
  obtain ⟨ta, pa, qa⟩ := ho
  obtain ⟨tb, pb, qb⟩ := he
  obtain ⟨tc, pc, qc⟩ := hz
  refine ⟨_, pe_dget2 hu pa pb pc h1, fun F0 B F H ρ σ d Q rs e w => ?_⟩
  obtain ⟨d1, d2, e1, e2, e3⟩ := bind2 e
  obtain ⟨d3, e6, e7⟩ := bind1 e3
  obtain ⟨r, e4, e5⟩ := bind1 e7
  cases e5
  refine qa F0 B F H ρ σ d1 _ rs e1 fun x F1 H1 x1 l1 => ?_
  have : ∃ a, x = .ref a ∧ IsD H1 a := by
    cases d1 with
    | dK ks ds => obtain ⟨a, vs, rfl, ha, _⟩ := l1.dK x1.fh; exact ⟨a, rfl, .inl ⟨_, .inl ha⟩⟩
    | dT ks ds => obtain ⟨a, vs, rfl, ha, _⟩ := l1.dT x1.fh; exact ⟨a, rfl, .inr ⟨_, .inl ha⟩⟩
    | _ => cases e4
  obtain ⟨a, rfl, isd⟩ := this
  refine ⟨a, rfl, isd, qb F0 B F1 H1 ρ σ d2 _ (rs.ext x1) e2 fun y F2 H2 x2 l2 => ?_⟩
  refine qc F0 B F2 H2 ρ σ d3 _ (rs.ext (x1.trans x2)) e6 fun z F3 H3 x3 l3 => ?_
  have x23 := x2.trans x3
  obtain ⟨a', o, ea, gg, _, h⟩ := dget_of (r := r) x23.fh (l1.mono x23.ff x23.hh) (l2.mono x3.ff x3.hh) e4
  cases ea
  refine ⟨o, gg, ?_⟩
  cases r with
  | none => rw [h.none_of]; exact w _ F3 H3 (x1.trans x23) l3
  | some d => obtain ⟨u, rfl, hu'⟩ := h.some_of; exact w _ F3 H3 (x1.trans x23) hu'
/-! ### in -/
def eqS : D → D → Bool
  | .non, .non => true
  | .bl a, .bl b => a == b
  | .bl a, .int b => (if a then 1 else 0) == b
  | .int a, .bl b => a == (if b then 1 else 0)
  | .int a, .int b => a == b
  | .str a, .str b => a == b
  | _, _ => false
theorem eqS_v {x y : D} (hx : x.sc = true) (hy : y.sc = true) : eqV x.v y.v = eqS x y := by
  cases x <;> first | cases hx; done | (cases y <;> first | cases hy; done | rfl)
def inS (x : D) (ds : List D) : Bool := ds.any fun y => eqS y x
theorem inS_v {x : D} (hx : x.sc = true) : ∀ {ds : List D}, ds.all D.sc = true → inV x.v (ds.map D.v) = inS x ds
  | [], _ => rfl
  | d :: ds, h => by
    rw [List.all_cons, Bool.and_eq_true] at h
    have ih := inS_v hx h.2
    unfold inV inS at ih ⊢
    rw [List.map_cons, List.any_cons, List.any_cons, ih, eqS_v h.1 hx]
theorem all_flat : ∀ {ds : List D}, ds.all D.sc = true → (ds.map D.v).all flatV = true
  | [], _ => rfl
  | d :: ds, h => by
    rw [List.all_cons, Bool.and_eq_true] at h
    rw [List.map_cons, List.all_cons, D.flat h.1, all_flat h.2]; rfl
def inD (neg : Bool) (x y : D) : Option D := match y with
  | .lst ds => if x.sc = true ∧ ds.all D.sc = true then some (.bl (if neg then !inS x ds else inS x ds)) else none
  | .tup ds => if x.sc = true ∧ ds.all D.sc = true then some (.bl (if neg then !inS x ds else inS x ds)) else none
  | _ => none
theorem op2_in {neg : Bool} : Op2 K ct n m k (rIn K neg) (inD neg) := by
  intro F H x y d1 d2 d Q s l1 l2 e w
  cases d2 with
  | lst ds =>
    unfold inD at e
    dsimp only at e
    by_cases h : d1.sc = true ∧ ds.all D.sc = true
    · rw [if_pos h] at e
      cases e
      obtain ⟨a, vs, rfl, ha, hp⟩ := l2.lst s
      have hv := hp.vs h.2
      subst hv
      have hx := Al.v l1 h.1
      subst hx
      refine ⟨a, _, rfl, .inl ha, D.flat h.1, all_flat h.2, ?_⟩
      rw [inS_v h.1 h.2]
      exact w _ F H (.refl s) (Al.of (.bl _))
    · rw [if_neg h] at e; cases e
  | tup ds =>
    unfold inD at e
    dsimp only at e
    by_cases h : d1.sc = true ∧ ds.all D.sc = true
    · rw [if_pos h] at e
      cases e
      obtain ⟨a, vs, rfl, ha, hp⟩ := l2.tup s
      have hv := hp.vs h.2
      subst hv
      have hx := Al.v l1 h.1
      subst hx
      refine ⟨a, _, rfl, .inr (SqT.of ha), D.flat h.1, all_flat h.2, ?_⟩
      rw [inS_v h.1 h.2]
      exact w _ F H (.refl s) (Al.of (.bl _))
    · rw [if_neg h] at e; cases e
  | _ => cases e
/-- k in d -/
theorem xe_din {ms : List Mo} {a b : Expr} {f g : EF} {pos : Pos} (hu : X.A.units + 1 < cLine) (ha : XE X ct ms n a f) (hb : XE X ct ms m b g) (hm : behindInMarks .In b = false) : XE X ct ms k (.Compare a [.In] [b] pos) (fun ρ => (f ρ).bind fun x => (g ρ).bind fun y => (dgetD y x).bind fun r => some (.bl r.isSome)) := by
  obtain ⟨ta, tb, pa, pb, q⟩ := ha.bin hb
  refine ⟨_, pe_cmp (pc_din hu pa pb) hm, fun F0 B F H ρ σ d Q rs e w => ?_⟩
  obtain ⟨d1, d2, h1, h2, h3⟩ := bind2 e
  obtain ⟨r, h4, h5⟩ := bind1 h3
  cases h5
  refine q F0 B F H ρ σ d1 d2 _ rs h1 h2 fun x y F' H' x1 l1 l2 => ?_
  obtain ⟨a, o, rfl, g, _, h⟩ := dget_of (r := r) x1.fh l2 l1 h4
  refine ⟨a, o, rfl, g, ?_⟩
  cases r with
  | none => rw [h.none_of]; exact w _ F' H' x1 (Al.of (.bl _))
  | some d => obtain ⟨u, rfl, hu'⟩ := h.some_of; exact w _ F' H' x1 (Al.of (.bl _))
theorem xe_dnotin {ms : List Mo} {a b : Expr} {f g : EF} {pos : Pos} (hu : X.A.units + 1 < cLine) (ha : XE X ct ms n a f) (hb : XE X ct ms m b g) (hm : behindInMarks .NotIn b = false) : XE X ct ms k (.Compare a [.NotIn] [b] pos) (fun ρ => (f ρ).bind fun x => (g ρ).bind fun y => (dgetD y x).bind fun r => some (.bl (!r.isSome))) := by
  obtain ⟨ta, tb, pa, pb, q⟩ := ha.bin hb
  refine ⟨_, pe_cmp (pc_dnotin hu pa pb) hm, fun F0 B F H ρ σ d Q rs e w => ?_⟩
  obtain ⟨d1, d2, h1, h2, h3⟩ := bind2 e
  obtain ⟨r, h4, h5⟩ := bind1 h3
  cases h5
  refine q F0 B F H ρ σ d1 d2 _ rs h1 h2 fun x y F' H' x1 l1 l2 => ?_
  obtain ⟨a, o, rfl, g, _, h⟩ := dget_of (r := r) x1.fh l2 l1 h4
  refine ⟨a, o, rfl, g, ?_⟩
  cases r with
  | none => rw [h.none_of]; exact w _ F' H' x1 (Al.of (.bl _))
  | some d => obtain ⟨u, rfl, hu'⟩ := h.some_of; exact w _ F' H' x1 (Al.of (.bl _))
/-! ### len, abs, max, min, int, str -/
def lenD : List D → Option D
  | [.lst ds] => some (.int ds.length)
  | [.tup ds] => some (.int ds.length)
  | [.dK ks _] => some (.int ks.length)
  | [.str x] => if x.length ≤ 16777216 then some (.int x.length) else none
  | _ => none
def rLen (K : PySem.W.Frag) : List V → Hp → VK → Prop := fun xs H Q => (∃ p ys, xs = [.ref p] ∧ (SqL K H p ys ∨ SqT K H p ys) ∧ Q (.int ys.length) H) ∨ (∃ z, xs = [.str z] ∧ z.length ≤ sizeLine ∧ Q (.int z.length) H) ∨ ∃ a kvs, xs = [V.ref a] ∧ H a = some (.dK kvs) ∧ Q (.int kvs.length) H
theorem call_lenA : CallR X (.builtin "len") (rLen X.K) := call_len_seq.or (call_len_str.or call_lenD)
theorem AlL.one {F G : Hp} {d : D} {ds : List D} {vs : List V} (h : AlL K ct F G [n] (d :: ds) vs) : ∃ v, ds = [] ∧ vs = [v] ∧ Al K ct F G n d v := by
  cases h with
  | cons h t => cases t; exact ⟨_, rfl, rfl, h⟩
theorem opn_len : OpN K ct [n] k (rLen K) lenD := by
  intro F H vs ds d Q s l e w
  cases l with
  | cons h t =>
    cases t
    rename_i d1 v
    cases d1 with
    | lst xs =>
      cases e
      obtain ⟨a, us, rfl, ha, hp⟩ := h.lst s
      refine .inl ⟨a, us, rfl, .inl ha, ?_⟩
      rw [← hp.length]
      exact w _ F H (.refl s) (Al.of (.int _))
    | tup xs =>
      cases e
      obtain ⟨a, us, rfl, ha, hp⟩ := h.tup s
      refine .inl ⟨a, us, rfl, .inr (SqT.of ha), ?_⟩
      rw [← hp.length]
      exact w _ F H (.refl s) (Al.of (.int _))
    | str x =>
      unfold lenD at e
      dsimp only at e
      by_cases hz : x.length ≤ 16777216
      · rw [if_pos hz] at e
        cases e
        exact .inr (.inl ⟨x, by rw [h.str], by rw [sizeLine_eq]; exact hz, w _ F H (.refl s) (Al.of (.int _))⟩)
      · rw [if_neg hz] at e; cases e
    | dK ks xs =>
      cases e
      obtain ⟨a, us, rfl, ha, hl, hp⟩ := h.dK s
      refine .inr (.inr ⟨a, _, rfl, ha, ?_⟩)
      rw [List.length_zip, ← hl, Nat.min_self]
      exact w _ F H (.refl s) (Al.of (.int _))
    | _ => cases e
end
end L3

/-! ## comprehensions; statements that change a name's list or dict -/
namespace L3
open PySem PySem.Spec L2
open PyProof.Rows hiding St
section
variable {ct : Nat → Addr} {K : PySem.W.Frag}
/-- one reading for a family of contexts -/
theorem fam_e {ι : Type} {Xs : ι → Cx} {ms : List Mo} {n : Nat} {e : Expr} {f : EF} (hK : ∀ i, (Xs i).K = K) (h : ∀ i, XE (Xs i) ct ms n e f) : ∃ t, (∀ i, PE (Xs i) e t) ∧ ∀ (F0 B F H : Hp) (ρ : Env) (σ : St) (d : D) (Q : VK), RS K ct F0 B ms F H ρ σ → f ρ = some d →
    (∀ v F' H', Ext F H F' H' → Al K ct F' H' n d v → Q v H') → t σ H Q := by
  refine ⟨fun σ H Q => ∀ i, (h i).choose σ H Q, fun i pins s σ H Q I q => (h i).choose_spec.1 pins s σ H Q I (q i), fun F0 B F H ρ σ d Q rs e w i => ?_⟩
  exact (h i).choose_spec.2 F0 B F H ρ σ d Q (by rw [hK i]; exact rs) e fun v F' H' x l => w v F' H' x (by rw [← hK i]; exact l)
theorem fam_o {ι : Type} {Xs : ι → Cx} {ms : List Mo} {n : Nat} {e : Expr} {f : EF} (hK : ∀ i, (Xs i).K = K) (h : ∀ i, XO (Xs i) ct ms n e f) : ∃ t, (∀ i, PE (Xs i) e t) ∧ ∀ (F0 B F H : Hp) (ρ : Env) (σ : St) (d : D) (Q : VK), RS K ct F0 B ms F H ρ σ → f ρ = some d →
    (∀ v F' H' fp, Ext F H F' H' → Ow K ct F' H' n d v fp → fp.Nodup → (∀ a ∈ fp, H a = none) → Q v H') → t σ H Q := by
  refine ⟨fun σ H Q => ∀ i, (h i).choose σ H Q, fun i pins s σ H Q I q => (h i).choose_spec.1 pins s σ H Q I (q i), fun F0 B F H ρ σ d Q rs e w i => ?_⟩
  exact (h i).choose_spec.2 F0 B F H ρ σ d Q (by rw [hK i]; exact rs) e fun v F' H' fp x l => w v F' H' fp x (by rw [← hK i]; exact l)
/-- the tests of a comprehension -/
def XTs (X : Cx) (ct : Nat → Addr) (ms : List Mo) (ifs : List Expr) (f : BF) : Prop := ∃ t, PTs X ifs t ∧ ∀ (F0 B F H : Hp) (ρ : Env) (σ : St) (b : Bool) (Q : Bool → Hp → Prop), RS X.K ct F0 B ms F H ρ σ → f ρ = some b → (∀ F' H', Ext F H F' H' → Q b H') → t σ H Q
def bTrue : BF := fun _ => some true
theorem xts_nil {X : Cx} {ms : List Mo} : XTs X ct ms [] bTrue := ⟨_, pts_nil, fun F0 B F H ρ σ b Q rs e w => by cases e; exact w F H (.refl rs.fh)⟩
theorem xts_one {X : Cx} {ms : List Mo} {c : Expr} {p : BF} (h : XT X ct ms c p) : XTs X ct ms [c] p := by
  obtain ⟨t, pt, qt⟩ := h
  exact ⟨t, pts_one pt, qt⟩
theorem fam_t {ι : Type} {Xs : ι → Cx} {ms : List Mo} {ifs : List Expr} {f : BF} (hK : ∀ i, (Xs i).K = K) (h : ∀ i, XTs (Xs i) ct ms ifs f) : ∃ t, (∀ i, PTs (Xs i) ifs t) ∧ ∀ (F0 B F H : Hp) (ρ : Env) (σ : St) (b : Bool) (Q : Bool → Hp → Prop), RS K ct F0 B ms F H ρ σ → f ρ = some b →
    (∀ F' H', Ext F H F' H' → Q b H') → t σ H Q := by
  refine ⟨fun σ H Q => ∀ i, (h i).choose σ H Q, fun i pins s σ H Q I q => (h i).choose_spec.1 pins s σ H Q I (q i), fun F0 B F H ρ σ d Q rs e w i => ?_⟩
  exact (h i).choose_spec.2 F0 B F H ρ σ d Q (by rw [hK i]; exact rs) e w
/-- a target of a comprehension: the captured names stay -/
def monoG {α : Type} (g : α → St → Hp → (St → Hp → Prop) → Prop) : Prop := ∀ v σ H Q Q', (∀ σ' H', Q σ' H' → Q' σ' H') → g v σ H Q → g v σ H Q'
def XGc (X : Cx) (ct : Nat → Addr) (ms : List Mo) (own n : Nat) (tg : Expr) (g : D → Env → Option Env) : Prop := ∃ t, PG X tg t ∧ keepsCaps own t ∧ monoG t ∧ ∀ (F0 B F H : Hp) (ρ ρ' : Env) (σ : St) (d : D) (v : V) (Q : St → Hp → Prop), RS X.K ct F0 B ms F H ρ σ → Al X.K ct F B n d v → g d ρ = some ρ' →
  (∀ σ', RS X.K ct F0 B ms F H ρ' σ' → Q σ' H) → t v σ H Q
theorem fam_g {ι : Type} {Xs : ι → Cx} {ms : List Mo} {own n : Nat} {tg : Expr} {g : D → Env → Option Env} (hK : ∀ i, (Xs i).K = K) (h : ∀ i, XGc (Xs i) ct ms own n tg g) : ∃ t, (∀ i, PG (Xs i) tg t) ∧ keepsCaps own t ∧ ∀ (F0 B F H : Hp) (ρ ρ' : Env) (σ : St) (d : D) (v : V) (Q : St → Hp → Prop), RS K ct F0 B ms F H ρ σ → Al K ct F B n d v → g d ρ = some ρ' →
    (∀ σ', RS K ct F0 B ms F H ρ' σ' → Q σ' H) → t v σ H Q := by
  refine ⟨fun v σ H Q => ∀ i, (h i).choose v σ H Q, fun i pins s σ H v u Q I r q => (h i).choose_spec.1 pins s σ H v u Q I r (q i), fun v σ H Q q i => (h i).choose_spec.2.1 v σ H Q (q i), fun F0 B F H ρ ρ' σ d v Q rs l e w i => ?_⟩
  exact (h i).choose_spec.2.2.2 F0 B F H ρ ρ' σ d v Q (by rw [hK i]; exact rs) (by rw [hK i]; exact l) e fun σ' r => w σ' (by rw [← hK i]; exact r)
theorem xgc_name {X : Cx} {ms : List Mo} {own i : Nat} {x : Str} {pos : Pos} (ho : i < own) (hm : ms[i]? = some (.ow 0)) (hN : X.N.Nodup) (hi : X.N[i]? = some x) (hx : Loc X.env.scope x)
    (hf : X.fn x = true ∨ X.env.scope.names.lookup x = some .local := by first | exact .inl rfl | exact .inr rfl | assumption) : XGc X ct ms own 0 (.Name x pos) (gV i) := by
  refine ⟨_, pg_name hN hi hx hf, keeps_name i own ho, fun v σ H Q Q' m q => m _ _ q, fun F0 B F H ρ ρ' σ d v Q rs l e w => ?_⟩
  cases e
  exact w _ (rs.set hm (.refl rs.fh) (Ow.zero l) List.nodup_nil fun a z => (by cases z))
theorem xgc_nameA {X : Cx} {ms : List Mo} {own i n : Nat} {x : Str} {pos : Pos} (ho : i < own) (hm : ms[i]? = some (.al n)) (hN : X.N.Nodup) (hi : X.N[i]? = some x) (hx : Loc X.env.scope x)
    (hf : X.fn x = true ∨ X.env.scope.names.lookup x = some .local := by first | exact .inl rfl | exact .inr rfl | assumption) : XGc X ct ms own n (.Name x pos) (gV i) := by
  refine ⟨_, pg_name hN hi hx hf, keeps_name i own ho, fun v σ H Q Q' m q => m _ _ q, fun F0 B F H ρ ρ' σ d v Q rs l e w => ?_⟩
  cases e
  obtain ⟨fp, sl, nd, hb⟩ := rs.sl
  exact w _ ⟨rs.f0, rs.bh, rs.fh, rs.nf, fp, sl.setA l hm, nd, hb⟩
def keepsS (own : Nat) (g : TGs) : Prop := ∀ v σ H Q, g v σ H Q → g v σ H fun σ' H' => Q σ' H' ∧ σ'.length = σ.length ∧ ∀ i, own ≤ i → σ'[i]? = σ[i]?
def XGsc (X : Cx) (ct : Nat → Addr) (ms : List Mo) (own n : Nat) (tgs : List Expr) (g : List D → Env → Option Env) : Prop := ∃ t, PGs X tgs t ∧ keepsS own t ∧ monoG t ∧ (∀ ds ρ ρ', g ds ρ = some ρ' → ds.length = tgs.length) ∧ ∀ (F0 B F H : Hp) (ρ ρ' : Env) (σ : St) (ds : List D) (vs : List V) (Q : St → Hp → Prop), RS X.K ct F0 B ms F H ρ σ → Pr (Al X.K ct F B n) ds vs → g ds ρ = some ρ' →
  (∀ σ', RS X.K ct F0 B ms F H ρ' σ' → Q σ' H) → t vs σ H Q
theorem xgsc_nil {X : Cx} {ms : List Mo} {own n : Nat} : XGsc X ct ms own n [] gsNil := by
  refine ⟨_, pgs_nil, fun v σ H Q q => ⟨q.1, q.2, rfl, fun _ _ => rfl⟩, fun v σ H Q Q' m q => ⟨q.1, m _ _ q.2⟩, fun ds ρ ρ' e => ?_, fun F0 B F H ρ ρ' σ ds vs Q rs l e w => ?_⟩
  · cases ds with
    | nil => rfl
    | cons d ds => cases e
  · cases l with
    | nil => cases e; exact ⟨rfl, w σ rs⟩
    | cons _ _ => cases e
theorem xgsc_cons {X : Cx} {ms : List Mo} {own n : Nat} {tg : Expr} {tgs : List Expr} {gg : D → Env → Option Env} {gs : List D → Env → Option Env} (h1 : XGc X ct ms own n tg gg) (h2 : XGsc X ct ms own n tgs gs)
    (hs : (assignEach (tg :: tgs) X.env).map (·.2) = assign tg X.env :: (assignEach tgs X.env).map (·.2) := by rfl) : XGsc X ct ms own n (tg :: tgs) (gsCons gg gs) := by
  obtain ⟨t, pt, kt, mt, qt⟩ := h1
  obtain ⟨t2, pt2, kt2, mt2, lt2, qt2⟩ := h2
  refine ⟨_, pgs_cons pt pt2 hs, fun vs σ H Q q => ?_, fun vs σ H Q Q' m q => ?_, fun ds ρ ρ' e => ?_, fun F0 B F H ρ ρ' σ ds vs Q rs l e w => ?_⟩
  · obtain ⟨v, r, e, q⟩ := q
    refine ⟨v, r, e, mt _ _ _ _ _ (fun σ' H' z => ?_) (kt v σ H _ q)⟩
    obtain ⟨z1, z2, z3⟩ := z
    refine mt2 _ _ _ _ _ (fun σ2 H2 y => ?_) (kt2 r σ' H' Q z1)
    exact ⟨y.1, y.2.1.trans z2, fun i hi => (y.2.2 i hi).trans (z3 i hi)⟩
  · obtain ⟨v, r, e, q⟩ := q
    exact ⟨v, r, e, mt _ _ _ _ _ (fun σ' H' z => mt2 _ _ _ _ _ m z) q⟩
  · cases ds with
    | nil => cases e
    | cons d ds =>
      obtain ⟨ρ1, h3, h4⟩ := bind1 e
      rw [List.length_cons, List.length_cons, lt2 _ _ _ h4]
  · cases l with
    | nil => cases e
    | cons h t' =>
      obtain ⟨ρ1, h3, h4⟩ := bind1 e
      exact ⟨_, _, rfl, qt F0 B F H ρ ρ1 σ _ _ _ rs h h3 fun σ1 r1 => qt2 F0 B F H ρ1 ρ' σ1 _ _ _ r1 t' h4 w⟩
theorem xgc_tup {X : Cx} {ms : List Mo} {own n : Nat} {tgs : List Expr} {j : Nat} {pos : Pos} {gs : List D → Env → Option Env} (hc : X.calm = true) (h : XGsc X ct ms own (n - 1) tgs gs) (hl : (assignEach tgs X.env).length = tgs.length := by rfl) (hst : (assignEach tgs X.env).findIdx? (·.1) = none := by rfl) : XGc X ct ms own n (.Tuple tgs j pos) (gT gs) := by
  obtain ⟨t, pt, kt, mt, lt, qt⟩ := h
  refine ⟨_, pg_tup (n := tgs.length) hc pt hl hst, fun v σ H Q q => ?_, fun v σ H Q Q' m q => ?_, fun F0 B F H ρ ρ' σ d v Q rs l e w => ?_⟩
  · obtain ⟨a, xs, e, h1, h2, q⟩ := q
    exact ⟨a, xs, e, h1, h2, kt _ _ _ _ q⟩
  · obtain ⟨a, xs, e, h1, h2, q⟩ := q
    exact ⟨a, xs, e, h1, h2, mt _ _ _ _ _ m q⟩
  cases d with
  | tup ds =>
    have : ∃ a vs, v = .ref a ∧ SqT X.K H a vs ∧ Pr (Al X.K ct F B (n - 1)) ds vs := by
      cases n with
      | zero =>
        have l : Dt X.K ct F (.tup ds) v := l
        cases l with
        | tup q t => exact ⟨_, _, rfl, SqT.of (rs.fh _ _ q), t.pr⟩
      | succ n =>
        rcases l with l | l
        · cases l with
          | tup q t => exact ⟨_, _, rfl, SqT.of (rs.fh _ _ q), t.pr.mono fun _ _ => Al.of⟩
        · cases l with
          | tup q t => exact ⟨_, _, rfl, SqT.of (rs.fh _ _ q), t⟩
    obtain ⟨a, vs, rfl, ha, hp⟩ := this
    exact ⟨a, vs, rfl, ha, hp.length.symm.trans (lt _ _ _ e), qt F0 B F H ρ ρ' σ ds vs Q rs hp e w⟩
  | _ => cases e
/-! ### the comprehension -/
def capsD (ρ : Env) (cap : List Nat) : Env := cap.map fun i => (ρ[i]?).join
def capsM (ms : List Mo) (cap : List Nat) : List Mo := cap.map fun i => .al (((ms[i]?).map Mo.lv).getD 0)
def compD (g : D → Env → Option Env) (p : BF) (f : EF) (ρ0 : Env) : List D → Option (List D)
  | [] => some []
  | d :: ds => (g d ρ0).bind fun ρ1 => (p ρ1).bind fun b => if b = true then (f ρ1).bind fun y => (compD g p f ρ0 ds).bind fun ys => some (y :: ys) else compD g p f ρ0 ds
def eComp (fi : Env → Option (List D)) (own : Nat) (cap : List Nat) (g : D → Env → Option Env) (p : BF) (f : EF) : EF := fun ρ => (fi ρ).bind fun ds => if ds.length ≤ 16777216 then (compD g p f (List.replicate own none ++ capsD ρ cap) ds).bind fun ys => some (.lst ys) else none
theorem SL.caps {F B H : Hp} {ms : List Mo} {ρ : Env} {σ : St} (rs : RS K ct F0 B ms F H ρ σ) : ∀ {cap : List Nat}, (∀ i ∈ cap, i < ms.length) → SL K ct F H H (capsM ms cap) (capsD ρ cap) (capsOf σ cap) []
  | [], _ => .nil
  | i :: cap, h => by
    have ih := SL.caps rs (cap := cap) fun j hj => h j (List.mem_cons_of_mem _ hj)
    have hi : i < ms.length := h i List.mem_cons_self
    have hm : ms[i]? = some ms[i] := by simp [hi]
    show SL K ct F H H (.al (((ms[i]?).map Mo.lv).getD 0) :: capsM ms cap) ((ρ[i]?).join :: capsD ρ cap) ((σ[i]?).join :: capsOf σ cap) []
    cases e : (ρ[i]?).join with
    | none => exact .no ih
    | some d =>
      obtain ⟨v, hv, l⟩ := rs.get hm (join_some e)
      rw [hv, hm]
      exact .al l ih
theorem SL.nones {F B H : Hp} {ms ms' : List Mo} {ρ : Env} {σ : St} {fp : List Addr} (t : SL K ct F B H ms ρ σ fp) : ∀ {om : List Mo}, SL K ct F B H (om ++ ms) (List.replicate om.length none ++ ρ) (List.replicate om.length none ++ σ) fp
  | [] => t
  | m :: om => .no (SL.nones (ms' := ms') t)
theorem xo_comp {X : Cx} {ms om : List Mo} {n k : Nat} {elt iter tg : Expr} {ifs : List Expr} {scope : Scope} {pos : Pos} {N : List Str} {own : Nat} {cap : List Nat} {fi : Env → Option (List D)} {gg : D → Env → Option Env} {p : BF} {f : EF}
    (B : BlkOk X scope N own cap) (hc : X.calm = true) (ho : om.length = own) (hcap : ∀ i ∈ cap, i < ms.length) (hi : XIc X ct ms n tg iter fi)
    (hg : ∀ cl C fp s₀ H₀, XGc (cxB X scope cl N C fp s₀ H₀) ct (om ++ capsM ms cap) own n tg gg) (ht : ∀ cl C fp s₀ H₀, XTs (cxB X scope cl N C fp s₀ H₀) ct (om ++ capsM ms cap) ifs p) (he : ∀ cl C fp s₀ H₀, XO (cxB X scope cl N C fp s₀ H₀) ct (om ++ capsM ms cap) k elt f)
    (hs : ∀ x, foldedSetIterable iter X.env x = pure x := by intro _; rfl) : XO X ct ms (k + 1) (.ListComp elt [⟨tg, iter, ifs, 0⟩] scope pos) (eComp fi own cap gg p f) := by
  obtain ⟨wi, pi, qi⟩ := hi
  obtain ⟨tg', pg, kg, qg⟩ := fam_g (K := X.K) (Xs := fun z : List (Str × Addr) × Addr × List Addr × Shared × Hp => cxB X scope z.1 N z.2.1 z.2.2.1 z.2.2.2.1 z.2.2.2.2) (fun _ => rfl) (fun z => hg z.1 z.2.1 z.2.2.1 z.2.2.2.1 z.2.2.2.2)
  obtain ⟨tt, pt, qt⟩ := fam_t (K := X.K) (Xs := fun z : List (Str × Addr) × Addr × List Addr × Shared × Hp => cxB X scope z.1 N z.2.1 z.2.2.1 z.2.2.2.1 z.2.2.2.2) (fun _ => rfl) (fun z => ht z.1 z.2.1 z.2.2.1 z.2.2.2.1 z.2.2.2.2)
  obtain ⟨te, pe, qe⟩ := fam_o (K := X.K) (Xs := fun z : List (Str × Addr) × Addr × List Addr × Shared × Hp => cxB X scope z.1 N z.2.1 z.2.2.1 z.2.2.2.1 z.2.2.2.2) (fun _ => rfl) (fun z => he z.1 z.2.1 z.2.2.1 z.2.2.2.1 z.2.2.2.2)
  refine ⟨_, pe_comp B hc pi kg (fun cl C fp s₀ H₀ => pg (cl, C, fp, s₀, H₀)) (fun cl C fp s₀ H₀ => pt (cl, C, fp, s₀, H₀)) (fun cl C fp s₀ H₀ => pe (cl, C, fp, s₀, H₀)) hs, fun F0 B F H ρ σ r Q rs e w => ?_⟩
  obtain ⟨ds, h1, h2⟩ := bind1 e
  by_cases hz : ds.length ≤ 16777216
  case neg => rw [if_neg hz] at h2; cases h2
  rw [if_pos hz] at h2
  obtain ⟨ys, h3, h4⟩ := bind1 h2
  cases h4
  refine qi F0 B F H ρ σ ds _ rs h1 fun J F1 H1 x1 ok A hA => ?_
  have rs1 := rs.ext x1
  refine ⟨fun i m us H2 => m = ds.length - i ∧ i ≤ ds.length ∧ us.length ≤ i ∧ H2 A = some (.lst us) ∧ ∃ F2 yd zd fp, Ext F1 H1 F2 H2 ∧ F2 A = none ∧ OwL (Ow X.K ct F2 H2 k) yd us fp ∧ fp.Nodup ∧ (∀ a ∈ fp, H1 a = none ∧ a ≠ A) ∧ compD gg p f (List.replicate own none ++ capsD ρ cap) (ds.drop i) = some zd ∧ yd ++ zd = ys,
    ⟨ds.length, rfl, Nat.zero_le _, Nat.le_refl _, upd_same, F1, [], ys, [], Ext.newO x1.fh hA _, x1.fh.free hA, .nil, List.nodup_nil, fun a z => (by cases z), h3, rfl⟩, ?_⟩
  rintro i m us H2 ⟨rfl, hil, hul, hA2, F2, yd, zd, fp, x2, fA, ol, nd, hf, hcd, hys⟩
  refine ⟨hA2, ?_⟩
  have rs2 := rs1.ext x2
  obtain ⟨k1, k2⟩ := ok i F2 H2 x2.ff x2.hh x2.fh
  by_cases hlt : i < ds.length
  · right
    have hd : ds[i]? = some ds[i] := by simp [hlt]
    obtain ⟨go, yl⟩ := k1 _ hd
    rw [List.drop_eq_getElem_cons hlt] at hcd
    obtain ⟨ρ1, h5, h6⟩ := bind1 hcd
    obtain ⟨b, h7, h8⟩ := bind1 h6
    refine ⟨go, by rw [sizeLine_eq]; omega, fun x H3 y => ?_⟩
    obtain ⟨F3, x3, l⟩ := yl x H3 y
    have rs3 := rs2.ext x3
    have sl := SL.nones (ms' := []) (SL.caps rs3 hcap) (om := om)
    rw [ho] at sl
    have rsI : RS X.K ct F3 H3 (om ++ capsM ms cap) F3 H3 (List.replicate own none ++ capsD ρ cap) (List.replicate own none ++ capsOf σ cap) := ⟨.refl _, .refl _, x3.fh, fun _ _ _ h => h, [], sl, List.nodup_nil, fun a z => (by cases z)⟩
    have A3 : H3 A = some (.lst us) := x3.hh _ _ hA2
    have fA3 : F3 A = none := x3.nf A _ hA2 fA
    refine qg F3 H3 F3 H3 _ ρ1 _ _ x _ rsI (l.mono (.refl _) (x2.trans x3).hh) h5 fun σ1 r1 => ?_
    refine qt F3 H3 F3 H3 ρ1 σ1 b _ r1 h7 fun F4 H4 x4 => ?_
    cases b with
    | false =>
      rw [if_neg Bool.false_ne_true] at h8 ⊢
      have x24 := x3.trans x4
      refine ⟨ds.length - (i + 1), by omega, rfl, hlt, by omega, x4.hh _ _ A3, F4, yd, zd, fp, x2.trans x24, x4.nf A _ A3 fA3, ol.mono fun _ _ _ _ o => o.ext x24, nd, hf, h8, hys⟩
    | true =>
      rw [if_pos rfl] at h8 ⊢
      obtain ⟨yv, h9, h10⟩ := bind1 h8
      obtain ⟨zs, h11, h12⟩ := bind1 h10
      cases h12
      refine qe F3 H3 F4 H4 ρ1 σ1 yv _ (r1.ext x4) h9 fun v F5 H5 f5 x5 o5 n5 hf5 => ?_
      have x25 := (x3.trans x4).trans x5
      have x45 := x4.trans x5
      have A5 : H5 A = some (.lst us) := x45.hh _ _ A3
      have fA5 : F5 A = none := x45.nf A _ A3 fA3
      have A4 : H4 A = some (.lst us) := x4.hh _ _ A3
      have hA5 : ∀ a ∈ f5, a ≠ A := fun a z e => by rw [e] at z; rw [hf5 A z] at A4; cases A4
      refine ⟨A5, ds.length - (i + 1), by omega, rfl, hlt, by rw [List.length_append, List.length_singleton]; omega, upd_same, F5, yd ++ [yv], zs, fp ++ (f5 ++ []), ?_, fA5, ?_, ?_, ?_, h11, by rw [List.append_assoc]; exact hys⟩
      · have x15 := x2.trans x25
        refine ⟨x15.ff, fun a o h => ?_, fun a o h => ?_, x15.nf⟩
        · rw [upd_ne (ne_of_none h hA)]; exact x15.hh _ _ h
        · rw [upd_ne (fun z => by rw [z] at h; rw [fA5] at h; cases h)]; exact x15.fh _ _ h
      · refine (ol.mono fun _ _ f hfi o => ?_).append (.cons ?_ .nil)
        · refine (o.ext x25).frame (.refl _) fun a z => ⟨upd_ne (hf a (hfi a z)).2, ((o.ext x25).cells a z).1⟩
        · exact o5.frame (.refl _) fun a z => ⟨upd_ne (hA5 a z), (o5.cells a z).1⟩
      · rw [List.append_nil]
        refine List.nodup_append.mpr ⟨nd, n5, fun a z c hc e => ?_⟩
        subst e
        have : ∃ o, H2 a = some o := (OwL.cellsOf ol a z).2
        obtain ⟨o, ho⟩ := this
        have := x4.hh _ _ (x3.hh _ _ ho)
        rw [hf5 a hc] at this
        cases this
      · intro a z
        rw [List.append_nil] at z
        rcases List.mem_append.mp z with z | z
        · exact hf a z
        · refine ⟨?_, hA5 a z⟩
          have x14 := x2.trans (x3.trans x4)
          exact x14.hh.free (hf5 a z)
  · left
    refine ⟨k2 (by omega), ?_⟩
    have : ds.drop i = [] := List.drop_eq_nil_of_le (by omega)
    rw [this] at hcd
    cases hcd
    rw [List.append_nil] at hys
    subst hys
    refine w _ F2 H2 (A :: fp) (x1.trans x2) (.inr (.lst fA hA2 ol)) (List.nodup_cons.mpr ⟨fun z => (hf A z).2 rfl, nd⟩) fun a z => ?_
    rcases List.mem_cons.mp z with rfl | z
    · exact x1.hh.free hA
    · exact x1.hh.free (hf a z).1
end
end L3

/-! ## walks; changes in place -/
namespace L3
open PySem PySem.Spec L2
open PyProof.Rows hiding St
section
variable {X : Cx} {ct : Nat → Addr} {ms : List Mo} {rk n m k : Nat} {st : Stmt} {rest : List Stmt} {a b c e tg : Expr} {f g h : EF} {p q : BF} {u w : SF} {pos : Pos}
def asL : D → Option (List D)
  | .lst ds => some ds
  | _ => none
def asT : D → Option (List D)
  | .tup ds => some ds
  | _ => none
theorem asL_some {d : D} {ds : List D} (h : asL d = some ds) : d = .lst ds := by cases d <;> simp [asL] at h; subst h; rfl
theorem asT_some {d : D} {ds : List D} (h : asT d = some ds) : d = .tup ds := by cases d <;> simp [asT] at h; subst h; rfl
def lsD (f : EF) : Env → Option (List D) := fun ρ => (f ρ).bind asL
def tsD (f : EF) : Env → Option (List D) := fun ρ => (f ρ).bind asT
theorem itl_ok {K : PySem.W.Frag} {F B G : Hp} {a : Addr} {vs : List V} {ds : List D} (hp : Pr (Al K ct F B n) ds vs) (keep : ∀ F' H', Same F F' → Same B H' → Same F' H' → SqL K H' a vs) : ItOk K ct F B n (Itl K a) ds := by
  intro i F' H' s1 s2 s3
  have hs : SqL K H' a vs := keep F' H' s1 s2 s3
  refine ⟨fun d hd => ?_, fun hl => ⟨vs, hs, by rw [← hp.length]; exact hl⟩⟩
  obtain ⟨v, hv, l⟩ := hp.get' hd
  refine ⟨⟨vs, v, hs, hv⟩, fun x H2 y => ?_⟩
  obtain ⟨e, y⟩ := y
  subst e
  have := y vs hs
  rw [hv] at this
  cases this
  exact ⟨F', .refl s3, l.mono s1 (.refl _)⟩
theorem Dt.lst_inv {K : PySem.W.Frag} {F : Hp} {ds : List D} {v : V} (h : Dt K ct F (.lst ds) v) : ∃ a vs, v = .ref a ∧ SqL K F a vs ∧ Dts K ct F ds vs := by
  cases h with
  | lst q t => exact ⟨_, _, rfl, q, t⟩
theorem xi_list (he : XE X ct ms 0 e f) : XI X ct ms 0 tg e (lsD f) := by
  obtain ⟨t, pt, qt⟩ := he
  refine ⟨_, pi_list pt, fun F0 B F H ρ σ ds R rs e w => ?_⟩
  obtain ⟨d, h1, h2⟩ := bind1 e
  rw [asL_some h2] at h1
  refine qt F0 B F H ρ σ _ _ rs h1 fun v F' H' x l => ?_
  obtain ⟨a, vs, rfl, ha, hp⟩ := Dt.lst_inv l
  exact ⟨a, rfl, ⟨vs, x.fh.seq ha⟩, w _ F' H' x (itl_ok (G := H') (n := 0) (hp.pr) fun F2 H2 s1 s2 s3 => s3.seq (s1.seq ha))⟩
theorem xic_list (he : XE X ct ms n e f) : XIc X ct ms (n - 1) tg e (lsD f) := by
  obtain ⟨t, pt, qt⟩ := he
  refine ⟨_, pi_list pt, fun F0 B F H ρ σ ds R rs e w => ?_⟩
  obtain ⟨d, h1, h2⟩ := bind1 e
  rw [asL_some h2] at h1
  refine qt F0 B F H ρ σ _ _ rs h1 fun v F' H' x l => ?_
  obtain ⟨a, vs, rfl, ha, hp⟩ := l.lst x.fh
  exact ⟨a, rfl, ⟨vs, ha⟩, w _ F' H' x (itl_ok (G := H') hp fun F2 H2 s1 s2 s3 => s2.seq ha)⟩
theorem XI.cc {fi : Env → Option (List D)} (h : XI X ct ms n tg e fi) : XIc X ct ms n tg e fi := by
  obtain ⟨t, pt, qt⟩ := h
  refine ⟨t, pt, fun F0 B F H ρ σ ds R rs e w => qt F0 B F H ρ σ ds R rs e fun J F' H' x ok => w J F' H' x fun i F2 H2 s1 s2 s3 => ?_⟩
  obtain ⟨k1, k2⟩ := ok i F2 H2 s1 ((rs.ext x).bh.trans s2) s3
  refine ⟨fun d hd => ?_, k2⟩
  obtain ⟨go, yl⟩ := k1 d hd
  refine ⟨go, fun v H3 y => ?_⟩
  obtain ⟨F3, x3, l⟩ := yl v H3 y
  exact ⟨F3, x3, l.mono (.refl _) (rs.ext x).bh⟩
/-- a lent list -/
theorem SL.getA {K : PySem.W.Frag} {F B H : Hp} : ∀ {ms : List Mo} {ρ : Env} {σ : St} {fp : List Addr} {i : Nat} {d : D}, SL K ct F B H ms ρ σ fp → ms[i]? = some (.al n) → ρ[i]? = some (some d) → ∃ v, σ[i]? = some (some v) ∧ Al K ct F B n d v
  | _, _, _, _, _, _, .nil, e, _ => by simp at e
  | _, _, _, _, 0, _, .no t, _, e => by simp at e
  | _, _, _, _, 0, _, .al h t, e, e' => by simp at e e'; subst e; subst e'; exact ⟨_, rfl, h⟩
  | _, _, _, _, 0, _, .px h t, e, e' => by simp at e
  | _, _, _, _, 0, _, .ow h t, e, e' => by simp at e
  | _, _, _, _, i + 1, _, .no t, e, e' => by simpa using SL.getA (i := i) t (by simpa using e) (by simpa using e')
  | _, _, _, _, i + 1, _, .al h t, e, e' => by simpa using SL.getA (i := i) t (by simpa using e) (by simpa using e')
  | _, _, _, _, i + 1, _, .px h t, e, e' => by simpa using SL.getA (i := i) t (by simpa using e) (by simpa using e')
  | _, _, _, _, i + 1, _, .ow h t, e, e' => by simpa using SL.getA (i := i) t (by simpa using e) (by simpa using e')
theorem xi_varA (i : Nat) {x : Str} (hm : ms[i]? = some (.al (n + 1)) := by rfl) (hN : X.N[i]? = some x := by rfl) (hv : Vis X.env.scope x := by first | exact Or.inl rfl | exact Or.inr (Or.inl rfl) | exact Or.inr (Or.inr rfl)) (hd : (x == ("__debug__" : Str)) = false := by decide)
    (hcd : (x == ("__classdict__" : Str)) = false := by decide) : XI X ct ms n tg (.Name x pos) (lsD (eV i)) := by
  refine ⟨_, pi_list (pe_var hN hv hd hcd), fun F0 B F H ρ σ ds R rs e w => ?_⟩
  obtain ⟨d, h1, h2⟩ := bind1 e
  rw [asL_some h2] at h1
  obtain ⟨fp, sl, _, _⟩ := rs.sl
  obtain ⟨v, hv', l⟩ := sl.getA hm (join_some h1)
  refine ⟨v, hv', ?_⟩
  rcases l with l | l
  · obtain ⟨a, vs, rfl, ha, hp⟩ := Dt.lst_inv l
    exact ⟨a, rfl, ⟨vs, rs.fh.seq ha⟩, w _ F H (.refl rs.fh) (itl_ok (G := H) (hp.pr.mono fun _ _ => Al.of) fun F2 H2 s1 s2 s3 => s3.seq (s1.seq ha))⟩
  · cases l with
    | lst ha hp => exact ⟨_, rfl, ⟨_, SqL.of (rs.bh _ _ ha)⟩, w _ F H (.refl rs.fh) (itl_ok (G := H) hp fun F2 H2 s1 s2 s3 => SqL.of (s2 _ _ ha))⟩
/-! ### range -/
def upto (lo : Int) (j : Nat) : List D := (List.range j).map fun (t : Nat) => .int (lo + (t : Int))
def rng1 : List D → Option (List D)
  | [.int j] => if -4611686018427387904 ≤ j ∧ j < 4611686018427387904 then some (upto 0 j.toNat) else none
  | _ => none
def rng2 : List D → Option (List D)
  | [.int i, .int j] => if -4611686018427387904 ≤ i ∧ i < 4611686018427387904 ∧ -4611686018427387904 ≤ j ∧ j < 4611686018427387904 then some (upto i (j - i).toNat) else none
  | _ => none
theorem itr_ok {K : PySem.W.Frag} {F B : Hp} {lo : Int} {j : Nat} : ItOk K ct F B n (Itr lo j) (upto lo j) := by
  intro i F' H' s1 s2 s3
  unfold upto
  refine ⟨fun d hd => ?_, fun hl => (show j ≤ i by simpa using hl)⟩
  rw [List.getElem?_map] at hd
  by_cases h : i < j
  · rw [List.getElem?_range h] at hd
    cases hd
    refine ⟨h, fun x H2 y => ?_⟩
    obtain ⟨e, y⟩ := y
    subst e
    subst y
    exact ⟨F', .refl s3, Al.of (.int _)⟩
  · rw [List.getElem?_eq_none (by simpa using h)] at hd
    cases hd
theorem xi_range1 {fs : Env → Option (List D)} {pp : Pos} (hm : X.mg "range" = none) (ha : XA X ct ms [a] [m] fs) (hg : Gl X "range" := by rfl) (hs : starEach [a] X.env = [(false, eval a X.env)] := by rfl) : XI X ct ms n tg (.Call (.Name "range" pp) [a] [] pos) (fun ρ => (fs ρ).bind rng1) := by
  obtain ⟨t, pt, _, qt⟩ := ha
  refine ⟨_, pi_range1 hg hm pt hs, fun F0 B F H ρ σ ds R rs e w => ?_⟩
  obtain ⟨ds', h1, h2⟩ := bind1 e
  refine qt F0 B F H ρ σ _ _ rs h1 fun vs F' H' x l => ?_
  cases l with
  | cons h t =>
    cases t
    rename_i d v
    cases d with
    | int j =>
      unfold rng1 at h2
      dsimp only at h2
      by_cases hj : -4611686018427387904 ≤ j ∧ j < 4611686018427387904
      · rw [if_pos hj] at h2
        cases h2
        exact ⟨j, by rw [h.int], by omega, by omega, w _ F' H' x itr_ok⟩
      · rw [if_neg hj] at h2; cases h2
    | _ => cases h2
theorem xi_range2 {fs : Env → Option (List D)} {pp : Pos} {m' : Nat} (hm : X.mg "range" = none) (ha : XA X ct ms [a, b] [m, m'] fs) (hg : Gl X "range" := by rfl) (hs : starEach [a, b] X.env = [(false, eval a X.env), (false, eval b X.env)] := by rfl) (hs2 : starEach [b] X.env = [(false, eval b X.env)] := by rfl) : XI X ct ms n tg (.Call (.Name "range" pp) [a, b] [] pos) (fun ρ => (fs ρ).bind rng2) := by
  obtain ⟨t, pt, _, qt⟩ := ha
  refine ⟨_, pi_range2 hg hm pt hs hs2, fun F0 B F H ρ σ ds R rs e w => ?_⟩
  obtain ⟨ds', h1, h2⟩ := bind1 e
  refine qt F0 B F H ρ σ _ _ rs h1 fun vs F' H' x l => ?_
  cases l with
  | cons h t =>
    cases t with
    | cons h' t =>
      cases t
      rename_i d v d' v'
      cases d with
      | int i =>
        cases d' with
        | int j =>
          unfold rng2 at h2
          dsimp only at h2
          by_cases hj : -4611686018427387904 ≤ i ∧ i < 4611686018427387904 ∧ -4611686018427387904 ≤ j ∧ j < 4611686018427387904
          · rw [if_pos hj] at h2
            cases h2
            exact ⟨i, j, by rw [h.int, h'.int], ⟨by omega, by omega, by omega, by omega⟩, w _ F' H' x itr_ok⟩
          · rw [if_neg hj] at h2; cases h2
        | _ => cases h2
      | _ => cases h2
/-! ### enumerate -/
def enumD (i : Nat) : List D → List D
  | [] => []
  | d :: ds => .tup [.int i, d] :: enumD (i + 1) ds
theorem enumD_get : ∀ {ds : List D} {j i : Nat} {d : D}, (enumD j ds)[i]? = some d → ∃ x, ds[i]? = some x ∧ d = .tup [.int (j + i : Nat), x]
  | [], _, _, _, h => by simp [enumD] at h
  | x :: ds, j, 0, d, h => by simp [enumD] at h; subst h; exact ⟨x, rfl, rfl⟩
  | x :: ds, j, i + 1, d, h => by
    obtain ⟨y, h1, h2⟩ := enumD_get (ds := ds) (j := j + 1) (i := i) (d := d) (by simpa [enumD] using h)
    exact ⟨y, by simpa using h1, by rw [h2, Nat.add_assoc, Nat.add_comm 1 i]⟩
theorem enumD_len : ∀ {ds : List D} {j : Nat}, (enumD j ds).length = ds.length
  | [], _ => rfl
  | _ :: ds, j => by simp [enumD, enumD_len (ds := ds)]
theorem ite_ok {K : PySem.W.Frag} {F B : Hp} {a : Addr} {vs : List V} {ds : List D} (hp : Pr (Al K ct F B n) ds vs) (keep : ∀ F' H', Same F F' → Same B H' → Same F' H' → SqL K H' a vs) : ItOk K ct F B (n + 1) (Ite K a) (enumD 0 ds) := by
  intro i F' H' s1 s2 s3
  have hs : SqL K H' a vs := keep F' H' s1 s2 s3
  refine ⟨fun d hd => ?_, fun hl => ⟨vs, hs, by rw [← hp.length]; rw [enumD_len] at hl; exact hl⟩⟩
  obtain ⟨x, hx, rfl⟩ := enumD_get hd
  obtain ⟨v, hv, l⟩ := hp.get' hx
  refine ⟨⟨vs, v, hs, hv⟩, fun z H2 y => ?_⟩
  obtain ⟨r, y', hr, rfl, rfl, y⟩ := y
  have := y vs hs
  rw [hv] at this
  cases this
  refine ⟨_, Ext.newS s3 hr _, .inr (.tup upd_same (.cons (Al.of ?_) (.cons (l.mono (s1.trans (same_new (s3.free hr) _)) (.refl _)) .nil)))⟩
  rw [Nat.zero_add]
  exact .int _
theorem xi_enum {fs : Env → Option (List D)} {elts : List Expr} {kt : Nat} {pt pp : Pos} (hm : X.mg "enumerate" = none) (ha : XA X ct ms [a] [0] fs) (hg : Gl X "enumerate" := by rfl) (hs : starEach [a] X.env = [(false, eval a X.env)] := by rfl) :
    XI X ct ms 1 (.Tuple elts kt pt) (.Call (.Name "enumerate" pp) [a] [] pos) (fun ρ => (fs ρ).bind fun ds => match ds with | [.lst xs] => some (enumD 0 xs) | _ => none) := by
  obtain ⟨t, pt, _, qt⟩ := ha
  refine ⟨_, pi_enum hg hm pt hs, fun F0 B F H ρ σ ds R rs e w => ?_⟩
  obtain ⟨ds', h1, h2⟩ := bind1 e
  refine qt F0 B F H ρ σ _ _ rs h1 fun vs F' H' x l => ?_
  cases l with
  | cons h t =>
    cases t
    rename_i d v
    cases d with
    | lst xs =>
      cases h2
      obtain ⟨a, vs, rfl, ha, hp⟩ := Dt.lst_inv h
      exact ⟨a, rfl, ⟨vs, x.fh.seq ha⟩, w _ F' H' x (ite_ok (n := 0) hp.pr fun F2 H2 s1 s2 s3 => s3.seq (s1.seq ha))⟩
    | _ => cases h2
theorem xic_enum {fs : Env → Option (List D)} {elts : List Expr} {kt : Nat} {pt pp : Pos} (hm : X.mg "enumerate" = none) (ha : XA X ct ms [a] [n] fs) (hg : Gl X "enumerate" := by rfl) (hs : starEach [a] X.env = [(false, eval a X.env)] := by rfl) :
    XIc X ct ms (n - 1 + 1) (.Tuple elts kt pt) (.Call (.Name "enumerate" pp) [a] [] pos) (fun ρ => (fs ρ).bind fun ds => match ds with | [.lst xs] => some (enumD 0 xs) | _ => none) := by
  obtain ⟨t, pt, _, qt⟩ := ha
  refine ⟨_, pi_enum hg hm pt hs, fun F0 B F H ρ σ ds R rs e w => ?_⟩
  obtain ⟨ds', h1, h2⟩ := bind1 e
  refine qt F0 B F H ρ σ _ _ rs h1 fun vs F' H' x l => ?_
  cases l with
  | cons h t =>
    cases t
    rename_i d v
    cases d with
    | lst xs =>
      cases h2
      obtain ⟨a, vs, rfl, ha, hp⟩ := h.lst x.fh
      exact ⟨a, rfl, ⟨vs, ha⟩, w _ F' H' x (ite_ok hp fun F2 H2 s1 s2 s3 => s2.seq ha)⟩
    | _ => cases h2
end
end L3

/-! ## changes in place -/
namespace L3
open PySem PySem.Spec L2
open PyProof.Rows hiding St
section
variable {X : Cx} {ct : Nat → Addr} {ms : List Mo} {rk n m k : Nat} {st : Stmt} {rest : List Stmt} {a b c e tg : Expr} {f g h : EF} {p q : BF} {u w : SF} {pos : Pos}
theorem PS.or {t u : TS} (h1 : PS X st t) (h2 : PS X st u) : PS X st (fun D σ H => t D σ H ∨ u D σ H) := fun pins s σ H D I h => h.elim (h1 pins s σ H D I) (h2 pins s σ H D I)
theorem xs_or (ha : XS X ct ms rk st u) (hb : XS X ct ms rk st w) : XS X ct ms rk st (fun ρ => (u ρ).or (w ρ)) := by
  obtain ⟨t, pt, qt⟩ := ha
  obtain ⟨t2, pt2, qt2⟩ := hb
  refine ⟨_, PS.or pt pt2, fun F0 B F H ρ σ o E rs e z => ?_⟩
  dsimp only at e ⊢
  cases h : u ρ with
  | some d =>
    rw [h] at e
    cases e
    exact .inl (qt F0 B F H ρ σ _ E rs h z)
  | none =>
    rw [h] at e
    exact .inr (qt2 F0 B F H ρ σ o E rs e z)
/-- the owned list of a name -/
theorem Ow.lst_inv {K : PySem.W.Frag} {F H : Hp} {ds : List D} {v : V} {fp : List Addr} (h : Ow K ct F H (k + 1) (.lst ds) v fp) : ∃ a vs fr, v = .ref a ∧ fp = a :: fr ∧ F a = none ∧ H a = some (.lst vs) ∧ OwL (Ow K ct F H k) ds vs fr := by
  rcases h with ⟨h, _⟩ | h
  · cases h
  · cases h with
    | lst h1 h2 h3 => exact ⟨_, _, _, rfl, rfl, h1, h2, h3⟩
theorem Ow.dK_inv {K : PySem.W.Frag} {F H : Hp} {ks : List Key} {ds : List D} {v : V} {fp : List Addr} (h : Ow K ct F H (k + 1) (.dK ks ds) v fp) : ∃ a vs fr, v = .ref a ∧ fp = a :: fr ∧ F a = none ∧ H a = some (.dK (ks.zip vs)) ∧ ks.length = vs.length ∧ OwL (Ow K ct F H k) ds vs fr := by
  rcases h with ⟨h, _⟩ | h
  · cases h
  · cases h with
    | dK h1 h2 h3 h4 => exact ⟨_, _, _, rfl, rfl, h1, h2, h3, h4⟩
theorem Ow.dT_inv {K : PySem.W.Frag} {F H : Hp} {ks : List (List Key)} {ds : List D} {v : V} {fp : List Addr} (h : Ow K ct F H (k + 1) (.dT ks ds) v fp) : ∃ a vs fr, v = .ref a ∧ fp = a :: fr ∧ F a = none ∧ H a = some (.dT (ks.zip vs)) ∧ ks.length = vs.length ∧ OwL (Ow K ct F H k) ds vs fr := by
  rcases h with ⟨h, _⟩ | h
  · cases h
  · cases h with
    | dT h1 h2 h3 h4 => exact ⟨_, _, _, rfl, rfl, h1, h2, h3, h4⟩
/-- the frame behind a change at a of the name i's content -/
theorem RS.change {K : PySem.W.Frag} {F0 B F H F' H' : Hp} {ρ : Env} {σ : St} {i : Nat} {d' : D} {v : V} {f1 fr fn : List Addr} {ad : Addr} {o : HO} (rs : RS K ct F0 B ms F H ρ σ) (hm : ms[i]? = some (.ow k)) (x : Ext F H F' H')
    (hσ : σ[i]? = some (some v)) (b1 : ∀ a ∈ f1, B a = none) (dj : ∀ a ∈ f1, a ∉ fr) (cf : ∀ a ∈ fr, F a = none ∧ ∃ o, H a = some o)
    (put : ∀ (F' H' : Hp) (d' : D) (v' : V) (f' : List Addr), Same F F' → Same B H' → Same F' H' → (∀ a o, B a = some o → F0 a = none → F' a = none) → (∀ a ∈ fr, H' a = H a ∧ F' a = none) → Ow K ct F' H' k d' v' f' → f'.Nodup → (∀ a ∈ f', a ∉ fr) → (∀ a ∈ f', B a = none) →
        RS K ct F0 B ms F' H' (ρ.set i (some d')) (σ.set i (some v')))
    (had : ad ∈ f1) (fad : F' ad = none) (o' : Ow K ct F' (upd H' ad o) k d' v fn) (nd : fn.Nodup) (hfn : ∀ a ∈ fn, a ∈ f1 ∨ H a = none) : RS K ct F0 B ms F' (upd H' ad o) (ρ.set i (some d')) σ := by
  have r := rs.ext x
  have hB : B ad = none := b1 ad had
  have res := put F' (upd H' ad o) d' v fn x.ff (fun z u h => by rw [upd_ne (fun e => by rw [e, hB] at h; cases h)]; exact r.bh _ _ h) (fun z u h => by rw [upd_ne (fun e => by rw [e, fad] at h; cases h)]; exact x.fh _ _ h) r.nf
    (fun z hz => by
      obtain ⟨hn, o, ho⟩ := cf z hz
      refine ⟨?_, x.nf z o ho hn⟩
      have ne : z ≠ ad := fun e => dj ad had (by rw [← e]; exact hz)
      rw [upd_ne ne]
      exact (x.hh _ _ ho).trans ho.symm) o' nd
    (fun z hz zr => by
      rcases hfn z hz with h | h
      · exact dj z h zr
      · obtain ⟨_, o, ho⟩ := cf z zr
        rw [h] at ho
        cases ho)
    (fun z hz => (hfn z hz).elim (b1 z) fun h => rs.bh.free h)
  have e : σ.set i (some v) = σ := by
    apply List.ext_getElem?
    intro j
    by_cases hj : i = j
    · subst hj
      rw [List.getElem?_set_self (by
        have := List.getElem?_eq_some_iff.mp hσ
        exact this.1), hσ]
    · rw [List.getElem?_set_ne hj]
  rw [e] at res
  exact res
/-! ### x.append(e) -/
def sApp (i : Nat) (f : EF) : SF := fun ρ => (eV i ρ).bind fun o => (f ρ).bind fun d => match o with
  | .lst ds => if ds.length < 16777216 then some (.nx (ρ.set i (some (.lst (ds ++ [d]))))) else none
  | _ => none
theorem xs_append (i : Nat) {x : Str} {p1 apos cpos : Pos} (hm : ms[i]? = some (.ow (k + 1))) (he : XO X ct ms k e f) (hN : X.N[i]? = some x := by rfl) (hv : Vis X.env.scope x := by first | exact Or.inl rfl | exact Or.inr (Or.inl rfl) | exact Or.inr (Or.inr rfl)) (hd : (x == ("__debug__" : Str)) = false := by decide)
    (hcd : (x == ("__classdict__" : Str)) = false := by decide) (hst : starEach [e] X.env = (false, eval e X.env) :: starEach [] X.env := by rfl)
    (hbase : attributeBase (.Name x p1) "append" X.env (eval (.Name x p1) X.env) = eval (.Name x p1) X.env := by rfl)
    (hfew : ((backTo cpos (starEach [e] X.env)).all (fun x => !x.1) && (backToKw cpos (keywordEach [] X.env)).all (fun x => x.1.isSome)
      && decide ([e].length + ([] : List Keyword).length + (if ([] : List Keyword).isEmpty then 0 else 1) < 30)) = true := by rfl)
    (hline : (apos.endLine == cpos.line) = true := by rfl) (hplain : (backTo cpos (starEach [] X.env)).any (·.1) = false := by rfl)
    (hsw : swapsWith (.Call (.Attribute (.Name x p1) "append" apos) [e] [] cpos) none pos.line X.env = pure false := by rfl) :
    XS X ct ms rk (.Expr (.Call (.Attribute (.Name x p1) "append" apos) [e] [] cpos) pos) (sApp i f) := by
  obtain ⟨t, pt, qt⟩ := he
  refine ⟨_, ps_expr (pe_bm PySem.F.plainAttrs_list PySem.F.slot_list_append PySem.F.type_list_append mt_append (pe_var hN hv hd hcd) (pa_cons pt pa_nil hst) hbase hfew hline hst hplain) hsw, fun F0 B F H ρ σ o E rs e z => ?_⟩
  obtain ⟨d1, d2, h1, h2, h3⟩ := bind2 e
  obtain ⟨f1, fr, n1, b1, dj, i4, cf, put⟩ := rs.put (F' := F) (H' := H) hm
  obtain ⟨v, hσ, ow⟩ := i4 d1 (join_some h1)
  refine ⟨v, hσ, ?_⟩
  cases d1 with
  | lst ds =>
    dsimp only at h3
    by_cases hz : ds.length < 16777216
    · rw [if_pos hz] at h3
      cases h3
      obtain ⟨ad, vs, fr1, rfl, rfl, hF, hH, ol⟩ := ow.lst_inv
      refine ⟨.inl ⟨rfl, _, SqL.of hH⟩, qt F0 B F H ρ σ d2 _ rs h2 fun v2 F' H' fp x1 o2 nd2 hf2 => ?_⟩
      have hA : H' ad = some (.lst vs) := x1.hh _ _ hH
      have fA : F' ad = none := x1.nf ad _ hH hF
      have nA : ∀ a ∈ fp, a ≠ ad := fun a hz e => by rw [e] at hz; rw [hf2 ad hz] at hH; cases hH
      have n1' := List.nodup_cons.mp n1
      refine ⟨ad, vs, v2, rfl, rfl, hA, by rw [← ol.length, sizeLine_eq]; exact hz, ?_⟩
      refine z σ F' _ (rs.change hm x1 hσ b1 dj cf put List.mem_cons_self fA (.inr (.lst fA upd_same ((ol.mono fun _ _ f' hi o' => ?_).append (.cons (f := fp) ?_ .nil)))) (fn := ad :: (fr1 ++ (fp ++ []))) ?_ ?_)
      · refine (o'.ext x1).frame (.refl _) fun a ha => ⟨upd_ne fun e => n1'.1 (e ▸ hi a ha), ((o'.ext x1).cells a ha).1⟩
      · exact o2.frame (.refl _) fun a ha => ⟨upd_ne (nA a ha), (o2.cells a ha).1⟩
      · rw [List.append_nil]
        refine List.nodup_cons.mpr ⟨fun hz => ?_, List.nodup_append.mpr ⟨n1'.2, nd2, fun a ha b hb e => ?_⟩⟩
        · rcases List.mem_append.mp hz with hz | hz
          · exact n1'.1 hz
          · exact nA ad hz rfl
        · subst e
          obtain ⟨_, o, ho⟩ := OwL.cellsOf ol a ha
          rw [hf2 a hb] at ho
          cases ho
      · intro a ha
        rw [List.append_nil] at ha
        rcases List.mem_cons.mp ha with rfl | ha
        · exact .inl List.mem_cons_self
        · rcases List.mem_append.mp ha with ha | ha
          · exact .inl (List.mem_cons_of_mem _ ha)
          · exact .inr (hf2 a ha)
    · rw [if_neg hz] at h3; cases h3
  | _ => cases h3
/-! ### x[j] = e -/
def setAt (ds : List D) (i : Int) (d : D) : Option (List D) := (ixN ds.length i).bind fun j => some (ds.set j d)
def putK' {κ : Type} [DecidableEq κ] (ks : List κ) (ds : List D) (k : κ) (d : D) : List κ × List D := if ks.contains k = true then (ks, (ks.zip ds).map fun p => if p.1 = k then d else p.2) else (ks ++ [k], ds ++ [d])
def sPutL (i : Nat) (fj f : EF) : SF := fun ρ => (f ρ).bind fun d => (eV i ρ).bind fun o => (fj ρ).bind fun j => match o, j with
  | .lst ds, .int z => (setAt ds z d).bind fun ds' => some (.nx (ρ.set i (some (.lst ds'))))
  | _, _ => none
theorem OwL.set0 {R : D → V → List Addr → Prop} {d : D} {v : V} (r : R d v []) (z : ∀ d v f, R d v f → f = []) : ∀ {ds : List D} {vs : List V} {fp : List Addr} (i : Nat), OwL R ds vs fp → OwL R (ds.set i d) (vs.set i v) []
  | _, _, _, _, .nil => .nil
  | _, _, _, 0, .cons h t => by
    have := OwL.cons (f := []) (g := []) r (OwL.ofPr (t.pr fun d v f _ q => by have := z _ _ _ q; subst this; exact q))
    exact this
  | _, _, _, i + 1, .cons h t => by
    have e := z _ _ _ h
    subst e
    exact OwL.cons (f := []) (g := []) h (OwL.set0 r z i t)
theorem Ow.nil0 {K : PySem.W.Frag} {F H : Hp} {d : D} {v : V} {fp : List Addr} (h : Ow K ct F H 0 d v fp) : fp = [] := h.2
theorem OwL.nil0 {K : PySem.W.Frag} {F H : Hp} : ∀ {ds : List D} {vs : List V} {fp : List Addr}, OwL (Ow K ct F H 0) ds vs fp → fp = []
  | _, _, _, .nil => rfl
  | _, _, _, .cons h t => by rw [h.nil0, OwL.nil0 t]; rfl
theorem xs_putL (i : Nat) {x : Str} {j : Expr} {p1 tpos : Pos} {fj : EF} (hm : ms[i]? = some (.ow 1)) (hj : XE X ct ms n j fj) (he : XE X ct ms 0 e f) (hN : X.N[i]? = some x := by rfl) (hv : Vis X.env.scope x := by first | exact Or.inl rfl | exact Or.inr (Or.inl rfl) | exact Or.inr (Or.inr rfl)) (hd : (x == ("__debug__" : Str)) = false := by decide)
    (hcd : (x == ("__classdict__" : Str)) = false := by decide)
    (ha : ∀ v, assign (.Subscript (.Name x p1) j tpos) X.env v = (do
      let ov ← holding [v] (eval (.Name x p1) X.env)
      let iv ← holding [v, ov] (eval j X.env)
      standAt tpos
      holding [v, ov, iv] (setItem ov iv v)
      release [v, ov, iv] []) := by intro _; rfl)
    (hs : swapsWithSole [.Subscript (.Name x p1) j tpos] e pos.line X.env = pure false := by rfl) (hw : swappedStores [.Subscript (.Name x p1) j tpos] e X.env = pure none := by rfl)
    (h1 : (assignEach [.Subscript (.Name x p1) j tpos] X.env).map (·.2) = [assign (.Subscript (.Name x p1) j tpos) X.env] := by rfl) :
    XS X ct ms rk (.Assign [.Subscript (.Name x p1) j tpos] e pos) (sPutL i fj f) := by
  obtain ⟨t, pt, qt⟩ := he
  obtain ⟨tj, ptj, qtj⟩ := hj
  refine ⟨_, ps_asg pt (pg_sub (pe_var hN hv hd hcd) ptj set_list ha) hs hw h1, fun F0 B F H ρ σ o E rs e z => ?_⟩
  obtain ⟨d, g1, g2⟩ := bind1 e
  obtain ⟨d1, dj', g3, g4, g5⟩ := bind2 g2
  refine qt F0 B F H ρ σ d _ rs g1 fun v0 F1 H1 x1 l0 => ?_
  have rs1 := rs.ext x1
  obtain ⟨f1, fr, n1, b1, dj, i4, cf, put⟩ := rs1.put (F' := F) (H' := H) hm
  obtain ⟨v, hσ, ow⟩ := i4 d1 (join_some g3)
  refine ⟨v, hσ, qtj F0 B F1 H1 ρ σ dj' _ rs1 g4 fun vj F2 H2 x2 lj => ?_⟩
  cases d1 with
  | lst ds =>
    cases dj' with
    | int zi =>
      obtain ⟨ds', g6, g7⟩ := bind1 g5
      cases g7
      obtain ⟨jn, g8, g9⟩ := bind1 g6
      cases g9
      obtain ⟨ad, vs, fr1, rfl, rfl, hF, hH, ol⟩ := ow.lst_inv
      have hA : H2 ad = some (.lst vs) := x2.hh _ _ hH
      have fA : F2 ad = none := x2.nf ad _ hH hF
      have e0 := ol.nil0
      subst e0
      refine ⟨ad, vs, zi, jn, rfl, lj.int, hA, by rw [← ol.length]; exact g8, ?_⟩
      refine z σ F2 _ (rs1.change hm x2 hσ b1 dj cf put List.mem_cons_self fA (.inr (.lst fA upd_same (OwL.set0 ⟨Dt.mono x2.ff l0, rfl⟩ (fun _ _ _ q => q.2) jn (ol.mono fun _ _ _ _ q => ⟨q.1.mono x2.ff, q.2⟩)))) (fn := [ad]) (by simp) ?_)
      intro a ha
      rw [List.mem_singleton] at ha
      subst ha
      exact .inl List.mem_cons_self
    | _ => cases g5
  | _ => cases g5
end
end L3

/-! ## + *, copies, slices, builtins -/
namespace L3
open PySem PySem.Spec L2
open PyProof.Rows hiding St
section
variable {X : Cx} {ct : Nat → Addr} {ms : List Mo} {rk n m k : Nat} {st : Stmt} {rest : List Stmt} {a b c e tg : Expr} {f g h : EF} {p q : BF} {u w : SF} {pos : Pos} {K : PySem.W.Frag}
theorem lstR {pins : List (Addr × Obj)} {σ : St} {H : Hp} {s : Shared} {l : Addr} {xs : List V} (I : Inv X pins σ H s) (hH : Rd H l (.lst xs)) : xs.length ≤ sizeLine ∧ ∃ (its : List Value) (n : Nat), Vals xs its ∧ xs.length = its.length ∧ s.heap.get? l = some { cls := .type "list", data := .seq its.toArray n } := by
  obtain ⟨z, its, n, r, e⟩ := hH.ok I.hok
  exact ⟨z, its, n, r, r.length, e⟩
def rCatR (K : PySem.W.Frag) : R2 := fun x y H Q => ∃ l b xs zs, x = .ref l ∧ y = .ref b ∧ SqL K H l xs ∧ SqL K H b zs ∧ xs.length + zs.length ≤ sizeLine ∧ ∀ p, H p = none → Q (.ref p) (upd H p (.lst (xs ++ zs)))
theorem op_catR : OpR X (binaryOp .Add) (rCatR X.K) := by
  intro pins s σ H x y v u Q I rx ry h
  obtain ⟨l, b, xs, zs, rfl, rfl, hH, hB, hz, q⟩ := h
  cases rx
  cases ry
  obtain ⟨its, r, ⟨⟨cls, dd, data, sl⟩, n, e, c1, c2, c3⟩, z⟩ := I.list hH
  obtain ⟨its2, r2, ⟨⟨cls2, dd2, data2, sl2⟩, n2, e2, c4, c5, c6⟩, z2⟩ := I.list hB
  simp only at c1 c3 c4 c6
  subst c1 c3 c4 c6
  have hl := r.length
  have hl2 := r2.length
  refine concat_meets ⟨_, e, rfl⟩ ⟨_, e2, rfl⟩ noFill_list_add seq_list_add PySem.F.slot_list_add PySem.F.entry_list_add (PySem.F.args_list_add_2 _ _) (list_addW l b its.toArray its2.toArray n n2 dd dd2 sl sl2 (by rw [List.size_toArray, List.size_toArray]; omega)) ⟨e, e2, ?_⟩
  have ea : its.toArray ++ its2.toArray = (its ++ its2).toArray := by simp
  rw [ea]
  exact ⟨.ref _, _, I.lnew (t' := s.toks) (r.append r2) (by rw [List.length_append]; omega), rfl, q _ I.fresh⟩
def rAddS : R2 := fun x y H Q => ∃ i j, x = .str i ∧ y = .str j ∧ i.length + j.length ≤ sizeLine ∧ Q (.str (i ++ j)) H
def rAdd (K : PySem.W.Frag) : R2 := fun x y H Q => rI0 (fun i j => .int (i + j)) x y H Q ∨ rAddS x y H Q ∨ rCatR K x y H Q ∨ rCatT K x y H Q
theorem op_addA : OpR X (binaryOp .Add) (rAdd X.K) := OpR.or op_add (OpR.or op_add_str (OpR.or op_catR op_catT))
def addD : D → D → Option D
  | .int i, .int j => some (.int (i + j))
  | .str x, .str y => if x.length + y.length ≤ 16777216 then some (.str (x ++ y)) else none
  | .lst xs, .lst ys => if xs.length + ys.length ≤ 16777216 then some (.lst (xs ++ ys)) else none
  | .tup xs, .tup ys => if xs.isEmpty = false ∧ ys.isEmpty = false ∧ xs.length + ys.length ≤ 1000000 then some (.tup (xs ++ ys)) else none
  | _, _ => none
theorem Pr.ow0 {F G H : Hp} {ds : List D} {vs : List V} (h : Pr (Al K ct F G 0) ds vs) : OwL (Ow K ct F H 0) ds vs [] := OwL.ofPr (h.mono fun _ _ q => ⟨q, rfl⟩)
theorem Al.lst1 {F G : Hp} {ds : List D} {v : V} (hn : n ≤ 1) (h : Al K ct F G n (.lst ds) v) (s : Same F G) : ∃ a vs, v = .ref a ∧ SqL K G a vs ∧ Pr (Al K ct F G 0) ds vs := by
  obtain ⟨a, vs, e, h1, h2⟩ := h.lst s
  have : n - 1 = 0 := by omega
  rw [this] at h2
  exact ⟨a, vs, e, h1, h2⟩
theorem Al.tup1 {F G : Hp} {ds : List D} {v : V} (hn : n ≤ 1) (h : Al K ct F G n (.tup ds) v) (s : Same F G) : ∃ a vs, v = .ref a ∧ G a = some (.tup vs) ∧ Pr (Al K ct F G 0) ds vs := by
  obtain ⟨a, vs, e, h1, h2⟩ := h.tup s
  have : n - 1 = 0 := by omega
  rw [this] at h2
  exact ⟨a, vs, e, h1, h2⟩
/-- a new list of shared items -/
theorem new_own {F H : Hp} {ds : List D} {vs : List V} {Q : VK} (s : Same F H) (hp : Pr (Al K ct F H 0) ds vs) (w : ∀ v F' H' fp, Ext F H F' H' → Ow K ct F' H' 1 (.lst ds) v fp → fp.Nodup → (∀ a ∈ fp, H a = none) → Q v H') : ∀ p, H p = none → Q (.ref p) (upd H p (.lst vs)) := fun p h0 => by
  obtain ⟨o, nd⟩ := new_lst s (hp.ow0 (H := H)) h0
  exact w _ F _ [p] (Ext.newO s h0 _) o (nd List.nodup_nil) fun a z => by rw [List.mem_singleton] at z; subst z; exact h0
theorem op2_add (hn : n ≤ 1) (hm : m ≤ 1) : Op2O K ct n m 1 (rAdd K) addD := by
  intro F H x y d1 d2 d Q s l1 l2 e w
  have ws : ∀ d v, d.sc = true → Dt K ct F d v → (∀ v F' H' fp, Ext F H F' H' → Ow K ct F' H' 1 d v fp → fp.Nodup → (∀ a ∈ fp, H a = none) → Q v H') → Q v H := fun d v hs hd w => w v F H [] (.refl s) (Ow.scal hd hs) List.nodup_nil fun a z => (by cases z)
  cases d1 with
  | int i =>
    cases d2 with
    | int j => cases e; exact .inl ⟨i, j, l1.int, l2.int, ws _ _ rfl (.int _) w⟩
    | _ => cases e
  | str i =>
    cases d2 with
    | str j =>
      unfold addD at e
      dsimp only at e
      by_cases hz : i.length + j.length ≤ 16777216
      · rw [if_pos hz] at e
        cases e
        exact .inr (.inl ⟨i, j, l1.str, l2.str, by rw [sizeLine_eq]; exact hz, ws _ _ rfl (.str _) w⟩)
      · rw [if_neg hz] at e; cases e
    | _ => cases e
  | lst xs =>
    cases d2 with
    | lst ys =>
      unfold addD at e
      dsimp only at e
      by_cases hz : xs.length + ys.length ≤ 16777216
      · rw [if_pos hz] at e
        cases e
        obtain ⟨a, vs, rfl, ha, hp⟩ := Al.lst1 hn l1 s
        obtain ⟨b, us, rfl, hb, hq⟩ := Al.lst1 hm l2 s
        exact .inr (.inr (.inl ⟨a, b, vs, us, rfl, rfl, ha, hb, by rw [← hp.length, ← hq.length, sizeLine_eq]; exact hz, new_own s (hp.append hq) w⟩))
      · rw [if_neg hz] at e; cases e
    | _ => cases e
  | tup xs =>
    cases d2 with
    | tup ys =>
      unfold addD at e
      dsimp only at e
      by_cases hz : xs.isEmpty = false ∧ ys.isEmpty = false ∧ xs.length + ys.length ≤ 1000000
      · rw [if_pos hz] at e
        cases e
        obtain ⟨a, vs, rfl, ha, hp⟩ := Al.tup1 hn l1 s
        obtain ⟨b, us, rfl, hb, hq⟩ := Al.tup1 hm l2 s
        have hl := hp.length
        have hl2 := hq.length
        have e1 : vs ≠ [] := fun z => by
          rw [z] at hl
          have := List.length_eq_zero_iff.mp hl
          rw [this] at hz
          exact absurd hz.1 (by decide)
        have e2 : us ≠ [] := fun z => by
          rw [z] at hl2
          have := List.length_eq_zero_iff.mp hl2
          rw [this] at hz
          exact absurd hz.2.1 (by decide)
        refine .inr (.inr (.inr ⟨a, b, vs, us, rfl, rfl, SqT.of ha, SqT.of hb, e1, by rw [← hl, ← hl2, sizeLine_eq]; omega, fun z => absurd z e2, fun _ p h0 => ?_⟩))
        have x2 := Ext.newS s h0 (.tup (vs ++ us))
        exact w _ _ _ [] x2 (.inr (.tup upd_same (OwL.ofPr ((hp.append hq).mono fun _ _ q => ⟨Dt.mono x2.ff q, rfl⟩)))) List.nodup_nil fun a z => (by cases z)
      · rw [if_neg hz] at e; cases e
    | _ => cases e
  | _ => cases e
/-! ### * -/
def rRepR : R2 := fun x y H Q => ∃ l k xs, x = .ref l ∧ y = .int k ∧ Rd H l (.lst xs) ∧ -(2 ^ 63) ≤ k ∧ k < 2 ^ 63 ∧ xs.length * k.toNat ≤ sizeLine ∧
  ∀ p, H p = none → Q (.ref p) (upd H p (.lst (List.replicate k.toNat xs).flatten))
theorem op_repR : OpR X (binaryOp .Mult) rRepR := by
  intro pins s σ H x y v u Q I rx ry h
  obtain ⟨l, k, xs, rfl, rfl, hH, h1, h2, hz, q⟩ := h
  cases rx
  obtain ⟨t, rfl⟩ := ry
  obtain ⟨z, its, n, r, hl, e⟩ := lstR I hH
  have hlen : its.toArray.size * k.toNat ≤ sizeLine := by rw [List.size_toArray, ← hl]; exact hz
  have hcap : ¬ its.toArray.size * k.toNat > (2 ^ 63 - 1) / 8 := by
    have : (sizeLine : Nat) ≤ (2 ^ 63 - 1) / 8 := by decide
    omega
  have hfit : ¬ (!Builtin.List.listFitsIndex k) = true := by
    rw [fitsIndex_both h1 h2]
    exact Bool.false_ne_true
  have hlong : ¬ Builtin.List.listTooLong (its.toArray.size * k.toNat) = true := by
    rw [notLongL hlen]
    exact Bool.false_ne_true
  have hnew : List.foldl (fun x1 x2 => x1 ++ x2) #[] (List.replicate (if its.toArray.isEmpty = true then 0 else k.toNat) its.toArray) = (List.replicate k.toNat its).flatten.toArray := by
    have f0 : ∀ m : Nat, List.foldl (fun x1 x2 => x1 ++ x2) #[] (List.replicate m its.toArray) = (List.replicate m its).flatten.toArray := fun m => by
      have := foldl_rep its m []
      rw [List.nil_append] at this
      exact this
    rw [f0]
    cases its with
    | nil => simp
    | cons a r' => rw [if_neg (by simp)]
  refine wpAny_binaryOp_repeat_ref (T := "list") (U := "int") (by decide) ⟨_, e, rfl⟩ (fun s' => typeIs_int s' k t) noFill_list_mul F.fills_int_mul F.slot_int_rmul repeat_list F.slot_int_index.lookup
    (call_meets F.slot_int_rmul (typeIs_int s k t) F.entry_int_rmul (F.args_int_rmul_2 _ _) (int___rmul___int_list k t l its.toArray n)
      ⟨e, rfl, ⟨_, e, rfl⟩, call_meets F.slot_list_mul ⟨_, e, rfl⟩ F.entry_list_mul (F.args_list_mul_2 _ _) (AutoListH.list___mul___list_int_3 l its.toArray n k t hfit hcap hlong) ⟨e, ?_⟩⟩)
  rw [hnew]
  exact ⟨.ref _, _, I.lnew (t' := s.toks) (r.rep k.toNat) (by rw [len_rep, Nat.mul_comm]; exact hz), rfl, q _ I.fresh⟩
theorem op2_mulI : Op2 K ct n m k (rI CMulS fun i j => .int (i * j)) mulI := op2_mul
/-- a new list times an int -/
def repD : D → D → Option D
  | .lst xs, .int j => if -1000000 < j ∧ j < 1000000 ∧ xs.length ≤ 16 then some (.lst (List.replicate j.toNat xs).flatten) else none
  | _, _ => none
theorem xo_rep (ha : XO X ct ms 1 a f) (hb : XE X ct ms m b g) : XO X ct ms 1 (.BinOp a .Mult b pos) (e2 repD f g) := by
  obtain ⟨ta, pa, qa⟩ := ha
  obtain ⟨tb, pb, qb⟩ := hb
  refine ⟨_, pe_op op_repR pa pb, fun F0 B F H ρ σ d Q rs e w => ?_⟩
  obtain ⟨d1, d2, h1, h2, h3⟩ := bind2 e
  refine qa F0 B F H ρ σ d1 _ rs h1 fun v F1 H1 fp x1 o nd hf => ?_
  refine qb F0 B F1 H1 ρ σ d2 _ (rs.ext x1) h2 fun v2 F2 H2 x2 l2 => ?_
  cases d1 with
  | lst xs =>
    cases d2 with
    | int j =>
      unfold repD at h3
      dsimp only at h3
      by_cases hz : -1000000 < j ∧ j < 1000000 ∧ xs.length ≤ 16
      · rw [if_pos hz] at h3
        cases h3
        obtain ⟨ad, vs, fr, rfl, rfl, hF, hH, ol⟩ := (o.ext x2).lst_inv
        have hp : Pr (Al X.K ct F2 H2 0) xs vs := ol.pr fun _ _ _ _ q => q.1
        have x12 := x1.trans x2
        refine ⟨ad, j, vs, rfl, l2.int, .inl hH, by omega, by omega, ?_, new_own x2.fh (hp.rep _) fun v F' H' fp x o nd hf => w v F' H' fp (x12.trans x) o nd fun z hz => x12.hh.free (hf z hz)⟩
        rw [← hp.length, sizeLine_eq]
        have h1 : j.toNat ≤ 1000000 := by omega
        have h2 : xs.length * j.toNat ≤ 16 * 1000000 := Nat.mul_le_mul hz.2.2 h1
        omega
      · rw [if_neg hz] at h3; cases h3
    | _ => cases h3
  | _ => cases h3
/-! ### -x, names of the module, copies, slices -/
def negD : D → Option D
  | .int i => some (.int (-i))
  | _ => none
theorem xe_neg (ha : XE X ct ms n a f) : XE X ct ms k (.UnaryOp .USub a pos) (e1 negD f) := by
  refine xe_un un_neg (fun F H x d1 d Q s l e w => ?_) ha
  cases d1 with
  | int i => cases e; exact ⟨i, l.int, w _ F H (.refl s) (Al.of (.int _))⟩
  | _ => cases e
theorem xe_glob {x : Str} {d : D} {u : Value} (hg : Gl X x) (hm : X.mg x = some u) (hs : d.sc = true) (r : RelV d.v u) (hd : (x == ("__debug__" : Str)) = false := by decide) : XE X ct ms n (.Name x pos) (eC d) := by
  refine ⟨_, pe_glob hg hm r hd, fun F0 B F H ρ σ d' Q rs e w => ?_⟩
  cases e
  refine w _ F H (.refl rs.fh) (Al.of ?_)
  cases d with
  | non => exact .non
  | bl b => exact .bl b
  | int b => exact .int b
  | str b => exact .str b
  | _ => cases hs
/-- list(xs) -/
def listD : List D → Option D
  | [.lst ds] => some (.lst ds)
  | [.tup ds] => some (.lst ds)
  | _ => none
theorem opn_list (hn : n ≤ 1) : OpNO K ct [n] 1 (fun xs H Q => ∃ p ys, xs = [.ref p] ∧ (SqL K H p ys ∨ SqT K H p ys) ∧ ∀ l, H l = none → Q (.ref l) (upd H l (.lst ys))) listD := by
  intro F H vs ds d Q s l e w
  cases l with
  | cons h t =>
    cases t
    rename_i d1 v
    cases d1 with
    | lst xs =>
      cases e
      obtain ⟨a, us, rfl, ha, hp⟩ := Al.lst1 hn h s
      exact ⟨a, us, rfl, .inl ha, new_own s hp w⟩
    | tup xs =>
      cases e
      obtain ⟨a, us, rfl, ha, hp⟩ := Al.tup1 hn h s
      exact ⟨a, us, rfl, .inr (SqT.of ha), new_own s hp w⟩
    | _ => cases e
/-- parts of a slice -/
abbrev PF := Env → Option (Option Int)
def pNo : PF := fun _ => some none
def pInt (f : EF) : PF := fun ρ => (f ρ).bind fun d => match d with
  | .int i => some (some i)
  | _ => none
def XP (X : Cx) (ct : Nat → Addr) (ms : List Mo) (e : Option Expr) (f : PF) : Prop := ∃ t, PO X e t ∧ ∀ (F0 B F H : Hp) (ρ : Env) (σ : St) (o : Option Int) (Q : Option Int → Hp → Prop), RS X.K ct F0 B ms F H ρ σ → f ρ = some o → (∀ F' H', Ext F H F' H' → Q o H') → t σ H Q
theorem xp_no : XP X ct ms none pNo := ⟨_, po_none, fun F0 B F H ρ σ o Q rs e w => by cases e; exact w F H (.refl rs.fh)⟩
theorem xp_some (h : XE X ct ms n e f) : XP X ct ms (some e) (pInt f) := by
  obtain ⟨t, pt, qt⟩ := h
  refine ⟨_, po_some pt, fun F0 B F H ρ σ o Q rs e w => ?_⟩
  obtain ⟨d, h1, h2⟩ := bind1 e
  refine qt F0 B F H ρ σ d _ rs h1 fun v F' H' x l => ?_
  cases d with
  | int i => cases h2; exact ⟨i, l.int, w F' H' x⟩
  | _ => cases h2
def cutD (xs : List D) (lo hi : Option Int) : List D := (xs.drop (HT.sIx xs.length 0 lo)).take (HT.sIx xs.length xs.length hi - HT.sIx xs.length 0 lo)
theorem cutD_pr {R : D → V → Prop} {ds : List D} {vs : List V} {lo hi : Option Int} (h : Pr R ds vs) : Pr R (cutD ds lo hi) (cutV vs lo hi) := by
  unfold cutD cutV
  rw [h.length]
  exact (h.drop _).take _
def sliceD (d : D) (lo hi : Option Int) : Option D := match d with
  | .lst xs => some (.lst (cutD xs lo hi))
  | _ => none
theorem xo_slice {lo hi : Option Expr} {pl ph : PF} {p1} (hn : n ≤ 1) (he : XE X ct ms n e f) (hl : XP X ct ms lo pl) (hh : XP X ct ms hi ph) : XO X ct ms 1 (.Subscript e (.Slice lo hi none p1) pos) (fun ρ => (f ρ).bind fun d => (pl ρ).bind fun l => (ph ρ).bind fun h => sliceD d l h) := by
  obtain ⟨t, pt, qt⟩ := he
  obtain ⟨t1, pt1, qt1⟩ := hl
  obtain ⟨t2, pt2, qt2⟩ := hh
  refine ⟨_, pe_slice sl_list pt pt1 pt2, fun F0 B F H ρ σ r Q rs e w => ?_⟩
  obtain ⟨d, l, h1, h2, h3⟩ := bind2 e
  obtain ⟨hh, h4, h5⟩ := bind1 h3
  refine qt F0 B F H ρ σ d _ rs h1 fun v F1 H1 x1 l1 => ?_
  refine qt1 F0 B F1 H1 ρ σ l _ (rs.ext x1) h2 fun F2 H2 x2 => ?_
  refine qt2 F0 B F2 H2 ρ σ hh _ ((rs.ext x1).ext x2) h4 fun F3 H3 x3 => ?_
  cases d with
  | lst xs =>
    cases h5
    have x23 := x2.trans x3
    obtain ⟨a, vs, rfl, ha, hp⟩ := Al.lst1 hn (l1.mono x23.ff x23.hh) x23.fh
    exact ⟨a, vs, rfl, ha, new_own x23.fh (cutD_pr hp) fun v F' H' fp x o nd hf => w v F' H' fp ((x1.trans x23).trans x) o nd fun z hz => (x1.trans x23).hh.free (hf z hz)⟩
  | _ => cases h5
/-! ### int, str, abs, max, min -/
def intB : List D → Option D
  | [.int i] => some (.int i)
  | [.bl b] => some (.int (if b then 1 else 0))
  | _ => none
theorem opn_int : OpN K ct [n] k (fun xs H Q => (∃ i, xs = [.int i] ∧ Q (.int i) H) ∨ ∃ b, xs = [.bl b] ∧ Q (.int (if b then 1 else 0)) H) intB := by
  intro F H vs ds d Q s l e w
  cases l with
  | cons h t =>
    cases t
    rename_i d1 v
    cases d1 with
    | int i => cases e; exact .inl ⟨i, by rw [h.int], w _ F H (.refl s) (Al.of (.int _))⟩
    | bl i => cases e; exact .inr ⟨i, by rw [h.bl], w _ F H (.refl s) (Al.of (.int _))⟩
    | _ => cases e
def absD : List D → Option D
  | [.int i] => some (.int (if i < 0 then -i else i))
  | _ => none
theorem opn_abs : OpN K ct [n] k (fun xs H Q => ∃ i, xs = [.int i] ∧ Q (.int (if i < 0 then -i else i)) H) absD := by
  intro F H vs ds d Q s l e w
  cases l with
  | cons h t =>
    cases t
    rename_i d1 v
    cases d1 with
    | int i => cases e; exact ⟨i, by rw [h.int], w _ F H (.refl s) (Al.of (.int _))⟩
    | _ => cases e
def ii (g : Int → Int → D) : List D → Option D
  | [.int i, .int j] => some (g i j)
  | _ => none
theorem opn_ii {g : Int → Int → D} {gv : Int → Int → V} (hg : ∀ i j F, Dt K ct F (g i j) (gv i j)) : OpN K ct [n, m] k (fun xs H Q => ∃ i j, xs = [.int i, .int j] ∧ Q (gv i j) H) (ii g) := by
  intro F H vs ds d Q s l e w
  cases l with
  | cons h t =>
    cases t with
    | cons h' t =>
      cases t
      rename_i d1 v d2 v2
      cases d1 with
      | int i =>
        cases d2 with
        | int j => cases e; exact ⟨i, j, by rw [h.int, h'.int], w _ F H (.refl s) (Al.of (hg i j F))⟩
        | _ => cases e
      | _ => cases e
def max2D : List D → Option D := ii fun i j => .int (if j > i then j else i)
def min2D : List D → Option D := ii fun i j => .int (if j < i then j else i)
theorem opn_max2 : OpN K ct [n, m] k (fun xs H Q => ∃ i j, xs = [.int i, .int j] ∧ Q (.int (if j > i then j else i)) H) max2D := opn_ii fun _ _ _ => .int _
theorem opn_min2 : OpN K ct [n, m] k (fun xs H Q => ∃ i j, xs = [.int i, .int j] ∧ Q (.int (if j < i then j else i)) H) min2D := opn_ii fun _ _ _ => .int _
/-! ### name op= e -/
def sAug (i : Nat) (o : D → D → Option D) (f : EF) : SF := fun ρ => (eV i ρ).bind fun x => (f ρ).bind fun y => (o x y).bind fun d => some (.nx (ρ.set i (some d)))
def plusI : D → D → Option D := i2 fun i j => .int (i + j)
theorem xs_aug {op : Operator} {i : Nat} {x : Str} {pos' : Pos} {gi : Int → Int → Int} (ho : PIp X op (ipI gi)) (hm : ms[i]? = some (.ow k)) (hN : X.N.Nodup) (hi : X.N[i]? = some x) (hx : Loc X.env.scope x) (he : XE X ct ms n e f) (hf : X.fn x = true ∨ X.env.scope.names.lookup x = some .local := by first | exact .inl rfl | exact .inr rfl | assumption) :
    XS X ct ms rk (.AugAssign (.Name x pos') op e pos) (sAug i (i2 fun i j => .int (gi i j)) f) := by
  obtain ⟨t, pt, qt⟩ := he
  refine ⟨_, ps_aug hN hi hx pt ho hf, fun F0 B F H ρ σ o E rs e z => ?_⟩
  obtain ⟨d1, d2, h1, h2, h3⟩ := bind2 e
  obtain ⟨d, h4, h5⟩ := bind1 h3
  cases h5
  obtain ⟨v, hv, l⟩ := rs.get hm (join_some h1)
  refine ⟨v, hv, qt F0 B F H ρ σ d2 _ rs h2 fun y F' H' x1 l2 => ?_⟩
  cases d1 with
  | int i' =>
    cases d2 with
    | int j' =>
      cases h4
      exact ⟨i', j', l.int, l2.int, z _ F' H' (rs.set hm x1 (Ow.scal (.int _) rfl) List.nodup_nil fun a z => (by cases z))⟩
    | _ => cases h4
  | _ => cases h4
/-! ### a, b = c, d -/
def sPar (i j : Nat) (fs : Env → Option (List D)) : SF := fun ρ => (fs ρ).bind fun ds => match ds with
  | [x, y] => some (.nx ((ρ.set i (some x)).set j (some y)))
  | _ => none
theorem xs_par {i j : Nat} {x y : Str} {fs : Env → Option (List D)} {px py pt : Pos} {kt k2 pt2} (hmi : ms[i]? = some (.ow 0)) (hmj : ms[j]? = some (.ow 0)) (hc : X.calm = true) (hN : X.N.Nodup) (hi : X.N[i]? = some x) (hj : X.N[j]? = some y) (hij : i ≠ j)
    (hx : X.env.scope.names.lookup x = some .local) (hy : X.env.scope.names.lookup y = some .local) (ha : XA X ct ms [a, b] [0, 0] fs)
    (hw : swappedStores [.Tuple [.Name x px, .Name y py] kt pt] (.Tuple [a, b] k2 pt2) X.env = pure (some [x, y]))
    (hs : swapsWithSole [.Tuple [.Name x px, .Name y py] kt pt] (.Tuple [a, b] k2 pt2) pos.line X.env = pure false := by rfl) :
    XS X ct ms rk (.Assign [.Tuple [.Name x px, .Name y py] kt pt] (.Tuple [a, b] k2 pt2) pos) (sPar i j fs) := by
  obtain ⟨t, pt, _, qt⟩ := ha
  refine ⟨_, ps_par hc hN hi hj hij hx hy pt hw hs, fun F0 B F H ρ σ o E rs e z => ?_⟩
  obtain ⟨ds, h1, h2⟩ := bind1 e
  refine qt F0 B F H ρ σ ds _ rs h1 fun vs F' H' x1 l => ?_
  cases l with
  | cons l1 l =>
    cases l with
    | cons l2 l =>
      cases l
      cases h2
      have r1 := rs.set hmi x1 (Ow.zero l1) List.nodup_nil fun a z => (by cases z)
      exact ⟨_, _, rfl, z _ F' H' (r1.set hmj (.refl x1.fh) (Ow.zero l2) List.nodup_nil fun a z => (by cases z))⟩
/-- a target takes a value -/
def sAsg (g : D → Env → Option Env) (f : EF) : SF := fun ρ => (f ρ).bind fun d => (g d ρ).bind fun ρ' => some (.nx ρ')
theorem xs_asg {gg : D → Env → Option Env} (he : XE X ct ms 0 e f) (hg : XG X ct ms 0 tg gg) (hs : swapsWithSole [tg] e pos.line X.env = pure false := by rfl) (hw : swappedStores [tg] e X.env = pure none := by rfl)
    (h1 : (assignEach [tg] X.env).map (·.2) = [assign tg X.env] := by rfl) : XS X ct ms rk (.Assign [tg] e pos) (sAsg gg f) := by
  obtain ⟨t, pt, qt⟩ := he
  obtain ⟨t2, pt2, qt2⟩ := hg
  refine ⟨_, ps_asg pt pt2 hs hw h1, fun F0 B F H ρ σ o E rs e z => ?_⟩
  obtain ⟨d, h1, h2⟩ := bind1 e
  obtain ⟨ρ', h3, h4⟩ := bind1 h2
  cases h4
  exact qt F0 B F H ρ σ d _ rs h1 fun v F' H' x l => qt2 F0 B F' H' ρ ρ' σ d v _ (rs.ext x) l h3 fun σ' r => z σ' F' H' r
end
end L3

/-! ## checks by computation -/
namespace L3
open PySem PySem.Spec L2
open PyProof.Rows hiding St
def modesOk : List Nat → List Mo → Bool
  | [], _ => true
  | n :: ns, .al m :: ms => decide (n = m) && modesOk ns ms
  | n :: ns, .ow m :: ms => decide (n = 0) && decide (m = 0) && modesOk ns ms
  | _, _ => false
theorem modes_of : ∀ {pm : List Nat} {ms : List Mo}, modesOk pm ms = true → ∀ (i n : Nat), pm[i]? = some n → ms[i]? = some (Mo.al n) ∨ (n = 0 ∧ ms[i]? = some (Mo.ow 0))
  | [], _, _, i, n, e => by simp at e
  | x :: ns, .al m :: ms, h, i, n, e => by
    simp only [modesOk, Bool.and_eq_true, decide_eq_true_eq] at h
    cases i with
    | zero => simp at e; subst e; rw [h.1]; exact .inl rfl
    | succ i => simpa using modes_of h.2 i n (by simpa using e)
  | x :: ns, .ow m :: ms, h, i, n, e => by
    simp only [modesOk, Bool.and_eq_true, decide_eq_true_eq] at h
    cases i with
    | zero => simp at e; subst e; rw [h.1.1, h.1.2]; exact .inr ⟨rfl, rfl⟩
    | succ i => simpa using modes_of h.2 i n (by simpa using e)
  | _ :: _, [], h, _, _, _ => by simp [modesOk] at h
  | _ :: _, .px _ :: _, h, _, _, _ => by simp [modesOk] at h
def blkOk (X : Cx) (scope : Scope) (N : List Str) (own : Nat) (cap : List Nat) : Bool :=
  decide (scope.kind = .function) && scope.names.all (fun x => decide (x.2 ≠ .cell) && (decide (x.2 ≠ .local) || decide (scope.names.lookup x.1 = some .local)) && (decide (x.2 ≠ .free) || (decide (X.env.kindOf x.1 = some .cell) || decide (X.env.kindOf x.1 = some .free)))) &&
  decide (N.length = own + cap.length) && (List.range cap.length).all fun j => match N[own + j]?, cap[j]? with
    | some x, some i => decide (X.N[i]? = some x) && decide (scope.names.lookup x = some .free)
    | _, _ => false
theorem blk_of {X : Cx} {scope : Scope} {N : List Str} {own : Nat} {cap : List Nat} (h : blkOk X scope N own cap = true) : BlkOk X scope N own cap := by
  unfold blkOk at h
  simp only [Bool.and_eq_true, decide_eq_true_eq, List.all_eq_true, Bool.or_eq_true] at h
  obtain ⟨⟨⟨h1, h2⟩, h3⟩, h4⟩ := h
  refine ⟨h1, fun x hx => (h2 x hx).1.1, fun x hx hl => ((h2 x hx).1.2).elim (fun z => absurd hl z) id, fun x hx hf => ((h2 x hx).2).elim (fun z => absurd hf z) id, h3, fun j x hj => ?_⟩
  have hjl : j < cap.length := by
    have := (List.getElem?_eq_some_iff.mp hj).1
    omega
  have q := h4 j (List.mem_range.mpr hjl)
  rw [hj] at q
  have hc : cap[j]? = some cap[j] := by simp [hjl]
  rw [hc] at q
  simp only [Bool.and_eq_true, decide_eq_true_eq] at q
  exact ⟨_, hc, q.1, q.2⟩
/-- isinstance by a builtin type -/
def tyD : D → Option String
  | .non => some "NoneType"
  | .bl _ => some "bool"
  | .int _ => some "int"
  | .str _ => some "str"
  | .lst _ => some "list"
  | .tup _ => some "tuple"
  | .dK _ _ => some "dict"
  | _ => none
def tyL (K : PySem.W.Frag) (H : Hp) (v : V) (t : String) : Prop := TyOf K H v (.type t) ∨ (t = "list" ∧ ∃ a xs, v = .ref a ∧ SqL K H a xs)
theorem Al.ty {K : PySem.W.Frag} {ct : Nat → Addr} {F H : Hp} {n : Nat} {d : D} {v : V} {t : String} (s : Same F H) (h : Al K ct F H n d v) (e : tyD d = some t) : tyL K H v t := by
  cases d with
  | non => cases e; rw [h.non]; exact .inl .non
  | bl b => cases e; rw [h.bl]; exact .inl (.bl b)
  | int b => cases e; rw [h.int]; exact .inl (.int b)
  | str b => cases e; rw [h.str]; exact .inl (.str b)
  | lst xs =>
    cases e
    obtain ⟨a, vs, rfl, ha, _⟩ := h.lst s
    exact .inr ⟨rfl, a, vs, rfl, ha⟩
  | tup xs =>
    cases e
    obtain ⟨a, vs, rfl, ha, _⟩ := h.tup s
    exact .inl (.tup ha)
  | dK ks xs =>
    cases e
    obtain ⟨a, vs, rfl, ha, _⟩ := h.dK s
    exact .inl (.dK ha)
  | _ => cases e
theorem call_isiA {X : Cx} : CallR X (.builtin "isinstance") (fun xs H Q => ∃ x c t b, xs = [x, .ty c] ∧ tyL X.K H x t ∧ PySem.W.kitOne X.K (.type t) (.type c) = some b ∧ Q (.bl b) H) := by
  intro pins s σ H xs us Q I r h
  obtain ⟨x, c, t, b, rfl, ty, e, q⟩ := h
  rcases ty with ty | ⟨rfl, a, ys, rfl, hq⟩
  · exact call_isi pins s σ H _ us Q I r ⟨x, c, _, b, rfl, ty, e, q⟩
  · obtain ⟨u, w', rfl, ru, rw'⟩ := vals2 r
    cases (show w' = Value.type c from rw')
    cases (show u = Value.ref a from ru)
    obtain ⟨its, rv, ⟨o, n, h1, h2, _⟩, _⟩ := I.list hq
    exact PySem.W.kia_one PySem.W.kitx_list I.kIn ⟨o, h1, h2⟩ e (fun z => nomatch z) fun tk => ⟨.bl b, H, I.tok tk, rfl, q⟩
def isiT (t c : String) : Bool := t == c || (t == "bool" && c == "int")
theorem kit_one {K : PySem.W.Frag} : ∀ t ∈ (["NoneType", "bool", "int", "str", "list", "tuple", "dict"] : List String), ∀ c ∈ (["bool", "int", "str", "list", "tuple", "dict"] : List String), PySem.W.kitOne K (.type t) (.type c) = some (isiT t c) := by
  intro t ht c hc
  simp only [List.mem_cons, List.not_mem_nil, or_false] at ht hc
  rcases ht with rfl | rfl | rfl | rfl | rfl | rfl | rfl <;> rcases hc with rfl | rfl | rfl | rfl | rfl | rfl <;> rfl
theorem tyD_mem {d : D} {t : String} (e : tyD d = some t) : t ∈ (["NoneType", "bool", "int", "str", "list", "tuple", "dict"] : List String) := by
  cases d <;> simp [tyD] at e <;> subst e <;> decide
section
variable {X : Cx} {ct : Nat → Addr} {ms : List Mo} {rk n m k : Nat} {a b c e tg : Expr} {f g h : EF} {pos : Pos}
def isiD (c : String) (d : D) : Option D := (tyD d).bind fun t => some (.bl (isiT t c))
theorem xe_isi {c : String} {pp p2 : Pos} (hc : c ∈ (["bool", "int", "str", "list", "tuple", "dict"] : List String)) (hm : X.mg "isinstance" = none) (hm2 : X.mg c = none) (hb : bootBuiltins c = some (.type c)) (he : XE X ct ms n e f) (hg : Gl X "isinstance" := by rfl) (hg2 : Gl X c := by rfl) (hn2 : Str.ofString c ≠ "__name__" := by decide) (hd2 : (Str.ofString c == ("__debug__" : Str)) = false := by decide)
    (hs1 : starEach [e, .Name c p2] X.env = (false, eval e X.env) :: starEach [.Name c p2] X.env := by rfl) (hs2 : starEach [.Name c p2] X.env = (false, eval (.Name c p2) X.env) :: starEach [] X.env := by rfl) (hpl : (backTo pos (starEach [.Name c p2] X.env)).any (·.1) = false := by rfl) :
    XE X ct ms k (.Call (.Name "isinstance" pp) [e, .Name c p2] [] pos) (e1 (isiD c) f) := by
  obtain ⟨t, pt, qt⟩ := he
  refine ⟨_, pe_callB call_isiA hg hm bt_isinstance (pa_cons pt (pa_cons (pe_bltn (v := .ty c) hg2 hm2 hb rfl hn2 hd2) pa_nil hs2) hs1) (by decide) (by decide) hs1 hpl, fun F0 B F H ρ σ d Q rs e w => ?_⟩
  obtain ⟨d1, h1, h2⟩ := bind1 e
  obtain ⟨ty, h3, h4⟩ := bind1 h2
  cases h4
  exact qt F0 B F H ρ σ d1 _ rs h1 fun v F' H' x l => ⟨v, c, ty, _, rfl, l.ty x.fh h3, kit_one _ (tyD_mem h3) _ hc, w _ F' H' x (Al.of (.bl _))⟩
end
end L3

/-! ## from data to the law; loops of data -/
namespace L3
open PySem PySem.Spec L2
open PyProof.Rows hiding St
def spLaw (K : PySem.W.Frag) : Sp := fun vs H Q _ => ∃ (a : Addr) (ns : List Int), vs = [.ref a] ∧ SqL K H a (ns.map V.int) ∧ ns.length ≤ 63 ∧ ∀ H', Q (.bl true) H'
theorem Dts.ints {K : PySem.W.Frag} {ct : Nat → Addr} {F : Hp} : ∀ ns : List Int, Dts K ct F (ns.map D.int) (ns.map V.int)
  | [] => .nil
  | n :: ns => .cons (.int n) (Dts.ints ns)
theorem law_ok {P : Program} {w : World} {K : PySem.W.Frag} {mg : Str → Option Value} {base : Heap} {k : Nat} {f : Addr} {fd : FuncData} {ps : List Str} {ct : Nat → Addr} {m : List D → Option D} (Fn : FnOk P w K mg base CX0 k f fd ps (LSp K ct [0] 0 m))
    (h : ∀ ns : List Int, ns.length ≤ 63 → m [.lst (ns.map .int)] = some (.bl true)) : FnOk P w K mg base CX0 k f fd ps (spLaw K) := by
  have to : ∀ vs H Q E, spLaw K vs H Q E → LSp K ct [0] 0 m vs H Q E := by
    rintro vs H Q E ⟨a, ns, rfl, hS, hl, q⟩
    refine ⟨H, [.lst (ns.map .int)], .bl true, .refl _, .cons (Dt.lst hS (Dts.ints ns)) .nil, h ns hl, fun v F' H' fp x o nd hf => ?_⟩
    have hv : v = .bl true := by
      have o : Dt K ct F' (.bl true) v ∧ fp = [] := o
      cases o.1
      rfl
    subst hv
    exact q H'
  exact ⟨fun vs H Q E z => Fn.len vs H Q E (to vs H Q E z), fun A outer s H args us vs Q E hr e0 hb hv z => Fn.run A outer s H args us vs Q E hr e0 hb hv (to vs H Q E z)⟩
/-! ### loops -/
/-- every turn goes on -/
theorem forD_inv' {g : D → Env → Option Env} {b : SF} (I : List D → Env → Prop) (all : List D) (st : ∀ pre d post ρ, all = pre ++ d :: post → I pre ρ → ∃ ρ1 ρ2, g d ρ = some ρ1 ∧ (b ρ1 = some (.nx ρ2) ∨ b ρ1 = some (.ct ρ2)) ∧ I (pre ++ [d]) ρ2) : ∀ (ds pre : List D) (ρ : Env), all = pre ++ ds → I pre ρ →
    ∃ ρ', forD g b ds ρ = some (.nx ρ') ∧ I all ρ'
  | [], pre, ρ, e, h => ⟨ρ, rfl, by rw [e, List.append_nil]; exact h⟩
  | d :: ds, pre, ρ, e, h => by
    obtain ⟨ρ1, ρ2, h1, h2, h3⟩ := st pre d ds ρ e h
    obtain ⟨ρ', h4, h5⟩ := forD_inv' I all st ds (pre ++ [d]) ρ2 (by rw [e]; simp) h3
    refine ⟨ρ', ?_, h5⟩
    show (g d ρ).bind _ = _
    rw [h1]
    show (b ρ1).bind _ = _
    rcases h2 with h2 | h2 <;> (rw [h2]; exact h4)
theorem forD_inv {g : D → Env → Option Env} {b : SF} (I : List D → Env → Prop) {ds : List D} {ρ : Env} (h : I [] ρ) (st : ∀ pre d post ρ, ds = pre ++ d :: post → I pre ρ → ∃ ρ1 ρ2, g d ρ = some ρ1 ∧ (b ρ1 = some (.nx ρ2) ∨ b ρ1 = some (.ct ρ2)) ∧ I (pre ++ [d]) ρ2) :
    ∃ ρ', forD g b ds ρ = some (.nx ρ') ∧ I ds ρ' := forD_inv' I ds st ds [] ρ rfl h
theorem at_mid {α : Type} {all pre post : List α} {d : α} (h : all = pre ++ d :: post) : all[pre.length]? = some d := by subst h; simp
/-- a fold -/
theorem forD_fold {α S : Type} {g : D → Env → Option Env} {b : SF} (enc : α → D) (st : S → Env) (f : S → α → S) (P : S → Prop) : ∀ (xs : List α) (s : S), P s →
    (∀ s x, x ∈ xs → P s → ∃ ρ1, g (enc x) (st s) = some ρ1 ∧ (b ρ1 = some (.nx (st (f s x))) ∨ b ρ1 = some (.ct (st (f s x)))) ∧ P (f s x)) → forD g b (xs.map enc) (st s) = some (.nx (st (xs.foldl f s))) ∧ P (xs.foldl f s)
  | [], s, hp, _ => ⟨rfl, hp⟩
  | x :: xs, s, hp, h => by
    obtain ⟨ρ1, h1, h2, h3⟩ := h s x List.mem_cons_self hp
    have ih := forD_fold enc st f P xs (f s x) h3 fun s y hy => h s y (List.mem_cons_of_mem _ hy)
    refine ⟨?_, ih.2⟩
    show (g (enc x) (st s)).bind _ = _
    rw [h1]
    show (b ρ1).bind _ = _
    rcases h2 with h2 | h2 <;> (rw [h2]; exact ih.1)
/-- the same over 0, 1, .. -/
theorem forD_upto {g : D → Env → Option Env} {b : SF} (I : Nat → Env → Prop) (lo : Int) : ∀ (n k : Nat) (ρ : Env), I k ρ →
    (∀ j ρ, k ≤ j → j < k + n → I j ρ → ∃ ρ1 ρ2, g (.int (lo + (j : Int))) ρ = some ρ1 ∧ (b ρ1 = some (.nx ρ2) ∨ b ρ1 = some (.ct ρ2)) ∧ I (j + 1) ρ2) →
    ∃ ρ', forD g b ((List.range' k n).map fun (t : Nat) => D.int (lo + (t : Int))) ρ = some (.nx ρ') ∧ I (k + n) ρ'
  | 0, k, ρ, h, _ => ⟨ρ, rfl, h⟩
  | n + 1, k, ρ, h, st => by
    obtain ⟨ρ1, ρ2, h1, h2, h3⟩ := st k ρ (Nat.le_refl _) (by omega) h
    obtain ⟨ρ', h4, h5⟩ := forD_upto I lo n (k + 1) ρ2 h3 fun j ρ hj hl hI => st j ρ (by omega) (by omega) hI
    refine ⟨ρ', ?_, by rw [show k + (n + 1) = k + 1 + n by omega]; exact h5⟩
    rw [List.range'_succ, List.map_cons]
    show (g _ ρ).bind _ = _
    rw [h1]
    show (b ρ1).bind _ = _
    rcases h2 with h2 | h2 <;> (rw [h2]; exact h4)
theorem forD_range {g : D → Env → Option Env} {b : SF} (I : Nat → Env → Prop) {lo : Int} {n : Nat} {ρ : Env} (h : I 0 ρ)
    (st : ∀ j ρ, j < n → I j ρ → ∃ ρ1 ρ2, g (.int (lo + (j : Int))) ρ = some ρ1 ∧ (b ρ1 = some (.nx ρ2) ∨ b ρ1 = some (.ct ρ2)) ∧ I (j + 1) ρ2) : ∃ ρ', forD g b (upto lo n) ρ = some (.nx ρ') ∧ I n ρ' := by
  obtain ⟨ρ', h1, h2⟩ := forD_upto (g := g) (b := b) I lo n 0 ρ h fun j ρ _ hj hI => st j ρ (by omega) hI
  rw [Nat.zero_add] at h2
  exact ⟨ρ', by unfold upto; rw [List.range_eq_range']; exact h1, h2⟩
/-- a while by a state and a number that falls -/
theorem whileD_fold {S : Type} {c : BF} {b : SF} (st : S → Env) (t : S → Bool) (f : S → S) (μ : S → Nat) (P : S → Prop) (hc : ∀ s, P s → c (st s) = some (t s)) (hb : ∀ s, P s → t s = true → (b (st s) = some (.nx (st (f s))) ∨ b (st s) = some (.ct (st (f s)))) ∧ P (f s) ∧ μ (f s) < μ s) :
    ∀ (n : Nat) (s : S), P s → μ s < n → ∃ s', whileD c b n (st s) = some (.nx (st s')) ∧ P s' ∧ t s' = false ∧ ∃ j, s' = Nat.repeat f j s
  | 0, s, _, h => absurd h (by omega)
  | n + 1, s, hp, h => by
    cases ht : t s with
    | false =>
      refine ⟨s, ?_, hp, ht, 0, rfl⟩
      show (c (st s)).bind _ = _
      rw [hc s hp, ht]
      rfl
    | true =>
      obtain ⟨h1, h2, h3⟩ := hb s hp ht
      obtain ⟨s', h4, h5, h6, j, h7⟩ := whileD_fold st t f μ P hc hb n (f s) h2 (by omega)
      refine ⟨s', ?_, h5, h6, j + 1, ?_⟩
      · show (c (st s)).bind _ = _
        rw [hc s hp, ht]
        show (b (st s)).bind _ = _
        rcases h1 with h1 | h1 <;> (rw [h1]; exact h4)
      · rw [h7]
        clear h4 h5 h6 h7
        induction j with
        | zero => rfl
        | succ j ih => show f (Nat.repeat f j (f s)) = f (Nat.repeat f (j + 1) s); rw [ih]
/-- a while by what holds -/
theorem whileD_inv {c : BF} {b : SF} (I : Env → Prop) (μ : Env → Nat) (st : ∀ ρ, I ρ → ∃ t, c ρ = some t ∧ (t = true → ∃ ρ', (b ρ = some (.nx ρ') ∨ b ρ = some (.ct ρ')) ∧ I ρ' ∧ μ ρ' < μ ρ)) :
    ∀ (n : Nat) (ρ : Env), I ρ → μ ρ < n → ∃ ρ', whileD c b n ρ = some (.nx ρ') ∧ I ρ' ∧ c ρ' = some false
  | 0, _, _, h => absurd h (by omega)
  | n + 1, ρ, hI, h => by
    obtain ⟨t, h1, h2⟩ := st ρ hI
    cases t with
    | false => exact ⟨ρ, by show (c ρ).bind _ = _; rw [h1]; rfl, hI, h1⟩
    | true =>
      obtain ⟨ρ', h3, h4, h5⟩ := h2 rfl
      obtain ⟨ρ2, h6, h7, h8⟩ := whileD_inv I μ st n ρ' h4 (by omega)
      refine ⟨ρ2, ?_, h7, h8⟩
      show (c ρ).bind _ = _
      rw [h1]
      show (b ρ).bind _ = _
      rcases h3 with h3 | h3 <;> (rw [h3]; exact h6)
theorem fuel_sz {n k : Nat} (h : n < 2 ^ k) (hk : k ≤ 9000) : n < FUEL := Nat.lt_of_lt_of_le h (Nat.pow_le_pow_right (by decide) hk)
theorem fuel_le {n : Nat} (h : n < 1048576) : n < FUEL := fuel_sz (k := 20) h (by decide)
theorem modD_ne {i j : Int} (h : j ≠ 0) : modD (.int i) (.int j) = some (.int (i.fmod j)) := by
  unfold modD
  by_cases h0 : 0 < j
  · simp [h0, Int.fmod_eq_emod_of_nonneg i (by omega : 0 ≤ j)]
  · simp [h0, h]
theorem fdivD_ne {i j : Int} (h : j ≠ 0) (hz : Sz 9000 j) : fdivD (.int i) (.int j) = some (.int (i.fdiv j)) := by
  unfold fdivD
  by_cases h0 : 0 < j ∧ j < 4611686018427387904
  · simp [h0, Int.fdiv_eq_ediv_of_nonneg i (by omega : 0 ≤ j)]
  · have hz : j.natAbs < BIG := hz
    simp [h0, h, hz]
theorem fdivD_lit {i j : Int} (h1 : 0 < j) (h2 : j < 4611686018427387904) : fdivD (.int i) (.int j) = some (.int (i / j)) := by unfold fdivD; simp [h1, h2]
theorem modD_pos {i j : Int} (h : 0 < j) : modD (.int i) (.int j) = some (.int (i % j)) := by unfold modD; simp [h]
theorem mulI_r {i j : Int} (h1 : -18446744073709551616 < j) (h2 : j < 18446744073709551616) : mulI (.int i) (.int j) = some (.int (i * j)) := by simp [mulI, i2c, mulOk, h1, h2]
theorem mulI_l {i j : Int} (h1 : -18446744073709551616 < i) (h2 : i < 18446744073709551616) : mulI (.int i) (.int j) = some (.int (i * j)) := by simp [mulI, i2c, mulOk, h1, h2]
theorem powD_lit {i j : Int} (h1 : 0 ≤ j) (h2 : j ≤ 1000000) (h3 : i.natAbs < 18446744073709551616) : powD (.int i) (.int j) = some (.int (i ^ j.toNat)) := by simp [powD, i2c, powOk, h1, h2, h3]
theorem shlD_lit {i j : Int} (h1 : 0 ≤ j) (h2 : j ≤ 1000000) (h3 : i.natAbs < 18446744073709551616) : shlD (.int i) (.int j) = some (.int (i * 2 ^ j.toNat)) := by simp [shlD, i2c, powOk, h1, h2, h3]
theorem shrD_lit {i j : Int} (h1 : 0 ≤ j) : shrD (.int i) (.int j) = some (.int (i / 2 ^ j.toNat)) := by simp [shrD, i2c, h1]
theorem addD_int (i j : Int) : addD (.int i) (.int j) = some (.int (i + j)) := rfl
theorem addD_lst {xs ys : List D} (h : xs.length + ys.length ≤ 16777216) : addD (.lst xs) (.lst ys) = some (.lst (xs ++ ys)) := by simp [addD, h]
theorem addD_str {x y : Str} (h : x.length + y.length ≤ 16777216) : addD (.str x) (.str y) = some (.str (x ++ y)) := by simp [addD, h]
theorem subD_int (i j : Int) : subD (.int i) (.int j) = some (.int (i - j)) := rfl
theorem ltD_int (i j : Int) : ltD (.int i) (.int j) = some (.bl (decide (i < j))) := rfl
theorem leD_int (i j : Int) : leD (.int i) (.int j) = some (.bl (decide (i ≤ j))) := rfl
theorem gtD_int (i j : Int) : gtD (.int i) (.int j) = some (.bl (decide (j < i))) := rfl
theorem geD_int (i j : Int) : geD (.int i) (.int j) = some (.bl (decide (j ≤ i))) := rfl
theorem negD_int (i : Int) : negD (.int i) = some (.int (-i)) := rfl
theorem lenD_lst (ds : List D) : lenD [.lst ds] = some (.int ds.length) := rfl
theorem lenD_tup (ds : List D) : lenD [.tup ds] = some (.int ds.length) := rfl
theorem absD_int (i : Int) : absD [.int i] = some (.int (if i < 0 then -i else i)) := rfl
theorem max2D_int (i j : Int) : max2D [.int i, .int j] = some (.int (if j > i then j else i)) := rfl
theorem min2D_int (i j : Int) : min2D [.int i, .int j] = some (.int (if j < i then j else i)) := rfl
theorem isD_non (neg : Bool) (d : D) : isD neg d .non = some (.bl (if neg then !d.isN else d.isN)) := by cases d <;> rfl
theorem isD_bl (neg b : Bool) (d : D) : isD neg d (.bl b) = some (.bl (if neg then !d.isB b else d.isB b)) := by cases d <;> rfl
theorem asB_bl (b : Bool) : asB (.bl b) = some b := rfl
theorem asL_lst (ds : List D) : asL (.lst ds) = some ds := rfl
theorem sliceD_lst (ds : List D) (l h : Option Int) : sliceD (.lst ds) l h = some (.lst (cutD ds l h)) := rfl
theorem rng1_int {j : Int} (h1 : -4611686018427387904 ≤ j) (h2 : j < 4611686018427387904) : rng1 [.int j] = some (upto 0 j.toNat) := by simp [rng1, h1, h2]
theorem rng2_int {i j : Int} (h1 : -4611686018427387904 ≤ i) (h2 : i < 4611686018427387904) (h3 : -4611686018427387904 ≤ j) (h4 : j < 4611686018427387904) : rng2 [.int i, .int j] = some (upto i (j - i).toNat) := by simp [rng2, h1, h2, h3, h4]
theorem ixD_lst (ds : List D) (i : Int) : ixD (.lst ds) (.int i) = atI ds i := rfl
theorem ixD_tup (ds : List D) (i : Int) : ixD (.tup ds) (.int i) = atI ds i := rfl
theorem atI_nn {ds : List D} {i : Nat} {d : D} (h : ds[i]? = some d) : atI ds (i : Int) = some d := atI_nat h
theorem atI_map {α : Type} (enc : α → D) {xs : List α} {i : Int} {j : Nat} {x : α} (hi : i = (j : Int) ∨ i = (j : Int) - xs.length) (h : xs[j]? = some x) : atI (xs.map enc) i = some (enc x) := by
  have hj := (List.getElem?_eq_some_iff.mp h).1
  unfold L2.atI L2.ixN
  rw [List.length_map]
  rcases hi with rfl | rfl
  · rw [if_pos (by omega), if_pos (by omega)]
    simp [h]
  · rw [if_neg (by omega), if_pos (by omega)]
    have : ((j : Int) - (xs.length : Int) + (xs.length : Int)).toNat = j := by omega
    simp [this, h]
theorem cutD_take (xs : List D) (k : Nat) : cutD xs none (some (k : Int)) = xs.take k := by
  unfold cutD
  rw [HT.sIx_none, HT.sIx_nat, Nat.sub_zero, List.drop_zero]
  rcases Nat.le_total k xs.length with h | h
  · rw [Nat.min_eq_left h]
  · rw [Nat.min_eq_right h, List.take_of_length_le (Nat.le_refl _), List.take_of_length_le h]
theorem cutD_drop (xs : List D) (k : Nat) : cutD xs (some (k : Int)) none = xs.drop k := by
  unfold cutD
  rw [HT.sIx_none, HT.sIx_nat]
  rcases Nat.le_total k xs.length with h | h
  · rw [Nat.min_eq_left h, List.take_of_length_le (by rw [List.length_drop]; omega)]
  · rw [Nat.min_eq_right h, List.drop_of_length_le (Nat.le_refl _), List.drop_of_length_le h]
    simp
theorem cutD_mid (xs : List D) (k l : Nat) : cutD xs (some (k : Int)) (some (l : Int)) = (xs.drop k).take (l - k) := by
  unfold cutD
  rw [HT.sIx_nat, HT.sIx_nat]
  rcases Nat.le_total k xs.length with h | h
  · rw [Nat.min_eq_left h]
    rcases Nat.le_total l xs.length with g | g
    · rw [Nat.min_eq_left g]
    · rw [Nat.min_eq_right g, List.take_of_length_le (by rw [List.length_drop]; omega), List.take_of_length_le (by rw [List.length_drop]; omega)]
  · rw [Nat.min_eq_right h, List.drop_of_length_le (Nat.le_refl _), List.drop_of_length_le h]
    simp
theorem mulOk_sz {i j : Int} {n m : Nat} (h : Sz n i) (h' : Sz m j) (hn : n ≤ 100000) (hm : m ≤ 100000) : mulOk i j := .inr (.inr ⟨h.mono hn, h'.mono hm⟩)
theorem mulI_sz {i j : Int} {n m : Nat} (h : Sz n i) (h' : Sz m j) (hn : n ≤ 100000) (hm : m ≤ 100000) : mulI (.int i) (.int j) = some (.int (i * j)) := by
  have := mulOk_sz h h' hn hm
  simp [mulI, i2c, this]
/-- a comprehension -/
theorem compD_map {α : Type} {g : D → Env → Option Env} {p : BF} {f : EF} {ρ0 : Env} (enc : α → D) (q : α → Bool) (h : α → D) : ∀ (xs : List α), (∀ x ∈ xs, ∃ ρ1, g (enc x) ρ0 = some ρ1 ∧ p ρ1 = some (q x) ∧ (q x = true → f ρ1 = some (h x))) → compD g p f ρ0 (xs.map enc) = some ((xs.filter q).map h)
  | [], _ => rfl
  | x :: xs, H => by
    obtain ⟨ρ1, h1, h2, h3⟩ := H x List.mem_cons_self
    have ih := compD_map enc q h xs fun y hy => H y (List.mem_cons_of_mem _ hy)
    show (g (enc x) ρ0).bind _ = _
    rw [h1]
    show (p ρ1).bind _ = _
    rw [h2]
    cases hq : q x with
    | false =>
      rw [Option.bind_some, if_neg Bool.false_ne_true, List.filter_cons_of_neg (by rw [hq]; exact Bool.false_ne_true)]
      exact ih
    | true =>
      rw [Option.bind_some, if_pos rfl, h3 hq, List.filter_cons_of_pos hq]
      show (compD g p f ρ0 (xs.map enc)).bind _ = _
      rw [ih]
      rfl
theorem upto_map (lo : Int) (n : Nat) : upto lo n = (List.range n).map fun (t : Nat) => D.int (lo + (t : Int)) := rfl
end L3

/-! ## == of typed data -/
namespace L3
open PySem PySem.Spec L2
structure EncD (α : Type) [DecidableEq α] where
  enc : α → D
  py : α → PyData
  dep : Nat
  is : ∀ x, (enc x).py = some (py x)
  lay : ∀ x, (py x).canLay0 = true
  dp : ∀ x, (py x).depth ≤ dep
  eqv : ∀ x y, PyData.eqv (py x) (py y) = decide (x = y)
section
variable {α β γ δ ε : Type} [DecidableEq α] [DecidableEq β] [DecidableEq γ] [DecidableEq δ] [DecidableEq ε]
theorem EncD.eq (E : EncD α) (h : E.dep ≤ 60) {neg : Bool} (x y : α) : eqD neg (E.enc x) (E.enc y) = some (.bl (if neg then !decide (x = y) else decide (x = y))) := by
  have h1 : pyOk (E.py x) = true := by unfold pyOk; rw [E.lay x, decide_eq_true (Nat.le_trans (E.dp x) h)]; rfl
  have h2 : pyOk (E.py y) = true := by unfold pyOk; rw [E.lay y, decide_eq_true (Nat.le_trans (E.dp y) h)]; rfl
  unfold eqD
  rw [E.is x, E.is y]
  simp only [Option.bind_some]
  rw [if_pos ⟨h1, h2⟩, E.eqv]
def Ei : EncD Int := ⟨.int, .int, 0, fun _ => by simp [D.py], fun _ => rfl, fun _ => by simp [PyData.depth], fun x y => by show (x == y) = _; by_cases h : x = y <;> simp [h]⟩
def Eb : EncD Bool := ⟨.bl, .bool, 0, fun _ => by simp [D.py], fun _ => rfl, fun _ => by simp [PyData.depth], fun x y => by cases x <;> cases y <;> rfl⟩
/-- None or a whole number -/
def encO : Option Int → D
  | none => .non
  | some i => .int i
def pyO : Option Int → PyData
  | none => .none
  | some i => .int i
def Eo : EncD (Option Int) := ⟨encO, pyO, 0, fun x => by cases x <;> simp [encO, pyO, D.py], fun x => by cases x <;> rfl, fun x => by cases x <;> simp [pyO, PyData.depth], fun x y => by
  cases x <;> cases y
  · rfl
  · rfl
  · rfl
  · rename_i a b; show (a == b) = _; by_cases h : a = b <;> simp [h]⟩
theorem pys_map (E : EncD α) : ∀ xs : List α, D.pys (xs.map E.enc) = some (xs.map E.py)
  | [] => by simp [D.pys]
  | x :: xs => by simp [D.pys, E.is x, pys_map E xs]
theorem layAll_map (E : EncD α) : ∀ xs : List α, PyData.canLayAll0 (xs.map E.py) = true
  | [] => by simp [PyData.canLayAll0]
  | x :: xs => by simp [PyData.canLayAll0, E.lay x, layAll_map E xs]
theorem depAll_map (E : EncD α) : ∀ xs : List α, PyData.depthAll (xs.map E.py) ≤ E.dep
  | [] => by simp [PyData.depthAll]
  | x :: xs => by
    have := depAll_map E xs
    have := E.dp x
    simp only [List.map_cons, PyData.depthAll]
    omega
theorem eqvAll_map (E : EncD α) : ∀ xs ys : List α, PyData.eqvAll (xs.map E.py) (ys.map E.py) = decide (xs = ys)
  | [], [] => by simp [PyData.eqvAll]
  | [], _ :: _ => by simp [PyData.eqvAll]
  | _ :: _, [] => by simp [PyData.eqvAll]
  | x :: xs, y :: ys => by
    simp only [List.map_cons, PyData.eqvAll, E.eqv, eqvAll_map E xs ys]
    by_cases h : x = y <;> by_cases g : xs = ys <;> simp [h, g]
def El (E : EncD α) : EncD (List α) := ⟨fun xs => .lst (xs.map E.enc), fun xs => .list (xs.map E.py), E.dep + 1, fun xs => by simp [D.py, pys_map], fun xs => by simp [PyData.canLay0, layAll_map], fun xs => by have := depAll_map E xs; simp only [PyData.depth]; omega, fun xs ys => by simp only [PyData.eqv, eqvAll_map]⟩
def E2 (A : EncD α) (B : EncD β) : EncD (α × β) := ⟨fun p => .tup [A.enc p.1, B.enc p.2], fun p => .tuple [A.py p.1, B.py p.2], max A.dep B.dep + 1, fun p => by simp [D.py, D.pys, A.is, B.is], fun p => by simp [PyData.canLay0, PyData.canLayAll0, A.lay, B.lay],
  fun p => by have := A.dp p.1; have := B.dp p.2; simp only [PyData.depth, PyData.depthAll]; omega, fun p q => by
    simp only [PyData.eqv, PyData.eqvAll, A.eqv, B.eqv]
    obtain ⟨a, b⟩ := p
    obtain ⟨c, d⟩ := q
    by_cases h : a = c <;> by_cases g : b = d <;> simp [h, g]⟩
def E3 (A : EncD α) (B : EncD β) (C : EncD γ) : EncD (α × β × γ) := ⟨fun p => .tup [A.enc p.1, B.enc p.2.1, C.enc p.2.2], fun p => .tuple [A.py p.1, B.py p.2.1, C.py p.2.2], max (max A.dep B.dep) C.dep + 1, fun p => by simp [D.py, D.pys, A.is, B.is, C.is], fun p => by simp [PyData.canLay0, PyData.canLayAll0, A.lay, B.lay, C.lay],
  fun p => by have := A.dp p.1; have := B.dp p.2.1; have := C.dp p.2.2; simp only [PyData.depth, PyData.depthAll]; omega, fun p q => by
    simp only [PyData.eqv, PyData.eqvAll, A.eqv, B.eqv, C.eqv]
    obtain ⟨a, b, c⟩ := p
    obtain ⟨a', b', c'⟩ := q
    by_cases h : a = a' <;> by_cases g : b = b' <;> by_cases k : c = c' <;> simp [h, g, k]⟩
def E4 (A : EncD α) (B : EncD β) (C : EncD γ) (M : EncD δ) : EncD (α × β × γ × δ) := ⟨fun p => .tup [A.enc p.1, B.enc p.2.1, C.enc p.2.2.1, M.enc p.2.2.2], fun p => .tuple [A.py p.1, B.py p.2.1, C.py p.2.2.1, M.py p.2.2.2], max (max A.dep B.dep) (max C.dep M.dep) + 1, fun p => by simp [D.py, D.pys, A.is, B.is, C.is, M.is], fun p => by simp [PyData.canLay0, PyData.canLayAll0, A.lay, B.lay, C.lay, M.lay],
  fun p => by have := A.dp p.1; have := B.dp p.2.1; have := C.dp p.2.2.1; have := M.dp p.2.2.2; simp only [PyData.depth, PyData.depthAll]; omega, fun p q => by
    simp only [PyData.eqv, PyData.eqvAll, A.eqv, B.eqv, C.eqv, M.eqv]
    obtain ⟨a, b, c, d⟩ := p
    obtain ⟨a', b', c', d'⟩ := q
    by_cases h : a = a' <;> by_cases g : b = b' <;> by_cases k : c = c' <;> by_cases l : d = d' <;> simp [h, g, k, l]⟩
end
theorem eqD_int {neg : Bool} (a b : Int) : eqD neg (.int a) (.int b) = some (.bl (if neg then !decide (a = b) else decide (a = b))) := Ei.eq (by decide) a b
theorem eqD_bl {neg : Bool} (a b : Bool) : eqD neg (.bl a) (.bl b) = some (.bl (if neg then !decide (a = b) else decide (a = b))) := Eb.eq (by decide) a b
theorem eqD_opt {neg : Bool} (a b : Option Int) : eqD neg (encO a) (encO b) = some (.bl (if neg then !decide (a = b) else decide (a = b))) := Eo.eq (by decide) a b
end L3

/-! fractions in lowest terms -/
namespace Fq
/-- what the python loop keeps -/
theorem gcd_step (a b : Int) : Int.gcd b (a.fmod b) = Int.gcd a b := by
  rw [Int.fmod_def, Int.gcd_sub_mul_left_right, Int.gcd_comm]
theorem fmod_less (a : Int) {b : Int} (hb : b ≠ 0) : (a.fmod b).natAbs < b.natAbs := by
  rcases Int.lt_or_gt_of_ne hb with h | h
  · have h1 := Int.fmod_lt_of_pos (-a) (b := -b) (by omega)
    have h2 := Int.fmod_nonneg_of_pos (-a) (b := -b) (by omega)
    have e : (-a).fmod (-b) = -(a.fmod b) := Int.neg_fmod_neg ..
    omega
  · have h1 := Int.fmod_lt_of_pos a h
    have h2 := Int.fmod_nonneg_of_pos a h
    omega
theorem gcd_end (a : Int) : (if a < 0 then -a else a) = ((Int.gcd a 0 : Nat) : Int) := by
  rw [Int.gcd_zero_right]
  split <;> omega
/-- the divisor -/
def dv (t b : Int) : Int := if b < 0 then -((Int.gcd t b : Nat) : Int) else ((Int.gcd t b : Nat) : Int)
def mk (t b : Int) : Int × Int := (t.fdiv (dv t b), b.fdiv (dv t b))
structure Low (q : Int × Int) : Prop where
  pos : 1 ≤ q.2
  cop : Int.gcd q.1 q.2 = 1
theorem gcd_pos {t b : Int} (hb : b ≠ 0) : 0 < Int.gcd t b := Int.gcd_pos_of_ne_zero_right t hb
theorem dv_ne {t b : Int} (hb : b ≠ 0) : dv t b ≠ 0 := by
  have := gcd_pos (t := t) hb
  unfold dv; split <;> omega
theorem dv_abs (t b : Int) : (dv t b).natAbs = Int.gcd t b := by
  unfold dv; split <;> omega
theorem dv_le {t b : Int} (hb : b ≠ 0) : (dv t b).natAbs ≤ b.natAbs := by
  rw [dv_abs]
  exact Nat.le_of_dvd (by omega) (Int.natAbs_dvd_natAbs.mpr (Int.gcd_dvd_right t b) |> fun h => by simpa using h)
theorem dv_dvd_left (t b : Int) : dv t b ∣ t := by
  unfold dv; split
  · exact Int.neg_dvd.mpr (Int.gcd_dvd_left t b)
  · exact Int.gcd_dvd_left t b
theorem dv_dvd_right (t b : Int) : dv t b ∣ b := by
  unfold dv; split
  · exact Int.neg_dvd.mpr (Int.gcd_dvd_right t b)
  · exact Int.gcd_dvd_right t b
theorem mk_one (t b : Int) : t = dv t b * (mk t b).1 := by
  show t = dv t b * t.fdiv (dv t b)
  rw [Int.fdiv_eq_ediv_of_dvd (dv_dvd_left t b), Int.mul_ediv_cancel' (dv_dvd_left t b)]
theorem mk_two (t b : Int) : b = dv t b * (mk t b).2 := by
  show b = dv t b * b.fdiv (dv t b)
  rw [Int.fdiv_eq_ediv_of_dvd (dv_dvd_right t b), Int.mul_ediv_cancel' (dv_dvd_right t b)]
theorem mk_low {t b : Int} (hb : b ≠ 0) : Low (mk t b) := by
  have e1 := mk_one t b
  have e2 := mk_two t b
  have hd := dv_ne (t := t) hb
  have hg := gcd_pos (t := t) hb
  constructor
  · have hs : (b < 0 ∧ dv t b < 0) ∨ (0 < b ∧ 0 < dv t b) := by
      unfold dv; split <;> omega
    rcases hs with ⟨h1, h2⟩ | ⟨h1, h2⟩
    · rcases Int.lt_or_le (mk t b).2 1 with h | h
      · have : 0 ≤ dv t b * (mk t b).2 := Int.mul_nonneg_of_nonpos_of_nonpos (by omega) (by omega)
        omega
      · exact h
    · rcases Int.lt_or_le (mk t b).2 1 with h | h
      · have : dv t b * (mk t b).2 ≤ 0 := Int.mul_nonpos_of_nonneg_of_nonpos (by omega) (by omega)
        omega
      · exact h
  · have h : Int.gcd (dv t b * (mk t b).1) (dv t b * (mk t b).2) = Int.gcd t b := by rw [← e1, ← e2]
    rw [Int.gcd_mul_left, dv_abs] at h
    exact Nat.eq_of_mul_eq_mul_left hg (by rw [h, Nat.mul_one])
theorem mk_cross (t b : Int) : (mk t b).1 * b = t * (mk t b).2 := by
  have e1 := mk_one t b
  have e2 := mk_two t b
  generalize (mk t b).1 = x at *
  generalize (mk t b).2 = y at *
  generalize dv t b = d at *
  subst e1
  rw [e2]
  grind
theorem abs_le_mul {d x : Int} (hd : d ≠ 0) : x.natAbs ≤ (d * x).natAbs := by
  rw [Int.natAbs_mul]
  exact Nat.le_mul_of_pos_left _ (by omega)
theorem mk_le_one {t b : Int} (hb : b ≠ 0) : (mk t b).1.natAbs ≤ t.natAbs := by
  have h := abs_le_mul (x := (mk t b).1) (dv_ne (t := t) hb)
  rwa [← mk_one] at h
theorem mk_le_two {t b : Int} (hb : b ≠ 0) : (mk t b).2.natAbs ≤ b.natAbs := by
  have h := abs_le_mul (x := (mk t b).2) (dv_ne (t := t) hb)
  rwa [← mk_two] at h
theorem dvd_of_cop {a b c : Int} (h : a ∣ b * c) (g : Int.gcd b a = 1) : a ∣ c := by
  have h1 : a.natAbs ∣ b.natAbs * c.natAbs := by
    rw [← Int.natAbs_mul]; exact Int.natAbs_dvd_natAbs.mpr h
  have h2 : Nat.Coprime a.natAbs b.natAbs := by
    rw [Nat.coprime_comm]; exact g
  exact Int.natAbs_dvd_natAbs.mp (h2.dvd_of_dvd_mul_left h1)
theorem uniq {p q : Int × Int} (hp : Low p) (hq : Low q) (h : p.1 * q.2 = q.1 * p.2) : p = q := by
  obtain ⟨p1, p2⟩ := p
  obtain ⟨q1, q2⟩ := q
  obtain ⟨a1, a2⟩ := hp
  obtain ⟨b1, b2⟩ := hq
  simp only at *
  have d1 : p2 ∣ q2 := dvd_of_cop (b := p1) ⟨q1, by rw [h, Int.mul_comm]⟩ a2
  have d2 : q2 ∣ p2 := dvd_of_cop (b := q1) ⟨p1, by rw [← h, Int.mul_comm]⟩ b2
  have e : p2 = q2 := Int.dvd_antisymm (by omega) (by omega) d1 d2
  subst e
  have : p1 = q1 := Int.eq_of_mul_eq_mul_right (by omega) h
  rw [this]
/-- made of unlike tops and bottoms -/
theorem mk_same {t b u c : Int} (hb : b ≠ 0) (hc : c ≠ 0) (h : t * c = u * b) : mk t b = mk u c := by
  refine uniq (mk_low hb) (mk_low hc) ?_
  have e1 := mk_cross t b
  have e2 := mk_cross u c
  have k : (b * c) * ((mk t b).1 * (mk u c).2) = (b * c) * ((mk u c).1 * (mk t b).2) := by grind
  exact Int.eq_of_mul_eq_mul_left (Int.mul_ne_zero hb hc) k
theorem mk_self {q : Int × Int} (h : Low q) : mk q.1 q.2 = q :=
  uniq (mk_low (by have := h.pos; omega)) h (mk_cross _ _)
theorem mk_neg {t b : Int} (hb : b ≠ 0) : mk (0 - t) (0 - b) = mk t b := mk_same (by omega) hb (by grind)
def plus (p q : Int × Int) : Int × Int := mk (p.1 * q.2 + q.1 * p.2) (p.2 * q.2)
def scaled (p : Int × Int) (n : Int) : Int × Int := mk (p.1 * n) p.2
def minus (p q : Int × Int) : Int × Int := plus p (scaled q (-1))
def under (p q : Int × Int) : Bool := decide (p.1 * q.2 < q.1 * p.2)
theorem Low.ne {q : Int × Int} (h : Low q) : q.2 ≠ 0 := by have := h.pos; omega
theorem Low.mul_ne {p q : Int × Int} (h : Low p) (h' : Low q) : p.2 * q.2 ≠ 0 := Int.mul_ne_zero h.ne h'.ne
theorem plus_low {p q : Int × Int} (h : Low p) (h' : Low q) : Low (plus p q) := mk_low (h.mul_ne h')
theorem scaled_low {p : Int × Int} (h : Low p) (n : Int) : Low (scaled p n) := mk_low h.ne
theorem minus_low {p q : Int × Int} (h : Low p) (h' : Low q) : Low (minus p q) := plus_low h (scaled_low h' _)
/-- the value of each, by products -/
theorem plus_v (p q : Int × Int) : (plus p q).1 * (p.2 * q.2) = (p.1 * q.2 + q.1 * p.2) * (plus p q).2 := mk_cross _ _
theorem scaled_v (p : Int × Int) (n : Int) : (scaled p n).1 * p.2 = (p.1 * n) * (scaled p n).2 := mk_cross _ _
theorem minus_v {p q : Int × Int} (h' : Low q) : (minus p q).1 * (p.2 * q.2) = (p.1 * q.2 - q.1 * p.2) * (minus p q).2 := by
  have e1 := plus_v p (scaled q (-1))
  have e2 := scaled_v q (-1)
  have hs := (scaled_low h' (-1)).ne
  show (plus p (scaled q (-1))).1 * (p.2 * q.2) = (p.1 * q.2 - q.1 * p.2) * (plus p (scaled q (-1))).2
  have k : (scaled q (-1)).2 * ((plus p (scaled q (-1))).1 * (p.2 * q.2)) = (scaled q (-1)).2 * ((p.1 * q.2 - q.1 * p.2) * (plus p (scaled q (-1))).2) := by grind
  exact Int.eq_of_mul_eq_mul_left hs k
/-- a fraction whose value is top by bottom is the one made of them -/
theorem eq_mk {p : Int × Int} {t b : Int} (h : Low p) (hb : b ≠ 0) (e : p.1 * b = t * p.2) : p = mk t b := by
  rw [← mk_self h]
  exact mk_same h.ne hb e
theorem minus_mk {p q : Int × Int} (h : Low p) (h' : Low q) : minus p q = mk (p.1 * q.2 - q.1 * p.2) (p.2 * q.2) := eq_mk (minus_low h h') (h.mul_ne h') (minus_v h')
theorem plus_comm (p q : Int × Int) : plus q p = plus p q := by
  unfold plus; congr 1 <;> grind
theorem minus_turned {p q : Int × Int} (h : Low p) (h' : Low q) : (0 - (minus q p).1, (minus q p).2) = minus p q := by
  have l := minus_low h' h
  have v := minus_v (p := q) h
  refine (eq_mk (p := (0 - (minus q p).1, (minus q p).2)) ⟨l.pos, ?_⟩ (h.mul_ne h') ?_).trans (minus_mk h h').symm
  · show Int.gcd (0 - (minus q p).1) (minus q p).2 = 1
    rw [Int.zero_sub, Int.neg_gcd]; exact l.cop
  · show (0 - (minus q p).1) * (p.2 * q.2) = (p.1 * q.2 - q.1 * p.2) * (minus q p).2
    grind
theorem plus_assoc {p q r : Int × Int} (hp : Low p) (hq : Low q) (hr : Low r) : plus (plus p q) r = plus p (plus q r) := by
  have v1 := plus_v p q
  have v2 := plus_v (plus p q) r
  have v3 := plus_v q r
  have v4 := plus_v p (plus q r)
  have l1 := plus_low hp hq
  have l2 := plus_low hq hr
  refine uniq (plus_low l1 hr) (plus_low hp l2) ?_
  generalize (plus (plus p q) r).1 = a1 at *
  generalize (plus (plus p q) r).2 = a2 at *
  generalize (plus p (plus q r)).1 = b1 at *
  generalize (plus p (plus q r)).2 = b2 at *
  have n1 := l1.ne
  have n2 := l2.ne
  generalize (plus p q).1 = c1 at *
  generalize (plus p q).2 = c2 at *
  generalize (plus q r).1 = d1 at *
  generalize (plus q r).2 = d2 at *
  have np := hp.ne
  have nq := hq.ne
  have nr := hr.ne
  have k1 : a1 * (p.2 * q.2 * r.2) = (p.1 * q.2 * r.2 + q.1 * p.2 * r.2 + r.1 * p.2 * q.2) * a2 := by
    have : c2 * (a1 * (p.2 * q.2 * r.2)) = c2 * ((p.1 * q.2 * r.2 + q.1 * p.2 * r.2 + r.1 * p.2 * q.2) * a2) := by grind
    exact Int.eq_of_mul_eq_mul_left n1 this
  have k2 : b1 * (p.2 * q.2 * r.2) = (p.1 * q.2 * r.2 + q.1 * p.2 * r.2 + r.1 * p.2 * q.2) * b2 := by
    have : d2 * (b1 * (p.2 * q.2 * r.2)) = d2 * ((p.1 * q.2 * r.2 + q.1 * p.2 * r.2 + r.1 * p.2 * q.2) * b2) := by grind
    exact Int.eq_of_mul_eq_mul_left n2 this
  have nn : p.2 * q.2 * r.2 ≠ 0 := Int.mul_ne_zero (Int.mul_ne_zero np nq) nr
  have : (p.2 * q.2 * r.2) * (a1 * b2) = (p.2 * q.2 * r.2) * (b1 * a2) := by grind
  exact Int.eq_of_mul_eq_mul_left nn this
theorem lt_congr {n d m e n' d' m' e' : Int} (hd : 0 < d) (he : 0 < e) (hd' : 0 < d') (he' : 0 < e') (h : n * e = m * d) (h' : n' * e' = m' * d') : (n * d' < n' * d ↔ m * e' < m' * e) := by
  have p1 : 0 < e * e' := Int.mul_pos he he'
  have p2 : 0 < d * d' := Int.mul_pos hd hd'
  have k : (e * e') * (n' * d - n * d') = (d * d') * (m' * e - m * e') := by grind
  constructor
  · intro q
    have : 0 < (d * d') * (m' * e - m * e') := by rw [← k]; exact Int.mul_pos p1 (by omega)
    have := Int.pos_of_mul_pos_right this (by omega)
    omega
  · intro q
    have : 0 < (e * e') * (n' * d - n * d') := by rw [k]; exact Int.mul_pos p2 (by omega)
    have := Int.pos_of_mul_pos_right this (by omega)
    omega
/-- equal by values -/
theorem eq_of_v {p q : Int × Int} {n d : Int} (hp : Low p) (hq : Low q) (hd : d ≠ 0) (h1 : p.1 * d = n * p.2) (h2 : q.1 * d = n * q.2) : p = q :=
  (eq_mk hp hd h1).trans (eq_mk hq hd h2).symm
theorem minus_plus {x y : Int × Int} (hx : Low x) (hy : Low y) : minus (plus x y) y = x := by
  have lp := plus_low hx hy
  have v1 := plus_v x y
  have v2 := minus_v (p := plus x y) hy
  have lm := minus_low lp hy
  refine uniq lm hx ?_
  have n1 := lp.ne
  have n2 := hy.ne
  have n3 := hx.ne
  generalize (minus (plus x y) y).1 = a1 at *
  generalize (minus (plus x y) y).2 = a2 at *
  generalize (plus x y).1 = c1 at *
  generalize (plus x y).2 = c2 at *
  have nn : (c2 * y.2) * y.2 ≠ 0 := Int.mul_ne_zero (Int.mul_ne_zero n1 n2) n2
  have k : ((c2 * y.2) * y.2) * (a1 * x.2) = ((c2 * y.2) * y.2) * (x.1 * a2) := by grind
  exact Int.eq_of_mul_eq_mul_left nn k
theorem plus_minus {x y : Int × Int} (hx : Low x) (hy : Low y) : plus (minus x y) y = x := by
  have lp := minus_low hx hy
  have v1 := minus_v (p := x) hy
  have v2 := plus_v (minus x y) y
  refine uniq (plus_low lp hy) hx ?_
  have n1 := lp.ne
  have n2 := hy.ne
  have n3 := hx.ne
  generalize (plus (minus x y) y).1 = a1 at *
  generalize (plus (minus x y) y).2 = a2 at *
  generalize (minus x y).1 = c1 at *
  generalize (minus x y).2 = c2 at *
  have nn : (c2 * y.2) * y.2 ≠ 0 := Int.mul_ne_zero (Int.mul_ne_zero n1 n2) n2
  have k : ((c2 * y.2) * y.2) * (a1 * x.2) = ((c2 * y.2) * y.2) * (x.1 * a2) := by grind
  exact Int.eq_of_mul_eq_mul_left nn k
theorem scaled_add {x : Int × Int} (hx : Low x) (s m : Int) : scaled x (s + m) = plus (scaled x s) (scaled x m) := by
  have l1 := scaled_low hx s
  have l2 := scaled_low hx m
  have v0 := scaled_v x (s + m)
  have v1 := scaled_v x s
  have v2 := scaled_v x m
  have v3 := plus_v (scaled x s) (scaled x m)
  refine uniq (scaled_low hx _) (plus_low l1 l2) ?_
  have n1 := l1.ne
  have n2 := l2.ne
  have n3 := hx.ne
  generalize (plus (scaled x s) (scaled x m)).1 = a1 at *
  generalize (plus (scaled x s) (scaled x m)).2 = a2 at *
  generalize (scaled x s).1 = c1 at *
  generalize (scaled x s).2 = c2 at *
  generalize (scaled x m).1 = d1 at *
  generalize (scaled x m).2 = d2 at *
  generalize (scaled x (s + m)).1 = e1 at *
  generalize (scaled x (s + m)).2 = e2 at *
  have nn : (c2 * d2) * x.2 ≠ 0 := Int.mul_ne_zero (Int.mul_ne_zero n1 n2) n3
  have k : ((c2 * d2) * x.2) * (e1 * a2) = ((c2 * d2) * x.2) * (a1 * e2) := by grind
  exact Int.eq_of_mul_eq_mul_left nn k
theorem scaled_plus {x y : Int × Int} (hx : Low x) (hy : Low y) (s : Int) : scaled (plus x y) s = plus (scaled x s) (scaled y s) := by
  have l0 := plus_low hx hy
  have l1 := scaled_low hx s
  have l2 := scaled_low hy s
  have v0 := scaled_v (plus x y) s
  have v4 := plus_v x y
  have v1 := scaled_v x s
  have v2 := scaled_v y s
  have v3 := plus_v (scaled x s) (scaled y s)
  refine uniq (scaled_low l0 _) (plus_low l1 l2) ?_
  have n0 := l0.ne
  have n1 := l1.ne
  have n2 := l2.ne
  have n3 := hx.ne
  have n4 := hy.ne
  generalize (scaled (plus x y) s).1 = e1 at *
  generalize (scaled (plus x y) s).2 = e2 at *
  generalize (plus x y).1 = f1 at *
  generalize (plus x y).2 = f2 at *
  generalize (plus (scaled x s) (scaled y s)).1 = a1 at *
  generalize (plus (scaled x s) (scaled y s)).2 = a2 at *
  generalize (scaled x s).1 = c1 at *
  generalize (scaled x s).2 = c2 at *
  generalize (scaled y s).1 = d1 at *
  generalize (scaled y s).2 = d2 at *
  have k1 : e1 * (x.2 * y.2) = ((x.1 * y.2 + y.1 * x.2) * s) * e2 := by
    have : f2 * (e1 * (x.2 * y.2)) = f2 * (((x.1 * y.2 + y.1 * x.2) * s) * e2) := by grind
    exact Int.eq_of_mul_eq_mul_left n0 this
  have k2 : a1 * (x.2 * y.2) = ((x.1 * y.2 + y.1 * x.2) * s) * a2 := by
    have : (c2 * d2) * (a1 * (x.2 * y.2)) = (c2 * d2) * (((x.1 * y.2 + y.1 * x.2) * s) * a2) := by grind
    exact Int.eq_of_mul_eq_mul_left (Int.mul_ne_zero n1 n2) this
  have nn : x.2 * y.2 ≠ 0 := Int.mul_ne_zero n3 n4
  have k : (x.2 * y.2) * (e1 * a2) = (x.2 * y.2) * (a1 * e2) := by grind
  exact Int.eq_of_mul_eq_mul_left nn k
theorem Low.gt {q : Int × Int} (h : Low q) : 0 < q.2 := by have := h.pos; omega
theorem under_iff (p q : Int × Int) : under p q = true ↔ p.1 * q.2 < q.1 * p.2 := decide_eq_true_iff
theorem under_plus {x y z : Int × Int} (hx : Low x) (hy : Low y) (hz : Low z) : under x y = under (plus x z) (plus y z) := by
  have l1 := plus_low hx hz
  have l2 := plus_low hy hz
  have v1 := plus_v x z
  have v2 := plus_v y z
  have k := lt_congr l1.gt (Int.mul_pos hx.gt hz.gt) l2.gt (Int.mul_pos hy.gt hz.gt) v1 v2
  have p : 0 < z.2 * z.2 := Int.mul_pos hz.gt hz.gt
  have e : (z.2 * z.2) * (y.1 * x.2 - x.1 * y.2) = (y.1 * z.2 + z.1 * y.2) * (x.2 * z.2) - (x.1 * z.2 + z.1 * x.2) * (y.2 * z.2) := by grind
  have q : (x.1 * y.2 < y.1 * x.2) ↔ (plus x z).1 * (plus y z).2 < (plus y z).1 * (plus x z).2 := by
    rw [k]
    constructor
    · intro h
      have := Int.mul_pos p (show 0 < y.1 * x.2 - x.1 * y.2 by omega)
      omega
    · intro h
      have h' : 0 < (z.2 * z.2) * (y.1 * x.2 - x.1 * y.2) := by omega
      have := Int.pos_of_mul_pos_right h' (by omega)
      omega
  unfold under
  exact decide_eq_decide.mpr q
theorem under_trans {x y z : Int × Int} (hx : Low x) (hy : Low y) (hz : Low z) (h : under x y = true) (h' : under y z = true) : under x z = true := by
  rw [under_iff] at *
  have a1 := hx.gt
  have a2 := hy.gt
  have a3 := hz.gt
  have b1 := Int.mul_lt_mul_of_pos_right h a3
  have b2 := Int.mul_lt_mul_of_pos_right h' a1
  have e : (z.1 * x.2 - x.1 * z.2) * y.2 = (z.1 * y.2 * x.2 - y.1 * z.2 * x.2) + (y.1 * x.2 * z.2 - x.1 * y.2 * z.2) := by grind
  have : 0 < (z.1 * x.2 - x.1 * z.2) * y.2 := by omega
  have := Int.pos_of_mul_pos_left this (by omega)
  omega
theorem under_irrefl (x : Int × Int) : under x x = false := decide_eq_false (by omega)
theorem under_total {x y : Int × Int} (hx : Low x) (hy : Low y) (h : x ≠ y) : under x y = !under y x := by
  have n : x.1 * y.2 ≠ y.1 * x.2 := fun e => h (uniq hx hy e)
  unfold under
  by_cases q : x.1 * y.2 < y.1 * x.2
  · rw [decide_eq_true q, decide_eq_false (by omega)]; rfl
  · rw [decide_eq_false q, decide_eq_true (by omega)]; rfl
theorem minus_self {x : Int × Int} (hx : Low x) : minus x x = (0, 1) := by
  refine uniq (minus_low hx hx) ⟨by decide, by decide⟩ ?_
  have v := minus_v (p := x) hx
  have z : (minus x x).1 * (x.2 * x.2) = 0 := by rw [v]; grind
  have : (minus x x).1 = 0 := by
    rcases Int.mul_eq_zero.mp z with q | q
    · exact q
    · exact absurd q (Int.mul_ne_zero hx.ne hx.ne)
  rw [this]; simp
theorem scaled_one {x : Int × Int} (hx : Low x) : scaled x 1 = x := by
  unfold scaled
  rw [Int.mul_one]
  exact mk_self hx
end Fq

set_option maxHeartbeats 4000000
namespace My
open PySem L2 L3
def top (i : Nat) : Stmt := PySem.Challenge.pw_ringbeat_k03_fractions_in_order.main.body.getD i (.Pass ⟨0, 0, 0, 0⟩)
abbrev s_under : Stmt := top 1
abbrev s_law_shared : Stmt := top 3
abbrev s_law_lowest : Stmt := top 4
abbrev s_law_fraction : Stmt := top 5
abbrev s_law_some : Stmt := top 6
abbrev s_law : Stmt := top 7
theorem sc_under : FnScope ["one", "other"] ["one", "other"] (defScope s_under) := ⟨rfl, rfl, rfl, by decide +kernel, rfl, by decide +kernel, by decide +kernel⟩
theorem sc_law_shared : FnScope ["_law_one", "_law_other"] ["_law_one", "_law_other"] (defScope s_law_shared) := ⟨rfl, rfl, rfl, by decide +kernel, rfl, by decide +kernel, by decide +kernel⟩
theorem sc_law_lowest : FnScope ["_law_top", "_law_bottom", "_law_part"] ["_law_top", "_law_bottom"] (defScope s_law_lowest) := ⟨rfl, rfl, rfl, by decide +kernel, rfl, by decide +kernel, by decide +kernel⟩
theorem sc_law_fraction : FnScope ["_law_cell", "_law_wide", "_law_top"] ["_law_cell"] (defScope s_law_fraction) := ⟨rfl, rfl, rfl, by decide +kernel, rfl, by decide +kernel, by decide +kernel⟩
theorem sc_law_some : FnScope ["_law_cells", "_law_some_here", "_law_k", "_law_cell", "_law_top", "_law_bottom", "_law_many"] ["_law_cells"] (defScope s_law_some) := ⟨rfl, rfl, rfl, by decide +kernel, rfl, by decide +kernel, by decide +kernel⟩
theorem sc_law : FnScope ["_law_script", "_law_some_here", "_law_k", "_law_one", "_law_other", "_law_found"] ["_law_script"] (defScope s_law) := ⟨rfl, rfl, rfl, by decide +kernel, rfl, by decide +kernel, by decide +kernel⟩
structure Adr where
  f_under : Addr
  d_under : FuncData
  f_law_shared : Addr
  d_law_shared : FuncData
  f_law_lowest : Addr
  d_law_lowest : FuncData
  f_law_fraction : Addr
  d_law_fraction : FuncData
  f_law_some : Addr
  d_law_some : FuncData
  f_law : Addr
  d_law : FuncData
structure Txt (K : PySem.W.Frag) (mg : Str → Option Value) (a : Adr) : Prop where
  under : Dn K mg "under" s_under ["one", "other"] a.f_under a.d_under
  law_shared : Dn K mg "_law_shared" s_law_shared ["_law_one", "_law_other"] a.f_law_shared a.d_law_shared
  law_lowest : Dn K mg "_law_lowest" s_law_lowest ["_law_top", "_law_bottom"] a.f_law_lowest a.d_law_lowest
  law_fraction : Dn K mg "_law_fraction" s_law_fraction ["_law_cell"] a.f_law_fraction a.d_law_fraction
  law_some : Dn K mg "_law_some" s_law_some ["_law_cells"] a.f_law_some a.d_law_some
  law : Dn K mg "law" s_law ["_law_script"] a.f_law a.d_law
  b_abs : mg "abs" = none
  b_enumerate : mg "enumerate" = none
  b_len : mg "len" = none
  b_range : mg "range" = none
section
variable {P : Program} {w : World} {K : PySem.W.Frag} {mg : Str → Option Value} {base : Heap} {a : Adr} {ct : Nat → Addr}
def m_under : List D → Option D := mOf ["one", "other"]
    (sRet (e2 ltD (e2 mulI (e2 ixD (eV 0) (eC (.int 0))) (e2 ixD (eV 1) (eC (.int 1)))) (e2 mulI (e2 ixD (eV 1) (eC (.int 0))) (e2 ixD (eV 0) (eC (.int 1))))))
theorem ok_under (T : Txt K mg a) : FnOk P w K mg base CX0 1 a.f_under a.d_under ["one", "other"] (LSp K ct [0, 0] 0 m_under) := by
  refine lift (ms := [.ow 0, .ow 0]) T.under.fn sc_under rfl rfl (by decide) (modes_of (by decide)) fun cdv A outer s H E hr => ?_
  exact (xss_one (xs_ret (XE.ow (xe_cmp (k := 0) op_lt op2_lt (xe_op (k := 0) op_mulS op2_mulI (xe_ix (n := 0) ix_seq op2_ix (xe_var 0 0) (xe_int (n := 0)) (fun _ _ => rfl)) (xe_ix (n := 0) ix_seq op2_ix (xe_var 1 0) (xe_int (n := 0)) (fun _ _ => rfl))) (xe_op (k := 0) op_mulS op2_mulI (xe_ix (n := 0) ix_seq op2_ix (xe_var 1 0) (xe_int (n := 0)) (fun _ _ => rfl)) (xe_ix (n := 0) ix_seq op2_ix (xe_var 0 0) (xe_int (n := 0)) (fun _ _ => rfl))) (nomark _)))))
def b_law_shared_1 : SF := (sPar 0 1 (aCons (eV 1) (aCons (e2 modD (eV 0) (eV 1)) aNil)))
def m_law_shared : List D → Option D := mOf ["_law_one", "_law_other"]
    (sSeq (sWhile (tb (e2 (eqD true) (eV 1) (eC (.int 0)))) b_law_shared_1)
    (sRet (eN absD (aCons (eV 0) aNil))))
theorem ok_law_shared (T : Txt K mg a) : FnOk P w K mg base CX0 1 a.f_law_shared a.d_law_shared ["_law_one", "_law_other"] (LSp K ct [0, 0] 0 m_law_shared) := by
  refine lift (ms := [.ow 0, .ow 0]) T.law_shared.fn sc_law_shared rfl rfl (by decide) (modes_of (by decide)) fun cdv A outer s H E hr => ?_
  exact (xss_cons (xs_while (xt_cmp (k := 0) (op_neD hr.u64) op2_eq (xe_var 1 0) (xe_int (n := 0)) (nomark _)) (xss_one (xs_par rfl rfl rfl sc_law_shared.nd rfl rfl (by decide) rfl rfl (xa_cons (xe_var 1 0) (xa_cons (xe_op (k := 0) op_modN op2_mod (xe_var 0 0) (xe_var 1 0)) xa_nil)) rfl)) PassesOwn.never)
    (xss_one (xs_ret (XE.ow (xe_callB (k := 0) call_abs opn_abs rfl T.b_abs bt_abs (xa_cons (xe_var 0 0) xa_nil))))))
def m_law_lowest : List D → Option D := mOf ["_law_top", "_law_bottom", "_law_part"]
    (sSeq (sSet 2 (fun ρ => ((aCons (eV 0) (aCons (eV 1) aNil)) ρ).bind fun ds => m_law_shared (ds ++ [])))
    (sRet (fun ρ => ((aCons (e2 fdivD (eV 0) (eV 2)) (aCons (e2 fdivD (eV 1) (eV 2)) aNil)) ρ).bind fun ds => some (.tup ds))))
theorem ok_law_lowest (T : Txt K mg a) : FnOk P w K mg base CX0 2 a.f_law_lowest a.d_law_lowest ["_law_top", "_law_bottom"] (LSp K ct [0, 0] 0 m_law_lowest) := by
  have G_law_shared := ok_law_shared (P := P) (w := w) (base := base) (ct := ct) T
  refine lift (ms := [.ow 0, .ow 0, .ow 0]) T.law_lowest.fn sc_law_lowest rfl rfl (by decide) (modes_of (by decide)) fun cdv A outer s H E hr => ?_
  exact (xss_cons (xs_set rfl sc_law_lowest.nd rfl (Or.inl rfl) (xo_call (dds := []) (ns := [0, 0]) (nd := []) G_law_shared (hr.mono (by decide)) rfl T.law_shared.mgx T.law_shared.fn.kp T.law_shared.bd .nil (fun _ _ => .nil) (xa_cons (xe_var 0 0) (xa_cons (xe_var 1 0) xa_nil))))
    (xss_one (xs_ret (XE.ow (XO.sh (n := 0) (xo_tup (xao_cons (XE.ow (xe_op (k := 0) op_fdivS op2_fdiv (xe_var 0 0) (xe_var 2 0))) (xao_cons (XE.ow (xe_op (k := 0) op_fdivS op2_fdiv (xe_var 1 0) (xe_var 2 0))) xao_nil))))))))
def m_law_fraction : List D → Option D := mOf ["_law_cell", "_law_wide", "_law_top"]
    (sSeq (sSet 1 (e2 ixD (fun ρ => ((aCons (eC (.int 13)) (aCons (eC (.int 1000003)) (aCons (e2 powD (eC (.int 10)) (eC (.int 56))) aNil))) ρ).bind fun ds => some (.lst ds)) (e2 modD (eV 0) (eC (.int 3)))))
    (sSeq (sIf (tb (e2 geD (eV 0) (e2 shlD (eC (.int 1)) (eC (.int 90))))) (sRet (fun ρ => ((aCons (e2 subD (e2 modD (e2 fdivD (eV 0) (eC (.int 3))) (e2 addD (e2 mulI (eC (.int 2)) (eV 1)) (eC (.int 1)))) (eV 1)) (aCons (e2 addD (eC (.int 1)) (e2 modD (e2 fdivD (e2 fdivD (eV 0) (eC (.int 3))) (e2 addD (e2 mulI (eC (.int 2)) (eV 1)) (eC (.int 1)))) (eV 1))) aNil)) ρ).bind fun ds => m_law_lowest (ds ++ []))) sSkip)
    (sSeq (sSet 2 (e2 subD (e2 modD (e2 mulI (e2 fdivD (eV 0) (eC (.int 3))) (eC (.int 16807))) (e2 addD (e2 mulI (eC (.int 2)) (eV 1)) (eC (.int 1)))) (eV 1)))
    (sRet (fun ρ => ((aCons (eV 2) (aCons (e2 addD (eC (.int 1)) (e2 modD (e2 mulI (e2 fdivD (eV 0) (eC (.int 5))) (eC (.int 48271))) (eV 1))) aNil)) ρ).bind fun ds => m_law_lowest (ds ++ []))))))
theorem ok_law_fraction (T : Txt K mg a) : FnOk P w K mg base CX0 3 a.f_law_fraction a.d_law_fraction ["_law_cell"] (LSp K ct [0] 0 m_law_fraction) := by
  have G_law_lowest := ok_law_lowest (P := P) (w := w) (base := base) (ct := ct) T
  refine lift (ms := [.ow 0, .ow 0, .ow 0]) T.law_fraction.fn sc_law_fraction rfl rfl (by decide) (modes_of (by decide)) fun cdv A outer s H E hr => ?_
  exact (xss_cons (xs_set rfl sc_law_fraction.nd rfl (Or.inl rfl) (XE.ow (xe_ix (n := 0) ix_seq op2_ix (XO.sh (n := 0) (xo_lst (xao_cons (XE.ow (xe_int (n := 0))) (xao_cons (XE.ow (xe_int (n := 0))) (xao_cons (XE.ow (xe_op (k := 0) op_pow op2_pow (xe_int (n := 0)) (xe_int (n := 0)))) xao_nil))))) (xe_op (k := 0) op_modN op2_mod (xe_var 0 0) (xe_int (n := 0))) (fun _ _ => rfl))))
    (xss_cons (xs_if (xt_cmp (k := 0) op_ge op2_ge (xe_var 0 0) (xe_op (k := 0) op_shl op2_shl (xe_int (n := 0)) (xe_int (n := 0))) (nomark _)) (xss_one (xs_ret (xo_call (dds := []) (ns := [0, 0]) (nd := []) G_law_lowest (hr.mono (by decide)) rfl T.law_lowest.mgx T.law_lowest.fn.kp T.law_lowest.bd .nil (fun _ _ => .nil) (xa_cons (xe_op (k := 0) op_sub op2_sub (xe_op (k := 0) op_modN op2_mod (xe_op (k := 0) op_fdivS op2_fdiv (xe_var 0 0) (xe_int (n := 0))) (XO.sh (n := 0) (xo_op op_addA (op2_add (n := 0) (m := 0) (by decide) (by decide)) (xe_op (k := 0) op_mulS op2_mulI (xe_int (n := 0)) (xe_var 1 0)) (xe_int (n := 0))))) (xe_var 1 0)) (xa_cons (XO.sh (n := 0) (xo_op op_addA (op2_add (n := 0) (m := 0) (by decide) (by decide)) (xe_int (n := 0)) (xe_op (k := 0) op_modN op2_mod (xe_op (k := 0) op_fdivS op2_fdiv (xe_op (k := 0) op_fdivS op2_fdiv (xe_var 0 0) (xe_int (n := 0))) (XO.sh (n := 0) (xo_op op_addA (op2_add (n := 0) (m := 0) (by decide) (by decide)) (xe_op (k := 0) op_mulS op2_mulI (xe_int (n := 0)) (xe_var 1 0)) (xe_int (n := 0))))) (xe_var 1 0)))) xa_nil))))) xss_nil)
    (xss_cons (xs_set rfl sc_law_fraction.nd rfl (Or.inl rfl) (XE.ow (xe_op (k := 0) op_sub op2_sub (xe_op (k := 0) op_modN op2_mod (xe_op (k := 0) op_mulS op2_mulI (xe_op (k := 0) op_fdivS op2_fdiv (xe_var 0 0) (xe_int (n := 0))) (xe_int (n := 0))) (XO.sh (n := 0) (xo_op op_addA (op2_add (n := 0) (m := 0) (by decide) (by decide)) (xe_op (k := 0) op_mulS op2_mulI (xe_int (n := 0)) (xe_var 1 0)) (xe_int (n := 0))))) (xe_var 1 0))))
    (xss_one (xs_ret (xo_call (dds := []) (ns := [0, 0]) (nd := []) G_law_lowest (hr.mono (by decide)) rfl T.law_lowest.mgx T.law_lowest.fn.kp T.law_lowest.bd .nil (fun _ _ => .nil) (xa_cons (xe_var 2 0) (xa_cons (XO.sh (n := 0) (xo_op op_addA (op2_add (n := 0) (m := 0) (by decide) (by decide)) (xe_int (n := 0)) (xe_op (k := 0) op_modN op2_mod (xe_op (k := 0) op_mulS op2_mulI (xe_op (k := 0) op_fdivS op2_fdiv (xe_var 0 0) (xe_int (n := 0))) (xe_int (n := 0))) (xe_var 1 0)))) xa_nil))))))))
def b_law_some_1 : SF := (sIf (tb (e2 (eqD false) (e2 modD (eV 2) (eC (.int 3))) (eC (.int 2)))) (sSeq (sAsg (gT (gsCons (gV 4) (gsCons (gV 5) gsNil))) (e2 ixD (eV 1) (e1 negD (eC (.int 1)))))
    (sSeq (sSet 6 (e2 addD (eC (.int 1)) (e2 modD (e2 fdivD (eV 3) (eC (.int 3))) (eC (.int 999)))))
    (sApp 1 (fun ρ => ((aCons (e2 subD (e2 addD (e2 mulI (eV 4) (eV 6)) (e2 modD (eV 3) (eC (.int 3)))) (eC (.int 1))) (aCons (e2 mulI (eV 5) (eV 6)) aNil)) ρ).bind fun ds => m_law_lowest (ds ++ []))))) (sApp 1 (fun ρ => ((aCons (eV 3) aNil) ρ).bind fun ds => m_law_fraction (ds ++ []))))
def m_law_some : List D → Option D := mOf ["_law_cells", "_law_some_here", "_law_k", "_law_cell", "_law_top", "_law_bottom", "_law_many"]
    (sSeq (sSet 1 (fun ρ => (aNil ρ).bind fun ds => some (.lst ds)))
    (sSeq (sFor (fun ρ => ((aCons (eV 0) aNil) ρ).bind fun ds => match ds with | [.lst xs] => some (enumD 0 xs) | _ => none) (gT (gsCons (gV 2) (gsCons (gV 3) gsNil))) b_law_some_1)
    (sRet (eV 1))))
theorem ok_law_some (T : Txt K mg a) : FnOk P w K mg base CX0 4 a.f_law_some a.d_law_some ["_law_cells"] (LSp K ct [0] 1 m_law_some) := by
  have G_law_lowest := ok_law_lowest (P := P) (w := w) (base := base) (ct := ct) T
  have G_law_fraction := ok_law_fraction (P := P) (w := w) (base := base) (ct := ct) T
  refine lift (ms := [.ow 0, .ow 1, .ow 0, .ow 0, .ow 0, .ow 0, .ow 0]) T.law_some.fn sc_law_some rfl rfl (by decide) (modes_of (by decide)) fun cdv A outer s H E hr => ?_
  exact (xss_cons (xs_set rfl sc_law_some.nd rfl (Or.inl rfl) (xo_lst xao_nil))
    (xss_cons (xs_for (xi_enum T.b_enumerate (xa_cons (xe_var 0 0) xa_nil)) (xg_tup (n := 1) rfl (xgs_cons (xg_name rfl sc_law_some.nd rfl (Or.inl rfl)) (xgs_cons (xg_name rfl sc_law_some.nd rfl (Or.inl rfl)) xgs_nil))) (xss_one (xs_if (xt_cmp (k := 0) (op_eqD hr.u64) op2_eq (xe_op (k := 0) op_modN op2_mod (xe_var 2 0) (xe_int (n := 0))) (xe_int (n := 0)) (nomark _)) (xss_cons (xs_asg (xe_ix (n := 1) ix_seq op2_ix (xe_var 1 1) (xe_neg (k := 0) (xe_int (n := 0))) (fun _ _ => rfl)) (xg_tup (n := 0) rfl (xgs_cons (xg_name rfl sc_law_some.nd rfl (Or.inl rfl)) (xgs_cons (xg_name rfl sc_law_some.nd rfl (Or.inl rfl)) xgs_nil))))
    (xss_cons (xs_set rfl sc_law_some.nd rfl (Or.inl rfl) (XE.ow (XO.sh (n := 0) (xo_op op_addA (op2_add (n := 0) (m := 0) (by decide) (by decide)) (xe_int (n := 0)) (xe_op (k := 0) op_modN op2_mod (xe_op (k := 0) op_fdivS op2_fdiv (xe_var 3 0) (xe_int (n := 0))) (xe_int (n := 0)))))))
    (xss_one (xs_append 1 rfl (xo_call (dds := []) (ns := [0, 0]) (nd := []) G_law_lowest (hr.mono (by decide)) rfl T.law_lowest.mgx T.law_lowest.fn.kp T.law_lowest.bd .nil (fun _ _ => .nil) (xa_cons (xe_op (k := 0) op_sub op2_sub (XO.sh (n := 0) (xo_op op_addA (op2_add (n := 0) (m := 0) (by decide) (by decide)) (xe_op (k := 0) op_mulS op2_mulI (xe_var 4 0) (xe_var 6 0)) (xe_op (k := 0) op_modN op2_mod (xe_var 3 0) (xe_int (n := 0))))) (xe_int (n := 0))) (xa_cons (xe_op (k := 0) op_mulS op2_mulI (xe_var 5 0) (xe_var 6 0)) xa_nil))))))) (xss_one (xs_append 1 rfl (xo_call (dds := []) (ns := [0]) (nd := []) G_law_fraction (hr.mono (by decide)) rfl T.law_fraction.mgx T.law_fraction.fn.kp T.law_fraction.bd .nil (fun _ _ => .nil) (xa_cons (xe_var 3 0) xa_nil)))))) PassesOwn.never rfl)
    (xss_one (xs_retV (i := 1) rfl))))
def b_law_1 : SF := (sIf (bAnd (tb (fun ρ => ((aCons (e2 ixD (eV 1) (e2 subD (eV 2) (eC (.int 2)))) (aCons (e2 ixD (eV 1) (e2 subD (eV 2) (eC (.int 1)))) aNil)) ρ).bind fun ds => m_under (ds ++ []))) (tb (fun ρ => ((aCons (e2 ixD (eV 1) (e2 subD (eV 2) (eC (.int 1)))) (aCons (e2 ixD (eV 1) (eV 2)) aNil)) ρ).bind fun ds => m_under (ds ++ [])))) (sIf (bNot (tb (fun ρ => ((aCons (e2 ixD (eV 1) (e2 subD (eV 2) (eC (.int 2)))) (aCons (e2 ixD (eV 1) (eV 2)) aNil)) ρ).bind fun ds => m_under (ds ++ [])))) (sRet (eC (.bl false))) sSkip) sSkip)
def b_law_2 : SF := (sSeq (sSet 5 (fun ρ => ((aCons (eV 3) (aCons (eV 4) aNil)) ρ).bind fun ds => m_under (ds ++ [])))
    (sSeq (sIf (bAnd (tb (e2 (isD true) (eV 5) (eC (.bl true)))) (tb (e2 (isD true) (eV 5) (eC (.bl false))))) (sRet (eC (.bl false))) sSkip)
    (sSeq (sIf (bOr (tb (e2 (eqD true) (eV 5) (e2 ltD (e2 mulI (e2 ixD (eV 3) (eC (.int 0))) (e2 ixD (eV 4) (eC (.int 1)))) (e2 mulI (e2 ixD (eV 4) (eC (.int 0))) (e2 ixD (eV 3) (eC (.int 1))))))) (tb (e2 (eqD true) (fun ρ => ((aCons (eV 3) (aCons (eV 4) aNil)) ρ).bind fun ds => m_under (ds ++ [])) (eV 5)))) (sRet (eC (.bl false))) sSkip)
    (sIf (bOr (bAnd (tb (e2 (eqD true) (eV 3) (eV 4))) (tb (e2 (eqD false) (eV 5) (fun ρ => ((aCons (eV 4) (aCons (eV 3) aNil)) ρ).bind fun ds => m_under (ds ++ []))))) (bAnd (tb (e2 (eqD false) (eV 3) (eV 4))) (tb (eV 5)))) (sRet (eC (.bl false))) sSkip))))
def b_law_3 : SF := (sFor (lsD (fun ρ => ((aCons (fun ρ => ((aCons (e2 ixD (eV 1) (e2 subD (eV 2) (eC (.int 1)))) (aCons (e2 ixD (eV 1) (eV 2)) aNil)) ρ).bind fun ds => some (.tup ds)) (aCons (fun ρ => ((aCons (e2 ixD (eV 1) (eV 2)) (aCons (e2 ixD (eV 1) (e2 subD (eV 2) (eC (.int 1)))) aNil)) ρ).bind fun ds => some (.tup ds)) (aCons (fun ρ => ((aCons (e2 ixD (eV 1) (eV 2)) (aCons (e2 ixD (eV 1) (e2 fdivD (eV 2) (eC (.int 2)))) aNil)) ρ).bind fun ds => some (.tup ds)) aNil))) ρ).bind fun ds => some (.lst ds))) (gT (gsCons (gV 3) (gsCons (gV 4) gsNil))) b_law_2)
def m_law : List D → Option D := mOf ["_law_script", "_law_some_here", "_law_k", "_law_one", "_law_other", "_law_found"]
    (sSeq (sSet 1 (fun ρ => ((aCons (fun ρ => ((eV 0) ρ).bind fun d => (pNo ρ).bind fun l => ((pInt (eC (.int 30))) ρ).bind fun h => sliceD d l h) aNil) ρ).bind fun ds => m_law_some (ds ++ [])))
    (sSeq (sFor (fun ρ => ((aCons (eN lenD (aCons (eV 1) aNil)) aNil) ρ).bind rng1) (gV 2) b_law_3)
    (sSeq (sFor (fun ρ => ((aCons (eC (.int 2)) (aCons (eN lenD (aCons (eV 1) aNil)) aNil)) ρ).bind rng2) (gV 2) b_law_1)
    (sRet (eC (.bl true))))))
theorem ok_law (T : Txt K mg a) : FnOk P w K mg base CX0 5 a.f_law a.d_law ["_law_script"] (LSp K ct [0] 0 m_law) := by
  have G_law_some := ok_law_some (P := P) (w := w) (base := base) (ct := ct) T
  have G_under := ok_under (P := P) (w := w) (base := base) (ct := ct) T
  refine lift (ms := [.ow 0, .ow 0, .ow 0, .ow 0, .ow 0, .ow 0]) T.law.fn sc_law rfl rfl (by decide) (modes_of (by decide)) fun cdv A outer s H E hr => ?_
  exact (xss_cons (xs_set rfl sc_law.nd rfl (Or.inl rfl) (XE.ow (XO.sh (n := 0) (xo_call (dds := []) (ns := [0]) (nd := []) G_law_some (hr.mono (by decide)) rfl T.law_some.mgx T.law_some.fn.kp T.law_some.bd .nil (fun _ _ => .nil) (xa_cons (XO.sh (n := 0) (xo_slice (n := 0) (by decide) (xe_var 0 0) xp_no (xp_some (xe_int (n := 0))))) xa_nil)))))
    (xss_cons (xs_for (xi_range1 (n := 0) T.b_range (xa_cons (xe_callB (k := 0) call_lenA opn_len rfl T.b_len bt_len (xa_cons (xe_var 1 0) xa_nil)) xa_nil)) (xg_name rfl sc_law.nd rfl (Or.inl rfl)) (xss_one (xs_for (xi_list (XO.sh (n := 0) (xo_lst (xao_cons (XE.ow (XO.sh (n := 0) (xo_tup (xao_cons (XE.ow (xe_ix (n := 0) ix_seq op2_ix (xe_var 1 0) (xe_op (k := 0) op_sub op2_sub (xe_var 2 0) (xe_int (n := 0))) (fun _ _ => rfl))) (xao_cons (XE.ow (xe_ix (n := 0) ix_seq op2_ix (xe_var 1 0) (xe_var 2 0) (fun _ _ => rfl))) xao_nil))))) (xao_cons (XE.ow (XO.sh (n := 0) (xo_tup (xao_cons (XE.ow (xe_ix (n := 0) ix_seq op2_ix (xe_var 1 0) (xe_var 2 0) (fun _ _ => rfl))) (xao_cons (XE.ow (xe_ix (n := 0) ix_seq op2_ix (xe_var 1 0) (xe_op (k := 0) op_sub op2_sub (xe_var 2 0) (xe_int (n := 0))) (fun _ _ => rfl))) xao_nil))))) (xao_cons (XE.ow (XO.sh (n := 0) (xo_tup (xao_cons (XE.ow (xe_ix (n := 0) ix_seq op2_ix (xe_var 1 0) (xe_var 2 0) (fun _ _ => rfl))) (xao_cons (XE.ow (xe_ix (n := 0) ix_seq op2_ix (xe_var 1 0) (xe_op (k := 0) op_fdivS op2_fdiv (xe_var 2 0) (xe_int (n := 0))) (fun _ _ => rfl))) xao_nil))))) xao_nil)))))) (xg_tup (n := 0) rfl (xgs_cons (xg_name rfl sc_law.nd rfl (Or.inl rfl)) (xgs_cons (xg_name rfl sc_law.nd rfl (Or.inl rfl)) xgs_nil))) (xss_cons (xs_set rfl sc_law.nd rfl (Or.inl rfl) (xo_call (dds := []) (ns := [0, 0]) (nd := []) G_under (hr.mono (by decide)) rfl T.under.mgx T.under.fn.kp T.under.bd .nil (fun _ _ => .nil) (xa_cons (xe_var 3 0) (xa_cons (xe_var 4 0) xa_nil))))
    (xss_cons (xs_if (XW.t (xw_and (xt_cmp (k := 0) op_isNot op2_isNot (xe_var 5 0) (xe_bl (n := 0)) (nomark _)) (xw_and1 (xt_cmp (k := 0) op_isNot op2_isNot (xe_var 5 0) (xe_bl (n := 0)) (nomark _))))) (xss_one (xs_ret (XE.ow (xe_bl (n := 0))))) xss_nil)
    (xss_cons (xs_if (XW.t (xw_or (xt_cmp (k := 0) (op_neD hr.u64) op2_eq (xe_var 5 0) (xe_cmp (k := 0) op_lt op2_lt (xe_op (k := 0) op_mulS op2_mulI (xe_ix (n := 0) ix_seq op2_ix (xe_var 3 0) (xe_int (n := 0)) (fun _ _ => rfl)) (xe_ix (n := 0) ix_seq op2_ix (xe_var 4 0) (xe_int (n := 0)) (fun _ _ => rfl))) (xe_op (k := 0) op_mulS op2_mulI (xe_ix (n := 0) ix_seq op2_ix (xe_var 4 0) (xe_int (n := 0)) (fun _ _ => rfl)) (xe_ix (n := 0) ix_seq op2_ix (xe_var 3 0) (xe_int (n := 0)) (fun _ _ => rfl))) (nomark _)) (nomark _)) (xw_or1 (xt_cmp (k := 0) (op_neD hr.u64) op2_eq (XO.sh (n := 0) (xo_call (dds := []) (ns := [0, 0]) (nd := []) G_under (hr.mono (by decide)) rfl T.under.mgx T.under.fn.kp T.under.bd .nil (fun _ _ => .nil) (xa_cons (xe_var 3 0) (xa_cons (xe_var 4 0) xa_nil)))) (xe_var 5 0) (nomark _))))) (xss_one (xs_ret (XE.ow (xe_bl (n := 0))))) xss_nil)
    (xss_one (xs_if (XW.t (xw_or (XW.t (xw_and (xt_cmp (k := 0) (op_neD hr.u64) op2_eq (xe_var 3 0) (xe_var 4 0) (nomark _)) (xw_and1 (xt_cmp (k := 0) (op_eqD hr.u64) op2_eq (xe_var 5 0) (XO.sh (n := 0) (xo_call (dds := []) (ns := [0, 0]) (nd := []) G_under (hr.mono (by decide)) rfl T.under.mgx T.under.fn.kp T.under.bd .nil (fun _ _ => .nil) (xa_cons (xe_var 4 0) (xa_cons (xe_var 3 0) xa_nil)))) (nomark _))))) (xw_or1 (XW.t (xw_and (xt_cmp (k := 0) (op_eqD hr.u64) op2_eq (xe_var 3 0) (xe_var 4 0) (nomark _)) (xw_and1 (xt_val (xe_var 5 0)))))))) (xss_one (xs_ret (XE.ow (xe_bl (n := 0))))) xss_nil))))) PassesOwn.never rfl)) PassesOwn.never rfl)
    (xss_cons (xs_for (xi_range2 (n := 0) T.b_range (xa_cons (xe_int (n := 0)) (xa_cons (xe_callB (k := 0) call_lenA opn_len rfl T.b_len bt_len (xa_cons (xe_var 1 0) xa_nil)) xa_nil))) (xg_name rfl sc_law.nd rfl (Or.inl rfl)) (xss_one (xs_if (XW.t (xw_and (xt_val (XO.sh (n := 0) (xo_call (dds := []) (ns := [0, 0]) (nd := []) G_under (hr.mono (by decide)) rfl T.under.mgx T.under.fn.kp T.under.bd .nil (fun _ _ => .nil) (xa_cons (xe_ix (n := 0) ix_seq op2_ix (xe_var 1 0) (xe_op (k := 0) op_sub op2_sub (xe_var 2 0) (xe_int (n := 0))) (fun _ _ => rfl)) (xa_cons (xe_ix (n := 0) ix_seq op2_ix (xe_var 1 0) (xe_op (k := 0) op_sub op2_sub (xe_var 2 0) (xe_int (n := 0))) (fun _ _ => rfl)) xa_nil))))) (xw_and1 (xt_val (XO.sh (n := 0) (xo_call (dds := []) (ns := [0, 0]) (nd := []) G_under (hr.mono (by decide)) rfl T.under.mgx T.under.fn.kp T.under.bd .nil (fun _ _ => .nil) (xa_cons (xe_ix (n := 0) ix_seq op2_ix (xe_var 1 0) (xe_op (k := 0) op_sub op2_sub (xe_var 2 0) (xe_int (n := 0))) (fun _ _ => rfl)) (xa_cons (xe_ix (n := 0) ix_seq op2_ix (xe_var 1 0) (xe_var 2 0) (fun _ _ => rfl)) xa_nil)))))))) (xss_one (xs_if (xt_not (xt_val (XO.sh (n := 0) (xo_call (dds := []) (ns := [0, 0]) (nd := []) G_under (hr.mono (by decide)) rfl T.under.mgx T.under.fn.kp T.under.bd .nil (fun _ _ => .nil) (xa_cons (xe_ix (n := 0) ix_seq op2_ix (xe_var 1 0) (xe_op (k := 0) op_sub op2_sub (xe_var 2 0) (xe_int (n := 0))) (fun _ _ => rfl)) (xa_cons (xe_ix (n := 0) ix_seq op2_ix (xe_var 1 0) (xe_var 2 0) (fun _ _ => rfl)) xa_nil)))))) (xss_one (xs_ret (XE.ow (xe_bl (n := 0))))) xss_nil)) xss_nil)) PassesOwn.never rfl)
    (xss_one (xs_ret (XE.ow (xe_bl (n := 0))))))))
end
local macro_rules | `(tactic| walk_at "mir") => `(tactic| simp -implicitDefEqProofs [mOf, startD, sSeq, sIf, sSet, sRet, sRetN, sDrop, sPar, sAsg, sApp, sFor, lsD, asL_lst, sSkip, eV, eC, e1, e2, eN, aNil, aCons, pNo, pInt, sliceD_lst, tb, asB_bl, bNot, bAnd, bOr, eB, eIf, gV, gT, gsCons, gsNil, addD_int, subD_int, ltD_int, leD_int, gtD_int, geD_int, lenD_lst, lenD_tup, negD_int, absD_int, isD_non, isD_bl, D.isN, D.isB, eqD_int, eqD_bl, fdivD_lit, modD_pos, mulI_l, mulI_r, powD_lit, shlD_lit, shrD_lit, max2D_int, min2D_int, *])
def fr (q : Int × Int) : D := .tup [.int q.1, .int q.2]
theorem fr0 (q : Int × Int) : ixD (fr q) (.int 0) = some (.int q.1) := rfl
theorem fr1 (q : Int × Int) : ixD (fr q) (.int 1) = some (.int q.2) := rfl
def Fz (n : Nat) (q : Int × Int) : Prop := Sz n q.1 ∧ Sz n q.2
theorem Fz.mono {n m : Nat} {q : Int × Int} (h : Fz n q) (hm : n ≤ m) : Fz m q := ⟨h.1.mono hm, h.2.mono hm⟩
theorem eqF {neg : Bool} (p q : Int × Int) : eqD neg (fr p) (fr q) = some (.bl (if neg then !decide (p = q) else decide (p = q))) := (E2 Ei Ei).eq (by decide) p q
theorem t_under {p q : Int × Int} (h1 : Fz 9000 p) (h2 : Fz 9000 q) : m_under [fr p, fr q] = some (.bl (Fq.under p q)) := by
  have e1 := mulI_sz h1.1 h2.2 (by decide) (by decide)
  have e2 := mulI_sz h2.1 h1.2 (by decide) (by decide)
  unfold m_under
  have f0 := fr0
  have f1 := fr1
  walk_at "mir"
  rfl
theorem t_shared {x y : Int} (hy : Sz 8000 y) : m_law_shared [.int x, .int y] = some (.int ((Int.gcd x y : Nat) : Int)) := by
  obtain ⟨s', h1, h2, h3, _⟩ := whileD_fold (c := tb (e2 (eqD true) (eV 1) (eC (D.int 0)))) (b := b_law_shared_1) (fun s : Int × Int => [some (.int s.1), some (.int s.2)]) (fun s => !decide (s.2 = 0)) (fun s => (s.2, s.1.fmod s.2)) (fun s => s.2.natAbs) (fun s => Int.gcd s.1 s.2 = Int.gcd x y)
    (fun s hp => by walk_at "mir") (fun s hp ht => by
      have hs : s.2 ≠ 0 := by simpa using ht
      refine ⟨.inl ?_, (Fq.gcd_step s.1 s.2).trans hp, Fq.fmod_less s.1 hs⟩
      unfold b_law_shared_1
      have := modD_ne (i := s.1) hs
      walk_at "mir") FUEL (x, y) rfl (fuel_sz hy (by decide))
  have h3 : s'.2 = 0 := by simpa using h3
  have h4 := Fq.gcd_end s'.1
  rw [h3] at h2
  rw [h2] at h4
  unfold m_law_shared sWhile
  walk_at "mir"
theorem t_lowest {t b : Int} (hb : 0 < b) (hz : Sz 8000 b) : m_law_lowest [.int t, .int b] = some (fr (Fq.mk t b)) := by
  have e := t_shared (x := t) hz
  have hg : ((Int.gcd t b : Nat) : Int) ≠ 0 := by
    have := Fq.gcd_pos (t := t) (b := b) (by omega)
    omega
  have hd : Fq.dv t b = ((Int.gcd t b : Nat) : Int) := by unfold Fq.dv; rw [if_neg (by omega)]
  have hz2 : Sz 9000 ((Int.gcd t b : Nat) : Int) := by
    rw [← hd]
    exact (hz.le (by have := Fq.dv_le (t := t) (b := b) (by omega); exact this)).mono (by decide)
  have e1 := fdivD_ne (i := t) hg hz2
  have e2 := fdivD_ne (i := b) hg hz2
  unfold m_law_lowest fr Fq.mk
  rw [hd]
  walk_at "mir"
theorem mk_fz {n : Nat} {t b : Int} (hb : 0 < b) (ht : Sz n t) (hz : Sz n b) : Fz n (Fq.mk t b) := ⟨ht.le (Fq.mk_le_one (by omega)), hz.le (Fq.mk_le_two (by omega))⟩
theorem sz_of {n : Nat} {i w : Int} (h1 : -w ≤ i) (h2 : i ≤ w) (hw : w < 2 ^ n) : Sz n i := by
  unfold Sz
  have : (i.natAbs : Int) < 2 ^ n := by omega
  exact_mod_cast this
/-- the fraction of a top and a bottom drawn below w -/
theorem t_draw {w x y : Int} (hw : 13 ≤ w) (hw2 : w ≤ 100000000000000000000000000000000000000000000000000000000) : ∃ q, m_law_lowest [.int (x % (2 * w + 1) - w), .int (1 + y % w)] = some (fr q) ∧ Fq.Low q ∧ Fz 200 q := by
  have h1 := Int.emod_nonneg x (by omega : 2 * w + 1 ≠ 0)
  have h2 := Int.emod_lt_of_pos x (by omega : 0 < 2 * w + 1)
  have h3 := Int.emod_nonneg y (by omega : w ≠ 0)
  have h4 := Int.emod_lt_of_pos y (by omega : 0 < w)
  have hp : (100000000000000000000000000000000000000000000000000000000 : Int) < 2 ^ 200 := by decide
  have s1 : Sz 200 (x % (2 * w + 1) - w) := sz_of (w := w) (by omega) (by omega) (by omega)
  have s2 : Sz 200 (1 + y % w) := sz_of (w := w) (by omega) (by omega) (by omega)
  exact ⟨_, t_lowest (by omega) (s2.mono (by decide)), Fq.mk_low (by omega), mk_fz (by omega) s1 s2⟩
theorem t_fraction (c : Int) : ∃ q, m_law_fraction [.int c] = some (fr q) ∧ Fq.Low q ∧ Fz 200 q := by
  have pick : ∃ w : Int, 13 ≤ w ∧ w ≤ 100000000000000000000000000000000000000000000000000000000 ∧ ixD (.lst [.int 13, .int 1000003, .int (10 ^ 56)]) (.int (c % 3)) = some (.int w) := by
    have h : c % 3 = 0 ∨ c % 3 = 1 ∨ c % 3 = 2 := by omega
    rcases h with h | h | h <;> rw [h]
    · exact ⟨13, by decide, by decide, rfl⟩
    · exact ⟨1000003, by decide, by decide, rfl⟩
    · exact ⟨10 ^ 56, by decide, by decide, rfl⟩
  obtain ⟨w, hw, hw2, hp⟩ := pick
  have dw : ∀ z : Int, fdivD (.int z) (.int (2 * w + 1)) = some (.int (z / (2 * w + 1))) := fun z => by
    rw [fdivD_ne (by omega) ((sz_of (w := 2 * w + 1) (n := 200) (by omega) (by omega) ?_).mono (by decide)), Int.fdiv_eq_ediv_of_nonneg z (by omega)]
    have hp : (1000000000000000000000000000000000000000000000000000000000 : Int) < 2 ^ 200 := by decide
    omega
  have p1 : 0 < w := by omega
  have p2 : 0 < 2 * w + 1 := by omega
  have hp' : ixD (.lst [.int 13, .int 1000003, .int 100000000000000000000000000000000000000000000000000000000]) (.int (c % 3)) = some (.int w) := hp
  unfold m_law_fraction
  by_cases hc : (1237940039285380274899124224 : Int) ≤ c
  · obtain ⟨q, h1, h2⟩ := t_draw (x := c / 3) (y := c / 3 / (2 * w + 1)) hw hw2
    refine ⟨q, ?_, h2⟩
    walk_at "mir"
  · obtain ⟨q, h1, h2⟩ := t_draw (x := c / 3 * 16807) (y := c / 5 * 48271) hw hw2
    refine ⟨q, ?_, h2⟩
    walk_at "mir"
theorem t_some (cs : List Int) (hl : cs.length ≤ 60) : ∃ qs : List (Int × Int), m_law_some [.lst (cs.map .int)] = some (.lst (qs.map fr)) ∧ qs.length = cs.length ∧ ∀ q ∈ qs, Fq.Low q ∧ Fz 1000 q := by
  obtain ⟨ρ', h1, qs, x2, x3, x4, x5, x6, rfl, h3, h4⟩ := forD_inv (g := gT (gsCons (gV 2) (gsCons (gV 3) gsNil))) (b := b_law_some_1) (ds := enumD 0 (cs.map .int)) (ρ := [some (.lst (cs.map .int)), some (.lst []), none, none, none, none, none])
    (fun pre ρ => ∃ (qs : List (Int × Int)) (x2 x3 x4 x5 x6 : Option D), ρ = [some (.lst (cs.map .int)), some (.lst (qs.map fr)), x2, x3, x4, x5, x6] ∧ qs.length = pre.length ∧ ∀ q ∈ qs, Fq.Low q ∧ Fz (200 + 12 * qs.length) q)
    ⟨[], _, _, _, _, _, rfl, rfl, fun q z => by cases z⟩ (by
  · rintro pre d post ρ e ⟨qs, x2, x3, x4, x5, x6, rfl, hq, hall⟩
    have hlen : pre.length < cs.length := by
      have := congrArg List.length e
      rw [enumD_len, List.length_map, List.length_append, List.length_cons] at this
      omega
    obtain ⟨x, hx, rfl⟩ := enumD_get (at_mid e)
    rw [List.getElem?_map] at hx
    obtain ⟨c, hc, rfl⟩ := Option.map_eq_some_iff.mp hx
    have hz : qs.length < 16777216 := by omega
    have app : ∀ q, Fq.Low q → Fz (200 + 12 * (qs.length + 1)) q → ∀ r ∈ qs ++ [q], Fq.Low r ∧ Fz (200 + 12 * (qs ++ [q]).length) r := fun q l z r hr => by
      rw [List.length_append, List.length_singleton]
      rcases List.mem_append.mp hr with hr | hr
      · exact ⟨(hall r hr).1, (hall r hr).2.mono (by omega)⟩
      · rw [List.mem_singleton] at hr; subst hr; exact ⟨l, z⟩
    by_cases h3 : ((pre.length : Nat) : Int) % 3 = 2
    · -- made of the one ahead
      have hne : qs ≠ [] := fun z => by rw [z] at hq; simp at hq; rw [← hq] at h3; simp at h3
      obtain ⟨qi, ql, rfl⟩ : ∃ qi ql, qs = qi ++ [ql] := ⟨qs.dropLast, qs.getLast hne, (List.dropLast_concat_getLast hne).symm⟩
      have hql := hall ql (by simp)
      have last : atI (qi.map fr ++ [fr ql]) (-1) = some (fr ql) := atI_last _ _
      have hm0 := Int.emod_nonneg (c / 3) (by decide : (999 : Int) ≠ 0)
      have hm1 := Int.emod_lt_of_pos (c / 3) (by decide : (0 : Int) < 999)
      have hr0 := Int.emod_nonneg c (by decide : (3 : Int) ≠ 0)
      have hr1 := Int.emod_lt_of_pos c (by decide : (0 : Int) < 3)
      have hpos := hql.1.gt
      have sm : Sz 10 (1 + c / 3 % 999) := sz_of (w := 1000) (by omega) (by omega) (by decide)
      have st : Sz (200 + 12 * ((qi ++ [ql]).length + 1)) (ql.1 * (1 + c / 3 % 999) + c % 3 - 1) := by
        have a1 := hql.2.1.mul sm
        have a2 : Sz (200 + 12 * (qi ++ [ql]).length + 10) (c % 3 - 1) := (sz_of (n := 10) (w := 2) (by omega) (by omega) (by decide)).mono (by omega)
        have a3 := a1.add a2
        rw [show ql.1 * (1 + c / 3 % 999) + c % 3 - 1 = ql.1 * (1 + c / 3 % 999) + (c % 3 - 1) by omega]
        exact a3.mono (by omega)
      have sb : Sz (200 + 12 * ((qi ++ [ql]).length + 1)) (ql.2 * (1 + c / 3 % 999)) := (hql.2.2.mul sm).mono (by omega)
      have bp : 0 < ql.2 * (1 + c / 3 % 999) := Int.mul_pos hpos (by omega)
      have hlq : (qi ++ [ql]).length ≤ 60 := by omega
      have low := t_lowest (t := ql.1 * (1 + c / 3 % 999) + c % 3 - 1) bp (sb.mono (by omega))
      have m1 : mulI (.int ql.1) (.int (1 + c / 3 % 999)) = some (.int (ql.1 * (1 + c / 3 % 999))) := mulI_r (by omega) (by omega)
      have m2 : mulI (.int ql.2) (.int (1 + c / 3 % 999)) = some (.int (ql.2 * (1 + c / 3 % 999))) := mulI_r (by omega) (by omega)
      have hz' : qi.length + 1 < 16777216 := by simp at hz; exact hz
      refine ⟨_, _, rfl, .inl ?_, qi ++ [ql] ++ [Fq.mk (ql.1 * (1 + c / 3 % 999) + c % 3 - 1) (ql.2 * (1 + c / 3 % 999))], some (.int pre.length), some (.int c), some (.int ql.1), some (.int ql.2), some (.int (1 + c / 3 % 999)), rfl, ?_, app _ (Fq.mk_low (by omega)) (mk_fz bp st sb)⟩
      · unfold b_law_some_1
        have u : ixD (.lst (qi.map fr ++ [fr ql])) (.int (-1)) = some (.tup [.int ql.1, .int ql.2]) := last
        walk_at "mir"
      · simp only [List.length_append, List.length_singleton] at hq ⊢; omega
    · obtain ⟨q, hf, hlow, hfz⟩ := t_fraction c
      refine ⟨_, _, rfl, .inl ?_, qs ++ [q], some (.int pre.length), some (.int c), x4, x5, x6, rfl, by simp [hq], app q hlow (hfz.mono (by omega))⟩
      unfold b_law_some_1
      walk_at "mir"
      omega)
  rw [enumD_len, List.length_map] at h3
  refine ⟨qs, ?_, h3, fun q z => ⟨(h4 q z).1, (h4 q z).2.mono (by omega)⟩⟩
  unfold m_law_some
  walk_at "mir"
/-- one pair -/
theorem t_pair {p q : Int × Int} (lp : Fq.Low p) (lq : Fq.Low q) (zp : Fz 1000 p) (zq : Fz 1000 q) (s S x2 x5 : Option D) : b_law_2 [s, S, x2, some (fr p), some (fr q), x5] = some (.nx [s, S, x2, some (fr p), some (fr q), some (.bl (Fq.under p q))]) := by
  have u1 := t_under (zp.mono (by decide)) (zq.mono (by decide))
  have u2 := t_under (zq.mono (by decide)) (zp.mono (by decide))
  have e1 := mulI_sz zp.1 zq.2 (by decide) (by decide)
  have e2 := mulI_sz zq.1 zp.2 (by decide) (by decide)
  have f0 := fr0
  have f1 := fr1
  have ef := @eqF
  have hb : (decide (p.1 * q.2 < q.1 * p.2)) = Fq.under p q := rfl
  unfold b_law_2
  by_cases h : p = q
  · subst h
    have ir := Fq.under_irrefl p
    walk_at "mir"
  · have tot := Fq.under_total lp lq h
    cases hu : Fq.under q p <;> (rw [hu] at tot; walk_at "mir")
theorem at_of {qs : List (Int × Int)} (hall : ∀ q ∈ qs, Fq.Low q ∧ Fz 1000 q) (i : Int) (j : Nat) (hi : i = (j : Int) ∨ i = (j : Int) - qs.length) (hj : j < qs.length) : ∃ q, ixD (.lst (qs.map fr)) (.int i) = some (fr q) ∧ Fq.Low q ∧ Fz 1000 q := by
  have e : qs[j]? = some qs[j] := by simp [hj]
  obtain ⟨h1, h2⟩ := hall qs[j] (List.getElem_mem hj)
  exact ⟨qs[j], atI_map fr hi e, h1, h2⟩
theorem t_three {p q r : Int × Int} (lp : Fq.Low p) (lq : Fq.Low q) (lr : Fq.Low r) (zp : Fz 1000 p) (zq : Fz 1000 q) (zr : Fz 1000 r) (s S x3 x4 x5 : Option D) (j : Int) (hS : S.isSome) (ep : ixD (S.get hS) (.int j) = some (fr p)) (eq : ixD (S.get hS) (.int (j - 1)) = some (fr q)) (er : ixD (S.get hS) (.int (j / 2)) = some (fr r)) :
    b_law_3 [s, S, some (.int j), x3, x4, x5] = some (.nx [s, S, some (.int j), some (fr p), some (fr r), some (.bl (Fq.under p r))]) := by
  obtain ⟨S, rfl⟩ := Option.isSome_iff_exists.mp hS
  have b1 := t_pair lq lp zq zp s (some S) (some (.int j))
  have b2 := t_pair lp lq zp zq s (some S) (some (.int j))
  have b3 := t_pair lp lr zp zr s (some S) (some (.int j))
  dsimp only [Option.get] at ep eq er
  unfold b_law_3
  walk_at "mir"
  unfold forD
  walk_at "mir"
  unfold forD
  walk_at "mir"
  unfold forD
  walk_at "mir"
  unfold forD
  rfl
theorem t_loop1 (s : Option D) {qs : List (Int × Int)} (hall : ∀ q ∈ qs, Fq.Low q ∧ Fz 1000 q) : ∃ x2 x3 x4 x5, forD (gV 2) b_law_3 (upto 0 qs.length) [s, some (.lst (qs.map fr)), none, none, none, none] = some (.nx [s, some (.lst (qs.map fr)), x2, x3, x4, x5]) := by
  obtain ⟨ρ1, h1, x2, x3, x4, x5, rfl⟩ := forD_range (g := gV 2) (b := b_law_3) (lo := 0) (n := qs.length) (ρ := [s, some (.lst (qs.map fr)), none, none, none, none])
    (fun _ ρ => ∃ x2 x3 x4 x5, ρ = [s, some (.lst (qs.map fr)), x2, x3, x4, x5]) ⟨_, _, _, _, rfl⟩ (by
      rintro j ρ hj ⟨x2, x3, x4, x5, rfl⟩
      obtain ⟨p, ep, lp, zp⟩ := at_of hall (0 + (j : Int)) j (by omega) hj
      obtain ⟨q, eq, lq, zq⟩ : ∃ q, ixD (.lst (qs.map fr)) (.int (0 + (j : Int) - 1)) = some (fr q) ∧ Fq.Low q ∧ Fz 1000 q := by
        by_cases h0 : j = 0
        · subst h0
          exact at_of hall (0 + ((0 : Nat) : Int) - 1) (qs.length - 1) (by omega) (by omega)
        · exact at_of hall (0 + (j : Int) - 1) (j - 1) (by omega) (by omega)
      obtain ⟨r, er, lr, zr⟩ := at_of hall ((0 + (j : Int)) / 2) (j / 2) (by omega) (by omega)
      exact ⟨_, _, rfl, .inl (t_three lp lq lr zp zq zr s (some (.lst (qs.map fr))) x3 x4 x5 _ rfl ep eq er), _, _, _, _, rfl⟩)
  exact ⟨x2, x3, x4, x5, h1⟩
theorem t_loop2 (s x2 x3 x4 x5 : Option D) {qs : List (Int × Int)} (hall : ∀ q ∈ qs, Fq.Low q ∧ Fz 1000 q) : ∃ y2 y3 y4 y5, forD (gV 2) b_law_1 (upto 2 (qs.length - 2)) [s, some (.lst (qs.map fr)), x2, x3, x4, x5] = some (.nx [s, some (.lst (qs.map fr)), y2, y3, y4, y5]) := by
  obtain ⟨ρ2, h2, y2, y3, y4, y5, rfl⟩ := forD_range (g := gV 2) (b := b_law_1) (lo := 2) (n := qs.length - 2) (ρ := [s, some (.lst (qs.map fr)), x2, x3, x4, x5])
    (fun _ ρ => ∃ x2 x3 x4 x5, ρ = [s, some (.lst (qs.map fr)), x2, x3, x4, x5]) ⟨_, _, _, _, rfl⟩ (by
      rintro j ρ hj ⟨x2, x3, x4, x5, rfl⟩
      obtain ⟨p, ep, lp, zp⟩ := at_of hall (2 + (j : Int) - 2) j (by omega) (by omega)
      obtain ⟨q, eq, lq, zq⟩ := at_of hall (2 + (j : Int) - 1) (j + 1) (by omega) (by omega)
      obtain ⟨r, er, lr, zr⟩ := at_of hall (2 + (j : Int)) (j + 2) (by omega) (by omega)
      have u1 := t_under (zp.mono (by decide)) (zq.mono (by decide))
      have u2 := t_under (zq.mono (by decide)) (zr.mono (by decide))
      have u3 := t_under (zp.mono (by decide)) (zr.mono (by decide))
      refine ⟨_, _, rfl, .inl ?_, some (.int (2 + (j : Int))), x3, x4, x5, rfl⟩
      unfold b_law_1
      cases c1 : Fq.under p q
      · walk_at "mir"
      · cases c2 : Fq.under q r
        · walk_at "mir"
        · have c3 := Fq.under_trans lp lq lr c1 c2
          walk_at "mir")
  exact ⟨y2, y3, y4, y5, h2⟩
theorem law_true (ns : List Int) (_ : ns.length ≤ 63) : m_law [.lst (ns.map .int)] = some (.bl true) := by
  obtain ⟨qs, hs, hlen, hall⟩ := t_some (ns.take 30) (by rw [List.length_take]; omega)
  have hl30 : qs.length ≤ 30 := by rw [hlen, List.length_take]; omega
  obtain ⟨x2, x3, x4, x5, h1⟩ := t_loop1 (some (.lst (ns.map .int))) hall
  obtain ⟨y2, y3, y4, y5, h2⟩ := t_loop2 (some (.lst (ns.map .int))) x2 x3 x4 x5 hall
  have cut : cutD (ns.map .int) none (some 30) = (ns.map .int).take 30 := cutD_take _ 30
  rw [List.map_take] at hs
  have r1 : rng1 [.int (qs.length : Int)] = some (upto 0 qs.length) := by
    rw [rng1_int (by omega) (by omega)]
    simp
  have r2 : rng2 [.int 2, .int (qs.length : Int)] = some (upto 2 (qs.length - 2)) := by
    rw [rng2_int (by omega) (by omega) (by omega) (by omega)]
    have : ((qs.length : Int) - 2).toNat = qs.length - 2 := by omega
    rw [this]
  clear hlen hall hl30
  unfold m_law
  walk_at "mir"

section
variable {P : Program} {w : World} {K : PySem.W.Frag} {mg : Str → Option Value} {base : Heap} {a : Adr}
theorem ok_top (T : Txt K mg a) : FnOk P w K mg base CX0 5 a.f_law a.d_law ["_law_script"] (spLaw K) := law_ok (ok_law (ct := fun _ => 0) T) law_true
end
theorem all_mk {l : PySem.W.OpenLaw} {w : World} {K : PySem.W.Frag} {h : Heap} {mg : Str → Option Value} {fa f0 f1 f2 f3 f4 f5 : Addr} (X : K.In h) (G : h.Ns mainGlobals mg) (hfa : mg "law" = some (.ref fa))
    {od0 an0 od1 an1 od2 an2 od3 an3 od4 an4 od5 an5 : Option Addr} {sl0 sl1 sl2 sl3 sl4 sl5 : Array (Option Value)} {oc0 kV0 dc0 pm0 cd0 ct0 oc1 kV1 dc1 pm1 cd1 ct1 oc2 kV2 dc2 pm2 cd2 ct2 oc3 kV3 dc3 pm3 cd3 ct3 oc4 kV4 dc4 pm4 cd4 ct4 oc5 kV5 dc5 pm5 cd5 ct5 : Value}
    (a0 : PySem.W.nsIn K mainGlobals "under" = some (some (.ref f0))) (l0 : K.lookup f0 = some ⟨oc0, od0, .func (PySem.W.fnOf "under" "under" (defArgs s_under) (defBody s_under) (defScope s_under) .none kV0 dc0 pm0 an0 cd0 ct0), sl0⟩) (c0 : PySem.W.codeIn K cd0 "under" = true) (k0 : PySem.W.keepIn K (.ref f0) = true)
    (a1 : PySem.W.nsIn K mainGlobals "_law_shared" = some (some (.ref f1))) (l1 : K.lookup f1 = some ⟨oc1, od1, .func (PySem.W.fnOf "_law_shared" "_law_shared" (defArgs s_law_shared) (defBody s_law_shared) (defScope s_law_shared) .none kV1 dc1 pm1 an1 cd1 ct1), sl1⟩) (c1 : PySem.W.codeIn K cd1 "_law_shared" = true) (k1 : PySem.W.keepIn K (.ref f1) = true)
    (a2 : PySem.W.nsIn K mainGlobals "_law_lowest" = some (some (.ref f2))) (l2 : K.lookup f2 = some ⟨oc2, od2, .func (PySem.W.fnOf "_law_lowest" "_law_lowest" (defArgs s_law_lowest) (defBody s_law_lowest) (defScope s_law_lowest) .none kV2 dc2 pm2 an2 cd2 ct2), sl2⟩) (c2 : PySem.W.codeIn K cd2 "_law_lowest" = true) (k2 : PySem.W.keepIn K (.ref f2) = true)
    (a3 : PySem.W.nsIn K mainGlobals "_law_fraction" = some (some (.ref f3))) (l3 : K.lookup f3 = some ⟨oc3, od3, .func (PySem.W.fnOf "_law_fraction" "_law_fraction" (defArgs s_law_fraction) (defBody s_law_fraction) (defScope s_law_fraction) .none kV3 dc3 pm3 an3 cd3 ct3), sl3⟩) (c3 : PySem.W.codeIn K cd3 "_law_fraction" = true) (k3 : PySem.W.keepIn K (.ref f3) = true)
    (a4 : PySem.W.nsIn K mainGlobals "_law_some" = some (some (.ref f4))) (l4 : K.lookup f4 = some ⟨oc4, od4, .func (PySem.W.fnOf "_law_some" "_law_some" (defArgs s_law_some) (defBody s_law_some) (defScope s_law_some) .none kV4 dc4 pm4 an4 cd4 ct4), sl4⟩) (c4 : PySem.W.codeIn K cd4 "_law_some" = true) (k4 : PySem.W.keepIn K (.ref f4) = true)
    (a5 : PySem.W.nsIn K mainGlobals "law" = some (some (.ref f5))) (l5 : K.lookup f5 = some ⟨oc5, od5, .func (PySem.W.fnOf "law" "law" (defArgs s_law) (defBody s_law) (defScope s_law) .none kV5 dc5 pm5 an5 cd5 ct5), sl5⟩) (c5 : PySem.W.codeIn K cd5 "law" = true) (k5 : PySem.W.keepIn K (.ref f5) = true)
    (z0 : PySem.W.nsIn K mainGlobals "abs" = some none)
    (z1 : PySem.W.nsIn K mainGlobals "enumerate" = some none)
    (z2 : PySem.W.nsIn K mainGlobals "len" = some none)
    (z3 : PySem.W.nsIn K mainGlobals "range" = some none) :
    ∃ fd : FuncData, (∀ (s : Shared) (v : Value), BindsTo s fd ⟨[v], []⟩ [("_law_script", v)]) ∧ ∀ base : Heap, K.In base → base.Ns mainGlobals mg → FnOk l.prog w K mg base CX0 5 fa fd ["_law_script"] (spLaw K) := by
  have e := hfa.symm.trans (PySem.W.mg_of X G a5)
  cases e
  have F0 := fun_mk (st := s_under) l0 c0 k0
  have b0 := F0.binds (ps := ["one", "other"]) fun _ _ _ _ _ _ us hl => match us, hl with | [_, _], _ => rfl
  have F1 := fun_mk (st := s_law_shared) l1 c1 k1
  have b1 := F1.binds (ps := ["_law_one", "_law_other"]) fun _ _ _ _ _ _ us hl => match us, hl with | [_, _], _ => rfl
  have F2 := fun_mk (st := s_law_lowest) l2 c2 k2
  have b2 := F2.binds (ps := ["_law_top", "_law_bottom"]) fun _ _ _ _ _ _ us hl => match us, hl with | [_, _], _ => rfl
  have F3 := fun_mk (st := s_law_fraction) l3 c3 k3
  have b3 := F3.binds (ps := ["_law_cell"]) fun _ _ _ _ _ _ us hl => match us, hl with | [_], _ => rfl
  have F4 := fun_mk (st := s_law_some) l4 c4 k4
  have b4 := F4.binds (ps := ["_law_cells"]) fun _ _ _ _ _ _ us hl => match us, hl with | [_], _ => rfl
  have F5 := fun_mk (st := s_law) l5 c5 k5
  have b5 := F5.binds (ps := ["_law_script"]) fun _ _ _ _ _ _ us hl => match us, hl with | [_], _ => rfl
  have T : Txt K mg ⟨f0, PySem.W.fnOf "under" "under" (defArgs s_under) (defBody s_under) (defScope s_under) .none kV0 dc0 pm0 an0 cd0 ct0, f1, PySem.W.fnOf "_law_shared" "_law_shared" (defArgs s_law_shared) (defBody s_law_shared) (defScope s_law_shared) .none kV1 dc1 pm1 an1 cd1 ct1, f2, PySem.W.fnOf "_law_lowest" "_law_lowest" (defArgs s_law_lowest) (defBody s_law_lowest) (defScope s_law_lowest) .none kV2 dc2 pm2 an2 cd2 ct2, f3, PySem.W.fnOf "_law_fraction" "_law_fraction" (defArgs s_law_fraction) (defBody s_law_fraction) (defScope s_law_fraction) .none kV3 dc3 pm3 an3 cd3 ct3, f4, PySem.W.fnOf "_law_some" "_law_some" (defArgs s_law_some) (defBody s_law_some) (defScope s_law_some) .none kV4 dc4 pm4 an4 cd4 ct4, fa, PySem.W.fnOf "law" "law" (defArgs s_law) (defBody s_law) (defScope s_law) .none kV5 dc5 pm5 an5 cd5 ct5⟩ := ⟨⟨F0, PySem.W.mg_of X G a0, b0⟩, ⟨F1, PySem.W.mg_of X G a1, b1⟩, ⟨F2, PySem.W.mg_of X G a2, b2⟩, ⟨F3, PySem.W.mg_of X G a3, b3⟩, ⟨F4, PySem.W.mg_of X G a4, b4⟩, ⟨F5, PySem.W.mg_of X G a5, b5⟩, PySem.W.mg_none_of X G z0, PySem.W.mg_none_of X G z1, PySem.W.mg_none_of X G z2, PySem.W.mg_none_of X G z3⟩
  exact ⟨PySem.W.fnOf "law" "law" (defArgs s_law) (defBody s_law) (defScope s_law) .none kV5 dc5 pm5 an5 cd5 ct5, fun s v => .of_eq rfl, fun base _ _ => ok_top T⟩
theorem walk {l : PySem.W.OpenLaw} {q : Program} {loose : List Str} {XP : (Str → Option Value) → Heap → Prop} {YP : World → Heap → Prop} {d : DefRec} {K : Params → PySem.W.Frag} (hn : l.most = some 63) (hdf : d.params.defaults = [])
    (hY : ∀ (w : World) (h : Heap), YP w h → (K w.params).In h)
    (F : ∀ (w : World) (mg : Str → Option Value) (fa : Addr) (h : Heap), (K w.params).In h → h.Ns mainGlobals mg → mg d.name = some (.ref fa) →
      ∃ fd : FuncData, (∀ (s : Shared) (u : Value), BindsTo s fd ⟨[u], []⟩ [("_law_script", u)]) ∧ ∀ base : Heap, (K w.params).In base → base.Ns mainGlobals mg → FnOk l.prog w (K w.params) mg base CX0 5 fa fd ["_law_script"] (spLaw (K w.params))) :
    PySem.W.WalkO q loose XP YP l.row.toRowW d [] (fun f vs => PySem.call f vs) :=
  L2.walk_of (n := 63) (k := 5) (x := "_law_script") (CX := fun _ => CX0) (sp := fun w => spLaw (K w.params)) hn (by decide) hdf ⟨rfl, by decide, by decide⟩ hY F (fun _ _ a ns hl _ hS => ⟨a, ns, rfl, hS, hl, fun _ => rfl⟩) fun _ _ _ _ _ z => z
end My
open PySem PySem.W PyProof.Rows
set_option maxRecDepth 100000 in
set_option maxHeartbeats 0 in
theorem PySem.Challenge.cw_ringbeat_k03_fractions_in_order_holds : PySem.Challenge.rw_ringbeat_k03_fractions_in_order.Holds := by
  w_on; o_law; k_head; (case hw => w_witness2)
  k_fill
  refine My.walk (l := PySem.Challenge.rw_ringbeat_k03_fractions_in_order) rfl rfl (fun w h Y => PySem.W.kIn_of Y) ?F
  case F =>
    intro w mg fa h KX G hmg
    refine' My.all_mk KX G hmg ?a0 ?l0 ?c0 ?k0 ?a1 ?l1 ?c1 ?k1 ?a2 ?l2 ?c2 ?k2 ?a3 ?l3 ?c3 ?k3 ?a4 ?l4 ?c4 ?k4 ?a5 ?l5 ?c5 ?k5 ?z0 ?z1 ?z2 ?z3
    (case a0 => k_is)
    (case l0 => k_is)
    (case c0 => k_is)
    (case k0 => k_is)
    (case a1 => k_is)
    (case l1 => k_is)
    (case c1 => k_is)
    (case k1 => k_is)
    (case a2 => k_is)
    (case l2 => k_is)
    (case c2 => k_is)
    (case k2 => k_is)
    (case a3 => k_is)
    (case l3 => k_is)
    (case c3 => k_is)
    (case k3 => k_is)
    (case a4 => k_is)
    (case l4 => k_is)
    (case c4 => k_is)
    (case k4 => k_is)
    (case a5 => k_is)
    (case l5 => k_is)
    (case c5 => k_is)
    (case k5 => k_is)
    (case z0 => k_is)
    (case z1 => k_is)
    (case z2 => k_is)
    (case z3 => k_is)
